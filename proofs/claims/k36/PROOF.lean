import PyProof.Rows.All
import Wide.All
import OpenK.AllK
import Wide.FinOn
import Lean
import PyProof.EqAt
import PyProof.EqKinds
import PyProof.TupleCall
import PyProof.TupleKey
import PyProof.DictRoadsH
import Wide.Seal
import PyProof.NeKinds
import PyProof.ZipIter
import PyProof.EnumMake
import PyProof.Rows.TupTab
import KE.KDictLaws
import PyProof.AutoListH
import PyProof.AttrMissHeap
import KE.KDictOf
import KE.KIntText
import PyProof.StrBlockL
import PyProof.StrLawsChain
import PyProof.FString
import PyProof.Rows.FStr
import OpenK.KOwn
import KE.KIsAll
import KE.KDictList
import PySem.Challenge.RW_cubebook_k36_whole_answers_or_a_pair
open PySem renaming wpAny_bind→Ag,wpAny_pure→AE,sizeLine→AG,starEach→AN,Spec→Qat,Program→AY,FuncData→Bi,wpAny_field→Cp,wpAny_setField_rec→DL,wpAny_callSpecial?_slot→Gf,mainGlobals→Dq,wpAny_loadPart'→Ft,wpAny_holding→Eh,wpAny_call_entry→Fq,wpAny_seqItems→E2,compareOp→Df,bootBuiltins→Ep,wpAny_newObj_type→Gg,wpAny_mono→Eg,behindInMarks→Ga,wpAny_truthy_bool→HE,foldedSetIterable→HF,swapsWith→E6,mem_of_lookup→JM,sysModules→FL,wpAny_rule→FY,wpAny_onRaise→Hu,NameKind→EO,assignEach→Gc,codeAny_call_builtin→L0,wpAny_attempt→HX,wpAny_typeNameOfWhole_keyiter→RJ,wpAny_letGo→Hn,wpAny_Call_Name_kw→Lb,tupleKind_room_in1→LR,letOwnedTupleGo→JH,codeAny_builtin→JR,binaryOp→FO,wpAny_typeOf→IE,wpAny_typeNameOf_keyiter→RK,wpAny_getItem_str_slice→QG,keywordEach→IC,wpAny_loadPart_at→NH,wpAny_setField→LM,checkBuiltinCall→ND,attributeBase→Lf,wpAny_passesOwn→MS
open List renaming getElem?_cons_zero→AL,getElem?_cons_succ→AS,set_cons_zero→AZ,set_cons_succ→A4,mem_cons_of_mem→Bv,map_cons→AW,mem_cons_self→BC,getElem?_eq_getElem→Cu,range→Ba,size_toArray→BR,length_map→B1,length_cons→Cq,mem_append_right→C2,getElem?_map→C1,map_nil→CA,mem_of_getElem?→Ei,getElem?_set_ne→Er,getElem?_set_self→Fl,map_map→Db,replicate→DF,map_append→Ea,getD→CL,getElem_mem→Fc,length_nil→E9,not_mem_nil→Fv,all_eq_true→D9,all_cons→EA,length_append→Ge,append_nil→Fp,mem_cons→Br,getElem?_replicate→ID,zipWith→Fy,nodup_cons→EQ,ext_getElem?→HK,append_assoc→Ig,getElem?_append_left→Lc,length_replicate→JN,mem_append_left→JC,filterMap_cons→Jz,mem_map_of_mem→KJ,all_map→GP,take_of_length_le→LH,drop_eq_getElem_cons→M4,foldl_cons→IV,drop_eq_nil_of_le→M0,range'→Hw,zip_cons_cons→Lh,mem_singleton→Fx,forIn_cons→JQ,nil_append→KD,length_filter_le→Pl,getElem?_append_right→Qr,range'_succ→My,getElem?_range→Ng,filter_cons_of_pos→Uu,filter_cons_of_neg→Uv,getElem?_drop→MZ,zipWith_cons_cons→Uc,find?_append→Pp,length_singleton→Qy,getElem?_eq_none→QR,forIn_nil→L7,length_drop→MW,lookup_cons→MY,cons_append→M5,getElem?_append→QU,range_eq_range'→T6,length_set→Nc,map_singleton→Uk
open PySem.W renaming Frag→Ar,fnOf→HG,keepIn→La
open Option renaming bind→AA,map→AV,map_some→II
open PySem.Heap renaming get?_push_of_some→Bj,get?_push_size→Ca,lt_size→BA,SameBut→Ds,size_push→E8,get?_update_other→Lg,get?_update_self→LO
open Nat renaming lt_of_lt_of_le→Cg,le_refl→BD,ne_of_lt→CG,le_trans→CN,lt_irrefl→F8,ne_of_gt→FN,zero_le→Gj,zero_add→GY,lt_trans→Hb,le_of_lt→Jy,lt_or_ge→Kq,lt_of_le_of_lt→QB
open False renaming elim→BB
open PySem.Builtin.SmallTypes renaming nextOf→D0,ownedTupleIsFree→Hm,ownedTupleHandOut→LP
open Ne renaming symm→Bp
open Bool renaming and_eq_true→C7,false_eq_true→DW,and_self→EI,false_ne_true→HD,not_true→Gw,eq_iff_iff→Io,not_false→KG,not_eq_true→LG,not_eq_true'→Nx,true_and→Mz
open PySem.PassesOwn renaming never→DQ
open PySem.Value renaming ref→CF,none→Ee
open PySem.W.KasT renaming kasWp→Dc,kasWp_bind→NA
open PySem.Str renaming ofString→DT
open Array renaming length_toList→Gb,getElem?_eq_getElem→Kf,getD_eq_getD_getElem?→Xy
open Option.some renaming inj→Fm
open PySem.NameKind renaming free→ER,cell→HH
open Classical renaming propDecidable→HM
open PyProof.Rows renaming callWith_type1→JJ,slot_tuple_getitem→Qu
open PySem.Txt renaming slice→DG
open PySem.F renaming slot_zip_next→Ji,slot_dict_keyiterator_next→RI,slot_tuple_iterator_next→Ra,slot_enumerate_next→Rf,args_zip_next_1→RH,entry_zip_next→RF,slot_dict_setdefault→Xj,typeOf_object_class→XR,args_tuple_add_2→Wm,args_dict_keyiterator_next_1→mj,entry_dict_keyiterator_next→mi,entry_tuple_add→Wl,args_tuple_iterator_next_1→jL,entry_tuple_iterator_next→jK
open PySem.Heap.SameBut renaming update→IZ
open PySem.Paired renaming length→GI
open PySem.Builtin.Str renaming occurrences→K6
open PySem.Obj renaming data_mapFields→Ke,mapSeq→G9,isFreed_of_fields→Rb
open PySem.Around renaming under_plainId→Li
open Int renaming emod_nonneg→Jq,toNat_natCast→Kd,emod_lt_of_pos→Pc,toNat_of_nonneg→T5,natCast_nonneg→T7
open PySem.Builtin.Slice renaming slicePlaces→Qt,sliceAdjust→VD
open PySem.Builtin.Tuple renaming tupleExact→Qv
open PySem.AutoSeq1 renaming wpAny_loadPart'→Re
open PySem.Data renaming cell→G4
open List.cons renaming injEq→LQ
open True renaming intro→HZ
open List.Perm renaming eq_of_pairwise→W1
open PySem renaming Value→Aa,Shared→Ab,Addr→Ac,Str→Ae,model→Af,World→Ai,Around→Aj,Heap→Am,Stmt→Au,Builtin→Av,eval→Ay,cLine→Az,rawInt→AH,Obj→AM,backTo→AR,Pos→A5,pyNext→Bm,IsPair→Bo,Keyword→BE,intItems→BG,DictEntry→BJ,tupleKind→BK,sizeLine_eq→BN,sliceBounds→BO
open Pure renaming pure→AK
open ToString renaming toString→BF
set_option Elab.async false
set_option linter.all false
set_option maxHeartbeats 4000000
set_option maxRecDepth 100000
noncomputable section
namespace L2
open PySem PySem.Spec PyProof.Rows
abbrev En:=Sum Int Ae
def UV:En->Aa->Bool
 |.inl k,v=>Value.isInt k v
 |.inr x,v=>Value.isStrOf x v
def eE(w:Ai):En->Int
 |.inl k=>hashInt k
 |.inr x=>hashStr w x
theorem G0:∀{k:En}{v:Aa},UV k v=true->(∃i t,k=Sum.inl i/\v=Value.int i t)\/(∃x t,k=Sum.inr x/\v=Value.str x t)
 |.inl i,v,h=>by
  obtain⟨t,e⟩:=Value.isInt_shape (k:=i) (v:=v) h
  exact .inl ⟨i,t,rfl,e⟩
 |.inr x,v,h=>by
  obtain⟨t,e⟩:=Value.isStrOf_shape (x:=x) (v:=v) h
  exact .inr ⟨x,t,rfl,e⟩
theorem eF(a b:Int):decide ((Sum.inl a:En)=Sum.inl b)=(a==b):=by
 by_cases e:a=b
 ·subst e;simp
 ·have h:¬ (Sum.inl a:En)=Sum.inl b:=λq=>e (Sum.inl.inj q)
  rw[decide_eq_false h]
  exact(beq_eq_false_iff_ne.mpr e).symm
theorem eG(a b:Ae):decide ((Sum.inr a:En)=Sum.inr b)=decide (a=b):=by
 by_cases e:a=b
 ·subst e;simp
 ·have h:¬ (Sum.inr a:En)=Sum.inr b:=λq=>e (Sum.inr.inj q)
  rw[decide_eq_false h,decide_eq_false e]
theorem eH(a:Int)(b:Ae):decide ((Sum.inl a:En)=Sum.inr b)=false:=decide_eq_false (λq=>nomatch q)
theorem eI(a:Ae)(b:Int):decide ((Sum.inr a:En)=Sum.inl b)=false:=decide_eq_false (λq=>nomatch q)
def Qi(prog:AY)(w:Ai):PySem.KeyKind prog w En where
 is:=UV
 hash:=eE w
 inj:=λv a b g f=>by
  rcases G0 g with⟨i,t,rfl,rfl⟩|⟨x,t,rfl,rfl⟩
  ·rcases G0 f with⟨j,u,rfl,e⟩|⟨y,u,rfl,e⟩
   ·injection e with c _;rw[c]
   ·exact nomatch e
  ·rcases G0 f with⟨j,u,rfl,e⟩|⟨y,u,rfl,e⟩
   ·exact nomatch e
   ·injection e with c _;rw[c]
 byValue:=λk v h=>by
  rcases G0 h with⟨i,t,rfl,rfl⟩|⟨x,t,rfl,rfl⟩<;>rfl
 pyHash:=λd h=>by
  rcases G0 d with⟨i,t,rfl,rfl⟩|⟨x,t,rfl,rfl⟩
  ·exact wpAny_pyHash_int h
  ·exact wpAny_pyHash_str h
 eqBool:=λl d h=>by
  rcases G0 l with⟨i,t,rfl,rfl⟩|⟨x,t,rfl,rfl⟩
  ·rcases G0 d with⟨j,u,rfl,rfl⟩|⟨y,u,rfl,rfl⟩
   ·rw[eF]at h;exact wpAny_eqBool_int h
   ·rw[eH]at h;exact SeqAt.EqAt.int_str i t y u _ _ _ _ h
  ·rcases G0 d with⟨j,u,rfl,rfl⟩|⟨y,u,rfl,rfl⟩
   ·rw[eI]at h;exact SeqAt.EqAt.str_int x t j u _ _ _ _ h
   ·rw[eG]at h;exact wpAny_eqBool_str h
 «strs»:=λk x t v h=>by
  rcases G0 h with⟨i,u,rfl,e⟩|⟨y,u,rfl,e⟩
  ·exact nomatch e
  ·injection e with c _
   subst c
   cases v<;>rfl
inductive V where
 |non|bl (b:Bool)|int (i:Int)|str (x:Ae)|byt (b:Array UInt8)|flt (b:UInt64)|ref (a:Ac)|ty (n:String)
 deriving DecidableEq
def RelV:V->Aa->Prop
 |.non,u=>u=Ee
 |.bl b,u=>u=Value.bool b
 |.int i,u=>∃t,u=Value.int i t
 |.str x,u=>∃t,u=Value.str x t
 |.byt b,u=>∃t,u=Value.bytes b t
 |.flt b,u=>∃t,u=Value.float b t
 |.ref a,u=>u=CF a
 |.ty n,u=>u=Value.type n
abbrev Aq:List V->List Aa->Prop:=Paired RelV
theorem Aq.length{xs:List V}{us:List Aa}(r:Aq xs us):xs.length=us.length:=GI r
theorem Aq.get:∀{xs:List V}{us:List Aa}{i:Nat}{x:V},Aq xs us->xs[i]?=some x->∃u,us[i]?=some u/\RelV x u
 |_,_,_,_,.nil,e=>by simp at e
 |_,_,0,_,.cons r _,e=>by simp at e;subst e;exact⟨_,rfl,r⟩
 |_,_,i+1,x,.cons _ t,e=>by
  obtain⟨u,a,b⟩:=Aq.get (i:=i) (x:=x) t (by simpa using e)
  exact⟨u,by simpa using a,b⟩
theorem Aq.set{x:V}{u:Aa}(r:RelV x u):∀{xs:List V}{us:List Aa}(i:Nat),Aq xs us->Aq (xs.set i x) (us.set i u)
 |_,_,_,.nil=>.nil
 |_,_,0,.cons _ t=>.cons r t
 |_,_,i+1,.cons q t=>.cons q (Aq.set r i t)
theorem Aq.append:∀{xs ys:List V}{us ws:List Aa},Aq xs us->Aq ys ws->Aq (xs++ys) (us++ws)
 |_,_,_,_,.nil,s=>s
 |_,_,_,_,.cons r t,s=>.cons r (Aq.append t s)
theorem Aq.take:∀{xs:List V}{us:List Aa}(n:Nat),Aq xs us->Aq (xs.take n) (us.take n)
 |_,_,0,_=>.nil
 |_,_,_+1,.nil=>.nil
 |_,_,n+1,.cons r t=>.cons r (Aq.take n t)
theorem Aq.drop:∀{xs:List V}{us:List Aa}(n:Nat),Aq xs us->Aq (xs.drop n) (us.drop n)
 |_,_,0,r=>r
 |_,_,_+1,.nil=>.nil
 |_,_,n+1,.cons _ t=>Aq.drop n t
def Ef:Option V->Option Aa->Prop
 |some v,some u=>RelV v u
 |none,none=>True
 |_,_=>False
def KV{a:Type}:List (a×V)->List (a×Aa)->Prop:=Paired λ(p:a×V)(q:a×Aa)=>p.1=q.1/\RelV p.2 q.2
def kV:En->V
 |.inl i=>.int i
 |.inr x=>.str x
inductive At where
 |non|int (i:Int)|str (x:Ae)
 deriving DecidableEq
def HB:At->Aa->Bool
 |.non,.none=>true
 |.int k,v=>Value.isInt k v
 |.str x,v=>Value.isStrOf x v
 |_,_=>false
def Qj(w:Ai):At->Int
 |.non=>reduceHash 4238894112
 |.int k=>hashInt k
 |.str x=>hashStr w x
theorem HC:∀{k:At}{v:Aa},HB k v=true->(k=.non/\v=.none)\/(∃i t,k=.int i/\v=Value.int i t)\/(∃x t,k=.str x/\v=Value.str x t)
 |.non,v,h=>by cases v<;>first|exact .inl ⟨rfl,rfl⟩|exact absurd h HD
 |.int i,v,h=>by obtain⟨t,e⟩:=Value.isInt_shape (k:=i) (v:=v) h;exact .inr (.inl ⟨i,t,rfl,e⟩)
 |.str x,v,h=>by obtain⟨t,e⟩:=Value.isStrOf_shape (x:=x) (v:=v) h;exact .inr (.inr ⟨x,t,rfl,e⟩)
theorem eJ(i:Int)(t:Tok):HB (.int i) (.int i t)=true:=by simp[HB,Value.isInt]
theorem eK(x:Ae)(t:Tok):HB (.str x) (.str x t)=true:=by simp[HB,Value.isStrOf]
theorem eL{prog:AY}{w:Ai}{A:Aj}{E:Aa->Ab->Prop}{s:Ab}{Q:Int->Ab->Prop}(h:Q (reduceHash 4238894112) {s with toks:=s.toks+1}):
  wpAny (Af prog w) A (PySem.pyHash .none) Q E s:=
 PySem.W.pyHash_slot (T:="NoneType") rfl F.slot_NoneType_hash F.entry_NoneType_hash (F.args_NoneType_hash_1 _) (beq_builtin_none _) (.inl rfl) (Ag (AE (Ag (wpAny_mkInt (AE ⟨_,_,rfl,h⟩)))))
theorem eM(a b:Int):decide ((At.int a)=.int b)=(a==b):=by
 by_cases e:a=b
 ·subst e;simp
 ·rw[decide_eq_false (λq=>e (by injection q))];exact(beq_eq_false_iff_ne.mpr e).symm
theorem eO(a b:Ae):decide ((At.str a)=.str b)=decide (a=b):=by
 by_cases e:a=b
 ·subst e;simp
 ·rw[decide_eq_false (λq=>e (by injection q)),decide_eq_false e]
def Z6(prog:AY)(w:Ai):PySem.KeyKind prog w At where
 is:=HB
 hash:=Qj w
 inj:=λv a b d f=>by
  rcases HC d with⟨rfl,rfl⟩|⟨i,t,rfl,rfl⟩|⟨x,t,rfl,rfl⟩<;>rcases HC f with⟨rfl,e⟩|⟨j,u,rfl,e⟩|⟨y,u,rfl,e⟩ <;>
   first|rfl|(cases e;done)|(cases e;rfl)
 byValue:=λk v h=>by
  rcases HC h with⟨rfl,rfl⟩|⟨i,t,rfl,rfl⟩|⟨x,t,rfl,rfl⟩<;>rfl
 pyHash:=λc h=>by
  rcases HC c with⟨rfl,rfl⟩|⟨i,t,rfl,rfl⟩|⟨x,t,rfl,rfl⟩
  ·exact eL h
  ·exact wpAny_pyHash_int h
  ·exact wpAny_pyHash_str h
 eqBool:=λg c h=>by
  rcases HC g with⟨rfl,rfl⟩|⟨i,t,rfl,rfl⟩|⟨x,t,rfl,rfl⟩<;>rcases HC c with⟨rfl,rfl⟩|⟨j,u,rfl,rfl⟩|⟨y,u,rfl,rfl⟩
  ·exact SeqAt.EqAt.same Ee _ _ _ _ h
  ·exact SeqAt.EqAt.none_int j u _ _ _ _ h
  ·exact SeqAt.EqAt.none_str y u _ _ _ _ h
  ·exact SeqAt.EqAt.int_none i t _ _ _ _ h
  ·rw[eM]at h;exact wpAny_eqBool_int h
  ·exact SeqAt.EqAt.int_str i t y u _ _ _ _ h
  ·exact SeqAt.EqAt.str_none x t _ _ _ _ h
  ·exact SeqAt.EqAt.str_int x t j u _ _ _ _ h
  ·rw[eO]at h;exact wpAny_eqBool_str h
 «strs»:=λk x t v h=>by
  rcases HC h with⟨rfl,e⟩|⟨i,u,rfl,e⟩|⟨y,u,rfl,e⟩
  ·exact nomatch e
  ·exact nomatch e
  ·injection e with l _
   subst l
   cases v<;>rfl
inductive KT where
 |at(a:At)|tup (l:List At)
 deriving DecidableEq
def KT.hash(w:Ai):KT->Int
 |.at a=>Qj w a
 |.tup l=>reduceHash (Builtin.Tuple.tupleHashOf (l.map (Qj w)))
def Fk:At->V
 |.non=>.non
 |.int i=>.int i
 |.str x=>.str x
def eP:KT->V->Prop
 |.at a,v=>v=Fk a
 |.tup _,v=>∃p,v=.ref p
def Iy(w:Ai):List KT->List V->List BJ->Prop
 |[],vs,a=>vs=[]/\a=[]
 |k::c,vs,a=>∃b v r e t,vs=b::v::r/\a=e::t/\RelV b e.key/\RelV v e.val/\e.hash=k.hash w/\eP k b/\Iy w c r t
inductive HO where
 |lst (xs:List V)
 |tup (xs:List V)
 |dK (kvs:List (En×V))|dT (kvs:List (List En×V))
 |dct (ks:List KT) (vs:List V)
 |set (S:Int->Bool) (n:Nat)
 |ins (C dx:Ac) (fs:List (Ae×V))
 |own (x:Ac)
 |xd (fs:List (Ae×V))
 |met (f x:Ac)
 |rng (lo hi:Int)
 |frz (o:AM) (u:HO)
 |tbl (ps:Array Aa)
 |ext (φ:Am->Prop)
abbrev Hp:=Ac->Option HO
def AU(H:Hp)(a:Ac)(o:HO):Hp:=λb=>if b=a then some o else H b
theorem Z7{H:Hp}{a:Ac}{o:HO}:AU H a o a=some o:=by unfold AU;rw[if_pos rfl]
theorem ZB{H:Hp}{a b:Ac}{o:HO}(h:b≠a):AU H a o b=H b:=by unfold AU;rw[if_neg h]
theorem eQ{H:Hp}{a:Ac}{o u:HO}:AU (AU H a o) a u=AU H a u:=by
 funext b;unfold AU;split<;>rfl
theorem Eo{H:Hp}{a b:Ac}{o:HO}(h:H a=some o)(h':H b=none):a≠b:=by
 intro e;subst e;rw[h]at h';cases h'
section
variable(P:AY)(w:Ai)
def Bk(H:Hp)(h:Am)(a:Ac):HO->Prop
 |.lst d=>d.length<=AG/\∃(b:List Aa) (n:Nat),Aq d b/\h.get? a=some {cls:=.type "list",data:=.seq b.toArray n}
 |.tup d=>d.length<=AG/\∃b:List Aa,Aq d b/\IsTup h a b.toArray
 |.dK c=>c.length<=AG/\(a==FL)=false/\∃vs,KV c vs/\h.DictOf (Qi P w) a vs
 |.dT c=>c.length<=AG/\(a==FL)=false/\∃d:List (List En×Ac×Aa),
   Paired (λ(p:List En×V) (q:List En×Ac×Aa)=>p.1=q.1/\H q.2.1=some (.tup (p.1.map kV))/\RelV p.2 q.2.2) c d /\
   ∃o g j,h.get? a=some o/\o.ExactDict/\o.data=.dict g j/\g.toList=d.map (entryOfKey (BK (Qi P w)))/\(d.map (·.1)).Nodup
 |.dct k vs=>k.length<=AG/\(a==FL)=false/\k.Nodup/\∃o g j,h.get? a=some o/\o.ExactDict/\o.data=.dict g j/\Iy w k vs g.toList
 |.set S n=>h.SetOf (intKind P w) a S n
 |.ins C i fs=>H i=some (.own a)/\fs.length<=1000/\i≠a/\h.get? a=some (PySem.W.instObj C i) /\
   ∃e,h.Ns1 i e/\(∀f,Ef (fs.lookup f) (e f))/\PySem.Within e (fs.map (·.1))
 |.own _=>∃o,h.get? a=some o
 |.xd fs=>∃e,h.Ns1 a e/\∀f,Ef (fs.lookup f) (e f)
 |.rng lo s=>∃t u v,h.get? a=some {cls:=.type "range",data:=.fields #[.int lo t,.int s u,.int 1 v]}
 |.frz o u=>h.get? a=some o/\Bk H h a u
 |.tbl y=>h.get? a=some {cls:=.none,data:=.fields y}
 |.met f x=>h.get? a=some (PySem.W.methodObj (.ref f) (.ref x))
 |.ext l=>l h/\(∃o,h.get? a=some o)/\∀m r:Am,l m->(∀o,m.get? a=some o->r.get? a=some o)->l r
def Co(H:Hp)(h:Am):Prop:=∀a o,H a=some o->Bk P w H h a o
end
section
variable{P:AY}{w:Ai}{H H':Hp}{h h':Am}{a:Ac}{o:HO}
theorem Bk.lt(x:Bk P w H h a o):a<h.objs.size:=by
 cases o with
 |lst c=>obtain⟨_,_,_,_,e⟩:=x;exact BA e
 |tup c=>obtain⟨_,_,_,p⟩:=x;exact p.lt
 |dK b=>obtain⟨_,_,_,_,o,_,_,e,_⟩:=x;exact BA e
 |dT b=>obtain⟨_,_,_,_,o,_,_,e,_⟩:=x;exact BA e
 |dct d vs=>obtain⟨_,_,_,o,_,_,e,_⟩:=x;exact BA e
 |set S n=>obtain⟨o,_,_,_,e,_⟩:=x;exact BA e
 |ins C g fs=>obtain⟨_,_,_,e,_⟩:=x;exact BA e
 |own y=>obtain⟨_,e⟩:=x;exact BA e
 |xd fs=>obtain⟨_,⟨_,_,_,e,_⟩,_⟩:=x;exact BA e
 |rng lo i=>obtain⟨_,_,_,e⟩:=x;exact BA e
 |frz ob u=>obtain⟨e,_⟩:=x;exact BA e
 |tbl j=>exact BA (show h.get? a=some _ from x)
 |met f y=>exact BA (show h.get? a=some _ from x)
 |ext k=>obtain⟨_,⟨_,e⟩,_⟩:=x;exact BA e
theorem Paired.mapP{d e:Type}{F G:d->e->Prop}:∀{l₁:List d}{c:List e},Paired F l₁ c->(∀a b,F a b->G a b)->Paired G l₁ c
 |_,_,.nil,_=>.nil
 |_,_,.cons r t,f=>.cons (f _ _ r) (Paired.mapP t f)
theorem Bk.stay(x:Bk P w H h a o)(k:∀b u,(b=a\/H b=some (.own a))->h.get? b=some u->h'.get? b=some u)
  (B:∀b,H b=some (.own a)->H' b=some (.own a)) (E:∀b xs,H b=some (.tup xs)->H' b=some (.tup xs)):Bk P w H' h' a o:=by
 induction o with
 |lst xs=>obtain⟨z,j,n,r,e⟩:=x;exact⟨z,j,n,r,k _ _ (.inl rfl) e⟩
 |tup xs=>obtain⟨z,j,r,ob,e,c⟩:=x;exact⟨z,j,r,ob,k _ _ (.inl rfl) e,c⟩
 |dK l=>obtain⟨z,y,vs,r,ob,g,i,e,c⟩:=x;exact⟨z,y,vs,r,ob,g,i,k _ _ (.inl rfl) e,c⟩
 |dT l=>
  obtain⟨z,y,xs,r,ob,g,i,e,c⟩:=x
  exact⟨z,y,xs,Paired.mapP r λp q z=>⟨z.1,E _ _ z.2.1,z.2.2⟩,ob,g,i,k _ _ (.inl rfl) e,c⟩
 |dct J vs=>obtain⟨z,y,n,ob,g,i,e,c⟩:=x;exact⟨z,y,n,ob,g,i,k _ _ (.inl rfl) e,c⟩
 |set S n=>obtain⟨ob,g,i,t,e,c⟩:=x;exact⟨ob,g,i,t,k _ _ (.inl rfl) e,c⟩
 |ins C L fs=>
  obtain⟨d,z,ne,e,m,⟨s,g,i,G,c⟩,r⟩:=x
  exact⟨B _ d,z,ne,k _ _ (.inl rfl) e,m,⟨s,g,i,k _ _ (.inr d) G,c⟩,r⟩
 |own y=>obtain⟨ob,e⟩:=x;exact⟨ob,k _ _ (.inl rfl) e⟩
 |xd fs=>obtain⟨m,⟨s,g,i,e,c⟩,r⟩:=x;exact⟨m,⟨s,g,i,k _ _ (.inl rfl) e,c⟩,r⟩
 |rng lo M=>obtain⟨t,u,v,e⟩:=x;exact⟨t,u,v,k _ _ (.inl rfl) e⟩
 |frz ob u I=>obtain⟨e,q⟩:=x;exact⟨k _ _ (.inl rfl) e,I q⟩
 |tbl A=>
  have e:h.get? a=some {cls:=.none,data:=.fields A}:=x
  show h'.get? a=some {cls:=.none,data:=.fields A}
  exact k a _ (.inl rfl) e
 |met f y=>
  have e:h.get? a=some (PySem.W.methodObj (.ref f) (.ref y)):=x
  show h'.get? a=some (PySem.W.methodObj (.ref f) (.ref y))
  exact k a _ (.inl rfl) e
 |ext N=>obtain⟨p,⟨o,e⟩,st⟩:=x;exact⟨st _ _ p λo q=>k _ _ (.inl rfl) q,⟨o,k _ _ (.inl rfl) e⟩,st⟩
theorem Co.lt(x:Co P w H h)(e:H a=some o):a<h.objs.size:=(x a o e).lt
theorem Co.fresh(x:Co P w H h)(e:h.objs.size<=a):H a=none:=by
 cases q:H a with
 |none=>rfl
 |some u=>exact absurd (Cg (x.lt q) e) (F8 _)
theorem Co.kept(x:Co P w H h)(k:∀b u,h.get? b=some u->h'.get? b=some u):Co P w H h':=λa o e=>
 (x a o e).stay (λb u _ q=>k b u q) (λ_ q=>q) λ_ _ q=>q
theorem Co.laid(x:Co P w H h)(k:∀b u,h.get? b=some u->h'.get? b=some u)(g:h.objs.size<=a)(new:Bk P w (AU H a o) h' a o):Co P w (AU H a o) h':=λb u e=>by
 have d:=x.fresh g
 by_cases f:b=a
 ·subst f;rw[Z7]at e;cases e;exact new
 ·rw[ZB f]at e
  exact(x b u e).stay (λc v _ q=>k c v q) (λc q=>by rw[ZB (Eo q d)];exact q) λc i q=>by rw[ZB (Eo q d)];exact q
end
def Rd(H:Hp)(a:Ac)(u:HO):Prop:=H a=some u\/∃o,H a=some (.frz o u)
theorem Rd.of{H:Hp}{a:Ac}{u:HO}(h:H a=some u):Rd H a u:=.inl h
theorem Rd.ok{P:AY}{w:Ai}{H:Hp}{h:Am}{a:Ac}{u:HO}(r:Rd H a u)(x:Co P w H h):Bk P w H h a u:=by
 rcases r with r|⟨o,r⟩
 ·exact x a u r
 ·obtain⟨_,q⟩:=x a _ r
  exact q
def KY:Option HO->Prop
 |some (.lst _)=>True
 |some (.dK _)=>True
 |some (.dT _)=>True
 |some (.dct _ _)=>True
 |some (.set _ _)=>True
 |some (.ins _ _ _)=>True
 |some (.ext _)=>True
 |_=>False
section
variable{P:AY}{w:Ai}{H:Hp}{h h':Am}{x e:Ac}{o':HO}
theorem Co.write(ok:Co P w H h)(g:KY (H x))(n:e=x\/H e=some (.own x))(k:∀b u,b≠e->h.get? b=some u->h'.get? b=some u)(m:∃u,h'.get? e=some u)
  (new:Bk P w (AU H x o') h' x o'):Co P w (AU H x o') h':=λb u q=>by
 have d:∀c y,H c=some (.own y)->c≠x:=λc y r z=>by subst z;rw[r]at g;exact g
 have f:∀c i,H c=some (.tup i)->c≠x:=λc i r z=>by subst z;rw[r]at g;exact g
 by_cases j:b=x
 ·subst j;rw[Z7]at q;cases q;exact new
 ·rw[ZB j]at q
  by_cases a:b=e
  ·have o:H b=some (.own x):=by
    rcases n with z|z
    ·exact absurd (a.trans z) j
    ·rw[a];exact z
   rw[q]at o;cases o
   obtain⟨v,p⟩:=m
   exact⟨v,by rw[a];exact p⟩
  ·refine(ok b u q).stay (λc v l r=>k c v ?_ r) (λc r=>by rw[ZB (d c b r)];exact r) λc i r=>by rw[ZB (f c i r)];exact r
   rcases l with rfl|l
   ·exact a
   ·rintro rfl
    rcases n with z|z
    ·exact d c b l z
    ·rw[l]at z;cases z;exact j rfl
end
structure Un(fs ex:List Ac)(H H':Hp)(h h':Am):Prop where
 keep:∀b o,h.get? b=some o->H b=none->b∉fs->b∉ex->h'.get? b=some o
 slot:∀b o,h.get? b=some o->H b=none->b∈fs->b∉ex->∃sl,h'.get? b=some {o with slots:=sl}
 free:∀b o,h.get? b=some o->H b=none->b∉ex->H' b=none
 there:∀b o,h.get? b=some o->b∉ex->∃o',h'.get? b=some o'
 tups:∀b xs,H b=some (.tup xs)->H' b=some (.tup xs)
 frzs:∀b o u,H b=some (.frz o u)->H' b=some (.frz o u)
 tbls:∀b ps,H b=some (.tbl ps)->∃more,H' b=some (.tbl (ps++more))
section
variable{fs fs' ex ex':List Ac}{H H1 H2:Hp}{h h1 h2 h':Am}{a x e:Ac}{o:HO}
theorem Un.any(u:Un fs ex H H1 h h1){b:Ac}{ob:AM}(q:h.get? b=some ob)(n:H b=none)(a:b∉ex):∃d,h1.get? b=some {ob with slots:=d}:=by
 by_cases c:b∈fs
 ·exact u.slot b ob q n c a
 ·exact⟨ob.slots,u.keep b ob q n c a⟩
theorem Un.trans(a:Un fs ex H H1 h h1)(b:Un fs ex H1 H2 h1 h2):Un fs ex H H2 h h2 where
 keep:=λc ob q n f d=>b.keep c ob (a.keep c ob q n f d) (a.free c ob q n d) f d
 slot:=λc ob q n f d=>by
  obtain⟨m,e⟩:=a.slot c ob q n f d
  obtain⟨i,j⟩:=b.slot c _ e (a.free c ob q n d) f d
  exact⟨i,j⟩
 free:=λc ob q n d=>by
  obtain⟨k,e⟩:=a.there c ob q d
  exact b.free c k e (a.free c ob q n d) d
 there:=λc ob q d=>by
  obtain⟨k,e⟩:=a.there c ob q d
  exact b.there c k e d
 tups:=λc g q=>b.tups c g (a.tups c g q)
 frzs:=λc ob g q=>b.frzs c ob g (a.frzs c ob g q)
 tbls:=λc l q=>by
  obtain⟨m1,e⟩:=a.tbls c l q
  obtain⟨m2,j⟩:=b.tbls c _ e
  exact⟨m1++m2,by rw[j,Array.append_assoc]⟩
theorem Un.kept(k:∀b u,h.get? b=some u->h'.get? b=some u):Un fs ex H H h h':=
 ⟨λb ob q _ _ _=>k b ob q,λb ob q _ _ _=>⟨ob.slots,k b ob q⟩,λ_ _ _ n _=>n,λb ob q _=>⟨ob,k b ob q⟩,λ_ _ q=>q,λ_ _ _ q=>q,λ_ a q=>⟨#[],by rw[q];simp⟩⟩
theorem Un.refl:Un fs ex H H h h:=Un.kept λ_ _ q=>q
theorem Un.laid(k:∀b u,h.get? b=some u->h'.get? b=some u)(d:h.objs.size<=a)(c:H a=none):Un fs ex H (AU H a o) h h' where
 keep:=λb u q _ _ _=>k b u q
 slot:=λb u q _ _ _=>⟨u.slots,k b u q⟩
 free:=λb u q n _=>by rw[ZB (CG (Cg (BA q) d))];exact n
 there:=λb u q _=>⟨u,k b u q⟩
 tups:=λb e q=>by rw[ZB (Eo q c)];exact q
 frzs:=λb u e q=>by rw[ZB (Eo q c)];exact q
 tbls:=λb f q=>⟨#[],by rw[ZB (Eo q c),q];simp⟩
theorem Un.write(c:KY (H x))(j:e=x\/H e=some (.own x))(k:∀b u,b≠e->h.get? b=some u->h'.get? b=some u)(d:∃u,h'.get? e=some u):Un fs ex H (AU H x o) h h':=by
 have g:∀b,H b=none->b≠x:=λb n z=>by subst z;rw[n]at c;exact c
 have i:∀b,H b=none->b≠e:=λb n z=>by
  subst z
  rcases j with r|r
  ·exact g b n r
  ·rw[n]at r;cases r
 have f:∀b u,H b=some u->¬ KY (some u)->b≠x:=λb u q l z=>by subst z;rw[q]at c;exact l c
 refine⟨λb u q n _ _=>k b u (i b n) q,λb u q n _ _=>⟨u.slots,k b u (i b n) q⟩,λb u q n _=>by rw[ZB (g b n)];exact n,λb u q _=>?_,
  λb m q=>by rw[ZB (f b _ q λz=>z)];exact q,λb u m q=>by rw[ZB (f b _ q λz=>z)];exact q,λb p q=>⟨#[],by rw[ZB (f b _ q λz=>z),q];simp⟩⟩
 by_cases a:b=e
 ·subst a;exact d
 ·exact⟨u,k b u a q⟩
theorem Un.mono(u:Un fs ex H H1 h h1)(d:∀b∈fs,b∈fs')(c:∀b∈ex,b∈ex'):Un fs' ex' H H1 h h1:=
 ⟨λb ob q n e a=>u.keep b ob q n (λz=>e (d b z)) λz=>a (c b z),λ_ _ q n _ a=>u.any q n λz=>a (c _ z),λb ob q n a=>u.free b ob q n λz=>a (c b z),λb ob q a=>u.there b ob q λz=>a (c b z),u.tups,u.frzs,u.tbls⟩
end
def MP(h:Am)(H:Hp):List Ac:=(Ba h.objs.size).filter λa=>(H a).isSome
def G1(h:Am)(H:Hp):Am:=PySem.W.hideAll h (MP h H)
theorem eR(h:Am)(H:Hp):(G1 h H).objs.size=h.objs.size:=PySem.W.hideAll_size _ _
theorem eS{h:Am}{H:Hp}{b:Ac}{o:AM}(e:h.get? b=some o)(n:H b=none):(G1 h H).get? b=some o:=
 PySem.W.hideAll_get _ e λa=>by
  have q:(H b).isSome=true:=(List.mem_filter.mp a).2
  rw[n]at q;simp at q
theorem eT{h:Am}{H:Hp}{b:Ac}{o:AM}(e:(G1 h H).get? b=some o):h.get? b=some o/\H b=none:=by
 have a:h.get? b=some o:=PySem.W.of_hideAll (MP h H) e
 refine⟨a,?_⟩
 cases q:H b with
 |none=>rfl
 |some x=>
  have c:b∈MP h H:=List.mem_filter.mpr ⟨List.mem_range.mpr (BA a),by simp[q]⟩
  have z:(G1 h H).get? b=none:=PySem.W.hideAll_none (MP h H) c
  rw[z]at e;cases e
def eU(g h:Am)(L:Ac):List (Ac×AM):=(Ba h.objs.size).filterMap λa=>if a=L\/(g.get? a).isSome=true then none else(h.get? a).map λo=>(a,o)
def Z8(g h:Am)(L d:Ac):List (Ac×AM):=(eU g h L).filter λp=>decide (p.1≠d)
structure Mod(K:Ar)(mg:Ae->Option Aa)(base:Am):Prop where
 kin:K.In base
 glob:base.Ns Dq mg
 blt:∃mb,base.Ns builtinsNs mb/\∀x:Ae,x≠"__name__"->mb x=Ep x
 nolimit:base.NoLimit
structure Cx where
 prog:AY
 w:Ai
 K:Ar
 mg:Ae->Option Aa
 base:Am
 A:Aj
 N:List Ae
 s₀:Ab
 H₀:Hp
 env:Env
 outer:List Env
 stack:List Env
 ex:List Ac
 fn:Ae->Bool
 calm:Bool
 pn:List (Ac×AM)
 xe:Aa->Ab->Prop
def Cj(l:List Env):List Ac:=l.filterMap (·.frame)
abbrev Cx.fs(X:Cx):List Ac:=Cj X.outer
def Dr(a:Scope)(x:Ae):Prop:=a.names.lookup x=some .local\/a.names.lookup x=some .cell\/a.names.lookup x=some .free
def Loc(a:Scope)(x:Ae):Prop:=a.names.lookup x=some .local\/a.names.lookup x=some .cell
def eV(env:Env)(h:Am)(m:Ae->Option Aa)(x:Ae)(u:Aa):Prop:=
 (env.kindOf x=some .local/\m x=some u)\/((env.kindOf x=some .cell\/env.kindOf x=some .free)/\∃c,env.cells.lookup x=some c/\h.IsCell c (some u))
structure Cx.Ok(X:Cx):Prop where
 mod:Mod X.K X.mg X.base
 kind:X.env.scope.kind=.function
 glob:X.env.globals=Dq
 blt:X.env.builtins=builtinsNs
 above:X.s₀.heap.objs.size<=X.env.locals
 inj:∀x y c,X.env.cells.lookup x=some c->X.env.cells.lookup y=some c->x=y
 has:∀x,(X.env.kindOf x=some .cell\/X.env.kindOf x=some .free)->∃c,X.env.cells.lookup x=some c
 cab:∀x c,X.fn x=true->X.env.cells.lookup x=some c->X.s₀.heap.objs.size<=c
 hd:X.calm=true->X.A.handled=none
 frames:X.A.frames=some X.stack
 stk:X.stack=X.outer\/(X.stack=X.env::X.outer/\X.env.frame=some X.env.locals)
 exf:∀b∈X.ex,b≠X.env.locals/\∀x c,X.env.cells.lookup x=some c->c≠b
 bs:∀b o,X.base.get? b=some o->X.s₀.heap.get? b=some o/\X.H₀ b=none
 bsz:X.base.objs.size<=X.s₀.heap.objs.size
 noex:∀b o,X.base.get? b=some o->b∉X.ex
 exfs:∀b∈X.ex,b∉X.fs
 funs:X.s₀.heap.FunFrames X.base X.outer
 frf:∀b∈X.fs,X.H₀ b=none
structure Inv(X:Cx)(pins:List (Ac×AM))(σ:List (Option V))(H:Hp)(s:Ab):Prop where
 ok:X.Ok
 os:s.os=X.s₀.os
 bare:AllBare s.gens
 base:Un X.fs X.ex X.H₀ H X.s₀.heap s.heap
 loc:∃m,s.heap.Ns X.env.locals m/\∀(i:Nat) (x:Ae) (v:V),X.N[i]?=some x->σ[i]?=some (some v)->Dr X.env.scope x->∃u,RelV v u/\eV X.env s.heap m x u
 cell:∀x c,X.env.cells.lookup x=some c->∃v,s.heap.IsCell c v
 free:H X.env.locals=none
 freeC:∀x c,X.env.cells.lookup x=some c->H c=none
 pin:∀p∈X.pn++pins,s.heap.get? p.1=some p.2/\H p.1=none/\p.1≠X.env.locals/\p.1∉X.fs/\∀v,p.2.data≠.cell v
 hok:Co X.prog X.w H s.heap
 len:σ.length=X.N.length
section
variable{X:Cx}{pins:List (Ac×AM)}{σ:List (Option V)}{H H':Hp}{s:Ab}{h':Am}
theorem Cx.Ok.nofr(ok:X.Ok){b:Ac}{o:AM}(e:X.base.get? b=some o):b∉X.fs:=λa=>by
 have:=(ok.funs.mem a).1
 rw[e]at this;cases this
theorem Inv.bs(I:Inv X pins σ H s):∀b o,X.base.get? b=some o->s.heap.get? b=some o/\H b=none:=λb o e=>
 ⟨I.base.keep b o (I.ok.bs b o e).1 (I.ok.bs b o e).2 (I.ok.nofr e) (I.ok.noex b o e),I.base.free b o (I.ok.bs b o e).1 (I.ok.bs b o e).2 (I.ok.noex b o e)⟩
theorem Inv.bk(I:Inv X pins σ H s):∀b o,X.base.get? b=some o->s.heap.get? b=some o:=λb o e=>(I.bs b o e).1
theorem Inv.mod(I:Inv X pins σ H s):Mod X.K X.mg X.base:=I.ok.mod
theorem Inv.kIn(I:Inv X pins σ H s):X.K.In s.heap:=I.ok.mod.kin.keeps I.bk
theorem Inv.nolimit(I:Inv X pins σ H s):s.heap.NoLimit:=I.ok.mod.nolimit.keeps I.bk
theorem Inv.fr(I:Inv X pins σ H s):∃m,Fr X.base X.env.locals s.heap m:=
 let⟨m,a,_⟩:=I.loc
 ⟨m,a,I.bk,CN I.ok.bsz I.ok.above⟩
theorem Inv.lt(I:Inv X pins σ H s):X.env.locals<s.heap.objs.size:=let⟨_,a,_⟩:=I.loc;a.lt
theorem Inv.sz(I:Inv X pins σ H s):X.s₀.heap.objs.size<=s.heap.objs.size:=CN I.ok.above (Jy I.lt)
theorem Inv.nofs(I:Inv X pins σ H s){a:Ac}(h:s.heap.objs.size<=a):a∉X.fs:=λb=>by
 obtain⟨_,o,c,_⟩:=I.ok.funs.mem b
 exact absurd (Cg (BA c) (CN I.sz h)) (F8 _)
theorem Inv.cne(I:Inv X pins σ H s):∀x c,X.env.cells.lookup x=some c->c≠X.env.locals:=λx c e z=>by
 obtain⟨v,o,d,hd⟩:=I.cell x c e
 obtain⟨m,⟨f,g,h,a,b,_⟩,_⟩:=I.loc
 rw[z,a]at d;cases d;rw[b]at hd;cases hd
theorem Inv.funs(I:Inv X pins σ H s):s.heap.FunFrames X.base X.outer:=by
 have all:∀(l:List Env),(∀b∈Cj l,b∈X.fs)->X.s₀.heap.FunFrames X.base l->s.heap.FunFrames X.base l:=by
  intro l
  induction l with
  |nil=>intro _ _;trivial
  |cons env r g=>
   intro f h
   obtain⟨i,⟨L,o,a,j,k,hd⟩,m⟩:=h
   have c:L∈X.fs:=f L (by unfold Cj;rw[Jz,a];exact BC)
   obtain⟨n,e⟩:=I.base.slot L o k (I.ok.frf L c) c λz=>I.ok.exfs L z c
   exact⟨i,⟨L,_,a,j,e,hd⟩,g (λb d=>f b (by unfold Cj;rw[Jz,a];exact Bv _ d)) m⟩
 exact all X.outer (λ_ d=>d) I.ok.funs
theorem Inv.stack(I:Inv X pins σ H s):s.heap.FunFrames X.base X.stack:=by
 rcases I.ok.stk with e|⟨e,a⟩
 ·rw[e];exact I.funs
 ·rw[e]
  obtain⟨m,b,_⟩:=I.loc
  refine .cons (by rw[I.ok.kind];decide) a b ?_ I.funs
  exact Heap.get?_none_of_le (CN I.ok.bsz I.ok.above)
theorem Inv.stkSub(I:Inv X pins σ H s):∀b∈Cj X.stack,b∈X.env.locals::X.fs:=λb a=>by
 rcases I.ok.stk with e|⟨e,c⟩
 ·rw[e]at a;exact Bv _ a
 ·rw[e]at a
  unfold Cj at a
  rw[Jz,c]at a
  exact a
theorem Inv.stkFree(I:Inv X pins σ H s):∀b∈Cj X.stack,H b=none:=λb a=>by
 rcases Br.mp (I.stkSub b a)with e|a
 ·rw[e];exact I.free
 ·obtain⟨_,o,c,_⟩:=I.ok.funs.mem a
  exact I.base.free b o c (I.ok.frf b a) λz=>I.ok.exfs b z a
theorem Inv.step{g':Array GenState}{t':Nat}{d':Drawn}{ch:List Ac}(I:Inv X pins σ H s)
  (f:∀b∈ch,(b∈X.ex\/X.s₀.heap.objs.size<=b)/\b≠X.env.locals/\(∀x c,X.env.cells.lookup x=some c->c≠b)/\∀p∈X.pn++pins,p.1≠b)
  (keep:∀b o,b≠X.env.locals->b∉X.fs->b∉ch->s.heap.get? b=some o->H b=none->h'.get? b=some o)
  (slot:∀b o,b≠X.env.locals->b∈X.fs->b∉ch->s.heap.get? b=some o->H b=none->∃J,h'.get? b=some {o with slots:=J}) (free:∀b o,b∉ch->s.heap.get? b=some o->H b=none->H' b=none)
  (there:∀b o,b∉ch->s.heap.get? b=some o->∃B,h'.get? b=some B)
  (tups:∀b xs,H b=some (.tup xs)->H' b=some (.tup xs)) (frzs:∀b o u,H b=some (.frz o u)->H' b=some (.frz o u)) (tbls:∀b ps,H b=some (.tbl ps)->∃C,H' b=some (.tbl (ps++C)))
  (O:∀m,s.heap.Ns X.env.locals m->h'.Ns X.env.locals m) (hok:Co X.prog X.w H' h') (Q:AllBare g'):
  Inv X pins σ H' {s with heap:=h',gens:=g',drawn:=d',toks:=t' }:=by
 have E:∀b o,X.s₀.heap.get? b=some o->b≠X.env.locals:=λb o e=>CG (Cg (BA e) I.ok.above)
 have j:∀b o,X.s₀.heap.get? b=some o->b∉X.ex->b∉ch:=λb o e a y=>by
  rcases(f b y).1 with z|z
  ·exact a z
  ·exact absurd (Cg (BA e) z) (F8 _)
 have g:∀x c,X.env.cells.lookup x=some c->∀v,s.heap.IsCell c v->h'.IsCell c v:=λx c e v ⟨o,A,hd⟩=>by
  have h:c∉ch:=λz=>(f c z).2.2.1 x c e rfl
  by_cases M:c∈X.fs
  ·obtain⟨J,q⟩:=slot c o (I.cne x c e) M h A (I.freeC x c e)
   exact⟨_,q,hd⟩
  ·exact⟨o,keep c o (I.cne x c e) M h A (I.freeC x c e),hd⟩
 refine⟨I.ok,I.os,Q,⟨λb o e n y a=>?_,λb o e n y a=>?_,λb o e n a=>?_,λb o e a=>?_,λb xs e=>tups b xs (I.base.tups b xs e),λb o xs e=>frzs b o xs (I.base.frzs b o xs e),λb ps e=>?_⟩,?_,λx c e=>?_,?_,λx c e=>?_,λp N=>?_,hok,I.len⟩
 ·exact keep b o (E b o e) y (j b o e a) (I.base.keep b o e n y a) (I.base.free b o e n a)
 ·obtain⟨J,t⟩:=I.base.slot b o e n y a
  obtain⟨L,G⟩:=slot b _ (E b o e) y (j b o e a) t (I.base.free b o e n a)
  exact⟨L,G⟩
 ·obtain⟨B,t⟩:=I.base.there b o e a
  exact free b B (j b o e a) t (I.base.free b o e n a)
 ·obtain⟨B,t⟩:=I.base.there b o e a
  exact there b B (j b o e a) t
 ·obtain⟨m1,t⟩:=I.base.tbls b ps e
  obtain⟨m2,G⟩:=tbls b _ t
  exact⟨m1++m2,by rw[G,Array.append_assoc]⟩
 ·obtain⟨m,T,U⟩:=I.loc
  refine⟨m,O m T,λi x v t G Y=>?_⟩
  obtain⟨u,r,l⟩:=U i x v t G Y
  refine⟨u,r,?_⟩
  rcases l with l|⟨k,c,e,z⟩
  ·exact .inl l
  ·exact .inr ⟨k,c,e,g x c e _ z⟩
 ·obtain⟨v,z⟩:=I.cell x c e
  exact⟨v,g x c e v z⟩
 ·obtain⟨m,⟨o,_,_,A,_⟩,_⟩:=I.loc
  exact free _ o (λz=>(f _ z).2.1 rfl) A I.free
 ·obtain⟨v,o,A,hd⟩:=I.cell x c e
  exact free c o (λz=>(f c z).2.2.1 x c e rfl) A (I.freeC x c e)
 ·obtain⟨e,n,ne,nf,d⟩:=I.pin p N
  have h:p.1∉ch:=λz=>(f p.1 z).2.2.2 p N rfl
  exact⟨keep p.1 p.2 ne nf h e n,free p.1 p.2 h e n,ne,nf,d⟩
theorem Inv.un{t':Nat}(I:Inv X pins σ H s)(u:Un X.fs [] H H' s.heap h')(hok:Co X.prog X.w H' h'):Inv X pins σ H' {s with heap:=h',toks:=t' }:=by
 obtain⟨m,⟨o,k,l,g,r⟩,_⟩:=id I.loc
 obtain⟨p,h⟩:=u.any g I.free (by simp)
 exact I.step (g':=s.gens) (d':=s.drawn) (ch:=[]) (λ_ z=>nomatch z) (λb o _ c _ e n=>u.keep b o e n c (by simp)) (λb o _ c _ e n=>u.slot b o e n c (by simp)) (λb o _ e n=>u.free b o e n (by simp)) (λb o _ e=>u.there b o e (by simp)) u.tups u.frzs u.tbls (λx i=>by
  obtain⟨y,d,f,a,j⟩:=i
  rw[g]at a;cases a
  exact⟨_,d,f,h,j⟩) hok I.bare
theorem Inv.call{g':Array GenState}{t':Nat}{d':Drawn}{ch:List Ac}(I:Inv X pins σ H s)(u:Un (Cj X.stack) ch H H' s.heap h')(hok:Co X.prog X.w H' h')(k:AllBare g')
  (d:∀b∈ch,(b∈X.ex\/X.s₀.heap.objs.size<=b)/\b≠X.env.locals/\(∀x c,X.env.cells.lookup x=some c->c≠b)/\∀p∈X.pn++pins,p.1≠b):
  Inv X pins σ H' {s with heap:=h',gens:=g',drawn:=d',toks:=t' }:=by
 obtain⟨m,⟨o,v,y,j,r⟩,_⟩:=id I.loc
 obtain⟨A,g⟩:=u.any j I.free λz=>(d _ z).2.1 rfl
 exact I.step (ch:=ch) d (λb o g l a e n=>u.keep b o e n (λz=>(Br.mp (I.stkSub b z)).elim g l) a) (λb o _ _ a e n=>u.any e n a) (λb o a e n=>u.free b o e n a) (λb o a e=>u.there b o e a) u.tups u.frzs u.tbls (λB q=>by
  obtain⟨C,h,i,f,t⟩:=q
  rw[j]at f;cases f
  exact⟨_,h,i,g,t⟩) hok k
theorem Inv.turned{t':Nat}{it:Ac}(I:Inv X pins σ H s)(k:∀b o,b≠it->s.heap.get? b=some o->h'.get? b=some o)(g:H it=none)(f:it≠X.env.locals)
  (h:it∈X.ex\/X.s₀.heap.objs.size<=it) (i:∀x c,X.env.cells.lookup x=some c->c≠it) (j:∀p∈X.pn++pins,p.1≠it):Inv X pins σ H {s with heap:=h',toks:=t' }:=by
 have d:∀b u,H b=some u->b≠it:=λb u e z=>by rw[z,g]at e;cases e
 refine I.step (g':=s.gens) (d':=s.drawn) (ch:=[it]) (λb l=>?_) (λb o _ _ a e _=>k b o (λz=>a (by simp[z])) e) (λb o _ _ a e _=>⟨o.slots,k b o (λz=>a (by simp[z])) e⟩) (λ_ _ _ _ n=>n)
  (λb o a e=>⟨o,k b o (λz=>a (by simp[z])) e⟩) (λ_ _ e=>e) (λ_ _ _ e=>e) (λb G e=>⟨#[],by rw[e];simp⟩) (λm t=>?_) (λb u e=>?_) I.bare
 ·have e:b=it:=by simpa using l
  subst e
  exact⟨h,f,i,j⟩
 ·obtain⟨o,w,y,A,r⟩:=t
  exact⟨o,w,y,k _ o (Bp f) A,r⟩
 ·refine(I.hok b u e).stay (λc v a q=>k c v ?_ q) (λ_ q=>q) λ_ _ q=>q
  rcases a with z|z
  ·rw[z];exact d b u e
  ·exact d c _ z
theorem Inv.tok(I:Inv X pins σ H s)(t:Nat):Inv X pins σ H {s with toks:=t}:=I.un (h':=s.heap) (t':=t) Un.refl I.hok
theorem Inv.kept{t':Nat}(I:Inv X pins σ H s)(k:∀b u,s.heap.get? b=some u->h'.get? b=some u):Inv X pins σ H {s with heap:=h',toks:=t' }:=I.un (Un.kept k) (I.hok.kept k)
theorem Inv.laid{a:Ac}{o:HO}{t':Nat}(I:Inv X pins σ H s)(k:∀b u,s.heap.get? b=some u->h'.get? b=some u)(c:s.heap.objs.size<=a)(new:Bk X.prog X.w (AU H a o) h' a o):
  Inv X pins σ (AU H a o) {s with heap:=h',toks:=t' }:=I.un (Un.laid k c (I.hok.fresh c)) (I.hok.laid k c new)
theorem Inv.write{x e:Ac}{o:HO}{t':Nat}(I:Inv X pins σ H s)(c:KY (H x))(d:e=x\/H e=some (.own x))(k:∀b u,b≠e->s.heap.get? b=some u->h'.get? b=some u)(a:∃u,h'.get? e=some u)
  (new:Bk X.prog X.w (AU H x o) h' x o):Inv X pins σ (AU H x o) {s with heap:=h',toks:=t' }:=I.un (Un.write c d k a) (I.hok.write c d k a new)
theorem Inv.weak{a:List (Option V)}(I:Inv X pins σ H s)(c:a.length=σ.length)(w:∀(i:Nat) v,a[i]?=some (some v)->σ[i]?=some (some v)):Inv X pins a H s:=
 ⟨I.ok,I.os,I.bare,I.base,let⟨m,d,b⟩:=I.loc;⟨m,d,λi x v e f g=>b i x v e (w i v f) g⟩,I.cell,I.free,I.freeC,I.pin,I.hok,c.trans I.len⟩
theorem Inv.pins_of{a:List (Ac×AM)}(I:Inv X pins σ H s)(h:∀p∈a,s.heap.get? p.1=some p.2/\H p.1=none/\p.1≠X.env.locals/\p.1∉X.fs/\∀v,p.2.data≠.cell v):Inv X a σ H s:=
 ⟨I.ok,I.os,I.bare,I.base,I.loc,I.cell,I.free,I.freeC,λp b=>(List.mem_append.mp b).elim (λz=>I.pin p (JC _ z)) (h p),I.hok,I.len⟩
theorem UW{N:List Ae}(c:N.Nodup){i j:Nat}{x:Ae}(a:N[i]?=some x)(b:N[j]?=some x):i=j:=by
 obtain⟨f,d⟩:=List.getElem?_eq_some_iff.mp a
 obtain⟨g,e⟩:=List.getElem?_eq_some_iff.mp b
 exact(List.getElem_inj c).mp (d.trans e.symm)
theorem UX{M:Model}{A:Aj}{E:Aa->Ab->Prop}{i:Nat}{x:Ae}{v:V}{u:Aa}{Q:Unit->Ab->Prop}(I:Inv X pins σ H s)(hN:X.N.Nodup)(hi:X.N[i]?=some x)(B:Loc X.env.scope x)(r:RelV v u)
  (h:∀s',Inv X pins (σ.set i (some v)) H s'->(∃a,Ds a s.heap s'.heap/\(a=X.env.locals\/X.env.cells.lookup x=some a))->Q () s') (hf:X.fn x=true\/X.env.scope.names.lookup x=some .local:=by first|exact .inl rfl|exact .inr rfl|assumption):wpAny M A (storeName X.env x u) Q E s:=by
 obtain⟨m,hn,hl⟩:=id I.loc
 have hcls:(X.env.scope.kind==.class||(X.env.scope.kind==.module&&X.env.locals != X.env.globals))=false:=by rw[I.ok.kind];rfl
 have J:i<σ.length:=by rw[I.len];exact(List.getElem?_eq_some_iff.mp hi).1
 have O:=I.cne
 have g:∀{a:Ac} {h':Am},(∃o,s.heap.get? a=some o/\H a=none)->Ds a s.heap h'->Co X.prog X.w H h':=λ{a h'} ha f b ob e=>by
  obtain⟨_,_,C⟩:=ha
  refine(I.hok b ob e).stay (λc w' t q=>(f.2 c ?_).trans q) (λ_ q=>q) λ_ _ q=>q
  rintro rfl
  rcases t with rfl|t
  ·rw[C]at e;cases e
  ·rw[C]at t;cases t
 rcases B with L|L
 ·refine wpAny_storeName_local L hn (λh' hn' f=>?_) hcls
  obtain⟨oL,_,_,hoL,_⟩:=id hn
  refine h _ ⟨I.ok,I.os,I.bare,⟨λb o e n T B=>?_,λb o e n T B=>?_,I.base.free,λb o e B=>?_,I.base.tups,I.base.frzs,I.base.tbls⟩,⟨_,hn',λj y v' l G e3=>?_⟩,λy c e=>?_,I.free,I.freeC,λp hp=>?_,g ⟨oL,hoL,I.free⟩ f,by simpa using I.len⟩ ⟨_,f,.inl rfl⟩
  ·exact(f.2 b (CG (Cg (BA e) I.ok.above))).trans (I.base.keep b o e n T B)
  ·obtain⟨sl,l⟩:=I.base.slot b o e n T B
   exact⟨sl,(f.2 b (CG (Cg (BA e) I.ok.above))).trans l⟩
  ·obtain⟨o',l⟩:=I.base.there b o e B
   exact⟨o',(f.2 b (CG (Cg (BA e) I.ok.above))).trans l⟩
  ·by_cases U:j=i
   ·subst U
    rw[hi]at l;cases l
    rw[Fl J]at G
    cases G
    exact⟨u,r,.inl ⟨L,by simp⟩⟩
   ·rw[Er (Bp U)]at G
    obtain⟨u',r',q⟩:=hl j y v' l G e3
    refine⟨u',r',?_⟩
    rcases q with⟨k,e⟩|⟨k,c,e,z⟩
    ·refine .inl ⟨k,?_⟩
     have:y≠x:=λe=>U (UW hN l (e ▸ hi))
     simp[this,e]
    ·exact .inr ⟨k,c,e,z.sameBut f (O y c e)⟩
  ·obtain⟨w',z⟩:=I.cell y c e
   exact⟨w',z.sameBut f (O y c e)⟩
  ·obtain⟨e,n,ne,nf,d⟩:=I.pin p hp
   exact⟨(f.2 p.1 ne).trans e,n,ne,nf,d⟩
 ·have Y:X.fn x=true:=by
   rcases hf with z|z
   ·exact z
   ·rw[z]at L;cases L
  obtain⟨c,t⟩:=I.ok.has x (.inl L)
  obtain⟨w',z⟩:=I.cell x c t
  refine wpAny_storeName_cell I.ok.kind L t z (λh' hc' f=>?_)
  obtain⟨oc,hoc,hocd⟩:=id z
  refine h {s with heap:=h' } ⟨I.ok,I.os,I.bare,⟨λb o e n T B=>?_,λb o e n T B=>?_,I.base.free,λb o e B=>?_,I.base.tups,I.base.frzs,I.base.tbls⟩,⟨m,hn.sameBut f (Bp (O x c t)),λj y v' l G e3=>?_⟩,λy c' e=>?_,I.free,I.freeC,λp hp=>?_,g ⟨oc,hoc,I.freeC x c t⟩ f,by simpa using I.len⟩ ⟨c,f,.inr t⟩
  ·exact(f.2 b (CG (Cg (BA e) (I.ok.cab x c Y t)))).trans (I.base.keep b o e n T B)
  ·obtain⟨sl,l⟩:=I.base.slot b o e n T B
   exact⟨sl,(f.2 b (CG (Cg (BA e) (I.ok.cab x c Y t)))).trans l⟩
  ·obtain⟨o',l⟩:=I.base.there b o e B
   exact⟨o',(f.2 b (CG (Cg (BA e) (I.ok.cab x c Y t)))).trans l⟩
  ·by_cases U:j=i
   ·subst U
    rw[hi]at l;cases l
    rw[Fl J]at G
    cases G
    exact⟨u,r,.inr ⟨.inl L,c,t,hc'⟩⟩
   ·rw[Er (Bp U)]at G
    obtain⟨u',r',q⟩:=hl j y v' l G e3
    refine⟨u',r',?_⟩
    rcases q with q|⟨k,c',e,z'⟩
    ·exact .inl q
    ·refine .inr ⟨k,c',e,z'.sameBut f ?_⟩
     rintro rfl
     exact U (UW hN l (I.ok.inj _ _ _ e t ▸ hi))
  ·by_cases hcc:c'=c
   ·subst hcc;exact⟨_,hc'⟩
   ·obtain⟨w2,z2⟩:=I.cell y c' e
    exact⟨w2,z2.sameBut f hcc⟩
  ·obtain⟨e,n,ne,nf,d⟩:=I.pin p hp
   refine⟨(f.2 p.1 ?_).trans e,n,ne,nf,d⟩
   intro q
   rw[q,hoc]at e
   have q':oc=p.2:=Fm e
   exact d w' (by rw[<- q'];exact hocd)
theorem Qk{M:Model}{A:Aj}{E:Aa->Ab->Prop}{i:Nat}{x:Ae}{v:V}{u:Aa}{Q:Unit->Ab->Prop}(I:Inv X pins σ H s)(a:X.N.Nodup)(b:X.N[i]?=some x)(c:Loc X.env.scope x)(r:RelV v u)
  (h:∀s',Inv X pins (σ.set i (some v)) H s'->Q () s') (d:X.fn x=true\/X.env.scope.names.lookup x=some .local:=by first|exact .inl rfl|exact .inr rfl|assumption):wpAny M A (storeName X.env x u) Q E s:=
 UX I a b c r (λs' e _=>h s' e) d
theorem Inv.call'{s':Ab}{ch:List Ac}(I:Inv X pins σ H s)(h:s'.os=s.os)(u:Un (Cj X.stack) ch H H' s.heap s'.heap)(hok:Co X.prog X.w H' s'.heap)(i:AllBare s'.gens)
  (a:∀b∈ch,(b∈X.ex\/X.s₀.heap.objs.size<=b)/\b≠X.env.locals/\(∀x c,X.env.cells.lookup x=some c->c≠b)/\∀p∈X.pn++pins,p.1≠b):Inv X pins σ H' s':=by
 obtain⟨h',d,f,g,j⟩:=s'
 have e:j=s.os:=h
 subst e
 exact I.call (g':=d) (t':=g) (d':=f) u hok i a
end
abbrev XK:=Aa->Option Ac->Hp->Prop
abbrev St:=List (Option V)
abbrev VK:=V->Hp->Prop
abbrev TE:=St->Hp->VK->Prop
abbrev TT:=St->Hp->(Bool->Hp->Prop)->Prop
abbrev TA:=St->Hp->(List V->Hp->Prop)->Prop
structure Ends where
 nx:St->Hp->Prop
 rt:VK
 bk:St->Hp->Prop:=λ_ _=>False
 ct:St->Hp->Prop:=λ_ _=>False
abbrev TS:=Ends->St->Hp->Prop
def EP(X:Cx)(a:List (Ac×AM))(σ:St)(Q:VK)(u:Aa)(s':Ab):Prop:=∃v b,Inv X a σ b s'/\RelV v u/\Q v b
def TP(X:Cx)(a:List (Ac×AM))(σ:St)(Q:Bool->Hp->Prop)(b:Bool)(s':Ab):Prop:=∃c,Inv X a σ c s'/\Q b c
def AP(X:Cx)(a:List (Ac×AM))(σ:St)(Q:List V->Hp->Prop)(us:List Aa)(s':Ab):Prop:=∃vs b,Inv X a σ b s'/\Aq vs us/\Q vs b
def SP(X:Cx)(b:List (Ac×AM))(D:Ends)(f:Flow)(s':Ab):Prop:=
 match f with
 |.next=>∃a c,Inv X b a c s'/\D.nx a c
 |.brk=>∃a c,Inv X b a c s'/\D.bk a c
 |.cont=>∃a c,Inv X b a c s'/\D.ct a c
 |.ret u=>∃v a c,Inv X b a c s'/\RelV v u/\D.rt v c
def PE(X:Cx)(e:Expr)(t:TE):Prop:=
 ∀(a:List (Ac×AM)) (s:Ab) (b:St) (H:Hp) (Q:VK),Inv X a b H s->t b H Q->wpAny (Af X.prog X.w) X.A (Ay e X.env) (EP X a b Q) X.xe s
def PT(X:Cx)(e:Expr)(t:TT):Prop:=
 ∀(a:List (Ac×AM)) (s:Ab) (b:St) (H:Hp) (Q:Bool->Hp->Prop),Inv X a b H s->t b H Q->wpAny (Af X.prog X.w) X.A (isTrue e X.env (Ay e X.env)) (TP X a b Q) X.xe s
def PW(X:Cx)(e:Expr)(t:TT):Prop:=
 ∀(b:Sem Aa) (a:List (Ac×AM)) (s:Ab) (c:St) (H:Hp) (Q:Bool->Hp->Prop),Inv X a c H s->t c H Q->wpAny (Af X.prog X.w) X.A (isTrue e X.env b) (TP X a c Q) X.xe s
theorem PW.pt{X:Cx}{e:Expr}{t:TT}(h:PW X e t):PT X e t:=h _
def PA(X:Cx)(es:List Expr)(t:TA):Prop:=
 ∀(pos:A5) (a:List (Ac×AM)) (s:Ab) (b:St) (H:Hp) (Q:List V->Hp->Prop),Inv X a b H s->t b H Q->wpAny (Af X.prog X.w) X.A (spliced (AR pos (AN es X.env))) (AP X a b Q) X.xe s
def PS(X:Cx)(st:Au)(t:TS):Prop:=
 ∀(a:List (Ac×AM)) (s:Ab) (b:St) (H:Hp) (D:Ends),Inv X a b H s->t D b H->wpAny (Af X.prog X.w) X.A (exec st X.env) (SP X a D) X.xe s
def Es(X:Cx)(st:List Au)(t:TS):Prop:=
 ∀(a:List (Ac×AM)) (s:Ab) (b:St) (H:Hp) (D:Ends),Inv X a b H s->t D b H->wpAny (Af X.prog X.w) X.A (execs st X.env) (SP X a D) X.xe s
theorem A8{b:Type}{t:Sem b}{Q Q':b->Ab->Prop}{M:Model}{A:Aj}{E:Aa->Ab->Prop}{s:Ab}(h:wpAny M A t Q E s)(c:∀a s,Q a s->Q' a s):wpAny M A t Q' E s:=Eg h c λ_ _ x=>x
section
variable{X:Cx}
theorem ro{a b:Expr}{k l:TE}(n:PE X a k)(o:PE X b l){c:List (Ac×AM)}{s:Ab}{σ:St}{H:Hp}{R:V->V->Hp->Prop}(I:Inv X c σ H s)(h:k σ H λx j=>l σ j λy d=>R x y d)
  {m:Type} {Q:m->Ab->Prop} {f:Aa->Aa->Sem m}
  (p:∀v u i x y d,Inv X c σ d i->RelV x v->RelV y u->R x y d->wpAny (Af X.prog X.w) X.A (f v u) Q X.xe i):
  wpAny (Af X.prog X.w) X.A (Ay a X.env) (λv e=>wpAny (Af X.prog X.w) X.A (Ay b X.env) (λu g=>wpAny (Af X.prog X.w) X.A (f v u) Q X.xe g) X.xe e) X.xe s:=by
 refine A8 (n c s σ H _ I h) λv q ⟨x,j,r,t,q1⟩=>?_
 refine A8 (o c q σ j _ r q1) λu i ⟨y,d,z,B,q2⟩=>?_
 exact p v u i x y d z t B q2
def eW(i:Nat):TE:=λa H Q=>∃v,a[i]?=some (some v)/\Q v H
def tC(v:V):TE:=λ_ H Q=>Q v H
theorem FM{i:Nat}{x:Ae}{pos:A5}(j:X.N[i]?=some x)(k:Dr X.env.scope x)(hd:(x==("__debug__":Ae))=false:=by decide)(f:(x==("__classdict__":Ae))=false:=by decide):PE X (.Name x pos) (eW i):=by
 intro d s n H Q I h
 obtain⟨v,e,h⟩:=h
 obtain⟨m,o,p⟩:=I.loc
 obtain⟨u,r,l⟩:=p i x v j e k
 have fin:EP X d n Q u s:=⟨v,H,I,r,h⟩
 rcases l with⟨b,q⟩|⟨b,c,g,a⟩
 ·exact wpAny_Name (wpAny_loadName_local I.ok.kind b o q fin) hd
 ·rcases b with b|b
  ·exact wpAny_Name (wpAny_loadName_cell I.ok.kind b g a fin) hd
  ·exact wpAny_Name (wpAny_loadName_free I.ok.kind b g a fin f) hd
theorem UY {i j pos}:PE X (.Constant (.int i) j pos) (tC (.int i)):=λ_ _ _ H _ I h=>wpAny_Constant_int ⟨.int i,H,I.tok _,⟨_,rfl⟩,h⟩
theorem eX {b j pos}:PE X (.Constant (.bool b) j pos) (tC (.bl b)):=λ_ _ _ H _ I h=>Constant_bool ⟨.bl b,H,I,rfl,h⟩
theorem eY {j pos}:PE X (.Constant .none j pos) (tC .non):=λ_ _ _ H _ I h=>Constant_none ⟨.non,H,I,rfl,h⟩
theorem eZ {x j pos}:PE X (.Constant (.str x) j pos) (tC (.str x)):=λ_ _ _ H _ I h=>Calls.Constant_str ⟨.str x,H,I.tok _,⟨_,rfl⟩,h⟩
def Gl(X:Cx)(x:Ae):Prop:=X.env.kindOf x=some .globalImplicit
theorem KZ{E:Aa->Ab->Prop}{a:List (Ac×AM)}{s:Ab}{σ:St}{H:Hp}{x:Ae}{u:Aa}{pos:A5}{Q:Aa->Ab->Prop}(I:Inv X a σ H s)(b:Gl X x)(c:X.mg x=some u)(h:Q u s)
  (hd:(x==("__debug__":Ae))=false:=by decide):wpAny (Af X.prog X.w) X.A (Ay (.Name x pos) X.env) Q E s:=
 Calls.Name_function_global I.ok.kind b (Calls.loadGlobal_global (by rw[I.ok.glob];exact I.mod.glob.keeps I.bk) c h) hd
theorem F9{E:Aa->Ab->Prop}{a:List (Ac×AM)}{s:Ab}{σ:St}{H:Hp}{x:Ae}{u:Aa}{pos:A5}{Q:Aa->Ab->Prop}(I:Inv X a σ H s)(b:Gl X x)(c:X.mg x=none)(d:Ep x=some u)(h:Q u s)
  (e:x≠"__name__":=by decide) (hd:(x==("__debug__":Ae))=false:=by decide):wpAny (Af X.prog X.w) X.A (Ay (.Name x pos) X.env) Q E s:=by
 obtain⟨i,f,g⟩:=I.mod.blt
 exact Calls.Name_function_global I.ok.kind b (Calls.loadGlobal_builtin (by rw[I.ok.glob];exact I.mod.glob.keeps I.bk) c (by rw[I.ok.blt];exact f.keeps I.bk) ((g x e).trans d) h) hd
theorem UZ{x:Ae}{v:V}{u:Aa}{pos:A5}(a:Gl X x)(b:X.mg x=some u)(r:RelV v u)(hd:(x==("__debug__":Ae))=false:=by decide):PE X (.Name x pos) (tC v):=
 λ_ _ _ H _ I h=>KZ I a b ⟨v,H,I,r,h⟩ hd
theorem U0{x:Ae}{v:V}{u:Aa}{pos:A5}(a:Gl X x)(b:X.mg x=none)(c:Ep x=some u)(r:RelV v u)(d:x≠"__name__":=by decide)(hd:(x==("__debug__":Ae))=false:=by decide):PE X (.Name x pos) (tC v):=
 λ_ _ _ H _ I h=>F9 I a b c ⟨v,H,I,r,h⟩ d hd
variable{a b:Expr}{ta tb:TE}{pos:A5}
def PC(X:Cx)(op:CmpOp)(a b:Expr)(t:TE):Prop:=
 ∀(c:List (Ac×AM)) (s:Ab) (f:St) (H:Hp) (Q:VK),Inv X c f H s->t f H Q ->
  wpAny (Af X.prog X.w) X.A (Ay a X.env) (λv d=>wpAny (Af X.prog X.w) X.A (Ay b X.env) (λu e=>wpAny (Af X.prog X.w) X.A (Df op v u) (EP X c f Q) X.xe e) X.xe d) X.xe s
theorem G2(b:Expr){op:CmpOp}(h:op≠.In)(a:op≠.NotIn):Ga op b=false:=by
 have c:(op==CmpOp.In)=false:=by cases op<;>first|rfl|exact absurd rfl h
 have d:(op==CmpOp.NotIn)=false:=by cases op<;>first|rfl|exact absurd rfl a
 cases b<;>simp[Ga,c,d]
def e7(ta:TE):TE:=λa H Q=>ta a H λx b=>Q (.bl (decide (x=.non))) b
def e8(ta:TE):TE:=λa H Q=>ta a H λx b=>Q (.bl (!decide (x=.non))) b
theorem RelV.none_iff{x:V}{v:Aa}(r:RelV x v):(v==Ee)=decide (x=.non):=by
 cases x with
 |non=>cases r;rfl
 |bl _=>cases r;rfl
 |int _=>obtain⟨t,rfl⟩:=r;rfl
 |str _=>obtain⟨t,rfl⟩:=r;rfl
 |byt _=>obtain⟨t,rfl⟩:=r;rfl
 |flt _=>obtain⟨t,rfl⟩:=r;rfl
 |ref _=>cases r;rfl
 |ty _=>cases r;rfl
theorem e9 {j b} (d:PE X a ta):PC X .Is a (.Constant .none j b) (e7 ta):=by
 intro c s e H Q I h
 refine A8 (d c s e H _ I h) λv k ⟨x,f,g,i,q1⟩=>?_
 exact Constant_none (is_none_gen ⟨.bl _,f,g,by rw[i.none_iff];rfl,q1⟩)
theorem fe {j b} (d:PE X a ta):PC X .IsNot a (.Constant .none j b) (e8 ta):=by
 intro c s e H Q I h
 refine A8 (d c s e H _ I h) λv k ⟨x,f,g,i,q1⟩=>?_
 exact Constant_none (isnot_none_gen ⟨.bl _,f,g,by rw[i.none_iff];rfl,q1⟩)
def tB(t:TE):TT:=λa H Q=>t a H λx b=>∃c,x=.bl c/\Q c b
theorem U3{op:CmpOp}{t:TE}(h:PC X op a b t)(f:Ga op b=false:=by first|exact G2 _ (by decide) (by decide)|rfl):PT X (.Compare a [op] [b] pos) (tB t):=by
 intro e s g H Q I i
 refine wpAny_isTrue_Compare1 (A8 (h e s g H _ I i) λv n f=>A8 f λu o j=>A8 j λc p ⟨x,k,l,m,q1⟩=>?_) f
 obtain⟨d,rfl,q⟩:=q1
 cases m
 exact HE ⟨k,l,q⟩
variable{tA BI:TT}{Z8:List Expr}
def U4(t u:TT):TT:=λa H Q=>t a H λc b=>if c=true then u a b Q else Q false b
def U5(t u:TT):TT:=λa H Q=>t a H λc b=>if c=true then Q true b else u a b Q
def ff(t:TT):TT:=λa H Q=>t a H λc b=>Q (!c) b
theorem fg(d:PT X a tA):PW X (.BoolOp .And [a] pos) tA:=by
 intro g b s f H Q I h
 refine isTrue_and (A8 (d b s f H Q I h) λc i e=>?_)
 cases c with
 |true=>exact isTrue_and_nil e
 |false=>exact e
theorem fh(d:PT X a tA):PW X (.BoolOp .Or [a] pos) tA:=by
 intro g b s f H Q I h
 refine isTrue_or (A8 (d b s f H Q I h) λc i e=>?_)
 cases c with
 |false=>exact isTrue_or_nil e
 |true=>exact e
theorem fi(i:PT X a tA)(j:PW X (.BoolOp .And (b::Z8) pos) BI):PW X (.BoolOp .And (a::b::Z8) pos) (U4 tA BI):=by
 intro k d s e H Q I h
 refine isTrue_and (A8 (i d s e H _ I h) λc l ⟨f,g,q1⟩=>?_)
 cases c with
 |true=>exact j k d l e f Q g q1
 |false=>exact⟨f,g,q1⟩
theorem fj(i:PT X a tA)(j:PW X (.BoolOp .Or (b::Z8) pos) BI):PW X (.BoolOp .Or (a::b::Z8) pos) (U5 tA BI):=by
 intro k d s e H Q I h
 refine isTrue_or (A8 (i d s e H _ I h) λc l ⟨f,g,q1⟩=>?_)
 cases c with
 |true=>exact⟨f,g,q1⟩
 |false=>exact j k d l e f Q g q1
theorem fm(d:PT X a tA):PT X (.UnaryOp .Not a pos) (ff tA):=by
 intro b s e H Q I h
 exact isTrue_not (d b s e H (λc f=>Q (!c) f) I h)
def fo(ta tb:TE):TE:=λa H Q=>ta a H λx b=>∃c,x=.bl c/\if c=true then tb a b Q else Q (.bl false) b
def fq(ta:TE):TE:=λa H Q=>ta a H λx b=>∃c,x=.bl c/\Q (.bl (!c)) b
theorem ft {op} {t:TE} (h:PE X a t):PE X (.BoolOp op [a] pos) t:=λb s c H Q I d=>BoolOp_one (h b s c H Q I d)
theorem fu(i:PE X a ta)(j:PE X (.BoolOp .And (b::Z8) pos) tb):PE X (.BoolOp .And (a::b::Z8) pos) (fo ta tb):=by
 intro d s e H Q I h
 refine BoolOp_and (A8 (i d s e H _ I h) λv k ⟨x,f,g,l,q1⟩=>?_)
 obtain⟨c,rfl,q1⟩:=q1
 cases l
 refine HE ?_
 cases c with
 |true=>exact j d k e f Q g q1
 |false=>exact⟨.bl false,f,g,rfl,q1⟩
theorem fw(d:PE X a ta):PE X (.UnaryOp .Not a pos) (fq ta):=by
 intro b s e H Q I h
 refine UnaryOp_ (A8 (d b s e H _ I h) λv j ⟨x,f,g,i,q1⟩=>?_)
 obtain⟨c,rfl,q1⟩:=q1
 cases i
 exact not_of (HE ⟨.bl (!c),f,g,rfl,q1⟩)
def fy(t:TT)(ta tb:TE):TE:=λa H Q=>t a H λc b=>if c=true then ta a b Q else tb a b Q
theorem fE{c:Expr}(k:PT X c tA)(l:PE X a ta)(m:PE X b tb):PE X (.IfExp c a b pos) (fy tA ta tb):=by
 intro e s f H Q I h
 refine wpAny_IfExp (A8 (k e s f H _ I h) λd g ⟨i,j,q1⟩=>?_)
 cases d with
 |true=>exact l e g f i Q j q1
 |false=>exact m e g f i Q j q1
end
def BH(K:Ar)(H:Hp)(a:Ac)(xs:List V):Prop:=
 Rd H a (.lst xs) \/
  ∃(o:AM) (b:Array Aa) (n:Nat),K.lookup a=some o/\o.cls=.type "list"/\o.dict=none/\o.data=.seq b n/\b.size<=AG/\Aq xs b.toList
def B0(K:Ar)(H:Hp)(a:Ac)(xs:List V):Prop:=
 Rd H a (.tup xs) \/
  ∃(o:AM) (b:Array Aa) (n:Nat),K.lookup a=some o/\o.cls=.type "tuple"/\o.data=.seq b n/\b.size<=AG/\Aq xs b.toList
def fF:Aa->Option V
 |.none=>some .non
 |.bool b=>some (.bl b)
 |.int i _=>some (.int i)
 |.str x _=>some (.str x)
 |.bytes b _=>some (.byt b)
 |.float b _=>some (.flt b)
 |.ref a=>some (.ref a)
 |.type n=>some (.ty n)
 |_=>none
theorem RelV.abs{x:V}{u:Aa}(r:RelV x u):fF u=some x:=by
 cases x with
 |non=>cases r;rfl
 |bl _=>cases r;rfl
 |int _=>obtain⟨t,rfl⟩:=r;rfl
 |str _=>obtain⟨t,rfl⟩:=r;rfl
 |byt _=>obtain⟨t,rfl⟩:=r;rfl
 |flt _=>obtain⟨t,rfl⟩:=r;rfl
 |ref _=>cases r;rfl
 |ty _=>cases r;rfl
theorem RelV.inj{x y:V}{u:Aa}(r:RelV x u)(q:RelV y u):x=y:=Fm (r.abs.symm.trans q.abs)
theorem Aq.inj:∀{xs ys:List V}{us:List Aa},Aq xs us->Aq ys us->xs=ys
 |_,_,_,.nil,.nil=>rfl
 |_,_,_,.cons r t,.cons a b=>by rw[r.inj a,Aq.inj t b]
section
variable{X:Cx}{pins:List (Ac×AM)}{σ:St}{H:Hp}{s:Ab}{a:Ac}{xs ys:List V}
theorem BH.of{K:Ar}(h:H a=some (.lst xs)):BH K H a xs:=.inl (.inl h)
theorem B0.of{K:Ar}(h:H a=some (.tup xs)):B0 K H a xs:=.inl (.inl h)
theorem Inv.list(I:Inv X pins σ H s)(h:BH X.K H a xs):∃b:List Aa,Aq xs b/\PlainL s.heap a b.toArray/\xs.length<=AG:=by
 rcases h with h|⟨o,b,n,c,d,hd,f,g,r⟩
 ·obtain⟨z,b,n,r,e⟩:=h.ok I.hok
  exact⟨b,r,⟨_,n,e,rfl,rfl,rfl⟩,z⟩
 ·refine⟨b.toList,r,⟨o,n,I.kIn a o c,d,hd,by simpa using f⟩,?_⟩
  have e:=r.length
  simp only[Gb]at e
  omega
theorem Inv.tuple(I:Inv X pins σ H s)(h:B0 X.K H a xs):∃b:List Aa,Aq xs b/\IsTup s.heap a b.toArray/\xs.length<=AG:=by
 rcases h with h|⟨o,b,n,c,d,f,g,r⟩
 ·obtain⟨z,b,r,p⟩:=h.ok I.hok
  exact⟨b,r,p,z⟩
 ·refine⟨b.toList,r,⟨o,I.kIn a o c,d,n,by simpa using f⟩,?_⟩
  have e:=r.length
  simp only[Gb]at e
  omega
theorem Inv.list_inj(I:Inv X pins σ H s)(h:BH X.K H a xs)(h':BH X.K H a ys):xs=ys:=by
 obtain⟨c,r,⟨o,n,e,_,_,d⟩,_⟩:=I.list h
 obtain⟨b,i,⟨j,k,f,_,_,g⟩,_⟩:=I.list h'
 rw[e]at f;cases f
 rw[d]at g
 injection g with d1 _
 have:c=b:=by simpa using congrArg Array.toList d1
 subst this
 exact r.inj i
theorem Inv.tuple_inj(I:Inv X pins σ H s)(h:B0 X.K H a xs)(h':B0 X.K H a ys):xs=ys:=by
 obtain⟨c,r,⟨o,e,_,n,d⟩,_⟩:=I.tuple h
 obtain⟨b,i,⟨j,f,_,k,g⟩,_⟩:=I.tuple h'
 rw[e]at f;cases f
 rw[d]at g
 injection g with d1 _
 have:c=b:=by simpa using congrArg Array.toList d1
 subst this
 exact r.inj i
end
abbrev Cx.wish(X:Cx)(E:Aa->Ab->Prop):Cx:={X with xe:=E}
abbrev Cx.nox(X:Cx):Cx:=X.wish λ_ _=>False
theorem Cx.Ok.wish{X:Cx}(ok:X.Ok)(E:Aa->Ab->Prop):(X.wish E).Ok:=
 ⟨ok.mod,ok.kind,ok.glob,ok.blt,ok.above,ok.inj,ok.has,ok.cab,ok.hd,ok.frames,ok.stk,ok.exf,ok.bs,ok.bsz,ok.noex,ok.exfs,ok.funs,ok.frf⟩
theorem Cx.Ok.unwish{X:Cx}{E:Aa->Ab->Prop}(ok:(X.wish E).Ok):X.Ok:=
 ⟨ok.mod,ok.kind,ok.glob,ok.blt,ok.above,ok.inj,ok.has,ok.cab,ok.hd,ok.frames,ok.stk,ok.exf,ok.bs,ok.bsz,ok.noex,ok.exfs,ok.funs,ok.frf⟩
section
variable{X:Cx}{pins:List (Ac×AM)}{σ:St}{H:Hp}{s:Ab}{E:Aa->Ab->Prop}
theorem Inv.wish(I:Inv X pins σ H s)(E:Aa->Ab->Prop):Inv (X.wish E) pins σ H s:=⟨I.ok.wish E,I.os,I.bare,I.base,I.loc,I.cell,I.free,I.freeC,I.pin,I.hok,I.len⟩
theorem Inv.unwish(I:Inv (X.wish E) pins σ H s):Inv X pins σ H s:=⟨I.ok.unwish,I.os,I.bare,I.base,I.loc,I.cell,I.free,I.freeC,I.pin,I.hok,I.len⟩
theorem SP.unwish{D:Ends}{f:Flow}{s':Ab}(h:SP (X.wish E) pins D f s'):SP X pins D f s':=by
 cases f with
 |next=>obtain⟨a,b,I,q⟩:=h;exact⟨a,b,I.unwish,q⟩
 |brk=>obtain⟨a,b,I,q⟩:=h;exact⟨a,b,I.unwish,q⟩
 |cont=>obtain⟨a,b,I,q⟩:=h;exact⟨a,b,I.unwish,q⟩
 |ret u=>obtain⟨v,a,b,I,r,q⟩:=h;exact⟨v,a,b,I.unwish,r,q⟩
theorem PE.nox{e:Expr}{t:TE}(h:PE X.nox e t):PE X e t:=λpins s σ H Q I a=>
 Eg (h pins s σ H Q (I.wish _) a) (λ_ _ ⟨v,b,c,r,q⟩=>⟨v,b,c.unwish,r,q⟩) λ_ _ z=>BB z
theorem PT.nox{e:Expr}{t:TT}(h:PT X.nox e t):PT X e t:=λpins s σ H Q I a=>
 Eg (h pins s σ H Q (I.wish _) a) (λ_ _ ⟨b,c,q⟩=>⟨b,c.unwish,q⟩) λ_ _ z=>BB z
theorem Es.nox{st:List Au}{t:TS}(h:Es X.nox st t):Es X st t:=λpins s σ H D I a=>
 Eg (h pins s σ H D (I.wish _) a) (λ_ _ q=>q.unwish) λ_ _ z=>BB z
end
section
variable{X:Cx}{st:Au}{Z8:List Au}{t u:TS}{e:Expr}{te:TE}{pos:A5}
def fG:TS:=λD a H=>D.nx a H
def fH(t u:TS):TS:=λD a H=>t {D with nx:=u D} a H
theorem E5:Es X [] fG:=λ_ _ a H _ I h=>wpAny_execs_nil ⟨a,H,I,h⟩
theorem Ql(c:PS X st t)(d:Es X Z8 u):Es X (st::Z8) (fH t u):=by
 intro a s e H D I h
 refine wpAny_execs_cons (A8 (c a s e H {D with nx:=u D} I h) λf g q=>?_)
 cases f with
 |next=>
  obtain⟨b,i,j,q⟩:=q
  exact d a g b i D j q
 |ret v=>exact q
 |brk=>exact q
 |cont=>exact q
theorem Inv.quiet{a:List (Ac×AM)}{σ:St}{H:Hp}{s:Ab}(I:Inv X a σ H s):interactive X.env=false:=by simp[interactive,I.ok.kind]
def fI(te:TE):TS:=λD a H=>te a H λ_ b=>D.nx a b
theorem Qm(c:PE X e te)(d:E6 e none pos.line X.env=AK false:=by rfl):PS X (.Expr e pos) (fI te):=by
 intro a s b H D I h
 exact wpAny_Expr_any (A8 (c a s b H _ I h) λv i ⟨x,f,g,j,q1⟩=>⟨b,f,g,q1⟩) I.quiet d
def fJ(te:TE):TS:=λD a H=>te a H D.rt
theorem K0(c:PE X e te):PS X (.Return (some e) pos) (fJ te):=by
 intro a s b H D I h
 exact wpAny_Return_some (A8 (c a s b H _ I h) λv i ⟨x,d,f,g,q1⟩=>⟨x,b,d,f,g,q1⟩)
def fK(c:TT)(t u:TS):TS:=λD a H=>c a H λb d=>if b=true then t D a d else u D a d
theorem fL{c:Expr}{a b:List Au}{g:TT}(l:PT X c g)(m:Es X a t)(n:Es X b u):PS X (.If c a b pos) (fK g t u):=by
 intro e s f H D I h
 refine wpAny_If (A8 (l e s f H _ I h) λd i ⟨j,k,q1⟩=>?_)
 cases d with
 |true=>exact m e i f j D k q1
 |false=>exact n e i f j D k q1
end
abbrev TG:=V->St->Hp->(St->Hp->Prop)->Prop
abbrev G3:=List V->St->Hp->(St->Hp->Prop)->Prop
def PG(X:Cx)(a:Expr)(t:TG):Prop:=
 ∀(b:List (Ac×AM)) (s:Ab) (d:St) (H:Hp) (v:V) (u:Aa) (Q:St->Hp->Prop),Inv X b d H s->RelV v u->t v d H Q ->
  wpAny (Af X.prog X.w) X.A (assign a X.env u) (λ_ f=>∃c e,Inv X b c e f/\Q c e) X.xe s
def K1(X:Cx)(f:List Expr)(t:G3):Prop:=
 ∀(a:List (Ac×AM)) (s:Ab) (c:St) (H:Hp) (vs:List V) (d:List Aa) (Q:St->Hp->Prop),Inv X a c H s->Aq vs d->t vs c H Q ->
  wpAny (Af X.prog X.w) X.A (assignInOrder ((Gc f X.env).map (·.2)) d) (λ_ g=>∃b e,Inv X a b e g/\Q b e) X.xe s
abbrev MQ:=V->V->V->Hp->(Hp->Prop)->Prop
def U6(X:Cx)(t:MQ):Prop:=
 ∀(a:List (Ac×AM)) (s:Ab) (b:St) (H:Hp) (o i v:V) (c d u:Aa) (Q:Hp->Prop),Inv X a b H s->RelV o c->RelV i d->RelV v u->t o i v H Q ->
  wpAny (Af X.prog X.w) X.A (setItem c d u) (λ_ f=>∃e,Inv X a b e f/\Q e) X.xe s
section
variable{X:Cx}{pos:A5}
def Iz(i:Nat):TG:=λv a H Q=>Q (a.set i (some v)) H
theorem fM{i:Nat}{x:Ae}(b:X.N.Nodup)(c:X.N[i]?=some x)(d:Loc X.env.scope x)(e:X.fn x=true\/X.env.scope.names.lookup x=some .local:=by first|exact .inl rfl|exact .inr rfl|assumption):PG X (.Name x pos) (Iz i):=by
 intro a s g H v u Q I r h
 exact wpAny_assign_Name (Qk I b c d r (λj f=>⟨_,H,f,h⟩) e)
def fN:G3:=λvs a H Q=>vs=[]/\Q a H
def fO(t:TG)(u:G3):G3:=λvs b H Q=>∃v r,vs=v::r/\t v b H λa c=>u r a c Q
theorem fP:K1 X [] fN:=by
 intro a s b H vs c Q I r h
 obtain⟨e,h⟩:=h
 subst e
 cases r
 exact assignInOrder_nil ⟨b,H,I,h⟩
theorem fQ{e:Expr}{es:List Expr}{t:TG}{u:G3}(c:PG X e t)(d:K1 X es u)
  (f:(Gc (e::es) X.env).map (·.2)=assign e X.env::(Gc es X.env).map (·.2):=by rfl):K1 X (e::es) (fO t u):=by
 intro a s g H vs n Q I r h
 obtain⟨v,o,i,h⟩:=h
 subst i
 cases r with
 |cons r j=>
  rw[f]
  refine assignInOrder_cons (A8 (c a s g H _ _ _ I r h) λ_ k ⟨b,l,m,q1⟩=>?_)
  exact d a k b l _ _ Q m j q1
def fR(K:Ar)(n:Nat)(t:G3):TG:=λv c H Q=>∃a b,v=.ref a/\B0 K H a b/\b.length=n/\t b c H Q
theorem fS{es:List Expr}{k:Nat}{t:G3}{n:Nat}(j:X.calm=true)(h:K1 X es t)
  (l:(Gc es X.env).length=n:=by rfl) (d:(Gc es X.env).findIdx? (·.1)=none:=by rfl):PG X (.Tuple es k pos) (fR X.K n t):=by
 intro c s g H v u Q I r f
 obtain⟨a,m,p,q,w,f⟩:=f
 subst p
 cases r
 obtain⟨x,i,y,C⟩:=I.tuple q
 refine assign_Tuple_tuple (I.ok.hd j) y (by simp[l,<- w,i.length]) d λz A=>?_
 have B:Inv X c g H {s with heap:=z}:=I.kept (t':=s.toks) λb o e=>A b o (CG (BA e)) e
 exact h c _ g H m _ Q B (by simpa using i) f
def fT(b c:TE)(t:MQ):TG:=λv a H Q=>b a H λo d=>c a d λi e=>t o i v e λf=>Q a f
theorem fU{o i:Expr}{e f:TE}{t:MQ}(g:PE X o e)(j:PE X i f)(k:U6 X t)
  (l:∀v,assign (.Subscript o i pos) X.env v=(do
   let b <- holding [v] (Ay o X.env)
   let c <- holding [v,b] (Ay i X.env)
   standAt pos
   holding [v,b,c] (setItem b c v)
   release [v,b,c] []):=by intro _;rfl):PG X (.Subscript o i pos) (fT e f t):=by
 intro a s d H v u Q I r h
 rw[l]
 refine Ag (Eh (A8 (g a s d H _ I h) λb m ⟨x,n,p,q,q1⟩=>?_))
 refine Ag (Eh (A8 (j a m d n _ p q1) λc w ⟨y,z,A,B,q2⟩=>?_))
 refine Ag (wpAny_standAt (Ag (Eh (A8 (k a w d z x y v b c u _ A q B r q2) λ_ G ⟨C,E,q3⟩=>?_))))
 exact wpAny_release ⟨d,C,E,q3⟩
def JD(b:TE)(g:TG):TS:=λD a H=>b a H λx c=>g x a c D.nx
theorem U7{b e:Expr}{c:TE}{g:TG}(f:PE X e c)(i:PG X b g)(j:swapsWithSole [b] e pos.line X.env=AK false:=by rfl)(k:swappedStores [b] e X.env=AK none:=by rfl)
  (l:(Gc [b] X.env).map (·.2)=[assign b X.env]:=by rfl):PS X (.Assign [b] e pos) (JD c g):=by
 intro a s d H D I h
 refine wpAny_Assign_stores (A8 (f a s d H _ I h) λv m ⟨x,n,o,p,q1⟩=>?_) j k
 rw[l]
 exact A8 (i a m d n x v _ o p q1) λ_ r q=>q
theorem K2{i:Nat}{x:Ae}{e:Expr}{c:TE}{a:A5}(d:X.N.Nodup)(f:X.N[i]?=some x)(g:Loc X.env.scope x)(j:PE X e c)(k:E6 e (some (.Name x a)) pos.line X.env=AK false:=by rfl)(l:X.fn x=true\/X.env.scope.names.lookup x=some .local:=by first|exact .inl rfl|exact .inr rfl|assumption):
  PS X (.Assign [.Name x a] e pos) (JD c (Iz i)):=by
 intro b s m H D I h
 refine wpAny_Assign_Name (A8 (j b s m H _ I h) λv r ⟨y,n,o,p,q1⟩=>?_) k
 exact Qk o d f g p (λt q=>⟨_,n,q,q1⟩) l
end
section
variable{X:Cx}{pos:A5}
end
structure It where
 go:Nat->Hp->Prop
 yld:Nat->Hp->V->Hp->Prop
 stop:Nat->Hp->Prop
def Fn(X:Cx)(a:List (Ac×AM))(H:Hp)(b:Ac):Prop:=
 H b=none/\b≠X.env.locals/\b∉X.fs/\(b∈X.ex\/X.s₀.heap.objs.size<=b)/\(∀x c,X.env.cells.lookup x=some c->c≠b)/\∀p∈X.pn++a,p.1≠b
theorem Inv.fpOk{X:Cx}{a:List (Ac×AM)}{σ:St}{H H':Hp}{s:Ab}{b:Ac}(I:Inv X a σ H s)(d:s.heap.objs.size<=b)(f:H' b=none):Fn X a H' b:=by
 refine⟨f,FN (Cg I.lt d),I.nofs d,.inr (CN I.sz d),λx c e z=>?_,λp g z=>?_⟩
 ·obtain⟨v,q⟩:=I.cell x c e
  exact absurd (Cg q.lt (by rw[z];exact d)) (F8 _)
 ·exact absurd (Cg (BA (I.pin p g).1) (by rw[z];exact d)) (F8 _)
structure GJ(P:AY)(w:Ai)(K:Ar)(tg:Expr)(J:It)(fp:List Ac)(it:Ac)(tn:Nat->Am->Prop):Prop where
 mem:it∈fp
 obj:∀i h,tn i h->∀b∈fp,∃o,h.get? b=some o/\∀v,o.data≠.cell v
 keep:∀i h h',tn i h->(∀b∈fp,∀o,h.get? b=some o->h'.get? b=some o)->tn i h'
 item:∀(X:Cx),X.prog=P->X.w=w->X.K=K->X.calm=true->∀(i:Nat) (pins:List (Ac×AM)) (s:Ab) (σ:St) (H:Hp) (E:Aa->Ab->Prop),Inv X pins σ H s->(∀b∈fp,Fn X pins H b)->tn i s.heap->J.go i H ->
  wpAny (Af P w) X.A (Bm (.ref it)) (λr s1=>∃u,r=some u /\
   wpAny (Af P w) X.A (JH tg (.ref it) u) (λ_ s2=>∃x H',Inv X pins σ H' s2/\RelV x u/\J.yld i H x H'/\tn (i+1) s2.heap/\∀b∈fp,H' b=none) E s1) E s
 done:∀(X:Cx),X.prog=P->X.w=w->X.K=K->X.calm=true->∀(i:Nat) (pins:List (Ac×AM)) (s:Ab) (σ:St) (H:Hp) (E:Aa->Ab->Prop),Inv X pins σ H s->(∀b∈fp,Fn X pins H b)->tn i s.heap->J.stop i H ->
  wpAny (Af P w) X.A (Bm (.ref it)) (λr s1=>r=none/\Inv X pins σ H s1) E s
 self:∀(A:Aj) (i:Nat) (s:Ab) (Q:Aa->Ab->Prop) (E:Aa->Ab->Prop),tn i s.heap->Q (.ref it) s->wpAny (Af P w) A (pyIter (.ref it)) Q E s
abbrev TI:=St->Hp->(It->Hp->Prop)->Prop
def U8(X:Cx)(a:List (Ac×AM))(σ:St)(h:Expr)(R:It->Hp->Prop)(c:Aa)(e:Ab):Prop:=
 ∃(it:Ac) (f:List Ac) (g:Nat->Am->Prop) (J:It) (d:Hp),c=.ref it/\Inv X a σ d e/\GJ X.prog X.w X.K h J f it g/\g 0 e.heap/\(∀b∈f,Fn X a d b)/\R J d
def PI(X:Cx)(c iter:Expr)(d:TI):Prop:=
 ∀(a:List (Ac×AM)) (s:Ab) (b:St) (H:Hp) (R:It->Hp->Prop),Inv X a b H s->d b H R ->
  wpAny (Af X.prog X.w) X.A (Ay iter X.env) (λv e=>wpAny (Af X.prog X.w) X.A (pyIter v) (U8 X a b c R) X.xe e) X.xe s
theorem K3{M:Model}{A:Aj}{E:Aa->Ab->Prop}{s:Ab}{b:Expr}{it:Ac}{u:Aa}{o:AM}{n:String}{vs:Array Aa}{Q:Unit->Ab->Prop}(c:s.heap.get? it=some o)(d:o.cls=.type n)(hd:o.data=.fields vs)
  (e:["enumerate","zip","dict_itemiterator","dict_reverseitemiterator","odict_iterator","itertools.zip_longest","itertools.pairwise"].contains n=false) (a:Q () s):wpAny M A (JH b (.ref it) u) Q E s:=by
 unfold JH
 cases b<;>first
  |exact AE a
  |(cases u<;>first
    |exact AE a
    |(refine Ag (wpAny_load c ?_)
      rw[d,hd]
      show wpAny M A (if(["enumerate","zip","dict_itemiterator","dict_reverseitemiterator","odict_iterator","itertools.zip_longest","itertools.pairwise"].contains n&&vs[0]?==some (AH _))=true then _ else _) Q E s
      rw[if_neg (by intro h;rw[e,Bool.false_and]at h;cases h)]
      exact AE a))
def U9(K:Ar)(a:Ac):It:=
 ⟨λi H=>∃b x,BH K H a b/\b[i]?=some x,λi H x c=>c=H/\∀b,BH K H a b->b[i]?=some x,λi H=>∃b,BH K H a b/\b.length<=i⟩
def Va(K:Ar)(a:Ac):It:=
 ⟨λi H=>∃b x,B0 K H a b/\b[i]?=some x,λi H x c=>c=H/\∀b,B0 K H a b->b[i]?=some x,λi H=>∃b,B0 K H a b/\b.length<=i⟩
def K4(lo:Int)(n:Nat):It:=⟨λi _=>i<n,λi H x a=>a=H/\x=.int (lo+i),λi _=>n<=i⟩
theorem fV{P:AY}{w:Ai}{K:Ar}{T:Expr}(a it:Ac):GJ P w K T (U9 K a) [it] it (λi h=>h.IsListIter it a i) where
 mem:=by simp
 obj:=λi h st b g=>by
  have e:b=it:=by simpa using g
  subst e
  obtain⟨o,e,c,d⟩:=st
  exact⟨o,e,λv z=>by rw[d]at z;cases z⟩
 keep:=λi h l st k=>st.at λo e=>k it (by simp) o e
 item:=by
  intro X q r t O i f s Q H E I m st y
  subst q r t
  obtain⟨U,x,n,A⟩:=y
  obtain⟨B,C,p,Y⟩:=I.list n
  obtain⟨u,hu,ru⟩:=C.get A
  obtain⟨G,J,f2,L,M,N⟩:=m it (by simp)
  refine wpAny_pyNext_list_item st p.isList (x:=u) (by simpa using hu) λl j sb=>?_
  have I1:Inv X f Q H {s with heap:=l}:=I.turned (t':=s.toks) (λb o g e=>(sb.2 b g).trans e) G J L M N
  obtain⟨o,e,c,d⟩:=id j
  exact⟨u,rfl,K3 (s:={s with heap:=l}) e c d (by decide) ⟨x,H,I1,ru,⟨rfl,λys hy=>by rw[I.list_inj hy n];exact A⟩,j,λb g=>(m b g).1⟩⟩
 done:=by
  intro X q r t O i f s Q H E I m st y
  subst q r t
  obtain⟨U,n,A⟩:=y
  obtain⟨B,C,p,Y⟩:=I.list n
  obtain⟨G,J,f2,L,M,N⟩:=m it (by simp)
  have hl:=C.length
  exact wpAny_pyNext_list_end (I.ok.hd O) st p.isList (by simp;omega) λl eb=>⟨rfl,I.turned (t':=s.toks) (λb o g e=>eb b o g e) G J L M N⟩
 self:=λ_ _ _ _ _ st h=>wpAny_pyIter_listiter st h
theorem fW{P:AY}{w:Ai}{K:Ar}{T:Expr}(a it:Ac):GJ P w K T (Va K a) [it] it (λi h=>h.IsTupleIter it a i) where
 mem:=by simp
 obj:=λi h st b g=>by
  have e:b=it:=by simpa using g
  subst e
  obtain⟨o,e,c,d⟩:=st
  exact⟨o,e,λv z=>by rw[d]at z;cases z⟩
 keep:=λi h m st k=>st.at λo e=>k it (by simp) o e
 item:=by
  intro X r t y O i f s Q H E I n st A
  subst r t y
  obtain⟨U,x,q,B⟩:=A
  obtain⟨j,C,p,Y⟩:=I.tuple q
  obtain⟨u,hu,ru⟩:=C.get B
  obtain⟨G,J,f2,L,M,N⟩:=n it (by simp)
  refine wpAny_pyNext_tuple_item st (show s.heap.IsTuple a j.toArray from p) (x:=u) (by simpa using hu) λm l sb=>?_
  have I1:Inv X f Q H {s with heap:=m}:=I.turned (t':=s.toks) (λb o g e=>(sb.2 b g).trans e) G J L M N
  obtain⟨o,e,c,d⟩:=id l
  exact⟨u,rfl,K3 (s:={s with heap:=m}) e c d (by decide) ⟨x,H,I1,ru,⟨rfl,λys hy=>by rw[I.tuple_inj hy q];exact B⟩,l,λb g=>(n b g).1⟩⟩
 done:=by
  intro X r t y O i f s Q H E I n st A
  subst r t y
  obtain⟨U,q,B⟩:=A
  obtain⟨j,C,p,Y⟩:=I.tuple q
  obtain⟨G,J,f2,L,M,N⟩:=n it (by simp)
  have hl:=C.length
  exact wpAny_pyNext_tuple_end (I.ok.hd O) st (show s.heap.IsTuple a j.toArray from p) (by simp;omega) λm eb=>⟨rfl,I.turned (t':=s.toks) (λb o g e=>eb b o g e) G J L M N⟩
 self:=λ_ _ _ _ _ st h=>wpAny_pyIter_tupleiter st h
theorem fX{P:AY}{w:Ai}{K:Ar}{G:Expr}(it:Ac)(lo:Int)(n:Nat):GJ P w K G (K4 lo n) [it] it (λi h=>IsRangeIter h it (lo+(i:Nat)*1) ((n:Int)-(i:Nat)) 1) where
 mem:=by simp
 obj:=λi h st b c=>by
  have e:b=it:=by simpa using c
  subst e
  exact⟨_,st,λv z=>by
   have J:Data.fields _=G4 v:=z
   cases J⟩
 keep:=λi h f st k=>k it (by simp) _ st
 item:=by
  intro X j l m p i a s B H E I g st q
  subst j l m
  obtain⟨r,u,L,x,y,A⟩:=g it (by simp)
  have W:=Walks.range (prog:=X.prog) (w:=X.w) (I.ok.hd p) it lo 1 n
  refine W.item i s _ _ q st λv f C M d N=>?_
  obtain⟨t,rfl⟩:=M
  have O:Inv X a B H {s with heap:=f,toks:=C}:=I.turned (λb o c e=>N b o (by simpa using c) e) r u x y A
  refine⟨_,rfl,K3 (s:={s with heap:=f,toks:=C}) (n:="range_iterator") d rfl rfl (by decide) ⟨.int (lo+i),H,O,⟨t,?_⟩,⟨rfl,rfl⟩,d,λb c=>(g b c).1⟩⟩
  rw[Int.mul_one]
 done:=by
  intro X j l m p i a s B H E I g st q
  subst j l m
  obtain⟨r,u,L,x,y,A⟩:=g it (by simp)
  exact wpAny_pyNext_range_end (I.ok.hd p) st (by have:n<=i:=q;omega) λf Q=>⟨rfl,I.turned (t':=s.toks) (λb o c e=>Q b o c e) r u x y A⟩
 self:=λ_ _ _ _ _ st h=>wpAny_pyIter_rangeiter st h
section
variable{X:Cx}{tg:Expr}
def fY(K:Ar)(c:TE):TI:=λd H R=>c d H λx b=>∃a,x=.ref a/\(∃e,BH K b a e)/\R (U9 K a) b
def fZ(K:Ar)(c:TE):TI:=λd H R=>c d H λx b=>∃a,x=.ref a/\(∃e,B0 K b a e)/\R (Va K a) b
theorem f3{l:Expr}{g:TE}(i:PE X l g):PI X tg l (fY X.K g):=by
 intro c s j H R I h
 refine A8 (i c s j H _ I h) λv d ⟨x,k,f,m,q1⟩=>?_
 obtain⟨a,e,⟨u,n⟩,q⟩:=q1
 subst e
 cases m
 obtain⟨r,w,p,y⟩:=f.list n
 refine wpAny_pyIter_list p.isList ?_
 refine⟨d.heap.objs.size,[d.heap.objs.size],_,_,k,rfl,f.kept (t':=d.toks) λb o e=>Bj _ e,fV a _,⟨_,Ca _ rfl,rfl,rfl⟩,λb t=>?_,q⟩
 have e:b=d.heap.objs.size:=by simpa using t
 subst e
 exact f.fpOk (BD _) (f.hok.fresh (BD _))
theorem f4{l:Expr}{i:TE}(j:PE X l i):PI X tg l (fZ X.K i):=by
 intro c s k H R I h
 refine A8 (j c s k H _ I h) λv d ⟨x,m,f,n,q1⟩=>?_
 obtain⟨a,e,⟨u,r⟩,q⟩:=q1
 subst e
 cases n
 obtain⟨g,w,p,y⟩:=f.tuple r
 refine wpAny_pyIter_tuple (show d.heap.IsTuple a g.toArray from p) ?_
 refine⟨d.heap.objs.size,[d.heap.objs.size],_,_,m,rfl,f.kept (t':=d.toks) λb o e=>Bj _ e,fW a _,⟨_,Ca _ rfl,rfl,rfl⟩,λb t=>?_,q⟩
 have e:b=d.heap.objs.size:=by simpa using t
 subst e
 exact f.fpOk (BD _) (f.hok.fresh (BD _))
theorem Vb{c:List (Ac×AM)}{σ:St}{H:Hp}{s:Ab}{R:It->Hp->Prop}{E:Aa->Ab->Prop}{lo a:Int}{t u v:Tok}{d:Nat}(I:Inv X c σ H s)(g : -(2^62)<=lo)(h:lo<2^62)(i : -(2^62)<=a)(j:a<2^62)
  (q:R (K4 lo (a-lo).toNat) H):wpAny (Af X.prog X.w) X.A (pyIter (.ref s.heap.objs.size)) (U8 X c σ tg R) E {s with heap:=s.heap.push {cls:=.type "range",data:=.fields #[.int lo t,.int a u,.int 1 v]},toks:=d}:=by
 refine wpAny_pyIter_range (IsRange.new ..) (small_one g h i j) ?_
 have f:Inv X c σ H {s with heap:=s.heap.push {cls:=.type "range",data:=.fields #[.int lo t,.int a u,.int 1 v]},toks:=d}:=I.kept λb o e=>Bj _ e
 refine⟨(s.heap.push {cls:=.type "range",data:=.fields #[.int lo t,.int a u,.int 1 v]}).objs.size,[(s.heap.push {cls:=.type "range",data:=.fields #[.int lo t,.int a u,.int 1 v]}).objs.size],_,_,H,rfl,
  f.kept (t':=d) λb o e=>Bj _ e,fX _ lo (a-lo).toNat,?_,λb k=>?_,q⟩
 ·have l:lo+((0:Nat):Int)*1=lo:=by simp
  have m:(((a-lo).toNat:Nat):Int)-((0:Nat):Int)=Builtin.Range.rangeSize lo a 1:=by rw[rangeSize_one];split<;>omega
  show IsRangeIter _ _ (lo+((0:Nat):Int)*1) ((((a-lo).toNat:Nat):Int)-((0:Nat):Int)) 1
  rw[l,m]
  exact Ca _ rfl
 ·have e:b=(s.heap.push {cls:=.type "range",data:=.fields #[.int lo t,.int a u,.int 1 v]}).objs.size:=by simpa using k
  subst e
  exact f.fpOk (BD _) (f.hok.fresh (BD _))
def f5(a:TA):TI:=λb H R=>a b H λvs c=>∃j:Int,vs=[.int j] /\ -(2^62)<=j/\j<2^62/\R (K4 0 j.toNat) c
def f6(a:TA):TI:=λb H R=>a b H λvs c=>∃i j:Int,vs=[.int i,.int j]/\(-(2^62)<=i/\i<2^62 /\ -(2^62)<=j/\j<2^62)/\R (K4 i (j-i).toNat) c
theorem Vc{a:Expr}{c:TA}{p pos:A5}(d:Gl X "range")(f:X.mg "range"=none)(g:PA X [a] c)(i:AN [a] X.env=[(false,Ay a X.env)]:=by rfl):PI X tg (.Call (.Name "range" p) [a] [] pos) (f5 c):=by
 intro b s k H R I h
 refine Call_ (F9 I d f boot_range (JJ (A8 (g pos b s k H _ I h) λo u ⟨vs,v,l,m,q1⟩=>?_) i rfl))
 obtain⟨j,e,q1,q2,q⟩:=q1
 subst e
 cases m with
 |cons r n=>
  cases n
  obtain⟨t,rfl⟩:=r
  exact call_range_1 (Vb l (by omega) (by omega) q1 q2 (by simpa using q))
theorem f7{a b:Expr}{g:TA}{p pos:A5}(k:Gl X "range")(l:X.mg "range"=none)(m:PA X [a,b] g)(n:AN [a,b] X.env=[(false,Ay a X.env),(false,Ay b X.env)]:=by rfl)(c:AN [b] X.env=[(false,Ay b X.env)]:=by rfl):
  PI X tg (.Call (.Name "range" p) [a,b] [] pos) (f6 g):=by
 intro d s o H R I h
 refine Call_ (F9 I k l boot_range (JJ (A8 (m pos d s o H _ I h) λx y ⟨vs,z,u,v,q1⟩=>?_) (by rw[n,c]) (by rw[c];rfl)))
 obtain⟨i,j,e,⟨q1,q2,q3,q4⟩,q⟩:=q1
 subst e
 cases v with
 |cons r f=>
  cases f with
  |cons w f=>
   cases f
   obtain⟨t,rfl⟩:=r
   obtain⟨A,rfl⟩:=w
   exact call_range_2 (Vb u q1 q2 q3 q4 q)
def Vd(f:TI)(g:TG)(h:TS):TS:=λD a H=>f a H λJ j=>∃W:Nat->Nat->St->Hp->Prop,(∃m,W 0 m a j)/\∀i m a H,W i m a H ->
 (J.stop i H/\D.nx a H)\/(J.go i H/\∃N:St->Hp->Prop,(∀b c,N b c->∃e,e<m/\W (i+1) e b c)/\∀x c,J.yld i H x c->g x a c λd k=>h {D with nx:=N,ct:=N,bk:=D.nx} d k)
def IA(a:List Ac)(h:Am):List (Ac×AM):=a.filterMap λb=>(h.get? b).map λo=>(b,o)
theorem MR{a:List Ac}{h:Am}{b:Ac}{o:AM}(c:b∈a)(e:h.get? b=some o):(b,o)∈IA a h:=List.mem_filterMap.mpr ⟨b,c,by rw[e];rfl⟩
theorem Ve{a:List Ac}{h:Am}{p:Ac×AM}(c:p∈IA a h):p.1∈a/\h.get? p.1=some p.2:=by
 obtain⟨b,d,e⟩:=List.mem_filterMap.mp c
 cases q:h.get? b with
 |none=>rw[q]at e;cases e
 |some o=>
  rw[q]at e
  have f:(b,o)=p:=Fm e
  subst f
  exact⟨d,q⟩
theorem Inv.pinned{a:List (Ac×AM)}{σ:St}{H:Hp}{s:Ab}{c:List Ac}(I:Inv X a σ H s)(h:∀b∈c,Fn X a H b)(i:∀b∈c,∃o,s.heap.get? b=some o/\∀v,o.data≠.cell v):Inv X (a++IA c s.heap) σ H s:=
 I.pins_of λp j=>(List.mem_append.mp j).elim (λz=>I.pin p (C2 _ z)) λz=>by
  obtain⟨f,e⟩:=Ve z
  obtain⟨k,l,m,_⟩:=h p.1 f
  obtain⟨o,g,d⟩:=i p.1 f
  rw[e]at g;cases g
  exact⟨e,k,l,m,d⟩
theorem Inv.unpinned{a b:List (Ac×AM)}{σ:St}{H:Hp}{s:Ab}(I:Inv X (a++b) σ H s):Inv X a σ H s:=I.pins_of λp c=>I.pin p (C2 _ (JC _ c))
theorem Vf{iter:Expr}{z:List Au}{wi:TI}{g:TG}{tb:TS}{pos:A5}(C:PassesOwn (Af X.prog X.w) X.A X.env X.xe)(hc:X.calm=true)(hi:PI X tg iter wi)(hg:PG X tg g)(j:Es X z tb)
  (hs:∀x,HF iter X.env x=AK x:=by intro _;rfl):PS X (.For tg iter z [] pos) (Vd wi g tb):=by
 intro a s σ H D I h
 refine wpAny_For (A8 (hi a s σ H _ I h) λv s1 h1=>A8 h1 λitv s2 h2=>?_) hs
 obtain⟨it,E,tn,J,H2,e,I2,T,O,f2,W,⟨m0,w0⟩,turn⟩:=h2
 subst e
 have k:∀{y:Hp},(∀b∈E,y b=none)->∀b∈E,Fn X a y b:=λhn b j=>⟨hn b j,(f2 b j).2⟩
 refine codeAny_forLoop_any (λn s'=>∃i l y,Inv X a l y s'/\tn i s'.heap/\(∀b∈E,y b=none)/\W i n l y) ?_ m0 ⟨0,σ,H2,I2,O,λb j=>(f2 b j).1,w0⟩
 rintro n s3 ⟨i,p,M,I3,G,L,w3⟩
 rcases turn i n p M w3 with⟨stop,qn⟩|⟨go,N,hN,step⟩
 ·refine MS C (A8 (T.done X rfl rfl rfl hc i a s3 p M X.xe I3 (k L) G stop) λr s4 ⟨Q,I4⟩=>?_)
  subst Q
  exact wpAny_execs_nil ⟨p,M,I4,qn⟩
 ·refine MS C (A8 (T.item X rfl rfl rfl hc i a s3 p M X.xe I3 (k L) G go) λr s4 ⟨u,Q,h4⟩=>?_)
  subst Q
  refine MS C (A8 h4 λ_ s5 ⟨x,H5,I5,r5,y5,B,U⟩=>?_)
  have Y:=I5.pinned (k U) (T.obj _ _ B)
  refine MS C (A8 (hg _ s5 p H5 x u _ Y r5 (step x H5 y5)) λ_ s6 ⟨σ6,H6,I6,q6⟩=>?_)
  refine MS C (A8 (j _ s6 σ6 H6 _ I6 q6) λf s7 q7=>?_)
  have again:∀{c:St} {q:Hp},Inv X (a++IA E s5.heap) c q s7->N c q->∃m,m<n/\∃i l y,Inv X a l y s7/\tn i s7.heap/\(∀b∈E,y b=none)/\W i m l y:=λ{c q} t n7=>by
   obtain⟨m',hm,w7⟩:=hN c q n7
   refine⟨m',hm,i+1,c,q,t.unpinned,T.keep _ _ _ B λb j o e=>(t.pin (b,o) (C2 _ (C2 _ (MR j e)))).1,λb j=>?_,w7⟩
   obtain⟨o,e,d⟩:=T.obj _ _ B b j
   exact(t.pin (b,o) (C2 _ (C2 _ (MR j e)))).2.1
  cases f with
  |next=>obtain⟨c,q,t,n7⟩:=q7;exact again t n7
  |cont=>obtain⟨c,q,t,n7⟩:=q7;exact again t n7
  |brk=>obtain⟨c,q,t,q7⟩:=q7;exact⟨c,q,t.unpinned,q7⟩
  |ret v=>obtain⟨x7,c,q,t,r7,q7⟩:=q7;exact⟨x7,c,q,t.unpinned,r7,q7⟩
end
abbrev R2:=V->V->Hp->VK->Prop
def B5(X:Cx)(f:Aa->Aa->Sem Aa)(r:R2):Prop:=
 ∀(a:List (Ac×AM)) (s:Ab) (b:St) (H:Hp) (x y:V) (v u:Aa) (Q:VK),Inv X a b H s->RelV x v->RelV y u->r x y H Q ->
  wpAny (Af X.prog X.w) X.A (f v u) (EP X a b Q) X.xe s
def Qn(X:Cx)(f:Aa->Sem Aa)(r:V->Hp->VK->Prop):Prop:=
 ∀(a:List (Ac×AM)) (s:Ab) (b:St) (H:Hp) (x:V) (v:Aa) (Q:VK),Inv X a b H s->RelV x v->r x H Q ->
  wpAny (Af X.prog X.w) X.A (f v) (EP X a b Q) X.xe s
def A9(X:Cx)(f:Aa)(r:List V->Hp->VK->Prop):Prop:=
 ∀(a:List (Ac×AM)) (s:Ab) (b:St) (H:Hp) (c:List V) (d:List Aa) (Q:VK),Inv X a b H s->Aq c d->r c H Q ->
  wpAny (Af X.prog X.w) X.A (call f d) (EP X a b Q) X.xe s
def f8(X:Cx)(r:V->Hp->(Bool->Hp->Prop)->Prop):Prop:=
 ∀(a:List (Ac×AM)) (s:Ab) (b:St) (H:Hp) (x:V) (v:Aa) (Q:Bool->Hp->Prop),Inv X a b H s->RelV x v->r x H Q ->
  wpAny (Af X.prog X.w) X.A (truthy v) (TP X a b Q) X.xe s
def JL(r:R2)(b c:TE):TE:=λa H Q=>b a H λx d=>c a d λy e=>r x y e Q
def f9(r:V->Hp->VK->Prop)(a:TE):TE:=λb H Q=>a b H λx c=>r x c Q
def rI(C:Int->Int->Prop)(g:Int->Int->V):R2:=λx y H Q=>∃i j,x=.int i/\y=.int j/\C i j/\Q (g i j) H
def GK(g:Int->Int->V):R2:=λx y H Q=>∃i j,x=.int i/\y=.int j/\Q (g i j) H
def rU(g:Int->V):V->Hp->VK->Prop:=λx H Q=>∃i,x=.int i/\Q (g i) H
section
variable{X:Cx}{a b c:Expr}{ta tb tc:TE}{pos:A5}
theorem Qo(k:PE X a ta)(l:PE X b tb){c:List (Ac×AM)}{s:Ab}{σ:St}{H:Hp}{R:V->V->Hp->Prop}(I:Inv X c σ H s)
  (h:ta σ H λx j=>tb σ j λy d=>R x y d) {Q:Aa->Ab->Prop} {f:Aa->Aa->Sem Aa}
  (m:∀v u i x y d,Inv X c σ d i->RelV x v->RelV y u->R x y d->wpAny (Af X.prog X.w) X.A (f v u) Q X.xe i):
  wpAny (Af X.prog X.w) X.A (Ay a X.env) (λv e=>wpAny (Af X.prog X.w) X.A (Ay b X.env) (λu g=>wpAny (Af X.prog X.w) X.A (f v u) Q X.xe g) X.xe e) X.xe s:=by
 refine A8 (k c s σ H _ I h) λv n ⟨x,j,o,p,q1⟩=>?_
 refine A8 (l c n σ j _ o q1) λu i ⟨y,d,q,r,q2⟩=>?_
 exact m v u i x y d q p r q2
theorem gb{op:Operator}{r:R2}(d:B5 X (FO op) r)(e:PE X a ta)(f:PE X b tb):PE X (.BinOp a op b pos) (JL r ta tb):=by
 intro c s g H Q I h
 exact wpAny_BinOp (Qo e f I h λv u i x y j k l m q=>d c i g j x y v u Q k l m q)
theorem gc{op:UnaryOp}{r:V->Hp->VK->Prop}(d:Qn X (unaryOp op) r)(e:PE X a ta):PE X (.UnaryOp op a pos) (f9 r ta):=by
 intro b s c H Q I h
 exact UnaryOp_ (A8 (e b s c H _ I h) λv f ⟨x,g,i,j,q1⟩=>d b f c g x v Q i j q1)
theorem K5{f:Aa->Aa->Sem Aa}{C:Int->Int->Prop}{g:Int->Int->Int}
  (rule:∀(i j:Int) (t u:Tok) (s:Ab) (Q:Aa->Ab->Prop) (E:Aa->Ab->Prop),C i j->Q (.int (g i j) s.toks) {s with toks:=s.toks+1}->wpAny (Af X.prog X.w) X.A (f (.int i t) (.int j u)) Q E s):
  B5 X f (rI C λi j=>.int (g i j)):=by
 intro a s k H x y v u Q I b c h
 obtain⟨i,j,rfl,rfl,d,q⟩:=h
 obtain⟨t,rfl⟩:=b
 obtain⟨e,rfl⟩:=c
 exact rule i j t e s _ _ d ⟨.int (g i j),H,I.tok _,⟨_,rfl⟩,q⟩
theorem Vg{f:Aa->Aa->Sem Aa}{g:Int->Int->Int}
  (rule:∀(i j:Int) (t u:Tok) (s:Ab) (Q:Aa->Ab->Prop) (E:Aa->Ab->Prop),Q (.int (g i j) s.toks) {s with toks:=s.toks+1}->wpAny (Af X.prog X.w) X.A (f (.int i t) (.int j u)) Q E s):
  B5 X f (GK λi j=>.int (g i j)):=by
 intro a s e H x y v u Q I b c h
 obtain⟨i,j,rfl,rfl,q⟩:=h
 obtain⟨t,rfl⟩:=b
 obtain⟨d,rfl⟩:=c
 exact rule i j t d s _ _ ⟨.int (g i j),H,I.tok _,⟨_,rfl⟩,q⟩
theorem Qp{f:Aa->Aa->Sem Aa}{g:Int->Int->Bool}
  (rule:∀(i j:Int) (t u:Tok) (s:Ab) (Q:Aa->Ab->Prop) (E:Aa->Ab->Prop),Q (.bool (g i j)) s->wpAny (Af X.prog X.w) X.A (f (.int i t) (.int j u)) Q E s):
  B5 X f (GK λi j=>.bl (g i j)):=by
 intro a s e H x y v u Q I b c h
 obtain⟨i,j,rfl,rfl,q⟩:=h
 obtain⟨t,rfl⟩:=b
 obtain⟨d,rfl⟩:=c
 exact rule i j t d s _ _ ⟨.bl (g i j),H,I,rfl,q⟩
def DR(i j:Int):Prop:=0<j/\j<1073741824
def E7(i j:Int):Prop:=0<=j/\j<=1000000/\i.natAbs<2^64
def C3(i j:Int):Prop:=(-(2^64)<i/\i<2^64)\/(-(2^64)<j/\j<2^64)
theorem C3.ok{i j:Int}(h:C3 i j):IntMulOk i j:=by
 rcases h with⟨a,b⟩|⟨a,b⟩
 ·exact .of_left (intBits_le_64 a b)
 ·exact .of_right (intBits_le_64 a b)
theorem IB:B5 X (FO .Add) (GK λi j=>.int (i+j)):=Vg λ_ _ _ _ _ _ _ q=>add_int q
theorem ge:B5 X (FO .Sub) (GK λi j=>.int (i-j)):=Vg λ_ _ _ _ _ _ _ q=>sub_int q
theorem gf:B5 X (FO .Mult) (rI C3 λi j=>.int (i*j)):=K5 λ_ _ _ _ _ _ _ a q=>mul_int q a.ok
theorem gg:B5 X (FO .FloorDiv) (rI DR λi j=>.int (i/j)):=K5 λi j _ _ _ _ _ a q=>by
 have b:(0:Int)<j:=a.1
 have c:j<1073741824:=a.2
 exact floordiv_int (by omega) (by rw[Int.fdiv_eq_ediv_of_nonneg i (by omega)];exact q) (.inl (PyProof.noPylong_small (by omega)))
theorem gh:B5 X (FO .Mod) (rI (λ_ j=>0<j) λi j=>.int (i%j)):=K5 λi j _ _ _ _ _ a q=>by
 have b:(0:Int)<j:=a
 exact mod_int' (by omega) (by rw[Int.fmod_eq_emod_of_nonneg i (by omega)];exact q)
theorem gi:B5 X (FO .Pow) (rI E7 λi j=>.int (i^j.toNat)):=K5 λ_ _ _ _ _ _ _ a q=>pow_int_small a.1 a.2.1 a.2.2 q
theorem gj{f:Aa->Sem Aa}{g:Int->Int}
  (rule:∀(i:Int) (t:Tok) (s:Ab) (Q:Aa->Ab->Prop) (E:Aa->Ab->Prop),Q (.int (g i) s.toks) {s with toks:=s.toks+1}->wpAny (Af X.prog X.w) X.A (f (.int i t)) Q E s):
  Qn X f (rU λi=>.int (g i)):=by
 intro a s c H x v Q I b h
 obtain⟨i,rfl,q⟩:=h
 obtain⟨t,rfl⟩:=b
 exact rule i t s _ _ ⟨.int (g i),H,I.tok _,⟨_,rfl⟩,q⟩
theorem gl:Qn X (unaryOp .USub) (rU λi=>.int (-i)):=gj λ_ _ _ _ _ q=>neg_int q
end
section
variable{X:Cx}{a b c:Expr}{ta tb tc:TE}{pos:A5}
theorem Vh{a:List (Ac×AM)}{σ:St}{H:Hp}{s:Ab}{Q:VK}{k b:Bool}(I:Inv X a σ H s)(q:Q (.bl k) H)(e:k=b):EP X a σ Q (.bool b) s:=by
 subst e
 exact⟨.bl k,H,I,rfl,q⟩
theorem gm:B5 X (Df .LtE) (GK λi j=>.bl (decide (i<=j))):=Qp λ_ _ _ _ _ _ _ q=>le_int q
theorem Vi:B5 X (Df .Gt) (GK λi j=>.bl (decide (j<i))):=Qp λ_ _ _ _ _ _ _ q=>gt_int q
theorem gp:B5 X (Df .GtE) (GK λi j=>.bl (decide (j<=i))):=Qp λ_ _ _ _ _ _ _ q=>ge_int q
theorem Vj:B5 X (Df .In) (λx y H Q=>∃i j,x=.str i/\y=.str j/\Q (.bl (!(K6 j i 0 j.length 1).isEmpty)) H):=by
 intro a s d H x y v u Q I b c h
 obtain⟨i,j,rfl,rfl,q⟩:=h
 obtain⟨t,rfl⟩:=b
 obtain⟨e,rfl⟩:=c
 exact in_str (Vh I q rfl)
theorem gq:B5 X (Df .NotIn) (λx y H Q=>∃i j,x=.str i/\y=.str j/\Q (.bl (!(!(K6 j i 0 j.length 1).isEmpty))) H):=by
 intro a s d H x y v u Q I b c h
 obtain⟨i,j,rfl,rfl,q⟩:=h
 obtain⟨t,rfl⟩:=b
 obtain⟨e,rfl⟩:=c
 exact notIn_str (Vh I q rfl)
theorem B5.or{f:Aa->Aa->Sem Aa}{r b:R2}(h:B5 X f r)(h':B5 X f b):B5 X f (λx y H Q=>r x y H Q\/b x y H Q):=by
 intro a s c H x y v u Q I d e q
 rcases q with q|q
 ·exact h a s c H x y v u Q I d e q
 ·exact h' a s c H x y v u Q I d e q
theorem gt{op:CmpOp}{r:R2}(d:B5 X (Df op) r)(e:PE X a ta)(f:PE X b tb)(g:Ga op b=false):PE X (.Compare a [op] [b] pos) (JL r ta tb):=by
 intro c s i H Q I h
 exact wpAny_Compare1 (Qo e f I h λv u j x y k l m n q=>d c j i k x y v u Q l m n q) g
def Vk(t:TE):TT:=λa H Q=>t a H λx b=>∃k,x=.bl k/\Q k b
theorem gu{op:CmpOp}{r:R2}(g:B5 X (Df op) r)(i:PE X a ta)(j:PE X b tb)(l:Ga op b=false):PT X (.Compare a [op] [b] pos) (Vk (JL r ta tb)):=by
 intro d s f H Q I h
 refine wpAny_isTrue_Compare1 (A8 (i d s f H _ I h) λv m ⟨x,n,o,p,q1⟩=>A8 (j d m f n _ o q1) λu q ⟨y,t,w,A,q2⟩=>
  A8 (g d q f t x y v u _ w p A q2) λc G ⟨z,B,C,E,k,e,q3⟩=>?_) l
 subst e
 cases E
 exact HE ⟨B,C,q3⟩
def Vl(r c:R2)(ta tb tc:TE):TE:=λa H Q=>ta a H λx d=>tb a d λy e=>r x y e λz b=>∃k,z=.bl k /\
 (if k=true then tc a b λf g=>c y f g Q else Q (.bl false) b)
theorem gv{op g:CmpOp}{r l:R2}(p:B5 X (Df op) r)(j:B5 X (Df g) l)(q:PE X a ta)(t:PE X b tb)(w:PE X c tc)
  (A:lastMarks [op,g] [b,c]=false:=by with_unfolding_all rfl):PT X (.Compare a [op,g] [b,c] pos) (Vk (Vl r l ta tb tc)):=by
 intro f s i H Q I h
 refine isTrue_chain (A8 (q f s i H _ I h) λv B ⟨x,C,E,G,q1⟩=>test_link (A8 (t f B i C _ E q1) λu J ⟨y,L,M,m,q2⟩=>
  A8 (p f J i L x y v u _ M G m q2) λd N ⟨z,n,o,O,k,e,q3⟩=>?_)) A
 subst e
 cases O
 refine HE ?_
 cases k with
 |false=>
  obtain⟨k',T,U⟩:=q3
  cases T
  exact ite_ff ⟨n,o,U⟩
 |true=>
  refine ite_tt (test_last (A8 (w f N i n _ o q3) λY s4 ⟨z',H4,I4,r4,q4⟩=>A8 (j f s4 i H4 y z' u Y _ I4 m r4 q4) λd' s5 ⟨z2,H5,I5,r5,k2,e2,q5⟩=>?_))
  subst e2
  cases r5
  exact HE ⟨H5,I5,q5⟩
def Vm(K:Ar)(x:V)(H:Hp)(k:Bool):Prop:=
 match x with
 |.non=>k=false
 |.bl b=>k=b
 |.int i=>k=(i != 0)
 |.str y=>y.length<=AG/\k=((y.length:Int) != 0)
 |.byt y=>y.size<=AG/\k=((y.size:Int) != 0)
 |.ref p=>(∃a,BH K H p a/\k=!a.isEmpty)\/(∃a,B0 K H p a/\k=!a.isEmpty)\/∃c,H p=some (.dK c)/\k=!c.isEmpty
 |_=>False
theorem gw{a:Type}{kvs:List (a×V)}{vs:List (a×Aa)}(r:KV kvs vs):(!vs.isEmpty)=!kvs.isEmpty:=by
 cases r<;>rfl
theorem Vn{xs:List V}{a:List Aa}(r:Aq xs a):(!a.toArray.isEmpty)=!xs.isEmpty:=by
 cases r<;>simp
theorem K7:(AG:Nat)<2^63:=by rw[BN];decide
theorem gx:f8 X (λx H Q=>∃k,Vm X.K x H k/\Q k H):=by
 intro o s B H x v Q I g h
 obtain⟨k,e,q⟩:=h
 have C:=K7
 have E:AG=16777216:=BN
 cases x with
 |non=>
  cases g
  have a:k=false:=e
  subst a
  exact truthy_none ⟨H,I,q⟩
 |bl b=>
  cases g
  have a:k=b:=e
  subst a
  exact HE ⟨H,I,q⟩
 |int i=>
  obtain⟨t,rfl⟩:=g
  have a:k=(i != 0):=e
  subst a
  exact PySem.P.truthy_int ⟨H,I,q⟩
 |str y=>
  obtain⟨t,rfl⟩:=g
  obtain⟨z,a⟩:y.length<=AG/\k=((y.length:Int) != 0):=e
  subst a
  exact PySem.P.truthy_str (by omega) ⟨H,I.tok _,q⟩
 |byt y=>
  obtain⟨t,rfl⟩:=g
  obtain⟨z,a⟩:y.size<=AG/\k=((y.size:Int) != 0):=e
  subst a
  exact PySem.W.truthy_bytes (by omega) ⟨H,I.tok _,q⟩
 |ref p=>
  cases g
  have a:(∃f,BH X.K H p f/\k=!f.isEmpty)\/(∃f,B0 X.K H p f/\k=!f.isEmpty)\/∃c,H p=some (.dK c)/\k=!c.isEmpty:=e
  rcases a with⟨f,j,a⟩|⟨f,j,a⟩|⟨c,j,a⟩
  ·subst a
   obtain⟨l,r,n,u⟩:=I.list j
   have d:=r.length
   exact wpAny_truthy_list n.isList (by simp only[BR];omega) ⟨H,I.tok _,by rw[Vn r];exact q⟩
  ·subst a
   obtain⟨l,r,n,u⟩:=I.tuple j
   have d:=r.length
   exact truthy_tuple n (by simp only[BR];omega) ⟨H,I.tok _,by rw[Vn r];exact q⟩
  ·subst a
   obtain⟨u,A,vs,r,m⟩:c.length<=AG/\(p==FL)=false/\∃vs,KV c vs/\s.heap.DictOf (Qi X.prog X.w) p vs:=I.hok p _ j
   have d:c.length=vs.length:=GI r
   exact wpAny_truthy_dict A m (by omega) ⟨H,I.tok _,by rw[gw r];exact q⟩
 |_=>exact(show False from e).elim
theorem gy(d:PE X a ta)(e:∀b,isTrue a X.env b=(do let v <- b;standAt a.pos;holding [v] (truthy v))):
  PT X a (λσ H Q=>ta σ H λx H'=>∃k,Vm X.K x H' k/\Q k H'):=by
 intro c s σ H Q I h
 exact isTrue_plain (A8 (d c s σ H _ I h) λv f ⟨x,g,i,j,q1⟩=>gx c f σ g x v Q i j q1) (e _)
theorem EL:B5 X (FO .Add) (λx y H Q=>∃i j,x=.str i/\y=.str j/\i.length+j.length<=AG/\Q (.str (i++j)) H):=by
 intro a s f H x y v u Q I b c h
 obtain⟨i,j,rfl,rfl,d,q⟩:=h
 obtain⟨t,rfl⟩:=b
 obtain⟨e,rfl⟩:=c
 exact add_str (λe g=>⟨.str (i++j),H,I.tok _,⟨_,rfl⟩,q⟩) d
theorem DS{x:V}{us:List Aa}(r:Aq [x] us):∃u,us=[u]/\RelV x u:=by
 cases r with
 |cons a b=>cases b;exact⟨_,rfl,a⟩
theorem K8{x y:V}{us:List Aa}(r:Aq [x,y] us):∃u a,us=[u,a]/\RelV x u/\RelV y a:=by
 cases r with
 |cons b c=>
  cases c with
  |cons d e=>cases e;exact⟨_,_,rfl,b,d⟩
theorem gz(c:X.calm=true):A9 X (.builtin "max") (λxs H Q=>∃i j,xs=[.int i,.int j]/\Q (.int (if j>i then j else i)) H):=by
 intro b s d H xs e Q I r h
 obtain⟨i,j,rfl,q⟩:=h
 obtain⟨u,f,rfl,⟨t,rfl⟩,⟨g,rfl⟩⟩:=K8 r
 refine max_two_ints (I.ok.hd c) λl m k=>⟨_,H,I.kept k,?_,q⟩
 by_cases a:j>i
 ·rw[if_pos a,if_pos a];exact⟨_,rfl⟩
 ·rw[if_neg a,if_neg a];exact⟨_,rfl⟩
theorem gA(c:X.calm=true):A9 X (.builtin "min") (λxs H Q=>∃i j,xs=[.int i,.int j]/\Q (.int (if j<i then j else i)) H):=by
 intro b s d H xs e Q I r h
 obtain⟨i,j,rfl,q⟩:=h
 obtain⟨u,f,rfl,⟨t,rfl⟩,⟨g,rfl⟩⟩:=K8 r
 refine min_two_ints (I.ok.hd c) λl m k=>⟨_,H,I.kept k,?_,q⟩
 by_cases a:j<i
 ·rw[if_pos a,if_pos a];exact⟨_,rfl⟩
 ·rw[if_neg a,if_neg a];exact⟨_,rfl⟩
theorem MT:A9 X (.type "int") (λxs H Q=>(∃i,xs=[.int i]/\Q (.int i) H)\/∃k,xs=[.bl k]/\Q (.int (if k then 1 else 0)) H):=by
 intro a s c H xs d Q I r h
 rcases h with⟨i,rfl,q⟩|⟨k,rfl,q⟩
 ·obtain⟨u,rfl,t,rfl⟩:=DS r
  exact call_int_int ⟨.int i,H,I,⟨_,rfl⟩,q⟩
 ·obtain⟨u,rfl,b⟩:=DS r
  cases b
  exact call_int_bool ⟨.int (if k then 1 else 0),H,I.tok _,⟨_,rfl⟩,q⟩
theorem gB:A9 X (.type "str") (λxs H Q=>∃i,xs=[.int i]/\i.natAbs.log2<1920/\Q (.str (BF i)) H):=by
 intro a s c H xs d Q I r h
 obtain⟨i,rfl,b,q⟩:=h
 obtain⟨u,rfl,t,rfl⟩:=DS r
 exact PySem.P.str_of_int b ⟨.str _,H,I.tok _,⟨_,rfl⟩,q⟩
def Vo(K:Ar)(x:V)(H:Hp)(n:Nat):Prop:=
 match x with
 |.str y=>y.length<=AG/\n=y.length
 |.byt y=>y.size<=AG/\n=y.size
 |.ref p=>(∃a,BH K H p a/\n=a.length)\/∃a,B0 K H p a/\n=a.length
 |_=>False
theorem Et:A9 X (.builtin "len") (λxs H Q=>∃x n,xs=[x]/\Vo X.K x H n/\Q (.int n) H):=by
 intro j s m H xs o Q I r h
 obtain⟨x,n,rfl,e,q⟩:=h
 obtain⟨u,rfl,c⟩:=DS r
 have v:=K7
 have w:AG=16777216:=BN
 cases x with
 |str y=>
  obtain⟨t,rfl⟩:=c
  obtain⟨k,b⟩:y.length<=AG/\n=y.length:=e
  subst b
  exact len_str (by omega) ⟨.int _,H,I.tok _,⟨_,rfl⟩,q⟩
 |byt y=>
  obtain⟨t,rfl⟩:=c
  obtain⟨k,b⟩:y.size<=AG/\n=y.size:=e
  subst b
  exact PySem.W.len_bytes (by omega) ⟨.int _,H,I.tok _,⟨_,rfl⟩,q⟩
 |ref p=>
  cases c
  have b:(∃xs,BH X.K H p xs/\n=xs.length)\/∃xs,B0 X.K H p xs/\n=xs.length:=e
  rcases b with⟨xs,d,b⟩|⟨xs,d,b⟩
  ·subst b
   obtain⟨f,g,i,l⟩:=I.list d
   have a:=g.length
   exact Calls.call_len_list i.isList (by simp only[BR];omega) ⟨.int xs.length,H,I.tok _,⟨_,by simp only[BR];rw[a]⟩,q⟩
  ·subst b
   obtain⟨f,g,i,l⟩:=I.tuple d
   have a:=g.length
   exact len_tuple i (by simp only[BR];omega) ⟨.int xs.length,H,I.tok _,⟨_,by simp only[BR];rw[a]⟩,q⟩
 |_=>exact(show False from e).elim
end
section
variable{prog:AY}{w:Ai}{A:Aj}{E:Aa->Ab->Prop}{s:Ab}{K:Ar}{x dx C f:Ac}{mA:Ae->Option Aa}{name:Ae}{v:Aa}
end
section
variable{P:AY}{w:Ai}{H H':Hp}{h h':Am}{a C dx:Ac}{fs fs':List (Ae×V)}
end
structure Vp(K:Ar)(C:Ac):Prop where
 pg:PySem.W.plainGet K C Str.empty=true
 hd:PySem.W.hasDictIn K C=true
 po:PySem.W.plainOver K C=true
 sa:PySem.W.findIn K (.ref C) "__setattr__"=some (some (.builtin "object.__setattr__"))
theorem Vp.get{K:Ar}{C:Ac}(c:Vp K C)(f:Ae):PySem.W.plainGet K C f=true:=c.pg
section
variable{X:Cx}{pins:List (Ac×AM)}{σ:St}{H:Hp}{s:Ab}{a C dx:Ac}{fs:List (Ae×V)}{f:Ae}{v:V}{A:Aj}{E:Aa->Ab->Prop}
end
section
variable{X:Cx}{o e value:Expr}{f:Ae}{pos pos' tpos:A5}{ta tv:TE}
end
section
variable{X:Cx}{pins:List (Ac×AM)}{σ:St}{H:Hp}{s:Ab}{A:Aj}{E:Aa->Ab->Prop}{Q:Aa->Ab->Prop}{c:Aa}{b:Bool}
end
structure Bd(k:Nat)(A:Aj):Prop where
 hd:A.handled=none
 dp:A.depth+3*k+5<recursionLimit
 un:A.units+16*k+200<Az
theorem Bd.mono{j k:Nat}{A:Aj}(r:Bd k A)(h:j<=k):Bd j A:=⟨r.hd,by have:=r.dp;omega,by have:=r.un;omega⟩
theorem Bd.deeper{k:Nat}{A:Aj}(r:Bd (k+1) A)(env:Env):Bd k (A.deeper env):=
 ⟨r.hd,by have:=r.dp;show A.depth+1+3*k+5<_;omega,by have:=r.un;show A.units+3+16*k+200<_;omega⟩
theorem Bd.in1{k:Nat}{A:Aj}(r:Bd (k+1) A):Bd k A.in1:=
 ⟨r.hd,by have:=r.dp;show A.depth+3*k+5<_;omega,by have:=r.un;show A.units+1+16*k+200<_;omega⟩
theorem Bd.depth{k:Nat}{A:Aj}(r:Bd k A):A.depth<recursionLimit:=by have:=r.dp;omega
theorem Bd.units{k:Nat}{A:Aj}(r:Bd k A):A.units+64<Az:=by have:=r.un;omega
def Vq:TA:=λ_ H Q=>Q [] H
def Vr(b:TE)(c:TA):TA:=λa H Q=>b a H λx d=>c a d λe f=>Q (x::e) f
section
variable{X:Cx}{e:Expr}{es:List Expr}{te:TE}{t:TA}{pos:A5}
theorem Bt:PA X [] Vq:=λ_ _ _ _ H Q I h=>Calls.spliced_nil ⟨[],H,I,.nil,h⟩
theorem DE(c:PE X e te)(d:PA X es t)(f:AN (e::es) X.env=(false,Ay e X.env)::AN es X.env:=by rfl):PA X (e::es) (Vr te t):=by
 intro pos a s b H Q I h
 rw[f]
 show wpAny _ _ (spliced ((false,Ay e X.env)::AR pos (AN es X.env))) _ _ s
 refine Calls.spliced_cons (A8 (c a s b H _ I h) λu g ⟨x,i,j,k,q1⟩=>?_)
 exact A8 (d pos a g b i _ j q1) λp q ⟨l,m,n,o,q2⟩=>⟨x::l,m,n,.cons k o,q2⟩
def gC(t:TA):TE:=λc H Q=>t c H λa b=>a.length<=AG/\∀p,b p=none->Q (.ref p) (AU b p (.tup a))
def gD(t:TA):TE:=λc H Q=>t c H λa b=>a.length<=AG/\∀p,b p=none->Q (.ref p) (AU b p (.lst a))
theorem gE {g} (h:PA X es t):PE X (.Tuple es g pos) (gC t):=by
 intro a s i H Q I j
 refine wpAny_Tuple_spliced (A8 (h pos a s i H _ I j) λk c ⟨l,d,f,r,z,q⟩=>⟨by rw[<- r.length];exact z,?_⟩)
 have m:d c.heap.objs.size=none:=f.hok.fresh (BD _)
 refine⟨.ref c.heap.objs.size,AU d c.heap.objs.size (.tup l),f.laid (t':=c.toks) (λb u e=>Bj _ e) (BD _) ?_,rfl,q _ m⟩
 exact⟨z,k,r,⟨_,Ca _ rfl,rfl,_,rfl⟩⟩
theorem MU(h:PA X es t):PE X (.List es pos) (gD t):=by
 intro a s g H Q I i
 refine wpAny_List_spliced (A8 (h pos a s g H _ I i) λj c ⟨k,d,f,r,z,q⟩=>⟨by rw[<- r.length];exact z,?_⟩)
 have l:d c.heap.objs.size=none:=f.hok.fresh (BD _)
 refine⟨.ref c.heap.objs.size,AU d c.heap.objs.size (.lst k),f.laid (t':=c.toks) (λb u e=>Bj _ e) (BD _) ?_,rfl,q _ l⟩
 exact⟨z,j,0,r,Ca _ rfl⟩
end
abbrev Sp:=List V->Hp->VK->XK->Prop
abbrev EM:=List Env->Hp->Ab->XK->Aa->Ab->Prop
structure C4(P:AY)(w:Ai)(K:Ar)(mg:Ae->Option Aa)(base:Am)(A:Aj)(outer:List Env)(s:Ab)(H:Hp):Prop where
 frames:A.frames=some outer
 mod:Mod K mg base
 bs:∀b o,base.get? b=some o->s.heap.get? b=some o/\H b=none
 bsz:base.objs.size<=s.heap.objs.size
 funs:s.heap.FunFrames base outer
 frf:∀b∈Cj outer,H b=none
 hok:Co P w H s.heap
 bare:AllBare s.gens
def CE(outer:List Env)(P:AY)(w:Ai)(H:Hp)(s:Ab)(Q:VK)(u:Aa)(s':Ab):Prop:=
 ∃v a,s'.os=s.os/\AllBare s'.gens/\Un (Cj outer) [] H a s.heap s'.heap/\Co P w a s'.heap/\RelV v u/\Q v a
def CR(CX:EM)(outer:List Env)(P:AY)(w:Ai)(H:Hp)(s:Ab)(Q:VK)(E:XK)(r:Result)(s':Ab):Prop:=
 match r with
 |.ok (.ret u)=>CE outer P w H s Q u s'
 |.ok _=>False
 |.error e=>CX outer H s E e s'
structure Ax(P:AY)(w:Ai)(K:Ar)(mg:Ae->Option Aa)(base:Am)(CX:EM)(k:Nat)(f:Ac)(fd:Bi)(ps:List Ae)(sp:Sp):Prop where
 len:∀vs H Q E,sp vs H Q E->vs.length=ps.length
 run:∀(A:Aj) (outer:List Env) (s:Ab) (H:Hp) (args:Args) (us:List Aa) (vs:List V) (Q:VK) (E:XK),Bd k A->C4 P w K mg base A outer s H->BindsTo s fd args (ps.zip us)->Aq vs us->sp vs H Q E ->
  codeAny (Af P w) A (.call (.ref f) args) (CR CX outer P w H s Q E) s
theorem Ax.mono{P:AY}{w:Ai}{K:Ar}{mg:Ae->Option Aa}{base:Am}{CX:EM}{j k:Nat}{f:Ac}{fd:Bi}{ps:List Ae}{sp:Sp}(F:Ax P w K mg base CX j f fd ps sp)(h:j<=k):
  Ax P w K mg base CX k f fd ps sp:=⟨F.len,λA outer s H args a vs Q E b=>F.run A outer s H args a vs Q E (b.mono h)⟩
theorem Ax.imp{P:AY}{w:Ai}{K:Ar}{mg:Ae->Option Aa}{base:Am}{CX:EM}{k:Nat}{f:Ac}{fd:Bi}{ps:List Ae}{sp a:Sp}(F:Ax P w K mg base CX k f fd ps sp)
  (h:∀vs H Q E,a vs H Q E->sp vs H Q E):Ax P w K mg base CX k f fd ps a:=
 ⟨λvs H Q E q=>F.len vs H Q E (h _ _ _ _ q),λA outer s H args b vs Q E c d e g i=>F.run A outer s H args b vs Q E c d e g (h _ _ _ _ i)⟩
theorem C4.in1{P:AY}{w:Ai}{K:Ar}{mg:Ae->Option Aa}{base:Am}{A:Aj}{outer:List Env}{s:Ab}{H:Hp}(e:C4 P w K mg base A outer s H):
  C4 P w K mg base A.in1 outer s H:=⟨e.frames,e.mod,e.bs,e.bsz,e.funs,e.frf,e.hok,e.bare⟩
section
variable{X:Cx}{pins:List (Ac×AM)}{σ:St}{H:Hp}{s s':Ab}
theorem Inv.env0(I:Inv X pins σ H s):C4 X.prog X.w X.K X.mg X.base X.A X.stack s H:=
 ⟨I.ok.frames,I.ok.mod,I.bs,CN I.ok.bsz I.sz,I.stack,I.stkFree,I.hok,I.bare⟩
theorem Inv.after{Q:VK}{u:Aa}(I:Inv X pins σ H s)(h:CE X.stack X.prog X.w H s Q u s'):EP X pins σ Q u s':=by
 obtain⟨v,c,os,bare,un,hok,r,q⟩:=h
 obtain⟨e,g,d,t,a⟩:=s'
 obtain rfl:a=s.os:=os
 exact⟨v,c,I.call (h':=e) (g':=g) (d':=d) (t':=t) (ch:=[]) un hok bare (λb z=>absurd z (by simp)),r,q⟩
end
def Qq(sp:Sp)(a:List V)(E:XK)(t:TA):TE:=λb H Q=>t b H λvs c=>sp (vs++a) c Q E
def Binds(K:Ar)(fd:Bi)(ps:List Ae)(b:List Aa):Prop:=
 ∀(s:Ab) (a:List Aa),K.In s.heap->(a++b).length=ps.length->BindsTo s fd ⟨a,[]⟩ (ps.zip (a++b))
theorem Binds.all{K:Ar}{fd:Bi}{ps:List Ae}(h:∀us:List Aa,us.length=ps.length->bindArgs fd ⟨us,[]⟩=AK (ps.zip us)):Binds K fd ps []:=λs us _ a=>by
 rw[Fp]at a ⊢
 exact .of_eq (h us a)
def K9(CX:EM)(X:Cx)(E:XK):Prop:=∀(a:List (Ac×AM))(c:St)(H:Hp)(s:Ab)(e:Aa)(b:Ab),Inv X a c H s->CX X.stack H s E e b->X.xe e b
section
variable{X:Cx}{CX:EM}{k:Nat}{f C:Ac}{fd:Bi}{ps:List Ae}{sp:Sp}{dvs:List V}{ds:List Aa}{E:XK}{x m:Ae}{p pos apos:A5}{e o:Expr}{es:List Expr}{ta:TE}{t:TA}
theorem gF{a:List (Ac×AM)}{σ:St}{H:Hp}{s:Ab}{Q:VK}{us:List Aa}{vs:List V}(F:Ax X.prog X.w X.K X.mg X.base CX k f fd ps sp)(d:Bd k X.A)(g:Binds X.K fd ps ds)(hd:Aq dvs ds)(i:K9 CX X E)
  (I:Inv X a σ H s) (r:Aq vs us) (h:sp (vs++dvs) H Q E):wpAny (Af X.prog X.w) X.A (call (.ref f) us) (EP X a σ Q) X.xe s:=by
 have c:Aq (vs++dvs) (us++ds):=r.append hd
 have j:(us++ds).length=ps.length:=by rw[<- c.length];exact F.len _ _ _ _ h
 refine wpAny_call (codeAny_mono (F.run X.A X.stack s H ⟨us,[]⟩ (us++ds) (vs++dvs) Q E d I.env0 (g s us I.kIn j) c h) λr l b=>?_)
 cases r with
 |error e=>exact i a σ H s e l I b
 |ok m=>
  cases m with
  |ret u=>exact I.after b
  |next=>exact BB b
  |brk=>exact BB b
  |cont=>exact BB b
theorem Vs(F:Ax X.prog X.w X.K X.mg X.base CX k f fd ps sp)(i:Bd k X.A)(j:Gl X x)(l:X.mg x=some (.ref f))(m:La X.K (.ref f)=true)(n:Binds X.K fd ps ds)(hd:Aq dvs ds)(o:K9 CX X E)
  (u:PA X (e::es) t) (b:(x==("__debug__":Ae))=false:=by decide) (v:AN (e::es) X.env=(false,Ay e X.env)::AN es X.env:=by rfl) (c:(AR pos (AN es X.env)).any (·.1)=false:=by rfl):
  PE X (.Call (.Name x p) (e::es) [] pos) (Qq sp dvs E t):=by
 intro a s y H Q I h
 refine Lb (KZ I j l ?_ b)
 refine PySem.W.callWith_K (h₀:=X.base) I.ok.mod.kin m (A8 (u pos a s y H _ I h) λz B ⟨vs,C,g,r,q⟩=>⟨g.kIn,?_⟩) v c
 exact gF F i n hd o g r q
end
def PK(X:Cx)(b:List BE)(t:TA):Prop:=
 ∀(pos:A5) (a:List (Ac×AM)) (s:Ab) (c:St) (H:Hp) (Q:List V->Hp->Prop),Inv X a c H s->t c H Q->wpAny (Af X.prog X.w) X.A (evalAll ((backToKw pos (IC b X.env)).map (·.2))) (AP X a c Q) X.xe s
section
variable{X:Cx}{CX:EM}{k:Nat}{f C:Ac}{fd:Bi}{ps ks:List Ae}{sp:Sp}{E:XK}{x m:Ae}{p pos apos kpos:A5}{e o:Expr}{es:List Expr}{kws:List BE}{te ta:TE}{t tk:TA}{nm:Option Ae}
theorem Vt:PK X [] Vq:=λ_ _ _ _ H Q I h=>wpAny_evalAll_nil ⟨[],H,I,.nil,h⟩
theorem Vu(c:PE X e te)(d:PK X kws t):PK X (⟨nm,e,kpos⟩::kws) (Vr te t):=by
 intro pos a s b H Q I h
 show wpAny _ _ (evalAll ((do let v <- Ay e X.env;standAt pos;AK v)::(backToKw pos (IC kws X.env)).map (·.2))) _ _ s
 refine wpAny_evalAll_cons (Ag (A8 (c a s b H _ I h) λu f ⟨x,g,i,j,q1⟩=>Ag (wpAny_standAt (AE ?_))))
 exact A8 (d pos a f b g _ i q1) λo p ⟨k,l,m,n,q2⟩=>⟨x::k,l,m,.cons j n,q2⟩
variable{g:List Aa->List Aa->List Aa}{gV:List V->List V->List V}
end
structure ZE(N P:List Ae)(sc:Scope):Prop where
 kind:sc.kind=.function
 co:sc.isCoroutine=false
 gen:sc.isGenerator=false
 nd:N.Nodup
 pre:N.take P.length=P
 par:∀x∈P,sc.names.lookup x=some .local\/sc.names.lookup x=some .cell
 nofree:∀y∈sc.names,y.2≠.free
theorem Vv{kindOf:Ae->Option EO}{x:Ae}:∀{a:List (Ae×Aa)}{m:Ae->Option Aa},(∀v,(x,v)∉a)->bindL kindOf a m x=m x
 |[],_,_=>rfl
 |(n,v)::r,m,h=>by
  unfold bindL
  rw[Vv λw b=>h w (Bv _ b)]
  split
  ·have:x≠n:=by rintro rfl;exact h v BC
   simp[this]
  ·rfl
theorem Vw{kindOf:Ae->Option EO}{x:Ae}:∀{a:List (Ae×Aa)}{m:Ae->Option Aa},(∀v,(x,v)∉a)->bindC kindOf a m x=m x
 |[],_,_=>rfl
 |(n,v)::r,m,h=>by
  unfold bindC
  rw[Vw λw b=>h w (Bv _ b)]
  split
  ·rfl
  ·have:x≠n:=by rintro rfl;exact h v BC
   simp[this]
theorem Vx{kindOf:Ae->Option EO}{x:Ae}{v:Aa}:∀{P:List Ae}{vs:List Aa}{i:Nat}{m:Ae->Option Aa},P.Nodup->P[i]?=some x->vs[i]?=some v->kindOf x=some .local ->
  bindL kindOf (P.zip vs) m x=some v
 |[],_,_,_,_,h,_,_=>by simp at h
 |_::_,[],_,_,_,_,h,_=>by simp at h
 |p::P,w::vs,0,m,nd,a,b,c=>by
  simp at a b;subst a;subst b
  show bindL kindOf ((p,w)::P.zip vs) m p=_
  unfold bindL
  rw[Vv λv d=>(EQ.mp nd).1 (List.of_mem_zip d).1,if_pos c]
  simp
 |p::P,w::vs,i+1,m,nd,a,b,c=>by
  show bindL kindOf ((p,w)::P.zip vs) m x=_
  unfold bindL
  exact Vx (i:=i) (EQ.mp nd).2 (by simpa using a) (by simpa using b) c
theorem Vy{kindOf:Ae->Option EO}{x:Ae}{v:Aa}:∀{P:List Ae}{vs:List Aa}{i:Nat}{m:Ae->Option Aa},P.Nodup->P[i]?=some x->vs[i]?=some v->kindOf x≠some .local ->
  bindC kindOf (P.zip vs) m x=some v
 |[],_,_,_,_,h,_,_=>by simp at h
 |_::_,[],_,_,_,_,h,_=>by simp at h
 |p::P,w::vs,0,m,nd,a,b,c=>by
  simp at a b;subst a;subst b
  show bindC kindOf ((p,w)::P.zip vs) m p=_
  unfold bindC
  rw[Vw λv d=>(EQ.mp nd).1 (List.of_mem_zip d).1,if_neg c]
  simp
 |p::P,w::vs,i+1,m,nd,a,b,c=>by
  show bindC kindOf ((p,w)::P.zip vs) m x=_
  unfold bindC
  exact Vy (i:=i) (EQ.mp nd).2 (by simpa using a) (by simpa using b) c
def FP(N:List Ae)(vs:List V):St:=vs.map some++DF (N.length-vs.length) none
def Gd(CX:EM)(P:AY)(w:Ai)(K:Ar)(mg:Ae->Option Aa)(base:Am)(N:List Ae)(a:Ae)(scope:Scope)(f:Ac)(c:Aa)(A:Aj)(outer:List Env)(s:Ab)(H:Hp)(E:XK):Cx where
 prog:=P
 w:=w
 K:=K
 mg:=mg
 base:=base
 A:=A.deeper (envOfC a scope s.heap.objs.size f c)
 N:=N
 s₀:=s
 H₀:=H
 env:=envOfC a scope s.heap.objs.size f c
 outer:=outer
 stack:=envOfC a scope s.heap.objs.size f c::outer
 ex:=[]
 calm:=true
 fn:=λ_=>true
 pn:=[]
 xe:=λe d=>wpAny (Af P w) (A.deeper (envOfC a scope s.heap.objs.size f c)) (leaving (envOfC a scope s.heap.objs.size f c) e) (λ_ b=>CX outer H s E e b) (λg b=>CX outer H s E g b) d
theorem Vz{a:Scope}{n:Nat}{x:Ae}(h:a.names.lookup x=some .cell):∃c,(cellsFrom n a.names []).lookup x=some c:=by
 have q:=PySem.W.cellsFrom_some a.names n [] (.inl h)
 exact Option.isSome_iff_exists.mp q
theorem gG{CX:EM}{P:AY}{w:Ai}{K:Ar}{mg:Ae->Option Aa}{base:Am}{N ps:List Ae}{d:Ae}{scope:Scope}{f:Ac}{B:Aa}{A:Aj}{outer:List Env}{s I:Ab}{H:Hp}{E:XK}{us:List Aa}{vs:List V}
  (S:ZE N ps scope) (hd:A.handled=none) (j:C4 P w K mg base A outer s H) (T:vs.length=ps.length) (r:Aq vs us)
  (x:InCallC s s.heap.objs.size (bindL (envOfC d scope s.heap.objs.size f B).kindOf (ps.zip us) λ_=>none) (cellsFrom (s.heap.objs.size+1) scope.names []) (bindC (envOfC d scope s.heap.objs.size f B).kindOf (ps.zip us) λ_=>none) I):
  Inv (Gd CX P w K mg base N d scope f B A outer s H E) [] (FP N vs) H I:=by
 have M:ps.length<=N.length:=by have:=congrArg List.length S.pre;rw[List.length_take]at this;omega
 obtain⟨C,U,rfl,J⟩:=x.done
 have l:∀b:Ac,b∉(Gd CX P w K mg base N d scope f B A outer s H E).ex:=λb z=>absurd (show b∈([]:List Ac)from z) (by simp)
 refine⟨⟨j.mod,S.kind,rfl,rfl,BD _,λy z c C g=>?_,λy m=>?_,λy c _ h=>?_,λ_=>hd,Around.frames_deeper j.frames,.inr ⟨rfl,rfl⟩,λb z=>absurd z (l b),j.bs,j.bsz,λb _ _=>l b,λb z=>absurd z (l b),j.funs,j.frf⟩,
  rfl,j.bare,Un.kept J,⟨_,x.toInCall.ns,λi y v C g Y=>?_⟩,λy c h=>⟨_,x.cell y c h⟩,j.hok.fresh (BD _),λy c h=>?_,λp o=>absurd (show p∈([]:List (Ac×AM))from o) (by simp),j.hok.kept J,?_⟩
 ·exact name_of_addr x.apart (JM C) (JM g)
 ·have m:scope.names.lookup y=some .cell\/scope.names.lookup y=some .free:=m
  rcases m with m|m
  ·exact Vz m
  ·exact absurd rfl (S.nofree _ (JM m))
 ·exact Jy (x.above y c (JM h))
 ·have G:i<vs.length:=by
   unfold FP at g
   by_cases G:i<vs.length
   ·exact G
   ·rw[Qr (by simpa using G)]at g
    rw[ID]at g
    split at g<;>cases g
  have O:vs[i]?=some v:=by
   unfold FP at g
   rw[Lc (by simpa using G),C1]at g
   cases e:vs[i]? with
   |none=>rw[e]at g;cases g
   |some a=>rw[e]at g;cases g;rfl
  obtain⟨u,L,Q⟩:=r.get O
  have o:ps[i]?=some y:=by
   rw[<- S.pre,List.getElem?_take_of_lt (by omega)];exact C
  have t:ps.Nodup:=by rw[<- S.pre];exact S.nd.sublist (List.take_sublist _ _)
  refine⟨u,Q,?_⟩
  rcases S.par y (Ei o)with k|k
  ·exact .inl ⟨k,Vx t o L k⟩
  ·obtain⟨c,e⟩:=Vz (n:=s.heap.objs.size+1) k
   refine .inr ⟨.inl k,c,e,?_⟩
   have q:=x.cell y c e
   rw[Vy t o L (by show scope.names.lookup y≠_;rw[k];decide)]at q
   exact q
 ·exact j.hok.fresh (Jy (x.above y c (JM h)))
 ·unfold FP
  show _=N.length
  rw[Ge,B1,JN]
  omega
theorem VA{CX:EM}{P:AY}{w:Ai}{K:Ar}{mg:Ae->Option Aa}{base:Am}{k:Nat}{f:Ac}{name a:Ae}{d:Arguments}{g:List Au}{scope:Scope}{T kV m U c ct oc:Aa}{Y od:Option Ac}
  {B:Array (Option Aa)} {N ps:List Ae} {sp:Sp} (lk:K.lookup f=some ⟨oc,od,.func (HG name a d g scope T kV m U Y c ct),B⟩) (C:PySem.W.codeIn K c a=true) (S:ZE N ps scope)
  (len:∀vs H Q E,sp vs H Q E->vs.length=ps.length)
  (i:∀(A:Aj) (outer:List Env) (s:Ab) (H:Hp) (vs:List V) (Q:VK) (E:XK),Bd k (A.deeper (envOfC a scope s.heap.objs.size f c))->sp vs H Q E ->
   ∃t,Es (Gd CX P w K mg base N a scope f c A outer s H E) g t/\t {nx:=λ_ H'=>Q .non H',rt:=Q} (FP N vs) H):
  Ax P w K mg base CX (k+1) f (HG name a d g scope T kV m U Y c ct) ps sp:=by
 refine⟨len,λA outer s H args us vs Q E G p hb r z=>?_⟩
 have hl:=len _ _ _ _ z
 have KX:K.In s.heap:=p.mod.kin.keeps λb o e=>(p.bs b o e).1
 have L:s.heap.NoLimit:=p.mod.nolimit.keeps λb o e=>(p.bs b o e).1
 have j:∀y∈ps.zip us,scope.names.lookup y.1=some .local\/(scope.names.lookup y.1=some .cell/\((cellsFrom (s.heap.objs.size+1) scope.names []).lookup y.1).isSome=true):=λ⟨n,v⟩ hy=>by
  rcases S.par n (List.of_mem_zip hy).1 with q|q
  ·exact .inl q
  ·exact .inr ⟨q,PySem.W.cellsFrom_some _ _ _ (.inl q)⟩
 refine codeAny_call_function G.depth (KX _ _ lk) rfl S.co S.gen rfl (PySem.W.codeRec_of KX C) (hb _ _ _ _ ?_)
 refine wpAny_newFunctionEnv_cells S.kind j λenv he s1 x=>?_
 subst he
 refine⟨L.keeps x.toInCall.keep,codeAny_func ?_⟩
 obtain⟨t,ht,hq⟩:=i A outer s H vs Q E (G.deeper _) z
 have I:Inv (Gd CX P w K mg base N a scope f c A outer s H E) [] (FP N vs) H s1:=gG S G.hd p hl r x
 refine Eg (ht [] s1 (FP N vs) H _ I hq) (λfl M l=>?_) λe M l=>l
 have fin:∀{h:St} {H':Hp} {v:V} {u:Aa},Inv (Gd CX P w K mg base N a scope f c A outer s H E) [] h H' M->RelV v u->Q v H'->CE outer P w H s Q u M:=
  λ{h H' v u} J O q=>⟨v,H',J.os,J.bare,J.base,J.hok,O,q⟩
 cases fl with
 |ret u=>
  obtain⟨v,h,H',J,O,q⟩:=l
  exact fin J O q
 |next=>
  obtain⟨h,H',J,q⟩:=l
  exact fin (v:=V.non) (u:=Ee) J rfl q
 |brk=>
  obtain⟨_,_,_,q⟩:=l
  exact BB q
 |cont=>
  obtain⟨_,_,_,q⟩:=l
  exact BB q
section
variable{X:Cx}{x:Ae}{p pos:A5}{e:Expr}{es:List Expr}{t:TA}{id T:String}{r:List V->Hp->VK->Prop}
def MV(r:List V->Hp->VK->Prop)(t:TA):TE:=λa H Q=>t a H λvs b=>r vs b Q
theorem Qs(f:A9 X (.builtin id) r)(g:Gl X x)(i:X.mg x=none)(j:Ep x=some (.builtin id))(k:PA X (e::es) t)(l:x≠"__name__":=by decide)(b:(x==("__debug__":Ae))=false:=by decide)
  (m:AN (e::es) X.env=(false,Ay e X.env)::AN es X.env:=by rfl) (c:(AR pos (AN es X.env)).any (·.1)=false:=by rfl):PE X (.Call (.Name x p) (e::es) [] pos) (MV r t):=by
 intro a s d H Q I h
 refine Lb (F9 I g i j ?_ l b)
 exact PyProof.Rows.callWith_builtin1 (A8 (k pos a s d H _ I h) λn o ⟨vs,q,u,v,q1⟩=>f a o d q vs n Q u v q1) m c
theorem VB(f:A9 X (.type T) r)(g:Gl X x)(i:X.mg x=none)(j:Ep x=some (.type T))(k:PA X (e::es) t)(l:x≠"__name__":=by decide)(b:(x==("__debug__":Ae))=false:=by decide)
  (m:AN (e::es) X.env=(false,Ay e X.env)::AN es X.env:=by rfl) (c:(AR pos (AN es X.env)).any (·.1)=false:=by rfl):PE X (.Call (.Name x p) (e::es) [] pos) (MV r t):=by
 intro a s d H Q I h
 refine Lb (F9 I g i j ?_ l b)
 exact JJ (A8 (k pos a s d H _ I h) λn o ⟨vs,q,u,v,q1⟩=>f a o d q vs n Q u v q1) m c
end
end L2
namespace HT
open PySem PyProof.Rows
theorem rcLt_int(A:Aj)(s:Ab)(a:Int)(t:Tok)(c:Int)(u:Tok)(prog:AY)(w:Ai)(E:Aa->Ab->Prop)(Q:Aa->Ab->Prop)(h:Q (.bool (decide (a<c))) s):
  wpAny (Af prog w) A (richCompare .Lt (.int a t) (.int c u)) Q E s:=
 (PyProof.Rows.lt_int h:wpAny (Af prog w) A (Df .Lt (.int a t) (.int c u)) Q E s)
section
open PySem.SeqAt
open PySem.AutoSeq1 (wpAny_loadPart')
open PySem.MeetsSeq PySem.MeetsSeq2 PySem.MeetsSeq3
end
section
variable{prog:AY}{w:Ai}{A:Aj}{E:Aa->Ab->Prop}{s:Ab}
def sIx(n d:Nat):Option Int->Nat
 |none=>d
 |some v=>if v<0 then(v+(n:Int)).toNat else min v.toNat n
theorem gH(n d:Nat)(hd:d<=n)(o:Option Int):sIx n d o<=n:=by
 cases o with
 |none=>exact hd
 |some v=>
  show(if v<0 then(v+(n:Int)).toNat else min v.toNat n)<=n
  by_cases a:v<0
  ·rw[if_pos a];omega
  ·rw[if_neg a];exact Nat.min_le_right _ _
theorem VC(v:Int)(n d:Nat):(if v<0 then max (v+(n:Int)) 0 else min v (n:Int))=((sIx n d (some v):Nat):Int):=by
 show(if v<0 then max (v+(n:Int)) 0 else min v (n:Int))=(((if v<0 then(v+(n:Int)).toNat else min v.toNat n):Nat):Int)
 by_cases a:v<0
 ·simp only[if_pos a];omega
 ·simp only[if_neg a];omega
theorem gI(lo a:Option Int)(n:Nat):VD lo a 1 (n:Int)=(((sIx n 0 lo:Nat):Int),((sIx n n a:Nat):Int)):=by
 have b:¬ ((1:Int)<0):=by omega
 unfold VD
 simp only[b,if_false]
 refine Prod.ext ?_ ?_
 ·cases lo with
  |none=>rfl
  |some v=>exact VC v n 0
 ·cases a with
  |none=>rfl
  |some v=>exact VC v n n
theorem gJ(i j:Nat):Qt (i:Int) (j:Int) 1=j-i:=by
 unfold Qt
 have a:(1:Int)>0:=by omega
 simp only[a,if_true,Int.ediv_one]
 split<;>omega
theorem VF{v:Aa}{o:Option Int}{Q:Option Int->Ab->Prop}(p:IsPart v o)(h:Q o s):wpAny (Af prog w) A (Builtin.Slice.slicePartIndex v) Q E s:=by
 cases p with
 |none=>exact slicePart_none h
 |int i t=>exact slicePart_int h
theorem sliceApplied_gen{f:Ac}{d e:Aa}{lo a:Option Int}{n:Nat}{Q:Int×Int×Nat->Ab->Prop}(g:s.heap.IsSliceOf f d e .none)(i:IsPart d lo)(j:IsPart e a)
  (h:Q (((sIx n 0 lo:Nat):Int),1,sIx n n a-sIx n 0 lo) s):wpAny (Af prog w) A (Builtin.Slice.sliceApplied (.ref f) (AK (n:Int))) Q E s:=by
 obtain⟨os,b,k,c⟩:=id g
 unfold Builtin.Slice.sliceApplied Builtin.Slice.sliceFields
 refine Ag (Ag (Cp b c (x:=d) rfl (Ag (Cp b c (x:=e) rfl (Ag (Cp b c (x:=.none) rfl (AE ?_)))))))
 refine Ag (slicePart_none ?_)
 show wpAny _ _ (if((1:Int)==0)=true then _ else _) _ _ s
 rw[if_neg (by decide)]
 refine Ag (VF i (Ag (VF j (Ag (AE ?_)))))
 show wpAny _ _ (match VD lo a 1 (n:Int)with|(lo,a)=>AK (lo,(1:Int),Qt lo a 1)) _ _ s
 rw[gI lo a n]
 show wpAny _ _ (AK (((sIx n 0 lo:Nat):Int),(1:Int),Qt ((sIx n 0 lo:Nat):Int) ((sIx n n a:Nat):Int) 1)) _ _ s
 rw[gJ]
 exact AE h
theorem gK(xs:Array Aa)(i k:Nat):((Ba k).filterMap λ(m:Nat)=>xs[((i:Int)+(m:Int)*1).toNat]?).toArray=((xs.toList.drop i).take k).toArray:=by
 have e:(λ(m:Nat)=>xs[((i:Int)+(m:Int)*1).toNat]?)=λm=>xs[i+m]?:=by
  funext m
  have:((i:Int)+(m:Int)*1).toNat=i+m:=by omega
  rw[this]
 rw[e]
 have:=pick_run xs i k
 rw[List.filterMap_map]at this
 have a:((λx=>xs[x]?)∘λx=>i+x)=λm=>xs[i+m]?:=rfl
 rw[a]at this
 rw[this]
theorem getItem_tuple_cut{t e:Ac}{a:Array Aa}{k l:Aa}{lo c:Option Int}{Q:Aa->Ab->Prop}(d:IsTup s.heap t a)(n:s.heap.IsSliceOf e k l .none)(p:IsPart k lo)(r:IsPart l c)
  (u:¬ (sIx a.size 0 lo=0/\sIx a.size a.size c=a.size))
  (h:Q (.ref s.heap.objs.size) {s with heap:=s.heap.push {cls:=.type "tuple",data:=.seq ((a.toList.drop (sIx a.size 0 lo)).take (sIx a.size a.size c-sIx a.size 0 lo)).toArray} })
  (hsz:a.size<=AG):wpAny (Af prog w) A (getItem (.ref t) (.ref e)) Q E s:=by
 have b:sizeOk (.seq ((a.toList.drop (sIx a.size 0 lo)).take (sIx a.size a.size c-sIx a.size 0 lo)).toArray):=by
  show((a.toList.drop (sIx a.size 0 lo)).take (sIx a.size a.size c-sIx a.size 0 lo)).toArray.size<=AG
  rw[BR,List.length_take,MW,Gb]
  omega
 have x:sIx a.size a.size c<=a.size:=gH _ _ (BD _) c
 obtain⟨os,f,g,v⟩:=id n
 have i:s.TypeIs (.ref e) "slice":=⟨os,f,g⟩
 unfold getItem
 try with_reducible refine Eh ?_
 first|refine Ag (AE ?_)|skip
 refine Ag (wpAny_sequenceKey d.typeIs (by decide) ?_)
 refine Ag (Gf (name:=DT "__getitem__") d.typeIs Qu
  (Fq Qu d.typeIs entry_tuple_getitem ?_ (args_tuple_getitem _ _)))
 show wpAny _ _ (Builtin.Tuple.tupleItemsOf (.ref t) >>= _) _ _ s
 refine Ag (tupleItemsOf_ d ?_)
 refine Ag (IE i ?_)
 rw[if_pos (by decide)]
 refine Ag (sliceApplied_gen n p r ?_)
 have j:¬ ((((sIx a.size 0 lo:Nat):Int)==0&&(1:Int)==1&&(sIx a.size a.size c-sIx a.size 0 lo)==a.size)=true):=by
  intro q
  rw[C7,C7]at q
  have q1:((sIx a.size 0 lo:Nat):Int)=0:=eq_of_beq q.1.1
  have q2:sIx a.size a.size c-sIx a.size 0 lo=a.size:=eq_of_beq q.2
  exact u ⟨by omega,by omega⟩
 show wpAny _ _ (if(((sIx a.size 0 lo:Nat):Int)==0&&(1:Int)==1&&(sIx a.size a.size c-sIx a.size 0 lo)==a.size)=true then _ else _) _ _ s
 rw[if_neg j,gK]
 first
  |exact Ag (m:=Qv _) (Gg (AE ⟨_,rfl,AE h⟩) b)
  |exact Ag (m:=Qv _) (Gg (Ag (AE (AE ⟨_,rfl,AE h⟩))) b)
  |exact Ag (Ag (m:=Qv _) (Gg (AE (AE ⟨_,rfl,AE h⟩)) b))
  |exact Ag (Ag (m:=Qv _) (Gg (AE ⟨_,rfl,AE h⟩) b))
end
end HT
namespace L2
open PySem PySem.Spec PyProof.Rows
abbrev TO:=St->Hp->(Option Int->Hp->Prop)->Prop
def PO(X:Cx)(e:Option Expr)(t:TO):Prop:=
 ∀(a:List (Ac×AM)) (s:Ab) (b:St) (H:Hp) (Q:Option Int->Hp->Prop),Inv X a b H s->t b H Q ->
  wpAny (Af X.prog X.w) X.A (evalPart e X.env) (λu d=>∃o c,Inv X a b c d/\IsPart u o/\Q o c) X.xe s
def gL:TO:=λ_ H Q=>Q none H
def gM(t:TE):TO:=λa H Q=>t a H λx b=>∃i,x=.int i/\Q (some i) b
theorem Ld{a:List Int}:∀{us:List Aa},Aq (a.map V.int) us->IntsAre us a:=by
 induction a with
 |nil=>intro us r;rw[CA]at r;cases r;exact .nil
 |cons n a b=>
  intro us r
  rw[AW]at r
  cases r with
  |cons c d=>
   obtain⟨t,e⟩:=c
   subst e
   exact .cons n t (b d)
section
variable{X:Cx}{e:Expr}{te:TE}{lo hi:Option Expr}{tl th:TO}{pos p2:A5}
theorem gN:PO X none gL:=by
 intro a s b H Q I h
 rw[evalPart_none]
 exact AE ⟨none,H,I,.none,h⟩
theorem gO(h:PE X e te):PO X (some e) (gM te):=by
 intro a s b H Q I c
 rw[evalPart_some]
 refine A8 (h a s b H _ I c) λu j ⟨x,d,f,g,q1⟩=>?_
 obtain⟨i,rfl,q⟩:=q1
 obtain⟨t,rfl⟩:=g
 exact⟨some i,d,f,.int i t,q⟩
def G5(X:Cx)(r:V->Option Int->Option Int->Hp->VK->Prop):Prop:=
 ∀(a:List (Ac×AM)) (s:Ab) (b:St) (H:Hp) (x:V) (v c d:Aa) (lo hi:Option Int) (e:Ac) (Q:VK),Inv X a b H s->RelV x v->s.heap.IsSliceOf e c d .none->IsPart c lo->IsPart d hi->r x lo hi H Q ->
  ∃T id,typeLookup (.type T) "__getitem__"=AK (some (.builtin id))/\s.TypeIs v T/\wpAny (Af X.prog X.w) X.A (getItem v (.ref e)) (EP X a b Q) X.xe s
theorem G5.or{r b:V->Option Int->Option Int->Hp->VK->Prop}(h:G5 X r)(h':G5 X b):G5 X (λx lo hi H Q=>r x lo hi H Q\/b x lo hi H Q):=by
 intro a s c H x v d e lo hi f Q I g i j k q
 rcases q with q|q
 ·exact h a s c H x v d e lo hi f Q I g i j k q
 ·exact h' a s c H x v d e lo hi f Q I g i j k q
def gP(r:V->Option Int->Option Int->Hp->VK->Prop)(te:TE)(tl th:TO):TE:=λa H Q=>te a H λx b=>tl a b λl c=>th a c λu d=>r x l u d Q
theorem gQ{r:V->Option Int->Option Int->Hp->VK->Prop}(j:G5 X r)(k:PE X e te)(m:PO X lo tl)(n:PO X hi th):PE X (.Subscript e (.Slice lo hi none p2) pos) (gP r te tl th):=by
 intro a s d H Q I h
 refine Subscript_ (A8 (k a s d H _ I h) λv o ⟨x,p,t,y,q1⟩=>?_)
 refine wpAny_Slice (A8 (m a o d p _ t q1) λf z ⟨l,B,C,E,q2⟩=>A8 (n a z d B _ C q2) λg c ⟨u,i,G,J,q3⟩=>?_)
 rw[evalPart_none]
 refine AE ?_
 have L:Inv X a d i {c with heap:=c.heap.push {cls:=.type "slice",data:=.fields #[f,g,.none]} }:=G.kept (t':=c.toks) λb ob q=>Bj _ q
 obtain⟨T,id,M,N,O⟩:=j a {c with heap:=c.heap.push {cls:=.type "slice",data:=.fields #[f,g,.none]} } d i x v f g l u c.heap.objs.size Q L y (Heap.IsSliceOf.new ..) E J q3
 show wpAny (Af X.prog X.w) X.A (subscriptTail e (.Slice lo hi none p2) v (.ref c.heap.objs.size)) (EP X a d Q) X.xe {c with heap:=c.heap.push {cls:=.type "slice",data:=.fields #[f,g,.none]} }
 exact tail_any (ops:=[.ref c.heap.objs.size,v]) N M O (by with_unfolding_all rfl)
def Gh(xs:List V)(lo hi:Option Int):List V:=(xs.drop (HT.sIx xs.length 0 lo)).take (HT.sIx xs.length xs.length hi-HT.sIx xs.length 0 lo)
theorem VG(xs:List V)(lo hi:Option Int):(Gh xs lo hi).length<=xs.length:=by
 unfold Gh
 rw[List.length_take,MW]
 omega
def gR(K:Ar):V->Option Int->Option Int->Hp->VK->Prop:=λx lo hi H Q=>∃a b,x=.ref a/\B0 K H a b /\
 ¬ (HT.sIx b.length 0 lo=0/\HT.sIx b.length b.length hi=b.length)/\∀p,H p=none->Q (.ref p) (AU H p (.tup (Gh b lo hi)))
theorem gS:G5 X (gR X.K):=by
 intro f s t H x v u w lo hi y Q I j k l m h
 obtain⟨a,d,rfl,n,p,q⟩:=h
 cases j
 obtain⟨e,r,g,i⟩:=I.tuple n
 have c:e.toArray.size=d.length:=by rw[BR];exact r.length.symm
 refine⟨"tuple",_,PyProof.Rows.slot_tuple_getitem.lookup,g.typeIs,?_⟩
 refine HT.getItem_tuple_cut g k l m (by rw[c];exact p) ?_ (by rw[c];exact i)
 rw[c]
 refine⟨.ref s.heap.objs.size,_,I.laid (t':=s.toks) (o:=.tup (Gh d lo hi)) (λb ob q=>Bj _ q) (BD _) ?_,rfl,q _ (I.hok.fresh (BD _))⟩
 exact⟨CN (VG d lo hi) i,_,(r.drop (HT.sIx d.length 0 lo)).take (HT.sIx d.length d.length hi-HT.sIx d.length 0 lo),IsTup.new _ _⟩
end
def DU(n:Nat)(i:Int):Option Nat:=if 0<=i then(if i<n then some i.toNat else none)else if -(n:Int)<=i then some (i+n).toNat else none
def atI{a:Type}(xs:List a)(i:Int):Option a:=(DU xs.length i).bind λj=>xs[j]?
theorem gT{n:Nat}{i:Int}{j:Nat}(h:DU n i=some j):seqIndex? i n=some j/\j<n /\ -(n:Int)<=i/\i<n:=by
 unfold DU at h
 by_cases b:0<=i
 ·rw[if_pos b]at h
  by_cases a:i<n
  ·rw[if_pos a]at h
   have e:i.toNat=j:=Fm h
   exact⟨by rw[seqIndex_of b a,e],by omega,by omega,a⟩
  ·rw[if_neg a]at h;cases h
 ·rw[if_neg b]at h
  by_cases a : -(n:Int)<=i
  ·rw[if_pos a]at h
   have e:(i+n).toNat=j:=Fm h
   exact⟨by rw[seqIndex_neg (by omega) a,e],by omega,a,by omega⟩
  ·rw[if_neg a]at h;cases h
theorem Qw{a:Type}{xs:List a}{i:Int}{v:a}(h:atI xs i=some v):∃j,seqIndex? i xs.length=some j/\xs[j]?=some v/\j<xs.length /\ -(xs.length:Int)<=i/\i<xs.length:=by
 unfold atI at h
 cases e:DU xs.length i with
 |none=>rw[e]at h;cases h
 |some j=>
  rw[e]at h
  obtain⟨b,c,d,f⟩:=gT e
  exact⟨j,b,h,c,d,f⟩
theorem DV{a:Type}{xs:List a}{j:Nat}{v:a}(h:xs[j]?=some v):atI xs (j:Int)=some v:=by
 have b:j<xs.length:=(List.getElem?_eq_some_iff.mp h).1
 have e:DU xs.length (j:Int)=some j:=by
  unfold DU
  rw[if_pos (by omega),if_pos (by omega)];simp
 unfold atI;rw[e];exact h
theorem VH{a:Type}(xs:List a)(v:a):atI (xs++[v]) (-1)=some v:=by
 have b:(xs++[v]).length=xs.length+1:=by simp
 have e:DU (xs++[v]).length (-1)=some xs.length:=by
  unfold DU
  rw[b,if_neg (by decide),if_pos (by omega)]
  congr 1
  omega
 unfold atI
 rw[e]
 show(xs++[v])[xs.length]?=some v
 simp
def JP(b:Expr):Prop:=∀o i,subscripted b false o i=operate [o,i] (getItem o i)
def Gi(X:Cx)(r:R2):Prop:=
 ∀(b slice:Expr) (a:List (Ac×AM)) (s:Ab) (c:St) (H:Hp) (x y:V) (v u:Aa) (Q:VK),Inv X a c H s->RelV x v->RelV y u->r x y H Q ->
  subscripted slice false v u=operate [v,u] (getItem v u)->wpAny (Af X.prog X.w) X.A (subscriptTail b slice v u) (EP X a c Q) X.xe s
def G6(X:Cx)(id:String)(r:V->List V->Hp->VK->Prop):Prop:=
 ∀(a:List (Ac×AM)) (s:Ab) (b:St) (H:Hp) (x:V) (c:List V) (v:Aa) (d:List Aa) (Q:VK),Inv X a b H s->RelV x v->Aq c d->r x c H Q ->
  wpAny (Af X.prog X.w) X.A (call (.builtin id) (v::d)) (EP X a b Q) X.xe s
section
variable{X:Cx}{a b:Expr}{ta tb:TE}{pos:A5}
theorem Gi.or{r c:R2}(h:Gi X r)(h':Gi X c):Gi X (λx y H Q=>r x y H Q\/c x y H Q):=by
 intro a slice b s d H x y v u Q I e f q g
 rcases q with q|q
 ·exact h a slice b s d H x y v u Q I e f q g
 ·exact h' a slice b s d H x y v u Q I e f q g
theorem G6.or{id:String}{r b:V->List V->Hp->VK->Prop}(h:G6 X id r)(h':G6 X id b):G6 X id (λx xs H Q=>r x xs H Q\/b x xs H Q):=by
 intro a s c H x xs v d Q I e f q
 rcases q with q|q
 ·exact h a s c H x xs v d Q I e f q
 ·exact h' a s c H x xs v d Q I e f q
theorem VI{r:R2}(d:Gi X r)(e:PE X a ta)(f:PE X b tb)(g:JP b):PE X (.Subscript a b pos) (JL r ta tb):=by
 intro c s i H Q I h
 exact Subscript_ (Qo e f I h λv u j x y k l m n q=>d a b c j i k x y v u Q l m n q (g _ _))
def VJ(K:Ar):R2:=λx y H Q=>∃p a i v,x=.ref p/\y=.int i/\BH K H p a/\atI a i=some v/\Q v H
def VL(K:Ar):R2:=λx y H Q=>∃p a i v,x=.ref p/\y=.int i/\B0 K H p a/\atI a i=some v/\Q v H
def VM:R2:=λx y H Q=>∃z i c,x=.str z/\y=.int i/\z.length<=AG/\atI z.cps.toList i=some c/\Q (.str ⟨#[c]⟩) H
theorem G7:Gi X (VJ X.K):=by
 intro c slice a s k H x y v u Q I o A h l
 obtain⟨p,N,i,z,rfl,rfl,B,C,q⟩:=h
 cases o
 obtain⟨t,rfl⟩:=A
 obtain⟨d,r,e,O⟩:=I.list B
 obtain⟨j,b,E,T,G,J⟩:=Qw C
 obtain⟨w,m,f⟩:=r.get E
 have L:=r.length
 have U:=K7
 have fin:EP X a k Q w s:=⟨z,H,I,f,q⟩
 by_cases n:0<=i
 ·have g:i.toNat=j:=by
   rw[seqIndex_of n J]at b
   exact Fm b
  exact item_listR e.isList n (by omega) (by rw[g];simpa using m) fin l
 ·have g:(i+(d.toArray.size:Int)).toNat=j:=by
   rw[seqIndex_neg (by omega) G]at b
   rw[BR,<- L]
   exact Fm b
  exact subscriptTail_builtinR (x:=w) e.isList.typeIs slot_list_getitem.lookup
   (wpAny_getItem_list_neg (Q:=λr M=>r=w/\EP X a k Q r M) e.isList (by omega) (by rw[BR]<;>omega) (by omega) (by rw[g];simpa using m) ⟨rfl,fin⟩) l
theorem IF:Gi X (VL X.K):=by
 intro b slice a s d H x y v u Q I f g h k
 obtain⟨p,G,i,z,rfl,rfl,l,m,q⟩:=h
 cases f
 obtain⟨t,rfl⟩:=g
 obtain⟨n,r,e,J⟩:=I.tuple l
 obtain⟨j,o,A,L,M,N⟩:=Qw m
 obtain⟨w,B,c⟩:=r.get A
 have C:=r.length
 have O:=K7
 have fin:EP X a d Q w s:=⟨z,H,I,c,q⟩
 exact subscriptTail_builtinR (x:=w) e.typeIs slot_tuple_getitem.lookup
  (getItem_tuple (j:=j) (Q:=λr E=>r=w/\EP X a d Q r E) e (by omega) (by omega) (by rw[BR,<- C];exact o) (by simpa using B) ⟨rfl,fin⟩) k
theorem gU:Gi X VM:=by
 intro a slice b s w H x y v u Q I e f h g
 obtain⟨z,i,c,rfl,rfl,A,k,q⟩:=h
 obtain⟨t,rfl⟩:=e
 obtain⟨B,rfl⟩:=f
 obtain⟨j,d,l,C,m,n⟩:=Qw k
 have o:z.cps.toList.length=z.length:=by simp[Str.length]
 rw[o]at d m n
 have E:=K7
 exact tail_any (typeIs_str s z t) slot_str_getitem.lookup (getItem_str (c:=c) (by
  have p:decide (i < -(2^63:Int))=false:=decide_eq_false (by omega)
  have r:decide (i≥2^63)=false:=decide_eq_false (by omega)
  rw[p,r,Bool.or_false]) (by rw[d];simpa using l) ⟨.str ⟨#[c]⟩,H,I.tok _,⟨_,rfl⟩,q⟩) g
def VN(K:Ar):R2:=λx y H Q=>VJ K x y H Q\/VL K x y H Q\/VM x y H Q
theorem VO:Gi X (VN X.K):=G7.or (IF.or gU)
theorem Inv.lst{b:List (Ac×AM)}{σ:St}{H:Hp}{s:Ab}{p:Ac}{xs:List V}(I:Inv X b σ H s)(h:H p=some (.lst xs)):
  ∃(a:List Aa) (n:Nat),Aq xs a/\s.heap.get? p=some {cls:=.type "list",data:=.seq a.toArray n}/\xs.length<=AG:=by
 obtain⟨z,a,n,r,e⟩:=I.hok p _ h
 exact⟨a,n,r,e,z⟩
theorem gW(lo a:Option Int)(n:Nat):(BO lo a none n).1=((HT.sIx n 0 lo:Nat):Int)/\(BO lo a none n).2.1=((HT.sIx n n a:Nat):Int)/\(BO lo a none n).2.2=1:=by
 refine⟨?_,?_,rfl⟩
 ·cases lo with
  |none=>simp[BO,HT.sIx]
  |some i=>
   simp only[BO,HT.sIx,Option.getD_none,show(1:Int)>0 by decide,if_true]
   by_cases h:i<0
   ·simp only[h,if_true]<;>omega
   ·simp only[h,if_false]<;>omega
 ·cases a with
  |none=>simp[BO,HT.sIx]
  |some i=>
   simp only[BO,HT.sIx,Option.getD_none,show(1:Int)>0 by decide,if_true]
   by_cases h:i<0
   ·simp only[h,if_true]<;>omega
   ·simp only[h,if_false]<;>omega
theorem gX(a:List Aa)(lo b:Option Int):slicePick a.toArray lo b none=((a.drop (HT.sIx a.length 0 lo)).take (HT.sIx a.length a.length b-HT.sIx a.length 0 lo)).toArray:=by
 obtain⟨c,d,e⟩:=gW lo b a.toArray.size
 unfold slicePick
 rw[c,d,e]
 simp only[sliceRange_one,pick_run,BR]<;>rfl
def gY(K:Ar):V->Option Int->Option Int->Hp->VK->Prop:=λx lo c H Q=>∃a b,x=.ref a/\BH K H a b/\∀p,H p=none->Q (.ref p) (AU H p (.lst (Gh b lo c)))
theorem G8:G5 X (gY X.K):=by
 intro f s t H x v u w lo e y Q I i j k l h
 obtain⟨a,c,rfl,m,q⟩:=h
 cases i
 obtain⟨n,r,g,p⟩:=I.list m
 have d:=r.length
 refine⟨"list",_,slot_list_getitem.lookup,g.isList.typeIs,?_⟩
 refine wpAny_getItem_list_slice g.isList j k l .none (by simp) ?_ (by rw[BR]<;>omega)
 rw[gX,<- d]
 refine⟨.ref s.heap.objs.size,_,I.laid (t':=s.toks) (o:=.lst (Gh c lo e)) (λb ob q=>Bj _ q) (BD _) ?_,rfl,q _ (I.hok.fresh (BD _))⟩
 exact⟨CN (VG c lo e) p,_,0,(r.drop (HT.sIx c.length 0 lo)).take (HT.sIx c.length c.length e-HT.sIx c.length 0 lo),Ca _ rfl⟩
def VP:V->Bool
 |.non=>true
 |.bl _=>true
 |.int _=>true
 |.str _=>true
 |_=>false
def gZ:V->V->Bool
 |.non,.non=>true
 |.bl a,.bl b=>a==b
 |.bl a,.int b=>(if a then 1 else 0)==b
 |.int a,.bl b=>a==(if b then 1 else 0)
 |.int a,.int b=>a==b
 |.str a,.str b=>a==b
 |_,_=>false
theorem A9.or{f:Aa}{r b:List V->Hp->VK->Prop}(h:A9 X f r)(h':A9 X f b):A9 X f (λxs H Q=>r xs H Q\/b xs H Q):=by
 intro a s c H xs d Q I e q
 rcases q with q|q
 ·exact h a s c H xs d Q I e q
 ·exact h' a s c H xs d Q I e q
theorem Qx:A9 X (.type "list") (λxs H Q=>∃p ys,xs=[.ref p]/\(BH X.K H p ys\/B0 X.K H p ys)/\∀l,H l=none->Q (.ref l) (AU H l (.lst ys))):=by
 intro g s y H xs A Q I r h
 obtain⟨p,ys,rfl,i,q⟩:=h
 obtain⟨u,rfl,z⟩:=DS r
 cases z
 have fin:∀(a:List Aa),Aq ys a->ys.length<=AG->∀(c:Am) (d:Nat),(∀b x,s.heap.get? b=some x->c.get? b=some x) ->
   c.get? s.heap.objs.size=some {cls:=.type "list",dict:=none,data:=.seq a.toArray d,slots:=#[]}->EP X g y Q (.ref s.heap.objs.size) {s with heap:=c}:=λa f j c d kp e=>
  ⟨.ref s.heap.objs.size,_,I.laid (t':=s.toks) kp (BD _) (show Bk X.prog X.w _ c _ (.lst ys)from⟨j,a,d,f,e⟩),rfl,q _ (I.hok.fresh (BD _))⟩
 rcases i with i|i
 ·obtain⟨a,f,m,j⟩:=I.list i
  have k:=f.length
  obtain⟨o,t,v,n,hd⟩:=m.isList
  exact call_list_seq p (.inl rfl) t v hd (λc d kp e=>fin a f j c d kp e) (by simp only[BR]<;>omega)
 ·obtain⟨a,f,m,j⟩:=I.tuple i
  have k:=f.length
  obtain⟨o,t,v,n,hd⟩:=m
  exact call_list_seq p (.inr rfl) t v hd (λc d kp e=>fin a f j c d kp e) (by simp only[BR]<;>omega)
theorem GL:A9 X (.type "tuple") (λxs H Q=>∃p ys,xs=[.ref p]/\((BH X.K H p ys/\∀l,H l=none->Q (.ref l) (AU H l (.tup ys)))\/(B0 X.K H p ys/\Q (.ref p) H))):=by
 intro a s j H xs y Q I r h
 obtain⟨p,ys,rfl,h⟩:=h
 obtain⟨u,rfl,t⟩:=DS r
 cases t
 rcases h with⟨f,q⟩|⟨f,q⟩
 ·obtain⟨c,g,i,k⟩:=I.list f
  have m:=g.length
  refine call_tuple_list i.isList (λd kp=>?_) (by simp only[BR]<;>omega)
  have n:Inv X a j H {s with heap:=d}:=I.kept (t':=s.toks) kp
  have x:Inv X a j (AU H d.objs.size (.tup ys)) {s with heap:=d.push {cls:=.type "tuple",data:=.seq c.toArray} }:=
   n.laid (t':=s.toks) (λb o e=>Bj _ e) (BD _) (show Bk X.prog X.w _ _ _ (.tup ys)from⟨k,c,g,IsTup.new _ _⟩)
  exact⟨.ref d.objs.size,_,x,rfl,q _ (n.hok.fresh (BD _))⟩
 ·obtain⟨c,g,i,k⟩:=I.tuple f
  exact call_tuple_same i ⟨.ref p,H,I,rfl,q⟩
def MX(K:Ar)(T:String)(x:V)(H:Hp):Prop:=match x with
 |.str _=>T="str"
 |.int _=>T="int"
 |.ref p=>(T="list"/\∃b,BH K H p b)\/(T="tuple"/\∃o,K.lookup p=some o/\o.cls=.type "tuple"/\o.dict=none) \/
   (T="dict"/\((∃a,H p=some (.dK a))\/(∃a,H p=some (.dT a))\/∃c vs,Rd H p (.dct c vs)))\/(T="set"/\∃S n,H p=some (.set S n))
 |_=>False
theorem hD{d:List (Ac×AM)}{σ:St}{H:Hp}{s:Ab}{T:String}{x:V}{v:Aa}(I:Inv X d σ H s)(r:RelV x v)(ty:MX X.K T x H):
  s.TypeIs v T/\∀a,v=.ref a->∃ob,s.heap.get? a=some ob/\ob.dict=none:=by
 cases x with
 |str z=>
  obtain⟨t,rfl⟩:=r
  cases(show T="str" from ty)
  exact⟨typeIs_str s z t,λ_ e=>nomatch e⟩
 |int i=>
  obtain⟨t,rfl⟩:=r
  cases(show T="int" from ty)
  exact⟨typeIs_int s i t,λ_ e=>nomatch e⟩
 |ref p=>
  cases r
  rcases ty with⟨rfl,m,j⟩|⟨rfl,o,b,k,hd⟩|⟨rfl,b⟩|⟨rfl,S,n,b⟩
  ·obtain⟨l,_,h,_⟩:=I.list j
   refine⟨h.isList.typeIs,λa e=>?_⟩
   cases e
   obtain⟨o,n,e,c,hd,_⟩:=h
   exact⟨o,e,hd⟩
  ·refine⟨⟨o,I.kIn p o b,k⟩,λa e=>?_⟩
   cases e
   exact⟨o,I.kIn _ o b,hd⟩
  ·have z:∃o,s.heap.get? p=some o/\o.ExactDict:=by
    rcases b with⟨f,b⟩|⟨f,b⟩|⟨q,vs,b⟩
    ·obtain⟨_,_,_,_,o,_,_,e,ex,_⟩:=I.hok p _ b
     exact⟨o,e,ex⟩
    ·obtain⟨_,_,_,_,o,_,_,e,ex,_⟩:=I.hok p _ b
     exact⟨o,e,ex⟩
    ·obtain⟨_,_,_,o,_,_,e,ex,_⟩:=b.ok I.hok
     exact⟨o,e,ex⟩
   obtain⟨o,e,ex⟩:=z
   refine⟨⟨o,e,ex.1⟩,λa g=>?_⟩
   cases g
   exact⟨o,e,ex.2.1⟩
  ·obtain⟨o,_,_,_,e,ex,_⟩:=I.hok p _ b
   refine⟨⟨o,e,ex.1⟩,λa g=>?_⟩
   cases g
   exact⟨o,e,ex.2.1⟩
 |_=>exact BB ty
def hG(K:Ar)(T:String)(r:V->List V->Hp->VK->Prop)(c:TE)(t:TA):TE:=λa H Q=>c a H λx b=>MX K T x b/\t a b λd e=>r x d e Q
variable{o e:Expr}{es:List Expr}{to:TE}{t:TA}{name:Ae}{apos cpos:A5}{T id:String}{r:V->List V->Hp->VK->Prop}
theorem Le(m:PlainAttrs T)(slot:Slot T name id)(g:typeOf (.builtin id)=AK (.type "method_descriptor"))(n:G6 X id r)(p:PE X o to)(q:PA X (e::es) t)
  (c:Lf o name X.env (Ay o X.env)=Ay o X.env:=by rfl)
  (f:((AR cpos (AN (e::es) X.env)).all (λx=>!x.1)&&(backToKw cpos (IC [] X.env)).all (λx=>x.1.isSome)
   && decide ((e::es).length+([]:List BE).length+(if([]:List BE).isEmpty then 0 else 1)<30))=true:=by rfl)
  (d:(apos.endLine==cpos.line)=true:=by rfl) (u:AN (e::es) X.env=(false,Ay e X.env)::AN es X.env:=by rfl) (b:(AR cpos (AN es X.env)).any (·.1)=false:=by rfl):
  PE X (.Call (.Attribute o name apos) (e::es) [] cpos) (hG X.K T r to t):=by
 intro a s i H Q I h
 refine wpAny_Call_method_late c f d rfl (A8 (p a s i H _ I h) λv w ⟨x,y,j,k,ty,q1⟩=>?_)
 obtain⟨z,A⟩:=hD j k ty
 refine⟨T,id,m,slot,g,z,A,?_⟩
 have l:=q cpos a w i y _ j q1
 rw[u]at l ⊢
 refine Calls.callWith_builtin (by show(false||(AR cpos (AN es X.env)).any (·.1))=false;rw[b]<;>rfl) (Calls.evalArgs_plain ?_)
 exact A8 l λB C ⟨vs,E,G,J,q2⟩=>n a C i E x vs v B Q G k J q2
end
def hJ(X:Cx)(id:String)(r:V->List V->Hp->VK->Prop):Prop:=
 ∀(a:List (Ac×AM)) (s:Ab) (b:St) (H:Hp) (x:V) (c:List V) (v:Aa) (d:List Aa) (Q:VK),Inv X a b H s->RelV x v->Aq c d->r x c H Q ->
  wpAny (Af X.prog X.w) X.A (call (.builtin id) (v::d)) (EP X a b Q) X.xe s
theorem Aq.one:∀{x:V}{us:List Aa},Aq [x] us->∃u,us=[u]/\RelV x u
 |_,_,.cons r .nil=>⟨_,rfl,r⟩
theorem Aq.two:∀{x y:V}{us:List Aa},Aq [x,y] us->∃u v,us=[u,v]/\RelV x u/\RelV y v
 |_,_,_,.cons r (.cons q .nil)=>⟨_,_,rfl,r,q⟩
theorem Aq.dropLast{xs:List V}{us:List Aa}(h:Aq xs us):Aq xs.dropLast us.dropLast:=by
 induction h with
 |nil=>exact .nil
 |cons r t a=>
  cases t with
  |nil=>exact .nil
  |cons q b=>exact .cons r a
theorem Aq.reverse{xs:List V}{us:List Aa}(h:Aq xs us):Aq xs.reverse us.reverse:=by
 induction h with
 |nil=>exact .nil
 |cons r t a=>rw[List.reverse_cons,List.reverse_cons];exact Aq.append a (.cons r .nil)
theorem Aq.rep{xs:List V}{us:List Aa}(h:Aq xs us):∀k:Nat,Aq (DF k xs).flatten (DF k us).flatten
 |0=>.nil
 |k+1=>by
  rw[List.replicate_succ,List.replicate_succ,List.flatten_cons,List.flatten_cons]
  exact Aq.append h (Aq.rep h k)
section
variable{X:Cx}{pins:List (Ac×AM)}{σ:St}{H:Hp}{s:Ab}{l b:Ac}{xs ys zs:List V}
theorem Inv.lset{a its':List Aa}{n:Nat}{f:Array Aa->Array Aa}{t':Nat}(I:Inv X pins σ H s)(b:H l=some (.lst xs))
  (e:s.heap.get? l=some {cls:=.type "list",data:=.seq a.toArray n}) (c:f a.toArray=its'.toArray) (d:Aq ys its') (hz:ys.length<=AG):
  Inv X pins σ (AU H l (.lst ys)) {s with heap:=s.heap.update l (G9 f),toks:=t' }:=by
 have q:=PySem.IsL.update e f
 rw[c]at q
 refine I.write (x:=l) (e:=l) (by rw[b];exact trivial) (.inl rfl) (λi u g h=>(Lg s.heap (G9 f) (Bp g)).trans h) ⟨_,q⟩ ?_
 exact⟨hz,its',_,d,q⟩
theorem Inv.lnew{a:List Aa}{t':Nat}(I:Inv X pins σ H s)(b:Aq ys a)(hz:ys.length<=AG):
  Inv X pins σ (AU H s.heap.objs.size (.lst ys)) {s with heap:=s.heap.push {cls:=.type "list",data:=.seq a.toArray},toks:=t' }:=
 I.laid (λ_ _ q=>Bj _ q) (BD _) ⟨hz,a,0,b,Ca _ rfl⟩
theorem Inv.fresh(I:Inv X pins σ H s):H s.heap.objs.size=none:=I.hok.fresh (BD _)
theorem Inv.lstM(I:Inv X pins σ H s)(b:H l=some (.lst xs)):xs.length<=AG/\∃(a:List Aa)(n:Nat),Aq xs a/\xs.length=a.length/\s.heap.get? l=some {cls:=.type "list",data:=.seq a.toArray n}:=by
 obtain⟨z,a,n,r,e⟩:=I.hok l _ b
 exact⟨z,a,n,r,r.length,e⟩
end
section
variable{X:Cx}
def hQ:V->List V->Hp->VK->Prop:=λx vs H Q=>∃l a y,x=.ref l/\vs=[y]/\H l=some (.lst a)/\a.length<AG/\Q .non (AU H l (.lst (a++[y])))
theorem VQ:hJ X "list.append" hQ:=by
 intro b s j H x vs v k Q I f g h
 obtain⟨l,m,y,rfl,rfl,c,o,q⟩:=h
 cases f
 obtain⟨u,rfl,i⟩:=g.one
 obtain⟨z,a,n,r,p,e⟩:=I.lstM c
 refine call_meets F.slot_list_append ⟨_,e,rfl⟩ F.entry_list_append (F.args_list_append_2 _ _) (PySem.list_append l a.toArray n u (by rw[BR];omega)) ⟨e,?_⟩
 refine⟨.non,_,I.lset (its':=a++[u]) c e (by simp) (r.append (.cons i .nil)) ?_,rfl,q⟩
 rw[Ge,Qy]
 omega
end
section
variable{prog:AY}{w:Ai}{A:Aj}{E:Aa->Ab->Prop}{s:Ab}
set_option maxRecDepth 100000 in
end
section
variable{X:Cx}
end
end L2
namespace Att
open PySem PySem.W PySem.Calls PyProof.Rows
theorem hT{P:Params}{h:Am}:∀(c:List Int)(vs:List Aa),WellAll P h vs (c.map WData.int)->IntsAre vs c:=by
 intro c
 induction c with
 |nil=>
  intro vs w
  rw[CA]at w
  cases w
  exact .nil
 |cons n c d=>
  intro vs w
  rw[AW]at w
  cases w with
  |cons a b=>
   cases a
   exact .cons _ _ (d _ b)
theorem hU{l:OpenLaw}{n:Nat}(o:l.most=some n){P:Params}{h:Am}{args:List WData}{Zt:List Aa}
  (c:l.row.toRowW.claim.pre args=true) (j:WellAll P h Zt args):
  ∃a vs b,Zt=[CF a]/\args=[WData.list (b.map WData.int)]/\h.get? a=some {cls:=.type "list",data:=.seq vs.toArray}/\IntsAre vs b/\b.length<=n:=by
 have k:WShape.hasAll [] args [.list .int]=true:=(pre_splitW c).1
 have m:l.pre.holds [] {args:=args}=true:=(pre_splitW c).2
 obtain⟨d,r,rfl,p,s⟩:=hasAllW_cons k
 obtain rfl:=hasAllW_nil s
 obtain⟨w,rfl,t⟩:=hasW_list p
 obtain⟨b,rfl⟩:=items_int t
 have e:b.length<=n:=by
  unfold OpenLaw.pre at m
  have g:(WTm.not (.lt (.lit (.int (n:Int))) (.len (.arg 0)))).holds [] {args:=[.list (b.map .int)]}=true:=by
   have g:=(holds_andW m).1
   rw[o]at g
   exact g
  have i:=condW_of g (w_not (w_lt w_lit (w_len_list (w_arg rfl))))
  rw[B1]at i
  refine Nat.le_of_not_lt λq=>?_
  have u:(n:Int)<((b.length:Nat):Int):=by omega
  first
   |(rw[decide_eq_true u]at i;exact absurd i (by decide))
   |(simp at i;omega)
 cases j with
 |cons w1 w2=>
  cases w2
  cases w1 with
  |list v f=>exact⟨_,_,b,rfl,rfl,v,hT b _ f,e⟩
theorem hV(l:OpenLaw)(args:List WData):l.row.toRowW.claim.post args (.bool true) args=true:=
 postW_of (r:=l.row.toRowW) (X:=(true==true))
  (show WShape.has [] (.bool true) .bool=true by first|rfl|decide|simp[WShape.has,WShape.arms,WShape.armsAll])
  (show(WTm.eq .res (.lit (.bool true))).value [] {args:=args,res:=some (.bool true),after:=args}=some (.bool (true==true))from w_eq_bool (w_res rfl) w_lit) rfl
theorem attach_call{l:OpenLaw}{n:Nat}{q:AY}{c:List Ae}{z:(Ae->Option Aa)->Am->Prop}{A:Ai->Am->Prop}{d:DefRec}
  (E:l.most=some n) (s:d.params.defaults=[])
  (call:∀(w:Ai) (s₀ b:Ab) (mg t:Ae->Option Aa) (h:Ac) (o:AM) (u m e:Aa) (a:Ac) (vs:List Aa) (p:List Int),
   Ground q c [] z w s₀ mg t b.heap->A w b.heap ->
   b.heap.get? h=some o->o.data=.func (docDef d.name d.params d.body d.scope u m e)->b.heap.CodeRec m d.name->mg d.name=some (.ref h) ->
   b.heap.get? a=some {cls:=.type "list",data:=.seq vs.toArray}->IntsAre vs p->p.length<=n->b.gens=#[] ->
   codeAny (Af l.prog w) callerA (.call (.ref h) ⟨[.ref a],[]⟩) (λr s'=>r=.ok (.ret (.bool true))/\OldK b.heap s'.heap/\s'.os=b.os/\AllBare s'.gens) b):
  WalkO q c z A l.row.toRowW d [] (λf vs=>PySem.call f vs):=by
 intro w s₀ b mg t G Y h o u m e H kV I hd v B x J args Zt as i C L y M
 obtain rfl:H=.none:=Dflts.none B s
 obtain rfl:kV=.none:=Dflts.noKw B
 obtain⟨a,vs,p,rfl,rfl,j,g,k⟩:=hU E i y
 refine enter_call (codeAny_mono (call w s₀ b mg t h o u m e a vs p G Y I (fd_plain hd) v x j g k J) λr s' N=>?_)
 obtain⟨rfl,O,Q,T⟩:=N
 exact⟨.inl ⟨.bool true,.bool true,[],rfl,λ_=>rfl,.bool true,hV l _,λ_=>⟨List.Pairwise.nil,λ_ U=>(nomatch U)⟩⟩,O,Q,T⟩
section
variable{prog:AY}{w:Ai}{A:Aj}{E:Aa->Ab->Prop}{s:Ab}{K:Frag}
end
end Att
namespace L2
open PySem PySem.Spec PyProof.Rows
theorem Qz:∀{vs:List Aa}{a:List Int},IntsAre vs a->Aq (a.map V.int) vs
 |_,_,.nil=>.nil
 |_,_,.cons n t h=>.cons ⟨t,rfl⟩ (Qz h)
def QA(H:Hp):Prop:=∀b,H b=none\/∃o a,H b=some (.frz o (.lst a))
theorem hW{P:AY}{w:Ai}{K:Ar}{mg I:Ae->Option Aa}{CX:EM}{k:Nat}{J a:Ac}{fd:Bi}{x:Ae}{sp:Sp}{c:Ab}{vs:List Aa}{j:List Int}
  (U:K.In c.heap) (l:c.heap.Ns Dq mg) (f:c.heap.Ns builtinsNs I) (L:∀x:Ae,x≠"__name__"->I x=Ep x) (p:c.heap.NoLimit) (hg:c.gens=#[])
  (G:c.heap.get? a=some {cls:=.type "list",data:=.seq vs.toArray}) (Y:IntsAre vs j) (hl:j.length<=AG) (hr:Bd k callerA)
  (F:∀base:Am,K.In base->base.Ns Dq mg->Ax P w K mg base CX k J fd [x] sp) (i:∀(s:Ab) (u:Aa),BindsTo s fd ⟨[u],[]⟩ [(x,u)])
  (M:∀H:Hp,QA H->BH K H a (j.map V.int)->sp [.ref a] H (λv _=>v=.bl true) λ_ _ _=>False)
  (N:∀H e s',CX [] H c (λ_ _ _=>False) e s'->False):
  codeAny (Af P w) callerA (.call (.ref J) ⟨[.ref a],[]⟩) (λr s'=>r=.ok (.ret (.bool true))/\OldK c.heap s'.heap/\s'.os=c.os/\AllBare s'.gens) c:=by
 have rv:=Qz Y
 have t:=Y.length
 have core:∀H:Hp,QA H->BH K H a (j.map V.int)->Co P w H c.heap->(∀b,H b≠none->b=a)->(H a≠none->K.lookup a=none) ->
   codeAny (Af P w) callerA (.call (.ref J) ⟨[.ref a],[]⟩) (λr s'=>r=.ok (.ret (.bool true))/\OldK c.heap s'.heap/\s'.os=c.os/\AllBare s'.gens) c:=by
  intro H hO hS hok hA hK
  have base_of:∀{b:Ac} {o:AM},c.heap.get? b=some o->H b=none->(G1 c.heap H).get? b=some o:=λe n=>eS e n
  have O:∀{b:Ac} {o:AM} {y:Array BJ} {A:Nat},c.heap.get? b=some o->o.data=.dict y A->H b=none:=λ{b o y A} e d=>by
   cases q:H b with
   |none=>rfl
   |some u=>
    have Q:b=a:=hA b (by rw[q];simp)
    subst Q
    rw[G]at e;cases e
    have d':Data.seq vs.toArray _=Data.dict y A:=d
    cases d'
  have g:∀{b:Ac} {m:Ae->Option Aa},c.heap.Ns b m->(G1 c.heap H).Ns b m:=λ{b m} ⟨o,y,A,e,d,r⟩=>⟨o,y,A,base_of e (O e d),d,r⟩
  have B:K.In (G1 c.heap H):=λb o e=>base_of (U b o e) (by
   cases q:H b with
   |none=>rfl
   |some u=>
    have Q:b=a:=hA b (by rw[q];simp)
    subst Q
    rw[hK (by rw[q];simp)]at e;cases e)
  have hM:Mod K mg (G1 c.heap H):=⟨B,g l,⟨I,g f,L⟩,let⟨mc,h1,h2⟩:=p;⟨mc,g h1,h2⟩⟩
  have e0:C4 P w K mg (G1 c.heap H) callerA [] c H:=⟨rfl,hM,λb o e=>eT e,Nat.le_of_eq (eR _ _),trivial,λb f=>absurd (show b∈([]:List Ac)from f) (by simp),hok,.of_eq hg⟩
  refine codeAny_mono ((F _ B (g l)).run callerA [] c H ⟨[.ref a],[]⟩ [.ref a] [.ref a] _ _ hr e0 (i c (.ref a)) (.cons rfl .nil) (M H hO hS)) λr s' h=>?_
  cases r with
  |error e=>exact(N H e s' h).elim
  |ok fl=>
   cases fl with
   |next=>exact BB h
   |brk=>exact BB h
   |cont=>exact BB h
   |ret u=>
    obtain⟨v,H',os,bare,un,C,r',q⟩:=h
    have q':v=.bl true:=q
    subst q'
    obtain rfl:u=Value.bool true:=r'
    refine⟨rfl,OldK.of_keep λb o e=>?_,os,bare⟩
    cases q:H b with
    |none=>exact un.keep b o e q (by intro z;exact absurd (show b∈([]:List Ac)from z) (by simp)) (by simp)
    |some u=>
     rcases hO b with z|⟨ob,xs,z⟩
     ·rw[q]at z;cases z
     ·have z2:=un.frzs b ob _ z
      obtain⟨e1,_⟩:=hok b _ z
      obtain⟨e2,_⟩:=C b _ z2
      rw[e]at e1;cases e1
      exact e2
 cases T:K.lookup a with
 |some o=>
  have e:=U a o T
  rw[G]at e
  cases e
  refine core (λ_=>none) (λ_=>.inl rfl) (.inr ⟨_,vs.toArray,_,T,rfl,rfl,rfl,by rw[BR,t];exact hl,by simpa using rv⟩) (λb u z=>by have E:(none:Option HO)=some u:=z;cases E) (λb z=>absurd rfl z) λz=>absurd rfl z
 |none=>
  refine core (λb=>if b=a then some (.frz {cls:=.type "list",data:=.seq vs.toArray} (.lst (j.map V.int)))else none) (λb=>?_) (.inl (.inr ⟨{cls:=.type "list",data:=.seq vs.toArray},if_pos rfl⟩)) (λb u z=>?_) (λb z=>?_) λ_=>T
  ·by_cases f:b=a
   ·exact .inr ⟨_,_,if_pos f⟩
   ·exact .inl (if_neg f)
  ·by_cases f:b=a
   ·have E:=(if_pos f).symm.trans z
    cases E
    subst f
    exact⟨G,by rw[B1];exact hl,vs,_,rv,G⟩
   ·have E:=(if_neg f).symm.trans z
    cases E
  ·by_cases f:b=a
   ·exact f
   ·exact absurd (if_neg f) z
theorem walk_of{l:PySem.W.OpenLaw}{n k:Nat}{q:AY}{i:List Ae}{J:(Ae->Option Aa)->Am->Prop}{E:Ai->Am->Prop}{d:DefRec}{K:Params->Ar}{CX:Ai->EM}{sp:Ai->Sp}{x:Ae}
  (L:l.most=some n) (y:n<=AG) (z:d.params.defaults=[]) (M:Bd k callerA)
  (N:∀(w:Ai) (h:Am),E w h->(K w.params).In h)
  (F:∀(w:Ai) (mg:Ae->Option Aa) (r:Ac) (h:Am),(K w.params).In h->h.Ns Dq mg->mg d.name=some (.ref r) ->
   ∃fd:Bi,(∀(s:Ab) (u:Aa),BindsTo s fd ⟨[u],[]⟩ [(x,u)]) /\
    ∀base:Am,(K w.params).In base->base.Ns Dq mg->Ax l.prog w (K w.params) mg base (CX w) k r fd [x] (sp w))
  (A:∀(w:Ai) (H:Hp) (a:Ac) (t:List Int),t.length<=n->QA H->BH (K w.params) H a (t.map V.int)->sp w [.ref a] H (λv _=>v=.bl true) λ_ _ _=>False)
  (B:∀(w:Ai) (H:Hp) (s:Ab) (e:Aa) (s':Ab),CX w [] H s (λ_ _ _=>False) e s'->False):
  PySem.W.WalkO q i J E l.row.toRowW d [] (λf vs=>PySem.call f vs):=by
 refine Att.attach_call L z λw s₀ m mg mb r o pm cd O a vs t G Y ho hd Q C p j c U=>?_
 have I:=N w _ Y
 obtain⟨fd,hb,hF⟩:=F w mg r _ I G.T.g C
 exact hW I G.T.g G.T.b G.T.builtins G.T.nolimit U p j (CN c y) M hF hb (λH hO hS=>A w H a t c hO hS) λH e s'=>B w H m e s'
def IG(s:Au):Arguments:=match s with
 |.FunctionDef _ a _ _ _ _ _ _ _ _=>a
 |_=>{posonlyargs:=[],args:=[],vararg:=none,kwonlyargs:=[],kw_defaults:=[],kwarg:=none,defaults:=[]}
def FQ(s:Au):List Au:=match s with
 |.FunctionDef _ _ b _ _ _ _ _ _ _=>b
 |_=>[]
def Zm(s:Au):Scope:=match s with
 |.FunctionDef _ _ _ _ _ _ a _ _ _=>a
 |_=>{kind:=.function,names:=[],isGenerator:=false,isCoroutine:=false}
abbrev Bh:EM:=λ_ _ _ _ _ _=>False
abbrev E0:XK:=λ_ _ _=>False
theorem VR{X:Cx}:K9 Bh X E0:=λ_ _ _ _ _ _ _ h=>h.elim
structure IH(K:Ar)(x qual:Ae)(st:Au)(f:Ac)(fd:Bi):Prop where
 ex:∃(oc:Aa) (od:Option Ac) (kV doc pm:Aa) (an:Option Ac) (cdv ct:Aa) (osl:Array (Option Aa)),
  fd=HG x qual (IG st) (FQ st) (Zm st) .none kV doc pm an cdv ct/\K.lookup f=some ⟨oc,od,.func fd,osl⟩/\PySem.W.codeIn K cdv qual=true
 kp:La K (.ref f)=true
section
variable{P:AY}{w:Ai}{K:Ar}{mg:Ae->Option Aa}{base:Am}
theorem IH.ok{x a:Ae}{st:Au}{f:Ac}{fd:Bi}{N ps:List Ae}{k:Nat}{sp:Sp}(F:IH K x a st f fd)(S:ZE N ps (Zm st))(len:∀vs H Q E,sp vs H Q E->vs.length=ps.length)
  (c:∀(b:Aa) (A:Aj) (outer:List Env) (s:Ab) (H:Hp) (vs:List V) (Q:VK) (E:XK),Bd k (A.deeper (envOfC a (Zm st) s.heap.objs.size f b))->sp vs H Q E ->
   ∃t,Es (Gd Bh P w K mg base N a (Zm st) f b A outer s H E).nox (FQ st) t/\t {nx:=λ_ H'=>Q .non H',rt:=Q} (FP N vs) H):Ax P w K mg base Bh (k+1) f fd ps sp:=by
 obtain⟨m,n,kV,g,o,p,b,ct,i,rfl,j,d⟩:=F.ex
 refine VA j d S len λA outer s H vs Q E l e=>?_
 obtain⟨t,h,q⟩:=c b A outer s H vs Q E l e
 exact⟨t,h.nox,q⟩
theorem hZ{x a:Ae}{st:Au}{f:Ac}{i:Aa}{j g:Option Ac}{e:Array (Option Aa)}{kV d h b ct:Aa}(l:K.lookup f=some ⟨i,j,.func (HG x a (IG st) (FQ st) (Zm st) .none kV d h g b ct),e⟩)
  (c:PySem.W.codeIn K b a=true) (k:La K (.ref f)=true):IH K x a st f (HG x a (IG st) (FQ st) (Zm st) .none kV d h g b ct):=⟨⟨i,j,kV,d,h,g,b,ct,e,rfl,l,c⟩,k⟩
end
theorem h7{n:Nat}(h:n<=1000):n<AG:=QB h (by decide)
section
variable{X:Cx}
end
def Ak(H H':Hp):Prop:=∀b o,H b=some o->H' b=some o
theorem Ak.refl(H:Hp):Ak H H:=λ_ _ h=>h
theorem Ak.trans{H d e:Hp}(a:Ak H d)(b:Ak d e):Ak H e:=λc o h=>b c o (a c o h)
theorem Ak.free{H H':Hp}(e:Ak H H'){l:Ac}(h:H' l=Option.none):H l=Option.none:=by
 cases q:H l with
 |none=>rfl
 |some o=>
  rw[e l o q]at h
  cases h
theorem Ak.seq{K:Ar}{H H':Hp}{a:Ac}{xs:List V}(e:Ak H H')(h:BH K H a xs):BH K H' a xs:=by
 rcases h with(h|⟨o,h⟩)|h
 ·exact .inl (.inl (e _ _ h))
 ·exact .inl (.inr ⟨o,e _ _ h⟩)
 ·exact .inr h
def Ej(env:Env):List (Ae×EO)->List (Ae×Ac)->List (Ae×Ac)
 |[],a=>a
 |(n,k)::r,a=>if k=ER then Ej env r ((n,(env.cells.lookup n).getD 0)::a)else Ej env r a
theorem VS{scope:Scope}{env:Env}(h:∀x∈scope.names,x.2=.free->∃c,env.cells.lookup x.1=some c):
  closureFor scope env=AK (Ej env scope.names []):=by
 have all:∀(l:List (Ae×EO)) (b:List (Ae×Ac)),(∀x∈l,x.2=.free->∃c,env.cells.lookup x.1=some c) ->
   (forIn l b (λ(x:Ae×EO) (b:List (Ae×Ac))=>if(x.2==ER)=true then(do let a <- cellOf env x.1;AK (ForInStep.yield ((x.1,a)::b)))else AK (ForInStep.yield b)):Sem (List (Ae×Ac)))=AK (Ej env l b):=by
  intro l
  induction l with
  |nil=>intro b _;rfl
  |cons x l j=>
   intro b f
   obtain⟨n,k⟩:=x
   rw[JQ]
   have g:=λb=>j b (λy m=>f y (Bv _ m))
   by_cases d:k=.free
   ·subst d
    obtain⟨c,i⟩:=f (n,.free) BC rfl
    have e:cellOf env n=AK c:=by unfold cellOf;simp only[i]
    simp only[beq_self_eq_true,if_true,e,pure_bind,g,Ej,i,Option.getD_some]
   ·have o:(k==ER)=false:=by simpa using d
    simp only[o,DW,if_false,pure_bind,g,Ej,d]
 have:=all scope.names [] h
 simp only[closureFor]
 rw[<- bind_pure (AK (Ej env scope.names []):Sem _),<- this]
theorem QC{env:Env}:∀(l:List (Ae×EO))(a:List (Ae×Ac)),(∀x∈l,x.2=.free->∃c,env.cells.lookup x.1=some c) ->
  (∀p∈a,env.cells.lookup p.1=some p.2)->∀p∈Ej env l a,env.cells.lookup p.1=some p.2
 |[],a,_,h=>h
 |(n,k)::r,a,d,h=>by
  have f:∀x∈r,x.2=.free->∃c,env.cells.lookup x.1=some c:=λy i=>d y (Bv _ i)
  by_cases g:k=.free
  ·subst g
   obtain⟨c,j⟩:=d (n,.free) BC rfl
   simp only[Ej,if_true]
   refine QC r _ f λp b=>?_
   rcases Br.mp b with e|b
   ·subst e;simp only[j,Option.getD_some]
   ·exact h p b
  ·simp only[Ej,g,if_false]
   exact QC r a f h
theorem QD{env:Env}:∀(l:List (Ae×EO))(a:List (Ae×Ac))(x:Ae),((x,ER)∈l\/∃c,(x,c)∈a)->∃c,(x,c)∈Ej env l a
 |[],a,x,h=>by
  rcases h with h|h
  ·cases h
  ·exact h
 |(n,k)::r,a,x,h=>by
  by_cases b:k=.free
  ·subst b
   simp only[Ej,if_true]
   refine QD r _ x ?_
   rcases h with h|⟨c,h⟩
   ·rcases Br.mp h with e|h
    ·cases e;exact .inr ⟨_,BC⟩
    ·exact .inl h
   ·exact .inr ⟨c,Bv _ h⟩
  ·simp only[Ej,b,if_false]
   refine QD r a x ?_
   rcases h with h|h
   ·rcases Br.mp h with e|h
    ·cases e;exact absurd rfl b
    ·exact .inl h
   ·exact .inr h
theorem VT{a:Type}:∀{l:List (Ae×a)}{x:Ae}{c:a},(x,c)∈l->∃d,l.lookup x=some d
 |[],_,_,h=>by cases h
 |(n,b)::r,x,c,h=>by
  rw[MY]
  cases e:x==n with
  |true=>exact⟨b,rfl⟩
  |false=>
   rcases Br.mp h with z|h
   ·cases z;simp at e
   ·exact VT h
structure Ha(own outs:List Ae)(sc osc:Scope):Prop where
 kind:sc.kind=.function
 nocell:∀x∈sc.names,x.2≠.cell
 free:∀x∈sc.names,x.2=.free->osc.names.lookup x.1=some .cell\/osc.names.lookup x.1=some .free
 loc:∀x∈sc.names,x.2=.local->sc.names.lookup x.1=some .local
 out:∀x∈outs,sc.names.lookup x=some .free
 nd:(own++outs).Nodup
theorem B6{env:Env}:∀{names:List (Ae×EO)}{x:Ae},names.lookup x=some .free ->
  ((names.map λ(n,k)=>if(k==ER&&env.scope.kind==.function&&env.kindOf n==some .cell)then(n,HH)else(n,k)).lookup x=some .cell \/
    (names.map λ(n,k)=>if(k==ER&&env.scope.kind==.function&&env.kindOf n==some .cell)then(n,HH)else(n,k)).lookup x=some .free)
 |[],_,h=>by simp at h
 |(n,k)::r,x,h=>by
  have b:=@B6 env r x
  rw[AW]
  by_cases c:(k==ER&&env.scope.kind==.function&&env.kindOf n==some .cell)=true
  ·rw[show(match((n,k):Ae×EO)with|(n,k)=>if(k==ER&&env.scope.kind==.function&&env.kindOf n==some .cell)then(n,HH)else(n,k))=(n,HH)from if_pos c]
   rw[MY]at h ⊢
   cases a:x==n with
   |true=>exact .inl rfl
   |false=>rw[a]at h;exact b h
  ·rw[show(match((n,k):Ae×EO)with|(n,k)=>if(k==ER&&env.scope.kind==.function&&env.kindOf n==some .cell)then(n,HH)else(n,k))=(n,k)from if_neg c]
   rw[MY]at h ⊢
   cases a:x==n with
   |true=>rw[a]at h;exact .inr h
   |false=>rw[a]at h;exact b h
theorem Ck{env:Env}:∀{names:List (Ae×EO)}{x:Ae}{k:EO},k=.cell\/k=.free->(∀y∈names,y.2≠.cell) ->
  (names.map λ(n,k)=>if(k==ER&&env.scope.kind==.function&&env.kindOf n==some .cell)then(n,HH)else(n,k)).lookup x=some k->(x,ER)∈names
 |[],_,_,_,_,h=>by simp at h
 |(n,j)::r,x,k,a,f,h=>by
  have g:=@Ck env r x k a λy i=>f y (Bv _ i)
  rw[AW]at h
  by_cases c:(j==ER&&env.scope.kind==.function&&env.kindOf n==some .cell)=true
  ·rw[show(match((n,j):Ae×EO)with|(n,k)=>if(k==ER&&env.scope.kind==.function&&env.kindOf n==some .cell)then(n,HH)else(n,k))=(n,HH)from if_pos c]at h
   rw[MY]at h
   cases b:x==n with
   |true=>
    have e:x=n:=by simpa using b
    have d:j=.free:=by
     simp only[C7,beq_iff_eq]at c
     exact c.1.1
    subst e d
    exact BC
   |false=>rw[b]at h;exact Bv _ (g h)
  ·rw[show(match((n,j):Ae×EO)with|(n,k)=>if(k==ER&&env.scope.kind==.function&&env.kindOf n==some .cell)then(n,HH)else(n,k))=(n,j)from if_neg c]at h
   rw[MY]at h
   cases b:x==n with
   |true=>
    rw[b]at h
    have e:x=n:=by simpa using b
    have d:j=k:=Fm h
    subst e d
    rcases a with a|a
    ·exact absurd a (f _ BC)
    ·subst a;exact BC
   |false=>rw[b]at h;exact Bv _ (g h)
def Dg(X:Cx)(own a:List Ae)(scope:Scope)(C:Ac)(c:Ab)(d:Hp)(e:List Ac)(b:List (Ac×AM)):Cx where
 prog:=X.prog
 w:=X.w
 K:=X.K
 mg:=X.mg
 base:=X.base
 A:=X.A
 N:=own++a
 s₀:=c
 H₀:=d
 env:=compEnvC scope (Ej X.env scope.names []) C X.env
 outer:=X.stack
 stack:=X.stack
 ex:=e
 fn:=λ_=>false
 calm:=X.calm
 pn:=X.pn++b
 xe:=λ_ _=>False
def Fs(X:Cx)(b:List Expr)(e:TT):Prop:=
 ∀(a:List (Ac×AM)) (s:Ab) (d:St) (H:Hp) (Q:Bool->Hp->Prop),Inv X a d H s->e d H Q ->
  wpAny (Af X.prog X.w) X.A (forIn b true λc r=>if r=true then do let ok <- isTrue c X.env (Ay c X.env);AK (ForInStep.yield ok)else AK (ForInStep.yield r)) (TP X a d Q) X.xe s
def ie:TT:=λ_ H Q=>Q true H
theorem ig{X:Cx}:Fs X [] ie:=λ_ _ _ H _ I h=>wpAny_tests_nil ⟨H,I,h⟩
theorem ii{X:Cx}{c:Expr}{b:TT}(h:PT X c b):Fs X [c] b:=λa s d H Q I q=>wpAny_tests_one (h a s d H Q I q)
def Eu(k:Nat)(a:List Nat)(σ:St):St:=DF k none++a.map λj=>(σ[j]?).join
def VU(k:Nat)(e:List Nat)(g:TG)(m:TT)(o:TE)(J:It)(σ:St)(H:Hp)(Q:VK):Prop:=
 ∃(n:Nat) (W:Nat->List V->Hp->Prop),W 0 [] H/\∀i c d,W i c d ->
  (J.stop i d/\c.length<=AG/\∀p,d p=none->Q (.ref p) (AU d p (.lst c))) \/
  (J.go i d/\i<n/\c.length<AG/\∃N:List V->Hp->Prop,(∀f h,N f h->W (i+1) f h)/\∀x j,J.yld i d x j->g x (Eu k e σ) j λa q=>a.drop k=(Eu k e σ).drop k /\
   m a q λb l=>if b=true then o a l λy r=>N (c++[y]) r else N c l)
def QE(k:Nat)(a:List Nat)(c:TI)(g:TG)(d:TT)(e:TE):TE:=λb H Q=>c b H λJ f=>VU k a g d e J b f Q
def ES(a:List Aa)(n:Nat):AM:={cls:=.type "list",data:=.seq a.toArray n}
theorem Co.track{P:AY}{w:Ai}{H:Hp}{h:Am}{a:Ac}{o:HO}(x:Co P w H h)(d:H a=none)(new:Bk P w (AU H a o) h a o):Co P w (AU H a o) h:=λb u e=>by
 by_cases f:b=a
 ·subst f;rw[Z7]at e;cases e;exact new
 ·rw[ZB f]at e
  exact(x b u e).stay (λc v _ q=>q) (λc q=>by rw[ZB (Eo q d)];exact q) λc g q=>by rw[ZB (Eo q d)];exact q
theorem VV{X:Cx}{f:List (Ac×AM)}{σ:St}{H2:Hp}{a:Ab}{tg elt iter:Expr}{ifs:List Expr}{scope:Scope}{pos:A5}{J:It}{M:List Ac}{it:Ac}{tn:Nat->Am->Prop}
  {own I:List Ae} {U:List Nat} {g:TG} {tt:TT} {te:TE} {Q:VK} {E:Aa->Ab->Prop} {RR:Aa->Ac->Result->Ab->Prop}
  (S:Ha own I scope X.env.scope) (hox:U.map (λj=>X.N[j]?)=I.map some) (hc:X.calm=true)
  (hg:∀C a H2 M f,PG (Dg X own I scope C a H2 M f) tg g)
  (ht:∀C a H2 M f,Fs (Dg X own I scope C a H2 M f) ifs tt)
  (he:∀C a H2 M f,PE (Dg X own I scope C a H2 M f) elt te)
  (B:Inv X f σ H2 a) (T:GJ X.prog X.w X.K tg J M it tn) (st:tn 0 a.heap) (f2:∀b∈M,Fn X f H2 b)
  (h:VU own.length U g tt te J σ H2 Q)
  (hRR:∀(C:Ac) (s':Ab) (m:Ae->Option Aa) (H':Hp),s'.heap.Ns C m->Inv X f σ H' s'->H' C=none->C≠X.env.locals->X.s₀.heap.objs.size<=C ->
   (∀x c,X.env.cells.lookup x=some c->c≠C)->(∀p∈X.pn++f,p.1≠C)->Q (.ref a.heap.objs.size) H'->RR (.ref a.heap.objs.size) C (.ok .next) s'):
  wpAny (Af X.prog X.w) X.A (newList []) (λacc s₃=>wpAny (Af X.prog X.w) X.A (newFunctionEnv scope X.env.globals (Ej X.env scope.names []) [] X.env.qual none .none (some X.env)) (λcenv s₄=>
   codeAny (Af X.prog X.w) X.A (.compStart (.ListComp elt [⟨tg,iter,ifs,0⟩] scope pos) 0 (.ref it) acc {cenv with scope:=relabel scope X.env}) (RR acc cenv.locals) s₄) E s₃) E a:=by
 obtain⟨n,W,w0,turn⟩:=h
 refine Gg (wpAny_newFunctionEnv S.nocell (by intro y hy;simp at hy) (λh₁ O L=>?_) S.kind)
 dsimp only at O L ⊢
 generalize hP:a.heap.push {cls:=.type "list",dict:=none,data:=.seq ([]:List Aa).toArray}=t at O L ⊢
 have hC:t.objs.size=a.heap.objs.size+1:=by rw[<- hP,E8]
 generalize hCC:t.objs.size=C at O L hC ⊢
 have hDC:a.heap.objs.size≠C:=by rw[hC];exact CG (Nat.lt_succ_self _)
 have H:a.heap.objs.size<C:=by rw[hC];exact Nat.lt_succ_self _
 have old:∀b o,a.heap.get? b=some o->h₁.get? b=some o:=λb o e=>
  L.extBut b o (CG (Hb (BA e) H)) (Bj _ (hP ▸ Bj _ e))
 have hacc:h₁.get? a.heap.objs.size=some (ES [] 0):=L.extBut _ _ hDC (Bj _ (hP ▸ Ca _ rfl))
 have hcells:∀x∈scope.names,x.2=.free->∃c,X.env.cells.lookup x.1=some c:=λx hx hf=>B.ok.has x.1 (S.free x hx hf)
 have clX:∀x c,(Ej X.env scope.names []).lookup x=some c->X.env.cells.lookup x=some c:=λx c e=>
  QC scope.names [] hcells (λp t=>by cases t) (x,c) (JM e)
 have clHas:∀x,(x,ER)∈scope.names->∃c,(Ej X.env scope.names []).lookup x=some c:=λx hx=>by
  obtain⟨c,hc⟩:=QD (env:=X.env) scope.names [] x (.inl hx)
  exact VT hc
 have fpLt:∀b∈M,b<a.heap.objs.size:=λb G=>by
  obtain⟨o,e,_⟩:=T.obj 0 _ st b G
  exact BA e
 have cLt:∀x c,X.env.cells.lookup x=some c->c<a.heap.objs.size:=λx c e=>by
  obtain⟨v,q⟩:=B.cell x c e
  exact q.lt
 have fpStk:∀b∈M,b∉Cj X.stack:=λb G z=>by
  rcases Br.mp (B.stkSub b z)with e|z
  ·exact(f2 b G).2.1 e
  ·exact(f2 b G).2.2.1 z
 have pinLt:∀p∈X.pn++f,p.1<a.heap.objs.size:=λp t=>BA (B.pin p t).1
 have pinStk:∀p∈X.pn++f,p.1∉Cj X.stack:=λp t z=>by
  rcases Br.mp (B.stkSub _ z)with e|z
  ·exact(B.pin p t).2.2.1 e
  ·exact(B.pin p t).2.2.2.1 z
 have fsLt:∀b∈Cj X.stack,b<a.heap.objs.size:=λb G=>by
  obtain⟨_,o,ho,_⟩:=B.stack.mem G
  exact BA ho
 let Y:Cx:=Dg X own I scope C a H2 M f
 have okY:Y.Ok:={
  mod:=B.ok.mod
  kind:=S.kind
  glob:=B.ok.glob
  blt:=B.ok.blt
  above:=Jy H
  inj:=λx y c h1 h2=>B.ok.inj x y c (clX x c h1) (clX y c h2)
  has:=λx hx=>by
   refine clHas x ?_
   rcases hx with hx|hx
   ·exact Ck (env:=X.env) (.inl rfl) S.nocell hx
   ·exact Ck (env:=X.env) (.inr rfl) S.nocell hx
  cab:=λx c hf _=>absurd (show false=true from hf) HD
  hd:=B.ok.hd
  frames:=B.ok.frames
  stk:=.inl rfl
  exf:=λb G=>⟨CG (Hb (fpLt b G) H),λx c e=>(f2 b G).2.2.2.2.1 x c (clX x c e)⟩
  bs:=B.bs
  bsz:=CN B.ok.bsz B.sz
  noex:=λb o e G=>by
   rcases(f2 b G).2.2.2.1 with z|z
   ·exact B.ok.noex b o e z
   ·exact absurd (Cg (BA e) (CN B.ok.bsz z)) (F8 _)
  exfs:=fpStk
  funs:=B.stack
  frf:=B.stkFree}
 have hCH:∀H':Hp,Co X.prog X.w H' h₁->True:=λ_ _=>trivial
 have lenS:(Eu own.length U σ).length=Y.N.length:=by
  have e:=congrArg List.length hox
  simp only[B1]at e
  show(DF own.length none++U.map _).length=(own++I).length
  rw[Ge,Ge,JN,B1,e]
 have I4:Inv Y [(a.heap.objs.size,ES [] 0)] (Eu own.length U σ) H2 {a with heap:=h₁}:={
  ok:=okY
  os:=rfl
  bare:=B.bare
  base:=Un.kept old
  loc:=by
   refine⟨_,O,λi x v e1 e2 e3=>?_⟩
   have hi:own.length<=i:=by
    apply Nat.le_of_not_lt
    intro hlt
    unfold Eu at e2
    rw[Lc (by rw[JN];exact hlt),ID]at e2
    rw[if_pos hlt]at e2
    cases e2
   unfold Eu at e2
   rw[Qr (by rw[JN];exact hi),JN,C1]at e2
   have e1':I[i-own.length]?=some x:=by
    have e1:(own++I)[i]?=some x:=e1
    rwa[Qr hi]at e1
   cases ej:U[i-own.length]? with
   |none=>rw[ej]at e2;cases e2
   |some j=>
    rw[ej]at e2
    have e2':(σ[j]?).join=some v:=Fm e2
    have e2'':σ[j]?=some (some v):=by
     cases eσ:σ[j]? with
     |none=>rw[eσ]at e2';cases e2'
     |some z=>rw[eσ]at e2';exact congrArg some e2'
    have eN:X.N[j]?=some x:=by
     have q:=congrArg (λl=>l[i-own.length]?) hox
     simp only[C1,ej,e1',II]at q
     exact Fm q
    have hfree:scope.names.lookup x=some .free:=S.out x (Ei e1')
    have hmem:(x,ER)∈scope.names:=JM hfree
    have hk:X.env.scope.names.lookup x=some .cell\/X.env.scope.names.lookup x=some .free:=S.free (x,.free) hmem rfl
    obtain⟨m,hn,hl⟩:=B.loc
    obtain⟨u,r,l⟩:=hl j x v eN e2'' (by rcases hk with hk|hk;exact .inr (.inl hk);exact .inr (.inr hk))
    refine⟨u,r,.inr ⟨B6 (env:=X.env) hfree,?_⟩⟩
    obtain⟨c,ec⟩:=clHas x hmem
    refine⟨c,ec,?_⟩
    have ec':=clX x c ec
    rcases l with⟨k,_⟩|⟨_,c',e',o,ho,hd⟩
    ·rcases hk with hk|hk
     ·exact absurd (k.symm.trans hk) (by decide)
     ·exact absurd (k.symm.trans hk) (by decide)
    ·rw[ec']at e'
     cases e'
     exact⟨o,old _ _ ho,hd⟩
  cell:=λx c e=>by
   obtain⟨v,o,ho,hd⟩:=B.cell x c (clX x c e)
   exact⟨v,o,old _ _ ho,hd⟩
  free:=B.hok.fresh (Jy H)
  freeC:=λx c e=>B.freeC x c (clX x c e)
  pin:=λp t=>by
   rcases List.mem_append.mp t with t|t
   ·obtain⟨e,n,_,_,d⟩:=B.pin p t
    exact⟨old _ _ e,n,CG (Hb (pinLt p t) H),pinStk p t,d⟩
   ·have e:p=(a.heap.objs.size,ES [] 0):=by simpa using t
    subst e
    refine⟨hacc,B.hok.fresh (BD _),hDC,λz=>absurd (fsLt _ z) (F8 _),λv z=>?_⟩
    have z':Data.seq _ _=G4 v:=z
    cases z'
  hok:=B.hok.kept old
  len:=lenS}
 have fpY:∀{H':Hp} {s:List Aa} {k:Nat},(∀b∈M,H' b=none)->∀b∈M,Fn Y [(a.heap.objs.size,ES s k)] H' b:=λ{H' s k} hn b G=>by
  refine⟨hn b G,CG (Hb (fpLt b G) H),fpStk b G,.inl G,λx c e=>(f2 b G).2.2.2.2.1 x c (clX x c e),λp t=>?_⟩
  rcases List.mem_append.mp t with t|t
  ·exact(f2 b G).2.2.2.2.2 p t
  ·have e:p=(a.heap.objs.size,ES s k):=by simpa using t
   subst e
   exact FN (fpLt b G)
 have fin:∀(i:Nat) (ys:List V) (s:List Aa) (k:Nat) (H':Hp) (s':Ab),Inv Y [(a.heap.objs.size,ES s k)] (Eu own.length U σ) H' s'->Aq ys s->ys.length<=AG ->
   Q (.ref a.heap.objs.size) (AU H' a.heap.objs.size (.lst ys))->RR (.ref a.heap.objs.size) C (.ok .next) s':=λi ys s k H' s' I' rv hz q=>by
  obtain⟨m,hn,_⟩:=I'.loc
  obtain⟨eD,nD,_⟩:=I'.pin (a.heap.objs.size,ES s k) (C2 _ (by simp))
  have un:Un (Cj X.stack) M H2 H' a.heap s'.heap:=I'.base
  have neD:∀b o,a.heap.get? b=some o->b≠a.heap.objs.size:=λb o e=>CG (BA e)
  have neH:∀b o,H2 b=some o->b≠a.heap.objs.size:=λb o e=>CG (B.hok.lt e)
  have un':Un (Cj X.stack) M H2 (AU H' a.heap.objs.size (.lst ys)) a.heap s'.heap:=
   ⟨un.keep,un.slot,λb o e n hx=>by rw[ZB (neD b o e)];exact un.free b o e n hx,un.there,λb xs e=>by rw[ZB (neH b _ e)];exact un.tups b xs e,
    λb o u e=>by rw[ZB (neH b _ e)];exact un.frzs b o u e,λb ps e=>by rw[ZB (neH b _ e)];exact un.tbls b ps e⟩
  have hok':Co X.prog X.w (AU H' a.heap.objs.size (.lst ys)) s'.heap:=Co.track I'.hok nD ⟨hz,s,k,rv,eD⟩
  have IX:Inv X f σ (AU H' a.heap.objs.size (.lst ys)) s':=B.call' (ch:=M) I'.os un' hok' I'.bare λb G=>⟨(f2 b G).2.2.2.1,(f2 b G).2.1,(f2 b G).2.2.2.2.1,(f2 b G).2.2.2.2.2⟩
  refine hRR C s' m _ hn IX ?_ ?_ ?_ ?_ ?_ q
  ·rw[ZB (Bp hDC)];exact I'.free
  ·exact FN (Hb B.lt H)
  ·exact CN B.sz (Jy H)
  ·exact λx c e=>CG (Hb (cLt x c e) H)
  ·exact λp t=>CG (Hb (pinLt p t) H)
 have loop:codeAny (Af X.prog X.w) X.A (.compLoop (.ListComp elt [⟨tg,iter,ifs,0⟩] scope pos) 0 (.ref it) (.ref a.heap.objs.size) Y.env) (RR (.ref a.heap.objs.size) C) {a with heap:=h₁}:=by
  refine codeAny_loop rfl (λk s'=>∃(i:Nat) (ys:List V) (s:List Aa) (c:Nat) (H':Hp),Inv Y [(a.heap.objs.size,ES s c)] (Eu own.length U σ) H' s'/\Aq ys s/\tn i s'.heap/\(∀b∈M,H' b=none)/\W i ys H'/\k=n-i) (λk s' hI=>?_) n
   ⟨0,[],[],0,H2,I4,.nil,T.keep 0 _ _ st λb _ o e=>old b o e,λb G=>(f2 b G).1,w0,rfl⟩
  show wpAny _ X.A ((compTurn (.ListComp elt [⟨tg,iter,ifs,0⟩] scope pos) 0 (.ref it) (.ref a.heap.objs.size) Y.env).onRaise (λx=>do noteFrame x Y.env;theTreesLotGoes x)) _ _ s'
  refine wpAny_noted ?_
  rw[compTurn_list]
  obtain⟨i,ys,s,c,H',I',rv,st',fr',w',ek⟩:=hI
  rcases turn i ys H' w' with⟨stop,hz,q⟩|⟨go,hin,hz,N,hN,step⟩
  ·refine Ag (wpAny_standAt (Ag (A8 (T.done Y rfl rfl rfl hc i _ s' _ H' _ I' (fpY fr') st' stop) λr s1 ⟨hr,I1⟩=>?_)))
   subst hr
   obtain⟨_,nD,_⟩:=I1.pin (a.heap.objs.size,ES s c) (C2 _ (by simp))
   exact AE (fin i ys s c H' s1 I1 rv hz (q _ nD))
  ·refine Ag (wpAny_standAt (Ag (A8 (T.item Y rfl rfl rfl hc i _ s' _ H' _ I' (fpY fr') st' go) λr s1 ⟨u,hr,h1⟩=>?_)))
   subst hr
   refine Ag (A8 h1 λ_ s5 ⟨x,H5,I5,r5,y5,st5,fr5⟩=>?_)
   have I5':=I5.pinned (fpY fr5) (T.obj _ _ st5)
   refine Ag (wpAny_noRaise (A8 (hg C a H2 M f _ s5 _ H5 x u _ I5' r5 (step x H5 y5)) λ_ s6 ⟨σ6,H6,I6,dr6,q6⟩=>?_))
   refine Ag (wpAny_noRaise (A8 (ht C a H2 M f _ s6 σ6 H6 _ I6 q6) λok s7 ⟨H7,I7,q7⟩=>?_))
   have back:∀{H8:Hp} {s8:Ab} {its8:List Aa} {c8:Nat},Inv Y ([(a.heap.objs.size,ES its8 c8)]++IA M s5.heap) σ6 H8 s8 ->
     Inv Y [(a.heap.objs.size,ES its8 c8)] (Eu own.length U σ) H8 s8/\tn (i+1) s8.heap/\∀b∈M,H8 b=none:=λ{H8 s8 its8 c8} I8=>by
    refine⟨I8.unpinned.weak ?_ λj v e=>?_,T.keep _ _ _ st5 λb G o e=>(I8.pin (b,o) (C2 _ (C2 _ (MR G e)))).1,λb G=>?_⟩
    ·exact lenS.trans I8.len.symm
    ·have hj:own.length<=j:=by
      apply Nat.le_of_not_lt
      intro hlt
      unfold Eu at e
      rw[Lc (by rw[JN];exact hlt),ID]at e
      rw[if_pos hlt]at e
      cases e
     have e':=congrArg (λl=>l[j-own.length]?) dr6
     simp only[MZ]at e'
     rw[show own.length+(j-own.length)=j by omega]at e'
     exact e'.trans e
    ·obtain⟨o,e,d⟩:=T.obj _ _ st5 b G
     exact(I8.pin (b,o) (C2 _ (C2 _ (MR G e)))).2.1
   cases ok with
   |false=>
    obtain⟨I8,st8,fr8⟩:=back I7
    exact AE ⟨rfl,n-(i+1),by omega,i+1,ys,s,c,H7,I8,rv,st8,fr8,hN _ _ q7,rfl⟩
   |true=>
    refine Ag (Ag (wpAny_noRaise (A8 (he C a H2 M f _ s7 σ6 H7 _ I7 q7) λy s8 ⟨z,H8,I8,r8,w8⟩=>?_)))
    obtain⟨eD,nD,neL,nF,dD⟩:=I8.pin (a.heap.objs.size,ES s c) (C2 _ (JC _ (by simp)))
    have hl:=rv.length
    refine Ag (call_meets F.slot_list_append ⟨_,eD,rfl⟩ F.entry_list_append (F.args_list_append_2 _ _) (PySem.list_append _ s.toArray c y (by rw[BR];omega)) ⟨eD,?_⟩)
    obtain⟨n',q⟩:∃n',(s8.heap.update a.heap.objs.size (G9 (·.push y))).get? a.heap.objs.size=some (ES (s++[y]) n'):=by
     have q:=PySem.IsL.update eD (·.push y)
     rw[show s.toArray.push y=(s++[y]).toArray by simp]at q
     exact⟨_,q⟩
    have I9:Inv Y (IA M s5.heap) σ6 H8 {s8 with heap:=s8.heap.update a.heap.objs.size (G9 (·.push y))}:=
     (I8.pins_of λp t=>I8.pin p (C2 _ (C2 _ t))).turned (t':=s8.toks) (it:=a.heap.objs.size) (λb o G e=>(Lg _ _ (Bp G)).trans e) nD hDC (.inr (BD _))
      (λx c' e=>CG (cLt x c' (clX x c' e))) λp t=>by
       rcases List.mem_append.mp t with t|t
       ·exact CG (pinLt p t)
       ·exact CG (fpLt _ (Ve t).1)
    have I10:Inv Y ([(a.heap.objs.size,ES (s++[y]) n')]++IA M s5.heap) σ6 H8 {s8 with heap:=s8.heap.update a.heap.objs.size (G9 (·.push y))}:=I9.pins_of λp t=>by
     rcases List.mem_append.mp t with t|t
     ·have e:p=(a.heap.objs.size,ES (s++[y]) n'):=by simpa using t
      subst e
      exact⟨q,nD,neL,nF,λv z=>by
       have z':Data.seq _ _=G4 v:=z
       cases z'⟩
     ·exact I9.pin p (C2 _ t)
    obtain⟨I11,st11,fr11⟩:=back I10
    exact AE (AE ⟨rfl,n-(i+1),by omega,i+1,ys++[z],s++[y],_,H8,I11,rv.append (.cons r8 .nil),st11,fr11,hN _ _ w8,rfl⟩)
 exact codeAny_compStart_list loop (T.self _ 0 _ _ _ (T.keep 0 _ _ st λb _ o e=>old b o e) loop)
section
variable{X:Cx}{tg elt iter:Expr}{ifs:List Expr}{scope:Scope}{pos:A5}{oix:List Nat}{wi:TI}{g:TG}{tt:TT}{te:TE}
theorem ij(own c:List Ae)(oix:List Nat)(S:Ha own c scope X.env.scope)(t:oix.map (λj=>X.N[j]?)=c.map some)(L:X.calm=true)(M:PI X tg iter wi)
  (O:∀C l i k a,PG (Dg X own c scope C l i k a) tg g)
  (U:∀C l i k a,Fs (Dg X own c scope C l i k a) ifs tt)
  (Y:∀C l i k a,PE (Dg X own c scope C l i k a) elt te)
  (hs:∀x,HF iter X.env x=AK x:=by intro _;rfl):
  PE X (.ListComp elt [⟨tg,iter,ifs,0⟩] scope pos) (QE own.length oix wi g tt te):=by
 intro a s z H Q I h
 rw[eval_ListComp]
 refine wpAny_comprehension_free (use:=none) rfl hs (VS λx hx hf=>I.ok.has x.1 (S.free x hx hf)) S.kind S.loc (A8 (M a s z H _ I h) λxv B n=>A8 n λitv E p=>?_)
 obtain⟨it,k,tn,J,i,e,I2,T,u,f2,d⟩:=p
 subst e
 refine VV (RR:=λv C=>compPost (Af X.prog X.w) X.A X.xe none (EP X a z Q) v C) S t L O U Y I2 T u f2 d ?_
 intro C s' m H' hn I' hC hL h0 f r q
 exact⟨m,hn,λG y=>⟨.ref _,H',I'.turned (h':=G) (t':=s'.toks) (it:=C) (λb o hb e=>y.extBut b o hb e) hC hL (.inr h0) f r,rfl,q⟩⟩
theorem ik(own f:List Ae)(oix:List Nat){i:Nat}{x:Ae}{d l:A5}(S:Ha own f scope X.env.scope)(M:oix.map (λj=>X.N[j]?)=f.map some)(hc:X.calm=true)
  (hN:X.N.Nodup) (O:X.N[i]?=some x) (hx:X.env.scope.names.lookup x=some .local) (hi:PI X tg iter wi)
  (hg:∀C B t u c,PG (Dg X own f scope C B t u c) tg g)
  (ht:∀C B t u c,Fs (Dg X own f scope C B t u c) ifs tt)
  (he:∀C B t u c,PE (Dg X own f scope C B t u c) elt te)
  (U:E6 (.ListComp elt [⟨tg,iter,ifs,0⟩] scope pos) (some (.Name x d)) l.line X.env=AK true:=by rfl)
  (hs:∀x,HF iter X.env x=AK x:=by intro _;rfl):
  PS X (.Assign [.Name x d] (.ListComp elt [⟨tg,iter,ifs,0⟩] scope pos) l) (JD (QE own.length oix wi g tt te) (Iz i)):=by
 intro c s σ H D I h
 rw[exec_Assign_Name_used _ _ _ _ U]
 refine Ag (wpAny_standAt (Ag ?_))
 show wpAny _ X.A (do let _ <- comprehension (.ListComp elt [⟨tg,iter,ifs,0⟩] scope pos) scope X.env _ (newList []) false (Ay iter X.env) (some (assign (.Name x d) X.env))) _ _ s
 refine Ag (Eg (wpAny_comprehension_free (use:=some (assign (.Name x d) X.env)) (Q:=λ_ z=>SP X c D .next z) rfl hs (VS λy hy hf=>I.ok.has y.1 (S.free y hy hf)) S.kind S.loc
  (A8 (hi c s σ H _ I h) λxv s₁ E=>A8 E λitv n G=>?_)) (λ_ z hq=>AE (AE hq)) λ_ _ e=>e)
 obtain⟨it,u,tn,J,t,e,I2,T,Y,f2,p⟩:=G
 subst e
 refine VV (RR:=λacc C=>compPost (Af X.prog X.w) X.A X.xe (some (assign (.Name x d) X.env)) (λ_ z=>SP X c D .next z) acc C) S M hc hg ht he I2 T Y f2 p ?_
 intro C z m H' hn I' hC hL h0 k L q
 show wpAny _ X.A (assign (.Name x d) X.env (.ref n.heap.objs.size)) _ _ z
 refine wpAny_assign_Name (UX (v:=.ref n.heap.objs.size) I' hN O (.inl hx) rfl (λs'' I'' r=>?_) (.inr hx))
 obtain⟨a,r,ha⟩:=r
 have hCa:C≠a:=by
  rcases ha with e|e
  ·rw[e];exact hL
  ·exact Bp (k _ _ e)
 exact⟨m,hn.sameBut r hCa,λh' hs'=>⟨_,H',I''.turned (h':=h') (t':=s''.toks) (it:=C) (λb o hb e=>hs'.extBut b o hb e) hC hL (.inr h0) k L,q⟩⟩
end
section
variable{K:Ar}{k:Nat}{oix:List Nat}{g:TG}{tt:TT}{te:TE}{σ:St}{H:Hp}{Q:VK}
end
def QF(x:Ae):It:=⟨λi _=>i<x.cps.size,λi H v a=>a=H/\∃c,x.cps[i]?=some c/\v=.str ⟨#[c]⟩,λi _=>x.cps.size<=i⟩
theorem il{P:AY}{w:Ai}{K:Ar}{M:Expr}(it:Ac)(x:Ae)(t:Tok):GJ P w K M (QF x) [it] it (λi h=>h.IsStrIter it "str_ascii_iterator" x t i) where
 mem:=by simp
 obj:=λi h st b g=>by
  have e:b=it:=by simpa using g
  subst e
  obtain⟨o,e,c,d⟩:=st
  exact⟨o,e,λv z=>by rw[d]at z;cases z⟩
 keep:=λi h l st k=>by
  obtain⟨o,e,r⟩:=st
  exact⟨o,k it (by simp) o e,r⟩
 item:=by
  intro X n p q J i f s L H E I m st u
  subst n p q
  obtain⟨y,A,N,B,C,G⟩:=m it (by simp)
  have a:i<x.cps.size:=u
  refine wpAny_pyNext_ascii_item st (c:=x.cps[i]) (by simp[a]) λl j O=>?_
  have Q:Inv X f L H {s with heap:=l,toks:=s.toks+1}:=I.turned (t':=s.toks+1) (λb o g e=>(O.2 b g).trans e) y A B C G
  obtain⟨o,e,c,d⟩:=id j
  exact⟨_,rfl,K3 (s:={s with heap:=l,toks:=s.toks+1}) e c d (by decide) ⟨.str ⟨#[x.cps[i]]⟩,H,Q,⟨_,rfl⟩,⟨rfl,_,by simp[a],rfl⟩,j,λb g=>(m b g).1⟩⟩
 done:=by
  intro X n p q J i f s L H E I m st u
  subst n p q
  obtain⟨y,A,N,B,C,G⟩:=m it (by simp)
  have a:x.cps.size<=i:=u
  exact wpAny_pyNext_ascii_end (I.ok.hd J) st (by simp[a]) λl U=>⟨rfl,I.turned (t':=s.toks) (λb o g e=>U b o g e) y A B C G⟩
 self:=λ_ _ _ _ _ st h=>wpAny_pyIter_striter_ascii st h
theorem im{P:AY}{w:Ai}{K:Ar}{M:Expr}(it:Ac)(x:Ae)(t:Tok):GJ P w K M (QF x) [it] it (λi h=>h.IsStrIter it "str_iterator" x t i) where
 mem:=by simp
 obj:=λi h st b g=>by
  have e:b=it:=by simpa using g
  subst e
  obtain⟨o,e,c,d⟩:=st
  exact⟨o,e,λv z=>by rw[d]at z;cases z⟩
 keep:=λi h l st k=>by
  obtain⟨o,e,r⟩:=st
  exact⟨o,k it (by simp) o e,r⟩
 item:=by
  intro X n p q J i f s L H E I m st u
  subst n p q
  obtain⟨y,A,N,B,C,G⟩:=m it (by simp)
  have a:i<x.cps.size:=u
  refine wpAny_pyNext_wide_item st (c:=x.cps[i]) (by simp[a]) λl j O=>?_
  have Q:Inv X f L H {s with heap:=l,toks:=s.toks+1}:=I.turned (t':=s.toks+1) (λb o g e=>(O.2 b g).trans e) y A B C G
  obtain⟨o,e,c,d⟩:=id j
  exact⟨_,rfl,K3 (s:={s with heap:=l,toks:=s.toks+1}) e c d (by decide) ⟨.str ⟨#[x.cps[i]]⟩,H,Q,⟨_,rfl⟩,⟨rfl,_,by simp[a],rfl⟩,j,λb g=>(m b g).1⟩⟩
 done:=by
  intro X n p q J i f s L H E I m st u
  subst n p q
  obtain⟨y,A,N,B,C,G⟩:=m it (by simp)
  have a:x.cps.size<=i:=u
  exact wpAny_pyNext_wide_end (I.ok.hd J) st (by simp[a]) λl U=>⟨rfl,I.turned (t':=s.toks) (λb o g e=>U b o g e) y A B C G⟩
 self:=λ_ _ _ _ _ st h=>wpAny_pyIter_striter_wide st h
section
variable{X:Cx}{tg:Expr}
def io(a:TE):TI:=λb H R=>a b H λv c=>∃x,v=.str x/\R (QF x) c
theorem ip{l:Expr}{g:TE}(k:PE X l g):PI X tg l (io g):=by
 intro a s m H R I h
 refine A8 (k a s m H _ I h) λv c ⟨y,f,d,n,q1⟩=>?_
 obtain⟨x,e,q⟩:=q1
 subst e
 obtain⟨t,rfl⟩:=n
 have i:∀{o:AM} (b:Ac),b∈[c.heap.objs.size]->Fn X a f b:=λ{o} b p=>by
  have e:b=c.heap.objs.size:=by simpa using p
  subst e
  exact d.fpOk (BD _) (d.hok.fresh (BD _))
 cases j:x.cps.all (·<128)
 ·exact wpAny_pyIter_wide j ⟨c.heap.objs.size,[c.heap.objs.size],_,_,f,rfl,d.kept (t':=c.toks) λb o e=>Bj _ e,im _ x t,⟨_,Ca _ rfl,rfl,rfl⟩,i (o:=default),q⟩
 ·exact wpAny_pyIter_ascii j ⟨c.heap.objs.size,[c.heap.objs.size],_,_,f,rfl,d.kept (t':=c.toks) λb o e=>Bj _ e,il _ x t,⟨_,Ca _ rfl,rfl,rfl⟩,i (o:=default),q⟩
end
section
variable{X:Cx}
end
section
variable{X:Cx}
def iq:V->Option Int->Option Int->Hp->VK->Prop:=λx lo a H Q=>∃z,x=.str z/\z.length<=AG/\Q (.str (DG z lo a)) H
theorem ir:G5 X iq:=by
 intro e s o H x v p r lo w y Q I m a n f h
 obtain⟨z,rfl,b,q⟩:=h
 obtain⟨t,rfl⟩:=m
 refine⟨"str",_,PySem.F.slot_str_getitem.lookup,typeIs_str s z t,?_⟩
 cases n with
 |none=>
  cases f with
  |none=>exact QG (l:=none) (u:=none) (st:=none) a rfl (post_val_or_str ⟨CN (Txt.slice_le z _ _) b,λc k=>⟨.str (DG z none none),H,I.tok _,⟨_,rfl⟩,q⟩⟩)
  |int j d=>exact QG (l:=none) (u:=some (j,d)) (st:=none) a rfl (post_val_or_str ⟨CN (Txt.slice_le z _ _) b,λc k=>⟨.str (DG z none (some j)),H,I.tok _,⟨_,rfl⟩,q⟩⟩)
 |int i g=>
  cases f with
  |none=>exact QG (l:=some (i,g)) (u:=none) (st:=none) a rfl (post_val_or_str ⟨CN (Txt.slice_le z _ _) b,λc k=>⟨.str (DG z (some i) none),H,I.tok _,⟨_,rfl⟩,q⟩⟩)
  |int j d=>exact QG (l:=some (i,g)) (u:=some (j,d)) (st:=none) a rfl (post_val_or_str ⟨CN (Txt.slice_le z _ _) b,λc k=>⟨.str (DG z (some i) (some j)),H,I.tok _,⟨_,rfl⟩,q⟩⟩)
end
theorem iu{bs:List Bool}:∀{us:List Aa},Aq (bs.map V.bl) us->LSm.BoolsAre us bs:=by
 induction bs with
 |nil=>intro us r;rw[CA]at r;cases r;exact .nil
 |cons n d a=>
  intro us r
  rw[AW]at r
  cases r with
  |cons b c=>
   have e:_=Value.bool n:=b
   subst e
   exact .cons n (a c)
section
variable{X:Cx}
theorem VW(l:X.calm=true):A9 X (.builtin "all") (λxs H Q=>∃(a:Ac)(bs:List Bool),xs=[.ref a]/\BH X.K H a (bs.map V.bl)/\Q (.bl (bs.all id)) H):=by
 intro g s x H xs y Q I r h
 obtain⟨a,bs,rfl,m,q⟩:=h
 obtain⟨u,rfl,n⟩:=DS r
 cases n
 obtain⟨c,o,p,z⟩:=I.list m
 have j:=iu o
 have d:=p.isList
 have f:a<s.heap.objs.size:=by obtain⟨_,e,_⟩:=d;exact BA e
 refine call_all_walk (wpAny_pyIter_list d ?_)
 refine⟨s.heap.objs.size,[s.heap.objs.size,a],[s.heap.objs.size],c.toArray.size,_,_,λi=>(bs[i]?).getD true,rfl,Walks.list (A:=X.A.in1) (I.ok.hd l) _ a (CG f) c.toArray,
  ⟨⟨_,Ca _ rfl,rfl,rfl⟩,d.push _⟩,λi v B C E t k=>?_,λG J w=>⟨.bl _,H,I.kept (LSm.kept_iter w),rfl,?_⟩⟩
 ·obtain⟨b,e,rfl⟩:=j.get i v (by simpa using t)
  simp only[e,Option.getD_some]at k
  exact HE k
 ·have e:((Ba c.toArray.size).all λi=>(bs[i]?).getD true)=bs.all id:=by
   rw[BR,j.length];exact LSm.range_all bs
  rw[e]
  exact q
end
section
open PySem.SeqAt
inductive ET(A:Aj)(s:Ab):List Aa->List Aa->Bool->Prop where
 |nn:ET A s [] [] false
 |nc {w ws}:ET A s [] (w::ws) true
 |cn {v vs}:ET A s (v::vs) [] false
 |eq {v w vs ws b}:EqAt A s v w true->ET A s vs ws b->ET A s (v::vs) (w::ws) b
 |ne {v w vs ws b}:EqAt A s v w false->(∀(prog:AY) (wo:Ai) (E Q:Aa->Ab->Prop),Q (.bool b) s->wpAny (Af prog wo) A (richCompare .Lt v w) Q E s)->ET A s (v::vs) (w::ws) b
end
section
open PySem.SeqAt
open PySem.AutoSeq1 (wpAny_loadPart')
open PySem.MeetsSeq PySem.MeetsSeq2 PySem.MeetsSeq3
theorem iv(l b:Ac)(c a:Array Aa)(n n2:Nat)(dd p:Option Ac)(I q:Array (Option Aa))(r:Bool):
  Meets (Av.«tuple.__lt__» ⟨[.ref l,.ref b],[]⟩)
   (λA R s=>s.heap.get? l=some {cls:=.type "tuple",dict:=dd,data:=.seq c n,slots:=I}/\s.heap.get? b=some {cls:=.type "tuple",dict:=p,data:=.seq a n2,slots:=q} /\
    ET A.in1 s c.toList a.toList r/\R (.ok (.ret (.bool r))) s):=
 .of_wp λprog w A R s h=>by
  obtain⟨G,g,d,H,os⟩:=s;obtain⟨J,L,t,h⟩:=h
  have N:=AutoSeq1.sub_tuple_tuple
  wp_walk using Ft J,Ft L,wpAny_forIn_list _ (λZ8 b u=>b.1=none/\u=⟨G,g,d,H,os⟩/\∃(vs o:List Aa),Z8=vs.zip o /\
   ET A.in1 ⟨G,g,d,H,os⟩ vs o r/\vs.length+a.size=o.length+c.size) _
  case turn=>
   rintro⟨y,x⟩ Z8 b u ⟨k,rfl,vs,o,f,i,e⟩
   cases i with
   |nn=>rw[List.zip_nil_left]at f;cases f
   |nc=>rw[List.zip_nil_left]at f;cases f
   |cn=>rw[List.zip_nil_right]at f;cases f
   |eq v z=>
    rw[Lh]at f
    injection f with m j
    injection m with B C
    subst B C
    simp only[Cq]at e
    refine Ag (v prog w _ _ ?_)
    wp_walk
    exact⟨rfl,rfl,_,_,j,z,by omega⟩
   |ne v z=>
    rw[Lh]at f
    injection f with m j
    injection m with B C
    subst B C
    refine Ag (v prog w _ _ ?_)
    have E:=z prog w
    wp_walk using E
    exact⟨_,rfl,by simpa using h⟩
  case fin=>
   rintro⟨b1,b2⟩ u ⟨k,rfl,vs,o,f,i,e⟩
   simp only at k
   subst k
   have M:r=decide (c.size<a.size):=by
    cases i with
    |nn=>
     simp only[E9]at e
     exact(decide_eq_false (by omega)).symm
    |nc=>
     simp only[E9,Cq]at e
     exact(decide_eq_true (by omega)).symm
    |cn=>
     simp only[E9,Cq]at e
     exact(decide_eq_false (by omega)).symm
    |eq _ _=>rw[Lh]at f;cases f
    |ne _ _=>rw[Lh]at f;cases f
   rw[M]at h
   wp_walk
   exact⟨_,rfl,by simpa[Builtin.Tuple.tupleCompareSizes]using h⟩
  case h=>
   exact⟨rfl,rfl,c.toList,a.toList,rfl,t,by simp;omega⟩
theorem iw(l b:Ac)(e c:Array Aa)(n n2:Nat)(dd z:Option Ac)(E B:Array (Option Aa))(r:Bool)(k:Nat):
  ∀i:Nat,e.size-i=k->Meets (Av.«list.__eq__.loop» ⟨[.ref l,.ref b,AH i,AH 0],[]⟩)
   (λA R s=>s.heap.get? l=some {cls:=.type "list",dict:=dd,data:=.seq e n,slots:=E}/\s.heap.get? b=some {cls:=.type "list",dict:=z,data:=.seq c n2,slots:=B} /\
    ET A.in1 s (e.toList.drop i) (c.toList.drop i) r/\(i<=e.size/\i<=c.size)/\R (.ok (.ret (.bool r))) s):=by
 induction k with
 |zero=>
  intro i G prog w A R s h
  obtain⟨H,g,d,I,os⟩:=s;obtain⟨p,q,f,⟨z1,z2⟩,h⟩:=h
  wp_walk using Ft p,Ft q
  have m:e[((i:Nat):Int).toNat]?=none:=by simp;omega
  have hd:e.toList.drop i=[]:=M0 (by simp;omega)
  rw[hd]at f
  rw[m]
  have u:r=decide (e.size<c.size):=by
   cases y:c.toList.drop i with
   |nil=>
    rw[y]at f
    have:=congrArg List.length y
    simp at this
    cases f
    exact(decide_eq_false (by omega)).symm
   |cons a t=>
    rw[y]at f
    have:=congrArg List.length y
    simp at this
    cases f
    exact(decide_eq_true (by omega)).symm
  rw[u]at h
  wp_walk using Ft p,Ft q
  exact h
 |succ k J=>
  intro i G prog w A R s h
  obtain⟨H,g,d,I,os⟩:=s;obtain⟨p,q,f,⟨z1,z2⟩,h⟩:=h
  wp_walk using Ft p,Ft q
  have v:i<e.size:=by omega
  have m:e[((i:Nat):Int).toNat]?=some e[i]:=by simp[v]
  have hd:e.toList.drop i=e[i]::e.toList.drop (i+1):=by rw[M4 (by simpa using v)];simp
  have L:((i:Int)+1)=((i+1:Nat):Int):=by push_cast;rfl
  rw[hd]at f
  rw[m]
  by_cases j:i<c.size
  ·have o:c[((i:Nat):Int).toNat]?=some c[i]:=by simp[j]
   have x:c.toList.drop i=c[i]::c.toList.drop (i+1):=by rw[M4 (by simpa using j)];simp
   rw[x]at f
   rw[o]
   cases f with
   |eq f u=>
    refine Ag (f prog w _ _ ?_)
    wp_walk
    rw[L]
    exact⟨plainId_quiet plain_eq_loop _,JR entry_eq_loop (by
     rw[Li plain_eq_loop _]
     exact J (i+1) (by omega) prog w A R _ ⟨p,q,u,⟨v,j⟩,h⟩)⟩
   |ne f u=>
    refine Ag (f prog w _ _ ?_)
    wp_walk using Ft p,Ft q
    rw[m,o]
    have C:=u prog w
    wp_walk using C
    exact h
  ·have o:c[((i:Nat):Int).toNat]?=none:=by simp;omega
   have x:c.toList.drop i=[]:=M0 (by simp;omega)
   rw[x]at f
   rw[o]
   have u:r=decide (e.size<c.size):=by
    cases f
    exact(decide_eq_false (by omega)).symm
   rw[u]at h
   wp_walk using Ft p,Ft q
   exact h
theorem VX(l b:Ac)(c a:Array Aa)(n n2:Nat)(dd e:Option Ac)(i f:Array (Option Aa))(r:Bool):
  Meets (Av.«list.__lt__» ⟨[.ref l,.ref b],[]⟩)
   (λA R s=>s.heap.get? l=some {cls:=.type "list",dict:=dd,data:=.seq c n,slots:=i}/\s.heap.get? b=some {cls:=.type "list",dict:=e,data:=.seq a n2,slots:=f} /\
    ET A.in1 s c.toList a.toList r/\R (.ok (.ret (.bool r))) s):=by
 intro prog w A R s h
 obtain⟨o,g,d,p,os⟩:=s;obtain⟨j,k,m,h⟩:=h
 have q:=AutoSeq1.sub_list_list
 wp_walk using Ft j,Ft k
 exact⟨plainId_quiet plain_eq_loop _,JR entry_eq_loop (by
  rw[Li plain_eq_loop _]
  exact iw l b c a n n2 dd e i f r _ 0 rfl prog w A R _ ⟨j,k,m,⟨Gj _,Gj _⟩,h⟩)⟩
end
section
variable{prog:AY}{w:Ai}{A:Aj}{E:Aa->Ab->Prop}{s:Ab}
theorem iy{l b:Ac}{c a:Array Aa}{r:Bool}{Q:Aa->Ab->Prop}(o:IsTup s.heap l c)(p:IsTup s.heap b a)(q:ET A.in1 s c.toList a.toList r)
  (t:A.units<Az) (h:Q (.bool r) s):wpAny (Af prog w) A (richCompare .Lt (.ref l) (.ref b)) Q E s:=by
 obtain⟨⟨cls,u,data,v⟩,j,k,n,hd⟩:=id o
 obtain⟨⟨m,g,data2,i⟩,d,e,n2,f⟩:=id p
 simp only at k hd e f
 subst k hd e f
 exact richCompare_meets_room (op:=.Lt) ⟨_,j,rfl⟩ ⟨_,d,rfl⟩ PySem.F.slot_tuple_lt PySem.F.entry_tuple_lt (PySem.F.args_tuple_lt_2 _ _) (iv l b c a n n2 u g v i r)
  ⟨j,d,q,show Value.bool r≠Value.notImplemented/\Q (.bool r) s from⟨(λx=>nomatch x),h⟩⟩ t
theorem iz{l b:Ac}{c a:Array Aa}{r:Bool}{n n2:Nat}{dd d:Option Ac}{f e:Array (Option Aa)}{Q:Aa->Ab->Prop}(g:s.heap.get? l=some {cls:=.type "list",dict:=dd,data:=.seq c n,slots:=f})(i:s.heap.get? b=some {cls:=.type "list",dict:=d,data:=.seq a n2,slots:=e})(j:ET A.in1 s c.toList a.toList r)
  (k:A.units<Az) (h:Q (.bool r) s):wpAny (Af prog w) A (richCompare .Lt (.ref l) (.ref b)) Q E s:=
 richCompare_meets_room (op:=.Lt) ⟨_,g,rfl⟩ ⟨_,i,rfl⟩ PySem.F.slot_list_lt PySem.F.entry_list_lt (PySem.F.args_list_lt_2 _ _) (VX l b c a n n2 dd d f e r)
  ⟨g,i,j,show Value.bool r≠Value.notImplemented/\Q (.bool r) s from⟨(λx=>nomatch x),h⟩⟩ k
end
def iA:V->V->Option Bool
 |.int i,.int j=>some (decide (i<j))
 |.str a,.str b=>some (decide (a.cps.toList<b.cps.toList))
 |_,_=>none
def BP:List V->List V->Option Bool
 |[],[]=>some false
 |[],_::_=>some true
 |_::_,[]=>some false
 |x::a,y::b=>if(VP x&&VP y)=true then(if gZ x y=true then BP a b else iA x y)else none
section
variable{X:Cx}
end
theorem FR(x:Ae):x.cps.toList.length=x.length:=by simp[Str.length]
def Lj(K:Ar):Sp:=λvs H Q _=>∃(a:Ac)(b:List Int),vs=[.ref a]/\BH K H a (b.map V.int)/\b.length<=63/\∀c,Q (.bl true) c
section
variable{X:Cx}
end
section
variable{X:Cx}
end
theorem QH{H:Hp}{p:Ac}{o:HO}(h:H p=none):Ak H (AU H p o):=λb u e=>by rw[ZB (Eo e h)];exact e
end L2
namespace L2
open PySem PySem.Spec PyProof.Rows
theorem IJ{A B:Prop}(h:A):(if true=true then A else B):=(if_pos (c:=true=true) rfl:ite _ A B=A) ▸ h
theorem IK{A B:Prop}(h:B):(if false=true then A else B):=(if_neg (c:=false=true) HD:ite _ A B=B) ▸ h
inductive D where
 |non|bl (b:Bool)|int (i:Int)|str (x:Ae)|ty (n:String)|tup (xs:List D)|lst (xs:List D) (b:Bool:=false)
def QI:D->At
 |.int i=>.int i
 |.str x=>.str x
 |_=>.non
def QJ:D->KT
 |.tup l=>.tup (l.map QI)
 |d=>.at (QI d)
def IL:List D->List KT
 |k::_::r=>QJ k::IL r
 |_=>[]
def CO(b:Bool)(xs:List D)(vs:List V):HO:=match b with
 |false=>.lst vs
 |true=>.dct (IL xs) vs
def QK:HO->Bool
 |.lst _=>true
 |.dct _ _=>true
 |_=>false
theorem iB(b:Bool)(xs:List D)(vs:List V):QK (CO b xs vs)=true:=by cases b<;>rfl
abbrev Fb:=Ac->Prop
def KL(K:Ar)(a:Ac)(vs:List V):Prop:=BH K (λ_=>none) a vs
def LstAt(K:Ar)(N:Fb)(H:Hp)(a:Ac)(o:HO):Prop:=(¬ N a/\Rd H a o)\/∃vs,o=.lst vs/\KL K a vs
theorem KL.sq{K:Ar}{H:Hp}{a:Ac}{vs:List V}(h:KL K a vs):BH K H a vs:=by
 rcases h with(h|⟨o,h⟩)|h
 ·cases h
 ·cases h
 ·exact .inr h
theorem LstAt.sq{K:Ar}{N:Fb}{H:Hp}{a:Ac}{vs:List V}(h:LstAt K N H a (.lst vs)):BH K H a vs:=by
 rcases h with⟨_,h⟩|⟨b,e,h⟩
 ·exact .inl h
 ·cases e;exact h.sq
theorem LstAt.of{K:Ar}{N:Fb}{H:Hp}{a:Ac}{o:HO}(n:¬ N a)(h:H a=some o):LstAt K N H a o:=.inl ⟨n,.inl h⟩
theorem LstAt.of_sq{K:Ar}{H:Hp}{a:Ac}{vs:List V}(h:BH K H a vs):LstAt K (λ_=>False) H a (.lst vs):=by
 rcases h with h|h
 ·exact .inl ⟨id,h⟩
 ·exact .inr ⟨vs,rfl,.inr h⟩
mutual
def AF(K:Ar)(N:Fb)(H:Hp):D->V->Prop
 |.non,v=>v=.non
 |.bl b,v=>v=.bl b
 |.int i,v=>v=.int i
 |.str x,v=>v=.str x
 |.ty n,v=>v=.ty n
 |.tup c,v=>∃a vs,v=.ref a/\B0 K H a vs/\Ad K N H c vs
 |.lst c b,v=>∃a vs,v=.ref a/\LstAt K N H a (CO b c vs)/\Ad K N H c vs
def Ad(K:Ar)(N:Fb)(H:Hp):List D->List V->Prop
 |[],vs=>vs=[]
 |x::a,vs=>∃v r,vs=v::r/\AF K N H x v/\Ad K N H a r
end
structure Step(M N N':Fb)(H H':Hp):Prop where
 kp:∀a o,H a=some o->(¬ N a\/M a\/QK o=false)->H' a=some o
 nw:∀a,N' a->N a\/H a=none
theorem Step.trans{M N N1 N2:Fb}{H d f:Hp}(a:Step M N N1 H d)(b:Step M N1 N2 d f):Step M N N2 H f where
 kp:=λc o h z=>by
  have g:=a.kp c o h z
  refine b.kp c o g ?_
  rcases z with z|z|z
  ·refine .inl λn1=>?_
   rcases a.nw c n1 with q|q
   ·exact z q
   ·rw[h]at q;cases q
  ·exact .inr (.inl z)
  ·exact .inr (.inr z)
 nw:=λc n2=>by
  rcases b.nw c n2 with q|q
  ·exact a.nw c q
  ·cases e:H c with
   |none=>exact .inr rfl
   |some o=>
    refine .inl (Classical.byContradiction λz=>?_)
    rw[a.kp c o e (.inl z)]at q
    cases q
theorem Step.of_same{M N:Fb}{H H':Hp}(s:Ak H H'):Step M N N H H':=⟨λa o h _=>s a o h,λa h=>.inl h⟩
theorem Step.refl{M N:Fb}{H:Hp}:Step M N N H H:=Step.of_same (Ak.refl H)
theorem Rd.step{M N b:Fb}{H H':Hp}{a:Ac}{u:HO}(s:Step M N b H H')(h:Rd H a u)(z:¬ N a\/M a\/QK u=false):Rd H' a u:=by
 rcases h with h|⟨o,h⟩
 ·exact .inl (s.kp a u h z)
 ·exact .inr ⟨o,s.kp a _ h (.inr (.inr rfl))⟩
theorem Rd.same{H H':Hp}{a:Ac}{u:HO}(s:Ak H H')(h:Rd H a u):Rd H' a u:=by
 rcases h with h|⟨o,h⟩
 ·exact .inl (s a u h)
 ·exact .inr ⟨o,s a _ h⟩
theorem B0.step{K:Ar}{M N b:Fb}{H H':Hp}{a:Ac}{xs:List V}(s:Step M N b H H')(h:B0 K H a xs):B0 K H' a xs:=by
 rcases h with h|h
 ·exact .inl (h.step s (.inr (.inr rfl)))
 ·exact .inr h
theorem B0.same{K:Ar}{H H':Hp}{a:Ac}{xs:List V}(s:Ak H H')(h:B0 K H a xs):B0 K H' a xs:=B0.step (M:=λ_=>False) (N:=λ_=>False) (Step.of_same s) h
theorem Rd.has{H:Hp}{a:Ac}{u:HO}(h:Rd H a u):H a≠none:=by
 rcases h with h|⟨o,h⟩<;>rw[h]<;>exact λe=>nomatch e
mutual
theorem AF.step{K:Ar}{M N c:Fb}{H H':Hp}(s:Step M N c H H'):∀(d:D)(v:V),AF K N H d v->AF K c H' d v
 |.non,_,h=>h
 |.bl _,_,h=>h
 |.int _,_,h=>h
 |.str _,_,h=>h
 |.ty _,_,h=>h
 |.tup b,v,h=>by
  simp only[AF]at h ⊢
  obtain⟨a,vs,e,q,r⟩:=h
  exact⟨a,vs,e,q.step s,Ad.step s b vs r⟩
 |.lst b g,v,h=>by
  simp only[AF]at h ⊢
  obtain⟨a,vs,e,q,r⟩:=h
  refine⟨a,vs,e,?_,Ad.step s b vs r⟩
  rcases q with⟨n,q⟩|q
  ·refine .inl ⟨λf=>?_,q.step s (.inl n)⟩
   rcases s.nw a f with z|z
   ·exact n z
   ·exact q.has z
  ·exact .inr q
theorem Ad.step{K:Ar}{M N a:Fb}{H H':Hp}(s:Step M N a H H'):∀(xs:List D)(vs:List V),Ad K N H xs vs->Ad K a H' xs vs
 |[],_,h=>h
 |x::xs,vs,h=>by
  simp only[Ad]at h ⊢
  obtain⟨v,r,e,q,t⟩:=h
  exact⟨v,r,e,AF.step s x v q,Ad.step s xs r t⟩
end
section
variable{K:Ar}{M N N':Fb}{H H':Hp}{d:D}{v:V}{xs ys:List D}{vs ws:List V}{a:Ac}
theorem AF.same(h:AF K N H d v)(s:Ak H H'):AF K N H' d v:=AF.step (M:=N) (Step.of_same s) d v h
theorem Ad.same(h:Ad K N H xs vs)(s:Ak H H'):Ad K N H' xs vs:=Ad.step (M:=N) (Step.of_same s) xs vs h
theorem AF.nw(h:AF K N H d v)(z:∀a,N' a->N a\/H a=none):AF K N' H d v:=AF.step (M:=N) (H':=H) ⟨λ_ _ h _=>h,z⟩ d v h
theorem Ad.nw(h:Ad K N H xs vs)(z:∀a,N' a->N a\/H a=none):Ad K N' H xs vs:=Ad.step (M:=N) (H':=H) ⟨λ_ _ h _=>h,z⟩ xs vs h
theorem Ad.length:∀{xs:List D}{vs:List V},Ad K N H xs vs->xs.length=vs.length
 |[],_,h=>by simp only[Ad]at h;subst h;rfl
 |_::xs,_,h=>by simp only[Ad]at h;obtain⟨v,r,e,_,t⟩:=h;subst e;simp[Ad.length t]
theorem Ad.get:∀{xs:List D}{vs:List V}{i:Nat}{d:D},Ad K N H xs vs->xs[i]?=some d->∃v,vs[i]?=some v/\AF K N H d v
 |[],_,i,d,_,e=>by simp at e
 |x::xs,_,0,d,h,e=>by
  simp only[Ad]at h;obtain⟨v,r,a,q,_⟩:=h;subst a
  simp at e;subst e;exact⟨v,rfl,q⟩
 |x::xs,_,i+1,d,h,e=>by
  simp only[Ad]at h;obtain⟨v,r,a,_,t⟩:=h;subst a
  obtain⟨w,b,c⟩:=Ad.get (i:=i) t (by simpa using e)
  exact⟨w,by simpa using b,c⟩
theorem Ad.get':∀{xs:List D}{vs:List V}{i:Nat}{v:V},Ad K N H xs vs->vs[i]?=some v->∃d,xs[i]?=some d/\AF K N H d v:=by
 intro xs vs i v h e
 have f:=h.length
 have g:i<vs.length:=(List.getElem?_eq_some_iff.mp e).1
 have a:xs[i]?=some xs[i]:=Cu (by omega)
 obtain⟨w,b,c⟩:=h.get a
 rw[e]at b;cases b
 exact⟨_,a,c⟩
theorem Ad.append:∀{xs ys:List D}{vs ws:List V},Ad K N H xs vs->Ad K N H ys ws->Ad K N H (xs++ys) (vs++ws)
 |[],_,_,_,h,a=>by simp only[Ad]at h;subst h;exact a
 |x::xs,ys,_,ws,h,a=>by
  simp only[Ad]at h;obtain⟨v,r,e,q,t⟩:=h;subst e
  simp only[M5,Ad]
  exact⟨v,r++ws,rfl,q,Ad.append t a⟩
theorem Ad.nil:Ad K N H [] []:=by simp only[Ad]
theorem Ad.cons(h:AF K N H d v)(t:Ad K N H xs vs):Ad K N H (d::xs) (v::vs):=by simp only[Ad];exact⟨v,vs,rfl,h,t⟩
theorem Ad.take:∀{xs:List D}{vs:List V}(n:Nat),Ad K N H xs vs->Ad K N H (xs.take n) (vs.take n)
 |_,_,0,_=>by simpa using Ad.nil
 |[],_,n+1,h=>by simp only[Ad]at h;subst h;simpa using Ad.nil
 |x::xs,_,n+1,h=>by
  simp only[Ad]at h;obtain⟨v,r,e,q,t⟩:=h;subst e
  simpa using Ad.cons q (Ad.take n t)
theorem Ad.drop:∀{xs:List D}{vs:List V}(n:Nat),Ad K N H xs vs->Ad K N H (xs.drop n) (vs.drop n)
 |_,_,0,h=>by simpa using h
 |[],_,n+1,h=>by simp only[Ad]at h;subst h;simpa using Ad.nil
 |x::xs,_,n+1,h=>by
  simp only[Ad]at h;obtain⟨v,r,e,q,t⟩:=h;subst e
  simpa using Ad.drop n t
theorem Ad.reverse:∀{xs:List D}{vs:List V},Ad K N H xs vs->Ad K N H xs.reverse vs.reverse
 |[],_,h=>by simp only[Ad]at h;subst h;simpa using Ad.nil
 |x::xs,_,h=>by
  simp only[Ad]at h;obtain⟨v,r,e,q,t⟩:=h;subst e
  simpa using Ad.append (Ad.reverse t) (Ad.cons q Ad.nil)
theorem Ad.set:∀{xs:List D}{vs:List V}(i:Nat),Ad K N H xs vs->AF K N H d v->Ad K N H (xs.set i d) (vs.set i v)
 |[],_,_,h,_=>by simp only[Ad]at h;subst h;simpa using Ad.nil
 |x::xs,_,0,h,q=>by
  simp only[Ad]at h;obtain⟨v,r,e,_,t⟩:=h;subst e
  simpa using Ad.cons q t
 |x::xs,_,i+1,h,q=>by
  simp only[Ad]at h;obtain⟨v,r,e,a,t⟩:=h;subst e
  simpa using Ad.cons a (Ad.set i t q)
theorem Ad.ints:∀(a:List Int),Ad K N H (a.map D.int) (a.map V.int)
 |[]=>Ad.nil
 |n::a=>Ad.cons (by simp only[AF]) (Ad.ints a)
end
inductive Sl where
 |no|val (d:D)|own (xs:List D) (b:Bool:=false)|lent (xs:List D) (b:Bool:=false)|exc (c:Ae)|pin (a:Ac)
def DH(e C:Ac)(h:Am):Prop:=∃o vs,h.get? e=some o/\o.cls=.ref C/\o.data=.fields vs/\vs[2]?=some .none
abbrev VE:=List Sl
def Nf(M:Fb)(ρ:VE)(σ:St):Fb:=λa=>M a\/∃(i:Nat)(c:List D)(b:Bool),ρ[i]?=some (Sl.own c b)/\σ[i]?=some (some (V.ref a))
def VY(K:Ar)(M N:Fb)(f H:Hp):Sl->Option V->Prop
 |.no,_=>True
 |.val d,o=>∃v,o=some v/\AF K N H d v
 |.own e b,o=>∃a vs,o=some (.ref a)/\f a=none/\¬ M a/\H a=some (CO b e vs)/\Ad K N H e vs
 |.lent e b,o=>∃a vs,o=some (.ref a)/\(M a/\f a≠none)/\Rd H a (CO b e vs)/\Ad K N H e vs
 |.exc c,o=>∃a C,o=some (.ref a)/\PySem.W.nsIn K Dq c=some (some (.ref C))/\H a=some (.ext (DH a C))
 |.pin a,o=>o=some (.ref a)
structure Bw(K:Ar)(M:Fb)(H0:Hp)(ρ:VE)(σ:St)(H:Hp):Prop where
 len:ρ.length=σ.length
 same:Ak H0 H
 mh:∀a,M a->H a≠none
 slot:∀(i:Nat) (s:Sl),ρ[i]?=some s->VY K M (Nf M ρ σ) H0 H s (σ[i]?.join)
 inj:∀(i j:Nat) (xs ys:List D) (b b':Bool) (a:Ac),ρ[i]?=some (Sl.own xs b)->ρ[j]?=some (Sl.own ys b')->σ[i]?=some (some (V.ref a))->σ[j]?=some (some (V.ref a))->i=j
section
variable{K:Ar}{M N:Fb}{H0 H H':Hp}{ρ:VE}{σ:St}
theorem Bw.nh(R:Bw K M H0 ρ σ H):∀a,Nf M ρ σ a->H a≠none:=by
 rintro a (h|⟨i,g,j,c,d⟩)
 ·exact R.mh a h
 ·obtain⟨b,vs,e,_,_,q,_⟩:=R.slot i _ c
  rw[d]at e
  have f:b=a:=by simpa using e.symm
  rw[<- f,q];exact λz=>nomatch z
theorem Bw.st(R:Bw K M H0 ρ σ H)(s:Ak H H'):Bw K M H0 ρ σ H' where
 len:=R.len
 same:=R.same.trans s
 mh:=λa h z=>R.mh a h (s.free z)
 slot:=λi j e=>by
  have q:=R.slot i j e
  cases j with
  |no=>trivial
  |val d=>obtain⟨v,e,h⟩:=q;exact⟨v,e,h.same s⟩
  |own k l=>obtain⟨a,vs,e,b,f,g,m⟩:=q;exact⟨a,vs,e,b,f,s _ _ g,m.same s⟩
  |lent k l=>obtain⟨a,vs,e,b,f,g⟩:=q;exact⟨a,vs,e,b,f.same s,g.same s⟩
  |exc c=>obtain⟨a,C,e,b,f⟩:=q;exact⟨a,C,e,b,s _ _ f⟩
  |pin a=>exact q
 inj:=R.inj
theorem Bw.fresh(R:Bw K M H0 ρ σ H){p:Ac}(h:H p=none):¬ Nf M ρ σ p:=λn=>R.nh p n h
end
def tD(K:Ar)(M:Fb)(e:Hp)(f:VE->Option D):TE:=λc H Q=>∃a d,Bw K M e a c H/\f a=some d/\∀v b,Ak H b->AF K (Nf M a c) b d v->Q v b
def AI(K:Ar)(N:Fb)(H:Hp)(d:D)(v:V):Prop:=match d with
 |.lst b=>∃a vs,v=.ref a/\BH K H a vs/\Ad K N H b vs
 |.lst b true=>∃a vs,v=.ref a/\Rd H a (.dct (IL b) vs)/\Ad K N H b vs
 |d=>AF K N H d v
theorem AF.p{K:Ar}{N:Fb}{H:Hp}{d:D}{v:V}(h:AF K N H d v):AI K N H d v:=by
 cases d with
 |lst c b=>
  simp only[AF]at h
  obtain⟨a,vs,e,q,r⟩:=h
  cases b with
  |false=>exact⟨a,vs,e,LstAt.sq q,r⟩
  |true=>
   rcases q with⟨_,q⟩|⟨f,z,_⟩
   ·exact⟨a,vs,e,q,r⟩
   ·cases z
 |_=>exact h
theorem AI.same{K:Ar}{N:Fb}{H H':Hp}{d:D}{v:V}(h:AI K N H d v)(s:Ak H H'):AI K N H' d v:=by
 cases d with
 |lst c b=>
  cases b with
  |false=>obtain⟨a,vs,e,q,r⟩:=h;exact⟨a,vs,e,s.seq q,r.same s⟩
  |true=>obtain⟨a,vs,e,q,r⟩:=h;exact⟨a,vs,e,q.same s,r.same s⟩
 |_=>exact AF.same h s
theorem QL{K:Ar}{N:Fb}{H:Hp}{xs:List D}{vs:List V}{fl:Bool}{a:Ac}(h:Rd H a (CO fl xs vs))(r:Ad K N H xs vs):AI K N H (.lst xs fl) (.ref a):=by
 cases fl with
 |false=>exact⟨a,vs,rfl,.inl h,r⟩
 |true=>exact⟨a,vs,rfl,h,r⟩
def tP(K:Ar)(M:Fb)(e:Hp)(f:VE->Option D):TE:=λc H Q=>∃a d,Bw K M e a c H/\f a=some d/\∀v b,Ak H b->AI K (Nf M a c) b d v->Q v b
def JV(fl:Bool)(K:Ar)(M:Fb)(h:Hp)(f:VE->Option (List D)):TE:=λg H Q=>∃d e,Bw K M h d g H/\f d=some e /\
 ∀a vs c,Ak H c->H a=none->c a=some (CO fl e vs)->Ad K (λb=>Nf M d g b\/b=a) c e vs->Q (.ref a) c
@[reducible] def tF(K:Ar)(M:Fb)(a:Hp)(f:VE->Option (List D)):TE:=JV false K M a f
def BI(K:Ar)(M:Fb)(d:Hp)(f:VE->Option Bool):TT:=λe H Q=>∃a b,Bw K M d a e H/\f a=some b/\∀c,Ak H c->Q b c
structure JE(X:Cx)(e:Expr)(t:TE):Prop where h:PE X e t
structure JT(X:Cx)(e:Expr)(t:TT):Prop where h:PT X e t
structure JW(X:Cx)(e:Expr)(t:TT):Prop where h:PW X e t
structure JA(X:Cx)(e:List Expr)(t:TA):Prop where h:PA X e t
structure JS(X:Cx)(e:Au)(t:TS):Prop where h:PS X e t
structure JB(X:Cx)(e:List Au)(t:TS):Prop where h:Es X e t
structure JI(X:Cx)(tg e:Expr)(t:TI):Prop where h:PI X tg e t
structure JG(X:Cx)(e:Expr)(t:TG):Prop where h:PG X e t
structure JK(X:Cx)(e:List Expr)(t:G3):Prop where h:K1 X e t
structure JO(X:Cx)(e:Option Expr)(t:TO):Prop where h:PO X e t
structure JF(X:Cx)(e:List Expr)(t:TT):Prop where h:Fs X e t
theorem PE.mono{X:Cx}{e:Expr}{t t':TE}(h:PE X e t)(m:∀σ H Q,t' σ H Q->t σ H Q):PE X e t':=λa s σ H Q I q=>h a s σ H Q I (m σ H Q q)
theorem PT.mono{X:Cx}{e:Expr}{t t':TT}(h:PT X e t)(m:∀σ H Q,t' σ H Q->t σ H Q):PT X e t':=λa s σ H Q I q=>h a s σ H Q I (m σ H Q q)
theorem PW.mono{X:Cx}{e:Expr}{t t':TT}(h:PW X e t)(m:∀σ H Q,t' σ H Q->t σ H Q):PW X e t':=λb a s σ H Q I q=>h b a s σ H Q I (m σ H Q q)
theorem PA.mono{X:Cx}{e:List Expr}{t t':TA}(h:PA X e t)(m:∀σ H Q,t' σ H Q->t σ H Q):PA X e t':=λpos a s σ H Q I q=>h pos a s σ H Q I (m σ H Q q)
theorem PS.mono{X:Cx}{e:Au}{t t':TS}(h:PS X e t)(m:∀D σ H,t' D σ H->t D σ H):PS X e t':=λa s σ H D I q=>h a s σ H D I (m D σ H q)
theorem Es.mono{X:Cx}{e:List Au}{t t':TS}(h:Es X e t)(m:∀D σ H,t' D σ H->t D σ H):Es X e t':=λa s σ H D I q=>h a s σ H D I (m D σ H q)
section
variable{X:Cx}{K:Ar}{M:Fb}{H0:Hp}{e a b:Expr}{f g:VE->Option D}{pos:A5}
theorem PE.p(h:PE X e (tD K M H0 f)):PE X e (tP K M H0 f):=h.mono λc H Q ⟨a,d,R,e,q⟩=>⟨a,d,R,e,λv b s z=>q v b s z.p⟩
theorem Ap(h:JE X e (tD K M H0 f)):JE X e (tP K M H0 f):=⟨PE.p h.h⟩
@[simp] def ZA(o:Option (List D)):Option D:=o.map D.lst
@[simp] def rp(o:Option (List D)):Option D:=o.map λl=>D.lst l true
theorem PE.fd{f:VE->Option (List D)}(h:PE X e (tF K M H0 f)):PE X e (tD K M H0 λρ=>ZA (f ρ)):=h.mono λj H Q ⟨ρ,d,R,e,q⟩=>by
 try dsimp only at e q
 cases c:f ρ with
 |none=>rw[c]at e;cases e
 |some g=>
  rw[c]at e
  cases e
  refine⟨ρ,g,R,c,λa vs k s z1 z2 z3=>q _ _ s ?_⟩
  simp only[AF]
  refine⟨a,vs,rfl,.of (R.fresh z1) z2,z3.nw λb i=>.inl (.inl i)⟩
theorem B2{f:VE->Option (List D)}(h:JE X e (tF K M H0 f)):JE X e (tD K M H0 λρ=>ZA (f ρ)):=⟨PE.fd h.h⟩
@[simp] def Bb(ρ:VE)(i:Nat):Option D:=match ρ[i]? with
  |some (.val d)=>some d
  |_=>none
@[simp] def Ah(ρ:VE)(i:Nat):Option D:=match ρ[i]? with
  |some (.val d)=>some d
  |some (.own a b)=>some (.lst a b)
  |some (.lent a b)=>some (.lst a b)
  |_=>none
theorem iC{ρ:VE}{i:Nat}{d:D}(h:Bb ρ i=some d):ρ[i]?=some (.val d):=by
 unfold Bb at h
 split at h
 ·cases h;assumption
 ·cases h
theorem iD{i:Nat}{x:Ae}(c:X.N[i]?=some x)(f:Dr X.env.scope x)(hd:(x==("__debug__":Ae))=false:=by decide)(b:(x==("__classdict__":Ae))=false:=by decide):PE X (.Name x pos) (tD K M H0 λρ=>Bb ρ i):=
 (FM c f hd b).mono λg H Q ⟨ρ,d,R,e,q⟩=>by
  try dsimp only at e q
  obtain⟨v,a,h⟩:=R.slot i _ (iC e)
  refine⟨v,?_,q v H (Ak.refl H) h⟩
  cases z:g[i]? with
  |none=>rw[z]at a;cases a
  |some o=>rw[z]at a;cases a;rfl
theorem iE{i:Nat}{x:Ae}(k:X.N[i]?=some x)(l:Dr X.env.scope x)(hd:(x==("__debug__":Ae))=false:=by decide)(f:(x==("__classdict__":Ae))=false:=by decide):PE X (.Name x pos) (tP K M H0 λρ=>Ah ρ i):=
 (FM k l hd f).mono λc H Q ⟨ρ,d,R,e,q⟩=>by
  try dsimp only at e q
  have fin:∀v,c[i]?.join=some v->AI K (Nf M ρ c) H d v->∃v,c[i]?=some (some v)/\Q v H:=λv b h=>by
   refine⟨v,?_,q v H (Ak.refl H) h⟩
   cases z:c[i]? with
   |none=>rw[z]at b;cases b
   |some o=>rw[z]at b;cases b;rfl
  unfold Ah at e
  split at e
  ·next h=>cases e;obtain⟨v,b,h⟩:=R.slot i _ h;exact fin v b h.p
  ·next h=>cases e;obtain⟨a,vs,b,_,_,g,j⟩:=R.slot i _ h;exact fin _ b (QL (.inl g) j)
  ·next h=>cases e;obtain⟨a,vs,b,_,g,j⟩:=R.slot i _ h;exact fin _ b (QL g j)
  ·cases e
theorem Lk{d:D}{v:V}{e:Expr}(h:PE X e (tC v))(hd:∀N H,AF K N H d v):PE X e (tD K M H0 λ_=>some d):=
 h.mono λa H Q ⟨b,c,R,e,q⟩=>by(try dsimp only at e q);cases e;exact q v H (Ak.refl H) (hd _ _)
theorem ZN {i j pos}:JE X (.Constant (.int i) j pos) (tD K M H0 λ_=>some (.int i)):=⟨Lk UY λ_ _=>by simp only[AF]⟩
theorem FS {i j pos}:JE X (.Constant (.bool i) j pos) (tD K M H0 λ_=>some (.bl i)):=⟨Lk eX λ_ _=>by simp only[AF]⟩
theorem GN {j pos}:JE X (.Constant .none j pos) (tD K M H0 λ_=>some .non):=⟨Lk eY λ_ _=>by simp only[AF]⟩
theorem HI {i j pos}:JE X (.Constant (.str i) j pos) (tD K M H0 λ_=>some (.str i)):=⟨Lk eZ λ_ _=>by simp only[AF]⟩
def C5(K:Ar)(r:R2)(F:D->D->Option D):Prop:=∀(N:Fb)(H:Hp)(x y:V)(d1 d2 d:D)(Q:VK),(∀a,N a->H a≠none)->AI K N H d1 x->AI K N H d2 y->F d1 d2=some d ->
 (∀v b,Ak H b->AF K N b d v->Q v b)->r x y H Q
@[simp] def Ze(F:D->D->Option D)(f g:VE->Option D):VE->Option D:=λa=>(f a).bind λx=>(g a).bind λy=>F x y
theorem iF{F:D->D->Option D}{f g:VE->Option D}{ρ:VE}{d:D}(h:Ze F f g ρ=some d):∃x y,f ρ=some x/\g ρ=some y/\F x y=some d:=by
 unfold Ze at h
 cases a:f ρ with
 |none=>rw[a]at h;cases h
 |some x=>
  cases b:g ρ with
  |none=>rw[a,b]at h;cases h
  |some y=>rw[a,b]at h;exact⟨x,y,rfl,rfl,h⟩
theorem M6{r:R2}{F:D->D->Option D}(i:C5 K r F){σ:St}{H:Hp}{Q:VK}(h:tD K M H0 (Ze F f g) σ H Q):JL r (tP K M H0 f) (tP K M H0 g) σ H Q:=by
 obtain⟨a,d,R,e,q⟩:=h
 try dsimp only at e q
 obtain⟨x,y,j,k,l⟩:=iF e
 refine⟨a,x,R,j,λv z b m=>⟨a,y,R.st b,k,λu n c o=>?_⟩⟩
 exact i (Nf M a σ) n v u x y d Q ((R.st b).st c).nh (m.same c) o l λw p s t=>q w p ((b.trans c).trans s) t
theorem IM{op:Operator}{r:R2}{F:D->D->Option D}(c:B5 X (FO op) r)(d:C5 K r F)(e:PE X a (tP K M H0 f))(i:PE X b (tP K M H0 g)):PE X (.BinOp a op b pos) (tD K M H0 (Ze F f g)):=
 (gb c e i).mono λ_ _ _ h=>M6 d h
theorem JX{op:CmpOp}{r:R2}{F:D->D->Option D}(c:B5 X (Df op) r)(d:C5 K r F)(e:PE X a (tP K M H0 f))(i:PE X b (tP K M H0 g))(j:Ga op b=false):PE X (.Compare a [op] [b] pos) (tD K M H0 (Ze F f g)):=
 (gt c e i j).mono λ_ _ _ h=>M6 d h
theorem VZ{r:R2}{F:D->D->Option D}(c:Gi X r)(d:C5 K r F)(e:PE X a (tP K M H0 f))(i:PE X b (tP K M H0 g))(j:JP b):PE X (.Subscript a b pos) (tD K M H0 (Ze F f g)):=
 (VI c e i j).mono λ_ _ _ h=>M6 d h
@[simp] def JY{c:Type}(a b:Option c):Option c:=match a with
  |some x=>some x
  |none=>b
theorem C5.or{r b:R2}{F c:D->D->Option D}(h:C5 K r F)(h':C5 K b c):C5 K (λx y H Q=>r x y H Q\/b x y H Q) (λx y=>JY (F x y) (c x y)):=by
 intro N H x y d1 d2 d Q f g i e q
 cases a:F d1 d2 with
 |some z=>simp only[a,JY]at e;cases e;exact .inl (h N H x y d1 d2 d Q f g i a q)
 |none=>simp only[a,JY]at e;exact .inr (h' N H x y d1 d2 d Q f g i e q)
@[simp] def AO:Option D->Option Bool
  |some (.bl b)=>some b
  |_=>none
theorem M7{o:Option D}{b:Bool}(h:AO o=some b):o=some (.bl b):=by
 unfold AO at h
 split at h
 ·cases h;rfl
 ·cases h
theorem V0{t:TE}{σ:St}{H:Hp}{Q:Bool->Hp->Prop}(c:∀σ H Q,tD K M H0 f σ H Q->t σ H Q)(h:BI K M H0 (λρ=>AO (f ρ)) σ H Q):tB t σ H Q:=by
 obtain⟨ρ,b,R,e,q⟩:=h
 try dsimp only at e q
 refine c σ H _ ⟨ρ,.bl b,R,M7 e,λv d s a=>?_⟩
 simp only[AF]at a
 exact⟨b,a,q d s⟩
theorem IN{op:CmpOp}{r:R2}{F:D->D->Option D}(c:B5 X (Df op) r)(d:C5 K r F)(e:PE X a (tP K M H0 f))(h:PE X b (tP K M H0 g))(i:Ga op b=false):PT X (.Compare a [op] [b] pos) (BI K M H0 λρ=>AO (Ze F f g ρ)):=
 (gu c e h i).mono λ_ _ _ q=>V0 (t:=JL r (tP K M H0 f) (tP K M H0 g)) (λ_ _ _ z=>M6 d z) q
@[simp] def C8(o:Option Bool):Option Bool:=o.map (!·)
@[simp] def EU(o p:Option Bool):Option Bool:=match o with
  |some true=>p
  |some false=>some false
  |none=>none
@[simp] def EV(o p:Option Bool):Option Bool:=match o with
  |some true=>some true
  |some false=>p
  |none=>none
section
variable{c c':VE->Option Bool}{Z8:List Expr}
theorem Ll(h:JT X a (BI K M H0 c)):JT X (.UnaryOp .Not a pos) (BI K M H0 λρ=>C8 (c ρ)):=⟨have h:=h.h;(fm h).mono λf H Q ⟨ρ,b,R,e,q⟩=>by
 try dsimp only at e q
 cases d:c ρ with
 |none=>rw[d]at e;cases e
 |some k=>rw[d]at e;cases e;exact⟨ρ,k,R,d,q⟩⟩
theorem V1(h:JT X a (BI K M H0 c)):JW X (.BoolOp .And [a] pos) (BI K M H0 c):=⟨have h:=h.h;fg h⟩
theorem Lm(h:JT X a (BI K M H0 c)):JW X (.BoolOp .Or [a] pos) (BI K M H0 c):=⟨have h:=h.h;fh h⟩
theorem iG{σ:St}{H:Hp}{Q:Bool->Hp->Prop}(h:BI K M H0 (λρ=>EU (c ρ) (c' ρ)) σ H Q):U4 (BI K M H0 c) (BI K M H0 c') σ H Q:=by
 obtain⟨ρ,b,R,e,q⟩:=h
 try dsimp only at e q
 cases a:c ρ with
 |none=>rw[a]at e;cases e
 |some k=>
  cases k with
  |true=>rw[a]at e;exact⟨ρ,true,R,a,λd s=>by refine IJ ?_;exact⟨ρ,b,R.st s,e,λf g=>q f (s.trans g)⟩⟩
  |false=>rw[a]at e;cases e;exact⟨ρ,false,R,a,λd s=>by refine IK ?_;exact q d s⟩
theorem iH{σ:St}{H:Hp}{Q:Bool->Hp->Prop}(h:BI K M H0 (λρ=>EV (c ρ) (c' ρ)) σ H Q):U5 (BI K M H0 c) (BI K M H0 c') σ H Q:=by
 obtain⟨ρ,b,R,e,q⟩:=h
 try dsimp only at e q
 cases a:c ρ with
 |none=>rw[a]at e;cases e
 |some k=>
  cases k with
  |false=>rw[a]at e;exact⟨ρ,false,R,a,λd s=>by refine IK ?_;exact⟨ρ,b,R.st s,e,λf g=>q f (s.trans g)⟩⟩
  |true=>rw[a]at e;cases e;exact⟨ρ,true,R,a,λd s=>by refine IJ ?_;exact q d s⟩
theorem V2(h:JT X a (BI K M H0 c))(h':JW X (.BoolOp .And (b::Z8) pos) (BI K M H0 c')):JW X (.BoolOp .And (a::b::Z8) pos) (BI K M H0 λρ=>EU (c ρ) (c' ρ)):=⟨have h:=h.h;have h':=h'.h;(fi h h').mono λ_ _ _ q=>iG q⟩
theorem IP(h:JT X a (BI K M H0 c))(h':JW X (.BoolOp .Or (b::Z8) pos) (BI K M H0 c')):JW X (.BoolOp .Or (a::b::Z8) pos) (BI K M H0 λρ=>EV (c ρ) (c' ρ)):=⟨have h:=h.h;have h':=h'.h;(fj h h').mono λ_ _ _ q=>iH q⟩
@[simp] def FT(o:Option Bool):Option D:=o.map D.bl
theorem QM{σ:St}{H:Hp}{Q:VK}(h:tD K M H0 (λρ=>FT (c ρ)) σ H Q):∃ρ b,Bw K M H0 ρ σ H/\c ρ=some b/\∀H',Ak H H'->Q (.bl b) H':=by
 obtain⟨ρ,d,R,e,q⟩:=h
 try dsimp only at e q
 cases a:c ρ with
 |none=>rw[a]at e;cases e
 |some k=>rw[a]at e;cases e;exact⟨ρ,k,R,a,λH' s=>q _ H' s (by simp only[AF])⟩
theorem V3(h:JE X a (tD K M H0 f)):JE X (.UnaryOp .Not a pos) (tD K M H0 λρ=>FT (C8 (AO (f ρ)))):=⟨have h:=h.h;(fw h).mono λi H Q q=>by
 obtain⟨ρ,b,R,e,q⟩:=QM q
 try dsimp only at e q
 cases c:AO (f ρ)with
 |none=>rw[c]at e;cases e
 |some k=>
  rw[c]at e;cases e
  refine⟨ρ,.bl k,R,M7 c,λv g s d=>?_⟩
  simp only[AF]at d
  exact⟨k,d,q g s⟩⟩
theorem QN {op} (h:JE X a (tD K M H0 f)):JE X (.BoolOp op [a] pos) (tD K M H0 λρ=>FT (AO (f ρ))):=⟨have h:=h.h;(ft h).mono λg H Q q=>by
 obtain⟨ρ,b,R,e,q⟩:=QM q
 try dsimp only at e q
 exact⟨ρ,.bl b,R,M7 e,λv d s c=>by simp only[AF]at c;subst c;exact q d s⟩⟩
theorem QO(h:JE X a (tD K M H0 f))(h':JE X (.BoolOp .And (b::Z8) pos) (tD K M H0 λρ=>FT (c' ρ))):JE X (.BoolOp .And (a::b::Z8) pos) (tD K M H0 λρ=>FT (EU (AO (f ρ)) (c' ρ))):=⟨have h:=h.h;have h':=h'.h;(fu h h').mono λn H Q q=>by
 obtain⟨ρ,b,R,e,q⟩:=QM q
 try dsimp only at e q
 cases c:AO (f ρ)with
 |none=>rw[c]at e;cases e
 |some k=>
  refine⟨ρ,.bl k,R,M7 c,λv i s d=>?_⟩
  simp only[AF]at d
  refine⟨k,d,?_⟩
  cases k with
  |true=>
   rw[c]at e;refine IJ ?_
   have j:c' ρ=some b:=e
   exact⟨ρ,.bl b,R.st s,by show FT (c' ρ)=_;rw[j];rfl,λw l m g=>by simp only[AF]at g;subst g;exact q l (s.trans m)⟩
  |false=>rw[c]at e;cases e;refine IK ?_;exact q i s⟩
@[simp] def Ln{d:Type}(c:Option Bool)(a b:Option d):Option d:=match c with
  |some true=>a
  |some false=>b
  |none=>none
theorem V4{k:Expr}(i:JT X k (BI K M H0 c))(j:JE X a (tD K M H0 f))(l:JE X b (tD K M H0 g)):JE X (.IfExp k a b pos) (tD K M H0 λρ=>Ln (c ρ) (f ρ) (g ρ)):=⟨have i:=i.h;have j:=j.h;have l:=l.h;(fE i j l).mono λp H Q ⟨ρ,d,R,e,q⟩=>by
 try dsimp only at e q
 cases i:c ρ with
 |none=>rw[i]at e;cases e
 |some k=>
  refine⟨ρ,k,R,i,λr s=>?_⟩
  cases k with
  |true=>rw[i]at e;refine IJ ?_;exact⟨ρ,d,R.st s,e,λw m n o=>q w m (s.trans n) o⟩
  |false=>rw[i]at e;refine IK ?_;exact⟨ρ,d,R.st s,e,λw m n o=>q w m (s.trans n) o⟩⟩
@[simp] def isN:D->Bool
  |.non=>true
  |_=>false
@[simp] def Gk(o:Option D):Option Bool:=o.map isN
theorem AI.isN{K:Ar}{N:Fb}{H:Hp}{d:D}{v:V}(h:AI K N H d v):decide (v=.non)=L2.isN d:=by
 cases d with
 |non=>simp only[AI,AF]at h;subst h;rfl
 |bl _=>simp only[AI,AF]at h;subst h;rfl
 |int _=>simp only[AI,AF]at h;subst h;rfl
 |str _=>simp only[AI,AF]at h;subst h;rfl
 |ty _=>simp only[AI,AF]at h;subst h;rfl
 |tup _=>simp only[AI,AF]at h;obtain⟨a,vs,e,_⟩:=h;subst e;rfl
 |lst _ b=>cases b<;>(obtain⟨a,vs,e,_⟩:=h;subst e;rfl)
theorem V5 {j c} (h:JE X a (tP K M H0 f)):JT X (.Compare a [.Is] [.Constant .none j c] pos) (BI K M H0 λρ=>Gk (f ρ)):=⟨have h:=h.h;(U3 (e9 h)).mono λl H Q ⟨ρ,b,R,e,q⟩=>by
 try dsimp only at e q
 cases g:f ρ with
 |none=>rw[g]at e;cases e
 |some d=>rw[g]at e;cases e;exact⟨ρ,d,R,g,λv i s k=>⟨_,rfl,by rw[k.isN];exact q i s⟩⟩⟩
theorem M8 {j c} (h:JE X a (tP K M H0 f)):JT X (.Compare a [.IsNot] [.Constant .none j c] pos) (BI K M H0 λρ=>C8 (Gk (f ρ))):=⟨have h:=h.h;(U3 (fe h)).mono λl H Q ⟨ρ,b,R,e,q⟩=>by
 try dsimp only at e q
 cases g:f ρ with
 |none=>rw[g]at e;cases e
 |some d=>rw[g]at e;cases e;exact⟨ρ,d,R,g,λv i s k=>⟨_,rfl,by rw[k.isN];exact q i s⟩⟩⟩
end
end
theorem Dx{e:Expr}{es:List Expr}{env:Env}(h:∀x p,e≠.Starred x p):AN (e::es) env=(false,Ay e env)::AN es env:=by
 cases e with
 |Starred x p=>exact absurd rfl (h x p)
 |_=>rfl
def CB(K:Ar)(N:Fb)(H:Hp):Sl->V->Prop
 |.val d,v=>AF K N H d v
 |.lent c b,v=>∃a vs,v=.ref a/\N a/\Rd H a (CO b c vs)/\Ad K N H c vs
 |_,_=>False
def Bc(K:Ar)(N:Fb)(H:Hp):List Sl->List V->Prop
 |[],vs=>vs=[]
 |s::a,vs=>∃v r,vs=v::r/\CB K N H s v/\Bc K N H a r
@[simp] def pk:Sl->Option D
  |.val d=>some d
  |.lent a b=>some (.lst a b)
  |.own a b=>some (.lst a b)
  |.no=>none
  |.exc _=>none
  |.pin _=>none
theorem CB.same{K:Ar}{N:Fb}{H H':Hp}{s:Sl}{v:V}(h:CB K N H s v)(b:Ak H H'):CB K N H' s v:=by
 cases s with
 |val d=>exact AF.same h b
 |lent f g=>obtain⟨a,vs,e,n,q,r⟩:=h;exact⟨a,vs,e,n,q.same b,r.same b⟩
 |no=>exact h
 |own f g=>exact h
 |exc c=>exact h
 |pin a=>exact h
theorem Bc.same{K:Ar}{N:Fb}{H H':Hp}(b:Ak H H'):∀{a:List Sl}{vs:List V},Bc K N H a vs->Bc K N H' a vs
 |[],_,h=>h
 |s::a,_,⟨v,r,e,h,t⟩=>⟨v,r,e,h.same b,Bc.same b t⟩
theorem CB.p{K:Ar}{N:Fb}{H:Hp}{s:Sl}{v:V}(h:CB K N H s v):∃d,pk s=some d/\AI K N H d v:=by
 cases s with
 |val d=>exact⟨d,rfl,AF.p h⟩
 |lent b f=>obtain⟨a,vs,e,n,q,r⟩:=h;subst e;exact⟨_,rfl,QL q r⟩
 |no=>exact BB h
 |own b f=>exact BB h
 |exc c=>exact BB h
 |pin a=>exact BB h
theorem Bc.length{K:Ar}{N:Fb}{H:Hp}:∀{a:List Sl}{vs:List V},Bc K N H a vs->a.length=vs.length
 |[],_,h=>by cases h;rfl
 |s::a,_,⟨v,r,e,h,t⟩=>by subst e;simp[Bc.length t]
theorem Bc.get{K:Ar}{N:Fb}{H:Hp}:∀{a:List Sl}{vs:List V}{i:Nat}{s:Sl},Bc K N H a vs->a[i]?=some s->∃v,vs[i]?=some v/\CB K N H s v
 |[],_,i,s,h,e=>by simp at e
 |_::a,_,0,s,⟨v,r,b,h,t⟩,e=>by subst b;simp at e;subst e;exact⟨v,rfl,h⟩
 |_::a,_,i+1,s,⟨v,r,b,h,t⟩,e=>by
  subst b
  obtain⟨w,c,d⟩:=Bc.get (i:=i) t (by simpa using e)
  exact⟨w,by simpa using c,d⟩
def Dh(K:Ar)(M:Fb)(e:Hp)(f:VE->Option (List Sl)):TA:=λc H Q=>∃a d,Bw K M e a c H/\f a=some d/\∀vs b,Ak H b->Bc K (Nf M a c) b d vs->Q vs b
def Lo(K:Ar)(M:Fb)(d:Hp)(f:VE->Option Sl):TE:=λc H Q=>∃a s,Bw K M d a c H/\f a=some s/\∀v b,Ak H b->CB K (Nf M a c) b s v->Q v b
@[simp] def An(ρ:VE)(i:Nat):Option Sl:=match ρ[i]? with
  |some (.val d)=>some (.val d)
  |some (.own a b)=>some (.lent a b)
  |some (.lent a b)=>some (.lent a b)
  |_=>none
@[simp] def Zi(o:Option D):Option Sl:=o.map Sl.val
@[simp] def Zb{c:Type}(a:Option c)(b:Option (List c)):Option (List c):=a.bind λx=>b.bind λy=>some (x::y)
theorem M9{c:Type}{a:Option c}{b:Option (List c)}{l:List c}(h:Zb a b=some l):∃x y,a=some x/\b=some y/\l=x::y:=by
 cases a with
 |none=>cases h
 |some x=>
  cases b with
  |none=>cases h
  |some y=>cases h;exact⟨x,y,rfl,rfl,rfl⟩
section
variable{X:Cx}{K:Ar}{M:Fb}{H0:Hp}{e a b:Expr}{es:List Expr}{f g:VE->Option D}{fa:VE->Option (List Sl)}{f1:VE->Option Sl}{pos:A5}
theorem iI{i:Nat}{x:Ae}(k:X.N[i]?=some x)(l:Dr X.env.scope x)(hd:(x==("__debug__":Ae))=false:=by decide)(f:(x==("__classdict__":Ae))=false:=by decide):PE X (.Name x pos) (Lo K M H0 λρ=>An ρ i):=
 (FM k l hd f).mono λc H Q ⟨ρ,d,R,e,q⟩=>by
  try dsimp only at e q
  have fin:∀v,c[i]?.join=some v->CB K (Nf M ρ c) H d v->∃v,c[i]?=some (some v)/\Q v H:=λv b h=>by
   refine⟨v,?_,q v H (Ak.refl H) h⟩
   cases z:c[i]? with
   |none=>rw[z]at b;cases b
   |some o=>rw[z]at b;cases b;rfl
  unfold An at e
  split at e
  ·next h=>cases e;obtain⟨v,b,h⟩:=R.slot i _ h;exact fin v b h
  ·next h=>
   cases e
   obtain⟨a,vs,b,_,_,g,j⟩:=R.slot i _ h
   refine fin _ b ⟨a,vs,rfl,.inr ⟨i,_,_,h,?_⟩,.inl g,j⟩
   cases z:c[i]? with
   |none=>rw[z]at b;cases b
   |some o=>rw[z]at b;cases b;rfl
  ·next h=>cases e;obtain⟨a,vs,b,m,g,j⟩:=R.slot i _ h;exact fin _ b ⟨a,vs,rfl,.inl m.1,g,j⟩
  ·cases e
theorem Zg(h:JE X e (tD K M H0 f)):JE X e (Lo K M H0 λρ=>Zi (f ρ)):=⟨have h:=h.h;h.mono λg H Q ⟨ρ,s,R,e,q⟩=>by
 try dsimp only at e q
 cases a:f ρ with
 |none=>rw[a]at e;cases e
 |some d=>rw[a]at e;cases e;exact⟨ρ,d,R,a,λv b s c=>q v b s c⟩⟩
theorem Zd :JA X [] (Dh K M H0 λ_=>some []):=⟨Bt.mono λa H Q ⟨b,c,R,e,q⟩=>by
 try dsimp only at e q
 cases e;exact q [] H (Ak.refl H) rfl⟩
theorem Za(h:JE X e (Lo K M H0 f1))(a:JA X es (Dh K M H0 fa))(d:AN (e::es) X.env=(false,Ay e X.env)::AN es X.env:=by exact Dx (λ_ _ z=>nomatch z)):JA X (e::es) (Dh K M H0 λρ=>Zb (f1 ρ) (fa ρ)):=⟨have h:=h.h;have a:=a.h;(DE h a d).mono λm H Q ⟨ρ,n,R,e,q⟩=>by
 try dsimp only at e q
 obtain⟨s,r,f,g,i⟩:=M9 e
 subst i
 exact⟨ρ,s,R,f,λv o b j=>⟨ρ,r,R.st b,g,λvs k c l=>q (v::vs) k (b.trans c) ⟨v,vs,rfl,j.same c,l⟩⟩⟩⟩
@[simp] def Zt:List Sl->Option (List D)
  |[]=>some []
  |.val d::r=>Zb (some d) (Zt r)
  |_=>none
theorem JZ{K:Ar}{N:Fb}{H:Hp}:∀{a:List Sl}{vs:List V}{b:List D},Bc K N H a vs->Zt a=some b->Ad K N H b vs
 |[],_,_,h,e=>by cases e;cases h;exact Ad.nil
 |.val d::r,_,_,⟨v,t,c,h,f⟩,e=>by
  obtain⟨x,y,g,i,j⟩:=M9 e
  cases g;subst c j
  exact Ad.cons h (JZ f i)
 |.no::_,_,_,_,e=>nomatch e
 |.own _ _::_,_,_,_,e=>nomatch e
 |.lent _ _::_,_,_,_,e=>nomatch e
@[simp] def Zn{a:Type}(o:Option (List a)):Option (List a):=o.bind λl=>if l.length<=AG then some l else none
theorem QP{b:Type}{o:Option (List b)}{l:List b}(h:Zn o=some l):o=some l/\l.length<=AG:=by
 cases o with
 |none=>cases h
 |some x=>
  have a:(if x.length<=AG then some x else none)=some l:=h
  split at a
  ·cases a;exact⟨rfl,by assumption⟩
  ·cases a
theorem FU{H:Hp}{p:Ac}{o:HO}(h:H p=none):Ak H (AU H p o):=λb u e=>by rw[ZB (Eo e h)];exact e
theorem Lp{fl:Bool}{ρ:VE}{σ:St}{H d:Hp}{Q:VK}{xs:List D}{vs:List V}{p:Ac}(s:Ak H d)(e:d p=none)(h:Ad K (Nf M ρ σ) d xs vs)
  (q:∀a vs H',Ak H H'->H a=none->H' a=some (CO fl xs vs)->Ad K (λb=>Nf M ρ σ b\/b=a) H' xs vs->Q (.ref a) H'):Q (.ref p) (AU d p (CO fl xs vs)):=by
 refine q p vs _ (s.trans (FU e)) (s.free e) Z7 ?_
 refine(h.nw λb c=>?_).same (FU e)
 rcases c with c|c
 ·exact .inl c
 ·subst c;exact .inr e
theorem ZZ(h:JA X es (Dh K M H0 fa)):JE X (.List es pos) (tF K M H0 λρ=>Zn ((fa ρ).bind Zt)):=⟨have h:=h.h;(MU h).mono λi H Q ⟨ρ,j,R,e,q⟩=>by
 try dsimp only at e q
 obtain⟨e,b⟩:=QP e
 cases a:fa ρ with
 |none=>rw[a]at e;cases e
 |some c=>
  rw[a]at e
  refine⟨ρ,c,R,a,λvs k d f=>?_⟩
  have hd:=JZ f e
  exact⟨by rw[<- hd.length];exact b,λp g=>Lp d g hd q⟩⟩
theorem Z2 {f} (h:JA X es (Dh K M H0 fa)):JE X (.Tuple es f pos) (tD K M H0 λρ=>(Zn ((fa ρ).bind Zt)).map D.tup):=⟨have h:=h.h;(gE h).mono λk H Q ⟨ρ,d,R,e,q⟩=>by
 try dsimp only at e q
 cases a:Zn ((fa ρ).bind Zt)with
 |none=>rw[a]at e;cases e
 |some l=>
  rw[a]at e;cases e
  obtain⟨e,a⟩:=QP a
  cases b:fa ρ with
  |none=>rw[b]at e;cases e
  |some g=>
   rw[b]at e
   refine⟨ρ,g,R,b,λvs m i j=>?_⟩
   have hd:=JZ j e
   refine⟨by rw[<- hd.length];exact a,λp c=>q _ _ (i.trans (FU c)) ?_⟩
   simp only[AF]
   exact⟨p,vs,rfl,B0.of Z7,hd.same (FU c)⟩⟩
end
inductive Rv where
 |val (d:D)|own (xs:List D) (b:Bool:=false)
def IQ(K:Ar)(N:Fb)(e H':Hp):Rv->V->Prop
 |.val d,v=>AF K N H' d v
 |.own c b,v=>∃a vs,v=.ref a/\e a=none/\H' a=some (CO b c vs)/\Ad K (λb=>N b\/b=a) H' c vs
def Bu(K:Ar)(F:List Sl->Option Rv):Sp:=λvs H Q _=>∃N c r,(∀a,N a->H a≠none)/\Bc K N H c vs/\F c=some r/\∀v b,Ak H b->IQ K N H b r v->Q v b
@[simp] def FV:Rv->D
  |.val d=>d
  |.own a b=>.lst a b
@[simp] def Lq:Rv->Option (List D)
  |.own a=>some a
  |_=>none
@[simp] def iJ:Rv->Option (List D)
  |.own a true=>some a
  |_=>none
section
variable{X:Cx}{K:Ar}{M:Fb}{H0:Hp}{e:Expr}{es:List Expr}{fa:VE->Option (List Sl)}{F:List Sl->Option Rv}{CX:EM}{k:Nat}{fn:Ac}{fd:Bi}{ps:List Ae}{x:Ae}{p pos:A5}{E:XK}
@[simp] def Zq(F:List Sl->Option Rv)(fa:VE->Option (List Sl)):VE->Option D:=λa=>(fa a).bind λb=>(F b).map FV
@[simp] def FW(F:List Sl->Option Rv)(fa:VE->Option (List Sl)):VE->Option (List D):=λa=>(fa a).bind λb=>(F b).bind Lq
theorem iK{σ:St}{H:Hp}{Q:VK}(h:tD K M H0 (Zq F fa) σ H Q):Qq (Bu K F) [] E (Dh K M H0 fa) σ H Q:=by
 obtain⟨c,d,R,e,q⟩:=h
 try dsimp only at e q
 unfold Zq at e
 cases f:fa c with
 |none=>rw[f]at e;cases e
 |some g=>
  rw[f]at e
  cases i:F g with
  |none=>simp only[AA,i]at e;cases e
  |some r=>
   simp only[AA,i]at e;cases e
   refine⟨c,g,R,f,λvs t j l=>⟨Nf M c σ,g,r,(R.st j).nh,by rw[Fp];exact l,i,λv m n k=>q v m (j.trans n) ?_⟩⟩
   cases r with
   |val d=>exact k
   |own u w=>
    obtain⟨a,o,p,z1,z2,z3⟩:=k
    simp only[FV,AF]
    exact⟨a,o,p,.of (λz=>(R.st j).fresh z1 z) z2,z3.nw λb s=>.inl (.inl s)⟩
@[simp] def rq(F:List Sl->Option Rv)(fa:VE->Option (List Sl)):VE->Option (List D):=λa=>(fa a).bind λb=>(F b).bind iJ
theorem iL{σ:St}{H:Hp}{Q:VK}(h:tF K M H0 (FW F fa) σ H Q):Qq (Bu K F) [] E (Dh K M H0 fa) σ H Q:=by
 obtain⟨b,d,R,e,q⟩:=h
 try dsimp only at e q
 unfold FW at e
 cases c:fa b with
 |none=>rw[c]at e;cases e
 |some f=>
  rw[c]at e
  cases g:F f with
  |none=>simp only[AA,g]at e;cases e
  |some r=>
   simp only[AA,g]at e
   cases r with
   |val d=>cases e
   |own s j=>
    cases j with
    |true=>cases e
    |false=>
     cases e
     refine⟨b,f,R,c,λvs t i k=>⟨Nf M b σ,f,_,(R.st i).nh,by rw[Fp];exact k,g,λv l m n=>?_⟩⟩
     obtain⟨a,o,p,z1,z2,z3⟩:=n
     subst p
     exact q a o l (i.trans m) (i.free z1) z2 z3
theorem iM(G:Ax X.prog X.w X.K X.mg X.base CX k fn fd ps (Bu K F))(d:Bd k X.A)(f:Gl X x)(g:X.mg x=some (.ref fn))(i:La X.K (.ref fn)=true)(j:Binds X.K fd ps [])(l:K9 CX X E)(a:JA X (e::es) (Dh K M H0 fa))(b:(x==("__debug__":Ae))=false:=by decide)(m:AN (e::es) X.env=(false,Ay e X.env)::AN es X.env:=by exact Dx (λ_ _ z=>nomatch z))(c:(AR pos (AN es X.env)).any (·.1)=false:=by rfl):JE X (.Call (.Name x p) (e::es) [] pos) (tD K M H0 (Zq F fa)):=⟨have a:=a.h;(Vs G d f g i j .nil l a b m c).mono λ_ _ _ h=>iK h⟩
theorem iN(G:Ax X.prog X.w X.K X.mg X.base CX k fn fd ps (Bu K F))(d:Bd k X.A)(f:Gl X x)(g:X.mg x=some (.ref fn))(i:La X.K (.ref fn)=true)(j:Binds X.K fd ps [])(l:K9 CX X E)(a:JA X (e::es) (Dh K M H0 fa))(b:(x==("__debug__":Ae))=false:=by decide)(m:AN (e::es) X.env=(false,Ay e X.env)::AN es X.env:=by exact Dx (λ_ _ z=>nomatch z))(c:(AR pos (AN es X.env)).any (·.1)=false:=by rfl):JE X (.Call (.Name x p) (e::es) [] pos) (tF K M H0 (FW F fa)):=⟨have a:=a.h;(Vs G d f g i j .nil l a b m c).mono λ_ _ _ h=>iL h⟩
end
def DX(K:Ar)(r:List V->Hp->VK->Prop)(F:List D->Option D):Prop:=∀(N:Fb)(H:Hp)(vs:List V)(c:List D)(d:D)(Q:VK),(∀a,N a->H a≠none)->Paired (AI K N H) c vs->F c=some d ->
 (∀v b,Ak H b->AF K N b d v->Q v b)->r vs H Q
def J0(K:Ar)(r:List V->Hp->VK->Prop)(F:List D->Option (List D)):Prop:=∀(N:Fb)(H:Hp)(vs:List V)(b:List D)(c:List D)(Q:VK),(∀a,N a->H a≠none)->Paired (AI K N H) b vs->F b=some c ->
 (∀d p,H p=none->Ad K N H c d->Q (.ref p) (AU H p (.lst d)))->r vs H Q
@[simp] def By:List Sl->Option (List D)
  |[]=>some []
  |s::r=>Zb (pk s) (By r)
theorem Na{K:Ar}{N:Fb}{H:Hp}:∀{a:List Sl}{vs:List V}{b:List D},Bc K N H a vs->By a=some b->Paired (AI K N H) b vs
 |[],_,_,h,e=>by cases e;cases h;exact .nil
 |s::r,_,_,⟨v,t,f,h,g⟩,e=>by
  obtain⟨x,y,c,i,j⟩:=M9 e
  subst f j
  obtain⟨d,hd,k⟩:=h.p
  rw[hd]at c;cases c
  exact .cons k (Na g i)
section
variable{X:Cx}{K:Ar}{M:Fb}{H0:Hp}{e:Expr}{es:List Expr}{fa:VE->Option (List Sl)}{x:Ae}{p pos:A5}{r:List V->Hp->VK->Prop}{F:List D->Option D}{G:List D->Option (List D)}{id:String}
@[simp] def ZD(F:List D->Option D)(fa:VE->Option (List Sl)):VE->Option D:=λa=>((fa a).bind By).bind F
@[simp] def Cv(F:List D->Option (List D))(fa:VE->Option (List Sl)):VE->Option (List D):=λa=>((fa a).bind By).bind F
theorem V6(i:DX K r F){σ:St}{H:Hp}{Q:VK}(h:tD K M H0 (ZD F fa) σ H Q):MV r (Dh K M H0 fa) σ H Q:=by
 obtain⟨a,d,R,e,q⟩:=h
 try dsimp only at e q
 unfold ZD at e
 cases b:fa a with
 |none=>rw[b]at e;cases e
 |some f=>
  rw[b]at e
  cases c:By f with
  |none=>simp only[AA,c]at e;cases e
  |some j=>
   simp only[AA,c]at e
   exact⟨a,f,R,b,λvs k g l=>i (Nf M a σ) k vs j d Q (R.st g).nh (Na l c) e λv m s n=>q v m (g.trans s) n⟩
theorem V7(i:J0 K r G){σ:St}{H:Hp}{Q:VK}(h:tF K M H0 (Cv G fa) σ H Q):MV r (Dh K M H0 fa) σ H Q:=by
 obtain⟨b,d,R,e,q⟩:=h
 try dsimp only at e q
 unfold Cv at e
 cases c:fa b with
 |none=>rw[c]at e;cases e
 |some f=>
  rw[c]at e
  cases a:By f with
  |none=>simp only[AA,a]at e;cases e
  |some j=>
   simp only[AA,a]at e
   exact⟨b,f,R,c,λvs k g l=>i (Nf M b σ) k vs j d Q (R.st g).nh (Na l a) e λn p a m=>Lp g a m q⟩
theorem ZK(d:A9 X (.builtin id) r)(f:DX K r F)(g:Gl X x)(i:X.mg x=none)(j:Ep x=some (.builtin id))(a:JA X (e::es) (Dh K M H0 fa))(k:x≠"__name__":=by decide)(b:(x==("__debug__":Ae))=false:=by decide)(l:AN (e::es) X.env=(false,Ay e X.env)::AN es X.env:=by exact Dx (λ_ _ z=>nomatch z))(c:(AR pos (AN es X.env)).any (·.1)=false:=by rfl):JE X (.Call (.Name x p) (e::es) [] pos) (tD K M H0 (ZD F fa)):=⟨have a:=a.h;(Qs d g i j a k b l c).mono λ_ _ _ h=>V6 f h⟩
theorem iO(d:A9 X (.builtin id) r)(f:J0 K r G)(g:Gl X x)(i:X.mg x=none)(j:Ep x=some (.builtin id))(a:JA X (e::es) (Dh K M H0 fa))(k:x≠"__name__":=by decide)(b:(x==("__debug__":Ae))=false:=by decide)(l:AN (e::es) X.env=(false,Ay e X.env)::AN es X.env:=by exact Dx (λ_ _ z=>nomatch z))(c:(AR pos (AN es X.env)).any (·.1)=false:=by rfl):JE X (.Call (.Name x p) (e::es) [] pos) (tF K M H0 (Cv G fa)):=⟨have a:=a.h;(Qs d g i j a k b l c).mono λ_ _ _ h=>V7 f h⟩
theorem EW(d:A9 X (.type id) r)(f:DX K r F)(g:Gl X x)(i:X.mg x=none)(j:Ep x=some (.type id))(a:JA X (e::es) (Dh K M H0 fa))(k:x≠"__name__":=by decide)(b:(x==("__debug__":Ae))=false:=by decide)(l:AN (e::es) X.env=(false,Ay e X.env)::AN es X.env:=by exact Dx (λ_ _ z=>nomatch z))(c:(AR pos (AN es X.env)).any (·.1)=false:=by rfl):JE X (.Call (.Name x p) (e::es) [] pos) (tD K M H0 (ZD F fa)):=⟨have a:=a.h;(VB d g i j a k b l c).mono λ_ _ _ h=>V6 f h⟩
theorem Nb(d:A9 X (.type id) r)(f:J0 K r G)(g:Gl X x)(i:X.mg x=none)(j:Ep x=some (.type id))(a:JA X (e::es) (Dh K M H0 fa))(k:x≠"__name__":=by decide)(b:(x==("__debug__":Ae))=false:=by decide)(l:AN (e::es) X.env=(false,Ay e X.env)::AN es X.env:=by exact Dx (λ_ _ z=>nomatch z))(c:(AR pos (AN es X.env)).any (·.1)=false:=by rfl):JE X (.Call (.Name x p) (e::es) [] pos) (tF K M H0 (Cv G fa)):=⟨have a:=a.h;(VB d g i j a k b l c).mono λ_ _ _ h=>V7 f h⟩
theorem DX.or{r c:List V->Hp->VK->Prop}{F f:List D->Option D}(h:DX K r F)(h':DX K c f):DX K (λxs H Q=>r xs H Q\/c xs H Q) (λa=>JY (F a) (f a)):=by
 intro N H vs a d Q g i e q
 cases b:F a with
 |some z=>simp only[b,JY]at e;cases e;exact .inl (h N H vs a d Q g i b q)
 |none=>simp only[b,JY]at e;exact .inr (h' N H vs a d Q g i e q)
end
inductive Ao where
 |fail|next(ρ:VE)|brk (ρ:VE)|cont (ρ:VE)|ret (r:Rv)
def Hc(K:Ar)(M:Fb)(d:Hp)(ρ:VE)(σ:St)(H:Hp)(b:VE)(Q:St->Hp->Prop):Prop:=∀a c,Bw K M d b a c->Step M (Nf M ρ σ) (Nf M b a) H c->Q a c
def Cm(K:Ar)(M:Fb)(b:Hp)(ρ:VE)(σ:St)(H:Hp)(D:Ends):Ao->Prop
 |.fail=>False
 |.next a=>Hc K M b ρ σ H a D.nx
 |.brk a=>Hc K M b ρ σ H a D.bk
 |.cont a=>Hc K M b ρ σ H a D.ct
 |.ret r=>∀v c,Ak b c->IQ K M b c r v->D.rt v c
def tS(K:Ar)(M:Fb)(b:Hp)(g:VE->Ao):TS:=λD c H=>∃a,Bw K M b a c H/\Cm K M b a c H D (g a)
@[simp] def Zf(a:Ao)(g:VE->Ao):Ao:=match a with
  |.next b=>g b
  |r=>r
theorem Hc.from{K:Ar}{M:Fb}{e:Hp}{ρ a b:VE}{σ c:St}{H f:Hp}{Q:St->Hp->Prop}(s:Step M (Nf M ρ σ) (Nf M a c) H f)(h:Hc K M e ρ σ H b Q):Hc K M e a c f b Q:=
 λd g R i=>h d g R (s.trans i)
theorem Cm.from{K:Ar}{M:Fb}{d:Hp}{ρ a:VE}{σ b:St}{H e:Hp}{D:Ends}{r:Ao}(s:Step M (Nf M ρ σ) (Nf M a b) H e)(h:Cm K M d ρ σ H D r):Cm K M d a b e D r:=by
 cases r with
 |fail=>exact h
 |next c=>exact Hc.from s h
 |brk c=>exact Hc.from s h
 |cont c=>exact Hc.from s h
 |ret r=>exact h
section
variable{X:Cx}{K:Ar}{M:Fb}{H0:Hp}{st:Au}{Z8:List Au}{g g1 g2:VE->Ao}{pos:A5}{e:Expr}{f:VE->Option D}
theorem Zh :JB X [] (tS K M H0 λρ=>.next ρ):=⟨E5.mono λD a H ⟨ρ,R,q⟩=>q a H R Step.refl⟩
theorem Zc(c:JS X st (tS K M H0 g1))(d:JB X Z8 (tS K M H0 g2)):JB X (st::Z8) (tS K M H0 λρ=>Zf (g1 ρ) g2):=⟨have c:=c.h;have d:=d.h;(Ql c d).mono λD i H ⟨ρ,R,q⟩=>by
 try dsimp only at q
 refine⟨ρ,R,?_⟩
 cases b:g1 ρ with
 |fail=>rw[b]at q;exact q
 |next a=>rw[b]at q;exact λe j f g=>⟨a,f,q.from g⟩
 |brk a=>rw[b]at q;exact q
 |cont a=>rw[b]at q;exact q
 |ret r=>rw[b]at q;exact q⟩
@[simp] def ZO(o:Option D):Ao:=match o with
  |some d=>.ret (.val d)
  |none=>.fail
theorem ZG(h:JE X e (tD K M H0 f)):JS X (.Return (some e) pos) (tS K M H0 λρ=>ZO (f ρ)):=⟨have h:=h.h;(K0 h).mono λD j H ⟨ρ,R,q⟩=>by
 try dsimp only at q
 cases b:f ρ with
 |none=>rw[b]at q;exact BB q
 |some d=>
  rw[b]at q
  exact⟨ρ,d,R,b,λv c s g=>q v c (R.same.trans s) (g.nw λa i=>.inl (.inl i))⟩⟩
@[simp] def B3(o:Option (List D)):Ao:=match o with
  |some a=>.ret (.own a)
  |none=>.fail
@[simp] def Hd(o:Option (List D)):Ao:=match o with
  |some a=>.ret (.own a true)
  |none=>.fail
theorem V8{f:VE->Option (List D)}(h:JE X e (JV true K M H0 f)):JS X (.Return (some e) pos) (tS K M H0 λρ=>Hd (f ρ)):=⟨have h:=h.h;(K0 h).mono λD j H ⟨ρ,R,q⟩=>by
 try dsimp only at q
 cases d:f ρ with
 |none=>rw[d]at q;exact BB q
 |some g=>
  rw[d]at q
  exact⟨ρ,g,R,d,λa vs i s z1 z2 z3=>q (.ref a) i (R.same.trans s) ⟨a,vs,rfl,R.same.free z1,z2,z3.nw λb c=>by
   rcases c with c|c
   ·exact .inl (.inl (.inl c))
   ·exact .inl (.inr c)⟩⟩⟩
theorem FX{f:VE->Option (List D)}(h:JE X e (tF K M H0 f)):JS X (.Return (some e) pos) (tS K M H0 λρ=>B3 (f ρ)):=⟨have h:=h.h;(K0 h).mono λD j H ⟨ρ,R,q⟩=>by
 try dsimp only at q
 cases d:f ρ with
 |none=>rw[d]at q;exact BB q
 |some g=>
  rw[d]at q
  exact⟨ρ,g,R,d,λa vs i s z1 z2 z3=>q (.ref a) i (R.same.trans s) ⟨a,vs,rfl,R.same.free z1,z2,z3.nw λb c=>by
   rcases c with c|c
   ·exact .inl (.inl (.inl c))
   ·exact .inl (.inr c)⟩⟩⟩
@[simp] def Cn(ρ:VE)(i:Nat):Option (List D):=match ρ[i]? with
  |some (.own a)=>some a
  |_=>none
theorem QQ{ρ:VE}{i:Nat}{xs:List D}(h:Cn ρ i=some xs):ρ[i]?=some (.own xs):=by
 unfold Cn at h
 split at h
 ·cases h;assumption
 ·cases h
@[simp] def EX(ρ:VE)(i:Nat):Option (List D):=match ρ[i]? with
  |some (.own a true)=>some a
  |_=>none
theorem Lr{ρ:VE}{i:Nat}{xs:List D}(h:EX ρ i=some xs):ρ[i]?=some (.own xs true):=by
 unfold EX at h
 split at h
 ·cases h;assumption
 ·cases h
theorem AJ{σ:St}{i:Nat}{v:V}(a:σ[i]?.join=some v):σ[i]?=some (some v):=by
 cases z:σ[i]? with
 |none=>rw[z]at a;cases a
 |some o=>rw[z]at a;cases a;rfl
theorem iP{i:Nat}{x:Ae}{c:A5}(h:X.N[i]?=some x)(j:Dr X.env.scope x)(hd:(x==("__debug__":Ae))=false:=by decide)(f:(x==("__classdict__":Ae))=false:=by decide):
  PS X (.Return (some (.Name x c)) pos) (tS K M H0 λρ=>B3 (Cn ρ i)):=(K0 (FM h j hd f)).mono λD l H ⟨ρ,R,q⟩=>by
 try dsimp only at q
 cases e:Cn ρ i with
 |none=>rw[e]at q;exact BB q
 |some k=>
  rw[e]at q
  obtain⟨a,vs,g,z1,z2,z3,z4⟩:=R.slot i _ (QQ e)
  refine⟨.ref a,AJ g,q (.ref a) H R.same ⟨a,vs,rfl,z1,z3,z4.nw λb d=>.inl ?_⟩⟩
  rcases d with d|d
  ·exact .inl d
  ·subst d;exact .inr ⟨i,k,_,QQ e,AJ g⟩
theorem iQ{i:Nat}{x:Ae}{c:A5}(h:X.N[i]?=some x)(j:Dr X.env.scope x)(hd:(x==("__debug__":Ae))=false:=by decide)(f:(x==("__classdict__":Ae))=false:=by decide):
  PS X (.Return (some (.Name x c)) pos) (tS K M H0 λρ=>Hd (EX ρ i)):=(K0 (FM h j hd f)).mono λD l H ⟨ρ,R,q⟩=>by
 try dsimp only at q
 cases e:EX ρ i with
 |none=>rw[e]at q;exact BB q
 |some k=>
  rw[e]at q
  obtain⟨a,vs,g,z1,z2,z3,z4⟩:=R.slot i _ (Lr e)
  refine⟨.ref a,AJ g,q (.ref a) H R.same ⟨a,vs,rfl,z1,z3,z4.nw λb d=>.inl ?_⟩⟩
  rcases d with d|d
  ·exact .inl d
  ·subst d;exact .inr ⟨i,k,_,Lr e,AJ g⟩
@[simp] def ZM(c:Option Bool)(a b:Ao):Ao:=match c with
  |some true=>a
  |some false=>b
  |none=>.fail
theorem ZV{c:Expr}{a b:List Au}{t:VE->Option Bool}(d:JT X c (BI K M H0 t))(e:JB X a (tS K M H0 g1))(f:JB X b (tS K M H0 g2)):JS X (.If c a b pos) (tS K M H0 λρ=>ZM (t ρ) (g1 ρ) (g2 ρ)):=⟨have d:=d.h;have e:=e.h;have f:=f.h;(fL d e f).mono λD i H ⟨ρ,R,q⟩=>by
 try dsimp only at q
 cases g:t ρ with
 |none=>rw[g]at q;exact BB q
 |some k=>
  rw[g]at q
  refine⟨ρ,k,R,g,λj s=>?_⟩
  cases k with
  |true=>refine IJ ?_;exact⟨ρ,R.st s,Cm.from (Step.of_same s) q⟩
  |false=>refine IK ?_;exact⟨ρ,R.st s,Cm.from (Step.of_same s) q⟩⟩
theorem HJ{b:Type}{l:List b}{i:Nat}{x y:b}(h:(l.set i x)[i]?=some y):i<l.length/\x=y:=by
 by_cases a:i<l.length
 ·rw[Fl a]at h;exact⟨a,Fm h⟩
 ·rw[QR (by simpa using Nat.le_of_not_lt a)]at h;cases h
theorem J1{M:Fb}{ρ:VE}{σ:St}{i:Nat}{s:Sl}{v:V}{b:Ac}(d:ρ.length=σ.length)(h:Nf M (ρ.set i s) (σ.set i (some v)) b):Nf M ρ σ b\/∃xs fl,s=.own xs fl/\v=.ref b:=by
 rcases h with h|⟨j,xs,fl,a,c⟩
 ·exact .inl (.inl h)
 ·by_cases e:i=j
  ·subst e
   have q1:=(HJ a).2
   have q2:=(HJ c).2
   cases q1;cases q2;exact .inr ⟨xs,fl,rfl,rfl⟩
  ·rw[Er e]at a c
   exact .inl (.inr ⟨j,xs,fl,a,c⟩)
theorem Bw.put{ρ:VE}{σ:St}{H H':Hp}{i:Nat}{s:Sl}{v:V}(R:Bw K M H0 ρ σ H)(S:Step M (Nf M ρ σ) (Nf M (ρ.set i s) (σ.set i (some v))) H H')(A:Ak H0 H')
  (B:∀j a vs xs fl,j≠i->ρ[j]?=some (.own xs fl)->σ[j]?=some (some (.ref a))->H a=some (CO fl xs vs)->H' a=some (CO fl xs vs))
  (E:i<ρ.length->VY K M (Nf M (ρ.set i s) (σ.set i (some v))) H0 H' s (some v))
  (l:∀xs fl a j ys b,s=.own xs fl->v=.ref a->j≠i->ρ[j]?=some (.own ys b)->σ[j]?≠some (some (.ref a))):Bw K M H0 (ρ.set i s) (σ.set i (some v)) H' where
 len:=by rw[Nc,Nc];exact R.len
 same:=A
 mh:=λa h z=>by
  cases e:H a with
  |none=>exact R.mh a h e
  |some o=>rw[S.kp a o e (.inr (.inl h))]at z;cases z
 slot:=λj x e=>by
  by_cases p:i=j
  ·subst p
   obtain⟨y,e⟩:=HJ e
   subst e
   rw[Fl (by rw[<- R.len];exact y)]
   exact E y
  ·rw[Er p]at e ⊢
   have q:=R.slot j x e
   cases x with
   |no=>trivial
   |val d=>obtain⟨u,m,h⟩:=q;exact⟨u,m,AF.step S d u h⟩
   |own xs fl=>obtain⟨a,vs,m,f,g,n,r⟩:=q;exact⟨a,vs,m,f,g,B j a vs xs fl (Bp p) e (AJ m) n,Ad.step S xs vs r⟩
   |lent xs fl=>obtain⟨a,vs,m,f,g,n⟩:=q;exact⟨a,vs,m,f,g.step S (.inr (.inl f.1)),Ad.step S xs vs n⟩
   |exc c=>obtain⟨a,C,m,f,g⟩:=q;exact⟨a,C,m,f,S.kp _ _ g (.inr (.inr rfl))⟩
   |pin a=>exact q
 inj:=λj k xs ys fl b a f g n r=>by
  by_cases w:i=j
  ·by_cases t:i=k
   ·rw[<- w,t]
   ·subst w
    rw[Er t]at g r
    have q1:=(HJ f).2
    have q3:=(HJ n).2
    cases q1;cases q3;exact absurd r (l xs fl a k ys b rfl rfl (Bp t) g)
  ·rw[Er w]at f n
   by_cases t:i=k
   ·subst t
    have q2:=(HJ g).2
    have q4:=(HJ r).2
    cases q2;cases q4;exact absurd n (l ys b a j xs fl rfl rfl (Bp w) f)
   ·rw[Er t]at g r
    exact R.inj j k xs ys fl b a f g n r
theorem Bw.setV{ρ:VE}{σ:St}{H H':Hp}{i:Nat}{d:D}{v:V}(R:Bw K M H0 ρ σ H)(s:Ak H H')(h:AF K (Nf M ρ σ) H' d v):
  Bw K M H0 (ρ.set i (.val d)) (σ.set i (some v)) H'/\Step M (Nf M ρ σ) (Nf M (ρ.set i (.val d)) (σ.set i (some v))) H H':=by
 have S:Step M (Nf M ρ σ) (Nf M (ρ.set i (.val d)) (σ.set i (some v))) H H':=⟨λa o e _=>s a o e,λb c=>by
  rcases J1 R.len c with q|⟨f,_,e,_⟩
  ·exact .inl q
  ·cases e⟩
 refine⟨R.put S (R.same.trans s) (λj a vs f g _ _ _ e=>s _ _ e) (λ_=>⟨v,rfl,h.nw λb c=>?_⟩) (λf g a j l k e=>nomatch e),S⟩
 rcases J1 R.len c with q|⟨f,_,e,_⟩
 ·exact .inl q
 ·cases e
theorem Bw.setO{fl:Bool}{ρ:VE}{σ:St}{H H':Hp}{i:Nat}{xs:List D}{a:Ac}{vs:List V}(R:Bw K M H0 ρ σ H)(s:Ak H H')(d:H a=none)(k:H' a=some (CO fl xs vs))(h:Ad K (λb=>Nf M ρ σ b\/b=a) H' xs vs):
  Bw K M H0 (ρ.set i (.own xs fl)) (σ.set i (some (.ref a))) H'/\Step M (Nf M ρ σ) (Nf M (ρ.set i (.own xs fl)) (σ.set i (some (.ref a)))) H H':=by
 have nf:∀b,Nf M (ρ.set i (.own xs fl)) (σ.set i (some (.ref a))) b->Nf M ρ σ b\/b=a:=λb c=>by
  rcases J1 R.len c with q|⟨xs,fl,e,f⟩
  ·exact .inl q
  ·cases f;exact .inr rfl
 have S:Step M (Nf M ρ σ) (Nf M (ρ.set i (.own xs fl)) (σ.set i (some (.ref a)))) H H':=⟨λa o e _=>s a o e,λb c=>by
  rcases nf b c with q|q
  ·exact .inl q
  ·subst q;exact .inr d⟩
 refine⟨R.put S (R.same.trans s) (λj a vs xs fl _ _ _ e=>s _ _ e) (λ_=>⟨a,vs,rfl,R.same.free d,λl=>R.fresh d (.inl l),k,h.nw λb c=>.inl (nf b c)⟩) (λm n u j p g e f v r t=>?_),S⟩
 cases f
 exact R.fresh d (.inr ⟨j,p,g,r,t⟩)
theorem Bw.chg{fl fl2:Bool}{ρ:VE}{σ:St}{H:Hp}{i:Nat}{xs ys:List D}{a:Ac}{ws:List V}(R:Bw K M H0 ρ σ H)(k:ρ[i]?=some (.own xs fl))(d:σ[i]?=some (some (.ref a)))(h:Ad K (Nf M ρ σ) H ys ws):
  Bw K M H0 (ρ.set i (.own ys fl2)) σ (AU H a (CO fl2 ys ws))/\Step M (Nf M ρ σ) (Nf M (ρ.set i (.own ys fl2)) σ) H (AU H a (CO fl2 ys ws)):=by
 obtain⟨w,vs,u,z1,z2,z3,z4⟩:=R.slot i _ k
 rw[d]at u
 have x:a=w:=by simpa using u
 subst x
 have l:σ.set i (some (.ref a))=σ:=by
  apply HK
  intro j
  by_cases e:i=j
  ·subst e
   rw[Fl (List.getElem?_eq_some_iff.mp d).1,d]
  ·rw[Er e]
 have v:Nf M ρ σ a:=.inr ⟨i,xs,fl,k,d⟩
 have nf:∀b,Nf M (ρ.set i (.own ys fl2)) (σ.set i (some (.ref a))) b->Nf M ρ σ b:=λb m=>by
  rcases J1 R.len m with q|⟨xs,_,e,n⟩
  ·exact q
  ·cases n;exact v
 have S:Step M (Nf M ρ σ) (Nf M (ρ.set i (.own ys fl2)) (σ.set i (some (.ref a)))) H (AU H a (CO fl2 ys ws)):=⟨λb o e z=>by
   have ne:b≠a:=by
    rintro rfl
    rcases z with z|z|z
    ·exact z v
    ·exact z2 z
    ·rw[z3]at e;cases e;rw[iB]at z;cases z
   rw[ZB ne];exact e,λb m=>.inl (nf b m)⟩
 have f:Bw K M H0 (ρ.set i (.own ys fl2)) (σ.set i (some (.ref a))) (AU H a (CO fl2 ys ws)):=by
  refine R.put S (λb o e=>?_) (λj b B g c p r s y=>?_) (λ_=>⟨a,ws,rfl,z1,z2,Z7,Ad.step S ys ws h⟩) (λg A b j t c e n p r s=>?_)
  ·have ne:b≠a:=by
    rintro rfl
    rw[z1]at e;cases e
   rw[ZB ne];exact R.same b o e
  ·have ne:b≠a:=by
    rintro rfl
    exact p (R.inj j i g xs c fl b r k s d)
   rw[ZB ne];exact y
  ·cases n
   exact p (R.inj j i t xs c fl _ r k s d)
 rw[l]at f S
 exact⟨f,S⟩
theorem Bw.frz{fl:Bool}{ρ:VE}{σ:St}{H:Hp}{i:Nat}{xs:List D}(R:Bw K M H0 ρ σ H)(m:ρ[i]?=some (.own xs fl)):
  Bw K M H0 (ρ.set i (.val (.lst xs fl))) σ H/\Step M (Nf M ρ σ) (Nf M (ρ.set i (.val (.lst xs fl))) σ) H H:=by
 obtain⟨a,vs,o,z1,z2,z3,z4⟩:=R.slot i _ m
 have d:=AJ o
 have f:σ.set i (some (.ref a))=σ:=by
  apply HK
  intro j
  by_cases e:i=j
  ·subst e
   rw[Fl (List.getElem?_eq_some_iff.mp d).1,d]
  ·rw[Er e]
 have nf:∀b,Nf M (ρ.set i (.val (.lst xs fl))) (σ.set i (some (.ref a))) b->Nf M ρ σ b:=λb g=>by
  rcases J1 R.len g with q|⟨xs,_,e,u⟩
  ·exact q
  ·cases e
 have k:¬ Nf M (ρ.set i (.val (.lst xs fl))) (σ.set i (some (.ref a))) a:=by
  rintro(h|⟨j,p,r,l,n⟩)
  ·exact z2 h
  ·by_cases e:i=j
   ·subst e
    have q1:=(HJ l).2
    cases q1
   ·rw[Er e]at l n
    exact e (R.inj i j xs p _ _ a m l d n)
 have S:Step M (Nf M ρ σ) (Nf M (ρ.set i (.val (.lst xs fl))) (σ.set i (some (.ref a)))) H H:=⟨λ_ _ e _=>e,λb g=>.inl (nf b g)⟩
 have c:Bw K M H0 (ρ.set i (.val (.lst xs fl))) (σ.set i (some (.ref a))) H:=by
  refine R.put S R.same (λ_ _ _ _ _ _ _ _ h=>h) (λ_=>⟨.ref a,rfl,?_⟩) (λs _ b j t _ e=>nomatch e)
  simp only[AF]
  exact⟨a,vs,rfl,.of k z3,Ad.step S xs vs z4⟩
 rw[f]at c S
 exact⟨c,S⟩
@[simp] def Zx(i:Nat)(o:Option D)(ρ:VE):Ao:=match o with
  |some d=>.next (ρ.set i (.val d))
  |none=>.fail
@[simp] def Di(i:Nat)(o:Option (List D))(ρ:VE):Ao:=match o with
  |some a=>.next (ρ.set i (.own a))
  |none=>.fail
@[simp] def EY(i:Nat)(o:Option (List D))(ρ:VE):Ao:=match o with
  |some a=>.next (ρ.set i (.own a true))
  |none=>.fail
theorem iR{f:VE->Option (List D)}{i:Nat}{c:Ends}{σ:St}{H:Hp}(h:tS K M H0 (λρ=>EY i (f ρ) ρ) c σ H):JD (JV true K M H0 f) (Iz i) c σ H:=by
 obtain⟨ρ,R,q⟩:=h
 try dsimp only at q
 cases b:f ρ with
 |none=>simp only[b,EY]at q;exact BB q
 |some d=>
  simp only[b,EY]at q
  refine⟨ρ,d,R,b,λa vs g s z1 z2 z3=>?_⟩
  obtain⟨e,S1⟩:=R.setO (i:=i) s z1 z2 z3
  exact q _ _ e S1
theorem Lu{f:VE->Option (List D)}{i:Nat}{x:Ae}{a:A5}(c:X.N.Nodup)(d:X.N[i]?=some x)(g:Loc X.env.scope x)(b:JE X e (JV true K M H0 f))(j:E6 e (some (.Name x a)) pos.line X.env=AK false:=by rfl)(k:X.fn x=true\/X.env.scope.names.lookup x=some .local:=by first|exact .inl rfl|exact .inr rfl|assumption):JS X (.Assign [.Name x a] e pos) (tS K M H0 λρ=>EY i (f ρ) ρ):=⟨have b:=b.h;(K2 c d g b j k).mono λ_ _ _ q=>iR q⟩
theorem V9{i:Nat}{b:Ends}{σ:St}{H:Hp}(h:tS K M H0 (λρ=>Zx i (f ρ) ρ) b σ H):JD (tD K M H0 f) (Iz i) b σ H:=by
 obtain⟨ρ,R,q⟩:=h
 try dsimp only at q
 cases a:f ρ with
 |none=>simp only[a,Zx]at q;exact BB q
 |some d=>
  simp only[a,Zx]at q
  refine⟨ρ,d,R,a,λv g s c=>?_⟩
  obtain⟨e,S1⟩:=R.setV (i:=i) s c
  exact q _ _ e S1
theorem iS{f:VE->Option (List D)}{i:Nat}{c:Ends}{σ:St}{H:Hp}(h:tS K M H0 (λρ=>Di i (f ρ) ρ) c σ H):JD (tF K M H0 f) (Iz i) c σ H:=by
 obtain⟨ρ,R,q⟩:=h
 try dsimp only at q
 cases b:f ρ with
 |none=>simp only[b,Di]at q;exact BB q
 |some d=>
  simp only[b,Di]at q
  refine⟨ρ,d,R,b,λa vs g s z1 z2 z3=>?_⟩
  obtain⟨e,S1⟩:=R.setO (i:=i) s z1 z2 z3
  exact q _ _ e S1
theorem iT{i:Nat}{x:Ae}{a:A5}(c:X.N.Nodup)(d:X.N[i]?=some x)(g:Loc X.env.scope x)(b:JE X e (tD K M H0 f))(j:E6 e (some (.Name x a)) pos.line X.env=AK false:=by rfl)(k:X.fn x=true\/X.env.scope.names.lookup x=some .local:=by first|exact .inl rfl|exact .inr rfl|assumption):JS X (.Assign [.Name x a] e pos) (tS K M H0 λρ=>Zx i (f ρ) ρ):=⟨have b:=b.h;(K2 c d g b j k).mono λ_ _ _ q=>V9 q⟩
theorem GO{f:VE->Option (List D)}{i:Nat}{x:Ae}{a:A5}(c:X.N.Nodup)(d:X.N[i]?=some x)(g:Loc X.env.scope x)(b:JE X e (tF K M H0 f))(j:E6 e (some (.Name x a)) pos.line X.env=AK false:=by rfl)(k:X.fn x=true\/X.env.scope.names.lookup x=some .local:=by first|exact .inl rfl|exact .inr rfl|assumption):JS X (.Assign [.Name x a] e pos) (tS K M H0 λρ=>Di i (f ρ) ρ):=⟨have b:=b.h;(K2 c d g b j k).mono λ_ _ _ q=>iS q⟩
@[simp] def Nd(i:Nat)(ρ:VE):VE:=match ρ[i]? with
  |some (.own a b)=>ρ.set i (.val (.lst a b))
  |_=>ρ
theorem iU(i:Nat)(h:JS X st (tS K M H0 g)):JS X st (tS K M H0 λρ=>g (Nd i ρ)):=⟨have h:=h.h;h.mono λc d H ⟨ρ,R,q⟩=>by
 try dsimp only at q
 unfold Nd at q
 split at q
 ·next e a=>
  obtain⟨b,S1⟩:=R.frz a
  exact⟨_,b,q.from S1⟩
 ·exact⟨ρ,R,q⟩⟩
@[simp] def C6(i:Nat)(o:Option D)(ρ:VE):Ao:=match Cn ρ i,o with
  |some a,some d=>if a.length<AG then .next (ρ.set i (.own (a++[d])))else .fail
  |_,_=>.fail
theorem Gm{i:Nat}{x:Ae}{c g b:A5}(z:X.N[i]?=some x)(o:Dr X.env.scope x)(p:JE X e (tD K M H0 f))(hd:(x==("__debug__":Ae))=false:=by decide)(r:(x==("__classdict__":Ae))=false:=by decide)(A:E6 (.Call (.Attribute (.Name x c) "append" g) [e] [] b) none pos.line X.env=AK false:=by rfl)(j:Lf (.Name x c) "append" X.env (Ay (.Name x c) X.env)=Ay (.Name x c) X.env:=by rfl) (l:((AR b (AN [e] X.env)).all (λx=>!x.1)&&(backToKw b (IC [] X.env)).all (λx=>x.1.isSome)
   && decide ([e].length+([]:List BE).length+(if([]:List BE).isEmpty then 0 else 1)<30))=true:=by rfl) (k:(g.endLine==b.line)=true:=by rfl) (m:AN [e] X.env=(false,Ay e X.env)::AN [] X.env:=by rfl) (t:(AR b (AN [] X.env)).any (·.1)=false:=by rfl):JS X (.Expr (.Call (.Attribute (.Name x c) "append" g) [e] [] b) pos) (tS K M H0 λρ=>C6 i (f ρ) ρ):=⟨have p:=p.h;(Qm (Le PySem.F.plainAttrs_list PySem.F.slot_list_append PySem.F.type_list_append VQ (FM z o hd r) (DE p Bt m) j l k m t) A).mono λI J H ⟨ρ,R,q⟩=>by
  try dsimp only at q
  cases n:Cn ρ i with
  |none=>simp only[n,C6]at q;exact BB q
  |some B=>
   cases u:f ρ with
   |none=>simp only[n,u,C6]at q;exact BB q
   |some d=>
    simp only[n,u,C6]at q
    split at q
    ·next C=>
     have w:=QQ n
     obtain⟨a,vs,E,z1,z2,z3,z4⟩:=R.slot i _ w
     have y:=AJ E
     refine⟨.ref a,y,.inl ⟨rfl,vs,.inl (.inl z3)⟩,ρ,d,R,u,λv L s o=>?_⟩
     have G:=R.st s
     obtain⟨R2,S2⟩:=G.chg (ys:=B++[d]) (ws:=vs++[v]) w y ((z4.same s).append (Ad.cons o Ad.nil))
     exact⟨a,vs,v,rfl,rfl,s _ _ z3,by rw[<- z4.length];exact C,q _ _ R2 ((Step.of_same s).trans S2)⟩
    ·exact BB q⟩
end
def J2(K:Ar)(M N:Fb)(e:Hp)(J:It)(c:List D):Prop:=∀N2 a,Step M N N2 e a->∀i,(∀d,c[i]?=some d->J.go i a/\∀x b,J.yld i a x b->Ak a b/\AF K N2 b d x)/\(i=c.length->J.stop i a)
def tI(K:Ar)(M:Fb)(e:Hp)(f:VE->Option (List D)):TI:=λc H R=>∃a d,Bw K M e a c H/\f a=some d/\∀J b,Ak H b->J2 K M (Nf M a c) b J d->R J b
def tG(K:Ar)(M:Fb)(g:Hp)(ws:List Nat)(b:D->VE->Option VE):TG:=λv e H Q=>∃f d c,Bw K M g f e H/\AF K (Nf M f e) H d v/\b d f=some c/\∀a ,Bw K M g c a H->Step M (Nf M f e) (Nf M c a) H H->(∀j,j∉ws->a[j]?=e[j]?)->Q a H
@[simp] def Zl(i:Nat)(d:D)(ρ:VE):Option VE:=some (ρ.set i (.val d))
def Z0(b:D->VE->Option VE)(g:VE->Ao):List D->VE->Ao
 |[],c=>.next c
 |d::f,c=>match b d c with
  |none=>.fail
  |some e=>match g e with
   |.next a=>Z0 b g f a
   |.cont a=>Z0 b g f a
   |.brk a=>.next a
   |r=>r
@[simp] def BS(f:VE->Option (List D))(b:D->VE->Option VE)(g:VE->Ao):VE->Ao:=λa=>match f a with
  |some c=>Z0 b g c a
  |none=>.fail
section
variable{X:Cx}{K:Ar}{M:Fb}{H0:Hp}{pos:A5}{e tg iter:Expr}{f:VE->Option (List D)}{b:D->VE->Option VE}{g:VE->Ao}{body:List Au}
theorem iV{i:Nat}{x:Ae}(b:X.N.Nodup)(c:X.N[i]?=some x)(f:Loc X.env.scope x)(g:X.fn x=true\/X.env.scope.names.lookup x=some .local:=by first|exact .inl rfl|exact .inr rfl|assumption):JG X (.Name x pos) (tG K M H0 [i] (Zl i)):=⟨by
 intro a s h H v u Q I r ⟨n,d,k,R,hd,e,q⟩
 cases e
 obtain⟨l,S1⟩:=R.setV (i:=i) (Ak.refl H) hd
 exact fM b c f g a s h H v u Q I r (q _ l S1 λj m=>by rw[Er (λe=>m (by rw[e];simp))])⟩
theorem iW{ws:List Nat}{E:Ends}{σ:St}{H:Hp}{U:TI}{B:TG}{Y:TS}(hi:∀σ H R,tI K M H0 f σ H R->U σ H R)(hg:∀v σ H Q,tG K M H0 ws b v σ H Q->B v σ H Q)(hb:∀D σ H,tS K M H0 g D σ H->Y D σ H)
  (h:tS K M H0 (BS f b g) E σ H):Vd U B Y E σ H:=by
 obtain⟨C,R,q⟩:=h
 try dsimp only at q
 unfold BS at q
 cases G:f C with
 |none=>rw[G]at q;exact BB q
 |some d=>
  rw[G]at q
  refine hi _ _ _ ⟨C,d,R,G,λJ H1 s1 ok=>?_⟩
  refine⟨λi m j A=>m=d.length-i/\i<=d.length/\∃a,Bw K M H0 a j A/\Step M (Nf M C σ) (Nf M a j) H1 A/\Cm K M H0 a j A E (Z0 b g (d.drop i) a),⟨d.length,by simp,Gj _,C,R.st s1,Step.refl,?_⟩,?_⟩
  ·exact Cm.from (Step.of_same s1) q
  ·rintro i m j A ⟨rfl,hle,a,Ri,I,c⟩
   obtain⟨L,N⟩:=ok _ _ I i
   by_cases n:i<d.length
   ·obtain⟨go,y⟩:=L d[i] (Cu n)
    rw[M4 n]at c
    simp only[Z0]at c
    refine .inr ⟨go,λo t=>i+1<=d.length/\∃a,Bw K M H0 a o t/\Step M (Nf M C σ) (Nf M a o) H1 t/\Cm K M H0 a o t E (Z0 b g (d.drop (i+1)) a),λo t z=>⟨d.length-(i+1),by omega,rfl,z⟩,λx t yl=>?_⟩
    obtain⟨s3,hd⟩:=y x t yl
    cases u:b d[i] a with
    |none=>rw[u]at c;exact BB c
    |some p=>
     rw[u]at c
     simp only at c
     refine hg _ _ _ _ ⟨a,d[i],p,Ri.st s3,hd,u,λO R1 S1 _=>hb _ _ _ ⟨p,R1,?_⟩⟩
     have k:Step M (Nf M a j) (Nf M p O) A t:=(Step.of_same s3).trans S1
     cases l:g p with
     |fail=>rw[l]at c;exact c
     |next s=>rw[l]at c;exact λw T R2 S2=>⟨n,s,R2,I.trans (k.trans S2),Cm.from (k.trans S2) c⟩
     |cont s=>rw[l]at c;exact λw T R2 S2=>⟨n,s,R2,I.trans (k.trans S2),Cm.from (k.trans S2) c⟩
     |brk s=>rw[l]at c;exact λw T R2 S2=>c w T R2 (k.trans S2)
     |ret r=>rw[l]at c;exact c
   ·have e:i=d.length:=by omega
    rw[M0 (by omega)]at c
    exact .inl ⟨N e,c j A Ri Step.refl⟩
theorem DJ{ws:List Nat}(e:PassesOwn (Af X.prog X.w) X.A X.env X.xe)(i:X.calm=true)(a:JI X tg iter (tI K M H0 f))(c:JG X tg (tG K M H0 ws b))(d:JB X body (tS K M H0 g))(j:∀x,HF iter X.env x=AK x:=by intro _;rfl):JS X (.For tg iter body [] pos) (tS K M H0 (BS f b g)):=⟨have a:=a.h;have c:=c.h;have d:=d.h;(Vf e i a c d j).mono λ_ _ _ q=>iW (λ_ _ _ z=>z) (λ_ _ _ _ z=>z) (λ_ _ _ z=>z) q⟩
theorem PI.mono{c a:TI}(h:PI X tg iter c)(m:∀σ H R,a σ H R->c σ H R):PI X tg iter a:=λb s σ H R I q=>h b s σ H R I (m σ H R q)
def Ek(K:Ar)(M N:Fb)(H:Hp)(d:D)(v:V):Prop:=match d with
 |.lst b=>∃a vs,v=.ref a/\(((¬ N a\/M a)/\Rd H a (.lst vs))\/KL K a vs)/\Ad K N H b vs
 |.lst b true=>∃a vs,v=.ref a/\(¬ N a\/M a)/\Rd H a (.dct (IL b) vs)/\Ad K N H b vs
 |d=>AF K N H d v
def tQ(K:Ar)(M:Fb)(H0:Hp)(f:VE->Option D):TE:=λc H Q=>∃a d,Bw K M H0 a c H/\f a=some d/\∀v b,Ak H b->Ek K M (Nf M a c) b d v->Q v b
theorem AF.q{M N:Fb}{H:Hp}{d:D}{v:V}(h:AF K N H d v):Ek K M N H d v:=by
 cases d with
 |lst f b=>
  simp only[AF]at h
  obtain⟨a,vs,e,q,r⟩:=h
  cases b with
  |false=>
   refine⟨a,vs,e,?_,r⟩
   rcases q with⟨n,q⟩|⟨c,z,q⟩
   ·exact .inl ⟨.inl n,q⟩
   ·cases z;exact .inr q
  |true=>
   rcases q with⟨n,q⟩|⟨c,z,_⟩
   ·exact⟨a,vs,e,.inl n,q,r⟩
   ·cases z
 |_=>exact h
theorem PE.q{f:VE->Option D}(h:PE X e (tD K M H0 f)):PE X e (tQ K M H0 f):=h.mono λc H Q ⟨a,d,R,e,q⟩=>⟨a,d,R,e,λv b s z=>q v b s z.q⟩
theorem He{f:VE->Option D}(h:JE X e (tD K M H0 f)):JE X e (tQ K M H0 f):=⟨PE.q h.h⟩
theorem iX{M N:Fb}{H:Hp}{xs:List D}{vs:List V}{fl:Bool}{a:Ac}(m:M a)(h:Rd H a (CO fl xs vs))(r:Ad K N H xs vs):Ek K M N H (.lst xs fl) (.ref a):=by
 cases fl with
 |false=>exact⟨a,vs,rfl,.inl ⟨.inr m,h⟩,r⟩
 |true=>exact⟨a,vs,rfl,.inr m,h,r⟩
@[simp] def Be(ρ:VE)(i:Nat):Option D:=match ρ[i]? with
  |some (.val d)=>some d
  |some (.lent a b)=>some (.lst a b)
  |_=>none
theorem iY{i:Nat}{x:Ae}(f:X.N[i]?=some x)(g:Dr X.env.scope x)(hd:(x==("__debug__":Ae))=false:=by decide)(b:(x==("__classdict__":Ae))=false:=by decide):PE X (.Name x pos) (tQ K M H0 λρ=>Be ρ i):=
 (FM f g hd b).mono λm H Q ⟨ρ,d,R,e,q⟩=>by
  try dsimp only at e q
  unfold Be at e
  split at e
  ·next h=>cases e;obtain⟨v,c,h⟩:=R.slot i _ h;exact⟨v,AJ c,q v H (Ak.refl H) h.q⟩
  ·next h=>cases e;obtain⟨a,vs,c,j,k,l⟩:=R.slot i _ h;exact⟨_,AJ c,q _ H (Ak.refl H) (iX j.1 k l)⟩
  ·cases e
def Wa:D->Option (List D)
 |.lst a=>some a
 |_=>none
def iZ:D->Option (List D)
 |.tup a=>some a
 |_=>none
def i3:D->Option (List D)
 |.str x=>some (x.cps.toList.map λc=>D.str ⟨#[c]⟩)
 |_=>none
theorem i4{l:Expr}{f:VE->Option D}(h:PE X l (tQ X.K M H0 f)):PI X tg l (tI X.K M H0 λρ=>(f ρ).bind Wa):=(f3 h).mono λs H G ⟨ρ,I,R,e,q⟩=>by
 try dsimp only at e q
 cases j:f ρ with
 |none=>rw[j]at e;cases e
 |some d=>
  rw[j]at e
  cases d with
  |lst J t=>
   cases t with
   |true=>cases e
   |false=>
   cases e
   refine⟨ρ,.lst _,R,j,λv o u A=>?_⟩
   obtain⟨a,vs,B,c,hd⟩:=A
   have p:∀N2 g,Step M (Nf M ρ s) N2 o g->BH X.K g a vs:=λN2 g S=>by
    rcases c with⟨C,c⟩|c
    ·exact .inl (c.step S (by rcases C with z|z;exact .inl z;exact .inr (.inl z)))
    ·exact c.sq
   refine⟨a,B,⟨vs,p _ _ Step.refl⟩,q _ o u λN2 g S i=>?_⟩
   have b:=p _ _ S
   have k:=Ad.step S _ _ hd
   refine⟨λd m=>?_,λm=>⟨vs,b,by rw[m,hd.length];exact BD _⟩⟩
   obtain⟨w,r,n⟩:=k.get m
   refine⟨⟨vs,w,b,r⟩,λx L y=>?_⟩
   obtain⟨E,y⟩:=y
   subst E
   have:=y vs b
   rw[r]at this;cases this
   exact⟨Ak.refl _,n⟩
  |_=>cases e
theorem i8{l:Expr}{f:VE->Option D}(h:PE X l (tQ X.K M H0 f)):PI X tg l (tI X.K M H0 λρ=>(f ρ).bind iZ):=(f4 h).mono λu H z ⟨ρ,A,R,e,q⟩=>by
 try dsimp only at e q
 cases c:f ρ with
 |none=>rw[c]at e;cases e
 |some d=>
  rw[c]at e
  cases d with
  |tup B=>
   cases e
   refine⟨ρ,.tup _,R,c,λv p r m=>?_⟩
   simp only[Ek,AF]at m
   obtain⟨a,vs,s,n,hd⟩:=m
   refine⟨a,s,⟨vs,n⟩,q _ p r λN2 C S i=>?_⟩
   have b:=n.step S
   have g:=Ad.step S _ _ hd
   refine⟨λd j=>?_,λj=>⟨vs,b,by rw[j,hd.length];exact BD _⟩⟩
   obtain⟨w,o,k⟩:=g.get j
   refine⟨⟨vs,w,b,o⟩,λx E y=>?_⟩
   obtain⟨t,y⟩:=y
   subst t
   have:=y vs b
   rw[o]at this;cases this
   exact⟨Ak.refl _,k⟩
  |_=>cases e
theorem i9{l:Expr}{f:VE->Option D}(h:PE X l (tQ K M H0 f)):PI X tg l (tI K M H0 λρ=>(f ρ).bind i3):=(ip h).mono λr H s ⟨ρ,t,R,e,q⟩=>by
 try dsimp only at e q
 cases j:f ρ with
 |none=>rw[j]at e;cases e
 |some d=>
  rw[j]at e
  cases d with
  |str x=>
   cases e
   refine⟨ρ,.str x,R,j,λv m n k=>?_⟩
   simp only[Ek,AF]at k
   refine⟨x,k,q _ m n λN2 u S i=>⟨λd a=>?_,λa=>?_⟩⟩
   ·rw[C1]at a
    cases g:x.cps.toList[i]? with
    |none=>rw[g]at a;cases a
    |some c=>
     rw[g]at a;cases a
     have o:i<x.cps.size:=by
      have:=(List.getElem?_eq_some_iff.mp g).1
      simpa using this
     refine⟨o,λv w y=>?_⟩
     obtain⟨p,z,b,y⟩:=y
     subst p y
     rw[<- Array.getElem?_toList,g]at b;cases b
     exact⟨Ak.refl _,by simp only[AF]⟩
   ·have:i=x.cps.size:=by simpa using a
    exact Nat.le_of_eq this.symm
  |_=>cases e
def HL(lo:Int)(n:Nat):List D:=(Ba n).map (λ(k:Nat)=>D.int (lo+(k:Int)))
theorem QS{M N:Fb}{c:Hp}{lo:Int}{n:Nat}:J2 K M N c (K4 lo n) (HL lo n):=λN2 g S i=>by
 refine⟨λd a=>?_,λa=>?_⟩
 ·have b:i<n:=by
   have:=(List.getElem?_eq_some_iff.mp a).1
   simpa[HL]using this
  have e:d=D.int (lo+i):=by
   simp only[HL,C1,Ng b,II,Option.some.injEq]at a
   exact a.symm
  subst e
  refine⟨b,λx h y=>?_⟩
  obtain⟨f,y⟩:=y
  subst f y
  exact⟨Ak.refl _,by simp only[AF]⟩
 ·have:i=n:=by simpa[HL]using a
  exact Nat.le_of_eq this.symm
def gd{a:Type}(p:Prop)(o:Option a):Option a:=@ite _ p (HM p) o none
theorem Lv{a:Type}{p:Prop}{o:Option a}(h:p):gd p o=o:=by unfold gd;exact @if_pos _ (HM p) h _ _ _
theorem Nh{b:Type}{p:Prop}{o:Option b}{x:b}(h:gd p o=some x):p/\o=some x:=by
 by_cases a:p
 ·rw[Lv a]at h;exact⟨a,h⟩
 ·unfold gd at h
  rw[@if_neg _ (HM p) a]at h
  cases h
def Ev:List D->Option (List D)
 |[.int j]=>gd (-1000000000<=j/\j<1000000000) (some (HL 0 j.toNat))
 |_=>none
def HN:List D->Option (List D)
 |[.int i,.int j]=>gd (-1000000000<=i/\i<1000000000 /\ -1000000000<=j/\j<1000000000) (some (HL i (j-i).toNat))
 |_=>none
theorem HP{a:Expr}{b:VE->Option (List Sl)}{p:A5}(i:Gl X "range")(k:X.mg "range"=none)(c:JA X [a] (Dh K M H0 b))(m:AN [a] X.env=[(false,Ay a X.env)]:=by rfl):JI X tg (.Call (.Name "range" p) [a] [] pos) (tI K M H0 λρ=>((b ρ).bind Zt).bind Ev):=⟨have c:=c.h;(Vc i k c m).mono λx H y ⟨ρ,z,R,e,q⟩=>by
  try dsimp only at e q
  cases d:b ρ with
  |none=>rw[d]at e;cases e
  |some g=>
   rw[d]at e
   cases f:Zt g with
   |none=>simp only[AA,f]at e;cases e
   |some l=>
    simp only[AA,f]at e
    unfold Ev at e
    split at e
    ·next j=>
     obtain⟨A,e⟩:=Nh e
     cases e
     refine⟨ρ,g,R,d,λvs n o s=>?_⟩
     have hd:=JZ s f
     simp only[Ad,AF]at hd
     obtain⟨v,r,t,u,w⟩:=hd
     subst t u w
     exact⟨j,rfl,by omega,by omega,q _ n o QS⟩
    ·cases e⟩
theorem Wb{a b:Expr}{c:VE->Option (List Sl)}{p:A5}(n:Gl X "range")(o:X.mg "range"=none)(d:JA X [a,b] (Dh K M H0 c))(s:AN [a,b] X.env=[(false,Ay a X.env),(false,Ay b X.env)]:=by rfl)(f:AN [b] X.env=[(false,Ay b X.env)]:=by rfl):JI X tg (.Call (.Name "range" p) [a,b] [] pos) (tI K M H0 λρ=>((c ρ).bind Zt).bind HN):=⟨have d:=d.h;(f7 n o d s f).mono λC H E ⟨ρ,G,R,e,q⟩=>by
  try dsimp only at e q
  cases g:c ρ with
  |none=>rw[g]at e;cases e
  |some m=>
   rw[g]at e
   cases k:Zt m with
   |none=>simp only[AA,k]at e;cases e
   |some l=>
    simp only[AA,k]at e
    unfold HN at e
    split at e
    ·next i j=>
     obtain⟨I,e⟩:=Nh e
     cases e
     refine⟨ρ,m,R,g,λvs t u w=>?_⟩
     have hd:=JZ w k
     simp only[Ad,AF]at hd
     obtain⟨v,r,x,y,J,L,z,A,B⟩:=hd
     subst y A B z x
     exact⟨i,j,rfl,⟨by omega,by omega,by omega,by omega⟩,q _ t u QS⟩
    ·cases e⟩
end
def Ni(K:Ar)(M:Fb)(f:Hp)(ws:List Nat)(b:List D->VE->Option VE):G3:=λvs d H Q=>∃e g c,Bw K M f e d H/\Ad K (Nf M e d) H g vs/\b g e=some c/\∀a ,Bw K M f c a H->Step M (Nf M e d) (Nf M c a) H H->(∀j,j∉ws->a[j]?=d[j]?)->Q a H
@[simp] def BX:List D->VE->Option VE
  |[],a=>some a
  |_,_=>none
@[simp] def ZC(b:D->VE->Option VE)(c:List D->VE->Option VE):List D->VE->Option VE
  |d::r,a=>(b d a).bind (c r)
  |_,_=>none
@[simp] def BU(n:Nat)(b:List D->VE->Option VE):D->VE->Option VE
  |.tup a,c=>if a.length=n then b a c else none
  |_,_=>none
section
variable{X:Cx}{K:Ar}{M:Fb}{H0:Hp}{pos:A5}{e tg iter:Expr}{es:List Expr}{ws ws':List Nat}{b:D->VE->Option VE}{c:List D->VE->Option VE}
theorem Ew :JK X [] (Ni K M H0 [] BX):=⟨by
 intro a s b H vs c Q I r ⟨g,d,f,R,hd,e,q⟩
 cases d with
 |nil=>
  cases e
  simp only[Ad]at hd
  exact fP a s b H vs c Q I r ⟨hd,q b R Step.refl λ_ _=>rfl⟩
 |cons=>cases e⟩
theorem ZH(g:JG X e (tG K M H0 ws b))(i:JK X es (Ni K M H0 ws' c))(t:(Gc (e::es) X.env).map (·.2)=assign e X.env::(Gc es X.env).map (·.2):=by rfl):JK X (e::es) (Ni K M H0 (ws++ws') (ZC b c)):=⟨have g:=g.h;have i:=i.h;by
 intro a s u H vs w Q I r ⟨p,k,l,R,hd,e,q⟩
 cases k with
 |nil=>cases e
 |cons d k=>
  simp only[Ad]at hd
  obtain⟨v,x,y,z,A⟩:=hd
  subst y
  simp only[ZC]at e
  cases m:b d p with
  |none=>rw[m]at e;cases e
  |some f=>
   rw[m]at e
   refine fQ g i t a s u H _ w Q I r ⟨v,x,rfl,p,d,f,R,z,m,λB C S1 w1=>⟨f,k,l,C,Ad.step S1 _ _ A,e,λn R2 S2 w2=>q n R2 (S1.trans S2) λj o=>?_⟩⟩
   rw[List.mem_append,not_or]at o
   rw[w2 j o.2,w1 j o.1]⟩
theorem Ex{k n:Nat}(i:X.calm=true)(h:JK X es (Ni X.K M H0 ws c))(j:(Gc es X.env).length=n:=by rfl)(f:(Gc es X.env).findIdx? (·.1)=none:=by rfl):JG X (.Tuple es k pos) (tG X.K M H0 ws (BU n c)):=⟨have h:=h.h;by
 intro b s l H v u Q I r ⟨m,d,g,R,hd,e,q⟩
 cases d with
 |tup o=>
  simp only[BU]at e
  split at e
  ·next p=>
   simp only[AF]at hd
   obtain⟨a,vs,t,w,hd⟩:=hd
   exact fS i h j f b s l H v u Q I r ⟨a,vs,t,w,by rw[<- hd.length];exact p,m,o,g,R,hd,e,q⟩
  ·cases e
 |_=>cases e⟩
end
@[simp] def QT:Option Sl->Sl
  |some (.val d)=>.val d
  |some (.own a b)=>.lent a b
  |some (.lent a b)=>.lent a b
  |_=>.no
@[simp] def ZS(k:Nat)(a:List Nat)(ρ:VE):VE:=DF k .no++a.map λj=>QT ρ[j]?
def CV(b:D->VE->Option VE)(t:VE->Option Bool)(e:VE->Option D)(ρ:VE):List D->Option (List D)
 |[]=>some []
 |d::c=>match b d ρ with
  |none=>none
  |some a=>match t a with
   |some true=>Zb (e a) (CV b t e ρ c)
   |some false=>CV b t e ρ c
   |none=>none
@[simp] def ZL(k:Nat)(a:List Nat)(f:VE->Option (List D))(b:D->VE->Option VE)(t:VE->Option Bool)(e:VE->Option D):VE->Option (List D):=λc=>(Zn (f c)).bind (CV b t e (ZS k a c))
section
variable{X:Cx}{K:Ar}{M:Fb}{H0:Hp}{pos:A5}{tg elt iter:Expr}{ifs:List Expr}{scope:Scope}{ws:List Nat}{f:VE->Option (List D)}{b:D->VE->Option VE}{t:VE->Option Bool}{e:VE->Option D}{k:Nat}{oix:List Nat}
theorem Bw.comp{ρ:VE}{σ:St}{H:Hp}(R:Bw K M H0 ρ σ H)(k:Nat)(oix:List Nat):Bw K (Nf M ρ σ) H (ZS k oix ρ) (Eu k oix σ) H/\∀a,Nf (Nf M ρ σ) (ZS k oix ρ) (Eu k oix σ) a->Nf M ρ σ a:=by
 have b:∀(j:Nat) (c:List D) (e:Bool),(ZS k oix ρ)[j]?≠some (Sl.own c e):=λj c e h=>by
  unfold ZS at h
  rw[QU]at h
  split at h
  ·rw[ID]at h
   split at h<;>cases h
  ·rw[C1]at h
   cases g:oix[j-(DF k Sl.no).length]? with
   |none=>rw[g]at h;cases h
   |some o=>
    rw[g]at h
    simp only[II,Option.some.injEq]at h
    unfold QT at h
    split at h<;>cases h
 have nf:∀a,Nf (Nf M ρ σ) (ZS k oix ρ) (Eu k oix σ) a->Nf M ρ σ a:=λa h=>by
  rcases h with h|⟨j,c,e,h,_⟩
  ·exact h
  ·exact absurd h (b j c e)
 refine⟨⟨by simp[ZS,Eu],Ak.refl H,R.nh,λj s h=>?_,λi j c r e p a h=>absurd h (b i c e)⟩,nf⟩
 unfold ZS at h
 rw[QU]at h
 split at h
 ·rw[ID]at h
  split at h
  ·cases h;trivial
  ·cases h
 ·next m=>
  rw[C1]at h
  have n:(Eu k oix σ)[j]?=(oix[j-k]?).map λi=>(σ[i]?).join:=by
   unfold Eu
   rw[Qr (by simpa using m),C1]
   simp
  rw[n]
  simp only[JN]at h
  cases g:oix[j-k]? with
  |none=>rw[g]at h;cases h
  |some o=>
   rw[g]at h
   simp only[II,Option.some.injEq]at h
   simp only[II,Option.join_some]
   unfold QT at h
   split at h
   ·next d hd=>subst h;obtain⟨v,f,q⟩:=R.slot o _ hd;exact⟨v,f,q.nw λa l=>.inl (nf a l)⟩
   ·next c e hd=>
    subst h
    obtain⟨a,vs,f,z1,z2,z3,z4⟩:=R.slot o _ hd
    exact⟨a,vs,f,⟨.inr ⟨o,c,e,hd,AJ f⟩,λz=>by rw[z3]at z;cases z⟩,.inl z3,z4.nw λa l=>.inl (nf a l)⟩
   ·next c hd=>
    subst h
    obtain⟨a,vs,f,z1,z2,z3⟩:=R.slot o _ hd
    exact⟨a,vs,f,⟨.inl z1.1,R.mh a z1.1⟩,z2,z3.nw λa l=>.inl (nf a l)⟩
   ·subst h;trivial
def Wc(K:Ar)(ws:List Nat)(b:D->VE->Option VE):TG:=λv a H Q=>∃M H0,tG K M H0 ws b v a H Q
def Wd(K:Ar)(t:VE->Option Bool):TT:=λa H Q=>∃M H0,BI K M H0 t a H Q
def We(K:Ar)(e:VE->Option D):TE:=λa H Q=>∃M H0,tD K M H0 e a H Q
theorem Wf(hw:∀j∈ws,j<k){wi:TI}(hi:∀σ H R,tI K M H0 f σ H R->wi σ H R){σ:St}{H:Hp}{Q:VK}(h:tF K M H0 (ZL k oix f b t e) σ H Q):QE k oix wi (Wc K ws b) (Wd K t) (We K e) σ H Q:=by
 obtain⟨g,C,R,ex,q⟩:=h
 try dsimp only at ex q
 unfold ZL at ex
 cases u:Zn (f g)with
 |none=>rw[u]at ex;cases ex
 |some l=>
  rw[u]at ex
  obtain⟨u,hz⟩:=QP u
  have ex:CV b t e (ZS k oix g) l=some C:=ex
  refine hi _ _ _ ⟨g,l,R,u,λJ H1 s1 ok=>?_⟩
  refine⟨l.length,λi L E=>i<=l.length/\L.length<=i/\Ak H1 E/\∃c Z8,Ad K (Nf M g σ) E c L/\CV b t e (ZS k oix g) (l.drop i)=some Z8/\c++Z8=C,⟨Gj _,BD _,Ak.refl _,[],C,Ad.nil,ex,rfl⟩,?_⟩
  rintro i L E ⟨hle,hy,w,c,Z8,m,d,G⟩
  obtain⟨N,O⟩:=ok _ E (Step.of_same w) i
  by_cases n:i<l.length
  ·obtain⟨go,y⟩:=N l[i] (Cu n)
   rw[M4 n]at d
   simp only[CV]at d
   refine .inr ⟨go,n,by omega,λr T=>r.length<=i+1/\Ak H1 T/\∃c Z8,Ad K (Nf M g σ) T c r/\CV b t e (ZS k oix g) (l.drop (i+1))=some Z8/\c++Z8=C,λr T z=>⟨n,z⟩,λx I yl=>?_⟩
   obtain⟨A,hd⟩:=y x I yl
   have R3:=((R.st s1).st w).st A
   obtain⟨Rc,nf⟩:=R3.comp k oix
   cases U:b l[i] (ZS k oix g)with
   |none=>rw[U]at d;cases d
   |some o=>
    rw[U]at d
    simp only at d
    refine⟨Nf M g σ,I,ZS k oix g,l[i],o,Rc,hd.nw λa Y=>.inl (nf a Y),U,λσ4 R4 S4 w4=>⟨?_,?_⟩⟩
    ·apply HK
     intro j
     rw[MZ,MZ]
     exact w4 _ λhj=>absurd (hw _ hj) (by omega)
    ·cases ht:t o with
     |none=>rw[ht]at d;cases d
     |some bb=>
      rw[ht]at d
      refine⟨Nf M g σ,I,o,bb,R4,ht,λH5 B=>?_⟩
      cases bb with
      |true=>
       simp only at d
       obtain⟨yd,s,e1,e2,e3⟩:=M9 d
       refine IJ ?_
       refine⟨Nf M g σ,I,o,yd,R4.st B,e1,λv H6 s6 hv=>⟨?_,((w.trans A).trans B).trans s6,c++[yd],s,(m.same ((A.trans B).trans s6)).append (Ad.cons (hv.nw λa Y=>.inl (.inl Y)) Ad.nil),e2,?_⟩⟩
       ·simp only[Ge,Qy];omega
       ·subst e3;rw[<- G];simp
      |false=>
       refine IK ?_
       exact⟨by omega,(w.trans A).trans B,c,Z8,m.same (A.trans B),d,G⟩
  ·have ei:i=l.length:=by omega
   rw[M0 (by omega)]at d
   cases d
   rw[Fp]at G
   subst G
   exact .inl ⟨O ei,by omega,λp hp=>Lp (s1.trans w) hp m q⟩
theorem PG.all{Y:Cx}(h:∀M H0,PG Y tg (tG K M H0 ws b)):PG Y tg (Wc K ws b):=λa s c H v u Q I r ⟨M,H0,z⟩=>h M H0 a s c H v u Q I r z
theorem Fs.all{Y:Cx}(h:∀M H0,Fs Y ifs (BI K M H0 t)):Fs Y ifs (Wd K t):=λa s b H Q I ⟨M,H0,z⟩=>h M H0 a s b H Q I z
theorem PE.all{Y:Cx}(h:∀M H0,PE Y elt (tD K M H0 e)):PE Y elt (We K e):=λa s b H Q I ⟨M,H0,z⟩=>h M H0 a s b H Q I z
theorem Z1{Y:Cx}:JF Y [] (BI K M H0 λ_=>some true):=⟨λa s c H Q I ⟨d,b,R,e,q⟩=>ig a s c H Q I (by cases e;exact q H (Ak.refl H))⟩
theorem QV{Y:Cx}{c:Expr}(h:JT Y c (BI K M H0 t)):JF Y [c] (BI K M H0 t):=⟨have h:=h.h;ii h⟩
theorem ja(own c:List Ae)(oix:List Nat)(S:Ha own c scope X.env.scope)(k:oix.map (λj=>X.N[j]?)=c.map some)(l:X.calm=true)(m:PI X tg iter (tI K M H0 f))
  (n:∀C d g h a i H',PG (Dg X own c scope C d g h a) tg (tG K i H' ws b))
  (o:∀C d g h a i H',Fs (Dg X own c scope C d g h a) ifs (BI K i H' t))
  (p:∀C d g h a i H',PE (Dg X own c scope C d g h a) elt (tD K i H' e)) (q:∀j∈ws,j<own.length)
  (r:∀x,HF iter X.env x=AK x:=by intro _;rfl):
  PE X (.ListComp elt [⟨tg,iter,ifs,0⟩] scope pos) (tF K M H0 (ZL own.length oix f b t e)):=
 (ij own c oix S k l m (λC d g h a=>PG.all (n C d g h a)) (λC d g h a=>Fs.all (o C d g h a)) (λC d g h a=>PE.all (p C d g h a)) r).mono
  λ_ _ _ z=>Wf q (λ_ _ _ z=>z) z
theorem ZX(own c:List Ae)(oix:List Nat)(S:Ha own c scope X.env.scope)(l:oix.map (λj=>X.N[j]?)=c.map some)(m:X.calm=true)(n:JI X tg iter (tI K M H0 f))(o:∀C d g i a k H',JG (Dg X own c scope C d g i a) tg (tG K k H' ws b))(p:∀C d g i a k H',JF (Dg X own c scope C d g i a) ifs (BI K k H' t))(q:∀C d g i a k H',JE (Dg X own c scope C d g i a) elt (tD K k H' e))(r:∀j∈ws,j<own.length)(s:∀x,HF iter X.env x=AK x:=by intro _;rfl):JE X (.ListComp elt [⟨tg,iter,ifs,0⟩] scope pos) (tF K M H0 (ZL own.length oix f b t e)):=⟨ja own c oix S l m n.h (λC d g i a k H'=>(o C d g i a k H').h) (λC d g i a k H'=>(p C d g i a k H').h) (λC d g i a k H'=>(q C d g i a k H').h) r s⟩
theorem jb(own g:List Ae)(oix:List Nat){i:Nat}{x:Ae}{m n:A5}(S:Ha own g scope X.env.scope)(r:oix.map (λj=>X.N[j]?)=g.map some)(A:X.calm=true)
  (B:X.N.Nodup) (u:X.N[i]?=some x) (E:X.env.scope.names.lookup x=some .local) (G:PI X tg iter (tI K M H0 f))
  (I:∀C h k l c o H',PG (Dg X own g scope C h k l c) tg (tG K o H' ws b))
  (J:∀C h k l c o H',Fs (Dg X own g scope C h k l c) ifs (BI K o H' t))
  (L:∀C h k l c o H',PE (Dg X own g scope C h k l c) elt (tD K o H' e)) (O:∀j∈ws,j<own.length)
  (v:E6 (.ListComp elt [⟨tg,iter,ifs,0⟩] scope pos) (some (.Name x m)) n.line X.env=AK true:=by rfl)
  (Q:∀x,HF iter X.env x=AK x:=by intro _;rfl):
  PS X (.Assign [.Name x m] (.ListComp elt [⟨tg,iter,ifs,0⟩] scope pos) n) (tS K M H0 λρ=>Zx i (ZA (ZL own.length oix f b t e ρ)) ρ):=
 (ik own g oix S r A B u E G (λC h k l c=>PG.all (I C h k l c)) (λC h k l c=>Fs.all (J C h k l c)) (λC h k l c=>PE.all (L C h k l c)) v Q).mono
  λT y H z=>by
   have U:tD K M H0 (λρ=>ZA (ZL own.length oix f b t e ρ)) y H (λx Y=>Iz i x y Y T.nx):=V9 z
   obtain⟨ρ,d,R,p,q⟩:=U
   try dsimp only at p q
   cases w:ZL own.length oix f b t e ρ with
   |none=>rw[w]at p;cases p
   |some xs=>
    rw[w]at p;cases p
    refine Wf O (λ_ _ _ z=>z) ⟨ρ,xs,R,w,λa vs H' s z1 z2 z3=>q _ _ s ?_⟩
    simp only[AF]
    exact⟨a,vs,rfl,.of (R.fresh z1) z2,z3.nw λb hb=>.inl (.inl hb)⟩
theorem Lw(own c:List Ae)(oix:List Nat){i:Nat}{x:Ae}{m n:A5}(S:Ha own c scope X.env.scope)(o:oix.map (λj=>X.N[j]?)=c.map some)(r:X.calm=true)(s:X.N.Nodup)(p:X.N[i]?=some x)(u:X.env.scope.names.lookup x=some .local)(v:JI X tg iter (tI K M H0 f))(w:∀C d g k a l H',JG (Dg X own c scope C d g k a) tg (tG K l H' ws b))(y:∀C d g k a l H',JF (Dg X own c scope C d g k a) ifs (BI K l H' t))(z:∀C d g k a l H',JE (Dg X own c scope C d g k a) elt (tD K l H' e))(A:∀j∈ws,j<own.length)(q:E6 (.ListComp elt [⟨tg,iter,ifs,0⟩] scope pos) (some (.Name x m)) n.line X.env=AK true:=by rfl)(B:∀x,HF iter X.env x=AK x:=by intro _;rfl):JS X (.Assign [.Name x m] (.ListComp elt [⟨tg,iter,ifs,0⟩] scope pos) n) (tS K M H0 λρ=>Zx i (ZA (ZL own.length oix f b t e ρ)) ρ):=⟨jb own c oix S o r s p u v.h (λC d g k a l H'=>(w C d g k a l H').h) (λC d g k a l H'=>(y C d g k a l H').h) (λC d g k a l H'=>(z C d g k a l H').h) A q B⟩
end
def Bn(a n:Nat)(g:VE->Ao):List Sl->Option Rv:=λb=>if b.length=a then
  match g (b++DF (n-a) .no)with
  |.ret r=>some r
  |.next _=>some (.val .non)
  |_=>none
 else none
theorem Wg{K:Ar}{N:Fb}{H:Hp}{k:List Sl}{vs:List V}(m:∀a,N a->H a≠none)(h:Bc K N H k vs)(n:Nat):Bw K N H (k++DF n .no) (vs.map some++DF n none) H:=by
 have o:=h.length
 have b:∀(j:Nat) (f:List D) (g:Bool),(k++DF n Sl.no)[j]?≠some (Sl.own f g):=λj f g e=>by
  rw[QU]at e
  split at e
  ·obtain⟨v,_,q⟩:=h.get e;exact q
  ·rw[ID]at e
   split at e<;>cases e
 have nf:∀a,Nf N (k++DF n Sl.no) (vs.map some++DF n none) a->N a:=λa z=>by
  rcases z with z|⟨j,f,g,z,_⟩
  ·exact z
  ·exact absurd z (b j f g)
 refine⟨by simp[o],Ak.refl H,m,λj s e=>?_,λi j f x g p a z=>absurd z (b i f g)⟩
 rw[QU]at e
 split at e
 ·next r=>
  obtain⟨v,t,q⟩:=h.get e
  rw[Lc (by simpa[<- o]using r),C1,t]
  cases s with
  |val d=>exact⟨v,rfl,AF.nw q λa l=>.inl (nf a l)⟩
  |lent f g=>obtain⟨a,u,w,z1,z2,z3⟩:=q;exact⟨a,u,by rw[w];rfl,⟨z1,m a z1⟩,z2,z3.nw λa l=>.inl (nf a l)⟩
  |no=>trivial
  |own f g=>exact BB q
  |exc c=>exact BB q
  |pin a=>exact BB q
 ·rw[ID]at e
  split at e
  ·cases e;trivial
  ·cases e
theorem jc{P:AY}{w:Ai}{K:Ar}{mg:Ae->Option Aa}{base:Am}{x b:Ae}{st:Au}{f:Ac}{fd:Bi}{N ps:List Ae}{k:Nat}{g:VE->Ao}(F:IH K x b st f fd)(S:ZE N ps (Zm st))(p:ps.length<=N.length)
  (t:∀(c:Aa) (A:Aj) (outer:List Env) (s:Ab) (H:Hp) (E:XK) (M:Fb) (u:Hp),Bd k (A.deeper (envOfC b (Zm st) s.heap.objs.size f c)) ->
   Es (Gd Bh P w K mg base N b (Zm st) f c A outer s H E).nox (FQ st) (tS K M u g)):Ax P w K mg base Bh (k+1) f fd ps (Bu K (Bn ps.length N.length g)):=by
 refine F.ok S (λvs H Q E h=>?_) (λc A outer s H vs Q E y h=>?_)
 ·obtain⟨m,n,r,o,i,a,q⟩:=h
  unfold Bn at a
  split at a
  ·next j=>rw[<- i.length];exact j
  ·cases a
 ·obtain⟨m,n,r,o,i,a,q⟩:=h
  refine⟨_,t c A outer s H E m H y,?_⟩
  unfold Bn at a
  split at a
  ·next j=>
   have z:FP N vs=vs.map some++DF (N.length-ps.length) none:=by unfold FP;rw[<- i.length,j]
   rw[z]
   refine⟨_,Wg o i (N.length-ps.length),?_⟩
   cases d:g (n++DF (N.length-ps.length) .no)with
   |fail=>rw[d]at a;cases a
   |next e=>rw[d]at a;cases a;exact λB l C I=>q .non l C.same (by simp only[IQ,AF])
   |brk e=>rw[d]at a;cases a
   |cont e=>rw[d]at a;cases a
   |ret J=>rw[d]at a;cases a;exact λv l s G=>q v l s G
  ·cases a
theorem jd{P:AY}{w:Ai}{K:Ar}{mg:Ae->Option Aa}{base:Am}{x a:Ae}{st:Au}{f:Ac}{fd:Bi}{N ps:List Ae}{k:Nat}{g:VE->Ao}(F:IH K x a st f fd)(S:ZE N ps (Zm st))(c:ps.length<=N.length)
  (e:∀(b:Aa) (A:Aj) (outer:List Env) (s:Ab) (H:Hp) (E:XK) (M:Fb) (d:Hp),Bd k (A.deeper (envOfC a (Zm st) s.heap.objs.size f b)) ->
   JB (Gd Bh P w K mg base N a (Zm st) f b A outer s H E).nox (FQ st) (tS K M d g)):Ax P w K mg base Bh (k+1) f fd ps (Bu K (Bn ps.length N.length g)):=
 jc F S c λb A outer s H E M d i=>(e b A outer s H E M d i).h
theorem je{P:AY}{w:Ai}{K:Ar}{mg:Ae->Option Aa}{base:Am}{k:Nat}{f:Ac}{fd:Bi}{F:List Sl->Option Rv}(G:Ax P w K mg base Bh k f fd ["_law_script"] (Bu K F))
  (h:∀b:List Int,b.length<=63->F [.val (.lst (b.map D.int))]=some (.val (.bl true))):Ax P w K mg base Bh k f fd ["_law_script"] (Lj K):=
 G.imp λvs H Q E ⟨a,b,e,d,g,q⟩=>by
  refine⟨λ_=>False,[.val (.lst (b.map D.int))],.val (.bl true),λ_ z=>z.elim,⟨_,[],e,?_,rfl⟩,h b g,λv i s c=>?_⟩
  ·simp only[CB,AF]
   exact⟨a,_,rfl,.of_sq d,Ad.ints b⟩
  ·simp only[IQ,AF]at c
   subst c;exact q i
section
variable{K:Ar}
@[simp] def i2(g:Int->Int->Option D):D->D->Option D
  |.int i,.int j=>g i j
  |_,_=>none
theorem QW{g:Int->Int->Option D}{x y d:D}(h:i2 g x y=some d):∃i j,x=.int i/\y=.int j/\g i j=some d:=by
 unfold i2 at h
 split at h
 ·exact⟨_,_,rfl,rfl,h⟩
 ·cases h
theorem AI.int{N:Fb}{H:Hp}{i:Int}{v:V}(h:AI K N H (.int i) v):v=.int i:=by simpa only[AI,AF]using h
theorem AI.str{N:Fb}{H:Hp}{i:Ae}{v:V}(h:AI K N H (.str i) v):v=.str i:=by simpa only[AI,AF]using h
theorem AI.bl{N:Fb}{H:Hp}{i:Bool}{v:V}(h:AI K N H (.bl i) v):v=.bl i:=by simpa only[AI,AF]using h
theorem AI.non{N:Fb}{H:Hp}{v:V}(h:AI K N H .non v):v=.non:=by simpa only[AI,AF]using h
theorem AI.ty{N:Fb}{H:Hp}{i:String}{v:V}(h:AI K N H (.ty i) v):v=.ty i:=by simpa only[AI,AF]using h
theorem AI.tup{N:Fb}{H:Hp}{xs:List D}{v:V}(h:AI K N H (.tup xs) v):∃a vs,v=.ref a/\B0 K H a vs/\Ad K N H xs vs:=by simpa only[AI,AF]using h
theorem EZ{N:Fb}{H:Hp}{i:Int}:AF K N H (.int i) (.int i):=by simp only[AF]
theorem Fa{N:Fb}{H:Hp}{i:Bool}:AF K N H (.bl i) (.bl i):=by simp only[AF]
theorem Lx{N:Fb}{H:Hp}{i:Ae}:AF K N H (.str i) (.str i):=by simp only[AF]
theorem jf(g:Int->Int->Int):C5 K (GK λi j=>.int (g i j)) (i2 λi j=>some (.int (g i j))):=by
 intro N H x y d1 d2 d Q c a b e q
 obtain⟨i,j,rfl,rfl,e⟩:=QW e
 cases e
 exact⟨i,j,a.int,b.int,q _ H (Ak.refl H) EZ⟩
theorem Nj(g:Int->Int->Bool):C5 K (GK λi j=>.bl (g i j)) (i2 λi j=>some (.bl (g i j))):=by
 intro N H x y d1 d2 d Q c a b e q
 obtain⟨i,j,rfl,rfl,e⟩:=QW e
 cases e
 exact⟨i,j,a.int,b.int,q _ H (Ak.refl H) Fa⟩
theorem Ly{C:Int->Int->Prop}[∀i j,Decidable (C i j)](g:Int->Int->Int):C5 K (rI C λi j=>.int (g i j)) (i2 λi j=>if C i j then some (.int (g i j))else none):=by
 intro N H x y d1 d2 d Q h b c e q
 obtain⟨i,j,rfl,rfl,a⟩:=QW e
 split at a
 ·next f=>cases a;exact⟨i,j,b.int,c.int,f,q _ H (Ak.refl H) EZ⟩
 ·cases a
instance (i j:Int):Decidable (DR i j):=by unfold DR;exact inferInstance
instance (i j:Int):Decidable (C3 i j):=by unfold C3;exact inferInstance
instance (i j:Int):Decidable (E7 i j):=by unfold E7;exact inferInstance
@[simp] def Hf:D->D->Option D:=i2 λi j=>some (.int (i-j))
@[simp] def Ey:D->D->Option D:=i2 λi j=>if C3 i j then some (.int (i*j))else none
@[simp] def Dt:D->D->Option D:=i2 λi j=>if DR i j then some (.int (i/j))else none
@[simp] def ZW:D->D->Option D:=i2 λi j=>if 0<j then some (.int (i%j))else none
@[simp] def Ez:D->D->Option D:=i2 λi j=>if E7 i j then some (.int (i^j.toNat))else none
@[simp] def Wh:D->D->Option D:=i2 λi j=>some (.bl (decide (i<=j)))
@[simp] def HQ:D->D->Option D:=i2 λi j=>some (.bl (decide (j<i)))
@[simp] def QX:D->D->Option D:=i2 λi j=>some (.bl (decide (j<=i)))
section
variable{X:Cx}{M:Fb}{H0:Hp}{a b:Expr}{f g:VE->Option D}{pos:A5}
theorem Lz(c:JE X a (tP K M H0 f))(d:JE X b (tP K M H0 g)):JE X (.BinOp a .Sub b pos) (tD K M H0 (Ze Hf f g)):=⟨have c:=c.h;have d:=d.h;IM ge (jf _) c d⟩
theorem Fu(c:JE X a (tP K M H0 f))(d:JE X b (tP K M H0 g)):JE X (.BinOp a .Mult b pos) (tD K M H0 (Ze Ey f g)):=⟨have c:=c.h;have d:=d.h;IM gf (Ly _) c d⟩
theorem El(c:JE X a (tP K M H0 f))(d:JE X b (tP K M H0 g)):JE X (.BinOp a .FloorDiv b pos) (tD K M H0 (Ze Dt f g)):=⟨have c:=c.h;have d:=d.h;IM gg (Ly _) c d⟩
theorem ZF(c:JE X a (tP K M H0 f))(d:JE X b (tP K M H0 g)):JE X (.BinOp a .Mod b pos) (tD K M H0 (Ze ZW f g)):=⟨have c:=c.h;have d:=d.h;IM gh (Ly _) c d⟩
theorem IR(c:JE X a (tP K M H0 f))(d:JE X b (tP K M H0 g)):JE X (.BinOp a .Pow b pos) (tD K M H0 (Ze Ez f g)):=⟨have c:=c.h;have d:=d.h;IM gi (Ly _) c d⟩
@[simp] def LB:Option D->Option D
  |some (.int i)=>some (.int (-i))
  |_=>none
theorem Wi(b:JE X a (tP K M H0 f)):JE X (.UnaryOp .USub a pos) (tD K M H0 λρ=>LB (f ρ)):=⟨have b:=b.h;(gc gl b).mono λk H Q ⟨ρ,d,R,e,q⟩=>by
 try dsimp only at e q
 unfold LB at e
 split at e
 ·next i c=>cases e;exact⟨ρ,.int i,R,c,λv g s j=>⟨i,j.int,q _ g s EZ⟩⟩
 ·cases e⟩
end
end
section
variable{X:Cx}
def Wj(K:Ar):R2:=λx y H Q=>∃l b a c,x=.ref l/\y=.ref b/\BH K H l a/\BH K H b c/\a.length+c.length<=AG/\∀p,H p=none->Q (.ref p) (AU H p (.lst (a++c)))
theorem Hg:B5 X (FO .Add) (Wj X.K):=by
 intro k s M H x y v u Q I w z h
 obtain⟨l,b,N,O,rfl,rfl,A,B,T,q⟩:=h
 cases w
 cases z
 obtain⟨c,r,C,z1⟩:=I.list A
 obtain⟨a,m,E,z2⟩:=I.list B
 have U:=r.length
 have G:=m.length
 obtain⟨⟨cls,J,data,L⟩,o,p,n,hd⟩:=C.isList
 obtain⟨⟨t,i,data2,j⟩,d,f,n2,g⟩:=E.isList
 simp only at p hd f g
 subst p hd f g
 have e:c.toArray++a.toArray=(c++a).toArray:=by simp
 refine concat_meets ⟨_,o,rfl⟩ ⟨_,d,rfl⟩ noFill_list_add seq_list_add PySem.F.slot_list_add PySem.F.entry_list_add (PySem.F.args_list_add_2 _ _) (list_addW l b c.toArray a.toArray n n2 J i L j (by rw[BR,BR];omega)) ⟨o,d,?_⟩
 rw[e]
 exact⟨.ref _,_,I.lnew (t':=s.toks) (r.append m) (by rw[Ge];omega),rfl,q _ I.fresh⟩
def Wk(K:Ar):R2:=λx y H Q=>∃l b a c,x=.ref l/\y=.ref b/\B0 K H l a/\B0 K H b c/\a.length+c.length<=AG /\
 (a=[]->Q (.ref b) H)/\(c=[]->Q (.ref l) H)/\∀p,H p=none->Q (.ref p) (AU H p (.tup (a++c)))
theorem jg:B5 X (FO .Add) (Wk X.K):=by
 intro C s σ H x y v u Q I O T h
 obtain⟨l,b,E,G,rfl,rfl,U,Y,hz,qx,qz,q⟩:=h
 cases O
 cases T
 obtain⟨c,r,p1,z1⟩:=I.tuple U
 obtain⟨a,J,p2,z2⟩:=I.tuple Y
 have L:=r.length
 have k:=J.length
 obtain⟨⟨cls,t,data,w⟩,j,M,n,hd⟩:=id p1
 obtain⟨⟨N,f,data2,g⟩,d,m,n2,o⟩:=id p2
 simp only at M hd m o
 subst M hd m o
 by_cases A:E=[]
 ·have p:c.toArray.isEmpty=true:=by
   subst A
   have:c=[]:=List.length_eq_zero_iff.mp L.symm
   subst this;rfl
  exact concat_meets ⟨_,j,rfl⟩ ⟨_,d,rfl⟩ noFill_tuple_add seq_tuple_add PySem.F.slot_tuple_add Wl (Wm _ _) (tuple_addW0 l b c.toArray a.toArray n n2 t f w g p) ⟨j,d,⟨.ref b,H,I,rfl,qx A⟩⟩
 ·have p:¬ c.toArray.isEmpty=true:=by
   intro z
   have:c=[]:=by simpa using z
   subst this
   exact A (List.length_eq_zero_iff.mp L)
  by_cases B:G=[]
  ·have i:a.toArray.isEmpty=true:=by
    subst B
    have:a=[]:=List.length_eq_zero_iff.mp k.symm
    subst this;rfl
   exact concat_meets ⟨_,j,rfl⟩ ⟨_,d,rfl⟩ noFill_tuple_add seq_tuple_add PySem.F.slot_tuple_add Wl (Wm _ _) (tuple_addW1 l b c.toArray a.toArray n n2 t f w g p i) ⟨j,d,⟨.ref l,H,I,rfl,qz B⟩⟩
  ·have i:¬ a.toArray.isEmpty=true:=by
    intro z
    have:a=[]:=by simpa using z
    subst this
    exact B (List.length_eq_zero_iff.mp k)
   have e:c.toArray++a.toArray=(c++a).toArray:=by simp
   refine concat_meets ⟨_,j,rfl⟩ ⟨_,d,rfl⟩ noFill_tuple_add seq_tuple_add PySem.F.slot_tuple_add Wl (Wm _ _) (tuple_addW2 l b c.toArray a.toArray n n2 t f w g p i (by rw[BR,BR];omega)) ⟨j,d,?_⟩
   rw[e]
   refine⟨.ref s.heap.objs.size,AU H s.heap.objs.size (.tup (E++G)),I.laid (t':=s.toks) (λb u e=>Bj _ e) (BD _) ?_,rfl,q _ I.fresh⟩
   exact⟨by rw[Ge];omega,c++a,r.append J,IsTup.new _ _⟩
end
@[simp] def ZJ:D->D->Option D
  |.int i,.int j=>some (.int (i+j))
  |.str x,.str y=>if x.length+y.length<=AG then some (.str (x++y))else none
  |.lst a,.lst b=>if a.length+b.length<=AG then some (.lst (a++b))else none
  |.tup a,.tup b=>if a.length+b.length<=AG then some (.tup (a++b))else none
  |_,_=>none
def Wn(K:Ar):R2:=λx y H Q=>GK (λi j=>.int (i+j)) x y H Q\/(∃i j,x=.str i/\y=.str j/\i.length+j.length<=AG/\Q (.str (i++j)) H)\/Wj K x y H Q\/Wk K x y H Q
theorem jh{X:Cx}:B5 X (FO .Add) (Wn X.K):=IB.or (EL.or (Hg.or jg))
theorem Wo{K:Ar}{N:Fb}{H:Hp}{xs:List D}{vs:List V}{p:Ac}(c:∀a,N a->H a≠none)(b:H p=none)(h:Ad K N H xs vs):AF K N (AU H p (.lst vs)) (.lst xs) (.ref p):=by
 simp only[AF]
 exact⟨p,vs,rfl,.of (λz=>c p z b) Z7,h.same (FU b)⟩
theorem J3{K:Ar}{N:Fb}{H:Hp}{xs:List D}{vs:List V}{p:Ac}(a:H p=none)(h:Ad K N H xs vs):AF K N (AU H p (.tup vs)) (.tup xs) (.ref p):=by
 simp only[AF]
 exact⟨p,vs,rfl,B0.of Z7,h.same (FU a)⟩
theorem ji{K:Ar}:C5 K (Wn K) ZJ:=by
 intro N H x y d1 d2 d Q n j k e q
 unfold ZJ at e
 split at e
 ·cases e;exact .inl ⟨_,_,j.int,k.int,q _ H (Ak.refl H) EZ⟩
 ·split at e
  ·next g=>cases e;exact .inr (.inl ⟨_,_,j.str,k.str,g,q _ H (Ak.refl H) Lx⟩)
  ·cases e
 ·split at e
  ·next g=>
   cases e
   obtain⟨a,vs,l,q1,c⟩:=j
   obtain⟨b,h,m,q2,f⟩:=k
   exact .inr (.inr (.inl ⟨a,b,vs,h,l,m,q1,q2,by rw[<- c.length,<- f.length];exact g,λp i=>q _ _ (FU i) (Wo n i (c.append f))⟩))
  ·cases e
 ·split at e
  ·next g=>
   cases e
   obtain⟨a,vs,l,q1,c⟩:=j.tup
   obtain⟨b,h,m,q2,f⟩:=k.tup
   refine .inr (.inr (.inr ⟨a,b,vs,h,l,m,q1,q2,by rw[<- c.length,<- f.length];exact g,λz=>?_,λz=>?_,λp i=>q _ _ (FU i) (J3 i (c.append f))⟩))
   ·refine q _ H (Ak.refl H) ?_
    simp only[AF]
    exact⟨b,vs++h,rfl,by rw[z];exact q2,c.append f⟩
   ·refine q _ H (Ak.refl H) ?_
    simp only[AF]
    exact⟨a,vs++h,rfl,by rw[z,Fp];exact q1,c.append f⟩
  ·cases e
 ·cases e
theorem ZI{X:Cx}{M:Fb}{c:Hp}{a b:Expr}{f g:VE->Option D}{pos:A5}(d:JE X a (tP X.K M c f))(e:JE X b (tP X.K M c g)):JE X (.BinOp a .Add b pos) (tD X.K M c (Ze ZJ f g)):=⟨have d:=d.h;have e:=e.h;IM jh ji d e⟩
section
variable{prog:AY}{w:Ai}{A:Aj}{E:Aa->Ab->Prop}{s:Ab}
theorem jj{t e:Ac}{a:Array Aa}{j k:Aa}{lo d:Option Int}{Q:Aa->Ab->Prop}(b:IsTup s.heap t a)(l:s.heap.IsSliceOf e j k .none)(o:IsPart j lo)(p:IsPart k d)
  (m:HT.sIx a.size 0 lo=0/\HT.sIx a.size a.size d=a.size) (h:Q (.ref t) s):wpAny (Af prog w) A (getItem (.ref t) (.ref e)) Q E s:=by
 obtain⟨os,f,g,q⟩:=id l
 have i:s.TypeIs (.ref e) "slice":=⟨os,f,g⟩
 unfold getItem
 try with_reducible refine Eh ?_
 first|refine Ag (AE ?_)|skip
 refine Ag (wpAny_sequenceKey b.typeIs (by decide) ?_)
 refine Ag (Gf (name:=DT "__getitem__") b.typeIs Qu
  (Fq Qu b.typeIs entry_tuple_getitem ?_ (args_tuple_getitem _ _)))
 show wpAny _ _ (Builtin.Tuple.tupleItemsOf (.ref t) >>= _) _ _ s
 refine Ag (PyProof.Rows.tupleItemsOf_ b ?_)
 refine Ag (IE i ?_)
 rw[if_pos (by decide)]
 refine Ag (HT.sliceApplied_gen l o p ?_)
 have c:(((HT.sIx a.size 0 lo:Nat):Int)==0&&(1:Int)==1&&(HT.sIx a.size a.size d-HT.sIx a.size 0 lo)==a.size)=true:=by
  rw[m.1,m.2];simp
 show wpAny _ _ (if(((HT.sIx a.size 0 lo:Nat):Int)==0&&(1:Int)==1&&(HT.sIx a.size a.size d-HT.sIx a.size 0 lo)==a.size)=true then _ else _) _ _ s
 rw[if_pos c]
 unfold Builtin.Tuple.tupleIsExact
 refine Ag (Ag (IE b.typeIs (AE ?_)))
 rw[if_pos (by decide)]
 exact Ag (FY (AE ⟨_,rfl,AE h⟩))
end
def jk(K:Ar):V->Option Int->Option Int->Hp->VK->Prop:=λx lo c H Q=>∃a b,x=.ref a/\B0 K H a b/\(Gh b lo c=b->Q (.ref a) H)/\∀p,H p=none->Q (.ref p) (AU H p (.tup (Gh b lo c)))
theorem Hh{X:Cx}:G5 X (jk X.K):=by
 intro c s o H x v p t lo g u Q I i j k l h
 obtain⟨a,b,rfl,m,w,q⟩:=h
 by_cases e:HT.sIx b.length 0 lo=0/\HT.sIx b.length b.length g=b.length
 ·cases i
  obtain⟨f,r,n,y⟩:=I.tuple m
  have d:f.toArray.size=b.length:=by rw[BR];exact r.length.symm
  refine⟨"tuple",_,PyProof.Rows.slot_tuple_getitem.lookup,n.typeIs,jj n j k l (by rw[d];exact e) ⟨.ref a,H,I,rfl,w ?_⟩⟩
  unfold Gh
  rw[e.1,e.2,List.drop_zero,Nat.sub_zero,List.take_length]
 ·exact gS c s o H _ v p t lo g u Q I i j k l ⟨a,b,rfl,m,e,q⟩
@[simp] def Aw:D->D->Option D
  |.lst a,.int i=>atI a i
  |.tup a,.int i=>atI a i
  |.str x,.int i=>if x.length<=AG then(atI x.cps.toList i).map λc=>.str ⟨#[c]⟩else none
  |_,_=>none
theorem Ad.atI{K:Ar}{N:Fb}{H:Hp}{xs:List D}{vs:List V}{i:Int}{d:D}(h:Ad K N H xs vs)(e:L2.atI xs i=some d):∃v,L2.atI vs i=some v/\AF K N H d v:=by
 unfold L2.atI at e ⊢
 rw[<- h.length]
 cases a:DU xs.length i with
 |none=>rw[a]at e;cases e
 |some j=>rw[a]at e;exact h.get e
theorem jl{K:Ar}:C5 K (VN K) Aw:=by
 intro N H x y d1 d2 d Q n b f e q
 unfold Aw at e
 split at e
 ·obtain⟨a,vs,g,q1,h⟩:=b
  obtain⟨v,j,k⟩:=h.atI e
  exact .inl ⟨a,vs,_,v,g,f.int,q1,j,q v H (Ak.refl H) k⟩
 ·obtain⟨a,vs,g,q1,h⟩:=b.tup
  obtain⟨v,j,k⟩:=h.atI e
  exact .inr (.inl ⟨a,vs,_,v,g,f.int,q1,j,q v H (Ak.refl H) k⟩)
 ·split at e
  ·next z i m=>
   cases l:atI z.cps.toList i with
   |none=>rw[l]at e;cases e
   |some c=>rw[l]at e;cases e;exact .inr (.inr ⟨z,i,c,b.str,f.int,m,l,q _ H (Ak.refl H) Lx⟩)
  ·cases e
 ·cases e
section
variable{X:Cx}{K:Ar}{M:Fb}{H0:Hp}{a b e:Expr}{f g:VE->Option D}{pos p2:A5}
theorem jm(c:JE X a (tP X.K M H0 f))(d:JE X b (tP X.K M H0 g))(e:JP b):JE X (.Subscript a b pos) (tD X.K M H0 (Ze Aw f g)):=⟨have c:=c.h;have d:=d.h;VZ VO jl c d e⟩
def tO(K:Ar)(M:Fb)(H0:Hp)(o:VE->Option (Option Int)):TO:=λc H Q=>∃a i,Bw K M H0 a c H/\o a=some i/\∀b,Ak H b->Q i b
@[simp] def Cb:Option D->Option (Option Int)
  |some (.int i)=>some (some i)
  |_=>none
theorem PO.mono{e:Option Expr}{t t':TO}(h:PO X e t)(m:∀σ H Q,t' σ H Q->t σ H Q):PO X e t':=by
 intro a s σ H Q I q
 exact h a s σ H Q I (m σ H Q q)
theorem IS :JO X none (tO K M H0 λ_=>some none):=⟨PO.mono gN λa H Q ⟨b,i,R,e,q⟩=>by(try dsimp only at e q);cases e;exact q H (Ak.refl H)⟩
theorem Gn(h:JE X e (tP K M H0 f)):JO X (some e) (tO K M H0 λρ=>Cb (f ρ)):=⟨have h:=h.h;PO.mono (gO h) λd H Q ⟨ρ,i,R,e,q⟩=>by
 try dsimp only at e q
 unfold Cb at e
 split at e
 ·next j a=>cases e;exact⟨ρ,.int j,R,a,λv b s c=>⟨j,c.int,q b s⟩⟩
 ·cases e⟩
def Em{a:Type}(xs:List a)(lo b:Option Int):List a:=(xs.drop (HT.sIx xs.length 0 lo)).take (HT.sIx xs.length xs.length b-HT.sIx xs.length 0 lo)
@[simp] def E1(x:D)(lo a:Option Int):Option D:=match x with
  |.lst b=>some (.lst (Em b lo a))
  |.tup b=>some (.tup (Em b lo a))
  |.str x=>if x.length<=AG then some (.str (DG x lo a))else none
  |_=>none
@[simp] def ry(x:D)(lo a:Option Int):Option (List D):=match x with
  |.lst b=>some (Em b lo a)
  |_=>none
theorem Ad.cut{K:Ar}{N:Fb}{H:Hp}{xs:List D}{vs:List V}(h:Ad K N H xs vs)(lo a:Option Int):Ad K N H (Em xs lo a) (Gh vs lo a):=by
 unfold Em Gh
 rw[h.length]
 exact(h.drop _).take _
@[simp] def Ch{b:Type}(f:VE->Option D)(lo c:VE->Option (Option Int))(F:D->Option Int->Option Int->Option b):VE->Option b:=λa=>(f a).bind λx=>(lo a).bind λl=>(c a).bind λh=>F x l h
theorem jn{e:Type}{f:VE->Option D}{lo b:VE->Option (Option Int)}{F:D->Option Int->Option Int->Option e}{ρ:VE}{d:e}(h:Ch f lo b F ρ=some d):∃x l u,f ρ=some x/\lo ρ=some l/\b ρ=some u/\F x l u=some d:=by
 unfold Ch at h
 cases a:f ρ with
 |none=>rw[a]at h;cases h
 |some x=>
  cases c:lo ρ with
  |none=>rw[a,c]at h;cases h
  |some l=>
   cases g:b ρ with
   |none=>rw[a,c,g]at h;cases h
   |some u=>rw[a,c,g]at h;exact⟨x,l,u,rfl,rfl,rfl,h⟩
theorem Hi{y A:Option Expr}{lo B:VE->Option (Option Int)}(k:JE X e (tP X.K M H0 f))(m:JO X y (tO X.K M H0 lo))(n:JO X A (tO X.K M H0 B)):JE X (.Subscript e (.Slice y A none p2) pos) (tD X.K M H0 (Ch f lo B E1)):=⟨have k:=k.h;have m:=m.h;have n:=n.h;(gQ (G8.or (Hh.or ir)) k m n).mono λN H Q ⟨o,d,R,ex,q⟩=>by
 try dsimp only at ex q
 obtain⟨x,l,u,E,G,I,b⟩:=jn ex
 refine⟨o,x,R,E,λv O r c=>⟨o,l,R.st r,G,λT t=>⟨o,u,(R.st r).st t,I,λU C=>?_⟩⟩⟩
 have c:=(c.same t).same C
 have s:=(r.trans t).trans C
 have J:=R.st s
 unfold E1 at b
 split at b
 ·cases b
  obtain⟨a,vs,w,i,j⟩:=c
  exact .inl ⟨a,vs,w,i,λp g=>q _ _ (s.trans (FU g)) (Wo J.nh g (j.cut l u))⟩
 ·cases b
  obtain⟨a,vs,w,i,j⟩:=c.tup
  refine .inr (.inl ⟨a,vs,w,i,λz=>q _ _ s ?_,λp g=>q _ _ (s.trans (FU g)) (J3 g (j.cut l u))⟩)
  simp only[AF]
  exact⟨a,vs,rfl,i,z ▸ j.cut l u⟩
 ·split at b
  ·next L=>cases b;exact .inr (.inr ⟨_,c.str,L,q _ _ s Lx⟩)
  ·cases b
 ·cases b⟩
end
mutual
def AB:D->D->Bool
 |.non,.non=>true
 |.bl a,.bl b=>a==b
 |.bl a,.int b=>(if a then 1 else 0)==b
 |.int a,.bl b=>a==(if b then 1 else 0)
 |.int a,.int b=>a==b
 |.str a,.str b=>a==b
 |.tup c,.tup d=>Cr c d
 |.lst c,.lst d=>Cr c d
 |_,_=>false
def Cr:List D->List D->Bool
 |[],[]=>true
 |x::a,y::b=>AB x y&&Cr a b
 |_,_=>false
end
@[simp] def A3:Nat->D->Bool
  |_,.non=>true
  |_,.bl _=>true
  |_,.int _=>true
  |_,.str _=>true
  |n+1,.tup a=>a.all (A3 n)
  |n+1,.lst a=>a.all (A3 n)
  |_,_=>false
mutual
theorem Wp:∀(n:Nat)(d:D),A3 n d=true->AB d d=true
 |_,.non,_=>by simp only[AB]
 |_,.bl _,_=>by simp only[AB,beq_self_eq_true]
 |_,.int _,_=>by simp only[AB,beq_self_eq_true]
 |_,.str _,_=>by simp only[AB,beq_self_eq_true]
 |0,.ty _,h=>by simp[A3]at h
 |_+1,.ty _,h=>by simp[A3]at h
 |0,.tup a,h=>by simp[A3]at h
 |0,.lst a _,h=>by simp[A3]at h
 |n+1,.tup a,h=>by simp only[A3]at h;simp only[AB];exact LC n a h
 |n+1,.lst a false,h=>by simp only[A3]at h;simp only[AB];exact LC n a h
 |n+1,.lst a true,h=>by simp[A3]at h
theorem LC:∀(n:Nat)(xs:List D),xs.all (A3 n)=true->Cr xs xs=true
 |_,[],_=>by simp only[Cr]
 |n,x::xs,h=>by
  simp only[EA,C7]at h
  simp only[Cr,C7]
  exact⟨Wp n x h.1,LC n xs h.2⟩
end
theorem QY:∀{xs ys:List D},xs.length≠ys.length->Cr xs ys=false
 |[],[],h=>absurd rfl h
 |[],_::_,_=>by simp only[Cr]
 |_::_,[],_=>by simp only[Cr]
 |x::xs,y::ys,h=>by
  simp only[Cr]
  rw[QY (xs:=xs) (ys:=ys) (by simpa using h),Bool.and_false]
theorem QZ:∀{xs ys:List D},xs.length=ys.length->Cr xs ys=(Ba xs.length).all λj=>AB (xs.getD j .non) (ys.getD j .non)
 |[],[],_=>by simp[Cr]
 |[],_::_,h=>by simp at h
 |_::_,[],h=>by simp at h
 |x::xs,y::ys,h=>by
  have a:=QZ (xs:=xs) (ys:=ys) (by simpa using h)
  simp only[Cr,Cq,List.range_succ_eq_map,EA,List.getD_cons_zero,GP,a]
  rfl
section
variable{X:Cx}{pins:List (Ac×AM)}{σ:St}{H:Hp}{s:Ab}
theorem Inv.apart(I:Inv X pins σ H s){a:Ac}{xs ys:List V}(h:BH X.K H a xs)(h':B0 X.K H a ys):False:=by
 obtain⟨g,r,⟨o,n,e,c,_⟩,_⟩:=I.list h
 obtain⟨b,i,⟨j,d,f,_⟩,_⟩:=I.tuple h'
 rw[e]at d;cases d
 rw[c]at f
 exact absurd f (by decide)
theorem Rd.dct_inj{H:Hp}{a:Ac}{d c:List KT}{vs b:List V}(h:Rd H a (.dct d vs))(h':Rd H a (.dct c b)):vs=b:=by
 rcases h with h|⟨o,h⟩<;>rcases h' with h'|⟨e,h'⟩<;>(rw[h]at h';cases h';try rfl)
theorem Inv.apartDL(I:Inv X pins σ H s){a:Ac}{g:List KT}{xs ys:List V}(h:Rd H a (.dct g xs))(h':BH X.K H a ys):False:=by
 obtain⟨_,_,_,o,_,_,e,c,_⟩:=h.ok I.hok
 obtain⟨b,i,⟨j,k,d,f,_⟩,_⟩:=I.list h'
 rw[e]at d;cases d
 rw[c.1]at f
 exact absurd f (by decide)
theorem Inv.apartDT(I:Inv X pins σ H s){a:Ac}{g:List KT}{xs ys:List V}(h:Rd H a (.dct g xs))(h':B0 X.K H a ys):False:=by
 obtain⟨_,_,_,o,_,_,e,c,_⟩:=h.ok I.hok
 obtain⟨b,i,⟨j,d,f,_⟩,_⟩:=I.tuple h'
 rw[e]at d;cases d
 rw[c.1]at f
 exact absurd f (by decide)
mutual
/-- what an address denotes is one thing -/
theorem Wq(I:Inv X pins σ H s){N m:Fb}:∀(d d':D)(v:V),AI X.K N H d v->AI X.K m H d' v->d=d'
 |.non,d',v,h,c=>by
  have h:=h.non
  cases d' with
  |non=>rfl
  |bl _=>rw[c.bl]at h;cases h
  |int _=>rw[c.int]at h;cases h
  |str _=>rw[c.str]at h;cases h
  |ty _=>rw[c.ty]at h;cases h
  |tup _=>obtain⟨_,_,e,_⟩:=c.tup;rw[e]at h;cases h
  |lst _ g=>cases g<;>(obtain⟨_,_,e,_⟩:=c;rw[e]at h;cases h)
 |.bl _,d',v,h,c=>by
  have h:=h.bl
  cases d' with
  |non=>rw[c.non]at h;cases h
  |bl _=>rw[c.bl]at h;cases h;rfl
  |int _=>rw[c.int]at h;cases h
  |str _=>rw[c.str]at h;cases h
  |ty _=>rw[c.ty]at h;cases h
  |tup _=>obtain⟨_,_,e,_⟩:=c.tup;rw[e]at h;cases h
  |lst _ g=>cases g<;>(obtain⟨_,_,e,_⟩:=c;rw[e]at h;cases h)
 |.int _,d',v,h,c=>by
  have h:=h.int
  cases d' with
  |non=>rw[c.non]at h;cases h
  |bl _=>rw[c.bl]at h;cases h
  |int _=>rw[c.int]at h;cases h;rfl
  |str _=>rw[c.str]at h;cases h
  |ty _=>rw[c.ty]at h;cases h
  |tup _=>obtain⟨_,_,e,_⟩:=c.tup;rw[e]at h;cases h
  |lst _ g=>cases g<;>(obtain⟨_,_,e,_⟩:=c;rw[e]at h;cases h)
 |.str _,d',v,h,c=>by
  have h:=h.str
  cases d' with
  |non=>rw[c.non]at h;cases h
  |bl _=>rw[c.bl]at h;cases h
  |int _=>rw[c.int]at h;cases h
  |str _=>rw[c.str]at h;cases h;rfl
  |ty _=>rw[c.ty]at h;cases h
  |tup _=>obtain⟨_,_,e,_⟩:=c.tup;rw[e]at h;cases h
  |lst _ g=>cases g<;>(obtain⟨_,_,e,_⟩:=c;rw[e]at h;cases h)
 |.ty _,d',v,h,c=>by
  have h:=h.ty
  cases d' with
  |non=>rw[c.non]at h;cases h
  |bl _=>rw[c.bl]at h;cases h
  |int _=>rw[c.int]at h;cases h
  |str _=>rw[c.str]at h;cases h
  |ty _=>rw[c.ty]at h;cases h;rfl
  |tup _=>obtain⟨_,_,e,_⟩:=c.tup;rw[e]at h;cases h
  |lst _ g=>cases g<;>(obtain⟨_,_,e,_⟩:=c;rw[e]at h;cases h)
 |.tup l,d',v,h,c=>by
  obtain⟨a,vs,e,q,r⟩:=h.tup
  subst e
  cases d' with
  |non=>cases c.non
  |bl _=>cases c.bl
  |int _=>cases c.int
  |str _=>cases c.str
  |ty _=>cases c.ty
  |tup k=>
   obtain⟨b,j,e,f,i⟩:=c.tup
   cases e
   have:=I.tuple_inj q f
   subst this
   rw[J4 I l k vs r i]
  |lst _ g=>
   cases g with
   |false=>obtain⟨b,j,e,f,_⟩:=c;cases e;exact(I.apart f q).elim
   |true=>obtain⟨b,j,e,f,_⟩:=c;cases e;exact(I.apartDT f q).elim
 |.lst l true,d',v,h,c=>by
  obtain⟨a,vs,e,q,r⟩:=h
  subst e
  cases d' with
  |non=>cases c.non
  |bl _=>cases c.bl
  |int _=>cases c.int
  |str _=>cases c.str
  |ty _=>cases c.ty
  |tup k=>obtain⟨b,j,e,f,i⟩:=c.tup;cases e;exact(I.apartDT q f).elim
  |lst k g=>
   cases g with
   |false=>obtain⟨b,j,e,f,i⟩:=c;cases e;exact(I.apartDL q f).elim
   |true=>
    obtain⟨b,j,e,f,i⟩:=c
    cases e
    have:=Rd.dct_inj q f
    subst this
    rw[J4 I l k vs r i]
 |.lst l false,d',v,h,c=>by
  obtain⟨a,vs,e,q,r⟩:=h
  subst e
  cases d' with
  |non=>cases c.non
  |bl _=>cases c.bl
  |int _=>cases c.int
  |str _=>cases c.str
  |ty _=>cases c.ty
  |tup k=>obtain⟨b,j,e,f,i⟩:=c.tup;cases e;exact(I.apart q f).elim
  |lst k g=>
   cases g with
   |true=>obtain⟨b,j,e,f,i⟩:=c;cases e;exact(I.apartDL f q).elim
   |false=>
   obtain⟨b,j,e,f,i⟩:=c
   cases e
   have:=I.list_inj q f
   subst this
   rw[J4 I l k vs r i]
theorem J4(I:Inv X pins σ H s){N b:Fb}:∀(xs ys:List D)(vs:List V),Ad X.K N H xs vs->Ad X.K b H ys vs->xs=ys
 |[],ys,vs,h,a=>by
  simp only[Ad]at h;subst h
  cases ys with
  |nil=>rfl
  |cons y ys=>simp only[Ad]at a;obtain⟨_,_,e,_⟩:=a;cases e
 |x::xs,ys,vs,h,a=>by
  simp only[Ad]at h
  obtain⟨v,r,e,q,t⟩:=h
  subst e
  cases ys with
  |nil=>simp only[Ad]at a;cases a
  |cons y ys=>
   simp only[Ad]at a
   obtain⟨f,g,e,c,d⟩:=a
   cases e
   rw[Wq I x y v q.p c.p,J4 I xs ys r t d]
end
open SeqAt
theorem Cs{a:Type}{xs:List a}{j:Nat}{d e:a}(h:xs[j]?=some e):xs.getD j d=e:=by simp[List.getD_eq_getElem?_getD,h]
theorem Nk{a:List Aa}{j:Nat}{u:Aa}(b:j<a.toArray.size)(e:a[j]?=some u):a.toArray[j]=u:=by
 obtain⟨_,e⟩:=List.getElem?_eq_some_iff.mp e
 simpa using e
def Wr(A:Aj)(s:Ab)(u v:Aa)(b:Bool):Prop:=RcAt A s u v b/\EqAt A s u v b/\RcNeAt A s u v (!b)
theorem HR(A:Aj):A.in1.units=A.units+1:=rfl
theorem Ws(I:Inv X pins σ H s){N:Fb}(A:Aj)(x y:D)(g h:V)(u v:Aa)(l:A.units+0<Az)(i:A3 0 x=true)(e:A3 0 y=true)(f:AI X.K N H x g)(b:AI X.K N H y h)(c:RelV g u)(a:RelV h v):Wr A s u v (AB x y):=by
 have j:A.units<Az:=by omega
 cases x with
 |non=>
  rw[f.non]at c;cases c
  cases y with
  |non=>rw[b.non]at a;cases a;simp only[AB];exact⟨RcAt.none_none,EqAt.same _,RcNeAt.none_none⟩
  |bl _=>rw[b.bl]at a;cases a;simp only[AB];exact⟨RcAt.none_bool _,EqAt.none_bool _,RcNeAt.none_bool _⟩
  |int _=>rw[b.int]at a;obtain⟨d,rfl⟩:=a;simp only[AB];exact⟨RcAt.none_int _ _,EqAt.none_int _ _,RcNeAt.none_int _ _⟩
  |str _=>rw[b.str]at a;obtain⟨d,rfl⟩:=a;simp only[AB];exact⟨RcAt.none_str _ _,EqAt.none_str _ _,RcNeAt.none_str _ _⟩
  |_=>simp[A3]at e
 |bl _=>
  rw[f.bl]at c;cases c
  cases y with
  |non=>rw[b.non]at a;cases a;simp only[AB];exact⟨RcAt.bool_none _,EqAt.bool_none _,RcNeAt.bool_none _⟩
  |bl _=>rw[b.bl]at a;cases a;simp only[AB];exact⟨RcAt.bool_bool _ _,EqAt.bool_bool _ _,RcNeAt.bool_bool _ _⟩
  |int _=>rw[b.int]at a;obtain⟨d,rfl⟩:=a;simp only[AB];exact⟨RcAt.bool_int _ _ _,EqAt.bool_int _ _ _,RcNeAt.bool_int _ _ _⟩
  |str _=>rw[b.str]at a;obtain⟨d,rfl⟩:=a;simp only[AB];exact⟨RcAt.bool_str _ _ _,EqAt.bool_str _ _ _,RcNeAt.bool_str _ _ _⟩
  |_=>simp[A3]at e
 |int _=>
  rw[f.int]at c;obtain⟨k,rfl⟩:=c
  cases y with
  |non=>rw[b.non]at a;cases a;simp only[AB];exact⟨RcAt.int_none _ _,EqAt.int_none _ _,RcNeAt.int_none _ _⟩
  |bl _=>rw[b.bl]at a;cases a;simp only[AB];exact⟨RcAt.int_bool _ _ _,EqAt.int_bool _ _ _,RcNeAt.int_bool _ _ _⟩
  |int _=>rw[b.int]at a;obtain⟨d,rfl⟩:=a;simp only[AB];exact⟨RcAt.int_int _ _ _ _,EqAt.int_int _ _ _ _,RcNeAt.int_int _ _ _ _⟩
  |str _=>rw[b.str]at a;obtain⟨d,rfl⟩:=a;simp only[AB];exact⟨RcAt.int_str _ _ _ _,EqAt.int_str _ _ _ _,RcNeAt.int_str _ _ _ _⟩
  |_=>simp[A3]at e
 |str _=>
  rw[f.str]at c;obtain⟨k,rfl⟩:=c
  cases y with
  |non=>rw[b.non]at a;cases a;simp only[AB];exact⟨RcAt.str_none _ _,EqAt.str_none _ _,RcNeAt.str_none _ _⟩
  |bl _=>rw[b.bl]at a;cases a;simp only[AB];exact⟨RcAt.str_bool _ _ _,EqAt.str_bool _ _ _,RcNeAt.str_bool _ _ _⟩
  |int _=>rw[b.int]at a;obtain⟨d,rfl⟩:=a;simp only[AB];exact⟨RcAt.str_int _ _ _ _,EqAt.str_int _ _ _ _,RcNeAt.str_int _ _ _ _⟩
  |str _=>rw[b.str]at a;obtain⟨d,rfl⟩:=a;simp only[AB];exact⟨RcAt.str_str _ _ _ _,EqAt.str_str _ _ _ _,RcNeAt.str_str _ _ _ _⟩
  |_=>simp[A3]at e
 |_=>simp[A3]at i
theorem J5(I:Inv X pins σ H s){N:Fb}:∀(n:Nat)(A:Aj)(x y:D)(vx vy:V)(u v:Aa),A.units+n<Az->A3 n x=true->A3 n y=true->AI X.K N H x vx->AI X.K N H y vy->RelV vx u->RelV vy v->Wr A s u v (AB x y):=by
 intro n
 induction n with
 |zero=>exact Ws I
 |succ n ih=>
  intro A x y vx vy u v hu ox t E q r k
  have c:A.units<Az:=by omega
  have Z:=λa b=>Ws I A x y vx vy u v c a b E q r k
  cases x with
  |non=>
   cases y with
   |tup i=>rw[E.non]at r;cases r;obtain⟨a2,m,o,q2,d2⟩:=q.tup;subst o;cases k;obtain⟨d,B,f,z2⟩:=I.tuple q2;simp only[AB];exact⟨RcAt.none_tuple f c,EqAt.none_tuple f c,RcNeAt.none_tuple f c⟩
   |lst i C=>
    cases C with
    |true=>simp[A3]at t
    |false=>
     rw[E.non]at r;cases r;obtain⟨a2,m,o,q2,d2⟩:=q;subst o;cases k;obtain⟨d,B,f,z2⟩:=I.list q2;simp only[AB];exact⟨RcAt.none_list f.isList c,EqAt.none_list f.isList c,RcNeAt.none_list f.isList c⟩
   |ty _=>simp[A3]at t
   |_=>exact Z rfl rfl
  |bl _=>
   cases y with
   |tup i=>rw[E.bl]at r;cases r;obtain⟨a2,m,o,q2,d2⟩:=q.tup;subst o;cases k;obtain⟨d,B,f,z2⟩:=I.tuple q2;simp only[AB];exact⟨RcAt.bool_tuple _ f c,EqAt.bool_tuple _ f c,RcNeAt.bool_tuple _ f c⟩
   |lst i C=>
    cases C with
    |true=>simp[A3]at t
    |false=>
     rw[E.bl]at r;cases r;obtain⟨a2,m,o,q2,d2⟩:=q;subst o;cases k;obtain⟨d,B,f,z2⟩:=I.list q2;simp only[AB];exact⟨RcAt.bool_list _ f.isList c,EqAt.bool_list _ f.isList c,RcNeAt.bool_list _ f.isList c⟩
   |ty _=>simp[A3]at t
   |_=>exact Z rfl rfl
  |int _=>
   cases y with
   |tup i=>rw[E.int]at r;obtain⟨t1,rfl⟩:=r;obtain⟨a2,m,o,q2,d2⟩:=q.tup;subst o;cases k;obtain⟨d,B,f,z2⟩:=I.tuple q2;simp only[AB];exact⟨RcAt.int_tuple _ _ f c,EqAt.int_tuple _ _ f c,RcNeAt.int_tuple _ _ f c⟩
   |lst i C=>
    cases C with
    |true=>simp[A3]at t
    |false=>
     rw[E.int]at r;obtain⟨t1,rfl⟩:=r;obtain⟨a2,m,o,q2,d2⟩:=q;subst o;cases k;obtain⟨d,B,f,z2⟩:=I.list q2;simp only[AB];exact⟨RcAt.int_list _ _ f.isList c,EqAt.int_list _ _ f.isList c,RcNeAt.int_list _ _ f.isList c⟩
   |ty _=>simp[A3]at t
   |_=>exact Z rfl rfl
  |str _=>
   cases y with
   |tup i=>rw[E.str]at r;obtain⟨t1,rfl⟩:=r;obtain⟨a2,m,o,q2,d2⟩:=q.tup;subst o;cases k;obtain⟨d,B,f,z2⟩:=I.tuple q2;simp only[AB];exact⟨RcAt.str_tuple _ _ f c,EqAt.str_tuple _ _ f c,RcNeAt.str_tuple _ _ f c⟩
   |lst i C=>
    cases C with
    |true=>simp[A3]at t
    |false=>
     rw[E.str]at r;obtain⟨t1,rfl⟩:=r;obtain⟨a2,m,o,q2,d2⟩:=q;subst o;cases k;obtain⟨d,B,f,z2⟩:=I.list q2;simp only[AB];exact⟨RcAt.str_list _ _ f.isList c,EqAt.str_list _ _ f.isList c,RcNeAt.str_list _ _ f.isList c⟩
   |ty _=>simp[A3]at t
   |_=>exact Z rfl rfl
  |tup l=>
   obtain⟨a1,vs1,e1,q1,d1⟩:=E.tup;subst e1;cases r;obtain⟨g,r1,h,z1⟩:=I.tuple q1
   cases y with
   |non=>rw[q.non]at k;cases k;simp only[AB];exact⟨RcAt.tuple_none h c,EqAt.tuple_none h c,RcNeAt.tuple_none h c⟩
   |bl _=>rw[q.bl]at k;cases k;simp only[AB];exact⟨RcAt.tuple_bool _ h c,EqAt.tuple_bool _ h c,RcNeAt.tuple_bool _ h c⟩
   |int _=>rw[q.int]at k;obtain⟨t2,rfl⟩:=k;simp only[AB];exact⟨RcAt.tuple_int _ _ h c,EqAt.tuple_int _ _ h c,RcNeAt.tuple_int _ _ h c⟩
   |str _=>rw[q.str]at k;obtain⟨t2,rfl⟩:=k;simp only[AB];exact⟨RcAt.tuple_str _ _ h c,EqAt.tuple_str _ _ h c,RcNeAt.tuple_str _ _ h c⟩
   |tup i=>
    obtain⟨a2,m,o,q2,d2⟩:=q.tup;subst o;cases k;obtain⟨d,B,f,z2⟩:=I.tuple q2
    simp only[A3]at ox t
    have l1:=r1.length
    have l2:=B.length
    have m1:=d1.length
    have m2:=d2.length
    simp only[AB]
    have M:RcAt A s (.ref a1) (.ref a2) (Cr l i)/\RcNeAt A s (.ref a1) (.ref a2) (!Cr l i):=by
     have w:∀j (O:j<g.toArray.size) (Q:j<d.toArray.size),EqAt A.in1 s g.toArray[j] d.toArray[j] (AB (l.getD j .non) (i.getD j .non)):=λj O Q=>?_
     ·have G:=RcAt.tuples (A:=A) (s:=s) (e:=λj=>AB (l.getD j .non) (i.getD j .non)) h f c w
      have z:=RcNeAt.tuples (A:=A) (s:=s) (e:=λj=>AB (l.getD j .non) (i.getD j .non)) h f c w
      have e:((Ba (min g.toArray.size d.toArray.size)).all (λj=>AB (l.getD j .non) (i.getD j .non))&&g.toArray.size==d.toArray.size)=Cr l i:=by
       rw[BR,BR]
       by_cases hl:l.length=i.length
       ·rw[QZ hl,show g.length=l.length by omega,show d.length=l.length by omega,Nat.min_self];simp
       ·rw[QY hl,show(g.length==d.length)=false by simp;omega,Bool.and_false]
      rw[e]at G z
      exact⟨G,z⟩
     ·have J:j<l.length:=by rw[BR]at O;omega
      have L:j<i.length:=by rw[BR]at Q;omega
      have g1:=Cu J
      have g2:=Cu L
      obtain⟨w1,T,U⟩:=d1.get g1
      obtain⟨w2,Y,dw2⟩:=d2.get g2
      obtain⟨u1,hu1,ru1⟩:=r1.get T
      obtain⟨u2,hu2,ru2⟩:=B.get Y
      rw[Nk O hu1,Nk Q hu2,Cs g1,Cs g2]
      exact(ih A.in1 _ _ _ _ _ _ (by rw[HR];omega) (D9.mp ox _ (Fc J)) (D9.mp t _ (Fc L)) U.p dw2.p ru1 ru2).2.1
    refine⟨M.1,?_,M.2⟩
    by_cases ea:a1=a2
    ·subst ea
     have:=I.tuple_inj q1 q2
     subst this
     rw[J4 I l i _ d1 d2,LC n i t]
     exact EqAt.same _
    ·exact EqAt.of_refs ea M.1
   |lst i C=>
    cases C with
    |true=>simp[A3]at t
    |false=>
     obtain⟨a2,m,o,q2,d2⟩:=q;subst o;cases k;obtain⟨d,B,f,z2⟩:=I.list q2;simp only[AB];exact⟨RcAt.tuple_list h f.isList c,EqAt.tuple_list h f.isList c,RcNeAt.tuple_list h f.isList c⟩
   |ty _=>simp[A3]at t
  |lst l C=>
   cases C with
   |true=>simp[A3]at ox
   |false=>
    obtain⟨a1,vs1,e1,q1,d1⟩:=E;subst e1;cases r;obtain⟨g,r1,h,z1⟩:=I.list q1
    cases y with
    |non=>rw[q.non]at k;cases k;simp only[AB];exact⟨RcAt.list_none h.isList c,EqAt.list_none h.isList c,RcNeAt.list_none h.isList c⟩
    |bl _=>rw[q.bl]at k;cases k;simp only[AB];exact⟨RcAt.list_bool _ h.isList c,EqAt.list_bool _ h.isList c,RcNeAt.list_bool _ h.isList c⟩
    |int _=>rw[q.int]at k;obtain⟨t2,rfl⟩:=k;simp only[AB];exact⟨RcAt.list_int _ _ h.isList c,EqAt.list_int _ _ h.isList c,RcNeAt.list_int _ _ h.isList c⟩
    |str _=>rw[q.str]at k;obtain⟨t2,rfl⟩:=k;simp only[AB];exact⟨RcAt.list_str _ _ h.isList c,EqAt.list_str _ _ h.isList c,RcNeAt.list_str _ _ h.isList c⟩
    |tup i=>obtain⟨a2,m,o,q2,d2⟩:=q.tup;subst o;cases k;obtain⟨d,B,f,z2⟩:=I.tuple q2;simp only[AB];exact⟨RcAt.list_tuple h.isList f c,EqAt.list_tuple h.isList f c,RcNeAt.list_tuple h.isList f c⟩
    |lst i C=>
     cases C with
     |true=>simp[A3]at t
     |false=>
      obtain⟨a2,m,o,q2,d2⟩:=q;subst o;cases k;obtain⟨d,B,f,z2⟩:=I.list q2
      simp only[A3]at ox t
      have l1:=r1.length
      have l2:=B.length
      have m1:=d1.length
      have m2:=d2.length
      simp only[AB]
      have M:RcAt A s (.ref a1) (.ref a2) (Cr l i)/\RcNeAt A s (.ref a1) (.ref a2) (!Cr l i):=by
       by_cases hl:l.length=i.length
       ·have w:∀j (O:j<g.toArray.size) (Q:j<d.toArray.size),EqAt A.in1 s g.toArray[j] d.toArray[j] (AB (l.getD j .non) (i.getD j .non)):=λj O Q=>?_
        ·have G:=RcAt.lists (A:=A) (s:=s) (e:=λj=>AB (l.getD j .non) (i.getD j .non)) h.isList f.isList (by rw[BR,BR];omega) c w
         have z:=RcNeAt.lists (A:=A) (s:=s) (e:=λj=>AB (l.getD j .non) (i.getD j .non)) h.isList f.isList (by rw[BR,BR];omega) c w
         have e:(Ba g.toArray.size).all (λj=>AB (l.getD j .non) (i.getD j .non))=Cr l i:=by
          rw[BR,QZ hl,show g.length=l.length by omega]
         rw[e]at G z
         exact⟨G,z⟩
        ·have J:j<l.length:=by rw[BR]at O;omega
         have L:j<i.length:=by rw[BR]at Q;omega
         have g1:=Cu J
         have g2:=Cu L
         obtain⟨w1,T,U⟩:=d1.get g1
         obtain⟨w2,Y,dw2⟩:=d2.get g2
         obtain⟨u1,hu1,ru1⟩:=r1.get T
         obtain⟨u2,hu2,ru2⟩:=B.get Y
         rw[Nk O hu1,Nk Q hu2,Cs g1,Cs g2]
         exact(ih A.in1 _ _ _ _ _ _ (by rw[HR];omega) (D9.mp ox _ (Fc J)) (D9.mp t _ (Fc L)) U.p dw2.p ru1 ru2).2.1
       ·rw[QY hl]
        have hne:(g.toArray.size != d.toArray.size)=true:=by rw[BR,BR];simp;omega
        exact⟨RcAt.lists_lengths h.isList f.isList hne c,RcNeAt.lists_lengths h.isList f.isList hne c⟩
      refine⟨M.1,?_,M.2⟩
      by_cases ea:a1=a2
      ·subst ea
       have:=I.list_inj q1 q2
       subst this
       rw[J4 I l i _ d1 d2,LC n i t]
       exact EqAt.same _
      ·exact EqAt.of_refs ea M.1
    |ty _=>simp[A3]at t
  |ty _=>simp[A3]at ox
end
def Cc:Nat:=12
@[simp] def CH(x y:D):Option D:=if A3 Cc x&&A3 Cc y then some (.bl (AB x y))else none
@[simp] def Dy(x y:D):Option D:=if A3 Cc x&&A3 Cc y then some (.bl (!AB x y))else none
def Nl(K:Ar)(neg:Bool):R2:=λx y H Q=>∃N d1 d2,AI K N H d1 x/\AI K N H d2 y/\A3 Cc d1=true/\A3 Cc d2=true/\Q (.bl (if neg then !AB d1 d2 else AB d1 d2)) H
section
variable{X:Cx}{K:Ar}{M:Fb}{H0:Hp}{a b:Expr}{f g:VE->Option D}{pos:A5}
theorem Wt(i:X.A.units+64<Az):B5 X (Df .Eq) (Nl X.K false):=by
 intro a s j H x y v u Q I b c h
 obtain⟨N,d1,d2,d,e,f,g,q⟩:=h
 exact(J5 I Cc X.A d1 d2 x y v u (by unfold Cc;omega) f g d e b c).1 X.prog X.w X.xe _ ⟨.bl _,H,I,rfl,q⟩
theorem Wu(i:X.A.units+64<Az):B5 X (Df .NotEq) (Nl X.K true):=by
 intro a s j H x y v u Q I b c h
 obtain⟨N,d1,d2,d,e,f,g,q⟩:=h
 exact(J5 I Cc X.A d1 d2 x y v u (by unfold Cc;omega) f g d e b c).2.2 X.prog X.w X.xe _ ⟨.bl _,H,I,rfl,q⟩
theorem Wv:C5 K (Nl K false) CH:=by
 intro N H x y d1 d2 d Q f b c e q
 unfold CH at e
 split at e
 ·next a=>rw[C7]at a;cases e;exact⟨N,d1,d2,b,c,a.1,a.2,q _ H (Ak.refl H) Fa⟩
 ·cases e
theorem Ww:C5 K (Nl K true) Dy:=by
 intro N H x y d1 d2 d Q f b c e q
 unfold Dy at e
 split at e
 ·next a=>rw[C7]at a;cases e;exact⟨N,d1,d2,b,c,a.1,a.2,q _ H (Ak.refl H) Fa⟩
 ·cases e
def Go(x:D)(ys:List D):Bool:=ys.any λy=>AB y x
@[simp] def Dj(neg:Bool)(x y:D):Option D:=match y with
  |.lst a=>if A3 Cc x&&a.all (A3 Cc)then some (.bl (if neg then !Go x a else Go x a))else none
  |.tup a=>if A3 Cc x&&a.all (A3 Cc)then some (.bl (if neg then !Go x a else Go x a))else none
  |.str z=>match x with
   |.str w=>some (.bl (if neg then !(!(K6 z w 0 z.length 1).isEmpty)else !(K6 z w 0 z.length 1).isEmpty))
   |_=>none
  |_=>none
def Nm(K:Ar)(neg:Bool):R2:=λx y H Q=>∃N d1 a vs p,AI K N H d1 x/\y=.ref p/\(BH K H p vs\/B0 K H p vs)/\Ad K N H a vs/\A3 Cc d1=true/\a.all (A3 Cc)=true/\Q (.bl (if neg then !Go d1 a else Go d1 a)) H
open Classical in
def EB(K:Ar)(N:Fb)(H:Hp)(x:D)(u:Aa):Bool:=decide (∃d w,AI K N H d w/\RelV w u/\AB d x=true)
theorem Wx{a:List (Ac×AM)}{σ:St}{H:Hp}{s:Ab}(I:Inv X a σ H s){N:Fb}{x d:D}{w:V}{u:Aa}(hd:AI X.K N H d w)(r:RelV w u):EB X.K N H x u=AB d x:=by
 classical
 unfold EB
 cases e:AB d x with
 |true=>exact @decide_eq_true _ (HM _) ⟨d,w,hd,r,e⟩
 |false=>
  refine @decide_eq_false _ (HM _) ?_
  rintro⟨f,h,b,g,c⟩
  have:=g.inj r
  subst this
  have:=Wq I f d _ b hd
  subst this
  rw[e]at c;cases c
theorem LF{a:List (Ac×AM)}{σ:St}{H:Hp}{s:Ab}(I:Inv X a σ H s){N:Fb}{x:D}:∀{ys:List D}{vs:List V}{us:List Aa},Ad X.K N H ys vs->Aq vs us->us.any (EB X.K N H x)=Go x ys
 |[],_,_,h,r=>by simp only[Ad]at h;subst h;cases r;rfl
 |y::ys,_,_,h,r=>by
  simp only[Ad]at h
  obtain⟨v,t,e,b,c⟩:=h
  subst e
  cases r with
  |cons d f=>
   rw[List.any_cons,Wx I b.p d,LF I c f]
   rfl
theorem Nn{a:List (Ac×AM)}{σ:St}{H:Hp}{s:Ab}(I:Inv X a σ H s){N:Fb}{A:Aj}{x:D}{d:V}{v:Aa}(l:A.units+Cc<Az)(m:A3 Cc x=true)(n:AI X.K N H x d)(o:RelV d v){ys:List D}{vs:List V}{us:List Aa}(h:Ad X.K N H ys vs)(r:Aq vs us)(q:ys.all (A3 Cc)=true):
  ∀u∈us,SeqAt.EqAt A s u v (EB X.K N H x u):=by
 intro u b
 obtain⟨j,e⟩:=List.getElem?_of_mem b
 have w:=r.length
 have c:j<vs.length:=by have:=(List.getElem?_eq_some_iff.mp e).1;omega
 have f:=Cu c
 obtain⟨z,g,i⟩:=r.get f
 rw[e]at g;cases g
 obtain⟨y,t,k⟩:=h.get' f
 rw[Wx I k.p i]
 exact(J5 I Cc A y x _ _ _ _ l (D9.mp q y (Ei t)) m k.p n i o).2.1
theorem Wy(n:X.A.units+64<Az):B5 X (Df .In) (Nm X.K false):=by
 intro f s o H x y v u Q I g l h
 obtain⟨N,d1,t,vs,p,i,rfl,b,hd,j,k,q⟩:=h
 cases l
 have c:X.A.in1.units+Cc<Az:=by rw[HR];unfold Cc;omega
 rcases b with b|b
 ·obtain⟨a,r,d,m⟩:=I.list b
  refine SeqAt.in_listAt (EB X.K N H d1) d.isList (λw e=>Nn I c j i g hd r k w (by simpa using e)) ⟨.bl _,H,I,rfl,?_⟩
  rw[show a.toArray.any (EB X.K N H d1)=a.any (EB X.K N H d1) by simp,LF I hd r]
  exact q
 ·obtain⟨a,r,d,m⟩:=I.tuple b
  refine SeqAt.in_tupleAt (EB X.K N H d1) d (λw e=>Nn I c j i g hd r k w (by simpa using e)) ⟨.bl _,H,I,rfl,?_⟩
  rw[show a.toArray.any (EB X.K N H d1)=a.any (EB X.K N H d1) by simp,LF I hd r]
  exact q
theorem jo(n:X.A.units+64<Az):B5 X (Df .NotIn) (Nm X.K true):=by
 intro f s o H x y v u Q I g l h
 obtain⟨N,d1,t,vs,p,i,rfl,b,hd,j,k,q⟩:=h
 cases l
 have c:X.A.in1.units+Cc<Az:=by rw[HR];unfold Cc;omega
 rcases b with b|b
 ·obtain⟨a,r,d,m⟩:=I.list b
  refine SeqAt.notIn_listAt (EB X.K N H d1) d.isList (λw e=>Nn I c j i g hd r k w (by simpa using e)) ⟨.bl _,H,I,rfl,?_⟩
  rw[show a.toArray.any (EB X.K N H d1)=a.any (EB X.K N H d1) by simp,LF I hd r]
  exact q
 ·obtain⟨a,r,d,m⟩:=I.tuple b
  refine SeqAt.notIn_tupleAt (EB X.K N H d1) d (λw e=>Nn I c j i g hd r k w (by simpa using e)) ⟨.bl _,H,I,rfl,?_⟩
  rw[show a.toArray.any (EB X.K N H d1)=a.any (EB X.K N H d1) by simp,LF I hd r]
  exact q
theorem Wz:C5 K (λx y H Q=>Nm K false x y H Q\/∃i j,x=.str i/\y=.str j/\Q (.bl (!(K6 j i 0 j.length 1).isEmpty)) H) (Dj false):=by
 intro N H x y d1 d2 d Q k c f e q
 unfold Dj at e
 split at e
 ·split at e
  ·next b=>rw[C7]at b;cases e;obtain⟨a,vs,g,q1,h⟩:=f;exact .inl ⟨N,d1,_,vs,a,c,g,.inl q1,h,b.1,b.2,q _ H (Ak.refl H) Fa⟩
  ·cases e
 ·split at e
  ·next b=>rw[C7]at b;cases e;obtain⟨a,vs,g,q1,h⟩:=f.tup;exact .inl ⟨N,d1,_,vs,a,c,g,.inr q1,h,b.1,b.2,q _ H (Ak.refl H) Fa⟩
  ·cases e
 ·split at e
  ·cases e;exact .inr ⟨_,_,c.str,f.str,q _ H (Ak.refl H) Fa⟩
  ·cases e
 ·cases e
theorem jp:C5 K (λx y H Q=>Nm K true x y H Q\/∃i j,x=.str i/\y=.str j/\Q (.bl (!(!(K6 j i 0 j.length 1).isEmpty))) H) (Dj true):=by
 intro N H x y d1 d2 d Q k c f e q
 unfold Dj at e
 split at e
 ·split at e
  ·next b=>rw[C7]at b;cases e;obtain⟨a,vs,g,q1,h⟩:=f;exact .inl ⟨N,d1,_,vs,a,c,g,.inl q1,h,b.1,b.2,q _ H (Ak.refl H) Fa⟩
  ·cases e
 ·split at e
  ·next b=>rw[C7]at b;cases e;obtain⟨a,vs,g,q1,h⟩:=f.tup;exact .inl ⟨N,d1,_,vs,a,c,g,.inr q1,h,b.1,b.2,q _ H (Ak.refl H) Fa⟩
  ·cases e
 ·split at e
  ·cases e;exact .inr ⟨_,_,c.str,f.str,q _ H (Ak.refl H) Fa⟩
  ·cases e
 ·cases e
@[simp] def EC(lt:D->D->Option Bool):List D->List D->Option Bool
  |[],[]=>some false
  |[],_::_=>some true
  |_::_,[]=>some false
  |x::a,y::b=>if A3 Cc x&&A3 Cc y then(if AB x y then EC lt a b else lt x y)else none
@[simp] def ltN:Nat->D->D->Option Bool
  |_,.int i,.int j=>some (decide (i<j))
  |_,.str a,.str b=>some (decide (a.cps.toList<b.cps.toList))
  |n+1,.tup c,.tup d=>EC (ltN n) c d
  |n+1,.lst c false,.lst d false=>EC (ltN n) c d
  |_,_,_=>none
@[simp] def IT(x y:D):Option D:=(ltN 6 x y).map D.bl
def WA(K:Ar):R2:=λx y H Q=>∃N d1 d2 b,AI K N H d1 x/\AI K N H d2 y/\ltN 6 d1 d2=some b/\Q (.bl b) H
theorem Q0{B:List (Ac×AM)}{σ:St}{H:Hp}{s:Ab}(I:Inv X B σ H s){N:Fb}:∀(n:Nat)(A:Aj)(x y:D)(vx vy:V)(u v:Aa)(b:Bool),A.units+n+Cc<Az->ltN n x y=some b->AI X.K N H x vx->AI X.K N H y vy->RelV vx u->RelV vy v ->
  ∀(prog:AY) (j:Ai) (E Q:Aa->Ab->Prop),Q (.bool b) s->wpAny (Af prog j) A (richCompare .Lt u v) Q E s:=by
 intro n
 induction n with
 |zero=>
  intro A x y vx vy u v b hu h o r f g prog j E Q q
  unfold ltN at h
  split at h
  ·cases h;rw[o.int]at f;rw[r.int]at g;obtain⟨t,rfl⟩:=f;obtain⟨t',rfl⟩:=g;exact HT.rcLt_int A s _ _ _ _ prog j E Q q
  ·cases h;rw[o.str]at f;rw[r.str]at g;obtain⟨t,rfl⟩:=f;obtain⟨t',rfl⟩:=g;exact(PyProof.Rows.lt_str q:wpAny (Af prog j) A (Df .Lt _ _) Q E s)
  ·next h0=>cases h0
  ·next h0=>cases h0
  ·cases h
 |succ n ih=>
  intro A x y vx vy u v b hu h o r f g prog j E Q q
  have i:∀(k a:List D) (c d:List V) (ED EE:List Aa),EC (ltN n) k a=some b->Ad X.K N H k c->Ad X.K N H a d->Aq c ED->Aq d EE->ET A.in1 s ED EE b:=by
   intro k
   induction k with
   |nil=>
    intro a c d ED EE h d1 d2 z l
    simp only[Ad]at d1;subst d1;cases z
    cases a with
    |nil=>simp only[Ad]at d2;subst d2;cases l;cases h;exact .nn
    |cons y a=>simp only[Ad]at d2;obtain⟨w,t,e,_,_⟩:=d2;subst e;cases l;cases h;exact .nc
   |cons x k ihx=>
    intro a c d ED EE h d1 d2 z l
    simp only[Ad]at d1;obtain⟨w1,t1,C,G,dt1⟩:=d1;subst C
    cases z with
    |cons J rt1=>
     cases a with
     |nil=>simp only[Ad]at d2;subst d2;cases l;cases h;exact .cn
     |cons y a=>
      simp only[Ad]at d2;obtain⟨w2,t2,L,M,dt2⟩:=d2;subst L
      cases l with
      |cons O rt2=>
       simp only[EC]at h
       split at h
       ·next ho=>
        rw[C7]at ho
        have he:=(J5 I Cc A.in1 x y _ _ _ _ (by rw[HR];omega) ho.1 ho.2 G.p M.p J O).2.1
        split at h
        ·next e=>rw[e]at he;exact .eq he (ihx a _ _ _ _ h dt1 dt2 rt1 rt2)
        ·next e=>
         rw[LG]at e
         rw[e]at he
         exact .ne he λprog j E Q q=>ih A.in1 x y _ _ _ _ b (by rw[HR];omega) h G.p M.p J O prog j E Q q
       ·cases h
  unfold ltN at h
  split at h
  ·cases h;rw[o.int]at f;rw[r.int]at g;obtain⟨t,rfl⟩:=f;obtain⟨t',rfl⟩:=g;exact HT.rcLt_int A s _ _ _ _ prog j E Q q
  ·cases h;rw[o.str]at f;rw[r.str]at g;obtain⟨t,rfl⟩:=f;obtain⟨t',rfl⟩:=g;exact(PyProof.Rows.lt_str q:wpAny (Af prog j) A (Df .Lt _ _) Q E s)
  ·next m k a e0=>
   cases e0
   obtain⟨a1,c,C,q1,d1⟩:=o.tup
   obtain⟨a2,d,L,q2,d2⟩:=r.tup
   subst C L
   cases f
   cases g
   obtain⟨T,z,p1,_⟩:=I.tuple q1
   obtain⟨U,l,p2,_⟩:=I.tuple q2
   exact iy p1 p2 (by simpa using i k a _ _ _ _ h d1 d2 z l) (by omega) q
  ·next m k a e0=>
   cases e0
   obtain⟨a1,c,C,q1,d1⟩:=o
   obtain⟨a2,d,L,q2,d2⟩:=r
   subst C L
   cases f
   cases g
   obtain⟨T,z,⟨⟨cls,dd,data,sl⟩,n1,ho1,Y,hdd1,hd1⟩,_⟩:=I.list q1
   obtain⟨U,l,⟨⟨cls2,dd2,data2,sl2⟩,n2,ho2,hc2,hdd2,hd2⟩,_⟩:=I.list q2
   simp only at Y hd1 hc2 hd2
   subst Y hd1 hc2 hd2
   exact iz ho1 ho2 (by simpa using i k a _ _ _ _ h d1 d2 z l) (by omega) q
  ·cases h
theorem WB(j:X.A.units+64<Az):B5 X (Df .Lt) (WA X.K):=by
 intro a s c H x y v u Q I d e h
 obtain⟨N,d1,d2,b,f,g,i,q⟩:=h
 have fin:EP X a c Q (.bool b) s:=⟨.bl b,H,I,rfl,q⟩
 exact Q0 I 6 X.A d1 d2 x y v u b (by unfold Cc;omega) i f g d e X.prog X.w X.xe _ fin
theorem WC:C5 K (WA K) IT:=by
 intro N H x y d1 d2 d Q g c f e q
 unfold IT at e
 cases a:ltN 6 d1 d2 with
 |none=>rw[a]at e;cases e
 |some b=>rw[a]at e;cases e;exact⟨N,d1,d2,b,c,f,a,q _ H (Ak.refl H) Fa⟩
end
end L2
namespace L2
open PySem PySem.Spec PyProof.Rows
section
variable{K:Ar}{N:Fb}{H:Hp}
theorem Paired.one'{a b:Type}{F:a->b->Prop}{x:a}{vs:List b}(h:Paired F [x] vs):∃v,vs=[v]/\F x v:=by
 cases h with
 |cons r t=>cases t;exact⟨_,rfl,r⟩
theorem Paired.two'{a b:Type}{F:a->b->Prop}{x y:a}{vs:List b}(h:Paired F [x,y] vs):∃v w,vs=[v,w]/\F x v/\F y w:=by
 cases h with
 |cons r t=>
  obtain⟨w,e,q⟩:=Paired.one' t
  subst e
  exact⟨_,w,rfl,r,q⟩
@[simp] def Cd:List D->Option D
  |[.lst a]=>some (.int a.length)
  |[.tup a]=>some (.int a.length)
  |[.str x]=>if x.length<=AG then some (.int x.length)else none
  |_=>none
theorem EF:DX K (λxs H Q=>∃x n,xs=[x]/\Vo K x H n/\Q (.int n) H) Cd:=by
 intro N H vs j d Q k h e q
 unfold Cd at e
 split at e
 ·cases e
  obtain⟨v,rfl,b⟩:=Paired.one' h
  obtain⟨a,c,f,q1,g⟩:=b
  subst f
  exact⟨.ref a,_,rfl,.inl ⟨c,q1,rfl⟩,by rw[<- g.length];exact q _ H (Ak.refl H) EZ⟩
 ·cases e
  obtain⟨v,rfl,b⟩:=Paired.one' h
  obtain⟨a,c,f,q1,g⟩:=b.tup
  subst f
  exact⟨.ref a,_,rfl,.inr ⟨c,q1,rfl⟩,by rw[<- g.length];exact q _ H (Ak.refl H) EZ⟩
 ·split at e
  ·next i=>
   cases e
   obtain⟨v,rfl,b⟩:=Paired.one' h
   exact⟨v,_,rfl,by rw[b.str];exact⟨i,rfl⟩,q _ H (Ak.refl H) EZ⟩
  ·cases e
 ·cases e
@[simp] def IU:List D->Option (List D)
  |[.lst a]=>some a
  |[.tup a]=>some a
  |_=>none
theorem Q1:J0 K (λxs H Q=>∃p ys,xs=[.ref p]/\(BH K H p ys\/B0 K H p ys)/\∀l,H l=none->Q (.ref l) (AU H l (.lst ys))) IU:=by
 intro N H vs i xs Q j h e q
 unfold IU at e
 split at e
 ·cases e
  obtain⟨v,rfl,c⟩:=Paired.one' h
  obtain⟨a,b,d,q1,f⟩:=c
  subst d
  exact⟨a,b,rfl,.inl q1,λl g=>q b l g f⟩
 ·cases e
  obtain⟨v,rfl,c⟩:=Paired.one' h
  obtain⟨a,b,d,q1,f⟩:=c.tup
  subst d
  exact⟨a,b,rfl,.inr q1,λl g=>q b l g f⟩
 ·cases e
@[simp] def Dk:List D->Option D
  |[.lst a]=>some (.tup a)
  |[.tup a]=>some (.tup a)
  |_=>none
theorem GQ:DX K (λxs H Q=>∃p ys,xs=[.ref p]/\((BH K H p ys/\∀l,H l=none->Q (.ref l) (AU H l (.tup ys)))\/(B0 K H p ys/\Q (.ref p) H))) Dk:=by
 intro N H vs j d Q k h e q
 unfold Dk at e
 split at e
 ·cases e
  obtain⟨v,rfl,c⟩:=Paired.one' h
  obtain⟨a,b,f,q1,g⟩:=c
  subst f
  exact⟨a,b,rfl,.inl ⟨q1,λl i=>q _ _ (FU i) (J3 i g)⟩⟩
 ·cases e
  obtain⟨v,rfl,c⟩:=Paired.one' h
  obtain⟨a,b,f,q1,g⟩:=c.tup
  subst f
  exact⟨a,b,rfl,.inr ⟨q1,q _ _ (Ak.refl H) (by simp only[AF];exact⟨a,b,rfl,q1,g⟩)⟩⟩
 ·cases e
def Hj:List D->Option (List Bool)
 |[]=>some []
 |.bl b::r=>(Hj r).map (b::·)
 |_=>none
theorem WE:∀{xs:List D}{bs:List Bool},Hj xs=some bs->xs=bs.map D.bl
 |[],_,e=>by cases e;rfl
 |.bl b::r,_,e=>by
  simp only[Hj]at e
  cases h:Hj r with
  |none=>rw[h]at e;cases e
  |some bs=>rw[h]at e;cases e;rw[WE h];rfl
 |.non::_,_,e=>nomatch e
 |.int _::_,_,e=>nomatch e
 |.str _::_,_,e=>nomatch e
 |.ty _::_,_,e=>nomatch e
 |.tup _::_,_,e=>nomatch e
 |.lst _ _::_,_,e=>nomatch e
theorem WF:∀{bs:List Bool}{vs:List V},Ad K N H (bs.map D.bl) vs->vs=bs.map V.bl
 |[],_,h=>by simpa only[CA,Ad]using h
 |b::bs,_,h=>by
  simp only[AW,Ad,AF]at h
  obtain⟨v,r,e,a,t⟩:=h
  subst e a
  rw[WF t];rfl
@[simp] def HS:List D->Option D
  |[.lst a]=>(Hj a).map λbs=>.bl (bs.all id)
  |_=>none
@[simp] def rz:List D->Option D
  |[.lst a]=>(Hj a).map λbs=>.bl (bs.any id)
  |_=>none
theorem WG:DX K (λxs H Q=>∃(a:Ac)(bs:List Bool),xs=[.ref a]/\BH K H a (bs.map V.bl)/\Q (.bl (bs.all id)) H) HS:=by
 intro N H vs i d Q j h e q
 unfold HS at e
 split at e
 ·next xs=>
  cases b:Hj xs with
  |none=>rw[b]at e;cases e
  |some bs=>
   rw[b]at e;cases e
   obtain⟨v,rfl,f⟩:=Paired.one' h
   obtain⟨a,k,g,q1,c⟩:=f
   subst g
   rw[WE b]at c
   rw[WF c]at q1
   exact⟨a,bs,rfl,q1,q _ H (Ak.refl H) Fa⟩
 ·cases e
@[simp] def Q2:List D->Option D
  |[.int i,.int j]=>some (.int (if j>i then j else i))
  |_=>none
@[simp] def Q3:List D->Option D
  |[.int i,.int j]=>some (.int (if j<i then j else i))
  |_=>none
theorem jq:DX K (λxs H Q=>∃i j,xs=[.int i,.int j]/\Q (.int (if j>i then j else i)) H) Q2:=by
 intro N H vs c d Q f h e q
 unfold Q2 at e
 split at e
 ·cases e
  obtain⟨v,w,rfl,a,b⟩:=Paired.two' h
  exact⟨_,_,by rw[a.int,b.int],q _ H (Ak.refl H) EZ⟩
 ·cases e
theorem jr:DX K (λxs H Q=>∃i j,xs=[.int i,.int j]/\Q (.int (if j<i then j else i)) H) Q3:=by
 intro N H vs c d Q f h e q
 unfold Q3 at e
 split at e
 ·cases e
  obtain⟨v,w,rfl,a,b⟩:=Paired.two' h
  exact⟨_,_,by rw[a.int,b.int],q _ H (Ak.refl H) EZ⟩
 ·cases e
@[simp] def rA:List D->Option D
  |[.int i]=>some (.int (if i<0 then -i else i))
  |_=>none
@[simp] def J6:List D->Option D
  |[.int i]=>if i.natAbs.log2<1920 then some (.str (BF i))else none
  |_=>none
theorem js:DX K (λxs H Q=>∃i,xs=[.int i]/\i.natAbs.log2<1920/\Q (.str (BF i)) H) J6:=by
 intro N H vs c d Q f h e q
 unfold J6 at e
 split at e
 ·split at e
  ·next a=>
   cases e
   obtain⟨v,rfl,b⟩:=Paired.one' h
   exact⟨_,by rw[b.int],a,q _ H (Ak.refl H) Lx⟩
  ·cases e
 ·cases e
@[simp] def Gp:List D->Option D
  |[.int i]=>some (.int i)
  |[.bl k]=>some (.int (if k then 1 else 0))
  |_=>none
theorem No:DX K (λxs H Q=>(∃i,xs=[.int i]/\Q (.int i) H)\/∃k,xs=[.bl k]/\Q (.int (if k then 1 else 0)) H) Gp:=by
 intro N H vs b d Q c h e q
 unfold Gp at e
 split at e
 ·cases e
  obtain⟨v,rfl,a⟩:=Paired.one' h
  exact .inl ⟨_,by rw[a.int],q _ H (Ak.refl H) EZ⟩
 ·cases e
  obtain⟨v,rfl,a⟩:=Paired.one' h
  exact .inr ⟨_,by rw[a.bl],q _ H (Ak.refl H) EZ⟩
 ·cases e
def DY:List D->Option (List Int)
 |[]=>some []
 |.int b::r=>(DY r).map (b::·)
 |_=>none
theorem J7:∀{xs:List D}{bs:List Int},DY xs=some bs->xs=bs.map D.int
 |[],_,e=>by cases e;rfl
 |.int b::r,_,e=>by
  simp only[DY]at e
  cases h:DY r with
  |none=>rw[h]at e;cases e
  |some bs=>rw[h]at e;cases e;rw[J7 h];rfl
 |.non::_,_,e=>nomatch e
 |.bl _::_,_,e=>nomatch e
 |.str _::_,_,e=>nomatch e
 |.ty _::_,_,e=>nomatch e
 |.tup _::_,_,e=>nomatch e
 |.lst _ _::_,_,e=>nomatch e
theorem WH:∀(a:List Int),DY (a.map D.int)=some a
 |[]=>rfl
 |n::a=>by simp only[AW,DY,WH a];rfl
theorem J8:∀{bs:List Int}{vs:List V},Ad K N H (bs.map D.int) vs->vs=bs.map V.int
 |[],_,h=>by simpa only[CA,Ad]using h
 |b::bs,_,h=>by
  simp only[AW,Ad,AF]at h
  obtain⟨v,r,e,a,t⟩:=h
  subst e a
  rw[J8 t];rfl
end
section
variable{X:Cx}
theorem WI(j:X.calm=true):A9 X (.builtin "sum") (λxs H Q=>∃(a:Ac)(b:List Int),xs=[.ref a]/\BH X.K H a (b.map V.int)/\Q (.int b.sum) H):=by
 intro f s x H xs y Q I r h
 obtain⟨a,b,rfl,k,q⟩:=h
 obtain⟨u,rfl,l⟩:=DS r
 cases l
 obtain⟨c,m,p,z⟩:=I.list k
 have g:IntsAre c b:=Ld m
 obtain⟨d,i⟩:=g.allInts.items
 have e:s.heap.IsList a (BG d):=i ▸ p.isList
 refine sum_intListG (I.ok.hd j) e λA n o t=>?_
 have v:b=d.toList.map (·.1):=by
  rw[<- nums_intItems,<- i]
  exact(show numsOf c.toArray.toList=b from g.numsOf).symm
 have w:preSum (numAt d) d.size=b.sum:=by
  rw[preSum_eq,LH (by simp),v]
 rw[w]
 exact⟨.int b.sum,H,I.kept (t':=n) t,⟨_,rfl⟩,q⟩
theorem jt(x:X.calm=true):A9 X (.builtin "min") (λxs H Q=>∃(a:Ac)(c:List Int),xs=[.ref a]/\BH X.K H a (c.map V.int)/\0<c.length/\∀m,m∈c->(∀a,a∈c->m<=a)->Q (.int m) H):=by
 intro l s M H xs N Q I r h
 obtain⟨a,c,rfl,y,g,q⟩:=h
 obtain⟨u,rfl,z⟩:=DS r
 cases z
 obtain⟨i,A,p,O⟩:=I.list y
 have n:IntsAre i c:=Ld A
 obtain⟨f,e⟩:=n.allInts.items
 have d:c=f.toList.map (·.1):=by rw[<- n.numsOf,<- nums_intItems,<- e]
 have k:0<f.size:=by
  have o:=g;rw[d,B1,Gb]at o;exact o
 have B:s.heap.IsList a (BG f):=e ▸ p.isList
 refine min_intList (I.ok.hd x) B k λv T C E G=>?_
 obtain⟨t,rfl⟩:=intItems_at E
 obtain⟨U,J⟩:=argBest_lt (numAt f) (f.size-1)
 refine⟨.int _,H,I.kept (t':=C) G,⟨t,rfl⟩,q _ ?_ λb w=>?_⟩
 ·rw[d,numAt_eq];exact getD_mem (by rw[B1,Gb];omega)
 ·rw[d]at w
  obtain⟨j,L,rfl⟩:=mem_getD w
  rw[B1,Gb]at L
  rw[<- numAt_eq];exact J j (by omega)
theorem ju(x:X.calm=true):A9 X (.builtin "max") (λxs H Q=>∃(a:Ac)(c:List Int),xs=[.ref a]/\BH X.K H a (c.map V.int)/\0<c.length/\∀m,m∈c->(∀a,a∈c->a<=m)->Q (.int m) H):=by
 intro l s M H xs N Q I r h
 obtain⟨a,c,rfl,y,g,q⟩:=h
 obtain⟨u,rfl,z⟩:=DS r
 cases z
 obtain⟨i,A,p,O⟩:=I.list y
 have n:IntsAre i c:=Ld A
 obtain⟨f,e⟩:=n.allInts.items
 have d:c=f.toList.map (·.1):=by rw[<- n.numsOf,<- nums_intItems,<- e]
 have k:0<f.size:=by
  have o:=g;rw[d,B1,Gb]at o;exact o
 have B:s.heap.IsList a (BG f):=e ▸ p.isList
 refine max_intList (I.ok.hd x) B k λv T C E G=>?_
 obtain⟨t,rfl⟩:=intItems_at E
 obtain⟨U,J⟩:=argBest_gt (numAt f) (f.size-1)
 refine⟨.int _,H,I.kept (t':=C) G,⟨t,rfl⟩,q _ ?_ λb w=>?_⟩
 ·rw[d,numAt_eq];exact getD_mem (by rw[B1,Gb];omega)
 ·rw[d]at w
  obtain⟨j,L,rfl⟩:=mem_getD w
  rw[B1,Gb]at L
  rw[<- numAt_eq];exact J j (by omega)
end
def J9:List Int->Option Int
 |[]=>none
 |x::a=>some (a.foldl (λm y=>if y<m then y else m) x)
def LI:List Int->Option Int
 |[]=>none
 |x::a=>some (a.foldl (λm y=>if y>m then y else m) x)
theorem WJ:∀(xs:List Int)(x:Int),(xs.foldl (λm y=>if y<m then y else m) x)∈x::xs/\∀a∈x::xs,(xs.foldl (λm y=>if y<m then y else m) x)<=a
 |[],x=>by simp
 |y::e,x=>by
  simp only[IV]
  obtain⟨f,d⟩:=WJ e (if y<x then y else x)
  have b:=d _ BC
  have g:(if y<x then y else x)<=x:=by split<;>omega
  have i:(if y<x then y else x)<=y:=by split<;>omega
  refine⟨?_,λa c=>?_⟩
  ·rcases Br.mp f with h|h
   ·rw[h];split<;>simp
   ·exact Bv _ (Bv _ h)
  ·rcases Br.mp c with rfl|c
   ·exact Int.le_trans b g
   ·rcases Br.mp c with rfl|c
    ·exact Int.le_trans b i
    ·exact d a (Bv _ c)
theorem WK:∀(xs:List Int)(x:Int),(xs.foldl (λm y=>if y>m then y else m) x)∈x::xs/\∀a∈x::xs,a<=(xs.foldl (λm y=>if y>m then y else m) x)
 |[],x=>by simp
 |y::e,x=>by
  simp only[IV]
  obtain⟨f,d⟩:=WK e (if y>x then y else x)
  have b:=d _ BC
  have g:x<=(if y>x then y else x):=by split<;>omega
  have i:y<=(if y>x then y else x):=by split<;>omega
  refine⟨?_,λa c=>?_⟩
  ·rcases Br.mp f with h|h
   ·rw[h];split<;>simp
   ·exact Bv _ (Bv _ h)
  ·rcases Br.mp c with rfl|c
   ·exact Int.le_trans g b
   ·rcases Br.mp c with rfl|c
    ·exact Int.le_trans i b
    ·exact d a (Bv _ c)
theorem WM{b:List Int}{m k:Int}(h:J9 b=some k)(c:m∈b)(d:∀a,a∈b->m<=a):m=k:=by
 cases b with
 |nil=>cases h
 |cons x e=>
  cases h
  obtain⟨q1,q2⟩:=WJ e x
  have:=d _ q1
  have:=q2 _ c
  omega
theorem jv{b:List Int}{m k:Int}(h:LI b=some k)(c:m∈b)(d:∀a,a∈b->a<=m):m=k:=by
 cases b with
 |nil=>cases h
 |cons x e=>
  cases h
  obtain⟨q1,q2⟩:=WK e x
  have:=d _ q1
  have:=q2 _ c
  omega
section
variable{K:Ar}
@[simp] def Np:List D->Option D
  |[.lst a]=>(DY a).map λb=>.int b.sum
  |_=>none
@[simp] def Q4:List D->Option D
  |[.lst a]=>((DY a).bind J9).map D.int
  |_=>none
@[simp] def Q5:List D->Option D
  |[.lst a]=>((DY a).bind LI).map D.int
  |_=>none
theorem WN:DX K (λxs H Q=>∃(a:Ac)(c:List Int),xs=[.ref a]/\BH K H a (c.map V.int)/\Q (.int c.sum) H) Np:=by
 intro N H vs j d Q k h e q
 unfold Np at e
 split at e
 ·next xs=>
  cases b:DY xs with
  |none=>rw[b]at e;cases e
  |some bs=>
   rw[b]at e;cases e
   obtain⟨v,rfl,g⟩:=Paired.one' h
   obtain⟨a,l,i,q1,f⟩:=g
   subst i
   rw[J7 b]at f
   rw[J8 f]at q1
   exact⟨a,bs,rfl,q1,q _ H (Ak.refl H) EZ⟩
 ·cases e
theorem jw:DX K (λxs H Q=>∃(a:Ac)(b:List Int),xs=[.ref a]/\BH K H a (b.map V.int)/\0<b.length/\∀m,m∈b->(∀a,a∈b->m<=a)->Q (.int m) H) Q4:=by
 intro N H vs o d Q p h e q
 unfold Q4 at e
 split at e
 ·next xs=>
  cases f:DY xs with
  |none=>rw[f]at e;cases e
  |some bs=>
   rw[f]at e
   simp only[AA]at e
   cases c:J9 bs with
   |none=>rw[c]at e;cases e
   |some k=>
    rw[c]at e;cases e
    obtain⟨v,rfl,i⟩:=Paired.one' h
    obtain⟨a,r,j,q1,g⟩:=i
    subst j
    rw[J7 f]at g
    rw[J8 g]at q1
    refine⟨a,bs,rfl,q1,?_,λm l n=>?_⟩
    ·cases bs with
     |nil=>cases c
     |cons=>simp
    ·rw[WM c l n];exact q _ H (Ak.refl H) EZ
 ·cases e
theorem jx:DX K (λxs H Q=>∃(a:Ac)(b:List Int),xs=[.ref a]/\BH K H a (b.map V.int)/\0<b.length/\∀m,m∈b->(∀a,a∈b->a<=m)->Q (.int m) H) Q5:=by
 intro N H vs o d Q p h e q
 unfold Q5 at e
 split at e
 ·next xs=>
  cases f:DY xs with
  |none=>rw[f]at e;cases e
  |some bs=>
   rw[f]at e
   simp only[AA]at e
   cases c:LI bs with
   |none=>rw[c]at e;cases e
   |some k=>
    rw[c]at e;cases e
    obtain⟨v,rfl,i⟩:=Paired.one' h
    obtain⟨a,r,j,q1,g⟩:=i
    subst j
    rw[J7 f]at g
    rw[J8 g]at q1
    refine⟨a,bs,rfl,q1,?_,λm l n=>?_⟩
    ·cases bs with
     |nil=>cases c
     |cons=>simp
    ·rw[jv c l n];exact q _ H (Ak.refl H) EZ
 ·cases e
@[simp] def IW:D->Option String
  |.non=>some "NoneType"
  |.bl _=>some "bool"
  |.int _=>some "int"
  |.str _=>some "str"
  |.tup _=>some "tuple"
  |.lst _=>some "list"
  |.lst _ true=>none
  |.ty _=>none
def Ka(t n:String):Bool:=t==n||(t=="bool"&&n=="int")
end
def Gq:List String:=["NoneType","bool","int","str","tuple","list"]
theorem WP(K:Ar):∀t∈Gq,∀n∈Gq,PySem.W.kitOne K (.type t) (.type n)=some (Ka t n):=by
 intro t a n b
 simp only[Gq,Br,Fv,or_false]at a b
 rcases a with rfl|rfl|rfl|rfl|rfl|rfl<;>rcases b with rfl|rfl|rfl|rfl|rfl|rfl<;>with_unfolding_all rfl
theorem WQ(K:Ar){t:String}(b:t∈Gq):∀(a:List String),(∀n∈a,n∈Gq)->PySem.W.kitAny K (.type t) (a.map Value.type)=some (a.any λn=>Ka t n)
 |[],_=>rfl
 |n::a,h=>by
  have c:=WP K t b n (h n BC)
  have d:=WQ K b a λm e=>h m (Bv _ e)
  simp only[AW,PySem.W.kitAny,c,d,List.any_cons]
  cases Ka t n<;>rfl
theorem WR{d:D}{t:String}(h:IW d=some t):t∈Gq:=by
 cases d with
 |lst b a=>cases a<;>simp[IW]at h;subst h;simp[Gq]
 |_=>simp[IW]at h<;>subst h<;>simp[Gq]
section
variable{X:Cx}{K:Ar}
theorem jy{h:List (Ac×AM)}{σ:St}{H:Hp}{s:Ab}(I:Inv X h σ H s){N:Fb}{d:D}{x:V}{u:Aa}{t:String}(g:AI X.K N H d x)(c:RelV x u)(f:IW d=some t):
  ∃l:Am->Prop,PySem.W.KitX X.K u (.type t) l/\l s.heap/\u≠.builtin "__main__.__loader__#opaque":=by
 cases d with
 |non=>cases f;rw[g.non]at c;cases c;exact⟨_,PySem.W.kitx_none,trivial,λz=>nomatch z⟩
 |bl b=>cases f;rw[g.bl]at c;cases c;exact⟨_,PySem.W.kitx_bool,trivial,λz=>nomatch z⟩
 |int b=>cases f;rw[g.int]at c;obtain⟨t,rfl⟩:=c;exact⟨_,PySem.W.kitx_int,trivial,λz=>nomatch z⟩
 |str b=>cases f;rw[g.str]at c;obtain⟨t,rfl⟩:=c;exact⟨_,PySem.W.kitx_str,trivial,λz=>nomatch z⟩
 |ty n=>cases f
 |tup m=>
  cases f
  obtain⟨a,vs,e,q,r⟩:=g.tup
  subst e;cases c
  obtain⟨i,_,⟨o,j,k,_⟩,_⟩:=I.tuple q
  exact⟨_,PySem.W.kitx_tuple,⟨o,j,k⟩,λz=>nomatch z⟩
 |lst m p=>
  cases p with
  |true=>cases f
  |false=>
  cases f
  obtain⟨a,vs,e,q,r⟩:=g
  subst e;cases c
  obtain⟨i,_,⟨o,n,j,k,_⟩,_⟩:=I.list q
  exact⟨_,PySem.W.kitx_list,⟨o,j,k⟩,λz=>nomatch z⟩
@[simp] def CP:D->Option (List String)
  |.ty n=>some [n]
  |.tup a=>tysL a
  |_=>none
where tysL:List D->Option (List String)
 |[]=>some []
 |.ty n::r=>(tysL r).map (n::·)
 |_=>none
theorem WS:∀{xs:List D}{a:List String},CP.tysL xs=some a->xs=a.map D.ty
 |[],_,e=>by cases e;rfl
 |.ty b::r,_,e=>by
  simp only[CP.tysL]at e
  cases h:CP.tysL r with
  |none=>rw[h]at e;cases e
  |some bs=>rw[h]at e;cases e;rw[WS h];rfl
 |.non::_,_,e=>nomatch e
 |.bl _::_,_,e=>nomatch e
 |.int _::_,_,e=>nomatch e
 |.str _::_,_,e=>nomatch e
 |.tup _::_,_,e=>nomatch e
 |.lst _ _::_,_,e=>nomatch e
@[simp] def FZ:List D->Option D
  |[x,c]=>(CP c).bind λa=>if(∀n∈a,n∈Gq)then(IW x).map λt=>.bl (a.any λn=>Ka t n)else none
  |_=>none
def WT(K:Ar):List V->Hp->VK->Prop:=λvs H Q=>∃N d c x y a t,vs=[x,y]/\AI K N H d x/\AI K N H c y/\CP c=some a/\(∀n∈a,n∈Gq)/\IW d=some t/\Q (.bl (a.any λn=>Ka t n)) H
theorem WU{N:Fb}{H:Hp}:∀{a:List String}{vs:List V},Ad K N H (a.map D.ty) vs->vs=a.map V.ty
 |[],_,h=>by simpa only[CA,Ad]using h
 |b::bs,_,h=>by
  simp only[AW,Ad,AF]at h
  obtain⟨v,r,e,c,t⟩:=h
  subst e c
  rw[WU t];rfl
theorem WV:∀{a:List String}{us:List Aa},Aq (a.map V.ty) us->us=a.map Value.type
 |[],_,r=>by cases r;rfl
 |n::a,_,r=>by
  cases r with
  |cons b c=>cases b;rw[WV c];rfl
theorem HU:A9 X (.builtin "isinstance") (WT X.K):=by
 intro l s O H w T Q I r h
 obtain⟨N,d,c,x,y,z,t,rfl,A,m,b,f,i,q⟩:=h
 obtain⟨u,U,rfl,B,j⟩:=K8 r
 obtain⟨Y,Z,p,g⟩:=jy I A B i
 cases c with
 |ty n=>
  cases b
  rw[m.ty]at j;cases j
  refine PySem.W.kia_one Z I.kIn p (WP X.K t (WR i) n (f n (by simp))) g λk=>⟨.bl _,H,I.tok k,rfl,?_⟩
  simpa using q
 |tup w=>
  have e:=WS b
  subst e
  obtain⟨a,vs,e,C,dl⟩:=m.tup
  subst e;cases j
  obtain⟨E,G,⟨⟨cls,dd,data,sl⟩,J,o,n,v⟩,_⟩:=I.tuple C
  simp only at o v
  subst o v
  have L:=WU dl
  subst L
  have M:=WV G
  subst M
  exact PySem.W.kia_tup Z I.kIn p J (WQ X.K (WR i) z f) g λk=>⟨.bl _,H,I.tok k,rfl,q⟩
 |non=>cases b
 |bl _=>cases b
 |int _=>cases b
 |str _=>cases b
 |lst _=>cases b
theorem HV:DX K (WT K) FZ:=by
 intro N H vs k d Q l h e q
 unfold FZ at e
 split at e
 ·next x c=>
  cases a:CP c with
  |none=>rw[a]at e;cases e
  |some g=>
   rw[a]at e
   simp only[AA]at e
   split at e
   ·next b=>
    cases f:IW x with
    |none=>rw[f]at e;cases e
    |some t=>
     rw[f]at e;cases e
     obtain⟨v,w,rfl,i,j⟩:=Paired.two' h
     exact⟨N,x,c,v,w,g,t,rfl,i,j,a,b,f,q _ H (Ak.refl H) Fa⟩
   ·cases e
 ·cases e
theorem HW{M:Fb}{a:Hp}{x:Ae}{n:String}{pos:A5}(b:Gl X x)(c:X.mg x=none)(d:Ep x=some (.type n))(e:x≠"__name__":=by decide)(hd:(x==("__debug__":Ae))=false:=by decide):JE X (.Name x pos) (tD K M a λ_=>some (.ty n)):=⟨Lk (U0 b c d (v:=.ty n) rfl e hd) λ_ _=>by simp only[AF]⟩
end
section
variable{X:Cx}{K:Ar}{M:Fb}{H0:Hp}{a b c e tg iter:Expr}{es:List Expr}{f g h:VE->Option D}{fa:VE->Option (List Sl)}{pos:A5}
theorem vv(i:Nat){x:Ae}(b:X.N[i]?=some x:=by rfl)(c:Dr X.env.scope x:=by first|exact Or.inl rfl|exact Or.inr (Or.inl rfl)|exact Or.inr (Or.inr rfl))(hd:(x==("__debug__":Ae))=false:=by decide)(a:(x==("__classdict__":Ae))=false:=by decide):
  PE X (.Name x pos) (tD K M H0 λρ=>Bb ρ i):=iD b c hd a
theorem Ct(i:Nat){x:Ae}(b:X.N[i]?=some x:=by rfl)(c:Dr X.env.scope x:=by first|exact Or.inl rfl|exact Or.inr (Or.inl rfl)|exact Or.inr (Or.inr rfl))(hd:(x==("__debug__":Ae))=false:=by decide)(a:(x==("__classdict__":Ae))=false:=by decide):JE X (.Name x pos) (tD K M H0 λρ=>Bb ρ i):=⟨vv i b c hd a⟩
theorem Zk(i:Nat){x:Ae}(b:X.N[i]?=some x:=by rfl)(c:Dr X.env.scope x:=by first|exact Or.inl rfl|exact Or.inr (Or.inl rfl)|exact Or.inr (Or.inr rfl))(hd:(x==("__debug__":Ae))=false:=by decide)(a:(x==("__classdict__":Ae))=false:=by decide):JE X (.Name x pos) (tP K M H0 λρ=>Ah ρ i):=⟨iE b c hd a⟩
theorem Ci(i:Nat){x:Ae}(b:X.N[i]?=some x:=by rfl)(c:Dr X.env.scope x:=by first|exact Or.inl rfl|exact Or.inr (Or.inl rfl)|exact Or.inr (Or.inr rfl))(hd:(x==("__debug__":Ae))=false:=by decide)(a:(x==("__classdict__":Ae))=false:=by decide):JE X (.Name x pos) (tQ K M H0 λρ=>Be ρ i):=⟨iY b c hd a⟩
theorem va(i:Nat){x:Ae}(b:X.N[i]?=some x:=by rfl)(c:Dr X.env.scope x:=by first|exact Or.inl rfl|exact Or.inr (Or.inl rfl)|exact Or.inr (Or.inr rfl))(hd:(x==("__debug__":Ae))=false:=by decide)(a:(x==("__classdict__":Ae))=false:=by decide):
  PE X (.Name x pos) (Lo K M H0 λρ=>An ρ i):=iI b c hd a
theorem Zr(i:Nat){x:Ae}(b:X.N[i]?=some x:=by rfl)(c:Dr X.env.scope x:=by first|exact Or.inl rfl|exact Or.inr (Or.inl rfl)|exact Or.inr (Or.inr rfl))(hd:(x==("__debug__":Ae))=false:=by decide)(a:(x==("__classdict__":Ae))=false:=by decide):JE X (.Name x pos) (Lo K M H0 λρ=>An ρ i):=⟨va i b c hd a⟩
theorem Kb(i:Nat){x:Ae}{a:A5}(c:X.N[i]?=some x:=by rfl)(d:Dr X.env.scope x:=by first|exact Or.inl rfl|exact Or.inr (Or.inl rfl)|exact Or.inr (Or.inr rfl))(hd:(x==("__debug__":Ae))=false:=by decide)(b:(x==("__classdict__":Ae))=false:=by decide):JS X (.Return (some (.Name x a)) pos) (tS K M H0 λρ=>B3 (Cn ρ i)):=⟨iP c d hd b⟩
theorem WW(e:X.A.units+64<Az)(c:JE X a (tP X.K M H0 f))(d:JE X b (tP X.K M H0 g)):JE X (.Compare a [.Eq] [b] pos) (tD X.K M H0 (Ze CH f g)):=⟨have c:=c.h;have d:=d.h;JX (Wt e) Wv c d (G2 _ (by decide) (by decide))⟩
theorem WX(e:X.A.units+64<Az)(c:JE X a (tP X.K M H0 f))(d:JE X b (tP X.K M H0 g)):JE X (.Compare a [.NotEq] [b] pos) (tD X.K M H0 (Ze Dy f g)):=⟨have c:=c.h;have d:=d.h;JX (Wu e) Ww c d (G2 _ (by decide) (by decide))⟩
theorem jz(e:X.A.units+64<Az)(c:JE X a (tP X.K M H0 f))(d:JE X b (tP X.K M H0 g)):JE X (.Compare a [.Gt] [b] pos) (tD X.K M H0 (Ze HQ f g)):=⟨have c:=c.h;have d:=d.h;JX Vi (Nj _) c d (G2 _ (by decide) (by decide))⟩
theorem jA(e:X.A.units+64<Az)(c:JE X a (tP X.K M H0 f))(d:JE X b (tP X.K M H0 g)):JE X (.Compare a [.GtE] [b] pos) (tD X.K M H0 (Ze QX f g)):=⟨have c:=c.h;have d:=d.h;JX gp (Nj _) c d (G2 _ (by decide) (by decide))⟩
theorem jB(e:X.A.units+64<Az)(c:JE X a (tP X.K M H0 f))(d:JE X b (tP X.K M H0 g))(i:Ga .In b=false:=by with_unfolding_all rfl):JE X (.Compare a [.In] [b] pos) (tD X.K M H0 (Ze (Dj false) f g)):=⟨have c:=c.h;have d:=d.h;JX ((Wy e).or Vj) Wz c d i⟩
theorem Fw(e:X.A.units+64<Az)(c:JE X a (tP X.K M H0 f))(d:JE X b (tP X.K M H0 g)):JT X (.Compare a [.Eq] [b] pos) (BI X.K M H0 λρ=>AO (Ze CH f g ρ)):=⟨have c:=c.h;have d:=d.h;IN (Wt e) Wv c d (G2 _ (by decide) (by decide))⟩
theorem Kc(e:X.A.units+64<Az)(c:JE X a (tP X.K M H0 f))(d:JE X b (tP X.K M H0 g)):JT X (.Compare a [.NotEq] [b] pos) (BI X.K M H0 λρ=>AO (Ze Dy f g ρ)):=⟨have c:=c.h;have d:=d.h;IN (Wu e) Ww c d (G2 _ (by decide) (by decide))⟩
theorem WY(e:X.A.units+64<Az)(c:JE X a (tP X.K M H0 f))(d:JE X b (tP X.K M H0 g)):JT X (.Compare a [.Lt] [b] pos) (BI X.K M H0 λρ=>AO (Ze IT f g ρ)):=⟨have c:=c.h;have d:=d.h;IN (WB e) WC c d (G2 _ (by decide) (by decide))⟩
theorem WZ(e:X.A.units+64<Az)(c:JE X a (tP X.K M H0 f))(d:JE X b (tP X.K M H0 g)):JT X (.Compare a [.Gt] [b] pos) (BI X.K M H0 λρ=>AO (Ze HQ f g ρ)):=⟨have c:=c.h;have d:=d.h;IN Vi (Nj _) c d (G2 _ (by decide) (by decide))⟩
theorem Q6(e:X.A.units+64<Az)(c:JE X a (tP X.K M H0 f))(d:JE X b (tP X.K M H0 g))(i:Ga .In b=false:=by with_unfolding_all rfl):JT X (.Compare a [.In] [b] pos) (BI X.K M H0 λρ=>AO (Ze (Dj false) f g ρ)):=⟨have c:=c.h;have d:=d.h;IN ((Wy e).or Vj) Wz c d i⟩
theorem Q7(e:X.A.units+64<Az)(c:JE X a (tP X.K M H0 f))(d:JE X b (tP X.K M H0 g))(i:Ga .NotIn b=false:=by with_unfolding_all rfl):JT X (.Compare a [.NotIn] [b] pos) (BI X.K M H0 λρ=>AO (Ze (Dj true) f g ρ)):=⟨have c:=c.h;have d:=d.h;IN ((jo e).or gq) jp c d i⟩
@[simp] def LJ(F b:D->D->Option D)(f g h:VE->Option D):VE->Option D:=λa=>(f a).bind λx=>(g a).bind λy=>match F x y with
  |some (.bl true)=>(h a).bind λz=>b y z
  |some (.bl false)=>some (.bl false)
  |_=>none
theorem jC{r t:R2}{F A:D->D->Option D}(B:C5 K r F)(k:C5 K t A){σ:St}{H:Hp}{Q:VK}(q:tD K M H0 (LJ F A f g h) σ H Q):Vl r t (tP K M H0 f) (tP K M H0 g) (tP K M H0 h) σ H Q:=by
 obtain⟨a,d,R,e,q⟩:=q
 unfold LJ at e
 cases i:f a with
 |none=>rw[i]at e;cases e
 |some x=>
  cases l:g a with
  |none=>rw[i,l]at e;cases e
  |some y=>
   rw[i,l]at e
   simp only[AA]at e
   refine⟨a,x,R,i,λv U j C=>⟨a,y,R.st j,l,λu E c m=>?_⟩⟩
   have R2:=(R.st j).st c
   split at e
   ·next n=>
    cases o:h a with
    |none=>rw[o]at e;cases e
    |some z=>
     rw[o]at e
     refine B _ E v u x y _ _ R2.nh (C.same c) m n λw G b p=>⟨true,by simpa only[AF]using p,IJ ⟨a,z,R2.st b,o,λI J s L=>?_⟩⟩
     exact k _ J u I y z d Q (((R2.st b).st s)).nh ((m.same b).same s) L e λw2 N O T=>q w2 N ((((j.trans c).trans b).trans s).trans O) T
   ·next n=>
    cases e
    exact B _ E v u x y _ _ R2.nh (C.same c) m n λw G b p=>⟨false,by simpa only[AF]using p,IK (q _ G ((j.trans c).trans b) Fa)⟩
   ·cases e
theorem jD{op d:CmpOp}{r m:R2}{F n:D->D->Option D}(o:B5 X (Df op) r)(e:B5 X (Df d) m)(p:C5 K r F)(i:C5 K m n)(j:JE X a (tP K M H0 f))(k:JE X b (tP K M H0 g))(l:JE X c (tP K M H0 h))(s:lastMarks [op,d] [b,c]=false:=by with_unfolding_all rfl):JT X (.Compare a [op,d] [b,c] pos) (BI K M H0 λρ=>AO (LJ F n f g h ρ)):=⟨have j:=j.h;have k:=k.h;have l:=l.h;(gv o e j k l s).mono λ_ _ _ q=>V0 (λ_ _ _ z=>jC p i z) q⟩
@[simp] def C9:Option D->Option Bool
  |some .non=>some false
  |some (.bl b)=>some b
  |some (.int i)=>some (i != 0)
  |some (.str y)=>if y.length<=AG then some ((y.length:Int) != 0)else none
  |some (.lst a)=>some (!a.isEmpty)
  |some (.tup a)=>some (!a.isEmpty)
  |_=>none
theorem Ad.isEmpty{N:Fb}{H:Hp}{xs:List D}{vs:List V}(h:Ad K N H xs vs):vs.isEmpty=xs.isEmpty:=by
 cases xs with
 |nil=>simp only[Ad]at h;subst h;rfl
 |cons x xs=>simp only[Ad]at h;obtain⟨_,_,e,_⟩:=h;subst e;rfl
theorem Gr(i:JE X a (tP X.K M H0 f))(m:∀b,isTrue a X.env b=(do let v <- b;standAt a.pos;holding [v] (truthy v)):=by intro _;rfl):JT X a (BI X.K M H0 λρ=>C9 (f ρ)):=⟨have i:=i.h;(gy i m).mono λo H Q ⟨ρ,k,R,e,q⟩=>by
  try dsimp only at e q
  unfold C9 at e
  split at e
  ·next c=>cases e;exact⟨ρ,_,R,c,λv d s g=>⟨_,by rw[g.non];rfl,q d s⟩⟩
  ·next c=>cases e;exact⟨ρ,_,R,c,λv d s g=>⟨_,by rw[g.bl];rfl,q d s⟩⟩
  ·next c=>cases e;exact⟨ρ,_,R,c,λv d s g=>⟨_,by rw[g.int];rfl,q d s⟩⟩
  ·next c=>
   split at e
   ·next n=>cases e;exact⟨ρ,_,R,c,λv d s g=>⟨_,by rw[g.str];exact⟨n,rfl⟩,q d s⟩⟩
   ·cases e
  ·next c=>
   cases e
   refine⟨ρ,_,R,c,λv d s g=>⟨_,?_,q d s⟩⟩
   obtain⟨p,vs,j,q1,l⟩:=g
   subst j
   exact .inl ⟨vs,q1,by rw[l.isEmpty]⟩
  ·next c=>
   cases e
   refine⟨ρ,_,R,c,λv d s g=>⟨_,?_,q d s⟩⟩
   obtain⟨p,vs,j,q1,l⟩:=g.tup
   subst j
   exact .inr (.inl ⟨vs,q1,by rw[l.isEmpty]⟩)
  ·cases e⟩
@[simp] def Zz:D->Option (List D)
  |.lst a=>some a
  |.tup a=>some a
  |.str x=>some (x.cps.toList.map λc=>D.str ⟨#[c]⟩)
  |_=>none
theorem ZY{l:Expr}(b:JE X l (tQ X.K M H0 f)):JI X tg l (tI X.K M H0 λρ=>(f ρ).bind Zz):=⟨have b:=b.h;λa s g H i I ⟨ρ,j,R,e,q⟩=>by
 try dsimp only at e
 cases c:f ρ with
 |none=>rw[c]at e;cases e
 |some d=>
  rw[c]at e
  cases d with
  |lst k m=>
   cases m with
   |true=>cases e
   |false=>exact i4 b a s g H i I ⟨ρ,j,R,by dsimp only;rw[c];exact e,q⟩
  |tup k=>exact i8 b a s g H i I ⟨ρ,j,R,by dsimp only;rw[c];exact e,q⟩
  |str x=>exact i9 b a s g H i I ⟨ρ,j,R,by dsimp only;rw[c];exact e,q⟩
  |_=>cases e⟩
@[simp] def rB(i:Nat)(o:Option (List D))(ρ:VE):Ao:=match Cn ρ i,o with
  |some a,some b=>if a.length+b.length<=AG then .next (ρ.set i (.own (a++b)))else .fail
  |_,_=>.fail
@[simp] def rC(i:Nat)(ρ:VE):Ao:=match Cn ρ i with
  |some a=>.next (ρ.set i (.own a.reverse))
  |_=>.fail
@[simp] def rD(i j:Nat)(ρ:VE):Ao:=match Cn ρ j with
  |some a=>.next ((ρ.set j .no).set i (.own a))
  |_=>.fail
@[simp] def rE(i j:Nat)(ρ:VE):Ao:=match EX ρ j with
  |some a=>.next ((ρ.set j .no).set i (.own a true))
  |_=>.fail
end
end L2
namespace L2
theorem IY{X:Cx}{e:PySem.Expr}{t:TT}(h:JW X e t):JT X e t:=⟨h.h.pt⟩
end L2
namespace L2
open PySem PySem.Spec PyProof.Rows
def Fd(c:List Int):List Int:=c.mergeSort λa b=>decide (a<=b)
theorem Nq(a:List Int):(Fd a).Perm a:=List.mergeSort_perm _ _
theorem W0(d:List Int):(Fd d).Pairwise (·<=·):=by
 have h:=List.pairwise_mergeSort (le:=λa b:Int=>decide (a<=b)) (by intro a b c f g;simp at *;omega) (by intro a b;simp;omega) d
 exact h.imp λh=>by simpa using h
theorem jE{c d:List Int}(e:d.Perm c)(h:d.Pairwise (·<=·)):d=Fd c:=
 W1 (le:=(·<=·)) (λa b _ _ f g=>Int.le_antisymm f g) h (W0 c) (e.trans (Nq c).symm)
theorem Q8(a:List Int):(Fd a).length=a.length:=(Nq a).length_eq
section
variable{X:Cx}{K:Ar}
theorem jF:A9 X (.builtin "sorted") (λxs H Q=>∃(a:Ac)(c:List Int),xs=[.ref a]/\BH X.K H a (c.map V.int)/\c.length<64/\∀p,H p=none->Q (.ref p) (AU H p (.lst ((Fd c).map V.int)))):=by
 intro f s w H xs x Q I r h
 obtain⟨a,c,rfl,j,k,q⟩:=h
 obtain⟨u,rfl,l⟩:=DS r
 cases l
 obtain⟨d,g,p,i⟩:=I.list j
 have m:=g.length
 rw[B1]at m i
 refine sorted_ints p.isList (Ld g) (by omega) λout n a1 a2 a3=>?_
 obtain⟨e,t⟩:=sortedAll_at s.heap d out
 have v:=jE a2 a3
 subst v
 refine⟨.ref _,_,I.laid (t':=s.toks) (o:=.lst ((Fd c).map V.int)) (λb o q=>sortedAll_old q) (Nat.le_succ _) ?_,rfl,q _ (I.hok.fresh (Nat.le_succ _))⟩
 exact⟨by rw[B1,Q8];exact i,out.toList,e,Qz a1,t⟩
def LK:List D->Option (List D)
 |[.lst b]=>(DY b).bind λa=>if a.length<64 then some ((Fd a).map D.int)else none
 |_=>none
theorem jG:J0 K (λxs H Q=>∃(a:Ac)(b:List Int),xs=[.ref a]/\BH K H a (b.map V.int)/\b.length<64/\∀p,H p=none->Q (.ref p) (AU H p (.lst ((Fd b).map V.int)))) LK:=by
 intro N H vs l xs Q m h e q
 unfold LK at e
 split at e
 ·next g=>
  cases c:DY g with
  |none=>rw[c]at e;cases e
  |some b=>
   rw[c]at e
   simp only[AA]at e
   split at e
   ·next d=>
    cases e
    obtain⟨v,rfl,i⟩:=Paired.one' h
    obtain⟨a,n,j,q1,f⟩:=i
    subst j
    rw[J7 c]at f
    rw[J8 f]at q1
    exact⟨a,b,rfl,q1,d,λp k=>q _ p k (Ad.ints _)⟩
   ·cases e
 ·cases e
def rF(i:Nat)(b c:Option D)(ρ:VE):Ao:=match Cn ρ i,b,c with
 |some a,some (.int k),some d=>match DU a.length k with
  |some j=>.next (ρ.set i (.own (a.set j d)))
  |none=>.fail
 |_,_,_=>.fail
def W2(K:Ar)(r:V->List V->Hp->VK->Prop)(F:Ae->List D->Option D):Prop:=∀(N:Fb)(H:Hp)(z:Ae)(vs:List V)(c:List D)(d:D)(Q:VK),(∀a,N a->H a≠none)->Paired (AI K N H) c vs->F z c=some d ->
 (∀v b,Ak H b->AF K N b d v->Q v b)->r (.str z) vs H Q
@[simp] def Q9(F:Ae->List D->Option D)(f:VE->Option D)(b:VE->Option (List Sl)):VE->Option D:=λa=>match f a with
  |some (.str z)=>((b a).bind By).bind (F z)
  |_=>none
@[simp] def rG(F:Ae->List D->Option D)(f:VE->Option D):VE->Option D:=λa=>match f a with
  |some (.str z)=>F z []
  |_=>none
section
variable{M:Fb}{H0:Hp}{o e:Expr}{es:List Expr}{f:VE->Option D}{fa:VE->Option (List Sl)}{name:Ae}{apos cpos:A5}{id:String}{r:V->List V->Hp->VK->Prop}{F:Ae->List D->Option D}
theorem jH(u:PlainAttrs "str")(slot:Slot "str" name id)(i:typeOf (.builtin id)=AK (.type "method_descriptor"))(y:G6 X id r)(A:W2 X.K r F)(j:JE X o (tP X.K M H0 f))(k:JA X (e::es) (Dh X.K M H0 fa))(b:Lf o name X.env (Ay o X.env)=Ay o X.env:=by rfl) (g:((AR cpos (AN (e::es) X.env)).all (λx=>!x.1)&&(backToKw cpos (IC [] X.env)).all (λx=>x.1.isSome)
   && decide ((e::es).length+([]:List BE).length+(if([]:List BE).isEmpty then 0 else 1)<30))=true:=by rfl) (c:(apos.endLine==cpos.line)=true:=by rfl) (B:AN (e::es) X.env=(false,Ay e X.env)::AN es X.env:=by exact Dx (λ_ _ z=>nomatch z)) (a:(AR cpos (AN es X.env)).any (·.1)=false:=by rfl):JE X (.Call (.Attribute o name apos) (e::es) [] cpos) (tD X.K M H0 (Q9 F f fa)):=⟨have j:=j.h;have k:=k.h;(Le u slot i y j k b g c B a).mono λT H Q ⟨l,d,R,ex,q⟩=>by
 unfold Q9 at ex
 split at ex
 ·next z C=>
  cases m:fa l with
  |none=>rw[m]at ex;cases ex
  |some s=>
   rw[m]at ex
   cases n:By s with
   |none=>simp only[AA,n]at ex;cases ex
   |some E=>
    simp only[AA,n]at ex
    refine⟨l,.str z,R,C,λv U p G=>?_⟩
    rw[G.str]
    refine⟨rfl,l,s,R.st p,m,λvs I t J=>?_⟩
    exact A _ I z vs E d Q ((R.st p).st t).nh (Na J n) ex λw L N O=>q w L ((p.trans t).trans N) O
 ·cases ex⟩
end
def Nr:List D->Option (List Ae)
 |[]=>some []
 |.str b::r=>(Nr r).map (b::·)
 |_=>none
@[simp] theorem jI:∀(a:List Ae),Nr (a.map D.str)=some a
  |[]=>rfl
  |n::a=>by simp only[AW,Nr,jI a];rfl
@[simp] def rH(z:Ae):List D->Option D
  |[.lst b]=>(Nr b).bind λa=>if(a.map (·.length)).sum+a.length*z.length<=16777216 then some (.str (Txt.join z a))else none
  |_=>none
@[simp] def rJ(z:Ae):List D->Option D
  |[.str y]=>some (.int (Txt.find z y))
  |_=>none
@[simp] def rK(z:Ae):List D->Option D
  |[]=>if Builtin.Str.tooLong (Txt.upper z).length=false then some (.str (Txt.upper z))else none
  |_=>none
end
structure DZ(P:AY)(w:Ai)(i:Ac)(fp:List Ac)(n:Nat)(is:Nat->Aa->Prop)(st:Nat->Am->Prop):Prop where
 frame:∀k h h',st k h->(∀b,b=i\/b∈fp->∀o,h.get? b=some o->h'.get? b=some o)->st k h'
 lt:∀k h,st k h->i<h.objs.size
 item:∀(A:Aj) (E:Aa->Ab->Prop) (s:Ab) (k:Nat) (Q:Aa->Ab->Prop),k<n->st k s.heap->(∀v h',is k v->st (k+1) h'->Ds i s.heap h'->Q v {s with heap:=h' })->wpAny (Af P w) A (D0 (.ref i)) Q E s
 fin:∀(A:Aj) (E:Aa->Ab->Prop) (s:Ab) (k:Nat) (Q:Aa->Ab->Prop),A.handled=none->n<=k->st k s.heap->(∀h' e,Heap.ExtBut i s.heap h'->(∃o,h'.get? e=some o/\o.cls=.type "StopIteration")->E (.ref e) {s with heap:=h' }) ->
  wpAny (Af P w) A (D0 (.ref i)) Q E s
section
variable{prog:AY}{w:Ai}{A:Aj}{E:Aa->Ab->Prop}{s:Ab}
theorem jJ{i a:Ac}{k:Nat}{b:Array Aa}{v:Aa}{Q:Aa->Ab->Prop}(e:s.heap.IsTupleIter i a k)(g:s.heap.IsTuple a b)(h:b[k]?=some v)
  (q:∀h',h'.IsTupleIter i a (k+1)->Ds i s.heap h'->Q v {s with heap:=h' }):wpAny (Af prog w) A (D0 (.ref i)) Q E s:=by
 obtain⟨n,d,j,c⟩:=id e
 obtain⟨o,l,_,m1,m⟩:=g
 unfold D0
 refine Ag (Gf (name:=DT "__next__") e.typeIs Ra (Fq Ra e.typeIs jK ?_ (jL _)))
 show wpAny _ _ (field (.ref i) 0 >>= _) _ _ s
 refine Ag (Cp d c (x:=.ref a) rfl ?_)
 show wpAny _ _ (if(CF a==Ee)=true then _ else _) _ _ s
 rw[if_neg (show ¬ ((CF a==Ee)=true)from HD)]
 show wpAny _ _ (field (.ref i) 1 >>= _) _ _ s
 refine Ag (Cp d c (x:=.int k 0) rfl ?_)
 show wpAny _ _ (seqItems? (.ref a) >>= _) _ _ s
 refine Ag (E2 l m ?_)
 simp only[h,Kd]
 refine Ag (LM d c (by simp) (AE ⟨v,rfl,AE (q _ ?_ (IZ ..))⟩))
 exact⟨_,LO _ d (Rb (Ke c _)),(Obj.cls_mapFields ..).trans j,by rw[Ke c];simp[AH]⟩
theorem jM{i b:Ac}{k:Nat}{c:Array Aa}{Q:Aa->Ab->Prop}(h:A.handled=none)(d:s.heap.IsTupleIter i b k)(l:s.heap.IsTuple b c)(n:c[k]?=none)
  (q:∀h' e,Heap.ExtBut i s.heap h'->(∃o,h'.get? e=some o/\o.cls=.type "StopIteration")->E (.ref e) {s with heap:=h' }):wpAny (Af prog w) A (D0 (.ref i)) Q E s:=by
 obtain⟨t,f,u,g⟩:=id d
 obtain⟨v,p,_,m1,r⟩:=l
 unfold D0
 refine Ag (Gf (name:=DT "__next__") d.typeIs Ra (Fq Ra d.typeIs jK ?_ (jL _)))
 show wpAny _ _ (field (.ref i) 0 >>= _) _ _ s
 refine Ag (Cp f g (x:=.ref b) rfl ?_)
 show wpAny _ _ (if(CF b==Ee)=true then _ else _) _ _ s
 rw[if_neg (show ¬ ((CF b==Ee)=true)from HD)]
 show wpAny _ _ (field (.ref i) 1 >>= _) _ _ s
 refine Ag (Cp f g (x:=.int k 0) rfl ?_)
 show wpAny _ _ (seqItems? (.ref b) >>= _) _ _ s
 refine Ag (E2 p r ?_)
 simp only[n,Kd]
 refine Ag (FY (Ag (LM f g (by simp) ?_)))
 show wpAny _ _ (newExc (.type "StopIteration") ([]:List Aa) >>= _) _ _ _
 refine Ag ?_
 simp only[newTuple,newExc]
 refine Ag (Gg ?_ (show(0:Nat)<=AG by decide))
 refine Ag (m:=firstArgMember _ _) (wpAny_of_eq (a:=Ee) (by first|rfl|(unfold firstArgMember;rfl)) ?_)
 refine Gg ?_ (by first|trivial|(show(0:Nat)<=AG;decide)|size_fits)
 unfold raiseNew
 refine Ag (wpAny_handled ?_)
 first|rw[h]|rw[show A.in1.handled=none from h]
 refine Ag (AE (wpAny_throw ?_))
 exact q _ _ ((Heap.ExtBut.push (Heap.SameBut.extBut (IZ ..)) _).push _) ⟨_,Ca _ rfl,rfl⟩
theorem jN{P:AY}{w:Ai}{i l:Ac}(d:Array Aa):DZ P w i [l] d.size (λk v=>d[k]?=some v) (λk h=>h.IsListIter i l k/\h.IsList l d) where
 frame:=λk h g ⟨a,b⟩ kp=>⟨a.at λo e=>kp i (.inl rfl) o e,b.at λo e=>kp l (.inr (by simp)) o e⟩
 lt:=λk h ⟨⟨o,e,_⟩,_⟩=>BA e
 item:=λA E s k Q f ⟨a,b⟩ q=>wpAny_nextOf_list_item a b (Kf f) λg r j=>by
  by_cases m:l=i
  ·subst m
   obtain⟨o,e,c,_⟩:=a
   obtain⟨u,n,p,_⟩:=b
   rw[e]at n;cases n
   rw[c]at p
   exact absurd p (by decide)
  ·exact q _ g (Kf f) ⟨r,b.extBut j.extBut m⟩ j
 fin:=λA E s k Q t f ⟨a,b⟩ q=>wpAny_nextOf_list_end t a b (Array.getElem?_eq_none f) q
theorem jO{P:AY}{w:Ai}{i l:Ac}(d:Array Aa):DZ P w i [l] d.size (λk v=>d[k]?=some v) (λk h=>h.IsTupleIter i l k/\h.IsTuple l d) where
 frame:=λk h g ⟨a,b⟩ kp=>⟨a.at λo e=>kp i (.inl rfl) o e,b.at λo e=>kp l (.inr (by simp)) o e⟩
 lt:=λk h ⟨⟨o,e,_⟩,_⟩=>BA e
 item:=λA E s k Q f ⟨a,b⟩ q=>jJ a b (Kf f) λg r j=>by
  by_cases m:l=i
  ·subst m
   obtain⟨o,e,c,_⟩:=a
   obtain⟨u,n,p,_⟩:=b
   rw[e]at n;cases n
   rw[c]at p
   exact absurd p (by decide)
  ·exact q _ g (Kf f) ⟨r,b.at λo e=>j.extBut _ _ m e⟩ j
 fin:=λA E s k Q t f ⟨a,b⟩ q=>jM t a b (Array.getElem?_eq_none f) q
structure CI(z tin tout ia ib:Ac)(fa fb:List Ac):Prop where
 n1:tin≠z
 n2:tout≠z
 n3:ia≠z
 n4:ib≠z
 n5:tin≠tout
 n6:tin≠ia
 n7:tin≠ib
 n8:tout≠ia
 n9:tout≠ib
 n10:ia≠ib
 fz:∀b,b∈fa\/b∈fb->b≠z/\b≠tout/\b≠ia/\b≠ib
section
variable{z tin tout ia ib:Ac}{fa fb:List Ac}{n m k:Nat}{isA isB:Nat->Aa->Prop}{sa sb:Nat->Am->Prop}{a b:Aa}
theorem CI.keepA(D:CI z tin tout ia ib fa fb)(f:DZ prog w ia fa n isA sa){h h':Am}(st:sa k h){c:Ac}(d:c=z\/c=tout\/c=ib)(a:Ds c h h'):sa k h':=
 f.frame k h h' st λx b o e=>by
  refine a.extBut x o ?_ e
  rcases b with rfl|b
  ·rcases d with rfl|rfl|rfl
   ·exact D.n3
   ·exact Bp D.n8
   ·exact D.n10
  ·obtain⟨q1,q2,q3,q4⟩:=D.fz x (.inl b)
   rcases d with rfl|rfl|rfl
   ·exact q1
   ·exact q2
   ·exact q4
theorem CI.keepB(D:CI z tin tout ia ib fa fb)(SB:DZ prog w ib fb n isB sb){h h':Am}(st:sb k h){c:Ac}(d:c=z\/c=tout\/c=ia)(a:Ds c h h'):sb k h':=
 SB.frame k h h' st λx b o e=>by
  refine a.extBut x o ?_ e
  rcases b with rfl|b
  ·rcases d with rfl|rfl|rfl
   ·exact D.n4
   ·exact Bp D.n9
   ·exact Bp D.n10
  ·obtain⟨q1,q2,q3,q4⟩:=D.fz x (.inr b)
   rcases d with rfl|rfl|rfl
   ·exact q1
   ·exact q2
   ·exact q3
end
end
section
variable{X:Cx}{pins:List (Ac×AM)}{σ:St}{H:Hp}{s:Ab}{h':Am}
theorem Inv.turnedL{f:List Ac}(I:Inv X pins σ H s)(g:∀b∈f,Fn X pins H b)(k:∀b o,b∉f->s.heap.get? b=some o->h'.get? b=some o):Inv X pins σ H {s with heap:=h' }:=by
 have d:∀b u,H b=some u->b∉f:=λb u e z=>by rw[(g b z).1]at e;cases e
 refine I.step (g':=s.gens) (d':=s.drawn) (t':=s.toks) (ch:=f) (λb h=>?_) (λb o _ _ a e _=>k b o a e) (λb o _ _ a e _=>⟨o.slots,k b o a e⟩) (λ_ _ _ _ n=>n)
  (λb o a e=>⟨o,k b o a e⟩) (λ_ _ e=>e) (λ_ _ _ e=>e) (λb G e=>⟨#[],by rw[e];simp⟩) (λm i=>?_) (λb u e=>?_) I.bare
 ·obtain⟨_,j,_,l,p,t⟩:=g b h
  exact⟨l,j,p,t⟩
 ·obtain⟨o,w,x,y,r⟩:=i
  exact⟨o,w,x,k _ o (λz=>(g _ z).2.1 rfl) y,r⟩
 ·refine(I.hok b u e).stay (λc v a q=>k c v ?_ q) (λ_ q=>q) λ_ _ q=>q
  rcases a with z|z
  ·rw[z];exact d b u e
  ·exact d c _ z
theorem Inv.yielded{g:List Ac}{p:Ac}{vs:List V}(I:Inv X pins σ H s)(i:∀b∈g,Fn X pins H b)(k:∀b o,b∉g->s.heap.get? b=some o->h'.get? b=some o)(j:s.heap.objs.size<=p)
  (new:Bk X.prog X.w (AU H p (.tup vs)) h' p (.tup vs)):Inv X pins σ (AU H p (.tup vs)) {s with heap:=h' }:=by
 have d:∀b u,H b=some u->b∉g:=λb u e z=>by rw[(i b z).1]at e;cases e
 have f:H p=none:=I.hok.fresh j
 refine I.step (g':=s.gens) (d':=s.drawn) (t':=s.toks) (ch:=g) (λb h=>?_) (λb o _ _ a e _=>k b o a e) (λb o _ _ a e _=>⟨o.slots,k b o a e⟩) (λb o _ e n=>?_)
  (λb o a e=>⟨o,k b o a e⟩) (λb l e=>?_) (λb o u e=>?_) (λb O e=>⟨#[],?_⟩) (λm t=>?_) (λb u e=>?_) I.bare
 ·obtain⟨_,x,_,y,A,B⟩:=i b h
  exact⟨y,x,A,B⟩
 ·rw[ZB (CG (Cg (BA e) j))];exact n
 ·rw[ZB (Eo e f)];exact e
 ·rw[ZB (Eo e f)];exact e
 ·rw[ZB (Eo e f),e];simp
 ·obtain⟨o,C,E,G,r⟩:=t
  exact⟨o,C,E,k _ o (λz=>(i _ z).2.1 rfl) G,r⟩
 ·by_cases h:b=p
  ·subst h;rw[Z7]at e;cases e;exact new
  ·rw[ZB h]at e
   refine(I.hok b u e).stay (λc v a q=>k c v ?_ q) (λc q=>by rw[ZB (Eo q f)];exact q) λc l q=>by rw[ZB (Eo q f)];exact q
   rcases a with z|z
   ·rw[z];exact d b u e
   ·exact d c _ z
end
inductive Bl where
 |l (a:Ac)
 |t (a:Ac)
@[reducible] def Bl.ad:Bl->Ac
  |.l a=>a
  |.t a=>a
def Bl.sq(K:Ar)(H:Hp):Bl->List V->Prop
 |.l a=>BH K H a
 |.t a=>B0 K H a
def Bl.nm:Bl->String
 |.l _=>"list_iterator"
 |.t _=>"tuple_iterator"
def Bl.ok(h:Am)(b:Array Aa):Bl->Prop
 |.l a=>h.IsList a b
 |.t a=>h.IsTuple a b
def Bl.it(h:Am)(i:Ac)(k:Nat):Bl->Prop
 |.l a=>h.IsListIter i a k
 |.t a=>h.IsTupleIter i a k
theorem Bl.of(S:Bl){X:Cx}{c:List (Ac×AM)}{σ:St}{H:Hp}{s:Ab}{xs:List V}(I:Inv X c σ H s)(h:S.sq X.K H xs):∃b:List Aa,Aq xs b/\S.ok s.heap b.toArray/\xs.length<=AG:=by
 cases S with
 |l a=>obtain⟨b,r,p,z⟩:=I.list h;exact⟨b,r,p.isList,z⟩
 |t a=>obtain⟨b,r,p,z⟩:=I.tuple h;exact⟨b,r,(show s.heap.IsTuple a b.toArray from p),z⟩
theorem Bl.inj(S:Bl){X:Cx}{b:List (Ac×AM)}{σ:St}{H:Hp}{s:Ab}{xs ys:List V}(I:Inv X b σ H s)(h:S.sq X.K H xs)(h':S.sq X.K H ys):xs=ys:=by
 cases S with
 |l a=>exact I.list_inj h h'
 |t a=>exact I.tuple_inj h h'
theorem Bl.lt(S:Bl){h:Am}{b:Array Aa}(p:S.ok h b):S.ad<h.objs.size:=by
 cases S with
 |l a=>obtain⟨o,e,_⟩:=p;exact BA e
 |t a=>obtain⟨o,e,_⟩:=p;exact BA e
theorem Bl.okAt(S:Bl){h h':Am}{b:Array Aa}(p:S.ok h b)(k:∀o,h.get? S.ad=some o->h'.get? S.ad=some o):S.ok h' b:=by
 cases S with
 |l a=>exact Heap.IsList.at p k
 |t a=>exact Heap.IsTuple.at p k
theorem Bl.itAt(S:Bl){h h':Am}{i:Ac}{n:Nat}(p:S.it h i n)(k:∀o,h.get? i=some o->h'.get? i=some o):S.it h' i n:=by
 cases S with
 |l a=>exact Heap.IsListIter.at p k
 |t a=>exact Heap.IsTupleIter.at p k
theorem Bl.itOb(S:Bl){h:Am}{i:Ac}{n:Nat}(p:S.it h i n):∃o,h.get? i=some o/\∀v,o.data≠.cell v:=by
 cases S with
 |l a=>obtain⟨o,e,c,d⟩:=p;exact⟨o,e,λv z=>by rw[d]at z;cases z⟩
 |t a=>obtain⟨o,e,c,d⟩:=p;exact⟨o,e,λv z=>by rw[d]at z;cases z⟩
theorem Bl.sub(S:Bl){P:AY}{w:Ai}{i:Ac}(b:Array Aa):DZ P w i [S.ad] b.size (λk v=>b[k]?=some v) (λk h=>S.it h i k/\S.ok h b):=by
 cases S with
 |l a=>exact jN b
 |t a=>exact jO b
def Bl.obj(S:Bl):AM:={cls:=.type S.nm,data:=.fields #[.ref S.ad,.int 0 0]}
theorem Bl.pyIter(S:Bl){prog:AY}{w:Ai}{A:Aj}{E:Aa->Ab->Prop}{s:Ab}{b:Array Aa}{Q:Aa->Ab->Prop}(p:S.ok s.heap b)
  (q:Q (.ref s.heap.objs.size) {s with heap:=s.heap.push S.obj}):wpAny (Af prog w) A (pyIter (.ref S.ad)) Q E s:=by
 cases S with
 |l a=>exact wpAny_pyIter_list p q
 |t a=>exact wpAny_pyIter_tuple p q
theorem Bl.new(S:Bl){h:Am}:S.it (h.push S.obj) h.objs.size 0:=by
 cases S with
 |l a=>exact⟨_,Ca _ rfl,rfl,rfl⟩
 |t a=>exact⟨_,Ca _ rfl,rfl,rfl⟩
@[reducible] def Hk(h:Am)(A:Bl):Am:=h.push A.obj
@[reducible] def GR(h:Am)(A B:Bl):Am:=(Hk h A).push B.obj
@[reducible] def Nt(h:Am)(A B:Bl):Am:=(GR h A B).push {cls:=.type "tuple",data:=.seq #[.ref h.objs.size,.ref (Hk h A).objs.size]}
@[reducible] def Nu(h:Am)(A B:Bl):Am:=(Nt h A B).push {cls:=.type "tuple",data:=.seq #[.none,.none]}
@[reducible] def I0(h:Am)(A B:Bl):Am:=(Nu h A B).push {cls:=.type "zip",data:=.fields #[.none,.bool false,.bool false,.ref (GR h A B).objs.size,.ref (Nt h A B).objs.size]}
theorem jP(A B:Bl)(xs ys:Array Aa):Meets (Av.«zip.__new__» ⟨[.type "zip",.ref A.ad,.ref B.ad],[]⟩) (λ_ R s=>A.ok s.heap xs/\B.ok s.heap ys/\R (.ok (.ret (.ref (Nu s.heap A B).objs.size))) {s with heap:=I0 s.heap A B}):=
 .of_wp λprog w k R s h=>by
  obtain⟨a,g,d,b,os⟩:=s;obtain⟨c,f,q⟩:=h
  have l:=sub_zip
  have i:A.ok (Shared.heap ⟨a,g,d,b,os⟩) xs:=c
  have j:B.ok (Shared.heap ⟨a.push A.obj,g,d,b,os⟩) ys:=B.okAt f λo e=>Bj _ e
  wp_walk using A.pyIter i,B.pyIter j
  exact⟨_,rfl,q⟩
section
variable{prog:AY}{w:Ai}{A:Aj}{E:Aa->Ab->Prop}{s:Ab}
theorem jQ{S T:Bl}{xs ys:Array Aa}{Q:Aa->Ab->Prop}(i:S.ok s.heap xs)(j:T.ok s.heap ys)
  (q:∀h',IsZip h' (s.heap.objs.size+4) (s.heap.objs.size+2) (s.heap.objs.size+3) .none->Bo h' (s.heap.objs.size+2) (.ref s.heap.objs.size) (.ref (s.heap.objs.size+1)) ->
   Bo h' (s.heap.objs.size+3) .none .none->S.it h' s.heap.objs.size 0->T.it h' (s.heap.objs.size+1) 0->(∀c o,s.heap.get? c=some o->h'.get? c=some o)->Q (.ref (s.heap.objs.size+4)) {s with heap:=h' }):
  wpAny (Af prog w) A (call (.type "zip") [.ref S.ad,.ref T.ad]) Q E s:=by
 refine callType_new PySem.F.called_zip (by decide) (PySem.F.typeCall_zip_2 _ _) (PySem.F.newCall_zip_2 _ _) (λobj=>PySem.F.args_object_init_3 obj _ _) PySem.F.entry_zip_new (jP S T xs ys) ⟨i,j,?_⟩
 have z1:(Hk s.heap S).objs.size=s.heap.objs.size+1:=E8 ..
 have z2:(GR s.heap S T).objs.size=s.heap.objs.size+2:=by rw[E8,z1]
 have z3:(Nt s.heap S T).objs.size=s.heap.objs.size+3:=by rw[E8,z2]
 have z4:(Nu s.heap S T).objs.size=s.heap.objs.size+4:=by rw[E8,z3]
 have a:(I0 s.heap S T).get? (Nu s.heap S T).objs.size=some _:=Ca _ rfl
 have d:(I0 s.heap S T).get? (Nt s.heap S T).objs.size=some _:=Bj _ (Ca _ rfl)
 have f:(I0 s.heap S T).get? (GR s.heap S T).objs.size=some _:=Bj _ (Bj _ (Ca _ rfl))
 have b:∀c o,(GR s.heap S T).get? c=some o->(I0 s.heap S T).get? c=some o:=λc o e=>Bj _ (Bj _ (Bj _ e))
 have g:T.it (I0 s.heap S T) (Hk s.heap S).objs.size 0:=T.itAt (T.new (h:=Hk s.heap S)) λo e=>b _ o e
 have k:S.it (I0 s.heap S T) s.heap.objs.size 0:=S.itAt (S.new (h:=s.heap)) λo e=>b _ o (Bj _ e)
 show _/\_
 rw[z2,z3,z4]at a
 rw[z1,z2]at f
 rw[z3]at d
 rw[z1]at g
 rw[z4]
 exact⟨⟨_,a,rfl⟩,q _ a f d k g λc o e=>b _ _ (Bj _ (Bj _ e))⟩
end
def W3(K:Ar)(S T:Bl):It:=
 ⟨λi H=>∃a b x y,S.sq K H a/\T.sq K H b/\a[i]?=some x/\b[i]?=some y,
  λi H v c=>∃p x y,v=.ref p/\H p=none/\c=AU H p (.tup [x,y])/\(∀a,S.sq K H a->a[i]?=some x)/\∀b,T.sq K H b->b[i]?=some y,
  λi H=>∃a b,S.sq K H a/\T.sq K H b/\(a.length<=i\/b.length<=i)⟩
theorem W4{n:Nat}{S T:Bl}(c:S.ad<n)(d:T.ad<n):CI (n+4) (n+2) (n+3) n (n+1) [S.ad] [T.ad] where
 n1:=by(show @Ne Nat _ _;omega)
 n2:=by(show @Ne Nat _ _;omega)
 n3:=by(show @Ne Nat _ _;omega)
 n4:=by(show @Ne Nat _ _;omega)
 n5:=by(show @Ne Nat _ _;omega)
 n6:=by(show @Ne Nat _ _;omega)
 n7:=by(show @Ne Nat _ _;omega)
 n8:=by(show @Ne Nat _ _;omega)
 n9:=by(show @Ne Nat _ _;omega)
 n10:=by(show @Ne Nat _ _;omega)
 fz:=λb f=>by
  have a:(b:Nat)<n:=by
   rcases f with z|z
   ·rw[Fx.mp z];exact c
   ·rw[Fx.mp z];exact d
  exact⟨λe=>by subst e;exact absurd a (by show ¬ @LT.lt Nat _ _ _;omega),λe=>by subst e;exact absurd a (by show ¬ @LT.lt Nat _ _ _;omega),λe=>by subst e;exact absurd a (by show ¬ @LT.lt Nat _ _ _;omega),λe=>by subst e;exact absurd a (by show ¬ @LT.lt Nat _ _ _;omega)⟩
theorem W5:Ep "zip"=some (.type "zip"):=by decide +kernel
@[simp] def DK:D->Option (List D)
  |.lst a=>some a
  |.tup a=>some a
  |_=>none
theorem Ek.src{K:Ar}{M N:Fb}{H:Hp}{d:D}{v:V}{xs:List D}(h:Ek K M N H d v)(e:DK d=some xs):
  ∃(S:Bl) (vs:List V),v=.ref S.ad/\Ad K N H xs vs/\∀N2 c,Step M N N2 H c->S.sq K c vs:=by
 cases d with
 |lst g i=>
  cases i with
  |true=>cases e
  |false=>
  cases e
  obtain⟨a,vs,f,b,hd⟩:=h
  refine⟨.l a,vs,f,hd,λN2 c S=>?_⟩
  rcases b with⟨j,b⟩|b
  ·exact .inl (b.step S (by rcases j with z|z;exact .inl z;exact .inr (.inl z)))
  ·exact b.sq
 |tup g=>
  cases e
  simp only[Ek,AF]at h
  obtain⟨a,vs,f,b,hd⟩:=h
  exact⟨.t a,vs,f,hd,λN2 c S=>b.step S⟩
 |_=>cases e
@[simp] def Hl(f g:VE->Option D):VE->Option (List D):=λa=>match(f a).bind DK,(g a).bind DK with
  |some b,some c=>some (Fy (λx y=>D.tup [x,y]) b c)
  |_,_=>none
theorem jR{K:Ar}{M N:Fb}{H:Hp}{S T:Bl}{xs ys:List D}{us vs:List V}(g:Ad K N H xs us)(h:Ad K N H ys vs)(q1:∀N2 b,Step M N N2 H b->S.sq K b us)(q2:∀N2 b,Step M N N2 H b->T.sq K b vs):
  J2 K M N H (W3 K S T) (Fy (λx y=>D.tup [x,y]) xs ys):=λN2 b St i=>by
 have c:=q1 _ _ St
 have e:=q2 _ _ St
 have d1:=Ad.step St _ _ g
 have d2:=Ad.step St _ _ h
 refine⟨λd a=>?_,λa=>⟨us,vs,c,e,?_⟩⟩
 ·rw[List.getElem?_zipWith]at a
  cases ex:xs[i]? with
  |none=>rw[ex]at a;cases a
  |some x=>
   cases f:ys[i]? with
   |none=>rw[ex,f]at a;cases a
   |some y=>
    rw[ex,f]at a;cases a
    obtain⟨u,j,m⟩:=d1.get ex
    obtain⟨v,k,dv⟩:=d2.get f
    refine⟨⟨us,vs,u,v,c,e,j,k⟩,λz q ⟨p,r,s,n,l,o,w1,w2⟩=>?_⟩
    have:=w1 us c;rw[j]at this;cases this
    have:=w2 vs e;rw[k]at this;cases this
    subst n o
    exact⟨QH l,J3 l (Ad.cons m (Ad.cons dv Ad.nil))⟩
 ·have t:=g.length
  have w:=h.length
  simp only[List.length_zipWith]at a
  omega
section
variable{X:Cx}{M:Fb}{H0:Hp}{f g:VE->Option D}{a b:Expr}{elts:List Expr}{p pos tpos:A5}
end
section
variable{prog:AY}{w:Ai}{A:Aj}{E:Aa->Ab->Prop}{s:Ab}
theorem jS(l:Ac)(a:Array Aa)(n:Nat)(dct:Option Ac)(b:Array (Option Aa))(ob:AM)(c:ob={cls:=.type "list_iterator",data:=.fields #[.ref l,.int 0 0]}):
  Meets (Av.«enumerate.__new__» ⟨[.type "enumerate",.ref l],[]⟩) (λ_ R s=>s.heap.get? l=some {cls:=.type "list",dict:=dct,data:=.seq a n,slots:=b} /\
   R (.ok (.ret (.ref (s.heap.push ob).objs.size))) {s with heap:=(s.heap.push ob).push {cls:=.type "enumerate",data:=.fields #[.none,.bool false,.ref s.heap.objs.size,AH 0,.none,.none]} }):=by
 subst c;exact meets_enumerate_newL l a n dct b
theorem jT(l:Ac)(a:Array Aa)(n:Nat)(dct:Option Ac)(j:Array (Option Aa)):
  Meets (Av.«enumerate.__new__» ⟨[.type "enumerate",.ref l],[]⟩) (λ_ R s=>s.heap.get? l=some {cls:=.type "tuple",dict:=dct,data:=.seq a n,slots:=j} /\
   R (.ok (.ret (.ref (s.heap.push (Bl.obj (.t l))).objs.size))) {s with heap:=(s.heap.push (Bl.obj (.t l))).push {cls:=.type "enumerate",data:=.fields #[.none,.bool false,.ref s.heap.objs.size,AH 0,.none,.none]} }):=
 .of_wp λprog w A R s h=>by
  obtain⟨b,g,d,f,os⟩:=s;obtain⟨e,q⟩:=h
  have m:=sub_enumerate
  have k:Bl.ok (Shared.heap ⟨b,g,d,f,os⟩) a (.t l):=⟨_,e,rfl,n,rfl⟩
  have i:∀{prog:AY} {w:Ai} {A:Aj} {E:Aa->Ab->Prop} {Q:Aa->Ab->Prop},Q (.ref b.objs.size) ⟨b.push (Bl.obj (.t l)),g,d,f,os⟩->wpAny (Af prog w) A (pyIter (.ref l)) Q E ⟨b,g,d,f,os⟩:=λq=>Bl.pyIter (.t l) k q
  wp_walk using Re e
  refine wpAny_stack_any λst=>AE ?_
  split
  ·rename_i c _ _ _ _ _
   cases(c==Value.type "enumerate")
   ·wp_walk using Re e,i
    exact⟨_,rfl,q⟩
   ·wp_walk using Re e,i
    exact⟨_,rfl,q⟩
  ·wp_walk using Re e,i
   exact⟨_,rfl,q⟩
theorem jU{S:Bl}{d:Array Aa}{Q:Aa->Ab->Prop}(p:S.ok s.heap d)
  (q:∀h',IsEnum h' (s.heap.objs.size+1) s.heap.objs.size 0 .none->S.it h' s.heap.objs.size 0->(∀b o,s.heap.get? b=some o->h'.get? b=some o)->Q (.ref (s.heap.objs.size+1)) {s with heap:=h' }):
  wpAny (Af prog w) A (call (.type "enumerate") [.ref S.ad]) Q E s:=by
 have i:(s.heap.push S.obj).objs.size=s.heap.objs.size+1:=E8 ..
 have j:IsEnum ((s.heap.push S.obj).push {cls:=.type "enumerate",data:=.fields #[.none,.bool false,.ref s.heap.objs.size,AH 0,.none,.none]}) (s.heap.objs.size+1) s.heap.objs.size 0 .none:=by
  have:=Ca (s.heap.push S.obj) (o:={cls:=.type "enumerate",data:=.fields #[.none,.bool false,.ref s.heap.objs.size,AH 0,.none,.none]}) rfl
  rw[i]at this;exact this
 have fin:(s.TypeIs (.ref 0) "x"->True):=λ_=>trivial
 have f:=q _ j (S.itAt (S.new (h:=s.heap)) λo e=>Bj _ e) λb o e=>Bj _ (Bj _ e)
 cases S with
 |l a=>
  obtain⟨⟨c,dct,k,m⟩,r,g,n,hd⟩:=p
  replace g:c=.type "list":=g
  replace hd:k=.seq d n:=hd
  subst g hd
  refine callType_new PySem.F.called_enumerate (by decide) (PySem.F.typeCall_enumerate_1 _) (PySem.F.newCall_enumerate_1 _) (λobj=>PySem.F.args_object_init_2 obj _) PySem.F.entry_enumerate_new (jS a d n dct m (Bl.obj (.l a)) rfl) ⟨r,?_⟩
  show _/\_
  rw[i]
  exact⟨⟨_,j,rfl⟩,f⟩
 |t a=>
  obtain⟨⟨c,dct,k,m⟩,r,g,n,hd⟩:=p
  replace g:c=.type "tuple":=g
  replace hd:k=.seq d n:=hd
  subst g hd
  refine callType_new PySem.F.called_enumerate (by decide) (PySem.F.typeCall_enumerate_1 _) (PySem.F.newCall_enumerate_1 _) (λobj=>PySem.F.args_object_init_2 obj _) PySem.F.entry_enumerate_new (jT a d n dct m) ⟨r,?_⟩
  show _/\_
  rw[i]
  exact⟨⟨_,j,rfl⟩,f⟩
section
variable{e it:Ac}{fa:List Ac}{n k:Nat}{isA:Nat->Aa->Prop}{sa:Nat->Am->Prop}{old:Aa}
theorem jV{Q:Option Aa->Ab->Prop}(SA:DZ prog w it fa n isA sa)(f:IsEnum s.heap e it k old)(ha:sa k s.heap)(kn:k<n)(m:e≠it)(C:e∉fa)
  (q:∀x h',isA k x->IsEnumOut h' e it ((k:Int)+1) x s.heap.objs.size->sa (k+1) h'->h'.get? s.heap.objs.size=some {cls:=.type "tuple",data:=.seq #[.int k s.toks,x]} ->
   (∀b o,b≠e->b≠it->s.heap.get? b=some o->h'.get? b=some o)->Q (some (.ref s.heap.objs.size)) {s with heap:=h',toks:=s.toks+1}):
  wpAny (Af prog w) A (Bm (.ref e)) Q E s:=by
 obtain⟨i,g,d,a,os⟩:=s
 have ty:Shared.TypeIs ⟨i,g,d,a,os⟩ (.ref e) "enumerate":=⟨_,f,rfl⟩
 unfold Bm
 refine Ag (HX (Gf (name:=DT "__next__") ty Rf (Fq Rf ty PySem.F.entry_enumerate_next ?_ (PySem.F.args_enumerate_next_1 _))))
 have fr:∀{h h':Am},sa (k+1) h->(∀b o,b≠e->h.get? b=some o->h'.get? b=some o)->sa (k+1) h':=λst kp=>SA.frame _ _ _ st λb c o x=>kp b o (by
  rcases c with rfl|c
  ·exact Bp m
  ·intro z;subst z;exact C c) x
 show wpAny _ _ (field (.ref e) 2 >>= _) _ _ _
 refine Ag (Cp f rfl (x:=.ref it) rfl ?_)
 refine Ag (SA.item _ _ _ k _ kn ha λx l hx a1 p=>?_)
 replace p:Ds it i l:=p
 have G:IsEnum l e it k old:=(p.2 e m).trans f
 show wpAny _ _ (field (.ref e) 3 >>= _) _ _ ⟨l,g,d,a,os⟩
 refine Ag (Cp G rfl (x:=AH k) rfl ?_)
 show wpAny _ _ (field (.ref e) 4 >>= _) _ _ ⟨l,g,d,a,os⟩
 refine Ag (Cp G rfl (x:=.none) rfl ?_)
 show wpAny _ _ (mkInt k >>= _) _ _ ⟨l,g,d,a,os⟩
 refine Ag (wpAny_mkInt ?_)
 show wpAny _ _ (setField (.ref e) 3 (AH ((k:Int)+1)) >>= _) _ _ ⟨l,g,d,a+1,os⟩
 refine Ag (DL G (by simp) λu H r=>?_)
 replace r:Ds e l u:=r
 replace H:IsEnum u e it ((k:Int)+1) old:=H
 show wpAny _ _ (setField (.ref e) 4 .none >>= _) _ _ ⟨u,g,d,a+1,os⟩
 refine Ag (DL H (by simp) λj I t=>?_)
 replace t:Ds e u j:=t
 replace I:IsEnum j e it ((k:Int)+1) old:=I
 show wpAny _ _ (newTuple [.int k a,x] >>= _) _ _ ⟨j,g,d,a+1,os⟩
 refine Ag (wpAny_newTuple ?_)
 have sz:j.objs.size=i.objs.size:=by rw[t.1,r.1,p.1]
 have el:e<i.objs.size:=BA f
 have v:IsEnum (j.push {cls:=.type "tuple",data:=.seq #[.int k a,x]}) e it ((k:Int)+1) old:=Bj _ I
 have t4:(j.push {cls:=.type "tuple",data:=.seq #[.int k a,x]}).get? i.objs.size=some {cls:=.type "tuple",data:=.seq #[.int k a,x]}:=by rw[<- sz];exact Ca _ rfl
 have k4:∀b o,b≠e->b≠it->i.get? b=some o->(j.push {cls:=.type "tuple",data:=.seq #[.int k a,x]}).get? b=some o:=λb o f J c=>
  Bj _ (t.extBut b o f (r.extBut b o f (p.extBut b o J c)))
 have a4:sa (k+1) (j.push {cls:=.type "tuple",data:=.seq #[.int k a,x]}):=fr a1 λb o c z=>Bj _ (t.extBut b o c (r.extBut b o c z))
 generalize (j.push {cls:=.type "tuple",data:=.seq #[.int k a,x]})=L at v t4 k4 a4 ⊢
 show wpAny _ _ (Hm (.ref e) >>= _) _ _ ⟨L,g,d,a+1,os⟩
 rw[sz]
 refine Ag ?_
 unfold Hm
 refine Ag (Cp v rfl (x:=.none) rfl (AE ?_))
 rw[if_pos rfl]
 refine Ag (FY ?_)
 refine Ag (Cp v rfl (x:=old) rfl ?_)
 refine Ag (DL v (by simp) λy M N=>?_)
 replace N:Ds e L y:=N
 replace M:IsEnum y e it ((k:Int)+1) x:=M
 show wpAny _ _ (LP (.ref e) (.ref i.objs.size) >>= _) _ _ ⟨y,g,d,a+1,os⟩
 refine Ag ?_
 unfold LP
 refine Ag (DL M (by simp) λO T U=>?_)
 replace U:Ds e y O:=U
 replace T:IsEnumOut O e it ((k:Int)+1) x i.objs.size:=T
 refine DL T (by simp) λB Y s7=>?_
 replace s7:Ds e O B:=s7
 replace Y:IsEnumOut B e it ((k:Int)+1) x i.objs.size:=Y
 have up:∀b o,b≠e->L.get? b=some o->B.get? b=some o:=λb o c z=>s7.extBut b o c (U.extBut b o c (N.extBut b o c z))
 refine Ag (Hn (AE ⟨_,rfl,AE (q x B hx Y (fr a4 up) (up _ _ (FN el) t4) λb o f J z=>up b o f (k4 b o f J z))⟩))
theorem jW{Q:Option Aa->Ab->Prop}(a:A.handled=none)(f:DZ prog w it fa n isA sa)(c:IsEnum s.heap e it k old)(g:sa k s.heap)(h:n<=k)
  (q:∀h',Heap.ExtBut it s.heap h'->Q none {s with heap:=h' }):wpAny (Af prog w) A (Bm (.ref e)) Q E s:=by
 have ty:s.TypeIs (.ref e) "enumerate":=⟨_,c,rfl⟩
 unfold Bm
 refine Ag (HX (Gf (name:=DT "__next__") ty Rf (Fq Rf ty PySem.F.entry_enumerate_next ?_ (PySem.F.args_enumerate_next_1 _))))
 show wpAny _ _ (field (.ref e) 2 >>= _) _ _ _
 refine Ag (Cp c rfl (x:=.ref it) rfl ?_)
 refine Ag (f.fin _ _ _ k _ (by first|exact a|simpa using a) h g λh' x i j=>?_)
 obtain⟨o,l,m⟩:=j
 exact Ag (wpAny_isInstance (T:="StopIteration") (b:=true) ⟨o,l,m⟩ isSubtype_stop (AE (q _ i)))
theorem jX{a:List Expr} {b} {pos:A5} {i:Int} {v:Aa} {T:Ac} {Q:Unit->Ab->Prop} (hz:IsEnumOut s.heap e it i v T)
  (q:∀h',IsEnum h' e it i v->Ds e s.heap h'->Q () {s with heap:=h' }):wpAny (Af prog w) A (JH (.Tuple a b pos) (.ref e) (.ref T)) Q E s:=by
 unfold JH
 refine Ag (wpAny_load hz ?_)
 show wpAny _ _ (if(["enumerate","zip","dict_itemiterator","dict_reverseitemiterator","odict_iterator","itertools.zip_longest","itertools.pairwise"].contains "enumerate"&&(#[AH T,.bool false,.ref it,AH i,.none,v]:Array Aa)[0]?==some (AH T))=true then _ else _) Q E s
 rw[if_pos (by simp)]
 refine Ag (FY ?_)
 show wpAny _ _ (setField (.ref e) 0 .none) Q E s
 exact DL hz (by simp) λh' z c=>q h' z c
end
end
def W6(K:Ar)(S:Bl):It:=
 ⟨λi H=>∃a x,S.sq K H a/\a[i]?=some x,
  λi H v b=>∃p x,v=.ref p/\H p=none/\b=AU H p (.tup [.int i,x])/\(∀a,S.sq K H a->a[i]?=some x),
  λi H=>∃a,S.sq K H a/\a.length<=i⟩
theorem jY{P:AY}{w:Ai}{K:Ar}{j:List Expr} {T} {pos:A5} (S:Bl) (n:Nat) (U:S.ad<n):
  GJ P w K (.Tuple j T pos) (W6 K S) [n+1,n] (n+1) (λi h=>(∃d,IsEnum h (n+1) n i d)/\S.it h n i) where
 mem:=by simp
 obj:=λi h ⟨⟨x,z⟩,c⟩ q a=>by
  simp only[Br,Fv,or_false]at a
  rcases a with rfl|rfl
  ·exact⟨_,z,λv e=>nomatch (show Data.fields _=G4 v from e)⟩
  ·exact S.itOb c
 keep:=λi h m ⟨⟨x,z⟩,c⟩ k=>⟨⟨x,k _ (by simp) _ z⟩,S.itAt c λo e=>k _ (by simp) o e⟩
 item:=by
  intro X u y A N i b s O H E I p ⟨⟨d,z⟩,c⟩ ⟨Y,x,r,ex⟩
  subst u y A
  obtain⟨f,B,C,_⟩:=S.of I r
  obtain⟨u1,Q,G⟩:=B.get ex
  have l1:=(List.getElem?_eq_some_iff.mp Q).1
  have hlt:n+1<s.heap.objs.size:=BA z
  have J:S.ad≠(n+1:Nat):=λe=>absurd (show @LT.lt Nat _ S.ad n from U) (by rw[e];show ¬ @LT.lt Nat _ _ _;omega)
  refine jV (S.sub (P:=X.prog) (w:=X.w) f.toArray) z ⟨c,C⟩ (by simpa using l1) (by(show @Ne Nat _ _;omega)) (λz=>J (Fx.mp z).symm) λt m l z' ⟨c',_⟩ new kp=>?_
  have L:t=u1:=by simp[Q]at l;exact l.symm
  subst L
  refine⟨_,rfl,jX (s:={s with heap:=m,toks:=s.toks+1}) z' λg z2 sb=>?_⟩
  have M:∀q o,q≠n+1->m.get? q=some o->g.get? q=some o:=λq o a e=>sb.extBut _ _ a e
  have I1:Inv X b O (AU H s.heap.objs.size (.tup [.int i,x])) {s with heap:=g}:=by
   refine I.yielded p (λq o a e=>M q o (λz=>a (by simp[z])) (kp q o (λz=>a (by simp[z])) (λz=>a (by simp[z])) e)) (BD _) ?_
   exact⟨show 2<=AG by decide,[.int i s.toks,t],.cons ⟨_,rfl⟩ (.cons G .nil),⟨_,M _ _ (by(show @Ne Nat _ _;omega)) new,rfl,_,rfl⟩⟩
  refine⟨.ref s.heap.objs.size,_,I1.tok (s.toks+1),rfl,⟨_,x,rfl,I.hok.fresh (BD _),rfl,λzs hz=>by rw[S.inj I hz r];exact ex⟩,⟨⟨t,?_⟩,S.itAt c' λo e=>M _ o (by(show @Ne Nat _ _;omega)) e⟩,λq a=>?_⟩
  ·have:((i+1:Nat):Int)=(i:Int)+1:=by omega
   show IsEnum g (n+1) n ((i+1:Nat):Int) t
   rw[this]
   exact z2
  rw[ZB]
  ·exact(p q a).1
  ·simp only[Br,Fv,or_false]at a
   rcases a with rfl|rfl<;>(show @Ne Nat _ _;omega)
 done:=by
  intro X u y A N i b s O H E I p ⟨⟨d,z⟩,c⟩ ⟨Y,r,hl⟩
  subst u y A
  obtain⟨f,B,C,_⟩:=S.of I r
  have q1:=B.length
  refine jW (I.ok.hd N) (S.sub (P:=X.prog) (w:=X.w) f.toArray) z ⟨c,C⟩ (by simp only[BR];omega) λm kp=>⟨rfl,I.turnedL p λq o a e=>kp q o (λz=>a (by simp[z])) e⟩
 self:=λ_ _ _ _ _ ⟨⟨_,z⟩,_⟩ q=>wpAny_pyIter_enum z q
theorem jZ:Ep "enumerate"=some (.type "enumerate"):=by decide +kernel
def CK:Nat->List D->List D
 |_,[]=>[]
 |k,d::a=>.tup [.int k,d]::CK (k+1) a
theorem Ja:∀(xs:List D)(k:Nat),(CK k xs).length=xs.length
 |[],_=>rfl
 |_::xs,k=>by simp[CK,Ja xs]
theorem W7:∀(xs:List D)(k i:Nat),(CK k xs)[i]?=(xs[i]?).map λd=>D.tup [.int ((k+i:Nat):Int),d]
 |[],_,_=>by simp[CK]
 |x::xs,k,0=>by simp[CK]
 |x::xs,k,i+1=>by
  simp only[CK,AS,W7 xs]
  rw[show k+1+i=k+(i+1) by omega]
@[simp] def DM(f:VE->Option D):VE->Option (List D):=λa=>match(f a).bind DK with
  |some b=>some (CK 0 b)
  |none=>none
theorem j1{K:Ar}{M N:Fb}{H:Hp}{S:Bl}{xs:List D}{us:List V}(e:Ad K N H xs us)(q1:∀N2 b,Step M N N2 H b->S.sq K b us):J2 K M N H (W6 K S) (CK 0 xs):=λN2 b St i=>by
 have c:=q1 _ _ St
 have d1:=Ad.step St _ _ e
 refine⟨λd a=>?_,λa=>⟨us,c,?_⟩⟩
 ·rw[W7]at a
  cases ex:xs[i]? with
  |none=>rw[ex]at a;cases a
  |some x=>
   rw[ex]at a;cases a
   obtain⟨u,f,h⟩:=d1.get ex
   refine⟨⟨us,u,c,f⟩,λz l ⟨p,m,j,g,k,w1⟩=>?_⟩
   have:=w1 us c;rw[f]at this;cases this
   subst j k
   refine⟨QH g,J3 g (Ad.cons ?_ (Ad.cons h Ad.nil))⟩
   simp[AF]
 ·have n:=e.length
  rw[Ja]at a
  omega
section
variable{X:Cx}{M:Fb}{H0:Hp}{f:VE->Option D}{a:Expr}{elts:List Expr}{p pos tpos:A5}
theorem HY {G} (J:Gl X "enumerate") (L:X.mg "enumerate"=none) (l:JE X a (tQ X.K M H0 f)) (x:AN [a] X.env=[(false,Ay a X.env)]:=by rfl) (m:AN [] X.env=[]:=by rfl):
  JI X (.Tuple elts G tpos) (.Call (.Name "enumerate" p) [a] [] pos) (tI X.K M H0 (DM f)):=⟨have l:=l.h;by
 intro d s n H Q I ⟨i,ds,R,e,q⟩
 unfold DM at e
 split at e
 ·next N ex=>
  cases e
  cases o:f i with
  |none=>rw[o]at ex;cases ex
  |some d1=>
   rw[o]at ex
   have t:=DE l Bt (by rw[x,m])
   refine Call_ (F9 I J L jZ (JJ (A8 (t pos d s n H (λvs u=>∃S g,vs=[.ref (Bl.ad S)]/\Ak H u/\Ad X.K (Nf M i n) u N g/\(∀N2 y,Step M (Nf M i n) N2 u y->S.sq X.K y g)) I ?_) λg v ⟨vs,A,j,O,q1⟩=>?_) x rfl))
   ·refine⟨i,d1,R,o,λT A z1 q1=>?_⟩
    obtain⟨S,g,w,c,k⟩:=q1.src ex
    exact⟨S,g,by rw[w],z1,c,k⟩
   ·obtain⟨S,U,w,z,c,k⟩:=q1
    subst w
    cases O with
    |cons r Y=>
     cases Y
     cases r
     obtain⟨its,T,B,_⟩:=S.of j (k _ _ Step.refl)
     refine jU B λh' a1 a4 kp=>wpAny_pyIter_enum a1 ?_
     refine⟨_,_,_,_,A,rfl,j.kept (t':=v.toks) kp,jY S v.heap.objs.size (S.lt B),⟨⟨_,a1⟩,a4⟩,λb C=>?_,q _ _ z (j1 c k)⟩
     have E:v.heap.objs.size<=b:=by
      simp only[Br,Fv,or_false]at C
      rcases C with rfl|rfl<;>(show @LE.le Nat _ _ _;omega)
     exact j.fpOk E (j.hok.fresh E)
 ·cases e⟩
end
abbrev T3:=KT×V×V
def DN:List T3->List V
 |[]=>[]
 |t::r=>t.2.1::t.2.2::DN r
def CW:List T3->KT->Option V
 |[],_=>none
 |t::r,k=>if t.1=k then some t.2.2 else CW r k
def F0:List T3->KT->V->List T3
 |[],_,_=>[]
 |t::r,k,v=>(if t.1=k then(t.1,t.2.1,v)else t)::F0 r k v
def DO(a:List T3)(k:KT)(b v:V):List T3:=if(CW a k).isSome=true then F0 a k v else a++[(k,b,v)]
theorem W8(k:KT)(v:V):∀a:List T3,(F0 a k v).map (·.1)=a.map (·.1)
 |[]=>rfl
 |t::r=>by
  simp only[F0,AW,W8 k v r]
  split<;>rfl
theorem W9{k:KT}:∀{a:List T3},CW a k=none->k∉a.map (·.1)
 |[],_=>by simp
 |t::r,h=>by
  unfold CW at h
  split at h
  ·cases h
  ·next e=>
   simp only[AW,Br,not_or]
   exact⟨λz=>e z.symm,W9 h⟩
theorem Kg{c:List T3}{k:KT}{f v:V}(h:(c.map (·.1)).Nodup):((DO c k f v).map (·.1)).Nodup:=by
 unfold DO
 split
 ·rw[W8];exact h
 ·next e=>
  rw[Ea,List.nodup_append]
  refine⟨h,by simp,λa g b d=>?_⟩
  have i:CW c k=none:=by
   cases j:CW c k with
   |none=>rfl
   |some x=>rw[j]at e;exact absurd rfl e
  simp only[AW,CA,Fx]at d
  subst d
  rintro rfl
  exact W9 i g
theorem Xa(k:KT)(v:V):∀a:List T3,(F0 a k v).length=a.length
 |[]=>rfl
 |t::r=>by simp[F0,Xa k v r]
theorem Rg(a:List T3)(k:KT)(b v:V):(DO a k b v).length<=a.length+1:=by
 unfold DO
 split
 ·rw[Xa];omega
 ·simp
theorem Ho{a:At}{u:Aa}(h:RelV (Fk a) u):HB a u=true:=by
 cases a with
 |non=>cases h;rfl
 |int i=>obtain⟨t,rfl⟩:=h;exact eJ i t
 |str x=>obtain⟨t,rfl⟩:=h;exact eK x t
theorem j6{a:At}{u:Aa}(h:HB a u=true):RelV (Fk a) u:=by
 rcases HC h with⟨rfl,rfl⟩|⟨i,t,rfl,rfl⟩|⟨x,t,rfl,rfl⟩
 ·rfl
 ·exact⟨t,rfl⟩
 ·exact⟨t,rfl⟩
abbrev RA:List T3->List (At×Aa)->Prop:=Paired λt u=>t.1=.at u.1/\t.2.1=Fk u.1/\RelV t.2.2 u.2
theorem Xb{P:AY}{w:Ai}:∀{d:List T3}{es:List BJ},Iy w (d.map (·.1)) (DN d) es->(∀t∈d,∃a,t.1=KT.at a) ->
  ∃us,RA d us/\Pairs (Z6 P w) es us/\∀e∈es,∃k,(Z6 P w).is k e.key=true/\e.hash=(Z6 P w).hash k
 |[],es,h,_=>by
  obtain⟨_,rfl⟩:=h
  exact⟨[],.nil,.nil,λ_ z=>nomatch z⟩
 |t::r,es,h,m=>by
  obtain⟨E,v,q,e,o,f,p,g,s,i,b,u⟩:=h
  obtain⟨a,n⟩:=m t BC
  simp only[DN,LQ]at f
  obtain⟨f,j,c⟩:=f
  subst f j p c
  dsimp only at i b
  rw[n]at i b
  obtain⟨us,x,y,A⟩:=Xb (P:=P) u λt B=>m t (Bv _ B)
  have b:t.2.1=Fk a:=b
  rw[b]at g
  refine⟨(a,e.val)::us,.cons ⟨n,b,s⟩ x,.cons (Ho g) rfl y,λC l=>?_⟩
  rcases Br.mp l with rfl|l
  ·exact⟨a,Ho g,i⟩
  ·exact A C l
theorem Xc{P:AY}{w:Ai}:∀{b:List T3}{us:List (At×Aa)}{es:List BJ},RA b us->Pairs (Z6 P w) es us->(∀e∈es,∃k,(Z6 P w).is k e.key=true/\e.hash=(Z6 P w).hash k) ->
  Iy w (b.map (·.1)) (DN b) es
 |_,_,_,.nil,.nil,_=>⟨rfl,rfl⟩
 |t::r,(a,u)::us,e::es,.cons ⟨c,d,h⟩ i,.cons f j l,g=>by
  refine⟨t.2.1,t.2.2,DN r,e,es,rfl,rfl,?_,?_,?_,?_,Xc i l λe m=>g e (Bv _ m)⟩
  ·rw[d];exact j6 f
  ·rw[j];exact h
  ·obtain⟨k,q1,q2⟩:=g e BC
   have:k=a:=(Z6 P w).inj _ _ _ q1 f
   subst this
   dsimp only;rw[c];exact q2
  ·dsimp only;rw[c];exact d
theorem RA.val:∀{b:List T3}{us:List (At×Aa)},RA b us->∀a,Ef (CW b (.at a)) (valueAt us a)
 |_,_,.nil,_=>HZ
 |t::r,u::us,.cons ⟨c,h,d⟩ f,a=>by
  have g:=RA.val f a
  unfold CW valueAt
  rw[c,List.find?_cons]
  by_cases e:u.1=a
  ·rw[if_pos (by rw[e])];simp only[e,decide_true];exact d
  ·rw[if_neg (λz=>e (KT.at.inj z))];simp only[e,decide_false];exact g
theorem Ef.isS:∀{o:Option V}{u:Option Aa},Ef o u->o.isSome=u.isSome
 |some _,some _,_=>rfl
 |none,none,_=>rfl
 |some _,none,h=>h.elim
 |none,some _,h=>h.elim
theorem RA.rep{a:At}{v:V}{u:Aa}(d:RelV v u):∀{f:List T3}{us:List (At×Aa)},RA f us->RA (F0 f (.at a) v) (us.map λc=>if c.1=a then(c.1,u)else c)
 |_,_,.nil=>.nil
 |t::r,w::us,.cons ⟨b,g,h⟩ i=>by
  have j:=RA.rep (a:=a) d i
  unfold F0
  rw[AW]
  refine .cons ?_ j
  by_cases e:w.1=a
  ·rw[if_pos (by rw[b,e]),if_pos e];exact⟨b,g,d⟩
  ·rw[if_neg (λz=>e (KT.at.inj (b.symm.trans z))),if_neg e];exact⟨b,g,h⟩
theorem Paired.snoc'{a b:Type}{F:a->b->Prop}{x:a}{y:b}(h:F x y):∀{l:List a}{m:List b},Paired F l m->Paired F (l++[x]) (m++[y])
 |_,_,.nil=>.cons h .nil
 |_,_,.cons r t=>.cons r (Paired.snoc' h t)
theorem j7{us:List (At×Aa)}{a:At}:(us.any λb=>decide (b.1=a))=(valueAt us a).isSome:=by
 unfold valueAt
 rw[Option.isSome_map]
 induction us with
 |nil=>rfl
 |cons x r c=>
  rw[List.any_cons,List.find?_cons]
  cases decide (x.1=a)with
  |true=>rfl
  |false=>simpa using c
theorem RA.put{b:List T3}{us:List (At×Aa)}{a:At}{v:V}{u:Aa}(h:RA b us)(c:RelV v u):RA (DO b (.at a) (Fk a) v) (stored us a u):=by
 unfold DO stored
 rw[j7,(h.val a).isS]
 by_cases e:(valueAt us a).isSome=true
 ·rw[if_pos e,if_pos e];exact h.rep c
 ·rw[if_neg e,if_neg e];exact Paired.snoc' ⟨rfl,rfl,c⟩ h
theorem RA.fst:∀{a:List T3}{us:List (At×Aa)},RA a us->a.map (·.1)=(us.map (·.1)).map KT.at
 |_,_,.nil=>rfl
 |t::r,u::us,.cons ⟨b,_,_⟩ c=>by rw[AW,AW,AW,b,RA.fst c]
abbrev RT:List T3->List (List At×Ac×Aa)->Prop:=Paired λt u=>t.1=.tup u.1/\t.2.1=.ref u.2.1/\RelV t.2.2 u.2.2
theorem Xd{P:AY}{w:Ai}:∀{b:List T3}{es:List BJ},Iy w (b.map (·.1)) (DN b) es->(∀t∈b,∃l,t.1=KT.tup l) ->
  ∃us,RT b us/\es=us.map (entryOfKey (BK (Z6 P w)))
 |[],es,h,_=>by
  obtain⟨_,rfl⟩:=h
  exact⟨[],.nil,rfl⟩
 |t::r,es,h,i=>by
  obtain⟨E,v,q,e,n,c,o,j,s,d,f,u⟩:=h
  obtain⟨l,k⟩:=i t BC
  simp only[DN,LQ]at c
  obtain⟨c,g,a⟩:=c
  subst c g o a
  dsimp only at d f
  rw[k]at d f
  obtain⟨us,x,y⟩:=Xd (P:=P) u λt z=>i t (Bv _ z)
  obtain⟨p,m⟩:=(f:∃p,t.2.1=.ref p)
  rw[m]at j
  obtain⟨A,B,C⟩:=e
  cases(j:B=CF p)
  refine⟨(l,p,C)::us,.cons ⟨k,m,s⟩ x,?_⟩
  rw[AW,<- y]
  have:A=(KT.tup l).hash w:=d
  rw[this];rfl
theorem Xe{P:AY}{w:Ai}:∀{a:List T3}{us:List (List At×Ac×Aa)},RT a us->Iy w (a.map (·.1)) (DN a) (us.map (entryOfKey (BK (Z6 P w))))
 |_,_,.nil=>⟨rfl,rfl⟩
 |t::r,u::us,.cons ⟨b,c,d⟩ e=>by
  refine⟨t.2.1,t.2.2,DN r,_,_,rfl,rfl,?_,d,?_,?_,Xe e⟩
  ·rw[c];rfl
  ·dsimp only;rw[b];rfl
  ·dsimp only;rw[b];exact⟨_,c⟩
theorem RT.val:∀{a:List T3}{us:List (List At×Ac×Aa)},RT a us->∀l,Ef (CW a (.tup l)) ((atKey us l).map (·.2))
 |_,_,.nil,_=>HZ
 |t::r,u::us,.cons ⟨b,g,c⟩ d,l=>by
  have f:=RT.val d l
  unfold CW atKey
  rw[b,List.find?_cons]
  by_cases e:u.1=l
  ·rw[if_pos (by rw[e])];simp only[e,decide_true];exact c
  ·rw[if_neg (λz=>e (KT.tup.inj z))];simp only[e,decide_false];exact f
theorem RT.rep{l:List At}{v:V}{u:Aa}(b:RelV v u):∀{c:List T3}{us:List (List At×Ac×Aa)},RT c us->RT (F0 c (.tup l) v) (us.map (putAt l u))
 |_,_,.nil=>.nil
 |t::r,w::us,.cons ⟨a,d,f⟩ g=>by
  have h:=RT.rep (l:=l) b g
  unfold F0
  rw[AW]
  refine .cons ?_ h
  unfold putAt
  by_cases e:w.1=l
  ·rw[if_pos (by rw[a,e]),if_pos e];exact⟨a,d,b⟩
  ·rw[if_neg (λz=>e (KT.tup.inj (a.symm.trans z))),if_neg e];exact⟨a,d,f⟩
theorem RT.put{a:List T3}{us:List (List At×Ac×Aa)}{l:List At}{p:Ac}{v:V}{u:Aa}(h:RT a us)(b:RelV v u):RT (DO a (.tup l) (.ref p) v) (storedH us l p u):=by
 unfold DO storedH
 have c:=(h.val l).isS
 rw[Option.isSome_map]at c
 rw[c]
 by_cases e:(atKey us l).isSome=true
 ·rw[if_pos e,if_pos e];exact h.rep b
 ·rw[if_neg e,if_neg e];exact Paired.snoc' ⟨rfl,rfl,b⟩ h
theorem RT.fst:∀{a:List T3}{us:List (List At×Ac×Aa)},RT a us->a.map (·.1)=(us.map (·.1)).map KT.tup
 |_,_,.nil=>rfl
 |t::r,u::us,.cons ⟨b,_,_⟩ c=>by rw[AW,AW,AW,b,RT.fst c]
theorem Rh{c d:Type}{f:c->d}(e:∀a b,f a=f b->a=b):∀{l:List c},(l.map f).Nodup->l.Nodup
 |[],_=>List.nodup_nil
 |a::l,h=>by
  rw[AW,EQ]at h
  rw[EQ]
  exact⟨λz=>h.1 (List.mem_map.mpr ⟨a,z,rfl⟩),Rh e h.2⟩
def D1(K:Ar)(H:Hp):KT->V->Prop
 |.at a,v=>v=Fk a
 |.tup l,v=>∃p,v=.ref p/\B0 K H p (l.map Fk)
theorem Xf{P:AY}{w:Ai}:∀{a:List At}{us:List Aa},Aq (a.map Fk) us->ItemsAre (Z6 P w) a us
 |[],_,r=>by rw[CA]at r;cases r;exact .nil
 |k::a,_,r=>by
  rw[AW]at r
  cases r with
  |cons h t=>exact .cons (Ho h) (Xf t)
def GS:KT->List T3->Prop
 |.at _,b=>∀t∈b,∃a,t.1=KT.at a
 |.tup _,b=>∀t∈b,∃l,t.1=KT.tup l
def Cw(K:Ar)(H:Hp)(a:Ac)(b:List T3):Prop:=Rd H a (.dct (b.map (·.1)) (DN b))/\∀t∈b,D1 K H t.1 t.2.1
section
variable{X:Cx}{pins:List (Ac×AM)}{σ:St}{H:Hp}{s:Ab}{a p:Ac}{y v:V}{u r:Aa}{o:Option V}{A:Aj}{E:Aa->Ab->Prop}{tr:List T3}{k:KT}
theorem Jb{l:List At}(I:Inv X pins σ H s)(h:B0 X.K H p (l.map Fk)):(BK (Z6 X.prog X.w)).is s.heap l p:=by
 obtain⟨a,r,⟨o,b,c,n,d⟩,_⟩:=I.tuple h
 exact⟨o,a.toArray,n,b,c,d,by simpa using Xf r⟩
theorem Kh(I:Inv X pins σ H s)(h:Cw X.K H a tr)(c:∀t∈tr,∃a,t.1=KT.at a):tr.length<=AG/\(a==FL)=false/\(tr.map (·.1)).Nodup/\∃us,RA tr us/\s.heap.DictOf (Z6 X.prog X.w) a us:=by
 obtain⟨z,d,nd,o,f,g,i,j,k,l⟩:=h.1.ok I.hok
 obtain⟨us,b,m,n⟩:=Xb (P:=X.prog) l c
 refine⟨by simpa using z,d,nd,us,b,o,f,g,i,j,k,λe p=>n e (by simpa using p),m,?_⟩
 rw[b.fst]at nd
 exact Rh (λ_ _ z=>KT.at.inj z) nd
theorem Ki(I:Inv X pins σ H s)(h:Cw X.K H a tr)(j:∀t∈tr,∃l,t.1=KT.tup l):tr.length<=AG/\(a==FL)=false/\(tr.map (·.1)).Nodup/\∃us,RT tr us/\s.heap.DictOfH (BK (Z6 X.prog X.w)) a us:=by
 obtain⟨z,k,nd,o,n,d,r,v,y,A⟩:=h.1.ok I.hok
 obtain⟨us,f,B⟩:=Xd (P:=X.prog) A j
 have c:=nd
 rw[f.fst]at c
 refine⟨by simpa using z,k,nd,us,f,o,n,d,r,v,y,B,λx b=>?_,Rh (λ_ _ z=>KT.tup.inj z) c⟩
 have all:∀{l:List T3} {m:List (List At×Ac×Aa)},RT l m->(∀t∈l,D1 X.K H t.1 t.2.1)->∀x∈m,(BK (Z6 X.prog X.w)).is s.heap x.1 x.2.1:=by
  intro l m q
  induction q with
  |nil=>intro _ x b;exact nomatch b
  |@cons t u J us g L C=>
   intro i x b
   rcases Br.mp b with e|b
   ·subst e
    have:=i t BC
    rw[g.1,g.2.1]at this
    obtain⟨p,d,E⟩:=this
    cases d
    exact Jb I E
   ·exact C (λt G=>i t (Bv _ G)) x b
 exact all f h.2 x b
theorem Ef.to:∀{v:V}{o:Option Aa},Ef (some v) o->∃w,o=some w/\RelV v w
 |_,some w,h=>⟨w,rfl,h⟩
 |_,none,h=>h.elim
theorem j8{Q:Aa->Ab->Prop}(r:A.units+1<Az)(I:Inv X pins σ H s)(h:Cw X.K H a tr)(j:GS k tr)(m:D1 X.K H k y)(n:RelV y u)(o:CW tr k=some v)(q:∀d s',Inv X pins σ H s'->RelV v d->Q d s'):
  wpAny (Af X.prog X.w) A (getItem (.ref a) u) Q E s:=by
 cases k with
 | «at» b=>
  cases m
  obtain⟨z,hd,nd,t,rel,f⟩:=Kh I h j
  have e:=rel.val b
  rw[o]at e
  obtain⟨d,g,c⟩:=e.to
  exact wpAny_getItem_of (knd:=Z6 X.prog X.w) (Ho n) f.mapOf g (q d _ (I.tok _) c)
 |tup l=>
  obtain⟨p,B,C⟩:=m
  subst B
  cases(show u=CF p from n)
  obtain⟨z,hd,nd,t,rel,f⟩:=Ki I h j
  have e:=rel.val l
  rw[o]at e
  obtain⟨d,g,c⟩:=e.to
  obtain⟨J,G,i⟩:=Option.map_eq_some_iff.mp g
  refine wpAny_getItem_heap (LR r) (Jb I C) f G ?_
  rw[i]
  exact q d _ (I.tok _) c
theorem j9{Q:Aa->Ab->Prop}(i:A.units+1<Az)(I:Inv X pins σ H s)(h:Cw X.K H a tr)(d:GS k tr)(e:D1 X.K H k y)(f:RelV y u)(q:∀s',Inv X pins σ H s'->Q (.bool (CW tr k).isSome) s'):
  wpAny (Af X.prog X.w) A (Df .In u (.ref a)) Q E s:=by
 cases k with
 | «at» b=>
  cases e
  obtain⟨z,hd,nd,j,rel,c⟩:=Kh I h d
  refine wpAny_in_of (knd:=Z6 X.prog X.w) (Ho f) hd c.mapOf ?_
  rw[<- (rel.val b).isS]
  exact q _ (I.tok _)
 |tup l=>
  obtain⟨p,n,o⟩:=e
  subst n
  cases(show u=CF p from f)
  obtain⟨z,hd,nd,j,rel,c⟩:=Ki I h d
  refine wpAny_in_heap (LR i) (Jb I o) hd c ?_
  have g:=(rel.val l).isS
  rw[Option.isSome_map]at g
  rw[<- g]
  exact q _ (I.tok _)
theorem Kj{h':Am}{t':Nat}{ob:HO}(I:Inv X pins σ H s)(c:KY (H a))(d:Ds a s.heap h')(f:∃q,h'.get? a=some q)(new:Bk X.prog X.w (AU H a ob) h' a ob):
  Inv X pins σ (AU H a ob) {s with heap:=h',toks:=t' }:=
 I.write (x:=a) (e:=a) c (.inl rfl) (λb q g z=>(d.2 b g).trans z) f new
def Dz(tr:List T3):HO:=.dct (tr.map (·.1)) (DN tr)
theorem Rj{P:AY}{w:Ai}{H':Hp}{h':Am}{us:List (At×Aa)}(z:tr.length<=AG)(hd:(a==FL)=false)(nd:(tr.map (·.1)).Nodup)(rel:RA tr us)(dd:h'.DictOf (Z6 P w) a us):Bk P w H' h' a (Dz tr):=by
 obtain⟨o,b,c,d,f,g,h,i,k⟩:=dd
 exact⟨by simpa using z,hd,nd,o,b,c,d,f,g,Xc rel i λe j=>h e (by simpa using j)⟩
theorem Rk{P:AY}{w:Ai}{H':Hp}{h':Am}{us:List (List At×Ac×Aa)}(z:tr.length<=AG)(hd:(a==FL)=false)(nd:(tr.map (·.1)).Nodup)(rel:RT tr us)(dd:h'.DictOfH (BK (Z6 P w)) a us):Bk P w H' h' a (Dz tr):=by
 obtain⟨o,b,c,d,e,f,g,h,i⟩:=dd
 refine⟨by simpa using z,hd,nd,o,b,c,d,e,f,?_⟩
 rw[g]
 exact Xe rel
theorem kd{Q:Unit->Ab->Prop}(M:A.units+1<Az)(I:Inv X pins σ H s)(e:H a=some (Dz tr))(d:∀t∈tr,D1 X.K H t.1 t.2.1)(C:GS k tr)(G:D1 X.K H k y)(J:RelV y u)(L:RelV v r)(U:tr.length<AG)
  (q:∀s',Inv X pins σ (AU H a (Dz (DO tr k y v))) s'->Q () s'):wpAny (Af X.prog X.w) A (setItem (.ref a) u r) Q E s:=by
 have h:Cw X.K H a tr:=⟨.inl e,d⟩
 have f:(DO tr k y v).length<=AG:=by have:=Rg tr k y v;omega
 cases k with
 | «at» b=>
  cases G
  obtain⟨z,hd,nd,g,rel,i⟩:=Kh I h C
  have j:g.length<=AG:=by rw[<- GI rel];exact z
  refine wpAny_setItem_pairs (knd:=Z6 X.prog X.w) (hsz:=j) (Ho J) i λn c o=>q _ ?_
  have x:∃q,n.get? a=some q:=let⟨q,_,_,B,_⟩:=c;⟨q,B⟩
  exact Kj I (by rw[e];exact HZ) o x (Rj f hd (Kg nd) (rel.put L) c)
 |tup l=>
  obtain⟨p,O,T⟩:=G
  subst O
  cases(show u=CF p from J)
  obtain⟨z,hd,nd,g,rel,i⟩:=Ki I h C
  have j:g.length<=AG:=by rw[<- GI rel];exact z
  refine wpAny_setItem_heap (hsz:=j) (LR M) (Jb I T) i λn c o=>q _ ?_
  have x:∃q,n.get? a=some q:=let⟨q,_,_,B,_⟩:=c;⟨q,B⟩
  exact Kj I (by rw[e];exact HZ) o x (Rk f hd (Kg nd) (rel.put L) c)
end
end L2
namespace PySem
section
variable{prog:AY}{w:Ai}{K:Type}[DecidableEq K]{knd:HeapKind prog w K}{A:Aj}{E:Aa->Ab->Prop}{s:Ab}
theorem kf{d a:Ac}{xs:List (K×Ac×Aa)}{k:K}{v:Aa}{Q:Aa->Ab->Prop}(n:knd.room A)(b:knd.is s.heap k a)(t:s.heap.DictOfH knd d xs)(hsz:xs.length<=AG)
  (u:∀p,atKey xs k=some p->Q p.2 {s with toks:=s.toks+knd.draws k})
  (z:atKey xs k=none->∀h',h'.DictOfH knd d (storedH xs k a v)->Ds d s.heap h'->Q v {s with heap:=h',toks:=s.toks+knd.draws k}):
  wpAny (Af prog w) A (dictSetDefault d (.ref a) v) Q E s:=by
 obtain⟨o,G,B,g,C,hd,l,h,m⟩:=t
 unfold dictSetDefault
 try with_reducible refine Eh ?_
 refine Ag (knd.pyHash n b ?_)
 refine Ag (wpAny_dictFind_heap (s:={s with toks:=s.toks+knd.draws k}) n b g hd l h m ?_ ?_)
 ·intro c
  have i:k∉xs.map (·.1):=not_mem_keys_of_get c
  refine Ag (FY (Ag (wpAny_updateDictKeys (hz:=by have e:=size_of_entries l;omega) (s:={s with toks:=s.toks+knd.draws k}) g hd (AE (z (atKey_none_of_get c) _ ⟨_,_,B+1,LO _ g (Obj.isFreed_of_dict (Obj.data_mapDictKeys hd _)),
   C.mapDictKeys _,Obj.data_mapDictKeys hd _,?_,?_,?_⟩ (IZ ..))))))
  ·rw[storedH_new (atKey_none_of_get c)]
   simp[l,entryOfKey]
  ·rw[storedH_new (atKey_none_of_get c)]
   intro x f
   rcases List.mem_append.mp f with f|f
   ·exact knd.keeps (h x f) g hd (IZ ..)
   ·simp only[Fx]at f
    subst f
    exact knd.keeps b g hd (IZ ..)
  ·rw[storedH_new (atKey_none_of_get c)]
   rw[Ea,List.nodup_append]
   refine⟨m,by simp,?_⟩
   intro x f y q
   simp only[AW,CA,Fx]at q
   subst q
   exact λe=>i (e ▸ f)
 ·intro j p r
  refine Ag (wpAny_dictEntries (s:={s with toks:=s.toks+knd.draws k}) g hd ?_)
  rw[entry_at l j,r]
  exact Ag (FY (AE (u p (atKey_of_get m r))))
theorem kg{k:K}{a:Ac}(d:Ac)(hd:(d==FL)=false)(dflt:Aa):
  MeetsIn prog w (Av.«dict.setdefault» ⟨[.ref d,.ref a,dflt],[]⟩) (λA R s=>knd.room A.in1/\∃xs,knd.is s.heap k a/\s.heap.DictOfH knd d xs/\xs.length<=AG /\
   (∀p,atKey xs k=some p->R (.ok (.ret p.2)) {s with toks:=s.toks+knd.draws k}) /\
   (atKey xs k=none->∀h',h'.DictOfH knd d (storedH xs k a dflt)->Ds d s.heap h'->R (.ok (.ret dflt)) {s with heap:=h',toks:=s.toks+knd.draws k})):=
 .of_wp λA R s ⟨g,xs,b,f,h,i,j⟩=>by
  unfold Av.«dict.setdefault»
  refine Ag ?_
  unfold Builtin.Dict.keyAndDefault
  refine Ag (wpAny_notOrdered_dict f.typeIs ?_)
  show wpAny _ _ (AK (d,CF a,some dflt)) _ _ s
  refine AE ?_
  show wpAny _ _ (if(d==FL)=true then _ else(dictSetDefault d (.ref a) dflt >>= _)) _ _ s
  rw[if_neg (by rw[hd];exact HD)]
  exact Ag (kf g b f h (λp l=>AE ⟨p.2,rfl,i p l⟩) λm h' c e=>AE ⟨dflt,rfl,j m h' c e⟩)
end
end PySem
namespace L2
open PySem PySem.Spec PyProof.Rows
def Xg(K:Ar):R2:=λx y H Q=>∃a b k v,x=.ref a/\Cw K H a b/\GS k b/\D1 K H k y/\CW b k=some v/\Q v H
def Xh(K:Ar)(neg:Bool):R2:=λx y H Q=>∃a b k,y=.ref a/\Cw K H a b/\GS k b/\D1 K H k x/\Q (.bl (neg != (CW b k).isSome)) H
def kh(K:Ar):MQ:=λo i v H Q=>∃a b k,o=.ref a/\H a=some (Dz b)/\(∀t∈b,D1 K H t.1 t.2.1)/\GS k b/\D1 K H k i/\b.length<AG/\Q (AU H a (Dz (DO b k i v)))
def ki(K:Ar):V->List V->Hp->VK->Prop:=λx c H Q=>∃a b k y z,x=.ref a/\c=[y,z]/\H a=some (Dz b)/\(∀t∈b,D1 K H t.1 t.2.1)/\GS k b/\D1 K H k y/\b.length<AG /\
 (∀v,CW b k=some v->Q v H)/\(CW b k=none->Q z (AU H a (Dz (DO b k y z))))
theorem Cw.typeIs{X:Cx}{b:List (Ac×AM)}{σ:St}{H:Hp}{s:Ab}{a:Ac}{d:List T3}(I:Inv X b σ H s)(h:Cw X.K H a d):s.TypeIs (.ref a) "dict":=by
 obtain⟨_,_,_,o,_,_,e,c,_⟩:=h.1.ok I.hok
 exact⟨o,e,c.1⟩
section
variable{X:Cx}
theorem kj(t:X.A.units+64<Az):Gi X (Xg X.K):=by
 intro b slice c s g H x y v u Q I i j h l
 obtain⟨a,B,k,z,rfl,hd,m,n,o,q⟩:=h
 cases i
 have f:=hd.typeIs I
 unfold subscriptTail
 refine Ag ?_
 rw[getitemInPython_of_ne f.not_modules]
 refine Ag (wpAny_specialOf f PySem.F.slot_dict_getitem.lookup ?_)
 have fin:wpAny (Af X.prog X.w) X.A (subscripted slice false (.ref a) u) (λr d=>wpAny (Af X.prog X.w) X.A (letTemporaryGo b (.ref a) r >>= λ_=>AK r) (EP X c g Q) X.xe d) X.xe s:=by
  rw[l]
  exact wpAny_operating (j8 (by omega) I hd m n j o λC E p e=>Ag (wpAny_letTemporaryGo (AE ⟨z,H,p,e,q⟩)))
 first
  |exact AE (Ag fin)
  |exact Ag (AE (Ag fin))
  |exact Ag fin
theorem Xi(j:X.A.units+64<Az):B5 X (Df .In) (Xh X.K false):=by
 intro b s l H x y v u Q I c d h
 obtain⟨a,e,k,rfl,hd,f,g,q⟩:=h
 cases d
 exact j9 (by omega) I hd f g c λm i=>⟨.bl (CW e k).isSome,H,i,rfl,by simpa using q⟩
theorem ko(p:X.A.units+64<Az):U6 X (kh X.K):=by
 intro c s r H o i v t w u Q I d f g h
 obtain⟨a,x,k,rfl,e,b,j,l,m,q⟩:=h
 cases d
 exact kd (by omega) I e b j l f g m λy n=>⟨_,n,q⟩
theorem kq(hu:X.A.units+64<Az):G6 X "dict.setdefault" (ki X.K):=by
 intro N s σ H x xs v j Q I rx rs h
 obtain⟨a,g,k,y,z,rfl,rfl,e,t,O,T,hl,q1,q2⟩:=h
 cases rx
 obtain⟨u1,U,rfl,Y,r⟩:=rs.two
 have hd:Cw X.K H a g:=⟨.inl e,t⟩
 have m:(DO g k y z).length<=AG:=by have:=Rg g k y z;omega
 cases k with
 | «at» b=>
  cases T
  obtain⟨u,n,nd,j,rel,o⟩:=Kh I hd O
  have B:j.length<=AG:=by rw[<- GI rel];exact u
  have c:=rel.val b
  refine call_meetsIn Xj o.typeIs PySem.F.entry_dict_setdefault (PySem.F.args_dict_setdefault_3 _ _ _) (kt_meets_setdefault (Z6 X.prog X.w) a (Ho Y) n U)
   ⟨j,o,B,λv' C=>?_,λE G f i=>?_⟩
  ·rw[C]at c
   cases d:CW g (.at b)with
   |none=>rw[d]at c;exact c.elim
   |some w=>rw[d]at c;exact⟨w,H,I.tok _,c,q1 w d⟩
  ·rw[E]at c
   cases d:CW g (.at b)with
   |some w=>rw[d]at c;exact c.elim
   |none=>
    have J:∃q,G.get? a=some q:=let⟨q,_,_,L,_⟩:=f;⟨q,L⟩
    exact⟨z,_,Kj I (by rw[e];exact HZ) i J (Rj m n (Kg nd) (rel.put r) f),r,q2 d⟩
 |tup l=>
  obtain⟨p,ep,sq⟩:=T
  subst ep
  cases(show u1=CF p from Y)
  obtain⟨u,n,nd,j,rel,o⟩:=Ki I hd O
  have B:j.length<=AG:=by rw[<- GI rel];exact u
  have c:=rel.val l
  refine call_meetsIn Xj o.typeIs PySem.F.entry_dict_setdefault (PySem.F.args_dict_setdefault_3 _ _ _) (kg (knd:=BK (Z6 X.prog X.w)) (k:=l) a n U)
   ⟨LR (by omega),j,Jb I sq,o,B,λp' M=>?_,λE G f i=>?_⟩
  ·rw[M]at c
   cases d:CW g (.tup l)with
   |none=>rw[d]at c;exact c.elim
   |some w=>rw[d]at c;exact⟨w,H,I.tok _,c,q1 w d⟩
  ·rw[E]at c
   cases d:CW g (.tup l)with
   |some w=>rw[d]at c;exact c.elim
   |none=>
    have J:∃q,G.get? a=some q:=let⟨q,_,_,L,_⟩:=f;⟨q,L⟩
    exact⟨z,_,Kj I (by rw[e];exact HZ) i J (Rk m n (Kg nd) (rel.put r) f),r,q2 d⟩
theorem Inv.big(I:Inv X a σ H s):FL<s.heap.objs.size:=by
 have h:Dq<s.heap.objs.size:=(I.mod.glob.keeps I.bk).lt
 exact Hb (by decide) h
theorem Hq{pos:A5}:PE X (.Dict [] [] pos) (λ_ H Q=>∀p,H p=none->Q (.ref p) (AU H p (Dz []))):=λb s c H Q I h=>
 wpAny_Dict_empty ⟨.ref s.heap.objs.size,_,I.laid (a:=s.heap.objs.size) (o:=Dz []) (t':=s.toks) (λ_ _ q=>Bj _ q) (BD _)
  ⟨Gj _,beq_eq_false_iff_ne.mpr (Bp (CG I.big)),List.nodup_nil,_,#[],0,Ca _ rfl,⟨rfl,rfl,rfl⟩,rfl,rfl,rfl⟩,rfl,h _ (I.hok.fresh (BD _))⟩
end
def Jc:D->Option At
 |.non=>some .non
 |.int i=>some (.int i)
 |.str x=>some (.str x)
 |_=>none
def Hr:List D->Option (List At)
 |[]=>some []
 |d::r=>(Jc d).bind λa=>(Hr r).map (a::·)
def Dl:D->Option KT
 |.tup l=>(Hr l).map KT.tup
 |d=>(Jc d).map KT.at
def aD:At->D
 |.non=>.non
 |.int i=>.int i
 |.str x=>.str x
def kD:KT->D
 |.at a=>aD a
 |.tup l=>.tup (l.map aD)
theorem Xk{d:D}{a:At}(h:Jc d=some a):d=aD a:=by
 unfold Jc at h
 split at h<;>cases h<;>rfl
theorem Xl:∀{l:List D}{b:List At},Hr l=some b->l=b.map aD
 |[],_,h=>by cases h;rfl
 |d::r,b,h=>by
  unfold Hr at h
  cases c:Jc d with
  |none=>rw[c]at h;cases h
  |some a=>
   rw[c]at h
   cases e:Hr r with
   |none=>rw[e]at h;cases h
   |some bs=>rw[e]at h;cases h;rw[AW,<- Xk c,<- Xl e]
theorem Jd{d:D}{k:KT}(h:Dl d=some k):d=kD k:=by
 unfold Dl at h
 split at h
 ·next l=>
  cases b:Hr l with
  |none=>rw[b]at h;cases h
  |some c=>rw[b]at h;cases h;rw[Xl b];rfl
 ·cases b:Jc d with
  |none=>rw[b]at h;cases h
  |some a=>rw[b]at h;cases h;rw[Xk b];rfl
theorem kr(a:At):Jc (aD a)=some a:=by cases a<;>rfl
theorem Xm:∀(l:List At),Hr (l.map aD)=some l
 |[]=>rfl
 |a::l=>by rw[AW];unfold Hr;rw[kr,Xm l];rfl
@[simp] theorem Rl(k:KT):Dl (kD k)=some k:=by
  cases k with
  | «at» a=>cases a<;>rfl
  |tup l=>show(Hr (l.map aD)).map KT.tup=_;rw[Xm];rfl
@[simp] theorem rL:Dl .non=some (.at .non):=rfl
@[simp] theorem rM(i:Int):Dl (.int i)=some (.at (.int i)):=rfl
@[simp] theorem rN(x:Ae):Dl (.str x)=some (.at (.str x)):=rfl
theorem ku(a:At):QI (aD a)=a:=by cases a<;>rfl
theorem kw(k:KT):QJ (kD k)=k:=by
 cases k with
 | «at» a=>cases a<;>rfl
 |tup l=>
  unfold kD QJ
  simp only[Db,KT.tup.injEq]
  induction l with
  |nil=>rfl
  |cons a l b=>rw[AW,b];simp[ku]
abbrev Bx:=List (KT×D)
def Zw:Bx->List D
 |[]=>[]
 |p::r=>kD p.1::p.2::Zw r
def D2:List D->Option Bx
 |[]=>some []
 |k::v::r=>(Dl k).bind λa=>(D2 r).map ((a,v)::·)
 |_=>none
@[simp] theorem Kk:∀kvs:Bx,D2 (Zw kvs)=some kvs
  |[]=>rfl
  |p::r=>by unfold Zw D2;rw[Rl,Kk r];rfl
@[simp] theorem rO:D2 []=some []:=rfl
theorem H9:∀{xs:List D}{kvs:Bx},D2 xs=some kvs->xs=Zw kvs
 |[],_,h=>by cases h;rfl
 |[_],_,h=>by cases h
 |k::v::r,kvs,h=>by
  unfold D2 at h
  cases a:Dl k with
  |none=>rw[a]at h;cases h
  |some c=>
   rw[a]at h
   cases b:D2 r with
   |none=>rw[b]at h;cases h
   |some q=>rw[b]at h;cases h;unfold Zw;rw[<- Jd a,<- H9 b]
theorem Rm:∀kvs:Bx,IL (Zw kvs)=kvs.map (·.1)
 |[]=>rfl
 |p::r=>by unfold Zw IL;rw[kw,Rm r];rfl
def ZT:Bx->KT->Option D
 |[],_=>none
 |t::r,k=>if t.1=k then some t.2 else ZT r k
def D3:Bx->KT->D->Bx
 |[],_,_=>[]
 |t::r,k,v=>(if t.1=k then(t.1,v)else t)::D3 r k v
def Ce(kvs:Bx)(k:KT)(v:D):Bx:=if(ZT kvs k).isSome=true then D3 kvs k v else kvs++[(k,v)]
def EG:KT->Bool
 |.at _=>true
 |_=>false
def DA(k:KT)(kvs:Bx):Bool:=kvs.all λp=>EG p.1==EG k
section
variable{K:Ar}{N:Fb}{H:Hp}
abbrev PD(K:Ar)(N:Fb)(H:Hp):Bx->List T3->Prop:=Paired λp t=>p.1=t.1/\AF K N H (kD p.1) t.2.1/\AF K N H p.2 t.2.2
theorem Xn{a:At}{v:V}(h:AF K N H (aD a) v):v=Fk a:=by cases a<;>simpa only[aD,AF,Fk]using h
theorem Xo:∀{l:List At}{vs:List V},Ad K N H (l.map aD) vs->vs=l.map Fk
 |[],_,h=>by simpa only[CA,Ad]using h
 |a::l,vs,h=>by
  simp only[AW,Ad]at h
  obtain⟨v,r,e,b,c⟩:=h
  rw[e,Xn b,Xo c];rfl
theorem Je{k:KT}{v:V}(h:AF K N H (kD k) v):D1 K H k v:=by
 cases k with
 | «at» a=>exact Xn h
 |tup l=>
  simp only[kD,AF]at h
  obtain⟨p,vs,e,b,c⟩:=h
  rw[Xo c]at b
  exact⟨p,e,b⟩
theorem Kl{k:KT}{v:V}(h:AI K N H (kD k) v):AF K N H (kD k) v:=by
 cases k with
 | «at» a=>cases a<;>exact h
 |tup l=>exact h
theorem LS:∀{kvs:Bx}{vs:List V},Ad K N H (Zw kvs) vs->∃a,vs=DN a/\PD K N H kvs a
 |[],vs,h=>⟨[],by simpa only[Zw,Ad,DN]using h,.nil⟩
 |p::r,vs,h=>by
  simp only[Zw,Ad]at h
  obtain⟨v,t,e,b,c,j,d,f,g⟩:=h
  obtain⟨a,i,q⟩:=LS g
  exact⟨(p.1,v,c)::a,by rw[e,d,i];rfl,.cons ⟨rfl,b,f⟩ q⟩
theorem PD.flat:∀{kvs:Bx}{a:List T3},PD K N H kvs a->Ad K N H (Zw kvs) (DN a)
 |_,_,.nil=>Ad.nil
 |_,_,.cons ⟨_,b,c⟩ t=>Ad.cons b (Ad.cons c (PD.flat t))
theorem PD.fst:∀{kvs:Bx}{a:List T3},PD K N H kvs a->kvs.map (·.1)=a.map (·.1)
 |_,_,.nil=>rfl
 |_,_,.cons ⟨b,_,_⟩ t=>by rw[AW,AW,b,PD.fst t]
theorem PD.keys:∀{kvs:Bx}{b:List T3},PD K N H kvs b->∀t∈b,D1 K H t.1 t.2.1
 |_,_,.nil,_,h=>nomatch h
 |_,_,.cons ⟨c,d,_⟩ t,x,a=>by
  rcases Br.mp a with rfl|a
  ·rw[<- c];exact Je d
  ·exact PD.keys t x a
def Jf(K:Ar)(N:Fb)(H:Hp):Option D->Option V->Prop
 |some d,some v=>AF K N H d v
 |none,none=>True
 |_,_=>False
theorem PD.val:∀{kvs:Bx}{a:List T3},PD K N H kvs a->∀k,Jf K N H (ZT kvs k) (CW a k)
 |_,_,.nil,_=>HZ
 |p::kvs,t::a,.cons ⟨b,_,c⟩ r,k=>by
  have d:=PD.val r k
  unfold ZT CW
  rw[b]
  split
  ·exact c
  ·exact d
theorem Jf.isS:∀{o:Option D}{u:Option V},Jf K N H o u->o.isSome=u.isSome
 |some _,some _,_=>rfl
 |none,none,_=>rfl
 |some _,none,h=>h.elim
 |none,some _,h=>h.elim
theorem PD.rep{k:KT}{d:D}{v:V}(hd:AF K N H d v):∀{kvs:Bx}{a:List T3},PD K N H kvs a->PD K N H (D3 kvs k d) (F0 a k v)
 |_,_,.nil=>.nil
 |p::kvs,t::a,.cons ⟨b,c,e⟩ r=>by
  have f:=PD.rep (k:=k) hd r
  unfold D3 F0
  rw[b]
  refine .cons ?_ f
  split
  ·exact⟨rfl,b ▸ c,hd⟩
  ·exact⟨b,c,e⟩
theorem PD.put{kvs:Bx}{a:List T3}{k:KT}{d:D}{b v:V}(h:PD K N H kvs a)(c:AF K N H (kD k) b)(hd:AF K N H d v):PD K N H (Ce kvs k d) (DO a k b v):=by
 unfold Ce DO
 rw[(h.val k).isS]
 split
 ·exact h.rep hd
 ·exact Paired.snoc' ⟨rfl,c,hd⟩ h
theorem PD.hom{k:KT}:∀{kvs:Bx}{f:List T3},PD K N H kvs f->DA k kvs=true->GS k f
 |_,_,.nil,_=>by cases k<;>exact λ_ h=>nomatch h
 |p::kvs,t::f,.cons ⟨i,_,_⟩ r,e=>by
  simp only[DA,EA,C7]at e
  have g:=PD.hom (k:=k) r e.2
  have d:=e.1
  rw[i]at d
  cases k with
  | «at» a=>
   intro x c
   rcases Br.mp c with rfl|c
   ·cases c:x.1 with
    | «at» b=>exact⟨b,rfl⟩
    |tup l=>rw[c]at d;cases d
   ·exact g x c
  |tup l=>
   intro x c
   rcases Br.mp c with rfl|c
   ·cases c:x.1 with
    | «at» b=>rw[c]at d;cases d
    |tup l=>exact⟨l,rfl⟩
   ·exact g x c
theorem LU{a:Ac}{kvs:Bx}{vs:List V}(h:Rd H a (.dct (IL (Zw kvs)) vs))(hd:Ad K N H (Zw kvs) vs):∃b,Cw K H a b/\PD K N H kvs b:=by
 obtain⟨b,e,p⟩:=LS hd
 subst e
 rw[Rm,p.fst]at h
 exact⟨b,⟨h,p.keys⟩,p⟩
theorem Km{kvs:Bx}{a:List T3}(p:PD K N H kvs a):CO true (Zw kvs) (DN a)=Dz a:=by
 unfold CO Dz
 dsimp only
 rw[Rm,p.fst]
end
def D4:D->D->Option D
 |.lst b true,y=>(D2 b).bind λa=>(Dl y).bind λk=>if DA k a then ZT a k else none
 |_,_=>none
@[simp] theorem LV(kvs:Bx)(y:D):D4 (.lst (Zw kvs) true) y=(Dl y).bind λk=>if DA k kvs then ZT kvs k else none:=by simp[D4]
@[simp] theorem rP(y:D):D4 (.lst [] true) y=(Dl y).bind λk=>none:=by simp[D4,ZT]
def EH(neg:Bool):D->D->Option D
 |y,.lst b true=>(D2 b).bind λa=>(Dl y).bind λk=>if DA k a then some (.bl (neg != (ZT a k).isSome))else none
 |_,_=>none
@[simp] theorem Xp(neg:Bool)(kvs:Bx)(y:D):EH neg y (.lst (Zw kvs) true)=(Dl y).bind λk=>if DA k kvs then some (.bl (neg != (ZT kvs k).isSome))else none:=by simp[EH]
@[simp] theorem rQ(neg:Bool)(y:D):EH neg y (.lst [] true)=(Dl y).bind λk=>some (.bl neg):=by simp[EH,ZT,DA]
section
variable{X:Cx}{K:Ar}{M:Fb}{H0:Hp}{e a b:Expr}{f g:VE->Option D}{pos:A5}
theorem kx:C5 K (Xg K) D4:=by
 intro N H x y d1 d2 d Q t h i e q
 unfold D4 at e
 split at e
 ·next m=>
  cases c:D2 m with
  |none=>rw[c]at e;cases e
  |some a=>
   rw[c]at e
   cases f:Dl d2 with
   |none=>rw[f]at e;cases e
   |some k=>
    rw[f]at e
    have e:(if DA k a then ZT a k else none)=some d:=e
    split at e
    ·next n=>
     rw[H9 c]at h
     obtain⟨p,vs,o,r,hd⟩:=h
     obtain⟨j,s,l⟩:=LU r hd
     rw[Jd f]at i
     have b:=l.val k
     rw[e]at b
     cases g:CW j k with
     |none=>rw[g]at b;exact b.elim
     |some w=>rw[g]at b;exact⟨p,j,k,w,o,s,l.hom n,Je (Kl i),g,q w H (Ak.refl H) b⟩
    ·cases e
 ·cases e
theorem Xq{neg:Bool}:C5 K (Xh K neg) (EH neg):=by
 intro N H x y d1 d2 d Q o f g e q
 unfold EH at e
 split at e
 ·next i=>
  cases b:D2 i with
  |none=>rw[b]at e;cases e
  |some a=>
   rw[b]at e
   cases c:Dl d1 with
   |none=>rw[c]at e;cases e
   |some k=>
    rw[c]at e
    have e:(if DA k a then some (D.bl (neg != (ZT a k).isSome))else none)=some d:=e
    split at e
    ·next j=>
     cases e
     rw[H9 b]at g
     obtain⟨p,vs,l,r,hd⟩:=g
     obtain⟨m,n,h⟩:=LU r hd
     rw[Jd c]at f
     refine⟨p,m,k,l,n,h.hom j,Je (Kl f),?_⟩
     rw[<- (h.val k).isS]
     exact q _ H (Ak.refl H) Fa
    ·cases e
 ·cases e
theorem Kn(e:X.A.units+64<Az)(c:JE X a (tP X.K M H0 f))(d:JE X b (tP X.K M H0 g))(i:JP b):JE X (.Subscript a b pos) (tD X.K M H0 (Ze D4 f g)):=⟨have c:=c.h;have d:=d.h;VZ (kj e) kx c d i⟩
theorem ky(e:X.A.units+64<Az)(c:JE X a (tP X.K M H0 f))(d:JE X b (tP X.K M H0 g))(i:Ga .In b=false:=by with_unfolding_all rfl):JE X (.Compare a [.In] [b] pos) (tD X.K M H0 (Ze (EH false) f g)):=⟨have c:=c.h;have d:=d.h;JX (Xi e) Xq c d i⟩
theorem Xr(e:X.A.units+64<Az)(c:JE X a (tP X.K M H0 f))(d:JE X b (tP X.K M H0 g))(i:Ga .In b=false:=by with_unfolding_all rfl):JT X (.Compare a [.In] [b] pos) (BI X.K M H0 λρ=>AO (Ze (EH false) f g ρ)):=⟨have c:=c.h;have d:=d.h;IN (Xi e) Xq c d i⟩
def Xs:List D->Option D
 |[.lst b true]=>(D2 b).bind λa=>if a.all (λp=>EG p.1)then some (.int a.length)else none
 |_=>none
@[simp] theorem rR(kvs:Bx):Xs [.lst (Zw kvs) true]=if kvs.all (λp=>EG p.1)then some (.int kvs.length)else none:=by simp[Xs]
theorem Rn{pos:A5}:JE X (.Dict [] [] pos) (JV true K M H0 λ_=>some []):=⟨Hq.mono λc H Q ⟨d,a,R,e,q⟩ p b=>by
 cases e
 exact Lp (xs:=[]) (vs:=[]) (fl:=true) (Ak.refl H) b Ad.nil q⟩
def Ia(i:Nat)(ok b:Option D)(ρ:VE):Ao:=match EX ρ i,ok,b with
 |some c,some y,some d=>match D2 c,Dl y with
  |some a,some k=>if DA k a&&decide (a.length<AG)then .next (ρ.set i (.own (Zw (Ce a k d)) true))else .fail
  |_,_=>.fail
 |_,_,_=>.fail
theorem Ro{i:Nat}{x:Ae}{b c pos:A5}{j e:Expr}{L f:VE->Option D}(U:X.A.units+64<Az)(s:JE X j (tP X.K M H0 L))(t:JE X e (tD X.K M H0 f))(Y:X.N[i]?=some x:=by rfl)
  (u:Dr X.env.scope x:=by first|exact Or.inl rfl|exact Or.inr (Or.inl rfl)|exact Or.inr (Or.inr rfl)) (hd:(x==("__debug__":Ae))=false:=by decide) (z:(x==("__classdict__":Ae))=false:=by decide)
  (p:∀v,assign (.Subscript (.Name x b) j c) X.env v=(do
   let r <- holding [v] (Ay (.Name x b) X.env)
   let B <- holding [v,r] (Ay j X.env)
   standAt c
   holding [v,r,B] (setItem r B v)
   release [v,r,B] []):=by intro _;rfl)
  (hs:swapsWithSole [.Subscript (.Name x b) j c] e pos.line X.env=AK false:=by rfl) (m:swappedStores [.Subscript (.Name x b) j c] e X.env=AK none:=by rfl)
  (h1:(Gc [.Subscript (.Name x b) j c] X.env).map (·.2)=[assign (.Subscript (.Name x b) j c) X.env]:=by rfl):
  JS X (.Assign [.Subscript (.Name x b) j c] e pos) (tS X.K M H0 λρ=>Ia i (L ρ) (f ρ) ρ):=⟨have s:=s.h;have t:=t.h;(U7 t (fU (FM Y u hd z) s (ko U) p) hs m h1).mono λD' σ H ⟨ρ,R,q⟩=>by
 try dsimp only at q
 unfold Ia at q
 split at q
 ·next xs y d hr C hf=>
  split at q
  ·next E k G hk=>
   split at q
   ·next I=>
    rw[C7,decide_eq_true_eq]at I
    refine⟨ρ,d,R,hf,λv H1 O u=>?_⟩
    have n:=Lr hr
    have J:=R.st O
    have ex:=H9 G
    subst ex
    obtain⟨a,vs,e1,z1,z2,z3,z4⟩:=J.slot i _ n
    have p:=AJ e1
    refine⟨.ref a,p,ρ,y,J,C,λw H2 l m=>?_⟩
    have R2:=J.st l
    obtain⟨tr,dc,pd⟩:=LU (K:=X.K) (.inl (l _ _ z3)) (z4.same l)
    obtain⟨o,e',g⟩:=LS (z4.same l)
    subst e'
    rw[Jd hk]at m
    have Q:=g.put (k:=k) (Kl m) (u.same l)
    obtain⟨T,S3⟩:=R2.chg (fl2:=true) (ys:=Zw (Ce E k d)) (ws:=DN (DO o k w v)) n p Q.flat
    rw[Km Q]at T S3
    refine⟨a,o,k,rfl,?_,g.keys,g.hom I.1,Je (Kl m),by rw[<- GI g];exact I.2,q _ _ T ((Step.of_same (O.trans l)).trans S3)⟩
    rw[<- Km g]
    exact l _ _ z3
   ·exact BB q
  ·exact BB q
 ·exact BB q⟩
end
theorem Xt(k:KT)(v:D)(a:KT):∀kvs:Bx,ZT (D3 kvs k v) a=if k=a then(ZT kvs a).map (λ_=>v)else ZT kvs a
 |[]=>by simp[D3,ZT]
 |t::r=>by
  have d:=Xt k v a r
  unfold D3 ZT
  by_cases c:t.1=k
  ·subst c
   rw[if_pos rfl]
   by_cases b:t.1=a
   ·subst b;simp
   ·simp only[if_neg b,d]
  ·rw[if_neg c]
   by_cases b:t.1=a
   ·subst b
    rw[if_pos rfl,if_neg (λz=>c z.symm),if_pos rfl]
   ·rw[if_neg b,d,if_neg b]
theorem Xu(k:KT):∀(a b:Bx),ZT (a++b) k=match ZT a k with|some v=>some v|none=>ZT b k
 |[],b=>by simp[ZT]
 |t::r,b=>by
  have c:=Xu k r b
  rw[M5]
  have d:ZT (t::(r++b)) k=if t.1=k then some t.2 else ZT (r++b) k:=rfl
  have e:ZT (t::r) k=if t.1=k then some t.2 else ZT r k:=rfl
  rw[d,e]
  by_cases h:t.1=k
  ·rw[if_pos h,if_pos h]
  ·rw[if_neg h,if_neg h];exact c
theorem Ko(kvs:Bx)(k:KT)(v:D)(a:KT):ZT (Ce kvs k v) a=if k=a then some v else ZT kvs a:=by
 unfold Ce
 by_cases h:(ZT kvs k).isSome=true
 ·rw[if_pos h,Xt]
  by_cases e:k=a
  ·subst e
   rw[if_pos rfl,if_pos rfl]
   cases b:ZT kvs k with
   |none=>rw[b]at h;cases h
   |some w=>rfl
  ·rw[if_neg e,if_neg e]
 ·rw[if_neg h,Xu]
  have c:ZT kvs k=none:=by
   cases b:ZT kvs k with
   |none=>rfl
   |some w=>rw[b]at h;exact absurd rfl h
  by_cases e:k=a
  ·subst e;rw[c];simp[ZT]
  ·rw[if_neg e]
   cases ZT kvs a with
   |none=>simp[ZT,e]
   |some w=>rfl
theorem Xv{k:KT}{v:D}{p:KT×D}:∀{kvs:Bx},p∈D3 kvs k v->p∈kvs\/p=(k,v)
 |[],h=>nomatch h
 |t::r,h=>by
  unfold D3 at h
  rcases Br.mp h with a|h
  ·by_cases e:t.1=k
   ·rw[if_pos e,e]at a;exact .inr a
   ·rw[if_neg e]at a;subst a;exact .inl BC
  ·rcases Xv h with h|h
   ·exact .inl (Bv _ h)
   ·exact .inr h
theorem kz{k:KT}{v:D}{p:KT×D}{kvs:Bx}(h:p∈Ce kvs k v):p∈kvs\/p=(k,v):=by
 unfold Ce at h
 split at h
 ·exact Xv h
 ·rcases List.mem_append.mp h with h|h
  ·exact .inl h
  ·exact .inr (by simpa using h)
theorem Xw(k:KT)(v:D):∀kvs:Bx,(D3 kvs k v).length=kvs.length
 |[]=>rfl
 |t::r=>by simp[D3,Xw k v r]
theorem Nv(kvs:Bx)(k:KT)(v:D):(Ce kvs k v).length<=kvs.length+1:=by
 unfold Ce
 split
 ·rw[Xw];omega
 ·simp
theorem Ib{kvs:Bx}(a:At)(h:∀p∈kvs,EG p.1=true):DA (.at a) kvs=true:=by
 unfold DA
 rw[D9]
 intro p b
 rw[h p b];rfl
theorem kA{kvs:Bx}(l:List At)(h:∀p∈kvs,EG p.1=false):DA (.tup l) kvs=true:=by
 unfold DA
 rw[D9]
 intro p a
 rw[h p a];rfl
def tX(K:Ar)(M:Fb)(g:Hp)(f:VE->Option (D×VE)):TE:=λb H Q=>∃e d a,Bw K M g e b H/\f e=some (d,a) /\
 ∀v c,Bw K M g a b c->Step M (Nf M e b) (Nf M a b) H c->AF K (Nf M a b) c d v->Q v c
def Kp(i:Nat)(c e:VE->Option D):VE->Option (D×VE):=λb=>match EX b i,c b,e b with
 |some f,some y,some d=>match D2 f,Dl y with
  |some a,some k=>if DA k a&&decide (a.length<AG)then
    (match ZT a k with
    |some v=>some (v,b)
    |none=>some (d,b.set i (.own (Zw (Ce a k d)) true)))
   else none
  |_,_=>none
 |_,_,_=>none
section
variable{X:Cx}{K:Ar}{M:Fb}{H0:Hp}{e a b ek ev:Expr}{f g fk fv:VE->Option D}{fx:VE->Option (D×VE)}{pos:A5}
theorem kB{i:Nat}{x:Ae}{e g c:A5}(hu:X.A.units+64<Az)(G:JE X ek (tP X.K M H0 fk))(j:JE X ev (tD X.K M H0 fv))(hN:X.N[i]?=some x:=by rfl)(E:Dr X.env.scope x:=by first|exact Or.inl rfl|exact Or.inr (Or.inl rfl)|exact Or.inr (Or.inr rfl))(hd:(x==("__debug__":Ae))=false:=by decide)(I:(x==("__classdict__":Ae))=false:=by decide)
  (l:Lf (.Name x e) "setdefault" X.env (Ay (.Name x e) X.env)=Ay (.Name x e) X.env:=by rfl)
  (p:((AR c (AN [ek,ev] X.env)).all (λx=>!x.1)&&(backToKw c (IC [] X.env)).all (λx=>x.1.isSome)
   && decide ([ek,ev].length+([]:List BE).length+(if([]:List BE).isEmpty then 0 else 1)<30))=true:=by rfl)
  (m:(g.endLine==c.line)=true:=by rfl) (r:AN [ek,ev] X.env=(false,Ay ek X.env)::AN [ev] X.env:=by exact Dx (λ_ _ z=>nomatch z)) (t:AN [ev] X.env=(false,Ay ev X.env)::AN [] X.env:=by exact Dx (λ_ _ z=>nomatch z)) (J:(AR c (AN [ev] X.env)).any (·.1)=false:=by rfl):
  JE X (.Call (.Attribute (.Name x e) "setdefault" g) [ek,ev] [] c) (tX X.K M H0 (Kp i fk fv)):=⟨have G:=G.h;have j:=j.h;(Le PySem.F.plainAttrs_dict Xj PySem.F.type_dict_setdefault (kq hu) (FM hN E hd I) (DE G (DE j Bt t) r) l p m r J).mono λσ H Q ⟨ρ,d,ρ',R,ex,q⟩=>by
  unfold Kp at ex
  split at ex
  ·next xs y dv hr L O=>
   split at ex
   ·next n k T U=>
    split at ex
    ·next Y=>
     rw[C7,decide_eq_true_eq]at Y
     have B:=Lr hr
     have exs:=H9 T
     subst exs
     obtain⟨a,vs,e1,z1,z2,z3,z4⟩:=R.slot i _ B
     have ha:=AJ e1
     have tv:MX X.K "dict" (.ref a) H:=.inr (.inr (.inl ⟨rfl,.inr (.inr ⟨_,_,.inl z3⟩)⟩))
     refine⟨.ref a,ha,tv,ρ,y,R,L,λw H1 s1 hw=>⟨ρ,dv,R.st s1,O,λv H2 s2 E=>?_⟩⟩
     have s:=s1.trans s2
     have R2:=R.st s
     obtain⟨tr,e',o⟩:=LS (z4.same s)
     subst e'
     rw[Jd U]at hw
     have C:=Kl (hw.same s2)
     have b:=o.val k
     refine⟨a,tr,k,w,v,rfl,rfl,?_,o.keys,o.hom Y.1,Je C,by rw[<- GI o];exact Y.2,λu hu'=>?_,λhn=>?_⟩
     ·rw[<- Km o];exact s _ _ z3
     ·rw[hu']at b
      cases f:ZT n k with
      |none=>rw[f]at b;exact b.elim
      |some d0=>
       rw[f]at b ex
       cases ex
       exact q u H2 R2 (Step.of_same s) b
     ·rw[hn]at b
      cases f:ZT n k with
      |some d0=>rw[f]at b;exact b.elim
      |none=>
       rw[f]at ex
       cases ex
       have pp:=o.put (k:=k) C E
       obtain⟨R3,S3⟩:=R2.chg (fl2:=true) (ys:=Zw (Ce n k d)) (ws:=DN (DO tr k w v)) B ha pp.flat
       rw[Km pp]at R3 S3
       exact q v _ R3 ((Step.of_same s).trans S3) (AF.step S3 d v E)
    ·cases ex
   ·cases ex
  ·cases ex⟩
def rS(o:Option (D×VE)):Ao:=match o with
 |some (_,a)=>.next a
 |none=>.fail
def Nw(i:Nat)(o:Option (D×VE)):Ao:=match o with
 |some (d,a)=>.next (a.set i (.val d))
 |none=>.fail
theorem kC{i:Nat}{x:Ae}{a:A5}(g:X.N.Nodup)(j:X.N[i]?=some x)(k:Loc X.env.scope x)(c:JE X e (tX K M H0 fx))(l:E6 e (some (.Name x a)) pos.line X.env=AK false:=by rfl)(b:X.fn x=true\/X.env.scope.names.lookup x=some .local:=by first|exact .inl rfl|exact .inr rfl|assumption):
  JS X (.Assign [.Name x a] e pos) (tS K M H0 λρ=>Nw i (fx ρ)):=⟨have c:=c.h;(K2 g j k c l b).mono λs t H ⟨ρ,R,q⟩=>by
 try dsimp only at q
 cases b:fx ρ with
 |none=>rw[b]at q;exact BB q
 |some p=>
  obtain⟨d,f⟩:=p
  rw[b]at q
  refine⟨ρ,d,f,R,b,λv m n S o=>?_⟩
  obtain⟨r,S1⟩:=n.setV (i:=i) (Ak.refl m) o
  exact q _ _ r (S.trans S1)⟩
def kE:D->D->Option D
 |.bl i,.bl j=>some (.bl (decide (i=j)))
 |_,_=>none
@[simp] theorem rT(i j:Bool):kE (.bl i) (.bl j)=some (.bl (decide (i=j))):=rfl
end
section
variable{X:Cx}{K:Ar}
def Xx:V->List V->Hp->VK->Prop:=λx vs H Q=>∃z i,x=.str z/\vs=[.int i]/\PadOk i=true/\Q (.str (Txt.zfill z i)) H
theorem kF:G6 X "str.zfill" Xx:=by
 intro a s f H x vs v g Q I b c h
 obtain⟨z,i,rfl,rfl,d,q⟩:=h
 obtain⟨t,rfl⟩:=b
 obtain⟨u,rfl,j,rfl⟩:=DS c
 exact SC.zfill d λe k=>⟨.str _,H,I.tok _,⟨_,rfl⟩,q⟩
def LW(z:Ae):List D->Option D
 |[.int i]=>gd (0<=i/\i<1000000) (some (.str (Txt.zfill z i)))
 |_=>none
theorem kG{i:Int}(a:0<=i)(b:i<1000000):PadOk i=true:=by
 unfold PadOk fitsSsize Builtin.Str.tooLong
 rw[C7,Nx,Nx,Bool.or_eq_false_iff]
 refine⟨⟨decide_eq_false (by omega),decide_eq_false (by omega)⟩,decide_eq_false ?_⟩
 have c:i.toNat<1000000:=by omega
 have d:(1000000:Nat)<=AG:=by decide
 omega
theorem kH:W2 K Xx LW:=by
 intro N H z vs c d Q f h e q
 unfold LW at e
 split at e
 ·next i=>
  obtain⟨a,e⟩:=Nh e
  cases e
  obtain⟨v,rfl,b⟩:=Paired.one' h
  exact⟨z,i,rfl,by rw[b.int],kG a.1 a.2,q _ H (Ak.refl H) Lx⟩
 ·cases e
@[simp] theorem kI(z:Ae)(i:Int)(a:0<=i)(b:i<1000000):LW z [.int i]=some (.str (Txt.zfill z i)):=by
  unfold LW
  exact Lv ⟨a,b⟩
@[simp] def rV(z:Ae):List D->Option D
  |[.str y]=>some (.bl (Txt.startswith z y))
  |_=>none
end
@[simp] def Ny(b:D->VE->Option VE)(o:Option D)(ρ:VE):Ao:=match o with
  |some d=>(match b d ρ with
   |some a=>.next a
   |none=>.fail)
  |none=>.fail
section
variable{X:Cx}{K:Ar}{M:Fb}{H0:Hp}{e tg:Expr}{f:VE->Option D}{b:D->VE->Option VE}{pos:A5}
theorem kJ{ws:List Nat}(a:JE X e (tD K M H0 f))(c:JG X tg (tG K M H0 ws b))(l:swapsWithSole [tg] e pos.line X.env=AK false:=by rfl)(m:swappedStores [tg] e X.env=AK none:=by rfl)
  (n:(Gc [tg] X.env).map (·.2)=[assign tg X.env]:=by rfl):JS X (.Assign [tg] e pos) (tS K M H0 λρ=>Ny b (f ρ) ρ):=⟨have a:=a.h;have c:=c.h;(U7 a c l m n).mono λt u H ⟨ρ,R,q⟩=>by
 try dsimp only at q
 cases g:f ρ with
 |none=>rw[g]at q;exact BB q
 |some d=>
  rw[g]at q
  cases i:b d ρ with
  |none=>simp only[Ny,i]at q;exact BB q
  |some j=>
   simp only[Ny,i]at q
   exact⟨ρ,d,R,g,λv o s p=>⟨ρ,d,j,R.st s,p,i,λk r S1 _=>q k o r ((Step.of_same s).trans S1)⟩⟩⟩
end
end L2
namespace L2
open PySem PySem.Spec PyProof.Rows PySem.W
section
variable(lt:Nat->Nat->Bool)
structure WO(n:Nat):Prop where
 asym:∀a b,a<n->b<n->lt a b=true->lt b a=false
 neg:∀a b c,a<n->b<n->c<n->lt a c=true->lt a b=true\/lt b c=true
def Eb(a b:Nat):Prop:=lt b a=false
end
section
variable{lt:Nat->Nat->Bool}{n:Nat}(W:WO lt n)
include W
theorem WO.refl{a:Nat}(b:a<n):Eb lt a a:=by
 unfold Eb
 cases h:lt a a with
 |false=>rfl
 |true=>have:=W.asym a a b b h;rw[h]at this;cases this
theorem WO.trans{a b c:Nat}(f:a<n)(g:b<n)(i:c<n)(d:Eb lt a b)(e:Eb lt b c):Eb lt a c:=by
 unfold Eb at *
 cases h:lt c a with
 |false=>rfl
 |true=>
  rcases W.neg c b a i g f h with z|z
  ·rw[z]at e;cases e
  ·rw[z]at d;cases d
theorem WO.of_lt{a b:Nat}(c:a<n)(d:b<n)(h:lt a b=true):Eb lt a b:=W.asym a b c d h
end
abbrev Bf(p:Array Nat)(i:Nat):Nat:=p.getD i 0
def GU(lt:Nat->Nat->Bool)(p:Array Nat)(k:Nat):Prop:=∀i j,i<=j->j<k->Eb lt (Bf p i) (Bf p j)
def Ic(lt:Nat->Nat->Bool)(p:Array Nat)(k:Nat):Prop:=∀i j,i<=j->j<k->Eb lt (Bf p j) (Bf p i)
def Eqv(lt:Nat->Nat->Bool)(a b:Nat):Prop:=Eb lt a b/\Eb lt b a
def Bs(n:Nat)(p:Array Nat):Prop:=p.Perm (Ba n).toArray
theorem Bs.size{n:Nat}{p:Array Nat}(h:Bs n p):p.size=n:=by have:=h.size_eq;simpa using this
theorem Bs.lt{n:Nat}{p:Array Nat}(h:Bs n p){i:Nat}(d:i<n):Bf p i<n:=by
 have e:=h.size
 have b:i<p.size:=by omega
 have c:p[i]∈p:=Array.getElem_mem b
 have:=(h.mem_iff (a:=p[i])).mp c
 simp at this
 unfold Bf
 rw[Xy,Kf b]
 exact this
theorem LX{p q:Array Nat}{i j:Nat}(h:p[i]?=q[j]?):Bf p i=Bf q j:=by
 unfold Bf
 rw[Xy,Xy,h]
theorem LY{p:Array Nat}{i j:Nat}(a:j<=p.size)(k:Nat):Bf (kas_rev p i j) k=if i<=k/\k<j then Bf p (i+j-1-k)else Bf p k:=by
 have:=getElem?_mirror_all (xs:=p) (i:=i) (j:=j) a k
 by_cases h:i<=k/\k<j
 ·rw[if_pos h]at this ⊢;exact LX this
 ·rw[if_neg h]at this ⊢;exact LX this
theorem Xz{p:Array Nat}{k d:Nat}(b:k<p.size)(hd:d<=k)(i:Nat):Bf (bubble p k d) i=if i=k-d then Bf p k else if k-d<i/\i<=k then Bf p (i-1)else Bf p i:=by
 have:=getElem?_bubble (xs:=p) (src:=k) b d hd i
 by_cases h:i=k-d
 ·rw[if_pos h]at this ⊢;exact LX this
 ·rw[if_neg h]at this ⊢
  by_cases a:k-d<i/\i<=k
  ·rw[if_pos a]at this ⊢;exact LX this
  ·rw[if_neg a]at this ⊢;exact LX this
theorem Bs.rev{n:Nat}{p:Array Nat}(h:Bs n p)(i j:Nat):Bs n (kas_rev p i j):=(mirror_perm p i j _).trans h
theorem Bs.bub{n:Nat}{p:Array Nat}(h:Bs n p)(k d:Nat):Bs n (bubble p k d):=(bubble_perm p k d).trans h
section
variable{lt:Nat->Nat->Bool}{n:Nat}(W:WO lt n){cmp:Nat->Nat->(Bool->Ab->Prop)->Ab->Prop}{s:Ab}(hc:∀i j C,i<n->j<n->C (lt i j) s->cmp i j C s)
include W hc
theorem Rp{p:Array Nat}(h:Bs n p):∀(f m:Nat){Q:Nat->Ab->Prop},1<=m->m+f<=n->GU lt p m->(∀g,m<=g->g<=m+f->GU lt p g->(g=m+f\/lt (Bf p g) (Bf p (g-1))=true)->Q g s)->Dc cmp (kas_asc p f m) Q s
 |0,m,Q,r,t,k,q=>by
  rw[kas_asc,Dc]
  exact q m (BD _) (by omega) k (.inl rfl)
 |f+1,m,Q,r,t,k,q=>by
  rw[kas_asc,Dc]
  refine hc _ _ _ (h.lt (by omega)) (h.lt (by omega)) ?_
  cases o:lt (Bf p m) (Bf p (m-1))with
  |true=>
   simp only[if_true,Dc]
   exact q m (BD _) (by omega) k (.inr o)
  |false=>
   simp only[DW,if_false]
   refine Rp h f (m+1) (by omega) (by omega) (λi j l u=>?_) λg a b c d=>q g (by omega) (by omega) c (by rcases d with d|d;exact .inl (by omega);exact .inr d)
   rcases Kq j m with z|z
   ·exact k i j l z
   ·have e:j=m:=by omega
    subst e
    rcases Kq i j with y|y
    ·exact W.trans (h.lt (by omega)) (h.lt (i:=j-1) (by omega)) (h.lt (by omega)) (k i (j-1) (by omega) (by omega)) o
    ·have e:i=j:=by omega
     subst e
     exact W.refl (h.lt (by omega))
theorem Rq{p:Array Nat}(c:Bs n p){i j:Nat}(f:i<j)(g:j<=n)(d:∀k,i<=k->k<j->Eqv lt (Bf p k) (Bf p (j-1)))(k:Nat)(e:k<n):Eqv lt (Bf (kas_rev p i j) k) (Bf p k):=by
 rw[LY (by rw[c.size];exact g)]
 by_cases h:i<=k/\k<j
 ·rw[if_pos h]
  have a:=d (i+j-1-k) (by omega) (by omega)
  have b:=d k h.1 h.2
  exact⟨W.trans (c.lt (by omega)) (c.lt (by omega)) (c.lt (by omega)) a.1 b.2,W.trans (c.lt (by omega)) (c.lt (by omega)) (c.lt (by omega)) b.1 a.2⟩
 ·rw[if_neg h]
  exact⟨W.refl (c.lt e),W.refl (c.lt e)⟩
theorem XA{p q:Array Nat}(a:Bs n p)(b:Bs n q){k:Nat}(f:k<=n)(d:∀i,i<n->Eqv lt (Bf q i) (Bf p i))(h:Ic lt p k):Ic lt q k:=λi j c e=>
 W.trans (b.lt (by omega)) (a.lt (i:=j) (by omega)) (b.lt (by omega)) (d j (by omega)).1 (W.trans (a.lt (by omega)) (a.lt (i:=i) (by omega)) (b.lt (by omega)) (h i j c e) (d i (by omega)).2)
theorem Nz:∀(f:Nat)(p:Array Nat)(m q:Nat){Q:Array Nat×Nat×Nat->Ab->Prop},Bs n p->1<=m->m+f<=n->q+1<=m->Ic lt p m->(∀i,m-(q+1)<=i->i<m->Eqv lt (Bf p i) (Bf p (m-1))) ->
  (∀r t G,Bs n r->m<=t->t<=m+f->G+1<=t->Ic lt r t->(∀i,t-(G+1)<=i->i<t->Eqv lt (Bf r i) (Bf r (t-1)))->Q (r,t,G) s)->Dc cmp (kas_desc f p m q) Q s
 |0,p,m,q,Q,l,M,N,H,u,w,v=>by
  rw[kas_desc,Dc]
  exact v p m q l (BD _) (by omega) H u w
 |f+1,p,m,q,Q,l,M,N,H,u,w,v=>by
  rw[kas_desc,Dc]
  refine hc _ _ _ (l.lt (by omega)) (l.lt (by omega)) ?_
  have step:∀(r:Array Nat),Bs n r->Ic lt r m->Eb lt (Bf r m) (Bf r (m-1))->Ic lt r (m+1):=λr o h E i j I T=>by
   rcases Kq j m with z|z
   ·exact h i j I z
   ·have e:j=m:=by omega
    subst e
    rcases Kq i j with y|y
    ·exact W.trans (o.lt (by omega)) (o.lt (i:=j-1) (by omega)) (o.lt (by omega)) E (h i (j-1) (by omega) (by omega))
    ·have e:i=j:=by omega
     subst e
     exact W.refl (o.lt (by omega))
  cases E:lt (Bf p m) (Bf p (m-1))with
  |true=>
   have x:=W.of_lt (l.lt (by omega)) (l.lt (by omega)) E
   simp only[if_true]
   have one:∀(r:Array Nat),Bs n r->∀i,m+1-(0+1)<=i->i<m+1->Eqv lt (Bf r i) (Bf r (m+1-1)):=λr o i a b=>by
    have e:i=m:=by omega
    subst e
    exact⟨W.refl (o.lt (by omega)),W.refl (o.lt (by omega))⟩
   by_cases L:q>0
   ·simp only[L,if_true]
    have o:=l.rev (m-(q+1)) m
    have A:=Rq W hc l (i:=m-(q+1)) (j:=m) (by omega) (by omega) w
    have J:=XA W hc l o (k:=m) (by omega) (λi O=>A i O) u
    have em:Bf (kas_rev p (m-(q+1)) m) m=Bf p m:=by rw[LY (by rw[l.size];omega),if_neg (by omega)]
    have B:Eb lt (Bf (kas_rev p (m-(q+1)) m) m) (Bf (kas_rev p (m-(q+1)) m) (m-1)):=by
     rw[em]
     exact W.trans (l.lt (by omega)) (l.lt (by omega)) (o.lt (by omega)) x (A (m-1) (by omega)).2
    exact Nz f _ (m+1) 0 o (by omega) (by omega) (by omega) (step _ o J B) (one _ o) λC m2 q2 a b c d e g=>v C m2 q2 a (by omega) (by omega) d e g
   ·simp only[L,if_false]
    exact Nz f _ (m+1) 0 l (by omega) (by omega) (by omega) (step _ l u x) (one _ l) λC m2 q2 a b c d e g=>v C m2 q2 a (by omega) (by omega) d e g
  |false=>
   simp only[DW,if_false,Dc]
   refine hc _ _ _ (l.lt (by omega)) (l.lt (by omega)) ?_
   cases hd:lt (Bf p (m-1)) (Bf p m)with
   |true=>
    simp only[if_true,Dc]
    exact v p m q l (BD _) (by omega) H u w
   |false=>
    simp only[DW,if_false]
    refine Nz f _ (m+1) (q+1) l (by omega) (by omega) (by omega) (step _ l u hd) (λi a b=>?_) λC m2 q2 a b c d e g=>v C m2 q2 a (by omega) (by omega) d e g
    show Eqv lt (Bf p i) (Bf p m)
    rcases Kq i m with z|z
    ·have:=w i (by omega) z
     exact⟨W.trans (l.lt (by omega)) (l.lt (i:=m-1) (by omega)) (l.lt (by omega)) this.1 E,W.trans (l.lt (by omega)) (l.lt (i:=m-1) (by omega)) (l.lt (by omega)) hd this.2⟩
    ·have e:i=m:=by omega
     subst e
     exact⟨W.refl (l.lt (by omega)),W.refl (l.lt (by omega))⟩
theorem XC{p:Array Nat}{m e:Nat}{Q:Nat×Array Nat->Ab->Prop}(g:Bs n p)(k:1<=m)(r:m<=e)(t:e<=n)(l:Ic lt p m)
  (q:∀d h,Bs n h->1<=d->d<=e->GU lt h d->Q (d,h) s):Dc cmp (kas_tail3 m e p) Q s:=by
 unfold kas_tail3
 rw[NA]
 have f:=g.rev 0 m
 refine Rp W hc f (e-m) m k (by omega) (λi j o u=>?_) λd a b c _=>?_
 ·rw[LY (by rw[g.size];omega),LY (by rw[g.size];omega),if_pos (by omega),if_pos (by omega)]
  exact l (0+m-1-j) (0+m-1-i) (by omega) (by omega)
 ·rw[Dc]
  exact q d _ f (by omega) (by omega) c
theorem kK{p:Array Nat}{m f:Nat}{Q:Nat×Array Nat->Ab->Prop}(k:Bs n p)(v:m+1<=f)(l:f<=n)(r:Ic lt p (m+1))
  (q:∀h j,Bs n j->1<=h->h<=f->GU lt j h->Q (h,j) s):Dc cmp (kas_descPart m f p) Q s:=by
 unfold kas_descPart
 rw[NA]
 refine Nz W hc (f-(m+1)) p (m+1) 0 k (by omega) (by omega) (by omega) r (λi a b=>?_) λj h t a b c d e g=>?_
 ·have e:i=m:=by omega
  subst e
  exact⟨W.refl (k.lt (by omega)),W.refl (k.lt (by omega))⟩
 ·by_cases o:t>0
  ·simp only[o,if_true]
   exact XC W hc (a.rev _ _) (by omega) (by omega) l (XA W hc a (a.rev _ _) (by omega) (λi u=>Rq W hc a (by omega) (by omega) g i u) e) q
  ·simp only[o,if_false]
   exact XC W hc a (by omega) (by omega) l e q
theorem kL{p:Array Nat}{Q:Nat×Array Nat->Ab->Prop}(g:Bs n p)(N:1<=n)(q:∀v h,Bs n h->1<=v->v<=n->GU lt h v->Q (v,h) s):Dc cmp (kas_count n p) Q s:=by
 unfold kas_count
 rw[NA]
 refine Rp W hc g (n-1) 1 (by omega) (by omega) (λi j A H=>?_) λm a b c d=>?_
 ·have e:i=0:=by omega
  have I:j=0:=by omega
  subst e I
  exact W.refl (g.lt (by omega))
 ·by_cases B:m=n
  ·subst B
   simp only[beq_self_eq_true,if_true,Dc]
   exact q m p g a (by omega) c
  ·have J:(m==n)=false:=by simpa using B
   have t:lt (Bf p m) (Bf p (m-1))=true:=by
    rcases d with d|d
    ·exact absurd (by omega) B
    ·exact d
   simp only[J,DW,if_false]
   have l:∀(h:Array Nat),Bs n h->(∀i,i<m->Eqv lt (Bf h i) (Bf h (m-1)))->lt (Bf h m) (Bf h (m-1))=true->Dc cmp (kas_descPart m n h) Q s:=λh f r L=>
    kK W hc f (by omega) (by omega) (λi j A H=>by
     rcases Kq j m with z|z
     ·exact W.trans (f.lt (by omega)) (f.lt (i:=m-1) (by omega)) (f.lt (by omega)) (r j z).1 (r i (by omega)).2
     ·have e:j=m:=by omega
      subst e
      rcases Kq i j with y|y
      ·exact W.trans (f.lt (by omega)) (f.lt (i:=j-1) (by omega)) (f.lt (by omega)) (W.of_lt (f.lt (by omega)) (f.lt (by omega)) L) (r i y).2
      ·have e:i=j:=by omega
       subst e
       exact W.refl (f.lt (by omega))) q
   by_cases u:m>1
   ·simp only[u,if_true,Dc]
    refine hc _ _ _ (g.lt (by omega)) (g.lt (by omega)) ?_
    cases M:lt (Bf p 0) (Bf p (m-1))with
    |true=>
     simp only[if_true,Dc]
     exact q m p g a (by omega) c
    |false=>
     simp only[DW,if_false]
     have f:=g.rev 0 m
     have r:∀i,i<m->Eqv lt (Bf p i) (Bf p (m-1)):=λi w=>⟨c i (m-1) (by omega) (by omega),W.trans (g.lt (by omega)) (g.lt (i:=0) (by omega)) (g.lt (by omega)) M (c 0 i (by omega) w)⟩
     have o:=λk C=>Rq W hc g (i:=0) (j:=m) (by omega) (by omega) (λk _ C=>r k C) k C
     have em:Bf (kas_rev p 0 m) m=Bf p m:=by rw[LY (by rw[g.size];omega),if_neg (by omega)]
     refine l _ f (λi w=>?_) ?_
     ·have E:=o i (by omega)
      have x:=o (m-1) (by omega)
      have G:=r i w
      exact⟨W.trans (f.lt (by omega)) (g.lt (i:=i) (by omega)) (f.lt (by omega)) E.1 (W.trans (g.lt (by omega)) (g.lt (i:=m-1) (by omega)) (f.lt (by omega)) G.1 x.2),
       W.trans (f.lt (by omega)) (g.lt (i:=m-1) (by omega)) (f.lt (by omega)) x.1 (W.trans (g.lt (by omega)) (g.lt (i:=i) (by omega)) (f.lt (by omega)) G.2 E.2)⟩
     ·rw[em]
      have x:=o (m-1) (by omega)
      rcases W.neg (Bf p m) (Bf (kas_rev p 0 m) (m-1)) (Bf p (m-1)) (g.lt (by omega)) (f.lt (by omega)) (g.lt (by omega)) t with z|z
      ·exact z
      ·have:=x.2;unfold Eb at this;rw[z]at this;cases this
   ·have e:m=1:=by omega
    subst e
    simp only[u,if_false]
    refine l p g (λi w=>?_) t
    have e:i=0:=by omega
    subst e
    exact⟨W.refl (g.lt (by omega)),W.refl (g.lt (by omega))⟩
theorem Rr{p:Array Nat}(c:Bs n p){k:Nat}(g:k<n)(j:GU lt p k):∀(f l r:Nat){Q:Nat->Ab->Prop},l<=r->r<=k->r<=l+f->(∀i,i<l->Eb lt (Bf p i) (Bf p k))->(∀i,r<=i->i<k->lt (Bf p k) (Bf p i)=true) ->
  (∀m,m<=k->(∀i,i<m->Eb lt (Bf p i) (Bf p k))->(∀i,m<=i->i<k->lt (Bf p k) (Bf p i)=true)->Q m s)->Dc cmp (kas_place p k f l r) Q s
 |0,l,r,Q,w,o,x,t,u,q=>by
  rw[kas_place,Dc]
  have e:l=r:=by omega
  subst e
  exact q l o t u
 |f+1,l,r,Q,w,o,x,t,u,q=>by
  rw[kas_place]
  by_cases h:l≥r
  ·have e:l=r:=by omega
   subst e
   rw[if_pos h,Dc]
   exact q l o t u
  ·rw[if_neg h,Dc]
   refine hc _ _ _ (c.lt g) (c.lt (by omega)) ?_
   cases v:lt (Bf p k) (Bf p ((l+r)/2))with
   |true=>
    simp only[if_true]
    refine Rr c g j f l ((l+r)/2) (by omega) (by omega) (by omega) t (λi a b=>?_) q
    have d:=j ((l+r)/2) i a b
    rcases W.neg (Bf p k) (Bf p i) (Bf p ((l+r)/2)) (c.lt g) (c.lt (by omega)) (c.lt (by omega)) v with z|z
    ·exact z
    ·unfold Eb at d;rw[z]at d;cases d
   |false=>
    simp only[DW,if_false]
    refine Rr c g j f ((l+r)/2+1) r (by omega) o (by omega) (λi a=>?_) u q
    exact W.trans (c.lt (by omega)) (c.lt (i:=(l+r)/2) (by omega)) (c.lt g) (j i ((l+r)/2) (by omega) (by omega)) v
theorem XD:∀(f:Nat)(p:Array Nat)(k:Nat){Q:Array Nat->Ab->Prop},Bs n p->k+f=n->GU lt p k->(∀t,Bs n t->GU lt t n->Q t s)->Dc cmp (kas_bin f p k) Q s
 |0,p,k,Q,g,x,h,q=>by
  rw[kas_bin,Dc]
  have e:k=n:=by omega
  subst e
  exact q p g h
 |f+1,p,k,Q,g,x,h,q=>by
  rw[kas_bin,NA]
  refine Rr W hc g (k:=k) (by omega) h k 0 k (by omega) (BD _) (by omega) (λi z=>by omega) (λi a b=>by omega) λl a b c=>?_
  refine XD f _ (k+1) (g.bub _ _) (by omega) (λi j u y=>?_) q
  have m:k<p.size:=by rw[g.size];omega
  have v:k-(k-l)=l:=by omega
  rw[Xz m (by omega),Xz m (by omega),v]
  by_cases w:i=l
  ·rw[if_pos w]
   by_cases d:j=l
   ·rw[if_pos d];exact W.refl (g.lt (by omega))
   ·rw[if_neg d,if_pos (by omega)]
    exact W.of_lt (g.lt (by omega)) (g.lt (by omega)) (c (j-1) (by omega) (by omega))
  ·rw[if_neg w]
   by_cases o:l<i/\i<=k
   ·rw[if_pos o,if_neg (by omega),if_pos (by omega)]
    exact h (i-1) (j-1) (by omega) (by omega)
   ·rw[if_neg o]
    by_cases d:j=l
    ·rw[if_pos d];exact b i (by omega)
    ·rw[if_neg d]
     by_cases r:l<j/\j<=k
     ·rw[if_pos r];exact h i (j-1) (by omega) (by omega)
     ·rw[if_neg r];exact h i j u (by omega)
theorem kM{Q:Array Nat->Ab->Prop}(g:1<=n)(q:∀f,Bs n f->GU lt f n->Q f s):Dc cmp (kas_sort n) Q s:=by
 unfold kas_sort
 rw[NA]
 refine kL W hc (p:=(Ba n).toArray) (Array.Perm.refl _) g λm f a b c d=>?_
 by_cases h:m<n
 ·simp only[h,if_true]
  have e:max m 1=m:=by omega
  rw[e]
  exact XD W hc (n-m) f m a (by omega) d q
 ·have e:m=n:=by omega
  subst e
  simp only[F8,if_false,Dc]
  exact q f a d
end
section
variable{prog:AY}{w:Ai}{A:Aj}{E:Aa->Ab->Prop}{s:Ab}
theorem kN{l b:Ac}{c a:Array Aa}{r:Bool}{n n2:Nat}{dd d:Option Ac}{g e:Array (Option Aa)}{Q:Bool->Ab->Prop}(f:s.heap.get? l=some {cls:=.type "list",dict:=dd,data:=.seq c n,slots:=g})(i:s.heap.get? b=some {cls:=.type "list",dict:=d,data:=.seq a n2,slots:=e})(j:ET A.in1 s c.toList a.toList r)
  (k:A.units<Az) (h:Q r s):wpAny (Af prog w) A (oneLt' true (.ref l) (.ref b)) Q E s:=by
 rw[oneLt'_eq]
 simp only[if_true]
 refine Ag (wpAny_cRoomFor k ?_)
 refine Ag (wpAny_callSpecialIfBound?_slot (T:="list") ⟨_,f,rfl⟩ PySem.F.slot_list_lt (call_meets PySem.F.slot_list_lt ⟨_,f,rfl⟩ PySem.F.entry_list_lt (PySem.F.args_list_lt_2 _ _) (VX l b c a n n2 dd d g e r) ⟨f,i,j,?_⟩))
 exact HE h
end
section
variable{X:Cx}{pins:List (Ac×AM)}{σ:St}{H:Hp}{s:Ab}{N:Fb}
theorem kO(I:Inv X pins σ H s){prog:AY}{w:Ai}(A:Aj)(Y:A.units+40<Az)(b fin:Bool){Q:Bool->Ab->Prop}:∀(xs ys:List D)(a c:List V)(ED EE:List Aa)(i:Nat)(r:Bool),EC (ltN 5) xs ys=some r ->
  Ad X.K N H xs a->Ad X.K N H ys c->Aq a ED->Aq c EE->fin=decide (xs.length<ys.length) ->
  (b=false\/i≠0\/((∀x,xs.head?=some x->∃n,x=.int n)/\∀y,ys.head?=some y->∃n,y=.int n))->Q r s->KatLex prog w A b fin Q (ED.zip EE) i s:=by
 intro xs
 induction xs with
 |nil=>
  intro ys a c ED EE i r h d1 d2 t u k J q
  simp only[Ad]at d1;subst d1;cases t
  rw[List.zip_nil_left]
  refine kat_nil ?_
  cases ys with
  |nil=>simp only[EC]at h;cases h;rw[k];exact q
  |cons y ys=>simp only[EC]at h;cases h;rw[k];simpa using q
 |cons x xs L=>
  intro ys a c ED EE i r h d1 d2 t u k J q
  simp only[Ad]at d1;obtain⟨w1,t1,M,d,v⟩:=d1;subst M
  cases t with
  |cons f B=>
   cases ys with
   |nil=>
    simp only[Ad]at d2;subst d2;cases u
    rw[List.zip_nil_right]
    simp only[EC]at h;cases h
    refine kat_nil ?_
    rw[k];simpa using q
   |cons y ys=>
    simp only[Ad]at d2;obtain⟨w2,t2,O,g,C⟩:=d2;subst O
    cases u with
    |cons j E=>
     rw[Lh]
     simp only[EC]at h
     split at h
     ·next G=>
      rw[C7]at G
      have m:=(J5 I Cc A x y _ _ _ _ (by unfold Cc;omega) G.1 G.2 d.p g.p f j).2.1
      refine kat_cons ?_
      split at h
      ·next e=>
       rw[e]at m
       refine m prog w _ _ ?_
       show KatGo prog w A b fin Q _ _ _ i true s
       unfold KatGo
       rw[if_pos rfl]
       exact L ys _ _ _ _ (i+1) r h v C B E (by rw[k];simp) (.inr (.inl (by omega))) q
      ·next e=>
       rw[LG]at e
       rw[e]at m
       refine m prog w _ _ ?_
       refine kat_no ?_
       by_cases o:(b&&i==0)=true
       ·rw[o]
        have l:b=true/\i=0:=by simpa using o
        rcases J with z|z|⟨z1,z2⟩
        ·rw[l.1]at z;cases z
        ·exact absurd l.2 z
        ·obtain⟨n1,rfl⟩:=z1 x rfl
         obtain⟨n2,rfl⟩:=z2 y rfl
         have T:=d.p.int
         have U:=g.p.int
         subst T U
         obtain⟨k1,rfl⟩:=f
         obtain⟨k2,rfl⟩:=j
         simp only[ltN]at h
         cases h
         exact oneLt_int q
       ·rw[LG]at o
        rw[o]
        refine kat_one _ _ ?_
        exact Q0 I 5 A x y _ _ _ _ r (by unfold Cc;omega) h d.p g.p f j prog w _ (PySem.W.BoolBack Q) q
     ·cases h
theorem kP(I:Inv X pins σ H s)(n:Nat)(A:Aj)(J:A.units+n+1+Cc<Az){b:Bool}:∀(xs ys:List D)(a c:List V)(ED EE:List Aa),EC (ltN n) xs ys=some b->Ad X.K N H xs a->Ad X.K N H ys c->Aq a ED->Aq c EE->ET A.in1 s ED EE b:=by
 intro xs
 induction xs with
 |nil=>
  intro ys a c ED EE h d1 d2 l d
  simp only[Ad]at d1;subst d1;cases l
  cases ys with
  |nil=>simp only[Ad]at d2;subst d2;cases d;cases h;exact .nn
  |cons y ys=>simp only[Ad]at d2;obtain⟨w,t,e,_,_⟩:=d2;subst e;cases d;cases h;exact .nc
 |cons x xs m=>
  intro ys a c ED EE h d1 d2 l d
  simp only[Ad]at d1;obtain⟨w1,L,B,f,o⟩:=d1;subst B
  cases l with
  |cons g r=>
   cases ys with
   |nil=>simp only[Ad]at d2;subst d2;cases d;cases h;exact .cn
   |cons y ys=>
    simp only[Ad]at d2;obtain⟨w2,M,C,i,u⟩:=d2;subst C
    cases d with
    |cons j v=>
     simp only[EC]at h
     split at h
     ·next z=>
      rw[C7]at z
      have k:=(J5 I Cc A.in1 x y _ _ _ _ (by rw[HR];omega) z.1 z.2 f.p i.p g j).2.1
      split at h
      ·next e=>rw[e]at k;exact .eq k (m ys _ _ _ _ h o u r v)
      ·next e=>
       rw[LG]at e
       rw[e]at k
       exact .ne k λprog G E Q q=>Q0 I n A.in1 x y _ _ _ _ b (by rw[HR];omega) h f.p i.p g j prog G E Q q
     ·cases h
def Cf(b:Option Bool)(k:D):Prop:=match b with
 |some true=>∃i r,k=.tup (.int i::r)
 |some false=>∃f r,k=.tup (.tup f::r)
 |none=>∃r,k=.lst r
abbrev LZ:Option Bool->SortKind
 |some b=>tuples' b
 |none=>oneType'
theorem Cf.tup{b:Bool}{k:D}(h:Cf (some b) k):∃f r,k=.tup (f::r):=by
 cases b with
 |true=>obtain⟨i,r,e⟩:=h;exact⟨_,_,e⟩
 |false=>obtain⟨i,r,e⟩:=h;exact⟨_,_,e⟩
theorem kQ(I:Inv X pins σ H s){prog:AY}{w:Ai}(A:Aj)(B:A.units+40<Az)(b r:Bool){k1 k2:D}{u v:V}{y z:Aa}{Q:Bool->Ab->Prop}{E:Aa->Ab->Prop}(h:ltN 6 k1 k2=some r)(m1:Cf (some b) k1)(m2:Cf (some b) k2)
  (d1:AF X.K N H k1 u) (d2:AF X.K N H k2 v) (C:RelV u y) (G:RelV v z) (q:Q r s):wpAny (Af prog w) A (keyLt' (tuples' b) y z) Q E s:=by
 obtain⟨J,L,d⟩:=m1.tup
 obtain⟨M,O,e⟩:=m2.tup
 subst d e
 simp only[AF]at d1 d2
 obtain⟨a1,k,d,q1,f⟩:=d1
 obtain⟨a2,l,e,q2,g⟩:=d2
 subst d e
 cases C
 cases G
 obtain⟨a,i,T,_⟩:=I.tuple q1
 obtain⟨c,j,U,_⟩:=I.tuple q2
 obtain⟨o1,m,_,n1,n⟩:=T
 obtain⟨o2,o,_,n2,p⟩:=U
 refine kat_lt m n o p ?_
 have Y:=f.length
 have l2:=g.length
 have l3:=i.length
 have l4:=j.length
 have:=kO I (prog:=prog) (w:=w) (N:=N) A B b (decide (a.toArray.size<c.toArray.size)) (Q:=Q) (J::L) (M::O) k l a c 0 r h f g i j (by rw[BR,BR,<- l3,<- l4,<- Y,<- l2]) (by
  cases b with
  |false=>exact .inl rfl
  |true=>
   obtain⟨i1,_,d⟩:=m1
   obtain⟨i2,_,e⟩:=m2
   cases d
   cases e
   exact .inr (.inr ⟨λx t=>by cases t;exact⟨_,rfl⟩,λx t=>by cases t;exact⟨_,rfl⟩⟩)) q
 simpa using this
theorem kR(I:Inv X pins σ H s){prog:AY}{w:Ai}(A:Aj)(L:A.units+40<Az)(b:Option Bool)(r:Bool){k1 k2:D}{o t:V}{u v:Aa}{Q:Bool->Ab->Prop}{E:Aa->Ab->Prop}(h:ltN 6 k1 k2=some r)(m1:Cf b k1)(m2:Cf b k2)
  (d1:AF X.K N H k1 o) (d2:AF X.K N H k2 t) (x:RelV o u) (y:RelV t v) (q:Q r s):wpAny (Af prog w) A (keyLt' (LZ b) u v) Q E s:=by
 cases b with
 |some b=>exact kQ I A L b r h m1 m2 d1 d2 x y q
 |none=>
  obtain⟨M,f⟩:=m1
  obtain⟨O,g⟩:=m2
  subst f g
  obtain⟨a1,T,f,q1,i⟩:=d1.p
  obtain⟨a2,U,g,q2,j⟩:=d2.p
  subst f g
  cases x
  cases y
  obtain⟨z,k,⟨⟨cls,dd,data,sl⟩,n1,l,a,B,c⟩,_⟩:=I.list q1
  obtain⟨C,m,⟨⟨G,Y,data2,sl2⟩,n2,n,d,J,e⟩,_⟩:=I.list q2
  simp only at a c d e
  subst a c d e
  show wpAny (Af prog w) A (oneLt' true _ _) Q E s
  exact kN l n (by simpa using kP I 5 A (by unfold Cc;omega) M O _ _ _ _ h i j k m) (by omega) q
theorem kS(I:Inv X pins σ H s){M:Model}(b:Bool):∀(c:List D)(kvs:List V)(us:List Aa),Ad X.K N H c kvs->Aq kvs us->(∀k∈c,Cf (some b) k) ->
  ∃fs,KatTups s.heap us fs/\fs.length=us.length/\∀v∈fs,Looks M s.heap (typeOf v) (.type (if b then "int" else "tuple")):=by
 intro c
 induction c with
 |nil=>
  intro kvs us d r _
  simp only[Ad]at d;subst d;cases r
  exact⟨[],KatTups.nil,rfl,λ_ h=>nomatch h⟩
 |cons k c L=>
  intro kvs us d r G
  simp only[Ad]at d;obtain⟨v,t,e,dv,O⟩:=d;subst e
  cases r with
  |cons U rt=>
   obtain⟨fs,Y,h2,h3⟩:=L t _ O rt λk l=>G k (Bv _ l)
   have m:=G k BC
   obtain⟨f,g,e⟩:=m.tup
   subst e
   simp only[AF]at dv
   obtain⟨a,vs,e,q,dl⟩:=dv
   subst e
   cases U
   obtain⟨its,x,⟨o,ho,hc,n,hd⟩,_⟩:=I.tuple q
   obtain⟨w,vs',e,y,_⟩:=dl
   subst e
   cases x with
   |cons j rt1=>
    rename_i u us'
    refine⟨u::fs,KatTups.cons ho hc hd (by simp) Y,by simp[h2],λv z=>?_⟩
    rcases Br.mp z with e|z
    ·subst e
     intro A Q E s' l J
     cases b with
     |true=>
      obtain⟨i,_,e⟩:=m
      cases e
      have g:=y.p.int
      subst g
      obtain⟨t,rfl⟩:=j
      exact IE (T:="int") rfl J
     |false=>
      obtain⟨i,_,e⟩:=m
      cases e
      simp only[AF]at y
      obtain⟨a2,vs2,e,q2,_⟩:=y
      subst e
      cases j
      obtain⟨_,_,⟨o2,B,C,_⟩,_⟩:=I.tuple q2
      exact IE (T:="tuple") ⟨o2,l _ _ B,C⟩ J
    ·exact h3 v z
theorem kT(I:Inv X pins σ H s){M:Model}:∀(b:List D)(kvs:List V)(us:List Aa),Ad X.K N H b kvs->Aq kvs us->(∀k∈b,Cf none k)->∀u∈us,Looks M s.heap (typeOf u) (.type "list"):=by
 intro b
 induction b with
 |nil=>
  intro kvs us d r _
  simp only[Ad]at d;subst d;cases r
  exact λ_ h=>nomatch h
 |cons k b j=>
  intro kvs us d r i
  simp only[Ad]at d;obtain⟨v,t,e,dv,l⟩:=d;subst e
  cases r with
  |cons m rt=>
   intro u c
   rcases Br.mp c with e|c
   ·subst e
    obtain⟨g,e⟩:=i k BC
    subst e
    obtain⟨a,vs,e,q,_⟩:=dv.p
    subst e
    cases m
    obtain⟨_,_,⟨o,n,w,x,_⟩,_⟩:=I.list q
    intro A Q E z f y
    exact IE (T:="list") ⟨o,f _ _ w,x⟩ y
   ·exact j t _ l rt (λk f=>i k (Bv _ f)) u c
theorem kU(I:Inv X pins σ H s){M:Model}{A:Aj}{E:Aa->Ab->Prop}(b:Option Bool)(a:List D)(kvs:List V)(us:List Aa)(d:Ad X.K N H a kvs)(r:Aq kvs us)(c:∀k∈a,Cf b k)(e:2<=us.length){Q:SortKind->Ab->Prop}(q:Q (LZ b) s):wpAny M A (keyKind' us.toArray) Q E s:=by
 cases b with
 |some b=>
  obtain⟨fs,f,h,g⟩:=kS I (M:=M) b a kvs us d r c
  refine kat_kind f (by omega) g (by cases b<;>rfl) ?_
  have em:(Value.type (if b=true then "int" else "tuple") != Value.type "tuple")=b:=by cases b<;>rfl
  rw[em]
  exact q
 |none=>exact kas_kind e (kT I a kvs us d r c) rfl rfl q
structure Off(X:Cx)(pins:List (Ac×AM))(a:Ac):Prop where
 nL:a≠X.env.locals
 s0:X.s₀.heap.objs.size<=a
 cl:∀x c,X.env.cells.lookup x=some c->c≠a
 pn:∀p∈X.pn++pins,p.1≠a
 nf:a∉X.fs
theorem Inv.off(I:Inv X pins σ H s){a:Ac}(h:s.heap.objs.size<=a):Off X pins a where
 nL:=λe=>by have b:=I.lt;rw[<- e]at b;exact absurd (Cg b h) (F8 _)
 s0:=CN I.sz h
 cl:=λx c e z=>by
  obtain⟨v,o,d,_⟩:=I.cell x c e
  have b:=BA d
  rw[z]at b
  exact absurd (Cg b h) (F8 _)
 pn:=λp f z=>by
  have b:=BA (I.pin p f).1
  rw[z]at b
  exact absurd (Cg b h) (F8 _)
 nf:=I.nofs h
theorem Inv.pin1{a:Ac}{o:AM}(I:Inv X pins σ H s)(c:H a=none)(f:Off X pins a)(e:s.heap.get? a=some o)(d:∀v,o.data≠.cell v):Inv X (pins++[(a,o)]) σ H s:=
 I.pins_of λp b=>by
  rcases List.mem_append.mp b with b|b
  ·exact I.pin p (C2 _ b)
  ·simp only[Fx]at b;subst b;exact⟨e,c,f.nL,f.nf,d⟩
theorem Inv.catch{a:Ac}{d:List Aa}{n:Nat}{vs:List V}(I:Inv X pins σ H s)(h:H a=none)(f:Off X pins a)(e:s.heap.get? a=some {cls:=.type "list",data:=.seq d.toArray n})(i:Aq vs d)(hz:vs.length<=AG):Inv X pins σ (AU H a (.lst vs)) s:=by
 have ne:∀b u,H b=some u->b≠a:=λb u q z=>by rw[z,h]at q;cases q
 have:=I.step (h':=s.heap) (g':=s.gens) (d':=s.drawn) (t':=s.toks) (ch:=[a]) (H':=AU H a (.lst vs)) (λb g=>by
   have e:b=a:=by simpa using g
   subst e
   exact⟨.inr f.s0,f.nL,f.cl,f.pn⟩) (λb o _ _ _ q _=>q) (λb o _ _ _ q _=>⟨o.slots,q⟩) (λb o g _ n=>by rw[ZB (λz=>g (by simp[z]))];exact n) (λb o _ q=>⟨o,q⟩)
  (λb j q=>by rw[ZB (ne _ _ q)];exact q) (λb o u q=>by rw[ZB (ne _ _ q)];exact q) (λb A q=>⟨#[],by rw[ZB (ne _ _ q),q];simp⟩) (λm k=>k) (λb u q=>by
   by_cases g:b=a
   ·subst g
    rw[Z7]at q
    cases q
    exact⟨hz,d,n,i,e⟩
   ·rw[ZB g]at q
    exact(I.hok b u q).stay (λc v _ r=>r) (λc r=>by rw[ZB (ne _ _ r)];exact r) λc j r=>by rw[ZB (ne _ _ r)];exact r) I.bare
 exact this
end
def Dm(F:List Sl->Option Rv)(x:D):D:=((F [.val x]).map FV).getD .non
def CC(F:List Sl->Option Rv)(x y:D):Bool:=match ltN 6 (Dm F x) (Dm F y)with
 |some true=>true
 |_=>false
theorem Rs{F:List Sl->Option Rv}{x y:D}{r:Bool}(h:ltN 6 (Dm F x) (Dm F y)=some r):CC F x y=r:=by
 unfold CC;rw[h];cases r<;>rfl
structure Bz(F:List Sl->Option Rv)(xs:List D):Prop where
 few:xs.length<64
 tells:∀x∈xs,∃r,F [.val x]=some r
 mode:∃b,∀x∈xs,Cf b (Dm F x)
 cmp:∀x∈xs,∀y∈xs,∃r,ltN 6 (Dm F x) (Dm F y)=some r
 asym:∀x∈xs,∀y∈xs,CC F x y=true->CC F y x=false
 neg:∀x∈xs,∀y∈xs,∀z∈xs,CC F x z=true->CC F x y=true\/CC F y z=true
 anti:∀x∈xs,∀y∈xs,CC F x y=false->CC F y x=false->x=y
def Hs(lt:D->D->Bool)(x:D):List D->List D
 |[]=>[x]
 |y::r=>if lt x y then x::y::r else y::Hs lt x r
def Fe(lt:D->D->Bool):List D->List D
 |[]=>[]
 |x::r=>Hs lt x (Fe lt r)
theorem Rt(lt:D->D->Bool)(x:D):∀l,(Hs lt x l).Perm (x::l)
 |[]=>.refl _
 |y::r=>by
  unfold Hs
  split
  ·exact .refl _
  ·exact((Rt lt x r).cons y).trans (.swap x y r)
theorem NB(lt:D->D->Bool):∀l,(Fe lt l).Perm l
 |[]=>.refl _
 |x::r=>(Rt lt x _).trans ((NB lt r).cons x)
theorem XF{F:List Sl->Option Rv}{xs:List D}(h:Bz F xs){x:D}(f:x∈xs):∀l:List D,(∀y∈l,y∈xs)->l.Pairwise (λa b=>CC F b a=false)->(Hs (CC F) x l).Pairwise λa b=>CC F b a=false
 |[],_,_=>by simp[Hs]
 |y::r,g,j=>by
  obtain⟨k,m⟩:=List.pairwise_cons.mp j
  have i:=g y BC
  unfold Hs
  split
  ·next d=>
   refine List.pairwise_cons.mpr ⟨λz c=>?_,j⟩
   rcases Br.mp c with e|c
   ·subst e;exact h.asym x f z i d
   ·cases n:CC F z x with
    |false=>rfl
    |true=>
     rcases h.neg z (g z (Bv _ c)) y i x f n with q|q
     ·rw[k z c]at q;cases q
     ·rw[h.asym x f y i d]at q;cases q
  ·next d=>
   rw[LG]at d
   refine List.pairwise_cons.mpr ⟨λz c=>?_,XF h f r (λz c=>g z (Bv _ c)) m⟩
   rcases Br.mp ((Rt (CC F) x r).subset c)with e|c
   ·subst e;exact d
   ·exact k z c
theorem XG{F:List Sl->Option Rv}{xs:List D}(h:Bz F xs):∀l:List D,(∀y∈l,y∈xs)->(Fe (CC F) l).Pairwise λa b=>CC F b a=false
 |[],_=>.nil
 |x::r,c=>XF h (c x BC) _ (λy d=>c y (Bv _ ((NB _ r).subset d))) (XG h r λy d=>c y (Bv _ d))
def Ie(F:List Sl->Option Rv)(xs:List D):Option (List D):=gd (Bz F xs) (some (Fe (CC F) xs))
theorem Bz.same{F:List Sl->Option Rv}{xs ys:List D}(h:Bz F xs)(c:ys.Perm xs)(d:ys.Pairwise λa b=>CC F b a=false):ys=Fe (CC F) xs:=
 W1 (le:=λa b=>CC F b a=false) (λa b e f g i=>h.anti a (c.subset e) b ((NB _ xs).subset f) i g) d (XG h xs λ_ j=>j) (c.trans (NB _ xs).symm)
theorem XH{F:List Sl->Option Rv}{xs:List D}(h:Bz F xs):Ie F xs=some (Fe (CC F) xs):=Lv h
theorem XI{F:List Sl->Option Rv}{xs ys:List D}(h:Ie F xs=some ys):Bz F xs/\ys=Fe (CC F) xs:=by
 unfold Ie gd at h
 split at h
 ·next a=>cases h;exact⟨a,rfl⟩
 ·cases h
section
variable{X:Cx}{pins:List (Ac×AM)}{σ:St}{H:Hp}{s:Ab}{N:Fb}
theorem XJ{K:Ar}{a:List D}{vs:List V}(h:Ad K N H a vs):∀(b:List Nat),(∀j∈b,j<a.length)->Ad K N H (b.map λj=>a.getD j .non) (b.map λj=>vs.getD j .non)
 |[],_=>Ad.nil
 |j::b,c=>by
  have f:=c j BC
  obtain⟨v,e,d⟩:=h.get (Cu f)
  refine Ad.cons ?_ (XJ h b λk g=>c k (Bv _ g))
  have i:a.getD j .non=a[j]:=by simp[CL,f]
  have l:vs.getD j .non=v:=by simp[CL,e]
  show AF K N H (a.getD j .non) (vs.getD j .non)
  rw[i,l];exact d
theorem NC{vs:List V}{us:List Aa}(h:Aq vs us):∀(b:List Nat),Aq (b.map λj=>vs.getD j .non) (b.map λj=>us.getD j .none)
 |[]=>.nil
 |j::b=>by
  refine .cons ?_ (NC h b)
  induction h generalizing j with
  |nil=>simp;rfl
  |cons a _ c=>
   cases j with
   |zero=>simpa using a
   |succ j=>simpa using c j
theorem kW(I:Inv X pins σ H s){prog:AY}{w:Ai}(A:Aj)(hu:A.units+40<Az){E:Aa->Ab->Prop}{F:List Sl->Option Rv}{g:List D}(h:Bz F g){kvs:List V}{us f:List Aa}
  (d:Ad X.K N H (g.map (Dm F)) kvs) (r:Aq kvs us) (l:f.length=g.length) {a:Ac} {n:Nat} {O:Aa} {P:PySem.Fin->Ab->Prop}
  (q:∀(p:List Nat) (st:SortSt),p.Perm (Ba g.length)->(p.map λj=>g.getD j .non)=Fe (CC F) g->Array.map (λx=>x.2) (arrOf st)=(p.map λj=>f.getD j .none).toArray->failedOf st=none->wpAny (Af prog w) A (ksk_tail a false n O st) P E s):
  wpAny (Af prog w) A (ksk_end a false f.toArray n O us.toArray) P E s:=by
 unfold ksk_end
 simp only[DW,if_false]
 have l1:=d.length
 have l2:=r.length
 rw[B1]at l1
 by_cases y:f.toArray.size<2
 ·rw[if_pos y]
  simp only[y,if_true]
  have L:us.length=f.length:=by omega
  rw[BR]at y
  refine Ag (AE ?_)
  refine Ag ?_
  show wpAny _ _ (AK ((),SortSt.mk' general' (us.toArray.zip f.toArray) #[] 7 none)) _ _ _
  refine AE ?_
  refine q (Ba g.length) (SortSt.mk' general' (us.toArray.zip f.toArray) #[] 7 none) (.refl _) ?_ ?_ rfl
  ·have e:(Ba g.length).map (λj=>g.getD j .non)=g:=by
    apply HK
    intro i
    by_cases l:i<g.length
    ·simp[l]
    ·simp[l]
   rw[e]
   refine h.same (.refl _) ?_
   match g,l with
   |[],_=>exact .nil
   |[a],_=>exact List.pairwise_singleton _ _
   |a::b::c,l=>simp at l;omega
  ·show Array.map (λx=>x.2) (us.toArray.zip f.toArray)=_
   have e:(Ba g.length).map (λj=>f.getD j .none)=f:=by
    rw[<- l]
    apply HK
    intro i
    by_cases l:i<f.length
    ·simp[l]
    ·simp[l]
   rw[e]
   rw[List.zip_toArray,List.map_toArray]
   congr 1
   exact List.map_snd_zip (by omega)
 ·rw[if_neg y]
  simp only[y,if_false]
  rw[BR]at y
  obtain⟨b,o⟩:=h.mode
  refine Ag (kU I b (g.map (Dm F)) kvs us d r (λk hk=>by
   obtain⟨x,hx,rfl⟩:=List.mem_map.mp hk
   exact o x hx) (by omega) ?_)
  have L:us.length=f.length:=by omega
  have T:(us.toArray.zip f.toArray).size=g.length:=by simp;omega
  have hr:=kas_range (us.toArray.zip f.toArray)
  rw[T]at hr
  have U:SortSt.mk' (LZ b) (us.toArray.zip f.toArray) #[] 7 none=kas_st (LZ b) (us.toArray.zip f.toArray) (Ba g.length).toArray:=by
   unfold kas_st;rw[hr]
  refine Ag ?_
  rw[U]
  have W:WO (λi j=>CC F (g.getD i .non) (g.getD j .non)) g.length:=by
   have mem:∀i,i<g.length->g.getD i .non∈g:=λi l=>by
    have n:g.getD i .non=g[i]:=by simp[CL,l]
    rw[n];exact Fc l
   exact⟨λa b z o Y=>h.asym _ (mem a z) _ (mem b o) Y,λa b c z o hc Y=>h.neg _ (mem a z) _ (mem b o) _ (mem c hc) Y⟩
  have hc:∀i j (C:Bool->Ab->Prop),i<g.length->j<g.length->C (CC F (g.getD i .non) (g.getD j .non)) s->kas_cmp prog w A (LZ b) (us.toArray.zip f.toArray) i j C s:=λi j C t u hq=>by
   unfold kas_cmp
   rw[kat_item L,kat_item L]
   have mem:∀i,i<g.length->g.getD i .non∈g:=λi l=>by
    have n:g.getD i .non=g[i]:=by simp[CL,l]
    rw[n];exact Fc l
   obtain⟨rr,B⟩:=h.cmp _ (mem i t) _ (mem j u)
   rw[Rs B]at hq
   have J:∀i,i<g.length->∃v,AF X.K N H (Dm F (g.getD i .non)) v/\RelV v (us.getD i .none):=λi l=>by
    have n:g.getD i .non=g[i]:=by simp[CL,l]
    obtain⟨v,ev,dv⟩:=d.get (i:=i) (d:=Dm F g[i]) (by simp[l])
    refine⟨v,by rw[n];exact dv,?_⟩
    have:=NC r [i]
    cases this with
    |cons a _=>
     have e2:kvs.getD i .non=v:=by simp[CL,ev]
     rw[<- e2]
     exact a
   obtain⟨v1,dv1,rv1⟩:=J i t
   obtain⟨v2,dv2,rv2⟩:=J j u
   exact kR I A hu b rr B (o _ (mem i t)) (o _ (mem j u)) dv1 dv2 rv1 rv2 hq
  refine kas_runs (Q:=λ_ st M=>wpAny (Af prog w) A (ksk_tail a false n O st) P E M) (G:=λp M=>M=s/\Bs g.length p/\GU (λi j=>CC F (g.getD i .non) (g.getD j .non)) p g.length) (by omega) h.few (λp st M hp z hf hg=>?_) (kM W hc (by omega) λp a b=>⟨rfl,a,b⟩)
  obtain⟨rfl,hB,hS⟩:=hg
  have m:p.toList.Perm (Ba g.length):=by
   have:=hB.toList
   simpa using this
  refine q p.toList st m ?_ (kat_snds L z) hf
  refine h.same ?_ ?_
  ·have e:(Ba g.length).map (λj=>g.getD j .non)=g:=by
    apply HK
    intro i
    by_cases l:i<g.length
    ·simp[l]
    ·simp[l]
   have:=m.map λj=>g.getD j .non
   rw[e]at this
   exact this
  ·rw[List.pairwise_map]
   rw[List.pairwise_iff_getElem]
   intro i j l hj hij
   have hsz':=hB.size
   have:=hS i j (by omega) (by simp at hj;omega)
   unfold Eb Bf at this
   simp at l hj
   simpa[Array.getD,l,hj]using this
end
section
variable{X:Cx}{pins:List (Ac×AM)}{σ:St}{H:Hp}{s:Ab}{N:Fb}
abbrev DB(a:List Aa)(n:Nat):AM:={cls:=.type "list",data:=.seq a.toArray n}
theorem Inv.rawset{a:Ac}{c its':List Aa}{n:Nat}{f:Array Aa->Array Aa}(I:Inv X pins σ H s)(d:H a=none)(o:Off X pins a)(e:s.heap.get? a=some (DB c n))(g:f c.toArray=its'.toArray):
  ∃h,(s.heap.update a (G9 f)).get? a=some (DB its' h)/\Inv X pins σ H {s with heap:=s.heap.update a (G9 f)}:=by
 have q:=PySem.IsL.update e f
 rw[g]at q
 exact⟨_,q,I.turned (t':=s.toks) (λb u i j=>(Lg s.heap (G9 f) (Bp i)).trans j) d o.nL (.inr o.s0) o.cl o.pn⟩
theorem Ru(a:List Aa)(n:Nat)(v:Option Aa):(DB a n).data≠.cell v:=nofun
theorem Off.more{a b:Ac}{o:AM}(f:Off X pins a)(h:b≠a):Off X (pins++[(b,o)]) a:=
 ⟨f.nL,f.s0,f.cl,λp c=>by
  rw[<- Ig]at c
  rcases List.mem_append.mp c with c|c
  ·exact f.pn p c
  ·simp only[Fx]at c;subst c;exact h,f.nf⟩
theorem Inv.pinGet{a:Ac}{o:AM}(I:Inv X pins σ H s)(h:(a,o)∈pins):s.heap.get? a=some o/\H a=none:=⟨(I.pin _ (C2 _ h)).1,(I.pin _ (C2 _ h)).2.1⟩
theorem kX{prog:AY}{w:Ai}(A:Aj){D c:Ac}{d m:Nat}{us out:List Aa}{vs:List V}{E:Aa->Ab->Prop}{P:PySem.Fin->Ab->Prop}{st:SortSt}(I:Inv X (pins++[(D,DB [] d)]++[(c,DB us m)]) σ H s)
  (i:Off X pins D) (n:Off X pins c) (ne:D≠c) (g:us.length<=AG) (h:Array.map (λx=>x.2) (arrOf st)=out.toArray) (o:failedOf st=none) (j:Aq vs out) (hz:vs.length<=AG)
  (q:∀s',Inv X pins σ (AU H D (.lst vs)) s'->P (.done (.ret .none)) s'):wpAny (Af prog w) A (ksk_tail D false d (.ref c) st) P E s:=by
 obtain⟨k,p⟩:=I.pinGet (a:=c) (C2 _ BC)
 obtain⟨r,hd⟩:=I.pinGet (a:=D) (JC _ (C2 _ BC))
 have t:Inv X (pins++[(D,DB [] d)]) σ H s:=I.unpinned
 obtain⟨n2,C,l⟩:=t.rawset (f:=λ_=>#[]) (its':=[]) p (n.more ne) k rfl
 unfold ksk_tail
 refine Ag (listUpdate_at k rfl ?_ (by simpa using g) (by simp))
 refine Ag (Hn ?_)
 obtain⟨b,_⟩:=l.pinGet (a:=D) (C2 _ BC)
 refine Ag (seqEpoch_at b rfl ?_)
 have u:Inv X pins σ H _:=l.unpinned
 have v:out.length<=AG:=by rw[<- j.length];exact hz
 obtain⟨n3,y,z⟩:=u.rawset (f:=λ_=>out.toArray) (its':=out) hd i b rfl
 simp only[DW,if_false,h]
 refine Ag (listUpdate_at b rfl ?_ (by simp) (by simp;omega))
 have B:(d != d)=false:=by simp
 rw[o]
 simp only[B,DW,if_false]
 exact AE (q _ (z.catch hd i y j hz))
variable{k:Nat}{fn:Ac}{fd:Bi}{ps:List Ae}{F:List Sl->Option Rv}
theorem kY(m:Ax X.prog X.w X.K X.mg X.base Bh k fn fd ps (Bu X.K F))(i:Binds X.K fd ps [])(I:Inv X pins σ H s)(A:Aj)(B:Bd k A)(C:C4 X.prog X.w X.K X.mg X.base A X.stack s H)(n:∀a,N a->H a≠none){x:D}{v:V}{u:Aa}(d:AF X.K N H x v)(G:RelV v u){r:Rv}(o:F [.val x]=some r)
  {E:Aa->Ab->Prop} {Q:Aa->Ab->Prop} (q:∀h s' c H',Inv X pins σ H' s'->Ak H H'->AF X.K N H' (Dm F x) c->RelV c h->Q h s'):wpAny (Af X.prog X.w) A (call (.ref fn) [u]) Q E s:=by
 have f:Bu X.K F [v] H (λc H'=>Ak H H'/\AF X.K N H' (Dm F x) c) E0:=by
  refine⟨N,[.val x],r,n,?_,o,λc H' j p=>⟨j,?_⟩⟩
  ·exact⟨v,[],rfl,d,rfl⟩
  ·have e:Dm F x=FV r:=by unfold Dm;rw[o];rfl
   rw[e]
   cases r with
   |val y=>exact p
   |own T t=>
    obtain⟨a,J,L,z1,z2,z3⟩:=p
    simp only[FV,AF]
    exact⟨a,J,L,.of (λz=>n a z z1) z2,z3.nw λb i=>.inl (.inl i)⟩
 have M:([u]:List Aa).length=ps.length:=by
  have:=m.len _ _ _ _ f
  simpa using this
 refine wpAny_call (codeAny_mono (m.run A X.stack s H ⟨[u],[]⟩ [u] [v] _ E0 B C (by simpa using i s [u] I.kIn (by simpa using M)) (.cons G .nil) f) λr s' g=>?_)
 cases r with
 |error e=>exact BB g
 |ok t=>
  cases t with
  |ret h=>
   obtain⟨c,H',O,l,j,hd⟩:=I.after g
   exact q h s' c H' O j hd l
  |next=>exact BB g
  |brk=>exact BB g
  |cont=>exact BB g
theorem Ak.none{H H':Hp}(h:Ak H H'){a:Ac}(e:H' a=none):H a=none:=by
 cases q:H a with
 |none=>rfl
 |some o=>rw[h a o q]at e;cases e
theorem kZ(Fo:Ax X.prog X.w X.K X.mg X.base Bh k fn fd ps (Bu X.K F))(hb:Binds X.K fd ps [])(A:Aj)(hr:Bd k A)(hu:A.units+40<Az)(hA:∀s H,C4 X.prog X.w X.K X.mg X.base X.A X.stack s H->C4 X.prog X.w X.K X.mg X.base A X.stack s H)
  {h i:Ac} {n e0:Nat} (I:Inv X (pins++[(h,DB [] n)]++[(i,DB [] e0)]) σ H s) (nh:∀a,N a->H a≠none) {c:List Aa} {xs:List V} {d:List D} (fD:Off X pins h) (M:Off X pins i) (ne:h≠i) (O:Aq xs c) (Q:Ad X.K N H d xs) (ok:Bz F d)
  {E:Aa->Ab->Prop} {P:PySem.Fin->Ab->Prop} (q:∀s' H' vs,Inv X pins σ (AU H' h (.lst vs)) s'->Ak H H'->H' h=none->Ad X.K N H' (Fe (CC F) d) vs->P (.done (.ret .none)) s'):
  wpAny (Af X.prog X.w) A (ksk_rest h (.ref fn) false c.toArray n (.ref i)) P E s:=by
 have l1:=Q.length
 have l2:=O.length
 have few:=ok.few
 have hsl:AG=16777216:=BN
 unfold ksk_rest
 refine Ag (FY ?_)
 refine Ag (wpAny_forIn_array' _ (λZ8 _ s'=>∃(done:List Aa) (H':Hp) (l:List Aa) (g:List V) (y:Nat),c=done++Z8/\l.length=done.length/\Inv X (pins++[(h,DB [] n)]++[(i,DB l y)]) σ H' s'/\Ak H H'/\Aq g l/\Ad X.K N H' ((d.take done.length).map (Dm F)) g) _ ?_ ?_ c.toArray PUnit.unit ?_)
 ·rintro u Z8 b s1 ⟨done,H1,l,g,y,o,hl,m,t,T,C⟩
  have U:done.length<d.length:=by
   have:=congrArg List.length o
   simp at this
   omega
  have G:d[done.length]?=some d[done.length]:=Cu U
  generalize d[done.length]=x at G
  obtain⟨v,hv,dv⟩:=Q.get G
  have ru:RelV v u:=by
   have:=NC O [done.length]
   cases this with
   |cons a _=>
    have n:xs.getD done.length .non=v:=by simp[CL,hv]
    have y:c.getD done.length .none=u:=by rw[o];simp[CL]
    rw[<- n,<- y];exact a
  obtain⟨r,hF⟩:=ok.tells x (Ei G)
  refine Ag (HX ?_)
  refine kY (N:=N) Fo hb m A hr (hA _ _ m.env0) (λa Y z=>nh a Y (t.none z)) (dv.same t) ru hF λu' s2 v' H2 I2 B dv2 rv2=>?_
  obtain⟨L,hk⟩:=I2.pinGet (a:=i) (C2 _ BC)
  have I3:Inv X (pins++[(h,DB [] n)]) σ H2 s2:=I2.unpinned
  obtain⟨n3,g3,I4⟩:=I3.rawset (f:=λx=>x.push u') (its':=l++[u']) hk (M.more ne) L (by simp)
  refine Ag (listUpdate_at L rfl ?_ (by simp;omega) (by simp;omega))
  refine AE ?_
  refine⟨done++[u],H2,l++[u'],g++[v'],n3,by rw[o];simp,by simp[hl],I4.pin1 hk (M.more ne) g3 (Ru _ _),t.trans B,T.append (.cons rv2 .nil),?_⟩
  have e:(d.take (done++[u]).length).map (Dm F)=(d.take done.length).map (Dm F)++[Dm F x]:=by
   rw[Ge,Qy,List.take_succ,G]
   simp
  rw[e]
  exact(C.same B).append (Ad.cons dv2 Ad.nil)
 ·rintro b s1 ⟨done,H1,l,g,y,o,hl,m,t,T,C⟩
  rw[Fp]at o
  subst o
  obtain⟨L,hk⟩:=m.pinGet (a:=i) (C2 _ BC)
  obtain⟨gd',hd⟩:=m.pinGet (a:=h) (JC _ (C2 _ BC))
  refine Ag (listItems_at L rfl ?_)
  have ht:d.take c.length=d:=LH (by omega)
  rw[ht]at C
  refine kW (N:=N) m A hu ok C T (by omega) λp st hp hs Y hf=>?_
  have hpl:p.length=d.length:=by have:=hp.length_eq;simpa using this
  refine kX A m fD M ne (by omega) Y hf (NC O p) (by rw[B1];omega) λs' J=>?_
  refine q s' H1 _ J t hd ?_
  rw[<- hs]
  exact XJ (Q.same t) p λj hj=>by have:=hp.subset hj;simpa using this
 ·exact⟨[],H,[],[],e0,by simp,rfl,I,Ak.refl H,.nil,Ad.nil⟩
theorem XM(J:Ax X.prog X.w X.K X.mg X.base Bh k fn fd ps (Bu X.K F))(L:Binds X.K fd ps [])(A:Aj)(M:Bd k A)(O:A.units+40<Az)(Q:∀s H,C4 X.prog X.w X.K X.mg X.base X.A X.stack s H->C4 X.prog X.w X.K X.mg X.base A X.stack s H)
  (I:Inv X pins σ H s) (T:∀a,N a->H a≠none) {d:Ac} {c:List Aa} {n0:Nat} {xs:List V} {l:List D} (g:s.heap.get? d=some (DB c n0)) (v:H d=none) (m:Off X pins d) (y:Aq xs c) (z:Ad X.K N H l xs) (ok:Bz F l)
  {E:Aa->Ab->Prop} {P:PySem.Fin->Ab->Prop} (q:∀s' H' vs,Inv X pins σ (AU H' d (.lst vs)) s'->Ak H H'->H' d=none->Ad X.K N H' (Fe (CC F) l) vs->P (.done (.ret .none)) s'):
  wpAny (Af X.prog X.w) A (ksk_tree d (.ref fn) false) P E s:=by
 have l1:=z.length
 have l2:=y.length
 have few:=ok.few
 have U:AG=16777216:=BN
 unfold ksk_tree
 refine Ag (listItems_at g rfl ?_)
 obtain⟨n1,B,Y⟩:=I.rawset (f:=λ_=>#[]) (its':=[]) v m g rfl
 refine Ag (listUpdate_at g rfl ?_ (by simp;omega) (by simp))
 refine Ag (seqEpoch_at B rfl ?_)
 refine Ag (wpAny_newTuple ?_ (by simp;omega))
 generalize n:({heap:=s.heap.update d (G9 λx=>#[]),gens:=s.gens,drawn:=s.drawn,toks:=s.toks,os:=s.os}:Ab)=h at *
 have p:h.heap.get? d=some (DB [] n1):=by rw[<- n];exact B
 have r:=Y.kept (t':=h.toks) (λb u e=>Bj {cls:=.type "tuple",data:=.seq c.toArray} e)
 have g2:=Bj {cls:=.type "tuple",data:=.seq c.toArray} p
 generalize t:({heap:=h.heap.push {cls:=.type "tuple",data:=.seq c.toArray},gens:=h.gens,drawn:=h.drawn,toks:=h.toks,os:=h.os}:Ab)=i at *
 have j:i.heap.get? d=some (DB [] n1):=by rw[<- t];exact g2
 refine Ag (wpAny_newList ?_ (by simp))
 have I3:=r.kept (t':=i.toks) (λb u e=>Bj (DB [] 0) e)
 have g3:=Bj (DB [] 0) j
 have gk:=Ca i.heap (o:=DB [] 0) rfl
 have G:=r.off (BD i.heap.objs.size)
 have hK:H i.heap.objs.size=none:=r.fresh
 have ne:d≠i.heap.objs.size:=CG (BA j)
 refine Eh ?_
 exact kZ (N:=N) J L A M O Q ((I3.pin1 v m g3 (Ru _ _)).pin1 hK (G.more ne) gk (Ru _ _)) T m G ne y z ok q
theorem k6(C:Ax X.prog X.w X.K X.mg X.base Bh k fn fd ps (Bu X.K F))(c:Binds X.K fd ps [])(t:Bd (k+2) X.A)
  (I:Inv X pins σ H s) (E:∀a,N a->H a≠none) {a:Ac} {xs:List V} {i:List D} (G:BH X.K H a xs) (v:Ad X.K N H i xs) (ok:Bz F i) {Q:VK}
  (q:∀f vs H',Ak H H'->H f=none->H' f=some (.lst vs)->Ad X.K (λb=>N b\/b=f) H' (Fe (CC F) i) vs->Q (.ref f) H'):
  wpAny (Af X.prog X.w) X.A (call (.builtin "sorted") [.ref a] [("key",.ref fn)]) (EP X pins σ Q) X.xe s:=by
 have l1:=v.length
 have few:=ok.few
 have L:AG=16777216:=BN
 obtain⟨d,x,⟨o,n,O,U,Y,hd⟩,hz⟩:=I.list G
 have l2:=x.length
 refine wpAny_call (L0 plain_sorted entry_sorted ?_)
 have j:ND "sorted" ⟨[.ref a],[("key",.ref fn)]⟩=AK ():=by rfl
 rw[j]
 refine AE ?_
 unfold PySem.Builtin.sorted
 have m:checkCount "sorted" 1 1 1=AK ():=rfl
 show wpAny _ _ (do checkCount "sorted" 1 1 1;let y <- collect (.ref a);let l <- newList y;let _ <- holding [l] (call (.builtin "list.sort") [l] [("key",.ref fn)]);ret l) _ _ _
 rw[m]
 refine Ag (AE ?_)
 refine Ag (wpAny_collect_seq a (T:="list") (.inl rfl) O U hd (λh1 k1=>?_) (by simp;omega))
 have p:=I.kept (t':=s.toks) k1
 refine Ag (wpAny_newList ?_ (by simp;omega))
 generalize hs1:({heap:=h1,gens:=s.gens,drawn:=s.drawn,toks:=s.toks,os:=s.os}:Ab)=h at *
 have I2:=p.kept (t':=h.toks) (λb u e=>Bj (DB d 0) e)
 have g:=Ca h.heap (o:=DB d 0) rfl
 have fD:=p.off (BD h.heap.objs.size)
 have r:H h.heap.objs.size=none:=p.fresh
 refine Ag (Eh ?_)
 refine wpAny_call (L0 PySem.F.slot_list_sort.plain PySem.F.entry_list_sort ?_)
 refine PySem.F.slot_list_sort.check _ _ _ _ _ _ _ _ ⟨_,g,rfl⟩ rfl ?_
 rw[ksk_t1]
 refine XM (N:=N) C c X.A.in1.in1 t.in1.in1 ?_ (λs H e=>e.in1.in1) I2 E g r fD x v ok λs' H' vs J sm B dv=>?_
 ·have:=t.un;show X.A.units+1+1+40<_;omega
 ·refine AE ?_
  refine⟨.ref _,_,J,rfl,q _ vs _ (λb u e=>?_) r Z7 ?_⟩
  ·rw[ZB (λz=>by rw[z,r]at e;cases e)];exact sm b u e
  ·exact Ad.step (M:=λ_=>False) ⟨λb u e z=>by
    rw[ZB (λz=>by rw[z,B]at e;cases e)];exact e,λb c=>by
    rcases c with c|c
    ·exact .inl c
    ·subst c;exact .inr B⟩ _ _ dv
end
section
variable{X:Cx}{M:Fb}{H0:Hp}{k:Nat}{fn:Ac}{fd:Bi}{ps:List Ae}{F:List Sl->Option Rv}{e:Expr}{f:VE->Option D}{x y:Ae}{p p2 kpos pos:A5}
def NE(F:List Sl->Option Rv)(f:VE->Option D):VE->Option (List D):=λa=>match f a with
 |some (.lst b)=>Ie F b
 |_=>none
theorem k7(Fo:Ax X.prog X.w X.K X.mg X.base Bh k fn fd ps (Bu X.K F))(hr:Bd (k+2) X.A)(hg:Gl X x)(hm:X.mg x=none)(hv:Ep x=some (.builtin "sorted"))(j:Gl X y)(l:X.mg y=some (.ref fn))(hb:Binds X.K fd ps [])(m:JE X e (tP X.K M H0 f))
  (hn:x≠"__name__":=by decide) (n:(x==("__debug__":Ae))=false:=by decide) (d:(y==("__debug__":Ae))=false:=by decide) (L:AN [e] X.env=(false,Ay e X.env)::AN [] X.env:=by exact Dx (λ_ _ z=>nomatch z)):
  JE X (.Call (.Name x p) [e] [⟨some "key",.Name y p2,kpos⟩] pos) (tF X.K M H0 (NE F f)):=⟨have m:=m.h;by
 intro b s g H Q I h
 obtain⟨o,ys,R,i,q⟩:=h
 refine Lb (F9 I hg hm hv ?_ hn n)
 unfold NE at i
 split at i
 ·next O hf=>
  obtain⟨ok,rfl⟩:=XI i
  have T:=(DE m (Bt (X:=X)) L) pos b s g H (λvs c=>∃v,vs=[v]/\Ak H c/\AI X.K (Nf M o g) c (.lst O) v) I ⟨o,.lst O,R,hf,λv c r d1=>⟨v,rfl,r,d1⟩⟩
  have t:=Vu (nm:=some "key") (kpos:=kpos) (UZ (v:=.ref fn) (pos:=p2) j l rfl d) (Vt (X:=X))
  rw[L]at T ⊢
  refine callWith_builtin_kwB rfl rfl ?_
  unfold evalArgs
  refine Ag (A8 T λus r B=>?_)
  obtain⟨vs,c,I1,r1,v,rfl,C,d1⟩:=B
  refine Ag (AE ?_)
  refine Eh ?_
  refine Ag (A8 (t pos b r g c (λU Y=>U=[.ref fn]/\Y=c) I1 ⟨rfl,rfl⟩) λks s2 B=>?_)
  obtain⟨U,Y,I2,r2,rfl,rfl⟩:=B
  refine Ag (AE ?_)
  refine AE ?_
  obtain⟨u,rfl,ru⟩:=DS r1
  obtain⟨u2,rfl,E⟩:=DS r2
  cases E
  obtain⟨a,ws,rfl,sq,dl⟩:=d1
  cases ru
  have R1:=R.st C
  exact k6 (N:=Nf M o g) Fo hb hr I2 R1.nh sq dl ok λda vs H' s' G J dv=>q da vs H' (C.trans s') (C.none G) J dv
 ·cases i⟩
end
end L2
namespace L2
open PySem PySem.Spec PyProof.Rows
section
variable{X:Cx}{K:Ar}{M:Fb}{H0:Hp}{pos:A5}{tg elt iter:Expr}{ifs:List Expr}{scope:Scope}{ws:List Nat}{f:VE->Option (List D)}{b:D->VE->Option VE}{t:VE->Option Bool}{e:VE->Option D}{k:Nat}{oix:List Nat}
@[simp] theorem rW(xs:List D):Wa (.lst xs)=some xs:=rfl
end
end L2
namespace L2
open PySem PySem.Spec PyProof.Rows PySem.W
theorem k8:typeLookup (.type "list") ("keys":Ae)=AK none:=am_miss_of_fast (by kernel_rfl)
theorem k9{prog:AY}{w:Ai}{A:Aj}{E:Aa->Ab->Prop}{s:Ab}{a:Ac}{f:Array Aa}{Q:Option Aa->Ab->Prop}(p:PlainL s.heap a f)(k:A.handled=none)
  (q:∀h' h,(∀b o,s.heap.get? b=some o->h'.get? b=some o)->Q none {s with heap:=h',toks:=h}):wpAny (Af prog w) A (getAttr? (.ref a) "keys") Q E s:=by
 obtain⟨o,n,e,i,hd,j⟩:=p
 obtain⟨c,u,v,l⟩:=o
 dsimp only at i hd j
 subst i hd j
 obtain⟨m,g,d,h,os⟩:=s
 have ty:∀t,(⟨m,g,d,t,os⟩:Ab).TypeIs (.ref a) "list":=λ_=>⟨_,e,rfl⟩
 have x:=sub_AttributeError
 have y:=F.slot_list_getattribute.lookup
 have z:=F.slot_list_getattribute.bind (.ref a)
 have B:=am_list_getattr_none
 unfold getAttr? getAttrBy? getAttrBy
 repeat(any_goals(first
  |assumption
  |exact ty _
  |((with_reducible show wpAny _ _ (call (Value.builtin "list.__getattribute__") _ _) _ _ _)
    refine call_meets F.slot_list_getattribute (ty _) am_entry_list_getattribute (F.args_list_getattribute_2 _ _) (meets_getattribute_miss_list a f n l "keys" _ k8 (by decide +kernel) (by decide +kernel)) ⟨e,k,λr C G new=>?_⟩)
  |wp_step))
 obtain⟨H,I,ex⟩:=new.there
 show wpAny _ _ (getattributeRaised _ _ _ _ _ _ _) _ _ _
 unfold getattributeRaised
 repeat(any_goals(first|assumption|wp_step))
 exact q r _ new.keeps
theorem XN:entryFor table "dict.update.loop"=some Av.«dict.update.loop»:=entryFor_of_tree (by kernel_rfl)
theorem NF:plainId "dict.update.loop"=true:=by decide +kernel
section
variable{X:Cx}{pins:List (Ac×AM)}{σ:St}{H:Hp}{s:Ab}{A:Aj}{E:Aa->Ab->Prop}{tr:List T3}{a:Ac}{k:KT}{y v:V}{u r:Aa}
theorem lb{Q:Unit->Ab->Prop}(L:A.units+1<Az)(I:Inv X pins σ H s)(e:H a=some (Dz tr))(d:∀t∈tr,D1 X.K H t.1 t.2.1)(B:GS k tr)(C:D1 X.K H k y)(G:RelV y u)(J:RelV v r)(T:tr.length<AG)
  (q:∀h' t',Inv X pins σ (AU H a (Dz (DO tr k y v))) {s with heap:=h',toks:=t' }->Ds a s.heap h'->Q () {s with heap:=h',toks:=t' }):wpAny (Af X.prog X.w) A.in1 (dictSet a u r) Q E s:=by
 have h:Cw X.K H a tr:=⟨.inl e,d⟩
 have f:(DO tr k y v).length<=AG:=by have:=Rg tr k y v;omega
 cases k with
 | «at» b=>
  cases C
  obtain⟨z,hd,nd,i,rel,j⟩:=Kh I h B
  have m:i.length<=AG:=by rw[<- GI rel];exact z
  refine wpAny_dictSet_pairs (knd:=Z6 X.prog X.w) (hsz:=m) (Ho G) j λh' c g=>q _ _ ?_ g
  have o:∃q,h'.get? a=some q:=let⟨q,_,_,x,_⟩:=c;⟨q,x⟩
  exact Kj I (by rw[e];exact HZ) g o (Rj f hd (Kg nd) (rel.put J) c)
 |tup l=>
  obtain⟨p,N,O⟩:=C
  subst N
  cases(show u=CF p from G)
  obtain⟨z,hd,nd,i,rel,j⟩:=Ki I h B
  have m:i.length<=AG:=by rw[<- GI rel];exact z
  refine wpAny_dictSet_heap (hsz:=m) (LR L) (Jb I O) j λh' c g=>q _ _ ?_ g
  have o:∃q,h'.get? a=some q:=let⟨q,_,_,x,_⟩:=c;⟨q,x⟩
  exact Kj I (by rw[e];exact HZ) g o (Rk f hd (Kg nd) (rel.put J) c)
end
theorem XO{K:Ar}{H H':Hp}{k:KT}{v:V}(h:D1 K H k v)(s:Ak H H'):D1 K H' k v:=by
 cases k with
 | «at» a=>exact h
 |tup l=>obtain⟨p,e,b⟩:=h;exact⟨p,e,b.same s⟩
def Ht:Bx->List D->Option Bx
 |a,[]=>some a
 |a,.tup [y,d]::r=>match Dl y with
  |some k=>if DA k a&&decide (a.length<AG)then Ht (Ce a k d) r else none
  |none=>none
 |_,_=>none
theorem lc{M:Model}{A:Aj}{E:Aa->Ab->Prop}{s:Ab}{p:Ac}{a:Array Aa}{Q:List Aa->Ab->Prop}(h:IsTup s.heap p a)(q:Q a.toList s):wpAny M A (Builtin.Dict.pairItems (.ref p)) Q E s:=by
 obtain⟨o,e,b,n,hd⟩:=h
 unfold Builtin.Dict.pairItems
 refine Ag (IE (T:="tuple") ⟨o,e,b⟩ ?_)
 rw[if_pos (by decide)]
 unfold seqItems?
 refine Ag (Ag (wpAny_load e ?_))
 rw[hd]
 exact AE (AE q)
section
variable{X:Cx}{pins:List (Ac×AM)}{σ:St}{H:Hp}{A:Aj}{a it l:Ac}{N:Fb}{us:List Aa}{R:Result->Ab->Prop}
theorem XP(hu:A.units+1<Az)(hA:A.in1.handled=none)(hH:H a=none)(g:Fn X pins H it)(h:it≠a)(x:l≠it)(z:l≠a):∀(J:List D)(vs:List V)(ws:List Aa)(i:Nat)(s:Ab)(kvs:Bx)(j:List T3)(c:Bx),
  us.drop i=ws->Aq vs ws->Ad X.K N H J vs->PD X.K N H kvs j->Inv X pins σ (AU H a (Dz j)) s->s.heap.IsListIter it l i->s.heap.IsList l us.toArray->Ht kvs J=some c ->
  (∀s' B,Inv X pins σ (AU H a (Dz B)) s'->PD X.K N H c B->R (.ok (.ret .none)) s') ->
  codeAny (Af X.prog X.w) A (.builtin "dict.update.loop" ⟨[.ref a,.ref it,AH (i:Int),.none],[]⟩) R s
 |[],vs,ws,i,s,kvs,j,c,hd,Q,L,n,I,m,M,f,q=>by
  cases L
  cases Q
  cases f
  refine JR XN ?_
  rw[Li NF _]
  show wpAny _ A.in1 (Bm (.ref it) >>= _) _ _ s
  have T:us.toArray[i]?=none:=by
   have:=List.drop_eq_nil_iff.mp hd
   simp[this]
  refine Ag (wpAny_pyNext_list_end hA m M T λh' ke=>?_)
  have O:=I.turned (t':=s.toks) (λb o U e=>ke b o U e) (by rw[ZB h];exact g.1) g.2.1 g.2.2.2.1 g.2.2.2.2.1 g.2.2.2.2.2
  exact Ag (AE (AE (q _ j O n)))
 |d::J,vs,ws,i,s,kvs,j,c,hd,Q,L,n,I,m,M,f,q=>by
  simp only[Ad]at L
  obtain⟨v,Y,rfl,d1,dn'⟩:=L
  cases Q with
  |@cons _ u _ C rv hv'=>
  unfold Ht at f
  split at f
  ·cases ‹_::_=[]›
  ·next y dd r e1=>
   cases e1
   cases hk:Dl y with
   |none=>rw[hk]at f;cases f
   |some k=>
    rw[hk]at f
    dsimp only at f
    split at f
    ·next hc=>
     rw[C7,decide_eq_true_eq]at hc
     have ey:=Jd hk
     subst ey
     simp only[AF]at d1
     obtain⟨p,vs2,rfl,sq,dl⟩:=d1
     simp only[Ad]at dl
     obtain⟨kv,r2,rfl,dk,vv,r3,rfl,dv,rfl⟩:=dl
     cases rv
     have hat:us.toArray[i]?=some (.ref p):=by
      have h0:(us.drop i)[0]?=some (CF p):=by rw[hd];rfl
      rw[MZ]at h0
      simpa using h0
     have hd':us.drop (i+1)=C:=by
      rw[<- List.tail_drop,hd];rfl
     refine JR XN ?_
     rw[Li NF _]
     show wpAny _ A.in1 (Bm (.ref it) >>= _) _ _ s
     refine Ag (wpAny_pyNext_list_item m M hat λh' E sb=>?_)
     have O:=I.turned (t':=s.toks) (λb o U e=>(sb.2 b U).trans e) (by rw[ZB h];exact g.1) g.2.1 g.2.2.2.1 g.2.2.2.2.1 g.2.2.2.2.2
     have sm:Ak H (AU H a (Dz j)):=FU hH
     obtain⟨its,rv2,ht,_⟩:=O.tuple (sq.same sm)
     obtain⟨u1,u2,rfl,r1,r2⟩:=K8 rv2
     have hl':h'.IsList l us.toArray:=M.at λo e=>(sb.2 l x).trans e
     refine Ag (Eh ?_)
     refine Ag (wpAny_tryCatch (lc ht ?_))
     dsimp only
     refine Eh ?_
     refine lb hu O Z7 (λt ht=>XO (n.keys t ht) sm) (n.hom hc.1) (XO (Je dk) sm) r1 r2 (by have:=GI n;omega) λh2 t2 I2 G=>?_
     rw[eQ]at I2
     refine AE ⟨plainId_quiet NF _,?_⟩
     have e2:AH ((i:Int)+1)=AH ((i+1:Nat):Int):=by simp
     rw[e2]
     refine XP hu hA hH g h x z J Y C (i+1) _ (Ce _ k dd) (DO j k kv vv) c hd' hv' dn' (n.put dk dv) I2 ?_ ?_ f q
     ·obtain⟨o,e,hh⟩:=E
      exact⟨o,(G.2 it h).trans e,hh⟩
     ·exact hl'.at λo e=>(G.2 l z).trans e
    ·cases f
  ·cases f
theorem lf(M:X.calm=true)(hu:X.A.units+64<Az){s:Ab}{E:Aa->Ab->Prop}{Q:VK}(I:Inv X pins σ H s){m:List D}{vs:List V}{kvs:Bx}(O:BH X.K H l vs)(U:Ad X.K N H m vs)(Y:Ht [] m=some kvs)
  (q:∀v p,H p=none->PD X.K N H kvs v->Q (.ref p) (AU H p (Dz v))):wpAny (Af X.prog X.w) X.A (call (.type "dict") [.ref l]) (EP X pins σ Q) E s:=by
 obtain⟨us,rv,y,hz⟩:=I.list O
 have g:l<s.heap.objs.size:=by obtain⟨o,n,e,_⟩:=y;exact BA e
 have B:X.A.handled=none:=I.ok.hd M
 refine callType_codes (Q₁:=λx G=>x=.ref s.heap.objs.size/\G={s with heap:=s.heap.push {cls:=.type "dict",data:=.dict #[]} }) F.kt_called_dict (F.kt_typeCall_dict_1 (.ref l)) F.entry_dict_init (kt_code_dict_new (.ref l) ⟨rfl,rfl⟩) ?_
 rintro x G ⟨rfl,rfl⟩
 have h:H s.heap.objs.size=none:=I.hok.fresh (BD _)
 have I1:Inv X pins σ (AU H s.heap.objs.size (Dz [])) {s with heap:=s.heap.push {cls:=.type "dict",data:=.dict #[]} }:=
  I.laid (a:=s.heap.objs.size) (o:=Dz []) (t':=s.toks) (λ_ _ z=>Bj _ z) (BD _) ⟨Gj _,beq_eq_false_iff_ne.mpr (Bp (CG I.big)),List.nodup_nil,_,#[],0,Ca _ rfl,⟨rfl,rfl,rfl⟩,rfl,rfl,rfl⟩
 have c:PlainL (s.heap.push {cls:=.type "dict",data:=.dict #[]}) l us.toArray:=by
  obtain⟨o,n,e,i⟩:=y
  exact⟨o,n,Bj _ e,i⟩
 have j:Shared.TypeIs {s with heap:=s.heap.push {cls:=.type "dict",data:=.dict #[]} } (.ref s.heap.objs.size) "dict":=⟨_,Ca _ rfl,rfl⟩
 refine⟨j,F.args_dict_init_2 _ _,?_⟩
 unfold Av.«dict.__init__» Builtin.Dict.selfAndRest
 refine Ag (Ag (wpAny_notOrdered_dict j ?_))
 show wpAny _ _ (AK (s.heap.objs.size,[CF l])) _ _ _
 refine AE ?_
 show wpAny _ _ (Builtin.Dict.updateFrom "dict.__init__" s.heap.objs.size (.ref l) [] .none) _ _ _
 unfold Builtin.Dict.updateFrom
 refine Ag (IE (T:="list") (by obtain⟨o,n,e,i,_⟩:=c;exact⟨o,e,i⟩) ?_)
 rw[if_pos (by decide)]
 refine Ag (k9 c B λf L r=>?_)
 rw[if_pos (show(none:Option Aa).isNone=true from rfl)]
 have t:=I1.kept (h':=f) (t':=L) r
 have k:PlainL f l us.toArray:=by
  obtain⟨o,n,e,i⟩:=c
  exact⟨o,n,r _ _ e,i⟩
 refine Ag (FY ?_)
 refine Ag (wpAny_pyIter_list k.isList ?_)
 have I3:=t.kept (h':=f.push {cls:=.type "list_iterator",data:=.fields #[.ref l,.int 0 0]}) (t':=L) λb o e=>Bj _ e
 have d:s.heap.objs.size<f.objs.size:=BA (r _ _ (Ca _ rfl))
 have fp:Fn X pins H f.objs.size:=t.fpOk (BD _) (by
  have:=t.hok.fresh (a:=f.objs.size) (BD _)
  rw[ZB (FN d)]at this
  exact this)
 refine AE ⟨plainId_quiet NF _,?_⟩
 refine XP (A:=X.A.in1) (N:=N) (us:=us) (by show X.A.units+1+1<Az;omega) B h fp (FN d) (CG (Hb g d)) (CG g) m vs us 0 _ [] [] kvs rfl rv U .nil I3 ⟨_,Ca _ rfl,rfl,rfl⟩ ?_ Y λs' u I' pd=>?_
 ·exact k.isList.push _
 ·exact⟨rfl,.ref s.heap.objs.size,_,I',rfl,q u _ h pd⟩
end
theorem lg:Ep "dict"=some (.type "dict"):=by kernel_rfl
def GV(f:VE->Option D):VE->Option (List D):=λa=>match f a with
 |some (.lst b)=>(Ht [] b).map Zw
 |_=>none
section
variable{X:Cx}{M:Fb}{H0:Hp}{e:Expr}{f:VE->Option D}{p pos:A5}
theorem NG(w:X.calm=true)(x:X.A.units+64<Az)(y:Gl X "dict")(B:X.mg "dict"=none)(l:JE X e (tP X.K M H0 f))(o:AN [e] X.env=(false,Ay e X.env)::AN [] X.env:=by exact Dx (λ_ _ z=>nomatch z)):
  JE X (.Call (.Name "dict" p) [e] [] pos) (JV true X.K M H0 (GV f)):=⟨have l:=l.h;by
 intro d s g H Q I h
 obtain⟨i,ys,R,c,q⟩:=h
 unfold GV at c
 split at c
 ·next j C=>
  cases m:Ht [] j with
  |none=>rw[m]at c;cases c
  |some n=>
   rw[m]at c
   cases c
   have E:=(DE l (Bt (X:=X)) o) pos d s g H (λvs k=>∃v,vs=[v]/\Ak H k/\AI X.K (Nf M i g) k (.lst j) v) I ⟨i,.lst j,R,C,λv k r d1=>⟨v,rfl,r,d1⟩⟩
   refine Call_ (F9 I y B lg (JJ (A8 E λus r G=>?_) (by rw[o]) rfl))
   obtain⟨vs,k,J,L,v,rfl,N,d1⟩:=G
   obtain⟨u,rfl,O⟩:=DS L
   obtain⟨a,ws,rfl,T,dl⟩:=d1
   cases O
   refine lf w x J T dl m λU b Y t=>?_
   have:=Lp (K:=X.K) (M:=M) (ρ:=i) (σ:=g) (fl:=true) (Q:=Q) (xs:=Zw n) (vs:=DN U) (p:=b) N Y t.flat q
   rw[Km t]at this
   exact this
 ·cases c⟩
theorem lh{K:Ar}(i:Nat){x:Ae}{a:A5}(c:X.N[i]?=some x:=by rfl)(d:Dr X.env.scope x:=by first|exact Or.inl rfl|exact Or.inr (Or.inl rfl)|exact Or.inr (Or.inr rfl))(hd:(x==("__debug__":Ae))=false:=by decide)(b:(x==("__classdict__":Ae))=false:=by decide):
  JS X (.Return (some (.Name x a)) pos) (tS K M H0 λρ=>Hd (EX ρ i)):=⟨iQ c d hd b⟩
end
section
variable{X:Cx}{K:Ar}{M:Fb}{H0:Hp}
theorem li{st:Au}:JS X st (tS K M H0 λ_=>.fail):=⟨λa s b H D I ⟨c,R,q⟩=>BB q⟩
@[simp] def rX:List D->Option D
  |[.int i]=>if i.natAbs.log2<1920 then some (.str (BF i))else none
  |[.str z]=>some (.str z)
  |_=>none
@[simp] def rY:List D->Option D
  |[.str z]=>if z.length<=640 then(PySem.intText? z).map D.int else none
  |_=>none
@[simp] def rZ(z:Ae):List D->Option D
  |[.str y]=>if(y.length==0)=false/\z.length<=AG/\(Txt.split z y).length<=AG then some (.lst ((Txt.split z y).map D.str))else none
  |_=>none
end
end L2
namespace L2
open PySem PySem.Spec PyProof.Rows
end L2
namespace L2
open PySem PySem.Spec PyProof.Rows PySem.W
section
variable{X:Cx}{M:Fb}{H0:Hp}{e a b:Expr}{es:List Expr}{f:VE->Option D}{pos:A5}
@[simp] def r6:Option D->Option D
  |some (.int i)=>if i.natAbs.log2<1920 then some (.str (BF i))else none
  |some (.str z)=>if z.length<=AG then some (.str z)else none
  |_=>none
def XQ(acc:Ae)(a:List Ae):Ae:=a.foldl (·++·) acc
@[simp] def r9(o:Option D)(p:Option (List Ae)):Option (List Ae):=match o,p with
  |some (.str z),some a=>some (z::a)
  |_,_=>none
@[simp] def sd(p:Option (List Ae)):Option D:=match p with
  |some a=>if(XQ Str.empty a).length<=AG then some (.str (XQ Str.empty a))else none
  |none=>none
end
structure Gs(K:Frag)(C:Ac):Prop where
 ga:findIn K (.ref C) "__getattribute__"=some (some (.builtin "BaseException.__getattribute__"))
 cl:findIn K (.ref C) "__class__"=some (some (.builtin "object.__class__"))
 gr:findIn K (.ref C) "__getattr__"=some none
 bx:subIn K (.ref C) (.type "BaseException")=some true
 ob:subIn K (.ref C) (.type "object")=some true
 ty:typeIn K (.ref C)=some (.type "type")
 is:∃cd,clsIn K C=some cd
section
variable{prog:AY}{w:Ai}{A:Aj}{E:Aa->Ab->Prop}{h:Am}{g:Array GenState}{d:Drawn}{t:Nat}{os:OsState}{e C:Ac}{K:Frag}
theorem lj{R:Result->Ab->Prop}(X:K.In h)(F:Gs K C)(p:DH e C h)(f:R (.ok (.ret (.ref C))) ⟨h,g,d,t,os⟩):codeAny (Af prog w) A (.call (.builtin "getset_descriptor.__get__") ⟨[.builtin "object.__class__",.ref e,.ref C],[]⟩) R ⟨h,g,d,t,os⟩:=by
 obtain⟨o,vs,a,b,i⟩:=p
 have c:(⟨h,g,d,t,os⟩:Ab).TypeIs (.builtin "object.__class__") "getset_descriptor":=XR
 have L1:Looks (Af prog w) h (isSubtype (.ref C) (.type (".".intercalate ("object.__class__".cutAt '.').dropLast))) true:=by rw[PySem.F.owner_object_class];exact looks_subIn X F.ob
 refine L0 PySem.F.slot_gs_get.plain PySem.F.entry_gs_get (PySem.F.slot_gs_get.check _ _ _ _ _ _ _ _ c (PySem.F.args_gs_get _ _ _) ?_)
 repeat(any_goals(first|assumption|(with_reducible refine NH a ?_;rw[b])|(with_reducible refine Looks.at L1 ?_)|wp_step))
 refine⟨Code.quiet_builtin _ (by decide +kernel),JR PySem.F.entry_object_class ?_⟩
 repeat(any_goals(first|assumption|(with_reducible refine NH a ?_;rw[b])|wp_step))
theorem ll{a:Tok}{Q:Fin->Ab->Prop}(X:K.In h)(F:Gs K C)(p:DH e C h)(f:Q (.done (.ret (.ref C))) ⟨h,g,d,t,os⟩):wpAny (Af prog w) A (Av.«object.__getattribute__» ⟨[.ref e,.str "__class__" a],[]⟩) Q E ⟨h,g,d,t,os⟩:=by
 obtain⟨o,vs,b,c,i⟩:=id p
 have j:(⟨h,g,d,t,os⟩:Ab).TypeIs (.builtin "object.__class__") "getset_descriptor":=XR
 have L1:Looks (Af prog w) h (typeLookup (.ref C) "__class__") _:=looks_findIn X F.cl
 have k:=XR
 have l:=PySem.F.slot_gs_get.lookup
 have m:=PySem.F.slot_gs_set.lookup
 repeat(any_goals(first|assumption|(with_reducible refine NH b ?_;rw[c])|(with_reducible refine Looks.at L1 ?_)|wp_step))
 refine lj X F p ?_
 repeat(any_goals(first|assumption|wp_step))
theorem lm{M:Model}{a:Aa}{Q:Unit->Ab->Prop}(X:K.In h)(F:Gs K C)(p:DH e C h)(b:Q () ⟨h,g,d,t,os⟩):wpAny M A (ND "BaseException.__getattribute__" ⟨[.ref e,a],[]⟩) Q E ⟨h,g,d,t,os⟩:=by
 obtain⟨o,vs,c,f,k⟩:=p
 have i:builtinKind "BaseException.__getattribute__"=some .slot:=by decide +kernel
 have j:splitId "BaseException.__getattribute__"=some ("BaseException","__getattribute__"):=by decide +kernel
 have L1:Looks M h (isSubtype (.ref C) (.type "BaseException")) true:=looks_subIn X F.bx
 have l:=PySem.F.args_bexc_ga (.ref e) a
 simp only[ND,i,j]
 refine Ag ?_
 unfold isInstance
 repeat(first|(with_reducible refine NH c ?_;rw[f])|(with_reducible refine Looks.at L1 ?_)|wp_step)
 exact b
theorem lp{a:Tok}{R:Result->Ab->Prop}(X:K.In h)(F:Gs K C)(p:DH e C h)(b:R (.ok (.ret (.ref C))) ⟨h,g,d,t,os⟩):
  codeAny (Af prog w) A (.call (.builtin "BaseException.__getattribute__") ⟨[.ref e,.str "__class__" a],[]⟩) R ⟨h,g,d,t,os⟩:=
 L0 PySem.F.excAttr_ValueError.ga.plain PySem.F.entry_bexc_ga (lm X F p (ll X F p b))
theorem lq{a:Tok}{Q:Aa->Ab->Prop}(X:K.In h)(F:Gs K C)(p:DH e C h)(f:Q (.ref C) ⟨h,g,d,t,os⟩):wpAny (Af prog w) A (getAttrBy (.ref e) (.str "__class__" a) false) Q E ⟨h,g,d,t,os⟩:=by
 obtain⟨o,vs,b,c,i⟩:=id p
 have L1:Looks (Af prog w) h (typeLookup (.ref C) "__getattribute__") _:=looks_findIn X F.ga
 have L2:Looks (Af prog w) h (typeLookup (.ref C) "__getattr__") _:=looks_findIn X F.gr
 have b3:=PySem.F.excAttr_ValueError.ga.bind (.ref e)
 have b2:(Value.builtin "BaseException.__getattribute__"==Value.builtin "object.__getattribute__")=false:=by decide +kernel
 have b1:(onTheHeap (CF C)&&Value.builtin "BaseException.__getattribute__"==Value.builtin "object.__getattribute__")=false:=by rw[b2];rfl
 repeat(any_goals(first|assumption|(with_reducible refine NH b ?_;rw[c])|(with_reducible refine Looks.at L1 ?_)|(with_reducible refine Looks.at L2 ?_)|wp_step))
 refine lp X F p ?_
 repeat(any_goals(first|assumption|wp_step))
theorem lr{s:Ab}{Q:Option Aa->Ab->Prop}(X:K.In s.heap)(F:Gs K C)(p:DH e C s.heap)(a:Q (some (.ref C)) {s with toks:=s.toks+1}):wpAny (Af prog w) A (getAttr? (.ref e) "__class__") Q E s:=by
 obtain⟨h,g,d,t,os⟩:=s
 unfold getAttr? getAttrBy?
 repeat(any_goals(first|assumption|with_reducible apply lq X F p|wp_step))
theorem lu(F:Gs K C):KitX K (.ref e) (.ref C) (DH e C) where
 ty:=λM h X p=>by
  obtain⟨o,vs,d,f,j⟩:=p
  intro A Q E s k q
  unfold typeOf
  exact Ag (wpAny_loadPart (k _ _ d) (AE (by rw[f];exact q)))
 it:=λM h X _=>by
  obtain⟨g,a⟩:=F.is
  unfold clsIn at a
  split at a
  ·rename_i b
   intro A Q E s k q
   unfold isType loadHead
   exact Ag (wpAny_loadPart (k _ _ (X _ _ b)) (AE q))
  ·cases a
 ne:=λh tp l i n m X c=>by
  obtain⟨g,a⟩:=F.is
  refine Bool.eq_false_iff.mpr λq=>?_
  obtain rfl:C=tp:=Value.ref.inj (beq_iff_eq.mp q)
  unfold clsIn at a
  split at a
  ·rename_i b
   have z:=(X _ _ b).symm.trans c
   cases z
  ·cases a
 ca:=λX p k=>lr X F p k
end
structure Ff(B:Am)(l:List Env)(e:Ac)(C fl:Aa)(h:Am):Prop where
 stay:B.StaysIn h
 new:B.get? e=none
 fun_:h.FunFrames B l
 rcd:∃oe vs,h.get? e=some oe/\oe.cls=C/\oe.data=.fields vs/\vs[2]?=some .none/\(vs[1]?=some .none\/∃T oT ts,vs[1]?=some (.ref T)/\B.get? T=none/\T≠e/\h.get? T=some oT/\oT.data=.fields ts/\ts[3]?=some fl)
section
variable{M:Model}{A:Aj}{E:Aa->Ab->Prop}{s:Ab}{B:Am}{l outer:List Env}{env:Env}{e L:Ac}{C fl:Aa}{Q:Unit->Ab->Prop}
theorem Ff.outs{h:Am}(a:Ff B (env::outer) e C fl h):Ff B outer e C fl h:=⟨a.stay,a.new,a.fun_.2.2,a.rcd⟩
theorem NI{h:Am}{b x:Ac}{o a:AM}{ws:Array Aa}(d:h.get? b=some o)(nf:∀vs,o.data≠.fields vs)(c:h.get? x=some a)(e:a.data=.fields ws):b≠x:=λq=>by
 subst q;rw[d]at c;cases c;exact nf ws e
theorem XU{d:Aa}{O:Bool}{k:AM}{vs:Array Aa}(r:A.frames=some (env::outer))(T:env.frame=some L)(st:B.StaysIn s.heap)(nw:B.get? e=none)(l:s.heap.FunFrames B (env::outer))
  (m:s.heap.get? e=some k) (U:k.cls=C) (g:k.data=.fields vs) (Y:vs[2]?=some .none) (hz:1<vs.size) (q:∀h',Ff B (env::outer) e C (AH L) h'->s.heap.UpToSlots h'->Q () {s with heap:=h' }):
  wpAny M A (do let a <- frameOf env;let pl <- entryPlaceOf L O;let b <- EntryCells.newEntry d a .none (AH L) .none pl;setField (.ref e) 1 b) Q E s:=by
 have ef:e∉(env::outer).filterMap (·.frame):=λt=>by
  obtain⟨_,o,i,z⟩:=l.mem t
  rw[m]at i;cases i;exact z vs g
 refine Ag (wpAny_frameOf_fun r l T λc n=>Ag (wpAny_entryPlaceOf λG u=>?_))
 unfold EntryCells.newEntry newFields;refine Ag (Gg ?_ (u.sizeOk5 _ _ _ _ _))
 have H:c.get? e=some k:=(n.2.1 e ef).trans m
 have I:B.StaysIn c:=λb o z=>(n.2.1 b λt=>by rw[(l.mem t).1]at z;cases z).trans (st b o z)
 generalize i:({cls:=.type "traceback",dict:=none,data:=.fields ([d,.ref L,.none,AH L,.none]++(if G.isEmpty then DF 6 Ee else G)).toArray}:AM)=j
 have v:∃p,j.data=.fields p/\p[3]?=some (AH L):=by subst i;exact⟨_,rfl,by simp⟩
 have w:j.isFreed=false:=by subst i;rfl
 obtain⟨p,td,t3⟩:=v
 have J:=Bj (h:=c) j H
 refine LM J g hz (q _ ?_ ?_)
 all_goals
  have d3:=Ke g (·.setIfInBounds 1 (CF c.objs.size))
  have e3:=LO (Obj.mapFields (·.setIfInBounds 1 (CF c.objs.size))) J (Rb d3)
  have ne:c.objs.size≠e:=FN (BA H)
  have kp:∀b o,b≠e->c.get? b=some o->((c.push j).update e (Obj.mapFields (·.setIfInBounds 1 (CF c.objs.size)))).get? b=some o:=λb o z f=>by
   rw[Lg _ _ (Bp z)];exact Bj _ f
 ·refine⟨λb o z=>kp b o (λy=>by rw[y,nw]at z;cases z) (I b o z),nw,l.of_keeps λb o f nf=>?_,_,_,e3,(Obj.cls_mapFields _ _).trans U,d3,by rw[Array.getElem?_setIfInBounds_ne (by decide)];exact Y,.inr ⟨c.objs.size,j,p,by simp[hz],I.fresh,ne,?_,td,t3⟩⟩
  ·obtain⟨N,x⟩:=n.2.2 b o f
   exact⟨_,kp b _ (NI f nf m g) x,rfl⟩
  ·rw[Lg _ _ (Bp ne)];exact Ca c w
 ·intro b o f nf
  obtain⟨N,x⟩:=n.2.2 b o f
  exact⟨N,kp b _ (NI f nf m g) x⟩
theorem XV{T:Ac}{f g:AM}{h:Array Aa}{v:Aa}(st:B.StaysIn s.heap)(k:s.heap.FunFrames B l)(m:s.heap.get? e=some g)(n:B.get? T=none)(ne:T≠e)(d:s.heap.get? T=some f)(dT:f.data=.fields h)(hz:3<h.size)
  (q:∀h',B.StaysIn h'->h'.FunFrames B l->h'.get? e=some g->(∃i j,h'.get? T=some i/\i.data=.fields j/\j[3]?=some v)->s.heap.UpToSlots h'->Q () {s with heap:=h' }):wpAny M A (setField (.ref T) 3 v) Q E s:=by
 refine LM d dT hz ?_
 have a:∀b,b≠T->(s.heap.update T (Obj.mapFields (·.setIfInBounds 3 v))).get? b=s.heap.get? b:=λb z=>Lg _ _ (Bp z)
 refine q _ (λb o z=>(a b λy=>by rw[y,n]at z;cases z).trans (st b o z)) (k.of_keeps λb o c nf=>⟨o,(a b (NI c nf d dT)).trans c,rfl⟩) ((a e (Bp ne)).trans m)
  ⟨_,_,LO _ d (Rb (Ke dT _)),Ke dT _,by simp[hz]⟩ λb o c nf=>⟨o.slots,(a b (NI c nf d dT)).trans c⟩
theorem XW(b:A.frames=some (env::outer))(g:env.frame=some L)(a:Ff B (env::outer) e C .none s.heap)(q:∀h',Ff B (env::outer) e C (AH L) h'->s.heap.UpToSlots h'->Q () {s with heap:=h' }):
  wpAny M A (noteFrame (.ref e) env) Q E s:=by
 obtain⟨st,nw,k,t,vs,c,d,f,l,r⟩:=a
 unfold noteFrame;simp only[g]
 rcases r with r|⟨T,v,w,r,o,ne,m,dT,n⟩
 ·refine Ag (Cp c f r ?_)
  rw[if_neg (by decide)]
  exact XU b g st nw k c d f l (Array.getElem?_eq_some_iff.mp r).1 q
 ·refine Ag (Cp c f r ?_)
  rw[if_pos (show(CF T != Ee)=true by simp)]
  refine Ag (Cp m dT n ?_)
  rw[if_neg (show ¬ (Ee==AH L)=true by simp[AH])]
  refine Ag (XV st k c o ne m dT (Array.getElem?_eq_some_iff.mp n).1 λh' h i j _ u=>?_)
  exact XU (s:={s with heap:=h' }) b g h nw i j d f l (Array.getElem?_eq_some_iff.mp r).1 λd a p=>q d a (u.trans p)
theorem Rw(a:Ff B l e C fl s.heap)(q:∀h',Ff B l e C .none h'->s.heap.UpToSlots h'->Q () {s with heap:=h' }):wpAny M A (setFlight (.ref e) none) Q E s:=by
 obtain⟨st,nw,h,i,vs,b,j,c,k,r⟩:=a
 unfold setFlight
 rcases r with r|⟨T,v,w,r,m,ne,n,dT,o⟩
 ·refine Ag (Cp b c r ?_)
  rw[if_neg (by decide)]
  exact AE (q s.heap ⟨st,nw,h,i,vs,b,j,c,k,.inl r⟩ (.refl _))
 ·refine Ag (Cp b c r ?_)
  rw[if_pos (show(CF T != Ee)=true by simp)]
  exact XV st h b m ne n dT (Array.getElem?_eq_some_iff.mp o).1 λh' d f g ⟨p,t,z1,z2,z3⟩ u=>q h' ⟨d,nw,f,i,vs,g,j,c,k,.inr ⟨T,p,t,r,m,ne,z1,z2,z3⟩⟩ u
theorem lx(b:A.frames=some (env::outer))(c:env.frame=some L)(a:Ff B (env::outer) e C .none s.heap)(q:∀h',Ff B outer e C .none h'->s.heap.UpToSlots h'->Q () {s with heap:=h' }):wpAny M A (leaving env (.ref e)) Q E s:=by
 unfold leaving
 exact Ag (XW b c a λd a1 f=>Rw (s:={s with heap:=d}) a1 λg a2 h=>q g a2.outs (f.trans h))
theorem _root_.L2.Bk.ob{P:AY}{w:Ai}{H:Hp}{h:Am}{x:Ac}{o:HO}(z:Bk P w H h x o):∃ob,h.get? x=some ob:=by
 cases o with
 |lst b=>obtain⟨_,_,_,_,q⟩:=z;exact⟨_,q⟩
 |tup b=>obtain⟨_,_,_,ob,q,_⟩:=z;exact⟨_,q⟩
 |dK a=>obtain⟨_,_,_,_,ob,_,_,q,_⟩:=z;exact⟨_,q⟩
 |dT a=>obtain⟨_,_,_,_,ob,_,_,q,_⟩:=z;exact⟨_,q⟩
 |dct c vs=>obtain⟨_,_,_,ob,_,_,q,_⟩:=z;exact⟨_,q⟩
 |set S n=>obtain⟨ob,_,_,_,q,_⟩:=z;exact⟨_,q⟩
 |ins D d fs=>obtain⟨_,_,_,q,_⟩:=z;exact⟨_,q⟩
 |own y=>exact z
 |xd fs=>obtain⟨_,⟨_,_,_,q,_⟩,_⟩:=z;exact⟨_,q⟩
 |rng lo e=>obtain⟨_,_,_,q⟩:=z;exact⟨_,q⟩
 |frz ob u=>exact⟨_,z.1⟩
 |tbl g=>exact⟨_,z⟩
 |met f y=>exact⟨_,z⟩
 |ext i=>exact z.2.1
def XY(P:AY)(w:Ai)(l:List Env)(H H':Hp)(s:Am)(e C:Ac)(h:Am):Prop:=
 Ak H H'/\Un (Cj l) [] H H' s h/\∃B,Co P w H' B/\(∀b o,s.get? b=some o->H b=none->b∉Cj l->B.get? b=some o)/\Ff B l e (.ref C) .none h
def NJ(P:AY)(w:Ai):EM:=λouter H s E e b=>∃a C c,e=.ref a/\b.os=s.os/\AllBare b.gens/\XY P w outer H c s.heap a C b.heap/\E (.ref C) none c
def Jg(Y:Cx)(b:List (Ac×AM))(σ:St)(H:Hp)(C:Ac)(e:Aa)(s':Ab):Prop:=
 ∃a c f d,e=.ref a/\Inv Y b σ c d/\Ak H c/\s'.os=d.os/\AllBare s'.gens/\XY Y.prog Y.w Y.stack c f d.heap a C s'.heap
theorem Jg.from{Y:Cx}{b:List (Ac×AM)}{σ:St}{H d:Hp}{C:Ac}{v:Aa}{s':Ab}(e:Ak H d)(t:Jg Y b σ d C v s'):Jg Y b σ H C v s':=by
 obtain⟨a,f,g,h,i,I,c,r⟩:=t
 exact⟨a,f,g,h,i,I,e.trans c,r⟩
theorem XZ{fs:List Ac}{l:List Env}{H i H':Hp}{s m h h':Am}{P:AY}{w:Ai}{C:Aa}(c:Un fs [] H i s m)(j:Un (Cj l) [] i H' m h)(v:Co P w H' B)(k:∀b o,m.get? b=some o->i b=none->b∉Cj l->B.get? b=some o)
  (x:∀b o,s.get? b=some o->H b=none->b∈Cj l->b∈fs) (y:Ak i H') (a:Ff B l e C fl h) (st:B.StaysIn h') (A:h.UpToSlots h'):Un fs [] H H' s h':=by
 have nx:∀b:Ac,b∉([]:List Ac):=λb=>by simp
 have fr:∀b o,m.get? b=some o->i b=none->b∈Cj l->∃p,h'.get? b=some {o with slots:=p}:=λb o z n d=>by
  obtain⟨p,z1⟩:=j.any z n (nx b)
  obtain⟨_,q,z2,nf⟩:=a.fun_.mem d
  rw[z1]at z2;cases z2
  obtain⟨f,z3⟩:=A b _ z1 nf
  exact⟨f,z3⟩
 refine⟨λb o z n d _=>?_,λb o z n d _=>?_,λb o z n _=>?_,λb o z _=>?_,λb r z=>j.tups b r (c.tups b r z),λb o u z=>j.frzs b o u (c.frzs b o u z),λb E z=>?_⟩
 ·exact st b o (k b o (c.keep b o z n d (nx b)) (c.free b o z n (nx b)) λg=>d (x b o z n g))
 ·obtain⟨p,z1⟩:=c.slot b o z n d (nx b)
  by_cases g:b∈Cj l
  ·obtain⟨f,z2⟩:=fr b _ z1 (c.free b o z n (nx b)) g
   exact⟨f,z2⟩
  ·exact⟨p,st b _ (k b _ z1 (c.free b o z n (nx b)) g)⟩
 ·obtain⟨q,z1⟩:=c.there b o z (nx b)
  exact j.free b q z1 (c.free b o z n (nx b)) (nx b)
 ·obtain⟨t,z1⟩:=c.there b o z (nx b)
  cases d:i b with
  |none=>
   by_cases g:b∈Cj l
   ·obtain⟨f,z2⟩:=fr b t z1 d g
    exact⟨_,z2⟩
   ·exact⟨t,st b _ (k b _ z1 d g)⟩
  |some u=>
   obtain⟨G,z2⟩:=(v b u (y b u d)).ob
   exact⟨G,st b _ z2⟩
 ·obtain⟨m1,z1⟩:=c.tbls b E z
  obtain⟨m2,z2⟩:=j.tbls b _ z1
  exact⟨m1++m2,by rw[z2,Array.append_assoc]⟩
theorem ly{P:AY}{w:Ai}{H:Hp}{h:Am}{fs:List Ac}(a:Co P w H h)(nf:∀b∈fs,H b=none):Co P w H (hideAll h fs):=λx o z=>
 (a x o z).stay (λb u c q=>hideAll_get _ q λd=>by
  have:=nf b d
  rcases c with y|y
  ·rw[y,z]at this;cases this
  ·rw[y]at this;cases this) (λ_ q=>q) λ_ _ q=>q
theorem lz{Y:Cx}{a:List (Ac×AM)}{σ:St}{H:Hp}{s:Ab}{D x:Ac}{vs:List Aa}{h':Am}(I:Inv Y a σ H s)(m:Heap.MadeExcOf s.heap h' x (.ref D) vs):Jg Y a σ H D (.ref x) {s with heap:=h' }:=by
 have f:=I.stack
 have c:∀env∈Y.stack,∀b,env.frame=some b->b∈Y.stack.filterMap (·.frame):=λenv g b d=>List.mem_filterMap.mpr ⟨env,g,d⟩
 have h:(hideAll s.heap (Cj Y.stack)).get? x=none:=by
  cases q:(hideAll s.heap (Cj Y.stack)).get? x with
  |none=>rfl
  |some o=>have:=of_hideAll _ q;rw[m.new]at this;cases this
 have e:=funFrames_hide f c
 obtain⟨tp,i,j,k⟩:=m.there
 refine⟨x,H,H,s,rfl,I,Ak.refl H,rfl,I.bare,Ak.refl H,Un.kept m.keeps,hideAll s.heap (Cj Y.stack),ly I.hok I.stkFree,λb o z n d=>hideAll_get _ z d,⟨λb o z=>m.keeps b o (of_hideAll _ z),h,?_,_,_,i,rfl,rfl,rfl,.inl rfl⟩⟩
 exact e.of_keeps λb o z _=>⟨o,m.keeps b o z,rfl⟩
theorem lA{Y:Cx}{f:List (Ac×AM)}{σ:St}{H:Hp}{s':Ab}{D:Ac}{v:Aa}{p:XK}(ys:Y.stack=Y.env::Y.outer)(i:Y.env.frame=some Y.env.locals)(q:Y.ex=[])(g:Ak Y.H₀ H)(t:Jg Y f σ H D v s')(C:∀H',Ak Y.H₀ H'->p (.ref D) none H'):
  wpAny M Y.A (leaving Y.env v) (λ_ j=>NJ Y.prog Y.w Y.outer Y.H₀ Y.s₀ p v j) E s':=by
 obtain⟨x,L,H',N,rfl,I,r,os,G,a,u,B,s,k,c⟩:=t
 have h:=I.ok.frames
 rw[ys]at c u k h
 refine lx h i c λO a2 J=>⟨x,D,H',rfl,os.trans I.os,G,⟨(g.trans r).trans a,?_,B,s,λb o z n d=>?_,a2⟩,C H' ((g.trans r).trans a)⟩
 ·have e:=I.base
  rw[q]at e
  refine XZ (l:=Y.env::Y.outer) e u s k (λb o z n d=>?_) a c a2.stay J
  rcases Br.mp (show b∈Y.env.locals::Cj Y.outer by unfold Cj at d ⊢;rw[Jz,i]at d;exact d)with y|y
  ·exact absurd (y ▸ BA z) (Nat.not_lt.mpr I.ok.above)
  ·exact y
 ·have e:=I.base
  rw[q]at e
  refine k b o (e.keep b o z n d (by simp)) (e.free b o z n (by simp)) λm=>?_
  rcases Br.mp (show b∈Y.env.locals::Cj Y.outer by unfold Cj at m ⊢;rw[Jz,i]at m;exact m)with y|y
  ·exact absurd (y ▸ BA z) (Nat.not_lt.mpr I.ok.above)
  ·exact d y
end
abbrev Cx.hand(Y:Cx)(x:Ac):Cx:={Y with A:=Y.A.mark (some (.ref x)),calm:=false}
section
variable{Y:Cx}{pins:List (Ac×AM)}{σ:St}{H H2 H':Hp}{s s2 s':Ab}{x D G:Ac}{fl f0:Aa}{B h h':Am}
theorem Inv.hand(I:Inv Y pins σ H s)(x:Ac):Inv (Y.hand x) pins σ H s:=
 ⟨⟨I.ok.mod,I.ok.kind,I.ok.glob,I.ok.blt,I.ok.above,I.ok.inj,I.ok.has,I.ok.cab,(λz=>nomatch z),I.ok.frames,I.ok.stk,I.ok.exf,I.ok.bs,I.ok.bsz,I.ok.noex,I.ok.exfs,I.ok.funs,I.ok.frf⟩,I.os,I.bare,I.base,I.loc,I.cell,I.free,I.freeC,I.pin,I.hok,I.len⟩
theorem Inv.back(ok:Y.Ok)(I:Inv (Y.hand x) pins σ H s):Inv Y pins σ H s:=⟨ok,I.os,I.bare,I.base,I.loc,I.cell,I.free,I.freeC,I.pin,I.hok,I.len⟩
theorem X0(I:Inv Y pins σ H2 s2)(os:s'.os=s2.os)(t:AllBare s'.gens)(g:Ak H2 H')(u:Un (Cj Y.stack) [] H2 H' s2.heap h)(j:Co Y.prog Y.w H' B)(p:∀b o,s2.heap.get? b=some o->H2 b=none->b∉Cj Y.stack->B.get? b=some o)
  (a0:Ff B Y.stack x (.ref D) f0 h) (a:Ff B Y.stack x (.ref D) fl h') (A:h.UpToSlots h'):H2 x=none/\Ak H2 (AU H' x (.ext (DH x D)))/\Inv Y pins σ (AU H' x (.ext (DH x D))) {s' with heap:=h' }:=by
 have i:H' x=none:=by
  cases q:H' x with
  |none=>rfl
  |some o=>obtain⟨ob,z⟩:=(j x o q).ob;rw[a.new]at z;cases z
 have C:s2.heap.get? x=none:=by
  cases q:s2.heap.get? x with
  |none=>rfl
  |some o=>
   cases q2:H2 x with
   |some E=>rw[g x E q2]at i;cases i
   |none=>
    by_cases r:x∈Cj Y.stack
    ·obtain⟨_,N,z3,nf⟩:=a0.fun_.mem r
     obtain⟨l,vs,z1,_,z2,_⟩:=a0.rcd
     rw[z1]at z3;cases z3;exact absurd z2 (nf vs)
    ·have:=p x o q q2 r;rw[a.new]at this;cases this
 have d:=XZ (Un.refl (fs:=Cj Y.stack)) u j p (λ_ _ _ _ z=>z) g a0 a.stay A
 have f:∀b o,H' b=some o->(AU H' x (.ext (DH x D))) b=some o:=λb o q=>by rw[ZB (Eo q i)];exact q
 refine⟨g.free i,λb o q=>f b o (g b o q),I.call' (s':={s' with heap:=h' }) (ch:=[]) os ⟨d.keep,d.slot,λb o z n G=>?_,d.there,λb s z=>f b _ (d.tups b s z),λb o v z=>f b _ (d.frzs b o v z),λb H z=>?_⟩ (λb v q=>?_) t (λb z=>absurd z (by simp))⟩
 ·rw[ZB (λy=>by rw[y,C]at z;cases z)];exact d.free b o z n G
 ·obtain⟨m,q⟩:=d.tbls b H z;exact⟨m,f b _ q⟩
 ·by_cases e:b=x
  ·subst e
   rw[Z7]at q;cases q
   obtain⟨l,vs,z1,z2,z3,z4,_⟩:=a.rcd
   exact⟨⟨l,vs,z1,z2,z3,z4⟩,⟨l,z1⟩,λQ T ⟨o,J,L,M⟩ k=>⟨o,J,k o L,M⟩⟩
  ·rw[ZB e]at q
   exact(j b v q).stay (λc o _ z=>a.stay c o z) (λc z=>f c _ z) λc s z=>f c _ z
theorem Inv.gone{h:Ae->Option Aa}{k:Nat}(I:Inv Y pins σ H s)(l:h'.Ns Y.env.locals h)(a:Ds Y.env.locals s.heap h'):Inv Y pins (DF Y.N.length none) H {s with heap:=h',toks:=k}:=by
 have lt:∀b o,Y.s₀.heap.get? b=some o->b≠Y.env.locals:=λb o z=>CG (Cg (BA z) I.ok.above)
 refine⟨I.ok,I.os,I.bare,⟨λb o z n f e=>(a.2 b (lt b o z)).trans (I.base.keep b o z n f e),λb o z n f e=>?_,I.base.free,λb o z e=>?_,I.base.tups,I.base.frzs,I.base.tbls⟩,⟨h,l,λi y v x g _=>?_⟩,λy c z=>?_,I.free,I.freeC,λp m=>?_,λb v q=>?_,by simp⟩
 ·obtain⟨r,q⟩:=I.base.slot b o z n f e;exact⟨r,(a.2 b (lt b o z)).trans q⟩
 ·obtain⟨t,q⟩:=I.base.there b o z e;exact⟨t,(a.2 b (lt b o z)).trans q⟩
 ·rw[ID]at g;split at g<;>cases g
 ·obtain⟨w,q⟩:=I.cell y c z;exact⟨w,q.sameBut a (I.cne y c z)⟩
 ·obtain⟨z,n,ne,nf,u⟩:=I.pin p m;exact⟨(a.2 p.1 ne).trans z,n,ne,nf,u⟩
 ·refine(I.hok b v q).stay (λc o d z=>(a.2 c λy=>?_).trans z) (λ_ z=>z) λ_ _ z=>z
  have j:=I.free
  rcases d with d|d
  ·rw[d]at y;rw[y,j]at q;cases q
  ·rw[y,j]at d;cases d
theorem lB{i:Nat}{h n:Ae}{np pos:A5}{L:Au}{a:List Au}{Z8:List ExceptHandler}{v:Aa}{Q:Flow->Ab->Prop}{E:Aa->Ab->Prop}{Q':VK}(ys:Y.stack=Y.env::Y.outer)(yf:Y.env.frame=some Y.env.locals)(t:Jg Y pins σ H D v s')
  (hm:Y.mg h=some (.ref G)) (hg:Gl Y h) (hx:exmOne Y.K (.ref D) (.ref G)=some true) (hN:Y.N.Nodup) (hi:Y.N[i]?=some n) (l:Y.env.scope.names.lookup n=some .local)
  (k:∀x m j,H x=none->Ak H m->Inv (Y.hand x) pins (σ.set i (some (.ref x))) m j->m x=some (.ext (DH x D)) ->
   wpAny (Af Y.prog Y.w) (Y.A.mark (some (.ref x))) (execs (L::a) Y.env) (λf s4=>∃u vv b H',f=.ret u/\Inv (Y.hand x) pins b H' s4/\RelV vv u/\Q' vv H') (λ_ _=>False) j)
  (fin:∀u vv b H' M,Inv Y pins b H' M->RelV vv u->Q' vv H'->Q (.ret u) M) (hd:(h==("__debug__":Ae))=false:=by decide):
  wpAny (Af Y.prog Y.w) Y.A (noteFrame v Y.env) (λ_ s2=>wpAny (Af Y.prog Y.w) Y.A (setFlight v none) (λ_ j=>wpAny (Af Y.prog Y.w) Y.A (handleBy v Y.env (.ExceptHandler (some (.Name h np)) (some n) (L::a) pos::Z8)) Q E j) E s2) E s':=by
 obtain⟨x,H2,H',s2,rfl,I,e,os,O,T,u,B,U,kb,d⟩:=t
 have g:=I.ok.frames
 have c:=d
 rw[ys]at g c
 refine XW g yf c λh4 a4 o=>Rw (s:={s' with heap:=h4}) a4 λh5 a5 p=>?_
 rw[<- ys]at a5
 have up:=o.trans p
 obtain⟨_,sm5,I5⟩:=X0 I os O T u U kb d a5 up
 obtain⟨oe,vs,e1,e2,e3,_⟩:=id a5.rcd
 have LT:Looks (Af Y.prog Y.w) h5 (typeOf (.ref x)) (.ref D):=λA' Q' E' s' kk q=>by
  unfold typeOf;exact Ag (wpAny_loadPart (kk _ _ e1) (AE (by rw[e2];exact q)))
 refine wpAny_handleBy_cons (codeAny_handlers_test ?_) (by intro q;cases q)
 refine KZ (X:=Y.hand x) (I5.hand x) hg hm ?_ hd
 refine(exm_one (K:=Y.K) I5.kIn LT hx).here ?_
 refine codeAny_handlers_suite_as (Rw (s:={s' with heap:=h5}) a5 λh6 a6 r=>?_)
 obtain⟨y,C,I6⟩:=X0 (s':=s') I os O T u U kb d a6 (up.trans r)
 refine Qk (X:=Y.hand x) (I6.hand x) hN hi (.inl l) (v:=.ref x) rfl (λs7 I7=>?_) (.inr l)
 refine Eg (k x _ s7 (e.free y) (e.trans C) I7 Z7) (λf s8 hf=>?_) λ_ _ z=>z.elim
 obtain⟨uu,vv,b,H8,rfl,I8,rv,q⟩:=hf
 obtain⟨m8,n8,_⟩:=id I8.loc
 refine wpAny_nameGoes l n8 (by rw[I.ok.kind];rfl) λh9 m9 n9 J=>?_
 exact fin uu vv _ H8 _ ((I8.back I.ok).gone n9 J) rv q
end
def E3(Y:Cx)(a:List (Ac×AM))(σ:St)(H:Hp)(c:Ae)(e:Aa)(s':Ab):Prop:=∃D,nsIn Y.K Dq c=some (some (.ref D))/\Jg Y a σ H D e s'
def L3(Y:Cx):Prop:=∀e s,¬ Y.xe e s
theorem E3.from{Y:Cx}{a:List (Ac×AM)}{σ:St}{H b:Hp}{c:Ae}{v:Aa}{s':Ab}(d:Ak H b)(t:E3 Y a σ b c v s'):E3 Y a σ H c v s':=by
 obtain⟨D,e,t⟩:=t
 exact⟨D,e,t.from d⟩
structure XE(Y:Cx)(K:Frag)(M:Fb)(H0:Hp)(e:Expr)(h:VE->Option Ae):Prop where
 h:∀pins s σ H ρ c,Inv Y pins σ H s->Bw K M H0 ρ σ H->h ρ=some c->wpAny (Af Y.prog Y.w) Y.A (Ay e Y.env) (λ_ _=>False) (E3 Y pins σ H c) s
structure XT(Y:Cx)(K:Frag)(M:Fb)(H0:Hp)(st:Au)(h:VE->Option Ae):Prop where
 h:∀pins s σ H ρ c,Inv Y pins σ H s->Bw K M H0 ρ σ H->h ρ=some c->wpAny (Af Y.prog Y.w) Y.A (exec st Y.env) (λ_ _=>False) (E3 Y pins σ H c) s
structure XS(Y:Cx)(K:Frag)(M:Fb)(H0:Hp)(st:Au)(h:VE->Option Ae):Prop where
 h:∀pins s σ H ρ c,Inv Y pins σ H s->Bw K M H0 ρ σ H->h ρ=some c->wpAny (Af Y.prog Y.w) Y.A (exec st Y.env) (λ_ _=>False) (λe s'=>∃σ' H1,Ak H0 H1/\E3 Y pins σ' H1 c e s') s
structure XB(Y:Cx)(K:Frag)(M:Fb)(H0:Hp)(b:List Au)(h:VE->Option Ae):Prop where
 h:∀pins s σ H ρ c,Inv Y pins σ H s->Bw K M H0 ρ σ H->h ρ=some c->wpAny (Af Y.prog Y.w) Y.A (execs b Y.env) (λ_ _=>False) (λe s'=>∃σ' H1,Ak H0 H1/\E3 Y pins σ' H1 c e s') s
section
variable{Y:Cx}{K:Frag}{M:Fb}{H0:Hp}{e:Expr}{es:List Expr}{st:Au}{Z8 a b:List Au}{h h1 h2:VE->Option Ae}{g:VE->Ao}{pos p np cpos:A5}{fa:VE->Option (List Sl)}{x:Ae}
theorem XT.s(z:XT Y K M H0 st h):XS Y K M H0 st h:=⟨λa s b H d c I R q=>Eg (z.h a s b H d c I R q) (λ_ _ z=>z) λ_ _ z=>⟨b,H,R.same,z⟩⟩
theorem lC(z:XE Y K M H0 e h)(b:E6 e none pos.line Y.env=AK false:=by rfl):XT Y K M H0 (.Expr e pos) h:=
 ⟨λa s d H f c I R q=>wpAny_Expr_any (Eg (z.h a s d H f c I R q) (λ_ _ z=>z.elim) λ_ _ z=>z) I.quiet b⟩
theorem X1(z:XS Y K M H0 st h):XB Y K M H0 (st::Z8) h:=⟨λa s b H d c I R q=>wpAny_execs_cons (Eg (z.h a s b H d c I R q) (λ_ _ z=>z.elim) λ_ _ z=>z)⟩
@[simp] def se(r:Ao)(h:VE->Option Ae):Option Ae:=match r with
  |.next a=>h a
  |_=>none
@[simp] def sf(o:Option Ae)(r:Option Ae):Option Ae:=match o with
  |some c=>some c
  |none=>r
@[simp] def Ry(t:Option Bool)(a b:Option Ae):Option Ae:=match t with
  |some true=>a
  |some false=>b
  |none=>none
theorem lD{c:Expr}{t:VE->Option Bool}(nx:L3 Y)(r:JT Y c (BI K M H0 t))(u:XB Y K M H0 a h1)(v:XB Y K M H0 b h2):XS Y K M H0 (.If c a b pos) (λρ=>Ry (t ρ) (h1 ρ) (h2 ρ)):=⟨λf s i H ρ n I R q=>by
 cases j:t ρ with
 |none=>rw[j]at q;cases q
 |some k=>
  rw[j]at q
  refine wpAny_If (Eg (r.h f s i H (λw l=>w=k/\Ak H l) I ⟨ρ,k,R,j,λl g=>⟨rfl,g⟩⟩) (λd m ⟨o,p,x,g⟩=>?_) λe y z=>(nx e y z).elim)
  subst x
  cases d with
  |true=>exact u.h f m i o ρ n p (R.st g) q
  |false=>exact v.h f m i o ρ n p (R.st g) q⟩
def L4(K:Frag)(F:List Sl->Option Ae):Sp:=λvs H Q E=>∃N b c,(∀a,N a->H a≠none)/\Bc K N H b vs/\F b=some c/\∀D d,nsIn K Dq c=some (some (.ref D))->Ak H d->E (.ref D) none d
def fnX(np n:Nat)(h:VE->Option Ae):List Sl->Option Ae:=λa=>if a.length=np then h (a++DF (n-np) .no)else none
theorem lE{F:List Sl->Option Ae}{k:Nat}{fn:Ac}{fd:Bi}{ps:List Ae}(nx:L3 Y)(U:Y.K=K)(G:Ax Y.prog Y.w Y.K Y.mg Y.base (NJ Y.prog Y.w) k fn fd ps (L4 K F))(hr:Bd k Y.A)(hg:Gl Y x)(hm:Y.mg x=some (.ref fn))(hk:keepIn Y.K (.ref fn)=true)(hb:Binds Y.K fd ps [])
  (ha:JA Y (e::es) (Dh K M H0 fa)) (n:(x==("__debug__":Ae))=false:=by decide) (he:AN (e::es) Y.env=(false,Ay e Y.env)::AN es Y.env:=by exact Dx (λ_ _ z=>nomatch z)) (o:(AR pos (AN es Y.env)).any (·.1)=false:=by rfl):
  XE Y K M H0 (.Call (.Name x p) (e::es) [] pos) (λρ=>(fa ρ).bind F):=⟨λd s t H ρ c I R q=>by
 cases y:fa ρ with
 |none=>rw[y]at q;cases q
 |some B=>
  rw[y]at q
  refine Lb (KZ I hg hm ?_ n)
  refine callWith_K (h₀:=Y.base) I.ok.mod.kin hk (Eg (ha.h pos d s t H (λvs b=>Ak H b/\Bc K (Nf M ρ t) b B vs) I ⟨ρ,B,R,y,λvs b i h1=>⟨i,h1⟩⟩) (λj E ⟨vs,b,l,r,i,h1⟩=>⟨l.kIn,?_⟩) λe O z=>(nx e O z).elim) he o
  have Q:L4 K F vs b (λ_ _=>False) (λv _ m=>∃D,v=.ref D/\nsIn K Dq c=some (some (.ref D))/\Ak b m):=⟨Nf M ρ t,B,c,(R.st i).nh,h1,q,λD m J L=>⟨D,rfl,J,L⟩⟩
  have hl:(j++[]).length=ps.length:=by rw[Fp,<- r.length];exact G.len _ _ _ _ Q
  have T:=hb E j l.kIn hl
  rw[Fp]at T
  refine wpAny_call (codeAny_mono (G.run Y.A Y.stack E b ⟨j,[]⟩ j vs _ _ hr l.env0 T r Q) λr O g=>?_)
  cases r with
  |error v=>
   obtain⟨a,C,m,J,os,ba,fl,D,L,e3,e4⟩:=g
   cases L
   exact⟨C,by rw[U];exact e3,a,b,m,E,J,l,i,os,ba,fl⟩
  |ok f=>
   cases f with
   |ret u=>obtain⟨_,_,_,_,_,_,_,z⟩:=g;exact z.elim
   |next=>exact g.elim
   |brk=>exact g.elim
   |cont=>exact g.elim⟩
structure Rz(K:Frag)(D:Ac):Prop where
 ex:∃nm q N bs bm hdct sn sub ab col dd k0 k1 k2 k3 k5,K.lookup D=some (excClassObj nm q D N bs bm hdct sn sub ab col dd k0 k1 k2 k3 k5 "ValueError.__new__")/\tailIn K [.type "ValueError",.type "Exception",.type "BaseException",.type "object"] bm=true/\nsOkIn K N=true/\nsIn K N "__init__"=some none
@[simp] def RB(o:Option (List Sl))(x:Ae):Option Ae:=match o with
  |some [_]=>some x
  |_=>none
theorem lF{D:Ac}(nx:L3 Y)(Q:Y.K=K)(T:Y.calm=true)(U:Rz K D)(hn:nsIn K Dq x=some (some (.ref D)))(hg:Gl Y x)(hm:Y.mg x=some (.ref D))(ha:JA Y (e::es) (Dh K M H0 fa))
  (i:(x==("__debug__":Ae))=false:=by decide) (j:AN (e::es) Y.env=(false,Ay e Y.env)::AN es Y.env:=by exact Dx (λ_ _ z=>nomatch z)) (k:(AR cpos (AN es Y.env)).any (·.1)=false:=by rfl):
  XT Y K M H0 (.Raise (some (.Call (.Name x np) (e::es) [] cpos)) none pos) (λρ=>RB (fa ρ) x):=⟨λb s o H ρ c I R q=>by
 subst Q
 cases l:fa ρ with
 |none=>rw[l]at q;cases q
 |some p=>
  rw[l]at q
  obtain⟨s0,rfl⟩:∃s0,p=[s0]:=by
   cases p with
   |nil=>cases q
   |cons s0 r=>cases r with
    |nil=>exact⟨s0,rfl⟩
    |cons _ _=>cases q
  cases q
  obtain⟨t,qn,N,bs,bm,a,u,sub,w,d,y,A,B,C,E,G,l1,J,L,l4⟩:=U.ex
  have F:=PySem.F.excBase_ValueError
  refine wpAny_Raise_call_subU (mN:=Y.base.nsMap N) (nm:=t) (q:=qn) (N:=N) (bs:=bs) (hdct:=a) (sn:=u) (sub:=sub) (ab:=w) (col:=d) (dd:=y) (k0:=A) (k1:=B) (k2:=C) (k3:=E) (k5:=G) F F.hasB F ((tail_of_in I.kIn J).hasType F.hasBase) (I.ok.hd T) (by rw[j];exact k) (nsMap_none_of_in I.ok.mod.kin L l4) (KZ I hg hm ⟨rfl,?_⟩ i)
  rw[j]
  refine Calls.evalArgs_plain (Eg (j ▸ ha.h cpos b s o H (λvs f=>Ak H f/\Bc Y.K (Nf M ρ o) f [s0] vs) I ⟨ρ,[s0],R,l,λvs f n h1=>⟨n,h1⟩⟩) (λO s1 ⟨vs,f,g,r,n,h1⟩=>?_) λe s' z=>(nx e s' z).elim)
  have ul:O.length=1:=by rw[<- r.length,<- h1.length];rfl
  refine⟨rfl,?_,g.kIn _ _ l1,?_,tail_of_in g.kIn J,λh' v m=>⟨D,hn,(lz g m).from n⟩⟩
  ·show O.length<=AG
   rw[ul];exact Jy (h7 (by decide))
  ·exact(Heap.Ns.of_isNs (isNs_of_in I.ok.mod.kin L)).keeps g.bk⟩
theorem lG{P:AY}{w:Ai}{mg:Ae->Option Aa}{base:Am}{x a:Ae}{st:Au}{f:Ac}{fd:Bi}{N ps:List Ae}{k:Nat}{h:VE->Option Ae}(F:IH K x a st f fd)(S:ZE N ps (Zm st))(u:ps.length<=N.length)
  (y:∀(b:Aa) (A:Aj) (outer:List Env) (s:Ab) (H:Hp) (E:XK) (M:Fb) (H0:Hp),Bd k (A.deeper (envOfC a (Zm st) s.heap.objs.size f b)) ->
   XB (Gd Bh P w K mg base N a (Zm st) f b A outer s H E).nox K M H0 (FQ st) h):Ax P w K mg base (NJ P w) (k+1) f fd ps (L4 K (fnX ps.length N.length h)):=by
 obtain⟨oc,od,kV,B,pm,an,b,ct,C,rfl,G,j⟩:=F.ex
 have len:∀vs H Q E,L4 K (fnX ps.length N.length h) vs H Q E->vs.length=ps.length:=λvs H Q E z=>by
  obtain⟨l,p,c,r,i,d,q⟩:=z
  unfold fnX at d
  split at d
  ·next m=>rw[<- i.length];exact m
  ·cases d
 refine VA G j S len λA outer s H vs Q E J z=>?_
 obtain⟨l,p,c,r,i,d,q⟩:=z
 unfold fnX at d
 split at d
 ·next m=>
  have L:FP N vs=vs.map some++DF (N.length-ps.length) none:=by unfold FP;rw[<- i.length,m]
  refine⟨λD n e=>D={nx:=λ_ o=>Q .non o,rt:=Q}/\e=H/\Bw K l H (p++DF (N.length-ps.length) .no) n H,λg O n e D I T=>?_,rfl,rfl,by rw[L];exact Wg r i _⟩
  obtain⟨_,rfl,R⟩:=T
  refine Eg ((y b A outer s e E l e J).h g O n e _ c (I.wish _) R d) (λ_ _ z=>z.elim) λv U z=>?_
  obtain⟨σ',H2,sm,D',e1,t⟩:=z
  exact lA (Y:=(Gd Bh P w K mg base N a (Zm st) f b A outer s e E).nox) rfl rfl rfl sm t λo e2=>q D' o e1 e2
 ·cases d
theorem Bw.more{ρ:VE}{σ:St}{H:Hp}{y C:Ac}(R:Bw K M H0 ρ σ H)(g:H y=some (.ext (DH y C))):Bw K M (AU H0 y (.ext (DH y C))) ρ σ H where
 len:=R.len
 same:=λb o z=>by
  by_cases e:b=y
  ·rw[e,Z7]at z;rw[e,g,z]
  ·rw[ZB e]at z;exact R.same b o z
 mh:=R.mh
 slot:=λj h z=>by
  have q:=R.slot j h z
  cases h with
  |no=>trivial
  |val d=>exact q
  |lent l i=>
   obtain⟨c,m,a,h1,h2⟩:=q
   refine⟨c,m,a,⟨h1.1,λz=>h1.2 ?_⟩,h2⟩
   by_cases k:c=y
   ·rw[k,Z7]at z;cases z
   ·rw[ZB k]at z;exact z
  |exc c=>exact q
  |pin c=>exact q
  |own l i=>
   obtain⟨b,vs,a,h1,h2,f,n⟩:=q
   refine⟨b,vs,a,?_,h2,f,n⟩
   rw[ZB (λe=>by rw[e,g]at f;cases i<;>cases f)];exact h1
 inj:=R.inj
@[simp] def X2:Ao->Ao
  |.ret r=>.ret r
  |_=>.fail
@[simp] def NK(a:List Ae)(i:Nat)(o:Option Ae)(r:Ao)(g:VE->Ao)(ρ:VE):Ao:=match o with
  |none=>r
  |some c=>if a.contains c=true then X2 (g (ρ.set i (.exc c)))else .fail
theorem lH{gs:VE->Ao}{O:VE->Option Ae}{G:Ac}{E n:Ae}{b0:Au}{l:List Au}{hp:A5}(i:Nat)(cs:List Ae)(nx:L3 Y)(hK:Y.K=K)(ys:Y.stack=Y.env::Y.outer)(yf:Y.env.frame=some Y.env.locals)(zx:XT Y K M H0 st O)(zb:JS Y st (tS K M H0 g))
  (hm:Y.mg E=some (.ref G)) (hg:Gl Y E) (hc:∀c D,cs.contains c=true->nsIn K Dq c=some (some (.ref D))->exmOne K (.ref D) (.ref G)=some true) (hN:Y.N.Nodup) (hi:Y.N[i]?=some n) (hl:Y.env.scope.names.lookup n=some .local)
  (zs:∀(x:Ac) (H1:Hp),(∃C,H1 x=some (.ext (DH x C)))->JB (Y.hand x) (b0::l) (tS K M H1 gs)) (hd:(E==("__debug__":Ae))=false:=by decide):
  JS Y (.Try [st] [.ExceptHandler (some (.Name E np)) (some n) (b0::l) hp] [] [] pos) (tS K M H0 λρ=>NK cs i (O ρ) (g ρ) gs ρ):=⟨λm s y H D I ⟨ρ,R,q⟩=>by
 subst hK
 try dsimp only at q
 cases Q:O ρ with
 |none=>
  rw[Q]at q
  refine wpAny_Try_except (wpAny_execs_cons (Eg (zb.h m s y H D I ⟨ρ,R,q⟩) (λf J z=>?_) λe T z=>(nx e T z).elim))
  cases f with
  |next=>exact wpAny_execs_nil (wpAny_execs_nil z)
  |ret v=>exact z
  |brk=>exact z
  |cont=>exact z
 |some c=>
  rw[Q]at q
  simp only[NK]at q
  split at q
  ·next U=>
   refine wpAny_Try_except (wpAny_execs_cons (Eg (zx.h m s y H ρ c I R Q) (λf J z=>z.elim) λv J z=>?_))
   obtain⟨D',L,t⟩:=z
   cases k:gs (ρ.set i (.exc c))with
   |ret r=>
    rw[k]at q
    refine lB (Q':=D.rt) ys yf t hm hg (hc c D' U L) hN hi hl (λx H3 s3 hx0 sm I3 A=>?_) (λu vv p B s5 I5 w qq=>⟨vv,p,B,I5,w,qq⟩) hd
    have S:Step M (Nf M ρ y) (Nf M (ρ.set i (.exc c)) (y.set i (some (.ref x)))) H H3:=⟨λa o e _=>sm a o e,λb hb=>by
     rcases J1 R.len hb with q|⟨xs,_,e,_⟩
     ·exact .inl q
     ·cases e⟩
    have R3:Bw Y.K M H0 (ρ.set i (.exc c)) (y.set i (some (.ref x))) H3:=R.put S (R.same.trans sm) (λj a vs xs fl _ _ _ e=>sm _ _ e) (λ_=>⟨x,D',rfl,L,A⟩) (λxs fl a j ys fl' e=>nomatch e)
    have n0:=R.same.free hx0
    refine Eg ((zs x _ ⟨D',Z7⟩).h m s3 _ H3 {nx:=λ_ _=>False,rt:=D.rt} I3 ⟨_,R3.more A,?_⟩) (λf s4 z=>?_) λe T z=>(nx e T z).elim
    ·rw[k]
     refine λv B J w=>q v B (λb o z=>J b o (by rw[ZB (Eo z n0)];exact z)) ?_
     cases r with
     |val d=>exact w
     |own xs fl=>
      obtain⟨b,vs,L,z1,z2⟩:=w
      refine⟨b,vs,L,?_,z2⟩
      by_cases e:b=x
      ·rw[e];exact n0
      ·rw[ZB e]at z1;exact z1
    ·cases f with
     |ret u=>obtain⟨vv,p,B,I',w,qq⟩:=z;exact⟨u,vv,p,B,rfl,I',w,qq⟩
     |next=>obtain⟨_,_,_,z⟩:=z;exact z.elim
     |brk=>obtain⟨_,_,_,z⟩:=z;exact z.elim
     |cont=>obtain⟨_,_,_,z⟩:=z;exact z.elim
   |next _=>rw[k]at q;exact q.elim
   |fail=>rw[k]at q;exact q.elim
   |brk _=>rw[k]at q;exact q.elim
   |cont _=>rw[k]at q;exact q.elim
  ·exact q.elim⟩
end
section
variable{prog:AY}{w:Ai}{A:Aj}{E:Aa->Ab->Prop}{s:Ab}{x C:Ac}
theorem DH.at{h h':Am}(p:DH x C h)(k:∀o,h.get? x=some o->h'.get? x=some o):DH x C h':=let⟨o,vs,a,r⟩:=p;⟨o,vs,k o a,r⟩
end
section
variable{Y:Cx}{K:Frag}{M:Fb}{H0:Hp}{x:Ac}
def lI(K:Frag):List V->Hp->VK->Prop:=λe H Q=>∃a C d c b,e=[.ref a,d]/\(∀u,RelV d u->u=c)/\H a=some (.ext (DH a C))/\Gs K C/\kitOne K (.ref C) c=some b/\Q (.bl b) H
theorem lJ:A9 Y (.builtin "isinstance") (lI Y.K):=by
 intro d s k H l m Q I r h
 obtain⟨a,C,n,c,b,rfl,f,g,F,e,q⟩:=h
 obtain⟨u,v,rfl,i,j⟩:=K8 r
 cases i
 cases f v j
 exact kia_one (lu F) I.kIn (show Bk Y.prog Y.w H s.heap a (.ext (DH a C))from I.hok a _ g).1 e (λz=>nomatch z) λo=>⟨.bl b,H,I.tok _,rfl,q⟩
@[simp] def NM(i:Nat)(a:List Ae)(f:Ae->Bool)(ρ:VE):Option D:=match ρ[i]? with
  |some (.exc c)=>if a.contains c=true then some (.bl (f c))else none
  |_=>none
theorem lK{b:Expr}{e:V}{g:Aa}{n m:Ae}{j p pos:A5}(i:Nat)(v:List Ae)(f:Ae->Bool)(x:Y.K=K)(y:Y.N[i]?=some n)(k:Dr Y.env.scope n)(A:PE Y b (tC e))(B:∀u,RelV e u->u=g)
  (E:∀c C,v.contains c=true->nsIn K Dq c=some (some (.ref C))->Gs K C/\kitOne K (.ref C) g=some (f c)) (G:Gl Y m) (I:Y.mg m=none) (J:Ep m=some (.builtin "isinstance"))
  (L:m≠"__name__":=by decide) (l:(m==("__debug__":Ae))=false:=by decide) (hd:(n==("__debug__":Ae))=false:=by decide) (o:(n==("__classdict__":Ae))=false:=by decide)
  (w:AN [.Name n j,b] Y.env=(false,Ay (.Name n j) Y.env)::AN [b] Y.env:=by exact Dx (λ_ _ z=>nomatch z)) (r:AN [b] Y.env=(false,Ay b Y.env)::AN [] Y.env:=by exact Dx (λ_ _ z=>nomatch z)) (s:(AR pos (AN [b] Y.env)).any (·.1)=false:=by rfl):
  JE Y (.Call (.Name m p) [.Name n j,b] [] pos) (tD K M H0 (NM i v f)):=⟨(Qs lJ G I J (DE (FM y k hd o) (DE A Bt r) w) L l w s).mono λσ H Q h=>by
 subst x
 obtain⟨ρ,d,R,z,q⟩:=h
 unfold NM at z
 split at z
 ·next c O=>
  split at z
  ·next t=>
   cases z
   obtain⟨a,C,T,U,e3⟩:=R.slot i _ O
   obtain⟨F,kk⟩:=E c C t U
   exact⟨.ref a,AJ T,a,C,e,g,f c,rfl,B,e3,F,kk,q _ H (Ak.refl H) (by simp only[AF])⟩
  ·cases z
 ·cases z⟩
end
theorem NN{X:Cx}:L3 X.nox:=λ_ _ z=>z
abbrev lL:List Aa:=[.type "ValueError",.type "Exception",.type "BaseException",.type "object"]
def L5(t c:Ae):Bool:=c==t||t=="CubeError"||t=="ValueError"
section
variable{K:Frag}{C D G:Ac}{b:Bool}{cd:ClassData}
theorem mk_of{nm q:Ae}{N:Ac}{bs a:List Aa}{hdct:Bool}{sn:List Ae}{sub:List Aa}{ab:Bool}{col:Option Bool}{dd:Option Ac}{k0 k1 k2 k3 k5:Option Aa}
  (l:K.lookup D=some (excClassObj nm q D N bs a hdct sn sub ab col dd k0 k1 k2 k3 k5 "ValueError.__new__")) (e:excIn K D lL "ValueError.__new__"=true):Rz K D:=by
 unfold excIn at e
 rw[l]at e
 simp only[C7,beq_iff_eq,Nx]at e
 exact⟨nm,q,N,bs,a,hdct,sn,sub,ab,col,dd,k0,k1,k2,k3,k5,l,e.1.1.2,e.1.2,e.2⟩
theorem lM{t:Aa}(z:clsIn K G=some cd)(y:typeIn K (.ref G)=some (.type "type"))(s:subIn K t (.ref G)=some b):kitCls K t (.ref G)=some b:=by
 unfold kitCls
 dsimp only
 rw[if_pos (by rw[z,y];rfl)];exact s
theorem kit_V(s:subIn K (.ref C) (.type "ValueError")=some b):kitOne K (.ref C) (.type "ValueError")=some b:=by
 unfold kitOne
 rw[if_neg (λq=>by cases(show(CF C=Value.type "ValueError")from beq_iff_eq.mp q))]
 unfold kitCls
 dsimp only
 rw[if_pos (by decide +kernel)];exact s
theorem exm_of(x:subIn K (.ref G) (.type "BaseException")=some true)(z:clsIn K G=some cd)(y:typeIn K (.ref G)=some (.type "type"))(s:subIn K (.ref C) (.ref G)=some true):exmOne K (.ref C) (.ref G)=some true:=by
 unfold exmOne
 rw[if_pos (by rw[x];rfl)];exact lM z y s
end
section
variable{Y:Cx}{K:Frag}{M:Fb}{H0:Hp}{b:List Au}{h h':VE->Option Ae}
theorem lN(z:XB Y K M H0 b h)(e:h=h'):XB Y K M H0 b h':=e ▸ z
theorem lO:XB Y K M H0 b (λ_=>none):=⟨λ_ _ _ _ _ _ _ _ q=>nomatch q⟩
end
end L2
namespace L2
open PySem PySem.Spec PyProof.Rows
section
variable{X:Cx}{K:Ar}{M:Fb}{H0:Hp}{pos:A5}{st:Au}
@[simp] def sg(i:Nat)(ρ:VE):Ao:=match Cn ρ i with
  |some _=>.next (ρ.set i (.own []))
  |_=>.fail
@[simp] def si(c:Bool)(a b:Ao):Ao:=if c=true then a else b
def lP:D->D->Option D
 |.bl i,.bl j=>some (.bl (!decide (i=j)))
 |_,_=>none
@[simp] theorem sj(i j:Bool):lP (.bl i) (.bl j)=some (.bl (!decide (i=j))):=rfl
@[simp] def sk(i:Nat)(ρ:VE):Bool:=match ρ[i]? with
  |some (.own _ false)=>true
  |_=>false
end
def Jh(i j:Int):Prop:=0<j/\j<2^100
instance (i j:Int):Decidable (Jh i j):=by unfold Jh;exact inferInstance
section
variable{X:Cx}{K:Ar}{M:Fb}{H0:Hp}{a b:Expr}{f g:VE->Option D}{pos:A5}
theorem lQ:B5 X (FO .FloorDiv) (rI Jh λi j=>.int (i/j)):=K5 λi j _ _ _ _ _ a q=>by
 have d:(0:Int)<j:=a.1
 have e:j<2^100:=a.2
 have b:j.natAbs.log2<9000:=by
  have c:j.natAbs<2^100:=by omega
  exact Hb ((Nat.log2_lt (by omega)).mpr c) (by decide)
 exact floordiv_int (by omega) (by rw[Int.fdiv_eq_ediv_of_nonneg i (by omega)];exact q) (.inl (PyProof.noPylong_of_log2 b))
@[simp] def RC:D->D->Option D:=i2 λi j=>if Jh i j then some (.int (i/j))else none
theorem lR(c:JE X a (tP K M H0 f))(d:JE X b (tP K M H0 g)):JE X (.BinOp a .FloorDiv b pos) (tD K M H0 (Ze RC f g)):=⟨IM lQ (Ly _) c.h d.h⟩
end
def lS(K:Ar):V->List V->Hp->VK->Prop:=λx c H Q=>∃a b k y z,x=.ref a/\c=[y,z]/\Cw K H a b/\GS k b/\D1 K H k y/\(∀v,CW b k=some v->Q v H)/\(CW b k=none->Q z H)
section
variable{X:Cx}
theorem lT(M:X.A.units+64<Az):G6 X "dict.get" (lS X.K):=by
 intro j s N H x O v f Q I u B h
 obtain⟨a,m,k,y,z,rfl,rfl,hd,n,o,q1,q2⟩:=h
 cases u
 obtain⟨C,q,rfl,r,t⟩:=B.two
 cases k with
 | «at» b=>
  cases o
  obtain⟨E,i,nd,f,rel,g⟩:=Kh I hd n
  have c:=rel.val b
  refine call_meetsIn PySem.F.slot_dict_get g.typeIs PySem.F.entry_dict_get (PySem.F.args_dict_get_3 _ _ _) (meets_dict_get_default (Z6 X.prog X.w) a (Ho r) i q) ⟨_,g.mapOf,?_⟩
  cases d:CW m (.at b)with
  |none=>
   cases e:valueAt f b with
   |none=>exact⟨z,H,I.tok _,t,q2 d⟩
   |some w=>rw[d,e]at c;exact c.elim
  |some w=>
   cases e:valueAt f b with
   |none=>rw[d,e]at c;exact c.elim
   |some G=>rw[d,e]at c;exact⟨w,H,I.tok _,c,q1 w d⟩
 |tup l=>
  obtain⟨p,J,L⟩:=o
  subst J
  cases(show C=CF p from r)
  obtain⟨E,i,nd,f,rel,g⟩:=Ki I hd n
  have c:=rel.val l
  refine call_meetsIn PySem.F.slot_dict_get g.typeIs PySem.F.entry_dict_get (PySem.F.args_dict_get_3 _ _ _) (meetsH_dict_get_default (BK (Z6 X.prog X.w)) a p i q) ⟨LR (by omega),l,f,Jb I L,g,?_⟩
  cases d:CW m (.tup l)with
  |none=>
   cases e:atKey f l with
   |none=>exact⟨z,H,I.tok _,t,q2 d⟩
   |some w=>rw[d,e]at c;exact c.elim
  |some w=>
   cases e:atKey f l with
   |none=>rw[d,e]at c;exact c.elim
   |some G=>rw[d,e]at c;exact⟨w,H,I.tok _,c,q1 w d⟩
def NO(i:Nat)(c e:VE->Option D):VE->Option D:=λb=>match EX b i,c b,e b with
 |some f,some y,some d=>match D2 f,Dl y with
  |some a,some k=>if DA k a then some ((ZT a k).getD d)else none
  |_,_=>none
 |_,_,_=>none
variable{K:Ar}{M:Fb}{H0:Hp}{ek ev:Expr}{fk fv:VE->Option D}{pos:A5}
theorem lU{i:Nat}{x:Ae}{e g c:A5}(hu:X.A.units+64<Az)(hk:JE X ek (tP X.K M H0 fk))(t:JE X ev (tD X.K M H0 fv))(hN:X.N[i]?=some x:=by rfl)(B:Dr X.env.scope x:=by first|exact Or.inl rfl|exact Or.inr (Or.inl rfl)|exact Or.inr (Or.inr rfl))(hd:(x==("__debug__":Ae))=false:=by decide)(C:(x==("__classdict__":Ae))=false:=by decide)
  (j:Lf (.Name x e) "get" X.env (Ay (.Name x e) X.env)=Ay (.Name x e) X.env:=by rfl)
  (m:((AR c (AN [ek,ev] X.env)).all (λx=>!x.1)&&(backToKw c (IC [] X.env)).all (λx=>x.1.isSome)
   && decide ([ek,ev].length+([]:List BE).length+(if([]:List BE).isEmpty then 0 else 1)<30))=true:=by rfl)
  (l:(g.endLine==c.line)=true:=by rfl) (n:AN [ek,ev] X.env=(false,Ay ek X.env)::AN [ev] X.env:=by exact Dx (λ_ _ z=>nomatch z)) (o:AN [ev] X.env=(false,Ay ev X.env)::AN [] X.env:=by exact Dx (λ_ _ z=>nomatch z)) (E:(AR c (AN [ev] X.env)).any (·.1)=false:=by rfl):
  JE X (.Call (.Attribute (.Name x e) "get" g) [ek,ev] [] c) (tD X.K M H0 (NO i fk fv)):=
 ⟨(Le PySem.F.plainAttrs_dict PySem.F.slot_dict_get PySem.F.type_dict_get (lT hu) (FM hN B hd C) (DE hk.h (DE t.h Bt o) n) j m l n E).mono λσ H Q h=>by
   obtain⟨ρ,d,R,ex,q⟩:=h
   unfold NO at ex
   split at ex
   ·next xs y dv hr G I=>
    split at ex
    ·next p k J L=>
     split at ex
     ·next hh=>
      cases ex
      have O:=Lr hr
      have T:=H9 J
      subst T
      obtain⟨a,vs,e1,z1,z2,z3,z4⟩:=R.slot i _ O
      have ha:=AJ e1
      have tv:MX X.K "dict" (.ref a) H:=.inr (.inr (.inl ⟨rfl,.inr (.inr ⟨_,_,.inl z3⟩)⟩))
      refine⟨.ref a,ha,tv,ρ,y,R,G,λw H1 s1 hw=>⟨ρ,dv,R.st s1,I,λv U s2 B=>?_⟩⟩
      have s:=s1.trans s2
      obtain⟨tr,e',r⟩:=LS (z4.same s)
      subst e'
      rw[Jd L]at hw
      have Y:=Kl (hw.same s2)
      have b:=r.val k
      refine⟨a,tr,k,w,v,rfl,rfl,⟨.inl (show U a=some (Dz tr) by rw[<- Km r];exact s _ _ z3),r.keys⟩,r.hom hh,Je Y,λu hu'=>?_,λhn=>?_⟩
      ·rw[hu']at b
       cases f:ZT p k with
       |none=>rw[f]at b;exact b.elim
       |some d0=>
        rw[f]at b q
        exact q u U s b
      ·rw[hn]at b
       cases f:ZT p k with
       |some d0=>rw[f]at b;exact b.elim
       |none=>
        rw[f]at q
        exact q v U s B
     ·cases ex
    ·cases ex
   ·cases ex⟩
end
abbrev Dn(h:Am)(T:Ac)(a b c:Aa):Prop:=h.get? T=some {cls:=.type "tuple",data:=.seq #[a,b,c]}
section
variable{prog:AY}{w:Ai}{A:Aj}{E:Aa->Ab->Prop}{s:Ab}
theorem L6{T:Ac}{a b c x:Aa}{k:Nat}{Q:Unit->Ab->Prop}(d:Dn s.heap T a b c)
  (h:∀h',h'.get? T=some {cls:=.type "tuple",data:=.seq ((#[a,b,c]:Array Aa).setIfInBounds k x)}->Ds T s.heap h'->Q () {s with heap:=h' }):
  wpAny (Af prog w) A (updateSeq T (·.setIfInBounds k x)) Q E s:=by
 refine wpAny_updateSeq d rfl (h _ ?_ (IZ ..))
 rw[LO _ d rfl]
 simp[G9]
theorem CY{i:Ac}{f:List Ac}{n k:Nat}{is:Nat->Aa->Prop}{st:Nat->Am->Prop}(S:DZ prog w i f n is st){h h':Am}(q:st k h){c:Ac}(b:i≠c)(d:∀x∈f,x≠c)(g:Ds c h h'):st k h':=
 S.frame k h h' q λx a o e=>g.extBut x o (by rcases a with rfl|a;exact b;exact d x a) e
structure RE(z tin tout ia ib ic:Ac)(fa fb fc:List Ac):Prop where
 z1:tin≠z
 z2:tout≠z
 z3:ia≠z
 z4:ib≠z
 z5:ic≠z
 a1:tout≠ia
 a2:tout≠ib
 a3:tout≠ic
 b1:ia≠ib
 b2:ia≠ic
 b3:ib≠ic
 fA:∀b∈fa,b≠z/\b≠tout/\b≠ib/\b≠ic
 fB:∀b∈fb,b≠z/\b≠tout/\b≠ia/\b≠ic
 fC:∀b∈fc,b≠z/\b≠tout/\b≠ia/\b≠ib
variable{z tin tout ia ib ic:Ac}{fa fb fc:List Ac}{n m l k:Nat}{isA isB isC:Nat->Aa->Prop}{sa sb sc:Nat->Am->Prop}{a b c:Aa}
theorem lV{Q:Option Aa->Ab->Prop}(D:RE z tin tout ia ib ic fa fb fc)(h:DZ prog w ia fa n isA sa)(SB:DZ prog w ib fb m isB sb)(SC:DZ prog w ic fc l isC sc)
  (hz:IsZip s.heap z tin tout .none) (Y:Dn s.heap tin (.ref ia) (.ref ib) (.ref ic)) (ho:Dn s.heap tout a b c) (ha:sa k s.heap) (hb:sb k s.heap) (I:sc k s.heap) (kn:k<n) (km:k<m) (kl:k<l)
  (q:∀x y v h',isA k x->isB k y->isC k v->IsZip h' z tin tout (AH s.heap.objs.size)->Dn h' tout x y v->sa (k+1) h'->sb (k+1) h'->sc (k+1) h'->Dn h' s.heap.objs.size x y v->h'.objs.size=s.heap.objs.size+1 ->
   (∀c o,c≠z->c≠tout->c≠ia->c≠ib->c≠ic->s.heap.get? c=some o->h'.get? c=some o)->Q (some (.ref s.heap.objs.size)) {s with heap:=h' }):
  wpAny (Af prog w) A (Bm (.ref z)) Q E s:=by
 have ty:s.TypeIs (.ref z) "zip":=⟨_,hz,rfl⟩
 unfold Bm
 refine Ag (HX (Gf (name:=DT "__next__") ty Ji (Fq Ji ty RF ?_ (RH _))))
 show wpAny _ _ (field (.ref z) 2 >>= _) _ _ _
 refine Ag (Cp hz rfl (x:=.bool false) rfl ?_)
 show wpAny _ _ (field (.ref z) 3 >>= _) _ _ _
 refine Ag (Cp hz rfl (x:=.ref tin) rfl ?_)
 refine Ag (E2 Y rfl ?_)
 show wpAny _ _ (Hm (.ref z) >>= _) _ _ _
 refine Ag ?_
 unfold Hm
 refine Ag (Cp hz rfl (x:=.none) rfl (AE ?_))
 rw[if_pos rfl]
 refine Ag (FY ?_)
 refine Ag (Cp hz rfl (x:=.ref tout) rfl ?_)
 refine Ag (DL hz (by simp) λg1 z1 b1=>?_)
 have z1:IsZip g1 z tin tout .ellipsis:=z1
 have J:=λx d=>(D.fA x d).1
 have j:=λx d=>(D.fA x d).2.1
 have fA3:=λx d=>(D.fA x d).2.2.1
 have fA4:=λx d=>(D.fA x d).2.2.2
 have L:=λx d=>(D.fB x d).1
 have p:=λx d=>(D.fB x d).2.1
 have fB3:=λx d=>(D.fB x d).2.2.1
 have fB4:=λx d=>(D.fB x d).2.2.2
 have M:=λx d=>(D.fC x d).1
 have r:=λx d=>(D.fC x d).2.1
 have fC3:=λx d=>(D.fC x d).2.2.1
 have fC4:=λx d=>(D.fC x d).2.2.2
 refine Ag ?_
 simp only[List.zipIdx_nil,List.zipIdx_cons,L7,JQ]
 refine Ag (Ag (Hu ?_))
 show wpAny _ _ (D0 (.ref ia) >>= _) _ _ _
 refine Ag (h.item _ _ _ k _ kn (CY h ha D.z3 J b1) λx g2 d a2 b2=>AE ?_)
 have o2:Dn g2 tout a b c:=b2.extBut _ _ D.a1 (b1.extBut _ _ D.z2 ho)
 refine Ag (E2 o2 rfl ?_)
 refine Ag (L6 o2 λg3 o3 b3=>?_)
 have o3:Dn g3 tout x b c:=o3
 refine Ag (Hn (AE ?_))
 refine Ag (Ag (Hu ?_))
 show wpAny _ _ (D0 (.ref ib) >>= _) _ _ _
 have hb3:sb k g3:=CY SB (CY SB (CY SB hb D.z4 L b1) (Bp D.b1) fB3 b2) (Bp D.a2) p b3
 refine Ag (SB.item _ _ _ k _ km hb3 λy g4 hy a4 u=>AE ?_)
 have o4:Dn g4 tout x b c:=u.extBut _ _ D.a2 o3
 refine Ag (E2 o4 rfl ?_)
 refine Ag (L6 o4 λg5 o5 B=>?_)
 have o5:Dn g5 tout x y c:=o5
 refine Ag (Hn (AE ?_))
 refine Ag (Ag (Hu ?_))
 show wpAny _ _ (D0 (.ref ic) >>= _) _ _ _
 have hc5:sc k g5:=CY SC (CY SC (CY SC (CY SC (CY SC I D.z5 M b1) (Bp D.b2) fC3 b2) (Bp D.a3) r b3) (Bp D.b3) fC4 u) (Bp D.a3) r B
 refine Ag (SC.item _ _ _ k _ kl hc5 λv g6 hv a6 C=>AE ?_)
 have o6:Dn g6 tout x y c:=C.extBut _ _ D.a3 o5
 refine Ag (E2 o6 rfl ?_)
 refine Ag (L6 o6 λg T G=>?_)
 have T:Dn g tout x y v:=T
 refine Ag (Hn (AE (AE ?_)))
 refine Ag (E2 T rfl ?_)
 refine Ag (wpAny_newTuple ?_)
 have sz:g.objs.size=s.heap.objs.size:=by rw[G.1,C.1,B.1,u.1,b3.1,b2.1,b1.1]
 have z7:IsZip g z tin tout .ellipsis:=G.extBut _ _ (Bp D.z2) (C.extBut _ _ (Bp D.z5) (B.extBut _ _ (Bp D.z2) (u.extBut _ _ (Bp D.z4) (b3.extBut _ _ (Bp D.z2) (b2.extBut _ _ (Bp D.z3) z1)))))
 have kp:∀c o,c≠z->c≠tout->c≠ia->c≠ib->c≠ic->s.heap.get? c=some o->g.get? c=some o:=λc o t N c3 c4 c5 e=>
  G.extBut _ _ N (C.extBut _ _ c5 (B.extBut _ _ N (u.extBut _ _ c4 (b3.extBut _ _ N (b2.extBut _ _ c3 (b1.extBut _ _ t e))))))
 have a7:sa (k+1) g:=CY h (CY h (CY h (CY h (CY h a2 (Bp D.a1) j b3) D.b1 fA3 u) (Bp D.a1) j B) D.b2 fA4 C) (Bp D.a1) j G
 have b7':sb (k+1) g:=CY SB (CY SB (CY SB a4 (Bp D.a2) p B) D.b3 fB4 C) (Bp D.a2) p G
 have c7':sc (k+1) g:=CY SC a6 (Bp D.a3) r G
 have O:z<g.objs.size:=BA z7
 show wpAny _ _ (LP (.ref z) (.ref g.objs.size) >>= _) _ _ _
 refine Ag ?_
 unfold LP
 have z8:IsZip (g.push {cls:=.type "tuple",data:=.seq #[x,y,v]}) z tin tout .ellipsis:=Bj _ z7
 refine Ag (DL z8 (by simp) λg9 z9 b9=>?_)
 have z9:IsZip g9 z tin tout (AH g.objs.size):=z9
 refine DL z9 (by simp) λH U bA=>?_
 have U:IsZip H z tin tout (AH g.objs.size):=U
 have up:∀c o,c≠z->g.get? c=some o->H.get? c=some o:=λc o t e=>bA.extBut _ _ t (b9.extBut _ _ t (Bj _ e))
 have new:Dn H g.objs.size x y v:=bA.extBut _ _ (FN O) (b9.extBut _ _ (FN O) (Ca _ rfl))
 have sA:H.objs.size=g.objs.size+1:=by rw[bA.1,b9.1,E8]
 have fin:∀{i:Ac} {f:List Ac} {n:Nat} {is:Nat->Aa->Prop} {st:Nat->Am->Prop} (S:DZ prog w i f n is st),i≠z->(∀x∈f,x≠z)->st (k+1) g->st (k+1) H:=λS Y hf q=>S.frame _ _ _ q λc I o e=>up c o (by rcases I with rfl|I;exact Y;exact hf c I) e
 rw[sz]at U new sA
 refine AE ⟨_,rfl,AE ?_⟩
 show Q (some (.ref g.objs.size)) _
 rw[sz]
 exact q x y v H d hy hv U (up _ _ D.z2 T) (fin h D.z3 J a7) (fin SB D.z4 L b7') (fin SC D.z5 M c7') new sA λc o t N c3 c4 c5 e=>up c o t (kp c o t N c3 c4 c5 e)
theorem lW{Q:Option Aa->Ab->Prop}(j:A.handled=none)(D:RE z tin tout ia ib ic fa fb fc)(I:DZ prog w ia fa n isA sa)(SB:DZ prog w ib fb m isB sb)(SC:DZ prog w ic fc l isC sc)
  (hz:IsZip s.heap z tin tout .none) (hi:Dn s.heap tin (.ref ia) (.ref ib) (.ref ic)) (ho:Dn s.heap tout a b c) (ha:sa k s.heap) (hb:sb k s.heap) (hc:sc k s.heap) (kn:n<=k\/m<=k\/l<=k)
  (q:∀h',(∀c o,c≠z->c≠tout->c≠ia->c≠ib->c≠ic->s.heap.get? c=some o->h'.get? c=some o)->Q none {s with heap:=h' }):
  wpAny (Af prog w) A (Bm (.ref z)) Q E s:=by
 have ty:s.TypeIs (.ref z) "zip":=⟨_,hz,rfl⟩
 unfold Bm
 refine Ag (HX (Gf (name:=DT "__next__") ty Ji (Fq Ji ty RF ?_ (RH _))))
 have i:∀(h':Am) (e:Ac),(∀c o,c≠z->c≠tout->c≠ia->c≠ib->c≠ic->s.heap.get? c=some o->h'.get? c=some o)->(∃o,h'.get? e=some o/\o.cls=.type "StopIteration") ->
   wpAny (Af prog w) A (do if(<- isInstance (.ref e) (.type "StopIteration"))=true then AK (none:Option Aa)else throw (CF e)) Q E {s with heap:=h' }:=λh' e kp ⟨o,g,d⟩=>
  Ag (wpAny_isInstance (T:="StopIteration") (b:=true) ⟨o,g,d⟩ isSubtype_stop (AE (q h' kp)))
 show wpAny _ _ (field (.ref z) 2 >>= _) _ _ _
 refine Ag (Cp hz rfl (x:=.bool false) rfl ?_)
 show wpAny _ _ (field (.ref z) 3 >>= _) _ _ _
 refine Ag (Cp hz rfl (x:=.ref tin) rfl ?_)
 refine Ag (E2 hi rfl ?_)
 show wpAny _ _ (Hm (.ref z) >>= _) _ _ _
 refine Ag ?_
 unfold Hm
 refine Ag (Cp hz rfl (x:=.none) rfl (AE ?_))
 rw[if_pos rfl]
 refine Ag (FY ?_)
 refine Ag (Cp hz rfl (x:=.ref tout) rfl ?_)
 refine Ag (DL hz (by simp) λg1 z1 b1=>?_)
 have z1:IsZip g1 z tin tout .ellipsis:=z1
 have r:=λx f=>(D.fA x f).1
 have N:=λx f=>(D.fB x f).1
 have O:=λx f=>(D.fB x f).2.1
 have U:=λx f=>(D.fB x f).2.2.1
 have Y:=λx f=>(D.fC x f).1
 have t:=λx f=>(D.fC x f).2.1
 have fC3:=λx f=>(D.fC x f).2.2.1
 have fC4:=λx f=>(D.fC x f).2.2.2
 refine Ag ?_
 simp only[List.zipIdx_nil,List.zipIdx_cons,L7,JQ]
 refine Ag (Ag (Hu ?_))
 show wpAny _ _ (D0 (.ref ia) >>= _) _ _ _
 by_cases ka:n<=k
 ·refine Ag (I.fin A.in1 _ _ k _ (by first|exact j|simpa using j) ka (CY I ha D.z3 r b1) λg2 e x2 u=>?_)
  obtain⟨v,g,d⟩:=u
  have z2:IsZip g2 z tin tout .ellipsis:=x2 _ _ (Bp D.z3) z1
  have B:e≠z:=λx=>by subst x;rw[z2]at g;cases g;simp at d
  exact DL z2 (by simp) λC _ b3=>i C e (λc o d _ G _ _ x=>b3.extBut _ _ d (x2 _ _ G (b1.extBut _ _ d x))) ⟨v,b3.extBut _ _ B g,d⟩
 ·refine Ag (I.item _ _ _ k _ (Nat.lt_of_not_le ka) (CY I ha D.z3 r b1) λx g2 f a2 b2=>AE ?_)
  have o2:Dn g2 tout a b c:=b2.extBut _ _ D.a1 (b1.extBut _ _ D.z2 ho)
  refine Ag (E2 o2 rfl ?_)
  refine Ag (L6 o2 λC o3 b3=>?_)
  have o3:Dn C tout x b c:=o3
  refine Ag (Hn (AE ?_))
  refine Ag (Ag (Hu ?_))
  show wpAny _ _ (D0 (.ref ib) >>= _) _ _ _
  have H:sb k C:=CY SB (CY SB (CY SB hb D.z4 N b1) (Bp D.b1) U b2) (Bp D.a2) O b3
  have z3:IsZip C z tin tout .ellipsis:=b3.extBut _ _ (Bp D.z2) (b2.extBut _ _ (Bp D.z3) z1)
  by_cases kb:m<=k
  ·refine Ag (SB.fin A.in1 _ _ k _ (by first|exact j|simpa using j) kb H λg4 e x4 u=>?_)
   obtain⟨v,g,d⟩:=u
   have z4:IsZip g4 z tin tout .ellipsis:=x4 _ _ (Bp D.z4) z3
   have B:e≠z:=λx=>by subst x;rw[z4]at g;cases g;simp at d
   exact DL z4 (by simp) λJ _ p=>i J e (λc o d L G c4 _ x=>p.extBut _ _ d (x4 _ _ c4 (b3.extBut _ _ L (b2.extBut _ _ G (b1.extBut _ _ d x))))) ⟨v,p.extBut _ _ B g,d⟩
  ·have kc:l<=k:=by rcases kn with h|h|h;exact absurd h ka;exact absurd h kb;exact h
   refine Ag (SB.item _ _ _ k _ (Nat.lt_of_not_le kb) H λy g4 hy a4 M=>AE ?_)
   have o4:Dn g4 tout x b c:=M.extBut _ _ D.a2 o3
   refine Ag (E2 o4 rfl ?_)
   refine Ag (L6 o4 λJ o5 p=>?_)
   have o5:Dn J tout x y c:=o5
   refine Ag (Hn (AE ?_))
   refine Ag (Ag (Hu ?_))
   show wpAny _ _ (D0 (.ref ic) >>= _) _ _ _
   have hc5:sc k J:=CY SC (CY SC (CY SC (CY SC (CY SC hc D.z5 Y b1) (Bp D.b2) fC3 b2) (Bp D.a3) t b3) (Bp D.b3) fC4 M) (Bp D.a3) t p
   refine Ag (SC.fin A.in1 _ _ k _ (by first|exact j|simpa using j) kc hc5 λg6 e x6 u=>?_)
   obtain⟨v,g,d⟩:=u
   have z6:IsZip g6 z tin tout .ellipsis:=x6 _ _ (Bp D.z5) (p.extBut _ _ (Bp D.z2) (M.extBut _ _ (Bp D.z4) z3))
   have B:e≠z:=λx=>by subst x;rw[z6]at g;cases g;simp at d
   exact DL z6 (by simp) λg7 _ b7=>i g7 e (λc o d L G c4 c5 x=>b7.extBut _ _ d (x6 _ _ c5 (p.extBut _ _ L (M.extBut _ _ c4 (b3.extBut _ _ L (b2.extBut _ _ G (b1.extBut _ _ d x))))))) ⟨v,b7.extBut _ _ B g,d⟩
end
@[reducible] def L8(h:Am)(A B C:Bl):Am:=(GR h A B).push C.obj
@[reducible] def NP(h:Am)(A B C:Bl):Am:=(L8 h A B C).push {cls:=.type "tuple",data:=.seq #[.ref h.objs.size,.ref (Hk h A).objs.size,.ref (GR h A B).objs.size]}
@[reducible] def NQ(h:Am)(A B C:Bl):Am:=(NP h A B C).push {cls:=.type "tuple",data:=.seq #[.none,.none,.none]}
@[reducible] def Ih(h:Am)(A B C:Bl):Am:=(NQ h A B C).push {cls:=.type "zip",data:=.fields #[.none,.bool false,.bool false,.ref (L8 h A B C).objs.size,.ref (NP h A B C).objs.size]}
theorem lX(A B C:Bl)(xs ys vs:Array Aa):Meets (Av.«zip.__new__» ⟨[.type "zip",.ref A.ad,.ref B.ad,.ref C.ad],[]⟩) (λ_ R s=>A.ok s.heap xs/\B.ok s.heap ys/\C.ok s.heap vs/\R (.ok (.ret (.ref (NQ s.heap A B C).objs.size))) {s with heap:=Ih s.heap A B C}):=
 .of_wp λprog w m R s h=>by
  obtain⟨a,g,d,b,os⟩:=s;obtain⟨c,f,i,q⟩:=h
  have n:=sub_zip
  have j:A.ok (Shared.heap ⟨a,g,d,b,os⟩) xs:=c
  have k:B.ok (Shared.heap ⟨a.push A.obj,g,d,b,os⟩) ys:=B.okAt f λo e=>Bj _ e
  have l:C.ok (Shared.heap ⟨(a.push A.obj).push B.obj,g,d,b,os⟩) vs:=C.okAt i λo e=>Bj _ (Bj _ e)
  wp_walk using A.pyIter j,B.pyIter k,C.pyIter l
  exact⟨_,rfl,q⟩
theorem lY(a b c:Aa):checkTypeCall "zip" {pos:=[a,b,c]}=AK ():=by kernel_rfl
theorem lZ(a b c:Aa):ND "zip.__new__" {pos:=[Value.type "zip",a,b,c]}=AK ():=by kernel_rfl
theorem l5(a b c d:Aa):argsOk "object.__init__" ⟨[a,b,c,d],[]⟩:=by
 unfold argsOk;rw[signature?_of (id:="object.__init__") (n:=['_','_','t','i','n','i','_','_']) (o:=['t','c','e','j','b','o']) (by kernel_rfl) PySem.F.owner_object];kernel_rfl
section
variable{prog:AY}{w:Ai}{A:Aj}{E:Aa->Ab->Prop}{s:Ab}
theorem l6{S T U:Bl}{xs ys vs:Array Aa}{Q:Aa->Ab->Prop}(j:S.ok s.heap xs)(k:T.ok s.heap ys)(l:U.ok s.heap vs)
  (q:∀h',IsZip h' (s.heap.objs.size+5) (s.heap.objs.size+3) (s.heap.objs.size+4) .none->Dn h' (s.heap.objs.size+3) (.ref s.heap.objs.size) (.ref (s.heap.objs.size+1)) (.ref (s.heap.objs.size+2)) ->
   Dn h' (s.heap.objs.size+4) .none .none .none->S.it h' s.heap.objs.size 0->T.it h' (s.heap.objs.size+1) 0->U.it h' (s.heap.objs.size+2) 0->(∀c o,s.heap.get? c=some o->h'.get? c=some o)->Q (.ref (s.heap.objs.size+5)) {s with heap:=h' }):
  wpAny (Af prog w) A (call (.type "zip") [.ref S.ad,.ref T.ad,.ref U.ad]) Q E s:=by
 refine callType_new PySem.F.called_zip (by decide) (lY _ _ _) (lZ _ _ _) (λobj=>l5 obj _ _ _) PySem.F.entry_zip_new (lX S T U xs ys vs) ⟨j,k,l,?_⟩
 have z1:(Hk s.heap S).objs.size=s.heap.objs.size+1:=E8 ..
 have z2:(GR s.heap S T).objs.size=s.heap.objs.size+2:=by rw[E8,z1]
 have z3:(L8 s.heap S T U).objs.size=s.heap.objs.size+3:=by rw[E8,z2]
 have z4:(NP s.heap S T U).objs.size=s.heap.objs.size+4:=by rw[E8,z3]
 have z5:(NQ s.heap S T U).objs.size=s.heap.objs.size+5:=by rw[E8,z4]
 have b:(Ih s.heap S T U).get? (NQ s.heap S T U).objs.size=some _:=Ca _ rfl
 have d:(Ih s.heap S T U).get? (NP s.heap S T U).objs.size=some _:=Bj _ (Ca _ rfl)
 have f:(Ih s.heap S T U).get? (L8 s.heap S T U).objs.size=some _:=Bj _ (Bj _ (Ca _ rfl))
 have a:∀c o,(L8 s.heap S T U).get? c=some o->(Ih s.heap S T U).get? c=some o:=λc o e=>Bj _ (Bj _ (Bj _ e))
 have g:U.it (Ih s.heap S T U) (GR s.heap S T).objs.size 0:=U.itAt (U.new (h:=GR s.heap S T)) λo e=>a _ o e
 have i:T.it (Ih s.heap S T U) (Hk s.heap S).objs.size 0:=T.itAt (T.new (h:=Hk s.heap S)) λo e=>a _ o (Bj _ e)
 have m:S.it (Ih s.heap S T U) s.heap.objs.size 0:=S.itAt (S.new (h:=s.heap)) λo e=>a _ o (Bj _ (Bj _ e))
 show _/\_
 rw[z3,z4,z5]at b
 rw[z1,z2,z3]at f
 rw[z4]at d
 rw[z1]at i
 rw[z2]at g
 rw[z5]
 exact⟨⟨_,b,rfl⟩,q _ b f d m i g λc o e=>a _ _ (Bj _ (Bj _ (Bj _ e)))⟩
end
def X3(K:Ar)(S T U:Bl):It:=
 ⟨λi H=>∃a b vs x y v,S.sq K H a/\T.sq K H b/\U.sq K H vs/\a[i]?=some x/\b[i]?=some y/\vs[i]?=some v,
  λi H r c=>∃p x y v,r=.ref p/\H p=none/\c=AU H p (.tup [x,y,v])/\(∀a,S.sq K H a->a[i]?=some x)/\(∀b,T.sq K H b->b[i]?=some y)/\∀vs,U.sq K H vs->vs[i]?=some v,
  λi H=>∃a b vs,S.sq K H a/\T.sq K H b/\U.sq K H vs/\(a.length<=i\/b.length<=i\/vs.length<=i)⟩
theorem X4{n:Nat}{S T U:Bl}(f:S.ad<n)(g:T.ad<n)(h:U.ad<n):RE (n+5) (n+3) (n+4) n (n+1) (n+2) [S.ad] [T.ad] [U.ad]:=by
 have c:∀(a:Ac),a<n->∀k:Nat,a≠n+k:=λa i k e=>by subst e;exact absurd i (by show ¬ @LT.lt Nat _ _ _;omega)
 have j:∀(a:Ac),a<n->a≠n:=λa i=>c a i 0
 refine⟨?_,?_,?_,?_,?_,?_,?_,?_,?_,?_,?_,λb d=>?_,λb d=>?_,λb d=>?_⟩
 all_goals first
  |(show @Ne Nat _ _;omega)
  |(rw[Fx.mp d];exact⟨c _ f 5,c _ f 4,c _ f 1,c _ f 2⟩)
  |(rw[Fx.mp d];exact⟨c _ g 5,c _ g 4,j _ g,c _ g 2⟩)
  |(rw[Fx.mp d];exact⟨c _ h 5,c _ h 4,j _ h,c _ h 1⟩)
theorem l7{P:AY}{w:Ai}{K:Ar}{C:List Expr} {x1} {pos:A5} (S T U:Bl) (n:Nat) (h1:S.ad<n) (h2:T.ad<n) (h3:U.ad<n):
  GJ P w K (.Tuple C x1 pos) (X3 K S T U) [n+5,n+3,n+4,n,n+1,n+2] (n+5) (λi h=>IsZip h (n+5) (n+3) (n+4) .none/\Dn h (n+3) (.ref n) (.ref (n+1)) (.ref (n+2))/\(∃a b c,Dn h (n+4) a b c)/\S.it h n i/\T.it h (n+1) i/\U.it h (n+2) i) where
 mem:=by simp
 obj:=λi h st q g=>by
  obtain⟨z,a,⟨x,y,v,b⟩,c,d,e⟩:=st
  simp only[Br,Fv,or_false]at g
  rcases g with rfl|rfl|rfl|rfl|rfl|rfl
  ·exact⟨_,z,λv e=>nomatch (show Data.fields _=G4 v from e)⟩
  ·exact⟨_,a,λv e=>nomatch (show Data.seq _ _=G4 v from e)⟩
  ·exact⟨_,b,λv e=>nomatch (show Data.seq _ _=G4 v from e)⟩
  ·exact S.itOb c
  ·exact T.itOb d
  ·exact U.itOb e
 keep:=λi h h' st k=>by
  obtain⟨z,a,⟨x,y,v,b⟩,c,d,f⟩:=st
  exact⟨k _ (by simp) _ z,k _ (by simp) _ a,⟨x,y,v,k _ (by simp) _ b⟩,S.itAt c λo e=>k _ (by simp) o e,T.itAt d λo e=>k _ (by simp) o e,U.itAt f λo e=>k _ (by simp) o e⟩
 item:=by
  intro X hP hw hK hc i j s σ H E I N st l
  obtain⟨z,a,⟨u,v,t,b⟩,c,d,f⟩:=st
  obtain⟨xs,ys,vs,x,y,v3,O,Q,Y,ex,ey,ev⟩:=l
  subst hP hw hK
  obtain⟨m,r1,o1,_⟩:=S.of I O
  obtain⟨p,r2,o2,_⟩:=T.of I Q
  obtain⟨r,r3,o3,_⟩:=U.of I Y
  obtain⟨u1,e1,ru1⟩:=r1.get ex
  obtain⟨u2,e2,ru2⟩:=r2.get ey
  obtain⟨u3,e3,ru3⟩:=r3.get ev
  have l1:=(List.getElem?_eq_some_iff.mp e1).1
  have l2:=(List.getElem?_eq_some_iff.mp e2).1
  have l3:=(List.getElem?_eq_some_iff.mp e3).1
  refine lV (X4 h1 h2 h3) (S.sub (P:=X.prog) (w:=X.w) m.toArray) (T.sub (P:=X.prog) (w:=X.w) p.toArray) (U.sub (P:=X.prog) (w:=X.w) r.toArray) z a b ⟨c,o1⟩ ⟨d,o2⟩ ⟨f,o3⟩ (by simpa using l1) (by simpa using l2) (by simpa using l3) λx' y' v' h' G J L z' to' c'' d'' f'' new sz kp=>?_
  obtain⟨c',_⟩:=c''
  obtain⟨d',_⟩:=d''
  obtain⟨f',_⟩:=f''
  have hx1:x'=u1:=by simp[e1]at G;exact G.symm
  have hy1:y'=u2:=by simp[e2]at J;exact J.symm
  have hv1:v'=u3:=by simp[e3]at L;exact L.symm
  subst hx1 hy1 hv1
  refine⟨_,rfl,wpAny_letOwnedTupleGo_zip z' λA z2 sb=>?_⟩
  have hlt:n+5<s.heap.objs.size:=BA z
  have B:∀q o,q≠n+5->h'.get? q=some o->A.get? q=some o:=λq o g e=>sb.extBut _ _ g e
  have I1:Inv X j σ (AU H s.heap.objs.size (.tup [x,y,v3])) {s with heap:=A}:=by
   refine I.yielded N (λq o g e=>B q o (λz=>g (by simp[z])) (kp q o (λz=>g (by simp[z])) (λz=>g (by simp[z])) (λz=>g (by simp[z])) (λz=>g (by simp[z])) (λz=>g (by simp[z])) e)) (BD _) ?_
   exact⟨show 3<=AG by decide,[x',y',v'],.cons ru1 (.cons ru2 (.cons ru3 .nil)),⟨_,B _ _ (by(show @Ne Nat _ _;omega)) new,rfl,_,rfl⟩⟩
  have kt:Dn A (n+3) (.ref n) (.ref (n+1)) (.ref (n+2)):=B _ _ (by(show @Ne Nat _ _;omega)) (kp _ _ (by(show @Ne Nat _ _;omega)) (by(show @Ne Nat _ _;omega)) (by(show @Ne Nat _ _;omega)) (by(show @Ne Nat _ _;omega)) (by(show @Ne Nat _ _;omega)) a)
  refine⟨.ref s.heap.objs.size,_,I1,rfl,⟨_,x,y,v3,rfl,I.hok.fresh (BD _),rfl,λzs M=>by rw[S.inj I M O];exact ex,λzs M=>by rw[T.inj I M Q];exact ey,λzs M=>by rw[U.inj I M Y];exact ev⟩,⟨z2,kt,⟨x',y',v',B _ _ (by(show @Ne Nat _ _;omega)) to'⟩,S.itAt c' λo e=>B _ o (by(show @Ne Nat _ _;omega)) e,T.itAt d' λo e=>B _ o (by(show @Ne Nat _ _;omega)) e,U.itAt f' λo e=>B _ o (by(show @Ne Nat _ _;omega)) e⟩,λq g=>?_⟩
  rw[ZB]
  ·exact(N q g).1
  ·simp only[Br,Fv,or_false]at g
   rcases g with rfl|rfl|rfl|rfl|rfl|rfl<;>(show @Ne Nat _ _;omega)
 done:=by
  intro X hP hw hK hc i j s σ H E I N st l
  obtain⟨z,a,⟨u,v,t,b⟩,c,d,f⟩:=st
  obtain⟨xs,ys,vs,O,Q,Y,hl⟩:=l
  subst hP hw hK
  obtain⟨m,r1,o1,_⟩:=S.of I O
  obtain⟨p,r2,o2,_⟩:=T.of I Q
  obtain⟨r,r3,o3,_⟩:=U.of I Y
  have q1:=r1.length
  have q2:=r2.length
  have q3:=r3.length
  refine lW (I.ok.hd hc) (X4 h1 h2 h3) (S.sub (P:=X.prog) (w:=X.w) m.toArray) (T.sub (P:=X.prog) (w:=X.w) p.toArray) (U.sub (P:=X.prog) (w:=X.w) r.toArray) z a b ⟨c,o1⟩ ⟨d,o2⟩ ⟨f,o3⟩ (by simp only[BR];omega) λh' kp=>⟨rfl,I.turnedL N λq o g e=>kp q o (λz=>g (by simp[z])) (λz=>g (by simp[z])) (λz=>g (by simp[z])) (λz=>g (by simp[z])) (λz=>g (by simp[z])) e⟩
 self:=λ_ _ _ _ _ st q=>wpAny_pyIter_zip st.1 q
theorem ma{K:Ar}{M N:Fb}{H:Hp}{S T U:Bl}{xs ys e:List D}{us vs ws:List V}(j:Ad K N H xs us)(k:Ad K N H ys vs)(l:Ad K N H e ws)(q1:∀N2 a,Step M N N2 H a->S.sq K a us)(q2:∀N2 a,Step M N N2 H a->T.sq K a vs)(q3:∀N2 a,Step M N N2 H a->U.sq K a ws):
  J2 K M N H (X3 K S T U) (Fy (λx y=>D.tup [x,y.1,y.2]) xs (ys.zip e)):=λN2 a St i=>by
 have f:=q1 _ _ St
 have g:=q2 _ _ St
 have h:=q3 _ _ St
 have d1:=Ad.step St _ _ j
 have d2:=Ad.step St _ _ k
 have d3:=Ad.step St _ _ l
 refine⟨λd b=>?_,λb=>⟨us,vs,ws,f,g,h,?_⟩⟩
 ·rw[List.getElem?_zipWith]at b
  cases ex:xs[i]? with
  |none=>rw[ex]at b;cases b
  |some x=>
   cases c:(ys.zip e)[i]? with
   |none=>rw[ex,c]at b;cases b
   |some s=>
    rw[ex,c]at b;cases b
    obtain⟨y,z⟩:=s
    obtain⟨t,A⟩:=List.getElem?_zip_eq_some.mp c
    obtain⟨u,m,B⟩:=d1.get ex
    obtain⟨v,n,dv⟩:=d2.get t
    obtain⟨w,o,C⟩:=d3.get A
    refine⟨⟨us,vs,ws,u,v,w,f,g,h,m,n,o⟩,λr L E=>?_⟩
    obtain⟨p,O,Q,Y,G,q,I,w1,w2,J⟩:=E
    have:=w1 us f;rw[m]at this;cases this
    have:=w2 vs g;rw[n]at this;cases this
    have:=J ws h;rw[o]at this;cases this
    subst G I
    exact⟨QH q,J3 q (Ad.cons B (Ad.cons dv (Ad.cons C Ad.nil)))⟩
 ·have l1:=j.length
  have l2:=k.length
  have l3:=l.length
  simp only[List.length_zipWith,List.length_zip]at b
  omega
@[simp] def NR(f g k:VE->Option D):VE->Option (List D):=λa=>match(f a).bind DK,(g a).bind DK,(k a).bind DK with
  |some b,some c,some d=>some (Fy (λx y=>D.tup [x,y.1,y.2]) b (c.zip d))
  |_,_,_=>none
section
variable{X:Cx}{M:Fb}{H0:Hp}{f g k:VE->Option D}{a b c:Expr}{elts:List Expr}{p pos tpos:A5}
theorem md {x1} (hg:Gl X "zip") (hm:X.mg "zip"=none) (ha:JE X a (tQ X.K M H0 f)) (G:JE X b (tQ X.K M H0 g)) (hc:JE X c (tQ X.K M H0 k)) (hs:AN [a,b,c] X.env=[(false,Ay a X.env),(false,Ay b X.env),(false,Ay c X.env)]:=by rfl) (j:AN [b,c] X.env=[(false,Ay b X.env),(false,Ay c X.env)]:=by rfl) (x:AN [c] X.env=[(false,Ay c X.env)]:=by rfl) (hs4:AN [] X.env=[]:=by rfl):
  JI X (.Tuple elts x1 tpos) (.Call (.Name "zip" p) [a,b,c] [] pos) (tI X.K M H0 (NR f g k)):=⟨by
 intro y s m H Q I h
 obtain⟨d,ds,R,e,q⟩:=h
 unfold NR at e
 split at e
 ·next xs ys zs ex J L=>
  cases e
  cases hf:f d with
  |none=>rw[hf]at ex;cases ex
  |some d1=>
   cases n:g d with
   |none=>rw[n]at J;cases J
   |some d2=>
    cases o:k d with
    |none=>rw[o]at L;cases L
    |some d3=>
     rw[hf]at ex
     rw[n]at J
     rw[o]at L
     have PA3:=DE ha.h (DE G.h (DE hc.h Bt (by rw[x,hs4])) (by rw[j,x])) (by rw[hs,j])
     refine Call_ (F9 I hg hm W5 (JJ (A8 (PA3 pos y s m H (λvs l=>∃S T U A B C,vs=[.ref (Bl.ad S),.ref (Bl.ad T),.ref (Bl.ad U)]/\Ak H l/\Ad X.K (Nf M d m) l xs A/\Ad X.K (Nf M d m) l ys B/\Ad X.K (Nf M d m) l zs C/\(∀N2 i,Step M (Nf M d m) N2 l i->S.sq X.K i A)/\(∀N2 i,Step M (Nf M d m) N2 l i->T.sq X.K i B)/\∀N2 i,Step M (Nf M d m) N2 l i->U.sq X.K i C) I ?_) λA s1 hq=>?_) (by rw[hs,j]) (by rw[j];rfl)))
     ·refine⟨d,d1,R,hf,λv1 H1 z1 q1=>⟨d,d2,R.st z1,n,λv2 l z2 q2=>⟨d,d3,(R.st z1).st z2,o,λv3 i z3 q3=>?_⟩⟩⟩
      obtain⟨S,A,e1,t,N⟩:=q1.src ex
      obtain⟨T,B,e2,u,O⟩:=q2.src J
      obtain⟨U,C,e3,v,Y⟩:=q3.src L
      exact⟨S,T,U,A,B,C,by rw[e1,e2,e3],(z1.trans z2).trans z3,(t.same z2).same z3,u.same z3,v,λN2 i St=>N _ _ ((Step.of_same (z2.trans z3)).trans St),λN2 i St=>O _ _ ((Step.of_same z3).trans St),Y⟩
     ·obtain⟨vs,H1,w,r1,q1⟩:=hq
      obtain⟨S,T,U,us',B,C,e1,z,t,u,v,N,O,Y⟩:=q1
      subst e1
      cases r1 with
      |cons r E=>
       cases E with
       |cons r' E=>
        cases E with
        |cons r'' E=>
         cases E
         cases r
         cases r'
         cases r''
         obtain⟨its,v1,o1,_⟩:=S.of w (N _ _ Step.refl)
         obtain⟨jts,v2,o2,_⟩:=T.of w (O _ _ Step.refl)
         obtain⟨kts,v3,o3,_⟩:=U.of w (Y _ _ Step.refl)
         refine l6 o1 o2 o3 λh' a1 a2 a3 a4 a5 a6 kp=>wpAny_pyIter_zip a1 ?_
         refine⟨_,_,_,_,H1,rfl,w.kept (t':=s1.toks) kp,l7 S T U s1.heap.objs.size (S.lt o1) (T.lt o2) (U.lt o3),⟨a1,a2,⟨_,_,_,a3⟩,a4,a5,a6⟩,λb G=>?_,q _ _ z (ma t u v N O Y)⟩
         have hl:s1.heap.objs.size<=b:=by
          simp only[Br,Fv,or_false]at G
          rcases G with rfl|rfl|rfl|rfl|rfl|rfl<;>(show @LE.le Nat _ _ _;omega)
         exact w.fpOk hl (w.hok.fresh hl)
 ·cases e⟩
end
end L2
namespace L2
open PySem PySem.Spec PyProof.Rows PySem.W
def DC(h:Am)(d:Ac)(es:Array BJ)(ep:Nat):Prop:=∃o,h.get? d=some o/\o.ExactDict/\o.data=.dict es ep
section
variable{prog:AY}{w:Ai}{A:Aj}{E:Aa->Ab->Prop}{s:Ab}{d it:Ac}{es:Array BJ}{ep i:Nat}
theorem DC.type(x:DC s.heap d es ep):s.TypeIs (.ref d) "dict":=by
 obtain⟨o,a,b,_⟩:=x
 exact⟨o,a,b.1⟩
theorem DC.at{h h':Am}(x:DC h d es ep)(k:∀o,h.get? d=some o->h'.get? d=some o):DC h' d es ep:=by
 obtain⟨o,a,b⟩:=x
 exact⟨o,k o a,b⟩
theorem me{Q:Aa->Ab->Prop}(hd:(d==FL)=false)(a:DC s.heap d es ep)
  (e:Q (.ref s.heap.objs.size) {s with heap:=s.heap.push {cls:=.type "dict_keyiterator",data:=.fields #[.ref d,.int 0 0,.int es.size 0,.int ep 0]} }):wpAny (Af prog w) A (pyIter (.ref d)) Q E s:=by
 have ty:=a.type
 obtain⟨o,b,f,c⟩:=a
 refine wpAny_pyIter_slot ty PySem.F.slot_dict_iter (Fq PySem.F.slot_dict_iter ty PySem.F.entry_dict_iter ?_ (PySem.F.args_dict_iter_1 _))
 unfold Av.«dict.__iter__» Builtin.Dict.dictSlotNone
 refine Ag (Ag (wpAny_notOrdered_dict ty ?_))
 refine(AE ?_:wpAny _ _ (AK (CF d)) _ _ s)
 show wpAny _ _ (Builtin.Dict.showsAll d >>= _) _ _ s
 unfold Builtin.Dict.showsAll
 rw[if_neg (by rw[hd];exact HD)]
 refine Ag (AE (Ag (wpAny_dictEntries b c (Ag (wpAny_dictEpoch b c ?_)))))
 refine Ag (Gg (AE ⟨_,rfl,"dict_keyiterator",_,⟨_,Ca _ rfl,rfl⟩,PySem.F.slot_dict_keyiterator_next.lookup,?_⟩))
 simpa[AH]using e
theorem mf{Q:Option Aa->Ab->Prop}(c:s.heap.IsKeyIter it d i es.size ep)(j:DC s.heap d es ep)(k:i<es.size)
  (l:∀h',h'.IsKeyIter it d (i+1) es.size ep->Ds it s.heap h'->Q (some es[i].key) {s with heap:=h' }):wpAny (Af prog w) A (Bm (.ref it)) Q E s:=by
 have ty:=c.typeIs
 obtain⟨p,b,m,a⟩:=c
 obtain⟨o,e,n,f⟩:=j
 unfold Bm
 refine Ag (HX (Gf (name:=DT "__next__") ty RI (Fq RI ty mi ?_ (mj _))))
 refine Ag (AE (Ag (Ag ?_)))
 first|refine Ag (RJ ty (AE ?_))|refine Ag (RK ty (AE ?_))
 refine Ag (wpAny_fieldsOf b a ?_)
 simp only[show Builtin.Dict_items.ownsTuple "dict_keyiterator"=false by decide,DW,if_false]
 show wpAny _ _ (if(CF d==Ee)=true then _ else _) _ _ s
 rw[if_neg (show ¬ ((CF d==Ee)=true)from λz=>HD z)]
 refine Ag (AE (Ag (wpAny_dictEntries e f ?_)))
 rw[if_neg (by simp)]
 refine Ag (AE (Ag (wpAny_dictEpoch e f ?_)))
 rw[if_neg (by simp)]
 refine AE ?_
 simp only[show ¬ ((i:Int)<0)from by omega,if_false,Kd,Kf k]
 refine Ag ?_
 first|refine Ag (RJ ty (AE ?_))|refine Ag (RK ty (AE ?_))
 refine Ag (wpAny_isOneOf_keyiter ty ?_)
 show wpAny _ _ (setField (.ref it) 1 (AH ((i:Int)+1)) >>= _) _ _ s
 refine Ag (LM b a (by simp) ?_)
 have h:(s.heap.update it (Obj.mapFields (·.setIfInBounds 1 (AH ((i:Int)+1))))).IsKeyIter it d (i+1) es.size ep:=⟨_,LO _ b (Rb (Ke a _)),(Obj.cls_mapFields ..).trans m,by rw[Ke a];simp[AH]⟩
 refine Ag (Eh (Ag (wpAny_isOneOf_keyiter (s:={s with heap:=s.heap.update it (Obj.mapFields (·.setIfInBounds 1 (AH ((i:Int)+1))))}) h.typeIs ?_)))
 exact AE (AE ⟨_,rfl,AE (l _ h (IZ ..))⟩)
theorem mk{Q:Option Aa->Ab->Prop}(k:A.handled=none)(c:s.heap.IsKeyIter it d i es.size ep)(l:DC s.heap d es ep)(n:es.size<=i)
  (q:∀h',Heap.ExtBut it s.heap h'->Q none {s with heap:=h' }):wpAny (Af prog w) A (Bm (.ref it)) Q E s:=by
 have ty:=c.typeIs
 obtain⟨p,e,r,f⟩:=c
 obtain⟨o,g,t,h⟩:=l
 unfold Bm
 refine Ag (HX (Gf (name:=DT "__next__") ty RI (Fq RI ty mi ?_ (mj _))))
 refine Ag (AE (Ag (Ag ?_)))
 first|refine Ag (RJ ty (AE ?_))|refine Ag (RK ty (AE ?_))
 refine Ag (wpAny_fieldsOf e f ?_)
 simp only[show Builtin.Dict_items.ownsTuple "dict_keyiterator"=false by decide,DW,if_false]
 show wpAny _ _ (if(CF d==Ee)=true then _ else _) _ _ s
 rw[if_neg (show ¬ ((CF d==Ee)=true)from λz=>HD z)]
 refine Ag (AE (Ag (wpAny_dictEntries g h ?_)))
 rw[if_neg (by simp)]
 refine Ag (AE (Ag (wpAny_dictEpoch g h ?_)))
 rw[if_neg (by simp)]
 refine AE ?_
 simp only[show ¬ ((i:Int)<0)from by omega,if_false,Kd,Array.getElem?_eq_none n]
 refine Ag ?_
 first|refine Ag (RJ ty (AE ?_))|refine Ag (RK ty (AE ?_))
 show wpAny _ _ (setField (.ref it) 0 .none >>= _) _ _ s
 refine Ag (LM e f (by simp) ?_)
 show wpAny _ _ (newExc (.type "StopIteration") [] >>= _) _ _ _
 refine Ag ?_
 simp only[newExc,newTuple]
 refine Ag (Gg ?_ (by size_fits))
 refine Ag (m:=firstArgMember _ _) (wpAny_of_eq (a:=Ee) (by first|rfl|(simp only[firstArgMember];rfl)) ?_)
 refine Gg ?_ (by size_fits)
 simp only[raiseNew]
 refine Ag (wpAny_handled ?_)
 rw[show A.in1.handled=none from k]
 refine Ag (AE (wpAny_throw ?_))
 refine Ag (wpAny_isInstance (T:="StopIteration") (b:=true) ⟨_,Ca _ rfl,rfl⟩ isSubtype_stop ?_)
 exact AE (q _ ((Heap.ExtBut.push (Heap.SameBut.extBut (IZ ..)) _).push _))
theorem ml(n:A.handled=none)(I:Ac)(f:d≠I):Walks prog w A I [I,d] [I] es.size (λi v=>∃e,es[i]?=some e/\v=e.key) (λi h=>h.IsKeyIter I d i es.size ep/\DC h d es ep) where
 sub:=λb a=>by simp at a;simp[a]
 frame:=λ_ _ _ st k=>⟨st.1.at λo e=>k I (by simp) o e,st.2.at λo e=>k d (by simp) o e⟩
 item:=λi s Q E l st c=>mf st.1 st.2 l λg p m=>c _ g s.toks ⟨es[i],Kf l,rfl⟩ ⟨p,st.2.at λo e=>m.extBut _ _ f e⟩ λb o a e=>m.extBut b o (λh=>a (by simp[h])) e
 done:=λs Q E st c=>mk n st.1 st.2 (BD _) λg j=>c g s.toks λb o a e=>j b o (λh=>a (by simp[h])) e
 self:=λ_ _ _ _ st c=>wpAny_pyIter_keyiter st.1 c
theorem X5(lo:(d==FL)=false):KdlSrc prog w "dict" d d es.size (λi v=>∃e,es[i]?=some e/\v=e.key) (λh=>DC h d es ep) where
 type:=λ_ a=>a.type
 there:=λ_ a=>by obtain⟨o,b,_⟩:=a;exact⟨BA b,BA b⟩
 keep:=λ_ _ a f=>a.at λo e=>f d (.inl rfl) o e
 notList:=by decide
 notTuple:=by decide
 hint:=λ_ _ _ _ a c=>kdl_hint_dict a.type c
 iter:=λ_ s g a=>⟨_,_,(λ_ _ c=>me lo a c),ml g _ (by obtain⟨o,b,_⟩:=a;exact CG (BA b)),⟨⟨_,Ca _ rfl,rfl,rfl⟩,a.at λo e=>Bj _ e⟩⟩
end
theorem X6{w:Ai}:∀{a:List T3}{es:List BJ},Iy w (a.map (·.1)) (DN a) es->Aq (a.map λt=>t.2.1) (es.map λe=>e.key):=by
 intro a
 induction a with
 |nil=>
  intro es h
  obtain⟨_,e⟩:=h
  subst e
  exact .nil
 |cons t r c=>
  intro es h
  obtain⟨l,v,m,e,n,b,d,f,_,_,_,g⟩:=h
  simp only[DN,LQ]at b
  obtain⟨i,j,k⟩:=b
  subst d i j k
  exact .cons f (c g)
section
variable{X:Cx}
theorem X7{es:Array BJ}{acc:Array Aa}(h:ItemsOf (λi v=>∃e,es[i]?=some e/\v=e.key) acc es.size):acc.toList=es.toList.map λe=>e.key:=by
 refine HK λi=>?_
 rw[Array.getElem?_toList,C1,Array.getElem?_toList]
 cases a:acc[i]? with
 |some v=>
  obtain⟨e,b,c⟩:=h.2 i v a
  rw[b,c];rfl
 |none=>
  have d:acc.size<=i:=Array.getElem?_eq_none_iff.mp a
  have f:es[i]?=none:=Array.getElem?_eq_none_iff.mpr (by rw[<- h.1];exact d)
  rw[f];rfl
theorem mo(k:X.calm=true):A9 X (.type "list") (λxs H Q=>∃a b,xs=[.ref a]/\Cw X.K H a b/\∀l,H l=none->Q (.ref l) (AU H l (.lst (b.map λt=>t.2.1)))):=by
 intro f s L H xs M Q I r h
 obtain⟨a,b,rfl,hd,q⟩:=h
 obtain⟨u,rfl,m⟩:=DS r
 cases m
 obtain⟨z,n,nd,o,e,g,p,v,x,y⟩:=hd.1.ok I.hok
 have i:=X6 y
 have A:b.length=e.size:=by have:=i.length;simpa using this
 have j:b.length<=AG:=by simpa using z
 refine kdl_call (X5 (es:=e) (ep:=g) n) (I.ok.hd k) ⟨o,p,v,x⟩ (by rw[<- A];exact j) λB C c E kp G J=>?_
 have d:=X7 J
 refine⟨.ref s.heap.objs.size,_,I.laid (t':=C) kp (BD _) (show Bk X.prog X.w _ B _ (.lst (b.map λt=>t.2.1))from⟨by simpa using j,c.toList,E,by rw[d];exact i,by simpa using G⟩),rfl,q _ (I.hok.fresh (BD _))⟩
end
def L9:List D->Option (List D)
 |[.lst b true]=>(D2 b).map λa=>a.map λp=>kD p.1
 |_=>none
@[simp] theorem mq(kvs:Bx):L9 [.lst (Zw kvs) true]=some (kvs.map λp=>kD p.1):=by simp[L9]
section
variable{K:Ar}{N:Fb}{H:Hp}
theorem PD.kden:∀{kvs:Bx}{a:List T3},PD K N H kvs a->Ad K N H (kvs.map λp=>kD p.1) (a.map λt=>t.2.1)
 |_,_,.nil=>Ad.nil
 |_,_,.cons ⟨c,b,d⟩ t=>Ad.cons b (PD.kden t)
theorem mr:J0 K (λxs H Q=>∃a b,xs=[.ref a]/\Cw K H a b/\∀l,H l=none->Q (.ref l) (AU H l (.lst (b.map λt=>t.2.1)))) L9:=by
 intro N H vs n xs Q o h e q
 unfold L9 at e
 split at e
 ·next f=>
  cases c:D2 f with
  |none=>rw[c]at e;cases e
  |some g=>
   rw[c]at e
   cases e
   obtain⟨v,rfl,d⟩:=Paired.one' h
   rw[H9 c]at d
   obtain⟨p,s,i,r,hd⟩:=d
   subst i
   obtain⟨b,j,k⟩:=LU r hd
   exact⟨p,b,rfl,j,λl m=>q _ l m k.kden⟩
 ·cases e
end
section
variable{prog:AY}{w:Ai}{A:Aj}{E:Aa->Ab->Prop}{s:Ab}{T:String}{r d:Ac}{n:Nat}{P:Nat->Aa->Prop}{OK:Am->Prop}
theorem ms{Q:List Aa->Ab->Prop}(K:KdlSrc prog w T r d n P OK)(u:A.handled=none)(hok:OK s.heap)(v:n<=AG)
  (x:∀h' g acc,(∀b o,s.heap.get? b=some o->h'.get? b=some o)->ItemsOf P acc n->Q acc.toList {s with heap:=h',toks:=g}):wpAny (Af prog w) A (collect (.ref r)) Q E s:=by
 obtain⟨y,ld⟩:=K.there _ hok
 unfold collect
 refine Ag (wpAny_runValue (JR F.entry_proto_collect ?_))
 rw[Li F.plain_proto_collect _]
 show wpAny _ A.in1 (newList [] >>= λl=>again (.builtin "list.__iadd__" ⟨[l,.ref r],[]⟩)) _ _ s
 refine Ag (Gg ?_)
 refine AE ⟨plainId_quiet F.plain_list_iadd _,JR F.entry_list_iadd ?_⟩
 rw[Li F.plain_list_iadd _]
 show wpAny _ A.in1 (Builtin.List.listExtendWith (.ref s.heap.objs.size) (.ref r) (.ref s.heap.objs.size)) _ _ _
 have z:(s.heap.push {cls:=.type "list",data:=.seq ([]:List Aa).toArray}).get? s.heap.objs.size=some {cls:=.type "list",data:=.seq #[] 0}:=Ca _ rfl
 have i:∀j,(∃h' g acc m,j={s with heap:=h',toks:=g}/\(∀b o,s.heap.get? b=some o->h'.get? b=some o)/\h'.get? s.heap.objs.size=some {cls:=.type "list",dict:=none,data:=.seq acc m,slots:=#[]}/\ItemsOf P acc n)->wpAny (Af prog w) A (match CF s.heap.objs.size with
   |CF a=>do
    match(<- load a).data with
     |Data.seq B _=>AK B.toList
     |_=>unsupported "internal:collect"
   |_=>unsupported "internal:collect") Q E j:=by
  rintro j ⟨h',g,acc,m,rfl,p,k,q⟩
  show wpAny _ A (load s.heap.objs.size >>= _) _ _ _
  refine Ag (wpAny_load k ?_)
  refine AE ?_
  exact x h' g acc p q
 refine Eg (kdl_extend (R:=λr j=>r=.ok (.ret (.ref s.heap.objs.size))/\∃h' g acc m,j={s with heap:=h',toks:=g}/\(∀b o,s.heap.get? b=some o->h'.get? b=some o)/\h'.get? s.heap.objs.size=some {cls:=.type "list",dict:=none,data:=.seq acc m,slots:=#[]}/\ItemsOf P acc n) (s:={s with heap:=s.heap.push {cls:=.type "list",data:=.seq ([]:List Aa).toArray} }) K u (K.keep _ _ hok λb _ o e=>Bj _ e) s.heap.objs.size (FN y) (FN ld) _ 0 z (λh' g acc m p k q=>⟨rfl,h',g,acc,m,rfl,λb o e=>p b o (CG (BA e)) (Bj _ e),k,q⟩) v) (λfin j h=>?_) (λe j h=>?_)
 ·cases fin with
  |done f=>
   obtain⟨e,h⟩:=h
   cases e
   exact i j h
  |again c=>
   refine⟨h.1,codeAny_mono h.2 λr t C=>?_⟩
   obtain⟨rfl,h⟩:=C
   exact i t h
 ·exact nomatch h.1
end
section
variable{X:Cx}{pins:List (Ac×AM)}{σ:St}{H:Hp}{s:Ab}{N:Fb}{k:Nat}{fn:Ac}{fd:Bi}{ps:List Ae}{F:List Sl->Option Rv}
theorem mu(Fo:Ax X.prog X.w X.K X.mg X.base Bh k fn fd ps (Bu X.K F))(c:Binds X.K fd ps [])(G:Bd (k+2) X.A)(d:X.calm=true)
  (I:Inv X pins σ H s) (nh:∀a,N a->H a≠none) {a:Ac} {i:List T3} {p:List D} (r:Cw X.K H a i) (L:Ad X.K N H p (i.map λt=>t.2.1)) (ok:Bz F p) {Q:VK}
  (q:∀j vs H',Ak H H'->H j=none->H' j=some (.lst vs)->Ad X.K (λb=>N b\/b=j) H' (Fe (CC F) p) vs->Q (.ref j) H'):
  wpAny (Af X.prog X.w) X.A (call (.builtin "sorted") [.ref a] [("key",.ref fn)]) (EP X pins σ Q) X.xe s:=by
 have O:=L.length
 have few:=ok.few
 have hsl:AG=16777216:=BN
 obtain⟨z,hs,nd,o,m,T,e1,e2,e3,e4⟩:=r.1.ok I.hok
 have v:=X6 e4
 have hl:i.length=m.size:=by have:=v.length;simpa using this
 refine wpAny_call (L0 plain_sorted entry_sorted ?_)
 have x:ND "sorted" ⟨[.ref a],[("key",.ref fn)]⟩=AK ():=by rfl
 rw[x]
 refine AE ?_
 unfold PySem.Builtin.sorted
 have B:checkCount "sorted" 1 1 1=AK ():=rfl
 show wpAny _ _ (do checkCount "sorted" 1 1 1;let y <- collect (.ref a);let l <- newList y;let _ <- holding [l] (call (.builtin "list.sort") [l] [("key",.ref fn)]);ret l) _ _ _
 rw[B]
 refine Ag (AE ?_)
 refine Ag (ms (X5 (es:=m) (ep:=T) hs) (I.ok.hd d) ⟨o,e1,e2,e3⟩ (by simp at O;omega) λh1 U acc k1 hi=>?_)
 have h:=X7 hi
 rw[h]
 have C:=I.kept (t':=U) k1
 have l2:=v.length
 generalize Y:List.map (λe=>e.key) m.toList=f at *
 have rv:Aq (i.map λt=>t.2.1) f:=v
 refine Ag (wpAny_newList ?_ (by simp at O l2 ⊢;omega))
 generalize hs1:({heap:=h1,gens:=s.gens,drawn:=s.drawn,toks:=U,os:=s.os}:Ab)=n at *
 have I2:=C.kept (t':=n.toks) (λb u e=>Bj (DB f 0) e)
 have g:=Ca n.heap (o:=DB f 0) rfl
 have fD:=C.off (BD n.heap.objs.size)
 have E:H n.heap.objs.size=none:=C.fresh
 refine Ag (Eh ?_)
 refine wpAny_call (L0 PySem.F.slot_list_sort.plain PySem.F.entry_list_sort ?_)
 refine PySem.F.slot_list_sort.check _ _ _ _ _ _ _ _ ⟨_,g,rfl⟩ rfl ?_
 rw[ksk_t1]
 refine XM (N:=N) Fo c X.A.in1.in1 G.in1.in1 ?_ (λs H e=>e.in1.in1) I2 nh g E fD rv L ok λs' H' vs J sm hn dv=>?_
 ·have:=G.un;show X.A.units+1+1+40<_;omega
 ·refine AE ?_
  refine⟨.ref _,_,J,rfl,q _ vs _ (λb u e=>?_) E Z7 ?_⟩
  ·rw[ZB (λz=>by rw[z,E]at e;cases e)];exact sm b u e
  ·exact Ad.step (M:=λ_=>False) ⟨λb u e z=>by
    rw[ZB (λz=>by rw[z,hn]at e;cases e)];exact e,λb c=>by
    rcases c with c|c
    ·exact .inl c
    ·subst c;exact .inr hn⟩ _ _ dv
end
section
variable{X:Cx}{M:Fb}{H0:Hp}{k:Nat}{fn:Ac}{fd:Bi}{ps:List Ae}{F:List Sl->Option Rv}{e:Expr}{f:VE->Option D}{x y:Ae}{p p2 kpos pos:A5}
def NS(F:List Sl->Option Rv)(f:VE->Option D):VE->Option (List D):=λb=>match f b with
 |some (.lst c true)=>(D2 c).bind λa=>Ie F (a.map λp=>kD p.1)
 |_=>none
theorem mv(c:X.calm=true)(Fo:Ax X.prog X.w X.K X.mg X.base Bh k fn fd ps (Bu X.K F))(hr:Bd (k+2) X.A)(hg:Gl X x)(hm:X.mg x=none)(hv:Ep x=some (.builtin "sorted"))(l:Gl X y)(m:X.mg y=some (.ref fn))(hb:Binds X.K fd ps [])(n:JE X e (tP X.K M H0 f))
  (hn:x≠"__name__":=by decide) (o:(x==("__debug__":Ae))=false:=by decide) (i:(y==("__debug__":Ae))=false:=by decide) (U:AN [e] X.env=(false,Ay e X.env)::AN [] X.env:=by exact Dx (λ_ _ z=>nomatch z)):
  JE X (.Call (.Name x p) [e] [⟨some "key",.Name y p2,kpos⟩] pos) (tF X.K M H0 (NS F f)):=⟨have n:=n.h;by
 intro b s j H Q I h
 obtain⟨r,ys,R,d,q⟩:=h
 refine Lb (F9 I hg hm hv ?_ hn o)
 unfold NS at d
 split at d
 ·next t hf=>
  cases B:D2 t with
  |none=>rw[B]at d;cases d
  |some kvs=>
  rw[B]at d
  obtain⟨ok,rfl⟩:=XI d
  have Y:=(DE n (Bt (X:=X)) U) pos b s j H (λvs g=>∃v,vs=[v]/\Ak H g/\AI X.K (Nf M r j) g (.lst t true) v) I ⟨r,.lst t true,R,hf,λv g C d1=>⟨v,rfl,C,d1⟩⟩
  have E:=Vu (nm:=some "key") (kpos:=kpos) (UZ (v:=.ref fn) (pos:=p2) l m rfl i) (Vt (X:=X))
  rw[U]at Y ⊢
  refine callWith_builtin_kwB rfl rfl ?_
  unfold evalArgs
  refine Ag (A8 Y λus C G=>?_)
  obtain⟨vs,g,I1,r1,v,rfl,J,d1⟩:=G
  refine Ag (AE ?_)
  refine Eh ?_
  refine Ag (A8 (E pos b C j g (λzs H2=>zs=[.ref fn]/\H2=g) I1 ⟨rfl,rfl⟩) λks s2 G=>?_)
  obtain⟨zs,H2,I2,r2,rfl,rfl⟩:=G
  refine Ag (AE ?_)
  refine AE ?_
  obtain⟨u,rfl,ru⟩:=DS r1
  obtain⟨u2,rfl,L⟩:=DS r2
  cases L
  rw[H9 B]at d1
  obtain⟨a,ws,rfl,sq,dl⟩:=d1
  cases ru
  obtain⟨tr,dc,pd⟩:=LU sq dl
  have R1:=R.st J
  exact mu (N:=Nf M r j) Fo hb hr c I2 R1.nh dc pd.kden ok λda vs H' s' O T dv=>q da vs H' (J.trans s') (J.none O) T dv
 ·cases d⟩
end
end L2
namespace L2
open PySem PySem.Spec PyProof.Rows
abbrev Ec(h:Am)(z TI TO:Ac)(a:Aa)(b:Bool):Prop:=
 h.get? z=some {cls:=.type "zip",dict:=none,data:=.fields #[a,.bool b,.bool false,.ref TI,.ref TO],slots:=#[]}
def Jj(v:Aa):Prop:=v=.none\/∃a:Nat,v=AH a
section
variable{prog:AY}{w:Ai}{A:Aj}{E:Aa->Ab->Prop}{s:Ab}
variable{z tin tout ia ib:Ac}{fa fb:List Ac}{n m k:Nat}{isA isB:Nat->Aa->Prop}{sa sb:Nat->Am->Prop}{a b:Aa}{v0:Aa}{b1:Bool}
theorem mw{a:Ac}{Q:Option AM->Ab->Prop}(h:Q (s.heap.get? a) s):wpAny (Af prog w) A (loadIfAlive a) Q E s:=λ_ _ _=>h
theorem X8{Q:Bool->Ab->Prop}(hz:Ec s.heap z tin tout v0 b1)(d:Jj v0)
  (q:∀(b:Bool) h' e,Ec h' z tin tout v0 e->Ds z s.heap h'->Q b {s with heap:=h' }):wpAny (Af prog w) A (Hm (.ref z)) Q E s:=by
 unfold Hm
 rcases d with rfl|⟨a,rfl⟩
 ·exact Ag (Cp hz rfl (x:=.none) rfl (AE (q true s.heap b1 hz (.refl ..))))
 ·refine Ag (Cp hz rfl (x:=AH a) rfl ?_)
  show wpAny _ _ (loadIfAlive ((a:Int).toNat) >>= _) _ _ s
  refine Ag (mw ?_)
  refine wpAny_ite_split (λ_=>AE (q true s.heap b1 hz (.refl ..))) λ_=>?_
  refine Ag (Cp hz rfl (x:=.bool b1) rfl ?_)
  refine wpAny_ite_split (λ_=>?_) λ_=>?_
  ·dsimp only
   refine Ag (DL hz (by simp) λf z1 c=>AE ?_)
   exact q false f true z1 c
  ·exact AE (q false s.heap b1 hz (.refl ..))
theorem my{Q:Option Aa->Ab->Prop}(D:CI z tin tout ia ib fa fb)(i:DZ prog w ia fa n isA sa)(SB:DZ prog w ib fb m isB sb)
  (hz:Ec s.heap z tin tout v0 b1) (hv:Jj v0) (hi:Bo s.heap tin (.ref ia) (.ref ib)) (ho:Bo s.heap tout a b) (ha:sa k s.heap) (hb:sb k s.heap) (kn:k<n) (km:k<m)
  (q:∀x y h' v' b',isA k x->isB k y->Jj v'->Ec h' z tin tout v' b'->(∃a b,Bo h' tout a b)->sa (k+1) h'->sb (k+1) h'->Bo h' s.heap.objs.size x y->h'.objs.size=s.heap.objs.size+1 ->
   (∀c o,c≠z->c≠tout->c≠ia->c≠ib->s.heap.get? c=some o->h'.get? c=some o)->Q (some (.ref s.heap.objs.size)) {s with heap:=h' }):
  wpAny (Af prog w) A (Bm (.ref z)) Q E s:=by
 have ty:s.TypeIs (.ref z) "zip":=⟨_,hz,rfl⟩
 unfold Bm
 refine Ag (HX (Gf (name:=DT "__next__") ty Ji (Fq Ji ty RF ?_ (RH _))))
 show wpAny _ _ (field (.ref z) 2 >>= _) _ _ _
 refine Ag (Cp hz rfl (x:=.bool false) rfl ?_)
 show wpAny _ _ (field (.ref z) 3 >>= _) _ _ _
 refine Ag (Cp hz rfl (x:=.ref tin) rfl ?_)
 refine Ag (E2 hi rfl ?_)
 show wpAny _ _ (Hm (.ref z) >>= _) _ _ _
 refine Ag (X8 hz hv λfr M v N s0=>?_)
 have B:Bo M tout a b:=s0.extBut _ _ D.n2 ho
 have C:sa k M:=D.keepA i ha (.inl rfl) s0
 have G:sb k M:=D.keepB SB hb (.inl rfl) s0
 cases fr with
 |true=>
  rw[if_pos rfl]
  refine Ag (FY ?_)
  refine Ag (Cp N rfl (x:=.ref tout) rfl ?_)
  refine Ag (DL N (by simp) λg1 z1 b1=>?_)
  have z1:Ec g1 z tin tout .ellipsis v:=z1
  refine Ag ?_
  simp only[List.zipIdx_nil,List.zipIdx_cons,L7,JQ]
  refine Ag (Ag (Hu ?_))
  show wpAny _ _ (D0 (.ref ia) >>= _) _ _ _
  refine Ag (i.item _ _ _ k _ kn (D.keepA i C (.inl rfl) b1) λx O T a2 b2=>AE ?_)
  have o2:Bo O tout a b:=b2.extBut _ _ D.n8 (b1.extBut _ _ D.n2 B)
  refine Ag (E2 o2 rfl ?_)
  refine Ag (wpAny_updateSeq_pair o2 λg3 U b3=>?_)
  have U:Bo g3 tout x b:=U
  refine Ag (Hn (AE ?_))
  refine Ag (Ag (Hu ?_))
  show wpAny _ _ (D0 (.ref ib) >>= _) _ _ _
  have Y:sb k g3:=D.keepB SB (D.keepB SB (D.keepB SB G (.inl rfl) b1) (.inr (.inr rfl)) b2) (.inr (.inl rfl)) b3
  refine Ag (SB.item _ _ _ k _ km Y λy f hy a4 h=>AE ?_)
  have o4:Bo f tout x b:=h.extBut _ _ D.n9 U
  refine Ag (E2 o4 rfl ?_)
  refine Ag (wpAny_updateSeq_pair o4 λd L H=>?_)
  have L:Bo d tout x y:=L
  refine Ag (Hn (AE (AE ?_)))
  refine Ag (E2 L rfl ?_)
  refine Ag (wpAny_newTuple ?_)
  have sz:d.objs.size=s.heap.objs.size:=by rw[H.1,h.1,b3.1,b2.1,b1.1,s0.1]
  have z5:Ec d z tin tout .ellipsis v:=H.extBut _ _ (Bp D.n2) (h.extBut _ _ (Bp D.n4) (b3.extBut _ _ (Bp D.n2) (b2.extBut _ _ (Bp D.n3) z1)))
  have kp:∀c o,c≠z->c≠tout->c≠ia->c≠ib->s.heap.get? c=some o->d.get? c=some o:=λc o g p r t e=>
   H.extBut _ _ p (h.extBut _ _ t (b3.extBut _ _ p (b2.extBut _ _ r (b1.extBut _ _ g (s0.extBut _ _ g e)))))
  have a5:sa (k+1) d:=D.keepA i (D.keepA i (D.keepA i a2 (.inr (.inl rfl)) b3) (.inr (.inr rfl)) h) (.inr (.inl rfl)) H
  have b5':sb (k+1) d:=D.keepB SB a4 (.inr (.inl rfl)) H
  have I:z<d.objs.size:=BA z5
  show wpAny _ _ (LP (.ref z) (.ref d.objs.size) >>= _) _ _ _
  refine Ag ?_
  unfold LP
  have z6:Ec (d.push {cls:=.type "tuple",data:=.seq #[x,y]}) z tin tout .ellipsis v:=Bj _ z5
  refine Ag (DL z6 (by simp) λg7 z7 b7=>?_)
  have z7:Ec g7 z tin tout (AH d.objs.size) v:=z7
  refine DL z7 (by simp) λu z8 b8=>?_
  have z8:Ec u z tin tout (AH d.objs.size) false:=z8
  have j:∀c o,c≠z->d.get? c=some o->u.get? c=some o:=λc o g e=>b8.extBut _ _ g (b7.extBut _ _ g (Bj _ e))
  have new:Bo u d.objs.size x y:=b8.extBut _ _ (FN I) (b7.extBut _ _ (FN I) (Ca _ rfl))
  have J:u.objs.size=d.objs.size+1:=by rw[b8.1,b7.1,E8]
  have a8:sa (k+1) u:=i.frame _ _ _ a5 λc l o e=>j c o (by
   rcases l with rfl|l
   ·exact D.n3
   ·exact(D.fz c (.inl l)).1) e
  have b8':sb (k+1) u:=SB.frame _ _ _ b5' λc l o e=>j c o (by
   rcases l with rfl|l
   ·exact D.n4
   ·exact(D.fz c (.inr l)).1) e
  rw[sz]at new J
  refine AE ⟨_,rfl,AE ?_⟩
  show Q (some (.ref d.objs.size)) _
  rw[sz]
  exact q x y u _ _ T hy (.inr ⟨_,rfl⟩) z8 ⟨x,y,j _ _ D.n2 L⟩ a8 b8' new J λc o g p r t e=>j c o g (kp c o g p r t e)
 |false=>
  simp only[DW,if_false]
  refine Ag ?_
  simp only[<- Array.forIn_toList,JQ,L7]
  refine Ag (Ag (Eh ?_))
  show wpAny _ _ (D0 (.ref ia) >>= _) _ _ _
  refine Ag (i.item _ _ _ k _ kn C λx O T a2 b2=>AE (AE ?_))
  refine Ag (Ag (Eh ?_))
  show wpAny _ _ (D0 (.ref ib) >>= _) _ _ _
  have hb2:sb k O:=D.keepB SB G (.inr (.inr rfl)) b2
  refine Ag (SB.item _ _ _ k _ km hb2 λy f hy a4 h=>AE (AE (AE ?_)))
  refine Ag (wpAny_newTuple ?_ (show(2:Nat)<=AG by decide))
  have sz:f.objs.size=s.heap.objs.size:=by rw[h.1,b2.1,s0.1]
  have z4:Ec f z tin tout v0 v:=h.extBut _ _ (Bp D.n4) (b2.extBut _ _ (Bp D.n3) N)
  have kp:∀c o,c≠z->c≠tout->c≠ia->c≠ib->s.heap.get? c=some o->f.get? c=some o:=λc o g p r t e=>
   h.extBut _ _ t (b2.extBut _ _ r (s0.extBut _ _ g e))
  have a5:sa (k+1) f:=D.keepA i a2 (.inr (.inr rfl)) h
  have j:∀c o,f.get? c=some o->(f.push {cls:=.type "tuple",data:=.seq #[x,y]}).get? c=some o:=λc o e=>Bj _ e
  have new:Bo (f.push {cls:=.type "tuple",data:=.seq #[x,y]}) f.objs.size x y:=Ca _ rfl
  have J:(f.push {cls:=.type "tuple",data:=.seq #[x,y]}).objs.size=f.objs.size+1:=E8 ..
  rw[sz]at new J
  refine AE ⟨_,rfl,AE ?_⟩
  show Q (some (.ref f.objs.size)) _
  rw[sz]
  exact q x y _ _ _ T hy hv (j _ _ z4) ⟨a,b,j _ _ (h.extBut _ _ D.n9 (b2.extBut _ _ D.n8 B))⟩ (i.frame _ _ _ a5 λc l o e=>j c o e) (SB.frame _ _ _ a4 λc l o e=>j c o e) new J λc o g p r t e=>j c o (kp c o g p r t e)
theorem mz{Q:Option Aa->Ab->Prop}(j:A.handled=none)(D:CI z tin tout ia ib fa fb)(l:DZ prog w ia fa n isA sa)(SB:DZ prog w ib fb m isB sb)
  (hz:Ec s.heap z tin tout v0 b1) (hv:Jj v0) (hi:Bo s.heap tin (.ref ia) (.ref ib)) (ho:Bo s.heap tout a b) (ha:sa k s.heap) (hb:sb k s.heap) (kn:n<=k\/m<=k)
  (q:∀h',(∀c o,c≠z->c≠tout->c≠ia->c≠ib->s.heap.get? c=some o->h'.get? c=some o)->Q none {s with heap:=h' }):
  wpAny (Af prog w) A (Bm (.ref z)) Q E s:=by
 have ty:s.TypeIs (.ref z) "zip":=⟨_,hz,rfl⟩
 unfold Bm
 refine Ag (HX (Gf (name:=DT "__next__") ty Ji (Fq Ji ty RF ?_ (RH _))))
 have f:∀(h':Am) (e:Ac),(∀c o,c≠z->c≠tout->c≠ia->c≠ib->s.heap.get? c=some o->h'.get? c=some o)->(∃o,h'.get? e=some o/\o.cls=.type "StopIteration") ->
   wpAny (Af prog w) A (do if(<- isInstance (.ref e) (.type "StopIteration"))=true then AK (none:Option Aa)else throw (CF e)) Q E {s with heap:=h' }:=λh' e kp ⟨o,g,d⟩=>
  Ag (wpAny_isInstance (T:="StopIteration") (b:=true) ⟨o,g,d⟩ isSubtype_stop (AE (q h' kp)))
 show wpAny _ _ (field (.ref z) 2 >>= _) _ _ _
 refine Ag (Cp hz rfl (x:=.bool false) rfl ?_)
 show wpAny _ _ (field (.ref z) 3 >>= _) _ _ _
 refine Ag (Cp hz rfl (x:=.ref tin) rfl ?_)
 refine Ag (E2 hi rfl ?_)
 show wpAny _ _ (Hm (.ref z) >>= _) _ _ _
 refine Ag (X8 hz hv λfr G H z0 s0=>?_)
 have I:Bo G tout a b:=s0.extBut _ _ D.n2 ho
 have i:sa k G:=D.keepA l ha (.inl rfl) s0
 have v:sb k G:=D.keepB SB hb (.inl rfl) s0
 cases fr with
 |true=>
  rw[if_pos rfl]
  refine Ag (FY ?_)
  refine Ag (Cp z0 rfl (x:=.ref tout) rfl ?_)
  refine Ag (DL z0 (by simp) λg1 z1 b1=>?_)
  have z1:Ec g1 z tin tout .ellipsis H:=z1
  refine Ag ?_
  simp only[List.zipIdx_nil,List.zipIdx_cons,L7,JQ]
  refine Ag (Ag (Hu ?_))
  show wpAny _ _ (D0 (.ref ia) >>= _) _ _ _
  by_cases p:n<=k
  ·refine Ag (l.fin A.in1 _ _ k _ (by first|exact j|simpa using j) p (D.keepA l i (.inl rfl) b1) λr e y t=>?_)
   obtain⟨J,g,d⟩:=t
   have z2:Ec r z tin tout .ellipsis H:=y _ _ (Bp D.n3) z1
   have L:e≠z:=λx=>by subst x;rw[z2]at g;cases g;simp at d
   exact DL z2 (by simp) λB _ b3=>f B e (λc o d _ u _ x=>b3.extBut _ _ d (y _ _ u (b1.extBut _ _ d (s0.extBut _ _ d x)))) ⟨J,b3.extBut _ _ L g,d⟩
  ·have M:m<=k:=by rcases kn with h|h;exact absurd h p;exact h
   refine Ag (l.item _ _ _ k _ (Nat.lt_of_not_le p) (D.keepA l i (.inl rfl) b1) λx r hx a2 b2=>AE ?_)
   have o2:Bo r tout a b:=b2.extBut _ _ D.n8 (b1.extBut _ _ D.n2 I)
   refine Ag (E2 o2 rfl ?_)
   refine Ag (wpAny_updateSeq_pair o2 λB o3 b3=>?_)
   have o3:Bo B tout x b:=o3
   refine Ag (Hn (AE ?_))
   refine Ag (Ag (Hu ?_))
   show wpAny _ _ (D0 (.ref ib) >>= _) _ _ _
   have N:sb k B:=D.keepB SB (D.keepB SB (D.keepB SB v (.inl rfl) b1) (.inr (.inr rfl)) b2) (.inr (.inl rfl)) b3
   refine Ag (SB.fin A.in1 _ _ k _ (by first|exact j|simpa using j) M N λO e C t=>?_)
   obtain⟨J,g,d⟩:=t
   have z4:Ec O z tin tout .ellipsis H:=C _ _ (Bp D.n4) (b3.extBut _ _ (Bp D.n2) (b2.extBut _ _ (Bp D.n3) z1))
   have L:e≠z:=λx=>by subst x;rw[z4]at g;cases g;simp at d
   exact DL z4 (by simp) λg5 _ b5=>f g5 e (λc o d c2 u U x=>b5.extBut _ _ d (C _ _ U (b3.extBut _ _ c2 (b2.extBut _ _ u (b1.extBut _ _ d (s0.extBut _ _ d x)))))) ⟨J,b5.extBut _ _ L g,d⟩
 |false=>
  simp only[DW,if_false]
  refine Ag ?_
  simp only[<- Array.forIn_toList,JQ,L7]
  refine Ag (Ag (Eh ?_))
  show wpAny _ _ (D0 (.ref ia) >>= _) _ _ _
  by_cases p:n<=k
  ·refine Ag (l.fin A.in1 _ _ k _ (by first|exact j|simpa using j) p i λr e y t=>?_)
   exact f r e (λc o d _ u _ x=>y _ _ u (s0.extBut _ _ d x)) t
  ·have M:m<=k:=by rcases kn with h|h;exact absurd h p;exact h
   refine Ag (l.item _ _ _ k _ (Nat.lt_of_not_le p) i λx r hx a2 b2=>AE (AE ?_))
   refine Ag (Ag (Eh ?_))
   show wpAny _ _ (D0 (.ref ib) >>= _) _ _ _
   have Y:sb k r:=D.keepB SB v (.inr (.inr rfl)) b2
   refine Ag (SB.fin A.in1 _ _ k _ (by first|exact j|simpa using j) M Y λO e C t=>?_)
   exact f O e (λc o d c2 u U x=>C _ _ U (b2.extBut _ _ u (s0.extBut _ _ d x))) t
end
theorem mB{prog:AY}{w:Ai}{A:Aj}{E:Aa->Ab->Prop}{s:Ab}{z TI TO:Ac}{b:Aa}{c:Bool}{Q:Aa->Ab->Prop}(hz:Ec s.heap z TI TO b c)(h:Q (.ref z) s):wpAny (Af prog w) A (pyIter (.ref z)) Q E s:=by
 have a:s.TypeIs (.ref z) "zip":=⟨_,hz,rfl⟩
 refine wpAny_pyIter_slot a F.slot_zip_iter (Fq F.slot_zip_iter a F.entry_zip_iter ?_ (F.args_zip_iter_1 _))
 show wpAny _ _ (ret (.ref z)) _ _ s
 exact AE ⟨_,rfl,"zip",_,a,F.slot_zip_next.lookup,h⟩
theorem mC{prog:AY}{w:Ai}{A:Aj}{E:Aa->Ab->Prop}{s:Ab}{z TI TO a:Ac}{b:Aa}{e:Bool}{Q:Unit->Ab->Prop}(f:Expr)(hz:Ec s.heap z TI TO b e)(h:Jj b)
  (q:∀h' g,Jj g->Ec h' z TI TO g e->Ds z s.heap h'->Q () {s with heap:=h' }):wpAny (Af prog w) A (JH f (.ref z) (.ref a)) Q E s:=by
 have stay:Q () s:=q s.heap b h hz (.refl ..)
 have go:wpAny (Af prog w) A (do
   let o <- load z
   match o.cls,o.data with
   |.type n,.fields vs=>
    if ["enumerate","zip","dict_itemiterator","dict_reverseitemiterator","odict_iterator","itertools.zip_longest","itertools.pairwise"].contains n&&vs[0]?==some (AH a)then
     rule "for.unpacks-the-owned-tuple"
     updateField z 0 .none
   |_,_=>AK ()) Q E s:=by
  refine Ag (wpAny_load hz ?_)
  refine wpAny_ite_split (λ_=>?_) λ_=>AE stay
  refine Ag (FY ?_)
  show wpAny _ _ (setField (.ref z) 0 .none) Q E s
  exact DL hz (by simp) λh' c d=>q h' .none (.inl rfl) c d
 unfold JH
 cases f<;>first|exact AE stay|exact go
theorem mD{P:AY}{w:Ai}{K:Ar}{tg:Expr}(S T:Bl)(n:Nat)(h1:S.ad<n)(h2:T.ad<n):
  GJ P w K tg (W3 K S T) [n+4,n+2,n+3,n,n+1] (n+4) (λi h=>(∃g l,Jj g/\Ec h (n+4) (n+2) (n+3) g l)/\Bo h (n+2) (.ref n) (.ref (n+1))/\(∃a b,Bo h (n+3) a b)/\S.it h n i/\T.it h (n+1) i) where
 mem:=by simp
 obj:=λi h ⟨⟨g,l,m,z⟩,a,⟨x,y,b⟩,c,d⟩ q f=>by
  simp only[Br,Fv,or_false]at f
  rcases f with rfl|rfl|rfl|rfl|rfl
  ·exact⟨_,z,λv e=>nomatch (show Data.fields _=G4 v from e)⟩
  ·exact⟨_,a,λv e=>nomatch (show Data.seq _ _=G4 v from e)⟩
  ·exact⟨_,b,λv e=>nomatch (show Data.seq _ _=G4 v from e)⟩
  ·exact S.itOb c
  ·exact T.itOb d
 keep:=λi h N ⟨⟨g,l,m,z⟩,a,⟨x,y,b⟩,c,d⟩ k=>⟨⟨g,l,m,k _ (by simp) _ z⟩,k _ (by simp) _ a,⟨x,y,k _ (by simp) _ b⟩,S.itAt c λo e=>k _ (by simp) o e,T.itAt d λo e=>k _ (by simp) o e⟩
 item:=by
  intro X O Q U hc i j s σ H E I J ⟨⟨g,l,m,z⟩,a,⟨u,v,b⟩,c,d⟩ ⟨xs,ys,x,y,L,M,ex,ey⟩
  subst O Q U
  obtain⟨p,Y,o1,_⟩:=S.of I L
  obtain⟨r,r2,o2,_⟩:=T.of I M
  obtain⟨u1,e1,ru1⟩:=Y.get ex
  obtain⟨u2,e2,ru2⟩:=r2.get ey
  have l1:=(List.getElem?_eq_some_iff.mp e1).1
  have l2:=(List.getElem?_eq_some_iff.mp e2).1
  refine my (W4 h1 h2) (S.sub (P:=X.prog) (w:=X.w) p.toArray) (T.sub (P:=X.prog) (w:=X.w) r.toArray) z m a b ⟨c,o1⟩ ⟨d,o2⟩ (by simpa using l1) (by simpa using l2) λx' y' N v' b' A B hv' z' to' ⟨c',_⟩ ⟨d',_⟩ new sz kp=>?_
  have hx1:x'=u1:=by simp[e1]at A;exact A.symm
  have hy1:y'=u2:=by simp[e2]at B;exact B.symm
  subst hx1 hy1
  have hlt:n+4<s.heap.objs.size:=BA z
  refine⟨_,rfl,mC tg z' hv' λC v2 hv2 z2 sb=>?_⟩
  have t:∀q o,q≠n+4->N.get? q=some o->C.get? q=some o:=λq o f e=>sb.extBut _ _ f e
  have I1:Inv X j σ (AU H s.heap.objs.size (.tup [x,y])) {s with heap:=C}:=by
   refine I.yielded J (λq o f e=>t q o (λz=>f (by simp[z])) (kp q o (λz=>f (by simp[z])) (λz=>f (by simp[z])) (λz=>f (by simp[z])) (λz=>f (by simp[z])) e)) (BD _) ?_
   exact⟨show 2<=AG by decide,[x',y'],.cons ru1 (.cons ru2 .nil),⟨_,t _ _ (by(show @Ne Nat _ _;omega)) new,rfl,_,rfl⟩⟩
  obtain⟨u',v'',G⟩:=to'
  refine⟨.ref s.heap.objs.size,_,I1,rfl,⟨_,x,y,rfl,I.hok.fresh (BD _),rfl,λzs hz=>by rw[S.inj I hz L];exact ex,λzs hz=>by rw[T.inj I hz M];exact ey⟩,⟨⟨v2,b',hv2,z2⟩,t _ _ (by(show @Ne Nat _ _;omega)) (kp _ _ (by(show @Ne Nat _ _;omega)) (by(show @Ne Nat _ _;omega)) (by(show @Ne Nat _ _;omega)) (by(show @Ne Nat _ _;omega)) a),⟨u',v'',t _ _ (by(show @Ne Nat _ _;omega)) G⟩,S.itAt c' λo e=>t _ o (by(show @Ne Nat _ _;omega)) e,T.itAt d' λo e=>t _ o (by(show @Ne Nat _ _;omega)) e⟩,λq f=>?_⟩
  rw[ZB]
  ·exact(J q f).1
  ·simp only[Br,Fv,or_false]at f
   rcases f with rfl|rfl|rfl|rfl|rfl<;>(show @Ne Nat _ _;omega)
 done:=by
  intro X O Q U hc i j s σ H E I J ⟨⟨g,l,m,z⟩,a,⟨u,v,b⟩,c,d⟩ ⟨xs,ys,L,M,hl⟩
  subst O Q U
  obtain⟨p,Y,o1,_⟩:=S.of I L
  obtain⟨r,r2,o2,_⟩:=T.of I M
  have q1:=Y.length
  have q2:=r2.length
  refine mz (I.ok.hd hc) (W4 h1 h2) (S.sub (P:=X.prog) (w:=X.w) p.toArray) (T.sub (P:=X.prog) (w:=X.w) r.toArray) z m a b ⟨c,o1⟩ ⟨d,o2⟩ (by simp only[BR];omega) λN kp=>⟨rfl,I.turnedL J λq o f e=>kp q o (λz=>f (by simp[z])) (λz=>f (by simp[z])) (λz=>f (by simp[z])) (λz=>f (by simp[z])) e⟩
 self:=λ_ _ _ _ _ ⟨⟨g,l,m,z⟩,_⟩ q=>mB z q
section
variable{X:Cx}{M:Fb}{H0:Hp}{f g:VE->Option D}{a b tg:Expr}{p pos:A5}
theorem RL(hg:Gl X "zip")(hm:X.mg "zip"=none)(B:JE X a (tQ X.K M H0 f))(l:JE X b (tQ X.K M H0 g))(O:AN [a,b] X.env=[(false,Ay a X.env),(false,Ay b X.env)]:=by rfl)(c:AN [b] X.env=[(false,Ay b X.env)]:=by rfl)(C:AN [] X.env=[]:=by rfl):
  JI X tg (.Call (.Name "zip" p) [a,b] [] pos) (tI X.K M H0 (Hl f g)):=⟨have B:=B.h;have l:=l.h;by
 intro o s t H Q I ⟨d,ds,R,e,q⟩
 unfold Hl at e
 split at e
 ·next xs ys ex x=>
  cases e
  cases E:f d with
  |none=>rw[E]at ex;cases ex
  |some d1=>
   cases i:g d with
   |none=>rw[i]at x;cases x
   |some d2=>
    rw[E]at ex
    rw[i]at x
    have G:=DE B (DE l Bt (by rw[c,C])) (by rw[O,c])
    refine Call_ (F9 I hg hm W5 (JJ (A8 (G pos o s t H (λvs m=>∃S T u v,vs=[.ref (Bl.ad S),.ref (Bl.ad T)]/\Ak H m/\Ad X.K (Nf M d t) m xs u/\Ad X.K (Nf M d t) m ys v/\(∀N2 n,Step M (Nf M d t) N2 m n->S.sq X.K n u)/\∀N2 n,Step M (Nf M d t) N2 m n->T.sq X.K n v) I ?_) λu J ⟨vs,U,w,r1,q1⟩=>?_) (by rw[O,c]) (by rw[c];rfl)))
    ·refine⟨d,d1,R,E,λv1 U z1 q1=>⟨d,d2,R.st z1,i,λv2 m z2 q2=>?_⟩⟩
     obtain⟨S,u,L,j,y⟩:=q1.src ex
     obtain⟨T,v,e2,k,A⟩:=q2.src x
     exact⟨S,T,u,v,by rw[L,e2],z1.trans z2,j.same z2,k,λN2 n St=>y _ _ ((Step.of_same z2).trans St),A⟩
    ·obtain⟨S,T,us',v,L,z,j,k,y,A⟩:=q1
     subst L
     cases r1 with
     |cons r N=>
      cases N with
      |cons r' N=>
       cases N
       cases r
       cases r'
       obtain⟨its,v1,Y,_⟩:=S.of w (y _ _ Step.refl)
       obtain⟨jts,v2,o2,_⟩:=T.of w (A _ _ Step.refl)
       refine jQ Y o2 λh' a1 a2 a3 a4 a5 kp=>wpAny_pyIter_zip a1 ?_
       refine⟨_,_,_,_,U,rfl,w.kept (t':=J.toks) kp,mD S T J.heap.objs.size (S.lt Y) (T.lt o2),⟨⟨_,_,.inl rfl,a1⟩,a2,⟨_,_,a3⟩,a4,a5⟩,λb l=>?_,q _ _ z (jR j k y A)⟩
       have hl:J.heap.objs.size<=b:=by
        simp only[Br,Fv,or_false]at l
        rcases l with rfl|rfl|rfl|rfl|rfl<;>(show @LE.le Nat _ _ _;omega)
       exact w.fpOk hl (w.hok.fresh hl)
 ·cases e⟩
end
section
variable{prog:AY}{w:Ai}{A:Aj}{E:Aa->Ab->Prop}{s:Ab}{l:Ac}{xs:Array (Int×Tok)}
theorem mE{Q:Aa->Ab->Prop}(f:s.heap.IsTuple l (BG xs))
  (h:∀a:Ab,a={s with heap:=s.heap.push {cls:=.type "tuple_iterator",data:=.fields #[.ref l,.int 0 0]} } ->
   (a.heap.IsTupleIter s.heap.objs.size l 0/\a.heap.IsTuple l (BG xs))->(∀b∈[s.heap.objs.size,l],b<a.heap.objs.size)->l≠s.heap.objs.size->Q (.ref s.heap.objs.size) a):
  wpAny (Af prog w) A (pyIter (.ref l)) Q E s:=by
 have c:l<s.heap.objs.size:=by obtain⟨_,e,_⟩:=f;exact BA e
 refine wpAny_pyIter_tuple f (h _ rfl ⟨⟨_,Ca _ rfl,rfl,rfl⟩,f.at λo e=>Bj _ e⟩ (λb d=>?_) (CG c))
 show b<(s.heap.push _).objs.size
 rw[E8]
 rcases Br.mp d with rfl|d
 ·exact Nat.lt_succ_self _
 ·rcases Br.mp d with rfl|d
  ·exact Nat.lt_succ_of_lt c
  ·cases d
theorem mF{h':Am}(c:∀b o,b∉[s.heap.objs.size]->(s.heap.push {cls:=.type "tuple_iterator",data:=.fields #[.ref l,.int 0 0]}).get? b=some o->h'.get? b=some o):
  ∀b o,s.heap.get? b=some o->h'.get? b=some o:=λb o e=>by
 refine c b o (λa=>?_) (Bj _ e)
 rcases Br.mp a with d|a
 ·exact absurd (d ▸ BA e) (F8 _)
 ·cases a
theorem mG{Q:Aa->Ab->Prop}(k:A.handled=none)(m:s.heap.IsTuple l (BG xs))(a:0<xs.size)
  (h:∀v h' c,(BG xs)[argBest (λi j=>decide (numAt xs i<numAt xs j)) (xs.size-1)]?=some v->(∀b o,s.heap.get? b=some o->h'.get? b=some o)->Q v {s with heap:=h',toks:=c}):
  wpAny (Af prog w) A (call (.builtin "min") [.ref l]) Q E s:=by
 refine call_min_walk (mE m λg e st d f=>?_)
 subst e
 refine⟨_,_,_,_,_,_,_,rfl,Walks.tuple (A:=A.in1) k _ l f (BG xs),st,d,by simpa[BG]using a,CmpOf.ints_lt (numAt xs) (λ_ _=>intItems_at),λv h' c n p=>?_⟩
 exact h v h' c (by simpa[BG]using n) (mF p)
end
section
variable{X:Cx}
theorem mH(x:X.calm=true):A9 X (.builtin "min") (λxs H Q=>∃(a:Ac)(c:List Int),xs=[.ref a]/\B0 X.K H a (c.map V.int)/\0<c.length/\∀m,m∈c->(∀a,a∈c->m<=a)->Q (.int m) H):=by
 intro l s M H xs N Q I r h
 obtain⟨a,c,rfl,y,i,q⟩:=h
 obtain⟨u,rfl,z⟩:=DS r
 cases z
 obtain⟨f,A,p,O⟩:=I.tuple y
 have n:IntsAre f c:=Ld A
 obtain⟨g,e⟩:=n.allInts.items
 have d:c=g.toList.map (·.1):=by rw[<- n.numsOf,<- nums_intItems,<- e]
 have k:0<g.size:=by
  have o:=i;rw[d,B1,Gb]at o;exact o
 have B:s.heap.IsTuple a (BG g):=e ▸ (show s.heap.IsTuple a f.toArray from p)
 refine mG (I.ok.hd x) B k λv T C E G=>?_
 obtain⟨t,rfl⟩:=intItems_at E
 obtain⟨U,J⟩:=argBest_lt (numAt g) (g.size-1)
 refine⟨.int _,H,I.kept (t':=C) G,⟨t,rfl⟩,q _ ?_ λb w=>?_⟩
 ·rw[d,numAt_eq];exact getD_mem (by rw[B1,Gb];omega)
 ·rw[d]at w
  obtain⟨j,L,rfl⟩:=mem_getD w
  rw[B1,Gb]at L
  rw[<- numAt_eq];exact J j (by omega)
end
@[simp] def NT:List D->Option D
  |[.tup a]=>((DY a).bind J9).map D.int
  |_=>none
@[simp] def so:List D->Option D
  |[.tup a]=>((DY a).bind LI).map D.int
  |_=>none
section
variable{K:Ar}
theorem mI:DX K (λxs H Q=>∃(a:Ac)(b:List Int),xs=[.ref a]/\B0 K H a (b.map V.int)/\0<b.length/\∀m,m∈b->(∀a,a∈b->m<=a)->Q (.int m) H) NT:=by
 intro N H vs o d Q p h e q
 unfold NT at e
 split at e
 ·next xs=>
  cases f:DY xs with
  |none=>rw[f]at e;cases e
  |some bs=>
   rw[f]at e
   simp only[AA]at e
   cases c:J9 bs with
   |none=>rw[c]at e;cases e
   |some k=>
    rw[c]at e;cases e
    obtain⟨v,rfl,i⟩:=Paired.one' h
    obtain⟨a,r,j,q1,g⟩:=i.tup
    subst j
    rw[J7 f]at g
    rw[J8 g]at q1
    refine⟨a,bs,rfl,q1,?_,λm l n=>?_⟩
    ·cases bs with
     |nil=>cases c
     |cons=>simp
    ·rw[WM c l n];exact q _ H (Ak.refl H) EZ
 ·cases e
end
@[simp] def X9(o:Option D)(ρ:VE):Ao:=match o with
  |some _=>.next ρ
  |none=>.fail
section
variable{X:Cx}{K:Ar}{M:Fb}{H0:Hp}{e:Expr}{f:VE->Option D}{pos:A5}
theorem mJ(h:JE X e (tD K M H0 f))(b:E6 e none pos.line X.env=AK false:=by rfl):JS X (.Expr e pos) (tS K M H0 λρ=>X9 (f ρ) ρ):=⟨(Qm h.h b).mono λi c H ⟨ρ,R,q⟩=>by
 try dsimp only at q
 cases a:f ρ with
 |none=>rw[a]at q;exact BB q
 |some d=>
  rw[a]at q
  exact⟨ρ,d,R,a,λv g s j=>q c g (R.st s) (Step.of_same s)⟩⟩
end
theorem ED{P:List Aa->Prop}(h:∀a,P [a])(us:List Aa)(b:us.length=1):P us:=by
 match us,b with
 |[a],_=>exact h a
theorem EE{P:List Aa->Prop}(h:∀a b,P [a,b])(us:List Aa)(c:us.length=2):P us:=by
 match us,c with
 |[a,b],_=>exact h a b
theorem mK{P:List Aa->Prop}(h:∀a b c,P [a,b,c])(us:List Aa)(d:us.length=3):P us:=by
 match us,d with
 |[a,b,c],_=>exact h a b c
theorem mL{P:List Aa->Prop}(h:∀a b c d,P [a,b,c,d])(us:List Aa)(e:us.length=4):P us:=by
 match us,e with
 |[a,b,c,d],_=>exact h a b c d
theorem mM{P:List Aa->Prop}(h:∀a b c d e,P [a,b,c,d,e])(us:List Aa)(f:us.length=5):P us:=by
 match us,f with
 |[a,b,c,d,e],_=>exact h a b c d e
theorem mO{P:List Aa->Prop}(h:∀a b c d e f,P [a,b,c,d,e,f])(us:List Aa)(g:us.length=6):P us:=by
 match us,g with
 |[a,b,c,d,e,f],_=>exact h a b c d e f
structure DI(K:Ar)(mg:Ae->Option Aa)(nm:Ae)(st:Au)(ps:List Ae)(a:Ac)(fd:Bi):Prop where
 m:mg nm=some (.ref a)
 F:IH K nm nm st a fd
 b:Binds K fd ps []
theorem di{K:Ar}{mg:Ae->Option Aa}{h:Am}{nm:Ae}{st:Au}{ps:List Ae}{a:Ac}{i:Aa}{j e:Option Ac}{g:Array (Option Aa)}{kV d f b ct:Aa}(X:K.In h)(G:h.Ns Dq mg)
  (A:PySem.W.nsIn K Dq nm=some (some (.ref a)))
  (l:K.lookup a=some ⟨i,j,.func (HG nm nm (IG st) (FQ st) (Zm st) .none kV d f e b ct),g⟩) (c:PySem.W.codeIn K b nm=true) (k:La K (.ref a)=true)
  (m:∀(kV d f:Aa) (e:Option Ac) (b ct:Aa) (us:List Aa),us.length=ps.length->bindArgs (HG nm nm (IG st) (FQ st) (Zm st) .none kV d f e b ct) ⟨us,[]⟩=AK (ps.zip us):=by
   first|exact λ_ _ _ _ _ _=>ED λ_=>rfl|exact λ_ _ _ _ _ _=>EE λ_ _=>rfl|exact λ_ _ _ _ _ _=>mK λ_ _ _=>rfl|exact λ_ _ _ _ _ _=>mL λ_ _ _ _=>rfl|exact λ_ _ _ _ _ _=>mM λ_ _ _ _ _=>rfl|exact λ_ _ _ _ _ _=>mO λ_ _ _ _ _ _=>rfl):
  DI K mg nm st ps a (HG nm nm (IG st) (FQ st) (Zm st) .none kV d f e b ct):=
 ⟨PySem.W.mg_of X G A,hZ l c k,.all (m kV d f e b ct)⟩
theorem mP{l:PySem.W.OpenLaw}{w:Ai}{K:Ar}{mg:Ae->Option Aa}{f a:Ac}{fd:Bi}{st:Au}{n:Nat}{F:List Sl->Option Rv}(d:mg "law"=some (.ref f))(q:DI K mg "law" st ["_law_script"] a fd)
  (G:∀base:Am,Ax l.prog w K mg base Bh n a fd ["_law_script"] (Bu K F)) (h:∀g:List Int,g.length<=63->F [.val (.lst (g.map D.int))]=some (.val (.bl true)))
  (e:∀(kV b i:Aa) (j:Option Ac) (c ct v:Aa),bindArgs (HG "law" "law" (IG st) (FQ st) (Zm st) .none kV b i j c ct) ⟨[v],[]⟩=AK [(("_law_script":Ae),v)]):
  ∃fd:Bi,(∀(s:Ab) (v:Aa),BindsTo s fd ⟨[v],[]⟩ [("_law_script",v)])/\∀base:Am,K.In base->base.Ns Dq mg->Ax l.prog w K mg base Bh n f fd ["_law_script"] (Lj K):=by
 cases d.symm.trans q.m
 obtain⟨p,r,kV,b,i,j,c,ct,k,rfl,t,o⟩:=q.F.ex
 exact⟨_,λs v=>.of_eq (e _ _ _ _ _ _ _),λbase _ _=>je (G base) h⟩
theorem BV{N P:List Ae}{a:Scope}(b:a.kind=.function:=by rfl)(c:a.isCoroutine=false:=by rfl)(d:a.isGenerator=false:=by rfl)(e:N.Nodup:=by decide +kernel)(f:N.take P.length=P:=by rfl)
  (g:∀x∈P,a.names.lookup x=some .local\/a.names.lookup x=some .cell:=by decide +kernel) (h:∀y∈a.names,y.2≠.free:=by decide +kernel):ZE N P a:=⟨b,c,d,e,f,g,h⟩
theorem CQ(own a:List Ae){b:Scope}(c:Scope)(d:b.kind=.function:=by rfl)(e:∀x∈b.names,x.2≠.cell:=by decide +kernel)(f:∀x∈b.names,x.2=.free->c.names.lookup x.1=some .cell\/c.names.lookup x.1=some .free:=by decide +kernel)
  (g:∀x∈b.names,x.2=.local->b.names.lookup x.1=some .local:=by decide +kernel) (h:∀x∈a,b.names.lookup x=some .free:=by decide +kernel) (i:(own++a).Nodup:=by decide +kernel):Ha own a b c:=⟨d,e,f,g,h,i⟩
theorem B4(L:List Ae)(h:L.Nodup:=by decide +kernel):L.Nodup:=h
section
variable{X:Cx}{K:Ar}{M:Fb}{H0:Hp}{k n:Nat}{fn:Ac}{fd:Bi}{ps:List Ae}{x nm:Ae}{st:Au}{F:List Sl->Option Rv}{e a b:Expr}{es:List Expr}{fa:VE->Option (List Sl)}{p pos:A5}{f g:VE->Option D}
theorem Zs(G:Ax X.prog X.w X.K X.mg X.base Bh k fn fd ps (Bu K F))(d:Bd n X.A)(D:DI X.K X.mg x st ps fn fd)(f:JA X (e::es) (Dh K M H0 fa))(g:k<=n:=by decide)(h:Gl X x:=by rfl)(a:(x==("__debug__":Ae))=false:=by decide)
  (i:AN (e::es) X.env=(false,Ay e X.env)::AN es X.env:=by exact Dx (λ_ _ z=>nomatch z)) (c:(AR pos (AN es X.env)).any (·.1)=false:=by rfl):JE X (.Call (.Name x p) (e::es) [] pos) (tD K M H0 (Zq F fa)):=
 iM G (d.mono g) h D.m D.F.kp D.b (E:=E0) VR f a i c
theorem NU(G:Ax X.prog X.w X.K X.mg X.base Bh k fn fd ps (Bu K F))(d:Bd n X.A)(D:DI X.K X.mg x st ps fn fd)(f:JA X (e::es) (Dh K M H0 fa))(g:k<=n:=by decide)(h:Gl X x:=by rfl)(a:(x==("__debug__":Ae))=false:=by decide)
  (i:AN (e::es) X.env=(false,Ay e X.env)::AN es X.env:=by exact Dx (λ_ _ z=>nomatch z)) (c:(AR pos (AN es X.env)).any (·.1)=false:=by rfl):JE X (.Call (.Name x p) (e::es) [] pos) (tF K M H0 (FW F fa)):=
 iN G (d.mono g) h D.m D.F.kp D.b (E:=E0) VR f a i c
theorem Zp {i j pos}:JE X (.Constant (.int i) j pos) (tP K M H0 λ_=>some (.int i)):=Ap ZN
theorem Zj(c:JE X a (tP X.K M H0 f))(d:JE X b (tP X.K M H0 g))(e:JP b:=by exact λ_ _=>rfl):JE X (.Subscript a b pos) (tD X.K M H0 (Ze Aw f g)):=jm c d e
theorem Zo(i:Nat){x:Ae}(a:X.N.Nodup)(b:X.N[i]?=some x:=by rfl)(c:Loc X.env.scope x:=by first|exact .inl rfl|exact .inr rfl)(d:X.fn x=true\/X.env.scope.names.lookup x=some .local:=by first|exact .inl rfl|exact .inr rfl|assumption):
  JG X (.Name x pos) (tG K M H0 [i] (Zl i)):=iV a b c d
theorem Zu(i:Nat){x:Ae}{a:A5}(b:X.N.Nodup)(c:JE X e (tD K M H0 f))(d:X.N[i]?=some x:=by rfl)(g:Loc X.env.scope x:=by first|exact .inl rfl|exact .inr rfl)(h:E6 e (some (.Name x a)) pos.line X.env=AK false:=by rfl)
  (j:X.fn x=true\/X.env.scope.names.lookup x=some .local:=by first|exact .inl rfl|exact .inr rfl|assumption):JS X (.Assign [.Name x a] e pos) (tS K M H0 λρ=>Zx i (f ρ) ρ):=iT b d g c h j
theorem ZR{P:AY}{w:Ai}{mg:Ae->Option Aa}{base:Am}{N:List Ae}{g c:VE->Ao}(D:DI K mg nm st ps fn fd)(S:ZE N ps (Zm st))
  (d:∀(a:Aa) (A:Aj) (outer:List Env) (s:Ab) (H:Hp) (E:XK) (M:Fb) (H0:Hp),Bd k (A.deeper (envOfC nm (Zm st) s.heap.objs.size fn a)) ->
   JB (Gd Bh P w K mg base N nm (Zm st) fn a A outer s H E).nox (FQ st) (tS K M H0 c)) (e:c=g:=by rfl) (b:ps.length<=N.length:=by decide):Ax P w K mg base Bh (k+1) fn fd ps (Bu K (Bn ps.length N.length g)):=
 jd D.F S b (e ▸ d)
end
end L2
namespace L2
open PySem PySem.Spec PyProof.Rows PySem.W
def M3(M:Fb)(a:Ac)(bs:List Ac):Fb:=λx=>M x\/x=a\/x∈bs
structure BY(K:Ar)(M:Fb)(H0:Hp)(k:Nat)(a:Ac)(bs:List Ac)(ρ:VE)(zs:List (List D))(σ:St)(H:Hp):Prop where
 rel:Bw K (M3 M a bs) H0 ρ σ H
 pin:ρ[k]?=some (.pin a)
 out:H a=some (.lst (bs.map V.ref))
 len:bs.length=zs.length
 ins:∀(i:Nat) (b:Ac) (z:List D),bs[i]?=some b->zs[i]?=some z->∃vs,H b=some (.lst vs)/\Ad K (Nf (M3 M a bs) ρ σ) H z vs
 nd:bs.Nodup
 ne:a∉bs
 fr:∀x,x=a\/x∈bs->H0 x=none/\¬ M x
section
variable{K:Ar}{M:Fb}{H0 H H':Hp}{k:Nat}{a b:Ac}{bs:List Ac}{ρ:VE}{σ:St}{zs:List (List D)}
theorem Ya(fr:∀x,x=a\/x∈bs->H0 x=none/\¬ M x){x:Ac}(h:M3 M a bs x)(b:H0 x≠none):M x:=by
 rcases h with h|h
 ·exact h
 ·exact absurd (fr x h).1 b
theorem mQ{vs ws:List V}(f:b∈bs)(g:¬ M b)(h:H b=some (.lst vs)):Step M (Nf (M3 M a bs) ρ σ) (Nf (M3 M a bs) ρ σ) H (AU H b (.lst ws)) where
 kp:=λc o e z=>by
  by_cases d:c=b
  ·subst d
   rcases z with z|z|z
   ·exact absurd (.inl (.inr (.inr f))) z
   ·exact absurd z g
   ·rw[h]at e;cases e;cases z
  ·rw[ZB d];exact e
 nw:=λ_ h=>.inl h
theorem BY.back(R:BY K M H0 k a bs ρ zs σ H):Bw K M H0 ρ σ H where
 len:=R.rel.len
 same:=R.rel.same
 mh:=λx h=>R.rel.mh x (.inl h)
 slot:=λi s e=>by
  have q:=R.rel.slot i s e
  have g:∀x,Nf M ρ σ x->Nf (M3 M a bs) ρ σ x:=λx h=>h.imp .inl id
  cases s with
  |no=>trivial
  |val d=>obtain⟨v,e,h⟩:=q;exact⟨v,e,h.nw λx b=>.inl (g x b)⟩
  |own m n=>obtain⟨c,vs,e,f,j,l,o⟩:=q;exact⟨c,vs,e,f,λz=>j (.inl z),l,o.nw λx b=>.inl (g x b)⟩
  |lent m n=>obtain⟨c,vs,e,f,j,l⟩:=q;exact⟨c,vs,e,⟨Ya R.fr f.1 f.2,f.2⟩,j,l.nw λx b=>.inl (g x b)⟩
  |exc c=>exact q
  |pin c=>exact q
 inj:=R.rel.inj
theorem BY.app(R:BY K M H0 k a bs ρ zs σ H){i:Nat}{z:List D}{vs:List V}{d:D}{v:V}(t:bs[i]?=some b)(hz:zs[i]?=some z)(h:H b=some (.lst vs))(hd:AF K (Nf (M3 M a bs) ρ σ) H d v)(G:Ad K (Nf (M3 M a bs) ρ σ) H z vs):
  BY K M H0 k a bs ρ (zs.set i (z++[d])) σ (AU H b (.lst (vs++[v])))/\Step M (Nf (M3 M a bs) ρ σ) (Nf (M3 M a bs) ρ σ) H (AU H b (.lst (vs++[v]))):=by
 have g:b∈bs:=Ei t
 obtain⟨I,J⟩:=R.fr b (.inr g)
 have S:Step M (Nf (M3 M a bs) ρ σ) (Nf (M3 M a bs) ρ σ) H (AU H b (.lst (vs++[v]))):=mQ g J h
 have u:a≠b:=λe=>R.ne (e ▸ g)
 refine⟨⟨⟨R.rel.len,λx o e=>?_,λx L=>?_,λj s e=>?_,R.rel.inj⟩,R.pin,?_,by rw[Nc];exact R.len,λj c y l r=>?_,R.nd,R.ne,R.fr⟩,S⟩
 ·have m:=R.rel.same x o e
  have:x≠b:=λz=>by rw[z,I]at e;cases e
  rw[ZB this];exact m
 ·by_cases l:x=b
  ·rw[l,Z7];exact λz=>nomatch z
  ·rw[ZB l];exact R.rel.mh x L
 ·have q:=R.rel.slot j s e
  cases s with
  |no=>trivial
  |val U=>obtain⟨w,m,f⟩:=q;exact⟨w,m,AF.step S _ _ f⟩
  |own N O=>
   obtain⟨c,p,m,f,n,A,Q⟩:=q
   have:c≠b:=λz=>n (.inr (.inr (z ▸ g)))
   exact⟨c,p,m,f,n,by rw[ZB this];exact A,Ad.step S _ _ Q⟩
  |lent N O=>obtain⟨c,p,m,f,n,A⟩:=q;exact⟨c,p,m,f,n.step S (.inr (.inl (Ya R.fr f.1 f.2))),Ad.step S _ _ A⟩
  |exc c=>obtain⟨x,C,m,f,n⟩:=q;exact⟨x,C,m,f,S.kp _ _ n (.inr (.inr rfl))⟩
  |pin c=>exact q
 ·rw[ZB u];exact R.out
 ·by_cases B:j=i
  ·subst B
   have T:c=b:=by rw[t]at l;cases l;rfl
   have E:j<zs.length:=(List.getElem?_eq_some_iff.mp hz).1
   rw[Fl E]at r
   cases r
   rw[T]
   exact⟨_,Z7,Ad.step S _ _ (G.append (Ad.cons hd Ad.nil))⟩
  ·rw[Er (λe=>B e.symm)]at r
   obtain⟨p,f,n⟩:=R.ins j c y l r
   have:c≠b:=λz=>by
    rw[z]at l
    exact B ((List.getElem?_inj (List.getElem?_eq_some_iff.mp l).1 R.nd).mp (l.trans t.symm))
   exact⟨p,by rw[ZB this];exact f,Ad.step S _ _ n⟩
end
inductive Do where
 |fail|next(ρ:VE) (zs:List (List D))|ret (r:Rv)
def D5(K:Ar)(M:Fb)(e:Hp)(k:Nat)(a:Ac)(bs:List Ac)(ρ:VE)(σ:St)(H:Hp)(D:Ends):Do->Prop
 |.fail=>False
 |.next d f=>∀b c,BY K M e k a bs d f b c->Step M (Nf (M3 M a bs) ρ σ) (Nf (M3 M a bs) d b) H c->D.nx b c
 |.ret r=>∀v c,Ak e c->IQ K M e c r v->D.rt v c
def tN(K:Ar)(M:Fb)(c:Hp)(k:Nat)(g:VE->List (List D)->Do):TS:=λD d H=>∃a bs b e,BY K M c k a bs b e d H/\D5 K M c k a bs b d H D (g b e)
@[simp] def F1(r:Do)(g:VE->List (List D)->Do):Do:=match r with
  |.next a b=>g a b
  |r=>r
@[simp] def Ii(k:Nat)(ρ:VE)(r:Ao)(d:List (List D)):Do:=match r with
  |.next c=>match ρ[k]?,c[k]? with
   |some (.pin a),some (.pin b)=>if a=b then .next c d else .fail
   |_,_=>.fail
  |.ret r=>.ret r
  |_=>.fail
section
variable{K:Ar}{M:Fb}{H0 H H':Hp}{k:Nat}{a b:Ac}{bs:List Ac}{ρ ρ' ρ1:VE}{σ σ' σ1:St}{zs:List (List D)}{H1:Hp}{D:Ends}{r:Do}
theorem Step.m3{N b:Fb}(S:Step (M3 M a bs) N b H H'):Step M N b H H':=⟨λc o e z=>S.kp c o e (z.imp id (Or.imp .inl id)),S.nw⟩
theorem D5.from(s:Step M (Nf (M3 M a bs) ρ σ) (Nf (M3 M a bs) ρ1 σ1) H H1)(h:D5 K M H0 k a bs ρ σ H D r):D5 K M H0 k a bs ρ1 σ1 H1 D r:=by
 cases r with
 |fail=>exact h
 |next ρ' b=>exact λσ' H' R S=>h σ' H' R (s.trans S)
 |ret r=>exact h
theorem BY.over(R:BY K M H0 k a bs ρ zs σ H)(d:Bw K (M3 M a bs) H0 ρ' σ' H')(S:Step (M3 M a bs) (Nf (M3 M a bs) ρ σ) (Nf (M3 M a bs) ρ' σ') H H')(e:ρ'[k]?=some (.pin a)):BY K M H0 k a bs ρ' zs σ' H' where
 rel:=d
 pin:=e
 out:=S.kp _ _ R.out (.inr (.inl (.inr (.inl rfl))))
 len:=R.len
 ins:=λi b z c f=>by
  obtain⟨vs,g,h⟩:=R.ins i b z c f
  exact⟨vs,S.kp _ _ g (.inr (.inl (.inr (.inr (Ei c))))),Ad.step S _ _ h⟩
 nd:=R.nd
 ne:=R.ne
 fr:=R.fr
theorem mR{r:Rv}{v:V}(h:IQ K (M3 M a bs) H0 H' r v):IQ K M H0 H' r v:=by
 cases r with
 |val d=>exact AF.nw h λx b=>.inl (.inl b)
 |own j k=>
  obtain⟨c,vs,e,f,g,i⟩:=h
  exact⟨c,vs,e,f,g,i.nw λx b=>.inl (b.imp .inl id)⟩
end
section
variable{X:Cx}{K:Ar}{M:Fb}{H0:Hp}{k:Nat}{st:Au}{Z8:List Au}{g:VE->Ao}{g1 g2:VE->List (List D)->Do}{pos:A5}
theorem mS(h:∀M,PS X st (tS K M H0 g)):PS X st (tN K M H0 k λρ j=>Ii k ρ (g ρ) j):=λb s m H D I ⟨a,bs,ρ,j,R,q⟩=>by
 refine h (M3 M a bs) b s m H D I ⟨ρ,R.rel,?_⟩
 have n:=R.pin
 simp only[Ii]at q
 cases c:g ρ with
 |fail=>rw[c]at q;exact q
 |brk d=>rw[c]at q;exact BB q
 |cont d=>rw[c]at q;exact BB q
 |ret r=>rw[c]at q;exact λv f o p=>q v f o (mR p)
 |next d=>
  rw[c]at q
  simp only[n]at q
  split at q
  ·next x y t u=>
   split at q
   ·next e=>
    cases t
    subst e
    exact λi f w l=>q i f (R.over w l u) l.m3
   ·exact BB q
  ·exact BB q
end
def tU(K:Ar)(M:Fb)(d:Hp)(f:VE->Option (List D)):TI:=λe H R=>∃b c,Bw K M d b e H/\f b=some c/\∀J a,Ak H a->(∀M N,J2 K M N a J c)->R J a
def Jk(b:D->VE->Option VE)(k:Nat)(g:VE->List (List D)->Do):List D->VE->List (List D)->Do
 |[],f,h=>.next f h
 |d::i,f,h=>match b d f with
  |none=>.fail
  |some e=>match f[k]?,e[k]? with
   |some (.pin a),some (.pin c)=>if a=c then F1 (g e h) (Jk b k g i)else .fail
   |_,_=>.fail
@[simp] def forM(f:VE->Option (List D))(b:D->VE->Option VE)(k:Nat)(g:VE->List (List D)->Do):VE->List (List D)->Do:=λa c=>match f a with
  |some d=>Jk b k g d a c
  |none=>.fail
section
variable{X:Cx}{K:Ar}{M:Fb}{H0:Hp}{k:Nat}{tg iter:Expr}{body:List Au}{f:VE->Option (List D)}{b:D->VE->Option VE}{g:VE->List (List D)->Do}{pos:A5}
structure JU(X:Cx)(tg e:Expr)(t:TI):Prop where h:PI X tg e t
theorem mT{ws:List Nat}(hp:PassesOwn (Af X.prog X.w) X.A X.env X.xe)(hc:X.calm=true)(hi:∀M,JU X tg iter (tU K M H0 f))(hg:∀M,JG X tg (tG K M H0 ws b))(hb:JB X body (tN K M H0 k g))
  (hs:∀x,HF iter X.env x=AK x:=by intro _;rfl):JS X (.For tg iter body [] pos) (tN K M H0 k (forM f b k g)):=⟨λn s B H D' I ⟨a,bs,O,zs,R,q⟩=>by
 have hgt:PG X tg (λv B H Q=>∃M,tG K M H0 ws b v B H Q):=λn s B H v u Q I r ⟨M,h⟩=>(hg M).h n s B H v u Q I r h
 refine Vf hp hc (hi (M3 M a bs)).h hgt hb.h hs n s B H D' I ?_
 unfold forM at q
 cases hf:f O with
 |none=>rw[hf]at q;exact BB q
 |some l=>
  rw[hf]at q
  refine⟨O,l,R.rel,hf,λJ H1 s1 ok=>?_⟩
  have RN1:BY K M H0 k a bs O zs B H1:=R.over (R.rel.st s1) (Step.of_same s1) R.pin
  refine⟨λi m j T=>m=l.length-i/\i<=l.length/\∃c o,BY K M H0 k a bs c o j T/\Step M (Nf (M3 M a bs) O B) (Nf (M3 M a bs) c j) H1 T/\D5 K M H0 k a bs c j T D' (Jk b k g (l.drop i) c o),⟨l.length,by simp,Gj _,O,zs,RN1,Step.refl,?_⟩,?_⟩
  ·exact D5.from (Step.of_same s1) q
  ·rintro i m j T ⟨rfl,hle,c,o,U,Si,d⟩
   obtain⟨ok1,ok2⟩:=ok M _ _ _ Si i
   by_cases E:i<l.length
   ·obtain⟨go,y⟩:=ok1 l[i] (Cu E)
    rw[M4 E]at d
    simp only[Jk]at d
    refine .inr ⟨go,λp C=>i+1<=l.length/\∃c o,BY K M H0 k a bs c o p C/\Step M (Nf (M3 M a bs) O B) (Nf (M3 M a bs) c p) H1 C/\D5 K M H0 k a bs c p C D' (Jk b k g (l.drop (i+1)) c o),λp C z=>⟨l.length-(i+1),by omega,rfl,z⟩,λx C yl=>?_⟩
    obtain⟨s3,hd⟩:=y x C yl
    cases G:b l[i] c with
    |none=>rw[G]at d;exact BB d
    |some t=>
     rw[G]at d
     simp only[U.pin]at d
     split at d
     ·next x1 y1 e1 e2=>
      split at d
      ·next e=>
       cases e1
       subst e
       have Y:BY K M H0 k _ bs c o j C:=U.over (U.rel.st s3) (Step.of_same s3) U.pin
       refine⟨_,c,l[i],t,Y.rel,hd,G,λσ1 R1 S1 _=>?_⟩
       have RN:BY K M H0 k _ bs t o σ1 C:=Y.over R1 S1 e2
       have S01:=(Step.of_same (M:=M) (N:=Nf (M3 M _ bs) c j) s3).trans S1.m3
       refine⟨_,bs,t,o,RN,?_⟩
       cases L:g t o with
       |fail=>rw[L]at d;exact d
       |next ρ2 z2=>rw[L]at d;exact λσ2 H2 R2 S2=>⟨E,ρ2,z2,R2,Si.trans (S01.trans S2),D5.from (S01.trans S2) d⟩
       |ret r=>rw[L]at d;exact d
      ·exact BB d
     ·exact BB d
   ·have e:i=l.length:=by omega
    rw[M0 (by omega)]at d
    exact .inl ⟨ok2 e,d j T U Step.refl⟩⟩
end
@[simp] def Ij(j:Nat)(o:Option D)(ρ:VE)(a:List (List D)):Do:=match a[j]?,o with
  |some z,some d=>if z.length<AG/\a.length<1000 then .next ρ (a.set j (z++[d]))else .fail
  |_,_=>.fail
section
variable{X:Cx}{M:Fb}{H0:Hp}{k:Nat}{e:Expr}{f:VE->Option D}{pos:A5}
theorem Yb{j o:Nat}{x:Ae}{g l b c i:A5}(Y:X.N[k]?=some x)(hv:Dr X.env.scope x)(he:∀M,JE X e (tD X.K M H0 f))(hx:JP (.Constant (.int (j:Int)) o c))(hd:(x==("__debug__":Ae))=false:=by decide)(B:(x==("__classdict__":Ae))=false:=by decide)
  (hs:E6 (.Call (.Attribute (.Subscript (.Name x g) (.Constant (.int (j:Int)) o c) i) "append" l) [e] [] b) none pos.line X.env=AK false:=by rfl)
  (m:Lf (.Subscript (.Name x g) (.Constant (.int (j:Int)) o c) i) "append" X.env (Ay (.Subscript (.Name x g) (.Constant (.int (j:Int)) o c) i) X.env)=Ay (.Subscript (.Name x g) (.Constant (.int (j:Int)) o c) i) X.env:=by rfl)
  (t:((AR b (AN [e] X.env)).all (λx=>!x.1)&&(backToKw b (IC [] X.env)).all (λx=>x.1.isSome)
   && decide ([e].length+([]:List BE).length+(if([]:List BE).isEmpty then 0 else 1)<30))=true:=by rfl)
  (n:(l.endLine==b.line)=true:=by rfl) (u:AN [e] X.env=(false,Ay e X.env)::AN [] X.env:=by rfl) (C:(AR b (AN [] X.env)).any (·.1)=false:=by rfl):
  JS X (.Expr (.Call (.Attribute (.Subscript (.Name x g) (.Constant (.int (j:Int)) o c) i) "append" l) [e] [] b) pos) (tN X.K M H0 k λρ A=>Ij j (f ρ) ρ A):=⟨λw s E H D' I ⟨a,bs,ρ,A,R,q⟩=>by
 refine Qm (Le PySem.F.plainAttrs_list PySem.F.slot_list_append PySem.F.type_list_append VQ (VI VO (FM Y hv hd B) UY hx) (DE (he (M3 M a bs)).h Bt u) m t n u C) hs w s E H D' I ?_
 try dsimp only at q
 cases p:A[j]? with
 |none=>simp only[p,Ij]at q;exact BB q
 |some z=>
  cases G:f ρ with
  |none=>simp only[p,G,Ij]at q;exact BB q
  |some d=>
   simp only[p,G,Ij]at q
   split at q
   ·next J=>
    have hj:j<bs.length:=by rw[R.len];exact(List.getElem?_eq_some_iff.mp p).1
    have L:bs[j]?=some bs[j]:=Cu hj
    obtain⟨vs,O,U⟩:=R.ins j _ z L p
    have y:=R.rel.slot k _ R.pin
    have ha:E[k]?=some (some (.ref a)):=AJ y
    have Q:atI (bs.map V.ref) (j:Int)=some (V.ref bs[j]):=DV (by rw[C1,L];rfl)
    refine⟨.ref a,ha,.inl ⟨a,bs.map V.ref,(j:Int),V.ref bs[j],rfl,rfl,.inl (.inl R.out),Q,?_⟩⟩
    refine⟨.inl ⟨rfl,vs,.inl (.inl O)⟩,ρ,d,R.rel,G,λv H1 r T=>?_⟩
    have R1:BY X.K M H0 k a bs ρ A E H1:=R.over (R.rel.st r) (Step.of_same r) R.pin
    obtain⟨R2,S2⟩:=R1.app L p (r _ _ O) T (U.same r)
    exact⟨bs[j],vs,v,rfl,rfl,r _ _ O,by rw[<- U.length];exact J.1,q _ _ R2 ((Step.of_same r).trans S2)⟩
   ·exact BB q⟩
end
@[simp] def RM(r:Ao):Do:=match r with
  |.ret r=>.ret r
  |_=>.fail
@[simp] def RO(r:Do):Ao:=match r with
  |.ret r=>.ret r
  |_=>.fail
def Jl(h:Ac->Ao):Ao:=@ite _ (∀a,h a=h 0) (HM _) (h 0) .fail
theorem mU{h:Ac->Ao}{r:Ao}(e:∀a,h a=r):Jl h=r:=by
 unfold Jl
 rw[@if_pos _ (HM _) λa=>(e a).trans (e 0).symm];exact e 0
theorem mV{h:Ac->Ao}(e:Jl h≠.fail)(a:Ac):h a=Jl h:=by
 unfold Jl at e ⊢
 by_cases p:∀a,h a=h 0
 ·rw[@if_pos _ (HM _) p];exact p a
 ·rw[@if_neg _ (HM _) p]at e;exact absurd rfl e
section
variable{X:Cx}{K:Ar}{M:Fb}{H0 H:Hp}{k:Nat}{Z8:List Au}{g:VE->Ao}{gn:VE->List (List D)->Do}{pos:A5}{a:Ac}{bs:List Ac}{ρ:VE}{σ:St}{zs:List (List D)}
theorem BY.free(R:BY K M H0 k a bs ρ zs σ H){x:Ac}(b:x=a\/x∈bs):¬ Nf M ρ σ x:=by
 rintro(h|⟨i,j,l,d,f⟩)
 ·exact(R.fr x b).2 h
 ·obtain⟨c,vs,e,_,z,_⟩:=R.rel.slot i _ d
  rw[f]at e
  have g:c=x:=by simpa using e.symm
  exact z (g ▸ .inr b)
theorem BY.inner(R:BY K M H0 k a bs ρ zs σ H):∀(d:List Ac)(ys:List (List D)),d.length=ys.length->(∀(i:Nat)(b:Ac)(z:List D),d[i]?=some b->ys[i]?=some z->b∈bs/\∃vs,H b=some (.lst vs)/\Ad K (Nf (M3 M a bs) ρ σ) H z vs)->Ad K (Nf M ρ σ) H (ys.map λz=>D.lst z) (d.map V.ref)
 |[],[],_,_=>Ad.nil
 |b::d,z::ys,e,h=>by
  obtain⟨f,vs,g,j⟩:=h 0 b z rfl rfl
  refine Ad.cons ?_ (R.inner d ys (by simpa using e) λi c y l m=>h (i+1) c y l m)
  simp only[AF]
  exact⟨b,vs,rfl,.of (R.free (.inr f)) g,j.nw λx n=>.inl (n.imp .inl id)⟩
@[simp] def RQ(k:Nat)(g:VE->List (List D)->Do)(ρ:VE):Ao:=match ρ[k]? with
  |some .no=>Jl λa=>RO (g (ρ.set k (.pin a)) [[],[]])
  |_=>.fail
theorem RS{H:Hp}{p:Ac}{o:HO}(h:H p=none):Ak H (AU H p o):=λx u e=>by
 have:x≠p:=λz=>by rw[z,h]at e;cases e
 rw[ZB this];exact e
theorem RU{H:Hp}{p x:Ac}{o:HO}(h:AU H p o x=none):x≠p/\H x=none:=by
 by_cases e:x=p
 ·rw[e,Z7]at h;cases h
 ·rw[ZB e]at h;exact⟨e,h⟩
end
section
variable{X:Cx}{K:Ar}{M:Fb}{H0:Hp}{k:Nat}{st:Au}{Z8 body:List Au}{g:VE->Ao}{g1 g2 gn:VE->List (List D)->Do}{pos:A5}{e tg iter a:Expr}{f:VE->Option D}{fl:VE->Option (List D)}{b:D->VE->Option VE}
theorem RV(h:∀M,JS X st (tS K M H0 g)):JS X st (tN K M H0 k λρ a=>Ii k ρ (g ρ) a):=⟨mS λM=>(h M).h⟩
theorem Kr(c:JS X st (tN K M H0 k g1))(d:JB X Z8 (tN K M H0 k g2)):JB X (st::Z8) (tN K M H0 k λρ b=>F1 (g1 ρ b) g2):=⟨have c:=c.h;have d:=d.h;(Ql c d).mono λD m H ⟨a,bs,ρ,b,R,q⟩=>by
 try dsimp only at q
 refine⟨a,bs,ρ,b,R,?_⟩
 cases e:g1 ρ b with
 |fail=>rw[e]at q;exact q
 |next f g=>rw[e]at q;exact λi n j l=>⟨a,bs,f,g,j,D5.from l q⟩
 |ret r=>rw[e]at q;exact q⟩
theorem mW:JB X [] (tN K M H0 k λρ b=>.next ρ b):=⟨E5.mono λD c H ⟨a,bs,ρ,b,R,q⟩=>q c H R Step.refl⟩
theorem mX{b:VE->Option (List Sl)}{p:A5}(i:Gl X "range")(k:X.mg "range"=none)(c:JA X [a] (Dh K M H0 b))(m:AN [a] X.env=[(false,Ay a X.env)]:=by rfl):JU X tg (.Call (.Name "range" p) [a] [] pos) (tU K M H0 λρ=>((b ρ).bind Zt).bind Ev):=⟨have c:=c.h;(Vc i k c m).mono λx H y ⟨ρ,z,R,e,q⟩=>by
  try dsimp only at e q
  cases d:b ρ with
  |none=>rw[d]at e;cases e
  |some g=>
   rw[d]at e
   cases f:Zt g with
   |none=>simp only[AA,f]at e;cases e
   |some l=>
    simp only[AA,f]at e
    unfold Ev at e
    split at e
    ·next j=>
     obtain⟨A,e⟩:=Nh e
     cases e
     refine⟨ρ,g,R,d,λvs n o s=>?_⟩
     have hd:=JZ s f
     simp only[Ad,AF]at hd
     obtain⟨v,r,t,u,w⟩:=hd
     subst t u w
     exact⟨j,rfl,by omega,by omega,q _ n o λ_ _=>QS⟩
    ·cases e⟩
theorem mY(h:JB X Z8 (tS K M H0 g)):JB X Z8 (tN K M H0 k λρ c=>RM (g (ρ.set k (.val (.lst (c.map λz=>D.lst z)))))):=⟨have h:=h.h;λd s f H v I ⟨a,bs,ρ,c,R,q⟩=>by
 have n:f[k]?=some (some (.ref a)):=AJ (R.rel.slot k _ R.pin)
 have hd:AF K (Nf M ρ f) H (.lst (c.map λz=>D.lst z)) (.ref a):=by
  simp only[AF]
  exact⟨a,bs.map V.ref,rfl,.of (R.free (.inl rfl)) R.out,R.inner bs c R.len λi b z o w=>⟨Ei o,R.ins i b z o w⟩⟩
 obtain⟨p,_⟩:=R.back.setV (i:=k) (Ak.refl H) hd
 have l:f.set k (some (.ref a))=f:=by
  refine HK λj=>?_
  by_cases t:j=k
  ·subst t
   have m:=(List.getElem?_eq_some_iff.mp n).1
   rw[Fl m,n]
  ·rw[Er (λe=>t e.symm)]
 rw[l]at p
 refine h d s f H v I ⟨_,p,?_⟩
 try dsimp only at q
 cases u:g (ρ.set k (.val (.lst (c.map λz=>D.lst z))))with
 |ret r=>rw[u]at q;exact q
 |_=>rw[u]at q;exact BB q⟩
theorem mZ{x:Ae}{o O t p3:A5}(hN:X.N.Nodup)(hi:X.N[k]?=some x)(hx:Loc X.env.scope x)(T:JB X Z8 (tN K M H0 k gn))
  (U:AN [.List [] O,.List [] t] X.env=(false,Ay (.List [] O) X.env)::AN [.List [] t] X.env:=by rfl) (Y:AN [.List [] t] X.env=(false,Ay (.List [] t) X.env)::AN [] X.env:=by rfl)
  (hs:E6 (.List [.List [] O,.List [] t] p3) (some (.Name x o)) pos.line X.env=AK false:=by rfl) (hf:X.fn x=true\/X.env.scope.names.lookup x=some .local:=by first|exact .inl rfl|exact .inr rfl|assumption):
  JB X (.Assign [.Name x o] (.List [.List [] O,.List [] t] p3) pos::Z8) (tS K M H0 (RQ k gn)):=⟨have T:=T.h;(Ql (K2 hN hi hx (MU (DE (MU Bt) (DE (MU Bt) Bt Y) U)) hs hf) T).mono λD' u H ⟨w,R,q⟩=>by
 try dsimp only at q
 unfold RQ at q
 split at q
 ·next hk=>
  have hne:Jl (λa=>RO (gn (w.set k (.pin a)) [[],[]]))≠.fail:=λz=>by rw[z]at q;exact q
  refine⟨Gj _,λg h0=>⟨Gj _,λb1 h1=>⟨by show 2<=AG;decide,λa h2=>?_⟩⟩⟩
  obtain⟨n1,h1'⟩:=RU h1
  obtain⟨n2,h2'⟩:=RU h2
  obtain⟨n3,A⟩:=RU h2'
  have f:k<w.length:=(List.getElem?_eq_some_iff.mp hk).1
  have hks:k<u.length:=by rw[<- R.len];exact f
  have m:Ak H (AU (AU (AU H g (.lst [])) b1 (.lst [])) a (.lst [.ref g,.ref b1])):=((RS h0).trans (RS h1)).trans (RS h2)
  have hH0:∀y,H y=none->H0 y=none:=λy n=>R.same.free n
  have fresh:∀y,y=a\/y∈[g,b1]->H y=none:=λy n=>by
   simp only[Br,Fv,or_false]at n
   rcases n with rfl|rfl|rfl
   ·exact A
   ·exact h0
   ·exact h1'
  generalize p:AU (AU (AU H g (.lst [])) b1 (.lst [])) a (.lst [.ref g,.ref b1])=Q at m
  have e0:Q g=some (.lst []):=by rw[<- p,ZB (λz=>n3 z.symm),ZB (λz=>n1 z.symm),Z7]
  have l:Q b1=some (.lst []):=by rw[<- p,ZB (λz=>n2 z.symm),Z7]
  have e2:Q a=some (.lst [.ref g,.ref b1]):=by rw[<- p,Z7]
  have nf:∀y,Nf (M3 M a [g,b1]) (w.set k (.pin a)) (u.set k (some (.ref a))) y->Nf M w u y\/H y=none:=by
   rintro y ((h|h)|⟨i,B,fl,z1,z2⟩)
   ·exact .inl (.inl h)
   ·exact .inr (fresh y h)
   ·by_cases E:k=i
    ·subst E;rw[Fl f]at z1;cases z1
    ·rw[Er E]at z1 z2;exact .inl (.inr ⟨i,B,fl,z1,z2⟩)
  have RN:BY K M H0 k a [g,b1] (w.set k (.pin a)) [[],[]] (u.set k (some (.ref a))) Q:=by
   refine⟨⟨by rw[Nc,Nc];exact R.len,R.same.trans m,λy n=>?_,λj s e=>?_,λi j B ys fl fl' c z1 z2 z3 z4=>?_⟩,Fl f,e2,rfl,λi b z G I=>?_,?_,?_,λy n=>⟨hH0 y (fresh y n),λhM=>R.mh y hM (fresh y n)⟩⟩
   ·rcases n with h|rfl|h
    ·exact λz=>R.mh y h (m.free z)
    ·rw[e2];exact λz=>nomatch z
    ·simp only[Br,Fv,or_false]at h
     rcases h with rfl|rfl
     ·rw[e0];exact λz=>nomatch z
     ·rw[l];exact λz=>nomatch z
   ·by_cases J:k=j
    ·subst J
     rw[Fl f]at e
     cases e
     show(u.set k (some (V.ref a)))[k]?.join=some (.ref a)
     rw[Fl hks];rfl
    ·rw[Er J]at e ⊢
     have L:=R.slot j s e
     cases s with
     |no=>trivial
     |val d=>obtain⟨v,l,h⟩:=L;exact⟨v,l,(h.nw nf).same m⟩
     |own B fl=>
      obtain⟨c,vs,l,z1,z2,z3,z4⟩:=L
      refine⟨c,vs,l,z1,λz=>?_,m _ _ z3,(z4.nw nf).same m⟩
      rcases z with z|z
      ·exact z2 z
      ·rw[fresh c z]at z3;cases z3
     |lent B fl=>obtain⟨c,vs,l,z1,z2,z3⟩:=L;exact⟨c,vs,l,⟨.inl z1.1,z1.2⟩,z2.same m,(z3.nw nf).same m⟩
     |exc c=>obtain⟨y,C,l,z1,z2⟩:=L;exact⟨y,C,l,z1,m _ _ z2⟩
     |pin c=>exact L
   ·have w1:¬ k=i:=λz=>by subst z;rw[Fl f]at z1;cases z1
    have w2:¬ k=j:=λz=>by subst z;rw[Fl f]at z2;cases z2
    rw[Er w1]at z1 z3
    rw[Er w2]at z2 z4
    exact R.inj i j B ys fl fl' c z1 z2 z3 z4
   ·match i,G,I with
    |0,G,I=>cases G;cases I;exact⟨[],e0,Ad.nil⟩
    |1,G,I=>cases G;cases I;exact⟨[],l,Ad.nil⟩
   ·simp only[EQ,Fx,Fv,not_false_eq_true,List.nodup_nil,and_true]
    exact λz=>n1 z.symm
   ·simp only[Br,Fv,or_false,not_or]
    exact⟨n3,n2⟩
  show tN K M H0 k gn D' (u.set k (some (.ref a))) _
  refine⟨a,[g,b1],_,_,RN,?_⟩
  have ea:=mV hne a
  rw[<- ea]at q
  cases hg:gn (w.set k (.pin a)) [[],[]]with
  |ret r=>rw[hg]at q;exact q
  |_=>rw[hg]at q;exact BB q
 ·exact BB q⟩
end
theorem m4(own a:List Ae){X:Cx}{d b:List Ae}{e c:Scope}{C:Ac}{g:Ab}{h:Hp}{i:List Ac}{f:List (Ac×AM)}(j:c.kind=.function:=by rfl)(k:∀x∈c.names,x.2≠.cell:=by decide +kernel)
  (l:∀x∈c.names,x.2=.free->e.names.lookup x.1=some .free:=by decide +kernel) (m:∀x∈c.names,x.2=.local->c.names.lookup x.1=some .local:=by decide +kernel) (n:∀x∈a,c.names.lookup x=some .free:=by decide +kernel)
  (o:(own++a).Nodup:=by decide +kernel):Ha own a c (Dg X d b e C g h i f).env.scope:=⟨j,k,λx p q=>B6 (env:=X.env) (l x p q),m,n,o⟩
end L2
namespace L2
open PySem PySem.Spec PyProof.Rows
@[simp] theorem sr(a b:Int):AB (.int a) (.int b)=decide (a=b):=by simp only[AB];by_cases h:a=b<;>simp[h]
@[simp] theorem ss(a b:Ae):AB (.str a) (.str b)=decide (a=b):=by simp only[AB];by_cases h:a=b<;>simp[h]
@[simp] theorem su(a b:Bool):AB (.bl a) (.bl b)=decide (a=b):=by simp only[AB];by_cases h:a=b<;>simp[h]
@[simp] theorem sw:AB .non .non=true:=by simp only[AB]
@[simp] theorem sx(a:Bool)(b:Int):AB (.bl a) (.int b)=decide ((if a then 1 else 0)=b):=by simp only[AB];by_cases h:(if a then 1 else 0)=b<;>simp[h]
@[simp] theorem sy(a:Int)(b:Bool):AB (.int a) (.bl b)=decide (a=(if b then 1 else 0)):=by simp only[AB];by_cases h:a=(if b then 1 else 0)<;>simp[h]
@[simp] theorem sB(a:Int)(b:Ae):AB (.int a) (.str b)=false:=by simp only[AB]
@[simp] theorem sC(a:Ae)(b:Int):AB (.str a) (.int b)=false:=by simp only[AB]
@[simp] theorem sD(a:Bool)(b:Ae):AB (.bl a) (.str b)=false:=by simp only[AB]
@[simp] theorem sE(a:Ae)(b:Bool):AB (.str a) (.bl b)=false:=by simp only[AB]
@[simp] theorem sF(b:Int):AB .non (.int b)=false:=by simp only[AB]
@[simp] theorem sG(b:Ae):AB .non (.str b)=false:=by simp only[AB]
@[simp] theorem sH(b:Bool):AB .non (.bl b)=false:=by simp only[AB]
@[simp] theorem sI(b:Int):AB (.int b) .non=false:=by simp only[AB]
@[simp] theorem sJ(b:Ae):AB (.str b) .non=false:=by simp only[AB]
@[simp] theorem sK(b:Bool):AB (.bl b) .non=false:=by simp only[AB]
@[simp] theorem sL(a b:List D):AB (.tup a) (.tup b)=Cr a b:=by simp only[AB]
@[simp] theorem sM(a b:List D):AB (.lst a) (.lst b)=Cr a b:=by simp only[AB]
@[simp] theorem sN(a b:List D):AB (.tup a) (.lst b)=false:=by simp only[AB]
@[simp] theorem sO(a b:List D):AB (.lst a) (.tup b)=false:=by simp only[AB]
@[simp] theorem sP(a:List D)(b:Int):AB (.tup a) (.int b)=false:=by simp only[AB]
@[simp] theorem sQ(a:List D)(b:Ae):AB (.tup a) (.str b)=false:=by simp only[AB]
@[simp] theorem sR(a:List D):AB (.tup a) .non=false:=by simp only[AB]
@[simp] theorem sS(a:List D)(b:Bool):AB (.tup a) (.bl b)=false:=by simp only[AB]
@[simp] theorem sT(a:List D)(b:Int):AB (.int b) (.tup a)=false:=by simp only[AB]
@[simp] theorem sU(a:List D)(b:Ae):AB (.str b) (.tup a)=false:=by simp only[AB]
@[simp] theorem sV(a:List D):AB .non (.tup a)=false:=by simp only[AB]
@[simp] theorem sW(a:List D)(b:Bool):AB (.bl b) (.tup a)=false:=by simp only[AB]
@[simp] theorem sX(a:List D)(b:Int):AB (.lst a) (.int b)=false:=by simp only[AB]
@[simp] theorem sY(a:List D)(b:Ae):AB (.lst a) (.str b)=false:=by simp only[AB]
@[simp] theorem sZ(a:List D):AB (.lst a) .non=false:=by simp only[AB]
@[simp] theorem tf(a:List D)(b:Bool):AB (.lst a) (.bl b)=false:=by simp only[AB]
@[simp] theorem ti(a:List D)(b:Int):AB (.int b) (.lst a)=false:=by simp only[AB]
@[simp] theorem tj(a:List D)(b:Ae):AB (.str b) (.lst a)=false:=by simp only[AB]
@[simp] theorem tm(a:List D):AB .non (.lst a)=false:=by simp only[AB]
@[simp] theorem tq(a:List D)(b:Bool):AB (.bl b) (.lst a)=false:=by simp only[AB]
@[simp] theorem tw:Cr [] []=true:=by simp only[Cr]
@[simp] theorem tx(a b:D)(c bs:List D):Cr (a::c) (b::bs)=(AB a b&&Cr c bs):=by simp only[Cr]
@[simp] theorem tz(b:D)(bs:List D):Cr [] (b::bs)=false:=by simp only[Cr]
@[simp] theorem tE(b:D)(bs:List D):Cr (b::bs) []=false:=by simp only[Cr]
@[simp] theorem m6:∀(a b:List Int),Cr (a.map D.int) (b.map D.int)=decide (a=b)
  |[],[]=>by simp
  |[],_::_=>by simp
  |_::_,[]=>by simp
  |x::a,y::b=>by simp[m6 a b]
@[simp] theorem tH(n:Nat)(a:List Int):(a.map D.int).all (A3 n)=true:=by
  rw[D9]
  intro x b
  obtain⟨i,_,rfl⟩:=List.mem_map.mp b
  cases n<;>rfl
@[simp] theorem tJ(t n:String):Ka t n=(t==n||(t=="bool"&&n=="int")):=rfl
@[simp] theorem tK:Gq=["NoneType","bool","int","str","tuple","list"]:=rfl
@[simp] theorem Ik:Cc=12:=rfl
@[simp] theorem tL:CP.tysL []=some []:=rfl
@[simp] theorem tM(n:String)(r:List D):CP.tysL (.ty n::r)=(CP.tysL r).map (n::·):=rfl
@[simp] theorem tR(a:List Int):DY (a.map D.int)=some a:=WH a
@[simp] theorem RW:∀(a:List Bool),Hj (a.map D.bl)=some a
  |[]=>rfl
  |n::a=>by simp only[AW,Hj,RW a];rfl
theorem D6{c:Type}{b:D->VE->Option VE}{e:VE->Option D}{ρ:VE}(G F:c->D):∀(xs:List c),(∀x∈xs,∃a,b (G x) ρ=some a/\e a=some (F x))->CV b (λ_=>some true) e ρ (xs.map G)=some (xs.map F)
 |[],_=>rfl
 |x::xs,h=>by
  obtain⟨a,d,f⟩:=h x BC
  simp only[AW,CV,d,f,Zb,AA,D6 G F xs λy g=>h y (Bv _ g)]
@[simp] theorem Zv{a:Type}(l:List a)(h:l.length<=1000000):Zn (some l)=some l:=by
  have:l.length<=AG:=CN h (by decide)
  simp[this]
theorem RX{a c:Type}(f:a->c)(xs:List a)(lo b:Option Int):Em (xs.map f) lo b=(Em xs lo b).map f:=by
 unfold Em
 rw[B1,List.map_take,List.map_drop]
theorem na{b:Type}(xs:List b)(k:Int)(h:0<=k):Em xs none (some k)=xs.take k.toNat:=by
 have e:HT.sIx xs.length 0 none=0:=rfl
 have c:HT.sIx xs.length xs.length (some k)=min k.toNat xs.length:=by simp only[HT.sIx];split<;>omega
 unfold Em
 rw[e,c,List.drop_zero,Nat.sub_zero]
 rcases Nat.le_total k.toNat xs.length with a|a
 ·rw[Nat.min_eq_left a]
 ·rw[Nat.min_eq_right a,List.take_length,LH a]
theorem Yc{c:Type}(xs:List c)(i j:Int)(f:0<=i)(g:0<=j):Em xs (some i) (some j)=(xs.drop i.toNat).take (j.toNat-i.toNat):=by
 have d:HT.sIx xs.length 0 (some i)=min i.toNat xs.length:=by simp only[HT.sIx];split<;>omega
 have e:HT.sIx xs.length xs.length (some j)=min j.toNat xs.length:=by simp only[HT.sIx];split<;>omega
 unfold Em
 rw[d,e]
 rcases Nat.le_total i.toNat xs.length with a|a
 ·rw[Nat.min_eq_left a]
  rcases Nat.le_total j.toNat xs.length with b|b
  ·rw[Nat.min_eq_left b]
  ·rw[Nat.min_eq_right b,LH (by rw[MW];exact BD _),LH (by rw[MW];omega)]
 ·rw[Nat.min_eq_right a,List.drop_length,List.drop_of_length_le a,List.take_nil,List.take_nil]
@[simp] theorem ng(a:List Int):LK [.lst (a.map D.int)]=if a.length<64 then some ((Fd a).map D.int)else none:=by simp[LK]
theorem Yd{a b:List Int}(h:a.Perm b):a.sum=b.sum:=by
 induction h with
 |nil=>rfl
 |cons x _ c=>simp[c]
 |swap x y l=>simp;omega
 |trans _ _ d e=>exact d.trans e
theorem ni(j:Int)(a:0<=j)(h:j<1000000000):Ev [.int j]=some ((Ba j.toNat).map λ(k:Nat)=>D.int (k:Int)):=by
 have e:HL 0 j.toNat=(Ba j.toNat).map λ(k:Nat)=>D.int (k:Int):=by simp[HL]
 simp only[Ev]
 rw[Lv ⟨by omega,by omega⟩,e]
theorem GW(n:Nat)(h:n<1000000000):Ev [.int (n:Int)]=some ((Ba n).map λ(k:Nat)=>D.int (k:Int)):=by
 rw[ni _ (by omega) (by omega),Kd]
theorem Ye(i j:Int)(a:0<=i)(b:i<1000000000)(h:j<1000000000)(c : -1000000000<j):HN [.int i,.int j]=some ((Ba (j-i).toNat).map λ(k:Nat)=>D.int (i+(k:Int))):=by
 simp only[HN]
 rw[Lv ⟨by omega,by omega,by omega,by omega⟩]
 rfl
theorem Yf(xs ys:List D)(h:xs.length+ys.length<=1000000):ZJ (.lst xs) (.lst ys)=some (.lst (xs++ys)):=by
 simp only[ZJ]
 rw[if_pos (CN h (by decide))]
theorem Yg(xs ys:List D)(h:xs.length+ys.length<=1000000):ZJ (.tup xs) (.tup ys)=some (.tup (xs++ys)):=by
 simp only[ZJ]
 rw[if_pos (CN h (by decide))]
theorem Ma(x y:Ae)(h:x.length+y.length<=1000000):ZJ (.str x) (.str y)=some (.str (x++y)):=by
 simp only[ZJ]
 rw[if_pos (CN h (by decide))]
theorem nj{n:Nat}{i:Int}(a:0<=i)(b:i<n):DU n i=some i.toNat:=by unfold DU;rw[if_pos a,if_pos b]
theorem nk{a:Type}{xs:List a}{i:Int}(b:0<=i)(c:i<xs.length):∃x,atI xs i=some x/\x∈xs:=by
 have h:i.toNat<xs.length:=by omega
 refine⟨xs[i.toNat],?_,Fc _⟩
 unfold atI
 rw[nj b c]
 exact Cu h
theorem nl{z:Ae}{i:Int}(hz:z.length<=1000000)(a:0<=i)(b:i<z.length):∃c,Aw (.str z) (.int i)=some (.str ⟨#[c]⟩)/\c∈z.cps.toList:=by
 have d:z.cps.toList.length=z.length:=by simp[Str.length]
 obtain⟨c,e,f⟩:=nk (xs:=z.cps.toList) a (by rw[d];exact b)
 refine⟨c,?_,f⟩
 simp only[Aw]
 rw[if_pos (CN hz (by decide)),e]
 rfl
@[simp] theorem CZ(d:D):FV (.val d)=d:=rfl
@[simp] theorem Dd(xs:List D)(b:Bool):FV (.own xs b)=.lst xs b:=rfl
end L2
namespace K36
open PySem PySem.Spec PyProof.Rows L2
def CS:List Ae:=["NoGrain"]
def RY:VE->Ao:=(λa=>Zf (ZO (FT (EU (AO ((ZD FZ (λa=>Zb (An a 0) (Zb (Zi (some (.ty "int"))) (some [])))) a)) (AO (FT (C8 (AO ((ZD FZ (λa=>Zb (An a 0) (Zb (Zi (some (.ty "bool"))) (some [])))) a)))))))) (λa=>.next a))
def RZ:List Sl->Option Rv:=Bn 1 1 RY
def NV:VE->Ao:=(λa=>Zf (ZO (Ln (AO ((Ze IT (λa=>Ah a 1) (ZD Cd (λa=>Zb (An a 0) (some [])))) a)) ((Ze Aw (λa=>Ah a 0) (λa=>Ah a 1)) a) (some .non))) (λa=>.next a))
def Fz:List Sl->Option Rv:=Bn 2 2 NV
def Yh:VE->Option D:=(λ_=>some (.int 0))
def NW:VE->Ao:=(λa=>Zf (ZO ((ZD Dk (λa=>Zb (Zi (ZA ((ZL 1 [] (λa=>(Be a 0).bind Zz) (Zl 0) (λ_=>some true) Yh) a))) (some []))) a)) (λa=>.next a))
def R0:List Sl->Option Rv:=Bn 1 1 NW
def R5:VE->Ao:=(λa=>Zf (ZO ((Zn ((Zb (Zi ((ZD Cd (λa=>Zb (An a 0) (some []))) a)) (Zb (Zi ((ZD Np (λa=>Zb (An a 0) (some []))) a)) (Zb (Zi ((ZD Q4 (λa=>Zb (An a 0) (some []))) a)) (Zb (Zi ((ZD Q5 (λa=>Zb (An a 0) (some []))) a)) (some []))))).bind Zt)).map D.tup)) (λa=>.next a))
def NX:List Sl->Option Rv:=Bn 1 1 R5
def R7:VE->Ao:=(λa=>Zf (ZO ((Zn ((Zb (Zi ((Ze ZJ (Ze Aw (λa=>Ah a 0) (λ_=>some (.int 0))) (Ze Aw (λa=>Ah a 1) (λ_=>some (.int 0)))) a)) (Zb (Zi ((Ze ZJ (Ze Aw (λa=>Ah a 0) (λ_=>some (.int 1))) (Ze Aw (λa=>Ah a 1) (λ_=>some (.int 1)))) a)) (Zb (Zi ((ZD Q3 (λa=>Zb (Zi ((Ze Aw (λa=>Ah a 0) (λ_=>some (.int 2))) a)) (Zb (Zi ((Ze Aw (λa=>Ah a 1) (λ_=>some (.int 2))) a)) (some [])))) a)) (Zb (Zi ((ZD Q2 (λa=>Zb (Zi ((Ze Aw (λa=>Ah a 0) (λ_=>some (.int 3))) a)) (Zb (Zi ((Ze Aw (λa=>Ah a 1) (λ_=>some (.int 3))) a)) (some [])))) a)) (some []))))).bind Zt)).map D.tup)) (λa=>.next a))
def Mb:List Sl->Option Rv:=Bn 2 2 R7
def NY:VE->Option D:=(Ze (EH false) (λa=>Ah a 1) (λa=>Ah a 0))
def NZ:VE->Ao:=(λa=>Zf (ZO ((ZD HS (λa=>Zb (Zi (ZA ((ZL 2 [] (Hl (λa=>Be a 0) (λa=>Be a 1)) (BU 2 (ZC (Zl 0) (ZC (Zl 1) BX))) (λ_=>some true) NY) a))) (some []))) a)) (λa=>.next a))
def Oa:List Sl->Option Rv:=Bn 2 2 NZ
def Ob:VE->Ao:=(λa=>Zf (ZM (AO ((Ze IT (λa=>Ah a 1) (ZD Cd (λa=>Zb (An a 0) (some [])))) a)) (Zf (ZO ((Ze Aw (λa=>Ah a 0) (λa=>Ah a 1)) a)) (λa=>.next a)) (.next a)) (λa=>Zf (ZO (some (.int 0))) (λa=>.next a)))
def ZQ:List Sl->Option Rv:=Bn 2 2 Ob
def Oc:VE->Ao:=(λa=>Zf (Zx 2 ((Ze ZW (Ze ZJ (Ze ZJ (Ze Ey (λa=>Ah a 2) (λ_=>some (.int 48271))) (Ze Ey (λ_=>some (.int 2)) (λa=>Ah a 5))) (λ_=>some (.int 11))) (λ_=>some (.int 2147483647))) a) a) (λa=>Zf (C6 4 ((Ze Aw (λa=>ZA (Zn ((Zb (Zi ((Ze Dt (λa=>Ah a 2) (λ_=>some (.int 64))) a)) (Zb (Zi ((Ze ZW (λa=>Ah a 3) (λ_=>some (.int 4096))) a)) (some []))).bind Zt))) (ZD Gp (λa=>Zb (Zi (FT (EU (AO ((Ze QX (λa=>Ah a 0) (Ze Ez (λ_=>some (.int 10)) (λ_=>some (.int 18)))) a)) (AO ((Ze Dy (λa=>Ah a 3) (λ_=>some (.int 0))) a))))) (some [])))) a) a) (λa=>Zf (Zx 3 ((Ze Dt (λa=>Ah a 3) (λ_=>some (.int 4096))) a) a) (λa=>.next a))))
def Yi:VE->Ao:=(λa=>Zx 2 ((Ze ZW (Ze ZJ (Ze Ey (Ze ZW (Ze ZJ (λa=>Ah a 0) (Ze Ey (λ_=>some (.int 7919)) (λa=>Ah a 1))) (λ_=>some (.int 2147483629))) (λ_=>some (.int 48271))) (λ_=>some (.int 11))) (λ_=>some (.int 2147483647))) a) a)
def Yj:VE->Ao:=(λa=>Zx 3 ((Ze Dt (λa=>Ah a 0) (λ_=>some (.int 2))) a) a)
def Yk:VE->Ao:=(λa=>Di 4 (Zn ((some []).bind Zt)) a)
def Yl:VE->Ao:=(BS (λa=>((Zb (Zi (some (.int 1))) (Zb (Zi (some (.int 25))) (some []))).bind Zt).bind HN) (Zl 5) Oc)
def Ym:VE->Ao:=(λa=>B3 (Cn a 4))
def nq:VE->Ao:=λa=>.next a
def Yn:VE->Ao:=λa=>Zf (Ym a) nq
def Yo:VE->Ao:=λa=>Zf (Yl a) Yn
def Yp:VE->Ao:=λa=>Zf (Yk a) Yo
def Yq:VE->Ao:=λa=>Zf (Yj a) Yp
def Yr:VE->Ao:=λa=>Zf (Yi a) Yq
def Od:VE->Ao:=Yr
def Ks:List Sl->Option Rv:=Bn 2 6 Od
def Sa:VE->Ao:=(λa=>Zf (Zx 3 ((Ze ZJ (λa=>Ah a 3) (Ze Aw (λa=>Ah a 2) (Ze ZW (Ze Dt (λa=>Ah a 0) (Ze ZJ (λa=>Ah a 4) (λ_=>some (.int 3)))) (λ_=>some (.int 36))))) a) a) (λa=>.next a))
def Ys:VE->Ao:=(λa=>Zx 2 (some (.str "abcdefghijklmnopqrstuvwxyz0123456789")) a)
def Yt:VE->Ao:=(λa=>Zx 3 ((Ze Aw (λa=>Ah a 2) (Ze ZW (λa=>Ah a 0) (λ_=>some (.int 26)))) a) a)
def Yu:VE->Ao:=(BS (λa=>((Zb (Zi (Bb a 1)) (some [])).bind Zt).bind Ev) (Zl 4) Sa)
def Yv:VE->Ao:=(λa=>ZO (Bb a 3))
def nr:VE->Ao:=λa=>.next a
def Yw:VE->Ao:=λa=>Zf (Yv a) nr
def Yx:VE->Ao:=λa=>Zf (Yu a) Yw
def Yy:VE->Ao:=λa=>Zf (Yt a) Yx
def Yz:VE->Ao:=λa=>Zf (Ys a) Yy
def Sb:VE->Ao:=Yz
def Mc:List Sl->Option Rv:=Bn 2 5 Sb
def Sc:VE->Ao:=(λa=>Zf (ZM (Gk (Ah a 0)) (Zf (ZO ((Zn ((Zb (Zi (some (.int 0))) (Zb (Zi (some (.int 0))) (Zb (Zi (some (.str ""))) (some [])))).bind Zt)).map D.tup)) (λa=>.next a)) (.next a)) (λa=>Zf (ZM (C9 ((ZD FZ (λa=>Zb (An a 0) (Zb (Zi (some (.ty "int"))) (some [])))) a)) (Zf (ZO ((Zn ((Zb (Zi (some (.int 1))) (Zb (Zi (Bb a 0)) (Zb (Zi (some (.str ""))) (some [])))).bind Zt)).map D.tup)) (λa=>.next a)) (.next a)) (λa=>Zf (ZO ((Zn ((Zb (Zi (some (.int 2))) (Zb (Zi (some (.int 0))) (Zb (Zi (Bb a 0)) (some [])))).bind Zt)).map D.tup)) (λa=>.next a))))
def Oe:List Sl->Option Rv:=Bn 1 1 Sc
def Kt:VE->Ao:=(λa=>Zf (ZM (AO ((Ze CH (Ze Aw (λa=>Ah a 3) (λ_=>some (.int 0))) (λa=>Ah a 1)) a)) (Zf (ZO ((Ze Aw (Ze ZJ (λa=>Ah a 3) (λa=>(Zn ((Zb (Zi (some .non)) (some [])).bind Zt)).map D.tup)) (λa=>Ah a 2)) a)) (λa=>.next a)) (.next a)) (λa=>.next a))
def Of:VE->Ao:=(λa=>Zf ((BS (λa=>(Be a 0).bind Zz) (Zl 3) Kt) a) (λa=>Zf (ZO (some .non)) (λa=>.next a)))
def Sd:List Sl->Option Rv:=Bn 3 4 Of
def Se:VE->Ao:=(λa=>Zf (Zx 1 (ZA ((Cv LK (λa=>Zb (An a 0) (some []))) a)) a) (λa=>Zf (ZO ((Zn ((Zb (Zi ((ZD Cd (λa=>Zb (An a 1) (some []))) a)) (Zb (Zi ((ZD Np (λa=>Zb (An a 1) (some []))) a)) (Zb (Zi ((Ze Aw (λa=>Ah a 1) (λ_=>some (.int 0))) a)) (Zb (Zi ((Ze Aw (λa=>Ah a 1) (λa=>LB (some (.int 1)))) a)) (some []))))).bind Zt)).map D.tup)) (λa=>.next a)))
def Og:List Sl->Option Rv:=Bn 1 2 Se
def Oh:VE->Ao:=(λa=>Zf (C6 2 ((Ze ZW (Ze Dt (λa=>Ah a 0) (Ze Aw (λa=>ZA (Zn ((Zb (Zi (some (.int 1))) (Zb (Zi (some (.int 5))) (Zb (Zi (some (.int 25))) (Zb (Zi (some (.int 125))) (some []))))).bind Zt))) (λa=>Ah a 3))) (Ze ZJ (ZD Cd (λa=>Zb (Zi ((Ze Aw (λa=>Ah a 4) (λ_=>some (.int 0))) a)) (some []))) (λ_=>some (.int 1)))) a) a) (λa=>.next a))
def Oi:VE->Ao:=(λa=>Zf (Di 2 (Zn ((some []).bind Zt)) a) (λa=>Zf ((BS (DM (λa=>Be a 1)) (BU 2 (ZC (Zl 3) (ZC (Zl 4) BX))) Oh) a) (λa=>Zf (ZO ((ZD Dk (λa=>Zb (An a 2) (some []))) a)) (λa=>.next a))))
def Oj:List Sl->Option Rv:=Bn 2 5 Oi
def Il:VE->Ao:=(λa=>Zf (ZM (EU (AO ((Ze CH (λa=>Ah a 6) (λa=>Ah a 2)) a)) (AO ((Ze (Dj true) (Ze Aw (Ze ZJ (λa=>Ah a 4) (λa=>(Zn ((Zb (Zi (some .non)) (some [])).bind Zt)).map D.tup)) (λa=>Ah a 7)) (λa=>Ah a 8)) a))) (Zf (Zx 5 (some (.bl false)) a) (λa=>.next a)) (.next a)) (λa=>.next a))
def Ku:VE->Ao:=(λa=>Zf (Zx 5 (some (.bl true)) a) (λa=>Zf ((BS (λa=>(Be a 1).bind Zz) (BU 3 (ZC (Zl 6) (ZC (Zl 7) (ZC (Zl 8) BX)))) Il) a) (λa=>Zf (ZM (C9 (Ah a 5)) (Zf (C6 3 ((Ze Aw (λa=>Ah a 4) (λ_=>some (.int 0))) a) a) (λa=>.next a)) (.next a)) (λa=>.next a))))
def Ol:VE->Ao:=(λa=>Zf (Di 3 (Zn ((some []).bind Zt)) a) (λa=>Zf ((BS (λa=>((Ze Aw (λa=>Ah a 0) (λa=>Ah a 2)) a).bind Zz) (Zl 4) Ku) a) (λa=>Zf (B3 (Cn a 3)) (λa=>.next a))))
def Md:List Sl->Option Rv:=Bn 3 9 Ol
def Sf:VE->Ao:=(λa=>Zf (ZO (FT (EU (AO ((ZD FZ (λa=>Zb (An a 0) (Zb (Zi (some (.ty "int"))) (some [])))) a)) (AO (FT (C8 (AO ((ZD FZ (λa=>Zb (An a 0) (Zb (Zi (some (.ty "bool"))) (some [])))) a)))))))) (λa=>.next a))
def Om:List Sl->Option Rv:=Bn 1 1 Sf
def Sg:VE->Ao:=(λa=>Zf (ZM (Gk (Ah a 0)) (Zf (ZO ((Zn ((Zb (Zi (some (.int 0))) (Zb (Zi (some (.int 0))) (some []))).bind Zt)).map D.tup)) (λa=>.next a)) (.next a)) (λa=>Zf (ZM (C9 ((Zq RZ (λa=>Zb (An a 0) (some []))) a)) (Zf (ZO ((Zn ((Zb (Zi (some (.int 1))) (Zb (Zi (Bb a 0)) (some []))).bind Zt)).map D.tup)) (λa=>.next a)) (.next a)) (λa=>Zf (ZO ((Zn ((Zb (Zi (some (.int 2))) (Zb (Zi (Bb a 0)) (some []))).bind Zt)).map D.tup)) (λa=>.next a))))
def On:List Sl->Option Rv:=Bn 1 1 Sg
def Sh:VE->Option D:=(λa=>(Zn ((Zb (Zi ((Zq Fz (λa=>Zb (An a 0) (Zb (An a 1) (some [])))) a)) (Zb (Zi ((Zq Fz (λa=>Zb (An a 0) (Zb (An a 2) (some [])))) a)) (some []))).bind Zt)).map D.tup)
def Oo:VE->Ao:=(λa=>Zf (Hd ((GV (λa=>ZA ((ZL 1 [1,2] (λa=>(Be a 0).bind Zz) (Zl 0) (λ_=>some true) Sh) a))) a)) (λa=>.next a))
def Sj:List Sl->Option Rv:=Bn 3 3 Oo
def Sk:VE->Option D:=(λa=>(Zn ((Zb (Zi ((Ze Aw (λa=>Ah a 0) (λ_=>some (.int 0))) a)) (Zb (Zi ((Zn ((Zb (Zi (some (.str "out"))) (Zb (Zi (some .non)) (some []))).bind Zt)).map D.tup)) (some []))).bind Zt)).map D.tup)
def Kv:VE->Ao:=(λa=>Zf (ZM (AO ((Ze (Dj false) (Ze Aw (λa=>Ah a 4) (λ_=>some (.int 0))) (λa=>Ah a 2)) a)) (Zf (Ia 3 ((Ze Aw (λa=>Ah a 4) (λ_=>some (.int 0))) a) ((Zn ((Zb (Zi (some (.str "in"))) (Zb (Zi ((Zq Fz (λa=>Zb (An a 4) (Zb (An a 1) (some [])))) a)) (some []))).bind Zt)).map D.tup) a) (λa=>.next a)) (.next a)) (λa=>.next a))
def Op:VE->Ao:=(λa=>Zf (EY 3 ((GV (λa=>ZA ((ZL 1 [] (λa=>(Be a 0).bind Zz) (Zl 0) (λ_=>some true) Sk) a))) a) a) (λa=>Zf ((BS (λa=>(Be a 0).bind Zz) (Zl 4) Kv) a) (λa=>Zf (Hd (EX a 3)) (λa=>.next a))))
def Sm:List Sl->Option Rv:=Bn 3 5 Op
def Oq:VE->Option Bool:=(λa=>AO ((Ze (Dj false) (Ze Aw (λa=>Ah a 0) (λ_=>some (.int 0))) (λa=>Ah a 3)) a))
def Ot:VE->Option D:=(λa=>(Zn ((Zb (Zi ((Zq Fz (λa=>Zb (An a 0) (Zb (An a 1) (some [])))) a)) (Zb (Zi ((Zq Fz (λa=>Zb (An a 0) (Zb (An a 2) (some [])))) a)) (some []))).bind Zt)).map D.tup)
def Ou:VE->Ao:=(λa=>Zf (Hd ((GV (λa=>ZA ((ZL 1 [1,2,3] (λa=>(Be a 0).bind Zz) (Zl 0) Oq Ot) a))) a)) (λa=>.next a))
def Sn:List Sl->Option Rv:=Bn 4 4 Ou
def Me:VE->Ao:=(λa=>Zx 3 ((Ze ZW (Ze Dt (λa=>Ah a 1) (λ_=>some (.int 4))) (Ze Ez (λ_=>some (.int 10)) (λ_=>some (.int 30)))) a) a)
def Mf:VE->Ao:=(λa=>ZM (AO ((Ze CH (λa=>Ah a 0) (λ_=>some (.int 0))) a)) (Zf (ZO ((Ze ZJ (λa=>Ah a 3) (λa=>Ah a 2)) a)) (λa=>.next a)) (.next a))
def Ov:VE->Ao:=(λa=>ZM (AO ((Ze CH (λa=>Ah a 0) (λ_=>some (.int 1))) a)) (Zf (ZO ((Ze Hf (Ze Hf (λ_=>some (.int 0)) (λa=>Ah a 3)) (λa=>Ah a 2)) a)) (λa=>.next a)) (.next a))
def So:VE->Ao:=(λa=>Zx 4 ((Zq Mc (λa=>Zb (Zi ((Ze Dt (λa=>Ah a 1) (λ_=>some (.int 4))) a)) (Zb (Zi ((Ze ZW (λa=>Ah a 1) (λ_=>some (.int 8))) a)) (some [])))) a) a)
def Sq:VE->Ao:=(λa=>ZM (AO ((Ze CH (λa=>Ah a 0) (λ_=>some (.int 2))) a)) (Zf (ZO ((Ze ZJ (λa=>Ah a 4) (Q9 LW (ZD J6 (λa=>Zb (An a 2) (some []))) (λa=>Zb (Zi ((Ze ZJ (λ_=>some (.int 1)) (Ze ZW (Ze Dt (λa=>Ah a 1) (λ_=>some (.int 8))) (λ_=>some (.int 4)))) a)) (some [])))) a)) (λa=>.next a)) (.next a))
def YA:VE->Ao:=(λa=>Zx 5 (some (.str "abcdefghijklmnopqrstuvwxyz")) a)
def YB:VE->Ao:=(λa=>Zx 6 ((Ze ZW (Ze Dt (λa=>Ah a 1) (λ_=>some (.int 8))) (Ze ZJ (ZD Cd (λa=>Zb (An a 4) (some []))) (λ_=>some (.int 1)))) a) a)
def YC:VE->Ao:=(λa=>Zx 7 ((Ze ZJ (Ze Aw (λa=>Ah a 5) (Ze Dt (λa=>Ah a 2) (λ_=>some (.int 26)))) (Ze Aw (λa=>Ah a 5) (Ze ZW (Ze ZJ (λa=>Ah a 2) (Ze Dt (λa=>Ah a 1) (λ_=>some (.int 8)))) (λ_=>some (.int 26))))) a) a)
def YD:VE->Ao:=(λa=>ZO ((Ze ZJ (Ze ZJ (Ch (λa=>Ah a 4) (λ_=>some none) (λa=>Cb (Ah a 6)) E1) (λa=>Ah a 7)) (Ch (λa=>Ah a 4) (λa=>Cb (Ah a 6)) (λ_=>some none) E1)) a))
def nt:VE->Ao:=λa=>.next a
def YE:VE->Ao:=λa=>Zf (YD a) nt
def YF:VE->Ao:=λa=>Zf (YC a) YE
def YG:VE->Ao:=λa=>Zf (YB a) YF
def YH:VE->Ao:=λa=>Zf (YA a) YG
def Sr:VE->Ao:=λa=>Zf (Sq a) YH
def Ss:VE->Ao:=λa=>Zf (So a) Sr
def Ow:VE->Ao:=λa=>Zf (Ov a) Ss
def Mg:VE->Ao:=λa=>Zf (Mf a) Ow
def Mh:VE->Ao:=λa=>Zf (Me a) Mg
def Kw:VE->Ao:=Mh
def FA:List Sl->Option Rv:=Bn 3 8 Kw
def Su:VE->Option D:=(Ze Aw (Ze Aw (λa=>Ah a 1) (Ze ZW (Ze Aw (λa=>Ah a 2) (λa=>Ah a 0)) (ZD Cd (λa=>Zb (An a 1) (some []))))) (λ_=>some (.int 0)))
def Sv:VE->Ao:=(λa=>Zx 3 ((Zq Ks (λa=>Zb (An a 0) (Zb (An a 1) (some [])))) a) a)
def Sw:VE->Ao:=(λa=>Zx 4 ((ZD Dk (λa=>Zb (Zi (ZA ((ZL 2 [3] (DM (λa=>Be a 2)) (BU 2 (ZC (Zl 0) (ZC (Zl 1) BX))) (λ_=>some true) Su) a))) (some []))) a) a)
def Sx:VE->Ao:=(λa=>Zx 5 ((Ze Ey (Ze ZW (Ze RC (λa=>Ah a 0) (Ze Aw (λa=>ZA (Zn ((Zb (Zi (some (.int 1))) (Zb (Zi ((Ze Ey (λ_=>some (.int 2)) (Ze Ez (λ_=>some (.int 4096)) (λ_=>some (.int 8)))) a)) (some []))).bind Zt))) (ZD Gp (λa=>Zb (Zi ((Ze HQ (λa=>Ah a 0) (Ze Ez (λ_=>some (.int 10)) (λ_=>some (.int 60)))) a)) (some []))))) (Ze Ez (λ_=>some (.int 10)) (λ_=>some (.int 30)))) (Ze Hf (λ_=>some (.int 1)) (Ze Ey (λ_=>some (.int 2)) (Ze ZW (Ze Aw (λa=>Ah a 3) (λ_=>some (.int 5))) (λ_=>some (.int 2)))))) a) a)
def Sy:VE->Ao:=(λa=>ZM (AO ((Ze CH (Ze ZW (Ze Aw (λa=>Ah a 3) (λ_=>some (.int 6))) (λ_=>some (.int 2))) (λ_=>some (.int 1))) a)) (Zf (Zx 5 ((Ze Hf (Ze ZW (Ze Aw (λa=>Ah a 3) (λ_=>some (.int 7))) (λ_=>some (.int 7))) (λ_=>some (.int 3))) a) a) (λa=>.next a)) (.next a))
def Sz:VE->Ao:=(λa=>ZO ((Zn ((Zb (Zi (Bb a 4)) (Zb (Zi (Bb a 5)) (some []))).bind Zt)).map D.tup))
def nu:VE->Ao:=λa=>.next a
def SD:VE->Ao:=λa=>Zf (Sz a) nu
def SE:VE->Ao:=λa=>Zf (Sy a) SD
def SF:VE->Ao:=λa=>Zf (Sx a) SE
def SH:VE->Ao:=λa=>Zf (Sw a) SF
def SI:VE->Ao:=λa=>Zf (Sv a) SH
def Mi:VE->Ao:=SI
def SJ:List Sl->Option Rv:=Bn 3 6 Mi
def Ox:VE->Option D:=(Zq Sd (λa=>Zb (An a 0) (Zb (An a 1) (Zb (An a 2) (some [])))))
def Oy:VE->Ao:=(λa=>Zf (ZO ((ZD Dk (λa=>Zb (Zi (ZA ((ZL 3 [] (NR (λa=>Be a 0) (λa=>Be a 1) (λa=>Be a 2)) (BU 3 (ZC (Zl 0) (ZC (Zl 1) (ZC (Zl 2) BX)))) (λ_=>some true) Ox) a))) (some []))) a)) (λa=>.next a))
def SK:List Sl->Option Rv:=Bn 3 3 Oy
def SN:VE->Option D:=(Zq Oe (λa=>Zb (An a 0) (some [])))
def Oz:VE->Ao:=(λa=>Zf (B3 ((ZL 1 [] (λa=>(Be a 0).bind Zz) (Zl 0) (λ_=>some true) SN) a)) (λa=>.next a))
def OA:List Sl->Option Rv:=Bn 1 1 Oz
def OB:VE->Ao:=(λa=>Zf (C6 9 ((Ze Aw (Ze ZJ (Ze Aw (λa=>Ah a 7) (Ze ZW (Ze Aw (λa=>Ah a 5) (Ze ZJ (λ_=>some (.int 3)) (λa=>Ah a 10))) (ZD Cd (λa=>Zb (An a 7) (some []))))) (λa=>(Zn ((Zb (Zi (some .non)) (some [])).bind Zt)).map D.tup)) (λa=>Ah a 8)) a) a) (λa=>.next a))
def OC:VE->Ao:=(λa=>Zf (Zx 5 ((Zq Ks (λa=>Zb (An a 4) (Zb (Zi ((Ze ZJ (λ_=>some (.int 40)) (λa=>Ah a 3)) a)) (some [])))) a) a) (λa=>Zf (Zx 6 ((Ze ZW (Ze Aw (λa=>Ah a 5) (λ_=>some (.int 0))) (ZD Cd (λa=>Zb (An a 1) (some [])))) a) a) (λa=>Zf (Zx 7 ((Ze Aw (λa=>Ah a 1) (λa=>Ah a 6)) a) a) (λa=>Zf (Zx 8 ((Ze ZW (Ze Aw (λa=>Ah a 5) (λ_=>some (.int 1))) (Ze ZJ (ZD Cd (λa=>Zb (Zi ((Ze Aw (λa=>Ah a 7) (λ_=>some (.int 0))) a)) (some []))) (λ_=>some (.int 1)))) a) a) (λa=>Zf (Di 9 (Zn ((some []).bind Zt)) a) (λa=>Zf ((BS (λa=>((Zb (Zi ((Ze Aw (λa=>ZA (Zn ((Zb (Zi (some (.int 1))) (Zb (Zi (some (.int 2))) (Zb (Zi (some (.int 1))) (Zb (Zi (some (.int 3))) (Zb (Zi (some (.int 4))) (Zb (Zi (some (.int 6))) (Zb (Zi (some (.int 2))) (Zb (Zi (some (.int 0))) (some []))))))))).bind Zt))) (Ze ZW (Ze Aw (λa=>Ah a 5) (λ_=>some (.int 2))) (λ_=>some (.int 8)))) a)) (some [])).bind Zt).bind Ev) (Zl 10) OB) a) (λa=>Zf (ZM (AO ((Ze CH (Ze ZW (Ze Aw (λa=>Ah a 5) (λ_=>some (.int 10))) (λ_=>some (.int 9))) (λ_=>some (.int 4))) a)) (Zf (C6 9 ((Ze Aw (λa=>ZA (Zn ((Zb (Zi (some (.str "nobody"))) (Zb (Zi (some .non)) (Zb (Zi ((Ze Ez (λ_=>some (.int 10)) (λ_=>some (.int 40))) a)) (some [])))).bind Zt))) (Ze ZW (Ze Dt (Ze Aw (λa=>Ah a 5) (λ_=>some (.int 10))) (λ_=>some (.int 9))) (λ_=>some (.int 3)))) a) a) (λa=>.next a)) (.next a)) (λa=>Zf (ZM (AO ((Ze CH (Ze ZW (Ze Aw (λa=>Ah a 5) (λ_=>some (.int 11))) (λ_=>some (.int 5))) (λ_=>some (.int 0))) a)) (Zf (Zx 9 ((ZD Dk (λa=>Zb (An a 9) (some []))) a) a) (λa=>.next a)) (.next a)) (λa=>Zf ((λa=>C6 2 ((Zn ((Zb (Zi (Bb a 6)) (Zb (Zi (Bb a 8)) (Zb (Zi (Bb a 9)) (some [])))).bind Zt)).map D.tup) a) (Nd 9 a)) (λa=>.next a))))))))))
def OD:VE->Ao:=(λa=>Zf (Di 2 (Zn ((some []).bind Zt)) a) (λa=>Zf ((BS (DM (λa=>Be a 0)) (BU 2 (ZC (Zl 3) (ZC (Zl 4) BX))) OC) a) (λa=>Zf (B3 (Cn a 2)) (λa=>.next a))))
def SO:List Sl->Option Rv:=Bn 2 11 OD
def SQ:VE->Option D:=(Zq On (λa=>Zb (An a 0) (some [])))
def SR:VE->Ao:=(λa=>Zf (ZO ((ZD Dk (λa=>Zb (Zi (ZA ((ZL 1 [] (λa=>(Be a 0).bind Zz) (Zl 0) (λ_=>some true) SQ) a))) (some []))) a)) (λa=>.next a))
def Mj:List Sl->Option Rv:=Bn 1 1 SR
def Jm:VE->Ao:=(λa=>Zf (Nw 7 ((Kp 5 (Zq Fz (λa=>Zb (An a 6) (Zb (An a 1) (some [])))) (Ze Aw (λa=>Ah a 6) (λ_=>some (.int 0)))) a)) (λa=>Zf (ZM (AO ((Ze Dy (Ze D4 (λa=>Ah a 4) (λa=>Ah a 7)) (Ze D4 (λa=>Ah a 4) (Ze Aw (λa=>Ah a 6) (λ_=>some (.int 0))))) a)) (Zf (ZO ((Zn ((Zb (Zi (Bb a 7)) (Zb (Zi ((Ze Aw (λa=>Ah a 6) (λ_=>some (.int 0))) a)) (some []))).bind Zt)).map D.tup)) (λa=>.next a)) (.next a)) (λa=>.next a)))
def SS:VE->Ao:=(λa=>Zx 4 ((Zq Sm (λa=>Zb (An a 0) (Zb (An a 2) (Zb (An a 3) (some []))))) a) a)
def SU:VE->Ao:=(λa=>EY 5 (some []) a)
def SV:VE->Ao:=(BS (λa=>(Be a 0).bind Zz) (Zl 6) Jm)
def YI:VE->Ao:=(λa=>ZO (some .non))
def nv:VE->Ao:=λa=>.next a
def YJ:VE->Ao:=λa=>Zf (YI a) nv
def SW:VE->Ao:=λa=>Zf (SV a) YJ
def SX:VE->Ao:=λa=>Zf (SU a) SW
def OE:VE->Ao:=λa=>Zf (SS a) SX
def YK:VE->Ao:=OE
def Mk:List Sl->Option Rv:=Bn 4 8 YK
def SY:VE->Option D:=(Zq Sj (λa=>Zb (An a 1) (Zb (Zi ((Ze Aw (λa=>Ah a 2) (λa=>Ah a 0)) a)) (Zb (Zi ((Ze Aw (λa=>Ah a 3) (λa=>Ah a 0)) a)) (some [])))))
def OF:VE->Ao:=(λa=>Zf (B3 ((ZL 2 [1,2] (DM (λa=>Be a 0)) (BU 2 (ZC (Zl 0) (ZC (Zl 1) BX))) (λ_=>some true) SY) a)) (λa=>.next a))
def Ta:List Sl->Option Rv:=Bn 3 3 OF
def Ml:VE->Ao:=(λa=>Zf (C6 4 ((Ze Aw (λa=>ZA (Zn ((Zb (Zi ((Ze ZJ (λ_=>some (.int 1)) (Ze ZW (Ze Aw (λa=>Ah a 3) (λa=>Ah a 5)) (λ_=>some (.int 6)))) a)) (Zb (Zi ((Ze ZJ (λ_=>some (.int 2)) (Ze ZW (Ze Aw (λa=>Ah a 3) (λa=>Ah a 5)) (λ_=>some (.int 3)))) a)) (Zb (Zi (some (.int 47))) (Zb (Zi (some (.int 3))) (some []))))).bind Zt))) (Ze ZW (Ze Dt (Ze Aw (λa=>Ah a 3) (λa=>Ah a 5)) (λ_=>some (.int 64))) (λ_=>some (.int 4)))) a) a) (λa=>.next a))
def OG:VE->Ao:=(λa=>Zf (ZM (EU (AO ((Ze HQ (λa=>Ah a 5) (λ_=>some (.int 0))) a)) (AO ((Ze CH (Ze ZW (λa=>Ah a 0) (λ_=>some (.int 2))) (λ_=>some (.int 1))) a))) (Zf (Zx 8 ((Ze ZW (Ze Dt (Ze Aw (λa=>Ah a 3) (Ze ZJ (Ze Hf (Ze Ey (λ_=>some (.int 8)) (λa=>Ah a 5)) (λ_=>some (.int 8))) (λa=>Ah a 8))) (λ_=>some (.int 64))) (λ_=>some (.int 8))) a) a) (λa=>.next a)) (Zf (ZM (AO ((Ze HQ (λa=>Ah a 5) (λ_=>some (.int 0))) a)) (Zf (Zx 8 ((Ze ZW (Ze ZJ (Ze Ey (λa=>Ah a 8) (Ze ZJ (λ_=>some (.int 1)) (Ze ZW (Ze Aw (λa=>Ah a 3) (Ze ZJ (λ_=>some (.int 4)) (λa=>Ah a 5))) (λ_=>some (.int 5))))) (Ze Aw (λa=>Ah a 3) (Ze ZJ (λ_=>some (.int 8)) (λa=>Ah a 5)))) (Ze Aw (λa=>Ah a 4) (λa=>Ah a 5))) a) a) (λa=>.next a)) (.next a)) (λa=>.next a))) (λa=>Zf (Zx 10 ((Ze ZJ (λa=>Ah a 0) (Ze Ey (Ze Ey (λa=>Ah a 5) (Ze ZW (Ze Aw (λa=>Ah a 3) (λ_=>some (.int 16))) (λ_=>some (.int 2)))) (λ_=>some (.int 1000003)))) a) a) (λa=>Zf (C6 9 ((Zq FA (λa=>Zb (Zi ((Ze ZW (Ze Aw (λa=>Ah a 3) (Ze ZJ (λ_=>some (.int 12)) (λa=>Ah a 5))) (λ_=>some (.int 4))) a)) (Zb (An a 10) (Zb (An a 8) (some []))))) a) a) (λa=>.next a))))
def OH:VE->Ao:=(λa=>Zf (Zx 8 ((Ze Aw (λa=>ZA (Zn ((Zb (Zi ((Ze ZW (Ze ZJ (Ze Ey (λa=>Ah a 7) (Ze ZJ (λ_=>some (.int 1)) (Ze ZW (Ze Aw (λa=>Ah a 3) (λ_=>some (.int 0))) (λ_=>some (.int 46))))) (Ze Aw (λa=>Ah a 3) (λ_=>some (.int 4)))) (λ_=>some (.int 47))) a)) (Zb (Zi (Bb a 7)) (some []))).bind Zt))) (Ze ZW (λa=>Ah a 0) (λ_=>some (.int 2)))) a) a) (λa=>Zf (Di 9 (Zn ((some []).bind Zt)) a) (λa=>Zf ((BS (λa=>((Zb (Zi (Bb a 2)) (some [])).bind Zt).bind Ev) (Zl 5) OG) a) (λa=>Zf (C6 6 ((ZD Dk (λa=>Zb (An a 9) (some []))) a) a) (λa=>.next a)))))
def YL:VE->Ao:=(λa=>Zx 3 ((Zq Ks (λa=>Zb (An a 0) (Zb (An a 2) (some [])))) a) a)
def YM:VE->Ao:=(λa=>Di 4 (Zn ((Zb (Zi (some (.int 47))) (some [])).bind Zt)) a)
def YN:VE->Ao:=(BS (λa=>((Zb (Zi (some (.int 1))) (Zb (Zi (some (.int 4))) (some []))).bind Zt).bind HN) (Zl 5) Ml)
def YO:VE->Ao:=(λa=>Di 6 (Zn ((some []).bind Zt)) a)
def YP:VE->Ao:=(BS (λa=>((Zb (Zi (Bb a 1)) (some [])).bind Zt).bind Ev) (Zl 7) OH)
def YQ:VE->Ao:=(λa=>B3 (Cn a 6))
def ny:VE->Ao:=λa=>.next a
def YR:VE->Ao:=λa=>Zf (YQ a) ny
def YS:VE->Ao:=λa=>Zf (YP a) YR
def YT:VE->Ao:=λa=>Zf (YO a) YS
def YU:VE->Ao:=λa=>Zf (YN a) YT
def YV:VE->Ao:=λa=>Zf (YM a) YU
def YW:VE->Ao:=λa=>Zf (YL a) YV
def OI:VE->Ao:=YW
def OJ:List Sl->Option Rv:=Bn 3 11 OI
def Tb:VE->Option D:=(Ze ZJ (Ze Dt (λa=>Ah a 1) (λ_=>some (.int 6))) (Ze Ey (λ_=>some (.int 7)) (λa=>Ah a 0)))
def OL:VE->Option D:=(Zq SJ (λa=>Zb (An a 1) (Zb (An a 0) (Zb (An a 2) (some [])))))
def OM:VE->Ao:=(λa=>Zf (Zx 2 ((Zq ZQ (λa=>Zb (An a 0) (Zb (Zi (some (.int 5))) (some [])))) a) a) (λa=>Zf (Zx 3 ((Ze ZJ (Ch (λa=>Ah a 0) (λa=>Cb (some (.int 11))) (λa=>Cb (some (.int 51))) E1) (λa=>ZA ((ZL 1 [2] (λa=>((Zb (Zi ((Ze ZW (λa=>Ah a 2) (λ_=>some (.int 6))) a)) (some [])).bind Zt).bind Ev) (Zl 0) (λ_=>some true) Tb) a))) a) a) (λa=>Zf (B3 ((ZL 2 [1] (DM (λa=>Be a 3)) (BU 2 (ZC (Zl 0) (ZC (Zl 1) BX))) (λ_=>some true) OL) a)) (λa=>.next a))))
def Tc:List Sl->Option Rv:=Bn 2 4 OM
def ON:VE->Ao:=(λa=>Zf (Zx 4 ((Zq Ks (λa=>Zb (Zi ((Zq ZQ (λa=>Zb (An a 0) (Zb (Zi ((Ze ZJ (λ_=>some (.int 1)) (λa=>Ah a 3)) a)) (some [])))) a)) (Zb (An a 3) (some [])))) a) a) (λa=>Zf (C6 2 ((Zq OJ (λa=>Zb (Zi ((Zq ZQ (λa=>Zb (An a 0) (Zb (Zi ((Ze ZJ (λ_=>some (.int 1)) (λa=>Ah a 3)) a)) (some [])))) a)) (Zb (Zi ((Ze ZJ (λ_=>some (.int 1)) (Ze ZW (Ze Aw (λa=>Ah a 4) (λ_=>some (.int 20))) (λ_=>some (.int 8)))) a)) (Zb (Zi ((Ze ZJ (λ_=>some (.int 1)) (Ze ZW (Ze Aw (λa=>Ah a 4) (λ_=>some (.int 21))) (λ_=>some (.int 4)))) a)) (some []))))) a) a) (λa=>.next a)))
def YX:VE->Ao:=(λa=>Zx 1 ((Zq ZQ (λa=>Zb (An a 0) (Zb (Zi (some (.int 0))) (some [])))) a) a)
def YY:VE->Ao:=(λa=>Di 2 (Zn ((some []).bind Zt)) a)
def YZ:VE->Ao:=(BS (λa=>((Zb (Zi ((Ze ZJ (Ze ZJ (λ_=>some (.int 1)) (Ze ZW (λa=>Ah a 1) (λ_=>some (.int 3)))) (ZD Gp (λa=>Zb (Zi ((Ze CH (Ze ZW (λa=>Ah a 1) (λ_=>some (.int 12))) (λ_=>some (.int 5))) a)) (some [])))) a)) (some [])).bind Zt).bind Ev) (Zl 3) ON)
def Y0:VE->Ao:=(λa=>B3 (Cn a 2))
def nz:VE->Ao:=λa=>.next a
def Y1:VE->Ao:=λa=>Zf (Y0 a) nz
def Y2:VE->Ao:=λa=>Zf (YZ a) Y1
def Y3:VE->Ao:=λa=>Zf (YY a) Y2
def Y4:VE->Ao:=λa=>Zf (YX a) Y3
def OO:VE->Ao:=Y4
def Td:List Sl->Option Rv:=Bn 1 5 OO
def Mm:VE->Ao:=(λa=>Zf (Zx 6 ((Zq SK (λa=>Zb (An a 0) (Zb (An a 4) (Zb (An a 2) (some []))))) a) a) (λa=>Zf (Ia 3 (Ah a 6) ((Ze ZJ (NO 3 (λa=>Ah a 6) (λa=>ZA (Zn ((some []).bind Zt)))) (λa=>ZA (Zn ((Zb (Zi (Bb a 5)) (some [])).bind Zt)))) a) a) (λa=>.next a)))
def Te:VE->Option D:=(λa=>(Zn ((Zb (Zi (Bb a 0)) (Zb (Zi ((Zq Og (λa=>Zb (Zi ((Ze D4 (λa=>Ah a 1) (λa=>Ah a 0)) a)) (some []))) a)) (some []))).bind Zt)).map D.tup)
def OP:VE->Ao:=(λa=>Zf (EY 3 (some []) a) (λa=>Zf ((BS (λa=>(Be a 1).bind Zz) (BU 2 (ZC (Zl 4) (ZC (Zl 5) BX))) Mm) a) (λa=>Zf (B3 ((ZL 1 [3] (λa=>(ZA ((NS OA (λa=>Ah a 3)) a)).bind Zz) (Zl 0) (λ_=>some true) Te) a)) (λa=>.next a))))
def Mn:List Sl->Option Rv:=Bn 3 7 OP
def Im:VE->Ao:=(λa=>Zf (ZM (EV (C8 (C9 (Ah a 1))) (AO ((Ze Dy (Ze Aw (λa=>Ah a 1) (λa=>LB (some (.int 1)))) (λa=>Ah a 2)) a))) (Zf (C6 1 (Bb a 2) a) (λa=>.next a)) (.next a)) (λa=>.next a))
def OQ:VE->Ao:=(λa=>Zf (Di 1 (Zn ((some []).bind Zt)) a) (λa=>Zf ((BS (λa=>(ZA ((NE Mj (λa=>Ah a 0)) a)).bind Zz) (Zl 2) Im) a) (λa=>Zf (B3 (Cn a 1)) (λa=>.next a))))
def OR:List Sl->Option Rv:=Bn 1 3 OQ
def Tf:VE->Option D:=(Zq Md (λa=>Zb (An a 1) (Zb (An a 2) (Zb (An a 0) (some [])))))
def Tg:VE->Option D:=(Ze (Dj false) (λa=>Ah a 1) (Ze Aw (λa=>Ah a 2) (λa=>Ah a 0)))
def Th:VE->Option Bool:=(λa=>C9 ((ZD HS (λa=>Zb (Zi (ZA ((ZL 2 [1] (DM (Ze Aw (λa=>Ah a 0) (λ_=>some (.int 0)))) (BU 2 (ZC (Zl 0) (ZC (Zl 1) BX))) (λ_=>some true) Tg) a))) (some []))) a))
def Y5:VE->Option D:=(λa=>Bb a 0)
def OS:VE->Ao:=(λa=>Zf (Zx 4 (ZA ((ZL 1 [0,3] (λa=>((Zb (Zi ((ZD Cd (λa=>Zb (An a 0) (some []))) a)) (some [])).bind Zt).bind Ev) (Zl 0) (λ_=>some true) Tf) a)) a) (λa=>Zf (Zx 5 (ZA ((ZL 1 [4] (λa=>(Be a 1).bind Zz) (Zl 0) Th Y5) a)) a) (λa=>Zf (B3 ((FW Mn (λa=>Zb (An a 0) (Zb (An a 5) (Zb (An a 2) (some []))))) a)) (λa=>.next a))))
def Mo:List Sl->Option Rv:=Bn 4 6 OS
def Ti:VE->Option D:=(λa=>(Zn ((Zb (Zi (Bb a 0)) (some [])).bind Zt)).map D.tup)
def Tj:VE->Option D:=(Ze Aw (λa=>Ah a 0) (λ_=>some (.int 0)))
def OT:VE->Ao:=(λa=>Zf (B3 ((ZL 1 [] (λa=>((Zq OR (λa=>Zb (Zi (ZA ((ZL 1 [] (λa=>(Be a 0).bind Zz) (Zl 0) (λ_=>some true) Ti) a))) (some []))) a).bind Zz) (Zl 0) (λ_=>some true) Tj) a)) (λa=>.next a))
def Tk:List Sl->Option Rv:=Bn 1 1 OT
def Mp:VE->Option D:=(Ze D4 (λa=>Ah a 0) (λa=>Ah a 1))
def Jn:VE->Ao:=(λa=>Zf (ZM (C9 ((Zq Oa (λa=>Zb (An a 0) (Zb (An a 3) (some [])))) a)) (Zf (Zx 5 ((ZD Dk (λa=>Zb (Zi (ZA ((ZL 2 [] (Hl (λa=>Be a 0) (λa=>Be a 3)) (BU 2 (ZC (Zl 0) (ZC (Zl 1) BX))) (λ_=>some true) Mp) a))) (some []))) a) a) (λa=>Zf (Ia 2 (Ah a 5) (Ln (AO ((Ze (EH false) (λa=>Ah a 5) (λa=>Ah a 2)) a)) ((Zq Mb (λa=>Zb (Zi ((Ze D4 (λa=>Ah a 2) (λa=>Ah a 5)) a)) (Zb (An a 4) (some [])))) a) (Bb a 4)) a) (λa=>.next a))) (.next a)) (λa=>.next a))
def Tl:VE->Option D:=(λa=>(Zn ((Zb (Zi (Bb a 0)) (Zb (Zi ((Ze D4 (λa=>Ah a 1) (λa=>Ah a 0)) a)) (some []))).bind Zt)).map D.tup)
def OU:VE->Ao:=(λa=>Zf (EY 2 (some []) a) (λa=>Zf ((BS (λa=>(Be a 1).bind Zz) (BU 2 (ZC (Zl 3) (ZC (Zl 4) BX))) Jn) a) (λa=>Zf (B3 ((ZL 1 [2] (λa=>((Zq OR (λa=>Zb (Zi (ZA ((Cv L9 (λa=>Zb (An a 2) (some []))) a))) (some []))) a).bind Zz) (Zl 0) (λ_=>some true) Tl) a)) (λa=>.next a))))
def OV:List Sl->Option Rv:=Bn 2 6 OU
def Tn:VE->Option D:=(λa=>(Zn ((Zb (Zi (Bb a 0)) (Zb (Zi (some (.bl true))) (some []))).bind Zt)).map D.tup)
def To:VE->Option Bool:=(λa=>AO ((Ze (EH false) (Zq Fz (λa=>Zb (An a 0) (Zb (Zi ((Ze Aw (λa=>Ah a 1) (λ_=>some (.int 1))) a)) (some [])))) (λa=>Ah a 2)) a))
def Y6:VE->Option D:=(λa=>Bb a 0)
def Kx:VE->Ao:=(λa=>Zf (ZM (AO ((Ze CH (Ze Aw (λa=>Ah a 4) (λ_=>some (.int 0))) (λa=>Ah a 2)) a)) (Zf (EY 5 ((GV (λa=>ZA ((ZL 1 [] (λa=>((Ze Aw (λa=>Ah a 4) (λ_=>some (.int 2))) a).bind Zz) (Zl 0) (λ_=>some true) Tn) a))) a) a) (λa=>Zf (Zx 3 (ZA ((ZL 1 [4,5] (λa=>(Be a 3).bind Zz) (Zl 0) To Y6) a)) a) (λa=>.next a))) (.next a)) (λa=>.next a))
def Tp:VE->Option D:=(Ze Aw (λa=>Ah a 0) (λ_=>some (.int 0)))
def OW:VE->Ao:=(λa=>Zf (Zx 3 ((Ze Aw (λa=>Ah a 0) (λa=>Ah a 2)) a) a) (λa=>Zf ((BS (λa=>(Be a 1).bind Zz) (Zl 4) Kx) a) (λa=>Zf (B3 ((FW Tk (λa=>Zb (Zi (ZA ((ZL 1 [] (λa=>(Be a 3).bind Zz) (Zl 0) (λ_=>some true) Tp) a))) (some []))) a)) (λa=>.next a))))
def Tq:List Sl->Option Rv:=Bn 3 6 OW
def Tr:VE->Option D:=(λa=>(Zn ((Zb (Zi (Bb a 0)) (Zb (Zi ((Zq NX (λa=>Zb (Zi (ZA (Zn ((Zb (Zi (Bb a 1)) (some [])).bind Zt)))) (some []))) a)) (some []))).bind Zt)).map D.tup)
def OX:VE->Ao:=(λa=>Zf (Zx 3 (ZA ((ZL 2 [] (λa=>(Be a 1).bind Zz) (BU 2 (ZC (Zl 0) (ZC (Zl 1) BX))) (λ_=>some true) Tr) a)) a) (λa=>Zf (B3 ((FW OV (λa=>Zb (Zi ((Zq Ta (λa=>Zb (An a 0) (Zb (Zi ((Zq R0 (λa=>Zb (An a 0) (some []))) a)) (Zb (An a 2) (some []))))) a)) (Zb (An a 3) (some [])))) a)) (λa=>.next a)))
def Ts:List Sl->Option Rv:=Bn 3 4 OX
def Mq:VE->Option D:=(Zq Tq (λa=>Zb (An a 1) (Zb (An a 2) (Zb (An a 0) (some [])))))
def Ky:VE->Ao:=(λa=>Zf (B3 ((ZL 1 [0,1] (λa=>((Zb (Zi ((ZD Cd (λa=>Zb (An a 0) (some []))) a)) (some [])).bind Zt).bind Ev) (Zl 0) (λ_=>some true) Mq) a)) (λa=>.next a))
def Mr:List Sl->Option Rv:=Bn 2 2 Ky
def Jo:VE->Ao:=(λa=>Zf (Zx 7 ((Zq Mk (λa=>Zb (An a 6) (Zb (Zi ((Ze Aw (λa=>Ah a 1) (λa=>Ah a 5)) a)) (Zb (Zi ((Ze Aw (λa=>Ah a 2) (λa=>Ah a 5)) a)) (Zb (Zi ((Ze Aw (λa=>Ah a 4) (λa=>Ah a 5)) a)) (some [])))))) a) a) (λa=>Zf (ZM (C8 (Gk (Ah a 7))) (Zf (ZO ((Zn ((Zb (Zi (Bb a 5)) (Zb (Zi ((Ze Aw (λa=>Ah a 7) (λ_=>some (.int 0))) a)) (Zb (Zi ((Ze Aw (λa=>Ah a 7) (λ_=>some (.int 1))) a)) (some [])))).bind Zt)).map D.tup)) (λa=>.next a)) (.next a)) (λa=>.next a)))
def OY:VE->Ao:=(λa=>Zx 4 ((Zq Mr (λa=>Zb (An a 0) (Zb (An a 3) (some [])))) a) a)
def OZ:VE->Ao:=(λa=>ZM (AO ((Ze (Dj false) (λa=>ZA (Zn ((some []).bind Zt))) (λa=>Ah a 4)) a)) (Zf (ZO (some .non)) (λa=>.next a)) (.next a))
def Tt:VE->Ao:=(BS (DM (λa=>Be a 0)) (BU 2 (ZC (Zl 5) (ZC (Zl 6) BX))) Jo)
def Y7:VE->Ao:=(λa=>ZO (some .non))
def nA:VE->Ao:=λa=>.next a
def Y8:VE->Ao:=λa=>Zf (Y7 a) nA
def Tu:VE->Ao:=λa=>Zf (Tt a) Y8
def O0:VE->Ao:=λa=>Zf (OZ a) Tu
def Ms:VE->Ao:=λa=>Zf (OY a) O0
def Y9:VE->Ao:=Ms
def Gu:List Sl->Option Rv:=Bn 4 8 Y9
def Tv:VE->Option D:=(Zq Sn (λa=>Zb (An a 1) (Zb (Zi ((Ze Aw (λa=>Ah a 2) (λa=>Ah a 0)) a)) (Zb (Zi ((Ze Aw (λa=>Ah a 3) (λa=>Ah a 0)) a)) (Zb (Zi ((Ze Aw (λa=>Ah a 4) (λa=>Ah a 0)) a)) (some []))))))
def O1:VE->Ao:=(λa=>Zf (Zx 4 ((Zq Mr (λa=>Zb (An a 0) (Zb (An a 3) (some [])))) a) a) (λa=>Zf (B3 ((ZL 2 [1,2,4] (DM (λa=>Be a 0)) (BU 2 (ZC (Zl 0) (ZC (Zl 1) BX))) (λ_=>some true) Tv) a)) (λa=>.next a)))
def Tw:List Sl->Option Rv:=Bn 4 5 O1
def O2:VE->Ao:=(λa=>Zf (ZM (C8 (Gk ((Zq Gu (λa=>Zb (An a 0) (Zb (An a 2) (Zb (An a 3) (Zb (An a 4) (some [])))))) a))) (Zf (.fail) (λa=>.next a)) (.next a)) (λa=>Zf (B3 ((FW OV (λa=>Zb (Zi ((Zq Tw (λa=>Zb (An a 0) (Zb (An a 2) (Zb (An a 3) (Zb (An a 4) (some [])))))) a)) (Zb (An a 1) (some [])))) a)) (λa=>.next a)))
def O3:List Sl->Option Rv:=Bn 5 5 O2
def O4:VE->Option Ae:=(λa=>Ry (C8 (Gk ((Zq Gu (λa=>Zb (An a 0) (Zb (An a 2) (Zb (An a 3) (Zb (An a 4) (some [])))))) a))) (RB (Zb (Zi (some (.str "the table does not answer the question"))) (some [])) "NoGrain") (none))
def Tz:List Sl->Option Ae:=fnX 5 5 O4
def TB:VE->Ao:=(λa=>Zf (ZO ((NM 5 CS (L5 "ValueError")) a)) (λa=>.next a))
def O5:VE->Ao:=(λa=>Zf (NK CS 5 ((Zb (An a 0) (Zb (An a 1) (Zb (An a 2) (Zb (An a 3) (Zb (An a 4) (some [])))))).bind Tz) (X9 ((Zq O3 (λa=>Zb (An a 0) (Zb (An a 1) (Zb (An a 2) (Zb (An a 3) (Zb (An a 4) (some []))))))) a) a) TB a) (λa=>Zf (ZO (some (.bl false))) (λa=>.next a)))
def TC:List Sl->Option Rv:=Bn 5 6 O5
def TF:VE->Option D:=(λa=>(Zn ((Zb (Zi ((ZD Dk (λa=>Zb (An a 0) (some []))) a)) (Zb (Zi (Bb a 1)) (some []))).bind Zt)).map D.tup)
def Mt:VE->List (List D)->Do:=(λa b=>F1 ((λa b=>Ii 10 a (Zx 12 ((Zq Md (λa=>Zb (An a 0) (Zb (An a 3) (Zb (An a 11) (some []))))) a) a) b) a b) (λa b=>F1 ((λa b=>Ii 10 a (ZM (AO ((Ze CH (λa=>Ah a 11) (λa=>Ah a 6)) a)) (Zf (Zx 12 (ZA (Zn ((Zb (Zi (Bb a 7)) (some [])).bind Zt))) a) (λa=>.next a)) (.next a)) b) a b) (λa b=>F1 ((λa b=>Ii 10 a (ZM (AO ((Ze CH (λa=>Ah a 12) (λa=>ZA (Zn ((some []).bind Zt)))) a)) (Zf (ZO (some (.bl false))) (λa=>.next a)) (.next a)) b) a b) (λa b=>F1 ((λa b=>Ij 0 ((Ze Aw (λa=>Ah a 12) (λ_=>some (.int 0))) a) a b) a b) (λa b=>F1 ((λa b=>Ij 1 ((Ze Aw (λa=>ZA (Zn ((Zb (Zi ((Ze Aw (λa=>Ah a 12) (λ_=>some (.int 0))) a)) (Zb (Zi (Bb a 8)) (some []))).bind Zt))) (ZD Gp (λa=>Zb (Zi ((Ze CH (λa=>Ah a 11) (λa=>Ah a 6)) a)) (some [])))) a) a b) a b) (λa b=>.next a b))))))
def TH:VE->Option D:=(Ze Aw (λa=>Ah a 0) (λ_=>some (.int 0)))
def O6:VE->Ao:=(λa=>Zf (Ny (BU 3 (ZC (Zl 6) (ZC (Zl 7) (ZC (Zl 8) BX)))) (Bb a 4) a) (λa=>Zf (ZM (EV (C8 (C9 ((Zq Om (λa=>Zb (An a 6) (some []))) a))) (C8 (AO ((LJ Wh IT (λ_=>some (.int 0)) (λa=>Ah a 6) (ZD Cd (λa=>Zb (An a 0) (some [])))) a)))) (Zf (ZO (some (.bl false))) (λa=>.next a)) (.next a)) (λa=>Zf (Zx 9 (ZA ((ZL 1 [] (λa=>((Ze Aw (λa=>Ah a 0) (λa=>Ah a 6)) a).bind Zz) (Zl 0) (λ_=>some true) TH) a)) a) (λa=>Zf (ZM (EV (AO ((Ze (Dj true) (λa=>Ah a 7) (λa=>Ah a 9)) a)) (EV (AO ((Ze (Dj true) (λa=>Ah a 8) (λa=>Ah a 9)) a)) (EV (C9 ((ZD FZ (λa=>Zb (An a 7) (Zb (Zi (some (.ty "bool"))) (some [])))) a)) (C9 ((ZD FZ (λa=>Zb (An a 8) (Zb (Zi (some (.ty "bool"))) (some [])))) a))))) (Zf (ZO (some (.bl false))) (λa=>.next a)) (.next a)) (RQ 10 (λa b=>F1 ((forM (λa=>((Zb (Zi ((ZD Cd (λa=>Zb (An a 0) (some []))) a)) (some [])).bind Zt).bind Ev) (Zl 11) 10 Mt) a b) (λa b=>RM ((λa=>Zf (Zx 13 (ZA ((ZL 1 [5] (λa=>(Be a 10).bind Zz) (Zl 0) (λ_=>some true) TF) a)) a) (λa=>Zf (Zx 14 ((Zq Mn (λa=>Zb (An a 0) (Zb (Zi ((Ch (λa=>Ah a 13) (λ_=>some none) (λa=>Cb (some (.int 1))) E1) a)) (Zb (An a 1) (some []))))) a) a) (λa=>Zf (ZM (EV (AO ((Ze Dy (λa=>Ah a 14) (Zq Mn (λa=>Zb (An a 0) (Zb (Zi ((Ch (λa=>Ah a 13) (λa=>Cb (some (.int 1))) (λ_=>some none) E1) a)) (Zb (An a 1) (some [])))))) a)) (C8 (C9 ((Zq TC (λa=>Zb (An a 0) (Zb (An a 14) (Zb (An a 1) (Zb (An a 2) (Zb (An a 3) (some []))))))) a)))) (Zf (ZO (some (.bl false))) (λa=>.next a)) (.next a)) (λa=>Zf (ZO ((Ze Dy (Zq Mo (λa=>Zb (An a 0) (Zb (Zi ((Ch (λa=>Ah a 13) (λ_=>some none) (λa=>Cb (some (.int 1))) E1) a)) (Zb (An a 2) (Zb (An a 3) (some [])))))) (Zq Mo (λa=>Zb (An a 0) (Zb (Zi ((Ch (λa=>Ah a 13) (λa=>Cb (some (.int 1))) (λ_=>some none) E1) a)) (Zb (An a 2) (Zb (An a 3) (some []))))))) a)) (λa=>.next a))))) (a.set 10 (.val (.lst (b.map λz=>D.lst z))))))))))))
def TJ:List Sl->Option Rv:=Bn 6 15 O6
def O7:VE->Option D:=(ZD NT (λa=>Zb (An a 0) (some [])))
def aa:VE->Option D:=(λa=>ZA ((Cv IU (λa=>Zb (An a 0) (some []))) a))
def TK:VE->Ao:=(λa=>Zf (Zx 9 ((Zq Ts (λa=>Zb (Zi ((Ze Aw (λa=>Ah a 6) (λ_=>some (.int 0))) a)) (Zb (Zi (ZA ((Cv IU (λa=>Zb (An a 8) (some []))) a))) (Zb (An a 3) (some []))))) a) a) (λa=>Zf (ZM (AO ((Ze Dy (Zq O3 (λa=>Zb (Zi ((Ze Aw (λa=>Ah a 6) (λ_=>some (.int 0))) a)) (Zb (An a 9) (Zb (An a 3) (Zb (An a 4) (Zb (Zi ((Ze Aw (λa=>Ah a 6) (λ_=>some (.int 1))) a)) (some []))))))) (Zq Mo (λa=>Zb (An a 1) (Zb (An a 8) (Zb (An a 4) (Zb (An a 5) (some []))))))) a)) (Zf (ZO (some (.bl false))) (λa=>.next a)) (.next a)) (λa=>.next a)))
def ac:VE->Ao:=(λa=>Zx 1 ((Zq Td (λa=>Zb (An a 0) (some []))) a) a)
def ae:VE->Ao:=(λa=>Zx 2 ((Zq Tc (λa=>Zb (An a 0) (Zb (An a 1) (some [])))) a) a)
def af:VE->Ao:=(λa=>Zx 3 ((Zq Oj (λa=>Zb (Zi ((Zq ZQ (λa=>Zb (An a 0) (Zb (Zi (some (.int 4))) (some [])))) a)) (Zb (An a 1) (some [])))) a) a)
def ag:VE->Ao:=(λa=>Zx 4 ((Zq Oj (λa=>Zb (Zi ((Zq ZQ (λa=>Zb (An a 0) (Zb (Zi (some (.int 6))) (some [])))) a)) (Zb (An a 1) (some [])))) a) a)
def O8:VE->Ao:=(λa=>ZM (AO ((Ze CH (Ze ZW (Ze Dt (Zq ZQ (λa=>Zb (An a 0) (Zb (Zi (some (.int 6))) (some [])))) (λ_=>some (.int 125))) (λ_=>some (.int 2))) (λ_=>some (.int 1))) a)) (Zf (Zx 3 ((ZD Dk (λa=>Zb (Zi (ZA ((ZL 1 [] (Hl (λa=>Be a 3) (λa=>Be a 4)) (Zl 0) (λ_=>some true) O7) a))) (some []))) a) a) (λa=>.next a)) (.next a))
def ah:VE->Ao:=(λa=>Zx 5 ((Zq SO (λa=>Zb (Zi ((Ch (λa=>Ah a 0) (λa=>Cb (some (.int 7))) (λa=>Cb ((Ze ZJ (λ_=>some (.int 7)) (Ze ZW (Zq ZQ (λa=>Zb (An a 0) (Zb (Zi (some (.int 10))) (some [])))) (λ_=>some (.int 4)))) a)) E1) a)) (Zb (An a 1) (some [])))) a) a)
def ai:VE->Ao:=(λa=>Zx 6 (ZA (Zn ((Zb (Zi (ZA ((ZL 1 [] (λa=>(Be a 1).bind Zz) (Zl 0) (λ_=>some true) aa) a))) (Zb (Zi (ZA ((Cv IU (λa=>Zb (An a 5) (some []))) a))) (some []))).bind Zt))) a)
def aj:VE->Ao:=(λa=>Zx 7 ((Zq Gu (λa=>Zb (Zi ((Ze Aw (λa=>Ah a 6) (λ_=>some (.int 0))) a)) (Zb (An a 3) (Zb (An a 4) (Zb (Zi ((Ze Aw (λa=>Ah a 6) (λ_=>some (.int 1))) a)) (some [])))))) a) a)
def ak:VE->Ao:=(λa=>ZM (AO ((Ze Dy (λa=>Ah a 6) (λa=>ZA (Zn ((Zb (Zi (Bb a 1)) (Zb (Zi (Bb a 5)) (some []))).bind Zt)))) a)) (Zf (ZO (some (.bl false))) (λa=>.next a)) (.next a))
def TL:VE->Ao:=(λa=>ZM (C8 (Gk (Ah a 7))) (Zf (ZM (EV (C8 (C9 ((ZD FZ (λa=>Zb (An a 7) (Zb (Zi (some (.ty "tuple"))) (some [])))) a))) (AO ((Ze Dy (ZD Cd (λa=>Zb (An a 7) (some []))) (λ_=>some (.int 3))) a))) (Zf (ZO (some (.bl false))) (λa=>.next a)) (.next a)) (λa=>Zf (ZO ((Zq TJ (λa=>Zb (An a 1) (Zb (An a 3) (Zb (An a 4) (Zb (An a 5) (Zb (An a 7) (Zb (Zi ((Ze ZW (Zq ZQ (λa=>Zb (An a 0) (Zb (Zi (some (.int 5))) (some [])))) (Ze Ez (λ_=>some (.int 10)) (λ_=>some (.int 30)))) a)) (some [])))))))) a)) (λa=>.next a))) (.next a))
def al:VE->Ao:=(BS (λa=>(ZA (Zn ((Zb (Zi (Bb a 2)) (Zb (Zi ((Ch (λa=>Ah a 2) (λ_=>some none) (λa=>Cb ((Ze Dt (ZD Cd (λa=>Zb (An a 2) (some []))) (λ_=>some (.int 2))) a)) E1) a)) (Zb (Zi (ZA (Zn ((some []).bind Zt)))) (some [])))).bind Zt))).bind Zz) (Zl 8) TK)
def ao:VE->Ao:=(λa=>ZO (some (.bl true)))
def nB:VE->Ao:=λa=>.next a
def ap:VE->Ao:=λa=>Zf (ao a) nB
def aq:VE->Ao:=λa=>Zf (al a) ap
def O9:VE->Ao:=λa=>Zf (TL a) aq
def ar:VE->Ao:=λa=>Zf (ak a) O9
def au:VE->Ao:=λa=>Zf (aj a) ar
def av:VE->Ao:=λa=>Zf (ai a) au
def aw:VE->Ao:=λa=>Zf (ah a) av
def ax:VE->Ao:=λa=>Zf (O8 a) aw
def ay:VE->Ao:=λa=>Zf (ag a) ax
def az:VE->Ao:=λa=>Zf (af a) ay
def aA:VE->Ao:=λa=>Zf (ae a) az
def Pa:VE->Ao:=λa=>Zf (ac a) aA
def aB:VE->Ao:=Pa
def aC:List Sl->Option Rv:=Bn 1 10 aB
def Al(l:List At):D:=.tup (l.map aD)
theorem Pb:∀(a b:At),AB (aD a) (aD b)=decide (a=b):=by
 intro a b
 cases a<;>cases b<;>simp[aD]
theorem TM:∀(a b:List At),Cr (a.map aD) (b.map aD)=decide (a=b)
 |[],[]=>by simp
 |[],_::_=>by simp
 |_::_,[]=>by simp
 |x::a,y::b=>by
  have c:=TM a b
  rw[Io]
  simp[Pb,c]
theorem Jp(n:Nat)(a:At):A3 n (aD a)=true:=by cases a<;>cases n<;>rfl
theorem Mu(n:Nat)(l:List At):A3 (n+1) (Al l)=true:=by
 show(l.map aD).all (A3 n)=true
 rw[GP,D9]
 exact λa _=>Jp n a
theorem aE(a b:List At):Dy (Al a) (Al b)=some (.bl (!decide (a=b))):=by
 have c:=Mu 11 a
 have d:=Mu 11 b
 have e:AB (Al a) (Al b)=decide (a=b):=by simp only[Al,AB,TM]
 simp only[Dy,Ik,c,d,e,EI,if_true]
abbrev LL:=List (List (List At))
abbrev L1:=List (List At)
def B7:Ae:="abcdefghijklmnopqrstuvwxyz"
def signs:Ae:="abcdefghijklmnopqrstuvwxyz0123456789"
theorem nC:signs.length=36:=by decide +kernel
theorem aF(x:Ae)(l u:Option Int):DG x l u=StrLaws.sliceText x l u:=rfl
theorem nE(x:Ae)(j:Nat)(h:j<=x.cps.toList.length):(DG x none (some (j:Int))).cps.toList=x.cps.toList.take j:=by
 rw[aF,StrLaws.sliceText_to ⟨by omega,by omega⟩]
 simp
theorem nG(x:Ae)(j:Nat)(h:j<=x.cps.toList.length):(DG x (some (j:Int)) none).cps.toList=x.cps.toList.drop j:=by
 rw[aF,StrLaws.sliceText_from ⟨by omega,by omega⟩]
 simp only[List.toList_toArray]
 rw[LH]
 ·simp
 ·simp only[MW];omega
theorem Kz(x y:Ae):(x++y).cps.toList=x.cps.toList++y.cps.toList:=by
 show(x.cps++y.cps).toList=_
 simp
theorem TN(c:Nat):(⟨#[c]⟩:Ae).cps.toList=[c]:=rfl
theorem FR(x:Ae):x.length=x.cps.toList.length:=by simp[Str.length]
def zt(n k:Nat):List Nat:=(Txt.zfill (DT (BF (k:Int))) (n:Int)).cps.toList
theorem nH:∀n∈[1,2,3,4],∀k∈Ba 47,(zt n k).length<=4:=by decide +kernel
theorem nI:∀n∈[1,2,3,4],((Ba 47).map (zt n)).Nodup:=by decide +kernel
theorem aG{b:Type}{f:Nat->b}{m:Nat}(h:((Ba m).map f).Nodup){j k:Nat}(c:j<m)(d:k<m)(e:f j=f k):j=k:=by
 rw[List.nodup_iff_pairwise_ne,List.pairwise_map]at h
 rcases Nat.lt_trichotomy j k with a|a|a
 ·exact absurd e (List.pairwise_iff_getElem.mp h j k (by simpa) (by simpa) a |> λz=>by simpa using z)
 ·exact a
 ·exact absurd e.symm (List.pairwise_iff_getElem.mp h k j (by simpa) (by simpa) a |> λz=>by simpa using z)
def KA(i:Nat):Nat:=B7.cps.toList.getD i 0
theorem nJ:((Ba 26).map KA).Nodup:=by decide +kernel
theorem nK:B7.cps.toList.length=26:=by decide +kernel
theorem nM(i:Nat)(h:i<26):Aw (.str "abcdefghijklmnopqrstuvwxyz") (.int (i:Int))=some (.str ⟨#[KA i]⟩):=by
 have a:=nK
 have b:B7.length<=AG:=by rw[FR,a];decide
 have e:atI B7.cps.toList (i:Int)=some (KA i):=DV (by rw[Cu (by omega)];simp[KA,CL,Cu (show i<B7.cps.toList.length by omega)])
 show(if B7.length<=AG then(atI B7.cps.toList (i:Int)).map (λc=>D.str ⟨#[c]⟩)else none)=_
 rw[if_pos b,e];rfl
theorem aH(i:Int)(k:Int)(a:0<k)(b:k<=36):∃c,Aw (.str "abcdefghijklmnopqrstuvwxyz0123456789") (.int (i%k))=some (.str ⟨#[c]⟩):=by
 have d:=nC
 obtain⟨c,h,e⟩:=nl (z:=signs) (i:=i%k) (by omega) (Jq _ (by omega)) (by have:=Pc i a;omega)
 exact⟨c,h⟩
abbrev SG:Sl:=.val (.str "abcdefghijklmnopqrstuvwxyz0123456789")
theorem aI(c:Int)(g:Sl):∀(b:List Nat)(z:Ae)(d:Sl),(∀k∈b,k<1000)->z.length+b.length<=1000->∃f a,Z0 (Zl 4) Sa (b.map λ(k:Nat)=>D.int (k:Int)) [.val (.int c),g,SG,.val (.str z),d]=.next [.val (.int c),g,SG,.val (.str f),a]/\f.length=z.length+b.length
 |[],z,d,_,_=>⟨z,d,rfl,rfl⟩
 |k::b,z,d,i,h=>by
  simp only[Cq]at h
  have m:=i k BC
  obtain⟨x,n⟩:=aH (c/((k:Int)+3)) 36 (by decide) (by decide)
  have o:(⟨#[x]⟩:Ae).length=1:=by simp[Str.length]
  have p:=Ma z ⟨#[x]⟩ (by rw[o];omega)
  have l:(z++⟨#[x]⟩).length=z.length+1:=by rw[FR,Kz,FR];simp
  obtain⟨f,a,e,q⟩:=aI c g b (z++⟨#[x]⟩) (.val (.int (k:Int))) (λj r=>i j (Bv _ r)) (by rw[l];omega)
  have hd:DR c ((k:Int)+3):=⟨by omega,by omega⟩
  refine⟨f,a,?_,by rw[q,l,Cq];omega⟩
  have a1:ZJ (.int (k:Int)) (.int 3)=some (.int ((k:Int)+3)):=rfl
  simp[Z0,Sa,-Aw,-ZJ,a1,hd,n,p,e]
theorem aJ(c:Int)(m:Nat)(i:m<=100):∃z,Mc [.val (.int c),.val (.int (m:Int))]=some (.val (.str z))/\z.cps.toList.length=m+1:=by
 obtain⟨x,a⟩:=aH c 26 (by decide) (by decide)
 have b:=GW m (by omega)
 obtain⟨d,f,e,g⟩:=aI c (.val (.int (m:Int))) (Ba m) ⟨#[x]⟩ .no (λk h=>by have:=List.mem_range.mp h;omega) (by simp[Str.length];omega)
 refine⟨d,?_,by rw[<- FR,g,List.length_range,FR,TN,Qy];omega⟩
 simp[Mc,Bn,Sb,Yz,Ys,Yy,Yt,Yx,Yu,Yw,Yv,-Aw,a,b,e]
def KC(f:Nat->At):Prop:=∀j k,j<47->k<47->f j=f k->j=k
theorem nN{W:List Nat}{a x y b c:Nat}(h:W.take a++[x,y]++W.drop a=W.take a++[b,c]++W.drop a):x=b/\y=c:=by
 rw[Ig,Ig]at h
 have h:=List.append_cancel_left h
 simp only[M5,KD,LQ]at h
 exact⟨h.1,h.2.1⟩
theorem nO(a cell:Int)(w0:a=0):∃f,KC f/\∀k:Nat,k<47->FA [.val (.int a),.val (.int cell),.val (.int (k:Int))]=some (.val (aD (f k))):=by
 have d4:DR cell 4:=by constructor<;>decide
 refine⟨λk=>.int (cell/4%10^30+k),λj k _ _ e=>by injection e with e;omega,λk b=>?_⟩
 simp[FA,Bn,Kw,Mh,Me,Mg,Mf,d4,E7,w0,aD]
theorem nP(a cell:Int)(w1:a=1):∃f,KC f/\∀k:Nat,k<47->FA [.val (.int a),.val (.int cell),.val (.int (k:Int))]=some (.val (aD (f k))):=by
 have d4:DR cell 4:=by constructor<;>decide
 refine⟨λk=>.int (0-cell/4%10^30-k),λj k _ _ e=>by injection e with e;omega,λk b=>?_⟩
 simp[FA,Bn,Kw,Mh,Me,Mg,Mf,Ow,Ov,d4,E7,w1,aD]
theorem E4(x:Int)(n:Nat)(h:0<n):∃a:Nat,x%(n:Int)=(a:Int)/\a<n:=by
 have b:=Jq x (show(n:Int)≠0 by omega)
 have c:=Pc x (show(0:Int)<(n:Int) by omega)
 exact⟨(x%(n:Int)).toNat,by omega,by omega⟩
theorem nQ(b cell:Int)(w2:b=2):∃f,KC f/\∀k:Nat,k<47->FA [.val (.int b),.val (.int cell),.val (.int (k:Int))]=some (.val (aD (f k))):=by
 have d4:DR cell 4:=by constructor<;>decide
 have d8:DR cell 8:=by constructor<;>decide
 obtain⟨m,d,c⟩:=E4 cell 8 (by decide)
 replace d:cell%8=(m:Int):=d
 replace c:=Nat.le_of_lt_succ c
 obtain⟨w,p,g⟩:=aJ (cell/4) m (by omega)
 obtain⟨q,r,h⟩:=E4 (cell/8) 4 (by decide)
 obtain⟨n,t,a⟩:∃n:Nat,1+cell/8%4=(n:Int)/\n∈[1,2,3,4]:=⟨1+q,congrArg (1+·) r,(by decide:∀q<4,1+q∈[1,2,3,4]) q h⟩
 have u:n<=4:=(by decide:∀n∈[1,2,3,4],n<=4) n a
 refine⟨λk=>.str (w++Txt.zfill (DT (BF (k:Int))) (n:Int)),λj k v i e=>?_,λk i=>?_⟩
 ·injection e with e
  have:=congrArg (λs:Ae=>s.cps.toList) e
  simp only[Kz]at this
  exact aG (nI n a) v i (List.append_cancel_left this)
 ·have l:((k:Int).natAbs).log2<1920:=QB (Nat.log2_le_self _) (by omega)
  have x:=kI (DT (BF (k:Int))) (n:Int) (by omega) (by omega)
  have y:=Ma w (Txt.zfill (DT (BF (k:Int))) (n:Int)) (by rw[FR,FR,g];have:=nH n a k (List.mem_range.mpr i);unfold zt at this;omega)
  have a1:ZJ (.int 1) (.int (cell/8%4))=some (.int (n:Int)):=by rw[<- t];rfl
  have o:J6 [.int (k:Int)]=some (.str (DT (BF (k:Int)))):=by simp only[J6];rw[if_pos l]
  dsimp only
  generalize DT (BF (k:Int))=T at *
  simp[FA,Bn,Kw,Mh,Me,Mg,Mf,Ow,Ov,Ss,So,Sr,Sq,d4,d8,E7,w2,d,p,-J6,o,-ZJ,a1,x,y,aD]
theorem nR(j k a:Nat)(b:j<47)(c:k<47)(d:j/26=k/26)(e:(j+a)%26=(k+a)%26):j=k:=by omega
theorem TQ{j:Nat}(h:j<47):j/26<26:=by omega
theorem nS:∃lt:Nat->Nat,(∀i j,i<26->j<26->lt i=lt j->i=j)/\∀i:Nat,i<26->Aw (.str "abcdefghijklmnopqrstuvwxyz") (.int (i:Int))=some (.str ⟨#[lt i]⟩):=
 ⟨KA,λi j a b e=>aG (f:=KA) nJ a b e,nM⟩
theorem nT(w:Ae)(a x y:Nat)(h:a<=w.cps.toList.length):(DG w none (some (a:Int))++(⟨#[x]⟩++⟨#[y]⟩)++DG w (some (a:Int)) none).cps.toList=w.cps.toList.take a++[x,y]++w.cps.toList.drop a:=by
 rw[Kz,Kz,Kz,TN,TN,nE w a h,nG w a h]
 rfl
theorem nU(w:Ae)(a x y:Nat)(h:w.length<=100):ZJ (.str ⟨#[x]⟩) (.str ⟨#[y]⟩)=some (.str (⟨#[x]⟩++⟨#[y]⟩))/\ZJ (.str (DG w none (some (a:Int)))) (.str (⟨#[x]⟩++⟨#[y]⟩))=some (.str (DG w none (some (a:Int))++(⟨#[x]⟩++⟨#[y]⟩))) /\
  ZJ (.str (DG w none (some (a:Int))++(⟨#[x]⟩++⟨#[y]⟩))) (.str (DG w (some (a:Int)) none))=some (.str (DG w none (some (a:Int))++(⟨#[x]⟩++⟨#[y]⟩)++DG w (some (a:Int)) none)):=by
 have b:∀c:Nat,(⟨#[c]⟩:Ae).length=1:=λc=>by simp[Str.length]
 have d:∀x y:Ae,(x++y).length=x.length+y.length:=λx y=>by rw[FR,FR,FR,Kz,Ge]
 have e:=Txt.slice_le w none (some (a:Int))
 have f:=Txt.slice_le w (some (a:Int)) none
 refine⟨Ma _ _ (by rw[b,b];omega),Ma _ _ (by rw[d,b,b];omega),Ma _ _ (by rw[d,d,b,b];omega)⟩
theorem nV(c cell:Int)(w0:¬ c=0)(w1:¬ c=1)(w2:¬ c=2)(m q1 q2 k:Nat)(a:Int)(w A B S1 S2 S3 C:Ae)(l:cell%8=(m:Int))(n:Mc [.val (.int (cell/4)),.val (.int (m:Int))]=some (.val (.str w)))(d:Cd [.str w]=some (.int ((m:Int)+1)))(e:w.length<=AG)
  (f:cell/8%((m:Int)+1+1)=a) (o:DG w none (some a)=A) (p:DG w (some a) none=B) (q:(k:Int)/26=(q1:Int)) (r:((k:Int)+cell/8)%26=(q2:Int))
  (s:Aw (.str "abcdefghijklmnopqrstuvwxyz") (.int (q1:Int))=some (.str S1)) (t:Aw (.str "abcdefghijklmnopqrstuvwxyz") (.int (q2:Int))=some (.str S2)) (g:ZJ (.str S1) (.str S2)=some (.str S3)) (h:ZJ (.str A) (.str S3)=some (.str C)) (j:Ae) (i:ZJ (.str C) (.str B)=some (.str j)):
  FA [.val (.int c),.val (.int cell),.val (.int (k:Int))]=some (.val (.str j)):=by
 have d4:DR cell 4:=by constructor<;>decide
 have d8:DR cell 8:=by constructor<;>decide
 have d26:DR (k:Int) 26:=by constructor<;>decide
 have u:(0:Int)<(m:Int)+1+1:=by omega
 have a1:∀a b:Int,ZJ (.int a) (.int b)=some (.int (a+b)):=λ_ _=>rfl
 simp[FA,Bn,Kw,Mh,Me,Mg,Mf,Ow,Ov,Ss,So,Sr,Sq,YH,YA,YG,YB,YF,YC,YE,YD,d4,d8,d26,E7,w0,w1,w2,l,n,-ZJ,a1,-Cd,d,u,f,q,r,-Aw,s,t,g,e,o,p,h,i]
theorem nW(x:Int)(m:Nat):∃a:Nat,x%((m:Int)+1+1)=(a:Int)/\a<=m+1:=by
 have b:=Jq x (show(m:Int)+1+1≠0 by omega)
 have c:=Pc x (show(0:Int)<(m:Int)+1+1 by omega)
 exact⟨(x%((m:Int)+1+1)).toNat,by omega,by omega⟩
theorem nX(x:Int):∃a:Nat,∀k:Nat,((k:Int)+x)%26=(((k+a)%26:Nat):Int):=⟨(x%26).toNat,λk=>by omega⟩
theorem nY(k:Nat):(k:Int)/26=((k/26:Nat):Int):=by omega
theorem nZ(c cell:Int)(w0:¬ c=0)(w1:¬ c=1)(w2:¬ c=2):∃f,KC f/\∀k:Nat,k<47->FA [.val (.int c),.val (.int cell),.val (.int (k:Int))]=some (.val (aD (f k))):=by
 obtain⟨m,r,d⟩:=E4 cell 8 (by decide)
 replace r:cell%8=(m:Int):=r
 replace d:=Nat.le_of_lt_succ d
 obtain⟨w,E,i⟩:=aJ (cell/4) m (by omega)
 obtain⟨a,t,u⟩:=nW (cell/8) m
 obtain⟨p,v⟩:=nX (cell/8)
 obtain⟨lt,g,l⟩:=nS
 have b:w.length=m+1:=by rw[FR,i]
 have n:w.length<=AG:=by rw[b];exact CN (Nat.succ_le_succ d) (by decide)
 have x:Cd [.str w]=some (.int ((m:Int)+1)):=by simp only[Cd];rw[if_pos n,b];rfl
 have o:a<=w.cps.toList.length:=by rw[i];exact u
 have h:w.length<=100:=by rw[b];exact CN (Nat.succ_le_succ d) (by decide)
 refine⟨λk=>.str (DG w none (some (a:Int))++(⟨#[lt (k/26)]⟩++⟨#[lt ((k+p)%26)]⟩)++DG w (some (a:Int)) none),λj k B q e=>?_,λk q=>?_⟩
 ·have C:=congrArg (λs:Ae=>s.cps.toList) (At.str.inj e)
  simp only[nT w a _ _ o]at C
  obtain⟨q1,q2⟩:=nN C
  exact nR j k p B q (g _ _ (TQ B) (TQ q) q1) (g _ _ (Nat.mod_lt _ (by decide)) (Nat.mod_lt _ (by decide)) q2)
 ·obtain⟨y,z,A⟩:=nU w a (lt (k/26)) (lt ((k+p)%26)) h
  exact nV c cell w0 w1 w2 m (k/26) ((k+p)%26) k (a:Int) w _ _ _ _ _ _ r E x n t rfl rfl (nY k) (v k) (l _ (TQ q)) (l _ (Nat.mod_lt _ (by decide))) y z _ A
theorem oa(a cell:Int):∃f,KC f/\∀k:Nat,k<47->FA [.val (.int a),.val (.int cell),.val (.int (k:Int))]=some (.val (aD (f k))):=by
 by_cases w0:a=0
 ·exact nO a cell w0
 ·by_cases w1:a=1
  ·exact nP a cell w1
  ·by_cases w2:a=2
   ·exact nQ a cell w2
   ·exact nZ a cell w0 w1 w2
theorem Pd(s:Sl)(a:List Int)(c:s=.val (.lst (a.map D.int))\/s=.lent (a.map D.int))(k:Int)(d:0<=k):ZQ [s,.val (.int k)]=some (.val (.int (a.getD k.toNat 0))):=by
 by_cases h:k<a.length
 ·have b:k.toNat<a.length:=by omega
  rcases c with rfl|rfl<;>simp[ZQ,Bn,Ob,h,atI,DU,d,b]
 ·have b:a.length<=k.toNat:=by omega
  rcases c with rfl|rfl<;>simp[ZQ,Bn,Ob,h,b]
structure TO{α:Type}(lt:α->α->Bool):Prop where
 asym:∀a b,lt a b=true->lt b a=false
 neg:∀a b c,lt a c=true->lt a b=true\/lt b c=true
 anti:∀a b,lt a b=false->lt b a=false->a=b
theorem TO.irr{b:Type}{lt:b->b->Bool}(T:TO lt)(a:b):lt a a=false:=by
 cases h:lt a a with
 |false=>rfl
 |true=>have:=T.asym a a h;rw[h]at this;cases this
theorem TO.trans{d:Type}{lt:d->d->Bool}(T:TO lt){a b c:d}(e:lt a b=true)(f:lt b c=true):lt a c=true:=by
 rcases T.neg a c b e with h|h
 ·exact h
 ·rw[T.asym b c f]at h;cases h
def FC{a:Type}(lt:a->a->Bool)(x:a):List a->List a
 |[]=>[x]
 |y::r=>if lt x y then x::y::r else y::FC lt x r
def Z3{a:Type}(lt:a->a->Bool):List a->List a
 |[]=>[]
 |x::r=>FC lt x (Z3 lt r)
theorem TR{a:Type}(lt:a->a->Bool)(x:a):∀l,(FC lt x l).Perm (x::l)
 |[]=>.refl _
 |y::r=>by
  unfold FC
  split
  ·exact .refl _
  ·exact((TR lt x r).cons y).trans (.swap x y r)
theorem Fg{a:Type}(lt:a->a->Bool):∀l,(Z3 lt l).Perm l
 |[]=>.refl _
 |x::r=>(TR lt x _).trans ((Fg lt r).cons x)
theorem aK{f:Type}{lt:f->f->Bool}(T:TO lt)(x:f):∀l:List f,l.Pairwise (λa b=>lt b a=false)->(FC lt x l).Pairwise λa b=>lt b a=false
 |[],_=>by simp[FC]
 |y::r,g=>by
  obtain⟨h,i⟩:=List.pairwise_cons.mp g
  unfold FC
  split
  ·next d=>
   refine List.pairwise_cons.mpr ⟨λz c=>?_,g⟩
   rcases Br.mp c with e|c
   ·subst e;exact T.asym x z d
   ·cases j:lt z x with
    |false=>rfl
    |true=>
     rcases T.neg z y x j with q|q
     ·rw[h z c]at q;cases q
     ·rw[T.asym x y d]at q;cases q
  ·next d=>
   rw[LG]at d
   refine List.pairwise_cons.mpr ⟨λz c=>?_,aK T x r i⟩
   rcases Br.mp ((TR lt x r).subset c)with e|c
   ·subst e;exact d
   ·exact h z c
theorem TU{c:Type}{lt:c->c->Bool}(T:TO lt):∀l:List c,(Z3 lt l).Pairwise λa b=>lt b a=false
 |[]=>.nil
 |x::r=>aK T x _ (TU T r)
theorem og{c:Type}{lt:c->c->Bool}(T:TO lt){xs ys:List c}(d:ys.Perm xs)(e:ys.Pairwise λa b=>lt b a=false):ys=Z3 lt xs:=
 W1 (le:=λa b=>lt b a=false) (λa b _ _ f g=>T.anti a b g f) e (TU T xs) (d.trans (Fg _ xs).symm)
theorem aL{a:Type}(f:a->D)(lt:a->a->Bool)(b:D->D->Bool)(x:a):∀l:List a,(∀y∈l,b (f x) (f y)=lt x y)->Hs b (f x) (l.map f)=(FC lt x l).map f
 |[],_=>rfl
 |y::r,h=>by
  have c:=h y BC
  have d:=aL f lt b x r λz e=>h z (Bv _ e)
  simp only[AW,Hs,FC,c,d]
  split<;>rfl
theorem TV{a:Type}(f:a->D)(lt:a->a->Bool)(b:D->D->Bool):∀l:List a,(∀x∈l,∀y∈l,b (f x) (f y)=lt x y)->Fe b (l.map f)=(Z3 lt l).map f
 |[],_=>rfl
 |x::r,h=>by
  have d:=TV f lt b r λy c z e=>h y (Bv _ c) z (Bv _ e)
  simp only[AW,Fe,Z3,d]
  exact aL f lt b x _ λy c=>h x BC y (Bv _ ((Fg lt r).subset c))
theorem oh{l:Type}{F:List Sl->Option Rv}(f:l->D){lt:l->l->Bool}(T:TO lt)(b:Bool)(xs:List l)(few:xs.length<64)(m:l->D)(tells:∀a∈xs,F [.val (f a)]=some (.val (m a)))(mode:∀a∈xs,Cf b (m a))(cmp:∀a∈xs,∀c∈xs,ltN 6 (m a) (m c)=some (lt a c)):Ie F (xs.map f)=some ((Z3 lt xs).map f):=by
 have n:∀a∈xs,Dm F (f a)=m a:=λa d=>by unfold Dm;rw[tells a d];rfl
 have j:∀a∈xs,∀c∈xs,CC F (f a) (f c)=lt a c:=λa d c g=>Rs (by rw[n a d,n c g];exact cmp a d c g)
 have ok:Bz F (xs.map f):={
  few:=by simpa using few
  tells:=λx i=>by obtain⟨a,d,rfl⟩:=List.mem_map.mp i;exact⟨_,tells a d⟩
  mode:=⟨b,λx i=>by obtain⟨a,d,rfl⟩:=List.mem_map.mp i;rw[n a d];exact mode a d⟩
  cmp:=λx i y k=>by
   obtain⟨a,d,rfl⟩:=List.mem_map.mp i
   obtain⟨c,g,rfl⟩:=List.mem_map.mp k
   rw[n a d,n c g];exact⟨_,cmp a d c g⟩
  asym:=λx i y k h=>by
   obtain⟨a,d,rfl⟩:=List.mem_map.mp i
   obtain⟨c,g,rfl⟩:=List.mem_map.mp k
   rw[j a d c g]at h;rw[j c g a d];exact T.asym a c h
  neg:=λx i y k z r h=>by
   obtain⟨a,d,rfl⟩:=List.mem_map.mp i
   obtain⟨c,g,rfl⟩:=List.mem_map.mp k
   obtain⟨e,o,rfl⟩:=List.mem_map.mp r
   rw[j a d e o]at h;rw[j a d c g,j c g e o];exact T.neg a c e h
  anti:=λx i y k p q=>by
   obtain⟨a,d,rfl⟩:=List.mem_map.mp i
   obtain⟨c,g,rfl⟩:=List.mem_map.mp k
   rw[j a d c g]at p;rw[j c g a d]at q;rw[T.anti a c p q]}
 rw[XH ok,TV f lt _ xs j]
def Du{b:Type}[DecidableEq b]:Option b->List b->List b
 |_,[]=>[]
 |p,a::r=>if p=some a then Du p r else a::Du (some a) r
theorem TW{c:Type}[DecidableEq c]:∀(l:List c)(p:Option c),l.Nodup->(∀a,p=some a->a∉l)->Du p l=l
 |[],_,_,_=>rfl
 |a::r,p,h,d=>by
  obtain⟨f,g⟩:=EQ.mp h
  unfold Du
  rw[if_neg (λe=>d a e BC),TW r (some a) g λb i=>by cases i;exact f]
def BQ:At->At->Bool
 |.non,.non=>false
 |.non,_=>true
 |.int i,.int j=>decide (i<j)
 |.int _,.str _=>true
 |.str x,.str y=>decide (x.cps.toList<y.cps.toList)
 |_,_=>false
theorem oi{x y:Ae}(h:x.cps.toList=y.cps.toList):x=y:=by
 obtain⟨⟨a⟩⟩:=x
 obtain⟨⟨b⟩⟩:=y
 simp at h
 rw[h]
theorem Gv:TO BQ:={
 asym:=λa b h=>by
  cases a<;>cases b<;>simp only[BQ,decide_eq_true_eq,decide_eq_false_iff_not,DW]at h ⊢
  ·omega
  ·exact List.lt_asymm h
 neg:=λa b c h=>by
  cases a<;>cases c<;>simp only[BQ,decide_eq_true_eq,DW]at h<;>cases b<;>simp only[BQ,decide_eq_true_eq,DW,true_or,or_true,false_or,or_false]
  ·omega
  ·next x y z=>
   by_cases d:x.cps.toList<z.cps.toList
   ·exact .inl d
   ·exact .inr (List.lt_of_le_of_lt (List.not_lt.mp d) h)
 anti:=λa b d e=>by
  cases a<;>cases b<;>simp only[BQ,decide_eq_false_iff_not,Bool.true_eq_false]at d e
  ·rfl
  ·rw[At.int.injEq];omega
  ·rw[At.str.injEq];exact oi (List.le_antisymm (List.not_lt.mp e) (List.not_lt.mp d))}
def BP:List At->List At->Bool
 |[],[]=>false
 |[],_::_=>true
 |_::_,[]=>false
 |a::r,b::s=>if a=b then BP r s else BQ a b
theorem aM:∀a b,BP a b=true->BP b a=false
 |[],[],_=>rfl
 |[],_::_,_=>rfl
 |_::_,[],h=>by cases h
 |a::r,b::s,h=>by
  unfold BP at h ⊢
  by_cases e:a=b
  ·subst e;simp only[if_true]at h ⊢;exact aM r s h
  ·rw[if_neg e]at h;rw[if_neg (λz=>e z.symm)];exact Gv.asym a b h
theorem aN:∀a b c,BP a c=true->BP a b=true\/BP b c=true
 |[],[],c,h=>.inr h
 |[],_::_,_,_=>.inl rfl
 |_::_,_,[],h=>by cases h
 |_::_,[],_::_,_=>.inr rfl
 |a::r,b::s,c::t,h=>by
  unfold BP at h ⊢
  by_cases e:a=b
  ·subst e
   by_cases d:a=c
   ·simp only[d,if_true]at h ⊢;exact aN r s t h
   ·rw[if_neg d]at h;right;rw[if_neg d];exact h
  ·rw[if_neg e]
   by_cases d:b=c
   ·subst d;rw[if_neg e]at h;exact .inl h
   ·rw[if_neg d]
    by_cases f:a=c
    ·subst f
     cases g:BQ a b with
     |true=>exact .inl rfl
     |false=>
      cases hd:BQ b a with
      |true=>exact .inr rfl
      |false=>exact absurd (Gv.anti a b g hd) e
    ·rw[if_neg f]at h;exact Gv.neg a b c h
theorem aO:∀a b,BP a b=false->BP b a=false->a=b
 |[],[],_,_=>rfl
 |[],_::_,h,_=>by cases h
 |_::_,[],_,h=>by cases h
 |a::r,b::s,c,d=>by
  unfold BP at c d
  by_cases e:a=b
  ·subst e;simp only[if_true]at c d;rw[aO r s c d]
  ·rw[if_neg e]at c;rw[if_neg (λz=>e z.symm)]at d;exact absurd (Gv.anti a b c d) e
theorem Pe:TO BP:=⟨aM,aN,aO⟩
def Fh:At->D
 |.non=>.tup [.int 0,.int 0]
 |.int i=>.tup [.int 1,.int i]
 |.str x=>.tup [.int 2,.str x]
def Fi:At->D
 |.non=>.tup [.int 0,.int 0,.str ""]
 |.int i=>.tup [.int 1,.int i,.str ""]
 |.str x=>.tup [.int 2,.int 0,.str x]
theorem oj(n:Nat)(a b:At):ltN (n+2) (Fh a) (Fh b)=some (BQ a b):=by
 cases a<;>cases b<;>simp[Fh,BQ]
 ·intro e;omega
 ·intro e;subst e;simp
theorem ol(a b:At):AB (Fh a) (Fh b)=decide (a=b):=by
 cases a<;>cases b<;>simp[Fh]
theorem aP(n:Nat)(a:At):A3 (n+1) (Fh a)=true:=by cases a<;>cases n<;>rfl
theorem aQ(n:Nat):∀l m:List At,EC (ltN (n+2)) (l.map Fh) (m.map Fh)=some (BP l m)
 |[],[]=>rfl
 |[],_::_=>rfl
 |_::_,[]=>rfl
 |a::r,b::s=>by
  have c:=aQ n r s
  have d:=aP 11 a
  have e:=aP 11 b
  have f:=ol a b
  have g:=oj n a b
  simp only[AW,EC,Ik,d,e,f,g,c,BP,EI,if_true,decide_eq_true_eq]
  split<;>rfl
theorem om(n:Nat)(a b:At):ltN (n+2) (Fi a) (Fi b)=some (BQ a b):=by
 cases a<;>cases b<;>simp[Fi,BQ]
 ·intro e;omega
 ·intro e;subst e;simp
theorem TX{b:Type}[DecidableEq b]:∀(l:List b)(p:Option b),(Du p l).length<=l.length
 |[],_=>BD _
 |a::r,p=>by
  unfold Du
  split
  ·exact Nat.le_succ_of_le (TX r p)
  ·exact Nat.succ_le_succ (TX r _)
def mn(m y:Int):Int:=if y<m then y else m
def mx(m y:Int):Int:=if y>m then y else m
theorem aR(m y:Int):mn m y=min m y:=by unfold mn;split<;>omega
theorem aS(m y:Int):mx m y=max m y:=by unfold mx;split<;>omega
def B8(x:Int)(xs:List Int):D:=.tup [.int (xs.length+1:Nat),.int ((x::xs).sum),.int (xs.foldl mn x),.int (xs.foldl mx x)]
theorem Jr:(4:Nat)<=AG:=by decide
theorem aT(a:Int):∀(ys:List Int)(b:Int),ys.foldl mn (mn a b)=mn a (ys.foldl mn b)
 |[],b=>rfl
 |y::ys,b=>by
  have e:mn (mn a b) y=mn a (mn b y):=by simp only[aR,Int.min_assoc]
  simp only[IV,e,aT a ys]
theorem aU(a:Int):∀(ys:List Int)(b:Int),ys.foldl mx (mx a b)=mx a (ys.foldl mx b)
 |[],b=>rfl
 |y::ys,b=>by
  have e:mx (mx a b) y=mx a (mx b y):=by simp only[aS,Int.max_assoc]
  simp only[IV,e,aU a ys]
theorem aV:∀(a b:List Int),(a++b).sum=a.sum+b.sum
 |[],b=>by simp
 |x::a,b=>by simp[aV a b,Int.add_assoc]
theorem on(x y:Int)(xs ys:List Int):Mb [.val (B8 x xs),.val (B8 y ys)]=some (.val (B8 x (xs++y::ys))):=by
 have a:(xs++y::ys).foldl mn x=mn (xs.foldl mn x) (ys.foldl mn y):=by rw[List.foldl_append,IV,aT]
 have b:(xs++y::ys).foldl mx x=mx (xs.foldl mx x) (ys.foldl mx y):=by rw[List.foldl_append,IV,aU]
 simp[Mb,Bn,R7,B8,atI,DU,Jr,a,b,aV]
 refine⟨by omega,by omega,rfl,rfl⟩
def De(acc:Bx)(ps:List (At×D)):Bx:=ps.foldl (λa p=>Ce a (.at p.1) p.2) acc
theorem Ip(a:At):Dl (aD a)=some (.at a):=Rl (.at a)
theorem Pf{kvs:Bx}{a:At}{v:D}(h:∀p∈kvs,EG p.1=true):∀p∈Ce kvs (.at a) v,EG p.1=true:=λp b=>by
 rcases kz b with b|rfl
 ·exact h p b
 ·rfl
theorem Mv:∀(ps:List (At×D))(acc:Bx),(∀p∈acc,EG p.1=true)->acc.length+ps.length<=100000->Ht acc (ps.map λp=>.tup [aD p.1,p.2])=some (De acc ps)
 |[],acc,_,_=>rfl
 |p::ps,acc,h,a=>by
  simp only[Cq]at a
  have b:acc.length<AG:=Cg (show acc.length<100000 by omega) (by decide)
  have d:=Nv acc (.at p.1) p.2
  have c:=Mv ps (Ce acc (.at p.1) p.2) (Pf h) (by omega)
  simp only[AW,Ht,Ip,Ib p.1 h,b,decide_true,EI,if_true,c]
  rfl
theorem Mw:∀(ps:List (At×D))(acc:Bx),(∀p∈acc,EG p.1=true)->∀p∈De acc ps,EG p.1=true
 |[],_,h=>h
 |p::ps,acc,h=>Mw ps _ (Pf h)
theorem aW:∀(ps:List (At×D))(acc:Bx),(De acc ps).length<=acc.length+ps.length
 |[],acc=>BD _
 |p::ps,acc=>by
  have a:=aW ps (Ce acc (.at p.1) p.2)
  have b:=Nv acc (.at p.1) p.2
  simp only[De,IV,Cq]at a ⊢
  omega
theorem aX{a:At}:∀(ps:List (At×D))(acc:Bx),a∉ps.map (·.1)->ZT (De acc ps) (.at a)=ZT acc (.at a)
 |[],_,_=>rfl
 |p::ps,acc,h=>by
  rw[AW,Br,not_or]at h
  have b:=aX ps (Ce acc (.at p.1) p.2) h.2
  show ZT (De (Ce acc (.at p.1) p.2) ps) _=_
  rw[b,Ko,if_neg (λe=>h.1 (KT.at.inj e).symm)]
theorem TY{a:At}{v:D}:∀(ps:List (At×D))(acc:Bx),(ps.map (·.1)).Nodup->(a,v)∈ps->ZT (De acc ps) (.at a)=some v
 |p::ps,acc,b,h=>by
  rw[AW,EQ]at b
  show ZT (De (Ce acc (.at p.1) p.2) ps) _=_
  rcases Br.mp h with rfl|h
  ·rw[aX ps _ b.1,Ko,if_pos rfl]
  ·exact TY ps _ b.2 h
theorem aY(a:At):∀(ps:List (At×D))(acc:Bx),(ZT (De acc ps) (.at a)).isSome=((ZT acc (.at a)).isSome||decide (a∈ps.map (·.1)))
 |[],acc=>by simp[De]
 |p::ps,acc=>by
  have b:=aY a ps (Ce acc (.at p.1) p.2)
  show(ZT (De (Ce acc (.at p.1) p.2) ps) _).isSome=_
  rw[b,Ko]
  by_cases e:p.1=a
  ·subst e;simp
  ·have c:¬ KT.at p.1=KT.at a:=λz=>e (KT.at.inj z)
   have d:¬ a=p.1:=λz=>e z.symm
   rw[if_neg c,Io]
   simp[d]
theorem tT{ps:List (At×D)}{a:At}{v:D}(b:(ps.map (·.1)).Nodup)(h:(a,v)∈ps):D4 (.lst (Zw (De [] ps)) true) (aD a)=some v:=by
 have c:=Ib (kvs:=De [] ps) a (Mw ps [] λ_ h=>nomatch h)
 rw[LV,Ip]
 simp only[AA,c,if_true,TY ps [] b h]
theorem aZ(neg:Bool)(ps:List (At×D))(a:At):EH neg (aD a) (.lst (Zw (De [] ps)) true)=some (.bl (neg != decide (a∈ps.map (·.1)))):=by
 have b:=Ib (kvs:=De [] ps) a (Mw ps [] λ_ h=>nomatch h)
 have d:=aY a ps []
 rw[Xp,Ip]
 simp only[AA,b,if_true,d]
 simp[ZT]
theorem Js(a:At)(l:List At):Dj false (aD a) (.lst (l.map aD))=some (.bl (decide (a∈l)))/\Dj true (aD a) (.lst (l.map aD))=some (.bl (!decide (a∈l))):=by
 have b:(l.map aD).all (A3 12)=true:=by
  rw[GP,D9]
  exact λx _=>Jp 12 x
 have c:Go (aD a) (l.map aD)=decide (a∈l):=by
  unfold Go
  rw[Io,List.any_map,List.any_eq_true]
  constructor
  ·rintro⟨x,d,e⟩
   simp only[Function.comp,Pb,decide_eq_true_eq]at e
   subst e;simpa using d
  ·intro h
   exact⟨a,by simpa using h,by simp[Function.comp,Pb]⟩
 simp only[Dj,Ik,Jp,b,c,EI,if_true,DW,if_false,and_self]
theorem Z9{a n:Nat}{g:VE->Ao}{b:List Sl}{r:Rv}(h:b.length=a)(e:g (b++DF (n-a) .no)=.ret r):Bn a n g b=some r:=by
 unfold Bn
 rw[if_pos h,e]
theorem Pg{a:Type}(x:a)(xs:List a):atI (x::xs) 0=some x:=by
 have:(0:Int)<(xs.length:Int)+1:=by omega
 simp[atI,DU,this]
theorem VH{a:Type}(xs:List a)(x:a):atI (xs++[x]) (-1)=some x:=by
 have b:(-1+((xs.length:Int)+1)).toNat=xs.length:=by omega
 have c : -((xs.length:Int)+1) <= -1:=by omega
 simp[atI,DU,b,c]
theorem oo(a:At):On [.val (aD a)]=some (.val (Fh a)):=by
 have b:(2:Nat)<=AG:=by decide
 cases a<;>simp[On,Bn,Sg,RZ,RY,aD,Fh,b]
theorem oq(l:List At)(h:l.length<=1000):Mj [.val (Al l)]=some (.val (.tup (l.map Fh))):=by
 have c:l.length<=AG:=CN h (by decide)
 have d:=D6 (b:=Zl 0) (e:=SQ) (ρ:=[.no]) aD Fh l λa _=>⟨[.val (aD a)],rfl,by
  have:=oo a
  simp only[SQ,Zq,Zb,An,AL,AA,this,AV,FV]⟩
 simp[Mj,Bn,SR,Al,c,ZS,d,-Db]
theorem Ph(s0:Sl):∀(c acc:L1)(j:Sl),acc.length+c.length<100000->∃a,Z0 (Zl 2) Im (c.map Al) [s0,.own (acc.map Al),j]=.next [s0,.own ((acc++Du acc.getLast? c).map Al),a]
 |[],acc,j,_=>⟨j,by simp[Z0,Du]⟩
 |l::c,acc,j,k=>by
  simp only[Cq]at k
  have d:acc.length<AG:=Cg (show acc.length<100000 by omega) (by decide)
  have n:LB (some (.int 1))=some (.int (-1)):=rfl
  simp only[AW,Z0,Zl,A4,AZ]
  rcases List.eq_nil_or_concat acc with rfl|⟨pre,x,rfl⟩
  ·obtain⟨a,e⟩:=Ph s0 c [l] (.val (Al l)) (by simp;omega)
   refine⟨a,?_⟩
   have f:Im [s0,.own ([].map Al),.val (Al l)]=.next [s0,.own ([l].map Al),.val (Al l)]:=by
    have o:(0:Nat)<AG:=by decide
    simp[Im,o]
   have hd:Du ([]:L1).getLast? (l::c)=l::Du (some l) c:=rfl
   rw[f,hd]
   exact e
  ·rw[List.concat_eq_append]at k d ⊢
   have g:Aw (.lst ((pre++[x]).map Al)) (.int (-1))=some (Al x):=by
    show atI ((pre++[x]).map Al) (-1)=_
    rw[Ea];exact VH _ _
   have h:C9 (some (.lst ((pre++[x]).map Al)))=some true:=by simp
   have i:=aE x l
   have b:(pre++[x]).getLast?=some x:=by simp
   by_cases m:x=l
   ·subst m
    obtain⟨a,e⟩:=Ph s0 c (pre++[x]) (.val (Al x)) (by omega)
    refine⟨a,?_⟩
    have f:Im [s0,.own ((pre++[x]).map Al),.val (Al x)]=.next [s0,.own ((pre++[x]).map Al),.val (Al x)]:=by
     simp only[Im,Zf,ZM,EV,C8,AO,Ze,Ah,Bb,Cn,AS,AL,AA,AV,h,n,g,i,decide_true,Gw]
    rw[f,b,Du,if_pos rfl,<- b]
    exact e
   ·obtain⟨a,e⟩:=Ph s0 c (pre++[x]++[l]) (.val (Al l)) (by simp at k ⊢;omega)
    refine⟨a,?_⟩
    have p:(pre++[x]++[l]).getLast?=some l:=by simp
    have f:Im [s0,.own ((pre++[x]).map Al),.val (Al l)]=.next [s0,.own ((pre++[x]++[l]).map Al),.val (Al l)]:=by
     rw[show((pre++[x]++[l]).map Al)=(pre++[x]).map Al++[Al l] by simp]
     simp only[Im,Zf,ZM,EV,C8,AO,Ze,Ah,Bb,Cn,AS,AL,AA,AV,h,n,g,i,m,decide_false,KG,Gw,C6,B1,d,if_true,A4,AZ]
    rw[f,b,Du,if_neg (by simpa using m)]
    rw[p]at e
    rw[show pre++[x]++l::Du (some l) c=pre++[x]++[l]++Du (some l) c by simp]
    exact e
theorem bc(s:Sl)(b:L1)(i:s=.val (.lst (b.map Al))\/s=.lent (b.map Al))(j:b.length<64)(f:∀l∈b,l≠[]/\l.length<=1000):OR [s]=some (.own ((Du none (Z3 BP b)).map Al)):=by
 have c:=oh (F:=Mj) Al Pe false b j (λl=>.tup (l.map Fh)) (λl h=>oq l (f l h).2) (λl h=>by
  cases l with
  |nil=>exact absurd rfl (f [] h).1
  |cons a r=>cases a<;>exact⟨_,_,rfl⟩) (λl _ m _=>aQ 3 l m)
 have g:=(Fg BP b).length_eq
 obtain⟨k,e⟩:=Ph s (Z3 BP b) [] .no (by rw[g];simp;omega)
 have n:(Z3 BP b).length<=AG:=by rw[g];exact CN (show b.length<=1000 by omega) (by decide)
 simp only[CA,KD,List.getLast?_nil]at e
 refine Z9 rfl ?_
 show OQ [s,.no,.no]=_
 have d:Zn (some ([]:List D))=some []:=rfl
 rcases i with rfl|rfl<;>simp only[OQ,Zf,Di,BS,NE,ZA,Zz,Ah,Cn,B3,Zt,d,c,e,AS,AL,AA,AV,A4,AZ]
def TZ(a b:At):Bool:=BP [a] [b]
theorem ot(a b:At):TZ a b=BQ a b:=by
 unfold TZ BP
 by_cases h:a=b
 ·subst h;simp[BP,Gv.irr]
 ·rw[if_neg h]
theorem bd(a:At):∀l:List At,FC BP [a] (l.map λx=>[x])=(FC BQ a l).map λx=>[x]
 |[]=>rfl
 |b::r=>by
  have h:=ot a b
  unfold TZ at h
  simp only[AW,FC,h,bd a r]
  split<;>rfl
theorem be:∀l:List At,Z3 BP (l.map λx=>[x])=(Z3 BQ l).map λx=>[x]
 |[]=>rfl
 |a::r=>by simp only[AW,Z3,be r,bd]
theorem T0:∀(l:List At)(p:Option At),Du (p.map λx=>[x]) (l.map λx=>[x])=(Du p l).map λx=>[x]
 |[],_=>rfl
 |a::r,p=>by
  have h:(p.map (λx=>[x])=some [a])↔p=some a:=by cases p<;>simp
  simp only[AW,Du,h]
  split
  ·exact T0 r p
  ·have:=T0 r (some a)
   simp only[II]at this
   rw[this];rfl
theorem ou(s:Sl)(l:List At)(h:s=.val (.lst (l.map aD))\/s=.lent (l.map aD))(i:l.length<64):Tk [s]=some (.own ((Du none (Z3 BQ l)).map aD)):=by
 have j:l.length<=AG:=CN (show l.length<=1000 by omega) (by decide)
 have k:(1:Nat)<=AG:=by decide
 have f:=D6 (b:=Zl 0) (e:=Ti) (ρ:=[.no]) aD (λa=>Al [a]) l λa _=>⟨[.val (aD a)],rfl,by simp[Ti,Al,k]⟩
 have o:(l.map λa=>Al [a])=(l.map λx=>[x]).map Al:=by rw[Db];rfl
 have g:=bc (.val (.lst ((l.map λx=>[x]).map Al))) (l.map λx=>[x]) (.inl rfl) (by simpa using i) (λm p=>by obtain⟨a,_,rfl⟩:=List.mem_map.mp p;exact⟨by simp,by simp⟩)
 rw[be,show(none:Option (List At))=(none:Option At).map (λx=>[x])from rfl,T0]at g
 have c:(Du none (Z3 BQ l)).length<=l.length:=by
  have q:=(Fg BQ l).length_eq
  rw[<- q]
  exact TX _ _
 generalize u:Du none (Z3 BQ l)=W at *
 have r:W.length<=AG:=CN c j
 have hd:=D6 (b:=Zl 0) (e:=Tj) (ρ:=[.no]) (λa=>Al [a]) aD W λa _=>⟨[.val (Al [a])],rfl,by
  have:Aw (Al [a]) (.int 0)=some (aD a):=by show atI ([a].map aD) 0=_;exact Pg _ _
  simp only[Tj,Ze,Ah,AL,AA,this]⟩
 have t:(W.map λa=>Al [a])=(W.map λx=>[x]).map Al:=by rw[Db];rfl
 rw[o]at f
 rw[t]at hd
 have q1:Zn (some (l.map aD))=some (l.map aD):=Zv _ (by simp;omega)
 have q2:Zn (some ((W.map λx=>[x]).map Al))=some ((W.map λx=>[x]).map Al):=Zv _ (by simp;omega)
 generalize (W.map λx=>[x]).map Al=B,(l.map λx=>[x]).map Al=A at *
 refine Z9 rfl ?_
 show OT [s]=_
 have d:ZS 1 [] [s]=[.no]:=rfl
 rcases h with rfl|rfl<;>simp only[OT,Zf,B3,ZL,d,Be,Zz,Zq,Zb,Zi,ZA,AL,AA,AV,q1,f,g,Dd,q2,hd]
theorem Jt(l:List At)(j:Nat)(h:l.length<=1000):Fz [.val (Al l),.val (.int (j:Int))]=some (.val (aD (l.getD j .non))):=by
 have d:l.length<=AG:=CN h (by decide)
 by_cases c:j<l.length
 ·have b:(j:Int)<(l.length:Int):=by omega
  have:Aw (Al l) (.int (j:Int))=some (aD (l.getD j .non)):=by
   show atI (l.map aD) (j:Int)=_
   exact DV (by simp[Cu c,CL])
  have a:Cd [Al l]=some (.int (l.length:Int)):=by simp[Al]
  simp[Fz,Bn,NV,-Aw,-Cd,a,this,b]
 ·have b:¬ (j:Int)<(l.length:Int):=by omega
  have a:Cd [Al l]=some (.int (l.length:Int)):=by simp[Al]
  have e:l.getD j .non=.non:=by simp[CL,QR (show l.length<=j by omega)]
  rw[e]
  simp[Fz,Bn,NV,-Aw,-Cd,a,b,aD]
theorem Pj{c:Type}{b:D->VE->Option VE}{t:VE->Option Bool}{e:VE->Option D}{ρ:VE}(G F:c->D)(P:c->Bool):∀(xs:List c),(∀x∈xs,∃a,b (G x) ρ=some a/\t a=some (P x)/\e a=some (F x))->CV b t e ρ (xs.map G)=some ((xs.filter P).map F)
 |[],_=>rfl
 |x::xs,h=>by
  obtain⟨a,d,f,j⟩:=h x BC
  have g:=Pj G F P xs λy k=>h y (Bv _ k)
  cases i:P x with
  |true=>simp[CV,d,f,j,i,g]
  |false=>simp[CV,d,f,i,g]
def As(l:List At):At:=l.getD 0 .non
theorem ov(a b:At):CH (aD a) (aD b)=some (.bl (decide (a=b))):=by
 simp only[CH,Ik,Jp,Pb,EI,if_true]
theorem Hv(l:List At)(h:l≠[]):Aw (Al l) (.int 0)=some (aD (As l)):=by
 cases l with
 |nil=>exact absurd rfl h
 |cons a r=>show atI ((a::r).map aD) 0=_;exact Pg _ _
theorem ow{l:List At}(h:l.Nodup):Du none (Z3 BQ l)=Z3 BQ l:=TW _ _ ((Fg BQ l).nodup_iff.mpr h) λ_ e=>by cases e
theorem Dv(x n:Int)(h:0<n):ZW (.int x) (.int n)=some (.int (x%n)):=by
 show(if 0<n then some (D.int (x%n))else none)=_
 rw[if_pos h]
theorem FD{x y:Int}(h:C3 x y):Ey (.int x) (.int y)=some (.int (x*y)):=by show(if C3 x y then some (D.int (x*y))else none)=_;rw[if_pos h]
theorem Ju{x y:Int}(h:DR x y):Dt (.int x) (.int y)=some (.int (x/y)):=by show(if DR x y then some (D.int (x/y))else none)=_;rw[if_pos h]
theorem Mx{a:Ao}{f:VE->Ao}{ρ:VE}{r:Ao}(h:a=.next ρ)(b:f ρ=r):Zf a f=r:=by rw[h];exact b
theorem bf(a b:Int)(p:Bool):Aw (.lst [.int a,.int b]) (.int (if p then 1 else 0))=some (.int (if p then b else a)):=by cases p<;>rfl
theorem T4(p:Bool):Gp [.bl p]=some (.int (if p then 1 else 0)):=by cases p<;>rfl
theorem bg(c:Int)(g:Sl):∀(n k:Nat)(x r:Int)(acc:List Int)(j:Sl),acc.length+n<100000->∃(l m o:Sl)(ws:List Int),ws.length=acc.length+n/\Z0 (Zl 5) Oc ((Hw k n).map λ(k:Nat)=>D.int (k:Int)) [.val (.int c),g,.val (.int x),.val (.int r),.own (acc.map D.int),j]=.next [.val (.int c),g,l,m,.own (ws.map D.int),o]
 |0,k,x,r,acc,j,_=>⟨_,_,j,acc,rfl,rfl⟩
 |n+1,k,x,r,acc,j,h=>by
  have q:acc.length<AG:=Cg (show acc.length<100000 by omega) (by decide)
  have m1:=FD (x:=x) (y:=48271) (.inr (by decide))
  have m2:=FD (x:=2) (y:=(k:Int)) (.inl (by decide))
  have a1:∀a b:Int,ZJ (.int a) (.int b)=some (.int (a+b)):=λ_ _=>rfl
  have n1:∀y:Int,ZW (.int y) (.int 2147483647)=some (.int (y%2147483647)):=λ_=>rfl
  generalize s:(x*48271+2*(k:Int)+11)%2147483647=f at *
  have d1:=Ju (x:=f) (y:=64) (by constructor<;>decide)
  have d2:=Ju (x:=r) (y:=4096) (by constructor<;>decide)
  have n2:ZW (.int r) (.int 4096)=some (.int (r%4096)):=rfl
  have t:Ez (.int 10) (.int 18)=some (.int (10^18)):=by simp[E7]
  have u:QX (.int c) (.int (10^18))=some (.bl (decide ((10:Int)^18<=c))):=rfl
  generalize (10:Int)^18=T at *
  have w:Dy (.int r) (.int 0)=some (.bl (!decide (r=0))):=by simp
  have z:=T4 (decide (T<=c)&&!decide (r=0))
  have i2:=bf (f/64) (r%4096) (decide (T<=c)&&!decide (r=0))
  have p:Zn (some [D.int (f/64),.int (r%4096)])=some [D.int (f/64),.int (r%4096)]:=Zv _ (by simp)
  have i:EU (some (decide (T<=c))) (some (!decide (r=0)))=some (decide (T<=c)&&!decide (r=0)):=by cases decide (T<=c)<;>rfl
  generalize (decide (T<=c)&&!decide (r=0))=B,(if(decide (T<=c)&&!decide (r=0))=true then r%4096 else f/64)=v,(if(decide (T<=c)&&!decide (r=0))=true then(1:Int)else 0)=I at *
  obtain⟨a,b,d,ws,A,e⟩:=bg c g n (k+1) f (r/4096) (acc++[v]) (.val (.int (k:Int))) (by simp;omega)
  refine⟨a,b,d,ws,by rw[A];simp;omega,?_⟩
  rw[My,AW]
  simp only[Z0,Zl,A4,AZ]
  have C:Oc [.val (.int c),g,.val (.int x),.val (.int r),.own (acc.map D.int),.val (.int (k:Int))]=.next [.val (.int c),g,.val (.int f),.val (.int (r/4096)),.own ((acc++[v]).map D.int),.val (.int (k:Int))]:=by
   simp only[Oc,Zf,Zx,C6,AO,FT,Ze,ZD,By,pk,Zb,Zi,Zt,ZA,Ah,Cn,AS,AL,A4,AZ,AA,AV,m1,m2,a1,n1,s,d1,n2,p,t,u,w,i,z,i2,d2,B1,q,if_true,Ea,AW,CA]
  rw[C]
  exact e
theorem Pk(c p:Int):∃ws:List Int,Ks [.val (.int c),.val (.int p)]=some (.own (ws.map D.int))/\ws.length=24:=by
 have g:HN [.int 1,.int 25]=some ((Hw 1 24).map λ(k:Nat)=>D.int (k:Int)):=by
  rw[Ye 1 25 (by omega) (by omega) (by omega) (by omega)];rfl
 have m1:=FD (x:=7919) (y:=p) (.inl (by decide))
 have a1:∀a b:Int,ZJ (.int a) (.int b)=some (.int (a+b)):=λ_ _=>rfl
 have n1:∀y:Int,ZW (.int y) (.int 2147483629)=some (.int (y%2147483629)):=λ_=>rfl
 have n2:∀y:Int,ZW (.int y) (.int 2147483647)=some (.int (y%2147483647)):=λ_=>rfl
 have m2:=FD (x:=(c+7919*p)%2147483629) (y:=48271) (.inr (by decide))
 have d2:=Ju (x:=c) (y:=2) (by constructor<;>decide)
 obtain⟨a,b,d,ws,h,e⟩:=bg c (.val (.int p)) 24 1 (((c+7919*p)%2147483629*48271+11)%2147483647) (c/2) [] .no (by simp)
 refine⟨ws,?_,h⟩
 have f:Zn (some ([]:List D))=some []:=rfl
 generalize ((Hw 1 24).map λ(k:Nat)=>D.int (k:Int))=R at *
 rw[CA]at e
 refine Z9 rfl ?_
 show Od [.val (.int c),.val (.int p),.no,.no,.no,.no]=_
 simp only[Od,Yr,Yi,Yq,Yj,Yp,Yk,Yo,Yl,Yn,Ym,Zf,Zx,Di,BS,B3,Ze,Zb,Zi,Zt,Ah,Cn,AS,AL,A4,AZ,AA,AV,m1,a1,n1,m2,n2,d2,f,g,e]
theorem Hx{xs:List Int}(i:Nat)(h:i<xs.length):Aw (.lst (xs.map D.int)) (.int (i:Int))=some (.int (xs.getD i 0)):=DV (by rw[C1,Cu h];simp[CL,h])
structure BM where
 cell:Int
 sv:List Int
 wd:Nat->Int
 fs:Nat->Nat->At
def BM.B(w:BM):Nat:=if w.cell%2=1 then 8 else 47
def BM.stp(w:BM)(j x:Nat):Nat:=(if w.cell%2=1 then w.sv.getD (8*j-8+x) 0/64%8 else((x:Int)*(1+w.sv.getD (4+j) 0%5)+w.sv.getD (8+j) 0)%w.wd j).toNat
def BM.chn(w:BM):Nat->Nat->Nat->List At
 |_,_,0=>[]
 |j,x,n+1=>w.fs j x::w.chn (j+1) (w.stp (j+1) x) n
def BM.a0(w:BM)(k:Nat):Nat:=(if w.cell%2=1 then(k:Int)else((k:Int)*(1+w.sv.getD 0 0%46)+w.sv.getD 4 0)%47).toNat
structure BM.Ok(w:BM):Prop where
 len:w.sv.length=24
 w1:∀j,1<=w.wd j
 w2:∀j,w.wd j<=47
 vs:∀j,KC (w.fs j)
 val:∀j k:Nat,k<47->FA [.val (.int (w.sv.getD (12+j) 0%4)),.val (.int (w.cell+(j:Int)*(w.sv.getD 16 0%2)*1000003)),.val (.int (k:Int))]=some (.val (aD (w.fs j k)))
theorem BM.B_le(w:BM):w.B<=47:=by unfold BM.B;split<;>omega
theorem BM.stp_lt{w:BM}(h:w.Ok)(j x:Nat):w.stp j x<w.B:=by
 have a:=h.w1 j
 have b:=h.w2 j
 unfold BM.stp BM.B
 generalize (x:Int)*(1+w.sv.getD (4+j) 0%5)+w.sv.getD (8+j) 0=y
 have c:=Jq y (show w.wd j≠0 by omega)
 have d:=Pc y (show 0<w.wd j by omega)
 split<;>omega
theorem BM.a0_lt(w:BM)(k:Nat)(a:k<8):w.a0 k<w.B:=by
 unfold BM.a0 BM.B
 generalize (k:Int)*(1+w.sv.getD 0 0%46)+w.sv.getD 4 0=y
 split<;>omega
theorem oy(x y:Int):C3 x (1+y%5):=.inr ⟨by omega,by omega⟩
theorem oz(x y:Int):C3 x (1+y%46):=.inr ⟨by omega,by omega⟩
theorem oA(x y:Int):C3 x (y%2):=.inr ⟨by omega,by omega⟩
abbrev WD(w:BM):Sl:=.own ([.int (w.wd 0),.int (w.wd 1),.int (w.wd 2),.int (w.wd 3)]:List D)
theorem oB(w:BM)(j:Nat)(h:j<4):Aw (.lst [.int (w.wd 0),.int (w.wd 1),.int (w.wd 2),.int (w.wd 3)]) (.int (j:Int))=some (.int (w.wd j)):=by
 have:j=0\/j=1\/j=2\/j=3:=by omega
 rcases this with rfl|rfl|rfl|rfl<;>rfl
theorem bh(c:Int):CH (.int (c%2)) (.int 1)=some (.bl (decide (c%2=1))):=by simp
theorem bi(w:BM)(h:w.Ok)(n o p q e:Sl)(j x:Nat)(A:j<4)(hx:x<w.B)(acc:List At)(ha:acc.length<100):
  OG [.val (.int w.cell),n,o,.val (.lst (w.sv.map D.int)),WD w,.val (.int (j:Int)),p,q,.val (.int (x:Int)),.own (acc.map aD),e] =
   .next [.val (.int w.cell),n,o,.val (.lst (w.sv.map D.int)),WD w,.val (.int (j:Int)),p,q,.val (.int ((if 0<j then w.stp j x else x:Nat):Int)),.own ((acc++[w.fs j (if 0<j then w.stp j x else x)]).map aD),.val (.int (w.cell+(j:Int)*(w.sv.getD 16 0%2)*1000003))]:=by
 have hl:=h.len
 have C:=oB w j A
 have E:=h.w1 j
 have G:=w.B_le
 have r:(if 0<j then w.stp j x else x)<47:=by have:=BM.stp_lt h j x;split<;>omega
 have H:=h.val j _ r
 have a1:∀a b:Int,ZJ (.int a) (.int b)=some (.int (a+b)):=λ_ _=>rfl
 have n2:∀y:Int,ZW (.int y) (.int 2)=some (.int (y%2)):=λy=>rfl
 have k:=bh w.cell
 have f:HQ (.int (j:Int)) (.int 0)=some (.bl (decide (0<j))):=by
  show some (D.bl (decide ((0:Int)<(j:Int))))=_
  congr 3;exact propext (by omega)
 refine Mx (ρ:=[.val (.int w.cell),n,o,.val (.lst (w.sv.map D.int)),WD w,.val (.int (j:Int)),p,q,.val (.int ((if 0<j then w.stp j x else x:Nat):Int)),.own (acc.map aD),e]) ?_ ?_
 ·dsimp only[WD]
  generalize [D.int (w.wd 0),D.int (w.wd 1),D.int (w.wd 2),D.int (w.wd 3)]=WL at *
  by_cases c:0<j
  ·rw[decide_eq_true c]at f
   rw[if_pos c]
   by_cases i:w.cell%2=1
   ·have hB:w.B=8:=if_pos i
    have d:w.sv.getD (8*j-8+x) 0/64%8=(w.stp j x:Int):=by
     unfold BM.stp;rw[if_pos i];omega
    have l:=Hx (xs:=w.sv) (8*j-8+x) (by omega)
    rw[show((8*j-8+x:Nat):Int)=8*(j:Int)-8+(x:Int) by omega]at l
    rw[decide_eq_true i]at k
    generalize w.sv.getD (8*j-8+x) 0=g at *
    have I:=FD (x:=8) (y:=(j:Int)) (.inl (by decide))
    have L:∀y:Int,Hf (.int y) (.int 8)=some (.int (y-8)):=λ_=>rfl
    have s:=Ju (x:=g) (y:=64) (by constructor<;>decide)
    have n8:∀y:Int,ZW (.int y) (.int 8)=some (.int (y%8)):=λy=>rfl
    generalize (x:Int)=M,(j:Int)=J,(w.stp j x:Int)=z at *
    simp only[ZM,EU,Zf,AO,Ze,Ah,AS,AL,AA,Zx,A4,AZ,f,n2,k,I,L,a1,l,s,n8,d]
   ·have d:((x:Int)*(1+w.sv.getD (4+j) 0%5)+w.sv.getD (8+j) 0)%w.wd j=(w.stp j x:Int):=by
     unfold BM.stp
     rw[if_neg i]
     generalize (x:Int)*(1+w.sv.getD (4+j) 0%5)+w.sv.getD (8+j) 0=y
     have h3:=Jq y (show w.wd j≠0 by omega)
     omega
    have N:Aw _ (.int (4+(j:Int)))=_:=Hx (xs:=w.sv) (4+j) (by omega)
    have l:Aw _ (.int (8+(j:Int)))=_:=Hx (xs:=w.sv) (8+j) (by omega)
    have O:=FD (oy (x:Int) (w.sv.getD (4+j) 0))
    rw[decide_eq_false i]at k
    generalize w.sv.getD (4+j) 0=Q at *
    generalize t:1+Q%5=g4 at *
    generalize w.sv.getD (8+j) 0=g8 at *
    have n5:∀y:Int,ZW (.int y) (.int 5)=some (.int (y%5)):=λy=>rfl
    have nw:=λy=>Dv y (w.wd j) (by omega)
    generalize (x:Int)=M,(j:Int)=J,(w.stp j x:Int)=z,w.wd j=wj at *
    simp only[ZM,EU,Zf,AO,Ze,Ah,AS,AL,AA,Zx,A4,AZ,f,n2,k,a1,N,n5,t,O,l,C,nw,d]
  ·rw[decide_eq_false c]at f
   rw[if_neg c]
   generalize (j:Int)=J at *
   simp only[ZM,EU,Zf,AO,Ze,Ah,AS,AL,AA,f]
 ·have u:Aw _ (.int 16)=_:=Hx (xs:=w.sv) 16 (by omega)
  have v:Aw _ (.int (12+(j:Int)))=_:=Hx (xs:=w.sv) (12+j) (by omega)
  have T:acc.length<AG:=Cg (show acc.length<100000 by omega) (by decide)
  have U:=FD (oA (j:Int) (w.sv.getD 16 0))
  have Y:=FD (x:=(j:Int)*(w.sv.getD 16 0%2)) (y:=1000003) (.inr (by decide))
  have n4:∀y:Int,ZW (.int y) (.int 4)=some (.int (y%4)):=λy=>rfl
  generalize (j:Int)=J,((if 0<j then w.stp j x else x:Nat):Int)=z,w.fs j (if 0<j then w.stp j x else x)=va,w.sv.getD (12+j) 0=g12,w.sv.getD 16 0=g16 at *
  simp only[Zf,Ze,Ah,An,Cn,AS,AL,AA,AV,Zx,C6,A4,AZ,Zb,Zi,Zq,a1,u,n2,U,Y,v,n4,H,FV,B1,T,if_true,Ea,AW,CA]
theorem bj(w:BM)(h:w.Ok)(g i l m:Sl):∀(n j x:Nat)(acc:List At)(o d:Sl),0<j->j+n<=4->x<w.B->acc.length+n<100 ->
  ∃p q f,Z0 (Zl 5) OG ((Hw j n).map λ(k:Nat)=>D.int (k:Int)) [.val (.int w.cell),g,i,.val (.lst (w.sv.map D.int)),WD w,o,l,m,.val (.int (x:Int)),.own (acc.map aD),d] =
   .next [.val (.int w.cell),g,i,.val (.lst (w.sv.map D.int)),WD w,p,l,m,q,.own ((acc++w.chn j (w.stp j x) n).map aD),f]
 |0,j,x,acc,o,d,_,_,_,_=>⟨o,_,d,by simp[Z0,BM.chn];rfl⟩
 |n+1,j,x,acc,o,d,s,u,t,v=>by
  have r:=bi w h g i l m d j x (by omega) t acc (by omega)
  rw[if_pos s]at r
  obtain⟨a,b,c,e⟩:=bj w h g i l m n (j+1) (w.stp j x) (acc++[w.fs j (w.stp j x)]) (.val (.int (j:Int))) (.val (.int (w.cell+(j:Int)*(w.sv.getD 16 0%2)*1000003))) (by omega) (by omega) (BM.stp_lt h j x) (by simp;omega)
  refine⟨a,b,c,?_⟩
  rw[My,AW]
  simp only[Z0,Zl,A4,AZ]
  rw[r]
  simp only[BM.chn]
  rw[show acc++w.fs j (w.stp j x)::w.chn (j+1) (w.stp (j+1) (w.stp j x)) n=acc++[w.fs j (w.stp j x)]++w.chn (j+1) (w.stp (j+1) (w.stp j x)) n by simp]
  exact e
theorem oC(w:BM)(h:w.Ok)(i:Sl)(p:Nat)(A:0<p)(B:p<=4)(d:L1)(C:d.length<1000)(k:Nat)(v:k<8)(x E G f:Sl):
  ∃n o q j,OH [.val (.int w.cell),i,.val (.int (p:Int)),.val (.lst (w.sv.map D.int)),WD w,x,.own (d.map Al),.val (.int (k:Int)),E,G,f] =
   .next [.val (.int w.cell),i,.val (.int (p:Int)),.val (.lst (w.sv.map D.int)),WD w,n,.own ((d++[w.chn 0 (w.a0 k) p]).map Al),.val (.int (k:Int)),o,q,j]:=by
 have Y:=h.len
 have H:Aw _ (.int 0)=_:=Hx (xs:=w.sv) 0 (by omega)
 have J:Aw _ (.int 4)=_:=Hx (xs:=w.sv) 4 (by omega)
 have L:=GW p (by omega)
 have M:Aw (.lst [.int (((k:Int)*(1+w.sv.getD 0 0%46)+w.sv.getD 4 0)%47),.int (k:Int)]) (.int (w.cell%2))=some (.int (w.a0 k:Int)):=by
  unfold BM.a0
  generalize (k:Int)*(1+w.sv.getD 0 0%46)+w.sv.getD 4 0=y
  have:w.cell%2=0\/w.cell%2=1:=by omega
  rcases this with e|e<;>rw[e]
  ·rw[if_neg (by omega),T5 (by omega)];rfl
  ·rw[if_pos rfl,T5 (by omega)];rfl
 have g:=bi w h i (.val (.int (p:Int))) (.own (d.map Al)) (.val (.int (k:Int))) f 0 (w.a0 k) (by omega) (w.a0_lt k v) [] (by simp)
 rw[if_neg (by omega)]at g
 obtain⟨a,b,c,e⟩:=bj w h i (.val (.int (p:Int))) (.own (d.map Al)) (.val (.int (k:Int))) (p-1) 1 (w.a0 k) [w.fs 0 (w.a0 k)] (.val (.int 0)) (.val (.int (w.cell+((0:Nat):Int)*(w.sv.getD 16 0%2)*1000003))) (by omega) (by omega) (w.a0_lt k v) (by simp;omega)
 have r:w.chn 0 (w.a0 k) p=[w.fs 0 (w.a0 k)]++w.chn 1 (w.stp 1 (w.a0 k)) (p-1):=by
  rw[show p=(p-1)+1 by omega]
  simp[BM.chn]
 have N:d.length<AG:=Cg (show d.length<100000 by omega) (by decide)
 have O:=FD (oz (k:Int) (w.sv.getD 0 0))
 have l:Z0 (Zl 5) OG ((Ba p).map λ(k:Nat)=>D.int (k:Int)) [.val (.int w.cell),i,.val (.int (p:Int)),.val (.lst (w.sv.map D.int)),WD w,x,.own (d.map Al),.val (.int (k:Int)),.val (.int (w.a0 k:Int)),.own [],f] =
   .next [.val (.int w.cell),i,.val (.int (p:Int)),.val (.lst (w.sv.map D.int)),WD w,a,.own (d.map Al),.val (.int (k:Int)),b,.own ((w.chn 0 (w.a0 k) p).map aD),c]:=by
  rw[T6,show p=(p-1)+1 by omega,My,AW]
  simp only[Z0,Zl,A4,AZ]
  simp only[CA,KD]at g
  rw[show(p-1)+1=p by omega]
  rw[g,r]
  exact e
 refine⟨a,b,.own ((w.chn 0 (w.a0 k) p).map aD),c,?_⟩
 generalize w.sv.getD 0 0=Q,(w.a0 k:Int)=A0,w.chn 0 (w.a0 k) p=z at *
 generalize T:1+Q%46=g0 at *
 generalize w.sv.getD 4 0=g4 at *
 generalize hR:((Ba p).map λ(k:Nat)=>D.int (k:Int))=R at *
 generalize (k:Int)=KK at *
 have a1:∀a b:Int,ZJ (.int a) (.int b)=some (.int (a+b)):=λ_ _=>rfl
 have s:∀y:Int,ZW (.int y) (.int 46)=some (.int (y%46)):=λy=>rfl
 have t:∀y:Int,ZW (.int y) (.int 47)=some (.int (y%47)):=λy=>rfl
 have n2:∀y:Int,ZW (.int y) (.int 2)=some (.int (y%2)):=λy=>rfl
 have u:Zn (some ([]:List D))=some []:=rfl
 have m:∀a b:D,Zn (some [a,b])=some [a,b]:=λ_ _=>Zv _ (by simp)
 have U:Dk [.lst (z.map aD)]=some (.tup (z.map aD)):=rfl
 simp only[OH,Zf,Ze,Ah,Bb,An,Cn,AS,AL,AA,AV,Zx,Di,C6,BS,ZA,A4,AZ,Zb,Zi,Zt,a1,H,s,T,O,J,t,n2,m,M,u,L,l,ZD,By,pk,U,B1,N,if_true,Ea,AW,CA,Al]
def D7(y:Int):Int:=if y/64%4=0 then 1+y%6 else if y/64%4=1 then 2+y%3 else if y/64%4=2 then 47 else 3
theorem bn(y:Int):1<=D7 y/\D7 y<=47:=by
 unfold D7
 split
 ·omega
 ·split
  ·omega
  ·split<;>omega
theorem oD(y:Int):Aw (.lst [D.int (1+y%6),.int (2+y%3),.int 47,.int 3]) (.int (y/64%4))=some (.int (D7 y)):=by
 have h:y/64%4=0\/y/64%4=1\/y/64%4=2\/y/64%4=3:=by omega
 unfold D7
 generalize y/64%4=q at *
 rcases h with rfl|rfl|rfl|rfl<;>rfl
theorem oE(s0 f g:Sl)(sv:List Int)(p:sv.length=24)(j:Nat)(q:j<20)(ws:List D)(r:ws.length<100)(h i k l c:Sl):
  Ml [s0,f,g,.val (.lst (sv.map D.int)),.own ws,.val (.int (j:Int)),h,i,k,l,c]=.next [s0,f,g,.val (.lst (sv.map D.int)),.own (ws++[.int (D7 (sv.getD j 0))]),.val (.int (j:Int)),h,i,k,l,c]:=by
 have m:=Hx (xs:=sv) j (by omega)
 have n:=oD (sv.getD j 0)
 generalize sv.getD j 0=y at *
 generalize (j:Int)=J,D7 y=t at *
 have n6:ZW (.int y) (.int 6)=some (.int (y%6)):=rfl
 have n3:ZW (.int y) (.int 3)=some (.int (y%3)):=rfl
 have n4:ZW (.int (y/64)) (.int 4)=some (.int (y/64%4)):=rfl
 have d:=Ju (x:=y) (y:=64) (by constructor<;>decide)
 have a1:∀a b:Int,ZJ (.int a) (.int b)=some (.int (a+b)):=λ_ _=>rfl
 have o:ws.length<AG:=Cg (show ws.length<100000 by omega) (by decide)
 have e:Zn (some [D.int (1+y%6),.int (2+y%3),.int 47,.int 3])=some [D.int (1+y%6),.int (2+y%3),.int 47,.int 3]:=Zv _ (by simp)
 simp only[Ml,Zf,Ze,Ah,Bb,An,Cn,AS,AL,AA,AV,C6,A4,AZ,Zb,Zi,Zt,ZA,m,n6,n3,a1,d,n4,e,n,o,if_true]
theorem bo(w:BM)(h:w.Ok)(r:Sl)(p:Nat)(i:0<p)(j:p<=4):∀(n k:Nat)(g:L1)(l s m o f:Sl),k+n<=8->g.length+n<1000 ->
  ∃t u v x q,Z0 (Zl 7) OH ((Hw k n).map λ(k:Nat)=>D.int (k:Int)) [.val (.int w.cell),r,.val (.int (p:Int)),.val (.lst (w.sv.map D.int)),WD w,l,.own (g.map Al),s,m,o,f] =
   .next [.val (.int w.cell),r,.val (.int (p:Int)),.val (.lst (w.sv.map D.int)),WD w,t,.own ((g++(Hw k n).map λk=>w.chn 0 (w.a0 k) p).map Al),u,v,x,q]
 |0,k,g,l,s,m,o,f,_,_=>⟨l,s,m,o,f,by simp[Z0]⟩
 |n+1,k,g,l,s,m,o,f,B,C=>by
  obtain⟨a,b,c,d,e⟩:=oC w h r p i j g (by omega) k (by omega) l m o f
  obtain⟨a2,b2,y,d2,z,A⟩:=bo w h r p i j n (k+1) (g++[w.chn 0 (w.a0 k) p]) a (.val (.int (k:Int))) b c d (by omega) (by simp;omega)
  refine⟨a2,b2,y,d2,z,?_⟩
  rw[My,AW,AW]
  simp only[Z0,Zl,A4,AZ]
  rw[e]
  rw[show g++w.chn 0 (w.a0 k) p::(Hw (k+1) n).map (λk=>w.chn 0 (w.a0 k) p)=g++[w.chn 0 (w.a0 k) p]++(Hw (k+1) n).map (λk=>w.chn 0 (w.a0 k) p) by simp]
  exact A
theorem oF(cell:Int)(f p:Nat)(J:f<=8)(l:0<p)(m:p<=4):∃w:BM,w.Ok/\OJ [.val (.int cell),.val (.int (f:Int)),.val (.int (p:Int))]=some (.own (((Ba f).map λk=>w.chn 0 (w.a0 k) p).map Al)):=by
 obtain⟨sv,A,x⟩:=Pk cell (p:Int)
 have g:=λj:Nat=>oa (sv.getD (12+j) 0%4) (cell+(j:Int)*(sv.getD 16 0%2)*1000003)
 let w:BM:=⟨cell,sv,λj=>if j=0 then 47 else D7 (sv.getD j 0),λj=>(g j).choose⟩
 have y:w.Ok:=⟨x,λj=>by show 1<=(if j=0 then(47:Int)else D7 (sv.getD j 0));split;decide;exact(bn _).1,λj=>by show(if j=0 then(47:Int)else D7 (sv.getD j 0))<=47;split;decide;exact(bn _).2,λj=>(g j).choose_spec.1,λj k B=>(g j).choose_spec.2 k B⟩
 have n:w.sv=sv:=rfl
 have o:w.cell=cell:=rfl
 have q:WD w=.own [.int 47,.int (D7 (sv.getD 1 0)),.int (D7 (sv.getD 2 0)),.int (D7 (sv.getD 3 0))]:=rfl
 obtain⟨a,b,c,d,e,r⟩:=bo w y (.val (.int (f:Int))) p l m f 0 [] (.val (.int 3)) .no .no .no .no (by omega) (by simp;omega)
 refine⟨w,y,?_⟩
 have C:=GW f (by omega)
 have s:HN [.int 1,.int 4]=some [.int 1,.int 2,.int 3]:=by
  rw[Ye 1 4 (by omega) (by omega) (by omega) (by omega)];rfl
 rw[<- T6,KD,n,q,o]at r
 generalize ((Ba f).map λk=>w.chn 0 (w.a0 k) p)=L at *
 have t:=λ(j:Nat) (E:j<20) (z:List D) (u:z.length<100)=>oE (.val (.int cell)) (.val (.int (f:Int))) (.val (.int (p:Int))) sv x j E z u .no .no .no .no .no
 have G:=t 1 (by omega) [.int 47] (by simp)
 have H:=t 2 (by omega) [.int 47,.int (D7 (sv.getD 1 0))] (by simp)
 have I:=t 3 (by omega) [.int 47,.int (D7 (sv.getD 1 0)),.int (D7 (sv.getD 2 0))] (by simp)
 have h:Z0 (Zl 5) Ml [.int ((1:Nat):Int),.int ((2:Nat):Int),.int ((3:Nat):Int)] [.val (.int cell),.val (.int (f:Int)),.val (.int (p:Int)),.val (.lst (sv.map D.int)),.own [.int 47],.no,.no,.no,.no,.no,.no] =
   .next [.val (.int cell),.val (.int (f:Int)),.val (.int (p:Int)),.val (.lst (sv.map D.int)),.own [.int 47,.int (D7 (sv.getD 1 0)),.int (D7 (sv.getD 2 0)),.int (D7 (sv.getD 3 0))],.val (.int 3),.no,.no,.no,.no,.no]:=by
  simp only[Z0,Zl,A4,AZ,G,M5,KD,H,I]
  rfl
 have v:Zn (some [D.int 47])=some [D.int 47]:=Zv _ (by decide)
 have i:Zn (some ([]:List D))=some []:=rfl
 refine Z9 rfl ?_
 show OI [.val (.int cell),.val (.int (f:Int)),.val (.int (p:Int)),.no,.no,.no,.no,.no,.no,.no,.no]=_
 have h:Z0 (Zl 5) Ml [.int 1,.int 2,.int 3] _=_:=h
 simp only[OI,YW,YL,YV,YM,YU,YN,YT,YO,YS,YP,YR,YQ,Zf,Ah,Bb,An,Cn,B3,AS,AL,AA,AV,Zx,Di,BS,A4,AZ,Zb,Zi,Zq,FV,A,Zt,v,i,s,h,C,CA]at r ⊢
 rw[r]
 rfl
theorem oG:∀m∈Ba 46,∃n∈Ba 47,((m+1)*n)%47=1:=by decide +kernel
theorem oH{k j m c:Int}(d:0<=m)(r:m<46)(s:0<=k)(f:k<47)(t:0<=j)(g:j<47)(e:(k*(1+m)+c)%47=(j*(1+m)+c)%47):k=j:=by
 obtain⟨n,u,h⟩:=oG m.toNat (List.mem_range.mpr (by omega))
 have i:((1+m)*(n:Int))%47=1:=by
  have:(((m.toNat+1)*n:Nat):Int)%47=1:=by exact_mod_cast congrArg (λx:Nat=>(x:Int)) h
  rw[Int.natCast_mul,Int.natCast_add]at this
  have a:((m.toNat:Nat):Int)=m:=by omega
  rw[a]at this
  rw[Int.add_comm 1 m]
  exact this
 have l:47 ∣ (k-j)*(1+m):=by
  have:(k*(1+m)+c)-(j*(1+m)+c)=(k-j)*(1+m):=by rw[Int.sub_mul];omega
  rw[<- this]
  exact Int.dvd_of_emod_eq_zero (by omega)
 have b:47 ∣ (k-j)*((1+m)*(n:Int)):=by
  rw[<- Int.mul_assoc]
  exact Int.dvd_mul_of_dvd_left l
 obtain⟨q,o⟩:∃q,(1+m)*(n:Int)=47*q+1:=⟨(1+m)*(n:Int)/47,by omega⟩
 rw[o,Int.mul_add,Int.mul_one]at b
 have p:(47:Int) ∣ (k-j)*(47*q):=⟨(k-j)*q,by rw[<- Int.mul_assoc,<- Int.mul_assoc,Int.mul_comm (k-j) 47]⟩
 have v:(47:Int) ∣ k-j:=(Int.dvd_add_right p).mp b
 omega
theorem BM.a0_inj(w:BM){j k:Nat}(b:j<47)(c:k<47)(e:w.a0 j=w.a0 k):j=k:=by
 unfold BM.a0 at e
 by_cases a:w.cell%2=1
 ·rw[if_pos a,if_pos a]at e;omega
 ·rw[if_neg a,if_neg a]at e
  have e:=congrArg Int.ofNat e
  rw[Int.ofNat_eq_natCast,Int.ofNat_eq_natCast,T5 (Jq _ (by decide)),T5 (Jq _ (by decide))]at e
  exact Int.ofNat.inj (oH (k:=(j:Int)) (j:=(k:Int)) (Jq _ (by decide)) (Pc _ (by decide)) (T7 _) (by omega) (T7 _) (by omega) e)
theorem BM.chn_len(w:BM):∀(n j x:Nat),(w.chn j x n).length=n
 |0,_,_=>rfl
 |n+1,j,x=>by simp[BM.chn,BM.chn_len w n]
structure BZ(ls:L1):Prop where
 ne:0<ls.length
 few:ls.length<=8
 lw:∃p,0<p/\p<=4/\∀l∈ls,l.length=p
 nd:(ls.map As).Nodup
abbrev AC(a:L1):D:=.lst (a.map Al)
theorem BZ.four{a:L1}(h:BZ a):∀l∈a,l.length<=4:=λl b=>by
 obtain⟨p,_,c,e⟩:=h.lw
 rw[e l b];exact c
theorem BZ.some{a:L1}(h:BZ a):∀l∈a,l≠[]:=λl b z=>by
 obtain⟨p,c,_,e⟩:=h.lw
 have:=e l b
 rw[z]at this;simp at this;omega
theorem oI(cell:Int)(c p:Nat)(m:0<c)(o:c<=8)(d:0<p)(f:p<=4):∃g,BZ g/\OJ [.val (.int cell),.val (.int (c:Int)),.val (.int (p:Int))]=some (.own (g.map Al)):=by
 obtain⟨w,h,e⟩:=oF cell c p (by omega) d f
 refine⟨_,⟨by simpa using m,by simpa using o,⟨p,d,f,λl q=>?_⟩,?_⟩,e⟩
 ·obtain⟨k,_,rfl⟩:=List.mem_map.mp q
  exact BM.chn_len w _ _ _
 ·rw[Db,List.nodup_iff_pairwise_ne,List.pairwise_map]
  refine List.Pairwise.imp_of_mem ?_ (List.pairwise_lt_range (n:=c))
  intro a b i j r e
  have i:=List.mem_range.mp i
  have j:=List.mem_range.mp j
  have s:∀k,As (w.chn 0 (w.a0 k) p)=w.fs 0 (w.a0 k):=λk=>by
   rw[show p=(p-1)+1 by omega];rfl
  simp only[Function.comp,s]at e
  have t:=w.B_le
  have:=BM.a0_inj w (by omega) (by omega) (h.vs 0 _ _ (by have:=w.a0_lt a (by omega);omega) (by have:=w.a0_lt b (by omega);omega) e)
  omega
theorem oJ(a:At):Oe [.val (aD a)]=some (.val (Fi a)):=by
 have b:(3:Nat)<=AG:=by decide
 cases a<;>simp[Oe,Bn,Sc,aD,Fi,b]
structure Gx(w:Nat)(la:L1):Prop where
 w0:0<w
 w4:w<=4
 l0:0<la.length
 l9:la.length<=40
 len:∀l∈la,l.length=w
 nd:(la.map As).Nodup
structure AP where
 a:Nat
 lv:Nat
 tp:Bool
 vs:List At
def Dw(q:AP):D:=if q.tp then .tup (q.vs.map aD)else .lst (q.vs.map aD)
def AQ(q:AP):D:=.tup [.int (q.a:Int),.int (q.lv:Int),Dw q]
theorem oK(a:At)(l:List At):Dj true (aD a) (.tup (l.map aD))=some (.bl (!decide (a∈l))):=(Js a l).2
theorem oM(a:At)(q:AP):Dj true (aD a) (Dw q)=some (.bl (!decide (a∈q.vs))):=by
 unfold Dw
 cases q.tp
 ·exact(Js a q.vs).2
 ·exact oK a q.vs
def ZP(b:List AP)(x:Nat)(l:List At):Bool:=b.all λq=>if q.a=x then decide (l.getD q.lv .non∈q.vs)else true
def keep(x:Nat):List AP->L1->L1
 |[],la=>la
 |q::b,la=>keep x b (if q.a=x then la.filter (λl=>decide (l.getD q.lv .non∈q.vs))else la)
theorem bp(x:Nat):∀(b:List AP)(la:L1),keep x b la=la.filter (ZP b x)
 |[],la=>by
  unfold keep
  rw[List.filter_eq_self.mpr]
  intro l _;rfl
 |q::b,la=>by
  unfold keep
  rw[bp x b]
  by_cases h:q.a=x
  ·rw[if_pos h,List.filter_filter]
   refine List.filter_congr λl _=>?_
   unfold ZP
   rw[EA,if_pos h,Bool.and_comm]
  ·rw[if_neg h]
   refine List.filter_congr λl _=>?_
   unfold ZP
   rw[EA,if_neg h,Mz]
theorem T8(s0 c:Sl)(x:Nat):∀(f:List AP)(la:L1)(j d:Sl),(∀q∈f,q.vs.length<=50)->la.length<=1000->(∀l∈la,l.length<=4) ->
  ∃n o,Z0 (Zl 4) Kx (f.map AQ) [s0,c,.val (.int (x:Int)),.val (.lst (la.map Al)),j,d]=.next [s0,c,.val (.int (x:Int)),.val (.lst ((keep x f la).map Al)),n,o]
 |[],la,j,d,_,_,_=>⟨j,d,rfl⟩
 |q::f,la,j,d,r,H,s=>by
  have N:=r q BC
  have I:Aw (AQ q) (.int 0)=some (.int (q.a:Int)):=rfl
  have O:Aw (AQ q) (.int 1)=some (.int (q.lv:Int)):=rfl
  have i2:Aw (AQ q) (.int 2)=some (Dw q):=rfl
  have u:Zz (Dw q)=some (q.vs.map aD):=by unfold Dw;cases q.tp<;>rfl
  have q1:Zn (some (q.vs.map aD))=some (q.vs.map aD):=Zv _ (by simp;omega)
  have q2:Zn (some (la.map Al))=some (la.map Al):=Zv _ (by simp;omega)
  have k:CH (.int (q.a:Int)) (.int (x:Int))=some (.bl (decide (q.a=x))):=by simp;omega
  simp only[AW,Z0,Zl,A4,AZ]
  by_cases m:q.a=x
  ·rw[decide_eq_true m]at k
   have J:=D6 (b:=Zl 0) (e:=Tn) (ρ:=[.no]) aD (λa=>.tup [aD a,.bl true]) q.vs λa _=>⟨[.val (aD a)],rfl,by
    have w:Zn (some [aD a,.bl true])=some [aD a,.bl true]:=Zv _ (by simp)
    simp only[Tn,Zb,Zi,Zt,Bb,AL,AA,AV,w]⟩
   have M:=Mv (q.vs.map λa=>(a,D.bl true)) [] (λ_ h=>nomatch h) (by simp;omega)
   rw[Db]at M
   have hd:∀a,EH false (aD a) (.lst (Zw (De [] (q.vs.map λa=>(a,D.bl true)))) true)=some (.bl (decide (a∈q.vs))):=λa=>by
    rw[aZ,Db]
    have:((λx:At×D=>x.1)∘λa=>(a,D.bl true))=λa:At=>a:=rfl
    rw[this,List.map_id']
    cases decide (a∈q.vs)<;>rfl
   have Q:(q.vs.map λa=>D.tup [aD a,.bl true])=q.vs.map ((λp=>D.tup [aD p.1,p.2])∘λa=>(a,D.bl true)):=rfl
   rw[Q]at J
   generalize q.vs.map ((λp=>D.tup [aD p.1,p.2])∘λa=>(a,D.bl true))=PS,De [] (q.vs.map λa=>(a,D.bl true))=KV at *
   have z:=Pj (b:=Zl 0) (t:=To) (e:=Y6) (ρ:=[.no,.val (AQ q),.lent (Zw KV) true]) Al Al (λl=>decide (l.getD q.lv .non∈q.vs)) la λl A=>⟨[.val (Al l),.val (AQ q),.lent (Zw KV) true],rfl,by
    have T:=Jt l q.lv (by have:=s l A;omega)
    have U:=hd (l.getD q.lv .non)
    simp only[To,Zq,Zb,Zi,An,Ah,Ze,AO,AS,AL,AA,AV,O,T,CZ,U],rfl⟩
   obtain⟨a,b,e⟩:=T8 s0 c x f (la.filter (λl=>decide (l.getD q.lv .non∈q.vs))) (.val (AQ q)) (.own (Zw KV) true) (λy B=>r y (Bv _ B)) (CN (Pl _ _) H) (λl A=>s l (List.mem_filter.mp A).1)
   refine⟨a,b,?_⟩
   have C:Kx [s0,c,.val (.int (x:Int)),.val (.lst (la.map Al)),.val (AQ q),d]=.next [s0,c,.val (.int (x:Int)),.val (.lst ((la.filter (λl=>decide (l.getD q.lv .non∈q.vs))).map Al)),.val (AQ q),.own (Zw KV) true]:=by
    generalize AQ q=E,q.vs.map aD=Y,la.map Al=L,(la.filter (λl=>decide (l.getD q.lv .non∈q.vs))).map Al=L2 at *
    have g:∀v:VE,ZS 1 [] v=[.no]:=λ_=>rfl
    have G:Zz (.lst L)=some L:=rfl
    have i:ZS 1 [4,5] [s0,c,.val (.int (x:Int)),.val (.lst L),.val E,.own (Zw KV) true]=[.no,.val E,.lent (Zw KV) true]:=rfl
    simp only[Kx,Zf,ZM,AO,Ze,Ah,Be,Zx,EY,GV,ZA,ZL,g,i,AS,AL,A4,AZ,AA,AV,I,k,i2,u,q1,J,M,G,q2,z]
   rw[C]
   unfold keep
   rw[if_pos m]
   exact e
  ·rw[decide_eq_false m]at k
   obtain⟨a,b,e⟩:=T8 s0 c x f la (.val (AQ q)) d (λy B=>r y (Bv _ B)) H s
   refine⟨a,b,?_⟩
   have C:Kx [s0,c,.val (.int (x:Int)),.val (.lst (la.map Al)),.val (AQ q),d]=.next [s0,c,.val (.int (x:Int)),.val (.lst (la.map Al)),.val (AQ q),d]:=by
    generalize AQ q=E,la.map Al=L at *
    simp only[Kx,Zf,ZM,AO,Ze,Ah,AS,AL,AA,I,k]
   rw[C]
   unfold keep
   rw[if_neg m]
   exact e
theorem bq(L:D)(c:List AP)(x w:Nat)(la:L1)(j:Aw L (.int (x:Int))=some (.lst (la.map Al)))(h:Gx w la)(k:∀q∈c,q.vs.length<=50):Tq [.val L,.val (.lst (c.map AQ)),.val (.int (x:Int))]=some (.own ((Z3 BQ ((la.filter (ZP c x)).map As)).map aD)):=by
 have s:=h.l9
 have t:=h.w0
 obtain⟨a,b,e⟩:=T8 (.val L) (.val (.lst (c.map AQ))) x c la .no .no k (by omega) (λl m=>by rw[h.len l m];exact h.w4)
 rw[bp]at e
 have n:=Pl (ZP c x) la
 have f:=D6 (b:=Zl 0) (e:=Tp) (ρ:=[.no]) Al (λl=>aD (As l)) (la.filter (ZP c x)) λl o=>⟨[.val (Al l)],rfl,by
  have p:=Hv l (by have:=h.len l (List.mem_filter.mp o).1;rintro rfl;simp at this;omega)
  simp only[Tp,Ah,Ze,AL,AA,p]⟩
 rw[show((la.filter (ZP c x)).map λl=>aD (As l))=((la.filter (ZP c x)).map As).map aD by rw[Db];rfl]at f
 have i:=ou (.val (.lst (((la.filter (ZP c x)).map As).map aD))) ((la.filter (ZP c x)).map As) (.inl rfl) (by rw[B1];omega)
 rw[ow (List.Nodup.sublist (List.filter_sublist.map _) h.nd)]at i
 have q1:Zn (some ((la.filter (ZP c x)).map Al))=some ((la.filter (ZP c x)).map Al):=Zv _ (by rw[B1];omega)
 generalize c.map AQ=r,la.map Al=L1,(la.filter (ZP c x)).map Al=L2,((la.filter (ZP c x)).map As).map aD=u,(Z3 BQ ((la.filter (ZP c x)).map As)).map aD=W at *
 refine Z9 rfl ?_
 show OW [.val L,.val (.lst r),.val (.int (x:Int)),.no,.no,.no]=_
 have d:∀g:VE,ZS 1 [] g=[.no]:=λ_=>rfl
 simp only[OW,Zf,Zx,BS,B3,Ze,Ah,Be,Zz,FW,Zb,Zi,ZA,ZL,d,AS,AL,A4,AZ,AA,AV,j,e,q1,f,i,Lq]
def LD(a:List (Nat×L1)):D:=.lst (a.map λp=>.lst (p.2.map Al))
structure Pm(Ls:List (Nat×L1)):Prop where
 one:1<=Ls.length
 few:Ls.length<=4
 la:∀p∈Ls,Gx p.1 p.2
 l8:∀p∈Ls,p.2.length<=8
def GD(gs:List Nat):D:=.tup (gs.map λ(n:Nat)=>D.int (n:Int))
def MA(a:List (Nat×L1))(gs:List Nat):Prop:=gs.length=a.length/\∀x w la,a[x]?=some (w,la)->gs.getD x 0<=w
theorem br{a:List (Nat×L1)}{x w:Nat}{la:L1}(h:a[x]?=some (w,la)):Aw (LD a) (.int (x:Int))=some (.lst (la.map Al)):=DV (by rw[C1,h];rfl)
theorem bt{gs:List Nat}{x:Nat}(h:x<gs.length):Aw (GD gs) (.int (x:Int))=some (.int ((gs.getD x 0:Nat):Int)):=DV (by rw[C1,Cu h];simp[CL,Cu h])
theorem oN(a:List (Nat×L1)):Cd [LD a]=some (.int (a.length:Int)):=by simp only[LD,Cd,B1]
theorem oO{w:Nat}{la:L1}(h:Gx w la):∃l0,Aw (.lst (la.map Al)) (.int 0)=some (Al l0)/\Cd [Al l0]=some (.int (w:Int)):=by
 cases a:la with
 |nil=>have:=h.l0;rw[a]at this;simp at this
 |cons l0 r=>
  have:=h.len l0 (by rw[a];exact BC)
  exact⟨l0,by simp[atI,DU],by simp[Al,this]⟩
def FE(b:List (Nat×L1))(q:AP):Prop:=q.vs.length<=50/\∃p,b[q.a]?=some p/\q.lv<=p.1
theorem Pn{g m:Type}{f:g->m}:∀{l:List g},(l.map f).Nodup->∀{a b:g},a∈l->b∈l->f a=f b->a=b
 |x::r,h,a,b,n,j,e=>by
  rw[AW,EQ]at h
  rcases Br.mp n with k|d
  ·rcases Br.mp j with i|c
   ·rw[k,i]
   ·rw[k]at e
    exact absurd (List.mem_map.mpr ⟨b,c,e.symm⟩) h.1
  ·rcases Br.mp j with i|c
   ·rw[i]at e
    exact absurd (List.mem_map.mpr ⟨a,d,e⟩) h.1
   ·exact Pn h.2 d c e
theorem bu{w:Nat}{la:L1}(h:Gx w la)(P:List At->Bool){l:List At}(b:l∈la):decide (As l∈(la.filter P).map As)=P l:=by
 rw[Io,decide_eq_true_eq]
 constructor
 ·intro a
  obtain⟨m,a,e⟩:=List.mem_map.mp a
  obtain⟨c,d⟩:=List.mem_filter.mp a
  rw[<- Pn h.nd c b e]
  exact d
 ·intro f
  exact List.mem_map.mpr ⟨l,List.mem_filter.mpr ⟨b,f⟩,rfl⟩
def F2(a:List AP)(x g:Nat)(l:List At):Option At:=if ZP a x l=true then some (l.getD g .non)else none
def MB(b:List AP)(x k g:Nat)(one a:List At):Bool:=decide (one.getD k .non=a.getD k .non)&&!decide (F2 b x g one=F2 b x g a)
def EJ(t:Nat×At×At):D:=.tup [.int (t.1:Int),aD t.2.1,aD t.2.2]
theorem oP(b:L1):Dj false (.lst []) (.lst (b.map λm=>D.lst (m.map aD)))=some (.bl (b.any λm=>m.isEmpty)):=by
 have c:A3 Cc (.lst [])=true:=rfl
 have d:(b.map λm=>D.lst (m.map aD)).all (A3 Cc)=true:=by
  rw[GP,D9]
  intro m _
  show(m.map aD).all (A3 11)=true
  rw[GP,D9]
  exact λa _=>Jp 11 a
 have e:Go (.lst []) (b.map λm=>D.lst (m.map aD))=b.any λm=>m.isEmpty:=by
  unfold Go
  rw[List.any_map]
  congr 1
  funext m
  cases m<;>rfl
 simp only[Dj,c,d,e,EI,if_true,DW,if_false]
def F3(a:List (Nat×L1))(b:List AP):Bool:=(Ba a.length).any λx=>(((a.getD x (0,[])).2).filter (ZP b x)).isEmpty
theorem oQ{a:List (Nat×L1)}{x:Nat}(b:x<a.length):∃w la,a[x]?=some (w,la)/\(a.getD x (0,[])).2=la:=⟨(a[x]).1,(a[x]).2,by rw[Cu b],by simp[CL,Cu b]⟩
def FF:D:=.tup [.str "out",.non]
def KH(a:At):D:=.tup [.str "in",aD a]
def Gy(o:Option At):D:=match o with
 |some a=>KH a
 |none=>FF
def KI(o:Option At):List At:=match o with
 |some a=>[.str "in",a]
 |none=>[.str "out",.non]
theorem bv(o:Option At):Gy o=Al (KI o):=by cases o<;>rfl
theorem oR(o p:Option At):Dy (Gy o) (Gy p)=some (.bl (!decide (o=p))):=by
 have c:¬ (At.str "out"=At.str "in"):=λz=>by
  have h:¬ (DT "out"=DT "in"):=by decide +kernel
  exact h (by injection z)
 rw[bv,bv,aE]
 have:(KI o=KI p)↔o=p:=by
  cases o with
  |none=>cases p with
   |none=>simp
   |some b=>
    simp only[KI,LQ,reduceCtorEq,iff_false]
    exact λz=>c z.1
  |some a=>cases p with
   |none=>
    simp only[KI,LQ,reduceCtorEq,iff_false]
    exact λz=>c z.1.symm
   |some b=>simp[KI]
 simp only[this]
def T9(la:L1)(f:List At->Option At)(kvs:Bx):Prop:=(∀p∈kvs,EG p.1=true)/\kvs.length<=100/\∀l∈la,ZT kvs (.at (As l))=some (Gy (f l))
theorem Ua(s0:Sl)(w g:Nat)(la:L1)(h:Gx w la)(H:la.length<=8)(ch:List At):∀(o done:L1)(kvs:Bx)(u:Sl),la=done++o->(∀p∈kvs,EG p.1=true)->kvs.length<=8+done.length->(∀l∈la,ZT kvs (.at (As l))=some (if l∈done/\As l∈ch then KH (l.getD g .non)else FF)) ->
  ∃(c:Bx) (f:Sl),T9 la (λl=>if As l∈ch then some (l.getD g .non)else none) c/\Z0 (Zl 4) Kv (o.map Al) [s0,.val (.int (g:Int)),.val (.lst (ch.map aD)),.own (Zw kvs) true,u]=.next [s0,.val (.int (g:Int)),.val (.lst (ch.map aD)),.own (Zw c) true,f]
 |[],done,kvs,u,i,s,J,v=>⟨kvs,u,⟨s,by rw[Fp]at i;subst i;omega,λl q=>by
   rw[Fp]at i
   subst i
   rw[v l q]
   show _=some (Gy (if As l∈ch then some (l.getD g .non)else none))
   by_cases j:As l∈ch
   ·rw[if_pos ⟨q,j⟩,if_pos j];rfl
   ·rw[if_neg (λz=>j z.2),if_neg j];rfl⟩,rfl⟩
 |l::o,done,kvs,u,i,s,J,v=>by
  have q:l∈la:=by rw[i];simp
  have x:l≠[]:=λz=>by have q1:=h.len l q;have q2:=h.w0;rw[z]at q1;simp at q1;omega
  have I:=Hv l x
  have k:=(Js (As l) ch).1
  have y:=Jt l g (by have q1:=h.len l q;have q2:=h.w4;omega)
  have L:done.length+o.length+1=la.length:=by rw[i];simp;omega
  have n:∀m∈la,As m=As l->m=l:=λm r e=>Pn h.nd r q e
  simp only[AW,Z0,Zl,A4,AZ]
  by_cases j:As l∈ch
  ·rw[decide_eq_true j]at k
   have hok:=Ip (As l)
   have M:=Ib (As l) s
   have A:decide (kvs.length<AG)=true:=decide_eq_true (Cg (show kvs.length<1000 by omega) (by decide))
   have B:=Kk kvs
   have N:=Nv kvs (.at (As l)) (KH (l.getD g .non))
   obtain⟨c,f,C,e⟩:=Ua s0 w g la h H ch o (done++[l]) (Ce kvs (.at (As l)) (KH (l.getD g .non))) (.val (Al l)) (by rw[i];simp) (Pf s) (by rw[Ge,Cq,E9];omega) (λm r=>by
    rw[Ko]
    by_cases d:m=l
    ·subst d
     rw[if_pos rfl,if_pos ⟨by simp,j⟩]
    ·have t:¬ KT.at (As l)=KT.at (As m):=λz=>d (n m r (by injection z with z;exact z.symm))
     rw[if_neg t,v m r]
     have:(m∈done++[l]/\As m∈ch)↔(m∈done/\As m∈ch):=by simp[d]
     simp only[this])
   refine⟨c,f,C,?_⟩
   have E:∀a b:D,Zn (some [a,b])=some [a,b]:=λ_ _=>Zv _ (by simp)
   have G:Kv [s0,.val (.int (g:Int)),.val (.lst (ch.map aD)),.own (Zw kvs) true,.val (Al l)]=.next [s0,.val (.int (g:Int)),.val (.lst (ch.map aD)),.own (Zw (Ce kvs (.at (As l)) (KH (l.getD g .non)))) true,.val (Al l)]:=by
    unfold KH
    generalize Zw kvs=O,ch.map aD=Q,aD (As l)=T,aD (l.getD g .non)=U at *
    simp only[Kv,I,k,y,CZ,E,Ia,EX,B,hok,M,A,EI,if_true,Zf,ZM,AO,Ze,Ch,Ah,Bb,An,Zq,Zb,Zi,Zt,ZA,ZD,Cv,By,pk,Cb,Zx,ZO,AS,AL,A4,AZ,AA,AV]
   rw[G]
   exact e
  ·rw[decide_eq_false j]at k
   obtain⟨c,f,C,e⟩:=Ua s0 w g la h H ch o (done++[l]) kvs (.val (Al l)) (by rw[i];simp) s (by rw[Ge];omega) (λm r=>by
    rw[v m r]
    have:(m∈done++[l]/\As m∈ch)↔(m∈done/\As m∈ch):=by
     by_cases d:m=l
     ·subst d;simp[j]
     ·simp[d]
    simp only[this])
   refine⟨c,f,C,?_⟩
   have G:Kv [s0,.val (.int (g:Int)),.val (.lst (ch.map aD)),.own (Zw kvs) true,.val (Al l)]=.next [s0,.val (.int (g:Int)),.val (.lst (ch.map aD)),.own (Zw kvs) true,.val (Al l)]:=by
    generalize Zw kvs=O,ch.map aD=Q,aD (As l)=T at *
    simp only[Kv,I,k,Zf,ZM,AO,Ze,Ch,Ah,Bb,An,Zq,Zb,Zi,Zt,ZA,ZD,Cv,By,pk,Cb,Zx,ZO,AS,AL,A4,AZ,AA,AV]
   rw[G]
   exact e
theorem oS{w:Nat}{la:L1}(h:Gx w la)(o:la.length<=8)(g:Nat)(ch:List At):∃kvs,T9 la (λl=>if As l∈ch then some (l.getD g .non)else none) kvs/\Sm [.val (.lst (la.map Al)),.val (.int (g:Int)),.val (.lst (ch.map aD))]=some (.own (Zw kvs) true):=by
 have i:∀l∈la,l≠[]:=λl c z=>by have q1:=h.len l c;have q2:=h.w0;rw[z]at q1;simp at q1;omega
 have p:=D6 (b:=Zl 0) (e:=Sk) (ρ:=[.no]) Al (λl=>D.tup [aD (As l),FF]) la λl c=>⟨[.val (Al l)],rfl,by
  have q:=Hv l (i l c)
  have j:∀a b:D,Zn (some [a,b])=some [a,b]:=λ_ _=>Zv _ (by simp)
  unfold FF
  simp only[Sk,q,j,Zf,ZM,AO,Ze,Ch,Ah,Bb,An,Zq,Zb,Zi,Zt,ZA,ZD,Cv,By,pk,Cb,Zx,ZO,AS,AL,A4,AZ,AA,AV]⟩
 have d:=Mv (la.map λl=>(As l,FF)) [] (λ_ h=>nomatch h) (by simp;omega)
 rw[Db]at d
 have f:Ht [] (la.map λl=>D.tup [aD (As l),FF])=some (De [] (la.map λl=>(As l,FF))):=d
 have k:((la.map λl=>(As l,FF)).map (·.1)).Nodup:=by rw[Db];exact h.nd
 have m:=aW (la.map λl=>(As l,FF)) []
 obtain⟨kvs,r,s,e⟩:=Ua (.val (.lst (la.map Al))) w g la h o ch la [] (De [] (la.map λl=>(As l,FF))) .no rfl (Mw _ _ (λ_ h=>nomatch h)) (by simp at m ⊢;omega) (λl c=>by
  rw[TY (v:=FF) _ _ k (List.mem_map.mpr ⟨l,c,rfl⟩)]
  simp)
 refine⟨kvs,s,?_⟩
 have q1:Zn (some (la.map Al))=some (la.map Al):=Zv _ (by simp;omega)
 refine Z9 rfl ?_
 show Op [.val (.lst (la.map Al)),.val (.int (g:Int)),.val (.lst (ch.map aD)),.no,.no]=_
 have n:ZS 1 [] [.val (.lst (la.map Al)),.val (.int (g:Int)),.val (.lst (ch.map aD)),.no,.no]=[.no]:=rfl
 generalize ch.map aD=u,la.map Al=x,De [] (la.map λl=>(As l,FF))=y,(la.map λl=>D.tup [aD (As l),FF])=A at *
 simp only[Op,GV,ZL,n,Be,Zz,q1,p,f,EY,BS,e,EX,Hd,Zf,ZM,AO,Ze,Ch,Ah,Bb,An,Zq,Zb,Zi,Zt,ZA,ZD,Cv,By,pk,Cb,Zx,ZO,AS,AL,A4,AZ,AA,AV]
def Fj(k:Nat)(done:L1)(v:At):Option (List At):=done.find? λl=>decide (l.getD k .non=v)
theorem Po(k:Nat)(l:List At)(v:At):List.find? (λl=>decide (l.getD k .non=v)) [l]=if l.getD k .non=v then some l else none:=by
 by_cases h:l.getD k .non=v
 ·rw[if_pos h,List.find?_cons_of_pos (p:=λl=>decide (l.getD k .non=v)) (a:=l) (decide_eq_true h)]
 ·rw[if_neg h,List.find?_cons_of_neg (p:=λl=>decide (l.getD k .non=v)) (a:=l) (λz=>h (of_decide_eq_true z)),List.find?_nil]
theorem bw(s1 n o:Sl)(w k:Nat)(hkk:s1=.val (.int (k:Int)))(la:L1)(h:Gx w la)(h8:la.length<=8)(f:List At->Option At)(kvs:Bx)(A:T9 la f kvs)(s0:Sl):∀(s done:L1)(d:Bx)(O q:Sl),la=done++s->(∀p∈d,EG p.1=true)->d.length<=done.length->(∀v,ZT d (.at v)=(Fj k done v).map λl=>aD (As l)) ->
  (∃c Q,c∈la/\Q∈la/\c.getD k .non=Q.getD k .non/\f c≠f Q/\Z0 (Zl 6) Jm (s.map Al) [s0,s1,n,o,.val (.lst (Zw kvs) true),.own (Zw d) true,O,q]=.ret (.val (.tup [aD (As c),aD (As Q)]))) \/
  ((∀l∈s,∃c,Fj k la (l.getD k .non)=some c/\f c=f l)/\∃ρ,Z0 (Zl 6) Jm (s.map Al) [s0,s1,n,o,.val (.lst (Zw kvs) true),.own (Zw d) true,O,q]=.next ρ)
 |[],done,d,O,q,y,T,h2,U=>.inr ⟨λ_ h=>(nomatch h),_,rfl⟩
 |l::s,done,d,O,q,y,T,h2,U=>by
  subst hkk
  have B:l∈la:=by rw[y];simp
  have hne:l≠[]:=λz=>by have q1:=h.len l B;have q2:=h.w0;rw[z]at q1;simp at q1;omega
  have h0:=Hv l hne
  have hla:=Jt l k (by have q1:=h.len l B;have q2:=h.w4;omega)
  have hdl:done.length+s.length+1=la.length:=by rw[y];simp;omega
  have hok:=Ip (l.getD k .non)
  have hh:=Ib (l.getD k .non) T
  have hzk:decide (d.length<AG)=true:=decide_eq_true (Cg (show d.length<1000 by omega) (by decide))
  have hun:=Kk d
  have Y:=U (l.getD k .non)
  obtain⟨c,C,E,e,G,g1,g2,g3,H⟩:∃c,c∈la/\c.getD k .non=l.getD k .non/\∃e:Bx,Fj k (done++[l]) (l.getD k .non)=some c/\(∀p∈e,EG p.1=true)/\e.length<=done.length+1/\(∀v,ZT e (.at v)=(Fj k (done++[l]) v).map λl=>aD (As l)) /\
    Kp 5 (Zq Fz (λρ=>Zb (An ρ 6) (Zb (An ρ 1) (some [])))) (Ze Aw (λρ=>Ah ρ 6) (λ_=>some (.int 0))) [s0,.val (.int (k:Int)),n,o,.val (.lst (Zw kvs) true),.own (Zw d) true,.val (Al l),q]=some (aD (As c),[s0,.val (.int (k:Int)),n,o,.val (.lst (Zw kvs) true),.own (Zw e) true,.val (Al l),q]):=by
   have u:Kp 5 (Zq Fz (λρ=>Zb (An ρ 6) (Zb (An ρ 1) (some [])))) (Ze Aw (λρ=>Ah ρ 6) (λ_=>some (.int 0))) [s0,.val (.int (k:Int)),n,o,.val (.lst (Zw kvs) true),.own (Zw d) true,.val (Al l),q]=(match ZT d (.at (l.getD k .non))with
    |some v=>some (v,[s0,.val (.int (k:Int)),n,o,.val (.lst (Zw kvs) true),.own (Zw d) true,.val (Al l),q])
    |none=>some (aD (As l),[s0,.val (.int (k:Int)),n,o,.val (.lst (Zw kvs) true),.own (Zw (Ce d (.at (l.getD k .non)) (aD (As l)))) true,.val (Al l),q])):=by
    generalize hKV:Sl.val (.lst (Zw kvs) true)=KV at *
    simp only[Kp,EX,Zq,Zb,An,Ah,Ze,AS,AL,AA,AV,hla,CZ,h0,hun,hok,hh,hzk,EI,if_true,A4,AZ]
    all_goals(cases ZT d (.at (l.getD k .non))<;>rfl)
   cases j:Fj k done (l.getD k .non)with
   |some c=>
    rw[j]at Y
    have hp:=List.find?_some j
    have I:c∈la:=by rw[y];exact JC _ (List.mem_of_find?_eq_some j)
    refine⟨c,I,by simpa using hp,d,?_,T,by omega,λv=>?_,?_⟩
    ·unfold Fj at j ⊢
     rw[Pp,j];rfl
    ·rw[U v]
     unfold Fj
     rw[Pp]
     cases x:done.find? (λl=>decide (l.getD k .non=v))with
     |some m=>rfl
     |none=>
      by_cases i:l.getD k .non=v
      ·subst i
       unfold Fj at j
       rw[j]at x;cases x
      ·rw[Po,if_neg i];rfl
    ·rw[u,Y];rfl
   |none=>
    rw[j]at Y
    have hpl:=Nv d (.at (l.getD k .non)) (aD (As l))
    refine⟨l,B,rfl,Ce d (.at (l.getD k .non)) (aD (As l)),?_,Pf T,by omega,λv=>?_,?_⟩
    ·unfold Fj at j ⊢
     rw[Pp,j,Po,if_pos rfl];rfl
    ·rw[Ko]
     unfold Fj
     rw[Pp]
     by_cases i:l.getD k .non=v
     ·subst i
      unfold Fj at j
      rw[if_pos rfl,j,Po,if_pos rfl];rfl
     ·have J:¬ KT.at (l.getD k .non)=KT.at v:=λz=>i (by injection z)
      rw[if_neg J,U v]
      unfold Fj
      cases x:done.find? (λl=>decide (l.getD k .non=v))with
      |some m=>rfl
      |none=>rw[Po,if_neg i];rfl
    ·rw[u,Y];rfl
  have L:Fj k la (l.getD k .non)=some c:=by
   unfold Fj at G ⊢
   rw[y,show done++l::s=(done++[l])++s by simp,Pp,G];rfl
  have M:D4 (.lst (Zw kvs) true) (aD (As c))=some (Gy (f c)):=by
   rw[LV,Ip]
   have q1:=Ib (As c) A.1
   have q2:=A.2.2 c C
   simp[q1,q2]
  have N:D4 (.lst (Zw kvs) true) (aD (As l))=some (Gy (f l)):=by
   rw[LV,Ip]
   have q1:=Ib (As l) A.1
   have q2:=A.2.2 l B
   simp[q1,q2]
  have g:=oR (f c) (f l)
  have sh2:∀a b:D,Zn (some [a,b])=some [a,b]:=λ_ _=>Zv _ (by simp)
  simp only[AW,Z0,Zl,A4,AZ]
  by_cases t:f c=f l
  ·rw[decide_eq_true t]at g
   have hb:Jm [s0,.val (.int (k:Int)),n,o,.val (.lst (Zw kvs) true),.own (Zw d) true,.val (Al l),q]=.next [s0,.val (.int (k:Int)),n,o,.val (.lst (Zw kvs) true),.own (Zw e) true,.val (Al l),.val (aD (As c))]:=by
    unfold Jm
    rw[H]
    generalize Gy (f l)=A2,Gy (f c)=A1,D.lst (Zw kvs) true=KV,aD (As l)=H2,aD (As c)=H1 at *
    simp only[Nw,M,N,h0,g,Gw,Zf,ZM,AO,Ze,Ch,Ah,Bb,An,Zq,Zb,Zi,Zt,ZA,ZD,Cv,By,pk,Cb,Zx,ZO,AS,AL,A4,AZ,AA,AV]
   rw[hb]
   rcases bw (.val (.int (k:Int))) n o w k rfl la h h8 f kvs A s0 s (done++[l]) e (.val (Al l)) (.val (aD (As c))) (by rw[y];simp) g1 (by simpa using g2) g3 with r|⟨r1,r2⟩
   ·exact .inl r
   ·refine .inr ⟨λm I=>?_,r2⟩
    rcases Br.mp I with rfl|I
    ·exact⟨c,L,t⟩
    ·exact r1 m I
  ·rw[decide_eq_false t]at g
   refine .inl ⟨c,l,C,B,E,t,?_⟩
   have hb:Jm [s0,.val (.int (k:Int)),n,o,.val (.lst (Zw kvs) true),.own (Zw d) true,.val (Al l),q]=.ret (.val (.tup [aD (As c),aD (As l)])):=by
    unfold Jm
    rw[H]
    generalize Gy (f l)=A2,Gy (f c)=A1,D.lst (Zw kvs) true=KV,aD (As l)=H2,aD (As c)=H1 at *
    simp only[Nw,M,N,h0,g,KG,sh2,Zf,ZM,AO,Ze,Ch,Ah,Bb,An,Zq,Zb,Zi,Zt,ZA,ZD,Cv,By,pk,Cb,Zx,ZO,AS,AL,A4,AZ,AA,AV]
   rw[hb]
theorem oU{w:Nat}{la:L1}(h:Gx w la)(p:la.length<=8)(k g:Nat)(ch:List At):
  (∃c d,c∈la/\d∈la/\c.getD k .non=d.getD k .non/\(if As c∈ch then some (c.getD g .non)else none)≠(if As d∈ch then some (d.getD g .non)else none)/\Mk [.val (.lst (la.map Al)),.val (.int (k:Int)),.val (.int (g:Int)),.val (.lst (ch.map aD))]=some (.val (.tup [aD (As c),aD (As d)]))) \/
  ((∀c∈la,∀d∈la,c.getD k .non=d.getD k .non->(if As c∈ch then some (c.getD g .non)else none)=(if As d∈ch then some (d.getD g .non)else none))/\Mk [.val (.lst (la.map Al)),.val (.int (k:Int)),.val (.int (g:Int)),.val (.lst (ch.map aD))]=some (.val .non)):=by
 obtain⟨i,x,q⟩:=oS h p g ch
 have j:Mk [.val (.lst (la.map Al)),.val (.int (k:Int)),.val (.int (g:Int)),.val (.lst (ch.map aD))]=match OE [.val (.lst (la.map Al)),.val (.int (k:Int)),.val (.int (g:Int)),.val (.lst (ch.map aD)),.no,.no,.no,.no]with
  |.ret r=>some r
  |.next _=>some (.val .non)
  |_=>none:=rfl
 rw[j]
 rcases bw (.val (.int (k:Int))) (.val (.int (g:Int))) (.val (.lst (ch.map aD))) w k rfl la h p (λl=>if As l∈ch then some (l.getD g .non)else none) i x (.val (.lst (la.map Al))) la [] [] .no .no rfl (λ_ h=>nomatch h) (by simp) (λv=>rfl)with⟨c,d,m1,m2,y,z,s⟩|⟨t,G,u⟩
 ·refine .inl ⟨c,d,m1,m2,y,z,?_⟩
  rw[show Zw ([]:Bx)=[]from rfl]at s
  generalize ch.map aD=A,la.map Al=B at *
  simp only[OE,SS,SX,SU,SW,SV,q,Dd,EY,BS,Be,Zz,s,Zf,ZM,AO,Ze,Ch,Ah,Bb,An,Zq,Zb,Zi,Zt,ZA,ZD,Cv,By,pk,Cb,Zx,ZO,AS,AL,A4,AZ,AA,AV]
 ·refine .inr ⟨λc C d E e=>?_,?_⟩
  ·obtain⟨a,f,m⟩:=t c C
   obtain⟨b,n,o⟩:=t d E
   rw[e,n]at f
   cases f
   exact m.symm.trans o
  ·rw[show Zw ([]:Bx)=[]from rfl]at u
   generalize ch.map aD=A,la.map Al=B at *
   simp only[OE,SS,SX,SU,SW,SV,YJ,YI,q,Dd,EY,BS,Be,Zz,u,Zf,ZM,AO,Ze,Ch,Ah,Bb,An,Zq,Zb,Zi,Zt,ZA,ZD,Cv,By,pk,Cb,Zx,ZO,AS,AL,A4,AZ,AA,AV]
def Jv(b:List (Nat×L1))(c gs:List Nat)(d:List AP)(t:Nat×At×At):Prop:=∃w la one a,b[t.1]?=some (w,la)/\one∈la/\a∈la/\MB d t.1 (c.getD t.1 0) (gs.getD t.1 0) one a=true/\t.2.1=As one/\t.2.2=As a
theorem bz{w:Nat}{la:L1}(h:Gx w la)(a:List AP)(x:Nat){l:List At}(b:l∈la):As l∈Z3 BQ ((la.filter (ZP a x)).map As)↔ZP a x l=true:=by
 rw[(Fg BQ _).mem_iff]
 have:=bu h (ZP a x) b
 rw[Io,decide_eq_true_eq]at this
 exact this
theorem bB(s0 M N o:Sl)(d:List (Nat×L1))(h:Pm d)(e gs:List Nat)(T:MA d e)(U:MA d gs)(e1:M=.val (GD e))(e2:N=.val (GD gs))(g:List AP)(n:D)(s:∀(x w:Nat)(la:L1),d[x]?=some (w,la)->Aw n (.int (x:Int))=some (.lst ((Z3 BQ ((la.filter (ZP g x)).map As)).map aD))):∀(k:List (Nat×L1))(x:Nat)(I J q:Sl),d.drop x=k->x+k.length=d.length ->
  (∃t,Jv d e gs g t/\Z0 (BU 2 (ZC (Zl 5) (ZC (Zl 6) BX))) Jo (CK x (k.map λp=>D.lst (p.2.map Al))) [s0,M,N,o,.val n,I,J,q]=.ret (.val (EJ t))) \/
  ((∀t,x<=t.1->¬ Jv d e gs g t)/\∃ρ,Z0 (BU 2 (ZC (Zl 5) (ZC (Zl 6) BX))) Jo (CK x (k.map λp=>D.lst (p.2.map Al))) [s0,M,N,o,.val n,I,J,q]=.next ρ)
 |[],x,I,J,q,hd,u=>.inr ⟨λt ht v=>by
   obtain⟨w,la,_,_,y,_⟩:=v
   have:=(List.getElem?_eq_some_iff.mp y).1
   simp at u
   omega,_,rfl⟩
 |(w,la)::k,x,I,J,q,hd,u=>by
  subst e1 e2
  simp only[Cq]at u
  have A:d[x]?=some (w,la):=by
   have:(d.drop x)[0]?=some (w,la):=by rw[hd];rfl
   rw[MZ]at this
   simpa using this
  have O:d.drop (x+1)=k:=by
   have:(d.drop x).drop 1=k:=by rw[hd];rfl
   rw[List.drop_drop]at this
   exact this
  have Y:=Ei A
  have B:Gx w la:=h.la _ Y
  have h8:la.length<=8:=h.l8 _ Y
  have C:x<d.length:=(List.getElem?_eq_some_iff.mp A).1
  have k1:=bt (gs:=e) (x:=x) (by rw[T.1];exact C)
  have g1:=bt (gs:=gs) (x:=x) (by rw[U.1];exact C)
  have c1:=s x w la A
  have j:∀l∈la,(if As l∈Z3 BQ ((la.filter (ZP g x)).map As)then some (l.getD (gs.getD x 0) .non)else none)=F2 g x (gs.getD x 0) l:=λl u=>by
   unfold F2
   have:=bz B g x u
   by_cases L:ZP g x l=true
   ·rw[if_pos (this.mpr L),if_pos L]
   ·rw[if_neg (λz=>L (this.mp z)),if_neg L]
  simp only[AW,CK,Z0,BU,ZC,Zl,BX,Cq,E9,A4,AZ,AA,if_pos]
  rcases oU B h8 (e.getD x 0) (gs.getD x 0) (Z3 BQ ((la.filter (ZP g x)).map As))with⟨E,G,m1,m2,q1,q2,q3⟩|⟨q1,q2⟩
  ·rw[j E m1,j G m2]at q2
   refine .inl ⟨(x,As E,As G),⟨w,la,E,G,A,m1,m2,?_,rfl,rfl⟩,?_⟩
   ·unfold MB
    rw[decide_eq_true q1,decide_eq_false q2];rfl
   ·have sh:∀a b c:D,Zn (some [a,b,c])=some [a,b,c]:=λ_ _ _=>Zv _ (by simp)
    have i0:∀a b:D,Aw (.tup [a,b]) (.int 0)=some a:=λ_ _=>rfl
    have i1:∀a b:D,Aw (.tup [a,b]) (.int 1)=some b:=λ_ _=>rfl
    have v:Jo [s0,.val (GD e),.val (GD gs),o,.val n,.val (.int (x:Int)),.val (.lst (la.map Al)),q]=.ret (.val (EJ (x,As E,As G))):=by
     unfold EJ
     dsimp only
     generalize aD (As G)=H2,aD (As E)=H1,GD gs=GG,GD e=KK,la.map Al=LA,(Z3 BQ ((la.filter (ZP g x)).map As)).map aD=S at *
     simp only[Jo,k1,g1,c1,q3,CZ,C8,Gk,isN,KG,i0,i1,sh,Zf,ZM,AO,Ze,Ch,Ah,Bb,An,Zq,Zb,Zi,Zt,ZA,ZD,Cv,By,pk,Cb,Zx,ZO,AS,AL,A4,AZ,AA,AV]
    rw[v]
  ·have v:Jo [s0,.val (GD e),.val (GD gs),o,.val n,.val (.int (x:Int)),.val (.lst (la.map Al)),q]=.next [s0,.val (GD e),.val (GD gs),o,.val n,.val (.int (x:Int)),.val (.lst (la.map Al)),.val .non]:=by
    generalize GD gs=GG,GD e=KK,la.map Al=LA,(Z3 BQ ((la.filter (ZP g x)).map As)).map aD=S at *
    simp only[Jo,k1,g1,c1,q2,CZ,C8,Gk,isN,Gw,Zf,ZM,AO,Ze,Ch,Ah,Bb,An,Zq,Zb,Zi,Zt,ZA,ZD,Cv,By,pk,Cb,Zx,ZO,AS,AL,A4,AZ,AA,AV]
   rw[v]
   rcases bB s0 (.val (GD e)) (.val (GD gs)) o d h e gs T U rfl rfl g n s k (x+1) (.val (.int (x:Int))) (.val (.lst (la.map Al))) (.val .non) O (by omega)with r|⟨r1,r2⟩
   ·exact .inl r
   ·refine .inr ⟨λt ht m=>?_,r2⟩
    by_cases Q:x=t.1
    ·obtain⟨w',la',one,i,y,ho,H,f,_,_⟩:=m
     rw[<- Q]at y f
     rw[A]at y
     cases y
     have:=q1 one ho i H
     rw[j one ho,j i H]at this
     unfold MB at f
     rw[C7,decide_eq_true_eq]at f
     rw[decide_eq_true (this f.1)]at f
     exact absurd f.2 (by decide)
    ·exact r1 t (by omega) m
theorem oV{a:List (Nat×L1)}(h:Pm a)(f gs:List Nat)(I:MA a f)(J:MA a gs)(c:List AP)(M:∀q∈c,FE a q):
  (∃t,F3 a c=false/\Jv a f gs c t/\Gu [.val (LD a),.val (GD f),.val (GD gs),.val (.lst (c.map AQ))]=some (.val (EJ t))) \/
  ((F3 a c=true\/∀t,¬ Jv a f gs c t)/\Gu [.val (LD a),.val (GD f),.val (GD gs),.val (.lst (c.map AQ))]=some (.val .non)):=by
 have h3:=h.few
 have O:=D6 (b:=Zl 0) (e:=Mq) (ρ:=[.no,.val (LD a),.val (.lst (c.map AQ))]) (λ(k:Nat)=>D.int (k:Int)) (λx=>D.lst ((Z3 BQ ((((a.getD x (0,[])).2).filter (ZP c x)).map As)).map aD)) (Ba a.length) λx u=>⟨[.val (.int (x:Int)),.val (LD a),.val (.lst (c.map AQ))],rfl,by
  obtain⟨w,la,l,v⟩:=oQ (List.mem_range.mp u)
  have U:=bq (LD a) c x w la (br l) (h.la _ (Ei l)) λq Y=>(M q Y).1
  rw[v]
  generalize c.map AQ=Q,LD a=L,(Z3 BQ ((la.filter (ZP c x)).map As)).map aD=S at *
  simp only[Mq,U,Dd,Zf,ZM,AO,Ze,Ch,Ah,Bb,An,Zq,Zb,Zi,Zt,ZA,ZD,Cv,By,pk,Cb,Zx,ZO,AS,AL,A4,AZ,AA,AV]⟩
 have y:ZS 1 [0,1] [.val (LD a),.val (.lst (c.map AQ))]=[.no,.val (LD a),.val (.lst (c.map AQ))]:=rfl
 have ln:=oN a
 have r1:=GW a.length (by omega)
 have q1:Zn (some ((Ba a.length).map λ(k:Nat)=>D.int (k:Int)))=some ((Ba a.length).map λ(k:Nat)=>D.int (k:Int)):=Zv _ (by simp;omega)
 have g:Mr [.val (LD a),.val (.lst (c.map AQ))]=some (.own ((Ba a.length).map λx=>D.lst ((Z3 BQ ((((a.getD x (0,[])).2).filter (ZP c x)).map As)).map aD))):=by
  refine Z9 rfl ?_
  show Ky [.val (LD a),.val (.lst (c.map AQ))]=_
  generalize c.map AQ=Q,LD a=L,(a.length:Int)=N,((Ba a.length).map λ(k:Nat)=>D.int (k:Int))=R,((Ba a.length).map λx=>D.lst ((Z3 BQ ((((a.getD x (0,[])).2).filter (ZP c x)).map As)).map aD))=SM at *
  simp only[Ky,ln,r1,ZL,q1,y,O,B3,Zf,ZM,AO,Ze,Ch,Ah,Bb,An,Zq,Zb,Zi,Zt,ZA,ZD,Cv,By,pk,Cb,Zx,ZO,AS,AL,A4,AZ,AA,AV]
 have i:=oP ((Ba a.length).map λx=>Z3 BQ ((((a.getD x (0,[])).2).filter (ZP c x)).map As))
 rw[Db]at i
 have n:(((Ba a.length).map λx=>Z3 BQ ((((a.getD x (0,[])).2).filter (ZP c x)).map As)).any λm=>m.isEmpty)=F3 a c:=by
  rw[List.any_map]
  unfold F3
  congr 1
  funext x
  show(Z3 BQ ((((a.getD x (0,[])).2).filter (ZP c x)).map As)).isEmpty=_
  have E:=(Fg BQ ((((a.getD x (0,[])).2).filter (ZP c x)).map As)).length_eq
  rw[B1]at E
  rw[Io,List.isEmpty_iff_length_eq_zero,List.isEmpty_iff_length_eq_zero,E]
 rw[n]at i
 have d:Dj false (.lst []) (.lst ((Ba a.length).map λx=>D.lst ((Z3 BQ ((((a.getD x (0,[])).2).filter (ZP c x)).map As)).map aD)))=some (.bl (F3 a c)):=i
 have z:∀(x w:Nat) (la:L1),a[x]?=some (w,la)->Aw (.lst ((Ba a.length).map λx=>D.lst ((Z3 BQ ((((a.getD x (0,[])).2).filter (ZP c x)).map As)).map aD))) (.int (x:Int))=some (.lst ((Z3 BQ ((la.filter (ZP c x)).map As)).map aD)):=λx w la u=>DV (by
  have A:x<a.length:=(List.getElem?_eq_some_iff.mp u).1
  rw[C1,Ng A]
  simp[CL,u])
 have B:Gu [.val (LD a),.val (GD f),.val (GD gs),.val (.lst (c.map AQ))]=match Ms [.val (LD a),.val (GD f),.val (GD gs),.val (.lst (c.map AQ)),.no,.no,.no,.no]with
  |.ret r=>some r
  |.next _=>some (.val .non)
  |_=>none:=rfl
 rw[B]
 have j:Zn (some ([]:List D))=some []:=rfl
 have o:DK (LD a)=some (a.map λp=>D.lst (p.2.map Al)):=rfl
 have s:=bB (.val (LD a)) (.val (GD f)) (.val (GD gs)) (.val (.lst (c.map AQ))) a h f gs I J rfl rfl c _ z a 0 .no .no .no rfl (by omega)
 generalize ((Ba a.length).map λx=>D.lst ((Z3 BQ ((((a.getD x (0,[])).2).filter (ZP c x)).map As)).map aD))=SM at *
 cases G:F3 a c with
 |true=>
  rw[G]at d
  refine .inr ⟨.inl rfl,?_⟩
  generalize c.map AQ=Q,GD gs=H,GD f=KK,LD a=L at *
  simp only[Ms,OY,O0,OZ,g,Dd,j,d,Zf,ZM,AO,Ze,Ch,Ah,Bb,An,Zq,Zb,Zi,Zt,ZA,ZD,Cv,By,pk,Cb,Zx,ZO,AS,AL,A4,AZ,AA,AV]
 |false=>
  rw[G]at d
  rcases s with⟨t,hb,e⟩|⟨C,T,e⟩
  ·refine .inl ⟨t,rfl,hb,?_⟩
   generalize c.map AQ=Q,GD gs=H,GD f=KK,LD a=L,EJ t=TT,(a.map λp=>D.lst (p.2.map Al))=EN at *
   simp only[Ms,OY,O0,OZ,Tu,Tt,g,Dd,j,d,BS,DM,Be,o,e,Zf,ZM,AO,Ze,Ch,Ah,Bb,An,Zq,Zb,Zi,Zt,ZA,ZD,Cv,By,pk,Cb,Zx,ZO,AS,AL,A4,AZ,AA,AV]
  ·refine .inr ⟨.inr λt=>C t (Gj _),?_⟩
   generalize c.map AQ=Q,GD gs=H,GD f=KK,LD a=L,(a.map λp=>D.lst (p.2.map Al))=EN at *
   simp only[Ms,OY,O0,OZ,Tu,Tt,Y8,Y7,g,Dd,j,d,BS,DM,Be,o,e,Zf,ZM,AO,Ze,Ch,Ah,Bb,An,Zq,Zb,Zi,Zt,ZA,ZD,Cv,By,pk,Cb,Zx,ZO,AS,AL,A4,AZ,AA,AV]
def FG:L1->At->Nat->At
 |[],_,_=>.non
 |l::b,a,j=>if As l=a then l.getD j .non else FG b a j
theorem Iq:∀{b:L1}{l:List At},(b.map As).Nodup->l∈b->∀j,FG b (As l) j=l.getD j .non
 |m::b,l,a,c,j=>by
  unfold FG
  rcases Br.mp c with rfl|c
  ·rw[if_pos rfl]
  ·rw[AW,EQ]at a
   rw[if_neg (show ¬ As m=As l from λe=>a.1 (by rw[e];exact KJ c))]
   exact Iq a.2 c j
theorem bC{a:At}{v:D}:∀(ps:List (At×D))(acc:Bx),(∀p∈ps,p.1=a->p.2=v)->(ZT acc (.at a)=some v\/∃p∈ps,p.1=a)->ZT (De acc ps) (.at a)=some v
 |[],acc,_,h=>by
  rcases h with h|⟨p,g,_⟩
  ·exact h
  ·exact nomatch g
 |p::ps,acc,f,d=>by
  refine bC ps (Ce acc (.at p.1) p.2) (λq b=>f q (Bv _ b)) ?_
  rw[Ko]
  by_cases c:p.1=a
  ·rw[if_pos (by rw[c]),f p BC c];exact .inl rfl
  ·rw[if_neg (λz=>c (KT.at.inj z))]
   rcases d with d|⟨q,b,e⟩
   ·exact .inl d
   ·rcases Br.mp b with rfl|b
    ·exact absurd e c
    ·exact .inr ⟨q,b,e⟩
theorem bD(s0:Sl)(a:At)(j:Nat):∀(b:L1)(k:Sl),a∈b.map As->(∀l∈b,l≠[]/\l.length<=4/\j<=l.length)->Z0 (Zl 3) Kt (b.map Al) [s0,.val (aD a),.val (.int (j:Int)),k]=.ret (.val (aD (FG b a j)))
 |[],_,h,_=>nomatch h
 |l::b,k,h,n=>by
  obtain⟨p,t,u⟩:=n l BC
  have o:=Hv l p
  have d:=ov (As l) a
  have f:Zn (some [D.non])=some [D.non]:=Zv _ (by simp)
  simp only[AW,Z0,Zl,A4,AZ]
  by_cases c:As l=a
  ·have q:ZJ (Al l) (.tup [.non])=some (Al (l++[.non])):=by
    unfold Al
    rw[Yg _ _ (by simp;omega)]
    simp[aD]
   have r:Aw (Al (l++[.non])) (.int (j:Int))=some (aD (l.getD j .non)):=by
    show atI ((l++[At.non]).map aD) (j:Int)=_
    refine DV ?_
    rw[C1]
    by_cases g:j<l.length
    ·rw[Lc g,Cu g]
     simp[CL,g]
    ·have:j=l.length:=by omega
     subst this
     simp[CL]
   have i:Kt [s0,.val (aD a),.val (.int (j:Int)),.val (Al l)]=.ret (.val (aD (l.getD j .non))):=by
    rw[c,decide_eq_true rfl]at d
    simp only[Kt,Zf,ZM,AO,Ze,Ah,ZO,Zb,Zi,Zt,AS,AL,AA,AV,o,c,d,f,q,r]
   rw[i]
   unfold FG
   rw[if_pos c]
  ·have i:Kt [s0,.val (aD a),.val (.int (j:Int)),.val (Al l)]=.next [s0,.val (aD a),.val (.int (j:Int)),.val (Al l)]:=by
    rw[decide_eq_false c]at d
    simp only[Kt,Zf,ZM,AO,Ze,Ah,AS,AL,AA,AV,o,d]
   rw[i]
   unfold FG
   rw[if_neg c]
   refine bD s0 a j b _ ?_ λm s=>n m (Bv _ s)
   rcases Br.mp h with e|e
   ·exact absurd e.symm c
   ·exact e
theorem oW{b:L1}(d:BZ b){a:At}(e:a∈b.map As)(j:Nat)(f:∀l∈b,j<=l.length):Sd [.val (AC b),.val (aD a),.val (.int (j:Int))]=some (.val (aD (FG b a j))):=by
 have g:=bD (.val (AC b)) a j b .no e λl c=>⟨d.some l c,d.four l c,f l c⟩
 refine Z9 rfl ?_
 show Of [.val (AC b),.val (aD a),.val (.int (j:Int)),.no]=_
 unfold AC at *
 generalize b.map Al=L at *
 simp only[Of,Zf,BS,Be,Zz,AL,AA,g]
theorem MC{c:Type}{e:VE->Option D}(r:VE)(G:c->D):∀(xs:List c)(k:Nat)(ys:List D),xs.length=ys.length->(∀(i:Nat)(x:c)(y:D),xs[i]?=some x->ys[i]?=some y->e (.val (.int ((k+i:Nat):Int))::.val (G x)::r)=some y)->CV (BU 2 (ZC (Zl 0) (ZC (Zl 1) BX))) (λ_=>some true) e (.no::.no::r) (CK k (xs.map G))=some ys
 |[],_,[],_,_=>rfl
 |[],_,_::_,h,_=>by simp at h
 |_::_,_,[],h,_=>by simp at h
 |x::xs,k,y::ys,f,h=>by
  have g:=MC (e:=e) r G xs (k+1) ys (by simpa using f) λi a b j l=>by
   have:=h (i+1) a b (by simpa using j) (by simpa using l)
   rw[show k+(i+1)=k+1+i by omega]at this
   exact this
  have d:=h 0 x y rfl rfl
  rw[Nat.add_zero]at d
  simp only[AW,CK,CV,BU,ZC,Zl,BX,Cq,E9,if_true,A4,AZ,AA,g,d,Zb]
inductive Bq:LL->List Nat->Prop where
 |nil:Bq [] []
 |cons {ls Ls j g}:BZ ls->(∀l∈ls,j<=l.length)->Bq Ls g->Bq (ls::Ls) (j::g)
inductive A6:LL->List At->Prop where
 |nil:A6 [] []
 |cons {ls Ls a as}:a∈ls.map As->A6 Ls as->A6 (ls::Ls) (a::as)
def ZU:LL->List At->List Nat->List At
 |b::c,a::d,j::g=>FG b a j::ZU c d g
 |_,_,_=>[]
def A7(g:List Nat):D:=.tup (g.map λ(j:Nat)=>D.int (j:Int))
theorem Bq.len{a:LL}{g:List Nat}(h:Bq a g):g.length=a.length:=by
 induction h with
 |nil=>rfl
 |cons _ _ _ b=>simp[b]
theorem A6.len{a:LL}{s:List At}(h:A6 a s):s.length=a.length:=by
 induction h with
 |nil=>rfl
 |cons _ _ b=>simp[b]
theorem KN{a:LL}{g:List Nat}{s:List At}(h:Bq a g)(b:A6 a s):(ZU a s g).length=a.length:=by
 induction h generalizing s with
 |nil=>cases b;rfl
 |cons _ _ _ c=>
  cases b with
  |cons _ t=>simp[ZU,c t]
theorem Ub{c:LL}{g:List Nat}{s:List At}(h:Bq c g)(f:A6 c s):∀(i:Nat)(b:L1),c[i]?=some b->∃(a:At)(j:Nat),s[i]?=some a/\g[i]?=some j/\BZ b/\a∈b.map As/\(∀l∈b,j<=l.length)/\(ZU c s g)[i]?=some (FG b a j):=by
 induction h generalizing s with
 |nil=>intro i b e;simp at e
 |@cons b c j g k m q n=>
  cases f with
  |@cons _ _ a r o p=>
  intro i d e
  cases i with
  |zero=>
   simp at e;subst e
   exact⟨a,j,rfl,rfl,k,o,m,rfl⟩
  |succ i=>exact n p i d (by simpa using e)
theorem Pq{g:List Nat}{i j:Nat}(h:g[i]?=some j):Aw (A7 g) (.int (i:Int))=some (.int (j:Int)):=by
 show atI (g.map λ(j:Nat)=>D.int (j:Int)) (i:Int)=_
 exact DV (by simp[h])
theorem oX{b:LL}{g:List Nat}{s:List At}(h:Bq b g)(d:A6 b s):CV (BU 3 (ZC (Zl 0) (ZC (Zl 1) (ZC (Zl 2) BX)))) (λ_=>some true) Ox [.no,.no,.no] (Fy (λx y=>D.tup [x,y.1,y.2]) (b.map AC) ((s.map aD).zip (g.map λ(j:Nat)=>D.int (j:Int))))=some ((ZU b s g).map aD):=by
 induction h generalizing s with
 |nil=>cases d;rfl
 |@cons e b j g f i n c=>
  cases d with
  |@cons _ _ a o k l=>
  have m:Ox [.val (AC e),.val (aD a),.val (.int (j:Int))]=some (aD (FG e a j)):=by
   have:=oW f k j i
   simp only[Ox,Zq,Zb,An,AS,AL,AA,AV,this,CZ]
  have c:=c l
  simp only[AW,Lh,Uc,CV,BU,ZC,Zl,BX,Cq,E9,if_true,A4,AZ,AA,m,c,ZU,Zb]
theorem oY{a:LL}{g:List Nat}{s:List At}(h:Bq a g)(c:A6 a s)(hz:a.length<=4):SK [.val (.lst (a.map AC)),.val (Al s),.val (A7 g)]=some (.val (Al (ZU a s g))):=by
 have d:=oX h c
 have q1:=Zv (Fy (λx y=>D.tup [x,y.1,y.2]) (a.map AC) ((s.map aD).zip (g.map λ(j:Nat)=>D.int (j:Int)))) (by simp;omega)
 refine Z9 rfl ?_
 unfold A7 Al
 generalize s.map aD=S,(g.map λ(j:Nat)=>D.int (j:Int))=G,a.map AC=L at *
 show Oy [.val (.lst L),.val (.tup S),.val (.tup G)]=_
 have b:ZS 3 [] [.val (.lst L),.val (.tup S),.val (.tup G)]=[.no,.no,.no]:=rfl
 simp only[Oy,Zf,ZO,ZD,Dk,By,pk,Zb,Zi,ZA,ZL,NR,DK,b,Be,AS,AL,AA,AV,q1,d]
structure Ends(as:List Int)(m M:Int):Prop where
 m1:m∈as
 m2:∀a∈as,m<=a
 M1:M∈as
 M2:∀a∈as,a<=M
theorem Ends.uniq{a:List Int}{m M b c:Int}(h:Ends a m M)(h':Ends a b c):m=b/\M=c:=by
 have a1:=h.m2 _ h'.m1
 have a2:=h'.m2 _ h.m1
 have a3:=h.M2 _ h'.M1
 have a4:=h'.M2 _ h.M1
 omega
theorem Ends.ex(b:List Int)(h:b≠[]):∃m M,(Fd b)[0]?=some m/\(Fd b)[b.length-1]?=some M/\Ends b m M:=by
 have j:=Q8 b
 have c:=Nq b
 have g:=W0 b
 have k:0<b.length:=List.length_pos_iff.mpr h
 refine⟨(Fd b)[0]'(by omega),(Fd b)[b.length-1]'(by omega),by rw[Cu],by rw[Cu],?_,?_,?_,?_⟩
 ·exact c.mem_iff.mp (Fc _)
 ·intro a d
  obtain⟨i,f,e⟩:=List.getElem_of_mem (c.mem_iff.mpr d)
  subst e
  rcases Nat.eq_zero_or_pos i with h|h
  ·subst h;omega
  ·exact List.pairwise_iff_getElem.mp g 0 i (by omega) f h
 ·exact c.mem_iff.mp (Fc _)
 ·intro a d
  obtain⟨i,f,e⟩:=List.getElem_of_mem (c.mem_iff.mpr d)
  subst e
  by_cases h:i=b.length-1
  ·subst h;omega
  ·exact List.pairwise_iff_getElem.mp g i (b.length-1) f (by omega) (by omega)
abbrev Bg:=List At×Int×List Int
def Zy(acc:List Bg):L1:=acc.map (·.1)
def Z4:List Bg->List At->Option (Int×List Int)
 |[],_=>none
 |e::r,k=>if e.1=k then some e.2 else Z4 r k
def CD:List Bg->List At->Int->List Bg
 |[],k,x=>[(k,x,[])]
 |e::r,k,x=>if e.1=k then(e.1,e.2.1,e.2.2++[x])::r else e::CD r k x
def Z5(v:Int×List Int->D)(e:Bg):KT×D:=(.tup e.1,v e.2)
theorem B9{k:List At}:∀{acc:List Bg},Z4 acc k=none↔k∉Zy acc
 |[]=>by simp[Z4,Zy]
 |e::r=>by
  have a:=B9 (k:=k) (acc:=r)
  unfold Z4
  by_cases h:e.1=k
  ·rw[if_pos h];simp[Zy,h]
  ·rw[if_neg h,a];simp[Zy,Bp h]
theorem GX(v:Int×List Int->D)(k:List At):∀acc:List Bg,ZT (acc.map (Z5 v)) (.tup k)=(Z4 acc k).map v
 |[]=>rfl
 |e::r=>by
  have a:=GX v k r
  simp only[AW,ZT,Z4,Z5,KT.tup.injEq]
  by_cases h:e.1=k
  ·rw[if_pos h,if_pos h];rfl
  ·rw[if_neg h,if_neg h];exact a
theorem Ud{k:KT}{w:D}:∀{kvs:Bx},ZT kvs k=none->D3 kvs k w=kvs
 |[],_=>rfl
 |p::r,h=>by
  unfold ZT at h
  by_cases e:p.1=k
  ·rw[if_pos e]at h;cases h
  ·rw[if_neg e]at h
   unfold D3
   rw[if_neg e,Ud h]
theorem bE(v:Int×List Int->D){k:List At}{x:Int}{p:Int×List Int}:∀{acc:List Bg},(Zy acc).Nodup->Z4 acc k=some p->D3 (acc.map (Z5 v)) (.tup k) (v (p.1,p.2++[x]))=(CD acc k x).map (Z5 v)
 |e::r,a,h=>by
  simp only[Zy,AW,EQ]at a
  unfold Z4 at h
  by_cases c:e.1=k
  ·rw[if_pos c]at h;cases h
   have b:ZT (r.map (Z5 v)) (.tup k)=none:=by
    rw[GX,B9.mpr (c ▸ a.1)];rfl
   simp only[AW,D3,CD,Z5,c,if_true,Ud b,KT.tup.injEq]
  ·rw[if_neg c]at h
   have d:=bE v (x:=x) a.2 h
   simp only[AW,D3,CD,Z5,c,if_false,KT.tup.injEq]
   rw[d]
theorem bF{k:List At}{x:Int}:∀{acc:List Bg},Z4 acc k=none->CD acc k x=acc++[(k,x,[])]
 |[],_=>rfl
 |e::r,h=>by
  unfold Z4 at h
  by_cases c:e.1=k
  ·rw[if_pos c]at h;cases h
  ·rw[if_neg c]at h
   unfold CD
   rw[if_neg c,bF h];rfl
theorem oZ(v:Int×List Int->D){k:List At}{x:Int}{p:Int×List Int}{acc:List Bg}(a:(Zy acc).Nodup)(h:Z4 acc k=some p):Ce (acc.map (Z5 v)) (.tup k) (v (p.1,p.2++[x]))=(CD acc k x).map (Z5 v):=by
 unfold Ce
 rw[GX,h]
 exact bE v a h
theorem o0(v:Int×List Int->D){k:List At}{x:Int}{acc:List Bg}(h:Z4 acc k=none):Ce (acc.map (Z5 v)) (.tup k) (v (x,[]))=(CD acc k x).map (Z5 v):=by
 unfold Ce
 rw[GX,h,bF h]
 simp[Z5]
theorem Ue(k:List At)(x:Int):∀acc:List Bg,Zy (CD acc k x)=if k∈Zy acc then Zy acc else Zy acc++[k]
 |[]=>rfl
 |e::r=>by
  have b:=Ue k x r
  unfold CD
  by_cases c:e.1=k
  ·rw[if_pos c];simp[Zy,c]
  ·rw[if_neg c]
   have:Zy (e::CD r k x)=e.1::Zy (CD r k x):=rfl
   have a:Zy (e::r)=e.1::Zy r:=rfl
   rw[this,b,a]
   by_cases m:k∈Zy r
   ·rw[if_pos m,if_pos (Bv _ m)]
   ·rw[if_neg m,if_neg (by simp[Zy,Bp c]at m ⊢;exact m)];rfl
theorem o7{k:List At}{x:Int}{acc:List Bg}(h:(Zy acc).Nodup):(Zy (CD acc k x)).Nodup:=by
 rw[Ue]
 split
 ·exact h
 ·next m=>exact List.nodup_append.mpr ⟨h,by simp,λa d b c=>by simp at c;subst c;exact λe=>m (e ▸ d)⟩
theorem bG(k:List At)(x:Int):∀acc:List Bg,(CD acc k x).length<=acc.length+1
 |[]=>by simp[CD]
 |e::r=>by
  have:=bG k x r
  unfold CD
  split<;>simp<;>omega
theorem o8{k a:List At}{x:Int}{acc:List Bg}(h:a∈Zy (CD acc k x)):a=k\/a∈Zy acc:=by
 rw[Ue]at h
 split at h
 ·exact .inr h
 ·rcases List.mem_append.mp h with h|h
  ·exact .inr h
  ·simp at h;exact .inl h
def Ir:List Bg->Nat
 |[]=>0
 |e::r=>e.2.2.length+1+Ir r
theorem bH(k:List At)(x:Int):∀acc:List Bg,Ir (CD acc k x)=Ir acc+1
 |[]=>rfl
 |e::r=>by
  have:=bH k x r
  unfold CD
  split<;>simp[Ir]<;>omega
theorem Uf{k:List At}{p:Int×List Int}:∀{acc:List Bg},Z4 acc k=some p->p.2.length+1<=Ir acc
 |e::r,h=>by
  unfold Z4 at h
  simp only[Ir]
  split at h
  ·cases h;omega
  ·have:=Uf h;omega
theorem Ug(v:Int×List Int->D)(k:List At)(acc:List Bg):DA (.tup k) (acc.map (Z5 v))=true:=kA k λp a=>by
 obtain⟨e,_,rfl⟩:=List.mem_map.mp a
 rfl
theorem Uh(l:List At):Dl (Al l)=some (.tup l):=Rl (.tup l)
abbrev vL(p:Int×List Int):D:=.lst ((p.1::p.2).map D.int)
abbrev vC(p:Int×List Int):D:=B8 p.1 p.2
abbrev DD(v:Int×List Int->D)(acc:List Bg):Sl:=.own (Zw (acc.map (Z5 v))) true
def BL(r:List At×Int):D:=.tup [Al r.1,.int r.2]
def CT(b:LL)(g:List Nat)(a:List (List At×Int))(acc:List Bg):List Bg:=a.foldl (λacc r=>CD acc (ZU b r.1 g) r.2) acc
structure Dp(acc:List Bg)(n m:Nat):Prop where
 nd:(Zy acc).Nodup
 len:acc.length<=m
 sz:Ir acc<=m
 kl:∀k∈Zy acc,k.length=n
theorem Dp.add{acc:List Bg}{n m:Nat}(h:Dp acc n m){k:List At}(b:k.length=n)(x:Int):Dp (CD acc k x) n (m+1):=
 ⟨o7 h.nd,by have:=bG k x acc;have:=h.len;omega,by rw[bH];have:=h.sz;omega,λd a=>by
  rcases o8 a with rfl|c
  ·exact b
  ·exact h.kl _ c⟩
theorem o9{a:LL}{g:List Nat}{s:List At}(h:Bq a g)(u:A6 a s)(hz:a.length<=4)(j t:Sl)(x:Int){acc:List Bg}{n m:Nat}(l:Dp acc n m)(v:m<1000):
  Mm [.val (.lst (a.map AC)),j,.val (A7 g),DD vL acc,.val (Al s),.val (.int x),t]=.next [.val (.lst (a.map AC)),j,.val (A7 g),DD vL (CD acc (ZU a s g) x),.val (Al s),.val (.int x),.val (Al (ZU a s g))]:=by
 have w:=oY h u hz
 generalize ZU a s g=k at *
 have hok:=Uh k
 have o:=Ug vL k acc
 have b:=GX vL k acc
 have c:(acc.map (Z5 vL)).length<AG:=by rw[B1];exact QB l.len (Cg v (by decide))
 have q:=Kk (acc.map (Z5 vL))
 have r:Zn (some [D.int x])=some [D.int x]:=Zv _ (by simp)
 have e:Zn (some ([]:List D))=some []:=rfl
 have f:∀d,ZJ ((ZT (acc.map (Z5 vL)) (.tup k)).getD (.lst [])) (.lst [.int x])=some d->Ce (acc.map (Z5 vL)) (.tup k) d=(CD acc k x).map (Z5 vL)->Mm [.val (.lst (a.map AC)),j,.val (A7 g),DD vL acc,.val (Al s),.val (.int x),t]=.next [.val (.lst (a.map AC)),j,.val (A7 g),DD vL (CD acc k x),.val (Al s),.val (.int x),.val (Al k)]:=by
  intro d y z
  unfold DD
  generalize acc.map (Z5 vL)=KV at *
  generalize (CD acc k x).map (Z5 vL)=A at *
  simp only[Mm,Zf,Zx,Zq,Zb,Zi,ZA,Zt,An,Ah,Bb,EX,Ze,NO,Ia,AS,AL,AA,AV,A4,AZ,w,CZ,q,hok,o,r,e,if_true,y,z,Mz,decide_eq_true c]
 cases i:Z4 acc k with
 |none=>
  refine f (vL (x,[])) ?_ (o0 vL i)
  rw[b,i]
  rfl
 |some p=>
  refine f (vL (p.1,p.2++[x])) ?_ (oZ vL l.nd i)
  rw[b,i]
  have:=Uf i
  have:=l.sz
  show ZJ (.lst ((p.1::p.2).map D.int)) (.lst [.int x])=_
  rw[Yf _ _ (by simp;omega)]
  simp
theorem bI{e:LL}{g:List Nat}(h:Bq e g)(hz:e.length<=4)(i:Sl):∀(d:List (List At×Int))(acc:List Bg)(m:Nat)(j k f:Sl),(∀r∈d,A6 e r.1)->Dp acc e.length m->m+d.length<1000 ->
  Dp (CT e g d acc) e.length (m+d.length)/\∃n o p,Z0 (BU 2 (ZC (Zl 4) (ZC (Zl 5) BX))) Mm (d.map BL) [.val (.lst (e.map AC)),i,.val (A7 g),DD vL acc,j,k,f]=.next [.val (.lst (e.map AC)),i,.val (A7 g),DD vL (CT e g d acc),n,o,p]
 |[],acc,m,j,k,f,_,l,_=>⟨l,j,k,f,rfl⟩
 |r::d,acc,m,j,k,f,s,l,u=>by
  simp only[Cq]at u
  have t:=s r BC
  have v:=o9 h t hz i f r.2 l (by omega)
  obtain⟨ok,a,b,c,w⟩:=bI h hz i d (CD acc (ZU e r.1 g) r.2) (m+1) (.val (Al r.1)) (.val (.int r.2)) (.val (Al (ZU e r.1 g))) (λq x=>s q (Bv _ x)) (l.add (KN h t) r.2) (by omega)
  refine⟨by rw[Cq,show m+(d.length+1)=m+1+d.length by omega];exact ok,a,b,c,?_⟩
  simp only[AW,BL,Z0,BU,ZC,Zl,BX,Cq,E9,if_true,A4,AZ,AA]
  rw[v]
  exact w
theorem Ui(x:Int):∀xs:List Int,Ends (x::xs) (xs.foldl mn x) (xs.foldl mx x):=by
 intro xs
 induction xs generalizing x with
 |nil=>exact⟨by simp,by simp,by simp,by simp⟩
 |cons y i d=>
  have a:=d (mn x y)
  have b:=d (mx x y)
  have f:=aR x y
  have g:=aS x y
  simp only[IV]
  refine⟨?_,λz c=>?_,?_,λz c=>?_⟩
  ·rcases Br.mp a.m1 with e|e
   ·rw[e,f]
    rcases Int.le_total x y with z|z
    ·rw[show min x y=x by omega];simp
    ·rw[show min x y=y by omega];simp
   ·exact Bv _ (Bv _ e)
  ·have h:=a.m2 (mn x y) BC
   rcases Br.mp c with rfl|c
   ·omega
   ·rcases Br.mp c with rfl|c
    ·omega
    ·exact a.m2 z (Bv _ c)
  ·rcases Br.mp b.M1 with e|e
   ·rw[e,g]
    rcases Int.le_total x y with z|z
    ·rw[show max x y=y by omega];simp
    ·rw[show max x y=x by omega];simp
   ·exact Bv _ (Bv _ e)
  ·have h:=b.M2 (mx x y) BC
   rcases Br.mp c with rfl|c
   ·omega
   ·rcases Br.mp c with rfl|c
    ·omega
    ·exact b.M2 z (Bv _ c)
theorem pa(x:Int)(xs:List Int)(b:xs.length+1<64):Og [.val (vL (x,xs))]=some (.val (B8 x xs)):=by
 obtain⟨d,g,h,i,c⟩:=Ends.ex (x::xs) (by simp)
 obtain⟨j,k⟩:=(Ui x xs).uniq c
 have f:=Q8 (x::xs)
 have l:=Yd (Nq (x::xs))
 have a:=ng (x::xs)
 rw[if_pos (by simpa using b)]at a
 unfold vL B8
 rw[j,k]
 simp only[Cq]at *
 generalize (x::xs).map D.int=V,(x::xs).sum=S,Fd (x::xs)=W at *
 have m:atI (W.map D.int) 0=some (.int d):=by
  have:(W.map D.int)[0]?=some (D.int d):=by rw[C1,h];rfl
  exact DV this
 have n:atI (W.map D.int) (-1)=some (.int g):=by
  have e:DU (W.map D.int).length (-1)=some xs.length:=by
   unfold DU
   rw[B1,f,if_neg (by decide),if_pos (by omega)]
   congr 1;omega
  unfold atI
  rw[e]
  simpa using i
 simp[Og,Bn,Se,a,f,m,n,Jr,l]
theorem pb{l:Type}{F:List Sl->Option Rv}(f:l->D){lt:l->l->Bool}(T:TO lt)(b:Option Bool)(xs:List l)(few:xs.length<64)(m:l->D)(tells:∀a∈xs,∃r,F [.val (f a)]=some r/\FV r=m a)(mode:∀a∈xs,Cf b (m a))(cmp:∀a∈xs,∀c∈xs,ltN 6 (m a) (m c)=some (lt a c)):Ie F (xs.map f)=some ((Z3 lt xs).map f):=by
 have n:∀a∈xs,Dm F (f a)=m a:=λa d=>by
  obtain⟨r,o,t⟩:=tells a d
  unfold Dm;rw[o];exact t
 have j:∀a∈xs,∀c∈xs,CC F (f a) (f c)=lt a c:=λa d c g=>Rs (by rw[n a d,n c g];exact cmp a d c g)
 have ok:Bz F (xs.map f):={
  few:=by simpa using few
  tells:=λx i=>by obtain⟨a,d,rfl⟩:=List.mem_map.mp i;obtain⟨r,o,_⟩:=tells a d;exact⟨_,o⟩
  mode:=⟨b,λx i=>by obtain⟨a,d,rfl⟩:=List.mem_map.mp i;rw[n a d];exact mode a d⟩
  cmp:=λx i y k=>by
   obtain⟨a,d,rfl⟩:=List.mem_map.mp i
   obtain⟨c,g,rfl⟩:=List.mem_map.mp k
   rw[n a d,n c g];exact⟨_,cmp a d c g⟩
  asym:=λx i y k h=>by
   obtain⟨a,d,rfl⟩:=List.mem_map.mp i
   obtain⟨c,g,rfl⟩:=List.mem_map.mp k
   rw[j a d c g]at h;rw[j c g a d];exact T.asym a c h
  neg:=λx i y k z u h=>by
   obtain⟨a,d,rfl⟩:=List.mem_map.mp i
   obtain⟨c,g,rfl⟩:=List.mem_map.mp k
   obtain⟨e,p,rfl⟩:=List.mem_map.mp u
   rw[j a d e p]at h;rw[j a d c g,j c g e p];exact T.neg a c e h
  anti:=λx i y k q s=>by
   obtain⟨a,d,rfl⟩:=List.mem_map.mp i
   obtain⟨c,g,rfl⟩:=List.mem_map.mp k
   rw[j a d c g]at q;rw[j c g a d]at s;rw[T.anti a c q s]}
 rw[XH ok,TV f lt _ xs j]
theorem pc(a b:At):AB (Fi a) (Fi b)=decide (a=b):=by
 cases a<;>cases b<;>simp[Fi]
theorem bJ(n:Nat)(a:At):A3 (n+1) (Fi a)=true:=by cases a<;>cases n<;>rfl
theorem bK(n:Nat):∀l m:List At,EC (ltN (n+2)) (l.map Fi) (m.map Fi)=some (BP l m)
 |[],[]=>rfl
 |[],_::_=>rfl
 |_::_,[]=>rfl
 |a::r,b::s=>by
  have c:=bK n r s
  have d:=bJ 11 a
  have e:=bJ 11 b
  have f:=pc a b
  have g:=om n a b
  simp only[AW,EC,Ik,d,e,f,g,c,BP,EI,if_true,decide_eq_true_eq]
  split<;>rfl
theorem pe(l:List At)(h:l.length<=1000):OA [.val (Al l)]=some (.own (l.map Fi)):=by
 have d:=D6 (b:=Zl 0) (e:=SN) (ρ:=[.no]) aD Fi l λa _=>⟨[.val (aD a)],rfl,by
  have:=oJ a
  simp only[SN,Zq,Zb,An,AL,AA,this,AV,FV]⟩
 have q1:=Zv (l.map aD) (by simp;omega)
 refine Z9 rfl ?_
 unfold Al
 generalize l.map aD=L at *
 show Oz [.val (.tup L)]=_
 have c:ZS 1 [] [.val (.tup L)]=[.no]:=rfl
 simp only[Oz,Zf,B3,ZL,c,Be,Zz,AL,AA,AV,q1,d]
theorem pf(a:L1)(b:a.length<64)(c:∀l∈a,l.length<=1000):Ie OA (a.map Al)=some ((Z3 BP a).map Al):=
 pb Al Pe none a b (λl=>.lst (l.map Fi)) (λl h=>⟨_,pe l (c l h),rfl⟩) (λl _=>⟨_,rfl⟩) (λl _ m _=>bK 3 l m)
def C0(acc:List Bg):List D:=(Z3 BP (Zy acc)).map λk=>.tup [Al k,vC ((Z4 acc k).getD (0,[]))]
theorem Pr{acc:List Bg}{k:List At}(h:k∈Z3 BP (Zy acc)):∃p,Z4 acc k=some p:=by
 have a:=(Fg BP (Zy acc)).mem_iff.mp h
 cases b:Z4 acc k with
 |some p=>exact⟨p,rfl⟩
 |none=>exact absurd a (B9.mp b)
theorem bL(v:Int×List Int->D)(acc:List Bg):((acc.map (Z5 v)).map λp=>kD p.1)=(Zy acc).map Al:=by
 unfold Zy
 rw[Db,Db];rfl
theorem Uj(v:Int×List Int->D){acc:List Bg}{k:List At}{p:Int×List Int}(h:Z4 acc k=some p):D4 (.lst (Zw (acc.map (Z5 v))) true) (Al k)=some (v p):=by
 rw[LV,Uh]
 show(if DA (.tup k) (acc.map (Z5 v))=true then _ else _)=_
 rw[if_pos (Ug v k acc),GX,h];rfl
theorem MD{i:LL}{g:List Nat}(h:Bq i g)(hz:i.length<=4)(d:List (List At×Int))(v:∀r∈d,A6 i r.1)(t:d.length<64):Mn [.val (.lst (i.map AC)),.val (.lst (d.map BL)),.val (A7 g)]=some (.own (C0 (CT i g d [])))/\Dp (CT i g d []) i.length d.length:=by
 obtain⟨ok,a,b,c,e⟩:=bI h hz (.val (.lst (d.map BL))) d [] 0 .no .no .no v ⟨by simp[Zy],by simp,by simp[Ir],λk j=>nomatch j⟩ (by omega)
 rw[GY]at ok
 refine⟨?_,ok⟩
 generalize CT i g d []=f at *
 have m:(Zy f).length<64:=by unfold Zy;rw[B1];have:=ok.len;omega
 have u:=pf (Zy f) m λl t=>by rw[ok.kl l t];omega
 rw[<- bL vL]at u
 have w:=D6 (b:=Zl 0) (e:=Te) (ρ:=[.no,.lent (Zw (f.map (Z5 vL))) true]) Al (λk=>.tup [Al k,vC ((Z4 f k).getD (0,[]))]) (Z3 BP (Zy f)) λk j=>⟨[.val (Al k),.lent (Zw (f.map (Z5 vL))) true],rfl,by
  obtain⟨p,n⟩:=Pr j
  have A:=Uj vL n
  have B:=pa p.1 p.2 (by have:=Uf n;have:=ok.sz;omega)
  have q:Zn (some [Al k,vC p])=some [Al k,vC p]:=Zv _ (by simp)
  rw[n]
  simp only[Te,Zq,Zb,Zi,Zt,Ze,Ah,Bb,AS,AL,AA,AV,A,B,CZ,q,Option.getD]⟩
 have q1:=Zv ((Z3 BP (Zy f)).map Al) (by rw[B1,(Fg _ _).length_eq];omega)
 have o:=Kk (f.map (Z5 vL))
 have C:DD vL []=.own [] true:=rfl
 rw[C]at e
 unfold DD at e
 unfold C0
 refine Z9 rfl ?_
 generalize i.map AC=L,d.map BL=R,f.map (Z5 vL)=KV,(Z3 BP (Zy f)).map Al=W,(Z3 BP (Zy f)).map (λk=>D.tup [Al k,vC ((Z4 f k).getD (0,[]))])=T at *
 show OP [.val (.lst L),.val (.lst R),.val (A7 g),.no,.no,.no,.no]=_
 have s:∀x y z,ZS 1 [3] [.val (.lst L),.val (.lst R),.val (A7 g),.own (Zw KV) true,x,y,z]=[.no,.lent (Zw KV) true]:=λ_ _ _=>rfl
 simp only[OP,Zf,EY,BS,Be,Zz,B3,ZL,s,NS,Ah,ZA,AS,AL,A4,AZ,AA,AV,e,o,u,q1,w]
theorem F4{ws:List Int}(a:ws.length=24)(i:Nat)(b:i<24):Aw (.lst (ws.map D.int)) (.int (i:Int))=some (.int (ws.getD i 0)):=Hx i (by omega)
theorem ph(e:List Int)(p r:Sl)(k:Nat)(f:LL)(E:k<10)(hz:f.length<100):∃d i,BZ d/\ON [.val (.lst (e.map D.int)),p,.own (f.map AC),.val (.int (k:Int)),r]=.next [.val (.lst (e.map D.int)),p,.own ((f++[d]).map AC),.val (.int (k:Int)),i]:=by
 have s:=Pd (.val (.lst (e.map D.int))) e (.inl rfl) (1+(k:Int)) (by omega)
 generalize e.getD (1+(k:Int)).toNat 0=c at *
 obtain⟨h,t,q⟩:=Pk c (k:Int)
 have j:=F4 q 20 (by decide)
 have m:=F4 q 21 (by decide)
 generalize h.getD 21 0=z,h.getD 20 0=y at *
 obtain⟨a,u,G⟩:=E4 y 8 (by decide)
 obtain⟨b,v,H⟩:=E4 z 4 (by decide)
 obtain⟨d,w,x⟩:=oI c (1+a) (1+b) (by omega) (by omega) (by omega) (by omega)
 have A:ZJ (.int 1) (.int (k:Int))=some (.int (1+(k:Int))):=rfl
 have m1:=Dv y 8 (by decide)
 have m2:=Dv z 4 (by decide)
 have B:ZJ (.int 1) (.int (y%8))=some (.int ((1+a:Nat):Int)):=by
  show some (D.int (1+y%8))=_
  rw[show y%8=(a:Int)from u];rfl
 have C:ZJ (.int 1) (.int (z%4))=some (.int ((1+b:Nat):Int)):=by
  show some (D.int (1+z%4))=_
  rw[show z%4=(b:Int)from v];rfl
 have g:(f.map AC).length<AG:=by rw[B1];exact Cg hz (by decide)
 refine⟨d,.val (.lst (h.map D.int)),w,?_⟩
 rw[Ea,Uk]
 unfold AC at *
 generalize h.map D.int=W,e.map D.int=N,d.map Al=l,(f.map λd=>D.lst (d.map Al))=L at *
 have n:Aw (.lst W) (.int 20)=some (.int y):=j
 have o:Aw (.lst W) (.int 21)=some (.int z):=m
 simp only[ON,Zf,Zx,C6,Zq,Ze,Zb,Zi,An,Ah,Cn,AS,AL,A4,AZ,AA,AV,A,s,CZ,t,Dd,n,o,m1,m2,B,C,x,g,if_true]
theorem bM(i:List Int)(j:Sl):∀(n k:Nat)(d:LL)(l f:Sl),(∀g∈d,BZ g)->k+n<=10->d.length+n<100->∃(c:LL)(o p:Sl),(∀g∈c,BZ g)/\c.length=d.length+n/\Z0 (Zl 3) ON ((Hw k n).map λ(k:Nat)=>D.int (k:Int)) [.val (.lst (i.map D.int)),j,.own (d.map AC),l,f]=.next [.val (.lst (i.map D.int)),j,.own (c.map AC),o,p]
 |0,k,d,l,f,h,_,_=>⟨d,l,f,h,rfl,rfl⟩
 |n+1,k,d,l,f,h,w,x=>by
  obtain⟨g,r,s,t⟩:=ph i j f k d (by omega) (by omega)
  obtain⟨c,a,b,u,q,v⟩:=bM i j n (k+1) (d++[g]) (.val (.int (k:Int))) r (λm e=>by
   rcases List.mem_append.mp e with e|e
   ·exact h m e
   ·simp at e;subst e;exact s) (by omega) (by simp;omega)
  refine⟨c,a,b,u,by rw[q];simp;omega,?_⟩
  simp only[My,AW,Z0,Zl,A4,AZ,t,v]
theorem pi(d:List Int):∃f:LL,(∀j∈f,BZ j)/\0<f.length/\f.length<=4/\Td [.val (.lst (d.map D.int))]=some (.own (f.map AC)):=by
 have k:ZQ [.val (.lst (d.map D.int)),.val (.int 0)]=some (.val (.int (d.getD 0 0))):=Pd (.val (.lst (d.map D.int))) d (.inl rfl) 0 (by omega)
 generalize d.getD 0 0=c at *
 obtain⟨a3,l,w⟩:=E4 c 3 (by decide)
 obtain⟨n,m,o,p⟩:∃n:Nat,(1+c%3+(if c%12=5 then 1 else 0):Int)=(n:Int)/\0<n/\n<=4:=⟨1+a3+(if c%12=5 then 1 else 0),by rw[show c%3=(a3:Int)from l];split<;>rfl,by omega,by split<;>omega⟩
 obtain⟨f,a,b,q,i,e⟩:=bM d (.val (.int c)) n 0 [] .no .no (λ_ h=>nomatch h) (by omega) (by simp;omega)
 refine⟨f,q,by rw[i];simp;omega,by rw[i];simp;omega,?_⟩
 have r:=GW n (by omega)
 rw[<- T6]at e
 have m1:=Dv c 3 (by decide)
 have m2:=Dv c 12 (by decide)
 have s:ZJ (.int 1) (.int (c%3))=some (.int (1+c%3)):=rfl
 have t:CH (.int (c%12)) (.int 5)=some (.bl (decide (c%12=5))):=by simp
 have u:Gp [.bl (decide (c%12=5))]=some (.int (if c%12=5 then 1 else 0)):=by
  by_cases h:c%12=5<;>simp[h]
 have v:ZJ (.int (1+c%3)) (.int (if c%12=5 then 1 else 0))=some (.int (n:Int)):=by
  show some (D.int (1+c%3+(if c%12=5 then 1 else 0)))=_
  rw[m]
 have g:Zn (some ([]:List D))=some []:=rfl
 refine Z9 rfl ?_
 generalize d.map D.int=N,f.map AC=L at *
 show OO [.val (.lst N),.no,.no,.no,.no]=_
 rw[CA]at e
 simp only[OO,Y4,YX,Y3,YY,Y2,YZ,Y1,Y0,Zf,Zx,Di,BS,Zq,ZD,By,pk,Ze,Zb,Zi,Zt,An,Ah,Cn,B3,AS,AL,A4,AZ,AA,AV,k,CZ,g,m1,m2,s,t,u,v,r,e]
def Hy(ws:List Int):Nat->LL->List At
 |_,[]=>[]
 |k,a::b=>As (a.getD (ws.getD k 0%(a.length:Int)).toNat [])::Hy ws (k+1) b
theorem bN(ws:List Int):∀(k:Nat)(c:LL),(∀b∈c,BZ b)->A6 c (Hy ws k c)
 |_,[],_=>.nil
 |k,b::c,h=>by
  have d:=h b BC
  obtain⟨a,e,f⟩:=E4 (ws.getD k 0) b.length d.ne
  refine .cons ?_ (bN ws (k+1) c λm g=>h m (Bv _ g))
  rw[e,Kd]
  refine KJ ?_
  have:b.getD a []=b[a]:=by simp[CL,f]
  rw[this];exact Fc _
theorem bO(ws:List Int):∀(i k:Nat)(b:LL)(a:L1),b[i]?=some a->(Hy ws k b)[i]?=some (As (a.getD (ws.getD (k+i) 0%(a.length:Int)).toNat []))
 |_,_,[],_,h=>by simp at h
 |0,k,m::b,a,h=>by simp at h;subst h;rfl
 |i+1,k,m::b,a,h=>by
  have:=bO ws i (k+1) b a (by simpa using h)
  rw[show k+1+i=k+(i+1) by omega]at this
  simpa[Hy]using this
theorem pj(a c:Int):C3 a (1-2*(c%2)):=by
 have:c%2=0\/c%2=1:=by omega
 right
 rcases this with h|h<;>rw[h]<;>decide
theorem pq(cell:Int):∃(V U T B I J:D)(b:Int),Ez (.int 4096) (.int 8)=some V/\Ey (.int 2) V=some U/\Ez (.int 10) (.int 60)=some T/\HQ (.int cell) T=some B/\Gp [B]=some I/\Aw (.lst [.int 1,U]) I=some J/\RC (.int cell) J=some (.int b):=by
 have c:Ez (.int 4096) (.int 8)=some (.int (4096^8)):=by simp[E7]
 have a:Ez (.int 10) (.int 60)=some (.int (10^60)):=by simp[E7]
 have d:HQ (.int cell) (.int (10^60))=some (.bl (decide ((10:Int)^60<cell))):=rfl
 have e:=FD (x:=2) (y:=4096^8) (.inl (by decide))
 have f:Jh 0 1:=by constructor<;>decide
 have g:Jh 0 (2*4096^8):=by constructor<;>decide
 have h:=T4 (decide ((10:Int)^60<cell))
 have i2:=bf 1 (2*4096^8) (decide ((10:Int)^60<cell))
 generalize (4096^8:Int)=V,(2*4096^8:Int)=U,(10:Int)^60=T at *
 refine⟨_,_,_,_,_,_,cell/(if decide (T<cell)=true then U else 1),c,e,a,d,h,i2,?_⟩
 show(if Jh cell (if decide (T<cell)=true then U else 1)then some (D.int (cell/(if decide (T<cell)=true then U else 1)))else none)=_
 cases decide (T<cell)
 ·exact if_pos f
 ·exact if_pos g
theorem pr(cell:Int)(c:Nat)(f:LL)(z:∀g∈f,BZ g)(hz:f.length<=4):∃r:List At×Int,A6 f r.1/\SJ [.val (.int cell),.val (.int (c:Int)),.val (.lst (f.map AC))]=some (.val (BL r)):=by
 obtain⟨b,A,p⟩:=Pk cell (c:Int)
 have k:=bN b 0 f z
 have C:=MC (e:=Su) [.val (.lst (b.map D.int))] AC f 0 ((Hy b 0 f).map aD) (by rw[B1,k.len]) λi g y w E=>by
  rw[C1,bO b i 0 f g w]at E
  cases E
  rw[GY]
  have hi:i<f.length:=(List.getElem?_eq_some_iff.mp w).1
  have h:=z g (Ei w)
  have a1:=F4 p i (by omega)
  generalize b.getD i 0=v at *
  obtain⟨a,ea,G⟩:=E4 v g.length h.ne
  have a2:=Dv v (g.length:Int) (by have:=h.ne;omega)
  rw[ea]at a2 ⊢
  rw[Kd]
  have hg:g.getD a []=g[a]:=by simp[CL,G]
  have a3:Aw (AC g) (.int (a:Int))=some (Al g[a]):=by
   show atI (g.map Al) (a:Int)=_
   exact DV (by simp[G])
  have a4:=Hv g[a] (h.some _ (Fc _))
  have a5:Cd [AC g]=some (.int (g.length:Int)):=by simp
  rw[hg]
  generalize AC g=LD,b.map D.int=W,g[a]=l at *
  simp only[Su,Ze,ZD,By,pk,Zb,An,Ah,AS,AL,AA,AV,a1,a2,a3,a4,a5]
 have q1:Zn (some (CK 0 (f.map AC)))=some (CK 0 (f.map AC)):=Zv _ (by rw[Ja];simp;omega)
 have i5:=F4 p 5 (by decide)
 have i6:=F4 p 6 (by decide)
 have i7:=F4 p 7 (by decide)
 have H:=Dv (b.getD 5 0) 2 (by decide)
 have M:=Dv (b.getD 6 0) 2 (by decide)
 have m7:=Dv (b.getD 7 0) 7 (by decide)
 obtain⟨V,U,T60,B,I,J,q,N,O,Q,Y,t5,t6,t7⟩:=pq cell
 have mm:=FD (pj (q%10^30) (b.getD 5 0))
 generalize b.getD 7 0=s,b.getD 6 0=m,b.getD 5 0=j at *
 have c5:Aw (.lst (b.map D.int)) (.int 5)=some (.int j):=i5
 have c6:Aw (.lst (b.map D.int)) (.int 6)=some (.int m):=i6
 have c7:Aw (.lst (b.map D.int)) (.int 7)=some (.int s):=i7
 have pw:Ez (.int 10) (.int 30)=some (.int (10^30)):=by simp[E7]
 have m0:=Dv q (10^30) (by decide)
 have k1:=FD (x:=2) (y:=j%2) (.inl (by decide))
 have k2:Hf (.int 1) (.int (2*(j%2)))=some (.int (1-2*(j%2))):=rfl
 have k3:Hf (.int (s%7)) (.int 3)=some (.int (s%7-3)):=rfl
 have t:CH (.int (m%2)) (.int 1)=some (.bl (decide (m%2=1))):=by simp
 refine⟨(Hy b 0 f,if m%2=1 then s%7-3 else q%10^30*(1-2*(j%2))),k,Z9 rfl ?_⟩
 have n:Zn (some [.int 1,U])=some [.int 1,U]:=Zv _ (by simp)
 have q2:∀d,Zn (some [Al (Hy b 0 f),d])=some [Al (Hy b 0 f),d]:=λd=>Zv _ (by simp)
 unfold BL Al at *
 generalize (10:Int)^30=T,f.map AC=L,b.map D.int=W,(Hy b 0 f).map aD=S at *
 generalize q%T=cT at *
 generalize cT*(1-2*(j%2))=am at *
 show Mi [.val (.int cell),.val (.int (c:Int)),.val (.lst L),.no,.no,.no]=_
 have o:ZS 2 [3] [.val (.int cell),.val (.int (c:Int)),.val (.lst L),.val (.lst W),.no,.no]=[.no,.no,.val (.lst W)]:=rfl
 by_cases u:m%2=1
 ·rw[decide_eq_true u]at t
  rw[if_pos u]
  simp only[Mi,SI,Sv,SH,Sw,SF,Sx,SE,Sy,SD,Sz,Zf,Zx,ZM,AO,ZO,Zq,ZD,Dk,By,pk,Ze,Zb,Zi,Zt,ZA,ZL,DM,DK,o,Be,An,Ah,Bb,AS,AL,A4,AZ,AA,AV,A,Dd,q1,C,N,O,Q,Y,t5,n,t6,t7,pw,m0,c5,H,k1,k2,mm,c6,M,t,c7,m7,k3,q2]
 ·rw[decide_eq_false u]at t
  rw[if_neg u]
  simp only[Mi,SI,Sv,SH,Sw,SF,Sx,SE,Sy,SD,Sz,Zf,Zx,ZM,AO,ZO,Zq,ZD,Dk,By,pk,Ze,Zb,Zi,Zt,ZA,ZL,DM,DK,o,Be,An,Ah,Bb,AS,AL,A4,AZ,AA,AV,A,Dd,q1,C,N,O,Q,Y,t5,n,t6,t7,pw,m0,c5,H,k1,k2,mm,c6,M,t,q2]
theorem bP(b:LL)(g:∀i∈b,BZ i)(hz:b.length<=4):∀(d:List Int)(k:Nat),∃a:List (List At×Int),a.length=d.length/\(∀r∈a,A6 b r.1)/\CV (BU 2 (ZC (Zl 0) (ZC (Zl 1) BX))) (λ_=>some true) OL [.no,.no,.val (.lst (b.map AC))] (CK k (d.map D.int))=some (a.map BL)
 |[],_=>⟨[],rfl,(λ_ h=>nomatch h),rfl⟩
 |c::d,k=>by
  obtain⟨a,j,l,m⟩:=bP b g hz d (k+1)
  obtain⟨r,n,o⟩:=pr c k b g hz
  refine⟨r::a,by simp[j],λq f=>?_,?_⟩
  ·rcases Br.mp f with rfl|f
   ·exact n
   ·exact l q f
  ·have e:OL [.val (.int (k:Int)),.val (.int c),.val (.lst (b.map AC))]=some (BL r):=by
    generalize b.map AC=L at *
    simp only[OL,Zq,Zb,An,AS,AL,AA,AV,o,CZ]
   simp only[AW,CK,CV,BU,ZC,Zl,BX,Cq,E9,if_true,A4,AZ,AA,e,m,Zb]
theorem pu(d:List Int)(H:d.length<=63)(g:LL)(t:∀u∈g,BZ u)(hz:g.length<=4):∃a:List (List At×Int),a.length<64/\(∀r∈a,A6 g r.1)/\Tc [.val (.lst (d.map D.int)),.val (.lst (g.map AC))]=some (.own (a.map BL)):=by
 have v:ZQ [.val (.lst (d.map D.int)),.val (.int 5)]=some (.val (.int (d.getD 5 0))):=Pd (.val (.lst (d.map D.int))) d (.inl rfl) 5 (by omega)
 generalize d.getD 5 0=c at *
 obtain⟨n,w,I⟩:=E4 c 6 (by decide)
 have i:Em (d.map D.int) (some 11) (some 51)=((d.drop 11).take 40).map D.int:=by rw[RX,Yc _ _ _ (by omega) (by omega)];rfl
 have z:((d.drop 11).take 40).length<=57:=by simp;omega
 generalize (d.drop 11).take 40=h at *
 have B:=GW n (by omega)
 have o:=D6 (b:=Zl 0) (e:=Tb) (ρ:=[.no,.val (.int c)]) (λ(k:Nat)=>D.int (k:Int)) (λ(k:Nat)=>D.int (c/6+7*(k:Int))) (Ba n) λk M=>⟨[.val (.int (k:Int)),.val (.int c)],rfl,by
  have m1:=FD (x:=7) (y:=(k:Int)) (.inl (by decide))
  have d1:Dt (.int c) (.int 6)=some (.int (c/6)):=by
   show(if DR c 6 then some (D.int (c/6))else none)=_
   rw[if_pos ⟨by decide,by decide⟩]
  have a1:ZJ (.int (c/6)) (.int (7*(k:Int)))=some (.int (c/6+7*(k:Int))):=rfl
  simp only[Tb,Ze,Ah,AS,AL,AA,m1,d1,a1]⟩
 have q0:=Zv ((Ba n).map λ(k:Nat)=>D.int (k:Int)) (by simp;omega)
 have f:=Yf (h.map D.int) ((Ba n).map λ(k:Nat)=>D.int (c/6+7*(k:Int))) (by simp;omega)
 have p:h.map D.int++(Ba n).map (λ(k:Nat)=>D.int (c/6+7*(k:Int)))=(h++(Ba n).map λ(k:Nat)=>c/6+7*(k:Int)).map D.int:=by
  rw[Ea,Db];rfl
 rw[p]at f
 have s:(h++(Ba n).map λ(k:Nat)=>c/6+7*(k:Int)).length<=62:=by simp;omega
 generalize (h++(Ba n).map λ(k:Nat)=>c/6+7*(k:Int))=m at *
 obtain⟨a,O,E,G⟩:=bP g t hz m 0
 refine⟨a,by omega,E,Z9 rfl ?_⟩
 have q1:Zn (some (CK 0 (m.map D.int)))=some (CK 0 (m.map D.int)):=Zv _ (by rw[Ja];simp;omega)
 have m1:=Dv c 6 (by decide)
 have q:c%6=(n:Int):=w
 rw[q]at m1
 generalize g.map AC=L,d.map D.int=N,h.map D.int=A,((Ba n).map λ(k:Nat)=>D.int (c/6+7*(k:Int)))=Q,((Ba n).map λ(k:Nat)=>D.int (k:Int))=T,m.map D.int=C,a.map BL=R at *
 show OM [.val (.lst N),.val (.lst L),.no,.no]=_
 have j:ZS 1 [2] [.val (.lst N),.val (.lst L),.val (.int c),.no]=[.no,.val (.int c)]:=rfl
 have l:ZS 2 [1] [.val (.lst N),.val (.lst L),.val (.int c),.val (.lst C)]=[.no,.no,.val (.lst L)]:=rfl
 simp only[OM,Zf,Zx,B3,Zq,ZL,DM,DK,j,l,Ch,E1,Cb,Ze,Zb,Zi,Zt,ZA,Be,An,Ah,AS,AL,A4,AZ,AA,AV,v,CZ,m1,B,q0,o,i,f,q1,G]
def dv(k:Nat):Int:=[1,5,25,125].getD k 1
theorem pv(k:Nat)(h:k<4):atI [D.int 1,.int 5,.int 25,.int 125] (k:Int)=some (.int (dv k))/\DR 0 (dv k):=by
 match k,h with
 |0,_=>exact⟨rfl,by decide,by decide⟩
 |1,_=>exact⟨rfl,by decide,by decide⟩
 |2,_=>exact⟨rfl,by decide,by decide⟩
 |3,_=>exact⟨rfl,by decide,by decide⟩
theorem px(c:Int)(n:Sl)(k:Nat)(u:k<4)(d:L1)(o:BZ d)(g:List Nat)(v:g.length<100):∃j:Nat,(∀l∈d,j<=l.length)/\Oh [.val (.int c),n,.own (g.map λ(j:Nat)=>D.int (j:Int)),.val (.int (k:Int)),.val (AC d)]=.next [.val (.int c),n,.own ((g++[j]).map λ(j:Nat)=>D.int (j:Int)),.val (.int (k:Int)),.val (AC d)]:=by
 obtain⟨p,w,x,r⟩:=o.lw
 obtain⟨l,a,rfl⟩:∃l a,d=l::a:=by
  cases d with
  |nil=>have:=o.ne;simp at this
  |cons l a=>exact⟨l,a,rfl⟩
 have h:=r l BC
 obtain⟨d1,d2⟩:=pv k u
 generalize dv k=b at *
 obtain⟨j,s,H⟩:=E4 (c/b) (p+1) (by omega)
 refine⟨j,λm y=>by rw[r m y];omega,?_⟩
 have z:Dt (.int c) (.int b)=some (.int (c/b)):=by
  show(if DR c b then some (D.int (c/b))else none)=_
  rw[if_pos (show DR c b from d2)]
 have A:Aw (AC (l::a)) (.int 0)=some (Al l):=by
  show atI ((l::a).map Al) 0=_
  exact Pg _ _
 have B:Cd [Al l]=some (.int (p:Int)):=by simp[Al,h]
 have C:ZJ (.int (p:Int)) (.int 1)=some (.int ((p:Int)+1)):=rfl
 have t:=Dv (c/b) ((p:Int)+1) (by omega)
 have i:c/b%((p:Int)+1)=(j:Int):=by
  have e:((p+1:Nat):Int)=(p:Int)+1:=by omega
  rw[e]at s;exact s
 rw[i]at t
 have f:(g.map λ(j:Nat)=>D.int (j:Int)).length<AG:=by rw[B1];exact Cg v (by decide)
 have q:Zn (some [D.int 1,.int 5,.int 25,.int 125])=some [D.int 1,.int 5,.int 25,.int 125]:=Zv _ (by simp)
 have E:Aw (.lst [D.int 1,.int 5,.int 25,.int 125]) (.int (k:Int))=some (.int b):=d1
 rw[Ea,Uk]
 generalize AC (l::a)=LD,(g.map λ(j:Nat)=>D.int (j:Int))=G at *
 simp only[Oh,Zf,C6,ZD,By,pk,Ze,Zb,Zi,Zt,ZA,An,Ah,Cn,AS,AL,A4,AZ,AA,AV,q,E,z,A,B,C,t,f,if_true]
theorem bQ(c:Int)(f:Sl):∀(d:LL)(k:Nat)(g:List Nat)(i l:Sl),(∀e∈d,BZ e)->k+d.length<=4->g.length+d.length<100->∃(g':List Nat)(n o:Sl),Bq d g'/\Z0 (BU 2 (ZC (Zl 3) (ZC (Zl 4) BX))) Oh (CK k (d.map AC)) [.val (.int c),f,.own (g.map λ(j:Nat)=>D.int (j:Int)),i,l]=.next [.val (.int c),f,.own ((g++g').map λ(j:Nat)=>D.int (j:Int)),n,o]
 |[],_,g,i,l,_,_,_=>⟨[],i,l,.nil,by rw[Fp];rfl⟩
 |e::d,k,g,i,l,h,q,r=>by
  simp only[Cq]at q r
  have p:=h e BC
  obtain⟨j,s,t⟩:=px c f k (by omega) e p g (by omega)
  obtain⟨g',a,b,u,v⟩:=bQ c f d (k+1) (g++[j]) (.val (.int (k:Int))) (.val (AC e)) (λm w=>h m (Bv _ w)) (by omega) (by simp;omega)
  refine⟨j::g',a,b,.cons p s u,?_⟩
  simp only[AW,CK,Z0,BU,ZC,Zl,BX,Cq,E9,if_true,A4,AZ,AA]
  rw[t]
  simp only[v,Ig,List.singleton_append]
theorem bR(c:Int)(d:LL)(h:∀i∈d,BZ i)(hz:d.length<=4):∃g,Bq d g/\Oj [.val (.int c),.val (.lst (d.map AC))]=some (.val (A7 g)):=by
 obtain⟨g,a,b,k,e⟩:=bQ c (.val (.lst (d.map AC))) d 0 [] .no .no h (by omega) (by simp;omega)
 refine⟨g,k,Z9 rfl ?_⟩
 rw[KD,CA]at e
 have f:Zn (some ([]:List D))=some []:=rfl
 unfold A7
 generalize d.map AC=L,(g.map λ(j:Nat)=>D.int (j:Int))=G at *
 show Oi [.val (.int c),.val (.lst L),.no,.no,.no]=_
 simp only[Oi,Zf,Di,BS,ZO,DM,DK,ZD,Dk,By,pk,Zb,Zt,Be,An,AS,AL,A4,AZ,AA,AV,f,e]
theorem bS(x:Int)(xs:List Int):B8 x xs=Al [.int ((xs.length+1:Nat):Int),.int ((x::xs).sum),.int (xs.foldl mn x),.int (xs.foldl mx x)]:=rfl
def KO(acc:List Bg):List (List At×Int×List Int):=(Z3 BP (Zy acc)).map λk=>(k,(Z4 acc k).getD (0,[]))
theorem bT(acc:List Bg):C0 acc=(KO acc).map λt=>.tup [Al t.1,B8 t.2.1 t.2.2]:=by
 unfold C0 KO
 rw[Db];rfl
theorem Ul{d:D}(h:A3 12 d=true):CH d d=some (.bl true)/\Dy d d=some (.bl false):=by
 have a:=Wp 12 d h
 simp only[CH,Dy,Ik,h,a,EI,if_true,Gw,and_self]
theorem bU(acc:List Bg):A3 12 (.lst (C0 acc))=true:=by
 rw[bT]
 show((KO acc).map _).all (A3 11)=true
 rw[GP,D9]
 intro t _
 show [Al t.1,B8 t.2.1 t.2.2].all (A3 10)=true
 rw[bS]
 simp only[EA,List.all_nil,Mu 9,EI]
def Cy(acc:List Bg):List (List At×Int):=acc.flatMap λe=>(e.2.1::e.2.2).map λx=>(e.1,x)
theorem Gz(e:Bg)(r:List Bg):Cy (e::r)=(e.2.1::e.2.2).map (λx=>(e.1,x))++Cy r:=by simp[Cy]
def CU:List Bg->List At->Int->List Int->List Bg
 |[],k,x,a=>[(k,x,a)]
 |e::r,k,x,a=>if e.1=k then(e.1,e.2.1,e.2.2++x::a)::r else e::CU r k x a
theorem bV(k:List At)(x:Int):∀acc:List Bg,CD acc k x=CU acc k x []
 |[]=>rfl
 |e::r=>by unfold CD CU;rw[bV k x r]
theorem Um(k:List At)(x:Int)(xs:List Int):∀acc:List Bg,(Cy (CU acc k x xs)).Perm ((x::xs).map (λy=>(k,y))++Cy acc)
 |[]=>by simp[CU,Cy]
 |e::r=>by
  unfold CU
  by_cases c:e.1=k
  ·rw[if_pos c,Gz,Gz]
   subst c
   show((e.2.1::(e.2.2++x::xs)).map (λy=>(e.1,y))++Cy r).Perm _
   rw[show e.2.1::(e.2.2++x::xs)=(e.2.1::e.2.2)++(x::xs) by simp,Ea,<- Ig]
   exact List.perm_append_comm.append_right _
  ·rw[if_neg c,Gz,Gz]
   refine((Um k x xs r).append_left _).trans ?_
   rw[<- Ig,<- Ig]
   exact List.perm_append_comm.append_right _
theorem Uo(k:List At)(x:Int)(xs:List Int):∀acc:List Bg,Zy (CU acc k x xs)=if k∈Zy acc then Zy acc else Zy acc++[k]
 |[]=>rfl
 |e::r=>by
  have b:=Uo k x xs r
  unfold CU
  by_cases c:e.1=k
  ·rw[if_pos c];simp[Zy,c]
  ·rw[if_neg c]
   have:Zy (e::CU r k x xs)=e.1::Zy (CU r k x xs):=rfl
   have a:Zy (e::r)=e.1::Zy r:=rfl
   rw[this,b,a]
   by_cases m:k∈Zy r
   ·rw[if_pos m,if_pos (Bv _ m)]
   ·rw[if_neg m,if_neg (by simp[Zy,Bp c]at m ⊢;exact m)];rfl
theorem bW{k:List At}{x:Int}{xs:List Int}{acc:List Bg}(h:(Zy acc).Nodup):(Zy (CU acc k x xs)).Nodup:=by
 rw[Uo]
 split
 ·exact h
 ·next m=>exact List.nodup_append.mpr ⟨h,by simp,λa d b c=>by simp at c;subst c;exact λe=>m (e ▸ d)⟩
theorem bX(k:List At)(x:Int)(xs:List Int):∀acc:List Bg,(CU acc k x xs).length<=acc.length+1
 |[]=>by simp[CU]
 |e::r=>by
  have:=bX k x xs r
  unfold CU
  split<;>simp<;>omega
theorem bY(v:Int×List Int->D){k:List At}{x:Int}{xs:List Int}{p:Int×List Int}:∀{acc:List Bg},(Zy acc).Nodup->Z4 acc k=some p->D3 (acc.map (Z5 v)) (.tup k) (v (p.1,p.2++x::xs))=(CU acc k x xs).map (Z5 v)
 |e::r,a,h=>by
  simp only[Zy,AW,EQ]at a
  unfold Z4 at h
  by_cases c:e.1=k
  ·rw[if_pos c]at h;cases h
   have b:ZT (r.map (Z5 v)) (.tup k)=none:=by
    rw[GX,B9.mpr (c ▸ a.1)];rfl
   simp only[AW,D3,CU,Z5,c,if_true,Ud b,KT.tup.injEq]
  ·rw[if_neg c]at h
   have d:=bY v (x:=x) (xs:=xs) a.2 h
   simp only[AW,D3,CU,Z5,c,if_false,KT.tup.injEq]
   rw[d]
theorem bZ{k:List At}{x:Int}{xs:List Int}:∀{acc:List Bg},Z4 acc k=none->CU acc k x xs=acc++[(k,x,xs)]
 |[],_=>rfl
 |e::r,h=>by
  unfold Z4 at h
  by_cases c:e.1=k
  ·rw[if_pos c]at h;cases h
  ·rw[if_neg c]at h
   unfold CU
   rw[if_neg c,bZ h];rfl
theorem py(v:Int×List Int->D){k:List At}{x:Int}{xs:List Int}{p:Int×List Int}{acc:List Bg}(a:(Zy acc).Nodup)(h:Z4 acc k=some p):Ce (acc.map (Z5 v)) (.tup k) (v (p.1,p.2++x::xs))=(CU acc k x xs).map (Z5 v):=by
 unfold Ce
 rw[GX,h]
 exact bY v a h
theorem pz(v:Int×List Int->D){k:List At}{x:Int}{xs:List Int}{acc:List Bg}(h:Z4 acc k=none):Ce (acc.map (Z5 v)) (.tup k) (v (x,xs))=(CU acc k x xs).map (Z5 v):=by
 unfold Ce
 rw[GX,h,bZ h]
 simp[Z5]
theorem pA{x y:Int}{xs ys:List Int}(h:(x::xs).Perm (y::ys)):B8 x xs=B8 y ys:=by
 have d:=Ui x xs
 have b:=Ui y ys
 have e:Ends (x::xs) (ys.foldl mn y) (ys.foldl mx y):=⟨h.mem_iff.mpr b.m1,λa c=>b.m2 a (h.mem_iff.mp c),h.mem_iff.mpr b.M1,λa c=>b.M2 a (h.mem_iff.mp c)⟩
 obtain⟨f,g⟩:=d.uniq e
 have i:=Yd h
 have j:=h.length_eq
 simp only[Cq]at j
 unfold B8
 rw[f,g,i,show xs.length=ys.length by omega]
def F5(k:List At)(l:List (List At×Int)):List Int:=l.filterMap λp=>if p.1=k then some p.2 else none
theorem b4(k:List At)(a b:List (List At×Int)):F5 k (a++b)=F5 k a++F5 k b:=by simp[F5]
theorem b6(k:List At):∀xs:List Int,F5 k (xs.map λx=>(k,x))=xs
 |[]=>rfl
 |x::xs=>by
  have a:=b6 k xs
  unfold F5 at a ⊢
  simp only[AW,Jz,if_true,a]
theorem Up{k a:List At}(h:a≠k):∀xs:List Int,F5 k (xs.map λx=>(a,x))=[]
 |[]=>rfl
 |x::xs=>by
  have b:=Up h xs
  unfold F5 at b ⊢
  simp only[AW,Jz,h,if_false,b]
theorem cb{k:List At}:∀{acc:List Bg},k∉Zy acc->F5 k (Cy acc)=[]
 |[],_=>rfl
 |e::r,h=>by
  simp only[Zy,AW,Br,not_or]at h
  rw[Gz,b4,Up (Bp h.1),cb (acc:=r) h.2];rfl
theorem Uq{k:List At}{p:Int×List Int}:∀{acc:List Bg},(Zy acc).Nodup->Z4 acc k=some p->F5 k (Cy acc)=p.1::p.2
 |e::r,a,h=>by
  simp only[Zy,AW,EQ]at a
  unfold Z4 at h
  rw[Gz,b4]
  by_cases c:e.1=k
  ·rw[if_pos c]at h;cases h
   subst c
   rw[b6,cb a.1,Fp]
  ·rw[if_neg c]at h
   rw[Up c,Uq a.2 h];rfl
theorem Ur{k:List At}:∀{acc:List Bg},k∈Zy acc↔∃x,(k,x)∈Cy acc
 |[]=>by simp[Zy,Cy]
 |e::r=>by
  have b:=Ur (k:=k) (acc:=r)
  rw[Gz]
  have a:Zy (e::r)=e.1::Zy r:=rfl
  rw[a]
  constructor
  ·intro h
   rcases Br.mp h with rfl|h
   ·exact⟨e.2.1,JC _ (List.mem_map.mpr ⟨e.2.1,BC,rfl⟩)⟩
   ·obtain⟨x,c⟩:=b.mp h
    exact⟨x,C2 _ c⟩
  ·rintro⟨x,h⟩
   rcases List.mem_append.mp h with h|h
   ·obtain⟨y,_,d⟩:=List.mem_map.mp h
    cases d
    exact BC
   ·exact Bv _ (b.mpr ⟨x,h⟩)
theorem pB{acc a:List Bg}(d:(Zy acc).Nodup)(f:(Zy a).Nodup)(h:(Cy acc).Perm (Cy a)):C0 acc=C0 a:=by
 have m:(Zy acc).Perm (Zy a):=(List.perm_ext_iff_of_nodup d f).mpr λk=>by
  rw[Ur,Ur]
  exact⟨λ⟨x,c⟩=>⟨x,h.mem_iff.mp c⟩,λ⟨x,c⟩=>⟨x,h.mem_iff.mpr c⟩⟩
 have g:Z3 BP (Zy acc)=Z3 BP (Zy a):=og Pe ((Fg BP _).trans m) (TU Pe _)
 unfold C0
 rw[g]
 refine List.map_congr_left λk b=>?_
 obtain⟨i,j⟩:=Pr b
 obtain⟨p,e⟩:=Pr (acc:=acc) (by rw[g];exact b)
 rw[e,j]
 have l:(F5 k (Cy acc)).Perm (F5 k (Cy a)):=h.filterMap _
 rw[Uq d e,Uq f j]at l
 show D.tup [Al k,B8 p.1 p.2]=D.tup [Al k,B8 i.1 i.2]
 rw[pA l]
theorem pC{a b:List Bg}(h:a.Perm b):(Cy a).Perm (Cy b):=h.flatMap_right _
theorem pD:∀{acc:List Bg},(Zy acc).Nodup->acc.map (λe=>(e.1,(Z4 acc e.1).getD (0,[])))=acc:=by
 intro acc b
 have:∀e∈acc,Z4 acc e.1=some e.2:=by
  intro e a
  induction acc with
  |nil=>exact nomatch a
  |cons d r c=>
   simp only[Zy,AW,EQ]at b
   unfold Z4
   rcases Br.mp a with rfl|a
   ·rw[if_pos rfl]
   ·rw[if_neg (λz=>b.1 (by rw[z];exact KJ a))]
    exact c b.2 a
 refine(List.map_congr_left (g:=id) λe a=>?_).trans (List.map_id _)
 rw[this e a];rfl
theorem pE{acc:List Bg}(h:(Zy acc).Nodup):(Cy (KO acc)).Perm (Cy acc):=by
 refine pC ?_
 unfold KO
 have a:=(Fg BP (Zy acc)).map λk=>((k,(Z4 acc k).getD (0,[])):Bg)
 have b:(Zy acc).map (λk=>((k,(Z4 acc k).getD (0,[])):Bg))=acc:=by
  unfold Zy
  rw[Db]
  exact pD h
 rw[b]at a
 exact a
theorem Us(b:LL)(g:List Nat):∀(a:List (List At×Int))(acc:List Bg),(Cy (CT b g a acc)).Perm (a.map (λr=>(ZU b r.1 g,r.2))++Cy acc)
 |[],acc=>.refl _
 |r::a,acc=>by
  refine(Us b g a (CD acc (ZU b r.1 g) r.2)).trans ?_
  rw[bV]
  refine((Um _ _ [] acc).append_left _).trans ?_
  simp only[AW,CA,List.singleton_append,M5]
  exact List.perm_middle
def KP(f:List At->List At)(a acc:List Bg):List Bg:=a.foldl (λacc t=>CU acc (f t.1) t.2.1 t.2.2) acc
theorem cc(f:List At->List At):∀(a acc:List Bg),(Cy (KP f a acc)).Perm ((Cy a).map (λp=>(f p.1,p.2))++Cy acc)
 |[],acc=>.refl _
 |t::a,acc=>by
  refine(cc f a (CU acc (f t.1) t.2.1 t.2.2)).trans ?_
  refine((Um _ _ _ acc).append_left _).trans ?_
  rw[Gz,Ea,Db,<- Ig]
  exact List.perm_append_comm.append_right _
theorem ce(f:List At->List At):∀(a acc:List Bg),(Zy acc).Nodup->(Zy (KP f a acc)).Nodup
 |[],_,h=>h
 |t::a,acc,h=>ce f a _ (bW h)
def EK(a:L1):Nat:=(a.headD []).length
theorem BZ.la{a:L1}(h:BZ a):Gx (EK a) a:=by
 obtain⟨p,b,c,d⟩:=h.lw
 have e:EK a=p:=by
  cases a with
  |nil=>have:=h.ne;simp at this
  |cons l r=>exact d l BC
 rw[e]
 exact⟨b,c,h.ne,by have:=h.few;omega,d,h.nd⟩
def CJ(b:LL):List (Nat×L1):=b.map λa=>(EK a,a)
theorem Ps(a:LL):LD (CJ a)=.lst (a.map AC):=by unfold LD CJ;rw[Db];rfl
theorem ME(a:LL):(CJ a).length=a.length:=by simp[CJ]
theorem KQ(a:LL)(x:Nat):(CJ a)[x]?=(a[x]?).map λb=>(EK b,b):=by simp[CJ]
theorem cf{b:LL}(e:∀a∈b,BZ a)(f:0<b.length)(hz:b.length<=4):Pm (CJ b):=
 ⟨by rw[ME];omega,by rw[ME];omega,λp c=>by obtain⟨a,d,rfl⟩:=List.mem_map.mp c;exact(e a d).la,λp c=>by obtain⟨a,d,rfl⟩:=List.mem_map.mp c;exact(e a d).few⟩
theorem Bq.gr{b:LL}{g:List Nat}(h:Bq b g):MA (CJ b) g:=by
 refine⟨by rw[ME,h.len],λx w la e=>?_⟩
 rw[KQ]at e
 cases a:b[x]? with
 |none=>rw[a]at e;cases e
 |some k=>
  rw[a]at e
  cases e
  induction h generalizing x with
  |nil=>simp at a
  |@cons c b i g d f m j=>
   cases x with
   |zero=>
    simp at a;subst a
    show i<=_
    cases c with
    |nil=>have:=d.ne;simp at this
    |cons l r=>exact f l BC
   |succ x=>simpa using j x (by simpa using a)
theorem KR(g:List Nat):GD g=A7 g:=rfl
def AT(a:List AP)(x:Nat)(b:L1):L1:=b.filter (ZP a x)
def FH(a:List AP)(x:Nat)(b:L1)(i j:Nat):Bx:=De [] ((AT a x b).map λl=>(l.getD i .non,aD (l.getD j .non)))
def D8(a:List AP)(x:Nat)(b:L1):D:=.lst ((Z3 BQ ((AT a x b).map As)).map aD)
theorem pF{a:L1}(c:BZ a)(b:List AP)(x:Nat){l:List At}(d:l∈a):Dj false (aD (As l)) (D8 b x a)=some (.bl (ZP b x l)):=by
 unfold D8
 rw[(Js _ _).1]
 congr 2
 have:=bz c.la b x d
 rw[Io,decide_eq_true_eq]
 exact this
theorem pG{a:L1}(f:BZ a)(c:List AP)(x i j:Nat):Sn [.val (AC a),.val (.int (i:Int)),.val (.int (j:Int)),.val (D8 c x a)]=some (.own (Zw (FH c x a i j)) true):=by
 have y:=f.few
 have q:=f.four
 have q1:Zn (some (a.map Al))=some (a.map Al):=Zv _ (by simp;omega)
 have s:=Pj (b:=Zl 0) (t:=Oq) (e:=Ot) (ρ:=[.no,.val (.int (i:Int)),.val (.int (j:Int)),.val (D8 c x a)]) Al (λl=>.tup [aD (l.getD i .non),aD (l.getD j .non)]) (ZP c x) a λl g=>⟨[.val (Al l),.val (.int (i:Int)),.val (.int (j:Int)),.val (D8 c x a)],rfl,by
   have k:=Hv l (f.some l g)
   have u:=pF f c x g
   generalize D8 c x a=d at *
   simp only[Oq,AO,Ze,Ah,AS,AL,AA,k,u],by
   have k:=Jt l j (by have:=q l g;omega)
   have v:=Jt l i (by have:=q l g;omega)
   have m:Zn (some [aD (l.getD i .non),aD (l.getD j .non)])=some [aD (l.getD i .non),aD (l.getD j .non)]:=Zv _ (by simp)
   generalize D8 c x a=d at *
   simp only[Ot,Zq,Zb,Zi,Zt,An,AS,AL,AA,AV,v,k,CZ,m]⟩
 have w:(AT c x a).length<=a.length:=Pl _ _
 have r:=Mv ((AT c x a).map λl=>(l.getD i .non,aD (l.getD j .non))) [] (λ_ h=>nomatch h) (by simp;omega)
 rw[Db]at r
 have A:((AT c x a).map λl=>D.tup [aD (l.getD i .non),aD (l.getD j .non)])=(AT c x a).map ((λp=>D.tup [aD p.1,p.2])∘λl=>(l.getD i .non,aD (l.getD j .non))):=rfl
 have n:CV (Zl 0) Oq Ot [.no,.val (.int (i:Int)),.val (.int (j:Int)),.val (D8 c x a)] (a.map Al)=some ((AT c x a).map ((λp=>D.tup [aD p.1,p.2])∘λl=>(l.getD i .non,aD (l.getD j .non)))):=s
 unfold AC FH
 generalize D8 c x a=d,a.map Al=L,(AT c x a).map ((λp=>D.tup [aD p.1,p.2])∘λl=>(l.getD i .non,aD (l.getD j .non)))=PS,De [] ((AT c x a).map λl=>(l.getD i .non,aD (l.getD j .non)))=KV at *
 refine Z9 rfl ?_
 have o:ZS 1 [1,2,3] [.val (.lst L),.val (.int (i:Int)),.val (.int (j:Int)),.val d]=[.no,.val (.int (i:Int)),.val (.int (j:Int)),.val d]:=rfl
 show Ou [.val (.lst L),.val (.int (i:Int)),.val (.int (j:Int)),.val d]=_
 simp only[Ou,Zf,Hd,GV,ZA,ZL,o,Be,Zz,AL,AA,AV,q1,n,r]
def CM(a:List AP):Nat->LL->List Nat->List Nat->List D
 |x,b::c,i::g,j::k=>.lst (Zw (FH a x b i j)) true::CM a (x+1) c g k
 |_,_,_,_=>[]
theorem Pt(b:List AP){a:LL}{g k:List Nat}(h:Bq a g)(h':Bq a k):∀x,(CM b x a g k).length=a.length:=by
 induction h generalizing k with
 |nil=>cases h';exact λ_=>rfl
 |cons _ _ _ c=>
  cases h' with
  |cons _ _ t=>intro x;simp[CM,c t]
theorem cg(l:List AP){c:LL}{g k:List Nat}(h:Bq c g)(h':Bq c k):∀(x n:Nat)(d:L1),c[n]?=some d->∃i j:Nat,g[n]?=some i/\k[n]?=some j/\BZ d/\(CM l x c g k)[n]?=some (D.lst (Zw (FH l (x+n) d i j)) true):=by
 induction h generalizing k with
 |nil=>intro x i d e;simp at e
 |@cons d c i g o u v p=>
  cases h' with
  |@cons _ _ j w y z q=>
  intro x n f e
  cases n with
  |zero=>
   simp at e;subst e
   exact⟨i,j,rfl,rfl,o,rfl⟩
  |succ n=>
   obtain⟨a,b,r,s,t,m⟩:=p q (x+1) n f (by simpa using e)
   rw[show x+1+n=x+(n+1) by omega]at m
   exact⟨a,b,r,s,t,m⟩
theorem pH{a:LL}(g:∀h∈a,BZ h)(hz:a.length<=4)(c:List AP)(i:∀q∈c,q.vs.length<=50):Mr [.val (.lst (a.map AC)),.val (.lst (c.map AQ))]=some (.own ((Ba a.length).map λx=>D8 c x (a.getD x []))):=by
 have j:=D6 (b:=Zl 0) (e:=Mq) (ρ:=[.no,.val (.lst (a.map AC)),.val (.lst (c.map AQ))]) (λ(k:Nat)=>D.int (k:Int)) (λx=>D8 c x (a.getD x [])) (Ba a.length) λx d=>⟨[.val (.int (x:Int)),.val (.lst (a.map AC)),.val (.lst (c.map AQ))],rfl,by
  have d:=List.mem_range.mp d
  have e:a.getD x []=a[x]:=by simp[CL,d]
  have l:=bq (.lst (a.map AC)) c x (EK a[x]) a[x] (DV (by rw[C1,Cu d];rfl)) (g _ (Fc _)).la i
  rw[e]
  unfold D8 AT
  generalize c.map AQ=Q,a.map AC=L,(Z3 BQ ((a[x].filter (ZP c x)).map As)).map aD=S at *
  simp only[Mq,l,Dd,An,Zq,Zb,AS,AL,AA,AV]⟩
 have m:=GW a.length (by omega)
 have q1:=Zv ((Ba a.length).map λ(k:Nat)=>D.int (k:Int)) (by simp;omega)
 have n:Cd [.lst (a.map AC)]=some (.int (a.length:Int)):=by simp
 refine Z9 rfl ?_
 show Ky [.val (.lst (a.map AC)),.val (.lst (c.map AQ))]=_
 generalize c.map AQ=Q,a.map AC=L,(a.length:Int)=N,((Ba a.length).map λ(k:Nat)=>D.int (k:Int))=R,((Ba a.length).map λx=>D8 c x (a.getD x []))=p at *
 have f:ZS 1 [0,1] [.val (.lst L),.val (.lst Q)]=[.no,.val (.lst L),.val (.lst Q)]:=rfl
 simp only[Ky,n,m,ZL,q1,f,j,B3,Zf,An,Zb,Zi,Zt,ZD,By,pk,AS,AL,AA,AV]
theorem pI{a:LL}{g k:List Nat}(h:Bq a g)(h':Bq a k)(p:∀c∈a,BZ c)(hz:a.length<=4)(b:List AP)(r:∀q∈b,q.vs.length<=50):Tw [.val (.lst (a.map AC)),.val (A7 g),.val (A7 k),.val (.lst (b.map AQ))]=some (.own (CM b 0 a g k)):=by
 have s:=pH p hz b r
 have t:=MC (e:=Tv) [.val (A7 g),.val (A7 k),.val (.lst ((Ba a.length).map λx=>D8 b x (a.getD x [])))] AC a 0 (CM b 0 a g k) (Pt b h h' 0).symm λn c y d o=>by
  obtain⟨i,j,u,v,f,w1⟩:=cg b h h' 0 n c d
  rw[w1]at o;cases o
  have a1:=Pq u
  have a2:=Pq v
  have a3:=pG f b n i j
  have w:n<a.length:=(List.getElem?_eq_some_iff.mp d).1
  have a4:Aw (.lst ((Ba a.length).map λx=>D8 b x (a.getD x []))) (.int (n:Int))=some (D8 b n c):=by
   show atI _ (n:Int)=_
   refine DV ?_
   rw[C1,Ng w]
   simp[CL,d]
  rw[GY]
  generalize D8 b n c=z,((Ba a.length).map λx=>D8 b x (a.getD x []))=l at *
  simp only[Tv,Zq,Ze,Zb,Zi,An,Ah,AS,AL,AA,AV,a1,a2,a3,a4,Dd]
 have q1:Zn (some (CK 0 (a.map AC)))=some (CK 0 (a.map AC)):=Zv _ (by rw[Ja];simp;omega)
 generalize b.map AQ=Q,a.map AC=L,((Ba a.length).map λx=>D8 b x (a.getD x []))=l at *
 refine Z9 rfl ?_
 show O1 [.val (.lst L),.val (A7 g),.val (A7 k),.val (.lst Q),.no]=_
 have m:ZS 2 [1,2,4] [.val (.lst L),.val (A7 g),.val (A7 k),.val (.lst Q),.val (.lst l)]=[.no,.no,.val (A7 g),.val (A7 k),.val (.lst l)]:=rfl
 simp only[O1,Zf,Zx,B3,Zq,Zb,An,ZL,DM,DK,m,Be,AS,AL,A4,AZ,AA,AV,s,Dd,q1,t]
def GA(b:List AP):Nat->LL->List Nat->List At->List Bool
 |x,c::d,i::g,a::e=>decide (a∈(AT b x c).map λl=>l.getD i .non)::GA b (x+1) d g e
 |_,_,_,_=>[]
theorem pJ(b:List AP)(x:Nat)(c:L1)(i j:Nat)(a:At):EH false (aD a) (.lst (Zw (FH b x c i j)) true)=some (.bl (decide (a∈(AT b x c).map λl=>l.getD i .non))):=by
 unfold FH
 rw[aZ,Db]
 show some (D.bl (false != _))=_
 rw[Bool.false_bne];rfl
theorem pK(d:List AP){c:LL}{g k:List Nat}(h:Bq c g)(h':Bq c k):∀(x:Nat)(b:List At),b.length=c.length->CV (BU 2 (ZC (Zl 0) (ZC (Zl 1) BX))) (λ_=>some true) NY [.no,.no] (Fy (λx y=>D.tup [x,y]) (CM d x c g k) (b.map aD))=some ((GA d x c g b).map D.bl):=by
 induction h generalizing k with
 |nil=>intro x b e;cases h';cases b with
  |nil=>rfl
  |cons=>simp at e
 |@cons f c i g p q r m=>
  cases h' with
  |@cons _ _ j s t u n=>
  intro x b e
  cases b with
  |nil=>simp at e
  |cons a b=>
  have o:NY [.val (.lst (Zw (FH d x f i j)) true),.val (aD a)]=some (.bl (decide (a∈(AT d x f).map λl=>l.getD i .non))):=by
   have:=pJ d x f i j a
   simp only[NY,Ze,Ah,AS,AL,AA,AV,this]
  have m:=m n (x+1) b (by simpa using e)
  simp only[CM,GA,AW,Uc,CV,BU,ZC,Zl,BX,Cq,E9,if_true,A4,AZ,AA,o,m,Zb]
def FI(a:List AP)(b:LL)(g:List Nat)(c:List At):Bool:=(GA a 0 b g c).all id
theorem ci(b:List AP){a:LL}{g k:List Nat}(h:Bq a g)(h':Bq a k)(hz:a.length<=4)(c:List At)(e:c.length=a.length):Oa [.val (.lst (CM b 0 a g k)),.val (Al c)]=some (.val (.bl (FI b a g c))):=by
 have f:=pK b h h' 0 c e
 have i:HS [.lst ((GA b 0 a g c).map D.bl)]=some (.bl (FI b a g c)):=by simp only[HS,RW,II];rfl
 have q1:=Zv (Fy (λx y=>D.tup [x,y]) (CM b 0 a g k) (c.map aD)) (by simp[Pt b h h'];omega)
 refine Z9 rfl ?_
 unfold Al
 generalize (GA b 0 a g c).map D.bl=B,c.map aD=S,CM b 0 a g k=L at *
 show NZ [.val (.lst L),.val (.tup S)]=_
 have d:ZS 2 [] [.val (.lst L),.val (.tup S)]=[.no,.no]:=rfl
 simp only[NZ,Zf,ZO,ZD,By,pk,Zb,Zi,ZA,ZL,Hl,DK,d,Be,AS,AL,AA,AV,q1,f,i]
inductive GZ(qs:List AP):Nat->LL->List Nat->List Nat->Prop where
 |nil {x}:GZ qs x [] [] []
 |cons {x ls Ls i g j k}:(∀l∈ls,∀m∈ls,l.getD i .non=m.getD i .non->F2 qs x j l=F2 qs x j m)->GZ qs (x+1) Ls g k->GZ qs x (ls::Ls) (i::g) (j::k)
def MF:L1->At->List At
 |[],_=>[]
 |l::b,a=>if As l=a then l else MF b a
theorem Iu:∀{b:L1}{l:List At},(b.map As).Nodup->l∈b->MF b (As l)=l
 |m::b,l,a,c=>by
  unfold MF
  rcases Br.mp c with rfl|c
  ·rw[if_pos rfl]
  ·rw[AW,EQ]at a
   rw[if_neg (show ¬ As m=As l from λe=>a.1 (by rw[e];exact KJ c))]
   exact Iu a.2 c
def Cz(b:List AP):Nat->LL->List At->List Bool
 |x,c::d,a::e=>ZP b x (MF c a)::Cz b (x+1) d e
 |_,_,_=>[]
def GB(b:List AP):Nat->LL->List Nat->List Nat->List At->List At
 |x,c::d,i::g,j::k,a::e=>(((AT b x c).find? λl=>decide (l.getD i .non=a)).getD []).getD j .non::GB b (x+1) d g k e
 |_,_,_,_,_=>[]
theorem cj(d:List AP){b:LL}{g k:List Nat}(h:Bq b g):∀(x:Nat)(s:List At),A6 b s->GZ d x b g k->GA d x b g (ZU b s g)=Cz d x b s:=by
 induction h generalizing k with
 |nil=>intro x s j _;cases j;rfl
 |@cons v b i g p w y n=>
  intro x s j q
  cases j with
  |@cons _ _ a r t u=>
  cases q with
  |cons n1 n2=>
  have n:=n (x+1) r u n2
  simp only[GA,ZU,Cz,n]
  congr 1
  obtain⟨l,f,rfl⟩:=List.mem_map.mp t
  rw[Iq p.nd f,Iu p.nd f,Io,decide_eq_true_eq]
  constructor
  ·intro z
   obtain⟨m,o,e⟩:=List.mem_map.mp z
   obtain⟨m1,m2⟩:=List.mem_filter.mp o
   have:=n1 m m1 l f e
   unfold F2 at this
   rw[if_pos m2]at this
   cases c:ZP d x l with
   |true=>rfl
   |false=>rw[c]at this;simp at this
  ·intro z
   exact List.mem_map.mpr ⟨l,List.mem_filter.mpr ⟨f,z⟩,rfl⟩
theorem ck(e:List AP){b:LL}{g k:List Nat}(h:Bq b g):∀(x:Nat)(s:List At),A6 b s->GZ e x b g k->(Cz e x b s).all id=true->GB e x b g k (ZU b s g)=ZU b s k:=by
 induction h generalizing k with
 |nil=>intro x s f n _;cases f;cases n;rfl
 |@cons r b i g o y z p=>
  intro x s f n c
  cases f with
  |@cons _ _ a t u v=>
  cases n with
  |@cons _ _ _ _ _ j A n1 n2=>
  simp only[Cz,EA,C7,id]at c
  have p:=p (x+1) t v n2 c.2
  simp only[GB,ZU,p]
  congr 1
  obtain⟨l,d,rfl⟩:=List.mem_map.mp u
  rw[Iu o.nd d]at c
  rw[Iq o.nd d,Iq o.nd d]
  cases q:(AT e x r).find? λm=>decide (m.getD i .non=l.getD i .non)with
  |none=>
   have:=List.find?_eq_none.mp q l (List.mem_filter.mpr ⟨d,c.1⟩)
   simp at this
  |some m=>
   have w:=List.find?_some q
   obtain⟨m1,m2⟩:=List.mem_filter.mp (List.mem_of_find?_eq_some q)
   have:=n1 m m1 l d (by simpa using w)
   unfold F2 at this
   rw[if_pos m2,if_pos c.1]at this
   exact Fm this
theorem pL(c:List AP){b:LL}{g k:List Nat}(h:Bq b g)(h':Bq b k):∀(x:Nat)(s:List At),A6 b s->GZ c x b g k->(Cz c x b s).all id=true->CV (BU 2 (ZC (Zl 0) (ZC (Zl 1) BX))) (λ_=>some true) Mp [.no,.no] (Fy (λx y=>D.tup [x,y]) (CM c x b g k) ((ZU b s g).map aD))=some ((ZU b s k).map aD):=by
 induction h generalizing k with
 |nil=>intro x s o v _;cases o;cases h';rfl
 |@cons d b i g q G H r=>
  intro x s o v f
  cases o with
  |@cons _ _ a w z A=>
  cases h' with
  |@cons _ _ j I J L B=>
  cases v with
  |cons n1 n2=>
  simp only[Cz,EA,C7,id]at f
  have r:=r B (x+1) w A n2 f.2
  have C:Mp [.val (.lst (Zw (FH c x d i j)) true),.val (aD (FG d a i))]=some (aD (FG d a j)):=by
   obtain⟨l,n,rfl⟩:=List.mem_map.mp z
   rw[Iu q.nd n]at f
   rw[Iq q.nd n,Iq q.nd n]
   have:D4 (.lst (Zw (FH c x d i j)) true) (aD (l.getD i .non))=some (aD (l.getD j .non)):=by
    rw[LV,Ip]
    have t:∀p∈FH c x d i j,EG p.1=true:=Mw _ [] (λ_ h=>nomatch h)
    show(if DA (.at (l.getD i .non)) (FH c x d i j)=true then _ else _)=_
    rw[if_pos (Ib _ t)]
    refine bC _ _ (λp E e=>?_) (.inr ⟨(l.getD i .non,aD (l.getD j .non)),List.mem_map.mpr ⟨l,List.mem_filter.mpr ⟨n,f.1⟩,rfl⟩,rfl⟩)
    obtain⟨m,u,rfl⟩:=List.mem_map.mp E
    obtain⟨m1,m2⟩:=List.mem_filter.mp u
    have:=n1 m m1 l n e
    unfold F2 at this
    rw[if_pos m2,if_pos f.1]at this
    show aD (m.getD j .non)=aD (l.getD j .non)
    rw[Fm this]
   simp only[Mp,Ze,Ah,AS,AL,AA,AV,this]
  simp only[CM,ZU,AW,Uc,CV,BU,ZC,Zl,BX,Cq,E9,if_true,A4,AZ,AA,C,r,Zb]
structure FJ(acc:List Bg)(n m:Nat):Prop where
 nd:(Zy acc).Nodup
 len:acc.length<=m
 kl:∀k∈Zy acc,k.length=n
theorem FJ.add{acc:List Bg}{n m:Nat}(h:FJ acc n m){k:List At}(b:k.length=n)(x:Int)(xs:List Int):FJ (CU acc k x xs) n (m+1):=
 ⟨bW h.nd,by have:=bX k x xs acc;have:=h.len;omega,λc a=>by
  rw[Uo]at a
  split at a
  ·exact h.kl _ a
  ·rcases List.mem_append.mp a with z|z
   ·exact h.kl _ z
   ·simp at z;rw[z];exact b⟩
theorem pM(c:List AP){a:LL}{g k:List Nat}{s:List At}(h:Bq a g)(h':Bq a k)(H:GZ c 0 a g k)(has:(Cz c 0 a s).all id=true)(v:A6 a s)(hz:a.length<=4)(e u:Sl)(x:Int)(xs:List Int){acc:List Bg}{n m:Nat}(I:FJ acc n m)(J:m<1000):
  Jn [.val (.lst (CM c 0 a g k)),e,DD vC acc,.val (Al (ZU a s g)),.val (B8 x xs),u]=.next [.val (.lst (CM c 0 a g k)),e,DD vC (CU acc (ZU a s k) x xs),.val (Al (ZU a s g)),.val (B8 x xs),.val (Al (ZU a s k))]:=by
 have i:=ci c h h' hz (ZU a s g) (KN h v)
 unfold FI at i
 rw[cj c h 0 s v H,has]at i
 have M:=pL c h h' 0 s v H has
 have q1:=Zv (Fy (λx y=>D.tup [x,y]) (CM c 0 a g k) ((ZU a s g).map aD)) (by simp[Pt c h h'];omega)
 have N:∀x y z w,ZD Dk (λb=>Zb (Zi (ZA ((ZL 2 [] (Hl (λb=>Be b 0) (λb=>Be b 3)) (BU 2 (ZC (Zl 0) (ZC (Zl 1) BX))) (λ_=>some true) Mp) b))) (some [])) [.val (.lst (CM c 0 a g k)),x,y,.val (Al (ZU a s g)),z,w]=some (Al (ZU a s k)):=by
  intro x y z w
  unfold Al
  generalize (ZU a s g).map aD=S,CM c 0 a g k=L at *
  have A:ZS 2 [] [.val (.lst L),x,y,.val (.tup S),z,w]=[.no,.no]:=rfl
  simp only[ZD,Dk,By,pk,Zb,Zi,ZA,ZL,Hl,DK,A,Be,AS,AL,AA,AV,q1,M]
 generalize ZU a s k=k,ZU a s g=j,CM c 0 a g k=L at *
 have hok:=Uh k
 have l:=Ug vC k acc
 have o:=GX vC k acc
 have q:(acc.map (Z5 vC)).length<AG:=by rw[B1];exact QB I.len (Cg J (by decide))
 have B:=Kk (acc.map (Z5 vC))
 have r:EH false (Al k) (.lst (Zw (acc.map (Z5 vC))) true)=some (.bl (Z4 acc k).isSome):=by
  rw[Xp,hok]
  show(if DA (.tup k) (acc.map (Z5 vC))=true then _ else _)=_
  rw[if_pos l,o,Option.isSome_map]
  cases(Z4 acc k).isSome<;>rfl
 have f:∀d,Ln (some (Z4 acc k).isSome) ((Zq Mb (λb=>Zb (Zi ((Ze D4 (λb=>Ah b 2) (λb=>Ah b 5)) b)) (Zb (An b 4) (some [])))) [.val (.lst L),e,DD vC acc,.val (Al j),.val (B8 x xs),.val (Al k)]) (some (B8 x xs))=some d->Ce (acc.map (Z5 vC)) (.tup k) d=(CU acc k x xs).map (Z5 vC)->Jn [.val (.lst L),e,DD vC acc,.val (Al j),.val (B8 x xs),u]=.next [.val (.lst L),e,DD vC (CU acc k x xs),.val (Al j),.val (B8 x xs),.val (Al k)]:=by
  intro d C E
  unfold DD at *
  have G:=N e (.own (Zw (acc.map (Z5 vC))) true) (.val (B8 x xs)) u
  generalize acc.map (Z5 vC)=KV at *
  generalize (CU acc k x xs).map (Z5 vC)=O at *
  unfold Jn
  have Q:C9 ((Zq Oa (λb=>Zb (An b 0) (Zb (An b 3) (some [])))) [.val (.lst L),e,.own (Zw KV) true,.val (Al j),.val (B8 x xs),u])=some true:=by
   simp only[Zq,Zb,An,AS,AL,AA,AV,i,CZ,C9]
  simp only[Q,ZM,Zf,G,Zx,A4,AZ]
  have T:Ze (EH false) (λb=>Ah b 5) (λb=>Ah b 2) [.val (.lst L),e,.own (Zw KV) true,.val (Al j),.val (B8 x xs),.val (Al k)]=some (.bl (Z4 acc k).isSome):=by
   simp only[Ze,Ah,AS,AL,AA,r]
  have U:Bb [.val (.lst L),e,.own (Zw KV) true,.val (Al j),.val (B8 x xs),.val (Al k)] 4=some (B8 x xs):=rfl
  rw[T,U]
  simp only[AO,AA]
  rw[C]
  simp only[Ia,Ah,EX,AS,AL,A4,AZ,B,hok,l,E,Mz,decide_eq_true q,if_true]
 cases t:Z4 acc k with
 |none=>
  rw[t]at f
  exact f (vC (x,xs)) rfl (pz vC t)
 |some p=>
  rw[t]at f
  refine f (vC (p.1,p.2++x::xs)) ?_ (py vC I.nd t)
  have C:=Uj vC t
  have E:=on p.1 x p.2 xs
  unfold DD
  generalize acc.map (Z5 vC)=KV at *
  simp only[Ln,Option.isSome,Zq,Ze,Zb,Zi,Ah,An,AS,AL,AA,AV,C,E,CZ]
theorem pN(b:List AP){a:LL}{g k:List Nat}(h:Bq a g)(h':Bq a k)(hz:a.length<=4)(k1:List At)(j:k1.length=a.length)(l:FI b a g k1=false)(d e f i:Sl):
  Jn [.val (.lst (CM b 0 a g k)),d,e,.val (Al k1),f,i]=.next [.val (.lst (CM b 0 a g k)),d,e,.val (Al k1),f,i]:=by
 have c:=ci b h h' hz k1 j
 rw[l]at c
 generalize CM b 0 a g k=L at *
 simp only[Jn,Zf,ZM,C9,Zq,Zb,An,AS,AL,AA,AV,c,CZ]
def Tells(b:List AP)(a:LL)(g k:List Nat):Prop:=GZ b 0 a g k\/∀s,A6 a s->(Cz b 0 a s).all id=false/\FI b a g (ZU a s g)=false
theorem Tells.go{b:List AP}{a:LL}{g k:List Nat}(d:Tells b a g k)(h:Bq a g){s:List At}(c:A6 a s):FI b a g (ZU a s g)=(Cz b 0 a s).all id:=by
 rcases d with e|z
 ·unfold FI;rw[cj b h 0 s c e]
 ·rw[(z s c).1,(z s c).2]
theorem Tells.nb{b:List AP}{a:LL}{g k:List Nat}(d:Tells b a g k){s:List At}(e:A6 a s)(c:(Cz b 0 a s).all id=true):GZ b 0 a g k:=by
 rcases d with f|z
 ·exact f
 ·rw[(z s e).1]at c;cases c
abbrev Iv(t:Bg):D:=.tup [Al t.1,B8 t.2.1 t.2.2]
theorem Ut(e:List AP){d:LL}{g k:List Nat}(h:Bq d g)(h':Bq d k)(u:Tells e d g k)(hz:d.length<=4)(l:Sl):∀(f acc:List Bg)(m:Nat)(v w j:Sl),(∀t∈f,∃s,A6 d s/\t.1=ZU d s g)->FJ acc d.length m->m+f.length<1000 ->
  FJ (KP (GB e 0 d g k) (f.filter λt=>FI e d g t.1) acc) d.length (m+f.length)/\∃x y z,Z0 (BU 2 (ZC (Zl 3) (ZC (Zl 4) BX))) Jn (f.map Iv) [.val (.lst (CM e 0 d g k)),l,DD vC acc,v,w,j]=.next [.val (.lst (CM e 0 d g k)),l,DD vC (KP (GB e 0 d g k) (f.filter λt=>FI e d g t.1) acc),x,y,z]
 |[],acc,m,v,w,j,_,o,_=>⟨o,v,w,j,rfl⟩
 |t::f,acc,m,v,w,j,A,o,J=>by
  simp only[Cq]at J
  obtain⟨s,n,B⟩:=A t BC
  have i:=u.go h n
  rw[<- B]at i
  cases p:(Cz e 0 d s).all id with
  |true=>
   have I:=u.nb n p
   have r:=pM e h h' I p n hz l j t.2.1 t.2.2 o (by omega)
   have C:=ck e h 0 s n I p
   rw[<- B]at r C
   rw[<- C]at r
   have E:(GB e 0 d g k t.1).length=d.length:=by rw[C,KN h' n]
   obtain⟨ok,a,b,c,G⟩:=Ut e h h' u hz l f (CU acc (GB e 0 d g k t.1) t.2.1 t.2.2) (m+1) (.val (Al t.1)) (.val (B8 t.2.1 t.2.2)) (.val (Al (GB e 0 d g k t.1))) (λq H=>A q (Bv _ H)) (o.add E _ _) (by omega)
   rw[Uu (by rw[i];exact p)]
   refine⟨by rw[Cq,show m+(f.length+1)=m+1+f.length by omega];exact ok,a,b,c,?_⟩
   simp only[AW,Iv,Z0,BU,ZC,Zl,BX,Cq,E9,if_true,A4,AZ,AA]
   rw[r]
   exact G
  |false=>
   rw[p]at i
   have r:=pN e h h' hz t.1 (by rw[B,KN h n]) i l (DD vC acc) (.val (B8 t.2.1 t.2.2)) j
   obtain⟨ok,a,b,c,G⟩:=Ut e h h' u hz l f acc m (.val (Al t.1)) (.val (B8 t.2.1 t.2.2)) j (λq H=>A q (Bv _ H)) o (by omega)
   rw[Uv (by rw[i];decide)]
   refine⟨⟨ok.nd,by have:=ok.len;rw[Cq];omega,ok.kl⟩,a,b,c,?_⟩
   simp only[AW,Iv,Z0,BU,ZC,Zl,BX,Cq,E9,if_true,A4,AZ,AA]
   rw[r]
   exact G
theorem cm(P:List At->Bool):∀a:List Bg,Cy (a.filter λt=>P t.1)=(Cy a).filter λp=>P p.1
 |[]=>rfl
 |t::a=>by
  have c:=cm P a
  rw[Gz,List.filter_append]
  cases h:P t.1 with
  |true=>
   rw[Uu (p:=λt:Bg=>P t.1) h,Gz,c]
   congr 1
   rw[List.filter_eq_self.mpr]
   intro p b
   obtain⟨y,_,rfl⟩:=List.mem_map.mp b
   exact h
  |false=>
   rw[Uv (p:=λt:Bg=>P t.1) (by show ¬ P t.1=true;rw[h];decide),c]
   have:((t.2.1::t.2.2).map λx=>(t.1,x)).filter (λp=>P p.1)=[]:=by
    rw[List.filter_eq_nil_iff]
    intro p b
    obtain⟨y,_,rfl⟩:=List.mem_map.mp b
    show ¬ P t.1=true
    rw[h];decide
   rw[this];rfl
def DP(b:List AP)(c:LL)(a:List (List At×Int)):List (List At×Int):=a.filter λr=>(Cz b 0 c r.1).all id
theorem pO{d:LL}{g:List Nat}{a:List (List At×Int)}{c:List Bg}(h:∀r∈a,A6 d r.1)(b:(Cy c).Perm (a.map λr=>(ZU d r.1 g,r.2))):(∀t∈c,∃s,A6 d s/\t.1=ZU d s g)/\c.length<=a.length:=by
 refine⟨λt i=>?_,?_⟩
 ·obtain⟨r,f,e⟩:=List.mem_map.mp (b.mem_iff.mp (List.mem_flatMap.mpr ⟨t,i,List.mem_map.mpr ⟨t.2.1,BC,rfl⟩⟩))
  exact⟨r.1,h r f,(congrArg Prod.fst e).symm⟩
 ·have:=b.length_eq
  rw[B1]at this
  rw[<- this]
  clear this b
  induction c with
  |nil=>exact Gj _
  |cons t c j=>rw[Gz,Ge,B1,Cq,Cq];omega
theorem pP(c:List AP){b:LL}{g k:List Nat}(h:Bq b g)(i:Tells c b g k)(a:List (List At×Int))(e:∀r∈a,A6 b r.1)(j:List Bg)(f:(Cy j).Perm (a.map λr=>(ZU b r.1 g,r.2)))(n2:(Zy (CT b k (DP c b a) [])).Nodup):C0 (KP (GB c 0 b g k) (j.filter λt=>FI c b g t.1) [])=C0 (CT b k (DP c b a) []):=by
 refine pB (ce _ _ _ (by simp[Zy])) n2 ?_
 refine(cc _ _ _).trans ?_
 have l:Cy []=[]:=rfl
 rw[l,Fp,cm (FI c b g)]
 refine((f.filter _).map _).trans ?_
 refine List.Perm.trans ?_ (Us b k (DP c b a) []).symm
 rw[l,Fp,List.filter_map,Db]
 unfold DP
 have o:a.filter ((λp:List At×Int=>FI c b g p.1)∘λr=>(ZU b r.1 g,r.2))=a.filter λr=>(Cz c 0 b r.1).all id:=List.filter_congr λr d=>i.go h (e r d)
 rw[o]
 refine List.Perm.of_eq (List.map_congr_left λr d=>?_)
 obtain⟨m,n⟩:=List.mem_filter.mp d
 show(GB c 0 b g k (ZU b r.1 g),r.2)=(ZU b r.1 k,r.2)
 rw[ck c h 0 r.1 (e r m) (i.nb (e r m) n) n]
theorem cp(j:List AP){i:LL}{g k:List Nat}(h:Bq i g)(h':Bq i k)(E:Tells j i g k)(G:0<i.length)(hz:i.length<=4)(f:List (List At×Int))(s:∀r∈f,A6 i r.1)(H:f.length<64)(m:List Bg)(n:(Cy m).Perm (f.map λr=>(ZU i r.1 g,r.2))):OV [.val (.lst (CM j 0 i g k)),.val (.lst (m.map Iv))]=some (.own (C0 (CT i k (DP j i f) []))):=by
 have M:(DP j i f).length<=f.length:=Pl _ _
 have u:=(MD h' hz (DP j i f) (λr v=>s r (List.mem_filter.mp v).1) (by omega)).2
 rw[<- pP j h E f s m n u.nd]
 obtain⟨w,N⟩:=pO s n
 obtain⟨ok,a,b,c,e⟩:=Ut j h h' E hz (.val (.lst (m.map Iv))) m [] 0 .no .no .no w ⟨by simp[Zy],by simp,λk A=>nomatch A⟩ (by omega)
 rw[GY]at ok
 generalize KP (GB j 0 i g k) (m.filter λt=>FI j i g t.1) []=d at *
 have B:(Zy d).length<64:=by unfold Zy;rw[B1];have:=ok.len;omega
 have I:=bc (.val (.lst ((Zy d).map Al))) (Zy d) (.inl rfl) B λl H=>by
  have:=ok.kl l H
  exact⟨λz=>by rw[z]at this;simp at this;omega,by omega⟩
 rw[TW _ _ ((Fg BP _).nodup_iff.mpr ok.nd) (λ_ e=>by cases e),<- bL vC]at I
 have O:=D6 (b:=Zl 0) (e:=Tl) (ρ:=[.no,.lent (Zw (d.map (Z5 vC))) true]) Al (λk=>.tup [Al k,vC ((Z4 d k).getD (0,[]))]) (Z3 BP (Zy d)) λk A=>⟨[.val (Al k),.lent (Zw (d.map (Z5 vC))) true],rfl,by
  obtain⟨p,J⟩:=Pr A
  have Q:=Uj vC J
  have q:Zn (some [Al k,vC p])=some [Al k,vC p]:=Zv _ (by simp)
  rw[J]
  simp only[Tl,Zb,Zi,Zt,Ze,Ah,Bb,AS,AL,AA,AV,Q,q,Option.getD]⟩
 have q1:=Zv ((Z3 BP (Zy d)).map Al) (by rw[B1,(Fg _ _).length_eq];omega)
 have o:=mq (d.map (Z5 vC))
 have G:DD vC []=.own [] true:=rfl
 rw[G]at e
 unfold DD at e
 unfold C0
 refine Z9 rfl ?_
 generalize CM j 0 i g k=L,m.map Iv=R,d.map (Z5 vC)=KV,(Z3 BP (Zy d)).map Al=W,(Z3 BP (Zy d)).map (λk=>D.tup [Al k,vC ((Z4 d k).getD (0,[]))])=T at *
 show OU [.val (.lst L),.val (.lst R),.no,.no,.no,.no]=_
 have C:∀x y z,ZS 1 [2] [.val (.lst L),.val (.lst R),.own (Zw KV) true,x,y,z]=[.no,.lent (Zw KV) true]:=λ_ _ _=>rfl
 simp only[OU,Zf,EY,BS,Be,Zz,B3,ZL,C,An,Cv,By,pk,Zq,Zb,Zi,ZA,AS,AL,A4,AZ,AA,AV,e,o,I,Dd,q1,O]
theorem cq(c:List AP){a:LL}{g k:List Nat}(h:Bq a g)(h':Bq a k):∀x,(∀(n:Nat)(b:L1),a[n]?=some b->∀l∈b,∀m∈b,l.getD (g.getD n 0) .non=m.getD (g.getD n 0) .non->F2 c (x+n) (k.getD n 0) l=F2 c (x+n) (k.getD n 0) m)->GZ c x a g k:=by
 induction h generalizing k with
 |nil=>intro x _;cases h';exact .nil
 |@cons b a i g s t u p=>
  cases h' with
  |@cons _ _ j v w y q=>
  intro x z
  refine .cons (λl d m f e=>by simpa using z 0 b rfl l d m f (by simpa using e)) (p q (x+1) λn o r l d m f e=>?_)
  have:=z (n+1) o (by simpa using r) l d m f (by simpa using e)
  rw[show x+1+n=x+(n+1) by omega]
  simpa using this
theorem pQ(b:List AP){d:LL}{g:List Nat}(h:Bq d g):∀(x n:Nat)(f:L1),d[n]?=some f->AT b (x+n) f=[]->∀s,A6 d s->(Cz b x d s).all id=false/\(GA b x d g (ZU d s g)).all id=false:=by
 induction h with
 |nil=>intro x n f e;simp at e
 |@cons f d i g o y z p=>
  intro x n j e k s q
  cases q with
  |@cons _ _ a r t u=>
  cases n with
  |zero=>
   simp at e;subst e
   obtain⟨l,m,rfl⟩:=List.mem_map.mp t
   have v:ZP b x l=false:=by
    cases c:ZP b x l with
    |false=>rfl
    |true=>
     have:l∈AT b (x+0) f:=List.mem_filter.mpr ⟨m,c⟩
     rw[k]at this
     exact nomatch this
   simp only[Cz,GA,ZU,EA,id]
   rw[Iu o.nd m,v]
   have w:AT b x f=[]:=k
   rw[w]
   exact⟨rfl,rfl⟩
  |succ n=>
   have:=p (x+1) n j (by simpa using e) (by rw[show x+1+n=x+(n+1) by omega];exact k) r u
   simp only[Cz,GA,ZU,EA,id]
   rw[this.1,this.2]
   simp
theorem pR(b:List AP){a:LL}{g k:List Nat}(h:Bq a g)(h':Bq a k)(z:F3 (CJ a) b=true\/∀t,¬ Jv (CJ a) g k b t):Tells b a g k:=by
 rcases z with z|z
 ·unfold F3 at z
  rw[List.any_eq_true]at z
  obtain⟨x,d,e⟩:=z
  rw[ME]at d
  have d:=List.mem_range.mp d
  have i:((CJ a).getD x (0,[])).2=a[x]:=by simp[CJ,CL,d]
  rw[i]at e
  refine .inr λs j=>?_
  have:=pQ b h 0 x a[x] (Cu d) (by rw[GY];exact List.isEmpty_iff.mp e) s j
  exact⟨this.1,this.2⟩
 ·refine .inl (cq b h h' 0 λn f o l p m q e=>?_)
  rw[GY]
  refine Classical.byContradiction λc=>z (n,As l,As m) ⟨EK f,f,l,m,?_,p,q,?_,rfl,rfl⟩
  ·rw[KQ,o];rfl
  ·unfold MB
   rw[C7,decide_eq_true_eq]
   refine⟨e,?_⟩
   rw[Nx,decide_eq_false_iff_not]
   exact c
theorem Pu(d:D)(b:Bool)(h:isN d=b):Gk (some d)=some b:=by rw[<- h];rfl
theorem pS(c:List AP){b:LL}{g k:List Nat}(h:Bq b g)(h':Bq b k)(m:∀n∈b,BZ n)(o:0<b.length)(hz:b.length<=4)(p:∀q∈c,FE (CJ b) q)(z:F3 (CJ b) c=true\/∀t,¬ Jv (CJ b) g k c t)(f:Gu [.val (LD (CJ b)),.val (GD g),.val (GD k),.val (.lst (c.map AQ))]=some (.val .non))(a:List (List At×Int))(i:∀r∈a,A6 b r.1)(j:a.length<64):
  O3 [.val (.lst (b.map AC)),.val (.lst (C0 (CT b g a []))),.val (A7 g),.val (A7 k),.val (.lst (c.map AQ))]=some (.own (C0 (CT b k (DP c b a) []))):=by
 have d:=(MD h hz a i j).2
 have l:=cp c h h' (pR c h h' z) o hz a i j (KO (CT b g a [])) ((pE d.nd).trans (by simpa[Cy]using Us b g a []))
 rw[<- bT]at l
 have s:=pI h h' m hz c λq e=>(p q e).1
 rw[Ps,KR,KR]at f
 have u:=Pu .non true rfl
 generalize C0 (CT b g a [])=T at *
 generalize C0 (CT b k (DP c b a) [])=v at *
 generalize c.map AQ=Q,b.map AC=L,CM c 0 b g k=W at *
 refine Z9 rfl ?_
 show O2 [.val (.lst L),.val (.lst T),.val (A7 g),.val (A7 k),.val (.lst Q)]=_
 simp only[O2,Zf,ZM,C8,B3,An,FW,Zq,Zb,Zi,AS,AL,AA,AV,f,CZ,u,s,Dd,l,Lq,Gw]
theorem pT(s0 a b c d:Sl):TB [s0,a,b,c,d,.exc "NoGrain"]=.ret (.val (.bl true)):=by
 have e:CS.contains "NoGrain"=true:=by decide +kernel
 have f:L5 "ValueError" "NoGrain"=true:=by decide +kernel
 simp only[TB,Zf,ZO,NM,AS,AL,e,if_true,f]
theorem pU(L T:List D)(g k:List Nat)(Q:List D)(t:Nat×At×At)(a:Gu [.val (.lst L),.val (A7 g),.val (A7 k),.val (.lst Q)]=some (.val (EJ t))):TC [.val (.lst L),.val (.lst T),.val (A7 g),.val (A7 k),.val (.lst Q)]=some (.val (.bl true)):=by
 have b:=Pu (EJ t) false rfl
 have c:Tz [.val (.lst L),.val (.lst T),.val (A7 g),.val (A7 k),.val (.lst Q)]=some ("NoGrain":Ae):=by
  show O4 [.val (.lst L),.val (.lst T),.val (A7 g),.val (A7 k),.val (.lst Q)]=_
  simp only[O4,Ry,C8,RB,Zq,Zb,Zi,An,AS,AL,AA,AV,a,CZ,b,KG]
 have d:CS.contains "NoGrain"=true:=by decide +kernel
 refine Z9 rfl ?_
 show O5 [.val (.lst L),.val (.lst T),.val (A7 g),.val (A7 k),.val (.lst Q),.no]=_
 simp only[O5,NK,X2,c,d,if_pos,pT,Zf,Zb,An,AS,AL,A4,AZ,AA]
def FK(a:LL):List Nat:=a.map λ_=>0
theorem cr:∀{a:LL},(∀b∈a,BZ b)->Bq a (FK a)
 |[],_=>.nil
 |b::a,h=>.cons (h b BC) (λ_ _=>Gj _) (cr λm c=>h m (Bv _ c))
theorem pV{b:LL}{s:List At}(e:∀c∈b,BZ c)(f:A6 b s):ZU b s (FK b)=s:=by
 induction f with
 |nil=>rfl
 |@cons c b a g h j i=>
  obtain⟨l,d,rfl⟩:=List.mem_map.mp h
  show FG c (As l) 0::ZU b g (FK b)=_
  rw[i λm d=>e m (Bv _ d),Iq (e c BC).nd d];rfl
theorem pW(x:Nat){a:LL}{s:List At}(b:A6 a s):(Cz [] x a s).all id=true:=by
 induction b generalizing x with
 |nil=>rfl
 |cons d e c=>exact c (x+1)
theorem pX{a:L1}(f:BZ a)(x i j:Nat):Sj [.val (AC a),.val (.int (i:Int)),.val (.int (j:Int))]=some (.own (Zw (FH [] x a i j)) true):=by
 have t:=f.few
 have g:=f.four
 have q1:Zn (some (a.map Al))=some (a.map Al):=Zv _ (by simp;omega)
 have k:=D6 (b:=Zl 0) (e:=Sh) (ρ:=[.no,.val (.int (i:Int)),.val (.int (j:Int))]) Al (λl=>.tup [aD (l.getD i .non),aD (l.getD j .non)]) a λl m=>⟨[.val (Al l),.val (.int (i:Int)),.val (.int (j:Int))],rfl,by
  have o:=Jt l j (by have:=g l m;omega)
  have q:=Jt l i (by have:=g l m;omega)
  have c:Zn (some [aD (l.getD i .non),aD (l.getD j .non)])=some [aD (l.getD i .non),aD (l.getD j .non)]:=Zv _ (by simp)
  simp only[Sh,Zq,Zb,Zi,Zt,An,AS,AL,AA,AV,q,o,CZ,c]⟩
 have n:=Mv (a.map λl=>(l.getD i .non,aD (l.getD j .non))) [] (λ_ h=>nomatch h) (by simp;omega)
 rw[Db]at n
 have r:(a.map λl=>D.tup [aD (l.getD i .non),aD (l.getD j .non)])=a.map ((λp=>D.tup [aD p.1,p.2])∘λl=>(l.getD i .non,aD (l.getD j .non))):=rfl
 rw[r]at k
 have s:AT [] x a=a:=List.filter_eq_self.mpr λ_ _=>rfl
 unfold AC FH
 rw[s]
 generalize a.map Al=L,a.map ((λp=>D.tup [aD p.1,p.2])∘λl=>(l.getD i .non,aD (l.getD j .non)))=PS,De [] (a.map λl=>(l.getD i .non,aD (l.getD j .non)))=KV at *
 refine Z9 rfl ?_
 have d:ZS 1 [1,2] [.val (.lst L),.val (.int (i:Int)),.val (.int (j:Int))]=[.no,.val (.int (i:Int)),.val (.int (j:Int))]:=rfl
 show Oo [.val (.lst L),.val (.int (i:Int)),.val (.int (j:Int))]=_
 simp only[Oo,Zf,Hd,GV,ZA,ZL,d,Be,Zz,AL,AA,AV,q1,k,n]
theorem pY(a:LL)(hz:a.length<=4):R0 [.val (.lst (a.map AC))]=some (.val (A7 (FK a))):=by
 have d:=D6 (b:=Zl 0) (e:=Yh) (ρ:=[.no]) AC (λ_=>D.int 0) a λl _=>⟨[.val (AC l)],rfl,rfl⟩
 have q1:Zn (some (a.map AC))=some (a.map AC):=Zv _ (by simp;omega)
 have f:A7 (FK a)=.tup (a.map λ_=>D.int 0):=by unfold A7 FK;rw[Db];rfl
 rw[f]
 generalize a.map AC=L at *
 refine Z9 rfl ?_
 show NW [.val (.lst L)]=_
 have c:ZS 1 [] [.val (.lst L)]=[.no]:=rfl
 simp only[NW,Zf,ZO,ZD,Dk,By,pk,Zb,Zi,ZA,ZL,c,Be,Zz,AL,AA,AV,q1,d]
theorem pZ{a:LL}{g k:List Nat}(h:Bq a g)(h':Bq a k)(hz:a.length<=4):Ta [.val (.lst (a.map AC)),.val (A7 g),.val (A7 k)]=some (.own (CM [] 0 a g k)):=by
 have d:=MC (e:=SY) [.val (A7 g),.val (A7 k)] AC a 0 (CM [] 0 a g k) (Pt [] h h' 0).symm λn f y l c=>by
  obtain⟨i,j,m,o,p,w1⟩:=cg [] h h' 0 n f l
  rw[w1]at c;cases c
  have a1:=Pq m
  have a2:=Pq o
  have a3:=pX p (0+n) i j
  rw[GY]at a3 ⊢
  simp only[SY,Zq,Ze,Zb,Zi,An,Ah,AS,AL,AA,AV,a1,a2,a3,Dd]
 have q1:Zn (some (CK 0 (a.map AC)))=some (CK 0 (a.map AC)):=Zv _ (by rw[Ja];simp;omega)
 generalize a.map AC=L at *
 refine Z9 rfl ?_
 show OF [.val (.lst L),.val (A7 g),.val (A7 k)]=_
 have b:ZS 2 [1,2] [.val (.lst L),.val (A7 g),.val (A7 k)]=[.no,.no,.val (A7 g),.val (A7 k)]:=rfl
 simp only[OF,Zf,B3,ZL,DM,DK,b,Be,AL,AA,AV,q1,d]
theorem p4(x:Int):NX [.val (.lst [.int x])]=some (.val (B8 x [])):=by
 have a:DY [D.int x]=some [x]:=rfl
 simp[NX,Bn,R5,B8,a,J9,LI,Jr]
theorem p5{c:LL}{g:List Nat}(h:Bq c g)(j:∀k∈c,BZ k)(u:0<c.length)(hz:c.length<=4)(a:List (List At×Int))(d:∀r∈a,A6 c r.1)(f:a.length<64):Ts [.val (.lst (c.map AC)),.val (.lst (a.map BL)),.val (A7 g)]=some (.own (C0 (CT c g a []))):=by
 have o:=cr j
 have v:Tells [] c (FK c) g:=.inl (cq [] o h 0 λn k t l f m i e=>by
  have w:(FK c).getD n 0=0:=by unfold FK;rw[CL,C1,t];rfl
  rw[w]at e
  rw[Pn (j k (Ei t)).nd f i e])
 have x:Cy (a.map λr=>(r.1,r.2,[]))=a.map λr=>(ZU c r.1 (FK c),r.2):=by
  unfold Cy
  rw[List.flatMap_map]
  clear f
  induction a with
  |nil=>rfl
  |cons r a y=>
   rw[List.flatMap_cons,y λq z=>d q (Bv _ z)]
   show(r.1,r.2)::_=(ZU c r.1 (FK c),r.2)::_
   rw[pV j (d r BC)];rfl
 have i:=cp [] o h v u hz a d f (a.map λr=>(r.1,r.2,[])) (.of_eq x)
 have A:DP [] c a=a:=List.filter_eq_self.mpr λr p=>pW 0 (d r p)
 rw[A,Db]at i
 have B:=pZ o h hz
 have C:=pY c hz
 have E:=D6 (b:=BU 2 (ZC (Zl 0) (ZC (Zl 1) BX))) (e:=Tr) (ρ:=[.no,.no]) BL (Iv∘λr=>(r.1,r.2,[])) a λr _=>⟨[.val (Al r.1),.val (.int r.2)],rfl,by
  have G:=p4 r.2
  have H:Zn (some [D.int r.2])=some [D.int r.2]:=Zv _ (by simp)
  have I:Zn (some [Al r.1,B8 r.2 []])=some [Al r.1,B8 r.2 []]:=Zv _ (by simp)
  simp only[Tr,Zq,Zb,Zi,Zt,ZA,Bb,AS,AL,AA,AV,H,G,CZ,I,Function.comp]⟩
 have q1:Zn (some (a.map BL))=some (a.map BL):=Zv _ (by simp;omega)
 generalize c.map AC=L,A7 (FK c)=Z,CM [] 0 c (FK c) g=W,a.map BL=R,a.map (Iv∘λr=>(r.1,r.2,[]))=TS,C0 (CT c g a [])=T at *
 refine Z9 rfl ?_
 show OX [.val (.lst L),.val (.lst R),.val (A7 g),.no]=_
 have s:ZS 2 [] [.val (.lst L),.val (.lst R),.val (A7 g),.no]=[.no,.no]:=rfl
 simp only[OX,Zf,Zx,B3,FW,Zq,Zb,Zi,ZA,ZL,s,Zz,Be,An,AS,AL,A4,AZ,AA,AV,q1,E,C,CZ,B,Dd,i,Lq]
theorem Uw(a b:Int):CH (.int a) (.int b)=some (.bl (decide (a=b))):=by simp
theorem cu(l:List At)(b:l.length<=1000)(j:Nat)(a:j<=l.length):ZJ (Al l) (.tup [.non])=some (Al (l++[.non]))/\Aw (Al (l++[.non])) (.int (j:Int))=some (aD (l.getD j .non)):=by
 refine⟨?_,?_⟩
 ·unfold Al
  rw[Yg _ _ (by simp;omega)]
  simp[aD]
 ·show atI ((l++[At.non]).map aD) (j:Int)=_
  refine DV ?_
  rw[C1]
  by_cases a:j<l.length
  ·rw[Lc a,Cu a]
   simp[CL,a]
  ·have:j=l.length:=by omega
   subst this
   simp[CL]
theorem p6(s0 b c d e f g h i:Sl)(q:AP):BU 3 (ZC (Zl 6) (ZC (Zl 7) (ZC (Zl 8) BX))) (AQ q) [s0,b,c,d,e,f,g,h,i]=some [s0,b,c,d,e,f,.val (.int (q.a:Int)),.val (.int (q.lv:Int)),.val (Dw q)]:=rfl
theorem Pw(s0 i j:Sl)(x:Nat)(l:List At)(k:l.length<=1000):∀(g:List AP)(b:Bool)(t u v:Sl),(∀q∈g,q.a=x->q.lv<=l.length)->∃c d f,Z0 (BU 3 (ZC (Zl 6) (ZC (Zl 7) (ZC (Zl 8) BX)))) Il (g.map AQ) [s0,i,.val (.int (x:Int)),j,.val (Al l),.val (.bl b),t,u,v]=.next [s0,i,.val (.int (x:Int)),j,.val (Al l),.val (.bl (b&&ZP g x l)),c,d,f]
 |[],b,t,u,v,_=>⟨t,u,v,by simp[Z0,ZP]⟩
 |q::g,b,t,u,v,w=>by
  have n:=Uw (q.a:Int) (x:Int)
  simp only[AW,Z0,p6]
  by_cases h:q.a=x
  ·rw[decide_eq_true (by omega)]at n
   have y:=cu l k q.lv (w q BC h)
   have o:Zn (some [D.non])=some [D.non]:=Zv _ (by simp)
   have m:=oM (l.getD q.lv .non) q
   by_cases z:l.getD q.lv .non∈q.vs
   ·rw[decide_eq_true z]at m
    obtain⟨c,d,f,e⟩:=Pw s0 i j x l k g b (.val (.int (q.a:Int))) (.val (.int (q.lv:Int))) (.val (Dw q)) (λp r=>w p (Bv _ r))
    refine⟨c,d,f,?_⟩
    have s:Il [s0,i,.val (.int (x:Int)),j,.val (Al l),.val (.bl b),.val (.int (q.a:Int)),.val (.int (q.lv:Int)),.val (Dw q)]=.next [s0,i,.val (.int (x:Int)),j,.val (Al l),.val (.bl b),.val (.int (q.a:Int)),.val (.int (q.lv:Int)),.val (Dw q)]:=by
     generalize aD (l.getD q.lv .non)=T,Dw q=V at *
     simp only[Il,n,o,y.1,y.2,m,EU,Gw,Zf,ZM,AO,Ze,Ch,Ah,Bb,An,Zq,Zb,Zi,Zt,ZA,ZD,Cv,By,pk,Cb,Zx,ZO,AS,AL,A4,AZ,AA,AV]
    rw[s]
    refine e.trans ?_
    have:ZP (q::g) x l=ZP g x l:=by
     unfold ZP
     rw[EA,if_pos h,decide_eq_true z,Mz]
    rw[this]
   ·rw[decide_eq_false z]at m
    obtain⟨c,d,f,e⟩:=Pw s0 i j x l k g false (.val (.int (q.a:Int))) (.val (.int (q.lv:Int))) (.val (Dw q)) (λp r=>w p (Bv _ r))
    refine⟨c,d,f,?_⟩
    have s:Il [s0,i,.val (.int (x:Int)),j,.val (Al l),.val (.bl b),.val (.int (q.a:Int)),.val (.int (q.lv:Int)),.val (Dw q)]=.next [s0,i,.val (.int (x:Int)),j,.val (Al l),.val (.bl false),.val (.int (q.a:Int)),.val (.int (q.lv:Int)),.val (Dw q)]:=by
     generalize aD (l.getD q.lv .non)=T,Dw q=V at *
     simp only[Il,n,o,y.1,y.2,m,EU,KG,Zf,ZM,AO,Ze,Ch,Ah,Bb,An,Zq,Zb,Zi,Zt,ZA,ZD,Cv,By,pk,Cb,Zx,ZO,AS,AL,A4,AZ,AA,AV]
    rw[s]
    refine e.trans ?_
    have:ZP (q::g) x l=false:=by
     unfold ZP
     rw[EA,if_pos h,decide_eq_false z,Bool.false_and]
    rw[this]
    simp
  ·rw[decide_eq_false (by omega)]at n
   obtain⟨c,d,f,e⟩:=Pw s0 i j x l k g b (.val (.int (q.a:Int))) (.val (.int (q.lv:Int))) (.val (Dw q)) (λp r=>w p (Bv _ r))
   refine⟨c,d,f,?_⟩
   have s:Il [s0,i,.val (.int (x:Int)),j,.val (Al l),.val (.bl b),.val (.int (q.a:Int)),.val (.int (q.lv:Int)),.val (Dw q)]=.next [s0,i,.val (.int (x:Int)),j,.val (Al l),.val (.bl b),.val (.int (q.a:Int)),.val (.int (q.lv:Int)),.val (Dw q)]:=by
    generalize Dw q=V at *
    simp only[Il,n,EU,Zf,ZM,AO,Ze,Ch,Ah,Bb,An,Zq,Zb,Zi,Zt,ZA,ZD,Cv,By,pk,Cb,Zx,ZO,AS,AL,A4,AZ,AA,AV]
   rw[s]
   refine e.trans ?_
   have:ZP (q::g) x l=ZP g x l:=by
    unfold ZP
    rw[EA,if_neg h,Mz]
   rw[this]
theorem Ux(s0:Sl)(x w:Nat)(b:List AP)(v:∀q∈b,q.a=x->q.lv<=w)(o:w<=4):∀(la:L1)(acc:List At)(r n j k m:Sl),(∀l∈la,l.length=w/\l≠[])->acc.length+la.length<=1000->∃d f g h i,Z0 (Zl 4) Ku (la.map Al) [s0,.val (.lst (b.map AQ)),.val (.int (x:Int)),.own (acc.map aD),r,n,j,k,m]=.next [s0,.val (.lst (b.map AQ)),.val (.int (x:Int)),.own ((acc++(la.filter (ZP b x)).map As).map aD),d,f,g,h,i]
 |[],acc,r,n,j,k,m,_,_=>⟨r,n,j,k,m,by simp[Z0]⟩
 |l::la,acc,r,n,j,k,m,z,I=>by
  simp only[Cq]at I
  obtain⟨B,C⟩:=z l BC
  obtain⟨s,t,u,p⟩:=Pw s0 (.val (.lst (b.map AQ))) (.own (acc.map aD)) x l (by omega) b true j k m (λq J L=>by rw[B];exact v q J L)
  rw[Mz]at p
  have M:=Hv l C
  have E:(acc.map aD).length<AG:=Cg (show(acc.map aD).length<1000 by simp;omega) (by decide)
  simp only[AW,Z0,Zl,A4,AZ]
  cases c:ZP b x l with
  |true=>
   rw[c]at p
   obtain⟨d,f,g,h,i,e⟩:=Ux s0 x w b v o la (acc++[As l]) (.val (Al l)) (.val (.bl true)) s t u (λy G=>z y (Bv _ G)) (by simp;omega)
   refine⟨d,f,g,h,i,?_⟩
   have H:Ku [s0,.val (.lst (b.map AQ)),.val (.int (x:Int)),.own (acc.map aD),.val (Al l),n,j,k,m]=.next [s0,.val (.lst (b.map AQ)),.val (.int (x:Int)),.own ((acc++[As l]).map aD),.val (Al l),.val (.bl true),s,t,u]:=by
    rw[Ea,AW,CA]
    generalize aD (As l)=T,acc.map aD=A,b.map AQ=Q at *
    simp only[Ku,BS,Be,Zz,p,C9,M,C6,Cn,E,if_true,Zf,ZM,AO,Ze,Ch,Ah,Bb,An,Zq,Zb,Zi,Zt,ZA,ZD,Cv,By,pk,Cb,Zx,ZO,AS,AL,A4,AZ,AA,AV]
   rw[H]
   refine e.trans ?_
   rw[Uu c,AW,Ig]
   rfl
  |false=>
   rw[c]at p
   obtain⟨d,f,g,h,i,e⟩:=Ux s0 x w b v o la acc (.val (Al l)) (.val (.bl false)) s t u (λy G=>z y (Bv _ G)) (by omega)
   refine⟨d,f,g,h,i,?_⟩
   have H:Ku [s0,.val (.lst (b.map AQ)),.val (.int (x:Int)),.own (acc.map aD),.val (Al l),n,j,k,m]=.next [s0,.val (.lst (b.map AQ)),.val (.int (x:Int)),.own (acc.map aD),.val (Al l),.val (.bl false),s,t,u]:=by
    generalize acc.map aD=A,b.map AQ=Q at *
    simp only[Ku,BS,Be,Zz,p,C9,Zf,ZM,AO,Ze,Ch,Ah,Bb,An,Zq,Zb,Zi,Zt,ZA,ZD,Cv,By,pk,Cb,Zx,ZO,AS,AL,A4,AZ,AA,AV]
   rw[H]
   refine e.trans ?_
   rw[Uv (by rw[c];decide)]
theorem p7{i:List (Nat×L1)}(h:Pm i)(j:List AP)(s:∀q∈j,FE i q)(x w:Nat)(la:L1)(n:i[x]?=some (w,la)):Md [.val (LD i),.val (.lst (j.map AQ)),.val (.int (x:Int))]=some (.own (((la.filter (ZP j x)).map As).map aD)):=by
 have k:=Ei n
 have g:=h.la _ k
 have t:=h.l8 _ k
 have u:=br n
 obtain⟨a,b,c,d,f,e⟩:=Ux (.val (LD i)) x w j (λq k v=>by
  obtain⟨_,p,r,m⟩:=s q k
  rw[v,n]at r
  cases r
  exact m) g.w4 la [] .no .no .no .no .no (λl m=>⟨g.len l m,λz=>by have:=g.len l m;have:=g.w0;rw[z]at *;simp at *;omega⟩) (by simp;dsimp only at t;omega)
 rw[CA,KD]at e
 have o:Zn (some ([]:List D))=some []:=rfl
 generalize j.map AQ=Q,LD i=L,la.map Al=y,((la.filter (ZP j x)).map As).map aD=S at *
 refine Z9 rfl ?_
 show Ol [.val L,.val (.lst Q),.val (.int (x:Int)),.no,.no,.no,.no,.no,.no]=_
 simp only[Ol,Di,o,u,BS,Zz,e,Cn,B3,Zf,ZM,AO,Ze,Ch,Ah,Bb,An,Zq,Zb,Zi,Zt,ZA,ZD,Cv,By,pk,Cb,Zx,ZO,AS,AL,A4,AZ,AA,AV]
theorem cv{a:LL}(d:∀b∈a,BZ b)(e:0<a.length)(hz:a.length<=4)(c:List AP)(f:∀q∈c,FE (CJ a) q)(x:Nat)(b:L1)(g:a[x]?=some b):Md [.val (.lst (a.map AC)),.val (.lst (c.map AQ)),.val (.int (x:Int))]=some (.own (((AT c x b).map As).map aD)):=by
 have:=p7 (cf d e hz) c f x (EK b) b (by rw[KQ,g];rfl)
 rw[Ps]at this
 exact this
theorem cw(b:List AP){a:LL}{s:List At}(c:A6 a s):∀x,(Cz b x a s).length=a.length:=by
 induction c with
 |nil=>exact λ_=>rfl
 |cons _ _ d=>intro x;simp[Cz,d]
theorem Uy(f:List AP){d:LL}{s:List At}(h:A6 d s):∀(x n:Nat)(a:At),s[n]?=some a->∃c,d[n]?=some c/\a∈c.map As/\(Cz f x d s)[n]?=some (ZP f (x+n) (MF c a)):=by
 induction h with
 |nil=>intro x n a e;simp at e
 |@cons c d a o i p j=>
  intro x n b e
  cases n with
  |zero=>simp at e;subst e;exact⟨c,rfl,i,rfl⟩
  |succ n=>
   obtain⟨l,k,m,g⟩:=j (x+1) n b (by simpa using e)
   rw[show x+1+n=x+(n+1) by omega]at g
   exact⟨l,k,m,g⟩
theorem p8(c:List AP)(a:LL)(x:Nat)(d:L1)(e:a[x]?=some d):Aw (.lst ((Ba a.length).map λx=>D.lst (((AT c x (a.getD x [])).map As).map aD))) (.int (x:Int))=some (.lst (((AT c x d).map As).map aD)):=by
 have b:x<a.length:=(List.getElem?_eq_some_iff.mp e).1
 show atI _ (x:Int)=_
 refine DV ?_
 rw[C1,Ng b]
 simp[CL,e]
theorem p9{a:LL}(d:∀f∈a,BZ f)(g:0<a.length)(hz:a.length<=4)(b:List AP)(h:∀q∈b,FE (CJ a) q):CV (Zl 0) (λ_=>some true) Tf [.no,.val (.lst (a.map AC)),.val (.lst (b.map AQ))] ((Ba a.length).map λ(k:Nat)=>D.int (k:Int))=some ((Ba a.length).map λx=>D.lst (((AT b x (a.getD x [])).map As).map aD)):=
 D6 (λ(k:Nat)=>D.int (k:Int)) (λx=>D.lst (((AT b x (a.getD x [])).map As).map aD)) (Ba a.length) λx c=>⟨[.val (.int (x:Int)),.val (.lst (a.map AC)),.val (.lst (b.map AQ))],rfl,by
  have c:=List.mem_range.mp c
  have e:a.getD x []=a[x]:=by simp[CL,c]
  have i:=cv d g hz b h x a[x] (Cu c)
  rw[e]
  generalize b.map AQ=Q,a.map AC=L,((AT b x a[x]).map As).map aD=S at *
  simp only[Tf,i,Dd,An,Zq,Zb,AS,AL,AA,AV]⟩
theorem Uz{d:LL}(E:∀p∈d,BZ p)(O:0<d.length)(hz:d.length<=4)(f:List AP)(U:∀q∈f,FE (CJ d) q){g:List Nat}(h:Bq d g)(c:List (List At×Int))(G:∀r∈c,A6 d r.1)(hl:c.length<64):Mo [.val (.lst (d.map AC)),.val (.lst (c.map BL)),.val (A7 g),.val (.lst (f.map AQ))]=some (.own (C0 (CT d g (DP f d c) []))):=by
 have w:=p9 E O hz f U
 have z:=p8 f d
 have Y:=GW d.length (by omega)
 have q1:=Zv ((Ba d.length).map λ(k:Nat)=>D.int (k:Int)) (by simp;omega)
 have ln:Cd [.lst (d.map AC)]=some (.int (d.length:Int)):=by simp
 have ht:=(MD h hz (DP f d c) (λr i=>G r (List.mem_filter.mp i).1) (by have:(DP f d c).length<=c.length:=Pl _ _;omega)).1
 generalize ((Ba d.length).map λx=>D.lst (((AT f x (d.getD x [])).map As).map aD))=j at *
 have m:=Pj (b:=Zl 0) (t:=Th) (e:=Y5) (ρ:=[.no,.val (.lst j)]) BL BL (λr=>(Cz f 0 d r.1).all id) c λr i=>⟨[.val (BL r),.val (.lst j)],rfl,by
  have v:=G r i
  have w:=MC (e:=Tg) [.val (.lst j)] aD r.1 0 ((Cz f 0 d r.1).map D.bl) (by rw[B1,cw f v,v.len]) λn a y e1 H=>by
   obtain⟨p,I,h2,h3⟩:=Uy f v 0 n a e1
   rw[C1,h3]at H
   cases H
   have s:=E p (Ei I)
   obtain⟨l,J,rfl⟩:=List.mem_map.mp h2
   have M:=(Js (As l) ((AT f n p).map As)).1
   have m1:decide (As l∈(AT f n p).map As)=ZP f n l:=bu s.la (ZP f n) J
   rw[m1]at M
   rw[Iu s.nd J,GY]
   have h4:=z n p I
   simp only[Tg,Ze,Ah,AS,AL,AA,h4,M]
  have A:HS [.lst ((Cz f 0 d r.1).map D.bl)]=some (.bl ((Cz f 0 d r.1).all id)):=by simp only[HS,RW,II]
  have q1:Zn (some (CK 0 (r.1.map aD)))=some (CK 0 (r.1.map aD)):=Zv _ (by rw[Ja];simp;have:=v.len;omega)
  have i0:Aw (BL r) (.int 0)=some (.tup (r.1.map aD)):=rfl
  generalize BL r=RD,r.1.map aD=S,(Cz f 0 d r.1).all id=b,(Cz f 0 d r.1).map D.bl=B at *
  have o:ZS 2 [1] [.val RD,.val (.lst j)]=[.no,.no,.val (.lst j)]:=rfl
  simp only[Th,C9,ZD,By,pk,Ze,Zb,Zi,ZA,ZL,DM,DK,o,Ah,AS,AL,AA,AV,i0,q1,w,A],rfl⟩
 have q2:Zn (some (c.map BL))=some (c.map BL):=Zv _ (by simp;omega)
 have m:_=some ((DP f d c).map BL):=m
 generalize f.map AQ=Q,d.map AC=L,c.map BL=C,(DP f d c).map BL=RP,C0 (CT d g (DP f d c) [])=T,(d.length:Int)=N,((Ba d.length).map λ(k:Nat)=>D.int (k:Int))=R at *
 refine Z9 rfl ?_
 show OS [.val (.lst L),.val (.lst C),.val (A7 g),.val (.lst Q),.no,.no]=_
 have o:ZS 1 [0,3] [.val (.lst L),.val (.lst C),.val (A7 g),.val (.lst Q),.no,.no]=[.no,.val (.lst L),.val (.lst Q)]:=rfl
 have u:ZS 1 [4] [.val (.lst L),.val (.lst C),.val (A7 g),.val (.lst Q),.val (.lst j),.no]=[.no,.val (.lst j)]:=rfl
 simp only[OS,Zf,Zx,B3,FW,ZD,By,pk,Zb,Zi,Zt,ZA,ZL,o,u,Zz,Be,An,AS,AL,A4,AZ,AA,AV,ln,Y,q1,w,q2,m,ht,Lq]
theorem cx(s0 h j m n o:Sl)(ws:List Int)(t:ws.length=24)(b:L1)(r:BZ b)(lv:Nat)(p:∀l∈b,lv<=l.length):∀(g:List Nat)(acc:List At)(f:Sl),(∀k∈g,k<20)->acc.length+g.length<=100 ->
  ∃(c:List At) (d:Sl),c.length=acc.length+g.length/\Z0 (Zl 10) OB (g.map λ(k:Nat)=>D.int (k:Int)) [s0,h,j,m,n,.val (.lst (ws.map D.int)),o,.val (AC b),.val (.int (lv:Int)),.own (acc.map aD),f]=.next [s0,h,j,m,n,.val (.lst (ws.map D.int)),o,.val (AC b),.val (.int (lv:Int)),.own (c.map aD),d]
 |[],acc,f,_,_=>⟨acc,f,rfl,rfl⟩
 |k::g,acc,f,u,y=>by
  simp only[Cq]at y
  have z:=u k BC
  have a1:ZJ (.int 3) (.int (k:Int))=some (.int ((3+k:Nat):Int)):=rfl
  have a2:=F4 t (3+k) (by omega)
  generalize ws.getD (3+k) 0=v at *
  obtain⟨a,B,w⟩:=E4 v b.length r.ne
  have a3:=Dv v (b.length:Int) (by have:=r.ne;omega)
  rw[B]at a3
  have a4:Aw (AC b) (.int (a:Int))=some (Al b[a]):=by
   show atI (b.map Al) (a:Int)=_
   exact DV (by simp[w])
  have x:=Fc w
  have a5:=cu b[a] (by have:=r.four _ x;omega) lv (p _ x)
  have a6:Cd [AC b]=some (.int (b.length:Int)):=by simp
  have s:Zn (some [D.non])=some [D.non]:=Zv _ (by simp)
  have q:(acc.map aD).length<AG:=by rw[B1];exact Cg (show acc.length<1000 by omega) (by decide)
  generalize b[a]=l at *
  obtain⟨c,d,C,e⟩:=cx s0 h j m n o ws t b r lv p g (acc++[l.getD lv .non]) (.val (.int (k:Int))) (λi E=>u i (Bv _ E)) (by simp;omega)
  refine⟨c,d,by rw[C];simp;omega,?_⟩
  have G:OB [s0,h,j,m,n,.val (.lst (ws.map D.int)),o,.val (AC b),.val (.int (lv:Int)),.own (acc.map aD),.val (.int (k:Int))]=.next [s0,h,j,m,n,.val (.lst (ws.map D.int)),o,.val (AC b),.val (.int (lv:Int)),.own ((acc++[l.getD lv .non]).map aD),.val (.int (k:Int))]:=by
   rw[Ea,Uk]
   generalize ws.map D.int=W,AC b=LL,Al l=w0,Al (l++[.non])=w1,aD (l.getD lv .non)=T,acc.map aD=A at *
   simp only[OB,Zf,C6,ZD,By,pk,Ze,Zb,Zi,Zt,An,Ah,Cn,AS,AL,A4,AZ,AA,AV,a1,a2,a6,a3,a4,s,a5.1,a5.2,q,if_true]
  simp only[AW,Z0,Zl,A4,AZ,G,e]
def Px:List D:=[.int 1,.int 2,.int 1,.int 3,.int 4,.int 6,.int 2,.int 0]
theorem qa(y:Int):∃n:Nat,n<=6/\Aw (.lst Px) (.int (y%8))=some (.int (n:Int)):=by
 obtain⟨n,e,h⟩:=E4 y 8 (by decide)
 refine⟨([1,2,1,3,4,6,2,0]:List Nat)[n],(by decide:∀c∈[1,2,1,3,4,6,2,0],c<=6) _ (Fc _),?_⟩
 rw[show y%8=(n:Int)from e]
 exact DV (show(([1,2,1,3,4,6,2,0]:List Nat).map λ(k:Nat)=>D.int (k:Int))[n]?=_ by rw[C1,Cu h];rfl)
theorem qb(y:Int):∃a:At,Aw (.lst [.str "nobody",.non,.int (10^40)]) (.int (y%3))=some (aD a):=by
 have h:y%3=0\/y%3=1\/y%3=2:=by omega
 rcases h with h|h|h<;>rw[h]
 ·exact⟨.str "nobody",rfl⟩
 ·exact⟨.non,rfl⟩
 ·exact⟨.int (10^40),rfl⟩
theorem qc{f:LL}(hL:∀i∈f,BZ i)(h0:0<f.length)(hz:f.length<=4)(s0:Sl)(o:List AP)(z:o.length<1000)(c:Int)(s:Nat)(s5 s6 s7 s8 s9 u:Sl):∃(q:AP)(t5 t6 t7 t8 t9 A:Sl),FE (CJ f) q/\OC [s0,.val (.lst (f.map AC)),.own (o.map AQ),.val (.int (s:Int)),.val (.int c),s5,s6,s7,s8,s9,u]=.next [s0,.val (.lst (f.map AC)),.own ((o++[q]).map AQ),.val (.int (s:Int)),.val (.int c),t5,t6,t7,t8,t9,A]:=by
 have p0:ZJ (.int 40) (.int (s:Int))=some (.int ((40+s:Nat):Int)):=rfl
 obtain⟨g,hs,t⟩:=Pk c ((40+s:Nat):Int)
 have i0:Aw (.lst (g.map D.int)) (.int 0)=some (.int (g.getD 0 0)):=F4 t 0 (by decide)
 have i1:Aw (.lst (g.map D.int)) (.int 1)=some (.int (g.getD 1 0)):=F4 t 1 (by decide)
 have i2:Aw (.lst (g.map D.int)) (.int 2)=some (.int (g.getD 2 0)):=F4 t 2 (by decide)
 have B:Aw (.lst (g.map D.int)) (.int 10)=some (.int (g.getD 10 0)):=F4 t 10 (by decide)
 have C:Aw (.lst (g.map D.int)) (.int 11)=some (.int (g.getD 11 0)):=F4 t 11 (by decide)
 generalize g.getD 11 0=j,g.getD 10 0=d,g.getD 2 0=y2,g.getD 1 0=E,g.getD 0 0=y0 at *
 obtain⟨m,G,p⟩:=E4 y0 f.length h0
 have m0:=Dv y0 (f.length:Int) (by omega)
 rw[G]at m0
 have H:Cd [.lst (f.map AC)]=some (.int (f.length:Int)):=by simp
 have j0:Aw (.lst (f.map AC)) (.int (m:Int))=some (AC f[m]):=by
  show atI (f.map AC) (m:Int)=_
  exact DV (by simp[p])
 have r:=hL _ (Fc p)
 have I:(CJ f)[m]?=some (EK f[m],f[m]):=by rw[KQ,Cu p];rfl
 generalize f[m]=i at *
 obtain⟨l0,J,j2⟩:=oO r.la
 have J:Aw (AC i) (.int 0)=some (Al l0):=J
 have j3:ZJ (.int (EK i:Int)) (.int 1)=some (.int ((EK i:Int)+1)):=rfl
 obtain⟨lv,v,hlv⟩:=E4 E (EK i+1) (by omega)
 have m1:=Dv E ((EK i:Int)+1) (by omega)
 have w:E%((EK i:Int)+1)=(lv:Int):=by
  have e:((EK i+1:Nat):Int)=(EK i:Int)+1:=by omega
  rw[e]at v;exact v
 rw[w]at m1
 have x:∀l∈i,lv<=l.length:=λl hl=>by rw[r.la.len l hl];omega
 have m2:=Dv y2 8 (by decide)
 obtain⟨n,hn,j4⟩:=qa y2
 have r1:=GW n (by omega)
 obtain⟨vs,M,N,ev⟩:=cx s0 (.val (.lst (f.map AC))) (.own (o.map AQ)) (.val (.int (s:Int))) (.val (.int c)) (.val (.int (m:Int))) g t i r lv x (Ba n) [] u (λk hk=>by have:=List.mem_range.mp hk;omega) (by simp;omega)
 rw[CA]at ev
 simp at N
 have O:Zn (some Px)=some Px:=Zv _ (by decide)
 have y:Zn (some ([]:List D))=some []:=rfl
 have T:=Dv d 9 (by decide)
 have U:=Uw (d%9) 4
 have Y:=Dv j 5 (by decide)
 have e11:=Uw (j%5) 0
 have d10:Dt (.int d) (.int 9)=some (.int (d/9)):=by
  show(if DR d 9 then some (D.int (d/9))else none)=_
  rw[if_pos ⟨by decide,by decide⟩]
 have m3:=Dv (d/9) 3 (by decide)
 obtain⟨od,j5⟩:=qb (d/9)
 have pw:Ez (.int 10) (.int 40)=some (.int (10^40)):=by simp[E7]
 generalize (10:Int)^40=B40 at *
 have sh3:∀a b c:D,Zn (some [a,b,c])=some [a,b,c]:=λ_ _ _=>Zv _ (by simp)
 have hvz:∀vs:List At,vs.length<=10->(vs.map aD).length<AG:=λvs h=>by rw[B1];exact Cg (show vs.length<1000 by omega) (by decide)
 have hqz:(o.map AQ).length<AG:=by rw[B1];exact Cg z (by decide)
 have hz1:=hvz vs (by omega)
 refine⟨⟨m,lv,decide (j%5=0),if decide (d%9=4)=true then vs++[od]else vs⟩,.val (.lst (g.map D.int)),.val (.int (m:Int)),.val (AC i),.val (.int (lv:Int)),.val (Dw ⟨m,lv,decide (j%5=0),if decide (d%9=4)=true then vs++[od]else vs⟩),M,⟨by show(if decide (d%9=4)=true then vs++[od]else vs).length<=50;split<;>(try simp)<;>omega,_,I,by show lv<=EK i;omega⟩,?_⟩
 rw[Ea (l₁:=o),Uk]
 unfold Px at *
 generalize Al l0=LN,((Ba n).map λ(k:Nat)=>D.int (k:Int))=RG,o.map AQ=Q,AC i=LA,g.map D.int=W,f.map AC=L,decide (j%5=0)=b11,decide (d%9=4)=b10 at *
 cases b10<;>cases b11<;>simp only[OC,Zf,Zx,Di,BS,ZM,AO,C6,Nd,Zq,ZD,Dk,By,pk,Ze,Zb,Zi,Zt,ZA,An,Ah,Bb,Cn,AS,AL,A4,AZ,AA,AV,p0,hs,Dd,CZ,i0,H,m0,j0,i1,J,j2,j3,m1,y,i2,m2,O,j4,r1,ev,B,T,U,C,Y,e11,sh3,hqz,if_true,d10,m3,pw,j5,hz1,AQ,Dw,DW,if_false,Ea,AW,CA]
theorem cy{e:LL}(v:∀x∈e,BZ x)(w:0<e.length)(hz:e.length<=4)(s0:Sl):∀(g:List Int)(f:Nat)(b:List AP)(n o i j k l m d:Sl),(∀q∈b,FE (CJ e) q)->b.length+g.length<1000 ->
  ∃(a:List AP) (ρ:VE),(∀q∈a,FE (CJ e) q)/\a.length=b.length+g.length/\Z0 (BU 2 (ZC (Zl 3) (ZC (Zl 4) BX))) OC (CK f (g.map D.int)) [s0,.val (.lst (e.map AC)),.own (b.map AQ),n,o,i,j,k,l,m,d]=.next ρ/\ρ[2]?=some (.own (a.map AQ))
 |[],f,b,n,o,i,j,k,l,m,d,r,_=>⟨b,_,r,rfl,rfl,rfl⟩
 |c::g,f,b,n,o,i,j,k,l,m,d,r,s=>by
  simp only[Cq]at s
  obtain⟨q,y,z,A,B,C,t,E,G⟩:=qc v w hz s0 b (by omega) c f i j k l m d
  obtain⟨a,ρ,H,I,J,L⟩:=cy v w hz s0 g (f+1) (b++[q]) (.val (.int (f:Int))) (.val (.int c)) y z A B C t (λp u=>by
   rcases List.mem_append.mp u with h|h
   ·exact r p h
   ·simp at h;rw[h];exact E) (by simp;omega)
  refine⟨a,ρ,H,by rw[I];simp;omega,?_,L⟩
  simp only[AW,CK,Z0,BU,ZC,Zl,BX,Cq,E9,if_true,A4,AZ,AA,G,J]
theorem qd{a:LL}(f:∀g∈a,BZ g)(i:0<a.length)(hz:a.length<=4)(b:List Int)(m:b.length<=100):∃c:List AP,(∀q∈c,FE (CJ a) q)/\c.length=b.length/\SO [.val (.lst (b.map D.int)),.val (.lst (a.map AC))]=some (.own (c.map AQ)):=by
 obtain⟨c,n,j,k,e,l⟩:=cy f i hz (.val (.lst (b.map D.int))) b 0 [] .no .no .no .no .no .no .no .no (λ_ h=>nomatch h) (by simp;omega)
 refine⟨c,j,by simpa using k,?_⟩
 rw[CA]at e
 have d:Zn (some ([]:List D))=some []:=rfl
 generalize a.map AC=L,b.map D.int=C,c.map AQ=Q at *
 refine Z9 rfl ?_
 show OD [.val (.lst C),.val (.lst L),.no,.no,.no,.no,.no,.no,.no,.no,.no]=_
 simp only[OD,Zf,Di,BS,DM,DK,Be,Zt,B3,Cn,AS,AL,A4,AZ,AA,d,e,l]
def Ed(a:List AP)(b:LL)(X:Nat)(v:At)(n:Nat):At:=if n=X then v else As ((AT a n (b.getD n [])).headD [])
def F6(b:List AP)(a:LL)(X:Nat)(v:At):List At:=(Ba a.length).map (Ed b a X v)
theorem MG(b:List AP)(a:LL)(X:Nat)(v:At){n:Nat}(h:n<a.length):(F6 b a X v)[n]?=some (Ed b a X v n):=by
 unfold F6
 rw[C1,Ng h];rfl
theorem cz:∀{c:LL}{s:List At},s.length=c.length->(∀(n:Nat)(d:L1)(a:At),c[n]?=some d->s[n]?=some a->a∈d.map As)->A6 c s
 |[],[],_,_=>.nil
 |[],_::_,h,_=>by simp at h
 |_::_,[],h,_=>by simp at h
 |d::c,a::s,h,z=>.cons (z 0 d a rfl rfl) (cz (by simpa using h) λn l b e f=>z (n+1) l b (by simpa using e) (by simpa using f))
def Py(b:List AP)(c:LL):Prop:=∀n a,c[n]?=some a->∃l r,AT b n a=l::r/\l∈a/\ZP b n l=true
theorem qe{a:List AP}{b:LL}(h:F3 (CJ b) a=false):Py a b:=λn c e=>by
 have g:n<b.length:=(List.getElem?_eq_some_iff.mp e).1
 unfold F3 at h
 rw[List.any_eq_false]at h
 have:=h n (List.mem_range.mpr (by rw[ME];exact g))
 have i:((CJ b).getD n (0,[])).2=c:=by rw[CL,KQ,e];rfl
 rw[i]at this
 cases d:AT a n c with
 |nil=>unfold AT at d;rw[d]at this;exact absurd rfl this
 |cons l r=>
  have f:l∈AT a n c:=by rw[d];exact BC
  exact⟨l,r,rfl,(List.mem_filter.mp f).1,(List.mem_filter.mp f).2⟩
section
variable{qs:List AP}{Ls:LL}{X:Nat}{la:L1}(hL:∀ls∈Ls,BZ ls)(hA:Py qs Ls)(hX:Ls[X]?=some la)
include hA hX in
theorem cA{l:List At}(c:l∈la){n:Nat}{a:L1}(b:Ls[n]?=some a):∃m,m∈a/\Ed qs Ls X (As l) n=As m/\((n=X/\m=l)\/ZP qs n m=true):=by
 unfold Ed
 by_cases e:n=X
 ·subst e
  rw[hX]at b;cases b
  exact⟨l,c,if_pos rfl,.inl ⟨rfl,rfl⟩⟩
 ·obtain⟨m,r,d,f,g⟩:=hA n a b
  have h:Ls.getD n []=a:=by rw[CL,b];rfl
  rw[if_neg e,h,d]
  exact⟨m,f,rfl,.inr g⟩
include hA hX in
theorem KS{l:List At}(d:l∈la):A6 Ls (F6 qs Ls X (As l)):=cz (by simp[F6]) λn g a b c=>by
 rw[MG qs Ls X _ (List.getElem?_eq_some_iff.mp b).1]at c
 obtain⟨m,e,f,_⟩:=cA hA hX d b
 cases c
 rw[f];exact KJ e
include hL hA hX in
theorem cB{l:List At}(g:l∈la):(Cz qs 0 Ls (F6 qs Ls X (As l))).all id=ZP qs X l:=by
 have h:=KS hA hX g
 have r:∀n f,Ls[n]?=some f->∃m,m∈f/\(Cz qs 0 Ls (F6 qs Ls X (As l)))[n]?=some (ZP qs n m)/\((n=X/\m=l)\/ZP qs n m=true):=λn f a=>by
  obtain⟨m,k,s,c⟩:=cA hA hX g a
  obtain⟨i,o,_,p⟩:=Uy qs h 0 n _ (MG qs Ls X _ (List.getElem?_eq_some_iff.mp a).1)
  rw[a]at o;cases o
  rw[s,Iu (hL f (Ei a)).nd k,GY]at p
  exact⟨m,k,p,c⟩
 rw[Io,D9]
 constructor
 ·intro z
  obtain⟨i,q,_,j⟩:=Uy qs h 0 X _ (MG qs Ls X _ (List.getElem?_eq_some_iff.mp hX).1)
  rw[hX]at q;cases q
  unfold Ed at j
  rw[if_pos rfl,Iu (hL la (Ei hX)).nd g,GY]at j
  exact z _ (Ei j)
 ·intro z b t
  obtain⟨n,a⟩:=List.mem_iff_getElem?.mp t
  have d:=(List.getElem?_eq_some_iff.mp a).1
  rw[cw qs h]at d
  obtain⟨m,_,e,c⟩:=r n _ (Cu d)
  rw[a]at e
  cases e
  rcases c with⟨rfl,rfl⟩|c
  ·exact z
  ·exact c
include hL hA hX in
theorem Pz{l:List At}(c:l∈la){g:List Nat}(h:Bq Ls g):(ZU Ls (F6 qs Ls X (As l)) g)[X]?=some (l.getD (g.getD X 0) .non):=by
 obtain⟨a,j,d,e,_,_,_,b⟩:=Ub h (KS hA hX c) X la hX
 rw[MG qs Ls X _ (List.getElem?_eq_some_iff.mp hX).1]at d
 cases d
 unfold Ed at b
 rw[if_pos rfl,Iq (hL la (Ei hX)).nd c]at b
 have:g.getD X 0=j:=by rw[CL,e];rfl
 rw[b,this]
include hL hA hX in
theorem qf{l m:List At}(f:l∈la)(k:m∈la){g:List Nat}(h:Bq Ls g)(e:l.getD (g.getD X 0) .non=m.getD (g.getD X 0) .non):ZU Ls (F6 qs Ls X (As l)) g=ZU Ls (F6 qs Ls X (As m)) g:=by
 have o:=KS hA hX f
 have p:=KS hA hX k
 refine HK λn=>?_
 by_cases c:n=X
 ·subst c
  rw[Pz hL hA hX f h,Pz hL hA hX k h,e]
 ·by_cases d:n<Ls.length
  ·obtain⟨a,j,q,t,_,_,_,u⟩:=Ub h o n _ (Cu d)
   obtain⟨b,i,r,s,_,_,_,v⟩:=Ub h p n _ (Cu d)
   rw[MG qs Ls X _ d]at q r
   rw[t]at s
   cases q;cases r;cases s
   rw[u,v]
   unfold Ed
   rw[if_neg c,if_neg c]
  ·rw[QR (by rw[KN h o];omega),QR (by rw[KN h p];omega)]
end
def Hz(c:Int):Option (List At)->List D
 |none=>[]
 |some f=>[.tup [Al f,B8 c []]]
theorem cC(b:List AP)(a:LL)(k:List Nat)(s:List At)(c:Int):C0 (CT a k (DP b a [(s,c)]) [])=Hz c (if(Cz b 0 a s).all id=true then some (ZU a s k)else none):=by
 unfold DP
 cases h:(Cz b 0 a s).all id with
 |true=>
  rw[Uu (p:=λr:List At×Int=>(Cz b 0 a r.1).all id) h,if_pos rfl]
  simp[CT,CD,C0,Zy,Z3,FC,Z4,Hz,vC]
 |false=>
  rw[Uv (p:=λr:List At×Int=>(Cz b 0 a r.1).all id) (by show ¬ _=true;rw[h];decide),if_neg (by decide)]
  rfl
theorem qg(c:Int){o p:Option (List At)}(h:o≠p):Dy (.lst (Hz c o)) (.lst (Hz c p))=some (.bl true):=by
 have ok:∀o,A3 12 (.lst (Hz c o))=true:=λo=>by
  cases o with
  |none=>rfl
  |some f=>
   show [D.tup [Al f,B8 c []]].all (A3 11)=true
   show([Al f,B8 c []].all (A3 10)&&true)=true
   rw[bS]
   simp only[EA,List.all_nil,Mu 9,EI]
 have e:AB (.lst (Hz c o)) (.lst (Hz c p))=false:=by
  cases o with
  |none=>cases p with
   |none=>exact absurd rfl h
   |some f=>rfl
  |some f=>cases p with
   |none=>rfl
   |some a=>
    have:¬ f=a:=λz=>h (by rw[z])
    show Cr [.tup [Al f,B8 c []]] [.tup [Al a,B8 c []]]=false
    simp only[AB,Cr,Al,TM,decide_eq_false this,Bool.false_and]
 simp only[Dy,Ik,ok,e,EI,if_true,KG]
theorem qh{a:Do}{f:VE->List (List D)->Do}{ρ:VE}{b:List (List D)}{r:Do}(h:a=.next ρ b)(c:f ρ b=r):F1 a f=r:=by rw[h];exact c
theorem qi{e:List AP}{d:LL}(U:∀Y∈d,BZ Y)(h0:0<d.length)(hz:d.length<=4)(hq:∀q∈e,FE (CJ d) q)(hA:Py e d)(X:Nat)(one c:At)(z A B C E t:Sl)(a:Ac)(x:Nat)(hx:x<d.length)(h z1:List D)(l0:h.length<1000)(l1:z1.length<1000):
  ∃k,Mt [.val (.lst (d.map AC)),z,A,.val (.lst (e.map AQ)),B,C,.val (.int (X:Int)),.val (aD one),.val (aD c),E,.pin a,.val (.int (x:Int)),t,.no,.no] [h,z1] =
   .next [.val (.lst (d.map AC)),z,A,.val (.lst (e.map AQ)),B,C,.val (.int (X:Int)),.val (aD one),.val (aD c),E,.pin a,.val (.int (x:Int)),k,.no,.no] [h++[aD (Ed e d X one x)],z1++[aD (Ed e d X c x)]]:=by
 have u:=Cu hx
 have p:=cv U h0 hz e hq x _ u
 obtain⟨l,r,G,_,_⟩:=hA x _ u
 have eg:d.getD x []=d[x]:=by rw[CL,u];rfl
 have I:∀v,Ed e d X v x=if x=X then v else As l:=λv=>by unfold Ed;rw[eg,G];rfl
 rw[G]at p
 rw[I,I]
 have ex:CH (.int (x:Int)) (.int (X:Int))=some (.bl (decide (x=X))):=by simp;omega
 have s:=T4 (decide (x=X))
 have q0:h.length<AG:=Cg l0 (by decide)
 have q1:z1.length<AG:=Cg l1 (by decide)
 have J:∀(b:At) (bs:List At),CH (.lst (aD b::bs.map aD)) (.lst [])=some (.bl false):=λb bs=>by
  have h1:A3 12 (.lst (aD b::bs.map aD))=true:=by
   show((b::bs).map aD).all (A3 11)=true
   rw[GP,D9];exact λa _=>Jp 11 a
  have h2:A3 12 (.lst [])=true:=rfl
  have h3:AB (.lst (aD b::bs.map aD)) (.lst [])=false:=rfl
  simp only[CH,Ik,h1,h2,h3,EI,if_true]
 have m:=J one []
 have w:=J (As l) (r.map As)
 have f:Zn (some ([]:List D))=some []:=rfl
 have n:Zn (some [aD one])=some [aD one]:=Zv _ (by simp)
 have g:∀a b:D,Zn (some [a,b])=some [a,b]:=λ_ _=>Zv _ (by simp)
 have M:∀(a:D) (N:List D),Aw (.lst (a::N)) (.int 0)=some a:=λa N=>Pg _ _
 have i1:∀a b:D,Aw (.lst [a,b]) (.int 1)=some b:=λ_ _=>rfl
 have T:([h,z1]:List (List D)).length<1000:=by simp
 have y:([h++[aD one],z1]:List (List D)).length<1000:=by simp
 have o:([h++[aD (As l)],z1]:List (List D)).length<1000:=by simp
 simp only[AW]at p
 simp only[CA]at m
 generalize (X:Int)=AX,(x:Int)=XX,e.map AQ=Q,d.map AC=L,(r.map As).map aD=R at *
 by_cases j:x=X
 ·rw[decide_eq_true j]at ex s
  rw[if_pos j,if_pos j]
  generalize aD c=P,aD one=O,aD (As l)=H at *
  have i:Gp [.bl true]=some (.int 1):=s
  refine⟨.val (.lst [O]),?_⟩
  simp only[Mt,F1,Ii,Ij,Zx,Zf,ZM,AO,Zq,ZD,By,pk,Ze,Zb,Zi,Zt,ZA,An,Ah,Bb,AS,AL,A4,AZ,AA,AV,p,Dd,if_true,ex,n,f,m,M,i1,i,g,q0,q1,T,y,and_self]
 ·rw[decide_eq_false j]at ex s
  rw[if_neg j,if_neg j]
  generalize aD c=P,aD (As l)=H at *
  have i:Gp [.bl false]=some (.int 0):=s
  refine⟨.val (.lst (H::R)),?_⟩
  simp only[Mt,F1,Ii,Ij,Zx,Zf,ZM,AO,Zq,ZD,By,pk,Ze,Zb,Zi,Zt,ZA,An,Ah,Bb,AS,AL,A4,AZ,AA,AV,p,Dd,if_true,ex,f,w,M,i,g,q0,q1,T,o,and_self]
theorem cD{g:List AP}{e:LL}(u:∀A∈e,BZ A)(v:0<e.length)(hz:e.length<=4)(w:∀q∈g,FE (CJ e) q)(y:Py g e)(X:Nat)(one d:At)(m o p r s:Sl)(a:Ac):∀(n x:Nat)(i f:Sl),x+n<=e.length ->
  ∃j l,Jk (Zl 11) 10 Mt ((Hw x n).map λ(k:Nat)=>D.int (k:Int)) [.val (.lst (e.map AC)),m,o,.val (.lst (g.map AQ)),p,r,.val (.int (X:Int)),.val (aD one),.val (aD d),s,.pin a,i,f,.no,.no] [((Ba x).map (Ed g e X one)).map aD,((Ba x).map (Ed g e X d)).map aD] =
   .next [.val (.lst (e.map AC)),m,o,.val (.lst (g.map AQ)),p,r,.val (.int (X:Int)),.val (aD one),.val (aD d),s,.pin a,j,l,.no,.no] [((Ba (x+n)).map (Ed g e X one)).map aD,((Ba (x+n)).map (Ed g e X d)).map aD]
 |0,x,i,f,_=>⟨i,f,rfl⟩
 |n+1,x,i,f,h=>by
  obtain⟨t,B⟩:=qi u v hz w y X one d m o p r s f a x (by omega) (((Ba x).map (Ed g e X one)).map aD) (((Ba x).map (Ed g e X d)).map aD) (by simp;omega) (by simp;omega)
  obtain⟨b,c,z⟩:=cD u v hz w y X one d m o p r s a n (x+1) (.val (.int (x:Int))) t (by omega)
  refine⟨b,c,?_⟩
  rw[List.range_succ,Ea,Ea,Ea,Ea,show x+1+n=x+(n+1) by omega]at z
  rw[My,AW]
  simp only[Jk,Zl,A4,AZ,AS,AL,if_true]
  exact qh B z
theorem qj(n:Int):Om [.val (.int n)]=some (.val (.bl true)):=by simp[Om,Bn,Sf]
theorem qk{f:List AP}{d:LL}(C:∀ls∈d,BZ ls)(Y:0<d.length)(hz:d.length<=4)(hq:∀q∈f,FE (CJ d) q){g k:List Nat}(h:Bq d g)(h':Bq d k)(t:Nat×At×At)(hE:F3 (CJ d) f=false)(hb:Jv (CJ d) g k f t)
  (ha:Gu [.val (.lst (d.map AC)),.val (A7 g),.val (A7 k),.val (.lst (f.map AQ))]=some (.val (EJ t))) (c:Int):TJ [.val (.lst (d.map AC)),.val (A7 g),.val (A7 k),.val (.lst (f.map AQ)),.val (EJ t),.val (.int c)]=some (.val (.bl true)):=by
 obtain⟨w,la,E,B,j,m1,m2,m,e1,e2⟩:=hb
 obtain⟨X,one,other⟩:=t
 dsimp only at j m e1 e2
 subst e1 e2
 rw[KQ]at j
 obtain⟨la',hY,e⟩:=Option.map_eq_some_iff.mp j
 cases e
 replace j:=hY
 unfold MB at m
 rw[C7,decide_eq_true_eq,Nx,decide_eq_false_iff_not]at m
 obtain⟨hal,hne⟩:=m
 have H:=qe hE
 have hxl:X<d.length:=(List.getElem?_eq_some_iff.mp j).1
 have J:=C la (Ei j)
 have p1:=KS H j m1
 have p2:=KS H j m2
 have a1:=cB C H j m1
 have a2:=cB C H j m2
 have f1:=Pz C H j m1 h'
 have f2:=Pz C H j m2 h'
 have I:=qf C H j m1 m2 h hal
 have A:=λs9 a=>cD C Y hz hq H X (As E) (As B) (.val (A7 g)) (.val (A7 k)) (.val (EJ (X,As E,As B))) (.val (.int c)) s9 a d.length 0 .no .no (by omega)
 rw[GY,<- T6]at A
 have es:∀v,(Ba d.length).map (Ed f d X v)=F6 f d X v:=λ_=>rfl
 rw[es,es]at A
 generalize F6 f d X (As B)=n,F6 f d X (As E)=i at *
 have r1:∀r∈[(i,c)],A6 d r.1:=λr hr=>by cases Fx.mp hr;exact p1
 have r2:∀r∈[(n,c)],A6 d r.1:=λr hr=>by cases Fx.mp hr;exact p2
 have t1:=(MD h hz [(i,c)] r1 (by simp)).1
 have t2:=(MD h hz [(n,c)] r2 (by simp)).1
 have et:CT d g [(n,c)] []=CT d g [(i,c)] []:=by
  show CD [] (ZU d n g) c=CD [] (ZU d i g) c
  rw[I]
 rw[et]at t2
 have tn:=(Ul (bU (CT d g [(i,c)] []))).2
 have u1:=Uz C Y hz f hq h' [(i,c)] r1 (by simp)
 have u2:=Uz C Y hz f hq h' [(n,c)] r2 (by simp)
 rw[cC,a1]at u1
 rw[cC,a2]at u2
 have un:=qg c (o:=if ZP f X E=true then some (ZU d i k)else none) (p:=if ZP f X B=true then some (ZU d n k)else none) λz=>hne (by
  unfold F2
  by_cases b1:ZP f X E=true
  ·rw[if_pos b1]at z ⊢
   by_cases b2:ZP f X B=true
   ·rw[if_pos b2]at z ⊢
    rw[<- f1,<- f2,Fm z]
   ·rw[if_neg b2]at z;cases z
  ·rw[if_neg b1]at z ⊢
   by_cases b2:ZP f X B=true
   ·rw[if_pos b2]at z;cases z
   ·rw[if_neg b2])
 have re:=pU (d.map AC) (C0 (CT d g [(i,c)] [])) g k (f.map AQ) _ ha
 have wh:=qj (X:Int)
 have ln:Cd [.lst (d.map AC)]=some (.int (d.length:Int)):=by simp
 have le:Wh (.int 0) (.int (X:Int))=some (.bl true):=by
  show some (D.bl (decide ((0:Int)<=(X:Int))))=_
  rw[decide_eq_true (by omega)]
 have lt:IT (.int (X:Int)) (.int (d.length:Int))=some (.bl true):=by simp;omega
 have ix:Aw (.lst (d.map AC)) (.int (X:Int))=some (.lst (la.map Al)):=DV (by rw[C1,j];rfl)
 have hc:=D6 (b:=Zl 0) (e:=TH) (ρ:=[.no]) Al (λl=>aD (As l)) la λl hm=>⟨[.val (Al l)],rfl,by
  have h1:=Hv l (J.some l hm)
  simp only[TH,Ah,Ze,AL,AA,h1]⟩
 rw[show(la.map λl=>aD (As l))=(la.map As).map aD by rw[Db];rfl]at hc
 have q1:Zn (some (la.map Al))=some (la.map Al):=Zv _ (by have:=J.few;simp;omega)
 have n1:=(Js (As E) (la.map As)).2
 have n2:=(Js (As B) (la.map As)).2
 rw[decide_eq_true (KJ m1)]at n1
 rw[decide_eq_true (KJ m2)]at n2
 have nb:∀a,FZ [aD a,.ty "bool"]=some (.bl false):=λa=>by cases a<;>simp[aD]
 have b1:=nb (As E)
 have b2:=nb (As B)
 have r0:=GW d.length (by omega)
 have hc2:CV (Zl 0) (λ_=>some true) TF [.no,.val (.int c)] [.lst (i.map aD),.lst (n.map aD)]=some [BL (i,c),BL (n,c)]:=by
  have q:∀a b:D,Zn (some [a,b])=some [a,b]:=λ_ _=>Zv _ (by simp)
  have tu:∀s:List At,Dk [.lst (s.map aD)]=some (Al s):=λ_=>rfl
  simp only[CV,Zl,AZ,TF,ZD,By,pk,Zb,Zi,Zt,An,Bb,AS,AL,AA,AV,tu,q,BL]
 have q2:Zn (some [D.lst (i.map aD),.lst (n.map aD)])=some [D.lst (i.map aD),.lst (n.map aD)]:=Zv _ (by simp)
 have k1:∀a b:D,Em [a,b] none (some 1)=[a]:=λ_ _=>rfl
 have k2:∀a b:D,Em [a,b] (some 1) none=[b]:=λ_ _=>rfl
 simp only[AW,CA]at t1 t2 u1 u2
 generalize la.map Al=LA,(la.map As).map aD=U,f.map AQ=Q,d.map AC=L,(d.length:Int)=N,((Ba d.length).map λ(k:Nat)=>D.int (k:Int))=RG,n.map aD=S2,i.map aD=S1,BL (n,c)=R2,BL (i,c)=R1,Hz c (if ZP f X B=true then some (ZU d n k)else none)=U2,Hz c (if ZP f X E=true then some (ZU d i k)else none)=U1,C0 (CT d g [(i,c)] [])=T at *
 unfold EJ at *
 dsimp only at *
 generalize A7 k=W,A7 g=G,(X:Int)=u,aD (As B)=x,aD (As E)=y at *
 refine Z9 rfl ?_
 show O6 [.val (.lst L),.val G,.val W,.val (.lst Q),.val (.tup [.int u,y,x]),.val (.int c),.no,.no,.no,.no,.no,.no,.no,.no,.no]=_
 have hin:ZS 1 [] [.val (.lst L),.val G,.val W,.val (.lst Q),.val (.tup [.int u,y,x]),.val (.int c),.val (.int u),.val y,.val x,.no,.no,.no,.no,.no,.no]=[.no]:=rfl
 unfold O6
 refine Mx (ρ:=[.val (.lst L),.val G,.val W,.val (.lst Q),.val (.tup [.int u,y,x]),.val (.int c),.val (.int u),.val y,.val x,.no,.no,.no,.no,.no,.no]) rfl ?_
 refine Mx (ρ:=[.val (.lst L),.val G,.val W,.val (.lst Q),.val (.tup [.int u,y,x]),.val (.int c),.val (.int u),.val y,.val x,.no,.no,.no,.no,.no,.no]) ?_ ?_
 ·simp only[ZM,EV,C8,C9,AO,Zq,LJ,ZD,By,pk,Zb,An,Ah,AS,AL,AA,AV,wh,CZ,Gw,le,ln,lt]
 refine Mx (ρ:=[.val (.lst L),.val G,.val W,.val (.lst Q),.val (.tup [.int u,y,x]),.val (.int c),.val (.int u),.val y,.val x,.val (.lst U),.no,.no,.no,.no,.no]) ?_ ?_
 ·simp only[Zx,ZA,ZL,hin,Ze,Ah,AS,AL,A4,AZ,AA,AV,ix,Zz,q1,hc]
 refine Mx (ρ:=[.val (.lst L),.val G,.val W,.val (.lst Q),.val (.tup [.int u,y,x]),.val (.int c),.val (.int u),.val y,.val x,.val (.lst U),.no,.no,.no,.no,.no]) ?_ ?_
 ·simp only[ZM,EV,C9,AO,ZD,By,pk,Ze,Zb,Zi,An,Ah,AS,AL,AA,AV,n1,n2,b1,b2,Gw]
 refine mU λa=>?_
 obtain⟨y11,y12,er⟩:=A (.val (.lst U)) a
 rw[List.range_zero,CA,CA,CA,CA]at er
 have M:ZS 1 [5] [.val (.lst L),.val G,.val W,.val (.lst Q),.val (.tup [.int u,y,x]),.val (.int c),.val (.int u),.val y,.val x,.val (.lst U),.val (.lst [.lst S1,.lst S2]),y11,y12,.no,.no]=[.no,.val (.int c)]:=rfl
 simp only[A4,AZ,L2.forM,ZD,By,pk,Zb,Zi,Zt,An,AS,AL,AA,AV,ln,r0,er,F1,AW,CA,Zx,Zf,ZL,M,Be,Zz,ZA,q2,hc2,Zq,Ch,E1,Cb,Ah,k1,k2,t1,t2,Dd,Ze,ZM,EV,AO,C8,C9,tn,re,CZ,Gw,ZO,u1,u2,un,RM,RO]
def Iw(g k:List Nat):List Nat:=Fy (λi j=>if j<i then j else i) g k
theorem cE:∀(g k:List Nat),CV (Zl 0) (λ_=>some true) O7 [.no] (Fy (λx y=>D.tup [x,y]) (g.map λ(j:Nat)=>D.int (j:Int)) (k.map λ(j:Nat)=>D.int (j:Int)))=some ((Iw g k).map λ(j:Nat)=>D.int (j:Int))
 |[],_=>by cases ‹List Nat›<;>rfl
 |_::_,[]=>rfl
 |i::g,j::k=>by
  have a:=cE g k
  have b:O7 [.val (.tup [.int (i:Int),.int (j:Int)])]=some (.int ((if j<i then j else i:Nat):Int)):=by
   have e:NT [.tup [.int (i:Int),.int (j:Int)]]=some (.int (if(j:Int)<(i:Int)then(j:Int)else(i:Int))):=rfl
   have d:(if(j:Int)<(i:Int)then(j:Int)else(i:Int))=((if j<i then j else i:Nat):Int):=by
    by_cases c:j<i
    ·rw[if_pos c,if_pos (by omega)]
    ·rw[if_neg c,if_neg (by omega)]
   rw[d]at e
   simp only[O7,ZD,By,pk,Zb,An,AS,AL,AA,e]
  simp only[AW,Uc,Iw,CV,Zl,AZ,b,a,Zb,AA]
theorem Bq.either{b:LL}{g k:List Nat}(h:Bq b g)(h':Bq b k):∀m:List Nat,m.length=b.length->(∀i,i<m.length->m.getD i 0=g.getD i 0\/m.getD i 0=k.getD i 0)->Bq b m:=by
 induction h generalizing k with
 |nil=>intro m c _;cases m with
  |nil=>exact .nil
  |cons=>simp at c
 |@cons r b i g e f s l=>
  cases h' with
  |@cons _ _ j t u o p=>
  intro m c d
  cases m with
  |nil=>simp at c
  |cons x m=>
   have a:=d 0 (by simp)
   refine .cons e ?_ (l p m (by simpa using c) λn q=>by simpa using d (n+1) (by simpa using q))
   simp only[List.getD_cons_zero]at a
   rcases a with rfl|rfl
   ·exact f
   ·exact o
theorem cF(f:Nat->Nat->Nat):∀(g k:List Nat)(i:Nat),i<g.length->i<k.length->(Fy f g k).getD i 0=f (g.getD i 0) (k.getD i 0)
 |x::g,y::k,0,_,_=>rfl
 |x::g,y::k,i+1,a,b=>by
  have:=cF f g k i (by simpa using a) (by simpa using b)
  simpa using this
theorem ql{a:LL}{g k:List Nat}(h:Bq a g)(h':Bq a k):Bq a (Iw g k):=by
 have c:=h.len
 have d:=h'.len
 refine h.either h' _ (by simp[Iw];omega) λi b=>?_
 simp[Iw]at b
 unfold Iw
 rw[cF _ _ _ _ (by omega) (by omega)]
 split
 ·exact .inr rfl
 ·exact .inl rfl
theorem qm(N L R:List D)(b:Int)(f:ZQ [.val (.lst N),.val (.int 6)]=some (.val (.int b)))(c:LL)(a k:List Nat)(h:Bq c a)(h':Bq c k)(hz:c.length<=4):∃g,Bq c g/\O8 [.val (.lst N),.val (.lst L),.val (.lst R),.val (A7 a),.val (A7 k),.no,.no,.no,.no,.no]=.next [.val (.lst N),.val (.lst L),.val (.lst R),.val (A7 g),.val (A7 k),.no,.no,.no,.no,.no]:=by
 have d1:=Ju (x:=b) (y:=125) (by constructor<;>decide)
 have m1:=Dv (b/125) 2 (by decide)
 have d:=bh (b/125)
 have m:=h.len
 have n:=h'.len
 by_cases i:b/125%2=1
 ·refine⟨Iw a k,ql h h',?_⟩
  have l:=cE a k
  have q1:=Zv (Fy (λx y=>D.tup [x,y]) (a.map λ(j:Nat)=>D.int (j:Int)) (k.map λ(j:Nat)=>D.int (j:Int))) (by simp;omega)
  rw[decide_eq_true i]at d
  unfold A7
  generalize (k.map λ(j:Nat)=>D.int (j:Int))=W,(a.map λ(j:Nat)=>D.int (j:Int))=G,((Iw a k).map λ(j:Nat)=>D.int (j:Int))=o at *
  have e:ZS 1 [] [.val (.lst N),.val (.lst L),.val (.lst R),.val (.tup G),.val (.tup W),.no,.no,.no,.no,.no]=[.no]:=rfl
  simp only[O8,Zf,Zx,ZM,AO,Zq,ZD,Dk,By,pk,Ze,Zb,Zi,Zt,ZA,ZL,Hl,DK,e,Be,An,Ah,AS,AL,A4,AZ,AA,AV,f,CZ,d1,m1,d,q1,l]
 ·refine⟨a,h,?_⟩
  rw[decide_eq_false i]at d
  simp only[O8,ZM,AO,Zq,Ze,Zb,Zi,An,AS,AL,AA,AV,f,CZ,d1,m1,d]
theorem qo(b:LL)(c:List AP):A3 12 (.lst [.lst (b.map AC),.lst (c.map AQ)])=true:=by
 have e:A3 11 (.lst (b.map AC))=true:=by
  show(b.map AC).all (A3 10)=true
  rw[GP,D9]
  intro f _
  show(f.map Al).all (A3 9)=true
  rw[GP,D9]
  exact λl _=>Mu 8 l
 have g:A3 11 (.lst (c.map AQ))=true:=by
  show(c.map AQ).all (A3 10)=true
  rw[GP,D9]
  intro q _
  show A3 10 (AQ q)=true
  unfold AQ Dw
  have d:∀vs:List At,(vs.map aD).all (A3 8)=true:=λvs=>by rw[GP,D9];exact λa _=>Jp 8 a
  cases q.tp
  ·show [D.int (q.a:Int),.int (q.lv:Int),.lst (q.vs.map aD)].all (A3 9)=true
   simp only[EA,List.all_nil,A3,d,EI]
  ·show [D.int (q.a:Int),.int (q.lv:Int),.tup (q.vs.map aD)].all (A3 9)=true
   simp only[EA,List.all_nil,A3,d,EI]
 show [D.lst (b.map AC),.lst (c.map AQ)].all (A3 11)=true
 simp only[EA,List.all_nil,e,g,EI]
theorem qp(i:List Int)(hl:i.length<=63):aC [.val (.lst (i.map D.int))]=some (.val (.bl true)):=by
 obtain⟨j,q,w,p,e1⟩:=pi i
 obtain⟨f,U,hr,e2⟩:=pu i hl j q p
 have J:=λn:Nat=>Pd (.val (.lst (i.map D.int))) i (.inl rfl) (n:Int) (T7 n)
 have c4:ZQ [.val (.lst (i.map D.int)),.val (.int 4)]=some (.val (.int (i.getD 4 0))):=J 4
 have c5:ZQ [.val (.lst (i.map D.int)),.val (.int 5)]=some (.val (.int (i.getD 5 0))):=J 5
 have c6:ZQ [.val (.lst (i.map D.int)),.val (.int 6)]=some (.val (.int (i.getD 6 0))):=J 6
 have Y:ZQ [.val (.lst (i.map D.int)),.val (.int 10)]=some (.val (.int (i.getD 10 0))):=J 10
 generalize i.getD 10 0=o,i.getD 6 0=x6,i.getD 5 0=x5,i.getD 4 0=x4 at *
 obtain⟨g0,hg0,e3⟩:=bR x4 j q p
 obtain⟨k,A,e4⟩:=bR x6 j q p
 obtain⟨g,M,e5⟩:=qm (i.map D.int) (j.map AC) (f.map BL) x6 c6 j g0 k hg0 A p
 have B:=Dv o 4 (by decide)
 have a7:ZJ (.int 7) (.int (o%4))=some (.int (7+o%4)):=rfl
 obtain⟨n,en,hn⟩:=E4 o 4 (by decide)
 replace en:o%4=(n:Int):=en
 rw[en]at B a7
 have E:Em (i.map D.int) (some 7) (some (7+(n:Int)))=((i.drop 7).take n).map D.int:=by
  rw[RX,Yc _ _ _ (by decide) (by omega)]
  show((i.drop 7).take (7+n-7)).map _=_
  rw[Nat.add_sub_cancel_left]
 have hcl:((i.drop 7).take n).length<=63:=by simp;omega
 generalize (i.drop 7).take n=cs at *
 obtain⟨l,O,hql,e6⟩:=qd q w p cs (by omega)
 have G:=oV (cf q w p) g k M.gr A.gr l O
 rw[Ps,KR,KR]at G
 have hn:=(Ul (qo j l)).2
 have hc:=D6 (b:=Zl 0) (e:=aa) (ρ:=[.no]) AC AC j λls _=>⟨[.val (AC ls)],rfl,rfl⟩
 have s1:=Zv (j.map AC) (by simp;omega)
 have s2:Zn (some [D.lst (j.map AC),.lst (l.map AQ)])=some [D.lst (j.map AC),.lst (l.map AQ)]:=Zv _ (by simp)
 have i0:Aw (.lst [D.lst (j.map AC),.lst (l.map AQ)]) (.int 0)=some (.lst (j.map AC)):=rfl
 have i1:Aw (.lst [D.lst (j.map AC),.lst (l.map AQ)]) (.int 1)=some (.lst (l.map AQ)):=rfl
 refine Z9 rfl ?_
 show Pa [.val (.lst (i.map D.int)),.no,.no,.no,.no,.no,.no,.no,.no,.no]=_
 have H:∀d,Gu [.val (.lst (j.map AC)),.val (A7 g),.val (A7 k),.val (.lst (l.map AQ))]=some (.val d)->Pa [.val (.lst (i.map D.int)),.no,.no,.no,.no,.no,.no,.no,.no,.no]=O9 [.val (.lst (i.map D.int)),.val (.lst (j.map AC)),.val (.lst (f.map BL)),.val (A7 g),.val (A7 k),.val (.lst (l.map AQ)),.val (.lst [D.lst (j.map AC),.lst (l.map AQ)]),.val d,.no,.no]:=λd s=>by
  generalize i.map D.int=N,cs.map D.int=C,l.map AQ=Q,j.map AC=L,f.map BL=R at *
  have hin:ZS 1 [] [.val (.lst N),.val (.lst L),.val (.lst R),.val (A7 g),.val (A7 k),.val (.lst Q),.no,.no,.no,.no]=[.no]:=rfl
  simp only[Pa,ac,aA,ae,az,af,ay,ag,ax,aw,ah,av,ai,au,aj,ar,ak,Zf,Zx,ZM,AO,Zq,ZL,hin,Be,Zz,Cv,IU,By,pk,Ze,Ch,E1,Cb,Zb,Zi,Zt,ZA,An,Ah,Bb,AS,AL,A4,AZ,AA,AV,e1,Dd,e2,c4,CZ,e3,c6,e4,e5,Y,B,a7,E,e6,s1,hc,s2,i0,i1,s,hn]
 rcases G with⟨t,hE,I,s⟩|⟨z,s⟩
 ·rw[H _ s]
  have pw:Ez (.int 10) (.int 30)=some (.int (10^30)):=by simp[E7]
  have m5:=Dv x5 (10^30) (by decide)
  have tb:=qk q w p O M A t hE I s (x5%10^30)
  generalize (10:Int)^30=T at *
  generalize x5%T=c at *
  have hN:=Pu (EJ t) false rfl
  have it:FZ [EJ t,.ty "tuple"]=some (.bl true):=by unfold EJ;simp
  have lt:Cd [EJ t]=some (.int 3):=rfl
  have n3:Dy (.int 3) (.int 3)=some (.bl false):=by simp
  generalize i.map D.int=N,l.map AQ=Q,j.map AC=L,f.map BL=R,EJ t=TD at *
  simp only[O9,TL,Zf,ZM,ZO,C8,EV,C9,AO,Zq,ZD,By,pk,Ze,Zb,Zi,An,Ah,AS,AL,AA,AV,hN,it,lt,n3,KG,Gw,c5,CZ,pw,m5,tb]
 ·rw[H _ s]
  have hN:=Pu .non true rfl
  have step:∀(m:List (List At×Int)) (s8 H:Sl),(∀r∈m,A6 j r.1)->m.length<64->∃s9',TK [.val (.lst (i.map D.int)),.val (.lst (j.map AC)),s8,.val (A7 g),.val (A7 k),.val (.lst (l.map AQ)),.val (.lst [D.lst (j.map AC),.lst (l.map AQ)]),.val .non,.val (.lst (m.map BL)),H]=.next [.val (.lst (i.map D.int)),.val (.lst (j.map AC)),s8,.val (A7 g),.val (A7 k),.val (.lst (l.map AQ)),.val (.lst [D.lst (j.map AC),.lst (l.map AQ)]),.val .non,.val (.lst (m.map BL)),s9']:=λm s8 H u v=>by
   have u1:=p5 M q w p m u v
   have u2:=pS l M A q w p O z (by rw[Ps,KR,KR];exact s) m u v
   have u3:=Uz q w p l O A m u v
   have u4:=(Ul (bU (CT j k (DP l j m) []))).2
   refine⟨.val (.lst (C0 (CT j g m []))),?_⟩
   generalize i.map D.int=N,l.map AQ=Q,j.map AC=L,m.map BL=R,C0 (CT j g m [])=T1,C0 (CT j k (DP l j m) [])=T2 at *
   simp only[TK,Zf,Zx,ZM,AO,Zq,Cv,IU,By,pk,Ze,Zb,Zi,ZA,An,Ah,AS,AL,A4,AZ,AA,AV,i0,i1,u1,u2,u3,u4,Dd]
  obtain⟨y1,q1⟩:=step f (.val (.lst (f.map BL))) .no hr U
  obtain⟨y2,q2⟩:=step (f.take (f.length/2)) (.val (.lst (f.map BL))) y1 (λr h=>hr r (List.mem_of_mem_take h)) (by simp;omega)
  obtain⟨y3,q3⟩:=step [] (.val (.lst (f.map BL))) y2 (λ_ h=>nomatch h) (by simp)
  have ln:Cd [.lst (f.map BL)]=some (.int (f.length:Int)):=by simp
  have d2:=Ju (x:=(f.length:Int)) (y:=2) (by constructor<;>decide)
  have ct:Em (f.map BL) none (some ((f.length:Int)/2))=(f.take (f.length/2)).map BL:=by
   rw[RX,show(f.length:Int)/2=((f.length/2:Nat):Int)from rfl,na _ _ (T7 _)];rfl
  have s3:∀a b c:D,Zn (some [a,b,c])=some [a,b,c]:=λ_ _ _=>Zv _ (by simp)
  have s0:Zn (some ([]:List D))=some []:=rfl
  rw[CA]at q3
  generalize i.map D.int=N,l.map AQ=Q,j.map AC=L,f.map BL=R,(f.length:Int)=NL,(f.take (f.length/2)).map BL=R2 at *
  simp only[O9,TL,aq,al,ap,ao,Zf,ZM,ZO,C8,BS,ZA,Zz,ZD,By,pk,Ze,Ch,E1,Cb,Zb,Zi,Zt,An,Ah,Bb,AS,AL,AA,AV,hN,Gw,ln,d2,ct,s0,s3,Z0,Zl,A4,AZ,q1,q2,q3]
def BW(i:Nat):Au:=PySem.Challenge.pw_cubebook_k36_whole_answers_or_a_pair.main.body.getD i (.Pass ⟨0,0,0,0⟩)
abbrev cG:Au:=BW 1
abbrev cH:Au:=BW 3
abbrev UA:Au:=BW 4
abbrev cI:Au:=BW 5
abbrev cJ:Au:=BW 7
abbrev PB:Au:=BW 8
abbrev UB:Au:=BW 9
abbrev UC:Au:=BW 14
abbrev MH:Au:=BW 16
abbrev UD:Au:=BW 17
abbrev UE:Au:=BW 19
abbrev cK:Au:=BW 20
abbrev cL:Au:=BW 21
abbrev cM:Au:=BW 23
abbrev cN:Au:=BW 24
abbrev UF:Au:=BW 26
abbrev UG:Au:=BW 27
abbrev PF:Au:=BW 28
abbrev UH:Au:=BW 29
abbrev UI:Au:=BW 31
abbrev UJ:Au:=BW 32
abbrev cO:Au:=BW 33
abbrev cP:Au:=BW 35
abbrev cQ:Au:=BW 36
abbrev cR:Au:=BW 37
abbrev cS:Au:=BW 38
abbrev cU:Au:=BW 39
abbrev cV:Au:=BW 40
abbrev UK:Au:=BW 41
abbrev cW:Au:=BW 42
abbrev cX:Au:=BW 43
abbrev UL:Au:=BW 44
abbrev UM:Au:=BW 45
abbrev cY:Au:=BW 46
abbrev UN:Au:=BW 47
abbrev cZ:Au:=BW 48
abbrev c0:Au:=BW 49
abbrev c9:Au:=BW 50
abbrev db:Au:=BW 51
abbrev PH:Au:=BW 52
abbrev PJ:Au:=BW 53
abbrev de:Au:=BW 54
abbrev PL:Au:=BW 55
abbrev PM:Au:=BW 56
abbrev R6:List Ae:=["ladder","level","other"]
abbrev R8:List Ae:=["ladders","picks","axis"]
abbrev R9:List Ae:=["ladders","picks"]
abbrev PN:List Ae:=["ladder","level","chosen"]
abbrev PP:List Ae:=["ladder","kept_level","level","chosen"]
abbrev PQ:List Ae:=["ladders","kept","grain","picks"]
abbrev PR:List Ae:=["ladders","grain","to"]
abbrev PU:List Ae:=["ladders","rows","grain"]
abbrev PV:List Ae:=["ladder","level","other","chosen"]
abbrev PX:List Ae:=["ladders","kept","grain","picks"]
abbrev KU:List Ae:=["ladders","table","kept","grain","picks"]
abbrev PY:List Ae:=["_law_script","_law_k"]
abbrev PZ:List Ae:=["_law_cell","_law_place"]
abbrev P0:List Ae:=["_law_cell","_law_many"]
abbrev P1:List Ae:=["_law_way","_law_cell","_law_k"]
abbrev P2:List Ae:=["_law_cell","_law_many","_law_places"]
abbrev P4:List Ae:=["_law_cell","_law_place","_law_ladders_here"]
abbrev P5:List Ae:=["_law_value_here"]
abbrev P6:List Ae:=["_law_ladder_here","_law_value_here","_law_level"]
abbrev P7:List Ae:=["_law_ladders_here","_law_spot","_law_grain_here"]
abbrev P8:List Ae:=["_law_ladders_here","_law_rows_here","_law_grain_here"]
abbrev P9:List Ae:=["_law_cell","_law_ladders_here"]
abbrev Qa:List Ae:=["_law_cells","_law_ladders_here"]
abbrev Qb:List Ae:=["_law_ladders_here","_law_picks_here","_law_axis"]
abbrev Qc:List Ae:=["_law_script","_law_ladders_here"]
abbrev Qd:List Ae:=["_law_ladders_here","_law_rows_here","_law_grain_here","_law_picks_here"]
abbrev Qe:List Ae:=["_law_ladders_here","_law_table_here","_law_kept","_law_grain_here","_law_picks_here"]
abbrev Qf:List Ae:=["_law_ladders_here","_law_kept","_law_grain_here","_law_picks_here","_law_told","_law_amount"]
set_option genInjectivity false in
structure AD where
 a0:Ac
 d0:Bi
 a1:Ac
 d1:Bi
 a2:Ac
 d2:Bi
 a3:Ac
 d3:Bi
 a4:Ac
 d4:Bi
 a5:Ac
 d5:Bi
 a6:Ac
 d6:Bi
 a7:Ac
 d7:Bi
 a8:Ac
 d8:Bi
 a9:Ac
 d9:Bi
 a10:Ac
 d10:Bi
 a11:Ac
 d11:Bi
 a12:Ac
 d12:Bi
 a13:Ac
 d13:Bi
 a14:Ac
 d14:Bi
 a15:Ac
 d15:Bi
 a16:Ac
 d16:Bi
 a17:Ac
 d17:Bi
 a18:Ac
 d18:Bi
 a19:Ac
 d19:Bi
 a20:Ac
 d20:Bi
 a21:Ac
 d21:Bi
 a22:Ac
 d22:Bi
 a23:Ac
 d23:Bi
 a24:Ac
 d24:Bi
 a25:Ac
 d25:Bi
 a26:Ac
 d26:Bi
 a27:Ac
 d27:Bi
 a28:Ac
 d28:Bi
 a29:Ac
 d29:Bi
 a30:Ac
 d30:Bi
 a31:Ac
 d31:Bi
 a32:Ac
 d32:Bi
 a33:Ac
 d33:Bi
 a34:Ac
 d34:Bi
 a35:Ac
 d35:Bi
 a36:Ac
 d36:Bi
 a37:Ac
 d37:Bi
 a38:Ac
 d38:Bi
 a39:Ac
 d39:Bi
 a40:Ac
 d40:Bi
 a41:Ac
 d41:Bi
 a42:Ac
 d42:Bi
 a43:Ac
 d43:Bi
 a_NoGrain:Ac
structure Tx(K:Ar)(mg:Ae->Option Aa)(d:AD):Prop where
 q0:DI K mg "is_whole" cG ["thing"] d.a0 d.d0
 q1:DI K mg "value_rank" cH ["thing"] d.a1 d.d1
 q2:DI K mg "key_rank" UA ["key"] d.a2 d.d2
 q3:DI K mg "in_order" cI ["keys"] d.a3 d.d3
 q4:DI K mg "line_at" cJ ["line","level"] d.a4 d.d4
 q5:DI K mg "values_in_order" PB ["values"] d.a5 d.d5
 q6:DI K mg "lifts" UB R6 d.a6 d.d6
 q7:DI K mg "finest" UC ["ladders"] d.a7 d.d7
 q8:DI K mg "picked" MH R8 d.a8 d.d8
 q9:DI K mg "picked_everywhere" UD R9 d.a9 d.d9
 q10:DI K mg "asked_of" UE PN d.a10 d.d10
 q11:DI K mg "apart_on" cK PP d.a11 d.d11
 q12:DI K mg "apart" cL PQ d.a12 d.d12
 q13:DI K mg "cell_of" cM ["amounts"] d.a13 d.d13
 q14:DI K mg "merged" cN ["one","other"] d.a14 d.d14
 q15:DI K mg "ways_up" UF PR d.a15 d.d15
 q16:DI K mg "goes_along" UG ["ways","key"] d.a16 d.d16
 q17:DI K mg "merged_along" PF ["ways","table"] d.a17 d.d17
 q18:DI K mg "table_of" UH PU d.a18 d.d18
 q19:DI K mg "picked_lifts" UI PV d.a19 d.d19
 q20:DI K mg "picked_ways" UJ PX d.a20 d.d20
 q21:DI K mg "read" cO KU d.a21 d.d21
 q22:DI K mg "_law_cell_at" cP PY d.a22 d.d22
 q23:DI K mg "_law_stream" cQ PZ d.a23 d.d23
 q24:DI K mg "_law_word" cR P0 d.a24 d.d24
 q25:DI K mg "_law_value" cS P1 d.a25 d.d25
 q26:DI K mg "_law_ladder" cU P2 d.a26 d.d26
 q27:DI K mg "_law_ladders" cV ["_law_script"] d.a27 d.d27
 q28:DI K mg "_law_row" UK P4 d.a28 d.d28
 q29:DI K mg "_law_rank" cW P5 d.a29 d.d29
 q30:DI K mg "_law_up" cX P6 d.a30 d.d30
 q31:DI K mg "_law_key_at" UL P7 d.a31 d.d31
 q32:DI K mg "_law_key_rank" UM ["_law_spot"] d.a32 d.d32
 q33:DI K mg "_law_cell_of" cY ["_law_amounts"] d.a33 d.d33
 q34:DI K mg "_law_table" UN P8 d.a34 d.d34
 q35:DI K mg "_law_grain" cZ P9 d.a35 d.d35
 q36:DI K mg "_law_picks" c0 Qa d.a36 d.d36
 q37:DI K mg "_law_picked" c9 Qb d.a37 d.d37
 q38:DI K mg "_law_whole" db ["_law_found"] d.a38 d.d38
 q39:DI K mg "_law_rows" PH Qc d.a39 d.d39
 q40:DI K mg "_law_plain" PJ Qd d.a40 d.d40
 q41:DI K mg "_law_refused" de Qe d.a41 d.d41
 q42:DI K mg "_law_two_books" PL Qf d.a42 d.d42
 q43:DI K mg "law" PM ["_law_script"] d.a43 d.d43
 n0:mg "ValueError"=none
 n1:mg "all"=none
 n2:mg "bool"=none
 n3:mg "dict"=none
 n4:mg "enumerate"=none
 n5:mg "int"=none
 n6:mg "isinstance"=none
 n7:mg "len"=none
 n8:mg "list"=none
 n9:mg "max"=none
 n10:mg "min"=none
 n11:mg "range"=none
 n12:mg "sorted"=none
 n13:mg "str"=none
 n14:mg "sum"=none
 n15:mg "tuple"=none
 n16:mg "zip"=none
 m_NoGrain:mg "NoGrain"=some (.ref d.a_NoGrain)
 q_NoGrain:PySem.W.nsIn K Dq "NoGrain"=some (some (.ref d.a_NoGrain))
 k_NoGrain:Rz K d.a_NoGrain
 f_NoGrain:Gs K d.a_NoGrain
 p_NoGrain_ValueError:PySem.W.kitOne K (.ref d.a_NoGrain) (.type "ValueError")=some (L5 "ValueError" "NoGrain")
 x_NoGrain_NoGrain:PySem.W.exmOne K (.ref d.a_NoGrain) (.ref d.a_NoGrain)=some true
section
variable{P:AY}{w:Ai}{K:Ar}{mg:Ae->Option Aa}{base:Am}{d:AD}
theorem df{c:Ae}(h:CS.contains c=true):c="NoGrain":=by
 simpa[CS]using h
theorem qr(T:Tx K mg d):∀c D,CS.contains c=true->PySem.W.nsIn K Dq c=some (some (.ref D))->PySem.W.exmOne K (.ref D) (.ref d.a_NoGrain)=some true:=by
 intro c D h e
 rcases df h with rfl
 ·have z:=e.symm.trans T.q_NoGrain;cases z;exact T.x_NoGrain_NoGrain
theorem qt(T:Tx K mg d):∀c D,CS.contains c=true->PySem.W.nsIn K Dq c=some (some (.ref D))->Gs K D/\PySem.W.kitOne K (.ref D) (.type "ValueError")=some (L5 "ValueError" c):=by
 intro c D h e
 rcases df h with rfl
 ·have z:=e.symm.trans T.q_NoGrain;cases z;exact⟨T.f_NoGrain,T.p_NoGrain_ValueError⟩
abbrev N0:List Ae:=["thing"]
theorem S0:ZE N0 ["thing"] (Zm cG):=BV
theorem qu(T:Tx K mg d):Ax P w K mg base Bh 1 d.a0 d.d0 ["thing"] (Bu K RZ):=
 ZR (N:=N0) (g:=RY) T.q0 S0 (λ_ _ _ _ _ _ _ _ a=>(Zc (ZG (QO (ZK HU HV (by rfl) T.n6 (by rfl) (Za (Zr 0) (Za (Zg (HW (n:="int") (by rfl) T.n5 (by rfl))) Zd))) (QN (V3 (ZK HU HV (by rfl) T.n6 (by rfl) (Za (Zr 0) (Za (Zg (HW (n:="bool") (by rfl) T.n2 (by rfl))) Zd)))))))
   Zh))
abbrev N4:List Ae:=["line","level"]
theorem S4:ZE N4 ["line","level"] (Zm cJ):=BV
theorem Jw(T:Tx K mg d):Ax P w K mg base Bh 1 d.a4 d.d4 ["line","level"] (Bu K Fz):=
 ZR (N:=N4) (g:=NV) T.q4 S4 (λ_ _ _ _ _ _ _ _ a=>(Zc (ZG (V4 (WY a.units (Zk 1) (Ap (ZK Et EF (by rfl) T.n7 (by rfl) (Za (Zr 0) Zd)))) (Zj (Zk 0) (Zk 1)) GN))
   Zh))
abbrev N7:List Ae:=["ladders"]
theorem S7:ZE N7 ["ladders"] (Zm UC):=BV
theorem qv(T:Tx K mg d):Ax P w K mg base Bh 1 d.a7 d.d7 ["ladders"] (Bu K R0):=
 ZR (N:=N7) (g:=NW) T.q7 S7 (λ_ _ _ _ _ _ _ _ a=>(Zc (ZG (EW GL GQ (by rfl) T.n15 (by rfl) (Za (Zg (B2 (ZX ["ladder"] [] [] (CQ ["ladder"] [] (Zm UC)) rfl rfl  (ZY (Ci 0)) (λ_ _ _ _ _ _ _=>(Zo 0 (B4 ["ladder"]))) (λ_ _ _ _ _ _ _=>Z1) (λ_ _ _ _ _ _ _=>ZN) (by decide)))) Zd)))
   Zh))
abbrev dg:List Ae:=["amounts"]
theorem qw:ZE dg ["amounts"] (Zm cM):=BV
theorem qy(T:Tx K mg d):Ax P w K mg base Bh 1 d.a13 d.d13 ["amounts"] (Bu K NX):=
 ZR (N:=dg) (g:=R5) T.q13 qw (λ_ _ _ _ _ _ _ _ a=>(Zc (ZG (Z2 (Za (Zg (ZK Et EF (by rfl) T.n7 (by rfl) (Za (Zr 0) Zd))) (Za (Zg (ZK (WI rfl) WN (by rfl) T.n14 (by rfl) (Za (Zr 0) Zd))) (Za (Zg (ZK (jt rfl) jw (by rfl) T.n10 (by rfl) (Za (Zr 0) Zd))) (Za (Zg (ZK (ju rfl) jx (by rfl) T.n9 (by rfl) (Za (Zr 0) Zd))) Zd))))))
   Zh))
abbrev dh:List Ae:=["one","other"]
theorem qA:ZE dh ["one","other"] (Zm cN):=BV
theorem qB(T:Tx K mg d):Ax P w K mg base Bh 1 d.a14 d.d14 ["one","other"] (Bu K Mb):=
 ZR (N:=dh) (g:=R7) T.q14 qA (λ_ _ _ _ _ _ _ _ a=>(Zc (ZG (Z2 (Za (Zg (ZI (Ap (Zj (Zk 0) Zp)) (Ap (Zj (Zk 1) Zp)))) (Za (Zg (ZI (Ap (Zj (Zk 0) Zp)) (Ap (Zj (Zk 1) Zp)))) (Za (Zg (ZK (gA rfl) jr (by rfl) T.n10 (by rfl) (Za (Zg (Zj (Zk 0) Zp)) (Za (Zg (Zj (Zk 1) Zp)) Zd)))) (Za (Zg (ZK (gz rfl) jq (by rfl) T.n9 (by rfl) (Za (Zg (Zj (Zk 0) Zp)) (Za (Zg (Zj (Zk 1) Zp)) Zd)))) Zd))))))
   Zh))
abbrev dj:List Ae:=["ways","key"]
theorem qC:ZE dj ["ways","key"] (Zm UG):=BV
theorem qD(T:Tx K mg d):Ax P w K mg base Bh 1 d.a16 d.d16 ["ways","key"] (Bu K Oa):=
 ZR (N:=dj) (g:=NZ) T.q16 qC (λ_ _ _ _ _ _ _ _ a=>(Zc (ZG (ZK (VW rfl) WG (by rfl) T.n1 (by rfl) (Za (Zg (B2 (ZX ["way","value"] [] [] (CQ ["way","value"] [] (Zm UG)) rfl rfl  (RL (by rfl) T.n16 (Ci 0) (Ci 1)) (λ_ _ _ _ _ _ _=>(Ex (n:=2) rfl (ZH (Zo 0 (B4 ["way","value"])) (ZH (Zo 1 (B4 ["way","value"])) Ew)))) (λ_ _ _ _ _ _ _=>Z1) (λ_ _ _ _ _ _ _=>(ky a.units (Zk 1) (Zk 0))) (by decide)))) Zd)))
   Zh))
abbrev dm:List Ae:=PY
theorem qE:ZE dm PY (Zm cP):=BV
theorem HA(T:Tx K mg d):Ax P w K mg base Bh 1 d.a22 d.d22 PY (Bu K ZQ):=
 ZR (N:=dm) (g:=Ob) T.q22 qE (λ_ _ _ _ _ _ _ _ a=>(Zc (ZV (WY a.units (Zk 1) (Ap (ZK Et EF (by rfl) T.n7 (by rfl) (Za (Zr 0) Zd))))
   (Zc (ZG (Zj (Zk 0) (Zk 1)))
   Zh)
   Zh)
   (Zc (ZG ZN)
   Zh)))
abbrev dn:List Ae:=PZ.append ["_law_number","_law_rest","_law_some","_law_k"]
theorem Jx:ZE dn PZ (Zm cQ):=BV
theorem Qg(T:Tx K mg d):Ax P w K mg base Bh 1 d.a23 d.d23 PZ (Bu K Ks):=
 ZR (N:=dn) (g:=Od) T.q23 Jx (λ_ _ _ _ _ _ _ _ a=>(Zc (Zu 2 Jx.nd (ZF (Ap (ZI (Ap (Fu (Ap (ZF (Ap (ZI (Zk 0) (Ap (Fu Zp (Zk 1))))) Zp)) Zp)) Zp)) Zp))
   (Zc (Zu 3 Jx.nd (El (Zk 0) Zp))
   (Zc (GO (i:=4) Jx.nd rfl (Or.inl rfl) (ZZ Zd))
   (Zc (DJ DQ rfl (Wb (by rfl) T.n11 (Za (Zg ZN) (Za (Zg ZN) Zd))) (Zo 5 Jx.nd)
   (Zc (Zu 2 Jx.nd (ZF (Ap (ZI (Ap (ZI (Ap (Fu (Zk 2) Zp)) (Ap (Fu Zp (Zk 5))))) Zp)) Zp))
   (Zc (Gm (i:=4) rfl (by first|exact Or.inl rfl|exact Or.inr (Or.inl rfl)) (Zj (Ap (B2 (ZZ (Za (Zg (El (Zk 2) Zp)) (Za (Zg (ZF (Zk 3) Zp)) Zd))))) (Ap (EW MT No (by rfl) T.n5 (by rfl) (Za (Zg (QO (jA a.units (Zk 0) (Ap (IR Zp Zp))) (QN (WX a.units (Zk 3) Zp)))) Zd)))))
   (Zc (Zu 3 Jx.nd (El (Zk 3) Zp))
   Zh))))
   (Zc (Kb 4)
   Zh))))))
abbrev dq:List Ae:=P0.append ["_law_signs","_law_word_here","_law_k"]
theorem MI:ZE dq P0 (Zm cR):=BV
theorem qF(T:Tx K mg d):Ax P w K mg base Bh 1 d.a24 d.d24 P0 (Bu K Mc):=
 ZR (N:=dq) (g:=Sb) T.q24 MI (λ_ _ _ _ _ _ _ _ a=>(Zc (Zu 2 MI.nd HI)
   (Zc (Zu 3 MI.nd (Zj (Zk 2) (Ap (ZF (Zk 0) Zp))))
   (Zc (DJ DQ rfl (HP (by rfl) T.n11 (Za (Zg (Ct 1)) Zd)) (Zo 4 MI.nd)
   (Zc (Zu 3 MI.nd (ZI (Zk 3) (Ap (Zj (Zk 2) (Ap (ZF (Ap (El (Zk 0) (Ap (ZI (Zk 4) Zp)))) Zp))))))
   Zh))
   (Zc (ZG (Ct 3))
   Zh)))))
abbrev dr:List Ae:=P5
theorem qG:ZE dr P5 (Zm cW):=BV
theorem qH(T:Tx K mg d):Ax P w K mg base Bh 1 d.a29 d.d29 P5 (Bu K Oe):=
 ZR (N:=dr) (g:=Sc) T.q29 qG (λ_ _ _ _ _ _ _ _ a=>(Zc (ZV (V5 (Zk 0))
   (Zc (ZG (Z2 (Za (Zg ZN) (Za (Zg ZN) (Za (Zg HI) Zd)))))
   Zh)
   Zh)
   (Zc (ZV (Gr (Ap (ZK HU HV (by rfl) T.n6 (by rfl) (Za (Zr 0) (Za (Zg (HW (n:="int") (by rfl) T.n5 (by rfl))) Zd)))))
   (Zc (ZG (Z2 (Za (Zg ZN) (Za (Zg (Ct 0)) (Za (Zg HI) Zd)))))
   Zh)
   Zh)
   (Zc (ZG (Z2 (Za (Zg ZN) (Za (Zg ZN) (Za (Zg (Ct 0)) Zd)))))
   Zh))))
abbrev dt:List Ae:=P6.append ["_law_line"]
theorem du:ZE dt P6 (Zm cX):=BV
theorem qI(T:Tx K mg d):Ax P w K mg base Bh 1 d.a30 d.d30 P6 (Bu K Sd):=
 ZR (N:=dt) (g:=Of) T.q30 du (λ_ _ _ _ _ _ _ _ a=>(Zc (DJ DQ rfl (ZY (Ci 0)) (Zo 3 du.nd)
   (Zc (ZV (Fw a.units (Ap (Zj (Zk 3) Zp)) (Zk 1))
   (Zc (ZG (Zj (Ap (ZI (Zk 3) (Ap (Z2 (Za (Zg GN) Zd))))) (Zk 2)))
   Zh)
   Zh)
   Zh))
   (Zc (ZG GN)
   Zh)))
abbrev dw:List Ae:=["_law_amounts","_law_some"]
theorem dy:ZE dw ["_law_amounts"] (Zm cY):=BV
theorem qJ(T:Tx K mg d):Ax P w K mg base Bh 1 d.a33 d.d33 ["_law_amounts"] (Bu K Og):=
 ZR (N:=dw) (g:=Se) T.q33 dy (λ_ _ _ _ _ _ _ _ a=>(Zc (Zu 1 dy.nd (B2 (iO jF jG (by rfl) T.n12 (by rfl) (Za (Zr 0) Zd))))
   (Zc (ZG (Z2 (Za (Zg (ZK Et EF (by rfl) T.n7 (by rfl) (Za (Zr 1) Zd))) (Za (Zg (ZK (WI rfl) WN (by rfl) T.n14 (by rfl) (Za (Zr 1) Zd))) (Za (Zg (Zj (Zk 1) Zp)) (Za (Zg (Zj (Zk 1) (Ap (Wi Zp)))) Zd))))))
   Zh)))
abbrev dz:List Ae:=P9.append ["_law_levels","_law_k","_law_ladder_here"]
theorem Qh:ZE dz P9 (Zm cZ):=BV
theorem dA(T:Tx K mg d):Ax P w K mg base Bh 1 d.a35 d.d35 P9 (Bu K Oj):=
 ZR (N:=dz) (g:=Oi) T.q35 Qh (λ_ _ _ _ _ _ _ _ a=>(Zc (GO (i:=2) Qh.nd rfl (Or.inl rfl) (ZZ Zd))
   (Zc (DJ DQ rfl (HY (by rfl) T.n4 (Ci 1)) (Ex (n:=2) rfl (ZH (Zo 3 Qh.nd) (ZH (Zo 4 Qh.nd) Ew)))
   (Zc (Gm (i:=2) rfl (by first|exact Or.inl rfl|exact Or.inr (Or.inl rfl)) (ZF (Ap (El (Zk 0) (Ap (Zj (Ap (B2 (ZZ (Za (Zg ZN) (Za (Zg ZN) (Za (Zg ZN) (Za (Zg ZN) Zd))))))) (Zk 3))))) (Ap (ZI (Ap (ZK Et EF (by rfl) T.n7 (by rfl) (Za (Zg (Zj (Zk 4) Zp)) Zd))) Zp))))
   Zh))
   (Zc (ZG (EW GL GQ (by rfl) T.n15 (by rfl) (Za (Zr 2) Zd)))
   Zh))))
abbrev dB:List Ae:=Qb.append ["_law_found","_law_line","_law_good","_law_at","_law_level","_law_values"]
theorem Ix:ZE dB Qb (Zm c9):=BV
theorem dC(T:Tx K mg d):Ax P w K mg base Bh 1 d.a37 d.d37 Qb (Bu K Md):=
 ZR (N:=dB) (g:=Ol) T.q37 Ix (λ_ _ _ _ _ _ _ _ a=>(Zc (GO (i:=3) Ix.nd rfl (Or.inl rfl) (ZZ Zd))
   (Zc (DJ DQ rfl (ZY (He (Zj (Zk 0) (Zk 2)))) (Zo 4 Ix.nd)
   (Zc (Zu 5 Ix.nd FS)
   (Zc (DJ DQ rfl (ZY (Ci 1)) (Ex (n:=3) rfl (ZH (Zo 6 Ix.nd) (ZH (Zo 7 Ix.nd) (ZH (Zo 8 Ix.nd) Ew))))
   (Zc (ZV (IY (V2 (Fw a.units (Zk 6) (Zk 2)) (V1 (Q7 a.units (Ap (Zj (Ap (ZI (Zk 4) (Ap (Z2 (Za (Zg GN) Zd))))) (Zk 7))) (Zk 8)))))
   (Zc (Zu 5 Ix.nd FS)
   Zh)
   Zh)
   Zh))
   (Zc (ZV (Gr (Zk 5))
   (Zc (Gm (i:=3) rfl (by first|exact Or.inl rfl|exact Or.inr (Or.inl rfl)) (Zj (Zk 4) Zp))
   Zh)
   Zh)
   Zh))))
   (Zc (Kb 3)
   Zh))))
abbrev dE:List Ae:=["_law_found"]
theorem qK:ZE dE ["_law_found"] (Zm db):=BV
theorem qL(T:Tx K mg d):Ax P w K mg base Bh 1 d.a38 d.d38 ["_law_found"] (Bu K Om):=
 ZR (N:=dE) (g:=Sf) T.q38 qK (λ_ _ _ _ _ _ _ _ a=>(Zc (ZG (QO (ZK HU HV (by rfl) T.n6 (by rfl) (Za (Zr 0) (Za (Zg (HW (n:="int") (by rfl) T.n5 (by rfl))) Zd))) (QN (V3 (ZK HU HV (by rfl) T.n6 (by rfl) (Za (Zr 0) (Za (Zg (HW (n:="bool") (by rfl) T.n2 (by rfl))) Zd)))))))
   Zh))
abbrev N1:List Ae:=["thing"]
theorem S1:ZE N1 ["thing"] (Zm cH):=BV
theorem qM(T:Tx K mg d):Ax P w K mg base Bh 2 d.a1 d.d1 ["thing"] (Bu K On):=
 ZR (N:=N1) (g:=Sg) T.q1 S1 (λ_ _ _ _ _ _ _ _ a=>(Zc (ZV (V5 (Zk 0))
   (Zc (ZG (Z2 (Za (Zg ZN) (Za (Zg ZN) Zd))))
   Zh)
   Zh)
   (Zc (ZV (Gr (Ap (Zs (qu T) a T.q0 (Za (Zr 0) Zd))))
   (Zc (ZG (Z2 (Za (Zg ZN) (Za (Zg (Ct 0)) Zd))))
   Zh)
   Zh)
   (Zc (ZG (Z2 (Za (Zg ZN) (Za (Zg (Ct 0)) Zd))))
   Zh))))
abbrev N6:List Ae:=R6
theorem S6:ZE N6 R6 (Zm UB):=BV
theorem qN(T:Tx K mg d):Ax P w K mg base Bh 2 d.a6 d.d6 R6 (Bu K Sj):=
 ZR (N:=N6) (g:=Oo) T.q6 S6 (λ_ _ _ _ _ _ _ _ a=>(Zc (V8 (NG rfl a.units (by rfl) T.n3 (Ap (B2 (ZX ["line"] ["level","other"] [1,2] (CQ ["line"] ["level","other"] (Zm UB)) rfl rfl  (ZY (Ci 0)) (λ_ _ _ _ _ _ _=>(Zo 0 (B4 ["line","level","other"]))) (λ_ _ _ _ _ _ _=>Z1) (λ_ _ _ _ _ _ _=>(Z2 (Za (Zg (Zs (Jw T) a T.q4 (Za (Zr 0) (Za (Zr 1) Zd)))) (Za (Zg (Zs (Jw T) a T.q4 (Za (Zr 0) (Za (Zr 2) Zd)))) Zd)))) (by decide))))))
   Zh))
abbrev dF:List Ae:=PN.append ["asked","line"]
theorem UO:ZE dF PN (Zm UE):=BV
theorem qO(T:Tx K mg d):Ax P w K mg base Bh 2 d.a10 d.d10 PN (Bu K Sm):=
 ZR (N:=dF) (g:=Op) T.q10 UO (λ_ _ _ _ _ _ _ _ a=>(Zc (Lu (i:=3) UO.nd rfl (Or.inl rfl) (NG rfl a.units (by rfl) T.n3 (Ap (B2 (ZX ["line"] [] [] (CQ ["line"] [] (Zm UE)) rfl rfl  (ZY (Ci 0)) (λ_ _ _ _ _ _ _=>(Zo 0 (B4 ["line"]))) (λ_ _ _ _ _ _ _=>Z1) (λ_ _ _ _ _ _ _=>(Z2 (Za (Zg (Zj (Zk 0) Zp)) (Za (Zg (Z2 (Za (Zg HI) (Za (Zg GN) Zd)))) Zd)))) (by decide))))))
   (Zc (DJ DQ rfl (ZY (Ci 0)) (Zo 4 UO.nd)
   (Zc (ZV (Q6 a.units (Ap (Zj (Zk 4) Zp)) (Zk 2))
   (Zc (Ro (i:=3) a.units (Ap (Zj (Zk 4) Zp)) (Z2 (Za (Zg HI) (Za (Zg (Zs (Jw T) a T.q4 (Za (Zr 4) (Za (Zr 1) Zd)))) Zd))))
   Zh)
   Zh)
   Zh))
   (Zc (lh 3)
   Zh))))
abbrev dG:List Ae:=PV
theorem qP:ZE dG PV (Zm UI):=BV
theorem qQ(T:Tx K mg d):Ax P w K mg base Bh 2 d.a19 d.d19 PV (Bu K Sn):=
 ZR (N:=dG) (g:=Ou) T.q19 qP (λ_ _ _ _ _ _ _ _ a=>(Zc (V8 (NG rfl a.units (by rfl) T.n3 (Ap (B2 (ZX ["line"] ["level","other","chosen"] [1,2,3] (CQ ["line"] ["level","other","chosen"] (Zm UI)) rfl rfl  (ZY (Ci 0)) (λ_ _ _ _ _ _ _=>(Zo 0 (B4 ["line","level","other","chosen"]))) (λ_ _ _ _ _ _ _=>(QV (Q6 a.units (Ap (Zj (Zk 0) Zp)) (Zk 3)))) (λ_ _ _ _ _ _ _=>(Z2 (Za (Zg (Zs (Jw T) a T.q4 (Za (Zr 0) (Za (Zr 1) Zd)))) (Za (Zg (Zs (Jw T) a T.q4 (Za (Zr 0) (Za (Zr 2) Zd)))) Zd)))) (by decide))))))
   Zh))
abbrev dH:List Ae:=P1.append ["_law_number","_law_word_here","_law_letters","_law_at","_law_two"]
theorem KW:ZE dH P1 (Zm cS):=BV
theorem qR(T:Tx K mg d):Ax P w K mg base Bh 2 d.a25 d.d25 P1 (Bu K FA):=
 ZR (N:=dH) (g:=Kw) T.q25 KW (λ_ _ _ _ _ _ _ _ a=>(Zc (Zu 3 KW.nd (ZF (Ap (El (Zk 1) Zp)) (Ap (IR Zp Zp))))
   (Zc (ZV (Fw a.units (Zk 0) Zp)
   (Zc (ZG (ZI (Zk 3) (Zk 2)))
   Zh)
   Zh)
   (Zc (ZV (Fw a.units (Zk 0) Zp)
   (Zc (ZG (Lz (Ap (Lz Zp (Zk 3))) (Zk 2)))
   Zh)
   Zh)
   (Zc (Zu 4 KW.nd (Zs (qF T) a T.q24 (Za (Zg (El (Zk 1) Zp)) (Za (Zg (ZF (Zk 1) Zp)) Zd))))
   (Zc (ZV (Fw a.units (Zk 0) Zp)
   (Zc (ZG (ZI (Zk 4) (Ap (jH PySem.F.plainAttrs_str PySem.F.slot_str_zfill PySem.F.type_str_zfill kF kH (Ap (EW gB js (by rfl) T.n13 (by rfl) (Za (Zr 2) Zd))) (Za (Zg (ZI Zp (Ap (ZF (Ap (El (Zk 1) Zp)) Zp)))) Zd)))))
   Zh)
   Zh)
   (Zc (Zu 5 KW.nd HI)
   (Zc (Zu 6 KW.nd (ZF (Ap (El (Zk 1) Zp)) (Ap (ZI (Ap (ZK Et EF (by rfl) T.n7 (by rfl) (Za (Zr 4) Zd))) Zp))))
   (Zc (Zu 7 KW.nd (ZI (Ap (Zj (Zk 5) (Ap (El (Zk 2) Zp)))) (Ap (Zj (Zk 5) (Ap (ZF (Ap (ZI (Zk 2) (Ap (El (Zk 1) Zp)))) Zp))))))
   (Zc (ZG (ZI (Ap (ZI (Ap (Hi (Zk 4) IS (Gn (Zk 6)))) (Zk 7))) (Ap (Hi (Zk 4) (Gn (Zk 6)) IS))))
   Zh))))))))))
abbrev dI:List Ae:=P4.append ["_law_s","_law_spot","_law_amount"]
theorem MJ:ZE dI P4 (Zm UK):=BV
theorem qS(T:Tx K mg d):Ax P w K mg base Bh 2 d.a28 d.d28 P4 (Bu K SJ):=
 ZR (N:=dI) (g:=Mi) T.q28 MJ (λ_ _ _ _ _ _ _ _ a=>(Zc (Zu 3 MJ.nd (Zs (Qg T) a T.q23 (Za (Zr 0) (Za (Zr 1) Zd))))
   (Zc (Zu 4 MJ.nd (EW GL GQ (by rfl) T.n15 (by rfl) (Za (Zg (B2 (ZX ["_law_k","_law_ladder_here"] ["_law_s"] [3] (CQ ["_law_k","_law_ladder_here"] ["_law_s"] (Zm UK)) rfl rfl  (HY (by rfl) T.n4 (Ci 2)) (λ_ _ _ _ _ _ _=>(Ex (n:=2) rfl (ZH (Zo 0 (B4 ["_law_k","_law_ladder_here","_law_s"])) (ZH (Zo 1 (B4 ["_law_k","_law_ladder_here","_law_s"])) Ew)))) (λ_ _ _ _ _ _ _=>Z1) (λ_ _ _ _ _ _ _=>(Zj (Ap (Zj (Zk 1) (Ap (ZF (Ap (Zj (Zk 2) (Zk 0))) (Ap (ZK Et EF (by rfl) T.n7 (by rfl) (Za (Zr 1) Zd))))))) Zp)) (by decide)))) Zd)))
   (Zc (Zu 5 MJ.nd (Fu (Ap (ZF (Ap (lR (Zk 0) (Ap (Zj (Ap (B2 (ZZ (Za (Zg ZN) (Za (Zg (Fu Zp (Ap (IR Zp Zp)))) Zd))))) (Ap (EW MT No (by rfl) T.n5 (by rfl) (Za (Zg (jz a.units (Zk 0) (Ap (IR Zp Zp)))) Zd))))))) (Ap (IR Zp Zp)))) (Ap (Lz Zp (Ap (Fu Zp (Ap (ZF (Ap (Zj (Zk 3) Zp)) Zp))))))))
   (Zc (ZV (Fw a.units (Ap (ZF (Ap (Zj (Zk 3) Zp)) Zp)) Zp)
   (Zc (Zu 5 MJ.nd (Lz (Ap (ZF (Ap (Zj (Zk 3) Zp)) Zp)) Zp))
   Zh)
   Zh)
   (Zc (ZG (Z2 (Za (Zg (Ct 4)) (Za (Zg (Ct 5)) Zd))))
   Zh))))))
abbrev dJ:List Ae:=P7
theorem qT:ZE dJ P7 (Zm UL):=BV
theorem qU(T:Tx K mg d):Ax P w K mg base Bh 2 d.a31 d.d31 P7 (Bu K SK):=
 ZR (N:=dJ) (g:=Oy) T.q31 qT (λ_ _ _ _ _ _ _ _ a=>(Zc (ZG (EW GL GQ (by rfl) T.n15 (by rfl) (Za (Zg (B2 (ZX ["_law_ladder_here","_law_value_here","_law_level"] [] [] (CQ ["_law_ladder_here","_law_value_here","_law_level"] [] (Zm UL)) rfl rfl  (md (by rfl) T.n16 (Ci 0) (Ci 1) (Ci 2)) (λ_ _ _ _ _ _ _=>(Ex (n:=3) rfl (ZH (Zo 0 (B4 ["_law_ladder_here","_law_value_here","_law_level"])) (ZH (Zo 1 (B4 ["_law_ladder_here","_law_value_here","_law_level"])) (ZH (Zo 2 (B4 ["_law_ladder_here","_law_value_here","_law_level"])) Ew))))) (λ_ _ _ _ _ _ _=>Z1) (λ_ _ _ _ _ _ _=>(Zs (qI T) a T.q30 (Za (Zr 0) (Za (Zr 1) (Za (Zr 2) Zd))))) (by decide)))) Zd)))
   Zh))
abbrev dL:List Ae:=["_law_spot"]
theorem qV:ZE dL ["_law_spot"] (Zm UM):=BV
theorem qW(T:Tx K mg d):Ax P w K mg base Bh 2 d.a32 d.d32 ["_law_spot"] (Bu K OA):=
 ZR (N:=dL) (g:=Oz) T.q32 qV (λ_ _ _ _ _ _ _ _ a=>(Zc (FX (ZX ["_law_value_here"] [] [] (CQ ["_law_value_here"] [] (Zm UM)) rfl rfl  (ZY (Ci 0)) (λ_ _ _ _ _ _ _=>(Zo 0 (B4 ["_law_value_here"]))) (λ_ _ _ _ _ _ _=>Z1) (λ_ _ _ _ _ _ _=>(Zs (qH T) a T.q29 (Za (Zr 0) Zd))) (by decide)))
   Zh))
abbrev dM:List Ae:=Qa.append ["_law_picks_here","_law_place","_law_cell","_law_s","_law_axis","_law_ladder_here","_law_level","_law_values","_law_k"]
theorem GC:ZE dM Qa (Zm c0):=BV
theorem qX(T:Tx K mg d):Ax P w K mg base Bh 2 d.a36 d.d36 Qa (Bu K SO):=
 ZR (N:=dM) (g:=OD) T.q36 GC (λ_ _ _ _ _ _ _ _ a=>(Zc (GO (i:=2) GC.nd rfl (Or.inl rfl) (ZZ Zd))
   (Zc (DJ DQ rfl (HY (by rfl) T.n4 (Ci 0)) (Ex (n:=2) rfl (ZH (Zo 3 GC.nd) (ZH (Zo 4 GC.nd) Ew)))
   (Zc (Zu 5 GC.nd (Zs (Qg T) a T.q23 (Za (Zr 4) (Za (Zg (ZI Zp (Zk 3))) Zd))))
   (Zc (Zu 6 GC.nd (ZF (Ap (Zj (Zk 5) Zp)) (Ap (ZK Et EF (by rfl) T.n7 (by rfl) (Za (Zr 1) Zd)))))
   (Zc (Zu 7 GC.nd (Zj (Zk 1) (Zk 6)))
   (Zc (Zu 8 GC.nd (ZF (Ap (Zj (Zk 5) Zp)) (Ap (ZI (Ap (ZK Et EF (by rfl) T.n7 (by rfl) (Za (Zg (Zj (Zk 7) Zp)) Zd))) Zp))))
   (Zc (GO (i:=9) GC.nd rfl (Or.inl rfl) (ZZ Zd))
   (Zc (DJ DQ rfl (HP (by rfl) T.n11 (Za (Zg (Zj (Ap (B2 (ZZ (Za (Zg ZN) (Za (Zg ZN) (Za (Zg ZN) (Za (Zg ZN) (Za (Zg ZN) (Za (Zg ZN) (Za (Zg ZN) (Za (Zg ZN) Zd))))))))))) (Ap (ZF (Ap (Zj (Zk 5) Zp)) Zp)))) Zd)) (Zo 10 GC.nd)
   (Zc (Gm (i:=9) rfl (by first|exact Or.inl rfl|exact Or.inr (Or.inl rfl)) (Zj (Ap (ZI (Ap (Zj (Zk 7) (Ap (ZF (Ap (Zj (Zk 5) (Ap (ZI Zp (Zk 10))))) (Ap (ZK Et EF (by rfl) T.n7 (by rfl) (Za (Zr 7) Zd))))))) (Ap (Z2 (Za (Zg GN) Zd))))) (Zk 8)))
   Zh))
   (Zc (ZV (Fw a.units (Ap (ZF (Ap (Zj (Zk 5) Zp)) Zp)) Zp)
   (Zc (Gm (i:=9) rfl (by first|exact Or.inl rfl|exact Or.inr (Or.inl rfl)) (Zj (Ap (B2 (ZZ (Za (Zg HI) (Za (Zg GN) (Za (Zg (IR Zp Zp)) Zd)))))) (Ap (ZF (Ap (El (Ap (Zj (Zk 5) Zp)) Zp)) Zp))))
   Zh)
   Zh)
   (Zc (ZV (Fw a.units (Ap (ZF (Ap (Zj (Zk 5) Zp)) Zp)) Zp)
   (Zc (Zu 9 GC.nd (EW GL GQ (by rfl) T.n15 (by rfl) (Za (Zr 9) Zd)))
   Zh)
   Zh)
   (Zc (iU 9 (Gm (i:=2) rfl (by first|exact Or.inl rfl|exact Or.inr (Or.inl rfl)) (Z2 (Za (Zg (Ct 6)) (Za (Zg (Ct 8)) (Za (Zg (Ct 9)) Zd))))))
   Zh))))))))))
   (Zc (Kb 2)
   Zh))))
abbrev N2:List Ae:=["key"]
theorem S2:ZE N2 ["key"] (Zm UA):=BV
theorem qY(T:Tx K mg d):Ax P w K mg base Bh 3 d.a2 d.d2 ["key"] (Bu K Mj):=
 ZR (N:=N2) (g:=SR) T.q2 S2 (λ_ _ _ _ _ _ _ _ a=>(Zc (ZG (EW GL GQ (by rfl) T.n15 (by rfl) (Za (Zg (B2 (ZX ["thing"] [] [] (CQ ["thing"] [] (Zm UA)) rfl rfl  (ZY (Ci 0)) (λ_ _ _ _ _ _ _=>(Zo 0 (B4 ["thing"]))) (λ_ _ _ _ _ _ _=>Z1) (λ_ _ _ _ _ _ _=>(Zs (qM T) a T.q1 (Za (Zr 0) Zd))) (by decide)))) Zd)))
   Zh))
abbrev dN:List Ae:=PP.append ["asked","firsts","line","first"]
theorem MK:ZE dN PP (Zm cK):=BV
theorem qZ(T:Tx K mg d):Ax P w K mg base Bh 3 d.a11 d.d11 PP (Bu K Mk):=
 ZR (N:=dN) (g:=YK) T.q11 MK (λ_ _ _ _ _ _ _ _ a=>(Zc (Zu 4 MK.nd (Zs (qO T) a T.q10 (Za (Zr 0) (Za (Zr 2) (Za (Zr 3) Zd)))))
   (Zc (Lu (i:=5) MK.nd rfl (Or.inl rfl) Rn)
   (Zc (DJ DQ rfl (ZY (Ci 0)) (Zo 6 MK.nd)
   (Zc (kC (i:=7) MK.nd rfl (Or.inl rfl) (kB (i:=5) a.units (Ap (Zs (Jw T) a T.q4 (Za (Zr 6) (Za (Zr 1) Zd)))) (Zj (Zk 6) Zp)))
   (Zc (ZV (Kc a.units (Ap (Kn a.units (Zk 4) (Zk 7) (λ_ _=>rfl))) (Ap (Kn a.units (Zk 4) (Ap (Zj (Zk 6) Zp)) (λ_ _=>rfl))))
   (Zc (ZG (Z2 (Za (Zg (Ct 7)) (Za (Zg (Zj (Zk 6) Zp)) Zd))))
   Zh)
   Zh)
   Zh)))
   (Zc (ZG GN)
   Zh)))))
abbrev dO:List Ae:=PR
theorem ra:ZE dO PR (Zm UF):=BV
theorem rb(T:Tx K mg d):Ax P w K mg base Bh 3 d.a15 d.d15 PR (Bu K Ta):=
 ZR (N:=dO) (g:=OF) T.q15 ra (λ_ _ _ _ _ _ _ _ a=>(Zc (FX (ZX ["axis","ladder"] ["grain","to"] [1,2] (CQ ["axis","ladder"] ["grain","to"] (Zm UF)) rfl rfl  (HY (by rfl) T.n4 (Ci 0)) (λ_ _ _ _ _ _ _=>(Ex (n:=2) rfl (ZH (Zo 0 (B4 ["axis","ladder","grain","to"])) (ZH (Zo 1 (B4 ["axis","ladder","grain","to"])) Ew)))) (λ_ _ _ _ _ _ _=>Z1) (λ_ _ _ _ _ _ _=>(Zs (qN T) a T.q6 (Za (Zr 1) (Za (Zg (Zj (Zk 2) (Zk 0))) (Za (Zg (Zj (Zk 3) (Zk 0))) Zd))))) (by decide)))
   Zh))
abbrev dP:List Ae:=P2.append ["_law_s","_law_widths","_law_j","_law_lines","_law_k","_law_at","_law_line","_law_near"]
theorem F7:ZE dP P2 (Zm cU):=BV
theorem rc(T:Tx K mg d):Ax P w K mg base Bh 3 d.a26 d.d26 P2 (Bu K OJ):=
 ZR (N:=dP) (g:=OI) T.q26 F7 (λ_ _ _ _ _ _ _ _ a=>(Zc (Zu 3 F7.nd (Zs (Qg T) a T.q23 (Za (Zr 0) (Za (Zr 2) Zd))))
   (Zc (GO (i:=4) F7.nd rfl (Or.inl rfl) (ZZ (Za (Zg ZN) Zd)))
   (Zc (DJ DQ rfl (Wb (by rfl) T.n11 (Za (Zg ZN) (Za (Zg ZN) Zd))) (Zo 5 F7.nd)
   (Zc (Gm (i:=4) rfl (by first|exact Or.inl rfl|exact Or.inr (Or.inl rfl)) (Zj (Ap (B2 (ZZ (Za (Zg (ZI Zp (Ap (ZF (Ap (Zj (Zk 3) (Zk 5))) Zp)))) (Za (Zg (ZI Zp (Ap (ZF (Ap (Zj (Zk 3) (Zk 5))) Zp)))) (Za (Zg ZN) (Za (Zg ZN) Zd))))))) (Ap (ZF (Ap (El (Ap (Zj (Zk 3) (Zk 5))) Zp)) Zp))))
   Zh))
   (Zc (GO (i:=6) F7.nd rfl (Or.inl rfl) (ZZ Zd))
   (Zc (DJ DQ rfl (HP (by rfl) T.n11 (Za (Zg (Ct 1)) Zd)) (Zo 7 F7.nd)
   (Zc (Zu 8 F7.nd (Zj (Ap (B2 (ZZ (Za (Zg (ZF (Ap (ZI (Ap (Fu (Zk 7) (Ap (ZI Zp (Ap (ZF (Ap (Zj (Zk 3) Zp)) Zp)))))) (Ap (Zj (Zk 3) Zp)))) Zp)) (Za (Zg (Ct 7)) Zd))))) (Ap (ZF (Zk 0) Zp))))
   (Zc (GO (i:=9) F7.nd rfl (Or.inl rfl) (ZZ Zd))
   (Zc (DJ DQ rfl (HP (by rfl) T.n11 (Za (Zg (Ct 2)) Zd)) (Zo 5 F7.nd)
   (Zc (ZV (IY (V2 (WZ a.units (Zk 5) Zp) (V1 (Fw a.units (Ap (ZF (Zk 0) Zp)) Zp))))
   (Zc (Zu 8 F7.nd (ZF (Ap (El (Ap (Zj (Zk 3) (Ap (ZI (Ap (Lz (Ap (Fu Zp (Zk 5))) Zp)) (Zk 8))))) Zp)) Zp))
   Zh)
   (Zc (ZV (WZ a.units (Zk 5) Zp)
   (Zc (Zu 8 F7.nd (ZF (Ap (ZI (Ap (Fu (Zk 8) (Ap (ZI Zp (Ap (ZF (Ap (Zj (Zk 3) (Ap (ZI Zp (Zk 5))))) Zp)))))) (Ap (Zj (Zk 3) (Ap (ZI Zp (Zk 5))))))) (Ap (Zj (Zk 4) (Zk 5)))))
   Zh)
   Zh)
   Zh))
   (Zc (Zu 10 F7.nd (ZI (Zk 0) (Ap (Fu (Ap (Fu (Zk 5) (Ap (ZF (Ap (Zj (Zk 3) Zp)) Zp)))) Zp))))
   (Zc (Gm (i:=9) rfl (by first|exact Or.inl rfl|exact Or.inr (Or.inl rfl)) (Zs (qR T) a T.q25 (Za (Zg (ZF (Ap (Zj (Zk 3) (Ap (ZI Zp (Zk 5))))) Zp)) (Za (Zr 10) (Za (Zr 8) Zd)))))
   Zh))))
   (Zc (Gm (i:=6) rfl (by first|exact Or.inl rfl|exact Or.inr (Or.inl rfl)) (EW GL GQ (by rfl) T.n15 (by rfl) (Za (Zr 9) Zd)))
   Zh)))))
   (Zc (Kb 6)
   Zh)))))))
abbrev dQ:List Ae:=Qc.append ["_law_head","_law_cells"]
theorem UP:ZE dQ Qc (Zm PH):=BV
theorem rd(T:Tx K mg d):Ax P w K mg base Bh 3 d.a39 d.d39 Qc (Bu K Tc):=
 ZR (N:=dQ) (g:=OM) T.q39 UP (λ_ _ _ _ _ _ _ _ a=>(Zc (Zu 2 UP.nd (Zs (HA T) a T.q22 (Za (Zr 0) (Za (Zg ZN) Zd))))
   (Zc (Zu 3 UP.nd (ZI (Ap (Hi (Zk 0) (Gn Zp) (Gn Zp))) (Ap (B2 (ZX ["_law_k"] ["_law_head"] [2] (CQ ["_law_k"] ["_law_head"] (Zm PH)) rfl rfl  (HP (by rfl) T.n11 (Za (Zg (ZF (Zk 2) Zp)) Zd)) (λ_ _ _ _ _ _ _=>(Zo 0 (B4 ["_law_k","_law_head"]))) (λ_ _ _ _ _ _ _=>Z1) (λ_ _ _ _ _ _ _=>(ZI (Ap (El (Zk 1) Zp)) (Ap (Fu Zp (Zk 0))))) (by decide))))))
   (Zc (FX (ZX ["_law_k","_law_cell"] ["_law_ladders_here"] [1] (CQ ["_law_k","_law_cell"] ["_law_ladders_here"] (Zm PH)) rfl rfl  (HY (by rfl) T.n4 (Ci 3)) (λ_ _ _ _ _ _ _=>(Ex (n:=2) rfl (ZH (Zo 0 (B4 ["_law_k","_law_cell","_law_ladders_here"])) (ZH (Zo 1 (B4 ["_law_k","_law_cell","_law_ladders_here"])) Ew)))) (λ_ _ _ _ _ _ _=>Z1) (λ_ _ _ _ _ _ _=>(Zs (qS T) a T.q28 (Za (Zr 1) (Za (Zr 0) (Za (Zr 2) Zd))))) (by decide)))
   Zh))))
abbrev dR:List Ae:=["_law_script","_law_cell","_law_ladders_here","_law_k","_law_s"]
theorem ML:ZE dR ["_law_script"] (Zm cV):=BV
theorem rf(T:Tx K mg d):Ax P w K mg base Bh 4 d.a27 d.d27 ["_law_script"] (Bu K Td):=
 ZR (N:=dR) (g:=OO) T.q27 ML (λ_ _ _ _ _ _ _ _ a=>(Zc (Zu 1 ML.nd (Zs (HA T) a T.q22 (Za (Zr 0) (Za (Zg ZN) Zd))))
   (Zc (GO (i:=2) ML.nd rfl (Or.inl rfl) (ZZ Zd))
   (Zc (DJ DQ rfl (HP (by rfl) T.n11 (Za (Zg (ZI (Ap (ZI Zp (Ap (ZF (Zk 1) Zp)))) (Ap (EW MT No (by rfl) T.n5 (by rfl) (Za (Zg (WW a.units (Ap (ZF (Zk 1) Zp)) Zp)) Zd))))) Zd)) (Zo 3 ML.nd)
   (Zc (Zu 4 ML.nd (Zs (Qg T) a T.q23 (Za (Zg (Zs (HA T) a T.q22 (Za (Zr 0) (Za (Zg (ZI Zp (Zk 3))) Zd)))) (Za (Zr 3) Zd))))
   (Zc (Gm (i:=2) rfl (by first|exact Or.inl rfl|exact Or.inr (Or.inl rfl)) (Zs (rc T) a T.q26 (Za (Zg (Zs (HA T) a T.q22 (Za (Zr 0) (Za (Zg (ZI Zp (Zk 3))) Zd)))) (Za (Zg (ZI Zp (Ap (ZF (Ap (Zj (Zk 4) Zp)) Zp)))) (Za (Zg (ZI Zp (Ap (ZF (Ap (Zj (Zk 4) Zp)) Zp)))) Zd)))))
   Zh)))
   (Zc (Kb 2)
   Zh)))))
abbrev dS:List Ae:=P8.append ["_law_amounts","_law_spot","_law_amount","_law_far"]
theorem MM:ZE dS P8 (Zm UN):=BV
theorem UQ(T:Tx K mg d):Ax P w K mg base Bh 5 d.a34 d.d34 P8 (Bu K Mn):=
 ZR (N:=dS) (g:=OP) T.q34 MM (λ_ _ _ _ _ _ _ _ a=>(Zc (Lu (i:=3) MM.nd rfl (Or.inr rfl) Rn)
   (Zc (DJ DQ rfl (ZY (Ci 1)) (Ex (n:=2) rfl (ZH (Zo 4 MM.nd) (ZH (Zo 5 MM.nd) Ew)))
   (Zc (Zu 6 MM.nd (Zs (qU T) a T.q31 (Za (Zr 0) (Za (Zr 4) (Za (Zr 2) Zd)))))
   (Zc (Ro (i:=3) a.units (Zk 6) (ZI (Ap (lU (i:=3) a.units (Zk 6) (B2 (ZZ Zd)))) (Ap (B2 (ZZ (Za (Zg (Ct 5)) Zd))))))
   Zh)))
   (Zc (FX (ZX ["_law_spot"] ["_law_amounts"] [3] (CQ ["_law_spot"] ["_law_amounts"] (Zm UN)) rfl rfl  (ZY (He (B2 (mv rfl (qW T) (a.mono (by decide)) (by rfl) T.n12 (by rfl) (by rfl) T.q32.m T.q32.b (Zk 3))))) (λ_ _ _ _ _ _ _=>(Zo 0 (B4 ["_law_spot","_law_amounts"]))) (λ_ _ _ _ _ _ _=>Z1) (λ_ _ _ _ _ _ _=>(Z2 (Za (Zg (Ct 0)) (Za (Zg (Zs (qJ T) a T.q33 (Za (Zg (Kn a.units (Zk 1) (Zk 0) (λ_ _=>rfl))) Zd))) Zd)))) (by decide)))
   Zh))))
abbrev N3:List Ae:=["keys","told","key"]
theorem S3:ZE N3 ["keys"] (Zm cI):=BV
theorem dU(T:Tx K mg d):Ax P w K mg base Bh 6 d.a3 d.d3 ["keys"] (Bu K OR):=
 ZR (N:=N3) (g:=OQ) T.q3 S3 (λ_ _ _ _ _ _ _ _ a=>(Zc (GO (i:=1) S3.nd rfl (Or.inl rfl) (ZZ Zd))
   (Zc (DJ DQ rfl (ZY (He (B2 (k7 (qY T) (a.mono (by decide)) (by rfl) T.n12 (by rfl) (by rfl) T.q2.m T.q2.b (Zk 0))))) (Zo 2 S3.nd)
   (Zc (ZV (IY (IP (Ll (Gr (Zk 1))) (Lm (Kc a.units (Ap (Zj (Zk 1) (Ap (Wi Zp)))) (Zk 2)))))
   (Zc (Gm (i:=1) rfl (by first|exact Or.inl rfl|exact Or.inr (Or.inl rfl)) (Ct 2))
   Zh)
   Zh)
   Zh))
   (Zc (Kb 1)
   Zh))))
abbrev dV:List Ae:=Qd.append ["_law_some","_law_left"]
theorem UR:ZE dV Qd (Zm PJ):=BV
theorem US(T:Tx K mg d):Ax P w K mg base Bh 6 d.a40 d.d40 Qd (Bu K Mo):=
 ZR (N:=dV) (g:=OS) T.q40 UR (λ_ _ _ _ _ _ _ _ a=>(Zc (Zu 4 UR.nd (B2 (ZX ["_law_axis"] ["_law_ladders_here","_law_picks_here"] [0,3] (CQ ["_law_axis"] ["_law_ladders_here","_law_picks_here"] (Zm PJ)) rfl rfl  (HP (by rfl) T.n11 (Za (Zg (ZK Et EF (by rfl) T.n7 (by rfl) (Za (Zr 0) Zd))) Zd)) (λ_ _ _ _ _ _ _=>(Zo 0 (B4 ["_law_axis","_law_ladders_here","_law_picks_here"]))) (λ_ _ _ _ _ _ _=>Z1) (λ_ _ _ _ _ _ _=>(Zs (dC T) a T.q37 (Za (Zr 1) (Za (Zr 2) (Za (Zr 0) Zd))))) (by decide))))
   (Zc (Lw (i:=5) ["_law_row_here"] ["_law_some"] [4] (CQ ["_law_row_here"] ["_law_some"] (Zm PJ)) rfl rfl UR.nd rfl rfl (ZY (Ci 1)) (λ_ _ _ _ _ _ _=>(Zo 0 (B4 ["_law_row_here","_law_some"]))) (λ_ _ _ _ _ _ _=>(QV (Gr (Ap (ZK (VW rfl) WG (by rfl) T.n1 (by rfl) (Za (Zg (B2 (ZX ["_law_axis","_law_value_here"] ["_law_some"] [1] (m4 ["_law_axis","_law_value_here"] ["_law_some"]) rfl rfl  (HY (by rfl) T.n4 (He (Zj (Zk 0) Zp))) (λ_ _ _ _ _ _ _=>(Ex (n:=2) rfl (ZH (Zo 0 (B4 ["_law_axis","_law_value_here","_law_some"])) (ZH (Zo 1 (B4 ["_law_axis","_law_value_here","_law_some"])) Ew)))) (λ_ _ _ _ _ _ _=>Z1) (λ_ _ _ _ _ _ _=>(jB a.units (Zk 1) (Ap (Zj (Zk 2) (Zk 0))))) (by decide)))) Zd)))))) (λ_ _ _ _ _ _ _=>(Ct 0)) (by decide))
   (Zc (FX (NU (UQ T) a T.q34 (Za (Zr 0) (Za (Zr 5) (Za (Zr 2) Zd)))))
   Zh))))
abbrev N5:List Ae:=["values"]
theorem S5:ZE N5 ["values"] (Zm PB):=BV
theorem rg(T:Tx K mg d):Ax P w K mg base Bh 7 d.a5 d.d5 ["values"] (Bu K Tk):=
 ZR (N:=N5) (g:=OT) T.q5 S5 (λ_ _ _ _ _ _ _ _ a=>(Zc (FX (ZX ["key"] [] [] (CQ ["key"] [] (Zm PB)) rfl rfl  (ZY (He (Zs (dU T) a T.q3 (Za (Zg (B2 (ZX ["value"] [] [] (CQ ["value"] [] (Zm PB)) rfl rfl  (ZY (Ci 0)) (λ_ _ _ _ _ _ _=>(Zo 0 (B4 ["value"]))) (λ_ _ _ _ _ _ _=>Z1) (λ_ _ _ _ _ _ _=>(Z2 (Za (Zg (Ct 0)) Zd))) (by decide)))) Zd)))) (λ_ _ _ _ _ _ _=>(Zo 0 (B4 ["key"]))) (λ_ _ _ _ _ _ _=>Z1) (λ_ _ _ _ _ _ _=>(Zj (Zk 0) Zp)) (by decide)))
   Zh))
abbrev dW:List Ae:=["ways","table","cells","key","cell","there"]
theorem MN:ZE dW ["ways","table"] (Zm PF):=BV
theorem dX(T:Tx K mg d):Ax P w K mg base Bh 7 d.a17 d.d17 ["ways","table"] (Bu K OV):=
 ZR (N:=dW) (g:=OU) T.q17 MN (λ_ _ _ _ _ _ _ _ a=>(Zc (Lu (i:=2) MN.nd rfl (Or.inr rfl) Rn)
   (Zc (DJ DQ rfl (ZY (Ci 1)) (Ex (n:=2) rfl (ZH (Zo 3 MN.nd) (ZH (Zo 4 MN.nd) Ew)))
   (Zc (ZV (Gr (Ap (Zs (qD T) a T.q16 (Za (Zr 0) (Za (Zr 3) Zd)))))
   (Zc (Zu 5 MN.nd (EW GL GQ (by rfl) T.n15 (by rfl) (Za (Zg (B2 (ZX ["way","value"] [] [] (CQ ["way","value"] [] (Zm PF)) rfl rfl  (RL (by rfl) T.n16 (Ci 0) (Ci 3)) (λ_ _ _ _ _ _ _=>(Ex (n:=2) rfl (ZH (Zo 0 (B4 ["way","value"])) (ZH (Zo 1 (B4 ["way","value"])) Ew)))) (λ_ _ _ _ _ _ _=>Z1) (λ_ _ _ _ _ _ _=>(Kn a.units (Zk 0) (Zk 1) (λ_ _=>rfl))) (by decide)))) Zd)))
   (Zc (Ro (i:=2) a.units (Zk 5) (V4 (Xr a.units (Zk 5) (Zk 2)) (Zs (qB T) a T.q14 (Za (Zg (Kn a.units (Zk 2) (Zk 5) (λ_ _=>rfl))) (Za (Zr 4) Zd))) (Ct 4)))
   Zh))
   Zh)
   Zh))
   (Zc (FX (ZX ["key"] ["cells"] [2] (CQ ["key"] ["cells"] (Zm PF)) rfl rfl  (ZY (He (Zs (dU T) a T.q3 (Za (Zg (B2 (Nb (mo rfl) mr (by rfl) T.n8 (by rfl) (Za (Zr 2) Zd)))) Zd)))) (λ_ _ _ _ _ _ _=>(Zo 0 (B4 ["key","cells"]))) (λ_ _ _ _ _ _ _=>Z1) (λ_ _ _ _ _ _ _=>(Z2 (Za (Zg (Ct 0)) (Za (Zg (Kn a.units (Zk 1) (Zk 0) (λ_ _=>rfl))) Zd)))) (by decide)))
   Zh))))
abbrev N8:List Ae:=R8.append ["lines","pick","among"]
theorem S8:ZE N8 R8 (Zm MH):=BV
theorem rh(T:Tx K mg d):Ax P w K mg base Bh 8 d.a8 d.d8 R8 (Bu K Tq):=
 ZR (N:=N8) (g:=OW) T.q8 S8 (λ_ _ _ _ _ _ _ _ a=>(Zc (Zu 3 S8.nd (Zj (Zk 0) (Zk 2)))
   (Zc (DJ DQ rfl (ZY (Ci 1)) (Zo 4 S8.nd)
   (Zc (ZV (Fw a.units (Ap (Zj (Zk 4) Zp)) (Zk 2))
   (Zc (Lu (i:=5) S8.nd rfl (Or.inr rfl) (NG rfl a.units (by rfl) T.n3 (Ap (B2 (ZX ["value"] [] [] (CQ ["value"] [] (Zm MH)) rfl rfl  (ZY (He (Zj (Zk 4) Zp))) (λ_ _ _ _ _ _ _=>(Zo 0 (B4 ["value"]))) (λ_ _ _ _ _ _ _=>Z1) (λ_ _ _ _ _ _ _=>(Z2 (Za (Zg (Ct 0)) (Za (Zg FS) Zd)))) (by decide))))))
   (Zc (Lw (i:=3) ["line"] ["pick","among"] [4,5] (CQ ["line"] ["pick","among"] (Zm MH)) rfl rfl S8.nd rfl rfl (ZY (Ci 3)) (λ_ _ _ _ _ _ _=>(Zo 0 (B4 ["line","pick","among"]))) (λ_ _ _ _ _ _ _=>(QV (Xr a.units (Ap (Zs (Jw T) a T.q4 (Za (Zr 0) (Za (Zg (Zj (Zk 1) Zp)) Zd)))) (Zk 2)))) (λ_ _ _ _ _ _ _=>(Ct 0)) (by decide))
   Zh))
   Zh)
   Zh))
   (Zc (FX (NU (rg T) a T.q5 (Za (Zg (B2 (ZX ["line"] [] [] (CQ ["line"] [] (Zm MH)) rfl rfl  (ZY (Ci 3)) (λ_ _ _ _ _ _ _=>(Zo 0 (B4 ["line"]))) (λ_ _ _ _ _ _ _=>Z1) (λ_ _ _ _ _ _ _=>(Zj (Zk 0) Zp)) (by decide)))) Zd)))
   Zh))))
abbrev dY:List Ae:=PU.append ["single"]
theorem dZ:ZE dY PU (Zm UH):=BV
theorem ri(T:Tx K mg d):Ax P w K mg base Bh 8 d.a18 d.d18 PU (Bu K Ts):=
 ZR (N:=dY) (g:=OX) T.q18 dZ (λ_ _ _ _ _ _ _ _ a=>(Zc (Lw (i:=3) ["key","amount"] [] [] (CQ ["key","amount"] [] (Zm UH)) rfl rfl dZ.nd rfl rfl (ZY (Ci 1)) (λ_ _ _ _ _ _ _=>(Ex (n:=2) rfl (ZH (Zo 0 (B4 ["key","amount"])) (ZH (Zo 1 (B4 ["key","amount"])) Ew)))) (λ_ _ _ _ _ _ _=>Z1) (λ_ _ _ _ _ _ _=>(Z2 (Za (Zg (Ct 0)) (Za (Zg (Zs (qy T) a T.q13 (Za (Zg (B2 (ZZ (Za (Zg (Ct 1)) Zd)))) Zd))) Zd)))) (by decide))
   (Zc (FX (NU (dX T) a T.q17 (Za (Zg (Zs (rb T) a T.q15 (Za (Zr 0) (Za (Zg (Zs (qv T) a T.q7 (Za (Zr 0) Zd))) (Za (Zr 2) Zd))))) (Za (Zr 3) Zd))))
   Zh)))
abbrev N9:List Ae:=R9
theorem S9:ZE N9 R9 (Zm UD):=BV
theorem ed(T:Tx K mg d):Ax P w K mg base Bh 9 d.a9 d.d9 R9 (Bu K Mr):=
 ZR (N:=N9) (g:=Ky) T.q9 S9 (λ_ _ _ _ _ _ _ _ a=>(Zc (FX (ZX ["axis"] ["ladders","picks"] [0,1] (CQ ["axis"] ["ladders","picks"] (Zm UD)) rfl rfl  (HP (by rfl) T.n11 (Za (Zg (ZK Et EF (by rfl) T.n7 (by rfl) (Za (Zr 0) Zd))) Zd)) (λ_ _ _ _ _ _ _=>(Zo 0 (B4 ["axis","ladders","picks"]))) (λ_ _ _ _ _ _ _=>Z1) (λ_ _ _ _ _ _ _=>(Zs (rh T) a T.q8 (Za (Zr 1) (Za (Zr 2) (Za (Zr 0) Zd))))) (by decide)))
   Zh))
abbrev ee:List Ae:=PQ.append ["chosen","axis","ladder","two"]
theorem MO:ZE ee PQ (Zm cL):=BV
theorem UT(T:Tx K mg d):Ax P w K mg base Bh 10 d.a12 d.d12 PQ (Bu K Gu):=
 ZR (N:=ee) (g:=Y9) T.q12 MO (λ_ _ _ _ _ _ _ _ a=>(Zc (Zu 4 MO.nd (Zs (ed T) a T.q9 (Za (Zr 0) (Za (Zr 3) Zd))))
   (Zc (ZV (Q6 a.units (Ap (B2 (ZZ Zd))) (Zk 4))
   (Zc (ZG GN)
   Zh)
   Zh)
   (Zc (DJ DQ rfl (HY (by rfl) T.n4 (Ci 0)) (Ex (n:=2) rfl (ZH (Zo 5 MO.nd) (ZH (Zo 6 MO.nd) Ew)))
   (Zc (Zu 7 MO.nd (Zs (qZ T) a T.q11 (Za (Zr 6) (Za (Zg (Zj (Zk 1) (Zk 5))) (Za (Zg (Zj (Zk 2) (Zk 5))) (Za (Zg (Zj (Zk 4) (Zk 5))) Zd))))))
   (Zc (ZV (M8 (Zk 7))
   (Zc (ZG (Z2 (Za (Zg (Ct 5)) (Za (Zg (Zj (Zk 7) Zp)) (Za (Zg (Zj (Zk 7) Zp)) Zd)))))
   Zh)
   Zh)
   Zh)))
   (Zc (ZG GN)
   Zh)))))
abbrev eh:List Ae:=PX.append ["chosen"]
theorem eo:ZE eh PX (Zm UJ):=BV
theorem rj(T:Tx K mg d):Ax P w K mg base Bh 10 d.a20 d.d20 PX (Bu K Tw):=
 ZR (N:=eh) (g:=O1) T.q20 eo (λ_ _ _ _ _ _ _ _ a=>(Zc (Zu 4 eo.nd (Zs (ed T) a T.q9 (Za (Zr 0) (Za (Zr 3) Zd))))
   (Zc (FX (ZX ["axis","ladder"] ["kept","grain","chosen"] [1,2,4] (CQ ["axis","ladder"] ["kept","grain","chosen"] (Zm UJ)) rfl rfl  (HY (by rfl) T.n4 (Ci 0)) (λ_ _ _ _ _ _ _=>(Ex (n:=2) rfl (ZH (Zo 0 (B4 ["axis","ladder","kept","grain","chosen"])) (ZH (Zo 1 (B4 ["axis","ladder","kept","grain","chosen"])) Ew)))) (λ_ _ _ _ _ _ _=>Z1) (λ_ _ _ _ _ _ _=>(Zs (qQ T) a T.q19 (Za (Zr 1) (Za (Zg (Zj (Zk 2) (Zk 0))) (Za (Zg (Zj (Zk 3) (Zk 0))) (Za (Zg (Zj (Zk 4) (Zk 0))) Zd)))))) (by decide)))
   Zh)))
abbrev UU:List Ae:=KU
theorem eu:ZE UU KU (Zm cO):=BV
theorem ew(T:Tx K mg d):Ax P w K mg base Bh 11 d.a21 d.d21 KU (Bu K O3):=
 ZR (N:=UU) (g:=O2) T.q21 eu (λ_ _ _ _ _ _ _ _ a=>(Zc (ZV (M8 (Ap (Zs (UT T) a T.q12 (Za (Zr 0) (Za (Zr 2) (Za (Zr 3) (Za (Zr 4) Zd)))))))
   (Zc li
   Zh)
   Zh)
   (Zc (FX (NU (dX T) a T.q17 (Za (Zg (Zs (rj T) a T.q20 (Za (Zr 0) (Za (Zr 2) (Za (Zr 3) (Za (Zr 4) Zd)))))) (Za (Zr 1) Zd))))
   Zh)))
theorem rk(T:Tx K mg d):Ax P w K mg base (NJ P w) 11 d.a21 d.d21 KU (L4 K Tz):=
 by
 refine lG (N:=UU) (ps:=KU) T.q21.F eu (by decide) (h:=O4) (λa A outer s H E M e b=>?_)
 refine lN (X1 (lD NN (M8 (Ap (Zs (UT T) b T.q12 (Za (Zr 0) (Za (Zr 2) (Za (Zr 3) (Za (Zr 4) Zd)))))))
   (X1 (XT.s (lF NN rfl rfl T.k_NoGrain T.q_NoGrain (by rfl) T.m_NoGrain (Za (Zg HI) Zd))))
   lO)) ?_
 rfl
abbrev ez:List Ae:=Qe.append ["e"]
theorem eA:ZE ez Qe (Zm de):=BV
theorem rl(T:Tx K mg d):Ax P w K mg base Bh 12 d.a41 d.d41 Qe (Bu K TC):=
 ZR (N:=ez) (g:=O5) T.q41 eA (λ_ _ _ _ _ _ _ _ a=>(Zc (lH 5 CS NN rfl rfl rfl (lC (lE NN rfl (rk T) (a.mono (by decide)) (by rfl) T.q21.m T.q21.F.kp T.q21.b (Za (Zr 0) (Za (Zr 1) (Za (Zr 2) (Za (Zr 3) (Za (Zr 4) Zd))))))) (mJ (Zs (ew T) a T.q21 (Za (Zr 0) (Za (Zr 1) (Za (Zr 2) (Za (Zr 3) (Za (Zr 4) Zd))))))) T.m_NoGrain (by rfl) (qr T) eA.nd rfl rfl (λx e c=>(Zc (ZG (lK 5 CS (L5 "ValueError") rfl rfl (Or.inl rfl) (U0 (v:=.ty "ValueError") (by rfl) T.n0 (by rfl) rfl) (λu z=>z) (qt T) (by rfl) T.n6 (by rfl)))
   Zh)))
   (Zc (ZG FS)
   Zh)))
abbrev eB:List Ae:=Qf.append ["_law_axis","_law_one","_law_other","_law_begun","_law_keys","_law_at","_law_some","_law_rows_here","_law_table_here"]
theorem GF:ZE eB Qf (Zm PL):=BV
theorem rm(T:Tx K mg d):Ax P w K mg base Bh 13 d.a42 d.d42 Qf (Bu K TJ):=
 ZR (N:=eB) (g:=O6) T.q42 GF (λ_ _ _ _ _ _ _ _ a=>(Zc (kJ (Ct 4) (Ex (n:=3) rfl (ZH (Zo 6 GF.nd) (ZH (Zo 7 GF.nd) (ZH (Zo 8 GF.nd) Ew)))))
   (Zc (ZV (IY (IP (Ll (Gr (Ap (Zs (qL T) a T.q38 (Za (Zr 6) Zd))))) (Lm (Ll (jD gm (WB a.units) (Nj _) WC Zp (Zk 6) (Ap (ZK Et EF (by rfl) T.n7 (by rfl) (Za (Zr 0) Zd))))))))
   (Zc (ZG FS)
   Zh)
   Zh)
   (Zc (Lw (i:=9) ["_law_line"] [] [] (CQ ["_law_line"] [] (Zm PL)) rfl rfl GF.nd rfl rfl (ZY (He (Zj (Zk 0) (Zk 6)))) (λ_ _ _ _ _ _ _=>(Zo 0 (B4 ["_law_line"]))) (λ_ _ _ _ _ _ _=>Z1) (λ_ _ _ _ _ _ _=>(Zj (Zk 0) Zp)) (by decide))
   (Zc (ZV (IY (IP (Q7 a.units (Zk 7) (Zk 9)) (IP (Q7 a.units (Zk 8) (Zk 9)) (IP (Gr (Ap (ZK HU HV (by rfl) T.n6 (by rfl) (Za (Zr 7) (Za (Zg (HW (n:="bool") (by rfl) T.n2 (by rfl))) Zd))))) (Lm (Gr (Ap (ZK HU HV (by rfl) T.n6 (by rfl) (Za (Zr 8) (Za (Zg (HW (n:="bool") (by rfl) T.n2 (by rfl))) Zd))))))))))
   (Zc (ZG FS)
   Zh)
   Zh)
   (mZ (k:=10) GF.nd rfl (Or.inl rfl) (Kr (mT DQ rfl (λ_=>(mX (by rfl) T.n11 (Za (Zg (ZK Et EF (by rfl) T.n7 (by rfl) (Za (Zr 0) Zd))) Zd))) (λ_=>(Zo 11 GF.nd))
   (Kr (RV (k:=10) λ_=>(Zu 12 GF.nd (Zs (dC T) a T.q37 (Za (Zr 0) (Za (Zr 3) (Za (Zr 11) Zd))))))
   (Kr (RV (k:=10) λ_=>(ZV (Fw a.units (Zk 11) (Zk 6))
   (Zc (Zu 12 GF.nd (B2 (ZZ (Za (Zg (Ct 7)) Zd))))
   Zh)
   Zh))
   (Kr (RV (k:=10) λ_=>(ZV (Fw a.units (Zk 12) (Ap (B2 (ZZ Zd))))
   (Zc (ZG FS)
   Zh)
   Zh))
   (Kr (Yb (k:=10) (j:=0) rfl (by first|exact Or.inl rfl|exact Or.inr (Or.inl rfl)) (λ_=>(Zj (Zk 12) Zp)) (λ_ _=>rfl))
   (Kr (Yb (k:=10) (j:=1) rfl (by first|exact Or.inl rfl|exact Or.inr (Or.inl rfl)) (λ_=>(Zj (Ap (B2 (ZZ (Za (Zg (Zj (Zk 12) Zp)) (Za (Zg (Ct 8)) Zd))))) (Ap (EW MT No (by rfl) T.n5 (by rfl) (Za (Zg (WW a.units (Zk 11) (Zk 6))) Zd))))) (λ_ _=>rfl))
   mW))))))
   (mY (Zc (Lw (i:=13) ["_law_spot"] ["_law_amount"] [5] (CQ ["_law_spot"] ["_law_amount"] (Zm PL)) rfl rfl GF.nd rfl rfl (ZY (Ci 10)) (λ_ _ _ _ _ _ _=>(Zo 0 (B4 ["_law_spot","_law_amount"]))) (λ_ _ _ _ _ _ _=>Z1) (λ_ _ _ _ _ _ _=>(Z2 (Za (Zg (EW GL GQ (by rfl) T.n15 (by rfl) (Za (Zr 0) Zd))) (Za (Zg (Ct 1)) Zd)))) (by decide))
   (Zc (Zu 14 GF.nd (Zs (UQ T) a T.q34 (Za (Zr 0) (Za (Zg (Hi (Zk 13) IS (Gn Zp))) (Za (Zr 1) Zd)))))
   (Zc (ZV (IY (IP (Kc a.units (Zk 14) (Ap (Zs (UQ T) a T.q34 (Za (Zr 0) (Za (Zg (Hi (Zk 13) (Gn Zp) IS)) (Za (Zr 1) Zd)))))) (Lm (Ll (Gr (Ap (Zs (rl T) a T.q41 (Za (Zr 0) (Za (Zr 14) (Za (Zr 1) (Za (Zr 2) (Za (Zr 3) Zd))))))))))))
   (Zc (ZG FS)
   Zh)
   Zh)
   (Zc (ZG (WX a.units (Ap (Zs (US T) a T.q40 (Za (Zr 0) (Za (Zg (Hi (Zk 13) IS (Gn Zp))) (Za (Zr 2) (Za (Zr 3) Zd)))))) (Ap (Zs (US T) a T.q40 (Za (Zr 0) (Za (Zg (Hi (Zk 13) (Gn Zp) IS)) (Za (Zr 2) (Za (Zr 3) Zd))))))))
   Zh))))))))))))
abbrev eC:List Ae:=["_law_script","_law_ladders_here","_law_rows_here","_law_kept","_law_grain_here","_law_picks_here","_law_handed","_law_told","_law_some","_law_table_here"]
theorem GH:ZE eC ["_law_script"] (Zm PM):=BV
theorem rn(T:Tx K mg d):Ax P w K mg base Bh 14 d.a43 d.d43 ["_law_script"] (Bu K aC):=
 ZR (N:=eC) (g:=aB) T.q43 GH (λ_ _ _ _ _ _ _ _ a=>(Zc (Zu 1 GH.nd (Zs (rf T) a T.q27 (Za (Zr 0) Zd)))
   (Zc (Zu 2 GH.nd (Zs (rd T) a T.q39 (Za (Zr 0) (Za (Zr 1) Zd))))
   (Zc (Zu 3 GH.nd (Zs (dA T) a T.q35 (Za (Zg (Zs (HA T) a T.q22 (Za (Zr 0) (Za (Zg ZN) Zd)))) (Za (Zr 1) Zd))))
   (Zc (Zu 4 GH.nd (Zs (dA T) a T.q35 (Za (Zg (Zs (HA T) a T.q22 (Za (Zr 0) (Za (Zg ZN) Zd)))) (Za (Zr 1) Zd))))
   (Zc (ZV (Fw a.units (Ap (ZF (Ap (El (Ap (Zs (HA T) a T.q22 (Za (Zr 0) (Za (Zg ZN) Zd)))) Zp)) Zp)) Zp)
   (Zc (Zu 3 GH.nd (EW GL GQ (by rfl) T.n15 (by rfl) (Za (Zg (B2 (ZX ["_law_pair"] [] [] (CQ ["_law_pair"] [] (Zm PM)) rfl rfl  (RL (by rfl) T.n16 (Ci 3) (Ci 4)) (λ_ _ _ _ _ _ _=>(Zo 0 (B4 ["_law_pair"]))) (λ_ _ _ _ _ _ _=>Z1) (λ_ _ _ _ _ _ _=>(ZK (mH rfl) mI (by rfl) T.n10 (by rfl) (Za (Zr 0) Zd))) (by decide)))) Zd)))
   Zh)
   Zh)
   (Zc (Zu 5 GH.nd (Zs (qX T) a T.q36 (Za (Zg (Hi (Zk 0) (Gn Zp) (Gn (Ap (ZI Zp (Ap (ZF (Ap (Zs (HA T) a T.q22 (Za (Zr 0) (Za (Zg ZN) Zd)))) Zp))))))) (Za (Zr 1) Zd))))
   (Zc (Zu 6 GH.nd (B2 (ZZ (Za (Zg (B2 (ZX ["_law_ladder_here"] [] [] (CQ ["_law_ladder_here"] [] (Zm PM)) rfl rfl  (ZY (Ci 1)) (λ_ _ _ _ _ _ _=>(Zo 0 (B4 ["_law_ladder_here"]))) (λ_ _ _ _ _ _ _=>Z1) (λ_ _ _ _ _ _ _=>(B2 (Nb Qx Q1 (by rfl) T.n8 (by rfl) (Za (Zr 0) Zd)))) (by decide)))) (Za (Zg (B2 (Nb Qx Q1 (by rfl) T.n8 (by rfl) (Za (Zr 5) Zd)))) Zd)))))
   (Zc (Zu 7 GH.nd (Zs (UT T) a T.q12 (Za (Zg (Zj (Zk 6) Zp)) (Za (Zr 3) (Za (Zr 4) (Za (Zg (Zj (Zk 6) Zp)) Zd))))))
   (Zc (ZV (Kc a.units (Zk 6) (Ap (B2 (ZZ (Za (Zg (Ct 1)) (Za (Zg (Ct 5)) Zd))))))
   (Zc (ZG FS)
   Zh)
   Zh)
   (Zc (ZV (M8 (Zk 7))
   (Zc (ZV (IY (IP (Ll (Gr (Ap (ZK HU HV (by rfl) T.n6 (by rfl) (Za (Zr 7) (Za (Zg (HW (n:="tuple") (by rfl) T.n15 (by rfl))) Zd)))))) (Lm (Kc a.units (Ap (ZK Et EF (by rfl) T.n7 (by rfl) (Za (Zr 7) Zd))) Zp))))
   (Zc (ZG FS)
   Zh)
   Zh)
   (Zc (ZG (Zs (rm T) a T.q42 (Za (Zr 1) (Za (Zr 3) (Za (Zr 4) (Za (Zr 5) (Za (Zr 7) (Za (Zg (ZF (Ap (Zs (HA T) a T.q22 (Za (Zr 0) (Za (Zg ZN) Zd)))) (Ap (IR Zp Zp)))) Zd))))))))
   Zh))
   Zh)
   (Zc (DJ DQ rfl (ZY (He (B2 (ZZ (Za (Zg (Ct 2)) (Za (Zg (Hi (Zk 2) IS (Gn (Ap (El (Ap (ZK Et EF (by rfl) T.n7 (by rfl) (Za (Zr 2) Zd))) Zp))))) (Za (Zg (B2 (ZZ Zd))) Zd))))))) (Zo 8 GH.nd)
   (Zc (Zu 9 GH.nd (Zs (ri T) a T.q18 (Za (Zg (Zj (Zk 6) Zp)) (Za (Zg (B2 (Nb Qx Q1 (by rfl) T.n8 (by rfl) (Za (Zr 8) Zd)))) (Za (Zr 3) Zd)))))
   (Zc (ZV (Kc a.units (Ap (Zs (ew T) a T.q21 (Za (Zg (Zj (Zk 6) Zp)) (Za (Zr 9) (Za (Zr 3) (Za (Zr 4) (Za (Zg (Zj (Zk 6) Zp)) Zd))))))) (Ap (Zs (US T) a T.q40 (Za (Zr 1) (Za (Zr 8) (Za (Zr 4) (Za (Zr 5) Zd)))))))
   (Zc (ZG FS)
   Zh)
   Zh)
   Zh)))
   (Zc (ZG FS)
   Zh)))))))))))))
end
theorem fin{l:PySem.W.OpenLaw}{w:Ai}{K:Ar}{h:Am}{mg:Ae->Option Aa}{b:Ac}(_:K.In h)(a:mg "law"=some (.ref b)):(∃d,Tx K mg d)->∃fd:Bi,(∀(s:Ab)(v:Aa),BindsTo s fd ⟨[v],[]⟩ [("_law_script",v)])/\∀base:Am,K.In base->base.Ns Dq mg->Ax l.prog w K mg base Bh 14 b fd ["_law_script"] (Lj K):=
 λ⟨_,T⟩=>mP a T.q43 (λ_=>rn T) qp λ_ _ _ _ _ _ _=>rfl
theorem walk{l:PySem.W.OpenLaw}{q:AY}{b:List Ae}{i:(Ae->Option Aa)->Am->Prop}{e:Ai->Am->Prop}{d:DefRec}{K:Params->Ar}(j:l.most=some 63)(c:d.params.defaults=[])
  (m:∀(w:Ai) (h:Am),e w h->(K w.params).In h)
  (F:∀(w:Ai) (mg:Ae->Option Aa) (g:Ac) (h:Am),(K w.params).In h->h.Ns Dq mg->mg d.name=some (.ref g) ->
   ∃fd:Bi,(∀(s:Ab) (u:Aa),BindsTo s fd ⟨[u],[]⟩ [("_law_script",u)])/\∀base:Am,(K w.params).In base->base.Ns Dq mg->Ax l.prog w (K w.params) mg base Bh 14 g fd ["_law_script"] (Lj (K w.params))):
  PySem.W.WalkO q b i e l.row.toRowW d [] (λf vs=>PySem.call f vs):=
 L2.walk_of (n:=63) (k:=14) (x:="_law_script") (CX:=λ_=>Bh) (sp:=λw=>Lj (K w.params)) j (by decide) c ⟨rfl,by decide,by decide⟩ m F (λ_ _ a o p _ r=>⟨a,o,rfl,r,p,λ_=>rfl⟩) λ_ _ _ _ _ z=>z
end K36
end
namespace PySem.W.Fast
def tw9466116543104162296:=()
def tw18165313446018718778:=()
def tw5412918131626604893:=()
def tw14803694941594773469:=()
def tw12404199666597691263:=()
def tw12782779050259816945:=()
def tw14770439077162333004:=()
def tw1213101325154909453:=()
def tw8573843813490444481:=()
def tw4267765557894161748:=()
def tw1980590058415988504:=()
def tw16535284800138666171:=()
def tw18158485019833970364:=()
def tw13892916654570460191:=()
def tw16513419712282560673:=()
def tw13335846200980165345:=()
def tw1026122767625015734:=()
def tw18243035490864116008:=()
def tw7651815934673798508:=()
def tw16769881419100189477:=()
def tw1003465663302179967:=()
def tw2621540201405935232:=()
def tw1102685728874274861:=()
def tw9968772871309559567:=()
def tw16276339728630382324:=()
def tw1397539098052969499:=()
def tw10919061417126861544:=()
def tw16245224226408830609:=()
def tw11903422520641446193:=()
def tw18025410710841367024:=()
def tw1609229297376483693:=()
def tw71023957134180039:=()
def tw7495935928332203944:=()
def tw9458264366917816723:=()
def tw1191084352880269805:=()
def tw8587987685679895771:=()
def tw3661389904160947060:=()
def tw8511171320058261706:=()
def tw4955660078746145345:=()
def tw14160839455290038738:=()
def tw6378828516924180018:=()
def tw11854955697445738549:=()
def tw13789488888040830953:=()
def tw11676494106643187415:=()
def tw1135983280081307840:=()
def tw9904694220123339073:=()
def tw294032923787308727:=()
def tw7242132333334727760:=()
def tw4712438060868902189:=()
def tw6595011190584860858:=()
def tw11108227014763330546:=()
def tw8185648660091098003:=()
def tw11928933362285112188:=()
def tw6793644186995223141:=()
def tw8839838185966194808:=()
def tw15697810734422412064:=()
def tw18044798853495112772:=()
def tw1870716224911829829:=()
def tw13066207062702641604:=()
def tw5809834302263675207:=()
def tw18309312772280763264:=()
def tw9921038607137858966:=()
def tw12903961149395550844:=()
def tw5369124791448394633:=()
def tw130766569883749659:=()
def tw5837656355268734855:=()
def tw2248090719237041692:=()
def tw13461246318178309576:=()
def tw11844897042469186092:=()
def tw10850118201719581459:=()
def tw5586804655841557686:=()
def tw7907347114007263114:=()
def tw17971901527660906239:=()
def tw15332936444697834852:=()
def tw5823133750968449096:=()
def tw11614343736532316723:=()
def tw2380341260175256465:=()
def tw3333276603757901773:=()
def tw14695866601087211466:=()
def tw7964373694469283928:=()
def tw5355277865073583938:=()
def tw15173442838069964652:=()
def tw10865568787186307701:=()
def tw17274256322834203582:=()
def tw11546537498389360140:=()
def tw11752363510857535718:=()
def tw5567573004455324833:=()
def tw6374561850988890089:=()
def tw18073997708397988603:=()
def tw17248995749771610849:=()
def tw445746720009693100:=()
def tw4067656745029743909:=()
def tw8984104894333405357:=()
def tw7967359149576979797:=()
def tw5544187929948674786:=()
def tw1054418236359751662:=()
def tw17348915270449966180:=()
def tw15602478422348842698:=()
def tw11532913059483699282:=()
def tw9874794806125340964:=()
def tw11816446920968416134:=()
def tw11295913063372447867:=()
def tw14436933925302257184:=()
def tw6481821182252288108:=()
def tw4741604807028704679:=()
def tw8635808679585959824:=()
def tw13314163822873393899:=()
def tw7094382635669055015:=()
def tw4724300135018887258:=()
def tw3058235112970135593:=()
def tw1734266126779619784:=()
def tw16472505603804980426:=()
def tw12091859902870359744:=()
def tw8309580334977209132:=()
def tw15659304482372326038:=()
def tw5898398517261739566:=()
def tw2080077562683036705:=()
def tw17020069899420225163:=()
def tw2076295439075856699:=()
def tw12795893541016347024:=()
def tw2412353877157577249:=()
def tw17702072449490508682:=()
def tw8527650763666973066:=()
def tw14577641641972713046:=()
def tw2719884548256292521:=()
def tw2001314147527977230:=()
def tw3868068676547334765:=()
def tw14466528442230810168:=()
def tw18021373224851939765:=()
def tw7789374077985455390:=()
def tw10937095692858588236:=()
def tw10844148575639497106:=()
def tw17021686066777839685:=()
def tw9005361840291006054:=()
def tw2423937859435493170:=()
def tw202939842052675169:=()
def tw1843294171655679455:=()
def tw15669877570310887931:=()
def tw10376780933215142604:=()
def tw15903314576580990760:=()
def tw1024256765279430750:=()
def tw475083102226154472:=()
def tw9207553262637177204:=()
def tw11124204303623691691:=()
def tw5036402712810384749:=()
end PySem.W.Fast
open PySem PySem.W PyProof.Rows
set_option maxRecDepth 100000 in
set_option maxHeartbeats 0 in
theorem PySem.Challenge.cw_cubebook_k36_whole_answers_or_a_pair_holds : PySem.Challenge.rw_cubebook_k36_whole_answers_or_a_pair.Holds := by
 w_on;o_law;k_head;(case hw=>w_witness2)
 k_fill
 refine K36.walk (l:=PySem.Challenge.rw_cubebook_k36_whole_answers_or_a_pair) rfl rfl (fun w h Y=>PySem.W.kIn_of Y) ?F
 case F =>
  intro w mg fa h KX G hmg
  open L2 in refine' K36.fin KX hmg ⟨⟨_,_,_,_,_,_,_,_,_,_,_,_,_,_,_,_,_,_,_,_,_,_,_,_,_,_,_,_,_,_,_,_,_,_,_,_,_,_,_,_,_,_,_,_,_,_,_,_,_,_,_,_,_,_,_,_,_,_,_,_,_,_,_,_,_,_,_,_,_,_,_,_,_,_,_,_,_,_,_,_,_,_,_,_,_,_,_,_,_⟩,⟨di KX G ?_ ?_ ?_ ?_,di KX G ?_ ?_ ?_ ?_,di KX G ?_ ?_ ?_ ?_,di KX G ?_ ?_ ?_ ?_,di KX G ?_ ?_ ?_ ?_,di KX G ?_ ?_ ?_ ?_,di KX G ?_ ?_ ?_ ?_,di KX G ?_ ?_ ?_ ?_,di KX G ?_ ?_ ?_ ?_,di KX G ?_ ?_ ?_ ?_,di KX G ?_ ?_ ?_ ?_,di KX G ?_ ?_ ?_ ?_,di KX G ?_ ?_ ?_ ?_,di KX G ?_ ?_ ?_ ?_,di KX G ?_ ?_ ?_ ?_,di KX G ?_ ?_ ?_ ?_,di KX G ?_ ?_ ?_ ?_,di KX G ?_ ?_ ?_ ?_,di KX G ?_ ?_ ?_ ?_,di KX G ?_ ?_ ?_ ?_,di KX G ?_ ?_ ?_ ?_,di KX G ?_ ?_ ?_ ?_,di KX G ?_ ?_ ?_ ?_,di KX G ?_ ?_ ?_ ?_,di KX G ?_ ?_ ?_ ?_,di KX G ?_ ?_ ?_ ?_,di KX G ?_ ?_ ?_ ?_,di KX G ?_ ?_ ?_ ?_,di KX G ?_ ?_ ?_ ?_,di KX G ?_ ?_ ?_ ?_,di KX G ?_ ?_ ?_ ?_,di KX G ?_ ?_ ?_ ?_,di KX G ?_ ?_ ?_ ?_,di KX G ?_ ?_ ?_ ?_,di KX G ?_ ?_ ?_ ?_,di KX G ?_ ?_ ?_ ?_,di KX G ?_ ?_ ?_ ?_,di KX G ?_ ?_ ?_ ?_,di KX G ?_ ?_ ?_ ?_,di KX G ?_ ?_ ?_ ?_,di KX G ?_ ?_ ?_ ?_,di KX G ?_ ?_ ?_ ?_,di KX G ?_ ?_ ?_ ?_,di KX G ?_ ?_ ?_ ?_,mg_none_of KX G ?_,mg_none_of KX G ?_,mg_none_of KX G ?_,mg_none_of KX G ?_,mg_none_of KX G ?_,mg_none_of KX G ?_,mg_none_of KX G ?_,mg_none_of KX G ?_,mg_none_of KX G ?_,mg_none_of KX G ?_,mg_none_of KX G ?_,mg_none_of KX G ?_,mg_none_of KX G ?_,mg_none_of KX G ?_,mg_none_of KX G ?_,mg_none_of KX G ?_,mg_none_of KX G ?_,mg_of KX G ?_,?_,L2.mk_of ?_ ?_,⟨?_,?_,?_,?_,?_,?_,⟨_,?_⟩⟩,L2.kit_V ?_,L2.exm_of ?_ ?_ ?_ ?_⟩⟩
  all_goals try (show (_:Prop);first | k_is | rfl | k_exc)
#print axioms PySem.Challenge.cw_cubebook_k36_whole_answers_or_a_pair_holds
