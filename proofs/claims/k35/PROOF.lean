import PyProof.Rows.All
import Wide.All
import OpenK.AllK
import Wide.FinOn
import Lean
import PyProof.EqAt
import PyProof.EqKinds
import PyProof.TupleCall
import PyProof.TupleKey
import PyProof.DictRoadsH
import Wide.Seal
import PyProof.NeKinds
import PyProof.ZipIter
import PyProof.EnumMake
import PyProof.Rows.TupTab
import KE.KDictLaws
import PyProof.AutoListH
import PyProof.AttrMissHeap
import KE.KDictOf
import KE.KIntText
import PyProof.StrBlockL
import PyProof.StrLawsChain
import PyProof.FString
import PyProof.Rows.FStr
import OpenK.KOwn
import KE.KIsAll
import KE.KDictList
import PySem.Challenge.RW_cubebook_k35_read_and_counted
open PySem renaming wpAny_bind→Ag,wpAny_pure→AE,sizeLine→AG,starEach→AX,Spec→Qav,Program→A4,FuncData→Bi,wpAny_field→Ch,wpAny_setField_rec→DL,mainGlobals→C5,wpAny_callSpecial?_slot→FY,wpAny_loadPart'→Fm,wpAny_holding→Ei,wpAny_call_entry→Fk,wpAny_seqItems→EV,bootBuiltins→Ep,wpAny_newObj_type→FZ,wpAny_mono→Eg,compareOp→Eh,behindInMarks→FV,wpAny_truthy_bool→Im,foldedSetIterable→Iq,mem_of_lookup→Jp,sysModules→Fx,wpAny_rule→FK,wpAny_onRaise→Hl,NameKind→EJ,swapsWith→Fg,codeAny_call_builtin→LJ,wpAny_attempt→HK,wpAny_typeNameOfWhole_keyiter→Q6,assignEach→Gm,wpAny_letGo→Hd,wpAny_Call_Name_kw→KZ,tupleKind_room_in1→Ly,letOwnedTupleGo→Jm,codeAny_builtin→Jv,binaryOp→FW,wpAny_typeOf→Iv,wpAny_typeNameOf_keyiter→Q7,wpAny_getItem_str_slice→P2,attributeBase→Jt,wpAny_pyIter_list→MB,wpAny_loadPart_at→No,wpAny_setField→Lu,checkBuiltinCall→Nl,wpAny_passesOwn→MD
open List renaming getElem?_cons_zero→AL,getElem?_cons_succ→AN,set_cons_zero→AU,set_cons_succ→AW,mem_cons_of_mem→Bt,map_cons→AY,mem_cons_self→BA,size_toArray→BF,range→A7,getElem?_eq_getElem→CH,length_map→BY,length_cons→B8,mem_append_right→C6,getElem?_map→Dy,getD→Cq,map_nil→Dd,length_nil→DT,map_map→Dg,replicate→DH,map_append→D9,getElem_mem→ET,append_nil→Es,length_append→Fj,all_cons→D7,getElem?_set_ne→Gk,mem_of_getElem?→Gp,mem_cons→Bv,all_eq_true→Ev,getElem?_replicate→Iu,getElem?_append_left→Jq,append_assoc→Hj,zipWith→Fs,not_mem_nil→G8,take_of_length_le→JY,nodup_cons→E2,length_replicate→Jr,length_filter_le→Kv,mem_append_left→Jj,filterMap_cons→Ji,getElem?_set_self→KH,map_singleton→Ky,nil_append→Jd,ext_getElem?→JL,filter_cons_of_pos→Pj,filter_cons_of_neg→Pk,length_drop→Js,zip_cons_cons→K3,all_map→HF,forIn_cons→Ju,foldl_cons→JZ,getElem?_append_right→PF,drop_eq_getElem_cons→P5,range'→H4,mem_map_of_mem→Pa,getElem?_drop→MJ,mem_singleton→GC,drop_eq_nil_of_le→P4,zipWith_cons_cons→To,find?_append→O9,getElem?_eq_none→Qi,forIn_nil→LQ,lookup_cons→MI,getElem?_append→Qm,range'_succ→OZ,range_eq_range'→SV,getElem?_range→Qj
open PySem.W renaming Frag→As,fnOf→Hu,nsIn→HA,kitOne→J1,keepIn→KY
open Option renaming bind→AA,map→AT,map_some→Hz,getD_some→MH
open PySem.Heap renaming get?_push_of_some→Bk,get?_push_size→B0,lt_size→By,SameBut→Dr,size_push→E3,get?_update_other→K2,get?_update_self→Lv
open Nat renaming lt_of_lt_of_le→Ca,le_refl→BB,ne_of_lt→Cs,le_trans→CK,lt_irrefl→FT,ne_of_gt→FA,zero_add→Gd,lt_trans→Hy,zero_le→Hv,le_of_lt→Jh,lt_or_ge→Kh,lt_of_le_of_lt→PX
open PySem.Builtin.SmallTypes renaming nextOf→DW,ownedTupleIsFree→Hc,ownedTupleHandOut→Lw
open Ne renaming symm→Br
open False renaming elim→BW
open PySem.PassesOwn renaming never→Dc
open Bool renaming and_eq_true→Dj,false_eq_true→DS,and_self→EY,false_ne_true→Hs,not_true→GK,eq_iff_iff→HY,true_and→HZ,not_false→Ku,not_eq_true→Ln
open PySem.Value renaming ref→Cn,none→Ed
open PySem.Str renaming ofString→Dt
open PySem.W.KasT renaming kasWp→Dh,kasWp_bind→Ni
open PySem.Txt renaming slice→C8
open PySem.NameKind renaming free→EK,cell→Hx
open Option.some renaming inj→Fy
open PyProof.Rows renaming callWith_type1→Jn,slot_tuple_getitem→PL
open Array renaming getElem?_eq_getElem→J5,length_toList→KJ,getElem?_toList→PR,getD_eq_getD_getElem?→Wq
open PySem.F renaming slot_zip_next→IQ,slot_dict_keyiterator_next→Q5,slot_tuple_iterator_next→QC,slot_enumerate_next→QF,args_zip_next_1→Q4,entry_zip_next→Q3,slot_dict_setdefault→Wb,typeOf_object_class→WG,args_tuple_add_2→Vq,args_dict_keyiterator_next_1→lu,entry_dict_keyiterator_next→lr,entry_tuple_add→Vp,args_tuple_iterator_next_1→jc,entry_tuple_iterator_next→jb
open Int renaming toNat_natCast→HJ,emod_nonneg→OW,emod_lt_of_pos→SU
open PySem.Heap.SameBut renaming update→IH
open PySem.Paired renaming length→Gj
open PySem.Builtin.Str renaming occurrences→KR
open PySem.Obj renaming data_mapFields→J4,mapSeq→G2,isFreed_of_fields→QD
open PySem.Around renaming under_plainId→K4
open Classical renaming propDecidable→MU
open ToString renaming toString→Fi
open PySem.Builtin.Slice renaming slicePlaces→PJ,sliceAdjust→UP
open PySem.Builtin.Tuple renaming tupleExact→PM
open PySem.AutoSeq1 renaming wpAny_loadPart'→QE
open PySem.Data renaming cell→GX
open List.cons renaming injEq→Lx
open True renaming intro→HL
open List.Perm renaming eq_of_pairwise→VT
open PySem renaming Value→Aa,Shared→Ab,Addr→Ac,Str→Ae,model→Af,World→Aj,Around→Ak,Heap→Al,Builtin→Aw,Stmt→Ay,eval→AC,cLine→AF,rawInt→AH,Obj→AM,backTo→AZ,Pos→Bc,pyNext→Bo,IsPair→Bp,DictEntry→BH,tupleKind→BI,sizeLine_eq→BM,keywordEach→BN,sliceBounds→BO
open Pure renaming pure→AQ
set_option Elab.async false
set_option linter.all false
set_option maxHeartbeats 4000000
set_option maxRecDepth 100000
noncomputable section
namespace L2
open PySem PySem.Spec PyProof.Rows
abbrev En:=Sum Int Ae
def Uf:En->Aa->Bool
 |.inl k,v=>Value.isInt k v
 |.inr x,v=>Value.isStrOf x v
def db(w:Aj):En->Int
 |.inl k=>hashInt k
 |.inr x=>hashStr w x
theorem GR:∀{k:En}{v:Aa},Uf k v=true->(∃i t,k=Sum.inl i/\v=Value.int i t)\/(∃x t,k=Sum.inr x/\v=Value.str x t)
 |.inl i,v,h=>by
  obtain⟨t,e⟩:=Value.isInt_shape (k:=i) (v:=v) h
  exact .inl ⟨i,t,rfl,e⟩
 |.inr x,v,h=>by
  obtain⟨t,e⟩:=Value.isStrOf_shape (x:=x) (v:=v) h
  exact .inr ⟨x,t,rfl,e⟩
theorem de(a b:Int):decide ((Sum.inl a:En)=Sum.inl b)=(a==b):=by
 by_cases e:a=b
 ·subst e;simp
 ·have h:¬ (Sum.inl a:En)=Sum.inl b:=λq=>e (Sum.inl.inj q)
  rw[decide_eq_false h]
  exact(beq_eq_false_iff_ne.mpr e).symm
theorem df(a b:Ae):decide ((Sum.inr a:En)=Sum.inr b)=decide (a=b):=by
 by_cases e:a=b
 ·subst e;simp
 ·have h:¬ (Sum.inr a:En)=Sum.inr b:=λq=>e (Sum.inr.inj q)
  rw[decide_eq_false h,decide_eq_false e]
theorem dg(a:Int)(b:Ae):decide ((Sum.inl a:En)=Sum.inr b)=false:=decide_eq_false (λq=>nomatch q)
theorem dh(a:Ae)(b:Int):decide ((Sum.inr a:En)=Sum.inl b)=false:=decide_eq_false (λq=>nomatch q)
def Pt(prog:A4)(w:Aj):PySem.KeyKind prog w En where
 is:=Uf
 hash:=db w
 inj:=λv a b g f=>by
  rcases GR g with⟨i,t,rfl,rfl⟩|⟨x,t,rfl,rfl⟩
  ·rcases GR f with⟨j,u,rfl,e⟩|⟨y,u,rfl,e⟩
   ·injection e with c _;rw[c]
   ·exact nomatch e
  ·rcases GR f with⟨j,u,rfl,e⟩|⟨y,u,rfl,e⟩
   ·exact nomatch e
   ·injection e with c _;rw[c]
 byValue:=λk v h=>by
  rcases GR h with⟨i,t,rfl,rfl⟩|⟨x,t,rfl,rfl⟩<;>rfl
 pyHash:=λd h=>by
  rcases GR d with⟨i,t,rfl,rfl⟩|⟨x,t,rfl,rfl⟩
  ·exact wpAny_pyHash_int h
  ·exact wpAny_pyHash_str h
 eqBool:=λl d h=>by
  rcases GR l with⟨i,t,rfl,rfl⟩|⟨x,t,rfl,rfl⟩
  ·rcases GR d with⟨j,u,rfl,rfl⟩|⟨y,u,rfl,rfl⟩
   ·rw[de]at h;exact wpAny_eqBool_int h
   ·rw[dg]at h;exact SeqAt.EqAt.int_str i t y u _ _ _ _ h
  ·rcases GR d with⟨j,u,rfl,rfl⟩|⟨y,u,rfl,rfl⟩
   ·rw[dh]at h;exact SeqAt.EqAt.str_int x t j u _ _ _ _ h
   ·rw[df]at h;exact wpAny_eqBool_str h
 «strs»:=λk x t v h=>by
  rcases GR h with⟨i,u,rfl,e⟩|⟨y,u,rfl,e⟩
  ·exact nomatch e
  ·injection e with c _
   subst c
   cases v<;>rfl
inductive V where
 |non|bl (b:Bool)|int (i:Int)|str (x:Ae)|byt (b:Array UInt8)|flt (b:UInt64)|ref (a:Ac)|ty (n:String)
 deriving DecidableEq
def RelV:V->Aa->Prop
 |.non,u=>u=Ed
 |.bl b,u=>u=Value.bool b
 |.int i,u=>∃t,u=Value.int i t
 |.str x,u=>∃t,u=Value.str x t
 |.byt b,u=>∃t,u=Value.bytes b t
 |.flt b,u=>∃t,u=Value.float b t
 |.ref a,u=>u=Cn a
 |.ty n,u=>u=Value.type n
abbrev Ap:List V->List Aa->Prop:=Paired RelV
theorem Ap.length{xs:List V}{us:List Aa}(r:Ap xs us):xs.length=us.length:=Gj r
theorem Ap.get:∀{xs:List V}{us:List Aa}{i:Nat}{x:V},Ap xs us->xs[i]?=some x->∃u,us[i]?=some u/\RelV x u
 |_,_,_,_,.nil,e=>by simp at e
 |_,_,0,_,.cons r _,e=>by simp at e;subst e;exact⟨_,rfl,r⟩
 |_,_,i+1,x,.cons _ t,e=>by
  obtain⟨u,a,b⟩:=Ap.get (i:=i) (x:=x) t (by simpa using e)
  exact⟨u,by simpa using a,b⟩
theorem Ap.set{x:V}{u:Aa}(r:RelV x u):∀{xs:List V}{us:List Aa}(i:Nat),Ap xs us->Ap (xs.set i x) (us.set i u)
 |_,_,_,.nil=>.nil
 |_,_,0,.cons _ t=>.cons r t
 |_,_,i+1,.cons q t=>.cons q (Ap.set r i t)
theorem Ap.append:∀{xs ys:List V}{us ws:List Aa},Ap xs us->Ap ys ws->Ap (xs++ys) (us++ws)
 |_,_,_,_,.nil,s=>s
 |_,_,_,_,.cons r t,s=>.cons r (Ap.append t s)
theorem Ap.take:∀{xs:List V}{us:List Aa}(n:Nat),Ap xs us->Ap (xs.take n) (us.take n)
 |_,_,0,_=>.nil
 |_,_,_+1,.nil=>.nil
 |_,_,n+1,.cons r t=>.cons r (Ap.take n t)
theorem Ap.drop:∀{xs:List V}{us:List Aa}(n:Nat),Ap xs us->Ap (xs.drop n) (us.drop n)
 |_,_,0,r=>r
 |_,_,_+1,.nil=>.nil
 |_,_,n+1,.cons _ t=>Ap.drop n t
def Ee:Option V->Option Aa->Prop
 |some v,some u=>RelV v u
 |none,none=>True
 |_,_=>False
def KV{a:Type}:List (a×V)->List (a×Aa)->Prop:=Paired λ(p:a×V)(q:a×Aa)=>p.1=q.1/\RelV p.2 q.2
def kV:En->V
 |.inl i=>.int i
 |.inr x=>.str x
inductive At where
 |non|int (i:Int)|str (x:Ae)
 deriving DecidableEq
def Hq:At->Aa->Bool
 |.non,.none=>true
 |.int k,v=>Value.isInt k v
 |.str x,v=>Value.isStrOf x v
 |_,_=>false
def Pu(w:Aj):At->Int
 |.non=>reduceHash 4238894112
 |.int k=>hashInt k
 |.str x=>hashStr w x
theorem Hr:∀{k:At}{v:Aa},Hq k v=true->(k=.non/\v=.none)\/(∃i t,k=.int i/\v=Value.int i t)\/(∃x t,k=.str x/\v=Value.str x t)
 |.non,v,h=>by cases v<;>first|exact .inl ⟨rfl,rfl⟩|exact absurd h Hs
 |.int i,v,h=>by obtain⟨t,e⟩:=Value.isInt_shape (k:=i) (v:=v) h;exact .inr (.inl ⟨i,t,rfl,e⟩)
 |.str x,v,h=>by obtain⟨t,e⟩:=Value.isStrOf_shape (x:=x) (v:=v) h;exact .inr (.inr ⟨x,t,rfl,e⟩)
theorem dj(i:Int)(t:Tok):Hq (.int i) (.int i t)=true:=by simp[Hq,Value.isInt]
theorem dm(x:Ae)(t:Tok):Hq (.str x) (.str x t)=true:=by simp[Hq,Value.isStrOf]
theorem dn{prog:A4}{w:Aj}{A:Ak}{E:Aa->Ab->Prop}{s:Ab}{Q:Int->Ab->Prop}(h:Q (reduceHash 4238894112) {s with toks:=s.toks+1}):
  wpAny (Af prog w) A (PySem.pyHash .none) Q E s:=
 PySem.W.pyHash_slot (T:="NoneType") rfl F.slot_NoneType_hash F.entry_NoneType_hash (F.args_NoneType_hash_1 _) (beq_builtin_none _) (.inl rfl) (Ag (AE (Ag (wpAny_mkInt (AE ⟨_,_,rfl,h⟩)))))
theorem dq(a b:Int):decide ((At.int a)=.int b)=(a==b):=by
 by_cases e:a=b
 ·subst e;simp
 ·rw[decide_eq_false (λq=>e (by injection q))];exact(beq_eq_false_iff_ne.mpr e).symm
theorem dr(a b:Ae):decide ((At.str a)=.str b)=decide (a=b):=by
 by_cases e:a=b
 ·subst e;simp
 ·rw[decide_eq_false (λq=>e (by injection q)),decide_eq_false e]
def Z7(prog:A4)(w:Aj):PySem.KeyKind prog w At where
 is:=Hq
 hash:=Pu w
 inj:=λv a b d f=>by
  rcases Hr d with⟨rfl,rfl⟩|⟨i,t,rfl,rfl⟩|⟨x,t,rfl,rfl⟩<;>rcases Hr f with⟨rfl,e⟩|⟨j,u,rfl,e⟩|⟨y,u,rfl,e⟩ <;>
   first|rfl|(cases e;done)|(cases e;rfl)
 byValue:=λk v h=>by
  rcases Hr h with⟨rfl,rfl⟩|⟨i,t,rfl,rfl⟩|⟨x,t,rfl,rfl⟩<;>rfl
 pyHash:=λc h=>by
  rcases Hr c with⟨rfl,rfl⟩|⟨i,t,rfl,rfl⟩|⟨x,t,rfl,rfl⟩
  ·exact dn h
  ·exact wpAny_pyHash_int h
  ·exact wpAny_pyHash_str h
 eqBool:=λg c h=>by
  rcases Hr g with⟨rfl,rfl⟩|⟨i,t,rfl,rfl⟩|⟨x,t,rfl,rfl⟩<;>rcases Hr c with⟨rfl,rfl⟩|⟨j,u,rfl,rfl⟩|⟨y,u,rfl,rfl⟩
  ·exact SeqAt.EqAt.same Ed _ _ _ _ h
  ·exact SeqAt.EqAt.none_int j u _ _ _ _ h
  ·exact SeqAt.EqAt.none_str y u _ _ _ _ h
  ·exact SeqAt.EqAt.int_none i t _ _ _ _ h
  ·rw[dq]at h;exact wpAny_eqBool_int h
  ·exact SeqAt.EqAt.int_str i t y u _ _ _ _ h
  ·exact SeqAt.EqAt.str_none x t _ _ _ _ h
  ·exact SeqAt.EqAt.str_int x t j u _ _ _ _ h
  ·rw[dr]at h;exact wpAny_eqBool_str h
 «strs»:=λk x t v h=>by
  rcases Hr h with⟨rfl,e⟩|⟨i,u,rfl,e⟩|⟨y,u,rfl,e⟩
  ·exact nomatch e
  ·exact nomatch e
  ·injection e with l _
   subst l
   cases v<;>rfl
inductive KT where
 |at(a:At)|tup (l:List At)
 deriving DecidableEq
def KT.hash(w:Aj):KT->Int
 |.at a=>Pu w a
 |.tup l=>reduceHash (Builtin.Tuple.tupleHashOf (l.map (Pu w)))
def Ff:At->V
 |.non=>.non
 |.int i=>.int i
 |.str x=>.str x
def dt:KT->V->Prop
 |.at a,v=>v=Ff a
 |.tup _,v=>∃p,v=.ref p
def Il(w:Aj):List KT->List V->List BH->Prop
 |[],vs,a=>vs=[]/\a=[]
 |k::c,vs,a=>∃b v r e t,vs=b::v::r/\a=e::t/\RelV b e.key/\RelV v e.val/\e.hash=k.hash w/\dt k b/\Il w c r t
inductive HO where
 |lst (xs:List V)
 |tup (xs:List V)
 |dK (kvs:List (En×V))|dT (kvs:List (List En×V))
 |dct (ks:List KT) (vs:List V)
 |set (S:Int->Bool) (n:Nat)
 |ins (C dx:Ac) (fs:List (Ae×V))
 |own (x:Ac)
 |xd (fs:List (Ae×V))
 |met (f x:Ac)
 |rng (lo hi:Int)
 |frz (o:AM) (u:HO)
 |tbl (ps:Array Aa)
 |ext (φ:Al->Prop)
abbrev Hp:=Ac->Option HO
def A3(H:Hp)(a:Ac)(o:HO):Hp:=λb=>if b=a then some o else H b
theorem Ef{H:Hp}{a:Ac}{o:HO}:A3 H a o a=some o:=by unfold A3;rw[if_pos rfl]
theorem ZK{H:Hp}{a b:Ac}{o:HO}(h:b≠a):A3 H a o b=H b:=by unfold A3;rw[if_neg h]
theorem du{H:Hp}{a:Ac}{o u:HO}:A3 (A3 H a o) a u=A3 H a u:=by
 funext b;unfold A3;split<;>rfl
theorem Eo{H:Hp}{a b:Ac}{o:HO}(h:H a=some o)(h':H b=none):a≠b:=by
 intro e;subst e;rw[h]at h';cases h'
section
variable(P:A4)(w:Aj)
def Bl(H:Hp)(h:Al)(a:Ac):HO->Prop
 |.lst d=>d.length<=AG/\∃(b:List Aa) (n:Nat),Ap d b/\h.get? a=some {cls:=.type "list",data:=.seq b.toArray n}
 |.tup d=>d.length<=AG/\∃b:List Aa,Ap d b/\IsTup h a b.toArray
 |.dK c=>c.length<=AG/\(a==Fx)=false/\∃vs,KV c vs/\h.DictOf (Pt P w) a vs
 |.dT c=>c.length<=AG/\(a==Fx)=false/\∃d:List (List En×Ac×Aa),
   Paired (λ(p:List En×V) (q:List En×Ac×Aa)=>p.1=q.1/\H q.2.1=some (.tup (p.1.map kV))/\RelV p.2 q.2.2) c d /\
   ∃o g j,h.get? a=some o/\o.ExactDict/\o.data=.dict g j/\g.toList=d.map (entryOfKey (BI (Pt P w)))/\(d.map (·.1)).Nodup
 |.dct k vs=>k.length<=AG/\(a==Fx)=false/\k.Nodup/\∃o g j,h.get? a=some o/\o.ExactDict/\o.data=.dict g j/\Il w k vs g.toList
 |.set S n=>h.SetOf (intKind P w) a S n
 |.ins C i fs=>H i=some (.own a)/\fs.length<=1000/\i≠a/\h.get? a=some (PySem.W.instObj C i) /\
   ∃e,h.Ns1 i e/\(∀f,Ee (fs.lookup f) (e f))/\PySem.Within e (fs.map (·.1))
 |.own _=>∃o,h.get? a=some o
 |.xd fs=>∃e,h.Ns1 a e/\∀f,Ee (fs.lookup f) (e f)
 |.rng lo s=>∃t u v,h.get? a=some {cls:=.type "range",data:=.fields #[.int lo t,.int s u,.int 1 v]}
 |.frz o u=>h.get? a=some o/\Bl H h a u
 |.tbl y=>h.get? a=some {cls:=.none,data:=.fields y}
 |.met f x=>h.get? a=some (PySem.W.methodObj (.ref f) (.ref x))
 |.ext l=>l h/\(∃o,h.get? a=some o)/\∀m r:Al,l m->(∀o,m.get? a=some o->r.get? a=some o)->l r
def Cg(H:Hp)(h:Al):Prop:=∀a o,H a=some o->Bl P w H h a o
end
section
variable{P:A4}{w:Aj}{H H':Hp}{h h':Al}{a:Ac}{o:HO}
theorem Bl.lt(x:Bl P w H h a o):a<h.objs.size:=by
 cases o with
 |lst c=>obtain⟨_,_,_,_,e⟩:=x;exact By e
 |tup c=>obtain⟨_,_,_,p⟩:=x;exact p.lt
 |dK b=>obtain⟨_,_,_,_,o,_,_,e,_⟩:=x;exact By e
 |dT b=>obtain⟨_,_,_,_,o,_,_,e,_⟩:=x;exact By e
 |dct d vs=>obtain⟨_,_,_,o,_,_,e,_⟩:=x;exact By e
 |set S n=>obtain⟨o,_,_,_,e,_⟩:=x;exact By e
 |ins C g fs=>obtain⟨_,_,_,e,_⟩:=x;exact By e
 |own y=>obtain⟨_,e⟩:=x;exact By e
 |xd fs=>obtain⟨_,⟨_,_,_,e,_⟩,_⟩:=x;exact By e
 |rng lo i=>obtain⟨_,_,_,e⟩:=x;exact By e
 |frz ob u=>obtain⟨e,_⟩:=x;exact By e
 |tbl j=>exact By (show h.get? a=some _ from x)
 |met f y=>exact By (show h.get? a=some _ from x)
 |ext k=>obtain⟨_,⟨_,e⟩,_⟩:=x;exact By e
theorem Paired.mapP{d e:Type}{F G:d->e->Prop}:∀{l₁:List d}{c:List e},Paired F l₁ c->(∀a b,F a b->G a b)->Paired G l₁ c
 |_,_,.nil,_=>.nil
 |_,_,.cons r t,f=>.cons (f _ _ r) (Paired.mapP t f)
theorem Bl.stay(x:Bl P w H h a o)(k:∀b u,(b=a\/H b=some (.own a))->h.get? b=some u->h'.get? b=some u)
  (B:∀b,H b=some (.own a)->H' b=some (.own a)) (E:∀b xs,H b=some (.tup xs)->H' b=some (.tup xs)):Bl P w H' h' a o:=by
 induction o with
 |lst xs=>obtain⟨z,j,n,r,e⟩:=x;exact⟨z,j,n,r,k _ _ (.inl rfl) e⟩
 |tup xs=>obtain⟨z,j,r,ob,e,c⟩:=x;exact⟨z,j,r,ob,k _ _ (.inl rfl) e,c⟩
 |dK l=>obtain⟨z,y,vs,r,ob,g,i,e,c⟩:=x;exact⟨z,y,vs,r,ob,g,i,k _ _ (.inl rfl) e,c⟩
 |dT l=>
  obtain⟨z,y,xs,r,ob,g,i,e,c⟩:=x
  exact⟨z,y,xs,Paired.mapP r λp q z=>⟨z.1,E _ _ z.2.1,z.2.2⟩,ob,g,i,k _ _ (.inl rfl) e,c⟩
 |dct J vs=>obtain⟨z,y,n,ob,g,i,e,c⟩:=x;exact⟨z,y,n,ob,g,i,k _ _ (.inl rfl) e,c⟩
 |set S n=>obtain⟨ob,g,i,t,e,c⟩:=x;exact⟨ob,g,i,t,k _ _ (.inl rfl) e,c⟩
 |ins C L fs=>
  obtain⟨d,z,ne,e,m,⟨s,g,i,G,c⟩,r⟩:=x
  exact⟨B _ d,z,ne,k _ _ (.inl rfl) e,m,⟨s,g,i,k _ _ (.inr d) G,c⟩,r⟩
 |own y=>obtain⟨ob,e⟩:=x;exact⟨ob,k _ _ (.inl rfl) e⟩
 |xd fs=>obtain⟨m,⟨s,g,i,e,c⟩,r⟩:=x;exact⟨m,⟨s,g,i,k _ _ (.inl rfl) e,c⟩,r⟩
 |rng lo M=>obtain⟨t,u,v,e⟩:=x;exact⟨t,u,v,k _ _ (.inl rfl) e⟩
 |frz ob u I=>obtain⟨e,q⟩:=x;exact⟨k _ _ (.inl rfl) e,I q⟩
 |tbl A=>
  have e:h.get? a=some {cls:=.none,data:=.fields A}:=x
  show h'.get? a=some {cls:=.none,data:=.fields A}
  exact k a _ (.inl rfl) e
 |met f y=>
  have e:h.get? a=some (PySem.W.methodObj (.ref f) (.ref y)):=x
  show h'.get? a=some (PySem.W.methodObj (.ref f) (.ref y))
  exact k a _ (.inl rfl) e
 |ext N=>obtain⟨p,⟨o,e⟩,st⟩:=x;exact⟨st _ _ p λo q=>k _ _ (.inl rfl) q,⟨o,k _ _ (.inl rfl) e⟩,st⟩
theorem Cg.lt(x:Cg P w H h)(e:H a=some o):a<h.objs.size:=(x a o e).lt
theorem Cg.fresh(x:Cg P w H h)(e:h.objs.size<=a):H a=none:=by
 cases q:H a with
 |none=>rfl
 |some u=>exact absurd (Ca (x.lt q) e) (FT _)
theorem Cg.kept(x:Cg P w H h)(k:∀b u,h.get? b=some u->h'.get? b=some u):Cg P w H h':=λa o e=>
 (x a o e).stay (λb u _ q=>k b u q) (λ_ q=>q) λ_ _ q=>q
theorem Cg.laid(x:Cg P w H h)(k:∀b u,h.get? b=some u->h'.get? b=some u)(g:h.objs.size<=a)(new:Bl P w (A3 H a o) h' a o):Cg P w (A3 H a o) h':=λb u e=>by
 have d:=x.fresh g
 by_cases f:b=a
 ·subst f;rw[Ef]at e;cases e;exact new
 ·rw[ZK f]at e
  exact(x b u e).stay (λc v _ q=>k c v q) (λc q=>by rw[ZK (Eo q d)];exact q) λc i q=>by rw[ZK (Eo q d)];exact q
end
def Rd(H:Hp)(a:Ac)(u:HO):Prop:=H a=some u\/∃o,H a=some (.frz o u)
theorem Rd.of{H:Hp}{a:Ac}{u:HO}(h:H a=some u):Rd H a u:=.inl h
theorem Rd.ok{P:A4}{w:Aj}{H:Hp}{h:Al}{a:Ac}{u:HO}(r:Rd H a u)(x:Cg P w H h):Bl P w H h a u:=by
 rcases r with r|⟨o,r⟩
 ·exact x a u r
 ·obtain⟨_,q⟩:=x a _ r
  exact q
def KG:Option HO->Prop
 |some (.lst _)=>True
 |some (.dK _)=>True
 |some (.dT _)=>True
 |some (.dct _ _)=>True
 |some (.set _ _)=>True
 |some (.ins _ _ _)=>True
 |some (.ext _)=>True
 |_=>False
section
variable{P:A4}{w:Aj}{H:Hp}{h h':Al}{x e:Ac}{o':HO}
theorem Cg.write(ok:Cg P w H h)(g:KG (H x))(n:e=x\/H e=some (.own x))(k:∀b u,b≠e->h.get? b=some u->h'.get? b=some u)(m:∃u,h'.get? e=some u)
  (new:Bl P w (A3 H x o') h' x o'):Cg P w (A3 H x o') h':=λb u q=>by
 have d:∀c y,H c=some (.own y)->c≠x:=λc y r z=>by subst z;rw[r]at g;exact g
 have f:∀c i,H c=some (.tup i)->c≠x:=λc i r z=>by subst z;rw[r]at g;exact g
 by_cases j:b=x
 ·subst j;rw[Ef]at q;cases q;exact new
 ·rw[ZK j]at q
  by_cases a:b=e
  ·have o:H b=some (.own x):=by
    rcases n with z|z
    ·exact absurd (a.trans z) j
    ·rw[a];exact z
   rw[q]at o;cases o
   obtain⟨v,p⟩:=m
   exact⟨v,by rw[a];exact p⟩
  ·refine(ok b u q).stay (λc v l r=>k c v ?_ r) (λc r=>by rw[ZK (d c b r)];exact r) λc i r=>by rw[ZK (f c i r)];exact r
   rcases l with rfl|l
   ·exact a
   ·rintro rfl
    rcases n with z|z
    ·exact d c b l z
    ·rw[l]at z;cases z;exact j rfl
end
structure Un(fs ex:List Ac)(H H':Hp)(h h':Al):Prop where
 keep:∀b o,h.get? b=some o->H b=none->b∉fs->b∉ex->h'.get? b=some o
 slot:∀b o,h.get? b=some o->H b=none->b∈fs->b∉ex->∃sl,h'.get? b=some {o with slots:=sl}
 free:∀b o,h.get? b=some o->H b=none->b∉ex->H' b=none
 there:∀b o,h.get? b=some o->b∉ex->∃o',h'.get? b=some o'
 tups:∀b xs,H b=some (.tup xs)->H' b=some (.tup xs)
 frzs:∀b o u,H b=some (.frz o u)->H' b=some (.frz o u)
 tbls:∀b ps,H b=some (.tbl ps)->∃more,H' b=some (.tbl (ps++more))
section
variable{fs fs' ex ex':List Ac}{H H1 H2:Hp}{h h1 h2 h':Al}{a x e:Ac}{o:HO}
theorem Un.any(u:Un fs ex H H1 h h1){b:Ac}{ob:AM}(q:h.get? b=some ob)(n:H b=none)(a:b∉ex):∃d,h1.get? b=some {ob with slots:=d}:=by
 by_cases c:b∈fs
 ·exact u.slot b ob q n c a
 ·exact⟨ob.slots,u.keep b ob q n c a⟩
theorem Un.trans(a:Un fs ex H H1 h h1)(b:Un fs ex H1 H2 h1 h2):Un fs ex H H2 h h2 where
 keep:=λc ob q n f d=>b.keep c ob (a.keep c ob q n f d) (a.free c ob q n d) f d
 slot:=λc ob q n f d=>by
  obtain⟨m,e⟩:=a.slot c ob q n f d
  obtain⟨i,j⟩:=b.slot c _ e (a.free c ob q n d) f d
  exact⟨i,j⟩
 free:=λc ob q n d=>by
  obtain⟨k,e⟩:=a.there c ob q d
  exact b.free c k e (a.free c ob q n d) d
 there:=λc ob q d=>by
  obtain⟨k,e⟩:=a.there c ob q d
  exact b.there c k e d
 tups:=λc g q=>b.tups c g (a.tups c g q)
 frzs:=λc ob g q=>b.frzs c ob g (a.frzs c ob g q)
 tbls:=λc l q=>by
  obtain⟨m1,e⟩:=a.tbls c l q
  obtain⟨m2,j⟩:=b.tbls c _ e
  exact⟨m1++m2,by rw[j,Array.append_assoc]⟩
theorem Un.kept(k:∀b u,h.get? b=some u->h'.get? b=some u):Un fs ex H H h h':=
 ⟨λb ob q _ _ _=>k b ob q,λb ob q _ _ _=>⟨ob.slots,k b ob q⟩,λ_ _ _ n _=>n,λb ob q _=>⟨ob,k b ob q⟩,λ_ _ q=>q,λ_ _ _ q=>q,λ_ a q=>⟨#[],by rw[q];simp⟩⟩
theorem Un.refl:Un fs ex H H h h:=Un.kept λ_ _ q=>q
theorem Un.laid(k:∀b u,h.get? b=some u->h'.get? b=some u)(d:h.objs.size<=a)(c:H a=none):Un fs ex H (A3 H a o) h h' where
 keep:=λb u q _ _ _=>k b u q
 slot:=λb u q _ _ _=>⟨u.slots,k b u q⟩
 free:=λb u q n _=>by rw[ZK (Cs (Ca (By q) d))];exact n
 there:=λb u q _=>⟨u,k b u q⟩
 tups:=λb e q=>by rw[ZK (Eo q c)];exact q
 frzs:=λb u e q=>by rw[ZK (Eo q c)];exact q
 tbls:=λb f q=>⟨#[],by rw[ZK (Eo q c),q];simp⟩
theorem Un.write(c:KG (H x))(j:e=x\/H e=some (.own x))(k:∀b u,b≠e->h.get? b=some u->h'.get? b=some u)(d:∃u,h'.get? e=some u):Un fs ex H (A3 H x o) h h':=by
 have g:∀b,H b=none->b≠x:=λb n z=>by subst z;rw[n]at c;exact c
 have i:∀b,H b=none->b≠e:=λb n z=>by
  subst z
  rcases j with r|r
  ·exact g b n r
  ·rw[n]at r;cases r
 have f:∀b u,H b=some u->¬ KG (some u)->b≠x:=λb u q l z=>by subst z;rw[q]at c;exact l c
 refine⟨λb u q n _ _=>k b u (i b n) q,λb u q n _ _=>⟨u.slots,k b u (i b n) q⟩,λb u q n _=>by rw[ZK (g b n)];exact n,λb u q _=>?_,
  λb m q=>by rw[ZK (f b _ q λz=>z)];exact q,λb u m q=>by rw[ZK (f b _ q λz=>z)];exact q,λb p q=>⟨#[],by rw[ZK (f b _ q λz=>z),q];simp⟩⟩
 by_cases a:b=e
 ·subst a;exact d
 ·exact⟨u,k b u a q⟩
theorem Un.mono(u:Un fs ex H H1 h h1)(d:∀b∈fs,b∈fs')(c:∀b∈ex,b∈ex'):Un fs' ex' H H1 h h1:=
 ⟨λb ob q n e a=>u.keep b ob q n (λz=>e (d b z)) λz=>a (c b z),λ_ _ q n _ a=>u.any q n λz=>a (c _ z),λb ob q n a=>u.free b ob q n λz=>a (c b z),λb ob q a=>u.there b ob q λz=>a (c b z),u.tups,u.frzs,u.tbls⟩
end
def Mx(h:Al)(H:Hp):List Ac:=(A7 h.objs.size).filter λa=>(H a).isSome
def GS(h:Al)(H:Hp):Al:=PySem.W.hideAll h (Mx h H)
theorem dw(h:Al)(H:Hp):(GS h H).objs.size=h.objs.size:=PySem.W.hideAll_size _ _
theorem dy{h:Al}{H:Hp}{b:Ac}{o:AM}(e:h.get? b=some o)(n:H b=none):(GS h H).get? b=some o:=
 PySem.W.hideAll_get _ e λa=>by
  have q:(H b).isSome=true:=(List.mem_filter.mp a).2
  rw[n]at q;simp at q
theorem dz{h:Al}{H:Hp}{b:Ac}{o:AM}(e:(GS h H).get? b=some o):h.get? b=some o/\H b=none:=by
 have a:h.get? b=some o:=PySem.W.of_hideAll (Mx h H) e
 refine⟨a,?_⟩
 cases q:H b with
 |none=>rfl
 |some x=>
  have c:b∈Mx h H:=List.mem_filter.mpr ⟨List.mem_range.mpr (By a),by simp[q]⟩
  have z:(GS h H).get? b=none:=PySem.W.hideAll_none (Mx h H) c
  rw[z]at e;cases e
def dA(g h:Al)(L:Ac):List (Ac×AM):=(A7 h.objs.size).filterMap λa=>if a=L\/(g.get? a).isSome=true then none else(h.get? a).map λo=>(a,o)
def B3(g h:Al)(L d:Ac):List (Ac×AM):=(dA g h L).filter λp=>decide (p.1≠d)
structure Mod(K:As)(mg:Ae->Option Aa)(base:Al):Prop where
 kin:K.In base
 glob:base.Ns C5 mg
 blt:∃mb,base.Ns builtinsNs mb/\∀x:Ae,x≠"__name__"->mb x=Ep x
 nolimit:base.NoLimit
structure Cx where
 prog:A4
 w:Aj
 K:As
 mg:Ae->Option Aa
 base:Al
 A:Ak
 N:List Ae
 s₀:Ab
 H₀:Hp
 env:Env
 outer:List Env
 stack:List Env
 ex:List Ac
 fn:Ae->Bool
 calm:Bool
 pn:List (Ac×AM)
 xe:Aa->Ab->Prop
def Cc(l:List Env):List Ac:=l.filterMap (·.frame)
abbrev Cx.fs(X:Cx):List Ac:=Cc X.outer
def Dq(a:Scope)(x:Ae):Prop:=a.names.lookup x=some .local\/a.names.lookup x=some .cell\/a.names.lookup x=some .free
def Loc(a:Scope)(x:Ae):Prop:=a.names.lookup x=some .local\/a.names.lookup x=some .cell
def dB(env:Env)(h:Al)(m:Ae->Option Aa)(x:Ae)(u:Aa):Prop:=
 (env.kindOf x=some .local/\m x=some u)\/((env.kindOf x=some .cell\/env.kindOf x=some .free)/\∃c,env.cells.lookup x=some c/\h.IsCell c (some u))
structure Cx.Ok(X:Cx):Prop where
 mod:Mod X.K X.mg X.base
 kind:X.env.scope.kind=.function
 glob:X.env.globals=C5
 blt:X.env.builtins=builtinsNs
 above:X.s₀.heap.objs.size<=X.env.locals
 inj:∀x y c,X.env.cells.lookup x=some c->X.env.cells.lookup y=some c->x=y
 has:∀x,(X.env.kindOf x=some .cell\/X.env.kindOf x=some .free)->∃c,X.env.cells.lookup x=some c
 cab:∀x c,X.fn x=true->X.env.cells.lookup x=some c->X.s₀.heap.objs.size<=c
 hd:X.calm=true->X.A.handled=none
 frames:X.A.frames=some X.stack
 stk:X.stack=X.outer\/(X.stack=X.env::X.outer/\X.env.frame=some X.env.locals)
 exf:∀b∈X.ex,b≠X.env.locals/\∀x c,X.env.cells.lookup x=some c->c≠b
 bs:∀b o,X.base.get? b=some o->X.s₀.heap.get? b=some o/\X.H₀ b=none
 bsz:X.base.objs.size<=X.s₀.heap.objs.size
 noex:∀b o,X.base.get? b=some o->b∉X.ex
 exfs:∀b∈X.ex,b∉X.fs
 funs:X.s₀.heap.FunFrames X.base X.outer
 frf:∀b∈X.fs,X.H₀ b=none
structure Inv(X:Cx)(pins:List (Ac×AM))(σ:List (Option V))(H:Hp)(s:Ab):Prop where
 ok:X.Ok
 os:s.os=X.s₀.os
 bare:AllBare s.gens
 base:Un X.fs X.ex X.H₀ H X.s₀.heap s.heap
 loc:∃m,s.heap.Ns X.env.locals m/\∀(i:Nat) (x:Ae) (v:V),X.N[i]?=some x->σ[i]?=some (some v)->Dq X.env.scope x->∃u,RelV v u/\dB X.env s.heap m x u
 cell:∀x c,X.env.cells.lookup x=some c->∃v,s.heap.IsCell c v
 free:H X.env.locals=none
 freeC:∀x c,X.env.cells.lookup x=some c->H c=none
 pin:∀p∈X.pn++pins,s.heap.get? p.1=some p.2/\H p.1=none/\p.1≠X.env.locals/\p.1∉X.fs/\∀v,p.2.data≠.cell v
 hok:Cg X.prog X.w H s.heap
 len:σ.length=X.N.length
section
variable{X:Cx}{pins:List (Ac×AM)}{σ:List (Option V)}{H H':Hp}{s:Ab}{h':Al}
theorem Cx.Ok.nofr(ok:X.Ok){b:Ac}{o:AM}(e:X.base.get? b=some o):b∉X.fs:=λa=>by
 have:=(ok.funs.mem a).1
 rw[e]at this;cases this
theorem Inv.bs(I:Inv X pins σ H s):∀b o,X.base.get? b=some o->s.heap.get? b=some o/\H b=none:=λb o e=>
 ⟨I.base.keep b o (I.ok.bs b o e).1 (I.ok.bs b o e).2 (I.ok.nofr e) (I.ok.noex b o e),I.base.free b o (I.ok.bs b o e).1 (I.ok.bs b o e).2 (I.ok.noex b o e)⟩
theorem Inv.bk(I:Inv X pins σ H s):∀b o,X.base.get? b=some o->s.heap.get? b=some o:=λb o e=>(I.bs b o e).1
theorem Inv.mod(I:Inv X pins σ H s):Mod X.K X.mg X.base:=I.ok.mod
theorem Inv.kIn(I:Inv X pins σ H s):X.K.In s.heap:=I.ok.mod.kin.keeps I.bk
theorem Inv.nolimit(I:Inv X pins σ H s):s.heap.NoLimit:=I.ok.mod.nolimit.keeps I.bk
theorem Inv.fr(I:Inv X pins σ H s):∃m,Fr X.base X.env.locals s.heap m:=
 let⟨m,a,_⟩:=I.loc
 ⟨m,a,I.bk,CK I.ok.bsz I.ok.above⟩
theorem Inv.lt(I:Inv X pins σ H s):X.env.locals<s.heap.objs.size:=let⟨_,a,_⟩:=I.loc;a.lt
theorem Inv.sz(I:Inv X pins σ H s):X.s₀.heap.objs.size<=s.heap.objs.size:=CK I.ok.above (Jh I.lt)
theorem Inv.nofs(I:Inv X pins σ H s){a:Ac}(h:s.heap.objs.size<=a):a∉X.fs:=λb=>by
 obtain⟨_,o,c,_⟩:=I.ok.funs.mem b
 exact absurd (Ca (By c) (CK I.sz h)) (FT _)
theorem Inv.cne(I:Inv X pins σ H s):∀x c,X.env.cells.lookup x=some c->c≠X.env.locals:=λx c e z=>by
 obtain⟨v,o,d,hd⟩:=I.cell x c e
 obtain⟨m,⟨f,g,h,a,b,_⟩,_⟩:=I.loc
 rw[z,a]at d;cases d;rw[b]at hd;cases hd
theorem Inv.funs(I:Inv X pins σ H s):s.heap.FunFrames X.base X.outer:=by
 have all:∀(l:List Env),(∀b∈Cc l,b∈X.fs)->X.s₀.heap.FunFrames X.base l->s.heap.FunFrames X.base l:=by
  intro l
  induction l with
  |nil=>intro _ _;trivial
  |cons env r g=>
   intro f h
   obtain⟨i,⟨L,o,a,j,k,hd⟩,m⟩:=h
   have c:L∈X.fs:=f L (by unfold Cc;rw[Ji,a];exact BA)
   obtain⟨n,e⟩:=I.base.slot L o k (I.ok.frf L c) c λz=>I.ok.exfs L z c
   exact⟨i,⟨L,_,a,j,e,hd⟩,g (λb d=>f b (by unfold Cc;rw[Ji,a];exact Bt _ d)) m⟩
 exact all X.outer (λ_ d=>d) I.ok.funs
theorem Inv.stack(I:Inv X pins σ H s):s.heap.FunFrames X.base X.stack:=by
 rcases I.ok.stk with e|⟨e,a⟩
 ·rw[e];exact I.funs
 ·rw[e]
  obtain⟨m,b,_⟩:=I.loc
  refine .cons (by rw[I.ok.kind];decide) a b ?_ I.funs
  exact Heap.get?_none_of_le (CK I.ok.bsz I.ok.above)
theorem Inv.stkSub(I:Inv X pins σ H s):∀b∈Cc X.stack,b∈X.env.locals::X.fs:=λb a=>by
 rcases I.ok.stk with e|⟨e,c⟩
 ·rw[e]at a;exact Bt _ a
 ·rw[e]at a
  unfold Cc at a
  rw[Ji,c]at a
  exact a
theorem Inv.stkFree(I:Inv X pins σ H s):∀b∈Cc X.stack,H b=none:=λb a=>by
 rcases Bv.mp (I.stkSub b a)with e|a
 ·rw[e];exact I.free
 ·obtain⟨_,o,c,_⟩:=I.ok.funs.mem a
  exact I.base.free b o c (I.ok.frf b a) λz=>I.ok.exfs b z a
theorem Inv.step{g':Array GenState}{t':Nat}{d':Drawn}{ch:List Ac}(I:Inv X pins σ H s)
  (f:∀b∈ch,(b∈X.ex\/X.s₀.heap.objs.size<=b)/\b≠X.env.locals/\(∀x c,X.env.cells.lookup x=some c->c≠b)/\∀p∈X.pn++pins,p.1≠b)
  (keep:∀b o,b≠X.env.locals->b∉X.fs->b∉ch->s.heap.get? b=some o->H b=none->h'.get? b=some o)
  (slot:∀b o,b≠X.env.locals->b∈X.fs->b∉ch->s.heap.get? b=some o->H b=none->∃J,h'.get? b=some {o with slots:=J}) (free:∀b o,b∉ch->s.heap.get? b=some o->H b=none->H' b=none)
  (there:∀b o,b∉ch->s.heap.get? b=some o->∃B,h'.get? b=some B)
  (tups:∀b xs,H b=some (.tup xs)->H' b=some (.tup xs)) (frzs:∀b o u,H b=some (.frz o u)->H' b=some (.frz o u)) (tbls:∀b ps,H b=some (.tbl ps)->∃C,H' b=some (.tbl (ps++C)))
  (O:∀m,s.heap.Ns X.env.locals m->h'.Ns X.env.locals m) (hok:Cg X.prog X.w H' h') (Q:AllBare g'):
  Inv X pins σ H' {s with heap:=h',gens:=g',drawn:=d',toks:=t' }:=by
 have E:∀b o,X.s₀.heap.get? b=some o->b≠X.env.locals:=λb o e=>Cs (Ca (By e) I.ok.above)
 have j:∀b o,X.s₀.heap.get? b=some o->b∉X.ex->b∉ch:=λb o e a y=>by
  rcases(f b y).1 with z|z
  ·exact a z
  ·exact absurd (Ca (By e) z) (FT _)
 have g:∀x c,X.env.cells.lookup x=some c->∀v,s.heap.IsCell c v->h'.IsCell c v:=λx c e v ⟨o,A,hd⟩=>by
  have h:c∉ch:=λz=>(f c z).2.2.1 x c e rfl
  by_cases M:c∈X.fs
  ·obtain⟨J,q⟩:=slot c o (I.cne x c e) M h A (I.freeC x c e)
   exact⟨_,q,hd⟩
  ·exact⟨o,keep c o (I.cne x c e) M h A (I.freeC x c e),hd⟩
 refine⟨I.ok,I.os,Q,⟨λb o e n y a=>?_,λb o e n y a=>?_,λb o e n a=>?_,λb o e a=>?_,λb xs e=>tups b xs (I.base.tups b xs e),λb o xs e=>frzs b o xs (I.base.frzs b o xs e),λb ps e=>?_⟩,?_,λx c e=>?_,?_,λx c e=>?_,λp N=>?_,hok,I.len⟩
 ·exact keep b o (E b o e) y (j b o e a) (I.base.keep b o e n y a) (I.base.free b o e n a)
 ·obtain⟨J,t⟩:=I.base.slot b o e n y a
  obtain⟨L,G⟩:=slot b _ (E b o e) y (j b o e a) t (I.base.free b o e n a)
  exact⟨L,G⟩
 ·obtain⟨B,t⟩:=I.base.there b o e a
  exact free b B (j b o e a) t (I.base.free b o e n a)
 ·obtain⟨B,t⟩:=I.base.there b o e a
  exact there b B (j b o e a) t
 ·obtain⟨m1,t⟩:=I.base.tbls b ps e
  obtain⟨m2,G⟩:=tbls b _ t
  exact⟨m1++m2,by rw[G,Array.append_assoc]⟩
 ·obtain⟨m,T,U⟩:=I.loc
  refine⟨m,O m T,λi x v t G Y=>?_⟩
  obtain⟨u,r,l⟩:=U i x v t G Y
  refine⟨u,r,?_⟩
  rcases l with l|⟨k,c,e,z⟩
  ·exact .inl l
  ·exact .inr ⟨k,c,e,g x c e _ z⟩
 ·obtain⟨v,z⟩:=I.cell x c e
  exact⟨v,g x c e v z⟩
 ·obtain⟨m,⟨o,_,_,A,_⟩,_⟩:=I.loc
  exact free _ o (λz=>(f _ z).2.1 rfl) A I.free
 ·obtain⟨v,o,A,hd⟩:=I.cell x c e
  exact free c o (λz=>(f c z).2.2.1 x c e rfl) A (I.freeC x c e)
 ·obtain⟨e,n,ne,nf,d⟩:=I.pin p N
  have h:p.1∉ch:=λz=>(f p.1 z).2.2.2 p N rfl
  exact⟨keep p.1 p.2 ne nf h e n,free p.1 p.2 h e n,ne,nf,d⟩
theorem Inv.un{t':Nat}(I:Inv X pins σ H s)(u:Un X.fs [] H H' s.heap h')(hok:Cg X.prog X.w H' h'):Inv X pins σ H' {s with heap:=h',toks:=t' }:=by
 obtain⟨m,⟨o,k,l,g,r⟩,_⟩:=id I.loc
 obtain⟨p,h⟩:=u.any g I.free (by simp)
 exact I.step (g':=s.gens) (d':=s.drawn) (ch:=[]) (λ_ z=>nomatch z) (λb o _ c _ e n=>u.keep b o e n c (by simp)) (λb o _ c _ e n=>u.slot b o e n c (by simp)) (λb o _ e n=>u.free b o e n (by simp)) (λb o _ e=>u.there b o e (by simp)) u.tups u.frzs u.tbls (λx i=>by
  obtain⟨y,d,f,a,j⟩:=i
  rw[g]at a;cases a
  exact⟨_,d,f,h,j⟩) hok I.bare
theorem Inv.call{g':Array GenState}{t':Nat}{d':Drawn}{ch:List Ac}(I:Inv X pins σ H s)(u:Un (Cc X.stack) ch H H' s.heap h')(hok:Cg X.prog X.w H' h')(k:AllBare g')
  (d:∀b∈ch,(b∈X.ex\/X.s₀.heap.objs.size<=b)/\b≠X.env.locals/\(∀x c,X.env.cells.lookup x=some c->c≠b)/\∀p∈X.pn++pins,p.1≠b):
  Inv X pins σ H' {s with heap:=h',gens:=g',drawn:=d',toks:=t' }:=by
 obtain⟨m,⟨o,v,y,j,r⟩,_⟩:=id I.loc
 obtain⟨A,g⟩:=u.any j I.free λz=>(d _ z).2.1 rfl
 exact I.step (ch:=ch) d (λb o g l a e n=>u.keep b o e n (λz=>(Bv.mp (I.stkSub b z)).elim g l) a) (λb o _ _ a e n=>u.any e n a) (λb o a e n=>u.free b o e n a) (λb o a e=>u.there b o e a) u.tups u.frzs u.tbls (λB q=>by
  obtain⟨C,h,i,f,t⟩:=q
  rw[j]at f;cases f
  exact⟨_,h,i,g,t⟩) hok k
theorem Inv.turned{t':Nat}{it:Ac}(I:Inv X pins σ H s)(k:∀b o,b≠it->s.heap.get? b=some o->h'.get? b=some o)(g:H it=none)(f:it≠X.env.locals)
  (h:it∈X.ex\/X.s₀.heap.objs.size<=it) (i:∀x c,X.env.cells.lookup x=some c->c≠it) (j:∀p∈X.pn++pins,p.1≠it):Inv X pins σ H {s with heap:=h',toks:=t' }:=by
 have d:∀b u,H b=some u->b≠it:=λb u e z=>by rw[z,g]at e;cases e
 refine I.step (g':=s.gens) (d':=s.drawn) (ch:=[it]) (λb l=>?_) (λb o _ _ a e _=>k b o (λz=>a (by simp[z])) e) (λb o _ _ a e _=>⟨o.slots,k b o (λz=>a (by simp[z])) e⟩) (λ_ _ _ _ n=>n)
  (λb o a e=>⟨o,k b o (λz=>a (by simp[z])) e⟩) (λ_ _ e=>e) (λ_ _ _ e=>e) (λb G e=>⟨#[],by rw[e];simp⟩) (λm t=>?_) (λb u e=>?_) I.bare
 ·have e:b=it:=by simpa using l
  subst e
  exact⟨h,f,i,j⟩
 ·obtain⟨o,w,y,A,r⟩:=t
  exact⟨o,w,y,k _ o (Br f) A,r⟩
 ·refine(I.hok b u e).stay (λc v a q=>k c v ?_ q) (λ_ q=>q) λ_ _ q=>q
  rcases a with z|z
  ·rw[z];exact d b u e
  ·exact d c _ z
theorem Inv.tok(I:Inv X pins σ H s)(t:Nat):Inv X pins σ H {s with toks:=t}:=I.un (h':=s.heap) (t':=t) Un.refl I.hok
theorem Inv.kept{t':Nat}(I:Inv X pins σ H s)(k:∀b u,s.heap.get? b=some u->h'.get? b=some u):Inv X pins σ H {s with heap:=h',toks:=t' }:=I.un (Un.kept k) (I.hok.kept k)
theorem Inv.laid{a:Ac}{o:HO}{t':Nat}(I:Inv X pins σ H s)(k:∀b u,s.heap.get? b=some u->h'.get? b=some u)(c:s.heap.objs.size<=a)(new:Bl X.prog X.w (A3 H a o) h' a o):
  Inv X pins σ (A3 H a o) {s with heap:=h',toks:=t' }:=I.un (Un.laid k c (I.hok.fresh c)) (I.hok.laid k c new)
theorem Inv.write{x e:Ac}{o:HO}{t':Nat}(I:Inv X pins σ H s)(c:KG (H x))(d:e=x\/H e=some (.own x))(k:∀b u,b≠e->s.heap.get? b=some u->h'.get? b=some u)(a:∃u,h'.get? e=some u)
  (new:Bl X.prog X.w (A3 H x o) h' x o):Inv X pins σ (A3 H x o) {s with heap:=h',toks:=t' }:=I.un (Un.write c d k a) (I.hok.write c d k a new)
theorem Inv.weak{a:List (Option V)}(I:Inv X pins σ H s)(c:a.length=σ.length)(w:∀(i:Nat) v,a[i]?=some (some v)->σ[i]?=some (some v)):Inv X pins a H s:=
 ⟨I.ok,I.os,I.bare,I.base,let⟨m,d,b⟩:=I.loc;⟨m,d,λi x v e f g=>b i x v e (w i v f) g⟩,I.cell,I.free,I.freeC,I.pin,I.hok,c.trans I.len⟩
theorem Inv.pins_of{a:List (Ac×AM)}(I:Inv X pins σ H s)(h:∀p∈a,s.heap.get? p.1=some p.2/\H p.1=none/\p.1≠X.env.locals/\p.1∉X.fs/\∀v,p.2.data≠.cell v):Inv X a σ H s:=
 ⟨I.ok,I.os,I.bare,I.base,I.loc,I.cell,I.free,I.freeC,λp b=>(List.mem_append.mp b).elim (λz=>I.pin p (Jj _ z)) (h p),I.hok,I.len⟩
theorem Ug{N:List Ae}(c:N.Nodup){i j:Nat}{x:Ae}(a:N[i]?=some x)(b:N[j]?=some x):i=j:=by
 obtain⟨f,d⟩:=List.getElem?_eq_some_iff.mp a
 obtain⟨g,e⟩:=List.getElem?_eq_some_iff.mp b
 exact(List.getElem_inj c).mp (d.trans e.symm)
theorem Uh{M:Model}{A:Ak}{E:Aa->Ab->Prop}{i:Nat}{x:Ae}{v:V}{u:Aa}{Q:Unit->Ab->Prop}(I:Inv X pins σ H s)(hN:X.N.Nodup)(hi:X.N[i]?=some x)(B:Loc X.env.scope x)(r:RelV v u)
  (h:∀s',Inv X pins (σ.set i (some v)) H s'->(∃a,Dr a s.heap s'.heap/\(a=X.env.locals\/X.env.cells.lookup x=some a))->Q () s') (hf:X.fn x=true\/X.env.scope.names.lookup x=some .local:=by first|exact .inl rfl|exact .inr rfl|assumption):wpAny M A (storeName X.env x u) Q E s:=by
 obtain⟨m,hn,hl⟩:=id I.loc
 have hcls:(X.env.scope.kind==.class||(X.env.scope.kind==.module&&X.env.locals != X.env.globals))=false:=by rw[I.ok.kind];rfl
 have J:i<σ.length:=by rw[I.len];exact(List.getElem?_eq_some_iff.mp hi).1
 have O:=I.cne
 have g:∀{a:Ac} {h':Al},(∃o,s.heap.get? a=some o/\H a=none)->Dr a s.heap h'->Cg X.prog X.w H h':=λ{a h'} ha f b ob e=>by
  obtain⟨_,_,C⟩:=ha
  refine(I.hok b ob e).stay (λc w' t q=>(f.2 c ?_).trans q) (λ_ q=>q) λ_ _ q=>q
  rintro rfl
  rcases t with rfl|t
  ·rw[C]at e;cases e
  ·rw[C]at t;cases t
 rcases B with L|L
 ·refine wpAny_storeName_local L hn (λh' hn' f=>?_) hcls
  obtain⟨oL,_,_,hoL,_⟩:=id hn
  refine h _ ⟨I.ok,I.os,I.bare,⟨λb o e n T B=>?_,λb o e n T B=>?_,I.base.free,λb o e B=>?_,I.base.tups,I.base.frzs,I.base.tbls⟩,⟨_,hn',λj y v' l G e3=>?_⟩,λy c e=>?_,I.free,I.freeC,λp hp=>?_,g ⟨oL,hoL,I.free⟩ f,by simpa using I.len⟩ ⟨_,f,.inl rfl⟩
  ·exact(f.2 b (Cs (Ca (By e) I.ok.above))).trans (I.base.keep b o e n T B)
  ·obtain⟨sl,l⟩:=I.base.slot b o e n T B
   exact⟨sl,(f.2 b (Cs (Ca (By e) I.ok.above))).trans l⟩
  ·obtain⟨o',l⟩:=I.base.there b o e B
   exact⟨o',(f.2 b (Cs (Ca (By e) I.ok.above))).trans l⟩
  ·by_cases U:j=i
   ·subst U
    rw[hi]at l;cases l
    rw[KH J]at G
    cases G
    exact⟨u,r,.inl ⟨L,by simp⟩⟩
   ·rw[Gk (Br U)]at G
    obtain⟨u',r',q⟩:=hl j y v' l G e3
    refine⟨u',r',?_⟩
    rcases q with⟨k,e⟩|⟨k,c,e,z⟩
    ·refine .inl ⟨k,?_⟩
     have:y≠x:=λe=>U (Ug hN l (e ▸ hi))
     simp[this,e]
    ·exact .inr ⟨k,c,e,z.sameBut f (O y c e)⟩
  ·obtain⟨w',z⟩:=I.cell y c e
   exact⟨w',z.sameBut f (O y c e)⟩
  ·obtain⟨e,n,ne,nf,d⟩:=I.pin p hp
   exact⟨(f.2 p.1 ne).trans e,n,ne,nf,d⟩
 ·have Y:X.fn x=true:=by
   rcases hf with z|z
   ·exact z
   ·rw[z]at L;cases L
  obtain⟨c,t⟩:=I.ok.has x (.inl L)
  obtain⟨w',z⟩:=I.cell x c t
  refine wpAny_storeName_cell I.ok.kind L t z (λh' hc' f=>?_)
  obtain⟨oc,hoc,hocd⟩:=id z
  refine h {s with heap:=h' } ⟨I.ok,I.os,I.bare,⟨λb o e n T B=>?_,λb o e n T B=>?_,I.base.free,λb o e B=>?_,I.base.tups,I.base.frzs,I.base.tbls⟩,⟨m,hn.sameBut f (Br (O x c t)),λj y v' l G e3=>?_⟩,λy c' e=>?_,I.free,I.freeC,λp hp=>?_,g ⟨oc,hoc,I.freeC x c t⟩ f,by simpa using I.len⟩ ⟨c,f,.inr t⟩
  ·exact(f.2 b (Cs (Ca (By e) (I.ok.cab x c Y t)))).trans (I.base.keep b o e n T B)
  ·obtain⟨sl,l⟩:=I.base.slot b o e n T B
   exact⟨sl,(f.2 b (Cs (Ca (By e) (I.ok.cab x c Y t)))).trans l⟩
  ·obtain⟨o',l⟩:=I.base.there b o e B
   exact⟨o',(f.2 b (Cs (Ca (By e) (I.ok.cab x c Y t)))).trans l⟩
  ·by_cases U:j=i
   ·subst U
    rw[hi]at l;cases l
    rw[KH J]at G
    cases G
    exact⟨u,r,.inr ⟨.inl L,c,t,hc'⟩⟩
   ·rw[Gk (Br U)]at G
    obtain⟨u',r',q⟩:=hl j y v' l G e3
    refine⟨u',r',?_⟩
    rcases q with q|⟨k,c',e,z'⟩
    ·exact .inl q
    ·refine .inr ⟨k,c',e,z'.sameBut f ?_⟩
     rintro rfl
     exact U (Ug hN l (I.ok.inj _ _ _ e t ▸ hi))
  ·by_cases hcc:c'=c
   ·subst hcc;exact⟨_,hc'⟩
   ·obtain⟨w2,z2⟩:=I.cell y c' e
    exact⟨w2,z2.sameBut f hcc⟩
  ·obtain⟨e,n,ne,nf,d⟩:=I.pin p hp
   refine⟨(f.2 p.1 ?_).trans e,n,ne,nf,d⟩
   intro q
   rw[q,hoc]at e
   have q':oc=p.2:=Fy e
   exact d w' (by rw[<- q'];exact hocd)
theorem Pw{M:Model}{A:Ak}{E:Aa->Ab->Prop}{i:Nat}{x:Ae}{v:V}{u:Aa}{Q:Unit->Ab->Prop}(I:Inv X pins σ H s)(a:X.N.Nodup)(b:X.N[i]?=some x)(c:Loc X.env.scope x)(r:RelV v u)
  (h:∀s',Inv X pins (σ.set i (some v)) H s'->Q () s') (d:X.fn x=true\/X.env.scope.names.lookup x=some .local:=by first|exact .inl rfl|exact .inr rfl|assumption):wpAny M A (storeName X.env x u) Q E s:=
 Uh I a b c r (λs' e _=>h s' e) d
theorem Inv.call'{s':Ab}{ch:List Ac}(I:Inv X pins σ H s)(h:s'.os=s.os)(u:Un (Cc X.stack) ch H H' s.heap s'.heap)(hok:Cg X.prog X.w H' s'.heap)(i:AllBare s'.gens)
  (a:∀b∈ch,(b∈X.ex\/X.s₀.heap.objs.size<=b)/\b≠X.env.locals/\(∀x c,X.env.cells.lookup x=some c->c≠b)/\∀p∈X.pn++pins,p.1≠b):Inv X pins σ H' s':=by
 obtain⟨h',d,f,g,j⟩:=s'
 have e:j=s.os:=h
 subst e
 exact I.call (g':=d) (t':=g) (d':=f) u hok i a
end
abbrev XK:=Aa->Option Ac->Hp->Prop
abbrev St:=List (Option V)
abbrev VK:=V->Hp->Prop
abbrev TE:=St->Hp->VK->Prop
abbrev TT:=St->Hp->(Bool->Hp->Prop)->Prop
abbrev TA:=St->Hp->(List V->Hp->Prop)->Prop
structure Ends where
 nx:St->Hp->Prop
 rt:VK
 bk:St->Hp->Prop:=λ_ _=>False
 ct:St->Hp->Prop:=λ_ _=>False
abbrev TS:=Ends->St->Hp->Prop
def EP(X:Cx)(a:List (Ac×AM))(σ:St)(Q:VK)(u:Aa)(s':Ab):Prop:=∃v b,Inv X a σ b s'/\RelV v u/\Q v b
def TP(X:Cx)(a:List (Ac×AM))(σ:St)(Q:Bool->Hp->Prop)(b:Bool)(s':Ab):Prop:=∃c,Inv X a σ c s'/\Q b c
def AP(X:Cx)(a:List (Ac×AM))(σ:St)(Q:List V->Hp->Prop)(us:List Aa)(s':Ab):Prop:=∃vs b,Inv X a σ b s'/\Ap vs us/\Q vs b
def SP(X:Cx)(b:List (Ac×AM))(D:Ends)(f:Flow)(s':Ab):Prop:=
 match f with
 |.next=>∃a c,Inv X b a c s'/\D.nx a c
 |.brk=>∃a c,Inv X b a c s'/\D.bk a c
 |.cont=>∃a c,Inv X b a c s'/\D.ct a c
 |.ret u=>∃v a c,Inv X b a c s'/\RelV v u/\D.rt v c
def PE(X:Cx)(e:Expr)(t:TE):Prop:=
 ∀(a:List (Ac×AM)) (s:Ab) (b:St) (H:Hp) (Q:VK),Inv X a b H s->t b H Q->wpAny (Af X.prog X.w) X.A (AC e X.env) (EP X a b Q) X.xe s
def PT(X:Cx)(e:Expr)(t:TT):Prop:=
 ∀(a:List (Ac×AM)) (s:Ab) (b:St) (H:Hp) (Q:Bool->Hp->Prop),Inv X a b H s->t b H Q->wpAny (Af X.prog X.w) X.A (isTrue e X.env (AC e X.env)) (TP X a b Q) X.xe s
def PW(X:Cx)(e:Expr)(t:TT):Prop:=
 ∀(b:Sem Aa) (a:List (Ac×AM)) (s:Ab) (c:St) (H:Hp) (Q:Bool->Hp->Prop),Inv X a c H s->t c H Q->wpAny (Af X.prog X.w) X.A (isTrue e X.env b) (TP X a c Q) X.xe s
theorem PW.pt{X:Cx}{e:Expr}{t:TT}(h:PW X e t):PT X e t:=h _
def PA(X:Cx)(es:List Expr)(t:TA):Prop:=
 ∀(pos:Bc) (a:List (Ac×AM)) (s:Ab) (b:St) (H:Hp) (Q:List V->Hp->Prop),Inv X a b H s->t b H Q->wpAny (Af X.prog X.w) X.A (spliced (AZ pos (AX es X.env))) (AP X a b Q) X.xe s
def PS(X:Cx)(st:Ay)(t:TS):Prop:=
 ∀(a:List (Ac×AM)) (s:Ab) (b:St) (H:Hp) (D:Ends),Inv X a b H s->t D b H->wpAny (Af X.prog X.w) X.A (exec st X.env) (SP X a D) X.xe s
def Er(X:Cx)(st:List Ay)(t:TS):Prop:=
 ∀(a:List (Ac×AM)) (s:Ab) (b:St) (H:Hp) (D:Ends),Inv X a b H s->t D b H->wpAny (Af X.prog X.w) X.A (execs st X.env) (SP X a D) X.xe s
theorem Bb{b:Type}{t:Sem b}{Q Q':b->Ab->Prop}{M:Model}{A:Ak}{E:Aa->Ab->Prop}{s:Ab}(h:wpAny M A t Q E s)(c:∀a s,Q a s->Q' a s):wpAny M A t Q' E s:=Eg h c λ_ _ x=>x
section
variable{X:Cx}
theorem qr{a b:Expr}{k l:TE}(n:PE X a k)(o:PE X b l){c:List (Ac×AM)}{s:Ab}{σ:St}{H:Hp}{R:V->V->Hp->Prop}(I:Inv X c σ H s)(h:k σ H λx j=>l σ j λy d=>R x y d)
  {m:Type} {Q:m->Ab->Prop} {f:Aa->Aa->Sem m}
  (p:∀v u i x y d,Inv X c σ d i->RelV x v->RelV y u->R x y d->wpAny (Af X.prog X.w) X.A (f v u) Q X.xe i):
  wpAny (Af X.prog X.w) X.A (AC a X.env) (λv e=>wpAny (Af X.prog X.w) X.A (AC b X.env) (λu g=>wpAny (Af X.prog X.w) X.A (f v u) Q X.xe g) X.xe e) X.xe s:=by
 refine Bb (n c s σ H _ I h) λv q ⟨x,j,r,t,q1⟩=>?_
 refine Bb (o c q σ j _ r q1) λu i ⟨y,d,z,B,q2⟩=>?_
 exact p v u i x y d z t B q2
def dC(i:Nat):TE:=λa H Q=>∃v,a[i]?=some (some v)/\Q v H
def tC(v:V):TE:=λ_ H Q=>Q v H
theorem Fz{i:Nat}{x:Ae}{pos:Bc}(j:X.N[i]?=some x)(k:Dq X.env.scope x)(hd:(x==("__debug__":Ae))=false:=by decide)(f:(x==("__classdict__":Ae))=false:=by decide):PE X (.Name x pos) (dC i):=by
 intro d s n H Q I h
 obtain⟨v,e,h⟩:=h
 obtain⟨m,o,p⟩:=I.loc
 obtain⟨u,r,l⟩:=p i x v j e k
 have fin:EP X d n Q u s:=⟨v,H,I,r,h⟩
 rcases l with⟨b,q⟩|⟨b,c,g,a⟩
 ·exact wpAny_Name (wpAny_loadName_local I.ok.kind b o q fin) hd
 ·rcases b with b|b
  ·exact wpAny_Name (wpAny_loadName_cell I.ok.kind b g a fin) hd
  ·exact wpAny_Name (wpAny_loadName_free I.ok.kind b g a fin f) hd
theorem dE {i j pos}:PE X (.Constant (.int i) j pos) (tC (.int i)):=λ_ _ _ H _ I h=>wpAny_Constant_int ⟨.int i,H,I.tok _,⟨_,rfl⟩,h⟩
theorem dF {b j pos}:PE X (.Constant (.bool b) j pos) (tC (.bl b)):=λ_ _ _ H _ I h=>Constant_bool ⟨.bl b,H,I,rfl,h⟩
theorem dG {j pos}:PE X (.Constant .none j pos) (tC .non):=λ_ _ _ H _ I h=>Constant_none ⟨.non,H,I,rfl,h⟩
theorem dH {x j pos}:PE X (.Constant (.str x) j pos) (tC (.str x)):=λ_ _ _ H _ I h=>Calls.Constant_str ⟨.str x,H,I.tok _,⟨_,rfl⟩,h⟩
def Gl(X:Cx)(x:Ae):Prop:=X.env.kindOf x=some .globalImplicit
theorem KI{E:Aa->Ab->Prop}{a:List (Ac×AM)}{s:Ab}{σ:St}{H:Hp}{x:Ae}{u:Aa}{pos:Bc}{Q:Aa->Ab->Prop}(I:Inv X a σ H s)(b:Gl X x)(c:X.mg x=some u)(h:Q u s)
  (hd:(x==("__debug__":Ae))=false:=by decide):wpAny (Af X.prog X.w) X.A (AC (.Name x pos) X.env) Q E s:=
 Calls.Name_function_global I.ok.kind b (Calls.loadGlobal_global (by rw[I.ok.glob];exact I.mod.glob.keeps I.bk) c h) hd
theorem FU{E:Aa->Ab->Prop}{a:List (Ac×AM)}{s:Ab}{σ:St}{H:Hp}{x:Ae}{u:Aa}{pos:Bc}{Q:Aa->Ab->Prop}(I:Inv X a σ H s)(b:Gl X x)(c:X.mg x=none)(d:Ep x=some u)(h:Q u s)
  (e:x≠"__name__":=by decide) (hd:(x==("__debug__":Ae))=false:=by decide):wpAny (Af X.prog X.w) X.A (AC (.Name x pos) X.env) Q E s:=by
 obtain⟨i,f,g⟩:=I.mod.blt
 exact Calls.Name_function_global I.ok.kind b (Calls.loadGlobal_builtin (by rw[I.ok.glob];exact I.mod.glob.keeps I.bk) c (by rw[I.ok.blt];exact f.keeps I.bk) ((g x e).trans d) h) hd
theorem My{x:Ae}{v:V}{u:Aa}{pos:Bc}(a:Gl X x)(b:X.mg x=some u)(r:RelV v u)(hd:(x==("__debug__":Ae))=false:=by decide):PE X (.Name x pos) (tC v):=
 λ_ _ _ H _ I h=>KI I a b ⟨v,H,I,r,h⟩ hd
theorem Ui{x:Ae}{v:V}{u:Aa}{pos:Bc}(a:Gl X x)(b:X.mg x=none)(c:Ep x=some u)(r:RelV v u)(d:x≠"__name__":=by decide)(hd:(x==("__debug__":Ae))=false:=by decide):PE X (.Name x pos) (tC v):=
 λ_ _ _ H _ I h=>FU I a b c ⟨v,H,I,r,h⟩ d hd
variable{a b:Expr}{ta tb:TE}{pos:Bc}
def PC(X:Cx)(op:CmpOp)(a b:Expr)(t:TE):Prop:=
 ∀(c:List (Ac×AM)) (s:Ab) (f:St) (H:Hp) (Q:VK),Inv X c f H s->t f H Q ->
  wpAny (Af X.prog X.w) X.A (AC a X.env) (λv d=>wpAny (Af X.prog X.w) X.A (AC b X.env) (λu e=>wpAny (Af X.prog X.w) X.A (Eh op v u) (EP X c f Q) X.xe e) X.xe d) X.xe s
theorem Jk(b:Expr){op:CmpOp}(h:op≠.In)(a:op≠.NotIn):FV op b=false:=by
 have c:(op==CmpOp.In)=false:=by cases op<;>first|rfl|exact absurd rfl h
 have d:(op==CmpOp.NotIn)=false:=by cases op<;>first|rfl|exact absurd rfl a
 cases b<;>simp[FV,c,d]
def dI(ta:TE):TE:=λa H Q=>ta a H λx b=>Q (.bl (decide (x=.non))) b
def dJ(ta:TE):TE:=λa H Q=>ta a H λx b=>Q (.bl (!decide (x=.non))) b
theorem RelV.none_iff{x:V}{v:Aa}(r:RelV x v):(v==Ed)=decide (x=.non):=by
 cases x with
 |non=>cases r;rfl
 |bl _=>cases r;rfl
 |int _=>obtain⟨t,rfl⟩:=r;rfl
 |str _=>obtain⟨t,rfl⟩:=r;rfl
 |byt _=>obtain⟨t,rfl⟩:=r;rfl
 |flt _=>obtain⟨t,rfl⟩:=r;rfl
 |ref _=>cases r;rfl
 |ty _=>cases r;rfl
theorem dL {j b} (d:PE X a ta):PC X .Is a (.Constant .none j b) (dI ta):=by
 intro c s e H Q I h
 refine Bb (d c s e H _ I h) λv k ⟨x,f,g,i,q1⟩=>?_
 exact Constant_none (is_none_gen ⟨.bl _,f,g,by rw[i.none_iff];rfl,q1⟩)
theorem dM {j b} (d:PE X a ta):PC X .IsNot a (.Constant .none j b) (dJ ta):=by
 intro c s e H Q I h
 refine Bb (d c s e H _ I h) λv k ⟨x,f,g,i,q1⟩=>?_
 exact Constant_none (isnot_none_gen ⟨.bl _,f,g,by rw[i.none_iff];rfl,q1⟩)
def tB(t:TE):TT:=λa H Q=>t a H λx b=>∃c,x=.bl c/\Q c b
theorem Uj{op:CmpOp}{t:TE}(h:PC X op a b t)(f:FV op b=false:=by first|exact Jk _ (by decide) (by decide)|rfl):PT X (.Compare a [op] [b] pos) (tB t):=by
 intro e s g H Q I i
 refine wpAny_isTrue_Compare1 (Bb (h e s g H _ I i) λv n f=>Bb f λu o j=>Bb j λc p ⟨x,k,l,m,q1⟩=>?_) f
 obtain⟨d,rfl,q⟩:=q1
 cases m
 exact Im ⟨k,l,q⟩
variable{tA BJ:TT}{B3:List Expr}
def Uk(t u:TT):TT:=λa H Q=>t a H λc b=>if c=true then u a b Q else Q false b
def Ul(t u:TT):TT:=λa H Q=>t a H λc b=>if c=true then Q true b else u a b Q
def dN(t:TT):TT:=λa H Q=>t a H λc b=>Q (!c) b
theorem dO(d:PT X a tA):PW X (.BoolOp .And [a] pos) tA:=by
 intro g b s f H Q I h
 refine isTrue_and (Bb (d b s f H Q I h) λc i e=>?_)
 cases c with
 |true=>exact isTrue_and_nil e
 |false=>exact e
theorem dP(d:PT X a tA):PW X (.BoolOp .Or [a] pos) tA:=by
 intro g b s f H Q I h
 refine isTrue_or (Bb (d b s f H Q I h) λc i e=>?_)
 cases c with
 |false=>exact isTrue_or_nil e
 |true=>exact e
theorem dQ(i:PT X a tA)(j:PW X (.BoolOp .And (b::B3) pos) BJ):PW X (.BoolOp .And (a::b::B3) pos) (Uk tA BJ):=by
 intro k d s e H Q I h
 refine isTrue_and (Bb (i d s e H _ I h) λc l ⟨f,g,q1⟩=>?_)
 cases c with
 |true=>exact j k d l e f Q g q1
 |false=>exact⟨f,g,q1⟩
theorem dR(i:PT X a tA)(j:PW X (.BoolOp .Or (b::B3) pos) BJ):PW X (.BoolOp .Or (a::b::B3) pos) (Ul tA BJ):=by
 intro k d s e H Q I h
 refine isTrue_or (Bb (i d s e H _ I h) λc l ⟨f,g,q1⟩=>?_)
 cases c with
 |true=>exact⟨f,g,q1⟩
 |false=>exact j k d l e f Q g q1
theorem dS(d:PT X a tA):PT X (.UnaryOp .Not a pos) (dN tA):=by
 intro b s e H Q I h
 exact isTrue_not (d b s e H (λc f=>Q (!c) f) I h)
def dU(ta tb:TE):TE:=λa H Q=>ta a H λx b=>∃c,x=.bl c/\if c=true then tb a b Q else Q (.bl false) b
def dV(ta:TE):TE:=λa H Q=>ta a H λx b=>∃c,x=.bl c/\Q (.bl (!c)) b
theorem dW {op} {t:TE} (h:PE X a t):PE X (.BoolOp op [a] pos) t:=λb s c H Q I d=>BoolOp_one (h b s c H Q I d)
theorem dX(i:PE X a ta)(j:PE X (.BoolOp .And (b::B3) pos) tb):PE X (.BoolOp .And (a::b::B3) pos) (dU ta tb):=by
 intro d s e H Q I h
 refine BoolOp_and (Bb (i d s e H _ I h) λv k ⟨x,f,g,l,q1⟩=>?_)
 obtain⟨c,rfl,q1⟩:=q1
 cases l
 refine Im ?_
 cases c with
 |true=>exact j d k e f Q g q1
 |false=>exact⟨.bl false,f,g,rfl,q1⟩
theorem dY(d:PE X a ta):PE X (.UnaryOp .Not a pos) (dV ta):=by
 intro b s e H Q I h
 refine UnaryOp_ (Bb (d b s e H _ I h) λv j ⟨x,f,g,i,q1⟩=>?_)
 obtain⟨c,rfl,q1⟩:=q1
 cases i
 exact not_of (Im ⟨.bl (!c),f,g,rfl,q1⟩)
def dZ(t:TT)(ta tb:TE):TE:=λa H Q=>t a H λc b=>if c=true then ta a b Q else tb a b Q
theorem ed{c:Expr}(k:PT X c tA)(l:PE X a ta)(m:PE X b tb):PE X (.IfExp c a b pos) (dZ tA ta tb):=by
 intro e s f H Q I h
 refine wpAny_IfExp (Bb (k e s f H _ I h) λd g ⟨i,j,q1⟩=>?_)
 cases d with
 |true=>exact l e g f i Q j q1
 |false=>exact m e g f i Q j q1
end
def BE(K:As)(H:Hp)(a:Ac)(xs:List V):Prop:=
 Rd H a (.lst xs) \/
  ∃(o:AM) (b:Array Aa) (n:Nat),K.lookup a=some o/\o.cls=.type "list"/\o.dict=none/\o.data=.seq b n/\b.size<=AG/\Ap xs b.toList
def BV(K:As)(H:Hp)(a:Ac)(xs:List V):Prop:=
 Rd H a (.tup xs) \/
  ∃(o:AM) (b:Array Aa) (n:Nat),K.lookup a=some o/\o.cls=.type "tuple"/\o.data=.seq b n/\b.size<=AG/\Ap xs b.toList
def ee:Aa->Option V
 |.none=>some .non
 |.bool b=>some (.bl b)
 |.int i _=>some (.int i)
 |.str x _=>some (.str x)
 |.bytes b _=>some (.byt b)
 |.float b _=>some (.flt b)
 |.ref a=>some (.ref a)
 |.type n=>some (.ty n)
 |_=>none
theorem RelV.abs{x:V}{u:Aa}(r:RelV x u):ee u=some x:=by
 cases x with
 |non=>cases r;rfl
 |bl _=>cases r;rfl
 |int _=>obtain⟨t,rfl⟩:=r;rfl
 |str _=>obtain⟨t,rfl⟩:=r;rfl
 |byt _=>obtain⟨t,rfl⟩:=r;rfl
 |flt _=>obtain⟨t,rfl⟩:=r;rfl
 |ref _=>cases r;rfl
 |ty _=>cases r;rfl
theorem RelV.inj{x y:V}{u:Aa}(r:RelV x u)(q:RelV y u):x=y:=Fy (r.abs.symm.trans q.abs)
theorem Ap.inj:∀{xs ys:List V}{us:List Aa},Ap xs us->Ap ys us->xs=ys
 |_,_,_,.nil,.nil=>rfl
 |_,_,_,.cons r t,.cons a b=>by rw[r.inj a,Ap.inj t b]
section
variable{X:Cx}{pins:List (Ac×AM)}{σ:St}{H:Hp}{s:Ab}{a:Ac}{xs ys:List V}
theorem BE.of{K:As}(h:H a=some (.lst xs)):BE K H a xs:=.inl (.inl h)
theorem BV.of{K:As}(h:H a=some (.tup xs)):BV K H a xs:=.inl (.inl h)
theorem Inv.list(I:Inv X pins σ H s)(h:BE X.K H a xs):∃b:List Aa,Ap xs b/\PlainL s.heap a b.toArray/\xs.length<=AG:=by
 rcases h with h|⟨o,b,n,c,d,hd,f,g,r⟩
 ·obtain⟨z,b,n,r,e⟩:=h.ok I.hok
  exact⟨b,r,⟨_,n,e,rfl,rfl,rfl⟩,z⟩
 ·refine⟨b.toList,r,⟨o,n,I.kIn a o c,d,hd,by simpa using f⟩,?_⟩
  have e:=r.length
  simp only[KJ]at e
  omega
theorem Inv.tuple(I:Inv X pins σ H s)(h:BV X.K H a xs):∃b:List Aa,Ap xs b/\IsTup s.heap a b.toArray/\xs.length<=AG:=by
 rcases h with h|⟨o,b,n,c,d,f,g,r⟩
 ·obtain⟨z,b,r,p⟩:=h.ok I.hok
  exact⟨b,r,p,z⟩
 ·refine⟨b.toList,r,⟨o,I.kIn a o c,d,n,by simpa using f⟩,?_⟩
  have e:=r.length
  simp only[KJ]at e
  omega
theorem Inv.list_inj(I:Inv X pins σ H s)(h:BE X.K H a xs)(h':BE X.K H a ys):xs=ys:=by
 obtain⟨c,r,⟨o,n,e,_,_,d⟩,_⟩:=I.list h
 obtain⟨b,i,⟨j,k,f,_,_,g⟩,_⟩:=I.list h'
 rw[e]at f;cases f
 rw[d]at g
 injection g with d1 _
 have:c=b:=by simpa using congrArg Array.toList d1
 subst this
 exact r.inj i
theorem Inv.tuple_inj(I:Inv X pins σ H s)(h:BV X.K H a xs)(h':BV X.K H a ys):xs=ys:=by
 obtain⟨c,r,⟨o,e,_,n,d⟩,_⟩:=I.tuple h
 obtain⟨b,i,⟨j,f,_,k,g⟩,_⟩:=I.tuple h'
 rw[e]at f;cases f
 rw[d]at g
 injection g with d1 _
 have:c=b:=by simpa using congrArg Array.toList d1
 subst this
 exact r.inj i
end
abbrev Cx.wish(X:Cx)(E:Aa->Ab->Prop):Cx:={X with xe:=E}
abbrev Cx.nox(X:Cx):Cx:=X.wish λ_ _=>False
theorem Cx.Ok.wish{X:Cx}(ok:X.Ok)(E:Aa->Ab->Prop):(X.wish E).Ok:=
 ⟨ok.mod,ok.kind,ok.glob,ok.blt,ok.above,ok.inj,ok.has,ok.cab,ok.hd,ok.frames,ok.stk,ok.exf,ok.bs,ok.bsz,ok.noex,ok.exfs,ok.funs,ok.frf⟩
theorem Cx.Ok.unwish{X:Cx}{E:Aa->Ab->Prop}(ok:(X.wish E).Ok):X.Ok:=
 ⟨ok.mod,ok.kind,ok.glob,ok.blt,ok.above,ok.inj,ok.has,ok.cab,ok.hd,ok.frames,ok.stk,ok.exf,ok.bs,ok.bsz,ok.noex,ok.exfs,ok.funs,ok.frf⟩
section
variable{X:Cx}{pins:List (Ac×AM)}{σ:St}{H:Hp}{s:Ab}{E:Aa->Ab->Prop}
theorem Inv.wish(I:Inv X pins σ H s)(E:Aa->Ab->Prop):Inv (X.wish E) pins σ H s:=⟨I.ok.wish E,I.os,I.bare,I.base,I.loc,I.cell,I.free,I.freeC,I.pin,I.hok,I.len⟩
theorem Inv.unwish(I:Inv (X.wish E) pins σ H s):Inv X pins σ H s:=⟨I.ok.unwish,I.os,I.bare,I.base,I.loc,I.cell,I.free,I.freeC,I.pin,I.hok,I.len⟩
theorem SP.unwish{D:Ends}{f:Flow}{s':Ab}(h:SP (X.wish E) pins D f s'):SP X pins D f s':=by
 cases f with
 |next=>obtain⟨a,b,I,q⟩:=h;exact⟨a,b,I.unwish,q⟩
 |brk=>obtain⟨a,b,I,q⟩:=h;exact⟨a,b,I.unwish,q⟩
 |cont=>obtain⟨a,b,I,q⟩:=h;exact⟨a,b,I.unwish,q⟩
 |ret u=>obtain⟨v,a,b,I,r,q⟩:=h;exact⟨v,a,b,I.unwish,r,q⟩
theorem PE.nox{e:Expr}{t:TE}(h:PE X.nox e t):PE X e t:=λpins s σ H Q I a=>
 Eg (h pins s σ H Q (I.wish _) a) (λ_ _ ⟨v,b,c,r,q⟩=>⟨v,b,c.unwish,r,q⟩) λ_ _ z=>BW z
theorem PT.nox{e:Expr}{t:TT}(h:PT X.nox e t):PT X e t:=λpins s σ H Q I a=>
 Eg (h pins s σ H Q (I.wish _) a) (λ_ _ ⟨b,c,q⟩=>⟨b,c.unwish,q⟩) λ_ _ z=>BW z
theorem Er.nox{st:List Ay}{t:TS}(h:Er X.nox st t):Er X st t:=λpins s σ H D I a=>
 Eg (h pins s σ H D (I.wish _) a) (λ_ _ q=>q.unwish) λ_ _ z=>BW z
end
section
variable{X:Cx}{st:Ay}{B3:List Ay}{t u:TS}{e:Expr}{te:TE}{pos:Bc}
def eg:TS:=λD a H=>D.nx a H
def eh(t u:TS):TS:=λD a H=>t {D with nx:=u D} a H
theorem GU:Er X [] eg:=λ_ _ a H _ I h=>wpAny_execs_nil ⟨a,H,I,h⟩
theorem en(c:PS X st t)(d:Er X B3 u):Er X (st::B3) (eh t u):=by
 intro a s e H D I h
 refine wpAny_execs_cons (Bb (c a s e H {D with nx:=u D} I h) λf g q=>?_)
 cases f with
 |next=>
  obtain⟨b,i,j,q⟩:=q
  exact d a g b i D j q
 |ret v=>exact q
 |brk=>exact q
 |cont=>exact q
theorem Inv.quiet{a:List (Ac×AM)}{σ:St}{H:Hp}{s:Ab}(I:Inv X a σ H s):interactive X.env=false:=by simp[interactive,I.ok.kind]
def eo(te:TE):TS:=λD a H=>te a H λ_ b=>D.nx a b
theorem Px(c:PE X e te)(d:Fg e none pos.line X.env=AQ false:=by rfl):PS X (.Expr e pos) (eo te):=by
 intro a s b H D I h
 exact wpAny_Expr_any (Bb (c a s b H _ I h) λv i ⟨x,f,g,j,q1⟩=>⟨b,f,g,q1⟩) I.quiet d
def et(te:TE):TS:=λD a H=>te a H D.rt
theorem KN(c:PE X e te):PS X (.Return (some e) pos) (et te):=by
 intro a s b H D I h
 exact wpAny_Return_some (Bb (c a s b H _ I h) λv i ⟨x,d,f,g,q1⟩=>⟨x,b,d,f,g,q1⟩)
def eu(c:TT)(t u:TS):TS:=λD a H=>c a H λb d=>if b=true then t D a d else u D a d
theorem ew{c:Expr}{a b:List Ay}{g:TT}(l:PT X c g)(m:Er X a t)(n:Er X b u):PS X (.If c a b pos) (eu g t u):=by
 intro e s f H D I h
 refine wpAny_If (Bb (l e s f H _ I h) λd i ⟨j,k,q1⟩=>?_)
 cases d with
 |true=>exact m e i f j D k q1
 |false=>exact n e i f j D k q1
end
abbrev TG:=V->St->Hp->(St->Hp->Prop)->Prop
abbrev GV:=List V->St->Hp->(St->Hp->Prop)->Prop
def PG(X:Cx)(a:Expr)(t:TG):Prop:=
 ∀(b:List (Ac×AM)) (s:Ab) (d:St) (H:Hp) (v:V) (u:Aa) (Q:St->Hp->Prop),Inv X b d H s->RelV v u->t v d H Q ->
  wpAny (Af X.prog X.w) X.A (assign a X.env u) (λ_ f=>∃c e,Inv X b c e f/\Q c e) X.xe s
def KO(X:Cx)(f:List Expr)(t:GV):Prop:=
 ∀(a:List (Ac×AM)) (s:Ab) (c:St) (H:Hp) (vs:List V) (d:List Aa) (Q:St->Hp->Prop),Inv X a c H s->Ap vs d->t vs c H Q ->
  wpAny (Af X.prog X.w) X.A (assignInOrder ((Gm f X.env).map (·.2)) d) (λ_ g=>∃b e,Inv X a b e g/\Q b e) X.xe s
abbrev Mz:=V->V->V->Hp->(Hp->Prop)->Prop
def Um(X:Cx)(t:Mz):Prop:=
 ∀(a:List (Ac×AM)) (s:Ab) (b:St) (H:Hp) (o i v:V) (c d u:Aa) (Q:Hp->Prop),Inv X a b H s->RelV o c->RelV i d->RelV v u->t o i v H Q ->
  wpAny (Af X.prog X.w) X.A (setItem c d u) (λ_ f=>∃e,Inv X a b e f/\Q e) X.xe s
section
variable{X:Cx}{pos:Bc}
def Io(i:Nat):TG:=λv a H Q=>Q (a.set i (some v)) H
theorem ez{i:Nat}{x:Ae}(b:X.N.Nodup)(c:X.N[i]?=some x)(d:Loc X.env.scope x)(e:X.fn x=true\/X.env.scope.names.lookup x=some .local:=by first|exact .inl rfl|exact .inr rfl|assumption):PG X (.Name x pos) (Io i):=by
 intro a s g H v u Q I r h
 exact wpAny_assign_Name (Pw I b c d r (λj f=>⟨_,H,f,h⟩) e)
def eA:GV:=λvs a H Q=>vs=[]/\Q a H
def eB(t:TG)(u:GV):GV:=λvs b H Q=>∃v r,vs=v::r/\t v b H λa c=>u r a c Q
theorem eC:KO X [] eA:=by
 intro a s b H vs c Q I r h
 obtain⟨e,h⟩:=h
 subst e
 cases r
 exact assignInOrder_nil ⟨b,H,I,h⟩
theorem eE{e:Expr}{es:List Expr}{t:TG}{u:GV}(c:PG X e t)(d:KO X es u)
  (f:(Gm (e::es) X.env).map (·.2)=assign e X.env::(Gm es X.env).map (·.2):=by rfl):KO X (e::es) (eB t u):=by
 intro a s g H vs n Q I r h
 obtain⟨v,o,i,h⟩:=h
 subst i
 cases r with
 |cons r j=>
  rw[f]
  refine assignInOrder_cons (Bb (c a s g H _ _ _ I r h) λ_ k ⟨b,l,m,q1⟩=>?_)
  exact d a k b l _ _ Q m j q1
def eG(K:As)(n:Nat)(t:GV):TG:=λv c H Q=>∃a b,v=.ref a/\BV K H a b/\b.length=n/\t b c H Q
theorem eH{es:List Expr}{k:Nat}{t:GV}{n:Nat}(j:X.calm=true)(h:KO X es t)
  (l:(Gm es X.env).length=n:=by rfl) (d:(Gm es X.env).findIdx? (·.1)=none:=by rfl):PG X (.Tuple es k pos) (eG X.K n t):=by
 intro c s g H v u Q I r f
 obtain⟨a,m,p,q,w,f⟩:=f
 subst p
 cases r
 obtain⟨x,i,y,C⟩:=I.tuple q
 refine assign_Tuple_tuple (I.ok.hd j) y (by simp[l,<- w,i.length]) d λz A=>?_
 have B:Inv X c g H {s with heap:=z}:=I.kept (t':=s.toks) λb o e=>A b o (Cs (By e)) e
 exact h c _ g H m _ Q B (by simpa using i) f
def eI(b c:TE)(t:Mz):TG:=λv a H Q=>b a H λo d=>c a d λi e=>t o i v e λf=>Q a f
theorem eJ{o i:Expr}{e f:TE}{t:Mz}(g:PE X o e)(j:PE X i f)(k:Um X t)
  (l:∀v,assign (.Subscript o i pos) X.env v=(do
   let b <- holding [v] (AC o X.env)
   let c <- holding [v,b] (AC i X.env)
   standAt pos
   holding [v,b,c] (setItem b c v)
   release [v,b,c] []):=by intro _;rfl):PG X (.Subscript o i pos) (eI e f t):=by
 intro a s d H v u Q I r h
 rw[l]
 refine Ag (Ei (Bb (g a s d H _ I h) λb m ⟨x,n,p,q,q1⟩=>?_))
 refine Ag (Ei (Bb (j a m d n _ p q1) λc w ⟨y,z,A,B,q2⟩=>?_))
 refine Ag (wpAny_standAt (Ag (Ei (Bb (k a w d z x y v b c u _ A q B r q2) λ_ G ⟨C,E,q3⟩=>?_))))
 exact wpAny_release ⟨d,C,E,q3⟩
def Jl(b:TE)(g:TG):TS:=λD a H=>b a H λx c=>g x a c D.nx
theorem eK{b e:Expr}{c:TE}{g:TG}(f:PE X e c)(i:PG X b g)(j:swapsWithSole [b] e pos.line X.env=AQ false:=by rfl)(k:swappedStores [b] e X.env=AQ none:=by rfl)
  (l:(Gm [b] X.env).map (·.2)=[assign b X.env]:=by rfl):PS X (.Assign [b] e pos) (Jl c g):=by
 intro a s d H D I h
 refine wpAny_Assign_stores (Bb (f a s d H _ I h) λv m ⟨x,n,o,p,q1⟩=>?_) j k
 rw[l]
 exact Bb (i a m d n x v _ o p q1) λ_ r q=>q
theorem MA{i:Nat}{x:Ae}{e:Expr}{c:TE}{a:Bc}(d:X.N.Nodup)(f:X.N[i]?=some x)(g:Loc X.env.scope x)(j:PE X e c)(k:Fg e (some (.Name x a)) pos.line X.env=AQ false:=by rfl)(l:X.fn x=true\/X.env.scope.names.lookup x=some .local:=by first|exact .inl rfl|exact .inr rfl|assumption):
  PS X (.Assign [.Name x a] e pos) (Jl c (Io i)):=by
 intro b s m H D I h
 refine wpAny_Assign_Name (Bb (j b s m H _ I h) λv r ⟨y,n,o,p,q1⟩=>?_) k
 exact Pw o d f g p (λt q=>⟨_,n,q,q1⟩) l
end
section
variable{X:Cx}{pos:Bc}
end
structure It where
 go:Nat->Hp->Prop
 yld:Nat->Hp->V->Hp->Prop
 stop:Nat->Hp->Prop
def Fh(X:Cx)(a:List (Ac×AM))(H:Hp)(b:Ac):Prop:=
 H b=none/\b≠X.env.locals/\b∉X.fs/\(b∈X.ex\/X.s₀.heap.objs.size<=b)/\(∀x c,X.env.cells.lookup x=some c->c≠b)/\∀p∈X.pn++a,p.1≠b
theorem Inv.fpOk{X:Cx}{a:List (Ac×AM)}{σ:St}{H H':Hp}{s:Ab}{b:Ac}(I:Inv X a σ H s)(d:s.heap.objs.size<=b)(f:H' b=none):Fh X a H' b:=by
 refine⟨f,FA (Ca I.lt d),I.nofs d,.inr (CK I.sz d),λx c e z=>?_,λp g z=>?_⟩
 ·obtain⟨v,q⟩:=I.cell x c e
  exact absurd (Ca q.lt (by rw[z];exact d)) (FT _)
 ·exact absurd (Ca (By (I.pin p g).1) (by rw[z];exact d)) (FT _)
structure Gn(P:A4)(w:Aj)(K:As)(tg:Expr)(J:It)(fp:List Ac)(it:Ac)(tn:Nat->Al->Prop):Prop where
 mem:it∈fp
 obj:∀i h,tn i h->∀b∈fp,∃o,h.get? b=some o/\∀v,o.data≠.cell v
 keep:∀i h h',tn i h->(∀b∈fp,∀o,h.get? b=some o->h'.get? b=some o)->tn i h'
 item:∀(X:Cx),X.prog=P->X.w=w->X.K=K->X.calm=true->∀(i:Nat) (pins:List (Ac×AM)) (s:Ab) (σ:St) (H:Hp) (E:Aa->Ab->Prop),Inv X pins σ H s->(∀b∈fp,Fh X pins H b)->tn i s.heap->J.go i H ->
  wpAny (Af P w) X.A (Bo (.ref it)) (λr s1=>∃u,r=some u /\
   wpAny (Af P w) X.A (Jm tg (.ref it) u) (λ_ s2=>∃x H',Inv X pins σ H' s2/\RelV x u/\J.yld i H x H'/\tn (i+1) s2.heap/\∀b∈fp,H' b=none) E s1) E s
 done:∀(X:Cx),X.prog=P->X.w=w->X.K=K->X.calm=true->∀(i:Nat) (pins:List (Ac×AM)) (s:Ab) (σ:St) (H:Hp) (E:Aa->Ab->Prop),Inv X pins σ H s->(∀b∈fp,Fh X pins H b)->tn i s.heap->J.stop i H ->
  wpAny (Af P w) X.A (Bo (.ref it)) (λr s1=>r=none/\Inv X pins σ H s1) E s
 self:∀(A:Ak) (i:Nat) (s:Ab) (Q:Aa->Ab->Prop) (E:Aa->Ab->Prop),tn i s.heap->Q (.ref it) s->wpAny (Af P w) A (pyIter (.ref it)) Q E s
abbrev TI:=St->Hp->(It->Hp->Prop)->Prop
def Uo(X:Cx)(a:List (Ac×AM))(σ:St)(h:Expr)(R:It->Hp->Prop)(c:Aa)(e:Ab):Prop:=
 ∃(it:Ac) (f:List Ac) (g:Nat->Al->Prop) (J:It) (d:Hp),c=.ref it/\Inv X a σ d e/\Gn X.prog X.w X.K h J f it g/\g 0 e.heap/\(∀b∈f,Fh X a d b)/\R J d
def PI(X:Cx)(c iter:Expr)(d:TI):Prop:=
 ∀(a:List (Ac×AM)) (s:Ab) (b:St) (H:Hp) (R:It->Hp->Prop),Inv X a b H s->d b H R ->
  wpAny (Af X.prog X.w) X.A (AC iter X.env) (λv e=>wpAny (Af X.prog X.w) X.A (pyIter v) (Uo X a b c R) X.xe e) X.xe s
theorem KP{M:Model}{A:Ak}{E:Aa->Ab->Prop}{s:Ab}{b:Expr}{it:Ac}{u:Aa}{o:AM}{n:String}{vs:Array Aa}{Q:Unit->Ab->Prop}(c:s.heap.get? it=some o)(d:o.cls=.type n)(hd:o.data=.fields vs)
  (e:["enumerate","zip","dict_itemiterator","dict_reverseitemiterator","odict_iterator","itertools.zip_longest","itertools.pairwise"].contains n=false) (a:Q () s):wpAny M A (Jm b (.ref it) u) Q E s:=by
 unfold Jm
 cases b<;>first
  |exact AE a
  |(cases u<;>first
    |exact AE a
    |(refine Ag (wpAny_load c ?_)
      rw[d,hd]
      show wpAny M A (if(["enumerate","zip","dict_itemiterator","dict_reverseitemiterator","odict_iterator","itertools.zip_longest","itertools.pairwise"].contains n&&vs[0]?==some (AH _))=true then _ else _) Q E s
      rw[if_neg (by intro h;rw[e,Bool.false_and]at h;cases h)]
      exact AE a))
def Up(K:As)(a:Ac):It:=
 ⟨λi H=>∃b x,BE K H a b/\b[i]?=some x,λi H x c=>c=H/\∀b,BE K H a b->b[i]?=some x,λi H=>∃b,BE K H a b/\b.length<=i⟩
def Uq(K:As)(a:Ac):It:=
 ⟨λi H=>∃b x,BV K H a b/\b[i]?=some x,λi H x c=>c=H/\∀b,BV K H a b->b[i]?=some x,λi H=>∃b,BV K H a b/\b.length<=i⟩
def KQ(lo:Int)(n:Nat):It:=⟨λi _=>i<n,λi H x a=>a=H/\x=.int (lo+i),λi _=>n<=i⟩
theorem eL{P:A4}{w:Aj}{K:As}{T:Expr}(a it:Ac):Gn P w K T (Up K a) [it] it (λi h=>h.IsListIter it a i) where
 mem:=by simp
 obj:=λi h st b g=>by
  have e:b=it:=by simpa using g
  subst e
  obtain⟨o,e,c,d⟩:=st
  exact⟨o,e,λv z=>by rw[d]at z;cases z⟩
 keep:=λi h l st k=>st.at λo e=>k it (by simp) o e
 item:=by
  intro X q r t O i f s Q H E I m st y
  subst q r t
  obtain⟨U,x,n,A⟩:=y
  obtain⟨B,C,p,Y⟩:=I.list n
  obtain⟨u,hu,ru⟩:=C.get A
  obtain⟨G,J,f2,L,M,N⟩:=m it (by simp)
  refine wpAny_pyNext_list_item st p.isList (x:=u) (by simpa using hu) λl j sb=>?_
  have I1:Inv X f Q H {s with heap:=l}:=I.turned (t':=s.toks) (λb o g e=>(sb.2 b g).trans e) G J L M N
  obtain⟨o,e,c,d⟩:=id j
  exact⟨u,rfl,KP (s:={s with heap:=l}) e c d (by decide) ⟨x,H,I1,ru,⟨rfl,λys hy=>by rw[I.list_inj hy n];exact A⟩,j,λb g=>(m b g).1⟩⟩
 done:=by
  intro X q r t O i f s Q H E I m st y
  subst q r t
  obtain⟨U,n,A⟩:=y
  obtain⟨B,C,p,Y⟩:=I.list n
  obtain⟨G,J,f2,L,M,N⟩:=m it (by simp)
  have hl:=C.length
  exact wpAny_pyNext_list_end (I.ok.hd O) st p.isList (by simp;omega) λl eb=>⟨rfl,I.turned (t':=s.toks) (λb o g e=>eb b o g e) G J L M N⟩
 self:=λ_ _ _ _ _ st h=>wpAny_pyIter_listiter st h
theorem eM{P:A4}{w:Aj}{K:As}{T:Expr}(a it:Ac):Gn P w K T (Uq K a) [it] it (λi h=>h.IsTupleIter it a i) where
 mem:=by simp
 obj:=λi h st b g=>by
  have e:b=it:=by simpa using g
  subst e
  obtain⟨o,e,c,d⟩:=st
  exact⟨o,e,λv z=>by rw[d]at z;cases z⟩
 keep:=λi h m st k=>st.at λo e=>k it (by simp) o e
 item:=by
  intro X r t y O i f s Q H E I n st A
  subst r t y
  obtain⟨U,x,q,B⟩:=A
  obtain⟨j,C,p,Y⟩:=I.tuple q
  obtain⟨u,hu,ru⟩:=C.get B
  obtain⟨G,J,f2,L,M,N⟩:=n it (by simp)
  refine wpAny_pyNext_tuple_item st (show s.heap.IsTuple a j.toArray from p) (x:=u) (by simpa using hu) λm l sb=>?_
  have I1:Inv X f Q H {s with heap:=m}:=I.turned (t':=s.toks) (λb o g e=>(sb.2 b g).trans e) G J L M N
  obtain⟨o,e,c,d⟩:=id l
  exact⟨u,rfl,KP (s:={s with heap:=m}) e c d (by decide) ⟨x,H,I1,ru,⟨rfl,λys hy=>by rw[I.tuple_inj hy q];exact B⟩,l,λb g=>(n b g).1⟩⟩
 done:=by
  intro X r t y O i f s Q H E I n st A
  subst r t y
  obtain⟨U,q,B⟩:=A
  obtain⟨j,C,p,Y⟩:=I.tuple q
  obtain⟨G,J,f2,L,M,N⟩:=n it (by simp)
  have hl:=C.length
  exact wpAny_pyNext_tuple_end (I.ok.hd O) st (show s.heap.IsTuple a j.toArray from p) (by simp;omega) λm eb=>⟨rfl,I.turned (t':=s.toks) (λb o g e=>eb b o g e) G J L M N⟩
 self:=λ_ _ _ _ _ st h=>wpAny_pyIter_tupleiter st h
theorem eO{P:A4}{w:Aj}{K:As}{G:Expr}(it:Ac)(lo:Int)(n:Nat):Gn P w K G (KQ lo n) [it] it (λi h=>IsRangeIter h it (lo+(i:Nat)*1) ((n:Int)-(i:Nat)) 1) where
 mem:=by simp
 obj:=λi h st b c=>by
  have e:b=it:=by simpa using c
  subst e
  exact⟨_,st,λv z=>by
   have J:Data.fields _=GX v:=z
   cases J⟩
 keep:=λi h f st k=>k it (by simp) _ st
 item:=by
  intro X j l m p i a s B H E I g st q
  subst j l m
  obtain⟨r,u,L,x,y,A⟩:=g it (by simp)
  have W:=Walks.range (prog:=X.prog) (w:=X.w) (I.ok.hd p) it lo 1 n
  refine W.item i s _ _ q st λv f C M d N=>?_
  obtain⟨t,rfl⟩:=M
  have O:Inv X a B H {s with heap:=f,toks:=C}:=I.turned (λb o c e=>N b o (by simpa using c) e) r u x y A
  refine⟨_,rfl,KP (s:={s with heap:=f,toks:=C}) (n:="range_iterator") d rfl rfl (by decide) ⟨.int (lo+i),H,O,⟨t,?_⟩,⟨rfl,rfl⟩,d,λb c=>(g b c).1⟩⟩
  rw[Int.mul_one]
 done:=by
  intro X j l m p i a s B H E I g st q
  subst j l m
  obtain⟨r,u,L,x,y,A⟩:=g it (by simp)
  exact wpAny_pyNext_range_end (I.ok.hd p) st (by have:n<=i:=q;omega) λf Q=>⟨rfl,I.turned (t':=s.toks) (λb o c e=>Q b o c e) r u x y A⟩
 self:=λ_ _ _ _ _ st h=>wpAny_pyIter_rangeiter st h
section
variable{X:Cx}{tg:Expr}
def eP(K:As)(c:TE):TI:=λd H R=>c d H λx b=>∃a,x=.ref a/\(∃e,BE K b a e)/\R (Up K a) b
def eQ(K:As)(c:TE):TI:=λd H R=>c d H λx b=>∃a,x=.ref a/\(∃e,BV K b a e)/\R (Uq K a) b
theorem eR{l:Expr}{g:TE}(i:PE X l g):PI X tg l (eP X.K g):=by
 intro c s j H R I h
 refine Bb (i c s j H _ I h) λv d ⟨x,k,f,m,q1⟩=>?_
 obtain⟨a,e,⟨u,n⟩,q⟩:=q1
 subst e
 cases m
 obtain⟨r,w,p,y⟩:=f.list n
 refine MB p.isList ?_
 refine⟨d.heap.objs.size,[d.heap.objs.size],_,_,k,rfl,f.kept (t':=d.toks) λb o e=>Bk _ e,eL a _,⟨_,B0 _ rfl,rfl,rfl⟩,λb t=>?_,q⟩
 have e:b=d.heap.objs.size:=by simpa using t
 subst e
 exact f.fpOk (BB _) (f.hok.fresh (BB _))
theorem eS{l:Expr}{i:TE}(j:PE X l i):PI X tg l (eQ X.K i):=by
 intro c s k H R I h
 refine Bb (j c s k H _ I h) λv d ⟨x,m,f,n,q1⟩=>?_
 obtain⟨a,e,⟨u,r⟩,q⟩:=q1
 subst e
 cases n
 obtain⟨g,w,p,y⟩:=f.tuple r
 refine wpAny_pyIter_tuple (show d.heap.IsTuple a g.toArray from p) ?_
 refine⟨d.heap.objs.size,[d.heap.objs.size],_,_,m,rfl,f.kept (t':=d.toks) λb o e=>Bk _ e,eM a _,⟨_,B0 _ rfl,rfl,rfl⟩,λb t=>?_,q⟩
 have e:b=d.heap.objs.size:=by simpa using t
 subst e
 exact f.fpOk (BB _) (f.hok.fresh (BB _))
theorem Ur{c:List (Ac×AM)}{σ:St}{H:Hp}{s:Ab}{R:It->Hp->Prop}{E:Aa->Ab->Prop}{lo a:Int}{t u v:Tok}{d:Nat}(I:Inv X c σ H s)(g : -(2^62)<=lo)(h:lo<2^62)(i : -(2^62)<=a)(j:a<2^62)
  (q:R (KQ lo (a-lo).toNat) H):wpAny (Af X.prog X.w) X.A (pyIter (.ref s.heap.objs.size)) (Uo X c σ tg R) E {s with heap:=s.heap.push {cls:=.type "range",data:=.fields #[.int lo t,.int a u,.int 1 v]},toks:=d}:=by
 refine wpAny_pyIter_range (IsRange.new ..) (small_one g h i j) ?_
 have f:Inv X c σ H {s with heap:=s.heap.push {cls:=.type "range",data:=.fields #[.int lo t,.int a u,.int 1 v]},toks:=d}:=I.kept λb o e=>Bk _ e
 refine⟨(s.heap.push {cls:=.type "range",data:=.fields #[.int lo t,.int a u,.int 1 v]}).objs.size,[(s.heap.push {cls:=.type "range",data:=.fields #[.int lo t,.int a u,.int 1 v]}).objs.size],_,_,H,rfl,
  f.kept (t':=d) λb o e=>Bk _ e,eO _ lo (a-lo).toNat,?_,λb k=>?_,q⟩
 ·have l:lo+((0:Nat):Int)*1=lo:=by simp
  have m:(((a-lo).toNat:Nat):Int)-((0:Nat):Int)=Builtin.Range.rangeSize lo a 1:=by rw[rangeSize_one];split<;>omega
  show IsRangeIter _ _ (lo+((0:Nat):Int)*1) ((((a-lo).toNat:Nat):Int)-((0:Nat):Int)) 1
  rw[l,m]
  exact B0 _ rfl
 ·have e:b=(s.heap.push {cls:=.type "range",data:=.fields #[.int lo t,.int a u,.int 1 v]}).objs.size:=by simpa using k
  subst e
  exact f.fpOk (BB _) (f.hok.fresh (BB _))
def eT(a:TA):TI:=λb H R=>a b H λvs c=>∃j:Int,vs=[.int j] /\ -(2^62)<=j/\j<2^62/\R (KQ 0 j.toNat) c
def eU(a:TA):TI:=λb H R=>a b H λvs c=>∃i j:Int,vs=[.int i,.int j]/\(-(2^62)<=i/\i<2^62 /\ -(2^62)<=j/\j<2^62)/\R (KQ i (j-i).toNat) c
theorem eV{a:Expr}{c:TA}{p pos:Bc}(d:Gl X "range")(f:X.mg "range"=none)(g:PA X [a] c)(i:AX [a] X.env=[(false,AC a X.env)]:=by rfl):PI X tg (.Call (.Name "range" p) [a] [] pos) (eT c):=by
 intro b s k H R I h
 refine Call_ (FU I d f boot_range (Jn (Bb (g pos b s k H _ I h) λo u ⟨vs,v,l,m,q1⟩=>?_) i rfl))
 obtain⟨j,e,q1,q2,q⟩:=q1
 subst e
 cases m with
 |cons r n=>
  cases n
  obtain⟨t,rfl⟩:=r
  exact call_range_1 (Ur l (by omega) (by omega) q1 q2 (by simpa using q))
theorem eW{a b:Expr}{g:TA}{p pos:Bc}(k:Gl X "range")(l:X.mg "range"=none)(m:PA X [a,b] g)(n:AX [a,b] X.env=[(false,AC a X.env),(false,AC b X.env)]:=by rfl)(c:AX [b] X.env=[(false,AC b X.env)]:=by rfl):
  PI X tg (.Call (.Name "range" p) [a,b] [] pos) (eU g):=by
 intro d s o H R I h
 refine Call_ (FU I k l boot_range (Jn (Bb (m pos d s o H _ I h) λx y ⟨vs,z,u,v,q1⟩=>?_) (by rw[n,c]) (by rw[c];rfl)))
 obtain⟨i,j,e,⟨q1,q2,q3,q4⟩,q⟩:=q1
 subst e
 cases v with
 |cons r f=>
  cases f with
  |cons w f=>
   cases f
   obtain⟨t,rfl⟩:=r
   obtain⟨A,rfl⟩:=w
   exact call_range_2 (Ur u q1 q2 q3 q4 q)
def Us(f:TI)(g:TG)(h:TS):TS:=λD a H=>f a H λJ j=>∃W:Nat->Nat->St->Hp->Prop,(∃m,W 0 m a j)/\∀i m a H,W i m a H ->
 (J.stop i H/\D.nx a H)\/(J.go i H/\∃N:St->Hp->Prop,(∀b c,N b c->∃e,e<m/\W (i+1) e b c)/\∀x c,J.yld i H x c->g x a c λd k=>h {D with nx:=N,ct:=N,bk:=D.nx} d k)
def Ip(a:List Ac)(h:Al):List (Ac×AM):=a.filterMap λb=>(h.get? b).map λo=>(b,o)
theorem MC{a:List Ac}{h:Al}{b:Ac}{o:AM}(c:b∈a)(e:h.get? b=some o):(b,o)∈Ip a h:=List.mem_filterMap.mpr ⟨b,c,by rw[e];rfl⟩
theorem Ut{a:List Ac}{h:Al}{p:Ac×AM}(c:p∈Ip a h):p.1∈a/\h.get? p.1=some p.2:=by
 obtain⟨b,d,e⟩:=List.mem_filterMap.mp c
 cases q:h.get? b with
 |none=>rw[q]at e;cases e
 |some o=>
  rw[q]at e
  have f:(b,o)=p:=Fy e
  subst f
  exact⟨d,q⟩
theorem Inv.pinned{a:List (Ac×AM)}{σ:St}{H:Hp}{s:Ab}{c:List Ac}(I:Inv X a σ H s)(h:∀b∈c,Fh X a H b)(i:∀b∈c,∃o,s.heap.get? b=some o/\∀v,o.data≠.cell v):Inv X (a++Ip c s.heap) σ H s:=
 I.pins_of λp j=>(List.mem_append.mp j).elim (λz=>I.pin p (C6 _ z)) λz=>by
  obtain⟨f,e⟩:=Ut z
  obtain⟨k,l,m,_⟩:=h p.1 f
  obtain⟨o,g,d⟩:=i p.1 f
  rw[e]at g;cases g
  exact⟨e,k,l,m,d⟩
theorem Inv.unpinned{a b:List (Ac×AM)}{σ:St}{H:Hp}{s:Ab}(I:Inv X (a++b) σ H s):Inv X a σ H s:=I.pins_of λp c=>I.pin p (C6 _ (Jj _ c))
theorem eX{iter:Expr}{z:List Ay}{wi:TI}{g:TG}{tb:TS}{pos:Bc}(C:PassesOwn (Af X.prog X.w) X.A X.env X.xe)(hc:X.calm=true)(hi:PI X tg iter wi)(hg:PG X tg g)(j:Er X z tb)
  (hs:∀x,Iq iter X.env x=AQ x:=by intro _;rfl):PS X (.For tg iter z [] pos) (Us wi g tb):=by
 intro a s σ H D I h
 refine wpAny_For (Bb (hi a s σ H _ I h) λv s1 h1=>Bb h1 λitv s2 h2=>?_) hs
 obtain⟨it,E,tn,J,H2,e,I2,T,O,f2,W,⟨m0,w0⟩,turn⟩:=h2
 subst e
 have k:∀{y:Hp},(∀b∈E,y b=none)->∀b∈E,Fh X a y b:=λhn b j=>⟨hn b j,(f2 b j).2⟩
 refine codeAny_forLoop_any (λn s'=>∃i l y,Inv X a l y s'/\tn i s'.heap/\(∀b∈E,y b=none)/\W i n l y) ?_ m0 ⟨0,σ,H2,I2,O,λb j=>(f2 b j).1,w0⟩
 rintro n s3 ⟨i,p,M,I3,G,L,w3⟩
 rcases turn i n p M w3 with⟨stop,qn⟩|⟨go,N,hN,step⟩
 ·refine MD C (Bb (T.done X rfl rfl rfl hc i a s3 p M X.xe I3 (k L) G stop) λr s4 ⟨Q,I4⟩=>?_)
  subst Q
  exact wpAny_execs_nil ⟨p,M,I4,qn⟩
 ·refine MD C (Bb (T.item X rfl rfl rfl hc i a s3 p M X.xe I3 (k L) G go) λr s4 ⟨u,Q,h4⟩=>?_)
  subst Q
  refine MD C (Bb h4 λ_ s5 ⟨x,H5,I5,r5,y5,B,U⟩=>?_)
  have Y:=I5.pinned (k U) (T.obj _ _ B)
  refine MD C (Bb (hg _ s5 p H5 x u _ Y r5 (step x H5 y5)) λ_ s6 ⟨σ6,H6,I6,q6⟩=>?_)
  refine MD C (Bb (j _ s6 σ6 H6 _ I6 q6) λf s7 q7=>?_)
  have again:∀{c:St} {q:Hp},Inv X (a++Ip E s5.heap) c q s7->N c q->∃m,m<n/\∃i l y,Inv X a l y s7/\tn i s7.heap/\(∀b∈E,y b=none)/\W i m l y:=λ{c q} t n7=>by
   obtain⟨m',hm,w7⟩:=hN c q n7
   refine⟨m',hm,i+1,c,q,t.unpinned,T.keep _ _ _ B λb j o e=>(t.pin (b,o) (C6 _ (C6 _ (MC j e)))).1,λb j=>?_,w7⟩
   obtain⟨o,e,d⟩:=T.obj _ _ B b j
   exact(t.pin (b,o) (C6 _ (C6 _ (MC j e)))).2.1
  cases f with
  |next=>obtain⟨c,q,t,n7⟩:=q7;exact again t n7
  |cont=>obtain⟨c,q,t,n7⟩:=q7;exact again t n7
  |brk=>obtain⟨c,q,t,q7⟩:=q7;exact⟨c,q,t.unpinned,q7⟩
  |ret v=>obtain⟨x7,c,q,t,r7,q7⟩:=q7;exact⟨x7,c,q,t.unpinned,r7,q7⟩
end
abbrev R2:=V->V->Hp->VK->Prop
def Ct(X:Cx)(f:Aa->Aa->Sem Aa)(r:R2):Prop:=
 ∀(a:List (Ac×AM)) (s:Ab) (b:St) (H:Hp) (x y:V) (v u:Aa) (Q:VK),Inv X a b H s->RelV x v->RelV y u->r x y H Q ->
  wpAny (Af X.prog X.w) X.A (f v u) (EP X a b Q) X.xe s
def Py(X:Cx)(f:Aa->Sem Aa)(r:V->Hp->VK->Prop):Prop:=
 ∀(a:List (Ac×AM)) (s:Ab) (b:St) (H:Hp) (x:V) (v:Aa) (Q:VK),Inv X a b H s->RelV x v->r x H Q ->
  wpAny (Af X.prog X.w) X.A (f v) (EP X a b Q) X.xe s
def Bd(X:Cx)(f:Aa)(r:List V->Hp->VK->Prop):Prop:=
 ∀(a:List (Ac×AM)) (s:Ab) (b:St) (H:Hp) (c:List V) (d:List Aa) (Q:VK),Inv X a b H s->Ap c d->r c H Q ->
  wpAny (Af X.prog X.w) X.A (call f d) (EP X a b Q) X.xe s
def eY(X:Cx)(r:V->Hp->(Bool->Hp->Prop)->Prop):Prop:=
 ∀(a:List (Ac×AM)) (s:Ab) (b:St) (H:Hp) (x:V) (v:Aa) (Q:Bool->Hp->Prop),Inv X a b H s->RelV x v->r x H Q ->
  wpAny (Af X.prog X.w) X.A (truthy v) (TP X a b Q) X.xe s
def Jo(r:R2)(b c:TE):TE:=λa H Q=>b a H λx d=>c a d λy e=>r x y e Q
def eZ(r:V->Hp->VK->Prop)(a:TE):TE:=λb H Q=>a b H λx c=>r x c Q
def rI(C:Int->Int->Prop)(g:Int->Int->V):R2:=λx y H Q=>∃i j,x=.int i/\y=.int j/\C i j/\Q (g i j) H
def Ht(g:Int->Int->V):R2:=λx y H Q=>∃i j,x=.int i/\y=.int j/\Q (g i j) H
def rU(g:Int->V):V->Hp->VK->Prop:=λx H Q=>∃i,x=.int i/\Q (g i) H
section
variable{X:Cx}{a b c:Expr}{ta tb tc:TE}{pos:Bc}
theorem Pz(k:PE X a ta)(l:PE X b tb){c:List (Ac×AM)}{s:Ab}{σ:St}{H:Hp}{R:V->V->Hp->Prop}(I:Inv X c σ H s)
  (h:ta σ H λx j=>tb σ j λy d=>R x y d) {Q:Aa->Ab->Prop} {f:Aa->Aa->Sem Aa}
  (m:∀v u i x y d,Inv X c σ d i->RelV x v->RelV y u->R x y d->wpAny (Af X.prog X.w) X.A (f v u) Q X.xe i):
  wpAny (Af X.prog X.w) X.A (AC a X.env) (λv e=>wpAny (Af X.prog X.w) X.A (AC b X.env) (λu g=>wpAny (Af X.prog X.w) X.A (f v u) Q X.xe g) X.xe e) X.xe s:=by
 refine Bb (k c s σ H _ I h) λv n ⟨x,j,o,p,q1⟩=>?_
 refine Bb (l c n σ j _ o q1) λu i ⟨y,d,q,r,q2⟩=>?_
 exact m v u i x y d q p r q2
theorem e8{op:Operator}{r:R2}(d:Ct X (FW op) r)(e:PE X a ta)(f:PE X b tb):PE X (.BinOp a op b pos) (Jo r ta tb):=by
 intro c s g H Q I h
 exact wpAny_BinOp (Pz e f I h λv u i x y j k l m q=>d c i g j x y v u Q k l m q)
theorem e9{op:UnaryOp}{r:V->Hp->VK->Prop}(d:Py X (unaryOp op) r)(e:PE X a ta):PE X (.UnaryOp op a pos) (eZ r ta):=by
 intro b s c H Q I h
 exact UnaryOp_ (Bb (e b s c H _ I h) λv f ⟨x,g,i,j,q1⟩=>d b f c g x v Q i j q1)
theorem ME{f:Aa->Aa->Sem Aa}{C:Int->Int->Prop}{g:Int->Int->Int}
  (rule:∀(i j:Int) (t u:Tok) (s:Ab) (Q:Aa->Ab->Prop) (E:Aa->Ab->Prop),C i j->Q (.int (g i j) s.toks) {s with toks:=s.toks+1}->wpAny (Af X.prog X.w) X.A (f (.int i t) (.int j u)) Q E s):
  Ct X f (rI C λi j=>.int (g i j)):=by
 intro a s k H x y v u Q I b c h
 obtain⟨i,j,rfl,rfl,d,q⟩:=h
 obtain⟨t,rfl⟩:=b
 obtain⟨e,rfl⟩:=c
 exact rule i j t e s _ _ d ⟨.int (g i j),H,I.tok _,⟨_,rfl⟩,q⟩
theorem Uu{f:Aa->Aa->Sem Aa}{g:Int->Int->Int}
  (rule:∀(i j:Int) (t u:Tok) (s:Ab) (Q:Aa->Ab->Prop) (E:Aa->Ab->Prop),Q (.int (g i j) s.toks) {s with toks:=s.toks+1}->wpAny (Af X.prog X.w) X.A (f (.int i t) (.int j u)) Q E s):
  Ct X f (Ht λi j=>.int (g i j)):=by
 intro a s e H x y v u Q I b c h
 obtain⟨i,j,rfl,rfl,q⟩:=h
 obtain⟨t,rfl⟩:=b
 obtain⟨d,rfl⟩:=c
 exact rule i j t d s _ _ ⟨.int (g i j),H,I.tok _,⟨_,rfl⟩,q⟩
theorem fe{f:Aa->Aa->Sem Aa}{g:Int->Int->Bool}
  (rule:∀(i j:Int) (t u:Tok) (s:Ab) (Q:Aa->Ab->Prop) (E:Aa->Ab->Prop),Q (.bool (g i j)) s->wpAny (Af X.prog X.w) X.A (f (.int i t) (.int j u)) Q E s):
  Ct X f (Ht λi j=>.bl (g i j)):=by
 intro a s e H x y v u Q I b c h
 obtain⟨i,j,rfl,rfl,q⟩:=h
 obtain⟨t,rfl⟩:=b
 obtain⟨d,rfl⟩:=c
 exact rule i j t d s _ _ ⟨.bl (g i j),H,I,rfl,q⟩
def Ds(i j:Int):Prop:=0<j/\j<1073741824
def Go(i j:Int):Prop:=0<=j/\j<=1000000/\i.natAbs<2^64
def Co(i j:Int):Prop:=(-(2^64)<i/\i<2^64)\/(-(2^64)<j/\j<2^64)
theorem Co.ok{i j:Int}(h:Co i j):IntMulOk i j:=by
 rcases h with⟨a,b⟩|⟨a,b⟩
 ·exact .of_left (intBits_le_64 a b)
 ·exact .of_right (intBits_le_64 a b)
theorem Ir:Ct X (FW .Add) (Ht λi j=>.int (i+j)):=Uu λ_ _ _ _ _ _ _ q=>add_int q
theorem ff:Ct X (FW .Sub) (Ht λi j=>.int (i-j)):=Uu λ_ _ _ _ _ _ _ q=>sub_int q
theorem fg:Ct X (FW .Mult) (rI Co λi j=>.int (i*j)):=ME λ_ _ _ _ _ _ _ a q=>mul_int q a.ok
theorem fh:Ct X (FW .FloorDiv) (rI Ds λi j=>.int (i/j)):=ME λi j _ _ _ _ _ a q=>by
 have b:(0:Int)<j:=a.1
 have c:j<1073741824:=a.2
 exact floordiv_int (by omega) (by rw[Int.fdiv_eq_ediv_of_nonneg i (by omega)];exact q) (.inl (PyProof.noPylong_small (by omega)))
theorem fi:Ct X (FW .Mod) (rI (λ_ j=>0<j) λi j=>.int (i%j)):=ME λi j _ _ _ _ _ a q=>by
 have b:(0:Int)<j:=a
 exact mod_int' (by omega) (by rw[Int.fmod_eq_emod_of_nonneg i (by omega)];exact q)
theorem fj:Ct X (FW .Pow) (rI Go λi j=>.int (i^j.toNat)):=ME λ_ _ _ _ _ _ _ a q=>pow_int_small a.1 a.2.1 a.2.2 q
theorem fm{f:Aa->Sem Aa}{g:Int->Int}
  (rule:∀(i:Int) (t:Tok) (s:Ab) (Q:Aa->Ab->Prop) (E:Aa->Ab->Prop),Q (.int (g i) s.toks) {s with toks:=s.toks+1}->wpAny (Af X.prog X.w) X.A (f (.int i t)) Q E s):
  Py X f (rU λi=>.int (g i)):=by
 intro a s c H x v Q I b h
 obtain⟨i,rfl,q⟩:=h
 obtain⟨t,rfl⟩:=b
 exact rule i t s _ _ ⟨.int (g i),H,I.tok _,⟨_,rfl⟩,q⟩
theorem fo:Py X (unaryOp .USub) (rU λi=>.int (-i)):=fm λ_ _ _ _ _ q=>neg_int q
end
section
variable{X:Cx}{a b c:Expr}{ta tb tc:TE}{pos:Bc}
theorem Uv{a:List (Ac×AM)}{σ:St}{H:Hp}{s:Ab}{Q:VK}{k b:Bool}(I:Inv X a σ H s)(q:Q (.bl k) H)(e:k=b):EP X a σ Q (.bool b) s:=by
 subst e
 exact⟨.bl k,H,I,rfl,q⟩
theorem fq:Ct X (Eh .Gt) (Ht λi j=>.bl (decide (j<i))):=fe λ_ _ _ _ _ _ _ q=>gt_int q
theorem Uw:Ct X (Eh .In) (λx y H Q=>∃i j,x=.str i/\y=.str j/\Q (.bl (!(KR j i 0 j.length 1).isEmpty)) H):=by
 intro a s d H x y v u Q I b c h
 obtain⟨i,j,rfl,rfl,q⟩:=h
 obtain⟨t,rfl⟩:=b
 obtain⟨e,rfl⟩:=c
 exact in_str (Uv I q rfl)
theorem ft:Ct X (Eh .NotIn) (λx y H Q=>∃i j,x=.str i/\y=.str j/\Q (.bl (!(!(KR j i 0 j.length 1).isEmpty))) H):=by
 intro a s d H x y v u Q I b c h
 obtain⟨i,j,rfl,rfl,q⟩:=h
 obtain⟨t,rfl⟩:=b
 obtain⟨e,rfl⟩:=c
 exact notIn_str (Uv I q rfl)
theorem Ct.or{f:Aa->Aa->Sem Aa}{r b:R2}(h:Ct X f r)(h':Ct X f b):Ct X f (λx y H Q=>r x y H Q\/b x y H Q):=by
 intro a s c H x y v u Q I d e q
 rcases q with q|q
 ·exact h a s c H x y v u Q I d e q
 ·exact h' a s c H x y v u Q I d e q
theorem fu{op:CmpOp}{r:R2}(d:Ct X (Eh op) r)(e:PE X a ta)(f:PE X b tb)(g:FV op b=false):PE X (.Compare a [op] [b] pos) (Jo r ta tb):=by
 intro c s i H Q I h
 exact wpAny_Compare1 (Pz e f I h λv u j x y k l m n q=>d c j i k x y v u Q l m n q) g
def fw(t:TE):TT:=λa H Q=>t a H λx b=>∃k,x=.bl k/\Q k b
theorem fy{op:CmpOp}{r:R2}(g:Ct X (Eh op) r)(i:PE X a ta)(j:PE X b tb)(l:FV op b=false):PT X (.Compare a [op] [b] pos) (fw (Jo r ta tb)):=by
 intro d s f H Q I h
 refine wpAny_isTrue_Compare1 (Bb (i d s f H _ I h) λv m ⟨x,n,o,p,q1⟩=>Bb (j d m f n _ o q1) λu q ⟨y,t,w,A,q2⟩=>
  Bb (g d q f t x y v u _ w p A q2) λc G ⟨z,B,C,E,k,e,q3⟩=>?_) l
 subst e
 cases E
 exact Im ⟨B,C,q3⟩
def Ux(K:As)(x:V)(H:Hp)(k:Bool):Prop:=
 match x with
 |.non=>k=false
 |.bl b=>k=b
 |.int i=>k=(i != 0)
 |.str y=>y.length<=AG/\k=((y.length:Int) != 0)
 |.byt y=>y.size<=AG/\k=((y.size:Int) != 0)
 |.ref p=>(∃a,BE K H p a/\k=!a.isEmpty)\/(∃a,BV K H p a/\k=!a.isEmpty)\/∃c,H p=some (.dK c)/\k=!c.isEmpty
 |_=>False
theorem fE{a:Type}{kvs:List (a×V)}{vs:List (a×Aa)}(r:KV kvs vs):(!vs.isEmpty)=!kvs.isEmpty:=by
 cases r<;>rfl
theorem Uy{xs:List V}{a:List Aa}(r:Ap xs a):(!a.toArray.isEmpty)=!xs.isEmpty:=by
 cases r<;>simp
theorem KS:(AG:Nat)<2^63:=by rw[BM];decide
theorem fF:eY X (λx H Q=>∃k,Ux X.K x H k/\Q k H):=by
 intro o s B H x v Q I g h
 obtain⟨k,e,q⟩:=h
 have C:=KS
 have E:AG=16777216:=BM
 cases x with
 |non=>
  cases g
  have a:k=false:=e
  subst a
  exact truthy_none ⟨H,I,q⟩
 |bl b=>
  cases g
  have a:k=b:=e
  subst a
  exact Im ⟨H,I,q⟩
 |int i=>
  obtain⟨t,rfl⟩:=g
  have a:k=(i != 0):=e
  subst a
  exact PySem.P.truthy_int ⟨H,I,q⟩
 |str y=>
  obtain⟨t,rfl⟩:=g
  obtain⟨z,a⟩:y.length<=AG/\k=((y.length:Int) != 0):=e
  subst a
  exact PySem.P.truthy_str (by omega) ⟨H,I.tok _,q⟩
 |byt y=>
  obtain⟨t,rfl⟩:=g
  obtain⟨z,a⟩:y.size<=AG/\k=((y.size:Int) != 0):=e
  subst a
  exact PySem.W.truthy_bytes (by omega) ⟨H,I.tok _,q⟩
 |ref p=>
  cases g
  have a:(∃f,BE X.K H p f/\k=!f.isEmpty)\/(∃f,BV X.K H p f/\k=!f.isEmpty)\/∃c,H p=some (.dK c)/\k=!c.isEmpty:=e
  rcases a with⟨f,j,a⟩|⟨f,j,a⟩|⟨c,j,a⟩
  ·subst a
   obtain⟨l,r,n,u⟩:=I.list j
   have d:=r.length
   exact wpAny_truthy_list n.isList (by simp only[BF];omega) ⟨H,I.tok _,by rw[Uy r];exact q⟩
  ·subst a
   obtain⟨l,r,n,u⟩:=I.tuple j
   have d:=r.length
   exact truthy_tuple n (by simp only[BF];omega) ⟨H,I.tok _,by rw[Uy r];exact q⟩
  ·subst a
   obtain⟨u,A,vs,r,m⟩:c.length<=AG/\(p==Fx)=false/\∃vs,KV c vs/\s.heap.DictOf (Pt X.prog X.w) p vs:=I.hok p _ j
   have d:c.length=vs.length:=Gj r
   exact wpAny_truthy_dict A m (by omega) ⟨H,I.tok _,by rw[fE r];exact q⟩
 |_=>exact(show False from e).elim
theorem fG(d:PE X a ta)(e:∀b,isTrue a X.env b=(do let v <- b;standAt a.pos;holding [v] (truthy v))):
  PT X a (λσ H Q=>ta σ H λx H'=>∃k,Ux X.K x H' k/\Q k H'):=by
 intro c s σ H Q I h
 exact isTrue_plain (Bb (d c s σ H _ I h) λv f ⟨x,g,i,j,q1⟩=>fF c f σ g x v Q i j q1) (e _)
theorem EG:Ct X (FW .Add) (λx y H Q=>∃i j,x=.str i/\y=.str j/\i.length+j.length<=AG/\Q (.str (i++j)) H):=by
 intro a s f H x y v u Q I b c h
 obtain⟨i,j,rfl,rfl,d,q⟩:=h
 obtain⟨t,rfl⟩:=b
 obtain⟨e,rfl⟩:=c
 exact add_str (λe g=>⟨.str (i++j),H,I.tok _,⟨_,rfl⟩,q⟩) d
theorem D3{x:V}{us:List Aa}(r:Ap [x] us):∃u,us=[u]/\RelV x u:=by
 cases r with
 |cons a b=>cases b;exact⟨_,rfl,a⟩
theorem KU{x y:V}{us:List Aa}(r:Ap [x,y] us):∃u a,us=[u,a]/\RelV x u/\RelV y a:=by
 cases r with
 |cons b c=>
  cases c with
  |cons d e=>cases e;exact⟨_,_,rfl,b,d⟩
theorem fH(c:X.calm=true):Bd X (.builtin "max") (λxs H Q=>∃i j,xs=[.int i,.int j]/\Q (.int (if j>i then j else i)) H):=by
 intro b s d H xs e Q I r h
 obtain⟨i,j,rfl,q⟩:=h
 obtain⟨u,f,rfl,⟨t,rfl⟩,⟨g,rfl⟩⟩:=KU r
 refine max_two_ints (I.ok.hd c) λl m k=>⟨_,H,I.kept k,?_,q⟩
 by_cases a:j>i
 ·rw[if_pos a,if_pos a];exact⟨_,rfl⟩
 ·rw[if_neg a,if_neg a];exact⟨_,rfl⟩
theorem fI(c:X.calm=true):Bd X (.builtin "min") (λxs H Q=>∃i j,xs=[.int i,.int j]/\Q (.int (if j<i then j else i)) H):=by
 intro b s d H xs e Q I r h
 obtain⟨i,j,rfl,q⟩:=h
 obtain⟨u,f,rfl,⟨t,rfl⟩,⟨g,rfl⟩⟩:=KU r
 refine min_two_ints (I.ok.hd c) λl m k=>⟨_,H,I.kept k,?_,q⟩
 by_cases a:j<i
 ·rw[if_pos a,if_pos a];exact⟨_,rfl⟩
 ·rw[if_neg a,if_neg a];exact⟨_,rfl⟩
theorem Uz:Bd X (.type "int") (λxs H Q=>(∃i,xs=[.int i]/\Q (.int i) H)\/∃k,xs=[.bl k]/\Q (.int (if k then 1 else 0)) H):=by
 intro a s c H xs d Q I r h
 rcases h with⟨i,rfl,q⟩|⟨k,rfl,q⟩
 ·obtain⟨u,rfl,t,rfl⟩:=D3 r
  exact call_int_int ⟨.int i,H,I,⟨_,rfl⟩,q⟩
 ·obtain⟨u,rfl,b⟩:=D3 r
  cases b
  exact call_int_bool ⟨.int (if k then 1 else 0),H,I.tok _,⟨_,rfl⟩,q⟩
theorem fJ:Bd X (.type "str") (λxs H Q=>∃i,xs=[.int i]/\i.natAbs.log2<1920/\Q (.str (Fi i)) H):=by
 intro a s c H xs d Q I r h
 obtain⟨i,rfl,b,q⟩:=h
 obtain⟨u,rfl,t,rfl⟩:=D3 r
 exact PySem.P.str_of_int b ⟨.str _,H,I.tok _,⟨_,rfl⟩,q⟩
def UA(K:As)(x:V)(H:Hp)(n:Nat):Prop:=
 match x with
 |.str y=>y.length<=AG/\n=y.length
 |.byt y=>y.size<=AG/\n=y.size
 |.ref p=>(∃a,BE K H p a/\n=a.length)\/∃a,BV K H p a/\n=a.length
 |_=>False
theorem EH:Bd X (.builtin "len") (λxs H Q=>∃x n,xs=[x]/\UA X.K x H n/\Q (.int n) H):=by
 intro j s m H xs o Q I r h
 obtain⟨x,n,rfl,e,q⟩:=h
 obtain⟨u,rfl,c⟩:=D3 r
 have v:=KS
 have w:AG=16777216:=BM
 cases x with
 |str y=>
  obtain⟨t,rfl⟩:=c
  obtain⟨k,b⟩:y.length<=AG/\n=y.length:=e
  subst b
  exact len_str (by omega) ⟨.int _,H,I.tok _,⟨_,rfl⟩,q⟩
 |byt y=>
  obtain⟨t,rfl⟩:=c
  obtain⟨k,b⟩:y.size<=AG/\n=y.size:=e
  subst b
  exact PySem.W.len_bytes (by omega) ⟨.int _,H,I.tok _,⟨_,rfl⟩,q⟩
 |ref p=>
  cases c
  have b:(∃xs,BE X.K H p xs/\n=xs.length)\/∃xs,BV X.K H p xs/\n=xs.length:=e
  rcases b with⟨xs,d,b⟩|⟨xs,d,b⟩
  ·subst b
   obtain⟨f,g,i,l⟩:=I.list d
   have a:=g.length
   exact Calls.call_len_list i.isList (by simp only[BF];omega) ⟨.int xs.length,H,I.tok _,⟨_,by simp only[BF];rw[a]⟩,q⟩
  ·subst b
   obtain⟨f,g,i,l⟩:=I.tuple d
   have a:=g.length
   exact len_tuple i (by simp only[BF];omega) ⟨.int xs.length,H,I.tok _,⟨_,by simp only[BF];rw[a]⟩,q⟩
 |_=>exact(show False from e).elim
end
section
variable{prog:A4}{w:Aj}{A:Ak}{E:Aa->Ab->Prop}{s:Ab}{K:As}{x dx C f:Ac}{mA:Ae->Option Aa}{name:Ae}{v:Aa}
end
section
variable{P:A4}{w:Aj}{H H':Hp}{h h':Al}{a C dx:Ac}{fs fs':List (Ae×V)}
end
structure UB(K:As)(C:Ac):Prop where
 pg:PySem.W.plainGet K C Str.empty=true
 hd:PySem.W.hasDictIn K C=true
 po:PySem.W.plainOver K C=true
 sa:PySem.W.findIn K (.ref C) "__setattr__"=some (some (.builtin "object.__setattr__"))
theorem UB.get{K:As}{C:Ac}(c:UB K C)(f:Ae):PySem.W.plainGet K C f=true:=c.pg
section
variable{X:Cx}{pins:List (Ac×AM)}{σ:St}{H:Hp}{s:Ab}{a C dx:Ac}{fs:List (Ae×V)}{f:Ae}{v:V}{A:Ak}{E:Aa->Ab->Prop}
end
section
variable{X:Cx}{o e value:Expr}{f:Ae}{pos pos' tpos:Bc}{ta tv:TE}
end
section
variable{X:Cx}{pins:List (Ac×AM)}{σ:St}{H:Hp}{s:Ab}{A:Ak}{E:Aa->Ab->Prop}{Q:Aa->Ab->Prop}{c:Aa}{b:Bool}
end
structure Bf(k:Nat)(A:Ak):Prop where
 hd:A.handled=none
 dp:A.depth+3*k+5<recursionLimit
 un:A.units+16*k+200<AF
theorem Bf.mono{j k:Nat}{A:Ak}(r:Bf k A)(h:j<=k):Bf j A:=⟨r.hd,by have:=r.dp;omega,by have:=r.un;omega⟩
theorem Bf.deeper{k:Nat}{A:Ak}(r:Bf (k+1) A)(env:Env):Bf k (A.deeper env):=
 ⟨r.hd,by have:=r.dp;show A.depth+1+3*k+5<_;omega,by have:=r.un;show A.units+3+16*k+200<_;omega⟩
theorem Bf.in1{k:Nat}{A:Ak}(r:Bf (k+1) A):Bf k A.in1:=
 ⟨r.hd,by have:=r.dp;show A.depth+3*k+5<_;omega,by have:=r.un;show A.units+1+16*k+200<_;omega⟩
theorem Bf.depth{k:Nat}{A:Ak}(r:Bf k A):A.depth<recursionLimit:=by have:=r.dp;omega
theorem Bf.units{k:Nat}{A:Ak}(r:Bf k A):A.units+64<AF:=by have:=r.un;omega
def UC:TA:=λ_ H Q=>Q [] H
def UD(b:TE)(c:TA):TA:=λa H Q=>b a H λx d=>c a d λe f=>Q (x::e) f
section
variable{X:Cx}{e:Expr}{es:List Expr}{te:TE}{t:TA}{pos:Bc}
theorem BK:PA X [] UC:=λ_ _ _ _ H Q I h=>Calls.spliced_nil ⟨[],H,I,.nil,h⟩
theorem Ej(c:PE X e te)(d:PA X es t)(f:AX (e::es) X.env=(false,AC e X.env)::AX es X.env:=by rfl):PA X (e::es) (UD te t):=by
 intro pos a s b H Q I h
 rw[f]
 show wpAny _ _ (spliced ((false,AC e X.env)::AZ pos (AX es X.env))) _ _ s
 refine Calls.spliced_cons (Bb (c a s b H _ I h) λu g ⟨x,i,j,k,q1⟩=>?_)
 exact Bb (d pos a g b i _ j q1) λp q ⟨l,m,n,o,q2⟩=>⟨x::l,m,n,.cons k o,q2⟩
def fK(t:TA):TE:=λc H Q=>t c H λa b=>a.length<=AG/\∀p,b p=none->Q (.ref p) (A3 b p (.tup a))
def fL(t:TA):TE:=λc H Q=>t c H λa b=>a.length<=AG/\∀p,b p=none->Q (.ref p) (A3 b p (.lst a))
theorem fM {g} (h:PA X es t):PE X (.Tuple es g pos) (fK t):=by
 intro a s i H Q I j
 refine wpAny_Tuple_spliced (Bb (h pos a s i H _ I j) λk c ⟨l,d,f,r,z,q⟩=>⟨by rw[<- r.length];exact z,?_⟩)
 have m:d c.heap.objs.size=none:=f.hok.fresh (BB _)
 refine⟨.ref c.heap.objs.size,A3 d c.heap.objs.size (.tup l),f.laid (t':=c.toks) (λb u e=>Bk _ e) (BB _) ?_,rfl,q _ m⟩
 exact⟨z,k,r,⟨_,B0 _ rfl,rfl,_,rfl⟩⟩
theorem fN(h:PA X es t):PE X (.List es pos) (fL t):=by
 intro a s g H Q I i
 refine wpAny_List_spliced (Bb (h pos a s g H _ I i) λj c ⟨k,d,f,r,z,q⟩=>⟨by rw[<- r.length];exact z,?_⟩)
 have l:d c.heap.objs.size=none:=f.hok.fresh (BB _)
 refine⟨.ref c.heap.objs.size,A3 d c.heap.objs.size (.lst k),f.laid (t':=c.toks) (λb u e=>Bk _ e) (BB _) ?_,rfl,q _ l⟩
 exact⟨z,j,0,r,B0 _ rfl⟩
end
abbrev Sp:=List V->Hp->VK->XK->Prop
abbrev EI:=List Env->Hp->Ab->XK->Aa->Ab->Prop
structure C7(P:A4)(w:Aj)(K:As)(mg:Ae->Option Aa)(base:Al)(A:Ak)(outer:List Env)(s:Ab)(H:Hp):Prop where
 frames:A.frames=some outer
 mod:Mod K mg base
 bs:∀b o,base.get? b=some o->s.heap.get? b=some o/\H b=none
 bsz:base.objs.size<=s.heap.objs.size
 funs:s.heap.FunFrames base outer
 frf:∀b∈Cc outer,H b=none
 hok:Cg P w H s.heap
 bare:AllBare s.gens
def CE(outer:List Env)(P:A4)(w:Aj)(H:Hp)(s:Ab)(Q:VK)(u:Aa)(s':Ab):Prop:=
 ∃v a,s'.os=s.os/\AllBare s'.gens/\Un (Cc outer) [] H a s.heap s'.heap/\Cg P w a s'.heap/\RelV v u/\Q v a
def CR(CX:EI)(outer:List Env)(P:A4)(w:Aj)(H:Hp)(s:Ab)(Q:VK)(E:XK)(r:Result)(s':Ab):Prop:=
 match r with
 |.ok (.ret u)=>CE outer P w H s Q u s'
 |.ok _=>False
 |.error e=>CX outer H s E e s'
structure Az(P:A4)(w:Aj)(K:As)(mg:Ae->Option Aa)(base:Al)(CX:EI)(k:Nat)(f:Ac)(fd:Bi)(ps:List Ae)(sp:Sp):Prop where
 len:∀vs H Q E,sp vs H Q E->vs.length=ps.length
 run:∀(A:Ak) (outer:List Env) (s:Ab) (H:Hp) (args:Args) (us:List Aa) (vs:List V) (Q:VK) (E:XK),Bf k A->C7 P w K mg base A outer s H->BindsTo s fd args (ps.zip us)->Ap vs us->sp vs H Q E ->
  codeAny (Af P w) A (.call (.ref f) args) (CR CX outer P w H s Q E) s
theorem Az.mono{P:A4}{w:Aj}{K:As}{mg:Ae->Option Aa}{base:Al}{CX:EI}{j k:Nat}{f:Ac}{fd:Bi}{ps:List Ae}{sp:Sp}(F:Az P w K mg base CX j f fd ps sp)(h:j<=k):
  Az P w K mg base CX k f fd ps sp:=⟨F.len,λA outer s H args a vs Q E b=>F.run A outer s H args a vs Q E (b.mono h)⟩
theorem Az.imp{P:A4}{w:Aj}{K:As}{mg:Ae->Option Aa}{base:Al}{CX:EI}{k:Nat}{f:Ac}{fd:Bi}{ps:List Ae}{sp a:Sp}(F:Az P w K mg base CX k f fd ps sp)
  (h:∀vs H Q E,a vs H Q E->sp vs H Q E):Az P w K mg base CX k f fd ps a:=
 ⟨λvs H Q E q=>F.len vs H Q E (h _ _ _ _ q),λA outer s H args b vs Q E c d e g i=>F.run A outer s H args b vs Q E c d e g (h _ _ _ _ i)⟩
theorem C7.in1{P:A4}{w:Aj}{K:As}{mg:Ae->Option Aa}{base:Al}{A:Ak}{outer:List Env}{s:Ab}{H:Hp}(e:C7 P w K mg base A outer s H):
  C7 P w K mg base A.in1 outer s H:=⟨e.frames,e.mod,e.bs,e.bsz,e.funs,e.frf,e.hok,e.bare⟩
section
variable{X:Cx}{pins:List (Ac×AM)}{σ:St}{H:Hp}{s s':Ab}
theorem Inv.env0(I:Inv X pins σ H s):C7 X.prog X.w X.K X.mg X.base X.A X.stack s H:=
 ⟨I.ok.frames,I.ok.mod,I.bs,CK I.ok.bsz I.sz,I.stack,I.stkFree,I.hok,I.bare⟩
theorem Inv.after{Q:VK}{u:Aa}(I:Inv X pins σ H s)(h:CE X.stack X.prog X.w H s Q u s'):EP X pins σ Q u s':=by
 obtain⟨v,c,os,bare,un,hok,r,q⟩:=h
 obtain⟨e,g,d,t,a⟩:=s'
 obtain rfl:a=s.os:=os
 exact⟨v,c,I.call (h':=e) (g':=g) (d':=d) (t':=t) (ch:=[]) un hok bare (λb z=>absurd z (by simp)),r,q⟩
end
def PB(sp:Sp)(a:List V)(E:XK)(t:TA):TE:=λb H Q=>t b H λvs c=>sp (vs++a) c Q E
def Binds(K:As)(fd:Bi)(ps:List Ae)(b:List Aa):Prop:=
 ∀(s:Ab) (a:List Aa),K.In s.heap->(a++b).length=ps.length->BindsTo s fd ⟨a,[]⟩ (ps.zip (a++b))
theorem Binds.all{K:As}{fd:Bi}{ps:List Ae}(h:∀us:List Aa,us.length=ps.length->bindArgs fd ⟨us,[]⟩=AQ (ps.zip us)):Binds K fd ps []:=λs us _ a=>by
 rw[Es]at a ⊢
 exact .of_eq (h us a)
def KW(CX:EI)(X:Cx)(E:XK):Prop:=∀(a:List (Ac×AM))(c:St)(H:Hp)(s:Ab)(e:Aa)(b:Ab),Inv X a c H s->CX X.stack H s E e b->X.xe e b
section
variable{X:Cx}{CX:EI}{k:Nat}{f C:Ac}{fd:Bi}{ps:List Ae}{sp:Sp}{dvs:List V}{ds:List Aa}{E:XK}{x m:Ae}{p pos apos:Bc}{e o:Expr}{es:List Expr}{ta:TE}{t:TA}
theorem fO{a:List (Ac×AM)}{σ:St}{H:Hp}{s:Ab}{Q:VK}{us:List Aa}{vs:List V}(F:Az X.prog X.w X.K X.mg X.base CX k f fd ps sp)(d:Bf k X.A)(g:Binds X.K fd ps ds)(hd:Ap dvs ds)(i:KW CX X E)
  (I:Inv X a σ H s) (r:Ap vs us) (h:sp (vs++dvs) H Q E):wpAny (Af X.prog X.w) X.A (call (.ref f) us) (EP X a σ Q) X.xe s:=by
 have c:Ap (vs++dvs) (us++ds):=r.append hd
 have j:(us++ds).length=ps.length:=by rw[<- c.length];exact F.len _ _ _ _ h
 refine wpAny_call (codeAny_mono (F.run X.A X.stack s H ⟨us,[]⟩ (us++ds) (vs++dvs) Q E d I.env0 (g s us I.kIn j) c h) λr l b=>?_)
 cases r with
 |error e=>exact i a σ H s e l I b
 |ok m=>
  cases m with
  |ret u=>exact I.after b
  |next=>exact BW b
  |brk=>exact BW b
  |cont=>exact BW b
theorem UE(F:Az X.prog X.w X.K X.mg X.base CX k f fd ps sp)(i:Bf k X.A)(j:Gl X x)(l:X.mg x=some (.ref f))(m:KY X.K (.ref f)=true)(n:Binds X.K fd ps ds)(hd:Ap dvs ds)(o:KW CX X E)
  (u:PA X (e::es) t) (b:(x==("__debug__":Ae))=false:=by decide) (v:AX (e::es) X.env=(false,AC e X.env)::AX es X.env:=by rfl) (c:(AZ pos (AX es X.env)).any (·.1)=false:=by rfl):
  PE X (.Call (.Name x p) (e::es) [] pos) (PB sp dvs E t):=by
 intro a s y H Q I h
 refine KZ (KI I j l ?_ b)
 refine PySem.W.callWith_K (h₀:=X.base) I.ok.mod.kin m (Bb (u pos a s y H _ I h) λz B ⟨vs,C,g,r,q⟩=>⟨g.kIn,?_⟩) v c
 exact fO F i n hd o g r q
end
def PK(X:Cx)(b:List Keyword)(t:TA):Prop:=
 ∀(pos:Bc) (a:List (Ac×AM)) (s:Ab) (c:St) (H:Hp) (Q:List V->Hp->Prop),Inv X a c H s->t c H Q->wpAny (Af X.prog X.w) X.A (evalAll ((backToKw pos (BN b X.env)).map (·.2))) (AP X a c Q) X.xe s
section
variable{X:Cx}{CX:EI}{k:Nat}{f C:Ac}{fd:Bi}{ps ks:List Ae}{sp:Sp}{E:XK}{x m:Ae}{p pos apos kpos:Bc}{e o:Expr}{es:List Expr}{kws:List Keyword}{te ta:TE}{t tk:TA}{nm:Option Ae}
theorem UF:PK X [] UC:=λ_ _ _ _ H Q I h=>wpAny_evalAll_nil ⟨[],H,I,.nil,h⟩
theorem UG(c:PE X e te)(d:PK X kws t):PK X (⟨nm,e,kpos⟩::kws) (UD te t):=by
 intro pos a s b H Q I h
 show wpAny _ _ (evalAll ((do let v <- AC e X.env;standAt pos;AQ v)::(backToKw pos (BN kws X.env)).map (·.2))) _ _ s
 refine wpAny_evalAll_cons (Ag (Bb (c a s b H _ I h) λu f ⟨x,g,i,j,q1⟩=>Ag (wpAny_standAt (AE ?_))))
 exact Bb (d pos a f b g _ i q1) λo p ⟨k,l,m,n,q2⟩=>⟨x::k,l,m,.cons j n,q2⟩
variable{g:List Aa->List Aa->List Aa}{gV:List V->List V->List V}
end
structure ZG(N P:List Ae)(sc:Scope):Prop where
 kind:sc.kind=.function
 co:sc.isCoroutine=false
 gen:sc.isGenerator=false
 nd:N.Nodup
 pre:N.take P.length=P
 par:∀x∈P,sc.names.lookup x=some .local\/sc.names.lookup x=some .cell
 nofree:∀y∈sc.names,y.2≠.free
theorem UH{kindOf:Ae->Option EJ}{x:Ae}:∀{a:List (Ae×Aa)}{m:Ae->Option Aa},(∀v,(x,v)∉a)->bindL kindOf a m x=m x
 |[],_,_=>rfl
 |(n,v)::r,m,h=>by
  unfold bindL
  rw[UH λw b=>h w (Bt _ b)]
  split
  ·have:x≠n:=by rintro rfl;exact h v BA
   simp[this]
  ·rfl
theorem UI{kindOf:Ae->Option EJ}{x:Ae}:∀{a:List (Ae×Aa)}{m:Ae->Option Aa},(∀v,(x,v)∉a)->bindC kindOf a m x=m x
 |[],_,_=>rfl
 |(n,v)::r,m,h=>by
  unfold bindC
  rw[UI λw b=>h w (Bt _ b)]
  split
  ·rfl
  ·have:x≠n:=by rintro rfl;exact h v BA
   simp[this]
theorem UJ{kindOf:Ae->Option EJ}{x:Ae}{v:Aa}:∀{P:List Ae}{vs:List Aa}{i:Nat}{m:Ae->Option Aa},P.Nodup->P[i]?=some x->vs[i]?=some v->kindOf x=some .local ->
  bindL kindOf (P.zip vs) m x=some v
 |[],_,_,_,_,h,_,_=>by simp at h
 |_::_,[],_,_,_,_,h,_=>by simp at h
 |p::P,w::vs,0,m,nd,a,b,c=>by
  simp at a b;subst a;subst b
  show bindL kindOf ((p,w)::P.zip vs) m p=_
  unfold bindL
  rw[UH λv d=>(E2.mp nd).1 (List.of_mem_zip d).1,if_pos c]
  simp
 |p::P,w::vs,i+1,m,nd,a,b,c=>by
  show bindL kindOf ((p,w)::P.zip vs) m x=_
  unfold bindL
  exact UJ (i:=i) (E2.mp nd).2 (by simpa using a) (by simpa using b) c
theorem UK{kindOf:Ae->Option EJ}{x:Ae}{v:Aa}:∀{P:List Ae}{vs:List Aa}{i:Nat}{m:Ae->Option Aa},P.Nodup->P[i]?=some x->vs[i]?=some v->kindOf x≠some .local ->
  bindC kindOf (P.zip vs) m x=some v
 |[],_,_,_,_,h,_,_=>by simp at h
 |_::_,[],_,_,_,_,h,_=>by simp at h
 |p::P,w::vs,0,m,nd,a,b,c=>by
  simp at a b;subst a;subst b
  show bindC kindOf ((p,w)::P.zip vs) m p=_
  unfold bindC
  rw[UI λv d=>(E2.mp nd).1 (List.of_mem_zip d).1,if_neg c]
  simp
 |p::P,w::vs,i+1,m,nd,a,b,c=>by
  show bindC kindOf ((p,w)::P.zip vs) m x=_
  unfold bindC
  exact UK (i:=i) (E2.mp nd).2 (by simpa using a) (by simpa using b) c
def FC(N:List Ae)(vs:List V):St:=vs.map some++DH (N.length-vs.length) none
def FX(CX:EI)(P:A4)(w:Aj)(K:As)(mg:Ae->Option Aa)(base:Al)(N:List Ae)(a:Ae)(scope:Scope)(f:Ac)(c:Aa)(A:Ak)(outer:List Env)(s:Ab)(H:Hp)(E:XK):Cx where
 prog:=P
 w:=w
 K:=K
 mg:=mg
 base:=base
 A:=A.deeper (envOfC a scope s.heap.objs.size f c)
 N:=N
 s₀:=s
 H₀:=H
 env:=envOfC a scope s.heap.objs.size f c
 outer:=outer
 stack:=envOfC a scope s.heap.objs.size f c::outer
 ex:=[]
 calm:=true
 fn:=λ_=>true
 pn:=[]
 xe:=λe d=>wpAny (Af P w) (A.deeper (envOfC a scope s.heap.objs.size f c)) (leaving (envOfC a scope s.heap.objs.size f c) e) (λ_ b=>CX outer H s E e b) (λg b=>CX outer H s E g b) d
theorem UL{a:Scope}{n:Nat}{x:Ae}(h:a.names.lookup x=some .cell):∃c,(cellsFrom n a.names []).lookup x=some c:=by
 have q:=PySem.W.cellsFrom_some a.names n [] (.inl h)
 exact Option.isSome_iff_exists.mp q
theorem fP{CX:EI}{P:A4}{w:Aj}{K:As}{mg:Ae->Option Aa}{base:Al}{N ps:List Ae}{d:Ae}{scope:Scope}{f:Ac}{B:Aa}{A:Ak}{outer:List Env}{s I:Ab}{H:Hp}{E:XK}{us:List Aa}{vs:List V}
  (S:ZG N ps scope) (hd:A.handled=none) (j:C7 P w K mg base A outer s H) (T:vs.length=ps.length) (r:Ap vs us)
  (x:InCallC s s.heap.objs.size (bindL (envOfC d scope s.heap.objs.size f B).kindOf (ps.zip us) λ_=>none) (cellsFrom (s.heap.objs.size+1) scope.names []) (bindC (envOfC d scope s.heap.objs.size f B).kindOf (ps.zip us) λ_=>none) I):
  Inv (FX CX P w K mg base N d scope f B A outer s H E) [] (FC N vs) H I:=by
 have M:ps.length<=N.length:=by have:=congrArg List.length S.pre;rw[List.length_take]at this;omega
 obtain⟨C,U,rfl,J⟩:=x.done
 have l:∀b:Ac,b∉(FX CX P w K mg base N d scope f B A outer s H E).ex:=λb z=>absurd (show b∈([]:List Ac)from z) (by simp)
 refine⟨⟨j.mod,S.kind,rfl,rfl,BB _,λy z c C g=>?_,λy m=>?_,λy c _ h=>?_,λ_=>hd,Around.frames_deeper j.frames,.inr ⟨rfl,rfl⟩,λb z=>absurd z (l b),j.bs,j.bsz,λb _ _=>l b,λb z=>absurd z (l b),j.funs,j.frf⟩,
  rfl,j.bare,Un.kept J,⟨_,x.toInCall.ns,λi y v C g Y=>?_⟩,λy c h=>⟨_,x.cell y c h⟩,j.hok.fresh (BB _),λy c h=>?_,λp o=>absurd (show p∈([]:List (Ac×AM))from o) (by simp),j.hok.kept J,?_⟩
 ·exact name_of_addr x.apart (Jp C) (Jp g)
 ·have m:scope.names.lookup y=some .cell\/scope.names.lookup y=some .free:=m
  rcases m with m|m
  ·exact UL m
  ·exact absurd rfl (S.nofree _ (Jp m))
 ·exact Jh (x.above y c (Jp h))
 ·have G:i<vs.length:=by
   unfold FC at g
   by_cases G:i<vs.length
   ·exact G
   ·rw[PF (by simpa using G)]at g
    rw[Iu]at g
    split at g<;>cases g
  have O:vs[i]?=some v:=by
   unfold FC at g
   rw[Jq (by simpa using G),Dy]at g
   cases e:vs[i]? with
   |none=>rw[e]at g;cases g
   |some a=>rw[e]at g;cases g;rfl
  obtain⟨u,L,Q⟩:=r.get O
  have o:ps[i]?=some y:=by
   rw[<- S.pre,List.getElem?_take_of_lt (by omega)];exact C
  have t:ps.Nodup:=by rw[<- S.pre];exact S.nd.sublist (List.take_sublist _ _)
  refine⟨u,Q,?_⟩
  rcases S.par y (Gp o)with k|k
  ·exact .inl ⟨k,UJ t o L k⟩
  ·obtain⟨c,e⟩:=UL (n:=s.heap.objs.size+1) k
   refine .inr ⟨.inl k,c,e,?_⟩
   have q:=x.cell y c e
   rw[UK t o L (by show scope.names.lookup y≠_;rw[k];decide)]at q
   exact q
 ·exact j.hok.fresh (Jh (x.above y c (Jp h)))
 ·unfold FC
  show _=N.length
  rw[Fj,BY,Jr]
  omega
theorem UM{CX:EI}{P:A4}{w:Aj}{K:As}{mg:Ae->Option Aa}{base:Al}{k:Nat}{f:Ac}{name a:Ae}{d:Arguments}{g:List Ay}{scope:Scope}{T kV m U c ct oc:Aa}{Y od:Option Ac}
  {B:Array (Option Aa)} {N ps:List Ae} {sp:Sp} (lk:K.lookup f=some ⟨oc,od,.func (Hu name a d g scope T kV m U Y c ct),B⟩) (C:PySem.W.codeIn K c a=true) (S:ZG N ps scope)
  (len:∀vs H Q E,sp vs H Q E->vs.length=ps.length)
  (i:∀(A:Ak) (outer:List Env) (s:Ab) (H:Hp) (vs:List V) (Q:VK) (E:XK),Bf k (A.deeper (envOfC a scope s.heap.objs.size f c))->sp vs H Q E ->
   ∃t,Er (FX CX P w K mg base N a scope f c A outer s H E) g t/\t {nx:=λ_ H'=>Q .non H',rt:=Q} (FC N vs) H):
  Az P w K mg base CX (k+1) f (Hu name a d g scope T kV m U Y c ct) ps sp:=by
 refine⟨len,λA outer s H args us vs Q E G p hb r z=>?_⟩
 have hl:=len _ _ _ _ z
 have KX:K.In s.heap:=p.mod.kin.keeps λb o e=>(p.bs b o e).1
 have L:s.heap.NoLimit:=p.mod.nolimit.keeps λb o e=>(p.bs b o e).1
 have j:∀y∈ps.zip us,scope.names.lookup y.1=some .local\/(scope.names.lookup y.1=some .cell/\((cellsFrom (s.heap.objs.size+1) scope.names []).lookup y.1).isSome=true):=λ⟨n,v⟩ hy=>by
  rcases S.par n (List.of_mem_zip hy).1 with q|q
  ·exact .inl q
  ·exact .inr ⟨q,PySem.W.cellsFrom_some _ _ _ (.inl q)⟩
 refine codeAny_call_function G.depth (KX _ _ lk) rfl S.co S.gen rfl (PySem.W.codeRec_of KX C) (hb _ _ _ _ ?_)
 refine wpAny_newFunctionEnv_cells S.kind j λenv he s1 x=>?_
 subst he
 refine⟨L.keeps x.toInCall.keep,codeAny_func ?_⟩
 obtain⟨t,ht,hq⟩:=i A outer s H vs Q E (G.deeper _) z
 have I:Inv (FX CX P w K mg base N a scope f c A outer s H E) [] (FC N vs) H s1:=fP S G.hd p hl r x
 refine Eg (ht [] s1 (FC N vs) H _ I hq) (λfl M l=>?_) λe M l=>l
 have fin:∀{h:St} {H':Hp} {v:V} {u:Aa},Inv (FX CX P w K mg base N a scope f c A outer s H E) [] h H' M->RelV v u->Q v H'->CE outer P w H s Q u M:=
  λ{h H' v u} J O q=>⟨v,H',J.os,J.bare,J.base,J.hok,O,q⟩
 cases fl with
 |ret u=>
  obtain⟨v,h,H',J,O,q⟩:=l
  exact fin J O q
 |next=>
  obtain⟨h,H',J,q⟩:=l
  exact fin (v:=V.non) (u:=Ed) J rfl q
 |brk=>
  obtain⟨_,_,_,q⟩:=l
  exact BW q
 |cont=>
  obtain⟨_,_,_,q⟩:=l
  exact BW q
section
variable{X:Cx}{x:Ae}{p pos:Bc}{e:Expr}{es:List Expr}{t:TA}{id T:String}{r:List V->Hp->VK->Prop}
def MF(r:List V->Hp->VK->Prop)(t:TA):TE:=λa H Q=>t a H λvs b=>r vs b Q
theorem PH(f:Bd X (.builtin id) r)(g:Gl X x)(i:X.mg x=none)(j:Ep x=some (.builtin id))(k:PA X (e::es) t)(l:x≠"__name__":=by decide)(b:(x==("__debug__":Ae))=false:=by decide)
  (m:AX (e::es) X.env=(false,AC e X.env)::AX es X.env:=by rfl) (c:(AZ pos (AX es X.env)).any (·.1)=false:=by rfl):PE X (.Call (.Name x p) (e::es) [] pos) (MF r t):=by
 intro a s d H Q I h
 refine KZ (FU I g i j ?_ l b)
 exact PyProof.Rows.callWith_builtin1 (Bb (k pos a s d H _ I h) λn o ⟨vs,q,u,v,q1⟩=>f a o d q vs n Q u v q1) m c
theorem UN(f:Bd X (.type T) r)(g:Gl X x)(i:X.mg x=none)(j:Ep x=some (.type T))(k:PA X (e::es) t)(l:x≠"__name__":=by decide)(b:(x==("__debug__":Ae))=false:=by decide)
  (m:AX (e::es) X.env=(false,AC e X.env)::AX es X.env:=by rfl) (c:(AZ pos (AX es X.env)).any (·.1)=false:=by rfl):PE X (.Call (.Name x p) (e::es) [] pos) (MF r t):=by
 intro a s d H Q I h
 refine KZ (FU I g i j ?_ l b)
 exact Jn (Bb (k pos a s d H _ I h) λn o ⟨vs,q,u,v,q1⟩=>f a o d q vs n Q u v q1) m c
end
end L2
namespace HT
open PySem PyProof.Rows
theorem rcLt_int(A:Ak)(s:Ab)(a:Int)(t:Tok)(c:Int)(u:Tok)(prog:A4)(w:Aj)(E:Aa->Ab->Prop)(Q:Aa->Ab->Prop)(h:Q (.bool (decide (a<c))) s):
  wpAny (Af prog w) A (richCompare .Lt (.int a t) (.int c u)) Q E s:=
 (PyProof.Rows.lt_int h:wpAny (Af prog w) A (Eh .Lt (.int a t) (.int c u)) Q E s)
section
open PySem.SeqAt
open PySem.AutoSeq1 (wpAny_loadPart')
open PySem.MeetsSeq PySem.MeetsSeq2 PySem.MeetsSeq3
end
section
variable{prog:A4}{w:Aj}{A:Ak}{E:Aa->Ab->Prop}{s:Ab}
def sIx(n d:Nat):Option Int->Nat
 |none=>d
 |some v=>if v<0 then(v+(n:Int)).toNat else min v.toNat n
theorem fQ(n d:Nat)(hd:d<=n)(o:Option Int):sIx n d o<=n:=by
 cases o with
 |none=>exact hd
 |some v=>
  show(if v<0 then(v+(n:Int)).toNat else min v.toNat n)<=n
  by_cases a:v<0
  ·rw[if_pos a];omega
  ·rw[if_neg a];exact Nat.min_le_right _ _
theorem UO(v:Int)(n d:Nat):(if v<0 then max (v+(n:Int)) 0 else min v (n:Int))=((sIx n d (some v):Nat):Int):=by
 show(if v<0 then max (v+(n:Int)) 0 else min v (n:Int))=(((if v<0 then(v+(n:Int)).toNat else min v.toNat n):Nat):Int)
 by_cases a:v<0
 ·simp only[if_pos a];omega
 ·simp only[if_neg a];omega
theorem fR(lo a:Option Int)(n:Nat):UP lo a 1 (n:Int)=(((sIx n 0 lo:Nat):Int),((sIx n n a:Nat):Int)):=by
 have b:¬ ((1:Int)<0):=by omega
 unfold UP
 simp only[b,if_false]
 refine Prod.ext ?_ ?_
 ·cases lo with
  |none=>rfl
  |some v=>exact UO v n 0
 ·cases a with
  |none=>rfl
  |some v=>exact UO v n n
theorem fS(i j:Nat):PJ (i:Int) (j:Int) 1=j-i:=by
 unfold PJ
 have a:(1:Int)>0:=by omega
 simp only[a,if_true,Int.ediv_one]
 split<;>omega
theorem UQ{v:Aa}{o:Option Int}{Q:Option Int->Ab->Prop}(p:IsPart v o)(h:Q o s):wpAny (Af prog w) A (Builtin.Slice.slicePartIndex v) Q E s:=by
 cases p with
 |none=>exact slicePart_none h
 |int i t=>exact slicePart_int h
theorem sliceApplied_gen{f:Ac}{d e:Aa}{lo a:Option Int}{n:Nat}{Q:Int×Int×Nat->Ab->Prop}(g:s.heap.IsSliceOf f d e .none)(i:IsPart d lo)(j:IsPart e a)
  (h:Q (((sIx n 0 lo:Nat):Int),1,sIx n n a-sIx n 0 lo) s):wpAny (Af prog w) A (Builtin.Slice.sliceApplied (.ref f) (AQ (n:Int))) Q E s:=by
 obtain⟨os,b,k,c⟩:=id g
 unfold Builtin.Slice.sliceApplied Builtin.Slice.sliceFields
 refine Ag (Ag (Ch b c (x:=d) rfl (Ag (Ch b c (x:=e) rfl (Ag (Ch b c (x:=.none) rfl (AE ?_)))))))
 refine Ag (slicePart_none ?_)
 show wpAny _ _ (if((1:Int)==0)=true then _ else _) _ _ s
 rw[if_neg (by decide)]
 refine Ag (UQ i (Ag (UQ j (Ag (AE ?_)))))
 show wpAny _ _ (match UP lo a 1 (n:Int)with|(lo,a)=>AQ (lo,(1:Int),PJ lo a 1)) _ _ s
 rw[fR lo a n]
 show wpAny _ _ (AQ (((sIx n 0 lo:Nat):Int),(1:Int),PJ ((sIx n 0 lo:Nat):Int) ((sIx n n a:Nat):Int) 1)) _ _ s
 rw[fS]
 exact AE h
theorem fT(xs:Array Aa)(i k:Nat):((A7 k).filterMap λ(m:Nat)=>xs[((i:Int)+(m:Int)*1).toNat]?).toArray=((xs.toList.drop i).take k).toArray:=by
 have e:(λ(m:Nat)=>xs[((i:Int)+(m:Int)*1).toNat]?)=λm=>xs[i+m]?:=by
  funext m
  have:((i:Int)+(m:Int)*1).toNat=i+m:=by omega
  rw[this]
 rw[e]
 have:=pick_run xs i k
 rw[List.filterMap_map]at this
 have a:((λx=>xs[x]?)∘λx=>i+x)=λm=>xs[i+m]?:=rfl
 rw[a]at this
 rw[this]
theorem getItem_tuple_cut{t e:Ac}{a:Array Aa}{k l:Aa}{lo c:Option Int}{Q:Aa->Ab->Prop}(d:IsTup s.heap t a)(n:s.heap.IsSliceOf e k l .none)(p:IsPart k lo)(r:IsPart l c)
  (u:¬ (sIx a.size 0 lo=0/\sIx a.size a.size c=a.size))
  (h:Q (.ref s.heap.objs.size) {s with heap:=s.heap.push {cls:=.type "tuple",data:=.seq ((a.toList.drop (sIx a.size 0 lo)).take (sIx a.size a.size c-sIx a.size 0 lo)).toArray} })
  (hsz:a.size<=AG):wpAny (Af prog w) A (getItem (.ref t) (.ref e)) Q E s:=by
 have b:sizeOk (.seq ((a.toList.drop (sIx a.size 0 lo)).take (sIx a.size a.size c-sIx a.size 0 lo)).toArray):=by
  show((a.toList.drop (sIx a.size 0 lo)).take (sIx a.size a.size c-sIx a.size 0 lo)).toArray.size<=AG
  rw[BF,List.length_take,Js,KJ]
  omega
 have x:sIx a.size a.size c<=a.size:=fQ _ _ (BB _) c
 obtain⟨os,f,g,v⟩:=id n
 have i:s.TypeIs (.ref e) "slice":=⟨os,f,g⟩
 unfold getItem
 try with_reducible refine Ei ?_
 first|refine Ag (AE ?_)|skip
 refine Ag (wpAny_sequenceKey d.typeIs (by decide) ?_)
 refine Ag (FY (name:=Dt "__getitem__") d.typeIs PL
  (Fk PL d.typeIs entry_tuple_getitem ?_ (args_tuple_getitem _ _)))
 show wpAny _ _ (Builtin.Tuple.tupleItemsOf (.ref t) >>= _) _ _ s
 refine Ag (tupleItemsOf_ d ?_)
 refine Ag (Iv i ?_)
 rw[if_pos (by decide)]
 refine Ag (sliceApplied_gen n p r ?_)
 have j:¬ ((((sIx a.size 0 lo:Nat):Int)==0&&(1:Int)==1&&(sIx a.size a.size c-sIx a.size 0 lo)==a.size)=true):=by
  intro q
  rw[Dj,Dj]at q
  have q1:((sIx a.size 0 lo:Nat):Int)=0:=eq_of_beq q.1.1
  have q2:sIx a.size a.size c-sIx a.size 0 lo=a.size:=eq_of_beq q.2
  exact u ⟨by omega,by omega⟩
 show wpAny _ _ (if(((sIx a.size 0 lo:Nat):Int)==0&&(1:Int)==1&&(sIx a.size a.size c-sIx a.size 0 lo)==a.size)=true then _ else _) _ _ s
 rw[if_neg j,fT]
 first
  |exact Ag (m:=PM _) (FZ (AE ⟨_,rfl,AE h⟩) b)
  |exact Ag (m:=PM _) (FZ (Ag (AE (AE ⟨_,rfl,AE h⟩))) b)
  |exact Ag (Ag (m:=PM _) (FZ (AE (AE ⟨_,rfl,AE h⟩)) b))
  |exact Ag (Ag (m:=PM _) (FZ (AE ⟨_,rfl,AE h⟩) b))
end
end HT
namespace L2
open PySem PySem.Spec PyProof.Rows
abbrev TO:=St->Hp->(Option Int->Hp->Prop)->Prop
def PO(X:Cx)(e:Option Expr)(t:TO):Prop:=
 ∀(a:List (Ac×AM)) (s:Ab) (b:St) (H:Hp) (Q:Option Int->Hp->Prop),Inv X a b H s->t b H Q ->
  wpAny (Af X.prog X.w) X.A (evalPart e X.env) (λu d=>∃o c,Inv X a b c d/\IsPart u o/\Q o c) X.xe s
def fU:TO:=λ_ H Q=>Q none H
def fV(t:TE):TO:=λa H Q=>t a H λx b=>∃i,x=.int i/\Q (some i) b
theorem PN{a:List Int}:∀{us:List Aa},Ap (a.map V.int) us->IntsAre us a:=by
 induction a with
 |nil=>intro us r;rw[Dd]at r;cases r;exact .nil
 |cons n a b=>
  intro us r
  rw[AY]at r
  cases r with
  |cons c d=>
   obtain⟨t,e⟩:=c
   subst e
   exact .cons n t (b d)
section
variable{X:Cx}{e:Expr}{te:TE}{lo hi:Option Expr}{tl th:TO}{pos p2:Bc}
theorem fW:PO X none fU:=by
 intro a s b H Q I h
 rw[evalPart_none]
 exact AE ⟨none,H,I,.none,h⟩
theorem fX(h:PE X e te):PO X (some e) (fV te):=by
 intro a s b H Q I c
 rw[evalPart_some]
 refine Bb (h a s b H _ I c) λu j ⟨x,d,f,g,q1⟩=>?_
 obtain⟨i,rfl,q⟩:=q1
 obtain⟨t,rfl⟩:=g
 exact⟨some i,d,f,.int i t,q⟩
def GY(X:Cx)(r:V->Option Int->Option Int->Hp->VK->Prop):Prop:=
 ∀(a:List (Ac×AM)) (s:Ab) (b:St) (H:Hp) (x:V) (v c d:Aa) (lo hi:Option Int) (e:Ac) (Q:VK),Inv X a b H s->RelV x v->s.heap.IsSliceOf e c d .none->IsPart c lo->IsPart d hi->r x lo hi H Q ->
  ∃T id,typeLookup (.type T) "__getitem__"=AQ (some (.builtin id))/\s.TypeIs v T/\wpAny (Af X.prog X.w) X.A (getItem v (.ref e)) (EP X a b Q) X.xe s
theorem GY.or{r b:V->Option Int->Option Int->Hp->VK->Prop}(h:GY X r)(h':GY X b):GY X (λx lo hi H Q=>r x lo hi H Q\/b x lo hi H Q):=by
 intro a s c H x v d e lo hi f Q I g i j k q
 rcases q with q|q
 ·exact h a s c H x v d e lo hi f Q I g i j k q
 ·exact h' a s c H x v d e lo hi f Q I g i j k q
def fY(r:V->Option Int->Option Int->Hp->VK->Prop)(te:TE)(tl th:TO):TE:=λa H Q=>te a H λx b=>tl a b λl c=>th a c λu d=>r x l u d Q
theorem fZ{r:V->Option Int->Option Int->Hp->VK->Prop}(j:GY X r)(k:PE X e te)(m:PO X lo tl)(n:PO X hi th):PE X (.Subscript e (.Slice lo hi none p2) pos) (fY r te tl th):=by
 intro a s d H Q I h
 refine Subscript_ (Bb (k a s d H _ I h) λv o ⟨x,p,t,y,q1⟩=>?_)
 refine wpAny_Slice (Bb (m a o d p _ t q1) λf z ⟨l,B,C,E,q2⟩=>Bb (n a z d B _ C q2) λg c ⟨u,i,G,J,q3⟩=>?_)
 rw[evalPart_none]
 refine AE ?_
 have L:Inv X a d i {c with heap:=c.heap.push {cls:=.type "slice",data:=.fields #[f,g,.none]} }:=G.kept (t':=c.toks) λb ob q=>Bk _ q
 obtain⟨T,id,M,N,O⟩:=j a {c with heap:=c.heap.push {cls:=.type "slice",data:=.fields #[f,g,.none]} } d i x v f g l u c.heap.objs.size Q L y (Heap.IsSliceOf.new ..) E J q3
 show wpAny (Af X.prog X.w) X.A (subscriptTail e (.Slice lo hi none p2) v (.ref c.heap.objs.size)) (EP X a d Q) X.xe {c with heap:=c.heap.push {cls:=.type "slice",data:=.fields #[f,g,.none]} }
 exact tail_any (ops:=[.ref c.heap.objs.size,v]) N M O (by with_unfolding_all rfl)
def F0(xs:List V)(lo hi:Option Int):List V:=(xs.drop (HT.sIx xs.length 0 lo)).take (HT.sIx xs.length xs.length hi-HT.sIx xs.length 0 lo)
theorem UR(xs:List V)(lo hi:Option Int):(F0 xs lo hi).length<=xs.length:=by
 unfold F0
 rw[List.length_take,Js]
 omega
def f3(K:As):V->Option Int->Option Int->Hp->VK->Prop:=λx lo hi H Q=>∃a b,x=.ref a/\BV K H a b /\
 ¬ (HT.sIx b.length 0 lo=0/\HT.sIx b.length b.length hi=b.length)/\∀p,H p=none->Q (.ref p) (A3 H p (.tup (F0 b lo hi)))
theorem f4:GY X (f3 X.K):=by
 intro f s t H x v u w lo hi y Q I j k l m h
 obtain⟨a,d,rfl,n,p,q⟩:=h
 cases j
 obtain⟨e,r,g,i⟩:=I.tuple n
 have c:e.toArray.size=d.length:=by rw[BF];exact r.length.symm
 refine⟨"tuple",_,PyProof.Rows.slot_tuple_getitem.lookup,g.typeIs,?_⟩
 refine HT.getItem_tuple_cut g k l m (by rw[c];exact p) ?_ (by rw[c];exact i)
 rw[c]
 refine⟨.ref s.heap.objs.size,_,I.laid (t':=s.toks) (o:=.tup (F0 d lo hi)) (λb ob q=>Bk _ q) (BB _) ?_,rfl,q _ (I.hok.fresh (BB _))⟩
 exact⟨CK (UR d lo hi) i,_,(r.drop (HT.sIx d.length 0 lo)).take (HT.sIx d.length d.length hi-HT.sIx d.length 0 lo),IsTup.new _ _⟩
end
def DR(n:Nat)(i:Int):Option Nat:=if 0<=i then(if i<n then some i.toNat else none)else if -(n:Int)<=i then some (i+n).toNat else none
def atI{a:Type}(xs:List a)(i:Int):Option a:=(DR xs.length i).bind λj=>xs[j]?
theorem f5{n:Nat}{i:Int}{j:Nat}(h:DR n i=some j):seqIndex? i n=some j/\j<n /\ -(n:Int)<=i/\i<n:=by
 unfold DR at h
 by_cases b:0<=i
 ·rw[if_pos b]at h
  by_cases a:i<n
  ·rw[if_pos a]at h
   have e:i.toNat=j:=Fy h
   exact⟨by rw[seqIndex_of b a,e],by omega,by omega,a⟩
  ·rw[if_neg a]at h;cases h
 ·rw[if_neg b]at h
  by_cases a : -(n:Int)<=i
  ·rw[if_pos a]at h
   have e:(i+n).toNat=j:=Fy h
   exact⟨by rw[seqIndex_neg (by omega) a,e],by omega,a,by omega⟩
  ·rw[if_neg a]at h;cases h
theorem PP{a:Type}{xs:List a}{i:Int}{v:a}(h:atI xs i=some v):∃j,seqIndex? i xs.length=some j/\xs[j]?=some v/\j<xs.length /\ -(xs.length:Int)<=i/\i<xs.length:=by
 unfold atI at h
 cases e:DR xs.length i with
 |none=>rw[e]at h;cases h
 |some j=>
  rw[e]at h
  obtain⟨b,c,d,f⟩:=f5 e
  exact⟨j,b,h,c,d,f⟩
theorem DJ{a:Type}{xs:List a}{j:Nat}{v:a}(h:xs[j]?=some v):atI xs (j:Int)=some v:=by
 have b:j<xs.length:=(List.getElem?_eq_some_iff.mp h).1
 have e:DR xs.length (j:Int)=some j:=by
  unfold DR
  rw[if_pos (by omega),if_pos (by omega)];simp
 unfold atI;rw[e];exact h
theorem US{a:Type}(xs:List a)(v:a):atI (xs++[v]) (-1)=some v:=by
 have b:(xs++[v]).length=xs.length+1:=by simp
 have e:DR (xs++[v]).length (-1)=some xs.length:=by
  unfold DR
  rw[b,if_neg (by decide),if_pos (by omega)]
  congr 1
  omega
 unfold atI
 rw[e]
 show(xs++[v])[xs.length]?=some v
 simp
def K0(b:Expr):Prop:=∀o i,subscripted b false o i=operate [o,i] (getItem o i)
def F1(X:Cx)(r:R2):Prop:=
 ∀(b slice:Expr) (a:List (Ac×AM)) (s:Ab) (c:St) (H:Hp) (x y:V) (v u:Aa) (Q:VK),Inv X a c H s->RelV x v->RelV y u->r x y H Q ->
  subscripted slice false v u=operate [v,u] (getItem v u)->wpAny (Af X.prog X.w) X.A (subscriptTail b slice v u) (EP X a c Q) X.xe s
def Gq(X:Cx)(id:String)(r:V->List V->Hp->VK->Prop):Prop:=
 ∀(a:List (Ac×AM)) (s:Ab) (b:St) (H:Hp) (x:V) (c:List V) (v:Aa) (d:List Aa) (Q:VK),Inv X a b H s->RelV x v->Ap c d->r x c H Q ->
  wpAny (Af X.prog X.w) X.A (call (.builtin id) (v::d)) (EP X a b Q) X.xe s
section
variable{X:Cx}{a b:Expr}{ta tb:TE}{pos:Bc}
theorem F1.or{r c:R2}(h:F1 X r)(h':F1 X c):F1 X (λx y H Q=>r x y H Q\/c x y H Q):=by
 intro a slice b s d H x y v u Q I e f q g
 rcases q with q|q
 ·exact h a slice b s d H x y v u Q I e f q g
 ·exact h' a slice b s d H x y v u Q I e f q g
theorem Gq.or{id:String}{r b:V->List V->Hp->VK->Prop}(h:Gq X id r)(h':Gq X id b):Gq X id (λx xs H Q=>r x xs H Q\/b x xs H Q):=by
 intro a s c H x xs v d Q I e f q
 rcases q with q|q
 ·exact h a s c H x xs v d Q I e f q
 ·exact h' a s c H x xs v d Q I e f q
theorem f6{r:R2}(d:F1 X r)(e:PE X a ta)(f:PE X b tb)(g:K0 b):PE X (.Subscript a b pos) (Jo r ta tb):=by
 intro c s i H Q I h
 exact Subscript_ (Pz e f I h λv u j x y k l m n q=>d a b c j i k x y v u Q l m n q (g _ _))
def UT(K:As):R2:=λx y H Q=>∃p a i v,x=.ref p/\y=.int i/\BE K H p a/\atI a i=some v/\Q v H
def UU(K:As):R2:=λx y H Q=>∃p a i v,x=.ref p/\y=.int i/\BV K H p a/\atI a i=some v/\Q v H
def UV:R2:=λx y H Q=>∃z i c,x=.str z/\y=.int i/\z.length<=AG/\atI z.cps.toList i=some c/\Q (.str ⟨#[c]⟩) H
theorem GZ:F1 X (UT X.K):=by
 intro c slice a s k H x y v u Q I o A h l
 obtain⟨p,N,i,z,rfl,rfl,B,C,q⟩:=h
 cases o
 obtain⟨t,rfl⟩:=A
 obtain⟨d,r,e,O⟩:=I.list B
 obtain⟨j,b,E,T,G,J⟩:=PP C
 obtain⟨w,m,f⟩:=r.get E
 have L:=r.length
 have U:=KS
 have fin:EP X a k Q w s:=⟨z,H,I,f,q⟩
 by_cases n:0<=i
 ·have g:i.toNat=j:=by
   rw[seqIndex_of n J]at b
   exact Fy b
  exact item_listR e.isList n (by omega) (by rw[g];simpa using m) fin l
 ·have g:(i+(d.toArray.size:Int)).toNat=j:=by
   rw[seqIndex_neg (by omega) G]at b
   rw[BF,<- L]
   exact Fy b
  exact subscriptTail_builtinR (x:=w) e.isList.typeIs slot_list_getitem.lookup
   (wpAny_getItem_list_neg (Q:=λr M=>r=w/\EP X a k Q r M) e.isList (by omega) (by rw[BF]<;>omega) (by omega) (by rw[g];simpa using m) ⟨rfl,fin⟩) l
theorem Iw:F1 X (UU X.K):=by
 intro b slice a s d H x y v u Q I f g h k
 obtain⟨p,G,i,z,rfl,rfl,l,m,q⟩:=h
 cases f
 obtain⟨t,rfl⟩:=g
 obtain⟨n,r,e,J⟩:=I.tuple l
 obtain⟨j,o,A,L,M,N⟩:=PP m
 obtain⟨w,B,c⟩:=r.get A
 have C:=r.length
 have O:=KS
 have fin:EP X a d Q w s:=⟨z,H,I,c,q⟩
 exact subscriptTail_builtinR (x:=w) e.typeIs slot_tuple_getitem.lookup
  (getItem_tuple (j:=j) (Q:=λr E=>r=w/\EP X a d Q r E) e (by omega) (by omega) (by rw[BF,<- C];exact o) (by simpa using B) ⟨rfl,fin⟩) k
theorem f7:F1 X UV:=by
 intro a slice b s w H x y v u Q I e f h g
 obtain⟨z,i,c,rfl,rfl,A,k,q⟩:=h
 obtain⟨t,rfl⟩:=e
 obtain⟨B,rfl⟩:=f
 obtain⟨j,d,l,C,m,n⟩:=PP k
 have o:z.cps.toList.length=z.length:=by simp[Str.length]
 rw[o]at d m n
 have E:=KS
 exact tail_any (typeIs_str s z t) slot_str_getitem.lookup (getItem_str (c:=c) (by
  have p:decide (i < -(2^63:Int))=false:=decide_eq_false (by omega)
  have r:decide (i≥2^63)=false:=decide_eq_false (by omega)
  rw[p,r,Bool.or_false]) (by rw[d];simpa using l) ⟨.str ⟨#[c]⟩,H,I.tok _,⟨_,rfl⟩,q⟩) g
def UW(K:As):R2:=λx y H Q=>UT K x y H Q\/UU K x y H Q\/UV x y H Q
theorem f8:F1 X (UW X.K):=GZ.or (Iw.or f7)
theorem Inv.lst{b:List (Ac×AM)}{σ:St}{H:Hp}{s:Ab}{p:Ac}{xs:List V}(I:Inv X b σ H s)(h:H p=some (.lst xs)):
  ∃(a:List Aa) (n:Nat),Ap xs a/\s.heap.get? p=some {cls:=.type "list",data:=.seq a.toArray n}/\xs.length<=AG:=by
 obtain⟨z,a,n,r,e⟩:=I.hok p _ h
 exact⟨a,n,r,e,z⟩
theorem f9(lo a:Option Int)(n:Nat):(BO lo a none n).1=((HT.sIx n 0 lo:Nat):Int)/\(BO lo a none n).2.1=((HT.sIx n n a:Nat):Int)/\(BO lo a none n).2.2=1:=by
 refine⟨?_,?_,rfl⟩
 ·cases lo with
  |none=>simp[BO,HT.sIx]
  |some i=>
   simp only[BO,HT.sIx,Option.getD_none,show(1:Int)>0 by decide,if_true]
   by_cases h:i<0
   ·simp only[h,if_true]<;>omega
   ·simp only[h,if_false]<;>omega
 ·cases a with
  |none=>simp[BO,HT.sIx]
  |some i=>
   simp only[BO,HT.sIx,Option.getD_none,show(1:Int)>0 by decide,if_true]
   by_cases h:i<0
   ·simp only[h,if_true]<;>omega
   ·simp only[h,if_false]<;>omega
theorem gb(a:List Aa)(lo b:Option Int):slicePick a.toArray lo b none=((a.drop (HT.sIx a.length 0 lo)).take (HT.sIx a.length a.length b-HT.sIx a.length 0 lo)).toArray:=by
 obtain⟨c,d,e⟩:=f9 lo b a.toArray.size
 unfold slicePick
 rw[c,d,e]
 simp only[sliceRange_one,pick_run,BF]<;>rfl
def gc(K:As):V->Option Int->Option Int->Hp->VK->Prop:=λx lo c H Q=>∃a b,x=.ref a/\BE K H a b/\∀p,H p=none->Q (.ref p) (A3 H p (.lst (F0 b lo c)))
theorem G0:GY X (gc X.K):=by
 intro f s t H x v u w lo e y Q I i j k l h
 obtain⟨a,c,rfl,m,q⟩:=h
 cases i
 obtain⟨n,r,g,p⟩:=I.list m
 have d:=r.length
 refine⟨"list",_,slot_list_getitem.lookup,g.isList.typeIs,?_⟩
 refine wpAny_getItem_list_slice g.isList j k l .none (by simp) ?_ (by rw[BF]<;>omega)
 rw[gb,<- d]
 refine⟨.ref s.heap.objs.size,_,I.laid (t':=s.toks) (o:=.lst (F0 c lo e)) (λb ob q=>Bk _ q) (BB _) ?_,rfl,q _ (I.hok.fresh (BB _))⟩
 exact⟨CK (UR c lo e) p,_,0,(r.drop (HT.sIx c.length 0 lo)).take (HT.sIx c.length c.length e-HT.sIx c.length 0 lo),B0 _ rfl⟩
def UX:V->Bool
 |.non=>true
 |.bl _=>true
 |.int _=>true
 |.str _=>true
 |_=>false
def ge:V->V->Bool
 |.non,.non=>true
 |.bl a,.bl b=>a==b
 |.bl a,.int b=>(if a then 1 else 0)==b
 |.int a,.bl b=>a==(if b then 1 else 0)
 |.int a,.int b=>a==b
 |.str a,.str b=>a==b
 |_,_=>false
theorem Bd.or{f:Aa}{r b:List V->Hp->VK->Prop}(h:Bd X f r)(h':Bd X f b):Bd X f (λxs H Q=>r xs H Q\/b xs H Q):=by
 intro a s c H xs d Q I e q
 rcases q with q|q
 ·exact h a s c H xs d Q I e q
 ·exact h' a s c H xs d Q I e q
theorem UY:Bd X (.type "list") (λxs H Q=>∃p ys,xs=[.ref p]/\(BE X.K H p ys\/BV X.K H p ys)/\∀l,H l=none->Q (.ref l) (A3 H l (.lst ys))):=by
 intro g s y H xs A Q I r h
 obtain⟨p,ys,rfl,i,q⟩:=h
 obtain⟨u,rfl,z⟩:=D3 r
 cases z
 have fin:∀(a:List Aa),Ap ys a->ys.length<=AG->∀(c:Al) (d:Nat),(∀b x,s.heap.get? b=some x->c.get? b=some x) ->
   c.get? s.heap.objs.size=some {cls:=.type "list",dict:=none,data:=.seq a.toArray d,slots:=#[]}->EP X g y Q (.ref s.heap.objs.size) {s with heap:=c}:=λa f j c d kp e=>
  ⟨.ref s.heap.objs.size,_,I.laid (t':=s.toks) kp (BB _) (show Bl X.prog X.w _ c _ (.lst ys)from⟨j,a,d,f,e⟩),rfl,q _ (I.hok.fresh (BB _))⟩
 rcases i with i|i
 ·obtain⟨a,f,m,j⟩:=I.list i
  have k:=f.length
  obtain⟨o,t,v,n,hd⟩:=m.isList
  exact call_list_seq p (.inl rfl) t v hd (λc d kp e=>fin a f j c d kp e) (by simp only[BF]<;>omega)
 ·obtain⟨a,f,m,j⟩:=I.tuple i
  have k:=f.length
  obtain⟨o,t,v,n,hd⟩:=m
  exact call_list_seq p (.inr rfl) t v hd (λc d kp e=>fin a f j c d kp e) (by simp only[BF]<;>omega)
theorem G1:Bd X (.type "tuple") (λxs H Q=>∃p ys,xs=[.ref p]/\((BE X.K H p ys/\∀l,H l=none->Q (.ref l) (A3 H l (.tup ys)))\/(BV X.K H p ys/\Q (.ref p) H))):=by
 intro a s j H xs y Q I r h
 obtain⟨p,ys,rfl,h⟩:=h
 obtain⟨u,rfl,t⟩:=D3 r
 cases t
 rcases h with⟨f,q⟩|⟨f,q⟩
 ·obtain⟨c,g,i,k⟩:=I.list f
  have m:=g.length
  refine call_tuple_list i.isList (λd kp=>?_) (by simp only[BF]<;>omega)
  have n:Inv X a j H {s with heap:=d}:=I.kept (t':=s.toks) kp
  have x:Inv X a j (A3 H d.objs.size (.tup ys)) {s with heap:=d.push {cls:=.type "tuple",data:=.seq c.toArray} }:=
   n.laid (t':=s.toks) (λb o e=>Bk _ e) (BB _) (show Bl X.prog X.w _ _ _ (.tup ys)from⟨k,c,g,IsTup.new _ _⟩)
  exact⟨.ref d.objs.size,_,x,rfl,q _ (n.hok.fresh (BB _))⟩
 ·obtain⟨c,g,i,k⟩:=I.tuple f
  exact call_tuple_same i ⟨.ref p,H,I,rfl,q⟩
def K1(K:As)(T:String)(x:V)(H:Hp):Prop:=match x with
 |.str _=>T="str"
 |.int _=>T="int"
 |.ref p=>(T="list"/\∃b,BE K H p b)\/(T="tuple"/\∃o,K.lookup p=some o/\o.cls=.type "tuple"/\o.dict=none) \/
   (T="dict"/\((∃a,H p=some (.dK a))\/(∃a,H p=some (.dT a))\/∃c vs,Rd H p (.dct c vs)))\/(T="set"/\∃S n,H p=some (.set S n))
 |_=>False
theorem UZ{d:List (Ac×AM)}{σ:St}{H:Hp}{s:Ab}{T:String}{x:V}{v:Aa}(I:Inv X d σ H s)(r:RelV x v)(ty:K1 X.K T x H):
  s.TypeIs v T/\∀a,v=.ref a->∃ob,s.heap.get? a=some ob/\ob.dict=none:=by
 cases x with
 |str z=>
  obtain⟨t,rfl⟩:=r
  cases(show T="str" from ty)
  exact⟨typeIs_str s z t,λ_ e=>nomatch e⟩
 |int i=>
  obtain⟨t,rfl⟩:=r
  cases(show T="int" from ty)
  exact⟨typeIs_int s i t,λ_ e=>nomatch e⟩
 |ref p=>
  cases r
  rcases ty with⟨rfl,m,j⟩|⟨rfl,o,b,k,hd⟩|⟨rfl,b⟩|⟨rfl,S,n,b⟩
  ·obtain⟨l,_,h,_⟩:=I.list j
   refine⟨h.isList.typeIs,λa e=>?_⟩
   cases e
   obtain⟨o,n,e,c,hd,_⟩:=h
   exact⟨o,e,hd⟩
  ·refine⟨⟨o,I.kIn p o b,k⟩,λa e=>?_⟩
   cases e
   exact⟨o,I.kIn _ o b,hd⟩
  ·have z:∃o,s.heap.get? p=some o/\o.ExactDict:=by
    rcases b with⟨f,b⟩|⟨f,b⟩|⟨q,vs,b⟩
    ·obtain⟨_,_,_,_,o,_,_,e,ex,_⟩:=I.hok p _ b
     exact⟨o,e,ex⟩
    ·obtain⟨_,_,_,_,o,_,_,e,ex,_⟩:=I.hok p _ b
     exact⟨o,e,ex⟩
    ·obtain⟨_,_,_,o,_,_,e,ex,_⟩:=b.ok I.hok
     exact⟨o,e,ex⟩
   obtain⟨o,e,ex⟩:=z
   refine⟨⟨o,e,ex.1⟩,λa g=>?_⟩
   cases g
   exact⟨o,e,ex.2.1⟩
  ·obtain⟨o,_,_,_,e,ex,_⟩:=I.hok p _ b
   refine⟨⟨o,e,ex.1⟩,λa g=>?_⟩
   cases g
   exact⟨o,e,ex.2.1⟩
 |_=>exact BW ty
def gf(K:As)(T:String)(r:V->List V->Hp->VK->Prop)(b:TE):TE:=λc H Q=>b c H λx a=>K1 K T x a/\r x [] a Q
def gg(K:As)(T:String)(r:V->List V->Hp->VK->Prop)(c:TE)(t:TA):TE:=λa H Q=>c a H λx b=>K1 K T x b/\t a b λd e=>r x d e Q
variable{o e:Expr}{es:List Expr}{to:TE}{t:TA}{name:Ae}{apos cpos:Bc}{T id:String}{r:V->List V->Hp->VK->Prop}
theorem gh(i:PlainAttrs T)(slot:Slot T name id)(d:typeOf (.builtin id)=AQ (.type "method_descriptor"))(j:Gq X id r)(k:PE X o to)
  (b:Jt o name X.env (AC o X.env)=AC o X.env:=by rfl) (c:(apos.endLine==cpos.line)=true:=by rfl):PE X (.Call (.Attribute o name apos) [] [] cpos) (gf X.K T r to):=by
 intro a s e H Q I h
 refine wpAny_Call_method0_late b c (Bb (k a s e H _ I h) λv l ⟨x,m,f,g,ty,q1⟩=>?_)
 obtain⟨n,p⟩:=UZ f g ty
 exact⟨T,id,i,slot,d,n,p,Calls.callWith_builtin rfl (PySem.evalArgs_none (j a l e m x [] v [] Q f g .nil q1))⟩
theorem MG(m:PlainAttrs T)(slot:Slot T name id)(g:typeOf (.builtin id)=AQ (.type "method_descriptor"))(n:Gq X id r)(p:PE X o to)(q:PA X (e::es) t)
  (c:Jt o name X.env (AC o X.env)=AC o X.env:=by rfl)
  (f:((AZ cpos (AX (e::es) X.env)).all (λx=>!x.1)&&(backToKw cpos (BN [] X.env)).all (λx=>x.1.isSome)
   && decide ((e::es).length+([]:List Keyword).length+(if([]:List Keyword).isEmpty then 0 else 1)<30))=true:=by rfl)
  (d:(apos.endLine==cpos.line)=true:=by rfl) (u:AX (e::es) X.env=(false,AC e X.env)::AX es X.env:=by rfl) (b:(AZ cpos (AX es X.env)).any (·.1)=false:=by rfl):
  PE X (.Call (.Attribute o name apos) (e::es) [] cpos) (gg X.K T r to t):=by
 intro a s i H Q I h
 refine wpAny_Call_method_late c f d rfl (Bb (p a s i H _ I h) λv w ⟨x,y,j,k,ty,q1⟩=>?_)
 obtain⟨z,A⟩:=UZ j k ty
 refine⟨T,id,m,slot,g,z,A,?_⟩
 have l:=q cpos a w i y _ j q1
 rw[u]at l ⊢
 refine Calls.callWith_builtin (by show(false||(AZ cpos (AX es X.env)).any (·.1))=false;rw[b]<;>rfl) (Calls.evalArgs_plain ?_)
 exact Bb l λB C ⟨vs,E,G,J,q2⟩=>n a C i E x vs v B Q G k J q2
end
def PQ(X:Cx)(id:String)(r:V->List V->Hp->VK->Prop):Prop:=
 ∀(a:List (Ac×AM)) (s:Ab) (b:St) (H:Hp) (x:V) (c:List V) (v:Aa) (d:List Aa) (Q:VK),Inv X a b H s->RelV x v->Ap c d->r x c H Q ->
  wpAny (Af X.prog X.w) X.A (call (.builtin id) (v::d)) (EP X a b Q) X.xe s
theorem Ap.one:∀{x:V}{us:List Aa},Ap [x] us->∃u,us=[u]/\RelV x u
 |_,_,.cons r .nil=>⟨_,rfl,r⟩
theorem Ap.two:∀{x y:V}{us:List Aa},Ap [x,y] us->∃u v,us=[u,v]/\RelV x u/\RelV y v
 |_,_,_,.cons r (.cons q .nil)=>⟨_,_,rfl,r,q⟩
theorem Ap.zero:∀{us:List Aa},Ap [] us->us=[]
 |_,.nil=>rfl
theorem Ap.dropLast{xs:List V}{us:List Aa}(h:Ap xs us):Ap xs.dropLast us.dropLast:=by
 induction h with
 |nil=>exact .nil
 |cons r t a=>
  cases t with
  |nil=>exact .nil
  |cons q b=>exact .cons r a
theorem Ap.eraseIdx:∀{xs:List V}{us:List Aa}(i:Nat),Ap xs us->Ap (xs.eraseIdx i) (us.eraseIdx i)
 |_,_,_,.nil=>.nil
 |_,_,0,.cons _ t=>t
 |_,_,i+1,.cons r t=>.cons r (Ap.eraseIdx i t)
theorem Ap.reverse{xs:List V}{us:List Aa}(h:Ap xs us):Ap xs.reverse us.reverse:=by
 induction h with
 |nil=>exact .nil
 |cons r t a=>rw[List.reverse_cons,List.reverse_cons];exact Ap.append a (.cons r .nil)
theorem Ap.rep{xs:List V}{us:List Aa}(h:Ap xs us):∀k:Nat,Ap (DH k xs).flatten (DH k us).flatten
 |0=>.nil
 |k+1=>by
  rw[List.replicate_succ,List.replicate_succ,List.flatten_cons,List.flatten_cons]
  exact Ap.append h (Ap.rep h k)
theorem gi{c:Type}(l:List c):l.eraseIdx (l.length-1)=l.dropLast:=by
 induction l with
 |nil=>rfl
 |cons a r d=>
  cases r with
  |nil=>rfl
  |cons b r=>
   have e:(a::b::r).length-1=((b::r).length-1)+1:=by
    have f:(a::b::r).length=r.length+2:=rfl
    have g:(b::r).length=r.length+1:=rfl
    omega
   rw[e,List.eraseIdx_cons_succ,d]
   all_goals rfl
section
variable{X:Cx}{pins:List (Ac×AM)}{σ:St}{H:Hp}{s:Ab}{l b:Ac}{xs ys zs:List V}
theorem Inv.lset{a its':List Aa}{n:Nat}{f:Array Aa->Array Aa}{t':Nat}(I:Inv X pins σ H s)(b:H l=some (.lst xs))
  (e:s.heap.get? l=some {cls:=.type "list",data:=.seq a.toArray n}) (c:f a.toArray=its'.toArray) (d:Ap ys its') (hz:ys.length<=AG):
  Inv X pins σ (A3 H l (.lst ys)) {s with heap:=s.heap.update l (G2 f),toks:=t' }:=by
 have q:=PySem.IsL.update e f
 rw[c]at q
 refine I.write (x:=l) (e:=l) (by rw[b];exact trivial) (.inl rfl) (λi u g h=>(K2 s.heap (G2 f) (Br g)).trans h) ⟨_,q⟩ ?_
 exact⟨hz,its',_,d,q⟩
theorem Inv.lnew{a:List Aa}{t':Nat}(I:Inv X pins σ H s)(b:Ap ys a)(hz:ys.length<=AG):
  Inv X pins σ (A3 H s.heap.objs.size (.lst ys)) {s with heap:=s.heap.push {cls:=.type "list",data:=.seq a.toArray},toks:=t' }:=
 I.laid (λ_ _ q=>Bk _ q) (BB _) ⟨hz,a,0,b,B0 _ rfl⟩
theorem Inv.fresh(I:Inv X pins σ H s):H s.heap.objs.size=none:=I.hok.fresh (BB _)
theorem Inv.lstM(I:Inv X pins σ H s)(b:H l=some (.lst xs)):xs.length<=AG/\∃(a:List Aa)(n:Nat),Ap xs a/\xs.length=a.length/\s.heap.get? l=some {cls:=.type "list",data:=.seq a.toArray n}:=by
 obtain⟨z,a,n,r,e⟩:=I.hok l _ b
 exact⟨z,a,n,r,r.length,e⟩
end
section
variable{X:Cx}
def gj:V->List V->Hp->VK->Prop:=λx vs H Q=>∃l a y,x=.ref l/\vs=[y]/\H l=some (.lst a)/\a.length<AG/\Q .non (A3 H l (.lst (a++[y])))
theorem gl:PQ X "list.append" gj:=by
 intro b s j H x vs v k Q I f g h
 obtain⟨l,m,y,rfl,rfl,c,o,q⟩:=h
 cases f
 obtain⟨u,rfl,i⟩:=g.one
 obtain⟨z,a,n,r,p,e⟩:=I.lstM c
 refine call_meets F.slot_list_append ⟨_,e,rfl⟩ F.entry_list_append (F.args_list_append_2 _ _) (PySem.list_append l a.toArray n u (by rw[BF];omega)) ⟨e,?_⟩
 refine⟨.non,_,I.lset (its':=a++[u]) c e (by simp) (r.append (.cons i .nil)) ?_,rfl,q⟩
 rw[Fj,List.length_singleton]
 omega
def gm:V->List V->Hp->VK->Prop:=λx vs H Q=>∃l a y,x=.ref l/\vs=[]/\H l=some (.lst a)/\a[a.length-1]?=some y/\Q y (A3 H l (.lst a.dropLast))
theorem qt:PQ X "list.pop" gm:=by
 intro d s t H x vs v w Q I i j h
 obtain⟨l,A,y,rfl,rfl,f,k,q⟩:=h
 cases i
 have b:=j.zero
 subst b
 obtain⟨z,a,n,r,m,e⟩:=I.lstM f
 obtain⟨u,o,p⟩:=r.get k
 have c:a.toArray[a.toArray.size-1]?=some u:=by
  show a.toArray[a.length-1]?=some u
  rw[<- PR,<- m]
  exact o
 refine call_meets F.slot_list_pop ⟨_,e,rfl⟩ F.entry_list_pop (F.args_list_pop_1 _) (MeetsSeq.list_pop_last l a.toArray n u c (by rw[BF];omega)) ⟨e,?_⟩
 refine⟨y,_,I.lset (its':=a.dropLast) f e ?_ r.dropLast ?_,p,q⟩
 ·show a.toArray.eraseIdxIfInBounds (a.toArray.size-1)=a.dropLast.toArray
  rw[BF,List.eraseIdxIfInBounds_toArray,gi]
 ·rw[List.length_dropLast]
  omega
def gn:V->List V->Hp->VK->Prop:=λx vs H Q=>∃l a,x=.ref l/\vs=[]/\H l=some (.lst a)/\Q .non (A3 H l (.lst []))
theorem gp:PQ X "list.clear" gn:=by
 intro c s j H x vs v k Q I g i h
 obtain⟨l,m,rfl,rfl,d,q⟩:=h
 cases g
 have a:=i.zero
 subst a
 obtain⟨z,b,n,r,o,e⟩:=I.lstM d
 refine call_meets F.slot_list_clear ⟨_,e,rfl⟩ F.entry_list_clear (F.args_list_clear_1 _) (AutoSeq1.list_clear_list_0 l b.toArray n (by rw[BF];omega)) ⟨e,?_⟩
 exact⟨.non,_,I.lset (its':=[]) (ys:=[]) d e rfl .nil (Hv _),rfl,q⟩
end
section
variable{prog:A4}{w:Aj}{A:Ak}{E:Aa->Ab->Prop}{s:Ab}
set_option maxRecDepth 100000 in
end
section
variable{X:Cx}
end
end L2
namespace Att
open PySem PySem.W PySem.Calls PyProof.Rows
theorem gq{P:Params}{h:Al}:∀(c:List Int)(vs:List Aa),WellAll P h vs (c.map WData.int)->IntsAre vs c:=by
 intro c
 induction c with
 |nil=>
  intro vs w
  rw[Dd]at w
  cases w
  exact .nil
 |cons n c d=>
  intro vs w
  rw[AY]at w
  cases w with
  |cons a b=>
   cases a
   exact .cons _ _ (d _ b)
theorem gt{l:OpenLaw}{n:Nat}(o:l.most=some n){P:Params}{h:Al}{args:List WData}{Zt:List Aa}
  (c:l.row.toRowW.claim.pre args=true) (j:WellAll P h Zt args):
  ∃a vs b,Zt=[Cn a]/\args=[WData.list (b.map WData.int)]/\h.get? a=some {cls:=.type "list",data:=.seq vs.toArray}/\IntsAre vs b/\b.length<=n:=by
 have k:WShape.hasAll [] args [.list .int]=true:=(pre_splitW c).1
 have m:l.pre.holds [] {args:=args}=true:=(pre_splitW c).2
 obtain⟨d,r,rfl,p,s⟩:=hasAllW_cons k
 obtain rfl:=hasAllW_nil s
 obtain⟨w,rfl,t⟩:=hasW_list p
 obtain⟨b,rfl⟩:=items_int t
 have e:b.length<=n:=by
  unfold OpenLaw.pre at m
  have g:(WTm.not (.lt (.lit (.int (n:Int))) (.len (.arg 0)))).holds [] {args:=[.list (b.map .int)]}=true:=by
   have g:=(holds_andW m).1
   rw[o]at g
   exact g
  have i:=condW_of g (w_not (w_lt w_lit (w_len_list (w_arg rfl))))
  rw[BY]at i
  refine Nat.le_of_not_lt λq=>?_
  have u:(n:Int)<((b.length:Nat):Int):=by omega
  first
   |(rw[decide_eq_true u]at i;exact absurd i (by decide))
   |(simp at i;omega)
 cases j with
 |cons w1 w2=>
  cases w2
  cases w1 with
  |list v f=>exact⟨_,_,b,rfl,rfl,v,gq b _ f,e⟩
theorem gu(l:OpenLaw)(args:List WData):l.row.toRowW.claim.post args (.bool true) args=true:=
 postW_of (r:=l.row.toRowW) (X:=(true==true))
  (show WShape.has [] (.bool true) .bool=true by first|rfl|decide|simp[WShape.has,WShape.arms,WShape.armsAll])
  (show(WTm.eq .res (.lit (.bool true))).value [] {args:=args,res:=some (.bool true),after:=args}=some (.bool (true==true))from w_eq_bool (w_res rfl) w_lit) rfl
theorem attach_call{l:OpenLaw}{n:Nat}{q:A4}{c:List Ae}{z:(Ae->Option Aa)->Al->Prop}{A:Aj->Al->Prop}{d:DefRec}
  (E:l.most=some n) (s:d.params.defaults=[])
  (call:∀(w:Aj) (s₀ b:Ab) (mg t:Ae->Option Aa) (h:Ac) (o:AM) (u m e:Aa) (a:Ac) (vs:List Aa) (p:List Int),
   Ground q c [] z w s₀ mg t b.heap->A w b.heap ->
   b.heap.get? h=some o->o.data=.func (docDef d.name d.params d.body d.scope u m e)->b.heap.CodeRec m d.name->mg d.name=some (.ref h) ->
   b.heap.get? a=some {cls:=.type "list",data:=.seq vs.toArray}->IntsAre vs p->p.length<=n->b.gens=#[] ->
   codeAny (Af l.prog w) callerA (.call (.ref h) ⟨[.ref a],[]⟩) (λr s'=>r=.ok (.ret (.bool true))/\OldK b.heap s'.heap/\s'.os=b.os/\AllBare s'.gens) b):
  WalkO q c z A l.row.toRowW d [] (λf vs=>PySem.call f vs):=by
 intro w s₀ b mg t G Y h o u m e H kV I hd v B x J args Zt as i C L y M
 obtain rfl:H=.none:=Dflts.none B s
 obtain rfl:kV=.none:=Dflts.noKw B
 obtain⟨a,vs,p,rfl,rfl,j,g,k⟩:=gt E i y
 refine enter_call (codeAny_mono (call w s₀ b mg t h o u m e a vs p G Y I (fd_plain hd) v x j g k J) λr s' N=>?_)
 obtain⟨rfl,O,Q,T⟩:=N
 exact⟨.inl ⟨.bool true,.bool true,[],rfl,λ_=>rfl,.bool true,gu l _,λ_=>⟨List.Pairwise.nil,λ_ U=>(nomatch U)⟩⟩,O,Q,T⟩
section
variable{prog:A4}{w:Aj}{A:Ak}{E:Aa->Ab->Prop}{s:Ab}{K:Frag}
end
end Att
namespace L2
open PySem PySem.Spec PyProof.Rows
theorem PU:∀{vs:List Aa}{a:List Int},IntsAre vs a->Ap (a.map V.int) vs
 |_,_,.nil=>.nil
 |_,_,.cons n t h=>.cons ⟨t,rfl⟩ (PU h)
def PV(H:Hp):Prop:=∀b,H b=none\/∃o a,H b=some (.frz o (.lst a))
theorem gv{P:A4}{w:Aj}{K:As}{mg I:Ae->Option Aa}{CX:EI}{k:Nat}{J a:Ac}{fd:Bi}{x:Ae}{sp:Sp}{c:Ab}{vs:List Aa}{j:List Int}
  (U:K.In c.heap) (l:c.heap.Ns C5 mg) (f:c.heap.Ns builtinsNs I) (L:∀x:Ae,x≠"__name__"->I x=Ep x) (p:c.heap.NoLimit) (hg:c.gens=#[])
  (G:c.heap.get? a=some {cls:=.type "list",data:=.seq vs.toArray}) (Y:IntsAre vs j) (hl:j.length<=AG) (hr:Bf k callerA)
  (F:∀base:Al,K.In base->base.Ns C5 mg->Az P w K mg base CX k J fd [x] sp) (i:∀(s:Ab) (u:Aa),BindsTo s fd ⟨[u],[]⟩ [(x,u)])
  (M:∀H:Hp,PV H->BE K H a (j.map V.int)->sp [.ref a] H (λv _=>v=.bl true) λ_ _ _=>False)
  (N:∀H e s',CX [] H c (λ_ _ _=>False) e s'->False):
  codeAny (Af P w) callerA (.call (.ref J) ⟨[.ref a],[]⟩) (λr s'=>r=.ok (.ret (.bool true))/\OldK c.heap s'.heap/\s'.os=c.os/\AllBare s'.gens) c:=by
 have rv:=PU Y
 have t:=Y.length
 have core:∀H:Hp,PV H->BE K H a (j.map V.int)->Cg P w H c.heap->(∀b,H b≠none->b=a)->(H a≠none->K.lookup a=none) ->
   codeAny (Af P w) callerA (.call (.ref J) ⟨[.ref a],[]⟩) (λr s'=>r=.ok (.ret (.bool true))/\OldK c.heap s'.heap/\s'.os=c.os/\AllBare s'.gens) c:=by
  intro H hO hS hok hA hK
  have base_of:∀{b:Ac} {o:AM},c.heap.get? b=some o->H b=none->(GS c.heap H).get? b=some o:=λe n=>dy e n
  have O:∀{b:Ac} {o:AM} {y:Array BH} {A:Nat},c.heap.get? b=some o->o.data=.dict y A->H b=none:=λ{b o y A} e d=>by
   cases q:H b with
   |none=>rfl
   |some u=>
    have Q:b=a:=hA b (by rw[q];simp)
    subst Q
    rw[G]at e;cases e
    have d':Data.seq vs.toArray _=Data.dict y A:=d
    cases d'
  have g:∀{b:Ac} {m:Ae->Option Aa},c.heap.Ns b m->(GS c.heap H).Ns b m:=λ{b m} ⟨o,y,A,e,d,r⟩=>⟨o,y,A,base_of e (O e d),d,r⟩
  have B:K.In (GS c.heap H):=λb o e=>base_of (U b o e) (by
   cases q:H b with
   |none=>rfl
   |some u=>
    have Q:b=a:=hA b (by rw[q];simp)
    subst Q
    rw[hK (by rw[q];simp)]at e;cases e)
  have hM:Mod K mg (GS c.heap H):=⟨B,g l,⟨I,g f,L⟩,let⟨mc,h1,h2⟩:=p;⟨mc,g h1,h2⟩⟩
  have e0:C7 P w K mg (GS c.heap H) callerA [] c H:=⟨rfl,hM,λb o e=>dz e,Nat.le_of_eq (dw _ _),trivial,λb f=>absurd (show b∈([]:List Ac)from f) (by simp),hok,.of_eq hg⟩
  refine codeAny_mono ((F _ B (g l)).run callerA [] c H ⟨[.ref a],[]⟩ [.ref a] [.ref a] _ _ hr e0 (i c (.ref a)) (.cons rfl .nil) (M H hO hS)) λr s' h=>?_
  cases r with
  |error e=>exact(N H e s' h).elim
  |ok fl=>
   cases fl with
   |next=>exact BW h
   |brk=>exact BW h
   |cont=>exact BW h
   |ret u=>
    obtain⟨v,H',os,bare,un,C,r',q⟩:=h
    have q':v=.bl true:=q
    subst q'
    obtain rfl:u=Value.bool true:=r'
    refine⟨rfl,OldK.of_keep λb o e=>?_,os,bare⟩
    cases q:H b with
    |none=>exact un.keep b o e q (by intro z;exact absurd (show b∈([]:List Ac)from z) (by simp)) (by simp)
    |some u=>
     rcases hO b with z|⟨ob,xs,z⟩
     ·rw[q]at z;cases z
     ·have z2:=un.frzs b ob _ z
      obtain⟨e1,_⟩:=hok b _ z
      obtain⟨e2,_⟩:=C b _ z2
      rw[e]at e1;cases e1
      exact e2
 cases T:K.lookup a with
 |some o=>
  have e:=U a o T
  rw[G]at e
  cases e
  refine core (λ_=>none) (λ_=>.inl rfl) (.inr ⟨_,vs.toArray,_,T,rfl,rfl,rfl,by rw[BF,t];exact hl,by simpa using rv⟩) (λb u z=>by have E:(none:Option HO)=some u:=z;cases E) (λb z=>absurd rfl z) λz=>absurd rfl z
 |none=>
  refine core (λb=>if b=a then some (.frz {cls:=.type "list",data:=.seq vs.toArray} (.lst (j.map V.int)))else none) (λb=>?_) (.inl (.inr ⟨{cls:=.type "list",data:=.seq vs.toArray},if_pos rfl⟩)) (λb u z=>?_) (λb z=>?_) λ_=>T
  ·by_cases f:b=a
   ·exact .inr ⟨_,_,if_pos f⟩
   ·exact .inl (if_neg f)
  ·by_cases f:b=a
   ·have E:=(if_pos f).symm.trans z
    cases E
    subst f
    exact⟨G,by rw[BY];exact hl,vs,_,rv,G⟩
   ·have E:=(if_neg f).symm.trans z
    cases E
  ·by_cases f:b=a
   ·exact f
   ·exact absurd (if_neg f) z
theorem walk_of{l:PySem.W.OpenLaw}{n k:Nat}{q:A4}{i:List Ae}{J:(Ae->Option Aa)->Al->Prop}{E:Aj->Al->Prop}{d:DefRec}{K:Params->As}{CX:Aj->EI}{sp:Aj->Sp}{x:Ae}
  (L:l.most=some n) (y:n<=AG) (z:d.params.defaults=[]) (M:Bf k callerA)
  (N:∀(w:Aj) (h:Al),E w h->(K w.params).In h)
  (F:∀(w:Aj) (mg:Ae->Option Aa) (r:Ac) (h:Al),(K w.params).In h->h.Ns C5 mg->mg d.name=some (.ref r) ->
   ∃fd:Bi,(∀(s:Ab) (u:Aa),BindsTo s fd ⟨[u],[]⟩ [(x,u)]) /\
    ∀base:Al,(K w.params).In base->base.Ns C5 mg->Az l.prog w (K w.params) mg base (CX w) k r fd [x] (sp w))
  (A:∀(w:Aj) (H:Hp) (a:Ac) (t:List Int),t.length<=n->PV H->BE (K w.params) H a (t.map V.int)->sp w [.ref a] H (λv _=>v=.bl true) λ_ _ _=>False)
  (B:∀(w:Aj) (H:Hp) (s:Ab) (e:Aa) (s':Ab),CX w [] H s (λ_ _ _=>False) e s'->False):
  PySem.W.WalkO q i J E l.row.toRowW d [] (λf vs=>PySem.call f vs):=by
 refine Att.attach_call L z λw s₀ m mg mb r o pm cd O a vs t G Y ho hd Q C p j c U=>?_
 have I:=N w _ Y
 obtain⟨fd,hb,hF⟩:=F w mg r _ I G.T.g C
 exact gv I G.T.g G.T.b G.T.builtins G.T.nolimit U p j (CK c y) M hF hb (λH hO hS=>A w H a t c hO hS) λH e s'=>B w H m e s'
def Ix(s:Ay):Arguments:=match s with
 |.FunctionDef _ a _ _ _ _ _ _ _ _=>a
 |_=>{posonlyargs:=[],args:=[],vararg:=none,kwonlyargs:=[],kw_defaults:=[],kwarg:=none,defaults:=[]}
def FD(s:Ay):List Ay:=match s with
 |.FunctionDef _ _ b _ _ _ _ _ _ _=>b
 |_=>[]
def Zm(s:Ay):Scope:=match s with
 |.FunctionDef _ _ _ _ _ _ a _ _ _=>a
 |_=>{kind:=.function,names:=[],isGenerator:=false,isCoroutine:=false}
abbrev Bh:EI:=λ_ _ _ _ _ _=>False
abbrev E0:XK:=λ_ _ _=>False
theorem U0{X:Cx}:KW Bh X E0:=λ_ _ _ _ _ _ _ h=>h.elim
structure Iy(K:As)(x qual:Ae)(st:Ay)(f:Ac)(fd:Bi):Prop where
 ex:∃(oc:Aa) (od:Option Ac) (kV doc pm:Aa) (an:Option Ac) (cdv ct:Aa) (osl:Array (Option Aa)),
  fd=Hu x qual (Ix st) (FD st) (Zm st) .none kV doc pm an cdv ct/\K.lookup f=some ⟨oc,od,.func fd,osl⟩/\PySem.W.codeIn K cdv qual=true
 kp:KY K (.ref f)=true
section
variable{P:A4}{w:Aj}{K:As}{mg:Ae->Option Aa}{base:Al}
theorem Iy.ok{x a:Ae}{st:Ay}{f:Ac}{fd:Bi}{N ps:List Ae}{k:Nat}{sp:Sp}(F:Iy K x a st f fd)(S:ZG N ps (Zm st))(len:∀vs H Q E,sp vs H Q E->vs.length=ps.length)
  (c:∀(b:Aa) (A:Ak) (outer:List Env) (s:Ab) (H:Hp) (vs:List V) (Q:VK) (E:XK),Bf k (A.deeper (envOfC a (Zm st) s.heap.objs.size f b))->sp vs H Q E ->
   ∃t,Er (FX Bh P w K mg base N a (Zm st) f b A outer s H E).nox (FD st) t/\t {nx:=λ_ H'=>Q .non H',rt:=Q} (FC N vs) H):Az P w K mg base Bh (k+1) f fd ps sp:=by
 obtain⟨m,n,kV,g,o,p,b,ct,i,rfl,j,d⟩:=F.ex
 refine UM j d S len λA outer s H vs Q E l e=>?_
 obtain⟨t,h,q⟩:=c b A outer s H vs Q E l e
 exact⟨t,h.nox,q⟩
theorem gw{x a:Ae}{st:Ay}{f:Ac}{i:Aa}{j g:Option Ac}{e:Array (Option Aa)}{kV d h b ct:Aa}(l:K.lookup f=some ⟨i,j,.func (Hu x a (Ix st) (FD st) (Zm st) .none kV d h g b ct),e⟩)
  (c:PySem.W.codeIn K b a=true) (k:KY K (.ref f)=true):Iy K x a st f (Hu x a (Ix st) (FD st) (Zm st) .none kV d h g b ct):=⟨⟨i,j,kV,d,h,g,b,ct,e,rfl,l,c⟩,k⟩
end
theorem gy{n:Nat}(h:n<=1000):n<AG:=PX h (by decide)
section
variable{X:Cx}
end
def Am(H H':Hp):Prop:=∀b o,H b=some o->H' b=some o
theorem Am.refl(H:Hp):Am H H:=λ_ _ h=>h
theorem Am.trans{H d e:Hp}(a:Am H d)(b:Am d e):Am H e:=λc o h=>b c o (a c o h)
theorem Am.free{H H':Hp}(e:Am H H'){l:Ac}(h:H' l=Option.none):H l=Option.none:=by
 cases q:H l with
 |none=>rfl
 |some o=>
  rw[e l o q]at h
  cases h
theorem Am.seq{K:As}{H H':Hp}{a:Ac}{xs:List V}(e:Am H H')(h:BE K H a xs):BE K H' a xs:=by
 rcases h with(h|⟨o,h⟩)|h
 ·exact .inl (.inl (e _ _ h))
 ·exact .inl (.inr ⟨o,e _ _ h⟩)
 ·exact .inr h
def Ek(env:Env):List (Ae×EJ)->List (Ae×Ac)->List (Ae×Ac)
 |[],a=>a
 |(n,k)::r,a=>if k=EK then Ek env r ((n,(env.cells.lookup n).getD 0)::a)else Ek env r a
theorem U1{scope:Scope}{env:Env}(h:∀x∈scope.names,x.2=.free->∃c,env.cells.lookup x.1=some c):
  closureFor scope env=AQ (Ek env scope.names []):=by
 have all:∀(l:List (Ae×EJ)) (b:List (Ae×Ac)),(∀x∈l,x.2=.free->∃c,env.cells.lookup x.1=some c) ->
   (forIn l b (λ(x:Ae×EJ) (b:List (Ae×Ac))=>if(x.2==EK)=true then(do let a <- cellOf env x.1;AQ (ForInStep.yield ((x.1,a)::b)))else AQ (ForInStep.yield b)):Sem (List (Ae×Ac)))=AQ (Ek env l b):=by
  intro l
  induction l with
  |nil=>intro b _;rfl
  |cons x l j=>
   intro b f
   obtain⟨n,k⟩:=x
   rw[Ju]
   have g:=λb=>j b (λy m=>f y (Bt _ m))
   by_cases d:k=.free
   ·subst d
    obtain⟨c,i⟩:=f (n,.free) BA rfl
    have e:cellOf env n=AQ c:=by unfold cellOf;simp only[i]
    simp only[beq_self_eq_true,if_true,e,pure_bind,g,Ek,i,MH]
   ·have o:(k==EK)=false:=by simpa using d
    simp only[o,DS,if_false,pure_bind,g,Ek,d]
 have:=all scope.names [] h
 simp only[closureFor]
 rw[<- bind_pure (AQ (Ek env scope.names []):Sem _),<- this]
theorem PY{env:Env}:∀(l:List (Ae×EJ))(a:List (Ae×Ac)),(∀x∈l,x.2=.free->∃c,env.cells.lookup x.1=some c) ->
  (∀p∈a,env.cells.lookup p.1=some p.2)->∀p∈Ek env l a,env.cells.lookup p.1=some p.2
 |[],a,_,h=>h
 |(n,k)::r,a,d,h=>by
  have f:∀x∈r,x.2=.free->∃c,env.cells.lookup x.1=some c:=λy i=>d y (Bt _ i)
  by_cases g:k=.free
  ·subst g
   obtain⟨c,j⟩:=d (n,.free) BA rfl
   simp only[Ek,if_true]
   refine PY r _ f λp b=>?_
   rcases Bv.mp b with e|b
   ·subst e;simp only[j,MH]
   ·exact h p b
  ·simp only[Ek,g,if_false]
   exact PY r a f h
theorem PZ{env:Env}:∀(l:List (Ae×EJ))(a:List (Ae×Ac))(x:Ae),((x,EK)∈l\/∃c,(x,c)∈a)->∃c,(x,c)∈Ek env l a
 |[],a,x,h=>by
  rcases h with h|h
  ·cases h
  ·exact h
 |(n,k)::r,a,x,h=>by
  by_cases b:k=.free
  ·subst b
   simp only[Ek,if_true]
   refine PZ r _ x ?_
   rcases h with h|⟨c,h⟩
   ·rcases Bv.mp h with e|h
    ·cases e;exact .inr ⟨_,BA⟩
    ·exact .inl h
   ·exact .inr ⟨c,Bt _ h⟩
  ·simp only[Ek,b,if_false]
   refine PZ r a x ?_
   rcases h with h|h
   ·rcases Bv.mp h with e|h
    ·cases e;exact absurd rfl b
    ·exact .inl h
   ·exact .inr h
theorem U2{a:Type}:∀{l:List (Ae×a)}{x:Ae}{c:a},(x,c)∈l->∃d,l.lookup x=some d
 |[],_,_,h=>by cases h
 |(n,b)::r,x,c,h=>by
  rw[MI]
  cases e:x==n with
  |true=>exact⟨b,rfl⟩
  |false=>
   rcases Bv.mp h with z|h
   ·cases z;simp at e
   ·exact U2 h
structure Hw(own outs:List Ae)(sc osc:Scope):Prop where
 kind:sc.kind=.function
 nocell:∀x∈sc.names,x.2≠.cell
 free:∀x∈sc.names,x.2=.free->osc.names.lookup x.1=some .cell\/osc.names.lookup x.1=some .free
 loc:∀x∈sc.names,x.2=.local->sc.names.lookup x.1=some .local
 out:∀x∈outs,sc.names.lookup x=some .free
 nd:(own++outs).Nodup
theorem CL{env:Env}:∀{names:List (Ae×EJ)}{x:Ae},names.lookup x=some .free ->
  ((names.map λ(n,k)=>if(k==EK&&env.scope.kind==.function&&env.kindOf n==some .cell)then(n,Hx)else(n,k)).lookup x=some .cell \/
    (names.map λ(n,k)=>if(k==EK&&env.scope.kind==.function&&env.kindOf n==some .cell)then(n,Hx)else(n,k)).lookup x=some .free)
 |[],_,h=>by simp at h
 |(n,k)::r,x,h=>by
  have b:=@CL env r x
  rw[AY]
  by_cases c:(k==EK&&env.scope.kind==.function&&env.kindOf n==some .cell)=true
  ·rw[show(match((n,k):Ae×EJ)with|(n,k)=>if(k==EK&&env.scope.kind==.function&&env.kindOf n==some .cell)then(n,Hx)else(n,k))=(n,Hx)from if_pos c]
   rw[MI]at h ⊢
   cases a:x==n with
   |true=>exact .inl rfl
   |false=>rw[a]at h;exact b h
  ·rw[show(match((n,k):Ae×EJ)with|(n,k)=>if(k==EK&&env.scope.kind==.function&&env.kindOf n==some .cell)then(n,Hx)else(n,k))=(n,k)from if_neg c]
   rw[MI]at h ⊢
   cases a:x==n with
   |true=>rw[a]at h;exact .inr h
   |false=>rw[a]at h;exact b h
theorem Cd{env:Env}:∀{names:List (Ae×EJ)}{x:Ae}{k:EJ},k=.cell\/k=.free->(∀y∈names,y.2≠.cell) ->
  (names.map λ(n,k)=>if(k==EK&&env.scope.kind==.function&&env.kindOf n==some .cell)then(n,Hx)else(n,k)).lookup x=some k->(x,EK)∈names
 |[],_,_,_,_,h=>by simp at h
 |(n,j)::r,x,k,a,f,h=>by
  have g:=@Cd env r x k a λy i=>f y (Bt _ i)
  rw[AY]at h
  by_cases c:(j==EK&&env.scope.kind==.function&&env.kindOf n==some .cell)=true
  ·rw[show(match((n,j):Ae×EJ)with|(n,k)=>if(k==EK&&env.scope.kind==.function&&env.kindOf n==some .cell)then(n,Hx)else(n,k))=(n,Hx)from if_pos c]at h
   rw[MI]at h
   cases b:x==n with
   |true=>
    have e:x=n:=by simpa using b
    have d:j=.free:=by
     simp only[Dj,beq_iff_eq]at c
     exact c.1.1
    subst e d
    exact BA
   |false=>rw[b]at h;exact Bt _ (g h)
  ·rw[show(match((n,j):Ae×EJ)with|(n,k)=>if(k==EK&&env.scope.kind==.function&&env.kindOf n==some .cell)then(n,Hx)else(n,k))=(n,j)from if_neg c]at h
   rw[MI]at h
   cases b:x==n with
   |true=>
    rw[b]at h
    have e:x=n:=by simpa using b
    have d:j=k:=Fy h
    subst e d
    rcases a with a|a
    ·exact absurd a (f _ BA)
    ·subst a;exact BA
   |false=>rw[b]at h;exact Bt _ (g h)
def Du(X:Cx)(own a:List Ae)(scope:Scope)(C:Ac)(c:Ab)(d:Hp)(e:List Ac)(b:List (Ac×AM)):Cx where
 prog:=X.prog
 w:=X.w
 K:=X.K
 mg:=X.mg
 base:=X.base
 A:=X.A
 N:=own++a
 s₀:=c
 H₀:=d
 env:=compEnvC scope (Ek X.env scope.names []) C X.env
 outer:=X.stack
 stack:=X.stack
 ex:=e
 fn:=λ_=>false
 calm:=X.calm
 pn:=X.pn++b
 xe:=λ_ _=>False
def Fl(X:Cx)(b:List Expr)(e:TT):Prop:=
 ∀(a:List (Ac×AM)) (s:Ab) (d:St) (H:Hp) (Q:Bool->Hp->Prop),Inv X a d H s->e d H Q ->
  wpAny (Af X.prog X.w) X.A (forIn b true λc r=>if r=true then do let ok <- isTrue c X.env (AC c X.env);AQ (ForInStep.yield ok)else AQ (ForInStep.yield r)) (TP X a d Q) X.xe s
def gz:TT:=λ_ H Q=>Q true H
theorem gA{X:Cx}:Fl X [] gz:=λ_ _ _ H _ I h=>wpAny_tests_nil ⟨H,I,h⟩
theorem gB{X:Cx}{c:Expr}{b:TT}(h:PT X c b):Fl X [c] b:=λa s d H Q I q=>wpAny_tests_one (h a s d H Q I q)
def Et(k:Nat)(a:List Nat)(σ:St):St:=DH k none++a.map λj=>(σ[j]?).join
def U3(k:Nat)(e:List Nat)(g:TG)(m:TT)(o:TE)(J:It)(σ:St)(H:Hp)(Q:VK):Prop:=
 ∃(n:Nat) (W:Nat->List V->Hp->Prop),W 0 [] H/\∀i c d,W i c d ->
  (J.stop i d/\c.length<=AG/\∀p,d p=none->Q (.ref p) (A3 d p (.lst c))) \/
  (J.go i d/\i<n/\c.length<AG/\∃N:List V->Hp->Prop,(∀f h,N f h->W (i+1) f h)/\∀x j,J.yld i d x j->g x (Et k e σ) j λa q=>a.drop k=(Et k e σ).drop k /\
   m a q λb l=>if b=true then o a l λy r=>N (c++[y]) r else N c l)
def P0(k:Nat)(a:List Nat)(c:TI)(g:TG)(d:TT)(e:TE):TE:=λb H Q=>c b H λJ f=>U3 k a g d e J b f Q
def EL(a:List Aa)(n:Nat):AM:={cls:=.type "list",data:=.seq a.toArray n}
theorem Cg.track{P:A4}{w:Aj}{H:Hp}{h:Al}{a:Ac}{o:HO}(x:Cg P w H h)(d:H a=none)(new:Bl P w (A3 H a o) h a o):Cg P w (A3 H a o) h:=λb u e=>by
 by_cases f:b=a
 ·subst f;rw[Ef]at e;cases e;exact new
 ·rw[ZK f]at e
  exact(x b u e).stay (λc v _ q=>q) (λc q=>by rw[ZK (Eo q d)];exact q) λc g q=>by rw[ZK (Eo q d)];exact q
theorem U4{X:Cx}{f:List (Ac×AM)}{σ:St}{H2:Hp}{a:Ab}{tg elt iter:Expr}{ifs:List Expr}{scope:Scope}{pos:Bc}{J:It}{M:List Ac}{it:Ac}{tn:Nat->Al->Prop}
  {own I:List Ae} {U:List Nat} {g:TG} {tt:TT} {te:TE} {Q:VK} {E:Aa->Ab->Prop} {RR:Aa->Ac->Result->Ab->Prop}
  (S:Hw own I scope X.env.scope) (hox:U.map (λj=>X.N[j]?)=I.map some) (hc:X.calm=true)
  (hg:∀C a H2 M f,PG (Du X own I scope C a H2 M f) tg g)
  (ht:∀C a H2 M f,Fl (Du X own I scope C a H2 M f) ifs tt)
  (he:∀C a H2 M f,PE (Du X own I scope C a H2 M f) elt te)
  (B:Inv X f σ H2 a) (T:Gn X.prog X.w X.K tg J M it tn) (st:tn 0 a.heap) (f2:∀b∈M,Fh X f H2 b)
  (h:U3 own.length U g tt te J σ H2 Q)
  (hRR:∀(C:Ac) (s':Ab) (m:Ae->Option Aa) (H':Hp),s'.heap.Ns C m->Inv X f σ H' s'->H' C=none->C≠X.env.locals->X.s₀.heap.objs.size<=C ->
   (∀x c,X.env.cells.lookup x=some c->c≠C)->(∀p∈X.pn++f,p.1≠C)->Q (.ref a.heap.objs.size) H'->RR (.ref a.heap.objs.size) C (.ok .next) s'):
  wpAny (Af X.prog X.w) X.A (newList []) (λacc s₃=>wpAny (Af X.prog X.w) X.A (newFunctionEnv scope X.env.globals (Ek X.env scope.names []) [] X.env.qual none .none (some X.env)) (λcenv s₄=>
   codeAny (Af X.prog X.w) X.A (.compStart (.ListComp elt [⟨tg,iter,ifs,0⟩] scope pos) 0 (.ref it) acc {cenv with scope:=relabel scope X.env}) (RR acc cenv.locals) s₄) E s₃) E a:=by
 obtain⟨n,W,w0,turn⟩:=h
 refine FZ (wpAny_newFunctionEnv S.nocell (by intro y hy;simp at hy) (λh₁ O L=>?_) S.kind)
 dsimp only at O L ⊢
 generalize hP:a.heap.push {cls:=.type "list",dict:=none,data:=.seq ([]:List Aa).toArray}=t at O L ⊢
 have hC:t.objs.size=a.heap.objs.size+1:=by rw[<- hP,E3]
 generalize hCC:t.objs.size=C at O L hC ⊢
 have hDC:a.heap.objs.size≠C:=by rw[hC];exact Cs (Nat.lt_succ_self _)
 have H:a.heap.objs.size<C:=by rw[hC];exact Nat.lt_succ_self _
 have old:∀b o,a.heap.get? b=some o->h₁.get? b=some o:=λb o e=>
  L.extBut b o (Cs (Hy (By e) H)) (Bk _ (hP ▸ Bk _ e))
 have hacc:h₁.get? a.heap.objs.size=some (EL [] 0):=L.extBut _ _ hDC (Bk _ (hP ▸ B0 _ rfl))
 have hcells:∀x∈scope.names,x.2=.free->∃c,X.env.cells.lookup x.1=some c:=λx hx hf=>B.ok.has x.1 (S.free x hx hf)
 have clX:∀x c,(Ek X.env scope.names []).lookup x=some c->X.env.cells.lookup x=some c:=λx c e=>
  PY scope.names [] hcells (λp t=>by cases t) (x,c) (Jp e)
 have clHas:∀x,(x,EK)∈scope.names->∃c,(Ek X.env scope.names []).lookup x=some c:=λx hx=>by
  obtain⟨c,hc⟩:=PZ (env:=X.env) scope.names [] x (.inl hx)
  exact U2 hc
 have fpLt:∀b∈M,b<a.heap.objs.size:=λb G=>by
  obtain⟨o,e,_⟩:=T.obj 0 _ st b G
  exact By e
 have cLt:∀x c,X.env.cells.lookup x=some c->c<a.heap.objs.size:=λx c e=>by
  obtain⟨v,q⟩:=B.cell x c e
  exact q.lt
 have fpStk:∀b∈M,b∉Cc X.stack:=λb G z=>by
  rcases Bv.mp (B.stkSub b z)with e|z
  ·exact(f2 b G).2.1 e
  ·exact(f2 b G).2.2.1 z
 have pinLt:∀p∈X.pn++f,p.1<a.heap.objs.size:=λp t=>By (B.pin p t).1
 have pinStk:∀p∈X.pn++f,p.1∉Cc X.stack:=λp t z=>by
  rcases Bv.mp (B.stkSub _ z)with e|z
  ·exact(B.pin p t).2.2.1 e
  ·exact(B.pin p t).2.2.2.1 z
 have fsLt:∀b∈Cc X.stack,b<a.heap.objs.size:=λb G=>by
  obtain⟨_,o,ho,_⟩:=B.stack.mem G
  exact By ho
 let Y:Cx:=Du X own I scope C a H2 M f
 have okY:Y.Ok:={
  mod:=B.ok.mod
  kind:=S.kind
  glob:=B.ok.glob
  blt:=B.ok.blt
  above:=Jh H
  inj:=λx y c h1 h2=>B.ok.inj x y c (clX x c h1) (clX y c h2)
  has:=λx hx=>by
   refine clHas x ?_
   rcases hx with hx|hx
   ·exact Cd (env:=X.env) (.inl rfl) S.nocell hx
   ·exact Cd (env:=X.env) (.inr rfl) S.nocell hx
  cab:=λx c hf _=>absurd (show false=true from hf) Hs
  hd:=B.ok.hd
  frames:=B.ok.frames
  stk:=.inl rfl
  exf:=λb G=>⟨Cs (Hy (fpLt b G) H),λx c e=>(f2 b G).2.2.2.2.1 x c (clX x c e)⟩
  bs:=B.bs
  bsz:=CK B.ok.bsz B.sz
  noex:=λb o e G=>by
   rcases(f2 b G).2.2.2.1 with z|z
   ·exact B.ok.noex b o e z
   ·exact absurd (Ca (By e) (CK B.ok.bsz z)) (FT _)
  exfs:=fpStk
  funs:=B.stack
  frf:=B.stkFree}
 have hCH:∀H':Hp,Cg X.prog X.w H' h₁->True:=λ_ _=>trivial
 have lenS:(Et own.length U σ).length=Y.N.length:=by
  have e:=congrArg List.length hox
  simp only[BY]at e
  show(DH own.length none++U.map _).length=(own++I).length
  rw[Fj,Fj,Jr,BY,e]
 have I4:Inv Y [(a.heap.objs.size,EL [] 0)] (Et own.length U σ) H2 {a with heap:=h₁}:={
  ok:=okY
  os:=rfl
  bare:=B.bare
  base:=Un.kept old
  loc:=by
   refine⟨_,O,λi x v e1 e2 e3=>?_⟩
   have hi:own.length<=i:=by
    apply Nat.le_of_not_lt
    intro hlt
    unfold Et at e2
    rw[Jq (by rw[Jr];exact hlt),Iu]at e2
    rw[if_pos hlt]at e2
    cases e2
   unfold Et at e2
   rw[PF (by rw[Jr];exact hi),Jr,Dy]at e2
   have e1':I[i-own.length]?=some x:=by
    have e1:(own++I)[i]?=some x:=e1
    rwa[PF hi]at e1
   cases ej:U[i-own.length]? with
   |none=>rw[ej]at e2;cases e2
   |some j=>
    rw[ej]at e2
    have e2':(σ[j]?).join=some v:=Fy e2
    have e2'':σ[j]?=some (some v):=by
     cases eσ:σ[j]? with
     |none=>rw[eσ]at e2';cases e2'
     |some z=>rw[eσ]at e2';exact congrArg some e2'
    have eN:X.N[j]?=some x:=by
     have q:=congrArg (λl=>l[i-own.length]?) hox
     simp only[Dy,ej,e1',Hz]at q
     exact Fy q
    have hfree:scope.names.lookup x=some .free:=S.out x (Gp e1')
    have hmem:(x,EK)∈scope.names:=Jp hfree
    have hk:X.env.scope.names.lookup x=some .cell\/X.env.scope.names.lookup x=some .free:=S.free (x,.free) hmem rfl
    obtain⟨m,hn,hl⟩:=B.loc
    obtain⟨u,r,l⟩:=hl j x v eN e2'' (by rcases hk with hk|hk;exact .inr (.inl hk);exact .inr (.inr hk))
    refine⟨u,r,.inr ⟨CL (env:=X.env) hfree,?_⟩⟩
    obtain⟨c,ec⟩:=clHas x hmem
    refine⟨c,ec,?_⟩
    have ec':=clX x c ec
    rcases l with⟨k,_⟩|⟨_,c',e',o,ho,hd⟩
    ·rcases hk with hk|hk
     ·exact absurd (k.symm.trans hk) (by decide)
     ·exact absurd (k.symm.trans hk) (by decide)
    ·rw[ec']at e'
     cases e'
     exact⟨o,old _ _ ho,hd⟩
  cell:=λx c e=>by
   obtain⟨v,o,ho,hd⟩:=B.cell x c (clX x c e)
   exact⟨v,o,old _ _ ho,hd⟩
  free:=B.hok.fresh (Jh H)
  freeC:=λx c e=>B.freeC x c (clX x c e)
  pin:=λp t=>by
   rcases List.mem_append.mp t with t|t
   ·obtain⟨e,n,_,_,d⟩:=B.pin p t
    exact⟨old _ _ e,n,Cs (Hy (pinLt p t) H),pinStk p t,d⟩
   ·have e:p=(a.heap.objs.size,EL [] 0):=by simpa using t
    subst e
    refine⟨hacc,B.hok.fresh (BB _),hDC,λz=>absurd (fsLt _ z) (FT _),λv z=>?_⟩
    have z':Data.seq _ _=GX v:=z
    cases z'
  hok:=B.hok.kept old
  len:=lenS}
 have fpY:∀{H':Hp} {s:List Aa} {k:Nat},(∀b∈M,H' b=none)->∀b∈M,Fh Y [(a.heap.objs.size,EL s k)] H' b:=λ{H' s k} hn b G=>by
  refine⟨hn b G,Cs (Hy (fpLt b G) H),fpStk b G,.inl G,λx c e=>(f2 b G).2.2.2.2.1 x c (clX x c e),λp t=>?_⟩
  rcases List.mem_append.mp t with t|t
  ·exact(f2 b G).2.2.2.2.2 p t
  ·have e:p=(a.heap.objs.size,EL s k):=by simpa using t
   subst e
   exact FA (fpLt b G)
 have fin:∀(i:Nat) (ys:List V) (s:List Aa) (k:Nat) (H':Hp) (s':Ab),Inv Y [(a.heap.objs.size,EL s k)] (Et own.length U σ) H' s'->Ap ys s->ys.length<=AG ->
   Q (.ref a.heap.objs.size) (A3 H' a.heap.objs.size (.lst ys))->RR (.ref a.heap.objs.size) C (.ok .next) s':=λi ys s k H' s' I' rv hz q=>by
  obtain⟨m,hn,_⟩:=I'.loc
  obtain⟨eD,nD,_⟩:=I'.pin (a.heap.objs.size,EL s k) (C6 _ (by simp))
  have un:Un (Cc X.stack) M H2 H' a.heap s'.heap:=I'.base
  have neD:∀b o,a.heap.get? b=some o->b≠a.heap.objs.size:=λb o e=>Cs (By e)
  have neH:∀b o,H2 b=some o->b≠a.heap.objs.size:=λb o e=>Cs (B.hok.lt e)
  have un':Un (Cc X.stack) M H2 (A3 H' a.heap.objs.size (.lst ys)) a.heap s'.heap:=
   ⟨un.keep,un.slot,λb o e n hx=>by rw[ZK (neD b o e)];exact un.free b o e n hx,un.there,λb xs e=>by rw[ZK (neH b _ e)];exact un.tups b xs e,
    λb o u e=>by rw[ZK (neH b _ e)];exact un.frzs b o u e,λb ps e=>by rw[ZK (neH b _ e)];exact un.tbls b ps e⟩
  have hok':Cg X.prog X.w (A3 H' a.heap.objs.size (.lst ys)) s'.heap:=Cg.track I'.hok nD ⟨hz,s,k,rv,eD⟩
  have IX:Inv X f σ (A3 H' a.heap.objs.size (.lst ys)) s':=B.call' (ch:=M) I'.os un' hok' I'.bare λb G=>⟨(f2 b G).2.2.2.1,(f2 b G).2.1,(f2 b G).2.2.2.2.1,(f2 b G).2.2.2.2.2⟩
  refine hRR C s' m _ hn IX ?_ ?_ ?_ ?_ ?_ q
  ·rw[ZK (Br hDC)];exact I'.free
  ·exact FA (Hy B.lt H)
  ·exact CK B.sz (Jh H)
  ·exact λx c e=>Cs (Hy (cLt x c e) H)
  ·exact λp t=>Cs (Hy (pinLt p t) H)
 have loop:codeAny (Af X.prog X.w) X.A (.compLoop (.ListComp elt [⟨tg,iter,ifs,0⟩] scope pos) 0 (.ref it) (.ref a.heap.objs.size) Y.env) (RR (.ref a.heap.objs.size) C) {a with heap:=h₁}:=by
  refine codeAny_loop rfl (λk s'=>∃(i:Nat) (ys:List V) (s:List Aa) (c:Nat) (H':Hp),Inv Y [(a.heap.objs.size,EL s c)] (Et own.length U σ) H' s'/\Ap ys s/\tn i s'.heap/\(∀b∈M,H' b=none)/\W i ys H'/\k=n-i) (λk s' hI=>?_) n
   ⟨0,[],[],0,H2,I4,.nil,T.keep 0 _ _ st λb _ o e=>old b o e,λb G=>(f2 b G).1,w0,rfl⟩
  show wpAny _ X.A ((compTurn (.ListComp elt [⟨tg,iter,ifs,0⟩] scope pos) 0 (.ref it) (.ref a.heap.objs.size) Y.env).onRaise (λx=>do noteFrame x Y.env;theTreesLotGoes x)) _ _ s'
  refine wpAny_noted ?_
  rw[compTurn_list]
  obtain⟨i,ys,s,c,H',I',rv,st',fr',w',ek⟩:=hI
  rcases turn i ys H' w' with⟨stop,hz,q⟩|⟨go,hin,hz,N,hN,step⟩
  ·refine Ag (wpAny_standAt (Ag (Bb (T.done Y rfl rfl rfl hc i _ s' _ H' _ I' (fpY fr') st' stop) λr s1 ⟨hr,I1⟩=>?_)))
   subst hr
   obtain⟨_,nD,_⟩:=I1.pin (a.heap.objs.size,EL s c) (C6 _ (by simp))
   exact AE (fin i ys s c H' s1 I1 rv hz (q _ nD))
  ·refine Ag (wpAny_standAt (Ag (Bb (T.item Y rfl rfl rfl hc i _ s' _ H' _ I' (fpY fr') st' go) λr s1 ⟨u,hr,h1⟩=>?_)))
   subst hr
   refine Ag (Bb h1 λ_ s5 ⟨x,H5,I5,r5,y5,st5,fr5⟩=>?_)
   have I5':=I5.pinned (fpY fr5) (T.obj _ _ st5)
   refine Ag (wpAny_noRaise (Bb (hg C a H2 M f _ s5 _ H5 x u _ I5' r5 (step x H5 y5)) λ_ s6 ⟨σ6,H6,I6,dr6,q6⟩=>?_))
   refine Ag (wpAny_noRaise (Bb (ht C a H2 M f _ s6 σ6 H6 _ I6 q6) λok s7 ⟨H7,I7,q7⟩=>?_))
   have back:∀{H8:Hp} {s8:Ab} {its8:List Aa} {c8:Nat},Inv Y ([(a.heap.objs.size,EL its8 c8)]++Ip M s5.heap) σ6 H8 s8 ->
     Inv Y [(a.heap.objs.size,EL its8 c8)] (Et own.length U σ) H8 s8/\tn (i+1) s8.heap/\∀b∈M,H8 b=none:=λ{H8 s8 its8 c8} I8=>by
    refine⟨I8.unpinned.weak ?_ λj v e=>?_,T.keep _ _ _ st5 λb G o e=>(I8.pin (b,o) (C6 _ (C6 _ (MC G e)))).1,λb G=>?_⟩
    ·exact lenS.trans I8.len.symm
    ·have hj:own.length<=j:=by
      apply Nat.le_of_not_lt
      intro hlt
      unfold Et at e
      rw[Jq (by rw[Jr];exact hlt),Iu]at e
      rw[if_pos hlt]at e
      cases e
     have e':=congrArg (λl=>l[j-own.length]?) dr6
     simp only[MJ]at e'
     rw[show own.length+(j-own.length)=j by omega]at e'
     exact e'.trans e
    ·obtain⟨o,e,d⟩:=T.obj _ _ st5 b G
     exact(I8.pin (b,o) (C6 _ (C6 _ (MC G e)))).2.1
   cases ok with
   |false=>
    obtain⟨I8,st8,fr8⟩:=back I7
    exact AE ⟨rfl,n-(i+1),by omega,i+1,ys,s,c,H7,I8,rv,st8,fr8,hN _ _ q7,rfl⟩
   |true=>
    refine Ag (Ag (wpAny_noRaise (Bb (he C a H2 M f _ s7 σ6 H7 _ I7 q7) λy s8 ⟨z,H8,I8,r8,w8⟩=>?_)))
    obtain⟨eD,nD,neL,nF,dD⟩:=I8.pin (a.heap.objs.size,EL s c) (C6 _ (Jj _ (by simp)))
    have hl:=rv.length
    refine Ag (call_meets F.slot_list_append ⟨_,eD,rfl⟩ F.entry_list_append (F.args_list_append_2 _ _) (PySem.list_append _ s.toArray c y (by rw[BF];omega)) ⟨eD,?_⟩)
    obtain⟨n',q⟩:∃n',(s8.heap.update a.heap.objs.size (G2 (·.push y))).get? a.heap.objs.size=some (EL (s++[y]) n'):=by
     have q:=PySem.IsL.update eD (·.push y)
     rw[show s.toArray.push y=(s++[y]).toArray by simp]at q
     exact⟨_,q⟩
    have I9:Inv Y (Ip M s5.heap) σ6 H8 {s8 with heap:=s8.heap.update a.heap.objs.size (G2 (·.push y))}:=
     (I8.pins_of λp t=>I8.pin p (C6 _ (C6 _ t))).turned (t':=s8.toks) (it:=a.heap.objs.size) (λb o G e=>(K2 _ _ (Br G)).trans e) nD hDC (.inr (BB _))
      (λx c' e=>Cs (cLt x c' (clX x c' e))) λp t=>by
       rcases List.mem_append.mp t with t|t
       ·exact Cs (pinLt p t)
       ·exact Cs (fpLt _ (Ut t).1)
    have I10:Inv Y ([(a.heap.objs.size,EL (s++[y]) n')]++Ip M s5.heap) σ6 H8 {s8 with heap:=s8.heap.update a.heap.objs.size (G2 (·.push y))}:=I9.pins_of λp t=>by
     rcases List.mem_append.mp t with t|t
     ·have e:p=(a.heap.objs.size,EL (s++[y]) n'):=by simpa using t
      subst e
      exact⟨q,nD,neL,nF,λv z=>by
       have z':Data.seq _ _=GX v:=z
       cases z'⟩
     ·exact I9.pin p (C6 _ t)
    obtain⟨I11,st11,fr11⟩:=back I10
    exact AE (AE ⟨rfl,n-(i+1),by omega,i+1,ys++[z],s++[y],_,H8,I11,rv.append (.cons r8 .nil),st11,fr11,hN _ _ w8,rfl⟩)
 exact codeAny_compStart_list loop (T.self _ 0 _ _ _ (T.keep 0 _ _ st λb _ o e=>old b o e) loop)
section
variable{X:Cx}{tg elt iter:Expr}{ifs:List Expr}{scope:Scope}{pos:Bc}{oix:List Nat}{wi:TI}{g:TG}{tt:TT}{te:TE}
theorem gC(own c:List Ae)(oix:List Nat)(S:Hw own c scope X.env.scope)(t:oix.map (λj=>X.N[j]?)=c.map some)(L:X.calm=true)(M:PI X tg iter wi)
  (O:∀C l i k a,PG (Du X own c scope C l i k a) tg g)
  (U:∀C l i k a,Fl (Du X own c scope C l i k a) ifs tt)
  (Y:∀C l i k a,PE (Du X own c scope C l i k a) elt te)
  (hs:∀x,Iq iter X.env x=AQ x:=by intro _;rfl):
  PE X (.ListComp elt [⟨tg,iter,ifs,0⟩] scope pos) (P0 own.length oix wi g tt te):=by
 intro a s z H Q I h
 rw[eval_ListComp]
 refine wpAny_comprehension_free (use:=none) rfl hs (U1 λx hx hf=>I.ok.has x.1 (S.free x hx hf)) S.kind S.loc (Bb (M a s z H _ I h) λxv B n=>Bb n λitv E p=>?_)
 obtain⟨it,k,tn,J,i,e,I2,T,u,f2,d⟩:=p
 subst e
 refine U4 (RR:=λv C=>compPost (Af X.prog X.w) X.A X.xe none (EP X a z Q) v C) S t L O U Y I2 T u f2 d ?_
 intro C s' m H' hn I' hC hL h0 f r q
 exact⟨m,hn,λG y=>⟨.ref _,H',I'.turned (h':=G) (t':=s'.toks) (it:=C) (λb o hb e=>y.extBut b o hb e) hC hL (.inr h0) f r,rfl,q⟩⟩
theorem gD(own f:List Ae)(oix:List Nat){i:Nat}{x:Ae}{d l:Bc}(S:Hw own f scope X.env.scope)(M:oix.map (λj=>X.N[j]?)=f.map some)(hc:X.calm=true)
  (hN:X.N.Nodup) (O:X.N[i]?=some x) (hx:X.env.scope.names.lookup x=some .local) (hi:PI X tg iter wi)
  (hg:∀C B t u c,PG (Du X own f scope C B t u c) tg g)
  (ht:∀C B t u c,Fl (Du X own f scope C B t u c) ifs tt)
  (he:∀C B t u c,PE (Du X own f scope C B t u c) elt te)
  (U:Fg (.ListComp elt [⟨tg,iter,ifs,0⟩] scope pos) (some (.Name x d)) l.line X.env=AQ true:=by rfl)
  (hs:∀x,Iq iter X.env x=AQ x:=by intro _;rfl):
  PS X (.Assign [.Name x d] (.ListComp elt [⟨tg,iter,ifs,0⟩] scope pos) l) (Jl (P0 own.length oix wi g tt te) (Io i)):=by
 intro c s σ H D I h
 rw[exec_Assign_Name_used _ _ _ _ U]
 refine Ag (wpAny_standAt (Ag ?_))
 show wpAny _ X.A (do let _ <- comprehension (.ListComp elt [⟨tg,iter,ifs,0⟩] scope pos) scope X.env _ (newList []) false (AC iter X.env) (some (assign (.Name x d) X.env))) _ _ s
 refine Ag (Eg (wpAny_comprehension_free (use:=some (assign (.Name x d) X.env)) (Q:=λ_ z=>SP X c D .next z) rfl hs (U1 λy hy hf=>I.ok.has y.1 (S.free y hy hf)) S.kind S.loc
  (Bb (hi c s σ H _ I h) λxv s₁ E=>Bb E λitv n G=>?_)) (λ_ z hq=>AE (AE hq)) λ_ _ e=>e)
 obtain⟨it,u,tn,J,t,e,I2,T,Y,f2,p⟩:=G
 subst e
 refine U4 (RR:=λacc C=>compPost (Af X.prog X.w) X.A X.xe (some (assign (.Name x d) X.env)) (λ_ z=>SP X c D .next z) acc C) S M hc hg ht he I2 T Y f2 p ?_
 intro C z m H' hn I' hC hL h0 k L q
 show wpAny _ X.A (assign (.Name x d) X.env (.ref n.heap.objs.size)) _ _ z
 refine wpAny_assign_Name (Uh (v:=.ref n.heap.objs.size) I' hN O (.inl hx) rfl (λs'' I'' r=>?_) (.inr hx))
 obtain⟨a,r,ha⟩:=r
 have hCa:C≠a:=by
  rcases ha with e|e
  ·rw[e];exact hL
  ·exact Br (k _ _ e)
 exact⟨m,hn.sameBut r hCa,λh' hs'=>⟨_,H',I''.turned (h':=h') (t':=s''.toks) (it:=C) (λb o hb e=>hs'.extBut b o hb e) hC hL (.inr h0) k L,q⟩⟩
end
section
variable{K:As}{k:Nat}{oix:List Nat}{g:TG}{tt:TT}{te:TE}{σ:St}{H:Hp}{Q:VK}
end
def P1(x:Ae):It:=⟨λi _=>i<x.cps.size,λi H v a=>a=H/\∃c,x.cps[i]?=some c/\v=.str ⟨#[c]⟩,λi _=>x.cps.size<=i⟩
theorem gE{P:A4}{w:Aj}{K:As}{M:Expr}(it:Ac)(x:Ae)(t:Tok):Gn P w K M (P1 x) [it] it (λi h=>h.IsStrIter it "str_ascii_iterator" x t i) where
 mem:=by simp
 obj:=λi h st b g=>by
  have e:b=it:=by simpa using g
  subst e
  obtain⟨o,e,c,d⟩:=st
  exact⟨o,e,λv z=>by rw[d]at z;cases z⟩
 keep:=λi h l st k=>by
  obtain⟨o,e,r⟩:=st
  exact⟨o,k it (by simp) o e,r⟩
 item:=by
  intro X n p q J i f s L H E I m st u
  subst n p q
  obtain⟨y,A,N,B,C,G⟩:=m it (by simp)
  have a:i<x.cps.size:=u
  refine wpAny_pyNext_ascii_item st (c:=x.cps[i]) (by simp[a]) λl j O=>?_
  have Q:Inv X f L H {s with heap:=l,toks:=s.toks+1}:=I.turned (t':=s.toks+1) (λb o g e=>(O.2 b g).trans e) y A B C G
  obtain⟨o,e,c,d⟩:=id j
  exact⟨_,rfl,KP (s:={s with heap:=l,toks:=s.toks+1}) e c d (by decide) ⟨.str ⟨#[x.cps[i]]⟩,H,Q,⟨_,rfl⟩,⟨rfl,_,by simp[a],rfl⟩,j,λb g=>(m b g).1⟩⟩
 done:=by
  intro X n p q J i f s L H E I m st u
  subst n p q
  obtain⟨y,A,N,B,C,G⟩:=m it (by simp)
  have a:x.cps.size<=i:=u
  exact wpAny_pyNext_ascii_end (I.ok.hd J) st (by simp[a]) λl U=>⟨rfl,I.turned (t':=s.toks) (λb o g e=>U b o g e) y A B C G⟩
 self:=λ_ _ _ _ _ st h=>wpAny_pyIter_striter_ascii st h
theorem gF{P:A4}{w:Aj}{K:As}{M:Expr}(it:Ac)(x:Ae)(t:Tok):Gn P w K M (P1 x) [it] it (λi h=>h.IsStrIter it "str_iterator" x t i) where
 mem:=by simp
 obj:=λi h st b g=>by
  have e:b=it:=by simpa using g
  subst e
  obtain⟨o,e,c,d⟩:=st
  exact⟨o,e,λv z=>by rw[d]at z;cases z⟩
 keep:=λi h l st k=>by
  obtain⟨o,e,r⟩:=st
  exact⟨o,k it (by simp) o e,r⟩
 item:=by
  intro X n p q J i f s L H E I m st u
  subst n p q
  obtain⟨y,A,N,B,C,G⟩:=m it (by simp)
  have a:i<x.cps.size:=u
  refine wpAny_pyNext_wide_item st (c:=x.cps[i]) (by simp[a]) λl j O=>?_
  have Q:Inv X f L H {s with heap:=l,toks:=s.toks+1}:=I.turned (t':=s.toks+1) (λb o g e=>(O.2 b g).trans e) y A B C G
  obtain⟨o,e,c,d⟩:=id j
  exact⟨_,rfl,KP (s:={s with heap:=l,toks:=s.toks+1}) e c d (by decide) ⟨.str ⟨#[x.cps[i]]⟩,H,Q,⟨_,rfl⟩,⟨rfl,_,by simp[a],rfl⟩,j,λb g=>(m b g).1⟩⟩
 done:=by
  intro X n p q J i f s L H E I m st u
  subst n p q
  obtain⟨y,A,N,B,C,G⟩:=m it (by simp)
  have a:x.cps.size<=i:=u
  exact wpAny_pyNext_wide_end (I.ok.hd J) st (by simp[a]) λl U=>⟨rfl,I.turned (t':=s.toks) (λb o g e=>U b o g e) y A B C G⟩
 self:=λ_ _ _ _ _ st h=>wpAny_pyIter_striter_wide st h
section
variable{X:Cx}{tg:Expr}
def gG(a:TE):TI:=λb H R=>a b H λv c=>∃x,v=.str x/\R (P1 x) c
theorem gH{l:Expr}{g:TE}(k:PE X l g):PI X tg l (gG g):=by
 intro a s m H R I h
 refine Bb (k a s m H _ I h) λv c ⟨y,f,d,n,q1⟩=>?_
 obtain⟨x,e,q⟩:=q1
 subst e
 obtain⟨t,rfl⟩:=n
 have i:∀{o:AM} (b:Ac),b∈[c.heap.objs.size]->Fh X a f b:=λ{o} b p=>by
  have e:b=c.heap.objs.size:=by simpa using p
  subst e
  exact d.fpOk (BB _) (d.hok.fresh (BB _))
 cases j:x.cps.all (·<128)
 ·exact wpAny_pyIter_wide j ⟨c.heap.objs.size,[c.heap.objs.size],_,_,f,rfl,d.kept (t':=c.toks) λb o e=>Bk _ e,gF _ x t,⟨_,B0 _ rfl,rfl,rfl⟩,i (o:=default),q⟩
 ·exact wpAny_pyIter_ascii j ⟨c.heap.objs.size,[c.heap.objs.size],_,_,f,rfl,d.kept (t':=c.toks) λb o e=>Bk _ e,gE _ x t,⟨_,B0 _ rfl,rfl,rfl⟩,i (o:=default),q⟩
end
section
variable{X:Cx}
end
section
variable{X:Cx}
def gI:V->Option Int->Option Int->Hp->VK->Prop:=λx lo a H Q=>∃z,x=.str z/\z.length<=AG/\Q (.str (C8 z lo a)) H
theorem gJ:GY X gI:=by
 intro e s o H x v p r lo w y Q I m a n f h
 obtain⟨z,rfl,b,q⟩:=h
 obtain⟨t,rfl⟩:=m
 refine⟨"str",_,PySem.F.slot_str_getitem.lookup,typeIs_str s z t,?_⟩
 cases n with
 |none=>
  cases f with
  |none=>exact P2 (l:=none) (u:=none) (st:=none) a rfl (post_val_or_str ⟨CK (Txt.slice_le z _ _) b,λc k=>⟨.str (C8 z none none),H,I.tok _,⟨_,rfl⟩,q⟩⟩)
  |int j d=>exact P2 (l:=none) (u:=some (j,d)) (st:=none) a rfl (post_val_or_str ⟨CK (Txt.slice_le z _ _) b,λc k=>⟨.str (C8 z none (some j)),H,I.tok _,⟨_,rfl⟩,q⟩⟩)
 |int i g=>
  cases f with
  |none=>exact P2 (l:=some (i,g)) (u:=none) (st:=none) a rfl (post_val_or_str ⟨CK (Txt.slice_le z _ _) b,λc k=>⟨.str (C8 z (some i) none),H,I.tok _,⟨_,rfl⟩,q⟩⟩)
  |int j d=>exact P2 (l:=some (i,g)) (u:=some (j,d)) (st:=none) a rfl (post_val_or_str ⟨CK (Txt.slice_le z _ _) b,λc k=>⟨.str (C8 z (some i) (some j)),H,I.tok _,⟨_,rfl⟩,q⟩⟩)
end
theorem U5{bs:List Bool}:∀{us:List Aa},Ap (bs.map V.bl) us->LSm.BoolsAre us bs:=by
 induction bs with
 |nil=>intro us r;rw[Dd]at r;cases r;exact .nil
 |cons n d a=>
  intro us r
  rw[AY]at r
  cases r with
  |cons b c=>
   have e:_=Value.bool n:=b
   subst e
   exact .cons n (a c)
section
variable{X:Cx}
theorem U6(l:X.calm=true):Bd X (.builtin "all") (λxs H Q=>∃(a:Ac)(bs:List Bool),xs=[.ref a]/\BE X.K H a (bs.map V.bl)/\Q (.bl (bs.all id)) H):=by
 intro g s x H xs y Q I r h
 obtain⟨a,bs,rfl,m,q⟩:=h
 obtain⟨u,rfl,n⟩:=D3 r
 cases n
 obtain⟨c,o,p,z⟩:=I.list m
 have j:=U5 o
 have d:=p.isList
 have f:a<s.heap.objs.size:=by obtain⟨_,e,_⟩:=d;exact By e
 refine call_all_walk (MB d ?_)
 refine⟨s.heap.objs.size,[s.heap.objs.size,a],[s.heap.objs.size],c.toArray.size,_,_,λi=>(bs[i]?).getD true,rfl,Walks.list (A:=X.A.in1) (I.ok.hd l) _ a (Cs f) c.toArray,
  ⟨⟨_,B0 _ rfl,rfl,rfl⟩,d.push _⟩,λi v B C E t k=>?_,λG J w=>⟨.bl _,H,I.kept (LSm.kept_iter w),rfl,?_⟩⟩
 ·obtain⟨b,e,rfl⟩:=j.get i v (by simpa using t)
  simp only[e,MH]at k
  exact Im k
 ·have e:((A7 c.toArray.size).all λi=>(bs[i]?).getD true)=bs.all id:=by
   rw[BF,j.length];exact LSm.range_all bs
  rw[e]
  exact q
theorem gK(l:X.calm=true):Bd X (.builtin "any") (λxs H Q=>∃(a:Ac)(bs:List Bool),xs=[.ref a]/\BE X.K H a (bs.map V.bl)/\Q (.bl (bs.any id)) H):=by
 intro g s x H xs y Q I r h
 obtain⟨a,bs,rfl,m,q⟩:=h
 obtain⟨u,rfl,n⟩:=D3 r
 cases n
 obtain⟨c,o,p,z⟩:=I.list m
 have j:=U5 o
 have d:=p.isList
 have f:a<s.heap.objs.size:=by obtain⟨_,e,_⟩:=d;exact By e
 refine call_any_walk (MB d ?_)
 refine⟨s.heap.objs.size,[s.heap.objs.size,a],[s.heap.objs.size],c.toArray.size,_,_,λi=>(bs[i]?).getD false,rfl,Walks.list (A:=X.A.in1) (I.ok.hd l) _ a (Cs f) c.toArray,
  ⟨⟨_,B0 _ rfl,rfl,rfl⟩,d.push _⟩,λi v B C E t k=>?_,λG J w=>⟨.bl _,H,I.kept (LSm.kept_iter w),rfl,?_⟩⟩
 ·obtain⟨b,e,rfl⟩:=j.get i v (by simpa using t)
  simp only[e,MH]at k
  exact Im k
 ·have e:((A7 c.toArray.size).any λi=>(bs[i]?).getD false)=bs.any id:=by
   rw[BF,j.length];exact LSm.range_any bs
  rw[e]
  exact q
end
section
open PySem.SeqAt
inductive EM(A:Ak)(s:Ab):List Aa->List Aa->Bool->Prop where
 |nn:EM A s [] [] false
 |nc {w ws}:EM A s [] (w::ws) true
 |cn {v vs}:EM A s (v::vs) [] false
 |eq {v w vs ws b}:EqAt A s v w true->EM A s vs ws b->EM A s (v::vs) (w::ws) b
 |ne {v w vs ws b}:EqAt A s v w false->(∀(prog:A4) (wo:Aj) (E Q:Aa->Ab->Prop),Q (.bool b) s->wpAny (Af prog wo) A (richCompare .Lt v w) Q E s)->EM A s (v::vs) (w::ws) b
end
section
open PySem.SeqAt
open PySem.AutoSeq1 (wpAny_loadPart')
open PySem.MeetsSeq PySem.MeetsSeq2 PySem.MeetsSeq3
theorem gL(l b:Ac)(c a:Array Aa)(n n2:Nat)(dd p:Option Ac)(I q:Array (Option Aa))(r:Bool):
  Meets (Aw.«tuple.__lt__» ⟨[.ref l,.ref b],[]⟩)
   (λA R s=>s.heap.get? l=some {cls:=.type "tuple",dict:=dd,data:=.seq c n,slots:=I}/\s.heap.get? b=some {cls:=.type "tuple",dict:=p,data:=.seq a n2,slots:=q} /\
    EM A.in1 s c.toList a.toList r/\R (.ok (.ret (.bool r))) s):=
 .of_wp λprog w A R s h=>by
  obtain⟨G,g,d,H,os⟩:=s;obtain⟨J,L,t,h⟩:=h
  have N:=AutoSeq1.sub_tuple_tuple
  wp_walk using Fm J,Fm L,wpAny_forIn_list _ (λB3 b u=>b.1=none/\u=⟨G,g,d,H,os⟩/\∃(vs o:List Aa),B3=vs.zip o /\
   EM A.in1 ⟨G,g,d,H,os⟩ vs o r/\vs.length+a.size=o.length+c.size) _
  case turn=>
   rintro⟨y,x⟩ B3 b u ⟨k,rfl,vs,o,f,i,e⟩
   cases i with
   |nn=>rw[List.zip_nil_left]at f;cases f
   |nc=>rw[List.zip_nil_left]at f;cases f
   |cn=>rw[List.zip_nil_right]at f;cases f
   |eq v z=>
    rw[K3]at f
    injection f with m j
    injection m with B C
    subst B C
    simp only[B8]at e
    refine Ag (v prog w _ _ ?_)
    wp_walk
    exact⟨rfl,rfl,_,_,j,z,by omega⟩
   |ne v z=>
    rw[K3]at f
    injection f with m j
    injection m with B C
    subst B C
    refine Ag (v prog w _ _ ?_)
    have E:=z prog w
    wp_walk using E
    exact⟨_,rfl,by simpa using h⟩
  case fin=>
   rintro⟨b1,b2⟩ u ⟨k,rfl,vs,o,f,i,e⟩
   simp only at k
   subst k
   have M:r=decide (c.size<a.size):=by
    cases i with
    |nn=>
     simp only[DT]at e
     exact(decide_eq_false (by omega)).symm
    |nc=>
     simp only[DT,B8]at e
     exact(decide_eq_true (by omega)).symm
    |cn=>
     simp only[DT,B8]at e
     exact(decide_eq_false (by omega)).symm
    |eq _ _=>rw[K3]at f;cases f
    |ne _ _=>rw[K3]at f;cases f
   rw[M]at h
   wp_walk
   exact⟨_,rfl,by simpa[Builtin.Tuple.tupleCompareSizes]using h⟩
  case h=>
   exact⟨rfl,rfl,c.toList,a.toList,rfl,t,by simp;omega⟩
theorem gM(l b:Ac)(e c:Array Aa)(n n2:Nat)(dd z:Option Ac)(E B:Array (Option Aa))(r:Bool)(k:Nat):
  ∀i:Nat,e.size-i=k->Meets (Aw.«list.__eq__.loop» ⟨[.ref l,.ref b,AH i,AH 0],[]⟩)
   (λA R s=>s.heap.get? l=some {cls:=.type "list",dict:=dd,data:=.seq e n,slots:=E}/\s.heap.get? b=some {cls:=.type "list",dict:=z,data:=.seq c n2,slots:=B} /\
    EM A.in1 s (e.toList.drop i) (c.toList.drop i) r/\(i<=e.size/\i<=c.size)/\R (.ok (.ret (.bool r))) s):=by
 induction k with
 |zero=>
  intro i G prog w A R s h
  obtain⟨H,g,d,I,os⟩:=s;obtain⟨p,q,f,⟨z1,z2⟩,h⟩:=h
  wp_walk using Fm p,Fm q
  have m:e[((i:Nat):Int).toNat]?=none:=by simp;omega
  have hd:e.toList.drop i=[]:=P4 (by simp;omega)
  rw[hd]at f
  rw[m]
  have u:r=decide (e.size<c.size):=by
   cases y:c.toList.drop i with
   |nil=>
    rw[y]at f
    have:=congrArg List.length y
    simp at this
    cases f
    exact(decide_eq_false (by omega)).symm
   |cons a t=>
    rw[y]at f
    have:=congrArg List.length y
    simp at this
    cases f
    exact(decide_eq_true (by omega)).symm
  rw[u]at h
  wp_walk using Fm p,Fm q
  exact h
 |succ k J=>
  intro i G prog w A R s h
  obtain⟨H,g,d,I,os⟩:=s;obtain⟨p,q,f,⟨z1,z2⟩,h⟩:=h
  wp_walk using Fm p,Fm q
  have v:i<e.size:=by omega
  have m:e[((i:Nat):Int).toNat]?=some e[i]:=by simp[v]
  have hd:e.toList.drop i=e[i]::e.toList.drop (i+1):=by rw[P5 (by simpa using v)];simp
  have L:((i:Int)+1)=((i+1:Nat):Int):=by push_cast;rfl
  rw[hd]at f
  rw[m]
  by_cases j:i<c.size
  ·have o:c[((i:Nat):Int).toNat]?=some c[i]:=by simp[j]
   have x:c.toList.drop i=c[i]::c.toList.drop (i+1):=by rw[P5 (by simpa using j)];simp
   rw[x]at f
   rw[o]
   cases f with
   |eq f u=>
    refine Ag (f prog w _ _ ?_)
    wp_walk
    rw[L]
    exact⟨plainId_quiet plain_eq_loop _,Jv entry_eq_loop (by
     rw[K4 plain_eq_loop _]
     exact J (i+1) (by omega) prog w A R _ ⟨p,q,u,⟨v,j⟩,h⟩)⟩
   |ne f u=>
    refine Ag (f prog w _ _ ?_)
    wp_walk using Fm p,Fm q
    rw[m,o]
    have C:=u prog w
    wp_walk using C
    exact h
  ·have o:c[((i:Nat):Int).toNat]?=none:=by simp;omega
   have x:c.toList.drop i=[]:=P4 (by simp;omega)
   rw[x]at f
   rw[o]
   have u:r=decide (e.size<c.size):=by
    cases f
    exact(decide_eq_false (by omega)).symm
   rw[u]at h
   wp_walk using Fm p,Fm q
   exact h
theorem U7(l b:Ac)(c a:Array Aa)(n n2:Nat)(dd e:Option Ac)(i f:Array (Option Aa))(r:Bool):
  Meets (Aw.«list.__lt__» ⟨[.ref l,.ref b],[]⟩)
   (λA R s=>s.heap.get? l=some {cls:=.type "list",dict:=dd,data:=.seq c n,slots:=i}/\s.heap.get? b=some {cls:=.type "list",dict:=e,data:=.seq a n2,slots:=f} /\
    EM A.in1 s c.toList a.toList r/\R (.ok (.ret (.bool r))) s):=by
 intro prog w A R s h
 obtain⟨o,g,d,p,os⟩:=s;obtain⟨j,k,m,h⟩:=h
 have q:=AutoSeq1.sub_list_list
 wp_walk using Fm j,Fm k
 exact⟨plainId_quiet plain_eq_loop _,Jv entry_eq_loop (by
  rw[K4 plain_eq_loop _]
  exact gM l b c a n n2 dd e i f r _ 0 rfl prog w A R _ ⟨j,k,m,⟨Hv _,Hv _⟩,h⟩)⟩
end
section
variable{prog:A4}{w:Aj}{A:Ak}{E:Aa->Ab->Prop}{s:Ab}
theorem gN{l b:Ac}{c a:Array Aa}{r:Bool}{Q:Aa->Ab->Prop}(o:IsTup s.heap l c)(p:IsTup s.heap b a)(q:EM A.in1 s c.toList a.toList r)
  (t:A.units<AF) (h:Q (.bool r) s):wpAny (Af prog w) A (richCompare .Lt (.ref l) (.ref b)) Q E s:=by
 obtain⟨⟨cls,u,data,v⟩,j,k,n,hd⟩:=id o
 obtain⟨⟨m,g,data2,i⟩,d,e,n2,f⟩:=id p
 simp only at k hd e f
 subst k hd e f
 exact richCompare_meets_room (op:=.Lt) ⟨_,j,rfl⟩ ⟨_,d,rfl⟩ PySem.F.slot_tuple_lt PySem.F.entry_tuple_lt (PySem.F.args_tuple_lt_2 _ _) (gL l b c a n n2 u g v i r)
  ⟨j,d,q,show Value.bool r≠Value.notImplemented/\Q (.bool r) s from⟨(λx=>nomatch x),h⟩⟩ t
theorem gO{l b:Ac}{c a:Array Aa}{r:Bool}{n n2:Nat}{dd d:Option Ac}{f e:Array (Option Aa)}{Q:Aa->Ab->Prop}(g:s.heap.get? l=some {cls:=.type "list",dict:=dd,data:=.seq c n,slots:=f})(i:s.heap.get? b=some {cls:=.type "list",dict:=d,data:=.seq a n2,slots:=e})(j:EM A.in1 s c.toList a.toList r)
  (k:A.units<AF) (h:Q (.bool r) s):wpAny (Af prog w) A (richCompare .Lt (.ref l) (.ref b)) Q E s:=
 richCompare_meets_room (op:=.Lt) ⟨_,g,rfl⟩ ⟨_,i,rfl⟩ PySem.F.slot_list_lt PySem.F.entry_list_lt (PySem.F.args_list_lt_2 _ _) (U7 l b c a n n2 dd d f e r)
  ⟨g,i,j,show Value.bool r≠Value.notImplemented/\Q (.bool r) s from⟨(λx=>nomatch x),h⟩⟩ k
end
def gP:V->V->Option Bool
 |.int i,.int j=>some (decide (i<j))
 |.str a,.str b=>some (decide (a.cps.toList<b.cps.toList))
 |_,_=>none
def BD:List V->List V->Option Bool
 |[],[]=>some false
 |[],_::_=>some true
 |_::_,[]=>some false
 |x::a,y::b=>if(UX x&&UX y)=true then(if ge x y=true then BD a b else gP x y)else none
section
variable{X:Cx}
end
theorem F2(x:Ae):x.cps.toList.length=x.length:=by simp[Str.length]
def K5(K:As):Sp:=λvs H Q _=>∃(a:Ac)(b:List Int),vs=[.ref a]/\BE K H a (b.map V.int)/\b.length<=63/\∀c,Q (.bl true) c
section
variable{X:Cx}
end
section
variable{X:Cx}
end
theorem P6{H:Hp}{p:Ac}{o:HO}(h:H p=none):Am H (A3 H p o):=λb u e=>by rw[ZK (Eo e h)];exact e
end L2
namespace L2
open PySem PySem.Spec PyProof.Rows
theorem Jw{A B:Prop}(h:A):(if true=true then A else B):=(if_pos (c:=true=true) rfl:ite _ A B=A) ▸ h
theorem Jx{A B:Prop}(h:B):(if false=true then A else B):=(if_neg (c:=false=true) Hs:ite _ A B=B) ▸ h
inductive D where
 |non|bl (b:Bool)|int (i:Int)|str (x:Ae)|ty (n:String)|tup (xs:List D)|lst (xs:List D) (b:Bool:=false)
def P7:D->At
 |.int i=>.int i
 |.str x=>.str x
 |_=>.non
def P8:D->KT
 |.tup l=>.tup (l.map P7)
 |d=>.at (P7 d)
def Iz:List D->List KT
 |k::_::r=>P8 k::Iz r
 |_=>[]
def CO(b:Bool)(xs:List D)(vs:List V):HO:=match b with
 |false=>.lst vs
 |true=>.dct (Iz xs) vs
def P9:HO->Bool
 |.lst _=>true
 |.dct _ _=>true
 |_=>false
theorem gQ(b:Bool)(xs:List D)(vs:List V):P9 (CO b xs vs)=true:=by cases b<;>rfl
abbrev Fb:=Ac->Prop
def KL(K:As)(a:Ac)(vs:List V):Prop:=BE K (λ_=>none) a vs
def LstAt(K:As)(N:Fb)(H:Hp)(a:Ac)(o:HO):Prop:=(¬ N a/\Rd H a o)\/∃vs,o=.lst vs/\KL K a vs
theorem KL.sq{K:As}{H:Hp}{a:Ac}{vs:List V}(h:KL K a vs):BE K H a vs:=by
 rcases h with(h|⟨o,h⟩)|h
 ·cases h
 ·cases h
 ·exact .inr h
theorem LstAt.sq{K:As}{N:Fb}{H:Hp}{a:Ac}{vs:List V}(h:LstAt K N H a (.lst vs)):BE K H a vs:=by
 rcases h with⟨_,h⟩|⟨b,e,h⟩
 ·exact .inl h
 ·cases e;exact h.sq
theorem LstAt.of{K:As}{N:Fb}{H:Hp}{a:Ac}{o:HO}(n:¬ N a)(h:H a=some o):LstAt K N H a o:=.inl ⟨n,.inl h⟩
theorem LstAt.of_sq{K:As}{H:Hp}{a:Ac}{vs:List V}(h:BE K H a vs):LstAt K (λ_=>False) H a (.lst vs):=by
 rcases h with h|h
 ·exact .inl ⟨id,h⟩
 ·exact .inr ⟨vs,rfl,.inr h⟩
mutual
def AI(K:As)(N:Fb)(H:Hp):D->V->Prop
 |.non,v=>v=.non
 |.bl b,v=>v=.bl b
 |.int i,v=>v=.int i
 |.str x,v=>v=.str x
 |.ty n,v=>v=.ty n
 |.tup c,v=>∃a vs,v=.ref a/\BV K H a vs/\Ad K N H c vs
 |.lst c b,v=>∃a vs,v=.ref a/\LstAt K N H a (CO b c vs)/\Ad K N H c vs
def Ad(K:As)(N:Fb)(H:Hp):List D->List V->Prop
 |[],vs=>vs=[]
 |x::a,vs=>∃v r,vs=v::r/\AI K N H x v/\Ad K N H a r
end
structure Step(M N N':Fb)(H H':Hp):Prop where
 kp:∀a o,H a=some o->(¬ N a\/M a\/P9 o=false)->H' a=some o
 nw:∀a,N' a->N a\/H a=none
theorem Step.trans{M N N1 N2:Fb}{H d f:Hp}(a:Step M N N1 H d)(b:Step M N1 N2 d f):Step M N N2 H f where
 kp:=λc o h z=>by
  have g:=a.kp c o h z
  refine b.kp c o g ?_
  rcases z with z|z|z
  ·refine .inl λn1=>?_
   rcases a.nw c n1 with q|q
   ·exact z q
   ·rw[h]at q;cases q
  ·exact .inr (.inl z)
  ·exact .inr (.inr z)
 nw:=λc n2=>by
  rcases b.nw c n2 with q|q
  ·exact a.nw c q
  ·cases e:H c with
   |none=>exact .inr rfl
   |some o=>
    refine .inl (Classical.byContradiction λz=>?_)
    rw[a.kp c o e (.inl z)]at q
    cases q
theorem Step.of_same{M N:Fb}{H H':Hp}(s:Am H H'):Step M N N H H':=⟨λa o h _=>s a o h,λa h=>.inl h⟩
theorem Step.refl{M N:Fb}{H:Hp}:Step M N N H H:=Step.of_same (Am.refl H)
theorem Rd.step{M N b:Fb}{H H':Hp}{a:Ac}{u:HO}(s:Step M N b H H')(h:Rd H a u)(z:¬ N a\/M a\/P9 u=false):Rd H' a u:=by
 rcases h with h|⟨o,h⟩
 ·exact .inl (s.kp a u h z)
 ·exact .inr ⟨o,s.kp a _ h (.inr (.inr rfl))⟩
theorem Rd.same{H H':Hp}{a:Ac}{u:HO}(s:Am H H')(h:Rd H a u):Rd H' a u:=by
 rcases h with h|⟨o,h⟩
 ·exact .inl (s a u h)
 ·exact .inr ⟨o,s a _ h⟩
theorem BV.step{K:As}{M N b:Fb}{H H':Hp}{a:Ac}{xs:List V}(s:Step M N b H H')(h:BV K H a xs):BV K H' a xs:=by
 rcases h with h|h
 ·exact .inl (h.step s (.inr (.inr rfl)))
 ·exact .inr h
theorem BV.same{K:As}{H H':Hp}{a:Ac}{xs:List V}(s:Am H H')(h:BV K H a xs):BV K H' a xs:=BV.step (M:=λ_=>False) (N:=λ_=>False) (Step.of_same s) h
theorem Rd.has{H:Hp}{a:Ac}{u:HO}(h:Rd H a u):H a≠none:=by
 rcases h with h|⟨o,h⟩<;>rw[h]<;>exact λe=>nomatch e
mutual
theorem AI.step{K:As}{M N c:Fb}{H H':Hp}(s:Step M N c H H'):∀(d:D)(v:V),AI K N H d v->AI K c H' d v
 |.non,_,h=>h
 |.bl _,_,h=>h
 |.int _,_,h=>h
 |.str _,_,h=>h
 |.ty _,_,h=>h
 |.tup b,v,h=>by
  simp only[AI]at h ⊢
  obtain⟨a,vs,e,q,r⟩:=h
  exact⟨a,vs,e,q.step s,Ad.step s b vs r⟩
 |.lst b g,v,h=>by
  simp only[AI]at h ⊢
  obtain⟨a,vs,e,q,r⟩:=h
  refine⟨a,vs,e,?_,Ad.step s b vs r⟩
  rcases q with⟨n,q⟩|q
  ·refine .inl ⟨λf=>?_,q.step s (.inl n)⟩
   rcases s.nw a f with z|z
   ·exact n z
   ·exact q.has z
  ·exact .inr q
theorem Ad.step{K:As}{M N a:Fb}{H H':Hp}(s:Step M N a H H'):∀(xs:List D)(vs:List V),Ad K N H xs vs->Ad K a H' xs vs
 |[],_,h=>h
 |x::xs,vs,h=>by
  simp only[Ad]at h ⊢
  obtain⟨v,r,e,q,t⟩:=h
  exact⟨v,r,e,AI.step s x v q,Ad.step s xs r t⟩
end
section
variable{K:As}{M N N':Fb}{H H':Hp}{d:D}{v:V}{xs ys:List D}{vs ws:List V}{a:Ac}
theorem AI.same(h:AI K N H d v)(s:Am H H'):AI K N H' d v:=AI.step (M:=N) (Step.of_same s) d v h
theorem Ad.same(h:Ad K N H xs vs)(s:Am H H'):Ad K N H' xs vs:=Ad.step (M:=N) (Step.of_same s) xs vs h
theorem AI.nw(h:AI K N H d v)(z:∀a,N' a->N a\/H a=none):AI K N' H d v:=AI.step (M:=N) (H':=H) ⟨λ_ _ h _=>h,z⟩ d v h
theorem Ad.nw(h:Ad K N H xs vs)(z:∀a,N' a->N a\/H a=none):Ad K N' H xs vs:=Ad.step (M:=N) (H':=H) ⟨λ_ _ h _=>h,z⟩ xs vs h
theorem Ad.length:∀{xs:List D}{vs:List V},Ad K N H xs vs->xs.length=vs.length
 |[],_,h=>by simp only[Ad]at h;subst h;rfl
 |_::xs,_,h=>by simp only[Ad]at h;obtain⟨v,r,e,_,t⟩:=h;subst e;simp[Ad.length t]
theorem Ad.get:∀{xs:List D}{vs:List V}{i:Nat}{d:D},Ad K N H xs vs->xs[i]?=some d->∃v,vs[i]?=some v/\AI K N H d v
 |[],_,i,d,_,e=>by simp at e
 |x::xs,_,0,d,h,e=>by
  simp only[Ad]at h;obtain⟨v,r,a,q,_⟩:=h;subst a
  simp at e;subst e;exact⟨v,rfl,q⟩
 |x::xs,_,i+1,d,h,e=>by
  simp only[Ad]at h;obtain⟨v,r,a,_,t⟩:=h;subst a
  obtain⟨w,b,c⟩:=Ad.get (i:=i) t (by simpa using e)
  exact⟨w,by simpa using b,c⟩
theorem Ad.get':∀{xs:List D}{vs:List V}{i:Nat}{v:V},Ad K N H xs vs->vs[i]?=some v->∃d,xs[i]?=some d/\AI K N H d v:=by
 intro xs vs i v h e
 have f:=h.length
 have g:i<vs.length:=(List.getElem?_eq_some_iff.mp e).1
 have a:xs[i]?=some xs[i]:=CH (by omega)
 obtain⟨w,b,c⟩:=h.get a
 rw[e]at b;cases b
 exact⟨_,a,c⟩
theorem Ad.append:∀{xs ys:List D}{vs ws:List V},Ad K N H xs vs->Ad K N H ys ws->Ad K N H (xs++ys) (vs++ws)
 |[],_,_,_,h,a=>by simp only[Ad]at h;subst h;exact a
 |x::xs,ys,_,ws,h,a=>by
  simp only[Ad]at h;obtain⟨v,r,e,q,t⟩:=h;subst e
  simp only[List.cons_append,Ad]
  exact⟨v,r++ws,rfl,q,Ad.append t a⟩
theorem Ad.nil:Ad K N H [] []:=by simp only[Ad]
theorem Ad.cons(h:AI K N H d v)(t:Ad K N H xs vs):Ad K N H (d::xs) (v::vs):=by simp only[Ad];exact⟨v,vs,rfl,h,t⟩
theorem Ad.take:∀{xs:List D}{vs:List V}(n:Nat),Ad K N H xs vs->Ad K N H (xs.take n) (vs.take n)
 |_,_,0,_=>by simpa using Ad.nil
 |[],_,n+1,h=>by simp only[Ad]at h;subst h;simpa using Ad.nil
 |x::xs,_,n+1,h=>by
  simp only[Ad]at h;obtain⟨v,r,e,q,t⟩:=h;subst e
  simpa using Ad.cons q (Ad.take n t)
theorem Ad.drop:∀{xs:List D}{vs:List V}(n:Nat),Ad K N H xs vs->Ad K N H (xs.drop n) (vs.drop n)
 |_,_,0,h=>by simpa using h
 |[],_,n+1,h=>by simp only[Ad]at h;subst h;simpa using Ad.nil
 |x::xs,_,n+1,h=>by
  simp only[Ad]at h;obtain⟨v,r,e,q,t⟩:=h;subst e
  simpa using Ad.drop n t
theorem Ad.reverse:∀{xs:List D}{vs:List V},Ad K N H xs vs->Ad K N H xs.reverse vs.reverse
 |[],_,h=>by simp only[Ad]at h;subst h;simpa using Ad.nil
 |x::xs,_,h=>by
  simp only[Ad]at h;obtain⟨v,r,e,q,t⟩:=h;subst e
  simpa using Ad.append (Ad.reverse t) (Ad.cons q Ad.nil)
theorem Ad.set:∀{xs:List D}{vs:List V}(i:Nat),Ad K N H xs vs->AI K N H d v->Ad K N H (xs.set i d) (vs.set i v)
 |[],_,_,h,_=>by simp only[Ad]at h;subst h;simpa using Ad.nil
 |x::xs,_,0,h,q=>by
  simp only[Ad]at h;obtain⟨v,r,e,_,t⟩:=h;subst e
  simpa using Ad.cons q t
 |x::xs,_,i+1,h,q=>by
  simp only[Ad]at h;obtain⟨v,r,e,a,t⟩:=h;subst e
  simpa using Ad.cons a (Ad.set i t q)
theorem Ad.ints:∀(a:List Int),Ad K N H (a.map D.int) (a.map V.int)
 |[]=>Ad.nil
 |n::a=>Ad.cons (by simp only[AI]) (Ad.ints a)
end
inductive Sl where
 |no|val (d:D)|own (xs:List D) (b:Bool:=false)|lent (xs:List D) (b:Bool:=false)|exc (c:Ae)
def DK(e C:Ac)(h:Al):Prop:=∃o vs,h.get? e=some o/\o.cls=.ref C/\o.data=.fields vs/\vs[2]?=some .none
abbrev VE:=List Sl
def Nf(M:Fb)(ρ:VE)(σ:St):Fb:=λa=>M a\/∃(i:Nat)(c:List D)(b:Bool),ρ[i]?=some (Sl.own c b)/\σ[i]?=some (some (V.ref a))
def U8(K:As)(M N:Fb)(f H:Hp):Sl->Option V->Prop
 |.no,_=>True
 |.val d,o=>∃v,o=some v/\AI K N H d v
 |.own e b,o=>∃a vs,o=some (.ref a)/\f a=none/\¬ M a/\H a=some (CO b e vs)/\Ad K N H e vs
 |.lent e b,o=>∃a vs,o=some (.ref a)/\M a/\Rd H a (CO b e vs)/\Ad K N H e vs
 |.exc c,o=>∃a C,o=some (.ref a)/\HA K C5 c=some (some (.ref C))/\H a=some (.ext (DK a C))
structure BC(K:As)(M:Fb)(H0:Hp)(ρ:VE)(σ:St)(H:Hp):Prop where
 len:ρ.length=σ.length
 same:Am H0 H
 mh:∀a,M a->H a≠none
 slot:∀(i:Nat) (s:Sl),ρ[i]?=some s->U8 K M (Nf M ρ σ) H0 H s (σ[i]?.join)
 inj:∀(i j:Nat) (xs ys:List D) (b b':Bool) (a:Ac),ρ[i]?=some (Sl.own xs b)->ρ[j]?=some (Sl.own ys b')->σ[i]?=some (some (V.ref a))->σ[j]?=some (some (V.ref a))->i=j
section
variable{K:As}{M N:Fb}{H0 H H':Hp}{ρ:VE}{σ:St}
theorem BC.nh(R:BC K M H0 ρ σ H):∀a,Nf M ρ σ a->H a≠none:=by
 rintro a (h|⟨i,g,j,c,d⟩)
 ·exact R.mh a h
 ·obtain⟨b,vs,e,_,_,q,_⟩:=R.slot i _ c
  rw[d]at e
  have f:b=a:=by simpa using e.symm
  rw[<- f,q];exact λz=>nomatch z
theorem BC.st(R:BC K M H0 ρ σ H)(s:Am H H'):BC K M H0 ρ σ H' where
 len:=R.len
 same:=R.same.trans s
 mh:=λa h z=>R.mh a h (s.free z)
 slot:=λi j e=>by
  have q:=R.slot i j e
  cases j with
  |no=>trivial
  |val d=>obtain⟨v,e,h⟩:=q;exact⟨v,e,h.same s⟩
  |own k l=>obtain⟨a,vs,e,b,f,g,m⟩:=q;exact⟨a,vs,e,b,f,s _ _ g,m.same s⟩
  |lent k l=>obtain⟨a,vs,e,b,f,g⟩:=q;exact⟨a,vs,e,b,f.same s,g.same s⟩
  |exc c=>obtain⟨a,C,e,b,f⟩:=q;exact⟨a,C,e,b,s _ _ f⟩
 inj:=R.inj
theorem BC.fresh(R:BC K M H0 ρ σ H){p:Ac}(h:H p=none):¬ Nf M ρ σ p:=λn=>R.nh p n h
end
def tD(K:As)(M:Fb)(e:Hp)(f:VE->Option D):TE:=λc H Q=>∃a d,BC K M e a c H/\f a=some d/\∀v b,Am H b->AI K (Nf M a c) b d v->Q v b
def AK(K:As)(N:Fb)(H:Hp)(d:D)(v:V):Prop:=match d with
 |.lst b=>∃a vs,v=.ref a/\BE K H a vs/\Ad K N H b vs
 |.lst b true=>∃a vs,v=.ref a/\Rd H a (.dct (Iz b) vs)/\Ad K N H b vs
 |d=>AI K N H d v
theorem AI.p{K:As}{N:Fb}{H:Hp}{d:D}{v:V}(h:AI K N H d v):AK K N H d v:=by
 cases d with
 |lst c b=>
  simp only[AI]at h
  obtain⟨a,vs,e,q,r⟩:=h
  cases b with
  |false=>exact⟨a,vs,e,LstAt.sq q,r⟩
  |true=>
   rcases q with⟨_,q⟩|⟨f,z,_⟩
   ·exact⟨a,vs,e,q,r⟩
   ·cases z
 |_=>exact h
theorem AK.same{K:As}{N:Fb}{H H':Hp}{d:D}{v:V}(h:AK K N H d v)(s:Am H H'):AK K N H' d v:=by
 cases d with
 |lst c b=>
  cases b with
  |false=>obtain⟨a,vs,e,q,r⟩:=h;exact⟨a,vs,e,s.seq q,r.same s⟩
  |true=>obtain⟨a,vs,e,q,r⟩:=h;exact⟨a,vs,e,q.same s,r.same s⟩
 |_=>exact AI.same h s
theorem Qa{K:As}{N:Fb}{H:Hp}{xs:List D}{vs:List V}{fl:Bool}{a:Ac}(h:Rd H a (CO fl xs vs))(r:Ad K N H xs vs):AK K N H (.lst xs fl) (.ref a):=by
 cases fl with
 |false=>exact⟨a,vs,rfl,.inl h,r⟩
 |true=>exact⟨a,vs,rfl,h,r⟩
def tP(K:As)(M:Fb)(e:Hp)(f:VE->Option D):TE:=λc H Q=>∃a d,BC K M e a c H/\f a=some d/\∀v b,Am H b->AK K (Nf M a c) b d v->Q v b
def Jy(fl:Bool)(K:As)(M:Fb)(h:Hp)(f:VE->Option (List D)):TE:=λg H Q=>∃d e,BC K M h d g H/\f d=some e /\
 ∀a vs c,Am H c->H a=none->c a=some (CO fl e vs)->Ad K (λb=>Nf M d g b\/b=a) c e vs->Q (.ref a) c
@[reducible] def tF(K:As)(M:Fb)(a:Hp)(f:VE->Option (List D)):TE:=Jy false K M a f
def BJ(K:As)(M:Fb)(d:Hp)(f:VE->Option Bool):TT:=λe H Q=>∃a b,BC K M d a e H/\f a=some b/\∀c,Am H c->Q b c
structure JE(X:Cx)(e:Expr)(t:TE):Prop where h:PE X e t
structure JT(X:Cx)(e:Expr)(t:TT):Prop where h:PT X e t
structure JW(X:Cx)(e:Expr)(t:TT):Prop where h:PW X e t
structure JA(X:Cx)(e:List Expr)(t:TA):Prop where h:PA X e t
structure JS(X:Cx)(e:Ay)(t:TS):Prop where h:PS X e t
structure JB(X:Cx)(e:List Ay)(t:TS):Prop where h:Er X e t
structure JI(X:Cx)(tg e:Expr)(t:TI):Prop where h:PI X tg e t
structure JG(X:Cx)(e:Expr)(t:TG):Prop where h:PG X e t
structure JK(X:Cx)(e:List Expr)(t:GV):Prop where h:KO X e t
structure JO(X:Cx)(e:Option Expr)(t:TO):Prop where h:PO X e t
structure JF(X:Cx)(e:List Expr)(t:TT):Prop where h:Fl X e t
theorem PE.mono{X:Cx}{e:Expr}{t t':TE}(h:PE X e t)(m:∀σ H Q,t' σ H Q->t σ H Q):PE X e t':=λa s σ H Q I q=>h a s σ H Q I (m σ H Q q)
theorem PT.mono{X:Cx}{e:Expr}{t t':TT}(h:PT X e t)(m:∀σ H Q,t' σ H Q->t σ H Q):PT X e t':=λa s σ H Q I q=>h a s σ H Q I (m σ H Q q)
theorem PW.mono{X:Cx}{e:Expr}{t t':TT}(h:PW X e t)(m:∀σ H Q,t' σ H Q->t σ H Q):PW X e t':=λb a s σ H Q I q=>h b a s σ H Q I (m σ H Q q)
theorem PA.mono{X:Cx}{e:List Expr}{t t':TA}(h:PA X e t)(m:∀σ H Q,t' σ H Q->t σ H Q):PA X e t':=λpos a s σ H Q I q=>h pos a s σ H Q I (m σ H Q q)
theorem PS.mono{X:Cx}{e:Ay}{t t':TS}(h:PS X e t)(m:∀D σ H,t' D σ H->t D σ H):PS X e t':=λa s σ H D I q=>h a s σ H D I (m D σ H q)
theorem Er.mono{X:Cx}{e:List Ay}{t t':TS}(h:Er X e t)(m:∀D σ H,t' D σ H->t D σ H):Er X e t':=λa s σ H D I q=>h a s σ H D I (m D σ H q)
section
variable{X:Cx}{K:As}{M:Fb}{H0:Hp}{e a b:Expr}{f g:VE->Option D}{pos:Bc}
theorem PE.p(h:PE X e (tD K M H0 f)):PE X e (tP K M H0 f):=h.mono λc H Q ⟨a,d,R,e,q⟩=>⟨a,d,R,e,λv b s z=>q v b s z.p⟩
theorem Aq(h:JE X e (tD K M H0 f)):JE X e (tP K M H0 f):=⟨PE.p h.h⟩
@[simp] def ZF(o:Option (List D)):Option D:=o.map D.lst
@[simp] def qu(o:Option (List D)):Option D:=o.map λl=>D.lst l true
theorem PE.fd{f:VE->Option (List D)}(h:PE X e (tF K M H0 f)):PE X e (tD K M H0 λρ=>ZF (f ρ)):=h.mono λj H Q ⟨ρ,d,R,e,q⟩=>by
 try dsimp only at e q
 cases c:f ρ with
 |none=>rw[c]at e;cases e
 |some g=>
  rw[c]at e
  cases e
  refine⟨ρ,g,R,c,λa vs k s z1 z2 z3=>q _ _ s ?_⟩
  simp only[AI]
  refine⟨a,vs,rfl,.of (R.fresh z1) z2,z3.nw λb i=>.inl (.inl i)⟩
theorem Cu{f:VE->Option (List D)}(h:JE X e (tF K M H0 f)):JE X e (tD K M H0 λρ=>ZF (f ρ)):=⟨PE.fd h.h⟩
@[simp] def A8(ρ:VE)(i:Nat):Option D:=match ρ[i]? with
  |some (.val d)=>some d
  |_=>none
@[simp] def Ai(ρ:VE)(i:Nat):Option D:=match ρ[i]? with
  |some (.val d)=>some d
  |some (.own a b)=>some (.lst a b)
  |some (.lent a b)=>some (.lst a b)
  |_=>none
theorem gR{ρ:VE}{i:Nat}{d:D}(h:A8 ρ i=some d):ρ[i]?=some (.val d):=by
 unfold A8 at h
 split at h
 ·cases h;assumption
 ·cases h
theorem gS{i:Nat}{x:Ae}(c:X.N[i]?=some x)(f:Dq X.env.scope x)(hd:(x==("__debug__":Ae))=false:=by decide)(b:(x==("__classdict__":Ae))=false:=by decide):PE X (.Name x pos) (tD K M H0 λρ=>A8 ρ i):=
 (Fz c f hd b).mono λg H Q ⟨ρ,d,R,e,q⟩=>by
  try dsimp only at e q
  obtain⟨v,a,h⟩:=R.slot i _ (gR e)
  refine⟨v,?_,q v H (Am.refl H) h⟩
  cases z:g[i]? with
  |none=>rw[z]at a;cases a
  |some o=>rw[z]at a;cases a;rfl
theorem gT{i:Nat}{x:Ae}(k:X.N[i]?=some x)(l:Dq X.env.scope x)(hd:(x==("__debug__":Ae))=false:=by decide)(f:(x==("__classdict__":Ae))=false:=by decide):PE X (.Name x pos) (tP K M H0 λρ=>Ai ρ i):=
 (Fz k l hd f).mono λc H Q ⟨ρ,d,R,e,q⟩=>by
  try dsimp only at e q
  have fin:∀v,c[i]?.join=some v->AK K (Nf M ρ c) H d v->∃v,c[i]?=some (some v)/\Q v H:=λv b h=>by
   refine⟨v,?_,q v H (Am.refl H) h⟩
   cases z:c[i]? with
   |none=>rw[z]at b;cases b
   |some o=>rw[z]at b;cases b;rfl
  unfold Ai at e
  split at e
  ·next h=>cases e;obtain⟨v,b,h⟩:=R.slot i _ h;exact fin v b h.p
  ·next h=>cases e;obtain⟨a,vs,b,_,_,g,j⟩:=R.slot i _ h;exact fin _ b (Qa (.inl g) j)
  ·next h=>cases e;obtain⟨a,vs,b,_,g,j⟩:=R.slot i _ h;exact fin _ b (Qa g j)
  ·cases e
theorem K6{d:D}{v:V}{e:Expr}(h:PE X e (tC v))(hd:∀N H,AI K N H d v):PE X e (tD K M H0 λ_=>some d):=
 h.mono λa H Q ⟨b,c,R,e,q⟩=>by(try dsimp only at e q);cases e;exact q v H (Am.refl H) (hd _ _)
theorem ZQ {i j pos}:JE X (.Constant (.int i) j pos) (tD K M H0 λ_=>some (.int i)):=⟨K6 dE λ_ _=>by simp only[AI]⟩
theorem EO {i j pos}:JE X (.Constant (.bool i) j pos) (tD K M H0 λ_=>some (.bl i)):=⟨K6 dF λ_ _=>by simp only[AI]⟩
theorem E4 {j pos}:JE X (.Constant .none j pos) (tD K M H0 λ_=>some .non):=⟨K6 dG λ_ _=>by simp only[AI]⟩
theorem HB {i j pos}:JE X (.Constant (.str i) j pos) (tD K M H0 λ_=>some (.str i)):=⟨K6 dH λ_ _=>by simp only[AI]⟩
def Dz(K:As)(r:R2)(F:D->D->Option D):Prop:=∀(N:Fb)(H:Hp)(x y:V)(d1 d2 d:D)(Q:VK),(∀a,N a->H a≠none)->AK K N H d1 x->AK K N H d2 y->F d1 d2=some d ->
 (∀v b,Am H b->AI K N b d v->Q v b)->r x y H Q
@[simp] def Zd(F:D->D->Option D)(f g:VE->Option D):VE->Option D:=λa=>(f a).bind λx=>(g a).bind λy=>F x y
theorem gU{F:D->D->Option D}{f g:VE->Option D}{ρ:VE}{d:D}(h:Zd F f g ρ=some d):∃x y,f ρ=some x/\g ρ=some y/\F x y=some d:=by
 unfold Zd at h
 cases a:f ρ with
 |none=>rw[a]at h;cases h
 |some x=>
  cases b:g ρ with
  |none=>rw[a,b]at h;cases h
  |some y=>rw[a,b]at h;exact⟨x,y,rfl,rfl,h⟩
theorem MK{r:R2}{F:D->D->Option D}(i:Dz K r F){σ:St}{H:Hp}{Q:VK}(h:tD K M H0 (Zd F f g) σ H Q):Jo r (tP K M H0 f) (tP K M H0 g) σ H Q:=by
 obtain⟨a,d,R,e,q⟩:=h
 try dsimp only at e q
 obtain⟨x,y,j,k,l⟩:=gU e
 refine⟨a,x,R,j,λv z b m=>⟨a,y,R.st b,k,λu n c o=>?_⟩⟩
 exact i (Nf M a σ) n v u x y d Q ((R.st b).st c).nh (m.same c) o l λw p s t=>q w p ((b.trans c).trans s) t
theorem Jz{op:Operator}{r:R2}{F:D->D->Option D}(c:Ct X (FW op) r)(d:Dz K r F)(e:PE X a (tP K M H0 f))(i:PE X b (tP K M H0 g)):PE X (.BinOp a op b pos) (tD K M H0 (Zd F f g)):=
 (e8 c e i).mono λ_ _ _ h=>MK d h
theorem Qb{op:CmpOp}{r:R2}{F:D->D->Option D}(c:Ct X (Eh op) r)(d:Dz K r F)(e:PE X a (tP K M H0 f))(i:PE X b (tP K M H0 g))(j:FV op b=false):PE X (.Compare a [op] [b] pos) (tD K M H0 (Zd F f g)):=
 (fu c e i j).mono λ_ _ _ h=>MK d h
theorem U9{r:R2}{F:D->D->Option D}(c:F1 X r)(d:Dz K r F)(e:PE X a (tP K M H0 f))(i:PE X b (tP K M H0 g))(j:K0 b):PE X (.Subscript a b pos) (tD K M H0 (Zd F f g)):=
 (f6 c e i j).mono λ_ _ _ h=>MK d h
@[simp] def JC{c:Type}(a b:Option c):Option c:=match a with
  |some x=>some x
  |none=>b
theorem Dz.or{r b:R2}{F c:D->D->Option D}(h:Dz K r F)(h':Dz K b c):Dz K (λx y H Q=>r x y H Q\/b x y H Q) (λx y=>JC (F x y) (c x y)):=by
 intro N H x y d1 d2 d Q f g i e q
 cases a:F d1 d2 with
 |some z=>simp only[a,JC]at e;cases e;exact .inl (h N H x y d1 d2 d Q f g i a q)
 |none=>simp only[a,JC]at e;exact .inr (h' N H x y d1 d2 d Q f g i e q)
@[simp] def AS:Option D->Option Bool
  |some (.bl b)=>some b
  |_=>none
theorem ML{o:Option D}{b:Bool}(h:AS o=some b):o=some (.bl b):=by
 unfold AS at h
 split at h
 ·cases h;rfl
 ·cases h
theorem gW{t:TE}{σ:St}{H:Hp}{Q:Bool->Hp->Prop}(c:∀σ H Q,tD K M H0 f σ H Q->t σ H Q)(h:BJ K M H0 (λρ=>AS (f ρ)) σ H Q):tB t σ H Q:=by
 obtain⟨ρ,b,R,e,q⟩:=h
 try dsimp only at e q
 refine c σ H _ ⟨ρ,.bl b,R,ML e,λv d s a=>?_⟩
 simp only[AI]at a
 exact⟨b,a,q d s⟩
theorem IA{op:CmpOp}{r:R2}{F:D->D->Option D}(c:Ct X (Eh op) r)(d:Dz K r F)(e:PE X a (tP K M H0 f))(h:PE X b (tP K M H0 g))(i:FV op b=false):PT X (.Compare a [op] [b] pos) (BJ K M H0 λρ=>AS (Zd F f g ρ)):=
 (fy c e h i).mono λ_ _ _ q=>gW (t:=Jo r (tP K M H0 f) (tP K M H0 g)) (λ_ _ _ z=>MK d z) q
@[simp] def CM(o:Option Bool):Option Bool:=o.map (!·)
@[simp] def Dv(o p:Option Bool):Option Bool:=match o with
  |some true=>p
  |some false=>some false
  |none=>none
@[simp] def FE(o p:Option Bool):Option Bool:=match o with
  |some true=>some true
  |some false=>p
  |none=>none
section
variable{c c':VE->Option Bool}{B3:List Expr}
theorem HC(h:JT X a (BJ K M H0 c)):JT X (.UnaryOp .Not a pos) (BJ K M H0 λρ=>CM (c ρ)):=⟨have h:=h.h;(dS h).mono λf H Q ⟨ρ,b,R,e,q⟩=>by
 try dsimp only at e q
 cases d:c ρ with
 |none=>rw[d]at e;cases e
 |some k=>rw[d]at e;cases e;exact⟨ρ,k,R,d,q⟩⟩
theorem Qc(h:JT X a (BJ K M H0 c)):JW X (.BoolOp .And [a] pos) (BJ K M H0 c):=⟨have h:=h.h;dO h⟩
theorem K7(h:JT X a (BJ K M H0 c)):JW X (.BoolOp .Or [a] pos) (BJ K M H0 c):=⟨have h:=h.h;dP h⟩
theorem gX{σ:St}{H:Hp}{Q:Bool->Hp->Prop}(h:BJ K M H0 (λρ=>Dv (c ρ) (c' ρ)) σ H Q):Uk (BJ K M H0 c) (BJ K M H0 c') σ H Q:=by
 obtain⟨ρ,b,R,e,q⟩:=h
 try dsimp only at e q
 cases a:c ρ with
 |none=>rw[a]at e;cases e
 |some k=>
  cases k with
  |true=>rw[a]at e;exact⟨ρ,true,R,a,λd s=>by refine Jw ?_;exact⟨ρ,b,R.st s,e,λf g=>q f (s.trans g)⟩⟩
  |false=>rw[a]at e;cases e;exact⟨ρ,false,R,a,λd s=>by refine Jx ?_;exact q d s⟩
theorem gY{σ:St}{H:Hp}{Q:Bool->Hp->Prop}(h:BJ K M H0 (λρ=>FE (c ρ) (c' ρ)) σ H Q):Ul (BJ K M H0 c) (BJ K M H0 c') σ H Q:=by
 obtain⟨ρ,b,R,e,q⟩:=h
 try dsimp only at e q
 cases a:c ρ with
 |none=>rw[a]at e;cases e
 |some k=>
  cases k with
  |false=>rw[a]at e;exact⟨ρ,false,R,a,λd s=>by refine Jx ?_;exact⟨ρ,b,R.st s,e,λf g=>q f (s.trans g)⟩⟩
  |true=>rw[a]at e;cases e;exact⟨ρ,true,R,a,λd s=>by refine Jw ?_;exact q d s⟩
theorem MM(h:JT X a (BJ K M H0 c))(h':JW X (.BoolOp .And (b::B3) pos) (BJ K M H0 c')):JW X (.BoolOp .And (a::b::B3) pos) (BJ K M H0 λρ=>Dv (c ρ) (c' ρ)):=⟨have h:=h.h;have h':=h'.h;(dQ h h').mono λ_ _ _ q=>gX q⟩
theorem JD(h:JT X a (BJ K M H0 c))(h':JW X (.BoolOp .Or (b::B3) pos) (BJ K M H0 c')):JW X (.BoolOp .Or (a::b::B3) pos) (BJ K M H0 λρ=>FE (c ρ) (c' ρ)):=⟨have h:=h.h;have h':=h'.h;(dR h h').mono λ_ _ _ q=>gY q⟩
@[simp] def EQ(o:Option Bool):Option D:=o.map D.bl
theorem Qd{σ:St}{H:Hp}{Q:VK}(h:tD K M H0 (λρ=>EQ (c ρ)) σ H Q):∃ρ b,BC K M H0 ρ σ H/\c ρ=some b/\∀H',Am H H'->Q (.bl b) H':=by
 obtain⟨ρ,d,R,e,q⟩:=h
 try dsimp only at e q
 cases a:c ρ with
 |none=>rw[a]at e;cases e
 |some k=>rw[a]at e;cases e;exact⟨ρ,k,R,a,λH' s=>q _ H' s (by simp only[AI])⟩
theorem Qe(h:JE X a (tD K M H0 f)):JE X (.UnaryOp .Not a pos) (tD K M H0 λρ=>EQ (CM (AS (f ρ)))):=⟨have h:=h.h;(dY h).mono λi H Q q=>by
 obtain⟨ρ,b,R,e,q⟩:=Qd q
 try dsimp only at e q
 cases c:AS (f ρ)with
 |none=>rw[c]at e;cases e
 |some k=>
  rw[c]at e;cases e
  refine⟨ρ,.bl k,R,ML c,λv g s d=>?_⟩
  simp only[AI]at d
  exact⟨k,d,q g s⟩⟩
theorem MO {op} (h:JE X a (tD K M H0 f)):JE X (.BoolOp op [a] pos) (tD K M H0 λρ=>EQ (AS (f ρ))):=⟨have h:=h.h;(dW h).mono λg H Q q=>by
 obtain⟨ρ,b,R,e,q⟩:=Qd q
 try dsimp only at e q
 exact⟨ρ,.bl b,R,ML e,λv d s c=>by simp only[AI]at c;subst c;exact q d s⟩⟩
theorem K8(h:JE X a (tD K M H0 f))(h':JE X (.BoolOp .And (b::B3) pos) (tD K M H0 λρ=>EQ (c' ρ))):JE X (.BoolOp .And (a::b::B3) pos) (tD K M H0 λρ=>EQ (Dv (AS (f ρ)) (c' ρ))):=⟨have h:=h.h;have h':=h'.h;(dX h h').mono λn H Q q=>by
 obtain⟨ρ,b,R,e,q⟩:=Qd q
 try dsimp only at e q
 cases c:AS (f ρ)with
 |none=>rw[c]at e;cases e
 |some k=>
  refine⟨ρ,.bl k,R,ML c,λv i s d=>?_⟩
  simp only[AI]at d
  refine⟨k,d,?_⟩
  cases k with
  |true=>
   rw[c]at e;refine Jw ?_
   have j:c' ρ=some b:=e
   exact⟨ρ,.bl b,R.st s,by show EQ (c' ρ)=_;rw[j];rfl,λw l m g=>by simp only[AI]at g;subst g;exact q l (s.trans m)⟩
  |false=>rw[c]at e;cases e;refine Jx ?_;exact q i s⟩
@[simp] def K9{d:Type}(c:Option Bool)(a b:Option d):Option d:=match c with
  |some true=>a
  |some false=>b
  |none=>none
theorem Va{k:Expr}(i:JT X k (BJ K M H0 c))(j:JE X a (tD K M H0 f))(l:JE X b (tD K M H0 g)):JE X (.IfExp k a b pos) (tD K M H0 λρ=>K9 (c ρ) (f ρ) (g ρ)):=⟨have i:=i.h;have j:=j.h;have l:=l.h;(ed i j l).mono λp H Q ⟨ρ,d,R,e,q⟩=>by
 try dsimp only at e q
 cases i:c ρ with
 |none=>rw[i]at e;cases e
 |some k=>
  refine⟨ρ,k,R,i,λr s=>?_⟩
  cases k with
  |true=>rw[i]at e;refine Jw ?_;exact⟨ρ,d,R.st s,e,λw m n o=>q w m (s.trans n) o⟩
  |false=>rw[i]at e;refine Jx ?_;exact⟨ρ,d,R.st s,e,λw m n o=>q w m (s.trans n) o⟩⟩
@[simp] def isN:D->Bool
  |.non=>true
  |_=>false
@[simp] def Gr(o:Option D):Option Bool:=o.map isN
theorem AK.isN{K:As}{N:Fb}{H:Hp}{d:D}{v:V}(h:AK K N H d v):decide (v=.non)=L2.isN d:=by
 cases d with
 |non=>simp only[AK,AI]at h;subst h;rfl
 |bl _=>simp only[AK,AI]at h;subst h;rfl
 |int _=>simp only[AK,AI]at h;subst h;rfl
 |str _=>simp only[AK,AI]at h;subst h;rfl
 |ty _=>simp only[AK,AI]at h;subst h;rfl
 |tup _=>simp only[AK,AI]at h;obtain⟨a,vs,e,_⟩:=h;subst e;rfl
 |lst _ b=>cases b<;>(obtain⟨a,vs,e,_⟩:=h;subst e;rfl)
theorem Vb {j c} (h:JE X a (tP K M H0 f)):JT X (.Compare a [.Is] [.Constant .none j c] pos) (BJ K M H0 λρ=>Gr (f ρ)):=⟨have h:=h.h;(Uj (dL h)).mono λl H Q ⟨ρ,b,R,e,q⟩=>by
 try dsimp only at e q
 cases g:f ρ with
 |none=>rw[g]at e;cases e
 |some d=>rw[g]at e;cases e;exact⟨ρ,d,R,g,λv i s k=>⟨_,rfl,by rw[k.isN];exact q i s⟩⟩⟩
theorem Qf {j c} (h:JE X a (tP K M H0 f)):JT X (.Compare a [.IsNot] [.Constant .none j c] pos) (BJ K M H0 λρ=>CM (Gr (f ρ))):=⟨have h:=h.h;(Uj (dM h)).mono λl H Q ⟨ρ,b,R,e,q⟩=>by
 try dsimp only at e q
 cases g:f ρ with
 |none=>rw[g]at e;cases e
 |some d=>rw[g]at e;cases e;exact⟨ρ,d,R,g,λv i s k=>⟨_,rfl,by rw[k.isN];exact q i s⟩⟩⟩
end
end
theorem DA{e:Expr}{es:List Expr}{env:Env}(h:∀x p,e≠.Starred x p):AX (e::es) env=(false,AC e env)::AX es env:=by
 cases e with
 |Starred x p=>exact absurd rfl (h x p)
 |_=>rfl
def Cv(K:As)(N:Fb)(H:Hp):Sl->V->Prop
 |.val d,v=>AI K N H d v
 |.lent c b,v=>∃a vs,v=.ref a/\N a/\Rd H a (CO b c vs)/\Ad K N H c vs
 |_,_=>False
def A9(K:As)(N:Fb)(H:Hp):List Sl->List V->Prop
 |[],vs=>vs=[]
 |s::a,vs=>∃v r,vs=v::r/\Cv K N H s v/\A9 K N H a r
@[simp] def pk:Sl->Option D
  |.val d=>some d
  |.lent a b=>some (.lst a b)
  |.own a b=>some (.lst a b)
  |.no=>none
  |.exc _=>none
theorem Cv.same{K:As}{N:Fb}{H H':Hp}{s:Sl}{v:V}(h:Cv K N H s v)(sm:Am H H'):Cv K N H' s v:=by
 cases s with
 |val d=>exact AI.same h sm
 |lent b f=>obtain⟨a,vs,e,n,q,r⟩:=h;exact⟨a,vs,e,n,q.same sm,r.same sm⟩
 |no=>exact h
 |own b f=>exact h
 |exc c=>exact h
theorem A9.same{K:As}{N:Fb}{H H':Hp}(sm:Am H H'):∀{a:List Sl}{vs:List V},A9 K N H a vs->A9 K N H' a vs
 |[],_,h=>h
 |s::a,_,⟨v,r,e,h,t⟩=>⟨v,r,e,h.same sm,A9.same sm t⟩
theorem Cv.p{K:As}{N:Fb}{H:Hp}{s:Sl}{v:V}(h:Cv K N H s v):∃d,pk s=some d/\AK K N H d v:=by
 cases s with
 |val d=>exact⟨d,rfl,AI.p h⟩
 |lent b f=>obtain⟨a,vs,e,n,q,r⟩:=h;subst e;exact⟨_,rfl,Qa q r⟩
 |no=>exact BW h
 |own b f=>exact BW h
 |exc c=>exact BW h
theorem A9.length{K:As}{N:Fb}{H:Hp}:∀{a:List Sl}{vs:List V},A9 K N H a vs->a.length=vs.length
 |[],_,h=>by cases h;rfl
 |s::a,_,⟨v,r,e,h,t⟩=>by subst e;simp[A9.length t]
theorem A9.get{K:As}{N:Fb}{H:Hp}:∀{a:List Sl}{vs:List V}{i:Nat}{s:Sl},A9 K N H a vs->a[i]?=some s->∃v,vs[i]?=some v/\Cv K N H s v
 |[],_,i,s,h,e=>by simp at e
 |_::a,_,0,s,⟨v,r,b,h,t⟩,e=>by subst b;simp at e;subst e;exact⟨v,rfl,h⟩
 |_::a,_,i+1,s,⟨v,r,b,h,t⟩,e=>by
  subst b
  obtain⟨w,c,d⟩:=A9.get (i:=i) t (by simpa using e)
  exact⟨w,by simpa using c,d⟩
def Dw(K:As)(M:Fb)(e:Hp)(f:VE->Option (List Sl)):TA:=λc H Q=>∃a d,BC K M e a c H/\f a=some d/\∀vs b,Am H b->A9 K (Nf M a c) b d vs->Q vs b
def La(K:As)(M:Fb)(d:Hp)(f:VE->Option Sl):TE:=λc H Q=>∃a s,BC K M d a c H/\f a=some s/\∀v b,Am H b->Cv K (Nf M a c) b s v->Q v b
@[simp] def Ao(ρ:VE)(i:Nat):Option Sl:=match ρ[i]? with
  |some (.val d)=>some (.val d)
  |some (.own a b)=>some (.lent a b)
  |some (.lent a b)=>some (.lent a b)
  |_=>none
@[simp] def Zj(o:Option D):Option Sl:=o.map Sl.val
@[simp] def Zb{c:Type}(a:Option c)(b:Option (List c)):Option (List c):=a.bind λx=>b.bind λy=>some (x::y)
theorem MP{c:Type}{a:Option c}{b:Option (List c)}{l:List c}(h:Zb a b=some l):∃x y,a=some x/\b=some y/\l=x::y:=by
 cases a with
 |none=>cases h
 |some x=>
  cases b with
  |none=>cases h
  |some y=>cases h;exact⟨x,y,rfl,rfl,rfl⟩
section
variable{X:Cx}{K:As}{M:Fb}{H0:Hp}{e a b:Expr}{es:List Expr}{f g:VE->Option D}{fa:VE->Option (List Sl)}{f1:VE->Option Sl}{pos:Bc}
theorem gZ{i:Nat}{x:Ae}(k:X.N[i]?=some x)(l:Dq X.env.scope x)(hd:(x==("__debug__":Ae))=false:=by decide)(f:(x==("__classdict__":Ae))=false:=by decide):PE X (.Name x pos) (La K M H0 λρ=>Ao ρ i):=
 (Fz k l hd f).mono λc H Q ⟨ρ,d,R,e,q⟩=>by
  try dsimp only at e q
  have fin:∀v,c[i]?.join=some v->Cv K (Nf M ρ c) H d v->∃v,c[i]?=some (some v)/\Q v H:=λv b h=>by
   refine⟨v,?_,q v H (Am.refl H) h⟩
   cases z:c[i]? with
   |none=>rw[z]at b;cases b
   |some o=>rw[z]at b;cases b;rfl
  unfold Ao at e
  split at e
  ·next h=>cases e;obtain⟨v,b,h⟩:=R.slot i _ h;exact fin v b h
  ·next h=>
   cases e
   obtain⟨a,vs,b,_,_,g,j⟩:=R.slot i _ h
   refine fin _ b ⟨a,vs,rfl,.inr ⟨i,_,_,h,?_⟩,.inl g,j⟩
   cases z:c[i]? with
   |none=>rw[z]at b;cases b
   |some o=>rw[z]at b;cases b;rfl
  ·next h=>cases e;obtain⟨a,vs,b,m,g,j⟩:=R.slot i _ h;exact fin _ b ⟨a,vs,rfl,.inl m,g,j⟩
  ·cases e
theorem Zi(h:JE X e (tD K M H0 f)):JE X e (La K M H0 λρ=>Zj (f ρ)):=⟨have h:=h.h;h.mono λg H Q ⟨ρ,s,R,e,q⟩=>by
 try dsimp only at e q
 cases a:f ρ with
 |none=>rw[a]at e;cases e
 |some d=>rw[a]at e;cases e;exact⟨ρ,d,R,a,λv b s c=>q v b s c⟩⟩
theorem Ze :JA X [] (Dw K M H0 λ_=>some []):=⟨BK.mono λa H Q ⟨b,c,R,e,q⟩=>by
 try dsimp only at e q
 cases e;exact q [] H (Am.refl H) rfl⟩
theorem Za(h:JE X e (La K M H0 f1))(a:JA X es (Dw K M H0 fa))(d:AX (e::es) X.env=(false,AC e X.env)::AX es X.env:=by exact DA (λ_ _ z=>nomatch z)):JA X (e::es) (Dw K M H0 λρ=>Zb (f1 ρ) (fa ρ)):=⟨have h:=h.h;have a:=a.h;(Ej h a d).mono λm H Q ⟨ρ,n,R,e,q⟩=>by
 try dsimp only at e q
 obtain⟨s,r,f,g,i⟩:=MP e
 subst i
 exact⟨ρ,s,R,f,λv o b j=>⟨ρ,r,R.st b,g,λvs k c l=>q (v::vs) k (b.trans c) ⟨v,vs,rfl,j.same c,l⟩⟩⟩⟩
@[simp] def Zt:List Sl->Option (List D)
  |[]=>some []
  |.val d::r=>Zb (some d) (Zt r)
  |_=>none
theorem Lb{K:As}{N:Fb}{H:Hp}:∀{a:List Sl}{vs:List V}{b:List D},A9 K N H a vs->Zt a=some b->Ad K N H b vs
 |[],_,_,h,e=>by cases e;cases h;exact Ad.nil
 |.val d::r,_,_,⟨v,t,c,h,f⟩,e=>by
  obtain⟨x,y,g,i,j⟩:=MP e
  cases g;subst c j
  exact Ad.cons h (Lb f i)
 |.no::_,_,_,_,e=>nomatch e
 |.own _ _::_,_,_,_,e=>nomatch e
 |.lent _ _::_,_,_,_,e=>nomatch e
@[simp] def Zr{a:Type}(o:Option (List a)):Option (List a):=o.bind λl=>if l.length<=AG then some l else none
theorem Qg{b:Type}{o:Option (List b)}{l:List b}(h:Zr o=some l):o=some l/\l.length<=AG:=by
 cases o with
 |none=>cases h
 |some x=>
  have a:(if x.length<=AG then some x else none)=some l:=h
  split at a
  ·cases a;exact⟨rfl,by assumption⟩
  ·cases a
theorem FF{H:Hp}{p:Ac}{o:HO}(h:H p=none):Am H (A3 H p o):=λb u e=>by rw[ZK (Eo e h)];exact e
theorem Lc{fl:Bool}{ρ:VE}{σ:St}{H d:Hp}{Q:VK}{xs:List D}{vs:List V}{p:Ac}(s:Am H d)(e:d p=none)(h:Ad K (Nf M ρ σ) d xs vs)
  (q:∀a vs H',Am H H'->H a=none->H' a=some (CO fl xs vs)->Ad K (λb=>Nf M ρ σ b\/b=a) H' xs vs->Q (.ref a) H'):Q (.ref p) (A3 d p (CO fl xs vs)):=by
 refine q p vs _ (s.trans (FF e)) (s.free e) Ef ?_
 refine(h.nw λb c=>?_).same (FF e)
 rcases c with c|c
 ·exact .inl c
 ·subst c;exact .inr e
theorem DB(h:JA X es (Dw K M H0 fa)):JE X (.List es pos) (tF K M H0 λρ=>Zr ((fa ρ).bind Zt)):=⟨have h:=h.h;(fN h).mono λi H Q ⟨ρ,j,R,e,q⟩=>by
 try dsimp only at e q
 obtain⟨e,b⟩:=Qg e
 cases a:fa ρ with
 |none=>rw[a]at e;cases e
 |some c=>
  rw[a]at e
  refine⟨ρ,c,R,a,λvs k d f=>?_⟩
  have hd:=Lb f e
  exact⟨by rw[<- hd.length];exact b,λp g=>Lc d g hd q⟩⟩
theorem ZY {f} (h:JA X es (Dw K M H0 fa)):JE X (.Tuple es f pos) (tD K M H0 λρ=>(Zr ((fa ρ).bind Zt)).map D.tup):=⟨have h:=h.h;(fM h).mono λk H Q ⟨ρ,d,R,e,q⟩=>by
 try dsimp only at e q
 cases a:Zr ((fa ρ).bind Zt)with
 |none=>rw[a]at e;cases e
 |some l=>
  rw[a]at e;cases e
  obtain⟨e,a⟩:=Qg a
  cases b:fa ρ with
  |none=>rw[b]at e;cases e
  |some g=>
   rw[b]at e
   refine⟨ρ,g,R,b,λvs m i j=>?_⟩
   have hd:=Lb j e
   refine⟨by rw[<- hd.length];exact a,λp c=>q _ _ (i.trans (FF c)) ?_⟩
   simp only[AI]
   exact⟨p,vs,rfl,BV.of Ef,hd.same (FF c)⟩⟩
end
inductive Rv where
 |val (d:D)|own (xs:List D) (b:Bool:=false)
def MQ(K:As)(N:Fb)(e H':Hp):Rv->V->Prop
 |.val d,v=>AI K N H' d v
 |.own c b,v=>∃a vs,v=.ref a/\e a=none/\H' a=some (CO b c vs)/\Ad K (λb=>N b\/b=a) H' c vs
def Bu(K:As)(F:List Sl->Option Rv):Sp:=λvs H Q _=>∃N c r,(∀a,N a->H a≠none)/\A9 K N H c vs/\F c=some r/\∀v b,Am H b->MQ K N H b r v->Q v b
@[simp] def Fn:Rv->D
  |.val d=>d
  |.own a b=>.lst a b
@[simp] def MR:Rv->Option (List D)
  |.own a=>some a
  |_=>none
@[simp] def hD:Rv->Option (List D)
  |.own a true=>some a
  |_=>none
section
variable{X:Cx}{K:As}{M:Fb}{H0:Hp}{e:Expr}{es:List Expr}{fa:VE->Option (List Sl)}{F:List Sl->Option Rv}{CX:EI}{k:Nat}{fn:Ac}{fd:Bi}{ps:List Ae}{x:Ae}{p pos:Bc}{E:XK}
@[simp] def Zo(F:List Sl->Option Rv)(fa:VE->Option (List Sl)):VE->Option D:=λa=>(fa a).bind λb=>(F b).map Fn
@[simp] def Gs(F:List Sl->Option Rv)(fa:VE->Option (List Sl)):VE->Option (List D):=λa=>(fa a).bind λb=>(F b).bind MR
theorem hG{σ:St}{H:Hp}{Q:VK}(h:tD K M H0 (Zo F fa) σ H Q):PB (Bu K F) [] E (Dw K M H0 fa) σ H Q:=by
 obtain⟨c,d,R,e,q⟩:=h
 try dsimp only at e q
 unfold Zo at e
 cases f:fa c with
 |none=>rw[f]at e;cases e
 |some g=>
  rw[f]at e
  cases i:F g with
  |none=>simp only[AA,i]at e;cases e
  |some r=>
   simp only[AA,i]at e;cases e
   refine⟨c,g,R,f,λvs t j l=>⟨Nf M c σ,g,r,(R.st j).nh,by rw[Es];exact l,i,λv m n k=>q v m (j.trans n) ?_⟩⟩
   cases r with
   |val d=>exact k
   |own u w=>
    obtain⟨a,o,p,z1,z2,z3⟩:=k
    simp only[Fn,AI]
    exact⟨a,o,p,.of (λz=>(R.st j).fresh z1 z) z2,z3.nw λb s=>.inl (.inl s)⟩
@[simp] def qv(F:List Sl->Option Rv)(fa:VE->Option (List Sl)):VE->Option (List D):=λa=>(fa a).bind λb=>(F b).bind hD
theorem hJ{σ:St}{H:Hp}{Q:VK}(h:tF K M H0 (Gs F fa) σ H Q):PB (Bu K F) [] E (Dw K M H0 fa) σ H Q:=by
 obtain⟨b,d,R,e,q⟩:=h
 try dsimp only at e q
 unfold Gs at e
 cases c:fa b with
 |none=>rw[c]at e;cases e
 |some f=>
  rw[c]at e
  cases g:F f with
  |none=>simp only[AA,g]at e;cases e
  |some r=>
   simp only[AA,g]at e
   cases r with
   |val d=>cases e
   |own s j=>
    cases j with
    |true=>cases e
    |false=>
     cases e
     refine⟨b,f,R,c,λvs t i k=>⟨Nf M b σ,f,_,(R.st i).nh,by rw[Es];exact k,g,λv l m n=>?_⟩⟩
     obtain⟨a,o,p,z1,z2,z3⟩:=n
     subst p
     exact q a o l (i.trans m) (i.free z1) z2 z3
theorem hQ(G:Az X.prog X.w X.K X.mg X.base CX k fn fd ps (Bu K F))(d:Bf k X.A)(f:Gl X x)(g:X.mg x=some (.ref fn))(i:KY X.K (.ref fn)=true)(j:Binds X.K fd ps [])(l:KW CX X E)(a:JA X (e::es) (Dw K M H0 fa))(b:(x==("__debug__":Ae))=false:=by decide)(m:AX (e::es) X.env=(false,AC e X.env)::AX es X.env:=by exact DA (λ_ _ z=>nomatch z))(c:(AZ pos (AX es X.env)).any (·.1)=false:=by rfl):JE X (.Call (.Name x p) (e::es) [] pos) (tD K M H0 (Zo F fa)):=⟨have a:=a.h;(UE G d f g i j .nil l a b m c).mono λ_ _ _ h=>hG h⟩
theorem hT(G:Az X.prog X.w X.K X.mg X.base CX k fn fd ps (Bu K F))(d:Bf k X.A)(f:Gl X x)(g:X.mg x=some (.ref fn))(i:KY X.K (.ref fn)=true)(j:Binds X.K fd ps [])(l:KW CX X E)(a:JA X (e::es) (Dw K M H0 fa))(b:(x==("__debug__":Ae))=false:=by decide)(m:AX (e::es) X.env=(false,AC e X.env)::AX es X.env:=by exact DA (λ_ _ z=>nomatch z))(c:(AZ pos (AX es X.env)).any (·.1)=false:=by rfl):JE X (.Call (.Name x p) (e::es) [] pos) (tF K M H0 (Gs F fa)):=⟨have a:=a.h;(UE G d f g i j .nil l a b m c).mono λ_ _ _ h=>hJ h⟩
end
def D4(K:As)(r:List V->Hp->VK->Prop)(F:List D->Option D):Prop:=∀(N:Fb)(H:Hp)(vs:List V)(c:List D)(d:D)(Q:VK),(∀a,N a->H a≠none)->Paired (AK K N H) c vs->F c=some d ->
 (∀v b,Am H b->AI K N b d v->Q v b)->r vs H Q
def JH(K:As)(r:List V->Hp->VK->Prop)(F:List D->Option (List D)):Prop:=∀(N:Fb)(H:Hp)(vs:List V)(b:List D)(c:List D)(Q:VK),(∀a,N a->H a≠none)->Paired (AK K N H) b vs->F b=some c ->
 (∀d p,H p=none->Ad K N H c d->Q (.ref p) (A3 H p (.lst d)))->r vs H Q
@[simp] def Bw:List Sl->Option (List D)
  |[]=>some []
  |s::r=>Zb (pk s) (Bw r)
theorem MS{K:As}{N:Fb}{H:Hp}:∀{a:List Sl}{vs:List V}{b:List D},A9 K N H a vs->Bw a=some b->Paired (AK K N H) b vs
 |[],_,_,h,e=>by cases e;cases h;exact .nil
 |s::r,_,_,⟨v,t,f,h,g⟩,e=>by
  obtain⟨x,y,c,i,j⟩:=MP e
  subst f j
  obtain⟨d,hd,k⟩:=h.p
  rw[hd]at c;cases c
  exact .cons k (MS g i)
section
variable{X:Cx}{K:As}{M:Fb}{H0:Hp}{e:Expr}{es:List Expr}{fa:VE->Option (List Sl)}{x:Ae}{p pos:Bc}{r:List V->Hp->VK->Prop}{F:List D->Option D}{G:List D->Option (List D)}{id:String}
@[simp] def ZA(F:List D->Option D)(fa:VE->Option (List Sl)):VE->Option D:=λa=>((fa a).bind Bw).bind F
@[simp] def CA(F:List D->Option (List D))(fa:VE->Option (List Sl)):VE->Option (List D):=λa=>((fa a).bind Bw).bind F
theorem Vc(i:D4 K r F){σ:St}{H:Hp}{Q:VK}(h:tD K M H0 (ZA F fa) σ H Q):MF r (Dw K M H0 fa) σ H Q:=by
 obtain⟨a,d,R,e,q⟩:=h
 try dsimp only at e q
 unfold ZA at e
 cases b:fa a with
 |none=>rw[b]at e;cases e
 |some f=>
  rw[b]at e
  cases c:Bw f with
  |none=>simp only[AA,c]at e;cases e
  |some j=>
   simp only[AA,c]at e
   exact⟨a,f,R,b,λvs k g l=>i (Nf M a σ) k vs j d Q (R.st g).nh (MS l c) e λv m s n=>q v m (g.trans s) n⟩
theorem Vd(i:JH K r G){σ:St}{H:Hp}{Q:VK}(h:tF K M H0 (CA G fa) σ H Q):MF r (Dw K M H0 fa) σ H Q:=by
 obtain⟨b,d,R,e,q⟩:=h
 try dsimp only at e q
 unfold CA at e
 cases c:fa b with
 |none=>rw[c]at e;cases e
 |some f=>
  rw[c]at e
  cases a:Bw f with
  |none=>simp only[AA,a]at e;cases e
  |some j=>
   simp only[AA,a]at e
   exact⟨b,f,R,c,λvs k g l=>i (Nf M b σ) k vs j d Q (R.st g).nh (MS l a) e λn p a m=>Lc g a m q⟩
theorem ZL(d:Bd X (.builtin id) r)(f:D4 K r F)(g:Gl X x)(i:X.mg x=none)(j:Ep x=some (.builtin id))(a:JA X (e::es) (Dw K M H0 fa))(k:x≠"__name__":=by decide)(b:(x==("__debug__":Ae))=false:=by decide)(l:AX (e::es) X.env=(false,AC e X.env)::AX es X.env:=by exact DA (λ_ _ z=>nomatch z))(c:(AZ pos (AX es X.env)).any (·.1)=false:=by rfl):JE X (.Call (.Name x p) (e::es) [] pos) (tD K M H0 (ZA F fa)):=⟨have a:=a.h;(PH d g i j a k b l c).mono λ_ _ _ h=>Vc f h⟩
theorem hU(d:Bd X (.builtin id) r)(f:JH K r G)(g:Gl X x)(i:X.mg x=none)(j:Ep x=some (.builtin id))(a:JA X (e::es) (Dw K M H0 fa))(k:x≠"__name__":=by decide)(b:(x==("__debug__":Ae))=false:=by decide)(l:AX (e::es) X.env=(false,AC e X.env)::AX es X.env:=by exact DA (λ_ _ z=>nomatch z))(c:(AZ pos (AX es X.env)).any (·.1)=false:=by rfl):JE X (.Call (.Name x p) (e::es) [] pos) (tF K M H0 (CA G fa)):=⟨have a:=a.h;(PH d g i j a k b l c).mono λ_ _ _ h=>Vd f h⟩
theorem FG(d:Bd X (.type id) r)(f:D4 K r F)(g:Gl X x)(i:X.mg x=none)(j:Ep x=some (.type id))(a:JA X (e::es) (Dw K M H0 fa))(k:x≠"__name__":=by decide)(b:(x==("__debug__":Ae))=false:=by decide)(l:AX (e::es) X.env=(false,AC e X.env)::AX es X.env:=by exact DA (λ_ _ z=>nomatch z))(c:(AZ pos (AX es X.env)).any (·.1)=false:=by rfl):JE X (.Call (.Name x p) (e::es) [] pos) (tD K M H0 (ZA F fa)):=⟨have a:=a.h;(UN d g i j a k b l c).mono λ_ _ _ h=>Vc f h⟩
theorem Qh(d:Bd X (.type id) r)(f:JH K r G)(g:Gl X x)(i:X.mg x=none)(j:Ep x=some (.type id))(a:JA X (e::es) (Dw K M H0 fa))(k:x≠"__name__":=by decide)(b:(x==("__debug__":Ae))=false:=by decide)(l:AX (e::es) X.env=(false,AC e X.env)::AX es X.env:=by exact DA (λ_ _ z=>nomatch z))(c:(AZ pos (AX es X.env)).any (·.1)=false:=by rfl):JE X (.Call (.Name x p) (e::es) [] pos) (tF K M H0 (CA G fa)):=⟨have a:=a.h;(UN d g i j a k b l c).mono λ_ _ _ h=>Vd f h⟩
theorem D4.or{r c:List V->Hp->VK->Prop}{F f:List D->Option D}(h:D4 K r F)(h':D4 K c f):D4 K (λxs H Q=>r xs H Q\/c xs H Q) (λa=>JC (F a) (f a)):=by
 intro N H vs a d Q g i e q
 cases b:F a with
 |some z=>simp only[b,JC]at e;cases e;exact .inl (h N H vs a d Q g i b q)
 |none=>simp only[b,JC]at e;exact .inr (h' N H vs a d Q g i e q)
end
inductive An where
 |fail|next(ρ:VE)|brk (ρ:VE)|cont (ρ:VE)|ret (r:Rv)
def G3(K:As)(M:Fb)(d:Hp)(ρ:VE)(σ:St)(H:Hp)(b:VE)(Q:St->Hp->Prop):Prop:=∀a c,BC K M d b a c->Step M (Nf M ρ σ) (Nf M b a) H c->Q a c
def Ce(K:As)(M:Fb)(b:Hp)(ρ:VE)(σ:St)(H:Hp)(D:Ends):An->Prop
 |.fail=>False
 |.next a=>G3 K M b ρ σ H a D.nx
 |.brk a=>G3 K M b ρ σ H a D.bk
 |.cont a=>G3 K M b ρ σ H a D.ct
 |.ret r=>∀v c,Am b c->MQ K M b c r v->D.rt v c
def tS(K:As)(M:Fb)(b:Hp)(g:VE->An):TS:=λD c H=>∃a,BC K M b a c H/\Ce K M b a c H D (g a)
@[simp] def Zf(a:An)(g:VE->An):An:=match a with
  |.next b=>g b
  |r=>r
theorem G3.from{K:As}{M:Fb}{e:Hp}{ρ a b:VE}{σ c:St}{H f:Hp}{Q:St->Hp->Prop}(s:Step M (Nf M ρ σ) (Nf M a c) H f)(h:G3 K M e ρ σ H b Q):G3 K M e a c f b Q:=
 λd g R i=>h d g R (s.trans i)
theorem Ce.from{K:As}{M:Fb}{d:Hp}{ρ a:VE}{σ b:St}{H e:Hp}{D:Ends}{r:An}(s:Step M (Nf M ρ σ) (Nf M a b) H e)(h:Ce K M d ρ σ H D r):Ce K M d a b e D r:=by
 cases r with
 |fail=>exact h
 |next c=>exact G3.from s h
 |brk c=>exact G3.from s h
 |cont c=>exact G3.from s h
 |ret r=>exact h
section
variable{X:Cx}{K:As}{M:Fb}{H0:Hp}{st:Ay}{B3:List Ay}{g g1 g2:VE->An}{pos:Bc}{e:Expr}{f:VE->Option D}
theorem Zg :JB X [] (tS K M H0 λρ=>.next ρ):=⟨GU.mono λD a H ⟨ρ,R,q⟩=>q a H R Step.refl⟩
theorem Zc(c:JS X st (tS K M H0 g1))(d:JB X B3 (tS K M H0 g2)):JB X (st::B3) (tS K M H0 λρ=>Zf (g1 ρ) g2):=⟨have c:=c.h;have d:=d.h;(en c d).mono λD i H ⟨ρ,R,q⟩=>by
 try dsimp only at q
 refine⟨ρ,R,?_⟩
 cases b:g1 ρ with
 |fail=>rw[b]at q;exact q
 |next a=>rw[b]at q;exact λe j f g=>⟨a,f,q.from g⟩
 |brk a=>rw[b]at q;exact q
 |cont a=>rw[b]at q;exact q
 |ret r=>rw[b]at q;exact q⟩
@[simp] def ZH(o:Option D):An:=match o with
  |some d=>.ret (.val d)
  |none=>.fail
theorem ZB(h:JE X e (tD K M H0 f)):JS X (.Return (some e) pos) (tS K M H0 λρ=>ZH (f ρ)):=⟨have h:=h.h;(KN h).mono λD j H ⟨ρ,R,q⟩=>by
 try dsimp only at q
 cases b:f ρ with
 |none=>rw[b]at q;exact BW q
 |some d=>
  rw[b]at q
  exact⟨ρ,d,R,b,λv c s g=>q v c (R.same.trans s) (g.nw λa i=>.inl (.inl i))⟩⟩
@[simp] def Cf(o:Option (List D)):An:=match o with
  |some a=>.ret (.own a)
  |none=>.fail
@[simp] def IB(o:Option (List D)):An:=match o with
  |some a=>.ret (.own a true)
  |none=>.fail
theorem hV{f:VE->Option (List D)}(h:JE X e (Jy true K M H0 f)):JS X (.Return (some e) pos) (tS K M H0 λρ=>IB (f ρ)):=⟨have h:=h.h;(KN h).mono λD j H ⟨ρ,R,q⟩=>by
 try dsimp only at q
 cases d:f ρ with
 |none=>rw[d]at q;exact BW q
 |some g=>
  rw[d]at q
  exact⟨ρ,g,R,d,λa vs i s z1 z2 z3=>q (.ref a) i (R.same.trans s) ⟨a,vs,rfl,R.same.free z1,z2,z3.nw λb c=>by
   rcases c with c|c
   ·exact .inl (.inl (.inl c))
   ·exact .inl (.inr c)⟩⟩⟩
theorem Gu{f:VE->Option (List D)}(h:JE X e (tF K M H0 f)):JS X (.Return (some e) pos) (tS K M H0 λρ=>Cf (f ρ)):=⟨have h:=h.h;(KN h).mono λD j H ⟨ρ,R,q⟩=>by
 try dsimp only at q
 cases d:f ρ with
 |none=>rw[d]at q;exact BW q
 |some g=>
  rw[d]at q
  exact⟨ρ,g,R,d,λa vs i s z1 z2 z3=>q (.ref a) i (R.same.trans s) ⟨a,vs,rfl,R.same.free z1,z2,z3.nw λb c=>by
   rcases c with c|c
   ·exact .inl (.inl (.inl c))
   ·exact .inl (.inr c)⟩⟩⟩
@[simp] def BX(ρ:VE)(i:Nat):Option (List D):=match ρ[i]? with
  |some (.own a)=>some a
  |_=>none
theorem MT{ρ:VE}{i:Nat}{xs:List D}(h:BX ρ i=some xs):ρ[i]?=some (.own xs):=by
 unfold BX at h
 split at h
 ·cases h;assumption
 ·cases h
@[simp] def ER(ρ:VE)(i:Nat):Option (List D):=match ρ[i]? with
  |some (.own a true)=>some a
  |_=>none
theorem Ld{ρ:VE}{i:Nat}{xs:List D}(h:ER ρ i=some xs):ρ[i]?=some (.own xs true):=by
 unfold ER at h
 split at h
 ·cases h;assumption
 ·cases h
theorem AR{σ:St}{i:Nat}{v:V}(a:σ[i]?.join=some v):σ[i]?=some (some v):=by
 cases z:σ[i]? with
 |none=>rw[z]at a;cases a
 |some o=>rw[z]at a;cases a;rfl
theorem hW{i:Nat}{x:Ae}{c:Bc}(h:X.N[i]?=some x)(j:Dq X.env.scope x)(hd:(x==("__debug__":Ae))=false:=by decide)(f:(x==("__classdict__":Ae))=false:=by decide):
  PS X (.Return (some (.Name x c)) pos) (tS K M H0 λρ=>Cf (BX ρ i)):=(KN (Fz h j hd f)).mono λD l H ⟨ρ,R,q⟩=>by
 try dsimp only at q
 cases e:BX ρ i with
 |none=>rw[e]at q;exact BW q
 |some k=>
  rw[e]at q
  obtain⟨a,vs,g,z1,z2,z3,z4⟩:=R.slot i _ (MT e)
  refine⟨.ref a,AR g,q (.ref a) H R.same ⟨a,vs,rfl,z1,z3,z4.nw λb d=>.inl ?_⟩⟩
  rcases d with d|d
  ·exact .inl d
  ·subst d;exact .inr ⟨i,k,_,MT e,AR g⟩
theorem hX{i:Nat}{x:Ae}{c:Bc}(h:X.N[i]?=some x)(j:Dq X.env.scope x)(hd:(x==("__debug__":Ae))=false:=by decide)(f:(x==("__classdict__":Ae))=false:=by decide):
  PS X (.Return (some (.Name x c)) pos) (tS K M H0 λρ=>IB (ER ρ i)):=(KN (Fz h j hd f)).mono λD l H ⟨ρ,R,q⟩=>by
 try dsimp only at q
 cases e:ER ρ i with
 |none=>rw[e]at q;exact BW q
 |some k=>
  rw[e]at q
  obtain⟨a,vs,g,z1,z2,z3,z4⟩:=R.slot i _ (Ld e)
  refine⟨.ref a,AR g,q (.ref a) H R.same ⟨a,vs,rfl,z1,z3,z4.nw λb d=>.inl ?_⟩⟩
  rcases d with d|d
  ·exact .inl d
  ·subst d;exact .inr ⟨i,k,_,Ld e,AR g⟩
@[simp] def ZI(c:Option Bool)(a b:An):An:=match c with
  |some true=>a
  |some false=>b
  |none=>.fail
theorem ZW{c:Expr}{a b:List Ay}{t:VE->Option Bool}(d:JT X c (BJ K M H0 t))(e:JB X a (tS K M H0 g1))(f:JB X b (tS K M H0 g2)):JS X (.If c a b pos) (tS K M H0 λρ=>ZI (t ρ) (g1 ρ) (g2 ρ)):=⟨have d:=d.h;have e:=e.h;have f:=f.h;(ew d e f).mono λD i H ⟨ρ,R,q⟩=>by
 try dsimp only at q
 cases g:t ρ with
 |none=>rw[g]at q;exact BW q
 |some k=>
  rw[g]at q
  refine⟨ρ,k,R,g,λj s=>?_⟩
  cases k with
  |true=>refine Jw ?_;exact⟨ρ,R.st s,Ce.from (Step.of_same s) q⟩
  |false=>refine Jx ?_;exact⟨ρ,R.st s,Ce.from (Step.of_same s) q⟩⟩
theorem HD{b:Type}{l:List b}{i:Nat}{x y:b}(h:(l.set i x)[i]?=some y):i<l.length/\x=y:=by
 by_cases a:i<l.length
 ·rw[KH a]at h;exact⟨a,Fy h⟩
 ·rw[Qi (by simpa using Nat.le_of_not_lt a)]at h;cases h
theorem JJ{M:Fb}{ρ:VE}{σ:St}{i:Nat}{s:Sl}{v:V}{b:Ac}(d:ρ.length=σ.length)(h:Nf M (ρ.set i s) (σ.set i (some v)) b):Nf M ρ σ b\/∃xs fl,s=.own xs fl/\v=.ref b:=by
 rcases h with h|⟨j,xs,fl,a,c⟩
 ·exact .inl (.inl h)
 ·by_cases e:i=j
  ·subst e
   have q1:=(HD a).2
   have q2:=(HD c).2
   cases q1;cases q2;exact .inr ⟨xs,fl,rfl,rfl⟩
  ·rw[Gk e]at a c
   exact .inl (.inr ⟨j,xs,fl,a,c⟩)
theorem BC.put{ρ:VE}{σ:St}{H H':Hp}{i:Nat}{s:Sl}{v:V}(R:BC K M H0 ρ σ H)(S:Step M (Nf M ρ σ) (Nf M (ρ.set i s) (σ.set i (some v))) H H')(sm:Am H0 H')
  (A:∀j a vs xs fl,j≠i->ρ[j]?=some (.own xs fl)->σ[j]?=some (some (.ref a))->H a=some (CO fl xs vs)->H' a=some (CO fl xs vs))
  (B:i<ρ.length->U8 K M (Nf M (ρ.set i s) (σ.set i (some v))) H0 H' s (some v))
  (l:∀xs fl a j ys b,s=.own xs fl->v=.ref a->j≠i->ρ[j]?=some (.own ys b)->σ[j]?≠some (some (.ref a))):BC K M H0 (ρ.set i s) (σ.set i (some v)) H' where
 len:=by rw[List.length_set,List.length_set];exact R.len
 same:=sm
 mh:=λa h z=>by
  cases e:H a with
  |none=>exact R.mh a h e
  |some o=>rw[S.kp a o e (.inr (.inl h))]at z;cases z
 slot:=λj x e=>by
  by_cases p:i=j
  ·subst p
   obtain⟨y,e⟩:=HD e
   subst e
   rw[KH (by rw[<- R.len];exact y)]
   exact B y
  ·rw[Gk p]at e ⊢
   have q:=R.slot j x e
   cases x with
   |no=>trivial
   |val d=>obtain⟨u,m,h⟩:=q;exact⟨u,m,AI.step S d u h⟩
   |own xs fl=>obtain⟨a,vs,m,f,g,n,r⟩:=q;exact⟨a,vs,m,f,g,A j a vs xs fl (Br p) e (AR m) n,Ad.step S xs vs r⟩
   |lent xs fl=>obtain⟨a,vs,m,f,g,n⟩:=q;exact⟨a,vs,m,f,g.step S (.inr (.inl f)),Ad.step S xs vs n⟩
   |exc c=>obtain⟨a,C,m,f,g⟩:=q;exact⟨a,C,m,f,S.kp _ _ g (.inr (.inr rfl))⟩
 inj:=λj k xs ys fl b a f g n r=>by
  by_cases w:i=j
  ·by_cases t:i=k
   ·rw[<- w,t]
   ·subst w
    rw[Gk t]at g r
    have q1:=(HD f).2
    have q3:=(HD n).2
    cases q1;cases q3;exact absurd r (l xs fl a k ys b rfl rfl (Br t) g)
  ·rw[Gk w]at f n
   by_cases t:i=k
   ·subst t
    have q2:=(HD g).2
    have q4:=(HD r).2
    cases q2;cases q4;exact absurd n (l ys b a j xs fl rfl rfl (Br w) f)
   ·rw[Gk t]at g r
    exact R.inj j k xs ys fl b a f g n r
theorem BC.setV{ρ:VE}{σ:St}{H H':Hp}{i:Nat}{d:D}{v:V}(R:BC K M H0 ρ σ H)(s:Am H H')(h:AI K (Nf M ρ σ) H' d v):
  BC K M H0 (ρ.set i (.val d)) (σ.set i (some v)) H'/\Step M (Nf M ρ σ) (Nf M (ρ.set i (.val d)) (σ.set i (some v))) H H':=by
 have S:Step M (Nf M ρ σ) (Nf M (ρ.set i (.val d)) (σ.set i (some v))) H H':=⟨λa o e _=>s a o e,λb c=>by
  rcases JJ R.len c with q|⟨f,_,e,_⟩
  ·exact .inl q
  ·cases e⟩
 refine⟨R.put S (R.same.trans s) (λj a vs f g _ _ _ e=>s _ _ e) (λ_=>⟨v,rfl,h.nw λb c=>?_⟩) (λf g a j l k e=>nomatch e),S⟩
 rcases JJ R.len c with q|⟨f,_,e,_⟩
 ·exact .inl q
 ·cases e
theorem BC.setO{fl:Bool}{ρ:VE}{σ:St}{H H':Hp}{i:Nat}{xs:List D}{a:Ac}{vs:List V}(R:BC K M H0 ρ σ H)(s:Am H H')(d:H a=none)(k:H' a=some (CO fl xs vs))(h:Ad K (λb=>Nf M ρ σ b\/b=a) H' xs vs):
  BC K M H0 (ρ.set i (.own xs fl)) (σ.set i (some (.ref a))) H'/\Step M (Nf M ρ σ) (Nf M (ρ.set i (.own xs fl)) (σ.set i (some (.ref a)))) H H':=by
 have nf:∀b,Nf M (ρ.set i (.own xs fl)) (σ.set i (some (.ref a))) b->Nf M ρ σ b\/b=a:=λb c=>by
  rcases JJ R.len c with q|⟨xs,fl,e,f⟩
  ·exact .inl q
  ·cases f;exact .inr rfl
 have S:Step M (Nf M ρ σ) (Nf M (ρ.set i (.own xs fl)) (σ.set i (some (.ref a)))) H H':=⟨λa o e _=>s a o e,λb c=>by
  rcases nf b c with q|q
  ·exact .inl q
  ·subst q;exact .inr d⟩
 refine⟨R.put S (R.same.trans s) (λj a vs xs fl _ _ _ e=>s _ _ e) (λ_=>⟨a,vs,rfl,R.same.free d,λl=>R.fresh d (.inl l),k,h.nw λb c=>.inl (nf b c)⟩) (λm n u j p g e f v r t=>?_),S⟩
 cases f
 exact R.fresh d (.inr ⟨j,p,g,r,t⟩)
theorem BC.chg{fl fl2:Bool}{ρ:VE}{σ:St}{H:Hp}{i:Nat}{xs ys:List D}{a:Ac}{ws:List V}(R:BC K M H0 ρ σ H)(k:ρ[i]?=some (.own xs fl))(d:σ[i]?=some (some (.ref a)))(h:Ad K (Nf M ρ σ) H ys ws):
  BC K M H0 (ρ.set i (.own ys fl2)) σ (A3 H a (CO fl2 ys ws))/\Step M (Nf M ρ σ) (Nf M (ρ.set i (.own ys fl2)) σ) H (A3 H a (CO fl2 ys ws)):=by
 obtain⟨w,vs,u,z1,z2,z3,z4⟩:=R.slot i _ k
 rw[d]at u
 have x:a=w:=by simpa using u
 subst x
 have l:σ.set i (some (.ref a))=σ:=by
  apply JL
  intro j
  by_cases e:i=j
  ·subst e
   rw[KH (List.getElem?_eq_some_iff.mp d).1,d]
  ·rw[Gk e]
 have v:Nf M ρ σ a:=.inr ⟨i,xs,fl,k,d⟩
 have nf:∀b,Nf M (ρ.set i (.own ys fl2)) (σ.set i (some (.ref a))) b->Nf M ρ σ b:=λb m=>by
  rcases JJ R.len m with q|⟨xs,_,e,n⟩
  ·exact q
  ·cases n;exact v
 have S:Step M (Nf M ρ σ) (Nf M (ρ.set i (.own ys fl2)) (σ.set i (some (.ref a)))) H (A3 H a (CO fl2 ys ws)):=⟨λb o e z=>by
   have ne:b≠a:=by
    rintro rfl
    rcases z with z|z|z
    ·exact z v
    ·exact z2 z
    ·rw[z3]at e;cases e;rw[gQ]at z;cases z
   rw[ZK ne];exact e,λb m=>.inl (nf b m)⟩
 have f:BC K M H0 (ρ.set i (.own ys fl2)) (σ.set i (some (.ref a))) (A3 H a (CO fl2 ys ws)):=by
  refine R.put S (λb o e=>?_) (λj b B g c p r s y=>?_) (λ_=>⟨a,ws,rfl,z1,z2,Ef,Ad.step S ys ws h⟩) (λg A b j t c e n p r s=>?_)
  ·have ne:b≠a:=by
    rintro rfl
    rw[z1]at e;cases e
   rw[ZK ne];exact R.same b o e
  ·have ne:b≠a:=by
    rintro rfl
    exact p (R.inj j i g xs c fl b r k s d)
   rw[ZK ne];exact y
  ·cases n
   exact p (R.inj j i t xs c fl _ r k s d)
 rw[l]at f S
 exact⟨f,S⟩
theorem BC.frz{fl:Bool}{ρ:VE}{σ:St}{H:Hp}{i:Nat}{xs:List D}(R:BC K M H0 ρ σ H)(m:ρ[i]?=some (.own xs fl)):
  BC K M H0 (ρ.set i (.val (.lst xs fl))) σ H/\Step M (Nf M ρ σ) (Nf M (ρ.set i (.val (.lst xs fl))) σ) H H:=by
 obtain⟨a,vs,o,z1,z2,z3,z4⟩:=R.slot i _ m
 have d:=AR o
 have f:σ.set i (some (.ref a))=σ:=by
  apply JL
  intro j
  by_cases e:i=j
  ·subst e
   rw[KH (List.getElem?_eq_some_iff.mp d).1,d]
  ·rw[Gk e]
 have nf:∀b,Nf M (ρ.set i (.val (.lst xs fl))) (σ.set i (some (.ref a))) b->Nf M ρ σ b:=λb g=>by
  rcases JJ R.len g with q|⟨xs,_,e,u⟩
  ·exact q
  ·cases e
 have k:¬ Nf M (ρ.set i (.val (.lst xs fl))) (σ.set i (some (.ref a))) a:=by
  rintro(h|⟨j,p,r,l,n⟩)
  ·exact z2 h
  ·by_cases e:i=j
   ·subst e
    have q1:=(HD l).2
    cases q1
   ·rw[Gk e]at l n
    exact e (R.inj i j xs p _ _ a m l d n)
 have S:Step M (Nf M ρ σ) (Nf M (ρ.set i (.val (.lst xs fl))) (σ.set i (some (.ref a)))) H H:=⟨λ_ _ e _=>e,λb g=>.inl (nf b g)⟩
 have c:BC K M H0 (ρ.set i (.val (.lst xs fl))) (σ.set i (some (.ref a))) H:=by
  refine R.put S R.same (λ_ _ _ _ _ _ _ _ h=>h) (λ_=>⟨.ref a,rfl,?_⟩) (λs _ b j t _ e=>nomatch e)
  simp only[AI]
  exact⟨a,vs,rfl,.of k z3,Ad.step S xs vs z4⟩
 rw[f]at c S
 exact⟨c,S⟩
@[simp] def Zw(i:Nat)(o:Option D)(ρ:VE):An:=match o with
  |some d=>.next (ρ.set i (.val d))
  |none=>.fail
@[simp] def CN(i:Nat)(o:Option (List D))(ρ:VE):An:=match o with
  |some a=>.next (ρ.set i (.own a))
  |none=>.fail
@[simp] def ES(i:Nat)(o:Option (List D))(ρ:VE):An:=match o with
  |some a=>.next (ρ.set i (.own a true))
  |none=>.fail
theorem hY{f:VE->Option (List D)}{i:Nat}{c:Ends}{σ:St}{H:Hp}(h:tS K M H0 (λρ=>ES i (f ρ) ρ) c σ H):Jl (Jy true K M H0 f) (Io i) c σ H:=by
 obtain⟨ρ,R,q⟩:=h
 try dsimp only at q
 cases b:f ρ with
 |none=>simp only[b,ES]at q;exact BW q
 |some d=>
  simp only[b,ES]at q
  refine⟨ρ,d,R,b,λa vs g s z1 z2 z3=>?_⟩
  obtain⟨e,S1⟩:=R.setO (i:=i) s z1 z2 z3
  exact q _ _ e S1
theorem Le{f:VE->Option (List D)}{i:Nat}{x:Ae}{a:Bc}(c:X.N.Nodup)(d:X.N[i]?=some x)(g:Loc X.env.scope x)(b:JE X e (Jy true K M H0 f))(j:Fg e (some (.Name x a)) pos.line X.env=AQ false:=by rfl)(k:X.fn x=true\/X.env.scope.names.lookup x=some .local:=by first|exact .inl rfl|exact .inr rfl|assumption):JS X (.Assign [.Name x a] e pos) (tS K M H0 λρ=>ES i (f ρ) ρ):=⟨have b:=b.h;(MA c d g b j k).mono λ_ _ _ q=>hY q⟩
theorem Ve{i:Nat}{b:Ends}{σ:St}{H:Hp}(h:tS K M H0 (λρ=>Zw i (f ρ) ρ) b σ H):Jl (tD K M H0 f) (Io i) b σ H:=by
 obtain⟨ρ,R,q⟩:=h
 try dsimp only at q
 cases a:f ρ with
 |none=>simp only[a,Zw]at q;exact BW q
 |some d=>
  simp only[a,Zw]at q
  refine⟨ρ,d,R,a,λv g s c=>?_⟩
  obtain⟨e,S1⟩:=R.setV (i:=i) s c
  exact q _ _ e S1
theorem hZ{f:VE->Option (List D)}{i:Nat}{c:Ends}{σ:St}{H:Hp}(h:tS K M H0 (λρ=>CN i (f ρ) ρ) c σ H):Jl (tF K M H0 f) (Io i) c σ H:=by
 obtain⟨ρ,R,q⟩:=h
 try dsimp only at q
 cases b:f ρ with
 |none=>simp only[b,CN]at q;exact BW q
 |some d=>
  simp only[b,CN]at q
  refine⟨ρ,d,R,b,λa vs g s z1 z2 z3=>?_⟩
  obtain⟨e,S1⟩:=R.setO (i:=i) s z1 z2 z3
  exact q _ _ e S1
theorem h7{i:Nat}{x:Ae}{a:Bc}(c:X.N.Nodup)(d:X.N[i]?=some x)(g:Loc X.env.scope x)(b:JE X e (tD K M H0 f))(j:Fg e (some (.Name x a)) pos.line X.env=AQ false:=by rfl)(k:X.fn x=true\/X.env.scope.names.lookup x=some .local:=by first|exact .inl rfl|exact .inr rfl|assumption):JS X (.Assign [.Name x a] e pos) (tS K M H0 λρ=>Zw i (f ρ) ρ):=⟨have b:=b.h;(MA c d g b j k).mono λ_ _ _ q=>Ve q⟩
theorem FH{f:VE->Option (List D)}{i:Nat}{x:Ae}{a:Bc}(c:X.N.Nodup)(d:X.N[i]?=some x)(g:Loc X.env.scope x)(b:JE X e (tF K M H0 f))(j:Fg e (some (.Name x a)) pos.line X.env=AQ false:=by rfl)(k:X.fn x=true\/X.env.scope.names.lookup x=some .local:=by first|exact .inl rfl|exact .inr rfl|assumption):JS X (.Assign [.Name x a] e pos) (tS K M H0 λρ=>CN i (f ρ) ρ):=⟨have b:=b.h;(MA c d g b j k).mono λ_ _ _ q=>hZ q⟩
@[simp] def IC(i:Nat)(ρ:VE):VE:=match ρ[i]? with
  |some (.own a b)=>ρ.set i (.val (.lst a b))
  |_=>ρ
theorem ie(i:Nat)(h:JS X st (tS K M H0 g)):JS X st (tS K M H0 λρ=>g (IC i ρ)):=⟨have h:=h.h;h.mono λc d H ⟨ρ,R,q⟩=>by
 try dsimp only at q
 unfold IC at q
 split at q
 ·next e a=>
  obtain⟨b,S1⟩:=R.frz a
  exact⟨_,b,q.from S1⟩
 ·exact⟨ρ,R,q⟩⟩
@[simp] def CI(i:Nat)(o:Option D)(ρ:VE):An:=match BX ρ i,o with
  |some a,some d=>if a.length<AG then .next (ρ.set i (.own (a++[d])))else .fail
  |_,_=>.fail
theorem FI{i:Nat}{x:Ae}{c g b:Bc}(z:X.N[i]?=some x)(o:Dq X.env.scope x)(p:JE X e (tD K M H0 f))(hd:(x==("__debug__":Ae))=false:=by decide)(r:(x==("__classdict__":Ae))=false:=by decide)(A:Fg (.Call (.Attribute (.Name x c) "append" g) [e] [] b) none pos.line X.env=AQ false:=by rfl)(j:Jt (.Name x c) "append" X.env (AC (.Name x c) X.env)=AC (.Name x c) X.env:=by rfl) (l:((AZ b (AX [e] X.env)).all (λx=>!x.1)&&(backToKw b (BN [] X.env)).all (λx=>x.1.isSome)
   && decide ([e].length+([]:List Keyword).length+(if([]:List Keyword).isEmpty then 0 else 1)<30))=true:=by rfl) (k:(g.endLine==b.line)=true:=by rfl) (m:AX [e] X.env=(false,AC e X.env)::AX [] X.env:=by rfl) (t:(AZ b (AX [] X.env)).any (·.1)=false:=by rfl):JS X (.Expr (.Call (.Attribute (.Name x c) "append" g) [e] [] b) pos) (tS K M H0 λρ=>CI i (f ρ) ρ):=⟨have p:=p.h;(Px (MG PySem.F.plainAttrs_list PySem.F.slot_list_append PySem.F.type_list_append gl (Fz z o hd r) (Ej p BK m) j l k m t) A).mono λI J H ⟨ρ,R,q⟩=>by
  try dsimp only at q
  cases n:BX ρ i with
  |none=>simp only[n,CI]at q;exact BW q
  |some B=>
   cases u:f ρ with
   |none=>simp only[n,u,CI]at q;exact BW q
   |some d=>
    simp only[n,u,CI]at q
    split at q
    ·next C=>
     have w:=MT n
     obtain⟨a,vs,E,z1,z2,z3,z4⟩:=R.slot i _ w
     have y:=AR E
     refine⟨.ref a,y,.inl ⟨rfl,vs,.inl (.inl z3)⟩,ρ,d,R,u,λv L s o=>?_⟩
     have G:=R.st s
     obtain⟨R2,S2⟩:=G.chg (ys:=B++[d]) (ws:=vs++[v]) w y ((z4.same s).append (Ad.cons o Ad.nil))
     exact⟨a,vs,v,rfl,rfl,s _ _ z3,by rw[<- z4.length];exact C,q _ _ R2 ((Step.of_same s).trans S2)⟩
    ·exact BW q⟩
end
def Lf(K:As)(M N:Fb)(e:Hp)(J:It)(c:List D):Prop:=∀N2 a,Step M N N2 e a->∀i,(∀d,c[i]?=some d->J.go i a/\∀x b,J.yld i a x b->Am a b/\AI K N2 b d x)/\(i=c.length->J.stop i a)
def tI(K:As)(M:Fb)(e:Hp)(f:VE->Option (List D)):TI:=λc H R=>∃a d,BC K M e a c H/\f a=some d/\∀J b,Am H b->Lf K M (Nf M a c) b J d->R J b
def tG(K:As)(M:Fb)(g:Hp)(ws:List Nat)(b:D->VE->Option VE):TG:=λv e H Q=>∃f d c,BC K M g f e H/\AI K (Nf M f e) H d v/\b d f=some c/\∀a ,BC K M g c a H->Step M (Nf M f e) (Nf M c a) H H->(∀j,j∉ws->a[j]?=e[j]?)->Q a H
@[simp] def Zk(i:Nat)(d:D)(ρ:VE):Option VE:=some (ρ.set i (.val d))
def ZO(b:D->VE->Option VE)(g:VE->An):List D->VE->An
 |[],c=>.next c
 |d::f,c=>match b d c with
  |none=>.fail
  |some e=>match g e with
   |.next a=>ZO b g f a
   |.cont a=>ZO b g f a
   |.brk a=>.next a
   |r=>r
@[simp] def ZT(f:VE->Option (List D))(b:D->VE->Option VE)(g:VE->An):VE->An:=λa=>match f a with
  |some c=>ZO b g c a
  |none=>.fail
section
variable{X:Cx}{K:As}{M:Fb}{H0:Hp}{pos:Bc}{e tg iter:Expr}{f:VE->Option (List D)}{b:D->VE->Option VE}{g:VE->An}{body:List Ay}
theorem ig{i:Nat}{x:Ae}(b:X.N.Nodup)(c:X.N[i]?=some x)(f:Loc X.env.scope x)(g:X.fn x=true\/X.env.scope.names.lookup x=some .local:=by first|exact .inl rfl|exact .inr rfl|assumption):JG X (.Name x pos) (tG K M H0 [i] (Zk i)):=⟨by
 intro a s h H v u Q I r ⟨n,d,k,R,hd,e,q⟩
 cases e
 obtain⟨l,S1⟩:=R.setV (i:=i) (Am.refl H) hd
 exact ez b c f g a s h H v u Q I r (q _ l S1 λj m=>by rw[Gk (λe=>m (by rw[e];simp))])⟩
theorem ij{ws:List Nat}{E:Ends}{σ:St}{H:Hp}{U:TI}{B:TG}{Y:TS}(hi:∀σ H R,tI K M H0 f σ H R->U σ H R)(hg:∀v σ H Q,tG K M H0 ws b v σ H Q->B v σ H Q)(hb:∀D σ H,tS K M H0 g D σ H->Y D σ H)
  (h:tS K M H0 (ZT f b g) E σ H):Us U B Y E σ H:=by
 obtain⟨C,R,q⟩:=h
 try dsimp only at q
 unfold ZT at q
 cases G:f C with
 |none=>rw[G]at q;exact BW q
 |some d=>
  rw[G]at q
  refine hi _ _ _ ⟨C,d,R,G,λJ H1 s1 ok=>?_⟩
  refine⟨λi m j A=>m=d.length-i/\i<=d.length/\∃a,BC K M H0 a j A/\Step M (Nf M C σ) (Nf M a j) H1 A/\Ce K M H0 a j A E (ZO b g (d.drop i) a),⟨d.length,by simp,Hv _,C,R.st s1,Step.refl,?_⟩,?_⟩
  ·exact Ce.from (Step.of_same s1) q
  ·rintro i m j A ⟨rfl,hle,a,Ri,I,c⟩
   obtain⟨L,N⟩:=ok _ _ I i
   by_cases n:i<d.length
   ·obtain⟨go,y⟩:=L d[i] (CH n)
    rw[P5 n]at c
    simp only[ZO]at c
    refine .inr ⟨go,λo t=>i+1<=d.length/\∃a,BC K M H0 a o t/\Step M (Nf M C σ) (Nf M a o) H1 t/\Ce K M H0 a o t E (ZO b g (d.drop (i+1)) a),λo t z=>⟨d.length-(i+1),by omega,rfl,z⟩,λx t yl=>?_⟩
    obtain⟨s3,hd⟩:=y x t yl
    cases u:b d[i] a with
    |none=>rw[u]at c;exact BW c
    |some p=>
     rw[u]at c
     simp only at c
     refine hg _ _ _ _ ⟨a,d[i],p,Ri.st s3,hd,u,λO R1 S1 _=>hb _ _ _ ⟨p,R1,?_⟩⟩
     have k:Step M (Nf M a j) (Nf M p O) A t:=(Step.of_same s3).trans S1
     cases l:g p with
     |fail=>rw[l]at c;exact c
     |next s=>rw[l]at c;exact λw T R2 S2=>⟨n,s,R2,I.trans (k.trans S2),Ce.from (k.trans S2) c⟩
     |cont s=>rw[l]at c;exact λw T R2 S2=>⟨n,s,R2,I.trans (k.trans S2),Ce.from (k.trans S2) c⟩
     |brk s=>rw[l]at c;exact λw T R2 S2=>c w T R2 (k.trans S2)
     |ret r=>rw[l]at c;exact c
   ·have e:i=d.length:=by omega
    rw[P4 (by omega)]at c
    exact .inl ⟨N e,c j A Ri Step.refl⟩
theorem Z3{ws:List Nat}(e:PassesOwn (Af X.prog X.w) X.A X.env X.xe)(i:X.calm=true)(a:JI X tg iter (tI K M H0 f))(c:JG X tg (tG K M H0 ws b))(d:JB X body (tS K M H0 g))(j:∀x,Iq iter X.env x=AQ x:=by intro _;rfl):JS X (.For tg iter body [] pos) (tS K M H0 (ZT f b g)):=⟨have a:=a.h;have c:=c.h;have d:=d.h;(eX e i a c d j).mono λ_ _ _ q=>ij (λ_ _ _ z=>z) (λ_ _ _ _ z=>z) (λ_ _ _ z=>z) q⟩
theorem PI.mono{c a:TI}(h:PI X tg iter c)(m:∀σ H R,a σ H R->c σ H R):PI X tg iter a:=λb s σ H R I q=>h b s σ H R I (m σ H R q)
def El(K:As)(M N:Fb)(H:Hp)(d:D)(v:V):Prop:=match d with
 |.lst b=>∃a vs,v=.ref a/\(((¬ N a\/M a)/\Rd H a (.lst vs))\/KL K a vs)/\Ad K N H b vs
 |.lst b true=>∃a vs,v=.ref a/\(¬ N a\/M a)/\Rd H a (.dct (Iz b) vs)/\Ad K N H b vs
 |d=>AI K N H d v
def tQ(K:As)(M:Fb)(H0:Hp)(f:VE->Option D):TE:=λc H Q=>∃a d,BC K M H0 a c H/\f a=some d/\∀v b,Am H b->El K M (Nf M a c) b d v->Q v b
theorem AI.q{M N:Fb}{H:Hp}{d:D}{v:V}(h:AI K N H d v):El K M N H d v:=by
 cases d with
 |lst f b=>
  simp only[AI]at h
  obtain⟨a,vs,e,q,r⟩:=h
  cases b with
  |false=>
   refine⟨a,vs,e,?_,r⟩
   rcases q with⟨n,q⟩|⟨c,z,q⟩
   ·exact .inl ⟨.inl n,q⟩
   ·cases z;exact .inr q
  |true=>
   rcases q with⟨n,q⟩|⟨c,z,_⟩
   ·exact⟨a,vs,e,.inl n,q,r⟩
   ·cases z
 |_=>exact h
theorem PE.q{f:VE->Option D}(h:PE X e (tD K M H0 f)):PE X e (tQ K M H0 f):=h.mono λc H Q ⟨a,d,R,e,q⟩=>⟨a,d,R,e,λv b s z=>q v b s z.q⟩
theorem ID{f:VE->Option D}(h:JE X e (tD K M H0 f)):JE X e (tQ K M H0 f):=⟨PE.q h.h⟩
theorem ik{M N:Fb}{H:Hp}{xs:List D}{vs:List V}{fl:Bool}{a:Ac}(m:M a)(h:Rd H a (CO fl xs vs))(r:Ad K N H xs vs):El K M N H (.lst xs fl) (.ref a):=by
 cases fl with
 |false=>exact⟨a,vs,rfl,.inl ⟨.inr m,h⟩,r⟩
 |true=>exact⟨a,vs,rfl,.inr m,h,r⟩
@[simp] def A6(ρ:VE)(i:Nat):Option D:=match ρ[i]? with
  |some (.val d)=>some d
  |some (.lent a b)=>some (.lst a b)
  |_=>none
theorem il{i:Nat}{x:Ae}(f:X.N[i]?=some x)(g:Dq X.env.scope x)(hd:(x==("__debug__":Ae))=false:=by decide)(b:(x==("__classdict__":Ae))=false:=by decide):PE X (.Name x pos) (tQ K M H0 λρ=>A6 ρ i):=
 (Fz f g hd b).mono λm H Q ⟨ρ,d,R,e,q⟩=>by
  try dsimp only at e q
  unfold A6 at e
  split at e
  ·next h=>cases e;obtain⟨v,c,h⟩:=R.slot i _ h;exact⟨v,AR c,q v H (Am.refl H) h.q⟩
  ·next h=>cases e;obtain⟨a,vs,c,j,k,l⟩:=R.slot i _ h;exact⟨_,AR c,q _ H (Am.refl H) (ik j k l)⟩
  ·cases e
def Vf:D->Option (List D)
 |.lst a=>some a
 |_=>none
def im:D->Option (List D)
 |.tup a=>some a
 |_=>none
def io:D->Option (List D)
 |.str x=>some (x.cps.toList.map λc=>D.str ⟨#[c]⟩)
 |_=>none
theorem ip{l:Expr}{f:VE->Option D}(h:PE X l (tQ X.K M H0 f)):PI X tg l (tI X.K M H0 λρ=>(f ρ).bind Vf):=(eR h).mono λs H G ⟨ρ,I,R,e,q⟩=>by
 try dsimp only at e q
 cases j:f ρ with
 |none=>rw[j]at e;cases e
 |some d=>
  rw[j]at e
  cases d with
  |lst J t=>
   cases t with
   |true=>cases e
   |false=>
   cases e
   refine⟨ρ,.lst _,R,j,λv o u A=>?_⟩
   obtain⟨a,vs,B,c,hd⟩:=A
   have p:∀N2 g,Step M (Nf M ρ s) N2 o g->BE X.K g a vs:=λN2 g S=>by
    rcases c with⟨C,c⟩|c
    ·exact .inl (c.step S (by rcases C with z|z;exact .inl z;exact .inr (.inl z)))
    ·exact c.sq
   refine⟨a,B,⟨vs,p _ _ Step.refl⟩,q _ o u λN2 g S i=>?_⟩
   have b:=p _ _ S
   have k:=Ad.step S _ _ hd
   refine⟨λd m=>?_,λm=>⟨vs,b,by rw[m,hd.length];exact BB _⟩⟩
   obtain⟨w,r,n⟩:=k.get m
   refine⟨⟨vs,w,b,r⟩,λx L y=>?_⟩
   obtain⟨E,y⟩:=y
   subst E
   have:=y vs b
   rw[r]at this;cases this
   exact⟨Am.refl _,n⟩
  |_=>cases e
theorem iq{l:Expr}{f:VE->Option D}(h:PE X l (tQ X.K M H0 f)):PI X tg l (tI X.K M H0 λρ=>(f ρ).bind im):=(eS h).mono λu H z ⟨ρ,A,R,e,q⟩=>by
 try dsimp only at e q
 cases c:f ρ with
 |none=>rw[c]at e;cases e
 |some d=>
  rw[c]at e
  cases d with
  |tup B=>
   cases e
   refine⟨ρ,.tup _,R,c,λv p r m=>?_⟩
   simp only[El,AI]at m
   obtain⟨a,vs,s,n,hd⟩:=m
   refine⟨a,s,⟨vs,n⟩,q _ p r λN2 C S i=>?_⟩
   have b:=n.step S
   have g:=Ad.step S _ _ hd
   refine⟨λd j=>?_,λj=>⟨vs,b,by rw[j,hd.length];exact BB _⟩⟩
   obtain⟨w,o,k⟩:=g.get j
   refine⟨⟨vs,w,b,o⟩,λx E y=>?_⟩
   obtain⟨t,y⟩:=y
   subst t
   have:=y vs b
   rw[o]at this;cases this
   exact⟨Am.refl _,k⟩
  |_=>cases e
theorem ir{l:Expr}{f:VE->Option D}(h:PE X l (tQ K M H0 f)):PI X tg l (tI K M H0 λρ=>(f ρ).bind io):=(gH h).mono λr H s ⟨ρ,t,R,e,q⟩=>by
 try dsimp only at e q
 cases j:f ρ with
 |none=>rw[j]at e;cases e
 |some d=>
  rw[j]at e
  cases d with
  |str x=>
   cases e
   refine⟨ρ,.str x,R,j,λv m n k=>?_⟩
   simp only[El,AI]at k
   refine⟨x,k,q _ m n λN2 u S i=>⟨λd a=>?_,λa=>?_⟩⟩
   ·rw[Dy]at a
    cases g:x.cps.toList[i]? with
    |none=>rw[g]at a;cases a
    |some c=>
     rw[g]at a;cases a
     have o:i<x.cps.size:=by
      have:=(List.getElem?_eq_some_iff.mp g).1
      simpa using this
     refine⟨o,λv w y=>?_⟩
     obtain⟨p,z,b,y⟩:=y
     subst p y
     rw[<- PR,g]at b;cases b
     exact⟨Am.refl _,by simp only[AI]⟩
   ·have:i=x.cps.size:=by simpa using a
    exact Nat.le_of_eq this.symm
  |_=>cases e
def HE(lo:Int)(n:Nat):List D:=(A7 n).map (λ(k:Nat)=>D.int (lo+(k:Int)))
theorem Vg{M N:Fb}{c:Hp}{lo:Int}{n:Nat}:Lf K M N c (KQ lo n) (HE lo n):=λN2 g S i=>by
 refine⟨λd a=>?_,λa=>?_⟩
 ·have b:i<n:=by
   have:=(List.getElem?_eq_some_iff.mp a).1
   simpa[HE]using this
  have e:d=D.int (lo+i):=by
   simp only[HE,Dy,Qj b,Hz,Option.some.injEq]at a
   exact a.symm
  subst e
  refine⟨b,λx h y=>?_⟩
  obtain⟨f,y⟩:=y
  subst f y
  exact⟨Am.refl _,by simp only[AI]⟩
 ·have:i=n:=by simpa[HE]using a
  exact Nat.le_of_eq this.symm
def gd{a:Type}(p:Prop)(o:Option a):Option a:=@ite _ p (MU p) o none
theorem Lg{a:Type}{p:Prop}{o:Option a}(h:p):gd p o=o:=by unfold gd;exact @if_pos _ (MU p) h _ _ _
theorem Qk{b:Type}{p:Prop}{o:Option b}{x:b}(h:gd p o=some x):p/\o=some x:=by
 by_cases a:p
 ·rw[Lg a]at h;exact⟨a,h⟩
 ·unfold gd at h
  rw[@if_neg _ (MU p) a]at h
  cases h
def Eu:List D->Option (List D)
 |[.int j]=>gd (-1000000000<=j/\j<1000000000) (some (HE 0 j.toNat))
 |_=>none
def JM:List D->Option (List D)
 |[.int i,.int j]=>gd (-1000000000<=i/\i<1000000000 /\ -1000000000<=j/\j<1000000000) (some (HE i (j-i).toNat))
 |_=>none
theorem Gv{a:Expr}{b:VE->Option (List Sl)}{p:Bc}(i:Gl X "range")(k:X.mg "range"=none)(c:JA X [a] (Dw K M H0 b))(m:AX [a] X.env=[(false,AC a X.env)]:=by rfl):JI X tg (.Call (.Name "range" p) [a] [] pos) (tI K M H0 λρ=>((b ρ).bind Zt).bind Eu):=⟨have c:=c.h;(eV i k c m).mono λx H y ⟨ρ,z,R,e,q⟩=>by
  try dsimp only at e q
  cases d:b ρ with
  |none=>rw[d]at e;cases e
  |some g=>
   rw[d]at e
   cases f:Zt g with
   |none=>simp only[AA,f]at e;cases e
   |some l=>
    simp only[AA,f]at e
    unfold Eu at e
    split at e
    ·next j=>
     obtain⟨A,e⟩:=Qk e
     cases e
     refine⟨ρ,g,R,d,λvs n o s=>?_⟩
     have hd:=Lb s f
     simp only[Ad,AI]at hd
     obtain⟨v,r,t,u,w⟩:=hd
     subst t u w
     exact⟨j,rfl,by omega,by omega,q _ n o Vg⟩
    ·cases e⟩
theorem iu{a b:Expr}{c:VE->Option (List Sl)}{p:Bc}(n:Gl X "range")(o:X.mg "range"=none)(d:JA X [a,b] (Dw K M H0 c))(s:AX [a,b] X.env=[(false,AC a X.env),(false,AC b X.env)]:=by rfl)(f:AX [b] X.env=[(false,AC b X.env)]:=by rfl):JI X tg (.Call (.Name "range" p) [a,b] [] pos) (tI K M H0 λρ=>((c ρ).bind Zt).bind JM):=⟨have d:=d.h;(eW n o d s f).mono λC H E ⟨ρ,G,R,e,q⟩=>by
  try dsimp only at e q
  cases g:c ρ with
  |none=>rw[g]at e;cases e
  |some m=>
   rw[g]at e
   cases k:Zt m with
   |none=>simp only[AA,k]at e;cases e
   |some l=>
    simp only[AA,k]at e
    unfold JM at e
    split at e
    ·next i j=>
     obtain⟨I,e⟩:=Qk e
     cases e
     refine⟨ρ,m,R,g,λvs t u w=>?_⟩
     have hd:=Lb w k
     simp only[Ad,AI]at hd
     obtain⟨v,r,x,y,J,L,z,A,B⟩:=hd
     subst y A B z x
     exact⟨i,j,rfl,⟨by omega,by omega,by omega,by omega⟩,q _ t u Vg⟩
    ·cases e⟩
end
def MV(K:As)(M:Fb)(f:Hp)(ws:List Nat)(b:List D->VE->Option VE):GV:=λvs d H Q=>∃e g c,BC K M f e d H/\Ad K (Nf M e d) H g vs/\b g e=some c/\∀a ,BC K M f c a H->Step M (Nf M e d) (Nf M c a) H H->(∀j,j∉ws->a[j]?=d[j]?)->Q a H
@[simp] def Z1:List D->VE->Option VE
  |[],a=>some a
  |_,_=>none
@[simp] def Zv(b:D->VE->Option VE)(c:List D->VE->Option VE):List D->VE->Option VE
  |d::r,a=>(b d a).bind (c r)
  |_,_=>none
@[simp] def ZZ(n:Nat)(b:List D->VE->Option VE):D->VE->Option VE
  |.tup a,c=>if a.length=n then b a c else none
  |_,_=>none
section
variable{X:Cx}{K:As}{M:Fb}{H0:Hp}{pos:Bc}{e tg iter:Expr}{es:List Expr}{ws ws':List Nat}{b:D->VE->Option VE}{c:List D->VE->Option VE}
theorem D5 :JK X [] (MV K M H0 [] Z1):=⟨by
 intro a s b H vs c Q I r ⟨g,d,f,R,hd,e,q⟩
 cases d with
 |nil=>
  cases e
  simp only[Ad]at hd
  exact eC a s b H vs c Q I r ⟨hd,q b R Step.refl λ_ _=>rfl⟩
 |cons=>cases e⟩
theorem ZE(g:JG X e (tG K M H0 ws b))(i:JK X es (MV K M H0 ws' c))(t:(Gm (e::es) X.env).map (·.2)=assign e X.env::(Gm es X.env).map (·.2):=by rfl):JK X (e::es) (MV K M H0 (ws++ws') (Zv b c)):=⟨have g:=g.h;have i:=i.h;by
 intro a s u H vs w Q I r ⟨p,k,l,R,hd,e,q⟩
 cases k with
 |nil=>cases e
 |cons d k=>
  simp only[Ad]at hd
  obtain⟨v,x,y,z,A⟩:=hd
  subst y
  simp only[Zv]at e
  cases m:b d p with
  |none=>rw[m]at e;cases e
  |some f=>
   rw[m]at e
   refine eE g i t a s u H _ w Q I r ⟨v,x,rfl,p,d,f,R,z,m,λB C S1 w1=>⟨f,k,l,C,Ad.step S1 _ _ A,e,λn R2 S2 w2=>q n R2 (S1.trans S2) λj o=>?_⟩⟩
   rw[List.mem_append,not_or]at o
   rw[w2 j o.2,w1 j o.1]⟩
theorem D6{k n:Nat}(i:X.calm=true)(h:JK X es (MV X.K M H0 ws c))(j:(Gm es X.env).length=n:=by rfl)(f:(Gm es X.env).findIdx? (·.1)=none:=by rfl):JG X (.Tuple es k pos) (tG X.K M H0 ws (ZZ n c)):=⟨have h:=h.h;by
 intro b s l H v u Q I r ⟨m,d,g,R,hd,e,q⟩
 cases d with
 |tup o=>
  simp only[ZZ]at e
  split at e
  ·next p=>
   simp only[AI]at hd
   obtain⟨a,vs,t,w,hd⟩:=hd
   exact eH i h j f b s l H v u Q I r ⟨a,vs,t,w,by rw[<- hd.length];exact p,m,o,g,R,hd,e,q⟩
  ·cases e
 |_=>cases e⟩
end
@[simp] def Ql:Option Sl->Sl
  |some (.val d)=>.val d
  |some (.own a b)=>.lent a b
  |some (.lent a b)=>.lent a b
  |_=>.no
@[simp] def ZV(k:Nat)(a:List Nat)(ρ:VE):VE:=DH k .no++a.map λj=>Ql ρ[j]?
def C1(b:D->VE->Option VE)(t:VE->Option Bool)(e:VE->Option D)(ρ:VE):List D->Option (List D)
 |[]=>some []
 |d::c=>match b d ρ with
  |none=>none
  |some a=>match t a with
   |some true=>Zb (e a) (C1 b t e ρ c)
   |some false=>C1 b t e ρ c
   |none=>none
@[simp] def ZM(k:Nat)(a:List Nat)(f:VE->Option (List D))(b:D->VE->Option VE)(t:VE->Option Bool)(e:VE->Option D):VE->Option (List D):=λc=>(Zr (f c)).bind (C1 b t e (ZV k a c))
section
variable{X:Cx}{K:As}{M:Fb}{H0:Hp}{pos:Bc}{tg elt iter:Expr}{ifs:List Expr}{scope:Scope}{ws:List Nat}{f:VE->Option (List D)}{b:D->VE->Option VE}{t:VE->Option Bool}{e:VE->Option D}{k:Nat}{oix:List Nat}
theorem BC.comp{ρ:VE}{σ:St}{H:Hp}(R:BC K M H0 ρ σ H)(k:Nat)(oix:List Nat):BC K (Nf M ρ σ) H (ZV k oix ρ) (Et k oix σ) H/\∀a,Nf (Nf M ρ σ) (ZV k oix ρ) (Et k oix σ) a->Nf M ρ σ a:=by
 have b:∀(j:Nat) (c:List D) (e:Bool),(ZV k oix ρ)[j]?≠some (Sl.own c e):=λj c e h=>by
  unfold ZV at h
  rw[Qm]at h
  split at h
  ·rw[Iu]at h
   split at h<;>cases h
  ·rw[Dy]at h
   cases g:oix[j-(DH k Sl.no).length]? with
   |none=>rw[g]at h;cases h
   |some o=>
    rw[g]at h
    simp only[Hz,Option.some.injEq]at h
    unfold Ql at h
    split at h<;>cases h
 have nf:∀a,Nf (Nf M ρ σ) (ZV k oix ρ) (Et k oix σ) a->Nf M ρ σ a:=λa h=>by
  rcases h with h|⟨j,c,e,h,_⟩
  ·exact h
  ·exact absurd h (b j c e)
 refine⟨⟨by simp[ZV,Et],Am.refl H,R.nh,λj s h=>?_,λi j c r e p a h=>absurd h (b i c e)⟩,nf⟩
 unfold ZV at h
 rw[Qm]at h
 split at h
 ·rw[Iu]at h
  split at h
  ·cases h;trivial
  ·cases h
 ·next m=>
  rw[Dy]at h
  have n:(Et k oix σ)[j]?=(oix[j-k]?).map λi=>(σ[i]?).join:=by
   unfold Et
   rw[PF (by simpa using m),Dy]
   simp
  rw[n]
  simp only[Jr]at h
  cases g:oix[j-k]? with
  |none=>rw[g]at h;cases h
  |some o=>
   rw[g]at h
   simp only[Hz,Option.some.injEq]at h
   simp only[Hz,Option.join_some]
   unfold Ql at h
   split at h
   ·next d hd=>subst h;obtain⟨v,f,q⟩:=R.slot o _ hd;exact⟨v,f,q.nw λa l=>.inl (nf a l)⟩
   ·next c e hd=>
    subst h
    obtain⟨a,vs,f,z1,z2,z3,z4⟩:=R.slot o _ hd
    exact⟨a,vs,f,.inr ⟨o,c,e,hd,AR f⟩,.inl z3,z4.nw λa l=>.inl (nf a l)⟩
   ·next c hd=>
    subst h
    obtain⟨a,vs,f,z1,z2,z3⟩:=R.slot o _ hd
    exact⟨a,vs,f,.inl z1,z2,z3.nw λa l=>.inl (nf a l)⟩
   ·subst h;trivial
def Vh(K:As)(ws:List Nat)(b:D->VE->Option VE):TG:=λv a H Q=>∃M H0,tG K M H0 ws b v a H Q
def Vi(K:As)(t:VE->Option Bool):TT:=λa H Q=>∃M H0,BJ K M H0 t a H Q
def Vj(K:As)(e:VE->Option D):TE:=λa H Q=>∃M H0,tD K M H0 e a H Q
theorem Vk(hw:∀j∈ws,j<k){wi:TI}(hi:∀σ H R,tI K M H0 f σ H R->wi σ H R){σ:St}{H:Hp}{Q:VK}(h:tF K M H0 (ZM k oix f b t e) σ H Q):P0 k oix wi (Vh K ws b) (Vi K t) (Vj K e) σ H Q:=by
 obtain⟨g,C,R,ex,q⟩:=h
 try dsimp only at ex q
 unfold ZM at ex
 cases u:Zr (f g)with
 |none=>rw[u]at ex;cases ex
 |some l=>
  rw[u]at ex
  obtain⟨u,hz⟩:=Qg u
  have ex:C1 b t e (ZV k oix g) l=some C:=ex
  refine hi _ _ _ ⟨g,l,R,u,λJ H1 s1 ok=>?_⟩
  refine⟨l.length,λi L E=>i<=l.length/\L.length<=i/\Am H1 E/\∃c B3,Ad K (Nf M g σ) E c L/\C1 b t e (ZV k oix g) (l.drop i)=some B3/\c++B3=C,⟨Hv _,BB _,Am.refl _,[],C,Ad.nil,ex,rfl⟩,?_⟩
  rintro i L E ⟨hle,hy,w,c,B3,m,d,G⟩
  obtain⟨N,O⟩:=ok _ E (Step.of_same w) i
  by_cases n:i<l.length
  ·obtain⟨go,y⟩:=N l[i] (CH n)
   rw[P5 n]at d
   simp only[C1]at d
   refine .inr ⟨go,n,by omega,λr T=>r.length<=i+1/\Am H1 T/\∃c B3,Ad K (Nf M g σ) T c r/\C1 b t e (ZV k oix g) (l.drop (i+1))=some B3/\c++B3=C,λr T z=>⟨n,z⟩,λx I yl=>?_⟩
   obtain⟨A,hd⟩:=y x I yl
   have R3:=((R.st s1).st w).st A
   obtain⟨Rc,nf⟩:=R3.comp k oix
   cases U:b l[i] (ZV k oix g)with
   |none=>rw[U]at d;cases d
   |some o=>
    rw[U]at d
    simp only at d
    refine⟨Nf M g σ,I,ZV k oix g,l[i],o,Rc,hd.nw λa Y=>.inl (nf a Y),U,λσ4 R4 S4 w4=>⟨?_,?_⟩⟩
    ·apply JL
     intro j
     rw[MJ,MJ]
     exact w4 _ λhj=>absurd (hw _ hj) (by omega)
    ·cases ht:t o with
     |none=>rw[ht]at d;cases d
     |some bb=>
      rw[ht]at d
      refine⟨Nf M g σ,I,o,bb,R4,ht,λH5 B=>?_⟩
      cases bb with
      |true=>
       simp only at d
       obtain⟨yd,s,e1,e2,e3⟩:=MP d
       refine Jw ?_
       refine⟨Nf M g σ,I,o,yd,R4.st B,e1,λv H6 s6 hv=>⟨?_,((w.trans A).trans B).trans s6,c++[yd],s,(m.same ((A.trans B).trans s6)).append (Ad.cons (hv.nw λa Y=>.inl (.inl Y)) Ad.nil),e2,?_⟩⟩
       ·simp only[Fj,List.length_singleton];omega
       ·subst e3;rw[<- G];simp
      |false=>
       refine Jx ?_
       exact⟨by omega,(w.trans A).trans B,c,B3,m.same (A.trans B),d,G⟩
  ·have ei:i=l.length:=by omega
   rw[P4 (by omega)]at d
   cases d
   rw[Es]at G
   subst G
   exact .inl ⟨O ei,by omega,λp hp=>Lc (s1.trans w) hp m q⟩
theorem PG.all{Y:Cx}(h:∀M H0,PG Y tg (tG K M H0 ws b)):PG Y tg (Vh K ws b):=λa s c H v u Q I r ⟨M,H0,z⟩=>h M H0 a s c H v u Q I r z
theorem Fl.all{Y:Cx}(h:∀M H0,Fl Y ifs (BJ K M H0 t)):Fl Y ifs (Vi K t):=λa s b H Q I ⟨M,H0,z⟩=>h M H0 a s b H Q I z
theorem PE.all{Y:Cx}(h:∀M H0,PE Y elt (tD K M H0 e)):PE Y elt (Vj K e):=λa s b H Q I ⟨M,H0,z⟩=>h M H0 a s b H Q I z
theorem Z8{Y:Cx}:JF Y [] (BJ K M H0 λ_=>some true):=⟨λa s c H Q I ⟨d,b,R,e,q⟩=>gA a s c H Q I (by cases e;exact q H (Am.refl H))⟩
theorem Qn{Y:Cx}{c:Expr}(h:JT Y c (BJ K M H0 t)):JF Y [c] (BJ K M H0 t):=⟨have h:=h.h;gB h⟩
theorem iv(own c:List Ae)(oix:List Nat)(S:Hw own c scope X.env.scope)(k:oix.map (λj=>X.N[j]?)=c.map some)(l:X.calm=true)(m:PI X tg iter (tI K M H0 f))
  (n:∀C d g h a i H',PG (Du X own c scope C d g h a) tg (tG K i H' ws b))
  (o:∀C d g h a i H',Fl (Du X own c scope C d g h a) ifs (BJ K i H' t))
  (p:∀C d g h a i H',PE (Du X own c scope C d g h a) elt (tD K i H' e)) (q:∀j∈ws,j<own.length)
  (r:∀x,Iq iter X.env x=AQ x:=by intro _;rfl):
  PE X (.ListComp elt [⟨tg,iter,ifs,0⟩] scope pos) (tF K M H0 (ZM own.length oix f b t e)):=
 (gC own c oix S k l m (λC d g h a=>PG.all (n C d g h a)) (λC d g h a=>Fl.all (o C d g h a)) (λC d g h a=>PE.all (p C d g h a)) r).mono
  λ_ _ _ z=>Vk q (λ_ _ _ z=>z) z
theorem Z0(own c:List Ae)(oix:List Nat)(S:Hw own c scope X.env.scope)(l:oix.map (λj=>X.N[j]?)=c.map some)(m:X.calm=true)(n:JI X tg iter (tI K M H0 f))(o:∀C d g i a k H',JG (Du X own c scope C d g i a) tg (tG K k H' ws b))(p:∀C d g i a k H',JF (Du X own c scope C d g i a) ifs (BJ K k H' t))(q:∀C d g i a k H',JE (Du X own c scope C d g i a) elt (tD K k H' e))(r:∀j∈ws,j<own.length)(s:∀x,Iq iter X.env x=AQ x:=by intro _;rfl):JE X (.ListComp elt [⟨tg,iter,ifs,0⟩] scope pos) (tF K M H0 (ZM own.length oix f b t e)):=⟨iv own c oix S l m n.h (λC d g i a k H'=>(o C d g i a k H').h) (λC d g i a k H'=>(p C d g i a k H').h) (λC d g i a k H'=>(q C d g i a k H').h) r s⟩
theorem iw(own g:List Ae)(oix:List Nat){i:Nat}{x:Ae}{m n:Bc}(S:Hw own g scope X.env.scope)(r:oix.map (λj=>X.N[j]?)=g.map some)(A:X.calm=true)
  (B:X.N.Nodup) (u:X.N[i]?=some x) (E:X.env.scope.names.lookup x=some .local) (G:PI X tg iter (tI K M H0 f))
  (I:∀C h k l c o H',PG (Du X own g scope C h k l c) tg (tG K o H' ws b))
  (J:∀C h k l c o H',Fl (Du X own g scope C h k l c) ifs (BJ K o H' t))
  (L:∀C h k l c o H',PE (Du X own g scope C h k l c) elt (tD K o H' e)) (O:∀j∈ws,j<own.length)
  (v:Fg (.ListComp elt [⟨tg,iter,ifs,0⟩] scope pos) (some (.Name x m)) n.line X.env=AQ true:=by rfl)
  (Q:∀x,Iq iter X.env x=AQ x:=by intro _;rfl):
  PS X (.Assign [.Name x m] (.ListComp elt [⟨tg,iter,ifs,0⟩] scope pos) n) (tS K M H0 λρ=>Zw i (ZF (ZM own.length oix f b t e ρ)) ρ):=
 (gD own g oix S r A B u E G (λC h k l c=>PG.all (I C h k l c)) (λC h k l c=>Fl.all (J C h k l c)) (λC h k l c=>PE.all (L C h k l c)) v Q).mono
  λT y H z=>by
   have U:tD K M H0 (λρ=>ZF (ZM own.length oix f b t e ρ)) y H (λx Y=>Io i x y Y T.nx):=Ve z
   obtain⟨ρ,d,R,p,q⟩:=U
   try dsimp only at p q
   cases w:ZM own.length oix f b t e ρ with
   |none=>rw[w]at p;cases p
   |some xs=>
    rw[w]at p;cases p
    refine Vk O (λ_ _ _ z=>z) ⟨ρ,xs,R,w,λa vs H' s z1 z2 z3=>q _ _ s ?_⟩
    simp only[AI]
    exact⟨a,vs,rfl,.of (R.fresh z1) z2,z3.nw λb hb=>.inl (.inl hb)⟩
theorem Qo(own c:List Ae)(oix:List Nat){i:Nat}{x:Ae}{m n:Bc}(S:Hw own c scope X.env.scope)(o:oix.map (λj=>X.N[j]?)=c.map some)(r:X.calm=true)(s:X.N.Nodup)(p:X.N[i]?=some x)(u:X.env.scope.names.lookup x=some .local)(v:JI X tg iter (tI K M H0 f))(w:∀C d g k a l H',JG (Du X own c scope C d g k a) tg (tG K l H' ws b))(y:∀C d g k a l H',JF (Du X own c scope C d g k a) ifs (BJ K l H' t))(z:∀C d g k a l H',JE (Du X own c scope C d g k a) elt (tD K l H' e))(A:∀j∈ws,j<own.length)(q:Fg (.ListComp elt [⟨tg,iter,ifs,0⟩] scope pos) (some (.Name x m)) n.line X.env=AQ true:=by rfl)(B:∀x,Iq iter X.env x=AQ x:=by intro _;rfl):JS X (.Assign [.Name x m] (.ListComp elt [⟨tg,iter,ifs,0⟩] scope pos) n) (tS K M H0 λρ=>Zw i (ZF (ZM own.length oix f b t e ρ)) ρ):=⟨iw own c oix S o r s p u v.h (λC d g k a l H'=>(w C d g k a l H').h) (λC d g k a l H'=>(y C d g k a l H').h) (λC d g k a l H'=>(z C d g k a l H').h) A q B⟩
end
def Bm(a n:Nat)(g:VE->An):List Sl->Option Rv:=λb=>if b.length=a then
  match g (b++DH (n-a) .no)with
  |.ret r=>some r
  |.next _=>some (.val .non)
  |_=>none
 else none
theorem Vl{K:As}{N:Fb}{H:Hp}{k:List Sl}{vs:List V}(o:∀a,N a->H a≠none)(h:A9 K N H k vs)(n:Nat):BC K N H (k++DH n .no) (vs.map some++DH n none) H:=by
 have m:=h.length
 have b:∀(j:Nat) (f:List D) (g:Bool),(k++DH n Sl.no)[j]?≠some (Sl.own f g):=λj f g e=>by
  rw[Qm]at e
  split at e
  ·obtain⟨v,_,q⟩:=h.get e;exact q
  ·rw[Iu]at e
   split at e<;>cases e
 have nf:∀a,Nf N (k++DH n Sl.no) (vs.map some++DH n none) a->N a:=λa z=>by
  rcases z with z|⟨j,f,g,z,_⟩
  ·exact z
  ·exact absurd z (b j f g)
 refine⟨by simp[m],Am.refl H,o,λj s e=>?_,λi j f x g p a z=>absurd z (b i f g)⟩
 rw[Qm]at e
 split at e
 ·next r=>
  obtain⟨v,t,q⟩:=h.get e
  rw[Jq (by simpa[<- m]using r),Dy,t]
  cases s with
  |val d=>exact⟨v,rfl,AI.nw q λa l=>.inl (nf a l)⟩
  |lent f g=>obtain⟨a,u,w,z1,z2,z3⟩:=q;exact⟨a,u,by rw[w];rfl,z1,z2,z3.nw λa l=>.inl (nf a l)⟩
  |no=>trivial
  |own f g=>exact BW q
  |exc c=>exact BW q
 ·rw[Iu]at e
  split at e
  ·cases e;trivial
  ·cases e
theorem ix{P:A4}{w:Aj}{K:As}{mg:Ae->Option Aa}{base:Al}{x b:Ae}{st:Ay}{f:Ac}{fd:Bi}{N ps:List Ae}{k:Nat}{g:VE->An}(F:Iy K x b st f fd)(S:ZG N ps (Zm st))(p:ps.length<=N.length)
  (t:∀(c:Aa) (A:Ak) (outer:List Env) (s:Ab) (H:Hp) (E:XK) (M:Fb) (u:Hp),Bf k (A.deeper (envOfC b (Zm st) s.heap.objs.size f c)) ->
   Er (FX Bh P w K mg base N b (Zm st) f c A outer s H E).nox (FD st) (tS K M u g)):Az P w K mg base Bh (k+1) f fd ps (Bu K (Bm ps.length N.length g)):=by
 refine F.ok S (λvs H Q E h=>?_) (λc A outer s H vs Q E y h=>?_)
 ·obtain⟨m,n,r,o,i,a,q⟩:=h
  unfold Bm at a
  split at a
  ·next j=>rw[<- i.length];exact j
  ·cases a
 ·obtain⟨m,n,r,o,i,a,q⟩:=h
  refine⟨_,t c A outer s H E m H y,?_⟩
  unfold Bm at a
  split at a
  ·next j=>
   have z:FC N vs=vs.map some++DH (N.length-ps.length) none:=by unfold FC;rw[<- i.length,j]
   rw[z]
   refine⟨_,Vl o i (N.length-ps.length),?_⟩
   cases d:g (n++DH (N.length-ps.length) .no)with
   |fail=>rw[d]at a;cases a
   |next e=>rw[d]at a;cases a;exact λB l C I=>q .non l C.same (by simp only[MQ,AI])
   |brk e=>rw[d]at a;cases a
   |cont e=>rw[d]at a;cases a
   |ret J=>rw[d]at a;cases a;exact λv l s G=>q v l s G
  ·cases a
theorem iy{P:A4}{w:Aj}{K:As}{mg:Ae->Option Aa}{base:Al}{x a:Ae}{st:Ay}{f:Ac}{fd:Bi}{N ps:List Ae}{k:Nat}{g:VE->An}(F:Iy K x a st f fd)(S:ZG N ps (Zm st))(c:ps.length<=N.length)
  (e:∀(b:Aa) (A:Ak) (outer:List Env) (s:Ab) (H:Hp) (E:XK) (M:Fb) (d:Hp),Bf k (A.deeper (envOfC a (Zm st) s.heap.objs.size f b)) ->
   JB (FX Bh P w K mg base N a (Zm st) f b A outer s H E).nox (FD st) (tS K M d g)):Az P w K mg base Bh (k+1) f fd ps (Bu K (Bm ps.length N.length g)):=
 ix F S c λb A outer s H E M d i=>(e b A outer s H E M d i).h
theorem iz{P:A4}{w:Aj}{K:As}{mg:Ae->Option Aa}{base:Al}{k:Nat}{f:Ac}{fd:Bi}{F:List Sl->Option Rv}(G:Az P w K mg base Bh k f fd ["_law_script"] (Bu K F))
  (h:∀b:List Int,b.length<=63->F [.val (.lst (b.map D.int))]=some (.val (.bl true))):Az P w K mg base Bh k f fd ["_law_script"] (K5 K):=
 G.imp λvs H Q E ⟨a,b,e,d,g,q⟩=>by
  refine⟨λ_=>False,[.val (.lst (b.map D.int))],.val (.bl true),λ_ z=>z.elim,⟨_,[],e,?_,rfl⟩,h b g,λv i s c=>?_⟩
  ·simp only[Cv,AI]
   exact⟨a,_,rfl,.of_sq d,Ad.ints b⟩
  ·simp only[MQ,AI]at c
   subst c;exact q i
section
variable{K:As}
@[simp] def i2(g:Int->Int->Option D):D->D->Option D
  |.int i,.int j=>g i j
  |_,_=>none
theorem Qp{g:Int->Int->Option D}{x y d:D}(h:i2 g x y=some d):∃i j,x=.int i/\y=.int j/\g i j=some d:=by
 unfold i2 at h
 split at h
 ·exact⟨_,_,rfl,rfl,h⟩
 ·cases h
theorem AK.int{N:Fb}{H:Hp}{i:Int}{v:V}(h:AK K N H (.int i) v):v=.int i:=by simpa only[AK,AI]using h
theorem AK.str{N:Fb}{H:Hp}{i:Ae}{v:V}(h:AK K N H (.str i) v):v=.str i:=by simpa only[AK,AI]using h
theorem AK.bl{N:Fb}{H:Hp}{i:Bool}{v:V}(h:AK K N H (.bl i) v):v=.bl i:=by simpa only[AK,AI]using h
theorem AK.non{N:Fb}{H:Hp}{v:V}(h:AK K N H .non v):v=.non:=by simpa only[AK,AI]using h
theorem AK.ty{N:Fb}{H:Hp}{i:String}{v:V}(h:AK K N H (.ty i) v):v=.ty i:=by simpa only[AK,AI]using h
theorem AK.tup{N:Fb}{H:Hp}{xs:List D}{v:V}(h:AK K N H (.tup xs) v):∃a vs,v=.ref a/\BV K H a vs/\Ad K N H xs vs:=by simpa only[AK,AI]using h
theorem Fp{N:Fb}{H:Hp}{i:Int}:AI K N H (.int i) (.int i):=by simp only[AI]
theorem E5{N:Fb}{H:Hp}{i:Bool}:AI K N H (.bl i) (.bl i):=by simp only[AI]
theorem Lh{N:Fb}{H:Hp}{i:Ae}:AI K N H (.str i) (.str i):=by simp only[AI]
theorem iA(g:Int->Int->Int):Dz K (Ht λi j=>.int (g i j)) (i2 λi j=>some (.int (g i j))):=by
 intro N H x y d1 d2 d Q c a b e q
 obtain⟨i,j,rfl,rfl,e⟩:=Qp e
 cases e
 exact⟨i,j,a.int,b.int,q _ H (Am.refl H) Fp⟩
theorem iB(g:Int->Int->Bool):Dz K (Ht λi j=>.bl (g i j)) (i2 λi j=>some (.bl (g i j))):=by
 intro N H x y d1 d2 d Q c a b e q
 obtain⟨i,j,rfl,rfl,e⟩:=Qp e
 cases e
 exact⟨i,j,a.int,b.int,q _ H (Am.refl H) E5⟩
theorem MW{C:Int->Int->Prop}[∀i j,Decidable (C i j)](g:Int->Int->Int):Dz K (rI C λi j=>.int (g i j)) (i2 λi j=>if C i j then some (.int (g i j))else none):=by
 intro N H x y d1 d2 d Q h b c e q
 obtain⟨i,j,rfl,rfl,a⟩:=Qp e
 split at a
 ·next f=>cases a;exact⟨i,j,b.int,c.int,f,q _ H (Am.refl H) Fp⟩
 ·cases a
instance (i j:Int):Decidable (Ds i j):=by unfold Ds;exact inferInstance
instance (i j:Int):Decidable (Co i j):=by unfold Co;exact inferInstance
instance (i j:Int):Decidable (Go i j):=by unfold Go;exact inferInstance
@[simp] def IE:D->D->Option D:=i2 λi j=>some (.int (i-j))
@[simp] def FJ:D->D->Option D:=i2 λi j=>if Co i j then some (.int (i*j))else none
@[simp] def DU:D->D->Option D:=i2 λi j=>if Ds i j then some (.int (i/j))else none
@[simp] def Z6:D->D->Option D:=i2 λi j=>if 0<j then some (.int (i%j))else none
@[simp] def JN:D->D->Option D:=i2 λi j=>if Go i j then some (.int (i^j.toNat))else none
@[simp] def qw:D->D->Option D:=i2 λi j=>some (.bl (decide (i<=j)))
@[simp] def JP:D->D->Option D:=i2 λi j=>some (.bl (decide (j<i)))
@[simp] def qy:D->D->Option D:=i2 λi j=>some (.bl (decide (j<=i)))
section
variable{X:Cx}{M:Fb}{H0:Hp}{a b:Expr}{f g:VE->Option D}{pos:Bc}
theorem MX(c:JE X a (tP K M H0 f))(d:JE X b (tP K M H0 g)):JE X (.BinOp a .Sub b pos) (tD K M H0 (Zd IE f g)):=⟨have c:=c.h;have d:=d.h;Jz ff (iA _) c d⟩
theorem Gw(c:JE X a (tP K M H0 f))(d:JE X b (tP K M H0 g)):JE X (.BinOp a .Mult b pos) (tD K M H0 (Zd FJ f g)):=⟨have c:=c.h;have d:=d.h;Jz fg (MW _) c d⟩
theorem Fq(c:JE X a (tP K M H0 f))(d:JE X b (tP K M H0 g)):JE X (.BinOp a .FloorDiv b pos) (tD K M H0 (Zd DU f g)):=⟨have c:=c.h;have d:=d.h;Jz fh (MW _) c d⟩
theorem ZN(c:JE X a (tP K M H0 f))(d:JE X b (tP K M H0 g)):JE X (.BinOp a .Mod b pos) (tD K M H0 (Zd Z6 f g)):=⟨have c:=c.h;have d:=d.h;Jz fi (MW _) c d⟩
theorem Qq(c:JE X a (tP K M H0 f))(d:JE X b (tP K M H0 g)):JE X (.BinOp a .Pow b pos) (tD K M H0 (Zd JN f g)):=⟨have c:=c.h;have d:=d.h;Jz fj (MW _) c d⟩
@[simp] def Li:Option D->Option D
  |some (.int i)=>some (.int (-i))
  |_=>none
theorem Vm(b:JE X a (tP K M H0 f)):JE X (.UnaryOp .USub a pos) (tD K M H0 λρ=>Li (f ρ)):=⟨have b:=b.h;(e9 fo b).mono λk H Q ⟨ρ,d,R,e,q⟩=>by
 try dsimp only at e q
 unfold Li at e
 split at e
 ·next i c=>cases e;exact⟨ρ,.int i,R,c,λv g s j=>⟨i,j.int,q _ g s Fp⟩⟩
 ·cases e⟩
end
end
section
variable{X:Cx}
def Vn(K:As):R2:=λx y H Q=>∃l b a c,x=.ref l/\y=.ref b/\BE K H l a/\BE K H b c/\a.length+c.length<=AG/\∀p,H p=none->Q (.ref p) (A3 H p (.lst (a++c)))
theorem G4:Ct X (FW .Add) (Vn X.K):=by
 intro k s M H x y v u Q I w z h
 obtain⟨l,b,N,O,rfl,rfl,A,B,T,q⟩:=h
 cases w
 cases z
 obtain⟨c,r,C,z1⟩:=I.list A
 obtain⟨a,m,E,z2⟩:=I.list B
 have U:=r.length
 have G:=m.length
 obtain⟨⟨cls,J,data,L⟩,o,p,n,hd⟩:=C.isList
 obtain⟨⟨t,i,data2,j⟩,d,f,n2,g⟩:=E.isList
 simp only at p hd f g
 subst p hd f g
 have e:c.toArray++a.toArray=(c++a).toArray:=by simp
 refine concat_meets ⟨_,o,rfl⟩ ⟨_,d,rfl⟩ noFill_list_add seq_list_add PySem.F.slot_list_add PySem.F.entry_list_add (PySem.F.args_list_add_2 _ _) (list_addW l b c.toArray a.toArray n n2 J i L j (by rw[BF,BF];omega)) ⟨o,d,?_⟩
 rw[e]
 exact⟨.ref _,_,I.lnew (t':=s.toks) (r.append m) (by rw[Fj];omega),rfl,q _ I.fresh⟩
def Vo(K:As):R2:=λx y H Q=>∃l b a c,x=.ref l/\y=.ref b/\BV K H l a/\BV K H b c/\a.length+c.length<=AG /\
 (a=[]->Q (.ref b) H)/\(c=[]->Q (.ref l) H)/\∀p,H p=none->Q (.ref p) (A3 H p (.tup (a++c)))
theorem iC:Ct X (FW .Add) (Vo X.K):=by
 intro C s σ H x y v u Q I O T h
 obtain⟨l,b,E,G,rfl,rfl,U,Y,hz,qx,qz,q⟩:=h
 cases O
 cases T
 obtain⟨c,r,p1,z1⟩:=I.tuple U
 obtain⟨a,J,p2,z2⟩:=I.tuple Y
 have L:=r.length
 have k:=J.length
 obtain⟨⟨cls,t,data,w⟩,j,M,n,hd⟩:=id p1
 obtain⟨⟨N,f,data2,g⟩,d,m,n2,o⟩:=id p2
 simp only at M hd m o
 subst M hd m o
 by_cases A:E=[]
 ·have p:c.toArray.isEmpty=true:=by
   subst A
   have:c=[]:=List.length_eq_zero_iff.mp L.symm
   subst this;rfl
  exact concat_meets ⟨_,j,rfl⟩ ⟨_,d,rfl⟩ noFill_tuple_add seq_tuple_add PySem.F.slot_tuple_add Vp (Vq _ _) (tuple_addW0 l b c.toArray a.toArray n n2 t f w g p) ⟨j,d,⟨.ref b,H,I,rfl,qx A⟩⟩
 ·have p:¬ c.toArray.isEmpty=true:=by
   intro z
   have:c=[]:=by simpa using z
   subst this
   exact A (List.length_eq_zero_iff.mp L)
  by_cases B:G=[]
  ·have i:a.toArray.isEmpty=true:=by
    subst B
    have:a=[]:=List.length_eq_zero_iff.mp k.symm
    subst this;rfl
   exact concat_meets ⟨_,j,rfl⟩ ⟨_,d,rfl⟩ noFill_tuple_add seq_tuple_add PySem.F.slot_tuple_add Vp (Vq _ _) (tuple_addW1 l b c.toArray a.toArray n n2 t f w g p i) ⟨j,d,⟨.ref l,H,I,rfl,qz B⟩⟩
  ·have i:¬ a.toArray.isEmpty=true:=by
    intro z
    have:a=[]:=by simpa using z
    subst this
    exact B (List.length_eq_zero_iff.mp k)
   have e:c.toArray++a.toArray=(c++a).toArray:=by simp
   refine concat_meets ⟨_,j,rfl⟩ ⟨_,d,rfl⟩ noFill_tuple_add seq_tuple_add PySem.F.slot_tuple_add Vp (Vq _ _) (tuple_addW2 l b c.toArray a.toArray n n2 t f w g p i (by rw[BF,BF];omega)) ⟨j,d,?_⟩
   rw[e]
   refine⟨.ref s.heap.objs.size,A3 H s.heap.objs.size (.tup (E++G)),I.laid (t':=s.toks) (λb u e=>Bk _ e) (BB _) ?_,rfl,q _ I.fresh⟩
   exact⟨by rw[Fj];omega,c++a,r.append J,IsTup.new _ _⟩
end
@[simp] def ZJ:D->D->Option D
  |.int i,.int j=>some (.int (i+j))
  |.str x,.str y=>if x.length+y.length<=AG then some (.str (x++y))else none
  |.lst a,.lst b=>if a.length+b.length<=AG then some (.lst (a++b))else none
  |.tup a,.tup b=>if a.length+b.length<=AG then some (.tup (a++b))else none
  |_,_=>none
def Vr(K:As):R2:=λx y H Q=>Ht (λi j=>.int (i+j)) x y H Q\/(∃i j,x=.str i/\y=.str j/\i.length+j.length<=AG/\Q (.str (i++j)) H)\/Vn K x y H Q\/Vo K x y H Q
theorem iD{X:Cx}:Ct X (FW .Add) (Vr X.K):=Ir.or (EG.or (G4.or iC))
theorem Vs{K:As}{N:Fb}{H:Hp}{xs:List D}{vs:List V}{p:Ac}(c:∀a,N a->H a≠none)(b:H p=none)(h:Ad K N H xs vs):AI K N (A3 H p (.lst vs)) (.lst xs) (.ref p):=by
 simp only[AI]
 exact⟨p,vs,rfl,.of (λz=>c p z b) Ef,h.same (FF b)⟩
theorem JQ{K:As}{N:Fb}{H:Hp}{xs:List D}{vs:List V}{p:Ac}(a:H p=none)(h:Ad K N H xs vs):AI K N (A3 H p (.tup vs)) (.tup xs) (.ref p):=by
 simp only[AI]
 exact⟨p,vs,rfl,BV.of Ef,h.same (FF a)⟩
theorem iE{K:As}:Dz K (Vr K) ZJ:=by
 intro N H x y d1 d2 d Q n j k e q
 unfold ZJ at e
 split at e
 ·cases e;exact .inl ⟨_,_,j.int,k.int,q _ H (Am.refl H) Fp⟩
 ·split at e
  ·next g=>cases e;exact .inr (.inl ⟨_,_,j.str,k.str,g,q _ H (Am.refl H) Lh⟩)
  ·cases e
 ·split at e
  ·next g=>
   cases e
   obtain⟨a,vs,l,q1,c⟩:=j
   obtain⟨b,h,m,q2,f⟩:=k
   exact .inr (.inr (.inl ⟨a,b,vs,h,l,m,q1,q2,by rw[<- c.length,<- f.length];exact g,λp i=>q _ _ (FF i) (Vs n i (c.append f))⟩))
  ·cases e
 ·split at e
  ·next g=>
   cases e
   obtain⟨a,vs,l,q1,c⟩:=j.tup
   obtain⟨b,h,m,q2,f⟩:=k.tup
   refine .inr (.inr (.inr ⟨a,b,vs,h,l,m,q1,q2,by rw[<- c.length,<- f.length];exact g,λz=>?_,λz=>?_,λp i=>q _ _ (FF i) (JQ i (c.append f))⟩))
   ·refine q _ H (Am.refl H) ?_
    simp only[AI]
    exact⟨b,vs++h,rfl,by rw[z];exact q2,c.append f⟩
   ·refine q _ H (Am.refl H) ?_
    simp only[AI]
    exact⟨a,vs++h,rfl,by rw[z,Es];exact q1,c.append f⟩
  ·cases e
 ·cases e
theorem ZD{X:Cx}{M:Fb}{c:Hp}{a b:Expr}{f g:VE->Option D}{pos:Bc}(d:JE X a (tP X.K M c f))(e:JE X b (tP X.K M c g)):JE X (.BinOp a .Add b pos) (tD X.K M c (Zd ZJ f g)):=⟨have d:=d.h;have e:=e.h;Jz iD iE d e⟩
section
variable{prog:A4}{w:Aj}{A:Ak}{E:Aa->Ab->Prop}{s:Ab}
theorem iF{t e:Ac}{a:Array Aa}{j k:Aa}{lo d:Option Int}{Q:Aa->Ab->Prop}(b:IsTup s.heap t a)(l:s.heap.IsSliceOf e j k .none)(o:IsPart j lo)(p:IsPart k d)
  (m:HT.sIx a.size 0 lo=0/\HT.sIx a.size a.size d=a.size) (h:Q (.ref t) s):wpAny (Af prog w) A (getItem (.ref t) (.ref e)) Q E s:=by
 obtain⟨os,f,g,q⟩:=id l
 have i:s.TypeIs (.ref e) "slice":=⟨os,f,g⟩
 unfold getItem
 try with_reducible refine Ei ?_
 first|refine Ag (AE ?_)|skip
 refine Ag (wpAny_sequenceKey b.typeIs (by decide) ?_)
 refine Ag (FY (name:=Dt "__getitem__") b.typeIs PL
  (Fk PL b.typeIs entry_tuple_getitem ?_ (args_tuple_getitem _ _)))
 show wpAny _ _ (Builtin.Tuple.tupleItemsOf (.ref t) >>= _) _ _ s
 refine Ag (PyProof.Rows.tupleItemsOf_ b ?_)
 refine Ag (Iv i ?_)
 rw[if_pos (by decide)]
 refine Ag (HT.sliceApplied_gen l o p ?_)
 have c:(((HT.sIx a.size 0 lo:Nat):Int)==0&&(1:Int)==1&&(HT.sIx a.size a.size d-HT.sIx a.size 0 lo)==a.size)=true:=by
  rw[m.1,m.2];simp
 show wpAny _ _ (if(((HT.sIx a.size 0 lo:Nat):Int)==0&&(1:Int)==1&&(HT.sIx a.size a.size d-HT.sIx a.size 0 lo)==a.size)=true then _ else _) _ _ s
 rw[if_pos c]
 unfold Builtin.Tuple.tupleIsExact
 refine Ag (Ag (Iv b.typeIs (AE ?_)))
 rw[if_pos (by decide)]
 exact Ag (FK (AE ⟨_,rfl,AE h⟩))
end
def iG(K:As):V->Option Int->Option Int->Hp->VK->Prop:=λx lo c H Q=>∃a b,x=.ref a/\BV K H a b/\(F0 b lo c=b->Q (.ref a) H)/\∀p,H p=none->Q (.ref p) (A3 H p (.tup (F0 b lo c)))
theorem G5{X:Cx}:GY X (iG X.K):=by
 intro c s o H x v p t lo g u Q I i j k l h
 obtain⟨a,b,rfl,m,w,q⟩:=h
 by_cases e:HT.sIx b.length 0 lo=0/\HT.sIx b.length b.length g=b.length
 ·cases i
  obtain⟨f,r,n,y⟩:=I.tuple m
  have d:f.toArray.size=b.length:=by rw[BF];exact r.length.symm
  refine⟨"tuple",_,PyProof.Rows.slot_tuple_getitem.lookup,n.typeIs,iF n j k l (by rw[d];exact e) ⟨.ref a,H,I,rfl,w ?_⟩⟩
  unfold F0
  rw[e.1,e.2,List.drop_zero,Nat.sub_zero,List.take_length]
 ·exact f4 c s o H _ v p t lo g u Q I i j k l ⟨a,b,rfl,m,e,q⟩
@[simp] def Au:D->D->Option D
  |.lst a,.int i=>atI a i
  |.tup a,.int i=>atI a i
  |.str x,.int i=>if x.length<=AG then(atI x.cps.toList i).map λc=>.str ⟨#[c]⟩else none
  |_,_=>none
theorem Ad.atI{K:As}{N:Fb}{H:Hp}{xs:List D}{vs:List V}{i:Int}{d:D}(h:Ad K N H xs vs)(e:L2.atI xs i=some d):∃v,L2.atI vs i=some v/\AI K N H d v:=by
 unfold L2.atI at e ⊢
 rw[<- h.length]
 cases a:DR xs.length i with
 |none=>rw[a]at e;cases e
 |some j=>rw[a]at e;exact h.get e
theorem iH{K:As}:Dz K (UW K) Au:=by
 intro N H x y d1 d2 d Q n b f e q
 unfold Au at e
 split at e
 ·obtain⟨a,vs,g,q1,h⟩:=b
  obtain⟨v,j,k⟩:=h.atI e
  exact .inl ⟨a,vs,_,v,g,f.int,q1,j,q v H (Am.refl H) k⟩
 ·obtain⟨a,vs,g,q1,h⟩:=b.tup
  obtain⟨v,j,k⟩:=h.atI e
  exact .inr (.inl ⟨a,vs,_,v,g,f.int,q1,j,q v H (Am.refl H) k⟩)
 ·split at e
  ·next z i m=>
   cases l:atI z.cps.toList i with
   |none=>rw[l]at e;cases e
   |some c=>rw[l]at e;cases e;exact .inr (.inr ⟨z,i,c,b.str,f.int,m,l,q _ H (Am.refl H) Lh⟩)
  ·cases e
 ·cases e
section
variable{X:Cx}{K:As}{M:Fb}{H0:Hp}{a b e:Expr}{f g:VE->Option D}{pos p2:Bc}
theorem iI(c:JE X a (tP X.K M H0 f))(d:JE X b (tP X.K M H0 g))(e:K0 b):JE X (.Subscript a b pos) (tD X.K M H0 (Zd Au f g)):=⟨have c:=c.h;have d:=d.h;U9 f8 iH c d e⟩
def tO(K:As)(M:Fb)(H0:Hp)(o:VE->Option (Option Int)):TO:=λc H Q=>∃a i,BC K M H0 a c H/\o a=some i/\∀b,Am H b->Q i b
@[simp] def Cw:Option D->Option (Option Int)
  |some (.int i)=>some (some i)
  |_=>none
theorem PO.mono{e:Option Expr}{t t':TO}(h:PO X e t)(m:∀σ H Q,t' σ H Q->t σ H Q):PO X e t':=by
 intro a s σ H Q I q
 exact h a s σ H Q I (m σ H Q q)
theorem Qr :JO X none (tO K M H0 λ_=>some none):=⟨PO.mono fW λa H Q ⟨b,i,R,e,q⟩=>by(try dsimp only at e q);cases e;exact q H (Am.refl H)⟩
theorem IF(h:JE X e (tP K M H0 f)):JO X (some e) (tO K M H0 λρ=>Cw (f ρ)):=⟨have h:=h.h;PO.mono (fX h) λd H Q ⟨ρ,i,R,e,q⟩=>by
 try dsimp only at e q
 unfold Cw at e
 split at e
 ·next j a=>cases e;exact⟨ρ,.int j,R,a,λv b s c=>⟨j,c.int,q b s⟩⟩
 ·cases e⟩
def Em{a:Type}(xs:List a)(lo b:Option Int):List a:=(xs.drop (HT.sIx xs.length 0 lo)).take (HT.sIx xs.length xs.length b-HT.sIx xs.length 0 lo)
@[simp] def G6(x:D)(lo a:Option Int):Option D:=match x with
  |.lst b=>some (.lst (Em b lo a))
  |.tup b=>some (.tup (Em b lo a))
  |.str x=>if x.length<=AG then some (.str (C8 x lo a))else none
  |_=>none
@[simp] def qA(x:D)(lo a:Option Int):Option (List D):=match x with
  |.lst b=>some (Em b lo a)
  |_=>none
theorem Ad.cut{K:As}{N:Fb}{H:Hp}{xs:List D}{vs:List V}(h:Ad K N H xs vs)(lo a:Option Int):Ad K N H (Em xs lo a) (F0 vs lo a):=by
 unfold Em F0
 rw[h.length]
 exact(h.drop _).take _
@[simp] def CB{b:Type}(f:VE->Option D)(lo c:VE->Option (Option Int))(F:D->Option Int->Option Int->Option b):VE->Option b:=λa=>(f a).bind λx=>(lo a).bind λl=>(c a).bind λh=>F x l h
theorem iJ{e:Type}{f:VE->Option D}{lo b:VE->Option (Option Int)}{F:D->Option Int->Option Int->Option e}{ρ:VE}{d:e}(h:CB f lo b F ρ=some d):∃x l u,f ρ=some x/\lo ρ=some l/\b ρ=some u/\F x l u=some d:=by
 unfold CB at h
 cases a:f ρ with
 |none=>rw[a]at h;cases h
 |some x=>
  cases c:lo ρ with
  |none=>rw[a,c]at h;cases h
  |some l=>
   cases g:b ρ with
   |none=>rw[a,c,g]at h;cases h
   |some u=>rw[a,c,g]at h;exact⟨x,l,u,rfl,rfl,rfl,h⟩
theorem Lj{y A:Option Expr}{lo B:VE->Option (Option Int)}(k:JE X e (tP X.K M H0 f))(m:JO X y (tO X.K M H0 lo))(n:JO X A (tO X.K M H0 B)):JE X (.Subscript e (.Slice y A none p2) pos) (tD X.K M H0 (CB f lo B G6)):=⟨have k:=k.h;have m:=m.h;have n:=n.h;(fZ (G0.or (G5.or gJ)) k m n).mono λN H Q ⟨o,d,R,ex,q⟩=>by
 try dsimp only at ex q
 obtain⟨x,l,u,E,G,I,b⟩:=iJ ex
 refine⟨o,x,R,E,λv O r c=>⟨o,l,R.st r,G,λT t=>⟨o,u,(R.st r).st t,I,λU C=>?_⟩⟩⟩
 have c:=(c.same t).same C
 have s:=(r.trans t).trans C
 have J:=R.st s
 unfold G6 at b
 split at b
 ·cases b
  obtain⟨a,vs,w,i,j⟩:=c
  exact .inl ⟨a,vs,w,i,λp g=>q _ _ (s.trans (FF g)) (Vs J.nh g (j.cut l u))⟩
 ·cases b
  obtain⟨a,vs,w,i,j⟩:=c.tup
  refine .inr (.inl ⟨a,vs,w,i,λz=>q _ _ s ?_,λp g=>q _ _ (s.trans (FF g)) (JQ g (j.cut l u))⟩)
  simp only[AI]
  exact⟨a,vs,rfl,i,z ▸ j.cut l u⟩
 ·split at b
  ·next L=>cases b;exact .inr (.inr ⟨_,c.str,L,q _ _ s Lh⟩)
  ·cases b
 ·cases b⟩
end
mutual
def AB:D->D->Bool
 |.non,.non=>true
 |.bl a,.bl b=>a==b
 |.bl a,.int b=>(if a then 1 else 0)==b
 |.int a,.bl b=>a==(if b then 1 else 0)
 |.int a,.int b=>a==b
 |.str a,.str b=>a==b
 |.tup c,.tup d=>Cy c d
 |.lst c,.lst d=>Cy c d
 |_,_=>false
def Cy:List D->List D->Bool
 |[],[]=>true
 |x::a,y::b=>AB x y&&Cy a b
 |_,_=>false
end
@[simp] def A5:Nat->D->Bool
  |_,.non=>true
  |_,.bl _=>true
  |_,.int _=>true
  |_,.str _=>true
  |n+1,.tup a=>a.all (A5 n)
  |n+1,.lst a=>a.all (A5 n)
  |_,_=>false
mutual
theorem Vt:∀(n:Nat)(d:D),A5 n d=true->AB d d=true
 |_,.non,_=>by simp only[AB]
 |_,.bl _,_=>by simp only[AB,beq_self_eq_true]
 |_,.int _,_=>by simp only[AB,beq_self_eq_true]
 |_,.str _,_=>by simp only[AB,beq_self_eq_true]
 |0,.ty _,h=>by simp[A5]at h
 |_+1,.ty _,h=>by simp[A5]at h
 |0,.tup a,h=>by simp[A5]at h
 |0,.lst a _,h=>by simp[A5]at h
 |n+1,.tup a,h=>by simp only[A5]at h;simp only[AB];exact Lk n a h
 |n+1,.lst a false,h=>by simp only[A5]at h;simp only[AB];exact Lk n a h
 |n+1,.lst a true,h=>by simp[A5]at h
theorem Lk:∀(n:Nat)(xs:List D),xs.all (A5 n)=true->Cy xs xs=true
 |_,[],_=>by simp only[Cy]
 |n,x::xs,h=>by
  simp only[D7,Dj]at h
  simp only[Cy,Dj]
  exact⟨Vt n x h.1,Lk n xs h.2⟩
end
theorem Qs:∀{xs ys:List D},xs.length≠ys.length->Cy xs ys=false
 |[],[],h=>absurd rfl h
 |[],_::_,_=>by simp only[Cy]
 |_::_,[],_=>by simp only[Cy]
 |x::xs,y::ys,h=>by
  simp only[Cy]
  rw[Qs (xs:=xs) (ys:=ys) (by simpa using h),Bool.and_false]
theorem Qt:∀{xs ys:List D},xs.length=ys.length->Cy xs ys=(A7 xs.length).all λj=>AB (xs.getD j .non) (ys.getD j .non)
 |[],[],_=>by simp[Cy]
 |[],_::_,h=>by simp at h
 |_::_,[],h=>by simp at h
 |x::xs,y::ys,h=>by
  have a:=Qt (xs:=xs) (ys:=ys) (by simpa using h)
  simp only[Cy,B8,List.range_succ_eq_map,D7,List.getD_cons_zero,HF,a]
  rfl
section
variable{X:Cx}{pins:List (Ac×AM)}{σ:St}{H:Hp}{s:Ab}
theorem Inv.apart(I:Inv X pins σ H s){a:Ac}{xs ys:List V}(h:BE X.K H a xs)(h':BV X.K H a ys):False:=by
 obtain⟨g,r,⟨o,n,e,c,_⟩,_⟩:=I.list h
 obtain⟨b,i,⟨j,d,f,_⟩,_⟩:=I.tuple h'
 rw[e]at d;cases d
 rw[c]at f
 exact absurd f (by decide)
theorem Rd.dct_inj{H:Hp}{a:Ac}{d c:List KT}{vs b:List V}(h:Rd H a (.dct d vs))(h':Rd H a (.dct c b)):vs=b:=by
 rcases h with h|⟨o,h⟩<;>rcases h' with h'|⟨e,h'⟩<;>(rw[h]at h';cases h';try rfl)
theorem Inv.apartDL(I:Inv X pins σ H s){a:Ac}{g:List KT}{xs ys:List V}(h:Rd H a (.dct g xs))(h':BE X.K H a ys):False:=by
 obtain⟨_,_,_,o,_,_,e,c,_⟩:=h.ok I.hok
 obtain⟨b,i,⟨j,k,d,f,_⟩,_⟩:=I.list h'
 rw[e]at d;cases d
 rw[c.1]at f
 exact absurd f (by decide)
theorem Inv.apartDT(I:Inv X pins σ H s){a:Ac}{g:List KT}{xs ys:List V}(h:Rd H a (.dct g xs))(h':BV X.K H a ys):False:=by
 obtain⟨_,_,_,o,_,_,e,c,_⟩:=h.ok I.hok
 obtain⟨b,i,⟨j,d,f,_⟩,_⟩:=I.tuple h'
 rw[e]at d;cases d
 rw[c.1]at f
 exact absurd f (by decide)
mutual
/-- what an address denotes is one thing -/
theorem Vu(I:Inv X pins σ H s){N m:Fb}:∀(d d':D)(v:V),AK X.K N H d v->AK X.K m H d' v->d=d'
 |.non,d',v,h,c=>by
  have h:=h.non
  cases d' with
  |non=>rfl
  |bl _=>rw[c.bl]at h;cases h
  |int _=>rw[c.int]at h;cases h
  |str _=>rw[c.str]at h;cases h
  |ty _=>rw[c.ty]at h;cases h
  |tup _=>obtain⟨_,_,e,_⟩:=c.tup;rw[e]at h;cases h
  |lst _ g=>cases g<;>(obtain⟨_,_,e,_⟩:=c;rw[e]at h;cases h)
 |.bl _,d',v,h,c=>by
  have h:=h.bl
  cases d' with
  |non=>rw[c.non]at h;cases h
  |bl _=>rw[c.bl]at h;cases h;rfl
  |int _=>rw[c.int]at h;cases h
  |str _=>rw[c.str]at h;cases h
  |ty _=>rw[c.ty]at h;cases h
  |tup _=>obtain⟨_,_,e,_⟩:=c.tup;rw[e]at h;cases h
  |lst _ g=>cases g<;>(obtain⟨_,_,e,_⟩:=c;rw[e]at h;cases h)
 |.int _,d',v,h,c=>by
  have h:=h.int
  cases d' with
  |non=>rw[c.non]at h;cases h
  |bl _=>rw[c.bl]at h;cases h
  |int _=>rw[c.int]at h;cases h;rfl
  |str _=>rw[c.str]at h;cases h
  |ty _=>rw[c.ty]at h;cases h
  |tup _=>obtain⟨_,_,e,_⟩:=c.tup;rw[e]at h;cases h
  |lst _ g=>cases g<;>(obtain⟨_,_,e,_⟩:=c;rw[e]at h;cases h)
 |.str _,d',v,h,c=>by
  have h:=h.str
  cases d' with
  |non=>rw[c.non]at h;cases h
  |bl _=>rw[c.bl]at h;cases h
  |int _=>rw[c.int]at h;cases h
  |str _=>rw[c.str]at h;cases h;rfl
  |ty _=>rw[c.ty]at h;cases h
  |tup _=>obtain⟨_,_,e,_⟩:=c.tup;rw[e]at h;cases h
  |lst _ g=>cases g<;>(obtain⟨_,_,e,_⟩:=c;rw[e]at h;cases h)
 |.ty _,d',v,h,c=>by
  have h:=h.ty
  cases d' with
  |non=>rw[c.non]at h;cases h
  |bl _=>rw[c.bl]at h;cases h
  |int _=>rw[c.int]at h;cases h
  |str _=>rw[c.str]at h;cases h
  |ty _=>rw[c.ty]at h;cases h;rfl
  |tup _=>obtain⟨_,_,e,_⟩:=c.tup;rw[e]at h;cases h
  |lst _ g=>cases g<;>(obtain⟨_,_,e,_⟩:=c;rw[e]at h;cases h)
 |.tup l,d',v,h,c=>by
  obtain⟨a,vs,e,q,r⟩:=h.tup
  subst e
  cases d' with
  |non=>cases c.non
  |bl _=>cases c.bl
  |int _=>cases c.int
  |str _=>cases c.str
  |ty _=>cases c.ty
  |tup k=>
   obtain⟨b,j,e,f,i⟩:=c.tup
   cases e
   have:=I.tuple_inj q f
   subst this
   rw[JR I l k vs r i]
  |lst _ g=>
   cases g with
   |false=>obtain⟨b,j,e,f,_⟩:=c;cases e;exact(I.apart f q).elim
   |true=>obtain⟨b,j,e,f,_⟩:=c;cases e;exact(I.apartDT f q).elim
 |.lst l true,d',v,h,c=>by
  obtain⟨a,vs,e,q,r⟩:=h
  subst e
  cases d' with
  |non=>cases c.non
  |bl _=>cases c.bl
  |int _=>cases c.int
  |str _=>cases c.str
  |ty _=>cases c.ty
  |tup k=>obtain⟨b,j,e,f,i⟩:=c.tup;cases e;exact(I.apartDT q f).elim
  |lst k g=>
   cases g with
   |false=>obtain⟨b,j,e,f,i⟩:=c;cases e;exact(I.apartDL q f).elim
   |true=>
    obtain⟨b,j,e,f,i⟩:=c
    cases e
    have:=Rd.dct_inj q f
    subst this
    rw[JR I l k vs r i]
 |.lst l false,d',v,h,c=>by
  obtain⟨a,vs,e,q,r⟩:=h
  subst e
  cases d' with
  |non=>cases c.non
  |bl _=>cases c.bl
  |int _=>cases c.int
  |str _=>cases c.str
  |ty _=>cases c.ty
  |tup k=>obtain⟨b,j,e,f,i⟩:=c.tup;cases e;exact(I.apart q f).elim
  |lst k g=>
   cases g with
   |true=>obtain⟨b,j,e,f,i⟩:=c;cases e;exact(I.apartDL f q).elim
   |false=>
   obtain⟨b,j,e,f,i⟩:=c
   cases e
   have:=I.list_inj q f
   subst this
   rw[JR I l k vs r i]
theorem JR(I:Inv X pins σ H s){N b:Fb}:∀(xs ys:List D)(vs:List V),Ad X.K N H xs vs->Ad X.K b H ys vs->xs=ys
 |[],ys,vs,h,a=>by
  simp only[Ad]at h;subst h
  cases ys with
  |nil=>rfl
  |cons y ys=>simp only[Ad]at a;obtain⟨_,_,e,_⟩:=a;cases e
 |x::xs,ys,vs,h,a=>by
  simp only[Ad]at h
  obtain⟨v,r,e,q,t⟩:=h
  subst e
  cases ys with
  |nil=>simp only[Ad]at a;cases a
  |cons y ys=>
   simp only[Ad]at a
   obtain⟨f,g,e,c,d⟩:=a
   cases e
   rw[Vu I x y v q.p c.p,JR I xs ys r t d]
end
open SeqAt
theorem Ci{a:Type}{xs:List a}{j:Nat}{d e:a}(h:xs[j]?=some e):xs.getD j d=e:=by simp[List.getD_eq_getElem?_getD,h]
theorem MY{a:List Aa}{j:Nat}{u:Aa}(b:j<a.toArray.size)(e:a[j]?=some u):a.toArray[j]=u:=by
 obtain⟨_,e⟩:=List.getElem?_eq_some_iff.mp e
 simpa using e
def iK(A:Ak)(s:Ab)(u v:Aa)(b:Bool):Prop:=RcAt A s u v b/\EqAt A s u v b/\RcNeAt A s u v (!b)
theorem HG(A:Ak):A.in1.units=A.units+1:=rfl
theorem JU(I:Inv X pins σ H s){N:Fb}:∀(n:Nat)(A:Ak)(x y:D)(vx vy:V)(u v:Aa),A.units+n<AF->A5 n x=true->A5 n y=true->AK X.K N H x vx->AK X.K N H y vy->RelV vx u->RelV vy v->iK A s u v (AB x y):=by
 intro n
 induction n with
 |zero=>
  intro A x y vx vy u v hu L k C d q b
  have a:A.units<AF:=by omega
  cases x with
  |non=>
   rw[C.non]at q;cases q
   cases y with
   |non=>rw[d.non]at b;cases b;simp only[AB];exact⟨RcAt.none_none,EqAt.same _,RcNeAt.none_none⟩
   |bl _=>rw[d.bl]at b;cases b;simp only[AB];exact⟨RcAt.none_bool _,EqAt.none_bool _,RcNeAt.none_bool _⟩
   |int _=>rw[d.int]at b;obtain⟨r,rfl⟩:=b;simp only[AB];exact⟨RcAt.none_int _ _,EqAt.none_int _ _,RcNeAt.none_int _ _⟩
   |str _=>rw[d.str]at b;obtain⟨r,rfl⟩:=b;simp only[AB];exact⟨RcAt.none_str _ _,EqAt.none_str _ _,RcNeAt.none_str _ _⟩
   |tup g=>simp[A5]at k
   |lst g=>simp[A5]at k
   |ty _=>simp[A5]at k
  |bl _=>
   rw[C.bl]at q;cases q
   cases y with
   |non=>rw[d.non]at b;cases b;simp only[AB];exact⟨RcAt.bool_none _,EqAt.bool_none _,RcNeAt.bool_none _⟩
   |bl _=>rw[d.bl]at b;cases b;simp only[AB];exact⟨RcAt.bool_bool _ _,EqAt.bool_bool _ _,RcNeAt.bool_bool _ _⟩
   |int _=>rw[d.int]at b;obtain⟨r,rfl⟩:=b;simp only[AB];exact⟨RcAt.bool_int _ _ _,EqAt.bool_int _ _ _,RcNeAt.bool_int _ _ _⟩
   |str _=>rw[d.str]at b;obtain⟨r,rfl⟩:=b;simp only[AB];exact⟨RcAt.bool_str _ _ _,EqAt.bool_str _ _ _,RcNeAt.bool_str _ _ _⟩
   |tup g=>simp[A5]at k
   |lst g=>simp[A5]at k
   |ty _=>simp[A5]at k
  |int _=>
   rw[C.int]at q;obtain⟨t1,rfl⟩:=q
   cases y with
   |non=>rw[d.non]at b;cases b;simp only[AB];exact⟨RcAt.int_none _ _,EqAt.int_none _ _,RcNeAt.int_none _ _⟩
   |bl _=>rw[d.bl]at b;cases b;simp only[AB];exact⟨RcAt.int_bool _ _ _,EqAt.int_bool _ _ _,RcNeAt.int_bool _ _ _⟩
   |int _=>rw[d.int]at b;obtain⟨r,rfl⟩:=b;simp only[AB];exact⟨RcAt.int_int _ _ _ _,EqAt.int_int _ _ _ _,RcNeAt.int_int _ _ _ _⟩
   |str _=>rw[d.str]at b;obtain⟨r,rfl⟩:=b;simp only[AB];exact⟨RcAt.int_str _ _ _ _,EqAt.int_str _ _ _ _,RcNeAt.int_str _ _ _ _⟩
   |tup g=>simp[A5]at k
   |lst g=>simp[A5]at k
   |ty _=>simp[A5]at k
  |str _=>
   rw[C.str]at q;obtain⟨t1,rfl⟩:=q
   cases y with
   |non=>rw[d.non]at b;cases b;simp only[AB];exact⟨RcAt.str_none _ _,EqAt.str_none _ _,RcNeAt.str_none _ _⟩
   |bl _=>rw[d.bl]at b;cases b;simp only[AB];exact⟨RcAt.str_bool _ _ _,EqAt.str_bool _ _ _,RcNeAt.str_bool _ _ _⟩
   |int _=>rw[d.int]at b;obtain⟨r,rfl⟩:=b;simp only[AB];exact⟨RcAt.str_int _ _ _ _,EqAt.str_int _ _ _ _,RcNeAt.str_int _ _ _ _⟩
   |str _=>rw[d.str]at b;obtain⟨r,rfl⟩:=b;simp only[AB];exact⟨RcAt.str_str _ _ _ _,EqAt.str_str _ _ _ _,RcNeAt.str_str _ _ _ _⟩
   |tup g=>simp[A5]at k
   |lst g=>simp[A5]at k
   |ty _=>simp[A5]at k
  |tup l=>simp[A5]at L
  |lst l=>simp[A5]at L
  |ty _=>simp[A5]at L
 |succ n ih=>
  intro A x y vx vy u v hu L k C d q b
  have a:A.units<AF:=by omega
  cases x with
  |non=>
   rw[C.non]at q;cases q
   cases y with
   |non=>rw[d.non]at b;cases b;simp only[AB];exact⟨RcAt.none_none,EqAt.same _,RcNeAt.none_none⟩
   |bl _=>rw[d.bl]at b;cases b;simp only[AB];exact⟨RcAt.none_bool _,EqAt.none_bool _,RcNeAt.none_bool _⟩
   |int _=>rw[d.int]at b;obtain⟨r,rfl⟩:=b;simp only[AB];exact⟨RcAt.none_int _ _,EqAt.none_int _ _,RcNeAt.none_int _ _⟩
   |str _=>rw[d.str]at b;obtain⟨r,rfl⟩:=b;simp only[AB];exact⟨RcAt.none_str _ _,EqAt.none_str _ _,RcNeAt.none_str _ _⟩
   |tup g=>obtain⟨a2,m,o,q2,d2⟩:=d.tup;subst o;cases b;obtain⟨c,z,f,z2⟩:=I.tuple q2;simp only[AB];exact⟨RcAt.none_tuple f a,EqAt.none_tuple f a,RcNeAt.none_tuple f a⟩
   |lst g B=>
    cases B with
    |true=>simp[A5]at k
    |false=>
     obtain⟨a2,m,o,q2,d2⟩:=d;subst o;cases b;obtain⟨c,z,f,z2⟩:=I.list q2;simp only[AB];exact⟨RcAt.none_list f.isList a,EqAt.none_list f.isList a,RcNeAt.none_list f.isList a⟩
   |ty _=>simp[A5]at k
  |bl _=>
   rw[C.bl]at q;cases q
   cases y with
   |non=>rw[d.non]at b;cases b;simp only[AB];exact⟨RcAt.bool_none _,EqAt.bool_none _,RcNeAt.bool_none _⟩
   |bl _=>rw[d.bl]at b;cases b;simp only[AB];exact⟨RcAt.bool_bool _ _,EqAt.bool_bool _ _,RcNeAt.bool_bool _ _⟩
   |int _=>rw[d.int]at b;obtain⟨r,rfl⟩:=b;simp only[AB];exact⟨RcAt.bool_int _ _ _,EqAt.bool_int _ _ _,RcNeAt.bool_int _ _ _⟩
   |str _=>rw[d.str]at b;obtain⟨r,rfl⟩:=b;simp only[AB];exact⟨RcAt.bool_str _ _ _,EqAt.bool_str _ _ _,RcNeAt.bool_str _ _ _⟩
   |tup g=>obtain⟨a2,m,o,q2,d2⟩:=d.tup;subst o;cases b;obtain⟨c,z,f,z2⟩:=I.tuple q2;simp only[AB];exact⟨RcAt.bool_tuple _ f a,EqAt.bool_tuple _ f a,RcNeAt.bool_tuple _ f a⟩
   |lst g B=>
    cases B with
    |true=>simp[A5]at k
    |false=>
     obtain⟨a2,m,o,q2,d2⟩:=d;subst o;cases b;obtain⟨c,z,f,z2⟩:=I.list q2;simp only[AB];exact⟨RcAt.bool_list _ f.isList a,EqAt.bool_list _ f.isList a,RcNeAt.bool_list _ f.isList a⟩
   |ty _=>simp[A5]at k
  |int _=>
   rw[C.int]at q;obtain⟨t1,rfl⟩:=q
   cases y with
   |non=>rw[d.non]at b;cases b;simp only[AB];exact⟨RcAt.int_none _ _,EqAt.int_none _ _,RcNeAt.int_none _ _⟩
   |bl _=>rw[d.bl]at b;cases b;simp only[AB];exact⟨RcAt.int_bool _ _ _,EqAt.int_bool _ _ _,RcNeAt.int_bool _ _ _⟩
   |int _=>rw[d.int]at b;obtain⟨r,rfl⟩:=b;simp only[AB];exact⟨RcAt.int_int _ _ _ _,EqAt.int_int _ _ _ _,RcNeAt.int_int _ _ _ _⟩
   |str _=>rw[d.str]at b;obtain⟨r,rfl⟩:=b;simp only[AB];exact⟨RcAt.int_str _ _ _ _,EqAt.int_str _ _ _ _,RcNeAt.int_str _ _ _ _⟩
   |tup g=>obtain⟨a2,m,o,q2,d2⟩:=d.tup;subst o;cases b;obtain⟨c,z,f,z2⟩:=I.tuple q2;simp only[AB];exact⟨RcAt.int_tuple _ _ f a,EqAt.int_tuple _ _ f a,RcNeAt.int_tuple _ _ f a⟩
   |lst g B=>
    cases B with
    |true=>simp[A5]at k
    |false=>
     obtain⟨a2,m,o,q2,d2⟩:=d;subst o;cases b;obtain⟨c,z,f,z2⟩:=I.list q2;simp only[AB];exact⟨RcAt.int_list _ _ f.isList a,EqAt.int_list _ _ f.isList a,RcNeAt.int_list _ _ f.isList a⟩
   |ty _=>simp[A5]at k
  |str _=>
   rw[C.str]at q;obtain⟨t1,rfl⟩:=q
   cases y with
   |non=>rw[d.non]at b;cases b;simp only[AB];exact⟨RcAt.str_none _ _,EqAt.str_none _ _,RcNeAt.str_none _ _⟩
   |bl _=>rw[d.bl]at b;cases b;simp only[AB];exact⟨RcAt.str_bool _ _ _,EqAt.str_bool _ _ _,RcNeAt.str_bool _ _ _⟩
   |int _=>rw[d.int]at b;obtain⟨r,rfl⟩:=b;simp only[AB];exact⟨RcAt.str_int _ _ _ _,EqAt.str_int _ _ _ _,RcNeAt.str_int _ _ _ _⟩
   |str _=>rw[d.str]at b;obtain⟨r,rfl⟩:=b;simp only[AB];exact⟨RcAt.str_str _ _ _ _,EqAt.str_str _ _ _ _,RcNeAt.str_str _ _ _ _⟩
   |tup g=>obtain⟨a2,m,o,q2,d2⟩:=d.tup;subst o;cases b;obtain⟨c,z,f,z2⟩:=I.tuple q2;simp only[AB];exact⟨RcAt.str_tuple _ _ f a,EqAt.str_tuple _ _ f a,RcNeAt.str_tuple _ _ f a⟩
   |lst g B=>
    cases B with
    |true=>simp[A5]at k
    |false=>
     obtain⟨a2,m,o,q2,d2⟩:=d;subst o;cases b;obtain⟨c,z,f,z2⟩:=I.list q2;simp only[AB];exact⟨RcAt.str_list _ _ f.isList a,EqAt.str_list _ _ f.isList a,RcNeAt.str_list _ _ f.isList a⟩
   |ty _=>simp[A5]at k
  |tup l=>
   obtain⟨a1,vs1,e1,q1,d1⟩:=C.tup;subst e1;cases q;obtain⟨h,r1,i,z1⟩:=I.tuple q1
   cases y with
   |non=>rw[d.non]at b;cases b;simp only[AB];exact⟨RcAt.tuple_none i a,EqAt.tuple_none i a,RcNeAt.tuple_none i a⟩
   |bl _=>rw[d.bl]at b;cases b;simp only[AB];exact⟨RcAt.tuple_bool _ i a,EqAt.tuple_bool _ i a,RcNeAt.tuple_bool _ i a⟩
   |int _=>rw[d.int]at b;obtain⟨r,rfl⟩:=b;simp only[AB];exact⟨RcAt.tuple_int _ _ i a,EqAt.tuple_int _ _ i a,RcNeAt.tuple_int _ _ i a⟩
   |str _=>rw[d.str]at b;obtain⟨r,rfl⟩:=b;simp only[AB];exact⟨RcAt.tuple_str _ _ i a,EqAt.tuple_str _ _ i a,RcNeAt.tuple_str _ _ i a⟩
   |tup g=>
    obtain⟨a2,m,o,q2,d2⟩:=d.tup;subst o;cases b;obtain⟨c,z,f,z2⟩:=I.tuple q2
    simp only[A5]at L k
    have l1:=r1.length
    have l2:=z.length
    have m1:=d1.length
    have m2:=d2.length
    simp only[AB]
    have M:RcAt A s (.ref a1) (.ref a2) (Cy l g)/\RcNeAt A s (.ref a1) (.ref a2) (!Cy l g):=by
     have t:∀j (O:j<h.toArray.size) (Q:j<c.toArray.size),EqAt A.in1 s h.toArray[j] c.toArray[j] (AB (l.getD j .non) (g.getD j .non)):=λj O Q=>?_
     ·have E:=RcAt.tuples (A:=A) (s:=s) (e:=λj=>AB (l.getD j .non) (g.getD j .non)) i f a t
      have w:=RcNeAt.tuples (A:=A) (s:=s) (e:=λj=>AB (l.getD j .non) (g.getD j .non)) i f a t
      have e:((A7 (min h.toArray.size c.toArray.size)).all (λj=>AB (l.getD j .non) (g.getD j .non))&&h.toArray.size==c.toArray.size)=Cy l g:=by
       rw[BF,BF]
       by_cases hl:l.length=g.length
       ·rw[Qt hl,show h.length=l.length by omega,show c.length=l.length by omega,Nat.min_self];simp
       ·rw[Qs hl,show(h.length==c.length)=false by simp;omega,Bool.and_false]
      rw[e]at E w
      exact⟨E,w⟩
     ·have G:j<l.length:=by rw[BF]at O;omega
      have J:j<g.length:=by rw[BF]at Q;omega
      have g1:=CH G
      have g2:=CH J
      obtain⟨w1,T,U⟩:=d1.get g1
      obtain⟨w2,Y,dw2⟩:=d2.get g2
      obtain⟨u1,hu1,ru1⟩:=r1.get T
      obtain⟨u2,hu2,ru2⟩:=z.get Y
      rw[MY O hu1,MY Q hu2,Ci g1,Ci g2]
      exact(ih A.in1 _ _ _ _ _ _ (by rw[HG];omega) (Ev.mp L _ (ET G)) (Ev.mp k _ (ET J)) U.p dw2.p ru1 ru2).2.1
    refine⟨M.1,?_,M.2⟩
    by_cases ea:a1=a2
    ·subst ea
     have:=I.tuple_inj q1 q2
     subst this
     rw[JR I l g _ d1 d2,Lk n g k]
     exact EqAt.same _
    ·exact EqAt.of_refs ea M.1
   |lst g B=>
    cases B with
    |true=>simp[A5]at k
    |false=>
     obtain⟨a2,m,o,q2,d2⟩:=d;subst o;cases b;obtain⟨c,z,f,z2⟩:=I.list q2;simp only[AB];exact⟨RcAt.tuple_list i f.isList a,EqAt.tuple_list i f.isList a,RcNeAt.tuple_list i f.isList a⟩
   |ty _=>simp[A5]at k
  |lst l B=>
   cases B with
   |true=>simp[A5]at L
   |false=>
    obtain⟨a1,vs1,e1,q1,d1⟩:=C;subst e1;cases q;obtain⟨h,r1,i,z1⟩:=I.list q1
    cases y with
    |non=>rw[d.non]at b;cases b;simp only[AB];exact⟨RcAt.list_none i.isList a,EqAt.list_none i.isList a,RcNeAt.list_none i.isList a⟩
    |bl _=>rw[d.bl]at b;cases b;simp only[AB];exact⟨RcAt.list_bool _ i.isList a,EqAt.list_bool _ i.isList a,RcNeAt.list_bool _ i.isList a⟩
    |int _=>rw[d.int]at b;obtain⟨r,rfl⟩:=b;simp only[AB];exact⟨RcAt.list_int _ _ i.isList a,EqAt.list_int _ _ i.isList a,RcNeAt.list_int _ _ i.isList a⟩
    |str _=>rw[d.str]at b;obtain⟨r,rfl⟩:=b;simp only[AB];exact⟨RcAt.list_str _ _ i.isList a,EqAt.list_str _ _ i.isList a,RcNeAt.list_str _ _ i.isList a⟩
    |tup g=>obtain⟨a2,m,o,q2,d2⟩:=d.tup;subst o;cases b;obtain⟨c,z,f,z2⟩:=I.tuple q2;simp only[AB];exact⟨RcAt.list_tuple i.isList f a,EqAt.list_tuple i.isList f a,RcNeAt.list_tuple i.isList f a⟩
    |lst g B=>
     cases B with
     |true=>simp[A5]at k
     |false=>
      obtain⟨a2,m,o,q2,d2⟩:=d;subst o;cases b;obtain⟨c,z,f,z2⟩:=I.list q2
      simp only[A5]at L k
      have l1:=r1.length
      have l2:=z.length
      have m1:=d1.length
      have m2:=d2.length
      simp only[AB]
      have M:RcAt A s (.ref a1) (.ref a2) (Cy l g)/\RcNeAt A s (.ref a1) (.ref a2) (!Cy l g):=by
       by_cases hl:l.length=g.length
       ·have t:∀j (O:j<h.toArray.size) (Q:j<c.toArray.size),EqAt A.in1 s h.toArray[j] c.toArray[j] (AB (l.getD j .non) (g.getD j .non)):=λj O Q=>?_
        ·have E:=RcAt.lists (A:=A) (s:=s) (e:=λj=>AB (l.getD j .non) (g.getD j .non)) i.isList f.isList (by rw[BF,BF];omega) a t
         have w:=RcNeAt.lists (A:=A) (s:=s) (e:=λj=>AB (l.getD j .non) (g.getD j .non)) i.isList f.isList (by rw[BF,BF];omega) a t
         have e:(A7 h.toArray.size).all (λj=>AB (l.getD j .non) (g.getD j .non))=Cy l g:=by
          rw[BF,Qt hl,show h.length=l.length by omega]
         rw[e]at E w
         exact⟨E,w⟩
        ·have G:j<l.length:=by rw[BF]at O;omega
         have J:j<g.length:=by rw[BF]at Q;omega
         have g1:=CH G
         have g2:=CH J
         obtain⟨w1,T,U⟩:=d1.get g1
         obtain⟨w2,Y,dw2⟩:=d2.get g2
         obtain⟨u1,hu1,ru1⟩:=r1.get T
         obtain⟨u2,hu2,ru2⟩:=z.get Y
         rw[MY O hu1,MY Q hu2,Ci g1,Ci g2]
         exact(ih A.in1 _ _ _ _ _ _ (by rw[HG];omega) (Ev.mp L _ (ET G)) (Ev.mp k _ (ET J)) U.p dw2.p ru1 ru2).2.1
       ·rw[Qs hl]
        have hne:(h.toArray.size != c.toArray.size)=true:=by rw[BF,BF];simp;omega
        exact⟨RcAt.lists_lengths i.isList f.isList hne a,RcNeAt.lists_lengths i.isList f.isList hne a⟩
      refine⟨M.1,?_,M.2⟩
      by_cases ea:a1=a2
      ·subst ea
       have:=I.list_inj q1 q2
       subst this
       rw[JR I l g _ d1 d2,Lk n g k]
       exact EqAt.same _
      ·exact EqAt.of_refs ea M.1
    |ty _=>simp[A5]at k
  |ty _=>simp[A5]at L
end
def B4:Nat:=12
@[simp] def C9(x y:D):Option D:=if A5 B4 x&&A5 B4 y then some (.bl (AB x y))else none
@[simp] def Ew(x y:D):Option D:=if A5 B4 x&&A5 B4 y then some (.bl (!AB x y))else none
def MZ(K:As)(neg:Bool):R2:=λx y H Q=>∃N d1 d2,AK K N H d1 x/\AK K N H d2 y/\A5 B4 d1=true/\A5 B4 d2=true/\Q (.bl (if neg then !AB d1 d2 else AB d1 d2)) H
section
variable{X:Cx}{K:As}{M:Fb}{H0:Hp}{a b:Expr}{f g:VE->Option D}{pos:Bc}
theorem Vv(i:X.A.units+64<AF):Ct X (Eh .Eq) (MZ X.K false):=by
 intro a s j H x y v u Q I b c h
 obtain⟨N,d1,d2,d,e,f,g,q⟩:=h
 exact(JU I B4 X.A d1 d2 x y v u (by unfold B4;omega) f g d e b c).1 X.prog X.w X.xe _ ⟨.bl _,H,I,rfl,q⟩
theorem iL(i:X.A.units+64<AF):Ct X (Eh .NotEq) (MZ X.K true):=by
 intro a s j H x y v u Q I b c h
 obtain⟨N,d1,d2,d,e,f,g,q⟩:=h
 exact(JU I B4 X.A d1 d2 x y v u (by unfold B4;omega) f g d e b c).2.2 X.prog X.w X.xe _ ⟨.bl _,H,I,rfl,q⟩
theorem Vw:Dz K (MZ K false) C9:=by
 intro N H x y d1 d2 d Q f b c e q
 unfold C9 at e
 split at e
 ·next a=>rw[Dj]at a;cases e;exact⟨N,d1,d2,b,c,a.1,a.2,q _ H (Am.refl H) E5⟩
 ·cases e
theorem iM:Dz K (MZ K true) Ew:=by
 intro N H x y d1 d2 d Q f b c e q
 unfold Ew at e
 split at e
 ·next a=>rw[Dj]at a;cases e;exact⟨N,d1,d2,b,c,a.1,a.2,q _ H (Am.refl H) E5⟩
 ·cases e
def F3(x:D)(ys:List D):Bool:=ys.any λy=>AB y x
@[simp] def C2(neg:Bool)(x y:D):Option D:=match y with
  |.lst a=>if A5 B4 x&&a.all (A5 B4)then some (.bl (if neg then !F3 x a else F3 x a))else none
  |.tup a=>if A5 B4 x&&a.all (A5 B4)then some (.bl (if neg then !F3 x a else F3 x a))else none
  |.str z=>match x with
   |.str w=>some (.bl (if neg then !(!(KR z w 0 z.length 1).isEmpty)else !(KR z w 0 z.length 1).isEmpty))
   |_=>none
  |_=>none
def M0(K:As)(neg:Bool):R2:=λx y H Q=>∃N d1 a vs p,AK K N H d1 x/\y=.ref p/\(BE K H p vs\/BV K H p vs)/\Ad K N H a vs/\A5 B4 d1=true/\a.all (A5 B4)=true/\Q (.bl (if neg then !F3 d1 a else F3 d1 a)) H
open Classical in
def Ex(K:As)(N:Fb)(H:Hp)(x:D)(u:Aa):Bool:=decide (∃d w,AK K N H d w/\RelV w u/\AB d x=true)
theorem Vx{a:List (Ac×AM)}{σ:St}{H:Hp}{s:Ab}(I:Inv X a σ H s){N:Fb}{x d:D}{w:V}{u:Aa}(hd:AK X.K N H d w)(r:RelV w u):Ex X.K N H x u=AB d x:=by
 classical
 unfold Ex
 cases e:AB d x with
 |true=>exact @decide_eq_true _ (MU _) ⟨d,w,hd,r,e⟩
 |false=>
  refine @decide_eq_false _ (MU _) ?_
  rintro⟨f,h,b,g,c⟩
  have:=g.inj r
  subst this
  have:=Vu I f d _ b hd
  subst this
  rw[e]at c;cases c
theorem Ll{a:List (Ac×AM)}{σ:St}{H:Hp}{s:Ab}(I:Inv X a σ H s){N:Fb}{x:D}:∀{ys:List D}{vs:List V}{us:List Aa},Ad X.K N H ys vs->Ap vs us->us.any (Ex X.K N H x)=F3 x ys
 |[],_,_,h,r=>by simp only[Ad]at h;subst h;cases r;rfl
 |y::ys,_,_,h,r=>by
  simp only[Ad]at h
  obtain⟨v,t,e,b,c⟩:=h
  subst e
  cases r with
  |cons d f=>
   rw[List.any_cons,Vx I b.p d,Ll I c f]
   rfl
theorem M3{a:List (Ac×AM)}{σ:St}{H:Hp}{s:Ab}(I:Inv X a σ H s){N:Fb}{A:Ak}{x:D}{d:V}{v:Aa}(l:A.units+B4<AF)(m:A5 B4 x=true)(n:AK X.K N H x d)(o:RelV d v){ys:List D}{vs:List V}{us:List Aa}(h:Ad X.K N H ys vs)(r:Ap vs us)(q:ys.all (A5 B4)=true):
  ∀u∈us,SeqAt.EqAt A s u v (Ex X.K N H x u):=by
 intro u b
 obtain⟨j,e⟩:=List.getElem?_of_mem b
 have w:=r.length
 have c:j<vs.length:=by have:=(List.getElem?_eq_some_iff.mp e).1;omega
 have f:=CH c
 obtain⟨z,g,i⟩:=r.get f
 rw[e]at g;cases g
 obtain⟨y,t,k⟩:=h.get' f
 rw[Vx I k.p i]
 exact(JU I B4 A y x _ _ _ _ l (Ev.mp q y (Gp t)) m k.p n i o).2.1
theorem Vy(n:X.A.units+64<AF):Ct X (Eh .In) (M0 X.K false):=by
 intro f s o H x y v u Q I g l h
 obtain⟨N,d1,t,vs,p,i,rfl,b,hd,j,k,q⟩:=h
 cases l
 have c:X.A.in1.units+B4<AF:=by rw[HG];unfold B4;omega
 rcases b with b|b
 ·obtain⟨a,r,d,m⟩:=I.list b
  refine SeqAt.in_listAt (Ex X.K N H d1) d.isList (λw e=>M3 I c j i g hd r k w (by simpa using e)) ⟨.bl _,H,I,rfl,?_⟩
  rw[show a.toArray.any (Ex X.K N H d1)=a.any (Ex X.K N H d1) by simp,Ll I hd r]
  exact q
 ·obtain⟨a,r,d,m⟩:=I.tuple b
  refine SeqAt.in_tupleAt (Ex X.K N H d1) d (λw e=>M3 I c j i g hd r k w (by simpa using e)) ⟨.bl _,H,I,rfl,?_⟩
  rw[show a.toArray.any (Ex X.K N H d1)=a.any (Ex X.K N H d1) by simp,Ll I hd r]
  exact q
theorem iN(n:X.A.units+64<AF):Ct X (Eh .NotIn) (M0 X.K true):=by
 intro f s o H x y v u Q I g l h
 obtain⟨N,d1,t,vs,p,i,rfl,b,hd,j,k,q⟩:=h
 cases l
 have c:X.A.in1.units+B4<AF:=by rw[HG];unfold B4;omega
 rcases b with b|b
 ·obtain⟨a,r,d,m⟩:=I.list b
  refine SeqAt.notIn_listAt (Ex X.K N H d1) d.isList (λw e=>M3 I c j i g hd r k w (by simpa using e)) ⟨.bl _,H,I,rfl,?_⟩
  rw[show a.toArray.any (Ex X.K N H d1)=a.any (Ex X.K N H d1) by simp,Ll I hd r]
  exact q
 ·obtain⟨a,r,d,m⟩:=I.tuple b
  refine SeqAt.notIn_tupleAt (Ex X.K N H d1) d (λw e=>M3 I c j i g hd r k w (by simpa using e)) ⟨.bl _,H,I,rfl,?_⟩
  rw[show a.toArray.any (Ex X.K N H d1)=a.any (Ex X.K N H d1) by simp,Ll I hd r]
  exact q
theorem Vz:Dz K (λx y H Q=>M0 K false x y H Q\/∃i j,x=.str i/\y=.str j/\Q (.bl (!(KR j i 0 j.length 1).isEmpty)) H) (C2 false):=by
 intro N H x y d1 d2 d Q k c f e q
 unfold C2 at e
 split at e
 ·split at e
  ·next b=>rw[Dj]at b;cases e;obtain⟨a,vs,g,q1,h⟩:=f;exact .inl ⟨N,d1,_,vs,a,c,g,.inl q1,h,b.1,b.2,q _ H (Am.refl H) E5⟩
  ·cases e
 ·split at e
  ·next b=>rw[Dj]at b;cases e;obtain⟨a,vs,g,q1,h⟩:=f.tup;exact .inl ⟨N,d1,_,vs,a,c,g,.inr q1,h,b.1,b.2,q _ H (Am.refl H) E5⟩
  ·cases e
 ·split at e
  ·cases e;exact .inr ⟨_,_,c.str,f.str,q _ H (Am.refl H) E5⟩
  ·cases e
 ·cases e
theorem iO:Dz K (λx y H Q=>M0 K true x y H Q\/∃i j,x=.str i/\y=.str j/\Q (.bl (!(!(KR j i 0 j.length 1).isEmpty))) H) (C2 true):=by
 intro N H x y d1 d2 d Q k c f e q
 unfold C2 at e
 split at e
 ·split at e
  ·next b=>rw[Dj]at b;cases e;obtain⟨a,vs,g,q1,h⟩:=f;exact .inl ⟨N,d1,_,vs,a,c,g,.inl q1,h,b.1,b.2,q _ H (Am.refl H) E5⟩
  ·cases e
 ·split at e
  ·next b=>rw[Dj]at b;cases e;obtain⟨a,vs,g,q1,h⟩:=f.tup;exact .inl ⟨N,d1,_,vs,a,c,g,.inr q1,h,b.1,b.2,q _ H (Am.refl H) E5⟩
  ·cases e
 ·split at e
  ·cases e;exact .inr ⟨_,_,c.str,f.str,q _ H (Am.refl H) E5⟩
  ·cases e
 ·cases e
@[simp] def Ey(lt:D->D->Option Bool):List D->List D->Option Bool
  |[],[]=>some false
  |[],_::_=>some true
  |_::_,[]=>some false
  |x::a,y::b=>if A5 B4 x&&A5 B4 y then(if AB x y then Ey lt a b else lt x y)else none
@[simp] def ltN:Nat->D->D->Option Bool
  |_,.int i,.int j=>some (decide (i<j))
  |_,.str a,.str b=>some (decide (a.cps.toList<b.cps.toList))
  |n+1,.tup c,.tup d=>Ey (ltN n) c d
  |n+1,.lst c false,.lst d false=>Ey (ltN n) c d
  |_,_,_=>none
@[simp] def Lm(x y:D):Option D:=(ltN 6 x y).map D.bl
def VA(K:As):R2:=λx y H Q=>∃N d1 d2 b,AK K N H d1 x/\AK K N H d2 y/\ltN 6 d1 d2=some b/\Q (.bl b) H
theorem Qu{B:List (Ac×AM)}{σ:St}{H:Hp}{s:Ab}(I:Inv X B σ H s){N:Fb}:∀(n:Nat)(A:Ak)(x y:D)(vx vy:V)(u v:Aa)(b:Bool),A.units+n+B4<AF->ltN n x y=some b->AK X.K N H x vx->AK X.K N H y vy->RelV vx u->RelV vy v ->
  ∀(prog:A4) (j:Aj) (E Q:Aa->Ab->Prop),Q (.bool b) s->wpAny (Af prog j) A (richCompare .Lt u v) Q E s:=by
 intro n
 induction n with
 |zero=>
  intro A x y vx vy u v b hu h o r f g prog j E Q q
  unfold ltN at h
  split at h
  ·cases h;rw[o.int]at f;rw[r.int]at g;obtain⟨t,rfl⟩:=f;obtain⟨t',rfl⟩:=g;exact HT.rcLt_int A s _ _ _ _ prog j E Q q
  ·cases h;rw[o.str]at f;rw[r.str]at g;obtain⟨t,rfl⟩:=f;obtain⟨t',rfl⟩:=g;exact(PyProof.Rows.lt_str q:wpAny (Af prog j) A (Eh .Lt _ _) Q E s)
  ·next h0=>cases h0
  ·next h0=>cases h0
  ·cases h
 |succ n ih=>
  intro A x y vx vy u v b hu h o r f g prog j E Q q
  have i:∀(k a:List D) (c d:List V) (Ez EA:List Aa),Ey (ltN n) k a=some b->Ad X.K N H k c->Ad X.K N H a d->Ap c Ez->Ap d EA->EM A.in1 s Ez EA b:=by
   intro k
   induction k with
   |nil=>
    intro a c d Ez EA h d1 d2 z l
    simp only[Ad]at d1;subst d1;cases z
    cases a with
    |nil=>simp only[Ad]at d2;subst d2;cases l;cases h;exact .nn
    |cons y a=>simp only[Ad]at d2;obtain⟨w,t,e,_,_⟩:=d2;subst e;cases l;cases h;exact .nc
   |cons x k ihx=>
    intro a c d Ez EA h d1 d2 z l
    simp only[Ad]at d1;obtain⟨w1,t1,C,G,dt1⟩:=d1;subst C
    cases z with
    |cons J rt1=>
     cases a with
     |nil=>simp only[Ad]at d2;subst d2;cases l;cases h;exact .cn
     |cons y a=>
      simp only[Ad]at d2;obtain⟨w2,t2,L,M,dt2⟩:=d2;subst L
      cases l with
      |cons O rt2=>
       simp only[Ey]at h
       split at h
       ·next ho=>
        rw[Dj]at ho
        have he:=(JU I B4 A.in1 x y _ _ _ _ (by rw[HG];omega) ho.1 ho.2 G.p M.p J O).2.1
        split at h
        ·next e=>rw[e]at he;exact .eq he (ihx a _ _ _ _ h dt1 dt2 rt1 rt2)
        ·next e=>
         rw[Ln]at e
         rw[e]at he
         exact .ne he λprog j E Q q=>ih A.in1 x y _ _ _ _ b (by rw[HG];omega) h G.p M.p J O prog j E Q q
       ·cases h
  unfold ltN at h
  split at h
  ·cases h;rw[o.int]at f;rw[r.int]at g;obtain⟨t,rfl⟩:=f;obtain⟨t',rfl⟩:=g;exact HT.rcLt_int A s _ _ _ _ prog j E Q q
  ·cases h;rw[o.str]at f;rw[r.str]at g;obtain⟨t,rfl⟩:=f;obtain⟨t',rfl⟩:=g;exact(PyProof.Rows.lt_str q:wpAny (Af prog j) A (Eh .Lt _ _) Q E s)
  ·next m k a e0=>
   cases e0
   obtain⟨a1,c,C,q1,d1⟩:=o.tup
   obtain⟨a2,d,L,q2,d2⟩:=r.tup
   subst C L
   cases f
   cases g
   obtain⟨T,z,p1,_⟩:=I.tuple q1
   obtain⟨U,l,p2,_⟩:=I.tuple q2
   exact gN p1 p2 (by simpa using i k a _ _ _ _ h d1 d2 z l) (by omega) q
  ·next m k a e0=>
   cases e0
   obtain⟨a1,c,C,q1,d1⟩:=o
   obtain⟨a2,d,L,q2,d2⟩:=r
   subst C L
   cases f
   cases g
   obtain⟨T,z,⟨⟨cls,dd,data,sl⟩,n1,ho1,Y,hdd1,hd1⟩,_⟩:=I.list q1
   obtain⟨U,l,⟨⟨cls2,dd2,data2,sl2⟩,n2,ho2,hc2,hdd2,hd2⟩,_⟩:=I.list q2
   simp only at Y hd1 hc2 hd2
   subst Y hd1 hc2 hd2
   exact gO ho1 ho2 (by simpa using i k a _ _ _ _ h d1 d2 z l) (by omega) q
  ·cases h
theorem iP(j:X.A.units+64<AF):Ct X (Eh .Lt) (VA X.K):=by
 intro a s c H x y v u Q I d e h
 obtain⟨N,d1,d2,b,f,g,i,q⟩:=h
 have fin:EP X a c Q (.bool b) s:=⟨.bl b,H,I,rfl,q⟩
 exact Qu I 6 X.A d1 d2 x y v u b (by unfold B4;omega) i f g d e X.prog X.w X.xe _ fin
theorem iQ:Dz K (VA K) Lm:=by
 intro N H x y d1 d2 d Q g c f e q
 unfold Lm at e
 cases a:ltN 6 d1 d2 with
 |none=>rw[a]at e;cases e
 |some b=>rw[a]at e;cases e;exact⟨N,d1,d2,b,c,f,a,q _ H (Am.refl H) E5⟩
end
end L2
namespace L2
open PySem PySem.Spec PyProof.Rows
section
variable{K:As}{N:Fb}{H:Hp}
theorem Paired.one'{a b:Type}{F:a->b->Prop}{x:a}{vs:List b}(h:Paired F [x] vs):∃v,vs=[v]/\F x v:=by
 cases h with
 |cons r t=>cases t;exact⟨_,rfl,r⟩
theorem Paired.two'{a b:Type}{F:a->b->Prop}{x y:a}{vs:List b}(h:Paired F [x,y] vs):∃v w,vs=[v,w]/\F x v/\F y w:=by
 cases h with
 |cons r t=>
  obtain⟨w,e,q⟩:=Paired.one' t
  subst e
  exact⟨_,w,rfl,r,q⟩
@[simp] def B9:List D->Option D
  |[.lst a]=>some (.int a.length)
  |[.tup a]=>some (.int a.length)
  |[.str x]=>if x.length<=AG then some (.int x.length)else none
  |_=>none
theorem EU:D4 K (λxs H Q=>∃x n,xs=[x]/\UA K x H n/\Q (.int n) H) B9:=by
 intro N H vs j d Q k h e q
 unfold B9 at e
 split at e
 ·cases e
  obtain⟨v,rfl,b⟩:=Paired.one' h
  obtain⟨a,c,f,q1,g⟩:=b
  subst f
  exact⟨.ref a,_,rfl,.inl ⟨c,q1,rfl⟩,by rw[<- g.length];exact q _ H (Am.refl H) Fp⟩
 ·cases e
  obtain⟨v,rfl,b⟩:=Paired.one' h
  obtain⟨a,c,f,q1,g⟩:=b.tup
  subst f
  exact⟨.ref a,_,rfl,.inr ⟨c,q1,rfl⟩,by rw[<- g.length];exact q _ H (Am.refl H) Fp⟩
 ·split at e
  ·next i=>
   cases e
   obtain⟨v,rfl,b⟩:=Paired.one' h
   exact⟨v,_,rfl,by rw[b.str];exact⟨i,rfl⟩,q _ H (Am.refl H) Fp⟩
  ·cases e
 ·cases e
@[simp] def Lo:List D->Option (List D)
  |[.lst a]=>some a
  |[.tup a]=>some a
  |_=>none
theorem VB:JH K (λxs H Q=>∃p ys,xs=[.ref p]/\(BE K H p ys\/BV K H p ys)/\∀l,H l=none->Q (.ref l) (A3 H l (.lst ys))) Lo:=by
 intro N H vs i xs Q j h e q
 unfold Lo at e
 split at e
 ·cases e
  obtain⟨v,rfl,c⟩:=Paired.one' h
  obtain⟨a,b,d,q1,f⟩:=c
  subst d
  exact⟨a,b,rfl,.inl q1,λl g=>q b l g f⟩
 ·cases e
  obtain⟨v,rfl,c⟩:=Paired.one' h
  obtain⟨a,b,d,q1,f⟩:=c.tup
  subst d
  exact⟨a,b,rfl,.inr q1,λl g=>q b l g f⟩
 ·cases e
@[simp] def De:List D->Option D
  |[.lst a]=>some (.tup a)
  |[.tup a]=>some (.tup a)
  |_=>none
theorem G7:D4 K (λxs H Q=>∃p ys,xs=[.ref p]/\((BE K H p ys/\∀l,H l=none->Q (.ref l) (A3 H l (.tup ys)))\/(BV K H p ys/\Q (.ref p) H))) De:=by
 intro N H vs j d Q k h e q
 unfold De at e
 split at e
 ·cases e
  obtain⟨v,rfl,c⟩:=Paired.one' h
  obtain⟨a,b,f,q1,g⟩:=c
  subst f
  exact⟨a,b,rfl,.inl ⟨q1,λl i=>q _ _ (FF i) (JQ i g)⟩⟩
 ·cases e
  obtain⟨v,rfl,c⟩:=Paired.one' h
  obtain⟨a,b,f,q1,g⟩:=c.tup
  subst f
  exact⟨a,b,rfl,.inr ⟨q1,q _ _ (Am.refl H) (by simp only[AI];exact⟨a,b,rfl,q1,g⟩)⟩⟩
 ·cases e
def Gx:List D->Option (List Bool)
 |[]=>some []
 |.bl b::r=>(Gx r).map (b::·)
 |_=>none
theorem Qv:∀{xs:List D}{bs:List Bool},Gx xs=some bs->xs=bs.map D.bl
 |[],_,e=>by cases e;rfl
 |.bl b::r,_,e=>by
  simp only[Gx]at e
  cases h:Gx r with
  |none=>rw[h]at e;cases e
  |some bs=>rw[h]at e;cases e;rw[Qv h];rfl
 |.non::_,_,e=>nomatch e
 |.int _::_,_,e=>nomatch e
 |.str _::_,_,e=>nomatch e
 |.ty _::_,_,e=>nomatch e
 |.tup _::_,_,e=>nomatch e
 |.lst _ _::_,_,e=>nomatch e
theorem Qw:∀{bs:List Bool}{vs:List V},Ad K N H (bs.map D.bl) vs->vs=bs.map V.bl
 |[],_,h=>by simpa only[Dd,Ad]using h
 |b::bs,_,h=>by
  simp only[AY,Ad,AI]at h
  obtain⟨v,r,e,a,t⟩:=h
  subst e a
  rw[Qw t];rfl
@[simp] def HH:List D->Option D
  |[.lst a]=>(Gx a).map λbs=>.bl (bs.all id)
  |_=>none
@[simp] def Lp:List D->Option D
  |[.lst a]=>(Gx a).map λbs=>.bl (bs.any id)
  |_=>none
theorem VC:D4 K (λxs H Q=>∃(a:Ac)(bs:List Bool),xs=[.ref a]/\BE K H a (bs.map V.bl)/\Q (.bl (bs.all id)) H) HH:=by
 intro N H vs i d Q j h e q
 unfold HH at e
 split at e
 ·next xs=>
  cases b:Gx xs with
  |none=>rw[b]at e;cases e
  |some bs=>
   rw[b]at e;cases e
   obtain⟨v,rfl,f⟩:=Paired.one' h
   obtain⟨a,k,g,q1,c⟩:=f
   subst g
   rw[Qv b]at c
   rw[Qw c]at q1
   exact⟨a,bs,rfl,q1,q _ H (Am.refl H) E5⟩
 ·cases e
theorem iR:D4 K (λxs H Q=>∃(a:Ac)(bs:List Bool),xs=[.ref a]/\BE K H a (bs.map V.bl)/\Q (.bl (bs.any id)) H) Lp:=by
 intro N H vs i d Q j h e q
 unfold Lp at e
 split at e
 ·next xs=>
  cases b:Gx xs with
  |none=>rw[b]at e;cases e
  |some bs=>
   rw[b]at e;cases e
   obtain⟨v,rfl,f⟩:=Paired.one' h
   obtain⟨a,k,g,q1,c⟩:=f
   subst g
   rw[Qv b]at c
   rw[Qw c]at q1
   exact⟨a,bs,rfl,q1,q _ H (Am.refl H) E5⟩
 ·cases e
@[simp] def Qx:List D->Option D
  |[.int i,.int j]=>some (.int (if j>i then j else i))
  |_=>none
@[simp] def Qy:List D->Option D
  |[.int i,.int j]=>some (.int (if j<i then j else i))
  |_=>none
theorem iS:D4 K (λxs H Q=>∃i j,xs=[.int i,.int j]/\Q (.int (if j>i then j else i)) H) Qx:=by
 intro N H vs c d Q f h e q
 unfold Qx at e
 split at e
 ·cases e
  obtain⟨v,w,rfl,a,b⟩:=Paired.two' h
  exact⟨_,_,by rw[a.int,b.int],q _ H (Am.refl H) Fp⟩
 ·cases e
theorem iT:D4 K (λxs H Q=>∃i j,xs=[.int i,.int j]/\Q (.int (if j<i then j else i)) H) Qy:=by
 intro N H vs c d Q f h e q
 unfold Qy at e
 split at e
 ·cases e
  obtain⟨v,w,rfl,a,b⟩:=Paired.two' h
  exact⟨_,_,by rw[a.int,b.int],q _ H (Am.refl H) Fp⟩
 ·cases e
@[simp] def qB:List D->Option D
  |[.int i]=>some (.int (if i<0 then -i else i))
  |_=>none
@[simp] def JV:List D->Option D
  |[.int i]=>if i.natAbs.log2<1920 then some (.str (Fi i))else none
  |_=>none
theorem iU:D4 K (λxs H Q=>∃i,xs=[.int i]/\i.natAbs.log2<1920/\Q (.str (Fi i)) H) JV:=by
 intro N H vs c d Q f h e q
 unfold JV at e
 split at e
 ·split at e
  ·next a=>
   cases e
   obtain⟨v,rfl,b⟩:=Paired.one' h
   exact⟨_,by rw[b.int],a,q _ H (Am.refl H) Lh⟩
  ·cases e
 ·cases e
@[simp] def JX:List D->Option D
  |[.int i]=>some (.int i)
  |[.bl k]=>some (.int (if k then 1 else 0))
  |_=>none
theorem VD:D4 K (λxs H Q=>(∃i,xs=[.int i]/\Q (.int i) H)\/∃k,xs=[.bl k]/\Q (.int (if k then 1 else 0)) H) JX:=by
 intro N H vs b d Q c h e q
 unfold JX at e
 split at e
 ·cases e
  obtain⟨v,rfl,a⟩:=Paired.one' h
  exact .inl ⟨_,by rw[a.int],q _ H (Am.refl H) Fp⟩
 ·cases e
  obtain⟨v,rfl,a⟩:=Paired.one' h
  exact .inr ⟨_,by rw[a.bl],q _ H (Am.refl H) Fp⟩
 ·cases e
def EB:List D->Option (List Int)
 |[]=>some []
 |.int b::r=>(EB r).map (b::·)
 |_=>none
theorem M4:∀{xs:List D}{bs:List Int},EB xs=some bs->xs=bs.map D.int
 |[],_,e=>by cases e;rfl
 |.int b::r,_,e=>by
  simp only[EB]at e
  cases h:EB r with
  |none=>rw[h]at e;cases e
  |some bs=>rw[h]at e;cases e;rw[M4 h];rfl
 |.non::_,_,e=>nomatch e
 |.bl _::_,_,e=>nomatch e
 |.str _::_,_,e=>nomatch e
 |.ty _::_,_,e=>nomatch e
 |.tup _::_,_,e=>nomatch e
 |.lst _ _::_,_,e=>nomatch e
theorem VF:∀(a:List Int),EB (a.map D.int)=some a
 |[]=>rfl
 |n::a=>by simp only[AY,EB,VF a];rfl
theorem M5:∀{bs:List Int}{vs:List V},Ad K N H (bs.map D.int) vs->vs=bs.map V.int
 |[],_,h=>by simpa only[Dd,Ad]using h
 |b::bs,_,h=>by
  simp only[AY,Ad,AI]at h
  obtain⟨v,r,e,a,t⟩:=h
  subst e a
  rw[M5 t];rfl
end
section
variable{X:Cx}
theorem iV(j:X.calm=true):Bd X (.builtin "sum") (λxs H Q=>∃(a:Ac)(b:List Int),xs=[.ref a]/\BE X.K H a (b.map V.int)/\Q (.int b.sum) H):=by
 intro f s x H xs y Q I r h
 obtain⟨a,b,rfl,k,q⟩:=h
 obtain⟨u,rfl,l⟩:=D3 r
 cases l
 obtain⟨c,m,p,z⟩:=I.list k
 have g:IntsAre c b:=PN m
 obtain⟨d,i⟩:=g.allInts.items
 have e:s.heap.IsList a (intItems d):=i ▸ p.isList
 refine sum_intListG (I.ok.hd j) e λA n o t=>?_
 have v:b=d.toList.map (·.1):=by
  rw[<- nums_intItems,<- i]
  exact(show numsOf c.toArray.toList=b from g.numsOf).symm
 have w:preSum (numAt d) d.size=b.sum:=by
  rw[preSum_eq,JY (by simp),v]
 rw[w]
 exact⟨.int b.sum,H,I.kept (t':=n) t,⟨_,rfl⟩,q⟩
end
def M6:List Int->Option Int
 |[]=>none
 |x::a=>some (a.foldl (λm y=>if y<m then y else m) x)
def VG:List Int->Option Int
 |[]=>none
 |x::a=>some (a.foldl (λm y=>if y>m then y else m) x)
theorem VH:∀(xs:List Int)(x:Int),(xs.foldl (λm y=>if y<m then y else m) x)∈x::xs/\∀a∈x::xs,(xs.foldl (λm y=>if y<m then y else m) x)<=a
 |[],x=>by simp
 |y::e,x=>by
  simp only[JZ]
  obtain⟨f,d⟩:=VH e (if y<x then y else x)
  have b:=d _ BA
  have g:(if y<x then y else x)<=x:=by split<;>omega
  have i:(if y<x then y else x)<=y:=by split<;>omega
  refine⟨?_,λa c=>?_⟩
  ·rcases Bv.mp f with h|h
   ·rw[h];split<;>simp
   ·exact Bt _ (Bt _ h)
  ·rcases Bv.mp c with rfl|c
   ·exact Int.le_trans b g
   ·rcases Bv.mp c with rfl|c
    ·exact Int.le_trans b i
    ·exact d a (Bt _ c)
theorem iW{b:List Int}{m k:Int}(h:M6 b=some k)(c:m∈b)(d:∀a,a∈b->m<=a):m=k:=by
 cases b with
 |nil=>cases h
 |cons x e=>
  cases h
  obtain⟨q1,q2⟩:=VH e x
  have:=d _ q1
  have:=q2 _ c
  omega
section
variable{K:As}
@[simp] def Qz:List D->Option D
  |[.lst a]=>(EB a).map λb=>.int b.sum
  |_=>none
@[simp] def qC:List D->Option D
  |[.lst a]=>((EB a).bind M6).map D.int
  |_=>none
@[simp] def qD:List D->Option D
  |[.lst a]=>((EB a).bind VG).map D.int
  |_=>none
theorem iX:D4 K (λxs H Q=>∃(a:Ac)(c:List Int),xs=[.ref a]/\BE K H a (c.map V.int)/\Q (.int c.sum) H) Qz:=by
 intro N H vs j d Q k h e q
 unfold Qz at e
 split at e
 ·next xs=>
  cases b:EB xs with
  |none=>rw[b]at e;cases e
  |some bs=>
   rw[b]at e;cases e
   obtain⟨v,rfl,g⟩:=Paired.one' h
   obtain⟨a,l,i,q1,f⟩:=g
   subst i
   rw[M4 b]at f
   rw[M5 f]at q1
   exact⟨a,bs,rfl,q1,q _ H (Am.refl H) Fp⟩
 ·cases e
@[simp] def IG:D->Option String
  |.non=>some "NoneType"
  |.bl _=>some "bool"
  |.int _=>some "int"
  |.str _=>some "str"
  |.tup _=>some "tuple"
  |.lst _=>some "list"
  |.lst _ true=>none
  |.ty _=>none
def J0(t n:String):Bool:=t==n||(t=="bool"&&n=="int")
end
def F4:List String:=["NoneType","bool","int","str","tuple","list"]
theorem VI(K:As):∀t∈F4,∀n∈F4,J1 K (.type t) (.type n)=some (J0 t n):=by
 intro t a n b
 simp only[F4,Bv,G8,or_false]at a b
 rcases a with rfl|rfl|rfl|rfl|rfl|rfl<;>rcases b with rfl|rfl|rfl|rfl|rfl|rfl<;>with_unfolding_all rfl
theorem VJ(K:As){t:String}(b:t∈F4):∀(a:List String),(∀n∈a,n∈F4)->PySem.W.kitAny K (.type t) (a.map Value.type)=some (a.any λn=>J0 t n)
 |[],_=>rfl
 |n::a,h=>by
  have c:=VI K t b n (h n BA)
  have d:=VJ K b a λm e=>h m (Bt _ e)
  simp only[AY,PySem.W.kitAny,c,d,List.any_cons]
  cases J0 t n<;>rfl
theorem VL{d:D}{t:String}(h:IG d=some t):t∈F4:=by
 cases d with
 |lst b a=>cases a<;>simp[IG]at h;subst h;simp[F4]
 |_=>simp[IG]at h<;>subst h<;>simp[F4]
section
variable{X:Cx}{K:As}
theorem iY{h:List (Ac×AM)}{σ:St}{H:Hp}{s:Ab}(I:Inv X h σ H s){N:Fb}{d:D}{x:V}{u:Aa}{t:String}(g:AK X.K N H d x)(c:RelV x u)(f:IG d=some t):
  ∃l:Al->Prop,PySem.W.KitX X.K u (.type t) l/\l s.heap/\u≠.builtin "__main__.__loader__#opaque":=by
 cases d with
 |non=>cases f;rw[g.non]at c;cases c;exact⟨_,PySem.W.kitx_none,trivial,λz=>nomatch z⟩
 |bl b=>cases f;rw[g.bl]at c;cases c;exact⟨_,PySem.W.kitx_bool,trivial,λz=>nomatch z⟩
 |int b=>cases f;rw[g.int]at c;obtain⟨t,rfl⟩:=c;exact⟨_,PySem.W.kitx_int,trivial,λz=>nomatch z⟩
 |str b=>cases f;rw[g.str]at c;obtain⟨t,rfl⟩:=c;exact⟨_,PySem.W.kitx_str,trivial,λz=>nomatch z⟩
 |ty n=>cases f
 |tup m=>
  cases f
  obtain⟨a,vs,e,q,r⟩:=g.tup
  subst e;cases c
  obtain⟨i,_,⟨o,j,k,_⟩,_⟩:=I.tuple q
  exact⟨_,PySem.W.kitx_tuple,⟨o,j,k⟩,λz=>nomatch z⟩
 |lst m p=>
  cases p with
  |true=>cases f
  |false=>
  cases f
  obtain⟨a,vs,e,q,r⟩:=g
  subst e;cases c
  obtain⟨i,_,⟨o,n,j,k,_⟩,_⟩:=I.list q
  exact⟨_,PySem.W.kitx_list,⟨o,j,k⟩,λz=>nomatch z⟩
@[simp] def CP:D->Option (List String)
  |.ty n=>some [n]
  |.tup a=>tysL a
  |_=>none
where tysL:List D->Option (List String)
 |[]=>some []
 |.ty n::r=>(tysL r).map (n::·)
 |_=>none
theorem VM:∀{xs:List D}{a:List String},CP.tysL xs=some a->xs=a.map D.ty
 |[],_,e=>by cases e;rfl
 |.ty b::r,_,e=>by
  simp only[CP.tysL]at e
  cases h:CP.tysL r with
  |none=>rw[h]at e;cases e
  |some bs=>rw[h]at e;cases e;rw[VM h];rfl
 |.non::_,_,e=>nomatch e
 |.bl _::_,_,e=>nomatch e
 |.int _::_,_,e=>nomatch e
 |.str _::_,_,e=>nomatch e
 |.tup _::_,_,e=>nomatch e
 |.lst _ _::_,_,e=>nomatch e
@[simp] def EC:List D->Option D
  |[x,c]=>(CP c).bind λa=>if(∀n∈a,n∈F4)then(IG x).map λt=>.bl (a.any λn=>J0 t n)else none
  |_=>none
def VN(K:As):List V->Hp->VK->Prop:=λvs H Q=>∃N d c x y a t,vs=[x,y]/\AK K N H d x/\AK K N H c y/\CP c=some a/\(∀n∈a,n∈F4)/\IG d=some t/\Q (.bl (a.any λn=>J0 t n)) H
theorem VO{N:Fb}{H:Hp}:∀{a:List String}{vs:List V},Ad K N H (a.map D.ty) vs->vs=a.map V.ty
 |[],_,h=>by simpa only[Dd,Ad]using h
 |b::bs,_,h=>by
  simp only[AY,Ad,AI]at h
  obtain⟨v,r,e,c,t⟩:=h
  subst e c
  rw[VO t];rfl
theorem VP:∀{a:List String}{us:List Aa},Ap (a.map V.ty) us->us=a.map Value.type
 |[],_,r=>by cases r;rfl
 |n::a,_,r=>by
  cases r with
  |cons b c=>cases b;rw[VP c];rfl
theorem Gy:Bd X (.builtin "isinstance") (VN X.K):=by
 intro l s O H w T Q I r h
 obtain⟨N,d,c,x,y,z,t,rfl,A,m,b,f,i,q⟩:=h
 obtain⟨u,U,rfl,B,j⟩:=KU r
 obtain⟨Y,Z,p,g⟩:=iY I A B i
 cases c with
 |ty n=>
  cases b
  rw[m.ty]at j;cases j
  refine PySem.W.kia_one Z I.kIn p (VI X.K t (VL i) n (f n (by simp))) g λk=>⟨.bl _,H,I.tok k,rfl,?_⟩
  simpa using q
 |tup w=>
  have e:=VM b
  subst e
  obtain⟨a,vs,e,C,dl⟩:=m.tup
  subst e;cases j
  obtain⟨E,G,⟨⟨cls,dd,data,sl⟩,J,o,n,v⟩,_⟩:=I.tuple C
  simp only at o v
  subst o v
  have L:=VO dl
  subst L
  have M:=VP G
  subst M
  exact PySem.W.kia_tup Z I.kIn p J (VJ X.K (VL i) z f) g λk=>⟨.bl _,H,I.tok k,rfl,q⟩
 |non=>cases b
 |bl _=>cases b
 |int _=>cases b
 |str _=>cases b
 |lst _=>cases b
theorem Gz:D4 K (VN K) EC:=by
 intro N H vs k d Q l h e q
 unfold EC at e
 split at e
 ·next x c=>
  cases a:CP c with
  |none=>rw[a]at e;cases e
  |some g=>
   rw[a]at e
   simp only[AA]at e
   split at e
   ·next b=>
    cases f:IG x with
    |none=>rw[f]at e;cases e
    |some t=>
     rw[f]at e;cases e
     obtain⟨v,w,rfl,i,j⟩:=Paired.two' h
     exact⟨N,x,c,v,w,g,t,rfl,i,j,a,b,f,q _ H (Am.refl H) E5⟩
   ·cases e
 ·cases e
theorem GA{M:Fb}{a:Hp}{x:Ae}{n:String}{pos:Bc}(b:Gl X x)(c:X.mg x=none)(d:Ep x=some (.type n))(e:x≠"__name__":=by decide)(hd:(x==("__debug__":Ae))=false:=by decide):JE X (.Name x pos) (tD K M a λ_=>some (.ty n)):=⟨K6 (Ui b c d (v:=.ty n) rfl e hd) λ_ _=>by simp only[AI]⟩
end
section
variable{X:Cx}{K:As}{M:Fb}{H0:Hp}{a b c e tg iter:Expr}{es:List Expr}{f g h:VE->Option D}{fa:VE->Option (List Sl)}{pos:Bc}
theorem vv(i:Nat){x:Ae}(b:X.N[i]?=some x:=by rfl)(c:Dq X.env.scope x:=by first|exact Or.inl rfl|exact Or.inr (Or.inl rfl)|exact Or.inr (Or.inr rfl))(hd:(x==("__debug__":Ae))=false:=by decide)(a:(x==("__classdict__":Ae))=false:=by decide):
  PE X (.Name x pos) (tD K M H0 λρ=>A8 ρ i):=gS b c hd a
theorem CC(i:Nat){x:Ae}(b:X.N[i]?=some x:=by rfl)(c:Dq X.env.scope x:=by first|exact Or.inl rfl|exact Or.inr (Or.inl rfl)|exact Or.inr (Or.inr rfl))(hd:(x==("__debug__":Ae))=false:=by decide)(a:(x==("__classdict__":Ae))=false:=by decide):JE X (.Name x pos) (tD K M H0 λρ=>A8 ρ i):=⟨vv i b c hd a⟩
theorem Zl(i:Nat){x:Ae}(b:X.N[i]?=some x:=by rfl)(c:Dq X.env.scope x:=by first|exact Or.inl rfl|exact Or.inr (Or.inl rfl)|exact Or.inr (Or.inr rfl))(hd:(x==("__debug__":Ae))=false:=by decide)(a:(x==("__classdict__":Ae))=false:=by decide):JE X (.Name x pos) (tP K M H0 λρ=>Ai ρ i):=⟨gT b c hd a⟩
theorem BZ(i:Nat){x:Ae}(b:X.N[i]?=some x:=by rfl)(c:Dq X.env.scope x:=by first|exact Or.inl rfl|exact Or.inr (Or.inl rfl)|exact Or.inr (Or.inr rfl))(hd:(x==("__debug__":Ae))=false:=by decide)(a:(x==("__classdict__":Ae))=false:=by decide):JE X (.Name x pos) (tQ K M H0 λρ=>A6 ρ i):=⟨il b c hd a⟩
theorem va(i:Nat){x:Ae}(b:X.N[i]?=some x:=by rfl)(c:Dq X.env.scope x:=by first|exact Or.inl rfl|exact Or.inr (Or.inl rfl)|exact Or.inr (Or.inr rfl))(hd:(x==("__debug__":Ae))=false:=by decide)(a:(x==("__classdict__":Ae))=false:=by decide):
  PE X (.Name x pos) (La K M H0 λρ=>Ao ρ i):=gZ b c hd a
theorem Zq(i:Nat){x:Ae}(b:X.N[i]?=some x:=by rfl)(c:Dq X.env.scope x:=by first|exact Or.inl rfl|exact Or.inr (Or.inl rfl)|exact Or.inr (Or.inr rfl))(hd:(x==("__debug__":Ae))=false:=by decide)(a:(x==("__classdict__":Ae))=false:=by decide):JE X (.Name x pos) (La K M H0 λρ=>Ao ρ i):=⟨va i b c hd a⟩
theorem J2(i:Nat){x:Ae}{a:Bc}(c:X.N[i]?=some x:=by rfl)(d:Dq X.env.scope x:=by first|exact Or.inl rfl|exact Or.inr (Or.inl rfl)|exact Or.inr (Or.inr rfl))(hd:(x==("__debug__":Ae))=false:=by decide)(b:(x==("__classdict__":Ae))=false:=by decide):JS X (.Return (some (.Name x a)) pos) (tS K M H0 λρ=>Cf (BX ρ i)):=⟨hW c d hd b⟩
theorem M7(e:X.A.units+64<AF)(c:JE X a (tP X.K M H0 f))(d:JE X b (tP X.K M H0 g)):JE X (.Compare a [.Eq] [b] pos) (tD X.K M H0 (Zd C9 f g)):=⟨have c:=c.h;have d:=d.h;Qb (Vv e) Vw c d (Jk _ (by decide) (by decide))⟩
theorem M8(e:X.A.units+64<AF)(c:JE X a (tP X.K M H0 f))(d:JE X b (tP X.K M H0 g))(i:FV .In b=false:=by with_unfolding_all rfl):JE X (.Compare a [.In] [b] pos) (tD X.K M H0 (Zd (C2 false) f g)):=⟨have c:=c.h;have d:=d.h;Qb ((Vy e).or Uw) Vz c d i⟩
theorem G9(e:X.A.units+64<AF)(c:JE X a (tP X.K M H0 f))(d:JE X b (tP X.K M H0 g)):JT X (.Compare a [.Eq] [b] pos) (BJ X.K M H0 λρ=>AS (Zd C9 f g ρ)):=⟨have c:=c.h;have d:=d.h;IA (Vv e) Vw c d (Jk _ (by decide) (by decide))⟩
theorem J3(e:X.A.units+64<AF)(c:JE X a (tP X.K M H0 f))(d:JE X b (tP X.K M H0 g)):JT X (.Compare a [.NotEq] [b] pos) (BJ X.K M H0 λρ=>AS (Zd Ew f g ρ)):=⟨have c:=c.h;have d:=d.h;IA (iL e) iM c d (Jk _ (by decide) (by decide))⟩
theorem VQ(e:X.A.units+64<AF)(c:JE X a (tP X.K M H0 f))(d:JE X b (tP X.K M H0 g)):JT X (.Compare a [.Lt] [b] pos) (BJ X.K M H0 λρ=>AS (Zd Lm f g ρ)):=⟨have c:=c.h;have d:=d.h;IA (iP e) iQ c d (Jk _ (by decide) (by decide))⟩
theorem VR(e:X.A.units+64<AF)(c:JE X a (tP X.K M H0 f))(d:JE X b (tP X.K M H0 g)):JT X (.Compare a [.Gt] [b] pos) (BJ X.K M H0 λρ=>AS (Zd JP f g ρ)):=⟨have c:=c.h;have d:=d.h;IA fq (iB _) c d (Jk _ (by decide) (by decide))⟩
theorem Lq(e:X.A.units+64<AF)(c:JE X a (tP X.K M H0 f))(d:JE X b (tP X.K M H0 g))(i:FV .In b=false:=by with_unfolding_all rfl):JT X (.Compare a [.In] [b] pos) (BJ X.K M H0 λρ=>AS (Zd (C2 false) f g ρ)):=⟨have c:=c.h;have d:=d.h;IA ((Vy e).or Uw) Vz c d i⟩
theorem iZ(e:X.A.units+64<AF)(c:JE X a (tP X.K M H0 f))(d:JE X b (tP X.K M H0 g))(i:FV .NotIn b=false:=by with_unfolding_all rfl):JT X (.Compare a [.NotIn] [b] pos) (BJ X.K M H0 λρ=>AS (Zd (C2 true) f g ρ)):=⟨have c:=c.h;have d:=d.h;IA ((iN e).or ft) iO c d i⟩
@[simp] def qE(F b:D->D->Option D)(f g h:VE->Option D):VE->Option D:=λa=>(f a).bind λx=>(g a).bind λy=>match F x y with
  |some (.bl true)=>(h a).bind λz=>b y z
  |some (.bl false)=>some (.bl false)
  |_=>none
@[simp] def B5:Option D->Option Bool
  |some .non=>some false
  |some (.bl b)=>some b
  |some (.int i)=>some (i != 0)
  |some (.str y)=>if y.length<=AG then some ((y.length:Int) != 0)else none
  |some (.lst a)=>some (!a.isEmpty)
  |some (.tup a)=>some (!a.isEmpty)
  |_=>none
theorem Ad.isEmpty{N:Fb}{H:Hp}{xs:List D}{vs:List V}(h:Ad K N H xs vs):vs.isEmpty=xs.isEmpty:=by
 cases xs with
 |nil=>simp only[Ad]at h;subst h;rfl
 |cons x xs=>simp only[Ad]at h;obtain⟨_,_,e,_⟩:=h;subst e;rfl
theorem D8(i:JE X a (tP X.K M H0 f))(m:∀b,isTrue a X.env b=(do let v <- b;standAt a.pos;holding [v] (truthy v)):=by intro _;rfl):JT X a (BJ X.K M H0 λρ=>B5 (f ρ)):=⟨have i:=i.h;(fG i m).mono λo H Q ⟨ρ,k,R,e,q⟩=>by
  try dsimp only at e q
  unfold B5 at e
  split at e
  ·next c=>cases e;exact⟨ρ,_,R,c,λv d s g=>⟨_,by rw[g.non];rfl,q d s⟩⟩
  ·next c=>cases e;exact⟨ρ,_,R,c,λv d s g=>⟨_,by rw[g.bl];rfl,q d s⟩⟩
  ·next c=>cases e;exact⟨ρ,_,R,c,λv d s g=>⟨_,by rw[g.int];rfl,q d s⟩⟩
  ·next c=>
   split at e
   ·next n=>cases e;exact⟨ρ,_,R,c,λv d s g=>⟨_,by rw[g.str];exact⟨n,rfl⟩,q d s⟩⟩
   ·cases e
  ·next c=>
   cases e
   refine⟨ρ,_,R,c,λv d s g=>⟨_,?_,q d s⟩⟩
   obtain⟨p,vs,j,q1,l⟩:=g
   subst j
   exact .inl ⟨vs,q1,by rw[l.isEmpty]⟩
  ·next c=>
   cases e
   refine⟨ρ,_,R,c,λv d s g=>⟨_,?_,q d s⟩⟩
   obtain⟨p,vs,j,q1,l⟩:=g.tup
   subst j
   exact .inr (.inl ⟨vs,q1,by rw[l.isEmpty]⟩)
  ·cases e⟩
@[simp] def Zy:D->Option (List D)
  |.lst a=>some a
  |.tup a=>some a
  |.str x=>some (x.cps.toList.map λc=>D.str ⟨#[c]⟩)
  |_=>none
theorem ZX{l:Expr}(b:JE X l (tQ X.K M H0 f)):JI X tg l (tI X.K M H0 λρ=>(f ρ).bind Zy):=⟨have b:=b.h;λa s g H i I ⟨ρ,j,R,e,q⟩=>by
 try dsimp only at e
 cases c:f ρ with
 |none=>rw[c]at e;cases e
 |some d=>
  rw[c]at e
  cases d with
  |lst k m=>
   cases m with
   |true=>cases e
   |false=>exact ip b a s g H i I ⟨ρ,j,R,by dsimp only;rw[c];exact e,q⟩
  |tup k=>exact iq b a s g H i I ⟨ρ,j,R,by dsimp only;rw[c];exact e,q⟩
  |str x=>exact ir b a s g H i I ⟨ρ,j,R,by dsimp only;rw[c];exact e,q⟩
  |_=>cases e⟩
@[simp] def qF(i:Nat)(o:Option (List D))(ρ:VE):An:=match BX ρ i,o with
  |some a,some b=>if a.length+b.length<=AG then .next (ρ.set i (.own (a++b)))else .fail
  |_,_=>.fail
@[simp] def qG(i:Nat)(ρ:VE):An:=match BX ρ i with
  |some a=>.next (ρ.set i (.own a.reverse))
  |_=>.fail
@[simp] def qH(i j:Nat)(ρ:VE):An:=match BX ρ j with
  |some a=>.next ((ρ.set j .no).set i (.own a))
  |_=>.fail
@[simp] def qI(i j:Nat)(ρ:VE):An:=match ER ρ j with
  |some a=>.next ((ρ.set j .no).set i (.own a true))
  |_=>.fail
end
end L2
namespace L2
theorem HI{X:Cx}{e:PySem.Expr}{t:TT}(h:JW X e t):JT X e t:=⟨h.h.pt⟩
end L2
namespace L2
open PySem PySem.Spec PyProof.Rows
def E6(c:List Int):List Int:=c.mergeSort λa b=>decide (a<=b)
theorem M9(a:List Int):(E6 a).Perm a:=List.mergeSort_perm _ _
theorem VS(d:List Int):(E6 d).Pairwise (·<=·):=by
 have h:=List.pairwise_mergeSort (le:=λa b:Int=>decide (a<=b)) (by intro a b c f g;simp at *;omega) (by intro a b;simp;omega) d
 exact h.imp λh=>by simpa using h
theorem i3{c d:List Int}(e:d.Perm c)(h:d.Pairwise (·<=·)):d=E6 c:=
 VT (le:=(·<=·)) (λa b _ _ f g=>Int.le_antisymm f g) h (VS c) (e.trans (M9 c).symm)
theorem QA(a:List Int):(E6 a).length=a.length:=(M9 a).length_eq
section
variable{X:Cx}{K:As}
theorem i4:Bd X (.builtin "sorted") (λxs H Q=>∃(a:Ac)(c:List Int),xs=[.ref a]/\BE X.K H a (c.map V.int)/\c.length<64/\∀p,H p=none->Q (.ref p) (A3 H p (.lst ((E6 c).map V.int)))):=by
 intro f s w H xs x Q I r h
 obtain⟨a,c,rfl,j,k,q⟩:=h
 obtain⟨u,rfl,l⟩:=D3 r
 cases l
 obtain⟨d,g,p,i⟩:=I.list j
 have m:=g.length
 rw[BY]at m i
 refine sorted_ints p.isList (PN g) (by omega) λout n a1 a2 a3=>?_
 obtain⟨e,t⟩:=sortedAll_at s.heap d out
 have v:=i3 a2 a3
 subst v
 refine⟨.ref _,_,I.laid (t':=s.toks) (o:=.lst ((E6 c).map V.int)) (λb o q=>sortedAll_old q) (Nat.le_succ _) ?_,rfl,q _ (I.hok.fresh (Nat.le_succ _))⟩
 exact⟨by rw[BY,QA];exact i,out.toList,e,PU a1,t⟩
def Lr:List D->Option (List D)
 |[.lst b]=>(EB b).bind λa=>if a.length<64 then some ((E6 a).map D.int)else none
 |_=>none
theorem i5:JH K (λxs H Q=>∃(a:Ac)(b:List Int),xs=[.ref a]/\BE K H a (b.map V.int)/\b.length<64/\∀p,H p=none->Q (.ref p) (A3 H p (.lst ((E6 b).map V.int)))) Lr:=by
 intro N H vs l xs Q m h e q
 unfold Lr at e
 split at e
 ·next g=>
  cases c:EB g with
  |none=>rw[c]at e;cases e
  |some b=>
   rw[c]at e
   simp only[AA]at e
   split at e
   ·next d=>
    cases e
    obtain⟨v,rfl,i⟩:=Paired.one' h
    obtain⟨a,n,j,q1,f⟩:=i
    subst j
    rw[M4 c]at f
    rw[M5 f]at q1
    exact⟨a,b,rfl,q1,d,λp k=>q _ p k (Ad.ints _)⟩
   ·cases e
 ·cases e
def qJ(i:Nat)(b c:Option D)(ρ:VE):An:=match BX ρ i,b,c with
 |some a,some (.int k),some d=>match DR a.length k with
  |some j=>.next (ρ.set i (.own (a.set j d)))
  |none=>.fail
 |_,_,_=>.fail
def VU(K:As)(r:V->List V->Hp->VK->Prop)(F:Ae->List D->Option D):Prop:=∀(N:Fb)(H:Hp)(z:Ae)(vs:List V)(c:List D)(d:D)(Q:VK),(∀a,N a->H a≠none)->Paired (AK K N H) c vs->F z c=some d ->
 (∀v b,Am H b->AI K N b d v->Q v b)->r (.str z) vs H Q
@[simp] def QB(F:Ae->List D->Option D)(f:VE->Option D)(b:VE->Option (List Sl)):VE->Option D:=λa=>match f a with
  |some (.str z)=>((b a).bind Bw).bind (F z)
  |_=>none
@[simp] def qK(F:Ae->List D->Option D)(f:VE->Option D):VE->Option D:=λa=>match f a with
  |some (.str z)=>F z []
  |_=>none
section
variable{M:Fb}{H0:Hp}{o e:Expr}{es:List Expr}{f:VE->Option D}{fa:VE->Option (List Sl)}{name:Ae}{apos cpos:Bc}{id:String}{r:V->List V->Hp->VK->Prop}{F:Ae->List D->Option D}
theorem i8(u:PlainAttrs "str")(slot:Slot "str" name id)(i:typeOf (.builtin id)=AQ (.type "method_descriptor"))(y:Gq X id r)(A:VU X.K r F)(j:JE X o (tP X.K M H0 f))(k:JA X (e::es) (Dw X.K M H0 fa))(b:Jt o name X.env (AC o X.env)=AC o X.env:=by rfl) (g:((AZ cpos (AX (e::es) X.env)).all (λx=>!x.1)&&(backToKw cpos (BN [] X.env)).all (λx=>x.1.isSome)
   && decide ((e::es).length+([]:List Keyword).length+(if([]:List Keyword).isEmpty then 0 else 1)<30))=true:=by rfl) (c:(apos.endLine==cpos.line)=true:=by rfl) (B:AX (e::es) X.env=(false,AC e X.env)::AX es X.env:=by exact DA (λ_ _ z=>nomatch z)) (a:(AZ cpos (AX es X.env)).any (·.1)=false:=by rfl):JE X (.Call (.Attribute o name apos) (e::es) [] cpos) (tD X.K M H0 (QB F f fa)):=⟨have j:=j.h;have k:=k.h;(MG u slot i y j k b g c B a).mono λT H Q ⟨l,d,R,ex,q⟩=>by
 unfold QB at ex
 split at ex
 ·next z C=>
  cases m:fa l with
  |none=>rw[m]at ex;cases ex
  |some s=>
   rw[m]at ex
   cases n:Bw s with
   |none=>simp only[AA,n]at ex;cases ex
   |some E=>
    simp only[AA,n]at ex
    refine⟨l,.str z,R,C,λv U p G=>?_⟩
    rw[G.str]
    refine⟨rfl,l,s,R.st p,m,λvs I t J=>?_⟩
    exact A _ I z vs E d Q ((R.st p).st t).nh (MS J n) ex λw L N O=>q w L ((p.trans t).trans N) O
 ·cases ex⟩
end
def Na:List D->Option (List Ae)
 |[]=>some []
 |.str b::r=>(Na r).map (b::·)
 |_=>none
@[simp] theorem i9:∀(a:List Ae),Na (a.map D.str)=some a
  |[]=>rfl
  |n::a=>by simp only[AY,Na,i9 a];rfl
@[simp] def qL(z:Ae):List D->Option D
  |[.lst b]=>(Na b).bind λa=>if(a.map (·.length)).sum+a.length*z.length<=16777216 then some (.str (Txt.join z a))else none
  |_=>none
@[simp] def qM(z:Ae):List D->Option D
  |[.str y]=>some (.int (Txt.find z y))
  |_=>none
@[simp] def qN(z:Ae):List D->Option D
  |[]=>if Builtin.Str.tooLong (Txt.upper z).length=false then some (.str (Txt.upper z))else none
  |_=>none
end
structure DV(P:A4)(w:Aj)(i:Ac)(fp:List Ac)(n:Nat)(is:Nat->Aa->Prop)(st:Nat->Al->Prop):Prop where
 frame:∀k h h',st k h->(∀b,b=i\/b∈fp->∀o,h.get? b=some o->h'.get? b=some o)->st k h'
 lt:∀k h,st k h->i<h.objs.size
 item:∀(A:Ak) (E:Aa->Ab->Prop) (s:Ab) (k:Nat) (Q:Aa->Ab->Prop),k<n->st k s.heap->(∀v h',is k v->st (k+1) h'->Dr i s.heap h'->Q v {s with heap:=h' })->wpAny (Af P w) A (DW (.ref i)) Q E s
 fin:∀(A:Ak) (E:Aa->Ab->Prop) (s:Ab) (k:Nat) (Q:Aa->Ab->Prop),A.handled=none->n<=k->st k s.heap->(∀h' e,Heap.ExtBut i s.heap h'->(∃o,h'.get? e=some o/\o.cls=.type "StopIteration")->E (.ref e) {s with heap:=h' }) ->
  wpAny (Af P w) A (DW (.ref i)) Q E s
section
variable{prog:A4}{w:Aj}{A:Ak}{E:Aa->Ab->Prop}{s:Ab}
theorem ja{i a:Ac}{k:Nat}{b:Array Aa}{v:Aa}{Q:Aa->Ab->Prop}(e:s.heap.IsTupleIter i a k)(g:s.heap.IsTuple a b)(h:b[k]?=some v)
  (q:∀h',h'.IsTupleIter i a (k+1)->Dr i s.heap h'->Q v {s with heap:=h' }):wpAny (Af prog w) A (DW (.ref i)) Q E s:=by
 obtain⟨n,d,j,c⟩:=id e
 obtain⟨o,l,_,m1,m⟩:=g
 unfold DW
 refine Ag (FY (name:=Dt "__next__") e.typeIs QC (Fk QC e.typeIs jb ?_ (jc _)))
 show wpAny _ _ (field (.ref i) 0 >>= _) _ _ s
 refine Ag (Ch d c (x:=.ref a) rfl ?_)
 show wpAny _ _ (if(Cn a==Ed)=true then _ else _) _ _ s
 rw[if_neg (show ¬ ((Cn a==Ed)=true)from Hs)]
 show wpAny _ _ (field (.ref i) 1 >>= _) _ _ s
 refine Ag (Ch d c (x:=.int k 0) rfl ?_)
 show wpAny _ _ (seqItems? (.ref a) >>= _) _ _ s
 refine Ag (EV l m ?_)
 simp only[h,HJ]
 refine Ag (Lu d c (by simp) (AE ⟨v,rfl,AE (q _ ?_ (IH ..))⟩))
 exact⟨_,Lv _ d (QD (J4 c _)),(Obj.cls_mapFields ..).trans j,by rw[J4 c];simp[AH]⟩
theorem jd{i b:Ac}{k:Nat}{c:Array Aa}{Q:Aa->Ab->Prop}(h:A.handled=none)(d:s.heap.IsTupleIter i b k)(l:s.heap.IsTuple b c)(n:c[k]?=none)
  (q:∀h' e,Heap.ExtBut i s.heap h'->(∃o,h'.get? e=some o/\o.cls=.type "StopIteration")->E (.ref e) {s with heap:=h' }):wpAny (Af prog w) A (DW (.ref i)) Q E s:=by
 obtain⟨t,f,u,g⟩:=id d
 obtain⟨v,p,_,m1,r⟩:=l
 unfold DW
 refine Ag (FY (name:=Dt "__next__") d.typeIs QC (Fk QC d.typeIs jb ?_ (jc _)))
 show wpAny _ _ (field (.ref i) 0 >>= _) _ _ s
 refine Ag (Ch f g (x:=.ref b) rfl ?_)
 show wpAny _ _ (if(Cn b==Ed)=true then _ else _) _ _ s
 rw[if_neg (show ¬ ((Cn b==Ed)=true)from Hs)]
 show wpAny _ _ (field (.ref i) 1 >>= _) _ _ s
 refine Ag (Ch f g (x:=.int k 0) rfl ?_)
 show wpAny _ _ (seqItems? (.ref b) >>= _) _ _ s
 refine Ag (EV p r ?_)
 simp only[n,HJ]
 refine Ag (FK (Ag (Lu f g (by simp) ?_)))
 show wpAny _ _ (newExc (.type "StopIteration") ([]:List Aa) >>= _) _ _ _
 refine Ag ?_
 simp only[newTuple,newExc]
 refine Ag (FZ ?_ (show(0:Nat)<=AG by decide))
 refine Ag (m:=firstArgMember _ _) (wpAny_of_eq (a:=Ed) (by first|rfl|(unfold firstArgMember;rfl)) ?_)
 refine FZ ?_ (by first|trivial|(show(0:Nat)<=AG;decide)|size_fits)
 unfold raiseNew
 refine Ag (wpAny_handled ?_)
 first|rw[h]|rw[show A.in1.handled=none from h]
 refine Ag (AE (wpAny_throw ?_))
 exact q _ _ ((Heap.ExtBut.push (Heap.SameBut.extBut (IH ..)) _).push _) ⟨_,B0 _ rfl,rfl⟩
theorem je{P:A4}{w:Aj}{i l:Ac}(d:Array Aa):DV P w i [l] d.size (λk v=>d[k]?=some v) (λk h=>h.IsListIter i l k/\h.IsList l d) where
 frame:=λk h g ⟨a,b⟩ kp=>⟨a.at λo e=>kp i (.inl rfl) o e,b.at λo e=>kp l (.inr (by simp)) o e⟩
 lt:=λk h ⟨⟨o,e,_⟩,_⟩=>By e
 item:=λA E s k Q f ⟨a,b⟩ q=>wpAny_nextOf_list_item a b (J5 f) λg r j=>by
  by_cases m:l=i
  ·subst m
   obtain⟨o,e,c,_⟩:=a
   obtain⟨u,n,p,_⟩:=b
   rw[e]at n;cases n
   rw[c]at p
   exact absurd p (by decide)
  ·exact q _ g (J5 f) ⟨r,b.extBut j.extBut m⟩ j
 fin:=λA E s k Q t f ⟨a,b⟩ q=>wpAny_nextOf_list_end t a b (Array.getElem?_eq_none f) q
theorem jf{P:A4}{w:Aj}{i l:Ac}(d:Array Aa):DV P w i [l] d.size (λk v=>d[k]?=some v) (λk h=>h.IsTupleIter i l k/\h.IsTuple l d) where
 frame:=λk h g ⟨a,b⟩ kp=>⟨a.at λo e=>kp i (.inl rfl) o e,b.at λo e=>kp l (.inr (by simp)) o e⟩
 lt:=λk h ⟨⟨o,e,_⟩,_⟩=>By e
 item:=λA E s k Q f ⟨a,b⟩ q=>ja a b (J5 f) λg r j=>by
  by_cases m:l=i
  ·subst m
   obtain⟨o,e,c,_⟩:=a
   obtain⟨u,n,p,_⟩:=b
   rw[e]at n;cases n
   rw[c]at p
   exact absurd p (by decide)
  ·exact q _ g (J5 f) ⟨r,b.at λo e=>j.extBut _ _ m e⟩ j
 fin:=λA E s k Q t f ⟨a,b⟩ q=>jd t a b (Array.getElem?_eq_none f) q
structure CD(z tin tout ia ib:Ac)(fa fb:List Ac):Prop where
 n1:tin≠z
 n2:tout≠z
 n3:ia≠z
 n4:ib≠z
 n5:tin≠tout
 n6:tin≠ia
 n7:tin≠ib
 n8:tout≠ia
 n9:tout≠ib
 n10:ia≠ib
 fz:∀b,b∈fa\/b∈fb->b≠z/\b≠tout/\b≠ia/\b≠ib
section
variable{z tin tout ia ib:Ac}{fa fb:List Ac}{n m k:Nat}{isA isB:Nat->Aa->Prop}{sa sb:Nat->Al->Prop}{a b:Aa}
theorem CD.keepA(D:CD z tin tout ia ib fa fb)(f:DV prog w ia fa n isA sa){h h':Al}(st:sa k h){c:Ac}(d:c=z\/c=tout\/c=ib)(a:Dr c h h'):sa k h':=
 f.frame k h h' st λx b o e=>by
  refine a.extBut x o ?_ e
  rcases b with rfl|b
  ·rcases d with rfl|rfl|rfl
   ·exact D.n3
   ·exact Br D.n8
   ·exact D.n10
  ·obtain⟨q1,q2,q3,q4⟩:=D.fz x (.inl b)
   rcases d with rfl|rfl|rfl
   ·exact q1
   ·exact q2
   ·exact q4
theorem CD.keepB(D:CD z tin tout ia ib fa fb)(SB:DV prog w ib fb n isB sb){h h':Al}(st:sb k h){c:Ac}(d:c=z\/c=tout\/c=ia)(a:Dr c h h'):sb k h':=
 SB.frame k h h' st λx b o e=>by
  refine a.extBut x o ?_ e
  rcases b with rfl|b
  ·rcases d with rfl|rfl|rfl
   ·exact D.n4
   ·exact Br D.n9
   ·exact Br D.n10
  ·obtain⟨q1,q2,q3,q4⟩:=D.fz x (.inr b)
   rcases d with rfl|rfl|rfl
   ·exact q1
   ·exact q2
   ·exact q3
end
end
section
variable{X:Cx}{pins:List (Ac×AM)}{σ:St}{H:Hp}{s:Ab}{h':Al}
theorem Inv.turnedL{f:List Ac}(I:Inv X pins σ H s)(g:∀b∈f,Fh X pins H b)(k:∀b o,b∉f->s.heap.get? b=some o->h'.get? b=some o):Inv X pins σ H {s with heap:=h' }:=by
 have d:∀b u,H b=some u->b∉f:=λb u e z=>by rw[(g b z).1]at e;cases e
 refine I.step (g':=s.gens) (d':=s.drawn) (t':=s.toks) (ch:=f) (λb h=>?_) (λb o _ _ a e _=>k b o a e) (λb o _ _ a e _=>⟨o.slots,k b o a e⟩) (λ_ _ _ _ n=>n)
  (λb o a e=>⟨o,k b o a e⟩) (λ_ _ e=>e) (λ_ _ _ e=>e) (λb G e=>⟨#[],by rw[e];simp⟩) (λm i=>?_) (λb u e=>?_) I.bare
 ·obtain⟨_,j,_,l,p,t⟩:=g b h
  exact⟨l,j,p,t⟩
 ·obtain⟨o,w,x,y,r⟩:=i
  exact⟨o,w,x,k _ o (λz=>(g _ z).2.1 rfl) y,r⟩
 ·refine(I.hok b u e).stay (λc v a q=>k c v ?_ q) (λ_ q=>q) λ_ _ q=>q
  rcases a with z|z
  ·rw[z];exact d b u e
  ·exact d c _ z
theorem Inv.yielded{g:List Ac}{p:Ac}{vs:List V}(I:Inv X pins σ H s)(i:∀b∈g,Fh X pins H b)(k:∀b o,b∉g->s.heap.get? b=some o->h'.get? b=some o)(j:s.heap.objs.size<=p)
  (new:Bl X.prog X.w (A3 H p (.tup vs)) h' p (.tup vs)):Inv X pins σ (A3 H p (.tup vs)) {s with heap:=h' }:=by
 have d:∀b u,H b=some u->b∉g:=λb u e z=>by rw[(i b z).1]at e;cases e
 have f:H p=none:=I.hok.fresh j
 refine I.step (g':=s.gens) (d':=s.drawn) (t':=s.toks) (ch:=g) (λb h=>?_) (λb o _ _ a e _=>k b o a e) (λb o _ _ a e _=>⟨o.slots,k b o a e⟩) (λb o _ e n=>?_)
  (λb o a e=>⟨o,k b o a e⟩) (λb l e=>?_) (λb o u e=>?_) (λb O e=>⟨#[],?_⟩) (λm t=>?_) (λb u e=>?_) I.bare
 ·obtain⟨_,x,_,y,A,B⟩:=i b h
  exact⟨y,x,A,B⟩
 ·rw[ZK (Cs (Ca (By e) j))];exact n
 ·rw[ZK (Eo e f)];exact e
 ·rw[ZK (Eo e f)];exact e
 ·rw[ZK (Eo e f),e];simp
 ·obtain⟨o,C,E,G,r⟩:=t
  exact⟨o,C,E,k _ o (λz=>(i _ z).2.1 rfl) G,r⟩
 ·by_cases h:b=p
  ·subst h;rw[Ef]at e;cases e;exact new
  ·rw[ZK h]at e
   refine(I.hok b u e).stay (λc v a q=>k c v ?_ q) (λc q=>by rw[ZK (Eo q f)];exact q) λc l q=>by rw[ZK (Eo q f)];exact q
   rcases a with z|z
   ·rw[z];exact d b u e
   ·exact d c _ z
end
inductive Bn where
 |l (a:Ac)
 |t (a:Ac)
@[reducible] def Bn.ad:Bn->Ac
  |.l a=>a
  |.t a=>a
def Bn.sq(K:As)(H:Hp):Bn->List V->Prop
 |.l a=>BE K H a
 |.t a=>BV K H a
def Bn.nm:Bn->String
 |.l _=>"list_iterator"
 |.t _=>"tuple_iterator"
def Bn.ok(h:Al)(b:Array Aa):Bn->Prop
 |.l a=>h.IsList a b
 |.t a=>h.IsTuple a b
def Bn.it(h:Al)(i:Ac)(k:Nat):Bn->Prop
 |.l a=>h.IsListIter i a k
 |.t a=>h.IsTupleIter i a k
theorem Bn.of(S:Bn){X:Cx}{c:List (Ac×AM)}{σ:St}{H:Hp}{s:Ab}{xs:List V}(I:Inv X c σ H s)(h:S.sq X.K H xs):∃b:List Aa,Ap xs b/\S.ok s.heap b.toArray/\xs.length<=AG:=by
 cases S with
 |l a=>obtain⟨b,r,p,z⟩:=I.list h;exact⟨b,r,p.isList,z⟩
 |t a=>obtain⟨b,r,p,z⟩:=I.tuple h;exact⟨b,r,(show s.heap.IsTuple a b.toArray from p),z⟩
theorem Bn.inj(S:Bn){X:Cx}{b:List (Ac×AM)}{σ:St}{H:Hp}{s:Ab}{xs ys:List V}(I:Inv X b σ H s)(h:S.sq X.K H xs)(h':S.sq X.K H ys):xs=ys:=by
 cases S with
 |l a=>exact I.list_inj h h'
 |t a=>exact I.tuple_inj h h'
theorem Bn.lt(S:Bn){h:Al}{b:Array Aa}(p:S.ok h b):S.ad<h.objs.size:=by
 cases S with
 |l a=>obtain⟨o,e,_⟩:=p;exact By e
 |t a=>obtain⟨o,e,_⟩:=p;exact By e
theorem Bn.okAt(S:Bn){h h':Al}{b:Array Aa}(p:S.ok h b)(k:∀o,h.get? S.ad=some o->h'.get? S.ad=some o):S.ok h' b:=by
 cases S with
 |l a=>exact Heap.IsList.at p k
 |t a=>exact Heap.IsTuple.at p k
theorem Bn.itAt(S:Bn){h h':Al}{i:Ac}{n:Nat}(p:S.it h i n)(k:∀o,h.get? i=some o->h'.get? i=some o):S.it h' i n:=by
 cases S with
 |l a=>exact Heap.IsListIter.at p k
 |t a=>exact Heap.IsTupleIter.at p k
theorem Bn.itOb(S:Bn){h:Al}{i:Ac}{n:Nat}(p:S.it h i n):∃o,h.get? i=some o/\∀v,o.data≠.cell v:=by
 cases S with
 |l a=>obtain⟨o,e,c,d⟩:=p;exact⟨o,e,λv z=>by rw[d]at z;cases z⟩
 |t a=>obtain⟨o,e,c,d⟩:=p;exact⟨o,e,λv z=>by rw[d]at z;cases z⟩
theorem Bn.sub(S:Bn){P:A4}{w:Aj}{i:Ac}(b:Array Aa):DV P w i [S.ad] b.size (λk v=>b[k]?=some v) (λk h=>S.it h i k/\S.ok h b):=by
 cases S with
 |l a=>exact je b
 |t a=>exact jf b
def Bn.obj(S:Bn):AM:={cls:=.type S.nm,data:=.fields #[.ref S.ad,.int 0 0]}
theorem Bn.pyIter(S:Bn){prog:A4}{w:Aj}{A:Ak}{E:Aa->Ab->Prop}{s:Ab}{b:Array Aa}{Q:Aa->Ab->Prop}(p:S.ok s.heap b)
  (q:Q (.ref s.heap.objs.size) {s with heap:=s.heap.push S.obj}):wpAny (Af prog w) A (pyIter (.ref S.ad)) Q E s:=by
 cases S with
 |l a=>exact MB p q
 |t a=>exact wpAny_pyIter_tuple p q
theorem Bn.new(S:Bn){h:Al}:S.it (h.push S.obj) h.objs.size 0:=by
 cases S with
 |l a=>exact⟨_,B0 _ rfl,rfl,rfl⟩
 |t a=>exact⟨_,B0 _ rfl,rfl,rfl⟩
@[reducible] def Ha(h:Al)(A:Bn):Al:=h.push A.obj
@[reducible] def GB(h:Al)(A B:Bn):Al:=(Ha h A).push B.obj
@[reducible] def Nb(h:Al)(A B:Bn):Al:=(GB h A B).push {cls:=.type "tuple",data:=.seq #[.ref h.objs.size,.ref (Ha h A).objs.size]}
@[reducible] def Nc(h:Al)(A B:Bn):Al:=(Nb h A B).push {cls:=.type "tuple",data:=.seq #[.none,.none]}
@[reducible] def II(h:Al)(A B:Bn):Al:=(Nc h A B).push {cls:=.type "zip",data:=.fields #[.none,.bool false,.bool false,.ref (GB h A B).objs.size,.ref (Nb h A B).objs.size]}
theorem jg(A B:Bn)(xs ys:Array Aa):Meets (Aw.«zip.__new__» ⟨[.type "zip",.ref A.ad,.ref B.ad],[]⟩) (λ_ R s=>A.ok s.heap xs/\B.ok s.heap ys/\R (.ok (.ret (.ref (Nc s.heap A B).objs.size))) {s with heap:=II s.heap A B}):=
 .of_wp λprog w k R s h=>by
  obtain⟨a,g,d,b,os⟩:=s;obtain⟨c,f,q⟩:=h
  have l:=sub_zip
  have i:A.ok (Shared.heap ⟨a,g,d,b,os⟩) xs:=c
  have j:B.ok (Shared.heap ⟨a.push A.obj,g,d,b,os⟩) ys:=B.okAt f λo e=>Bk _ e
  wp_walk using A.pyIter i,B.pyIter j
  exact⟨_,rfl,q⟩
section
variable{prog:A4}{w:Aj}{A:Ak}{E:Aa->Ab->Prop}{s:Ab}
theorem jh{S T:Bn}{xs ys:Array Aa}{Q:Aa->Ab->Prop}(i:S.ok s.heap xs)(j:T.ok s.heap ys)
  (q:∀h',IsZip h' (s.heap.objs.size+4) (s.heap.objs.size+2) (s.heap.objs.size+3) .none->Bp h' (s.heap.objs.size+2) (.ref s.heap.objs.size) (.ref (s.heap.objs.size+1)) ->
   Bp h' (s.heap.objs.size+3) .none .none->S.it h' s.heap.objs.size 0->T.it h' (s.heap.objs.size+1) 0->(∀c o,s.heap.get? c=some o->h'.get? c=some o)->Q (.ref (s.heap.objs.size+4)) {s with heap:=h' }):
  wpAny (Af prog w) A (call (.type "zip") [.ref S.ad,.ref T.ad]) Q E s:=by
 refine callType_new PySem.F.called_zip (by decide) (PySem.F.typeCall_zip_2 _ _) (PySem.F.newCall_zip_2 _ _) (λobj=>PySem.F.args_object_init_3 obj _ _) PySem.F.entry_zip_new (jg S T xs ys) ⟨i,j,?_⟩
 have z1:(Ha s.heap S).objs.size=s.heap.objs.size+1:=E3 ..
 have z2:(GB s.heap S T).objs.size=s.heap.objs.size+2:=by rw[E3,z1]
 have z3:(Nb s.heap S T).objs.size=s.heap.objs.size+3:=by rw[E3,z2]
 have z4:(Nc s.heap S T).objs.size=s.heap.objs.size+4:=by rw[E3,z3]
 have a:(II s.heap S T).get? (Nc s.heap S T).objs.size=some _:=B0 _ rfl
 have d:(II s.heap S T).get? (Nb s.heap S T).objs.size=some _:=Bk _ (B0 _ rfl)
 have f:(II s.heap S T).get? (GB s.heap S T).objs.size=some _:=Bk _ (Bk _ (B0 _ rfl))
 have b:∀c o,(GB s.heap S T).get? c=some o->(II s.heap S T).get? c=some o:=λc o e=>Bk _ (Bk _ (Bk _ e))
 have g:T.it (II s.heap S T) (Ha s.heap S).objs.size 0:=T.itAt (T.new (h:=Ha s.heap S)) λo e=>b _ o e
 have k:S.it (II s.heap S T) s.heap.objs.size 0:=S.itAt (S.new (h:=s.heap)) λo e=>b _ o (Bk _ e)
 show _/\_
 rw[z2,z3,z4]at a
 rw[z1,z2]at f
 rw[z3]at d
 rw[z1]at g
 rw[z4]
 exact⟨⟨_,a,rfl⟩,q _ a f d k g λc o e=>b _ _ (Bk _ (Bk _ e))⟩
end
def VV(K:As)(S T:Bn):It:=
 ⟨λi H=>∃a b x y,S.sq K H a/\T.sq K H b/\a[i]?=some x/\b[i]?=some y,
  λi H v c=>∃p x y,v=.ref p/\H p=none/\c=A3 H p (.tup [x,y])/\(∀a,S.sq K H a->a[i]?=some x)/\∀b,T.sq K H b->b[i]?=some y,
  λi H=>∃a b,S.sq K H a/\T.sq K H b/\(a.length<=i\/b.length<=i)⟩
theorem VW{n:Nat}{S T:Bn}(c:S.ad<n)(d:T.ad<n):CD (n+4) (n+2) (n+3) n (n+1) [S.ad] [T.ad] where
 n1:=by(show @Ne Nat _ _;omega)
 n2:=by(show @Ne Nat _ _;omega)
 n3:=by(show @Ne Nat _ _;omega)
 n4:=by(show @Ne Nat _ _;omega)
 n5:=by(show @Ne Nat _ _;omega)
 n6:=by(show @Ne Nat _ _;omega)
 n7:=by(show @Ne Nat _ _;omega)
 n8:=by(show @Ne Nat _ _;omega)
 n9:=by(show @Ne Nat _ _;omega)
 n10:=by(show @Ne Nat _ _;omega)
 fz:=λb f=>by
  have a:(b:Nat)<n:=by
   rcases f with z|z
   ·rw[GC.mp z];exact c
   ·rw[GC.mp z];exact d
  exact⟨λe=>by subst e;exact absurd a (by show ¬ @LT.lt Nat _ _ _;omega),λe=>by subst e;exact absurd a (by show ¬ @LT.lt Nat _ _ _;omega),λe=>by subst e;exact absurd a (by show ¬ @LT.lt Nat _ _ _;omega),λe=>by subst e;exact absurd a (by show ¬ @LT.lt Nat _ _ _;omega)⟩
theorem VX:Ep "zip"=some (.type "zip"):=by decide +kernel
@[simp] def Dk:D->Option (List D)
  |.lst a=>some a
  |.tup a=>some a
  |_=>none
theorem El.src{K:As}{M N:Fb}{H:Hp}{d:D}{v:V}{xs:List D}(h:El K M N H d v)(e:Dk d=some xs):
  ∃(S:Bn) (vs:List V),v=.ref S.ad/\Ad K N H xs vs/\∀N2 c,Step M N N2 H c->S.sq K c vs:=by
 cases d with
 |lst g i=>
  cases i with
  |true=>cases e
  |false=>
  cases e
  obtain⟨a,vs,f,b,hd⟩:=h
  refine⟨.l a,vs,f,hd,λN2 c S=>?_⟩
  rcases b with⟨j,b⟩|b
  ·exact .inl (b.step S (by rcases j with z|z;exact .inl z;exact .inr (.inl z)))
  ·exact b.sq
 |tup g=>
  cases e
  simp only[El,AI]at h
  obtain⟨a,vs,f,b,hd⟩:=h
  exact⟨.t a,vs,f,hd,λN2 c S=>b.step S⟩
 |_=>cases e
@[simp] def Hb(f g:VE->Option D):VE->Option (List D):=λa=>match(f a).bind Dk,(g a).bind Dk with
  |some b,some c=>some (Fs (λx y=>D.tup [x,y]) b c)
  |_,_=>none
theorem ji{K:As}{M N:Fb}{H:Hp}{S T:Bn}{xs ys:List D}{us vs:List V}(g:Ad K N H xs us)(h:Ad K N H ys vs)(q1:∀N2 b,Step M N N2 H b->S.sq K b us)(q2:∀N2 b,Step M N N2 H b->T.sq K b vs):
  Lf K M N H (VV K S T) (Fs (λx y=>D.tup [x,y]) xs ys):=λN2 b St i=>by
 have c:=q1 _ _ St
 have e:=q2 _ _ St
 have d1:=Ad.step St _ _ g
 have d2:=Ad.step St _ _ h
 refine⟨λd a=>?_,λa=>⟨us,vs,c,e,?_⟩⟩
 ·rw[List.getElem?_zipWith]at a
  cases ex:xs[i]? with
  |none=>rw[ex]at a;cases a
  |some x=>
   cases f:ys[i]? with
   |none=>rw[ex,f]at a;cases a
   |some y=>
    rw[ex,f]at a;cases a
    obtain⟨u,j,m⟩:=d1.get ex
    obtain⟨v,k,dv⟩:=d2.get f
    refine⟨⟨us,vs,u,v,c,e,j,k⟩,λz q ⟨p,r,s,n,l,o,w1,w2⟩=>?_⟩
    have:=w1 us c;rw[j]at this;cases this
    have:=w2 vs e;rw[k]at this;cases this
    subst n o
    exact⟨P6 l,JQ l (Ad.cons m (Ad.cons dv Ad.nil))⟩
 ·have t:=g.length
  have w:=h.length
  simp only[List.length_zipWith]at a
  omega
section
variable{X:Cx}{M:Fb}{H0:Hp}{f g:VE->Option D}{a b:Expr}{elts:List Expr}{p pos tpos:Bc}
end
section
variable{prog:A4}{w:Aj}{A:Ak}{E:Aa->Ab->Prop}{s:Ab}
theorem jj(l:Ac)(a:Array Aa)(n:Nat)(dct:Option Ac)(b:Array (Option Aa))(ob:AM)(c:ob={cls:=.type "list_iterator",data:=.fields #[.ref l,.int 0 0]}):
  Meets (Aw.«enumerate.__new__» ⟨[.type "enumerate",.ref l],[]⟩) (λ_ R s=>s.heap.get? l=some {cls:=.type "list",dict:=dct,data:=.seq a n,slots:=b} /\
   R (.ok (.ret (.ref (s.heap.push ob).objs.size))) {s with heap:=(s.heap.push ob).push {cls:=.type "enumerate",data:=.fields #[.none,.bool false,.ref s.heap.objs.size,AH 0,.none,.none]} }):=by
 subst c;exact meets_enumerate_newL l a n dct b
theorem jk(l:Ac)(a:Array Aa)(n:Nat)(dct:Option Ac)(j:Array (Option Aa)):
  Meets (Aw.«enumerate.__new__» ⟨[.type "enumerate",.ref l],[]⟩) (λ_ R s=>s.heap.get? l=some {cls:=.type "tuple",dict:=dct,data:=.seq a n,slots:=j} /\
   R (.ok (.ret (.ref (s.heap.push (Bn.obj (.t l))).objs.size))) {s with heap:=(s.heap.push (Bn.obj (.t l))).push {cls:=.type "enumerate",data:=.fields #[.none,.bool false,.ref s.heap.objs.size,AH 0,.none,.none]} }):=
 .of_wp λprog w A R s h=>by
  obtain⟨b,g,d,f,os⟩:=s;obtain⟨e,q⟩:=h
  have m:=sub_enumerate
  have k:Bn.ok (Shared.heap ⟨b,g,d,f,os⟩) a (.t l):=⟨_,e,rfl,n,rfl⟩
  have i:∀{prog:A4} {w:Aj} {A:Ak} {E:Aa->Ab->Prop} {Q:Aa->Ab->Prop},Q (.ref b.objs.size) ⟨b.push (Bn.obj (.t l)),g,d,f,os⟩->wpAny (Af prog w) A (pyIter (.ref l)) Q E ⟨b,g,d,f,os⟩:=λq=>Bn.pyIter (.t l) k q
  wp_walk using QE e
  refine wpAny_stack_any λst=>AE ?_
  split
  ·rename_i c _ _ _ _ _
   cases(c==Value.type "enumerate")
   ·wp_walk using QE e,i
    exact⟨_,rfl,q⟩
   ·wp_walk using QE e,i
    exact⟨_,rfl,q⟩
  ·wp_walk using QE e,i
   exact⟨_,rfl,q⟩
theorem jl{S:Bn}{d:Array Aa}{Q:Aa->Ab->Prop}(p:S.ok s.heap d)
  (q:∀h',IsEnum h' (s.heap.objs.size+1) s.heap.objs.size 0 .none->S.it h' s.heap.objs.size 0->(∀b o,s.heap.get? b=some o->h'.get? b=some o)->Q (.ref (s.heap.objs.size+1)) {s with heap:=h' }):
  wpAny (Af prog w) A (call (.type "enumerate") [.ref S.ad]) Q E s:=by
 have i:(s.heap.push S.obj).objs.size=s.heap.objs.size+1:=E3 ..
 have j:IsEnum ((s.heap.push S.obj).push {cls:=.type "enumerate",data:=.fields #[.none,.bool false,.ref s.heap.objs.size,AH 0,.none,.none]}) (s.heap.objs.size+1) s.heap.objs.size 0 .none:=by
  have:=B0 (s.heap.push S.obj) (o:={cls:=.type "enumerate",data:=.fields #[.none,.bool false,.ref s.heap.objs.size,AH 0,.none,.none]}) rfl
  rw[i]at this;exact this
 have fin:(s.TypeIs (.ref 0) "x"->True):=λ_=>trivial
 have f:=q _ j (S.itAt (S.new (h:=s.heap)) λo e=>Bk _ e) λb o e=>Bk _ (Bk _ e)
 cases S with
 |l a=>
  obtain⟨⟨c,dct,k,m⟩,r,g,n,hd⟩:=p
  replace g:c=.type "list":=g
  replace hd:k=.seq d n:=hd
  subst g hd
  refine callType_new PySem.F.called_enumerate (by decide) (PySem.F.typeCall_enumerate_1 _) (PySem.F.newCall_enumerate_1 _) (λobj=>PySem.F.args_object_init_2 obj _) PySem.F.entry_enumerate_new (jj a d n dct m (Bn.obj (.l a)) rfl) ⟨r,?_⟩
  show _/\_
  rw[i]
  exact⟨⟨_,j,rfl⟩,f⟩
 |t a=>
  obtain⟨⟨c,dct,k,m⟩,r,g,n,hd⟩:=p
  replace g:c=.type "tuple":=g
  replace hd:k=.seq d n:=hd
  subst g hd
  refine callType_new PySem.F.called_enumerate (by decide) (PySem.F.typeCall_enumerate_1 _) (PySem.F.newCall_enumerate_1 _) (λobj=>PySem.F.args_object_init_2 obj _) PySem.F.entry_enumerate_new (jk a d n dct m) ⟨r,?_⟩
  show _/\_
  rw[i]
  exact⟨⟨_,j,rfl⟩,f⟩
section
variable{e it:Ac}{fa:List Ac}{n k:Nat}{isA:Nat->Aa->Prop}{sa:Nat->Al->Prop}{old:Aa}
theorem jm{Q:Option Aa->Ab->Prop}(SA:DV prog w it fa n isA sa)(f:IsEnum s.heap e it k old)(ha:sa k s.heap)(kn:k<n)(m:e≠it)(C:e∉fa)
  (q:∀x h',isA k x->IsEnumOut h' e it ((k:Int)+1) x s.heap.objs.size->sa (k+1) h'->h'.get? s.heap.objs.size=some {cls:=.type "tuple",data:=.seq #[.int k s.toks,x]} ->
   (∀b o,b≠e->b≠it->s.heap.get? b=some o->h'.get? b=some o)->Q (some (.ref s.heap.objs.size)) {s with heap:=h',toks:=s.toks+1}):
  wpAny (Af prog w) A (Bo (.ref e)) Q E s:=by
 obtain⟨i,g,d,a,os⟩:=s
 have ty:Shared.TypeIs ⟨i,g,d,a,os⟩ (.ref e) "enumerate":=⟨_,f,rfl⟩
 unfold Bo
 refine Ag (HK (FY (name:=Dt "__next__") ty QF (Fk QF ty PySem.F.entry_enumerate_next ?_ (PySem.F.args_enumerate_next_1 _))))
 have fr:∀{h h':Al},sa (k+1) h->(∀b o,b≠e->h.get? b=some o->h'.get? b=some o)->sa (k+1) h':=λst kp=>SA.frame _ _ _ st λb c o x=>kp b o (by
  rcases c with rfl|c
  ·exact Br m
  ·intro z;subst z;exact C c) x
 show wpAny _ _ (field (.ref e) 2 >>= _) _ _ _
 refine Ag (Ch f rfl (x:=.ref it) rfl ?_)
 refine Ag (SA.item _ _ _ k _ kn ha λx l hx a1 p=>?_)
 replace p:Dr it i l:=p
 have G:IsEnum l e it k old:=(p.2 e m).trans f
 show wpAny _ _ (field (.ref e) 3 >>= _) _ _ ⟨l,g,d,a,os⟩
 refine Ag (Ch G rfl (x:=AH k) rfl ?_)
 show wpAny _ _ (field (.ref e) 4 >>= _) _ _ ⟨l,g,d,a,os⟩
 refine Ag (Ch G rfl (x:=.none) rfl ?_)
 show wpAny _ _ (mkInt k >>= _) _ _ ⟨l,g,d,a,os⟩
 refine Ag (wpAny_mkInt ?_)
 show wpAny _ _ (setField (.ref e) 3 (AH ((k:Int)+1)) >>= _) _ _ ⟨l,g,d,a+1,os⟩
 refine Ag (DL G (by simp) λu H r=>?_)
 replace r:Dr e l u:=r
 replace H:IsEnum u e it ((k:Int)+1) old:=H
 show wpAny _ _ (setField (.ref e) 4 .none >>= _) _ _ ⟨u,g,d,a+1,os⟩
 refine Ag (DL H (by simp) λj I t=>?_)
 replace t:Dr e u j:=t
 replace I:IsEnum j e it ((k:Int)+1) old:=I
 show wpAny _ _ (newTuple [.int k a,x] >>= _) _ _ ⟨j,g,d,a+1,os⟩
 refine Ag (wpAny_newTuple ?_)
 have sz:j.objs.size=i.objs.size:=by rw[t.1,r.1,p.1]
 have el:e<i.objs.size:=By f
 have v:IsEnum (j.push {cls:=.type "tuple",data:=.seq #[.int k a,x]}) e it ((k:Int)+1) old:=Bk _ I
 have t4:(j.push {cls:=.type "tuple",data:=.seq #[.int k a,x]}).get? i.objs.size=some {cls:=.type "tuple",data:=.seq #[.int k a,x]}:=by rw[<- sz];exact B0 _ rfl
 have k4:∀b o,b≠e->b≠it->i.get? b=some o->(j.push {cls:=.type "tuple",data:=.seq #[.int k a,x]}).get? b=some o:=λb o f J c=>
  Bk _ (t.extBut b o f (r.extBut b o f (p.extBut b o J c)))
 have a4:sa (k+1) (j.push {cls:=.type "tuple",data:=.seq #[.int k a,x]}):=fr a1 λb o c z=>Bk _ (t.extBut b o c (r.extBut b o c z))
 generalize (j.push {cls:=.type "tuple",data:=.seq #[.int k a,x]})=L at v t4 k4 a4 ⊢
 show wpAny _ _ (Hc (.ref e) >>= _) _ _ ⟨L,g,d,a+1,os⟩
 rw[sz]
 refine Ag ?_
 unfold Hc
 refine Ag (Ch v rfl (x:=.none) rfl (AE ?_))
 rw[if_pos rfl]
 refine Ag (FK ?_)
 refine Ag (Ch v rfl (x:=old) rfl ?_)
 refine Ag (DL v (by simp) λy M N=>?_)
 replace N:Dr e L y:=N
 replace M:IsEnum y e it ((k:Int)+1) x:=M
 show wpAny _ _ (Lw (.ref e) (.ref i.objs.size) >>= _) _ _ ⟨y,g,d,a+1,os⟩
 refine Ag ?_
 unfold Lw
 refine Ag (DL M (by simp) λO T U=>?_)
 replace U:Dr e y O:=U
 replace T:IsEnumOut O e it ((k:Int)+1) x i.objs.size:=T
 refine DL T (by simp) λB Y s7=>?_
 replace s7:Dr e O B:=s7
 replace Y:IsEnumOut B e it ((k:Int)+1) x i.objs.size:=Y
 have up:∀b o,b≠e->L.get? b=some o->B.get? b=some o:=λb o c z=>s7.extBut b o c (U.extBut b o c (N.extBut b o c z))
 refine Ag (Hd (AE ⟨_,rfl,AE (q x B hx Y (fr a4 up) (up _ _ (FA el) t4) λb o f J z=>up b o f (k4 b o f J z))⟩))
theorem jn{Q:Option Aa->Ab->Prop}(a:A.handled=none)(f:DV prog w it fa n isA sa)(c:IsEnum s.heap e it k old)(g:sa k s.heap)(h:n<=k)
  (q:∀h',Heap.ExtBut it s.heap h'->Q none {s with heap:=h' }):wpAny (Af prog w) A (Bo (.ref e)) Q E s:=by
 have ty:s.TypeIs (.ref e) "enumerate":=⟨_,c,rfl⟩
 unfold Bo
 refine Ag (HK (FY (name:=Dt "__next__") ty QF (Fk QF ty PySem.F.entry_enumerate_next ?_ (PySem.F.args_enumerate_next_1 _))))
 show wpAny _ _ (field (.ref e) 2 >>= _) _ _ _
 refine Ag (Ch c rfl (x:=.ref it) rfl ?_)
 refine Ag (f.fin _ _ _ k _ (by first|exact a|simpa using a) h g λh' x i j=>?_)
 obtain⟨o,l,m⟩:=j
 exact Ag (wpAny_isInstance (T:="StopIteration") (b:=true) ⟨o,l,m⟩ isSubtype_stop (AE (q _ i)))
theorem jo{a:List Expr} {b} {pos:Bc} {i:Int} {v:Aa} {T:Ac} {Q:Unit->Ab->Prop} (hz:IsEnumOut s.heap e it i v T)
  (q:∀h',IsEnum h' e it i v->Dr e s.heap h'->Q () {s with heap:=h' }):wpAny (Af prog w) A (Jm (.Tuple a b pos) (.ref e) (.ref T)) Q E s:=by
 unfold Jm
 refine Ag (wpAny_load hz ?_)
 show wpAny _ _ (if(["enumerate","zip","dict_itemiterator","dict_reverseitemiterator","odict_iterator","itertools.zip_longest","itertools.pairwise"].contains "enumerate"&&(#[AH T,.bool false,.ref it,AH i,.none,v]:Array Aa)[0]?==some (AH T))=true then _ else _) Q E s
 rw[if_pos (by simp)]
 refine Ag (FK ?_)
 show wpAny _ _ (setField (.ref e) 0 .none) Q E s
 exact DL hz (by simp) λh' z c=>q h' z c
end
end
def VY(K:As)(S:Bn):It:=
 ⟨λi H=>∃a x,S.sq K H a/\a[i]?=some x,
  λi H v b=>∃p x,v=.ref p/\H p=none/\b=A3 H p (.tup [.int i,x])/\(∀a,S.sq K H a->a[i]?=some x),
  λi H=>∃a,S.sq K H a/\a.length<=i⟩
theorem jp{P:A4}{w:Aj}{K:As}{j:List Expr} {T} {pos:Bc} (S:Bn) (n:Nat) (U:S.ad<n):
  Gn P w K (.Tuple j T pos) (VY K S) [n+1,n] (n+1) (λi h=>(∃d,IsEnum h (n+1) n i d)/\S.it h n i) where
 mem:=by simp
 obj:=λi h ⟨⟨x,z⟩,c⟩ q a=>by
  simp only[Bv,G8,or_false]at a
  rcases a with rfl|rfl
  ·exact⟨_,z,λv e=>nomatch (show Data.fields _=GX v from e)⟩
  ·exact S.itOb c
 keep:=λi h m ⟨⟨x,z⟩,c⟩ k=>⟨⟨x,k _ (by simp) _ z⟩,S.itAt c λo e=>k _ (by simp) o e⟩
 item:=by
  intro X u y A N i b s O H E I p ⟨⟨d,z⟩,c⟩ ⟨Y,x,r,ex⟩
  subst u y A
  obtain⟨f,B,C,_⟩:=S.of I r
  obtain⟨u1,Q,G⟩:=B.get ex
  have l1:=(List.getElem?_eq_some_iff.mp Q).1
  have hlt:n+1<s.heap.objs.size:=By z
  have J:S.ad≠(n+1:Nat):=λe=>absurd (show @LT.lt Nat _ S.ad n from U) (by rw[e];show ¬ @LT.lt Nat _ _ _;omega)
  refine jm (S.sub (P:=X.prog) (w:=X.w) f.toArray) z ⟨c,C⟩ (by simpa using l1) (by(show @Ne Nat _ _;omega)) (λz=>J (GC.mp z).symm) λt m l z' ⟨c',_⟩ new kp=>?_
  have L:t=u1:=by simp[Q]at l;exact l.symm
  subst L
  refine⟨_,rfl,jo (s:={s with heap:=m,toks:=s.toks+1}) z' λg z2 sb=>?_⟩
  have M:∀q o,q≠n+1->m.get? q=some o->g.get? q=some o:=λq o a e=>sb.extBut _ _ a e
  have I1:Inv X b O (A3 H s.heap.objs.size (.tup [.int i,x])) {s with heap:=g}:=by
   refine I.yielded p (λq o a e=>M q o (λz=>a (by simp[z])) (kp q o (λz=>a (by simp[z])) (λz=>a (by simp[z])) e)) (BB _) ?_
   exact⟨show 2<=AG by decide,[.int i s.toks,t],.cons ⟨_,rfl⟩ (.cons G .nil),⟨_,M _ _ (by(show @Ne Nat _ _;omega)) new,rfl,_,rfl⟩⟩
  refine⟨.ref s.heap.objs.size,_,I1.tok (s.toks+1),rfl,⟨_,x,rfl,I.hok.fresh (BB _),rfl,λzs hz=>by rw[S.inj I hz r];exact ex⟩,⟨⟨t,?_⟩,S.itAt c' λo e=>M _ o (by(show @Ne Nat _ _;omega)) e⟩,λq a=>?_⟩
  ·have:((i+1:Nat):Int)=(i:Int)+1:=by omega
   show IsEnum g (n+1) n ((i+1:Nat):Int) t
   rw[this]
   exact z2
  rw[ZK]
  ·exact(p q a).1
  ·simp only[Bv,G8,or_false]at a
   rcases a with rfl|rfl<;>(show @Ne Nat _ _;omega)
 done:=by
  intro X u y A N i b s O H E I p ⟨⟨d,z⟩,c⟩ ⟨Y,r,hl⟩
  subst u y A
  obtain⟨f,B,C,_⟩:=S.of I r
  have q1:=B.length
  refine jn (I.ok.hd N) (S.sub (P:=X.prog) (w:=X.w) f.toArray) z ⟨c,C⟩ (by simp only[BF];omega) λm kp=>⟨rfl,I.turnedL p λq o a e=>kp q o (λz=>a (by simp[z])) e⟩
 self:=λ_ _ _ _ _ ⟨⟨_,z⟩,_⟩ q=>wpAny_pyIter_enum z q
theorem jq:Ep "enumerate"=some (.type "enumerate"):=by decide +kernel
def Cj:Nat->List D->List D
 |_,[]=>[]
 |k,d::a=>.tup [.int k,d]::Cj (k+1) a
theorem J6:∀(xs:List D)(k:Nat),(Cj k xs).length=xs.length
 |[],_=>rfl
 |_::xs,k=>by simp[Cj,J6 xs]
theorem VZ:∀(xs:List D)(k i:Nat),(Cj k xs)[i]?=(xs[i]?).map λd=>D.tup [.int ((k+i:Nat):Int),d]
 |[],_,_=>by simp[Cj]
 |x::xs,k,0=>by simp[Cj]
 |x::xs,k,i+1=>by
  simp only[Cj,AN,VZ xs]
  rw[show k+1+i=k+(i+1) by omega]
@[simp] def Df(f:VE->Option D):VE->Option (List D):=λa=>match(f a).bind Dk with
  |some b=>some (Cj 0 b)
  |none=>none
theorem jr{K:As}{M N:Fb}{H:Hp}{S:Bn}{xs:List D}{us:List V}(e:Ad K N H xs us)(q1:∀N2 b,Step M N N2 H b->S.sq K b us):Lf K M N H (VY K S) (Cj 0 xs):=λN2 b St i=>by
 have c:=q1 _ _ St
 have d1:=Ad.step St _ _ e
 refine⟨λd a=>?_,λa=>⟨us,c,?_⟩⟩
 ·rw[VZ]at a
  cases ex:xs[i]? with
  |none=>rw[ex]at a;cases a
  |some x=>
   rw[ex]at a;cases a
   obtain⟨u,f,h⟩:=d1.get ex
   refine⟨⟨us,u,c,f⟩,λz l ⟨p,m,j,g,k,w1⟩=>?_⟩
   have:=w1 us c;rw[f]at this;cases this
   subst j k
   refine⟨P6 g,JQ g (Ad.cons ?_ (Ad.cons h Ad.nil))⟩
   simp[AI]
 ·have n:=e.length
  rw[J6]at a
  omega
section
variable{X:Cx}{M:Fb}{H0:Hp}{f:VE->Option D}{a:Expr}{elts:List Expr}{p pos tpos:Bc}
theorem He {G} (J:Gl X "enumerate") (L:X.mg "enumerate"=none) (l:JE X a (tQ X.K M H0 f)) (x:AX [a] X.env=[(false,AC a X.env)]:=by rfl) (m:AX [] X.env=[]:=by rfl):
  JI X (.Tuple elts G tpos) (.Call (.Name "enumerate" p) [a] [] pos) (tI X.K M H0 (Df f)):=⟨have l:=l.h;by
 intro d s n H Q I ⟨i,ds,R,e,q⟩
 unfold Df at e
 split at e
 ·next N ex=>
  cases e
  cases o:f i with
  |none=>rw[o]at ex;cases ex
  |some d1=>
   rw[o]at ex
   have t:=Ej l BK (by rw[x,m])
   refine Call_ (FU I J L jq (Jn (Bb (t pos d s n H (λvs u=>∃S g,vs=[.ref (Bn.ad S)]/\Am H u/\Ad X.K (Nf M i n) u N g/\(∀N2 y,Step M (Nf M i n) N2 u y->S.sq X.K y g)) I ?_) λg v ⟨vs,A,j,O,q1⟩=>?_) x rfl))
   ·refine⟨i,d1,R,o,λT A z1 q1=>?_⟩
    obtain⟨S,g,w,c,k⟩:=q1.src ex
    exact⟨S,g,by rw[w],z1,c,k⟩
   ·obtain⟨S,U,w,z,c,k⟩:=q1
    subst w
    cases O with
    |cons r Y=>
     cases Y
     cases r
     obtain⟨its,T,B,_⟩:=S.of j (k _ _ Step.refl)
     refine jl B λh' a1 a4 kp=>wpAny_pyIter_enum a1 ?_
     refine⟨_,_,_,_,A,rfl,j.kept (t':=v.toks) kp,jp S v.heap.objs.size (S.lt B),⟨⟨_,a1⟩,a4⟩,λb C=>?_,q _ _ z (jr c k)⟩
     have E:v.heap.objs.size<=b:=by
      simp only[Bv,G8,or_false]at C
      rcases C with rfl|rfl<;>(show @LE.le Nat _ _ _;omega)
     exact j.fpOk E (j.hok.fresh E)
 ·cases e⟩
end
abbrev T3:=KT×V×V
def DM:List T3->List V
 |[]=>[]
 |t::r=>t.2.1::t.2.2::DM r
def CW:List T3->KT->Option V
 |[],_=>none
 |t::r,k=>if t.1=k then some t.2.2 else CW r k
def FL:List T3->KT->V->List T3
 |[],_,_=>[]
 |t::r,k,v=>(if t.1=k then(t.1,t.2.1,v)else t)::FL r k v
def DN(a:List T3)(k:KT)(b v:V):List T3:=if(CW a k).isSome=true then FL a k v else a++[(k,b,v)]
theorem V0(k:KT)(v:V):∀a:List T3,(FL a k v).map (·.1)=a.map (·.1)
 |[]=>rfl
 |t::r=>by
  simp only[FL,AY,V0 k v r]
  split<;>rfl
theorem V1{k:KT}:∀{a:List T3},CW a k=none->k∉a.map (·.1)
 |[],_=>by simp
 |t::r,h=>by
  unfold CW at h
  split at h
  ·cases h
  ·next e=>
   simp only[AY,Bv,not_or]
   exact⟨λz=>e z.symm,V1 h⟩
theorem J7{c:List T3}{k:KT}{f v:V}(h:(c.map (·.1)).Nodup):((DN c k f v).map (·.1)).Nodup:=by
 unfold DN
 split
 ·rw[V0];exact h
 ·next e=>
  rw[D9,List.nodup_append]
  refine⟨h,by simp,λa g b d=>?_⟩
  have i:CW c k=none:=by
   cases j:CW c k with
   |none=>rfl
   |some x=>rw[j]at e;exact absurd rfl e
  simp only[AY,Dd,GC]at d
  subst d
  rintro rfl
  exact V1 i g
theorem V2(k:KT)(v:V):∀a:List T3,(FL a k v).length=a.length
 |[]=>rfl
 |t::r=>by simp[FL,V2 k v r]
theorem QG(a:List T3)(k:KT)(b v:V):(DN a k b v).length<=a.length+1:=by
 unfold DN
 split
 ·rw[V2];omega
 ·simp
theorem Hf{a:At}{u:Aa}(h:RelV (Ff a) u):Hq a u=true:=by
 cases a with
 |non=>cases h;rfl
 |int i=>obtain⟨t,rfl⟩:=h;exact dj i t
 |str x=>obtain⟨t,rfl⟩:=h;exact dm x t
theorem js{a:At}{u:Aa}(h:Hq a u=true):RelV (Ff a) u:=by
 rcases Hr h with⟨rfl,rfl⟩|⟨i,t,rfl,rfl⟩|⟨x,t,rfl,rfl⟩
 ·rfl
 ·exact⟨t,rfl⟩
 ·exact⟨t,rfl⟩
abbrev RA:List T3->List (At×Aa)->Prop:=Paired λt u=>t.1=.at u.1/\t.2.1=Ff u.1/\RelV t.2.2 u.2
theorem V3{P:A4}{w:Aj}:∀{d:List T3}{es:List BH},Il w (d.map (·.1)) (DM d) es->(∀t∈d,∃a,t.1=KT.at a) ->
  ∃us,RA d us/\Pairs (Z7 P w) es us/\∀e∈es,∃k,(Z7 P w).is k e.key=true/\e.hash=(Z7 P w).hash k
 |[],es,h,_=>by
  obtain⟨_,rfl⟩:=h
  exact⟨[],.nil,.nil,λ_ z=>nomatch z⟩
 |t::r,es,h,m=>by
  obtain⟨E,v,q,e,o,f,p,g,s,i,b,u⟩:=h
  obtain⟨a,n⟩:=m t BA
  simp only[DM,Lx]at f
  obtain⟨f,j,c⟩:=f
  subst f j p c
  dsimp only at i b
  rw[n]at i b
  obtain⟨us,x,y,A⟩:=V3 (P:=P) u λt B=>m t (Bt _ B)
  have b:t.2.1=Ff a:=b
  rw[b]at g
  refine⟨(a,e.val)::us,.cons ⟨n,b,s⟩ x,.cons (Hf g) rfl y,λC l=>?_⟩
  rcases Bv.mp l with rfl|l
  ·exact⟨a,Hf g,i⟩
  ·exact A C l
theorem V4{P:A4}{w:Aj}:∀{b:List T3}{us:List (At×Aa)}{es:List BH},RA b us->Pairs (Z7 P w) es us->(∀e∈es,∃k,(Z7 P w).is k e.key=true/\e.hash=(Z7 P w).hash k) ->
  Il w (b.map (·.1)) (DM b) es
 |_,_,_,.nil,.nil,_=>⟨rfl,rfl⟩
 |t::r,(a,u)::us,e::es,.cons ⟨c,d,h⟩ i,.cons f j l,g=>by
  refine⟨t.2.1,t.2.2,DM r,e,es,rfl,rfl,?_,?_,?_,?_,V4 i l λe m=>g e (Bt _ m)⟩
  ·rw[d];exact js f
  ·rw[j];exact h
  ·obtain⟨k,q1,q2⟩:=g e BA
   have:k=a:=(Z7 P w).inj _ _ _ q1 f
   subst this
   dsimp only;rw[c];exact q2
  ·dsimp only;rw[c];exact d
theorem RA.val:∀{b:List T3}{us:List (At×Aa)},RA b us->∀a,Ee (CW b (.at a)) (valueAt us a)
 |_,_,.nil,_=>HL
 |t::r,u::us,.cons ⟨c,h,d⟩ f,a=>by
  have g:=RA.val f a
  unfold CW valueAt
  rw[c,List.find?_cons]
  by_cases e:u.1=a
  ·rw[if_pos (by rw[e])];simp only[e,decide_true];exact d
  ·rw[if_neg (λz=>e (KT.at.inj z))];simp only[e,decide_false];exact g
theorem Ee.isS:∀{o:Option V}{u:Option Aa},Ee o u->o.isSome=u.isSome
 |some _,some _,_=>rfl
 |none,none,_=>rfl
 |some _,none,h=>h.elim
 |none,some _,h=>h.elim
theorem RA.rep{a:At}{v:V}{u:Aa}(d:RelV v u):∀{f:List T3}{us:List (At×Aa)},RA f us->RA (FL f (.at a) v) (us.map λc=>if c.1=a then(c.1,u)else c)
 |_,_,.nil=>.nil
 |t::r,w::us,.cons ⟨b,g,h⟩ i=>by
  have j:=RA.rep (a:=a) d i
  unfold FL
  rw[AY]
  refine .cons ?_ j
  by_cases e:w.1=a
  ·rw[if_pos (by rw[b,e]),if_pos e];exact⟨b,g,d⟩
  ·rw[if_neg (λz=>e (KT.at.inj (b.symm.trans z))),if_neg e];exact⟨b,g,h⟩
theorem Paired.snoc'{a b:Type}{F:a->b->Prop}{x:a}{y:b}(h:F x y):∀{l:List a}{m:List b},Paired F l m->Paired F (l++[x]) (m++[y])
 |_,_,.nil=>.cons h .nil
 |_,_,.cons r t=>.cons r (Paired.snoc' h t)
theorem jt{us:List (At×Aa)}{a:At}:(us.any λb=>decide (b.1=a))=(valueAt us a).isSome:=by
 unfold valueAt
 rw[Option.isSome_map]
 induction us with
 |nil=>rfl
 |cons x r c=>
  rw[List.any_cons,List.find?_cons]
  cases decide (x.1=a)with
  |true=>rfl
  |false=>simpa using c
theorem RA.put{b:List T3}{us:List (At×Aa)}{a:At}{v:V}{u:Aa}(h:RA b us)(c:RelV v u):RA (DN b (.at a) (Ff a) v) (stored us a u):=by
 unfold DN stored
 rw[jt,(h.val a).isS]
 by_cases e:(valueAt us a).isSome=true
 ·rw[if_pos e,if_pos e];exact h.rep c
 ·rw[if_neg e,if_neg e];exact Paired.snoc' ⟨rfl,rfl,c⟩ h
theorem RA.fst:∀{a:List T3}{us:List (At×Aa)},RA a us->a.map (·.1)=(us.map (·.1)).map KT.at
 |_,_,.nil=>rfl
 |t::r,u::us,.cons ⟨b,_,_⟩ c=>by rw[AY,AY,AY,b,RA.fst c]
abbrev RT:List T3->List (List At×Ac×Aa)->Prop:=Paired λt u=>t.1=.tup u.1/\t.2.1=.ref u.2.1/\RelV t.2.2 u.2.2
theorem V5{P:A4}{w:Aj}:∀{b:List T3}{es:List BH},Il w (b.map (·.1)) (DM b) es->(∀t∈b,∃l,t.1=KT.tup l) ->
  ∃us,RT b us/\es=us.map (entryOfKey (BI (Z7 P w)))
 |[],es,h,_=>by
  obtain⟨_,rfl⟩:=h
  exact⟨[],.nil,rfl⟩
 |t::r,es,h,i=>by
  obtain⟨E,v,q,e,n,c,o,j,s,d,f,u⟩:=h
  obtain⟨l,k⟩:=i t BA
  simp only[DM,Lx]at c
  obtain⟨c,g,a⟩:=c
  subst c g o a
  dsimp only at d f
  rw[k]at d f
  obtain⟨us,x,y⟩:=V5 (P:=P) u λt z=>i t (Bt _ z)
  obtain⟨p,m⟩:=(f:∃p,t.2.1=.ref p)
  rw[m]at j
  obtain⟨A,B,C⟩:=e
  cases(j:B=Cn p)
  refine⟨(l,p,C)::us,.cons ⟨k,m,s⟩ x,?_⟩
  rw[AY,<- y]
  have:A=(KT.tup l).hash w:=d
  rw[this];rfl
theorem V6{P:A4}{w:Aj}:∀{a:List T3}{us:List (List At×Ac×Aa)},RT a us->Il w (a.map (·.1)) (DM a) (us.map (entryOfKey (BI (Z7 P w))))
 |_,_,.nil=>⟨rfl,rfl⟩
 |t::r,u::us,.cons ⟨b,c,d⟩ e=>by
  refine⟨t.2.1,t.2.2,DM r,_,_,rfl,rfl,?_,d,?_,?_,V6 e⟩
  ·rw[c];rfl
  ·dsimp only;rw[b];rfl
  ·dsimp only;rw[b];exact⟨_,c⟩
theorem RT.val:∀{a:List T3}{us:List (List At×Ac×Aa)},RT a us->∀l,Ee (CW a (.tup l)) ((atKey us l).map (·.2))
 |_,_,.nil,_=>HL
 |t::r,u::us,.cons ⟨b,g,c⟩ d,l=>by
  have f:=RT.val d l
  unfold CW atKey
  rw[b,List.find?_cons]
  by_cases e:u.1=l
  ·rw[if_pos (by rw[e])];simp only[e,decide_true];exact c
  ·rw[if_neg (λz=>e (KT.tup.inj z))];simp only[e,decide_false];exact f
theorem RT.rep{l:List At}{v:V}{u:Aa}(b:RelV v u):∀{c:List T3}{us:List (List At×Ac×Aa)},RT c us->RT (FL c (.tup l) v) (us.map (putAt l u))
 |_,_,.nil=>.nil
 |t::r,w::us,.cons ⟨a,d,f⟩ g=>by
  have h:=RT.rep (l:=l) b g
  unfold FL
  rw[AY]
  refine .cons ?_ h
  unfold putAt
  by_cases e:w.1=l
  ·rw[if_pos (by rw[a,e]),if_pos e];exact⟨a,d,b⟩
  ·rw[if_neg (λz=>e (KT.tup.inj (a.symm.trans z))),if_neg e];exact⟨a,d,f⟩
theorem RT.put{a:List T3}{us:List (List At×Ac×Aa)}{l:List At}{p:Ac}{v:V}{u:Aa}(h:RT a us)(b:RelV v u):RT (DN a (.tup l) (.ref p) v) (storedH us l p u):=by
 unfold DN storedH
 have c:=(h.val l).isS
 rw[Option.isSome_map]at c
 rw[c]
 by_cases e:(atKey us l).isSome=true
 ·rw[if_pos e,if_pos e];exact h.rep b
 ·rw[if_neg e,if_neg e];exact Paired.snoc' ⟨rfl,rfl,b⟩ h
theorem RT.fst:∀{a:List T3}{us:List (List At×Ac×Aa)},RT a us->a.map (·.1)=(us.map (·.1)).map KT.tup
 |_,_,.nil=>rfl
 |t::r,u::us,.cons ⟨b,_,_⟩ c=>by rw[AY,AY,AY,b,RT.fst c]
theorem QH{c d:Type}{f:c->d}(e:∀a b,f a=f b->a=b):∀{l:List c},(l.map f).Nodup->l.Nodup
 |[],_=>List.nodup_nil
 |a::l,h=>by
  rw[AY,E2]at h
  rw[E2]
  exact⟨λz=>h.1 (List.mem_map.mpr ⟨a,z,rfl⟩),QH e h.2⟩
def DX(K:As)(H:Hp):KT->V->Prop
 |.at a,v=>v=Ff a
 |.tup l,v=>∃p,v=.ref p/\BV K H p (l.map Ff)
theorem V7{P:A4}{w:Aj}:∀{a:List At}{us:List Aa},Ap (a.map Ff) us->ItemsAre (Z7 P w) a us
 |[],_,r=>by rw[Dd]at r;cases r;exact .nil
 |k::a,_,r=>by
  rw[AY]at r
  cases r with
  |cons h t=>exact .cons (Hf h) (V7 t)
def GF:KT->List T3->Prop
 |.at _,b=>∀t∈b,∃a,t.1=KT.at a
 |.tup _,b=>∀t∈b,∃l,t.1=KT.tup l
def Cp(K:As)(H:Hp)(a:Ac)(b:List T3):Prop:=Rd H a (.dct (b.map (·.1)) (DM b))/\∀t∈b,DX K H t.1 t.2.1
section
variable{X:Cx}{pins:List (Ac×AM)}{σ:St}{H:Hp}{s:Ab}{a p:Ac}{y v:V}{u r:Aa}{o:Option V}{A:Ak}{E:Aa->Ab->Prop}{tr:List T3}{k:KT}
theorem IJ{l:List At}(I:Inv X pins σ H s)(h:BV X.K H p (l.map Ff)):(BI (Z7 X.prog X.w)).is s.heap l p:=by
 obtain⟨a,r,⟨o,b,c,n,d⟩,_⟩:=I.tuple h
 exact⟨o,a.toArray,n,b,c,d,by simpa using V7 r⟩
theorem J8(I:Inv X pins σ H s)(h:Cp X.K H a tr)(c:∀t∈tr,∃a,t.1=KT.at a):tr.length<=AG/\(a==Fx)=false/\(tr.map (·.1)).Nodup/\∃us,RA tr us/\s.heap.DictOf (Z7 X.prog X.w) a us:=by
 obtain⟨z,d,nd,o,f,g,i,j,k,l⟩:=h.1.ok I.hok
 obtain⟨us,b,m,n⟩:=V3 (P:=X.prog) l c
 refine⟨by simpa using z,d,nd,us,b,o,f,g,i,j,k,λe p=>n e (by simpa using p),m,?_⟩
 rw[b.fst]at nd
 exact QH (λ_ _ z=>KT.at.inj z) nd
theorem J9(I:Inv X pins σ H s)(h:Cp X.K H a tr)(j:∀t∈tr,∃l,t.1=KT.tup l):tr.length<=AG/\(a==Fx)=false/\(tr.map (·.1)).Nodup/\∃us,RT tr us/\s.heap.DictOfH (BI (Z7 X.prog X.w)) a us:=by
 obtain⟨z,k,nd,o,n,d,r,v,y,A⟩:=h.1.ok I.hok
 obtain⟨us,f,B⟩:=V5 (P:=X.prog) A j
 have c:=nd
 rw[f.fst]at c
 refine⟨by simpa using z,k,nd,us,f,o,n,d,r,v,y,B,λx b=>?_,QH (λ_ _ z=>KT.tup.inj z) c⟩
 have all:∀{l:List T3} {m:List (List At×Ac×Aa)},RT l m->(∀t∈l,DX X.K H t.1 t.2.1)->∀x∈m,(BI (Z7 X.prog X.w)).is s.heap x.1 x.2.1:=by
  intro l m q
  induction q with
  |nil=>intro _ x b;exact nomatch b
  |@cons t u J us g L C=>
   intro i x b
   rcases Bv.mp b with e|b
   ·subst e
    have:=i t BA
    rw[g.1,g.2.1]at this
    obtain⟨p,d,E⟩:=this
    cases d
    exact IJ I E
   ·exact C (λt G=>i t (Bt _ G)) x b
 exact all f h.2 x b
theorem Ee.to:∀{v:V}{o:Option Aa},Ee (some v) o->∃w,o=some w/\RelV v w
 |_,some w,h=>⟨w,rfl,h⟩
 |_,none,h=>h.elim
theorem ju{Q:Aa->Ab->Prop}(t:A.units+1<AF)(I:Inv X pins σ H s)(h:Cp X.K H a tr)(m:GF k tr)(n:DX X.K H k y)(o:RelV y u)(r:CW tr k=some v)(q:∀e s',Inv X pins σ H s'->RelV v e->Q e s'):
  wpAny (Af X.prog X.w) A (getItem (.ref a) u) Q E s:=by
 cases k with
 | «at» b=>
  cases n
  obtain⟨z,hd,nd,x,c,g⟩:=J8 I h m
  have f:=c.val b
  rw[r]at f
  obtain⟨e,i,d⟩:=f.to
  exact wpAny_getItem_of (knd:=Z7 X.prog X.w) (Hf o) g.mapOf i (q e _ (I.tok _) d)
 |tup l=>
  obtain⟨p,C,G⟩:=n
  subst C
  cases(show u=Cn p from o)
  obtain⟨z,hd,nd,x,c,g⟩:=J9 I h m
  have f:=c.val l
  rw[r]at f
  obtain⟨e,i,d⟩:=f.to
  obtain⟨L,J,j⟩:=Option.map_eq_some_iff.mp i
  refine wpAny_getItem_heap (Ly t) (IJ I G) g J ?_
  rw[j]
  exact q e _ (I.tok _) d
theorem jv{Q:Aa->Ab->Prop}(j:A.units+1<AF)(I:Inv X pins σ H s)(h:Cp X.K H a tr)(e:GF k tr)(f:DX X.K H k y)(g:RelV y u)(q:∀s',Inv X pins σ H s'->Q (.bool (CW tr k).isSome) s'):
  wpAny (Af X.prog X.w) A (Eh .In u (.ref a)) Q E s:=by
 cases k with
 | «at» b=>
  cases f
  obtain⟨z,hd,nd,m,c,d⟩:=J8 I h e
  refine wpAny_in_of (knd:=Z7 X.prog X.w) (Hf g) hd d.mapOf ?_
  rw[<- (c.val b).isS]
  exact q _ (I.tok _)
 |tup l=>
  obtain⟨p,o,r⟩:=f
  subst o
  cases(show u=Cn p from g)
  obtain⟨z,hd,nd,m,c,d⟩:=J9 I h e
  refine wpAny_in_heap (Ly j) (IJ I r) hd d ?_
  have i:=(c.val l).isS
  rw[Option.isSome_map]at i
  rw[<- i]
  exact q _ (I.tok _)
theorem Ka{h':Al}{t':Nat}{ob:HO}(I:Inv X pins σ H s)(c:KG (H a))(d:Dr a s.heap h')(f:∃q,h'.get? a=some q)(new:Bl X.prog X.w (A3 H a ob) h' a ob):
  Inv X pins σ (A3 H a ob) {s with heap:=h',toks:=t' }:=
 I.write (x:=a) (e:=a) c (.inl rfl) (λb q g z=>(d.2 b g).trans z) f new
def DC(tr:List T3):HO:=.dct (tr.map (·.1)) (DM tr)
theorem QI{P:A4}{w:Aj}{H':Hp}{h':Al}{us:List (At×Aa)}(z:tr.length<=AG)(hd:(a==Fx)=false)(nd:(tr.map (·.1)).Nodup)(b:RA tr us)(dd:h'.DictOf (Z7 P w) a us):Bl P w H' h' a (DC tr):=by
 obtain⟨o,c,d,f,g,h,i,j,l⟩:=dd
 exact⟨by simpa using z,hd,nd,o,c,d,f,g,h,V4 b j λe k=>i e (by simpa using k)⟩
theorem QJ{P:A4}{w:Aj}{H':Hp}{h':Al}{us:List (List At×Ac×Aa)}(z:tr.length<=AG)(hd:(a==Fx)=false)(nd:(tr.map (·.1)).Nodup)(b:RT tr us)(dd:h'.DictOfH (BI (Z7 P w)) a us):Bl P w H' h' a (DC tr):=by
 obtain⟨o,c,d,e,f,g,h,i,j⟩:=dd
 refine⟨by simpa using z,hd,nd,o,c,d,e,f,g,?_⟩
 rw[h]
 exact V6 b
theorem jw{Q:Unit->Ab->Prop}(N:A.units+1<AF)(I:Inv X pins σ H s)(e:H a=some (DC tr))(f:∀t∈tr,DX X.K H t.1 t.2.1)(G:GF k tr)(J:DX X.K H k y)(L:RelV y u)(M:RelV v r)(Y:tr.length<AG)
  (q:∀s',Inv X pins σ (A3 H a (DC (DN tr k y v))) s'->Q () s'):wpAny (Af X.prog X.w) A (setItem (.ref a) u r) Q E s:=by
 have h:Cp X.K H a tr:=⟨.inl e,f⟩
 have g:(DN tr k y v).length<=AG:=by have:=QG tr k y v;omega
 cases k with
 | «at» b=>
  cases J
  obtain⟨z,hd,nd,i,c,j⟩:=J8 I h G
  have m:i.length<=AG:=by rw[<- Gj c];exact z
  refine wpAny_setItem_pairs (knd:=Z7 X.prog X.w) (hsz:=m) (Hf L) j λo d x=>q _ ?_
  have B:∃q,o.get? a=some q:=let⟨q,_,_,C,_⟩:=d;⟨q,C⟩
  exact Ka I (by rw[e];exact HL) x B (QI g hd (J7 nd) (c.put M) d)
 |tup l=>
  obtain⟨p,T,U⟩:=J
  subst T
  cases(show u=Cn p from L)
  obtain⟨z,hd,nd,i,c,j⟩:=J9 I h G
  have m:i.length<=AG:=by rw[<- Gj c];exact z
  refine wpAny_setItem_heap (hsz:=m) (Ly N) (IJ I U) j λo d x=>q _ ?_
  have B:∃q,o.get? a=some q:=let⟨q,_,_,C,_⟩:=d;⟨q,C⟩
  exact Ka I (by rw[e];exact HL) x B (QJ g hd (J7 nd) (c.put M) d)
end
end L2
namespace PySem
section
variable{prog:A4}{w:Aj}{K:Type}[DecidableEq K]{knd:HeapKind prog w K}{A:Ak}{E:Aa->Ab->Prop}{s:Ab}
theorem jx{d a:Ac}{xs:List (K×Ac×Aa)}{k:K}{v:Aa}{Q:Aa->Ab->Prop}(n:knd.room A)(b:knd.is s.heap k a)(t:s.heap.DictOfH knd d xs)(hsz:xs.length<=AG)
  (u:∀p,atKey xs k=some p->Q p.2 {s with toks:=s.toks+knd.draws k})
  (z:atKey xs k=none->∀h',h'.DictOfH knd d (storedH xs k a v)->Dr d s.heap h'->Q v {s with heap:=h',toks:=s.toks+knd.draws k}):
  wpAny (Af prog w) A (dictSetDefault d (.ref a) v) Q E s:=by
 obtain⟨o,G,B,g,C,hd,l,h,m⟩:=t
 unfold dictSetDefault
 try with_reducible refine Ei ?_
 refine Ag (knd.pyHash n b ?_)
 refine Ag (wpAny_dictFind_heap (s:={s with toks:=s.toks+knd.draws k}) n b g hd l h m ?_ ?_)
 ·intro c
  have i:k∉xs.map (·.1):=not_mem_keys_of_get c
  refine Ag (FK (Ag (wpAny_updateDictKeys (hz:=by have e:=size_of_entries l;omega) (s:={s with toks:=s.toks+knd.draws k}) g hd (AE (z (atKey_none_of_get c) _ ⟨_,_,B+1,Lv _ g (Obj.isFreed_of_dict (Obj.data_mapDictKeys hd _)),
   C.mapDictKeys _,Obj.data_mapDictKeys hd _,?_,?_,?_⟩ (IH ..))))))
  ·rw[storedH_new (atKey_none_of_get c)]
   simp[l,entryOfKey]
  ·rw[storedH_new (atKey_none_of_get c)]
   intro x f
   rcases List.mem_append.mp f with f|f
   ·exact knd.keeps (h x f) g hd (IH ..)
   ·simp only[GC]at f
    subst f
    exact knd.keeps b g hd (IH ..)
  ·rw[storedH_new (atKey_none_of_get c)]
   rw[D9,List.nodup_append]
   refine⟨m,by simp,?_⟩
   intro x f y q
   simp only[AY,Dd,GC]at q
   subst q
   exact λe=>i (e ▸ f)
 ·intro j p r
  refine Ag (wpAny_dictEntries (s:={s with toks:=s.toks+knd.draws k}) g hd ?_)
  rw[entry_at l j,r]
  exact Ag (FK (AE (u p (atKey_of_get m r))))
theorem jy{k:K}{a:Ac}(d:Ac)(hd:(d==Fx)=false)(dflt:Aa):
  MeetsIn prog w (Aw.«dict.setdefault» ⟨[.ref d,.ref a,dflt],[]⟩) (λA R s=>knd.room A.in1/\∃xs,knd.is s.heap k a/\s.heap.DictOfH knd d xs/\xs.length<=AG /\
   (∀p,atKey xs k=some p->R (.ok (.ret p.2)) {s with toks:=s.toks+knd.draws k}) /\
   (atKey xs k=none->∀h',h'.DictOfH knd d (storedH xs k a dflt)->Dr d s.heap h'->R (.ok (.ret dflt)) {s with heap:=h',toks:=s.toks+knd.draws k})):=
 .of_wp λA R s ⟨g,xs,b,f,h,i,j⟩=>by
  unfold Aw.«dict.setdefault»
  refine Ag ?_
  unfold Builtin.Dict.keyAndDefault
  refine Ag (wpAny_notOrdered_dict f.typeIs ?_)
  show wpAny _ _ (AQ (d,Cn a,some dflt)) _ _ s
  refine AE ?_
  show wpAny _ _ (if(d==Fx)=true then _ else(dictSetDefault d (.ref a) dflt >>= _)) _ _ s
  rw[if_neg (by rw[hd];exact Hs)]
  exact Ag (jx g b f h (λp l=>AE ⟨p.2,rfl,i p l⟩) λm h' c e=>AE ⟨dflt,rfl,j m h' c e⟩)
end
end PySem
namespace L2
open PySem PySem.Spec PyProof.Rows
def V8(K:As):R2:=λx y H Q=>∃a b k v,x=.ref a/\Cp K H a b/\GF k b/\DX K H k y/\CW b k=some v/\Q v H
def V9(K:As)(neg:Bool):R2:=λx y H Q=>∃a b k,y=.ref a/\Cp K H a b/\GF k b/\DX K H k x/\Q (.bl (neg != (CW b k).isSome)) H
def jz(K:As):Mz:=λo i v H Q=>∃a b k,o=.ref a/\H a=some (DC b)/\(∀t∈b,DX K H t.1 t.2.1)/\GF k b/\DX K H k i/\b.length<AG/\Q (A3 H a (DC (DN b k i v)))
def jA(K:As):V->List V->Hp->VK->Prop:=λx c H Q=>∃a b k y z,x=.ref a/\c=[y,z]/\H a=some (DC b)/\(∀t∈b,DX K H t.1 t.2.1)/\GF k b/\DX K H k y/\b.length<AG /\
 (∀v,CW b k=some v->Q v H)/\(CW b k=none->Q z (A3 H a (DC (DN b k y z))))
theorem Cp.typeIs{X:Cx}{b:List (Ac×AM)}{σ:St}{H:Hp}{s:Ab}{a:Ac}{d:List T3}(I:Inv X b σ H s)(h:Cp X.K H a d):s.TypeIs (.ref a) "dict":=by
 obtain⟨_,_,_,o,_,_,e,c,_⟩:=h.1.ok I.hok
 exact⟨o,e,c.1⟩
section
variable{X:Cx}
theorem jB(t:X.A.units+64<AF):F1 X (V8 X.K):=by
 intro b slice c s g H x y v u Q I i j h l
 obtain⟨a,B,k,z,rfl,hd,m,n,o,q⟩:=h
 cases i
 have f:=hd.typeIs I
 unfold subscriptTail
 refine Ag ?_
 rw[getitemInPython_of_ne f.not_modules]
 refine Ag (wpAny_specialOf f PySem.F.slot_dict_getitem.lookup ?_)
 have fin:wpAny (Af X.prog X.w) X.A (subscripted slice false (.ref a) u) (λr d=>wpAny (Af X.prog X.w) X.A (letTemporaryGo b (.ref a) r >>= λ_=>AQ r) (EP X c g Q) X.xe d) X.xe s:=by
  rw[l]
  exact wpAny_operating (ju (by omega) I hd m n j o λC E p e=>Ag (wpAny_letTemporaryGo (AE ⟨z,H,p,e,q⟩)))
 first
  |exact AE (Ag fin)
  |exact Ag (AE (Ag fin))
  |exact Ag fin
theorem Wa(j:X.A.units+64<AF):Ct X (Eh .In) (V9 X.K false):=by
 intro b s l H x y v u Q I c d h
 obtain⟨a,e,k,rfl,hd,f,g,q⟩:=h
 cases d
 exact jv (by omega) I hd f g c λm i=>⟨.bl (CW e k).isSome,H,i,rfl,by simpa using q⟩
theorem jC(p:X.A.units+64<AF):Um X (jz X.K):=by
 intro c s r H o i v t w u Q I d f g h
 obtain⟨a,x,k,rfl,e,b,j,l,m,q⟩:=h
 cases d
 exact jw (by omega) I e b j l f g m λy n=>⟨_,n,q⟩
theorem jD(hu:X.A.units+64<AF):Gq X "dict.setdefault" (jA X.K):=by
 intro O s σ H x xs v m Q I rx rs h
 obtain⟨a,i,k,y,z,rfl,rfl,e,u,T,U,hl,q1,q2⟩:=h
 cases rx
 obtain⟨u1,Y,rfl,ry,t⟩:=rs.two
 have hd:Cp X.K H a i:=⟨.inl e,u⟩
 have n:(DN i k y z).length<=AG:=by have:=QG i k y z;omega
 cases k with
 | «at» b=>
  cases U
  obtain⟨B,o,nd,m,d,r⟩:=J8 I hd T
  have C:m.length<=AG:=by rw[<- Gj d];exact B
  have c:=d.val b
  refine call_meetsIn Wb r.typeIs PySem.F.entry_dict_setdefault (PySem.F.args_dict_setdefault_3 _ _ _) (kt_meets_setdefault (Z7 X.prog X.w) a (Hf ry) o Y)
   ⟨m,r,C,λv' E=>?_,λG J g j=>?_⟩
  ·rw[E]at c
   cases f:CW i (.at b)with
   |none=>rw[f]at c;exact c.elim
   |some w=>rw[f]at c;exact⟨w,H,I.tok _,c,q1 w f⟩
  ·rw[G]at c
   cases f:CW i (.at b)with
   |some w=>rw[f]at c;exact c.elim
   |none=>
    have L:∃q,J.get? a=some q:=let⟨q,_,_,M,_⟩:=g;⟨q,M⟩
    exact⟨z,_,Ka I (by rw[e];exact HL) j L (QI n o (J7 nd) (d.put t) g),t,q2 f⟩
 |tup l=>
  obtain⟨p,ep,sq⟩:=U
  subst ep
  cases(show u1=Cn p from ry)
  obtain⟨B,o,nd,m,d,r⟩:=J9 I hd T
  have C:m.length<=AG:=by rw[<- Gj d];exact B
  have c:=d.val l
  refine call_meetsIn Wb r.typeIs PySem.F.entry_dict_setdefault (PySem.F.args_dict_setdefault_3 _ _ _) (jy (knd:=BI (Z7 X.prog X.w)) (k:=l) a o Y)
   ⟨Ly (by omega),m,IJ I sq,r,C,λp' N=>?_,λG J g j=>?_⟩
  ·rw[N]at c
   cases f:CW i (.tup l)with
   |none=>rw[f]at c;exact c.elim
   |some w=>rw[f]at c;exact⟨w,H,I.tok _,c,q1 w f⟩
  ·rw[G]at c
   cases f:CW i (.tup l)with
   |some w=>rw[f]at c;exact c.elim
   |none=>
    have L:∃q,J.get? a=some q:=let⟨q,_,_,M,_⟩:=g;⟨q,M⟩
    exact⟨z,_,Ka I (by rw[e];exact HL) j L (QJ n o (J7 nd) (d.put t) g),t,q2 f⟩
theorem Inv.big(I:Inv X a σ H s):Fx<s.heap.objs.size:=by
 have h:C5<s.heap.objs.size:=(I.mod.glob.keeps I.bk).lt
 exact Hy (by decide) h
theorem Hg{pos:Bc}:PE X (.Dict [] [] pos) (λ_ H Q=>∀p,H p=none->Q (.ref p) (A3 H p (DC []))):=λb s c H Q I h=>
 wpAny_Dict_empty ⟨.ref s.heap.objs.size,_,I.laid (a:=s.heap.objs.size) (o:=DC []) (t':=s.toks) (λ_ _ q=>Bk _ q) (BB _)
  ⟨Hv _,beq_eq_false_iff_ne.mpr (Br (Cs I.big)),List.nodup_nil,_,#[],0,B0 _ rfl,⟨rfl,rfl,rfl⟩,rfl,rfl,rfl⟩,rfl,h _ (I.hok.fresh (BB _))⟩
end
def IK:D->Option At
 |.non=>some .non
 |.int i=>some (.int i)
 |.str x=>some (.str x)
 |_=>none
def Hh:List D->Option (List At)
 |[]=>some []
 |d::r=>(IK d).bind λa=>(Hh r).map (a::·)
def Dl:D->Option KT
 |.tup l=>(Hh l).map KT.tup
 |d=>(IK d).map KT.at
def aD:At->D
 |.non=>.non
 |.int i=>.int i
 |.str x=>.str x
def kD:KT->D
 |.at a=>aD a
 |.tup l=>.tup (l.map aD)
theorem Wc{d:D}{a:At}(h:IK d=some a):d=aD a:=by
 unfold IK at h
 split at h<;>cases h<;>rfl
theorem Wd:∀{l:List D}{b:List At},Hh l=some b->l=b.map aD
 |[],_,h=>by cases h;rfl
 |d::r,b,h=>by
  unfold Hh at h
  cases c:IK d with
  |none=>rw[c]at h;cases h
  |some a=>
   rw[c]at h
   cases e:Hh r with
   |none=>rw[e]at h;cases h
   |some bs=>rw[e]at h;cases h;rw[AY,<- Wc c,<- Wd e]
theorem IL{d:D}{k:KT}(h:Dl d=some k):d=kD k:=by
 unfold Dl at h
 split at h
 ·next l=>
  cases b:Hh l with
  |none=>rw[b]at h;cases h
  |some c=>rw[b]at h;cases h;rw[Wd b];rfl
 ·cases b:IK d with
  |none=>rw[b]at h;cases h
  |some a=>rw[b]at h;cases h;rw[Wc b];rfl
theorem jE(a:At):IK (aD a)=some a:=by cases a<;>rfl
theorem We:∀(l:List At),Hh (l.map aD)=some l
 |[]=>rfl
 |a::l=>by rw[AY];unfold Hh;rw[jE,We l];rfl
@[simp] theorem QK(k:KT):Dl (kD k)=some k:=by
  cases k with
  | «at» a=>cases a<;>rfl
  |tup l=>show(Hh (l.map aD)).map KT.tup=_;rw[We];rfl
@[simp] theorem qO:Dl .non=some (.at .non):=rfl
@[simp] theorem qP(i:Int):Dl (.int i)=some (.at (.int i)):=rfl
@[simp] theorem qQ(x:Ae):Dl (.str x)=some (.at (.str x)):=rfl
theorem jF(a:At):P7 (aD a)=a:=by cases a<;>rfl
theorem jG(k:KT):P8 (kD k)=k:=by
 cases k with
 | «at» a=>cases a<;>rfl
 |tup l=>
  unfold kD P8
  simp only[Dg,KT.tup.injEq]
  induction l with
  |nil=>rfl
  |cons a l b=>rw[AY,b];simp[jF]
abbrev Bx:=List (KT×D)
def Zz:Bx->List D
 |[]=>[]
 |p::r=>kD p.1::p.2::Zz r
def DY:List D->Option Bx
 |[]=>some []
 |k::v::r=>(Dl k).bind λa=>(DY r).map ((a,v)::·)
 |_=>none
@[simp] theorem Kb:∀kvs:Bx,DY (Zz kvs)=some kvs
  |[]=>rfl
  |p::r=>by unfold Zz DY;rw[QK,Kb r];rfl
@[simp] theorem qR:DY []=some []:=rfl
theorem HM:∀{xs:List D}{kvs:Bx},DY xs=some kvs->xs=Zz kvs
 |[],_,h=>by cases h;rfl
 |[_],_,h=>by cases h
 |k::v::r,kvs,h=>by
  unfold DY at h
  cases a:Dl k with
  |none=>rw[a]at h;cases h
  |some c=>
   rw[a]at h
   cases b:DY r with
   |none=>rw[b]at h;cases h
   |some q=>rw[b]at h;cases h;unfold Zz;rw[<- IL a,<- HM b]
theorem QL:∀kvs:Bx,Iz (Zz kvs)=kvs.map (·.1)
 |[]=>rfl
 |p::r=>by unfold Zz Iz;rw[jG,QL r];rfl
def ZS:Bx->KT->Option D
 |[],_=>none
 |t::r,k=>if t.1=k then some t.2 else ZS r k
def DZ:Bx->KT->D->Bx
 |[],_,_=>[]
 |t::r,k,v=>(if t.1=k then(t.1,v)else t)::DZ r k v
def B6(kvs:Bx)(k:KT)(v:D):Bx:=if(ZS kvs k).isSome=true then DZ kvs k v else kvs++[(k,v)]
def ED:KT->Bool
 |.at _=>true
 |_=>false
def DD(k:KT)(kvs:Bx):Bool:=kvs.all λp=>ED p.1==ED k
section
variable{K:As}{N:Fb}{H:Hp}
abbrev PD(K:As)(N:Fb)(H:Hp):Bx->List T3->Prop:=Paired λp t=>p.1=t.1/\AI K N H (kD p.1) t.2.1/\AI K N H p.2 t.2.2
theorem Wf{a:At}{v:V}(h:AI K N H (aD a) v):v=Ff a:=by cases a<;>simpa only[aD,AI,Ff]using h
theorem Wg:∀{l:List At}{vs:List V},Ad K N H (l.map aD) vs->vs=l.map Ff
 |[],_,h=>by simpa only[Dd,Ad]using h
 |a::l,vs,h=>by
  simp only[AY,Ad]at h
  obtain⟨v,r,e,b,c⟩:=h
  rw[e,Wf b,Wg c];rfl
theorem IM{k:KT}{v:V}(h:AI K N H (kD k) v):DX K H k v:=by
 cases k with
 | «at» a=>exact Wf h
 |tup l=>
  simp only[kD,AI]at h
  obtain⟨p,vs,e,b,c⟩:=h
  rw[Wg c]at b
  exact⟨p,e,b⟩
theorem Kc{k:KT}{v:V}(h:AK K N H (kD k) v):AI K N H (kD k) v:=by
 cases k with
 | «at» a=>cases a<;>exact h
 |tup l=>exact h
theorem Lz:∀{kvs:Bx}{vs:List V},Ad K N H (Zz kvs) vs->∃a,vs=DM a/\PD K N H kvs a
 |[],vs,h=>⟨[],by simpa only[Zz,Ad,DM]using h,.nil⟩
 |p::r,vs,h=>by
  simp only[Zz,Ad]at h
  obtain⟨v,t,e,b,c,j,d,f,g⟩:=h
  obtain⟨a,i,q⟩:=Lz g
  exact⟨(p.1,v,c)::a,by rw[e,d,i];rfl,.cons ⟨rfl,b,f⟩ q⟩
theorem PD.flat:∀{kvs:Bx}{a:List T3},PD K N H kvs a->Ad K N H (Zz kvs) (DM a)
 |_,_,.nil=>Ad.nil
 |_,_,.cons ⟨_,b,c⟩ t=>Ad.cons b (Ad.cons c (PD.flat t))
theorem PD.fst:∀{kvs:Bx}{a:List T3},PD K N H kvs a->kvs.map (·.1)=a.map (·.1)
 |_,_,.nil=>rfl
 |_,_,.cons ⟨b,_,_⟩ t=>by rw[AY,AY,b,PD.fst t]
theorem PD.keys:∀{kvs:Bx}{b:List T3},PD K N H kvs b->∀t∈b,DX K H t.1 t.2.1
 |_,_,.nil,_,h=>nomatch h
 |_,_,.cons ⟨c,d,_⟩ t,x,a=>by
  rcases Bv.mp a with rfl|a
  ·rw[<- c];exact IM d
  ·exact PD.keys t x a
def IN(K:As)(N:Fb)(H:Hp):Option D->Option V->Prop
 |some d,some v=>AI K N H d v
 |none,none=>True
 |_,_=>False
theorem PD.val:∀{kvs:Bx}{a:List T3},PD K N H kvs a->∀k,IN K N H (ZS kvs k) (CW a k)
 |_,_,.nil,_=>HL
 |p::kvs,t::a,.cons ⟨b,_,c⟩ r,k=>by
  have d:=PD.val r k
  unfold ZS CW
  rw[b]
  split
  ·exact c
  ·exact d
theorem IN.isS:∀{o:Option D}{u:Option V},IN K N H o u->o.isSome=u.isSome
 |some _,some _,_=>rfl
 |none,none,_=>rfl
 |some _,none,h=>h.elim
 |none,some _,h=>h.elim
theorem PD.rep{k:KT}{d:D}{v:V}(hd:AI K N H d v):∀{kvs:Bx}{a:List T3},PD K N H kvs a->PD K N H (DZ kvs k d) (FL a k v)
 |_,_,.nil=>.nil
 |p::kvs,t::a,.cons ⟨b,c,e⟩ r=>by
  have f:=PD.rep (k:=k) hd r
  unfold DZ FL
  rw[b]
  refine .cons ?_ f
  split
  ·exact⟨rfl,b ▸ c,hd⟩
  ·exact⟨b,c,e⟩
theorem PD.put{kvs:Bx}{a:List T3}{k:KT}{d:D}{b v:V}(h:PD K N H kvs a)(c:AI K N H (kD k) b)(hd:AI K N H d v):PD K N H (B6 kvs k d) (DN a k b v):=by
 unfold B6 DN
 rw[(h.val k).isS]
 split
 ·exact h.rep hd
 ·exact Paired.snoc' ⟨rfl,c,hd⟩ h
theorem PD.hom{k:KT}:∀{kvs:Bx}{f:List T3},PD K N H kvs f->DD k kvs=true->GF k f
 |_,_,.nil,_=>by cases k<;>exact λ_ h=>nomatch h
 |p::kvs,t::f,.cons ⟨i,_,_⟩ r,e=>by
  simp only[DD,D7,Dj]at e
  have g:=PD.hom (k:=k) r e.2
  have d:=e.1
  rw[i]at d
  cases k with
  | «at» a=>
   intro x c
   rcases Bv.mp c with rfl|c
   ·cases c:x.1 with
    | «at» b=>exact⟨b,rfl⟩
    |tup l=>rw[c]at d;cases d
   ·exact g x c
  |tup l=>
   intro x c
   rcases Bv.mp c with rfl|c
   ·cases c:x.1 with
    | «at» b=>rw[c]at d;cases d
    |tup l=>exact⟨l,rfl⟩
   ·exact g x c
theorem LB{a:Ac}{kvs:Bx}{vs:List V}(h:Rd H a (.dct (Iz (Zz kvs)) vs))(hd:Ad K N H (Zz kvs) vs):∃b,Cp K H a b/\PD K N H kvs b:=by
 obtain⟨b,e,p⟩:=Lz hd
 subst e
 rw[QL,p.fst]at h
 exact⟨b,⟨h,p.keys⟩,p⟩
theorem Kd{kvs:Bx}{a:List T3}(p:PD K N H kvs a):CO true (Zz kvs) (DM a)=DC a:=by
 unfold CO DC
 dsimp only
 rw[QL,p.fst]
end
def D0:D->D->Option D
 |.lst b true,y=>(DY b).bind λa=>(Dl y).bind λk=>if DD k a then ZS a k else none
 |_,_=>none
@[simp] theorem LC(kvs:Bx)(y:D):D0 (.lst (Zz kvs) true) y=(Dl y).bind λk=>if DD k kvs then ZS kvs k else none:=by simp[D0]
@[simp] theorem qS(y:D):D0 (.lst [] true) y=(Dl y).bind λk=>none:=by simp[D0,ZS]
def EE(neg:Bool):D->D->Option D
 |y,.lst b true=>(DY b).bind λa=>(Dl y).bind λk=>if DD k a then some (.bl (neg != (ZS a k).isSome))else none
 |_,_=>none
@[simp] theorem Wh(neg:Bool)(kvs:Bx)(y:D):EE neg y (.lst (Zz kvs) true)=(Dl y).bind λk=>if DD k kvs then some (.bl (neg != (ZS kvs k).isSome))else none:=by simp[EE]
@[simp] theorem qT(neg:Bool)(y:D):EE neg y (.lst [] true)=(Dl y).bind λk=>some (.bl neg):=by simp[EE,ZS,DD]
section
variable{X:Cx}{K:As}{M:Fb}{H0:Hp}{e a b:Expr}{f g:VE->Option D}{pos:Bc}
theorem jH:Dz K (V8 K) D0:=by
 intro N H x y d1 d2 d Q t h i e q
 unfold D0 at e
 split at e
 ·next m=>
  cases c:DY m with
  |none=>rw[c]at e;cases e
  |some a=>
   rw[c]at e
   cases f:Dl d2 with
   |none=>rw[f]at e;cases e
   |some k=>
    rw[f]at e
    have e:(if DD k a then ZS a k else none)=some d:=e
    split at e
    ·next n=>
     rw[HM c]at h
     obtain⟨p,vs,o,r,hd⟩:=h
     obtain⟨j,s,l⟩:=LB r hd
     rw[IL f]at i
     have b:=l.val k
     rw[e]at b
     cases g:CW j k with
     |none=>rw[g]at b;exact b.elim
     |some w=>rw[g]at b;exact⟨p,j,k,w,o,s,l.hom n,IM (Kc i),g,q w H (Am.refl H) b⟩
    ·cases e
 ·cases e
theorem Wi{neg:Bool}:Dz K (V9 K neg) (EE neg):=by
 intro N H x y d1 d2 d Q o f g e q
 unfold EE at e
 split at e
 ·next i=>
  cases b:DY i with
  |none=>rw[b]at e;cases e
  |some a=>
   rw[b]at e
   cases c:Dl d1 with
   |none=>rw[c]at e;cases e
   |some k=>
    rw[c]at e
    have e:(if DD k a then some (D.bl (neg != (ZS a k).isSome))else none)=some d:=e
    split at e
    ·next j=>
     cases e
     rw[HM b]at g
     obtain⟨p,vs,l,r,hd⟩:=g
     obtain⟨m,n,h⟩:=LB r hd
     rw[IL c]at f
     refine⟨p,m,k,l,n,h.hom j,IM (Kc f),?_⟩
     rw[<- (h.val k).isS]
     exact q _ H (Am.refl H) E5
    ·cases e
 ·cases e
theorem Ke(e:X.A.units+64<AF)(c:JE X a (tP X.K M H0 f))(d:JE X b (tP X.K M H0 g))(i:K0 b):JE X (.Subscript a b pos) (tD X.K M H0 (Zd D0 f g)):=⟨have c:=c.h;have d:=d.h;U9 (jB e) jH c d i⟩
theorem jI(e:X.A.units+64<AF)(c:JE X a (tP X.K M H0 f))(d:JE X b (tP X.K M H0 g))(i:FV .In b=false:=by with_unfolding_all rfl):JE X (.Compare a [.In] [b] pos) (tD X.K M H0 (Zd (EE false) f g)):=⟨have c:=c.h;have d:=d.h;Qb (Wa e) Wi c d i⟩
theorem Wj(e:X.A.units+64<AF)(c:JE X a (tP X.K M H0 f))(d:JE X b (tP X.K M H0 g))(i:FV .In b=false:=by with_unfolding_all rfl):JT X (.Compare a [.In] [b] pos) (BJ X.K M H0 λρ=>AS (Zd (EE false) f g ρ)):=⟨have c:=c.h;have d:=d.h;IA (Wa e) Wi c d i⟩
def Wk:List D->Option D
 |[.lst b true]=>(DY b).bind λa=>if a.all (λp=>ED p.1)then some (.int a.length)else none
 |_=>none
@[simp] theorem qU(kvs:Bx):Wk [.lst (Zz kvs) true]=if kvs.all (λp=>ED p.1)then some (.int kvs.length)else none:=by simp[Wk]
theorem QM{pos:Bc}:JE X (.Dict [] [] pos) (Jy true K M H0 λ_=>some []):=⟨Hg.mono λc H Q ⟨d,a,R,e,q⟩ p b=>by
 cases e
 exact Lc (xs:=[]) (vs:=[]) (fl:=true) (Am.refl H) b Ad.nil q⟩
def HN(i:Nat)(ok b:Option D)(ρ:VE):An:=match ER ρ i,ok,b with
 |some c,some y,some d=>match DY c,Dl y with
  |some a,some k=>if DD k a&&decide (a.length<AG)then .next (ρ.set i (.own (Zz (B6 a k d)) true))else .fail
  |_,_=>.fail
 |_,_,_=>.fail
theorem QN{i:Nat}{x:Ae}{b c pos:Bc}{j e:Expr}{L f:VE->Option D}(U:X.A.units+64<AF)(s:JE X j (tP X.K M H0 L))(t:JE X e (tD X.K M H0 f))(Y:X.N[i]?=some x:=by rfl)
  (u:Dq X.env.scope x:=by first|exact Or.inl rfl|exact Or.inr (Or.inl rfl)|exact Or.inr (Or.inr rfl)) (hd:(x==("__debug__":Ae))=false:=by decide) (z:(x==("__classdict__":Ae))=false:=by decide)
  (p:∀v,assign (.Subscript (.Name x b) j c) X.env v=(do
   let r <- holding [v] (AC (.Name x b) X.env)
   let B <- holding [v,r] (AC j X.env)
   standAt c
   holding [v,r,B] (setItem r B v)
   release [v,r,B] []):=by intro _;rfl)
  (hs:swapsWithSole [.Subscript (.Name x b) j c] e pos.line X.env=AQ false:=by rfl) (m:swappedStores [.Subscript (.Name x b) j c] e X.env=AQ none:=by rfl)
  (h1:(Gm [.Subscript (.Name x b) j c] X.env).map (·.2)=[assign (.Subscript (.Name x b) j c) X.env]:=by rfl):
  JS X (.Assign [.Subscript (.Name x b) j c] e pos) (tS X.K M H0 λρ=>HN i (L ρ) (f ρ) ρ):=⟨have s:=s.h;have t:=t.h;(eK t (eJ (Fz Y u hd z) s (jC U) p) hs m h1).mono λD' σ H ⟨ρ,R,q⟩=>by
 try dsimp only at q
 unfold HN at q
 split at q
 ·next xs y d hr C hf=>
  split at q
  ·next E k G hk=>
   split at q
   ·next I=>
    rw[Dj,decide_eq_true_eq]at I
    refine⟨ρ,d,R,hf,λv H1 O u=>?_⟩
    have n:=Ld hr
    have J:=R.st O
    have ex:=HM G
    subst ex
    obtain⟨a,vs,e1,z1,z2,z3,z4⟩:=J.slot i _ n
    have p:=AR e1
    refine⟨.ref a,p,ρ,y,J,C,λw H2 l m=>?_⟩
    have R2:=J.st l
    obtain⟨tr,dc,pd⟩:=LB (K:=X.K) (.inl (l _ _ z3)) (z4.same l)
    obtain⟨o,e',g⟩:=Lz (z4.same l)
    subst e'
    rw[IL hk]at m
    have Q:=g.put (k:=k) (Kc m) (u.same l)
    obtain⟨T,S3⟩:=R2.chg (fl2:=true) (ys:=Zz (B6 E k d)) (ws:=DM (DN o k w v)) n p Q.flat
    rw[Kd Q]at T S3
    refine⟨a,o,k,rfl,?_,g.keys,g.hom I.1,IM (Kc m),by rw[<- Gj g];exact I.2,q _ _ T ((Step.of_same (O.trans l)).trans S3)⟩
    rw[<- Kd g]
    exact l _ _ z3
   ·exact BW q
  ·exact BW q
 ·exact BW q⟩
end
theorem Wl(k:KT)(v:D)(a:KT):∀kvs:Bx,ZS (DZ kvs k v) a=if k=a then(ZS kvs a).map (λ_=>v)else ZS kvs a
 |[]=>by simp[DZ,ZS]
 |t::r=>by
  have d:=Wl k v a r
  unfold DZ ZS
  by_cases c:t.1=k
  ·subst c
   rw[if_pos rfl]
   by_cases b:t.1=a
   ·subst b;simp
   ·simp only[if_neg b,d]
  ·rw[if_neg c]
   by_cases b:t.1=a
   ·subst b
    rw[if_pos rfl,if_neg (λz=>c z.symm),if_pos rfl]
   ·rw[if_neg b,d,if_neg b]
theorem Wm(k:KT):∀(a b:Bx),ZS (a++b) k=match ZS a k with|some v=>some v|none=>ZS b k
 |[],b=>by simp[ZS]
 |t::r,b=>by
  have c:=Wm k r b
  rw[List.cons_append]
  have d:ZS (t::(r++b)) k=if t.1=k then some t.2 else ZS (r++b) k:=rfl
  have e:ZS (t::r) k=if t.1=k then some t.2 else ZS r k:=rfl
  rw[d,e]
  by_cases h:t.1=k
  ·rw[if_pos h,if_pos h]
  ·rw[if_neg h,if_neg h];exact c
theorem Kf(kvs:Bx)(k:KT)(v:D)(a:KT):ZS (B6 kvs k v) a=if k=a then some v else ZS kvs a:=by
 unfold B6
 by_cases h:(ZS kvs k).isSome=true
 ·rw[if_pos h,Wl]
  by_cases e:k=a
  ·subst e
   rw[if_pos rfl,if_pos rfl]
   cases b:ZS kvs k with
   |none=>rw[b]at h;cases h
   |some w=>rfl
  ·rw[if_neg e,if_neg e]
 ·rw[if_neg h,Wm]
  have c:ZS kvs k=none:=by
   cases b:ZS kvs k with
   |none=>rfl
   |some w=>rw[b]at h;exact absurd rfl h
  by_cases e:k=a
  ·subst e;rw[c];simp[ZS]
  ·rw[if_neg e]
   cases ZS kvs a with
   |none=>simp[ZS,e]
   |some w=>rfl
theorem Wn{k:KT}{v:D}{p:KT×D}:∀{kvs:Bx},p∈DZ kvs k v->p∈kvs\/p=(k,v)
 |[],h=>nomatch h
 |t::r,h=>by
  unfold DZ at h
  rcases Bv.mp h with a|h
  ·by_cases e:t.1=k
   ·rw[if_pos e,e]at a;exact .inr a
   ·rw[if_neg e]at a;subst a;exact .inl BA
  ·rcases Wn h with h|h
   ·exact .inl (Bt _ h)
   ·exact .inr h
theorem jJ{k:KT}{v:D}{p:KT×D}{kvs:Bx}(h:p∈B6 kvs k v):p∈kvs\/p=(k,v):=by
 unfold B6 at h
 split at h
 ·exact Wn h
 ·rcases List.mem_append.mp h with h|h
  ·exact .inl h
  ·exact .inr (by simpa using h)
theorem Wo(k:KT)(v:D):∀kvs:Bx,(DZ kvs k v).length=kvs.length
 |[]=>rfl
 |t::r=>by simp[DZ,Wo k v r]
theorem Nd(kvs:Bx)(k:KT)(v:D):(B6 kvs k v).length<=kvs.length+1:=by
 unfold B6
 split
 ·rw[Wo];omega
 ·simp
theorem HP{kvs:Bx}(a:At)(h:∀p∈kvs,ED p.1=true):DD (.at a) kvs=true:=by
 unfold DD
 rw[Ev]
 intro p b
 rw[h p b];rfl
theorem jK{kvs:Bx}(l:List At)(h:∀p∈kvs,ED p.1=false):DD (.tup l) kvs=true:=by
 unfold DD
 rw[Ev]
 intro p a
 rw[h p a];rfl
def tX(K:As)(M:Fb)(g:Hp)(f:VE->Option (D×VE)):TE:=λb H Q=>∃e d a,BC K M g e b H/\f e=some (d,a) /\
 ∀v c,BC K M g a b c->Step M (Nf M e b) (Nf M a b) H c->AI K (Nf M a b) c d v->Q v c
def Kg(i:Nat)(c e:VE->Option D):VE->Option (D×VE):=λb=>match ER b i,c b,e b with
 |some f,some y,some d=>match DY f,Dl y with
  |some a,some k=>if DD k a&&decide (a.length<AG)then
    (match ZS a k with
    |some v=>some (v,b)
    |none=>some (d,b.set i (.own (Zz (B6 a k d)) true)))
   else none
  |_,_=>none
 |_,_,_=>none
section
variable{X:Cx}{K:As}{M:Fb}{H0:Hp}{e a b ek ev:Expr}{f g fk fv:VE->Option D}{fx:VE->Option (D×VE)}{pos:Bc}
theorem jL{i:Nat}{x:Ae}{e g c:Bc}(hu:X.A.units+64<AF)(G:JE X ek (tP X.K M H0 fk))(j:JE X ev (tD X.K M H0 fv))(hN:X.N[i]?=some x:=by rfl)(E:Dq X.env.scope x:=by first|exact Or.inl rfl|exact Or.inr (Or.inl rfl)|exact Or.inr (Or.inr rfl))(hd:(x==("__debug__":Ae))=false:=by decide)(I:(x==("__classdict__":Ae))=false:=by decide)
  (l:Jt (.Name x e) "setdefault" X.env (AC (.Name x e) X.env)=AC (.Name x e) X.env:=by rfl)
  (p:((AZ c (AX [ek,ev] X.env)).all (λx=>!x.1)&&(backToKw c (BN [] X.env)).all (λx=>x.1.isSome)
   && decide ([ek,ev].length+([]:List Keyword).length+(if([]:List Keyword).isEmpty then 0 else 1)<30))=true:=by rfl)
  (m:(g.endLine==c.line)=true:=by rfl) (r:AX [ek,ev] X.env=(false,AC ek X.env)::AX [ev] X.env:=by exact DA (λ_ _ z=>nomatch z)) (t:AX [ev] X.env=(false,AC ev X.env)::AX [] X.env:=by exact DA (λ_ _ z=>nomatch z)) (J:(AZ c (AX [ev] X.env)).any (·.1)=false:=by rfl):
  JE X (.Call (.Attribute (.Name x e) "setdefault" g) [ek,ev] [] c) (tX X.K M H0 (Kg i fk fv)):=⟨have G:=G.h;have j:=j.h;(MG PySem.F.plainAttrs_dict Wb PySem.F.type_dict_setdefault (jD hu) (Fz hN E hd I) (Ej G (Ej j BK t) r) l p m r J).mono λσ H Q ⟨ρ,d,ρ',R,ex,q⟩=>by
  unfold Kg at ex
  split at ex
  ·next xs y dv hr L O=>
   split at ex
   ·next n k T U=>
    split at ex
    ·next Y=>
     rw[Dj,decide_eq_true_eq]at Y
     have B:=Ld hr
     have exs:=HM T
     subst exs
     obtain⟨a,vs,e1,z1,z2,z3,z4⟩:=R.slot i _ B
     have ha:=AR e1
     have tv:K1 X.K "dict" (.ref a) H:=.inr (.inr (.inl ⟨rfl,.inr (.inr ⟨_,_,.inl z3⟩)⟩))
     refine⟨.ref a,ha,tv,ρ,y,R,L,λw H1 s1 hw=>⟨ρ,dv,R.st s1,O,λv H2 s2 E=>?_⟩⟩
     have s:=s1.trans s2
     have R2:=R.st s
     obtain⟨tr,e',o⟩:=Lz (z4.same s)
     subst e'
     rw[IL U]at hw
     have C:=Kc (hw.same s2)
     have b:=o.val k
     refine⟨a,tr,k,w,v,rfl,rfl,?_,o.keys,o.hom Y.1,IM C,by rw[<- Gj o];exact Y.2,λu hu'=>?_,λhn=>?_⟩
     ·rw[<- Kd o];exact s _ _ z3
     ·rw[hu']at b
      cases f:ZS n k with
      |none=>rw[f]at b;exact b.elim
      |some d0=>
       rw[f]at b ex
       cases ex
       exact q u H2 R2 (Step.of_same s) b
     ·rw[hn]at b
      cases f:ZS n k with
      |some d0=>rw[f]at b;exact b.elim
      |none=>
       rw[f]at ex
       cases ex
       have pp:=o.put (k:=k) C E
       obtain⟨R3,S3⟩:=R2.chg (fl2:=true) (ys:=Zz (B6 n k d)) (ws:=DM (DN tr k w v)) B ha pp.flat
       rw[Kd pp]at R3 S3
       exact q v _ R3 ((Step.of_same s).trans S3) (AI.step S3 d v E)
    ·cases ex
   ·cases ex
  ·cases ex⟩
def qV(o:Option (D×VE)):An:=match o with
 |some (_,a)=>.next a
 |none=>.fail
def Ng(i:Nat)(o:Option (D×VE)):An:=match o with
 |some (d,a)=>.next (a.set i (.val d))
 |none=>.fail
theorem jM{i:Nat}{x:Ae}{a:Bc}(g:X.N.Nodup)(j:X.N[i]?=some x)(k:Loc X.env.scope x)(c:JE X e (tX K M H0 fx))(l:Fg e (some (.Name x a)) pos.line X.env=AQ false:=by rfl)(b:X.fn x=true\/X.env.scope.names.lookup x=some .local:=by first|exact .inl rfl|exact .inr rfl|assumption):
  JS X (.Assign [.Name x a] e pos) (tS K M H0 λρ=>Ng i (fx ρ)):=⟨have c:=c.h;(MA g j k c l b).mono λs t H ⟨ρ,R,q⟩=>by
 try dsimp only at q
 cases b:fx ρ with
 |none=>rw[b]at q;exact BW q
 |some p=>
  obtain⟨d,f⟩:=p
  rw[b]at q
  refine⟨ρ,d,f,R,b,λv m n S o=>?_⟩
  obtain⟨r,S1⟩:=n.setV (i:=i) (Am.refl m) o
  exact q _ _ r (S.trans S1)⟩
def jN:D->D->Option D
 |.bl i,.bl j=>some (.bl (decide (i=j)))
 |_,_=>none
@[simp] theorem qW(i j:Bool):jN (.bl i) (.bl j)=some (.bl (decide (i=j))):=rfl
end
section
variable{X:Cx}{K:As}
def Wp:V->List V->Hp->VK->Prop:=λx vs H Q=>∃z i,x=.str z/\vs=[.int i]/\PadOk i=true/\Q (.str (Txt.zfill z i)) H
theorem jO:Gq X "str.zfill" Wp:=by
 intro a s f H x vs v g Q I b c h
 obtain⟨z,i,rfl,rfl,d,q⟩:=h
 obtain⟨t,rfl⟩:=b
 obtain⟨u,rfl,j,rfl⟩:=D3 c
 exact SC.zfill d λe k=>⟨.str _,H,I.tok _,⟨_,rfl⟩,q⟩
def LF(z:Ae):List D->Option D
 |[.int i]=>gd (0<=i/\i<1000000) (some (.str (Txt.zfill z i)))
 |_=>none
theorem jP{i:Int}(a:0<=i)(b:i<1000000):PadOk i=true:=by
 unfold PadOk fitsSsize Builtin.Str.tooLong
 rw[Dj,Bool.not_eq_true',Bool.not_eq_true',Bool.or_eq_false_iff]
 refine⟨⟨decide_eq_false (by omega),decide_eq_false (by omega)⟩,decide_eq_false ?_⟩
 have c:i.toNat<1000000:=by omega
 have d:(1000000:Nat)<=AG:=by decide
 omega
theorem jQ:VU K Wp LF:=by
 intro N H z vs c d Q f h e q
 unfold LF at e
 split at e
 ·next i=>
  obtain⟨a,e⟩:=Qk e
  cases e
  obtain⟨v,rfl,b⟩:=Paired.one' h
  exact⟨z,i,rfl,by rw[b.int],jP a.1 a.2,q _ H (Am.refl H) Lh⟩
 ·cases e
@[simp] theorem jR(z:Ae)(i:Int)(a:0<=i)(b:i<1000000):LF z [.int i]=some (.str (Txt.zfill z i)):=by
  unfold LF
  exact Lg ⟨a,b⟩
@[simp] def qX(z:Ae):List D->Option D
  |[.str y]=>some (.bl (Txt.startswith z y))
  |_=>none
end
@[simp] def qY(b:D->VE->Option VE)(o:Option D)(ρ:VE):An:=match o with
  |some d=>(match b d ρ with
   |some a=>.next a
   |none=>.fail)
  |none=>.fail
section
variable{X:Cx}{K:As}{M:Fb}{H0:Hp}{e tg:Expr}{f:VE->Option D}{b:D->VE->Option VE}{pos:Bc}
end
end L2
namespace L2
open PySem PySem.Spec PyProof.Rows PySem.W
section
variable(lt:Nat->Nat->Bool)
structure WO(n:Nat):Prop where
 asym:∀a b,a<n->b<n->lt a b=true->lt b a=false
 neg:∀a b c,a<n->b<n->c<n->lt a c=true->lt a b=true\/lt b c=true
def Ea(a b:Nat):Prop:=lt b a=false
end
section
variable{lt:Nat->Nat->Bool}{n:Nat}(W:WO lt n)
include W
theorem WO.refl{a:Nat}(b:a<n):Ea lt a a:=by
 unfold Ea
 cases h:lt a a with
 |false=>rfl
 |true=>have:=W.asym a a b b h;rw[h]at this;cases this
theorem WO.trans{a b c:Nat}(f:a<n)(g:b<n)(i:c<n)(d:Ea lt a b)(e:Ea lt b c):Ea lt a c:=by
 unfold Ea at *
 cases h:lt c a with
 |false=>rfl
 |true=>
  rcases W.neg c b a i g f h with z|z
  ·rw[z]at e;cases e
  ·rw[z]at d;cases d
theorem WO.of_lt{a b:Nat}(c:a<n)(d:b<n)(h:lt a b=true):Ea lt a b:=W.asym a b c d h
end
abbrev Bg(p:Array Nat)(i:Nat):Nat:=p.getD i 0
def GH(lt:Nat->Nat->Bool)(p:Array Nat)(k:Nat):Prop:=∀i j,i<=j->j<k->Ea lt (Bg p i) (Bg p j)
def HQ(lt:Nat->Nat->Bool)(p:Array Nat)(k:Nat):Prop:=∀i j,i<=j->j<k->Ea lt (Bg p j) (Bg p i)
def Eqv(lt:Nat->Nat->Bool)(a b:Nat):Prop:=Ea lt a b/\Ea lt b a
def Bs(n:Nat)(p:Array Nat):Prop:=p.Perm (A7 n).toArray
theorem Bs.size{n:Nat}{p:Array Nat}(h:Bs n p):p.size=n:=by have:=h.size_eq;simpa using this
theorem Bs.lt{n:Nat}{p:Array Nat}(h:Bs n p){i:Nat}(d:i<n):Bg p i<n:=by
 have e:=h.size
 have b:i<p.size:=by omega
 have c:p[i]∈p:=Array.getElem_mem b
 have:=(h.mem_iff (a:=p[i])).mp c
 simp at this
 unfold Bg
 rw[Wq,J5 b]
 exact this
theorem LG{p q:Array Nat}{i j:Nat}(h:p[i]?=q[j]?):Bg p i=Bg q j:=by
 unfold Bg
 rw[Wq,Wq,h]
theorem LH{p:Array Nat}{i j:Nat}(a:j<=p.size)(k:Nat):Bg (kas_rev p i j) k=if i<=k/\k<j then Bg p (i+j-1-k)else Bg p k:=by
 have:=getElem?_mirror_all (xs:=p) (i:=i) (j:=j) a k
 by_cases h:i<=k/\k<j
 ·rw[if_pos h]at this ⊢;exact LG this
 ·rw[if_neg h]at this ⊢;exact LG this
theorem Wr{p:Array Nat}{k d:Nat}(b:k<p.size)(hd:d<=k)(i:Nat):Bg (bubble p k d) i=if i=k-d then Bg p k else if k-d<i/\i<=k then Bg p (i-1)else Bg p i:=by
 have:=getElem?_bubble (xs:=p) (src:=k) b d hd i
 by_cases h:i=k-d
 ·rw[if_pos h]at this ⊢;exact LG this
 ·rw[if_neg h]at this ⊢
  by_cases a:k-d<i/\i<=k
  ·rw[if_pos a]at this ⊢;exact LG this
  ·rw[if_neg a]at this ⊢;exact LG this
theorem Bs.rev{n:Nat}{p:Array Nat}(h:Bs n p)(i j:Nat):Bs n (kas_rev p i j):=(mirror_perm p i j _).trans h
theorem Bs.bub{n:Nat}{p:Array Nat}(h:Bs n p)(k d:Nat):Bs n (bubble p k d):=(bubble_perm p k d).trans h
section
variable{lt:Nat->Nat->Bool}{n:Nat}(W:WO lt n){cmp:Nat->Nat->(Bool->Ab->Prop)->Ab->Prop}{s:Ab}(hc:∀i j C,i<n->j<n->C (lt i j) s->cmp i j C s)
include W hc
theorem QO{p:Array Nat}(h:Bs n p):∀(f m:Nat){Q:Nat->Ab->Prop},1<=m->m+f<=n->GH lt p m->(∀g,m<=g->g<=m+f->GH lt p g->(g=m+f\/lt (Bg p g) (Bg p (g-1))=true)->Q g s)->Dh cmp (kas_asc p f m) Q s
 |0,m,Q,r,t,k,q=>by
  rw[kas_asc,Dh]
  exact q m (BB _) (by omega) k (.inl rfl)
 |f+1,m,Q,r,t,k,q=>by
  rw[kas_asc,Dh]
  refine hc _ _ _ (h.lt (by omega)) (h.lt (by omega)) ?_
  cases o:lt (Bg p m) (Bg p (m-1))with
  |true=>
   simp only[if_true,Dh]
   exact q m (BB _) (by omega) k (.inr o)
  |false=>
   simp only[DS,if_false]
   refine QO h f (m+1) (by omega) (by omega) (λi j l u=>?_) λg a b c d=>q g (by omega) (by omega) c (by rcases d with d|d;exact .inl (by omega);exact .inr d)
   rcases Kh j m with z|z
   ·exact k i j l z
   ·have e:j=m:=by omega
    subst e
    rcases Kh i j with y|y
    ·exact W.trans (h.lt (by omega)) (h.lt (i:=j-1) (by omega)) (h.lt (by omega)) (k i (j-1) (by omega) (by omega)) o
    ·have e:i=j:=by omega
     subst e
     exact W.refl (h.lt (by omega))
theorem QP{p:Array Nat}(c:Bs n p){i j:Nat}(f:i<j)(g:j<=n)(d:∀k,i<=k->k<j->Eqv lt (Bg p k) (Bg p (j-1)))(k:Nat)(e:k<n):Eqv lt (Bg (kas_rev p i j) k) (Bg p k):=by
 rw[LH (by rw[c.size];exact g)]
 by_cases h:i<=k/\k<j
 ·rw[if_pos h]
  have a:=d (i+j-1-k) (by omega) (by omega)
  have b:=d k h.1 h.2
  exact⟨W.trans (c.lt (by omega)) (c.lt (by omega)) (c.lt (by omega)) a.1 b.2,W.trans (c.lt (by omega)) (c.lt (by omega)) (c.lt (by omega)) b.1 a.2⟩
 ·rw[if_neg h]
  exact⟨W.refl (c.lt e),W.refl (c.lt e)⟩
theorem Ws{p q:Array Nat}(a:Bs n p)(b:Bs n q){k:Nat}(f:k<=n)(d:∀i,i<n->Eqv lt (Bg q i) (Bg p i))(h:HQ lt p k):HQ lt q k:=λi j c e=>
 W.trans (b.lt (by omega)) (a.lt (i:=j) (by omega)) (b.lt (by omega)) (d j (by omega)).1 (W.trans (a.lt (by omega)) (a.lt (i:=i) (by omega)) (b.lt (by omega)) (h i j c e) (d i (by omega)).2)
theorem Nh:∀(f:Nat)(p:Array Nat)(m q:Nat){Q:Array Nat×Nat×Nat->Ab->Prop},Bs n p->1<=m->m+f<=n->q+1<=m->HQ lt p m->(∀i,m-(q+1)<=i->i<m->Eqv lt (Bg p i) (Bg p (m-1))) ->
  (∀r t G,Bs n r->m<=t->t<=m+f->G+1<=t->HQ lt r t->(∀i,t-(G+1)<=i->i<t->Eqv lt (Bg r i) (Bg r (t-1)))->Q (r,t,G) s)->Dh cmp (kas_desc f p m q) Q s
 |0,p,m,q,Q,l,M,N,H,u,w,v=>by
  rw[kas_desc,Dh]
  exact v p m q l (BB _) (by omega) H u w
 |f+1,p,m,q,Q,l,M,N,H,u,w,v=>by
  rw[kas_desc,Dh]
  refine hc _ _ _ (l.lt (by omega)) (l.lt (by omega)) ?_
  have step:∀(r:Array Nat),Bs n r->HQ lt r m->Ea lt (Bg r m) (Bg r (m-1))->HQ lt r (m+1):=λr o h E i j I T=>by
   rcases Kh j m with z|z
   ·exact h i j I z
   ·have e:j=m:=by omega
    subst e
    rcases Kh i j with y|y
    ·exact W.trans (o.lt (by omega)) (o.lt (i:=j-1) (by omega)) (o.lt (by omega)) E (h i (j-1) (by omega) (by omega))
    ·have e:i=j:=by omega
     subst e
     exact W.refl (o.lt (by omega))
  cases E:lt (Bg p m) (Bg p (m-1))with
  |true=>
   have x:=W.of_lt (l.lt (by omega)) (l.lt (by omega)) E
   simp only[if_true]
   have one:∀(r:Array Nat),Bs n r->∀i,m+1-(0+1)<=i->i<m+1->Eqv lt (Bg r i) (Bg r (m+1-1)):=λr o i a b=>by
    have e:i=m:=by omega
    subst e
    exact⟨W.refl (o.lt (by omega)),W.refl (o.lt (by omega))⟩
   by_cases L:q>0
   ·simp only[L,if_true]
    have o:=l.rev (m-(q+1)) m
    have A:=QP W hc l (i:=m-(q+1)) (j:=m) (by omega) (by omega) w
    have J:=Ws W hc l o (k:=m) (by omega) (λi O=>A i O) u
    have em:Bg (kas_rev p (m-(q+1)) m) m=Bg p m:=by rw[LH (by rw[l.size];omega),if_neg (by omega)]
    have B:Ea lt (Bg (kas_rev p (m-(q+1)) m) m) (Bg (kas_rev p (m-(q+1)) m) (m-1)):=by
     rw[em]
     exact W.trans (l.lt (by omega)) (l.lt (by omega)) (o.lt (by omega)) x (A (m-1) (by omega)).2
    exact Nh f _ (m+1) 0 o (by omega) (by omega) (by omega) (step _ o J B) (one _ o) λC m2 q2 a b c d e g=>v C m2 q2 a (by omega) (by omega) d e g
   ·simp only[L,if_false]
    exact Nh f _ (m+1) 0 l (by omega) (by omega) (by omega) (step _ l u x) (one _ l) λC m2 q2 a b c d e g=>v C m2 q2 a (by omega) (by omega) d e g
  |false=>
   simp only[DS,if_false,Dh]
   refine hc _ _ _ (l.lt (by omega)) (l.lt (by omega)) ?_
   cases hd:lt (Bg p (m-1)) (Bg p m)with
   |true=>
    simp only[if_true,Dh]
    exact v p m q l (BB _) (by omega) H u w
   |false=>
    simp only[DS,if_false]
    refine Nh f _ (m+1) (q+1) l (by omega) (by omega) (by omega) (step _ l u hd) (λi a b=>?_) λC m2 q2 a b c d e g=>v C m2 q2 a (by omega) (by omega) d e g
    show Eqv lt (Bg p i) (Bg p m)
    rcases Kh i m with z|z
    ·have:=w i (by omega) z
     exact⟨W.trans (l.lt (by omega)) (l.lt (i:=m-1) (by omega)) (l.lt (by omega)) this.1 E,W.trans (l.lt (by omega)) (l.lt (i:=m-1) (by omega)) (l.lt (by omega)) hd this.2⟩
    ·have e:i=m:=by omega
     subst e
     exact⟨W.refl (l.lt (by omega)),W.refl (l.lt (by omega))⟩
theorem Wt{p:Array Nat}{m e:Nat}{Q:Nat×Array Nat->Ab->Prop}(g:Bs n p)(k:1<=m)(r:m<=e)(t:e<=n)(l:HQ lt p m)
  (q:∀d h,Bs n h->1<=d->d<=e->GH lt h d->Q (d,h) s):Dh cmp (kas_tail3 m e p) Q s:=by
 unfold kas_tail3
 rw[Ni]
 have f:=g.rev 0 m
 refine QO W hc f (e-m) m k (by omega) (λi j o u=>?_) λd a b c _=>?_
 ·rw[LH (by rw[g.size];omega),LH (by rw[g.size];omega),if_pos (by omega),if_pos (by omega)]
  exact l (0+m-1-j) (0+m-1-i) (by omega) (by omega)
 ·rw[Dh]
  exact q d _ f (by omega) (by omega) c
theorem jS{p:Array Nat}{m f:Nat}{Q:Nat×Array Nat->Ab->Prop}(k:Bs n p)(v:m+1<=f)(l:f<=n)(r:HQ lt p (m+1))
  (q:∀h j,Bs n j->1<=h->h<=f->GH lt j h->Q (h,j) s):Dh cmp (kas_descPart m f p) Q s:=by
 unfold kas_descPart
 rw[Ni]
 refine Nh W hc (f-(m+1)) p (m+1) 0 k (by omega) (by omega) (by omega) r (λi a b=>?_) λj h t a b c d e g=>?_
 ·have e:i=m:=by omega
  subst e
  exact⟨W.refl (k.lt (by omega)),W.refl (k.lt (by omega))⟩
 ·by_cases o:t>0
  ·simp only[o,if_true]
   exact Wt W hc (a.rev _ _) (by omega) (by omega) l (Ws W hc a (a.rev _ _) (by omega) (λi u=>QP W hc a (by omega) (by omega) g i u) e) q
  ·simp only[o,if_false]
   exact Wt W hc a (by omega) (by omega) l e q
theorem jT{p:Array Nat}{Q:Nat×Array Nat->Ab->Prop}(g:Bs n p)(N:1<=n)(q:∀v h,Bs n h->1<=v->v<=n->GH lt h v->Q (v,h) s):Dh cmp (kas_count n p) Q s:=by
 unfold kas_count
 rw[Ni]
 refine QO W hc g (n-1) 1 (by omega) (by omega) (λi j A H=>?_) λm a b c d=>?_
 ·have e:i=0:=by omega
  have I:j=0:=by omega
  subst e I
  exact W.refl (g.lt (by omega))
 ·by_cases B:m=n
  ·subst B
   simp only[beq_self_eq_true,if_true,Dh]
   exact q m p g a (by omega) c
  ·have J:(m==n)=false:=by simpa using B
   have t:lt (Bg p m) (Bg p (m-1))=true:=by
    rcases d with d|d
    ·exact absurd (by omega) B
    ·exact d
   simp only[J,DS,if_false]
   have l:∀(h:Array Nat),Bs n h->(∀i,i<m->Eqv lt (Bg h i) (Bg h (m-1)))->lt (Bg h m) (Bg h (m-1))=true->Dh cmp (kas_descPart m n h) Q s:=λh f r L=>
    jS W hc f (by omega) (by omega) (λi j A H=>by
     rcases Kh j m with z|z
     ·exact W.trans (f.lt (by omega)) (f.lt (i:=m-1) (by omega)) (f.lt (by omega)) (r j z).1 (r i (by omega)).2
     ·have e:j=m:=by omega
      subst e
      rcases Kh i j with y|y
      ·exact W.trans (f.lt (by omega)) (f.lt (i:=j-1) (by omega)) (f.lt (by omega)) (W.of_lt (f.lt (by omega)) (f.lt (by omega)) L) (r i y).2
      ·have e:i=j:=by omega
       subst e
       exact W.refl (f.lt (by omega))) q
   by_cases u:m>1
   ·simp only[u,if_true,Dh]
    refine hc _ _ _ (g.lt (by omega)) (g.lt (by omega)) ?_
    cases M:lt (Bg p 0) (Bg p (m-1))with
    |true=>
     simp only[if_true,Dh]
     exact q m p g a (by omega) c
    |false=>
     simp only[DS,if_false]
     have f:=g.rev 0 m
     have r:∀i,i<m->Eqv lt (Bg p i) (Bg p (m-1)):=λi w=>⟨c i (m-1) (by omega) (by omega),W.trans (g.lt (by omega)) (g.lt (i:=0) (by omega)) (g.lt (by omega)) M (c 0 i (by omega) w)⟩
     have o:=λk C=>QP W hc g (i:=0) (j:=m) (by omega) (by omega) (λk _ C=>r k C) k C
     have em:Bg (kas_rev p 0 m) m=Bg p m:=by rw[LH (by rw[g.size];omega),if_neg (by omega)]
     refine l _ f (λi w=>?_) ?_
     ·have E:=o i (by omega)
      have x:=o (m-1) (by omega)
      have G:=r i w
      exact⟨W.trans (f.lt (by omega)) (g.lt (i:=i) (by omega)) (f.lt (by omega)) E.1 (W.trans (g.lt (by omega)) (g.lt (i:=m-1) (by omega)) (f.lt (by omega)) G.1 x.2),
       W.trans (f.lt (by omega)) (g.lt (i:=m-1) (by omega)) (f.lt (by omega)) x.1 (W.trans (g.lt (by omega)) (g.lt (i:=i) (by omega)) (f.lt (by omega)) G.2 E.2)⟩
     ·rw[em]
      have x:=o (m-1) (by omega)
      rcases W.neg (Bg p m) (Bg (kas_rev p 0 m) (m-1)) (Bg p (m-1)) (g.lt (by omega)) (f.lt (by omega)) (g.lt (by omega)) t with z|z
      ·exact z
      ·have:=x.2;unfold Ea at this;rw[z]at this;cases this
   ·have e:m=1:=by omega
    subst e
    simp only[u,if_false]
    refine l p g (λi w=>?_) t
    have e:i=0:=by omega
    subst e
    exact⟨W.refl (g.lt (by omega)),W.refl (g.lt (by omega))⟩
theorem QQ{p:Array Nat}(c:Bs n p){k:Nat}(g:k<n)(j:GH lt p k):∀(f l r:Nat){Q:Nat->Ab->Prop},l<=r->r<=k->r<=l+f->(∀i,i<l->Ea lt (Bg p i) (Bg p k))->(∀i,r<=i->i<k->lt (Bg p k) (Bg p i)=true) ->
  (∀m,m<=k->(∀i,i<m->Ea lt (Bg p i) (Bg p k))->(∀i,m<=i->i<k->lt (Bg p k) (Bg p i)=true)->Q m s)->Dh cmp (kas_place p k f l r) Q s
 |0,l,r,Q,w,o,x,t,u,q=>by
  rw[kas_place,Dh]
  have e:l=r:=by omega
  subst e
  exact q l o t u
 |f+1,l,r,Q,w,o,x,t,u,q=>by
  rw[kas_place]
  by_cases h:l≥r
  ·have e:l=r:=by omega
   subst e
   rw[if_pos h,Dh]
   exact q l o t u
  ·rw[if_neg h,Dh]
   refine hc _ _ _ (c.lt g) (c.lt (by omega)) ?_
   cases v:lt (Bg p k) (Bg p ((l+r)/2))with
   |true=>
    simp only[if_true]
    refine QQ c g j f l ((l+r)/2) (by omega) (by omega) (by omega) t (λi a b=>?_) q
    have d:=j ((l+r)/2) i a b
    rcases W.neg (Bg p k) (Bg p i) (Bg p ((l+r)/2)) (c.lt g) (c.lt (by omega)) (c.lt (by omega)) v with z|z
    ·exact z
    ·unfold Ea at d;rw[z]at d;cases d
   |false=>
    simp only[DS,if_false]
    refine QQ c g j f ((l+r)/2+1) r (by omega) o (by omega) (λi a=>?_) u q
    exact W.trans (c.lt (by omega)) (c.lt (i:=(l+r)/2) (by omega)) (c.lt g) (j i ((l+r)/2) (by omega) (by omega)) v
theorem Wu:∀(f:Nat)(p:Array Nat)(k:Nat){Q:Array Nat->Ab->Prop},Bs n p->k+f=n->GH lt p k->(∀t,Bs n t->GH lt t n->Q t s)->Dh cmp (kas_bin f p k) Q s
 |0,p,k,Q,g,x,h,q=>by
  rw[kas_bin,Dh]
  have e:k=n:=by omega
  subst e
  exact q p g h
 |f+1,p,k,Q,g,x,h,q=>by
  rw[kas_bin,Ni]
  refine QQ W hc g (k:=k) (by omega) h k 0 k (by omega) (BB _) (by omega) (λi z=>by omega) (λi a b=>by omega) λl a b c=>?_
  refine Wu f _ (k+1) (g.bub _ _) (by omega) (λi j u y=>?_) q
  have m:k<p.size:=by rw[g.size];omega
  have v:k-(k-l)=l:=by omega
  rw[Wr m (by omega),Wr m (by omega),v]
  by_cases w:i=l
  ·rw[if_pos w]
   by_cases d:j=l
   ·rw[if_pos d];exact W.refl (g.lt (by omega))
   ·rw[if_neg d,if_pos (by omega)]
    exact W.of_lt (g.lt (by omega)) (g.lt (by omega)) (c (j-1) (by omega) (by omega))
  ·rw[if_neg w]
   by_cases o:l<i/\i<=k
   ·rw[if_pos o,if_neg (by omega),if_pos (by omega)]
    exact h (i-1) (j-1) (by omega) (by omega)
   ·rw[if_neg o]
    by_cases d:j=l
    ·rw[if_pos d];exact b i (by omega)
    ·rw[if_neg d]
     by_cases r:l<j/\j<=k
     ·rw[if_pos r];exact h i (j-1) (by omega) (by omega)
     ·rw[if_neg r];exact h i j u (by omega)
theorem jU{Q:Array Nat->Ab->Prop}(g:1<=n)(q:∀f,Bs n f->GH lt f n->Q f s):Dh cmp (kas_sort n) Q s:=by
 unfold kas_sort
 rw[Ni]
 refine jT W hc (p:=(A7 n).toArray) (Array.Perm.refl _) g λm f a b c d=>?_
 by_cases h:m<n
 ·simp only[h,if_true]
  have e:max m 1=m:=by omega
  rw[e]
  exact Wu W hc (n-m) f m a (by omega) d q
 ·have e:m=n:=by omega
  subst e
  simp only[FT,if_false,Dh]
  exact q f a d
end
section
variable{prog:A4}{w:Aj}{A:Ak}{E:Aa->Ab->Prop}{s:Ab}
theorem jV{l b:Ac}{c a:Array Aa}{r:Bool}{n n2:Nat}{dd d:Option Ac}{g e:Array (Option Aa)}{Q:Bool->Ab->Prop}(f:s.heap.get? l=some {cls:=.type "list",dict:=dd,data:=.seq c n,slots:=g})(i:s.heap.get? b=some {cls:=.type "list",dict:=d,data:=.seq a n2,slots:=e})(j:EM A.in1 s c.toList a.toList r)
  (k:A.units<AF) (h:Q r s):wpAny (Af prog w) A (oneLt' true (.ref l) (.ref b)) Q E s:=by
 rw[oneLt'_eq]
 simp only[if_true]
 refine Ag (wpAny_cRoomFor k ?_)
 refine Ag (wpAny_callSpecialIfBound?_slot (T:="list") ⟨_,f,rfl⟩ PySem.F.slot_list_lt (call_meets PySem.F.slot_list_lt ⟨_,f,rfl⟩ PySem.F.entry_list_lt (PySem.F.args_list_lt_2 _ _) (U7 l b c a n n2 dd d g e r) ⟨f,i,j,?_⟩))
 exact Im h
end
section
variable{X:Cx}{pins:List (Ac×AM)}{σ:St}{H:Hp}{s:Ab}{N:Fb}
theorem jW(I:Inv X pins σ H s){prog:A4}{w:Aj}(A:Ak)(Y:A.units+40<AF)(b fin:Bool){Q:Bool->Ab->Prop}:∀(xs ys:List D)(a c:List V)(Ez EA:List Aa)(i:Nat)(r:Bool),Ey (ltN 5) xs ys=some r ->
  Ad X.K N H xs a->Ad X.K N H ys c->Ap a Ez->Ap c EA->fin=decide (xs.length<ys.length) ->
  (b=false\/i≠0\/((∀x,xs.head?=some x->∃n,x=.int n)/\∀y,ys.head?=some y->∃n,y=.int n))->Q r s->KatLex prog w A b fin Q (Ez.zip EA) i s:=by
 intro xs
 induction xs with
 |nil=>
  intro ys a c Ez EA i r h d1 d2 t u k J q
  simp only[Ad]at d1;subst d1;cases t
  rw[List.zip_nil_left]
  refine kat_nil ?_
  cases ys with
  |nil=>simp only[Ey]at h;cases h;rw[k];exact q
  |cons y ys=>simp only[Ey]at h;cases h;rw[k];simpa using q
 |cons x xs L=>
  intro ys a c Ez EA i r h d1 d2 t u k J q
  simp only[Ad]at d1;obtain⟨w1,t1,M,d,v⟩:=d1;subst M
  cases t with
  |cons f B=>
   cases ys with
   |nil=>
    simp only[Ad]at d2;subst d2;cases u
    rw[List.zip_nil_right]
    simp only[Ey]at h;cases h
    refine kat_nil ?_
    rw[k];simpa using q
   |cons y ys=>
    simp only[Ad]at d2;obtain⟨w2,t2,O,g,C⟩:=d2;subst O
    cases u with
    |cons j E=>
     rw[K3]
     simp only[Ey]at h
     split at h
     ·next G=>
      rw[Dj]at G
      have m:=(JU I B4 A x y _ _ _ _ (by unfold B4;omega) G.1 G.2 d.p g.p f j).2.1
      refine kat_cons ?_
      split at h
      ·next e=>
       rw[e]at m
       refine m prog w _ _ ?_
       show KatGo prog w A b fin Q _ _ _ i true s
       unfold KatGo
       rw[if_pos rfl]
       exact L ys _ _ _ _ (i+1) r h v C B E (by rw[k];simp) (.inr (.inl (by omega))) q
      ·next e=>
       rw[Ln]at e
       rw[e]at m
       refine m prog w _ _ ?_
       refine kat_no ?_
       by_cases o:(b&&i==0)=true
       ·rw[o]
        have l:b=true/\i=0:=by simpa using o
        rcases J with z|z|⟨z1,z2⟩
        ·rw[l.1]at z;cases z
        ·exact absurd l.2 z
        ·obtain⟨n1,rfl⟩:=z1 x rfl
         obtain⟨n2,rfl⟩:=z2 y rfl
         have T:=d.p.int
         have U:=g.p.int
         subst T U
         obtain⟨k1,rfl⟩:=f
         obtain⟨k2,rfl⟩:=j
         simp only[ltN]at h
         cases h
         exact oneLt_int q
       ·rw[Ln]at o
        rw[o]
        refine kat_one _ _ ?_
        exact Qu I 5 A x y _ _ _ _ r (by unfold B4;omega) h d.p g.p f j prog w _ (PySem.W.BoolBack Q) q
     ·cases h
theorem jX(I:Inv X pins σ H s)(n:Nat)(A:Ak)(J:A.units+n+1+B4<AF){b:Bool}:∀(xs ys:List D)(a c:List V)(Ez EA:List Aa),Ey (ltN n) xs ys=some b->Ad X.K N H xs a->Ad X.K N H ys c->Ap a Ez->Ap c EA->EM A.in1 s Ez EA b:=by
 intro xs
 induction xs with
 |nil=>
  intro ys a c Ez EA h d1 d2 l d
  simp only[Ad]at d1;subst d1;cases l
  cases ys with
  |nil=>simp only[Ad]at d2;subst d2;cases d;cases h;exact .nn
  |cons y ys=>simp only[Ad]at d2;obtain⟨w,t,e,_,_⟩:=d2;subst e;cases d;cases h;exact .nc
 |cons x xs m=>
  intro ys a c Ez EA h d1 d2 l d
  simp only[Ad]at d1;obtain⟨w1,L,B,f,o⟩:=d1;subst B
  cases l with
  |cons g r=>
   cases ys with
   |nil=>simp only[Ad]at d2;subst d2;cases d;cases h;exact .cn
   |cons y ys=>
    simp only[Ad]at d2;obtain⟨w2,M,C,i,u⟩:=d2;subst C
    cases d with
    |cons j v=>
     simp only[Ey]at h
     split at h
     ·next z=>
      rw[Dj]at z
      have k:=(JU I B4 A.in1 x y _ _ _ _ (by rw[HG];omega) z.1 z.2 f.p i.p g j).2.1
      split at h
      ·next e=>rw[e]at k;exact .eq k (m ys _ _ _ _ h o u r v)
      ·next e=>
       rw[Ln]at e
       rw[e]at k
       exact .ne k λprog G E Q q=>Qu I n A.in1 x y _ _ _ _ b (by rw[HG];omega) h f.p i.p g j prog G E Q q
     ·cases h
def B7(b:Option Bool)(k:D):Prop:=match b with
 |some true=>∃i r,k=.tup (.int i::r)
 |some false=>∃f r,k=.tup (.tup f::r)
 |none=>∃r,k=.lst r
abbrev LI:Option Bool->SortKind
 |some b=>tuples' b
 |none=>oneType'
theorem B7.tup{b:Bool}{k:D}(h:B7 (some b) k):∃f r,k=.tup (f::r):=by
 cases b with
 |true=>obtain⟨i,r,e⟩:=h;exact⟨_,_,e⟩
 |false=>obtain⟨i,r,e⟩:=h;exact⟨_,_,e⟩
theorem jY(I:Inv X pins σ H s){prog:A4}{w:Aj}(A:Ak)(B:A.units+40<AF)(b r:Bool){k1 k2:D}{u v:V}{y z:Aa}{Q:Bool->Ab->Prop}{E:Aa->Ab->Prop}(h:ltN 6 k1 k2=some r)(m1:B7 (some b) k1)(m2:B7 (some b) k2)
  (d1:AI X.K N H k1 u) (d2:AI X.K N H k2 v) (C:RelV u y) (G:RelV v z) (q:Q r s):wpAny (Af prog w) A (keyLt' (tuples' b) y z) Q E s:=by
 obtain⟨J,L,d⟩:=m1.tup
 obtain⟨M,O,e⟩:=m2.tup
 subst d e
 simp only[AI]at d1 d2
 obtain⟨a1,k,d,q1,f⟩:=d1
 obtain⟨a2,l,e,q2,g⟩:=d2
 subst d e
 cases C
 cases G
 obtain⟨a,i,T,_⟩:=I.tuple q1
 obtain⟨c,j,U,_⟩:=I.tuple q2
 obtain⟨o1,m,_,n1,n⟩:=T
 obtain⟨o2,o,_,n2,p⟩:=U
 refine kat_lt m n o p ?_
 have Y:=f.length
 have l2:=g.length
 have l3:=i.length
 have l4:=j.length
 have:=jW I (prog:=prog) (w:=w) (N:=N) A B b (decide (a.toArray.size<c.toArray.size)) (Q:=Q) (J::L) (M::O) k l a c 0 r h f g i j (by rw[BF,BF,<- l3,<- l4,<- Y,<- l2]) (by
  cases b with
  |false=>exact .inl rfl
  |true=>
   obtain⟨i1,_,d⟩:=m1
   obtain⟨i2,_,e⟩:=m2
   cases d
   cases e
   exact .inr (.inr ⟨λx t=>by cases t;exact⟨_,rfl⟩,λx t=>by cases t;exact⟨_,rfl⟩⟩)) q
 simpa using this
theorem jZ(I:Inv X pins σ H s){prog:A4}{w:Aj}(A:Ak)(L:A.units+40<AF)(b:Option Bool)(r:Bool){k1 k2:D}{o t:V}{u v:Aa}{Q:Bool->Ab->Prop}{E:Aa->Ab->Prop}(h:ltN 6 k1 k2=some r)(m1:B7 b k1)(m2:B7 b k2)
  (d1:AI X.K N H k1 o) (d2:AI X.K N H k2 t) (x:RelV o u) (y:RelV t v) (q:Q r s):wpAny (Af prog w) A (keyLt' (LI b) u v) Q E s:=by
 cases b with
 |some b=>exact jY I A L b r h m1 m2 d1 d2 x y q
 |none=>
  obtain⟨M,f⟩:=m1
  obtain⟨O,g⟩:=m2
  subst f g
  obtain⟨a1,T,f,q1,i⟩:=d1.p
  obtain⟨a2,U,g,q2,j⟩:=d2.p
  subst f g
  cases x
  cases y
  obtain⟨z,k,⟨⟨cls,dd,data,sl⟩,n1,l,a,B,c⟩,_⟩:=I.list q1
  obtain⟨C,m,⟨⟨G,Y,data2,sl2⟩,n2,n,d,J,e⟩,_⟩:=I.list q2
  simp only at a c d e
  subst a c d e
  show wpAny (Af prog w) A (oneLt' true _ _) Q E s
  exact jV l n (by simpa using jX I 5 A (by unfold B4;omega) M O _ _ _ _ h i j k m) (by omega) q
theorem j1(I:Inv X pins σ H s){M:Model}(b:Bool):∀(c:List D)(kvs:List V)(us:List Aa),Ad X.K N H c kvs->Ap kvs us->(∀k∈c,B7 (some b) k) ->
  ∃fs,KatTups s.heap us fs/\fs.length=us.length/\∀v∈fs,Looks M s.heap (typeOf v) (.type (if b then "int" else "tuple")):=by
 intro c
 induction c with
 |nil=>
  intro kvs us d r _
  simp only[Ad]at d;subst d;cases r
  exact⟨[],KatTups.nil,rfl,λ_ h=>nomatch h⟩
 |cons k c L=>
  intro kvs us d r G
  simp only[Ad]at d;obtain⟨v,t,e,dv,O⟩:=d;subst e
  cases r with
  |cons U rt=>
   obtain⟨fs,Y,h2,h3⟩:=L t _ O rt λk l=>G k (Bt _ l)
   have m:=G k BA
   obtain⟨f,g,e⟩:=m.tup
   subst e
   simp only[AI]at dv
   obtain⟨a,vs,e,q,dl⟩:=dv
   subst e
   cases U
   obtain⟨its,x,⟨o,ho,hc,n,hd⟩,_⟩:=I.tuple q
   obtain⟨w,vs',e,y,_⟩:=dl
   subst e
   cases x with
   |cons j rt1=>
    rename_i u us'
    refine⟨u::fs,KatTups.cons ho hc hd (by simp) Y,by simp[h2],λv z=>?_⟩
    rcases Bv.mp z with e|z
    ·subst e
     intro A Q E s' l J
     cases b with
     |true=>
      obtain⟨i,_,e⟩:=m
      cases e
      have g:=y.p.int
      subst g
      obtain⟨t,rfl⟩:=j
      exact Iv (T:="int") rfl J
     |false=>
      obtain⟨i,_,e⟩:=m
      cases e
      simp only[AI]at y
      obtain⟨a2,vs2,e,q2,_⟩:=y
      subst e
      cases j
      obtain⟨_,_,⟨o2,B,C,_⟩,_⟩:=I.tuple q2
      exact Iv (T:="tuple") ⟨o2,l _ _ B,C⟩ J
    ·exact h3 v z
theorem j6(I:Inv X pins σ H s){M:Model}:∀(b:List D)(kvs:List V)(us:List Aa),Ad X.K N H b kvs->Ap kvs us->(∀k∈b,B7 none k)->∀u∈us,Looks M s.heap (typeOf u) (.type "list"):=by
 intro b
 induction b with
 |nil=>
  intro kvs us d r _
  simp only[Ad]at d;subst d;cases r
  exact λ_ h=>nomatch h
 |cons k b j=>
  intro kvs us d r i
  simp only[Ad]at d;obtain⟨v,t,e,dv,l⟩:=d;subst e
  cases r with
  |cons m rt=>
   intro u c
   rcases Bv.mp c with e|c
   ·subst e
    obtain⟨g,e⟩:=i k BA
    subst e
    obtain⟨a,vs,e,q,_⟩:=dv.p
    subst e
    cases m
    obtain⟨_,_,⟨o,n,w,x,_⟩,_⟩:=I.list q
    intro A Q E z f y
    exact Iv (T:="list") ⟨o,f _ _ w,x⟩ y
   ·exact j t _ l rt (λk f=>i k (Bt _ f)) u c
theorem j7(I:Inv X pins σ H s){M:Model}{A:Ak}{E:Aa->Ab->Prop}(b:Option Bool)(a:List D)(kvs:List V)(us:List Aa)(d:Ad X.K N H a kvs)(r:Ap kvs us)(c:∀k∈a,B7 b k)(e:2<=us.length){Q:SortKind->Ab->Prop}(q:Q (LI b) s):wpAny M A (keyKind' us.toArray) Q E s:=by
 cases b with
 |some b=>
  obtain⟨fs,f,h,g⟩:=j1 I (M:=M) b a kvs us d r c
  refine kat_kind f (by omega) g (by cases b<;>rfl) ?_
  have em:(Value.type (if b=true then "int" else "tuple") != Value.type "tuple")=b:=by cases b<;>rfl
  rw[em]
  exact q
 |none=>exact kas_kind e (j6 I a kvs us d r c) rfl rfl q
structure Off(X:Cx)(pins:List (Ac×AM))(a:Ac):Prop where
 nL:a≠X.env.locals
 s0:X.s₀.heap.objs.size<=a
 cl:∀x c,X.env.cells.lookup x=some c->c≠a
 pn:∀p∈X.pn++pins,p.1≠a
 nf:a∉X.fs
theorem Inv.off(I:Inv X pins σ H s){a:Ac}(h:s.heap.objs.size<=a):Off X pins a where
 nL:=λe=>by have b:=I.lt;rw[<- e]at b;exact absurd (Ca b h) (FT _)
 s0:=CK I.sz h
 cl:=λx c e z=>by
  obtain⟨v,o,d,_⟩:=I.cell x c e
  have b:=By d
  rw[z]at b
  exact absurd (Ca b h) (FT _)
 pn:=λp f z=>by
  have b:=By (I.pin p f).1
  rw[z]at b
  exact absurd (Ca b h) (FT _)
 nf:=I.nofs h
theorem Inv.pin1{a:Ac}{o:AM}(I:Inv X pins σ H s)(c:H a=none)(f:Off X pins a)(e:s.heap.get? a=some o)(d:∀v,o.data≠.cell v):Inv X (pins++[(a,o)]) σ H s:=
 I.pins_of λp b=>by
  rcases List.mem_append.mp b with b|b
  ·exact I.pin p (C6 _ b)
  ·simp only[GC]at b;subst b;exact⟨e,c,f.nL,f.nf,d⟩
theorem Inv.catch{a:Ac}{d:List Aa}{n:Nat}{vs:List V}(I:Inv X pins σ H s)(h:H a=none)(f:Off X pins a)(e:s.heap.get? a=some {cls:=.type "list",data:=.seq d.toArray n})(i:Ap vs d)(hz:vs.length<=AG):Inv X pins σ (A3 H a (.lst vs)) s:=by
 have ne:∀b u,H b=some u->b≠a:=λb u q z=>by rw[z,h]at q;cases q
 have:=I.step (h':=s.heap) (g':=s.gens) (d':=s.drawn) (t':=s.toks) (ch:=[a]) (H':=A3 H a (.lst vs)) (λb g=>by
   have e:b=a:=by simpa using g
   subst e
   exact⟨.inr f.s0,f.nL,f.cl,f.pn⟩) (λb o _ _ _ q _=>q) (λb o _ _ _ q _=>⟨o.slots,q⟩) (λb o g _ n=>by rw[ZK (λz=>g (by simp[z]))];exact n) (λb o _ q=>⟨o,q⟩)
  (λb j q=>by rw[ZK (ne _ _ q)];exact q) (λb o u q=>by rw[ZK (ne _ _ q)];exact q) (λb A q=>⟨#[],by rw[ZK (ne _ _ q),q];simp⟩) (λm k=>k) (λb u q=>by
   by_cases g:b=a
   ·subst g
    rw[Ef]at q
    cases q
    exact⟨hz,d,n,i,e⟩
   ·rw[ZK g]at q
    exact(I.hok b u q).stay (λc v _ r=>r) (λc r=>by rw[ZK (ne _ _ r)];exact r) λc j r=>by rw[ZK (ne _ _ r)];exact r) I.bare
 exact this
end
def Dm(F:List Sl->Option Rv)(x:D):D:=((F [.val x]).map Fn).getD .non
def Cz(F:List Sl->Option Rv)(x y:D):Bool:=match ltN 6 (Dm F x) (Dm F y)with
 |some true=>true
 |_=>false
theorem QR{F:List Sl->Option Rv}{x y:D}{r:Bool}(h:ltN 6 (Dm F x) (Dm F y)=some r):Cz F x y=r:=by
 unfold Cz;rw[h];cases r<;>rfl
structure Bz(F:List Sl->Option Rv)(xs:List D):Prop where
 few:xs.length<64
 tells:∀x∈xs,∃r,F [.val x]=some r
 mode:∃b,∀x∈xs,B7 b (Dm F x)
 cmp:∀x∈xs,∀y∈xs,∃r,ltN 6 (Dm F x) (Dm F y)=some r
 asym:∀x∈xs,∀y∈xs,Cz F x y=true->Cz F y x=false
 neg:∀x∈xs,∀y∈xs,∀z∈xs,Cz F x z=true->Cz F x y=true\/Cz F y z=true
 anti:∀x∈xs,∀y∈xs,Cz F x y=false->Cz F y x=false->x=y
def Hi(lt:D->D->Bool)(x:D):List D->List D
 |[]=>[x]
 |y::r=>if lt x y then x::y::r else y::Hi lt x r
def E7(lt:D->D->Bool):List D->List D
 |[]=>[]
 |x::r=>Hi lt x (E7 lt r)
theorem QS(lt:D->D->Bool)(x:D):∀l,(Hi lt x l).Perm (x::l)
 |[]=>.refl _
 |y::r=>by
  unfold Hi
  split
  ·exact .refl _
  ·exact((QS lt x r).cons y).trans (.swap x y r)
theorem Nj(lt:D->D->Bool):∀l,(E7 lt l).Perm l
 |[]=>.refl _
 |x::r=>(QS lt x _).trans ((Nj lt r).cons x)
theorem Wv{F:List Sl->Option Rv}{xs:List D}(h:Bz F xs){x:D}(f:x∈xs):∀l:List D,(∀y∈l,y∈xs)->l.Pairwise (λa b=>Cz F b a=false)->(Hi (Cz F) x l).Pairwise λa b=>Cz F b a=false
 |[],_,_=>by simp[Hi]
 |y::r,g,j=>by
  obtain⟨k,m⟩:=List.pairwise_cons.mp j
  have i:=g y BA
  unfold Hi
  split
  ·next d=>
   refine List.pairwise_cons.mpr ⟨λz c=>?_,j⟩
   rcases Bv.mp c with e|c
   ·subst e;exact h.asym x f z i d
   ·cases n:Cz F z x with
    |false=>rfl
    |true=>
     rcases h.neg z (g z (Bt _ c)) y i x f n with q|q
     ·rw[k z c]at q;cases q
     ·rw[h.asym x f y i d]at q;cases q
  ·next d=>
   rw[Ln]at d
   refine List.pairwise_cons.mpr ⟨λz c=>?_,Wv h f r (λz c=>g z (Bt _ c)) m⟩
   rcases Bv.mp ((QS (Cz F) x r).subset c)with e|c
   ·subst e;exact d
   ·exact k z c
theorem Ww{F:List Sl->Option Rv}{xs:List D}(h:Bz F xs):∀l:List D,(∀y∈l,y∈xs)->(E7 (Cz F) l).Pairwise λa b=>Cz F b a=false
 |[],_=>.nil
 |x::r,c=>Wv h (c x BA) _ (λy d=>c y (Bt _ ((Nj _ r).subset d))) (Ww h r λy d=>c y (Bt _ d))
def HR(F:List Sl->Option Rv)(xs:List D):Option (List D):=gd (Bz F xs) (some (E7 (Cz F) xs))
theorem Bz.same{F:List Sl->Option Rv}{xs ys:List D}(h:Bz F xs)(c:ys.Perm xs)(d:ys.Pairwise λa b=>Cz F b a=false):ys=E7 (Cz F) xs:=
 VT (le:=λa b=>Cz F b a=false) (λa b e f g i=>h.anti a (c.subset e) b ((Nj _ xs).subset f) i g) d (Ww h xs λ_ j=>j) (c.trans (Nj _ xs).symm)
theorem Wx{F:List Sl->Option Rv}{xs:List D}(h:Bz F xs):HR F xs=some (E7 (Cz F) xs):=Lg h
theorem Wy{F:List Sl->Option Rv}{xs ys:List D}(h:HR F xs=some ys):Bz F xs/\ys=E7 (Cz F) xs:=by
 unfold HR gd at h
 split at h
 ·next a=>cases h;exact⟨a,rfl⟩
 ·cases h
section
variable{X:Cx}{pins:List (Ac×AM)}{σ:St}{H:Hp}{s:Ab}{N:Fb}
theorem Wz{K:As}{a:List D}{vs:List V}(h:Ad K N H a vs):∀(b:List Nat),(∀j∈b,j<a.length)->Ad K N H (b.map λj=>a.getD j .non) (b.map λj=>vs.getD j .non)
 |[],_=>Ad.nil
 |j::b,c=>by
  have f:=c j BA
  obtain⟨v,e,d⟩:=h.get (CH f)
  refine Ad.cons ?_ (Wz h b λk g=>c k (Bt _ g))
  have i:a.getD j .non=a[j]:=by simp[Cq,f]
  have l:vs.getD j .non=v:=by simp[Cq,e]
  show AI K N H (a.getD j .non) (vs.getD j .non)
  rw[i,l];exact d
theorem Nk{vs:List V}{us:List Aa}(h:Ap vs us):∀(b:List Nat),Ap (b.map λj=>vs.getD j .non) (b.map λj=>us.getD j .none)
 |[]=>.nil
 |j::b=>by
  refine .cons ?_ (Nk h b)
  induction h generalizing j with
  |nil=>simp;rfl
  |cons a _ c=>
   cases j with
   |zero=>simpa using a
   |succ j=>simpa using c j
theorem j8(I:Inv X pins σ H s){prog:A4}{w:Aj}(A:Ak)(hu:A.units+40<AF){E:Aa->Ab->Prop}{F:List Sl->Option Rv}{g:List D}(h:Bz F g){kvs:List V}{us f:List Aa}
  (d:Ad X.K N H (g.map (Dm F)) kvs) (r:Ap kvs us) (l:f.length=g.length) {a:Ac} {n:Nat} {O:Aa} {P:PySem.Fin->Ab->Prop}
  (q:∀(p:List Nat) (st:SortSt),p.Perm (A7 g.length)->(p.map λj=>g.getD j .non)=E7 (Cz F) g->Array.map (λx=>x.2) (arrOf st)=(p.map λj=>f.getD j .none).toArray->failedOf st=none->wpAny (Af prog w) A (ksk_tail a false n O st) P E s):
  wpAny (Af prog w) A (ksk_end a false f.toArray n O us.toArray) P E s:=by
 unfold ksk_end
 simp only[DS,if_false]
 have l1:=d.length
 have l2:=r.length
 rw[BY]at l1
 by_cases y:f.toArray.size<2
 ·rw[if_pos y]
  simp only[y,if_true]
  have L:us.length=f.length:=by omega
  rw[BF]at y
  refine Ag (AE ?_)
  refine Ag ?_
  show wpAny _ _ (AQ ((),SortSt.mk' general' (us.toArray.zip f.toArray) #[] 7 none)) _ _ _
  refine AE ?_
  refine q (A7 g.length) (SortSt.mk' general' (us.toArray.zip f.toArray) #[] 7 none) (.refl _) ?_ ?_ rfl
  ·have e:(A7 g.length).map (λj=>g.getD j .non)=g:=by
    apply JL
    intro i
    by_cases l:i<g.length
    ·simp[l]
    ·simp[l]
   rw[e]
   refine h.same (.refl _) ?_
   match g,l with
   |[],_=>exact .nil
   |[a],_=>exact List.pairwise_singleton _ _
   |a::b::c,l=>simp at l;omega
  ·show Array.map (λx=>x.2) (us.toArray.zip f.toArray)=_
   have e:(A7 g.length).map (λj=>f.getD j .none)=f:=by
    rw[<- l]
    apply JL
    intro i
    by_cases l:i<f.length
    ·simp[l]
    ·simp[l]
   rw[e]
   rw[List.zip_toArray,List.map_toArray]
   congr 1
   exact List.map_snd_zip (by omega)
 ·rw[if_neg y]
  simp only[y,if_false]
  rw[BF]at y
  obtain⟨b,o⟩:=h.mode
  refine Ag (j7 I b (g.map (Dm F)) kvs us d r (λk hk=>by
   obtain⟨x,hx,rfl⟩:=List.mem_map.mp hk
   exact o x hx) (by omega) ?_)
  have L:us.length=f.length:=by omega
  have T:(us.toArray.zip f.toArray).size=g.length:=by simp;omega
  have hr:=kas_range (us.toArray.zip f.toArray)
  rw[T]at hr
  have U:SortSt.mk' (LI b) (us.toArray.zip f.toArray) #[] 7 none=kas_st (LI b) (us.toArray.zip f.toArray) (A7 g.length).toArray:=by
   unfold kas_st;rw[hr]
  refine Ag ?_
  rw[U]
  have W:WO (λi j=>Cz F (g.getD i .non) (g.getD j .non)) g.length:=by
   have mem:∀i,i<g.length->g.getD i .non∈g:=λi l=>by
    have n:g.getD i .non=g[i]:=by simp[Cq,l]
    rw[n];exact ET l
   exact⟨λa b z o Y=>h.asym _ (mem a z) _ (mem b o) Y,λa b c z o hc Y=>h.neg _ (mem a z) _ (mem b o) _ (mem c hc) Y⟩
  have hc:∀i j (C:Bool->Ab->Prop),i<g.length->j<g.length->C (Cz F (g.getD i .non) (g.getD j .non)) s->kas_cmp prog w A (LI b) (us.toArray.zip f.toArray) i j C s:=λi j C t u hq=>by
   unfold kas_cmp
   rw[kat_item L,kat_item L]
   have mem:∀i,i<g.length->g.getD i .non∈g:=λi l=>by
    have n:g.getD i .non=g[i]:=by simp[Cq,l]
    rw[n];exact ET l
   obtain⟨rr,B⟩:=h.cmp _ (mem i t) _ (mem j u)
   rw[QR B]at hq
   have J:∀i,i<g.length->∃v,AI X.K N H (Dm F (g.getD i .non)) v/\RelV v (us.getD i .none):=λi l=>by
    have n:g.getD i .non=g[i]:=by simp[Cq,l]
    obtain⟨v,ev,dv⟩:=d.get (i:=i) (d:=Dm F g[i]) (by simp[l])
    refine⟨v,by rw[n];exact dv,?_⟩
    have:=Nk r [i]
    cases this with
    |cons a _=>
     have e2:kvs.getD i .non=v:=by simp[Cq,ev]
     rw[<- e2]
     exact a
   obtain⟨v1,dv1,rv1⟩:=J i t
   obtain⟨v2,dv2,rv2⟩:=J j u
   exact jZ I A hu b rr B (o _ (mem i t)) (o _ (mem j u)) dv1 dv2 rv1 rv2 hq
  refine kas_runs (Q:=λ_ st M=>wpAny (Af prog w) A (ksk_tail a false n O st) P E M) (G:=λp M=>M=s/\Bs g.length p/\GH (λi j=>Cz F (g.getD i .non) (g.getD j .non)) p g.length) (by omega) h.few (λp st M hp z hf hg=>?_) (jU W hc (by omega) λp a b=>⟨rfl,a,b⟩)
  obtain⟨rfl,hB,hS⟩:=hg
  have m:p.toList.Perm (A7 g.length):=by
   have:=hB.toList
   simpa using this
  refine q p.toList st m ?_ (kat_snds L z) hf
  refine h.same ?_ ?_
  ·have e:(A7 g.length).map (λj=>g.getD j .non)=g:=by
    apply JL
    intro i
    by_cases l:i<g.length
    ·simp[l]
    ·simp[l]
   have:=m.map λj=>g.getD j .non
   rw[e]at this
   exact this
  ·rw[List.pairwise_map]
   rw[List.pairwise_iff_getElem]
   intro i j l hj hij
   have hsz':=hB.size
   have:=hS i j (by omega) (by simp at hj;omega)
   unfold Ea Bg at this
   simp at l hj
   simpa[Array.getD,l,hj]using this
end
section
variable{X:Cx}{pins:List (Ac×AM)}{σ:St}{H:Hp}{s:Ab}{N:Fb}
abbrev DE(a:List Aa)(n:Nat):AM:={cls:=.type "list",data:=.seq a.toArray n}
theorem Inv.rawset{a:Ac}{c its':List Aa}{n:Nat}{f:Array Aa->Array Aa}(I:Inv X pins σ H s)(d:H a=none)(o:Off X pins a)(e:s.heap.get? a=some (DE c n))(g:f c.toArray=its'.toArray):
  ∃h,(s.heap.update a (G2 f)).get? a=some (DE its' h)/\Inv X pins σ H {s with heap:=s.heap.update a (G2 f)}:=by
 have q:=PySem.IsL.update e f
 rw[g]at q
 exact⟨_,q,I.turned (t':=s.toks) (λb u i j=>(K2 s.heap (G2 f) (Br i)).trans j) d o.nL (.inr o.s0) o.cl o.pn⟩
theorem QT(a:List Aa)(n:Nat)(v:Option Aa):(DE a n).data≠.cell v:=nofun
theorem Off.more{a b:Ac}{o:AM}(f:Off X pins a)(h:b≠a):Off X (pins++[(b,o)]) a:=
 ⟨f.nL,f.s0,f.cl,λp c=>by
  rw[<- Hj]at c
  rcases List.mem_append.mp c with c|c
  ·exact f.pn p c
  ·simp only[GC]at c;subst c;exact h,f.nf⟩
theorem Inv.pinGet{a:Ac}{o:AM}(I:Inv X pins σ H s)(h:(a,o)∈pins):s.heap.get? a=some o/\H a=none:=⟨(I.pin _ (C6 _ h)).1,(I.pin _ (C6 _ h)).2.1⟩
theorem j9{prog:A4}{w:Aj}(A:Ak){D c:Ac}{d m:Nat}{us out:List Aa}{vs:List V}{E:Aa->Ab->Prop}{P:PySem.Fin->Ab->Prop}{st:SortSt}(I:Inv X (pins++[(D,DE [] d)]++[(c,DE us m)]) σ H s)
  (i:Off X pins D) (n:Off X pins c) (ne:D≠c) (g:us.length<=AG) (h:Array.map (λx=>x.2) (arrOf st)=out.toArray) (o:failedOf st=none) (j:Ap vs out) (hz:vs.length<=AG)
  (q:∀s',Inv X pins σ (A3 H D (.lst vs)) s'->P (.done (.ret .none)) s'):wpAny (Af prog w) A (ksk_tail D false d (.ref c) st) P E s:=by
 obtain⟨k,p⟩:=I.pinGet (a:=c) (C6 _ BA)
 obtain⟨r,hd⟩:=I.pinGet (a:=D) (Jj _ (C6 _ BA))
 have t:Inv X (pins++[(D,DE [] d)]) σ H s:=I.unpinned
 obtain⟨n2,C,l⟩:=t.rawset (f:=λ_=>#[]) (its':=[]) p (n.more ne) k rfl
 unfold ksk_tail
 refine Ag (listUpdate_at k rfl ?_ (by simpa using g) (by simp))
 refine Ag (Hd ?_)
 obtain⟨b,_⟩:=l.pinGet (a:=D) (C6 _ BA)
 refine Ag (seqEpoch_at b rfl ?_)
 have u:Inv X pins σ H _:=l.unpinned
 have v:out.length<=AG:=by rw[<- j.length];exact hz
 obtain⟨n3,y,z⟩:=u.rawset (f:=λ_=>out.toArray) (its':=out) hd i b rfl
 simp only[DS,if_false,h]
 refine Ag (listUpdate_at b rfl ?_ (by simp) (by simp;omega))
 have B:(d != d)=false:=by simp
 rw[o]
 simp only[B,DS,if_false]
 exact AE (q _ (z.catch hd i y j hz))
variable{k:Nat}{fn:Ac}{fd:Bi}{ps:List Ae}{F:List Sl->Option Rv}
theorem kd(m:Az X.prog X.w X.K X.mg X.base Bh k fn fd ps (Bu X.K F))(i:Binds X.K fd ps [])(I:Inv X pins σ H s)(A:Ak)(B:Bf k A)(C:C7 X.prog X.w X.K X.mg X.base A X.stack s H)(n:∀a,N a->H a≠none){x:D}{v:V}{u:Aa}(d:AI X.K N H x v)(G:RelV v u){r:Rv}(o:F [.val x]=some r)
  {E:Aa->Ab->Prop} {Q:Aa->Ab->Prop} (q:∀h s' c H',Inv X pins σ H' s'->Am H H'->AI X.K N H' (Dm F x) c->RelV c h->Q h s'):wpAny (Af X.prog X.w) A (call (.ref fn) [u]) Q E s:=by
 have f:Bu X.K F [v] H (λc H'=>Am H H'/\AI X.K N H' (Dm F x) c) E0:=by
  refine⟨N,[.val x],r,n,?_,o,λc H' j p=>⟨j,?_⟩⟩
  ·exact⟨v,[],rfl,d,rfl⟩
  ·have e:Dm F x=Fn r:=by unfold Dm;rw[o];rfl
   rw[e]
   cases r with
   |val y=>exact p
   |own T t=>
    obtain⟨a,J,L,z1,z2,z3⟩:=p
    simp only[Fn,AI]
    exact⟨a,J,L,.of (λz=>n a z z1) z2,z3.nw λb i=>.inl (.inl i)⟩
 have M:([u]:List Aa).length=ps.length:=by
  have:=m.len _ _ _ _ f
  simpa using this
 refine wpAny_call (codeAny_mono (m.run A X.stack s H ⟨[u],[]⟩ [u] [v] _ E0 B C (by simpa using i s [u] I.kIn (by simpa using M)) (.cons G .nil) f) λr s' g=>?_)
 cases r with
 |error e=>exact BW g
 |ok t=>
  cases t with
  |ret h=>
   obtain⟨c,H',O,l,j,hd⟩:=I.after g
   exact q h s' c H' O j hd l
  |next=>exact BW g
  |brk=>exact BW g
  |cont=>exact BW g
theorem Am.none{H H':Hp}(h:Am H H'){a:Ac}(e:H' a=none):H a=none:=by
 cases q:H a with
 |none=>rfl
 |some o=>rw[h a o q]at e;cases e
theorem kf(Fo:Az X.prog X.w X.K X.mg X.base Bh k fn fd ps (Bu X.K F))(hb:Binds X.K fd ps [])(A:Ak)(hr:Bf k A)(hu:A.units+40<AF)(hA:∀s H,C7 X.prog X.w X.K X.mg X.base X.A X.stack s H->C7 X.prog X.w X.K X.mg X.base A X.stack s H)
  {h i:Ac} {n e0:Nat} (I:Inv X (pins++[(h,DE [] n)]++[(i,DE [] e0)]) σ H s) (nh:∀a,N a->H a≠none) {c:List Aa} {xs:List V} {d:List D} (fD:Off X pins h) (L:Off X pins i) (ne:h≠i) (M:Ap xs c) (O:Ad X.K N H d xs) (ok:Bz F d)
  {E:Aa->Ab->Prop} {P:PySem.Fin->Ab->Prop} (q:∀s' H' vs,Inv X pins σ (A3 H' h (.lst vs)) s'->Am H H'->H' h=none->Ad X.K N H' (E7 (Cz F) d) vs->P (.done (.ret .none)) s'):
  wpAny (Af X.prog X.w) A (ksk_rest h (.ref fn) false c.toArray n (.ref i)) P E s:=by
 have l1:=O.length
 have l2:=M.length
 have few:=ok.few
 have hsl:AG=16777216:=BM
 unfold ksk_rest
 refine Ag (FK ?_)
 refine Ag (wpAny_forIn_array' _ (λB3 _ s'=>∃(done:List Aa) (H':Hp) (l:List Aa) (g:List V) (t:Nat),c=done++B3/\l.length=done.length/\Inv X (pins++[(h,DE [] n)]++[(i,DE l t)]) σ H' s'/\Am H H'/\Ap g l/\Ad X.K N H' ((d.take done.length).map (Dm F)) g) _ ?_ ?_ c.toArray PUnit.unit ?_)
 ·rintro u B3 b s1 ⟨done,H1,l,g,t,o,hl,m,sm,Q,B⟩
  have T:done.length<d.length:=by
   have:=congrArg List.length o
   simp at this
   omega
  have C:d[done.length]?=some d[done.length]:=CH T
  generalize d[done.length]=x at C
  obtain⟨v,hv,dv⟩:=O.get C
  have ru:RelV v u:=by
   have:=Nk M [done.length]
   cases this with
   |cons a _=>
    have n:xs.getD done.length .non=v:=by simp[Cq,hv]
    have t:c.getD done.length .none=u:=by rw[o];simp[Cq]
    rw[<- n,<- t];exact a
  obtain⟨r,hF⟩:=ok.tells x (Gp C)
  refine Ag (HK ?_)
  refine kd (N:=N) Fo hb m A hr (hA _ _ m.env0) (λa U z=>nh a U (sm.none z)) (dv.same sm) ru hF λY s2 v' H2 I2 y dv2 rv2=>?_
  obtain⟨G,hk⟩:=I2.pinGet (a:=i) (C6 _ BA)
  have I3:Inv X (pins++[(h,DE [] n)]) σ H2 s2:=I2.unpinned
  obtain⟨n3,g3,I4⟩:=I3.rawset (f:=λx=>x.push Y) (its':=l++[Y]) hk (L.more ne) G (by simp)
  refine Ag (listUpdate_at G rfl ?_ (by simp;omega) (by simp;omega))
  refine AE ?_
  refine⟨done++[u],H2,l++[Y],g++[v'],n3,by rw[o];simp,by simp[hl],I4.pin1 hk (L.more ne) g3 (QT _ _),sm.trans y,Q.append (.cons rv2 .nil),?_⟩
  have e:(d.take (done++[u]).length).map (Dm F)=(d.take done.length).map (Dm F)++[Dm F x]:=by
   rw[Fj,List.length_singleton,List.take_succ,C]
   simp
  rw[e]
  exact(B.same y).append (Ad.cons dv2 Ad.nil)
 ·rintro b s1 ⟨done,H1,l,g,t,o,hl,m,sm,Q,B⟩
  rw[Es]at o
  subst o
  obtain⟨G,hk⟩:=m.pinGet (a:=i) (C6 _ BA)
  obtain⟨gd',hd⟩:=m.pinGet (a:=h) (Jj _ (C6 _ BA))
  refine Ag (listItems_at G rfl ?_)
  have ht:d.take c.length=d:=JY (by omega)
  rw[ht]at B
  refine j8 (N:=N) m A hu ok B Q (by omega) λp st hp hs U hf=>?_
  have hpl:p.length=d.length:=by have:=hp.length_eq;simpa using this
  refine j9 A m fD L ne (by omega) U hf (Nk M p) (by rw[BY];omega) λs' J=>?_
  refine q s' H1 _ J sm hd ?_
  rw[<- hs]
  exact Wz (O.same sm) p λj hj=>by have:=hp.subset hj;simpa using this
 ·exact⟨[],H,[],[],e0,by simp,rfl,I,Am.refl H,.nil,Ad.nil⟩
theorem WA(J:Az X.prog X.w X.K X.mg X.base Bh k fn fd ps (Bu X.K F))(L:Binds X.K fd ps [])(A:Ak)(M:Bf k A)(O:A.units+40<AF)(Q:∀s H,C7 X.prog X.w X.K X.mg X.base X.A X.stack s H->C7 X.prog X.w X.K X.mg X.base A X.stack s H)
  (I:Inv X pins σ H s) (T:∀a,N a->H a≠none) {d:Ac} {c:List Aa} {n0:Nat} {xs:List V} {l:List D} (g:s.heap.get? d=some (DE c n0)) (v:H d=none) (m:Off X pins d) (y:Ap xs c) (z:Ad X.K N H l xs) (ok:Bz F l)
  {E:Aa->Ab->Prop} {P:PySem.Fin->Ab->Prop} (q:∀s' H' vs,Inv X pins σ (A3 H' d (.lst vs)) s'->Am H H'->H' d=none->Ad X.K N H' (E7 (Cz F) l) vs->P (.done (.ret .none)) s'):
  wpAny (Af X.prog X.w) A (ksk_tree d (.ref fn) false) P E s:=by
 have l1:=z.length
 have l2:=y.length
 have few:=ok.few
 have U:AG=16777216:=BM
 unfold ksk_tree
 refine Ag (listItems_at g rfl ?_)
 obtain⟨n1,B,Y⟩:=I.rawset (f:=λ_=>#[]) (its':=[]) v m g rfl
 refine Ag (listUpdate_at g rfl ?_ (by simp;omega) (by simp))
 refine Ag (seqEpoch_at B rfl ?_)
 refine Ag (wpAny_newTuple ?_ (by simp;omega))
 generalize n:({heap:=s.heap.update d (G2 λx=>#[]),gens:=s.gens,drawn:=s.drawn,toks:=s.toks,os:=s.os}:Ab)=h at *
 have p:h.heap.get? d=some (DE [] n1):=by rw[<- n];exact B
 have r:=Y.kept (t':=h.toks) (λb u e=>Bk {cls:=.type "tuple",data:=.seq c.toArray} e)
 have g2:=Bk {cls:=.type "tuple",data:=.seq c.toArray} p
 generalize t:({heap:=h.heap.push {cls:=.type "tuple",data:=.seq c.toArray},gens:=h.gens,drawn:=h.drawn,toks:=h.toks,os:=h.os}:Ab)=i at *
 have j:i.heap.get? d=some (DE [] n1):=by rw[<- t];exact g2
 refine Ag (wpAny_newList ?_ (by simp))
 have I3:=r.kept (t':=i.toks) (λb u e=>Bk (DE [] 0) e)
 have g3:=Bk (DE [] 0) j
 have gk:=B0 i.heap (o:=DE [] 0) rfl
 have G:=r.off (BB i.heap.objs.size)
 have hK:H i.heap.objs.size=none:=r.fresh
 have ne:d≠i.heap.objs.size:=Cs (By j)
 refine Ei ?_
 exact kf (N:=N) J L A M O Q ((I3.pin1 v m g3 (QT _ _)).pin1 hK (G.more ne) gk (QT _ _)) T m G ne y z ok q
theorem kg(C:Az X.prog X.w X.K X.mg X.base Bh k fn fd ps (Bu X.K F))(c:Binds X.K fd ps [])(t:Bf (k+2) X.A)
  (I:Inv X pins σ H s) (E:∀a,N a->H a≠none) {a:Ac} {xs:List V} {i:List D} (G:BE X.K H a xs) (v:Ad X.K N H i xs) (ok:Bz F i) {Q:VK}
  (q:∀f vs H',Am H H'->H f=none->H' f=some (.lst vs)->Ad X.K (λb=>N b\/b=f) H' (E7 (Cz F) i) vs->Q (.ref f) H'):
  wpAny (Af X.prog X.w) X.A (call (.builtin "sorted") [.ref a] [("key",.ref fn)]) (EP X pins σ Q) X.xe s:=by
 have l1:=v.length
 have few:=ok.few
 have L:AG=16777216:=BM
 obtain⟨d,x,⟨o,n,O,U,Y,hd⟩,hz⟩:=I.list G
 have l2:=x.length
 refine wpAny_call (LJ plain_sorted entry_sorted ?_)
 have j:Nl "sorted" ⟨[.ref a],[("key",.ref fn)]⟩=AQ ():=by rfl
 rw[j]
 refine AE ?_
 unfold PySem.Builtin.sorted
 have m:checkCount "sorted" 1 1 1=AQ ():=rfl
 show wpAny _ _ (do checkCount "sorted" 1 1 1;let y <- collect (.ref a);let l <- newList y;let _ <- holding [l] (call (.builtin "list.sort") [l] [("key",.ref fn)]);ret l) _ _ _
 rw[m]
 refine Ag (AE ?_)
 refine Ag (wpAny_collect_seq a (T:="list") (.inl rfl) O U hd (λh1 k1=>?_) (by simp;omega))
 have p:=I.kept (t':=s.toks) k1
 refine Ag (wpAny_newList ?_ (by simp;omega))
 generalize hs1:({heap:=h1,gens:=s.gens,drawn:=s.drawn,toks:=s.toks,os:=s.os}:Ab)=h at *
 have I2:=p.kept (t':=h.toks) (λb u e=>Bk (DE d 0) e)
 have g:=B0 h.heap (o:=DE d 0) rfl
 have fD:=p.off (BB h.heap.objs.size)
 have r:H h.heap.objs.size=none:=p.fresh
 refine Ag (Ei ?_)
 refine wpAny_call (LJ PySem.F.slot_list_sort.plain PySem.F.entry_list_sort ?_)
 refine PySem.F.slot_list_sort.check _ _ _ _ _ _ _ _ ⟨_,g,rfl⟩ rfl ?_
 rw[ksk_t1]
 refine WA (N:=N) C c X.A.in1.in1 t.in1.in1 ?_ (λs H e=>e.in1.in1) I2 E g r fD x v ok λs' H' vs J sm B dv=>?_
 ·have:=t.un;show X.A.units+1+1+40<_;omega
 ·refine AE ?_
  refine⟨.ref _,_,J,rfl,q _ vs _ (λb u e=>?_) r Ef ?_⟩
  ·rw[ZK (λz=>by rw[z,r]at e;cases e)];exact sm b u e
  ·exact Ad.step (M:=λ_=>False) ⟨λb u e z=>by
    rw[ZK (λz=>by rw[z,B]at e;cases e)];exact e,λb c=>by
    rcases c with c|c
    ·exact .inl c
    ·subst c;exact .inr B⟩ _ _ dv
end
section
variable{X:Cx}{M:Fb}{H0:Hp}{k:Nat}{fn:Ac}{fd:Bi}{ps:List Ae}{F:List Sl->Option Rv}{e:Expr}{f:VE->Option D}{x y:Ae}{p p2 kpos pos:Bc}
def Nm(F:List Sl->Option Rv)(f:VE->Option D):VE->Option (List D):=λa=>match f a with
 |some (.lst b)=>HR F b
 |_=>none
theorem kh(Y:Az X.prog X.w X.K X.mg X.base Bh k fn fd ps (Bu X.K F))(hr:Bf (k+2) X.A)(hg:Gl X x)(hm:X.mg x=none)(hv:Ep x=some (.builtin "sorted"))(j:Gl X y)(l:X.mg y=some (.ref fn))(hb:Binds X.K fd ps [])(m:JE X e (tP X.K M H0 f))
  (hn:x≠"__name__":=by decide) (n:(x==("__debug__":Ae))=false:=by decide) (d:(y==("__debug__":Ae))=false:=by decide) (J:AX [e] X.env=(false,AC e X.env)::AX [] X.env:=by exact DA (λ_ _ z=>nomatch z)):
  JE X (.Call (.Name x p) [e] [⟨some "key",.Name y p2,kpos⟩] pos) (tF X.K M H0 (Nm F f)):=⟨have m:=m.h;by
 intro b s g H Q I h
 obtain⟨o,ys,R,i,q⟩:=h
 refine KZ (FU I hg hm hv ?_ hn n)
 unfold Nm at i
 split at i
 ·next L hf=>
  obtain⟨ok,rfl⟩:=Wy i
  have O:=(Ej m (BK (X:=X)) J) pos b s g H (λvs c=>∃v,vs=[v]/\Am H c/\AK X.K (Nf M o g) c (.lst L) v) I ⟨o,.lst L,R,hf,λv c r d1=>⟨v,rfl,r,d1⟩⟩
  have t:=UG (nm:=some "key") (kpos:=kpos) (My (v:=.ref fn) (pos:=p2) j l rfl d) (UF (X:=X))
  rw[J]at O ⊢
  refine callWith_builtin_kwB rfl rfl ?_
  unfold evalArgs
  refine Ag (Bb O λus r B=>?_)
  obtain⟨vs,c,I1,r1,v,rfl,sm,d1⟩:=B
  refine Ag (AE ?_)
  refine Ei ?_
  refine Ag (Bb (t pos b r g c (λT U=>T=[.ref fn]/\U=c) I1 ⟨rfl,rfl⟩) λks s2 B=>?_)
  obtain⟨T,U,I2,r2,rfl,rfl⟩:=B
  refine Ag (AE ?_)
  refine AE ?_
  obtain⟨u,rfl,ru⟩:=D3 r1
  obtain⟨u2,rfl,C⟩:=D3 r2
  cases C
  obtain⟨a,ws,rfl,sq,dl⟩:=d1
  cases ru
  have R1:=R.st sm
  exact kg (N:=Nf M o g) Y hb hr I2 R1.nh sq dl ok λda vs H' s' E G dv=>q da vs H' (sm.trans s') (sm.none E) G dv
 ·cases i⟩
end
end L2
namespace L2
open PySem PySem.Spec PyProof.Rows
section
variable{X:Cx}{K:As}{M:Fb}{H0:Hp}{pos:Bc}{tg elt iter:Expr}{ifs:List Expr}{scope:Scope}{ws:List Nat}{f:VE->Option (List D)}{b:D->VE->Option VE}{t:VE->Option Bool}{e:VE->Option D}{k:Nat}{oix:List Nat}
@[simp] theorem qZ(xs:List D):Vf (.lst xs)=some xs:=rfl
end
end L2
namespace L2
open PySem PySem.Spec PyProof.Rows PySem.W
theorem ki:typeLookup (.type "list") ("keys":Ae)=AQ none:=am_miss_of_fast (by kernel_rfl)
theorem kj{prog:A4}{w:Aj}{A:Ak}{E:Aa->Ab->Prop}{s:Ab}{a:Ac}{f:Array Aa}{Q:Option Aa->Ab->Prop}(p:PlainL s.heap a f)(k:A.handled=none)
  (q:∀h' h,(∀b o,s.heap.get? b=some o->h'.get? b=some o)->Q none {s with heap:=h',toks:=h}):wpAny (Af prog w) A (getAttr? (.ref a) "keys") Q E s:=by
 obtain⟨o,n,e,i,hd,j⟩:=p
 obtain⟨c,u,v,l⟩:=o
 dsimp only at i hd j
 subst i hd j
 obtain⟨m,g,d,h,os⟩:=s
 have ty:∀t,(⟨m,g,d,t,os⟩:Ab).TypeIs (.ref a) "list":=λ_=>⟨_,e,rfl⟩
 have x:=sub_AttributeError
 have y:=F.slot_list_getattribute.lookup
 have z:=F.slot_list_getattribute.bind (.ref a)
 have B:=am_list_getattr_none
 unfold getAttr? getAttrBy? getAttrBy
 repeat(any_goals(first
  |assumption
  |exact ty _
  |((with_reducible show wpAny _ _ (call (Value.builtin "list.__getattribute__") _ _) _ _ _)
    refine call_meets F.slot_list_getattribute (ty _) am_entry_list_getattribute (F.args_list_getattribute_2 _ _) (meets_getattribute_miss_list a f n l "keys" _ ki (by decide +kernel) (by decide +kernel)) ⟨e,k,λr C G new=>?_⟩)
  |wp_step))
 obtain⟨H,I,ex⟩:=new.there
 show wpAny _ _ (getattributeRaised _ _ _ _ _ _ _) _ _ _
 unfold getattributeRaised
 repeat(any_goals(first|assumption|wp_step))
 exact q r _ new.keeps
theorem WB:entryFor table "dict.update.loop"=some Aw.«dict.update.loop»:=entryFor_of_tree (by kernel_rfl)
theorem Nn:plainId "dict.update.loop"=true:=by decide +kernel
section
variable{X:Cx}{pins:List (Ac×AM)}{σ:St}{H:Hp}{s:Ab}{A:Ak}{E:Aa->Ab->Prop}{tr:List T3}{a:Ac}{k:KT}{y v:V}{u r:Aa}
theorem ko{Q:Unit->Ab->Prop}(M:A.units+1<AF)(I:Inv X pins σ H s)(e:H a=some (DC tr))(f:∀t∈tr,DX X.K H t.1 t.2.1)(C:GF k tr)(G:DX X.K H k y)(J:RelV y u)(L:RelV v r)(U:tr.length<AG)
  (q:∀h' t',Inv X pins σ (A3 H a (DC (DN tr k y v))) {s with heap:=h',toks:=t' }->Dr a s.heap h'->Q () {s with heap:=h',toks:=t' }):wpAny (Af X.prog X.w) A.in1 (dictSet a u r) Q E s:=by
 have h:Cp X.K H a tr:=⟨.inl e,f⟩
 have g:(DN tr k y v).length<=AG:=by have:=QG tr k y v;omega
 cases k with
 | «at» b=>
  cases G
  obtain⟨z,hd,nd,j,c,m⟩:=J8 I h C
  have n:j.length<=AG:=by rw[<- Gj c];exact z
  refine wpAny_dictSet_pairs (knd:=Z7 X.prog X.w) (hsz:=n) (Hf J) m λh' d i=>q _ _ ?_ i
  have x:∃q,h'.get? a=some q:=let⟨q,_,_,B,_⟩:=d;⟨q,B⟩
  exact Ka I (by rw[e];exact HL) i x (QI g hd (J7 nd) (c.put L) d)
 |tup l=>
  obtain⟨p,O,T⟩:=G
  subst O
  cases(show u=Cn p from J)
  obtain⟨z,hd,nd,j,c,m⟩:=J9 I h C
  have n:j.length<=AG:=by rw[<- Gj c];exact z
  refine wpAny_dictSet_heap (hsz:=n) (Ly M) (IJ I T) m λh' d i=>q _ _ ?_ i
  have x:∃q,h'.get? a=some q:=let⟨q,_,_,B,_⟩:=d;⟨q,B⟩
  exact Ka I (by rw[e];exact HL) i x (QJ g hd (J7 nd) (c.put L) d)
end
theorem WC{K:As}{H H':Hp}{k:KT}{v:V}(h:DX K H k v)(s:Am H H'):DX K H' k v:=by
 cases k with
 | «at» a=>exact h
 |tup l=>obtain⟨p,e,b⟩:=h;exact⟨p,e,b.same s⟩
def Hk:Bx->List D->Option Bx
 |a,[]=>some a
 |a,.tup [y,d]::r=>match Dl y with
  |some k=>if DD k a&&decide (a.length<AG)then Hk (B6 a k d) r else none
  |none=>none
 |_,_=>none
theorem kq{M:Model}{A:Ak}{E:Aa->Ab->Prop}{s:Ab}{p:Ac}{a:Array Aa}{Q:List Aa->Ab->Prop}(h:IsTup s.heap p a)(q:Q a.toList s):wpAny M A (Builtin.Dict.pairItems (.ref p)) Q E s:=by
 obtain⟨o,e,b,n,hd⟩:=h
 unfold Builtin.Dict.pairItems
 refine Ag (Iv (T:="tuple") ⟨o,e,b⟩ ?_)
 rw[if_pos (by decide)]
 unfold seqItems?
 refine Ag (Ag (wpAny_load e ?_))
 rw[hd]
 exact AE (AE q)
section
variable{X:Cx}{pins:List (Ac×AM)}{σ:St}{H:Hp}{A:Ak}{a it l:Ac}{N:Fb}{us:List Aa}{R:Result->Ab->Prop}
theorem WE(hu:A.units+1<AF)(hA:A.in1.handled=none)(hH:H a=none)(g:Fh X pins H it)(h:it≠a)(x:l≠it)(z:l≠a):∀(J:List D)(vs:List V)(ws:List Aa)(i:Nat)(s:Ab)(kvs:Bx)(j:List T3)(c:Bx),
  us.drop i=ws->Ap vs ws->Ad X.K N H J vs->PD X.K N H kvs j->Inv X pins σ (A3 H a (DC j)) s->s.heap.IsListIter it l i->s.heap.IsList l us.toArray->Hk kvs J=some c ->
  (∀s' B,Inv X pins σ (A3 H a (DC B)) s'->PD X.K N H c B->R (.ok (.ret .none)) s') ->
  codeAny (Af X.prog X.w) A (.builtin "dict.update.loop" ⟨[.ref a,.ref it,AH (i:Int),.none],[]⟩) R s
 |[],vs,ws,i,s,kvs,j,c,hd,Q,L,n,I,m,M,f,q=>by
  cases L
  cases Q
  cases f
  refine Jv WB ?_
  rw[K4 Nn _]
  show wpAny _ A.in1 (Bo (.ref it) >>= _) _ _ s
  have T:us.toArray[i]?=none:=by
   have:=List.drop_eq_nil_iff.mp hd
   simp[this]
  refine Ag (wpAny_pyNext_list_end hA m M T λh' ke=>?_)
  have O:=I.turned (t':=s.toks) (λb o U e=>ke b o U e) (by rw[ZK h];exact g.1) g.2.1 g.2.2.2.1 g.2.2.2.2.1 g.2.2.2.2.2
  exact Ag (AE (AE (q _ j O n)))
 |d::J,vs,ws,i,s,kvs,j,c,hd,Q,L,n,I,m,M,f,q=>by
  simp only[Ad]at L
  obtain⟨v,Y,rfl,d1,dn'⟩:=L
  cases Q with
  |@cons _ u _ C rv hv'=>
  unfold Hk at f
  split at f
  ·cases ‹_::_=[]›
  ·next y dd r e1=>
   cases e1
   cases hk:Dl y with
   |none=>rw[hk]at f;cases f
   |some k=>
    rw[hk]at f
    dsimp only at f
    split at f
    ·next hc=>
     rw[Dj,decide_eq_true_eq]at hc
     have ey:=IL hk
     subst ey
     simp only[AI]at d1
     obtain⟨p,vs2,rfl,sq,dl⟩:=d1
     simp only[Ad]at dl
     obtain⟨kv,r2,rfl,dk,vv,r3,rfl,dv,rfl⟩:=dl
     cases rv
     have hat:us.toArray[i]?=some (.ref p):=by
      have h0:(us.drop i)[0]?=some (Cn p):=by rw[hd];rfl
      rw[MJ]at h0
      simpa using h0
     have hd':us.drop (i+1)=C:=by
      rw[<- List.tail_drop,hd];rfl
     refine Jv WB ?_
     rw[K4 Nn _]
     show wpAny _ A.in1 (Bo (.ref it) >>= _) _ _ s
     refine Ag (wpAny_pyNext_list_item m M hat λh' E sb=>?_)
     have O:=I.turned (t':=s.toks) (λb o U e=>(sb.2 b U).trans e) (by rw[ZK h];exact g.1) g.2.1 g.2.2.2.1 g.2.2.2.2.1 g.2.2.2.2.2
     have sm:Am H (A3 H a (DC j)):=FF hH
     obtain⟨its,rv2,ht,_⟩:=O.tuple (sq.same sm)
     obtain⟨u1,u2,rfl,r1,r2⟩:=KU rv2
     have hl':h'.IsList l us.toArray:=M.at λo e=>(sb.2 l x).trans e
     refine Ag (Ei ?_)
     refine Ag (wpAny_tryCatch (kq ht ?_))
     dsimp only
     refine Ei ?_
     refine ko hu O Ef (λt ht=>WC (n.keys t ht) sm) (n.hom hc.1) (WC (IM dk) sm) r1 r2 (by have:=Gj n;omega) λh2 t2 I2 G=>?_
     rw[du]at I2
     refine AE ⟨plainId_quiet Nn _,?_⟩
     have e2:AH ((i:Int)+1)=AH ((i+1:Nat):Int):=by simp
     rw[e2]
     refine WE hu hA hH g h x z J Y C (i+1) _ (B6 _ k dd) (DN j k kv vv) c hd' hv' dn' (n.put dk dv) I2 ?_ ?_ f q
     ·obtain⟨o,e,hh⟩:=E
      exact⟨o,(G.2 it h).trans e,hh⟩
     ·exact hl'.at λo e=>(G.2 l z).trans e
    ·cases f
  ·cases f
theorem kr(M:X.calm=true)(hu:X.A.units+64<AF){s:Ab}{E:Aa->Ab->Prop}{Q:VK}(I:Inv X pins σ H s){m:List D}{vs:List V}{kvs:Bx}(O:BE X.K H l vs)(U:Ad X.K N H m vs)(Y:Hk [] m=some kvs)
  (q:∀v p,H p=none->PD X.K N H kvs v->Q (.ref p) (A3 H p (DC v))):wpAny (Af X.prog X.w) X.A (call (.type "dict") [.ref l]) (EP X pins σ Q) E s:=by
 obtain⟨us,rv,y,hz⟩:=I.list O
 have g:l<s.heap.objs.size:=by obtain⟨o,n,e,_⟩:=y;exact By e
 have B:X.A.handled=none:=I.ok.hd M
 refine callType_codes (Q₁:=λx G=>x=.ref s.heap.objs.size/\G={s with heap:=s.heap.push {cls:=.type "dict",data:=.dict #[]} }) F.kt_called_dict (F.kt_typeCall_dict_1 (.ref l)) F.entry_dict_init (kt_code_dict_new (.ref l) ⟨rfl,rfl⟩) ?_
 rintro x G ⟨rfl,rfl⟩
 have h:H s.heap.objs.size=none:=I.hok.fresh (BB _)
 have I1:Inv X pins σ (A3 H s.heap.objs.size (DC [])) {s with heap:=s.heap.push {cls:=.type "dict",data:=.dict #[]} }:=
  I.laid (a:=s.heap.objs.size) (o:=DC []) (t':=s.toks) (λ_ _ z=>Bk _ z) (BB _) ⟨Hv _,beq_eq_false_iff_ne.mpr (Br (Cs I.big)),List.nodup_nil,_,#[],0,B0 _ rfl,⟨rfl,rfl,rfl⟩,rfl,rfl,rfl⟩
 have c:PlainL (s.heap.push {cls:=.type "dict",data:=.dict #[]}) l us.toArray:=by
  obtain⟨o,n,e,i⟩:=y
  exact⟨o,n,Bk _ e,i⟩
 have j:Shared.TypeIs {s with heap:=s.heap.push {cls:=.type "dict",data:=.dict #[]} } (.ref s.heap.objs.size) "dict":=⟨_,B0 _ rfl,rfl⟩
 refine⟨j,F.args_dict_init_2 _ _,?_⟩
 unfold Aw.«dict.__init__» Builtin.Dict.selfAndRest
 refine Ag (Ag (wpAny_notOrdered_dict j ?_))
 show wpAny _ _ (AQ (s.heap.objs.size,[Cn l])) _ _ _
 refine AE ?_
 show wpAny _ _ (Builtin.Dict.updateFrom "dict.__init__" s.heap.objs.size (.ref l) [] .none) _ _ _
 unfold Builtin.Dict.updateFrom
 refine Ag (Iv (T:="list") (by obtain⟨o,n,e,i,_⟩:=c;exact⟨o,e,i⟩) ?_)
 rw[if_pos (by decide)]
 refine Ag (kj c B λf L r=>?_)
 rw[if_pos (show(none:Option Aa).isNone=true from rfl)]
 have t:=I1.kept (h':=f) (t':=L) r
 have k:PlainL f l us.toArray:=by
  obtain⟨o,n,e,i⟩:=c
  exact⟨o,n,r _ _ e,i⟩
 refine Ag (FK ?_)
 refine Ag (MB k.isList ?_)
 have I3:=t.kept (h':=f.push {cls:=.type "list_iterator",data:=.fields #[.ref l,.int 0 0]}) (t':=L) λb o e=>Bk _ e
 have d:s.heap.objs.size<f.objs.size:=By (r _ _ (B0 _ rfl))
 have fp:Fh X pins H f.objs.size:=t.fpOk (BB _) (by
  have:=t.hok.fresh (a:=f.objs.size) (BB _)
  rw[ZK (FA d)]at this
  exact this)
 refine AE ⟨plainId_quiet Nn _,?_⟩
 refine WE (A:=X.A.in1) (N:=N) (us:=us) (by show X.A.units+1+1<AF;omega) B h fp (FA d) (Cs (Hy g d)) (Cs g) m vs us 0 _ [] [] kvs rfl rv U .nil I3 ⟨_,B0 _ rfl,rfl,rfl⟩ ?_ Y λs' u I' pd=>?_
 ·exact k.isList.push _
 ·exact⟨rfl,.ref s.heap.objs.size,_,I',rfl,q u _ h pd⟩
end
theorem ku:Ep "dict"=some (.type "dict"):=by kernel_rfl
def HU(f:VE->Option D):VE->Option (List D):=λa=>match f a with
 |some (.lst b)=>(Hk [] b).map Zz
 |_=>none
section
variable{X:Cx}{M:Fb}{H0:Hp}{e:Expr}{f:VE->Option D}{p pos:Bc}
theorem QU(w:X.calm=true)(x:X.A.units+64<AF)(y:Gl X "dict")(B:X.mg "dict"=none)(l:JE X e (tP X.K M H0 f))(o:AX [e] X.env=(false,AC e X.env)::AX [] X.env:=by exact DA (λ_ _ z=>nomatch z)):
  JE X (.Call (.Name "dict" p) [e] [] pos) (Jy true X.K M H0 (HU f)):=⟨have l:=l.h;by
 intro d s g H Q I h
 obtain⟨i,Y,R,c,q⟩:=h
 unfold HU at c
 split at c
 ·next j C=>
  cases m:Hk [] j with
  |none=>rw[m]at c;cases c
  |some n=>
   rw[m]at c
   cases c
   have E:=(Ej l (BK (X:=X)) o) pos d s g H (λvs k=>∃v,vs=[v]/\Am H k/\AK X.K (Nf M i g) k (.lst j) v) I ⟨i,.lst j,R,C,λv k r d1=>⟨v,rfl,r,d1⟩⟩
   refine Call_ (FU I y B ku (Jn (Bb E λus r G=>?_) (by rw[o]) rfl))
   obtain⟨vs,k,J,L,v,rfl,sm,d1⟩:=G
   obtain⟨u,rfl,N⟩:=D3 L
   obtain⟨a,ws,rfl,O,dl⟩:=d1
   cases N
   refine kr w x J O dl m λT b U t=>?_
   have:=Lc (K:=X.K) (M:=M) (ρ:=i) (σ:=g) (fl:=true) (Q:=Q) (xs:=Zz n) (vs:=DM T) (p:=b) sm U t.flat q
   rw[Kd t]at this
   exact this
 ·cases c⟩
theorem kw{K:As}(i:Nat){x:Ae}{a:Bc}(c:X.N[i]?=some x:=by rfl)(d:Dq X.env.scope x:=by first|exact Or.inl rfl|exact Or.inr (Or.inl rfl)|exact Or.inr (Or.inr rfl))(hd:(x==("__debug__":Ae))=false:=by decide)(b:(x==("__classdict__":Ae))=false:=by decide):
  JS X (.Return (some (.Name x a)) pos) (tS K M H0 λρ=>IB (ER ρ i)):=⟨hX c d hd b⟩
end
section
variable{X:Cx}{K:As}{M:Fb}{H0:Hp}
theorem ky{st:Ay}:JS X st (tS K M H0 λ_=>.fail):=⟨λa s b H D I ⟨c,R,q⟩=>BW q⟩
@[simp] def ra:List D->Option D
  |[.int i]=>if i.natAbs.log2<1920 then some (.str (Fi i))else none
  |[.str z]=>some (.str z)
  |_=>none
@[simp] def rb:List D->Option D
  |[.str z]=>if z.length<=640 then(PySem.intText? z).map D.int else none
  |_=>none
@[simp] def rc(z:Ae):List D->Option D
  |[.str y]=>if(y.length==0)=false/\z.length<=AG/\(Txt.split z y).length<=AG then some (.lst ((Txt.split z y).map D.str))else none
  |_=>none
end
end L2
namespace L2
open PySem PySem.Spec PyProof.Rows
end L2
namespace L2
open PySem PySem.Spec PyProof.Rows PySem.W
section
variable{X:Cx}{M:Fb}{H0:Hp}{e a b:Expr}{es:List Expr}{f:VE->Option D}{pos:Bc}
@[simp] def rd:Option D->Option D
  |some (.int i)=>if i.natAbs.log2<1920 then some (.str (Fi i))else none
  |some (.str z)=>if z.length<=AG then some (.str z)else none
  |_=>none
def WF(acc:Ae)(a:List Ae):Ae:=a.foldl (·++·) acc
@[simp] def re(o:Option D)(p:Option (List Ae)):Option (List Ae):=match o,p with
  |some (.str z),some a=>some (z::a)
  |_,_=>none
@[simp] def rg(p:Option (List Ae)):Option D:=match p with
  |some a=>if(WF Str.empty a).length<=AG then some (.str (WF Str.empty a))else none
  |none=>none
end
structure Ft(K:Frag)(C:Ac):Prop where
 ga:findIn K (.ref C) "__getattribute__"=some (some (.builtin "BaseException.__getattribute__"))
 cl:findIn K (.ref C) "__class__"=some (some (.builtin "object.__class__"))
 gr:findIn K (.ref C) "__getattr__"=some none
 bx:subIn K (.ref C) (.type "BaseException")=some true
 ob:subIn K (.ref C) (.type "object")=some true
 ty:typeIn K (.ref C)=some (.type "type")
 is:∃cd,clsIn K C=some cd
section
variable{prog:A4}{w:Aj}{A:Ak}{E:Aa->Ab->Prop}{h:Al}{g:Array GenState}{d:Drawn}{t:Nat}{os:OsState}{e C:Ac}{K:Frag}
theorem kz{R:Result->Ab->Prop}(X:K.In h)(F:Ft K C)(p:DK e C h)(i:R (.ok (.ret (.ref C))) ⟨h,g,d,t,os⟩):codeAny (Af prog w) A (.call (.builtin "getset_descriptor.__get__") ⟨[.builtin "object.__class__",.ref e,.ref C],[]⟩) R ⟨h,g,d,t,os⟩:=by
 obtain⟨o,vs,a,b,j⟩:=p
 have c:(⟨h,g,d,t,os⟩:Ab).TypeIs (.builtin "object.__class__") "getset_descriptor":=WG
 have f:Looks (Af prog w) h (isSubtype (.ref C) (.type (".".intercalate ("object.__class__".cutAt '.').dropLast))) true:=by rw[PySem.F.owner_object_class];exact looks_subIn X F.ob
 refine LJ PySem.F.slot_gs_get.plain PySem.F.entry_gs_get (PySem.F.slot_gs_get.check _ _ _ _ _ _ _ _ c (PySem.F.args_gs_get _ _ _) ?_)
 repeat(any_goals(first|assumption|(with_reducible refine No a ?_;rw[b])|(with_reducible refine Looks.at f ?_)|wp_step))
 refine⟨Code.quiet_builtin _ (by decide +kernel),Jv PySem.F.entry_object_class ?_⟩
 repeat(any_goals(first|assumption|(with_reducible refine No a ?_;rw[b])|wp_step))
theorem kA{a:Tok}{Q:Fin->Ab->Prop}(X:K.In h)(F:Ft K C)(p:DK e C h)(i:Q (.done (.ret (.ref C))) ⟨h,g,d,t,os⟩):wpAny (Af prog w) A (Aw.«object.__getattribute__» ⟨[.ref e,.str "__class__" a],[]⟩) Q E ⟨h,g,d,t,os⟩:=by
 obtain⟨o,vs,b,c,j⟩:=id p
 have k:(⟨h,g,d,t,os⟩:Ab).TypeIs (.builtin "object.__class__") "getset_descriptor":=WG
 have f:Looks (Af prog w) h (typeLookup (.ref C) "__class__") _:=looks_findIn X F.cl
 have l:=WG
 have m:=PySem.F.slot_gs_get.lookup
 have n:=PySem.F.slot_gs_set.lookup
 repeat(any_goals(first|assumption|(with_reducible refine No b ?_;rw[c])|(with_reducible refine Looks.at f ?_)|wp_step))
 refine kz X F p ?_
 repeat(any_goals(first|assumption|wp_step))
theorem kB{M:Model}{a:Aa}{Q:Unit->Ab->Prop}(X:K.In h)(F:Ft K C)(p:DK e C h)(b:Q () ⟨h,g,d,t,os⟩):wpAny M A (Nl "BaseException.__getattribute__" ⟨[.ref e,a],[]⟩) Q E ⟨h,g,d,t,os⟩:=by
 obtain⟨o,vs,c,f,l⟩:=p
 have i:builtinKind "BaseException.__getattribute__"=some .slot:=by decide +kernel
 have j:splitId "BaseException.__getattribute__"=some ("BaseException","__getattribute__"):=by decide +kernel
 have k:Looks M h (isSubtype (.ref C) (.type "BaseException")) true:=looks_subIn X F.bx
 have m:=PySem.F.args_bexc_ga (.ref e) a
 simp only[Nl,i,j]
 refine Ag ?_
 unfold isInstance
 repeat(first|(with_reducible refine No c ?_;rw[f])|(with_reducible refine Looks.at k ?_)|wp_step)
 exact b
theorem kC{a:Tok}{R:Result->Ab->Prop}(X:K.In h)(F:Ft K C)(p:DK e C h)(b:R (.ok (.ret (.ref C))) ⟨h,g,d,t,os⟩):
  codeAny (Af prog w) A (.call (.builtin "BaseException.__getattribute__") ⟨[.ref e,.str "__class__" a],[]⟩) R ⟨h,g,d,t,os⟩:=
 LJ PySem.F.excAttr_ValueError.ga.plain PySem.F.entry_bexc_ga (kB X F p (kA X F p b))
theorem kE{a:Tok}{Q:Aa->Ab->Prop}(X:K.In h)(F:Ft K C)(p:DK e C h)(i:Q (.ref C) ⟨h,g,d,t,os⟩):wpAny (Af prog w) A (getAttrBy (.ref e) (.str "__class__" a) false) Q E ⟨h,g,d,t,os⟩:=by
 obtain⟨o,vs,b,c,j⟩:=id p
 have f:Looks (Af prog w) h (typeLookup (.ref C) "__getattribute__") _:=looks_findIn X F.ga
 have L2:Looks (Af prog w) h (typeLookup (.ref C) "__getattr__") _:=looks_findIn X F.gr
 have b3:=PySem.F.excAttr_ValueError.ga.bind (.ref e)
 have b2:(Value.builtin "BaseException.__getattribute__"==Value.builtin "object.__getattribute__")=false:=by decide +kernel
 have b1:(onTheHeap (Cn C)&&Value.builtin "BaseException.__getattribute__"==Value.builtin "object.__getattribute__")=false:=by rw[b2];rfl
 repeat(any_goals(first|assumption|(with_reducible refine No b ?_;rw[c])|(with_reducible refine Looks.at f ?_)|(with_reducible refine Looks.at L2 ?_)|wp_step))
 refine kC X F p ?_
 repeat(any_goals(first|assumption|wp_step))
theorem kF{s:Ab}{Q:Option Aa->Ab->Prop}(X:K.In s.heap)(F:Ft K C)(p:DK e C s.heap)(a:Q (some (.ref C)) {s with toks:=s.toks+1}):wpAny (Af prog w) A (getAttr? (.ref e) "__class__") Q E s:=by
 obtain⟨h,g,d,t,os⟩:=s
 unfold getAttr? getAttrBy?
 repeat(any_goals(first|assumption|with_reducible apply kE X F p|wp_step))
theorem kG(F:Ft K C):KitX K (.ref e) (.ref C) (DK e C) where
 ty:=λM h X p=>by
  obtain⟨o,vs,d,f,j⟩:=p
  intro A Q E s k q
  unfold typeOf
  exact Ag (wpAny_loadPart (k _ _ d) (AE (by rw[f];exact q)))
 it:=λM h X _=>by
  obtain⟨g,a⟩:=F.is
  unfold clsIn at a
  split at a
  ·rename_i b
   intro A Q E s k q
   unfold isType loadHead
   exact Ag (wpAny_loadPart (k _ _ (X _ _ b)) (AE q))
  ·cases a
 ne:=λh tp l i n m X c=>by
  obtain⟨g,a⟩:=F.is
  refine Bool.eq_false_iff.mpr λq=>?_
  obtain rfl:C=tp:=Value.ref.inj (beq_iff_eq.mp q)
  unfold clsIn at a
  split at a
  ·rename_i b
   have z:=(X _ _ b).symm.trans c
   cases z
  ·cases a
 ca:=λX p k=>kF X F p k
end
structure E8(B:Al)(l:List Env)(e:Ac)(C fl:Aa)(h:Al):Prop where
 stay:B.StaysIn h
 new:B.get? e=none
 fun_:h.FunFrames B l
 rcd:∃oe vs,h.get? e=some oe/\oe.cls=C/\oe.data=.fields vs/\vs[2]?=some .none/\(vs[1]?=some .none\/∃T oT ts,vs[1]?=some (.ref T)/\B.get? T=none/\T≠e/\h.get? T=some oT/\oT.data=.fields ts/\ts[3]?=some fl)
section
variable{M:Model}{A:Ak}{E:Aa->Ab->Prop}{s:Ab}{B:Al}{l outer:List Env}{env:Env}{e L:Ac}{C fl:Aa}{Q:Unit->Ab->Prop}
theorem E8.outs{h:Al}(a:E8 B (env::outer) e C fl h):E8 B outer e C fl h:=⟨a.stay,a.new,a.fun_.2.2,a.rcd⟩
theorem Np{h:Al}{b x:Ac}{o a:AM}{ws:Array Aa}(d:h.get? b=some o)(nf:∀vs,o.data≠.fields vs)(c:h.get? x=some a)(e:a.data=.fields ws):b≠x:=λq=>by
 subst q;rw[d]at c;cases c;exact nf ws e
theorem WH{d:Aa}{O:Bool}{k:AM}{vs:Array Aa}(r:A.frames=some (env::outer))(T:env.frame=some L)(st:B.StaysIn s.heap)(nw:B.get? e=none)(l:s.heap.FunFrames B (env::outer))
  (m:s.heap.get? e=some k) (U:k.cls=C) (g:k.data=.fields vs) (Y:vs[2]?=some .none) (hz:1<vs.size) (q:∀h',E8 B (env::outer) e C (AH L) h'->s.heap.UpToSlots h'->Q () {s with heap:=h' }):
  wpAny M A (do let a <- frameOf env;let pl <- entryPlaceOf L O;let b <- EntryCells.newEntry d a .none (AH L) .none pl;setField (.ref e) 1 b) Q E s:=by
 have ef:e∉(env::outer).filterMap (·.frame):=λt=>by
  obtain⟨_,o,i,z⟩:=l.mem t
  rw[m]at i;cases i;exact z vs g
 refine Ag (wpAny_frameOf_fun r l T λc n=>Ag (wpAny_entryPlaceOf λG u=>?_))
 unfold EntryCells.newEntry newFields;refine Ag (FZ ?_ (u.sizeOk5 _ _ _ _ _))
 have H:c.get? e=some k:=(n.2.1 e ef).trans m
 have I:B.StaysIn c:=λb o z=>(n.2.1 b λt=>by rw[(l.mem t).1]at z;cases z).trans (st b o z)
 generalize i:({cls:=.type "traceback",dict:=none,data:=.fields ([d,.ref L,.none,AH L,.none]++(if G.isEmpty then DH 6 Ed else G)).toArray}:AM)=j
 have v:∃p,j.data=.fields p/\p[3]?=some (AH L):=by subst i;exact⟨_,rfl,by simp⟩
 have w:j.isFreed=false:=by subst i;rfl
 obtain⟨p,td,t3⟩:=v
 have J:=Bk (h:=c) j H
 refine Lu J g hz (q _ ?_ ?_)
 all_goals
  have d3:=J4 g (·.setIfInBounds 1 (Cn c.objs.size))
  have e3:=Lv (Obj.mapFields (·.setIfInBounds 1 (Cn c.objs.size))) J (QD d3)
  have ne:c.objs.size≠e:=FA (By H)
  have kp:∀b o,b≠e->c.get? b=some o->((c.push j).update e (Obj.mapFields (·.setIfInBounds 1 (Cn c.objs.size)))).get? b=some o:=λb o z f=>by
   rw[K2 _ _ (Br z)];exact Bk _ f
 ·refine⟨λb o z=>kp b o (λy=>by rw[y,nw]at z;cases z) (I b o z),nw,l.of_keeps λb o f nf=>?_,_,_,e3,(Obj.cls_mapFields _ _).trans U,d3,by rw[Array.getElem?_setIfInBounds_ne (by decide)];exact Y,.inr ⟨c.objs.size,j,p,by simp[hz],I.fresh,ne,?_,td,t3⟩⟩
  ·obtain⟨N,x⟩:=n.2.2 b o f
   exact⟨_,kp b _ (Np f nf m g) x,rfl⟩
  ·rw[K2 _ _ (Br ne)];exact B0 c w
 ·intro b o f nf
  obtain⟨N,x⟩:=n.2.2 b o f
  exact⟨N,kp b _ (Np f nf m g) x⟩
theorem WI{T:Ac}{f g:AM}{h:Array Aa}{v:Aa}(st:B.StaysIn s.heap)(k:s.heap.FunFrames B l)(m:s.heap.get? e=some g)(n:B.get? T=none)(ne:T≠e)(d:s.heap.get? T=some f)(dT:f.data=.fields h)(hz:3<h.size)
  (q:∀h',B.StaysIn h'->h'.FunFrames B l->h'.get? e=some g->(∃i j,h'.get? T=some i/\i.data=.fields j/\j[3]?=some v)->s.heap.UpToSlots h'->Q () {s with heap:=h' }):wpAny M A (setField (.ref T) 3 v) Q E s:=by
 refine Lu d dT hz ?_
 have a:∀b,b≠T->(s.heap.update T (Obj.mapFields (·.setIfInBounds 3 v))).get? b=s.heap.get? b:=λb z=>K2 _ _ (Br z)
 refine q _ (λb o z=>(a b λy=>by rw[y,n]at z;cases z).trans (st b o z)) (k.of_keeps λb o c nf=>⟨o,(a b (Np c nf d dT)).trans c,rfl⟩) ((a e (Br ne)).trans m)
  ⟨_,_,Lv _ d (QD (J4 dT _)),J4 dT _,by simp[hz]⟩ λb o c nf=>⟨o.slots,(a b (Np c nf d dT)).trans c⟩
theorem WJ(b:A.frames=some (env::outer))(g:env.frame=some L)(a:E8 B (env::outer) e C .none s.heap)(q:∀h',E8 B (env::outer) e C (AH L) h'->s.heap.UpToSlots h'->Q () {s with heap:=h' }):
  wpAny M A (noteFrame (.ref e) env) Q E s:=by
 obtain⟨st,nw,k,t,vs,c,d,f,l,r⟩:=a
 unfold noteFrame;simp only[g]
 rcases r with r|⟨T,v,w,r,o,ne,m,dT,n⟩
 ·refine Ag (Ch c f r ?_)
  rw[if_neg (by decide)]
  exact WH b g st nw k c d f l (Array.getElem?_eq_some_iff.mp r).1 q
 ·refine Ag (Ch c f r ?_)
  rw[if_pos (show(Cn T != Ed)=true by simp)]
  refine Ag (Ch m dT n ?_)
  rw[if_neg (show ¬ (Ed==AH L)=true by simp[AH])]
  refine Ag (WI st k c o ne m dT (Array.getElem?_eq_some_iff.mp n).1 λh' h i j _ u=>?_)
  exact WH (s:={s with heap:=h' }) b g h nw i j d f l (Array.getElem?_eq_some_iff.mp r).1 λd a p=>q d a (u.trans p)
theorem QV(a:E8 B l e C fl s.heap)(q:∀h',E8 B l e C .none h'->s.heap.UpToSlots h'->Q () {s with heap:=h' }):wpAny M A (setFlight (.ref e) none) Q E s:=by
 obtain⟨st,nw,h,i,vs,b,j,c,k,r⟩:=a
 unfold setFlight
 rcases r with r|⟨T,v,w,r,m,ne,n,dT,o⟩
 ·refine Ag (Ch b c r ?_)
  rw[if_neg (by decide)]
  exact AE (q s.heap ⟨st,nw,h,i,vs,b,j,c,k,.inl r⟩ (.refl _))
 ·refine Ag (Ch b c r ?_)
  rw[if_pos (show(Cn T != Ed)=true by simp)]
  exact WI st h b m ne n dT (Array.getElem?_eq_some_iff.mp o).1 λh' d f g ⟨p,t,z1,z2,z3⟩ u=>q h' ⟨d,nw,f,i,vs,g,j,c,k,.inr ⟨T,p,t,r,m,ne,z1,z2,z3⟩⟩ u
theorem kH(b:A.frames=some (env::outer))(c:env.frame=some L)(a:E8 B (env::outer) e C .none s.heap)(q:∀h',E8 B outer e C .none h'->s.heap.UpToSlots h'->Q () {s with heap:=h' }):wpAny M A (leaving env (.ref e)) Q E s:=by
 unfold leaving
 exact Ag (WJ b c a λd a1 f=>QV (s:={s with heap:=d}) a1 λg a2 h=>q g a2.outs (f.trans h))
theorem _root_.L2.Bl.ob{P:A4}{w:Aj}{H:Hp}{h:Al}{x:Ac}{o:HO}(z:Bl P w H h x o):∃ob,h.get? x=some ob:=by
 cases o with
 |lst b=>obtain⟨_,_,_,_,q⟩:=z;exact⟨_,q⟩
 |tup b=>obtain⟨_,_,_,ob,q,_⟩:=z;exact⟨_,q⟩
 |dK a=>obtain⟨_,_,_,_,ob,_,_,q,_⟩:=z;exact⟨_,q⟩
 |dT a=>obtain⟨_,_,_,_,ob,_,_,q,_⟩:=z;exact⟨_,q⟩
 |dct c vs=>obtain⟨_,_,_,ob,_,_,q,_⟩:=z;exact⟨_,q⟩
 |set S n=>obtain⟨ob,_,_,_,q,_⟩:=z;exact⟨_,q⟩
 |ins D d fs=>obtain⟨_,_,_,q,_⟩:=z;exact⟨_,q⟩
 |own y=>exact z
 |xd fs=>obtain⟨_,⟨_,_,_,q,_⟩,_⟩:=z;exact⟨_,q⟩
 |rng lo e=>obtain⟨_,_,_,q⟩:=z;exact⟨_,q⟩
 |frz ob u=>exact⟨_,z.1⟩
 |tbl g=>exact⟨_,z⟩
 |met f y=>exact⟨_,z⟩
 |ext i=>exact z.2.1
def WK(P:A4)(w:Aj)(l:List Env)(H H':Hp)(s:Al)(e C:Ac)(h:Al):Prop:=
 Am H H'/\Un (Cc l) [] H H' s h/\∃B,Cg P w H' B/\(∀b o,s.get? b=some o->H b=none->b∉Cc l->B.get? b=some o)/\E8 B l e (.ref C) .none h
def Nq(P:A4)(w:Aj):EI:=λouter H s E e b=>∃a C c,e=.ref a/\b.os=s.os/\AllBare b.gens/\WK P w outer H c s.heap a C b.heap/\E (.ref C) none c
def IP(Y:Cx)(b:List (Ac×AM))(σ:St)(H:Hp)(C:Ac)(e:Aa)(s':Ab):Prop:=
 ∃a c f d,e=.ref a/\Inv Y b σ c d/\Am H c/\s'.os=d.os/\AllBare s'.gens/\WK Y.prog Y.w Y.stack c f d.heap a C s'.heap
theorem IP.from{Y:Cx}{b:List (Ac×AM)}{σ:St}{H d:Hp}{C:Ac}{v:Aa}{s':Ab}(sm:Am H d)(t:IP Y b σ d C v s'):IP Y b σ H C v s':=by
 obtain⟨a,e,f,g,h,I,c,r⟩:=t
 exact⟨a,e,f,g,h,I,sm.trans c,r⟩
theorem WM{fs:List Ac}{l:List Env}{H i H':Hp}{s m h h':Al}{P:A4}{w:Aj}{C:Aa}(c:Un fs [] H i s m)(j:Un (Cc l) [] i H' m h)(x:Cg P w H' B)(k:∀b o,m.get? b=some o->i b=none->b∉Cc l->B.get? b=some o)
  (y:∀b o,s.get? b=some o->H b=none->b∈Cc l->b∈fs) (sm:Am i H') (a:E8 B l e C fl h) (st:B.StaysIn h') (A:h.UpToSlots h'):Un fs [] H H' s h':=by
 have nx:∀b:Ac,b∉([]:List Ac):=λb=>by simp
 have q:∀b o,m.get? b=some o->i b=none->b∈Cc l->∃p,h'.get? b=some {o with slots:=p}:=λb o z n d=>by
  obtain⟨p,z1⟩:=j.any z n (nx b)
  obtain⟨_,r,z2,nf⟩:=a.fun_.mem d
  rw[z1]at z2;cases z2
  obtain⟨f,z3⟩:=A b _ z1 nf
  exact⟨f,z3⟩
 refine⟨λb o z n d _=>?_,λb o z n d _=>?_,λb o z n _=>?_,λb o z _=>?_,λb t z=>j.tups b t (c.tups b t z),λb o u z=>j.frzs b o u (c.frzs b o u z),λb E z=>?_⟩
 ·exact st b o (k b o (c.keep b o z n d (nx b)) (c.free b o z n (nx b)) λg=>d (y b o z n g))
 ·obtain⟨p,z1⟩:=c.slot b o z n d (nx b)
  by_cases g:b∈Cc l
  ·obtain⟨f,z2⟩:=q b _ z1 (c.free b o z n (nx b)) g
   exact⟨f,z2⟩
  ·exact⟨p,st b _ (k b _ z1 (c.free b o z n (nx b)) g)⟩
 ·obtain⟨r,z1⟩:=c.there b o z (nx b)
  exact j.free b r z1 (c.free b o z n (nx b)) (nx b)
 ·obtain⟨v,z1⟩:=c.there b o z (nx b)
  cases d:i b with
  |none=>
   by_cases g:b∈Cc l
   ·obtain⟨f,z2⟩:=q b v z1 d g
    exact⟨_,z2⟩
   ·exact⟨v,st b _ (k b _ z1 d g)⟩
  |some u=>
   obtain⟨G,z2⟩:=(x b u (sm b u d)).ob
   exact⟨G,st b _ z2⟩
 ·obtain⟨m1,z1⟩:=c.tbls b E z
  obtain⟨m2,z2⟩:=j.tbls b _ z1
  exact⟨m1++m2,by rw[z2,Array.append_assoc]⟩
theorem kI{P:A4}{w:Aj}{H:Hp}{h:Al}{fs:List Ac}(a:Cg P w H h)(nf:∀b∈fs,H b=none):Cg P w H (hideAll h fs):=λx o z=>
 (a x o z).stay (λb u c q=>hideAll_get _ q λd=>by
  have:=nf b d
  rcases c with y|y
  ·rw[y,z]at this;cases this
  ·rw[y]at this;cases this) (λ_ q=>q) λ_ _ q=>q
theorem kJ{Y:Cx}{a:List (Ac×AM)}{σ:St}{H:Hp}{s:Ab}{D x:Ac}{vs:List Aa}{h':Al}(I:Inv Y a σ H s)(m:Heap.MadeExcOf s.heap h' x (.ref D) vs):IP Y a σ H D (.ref x) {s with heap:=h' }:=by
 have f:=I.stack
 have c:∀env∈Y.stack,∀b,env.frame=some b->b∈Y.stack.filterMap (·.frame):=λenv g b d=>List.mem_filterMap.mpr ⟨env,g,d⟩
 have h:(hideAll s.heap (Cc Y.stack)).get? x=none:=by
  cases q:(hideAll s.heap (Cc Y.stack)).get? x with
  |none=>rfl
  |some o=>have:=of_hideAll _ q;rw[m.new]at this;cases this
 have e:=funFrames_hide f c
 obtain⟨tp,i,j,k⟩:=m.there
 refine⟨x,H,H,s,rfl,I,Am.refl H,rfl,I.bare,Am.refl H,Un.kept m.keeps,hideAll s.heap (Cc Y.stack),kI I.hok I.stkFree,λb o z n d=>hideAll_get _ z d,⟨λb o z=>m.keeps b o (of_hideAll _ z),h,?_,_,_,i,rfl,rfl,rfl,.inl rfl⟩⟩
 exact e.of_keeps λb o z _=>⟨o,m.keeps b o z,rfl⟩
theorem kK{Y:Cx}{f:List (Ac×AM)}{σ:St}{H:Hp}{s':Ab}{D:Ac}{v:Aa}{p:XK}(ys:Y.stack=Y.env::Y.outer)(i:Y.env.frame=some Y.env.locals)(q:Y.ex=[])(g:Am Y.H₀ H)(t:IP Y f σ H D v s')(s:∀H',Am Y.H₀ H'->p (.ref D) none H'):
  wpAny M Y.A (leaving Y.env v) (λ_ j=>Nq Y.prog Y.w Y.outer Y.H₀ Y.s₀ p v j) E s':=by
 obtain⟨x,J,H',L,rfl,I,sm,os,C,a,u,B,r,k,c⟩:=t
 have h:=I.ok.frames
 rw[ys]at c u k h
 refine kH h i c λN a2 G=>⟨x,D,H',rfl,os.trans I.os,C,⟨(g.trans sm).trans a,?_,B,r,λb o z n d=>?_,a2⟩,s H' ((g.trans sm).trans a)⟩
 ·have e:=I.base
  rw[q]at e
  refine WM (l:=Y.env::Y.outer) e u r k (λb o z n d=>?_) a c a2.stay G
  rcases Bv.mp (show b∈Y.env.locals::Cc Y.outer by unfold Cc at d ⊢;rw[Ji,i]at d;exact d)with y|y
  ·exact absurd (y ▸ By z) (Nat.not_lt.mpr I.ok.above)
  ·exact y
 ·have e:=I.base
  rw[q]at e
  refine k b o (e.keep b o z n d (by simp)) (e.free b o z n (by simp)) λm=>?_
  rcases Bv.mp (show b∈Y.env.locals::Cc Y.outer by unfold Cc at m ⊢;rw[Ji,i]at m;exact m)with y|y
  ·exact absurd (y ▸ By z) (Nat.not_lt.mpr I.ok.above)
  ·exact d y
end
abbrev Cx.hand(Y:Cx)(x:Ac):Cx:={Y with A:=Y.A.mark (some (.ref x)),calm:=false}
section
variable{Y:Cx}{pins:List (Ac×AM)}{σ:St}{H H2 H':Hp}{s s2 s':Ab}{x D G:Ac}{fl f0:Aa}{B h h':Al}
theorem Inv.hand(I:Inv Y pins σ H s)(x:Ac):Inv (Y.hand x) pins σ H s:=
 ⟨⟨I.ok.mod,I.ok.kind,I.ok.glob,I.ok.blt,I.ok.above,I.ok.inj,I.ok.has,I.ok.cab,(λz=>nomatch z),I.ok.frames,I.ok.stk,I.ok.exf,I.ok.bs,I.ok.bsz,I.ok.noex,I.ok.exfs,I.ok.funs,I.ok.frf⟩,I.os,I.bare,I.base,I.loc,I.cell,I.free,I.freeC,I.pin,I.hok,I.len⟩
theorem Inv.back(ok:Y.Ok)(I:Inv (Y.hand x) pins σ H s):Inv Y pins σ H s:=⟨ok,I.os,I.bare,I.base,I.loc,I.cell,I.free,I.freeC,I.pin,I.hok,I.len⟩
theorem WN(I:Inv Y pins σ H2 s2)(os:s'.os=s2.os)(s:AllBare s'.gens)(sm:Am H2 H')(u:Un (Cc Y.stack) [] H2 H' s2.heap h)(i:Cg Y.prog Y.w H' B)(l:∀b o,s2.heap.get? b=some o->H2 b=none->b∉Cc Y.stack->B.get? b=some o)
  (a0:E8 B Y.stack x (.ref D) f0 h) (a:E8 B Y.stack x (.ref D) fl h') (t:h.UpToSlots h'):H2 x=none/\Am H2 (A3 H' x (.ext (DK x D)))/\Inv Y pins σ (A3 H' x (.ext (DK x D))) {s' with heap:=h' }:=by
 have g:H' x=none:=by
  cases q:H' x with
  |none=>rfl
  |some o=>obtain⟨ob,z⟩:=(i x o q).ob;rw[a.new]at z;cases z
 have A:s2.heap.get? x=none:=by
  cases q:s2.heap.get? x with
  |none=>rfl
  |some o=>
   cases q2:H2 x with
   |some C=>rw[sm x C q2]at g;cases g
   |none=>
    by_cases p:x∈Cc Y.stack
    ·obtain⟨_,M,z3,nf⟩:=a0.fun_.mem p
     obtain⟨j,vs,z1,_,z2,_⟩:=a0.rcd
     rw[z1]at z3;cases z3;exact absurd z2 (nf vs)
    ·have:=l x o q q2 p;rw[a.new]at this;cases this
 have d:=WM (Un.refl (fs:=Cc Y.stack)) u i l (λ_ _ _ _ z=>z) sm a0 a.stay t
 have f:∀b o,H' b=some o->(A3 H' x (.ext (DK x D))) b=some o:=λb o q=>by rw[ZK (Eo q g)];exact q
 refine⟨sm.free g,λb o q=>f b o (sm b o q),I.call' (s':={s' with heap:=h' }) (ch:=[]) os ⟨d.keep,d.slot,λb o z n E=>?_,d.there,λb r z=>f b _ (d.tups b r z),λb o v z=>f b _ (d.frzs b o v z),λb G z=>?_⟩ (λb v q=>?_) s (λb z=>absurd z (by simp))⟩
 ·rw[ZK (λy=>by rw[y,A]at z;cases z)];exact d.free b o z n E
 ·obtain⟨m,q⟩:=d.tbls b G z;exact⟨m,f b _ q⟩
 ·by_cases e:b=x
  ·subst e
   rw[Ef]at q;cases q
   obtain⟨j,vs,z1,z2,z3,z4,_⟩:=a.rcd
   exact⟨⟨j,vs,z1,z2,z3,z4⟩,⟨j,z1⟩,λO Q ⟨o,H,J,L⟩ k=>⟨o,H,k o J,L⟩⟩
  ·rw[ZK e]at q
   exact(i b v q).stay (λc o _ z=>a.stay c o z) (λc z=>f c _ z) λc r z=>f c _ z
theorem Inv.gone{h:Ae->Option Aa}{k:Nat}(I:Inv Y pins σ H s)(l:h'.Ns Y.env.locals h)(a:Dr Y.env.locals s.heap h'):Inv Y pins (DH Y.N.length none) H {s with heap:=h',toks:=k}:=by
 have lt:∀b o,Y.s₀.heap.get? b=some o->b≠Y.env.locals:=λb o z=>Cs (Ca (By z) I.ok.above)
 refine⟨I.ok,I.os,I.bare,⟨λb o z n f e=>(a.2 b (lt b o z)).trans (I.base.keep b o z n f e),λb o z n f e=>?_,I.base.free,λb o z e=>?_,I.base.tups,I.base.frzs,I.base.tbls⟩,⟨h,l,λi y v x g _=>?_⟩,λy c z=>?_,I.free,I.freeC,λp m=>?_,λb v q=>?_,by simp⟩
 ·obtain⟨r,q⟩:=I.base.slot b o z n f e;exact⟨r,(a.2 b (lt b o z)).trans q⟩
 ·obtain⟨t,q⟩:=I.base.there b o z e;exact⟨t,(a.2 b (lt b o z)).trans q⟩
 ·rw[Iu]at g;split at g<;>cases g
 ·obtain⟨w,q⟩:=I.cell y c z;exact⟨w,q.sameBut a (I.cne y c z)⟩
 ·obtain⟨z,n,ne,nf,u⟩:=I.pin p m;exact⟨(a.2 p.1 ne).trans z,n,ne,nf,u⟩
 ·refine(I.hok b v q).stay (λc o d z=>(a.2 c λy=>?_).trans z) (λ_ z=>z) λ_ _ z=>z
  have j:=I.free
  rcases d with d|d
  ·rw[d]at y;rw[y,j]at q;cases q
  ·rw[y,j]at d;cases d
theorem kL{i:Nat}{h n:Ae}{np pos:Bc}{L:Ay}{a:List Ay}{B3:List ExceptHandler}{v:Aa}{Q:Flow->Ab->Prop}{E:Aa->Ab->Prop}{Q':VK}(ys:Y.stack=Y.env::Y.outer)(yf:Y.env.frame=some Y.env.locals)(t:IP Y pins σ H D v s')
  (hm:Y.mg h=some (.ref G)) (hg:Gl Y h) (hx:exmOne Y.K (.ref D) (.ref G)=some true) (hN:Y.N.Nodup) (hi:Y.N[i]?=some n) (l:Y.env.scope.names.lookup n=some .local)
  (k:∀x m j,H x=none->Am H m->Inv (Y.hand x) pins (σ.set i (some (.ref x))) m j->m x=some (.ext (DK x D)) ->
   wpAny (Af Y.prog Y.w) (Y.A.mark (some (.ref x))) (execs (L::a) Y.env) (λf s4=>∃u vv b H',f=.ret u/\Inv (Y.hand x) pins b H' s4/\RelV vv u/\Q' vv H') (λ_ _=>False) j)
  (fin:∀u vv b H' M,Inv Y pins b H' M->RelV vv u->Q' vv H'->Q (.ret u) M) (hd:(h==("__debug__":Ae))=false:=by decide):
  wpAny (Af Y.prog Y.w) Y.A (noteFrame v Y.env) (λ_ s2=>wpAny (Af Y.prog Y.w) Y.A (setFlight v none) (λ_ j=>wpAny (Af Y.prog Y.w) Y.A (handleBy v Y.env (.ExceptHandler (some (.Name h np)) (some n) (L::a) pos::B3)) Q E j) E s2) E s':=by
 obtain⟨x,H2,H',s2,rfl,I,e,os,O,sm,u,B,T,U,d⟩:=t
 have g:=I.ok.frames
 have c:=d
 rw[ys]at g c
 refine WJ g yf c λh4 a4 o=>QV (s:={s' with heap:=h4}) a4 λh5 a5 p=>?_
 rw[<- ys]at a5
 have up:=o.trans p
 obtain⟨_,sm5,I5⟩:=WN I os O sm u T U d a5 up
 obtain⟨oe,vs,e1,e2,e3,_⟩:=id a5.rcd
 have LT:Looks (Af Y.prog Y.w) h5 (typeOf (.ref x)) (.ref D):=λA' Q' E' s' kk q=>by
  unfold typeOf;exact Ag (wpAny_loadPart (kk _ _ e1) (AE (by rw[e2];exact q)))
 refine wpAny_handleBy_cons (codeAny_handlers_test ?_) (by intro q;cases q)
 refine KI (X:=Y.hand x) (I5.hand x) hg hm ?_ hd
 refine(exm_one (K:=Y.K) I5.kIn LT hx).here ?_
 refine codeAny_handlers_suite_as (QV (s:={s' with heap:=h5}) a5 λh6 a6 r=>?_)
 obtain⟨y,C,I6⟩:=WN (s':=s') I os O sm u T U d a6 (up.trans r)
 refine Pw (X:=Y.hand x) (I6.hand x) hN hi (.inl l) (v:=.ref x) rfl (λs7 I7=>?_) (.inr l)
 refine Eg (k x _ s7 (e.free y) (e.trans C) I7 Ef) (λf s8 hf=>?_) λ_ _ z=>z.elim
 obtain⟨uu,vv,b,H8,rfl,I8,rv,q⟩:=hf
 obtain⟨m8,n8,_⟩:=id I8.loc
 refine wpAny_nameGoes l n8 (by rw[I.ok.kind];rfl) λh9 m9 n9 J=>?_
 exact fin uu vv _ H8 _ ((I8.back I.ok).gone n9 J) rv q
end
def EW(Y:Cx)(a:List (Ac×AM))(σ:St)(H:Hp)(c:Ae)(e:Aa)(s':Ab):Prop:=∃D,nsIn Y.K C5 c=some (some (.ref D))/\IP Y a σ H D e s'
def LK(Y:Cx):Prop:=∀e s,¬ Y.xe e s
theorem EW.from{Y:Cx}{a:List (Ac×AM)}{σ:St}{H b:Hp}{c:Ae}{v:Aa}{s':Ab}(sm:Am H b)(t:EW Y a σ b c v s'):EW Y a σ H c v s':=by
 obtain⟨D,e,t⟩:=t
 exact⟨D,e,t.from sm⟩
structure XE(Y:Cx)(K:Frag)(M:Fb)(H0:Hp)(e:Expr)(h:VE->Option Ae):Prop where
 h:∀pins s σ H ρ c,Inv Y pins σ H s->BC K M H0 ρ σ H->h ρ=some c->wpAny (Af Y.prog Y.w) Y.A (AC e Y.env) (λ_ _=>False) (EW Y pins σ H c) s
structure XT(Y:Cx)(K:Frag)(M:Fb)(H0:Hp)(st:Ay)(h:VE->Option Ae):Prop where
 h:∀pins s σ H ρ c,Inv Y pins σ H s->BC K M H0 ρ σ H->h ρ=some c->wpAny (Af Y.prog Y.w) Y.A (exec st Y.env) (λ_ _=>False) (EW Y pins σ H c) s
structure XS(Y:Cx)(K:Frag)(M:Fb)(H0:Hp)(st:Ay)(h:VE->Option Ae):Prop where
 h:∀pins s σ H ρ c,Inv Y pins σ H s->BC K M H0 ρ σ H->h ρ=some c->wpAny (Af Y.prog Y.w) Y.A (exec st Y.env) (λ_ _=>False) (λe s'=>∃σ' H1,Am H0 H1/\EW Y pins σ' H1 c e s') s
structure XB(Y:Cx)(K:Frag)(M:Fb)(H0:Hp)(b:List Ay)(h:VE->Option Ae):Prop where
 h:∀pins s σ H ρ c,Inv Y pins σ H s->BC K M H0 ρ σ H->h ρ=some c->wpAny (Af Y.prog Y.w) Y.A (execs b Y.env) (λ_ _=>False) (λe s'=>∃σ' H1,Am H0 H1/\EW Y pins σ' H1 c e s') s
section
variable{Y:Cx}{K:Frag}{M:Fb}{H0:Hp}{e:Expr}{es:List Expr}{st:Ay}{B3 a b:List Ay}{h h1 h2:VE->Option Ae}{g:VE->An}{pos p np cpos:Bc}{fa:VE->Option (List Sl)}{x:Ae}
theorem XT.s(z:XT Y K M H0 st h):XS Y K M H0 st h:=⟨λa s b H d c I R q=>Eg (z.h a s b H d c I R q) (λ_ _ z=>z) λ_ _ z=>⟨b,H,R.same,z⟩⟩
theorem kM(z:XE Y K M H0 e h)(b:Fg e none pos.line Y.env=AQ false:=by rfl):XT Y K M H0 (.Expr e pos) h:=
 ⟨λa s d H f c I R q=>wpAny_Expr_any (Eg (z.h a s d H f c I R q) (λ_ _ z=>z.elim) λ_ _ z=>z) I.quiet b⟩
theorem WP(z:XS Y K M H0 st h):XB Y K M H0 (st::B3) h:=⟨λa s b H d c I R q=>wpAny_execs_cons (Eg (z.h a s b H d c I R q) (λ_ _ z=>z.elim) λ_ _ z=>z)⟩
@[simp] def rh(r:An)(h:VE->Option Ae):Option Ae:=match r with
  |.next a=>h a
  |_=>none
@[simp] def ri(o:Option Ae)(r:Option Ae):Option Ae:=match o with
  |some c=>some c
  |none=>r
@[simp] def QX(t:Option Bool)(a b:Option Ae):Option Ae:=match t with
  |some true=>a
  |some false=>b
  |none=>none
theorem kN{c:Expr}{t:VE->Option Bool}(nx:LK Y)(p:JT Y c (BJ K M H0 t))(r:XB Y K M H0 a h1)(u:XB Y K M H0 b h2):XS Y K M H0 (.If c a b pos) (λρ=>QX (t ρ) (h1 ρ) (h2 ρ)):=⟨λf s g H ρ n I R q=>by
 cases i:t ρ with
 |none=>rw[i]at q;cases q
 |some k=>
  rw[i]at q
  refine wpAny_If (Eg (p.h f s g H (λv j=>v=k/\Am H j) I ⟨ρ,k,R,i,λj sm=>⟨rfl,sm⟩⟩) (λd l ⟨m,o,w,sm⟩=>?_) λe x z=>(nx e x z).elim)
  subst w
  cases d with
  |true=>exact r.h f l g m ρ n o (R.st sm) q
  |false=>exact u.h f l g m ρ n o (R.st sm) q⟩
def LM(K:Frag)(F:List Sl->Option Ae):Sp:=λvs H Q E=>∃N b c,(∀a,N a->H a≠none)/\A9 K N H b vs/\F b=some c/\∀D d,nsIn K C5 c=some (some (.ref D))->Am H d->E (.ref D) none d
def fnX(np n:Nat)(h:VE->Option Ae):List Sl->Option Ae:=λa=>if a.length=np then h (a++DH (n-np) .no)else none
theorem kO{F:List Sl->Option Ae}{k:Nat}{fn:Ac}{fd:Bi}{ps:List Ae}(nx:LK Y)(T:Y.K=K)(G:Az Y.prog Y.w Y.K Y.mg Y.base (Nq Y.prog Y.w) k fn fd ps (LM K F))(U:Bf k Y.A)(hg:Gl Y x)(hm:Y.mg x=some (.ref fn))(hk:keepIn Y.K (.ref fn)=true)(hb:Binds Y.K fd ps [])
  (ha:JA Y (e::es) (Dw K M H0 fa)) (m:(x==("__debug__":Ae))=false:=by decide) (he:AX (e::es) Y.env=(false,AC e Y.env)::AX es Y.env:=by exact DA (λ_ _ z=>nomatch z)) (n:(AZ pos (AX es Y.env)).any (·.1)=false:=by rfl):
  XE Y K M H0 (.Call (.Name x p) (e::es) [] pos) (λρ=>(fa ρ).bind F):=⟨λd s o H ρ c I R q=>by
 cases t:fa ρ with
 |none=>rw[t]at q;cases q
 |some y=>
  rw[t]at q
  refine KZ (KI I hg hm ?_ m)
  refine callWith_K (h₀:=Y.base) I.ok.mod.kin hk (Eg (ha.h pos d s o H (λvs b=>Am H b/\A9 K (Nf M ρ o) b y vs) I ⟨ρ,y,R,t,λvs b sm h1=>⟨sm,h1⟩⟩) (λi B ⟨vs,b,j,r,sm,h1⟩=>⟨j.kIn,?_⟩) λe N z=>(nx e N z).elim) he n
  have O:LM K F vs b (λ_ _=>False) (λv _ l=>∃D,v=.ref D/\nsIn K C5 c=some (some (.ref D))/\Am b l):=⟨Nf M ρ o,y,c,(R.st sm).nh,h1,q,λD l E J=>⟨D,rfl,E,J⟩⟩
  have hl:(i++[]).length=ps.length:=by rw[Es,<- r.length];exact G.len _ _ _ _ O
  have Q:=hb B i j.kIn hl
  rw[Es]at Q
  refine wpAny_call (codeAny_mono (G.run Y.A Y.stack B b ⟨i,[]⟩ i vs _ _ U j.env0 Q r O) λr N g=>?_)
  cases r with
  |error v=>
   obtain⟨a,C,l,E,os,ba,fl,D,J,e3,e4⟩:=g
   cases J
   exact⟨C,by rw[T];exact e3,a,b,l,B,E,j,sm,os,ba,fl⟩
  |ok f=>
   cases f with
   |ret u=>obtain⟨_,_,_,_,_,_,_,z⟩:=g;exact z.elim
   |next=>exact g.elim
   |brk=>exact g.elim
   |cont=>exact g.elim⟩
structure QY(K:Frag)(D:Ac):Prop where
 ex:∃nm q N bs bm hdct sn sub ab col dd k0 k1 k2 k3 k5,K.lookup D=some (excClassObj nm q D N bs bm hdct sn sub ab col dd k0 k1 k2 k3 k5 "ValueError.__new__")/\tailIn K [.type "ValueError",.type "Exception",.type "BaseException",.type "object"] bm=true/\nsOkIn K N=true/\nsIn K N "__init__"=some none
@[simp] def QZ(o:Option (List Sl))(x:Ae):Option Ae:=match o with
  |some [_]=>some x
  |_=>none
theorem kP{D:Ac}(nx:LK Y)(O:Y.K=K)(Q:Y.calm=true)(T:QY K D)(U:nsIn K C5 x=some (some (.ref D)))(hg:Gl Y x)(hm:Y.mg x=some (.ref D))(ha:JA Y (e::es) (Dw K M H0 fa))
  (i:(x==("__debug__":Ae))=false:=by decide) (j:AX (e::es) Y.env=(false,AC e Y.env)::AX es Y.env:=by exact DA (λ_ _ z=>nomatch z)) (k:(AZ cpos (AX es Y.env)).any (·.1)=false:=by rfl):
  XT Y K M H0 (.Raise (some (.Call (.Name x np) (e::es) [] cpos)) none pos) (λρ=>QZ (fa ρ) x):=⟨λb s n H ρ c I R q=>by
 subst O
 cases l:fa ρ with
 |none=>rw[l]at q;cases q
 |some o=>
  rw[l]at q
  obtain⟨s0,rfl⟩:∃s0,o=[s0]:=by
   cases o with
   |nil=>cases q
   |cons s0 r=>cases r with
    |nil=>exact⟨s0,rfl⟩
    |cons _ _=>cases q
  cases q
  obtain⟨p,qn,N,bs,bm,a,t,sub,u,d,w,y,A,B,C,E,l1,G,J,l4⟩:=T.ex
  have F:=PySem.F.excBase_ValueError
  refine wpAny_Raise_call_subU (mN:=Y.base.nsMap N) (nm:=p) (q:=qn) (N:=N) (bs:=bs) (hdct:=a) (sn:=t) (sub:=sub) (ab:=u) (col:=d) (dd:=w) (k0:=y) (k1:=A) (k2:=B) (k3:=C) (k5:=E) F F.hasB F ((tail_of_in I.kIn G).hasType F.hasBase) (I.ok.hd Q) (by rw[j];exact k) (nsMap_none_of_in I.ok.mod.kin J l4) (KI I hg hm ⟨rfl,?_⟩ i)
  rw[j]
  refine Calls.evalArgs_plain (Eg (j ▸ ha.h cpos b s n H (λvs f=>Am H f/\A9 Y.K (Nf M ρ n) f [s0] vs) I ⟨ρ,[s0],R,l,λvs f sm h1=>⟨sm,h1⟩⟩) (λL s1 ⟨vs,f,g,r,sm,h1⟩=>?_) λe s' z=>(nx e s' z).elim)
  have ul:L.length=1:=by rw[<- r.length,<- h1.length];rfl
  refine⟨rfl,?_,g.kIn _ _ l1,?_,tail_of_in g.kIn G,λh' v m=>⟨D,U,(kJ g m).from sm⟩⟩
  ·show L.length<=AG
   rw[ul];exact Jh (gy (by decide))
  ·exact(Heap.Ns.of_isNs (isNs_of_in I.ok.mod.kin J)).keeps g.bk⟩
theorem kQ{P:A4}{w:Aj}{mg:Ae->Option Aa}{base:Al}{x a:Ae}{st:Ay}{f:Ac}{fd:Bi}{N ps:List Ae}{k:Nat}{h:VE->Option Ae}(F:Iy K x a st f fd)(S:ZG N ps (Zm st))(u:ps.length<=N.length)
  (y:∀(b:Aa) (A:Ak) (outer:List Env) (s:Ab) (H:Hp) (E:XK) (M:Fb) (H0:Hp),Bf k (A.deeper (envOfC a (Zm st) s.heap.objs.size f b)) ->
   XB (FX Bh P w K mg base N a (Zm st) f b A outer s H E).nox K M H0 (FD st) h):Az P w K mg base (Nq P w) (k+1) f fd ps (LM K (fnX ps.length N.length h)):=by
 obtain⟨oc,od,kV,B,pm,an,b,ct,C,rfl,G,j⟩:=F.ex
 have len:∀vs H Q E,LM K (fnX ps.length N.length h) vs H Q E->vs.length=ps.length:=λvs H Q E z=>by
  obtain⟨l,p,c,r,i,d,q⟩:=z
  unfold fnX at d
  split at d
  ·next m=>rw[<- i.length];exact m
  ·cases d
 refine UM G j S len λA outer s H vs Q E J z=>?_
 obtain⟨l,p,c,r,i,d,q⟩:=z
 unfold fnX at d
 split at d
 ·next m=>
  have L:FC N vs=vs.map some++DH (N.length-ps.length) none:=by unfold FC;rw[<- i.length,m]
  refine⟨λD n e=>D={nx:=λ_ o=>Q .non o,rt:=Q}/\e=H/\BC K l H (p++DH (N.length-ps.length) .no) n H,λg O n e D I T=>?_,rfl,rfl,by rw[L];exact Vl r i _⟩
  obtain⟨_,rfl,R⟩:=T
  refine Eg ((y b A outer s e E l e J).h g O n e _ c (I.wish _) R d) (λ_ _ z=>z.elim) λv U z=>?_
  obtain⟨σ',H2,sm,D',e1,t⟩:=z
  exact kK (Y:=(FX Bh P w K mg base N a (Zm st) f b A outer s e E).nox) rfl rfl rfl sm t λo e2=>q D' o e1 e2
 ·cases d
theorem BC.more{ρ:VE}{σ:St}{H:Hp}{y C:Ac}(R:BC K M H0 ρ σ H)(f:H y=some (.ext (DK y C))):BC K M (A3 H0 y (.ext (DK y C))) ρ σ H where
 len:=R.len
 same:=λb o z=>by
  by_cases e:b=y
  ·rw[e,Ef]at z;rw[e,f,z]
  ·rw[ZK e]at z;exact R.same b o z
 mh:=R.mh
 slot:=λj g z=>by
  have q:=R.slot j g z
  cases g with
  |no=>trivial
  |val d=>exact q
  |lent i h=>exact q
  |exc c=>exact q
  |own i h=>
   obtain⟨b,vs,k,h1,h2,a,l⟩:=q
   refine⟨b,vs,k,?_,h2,a,l⟩
   rw[ZK (λe=>by rw[e,f]at a;cases h<;>cases a)];exact h1
 inj:=R.inj
@[simp] def WQ:An->An
  |.ret r=>.ret r
  |_=>.fail
@[simp] def Nr(a:List Ae)(i:Nat)(o:Option Ae)(r:An)(g:VE->An)(ρ:VE):An:=match o with
  |none=>r
  |some c=>if a.contains c=true then WQ (g (ρ.set i (.exc c)))else .fail
theorem kR{gs:VE->An}{O:VE->Option Ae}{G:Ac}{E n:Ae}{b0:Ay}{l:List Ay}{hp:Bc}(i:Nat)(cs:List Ae)(nx:LK Y)(hK:Y.K=K)(ys:Y.stack=Y.env::Y.outer)(yf:Y.env.frame=some Y.env.locals)(zx:XT Y K M H0 st O)(zb:JS Y st (tS K M H0 g))
  (hm:Y.mg E=some (.ref G)) (hg:Gl Y E) (hc:∀c D,cs.contains c=true->nsIn K C5 c=some (some (.ref D))->exmOne K (.ref D) (.ref G)=some true) (hN:Y.N.Nodup) (hi:Y.N[i]?=some n) (hl:Y.env.scope.names.lookup n=some .local)
  (zs:∀(x:Ac) (H1:Hp),(∃C,H1 x=some (.ext (DK x C)))->JB (Y.hand x) (b0::l) (tS K M H1 gs)) (hd:(E==("__debug__":Ae))=false:=by decide):
  JS Y (.Try [st] [.ExceptHandler (some (.Name E np)) (some n) (b0::l) hp] [] [] pos) (tS K M H0 λρ=>Nr cs i (O ρ) (g ρ) gs ρ):=⟨λm s y H D I ⟨ρ,R,q⟩=>by
 subst hK
 try dsimp only at q
 cases Q:O ρ with
 |none=>
  rw[Q]at q
  refine wpAny_Try_except (wpAny_execs_cons (Eg (zb.h m s y H D I ⟨ρ,R,q⟩) (λf J z=>?_) λe T z=>(nx e T z).elim))
  cases f with
  |next=>exact wpAny_execs_nil (wpAny_execs_nil z)
  |ret v=>exact z
  |brk=>exact z
  |cont=>exact z
 |some c=>
  rw[Q]at q
  simp only[Nr]at q
  split at q
  ·next U=>
   refine wpAny_Try_except (wpAny_execs_cons (Eg (zx.h m s y H ρ c I R Q) (λf J z=>z.elim) λv J z=>?_))
   obtain⟨D',L,t⟩:=z
   cases k:gs (ρ.set i (.exc c))with
   |ret r=>
    rw[k]at q
    refine kL (Q':=D.rt) ys yf t hm hg (hc c D' U L) hN hi hl (λx H3 s3 hx0 sm I3 A=>?_) (λu vv p B s5 I5 w qq=>⟨vv,p,B,I5,w,qq⟩) hd
    have S:Step M (Nf M ρ y) (Nf M (ρ.set i (.exc c)) (y.set i (some (.ref x)))) H H3:=⟨λa o e _=>sm a o e,λb hb=>by
     rcases JJ R.len hb with q|⟨xs,_,e,_⟩
     ·exact .inl q
     ·cases e⟩
    have R3:BC Y.K M H0 (ρ.set i (.exc c)) (y.set i (some (.ref x))) H3:=R.put S (R.same.trans sm) (λj a vs xs fl _ _ _ e=>sm _ _ e) (λ_=>⟨x,D',rfl,L,A⟩) (λxs fl a j ys fl' e=>nomatch e)
    have n0:=R.same.free hx0
    refine Eg ((zs x _ ⟨D',Ef⟩).h m s3 _ H3 {nx:=λ_ _=>False,rt:=D.rt} I3 ⟨_,R3.more A,?_⟩) (λf s4 z=>?_) λe T z=>(nx e T z).elim
    ·rw[k]
     refine λv B J w=>q v B (λb o z=>J b o (by rw[ZK (Eo z n0)];exact z)) ?_
     cases r with
     |val d=>exact w
     |own xs fl=>
      obtain⟨b,vs,L,z1,z2⟩:=w
      refine⟨b,vs,L,?_,z2⟩
      by_cases e:b=x
      ·rw[e];exact n0
      ·rw[ZK e]at z1;exact z1
    ·cases f with
     |ret u=>obtain⟨vv,p,B,I',w,qq⟩:=z;exact⟨u,vv,p,B,rfl,I',w,qq⟩
     |next=>obtain⟨_,_,_,z⟩:=z;exact z.elim
     |brk=>obtain⟨_,_,_,z⟩:=z;exact z.elim
     |cont=>obtain⟨_,_,_,z⟩:=z;exact z.elim
   |next _=>rw[k]at q;exact q.elim
   |fail=>rw[k]at q;exact q.elim
   |brk _=>rw[k]at q;exact q.elim
   |cont _=>rw[k]at q;exact q.elim
  ·exact q.elim⟩
end
section
variable{prog:A4}{w:Aj}{A:Ak}{E:Aa->Ab->Prop}{s:Ab}{x C:Ac}
theorem DK.at{h h':Al}(p:DK x C h)(k:∀o,h.get? x=some o->h'.get? x=some o):DK x C h':=let⟨o,vs,a,r⟩:=p;⟨o,vs,k o a,r⟩
end
section
variable{Y:Cx}{K:Frag}{M:Fb}{H0:Hp}{x:Ac}
def kS(K:Frag):List V->Hp->VK->Prop:=λe H Q=>∃a C d c b,e=[.ref a,d]/\(∀u,RelV d u->u=c)/\H a=some (.ext (DK a C))/\Ft K C/\kitOne K (.ref C) c=some b/\Q (.bl b) H
theorem kT:Bd Y (.builtin "isinstance") (kS Y.K):=by
 intro d s k H l m Q I r h
 obtain⟨a,C,n,c,b,rfl,f,g,F,e,q⟩:=h
 obtain⟨u,v,rfl,i,j⟩:=KU r
 cases i
 cases f v j
 exact kia_one (kG F) I.kIn (show Bl Y.prog Y.w H s.heap a (.ext (DK a C))from I.hok a _ g).1 e (λz=>nomatch z) λo=>⟨.bl b,H,I.tok _,rfl,q⟩
@[simp] def Ki(i:Nat)(a:List Ae)(f:Ae->Bool)(ρ:VE):Option D:=match ρ[i]? with
  |some (.exc c)=>if a.contains c=true then some (.bl (f c))else none
  |_=>none
theorem Q0{b:Expr}{e:V}{g:Aa}{n m:Ae}{j p pos:Bc}(i:Nat)(v:List Ae)(f:Ae->Bool)(x:Y.K=K)(y:Y.N[i]?=some n)(k:Dq Y.env.scope n)(A:PE Y b (tC e))(B:∀u,RelV e u->u=g)
  (E:∀c C,v.contains c=true->nsIn K C5 c=some (some (.ref C))->Ft K C/\kitOne K (.ref C) g=some (f c)) (G:Gl Y m) (I:Y.mg m=none) (J:Ep m=some (.builtin "isinstance"))
  (L:m≠"__name__":=by decide) (l:(m==("__debug__":Ae))=false:=by decide) (hd:(n==("__debug__":Ae))=false:=by decide) (o:(n==("__classdict__":Ae))=false:=by decide)
  (w:AX [.Name n j,b] Y.env=(false,AC (.Name n j) Y.env)::AX [b] Y.env:=by exact DA (λ_ _ z=>nomatch z)) (r:AX [b] Y.env=(false,AC b Y.env)::AX [] Y.env:=by exact DA (λ_ _ z=>nomatch z)) (s:(AZ pos (AX [b] Y.env)).any (·.1)=false:=by rfl):
  JE Y (.Call (.Name m p) [.Name n j,b] [] pos) (tD K M H0 (Ki i v f)):=⟨(PH kT G I J (Ej (Fz y k hd o) (Ej A BK r) w) L l w s).mono λσ H Q h=>by
 subst x
 obtain⟨ρ,d,R,z,q⟩:=h
 unfold Ki at z
 split at z
 ·next c O=>
  split at z
  ·next t=>
   cases z
   obtain⟨a,C,T,U,e3⟩:=R.slot i _ O
   obtain⟨F,kk⟩:=E c C t U
   exact⟨.ref a,AR T,a,C,e,g,f c,rfl,B,e3,F,kk,q _ H (Am.refl H) (by simp only[AI])⟩
  ·cases z
 ·cases z⟩
end
theorem Nt{X:Cx}:LK X.nox:=λ_ _ z=>z
abbrev kU:List Aa:=[.type "ValueError",.type "Exception",.type "BaseException",.type "object"]
def EX(t c:Ae):Bool:=c==t||t=="CubeError"||t=="ValueError"
section
variable{K:Frag}{C D G:Ac}{b:Bool}{cd:ClassData}
theorem mk_of{nm q:Ae}{N:Ac}{bs a:List Aa}{hdct:Bool}{sn:List Ae}{sub:List Aa}{ab:Bool}{col:Option Bool}{dd:Option Ac}{k0 k1 k2 k3 k5:Option Aa}
  (l:K.lookup D=some (excClassObj nm q D N bs a hdct sn sub ab col dd k0 k1 k2 k3 k5 "ValueError.__new__")) (e:excIn K D kU "ValueError.__new__"=true):QY K D:=by
 unfold excIn at e
 rw[l]at e
 simp only[Dj,beq_iff_eq,Bool.not_eq_true']at e
 exact⟨nm,q,N,bs,a,hdct,sn,sub,ab,col,dd,k0,k1,k2,k3,k5,l,e.1.1.2,e.1.2,e.2⟩
theorem WR{t:Aa}(z:clsIn K G=some cd)(y:typeIn K (.ref G)=some (.type "type"))(s:subIn K t (.ref G)=some b):kitCls K t (.ref G)=some b:=by
 unfold kitCls
 dsimp only
 rw[if_pos (by rw[z,y];rfl)];exact s
theorem kit_ne(ne:(Cn C==Cn G)=false)(z:clsIn K G=some cd)(y:typeIn K (.ref G)=some (.type "type"))(s:subIn K (.ref C) (.ref G)=some b):kitOne K (.ref C) (.ref G)=some b:=by
 unfold kitOne
 rw[if_neg (λq=>by rw[ne]at q;cases q)];exact WR z y s
theorem kit_self:kitOne K (.ref C) (.ref C)=some true:=by
 unfold kitOne
 rw[if_pos (beq_self_eq_true _)]
theorem kit_V(s:subIn K (.ref C) (.type "ValueError")=some b):kitOne K (.ref C) (.type "ValueError")=some b:=by
 unfold kitOne
 rw[if_neg (λq=>by cases(show(Cn C=Value.type "ValueError")from beq_iff_eq.mp q))]
 unfold kitCls
 dsimp only
 rw[if_pos (by decide +kernel)];exact s
theorem exm_of(x:subIn K (.ref G) (.type "BaseException")=some true)(z:clsIn K G=some cd)(y:typeIn K (.ref G)=some (.type "type"))(s:subIn K (.ref C) (.ref G)=some true):exmOne K (.ref C) (.ref G)=some true:=by
 unfold exmOne
 rw[if_pos (by rw[x];rfl)];exact WR z y s
end
section
variable{Y:Cx}{K:Frag}{M:Fb}{H0:Hp}{b:List Ay}{h h':VE->Option Ae}
theorem kW(z:XB Y K M H0 b h)(e:h=h'):XB Y K M H0 b h':=e ▸ z
theorem kX:XB Y K M H0 b (λ_=>none):=⟨λ_ _ _ _ _ _ _ _ q=>nomatch q⟩
end
end L2
namespace L2
open PySem PySem.Spec PyProof.Rows
section
variable{X:Cx}{K:As}{M:Fb}{H0:Hp}{pos:Bc}{st:Ay}
@[simp] def LO(i:Nat)(ρ:VE):An:=match BX ρ i with
  |some _=>.next (ρ.set i (.own []))
  |_=>.fail
theorem kY{i:Nat}{x:Ae}{b c d:Bc}(l:X.N[i]?=some x:=by rfl)(m:Dq X.env.scope x:=by first|exact Or.inl rfl|exact Or.inr (Or.inl rfl)|exact Or.inr (Or.inr rfl))(hd:(x==("__debug__":Ae))=false:=by decide)(g:(x==("__classdict__":Ae))=false:=by decide)
  (n:Fg (.Call (.Attribute (.Name x b) "clear" c) [] [] d) none pos.line X.env=AQ false:=by rfl)
  (e:Jt (.Name x b) "clear" X.env (AC (.Name x b) X.env)=AC (.Name x b) X.env:=by rfl) (f:(c.endLine==d.line)=true:=by rfl):
  JS X (.Expr (.Call (.Attribute (.Name x b) "clear" c) [] [] d) pos) (tS K M H0 λρ=>LO i ρ):=
 ⟨(Px (gh PySem.F.plainAttrs_list PySem.F.slot_list_clear PySem.F.type_list_clear gp (Fz l m hd g) e f) n).mono λp r H ⟨ρ,R,q⟩=>by
   try dsimp only at q
   cases h:BX ρ i with
   |none=>simp only[h,LO]at q;exact BW q
   |some s=>
    simp only[h,LO]at q
    have j:=MT h
    obtain⟨a,vs,o,z1,z2,z3,z4⟩:=R.slot i _ j
    have k:=AR o
    obtain⟨R2,S2⟩:=R.chg (ys:=[]) (ws:=[]) j k (by simp only[Ad])
    exact⟨.ref a,k,.inl ⟨rfl,vs,.inl (.inl z3)⟩,a,vs,rfl,rfl,z3,q _ _ R2 S2⟩⟩
@[simp] def rj(c:Bool)(a b:An):An:=if c=true then a else b
def kZ:D->D->Option D
 |.bl i,.bl j=>some (.bl (!decide (i=j)))
 |_,_=>none
@[simp] theorem rk(i j:Bool):kZ (.bl i) (.bl j)=some (.bl (!decide (i=j))):=rfl
@[simp] def rl(i:Nat)(ρ:VE):Bool:=match ρ[i]? with
  |some (.own _ false)=>true
  |_=>false
end
def Q1(i j:Int):Prop:=0<j/\j<2^100
instance (i j:Int):Decidable (Q1 i j):=by unfold Q1;exact inferInstance
section
variable{X:Cx}{K:As}{M:Fb}{H0:Hp}{a b:Expr}{f g:VE->Option D}{pos:Bc}
@[simp] def rm:D->D->Option D:=i2 λi j=>if Q1 i j then some (.int (i/j))else none
end
def k6(K:As):V->List V->Hp->VK->Prop:=λx c H Q=>∃a b k y z,x=.ref a/\c=[y,z]/\Cp K H a b/\GF k b/\DX K H k y/\(∀v,CW b k=some v->Q v H)/\(CW b k=none->Q z H)
section
variable{X:Cx}
theorem k7(N:X.A.units+64<AF):Gq X "dict.get" (k6 X.K):=by
 intro m s O H x T v f Q I B C h
 obtain⟨a,n,k,y,z,rfl,rfl,hd,o,q,q1,q2⟩:=h
 cases B
 obtain⟨E,r,rfl,t,u⟩:=C.two
 cases k with
 | «at» b=>
  cases q
  obtain⟨G,j,nd,f,g,i⟩:=J8 I hd o
  have c:=g.val b
  refine call_meetsIn PySem.F.slot_dict_get i.typeIs PySem.F.entry_dict_get (PySem.F.args_dict_get_3 _ _ _) (meets_dict_get_default (Z7 X.prog X.w) a (Hf t) j r) ⟨_,i.mapOf,?_⟩
  cases d:CW n (.at b)with
  |none=>
   cases e:valueAt f b with
   |none=>exact⟨z,H,I.tok _,u,q2 d⟩
   |some w=>rw[d,e]at c;exact c.elim
  |some w=>
   cases e:valueAt f b with
   |none=>rw[d,e]at c;exact c.elim
   |some J=>rw[d,e]at c;exact⟨w,H,I.tok _,c,q1 w d⟩
 |tup l=>
  obtain⟨p,L,M⟩:=q
  subst L
  cases(show E=Cn p from t)
  obtain⟨G,j,nd,f,g,i⟩:=J9 I hd o
  have c:=g.val l
  refine call_meetsIn PySem.F.slot_dict_get i.typeIs PySem.F.entry_dict_get (PySem.F.args_dict_get_3 _ _ _) (meetsH_dict_get_default (BI (Z7 X.prog X.w)) a p j r) ⟨Ly (by omega),l,f,IJ I M,i,?_⟩
  cases d:CW n (.tup l)with
  |none=>
   cases e:atKey f l with
   |none=>exact⟨z,H,I.tok _,u,q2 d⟩
   |some w=>rw[d,e]at c;exact c.elim
  |some w=>
   cases e:atKey f l with
   |none=>rw[d,e]at c;exact c.elim
   |some J=>rw[d,e]at c;exact⟨w,H,I.tok _,c,q1 w d⟩
def Nu(i:Nat)(c e:VE->Option D):VE->Option D:=λb=>match ER b i,c b,e b with
 |some f,some y,some d=>match DY f,Dl y with
  |some a,some k=>if DD k a then some ((ZS a k).getD d)else none
  |_,_=>none
 |_,_,_=>none
variable{K:As}{M:Fb}{H0:Hp}{ek ev:Expr}{fk fv:VE->Option D}{pos:Bc}
theorem k8{i:Nat}{x:Ae}{e g c:Bc}(hu:X.A.units+64<AF)(hk:JE X ek (tP X.K M H0 fk))(t:JE X ev (tD X.K M H0 fv))(hN:X.N[i]?=some x:=by rfl)(B:Dq X.env.scope x:=by first|exact Or.inl rfl|exact Or.inr (Or.inl rfl)|exact Or.inr (Or.inr rfl))(hd:(x==("__debug__":Ae))=false:=by decide)(C:(x==("__classdict__":Ae))=false:=by decide)
  (j:Jt (.Name x e) "get" X.env (AC (.Name x e) X.env)=AC (.Name x e) X.env:=by rfl)
  (m:((AZ c (AX [ek,ev] X.env)).all (λx=>!x.1)&&(backToKw c (BN [] X.env)).all (λx=>x.1.isSome)
   && decide ([ek,ev].length+([]:List Keyword).length+(if([]:List Keyword).isEmpty then 0 else 1)<30))=true:=by rfl)
  (l:(g.endLine==c.line)=true:=by rfl) (n:AX [ek,ev] X.env=(false,AC ek X.env)::AX [ev] X.env:=by exact DA (λ_ _ z=>nomatch z)) (o:AX [ev] X.env=(false,AC ev X.env)::AX [] X.env:=by exact DA (λ_ _ z=>nomatch z)) (E:(AZ c (AX [ev] X.env)).any (·.1)=false:=by rfl):
  JE X (.Call (.Attribute (.Name x e) "get" g) [ek,ev] [] c) (tD X.K M H0 (Nu i fk fv)):=
 ⟨(MG PySem.F.plainAttrs_dict PySem.F.slot_dict_get PySem.F.type_dict_get (k7 hu) (Fz hN B hd C) (Ej hk.h (Ej t.h BK o) n) j m l n E).mono λσ H Q h=>by
   obtain⟨ρ,d,R,ex,q⟩:=h
   unfold Nu at ex
   split at ex
   ·next xs y dv hr G I=>
    split at ex
    ·next p k J L=>
     split at ex
     ·next hh=>
      cases ex
      have O:=Ld hr
      have T:=HM J
      subst T
      obtain⟨a,vs,e1,z1,z2,z3,z4⟩:=R.slot i _ O
      have ha:=AR e1
      have tv:K1 X.K "dict" (.ref a) H:=.inr (.inr (.inl ⟨rfl,.inr (.inr ⟨_,_,.inl z3⟩)⟩))
      refine⟨.ref a,ha,tv,ρ,y,R,G,λw H1 s1 hw=>⟨ρ,dv,R.st s1,I,λv U s2 B=>?_⟩⟩
      have s:=s1.trans s2
      obtain⟨tr,e',r⟩:=Lz (z4.same s)
      subst e'
      rw[IL L]at hw
      have Y:=Kc (hw.same s2)
      have b:=r.val k
      refine⟨a,tr,k,w,v,rfl,rfl,⟨.inl (show U a=some (DC tr) by rw[<- Kd r];exact s _ _ z3),r.keys⟩,r.hom hh,IM Y,λu hu'=>?_,λhn=>?_⟩
      ·rw[hu']at b
       cases f:ZS p k with
       |none=>rw[f]at b;exact b.elim
       |some d0=>
        rw[f]at b q
        exact q u U s b
      ·rw[hn]at b
       cases f:ZS p k with
       |some d0=>rw[f]at b;exact b.elim
       |none=>
        rw[f]at q
        exact q v U s B
     ·cases ex
    ·cases ex
   ·cases ex⟩
end
abbrev Dn(h:Al)(T:Ac)(a b c:Aa):Prop:=h.get? T=some {cls:=.type "tuple",data:=.seq #[a,b,c]}
section
variable{prog:A4}{w:Aj}{A:Ak}{E:Aa->Ab->Prop}{s:Ab}
theorem LP{T:Ac}{a b c x:Aa}{k:Nat}{Q:Unit->Ab->Prop}(d:Dn s.heap T a b c)
  (h:∀h',h'.get? T=some {cls:=.type "tuple",data:=.seq ((#[a,b,c]:Array Aa).setIfInBounds k x)}->Dr T s.heap h'->Q () {s with heap:=h' }):
  wpAny (Af prog w) A (updateSeq T (·.setIfInBounds k x)) Q E s:=by
 refine wpAny_updateSeq d rfl (h _ ?_ (IH ..))
 rw[Lv _ d rfl]
 simp[G2]
theorem CY{i:Ac}{f:List Ac}{n k:Nat}{is:Nat->Aa->Prop}{st:Nat->Al->Prop}(S:DV prog w i f n is st){h h':Al}(q:st k h){c:Ac}(b:i≠c)(d:∀x∈f,x≠c)(g:Dr c h h'):st k h':=
 S.frame k h h' q λx a o e=>g.extBut x o (by rcases a with rfl|a;exact b;exact d x a) e
structure Q2(z tin tout ia ib ic:Ac)(fa fb fc:List Ac):Prop where
 z1:tin≠z
 z2:tout≠z
 z3:ia≠z
 z4:ib≠z
 z5:ic≠z
 a1:tout≠ia
 a2:tout≠ib
 a3:tout≠ic
 b1:ia≠ib
 b2:ia≠ic
 b3:ib≠ic
 fA:∀b∈fa,b≠z/\b≠tout/\b≠ib/\b≠ic
 fB:∀b∈fb,b≠z/\b≠tout/\b≠ia/\b≠ic
 fC:∀b∈fc,b≠z/\b≠tout/\b≠ia/\b≠ib
variable{z tin tout ia ib ic:Ac}{fa fb fc:List Ac}{n m l k:Nat}{isA isB isC:Nat->Aa->Prop}{sa sb sc:Nat->Al->Prop}{a b c:Aa}
theorem k9{Q:Option Aa->Ab->Prop}(D:Q2 z tin tout ia ib ic fa fb fc)(h:DV prog w ia fa n isA sa)(SB:DV prog w ib fb m isB sb)(SC:DV prog w ic fc l isC sc)
  (hz:IsZip s.heap z tin tout .none) (Y:Dn s.heap tin (.ref ia) (.ref ib) (.ref ic)) (ho:Dn s.heap tout a b c) (ha:sa k s.heap) (hb:sb k s.heap) (I:sc k s.heap) (kn:k<n) (km:k<m) (kl:k<l)
  (q:∀x y v h',isA k x->isB k y->isC k v->IsZip h' z tin tout (AH s.heap.objs.size)->Dn h' tout x y v->sa (k+1) h'->sb (k+1) h'->sc (k+1) h'->Dn h' s.heap.objs.size x y v->h'.objs.size=s.heap.objs.size+1 ->
   (∀c o,c≠z->c≠tout->c≠ia->c≠ib->c≠ic->s.heap.get? c=some o->h'.get? c=some o)->Q (some (.ref s.heap.objs.size)) {s with heap:=h' }):
  wpAny (Af prog w) A (Bo (.ref z)) Q E s:=by
 have ty:s.TypeIs (.ref z) "zip":=⟨_,hz,rfl⟩
 unfold Bo
 refine Ag (HK (FY (name:=Dt "__next__") ty IQ (Fk IQ ty Q3 ?_ (Q4 _))))
 show wpAny _ _ (field (.ref z) 2 >>= _) _ _ _
 refine Ag (Ch hz rfl (x:=.bool false) rfl ?_)
 show wpAny _ _ (field (.ref z) 3 >>= _) _ _ _
 refine Ag (Ch hz rfl (x:=.ref tin) rfl ?_)
 refine Ag (EV Y rfl ?_)
 show wpAny _ _ (Hc (.ref z) >>= _) _ _ _
 refine Ag ?_
 unfold Hc
 refine Ag (Ch hz rfl (x:=.none) rfl (AE ?_))
 rw[if_pos rfl]
 refine Ag (FK ?_)
 refine Ag (Ch hz rfl (x:=.ref tout) rfl ?_)
 refine Ag (DL hz (by simp) λg1 z1 b1=>?_)
 have z1:IsZip g1 z tin tout .ellipsis:=z1
 have J:=λx d=>(D.fA x d).1
 have j:=λx d=>(D.fA x d).2.1
 have fA3:=λx d=>(D.fA x d).2.2.1
 have fA4:=λx d=>(D.fA x d).2.2.2
 have L:=λx d=>(D.fB x d).1
 have p:=λx d=>(D.fB x d).2.1
 have fB3:=λx d=>(D.fB x d).2.2.1
 have fB4:=λx d=>(D.fB x d).2.2.2
 have M:=λx d=>(D.fC x d).1
 have r:=λx d=>(D.fC x d).2.1
 have fC3:=λx d=>(D.fC x d).2.2.1
 have fC4:=λx d=>(D.fC x d).2.2.2
 refine Ag ?_
 simp only[List.zipIdx_nil,List.zipIdx_cons,LQ,Ju]
 refine Ag (Ag (Hl ?_))
 show wpAny _ _ (DW (.ref ia) >>= _) _ _ _
 refine Ag (h.item _ _ _ k _ kn (CY h ha D.z3 J b1) λx g2 d a2 b2=>AE ?_)
 have o2:Dn g2 tout a b c:=b2.extBut _ _ D.a1 (b1.extBut _ _ D.z2 ho)
 refine Ag (EV o2 rfl ?_)
 refine Ag (LP o2 λg3 o3 b3=>?_)
 have o3:Dn g3 tout x b c:=o3
 refine Ag (Hd (AE ?_))
 refine Ag (Ag (Hl ?_))
 show wpAny _ _ (DW (.ref ib) >>= _) _ _ _
 have hb3:sb k g3:=CY SB (CY SB (CY SB hb D.z4 L b1) (Br D.b1) fB3 b2) (Br D.a2) p b3
 refine Ag (SB.item _ _ _ k _ km hb3 λy g4 hy a4 u=>AE ?_)
 have o4:Dn g4 tout x b c:=u.extBut _ _ D.a2 o3
 refine Ag (EV o4 rfl ?_)
 refine Ag (LP o4 λg5 o5 B=>?_)
 have o5:Dn g5 tout x y c:=o5
 refine Ag (Hd (AE ?_))
 refine Ag (Ag (Hl ?_))
 show wpAny _ _ (DW (.ref ic) >>= _) _ _ _
 have hc5:sc k g5:=CY SC (CY SC (CY SC (CY SC (CY SC I D.z5 M b1) (Br D.b2) fC3 b2) (Br D.a3) r b3) (Br D.b3) fC4 u) (Br D.a3) r B
 refine Ag (SC.item _ _ _ k _ kl hc5 λv g6 hv a6 C=>AE ?_)
 have o6:Dn g6 tout x y c:=C.extBut _ _ D.a3 o5
 refine Ag (EV o6 rfl ?_)
 refine Ag (LP o6 λg T G=>?_)
 have T:Dn g tout x y v:=T
 refine Ag (Hd (AE (AE ?_)))
 refine Ag (EV T rfl ?_)
 refine Ag (wpAny_newTuple ?_)
 have sz:g.objs.size=s.heap.objs.size:=by rw[G.1,C.1,B.1,u.1,b3.1,b2.1,b1.1]
 have z7:IsZip g z tin tout .ellipsis:=G.extBut _ _ (Br D.z2) (C.extBut _ _ (Br D.z5) (B.extBut _ _ (Br D.z2) (u.extBut _ _ (Br D.z4) (b3.extBut _ _ (Br D.z2) (b2.extBut _ _ (Br D.z3) z1)))))
 have kp:∀c o,c≠z->c≠tout->c≠ia->c≠ib->c≠ic->s.heap.get? c=some o->g.get? c=some o:=λc o t N c3 c4 c5 e=>
  G.extBut _ _ N (C.extBut _ _ c5 (B.extBut _ _ N (u.extBut _ _ c4 (b3.extBut _ _ N (b2.extBut _ _ c3 (b1.extBut _ _ t e))))))
 have a7:sa (k+1) g:=CY h (CY h (CY h (CY h (CY h a2 (Br D.a1) j b3) D.b1 fA3 u) (Br D.a1) j B) D.b2 fA4 C) (Br D.a1) j G
 have b7':sb (k+1) g:=CY SB (CY SB (CY SB a4 (Br D.a2) p B) D.b3 fB4 C) (Br D.a2) p G
 have c7':sc (k+1) g:=CY SC a6 (Br D.a3) r G
 have O:z<g.objs.size:=By z7
 show wpAny _ _ (Lw (.ref z) (.ref g.objs.size) >>= _) _ _ _
 refine Ag ?_
 unfold Lw
 have z8:IsZip (g.push {cls:=.type "tuple",data:=.seq #[x,y,v]}) z tin tout .ellipsis:=Bk _ z7
 refine Ag (DL z8 (by simp) λg9 z9 b9=>?_)
 have z9:IsZip g9 z tin tout (AH g.objs.size):=z9
 refine DL z9 (by simp) λH U bA=>?_
 have U:IsZip H z tin tout (AH g.objs.size):=U
 have up:∀c o,c≠z->g.get? c=some o->H.get? c=some o:=λc o t e=>bA.extBut _ _ t (b9.extBut _ _ t (Bk _ e))
 have new:Dn H g.objs.size x y v:=bA.extBut _ _ (FA O) (b9.extBut _ _ (FA O) (B0 _ rfl))
 have sA:H.objs.size=g.objs.size+1:=by rw[bA.1,b9.1,E3]
 have fin:∀{i:Ac} {f:List Ac} {n:Nat} {is:Nat->Aa->Prop} {st:Nat->Al->Prop} (S:DV prog w i f n is st),i≠z->(∀x∈f,x≠z)->st (k+1) g->st (k+1) H:=λS Y hf q=>S.frame _ _ _ q λc I o e=>up c o (by rcases I with rfl|I;exact Y;exact hf c I) e
 rw[sz]at U new sA
 refine AE ⟨_,rfl,AE ?_⟩
 show Q (some (.ref g.objs.size)) _
 rw[sz]
 exact q x y v H d hy hv U (up _ _ D.z2 T) (fin h D.z3 J a7) (fin SB D.z4 L b7') (fin SC D.z5 M c7') new sA λc o t N c3 c4 c5 e=>up c o t (kp c o t N c3 c4 c5 e)
theorem lb{Q:Option Aa->Ab->Prop}(j:A.handled=none)(D:Q2 z tin tout ia ib ic fa fb fc)(I:DV prog w ia fa n isA sa)(SB:DV prog w ib fb m isB sb)(SC:DV prog w ic fc l isC sc)
  (hz:IsZip s.heap z tin tout .none) (hi:Dn s.heap tin (.ref ia) (.ref ib) (.ref ic)) (ho:Dn s.heap tout a b c) (ha:sa k s.heap) (hb:sb k s.heap) (hc:sc k s.heap) (kn:n<=k\/m<=k\/l<=k)
  (q:∀h',(∀c o,c≠z->c≠tout->c≠ia->c≠ib->c≠ic->s.heap.get? c=some o->h'.get? c=some o)->Q none {s with heap:=h' }):
  wpAny (Af prog w) A (Bo (.ref z)) Q E s:=by
 have ty:s.TypeIs (.ref z) "zip":=⟨_,hz,rfl⟩
 unfold Bo
 refine Ag (HK (FY (name:=Dt "__next__") ty IQ (Fk IQ ty Q3 ?_ (Q4 _))))
 have i:∀(h':Al) (e:Ac),(∀c o,c≠z->c≠tout->c≠ia->c≠ib->c≠ic->s.heap.get? c=some o->h'.get? c=some o)->(∃o,h'.get? e=some o/\o.cls=.type "StopIteration") ->
   wpAny (Af prog w) A (do if(<- isInstance (.ref e) (.type "StopIteration"))=true then AQ (none:Option Aa)else throw (Cn e)) Q E {s with heap:=h' }:=λh' e kp ⟨o,g,d⟩=>
  Ag (wpAny_isInstance (T:="StopIteration") (b:=true) ⟨o,g,d⟩ isSubtype_stop (AE (q h' kp)))
 show wpAny _ _ (field (.ref z) 2 >>= _) _ _ _
 refine Ag (Ch hz rfl (x:=.bool false) rfl ?_)
 show wpAny _ _ (field (.ref z) 3 >>= _) _ _ _
 refine Ag (Ch hz rfl (x:=.ref tin) rfl ?_)
 refine Ag (EV hi rfl ?_)
 show wpAny _ _ (Hc (.ref z) >>= _) _ _ _
 refine Ag ?_
 unfold Hc
 refine Ag (Ch hz rfl (x:=.none) rfl (AE ?_))
 rw[if_pos rfl]
 refine Ag (FK ?_)
 refine Ag (Ch hz rfl (x:=.ref tout) rfl ?_)
 refine Ag (DL hz (by simp) λg1 z1 b1=>?_)
 have z1:IsZip g1 z tin tout .ellipsis:=z1
 have r:=λx f=>(D.fA x f).1
 have N:=λx f=>(D.fB x f).1
 have O:=λx f=>(D.fB x f).2.1
 have U:=λx f=>(D.fB x f).2.2.1
 have Y:=λx f=>(D.fC x f).1
 have t:=λx f=>(D.fC x f).2.1
 have fC3:=λx f=>(D.fC x f).2.2.1
 have fC4:=λx f=>(D.fC x f).2.2.2
 refine Ag ?_
 simp only[List.zipIdx_nil,List.zipIdx_cons,LQ,Ju]
 refine Ag (Ag (Hl ?_))
 show wpAny _ _ (DW (.ref ia) >>= _) _ _ _
 by_cases ka:n<=k
 ·refine Ag (I.fin A.in1 _ _ k _ (by first|exact j|simpa using j) ka (CY I ha D.z3 r b1) λg2 e x2 u=>?_)
  obtain⟨v,g,d⟩:=u
  have z2:IsZip g2 z tin tout .ellipsis:=x2 _ _ (Br D.z3) z1
  have B:e≠z:=λx=>by subst x;rw[z2]at g;cases g;simp at d
  exact DL z2 (by simp) λC _ b3=>i C e (λc o d _ G _ _ x=>b3.extBut _ _ d (x2 _ _ G (b1.extBut _ _ d x))) ⟨v,b3.extBut _ _ B g,d⟩
 ·refine Ag (I.item _ _ _ k _ (Nat.lt_of_not_le ka) (CY I ha D.z3 r b1) λx g2 f a2 b2=>AE ?_)
  have o2:Dn g2 tout a b c:=b2.extBut _ _ D.a1 (b1.extBut _ _ D.z2 ho)
  refine Ag (EV o2 rfl ?_)
  refine Ag (LP o2 λC o3 b3=>?_)
  have o3:Dn C tout x b c:=o3
  refine Ag (Hd (AE ?_))
  refine Ag (Ag (Hl ?_))
  show wpAny _ _ (DW (.ref ib) >>= _) _ _ _
  have H:sb k C:=CY SB (CY SB (CY SB hb D.z4 N b1) (Br D.b1) U b2) (Br D.a2) O b3
  have z3:IsZip C z tin tout .ellipsis:=b3.extBut _ _ (Br D.z2) (b2.extBut _ _ (Br D.z3) z1)
  by_cases kb:m<=k
  ·refine Ag (SB.fin A.in1 _ _ k _ (by first|exact j|simpa using j) kb H λg4 e x4 u=>?_)
   obtain⟨v,g,d⟩:=u
   have z4:IsZip g4 z tin tout .ellipsis:=x4 _ _ (Br D.z4) z3
   have B:e≠z:=λx=>by subst x;rw[z4]at g;cases g;simp at d
   exact DL z4 (by simp) λJ _ p=>i J e (λc o d L G c4 _ x=>p.extBut _ _ d (x4 _ _ c4 (b3.extBut _ _ L (b2.extBut _ _ G (b1.extBut _ _ d x))))) ⟨v,p.extBut _ _ B g,d⟩
  ·have kc:l<=k:=by rcases kn with h|h|h;exact absurd h ka;exact absurd h kb;exact h
   refine Ag (SB.item _ _ _ k _ (Nat.lt_of_not_le kb) H λy g4 hy a4 M=>AE ?_)
   have o4:Dn g4 tout x b c:=M.extBut _ _ D.a2 o3
   refine Ag (EV o4 rfl ?_)
   refine Ag (LP o4 λJ o5 p=>?_)
   have o5:Dn J tout x y c:=o5
   refine Ag (Hd (AE ?_))
   refine Ag (Ag (Hl ?_))
   show wpAny _ _ (DW (.ref ic) >>= _) _ _ _
   have hc5:sc k J:=CY SC (CY SC (CY SC (CY SC (CY SC hc D.z5 Y b1) (Br D.b2) fC3 b2) (Br D.a3) t b3) (Br D.b3) fC4 M) (Br D.a3) t p
   refine Ag (SC.fin A.in1 _ _ k _ (by first|exact j|simpa using j) kc hc5 λg6 e x6 u=>?_)
   obtain⟨v,g,d⟩:=u
   have z6:IsZip g6 z tin tout .ellipsis:=x6 _ _ (Br D.z5) (p.extBut _ _ (Br D.z2) (M.extBut _ _ (Br D.z4) z3))
   have B:e≠z:=λx=>by subst x;rw[z6]at g;cases g;simp at d
   exact DL z6 (by simp) λg7 _ b7=>i g7 e (λc o d L G c4 c5 x=>b7.extBut _ _ d (x6 _ _ c5 (p.extBut _ _ L (M.extBut _ _ c4 (b3.extBut _ _ L (b2.extBut _ _ G (b1.extBut _ _ d x))))))) ⟨v,b7.extBut _ _ B g,d⟩
end
@[reducible] def LR(h:Al)(A B C:Bn):Al:=(GB h A B).push C.obj
@[reducible] def Nv(h:Al)(A B C:Bn):Al:=(LR h A B C).push {cls:=.type "tuple",data:=.seq #[.ref h.objs.size,.ref (Ha h A).objs.size,.ref (GB h A B).objs.size]}
@[reducible] def Nw(h:Al)(A B C:Bn):Al:=(Nv h A B C).push {cls:=.type "tuple",data:=.seq #[.none,.none,.none]}
@[reducible] def HV(h:Al)(A B C:Bn):Al:=(Nw h A B C).push {cls:=.type "zip",data:=.fields #[.none,.bool false,.bool false,.ref (LR h A B C).objs.size,.ref (Nv h A B C).objs.size]}
theorem lc(A B C:Bn)(xs ys vs:Array Aa):Meets (Aw.«zip.__new__» ⟨[.type "zip",.ref A.ad,.ref B.ad,.ref C.ad],[]⟩) (λ_ R s=>A.ok s.heap xs/\B.ok s.heap ys/\C.ok s.heap vs/\R (.ok (.ret (.ref (Nw s.heap A B C).objs.size))) {s with heap:=HV s.heap A B C}):=
 .of_wp λprog w m R s h=>by
  obtain⟨a,g,d,b,os⟩:=s;obtain⟨c,f,i,q⟩:=h
  have n:=sub_zip
  have j:A.ok (Shared.heap ⟨a,g,d,b,os⟩) xs:=c
  have k:B.ok (Shared.heap ⟨a.push A.obj,g,d,b,os⟩) ys:=B.okAt f λo e=>Bk _ e
  have l:C.ok (Shared.heap ⟨(a.push A.obj).push B.obj,g,d,b,os⟩) vs:=C.okAt i λo e=>Bk _ (Bk _ e)
  wp_walk using A.pyIter j,B.pyIter k,C.pyIter l
  exact⟨_,rfl,q⟩
theorem lf(a b c:Aa):checkTypeCall "zip" {pos:=[a,b,c]}=AQ ():=by kernel_rfl
theorem lg(a b c:Aa):Nl "zip.__new__" {pos:=[Value.type "zip",a,b,c]}=AQ ():=by kernel_rfl
theorem lh(a b c d:Aa):argsOk "object.__init__" ⟨[a,b,c,d],[]⟩:=by
 unfold argsOk;rw[signature?_of (id:="object.__init__") (n:=['_','_','t','i','n','i','_','_']) (o:=['t','c','e','j','b','o']) (by kernel_rfl) PySem.F.owner_object];kernel_rfl
section
variable{prog:A4}{w:Aj}{A:Ak}{E:Aa->Ab->Prop}{s:Ab}
theorem li{S T U:Bn}{xs ys vs:Array Aa}{Q:Aa->Ab->Prop}(j:S.ok s.heap xs)(k:T.ok s.heap ys)(l:U.ok s.heap vs)
  (q:∀h',IsZip h' (s.heap.objs.size+5) (s.heap.objs.size+3) (s.heap.objs.size+4) .none->Dn h' (s.heap.objs.size+3) (.ref s.heap.objs.size) (.ref (s.heap.objs.size+1)) (.ref (s.heap.objs.size+2)) ->
   Dn h' (s.heap.objs.size+4) .none .none .none->S.it h' s.heap.objs.size 0->T.it h' (s.heap.objs.size+1) 0->U.it h' (s.heap.objs.size+2) 0->(∀c o,s.heap.get? c=some o->h'.get? c=some o)->Q (.ref (s.heap.objs.size+5)) {s with heap:=h' }):
  wpAny (Af prog w) A (call (.type "zip") [.ref S.ad,.ref T.ad,.ref U.ad]) Q E s:=by
 refine callType_new PySem.F.called_zip (by decide) (lf _ _ _) (lg _ _ _) (λobj=>lh obj _ _ _) PySem.F.entry_zip_new (lc S T U xs ys vs) ⟨j,k,l,?_⟩
 have z1:(Ha s.heap S).objs.size=s.heap.objs.size+1:=E3 ..
 have z2:(GB s.heap S T).objs.size=s.heap.objs.size+2:=by rw[E3,z1]
 have z3:(LR s.heap S T U).objs.size=s.heap.objs.size+3:=by rw[E3,z2]
 have z4:(Nv s.heap S T U).objs.size=s.heap.objs.size+4:=by rw[E3,z3]
 have z5:(Nw s.heap S T U).objs.size=s.heap.objs.size+5:=by rw[E3,z4]
 have b:(HV s.heap S T U).get? (Nw s.heap S T U).objs.size=some _:=B0 _ rfl
 have d:(HV s.heap S T U).get? (Nv s.heap S T U).objs.size=some _:=Bk _ (B0 _ rfl)
 have f:(HV s.heap S T U).get? (LR s.heap S T U).objs.size=some _:=Bk _ (Bk _ (B0 _ rfl))
 have a:∀c o,(LR s.heap S T U).get? c=some o->(HV s.heap S T U).get? c=some o:=λc o e=>Bk _ (Bk _ (Bk _ e))
 have g:U.it (HV s.heap S T U) (GB s.heap S T).objs.size 0:=U.itAt (U.new (h:=GB s.heap S T)) λo e=>a _ o e
 have i:T.it (HV s.heap S T U) (Ha s.heap S).objs.size 0:=T.itAt (T.new (h:=Ha s.heap S)) λo e=>a _ o (Bk _ e)
 have m:S.it (HV s.heap S T U) s.heap.objs.size 0:=S.itAt (S.new (h:=s.heap)) λo e=>a _ o (Bk _ (Bk _ e))
 show _/\_
 rw[z3,z4,z5]at b
 rw[z1,z2,z3]at f
 rw[z4]at d
 rw[z1]at i
 rw[z2]at g
 rw[z5]
 exact⟨⟨_,b,rfl⟩,q _ b f d m i g λc o e=>a _ _ (Bk _ (Bk _ (Bk _ e)))⟩
end
def WS(K:As)(S T U:Bn):It:=
 ⟨λi H=>∃a b vs x y v,S.sq K H a/\T.sq K H b/\U.sq K H vs/\a[i]?=some x/\b[i]?=some y/\vs[i]?=some v,
  λi H r c=>∃p x y v,r=.ref p/\H p=none/\c=A3 H p (.tup [x,y,v])/\(∀a,S.sq K H a->a[i]?=some x)/\(∀b,T.sq K H b->b[i]?=some y)/\∀vs,U.sq K H vs->vs[i]?=some v,
  λi H=>∃a b vs,S.sq K H a/\T.sq K H b/\U.sq K H vs/\(a.length<=i\/b.length<=i\/vs.length<=i)⟩
theorem WT{n:Nat}{S T U:Bn}(f:S.ad<n)(g:T.ad<n)(h:U.ad<n):Q2 (n+5) (n+3) (n+4) n (n+1) (n+2) [S.ad] [T.ad] [U.ad]:=by
 have c:∀(a:Ac),a<n->∀k:Nat,a≠n+k:=λa i k e=>by subst e;exact absurd i (by show ¬ @LT.lt Nat _ _ _;omega)
 have j:∀(a:Ac),a<n->a≠n:=λa i=>c a i 0
 refine⟨?_,?_,?_,?_,?_,?_,?_,?_,?_,?_,?_,λb d=>?_,λb d=>?_,λb d=>?_⟩
 all_goals first
  |(show @Ne Nat _ _;omega)
  |(rw[GC.mp d];exact⟨c _ f 5,c _ f 4,c _ f 1,c _ f 2⟩)
  |(rw[GC.mp d];exact⟨c _ g 5,c _ g 4,j _ g,c _ g 2⟩)
  |(rw[GC.mp d];exact⟨c _ h 5,c _ h 4,j _ h,c _ h 1⟩)
theorem lj{P:A4}{w:Aj}{K:As}{C:List Expr} {x1} {pos:Bc} (S T U:Bn) (n:Nat) (h1:S.ad<n) (h2:T.ad<n) (h3:U.ad<n):
  Gn P w K (.Tuple C x1 pos) (WS K S T U) [n+5,n+3,n+4,n,n+1,n+2] (n+5) (λi h=>IsZip h (n+5) (n+3) (n+4) .none/\Dn h (n+3) (.ref n) (.ref (n+1)) (.ref (n+2))/\(∃a b c,Dn h (n+4) a b c)/\S.it h n i/\T.it h (n+1) i/\U.it h (n+2) i) where
 mem:=by simp
 obj:=λi h st q g=>by
  obtain⟨z,a,⟨x,y,v,b⟩,c,d,e⟩:=st
  simp only[Bv,G8,or_false]at g
  rcases g with rfl|rfl|rfl|rfl|rfl|rfl
  ·exact⟨_,z,λv e=>nomatch (show Data.fields _=GX v from e)⟩
  ·exact⟨_,a,λv e=>nomatch (show Data.seq _ _=GX v from e)⟩
  ·exact⟨_,b,λv e=>nomatch (show Data.seq _ _=GX v from e)⟩
  ·exact S.itOb c
  ·exact T.itOb d
  ·exact U.itOb e
 keep:=λi h h' st k=>by
  obtain⟨z,a,⟨x,y,v,b⟩,c,d,f⟩:=st
  exact⟨k _ (by simp) _ z,k _ (by simp) _ a,⟨x,y,v,k _ (by simp) _ b⟩,S.itAt c λo e=>k _ (by simp) o e,T.itAt d λo e=>k _ (by simp) o e,U.itAt f λo e=>k _ (by simp) o e⟩
 item:=by
  intro X hP hw hK hc i j s σ H E I N st l
  obtain⟨z,a,⟨u,v,t,b⟩,c,d,f⟩:=st
  obtain⟨xs,ys,vs,x,y,v3,O,Q,Y,ex,ey,ev⟩:=l
  subst hP hw hK
  obtain⟨m,r1,o1,_⟩:=S.of I O
  obtain⟨p,r2,o2,_⟩:=T.of I Q
  obtain⟨r,r3,o3,_⟩:=U.of I Y
  obtain⟨u1,e1,ru1⟩:=r1.get ex
  obtain⟨u2,e2,ru2⟩:=r2.get ey
  obtain⟨u3,e3,ru3⟩:=r3.get ev
  have l1:=(List.getElem?_eq_some_iff.mp e1).1
  have l2:=(List.getElem?_eq_some_iff.mp e2).1
  have l3:=(List.getElem?_eq_some_iff.mp e3).1
  refine k9 (WT h1 h2 h3) (S.sub (P:=X.prog) (w:=X.w) m.toArray) (T.sub (P:=X.prog) (w:=X.w) p.toArray) (U.sub (P:=X.prog) (w:=X.w) r.toArray) z a b ⟨c,o1⟩ ⟨d,o2⟩ ⟨f,o3⟩ (by simpa using l1) (by simpa using l2) (by simpa using l3) λx' y' v' h' G J L z' to' c'' d'' f'' new sz kp=>?_
  obtain⟨c',_⟩:=c''
  obtain⟨d',_⟩:=d''
  obtain⟨f',_⟩:=f''
  have hx1:x'=u1:=by simp[e1]at G;exact G.symm
  have hy1:y'=u2:=by simp[e2]at J;exact J.symm
  have hv1:v'=u3:=by simp[e3]at L;exact L.symm
  subst hx1 hy1 hv1
  refine⟨_,rfl,wpAny_letOwnedTupleGo_zip z' λA z2 sb=>?_⟩
  have hlt:n+5<s.heap.objs.size:=By z
  have B:∀q o,q≠n+5->h'.get? q=some o->A.get? q=some o:=λq o g e=>sb.extBut _ _ g e
  have I1:Inv X j σ (A3 H s.heap.objs.size (.tup [x,y,v3])) {s with heap:=A}:=by
   refine I.yielded N (λq o g e=>B q o (λz=>g (by simp[z])) (kp q o (λz=>g (by simp[z])) (λz=>g (by simp[z])) (λz=>g (by simp[z])) (λz=>g (by simp[z])) (λz=>g (by simp[z])) e)) (BB _) ?_
   exact⟨show 3<=AG by decide,[x',y',v'],.cons ru1 (.cons ru2 (.cons ru3 .nil)),⟨_,B _ _ (by(show @Ne Nat _ _;omega)) new,rfl,_,rfl⟩⟩
  have kt:Dn A (n+3) (.ref n) (.ref (n+1)) (.ref (n+2)):=B _ _ (by(show @Ne Nat _ _;omega)) (kp _ _ (by(show @Ne Nat _ _;omega)) (by(show @Ne Nat _ _;omega)) (by(show @Ne Nat _ _;omega)) (by(show @Ne Nat _ _;omega)) (by(show @Ne Nat _ _;omega)) a)
  refine⟨.ref s.heap.objs.size,_,I1,rfl,⟨_,x,y,v3,rfl,I.hok.fresh (BB _),rfl,λzs M=>by rw[S.inj I M O];exact ex,λzs M=>by rw[T.inj I M Q];exact ey,λzs M=>by rw[U.inj I M Y];exact ev⟩,⟨z2,kt,⟨x',y',v',B _ _ (by(show @Ne Nat _ _;omega)) to'⟩,S.itAt c' λo e=>B _ o (by(show @Ne Nat _ _;omega)) e,T.itAt d' λo e=>B _ o (by(show @Ne Nat _ _;omega)) e,U.itAt f' λo e=>B _ o (by(show @Ne Nat _ _;omega)) e⟩,λq g=>?_⟩
  rw[ZK]
  ·exact(N q g).1
  ·simp only[Bv,G8,or_false]at g
   rcases g with rfl|rfl|rfl|rfl|rfl|rfl<;>(show @Ne Nat _ _;omega)
 done:=by
  intro X hP hw hK hc i j s σ H E I N st l
  obtain⟨z,a,⟨u,v,t,b⟩,c,d,f⟩:=st
  obtain⟨xs,ys,vs,O,Q,Y,hl⟩:=l
  subst hP hw hK
  obtain⟨m,r1,o1,_⟩:=S.of I O
  obtain⟨p,r2,o2,_⟩:=T.of I Q
  obtain⟨r,r3,o3,_⟩:=U.of I Y
  have q1:=r1.length
  have q2:=r2.length
  have q3:=r3.length
  refine lb (I.ok.hd hc) (WT h1 h2 h3) (S.sub (P:=X.prog) (w:=X.w) m.toArray) (T.sub (P:=X.prog) (w:=X.w) p.toArray) (U.sub (P:=X.prog) (w:=X.w) r.toArray) z a b ⟨c,o1⟩ ⟨d,o2⟩ ⟨f,o3⟩ (by simp only[BF];omega) λh' kp=>⟨rfl,I.turnedL N λq o g e=>kp q o (λz=>g (by simp[z])) (λz=>g (by simp[z])) (λz=>g (by simp[z])) (λz=>g (by simp[z])) (λz=>g (by simp[z])) e⟩
 self:=λ_ _ _ _ _ st q=>wpAny_pyIter_zip st.1 q
theorem ll{K:As}{M N:Fb}{H:Hp}{S T U:Bn}{xs ys e:List D}{us vs ws:List V}(j:Ad K N H xs us)(k:Ad K N H ys vs)(l:Ad K N H e ws)(q1:∀N2 a,Step M N N2 H a->S.sq K a us)(q2:∀N2 a,Step M N N2 H a->T.sq K a vs)(q3:∀N2 a,Step M N N2 H a->U.sq K a ws):
  Lf K M N H (WS K S T U) (Fs (λx y=>D.tup [x,y.1,y.2]) xs (ys.zip e)):=λN2 a St i=>by
 have f:=q1 _ _ St
 have g:=q2 _ _ St
 have h:=q3 _ _ St
 have d1:=Ad.step St _ _ j
 have d2:=Ad.step St _ _ k
 have d3:=Ad.step St _ _ l
 refine⟨λd b=>?_,λb=>⟨us,vs,ws,f,g,h,?_⟩⟩
 ·rw[List.getElem?_zipWith]at b
  cases ex:xs[i]? with
  |none=>rw[ex]at b;cases b
  |some x=>
   cases c:(ys.zip e)[i]? with
   |none=>rw[ex,c]at b;cases b
   |some s=>
    rw[ex,c]at b;cases b
    obtain⟨y,z⟩:=s
    obtain⟨t,A⟩:=List.getElem?_zip_eq_some.mp c
    obtain⟨u,m,B⟩:=d1.get ex
    obtain⟨v,n,dv⟩:=d2.get t
    obtain⟨w,o,C⟩:=d3.get A
    refine⟨⟨us,vs,ws,u,v,w,f,g,h,m,n,o⟩,λr L E=>?_⟩
    obtain⟨p,O,Q,Y,G,q,I,w1,w2,J⟩:=E
    have:=w1 us f;rw[m]at this;cases this
    have:=w2 vs g;rw[n]at this;cases this
    have:=J ws h;rw[o]at this;cases this
    subst G I
    exact⟨P6 q,JQ q (Ad.cons B (Ad.cons dv (Ad.cons C Ad.nil)))⟩
 ·have l1:=j.length
  have l2:=k.length
  have l3:=l.length
  simp only[List.length_zipWith,List.length_zip]at b
  omega
@[simp] def Nx(f g k:VE->Option D):VE->Option (List D):=λa=>match(f a).bind Dk,(g a).bind Dk,(k a).bind Dk with
  |some b,some c,some d=>some (Fs (λx y=>D.tup [x,y.1,y.2]) b (c.zip d))
  |_,_,_=>none
section
variable{X:Cx}{M:Fb}{H0:Hp}{f g k:VE->Option D}{a b c:Expr}{elts:List Expr}{p pos tpos:Bc}
theorem lm {x1} (hg:Gl X "zip") (hm:X.mg "zip"=none) (ha:JE X a (tQ X.K M H0 f)) (G:JE X b (tQ X.K M H0 g)) (hc:JE X c (tQ X.K M H0 k)) (hs:AX [a,b,c] X.env=[(false,AC a X.env),(false,AC b X.env),(false,AC c X.env)]:=by rfl) (j:AX [b,c] X.env=[(false,AC b X.env),(false,AC c X.env)]:=by rfl) (x:AX [c] X.env=[(false,AC c X.env)]:=by rfl) (hs4:AX [] X.env=[]:=by rfl):
  JI X (.Tuple elts x1 tpos) (.Call (.Name "zip" p) [a,b,c] [] pos) (tI X.K M H0 (Nx f g k)):=⟨by
 intro y s m H Q I h
 obtain⟨d,ds,R,e,q⟩:=h
 unfold Nx at e
 split at e
 ·next xs ys zs ex J L=>
  cases e
  cases hf:f d with
  |none=>rw[hf]at ex;cases ex
  |some d1=>
   cases n:g d with
   |none=>rw[n]at J;cases J
   |some d2=>
    cases o:k d with
    |none=>rw[o]at L;cases L
    |some d3=>
     rw[hf]at ex
     rw[n]at J
     rw[o]at L
     have PA3:=Ej ha.h (Ej G.h (Ej hc.h BK (by rw[x,hs4])) (by rw[j,x])) (by rw[hs,j])
     refine Call_ (FU I hg hm VX (Jn (Bb (PA3 pos y s m H (λvs l=>∃S T U A B C,vs=[.ref (Bn.ad S),.ref (Bn.ad T),.ref (Bn.ad U)]/\Am H l/\Ad X.K (Nf M d m) l xs A/\Ad X.K (Nf M d m) l ys B/\Ad X.K (Nf M d m) l zs C/\(∀N2 i,Step M (Nf M d m) N2 l i->S.sq X.K i A)/\(∀N2 i,Step M (Nf M d m) N2 l i->T.sq X.K i B)/\∀N2 i,Step M (Nf M d m) N2 l i->U.sq X.K i C) I ?_) λA s1 hq=>?_) (by rw[hs,j]) (by rw[j];rfl)))
     ·refine⟨d,d1,R,hf,λv1 H1 z1 q1=>⟨d,d2,R.st z1,n,λv2 l z2 q2=>⟨d,d3,(R.st z1).st z2,o,λv3 i z3 q3=>?_⟩⟩⟩
      obtain⟨S,A,e1,t,N⟩:=q1.src ex
      obtain⟨T,B,e2,u,O⟩:=q2.src J
      obtain⟨U,C,e3,v,Y⟩:=q3.src L
      exact⟨S,T,U,A,B,C,by rw[e1,e2,e3],(z1.trans z2).trans z3,(t.same z2).same z3,u.same z3,v,λN2 i St=>N _ _ ((Step.of_same (z2.trans z3)).trans St),λN2 i St=>O _ _ ((Step.of_same z3).trans St),Y⟩
     ·obtain⟨vs,H1,w,r1,q1⟩:=hq
      obtain⟨S,T,U,us',B,C,e1,z,t,u,v,N,O,Y⟩:=q1
      subst e1
      cases r1 with
      |cons r E=>
       cases E with
       |cons r' E=>
        cases E with
        |cons r'' E=>
         cases E
         cases r
         cases r'
         cases r''
         obtain⟨its,v1,o1,_⟩:=S.of w (N _ _ Step.refl)
         obtain⟨jts,v2,o2,_⟩:=T.of w (O _ _ Step.refl)
         obtain⟨kts,v3,o3,_⟩:=U.of w (Y _ _ Step.refl)
         refine li o1 o2 o3 λh' a1 a2 a3 a4 a5 a6 kp=>wpAny_pyIter_zip a1 ?_
         refine⟨_,_,_,_,H1,rfl,w.kept (t':=s1.toks) kp,lj S T U s1.heap.objs.size (S.lt o1) (T.lt o2) (U.lt o3),⟨a1,a2,⟨_,_,_,a3⟩,a4,a5,a6⟩,λb G=>?_,q _ _ z (ll t u v N O Y)⟩
         have hl:s1.heap.objs.size<=b:=by
          simp only[Bv,G8,or_false]at G
          rcases G with rfl|rfl|rfl|rfl|rfl|rfl<;>(show @LE.le Nat _ _ _;omega)
         exact w.fpOk hl (w.hok.fresh hl)
 ·cases e⟩
end
end L2
namespace L2
open PySem PySem.Spec PyProof.Rows PySem.W
def DF(h:Al)(d:Ac)(es:Array BH)(ep:Nat):Prop:=∃o,h.get? d=some o/\o.ExactDict/\o.data=.dict es ep
section
variable{prog:A4}{w:Aj}{A:Ak}{E:Aa->Ab->Prop}{s:Ab}{d it:Ac}{es:Array BH}{ep i:Nat}
theorem DF.type(x:DF s.heap d es ep):s.TypeIs (.ref d) "dict":=by
 obtain⟨o,a,b,_⟩:=x
 exact⟨o,a,b.1⟩
theorem DF.at{h h':Al}(x:DF h d es ep)(k:∀o,h.get? d=some o->h'.get? d=some o):DF h' d es ep:=by
 obtain⟨o,a,b⟩:=x
 exact⟨o,k o a,b⟩
theorem lp{Q:Aa->Ab->Prop}(hd:(d==Fx)=false)(a:DF s.heap d es ep)
  (e:Q (.ref s.heap.objs.size) {s with heap:=s.heap.push {cls:=.type "dict_keyiterator",data:=.fields #[.ref d,.int 0 0,.int es.size 0,.int ep 0]} }):wpAny (Af prog w) A (pyIter (.ref d)) Q E s:=by
 have ty:=a.type
 obtain⟨o,b,f,c⟩:=a
 refine wpAny_pyIter_slot ty PySem.F.slot_dict_iter (Fk PySem.F.slot_dict_iter ty PySem.F.entry_dict_iter ?_ (PySem.F.args_dict_iter_1 _))
 unfold Aw.«dict.__iter__» Builtin.Dict.dictSlotNone
 refine Ag (Ag (wpAny_notOrdered_dict ty ?_))
 refine(AE ?_:wpAny _ _ (AQ (Cn d)) _ _ s)
 show wpAny _ _ (Builtin.Dict.showsAll d >>= _) _ _ s
 unfold Builtin.Dict.showsAll
 rw[if_neg (by rw[hd];exact Hs)]
 refine Ag (AE (Ag (wpAny_dictEntries b c (Ag (wpAny_dictEpoch b c ?_)))))
 refine Ag (FZ (AE ⟨_,rfl,"dict_keyiterator",_,⟨_,B0 _ rfl,rfl⟩,PySem.F.slot_dict_keyiterator_next.lookup,?_⟩))
 simpa[AH]using e
theorem lq{Q:Option Aa->Ab->Prop}(c:s.heap.IsKeyIter it d i es.size ep)(j:DF s.heap d es ep)(k:i<es.size)
  (l:∀h',h'.IsKeyIter it d (i+1) es.size ep->Dr it s.heap h'->Q (some es[i].key) {s with heap:=h' }):wpAny (Af prog w) A (Bo (.ref it)) Q E s:=by
 have ty:=c.typeIs
 obtain⟨p,b,m,a⟩:=c
 obtain⟨o,e,n,f⟩:=j
 unfold Bo
 refine Ag (HK (FY (name:=Dt "__next__") ty Q5 (Fk Q5 ty lr ?_ (lu _))))
 refine Ag (AE (Ag (Ag ?_)))
 first|refine Ag (Q6 ty (AE ?_))|refine Ag (Q7 ty (AE ?_))
 refine Ag (wpAny_fieldsOf b a ?_)
 simp only[show Builtin.Dict_items.ownsTuple "dict_keyiterator"=false by decide,DS,if_false]
 show wpAny _ _ (if(Cn d==Ed)=true then _ else _) _ _ s
 rw[if_neg (show ¬ ((Cn d==Ed)=true)from λz=>Hs z)]
 refine Ag (AE (Ag (wpAny_dictEntries e f ?_)))
 rw[if_neg (by simp)]
 refine Ag (AE (Ag (wpAny_dictEpoch e f ?_)))
 rw[if_neg (by simp)]
 refine AE ?_
 simp only[show ¬ ((i:Int)<0)from by omega,if_false,HJ,J5 k]
 refine Ag ?_
 first|refine Ag (Q6 ty (AE ?_))|refine Ag (Q7 ty (AE ?_))
 refine Ag (wpAny_isOneOf_keyiter ty ?_)
 show wpAny _ _ (setField (.ref it) 1 (AH ((i:Int)+1)) >>= _) _ _ s
 refine Ag (Lu b a (by simp) ?_)
 have h:(s.heap.update it (Obj.mapFields (·.setIfInBounds 1 (AH ((i:Int)+1))))).IsKeyIter it d (i+1) es.size ep:=⟨_,Lv _ b (QD (J4 a _)),(Obj.cls_mapFields ..).trans m,by rw[J4 a];simp[AH]⟩
 refine Ag (Ei (Ag (wpAny_isOneOf_keyiter (s:={s with heap:=s.heap.update it (Obj.mapFields (·.setIfInBounds 1 (AH ((i:Int)+1))))}) h.typeIs ?_)))
 exact AE (AE ⟨_,rfl,AE (l _ h (IH ..))⟩)
theorem lx{Q:Option Aa->Ab->Prop}(k:A.handled=none)(c:s.heap.IsKeyIter it d i es.size ep)(l:DF s.heap d es ep)(n:es.size<=i)
  (q:∀h',Heap.ExtBut it s.heap h'->Q none {s with heap:=h' }):wpAny (Af prog w) A (Bo (.ref it)) Q E s:=by
 have ty:=c.typeIs
 obtain⟨p,e,r,f⟩:=c
 obtain⟨o,g,t,h⟩:=l
 unfold Bo
 refine Ag (HK (FY (name:=Dt "__next__") ty Q5 (Fk Q5 ty lr ?_ (lu _))))
 refine Ag (AE (Ag (Ag ?_)))
 first|refine Ag (Q6 ty (AE ?_))|refine Ag (Q7 ty (AE ?_))
 refine Ag (wpAny_fieldsOf e f ?_)
 simp only[show Builtin.Dict_items.ownsTuple "dict_keyiterator"=false by decide,DS,if_false]
 show wpAny _ _ (if(Cn d==Ed)=true then _ else _) _ _ s
 rw[if_neg (show ¬ ((Cn d==Ed)=true)from λz=>Hs z)]
 refine Ag (AE (Ag (wpAny_dictEntries g h ?_)))
 rw[if_neg (by simp)]
 refine Ag (AE (Ag (wpAny_dictEpoch g h ?_)))
 rw[if_neg (by simp)]
 refine AE ?_
 simp only[show ¬ ((i:Int)<0)from by omega,if_false,HJ,Array.getElem?_eq_none n]
 refine Ag ?_
 first|refine Ag (Q6 ty (AE ?_))|refine Ag (Q7 ty (AE ?_))
 show wpAny _ _ (setField (.ref it) 0 .none >>= _) _ _ s
 refine Ag (Lu e f (by simp) ?_)
 show wpAny _ _ (newExc (.type "StopIteration") [] >>= _) _ _ _
 refine Ag ?_
 simp only[newExc,newTuple]
 refine Ag (FZ ?_ (by size_fits))
 refine Ag (m:=firstArgMember _ _) (wpAny_of_eq (a:=Ed) (by first|rfl|(simp only[firstArgMember];rfl)) ?_)
 refine FZ ?_ (by size_fits)
 simp only[raiseNew]
 refine Ag (wpAny_handled ?_)
 rw[show A.in1.handled=none from k]
 refine Ag (AE (wpAny_throw ?_))
 refine Ag (wpAny_isInstance (T:="StopIteration") (b:=true) ⟨_,B0 _ rfl,rfl⟩ isSubtype_stop ?_)
 exact AE (q _ ((Heap.ExtBut.push (Heap.SameBut.extBut (IH ..)) _).push _))
theorem ly(n:A.handled=none)(I:Ac)(f:d≠I):Walks prog w A I [I,d] [I] es.size (λi v=>∃e,es[i]?=some e/\v=e.key) (λi h=>h.IsKeyIter I d i es.size ep/\DF h d es ep) where
 sub:=λb a=>by simp at a;simp[a]
 frame:=λ_ _ _ st k=>⟨st.1.at λo e=>k I (by simp) o e,st.2.at λo e=>k d (by simp) o e⟩
 item:=λi s Q E l st c=>lq st.1 st.2 l λg p m=>c _ g s.toks ⟨es[i],J5 l,rfl⟩ ⟨p,st.2.at λo e=>m.extBut _ _ f e⟩ λb o a e=>m.extBut b o (λh=>a (by simp[h])) e
 done:=λs Q E st c=>lx n st.1 st.2 (BB _) λg j=>c g s.toks λb o a e=>j b o (λh=>a (by simp[h])) e
 self:=λ_ _ _ _ st c=>wpAny_pyIter_keyiter st.1 c
theorem WU(lo:(d==Fx)=false):KdlSrc prog w "dict" d d es.size (λi v=>∃e,es[i]?=some e/\v=e.key) (λh=>DF h d es ep) where
 type:=λ_ a=>a.type
 there:=λ_ a=>by obtain⟨o,b,_⟩:=a;exact⟨By b,By b⟩
 keep:=λ_ _ a f=>a.at λo e=>f d (.inl rfl) o e
 notList:=by decide
 notTuple:=by decide
 hint:=λ_ _ _ _ a c=>kdl_hint_dict a.type c
 iter:=λ_ s g a=>⟨_,_,(λ_ _ c=>lp lo a c),ly g _ (by obtain⟨o,b,_⟩:=a;exact Cs (By b)),⟨⟨_,B0 _ rfl,rfl,rfl⟩,a.at λo e=>Bk _ e⟩⟩
end
theorem WV{w:Aj}:∀{a:List T3}{es:List BH},Il w (a.map (·.1)) (DM a) es->Ap (a.map λt=>t.2.1) (es.map λe=>e.key):=by
 intro a
 induction a with
 |nil=>
  intro es h
  obtain⟨_,e⟩:=h
  subst e
  exact .nil
 |cons t r c=>
  intro es h
  obtain⟨l,v,m,e,n,b,d,f,_,_,_,g⟩:=h
  simp only[DM,Lx]at b
  obtain⟨i,j,k⟩:=b
  subst d i j k
  exact .cons f (c g)
section
variable{X:Cx}
theorem WW{es:Array BH}{acc:Array Aa}(h:ItemsOf (λi v=>∃e,es[i]?=some e/\v=e.key) acc es.size):acc.toList=es.toList.map λe=>e.key:=by
 refine JL λi=>?_
 rw[PR,Dy,PR]
 cases a:acc[i]? with
 |some v=>
  obtain⟨e,b,c⟩:=h.2 i v a
  rw[b,c];rfl
 |none=>
  have d:acc.size<=i:=Array.getElem?_eq_none_iff.mp a
  have f:es[i]?=none:=Array.getElem?_eq_none_iff.mpr (by rw[<- h.1];exact d)
  rw[f];rfl
theorem lz(k:X.calm=true):Bd X (.type "list") (λxs H Q=>∃a b,xs=[.ref a]/\Cp X.K H a b/\∀l,H l=none->Q (.ref l) (A3 H l (.lst (b.map λt=>t.2.1)))):=by
 intro f s L H xs M Q I r h
 obtain⟨a,b,rfl,hd,q⟩:=h
 obtain⟨u,rfl,m⟩:=D3 r
 cases m
 obtain⟨z,n,nd,o,e,g,p,v,x,y⟩:=hd.1.ok I.hok
 have i:=WV y
 have A:b.length=e.size:=by have:=i.length;simpa using this
 have j:b.length<=AG:=by simpa using z
 refine kdl_call (WU (es:=e) (ep:=g) n) (I.ok.hd k) ⟨o,p,v,x⟩ (by rw[<- A];exact j) λB C c E kp G J=>?_
 have d:=WW J
 refine⟨.ref s.heap.objs.size,_,I.laid (t':=C) kp (BB _) (show Bl X.prog X.w _ B _ (.lst (b.map λt=>t.2.1))from⟨by simpa using j,c.toList,E,by rw[d];exact i,by simpa using G⟩),rfl,q _ (I.hok.fresh (BB _))⟩
end
def LS:List D->Option (List D)
 |[.lst b true]=>(DY b).map λa=>a.map λp=>kD p.1
 |_=>none
@[simp] theorem lA(kvs:Bx):LS [.lst (Zz kvs) true]=some (kvs.map λp=>kD p.1):=by simp[LS]
section
variable{K:As}{N:Fb}{H:Hp}
theorem PD.kden:∀{kvs:Bx}{a:List T3},PD K N H kvs a->Ad K N H (kvs.map λp=>kD p.1) (a.map λt=>t.2.1)
 |_,_,.nil=>Ad.nil
 |_,_,.cons ⟨c,b,d⟩ t=>Ad.cons b (PD.kden t)
theorem lB:JH K (λxs H Q=>∃a b,xs=[.ref a]/\Cp K H a b/\∀l,H l=none->Q (.ref l) (A3 H l (.lst (b.map λt=>t.2.1)))) LS:=by
 intro N H vs n xs Q o h e q
 unfold LS at e
 split at e
 ·next f=>
  cases c:DY f with
  |none=>rw[c]at e;cases e
  |some g=>
   rw[c]at e
   cases e
   obtain⟨v,rfl,d⟩:=Paired.one' h
   rw[HM c]at d
   obtain⟨p,s,i,r,hd⟩:=d
   subst i
   obtain⟨b,j,k⟩:=LB r hd
   exact⟨p,b,rfl,j,λl m=>q _ l m k.kden⟩
 ·cases e
end
section
variable{prog:A4}{w:Aj}{A:Ak}{E:Aa->Ab->Prop}{s:Ab}{T:String}{r d:Ac}{n:Nat}{P:Nat->Aa->Prop}{OK:Al->Prop}
theorem lC{Q:List Aa->Ab->Prop}(K:KdlSrc prog w T r d n P OK)(u:A.handled=none)(hok:OK s.heap)(v:n<=AG)
  (x:∀h' g acc,(∀b o,s.heap.get? b=some o->h'.get? b=some o)->ItemsOf P acc n->Q acc.toList {s with heap:=h',toks:=g}):wpAny (Af prog w) A (collect (.ref r)) Q E s:=by
 obtain⟨y,ld⟩:=K.there _ hok
 unfold collect
 refine Ag (wpAny_runValue (Jv F.entry_proto_collect ?_))
 rw[K4 F.plain_proto_collect _]
 show wpAny _ A.in1 (newList [] >>= λl=>again (.builtin "list.__iadd__" ⟨[l,.ref r],[]⟩)) _ _ s
 refine Ag (FZ ?_)
 refine AE ⟨plainId_quiet F.plain_list_iadd _,Jv F.entry_list_iadd ?_⟩
 rw[K4 F.plain_list_iadd _]
 show wpAny _ A.in1 (Builtin.List.listExtendWith (.ref s.heap.objs.size) (.ref r) (.ref s.heap.objs.size)) _ _ _
 have z:(s.heap.push {cls:=.type "list",data:=.seq ([]:List Aa).toArray}).get? s.heap.objs.size=some {cls:=.type "list",data:=.seq #[] 0}:=B0 _ rfl
 have i:∀j,(∃h' g acc m,j={s with heap:=h',toks:=g}/\(∀b o,s.heap.get? b=some o->h'.get? b=some o)/\h'.get? s.heap.objs.size=some {cls:=.type "list",dict:=none,data:=.seq acc m,slots:=#[]}/\ItemsOf P acc n)->wpAny (Af prog w) A (match Cn s.heap.objs.size with
   |Cn a=>do
    match(<- load a).data with
     |Data.seq B _=>AQ B.toList
     |_=>unsupported "internal:collect"
   |_=>unsupported "internal:collect") Q E j:=by
  rintro j ⟨h',g,acc,m,rfl,p,k,q⟩
  show wpAny _ A (load s.heap.objs.size >>= _) _ _ _
  refine Ag (wpAny_load k ?_)
  refine AE ?_
  exact x h' g acc p q
 refine Eg (kdl_extend (R:=λr j=>r=.ok (.ret (.ref s.heap.objs.size))/\∃h' g acc m,j={s with heap:=h',toks:=g}/\(∀b o,s.heap.get? b=some o->h'.get? b=some o)/\h'.get? s.heap.objs.size=some {cls:=.type "list",dict:=none,data:=.seq acc m,slots:=#[]}/\ItemsOf P acc n) (s:={s with heap:=s.heap.push {cls:=.type "list",data:=.seq ([]:List Aa).toArray} }) K u (K.keep _ _ hok λb _ o e=>Bk _ e) s.heap.objs.size (FA y) (FA ld) _ 0 z (λh' g acc m p k q=>⟨rfl,h',g,acc,m,rfl,λb o e=>p b o (Cs (By e)) (Bk _ e),k,q⟩) v) (λfin j h=>?_) (λe j h=>?_)
 ·cases fin with
  |done f=>
   obtain⟨e,h⟩:=h
   cases e
   exact i j h
  |again c=>
   refine⟨h.1,codeAny_mono h.2 λr t C=>?_⟩
   obtain⟨rfl,h⟩:=C
   exact i t h
 ·exact nomatch h.1
end
section
variable{X:Cx}{pins:List (Ac×AM)}{σ:St}{H:Hp}{s:Ab}{N:Fb}{k:Nat}{fn:Ac}{fd:Bi}{ps:List Ae}{F:List Sl->Option Rv}
theorem lD(Fo:Az X.prog X.w X.K X.mg X.base Bh k fn fd ps (Bu X.K F))(c:Binds X.K fd ps [])(G:Bf (k+2) X.A)(d:X.calm=true)
  (I:Inv X pins σ H s) (nh:∀a,N a->H a≠none) {a:Ac} {i:List T3} {p:List D} (r:Cp X.K H a i) (L:Ad X.K N H p (i.map λt=>t.2.1)) (ok:Bz F p) {Q:VK}
  (q:∀j vs H',Am H H'->H j=none->H' j=some (.lst vs)->Ad X.K (λb=>N b\/b=j) H' (E7 (Cz F) p) vs->Q (.ref j) H'):
  wpAny (Af X.prog X.w) X.A (call (.builtin "sorted") [.ref a] [("key",.ref fn)]) (EP X pins σ Q) X.xe s:=by
 have O:=L.length
 have few:=ok.few
 have hsl:AG=16777216:=BM
 obtain⟨z,hs,nd,o,m,T,e1,e2,e3,e4⟩:=r.1.ok I.hok
 have v:=WV e4
 have hl:i.length=m.size:=by have:=v.length;simpa using this
 refine wpAny_call (LJ plain_sorted entry_sorted ?_)
 have x:Nl "sorted" ⟨[.ref a],[("key",.ref fn)]⟩=AQ ():=by rfl
 rw[x]
 refine AE ?_
 unfold PySem.Builtin.sorted
 have B:checkCount "sorted" 1 1 1=AQ ():=rfl
 show wpAny _ _ (do checkCount "sorted" 1 1 1;let y <- collect (.ref a);let l <- newList y;let _ <- holding [l] (call (.builtin "list.sort") [l] [("key",.ref fn)]);ret l) _ _ _
 rw[B]
 refine Ag (AE ?_)
 refine Ag (lC (WU (es:=m) (ep:=T) hs) (I.ok.hd d) ⟨o,e1,e2,e3⟩ (by simp at O;omega) λh1 U acc k1 hi=>?_)
 have h:=WW hi
 rw[h]
 have C:=I.kept (t':=U) k1
 have l2:=v.length
 generalize Y:List.map (λe=>e.key) m.toList=f at *
 have rv:Ap (i.map λt=>t.2.1) f:=v
 refine Ag (wpAny_newList ?_ (by simp at O l2 ⊢;omega))
 generalize hs1:({heap:=h1,gens:=s.gens,drawn:=s.drawn,toks:=U,os:=s.os}:Ab)=n at *
 have I2:=C.kept (t':=n.toks) (λb u e=>Bk (DE f 0) e)
 have g:=B0 n.heap (o:=DE f 0) rfl
 have fD:=C.off (BB n.heap.objs.size)
 have E:H n.heap.objs.size=none:=C.fresh
 refine Ag (Ei ?_)
 refine wpAny_call (LJ PySem.F.slot_list_sort.plain PySem.F.entry_list_sort ?_)
 refine PySem.F.slot_list_sort.check _ _ _ _ _ _ _ _ ⟨_,g,rfl⟩ rfl ?_
 rw[ksk_t1]
 refine WA (N:=N) Fo c X.A.in1.in1 G.in1.in1 ?_ (λs H e=>e.in1.in1) I2 nh g E fD rv L ok λs' H' vs J sm hn dv=>?_
 ·have:=G.un;show X.A.units+1+1+40<_;omega
 ·refine AE ?_
  refine⟨.ref _,_,J,rfl,q _ vs _ (λb u e=>?_) E Ef ?_⟩
  ·rw[ZK (λz=>by rw[z,E]at e;cases e)];exact sm b u e
  ·exact Ad.step (M:=λ_=>False) ⟨λb u e z=>by
    rw[ZK (λz=>by rw[z,hn]at e;cases e)];exact e,λb c=>by
    rcases c with c|c
    ·exact .inl c
    ·subst c;exact .inr hn⟩ _ _ dv
end
section
variable{X:Cx}{M:Fb}{H0:Hp}{k:Nat}{fn:Ac}{fd:Bi}{ps:List Ae}{F:List Sl->Option Rv}{e:Expr}{f:VE->Option D}{x y:Ae}{p p2 kpos pos:Bc}
def Ny(F:List Sl->Option Rv)(f:VE->Option D):VE->Option (List D):=λb=>match f b with
 |some (.lst c true)=>(DY c).bind λa=>HR F (a.map λp=>kD p.1)
 |_=>none
theorem lE(c:X.calm=true)(Fo:Az X.prog X.w X.K X.mg X.base Bh k fn fd ps (Bu X.K F))(hr:Bf (k+2) X.A)(hg:Gl X x)(hm:X.mg x=none)(hv:Ep x=some (.builtin "sorted"))(l:Gl X y)(m:X.mg y=some (.ref fn))(hb:Binds X.K fd ps [])(n:JE X e (tP X.K M H0 f))
  (hn:x≠"__name__":=by decide) (o:(x==("__debug__":Ae))=false:=by decide) (i:(y==("__debug__":Ae))=false:=by decide) (T:AX [e] X.env=(false,AC e X.env)::AX [] X.env:=by exact DA (λ_ _ z=>nomatch z)):
  JE X (.Call (.Name x p) [e] [⟨some "key",.Name y p2,kpos⟩] pos) (tF X.K M H0 (Ny F f)):=⟨have n:=n.h;by
 intro b s j H Q I h
 obtain⟨r,ys,R,d,q⟩:=h
 refine KZ (FU I hg hm hv ?_ hn o)
 unfold Ny at d
 split at d
 ·next t hf=>
  cases B:DY t with
  |none=>rw[B]at d;cases d
  |some kvs=>
  rw[B]at d
  obtain⟨ok,rfl⟩:=Wy d
  have U:=(Ej n (BK (X:=X)) T) pos b s j H (λvs g=>∃v,vs=[v]/\Am H g/\AK X.K (Nf M r j) g (.lst t true) v) I ⟨r,.lst t true,R,hf,λv g C d1=>⟨v,rfl,C,d1⟩⟩
  have E:=UG (nm:=some "key") (kpos:=kpos) (My (v:=.ref fn) (pos:=p2) l m rfl i) (UF (X:=X))
  rw[T]at U ⊢
  refine callWith_builtin_kwB rfl rfl ?_
  unfold evalArgs
  refine Ag (Bb U λus C G=>?_)
  obtain⟨vs,g,I1,r1,v,rfl,sm,d1⟩:=G
  refine Ag (AE ?_)
  refine Ei ?_
  refine Ag (Bb (E pos b C j g (λY H2=>Y=[.ref fn]/\H2=g) I1 ⟨rfl,rfl⟩) λks s2 G=>?_)
  obtain⟨Y,H2,I2,r2,rfl,rfl⟩:=G
  refine Ag (AE ?_)
  refine AE ?_
  obtain⟨u,rfl,ru⟩:=D3 r1
  obtain⟨u2,rfl,J⟩:=D3 r2
  cases J
  rw[HM B]at d1
  obtain⟨a,ws,rfl,sq,dl⟩:=d1
  cases ru
  obtain⟨tr,dc,pd⟩:=LB sq dl
  have R1:=R.st sm
  exact lD (N:=Nf M r j) Fo hb hr c I2 R1.nh dc pd.kden ok λda vs H' s' L O dv=>q da vs H' (sm.trans s') (sm.none L) O dv
 ·cases d⟩
end
end L2
namespace L2
open PySem PySem.Spec PyProof.Rows
abbrev Eb(h:Al)(z TI TO:Ac)(a:Aa)(b:Bool):Prop:=
 h.get? z=some {cls:=.type "zip",dict:=none,data:=.fields #[a,.bool b,.bool false,.ref TI,.ref TO],slots:=#[]}
def IR(v:Aa):Prop:=v=.none\/∃a:Nat,v=AH a
section
variable{prog:A4}{w:Aj}{A:Ak}{E:Aa->Ab->Prop}{s:Ab}
variable{z tin tout ia ib:Ac}{fa fb:List Ac}{n m k:Nat}{isA isB:Nat->Aa->Prop}{sa sb:Nat->Al->Prop}{a b:Aa}{v0:Aa}{b1:Bool}
theorem lF{a:Ac}{Q:Option AM->Ab->Prop}(h:Q (s.heap.get? a) s):wpAny (Af prog w) A (loadIfAlive a) Q E s:=λ_ _ _=>h
theorem WX{Q:Bool->Ab->Prop}(hz:Eb s.heap z tin tout v0 b1)(d:IR v0)
  (q:∀(b:Bool) h' e,Eb h' z tin tout v0 e->Dr z s.heap h'->Q b {s with heap:=h' }):wpAny (Af prog w) A (Hc (.ref z)) Q E s:=by
 unfold Hc
 rcases d with rfl|⟨a,rfl⟩
 ·exact Ag (Ch hz rfl (x:=.none) rfl (AE (q true s.heap b1 hz (.refl ..))))
 ·refine Ag (Ch hz rfl (x:=AH a) rfl ?_)
  show wpAny _ _ (loadIfAlive ((a:Int).toNat) >>= _) _ _ s
  refine Ag (lF ?_)
  refine wpAny_ite_split (λ_=>AE (q true s.heap b1 hz (.refl ..))) λ_=>?_
  refine Ag (Ch hz rfl (x:=.bool b1) rfl ?_)
  refine wpAny_ite_split (λ_=>?_) λ_=>?_
  ·dsimp only
   refine Ag (DL hz (by simp) λf z1 c=>AE ?_)
   exact q false f true z1 c
  ·exact AE (q false s.heap b1 hz (.refl ..))
theorem lG{Q:Option Aa->Ab->Prop}(D:CD z tin tout ia ib fa fb)(i:DV prog w ia fa n isA sa)(SB:DV prog w ib fb m isB sb)
  (hz:Eb s.heap z tin tout v0 b1) (hv:IR v0) (hi:Bp s.heap tin (.ref ia) (.ref ib)) (ho:Bp s.heap tout a b) (ha:sa k s.heap) (hb:sb k s.heap) (kn:k<n) (km:k<m)
  (q:∀x y h' v' b',isA k x->isB k y->IR v'->Eb h' z tin tout v' b'->(∃a b,Bp h' tout a b)->sa (k+1) h'->sb (k+1) h'->Bp h' s.heap.objs.size x y->h'.objs.size=s.heap.objs.size+1 ->
   (∀c o,c≠z->c≠tout->c≠ia->c≠ib->s.heap.get? c=some o->h'.get? c=some o)->Q (some (.ref s.heap.objs.size)) {s with heap:=h' }):
  wpAny (Af prog w) A (Bo (.ref z)) Q E s:=by
 have ty:s.TypeIs (.ref z) "zip":=⟨_,hz,rfl⟩
 unfold Bo
 refine Ag (HK (FY (name:=Dt "__next__") ty IQ (Fk IQ ty Q3 ?_ (Q4 _))))
 show wpAny _ _ (field (.ref z) 2 >>= _) _ _ _
 refine Ag (Ch hz rfl (x:=.bool false) rfl ?_)
 show wpAny _ _ (field (.ref z) 3 >>= _) _ _ _
 refine Ag (Ch hz rfl (x:=.ref tin) rfl ?_)
 refine Ag (EV hi rfl ?_)
 show wpAny _ _ (Hc (.ref z) >>= _) _ _ _
 refine Ag (WX hz hv λfr M v N s0=>?_)
 have B:Bp M tout a b:=s0.extBut _ _ D.n2 ho
 have C:sa k M:=D.keepA i ha (.inl rfl) s0
 have G:sb k M:=D.keepB SB hb (.inl rfl) s0
 cases fr with
 |true=>
  rw[if_pos rfl]
  refine Ag (FK ?_)
  refine Ag (Ch N rfl (x:=.ref tout) rfl ?_)
  refine Ag (DL N (by simp) λg1 z1 b1=>?_)
  have z1:Eb g1 z tin tout .ellipsis v:=z1
  refine Ag ?_
  simp only[List.zipIdx_nil,List.zipIdx_cons,LQ,Ju]
  refine Ag (Ag (Hl ?_))
  show wpAny _ _ (DW (.ref ia) >>= _) _ _ _
  refine Ag (i.item _ _ _ k _ kn (D.keepA i C (.inl rfl) b1) λx O T a2 b2=>AE ?_)
  have o2:Bp O tout a b:=b2.extBut _ _ D.n8 (b1.extBut _ _ D.n2 B)
  refine Ag (EV o2 rfl ?_)
  refine Ag (wpAny_updateSeq_pair o2 λg3 U b3=>?_)
  have U:Bp g3 tout x b:=U
  refine Ag (Hd (AE ?_))
  refine Ag (Ag (Hl ?_))
  show wpAny _ _ (DW (.ref ib) >>= _) _ _ _
  have Y:sb k g3:=D.keepB SB (D.keepB SB (D.keepB SB G (.inl rfl) b1) (.inr (.inr rfl)) b2) (.inr (.inl rfl)) b3
  refine Ag (SB.item _ _ _ k _ km Y λy f hy a4 h=>AE ?_)
  have o4:Bp f tout x b:=h.extBut _ _ D.n9 U
  refine Ag (EV o4 rfl ?_)
  refine Ag (wpAny_updateSeq_pair o4 λd L H=>?_)
  have L:Bp d tout x y:=L
  refine Ag (Hd (AE (AE ?_)))
  refine Ag (EV L rfl ?_)
  refine Ag (wpAny_newTuple ?_)
  have sz:d.objs.size=s.heap.objs.size:=by rw[H.1,h.1,b3.1,b2.1,b1.1,s0.1]
  have z5:Eb d z tin tout .ellipsis v:=H.extBut _ _ (Br D.n2) (h.extBut _ _ (Br D.n4) (b3.extBut _ _ (Br D.n2) (b2.extBut _ _ (Br D.n3) z1)))
  have kp:∀c o,c≠z->c≠tout->c≠ia->c≠ib->s.heap.get? c=some o->d.get? c=some o:=λc o g p r t e=>
   H.extBut _ _ p (h.extBut _ _ t (b3.extBut _ _ p (b2.extBut _ _ r (b1.extBut _ _ g (s0.extBut _ _ g e)))))
  have a5:sa (k+1) d:=D.keepA i (D.keepA i (D.keepA i a2 (.inr (.inl rfl)) b3) (.inr (.inr rfl)) h) (.inr (.inl rfl)) H
  have b5':sb (k+1) d:=D.keepB SB a4 (.inr (.inl rfl)) H
  have I:z<d.objs.size:=By z5
  show wpAny _ _ (Lw (.ref z) (.ref d.objs.size) >>= _) _ _ _
  refine Ag ?_
  unfold Lw
  have z6:Eb (d.push {cls:=.type "tuple",data:=.seq #[x,y]}) z tin tout .ellipsis v:=Bk _ z5
  refine Ag (DL z6 (by simp) λg7 z7 b7=>?_)
  have z7:Eb g7 z tin tout (AH d.objs.size) v:=z7
  refine DL z7 (by simp) λu z8 b8=>?_
  have z8:Eb u z tin tout (AH d.objs.size) false:=z8
  have j:∀c o,c≠z->d.get? c=some o->u.get? c=some o:=λc o g e=>b8.extBut _ _ g (b7.extBut _ _ g (Bk _ e))
  have new:Bp u d.objs.size x y:=b8.extBut _ _ (FA I) (b7.extBut _ _ (FA I) (B0 _ rfl))
  have J:u.objs.size=d.objs.size+1:=by rw[b8.1,b7.1,E3]
  have a8:sa (k+1) u:=i.frame _ _ _ a5 λc l o e=>j c o (by
   rcases l with rfl|l
   ·exact D.n3
   ·exact(D.fz c (.inl l)).1) e
  have b8':sb (k+1) u:=SB.frame _ _ _ b5' λc l o e=>j c o (by
   rcases l with rfl|l
   ·exact D.n4
   ·exact(D.fz c (.inr l)).1) e
  rw[sz]at new J
  refine AE ⟨_,rfl,AE ?_⟩
  show Q (some (.ref d.objs.size)) _
  rw[sz]
  exact q x y u _ _ T hy (.inr ⟨_,rfl⟩) z8 ⟨x,y,j _ _ D.n2 L⟩ a8 b8' new J λc o g p r t e=>j c o g (kp c o g p r t e)
 |false=>
  simp only[DS,if_false]
  refine Ag ?_
  simp only[<- Array.forIn_toList,Ju,LQ]
  refine Ag (Ag (Ei ?_))
  show wpAny _ _ (DW (.ref ia) >>= _) _ _ _
  refine Ag (i.item _ _ _ k _ kn C λx O T a2 b2=>AE (AE ?_))
  refine Ag (Ag (Ei ?_))
  show wpAny _ _ (DW (.ref ib) >>= _) _ _ _
  have hb2:sb k O:=D.keepB SB G (.inr (.inr rfl)) b2
  refine Ag (SB.item _ _ _ k _ km hb2 λy f hy a4 h=>AE (AE (AE ?_)))
  refine Ag (wpAny_newTuple ?_ (show(2:Nat)<=AG by decide))
  have sz:f.objs.size=s.heap.objs.size:=by rw[h.1,b2.1,s0.1]
  have z4:Eb f z tin tout v0 v:=h.extBut _ _ (Br D.n4) (b2.extBut _ _ (Br D.n3) N)
  have kp:∀c o,c≠z->c≠tout->c≠ia->c≠ib->s.heap.get? c=some o->f.get? c=some o:=λc o g p r t e=>
   h.extBut _ _ t (b2.extBut _ _ r (s0.extBut _ _ g e))
  have a5:sa (k+1) f:=D.keepA i a2 (.inr (.inr rfl)) h
  have j:∀c o,f.get? c=some o->(f.push {cls:=.type "tuple",data:=.seq #[x,y]}).get? c=some o:=λc o e=>Bk _ e
  have new:Bp (f.push {cls:=.type "tuple",data:=.seq #[x,y]}) f.objs.size x y:=B0 _ rfl
  have J:(f.push {cls:=.type "tuple",data:=.seq #[x,y]}).objs.size=f.objs.size+1:=E3 ..
  rw[sz]at new J
  refine AE ⟨_,rfl,AE ?_⟩
  show Q (some (.ref f.objs.size)) _
  rw[sz]
  exact q x y _ _ _ T hy hv (j _ _ z4) ⟨a,b,j _ _ (h.extBut _ _ D.n9 (b2.extBut _ _ D.n8 B))⟩ (i.frame _ _ _ a5 λc l o e=>j c o e) (SB.frame _ _ _ a4 λc l o e=>j c o e) new J λc o g p r t e=>j c o (kp c o g p r t e)
theorem lH{Q:Option Aa->Ab->Prop}(j:A.handled=none)(D:CD z tin tout ia ib fa fb)(l:DV prog w ia fa n isA sa)(SB:DV prog w ib fb m isB sb)
  (hz:Eb s.heap z tin tout v0 b1) (hv:IR v0) (hi:Bp s.heap tin (.ref ia) (.ref ib)) (ho:Bp s.heap tout a b) (ha:sa k s.heap) (hb:sb k s.heap) (kn:n<=k\/m<=k)
  (q:∀h',(∀c o,c≠z->c≠tout->c≠ia->c≠ib->s.heap.get? c=some o->h'.get? c=some o)->Q none {s with heap:=h' }):
  wpAny (Af prog w) A (Bo (.ref z)) Q E s:=by
 have ty:s.TypeIs (.ref z) "zip":=⟨_,hz,rfl⟩
 unfold Bo
 refine Ag (HK (FY (name:=Dt "__next__") ty IQ (Fk IQ ty Q3 ?_ (Q4 _))))
 have f:∀(h':Al) (e:Ac),(∀c o,c≠z->c≠tout->c≠ia->c≠ib->s.heap.get? c=some o->h'.get? c=some o)->(∃o,h'.get? e=some o/\o.cls=.type "StopIteration") ->
   wpAny (Af prog w) A (do if(<- isInstance (.ref e) (.type "StopIteration"))=true then AQ (none:Option Aa)else throw (Cn e)) Q E {s with heap:=h' }:=λh' e kp ⟨o,g,d⟩=>
  Ag (wpAny_isInstance (T:="StopIteration") (b:=true) ⟨o,g,d⟩ isSubtype_stop (AE (q h' kp)))
 show wpAny _ _ (field (.ref z) 2 >>= _) _ _ _
 refine Ag (Ch hz rfl (x:=.bool false) rfl ?_)
 show wpAny _ _ (field (.ref z) 3 >>= _) _ _ _
 refine Ag (Ch hz rfl (x:=.ref tin) rfl ?_)
 refine Ag (EV hi rfl ?_)
 show wpAny _ _ (Hc (.ref z) >>= _) _ _ _
 refine Ag (WX hz hv λfr G H z0 s0=>?_)
 have I:Bp G tout a b:=s0.extBut _ _ D.n2 ho
 have i:sa k G:=D.keepA l ha (.inl rfl) s0
 have v:sb k G:=D.keepB SB hb (.inl rfl) s0
 cases fr with
 |true=>
  rw[if_pos rfl]
  refine Ag (FK ?_)
  refine Ag (Ch z0 rfl (x:=.ref tout) rfl ?_)
  refine Ag (DL z0 (by simp) λg1 z1 b1=>?_)
  have z1:Eb g1 z tin tout .ellipsis H:=z1
  refine Ag ?_
  simp only[List.zipIdx_nil,List.zipIdx_cons,LQ,Ju]
  refine Ag (Ag (Hl ?_))
  show wpAny _ _ (DW (.ref ia) >>= _) _ _ _
  by_cases p:n<=k
  ·refine Ag (l.fin A.in1 _ _ k _ (by first|exact j|simpa using j) p (D.keepA l i (.inl rfl) b1) λr e y t=>?_)
   obtain⟨J,g,d⟩:=t
   have z2:Eb r z tin tout .ellipsis H:=y _ _ (Br D.n3) z1
   have L:e≠z:=λx=>by subst x;rw[z2]at g;cases g;simp at d
   exact DL z2 (by simp) λB _ b3=>f B e (λc o d _ u _ x=>b3.extBut _ _ d (y _ _ u (b1.extBut _ _ d (s0.extBut _ _ d x)))) ⟨J,b3.extBut _ _ L g,d⟩
  ·have M:m<=k:=by rcases kn with h|h;exact absurd h p;exact h
   refine Ag (l.item _ _ _ k _ (Nat.lt_of_not_le p) (D.keepA l i (.inl rfl) b1) λx r hx a2 b2=>AE ?_)
   have o2:Bp r tout a b:=b2.extBut _ _ D.n8 (b1.extBut _ _ D.n2 I)
   refine Ag (EV o2 rfl ?_)
   refine Ag (wpAny_updateSeq_pair o2 λB o3 b3=>?_)
   have o3:Bp B tout x b:=o3
   refine Ag (Hd (AE ?_))
   refine Ag (Ag (Hl ?_))
   show wpAny _ _ (DW (.ref ib) >>= _) _ _ _
   have N:sb k B:=D.keepB SB (D.keepB SB (D.keepB SB v (.inl rfl) b1) (.inr (.inr rfl)) b2) (.inr (.inl rfl)) b3
   refine Ag (SB.fin A.in1 _ _ k _ (by first|exact j|simpa using j) M N λO e C t=>?_)
   obtain⟨J,g,d⟩:=t
   have z4:Eb O z tin tout .ellipsis H:=C _ _ (Br D.n4) (b3.extBut _ _ (Br D.n2) (b2.extBut _ _ (Br D.n3) z1))
   have L:e≠z:=λx=>by subst x;rw[z4]at g;cases g;simp at d
   exact DL z4 (by simp) λg5 _ b5=>f g5 e (λc o d c2 u U x=>b5.extBut _ _ d (C _ _ U (b3.extBut _ _ c2 (b2.extBut _ _ u (b1.extBut _ _ d (s0.extBut _ _ d x)))))) ⟨J,b5.extBut _ _ L g,d⟩
 |false=>
  simp only[DS,if_false]
  refine Ag ?_
  simp only[<- Array.forIn_toList,Ju,LQ]
  refine Ag (Ag (Ei ?_))
  show wpAny _ _ (DW (.ref ia) >>= _) _ _ _
  by_cases p:n<=k
  ·refine Ag (l.fin A.in1 _ _ k _ (by first|exact j|simpa using j) p i λr e y t=>?_)
   exact f r e (λc o d _ u _ x=>y _ _ u (s0.extBut _ _ d x)) t
  ·have M:m<=k:=by rcases kn with h|h;exact absurd h p;exact h
   refine Ag (l.item _ _ _ k _ (Nat.lt_of_not_le p) i λx r hx a2 b2=>AE (AE ?_))
   refine Ag (Ag (Ei ?_))
   show wpAny _ _ (DW (.ref ib) >>= _) _ _ _
   have Y:sb k r:=D.keepB SB v (.inr (.inr rfl)) b2
   refine Ag (SB.fin A.in1 _ _ k _ (by first|exact j|simpa using j) M Y λO e C t=>?_)
   exact f O e (λc o d c2 u U x=>C _ _ U (b2.extBut _ _ u (s0.extBut _ _ d x))) t
end
theorem lI{prog:A4}{w:Aj}{A:Ak}{E:Aa->Ab->Prop}{s:Ab}{z TI TO:Ac}{b:Aa}{c:Bool}{Q:Aa->Ab->Prop}(hz:Eb s.heap z TI TO b c)(h:Q (.ref z) s):wpAny (Af prog w) A (pyIter (.ref z)) Q E s:=by
 have a:s.TypeIs (.ref z) "zip":=⟨_,hz,rfl⟩
 refine wpAny_pyIter_slot a F.slot_zip_iter (Fk F.slot_zip_iter a F.entry_zip_iter ?_ (F.args_zip_iter_1 _))
 show wpAny _ _ (ret (.ref z)) _ _ s
 exact AE ⟨_,rfl,"zip",_,a,F.slot_zip_next.lookup,h⟩
theorem lJ{prog:A4}{w:Aj}{A:Ak}{E:Aa->Ab->Prop}{s:Ab}{z TI TO a:Ac}{b:Aa}{e:Bool}{Q:Unit->Ab->Prop}(f:Expr)(hz:Eb s.heap z TI TO b e)(h:IR b)
  (q:∀h' g,IR g->Eb h' z TI TO g e->Dr z s.heap h'->Q () {s with heap:=h' }):wpAny (Af prog w) A (Jm f (.ref z) (.ref a)) Q E s:=by
 have stay:Q () s:=q s.heap b h hz (.refl ..)
 have go:wpAny (Af prog w) A (do
   let o <- load z
   match o.cls,o.data with
   |.type n,.fields vs=>
    if ["enumerate","zip","dict_itemiterator","dict_reverseitemiterator","odict_iterator","itertools.zip_longest","itertools.pairwise"].contains n&&vs[0]?==some (AH a)then
     rule "for.unpacks-the-owned-tuple"
     updateField z 0 .none
   |_,_=>AQ ()) Q E s:=by
  refine Ag (wpAny_load hz ?_)
  refine wpAny_ite_split (λ_=>?_) λ_=>AE stay
  refine Ag (FK ?_)
  show wpAny _ _ (setField (.ref z) 0 .none) Q E s
  exact DL hz (by simp) λh' c d=>q h' .none (.inl rfl) c d
 unfold Jm
 cases f<;>first|exact AE stay|exact go
theorem lK{P:A4}{w:Aj}{K:As}{tg:Expr}(S T:Bn)(n:Nat)(h1:S.ad<n)(h2:T.ad<n):
  Gn P w K tg (VV K S T) [n+4,n+2,n+3,n,n+1] (n+4) (λi h=>(∃g l,IR g/\Eb h (n+4) (n+2) (n+3) g l)/\Bp h (n+2) (.ref n) (.ref (n+1))/\(∃a b,Bp h (n+3) a b)/\S.it h n i/\T.it h (n+1) i) where
 mem:=by simp
 obj:=λi h ⟨⟨g,l,m,z⟩,a,⟨x,y,b⟩,c,d⟩ q f=>by
  simp only[Bv,G8,or_false]at f
  rcases f with rfl|rfl|rfl|rfl|rfl
  ·exact⟨_,z,λv e=>nomatch (show Data.fields _=GX v from e)⟩
  ·exact⟨_,a,λv e=>nomatch (show Data.seq _ _=GX v from e)⟩
  ·exact⟨_,b,λv e=>nomatch (show Data.seq _ _=GX v from e)⟩
  ·exact S.itOb c
  ·exact T.itOb d
 keep:=λi h N ⟨⟨g,l,m,z⟩,a,⟨x,y,b⟩,c,d⟩ k=>⟨⟨g,l,m,k _ (by simp) _ z⟩,k _ (by simp) _ a,⟨x,y,k _ (by simp) _ b⟩,S.itAt c λo e=>k _ (by simp) o e,T.itAt d λo e=>k _ (by simp) o e⟩
 item:=by
  intro X O Q U hc i j s σ H E I J ⟨⟨g,l,m,z⟩,a,⟨u,v,b⟩,c,d⟩ ⟨xs,ys,x,y,L,M,ex,ey⟩
  subst O Q U
  obtain⟨p,Y,o1,_⟩:=S.of I L
  obtain⟨r,r2,o2,_⟩:=T.of I M
  obtain⟨u1,e1,ru1⟩:=Y.get ex
  obtain⟨u2,e2,ru2⟩:=r2.get ey
  have l1:=(List.getElem?_eq_some_iff.mp e1).1
  have l2:=(List.getElem?_eq_some_iff.mp e2).1
  refine lG (VW h1 h2) (S.sub (P:=X.prog) (w:=X.w) p.toArray) (T.sub (P:=X.prog) (w:=X.w) r.toArray) z m a b ⟨c,o1⟩ ⟨d,o2⟩ (by simpa using l1) (by simpa using l2) λx' y' N v' b' A B hv' z' to' ⟨c',_⟩ ⟨d',_⟩ new sz kp=>?_
  have hx1:x'=u1:=by simp[e1]at A;exact A.symm
  have hy1:y'=u2:=by simp[e2]at B;exact B.symm
  subst hx1 hy1
  have hlt:n+4<s.heap.objs.size:=By z
  refine⟨_,rfl,lJ tg z' hv' λC v2 hv2 z2 sb=>?_⟩
  have t:∀q o,q≠n+4->N.get? q=some o->C.get? q=some o:=λq o f e=>sb.extBut _ _ f e
  have I1:Inv X j σ (A3 H s.heap.objs.size (.tup [x,y])) {s with heap:=C}:=by
   refine I.yielded J (λq o f e=>t q o (λz=>f (by simp[z])) (kp q o (λz=>f (by simp[z])) (λz=>f (by simp[z])) (λz=>f (by simp[z])) (λz=>f (by simp[z])) e)) (BB _) ?_
   exact⟨show 2<=AG by decide,[x',y'],.cons ru1 (.cons ru2 .nil),⟨_,t _ _ (by(show @Ne Nat _ _;omega)) new,rfl,_,rfl⟩⟩
  obtain⟨u',v'',G⟩:=to'
  refine⟨.ref s.heap.objs.size,_,I1,rfl,⟨_,x,y,rfl,I.hok.fresh (BB _),rfl,λzs hz=>by rw[S.inj I hz L];exact ex,λzs hz=>by rw[T.inj I hz M];exact ey⟩,⟨⟨v2,b',hv2,z2⟩,t _ _ (by(show @Ne Nat _ _;omega)) (kp _ _ (by(show @Ne Nat _ _;omega)) (by(show @Ne Nat _ _;omega)) (by(show @Ne Nat _ _;omega)) (by(show @Ne Nat _ _;omega)) a),⟨u',v'',t _ _ (by(show @Ne Nat _ _;omega)) G⟩,S.itAt c' λo e=>t _ o (by(show @Ne Nat _ _;omega)) e,T.itAt d' λo e=>t _ o (by(show @Ne Nat _ _;omega)) e⟩,λq f=>?_⟩
  rw[ZK]
  ·exact(J q f).1
  ·simp only[Bv,G8,or_false]at f
   rcases f with rfl|rfl|rfl|rfl|rfl<;>(show @Ne Nat _ _;omega)
 done:=by
  intro X O Q U hc i j s σ H E I J ⟨⟨g,l,m,z⟩,a,⟨u,v,b⟩,c,d⟩ ⟨xs,ys,L,M,hl⟩
  subst O Q U
  obtain⟨p,Y,o1,_⟩:=S.of I L
  obtain⟨r,r2,o2,_⟩:=T.of I M
  have q1:=Y.length
  have q2:=r2.length
  refine lH (I.ok.hd hc) (VW h1 h2) (S.sub (P:=X.prog) (w:=X.w) p.toArray) (T.sub (P:=X.prog) (w:=X.w) r.toArray) z m a b ⟨c,o1⟩ ⟨d,o2⟩ (by simp only[BF];omega) λN kp=>⟨rfl,I.turnedL J λq o f e=>kp q o (λz=>f (by simp[z])) (λz=>f (by simp[z])) (λz=>f (by simp[z])) (λz=>f (by simp[z])) e⟩
 self:=λ_ _ _ _ _ ⟨⟨g,l,m,z⟩,_⟩ q=>lI z q
section
variable{X:Cx}{M:Fb}{H0:Hp}{f g:VE->Option D}{a b tg:Expr}{p pos:Bc}
theorem Q8(hg:Gl X "zip")(hm:X.mg "zip"=none)(B:JE X a (tQ X.K M H0 f))(l:JE X b (tQ X.K M H0 g))(O:AX [a,b] X.env=[(false,AC a X.env),(false,AC b X.env)]:=by rfl)(c:AX [b] X.env=[(false,AC b X.env)]:=by rfl)(C:AX [] X.env=[]:=by rfl):
  JI X tg (.Call (.Name "zip" p) [a,b] [] pos) (tI X.K M H0 (Hb f g)):=⟨have B:=B.h;have l:=l.h;by
 intro o s t H Q I ⟨d,ds,R,e,q⟩
 unfold Hb at e
 split at e
 ·next xs ys ex x=>
  cases e
  cases E:f d with
  |none=>rw[E]at ex;cases ex
  |some d1=>
   cases i:g d with
   |none=>rw[i]at x;cases x
   |some d2=>
    rw[E]at ex
    rw[i]at x
    have G:=Ej B (Ej l BK (by rw[c,C])) (by rw[O,c])
    refine Call_ (FU I hg hm VX (Jn (Bb (G pos o s t H (λvs m=>∃S T u v,vs=[.ref (Bn.ad S),.ref (Bn.ad T)]/\Am H m/\Ad X.K (Nf M d t) m xs u/\Ad X.K (Nf M d t) m ys v/\(∀N2 n,Step M (Nf M d t) N2 m n->S.sq X.K n u)/\∀N2 n,Step M (Nf M d t) N2 m n->T.sq X.K n v) I ?_) λu J ⟨vs,U,w,r1,q1⟩=>?_) (by rw[O,c]) (by rw[c];rfl)))
    ·refine⟨d,d1,R,E,λv1 U z1 q1=>⟨d,d2,R.st z1,i,λv2 m z2 q2=>?_⟩⟩
     obtain⟨S,u,L,j,y⟩:=q1.src ex
     obtain⟨T,v,e2,k,A⟩:=q2.src x
     exact⟨S,T,u,v,by rw[L,e2],z1.trans z2,j.same z2,k,λN2 n St=>y _ _ ((Step.of_same z2).trans St),A⟩
    ·obtain⟨S,T,us',v,L,z,j,k,y,A⟩:=q1
     subst L
     cases r1 with
     |cons r N=>
      cases N with
      |cons r' N=>
       cases N
       cases r
       cases r'
       obtain⟨its,v1,Y,_⟩:=S.of w (y _ _ Step.refl)
       obtain⟨jts,v2,o2,_⟩:=T.of w (A _ _ Step.refl)
       refine jh Y o2 λh' a1 a2 a3 a4 a5 kp=>wpAny_pyIter_zip a1 ?_
       refine⟨_,_,_,_,U,rfl,w.kept (t':=J.toks) kp,lK S T J.heap.objs.size (S.lt Y) (T.lt o2),⟨⟨_,_,.inl rfl,a1⟩,a2,⟨_,_,a3⟩,a4,a5⟩,λb l=>?_,q _ _ z (ji j k y A)⟩
       have hl:J.heap.objs.size<=b:=by
        simp only[Bv,G8,or_false]at l
        rcases l with rfl|rfl|rfl|rfl|rfl<;>(show @LE.le Nat _ _ _;omega)
       exact w.fpOk hl (w.hok.fresh hl)
 ·cases e⟩
end
section
variable{prog:A4}{w:Aj}{A:Ak}{E:Aa->Ab->Prop}{s:Ab}{l:Ac}{xs:Array (Int×Tok)}
theorem lL{Q:Aa->Ab->Prop}(f:s.heap.IsTuple l (intItems xs))
  (h:∀a:Ab,a={s with heap:=s.heap.push {cls:=.type "tuple_iterator",data:=.fields #[.ref l,.int 0 0]} } ->
   (a.heap.IsTupleIter s.heap.objs.size l 0/\a.heap.IsTuple l (intItems xs))->(∀b∈[s.heap.objs.size,l],b<a.heap.objs.size)->l≠s.heap.objs.size->Q (.ref s.heap.objs.size) a):
  wpAny (Af prog w) A (pyIter (.ref l)) Q E s:=by
 have c:l<s.heap.objs.size:=by obtain⟨_,e,_⟩:=f;exact By e
 refine wpAny_pyIter_tuple f (h _ rfl ⟨⟨_,B0 _ rfl,rfl,rfl⟩,f.at λo e=>Bk _ e⟩ (λb d=>?_) (Cs c))
 show b<(s.heap.push _).objs.size
 rw[E3]
 rcases Bv.mp d with rfl|d
 ·exact Nat.lt_succ_self _
 ·rcases Bv.mp d with rfl|d
  ·exact Nat.lt_succ_of_lt c
  ·cases d
theorem lM{h':Al}(c:∀b o,b∉[s.heap.objs.size]->(s.heap.push {cls:=.type "tuple_iterator",data:=.fields #[.ref l,.int 0 0]}).get? b=some o->h'.get? b=some o):
  ∀b o,s.heap.get? b=some o->h'.get? b=some o:=λb o e=>by
 refine c b o (λa=>?_) (Bk _ e)
 rcases Bv.mp a with d|a
 ·exact absurd (d ▸ By e) (FT _)
 ·cases a
theorem lN{Q:Aa->Ab->Prop}(k:A.handled=none)(m:s.heap.IsTuple l (intItems xs))(a:0<xs.size)
  (h:∀v h' c,(intItems xs)[argBest (λi j=>decide (numAt xs i<numAt xs j)) (xs.size-1)]?=some v->(∀b o,s.heap.get? b=some o->h'.get? b=some o)->Q v {s with heap:=h',toks:=c}):
  wpAny (Af prog w) A (call (.builtin "min") [.ref l]) Q E s:=by
 refine call_min_walk (lL m λg e st d f=>?_)
 subst e
 refine⟨_,_,_,_,_,_,_,rfl,Walks.tuple (A:=A.in1) k _ l f (intItems xs),st,d,by simpa[intItems]using a,CmpOf.ints_lt (numAt xs) (λ_ _=>intItems_at),λv h' c n p=>?_⟩
 exact h v h' c (by simpa[intItems]using n) (lM p)
end
section
variable{X:Cx}
theorem lO(x:X.calm=true):Bd X (.builtin "min") (λxs H Q=>∃(a:Ac)(c:List Int),xs=[.ref a]/\BV X.K H a (c.map V.int)/\0<c.length/\∀m,m∈c->(∀a,a∈c->m<=a)->Q (.int m) H):=by
 intro l s M H xs N Q I r h
 obtain⟨a,c,rfl,y,i,q⟩:=h
 obtain⟨u,rfl,z⟩:=D3 r
 cases z
 obtain⟨f,A,p,O⟩:=I.tuple y
 have n:IntsAre f c:=PN A
 obtain⟨g,e⟩:=n.allInts.items
 have d:c=g.toList.map (·.1):=by rw[<- n.numsOf,<- nums_intItems,<- e]
 have k:0<g.size:=by
  have o:=i;rw[d,BY,KJ]at o;exact o
 have B:s.heap.IsTuple a (intItems g):=e ▸ (show s.heap.IsTuple a f.toArray from p)
 refine lN (I.ok.hd x) B k λv T C E G=>?_
 obtain⟨t,rfl⟩:=intItems_at E
 obtain⟨U,J⟩:=argBest_lt (numAt g) (g.size-1)
 refine⟨.int _,H,I.kept (t':=C) G,⟨t,rfl⟩,q _ ?_ λb w=>?_⟩
 ·rw[d,numAt_eq];exact getD_mem (by rw[BY,KJ];omega)
 ·rw[d]at w
  obtain⟨j,L,rfl⟩:=mem_getD w
  rw[BY,KJ]at L
  rw[<- numAt_eq];exact J j (by omega)
end
@[simp] def Nz:List D->Option D
  |[.tup a]=>((EB a).bind M6).map D.int
  |_=>none
@[simp] def rn:List D->Option D
  |[.tup a]=>((EB a).bind VG).map D.int
  |_=>none
section
variable{K:As}
theorem lP:D4 K (λxs H Q=>∃(a:Ac)(b:List Int),xs=[.ref a]/\BV K H a (b.map V.int)/\0<b.length/\∀m,m∈b->(∀a,a∈b->m<=a)->Q (.int m) H) Nz:=by
 intro N H vs o d Q p h e q
 unfold Nz at e
 split at e
 ·next xs=>
  cases f:EB xs with
  |none=>rw[f]at e;cases e
  |some bs=>
   rw[f]at e
   simp only[AA]at e
   cases c:M6 bs with
   |none=>rw[c]at e;cases e
   |some k=>
    rw[c]at e;cases e
    obtain⟨v,rfl,i⟩:=Paired.one' h
    obtain⟨a,r,j,q1,g⟩:=i.tup
    subst j
    rw[M4 f]at g
    rw[M5 g]at q1
    refine⟨a,bs,rfl,q1,?_,λm l n=>?_⟩
    ·cases bs with
     |nil=>cases c
     |cons=>simp
    ·rw[iW c l n];exact q _ H (Am.refl H) Fp
 ·cases e
end
@[simp] def WY(o:Option D)(ρ:VE):An:=match o with
  |some _=>.next ρ
  |none=>.fail
section
variable{X:Cx}{K:As}{M:Fb}{H0:Hp}{e:Expr}{f:VE->Option D}{pos:Bc}
theorem lQ(h:JE X e (tD K M H0 f))(b:Fg e none pos.line X.env=AQ false:=by rfl):JS X (.Expr e pos) (tS K M H0 λρ=>WY (f ρ) ρ):=⟨(Px h.h b).mono λi c H ⟨ρ,R,q⟩=>by
 try dsimp only at q
 cases a:f ρ with
 |none=>rw[a]at q;exact BW q
 |some d=>
  rw[a]at q
  exact⟨ρ,d,R,a,λv g s j=>q c g (R.st s) (Step.of_same s)⟩⟩
end
theorem Ez{P:List Aa->Prop}(h:∀a,P [a])(us:List Aa)(b:us.length=1):P us:=by
 match us,b with
 |[a],_=>exact h a
theorem EA{P:List Aa->Prop}(h:∀a b,P [a,b])(us:List Aa)(c:us.length=2):P us:=by
 match us,c with
 |[a,b],_=>exact h a b
theorem lR{P:List Aa->Prop}(h:∀a b c,P [a,b,c])(us:List Aa)(d:us.length=3):P us:=by
 match us,d with
 |[a,b,c],_=>exact h a b c
theorem lS{P:List Aa->Prop}(h:∀a b c d,P [a,b,c,d])(us:List Aa)(e:us.length=4):P us:=by
 match us,e with
 |[a,b,c,d],_=>exact h a b c d
theorem lT{P:List Aa->Prop}(h:∀a b c d e,P [a,b,c,d,e])(us:List Aa)(f:us.length=5):P us:=by
 match us,f with
 |[a,b,c,d,e],_=>exact h a b c d e
theorem lU{P:List Aa->Prop}(h:∀a b c d e f,P [a,b,c,d,e,f])(us:List Aa)(g:us.length=6):P us:=by
 match us,g with
 |[a,b,c,d,e,f],_=>exact h a b c d e f
structure DI(K:As)(mg:Ae->Option Aa)(nm:Ae)(st:Ay)(ps:List Ae)(a:Ac)(fd:Bi):Prop where
 m:mg nm=some (.ref a)
 F:Iy K nm nm st a fd
 b:Binds K fd ps []
theorem di{K:As}{mg:Ae->Option Aa}{h:Al}{nm:Ae}{st:Ay}{ps:List Ae}{a:Ac}{i:Aa}{j e:Option Ac}{g:Array (Option Aa)}{kV d f b ct:Aa}(X:K.In h)(G:h.Ns C5 mg)
  (A:HA K C5 nm=some (some (.ref a)))
  (l:K.lookup a=some ⟨i,j,.func (Hu nm nm (Ix st) (FD st) (Zm st) .none kV d f e b ct),g⟩) (c:PySem.W.codeIn K b nm=true) (k:KY K (.ref a)=true)
  (m:∀(kV d f:Aa) (e:Option Ac) (b ct:Aa) (us:List Aa),us.length=ps.length->bindArgs (Hu nm nm (Ix st) (FD st) (Zm st) .none kV d f e b ct) ⟨us,[]⟩=AQ (ps.zip us):=by
   first|exact λ_ _ _ _ _ _=>Ez λ_=>rfl|exact λ_ _ _ _ _ _=>EA λ_ _=>rfl|exact λ_ _ _ _ _ _=>lR λ_ _ _=>rfl|exact λ_ _ _ _ _ _=>lS λ_ _ _ _=>rfl|exact λ_ _ _ _ _ _=>lT λ_ _ _ _ _=>rfl|exact λ_ _ _ _ _ _=>lU λ_ _ _ _ _ _=>rfl):
  DI K mg nm st ps a (Hu nm nm (Ix st) (FD st) (Zm st) .none kV d f e b ct):=
 ⟨PySem.W.mg_of X G A,gw l c k,.all (m kV d f e b ct)⟩
theorem lV{l:PySem.W.OpenLaw}{w:Aj}{K:As}{mg:Ae->Option Aa}{f a:Ac}{fd:Bi}{st:Ay}{n:Nat}{F:List Sl->Option Rv}(d:mg "law"=some (.ref f))(q:DI K mg "law" st ["_law_script"] a fd)
  (G:∀base:Al,Az l.prog w K mg base Bh n a fd ["_law_script"] (Bu K F)) (h:∀g:List Int,g.length<=63->F [.val (.lst (g.map D.int))]=some (.val (.bl true)))
  (e:∀(kV b i:Aa) (j:Option Ac) (c ct v:Aa),bindArgs (Hu "law" "law" (Ix st) (FD st) (Zm st) .none kV b i j c ct) ⟨[v],[]⟩=AQ [(("_law_script":Ae),v)]):
  ∃fd:Bi,(∀(s:Ab) (v:Aa),BindsTo s fd ⟨[v],[]⟩ [("_law_script",v)])/\∀base:Al,K.In base->base.Ns C5 mg->Az l.prog w K mg base Bh n f fd ["_law_script"] (K5 K):=by
 cases d.symm.trans q.m
 obtain⟨p,r,kV,b,i,j,c,ct,k,rfl,t,o⟩:=q.F.ex
 exact⟨_,λs v=>.of_eq (e _ _ _ _ _ _ _),λbase _ _=>iz (G base) h⟩
theorem BP{N P:List Ae}{a:Scope}(b:a.kind=.function:=by rfl)(c:a.isCoroutine=false:=by rfl)(d:a.isGenerator=false:=by rfl)(e:N.Nodup:=by decide +kernel)(f:N.take P.length=P:=by rfl)
  (g:∀x∈P,a.names.lookup x=some .local\/a.names.lookup x=some .cell:=by decide +kernel) (h:∀y∈a.names,y.2≠.free:=by decide +kernel):ZG N P a:=⟨b,c,d,e,f,g,h⟩
theorem C3(own a:List Ae){b:Scope}(c:Scope)(d:b.kind=.function:=by rfl)(e:∀x∈b.names,x.2≠.cell:=by decide +kernel)(f:∀x∈b.names,x.2=.free->c.names.lookup x.1=some .cell\/c.names.lookup x.1=some .free:=by decide +kernel)
  (g:∀x∈b.names,x.2=.local->b.names.lookup x.1=some .local:=by decide +kernel) (h:∀x∈a,b.names.lookup x=some .free:=by decide +kernel) (i:(own++a).Nodup:=by decide +kernel):Hw own a b c:=⟨d,e,f,g,h,i⟩
theorem Cb(L:List Ae)(h:L.Nodup:=by decide +kernel):L.Nodup:=h
section
variable{X:Cx}{K:As}{M:Fb}{H0:Hp}{k n:Nat}{fn:Ac}{fd:Bi}{ps:List Ae}{x nm:Ae}{st:Ay}{F:List Sl->Option Rv}{e a b:Expr}{es:List Expr}{fa:VE->Option (List Sl)}{p pos:Bc}{f g:VE->Option D}
theorem Zp(G:Az X.prog X.w X.K X.mg X.base Bh k fn fd ps (Bu K F))(d:Bf n X.A)(D:DI X.K X.mg x st ps fn fd)(f:JA X (e::es) (Dw K M H0 fa))(g:k<=n:=by decide)(h:Gl X x:=by rfl)(a:(x==("__debug__":Ae))=false:=by decide)
  (i:AX (e::es) X.env=(false,AC e X.env)::AX es X.env:=by exact DA (λ_ _ z=>nomatch z)) (c:(AZ pos (AX es X.env)).any (·.1)=false:=by rfl):JE X (.Call (.Name x p) (e::es) [] pos) (tD K M H0 (Zo F fa)):=
 hQ G (d.mono g) h D.m D.F.kp D.b (E:=E0) U0 f a i c
theorem Q9(G:Az X.prog X.w X.K X.mg X.base Bh k fn fd ps (Bu K F))(d:Bf n X.A)(D:DI X.K X.mg x st ps fn fd)(f:JA X (e::es) (Dw K M H0 fa))(g:k<=n:=by decide)(h:Gl X x:=by rfl)(a:(x==("__debug__":Ae))=false:=by decide)
  (i:AX (e::es) X.env=(false,AC e X.env)::AX es X.env:=by exact DA (λ_ _ z=>nomatch z)) (c:(AZ pos (AX es X.env)).any (·.1)=false:=by rfl):JE X (.Call (.Name x p) (e::es) [] pos) (tF K M H0 (Gs F fa)):=
 hT G (d.mono g) h D.m D.F.kp D.b (E:=E0) U0 f a i c
theorem Zs {i j pos}:JE X (.Constant (.int i) j pos) (tP K M H0 λ_=>some (.int i)):=Aq ZQ
theorem Zh(c:JE X a (tP X.K M H0 f))(d:JE X b (tP X.K M H0 g))(e:K0 b:=by exact λ_ _=>rfl):JE X (.Subscript a b pos) (tD X.K M H0 (Zd Au f g)):=iI c d e
theorem Zn(i:Nat){x:Ae}(a:X.N.Nodup)(b:X.N[i]?=some x:=by rfl)(c:Loc X.env.scope x:=by first|exact .inl rfl|exact .inr rfl)(d:X.fn x=true\/X.env.scope.names.lookup x=some .local:=by first|exact .inl rfl|exact .inr rfl|assumption):
  JG X (.Name x pos) (tG K M H0 [i] (Zk i)):=ig a b c d
theorem Zu(i:Nat){x:Ae}{a:Bc}(b:X.N.Nodup)(c:JE X e (tD K M H0 f))(d:X.N[i]?=some x:=by rfl)(g:Loc X.env.scope x:=by first|exact .inl rfl|exact .inr rfl)(h:Fg e (some (.Name x a)) pos.line X.env=AQ false:=by rfl)
  (j:X.fn x=true\/X.env.scope.names.lookup x=some .local:=by first|exact .inl rfl|exact .inr rfl|assumption):JS X (.Assign [.Name x a] e pos) (tS K M H0 λρ=>Zw i (f ρ) ρ):=h7 b d g c h j
theorem ZR{P:A4}{w:Aj}{mg:Ae->Option Aa}{base:Al}{N:List Ae}{g c:VE->An}(D:DI K mg nm st ps fn fd)(S:ZG N ps (Zm st))
  (d:∀(a:Aa) (A:Ak) (outer:List Env) (s:Ab) (H:Hp) (E:XK) (M:Fb) (H0:Hp),Bf k (A.deeper (envOfC nm (Zm st) s.heap.objs.size fn a)) ->
   JB (FX Bh P w K mg base N nm (Zm st) fn a A outer s H E).nox (FD st) (tS K M H0 c)) (e:c=g:=by rfl) (b:ps.length<=N.length:=by decide):Az P w K mg base Bh (k+1) fn fd ps (Bu K (Bm ps.length N.length g)):=
 iy D.F S b (e ▸ d)
end
@[simp] theorem ro(a b:Int):AB (.int a) (.int b)=decide (a=b):=by simp only[AB];by_cases h:a=b<;>simp[h]
@[simp] theorem rp(a b:Ae):AB (.str a) (.str b)=decide (a=b):=by simp only[AB];by_cases h:a=b<;>simp[h]
@[simp] theorem rq(a b:Bool):AB (.bl a) (.bl b)=decide (a=b):=by simp only[AB];by_cases h:a=b<;>simp[h]
@[simp] theorem rz:AB .non .non=true:=by simp only[AB]
@[simp] theorem rA(a:Bool)(b:Int):AB (.bl a) (.int b)=decide ((if a then 1 else 0)=b):=by simp only[AB];by_cases h:(if a then 1 else 0)=b<;>simp[h]
@[simp] theorem rB(a:Int)(b:Bool):AB (.int a) (.bl b)=decide (a=(if b then 1 else 0)):=by simp only[AB];by_cases h:a=(if b then 1 else 0)<;>simp[h]
@[simp] theorem rC(a:Int)(b:Ae):AB (.int a) (.str b)=false:=by simp only[AB]
@[simp] theorem rD(a:Ae)(b:Int):AB (.str a) (.int b)=false:=by simp only[AB]
@[simp] theorem rE(a:Bool)(b:Ae):AB (.bl a) (.str b)=false:=by simp only[AB]
@[simp] theorem rF(a:Ae)(b:Bool):AB (.str a) (.bl b)=false:=by simp only[AB]
@[simp] theorem rG(b:Int):AB .non (.int b)=false:=by simp only[AB]
@[simp] theorem rH(b:Ae):AB .non (.str b)=false:=by simp only[AB]
@[simp] theorem rJ(b:Bool):AB .non (.bl b)=false:=by simp only[AB]
@[simp] theorem rK(b:Int):AB (.int b) .non=false:=by simp only[AB]
@[simp] theorem rL(b:Ae):AB (.str b) .non=false:=by simp only[AB]
@[simp] theorem rM(b:Bool):AB (.bl b) .non=false:=by simp only[AB]
@[simp] theorem rN(a b:List D):AB (.tup a) (.tup b)=Cy a b:=by simp only[AB]
@[simp] theorem rO(a b:List D):AB (.lst a) (.lst b)=Cy a b:=by simp only[AB]
@[simp] theorem rP(a b:List D):AB (.tup a) (.lst b)=false:=by simp only[AB]
@[simp] theorem rQ(a b:List D):AB (.lst a) (.tup b)=false:=by simp only[AB]
@[simp] theorem rR(a:List D)(b:Int):AB (.tup a) (.int b)=false:=by simp only[AB]
@[simp] theorem rS(a:List D)(b:Ae):AB (.tup a) (.str b)=false:=by simp only[AB]
@[simp] theorem rT(a:List D):AB (.tup a) .non=false:=by simp only[AB]
@[simp] theorem rV(a:List D)(b:Bool):AB (.tup a) (.bl b)=false:=by simp only[AB]
@[simp] theorem rW(a:List D)(b:Int):AB (.int b) (.tup a)=false:=by simp only[AB]
@[simp] theorem rX(a:List D)(b:Ae):AB (.str b) (.tup a)=false:=by simp only[AB]
@[simp] theorem rY(a:List D):AB .non (.tup a)=false:=by simp only[AB]
@[simp] theorem rZ(a:List D)(b:Bool):AB (.bl b) (.tup a)=false:=by simp only[AB]
@[simp] theorem r0(a:List D)(b:Int):AB (.lst a) (.int b)=false:=by simp only[AB]
@[simp] theorem r4(a:List D)(b:Ae):AB (.lst a) (.str b)=false:=by simp only[AB]
@[simp] theorem r6(a:List D):AB (.lst a) .non=false:=by simp only[AB]
@[simp] theorem r9(a:List D)(b:Bool):AB (.lst a) (.bl b)=false:=by simp only[AB]
@[simp] theorem sd(a:List D)(b:Int):AB (.int b) (.lst a)=false:=by simp only[AB]
@[simp] theorem se(a:List D)(b:Ae):AB (.str b) (.lst a)=false:=by simp only[AB]
@[simp] theorem sf(a:List D):AB .non (.lst a)=false:=by simp only[AB]
@[simp] theorem sg(a:List D)(b:Bool):AB (.bl b) (.lst a)=false:=by simp only[AB]
@[simp] theorem si:Cy [] []=true:=by simp only[Cy]
@[simp] theorem sj(a b:D)(c bs:List D):Cy (a::c) (b::bs)=(AB a b&&Cy c bs):=by simp only[Cy]
@[simp] theorem sk(b:D)(bs:List D):Cy [] (b::bs)=false:=by simp only[Cy]
@[simp] theorem so(b:D)(bs:List D):Cy (b::bs) []=false:=by simp only[Cy]
@[simp] theorem lW:∀(a b:List Int),Cy (a.map D.int) (b.map D.int)=decide (a=b)
  |[],[]=>by simp
  |[],_::_=>by simp
  |_::_,[]=>by simp
  |x::a,y::b=>by simp[lW a b]
@[simp] theorem sr(n:Nat)(a:List Int):(a.map D.int).all (A5 n)=true:=by
  rw[Ev]
  intro x b
  obtain⟨i,_,rfl⟩:=List.mem_map.mp b
  cases n<;>rfl
@[simp] theorem ss(t n:String):J0 t n=(t==n||(t=="bool"&&n=="int")):=rfl
@[simp] theorem su:F4=["NoneType","bool","int","str","tuple","list"]:=rfl
@[simp] theorem Kj:B4=12:=rfl
@[simp] theorem sw:CP.tysL []=some []:=rfl
@[simp] theorem sx(n:String)(r:List D):CP.tysL (.ty n::r)=(CP.tysL r).map (n::·):=rfl
@[simp] theorem sy(a:List Int):EB (a.map D.int)=some a:=VF a
@[simp] theorem NA:∀(a:List Bool),Gx (a.map D.bl)=some a
  |[]=>rfl
  |n::a=>by simp only[AY,Gx,NA a];rfl
theorem Ec{c:Type}{b:D->VE->Option VE}{e:VE->Option D}{ρ:VE}(G F:c->D):∀(xs:List c),(∀x∈xs,∃a,b (G x) ρ=some a/\e a=some (F x))->C1 b (λ_=>some true) e ρ (xs.map G)=some (xs.map F)
 |[],_=>rfl
 |x::xs,h=>by
  obtain⟨a,d,f⟩:=h x BA
  simp only[AY,C1,d,f,Zb,AA,Ec G F xs λy g=>h y (Bt _ g)]
@[simp] theorem ZC{a:Type}(l:List a)(h:l.length<=1000000):Zr (some l)=some l:=by
  have:l.length<=AG:=CK h (by decide)
  simp[this]
theorem Ra{a c:Type}(f:a->c)(xs:List a)(lo b:Option Int):Em (xs.map f) lo b=(Em xs lo b).map f:=by
 unfold Em
 rw[BY,List.map_take,List.map_drop]
theorem sB{b:Type}(xs:List b)(k:Int)(h:0<=k):Em xs none (some k)=xs.take k.toNat:=by
 have e:HT.sIx xs.length 0 none=0:=rfl
 have c:HT.sIx xs.length xs.length (some k)=min k.toNat xs.length:=by simp only[HT.sIx];split<;>omega
 unfold Em
 rw[e,c,List.drop_zero,Nat.sub_zero]
 rcases Nat.le_total k.toNat xs.length with a|a
 ·rw[Nat.min_eq_left a]
 ·rw[Nat.min_eq_right a,List.take_length,JY a]
theorem lX{b:Type}(xs:List b)(k:Int)(h:0<=k):Em xs (some k) none=xs.drop k.toNat:=by
 have e:HT.sIx xs.length xs.length none=xs.length:=rfl
 have c:HT.sIx xs.length 0 (some k)=min k.toNat xs.length:=by simp only[HT.sIx];split<;>omega
 unfold Em
 rw[e,c]
 rcases Nat.le_total k.toNat xs.length with a|a
 ·rw[Nat.min_eq_left a,JY (by rw[Js];exact BB _)]
 ·rw[Nat.min_eq_right a,List.drop_length,List.drop_of_length_le a,List.take_nil]
theorem WZ{c:Type}(xs:List c)(i j:Int)(f:0<=i)(g:0<=j):Em xs (some i) (some j)=(xs.drop i.toNat).take (j.toNat-i.toNat):=by
 have d:HT.sIx xs.length 0 (some i)=min i.toNat xs.length:=by simp only[HT.sIx];split<;>omega
 have e:HT.sIx xs.length xs.length (some j)=min j.toNat xs.length:=by simp only[HT.sIx];split<;>omega
 unfold Em
 rw[d,e]
 rcases Nat.le_total i.toNat xs.length with a|a
 ·rw[Nat.min_eq_left a]
  rcases Nat.le_total j.toNat xs.length with b|b
  ·rw[Nat.min_eq_left b]
  ·rw[Nat.min_eq_right b,JY (by rw[Js];exact BB _),JY (by rw[Js];omega)]
 ·rw[Nat.min_eq_right a,List.drop_length,List.drop_of_length_le a,List.take_nil,List.take_nil]
@[simp] theorem lY(a:List Int):Lr [.lst (a.map D.int)]=if a.length<64 then some ((E6 a).map D.int)else none:=by simp[Lr]
theorem W0{a b:List Int}(h:a.Perm b):a.sum=b.sum:=by
 induction h with
 |nil=>rfl
 |cons x _ c=>simp[c]
 |swap x y l=>simp;omega
 |trans _ _ d e=>exact d.trans e
theorem lZ(j:Int)(a:0<=j)(h:j<1000000000):Eu [.int j]=some ((A7 j.toNat).map λ(k:Nat)=>D.int (k:Int)):=by
 have e:HE 0 j.toNat=(A7 j.toNat).map λ(k:Nat)=>D.int (k:Int):=by simp[HE]
 simp only[Eu]
 rw[Lg ⟨by omega,by omega⟩,e]
theorem F5(n:Nat)(h:n<1000000000):Eu [.int (n:Int)]=some ((A7 n).map λ(k:Nat)=>D.int (k:Int)):=by
 rw[lZ _ (by omega) (by omega),HJ]
theorem l5(i j:Int)(a:0<=i)(b:i<1000000000)(h:j<1000000000)(c : -1000000000<j):JM [.int i,.int j]=some ((A7 (j-i).toNat).map λ(k:Nat)=>D.int (i+(k:Int))):=by
 simp only[JM]
 rw[Lg ⟨by omega,by omega,by omega,by omega⟩]
 rfl
theorem W1(xs ys:List D)(h:xs.length+ys.length<=1000000):ZJ (.lst xs) (.lst ys)=some (.lst (xs++ys)):=by
 simp only[ZJ]
 rw[if_pos (CK h (by decide))]
theorem Rb(xs ys:List D)(h:xs.length+ys.length<=1000000):ZJ (.tup xs) (.tup ys)=some (.tup (xs++ys)):=by
 simp only[ZJ]
 rw[if_pos (CK h (by decide))]
theorem LU(x y:Ae)(h:x.length+y.length<=1000000):ZJ (.str x) (.str y)=some (.str (x++y)):=by
 simp only[ZJ]
 rw[if_pos (CK h (by decide))]
theorem l6{n:Nat}{i:Int}(a:0<=i)(b:i<n):DR n i=some i.toNat:=by unfold DR;rw[if_pos a,if_pos b]
theorem l7{a:Type}{xs:List a}{i:Int}(b:0<=i)(c:i<xs.length):∃x,atI xs i=some x/\x∈xs:=by
 have h:i.toNat<xs.length:=by omega
 refine⟨xs[i.toNat],?_,ET _⟩
 unfold atI
 rw[l6 b c]
 exact CH h
theorem ma{z:Ae}{i:Int}(hz:z.length<=1000000)(a:0<=i)(b:i<z.length):∃c,Au (.str z) (.int i)=some (.str ⟨#[c]⟩)/\c∈z.cps.toList:=by
 have d:z.cps.toList.length=z.length:=by simp[Str.length]
 obtain⟨c,e,f⟩:=l7 (xs:=z.cps.toList) a (by rw[d];exact b)
 refine⟨c,?_,f⟩
 simp only[Au]
 rw[if_pos (CK hz (by decide)),e]
 rfl
@[simp] theorem Cr(d:D):Fn (.val d)=d:=rfl
@[simp] theorem DO(xs:List D)(b:Bool):Fn (.own xs b)=.lst xs b:=rfl
end L2
namespace K35
open PySem PySem.Spec PyProof.Rows L2
def CS:List Ae:=["NoGrain"]
def Re:VE->An:=(λa=>Zf (ZH (EQ (Dv (AS ((ZA EC (λa=>Zb (Ao a 0) (Zb (Zj (some (.ty "int"))) (some [])))) a)) (AS (EQ (CM (AS ((ZA EC (λa=>Zb (Ao a 0) (Zb (Zj (some (.ty "bool"))) (some [])))) a)))))))) (λa=>.next a))
def Rf:List Sl->Option Rv:=Bm 1 1 Re
def NB:VE->An:=(λa=>Zf (ZH ((ZA B9 (λa=>Zb (Zj ((Zd Au (λa=>Ai a 0) (λ_=>some (.int (0)))) a)) (some []))) a)) (λa=>.next a))
def Rg:List Sl->Option Rv:=Bm 1 1 NB
def NC:VE->An:=(λa=>Zf (ZH (K9 (AS ((Zd Lm (λa=>Ai a 1) (ZA B9 (λa=>Zb (Ao a 0) (some [])))) a)) ((Zd Au (λa=>Ai a 0) (λa=>Ai a 1)) a) (some .non))) (λa=>.next a))
def F6:List Sl->Option Rv:=Bm 2 2 NC
def Rh:VE->An:=(λa=>Zf (ZH ((Zr ((Zb (Zj ((Zd ZJ (Zd Au (λa=>Ai a 0) (λ_=>some (.int (0)))) (Zd Au (λa=>Ai a 1) (λ_=>some (.int (0))))) a)) (Zb (Zj ((Zd ZJ (Zd Au (λa=>Ai a 0) (λ_=>some (.int (1)))) (Zd Au (λa=>Ai a 1) (λ_=>some (.int (1))))) a)) (Zb (Zj ((ZA Qy (λa=>Zb (Zj ((Zd Au (λa=>Ai a 0) (λ_=>some (.int (2)))) a)) (Zb (Zj ((Zd Au (λa=>Ai a 1) (λ_=>some (.int (2)))) a)) (some [])))) a)) (Zb (Zj ((ZA Qx (λa=>Zb (Zj ((Zd Au (λa=>Ai a 0) (λ_=>some (.int (3)))) a)) (Zb (Zj ((Zd Au (λa=>Ai a 1) (λ_=>some (.int (3)))) a)) (some [])))) a)) (some []))))).bind Zt)).map D.tup)) (λa=>.next a))
def LV:List Sl->Option Rv:=Bm 2 2 Rh
def ND:VE->Option D:=(Zd (EE false) (λa=>Ai a 1) (λa=>Ai a 0))
def NE:VE->An:=(λa=>Zf (ZH ((ZA HH (λa=>Zb (Zj (ZF ((ZM 2 [] (Hb (λa=>A6 a 0) (λa=>A6 a 1)) (ZZ 2 (Zv (Zk 0) (Zv (Zk 1) Z1))) (λ_=>some true) ND) a))) (some []))) a)) (λa=>.next a))
def LW:List Sl->Option Rv:=Bm 2 2 NE
def NF:VE->An:=(λa=>Zf (ZI (AS ((Zd Lm (λa=>Ai a 1) (ZA B9 (λa=>Zb (Ao a 0) (some [])))) a)) (Zf (ZH ((Zd Au (λa=>Ai a 0) (λa=>Ai a 1)) a)) (λa=>.next a)) (.next a)) (λa=>Zf (ZH (some (.int (0)))) (λa=>.next a)))
def ZU:List Sl->Option Rv:=Bm 2 2 NF
def NG:VE->An:=(λa=>Zf (Zw 2 ((Zd Z6 (Zd ZJ (Zd ZJ (Zd FJ (λa=>Ai a 2) (λ_=>some (.int (48271)))) (Zd FJ (λ_=>some (.int (2))) (λa=>Ai a 4))) (λ_=>some (.int (11)))) (λ_=>some (.int (2147483647)))) a) a) (λa=>Zf (CI 3 ((Zd DU (λa=>Ai a 2) (λ_=>some (.int (64)))) a) a) (λa=>.next a)))
def W2:VE->An:=(λa=>Zw 2 ((Zd Z6 (Zd ZJ (λa=>Ai a 0) (Zd FJ (λ_=>some (.int (7919))) (λa=>Ai a 1))) (λ_=>some (.int (2147483629)))) a) a)
def W3:VE->An:=(λa=>CN 3 (Zr ((some []).bind Zt)) a)
def W4:VE->An:=(ZT (λa=>((Zb (Zj (some (.int (25)))) (some [])).bind Zt).bind Eu) (Zk 4) NG)
def W5:VE->An:=(λa=>ZH ((CB (λa=>Ai a 3) (λa=>Cw (some (.int (1)))) (λ_=>some none) G6) a))
def md:VE->An:=λa=>.next a
def W6:VE->An:=λa=>Zf (W5 a) md
def W7:VE->An:=λa=>Zf (W4 a) W6
def W8:VE->An:=λa=>Zf (W3 a) W7
def W9:VE->An:=λa=>Zf (W2 a) W8
def Rj:VE->An:=W9
def IS:List Sl->Option Rv:=Bm 2 5 Rj
def Rk:VE->An:=(λa=>Zf (Zw 3 ((Zd ZJ (λa=>Ai a 3) (Zd Au (λa=>Ai a 2) (Zd Z6 (Zd DU (λa=>Ai a 0) (Zd ZJ (λa=>Ai a 4) (λ_=>some (.int (3))))) (λ_=>some (.int (36)))))) a) a) (λa=>.next a))
def Xa:VE->An:=(λa=>Zw 2 (some (.str "abcdefghijklmnopqrstuvwxyz0123456789")) a)
def Xb:VE->An:=(λa=>Zw 3 ((Zd Au (λa=>Ai a 2) (Zd Z6 (λa=>Ai a 0) (λ_=>some (.int (26))))) a) a)
def Xc:VE->An:=(ZT (λa=>((Zb (Zj (A8 a 1)) (some [])).bind Zt).bind Eu) (Zk 4) Rk)
def Xd:VE->An:=(λa=>ZH (A8 a 3))
def me:VE->An:=λa=>.next a
def Xe:VE->An:=λa=>Zf (Xd a) me
def Xf:VE->An:=λa=>Zf (Xc a) Xe
def Xg:VE->An:=λa=>Zf (Xb a) Xf
def Xh:VE->An:=λa=>Zf (Xa a) Xg
def Rl:VE->An:=Xh
def LX:List Sl->Option Rv:=Bm 2 5 Rl
def Rm:VE->An:=(λa=>Zf (ZI (Gr (Ai a 0)) (Zf (ZH ((Zr ((Zb (Zj (some (.int (0)))) (Zb (Zj (some (.int (0)))) (Zb (Zj (some (.str ""))) (some [])))).bind Zt)).map D.tup)) (λa=>.next a)) (.next a)) (λa=>Zf (ZI (B5 ((ZA EC (λa=>Zb (Ao a 0) (Zb (Zj (some (.ty "int"))) (some [])))) a)) (Zf (ZH ((Zr ((Zb (Zj (some (.int (1)))) (Zb (Zj (A8 a 0)) (Zb (Zj (some (.str ""))) (some [])))).bind Zt)).map D.tup)) (λa=>.next a)) (.next a)) (λa=>Zf (ZH ((Zr ((Zb (Zj (some (.int (2)))) (Zb (Zj (some (.int (0)))) (Zb (Zj (A8 a 0)) (some [])))).bind Zt)).map D.tup)) (λa=>.next a))))
def NH:List Sl->Option Rv:=Bm 1 1 Rm
def Kk:VE->An:=(λa=>Zf (ZI (AS ((Zd C9 (Zd Au (λa=>Ai a 3) (λ_=>some (.int (0)))) (λa=>Ai a 1)) a)) (Zf (ZH ((Zd Au (Zd ZJ (λa=>Ai a 3) (λa=>(Zr ((Zb (Zj (some .non)) (some [])).bind Zt)).map D.tup)) (λa=>Ai a 2)) a)) (λa=>.next a)) (.next a)) (λa=>.next a))
def NI:VE->An:=(λa=>Zf ((ZT (λa=>(A6 a 0).bind Zy) (Zk 3) Kk) a) (λa=>Zf (ZH (some .non)) (λa=>.next a)))
def NJ:List Sl->Option Rv:=Bm 3 4 NI
def Rn:VE->An:=(λa=>Zf (Zw 1 (ZF ((CA Lr (λa=>Zb (Ao a 0) (some []))) a)) a) (λa=>Zf (ZH ((Zr ((Zb (Zj ((ZA B9 (λa=>Zb (Ao a 1) (some []))) a)) (Zb (Zj ((ZA Qz (λa=>Zb (Ao a 1) (some []))) a)) (Zb (Zj ((Zd Au (λa=>Ai a 1) (λ_=>some (.int (0)))) a)) (Zb (Zj ((Zd Au (λa=>Ai a 1) (λa=>Li (some (.int (1))))) a)) (some []))))).bind Zt)).map D.tup)) (λa=>.next a)))
def NK:List Sl->Option Rv:=Bm 1 2 Rn
def NL:VE->An:=(λa=>Zf (CI 2 ((Zd Z6 (Zd DU (λa=>Ai a 0) (Zd Au (λa=>ZF (Zr ((Zb (Zj (some (.int (1)))) (Zb (Zj (some (.int (5)))) (Zb (Zj (some (.int (25)))) (Zb (Zj (some (.int (125)))) (some []))))).bind Zt))) (λa=>Ai a 3))) (Zd ZJ (ZA B9 (λa=>Zb (Zj ((Zd Au (λa=>Ai a 4) (λ_=>some (.int (0)))) a)) (some []))) (λ_=>some (.int (1))))) a) a) (λa=>.next a))
def NM:VE->An:=(λa=>Zf (CN 2 (Zr ((some []).bind Zt)) a) (λa=>Zf ((ZT (Df (λa=>A6 a 1)) (ZZ 2 (Zv (Zk 3) (Zv (Zk 4) Z1))) NL) a) (λa=>Zf (ZH ((ZA De (λa=>Zb (Ao a 2) (some []))) a)) (λa=>.next a))))
def NN:List Sl->Option Rv:=Bm 2 5 NM
def Ro:VE->Option D:=(ZA EC (λa=>Zb (Ao a 0) (Zb (Zj (some (.ty "bool"))) (some []))))
def NO:VE->An:=(λa=>Zf (ZI (FE (CM (B5 ((ZA EC (λa=>Zb (Ao a 1) (Zb (Zj (some (.ty "tuple"))) (some [])))) a))) (FE (AS ((Zd Ew (ZA B9 (λa=>Zb (Ao a 1) (some []))) (λ_=>some (.int (2)))) a)) (CM (B5 ((ZA EC (λa=>Zb (Zj ((Zd Au (λa=>Ai a 1) (λ_=>some (.int (0)))) a)) (Zb (Zj (some (.ty "tuple"))) (some [])))) a))))) (Zf (ZH (some (.bl false))) (λa=>.next a)) (.next a)) (λa=>Zf (ZI (FE (CM (B5 ((ZA EC (λa=>Zb (Zj ((Zd Au (λa=>Ai a 1) (λ_=>some (.int (1)))) a)) (Zb (Zj (some (.ty "tuple"))) (some [])))) a))) (B5 ((ZA Lp (λa=>Zb (Zj (ZF ((ZM 1 [] (λa=>((Zd ZJ (Zd Au (λa=>Ai a 1) (λ_=>some (.int (0)))) (Zd Au (λa=>Ai a 1) (λ_=>some (.int (1))))) a).bind Zy) (Zk 0) (λ_=>some true) Ro) a))) (some []))) a))) (Zf (ZH (some (.bl false))) (λa=>.next a)) (.next a)) (λa=>.next a)))
def NP:VE->An:=(λa=>Zf (ZI (CM (B5 ((ZA EC (λa=>Zb (Ao a 0) (Zb (Zj (some (.ty "list"))) (some [])))) a))) (Zf (ZH (some (.bl false))) (λa=>.next a)) (.next a)) (λa=>Zf ((ZT (λa=>(A6 a 0).bind Zy) (Zk 1) NO) a) (λa=>Zf (ZH (some (.bl true))) (λa=>.next a))))
def Rp:List Sl->Option Rv:=Bm 1 2 NP
def HW:VE->An:=(λa=>Zf (ZI (Dv (AS ((Zd C9 (λa=>Ai a 6) (λa=>Ai a 2)) a)) (AS ((Zd (C2 true) (Zd Au (Zd ZJ (λa=>Ai a 4) (λa=>(Zr ((Zb (Zj (some .non)) (some [])).bind Zt)).map D.tup)) (λa=>Ai a 7)) (λa=>Ai a 8)) a))) (Zf (Zw 5 (some (.bl false)) a) (λa=>.next a)) (.next a)) (λa=>.next a))
def Kl:VE->An:=(λa=>Zf (Zw 5 (some (.bl true)) a) (λa=>Zf ((ZT (λa=>(A6 a 1).bind Zy) (ZZ 3 (Zv (Zk 6) (Zv (Zk 7) (Zv (Zk 8) Z1)))) HW) a) (λa=>Zf (ZI (B5 (Ai a 5)) (Zf (CI 3 ((Zd Au (λa=>Ai a 4) (λ_=>some (.int (0)))) a) a) (λa=>.next a)) (.next a)) (λa=>.next a))))
def NQ:VE->An:=(λa=>Zf (CN 3 (Zr ((some []).bind Zt)) a) (λa=>Zf ((ZT (λa=>((Zd Au (λa=>Ai a 0) (λa=>Ai a 2)) a).bind Zy) (Zk 4) Kl) a) (λa=>Zf (Cf (BX a 3)) (λa=>.next a))))
def Km:List Sl->Option Rv:=Bm 3 9 NQ
def Rq:VE->An:=(λa=>Zf (ZH (EQ (Dv (AS ((ZA EC (λa=>Zb (Ao a 0) (Zb (Zj (some (.ty "int"))) (some [])))) a)) (AS (EQ (CM (AS ((ZA EC (λa=>Zb (Ao a 0) (Zb (Zj (some (.ty "bool"))) (some [])))) a)))))))) (λa=>.next a))
def NR:List Sl->Option Rv:=Bm 1 1 Rq
def Rr:VE->An:=(λa=>Zf (ZI (Gr (Ai a 0)) (Zf (ZH ((Zr ((Zb (Zj (some (.int (0)))) (Zb (Zj (some (.int (0)))) (some []))).bind Zt)).map D.tup)) (λa=>.next a)) (.next a)) (λa=>Zf (ZI (B5 ((Zo Rf (λa=>Zb (Ao a 0) (some []))) a)) (Zf (ZH ((Zr ((Zb (Zj (some (.int (1)))) (Zb (Zj (A8 a 0)) (some []))).bind Zt)).map D.tup)) (λa=>.next a)) (.next a)) (λa=>Zf (ZH ((Zr ((Zb (Zj (some (.int (2)))) (Zb (Zj (A8 a 0)) (some []))).bind Zt)).map D.tup)) (λa=>.next a))))
def NS:List Sl->Option Rv:=Bm 1 1 Rr
def Rs:VE->Option D:=(Zo Rg (λa=>Zb (Ao a 0) (some [])))
def NT:VE->An:=(λa=>Zf (ZH ((ZA De (λa=>Zb (Zj (ZF ((ZM 1 [] (λa=>(A6 a 0).bind Zy) (Zk 0) (λ_=>some true) Rs) a))) (some []))) a)) (λa=>.next a))
def Rt:List Sl->Option Rv:=Bm 1 1 NT
def Ru:VE->Option D:=(λa=>(Zr ((Zb (Zj ((Zd Au (λa=>Ai a 0) (λ_=>some (.int (0)))) a)) (Zb (Zj ((Zr ((Zb (Zj (some (.str "out"))) (Zb (Zj (some .non)) (some []))).bind Zt)).map D.tup)) (some []))).bind Zt)).map D.tup)
def Kn:VE->An:=(λa=>Zf (ZI (AS ((Zd (C2 false) (Zd Au (λa=>Ai a 4) (λ_=>some (.int (0)))) (λa=>Ai a 2)) a)) (Zf (HN 3 ((Zd Au (λa=>Ai a 4) (λ_=>some (.int (0)))) a) ((Zr ((Zb (Zj (some (.str "in"))) (Zb (Zj ((Zo F6 (λa=>Zb (Ao a 4) (Zb (Ao a 1) (some [])))) a)) (some []))).bind Zt)).map D.tup) a) (λa=>.next a)) (.next a)) (λa=>.next a))
def NU:VE->An:=(λa=>Zf (ES 3 ((HU (λa=>ZF ((ZM 1 [] (λa=>(A6 a 0).bind Zy) (Zk 0) (λ_=>some true) Ru) a))) a) a) (λa=>Zf ((ZT (λa=>(A6 a 0).bind Zy) (Zk 4) Kn) a) (λa=>Zf (IB (ER a 3)) (λa=>.next a))))
def Rw:List Sl->Option Rv:=Bm 3 5 NU
def NV:VE->Option Bool:=(λa=>AS ((Zd (C2 false) (Zd Au (λa=>Ai a 0) (λ_=>some (.int (0)))) (λa=>Ai a 3)) a))
def NW:VE->Option D:=(λa=>(Zr ((Zb (Zj ((Zo F6 (λa=>Zb (Ao a 0) (Zb (Ao a 1) (some [])))) a)) (Zb (Zj ((Zo F6 (λa=>Zb (Ao a 0) (Zb (Ao a 2) (some [])))) a)) (some []))).bind Zt)).map D.tup)
def NX:VE->An:=(λa=>Zf (IB ((HU (λa=>ZF ((ZM 1 [1,2,3] (λa=>(A6 a 0).bind Zy) (Zk 0) NV NW) a))) a)) (λa=>.next a))
def Rx:List Sl->Option Rv:=Bm 4 4 NX
def LY:VE->An:=(λa=>Zw 3 ((Zd Z6 (Zd DU (λa=>Ai a 1) (λ_=>some (.int (4)))) (Zd JN (λ_=>some (.int (10))) (λ_=>some (.int (30))))) a) a)
def LZ:VE->An:=(λa=>ZI (AS ((Zd C9 (λa=>Ai a 0) (λ_=>some (.int (0)))) a)) (Zf (ZH ((Zd ZJ (λa=>Ai a 3) (λa=>Ai a 2)) a)) (λa=>.next a)) (.next a))
def NY:VE->An:=(λa=>ZI (AS ((Zd C9 (λa=>Ai a 0) (λ_=>some (.int (1)))) a)) (Zf (ZH ((Zd IE (Zd IE (λ_=>some (.int (0))) (λa=>Ai a 3)) (λa=>Ai a 2)) a)) (λa=>.next a)) (.next a))
def Ry:VE->An:=(λa=>Zw 4 ((Zo LX (λa=>Zb (Zj ((Zd DU (λa=>Ai a 1) (λ_=>some (.int (4)))) a)) (Zb (Zj ((Zd Z6 (λa=>Ai a 1) (λ_=>some (.int (8)))) a)) (some [])))) a) a)
def Rz:VE->An:=(λa=>ZI (AS ((Zd C9 (λa=>Ai a 0) (λ_=>some (.int (2)))) a)) (Zf (ZH ((Zd ZJ (λa=>Ai a 4) (QB LF (ZA JV (λa=>Zb (Ao a 2) (some []))) (λa=>Zb (Zj ((Zd ZJ (λ_=>some (.int (1))) (Zd Z6 (Zd DU (λa=>Ai a 1) (λ_=>some (.int (8)))) (λ_=>some (.int (4))))) a)) (some [])))) a)) (λa=>.next a)) (.next a))
def Xi:VE->An:=(λa=>Zw 5 (some (.str "abcdefghijklmnopqrstuvwxyz")) a)
def Xj:VE->An:=(λa=>Zw 6 ((Zd Z6 (Zd DU (λa=>Ai a 1) (λ_=>some (.int (8)))) (Zd ZJ (ZA B9 (λa=>Zb (Ao a 4) (some []))) (λ_=>some (.int (1))))) a) a)
def Xk:VE->An:=(λa=>Zw 7 ((Zd ZJ (Zd Au (λa=>Ai a 5) (Zd DU (λa=>Ai a 2) (λ_=>some (.int (26))))) (Zd Au (λa=>Ai a 5) (Zd Z6 (Zd ZJ (λa=>Ai a 2) (Zd DU (λa=>Ai a 1) (λ_=>some (.int (8))))) (λ_=>some (.int (26)))))) a) a)
def Xl:VE->An:=(λa=>ZH ((Zd ZJ (Zd ZJ (CB (λa=>Ai a 4) (λ_=>some none) (λa=>Cw (Ai a 6)) G6) (λa=>Ai a 7)) (CB (λa=>Ai a 4) (λa=>Cw (Ai a 6)) (λ_=>some none) G6)) a))
def mf:VE->An:=λa=>.next a
def Xm:VE->An:=λa=>Zf (Xl a) mf
def Xn:VE->An:=λa=>Zf (Xk a) Xm
def Xo:VE->An:=λa=>Zf (Xj a) Xn
def Xp:VE->An:=λa=>Zf (Xi a) Xo
def RB:VE->An:=λa=>Zf (Rz a) Xp
def RC:VE->An:=λa=>Zf (Ry a) RB
def NZ:VE->An:=λa=>Zf (NY a) RC
def L0:VE->An:=λa=>Zf (LZ a) NZ
def L1:VE->An:=λa=>Zf (LY a) L0
def Ko:VE->An:=L1
def Fu:List Sl->Option Rv:=Bm 3 8 Ko
def RD:VE->Option D:=(Zd Au (Zd Au (λa=>Ai a 1) (Zd Z6 (Zd Au (λa=>Ai a 2) (λa=>Ai a 0)) (ZA B9 (λa=>Zb (Ao a 1) (some []))))) (λ_=>some (.int (0))))
def RE:VE->An:=(λa=>Zw 3 ((Zo IS (λa=>Zb (Ao a 0) (Zb (Ao a 1) (some [])))) a) a)
def RF:VE->An:=(λa=>Zw 4 ((ZA De (λa=>Zb (Zj (ZF ((ZM 2 [3] (Df (λa=>A6 a 2)) (ZZ 2 (Zv (Zk 0) (Zv (Zk 1) Z1))) (λ_=>some true) RD) a))) (some []))) a) a)
def RH:VE->An:=(λa=>Zw 5 ((Zd FJ (Zd Z6 (λa=>Ai a 0) (Zd JN (λ_=>some (.int (10))) (λ_=>some (.int (30))))) (Zd IE (λ_=>some (.int (1))) (Zd FJ (λ_=>some (.int (2))) (Zd Z6 (Zd Au (λa=>Ai a 3) (λ_=>some (.int (5)))) (λ_=>some (.int (2))))))) a) a)
def RI:VE->An:=(λa=>ZI (AS ((Zd C9 (Zd Z6 (Zd Au (λa=>Ai a 3) (λ_=>some (.int (6)))) (λ_=>some (.int (2)))) (λ_=>some (.int (1)))) a)) (Zf (Zw 5 ((Zd IE (Zd Z6 (Zd Au (λa=>Ai a 3) (λ_=>some (.int (7)))) (λ_=>some (.int (7)))) (λ_=>some (.int (3)))) a) a) (λa=>.next a)) (.next a))
def RJ:VE->An:=(λa=>ZH ((Zr ((Zb (Zj (A8 a 4)) (Zb (Zj (A8 a 5)) (some []))).bind Zt)).map D.tup))
def mi:VE->An:=λa=>.next a
def RK:VE->An:=λa=>Zf (RJ a) mi
def RL:VE->An:=λa=>Zf (RI a) RK
def RM:VE->An:=λa=>Zf (RH a) RL
def RN:VE->An:=λa=>Zf (RF a) RM
def RO:VE->An:=λa=>Zf (RE a) RN
def L3:VE->An:=RO
def RQ:List Sl->Option Rv:=Bm 3 6 L3
def Oa:VE->Option D:=(Zo NJ (λa=>Zb (Ao a 0) (Zb (Ao a 1) (Zb (Ao a 2) (some [])))))
def Ob:VE->An:=(λa=>Zf (ZH ((ZA De (λa=>Zb (Zj (ZF ((ZM 3 [] (Nx (λa=>A6 a 0) (λa=>A6 a 1) (λa=>A6 a 2)) (ZZ 3 (Zv (Zk 0) (Zv (Zk 1) (Zv (Zk 2) Z1)))) (λ_=>some true) Oa) a))) (some []))) a)) (λa=>.next a))
def RS:List Sl->Option Rv:=Bm 3 3 Ob
def RU:VE->Option D:=(Zo NH (λa=>Zb (Ao a 0) (some [])))
def Oc:VE->An:=(λa=>Zf (Cf ((ZM 1 [] (λa=>(A6 a 0).bind Zy) (Zk 0) (λ_=>some true) RU) a)) (λa=>.next a))
def Od:List Sl->Option Rv:=Bm 1 1 Oc
def Oe:VE->An:=(λa=>Zf (CI 9 ((Zd Au (Zd ZJ (Zd Au (λa=>Ai a 7) (Zd Z6 (Zd Au (λa=>Ai a 5) (Zd ZJ (λ_=>some (.int (3))) (λa=>Ai a 10))) (ZA B9 (λa=>Zb (Ao a 7) (some []))))) (λa=>(Zr ((Zb (Zj (some .non)) (some [])).bind Zt)).map D.tup)) (λa=>Ai a 8)) a) a) (λa=>.next a))
def IT:VE->An:=(λa=>Zf (Zw 5 ((Zo IS (λa=>Zb (Ao a 4) (Zb (Zj ((Zd ZJ (λ_=>some (.int (40))) (λa=>Ai a 3)) a)) (some [])))) a) a) (λa=>Zf (Zw 6 ((Zd Z6 (Zd Au (λa=>Ai a 5) (λ_=>some (.int (0)))) (ZA B9 (λa=>Zb (Ao a 1) (some [])))) a) a) (λa=>Zf (Zw 7 ((Zd Au (λa=>Ai a 1) (λa=>Ai a 6)) a) a) (λa=>Zf (Zw 8 ((Zd Z6 (Zd Au (λa=>Ai a 5) (λ_=>some (.int (1)))) (Zd ZJ (ZA B9 (λa=>Zb (Zj ((Zd Au (λa=>Ai a 7) (λ_=>some (.int (0)))) a)) (some []))) (λ_=>some (.int (1))))) a) a) (λa=>Zf (CN 9 (Zr ((some []).bind Zt)) a) (λa=>Zf ((ZT (λa=>((Zb (Zj ((Zd Au (λa=>ZF (Zr ((Zb (Zj (some (.int (1)))) (Zb (Zj (some (.int (2)))) (Zb (Zj (some (.int (1)))) (Zb (Zj (some (.int (3)))) (Zb (Zj (some (.int (4)))) (Zb (Zj (some (.int (6)))) (Zb (Zj (some (.int (2)))) (Zb (Zj (some (.int (0)))) (some []))))))))).bind Zt))) (Zd Z6 (Zd Au (λa=>Ai a 5) (λ_=>some (.int (2)))) (λ_=>some (.int (8))))) a)) (some [])).bind Zt).bind Eu) (Zk 10) Oe) a) (λa=>Zf (ZI (AS ((Zd C9 (Zd Z6 (Zd Au (λa=>Ai a 5) (λ_=>some (.int (10)))) (λ_=>some (.int (9)))) (λ_=>some (.int (4)))) a)) (Zf (CI 9 ((Zd Au (λa=>ZF (Zr ((Zb (Zj (some (.str "nobody"))) (Zb (Zj (some .non)) (Zb (Zj ((Zd JN (λ_=>some (.int (10))) (λ_=>some (.int (40)))) a)) (some [])))).bind Zt))) (Zd Z6 (Zd DU (Zd Au (λa=>Ai a 5) (λ_=>some (.int (10)))) (λ_=>some (.int (9)))) (λ_=>some (.int (3))))) a) a) (λa=>.next a)) (.next a)) (λa=>Zf (ZI (AS ((Zd C9 (Zd Z6 (Zd Au (λa=>Ai a 5) (λ_=>some (.int (11)))) (λ_=>some (.int (5)))) (λ_=>some (.int (0)))) a)) (Zf (Zw 9 ((ZA De (λa=>Zb (Ao a 9) (some []))) a) a) (λa=>.next a)) (.next a)) (λa=>Zf ((λa=>CI 2 ((Zr ((Zb (Zj (A8 a 6)) (Zb (Zj (A8 a 8)) (Zb (Zj (A8 a 9)) (some [])))).bind Zt)).map D.tup) a) (IC 9 a)) (λa=>.next a))))))))))
def Of:VE->An:=(λa=>Zf (CN 2 (Zr ((some []).bind Zt)) a) (λa=>Zf ((ZT (Df (λa=>A6 a 0)) (ZZ 2 (Zv (Zk 3) (Zv (Zk 4) Z1))) IT) a) (λa=>Zf (Cf (BX a 2)) (λa=>.next a))))
def RV:List Sl->Option Rv:=Bm 2 11 Of
def RW:VE->Option D:=(Zo Km (λa=>Zb (Ao a 1) (Zb (Ao a 2) (Zb (Ao a 0) (some [])))))
def GI:VE->An:=(λa=>Zf (Zw 9 ((Zd C9 (Zd Au (Zd ZJ (λa=>Ai a 7) (λa=>(Zr ((Zb (Zj (some .non)) (some [])).bind Zt)).map D.tup)) (Zd Au (λa=>Ai a 1) (λa=>Ai a 5))) (Zd Au (Zd ZJ (λa=>Ai a 8) (λa=>(Zr ((Zb (Zj (some .non)) (some [])).bind Zt)).map D.tup)) (Zd Au (λa=>Ai a 1) (λa=>Ai a 5)))) a) a) (λa=>Zf (ZI (Dv (B5 (Ai a 9)) (AS ((Zd Ew (Zd (C2 false) (Zd Au (λa=>Ai a 7) (λ_=>some (.int (0)))) (Zd Au (λa=>Ai a 4) (λa=>Ai a 5))) (Zd (C2 false) (Zd Au (λa=>Ai a 8) (λ_=>some (.int (0)))) (Zd Au (λa=>Ai a 4) (λa=>Ai a 5)))) a))) (Zf (ZH (some (.bl true))) (λa=>.next a)) (.next a)) (λa=>Zf (Zw 10 ((Zd C9 (Zd Au (Zd ZJ (λa=>Ai a 7) (λa=>(Zr ((Zb (Zj (some .non)) (some [])).bind Zt)).map D.tup)) (Zd Au (λa=>Ai a 2) (λa=>Ai a 5))) (Zd Au (Zd ZJ (λa=>Ai a 8) (λa=>(Zr ((Zb (Zj (some .non)) (some [])).bind Zt)).map D.tup)) (Zd Au (λa=>Ai a 2) (λa=>Ai a 5)))) a) a) (λa=>Zf (ZI (Dv (B5 (Ai a 9)) (Dv (AS ((Zd (C2 false) (Zd Au (λa=>Ai a 7) (λ_=>some (.int (0)))) (Zd Au (λa=>Ai a 4) (λa=>Ai a 5))) a)) (CM (B5 (Ai a 10))))) (Zf (ZH (some (.bl true))) (λa=>.next a)) (.next a)) (λa=>.next a)))))
def IU:VE->An:=(λa=>Zf ((ZT (λa=>(A6 a 6).bind Zy) (Zk 8) GI) a) (λa=>.next a))
def IV:VE->An:=(λa=>Zf ((ZT (λa=>(A6 a 6).bind Zy) (Zk 7) IU) a) (λa=>.next a))
def Og:VE->An:=(λa=>Zw 4 (ZF ((ZM 1 [0,3] (λa=>((Zb (Zj ((ZA B9 (λa=>Zb (Ao a 0) (some []))) a)) (some [])).bind Zt).bind Eu) (Zk 0) (λ_=>some true) RW) a)) a)
def Oh:VE->An:=(λa=>ZI (AS ((Zd (C2 false) (λa=>ZF (Zr ((some []).bind Zt))) (λa=>Ai a 4)) a)) (Zf (ZH (some (.bl false))) (λa=>.next a)) (.next a))
def RX:VE->An:=(ZT (Df (λa=>A6 a 0)) (ZZ 2 (Zv (Zk 5) (Zv (Zk 6) Z1))) IV)
def Xq:VE->An:=(λa=>ZH (some (.bl false)))
def mj:VE->An:=λa=>.next a
def Xr:VE->An:=λa=>Zf (Xq a) mj
def RY:VE->An:=λa=>Zf (RX a) Xr
def Oi:VE->An:=λa=>Zf (Oh a) RY
def L4:VE->An:=λa=>Zf (Og a) Oi
def Xs:VE->An:=L4
def Oj:List Sl->Option Rv:=Bm 4 11 Xs
def RZ:VE->Option D:=(Zo Km (λa=>Zb (Ao a 1) (Zb (Ao a 2) (Zb (Ao a 0) (some [])))))
def R0:VE->Option D:=(Zd (C2 false) (λa=>Ai a 1) (Zd Au (λa=>Ai a 2) (λa=>Ai a 0)))
def L5:VE->An:=(λa=>Zf (ZI (B5 ((ZA HH (λa=>Zb (Zj (ZF ((ZM 2 [3] (Df (λa=>A6 a 5)) (ZZ 2 (Zv (Zk 0) (Zv (Zk 1) Z1))) (λ_=>some true) R0) a))) (some []))) a)) (Zf (CI 4 ((Zr ((Zb (Zj (A8 a 5)) (Zb (Zj (A8 a 6)) (some []))).bind Zt)).map D.tup) a) (λa=>.next a)) (.next a)) (λa=>.next a))
def Xt:VE->An:=(λa=>Zw 3 (ZF ((ZM 1 [0,2] (λa=>((Zb (Zj ((ZA B9 (λa=>Zb (Ao a 0) (some []))) a)) (some [])).bind Zt).bind Eu) (Zk 0) (λ_=>some true) RZ) a)) a)
def Xu:VE->An:=(λa=>CN 4 (Zr ((some []).bind Zt)) a)
def Xv:VE->An:=(ZT (λa=>(A6 a 1).bind Zy) (ZZ 2 (Zv (Zk 5) (Zv (Zk 6) Z1))) L5)
def Xw:VE->An:=(λa=>Cf (BX a 4))
def ml:VE->An:=λa=>.next a
def Xx:VE->An:=λa=>Zf (Xw a) ml
def Xy:VE->An:=λa=>Zf (Xv a) Xx
def Xz:VE->An:=λa=>Zf (Xu a) Xy
def R5:VE->An:=λa=>Zf (Xt a) Xz
def XA:VE->An:=R5
def R6:List Sl->Option Rv:=Bm 3 7 XA
def R7:VE->Option D:=(Zo NJ (λa=>Zb (Ao a 1) (Zb (Ao a 0) (Zb (Zj ((Zd Au (λa=>Ai a 2) (λa=>Ai a 3)) a)) (some [])))))
def Ol:VE->An:=(λa=>Zf (Zw 10 ((Zo Km (λa=>Zb (Ao a 0) (Zb (Ao a 3) (Zb (Ao a 8) (some []))))) a) a) (λa=>Zf (Zw 11 (ZF ((ZM 1 [9,2,8] (λa=>(A6 a 10).bind Zy) (Zk 0) (λ_=>some true) R7) a)) a) (λa=>Zf (Zw 7 (EQ (Dv (AS (A8 a 7)) (AS ((Zd (C2 false) (Zd Au (λa=>Ai a 5) (λa=>Ai a 8)) (λa=>Ai a 11)) a)))) a) (λa=>.next a))))
def L6:VE->An:=(λa=>Zf (Zw 7 (some (.bl true)) a) (λa=>Zf ((ZT (Df (λa=>A6 a 0)) (ZZ 2 (Zv (Zk 8) (Zv (Zk 9) Z1))) Ol) a) (λa=>Zf (Zw 4 ((Zd ZJ (λa=>Ai a 4) (ZA JX (λa=>Zb (Ao a 7) (some [])))) a) a) (λa=>.next a))))
def Om:VE->An:=(λa=>Zf (Zw 4 (some (.int (0))) a) (λa=>Zf ((ZT (λa=>(A6 a 1).bind Zy) (ZZ 2 (Zv (Zk 5) (Zv (Zk 6) Z1))) L6) a) (λa=>Zf (ZH (A8 a 4)) (λa=>.next a))))
def R8:List Sl->Option Rv:=Bm 4 12 Om
def R9:VE->Option D:=(Zo NS (λa=>Zb (Ao a 0) (some [])))
def Sa:VE->An:=(λa=>Zf (ZH ((ZA De (λa=>Zb (Zj (ZF ((ZM 1 [] (λa=>(A6 a 0).bind Zy) (Zk 0) (λ_=>some true) R9) a))) (some []))) a)) (λa=>.next a))
def L7:List Sl->Option Rv:=Bm 1 1 Sa
def IW:VE->An:=(λa=>Zf (Ng 7 ((Kg 5 (Zo F6 (λa=>Zb (Ao a 6) (Zb (Ao a 1) (some [])))) (Zd Au (λa=>Ai a 6) (λ_=>some (.int (0))))) a)) (λa=>Zf (ZI (AS ((Zd Ew (Zd D0 (λa=>Ai a 4) (λa=>Ai a 7)) (Zd D0 (λa=>Ai a 4) (Zd Au (λa=>Ai a 6) (λ_=>some (.int (0)))))) a)) (Zf (ZH ((Zr ((Zb (Zj (A8 a 7)) (Zb (Zj ((Zd Au (λa=>Ai a 6) (λ_=>some (.int (0)))) a)) (some []))).bind Zt)).map D.tup)) (λa=>.next a)) (.next a)) (λa=>.next a)))
def Sb:VE->An:=(λa=>Zw 4 ((Zo Rw (λa=>Zb (Ao a 0) (Zb (Ao a 2) (Zb (Ao a 3) (some []))))) a) a)
def Sc:VE->An:=(λa=>ES 5 (some []) a)
def Sd:VE->An:=(ZT (λa=>(A6 a 0).bind Zy) (Zk 6) IW)
def XC:VE->An:=(λa=>ZH (some .non))
def mm:VE->An:=λa=>.next a
def XD:VE->An:=λa=>Zf (XC a) mm
def Se:VE->An:=λa=>Zf (Sd a) XD
def Sf:VE->An:=λa=>Zf (Sc a) Se
def On:VE->An:=λa=>Zf (Sb a) Sf
def XF:VE->An:=On
def L8:List Sl->Option Rv:=Bm 4 8 XF
def IY:VE->An:=(λa=>Zf (CI 4 ((Zd Au (λa=>ZF (Zr ((Zb (Zj ((Zd ZJ (λ_=>some (.int (1))) (Zd Z6 (Zd Au (λa=>Ai a 3) (λa=>Ai a 5)) (λ_=>some (.int (6))))) a)) (Zb (Zj ((Zd ZJ (λ_=>some (.int (2))) (Zd Z6 (Zd Au (λa=>Ai a 3) (λa=>Ai a 5)) (λ_=>some (.int (3))))) a)) (Zb (Zj (some (.int (47)))) (Zb (Zj (some (.int (3)))) (some []))))).bind Zt))) (Zd Z6 (Zd DU (Zd Au (λa=>Ai a 3) (λa=>Ai a 5)) (λ_=>some (.int (64)))) (λ_=>some (.int (4))))) a) a) (λa=>.next a))
def Kp:VE->An:=(λa=>Zf (ZI (AS ((Zd JP (λa=>Ai a 5) (λ_=>some (.int (0)))) a)) (Zf (Zw 8 ((Zd Z6 (Zd ZJ (Zd FJ (λa=>Ai a 8) (Zd ZJ (λ_=>some (.int (1))) (Zd Z6 (Zd Au (λa=>Ai a 3) (Zd ZJ (λ_=>some (.int (4))) (λa=>Ai a 5))) (λ_=>some (.int (5)))))) (Zd Au (λa=>Ai a 3) (Zd ZJ (λ_=>some (.int (8))) (λa=>Ai a 5)))) (Zd Au (λa=>Ai a 4) (λa=>Ai a 5))) a) a) (λa=>.next a)) (.next a)) (λa=>Zf (Zw 10 ((Zd ZJ (λa=>Ai a 0) (Zd FJ (Zd FJ (λa=>Ai a 5) (Zd Z6 (Zd Au (λa=>Ai a 3) (λ_=>some (.int (16)))) (λ_=>some (.int (2))))) (λ_=>some (.int (1000003))))) a) a) (λa=>Zf (CI 9 ((Zo Fu (λa=>Zb (Zj ((Zd Z6 (Zd Au (λa=>Ai a 3) (Zd ZJ (λ_=>some (.int (12))) (λa=>Ai a 5))) (λ_=>some (.int (4)))) a)) (Zb (Ao a 10) (Zb (Ao a 8) (some []))))) a) a) (λa=>.next a))))
def Oo:VE->An:=(λa=>Zf (Zw 8 ((Zd Z6 (Zd ZJ (Zd FJ (λa=>Ai a 7) (Zd ZJ (λ_=>some (.int (1))) (Zd Z6 (Zd Au (λa=>Ai a 3) (λ_=>some (.int (0)))) (λ_=>some (.int (46)))))) (Zd Au (λa=>Ai a 3) (λ_=>some (.int (4))))) (λ_=>some (.int (47)))) a) a) (λa=>Zf (CN 9 (Zr ((some []).bind Zt)) a) (λa=>Zf ((ZT (λa=>((Zb (Zj (A8 a 2)) (some [])).bind Zt).bind Eu) (Zk 5) Kp) a) (λa=>Zf (CI 6 ((ZA De (λa=>Zb (Ao a 9) (some []))) a) a) (λa=>.next a)))))
def XG:VE->An:=(λa=>Zw 3 ((Zo IS (λa=>Zb (Ao a 0) (Zb (Ao a 2) (some [])))) a) a)
def XH:VE->An:=(λa=>CN 4 (Zr ((Zb (Zj (some (.int (47)))) (some [])).bind Zt)) a)
def XI:VE->An:=(ZT (λa=>((Zb (Zj (some (.int (1)))) (Zb (Zj (some (.int (4)))) (some []))).bind Zt).bind JM) (Zk 5) IY)
def XJ:VE->An:=(λa=>CN 6 (Zr ((some []).bind Zt)) a)
def XM:VE->An:=(ZT (λa=>((Zb (Zj (A8 a 1)) (some [])).bind Zt).bind Eu) (Zk 7) Oo)
def XN:VE->An:=(λa=>Cf (BX a 6))
def mo:VE->An:=λa=>.next a
def XO:VE->An:=λa=>Zf (XN a) mo
def XP:VE->An:=λa=>Zf (XM a) XO
def XQ:VE->An:=λa=>Zf (XJ a) XP
def XR:VE->An:=λa=>Zf (XI a) XQ
def XU:VE->An:=λa=>Zf (XH a) XR
def Sg:VE->An:=λa=>Zf (XG a) XU
def XV:VE->An:=Sg
def L9:List Sl->Option Rv:=Bm 3 11 XV
def Sh:VE->Option D:=(Zd ZJ (Zd DU (λa=>Ai a 1) (λ_=>some (.int (6)))) (Zd FJ (λ_=>some (.int (7))) (λa=>Ai a 0)))
def Op:VE->Option D:=(Zo RQ (λa=>Zb (Ao a 1) (Zb (Ao a 0) (Zb (Ao a 2) (some [])))))
def Oq:VE->An:=(λa=>Zf (Zw 2 ((Zo ZU (λa=>Zb (Ao a 0) (Zb (Zj (some (.int (5)))) (some [])))) a) a) (λa=>Zf (Zw 3 ((Zd ZJ (CB (λa=>Ai a 0) (λa=>Cw (some (.int (11)))) (λa=>Cw (some (.int (51)))) G6) (λa=>ZF ((ZM 1 [2] (λa=>((Zb (Zj ((Zd Z6 (λa=>Ai a 2) (λ_=>some (.int (6)))) a)) (some [])).bind Zt).bind Eu) (Zk 0) (λ_=>some true) Sh) a))) a) a) (λa=>Zf (Cf ((ZM 2 [1] (Df (λa=>A6 a 3)) (ZZ 2 (Zv (Zk 0) (Zv (Zk 1) Z1))) (λ_=>some true) Op) a)) (λa=>.next a))))
def Si:List Sl->Option Rv:=Bm 2 4 Oq
def Ot:VE->An:=(λa=>Zf (Zw 4 ((Zo IS (λa=>Zb (Zj ((Zo ZU (λa=>Zb (Ao a 0) (Zb (Zj ((Zd ZJ (λ_=>some (.int (1))) (λa=>Ai a 3)) a)) (some [])))) a)) (Zb (Ao a 3) (some [])))) a) a) (λa=>Zf (CI 2 ((Zo L9 (λa=>Zb (Zj ((Zo ZU (λa=>Zb (Ao a 0) (Zb (Zj ((Zd ZJ (λ_=>some (.int (1))) (λa=>Ai a 3)) a)) (some [])))) a)) (Zb (Zj ((Zd ZJ (λ_=>some (.int (1))) (Zd Z6 (Zd Au (λa=>Ai a 4) (λ_=>some (.int (20)))) (λ_=>some (.int (8))))) a)) (Zb (Zj ((Zd ZJ (λ_=>some (.int (1))) (Zd Z6 (Zd Au (λa=>Ai a 4) (λ_=>some (.int (21)))) (λ_=>some (.int (4))))) a)) (some []))))) a) a) (λa=>.next a)))
def XW:VE->An:=(λa=>Zw 1 ((Zo ZU (λa=>Zb (Ao a 0) (Zb (Zj (some (.int (0)))) (some [])))) a) a)
def XY:VE->An:=(λa=>CN 2 (Zr ((some []).bind Zt)) a)
def XZ:VE->An:=(ZT (λa=>((Zb (Zj ((Zd ZJ (Zd ZJ (λ_=>some (.int (1))) (Zd Z6 (λa=>Ai a 1) (λ_=>some (.int (3))))) (ZA JX (λa=>Zb (Zj ((Zd C9 (Zd Z6 (λa=>Ai a 1) (λ_=>some (.int (12)))) (λ_=>some (.int (5)))) a)) (some [])))) a)) (some [])).bind Zt).bind Eu) (Zk 3) Ot)
def X0:VE->An:=(λa=>Cf (BX a 2))
def mq:VE->An:=λa=>.next a
def X1:VE->An:=λa=>Zf (X0 a) mq
def X2:VE->An:=λa=>Zf (XZ a) X1
def X3:VE->An:=λa=>Zf (XY a) X2
def X4:VE->An:=λa=>Zf (XW a) X3
def Ou:VE->An:=X4
def Sj:List Sl->Option Rv:=Bm 1 5 Ou
def Ma:VE->An:=(λa=>Zf (Zw 6 ((Zo RS (λa=>Zb (Ao a 0) (Zb (Ao a 4) (Zb (Ao a 2) (some []))))) a) a) (λa=>Zf (HN 3 (Ai a 6) ((Zd ZJ (Nu 3 (λa=>Ai a 6) (λa=>ZF (Zr ((some []).bind Zt)))) (λa=>ZF (Zr ((Zb (Zj (A8 a 5)) (some [])).bind Zt)))) a) a) (λa=>.next a)))
def Sk:VE->Option D:=(λa=>(Zr ((Zb (Zj (A8 a 0)) (Zb (Zj ((Zo NK (λa=>Zb (Zj ((Zd D0 (λa=>Ai a 1) (λa=>Ai a 0)) a)) (some []))) a)) (some []))).bind Zt)).map D.tup)
def Ov:VE->An:=(λa=>Zf (ES 3 (some []) a) (λa=>Zf ((ZT (λa=>(A6 a 1).bind Zy) (ZZ 2 (Zv (Zk 4) (Zv (Zk 5) Z1))) Ma) a) (λa=>Zf (Cf ((ZM 1 [3] (λa=>(ZF ((Ny Od (λa=>Ai a 3)) a)).bind Zy) (Zk 0) (λ_=>some true) Sk) a)) (λa=>.next a))))
def Ow:List Sl->Option Rv:=Bm 3 7 Ov
def HX:VE->An:=(λa=>Zf (ZI (FE (CM (B5 (Ai a 1))) (AS ((Zd Ew (Zd Au (λa=>Ai a 1) (λa=>Li (some (.int (1))))) (λa=>Ai a 2)) a))) (Zf (CI 1 (A8 a 2) a) (λa=>.next a)) (.next a)) (λa=>.next a))
def Ox:VE->An:=(λa=>Zf (CN 1 (Zr ((some []).bind Zt)) a) (λa=>Zf ((ZT (λa=>(ZF ((Nm L7 (λa=>Ai a 0)) a)).bind Zy) (Zk 2) HX) a) (λa=>Zf (Cf (BX a 1)) (λa=>.next a))))
def Oy:List Sl->Option Rv:=Bm 1 3 Ox
def Sn:VE->Option D:=(λa=>(Zr ((Zb (Zj (A8 a 0)) (some [])).bind Zt)).map D.tup)
def So:VE->Option D:=(Zd Au (λa=>Ai a 0) (λ_=>some (.int (0))))
def Oz:VE->An:=(λa=>Zf (Cf ((ZM 1 [] (λa=>((Zo Oy (λa=>Zb (Zj (ZF ((ZM 1 [] (λa=>(A6 a 0).bind Zy) (Zk 0) (λ_=>some true) Sn) a))) (some []))) a).bind Zy) (Zk 0) (λ_=>some true) So) a)) (λa=>.next a))
def Sq:List Sl->Option Rv:=Bm 1 1 Oz
def Mb:VE->Option D:=(Zd D0 (λa=>Ai a 0) (λa=>Ai a 1))
def IZ:VE->An:=(λa=>Zf (ZI (B5 ((Zo LW (λa=>Zb (Ao a 0) (Zb (Ao a 3) (some [])))) a)) (Zf (Zw 5 ((ZA De (λa=>Zb (Zj (ZF ((ZM 2 [] (Hb (λa=>A6 a 0) (λa=>A6 a 3)) (ZZ 2 (Zv (Zk 0) (Zv (Zk 1) Z1))) (λ_=>some true) Mb) a))) (some []))) a) a) (λa=>Zf (HN 2 (Ai a 5) (K9 (AS ((Zd (EE false) (λa=>Ai a 5) (λa=>Ai a 2)) a)) ((Zo LV (λa=>Zb (Zj ((Zd D0 (λa=>Ai a 2) (λa=>Ai a 5)) a)) (Zb (Ao a 4) (some [])))) a) (A8 a 4)) a) (λa=>.next a))) (.next a)) (λa=>.next a))
def Sr:VE->Option D:=(λa=>(Zr ((Zb (Zj (A8 a 0)) (Zb (Zj ((Zd D0 (λa=>Ai a 1) (λa=>Ai a 0)) a)) (some []))).bind Zt)).map D.tup)
def OA:VE->An:=(λa=>Zf (ES 2 (some []) a) (λa=>Zf ((ZT (λa=>(A6 a 1).bind Zy) (ZZ 2 (Zv (Zk 3) (Zv (Zk 4) Z1))) IZ) a) (λa=>Zf (Cf ((ZM 1 [2] (λa=>((Zo Oy (λa=>Zb (Zj (ZF ((CA LS (λa=>Zb (Ao a 2) (some []))) a))) (some []))) a).bind Zy) (Zk 0) (λ_=>some true) Sr) a)) (λa=>.next a))))
def Ss:List Sl->Option Rv:=Bm 2 6 OA
def Su:VE->Option D:=(λa=>(Zr ((Zb (Zj (A8 a 0)) (Zb (Zj (some (.bl true))) (some []))).bind Zt)).map D.tup)
def Sv:VE->Option Bool:=(λa=>AS ((Zd (EE false) (Zo F6 (λa=>Zb (Ao a 0) (Zb (Zj ((Zd Au (λa=>Ai a 1) (λ_=>some (.int (1)))) a)) (some [])))) (λa=>Ai a 2)) a))
def X5:VE->Option D:=(λa=>A8 a 0)
def Kq:VE->An:=(λa=>Zf (ZI (AS ((Zd C9 (Zd Au (λa=>Ai a 4) (λ_=>some (.int (0)))) (λa=>Ai a 2)) a)) (Zf (ES 5 ((HU (λa=>ZF ((ZM 1 [] (λa=>((Zd Au (λa=>Ai a 4) (λ_=>some (.int (2)))) a).bind Zy) (Zk 0) (λ_=>some true) Su) a))) a) a) (λa=>Zf (Zw 3 (ZF ((ZM 1 [4,5] (λa=>(A6 a 3).bind Zy) (Zk 0) Sv X5) a)) a) (λa=>.next a))) (.next a)) (λa=>.next a))
def Sw:VE->Option D:=(Zd Au (λa=>Ai a 0) (λ_=>some (.int (0))))
def OB:VE->An:=(λa=>Zf (Zw 3 ((Zd Au (λa=>Ai a 0) (λa=>Ai a 2)) a) a) (λa=>Zf ((ZT (λa=>(A6 a 1).bind Zy) (Zk 4) Kq) a) (λa=>Zf (Cf ((Gs Sq (λa=>Zb (Zj (ZF ((ZM 1 [] (λa=>(A6 a 3).bind Zy) (Zk 0) (λ_=>some true) Sw) a))) (some []))) a)) (λa=>.next a))))
def Sx:List Sl->Option Rv:=Bm 3 6 OB
def Mc:VE->Option D:=(Zo Sx (λa=>Zb (Ao a 1) (Zb (Ao a 2) (Zb (Ao a 0) (some [])))))
def Kr:VE->An:=(λa=>Zf (Cf ((ZM 1 [0,1] (λa=>((Zb (Zj ((ZA B9 (λa=>Zb (Ao a 0) (some []))) a)) (some [])).bind Zt).bind Eu) (Zk 0) (λ_=>some true) Mc) a)) (λa=>.next a))
def Md:List Sl->Option Rv:=Bm 2 2 Kr
def I0:VE->An:=(λa=>Zf (Zw 7 ((Zo L8 (λa=>Zb (Ao a 6) (Zb (Zj ((Zd Au (λa=>Ai a 1) (λa=>Ai a 5)) a)) (Zb (Zj ((Zd Au (λa=>Ai a 2) (λa=>Ai a 5)) a)) (Zb (Zj ((Zd Au (λa=>Ai a 4) (λa=>Ai a 5)) a)) (some [])))))) a) a) (λa=>Zf (ZI (CM (Gr (Ai a 7))) (Zf (ZH ((Zr ((Zb (Zj (A8 a 5)) (Zb (Zj ((Zd Au (λa=>Ai a 7) (λ_=>some (.int (0)))) a)) (Zb (Zj ((Zd Au (λa=>Ai a 7) (λ_=>some (.int (1)))) a)) (some [])))).bind Zt)).map D.tup)) (λa=>.next a)) (.next a)) (λa=>.next a)))
def OC:VE->An:=(λa=>Zw 4 ((Zo Md (λa=>Zb (Ao a 0) (Zb (Ao a 3) (some [])))) a) a)
def OE:VE->An:=(λa=>ZI (AS ((Zd (C2 false) (λa=>ZF (Zr ((some []).bind Zt))) (λa=>Ai a 4)) a)) (Zf (ZH (some .non)) (λa=>.next a)) (.next a))
def Sy:VE->An:=(ZT (Df (λa=>A6 a 0)) (ZZ 2 (Zv (Zk 5) (Zv (Zk 6) Z1))) I0)
def X6:VE->An:=(λa=>ZH (some .non))
def mr:VE->An:=λa=>.next a
def X7:VE->An:=λa=>Zf (X6 a) mr
def Sz:VE->An:=λa=>Zf (Sy a) X7
def OF:VE->An:=λa=>Zf (OE a) Sz
def Me:VE->An:=λa=>Zf (OC a) OF
def X8:VE->An:=Me
def GJ:List Sl->Option Rv:=Bm 4 8 X8
def SD:VE->Option D:=(Zo Rx (λa=>Zb (Ao a 1) (Zb (Zj ((Zd Au (λa=>Ai a 2) (λa=>Ai a 0)) a)) (Zb (Zj ((Zd Au (λa=>Ai a 3) (λa=>Ai a 0)) a)) (Zb (Zj ((Zd Au (λa=>Ai a 4) (λa=>Ai a 0)) a)) (some []))))))
def OG:VE->An:=(λa=>Zf (Zw 4 ((Zo Md (λa=>Zb (Ao a 0) (Zb (Ao a 3) (some [])))) a) a) (λa=>Zf (Cf ((ZM 2 [1,2,4] (Df (λa=>A6 a 0)) (ZZ 2 (Zv (Zk 0) (Zv (Zk 1) Z1))) (λ_=>some true) SD) a)) (λa=>.next a)))
def OH:List Sl->Option Rv:=Bm 4 5 OG
def OI:VE->An:=(λa=>Zf (ZI (CM (Gr ((Zo GJ (λa=>Zb (Ao a 0) (Zb (Ao a 2) (Zb (Ao a 3) (Zb (Ao a 4) (some [])))))) a))) (Zf (.fail) (λa=>.next a)) (.next a)) (λa=>Zf (Cf ((Gs Ss (λa=>Zb (Zj ((Zo OH (λa=>Zb (Ao a 0) (Zb (Ao a 2) (Zb (Ao a 3) (Zb (Ao a 4) (some [])))))) a)) (Zb (Ao a 1) (some [])))) a)) (λa=>.next a)))
def OJ:List Sl->Option Rv:=Bm 5 5 OI
def OL:VE->Option Ae:=(λa=>QX (CM (Gr ((Zo GJ (λa=>Zb (Ao a 0) (Zb (Ao a 2) (Zb (Ao a 3) (Zb (Ao a 4) (some [])))))) a))) (QZ (Zb (Zj (some (.str "the table does not answer the question"))) (some [])) "NoGrain") (none))
def SE:List Sl->Option Ae:=fnX 5 5 OL
def SF:VE->Option Bool:=(λa=>B5 ((Zo LW (λa=>Zb (Ao a 2) (Zb (Ao a 0) (some [])))) a))
def SH:VE->Option D:=(λa=>(Zr ((Zb (Zj (A8 a 0)) (Zb (Zj (A8 a 1)) (some []))).bind Zt)).map D.tup)
def OM:VE->An:=(λa=>Zf (Zw 4 ((Zo OH (λa=>Zb (Ao a 0) (Zb (Ao a 2) (Zb (Zj ((Zo Rt (λa=>Zb (Ao a 0) (some []))) a)) (Zb (Ao a 3) (some [])))))) a) a) (λa=>Zf (Cf ((ZM 2 [4] (λa=>(A6 a 1).bind Zy) (ZZ 2 (Zv (Zk 0) (Zv (Zk 1) Z1))) SF SH) a)) (λa=>.next a)))
def SI:List Sl->Option Rv:=Bm 4 5 OM
def ON:VE->An:=(λa=>Zf (ZH ((ZA B9 (λa=>Zb (Zj ((Zo SI (λa=>Zb (Ao a 0) (Zb (Ao a 1) (Zb (Ao a 2) (Zb (Ao a 3) (some [])))))) a)) (some []))) a)) (λa=>.next a))
def SJ:List Sl->Option Rv:=Bm 4 4 ON
def SK:VE->An:=(λa=>Zf (ZH (EQ (Dv (AS ((Ki 5 CS (EX "NoGrain")) a)) (Dv (AS ((Ki 5 CS (EX "ValueError")) a)) (AS (EQ (CM (AS ((Ki 5 CS (EX "NoPick")) a))))))))) (λa=>.next a))
def OO:VE->An:=(λa=>Zf (Nr CS 5 ((Zb (Ao a 0) (Zb (Ao a 1) (Zb (Ao a 2) (Zb (Ao a 3) (Zb (Ao a 4) (some [])))))).bind SE) (WY ((Zo OJ (λa=>Zb (Ao a 0) (Zb (Ao a 1) (Zb (Ao a 2) (Zb (Ao a 3) (Zb (Ao a 4) (some []))))))) a) a) SK a) (λa=>Zf (ZH (some (.bl false))) (λa=>.next a)))
def SN:List Sl->Option Rv:=Bm 5 6 OO
def OP:VE->Option D:=(ZA Nz (λa=>Zb (Ao a 0) (some [])))
def X9:VE->An:=(λa=>Zw 1 ((Zo Sj (λa=>Zb (Ao a 0) (some []))) a) a)
def Ya:VE->An:=(λa=>Zw 2 ((Zo Si (λa=>Zb (Ao a 0) (Zb (Ao a 1) (some [])))) a) a)
def Yb:VE->An:=(λa=>Zw 3 ((Zo NN (λa=>Zb (Zj ((Zo ZU (λa=>Zb (Ao a 0) (Zb (Zj (some (.int (4)))) (some [])))) a)) (Zb (Ao a 1) (some [])))) a) a)
def Yc:VE->An:=(λa=>Zw 4 ((Zo NN (λa=>Zb (Zj ((Zo ZU (λa=>Zb (Ao a 0) (Zb (Zj (some (.int (6)))) (some [])))) a)) (Zb (Ao a 1) (some [])))) a) a)
def OQ:VE->An:=(λa=>ZI (AS ((Zd JP (Zd Z6 (Zd DU (Zo ZU (λa=>Zb (Ao a 0) (Zb (Zj (some (.int (6)))) (some [])))) (λ_=>some (.int (125)))) (λ_=>some (.int (4)))) (λ_=>some (.int (0)))) a)) (Zf (Zw 3 ((ZA De (λa=>Zb (Zj (ZF ((ZM 1 [] (Hb (λa=>A6 a 3) (λa=>A6 a 4)) (Zk 0) (λ_=>some true) OP) a))) (some []))) a) a) (λa=>.next a)) (.next a))
def Yd:VE->An:=(λa=>Zw 5 ((Zo RV (λa=>Zb (Zj ((CB (λa=>Ai a 0) (λa=>Cw (some (.int (7)))) (λa=>Cw ((Zd ZJ (λ_=>some (.int (7))) (Zd Z6 (Zo ZU (λa=>Zb (Ao a 0) (Zb (Zj (some (.int (10)))) (some [])))) (λ_=>some (.int (4))))) a)) G6) a)) (Zb (Ao a 1) (some [])))) a) a)
def Ye:VE->An:=(λa=>Zw 6 ((Zo Ow (λa=>Zb (Ao a 1) (Zb (Ao a 2) (Zb (Ao a 3) (some []))))) a) a)
def Yf:VE->An:=(λa=>Zw 7 (ZF (Zr ((Zb (Zj (ZF ((CA Lo (λa=>Zb (Ao a 6) (some []))) a))) (Zb (Zj (ZF ((CA Lo (λa=>Zb (Ao a 5) (some []))) a))) (some []))).bind Zt))) a)
def SO:VE->An:=(λa=>ZI (B5 ((Zo Oj (λa=>Zb (Ao a 1) (Zb (Ao a 3) (Zb (Ao a 4) (Zb (Ao a 5) (some [])))))) a)) (Zf (ZH ((Zo SN (λa=>Zb (Ao a 1) (Zb (Zj ((Zd Au (λa=>Ai a 7) (λ_=>some (.int (0)))) a)) (Zb (Ao a 3) (Zb (Ao a 4) (Zb (Zj ((Zd Au (λa=>Ai a 7) (λ_=>some (.int (1)))) a)) (some []))))))) a)) (λa=>.next a)) (.next a))
def Yg:VE->An:=(λa=>CN 8 ((Gs OJ (λa=>Zb (Ao a 1) (Zb (Zj ((Zd Au (λa=>Ai a 7) (λ_=>some (.int (0)))) a)) (Zb (Ao a 3) (Zb (Ao a 4) (Zb (Zj ((Zd Au (λa=>Ai a 7) (λ_=>some (.int (1)))) a)) (some []))))))) a) a)
def Yh:VE->An:=(λa=>Zw 9 ((Zo R6 (λa=>Zb (Ao a 1) (Zb (Ao a 2) (Zb (Ao a 5) (some []))))) a) a)
def Yi:VE->An:=(λa=>ZI (FE (CM (B5 ((Zo Rp (λa=>Zb (Ao a 8) (some []))) a))) (AS ((Zd Ew (λa=>Ai a 8) (Zo Ow (λa=>Zb (Ao a 1) (Zb (Ao a 9) (Zb (Ao a 4) (some [])))))) a))) (Zf (ZH (some (.bl false))) (λa=>.next a)) (.next a))
def Yj:VE->An:=(λa=>LO 8 a)
def Yk:VE->An:=(λa=>Zw 10 ((Zo SJ (λa=>Zb (Ao a 1) (Zb (Zj ((Zd Au (λa=>Ai a 7) (λ_=>some (.int (0)))) a)) (Zb (Ao a 3) (Zb (Zj ((Zd Au (λa=>Ai a 7) (λ_=>some (.int (1)))) a)) (some [])))))) a) a)
def Yl:VE->An:=(λa=>ZI (FE (CM (B5 ((Zo NR (λa=>Zb (Ao a 10) (some []))) a))) (AS ((Zd Ew (λa=>Ai a 7) (λa=>ZF (Zr ((Zb (Zj (A8 a 6)) (Zb (Zj (A8 a 5)) (some []))).bind Zt)))) a))) (Zf (ZH (some (.bl false))) (λa=>.next a)) (.next a))
def Ym:VE->An:=(λa=>ZH ((Zd C9 (λa=>Ai a 10) (Zo R8 (λa=>Zb (Ao a 1) (Zb (Ao a 6) (Zb (Ao a 3) (Zb (Ao a 5) (some []))))))) a))
def ms:VE->An:=λa=>.next a
def Yn:VE->An:=λa=>Zf (Ym a) ms
def Yo:VE->An:=λa=>Zf (Yl a) Yn
def Yp:VE->An:=λa=>Zf (Yk a) Yo
def Yq:VE->An:=λa=>Zf (Yj a) Yp
def Yr:VE->An:=λa=>Zf (Yi a) Yq
def Ys:VE->An:=λa=>Zf (Yh a) Yr
def Yt:VE->An:=λa=>Zf (Yg a) Ys
def OR:VE->An:=λa=>Zf (SO a) Yt
def Yu:VE->An:=λa=>Zf (Yf a) OR
def Yv:VE->An:=λa=>Zf (Ye a) Yu
def Yw:VE->An:=λa=>Zf (Yd a) Yv
def Yx:VE->An:=λa=>Zf (OQ a) Yw
def Yy:VE->An:=λa=>Zf (Yc a) Yx
def Yz:VE->An:=λa=>Zf (Yb a) Yy
def YA:VE->An:=λa=>Zf (Ya a) Yz
def OS:VE->An:=λa=>Zf (X9 a) YA
def YB:VE->An:=OS
def YC:List Sl->Option Rv:=Bm 1 11 YB
def Ah(l:List At):D:=.tup (l.map aD)
theorem OT:∀(a b:At),AB (aD a) (aD b)=decide (a=b):=by
 intro a b
 cases a<;>cases b<;>simp[aD]
theorem YD:∀(a b:List At),Cy (a.map aD) (b.map aD)=decide (a=b)
 |[],[]=>by simp
 |[],_::_=>by simp
 |_::_,[]=>by simp
 |x::a,y::b=>by
  have c:=YD a b
  rw[HY]
  simp[OT,c]
theorem Ks(n:Nat)(a:At):A5 n (aD a)=true:=by cases a<;>cases n<;>rfl
theorem OU(n:Nat)(l:List At):A5 (n+1) (Ah l)=true:=by
 show(l.map aD).all (A5 n)=true
 rw[HF,Ev]
 exact λa _=>Ks n a
theorem YE(a b:List At):Ew (Ah a) (Ah b)=some (.bl (!decide (a=b))):=by
 have c:=OU 11 a
 have d:=OU 11 b
 have e:AB (Ah a) (Ah b)=decide (a=b):=by simp only[Ah,AB,YD]
 simp only[Ew,Kj,c,d,e,EY,if_true]
theorem Kt(s:Sl)(a:List Int)(c:s=.val (.lst (a.map D.int))\/s=.lent (a.map D.int))(k:Int)(d:0<=k):ZU [s,.val (.int k)]=some (.val (.int (a.getD k.toNat 0))):=by
 by_cases h:k<a.length
 ·have b:k.toNat<a.length:=by omega
  rcases c with rfl|rfl<;>simp[ZU,Bm,NF,h,atI,DR,d,b]
 ·have b:a.length<=k.toNat:=by omega
  rcases c with rfl|rfl<;>simp[ZU,Bm,NF,h,b]
def AV:Ae:="abcdefghijklmnopqrstuvwxyz"
def E9:Ae:="0123456789"
def signs:Ae:="abcdefghijklmnopqrstuvwxyz0123456789"
theorem YF:signs.length=36:=by decide +kernel
theorem YG:signs.cps.toList=AV.cps.toList++E9.cps.toList:=by decide +kernel
def SQ:D->Bool
 |.int _=>true
 |_=>false
def EZ(c:Nat):Bool:=decide (c∈AV.cps.toList)||decide (c∈E9.cps.toList)
def SR:List Nat->Bool
 |[]=>false
 |c::r=>decide (c∈AV.cps.toList)&&(c::r).all EZ&&decide ((c::r).length<=12)
def F7:D->Bool
 |.str z=>SR z.cps.toList
 |_=>false
theorem mu(c:Nat):EZ c=decide (c∈signs.cps.toList):=by
 unfold EZ
 rw[YG,HY]
 simp[List.mem_append]
def Sm:D->Prop
 |.str z=>z.length<=100
 |.ty _=>False
 |.lst _ true=>False
 |_=>True
def SS(d:D):Bool:=SQ d||F7 d
theorem YH(x:Ae)(l u:Option Int):C8 x l u=StrLaws.sliceText x l u:=rfl
theorem mv(x:Ae)(j:Nat)(h:j<=x.cps.toList.length):(C8 x none (some (j:Int))).cps.toList=x.cps.toList.take j:=by
 rw[YH,StrLaws.sliceText_to ⟨by omega,by omega⟩]
 simp
theorem mw(x:Ae)(j:Nat)(h:j<=x.cps.toList.length):(C8 x (some (j:Int)) none).cps.toList=x.cps.toList.drop j:=by
 rw[YH,StrLaws.sliceText_from ⟨by omega,by omega⟩]
 simp only[List.toList_toArray]
 rw[JY]
 ·simp
 ·simp only[Js];omega
theorem Ja(x y:Ae):(x++y).cps.toList=x.cps.toList++y.cps.toList:=by
 show(x.cps++y.cps).toList=_
 simp
theorem OV(c:Nat):(⟨#[c]⟩:Ae).cps.toList=[c]:=rfl
theorem F2(x:Ae):x.length=x.cps.toList.length:=by simp[Str.length]
def zt(n k:Nat):List Nat:=(Txt.zfill (Dt (Fi (k:Int))) (n:Int)).cps.toList
theorem my:∀n∈[1,2,3,4],∀k∈A7 47,(zt n k).all EZ=true/\(zt n k).length<=4:=by decide +kernel
theorem mz:∀n∈[1,2,3,4],((A7 47).map (zt n)).Nodup:=by decide +kernel
theorem YI{b:Type}{f:Nat->b}{m:Nat}(h:((A7 m).map f).Nodup){j k:Nat}(c:j<m)(d:k<m)(e:f j=f k):j=k:=by
 rw[List.nodup_iff_pairwise_ne,List.pairwise_map]at h
 rcases Nat.lt_trichotomy j k with a|a|a
 ·exact absurd e (List.pairwise_iff_getElem.mp h j k (by simpa) (by simpa) a |> λz=>by simpa using z)
 ·exact a
 ·exact absurd e.symm (List.pairwise_iff_getElem.mp h k j (by simpa) (by simpa) a |> λz=>by simpa using z)
def Jb(i:Nat):Nat:=AV.cps.toList.getD i 0
theorem mB:∀i∈A7 26,Jb i∈AV.cps.toList:=by decide +kernel
theorem mC:((A7 26).map Jb).Nodup:=by decide +kernel
theorem YJ:AV.cps.toList.length=26:=by decide +kernel
theorem mD(i:Nat)(h:i<26):Au (.str "abcdefghijklmnopqrstuvwxyz") (.int (i:Int))=some (.str ⟨#[Jb i]⟩):=by
 have a:=YJ
 have b:AV.length<=AG:=by rw[F2,a];decide
 have e:atI AV.cps.toList (i:Int)=some (Jb i):=DJ (by rw[CH (by omega)];simp[Jb,Cq,CH (show i<AV.cps.toList.length by omega)])
 show(if AV.length<=AG then(atI AV.cps.toList (i:Int)).map (λc=>D.str ⟨#[c]⟩)else none)=_
 rw[if_pos b,e];rfl
def GW(W:List Nat):Prop:=(∃c r,W=c::r/\c∈AV.cps.toList)/\W.all EZ=true
theorem GW.word{W:List Nat}(h:GW W)(a:W.length<=12):SR W=true:=by
 obtain⟨⟨c,r,rfl,b⟩,d⟩:=h
 simp only[SR,b,decide_true,HZ,d,a]
theorem mE(i:Int)(k:Int)(a:0<k)(d:k<=36):∃c,Au (.str "abcdefghijklmnopqrstuvwxyz0123456789") (.int (i%k))=some (.str ⟨#[c]⟩)/\EZ c=true:=by
 have e:=YF
 obtain⟨c,h,b⟩:=ma (z:=signs) (i:=i%k) (by omega) (OW _ (by omega)) (by have:=SU i a;omega)
 exact⟨c,h,by rw[mu];simpa using b⟩
theorem mF(i:Int):∃c,Au (.str "abcdefghijklmnopqrstuvwxyz0123456789") (.int (i%26))=some (.str ⟨#[c]⟩)/\c∈AV.cps.toList:=by
 obtain⟨j,a,b⟩:∃j:Nat,i%26=(j:Int)/\j<26:=⟨(i%26).toNat,by omega,by omega⟩
 have f:=YJ
 have d:signs.length<=AG:=by rw[YF];decide
 have e:atI signs.cps.toList (j:Int)=some (AV.cps.toList[j]'(by omega)):=DJ (by rw[YG,Jq (by omega),CH (by omega)])
 refine⟨AV.cps.toList[j]'(by omega),?_,ET _⟩
 rw[a]
 show(if signs.length<=AG then(atI signs.cps.toList (j:Int)).map (λc=>D.str ⟨#[c]⟩)else none)=_
 rw[if_pos d,e];rfl
abbrev SG:Sl:=.val (.str "abcdefghijklmnopqrstuvwxyz0123456789")
theorem YK(c:Int)(g:Sl):∀(b:List Nat)(z:Ae)(d:Sl),(∀k∈b,k<1000)->z.length+b.length<=1000->∃f a ext,ZO (Zk 4) Rk (b.map λ(k:Nat)=>D.int (k:Int)) [.val (.int c),g,SG,.val (.str z),d]=.next [.val (.int c),g,SG,.val (.str f),a]/\f.cps.toList=z.cps.toList++ext/\ext.length=b.length/\ext.all EZ=true
 |[],z,d,_,_=>⟨z,d,[],rfl,by simp,rfl,rfl⟩
 |k::b,z,d,l,h=>by
  simp only[B8]at h
  have m:=l k BA
  obtain⟨x,n,i⟩:=mE (c/((k:Int)+3)) 36 (by decide) (by decide)
  have o:(⟨#[x]⟩:Ae).length=1:=by simp[Str.length]
  have p:=LU z ⟨#[x]⟩ (by rw[o];omega)
  have q:(z++⟨#[x]⟩).length=z.length+1:=by rw[F2,Ja,F2];simp
  obtain⟨f,a,ext,e,r,s,t⟩:=YK c g b (z++⟨#[x]⟩) (.val (.int (k:Int))) (λj u=>l j (Bt _ u)) (by rw[q];omega)
  have hd:Ds c ((k:Int)+3):=⟨by omega,by omega⟩
  refine⟨f,a,x::ext,?_,by rw[r,Ja];simp,by simp[s],by simp[i,t]⟩
  have a1:ZJ (.int (k:Int)) (.int 3)=some (.int ((k:Int)+3)):=rfl
  simp[ZO,Rk,-Au,-ZJ,a1,hd,n,p,e]
theorem YL(c:Int)(m:Nat)(o:m<=100):∃z,LX [.val (.int c),.val (.int (m:Int))]=some (.val (.str z))/\z.cps.toList.length=m+1/\GW z.cps.toList:=by
 obtain⟨x,f,a⟩:=mF c
 have g:=F5 m (by omega)
 obtain⟨h,i,ext,e,b,j,l⟩:=YK c (.val (.int (m:Int))) (A7 m) ⟨#[x]⟩ .no (λk n=>by have:=List.mem_range.mp n;omega) (by simp[Str.length];omega)
 have d:EZ x=true:=by simp[EZ,a]
 refine⟨h,?_,by rw[b,OV];simp[j],⟨x,ext,by rw[b];rfl,a⟩,by rw[b,OV];simp[d,l]⟩
 simp[LX,Bm,Rl,Xh,Xa,Xg,Xb,Xf,Xc,Xe,Xd,-Au,f,g,e]
structure Jc(f:Nat->At):Prop where
 val:∀k,k<47->SS (aD (f k))=true
 sm:∀k,k<47->Sm (aD (f k))
 inj:∀j k,j<47->k<47->f j=f k->j=k
theorem OX{z:Ae}(h:GW z.cps.toList)(a:z.cps.toList.length<=12):SS (aD (.str z))=true/\Sm (aD (.str z)):=by
 refine⟨?_,?_⟩
 ·show(SQ (.str z)||F7 (.str z))=true
  simp only[SQ,F7,h.word a,Bool.or_true]
 ·show z.length<=100
  rw[F2];omega
theorem GW.app{W V:List Nat}(h:GW W)(a:V.all EZ=true):GW (W++V):=by
 obtain⟨⟨c,r,rfl,b⟩,d⟩:=h
 exact⟨⟨c,r++V,rfl,b⟩,by rw[List.all_append,d,a];rfl⟩
theorem GW.mid{W V:List Nat}(h:GW W)(a:Nat)(g:V.all EZ=true)(i:∃c r,V=c::r/\c∈AV.cps.toList):GW (W.take a++V++W.drop a):=by
 obtain⟨⟨c,r,rfl,j⟩,e⟩:=h
 have d:(List.take a (c::r)++V++List.drop a (c::r)).all EZ=true:=by
  rw[Ev]at e g ⊢
  intro x b
  simp only[List.mem_append]at b
  rcases b with(b|b)|b
  ·exact e x (List.mem_of_mem_take b)
  ·exact g x b
  ·exact e x (List.mem_of_mem_drop b)
 refine⟨?_,d⟩
 cases a with
 |zero=>
  obtain⟨k,l,rfl,f⟩:=i
  exact⟨k,l++c::r,by simp,f⟩
 |succ a=>exact⟨c,List.take a r++V++List.drop a r,by simp,j⟩
theorem mG{W:List Nat}{a x y b c:Nat}(h:W.take a++[x,y]++W.drop a=W.take a++[b,c]++W.drop a):x=b/\y=c:=by
 rw[Hj,Hj]at h
 have h:=List.append_cancel_left h
 simp only[List.cons_append,Jd,Lx]at h
 exact⟨h.1,h.2.1⟩
theorem mH(a cell:Int)(w0:a=0):∃f,Jc f/\∀k:Nat,k<47->Fu [.val (.int a),.val (.int cell),.val (.int (k:Int))]=some (.val (aD (f k))):=by
 have d4:Ds cell 4:=by constructor<;>decide
 have d8:Ds cell 8:=by constructor<;>decide
 refine⟨λk=>.int (cell/4%10^30+k),⟨λk _=>rfl,λk _=>trivial,λj k _ _ e=>by injection e with e;omega⟩,λk b=>?_⟩
 simp[Fu,Bm,Ko,L1,LY,L0,LZ,d4,Go,w0,aD]
theorem mI(a cell:Int)(w1:a=1):∃f,Jc f/\∀k:Nat,k<47->Fu [.val (.int a),.val (.int cell),.val (.int (k:Int))]=some (.val (aD (f k))):=by
 have d4:Ds cell 4:=by constructor<;>decide
 have d8:Ds cell 8:=by constructor<;>decide
 refine⟨λk=>.int (0-cell/4%10^30-k),⟨λk _=>rfl,λk _=>trivial,λj k _ _ e=>by injection e with e;omega⟩,λk b=>?_⟩
 simp[Fu,Bm,Ko,L1,LY,L0,LZ,NZ,NY,d4,Go,w1,aD]
theorem mJ(d cell:Int)(w2:d=2):∃f,Jc f/\∀k:Nat,k<47->Fu [.val (.int d),.val (.int cell),.val (.int (k:Int))]=some (.val (aD (f k))):=by
 have d4:Ds cell 4:=by constructor<;>decide
 have d8:Ds cell 8:=by constructor<;>decide
 obtain⟨m,p,q⟩:∃m:Nat,cell%8=(m:Int)/\m<=7:=⟨(cell%8).toNat,by omega,by omega⟩
 obtain⟨w,r,g,i⟩:=YL (cell/4) m (by omega)
 obtain⟨n,t,b⟩:∃n:Nat,1+cell/8%4=(n:Int)/\n∈[1,2,3,4]:=by
  refine⟨(1+cell/8%4).toNat,by omega,?_⟩
  have:(1+cell/8%4).toNat=1\/(1+cell/8%4).toNat=2\/(1+cell/8%4).toNat=3\/(1+cell/8%4).toNat=4:=by omega
  simpa using this
 have u:n<=4:=by simp at b;omega
 have c:∀k,k<47->(zt n k).all EZ=true/\(zt n k).length<=4:=λk a=>my n b k (List.mem_range.mpr a)
 have h:∀k:Nat,(w++Txt.zfill (Dt (Fi (k:Int))) (n:Int)).cps.toList=w.cps.toList++zt n k:=λk=>Ja _ _
 have hok:∀k:Nat,k<47->GW (w++Txt.zfill (Dt (Fi (k:Int))) (n:Int)).cps.toList/\(w++Txt.zfill (Dt (Fi (k:Int))) (n:Int)).cps.toList.length<=12:=λk a=>by
  rw[h]
  exact⟨i.app (c k a).1,by rw[Fj,g];have:=(c k a).2;omega⟩
 refine⟨λk=>.str (w++Txt.zfill (Dt (Fi (k:Int))) (n:Int)),⟨λk a=>(OX (hok k a).1 (hok k a).2).1,λk a=>(OX (hok k a).1 (hok k a).2).2,λj k v a e=>?_⟩,λk a=>?_⟩
 ·injection e with e
  have:=congrArg (λs:Ae=>s.cps.toList) e
  simp only[h]at this
  exact YI (mz n b) v a (List.append_cancel_left this)
 ·have l:((k:Int).natAbs).log2<1920:=PX (Nat.log2_le_self _) (by omega)
  have x:=jR (Dt (Fi (k:Int))) (n:Int) (by omega) (by omega)
  have y:=LU w (Txt.zfill (Dt (Fi (k:Int))) (n:Int)) (by rw[F2,F2,g];have:=(c k a).2;unfold zt at this;omega)
  have a1:ZJ (.int 1) (.int (cell/8%4))=some (.int (n:Int)):=by rw[<- t];rfl
  have o:JV [.int (k:Int)]=some (.str (Dt (Fi (k:Int)))):=by simp only[JV];rw[if_pos l]
  dsimp only
  generalize Dt (Fi (k:Int))=T at *
  simp[Fu,Bm,Ko,L1,LY,L0,LZ,NZ,NY,RC,Ry,RB,Rz,d4,d8,Go,w2,p,r,-JV,o,-ZJ,a1,x,y,aD]
theorem mK(j k a:Nat)(b:j<47)(c:k<47)(d:j/26=k/26)(e:(j+a)%26=(k+a)%26):j=k:=by omega
theorem OY{j:Nat}(h:j<47):j/26<26:=by omega
theorem mL:∃lt:Nat->Nat,(∀i,i<26->lt i∈AV.cps.toList)/\(∀i j,i<26->j<26->lt i=lt j->i=j)/\∀i:Nat,i<26->Au (.str "abcdefghijklmnopqrstuvwxyz") (.int (i:Int))=some (.str ⟨#[lt i]⟩):=
 ⟨Jb,λi a=>mB i (List.mem_range.mpr a),λi j a b e=>YI (f:=Jb) mC a b e,mD⟩
theorem mM(w:Ae)(a x y:Nat)(h:a<=w.cps.toList.length):(C8 w none (some (a:Int))++(⟨#[x]⟩++⟨#[y]⟩)++C8 w (some (a:Int)) none).cps.toList=w.cps.toList.take a++[x,y]++w.cps.toList.drop a:=by
 rw[Ja,Ja,Ja,OV,OV,mv w a h,mw w a h]
 rfl
theorem mO(w:Ae)(a x y:Nat)(h:w.length<=100):ZJ (.str ⟨#[x]⟩) (.str ⟨#[y]⟩)=some (.str (⟨#[x]⟩++⟨#[y]⟩))/\ZJ (.str (C8 w none (some (a:Int)))) (.str (⟨#[x]⟩++⟨#[y]⟩))=some (.str (C8 w none (some (a:Int))++(⟨#[x]⟩++⟨#[y]⟩))) /\
  ZJ (.str (C8 w none (some (a:Int))++(⟨#[x]⟩++⟨#[y]⟩))) (.str (C8 w (some (a:Int)) none))=some (.str (C8 w none (some (a:Int))++(⟨#[x]⟩++⟨#[y]⟩)++C8 w (some (a:Int)) none)):=by
 have b:∀c:Nat,(⟨#[c]⟩:Ae).length=1:=λc=>by simp[Str.length]
 have d:∀x y:Ae,(x++y).length=x.length+y.length:=λx y=>by rw[F2,F2,F2,Ja,Fj]
 have e:=Txt.slice_le w none (some (a:Int))
 have f:=Txt.slice_le w (some (a:Int)) none
 refine⟨LU _ _ (by rw[b,b];omega),LU _ _ (by rw[d,b,b];omega),LU _ _ (by rw[d,d,b,b];omega)⟩
theorem mP(cell:Int)(m a:Nat)(w:Ae)(n:w.cps.toList.length=m+1)(t:m<=7)(o:GW w.cps.toList)(u:a<=m+1)(f:Nat)(lt:Nat->Nat)(h:∀i,i<26->lt i∈AV.cps.toList)(d:∀i j,i<26->j<26->lt i=lt j->i=j)(g:Nat->Ae)(p:∀k,(g k).cps.toList=w.cps.toList.take a++[lt (k/26),lt ((k+f)%26)]++w.cps.toList.drop a):Jc λk=>.str (g k):=by
 have l:∀c,c∈AV.cps.toList->EZ c=true:=λc v=>by simp only[EZ,v,decide_true,Bool.true_or]
 have hok:∀k:Nat,k<47->GW (g k).cps.toList/\(g k).cps.toList.length<=12:=λk b=>by
  have r:=h _ (OY b)
  have q:=h ((k+f)%26) (Nat.mod_lt _ (by decide))
  rw[p]
  refine⟨o.mid a (by simp only[D7,List.all_nil,l _ r,l _ q,EY]) ⟨_,_,rfl,r⟩,?_⟩
  simp only[Fj,List.length_take,Js,B8,DT,n]
  omega
 refine⟨λk b=>(OX (hok k b).1 (hok k b).2).1,λk b=>(OX (hok k b).1 (hok k b).2).2,λj k s b e=>?_⟩
 have x:g j=g k:=At.str.inj e
 have q:w.cps.toList.take a++[lt (j/26),lt ((j+f)%26)]++w.cps.toList.drop a=w.cps.toList.take a++[lt (k/26),lt ((k+f)%26)]++w.cps.toList.drop a:=by rw[<- p j,<- p k,x]
 obtain⟨q1,q2⟩:=mG q
 exact mK j k f s b (d _ _ (OY s) (OY b) q1) (d _ _ (Nat.mod_lt _ (by decide)) (Nat.mod_lt _ (by decide)) q2)
theorem mQ(c cell:Int)(w0:¬ c=0)(w1:¬ c=1)(w2:¬ c=2)(m q1 q2 k:Nat)(a:Int)(w A B S1 S2 S3 C:Ae)(l:cell%8=(m:Int))(n:LX [.val (.int (cell/4)),.val (.int (m:Int))]=some (.val (.str w)))(d:B9 [.str w]=some (.int ((m:Int)+1)))(e:w.length<=AG)
  (f:cell/8%((m:Int)+1+1)=a) (o:C8 w none (some a)=A) (p:C8 w (some a) none=B) (q:(k:Int)/26=(q1:Int)) (r:((k:Int)+cell/8)%26=(q2:Int))
  (s:Au (.str "abcdefghijklmnopqrstuvwxyz") (.int (q1:Int))=some (.str S1)) (t:Au (.str "abcdefghijklmnopqrstuvwxyz") (.int (q2:Int))=some (.str S2)) (g:ZJ (.str S1) (.str S2)=some (.str S3)) (h:ZJ (.str A) (.str S3)=some (.str C)) (j:Ae) (i:ZJ (.str C) (.str B)=some (.str j)):
  Fu [.val (.int c),.val (.int cell),.val (.int (k:Int))]=some (.val (.str j)):=by
 have d4:Ds cell 4:=by constructor<;>decide
 have d8:Ds cell 8:=by constructor<;>decide
 have d26:Ds (k:Int) 26:=by constructor<;>decide
 have u:(0:Int)<(m:Int)+1+1:=by omega
 have a1:∀a b:Int,ZJ (.int a) (.int b)=some (.int (a+b)):=λ_ _=>rfl
 simp[Fu,Bm,Ko,L1,LY,L0,LZ,NZ,NY,RC,Ry,RB,Rz,Xp,Xi,Xo,Xj,Xn,Xk,Xm,Xl,d4,d8,d26,Go,w0,w1,w2,l,n,-ZJ,a1,-B9,d,u,f,q,r,-Au,s,t,g,e,o,p,h,i]
theorem mR(x:Int)(m:Nat):∃a:Nat,x%((m:Int)+1+1)=(a:Int)/\a<=m+1:=by
 have b:=OW x (show(m:Int)+1+1≠0 by omega)
 have c:=SU x (show(0:Int)<(m:Int)+1+1 by omega)
 exact⟨(x%((m:Int)+1+1)).toNat,by omega,by omega⟩
theorem mS(x:Int):∃a:Nat,∀k:Nat,((k:Int)+x)%26=(((k+a)%26:Nat):Int):=⟨(x%26).toNat,λk=>by omega⟩
theorem mT(k:Nat):(k:Int)/26=((k/26:Nat):Int):=by omega
theorem mU(c cell:Int)(w0:¬ c=0)(w1:¬ c=1)(w2:¬ c=2):∃f,Jc f/\∀k:Nat,k<47->Fu [.val (.int c),.val (.int cell),.val (.int (k:Int))]=some (.val (aD (f k))):=by
 obtain⟨m,z,e⟩:∃m:Nat,cell%8=(m:Int)/\m<=7:=⟨(cell%8).toNat,by omega,by omega⟩
 obtain⟨w,A,g,p⟩:=YL (cell/4) m (by omega)
 obtain⟨a,q,i⟩:=mR (cell/8) m
 obtain⟨d,r⟩:=mS (cell/8)
 have s:=mT
 obtain⟨lt,t,j,l⟩:=mL
 have b:w.length=m+1:=by rw[F2,g]
 have n:w.length<=AG:=by rw[b];exact CK (Nat.succ_le_succ e) (by decide)
 have u:B9 [.str w]=some (.int ((m:Int)+1)):=by simp only[B9];rw[if_pos n,b];rfl
 have o:a<=w.cps.toList.length:=by rw[g];exact i
 have h:w.length<=100:=by rw[b];exact CK (Nat.succ_le_succ e) (by decide)
 refine⟨_,mP cell m a w g e p i d lt t j (λk=>C8 w none (some (a:Int))++(⟨#[lt (k/26)]⟩++⟨#[lt ((k+d)%26)]⟩)++C8 w (some (a:Int)) none) (λk=>mM w a (lt (k/26)) (lt ((k+d)%26)) o),λk B=>?_⟩
 obtain⟨v,x,y⟩:=mO w a (lt (k/26)) (lt ((k+d)%26)) h
 have C:=mQ c cell w0 w1 w2 m (k/26) ((k+d)%26) k (a:Int) w (C8 w none (some (a:Int))) (C8 w (some (a:Int)) none) ⟨#[lt (k/26)]⟩ ⟨#[lt ((k+d)%26)]⟩ (⟨#[lt (k/26)]⟩++⟨#[lt ((k+d)%26)]⟩) (C8 w none (some (a:Int))++(⟨#[lt (k/26)]⟩++⟨#[lt ((k+d)%26)]⟩)) z A u n q rfl rfl (s k) (r k) (l _ (OY B)) (l _ (Nat.mod_lt _ (by decide))) v x (C8 w none (some (a:Int))++(⟨#[lt (k/26)]⟩++⟨#[lt ((k+d)%26)]⟩)++C8 w (some (a:Int)) none) y
 dsimp only[aD]
 exact C
theorem mV(a cell:Int):∃f,Jc f/\∀k:Nat,k<47->Fu [.val (.int a),.val (.int cell),.val (.int (k:Int))]=some (.val (aD (f k))):=by
 by_cases w0:a=0
 ·exact mH a cell w0
 ·by_cases w1:a=1
  ·exact mI a cell w1
  ·by_cases w2:a=2
   ·exact mJ a cell w2
   ·exact mU a cell w0 w1 w2
def F8(x:Int)(k:Nat):Nat->List Int
 |0=>[]
 |n+1=>((x*48271+2*(k:Int)+11)%2147483647/64)::F8 ((x*48271+2*(k:Int)+11)%2147483647) (k+1) n
theorem YM:∀(n k:Nat)(x:Int),(F8 x k n).length=n
 |0,_,_=>rfl
 |n+1,k,x=>by simp[F8,YM n]
theorem YN:∀(n k:Nat)(x:Int),∀y∈F8 x k n,0<=y/\y<33554432
 |0,_,_,y,h=>by cases h
 |n+1,k,x,y,h=>by
  simp only[F8,Bv]at h
  rcases h with rfl|h
  ·omega
  ·exact YN n _ _ y h
theorem YO(s0 b:Sl):∀(n k:Nat)(x:Int)(acc:List Int)(c:Sl),acc.length+n<100000->∃d a,ZO (Zk 4) NG ((H4 k n).map λ(k:Nat)=>D.int (k:Int)) [s0,b,.val (.int x),.own (acc.map D.int),c]=.next [s0,b,.val (.int d),.own ((acc++F8 x k n).map D.int),a]
 |0,k,x,acc,c,_=>⟨x,c,by simp[ZO,F8]⟩
 |n+1,k,x,acc,c,h=>by
  obtain⟨d,a,e⟩:=YO s0 b n (k+1) ((x*48271+2*(k:Int)+11)%2147483647) (acc++[(x*48271+2*(k:Int)+11)%2147483647/64]) (.val (.int (k:Int))) (by simp;omega)
  have g:acc.length<AG:=Ca (show acc.length<100000 by omega) (by decide)
  have i:Co x 48271:=by right;decide
  have f:Co 2 (k:Int):=by left;decide
  have hd:∀y:Int,Ds y 64:=λy=>by constructor<;>decide
  refine⟨d,a,?_⟩
  rw[OZ,AY]
  simp only[ZO,Zk,AW,AU]
  rw[show NG [s0,b,.val (.int x),.own (acc.map D.int),.val (.int (k:Int))]=.next [s0,b,.val (.int ((x*48271+2*(k:Int)+11)%2147483647)),.own ((acc++[(x*48271+2*(k:Int)+11)%2147483647/64]).map D.int),.val (.int (k:Int))] by
   simp[NG,g,i,f,hd]]
  simp only[F8]
  rw[show acc++((x*48271+2*(k:Int)+11)%2147483647/64)::F8 ((x*48271+2*(k:Int)+11)%2147483647) (k+1) n=acc++[(x*48271+2*(k:Int)+11)%2147483647/64]++F8 ((x*48271+2*(k:Int)+11)%2147483647) (k+1) n by simp]
  exact e
theorem O0(c p:Int):∃ws:List Int,IS [.val (.int c),.val (.int p)]=some (.val (.lst (ws.map D.int)))/\ws.length=24/\∀y∈ws,0<=y/\y<33554432:=by
 have b:Eu [.int 25]=some ((H4 0 25).map λ(k:Nat)=>D.int (k:Int)):=by
  have:=F5 25 (by omega)
  rw[SV]at this
  exact this
 obtain⟨i,d,e⟩:=YO (.val (.int c)) (.val (.int p)) 25 0 ((c+7919*p)%2147483629) [] .no (by simp)
 have f:=YM 25 0 ((c+7919*p)%2147483629)
 have a:=YN 25 0 ((c+7919*p)%2147483629)
 simp only[Jd,Dd]at e
 generalize F8 ((c+7919*p)%2147483629) 0 25=W at *
 have g:Em (W.map D.int) (some 1) none=(W.drop 1).map D.int:=by rw[Ra,lX _ _ (by omega)];rfl
 have m1:Co 7919 p:=by left;decide
 generalize j:((H4 0 25).map λ(k:Nat)=>D.int (k:Int))=R at *
 refine⟨W.drop 1,?_,by simp[f],λy h=>a y (List.mem_of_mem_drop h)⟩
 simp[IS,Bm,Rj,W9,W2,W8,W3,W7,W4,W6,W5,b,m1,e,g]
theorem H9{xs:List Int}{i:Int}(a:0<=i)(b:i<xs.length):atI (xs.map D.int) i=some (.int (xs.getD i.toNat 0)):=by
 rw[show i=((i.toNat:Nat):Int) by omega]
 have h:i.toNat<xs.length:=by omega
 exact DJ (by rw[Dy,HJ,CH h];simp[Cq,h])
structure Be where
 sv:List Int
 wd:Nat->Int
 fs:Nat->Nat->At
def Be.stp(w:Be)(j x:Nat):Nat:=(((x:Int)*(1+w.sv.getD (4+j) 0%5)+w.sv.getD (8+j) 0)%w.wd j).toNat
def Be.chn(w:Be):Nat->Nat->Nat->List At
 |_,_,0=>[]
 |j,x,n+1=>w.fs j x::w.chn (j+1) (w.stp (j+1) x) n
def Be.a0(w:Be)(k:Nat):Nat:=(((k:Int)*(1+w.sv.getD 0 0%46)+w.sv.getD 4 0)%47).toNat
structure Be.Ok(w:Be)(cell:Int):Prop where
 len:w.sv.length=24
 pos:∀y∈w.sv,0<=y/\y<33554432
 w1:∀j,1<=w.wd j
 w2:∀j,w.wd j<=47
 vs:∀j,Jc (w.fs j)
 val:∀j k:Nat,k<47->Fu [.val (.int (w.sv.getD (12+j) 0%4)),.val (.int (cell+(j:Int)*(w.sv.getD 16 0%2)*1000003)),.val (.int (k:Int))]=some (.val (aD (w.fs j k)))
theorem Be.stp_lt{w:Be}{cell:Int}(h:w.Ok cell)(j x:Nat):w.stp j x<47:=by
 have a:=h.w1 j
 have b:=h.w2 j
 unfold Be.stp
 generalize (x:Int)*(1+w.sv.getD (4+j) 0%5)+w.sv.getD (8+j) 0=y
 have c:=OW y (show w.wd j≠0 by omega)
 have d:=SU y (show 0<w.wd j by omega)
 omega
theorem Be.stp_int{w:Be}{cell:Int}(h:w.Ok cell)(j x:Nat):((x:Int)*(1+w.sv.getD (4+j) 0%5)+w.sv.getD (8+j) 0)%w.wd j=(w.stp j x:Int):=by
 have a:=h.w1 j
 unfold Be.stp
 generalize (x:Int)*(1+w.sv.getD (4+j) 0%5)+w.sv.getD (8+j) 0=y
 have b:=OW y (show w.wd j≠0 by omega)
 omega
theorem Be.a0_lt(w:Be)(k:Nat):w.a0 k<47:=by
 unfold Be.a0
 generalize (k:Int)*(1+w.sv.getD 0 0%46)+w.sv.getD 4 0=y
 omega
theorem Be.a0_int(w:Be)(k:Nat):((k:Int)*(1+w.sv.getD 0 0%46)+w.sv.getD 4 0)%47=(w.a0 k:Int):=by
 unfold Be.a0
 generalize (k:Int)*(1+w.sv.getD 0 0%46)+w.sv.getD 4 0=y
 omega
theorem mW(x y:Int):Co x (1+y%5):=.inr ⟨by omega,by omega⟩
theorem mX(x y:Int):Co x (1+y%46):=.inr ⟨by omega,by omega⟩
theorem mY(x y:Int):Co x (y%2):=.inr ⟨by omega,by omega⟩
theorem Hm{x y:Int}(h:Co x y):FJ (.int x) (.int y)=some (.int (x*y)):=by show(if Co x y then some (D.int (x*y))else none)=_;rw[if_pos h]
abbrev WD(w:Be):Sl:=.own ([.int (w.wd 0),.int (w.wd 1),.int (w.wd 2),.int (w.wd 3)]:List D)
theorem mZ(w:Be)(j:Nat)(h:j<4):atI ([.int (w.wd 0),.int (w.wd 1),.int (w.wd 2),.int (w.wd 3)]:List D) (j:Int)=some (.int (w.wd j)):=by
 have:j=0\/j=1\/j=2\/j=3:=by omega
 rcases this with rfl|rfl|rfl|rfl<;>exact DJ rfl
theorem YP(w:Be)(cell:Int)(h:w.Ok cell)(A B C E o:Sl)(j x:Nat)(O:j<4)(Q:x<47)(acc:List At)(ha:acc.length<100):
  Kp [.val (.int cell),A,B,.val (.lst (w.sv.map D.int)),WD w,.val (.int (j:Int)),C,E,.val (.int (x:Int)),.own (acc.map aD),o] =
   .next [.val (.int cell),A,B,.val (.lst (w.sv.map D.int)),WD w,.val (.int (j:Int)),C,E,.val (.int ((if 0<j then w.stp j x else x:Nat):Int)),.own ((acc++[w.fs j (if 0<j then w.stp j x else x)]).map aD),.val (.int (cell+(j:Int)*(w.sv.getD 16 0%2)*1000003))]:=by
 have hl:=h.len
 have f:atI (w.sv.map D.int) 16=some (.int (w.sv.getD 16 0)):=H9 (by omega) (by omega)
 have g:atI (w.sv.map D.int) (12+(j:Int))=some (.int (w.sv.getD (12+j) 0)):=by
  have:=H9 (xs:=w.sv) (i:=12+(j:Int)) (by omega) (by omega)
  rw[show(12+(j:Int)).toNat=12+j by omega]at this
  exact this
 have T:atI (w.sv.map D.int) (4+(j:Int))=some (.int (w.sv.getD (4+j) 0)):=by
  have:=H9 (xs:=w.sv) (i:=4+(j:Int)) (by omega) (by omega)
  rw[show(4+(j:Int)).toNat=4+j by omega]at this
  exact this
 have U:atI (w.sv.map D.int) (8+(j:Int))=some (.int (w.sv.getD (8+j) 0)):=by
  have:=H9 (xs:=w.sv) (i:=8+(j:Int)) (by omega) (by omega)
  rw[show(8+(j:Int)).toNat=8+j by omega]at this
  exact this
 have Y:=mZ w j O
 have hw1:=h.w1 j
 have p:0<w.wd j:=by omega
 have H:acc.length<AG:=Ca (show acc.length<100000 by omega) (by decide)
 have q:=Be.stp_int h j x
 have r:=h.val j (w.stp j x) (Be.stp_lt h j x)
 have s:=h.val j x Q
 have c1:=mW (x:Int) (w.sv.getD (4+j) 0)
 have I:=mY (j:Int) (w.sv.getD 16 0)
 have L:Co ((j:Int)*(w.sv.getD 16 0%2)) 1000003:=.inr (by decide)
 generalize w.sv.getD 16 0=k at *
 generalize w.sv.getD (12+j) 0=l at *
 generalize w.sv.getD (4+j) 0=M at *
 generalize t:1+M%5=g4 at *
 generalize w.sv.getD (8+j) 0=g8 at *
 generalize w.stp j x=N at *
 generalize w.wd j=m at *
 dsimp only[WD]
 generalize [D.int (w.wd 0),D.int (w.wd 1),D.int (w.wd 2),D.int (w.wd 3)]=WL at *
 have a1:∀a b:Int,ZJ (.int a) (.int b)=some (.int (a+b)):=λ_ _=>rfl
 by_cases n:0<j
 ·have c:(0:Int)<(j:Int):=by omega
  rw[if_pos n]
  generalize w.fs j N=va at *
  generalize (N:Int)=SX at *
  generalize (j:Int)=J at *
  generalize (x:Int)=XX at *
  have u:=Hm I
  have v:=Hm L
  have n2:∀y:Int,Z6 (.int y) (.int 2)=some (.int (y%2)):=λy=>rfl
  have n4:∀y:Int,Z6 (.int y) (.int 4)=some (.int (y%4)):=λy=>rfl
  have d:Au (.lst (w.sv.map D.int)) (.int (12+J))=some (.int l):=g
  have e:Au (.lst (w.sv.map D.int)) (.int 16)=some (.int k):=f
  have u1:=Hm c1
  have n5:∀y:Int,Z6 (.int y) (.int 5)=some (.int (y%5)):=λy=>rfl
  have nw:∀y:Int,Z6 (.int y) (.int m)=some (.int (y%m)):=λy=>by show(if 0<m then some (D.int (y%m))else none)=_;rw[if_pos p]
  have x4:Au (.lst (w.sv.map D.int)) (.int (4+J))=some (.int M):=T
  have x8:Au (.lst (w.sv.map D.int)) (.int (8+J))=some (.int g8):=U
  have xw:Au (.lst WL) (.int J)=some (.int m):=Y
  have z:JP (.int J) (.int 0)=some (.bl true):=by show some (D.bl (decide (0<J)))=_;rw[decide_eq_true c]
  simp only[Kp,Zf,ZI,AS,Zd,Ai,A8,Ao,BX,AN,AL,AA,AT,Zw,CI,AW,AU,Zb,Zj,Zo,a1,z,x4,n5,t,u1,x8,xw,nw,q,e,n2,u,v,d,n4,r,Fn,BY,H,if_true,D9,AY,Dd]
 ·have c:¬ (0:Int)<(j:Int):=by omega
  rw[if_neg n]
  generalize w.fs j x=va at *
  generalize (j:Int)=J at *
  generalize (x:Int)=XX at *
  have u:=Hm I
  have v:=Hm L
  have n2:∀y:Int,Z6 (.int y) (.int 2)=some (.int (y%2)):=λy=>rfl
  have n4:∀y:Int,Z6 (.int y) (.int 4)=some (.int (y%4)):=λy=>rfl
  have d:Au (.lst (w.sv.map D.int)) (.int (12+J))=some (.int l):=g
  have e:Au (.lst (w.sv.map D.int)) (.int 16)=some (.int k):=f
  have z:JP (.int J) (.int 0)=some (.bl false):=by show some (D.bl (decide (0<J)))=_;rw[decide_eq_false c]
  simp only[Kp,Zf,ZI,AS,Zd,Ai,A8,Ao,BX,AN,AL,AA,AT,Zw,CI,AW,AU,Zb,Zj,Zo,a1,z,  e,n2,u,v,d,n4,s,Fn,BY,H,if_true,D9,AY,Dd]
theorem YQ(w:Be)(cell:Int)(h:w.Ok cell)(g i l m:Sl):∀(n j x:Nat)(acc:List At)(o d:Sl),0<j->j+n<=4->x<47->acc.length+n<100 ->
  ∃p q f,ZO (Zk 5) Kp ((H4 j n).map λ(k:Nat)=>D.int (k:Int)) [.val (.int cell),g,i,.val (.lst (w.sv.map D.int)),WD w,o,l,m,.val (.int (x:Int)),.own (acc.map aD),d] =
   .next [.val (.int cell),g,i,.val (.lst (w.sv.map D.int)),WD w,p,l,m,q,.own ((acc++w.chn j (w.stp j x) n).map aD),f]
 |0,j,x,acc,o,d,_,_,_,_=>⟨o,_,d,by simp[ZO,Be.chn];rfl⟩
 |n+1,j,x,acc,o,d,s,u,t,v=>by
  have r:=YP w cell h g i l m d j x (by omega) t acc (by omega)
  rw[if_pos s]at r
  obtain⟨a,b,c,e⟩:=YQ w cell h g i l m n (j+1) (w.stp j x) (acc++[w.fs j (w.stp j x)]) (.val (.int (j:Int))) (.val (.int (cell+(j:Int)*(w.sv.getD 16 0%2)*1000003))) (by omega) (by omega) (Be.stp_lt h j x) (by simp;omega)
  refine⟨a,b,c,?_⟩
  rw[OZ,AY]
  simp only[ZO,Zk,AW,AU]
  rw[r]
  simp only[Be.chn]
  rw[show acc++w.fs j (w.stp j x)::w.chn (j+1) (w.stp (j+1) (w.stp j x)) n=acc++[w.fs j (w.stp j x)]++w.chn (j+1) (w.stp (j+1) (w.stp j x)) n by simp]
  exact e
theorem m4(w:Be)(cell:Int)(h:w.Ok cell)(i:Sl)(p:Nat)(A:0<p)(B:p<=4)(d:List (List At))(C:d.length<1000)(k:Nat)(v E G f:Sl):
  ∃m n o j,Oo [.val (.int cell),i,.val (.int (p:Int)),.val (.lst (w.sv.map D.int)),WD w,v,.own (d.map Ah),.val (.int (k:Int)),E,G,f] =
   .next [.val (.int cell),i,.val (.int (p:Int)),.val (.lst (w.sv.map D.int)),WD w,m,.own ((d++[w.chn 0 (w.a0 k) p]).map Ah),.val (.int (k:Int)),n,o,j]:=by
 have hl:=h.len
 have H:atI (w.sv.map D.int) 0=some (.int (w.sv.getD 0 0)):=H9 (by omega) (by omega)
 have I:atI (w.sv.map D.int) 4=some (.int (w.sv.getD 4 0)):=H9 (by omega) (by omega)
 have J:=F5 p (by omega)
 have L:=w.a0_int k
 have g:=YP w cell h i (.val (.int (p:Int))) (.own (d.map Ah)) (.val (.int (k:Int))) f 0 (w.a0 k) (by omega) (w.a0_lt k) [] (by simp)
 rw[if_neg (by omega)]at g
 obtain⟨a,b,c,e⟩:=YQ w cell h i (.val (.int (p:Int))) (.own (d.map Ah)) (.val (.int (k:Int))) (p-1) 1 (w.a0 k) [w.fs 0 (w.a0 k)] (.val (.int 0)) (.val (.int (cell+((0:Nat):Int)*(w.sv.getD 16 0%2)*1000003))) (by omega) (by omega) (w.a0_lt k) (by simp;omega)
 have q:w.chn 0 (w.a0 k) p=[w.fs 0 (w.a0 k)]++w.chn 1 (w.stp 1 (w.a0 k)) (p-1):=by
  rw[show p=(p-1)+1 by omega]
  simp[Be.chn]
 have M:d.length<AG:=Ca (show d.length<100000 by omega) (by decide)
 have N:=mX (k:Int) (w.sv.getD 0 0)
 have l:ZO (Zk 5) Kp ((A7 p).map λ(k:Nat)=>D.int (k:Int)) [.val (.int cell),i,.val (.int (p:Int)),.val (.lst (w.sv.map D.int)),WD w,v,.own (d.map Ah),.val (.int (k:Int)),.val (.int (w.a0 k:Int)),.own [],f] =
   .next [.val (.int cell),i,.val (.int (p:Int)),.val (.lst (w.sv.map D.int)),WD w,a,.own (d.map Ah),.val (.int (k:Int)),b,.own ((w.chn 0 (w.a0 k) p).map aD),c]:=by
  rw[SV,show p=(p-1)+1 by omega,OZ,AY]
  simp only[ZO,Zk,AW,AU]
  simp only[Dd,Jd]at g
  rw[show(p-1)+1=p by omega]
  rw[g,q]
  exact e
 refine⟨a,b,.own ((w.chn 0 (w.a0 k) p).map aD),c,?_⟩
 generalize w.chn 0 (w.a0 k) p=x at *
 generalize (w.a0 k:Int)=A0 at *
 generalize w.sv.getD 0 0=z at *
 generalize O:1+z%46=g0 at *
 generalize w.sv.getD 4 0=Q at *
 generalize hR:((A7 p).map λ(k:Nat)=>D.int (k:Int))=R at *
 generalize (k:Int)=KK at *
 have a1:∀a b:Int,ZJ (.int a) (.int b)=some (.int (a+b)):=λ_ _=>rfl
 have T:=Hm N
 have r:∀y:Int,Z6 (.int y) (.int 46)=some (.int (y%46)):=λy=>rfl
 have s:∀y:Int,Z6 (.int y) (.int 47)=some (.int (y%47)):=λy=>rfl
 have U:Au (.lst (w.sv.map D.int)) (.int 0)=some (.int z):=H
 have Y:Au (.lst (w.sv.map D.int)) (.int 4)=some (.int Q):=I
 have t:Zr (some ([]:List D))=some []:=rfl
 have hv:Zt [Sl.val (.int (p:Int))]=some [.int (p:Int)]:=rfl
 have u:Zt []=some []:=rfl
 have ht:De [.lst (x.map aD)]=some (.tup (x.map aD)):=rfl
 simp only[Oo,Zf,Zd,Ai,A8,Ao,BX,AN,AL,AA,AT,Zw,CN,CI,ZT,AW,AU,Zb,Zj,a1,U,r,O,T,Y,s,L,hv,u,t,J,l,ZA,Bw,pk,ht,BY,M,if_true,D9,AY,Dd,Ah]
def CZ(y:Int):Int:=if y/64%4=0 then 1+y%6 else if y/64%4=1 then 2+y%3 else if y/64%4=2 then 47 else 3
theorem YR(y:Int):1<=CZ y/\CZ y<=47:=by
 unfold CZ
 split
 ·omega
 ·split
  ·omega
  ·split<;>omega
theorem m5(y:Int):atI [D.int (1+y%6),.int (2+y%3),.int 47,.int 3] (y/64%4)=some (.int (CZ y)):=by
 have h:y/64%4=0\/y/64%4=1\/y/64%4=2\/y/64%4=3:=by omega
 unfold CZ
 generalize y/64%4=q at *
 rcases h with rfl|rfl|rfl|rfl<;>exact DJ rfl
theorem SW(s0 f g:Sl)(sv:List Int)(s:sv.length=24)(j:Nat)(t:j<20)(ws:List D)(u:ws.length<100)(h k l m c:Sl):
  IY [s0,f,g,.val (.lst (sv.map D.int)),.own ws,.val (.int (j:Int)),h,k,l,m,c]=.next [s0,f,g,.val (.lst (sv.map D.int)),.own (ws++[.int (CZ (sv.getD j 0))]),.val (.int (j:Int)),h,k,l,m,c]:=by
 have n:Au (.lst (sv.map D.int)) (.int (j:Int))=some (.int (sv.getD j 0)):=by
  have:=H9 (xs:=sv) (i:=(j:Int)) (by omega) (by omega)
  rw[HJ]at this
  exact this
 have o:=m5 (sv.getD j 0)
 generalize sv.getD j 0=y at *
 generalize CZ y=p at *
 generalize (j:Int)=J at *
 have q:Au (.lst [D.int (1+y%6),.int (2+y%3),.int 47,.int 3]) (.int (y/64%4))=some (.int p):=o
 have n6:Z6 (.int y) (.int 6)=some (.int (y%6)):=rfl
 have n3:Z6 (.int y) (.int 3)=some (.int (y%3)):=rfl
 have n4:Z6 (.int (y/64)) (.int 4)=some (.int (y/64%4)):=rfl
 have d:DU (.int y) (.int 64)=some (.int (y/64)):=by
  show(if Ds y 64 then some (D.int (y/64))else none)=_
  rw[if_pos (by constructor<;>decide)]
 have a1:∀a b:Int,ZJ (.int a) (.int b)=some (.int (a+b)):=λ_ _=>rfl
 have r:ws.length<AG:=Ca (show ws.length<100000 by omega) (by decide)
 have e:Zr (some [D.int (1+y%6),.int (2+y%3),.int 47,.int 3])=some [D.int (1+y%6),.int (2+y%3),.int 47,.int 3]:=ZC _ (by simp)
 simp only[IY,Zf,Zd,Ai,A8,Ao,BX,AN,AL,AA,AT,CI,AW,AU,Zb,Zj,Zt,ZF,n,n6,n3,a1,d,n4,e,q,r,if_true]
theorem YS(w:Be)(cell:Int)(h:w.Ok cell)(r:Sl)(p:Nat)(i:0<p)(j:p<=4):∀(n k:Nat)(g:List (List At))(l s m o f:Sl),g.length+n<1000 ->
  ∃t u v x q,ZO (Zk 7) Oo ((H4 k n).map λ(k:Nat)=>D.int (k:Int)) [.val (.int cell),r,.val (.int (p:Int)),.val (.lst (w.sv.map D.int)),WD w,l,.own (g.map Ah),s,m,o,f] =
   .next [.val (.int cell),r,.val (.int (p:Int)),.val (.lst (w.sv.map D.int)),WD w,t,.own ((g++(H4 k n).map λk=>w.chn 0 (w.a0 k) p).map Ah),u,v,x,q]
 |0,k,g,l,s,m,o,f,_=>⟨l,s,m,o,f,by simp[ZO]⟩
 |n+1,k,g,l,s,m,o,f,B=>by
  obtain⟨a,b,c,d,e⟩:=m4 w cell h r p i j g (by omega) k l m o f
  obtain⟨a2,b2,y,d2,z,A⟩:=YS w cell h r p i j n (k+1) (g++[w.chn 0 (w.a0 k) p]) a (.val (.int (k:Int))) b c d (by simp;omega)
  refine⟨a2,b2,y,d2,z,?_⟩
  rw[OZ,AY,AY]
  simp only[ZO,Zk,AW,AU]
  rw[e]
  rw[show g++w.chn 0 (w.a0 k) p::(H4 (k+1) n).map (λk=>w.chn 0 (w.a0 k) p)=g++[w.chn 0 (w.a0 k) p]++(H4 (k+1) n).map (λk=>w.chn 0 (w.a0 k) p) by simp]
  exact A
theorem m6(cell:Int)(f p:Nat)(H:f<500)(m:0<p)(n:p<=4):∃w:Be,w.Ok cell/\L9 [.val (.int cell),.val (.int (f:Int)),.val (.int (p:Int))]=some (.own (((A7 f).map λk=>w.chn 0 (w.a0 k) p).map Ah)):=by
 obtain⟨sv,z,l,o⟩:=O0 cell (p:Int)
 have g:=λj:Nat=>mV (sv.getD (12+j) 0%4) (cell+(j:Int)*(sv.getD 16 0%2)*1000003)
 let w:Be:=⟨sv,λj=>if j=0 then 47 else CZ (sv.getD j 0),λj=>(g j).choose⟩
 have y:w.Ok cell:=⟨l,o,λj=>by show 1<=(if j=0 then(47:Int)else CZ (sv.getD j 0));split;decide;exact(YR _).1,λj=>by show(if j=0 then(47:Int)else CZ (sv.getD j 0))<=47;split;decide;exact(YR _).2,λj=>(g j).choose_spec.1,λj k A=>(g j).choose_spec.2 k A⟩
 have q:w.sv=sv:=rfl
 have s:WD w=.own [.int 47,.int (CZ (sv.getD 1 0)),.int (CZ (sv.getD 2 0)),.int (CZ (sv.getD 3 0))]:=rfl
 obtain⟨a,b,c,d,e,t⟩:=YS w cell y (.val (.int (f:Int))) p m n f 0 [] (.val (.int 3)) .no .no .no .no (by simp;omega)
 refine⟨w,y,?_⟩
 have B:=F5 f (by omega)
 have u:JM [.int 1,.int 4]=some [.int 1,.int 2,.int 3]:=by
  rw[l5 1 4 (by omega) (by omega) (by omega) (by omega)];rfl
 rw[<- SV,Jd,q,s]at t
 generalize ((A7 f).map λk=>w.chn 0 (w.a0 k) p)=I at *
 have C:IY [.val (.int cell),.val (.int (f:Int)),.val (.int (p:Int)),.val (.lst (sv.map D.int)),.own [.int 47],.val (.int 1),.no,.no,.no,.no,.no]=.next [.val (.int cell),.val (.int (f:Int)),.val (.int (p:Int)),.val (.lst (sv.map D.int)),.own [.int 47,.int (CZ (sv.getD 1 0))],.val (.int 1),.no,.no,.no,.no,.no]:=SW (.val (.int cell)) (.val (.int (f:Int))) (.val (.int (p:Int))) sv l 1 (by omega) [.int 47] (by simp) .no .no .no .no .no
 have E:IY [.val (.int cell),.val (.int (f:Int)),.val (.int (p:Int)),.val (.lst (sv.map D.int)),.own [.int 47,.int (CZ (sv.getD 1 0))],.val (.int 2),.no,.no,.no,.no,.no]=.next [.val (.int cell),.val (.int (f:Int)),.val (.int (p:Int)),.val (.lst (sv.map D.int)),.own [.int 47,.int (CZ (sv.getD 1 0)),.int (CZ (sv.getD 2 0))],.val (.int 2),.no,.no,.no,.no,.no]:=SW (.val (.int cell)) (.val (.int (f:Int))) (.val (.int (p:Int))) sv l 2 (by omega) [.int 47,.int (CZ (sv.getD 1 0))] (by simp) .no .no .no .no .no
 have G:IY [.val (.int cell),.val (.int (f:Int)),.val (.int (p:Int)),.val (.lst (sv.map D.int)),.own [.int 47,.int (CZ (sv.getD 1 0)),.int (CZ (sv.getD 2 0))],.val (.int 3),.no,.no,.no,.no,.no]=.next [.val (.int cell),.val (.int (f:Int)),.val (.int (p:Int)),.val (.lst (sv.map D.int)),.own [.int 47,.int (CZ (sv.getD 1 0)),.int (CZ (sv.getD 2 0)),.int (CZ (sv.getD 3 0))],.val (.int 3),.no,.no,.no,.no,.no]:=SW (.val (.int cell)) (.val (.int (f:Int))) (.val (.int (p:Int))) sv l 3 (by omega) [.int 47,.int (CZ (sv.getD 1 0)),.int (CZ (sv.getD 2 0))] (by simp) .no .no .no .no .no
 have h:ZO (Zk 5) IY [.int 1,.int 2,.int 3] [.val (.int cell),.val (.int (f:Int)),.val (.int (p:Int)),.val (.lst (sv.map D.int)),.own [.int 47],.no,.no,.no,.no,.no,.no] =
   .next [.val (.int cell),.val (.int (f:Int)),.val (.int (p:Int)),.val (.lst (sv.map D.int)),.own [.int 47,.int (CZ (sv.getD 1 0)),.int (CZ (sv.getD 2 0)),.int (CZ (sv.getD 3 0))],.val (.int 3),.no,.no,.no,.no,.no]:=by
  simp only[ZO,Zk,AW,AU]
  simp only[C,AW,AU,E,G]
 have v:Zr (some [D.int 47])=some [D.int 47]:=ZC _ (by decide)
 have i:Zr (some ([]:List D))=some []:=rfl
 have J:Zt [Sl.val (.int (f:Int))]=some [.int (f:Int)]:=rfl
 have x:L9 [.val (.int cell),.val (.int (f:Int)),.val (.int (p:Int))]=match Sg [.val (.int cell),.val (.int (f:Int)),.val (.int (p:Int)),.no,.no,.no,.no,.no,.no,.no,.no]with
  |.ret r=>some r
  |.next _=>some (.val .non)
  |_=>none:=rfl
 rw[x]
 simp only[Sg,XG,XU,XH,XR,XI,XQ,XJ,XP,XM,XO,XN,Zf,Ai,A8,Ao,BX,AN,AL,AA,AT,Zw,CN,ZT,AW,AU,Zb,Zj,Zo,Fn,z,Zt,v,i,u,h,B,Dd]at t ⊢
 rw[t]
 rfl
theorem na:∀m∈A7 46,∃n∈A7 47,((m+1)*n)%47=1:=by decide +kernel
theorem ng{k j m c:Int}(d:0<=m)(r:m<46)(s:0<=k)(f:k<47)(t:0<=j)(g:j<47)(e:(k*(1+m)+c)%47=(j*(1+m)+c)%47):k=j:=by
 obtain⟨n,u,h⟩:=na m.toNat (List.mem_range.mpr (by omega))
 have i:((1+m)*(n:Int))%47=1:=by
  have:(((m.toNat+1)*n:Nat):Int)%47=1:=by exact_mod_cast congrArg (λx:Nat=>(x:Int)) h
  rw[Int.natCast_mul,Int.natCast_add]at this
  have a:((m.toNat:Nat):Int)=m:=by omega
  rw[a]at this
  rw[Int.add_comm 1 m]
  exact this
 have l:47 ∣ (k-j)*(1+m):=by
  have:(k*(1+m)+c)-(j*(1+m)+c)=(k-j)*(1+m):=by rw[Int.sub_mul];omega
  rw[<- this]
  exact Int.dvd_of_emod_eq_zero (by omega)
 have b:47 ∣ (k-j)*((1+m)*(n:Int)):=by
  rw[<- Int.mul_assoc]
  exact Int.dvd_mul_of_dvd_left l
 obtain⟨q,o⟩:∃q,(1+m)*(n:Int)=47*q+1:=⟨(1+m)*(n:Int)/47,by omega⟩
 rw[o,Int.mul_add,Int.mul_one]at b
 have p:(47:Int) ∣ (k-j)*(47*q):=⟨(k-j)*q,by rw[<- Int.mul_assoc,<- Int.mul_assoc,Int.mul_comm (k-j) 47]⟩
 have v:(47:Int) ∣ k-j:=(Int.dvd_add_right p).mp b
 omega
theorem Be.a0_inj(w:Be)(a:0<=w.sv.getD 0 0){j k:Nat}(f:j<47)(g:k<47)(e:w.a0 j=w.a0 k):j=k:=by
 have b:=w.a0_int j
 have d:=w.a0_int k
 rw[e]at b
 have:=ng (k:=(j:Int)) (j:=(k:Int)) (m:=w.sv.getD 0 0%46) (c:=w.sv.getD 4 0) (by omega) (by omega) (by omega) (by omega) (by omega) (by omega) (b.trans d.symm)
 omega
structure TO{α:Type}(lt:α->α->Bool):Prop where
 asym:∀a b,lt a b=true->lt b a=false
 neg:∀a b c,lt a c=true->lt a b=true\/lt b c=true
 anti:∀a b,lt a b=false->lt b a=false->a=b
theorem TO.irr{b:Type}{lt:b->b->Bool}(T:TO lt)(a:b):lt a a=false:=by
 cases h:lt a a with
 |false=>rfl
 |true=>have:=T.asym a a h;rw[h]at this;cases this
theorem TO.trans{d:Type}{lt:d->d->Bool}(T:TO lt){a b c:d}(e:lt a b=true)(f:lt b c=true):lt a c=true:=by
 rcases T.neg a c b e with h|h
 ·exact h
 ·rw[T.asym b c f]at h;cases h
def FM{a:Type}(lt:a->a->Bool)(x:a):List a->List a
 |[]=>[x]
 |y::r=>if lt x y then x::y::r else y::FM lt x r
def Z2{a:Type}(lt:a->a->Bool):List a->List a
 |[]=>[]
 |x::r=>FM lt x (Z2 lt r)
theorem SY{a:Type}(lt:a->a->Bool)(x:a):∀l,(FM lt x l).Perm (x::l)
 |[]=>.refl _
 |y::r=>by
  unfold FM
  split
  ·exact .refl _
  ·exact((SY lt x r).cons y).trans (.swap x y r)
theorem D1{a:Type}(lt:a->a->Bool):∀l,(Z2 lt l).Perm l
 |[]=>.refl _
 |x::r=>(SY lt x _).trans ((D1 lt r).cons x)
theorem YT{f:Type}{lt:f->f->Bool}(T:TO lt)(x:f):∀l:List f,l.Pairwise (λa b=>lt b a=false)->(FM lt x l).Pairwise λa b=>lt b a=false
 |[],_=>by simp[FM]
 |y::r,g=>by
  obtain⟨h,i⟩:=List.pairwise_cons.mp g
  unfold FM
  split
  ·next d=>
   refine List.pairwise_cons.mpr ⟨λz c=>?_,g⟩
   rcases Bv.mp c with e|c
   ·subst e;exact T.asym x z d
   ·cases j:lt z x with
    |false=>rfl
    |true=>
     rcases T.neg z y x j with q|q
     ·rw[h z c]at q;cases q
     ·rw[T.asym x y d]at q;cases q
  ·next d=>
   rw[Ln]at d
   refine List.pairwise_cons.mpr ⟨λz c=>?_,YT T x r i⟩
   rcases Bv.mp ((SY lt x r).subset c)with e|c
   ·subst e;exact d
   ·exact h z c
theorem Ta{c:Type}{lt:c->c->Bool}(T:TO lt):∀l:List c,(Z2 lt l).Pairwise λa b=>lt b a=false
 |[]=>.nil
 |x::r=>YT T x _ (Ta T r)
theorem ni{c:Type}{lt:c->c->Bool}(T:TO lt){xs ys:List c}(d:ys.Perm xs)(e:ys.Pairwise λa b=>lt b a=false):ys=Z2 lt xs:=
 VT (le:=λa b=>lt b a=false) (λa b _ _ f g=>T.anti a b g f) e (Ta T xs) (d.trans (D1 _ xs).symm)
theorem YU{a:Type}(f:a->D)(lt:a->a->Bool)(b:D->D->Bool)(x:a):∀l:List a,(∀y∈l,b (f x) (f y)=lt x y)->Hi b (f x) (l.map f)=(FM lt x l).map f
 |[],_=>rfl
 |y::r,h=>by
  have c:=h y BA
  have d:=YU f lt b x r λz e=>h z (Bt _ e)
  simp only[AY,Hi,FM,c,d]
  split<;>rfl
theorem Tb{a:Type}(f:a->D)(lt:a->a->Bool)(b:D->D->Bool):∀l:List a,(∀x∈l,∀y∈l,b (f x) (f y)=lt x y)->E7 b (l.map f)=(Z2 lt l).map f
 |[],_=>rfl
 |x::r,h=>by
  have d:=Tb f lt b r λy c z e=>h y (Bt _ c) z (Bt _ e)
  simp only[AY,E7,Z2,d]
  exact YU f lt b x _ λy c=>h x BA y (Bt _ ((D1 lt r).subset c))
theorem nj{l:Type}{F:List Sl->Option Rv}(f:l->D){lt:l->l->Bool}(T:TO lt)(b:Bool)(xs:List l)(few:xs.length<64)(m:l->D)(tells:∀a∈xs,F [.val (f a)]=some (.val (m a)))(mode:∀a∈xs,B7 b (m a))(cmp:∀a∈xs,∀c∈xs,ltN 6 (m a) (m c)=some (lt a c)):HR F (xs.map f)=some ((Z2 lt xs).map f):=by
 have n:∀a∈xs,Dm F (f a)=m a:=λa d=>by unfold Dm;rw[tells a d];rfl
 have j:∀a∈xs,∀c∈xs,Cz F (f a) (f c)=lt a c:=λa d c g=>QR (by rw[n a d,n c g];exact cmp a d c g)
 have ok:Bz F (xs.map f):={
  few:=by simpa using few
  tells:=λx i=>by obtain⟨a,d,rfl⟩:=List.mem_map.mp i;exact⟨_,tells a d⟩
  mode:=⟨b,λx i=>by obtain⟨a,d,rfl⟩:=List.mem_map.mp i;rw[n a d];exact mode a d⟩
  cmp:=λx i y k=>by
   obtain⟨a,d,rfl⟩:=List.mem_map.mp i
   obtain⟨c,g,rfl⟩:=List.mem_map.mp k
   rw[n a d,n c g];exact⟨_,cmp a d c g⟩
  asym:=λx i y k h=>by
   obtain⟨a,d,rfl⟩:=List.mem_map.mp i
   obtain⟨c,g,rfl⟩:=List.mem_map.mp k
   rw[j a d c g]at h;rw[j c g a d];exact T.asym a c h
  neg:=λx i y k z r h=>by
   obtain⟨a,d,rfl⟩:=List.mem_map.mp i
   obtain⟨c,g,rfl⟩:=List.mem_map.mp k
   obtain⟨e,o,rfl⟩:=List.mem_map.mp r
   rw[j a d e o]at h;rw[j a d c g,j c g e o];exact T.neg a c e h
  anti:=λx i y k p q=>by
   obtain⟨a,d,rfl⟩:=List.mem_map.mp i
   obtain⟨c,g,rfl⟩:=List.mem_map.mp k
   rw[j a d c g]at p;rw[j c g a d]at q;rw[T.anti a c p q]}
 rw[Wx ok,Tb f lt _ xs j]
def Dx{b:Type}[DecidableEq b]:Option b->List b->List b
 |_,[]=>[]
 |p,a::r=>if p=some a then Dx p r else a::Dx (some a) r
theorem Tc{c:Type}[DecidableEq c]:∀(l:List c)(p:Option c),l.Nodup->(∀a,p=some a->a∉l)->Dx p l=l
 |[],_,_,_=>rfl
 |a::r,p,h,d=>by
  obtain⟨f,g⟩:=E2.mp h
  unfold Dx
  rw[if_neg (λe=>d a e BA),Tc r (some a) g λb i=>by cases i;exact f]
def BQ:At->At->Bool
 |.non,.non=>false
 |.non,_=>true
 |.int i,.int j=>decide (i<j)
 |.int _,.str _=>true
 |.str x,.str y=>decide (x.cps.toList<y.cps.toList)
 |_,_=>false
theorem nk{x y:Ae}(h:x.cps.toList=y.cps.toList):x=y:=by
 obtain⟨⟨a⟩⟩:=x
 obtain⟨⟨b⟩⟩:=y
 simp at h
 rw[h]
theorem F9:TO BQ:={
 asym:=λa b h=>by
  cases a<;>cases b<;>simp only[BQ,decide_eq_true_eq,decide_eq_false_iff_not,DS]at h ⊢
  ·omega
  ·exact List.lt_asymm h
 neg:=λa b c h=>by
  cases a<;>cases c<;>simp only[BQ,decide_eq_true_eq,DS]at h<;>cases b<;>simp only[BQ,decide_eq_true_eq,DS,true_or,or_true,false_or,or_false]
  ·omega
  ·next x y z=>
   by_cases d:x.cps.toList<z.cps.toList
   ·exact .inl d
   ·exact .inr (List.lt_of_le_of_lt (List.not_lt.mp d) h)
 anti:=λa b d e=>by
  cases a<;>cases b<;>simp only[BQ,decide_eq_false_iff_not,Bool.true_eq_false]at d e
  ·rfl
  ·rw[At.int.injEq];omega
  ·rw[At.str.injEq];exact nk (List.le_antisymm (List.not_lt.mp e) (List.not_lt.mp d))}
def BD:List At->List At->Bool
 |[],[]=>false
 |[],_::_=>true
 |_::_,[]=>false
 |a::r,b::s=>if a=b then BD r s else BQ a b
theorem YV:∀a b,BD a b=true->BD b a=false
 |[],[],_=>rfl
 |[],_::_,_=>rfl
 |_::_,[],h=>by cases h
 |a::r,b::s,h=>by
  unfold BD at h ⊢
  by_cases e:a=b
  ·subst e;simp only[if_true]at h ⊢;exact YV r s h
  ·rw[if_neg e]at h;rw[if_neg (λz=>e z.symm)];exact F9.asym a b h
theorem YW:∀a b c,BD a c=true->BD a b=true\/BD b c=true
 |[],[],c,h=>.inr h
 |[],_::_,_,_=>.inl rfl
 |_::_,_,[],h=>by cases h
 |_::_,[],_::_,_=>.inr rfl
 |a::r,b::s,c::t,h=>by
  unfold BD at h ⊢
  by_cases e:a=b
  ·subst e
   by_cases d:a=c
   ·simp only[d,if_true]at h ⊢;exact YW r s t h
   ·rw[if_neg d]at h;right;rw[if_neg d];exact h
  ·rw[if_neg e]
   by_cases d:b=c
   ·subst d;rw[if_neg e]at h;exact .inl h
   ·rw[if_neg d]
    by_cases f:a=c
    ·subst f
     cases g:BQ a b with
     |true=>exact .inl rfl
     |false=>
      cases hd:BQ b a with
      |true=>exact .inr rfl
      |false=>exact absurd (F9.anti a b g hd) e
    ·rw[if_neg f]at h;exact F9.neg a b c h
theorem YX:∀a b,BD a b=false->BD b a=false->a=b
 |[],[],_,_=>rfl
 |[],_::_,h,_=>by cases h
 |_::_,[],_,h=>by cases h
 |a::r,b::s,c,d=>by
  unfold BD at c d
  by_cases e:a=b
  ·subst e;simp only[if_true]at c d;rw[YX r s c d]
  ·rw[if_neg e]at c;rw[if_neg (λz=>e z.symm)]at d;exact absurd (F9.anti a b c d) e
theorem O1:TO BD:=⟨YV,YW,YX⟩
def Fa:At->D
 |.non=>.tup [.int 0,.int 0]
 |.int i=>.tup [.int 1,.int i]
 |.str x=>.tup [.int 2,.str x]
def Fc:At->D
 |.non=>.tup [.int 0,.int 0,.str ""]
 |.int i=>.tup [.int 1,.int i,.str ""]
 |.str x=>.tup [.int 2,.int 0,.str x]
theorem nl(n:Nat)(a b:At):ltN (n+2) (Fa a) (Fa b)=some (BQ a b):=by
 cases a<;>cases b<;>simp[Fa,BQ]
 ·intro e;omega
 ·intro e;subst e;simp
theorem nq(a b:At):AB (Fa a) (Fa b)=decide (a=b):=by
 cases a<;>cases b<;>simp[Fa]
theorem YY(n:Nat)(a:At):A5 (n+1) (Fa a)=true:=by cases a<;>cases n<;>rfl
theorem YZ(n:Nat):∀l m:List At,Ey (ltN (n+2)) (l.map Fa) (m.map Fa)=some (BD l m)
 |[],[]=>rfl
 |[],_::_=>rfl
 |_::_,[]=>rfl
 |a::r,b::s=>by
  have c:=YZ n r s
  have d:=YY 11 a
  have e:=YY 11 b
  have f:=nq a b
  have g:=nl n a b
  simp only[AY,Ey,Kj,d,e,f,g,c,BD,EY,if_true,decide_eq_true_eq]
  split<;>rfl
theorem nr(n:Nat)(a b:At):ltN (n+2) (Fc a) (Fc b)=some (BQ a b):=by
 cases a<;>cases b<;>simp[Fc,BQ]
 ·intro e;omega
 ·intro e;subst e;simp
theorem Td{b:Type}[DecidableEq b]:∀(l:List b)(p:Option b),(Dx p l).length<=l.length
 |[],_=>BB _
 |a::r,p=>by
  unfold Dx
  split
  ·exact Nat.le_succ_of_le (Td r p)
  ·exact Nat.succ_le_succ (Td r _)
def mn(m y:Int):Int:=if y<m then y else m
def mx(m y:Int):Int:=if y>m then y else m
theorem Y0(m y:Int):mn m y=min m y:=by unfold mn;split<;>omega
theorem Y1(m y:Int):mx m y=max m y:=by unfold mx;split<;>omega
def BS(x:Int)(xs:List Int):D:=.tup [.int (xs.length+1:Nat),.int ((x::xs).sum),.int (xs.foldl mn x),.int (xs.foldl mx x)]
theorem Mf:(4:Nat)<=AG:=by decide
theorem Y2(a:Int):∀(ys:List Int)(b:Int),ys.foldl mn (mn a b)=mn a (ys.foldl mn b)
 |[],b=>rfl
 |y::ys,b=>by
  have e:mn (mn a b) y=mn a (mn b y):=by simp only[Y0];omega
  simp only[JZ,e,Y2 a ys]
theorem Y3(a:Int):∀(ys:List Int)(b:Int),ys.foldl mx (mx a b)=mx a (ys.foldl mx b)
 |[],b=>rfl
 |y::ys,b=>by
  have e:mx (mx a b) y=mx a (mx b y):=by simp only[Y1];omega
  simp only[JZ,e,Y3 a ys]
theorem Y4:∀(a b:List Int),(a++b).sum=a.sum+b.sum
 |[],b=>by simp
 |x::a,b=>by simp[Y4 a b,Int.add_assoc]
theorem nt(x y:Int)(xs ys:List Int):LV [.val (BS x xs),.val (BS y ys)]=some (.val (BS x (xs++y::ys))):=by
 have a:(xs++y::ys).foldl mn x=mn (xs.foldl mn x) (ys.foldl mn y):=by rw[List.foldl_append,JZ,Y2]
 have b:(xs++y::ys).foldl mx x=mx (xs.foldl mx x) (ys.foldl mx y):=by rw[List.foldl_append,JZ,Y3]
 simp[LV,Bm,Rh,BS,atI,DR,Mf,a,b,Y4]
 refine⟨by omega,by omega,rfl,rfl⟩
def Do(acc:Bx)(ps:List (At×D)):Bx:=ps.foldl (λa p=>B6 a (.at p.1) p.2) acc
theorem Ia(a:At):Dl (aD a)=some (.at a):=QK (.at a)
theorem O2{kvs:Bx}{a:At}{v:D}(h:∀p∈kvs,ED p.1=true):∀p∈B6 kvs (.at a) v,ED p.1=true:=λp b=>by
 rcases jJ b with b|rfl
 ·exact h p b
 ·rfl
theorem O3:∀(ps:List (At×D))(acc:Bx),(∀p∈acc,ED p.1=true)->acc.length+ps.length<=100000->Hk acc (ps.map λp=>.tup [aD p.1,p.2])=some (Do acc ps)
 |[],acc,_,_=>rfl
 |p::ps,acc,h,a=>by
  simp only[B8]at a
  have b:acc.length<AG:=Ca (show acc.length<100000 by omega) (by decide)
  have d:=Nd acc (.at p.1) p.2
  have c:=O3 ps (B6 acc (.at p.1) p.2) (O2 h) (by omega)
  simp only[AY,Hk,Ia,HP p.1 h,b,decide_true,EY,if_true,c]
  rfl
theorem Mg:∀(ps:List (At×D))(acc:Bx),(∀p∈acc,ED p.1=true)->∀p∈Do acc ps,ED p.1=true
 |[],_,h=>h
 |p::ps,acc,h=>Mg ps _ (O2 h)
theorem Y5:∀(ps:List (At×D))(acc:Bx),(Do acc ps).length<=acc.length+ps.length
 |[],acc=>BB _
 |p::ps,acc=>by
  have a:=Y5 ps (B6 acc (.at p.1) p.2)
  have b:=Nd acc (.at p.1) p.2
  simp only[Do,JZ,B8]at a ⊢
  omega
theorem Y6{a:At}:∀(ps:List (At×D))(acc:Bx),a∉ps.map (·.1)->ZS (Do acc ps) (.at a)=ZS acc (.at a)
 |[],_,_=>rfl
 |p::ps,acc,h=>by
  rw[AY,Bv,not_or]at h
  have b:=Y6 ps (B6 acc (.at p.1) p.2) h.2
  show ZS (Do (B6 acc (.at p.1) p.2) ps) _=_
  rw[b,Kf,if_neg (λe=>h.1 (KT.at.inj e).symm)]
theorem Te{a:At}{v:D}:∀(ps:List (At×D))(acc:Bx),(ps.map (·.1)).Nodup->(a,v)∈ps->ZS (Do acc ps) (.at a)=some v
 |p::ps,acc,b,h=>by
  rw[AY,E2]at b
  show ZS (Do (B6 acc (.at p.1) p.2) ps) _=_
  rcases Bv.mp h with rfl|h
  ·rw[Y6 ps _ b.1,Kf,if_pos rfl]
  ·exact Te ps _ b.2 h
theorem Y7(a:At):∀(ps:List (At×D))(acc:Bx),(ZS (Do acc ps) (.at a)).isSome=((ZS acc (.at a)).isSome||decide (a∈ps.map (·.1)))
 |[],acc=>by simp[Do]
 |p::ps,acc=>by
  have b:=Y7 a ps (B6 acc (.at p.1) p.2)
  show(ZS (Do (B6 acc (.at p.1) p.2) ps) _).isSome=_
  rw[b,Kf]
  by_cases e:p.1=a
  ·subst e;simp
  ·have c:¬ KT.at p.1=KT.at a:=λz=>e (KT.at.inj z)
   have d:¬ a=p.1:=λz=>e z.symm
   rw[if_neg c,HY]
   simp[d]
theorem sC{ps:List (At×D)}{a:At}{v:D}(b:(ps.map (·.1)).Nodup)(h:(a,v)∈ps):D0 (.lst (Zz (Do [] ps)) true) (aD a)=some v:=by
 have c:=HP (kvs:=Do [] ps) a (Mg ps [] λ_ h=>nomatch h)
 rw[LC,Ia]
 simp only[AA,c,if_true,Te ps [] b h]
theorem Y8(neg:Bool)(ps:List (At×D))(a:At):EE neg (aD a) (.lst (Zz (Do [] ps)) true)=some (.bl (neg != decide (a∈ps.map (·.1)))):=by
 have b:=HP (kvs:=Do [] ps) a (Mg ps [] λ_ h=>nomatch h)
 have d:=Y7 a ps []
 rw[Wh,Ia]
 simp only[AA,b,if_true,d]
 simp[ZS]
theorem Ib(a:At)(l:List At):C2 false (aD a) (.lst (l.map aD))=some (.bl (decide (a∈l)))/\C2 true (aD a) (.lst (l.map aD))=some (.bl (!decide (a∈l))):=by
 have b:(l.map aD).all (A5 12)=true:=by
  rw[HF,Ev]
  exact λx _=>Ks 12 x
 have c:F3 (aD a) (l.map aD)=decide (a∈l):=by
  unfold F3
  rw[HY,List.any_map,List.any_eq_true]
  constructor
  ·rintro⟨x,d,e⟩
   simp only[Function.comp,OT,decide_eq_true_eq]at e
   subst e;simpa using d
  ·intro h
   exact⟨a,by simpa using h,by simp[Function.comp,OT]⟩
 simp only[C2,Kj,Ks,b,c,EY,if_true,DS,if_false,and_self]
theorem Z9{a n:Nat}{g:VE->An}{b:List Sl}{r:Rv}(h:b.length=a)(e:g (b++DH (n-a) .no)=.ret r):Bm a n g b=some r:=by
 unfold Bm
 rw[if_pos h,e]
theorem Tf{a:Type}(x:a)(xs:List a):atI (x::xs) 0=some x:=by
 have:(0:Int)<(xs.length:Int)+1:=by omega
 simp[atI,DR,this]
theorem US{a:Type}(xs:List a)(x:a):atI (xs++[x]) (-1)=some x:=by
 have b:(-1+((xs.length:Int)+1)).toNat=xs.length:=by omega
 have c : -((xs.length:Int)+1) <= -1:=by omega
 simp[atI,DR,b,c]
theorem nu(a:At):NS [.val (aD a)]=some (.val (Fa a)):=by
 have b:(2:Nat)<=AG:=by decide
 cases a<;>simp[NS,Bm,Rr,Rf,Re,aD,Fa,b]
theorem nv(l:List At)(h:l.length<=1000):L7 [.val (Ah l)]=some (.val (.tup (l.map Fa))):=by
 have c:l.length<=AG:=CK h (by decide)
 have d:=Ec (b:=Zk 0) (e:=R9) (ρ:=[.no]) aD Fa l λa _=>⟨[.val (aD a)],rfl,by
  have:=nu a
  simp only[R9,Zo,Zb,Ao,AL,AA,this,AT,Fn]⟩
 simp[L7,Bm,Sa,Ah,c,ZV,d,-Dg]
theorem O4(s0:Sl):∀(c acc:List (List At))(j:Sl),acc.length+c.length<100000->∃a,ZO (Zk 2) HX (c.map Ah) [s0,.own (acc.map Ah),j]=.next [s0,.own ((acc++Dx acc.getLast? c).map Ah),a]
 |[],acc,j,_=>⟨j,by simp[ZO,Dx]⟩
 |l::c,acc,j,k=>by
  simp only[B8]at k
  have d:acc.length<AG:=Ca (show acc.length<100000 by omega) (by decide)
  have n:Li (some (.int 1))=some (.int (-1)):=rfl
  simp only[AY,ZO,Zk,AW,AU]
  rcases List.eq_nil_or_concat acc with rfl|⟨pre,x,rfl⟩
  ·obtain⟨a,e⟩:=O4 s0 c [l] (.val (Ah l)) (by simp;omega)
   refine⟨a,?_⟩
   have f:HX [s0,.own ([].map Ah),.val (Ah l)]=.next [s0,.own ([l].map Ah),.val (Ah l)]:=by
    have o:(0:Nat)<AG:=by decide
    simp[HX,o]
   have hd:Dx ([]:List (List At)).getLast? (l::c)=l::Dx (some l) c:=rfl
   rw[f,hd]
   exact e
  ·rw[List.concat_eq_append]at k d ⊢
   have g:Au (.lst ((pre++[x]).map Ah)) (.int (-1))=some (Ah x):=by
    show atI ((pre++[x]).map Ah) (-1)=_
    rw[D9];exact US _ _
   have h:B5 (some (.lst ((pre++[x]).map Ah)))=some true:=by simp
   have i:=YE x l
   have b:(pre++[x]).getLast?=some x:=by simp
   by_cases m:x=l
   ·subst m
    obtain⟨a,e⟩:=O4 s0 c (pre++[x]) (.val (Ah x)) (by omega)
    refine⟨a,?_⟩
    have f:HX [s0,.own ((pre++[x]).map Ah),.val (Ah x)]=.next [s0,.own ((pre++[x]).map Ah),.val (Ah x)]:=by
     simp only[HX,Zf,ZI,FE,CM,AS,Zd,Ai,A8,BX,AN,AL,AA,AT,h,n,g,i,decide_true,GK]
    rw[f,b,Dx,if_pos rfl,<- b]
    exact e
   ·obtain⟨a,e⟩:=O4 s0 c (pre++[x]++[l]) (.val (Ah l)) (by simp at k ⊢;omega)
    refine⟨a,?_⟩
    have p:(pre++[x]++[l]).getLast?=some l:=by simp
    have f:HX [s0,.own ((pre++[x]).map Ah),.val (Ah l)]=.next [s0,.own ((pre++[x]++[l]).map Ah),.val (Ah l)]:=by
     rw[show((pre++[x]++[l]).map Ah)=(pre++[x]).map Ah++[Ah l] by simp]
     simp only[HX,Zf,ZI,FE,CM,AS,Zd,Ai,A8,BX,AN,AL,AA,AT,h,n,g,i,m,decide_false,Ku,GK,CI,BY,d,if_true,AW,AU]
    rw[f,b,Dx,if_neg (by simpa using m)]
    rw[p]at e
    rw[show pre++[x]++l::Dx (some l) c=pre++[x]++[l]++Dx (some l) c by simp]
    exact e
theorem Y9(s:Sl)(b:List (List At))(i:s=.val (.lst (b.map Ah))\/s=.lent (b.map Ah))(j:b.length<64)(f:∀l∈b,l≠[]/\l.length<=1000):Oy [s]=some (.own ((Dx none (Z2 BD b)).map Ah)):=by
 have c:=nj (F:=L7) Ah O1 false b j (λl=>.tup (l.map Fa)) (λl h=>nv l (f l h).2) (λl h=>by
  cases l with
  |nil=>exact absurd rfl (f [] h).1
  |cons a r=>cases a<;>exact⟨_,_,rfl⟩) (λl _ m _=>YZ 3 l m)
 have g:=(D1 BD b).length_eq
 obtain⟨k,e⟩:=O4 s (Z2 BD b) [] .no (by rw[g];simp;omega)
 have n:(Z2 BD b).length<=AG:=by rw[g];exact CK (show b.length<=1000 by omega) (by decide)
 simp only[Dd,Jd,List.getLast?_nil]at e
 refine Z9 rfl ?_
 show Ox [s,.no,.no]=_
 have d:Zr (some ([]:List D))=some []:=rfl
 rcases i with rfl|rfl<;>simp only[Ox,Zf,CN,ZT,Nm,ZF,Zy,Ai,BX,Cf,Zt,d,c,e,AN,AL,AA,AT,AW,AU]
def Tg(a b:At):Bool:=BD [a] [b]
theorem ny(a b:At):Tg a b=BQ a b:=by
 unfold Tg BD
 by_cases h:a=b
 ·subst h;simp[BD,F9.irr]
 ·rw[if_neg h]
theorem aa(a:At):∀l:List At,FM BD [a] (l.map λx=>[x])=(FM BQ a l).map λx=>[x]
 |[]=>rfl
 |b::r=>by
  have h:=ny a b
  unfold Tg at h
  simp only[AY,FM,h,aa a r]
  split<;>rfl
theorem ac:∀l:List At,Z2 BD (l.map λx=>[x])=(Z2 BQ l).map λx=>[x]
 |[]=>rfl
 |a::r=>by simp only[AY,Z2,ac r,aa]
theorem Th:∀(l:List At)(p:Option At),Dx (p.map λx=>[x]) (l.map λx=>[x])=(Dx p l).map λx=>[x]
 |[],_=>rfl
 |a::r,p=>by
  have h:(p.map (λx=>[x])=some [a])↔p=some a:=by cases p<;>simp
  simp only[AY,Dx,h]
  split
  ·exact Th r p
  ·have:=Th r (some a)
   simp only[Hz]at this
   rw[this];rfl
theorem nz(s:Sl)(l:List At)(h:s=.val (.lst (l.map aD))\/s=.lent (l.map aD))(i:l.length<64):Sq [s]=some (.own ((Dx none (Z2 BQ l)).map aD)):=by
 have j:l.length<=AG:=CK (show l.length<=1000 by omega) (by decide)
 have k:(1:Nat)<=AG:=by decide
 have f:=Ec (b:=Zk 0) (e:=Sn) (ρ:=[.no]) aD (λa=>Ah [a]) l λa _=>⟨[.val (aD a)],rfl,by simp[Sn,Ah,k]⟩
 have o:(l.map λa=>Ah [a])=(l.map λx=>[x]).map Ah:=by rw[Dg];rfl
 have g:=Y9 (.val (.lst ((l.map λx=>[x]).map Ah))) (l.map λx=>[x]) (.inl rfl) (by simpa using i) (λm p=>by obtain⟨a,_,rfl⟩:=List.mem_map.mp p;exact⟨by simp,by simp⟩)
 rw[ac,show(none:Option (List At))=(none:Option At).map (λx=>[x])from rfl,Th]at g
 have c:(Dx none (Z2 BQ l)).length<=l.length:=by
  have q:=(D1 BQ l).length_eq
  rw[<- q]
  exact Td _ _
 generalize u:Dx none (Z2 BQ l)=W at *
 have r:W.length<=AG:=CK c j
 have hd:=Ec (b:=Zk 0) (e:=So) (ρ:=[.no]) (λa=>Ah [a]) aD W λa _=>⟨[.val (Ah [a])],rfl,by
  have:Au (Ah [a]) (.int 0)=some (aD a):=by show atI ([a].map aD) 0=_;exact Tf _ _
  simp only[So,Zd,Ai,AL,AA,this]⟩
 have t:(W.map λa=>Ah [a])=(W.map λx=>[x]).map Ah:=by rw[Dg];rfl
 rw[o]at f
 rw[t]at hd
 have q1:Zr (some (l.map aD))=some (l.map aD):=ZC _ (by simp;omega)
 have q2:Zr (some ((W.map λx=>[x]).map Ah))=some ((W.map λx=>[x]).map Ah):=ZC _ (by simp;omega)
 generalize (l.map λx=>[x]).map Ah=A at *
 generalize (W.map λx=>[x]).map Ah=B at *
 refine Z9 rfl ?_
 show Oz [s]=_
 have d:ZV 1 [] [s]=[.no]:=rfl
 rcases h with rfl|rfl<;>simp only[Oz,Zf,Cf,ZM,d,A6,Zy,Zo,Zb,Zj,ZF,AL,AA,AT,q1,f,g,DO,q2,hd]
theorem Mh(l:List At)(j:Nat)(h:l.length<=1000):F6 [.val (Ah l),.val (.int (j:Int))]=some (.val (aD (l.getD j .non))):=by
 have d:l.length<=AG:=CK h (by decide)
 by_cases c:j<l.length
 ·have b:(j:Int)<(l.length:Int):=by omega
  have:Au (Ah l) (.int (j:Int))=some (aD (l.getD j .non)):=by
   show atI (l.map aD) (j:Int)=_
   exact DJ (by simp[CH c,Cq])
  have a:B9 [Ah l]=some (.int (l.length:Int)):=by simp[Ah]
  simp[F6,Bm,NC,-Au,-B9,a,this,b]
 ·have b:¬ (j:Int)<(l.length:Int):=by omega
  have a:B9 [Ah l]=some (.int (l.length:Int)):=by simp[Ah]
  have e:l.getD j .non=.non:=by simp[Cq,Qi (show l.length<=j by omega)]
  rw[e]
  simp[F6,Bm,NC,-Au,-B9,a,b,aD]
theorem O5{c:Type}{b:D->VE->Option VE}{t:VE->Option Bool}{e:VE->Option D}{ρ:VE}(G F:c->D)(P:c->Bool):∀(xs:List c),(∀x∈xs,∃a,b (G x) ρ=some a/\t a=some (P x)/\e a=some (F x))->C1 b t e ρ (xs.map G)=some ((xs.filter P).map F)
 |[],_=>rfl
 |x::xs,h=>by
  obtain⟨a,d,f,j⟩:=h x BA
  have g:=O5 G F P xs λy k=>h y (Bt _ k)
  cases i:P x with
  |true=>simp[C1,d,f,j,i,g]
  |false=>simp[C1,d,f,i,g]
def Av(l:List At):At:=l.getD 0 .non
theorem Ti(a b:At):C9 (aD a) (aD b)=some (.bl (decide (a=b))):=by
 simp only[C9,Kj,Ks,OT,EY,if_true]
theorem GL(l:List At)(h:l≠[]):Au (Ah l) (.int 0)=some (aD (Av l)):=by
 cases l with
 |nil=>exact absurd rfl h
 |cons a r=>show atI ((a::r).map aD) 0=_;exact Tf _ _
theorem nA{l:List At}(h:l.Nodup):Dx none (Z2 BQ l)=Z2 BQ l:=Tc _ _ ((D1 BQ l).nodup_iff.mpr h) λ_ e=>by cases e
theorem nB{C:VE->Option D}(b:∀a,C [.val (aD a)]=some (.bl false))(l:List At):C1 (Zk 0) (λ_=>some true) C [.no] (l.map aD)=some ((l.map λ_=>false).map D.bl):=by
 rw[Ec aD (λ_=>D.bl false) l λa _=>⟨[.val (aD a)],rfl,b a⟩]
 simp
theorem nC(l:List At):Lp [.lst ((l.map λ_=>false).map D.bl)]=some (.bl false):=by
 simp only[Lp,NA,Hz]
 congr 2
 rw[List.any_map]
 simp
theorem DP(x n:Int)(h:0<n):Z6 (.int x) (.int n)=some (.int (x%n)):=by
 show(if 0<n then some (D.int (x%n))else none)=_
 rw[if_pos h]
theorem Hn(x:Int)(n:Nat)(h:0<n):∃a:Nat,x%(n:Int)=(a:Int)/\a<n:=by
 have b:=OW x (show(n:Int)≠0 by omega)
 have c:=SU x (show(0:Int)<(n:Int) by omega)
 exact⟨(x%(n:Int)).toNat,by omega,by omega⟩
theorem nE(a:At):NH [.val (aD a)]=some (.val (Fc a)):=by
 have b:(3:Nat)<=AG:=by decide
 cases a<;>simp[NH,Bm,Rm,aD,Fc,b]
structure Ga(w:Nat)(la:List (List At)):Prop where
 w0:0<w
 w4:w<=4
 l0:0<la.length
 l9:la.length<=40
 len:∀l∈la,l.length=w
 vs:∀l∈la,∀a∈l,a≠.non
 nd:(la.map Av).Nodup
structure AP where
 a:Nat
 lv:Nat
 tp:Bool
 vs:List At
def Di(q:AP):D:=if q.tp then .tup (q.vs.map aD)else .lst (q.vs.map aD)
def AJ(q:AP):D:=.tup [.int (q.a:Int),.int (q.lv:Int),Di q]
theorem nG(a:At)(l:List At):C2 true (aD a) (.tup (l.map aD))=some (.bl (!decide (a∈l))):=(Ib a l).2
theorem nH(a:At)(q:AP):C2 true (aD a) (Di q)=some (.bl (!decide (a∈q.vs))):=by
 unfold Di
 cases q.tp
 ·exact(Ib a q.vs).2
 ·exact nG a q.vs
def ZP(b:List AP)(x:Nat)(l:List At):Bool:=b.all λq=>if q.a=x then decide (l.getD q.lv .non∈q.vs)else true
def keep(x:Nat):List AP->List (List At)->List (List At)
 |[],la=>la
 |q::b,la=>keep x b (if q.a=x then la.filter (λl=>decide (l.getD q.lv .non∈q.vs))else la)
theorem ae(x:Nat):∀(b:List AP)(la:List (List At)),keep x b la=la.filter (ZP b x)
 |[],la=>by
  unfold keep
  rw[List.filter_eq_self.mpr]
  intro l _;rfl
 |q::b,la=>by
  unfold keep
  rw[ae x b]
  by_cases h:q.a=x
  ·rw[if_pos h,List.filter_filter]
   refine List.filter_congr λl _=>?_
   unfold ZP
   rw[D7,if_pos h,Bool.and_comm]
  ·rw[if_neg h]
   refine List.filter_congr λl _=>?_
   unfold ZP
   rw[D7,if_neg h,HZ]
theorem Tj(s0 c:Sl)(x:Nat):∀(f:List AP)(la:List (List At))(j d:Sl),(∀q∈f,q.vs.length<=50)->la.length<=1000->(∀l∈la,l.length<=4) ->
  ∃n o,ZO (Zk 4) Kq (f.map AJ) [s0,c,.val (.int (x:Int)),.val (.lst (la.map Ah)),j,d]=.next [s0,c,.val (.int (x:Int)),.val (.lst ((keep x f la).map Ah)),n,o]
 |[],la,j,d,_,_,_=>⟨j,d,rfl⟩
 |q::f,la,j,d,r,H,s=>by
  have N:=r q BA
  have I:Au (AJ q) (.int 0)=some (.int (q.a:Int)):=rfl
  have O:Au (AJ q) (.int 1)=some (.int (q.lv:Int)):=rfl
  have i2:Au (AJ q) (.int 2)=some (Di q):=rfl
  have u:Zy (Di q)=some (q.vs.map aD):=by unfold Di;cases q.tp<;>rfl
  have q1:Zr (some (q.vs.map aD))=some (q.vs.map aD):=ZC _ (by simp;omega)
  have q2:Zr (some (la.map Ah))=some (la.map Ah):=ZC _ (by simp;omega)
  have k:C9 (.int (q.a:Int)) (.int (x:Int))=some (.bl (decide (q.a=x))):=by simp;omega
  simp only[AY,ZO,Zk,AW,AU]
  by_cases m:q.a=x
  ·rw[decide_eq_true m]at k
   have J:=Ec (b:=Zk 0) (e:=Su) (ρ:=[.no]) aD (λa=>.tup [aD a,.bl true]) q.vs λa _=>⟨[.val (aD a)],rfl,by
    have w:Zr (some [aD a,.bl true])=some [aD a,.bl true]:=ZC _ (by simp)
    simp only[Su,Zb,Zj,Zt,A8,AL,AA,AT,w]⟩
   have M:=O3 (q.vs.map λa=>(a,D.bl true)) [] (λ_ h=>nomatch h) (by simp;omega)
   rw[Dg]at M
   have hd:∀a,EE false (aD a) (.lst (Zz (Do [] (q.vs.map λa=>(a,D.bl true)))) true)=some (.bl (decide (a∈q.vs))):=λa=>by
    rw[Y8,Dg]
    have:((λx:At×D=>x.1)∘λa=>(a,D.bl true))=λa:At=>a:=rfl
    rw[this,List.map_id']
    cases decide (a∈q.vs)<;>rfl
   have Q:(q.vs.map λa=>D.tup [aD a,.bl true])=q.vs.map ((λp=>D.tup [aD p.1,p.2])∘λa=>(a,D.bl true)):=rfl
   rw[Q]at J
   generalize Do [] (q.vs.map λa=>(a,D.bl true))=KV at *
   generalize q.vs.map ((λp=>D.tup [aD p.1,p.2])∘λa=>(a,D.bl true))=PS at *
   have z:=O5 (b:=Zk 0) (t:=Sv) (e:=X5) (ρ:=[.no,.val (AJ q),.lent (Zz KV) true]) Ah Ah (λl=>decide (l.getD q.lv .non∈q.vs)) la λl A=>⟨[.val (Ah l),.val (AJ q),.lent (Zz KV) true],rfl,by
    have T:=Mh l q.lv (by have:=s l A;omega)
    have U:=hd (l.getD q.lv .non)
    simp only[Sv,Zo,Zb,Zj,Ao,Ai,Zd,AS,AN,AL,AA,AT,O,T,Cr,U],rfl⟩
   obtain⟨a,b,e⟩:=Tj s0 c x f (la.filter (λl=>decide (l.getD q.lv .non∈q.vs))) (.val (AJ q)) (.own (Zz KV) true) (λy B=>r y (Bt _ B)) (CK (Kv _ _) H) (λl A=>s l (List.mem_filter.mp A).1)
   refine⟨a,b,?_⟩
   have C:Kq [s0,c,.val (.int (x:Int)),.val (.lst (la.map Ah)),.val (AJ q),d]=.next [s0,c,.val (.int (x:Int)),.val (.lst ((la.filter (λl=>decide (l.getD q.lv .non∈q.vs))).map Ah)),.val (AJ q),.own (Zz KV) true]:=by
    generalize (la.filter (λl=>decide (l.getD q.lv .non∈q.vs))).map Ah=L2 at *
    generalize la.map Ah=L at *
    generalize q.vs.map aD=Y at *
    generalize AJ q=E at *
    have g:∀v:VE,ZV 1 [] v=[.no]:=λ_=>rfl
    have G:Zy (.lst L)=some L:=rfl
    have i:ZV 1 [4,5] [s0,c,.val (.int (x:Int)),.val (.lst L),.val E,.own (Zz KV) true]=[.no,.val E,.lent (Zz KV) true]:=rfl
    simp only[Kq,Zf,ZI,AS,Zd,Ai,A6,Zw,ES,HU,ZF,ZM,g,i,AN,AL,AW,AU,AA,AT,I,k,i2,u,q1,J,M,G,q2,z]
   rw[C]
   unfold keep
   rw[if_pos m]
   exact e
  ·rw[decide_eq_false m]at k
   obtain⟨a,b,e⟩:=Tj s0 c x f la (.val (AJ q)) d (λy B=>r y (Bt _ B)) H s
   refine⟨a,b,?_⟩
   have C:Kq [s0,c,.val (.int (x:Int)),.val (.lst (la.map Ah)),.val (AJ q),d]=.next [s0,c,.val (.int (x:Int)),.val (.lst (la.map Ah)),.val (AJ q),d]:=by
    generalize la.map Ah=L at *
    generalize AJ q=E at *
    simp only[Kq,Zf,ZI,AS,Zd,Ai,AN,AL,AA,I,k]
   rw[C]
   unfold keep
   rw[if_neg m]
   exact e
theorem af(L:D)(c:List AP)(x w:Nat)(la:List (List At))(j:Au L (.int (x:Int))=some (.lst (la.map Ah)))(h:Ga w la)(k:∀q∈c,q.vs.length<=50):Sx [.val L,.val (.lst (c.map AJ)),.val (.int (x:Int))]=some (.own ((Z2 BQ ((la.filter (ZP c x)).map Av)).map aD)):=by
 have s:=h.l9
 have t:=h.w0
 obtain⟨a,b,e⟩:=Tj (.val L) (.val (.lst (c.map AJ))) x c la .no .no k (by omega) (λl m=>by rw[h.len l m];exact h.w4)
 rw[ae]at e
 have n:=Kv (ZP c x) la
 have f:=Ec (b:=Zk 0) (e:=Sw) (ρ:=[.no]) Ah (λl=>aD (Av l)) (la.filter (ZP c x)) λl o=>⟨[.val (Ah l)],rfl,by
  have p:=GL l (by have:=h.len l (List.mem_filter.mp o).1;rintro rfl;simp at this;omega)
  simp only[Sw,Ai,Zd,AL,AA,p]⟩
 rw[show((la.filter (ZP c x)).map λl=>aD (Av l))=((la.filter (ZP c x)).map Av).map aD by rw[Dg];rfl]at f
 have i:=nz (.val (.lst (((la.filter (ZP c x)).map Av).map aD))) ((la.filter (ZP c x)).map Av) (.inl rfl) (by rw[BY];omega)
 rw[nA (List.Nodup.sublist (List.filter_sublist.map _) h.nd)]at i
 have q1:Zr (some ((la.filter (ZP c x)).map Ah))=some ((la.filter (ZP c x)).map Ah):=ZC _ (by rw[BY];omega)
 generalize (Z2 BQ ((la.filter (ZP c x)).map Av)).map aD=W at *
 generalize ((la.filter (ZP c x)).map Av).map aD=u at *
 generalize (la.filter (ZP c x)).map Ah=L2 at *
 generalize la.map Ah=v at *
 generalize c.map AJ=r at *
 refine Z9 rfl ?_
 show OB [.val L,.val (.lst r),.val (.int (x:Int)),.no,.no,.no]=_
 have d:∀g:VE,ZV 1 [] g=[.no]:=λ_=>rfl
 simp only[OB,Zf,Zw,ZT,Cf,Zd,Ai,A6,Zy,Gs,Zb,Zj,ZF,ZM,d,AN,AL,AW,AU,AA,AT,j,e,q1,f,i,MR]
def LD(a:List (Nat×List (List At))):D:=.lst (a.map λp=>.lst (p.2.map Ah))
structure O6(Ls:List (Nat×List (List At))):Prop where
 one:1<=Ls.length
 few:Ls.length<=4
 la:∀p∈Ls,Ga p.1 p.2
 l8:∀p∈Ls,p.2.length<=8
def GD(gs:List Nat):D:=.tup (gs.map λ(n:Nat)=>D.int (n:Int))
def Mi(a:List (Nat×List (List At)))(gs:List Nat):Prop:=gs.length=a.length/\∀x w la,a[x]?=some (w,la)->gs.getD x 0<=w
theorem ag{a:List (Nat×List (List At))}{x w:Nat}{la:List (List At)}(h:a[x]?=some (w,la)):Au (LD a) (.int (x:Int))=some (.lst (la.map Ah)):=DJ (by rw[Dy,h];rfl)
theorem ah{gs:List Nat}{x:Nat}(h:x<gs.length):Au (GD gs) (.int (x:Int))=some (.int ((gs.getD x 0:Nat):Int)):=DJ (by rw[Dy,CH h];simp[Cq,CH h])
theorem nI(a:List (Nat×List (List At))):B9 [LD a]=some (.int (a.length:Int)):=by simp only[LD,B9,BY]
theorem ai{w:Nat}{la:List (List At)}(h:Ga w la):∃l0,Au (.lst (la.map Ah)) (.int 0)=some (Ah l0)/\B9 [Ah l0]=some (.int (w:Int)):=by
 cases a:la with
 |nil=>have:=h.l0;rw[a]at this;simp at this
 |cons l0 r=>
  have:=h.len l0 (by rw[a];exact BA)
  exact⟨l0,by simp[atI,DR],by simp[Ah,this]⟩
def Fd(b:List (Nat×List (List At)))(q:AP):Prop:=q.vs.length<=50/\∃p,b[q.a]?=some p/\q.lv<=p.1
theorem Tk{g m:Type}{f:g->m}:∀{l:List g},(l.map f).Nodup->∀{a b:g},a∈l->b∈l->f a=f b->a=b
 |x::r,h,a,b,n,j,e=>by
  rw[AY,E2]at h
  rcases Bv.mp n with k|d
  ·rcases Bv.mp j with i|c
   ·rw[k,i]
   ·rw[k]at e
    exact absurd (List.mem_map.mpr ⟨b,c,e.symm⟩) h.1
  ·rcases Bv.mp j with i|c
   ·rw[i]at e
    exact absurd (List.mem_map.mpr ⟨a,d,e⟩) h.1
   ·exact Tk h.2 d c e
theorem O7{w:Nat}{la:List (List At)}(h:Ga w la)(P:List At->Bool){l:List At}(b:l∈la):decide (Av l∈(la.filter P).map Av)=P l:=by
 rw[HY,decide_eq_true_eq]
 constructor
 ·intro a
  obtain⟨m,a,e⟩:=List.mem_map.mp a
  obtain⟨c,d⟩:=List.mem_filter.mp a
  rw[<- Tk h.nd c b e]
  exact d
 ·intro f
  exact List.mem_map.mpr ⟨l,List.mem_filter.mpr ⟨b,f⟩,rfl⟩
def FN(a:List AP)(x g:Nat)(l:List At):Option At:=if ZP a x l=true then some (l.getD g .non)else none
def FO(b:List AP)(x k g:Nat)(one a:List At):Bool:=decide (one.getD k .non=a.getD k .non)&&!decide (FN b x g one=FN b x g a)
def Ic(t:Nat×At×At):D:=.tup [.int (t.1:Int),aD t.2.1,aD t.2.2]
theorem nJ(b:List AP)(x k g:Nat)(one a:List At):FO b x k g one a=(decide (one.getD k .non=a.getD k .non)&&((ZP b x one != ZP b x a)||(ZP b x one&&!decide (one.getD g .non=a.getD g .non)))):=by
 unfold FO FN
 cases ZP b x one<;>cases ZP b x a<;>simp
theorem aj(b:List (List At)):C2 false (.lst []) (.lst (b.map λm=>D.lst (m.map aD)))=some (.bl (b.any λm=>m.isEmpty)):=by
 have c:A5 B4 (.lst [])=true:=rfl
 have d:(b.map λm=>D.lst (m.map aD)).all (A5 B4)=true:=by
  rw[HF,Ev]
  intro m _
  show(m.map aD).all (A5 11)=true
  rw[HF,Ev]
  exact λa _=>Ks 11 a
 have e:F3 (.lst []) (b.map λm=>D.lst (m.map aD))=b.any λm=>m.isEmpty:=by
  unfold F3
  rw[List.any_map]
  congr 1
  funext m
  cases m<;>rfl
 simp only[C2,c,d,e,EY,if_true,DS,if_false]
def E1(a:List (Nat×List (List At)))(b:List AP):Bool:=(A7 a.length).any λx=>(((a.getD x (0,[])).2).filter (ZP b x)).isEmpty
theorem nK{a:List (Nat×List (List At))}{x:Nat}(b:x<a.length):∃w la,a[x]?=some (w,la)/\(a.getD x (0,[])).2=la:=⟨(a[x]).1,(a[x]).2,by rw[CH b],by simp[Cq,CH b]⟩
def Fv:D:=.tup [.str "out",.non]
def Kw(a:At):D:=.tup [.str "in",aD a]
def Gb(o:Option At):D:=match o with
 |some a=>Kw a
 |none=>Fv
def Kx(o:Option At):List At:=match o with
 |some a=>[.str "in",a]
 |none=>[.str "out",.non]
theorem ak(o:Option At):Gb o=Ah (Kx o):=by cases o<;>rfl
theorem nM(o p:Option At):Ew (Gb o) (Gb p)=some (.bl (!decide (o=p))):=by
 have c:¬ (At.str "out"=At.str "in"):=λz=>by
  have h:¬ (Dt "out"=Dt "in"):=by decide +kernel
  exact h (by injection z)
 rw[ak,ak,YE]
 have:(Kx o=Kx p)↔o=p:=by
  cases o with
  |none=>cases p with
   |none=>simp
   |some b=>
    simp only[Kx,Lx,reduceCtorEq,iff_false]
    exact λz=>c z.1
  |some a=>cases p with
   |none=>
    simp only[Kx,Lx,reduceCtorEq,iff_false]
    exact λz=>c z.1.symm
   |some b=>simp[Kx]
 simp only[this]
def Tl(la:List (List At))(f:List At->Option At)(kvs:Bx):Prop:=(∀p∈kvs,ED p.1=true)/\kvs.length<=100/\∀l∈la,ZS kvs (.at (Av l))=some (Gb (f l))
theorem Tn(s0:Sl)(w g:Nat)(la:List (List At))(h:Ga w la)(H:la.length<=8)(ch:List At):∀(o done:List (List At))(kvs:Bx)(u:Sl),la=done++o->(∀p∈kvs,ED p.1=true)->kvs.length<=8+done.length->(∀l∈la,ZS kvs (.at (Av l))=some (if l∈done/\Av l∈ch then Kw (l.getD g .non)else Fv)) ->
  ∃(c:Bx) (f:Sl),Tl la (λl=>if Av l∈ch then some (l.getD g .non)else none) c/\ZO (Zk 4) Kn (o.map Ah) [s0,.val (.int (g:Int)),.val (.lst (ch.map aD)),.own (Zz kvs) true,u]=.next [s0,.val (.int (g:Int)),.val (.lst (ch.map aD)),.own (Zz c) true,f]
 |[],done,kvs,u,i,s,J,v=>⟨kvs,u,⟨s,by rw[Es]at i;subst i;omega,λl q=>by
   rw[Es]at i
   subst i
   rw[v l q]
   show _=some (Gb (if Av l∈ch then some (l.getD g .non)else none))
   by_cases j:Av l∈ch
   ·rw[if_pos ⟨q,j⟩,if_pos j];rfl
   ·rw[if_neg (λz=>j z.2),if_neg j];rfl⟩,rfl⟩
 |l::o,done,kvs,u,i,s,J,v=>by
  have q:l∈la:=by rw[i];simp
  have x:l≠[]:=λz=>by have q1:=h.len l q;have q2:=h.w0;rw[z]at q1;simp at q1;omega
  have I:=GL l x
  have k:=(Ib (Av l) ch).1
  have y:=Mh l g (by have q1:=h.len l q;have q2:=h.w4;omega)
  have L:done.length+o.length+1=la.length:=by rw[i];simp;omega
  have n:∀m∈la,Av m=Av l->m=l:=λm r e=>Tk h.nd r q e
  simp only[AY,ZO,Zk,AW,AU]
  by_cases j:Av l∈ch
  ·rw[decide_eq_true j]at k
   have hok:=Ia (Av l)
   have M:=HP (Av l) s
   have A:decide (kvs.length<AG)=true:=decide_eq_true (Ca (show kvs.length<1000 by omega) (by decide))
   have B:=Kb kvs
   have N:=Nd kvs (.at (Av l)) (Kw (l.getD g .non))
   obtain⟨c,f,C,e⟩:=Tn s0 w g la h H ch o (done++[l]) (B6 kvs (.at (Av l)) (Kw (l.getD g .non))) (.val (Ah l)) (by rw[i];simp) (O2 s) (by rw[Fj,B8,DT];omega) (λm r=>by
    rw[Kf]
    by_cases d:m=l
    ·subst d
     rw[if_pos rfl,if_pos ⟨by simp,j⟩]
    ·have t:¬ KT.at (Av l)=KT.at (Av m):=λz=>d (n m r (by injection z with z;exact z.symm))
     rw[if_neg t,v m r]
     have:(m∈done++[l]/\Av m∈ch)↔(m∈done/\Av m∈ch):=by simp[d]
     simp only[this])
   refine⟨c,f,C,?_⟩
   have E:∀a b:D,Zr (some [a,b])=some [a,b]:=λ_ _=>ZC _ (by simp)
   have G:Kn [s0,.val (.int (g:Int)),.val (.lst (ch.map aD)),.own (Zz kvs) true,.val (Ah l)]=.next [s0,.val (.int (g:Int)),.val (.lst (ch.map aD)),.own (Zz (B6 kvs (.at (Av l)) (Kw (l.getD g .non)))) true,.val (Ah l)]:=by
    unfold Kw
    generalize aD (l.getD g .non)=U at *
    generalize aD (Av l)=O at *
    generalize ch.map aD=Q at *
    generalize Zz kvs=T at *
    simp only[Kn,I,k,y,Cr,E,HN,ER,B,hok,M,A,EY,if_true,Zf,ZI,AS,Zd,CB,Ai,A8,Ao,Zo,Zb,Zj,Zt,ZF,ZA,CA,Bw,pk,Cw,Zw,ZH,AN,AL,AW,AU,AA,AT]
   rw[G]
   exact e
  ·rw[decide_eq_false j]at k
   obtain⟨c,f,C,e⟩:=Tn s0 w g la h H ch o (done++[l]) kvs (.val (Ah l)) (by rw[i];simp) s (by rw[Fj];omega) (λm r=>by
    rw[v m r]
    have:(m∈done++[l]/\Av m∈ch)↔(m∈done/\Av m∈ch):=by
     by_cases d:m=l
     ·subst d;simp[j]
     ·simp[d]
    simp only[this])
   refine⟨c,f,C,?_⟩
   have G:Kn [s0,.val (.int (g:Int)),.val (.lst (ch.map aD)),.own (Zz kvs) true,.val (Ah l)]=.next [s0,.val (.int (g:Int)),.val (.lst (ch.map aD)),.own (Zz kvs) true,.val (Ah l)]:=by
    generalize aD (Av l)=O at *
    generalize ch.map aD=Q at *
    generalize Zz kvs=T at *
    simp only[Kn,I,k,Zf,ZI,AS,Zd,CB,Ai,A8,Ao,Zo,Zb,Zj,Zt,ZF,ZA,CA,Bw,pk,Cw,Zw,ZH,AN,AL,AW,AU,AA,AT]
   rw[G]
   exact e
theorem nN{w:Nat}{la:List (List At)}(h:Ga w la)(o:la.length<=8)(g:Nat)(ch:List At):∃kvs,Tl la (λl=>if Av l∈ch then some (l.getD g .non)else none) kvs/\Rw [.val (.lst (la.map Ah)),.val (.int (g:Int)),.val (.lst (ch.map aD))]=some (.own (Zz kvs) true):=by
 have i:∀l∈la,l≠[]:=λl c z=>by have q1:=h.len l c;have q2:=h.w0;rw[z]at q1;simp at q1;omega
 have p:=Ec (b:=Zk 0) (e:=Ru) (ρ:=[.no]) Ah (λl=>D.tup [aD (Av l),Fv]) la λl c=>⟨[.val (Ah l)],rfl,by
  have q:=GL l (i l c)
  have j:∀a b:D,Zr (some [a,b])=some [a,b]:=λ_ _=>ZC _ (by simp)
  unfold Fv
  simp only[Ru,q,j,Zf,ZI,AS,Zd,CB,Ai,A8,Ao,Zo,Zb,Zj,Zt,ZF,ZA,CA,Bw,pk,Cw,Zw,ZH,AN,AL,AW,AU,AA,AT]⟩
 have d:=O3 (la.map λl=>(Av l,Fv)) [] (λ_ h=>nomatch h) (by simp;omega)
 rw[Dg]at d
 have f:Hk [] (la.map λl=>D.tup [aD (Av l),Fv])=some (Do [] (la.map λl=>(Av l,Fv))):=d
 have k:((la.map λl=>(Av l,Fv)).map (·.1)).Nodup:=by rw[Dg];exact h.nd
 have m:=Y5 (la.map λl=>(Av l,Fv)) []
 obtain⟨kvs,r,s,e⟩:=Tn (.val (.lst (la.map Ah))) w g la h o ch la [] (Do [] (la.map λl=>(Av l,Fv))) .no rfl (Mg _ _ (λ_ h=>nomatch h)) (by simp at m ⊢;omega) (λl c=>by
  rw[Te (v:=Fv) _ _ k (List.mem_map.mpr ⟨l,c,rfl⟩)]
  simp)
 refine⟨kvs,s,?_⟩
 have q1:Zr (some (la.map Ah))=some (la.map Ah):=ZC _ (by simp;omega)
 refine Z9 rfl ?_
 show NU [.val (.lst (la.map Ah)),.val (.int (g:Int)),.val (.lst (ch.map aD)),.no,.no]=_
 have n:ZV 1 [] [.val (.lst (la.map Ah)),.val (.int (g:Int)),.val (.lst (ch.map aD)),.no,.no]=[.no]:=rfl
 generalize (la.map λl=>D.tup [aD (Av l),Fv])=u at *
 generalize Do [] (la.map λl=>(Av l,Fv))=x at *
 generalize la.map Ah=y at *
 generalize ch.map aD=A at *
 simp only[NU,HU,ZM,n,A6,Zy,q1,p,f,ES,ZT,e,ER,IB,Zf,ZI,AS,Zd,CB,Ai,A8,Ao,Zo,Zb,Zj,Zt,ZF,ZA,CA,Bw,pk,Cw,Zw,ZH,AN,AL,AW,AU,AA,AT]
def Fe(k:Nat)(done:List (List At))(v:At):Option (List At):=done.find? λl=>decide (l.getD k .non=v)
theorem O8(k:Nat)(l:List At)(v:At):List.find? (λl=>decide (l.getD k .non=v)) [l]=if l.getD k .non=v then some l else none:=by
 by_cases h:l.getD k .non=v
 ·rw[if_pos h,List.find?_cons_of_pos (p:=λl=>decide (l.getD k .non=v)) (a:=l) (decide_eq_true h)]
 ·rw[if_neg h,List.find?_cons_of_neg (p:=λl=>decide (l.getD k .non=v)) (a:=l) (λz=>h (of_decide_eq_true z)),List.find?_nil]
theorem al(s1 n o:Sl)(w k:Nat)(hkk:s1=.val (.int (k:Int)))(la:List (List At))(h:Ga w la)(h8:la.length<=8)(f:List At->Option At)(kvs:Bx)(A:Tl la f kvs)(s0:Sl):∀(s done:List (List At))(d:Bx)(O q:Sl),la=done++s->(∀p∈d,ED p.1=true)->d.length<=done.length->(∀v,ZS d (.at v)=(Fe k done v).map λl=>aD (Av l)) ->
  (∃c Q,c∈la/\Q∈la/\c.getD k .non=Q.getD k .non/\f c≠f Q/\ZO (Zk 6) IW (s.map Ah) [s0,s1,n,o,.val (.lst (Zz kvs) true),.own (Zz d) true,O,q]=.ret (.val (.tup [aD (Av c),aD (Av Q)]))) \/
  ((∀l∈s,∃c,Fe k la (l.getD k .non)=some c/\f c=f l)/\∃ρ,ZO (Zk 6) IW (s.map Ah) [s0,s1,n,o,.val (.lst (Zz kvs) true),.own (Zz d) true,O,q]=.next ρ)
 |[],done,d,O,q,y,T,h2,U=>.inr ⟨λ_ h=>(nomatch h),_,rfl⟩
 |l::s,done,d,O,q,y,T,h2,U=>by
  subst hkk
  have B:l∈la:=by rw[y];simp
  have hne:l≠[]:=λz=>by have q1:=h.len l B;have q2:=h.w0;rw[z]at q1;simp at q1;omega
  have h0:=GL l hne
  have hla:=Mh l k (by have q1:=h.len l B;have q2:=h.w4;omega)
  have hdl:done.length+s.length+1=la.length:=by rw[y];simp;omega
  have hok:=Ia (l.getD k .non)
  have hh:=HP (l.getD k .non) T
  have hzk:decide (d.length<AG)=true:=decide_eq_true (Ca (show d.length<1000 by omega) (by decide))
  have hun:=Kb d
  have Y:=U (l.getD k .non)
  obtain⟨c,C,E,e,G,g1,g2,g3,H⟩:∃c,c∈la/\c.getD k .non=l.getD k .non/\∃e:Bx,Fe k (done++[l]) (l.getD k .non)=some c/\(∀p∈e,ED p.1=true)/\e.length<=done.length+1/\(∀v,ZS e (.at v)=(Fe k (done++[l]) v).map λl=>aD (Av l)) /\
    Kg 5 (Zo F6 (λρ=>Zb (Ao ρ 6) (Zb (Ao ρ 1) (some [])))) (Zd Au (λρ=>Ai ρ 6) (λ_=>some (.int (0)))) [s0,.val (.int (k:Int)),n,o,.val (.lst (Zz kvs) true),.own (Zz d) true,.val (Ah l),q]=some (aD (Av c),[s0,.val (.int (k:Int)),n,o,.val (.lst (Zz kvs) true),.own (Zz e) true,.val (Ah l),q]):=by
   have u:Kg 5 (Zo F6 (λρ=>Zb (Ao ρ 6) (Zb (Ao ρ 1) (some [])))) (Zd Au (λρ=>Ai ρ 6) (λ_=>some (.int (0)))) [s0,.val (.int (k:Int)),n,o,.val (.lst (Zz kvs) true),.own (Zz d) true,.val (Ah l),q]=(match ZS d (.at (l.getD k .non))with
    |some v=>some (v,[s0,.val (.int (k:Int)),n,o,.val (.lst (Zz kvs) true),.own (Zz d) true,.val (Ah l),q])
    |none=>some (aD (Av l),[s0,.val (.int (k:Int)),n,o,.val (.lst (Zz kvs) true),.own (Zz (B6 d (.at (l.getD k .non)) (aD (Av l)))) true,.val (Ah l),q])):=by
    generalize hKV:Sl.val (.lst (Zz kvs) true)=KV at *
    simp only[Kg,ER,Zo,Zb,Ao,Ai,Zd,AN,AL,AA,AT,hla,Cr,h0,hun,hok,hh,hzk,EY,if_true,AW,AU]
    all_goals(cases ZS d (.at (l.getD k .non))<;>rfl)
   cases j:Fe k done (l.getD k .non)with
   |some c=>
    rw[j]at Y
    have hp:=List.find?_some j
    have I:c∈la:=by rw[y];exact Jj _ (List.mem_of_find?_eq_some j)
    refine⟨c,I,by simpa using hp,d,?_,T,by omega,λv=>?_,?_⟩
    ·unfold Fe at j ⊢
     rw[O9,j];rfl
    ·rw[U v]
     unfold Fe
     rw[O9]
     cases x:done.find? (λl=>decide (l.getD k .non=v))with
     |some m=>rfl
     |none=>
      by_cases i:l.getD k .non=v
      ·subst i
       unfold Fe at j
       rw[j]at x;cases x
      ·rw[O8,if_neg i];rfl
    ·rw[u,Y];rfl
   |none=>
    rw[j]at Y
    have hpl:=Nd d (.at (l.getD k .non)) (aD (Av l))
    refine⟨l,B,rfl,B6 d (.at (l.getD k .non)) (aD (Av l)),?_,O2 T,by omega,λv=>?_,?_⟩
    ·unfold Fe at j ⊢
     rw[O9,j,O8,if_pos rfl];rfl
    ·rw[Kf]
     unfold Fe
     rw[O9]
     by_cases i:l.getD k .non=v
     ·subst i
      unfold Fe at j
      rw[if_pos rfl,j,O8,if_pos rfl];rfl
     ·have J:¬ KT.at (l.getD k .non)=KT.at v:=λz=>i (by injection z)
      rw[if_neg J,U v]
      unfold Fe
      cases x:done.find? (λl=>decide (l.getD k .non=v))with
      |some m=>rfl
      |none=>rw[O8,if_neg i];rfl
    ·rw[u,Y];rfl
  have L:Fe k la (l.getD k .non)=some c:=by
   unfold Fe at G ⊢
   rw[y,show done++l::s=(done++[l])++s by simp,O9,G];rfl
  have M:D0 (.lst (Zz kvs) true) (aD (Av c))=some (Gb (f c)):=by
   rw[LC,Ia]
   have q1:=HP (Av c) A.1
   have q2:=A.2.2 c C
   simp[q1,q2]
  have N:D0 (.lst (Zz kvs) true) (aD (Av l))=some (Gb (f l)):=by
   rw[LC,Ia]
   have q1:=HP (Av l) A.1
   have q2:=A.2.2 l B
   simp[q1,q2]
  have g:=nM (f c) (f l)
  have sh2:∀a b:D,Zr (some [a,b])=some [a,b]:=λ_ _=>ZC _ (by simp)
  simp only[AY,ZO,Zk,AW,AU]
  by_cases t:f c=f l
  ·rw[decide_eq_true t]at g
   have hb:IW [s0,.val (.int (k:Int)),n,o,.val (.lst (Zz kvs) true),.own (Zz d) true,.val (Ah l),q]=.next [s0,.val (.int (k:Int)),n,o,.val (.lst (Zz kvs) true),.own (Zz e) true,.val (Ah l),.val (aD (Av c))]:=by
    unfold IW
    rw[H]
    generalize aD (Av c)=H1 at *
    generalize aD (Av l)=H2 at *
    generalize D.lst (Zz kvs) true=KV at *
    generalize Gb (f c)=A1 at *
    generalize Gb (f l)=A2 at *
    simp only[Ng,M,N,h0,g,GK,Zf,ZI,AS,Zd,CB,Ai,A8,Ao,Zo,Zb,Zj,Zt,ZF,ZA,CA,Bw,pk,Cw,Zw,ZH,AN,AL,AW,AU,AA,AT]
   rw[hb]
   rcases al (.val (.int (k:Int))) n o w k rfl la h h8 f kvs A s0 s (done++[l]) e (.val (Ah l)) (.val (aD (Av c))) (by rw[y];simp) g1 (by simpa using g2) g3 with r|⟨r1,r2⟩
   ·exact .inl r
   ·refine .inr ⟨λm I=>?_,r2⟩
    rcases Bv.mp I with rfl|I
    ·exact⟨c,L,t⟩
    ·exact r1 m I
  ·rw[decide_eq_false t]at g
   refine .inl ⟨c,l,C,B,E,t,?_⟩
   have hb:IW [s0,.val (.int (k:Int)),n,o,.val (.lst (Zz kvs) true),.own (Zz d) true,.val (Ah l),q]=.ret (.val (.tup [aD (Av c),aD (Av l)])):=by
    unfold IW
    rw[H]
    generalize aD (Av c)=H1 at *
    generalize aD (Av l)=H2 at *
    generalize D.lst (Zz kvs) true=KV at *
    generalize Gb (f c)=A1 at *
    generalize Gb (f l)=A2 at *
    simp only[Ng,M,N,h0,g,Ku,sh2,Zf,ZI,AS,Zd,CB,Ai,A8,Ao,Zo,Zb,Zj,Zt,ZF,ZA,CA,Bw,pk,Cw,Zw,ZH,AN,AL,AW,AU,AA,AT]
   rw[hb]
theorem nO{w:Nat}{la:List (List At)}(h:Ga w la)(p:la.length<=8)(k g:Nat)(ch:List At):
  (∃c d,c∈la/\d∈la/\c.getD k .non=d.getD k .non/\(if Av c∈ch then some (c.getD g .non)else none)≠(if Av d∈ch then some (d.getD g .non)else none)/\L8 [.val (.lst (la.map Ah)),.val (.int (k:Int)),.val (.int (g:Int)),.val (.lst (ch.map aD))]=some (.val (.tup [aD (Av c),aD (Av d)]))) \/
  ((∀c∈la,∀d∈la,c.getD k .non=d.getD k .non->(if Av c∈ch then some (c.getD g .non)else none)=(if Av d∈ch then some (d.getD g .non)else none))/\L8 [.val (.lst (la.map Ah)),.val (.int (k:Int)),.val (.int (g:Int)),.val (.lst (ch.map aD))]=some (.val .non)):=by
 obtain⟨i,x,q⟩:=nN h p g ch
 have j:L8 [.val (.lst (la.map Ah)),.val (.int (k:Int)),.val (.int (g:Int)),.val (.lst (ch.map aD))]=match On [.val (.lst (la.map Ah)),.val (.int (k:Int)),.val (.int (g:Int)),.val (.lst (ch.map aD)),.no,.no,.no,.no]with
  |.ret r=>some r
  |.next _=>some (.val .non)
  |_=>none:=rfl
 rw[j]
 rcases al (.val (.int (k:Int))) (.val (.int (g:Int))) (.val (.lst (ch.map aD))) w k rfl la h p (λl=>if Av l∈ch then some (l.getD g .non)else none) i x (.val (.lst (la.map Ah))) la [] [] .no .no rfl (λ_ h=>nomatch h) (by simp) (λv=>rfl)with⟨c,d,m1,m2,y,z,s⟩|⟨t,G,u⟩
 ·refine .inl ⟨c,d,m1,m2,y,z,?_⟩
  rw[show Zz ([]:Bx)=[]from rfl]at s
  generalize la.map Ah=A at *
  generalize ch.map aD=B at *
  simp only[On,Sb,Sf,Sc,Se,Sd,q,DO,ES,ZT,A6,Zy,s,Zf,ZI,AS,Zd,CB,Ai,A8,Ao,Zo,Zb,Zj,Zt,ZF,ZA,CA,Bw,pk,Cw,Zw,ZH,AN,AL,AW,AU,AA,AT]
 ·refine .inr ⟨λc C d E e=>?_,?_⟩
  ·obtain⟨a,f,m⟩:=t c C
   obtain⟨b,n,o⟩:=t d E
   rw[e,n]at f
   cases f
   exact m.symm.trans o
  ·rw[show Zz ([]:Bx)=[]from rfl]at u
   generalize la.map Ah=A at *
   generalize ch.map aD=B at *
   simp only[On,Sb,Sf,Sc,Se,Sd,XD,XC,q,DO,ES,ZT,A6,Zy,u,Zf,ZI,AS,Zd,CB,Ai,A8,Ao,Zo,Zb,Zj,Zt,ZF,ZA,CA,Bw,pk,Cw,Zw,ZH,AN,AL,AW,AU,AA,AT]
def GN(b:List (Nat×List (List At)))(c gs:List Nat)(d:List AP)(t:Nat×At×At):Prop:=∃w la one a,b[t.1]?=some (w,la)/\one∈la/\a∈la/\FO d t.1 (c.getD t.1 0) (gs.getD t.1 0) one a=true/\t.2.1=Av one/\t.2.2=Av a
theorem ao{w:Nat}{la:List (List At)}(h:Ga w la)(a:List AP)(x:Nat){l:List At}(b:l∈la):Av l∈Z2 BQ ((la.filter (ZP a x)).map Av)↔ZP a x l=true:=by
 rw[(D1 BQ _).mem_iff]
 have:=O7 h (ZP a x) b
 rw[HY,decide_eq_true_eq]at this
 exact this
theorem ap(s0 M N o:Sl)(d:List (Nat×List (List At)))(h:O6 d)(e gs:List Nat)(T:Mi d e)(U:Mi d gs)(e1:M=.val (GD e))(e2:N=.val (GD gs))(g:List AP)(n:D)(s:∀(x w:Nat)(la:List (List At)),d[x]?=some (w,la)->Au n (.int (x:Int))=some (.lst ((Z2 BQ ((la.filter (ZP g x)).map Av)).map aD))):∀(k:List (Nat×List (List At)))(x:Nat)(I J q:Sl),d.drop x=k->x+k.length=d.length ->
  (∃t,GN d e gs g t/\ZO (ZZ 2 (Zv (Zk 5) (Zv (Zk 6) Z1))) I0 (Cj x (k.map λp=>D.lst (p.2.map Ah))) [s0,M,N,o,.val n,I,J,q]=.ret (.val (Ic t))) \/
  ((∀t,x<=t.1->¬ GN d e gs g t)/\∃ρ,ZO (ZZ 2 (Zv (Zk 5) (Zv (Zk 6) Z1))) I0 (Cj x (k.map λp=>D.lst (p.2.map Ah))) [s0,M,N,o,.val n,I,J,q]=.next ρ)
 |[],x,I,J,q,hd,u=>.inr ⟨λt ht v=>by
   obtain⟨w,la,_,_,y,_⟩:=v
   have:=(List.getElem?_eq_some_iff.mp y).1
   simp at u
   omega,_,rfl⟩
 |(w,la)::k,x,I,J,q,hd,u=>by
  subst e1 e2
  simp only[B8]at u
  have A:d[x]?=some (w,la):=by
   have:(d.drop x)[0]?=some (w,la):=by rw[hd];rfl
   rw[MJ]at this
   simpa using this
  have O:d.drop (x+1)=k:=by
   have:(d.drop x).drop 1=k:=by rw[hd];rfl
   rw[List.drop_drop]at this
   exact this
  have Y:=Gp A
  have B:Ga w la:=h.la _ Y
  have h8:la.length<=8:=h.l8 _ Y
  have C:x<d.length:=(List.getElem?_eq_some_iff.mp A).1
  have k1:=ah (gs:=e) (x:=x) (by rw[T.1];exact C)
  have g1:=ah (gs:=gs) (x:=x) (by rw[U.1];exact C)
  have c1:=s x w la A
  have j:∀l∈la,(if Av l∈Z2 BQ ((la.filter (ZP g x)).map Av)then some (l.getD (gs.getD x 0) .non)else none)=FN g x (gs.getD x 0) l:=λl u=>by
   unfold FN
   have:=ao B g x u
   by_cases L:ZP g x l=true
   ·rw[if_pos (this.mpr L),if_pos L]
   ·rw[if_neg (λz=>L (this.mp z)),if_neg L]
  simp only[AY,Cj,ZO,ZZ,Zv,Zk,Z1,B8,DT,AW,AU,AA,if_pos]
  rcases nO B h8 (e.getD x 0) (gs.getD x 0) (Z2 BQ ((la.filter (ZP g x)).map Av))with⟨E,G,m1,m2,q1,q2,q3⟩|⟨q1,q2⟩
  ·rw[j E m1,j G m2]at q2
   refine .inl ⟨(x,Av E,Av G),⟨w,la,E,G,A,m1,m2,?_,rfl,rfl⟩,?_⟩
   ·unfold FO
    rw[decide_eq_true q1,decide_eq_false q2];rfl
   ·have sh:∀a b c:D,Zr (some [a,b,c])=some [a,b,c]:=λ_ _ _=>ZC _ (by simp)
    have i0:∀a b:D,Au (.tup [a,b]) (.int 0)=some a:=λ_ _=>rfl
    have i1:∀a b:D,Au (.tup [a,b]) (.int 1)=some b:=λ_ _=>rfl
    have v:I0 [s0,.val (GD e),.val (GD gs),o,.val n,.val (.int (x:Int)),.val (.lst (la.map Ah)),q]=.ret (.val (Ic (x,Av E,Av G))):=by
     unfold Ic
     dsimp only
     generalize (Z2 BQ ((la.filter (ZP g x)).map Av)).map aD=S at *
     generalize la.map Ah=LA at *
     generalize GD e=KK at *
     generalize GD gs=GG at *
     generalize aD (Av E)=H1 at *
     generalize aD (Av G)=H2 at *
     simp only[I0,k1,g1,c1,q3,Cr,CM,Gr,isN,Ku,i0,i1,sh,Zf,ZI,AS,Zd,CB,Ai,A8,Ao,Zo,Zb,Zj,Zt,ZF,ZA,CA,Bw,pk,Cw,Zw,ZH,AN,AL,AW,AU,AA,AT]
    rw[v]
  ·have v:I0 [s0,.val (GD e),.val (GD gs),o,.val n,.val (.int (x:Int)),.val (.lst (la.map Ah)),q]=.next [s0,.val (GD e),.val (GD gs),o,.val n,.val (.int (x:Int)),.val (.lst (la.map Ah)),.val .non]:=by
    generalize (Z2 BQ ((la.filter (ZP g x)).map Av)).map aD=S at *
    generalize la.map Ah=LA at *
    generalize GD e=KK at *
    generalize GD gs=GG at *
    simp only[I0,k1,g1,c1,q2,Cr,CM,Gr,isN,GK,Zf,ZI,AS,Zd,CB,Ai,A8,Ao,Zo,Zb,Zj,Zt,ZF,ZA,CA,Bw,pk,Cw,Zw,ZH,AN,AL,AW,AU,AA,AT]
   rw[v]
   rcases ap s0 (.val (GD e)) (.val (GD gs)) o d h e gs T U rfl rfl g n s k (x+1) (.val (.int (x:Int))) (.val (.lst (la.map Ah))) (.val .non) O (by omega)with r|⟨r1,r2⟩
   ·exact .inl r
   ·refine .inr ⟨λt ht m=>?_,r2⟩
    by_cases Q:x=t.1
    ·obtain⟨w',la',one,i,y,ho,H,f,_,_⟩:=m
     rw[<- Q]at y f
     rw[A]at y
     cases y
     have:=q1 one ho i H
     rw[j one ho,j i H]at this
     unfold FO at f
     rw[Dj,decide_eq_true_eq]at f
     rw[decide_eq_true (this f.1)]at f
     exact absurd f.2 (by decide)
    ·exact r1 t (by omega) m
theorem nP{a:List (Nat×List (List At))}(h:O6 a)(f gs:List Nat)(I:Mi a f)(J:Mi a gs)(c:List AP)(M:∀q∈c,Fd a q):
  (∃t,E1 a c=false/\GN a f gs c t/\GJ [.val (LD a),.val (GD f),.val (GD gs),.val (.lst (c.map AJ))]=some (.val (Ic t))) \/
  ((E1 a c=true\/∀t,¬ GN a f gs c t)/\GJ [.val (LD a),.val (GD f),.val (GD gs),.val (.lst (c.map AJ))]=some (.val .non)):=by
 have h3:=h.few
 have O:=Ec (b:=Zk 0) (e:=Mc) (ρ:=[.no,.val (LD a),.val (.lst (c.map AJ))]) (λ(k:Nat)=>D.int (k:Int)) (λx=>D.lst ((Z2 BQ ((((a.getD x (0,[])).2).filter (ZP c x)).map Av)).map aD)) (A7 a.length) λx u=>⟨[.val (.int (x:Int)),.val (LD a),.val (.lst (c.map AJ))],rfl,by
  obtain⟨w,la,l,v⟩:=nK (List.mem_range.mp u)
  have U:=af (LD a) c x w la (ag l) (h.la _ (Gp l)) λq Y=>(M q Y).1
  rw[v]
  generalize (Z2 BQ ((la.filter (ZP c x)).map Av)).map aD=S at *
  generalize LD a=L at *
  generalize c.map AJ=Q at *
  simp only[Mc,U,DO,Zf,ZI,AS,Zd,CB,Ai,A8,Ao,Zo,Zb,Zj,Zt,ZF,ZA,CA,Bw,pk,Cw,Zw,ZH,AN,AL,AW,AU,AA,AT]⟩
 have y:ZV 1 [0,1] [.val (LD a),.val (.lst (c.map AJ))]=[.no,.val (LD a),.val (.lst (c.map AJ))]:=rfl
 have ln:=nI a
 have r1:=F5 a.length (by omega)
 have q1:Zr (some ((A7 a.length).map λ(k:Nat)=>D.int (k:Int)))=some ((A7 a.length).map λ(k:Nat)=>D.int (k:Int)):=ZC _ (by simp;omega)
 have g:Md [.val (LD a),.val (.lst (c.map AJ))]=some (.own ((A7 a.length).map λx=>D.lst ((Z2 BQ ((((a.getD x (0,[])).2).filter (ZP c x)).map Av)).map aD))):=by
  refine Z9 rfl ?_
  show Kr [.val (LD a),.val (.lst (c.map AJ))]=_
  generalize ((A7 a.length).map λx=>D.lst ((Z2 BQ ((((a.getD x (0,[])).2).filter (ZP c x)).map Av)).map aD))=SM at *
  generalize ((A7 a.length).map λ(k:Nat)=>D.int (k:Int))=R at *
  generalize (a.length:Int)=N at *
  generalize LD a=L at *
  generalize c.map AJ=Q at *
  simp only[Kr,ln,r1,ZM,q1,y,O,Cf,Zf,ZI,AS,Zd,CB,Ai,A8,Ao,Zo,Zb,Zj,Zt,ZF,ZA,CA,Bw,pk,Cw,Zw,ZH,AN,AL,AW,AU,AA,AT]
 have i:=aj ((A7 a.length).map λx=>Z2 BQ ((((a.getD x (0,[])).2).filter (ZP c x)).map Av))
 rw[Dg]at i
 have n:(((A7 a.length).map λx=>Z2 BQ ((((a.getD x (0,[])).2).filter (ZP c x)).map Av)).any λm=>m.isEmpty)=E1 a c:=by
  rw[List.any_map]
  unfold E1
  congr 1
  funext x
  show(Z2 BQ ((((a.getD x (0,[])).2).filter (ZP c x)).map Av)).isEmpty=_
  have E:=(D1 BQ ((((a.getD x (0,[])).2).filter (ZP c x)).map Av)).length_eq
  rw[BY]at E
  rw[HY,List.isEmpty_iff_length_eq_zero,List.isEmpty_iff_length_eq_zero,E]
 rw[n]at i
 have d:C2 false (.lst []) (.lst ((A7 a.length).map λx=>D.lst ((Z2 BQ ((((a.getD x (0,[])).2).filter (ZP c x)).map Av)).map aD)))=some (.bl (E1 a c)):=i
 have z:∀(x w:Nat) (la:List (List At)),a[x]?=some (w,la)->Au (.lst ((A7 a.length).map λx=>D.lst ((Z2 BQ ((((a.getD x (0,[])).2).filter (ZP c x)).map Av)).map aD))) (.int (x:Int))=some (.lst ((Z2 BQ ((la.filter (ZP c x)).map Av)).map aD)):=λx w la u=>DJ (by
  have A:x<a.length:=(List.getElem?_eq_some_iff.mp u).1
  rw[Dy,Qj A]
  simp[Cq,u])
 have B:GJ [.val (LD a),.val (GD f),.val (GD gs),.val (.lst (c.map AJ))]=match Me [.val (LD a),.val (GD f),.val (GD gs),.val (.lst (c.map AJ)),.no,.no,.no,.no]with
  |.ret r=>some r
  |.next _=>some (.val .non)
  |_=>none:=rfl
 rw[B]
 have j:Zr (some ([]:List D))=some []:=rfl
 have o:Dk (LD a)=some (a.map λp=>D.lst (p.2.map Ah)):=rfl
 have s:=ap (.val (LD a)) (.val (GD f)) (.val (GD gs)) (.val (.lst (c.map AJ))) a h f gs I J rfl rfl c _ z a 0 .no .no .no rfl (by omega)
 generalize ((A7 a.length).map λx=>D.lst ((Z2 BQ ((((a.getD x (0,[])).2).filter (ZP c x)).map Av)).map aD))=SM at *
 cases G:E1 a c with
 |true=>
  rw[G]at d
  refine .inr ⟨.inl rfl,?_⟩
  generalize LD a=L at *
  generalize GD f=KK at *
  generalize GD gs=H at *
  generalize c.map AJ=Q at *
  simp only[Me,OC,OF,OE,g,DO,j,d,Zf,ZI,AS,Zd,CB,Ai,A8,Ao,Zo,Zb,Zj,Zt,ZF,ZA,CA,Bw,pk,Cw,Zw,ZH,AN,AL,AW,AU,AA,AT]
 |false=>
  rw[G]at d
  rcases s with⟨t,hb,e⟩|⟨C,T,e⟩
  ·refine .inl ⟨t,rfl,hb,?_⟩
   generalize (a.map λp=>D.lst (p.2.map Ah))=EN at *
   generalize Ic t=TT at *
   generalize LD a=L at *
   generalize GD f=KK at *
   generalize GD gs=H at *
   generalize c.map AJ=Q at *
   simp only[Me,OC,OF,OE,Sz,Sy,g,DO,j,d,ZT,Df,A6,o,e,Zf,ZI,AS,Zd,CB,Ai,A8,Ao,Zo,Zb,Zj,Zt,ZF,ZA,CA,Bw,pk,Cw,Zw,ZH,AN,AL,AW,AU,AA,AT]
  ·refine .inr ⟨.inr λt=>C t (Hv _),?_⟩
   generalize (a.map λp=>D.lst (p.2.map Ah))=EN at *
   generalize LD a=L at *
   generalize GD f=KK at *
   generalize GD gs=H at *
   generalize c.map AJ=Q at *
   simp only[Me,OC,OF,OE,Sz,Sy,X7,X6,g,DO,j,d,ZT,Df,A6,o,e,Zf,ZI,AS,Zd,CB,Ai,A8,Ao,Zo,Zb,Zj,Zt,ZF,ZA,CA,Bw,pk,Cw,Zw,ZH,AN,AL,AW,AU,AA,AT]
def Be.its(w:Be)(j x:Nat):Nat->Nat
 |0=>x
 |i+1=>w.stp (j+i+1) (w.its j x i)
theorem Be.its_succ(w:Be)(j x:Nat):∀i,w.its (j+1) (w.stp (j+1) x) i=w.its j x (i+1)
 |0=>rfl
 |i+1=>by
  have a:=Be.its_succ w j x i
  show w.stp (j+1+i+1) (w.its (j+1) (w.stp (j+1) x) i)=w.stp (j+(i+1)+1) (w.its j x (i+1))
  rw[a,show j+1+i+1=j+(i+1)+1 by omega]
theorem Be.chn_len(w:Be):∀(n j x:Nat),(w.chn j x n).length=n
 |0,_,_=>rfl
 |n+1,j,x=>by simp[Be.chn,Be.chn_len w n]
theorem Be.chn_get(w:Be):∀(i n j x:Nat),i<n->(w.chn j x n)[i]?=some (w.fs (j+i) (w.its j x i))
 |_,0,_,_,h=>by omega
 |0,n+1,j,x,_=>by simp[Be.chn,Be.its]
 |i+1,n+1,j,x,h=>by
  have a:=Be.chn_get w i n (j+1) (w.stp (j+1) x) (by omega)
  rw[Be.its_succ,show j+1+i=j+(i+1) by omega]at a
  simpa[Be.chn]using a
theorem Be.its_lt{w:Be}{cell:Int}(h:w.Ok cell)(j x:Nat)(a:x<47):∀i,w.its j x i<47
 |0=>a
 |i+1=>Be.stp_lt h _ _
theorem Be.its_go(w:Be)(x y i:Nat)(h:w.its 0 x i=w.its 0 y i):∀d,w.its 0 x (i+d)=w.its 0 y (i+d)
 |0=>h
 |d+1=>by
  have a:=Be.its_go w x y i h d
  show w.stp (0+(i+d)+1) (w.its 0 x (i+d))=w.stp (0+(i+d)+1) (w.its 0 y (i+d))
  rw[a]
theorem Be.chn_mem{w:Be}{cell:Int}(h:w.Ok cell):∀(n j x:Nat),x<47->∀a∈w.chn j x n,SS (aD a)=true/\Sm (aD a)
 |0,_,_,_,a,b=>nomatch b
 |n+1,j,x,c,a,b=>by
  simp only[Be.chn,Bv]at b
  rcases b with rfl|b
  ·exact⟨(h.vs j).val x c,(h.vs j).sm x c⟩
  ·exact Be.chn_mem h n (j+1) _ (Be.stp_lt h _ _) a b
structure BG(ls:List (List At)):Prop where
 ne:0<ls.length
 few:ls.length<=8
 lw:∃p,0<p/\p<=4/\∀l∈ls,l.length=p
 nd:(ls.map Av).Nodup
 vs:∀l∈ls,∀a∈l,a≠.non
 fn:∀l∈ls,∀m∈ls,∀i j,i<=j->l.getD i .non=m.getD i .non->l.getD j .non=m.getD j .non
abbrev Ax(a:List (List At)):D:=.lst (a.map Ah)
theorem BG.four{a:List (List At)}(h:BG a):∀l∈a,l.length<=4:=λl b=>by
 obtain⟨p,_,c,e⟩:=h.lw
 rw[e l b];exact c
theorem BG.some{a:List (List At)}(h:BG a):∀l∈a,l≠[]:=λl b z=>by
 obtain⟨p,c,_,e⟩:=h.lw
 have:=e l b
 rw[z]at this;simp at this;omega
theorem nQ(cell:Int)(c p:Nat)(A:0<c)(r:c<=8)(f:0<p)(g:p<=4):∃s,BG s/\L9 [.val (.int cell),.val (.int (c:Int)),.val (.int (p:Int))]=some (.own (s.map Ah)):=by
 obtain⟨w,h,e⟩:=m6 cell c p (by omega) f g
 have o:0<=w.sv.getD 0 0:=by
  have d:=h.len
  have:w.sv.getD 0 0∈w.sv:=by
   have e:w.sv.getD 0 0=w.sv[0]'(by omega):=by simp[Cq,CH (show 0<w.sv.length by omega)]
   rw[e]
   exact ET _
  exact(h.pos _ this).1
 refine⟨_,⟨by simpa using A,by simpa using r,⟨p,f,g,λl d=>?_⟩,?_,?_,?_⟩,e⟩
 ·obtain⟨k,_,rfl⟩:=List.mem_map.mp d
  exact Be.chn_len w _ _ _
 ·rw[Dg,List.nodup_iff_pairwise_ne,List.pairwise_map]
  refine List.Pairwise.imp_of_mem ?_ (List.pairwise_lt_range (n:=c))
  intro a b q t B e
  have q:=List.mem_range.mp q
  have t:=List.mem_range.mp t
  have C:∀k,Av (w.chn 0 (w.a0 k) p)=w.fs 0 (w.a0 k):=λk=>by
   rw[show p=(p-1)+1 by omega];rfl
  simp only[Function.comp,C]at e
  have:=Be.a0_inj w o (by omega) (by omega) ((h.vs 0).inj _ _ (w.a0_lt a) (w.a0_lt b) e)
  omega
 ·intro l d a q z
  obtain⟨k,_,rfl⟩:=List.mem_map.mp d
  have:=(Be.chn_mem h p 0 _ (w.a0_lt k) a q).1
  rw[z]at this
  exact absurd this (by decide)
 ·intro l d m r i j E e
  obtain⟨x,M,rfl⟩:=List.mem_map.mp d
  obtain⟨y,N,rfl⟩:=List.mem_map.mp r
  by_cases u:j<p
  ·have G:=Be.chn_get w i p 0 (w.a0 x) (by omega)
   have H:=Be.chn_get w i p 0 (w.a0 y) (by omega)
   have I:=Be.chn_get w j p 0 (w.a0 x) u
   have J:=Be.chn_get w j p 0 (w.a0 y) u
   simp only[Cq,G,H,MH]at e
   have L:=(h.vs (0+i)).inj _ _ (Be.its_lt h 0 _ (w.a0_lt x) i) (Be.its_lt h 0 _ (w.a0_lt y) i) e
   have v:=Be.its_go w _ _ i L (j-i)
   rw[show i+(j-i)=j by omega]at v
   simp only[Cq,I,J,v]
  ·have O:=Be.chn_len w p 0 (w.a0 x)
   have Q:=Be.chn_len w p 0 (w.a0 y)
   simp only[Cq,Qi (show(w.chn 0 (w.a0 x) p).length<=j by omega),Qi (show(w.chn 0 (w.a0 y) p).length<=j by omega)]
def Gc:List (List At)->At->Nat->At
 |[],_,_=>.non
 |l::b,a,j=>if Av l=a then l.getD j .non else Gc b a j
theorem Je:∀{b:List (List At)}{l:List At},(b.map Av).Nodup->l∈b->∀j,Gc b (Av l) j=l.getD j .non
 |m::b,l,a,c,j=>by
  unfold Gc
  rcases Bv.mp c with rfl|c
  ·rw[if_pos rfl]
  ·rw[AY,E2]at a
   rw[if_neg (show ¬ Av m=Av l from λe=>a.1 (by rw[e];exact Pa c))]
   exact Je a.2 c j
theorem aq{a:At}{v:D}:∀(ps:List (At×D))(acc:Bx),(∀p∈ps,p.1=a->p.2=v)->(ZS acc (.at a)=some v\/∃p∈ps,p.1=a)->ZS (Do acc ps) (.at a)=some v
 |[],acc,_,h=>by
  rcases h with h|⟨p,g,_⟩
  ·exact h
  ·exact nomatch g
 |p::ps,acc,f,d=>by
  refine aq ps (B6 acc (.at p.1) p.2) (λq b=>f q (Bt _ b)) ?_
  rw[Kf]
  by_cases c:p.1=a
  ·rw[if_pos (by rw[c]),f p BA c];exact .inl rfl
  ·rw[if_neg (λz=>c (KT.at.inj z))]
   rcases d with d|⟨q,b,e⟩
   ·exact .inl d
   ·rcases Bv.mp b with rfl|b
    ·exact absurd e c
    ·exact .inr ⟨q,b,e⟩
theorem ar(s0:Sl)(a:At)(j:Nat):∀(b:List (List At))(k:Sl),a∈b.map Av->(∀l∈b,l≠[]/\l.length<=4/\j<=l.length)->ZO (Zk 3) Kk (b.map Ah) [s0,.val (aD a),.val (.int (j:Int)),k]=.ret (.val (aD (Gc b a j)))
 |[],_,h,_=>nomatch h
 |l::b,k,h,n=>by
  obtain⟨p,t,u⟩:=n l BA
  have o:=GL l p
  have d:=Ti (Av l) a
  have f:Zr (some [D.non])=some [D.non]:=ZC _ (by simp)
  simp only[AY,ZO,Zk,AW,AU]
  by_cases c:Av l=a
  ·have q:ZJ (Ah l) (.tup [.non])=some (Ah (l++[.non])):=by
    unfold Ah
    rw[Rb _ _ (by simp;omega)]
    simp[aD]
   have r:Au (Ah (l++[.non])) (.int (j:Int))=some (aD (l.getD j .non)):=by
    show atI ((l++[At.non]).map aD) (j:Int)=_
    refine DJ ?_
    rw[Dy]
    by_cases g:j<l.length
    ·rw[Jq g,CH g]
     simp[Cq,g]
    ·have:j=l.length:=by omega
     subst this
     simp[Cq]
   have i:Kk [s0,.val (aD a),.val (.int (j:Int)),.val (Ah l)]=.ret (.val (aD (l.getD j .non))):=by
    rw[c,decide_eq_true rfl]at d
    simp only[Kk,Zf,ZI,AS,Zd,Ai,ZH,Zb,Zj,Zt,AN,AL,AA,AT,o,c,d,f,q,r]
   rw[i]
   unfold Gc
   rw[if_pos c]
  ·have i:Kk [s0,.val (aD a),.val (.int (j:Int)),.val (Ah l)]=.next [s0,.val (aD a),.val (.int (j:Int)),.val (Ah l)]:=by
    rw[decide_eq_false c]at d
    simp only[Kk,Zf,ZI,AS,Zd,Ai,AN,AL,AA,AT,o,d]
   rw[i]
   unfold Gc
   rw[if_neg c]
   refine ar s0 a j b _ ?_ λm s=>n m (Bt _ s)
   rcases Bv.mp h with e|e
   ·exact absurd e.symm c
   ·exact e
theorem au{b:List (List At)}(d:BG b){a:At}(e:a∈b.map Av)(j:Nat)(f:∀l∈b,j<=l.length):NJ [.val (Ax b),.val (aD a),.val (.int (j:Int))]=some (.val (aD (Gc b a j))):=by
 have g:=ar (.val (Ax b)) a j b .no e λl c=>⟨d.some l c,d.four l c,f l c⟩
 refine Z9 rfl ?_
 show NI [.val (Ax b),.val (aD a),.val (.int (j:Int)),.no]=_
 unfold Ax at *
 generalize b.map Ah=L at *
 simp only[NI,Zf,ZT,A6,Zy,AL,AA,g]
theorem Pb{c:Type}{e:VE->Option D}(r:VE)(G:c->D):∀(xs:List c)(k:Nat)(ys:List D),xs.length=ys.length->(∀(i:Nat)(x:c)(y:D),xs[i]?=some x->ys[i]?=some y->e (.val (.int ((k+i:Nat):Int))::.val (G x)::r)=some y)->C1 (ZZ 2 (Zv (Zk 0) (Zv (Zk 1) Z1))) (λ_=>some true) e (.no::.no::r) (Cj k (xs.map G))=some ys
 |[],_,[],_,_=>rfl
 |[],_,_::_,h,_=>by simp at h
 |_::_,_,[],h,_=>by simp at h
 |x::xs,k,y::ys,f,h=>by
  have g:=Pb (e:=e) r G xs (k+1) ys (by simpa using f) λi a b j l=>by
   have:=h (i+1) a b (by simpa using j) (by simpa using l)
   rw[show k+(i+1)=k+1+i by omega]at this
   exact this
  have d:=h 0 x y rfl rfl
  rw[Nat.add_zero]at d
  simp only[AY,Cj,C1,ZZ,Zv,Zk,Z1,B8,DT,if_true,AW,AU,AA,g,d,Zb]
inductive Bq:List (List (List At))->List Nat->Prop where
 |nil:Bq [] []
 |cons {ls Ls j g}:BG ls->(∀l∈ls,j<=l.length)->Bq Ls g->Bq (ls::Ls) (j::g)
inductive Bj:List (List (List At))->List At->Prop where
 |nil:Bj [] []
 |cons {ls Ls a as}:a∈ls.map Av->Bj Ls as->Bj (ls::Ls) (a::as)
def BU:List (List (List At))->List At->List Nat->List At
 |b::c,a::d,j::g=>Gc b a j::BU c d g
 |_,_,_=>[]
def AO(g:List Nat):D:=.tup (g.map λ(j:Nat)=>D.int (j:Int))
theorem Bq.len{a:List (List (List At))}{g:List Nat}(h:Bq a g):g.length=a.length:=by
 induction h with
 |nil=>rfl
 |cons _ _ _ b=>simp[b]
theorem Bj.len{a:List (List (List At))}{s:List At}(h:Bj a s):s.length=a.length:=by
 induction h with
 |nil=>rfl
 |cons _ _ b=>simp[b]
theorem Pc{a:List (List (List At))}{g:List Nat}{s:List At}(h:Bq a g)(b:Bj a s):(BU a s g).length=a.length:=by
 induction h generalizing s with
 |nil=>cases b;rfl
 |cons _ _ _ c=>
  cases b with
  |cons _ t=>simp[BU,c t]
theorem Pd{g:List Nat}{i j:Nat}(h:g[i]?=some j):Au (AO g) (.int (i:Int))=some (.int (j:Int)):=by
 show atI (g.map λ(j:Nat)=>D.int (j:Int)) (i:Int)=_
 exact DJ (by simp[h])
theorem nR{s:List At}{i:Nat}{a:At}(h:s[i]?=some a):Au (Ah s) (.int (i:Int))=some (aD a):=by
 show atI (s.map aD) (i:Int)=_
 exact DJ (by simp[h])
theorem nS{b:List (List (List At))}{g:List Nat}{s:List At}(h:Bq b g)(d:Bj b s):C1 (ZZ 3 (Zv (Zk 0) (Zv (Zk 1) (Zv (Zk 2) Z1)))) (λ_=>some true) Oa [.no,.no,.no] (Fs (λx y=>D.tup [x,y.1,y.2]) (b.map Ax) ((s.map aD).zip (g.map λ(j:Nat)=>D.int (j:Int))))=some ((BU b s g).map aD):=by
 induction h generalizing s with
 |nil=>cases d;rfl
 |@cons e b j g f i n c=>
  cases d with
  |@cons _ _ a o k l=>
  have m:Oa [.val (Ax e),.val (aD a),.val (.int (j:Int))]=some (aD (Gc e a j)):=by
   have:=au f k j i
   simp only[Oa,Zo,Zb,Ao,AN,AL,AA,AT,this,Cr]
  have c:=c l
  simp only[AY,K3,To,C1,ZZ,Zv,Zk,Z1,B8,DT,if_true,AW,AU,AA,m,c,BU,Zb]
theorem nT{a:List (List (List At))}{g:List Nat}{s:List At}(h:Bq a g)(c:Bj a s)(hz:a.length<=4):RS [.val (.lst (a.map Ax)),.val (Ah s),.val (AO g)]=some (.val (Ah (BU a s g))):=by
 have d:=nS h c
 have q1:=ZC (Fs (λx y=>D.tup [x,y.1,y.2]) (a.map Ax) ((s.map aD).zip (g.map λ(j:Nat)=>D.int (j:Int)))) (by simp;omega)
 refine Z9 rfl ?_
 unfold AO Ah
 generalize a.map Ax=L at *
 generalize (g.map λ(j:Nat)=>D.int (j:Int))=G at *
 generalize s.map aD=S at *
 show Ob [.val (.lst L),.val (.tup S),.val (.tup G)]=_
 have b:ZV 3 [] [.val (.lst L),.val (.tup S),.val (.tup G)]=[.no,.no,.no]:=rfl
 simp only[Ob,Zf,ZH,ZA,De,Bw,pk,Zb,Zj,ZF,ZM,Nx,Dk,b,A6,AN,AL,AA,AT,q1,d]
structure Ends(as:List Int)(m M:Int):Prop where
 m1:m∈as
 m2:∀a∈as,m<=a
 M1:M∈as
 M2:∀a∈as,a<=M
theorem Ends.uniq{a:List Int}{m M b c:Int}(h:Ends a m M)(h':Ends a b c):m=b/\M=c:=by
 have a1:=h.m2 _ h'.m1
 have a2:=h'.m2 _ h.m1
 have a3:=h.M2 _ h'.M1
 have a4:=h'.M2 _ h.M1
 omega
theorem Ends.ex(b:List Int)(h:b≠[]):∃m M,(E6 b)[0]?=some m/\(E6 b)[b.length-1]?=some M/\Ends b m M:=by
 have j:=QA b
 have c:=M9 b
 have g:=VS b
 have k:0<b.length:=List.length_pos_iff.mpr h
 refine⟨(E6 b)[0]'(by omega),(E6 b)[b.length-1]'(by omega),by rw[CH],by rw[CH],?_,?_,?_,?_⟩
 ·exact c.mem_iff.mp (ET _)
 ·intro a d
  obtain⟨i,f,e⟩:=List.getElem_of_mem (c.mem_iff.mpr d)
  subst e
  rcases Nat.eq_zero_or_pos i with h|h
  ·subst h;omega
  ·exact List.pairwise_iff_getElem.mp g 0 i (by omega) f h
 ·exact c.mem_iff.mp (ET _)
 ·intro a d
  obtain⟨i,f,e⟩:=List.getElem_of_mem (c.mem_iff.mpr d)
  subst e
  by_cases h:i=b.length-1
  ·subst h;omega
  ·exact List.pairwise_iff_getElem.mp g i (b.length-1) f (by omega) (by omega)
abbrev Ba:=List At×Int×List Int
def Zx(acc:List Ba):List (List At):=acc.map (·.1)
def Z4:List Ba->List At->Option (Int×List Int)
 |[],_=>none
 |e::r,k=>if e.1=k then some e.2 else Z4 r k
def CQ:List Ba->List At->Int->List Ba
 |[],k,x=>[(k,x,[])]
 |e::r,k,x=>if e.1=k then(e.1,e.2.1,e.2.2++[x])::r else e::CQ r k x
def Z5(v:Int×List Int->D)(e:Ba):KT×D:=(.tup e.1,v e.2)
theorem B1{k:List At}:∀{acc:List Ba},Z4 acc k=none↔k∉Zx acc
 |[]=>by simp[Z4,Zx]
 |e::r=>by
  have a:=B1 (k:=k) (acc:=r)
  unfold Z4
  by_cases h:e.1=k
  ·rw[if_pos h];simp[Zx,h]
  ·rw[if_neg h,a];simp[Zx,Br h]
theorem GO(v:Int×List Int->D)(k:List At):∀acc:List Ba,ZS (acc.map (Z5 v)) (.tup k)=(Z4 acc k).map v
 |[]=>rfl
 |e::r=>by
  have a:=GO v k r
  simp only[AY,ZS,Z4,Z5,KT.tup.injEq]
  by_cases h:e.1=k
  ·rw[if_pos h,if_pos h];rfl
  ·rw[if_neg h,if_neg h];exact a
theorem Tp{k:KT}{w:D}:∀{kvs:Bx},ZS kvs k=none->DZ kvs k w=kvs
 |[],_=>rfl
 |p::r,h=>by
  unfold ZS at h
  by_cases e:p.1=k
  ·rw[if_pos e]at h;cases h
  ·rw[if_neg e]at h
   unfold DZ
   rw[if_neg e,Tp h]
theorem av(v:Int×List Int->D){k:List At}{x:Int}{p:Int×List Int}:∀{acc:List Ba},(Zx acc).Nodup->Z4 acc k=some p->DZ (acc.map (Z5 v)) (.tup k) (v (p.1,p.2++[x]))=(CQ acc k x).map (Z5 v)
 |e::r,a,h=>by
  simp only[Zx,AY,E2]at a
  unfold Z4 at h
  by_cases c:e.1=k
  ·rw[if_pos c]at h;cases h
   have b:ZS (r.map (Z5 v)) (.tup k)=none:=by
    rw[GO,B1.mpr (c ▸ a.1)];rfl
   simp only[AY,DZ,CQ,Z5,c,if_true,Tp b,KT.tup.injEq]
  ·rw[if_neg c]at h
   have d:=av v (x:=x) a.2 h
   simp only[AY,DZ,CQ,Z5,c,if_false,KT.tup.injEq]
   rw[d]
theorem aw{k:List At}{x:Int}:∀{acc:List Ba},Z4 acc k=none->CQ acc k x=acc++[(k,x,[])]
 |[],_=>rfl
 |e::r,h=>by
  unfold Z4 at h
  by_cases c:e.1=k
  ·rw[if_pos c]at h;cases h
  ·rw[if_neg c]at h
   unfold CQ
   rw[if_neg c,aw h];rfl
theorem nU(v:Int×List Int->D){k:List At}{x:Int}{p:Int×List Int}{acc:List Ba}(a:(Zx acc).Nodup)(h:Z4 acc k=some p):B6 (acc.map (Z5 v)) (.tup k) (v (p.1,p.2++[x]))=(CQ acc k x).map (Z5 v):=by
 unfold B6
 rw[GO,h]
 exact av v a h
theorem nV(v:Int×List Int->D){k:List At}{x:Int}{acc:List Ba}(h:Z4 acc k=none):B6 (acc.map (Z5 v)) (.tup k) (v (x,[]))=(CQ acc k x).map (Z5 v):=by
 unfold B6
 rw[GO,h,aw h]
 simp[Z5]
theorem Tq(k:List At)(x:Int):∀acc:List Ba,Zx (CQ acc k x)=if k∈Zx acc then Zx acc else Zx acc++[k]
 |[]=>rfl
 |e::r=>by
  have b:=Tq k x r
  unfold CQ
  by_cases c:e.1=k
  ·rw[if_pos c];simp[Zx,c]
  ·rw[if_neg c]
   have:Zx (e::CQ r k x)=e.1::Zx (CQ r k x):=rfl
   have a:Zx (e::r)=e.1::Zx r:=rfl
   rw[this,b,a]
   by_cases m:k∈Zx r
   ·rw[if_pos m,if_pos (Bt _ m)]
   ·rw[if_neg m,if_neg (by simp[Zx,Br c]at m ⊢;exact m)];rfl
theorem nW{k:List At}{x:Int}{acc:List Ba}(h:(Zx acc).Nodup):(Zx (CQ acc k x)).Nodup:=by
 rw[Tq]
 split
 ·exact h
 ·next m=>exact List.nodup_append.mpr ⟨h,by simp,λa d b c=>by simp at c;subst c;exact λe=>m (e ▸ d)⟩
theorem ax(k:List At)(x:Int):∀acc:List Ba,(CQ acc k x).length<=acc.length+1
 |[]=>by simp[CQ]
 |e::r=>by
  have:=ax k x r
  unfold CQ
  split<;>simp<;>omega
theorem nX{k a:List At}{x:Int}{acc:List Ba}(h:a∈Zx (CQ acc k x)):a=k\/a∈Zx acc:=by
 rw[Tq]at h
 split at h
 ·exact .inr h
 ·rcases List.mem_append.mp h with h|h
  ·exact .inr h
  ·simp at h;exact .inl h
def Ie:List Ba->Nat
 |[]=>0
 |e::r=>e.2.2.length+1+Ie r
theorem ay(k:List At)(x:Int):∀acc:List Ba,Ie (CQ acc k x)=Ie acc+1
 |[]=>rfl
 |e::r=>by
  have:=ay k x r
  unfold CQ
  split<;>simp[Ie]<;>omega
theorem Tr{k:List At}{p:Int×List Int}:∀{acc:List Ba},Z4 acc k=some p->p.2.length+1<=Ie acc
 |e::r,h=>by
  unfold Z4 at h
  simp only[Ie]
  split at h
  ·cases h;omega
  ·have:=Tr h;omega
theorem Ts(v:Int×List Int->D)(k:List At)(acc:List Ba):DD (.tup k) (acc.map (Z5 v))=true:=jK k λp a=>by
 obtain⟨e,_,rfl⟩:=List.mem_map.mp a
 rfl
theorem Tt(l:List At):Dl (Ah l)=some (.tup l):=QK (.tup l)
abbrev vL(p:Int×List Int):D:=.lst ((p.1::p.2).map D.int)
abbrev vC(p:Int×List Int):D:=BS p.1 p.2
abbrev DG(v:Int×List Int->D)(acc:List Ba):Sl:=.own (Zz (acc.map (Z5 v))) true
def CF(r:List At×Int):D:=.tup [Ah r.1,.int r.2]
def BL(b:List (List (List At)))(g:List Nat)(a:List (List At×Int))(acc:List Ba):List Ba:=a.foldl (λacc r=>CQ acc (BU b r.1 g) r.2) acc
structure CT(acc:List Ba)(n m:Nat):Prop where
 nd:(Zx acc).Nodup
 len:acc.length<=m
 sz:Ie acc<=m
 kl:∀k∈Zx acc,k.length=n
theorem CT.add{acc:List Ba}{n m:Nat}(h:CT acc n m){k:List At}(b:k.length=n)(x:Int):CT (CQ acc k x) n (m+1):=
 ⟨nW h.nd,by have:=ax k x acc;have:=h.len;omega,by rw[ay];have:=h.sz;omega,λd a=>by
  rcases nX a with rfl|c
  ·exact b
  ·exact h.kl _ c⟩
theorem nY{a:List (List (List At))}{g:List Nat}{s:List At}(h:Bq a g)(u:Bj a s)(hz:a.length<=4)(j t:Sl)(x:Int){acc:List Ba}{n m:Nat}(l:CT acc n m)(v:m<1000):
  Ma [.val (.lst (a.map Ax)),j,.val (AO g),DG vL acc,.val (Ah s),.val (.int x),t]=.next [.val (.lst (a.map Ax)),j,.val (AO g),DG vL (CQ acc (BU a s g) x),.val (Ah s),.val (.int x),.val (Ah (BU a s g))]:=by
 have w:=nT h u hz
 generalize BU a s g=k at *
 have hok:=Tt k
 have o:=Ts vL k acc
 have b:=GO vL k acc
 have c:(acc.map (Z5 vL)).length<AG:=by rw[BY];exact PX l.len (Ca v (by decide))
 have q:=Kb (acc.map (Z5 vL))
 have r:Zr (some [D.int x])=some [D.int x]:=ZC _ (by simp)
 have e:Zr (some ([]:List D))=some []:=rfl
 have f:∀d,ZJ ((ZS (acc.map (Z5 vL)) (.tup k)).getD (.lst [])) (.lst [.int x])=some d->B6 (acc.map (Z5 vL)) (.tup k) d=(CQ acc k x).map (Z5 vL)->Ma [.val (.lst (a.map Ax)),j,.val (AO g),DG vL acc,.val (Ah s),.val (.int x),t]=.next [.val (.lst (a.map Ax)),j,.val (AO g),DG vL (CQ acc k x),.val (Ah s),.val (.int x),.val (Ah k)]:=by
  intro d y z
  unfold DG
  generalize acc.map (Z5 vL)=KV at *
  generalize (CQ acc k x).map (Z5 vL)=A at *
  simp only[Ma,Zf,Zw,Zo,Zb,Zj,ZF,Zt,Ao,Ai,A8,ER,Zd,Nu,HN,AN,AL,AA,AT,AW,AU,w,Cr,q,hok,o,r,e,if_true,y,z,HZ,decide_eq_true c]
 cases i:Z4 acc k with
 |none=>
  refine f (vL (x,[])) ?_ (nV vL i)
  rw[b,i]
  rfl
 |some p=>
  refine f (vL (p.1,p.2++[x])) ?_ (nU vL l.nd i)
  rw[b,i]
  have:=Tr i
  have:=l.sz
  show ZJ (.lst ((p.1::p.2).map D.int)) (.lst [.int x])=_
  rw[W1 _ _ (by simp;omega)]
  simp
theorem az{e:List (List (List At))}{g:List Nat}(h:Bq e g)(hz:e.length<=4)(i:Sl):∀(d:List (List At×Int))(acc:List Ba)(m:Nat)(j k f:Sl),(∀r∈d,Bj e r.1)->CT acc e.length m->m+d.length<1000 ->
  CT (BL e g d acc) e.length (m+d.length)/\∃n o p,ZO (ZZ 2 (Zv (Zk 4) (Zv (Zk 5) Z1))) Ma (d.map CF) [.val (.lst (e.map Ax)),i,.val (AO g),DG vL acc,j,k,f]=.next [.val (.lst (e.map Ax)),i,.val (AO g),DG vL (BL e g d acc),n,o,p]
 |[],acc,m,j,k,f,_,l,_=>⟨l,j,k,f,rfl⟩
 |r::d,acc,m,j,k,f,s,l,u=>by
  simp only[B8]at u
  have t:=s r BA
  have v:=nY h t hz i f r.2 l (by omega)
  obtain⟨ok,a,b,c,w⟩:=az h hz i d (CQ acc (BU e r.1 g) r.2) (m+1) (.val (Ah r.1)) (.val (.int r.2)) (.val (Ah (BU e r.1 g))) (λq x=>s q (Bt _ x)) (l.add (Pc h t) r.2) (by omega)
  refine⟨by rw[B8,show m+(d.length+1)=m+1+d.length by omega];exact ok,a,b,c,?_⟩
  simp only[AY,CF,ZO,ZZ,Zv,Zk,Z1,B8,DT,if_true,AW,AU,AA]
  rw[v]
  exact w
theorem Tu(x:Int):∀xs:List Int,Ends (x::xs) (xs.foldl mn x) (xs.foldl mx x):=by
 intro xs
 induction xs generalizing x with
 |nil=>exact⟨by simp,by simp,by simp,by simp⟩
 |cons y i d=>
  have a:=d (mn x y)
  have b:=d (mx x y)
  have f:=Y0 x y
  have g:=Y1 x y
  simp only[JZ]
  refine⟨?_,λz c=>?_,?_,λz c=>?_⟩
  ·rcases Bv.mp a.m1 with e|e
   ·rw[e,f]
    rcases Int.le_total x y with z|z
    ·rw[show min x y=x by omega];simp
    ·rw[show min x y=y by omega];simp
   ·exact Bt _ (Bt _ e)
  ·have h:=a.m2 (mn x y) BA
   rcases Bv.mp c with rfl|c
   ·omega
   ·rcases Bv.mp c with rfl|c
    ·omega
    ·exact a.m2 z (Bt _ c)
  ·rcases Bv.mp b.M1 with e|e
   ·rw[e,g]
    rcases Int.le_total x y with z|z
    ·rw[show max x y=y by omega];simp
    ·rw[show max x y=x by omega];simp
   ·exact Bt _ (Bt _ e)
  ·have h:=b.M2 (mx x y) BA
   rcases Bv.mp c with rfl|c
   ·omega
   ·rcases Bv.mp c with rfl|c
    ·omega
    ·exact b.M2 z (Bt _ c)
theorem nZ(x:Int)(xs:List Int)(b:xs.length+1<64):NK [.val (vL (x,xs))]=some (.val (BS x xs)):=by
 obtain⟨d,g,h,i,c⟩:=Ends.ex (x::xs) (by simp)
 obtain⟨j,k⟩:=(Tu x xs).uniq c
 have f:=QA (x::xs)
 have l:=W0 (M9 (x::xs))
 have a:=lY (x::xs)
 rw[if_pos (by simpa using b)]at a
 unfold vL BS
 rw[j,k]
 simp only[B8]at *
 generalize E6 (x::xs)=W at *
 generalize (x::xs).sum=S at *
 generalize (x::xs).map D.int=V at *
 have m:atI (W.map D.int) 0=some (.int d):=by
  have:(W.map D.int)[0]?=some (D.int d):=by rw[Dy,h];rfl
  exact DJ this
 have n:atI (W.map D.int) (-1)=some (.int g):=by
  have e:DR (W.map D.int).length (-1)=some xs.length:=by
   unfold DR
   rw[BY,f,if_neg (by decide),if_pos (by omega)]
   congr 1;omega
  unfold atI
  rw[e]
  simpa using i
 simp[NK,Bm,Rn,a,f,m,n,Mf,l]
theorem oa{l:Type}{F:List Sl->Option Rv}(f:l->D){lt:l->l->Bool}(T:TO lt)(b:Option Bool)(xs:List l)(few:xs.length<64)(m:l->D)(tells:∀a∈xs,∃r,F [.val (f a)]=some r/\Fn r=m a)(mode:∀a∈xs,B7 b (m a))(cmp:∀a∈xs,∀c∈xs,ltN 6 (m a) (m c)=some (lt a c)):HR F (xs.map f)=some ((Z2 lt xs).map f):=by
 have n:∀a∈xs,Dm F (f a)=m a:=λa d=>by
  obtain⟨r,o,t⟩:=tells a d
  unfold Dm;rw[o];exact t
 have j:∀a∈xs,∀c∈xs,Cz F (f a) (f c)=lt a c:=λa d c g=>QR (by rw[n a d,n c g];exact cmp a d c g)
 have ok:Bz F (xs.map f):={
  few:=by simpa using few
  tells:=λx i=>by obtain⟨a,d,rfl⟩:=List.mem_map.mp i;obtain⟨r,o,_⟩:=tells a d;exact⟨_,o⟩
  mode:=⟨b,λx i=>by obtain⟨a,d,rfl⟩:=List.mem_map.mp i;rw[n a d];exact mode a d⟩
  cmp:=λx i y k=>by
   obtain⟨a,d,rfl⟩:=List.mem_map.mp i
   obtain⟨c,g,rfl⟩:=List.mem_map.mp k
   rw[n a d,n c g];exact⟨_,cmp a d c g⟩
  asym:=λx i y k h=>by
   obtain⟨a,d,rfl⟩:=List.mem_map.mp i
   obtain⟨c,g,rfl⟩:=List.mem_map.mp k
   rw[j a d c g]at h;rw[j c g a d];exact T.asym a c h
  neg:=λx i y k z u h=>by
   obtain⟨a,d,rfl⟩:=List.mem_map.mp i
   obtain⟨c,g,rfl⟩:=List.mem_map.mp k
   obtain⟨e,p,rfl⟩:=List.mem_map.mp u
   rw[j a d e p]at h;rw[j a d c g,j c g e p];exact T.neg a c e h
  anti:=λx i y k q s=>by
   obtain⟨a,d,rfl⟩:=List.mem_map.mp i
   obtain⟨c,g,rfl⟩:=List.mem_map.mp k
   rw[j a d c g]at q;rw[j c g a d]at s;rw[T.anti a c q s]}
 rw[Wx ok,Tb f lt _ xs j]
theorem og(a b:At):AB (Fc a) (Fc b)=decide (a=b):=by
 cases a<;>cases b<;>simp[Fc]
theorem aA(n:Nat)(a:At):A5 (n+1) (Fc a)=true:=by cases a<;>cases n<;>rfl
theorem aB(n:Nat):∀l m:List At,Ey (ltN (n+2)) (l.map Fc) (m.map Fc)=some (BD l m)
 |[],[]=>rfl
 |[],_::_=>rfl
 |_::_,[]=>rfl
 |a::r,b::s=>by
  have c:=aB n r s
  have d:=aA 11 a
  have e:=aA 11 b
  have f:=og a b
  have g:=nr n a b
  simp only[AY,Ey,Kj,d,e,f,g,c,BD,EY,if_true,decide_eq_true_eq]
  split<;>rfl
theorem oh(l:List At)(h:l.length<=1000):Od [.val (Ah l)]=some (.own (l.map Fc)):=by
 have d:=Ec (b:=Zk 0) (e:=RU) (ρ:=[.no]) aD Fc l λa _=>⟨[.val (aD a)],rfl,by
  have:=nE a
  simp only[RU,Zo,Zb,Ao,AL,AA,this,AT,Fn]⟩
 have q1:=ZC (l.map aD) (by simp;omega)
 refine Z9 rfl ?_
 unfold Ah
 generalize l.map aD=L at *
 show Oc [.val (.tup L)]=_
 have c:ZV 1 [] [.val (.tup L)]=[.no]:=rfl
 simp only[Oc,Zf,Cf,ZM,c,A6,Zy,AL,AA,AT,q1,d]
theorem oi(a:List (List At))(b:a.length<64)(c:∀l∈a,l.length<=1000):HR Od (a.map Ah)=some ((Z2 BD a).map Ah):=
 oa Ah O1 none a b (λl=>.lst (l.map Fc)) (λl h=>⟨_,oh l (c l h),rfl⟩) (λl _=>⟨_,rfl⟩) (λl _ m _=>aB 3 l m)
def Ck(acc:List Ba):List D:=(Z2 BD (Zx acc)).map λk=>.tup [Ah k,vC ((Z4 acc k).getD (0,[]))]
theorem Pe{acc:List Ba}{k:List At}(h:k∈Z2 BD (Zx acc)):∃p,Z4 acc k=some p:=by
 have a:=(D1 BD (Zx acc)).mem_iff.mp h
 cases b:Z4 acc k with
 |some p=>exact⟨p,rfl⟩
 |none=>exact absurd a (B1.mp b)
theorem aC(v:Int×List Int->D)(acc:List Ba):((acc.map (Z5 v)).map λp=>kD p.1)=(Zx acc).map Ah:=by
 unfold Zx
 rw[Dg,Dg];rfl
theorem Tv(v:Int×List Int->D){acc:List Ba}{k:List At}{p:Int×List Int}(h:Z4 acc k=some p):D0 (.lst (Zz (acc.map (Z5 v))) true) (Ah k)=some (v p):=by
 rw[LC,Tt]
 show(if DD (.tup k) (acc.map (Z5 v))=true then _ else _)=_
 rw[if_pos (Ts v k acc),GO,h];rfl
theorem Pf{i:List (List (List At))}{g:List Nat}(h:Bq i g)(hz:i.length<=4)(d:List (List At×Int))(v:∀r∈d,Bj i r.1)(t:d.length<64):Ow [.val (.lst (i.map Ax)),.val (.lst (d.map CF)),.val (AO g)]=some (.own (Ck (BL i g d [])))/\CT (BL i g d []) i.length d.length:=by
 obtain⟨ok,a,b,c,e⟩:=az h hz (.val (.lst (d.map CF))) d [] 0 .no .no .no v ⟨by simp[Zx],by simp,by simp[Ie],λk j=>nomatch j⟩ (by omega)
 rw[Gd]at ok
 refine⟨?_,ok⟩
 generalize BL i g d []=f at *
 have m:(Zx f).length<64:=by unfold Zx;rw[BY];have:=ok.len;omega
 have u:=oi (Zx f) m λl t=>by rw[ok.kl l t];omega
 rw[<- aC vL]at u
 have w:=Ec (b:=Zk 0) (e:=Sk) (ρ:=[.no,.lent (Zz (f.map (Z5 vL))) true]) Ah (λk=>.tup [Ah k,vC ((Z4 f k).getD (0,[]))]) (Z2 BD (Zx f)) λk j=>⟨[.val (Ah k),.lent (Zz (f.map (Z5 vL))) true],rfl,by
  obtain⟨p,n⟩:=Pe j
  have A:=Tv vL n
  have B:=nZ p.1 p.2 (by have:=Tr n;have:=ok.sz;omega)
  have q:Zr (some [Ah k,vC p])=some [Ah k,vC p]:=ZC _ (by simp)
  rw[n]
  simp only[Sk,Zo,Zb,Zj,Zt,Zd,Ai,A8,AN,AL,AA,AT,A,B,Cr,q,Option.getD]⟩
 have q1:=ZC ((Z2 BD (Zx f)).map Ah) (by rw[BY,(D1 _ _).length_eq];omega)
 have o:=Kb (f.map (Z5 vL))
 have C:DG vL []=.own [] true:=rfl
 rw[C]at e
 unfold DG at e
 unfold Ck
 refine Z9 rfl ?_
 generalize (Z2 BD (Zx f)).map (λk=>D.tup [Ah k,vC ((Z4 f k).getD (0,[]))])=T at *
 generalize (Z2 BD (Zx f)).map Ah=W at *
 generalize f.map (Z5 vL)=KV at *
 generalize d.map CF=R at *
 generalize i.map Ax=L at *
 show Ov [.val (.lst L),.val (.lst R),.val (AO g),.no,.no,.no,.no]=_
 have s:∀x y z,ZV 1 [3] [.val (.lst L),.val (.lst R),.val (AO g),.own (Zz KV) true,x,y,z]=[.no,.lent (Zz KV) true]:=λ_ _ _=>rfl
 simp only[Ov,Zf,ES,ZT,A6,Zy,Cf,ZM,s,Ny,Ai,ZF,AN,AL,AW,AU,AA,AT,e,o,u,q1,w]
theorem FP{ws:List Int}(a:ws.length=24)(i:Nat)(b:i<24):Au (.lst (ws.map D.int)) (.int (i:Int))=some (.int (ws.getD i 0)):=by
 show atI (ws.map D.int) (i:Int)=_
 have:=H9 (xs:=ws) (i:=(i:Int)) (by omega) (by omega)
 simpa using this
theorem oj(e:List Int)(p r:Sl)(k:Nat)(f:List (List (List At)))(E:k<10)(hz:f.length<100):∃d i,BG d/\Ot [.val (.lst (e.map D.int)),p,.own (f.map Ax),.val (.int (k:Int)),r]=.next [.val (.lst (e.map D.int)),p,.own ((f++[d]).map Ax),.val (.int (k:Int)),i]:=by
 have s:=Kt (.val (.lst (e.map D.int))) e (.inl rfl) (1+(k:Int)) (by omega)
 generalize e.getD (1+(k:Int)).toNat 0=c at *
 obtain⟨h,t,q,G⟩:=O0 c (k:Int)
 have j:=FP q 20 (by omega)
 have m:=FP q 21 (by omega)
 generalize h.getD 20 0=y at *
 generalize h.getD 21 0=z at *
 obtain⟨a,u,H⟩:=Hn y 8 (by omega)
 obtain⟨b,v,I⟩:=Hn z 4 (by omega)
 obtain⟨d,w,x⟩:=nQ c (1+a) (1+b) (by omega) (by omega) (by omega) (by omega)
 have A:ZJ (.int 1) (.int (k:Int))=some (.int (1+(k:Int))):=rfl
 have m1:=DP y 8 (by omega)
 have m2:=DP z 4 (by omega)
 have B:ZJ (.int 1) (.int (y%8))=some (.int ((1+a:Nat):Int)):=by
  show some (D.int (1+y%8))=_
  rw[show y%8=(a:Int)from u];rfl
 have C:ZJ (.int 1) (.int (z%4))=some (.int ((1+b:Nat):Int)):=by
  show some (D.int (1+z%4))=_
  rw[show z%4=(b:Int)from v];rfl
 have g:(f.map Ax).length<AG:=by rw[BY];exact Ca hz (by decide)
 refine⟨d,.val (.lst (h.map D.int)),w,?_⟩
 rw[D9,Ky]
 unfold Ax at *
 generalize (f.map λd=>D.lst (d.map Ah))=L at *
 generalize d.map Ah=l at *
 generalize e.map D.int=N at *
 generalize h.map D.int=W at *
 have n:Au (.lst W) (.int 20)=some (.int y):=j
 have o:Au (.lst W) (.int 21)=some (.int z):=m
 simp only[Ot,Zf,Zw,CI,Zo,Zd,Zb,Zj,Ao,Ai,BX,AN,AL,AW,AU,AA,AT,A,s,Cr,t,n,o,m1,m2,B,C,x,DO,g,if_true]
theorem aE(i:List Int)(j:Sl):∀(n k:Nat)(d:List (List (List At)))(l f:Sl),(∀g∈d,BG g)->k+n<=10->d.length+n<100->∃(c:List (List (List At)))(o p:Sl),(∀g∈c,BG g)/\c.length=d.length+n/\ZO (Zk 3) Ot ((H4 k n).map λ(k:Nat)=>D.int (k:Int)) [.val (.lst (i.map D.int)),j,.own (d.map Ax),l,f]=.next [.val (.lst (i.map D.int)),j,.own (c.map Ax),o,p]
 |0,k,d,l,f,h,_,_=>⟨d,l,f,h,rfl,rfl⟩
 |n+1,k,d,l,f,h,w,x=>by
  obtain⟨g,r,s,t⟩:=oj i j f k d (by omega) (by omega)
  obtain⟨c,a,b,u,q,v⟩:=aE i j n (k+1) (d++[g]) (.val (.int (k:Int))) r (λm e=>by
   rcases List.mem_append.mp e with e|e
   ·exact h m e
   ·simp at e;subst e;exact s) (by omega) (by simp;omega)
  refine⟨c,a,b,u,by rw[q];simp;omega,?_⟩
  simp only[OZ,AY,ZO,Zk,AW,AU,t,v]
theorem ol(d:List Int):∃f:List (List (List At)),(∀j∈f,BG j)/\0<f.length/\f.length<=4/\Sj [.val (.lst (d.map D.int))]=some (.own (f.map Ax)):=by
 have k:ZU [.val (.lst (d.map D.int)),.val (.int 0)]=some (.val (.int (d.getD 0 0))):=Kt (.val (.lst (d.map D.int))) d (.inl rfl) 0 (by omega)
 generalize d.getD 0 0=c at *
 obtain⟨n,l,m,o⟩:∃n:Nat,(1+c%3+(if c%12=5 then 1 else 0):Int)=(n:Int)/\0<n/\n<=4:=⟨(1+c%3+(if c%12=5 then 1 else 0):Int).toNat,by split<;>omega,by split<;>omega,by split<;>omega⟩
 obtain⟨f,a,b,p,i,e⟩:=aE d (.val (.int c)) n 0 [] .no .no (λ_ h=>nomatch h) (by omega) (by simp;omega)
 refine⟨f,p,by rw[i];simp;omega,by rw[i];simp;omega,?_⟩
 have q:=F5 n (by omega)
 rw[<- SV]at e
 have m1:=DP c 3 (by omega)
 have m2:=DP c 12 (by omega)
 have r:ZJ (.int 1) (.int (c%3))=some (.int (1+c%3)):=rfl
 have s:C9 (.int (c%12)) (.int 5)=some (.bl (decide (c%12=5))):=by simp
 have t:JX [.bl (decide (c%12=5))]=some (.int (if c%12=5 then 1 else 0)):=by
  by_cases h:c%12=5<;>simp[h]
 have u:ZJ (.int (1+c%3)) (.int (if c%12=5 then 1 else 0))=some (.int (n:Int)):=by
  show some (D.int (1+c%3+(if c%12=5 then 1 else 0)))=_
  rw[l]
 have g:Zr (some ([]:List D))=some []:=rfl
 refine Z9 rfl ?_
 generalize f.map Ax=L at *
 generalize d.map D.int=N at *
 show Ou [.val (.lst N),.no,.no,.no,.no]=_
 rw[Dd]at e
 simp only[Ou,X4,XW,X3,XY,X2,XZ,X1,X0,Zf,Zw,CN,ZT,Zo,ZA,Bw,pk,Zd,Zb,Zj,Zt,Ao,Ai,BX,Cf,AN,AL,AW,AU,AA,AT,k,Cr,g,m1,m2,r,s,t,u,q,e]
def Ho(ws:List Int):Nat->List (List (List At))->List At
 |_,[]=>[]
 |k,a::b=>Av (a.getD (ws.getD k 0%(a.length:Int)).toNat [])::Ho ws (k+1) b
theorem aF(ws:List Int):∀(k:Nat)(c:List (List (List At))),(∀b∈c,BG b)->Bj c (Ho ws k c)
 |_,[],_=>.nil
 |k,b::c,h=>by
  have d:=h b BA
  obtain⟨a,e,f⟩:=Hn (ws.getD k 0) b.length d.ne
  refine .cons ?_ (aF ws (k+1) c λm g=>h m (Bt _ g))
  rw[e,HJ]
  refine Pa ?_
  have:b.getD a []=b[a]:=by simp[Cq,f]
  rw[this];exact ET _
theorem aG(ws:List Int):∀(i k:Nat)(b:List (List (List At)))(a:List (List At)),b[i]?=some a->(Ho ws k b)[i]?=some (Av (a.getD (ws.getD (k+i) 0%(a.length:Int)).toNat []))
 |_,_,[],_,h=>by simp at h
 |0,k,m::b,a,h=>by simp at h;subst h;rfl
 |i+1,k,m::b,a,h=>by
  have:=aG ws i (k+1) b a (by simpa using h)
  rw[show k+1+i=k+(i+1) by omega]at this
  simpa[Ho]using this
theorem om(a c:Int):Co a (1-2*(c%2)):=by
 have:c%2=0\/c%2=1:=by omega
 right
 rcases this with h|h<;>rw[h]<;>decide
theorem on(cell:Int)(c:Nat)(f:List (List (List At)))(u:∀g∈f,BG g)(hz:f.length<=4):∃r:List At×Int,Bj f r.1/\RQ [.val (.int cell),.val (.int (c:Int)),.val (.lst (f.map Ax))]=some (.val (CF r)):=by
 obtain⟨b,w,o,hp⟩:=O0 cell (c:Int)
 have k:=aF b 0 f u
 have z:=Pb (e:=RD) [.val (.lst (b.map D.int))] Ax f 0 ((Ho b 0 f).map aD) (by rw[BY,k.len]) λi g y t A=>by
  rw[Dy,aG b i 0 f g t]at A
  cases A
  rw[Gd]
  have hi:i<f.length:=(List.getElem?_eq_some_iff.mp t).1
  have h:=u g (Gp t)
  have a1:=FP o i (by omega)
  generalize b.getD i 0=v at *
  obtain⟨a,Q,B⟩:=Hn v g.length h.ne
  have a2:=DP v (g.length:Int) (by have:=h.ne;omega)
  rw[Q]at a2 ⊢
  rw[HJ]
  have U:g.getD a []=g[a]:=by simp[Cq,B]
  have a3:Au (Ax g) (.int (a:Int))=some (Ah g[a]):=by
   show atI (g.map Ah) (a:Int)=_
   exact DJ (by simp[B])
  have a4:=GL g[a] (h.some _ (ET _))
  have a5:B9 [Ax g]=some (.int (g.length:Int)):=by simp
  rw[U]
  generalize g[a]=l at *
  generalize b.map D.int=W at *
  generalize Ax g=LD at *
  simp only[RD,Zd,ZA,Bw,pk,Zb,Ao,Ai,AN,AL,AA,AT,a1,a2,a3,a4,a5]
 have q1:Zr (some (Cj 0 (f.map Ax)))=some (Cj 0 (f.map Ax)):=ZC _ (by rw[J6];simp;omega)
 have Y:=FP o 5 (by omega)
 have i6:=FP o 6 (by omega)
 have i7:=FP o 7 (by omega)
 have C:=DP (b.getD 5 0) 2 (by omega)
 have E:=DP (b.getD 6 0) 2 (by omega)
 have m7:=DP (b.getD 7 0) 7 (by omega)
 have G:=Hm (om (cell%10^30) (b.getD 5 0))
 generalize b.getD 5 0=j at *
 generalize b.getD 6 0=m at *
 generalize b.getD 7 0=p at *
 have H:Au (.lst (b.map D.int)) (.int 5)=some (.int j):=Y
 have I:Au (.lst (b.map D.int)) (.int 6)=some (.int m):=i6
 have c7:Au (.lst (b.map D.int)) (.int 7)=some (.int p):=i7
 have J:JN (.int 10) (.int 30)=some (.int (10^30)):=by simp[Go]
 have M:=DP cell (10^30) (by decide)
 have N:=Hm (x:=2) (y:=j%2) (.inl (by decide))
 have O:IE (.int 1) (.int (2*(j%2)))=some (.int (1-2*(j%2))):=rfl
 have k3:IE (.int (p%7)) (.int 3)=some (.int (p%7-3)):=rfl
 have q:C9 (.int (m%2)) (.int 1)=some (.bl (decide (m%2=1))):=by simp
 refine⟨(Ho b 0 f,if m%2=1 then p%7-3 else cell%10^30*(1-2*(j%2))),k,Z9 rfl ?_⟩
 have q2:∀d,Zr (some [Ah (Ho b 0 f),d])=some [Ah (Ho b 0 f),d]:=λd=>ZC _ (by simp)
 unfold CF Ah at *
 generalize (Ho b 0 f).map aD=S at *
 generalize b.map D.int=W at *
 generalize f.map Ax=L at *
 generalize (10:Int)^30=T at *
 generalize cell%T=cT at *
 generalize cT*(1-2*(j%2))=am at *
 show L3 [.val (.int cell),.val (.int (c:Int)),.val (.lst L),.no,.no,.no]=_
 have n:ZV 2 [3] [.val (.int cell),.val (.int (c:Int)),.val (.lst L),.val (.lst W),.no,.no]=[.no,.no,.val (.lst W)]:=rfl
 by_cases s:m%2=1
 ·rw[decide_eq_true s]at q
  rw[if_pos s]
  simp only[L3,RO,RE,RN,RF,RM,RH,RL,RI,RK,RJ,Zf,Zw,ZI,AS,ZH,Zo,ZA,De,Bw,pk,Zd,Zb,Zj,Zt,ZF,ZM,Df,Dk,n,A6,Ao,Ai,A8,AN,AL,AW,AU,AA,AT,w,Cr,q1,z,J,M,H,C,N,O,G,I,E,q,c7,m7,k3,q2]
 ·rw[decide_eq_false s]at q
  rw[if_neg s]
  simp only[L3,RO,RE,RN,RF,RM,RH,RL,RI,RK,RJ,Zf,Zw,ZI,AS,ZH,Zo,ZA,De,Bw,pk,Zd,Zb,Zj,Zt,ZF,ZM,Df,Dk,n,A6,Ao,Ai,A8,AN,AL,AW,AU,AA,AT,w,Cr,q1,z,J,M,H,C,N,O,G,I,E,q,q2]
theorem aH(b:List (List (List At)))(g:∀i∈b,BG i)(hz:b.length<=4):∀(d:List Int)(k:Nat),∃a:List (List At×Int),a.length=d.length/\(∀r∈a,Bj b r.1)/\C1 (ZZ 2 (Zv (Zk 0) (Zv (Zk 1) Z1))) (λ_=>some true) Op [.no,.no,.val (.lst (b.map Ax))] (Cj k (d.map D.int))=some (a.map CF)
 |[],_=>⟨[],rfl,(λ_ h=>nomatch h),rfl⟩
 |c::d,k=>by
  obtain⟨a,j,l,m⟩:=aH b g hz d (k+1)
  obtain⟨r,n,o⟩:=on c k b g hz
  refine⟨r::a,by simp[j],λq f=>?_,?_⟩
  ·rcases Bv.mp f with rfl|f
   ·exact n
   ·exact l q f
  ·have e:Op [.val (.int (k:Int)),.val (.int c),.val (.lst (b.map Ax))]=some (CF r):=by
    generalize b.map Ax=L at *
    simp only[Op,Zo,Zb,Ao,AN,AL,AA,AT,o,Cr]
   simp only[AY,Cj,C1,ZZ,Zv,Zk,Z1,B8,DT,if_true,AW,AU,AA,e,m,Zb]
theorem oo(d:List Int)(H:d.length<=63)(g:List (List (List At)))(t:∀u∈g,BG u)(hz:g.length<=4):∃a:List (List At×Int),a.length<64/\(∀r∈a,Bj g r.1)/\Si [.val (.lst (d.map D.int)),.val (.lst (g.map Ax))]=some (.own (a.map CF)):=by
 have v:ZU [.val (.lst (d.map D.int)),.val (.int 5)]=some (.val (.int (d.getD 5 0))):=Kt (.val (.lst (d.map D.int))) d (.inl rfl) 5 (by omega)
 generalize d.getD 5 0=c at *
 obtain⟨n,w,I⟩:=Hn c 6 (by omega)
 have i:Em (d.map D.int) (some 11) (some 51)=((d.drop 11).take 40).map D.int:=by rw[Ra,WZ _ _ _ (by omega) (by omega)];rfl
 have z:((d.drop 11).take 40).length<=57:=by simp;omega
 generalize (d.drop 11).take 40=h at *
 have B:=F5 n (by omega)
 have o:=Ec (b:=Zk 0) (e:=Sh) (ρ:=[.no,.val (.int c)]) (λ(k:Nat)=>D.int (k:Int)) (λ(k:Nat)=>D.int (c/6+7*(k:Int))) (A7 n) λk M=>⟨[.val (.int (k:Int)),.val (.int c)],rfl,by
  have m1:=Hm (x:=7) (y:=(k:Int)) (.inl (by decide))
  have d1:DU (.int c) (.int 6)=some (.int (c/6)):=by
   show(if Ds c 6 then some (D.int (c/6))else none)=_
   rw[if_pos ⟨by decide,by decide⟩]
  have a1:ZJ (.int (c/6)) (.int (7*(k:Int)))=some (.int (c/6+7*(k:Int))):=rfl
  simp only[Sh,Zd,Ai,AN,AL,AA,m1,d1,a1]⟩
 have q0:=ZC ((A7 n).map λ(k:Nat)=>D.int (k:Int)) (by simp;omega)
 have f:=W1 (h.map D.int) ((A7 n).map λ(k:Nat)=>D.int (c/6+7*(k:Int))) (by simp;omega)
 have p:h.map D.int++(A7 n).map (λ(k:Nat)=>D.int (c/6+7*(k:Int)))=(h++(A7 n).map λ(k:Nat)=>c/6+7*(k:Int)).map D.int:=by
  rw[D9,Dg];rfl
 rw[p]at f
 have s:(h++(A7 n).map λ(k:Nat)=>c/6+7*(k:Int)).length<=62:=by simp;omega
 generalize (h++(A7 n).map λ(k:Nat)=>c/6+7*(k:Int))=m at *
 obtain⟨a,O,E,G⟩:=aH g t hz m 0
 refine⟨a,by omega,E,Z9 rfl ?_⟩
 have q1:Zr (some (Cj 0 (m.map D.int)))=some (Cj 0 (m.map D.int)):=ZC _ (by rw[J6];simp;omega)
 have m1:=DP c 6 (by omega)
 have q:c%6=(n:Int):=w
 rw[q]at m1
 generalize a.map CF=R at *
 generalize m.map D.int=C at *
 generalize ((A7 n).map λ(k:Nat)=>D.int (k:Int))=Q at *
 generalize ((A7 n).map λ(k:Nat)=>D.int (c/6+7*(k:Int)))=T at *
 generalize h.map D.int=A at *
 generalize d.map D.int=N at *
 generalize g.map Ax=L at *
 show Oq [.val (.lst N),.val (.lst L),.no,.no]=_
 have j:ZV 1 [2] [.val (.lst N),.val (.lst L),.val (.int c),.no]=[.no,.val (.int c)]:=rfl
 have l:ZV 2 [1] [.val (.lst N),.val (.lst L),.val (.int c),.val (.lst C)]=[.no,.no,.val (.lst L)]:=rfl
 simp only[Oq,Zf,Zw,Cf,Zo,ZM,Df,Dk,j,l,CB,G6,Cw,Zd,Zb,Zj,Zt,ZF,A6,Ao,Ai,AN,AL,AW,AU,AA,AT,v,Cr,m1,B,q0,o,i,f,q1,G]
def dv(k:Nat):Int:=[1,5,25,125].getD k 1
theorem oq(k:Nat)(h:k<4):atI [D.int 1,.int 5,.int 25,.int 125] (k:Int)=some (.int (dv k))/\Ds 0 (dv k):=by
 match k,h with
 |0,_=>exact⟨rfl,by decide,by decide⟩
 |1,_=>exact⟨rfl,by decide,by decide⟩
 |2,_=>exact⟨rfl,by decide,by decide⟩
 |3,_=>exact⟨rfl,by decide,by decide⟩
theorem ot(c:Int)(n:Sl)(k:Nat)(u:k<4)(d:List (List At))(o:BG d)(g:List Nat)(v:g.length<100):∃j:Nat,(∀l∈d,j<=l.length)/\NL [.val (.int c),n,.own (g.map λ(j:Nat)=>D.int (j:Int)),.val (.int (k:Int)),.val (Ax d)]=.next [.val (.int c),n,.own ((g++[j]).map λ(j:Nat)=>D.int (j:Int)),.val (.int (k:Int)),.val (Ax d)]:=by
 obtain⟨p,w,x,r⟩:=o.lw
 obtain⟨l,a,rfl⟩:∃l a,d=l::a:=by
  cases d with
  |nil=>have:=o.ne;simp at this
  |cons l a=>exact⟨l,a,rfl⟩
 have h:=r l BA
 obtain⟨d1,d2⟩:=oq k u
 generalize dv k=b at *
 obtain⟨j,s,H⟩:=Hn (c/b) (p+1) (by omega)
 refine⟨j,λm y=>by rw[r m y];omega,?_⟩
 have z:DU (.int c) (.int b)=some (.int (c/b)):=by
  show(if Ds c b then some (D.int (c/b))else none)=_
  rw[if_pos (show Ds c b from d2)]
 have A:Au (Ax (l::a)) (.int 0)=some (Ah l):=by
  show atI ((l::a).map Ah) 0=_
  exact Tf _ _
 have B:B9 [Ah l]=some (.int (p:Int)):=by simp[Ah,h]
 have C:ZJ (.int (p:Int)) (.int 1)=some (.int ((p:Int)+1)):=rfl
 have t:=DP (c/b) ((p:Int)+1) (by omega)
 have i:c/b%((p:Int)+1)=(j:Int):=by
  have e:((p+1:Nat):Int)=(p:Int)+1:=by omega
  rw[e]at s;exact s
 rw[i]at t
 have f:(g.map λ(j:Nat)=>D.int (j:Int)).length<AG:=by rw[BY];exact Ca v (by decide)
 have q:Zr (some [D.int 1,.int 5,.int 25,.int 125])=some [D.int 1,.int 5,.int 25,.int 125]:=ZC _ (by simp)
 have E:Au (.lst [D.int 1,.int 5,.int 25,.int 125]) (.int (k:Int))=some (.int b):=d1
 rw[D9,Ky]
 generalize (g.map λ(j:Nat)=>D.int (j:Int))=G at *
 generalize Ax (l::a)=LD at *
 simp only[NL,Zf,CI,ZA,Bw,pk,Zd,Zb,Zj,Zt,ZF,Ao,Ai,BX,AN,AL,AW,AU,AA,AT,q,E,z,A,B,C,t,f,if_true]
theorem aI(c:Int)(f:Sl):∀(d:List (List (List At)))(k:Nat)(g:List Nat)(i l:Sl),(∀e∈d,BG e)->k+d.length<=4->g.length+d.length<100->∃(g':List Nat)(n o:Sl),Bq d g'/\ZO (ZZ 2 (Zv (Zk 3) (Zv (Zk 4) Z1))) NL (Cj k (d.map Ax)) [.val (.int c),f,.own (g.map λ(j:Nat)=>D.int (j:Int)),i,l]=.next [.val (.int c),f,.own ((g++g').map λ(j:Nat)=>D.int (j:Int)),n,o]
 |[],_,g,i,l,_,_,_=>⟨[],i,l,.nil,by rw[Es];rfl⟩
 |e::d,k,g,i,l,h,q,r=>by
  simp only[B8]at q r
  have p:=h e BA
  obtain⟨j,s,t⟩:=ot c f k (by omega) e p g (by omega)
  obtain⟨g',a,b,u,v⟩:=aI c f d (k+1) (g++[j]) (.val (.int (k:Int))) (.val (Ax e)) (λm w=>h m (Bt _ w)) (by omega) (by simp;omega)
  refine⟨j::g',a,b,.cons p s u,?_⟩
  simp only[AY,Cj,ZO,ZZ,Zv,Zk,Z1,B8,DT,if_true,AW,AU,AA]
  rw[t]
  simp only[v,Hj,List.singleton_append]
theorem aJ(c:Int)(d:List (List (List At)))(h:∀i∈d,BG i)(hz:d.length<=4):∃g,Bq d g/\NN [.val (.int c),.val (.lst (d.map Ax))]=some (.val (AO g)):=by
 obtain⟨g,a,b,k,e⟩:=aI c (.val (.lst (d.map Ax))) d 0 [] .no .no h (by omega) (by simp;omega)
 refine⟨g,k,Z9 rfl ?_⟩
 rw[Jd,Dd]at e
 have f:Zr (some ([]:List D))=some []:=rfl
 unfold AO
 generalize (g.map λ(j:Nat)=>D.int (j:Int))=G at *
 generalize d.map Ax=L at *
 show NM [.val (.int c),.val (.lst L),.no,.no,.no]=_
 simp only[NM,Zf,CN,ZT,ZH,Df,Dk,ZA,De,Bw,pk,Zb,Zt,A6,Ao,AN,AL,AW,AU,AA,AT,f,e]
theorem Tw(x:Int)(xs:List Int):BS x xs=Ah [.int ((xs.length+1:Nat):Int),.int ((x::xs).sum),.int (xs.foldl mn x),.int (xs.foldl mx x)]:=rfl
theorem ou(s0:Sl)(k:List At)(h:k.length<=1000)(x:Int)(xs:List Int):NO [s0,.val (.tup [Ah k,BS x xs])]=.next [s0,.val (.tup [Ah k,BS x xs])]:=by
 rw[Tw]
 generalize c:([.int ((xs.length+1:Nat):Int),.int ((x::xs).sum),.int (xs.foldl mn x),.int (xs.foldl mx x)]:List At)=b
 have f:b.length=4:=by rw[<- c];rfl
 have a1:EC [.tup [Ah k,Ah b],.ty "tuple"]=some (.bl true):=by simp
 have a2:B9 [.tup [Ah k,Ah b]]=some (.int 2):=rfl
 have a3:Ew (.int 2) (.int 2)=some (.bl false):=by simp
 have a4:Au (.tup [Ah k,Ah b]) (.int 0)=some (Ah k):=rfl
 have a5:Au (.tup [Ah k,Ah b]) (.int 1)=some (Ah b):=rfl
 have a6:EC [Ah k,.ty "tuple"]=some (.bl true):=by simp[Ah]
 have a7:EC [Ah b,.ty "tuple"]=some (.bl true):=by simp[Ah]
 have a8:ZJ (Ah k) (Ah b)=some (.tup ((k++b).map aD)):=by
  unfold Ah
  rw[Rb _ _ (by simp;omega),D9]
 have g:=nB (C:=Ro) (λa=>by cases a<;>simp[Ro,aD]) (k++b)
 have d:=nC (k++b)
 have q:=ZC ((k++b).map aD) (by simp;omega)
 generalize ((k++b).map λ_=>false).map D.bl=B at *
 generalize (k++b).map aD=A at *
 have e:ZV 1 [] [s0,.val (.tup [Ah k,Ah b])]=[.no]:=rfl
 simp only[NO,Zf,ZI,FE,CM,B5,AS,ZA,Bw,pk,Zd,Zb,Zj,ZF,ZM,e,Zy,Ao,Ai,AN,AL,AA,AT,a1,a2,a3,a4,a5,a6,a7,a8,q,g,d,GK]
theorem aK(s0:Sl):∀(b:List (List At×Int×List Int))(c:Sl),(∀t∈b,t.1.length<=1000)->∃a,ZO (Zk 1) NO (b.map λt=>.tup [Ah t.1,BS t.2.1 t.2.2]) [s0,c]=.next [s0,a]
 |[],c,_=>⟨c,rfl⟩
 |t::b,c,h=>by
  obtain⟨a,e⟩:=aK s0 b (.val (.tup [Ah t.1,BS t.2.1 t.2.2])) λu d=>h u (Bt _ d)
  refine⟨a,?_⟩
  have f:=ou s0 t.1 (h t BA) t.2.1 t.2.2
  simp only[AY,ZO,Zk,AW,AU,f,e]
def C4(acc:List Ba):List (List At×Int×List Int):=(Z2 BD (Zx acc)).map λk=>(k,(Z4 acc k).getD (0,[]))
theorem Mj(acc:List Ba):Ck acc=(C4 acc).map λt=>.tup [Ah t.1,BS t.2.1 t.2.2]:=by
 unfold Ck C4
 rw[Dg];rfl
theorem ov{acc:List Ba}{n m:Nat}(h:CT acc n m)(c:n<=1000):(∀t∈C4 acc,t.1.length<=1000)/\(C4 acc).length<=m:=by
 refine⟨λt a=>?_,?_⟩
 ·obtain⟨k,b,rfl⟩:=List.mem_map.mp a
  have:=h.kl k ((D1 BD _).mem_iff.mp b)
  show k.length<=1000
  omega
 ·unfold C4
  rw[BY,(D1 BD _).length_eq]
  unfold Zx
  rw[BY];exact h.len
theorem ow{acc:List Ba}{n m:Nat}(h:CT acc n m)(a:n<=1000)(c:m<1000):Rp [.lent (Ck acc)]=some (.val (.bl true)):=by
 obtain⟨b,d⟩:=ov h a
 rw[Mj]
 obtain⟨f,e⟩:=aK (.lent ((C4 acc).map λt=>D.tup [Ah t.1,BS t.2.1 t.2.2])) (C4 acc) .no b
 generalize ((C4 acc).map λt=>D.tup [Ah t.1,BS t.2.1 t.2.2])=T at *
 have a1:EC [.lst T,.ty "list"]=some (.bl true):=by simp
 refine Z9 rfl ?_
 show NP [.lent T,.no]=_
 simp only[NP,Zf,ZI,CM,B5,ZT,ZH,ZA,Bw,pk,Zb,Zj,Zy,Ao,A6,AN,AL,AA,AT,a1,e,GK]
theorem Tz{d:D}(h:A5 12 d=true):C9 d d=some (.bl true)/\Ew d d=some (.bl false):=by
 have a:=Vt 12 d h
 simp only[C9,Ew,Kj,h,a,EY,if_true,GK,and_self]
theorem ox(acc:List Ba):A5 12 (.lst (Ck acc))=true:=by
 rw[Mj]
 show((C4 acc).map _).all (A5 11)=true
 rw[HF,Ev]
 intro t _
 show [Ah t.1,BS t.2.1 t.2.2].all (A5 10)=true
 rw[Tw]
 simp only[D7,List.all_nil,OU 9,EY]
def C0(acc:List Ba):List (List At×Int):=acc.flatMap λe=>(e.2.1::e.2.2).map λx=>(e.1,x)
theorem GP(e:Ba)(r:List Ba):C0 (e::r)=(e.2.1::e.2.2).map (λx=>(e.1,x))++C0 r:=by simp[C0]
def CU:List Ba->List At->Int->List Int->List Ba
 |[],k,x,a=>[(k,x,a)]
 |e::r,k,x,a=>if e.1=k then(e.1,e.2.1,e.2.2++x::a)::r else e::CU r k x a
theorem aL(k:List At)(x:Int):∀acc:List Ba,CQ acc k x=CU acc k x []
 |[]=>rfl
 |e::r=>by unfold CQ CU;rw[aL k x r]
theorem TB(k:List At)(x:Int)(xs:List Int):∀acc:List Ba,(C0 (CU acc k x xs)).Perm ((x::xs).map (λy=>(k,y))++C0 acc)
 |[]=>by simp[CU,C0]
 |e::r=>by
  unfold CU
  by_cases c:e.1=k
  ·rw[if_pos c,GP,GP]
   subst c
   show((e.2.1::(e.2.2++x::xs)).map (λy=>(e.1,y))++C0 r).Perm _
   rw[show e.2.1::(e.2.2++x::xs)=(e.2.1::e.2.2)++(x::xs) by simp,D9,<- Hj]
   exact List.perm_append_comm.append_right _
  ·rw[if_neg c,GP,GP]
   refine((TB k x xs r).append_left _).trans ?_
   rw[<- Hj,<- Hj]
   exact List.perm_append_comm.append_right _
theorem TC(k:List At)(x:Int)(xs:List Int):∀acc:List Ba,Zx (CU acc k x xs)=if k∈Zx acc then Zx acc else Zx acc++[k]
 |[]=>rfl
 |e::r=>by
  have b:=TC k x xs r
  unfold CU
  by_cases c:e.1=k
  ·rw[if_pos c];simp[Zx,c]
  ·rw[if_neg c]
   have:Zx (e::CU r k x xs)=e.1::Zx (CU r k x xs):=rfl
   have a:Zx (e::r)=e.1::Zx r:=rfl
   rw[this,b,a]
   by_cases m:k∈Zx r
   ·rw[if_pos m,if_pos (Bt _ m)]
   ·rw[if_neg m,if_neg (by simp[Zx,Br c]at m ⊢;exact m)];rfl
theorem aM{k:List At}{x:Int}{xs:List Int}{acc:List Ba}(h:(Zx acc).Nodup):(Zx (CU acc k x xs)).Nodup:=by
 rw[TC]
 split
 ·exact h
 ·next m=>exact List.nodup_append.mpr ⟨h,by simp,λa d b c=>by simp at c;subst c;exact λe=>m (e ▸ d)⟩
theorem aN(k:List At)(x:Int)(xs:List Int):∀acc:List Ba,(CU acc k x xs).length<=acc.length+1
 |[]=>by simp[CU]
 |e::r=>by
  have:=aN k x xs r
  unfold CU
  split<;>simp<;>omega
theorem aO(v:Int×List Int->D){k:List At}{x:Int}{xs:List Int}{p:Int×List Int}:∀{acc:List Ba},(Zx acc).Nodup->Z4 acc k=some p->DZ (acc.map (Z5 v)) (.tup k) (v (p.1,p.2++x::xs))=(CU acc k x xs).map (Z5 v)
 |e::r,a,h=>by
  simp only[Zx,AY,E2]at a
  unfold Z4 at h
  by_cases c:e.1=k
  ·rw[if_pos c]at h;cases h
   have b:ZS (r.map (Z5 v)) (.tup k)=none:=by
    rw[GO,B1.mpr (c ▸ a.1)];rfl
   simp only[AY,DZ,CU,Z5,c,if_true,Tp b,KT.tup.injEq]
  ·rw[if_neg c]at h
   have d:=aO v (x:=x) (xs:=xs) a.2 h
   simp only[AY,DZ,CU,Z5,c,if_false,KT.tup.injEq]
   rw[d]
theorem aP{k:List At}{x:Int}{xs:List Int}:∀{acc:List Ba},Z4 acc k=none->CU acc k x xs=acc++[(k,x,xs)]
 |[],_=>rfl
 |e::r,h=>by
  unfold Z4 at h
  by_cases c:e.1=k
  ·rw[if_pos c]at h;cases h
  ·rw[if_neg c]at h
   unfold CU
   rw[if_neg c,aP h];rfl
theorem oy(v:Int×List Int->D){k:List At}{x:Int}{xs:List Int}{p:Int×List Int}{acc:List Ba}(a:(Zx acc).Nodup)(h:Z4 acc k=some p):B6 (acc.map (Z5 v)) (.tup k) (v (p.1,p.2++x::xs))=(CU acc k x xs).map (Z5 v):=by
 unfold B6
 rw[GO,h]
 exact aO v a h
theorem oz(v:Int×List Int->D){k:List At}{x:Int}{xs:List Int}{acc:List Ba}(h:Z4 acc k=none):B6 (acc.map (Z5 v)) (.tup k) (v (x,xs))=(CU acc k x xs).map (Z5 v):=by
 unfold B6
 rw[GO,h,aP h]
 simp[Z5]
theorem oA{x y:Int}{xs ys:List Int}(h:(x::xs).Perm (y::ys)):BS x xs=BS y ys:=by
 have d:=Tu x xs
 have b:=Tu y ys
 have e:Ends (x::xs) (ys.foldl mn y) (ys.foldl mx y):=⟨h.mem_iff.mpr b.m1,λa c=>b.m2 a (h.mem_iff.mp c),h.mem_iff.mpr b.M1,λa c=>b.M2 a (h.mem_iff.mp c)⟩
 obtain⟨f,g⟩:=d.uniq e
 have i:=W0 h
 have j:=h.length_eq
 simp only[B8]at j
 unfold BS
 rw[f,g,i,show xs.length=ys.length by omega]
def FQ(k:List At)(l:List (List At×Int)):List Int:=l.filterMap λp=>if p.1=k then some p.2 else none
theorem aQ(k:List At)(a b:List (List At×Int)):FQ k (a++b)=FQ k a++FQ k b:=by simp[FQ]
theorem aR(k:List At):∀xs:List Int,FQ k (xs.map λx=>(k,x))=xs
 |[]=>rfl
 |x::xs=>by
  have a:=aR k xs
  unfold FQ at a ⊢
  simp only[AY,Ji,if_true,a]
theorem TD{k a:List At}(h:a≠k):∀xs:List Int,FQ k (xs.map λx=>(a,x))=[]
 |[]=>rfl
 |x::xs=>by
  have b:=TD h xs
  unfold FQ at b ⊢
  simp only[AY,Ji,h,if_false,b]
theorem aS{k:List At}:∀{acc:List Ba},k∉Zx acc->FQ k (C0 acc)=[]
 |[],_=>rfl
 |e::r,h=>by
  simp only[Zx,AY,Bv,not_or]at h
  rw[GP,aQ,TD (Br h.1),aS (acc:=r) h.2];rfl
theorem TF{k:List At}{p:Int×List Int}:∀{acc:List Ba},(Zx acc).Nodup->Z4 acc k=some p->FQ k (C0 acc)=p.1::p.2
 |e::r,a,h=>by
  simp only[Zx,AY,E2]at a
  unfold Z4 at h
  rw[GP,aQ]
  by_cases c:e.1=k
  ·rw[if_pos c]at h;cases h
   subst c
   rw[aR,aS a.1,Es]
  ·rw[if_neg c]at h
   rw[TD c,TF a.2 h];rfl
theorem CV{k:List At}:∀{acc:List Ba},k∈Zx acc↔∃x,(k,x)∈C0 acc
 |[]=>by simp[Zx,C0]
 |e::r=>by
  have b:=CV (k:=k) (acc:=r)
  rw[GP]
  have a:Zx (e::r)=e.1::Zx r:=rfl
  rw[a]
  constructor
  ·intro h
   rcases Bv.mp h with rfl|h
   ·exact⟨e.2.1,Jj _ (List.mem_map.mpr ⟨e.2.1,BA,rfl⟩)⟩
   ·obtain⟨x,c⟩:=b.mp h
    exact⟨x,C6 _ c⟩
  ·rintro⟨x,h⟩
   rcases List.mem_append.mp h with h|h
   ·obtain⟨y,_,d⟩:=List.mem_map.mp h
    cases d
    exact BA
   ·exact Bt _ (b.mpr ⟨x,h⟩)
theorem oB{acc a:List Ba}(d:(Zx acc).Nodup)(f:(Zx a).Nodup)(h:(C0 acc).Perm (C0 a)):Ck acc=Ck a:=by
 have m:(Zx acc).Perm (Zx a):=(List.perm_ext_iff_of_nodup d f).mpr λk=>by
  rw[CV,CV]
  exact⟨λ⟨x,c⟩=>⟨x,h.mem_iff.mp c⟩,λ⟨x,c⟩=>⟨x,h.mem_iff.mpr c⟩⟩
 have g:Z2 BD (Zx acc)=Z2 BD (Zx a):=ni O1 ((D1 BD _).trans m) (Ta O1 _)
 unfold Ck
 rw[g]
 refine List.map_congr_left λk b=>?_
 obtain⟨i,j⟩:=Pe b
 obtain⟨p,e⟩:=Pe (acc:=acc) (by rw[g];exact b)
 rw[e,j]
 have l:(FQ k (C0 acc)).Perm (FQ k (C0 a)):=h.filterMap _
 rw[TF d e,TF f j]at l
 show D.tup [Ah k,BS p.1 p.2]=D.tup [Ah k,BS i.1 i.2]
 rw[oA l]
theorem oC{a b:List Ba}(h:a.Perm b):(C0 a).Perm (C0 b):=h.flatMap_right _
theorem oD:∀{acc:List Ba},(Zx acc).Nodup->acc.map (λe=>(e.1,(Z4 acc e.1).getD (0,[])))=acc:=by
 intro acc b
 have:∀e∈acc,Z4 acc e.1=some e.2:=by
  intro e a
  induction acc with
  |nil=>exact nomatch a
  |cons d r c=>
   simp only[Zx,AY,E2]at b
   unfold Z4
   rcases Bv.mp a with rfl|a
   ·rw[if_pos rfl]
   ·rw[if_neg (λz=>b.1 (by rw[z];exact Pa a))]
    exact c b.2 a
 refine(List.map_congr_left (g:=id) λe a=>?_).trans (List.map_id _)
 rw[this e a];rfl
theorem oE{acc:List Ba}(h:(Zx acc).Nodup):(C0 (C4 acc)).Perm (C0 acc):=by
 refine oC ?_
 unfold C4
 have a:=(D1 BD (Zx acc)).map λk=>((k,(Z4 acc k).getD (0,[])):Ba)
 have b:(Zx acc).map (λk=>((k,(Z4 acc k).getD (0,[])):Ba))=acc:=by
  unfold Zx
  rw[Dg]
  exact oD h
 rw[b]at a
 exact a
theorem Pg(b:List (List (List At)))(g:List Nat):∀(a:List (List At×Int))(acc:List Ba),(C0 (BL b g a acc)).Perm (a.map (λr=>(BU b r.1 g,r.2))++C0 acc)
 |[],acc=>.refl _
 |r::a,acc=>by
  refine(Pg b g a (CQ acc (BU b r.1 g) r.2)).trans ?_
  rw[aL]
  refine((TB _ _ [] acc).append_left _).trans ?_
  simp only[AY,Dd,List.singleton_append,List.cons_append]
  exact List.perm_middle
theorem oF(b:List (List (List At)))(g:List Nat)(a:List (List At×Int)){k:List At}(h:k∈Zx (BL b g a [])):∃r∈a,k=BU b r.1 g:=by
 obtain⟨x,c⟩:=CV.mp h
 have:=(Pg b g a []).mem_iff.mp c
 simp only[C0,List.flatMap_nil,Es,List.mem_map,Prod.mk.injEq]at this
 obtain⟨r,d,e,_⟩:=this
 exact⟨r,d,e.symm⟩
def Kz(f:List At->List At)(a acc:List Ba):List Ba:=a.foldl (λacc t=>CU acc (f t.1) t.2.1 t.2.2) acc
theorem aT(f:List At->List At):∀(a acc:List Ba),(C0 (Kz f a acc)).Perm ((C0 a).map (λp=>(f p.1,p.2))++C0 acc)
 |[],acc=>.refl _
 |t::a,acc=>by
  refine(aT f a (CU acc (f t.1) t.2.1 t.2.2)).trans ?_
  refine((TB _ _ _ acc).append_left _).trans ?_
  rw[GP,D9,Dg,<- Hj]
  exact List.perm_append_comm.append_right _
theorem aU(f:List At->List At):∀(a acc:List Ba),(Zx acc).Nodup->(Zx (Kz f a acc)).Nodup
 |[],_,h=>h
 |t::a,acc,h=>aU f a _ (aM h)
def Db(a:List (List At)):Nat:=(a.headD []).length
theorem BG.la{a:List (List At)}(h:BG a):Ga (Db a) a:=by
 obtain⟨p,b,c,d⟩:=h.lw
 have e:Db a=p:=by
  cases a with
  |nil=>have:=h.ne;simp at this
  |cons l r=>exact d l BA
 rw[e]
 exact⟨b,c,h.ne,by have:=h.few;omega,d,h.vs,h.nd⟩
def B2(b:List (List (List At))):List (Nat×List (List At)):=b.map λa=>(Db a,a)
theorem TJ(a:List (List (List At))):LD (B2 a)=.lst (a.map Ax):=by unfold LD B2;rw[Dg];rfl
theorem Mk(a:List (List (List At))):(B2 a).length=a.length:=by simp[B2]
theorem Jf(a:List (List (List At)))(x:Nat):(B2 a)[x]?=(a[x]?).map λb=>(Db b,b):=by simp[B2]
theorem aV{b:List (List (List At))}(e:∀a∈b,BG a)(f:0<b.length)(hz:b.length<=4):O6 (B2 b):=
 ⟨by rw[Mk];omega,by rw[Mk];omega,λp c=>by obtain⟨a,d,rfl⟩:=List.mem_map.mp c;exact(e a d).la,λp c=>by obtain⟨a,d,rfl⟩:=List.mem_map.mp c;exact(e a d).few⟩
theorem Bq.gr{b:List (List (List At))}{g:List Nat}(h:Bq b g):Mi (B2 b) g:=by
 refine⟨by rw[Mk,h.len],λx w la e=>?_⟩
 rw[Jf]at e
 cases a:b[x]? with
 |none=>rw[a]at e;cases e
 |some k=>
  rw[a]at e
  cases e
  induction h generalizing x with
  |nil=>simp at a
  |@cons c b i g d f m j=>
   cases x with
   |zero=>
    simp at a;subst a
    show i<=_
    cases c with
    |nil=>have:=d.ne;simp at this
    |cons l r=>exact f l BA
   |succ x=>simpa using j x (by simpa using a)
theorem Ph(g:List Nat):GD g=AO g:=rfl
def Ar(a:List AP)(x:Nat)(b:List (List At)):List (List At):=b.filter (ZP a x)
def Ge(a:List AP)(x:Nat)(b:List (List At))(i j:Nat):Bx:=Do [] ((Ar a x b).map λl=>(l.getD i .non,aD (l.getD j .non)))
def D2(a:List AP)(x:Nat)(b:List (List At)):D:=.lst ((Z2 BQ ((Ar a x b).map Av)).map aD)
theorem oG{a:List (List At)}(c:BG a)(b:List AP)(x:Nat){l:List At}(d:l∈a):C2 false (aD (Av l)) (D2 b x a)=some (.bl (ZP b x l)):=by
 unfold D2
 rw[(Ib _ _).1]
 congr 2
 have:=ao c.la b x d
 rw[HY,decide_eq_true_eq]
 exact this
theorem oH{a:List (List At)}(f:BG a)(c:List AP)(x i j:Nat):Rx [.val (Ax a),.val (.int (i:Int)),.val (.int (j:Int)),.val (D2 c x a)]=some (.own (Zz (Ge c x a i j)) true):=by
 have y:=f.few
 have q:=f.four
 have q1:Zr (some (a.map Ah))=some (a.map Ah):=ZC _ (by simp;omega)
 have s:=O5 (b:=Zk 0) (t:=NV) (e:=NW) (ρ:=[.no,.val (.int (i:Int)),.val (.int (j:Int)),.val (D2 c x a)]) Ah (λl=>.tup [aD (l.getD i .non),aD (l.getD j .non)]) (ZP c x) a λl g=>⟨[.val (Ah l),.val (.int (i:Int)),.val (.int (j:Int)),.val (D2 c x a)],rfl,by
   have k:=GL l (f.some l g)
   have u:=oG f c x g
   generalize D2 c x a=d at *
   simp only[NV,AS,Zd,Ai,AN,AL,AA,k,u],by
   have k:=Mh l j (by have:=q l g;omega)
   have v:=Mh l i (by have:=q l g;omega)
   have m:Zr (some [aD (l.getD i .non),aD (l.getD j .non)])=some [aD (l.getD i .non),aD (l.getD j .non)]:=ZC _ (by simp)
   generalize D2 c x a=d at *
   simp only[NW,Zo,Zb,Zj,Zt,Ao,AN,AL,AA,AT,v,k,Cr,m]⟩
 have w:(Ar c x a).length<=a.length:=Kv _ _
 have r:=O3 ((Ar c x a).map λl=>(l.getD i .non,aD (l.getD j .non))) [] (λ_ h=>nomatch h) (by simp;omega)
 rw[Dg]at r
 have A:((Ar c x a).map λl=>D.tup [aD (l.getD i .non),aD (l.getD j .non)])=(Ar c x a).map ((λp=>D.tup [aD p.1,p.2])∘λl=>(l.getD i .non,aD (l.getD j .non))):=rfl
 have n:C1 (Zk 0) NV NW [.no,.val (.int (i:Int)),.val (.int (j:Int)),.val (D2 c x a)] (a.map Ah)=some ((Ar c x a).map ((λp=>D.tup [aD p.1,p.2])∘λl=>(l.getD i .non,aD (l.getD j .non)))):=s
 unfold Ax Ge
 generalize Do [] ((Ar c x a).map λl=>(l.getD i .non,aD (l.getD j .non)))=KV at *
 generalize (Ar c x a).map ((λp=>D.tup [aD p.1,p.2])∘λl=>(l.getD i .non,aD (l.getD j .non)))=PS at *
 generalize a.map Ah=L at *
 generalize D2 c x a=d at *
 refine Z9 rfl ?_
 have o:ZV 1 [1,2,3] [.val (.lst L),.val (.int (i:Int)),.val (.int (j:Int)),.val d]=[.no,.val (.int (i:Int)),.val (.int (j:Int)),.val d]:=rfl
 show NX [.val (.lst L),.val (.int (i:Int)),.val (.int (j:Int)),.val d]=_
 simp only[NX,Zf,IB,HU,ZF,ZM,o,A6,Zy,AL,AA,AT,q1,n,r]
def CG(a:List AP):Nat->List (List (List At))->List Nat->List Nat->List D
 |x,b::c,i::g,j::k=>.lst (Zz (Ge a x b i j)) true::CG a (x+1) c g k
 |_,_,_,_=>[]
theorem TK(b:List AP){a:List (List (List At))}{g k:List Nat}(h:Bq a g)(h':Bq a k):∀x,(CG b x a g k).length=a.length:=by
 induction h generalizing k with
 |nil=>cases h';exact λ_=>rfl
 |cons _ _ _ c=>
  cases h' with
  |cons _ _ t=>intro x;simp[CG,c t]
theorem oI(l:List AP){c:List (List (List At))}{g k:List Nat}(h:Bq c g)(h':Bq c k):∀(x n:Nat)(d:List (List At)),c[n]?=some d->∃i j:Nat,g[n]?=some i/\k[n]?=some j/\BG d/\(CG l x c g k)[n]?=some (D.lst (Zz (Ge l (x+n) d i j)) true):=by
 induction h generalizing k with
 |nil=>intro x i d e;simp at e
 |@cons d c i g o u v p=>
  cases h' with
  |@cons _ _ j w y z q=>
  intro x n f e
  cases n with
  |zero=>
   simp at e;subst e
   exact⟨i,j,rfl,rfl,o,rfl⟩
  |succ n=>
   obtain⟨a,b,r,s,t,m⟩:=p q (x+1) n f (by simpa using e)
   rw[show x+1+n=x+(n+1) by omega]at m
   exact⟨a,b,r,s,t,m⟩
theorem oJ{a:List (List (List At))}(g:∀h∈a,BG h)(hz:a.length<=4)(c:List AP)(i:∀q∈c,q.vs.length<=50):Md [.val (.lst (a.map Ax)),.val (.lst (c.map AJ))]=some (.own ((A7 a.length).map λx=>D2 c x (a.getD x []))):=by
 have j:=Ec (b:=Zk 0) (e:=Mc) (ρ:=[.no,.val (.lst (a.map Ax)),.val (.lst (c.map AJ))]) (λ(k:Nat)=>D.int (k:Int)) (λx=>D2 c x (a.getD x [])) (A7 a.length) λx d=>⟨[.val (.int (x:Int)),.val (.lst (a.map Ax)),.val (.lst (c.map AJ))],rfl,by
  have d:=List.mem_range.mp d
  have e:a.getD x []=a[x]:=by simp[Cq,d]
  have l:=af (.lst (a.map Ax)) c x (Db a[x]) a[x] (DJ (by rw[Dy,CH d];rfl)) (g _ (ET _)).la i
  rw[e]
  unfold D2 Ar
  generalize (Z2 BQ ((a[x].filter (ZP c x)).map Av)).map aD=S at *
  generalize a.map Ax=L at *
  generalize c.map AJ=Q at *
  simp only[Mc,l,DO,Ao,Zo,Zb,AN,AL,AA,AT]⟩
 have m:=F5 a.length (by omega)
 have q1:=ZC ((A7 a.length).map λ(k:Nat)=>D.int (k:Int)) (by simp;omega)
 have n:B9 [.lst (a.map Ax)]=some (.int (a.length:Int)):=by simp
 refine Z9 rfl ?_
 show Kr [.val (.lst (a.map Ax)),.val (.lst (c.map AJ))]=_
 generalize ((A7 a.length).map λx=>D2 c x (a.getD x []))=p at *
 generalize ((A7 a.length).map λ(k:Nat)=>D.int (k:Int))=R at *
 generalize (a.length:Int)=N at *
 generalize a.map Ax=L at *
 generalize c.map AJ=Q at *
 have f:ZV 1 [0,1] [.val (.lst L),.val (.lst Q)]=[.no,.val (.lst L),.val (.lst Q)]:=rfl
 simp only[Kr,n,m,ZM,q1,f,j,Cf,Zf,Ao,Zb,Zj,Zt,ZA,Bw,pk,AN,AL,AA,AT]
theorem aW{a:List (List (List At))}{g k:List Nat}(h:Bq a g)(h':Bq a k)(p:∀c∈a,BG c)(hz:a.length<=4)(b:List AP)(r:∀q∈b,q.vs.length<=50):OH [.val (.lst (a.map Ax)),.val (AO g),.val (AO k),.val (.lst (b.map AJ))]=some (.own (CG b 0 a g k)):=by
 have s:=oJ p hz b r
 have t:=Pb (e:=SD) [.val (AO g),.val (AO k),.val (.lst ((A7 a.length).map λx=>D2 b x (a.getD x [])))] Ax a 0 (CG b 0 a g k) (TK b h h' 0).symm λn c y d o=>by
  obtain⟨i,j,u,v,f,w1⟩:=oI b h h' 0 n c d
  rw[w1]at o;cases o
  have a1:=Pd u
  have a2:=Pd v
  have a3:=oH f b n i j
  have w:n<a.length:=(List.getElem?_eq_some_iff.mp d).1
  have a4:Au (.lst ((A7 a.length).map λx=>D2 b x (a.getD x []))) (.int (n:Int))=some (D2 b n c):=by
   show atI _ (n:Int)=_
   refine DJ ?_
   rw[Dy,Qj w]
   simp[Cq,d]
  rw[Gd]
  generalize ((A7 a.length).map λx=>D2 b x (a.getD x []))=l at *
  generalize D2 b n c=z at *
  simp only[SD,Zo,Zd,Zb,Zj,Ao,Ai,AN,AL,AA,AT,a1,a2,a3,a4,DO]
 have q1:Zr (some (Cj 0 (a.map Ax)))=some (Cj 0 (a.map Ax)):=ZC _ (by rw[J6];simp;omega)
 generalize ((A7 a.length).map λx=>D2 b x (a.getD x []))=l at *
 generalize a.map Ax=L at *
 generalize b.map AJ=Q at *
 refine Z9 rfl ?_
 show OG [.val (.lst L),.val (AO g),.val (AO k),.val (.lst Q),.no]=_
 have m:ZV 2 [1,2,4] [.val (.lst L),.val (AO g),.val (AO k),.val (.lst Q),.val (.lst l)]=[.no,.no,.val (AO g),.val (AO k),.val (.lst l)]:=rfl
 simp only[OG,Zf,Zw,Cf,Zo,Zb,Ao,ZM,Df,Dk,m,A6,AN,AL,AW,AU,AA,AT,s,DO,q1,t]
def EF(b:List AP):Nat->List (List (List At))->List Nat->List At->List Bool
 |x,c::d,i::g,a::e=>decide (a∈(Ar b x c).map λl=>l.getD i .non)::EF b (x+1) d g e
 |_,_,_,_=>[]
theorem oK(b:List AP)(x:Nat)(c:List (List At))(i j:Nat)(a:At):EE false (aD a) (.lst (Zz (Ge b x c i j)) true)=some (.bl (decide (a∈(Ar b x c).map λl=>l.getD i .non))):=by
 unfold Ge
 rw[Y8,Dg]
 show some (D.bl (false != _))=_
 rw[Bool.false_bne];rfl
theorem oM(d:List AP){c:List (List (List At))}{g k:List Nat}(h:Bq c g)(h':Bq c k):∀(x:Nat)(b:List At),b.length=c.length->C1 (ZZ 2 (Zv (Zk 0) (Zv (Zk 1) Z1))) (λ_=>some true) ND [.no,.no] (Fs (λx y=>D.tup [x,y]) (CG d x c g k) (b.map aD))=some ((EF d x c g b).map D.bl):=by
 induction h generalizing k with
 |nil=>intro x b e;cases h';cases b with
  |nil=>rfl
  |cons=>simp at e
 |@cons f c i g p q r m=>
  cases h' with
  |@cons _ _ j s t u n=>
  intro x b e
  cases b with
  |nil=>simp at e
  |cons a b=>
  have o:ND [.val (.lst (Zz (Ge d x f i j)) true),.val (aD a)]=some (.bl (decide (a∈(Ar d x f).map λl=>l.getD i .non))):=by
   have:=oK d x f i j a
   simp only[ND,Zd,Ai,AN,AL,AA,AT,this]
  have m:=m n (x+1) b (by simpa using e)
  simp only[CG,EF,AY,To,C1,ZZ,Zv,Zk,Z1,B8,DT,if_true,AW,AU,AA,o,m,Zb]
def CJ(a:List AP)(b:List (List (List At)))(g:List Nat)(c:List At):Bool:=(EF a 0 b g c).all id
theorem TL(b:List AP){a:List (List (List At))}{g k:List Nat}(h:Bq a g)(h':Bq a k)(hz:a.length<=4)(c:List At)(e:c.length=a.length):LW [.val (.lst (CG b 0 a g k)),.val (Ah c)]=some (.val (.bl (CJ b a g c))):=by
 have f:=oM b h h' 0 c e
 have i:HH [.lst ((EF b 0 a g c).map D.bl)]=some (.bl (CJ b a g c)):=by simp only[HH,NA,Hz];rfl
 have q1:=ZC (Fs (λx y=>D.tup [x,y]) (CG b 0 a g k) (c.map aD)) (by simp[TK b h h'];omega)
 refine Z9 rfl ?_
 unfold Ah
 generalize CG b 0 a g k=L at *
 generalize c.map aD=S at *
 generalize (EF b 0 a g c).map D.bl=B at *
 show NE [.val (.lst L),.val (.tup S)]=_
 have d:ZV 2 [] [.val (.lst L),.val (.tup S)]=[.no,.no]:=rfl
 simp only[NE,Zf,ZH,ZA,Bw,pk,Zb,Zj,ZF,ZM,Hb,Dk,d,A6,AN,AL,AA,AT,q1,f,i]
inductive GQ(qs:List AP):Nat->List (List (List At))->List Nat->List Nat->Prop where
 |nil {x}:GQ qs x [] [] []
 |cons {x ls Ls i g j k}:(∀l∈ls,∀m∈ls,l.getD i .non=m.getD i .non->FN qs x j l=FN qs x j m)->GQ qs (x+1) Ls g k->GQ qs x (ls::Ls) (i::g) (j::k)
def Ml:List (List At)->At->List At
 |[],_=>[]
 |l::b,a=>if Av l=a then l else Ml b a
theorem KA:∀{b:List (List At)}{l:List At},(b.map Av).Nodup->l∈b->Ml b (Av l)=l
 |m::b,l,a,c=>by
  unfold Ml
  rcases Bv.mp c with rfl|c
  ·rw[if_pos rfl]
  ·rw[AY,E2]at a
   rw[if_neg (show ¬ Av m=Av l from λe=>a.1 (by rw[e];exact Pa c))]
   exact KA a.2 c
def Cm(b:List AP):Nat->List (List (List At))->List At->List Bool
 |x,c::d,a::e=>ZP b x (Ml c a)::Cm b (x+1) d e
 |_,_,_=>[]
def Gf(b:List AP):Nat->List (List (List At))->List Nat->List Nat->List At->List At
 |x,c::d,i::g,j::k,a::e=>(((Ar b x c).find? λl=>decide (l.getD i .non=a)).getD []).getD j .non::Gf b (x+1) d g k e
 |_,_,_,_,_=>[]
theorem aX(d:List AP){b:List (List (List At))}{g k:List Nat}(h:Bq b g):∀(x:Nat)(s:List At),Bj b s->GQ d x b g k->EF d x b g (BU b s g)=Cm d x b s:=by
 induction h generalizing k with
 |nil=>intro x s j _;cases j;rfl
 |@cons v b i g p w y n=>
  intro x s j q
  cases j with
  |@cons _ _ a r t u=>
  cases q with
  |cons n1 n2=>
  have n:=n (x+1) r u n2
  simp only[EF,BU,Cm,n]
  congr 1
  obtain⟨l,f,rfl⟩:=List.mem_map.mp t
  rw[Je p.nd f,KA p.nd f,HY,decide_eq_true_eq]
  constructor
  ·intro z
   obtain⟨m,o,e⟩:=List.mem_map.mp z
   obtain⟨m1,m2⟩:=List.mem_filter.mp o
   have:=n1 m m1 l f e
   unfold FN at this
   rw[if_pos m2]at this
   cases c:ZP d x l with
   |true=>rfl
   |false=>rw[c]at this;simp at this
  ·intro z
   exact List.mem_map.mpr ⟨l,List.mem_filter.mpr ⟨f,z⟩,rfl⟩
theorem aY(e:List AP){b:List (List (List At))}{g k:List Nat}(h:Bq b g):∀(x:Nat)(s:List At),Bj b s->GQ e x b g k->(Cm e x b s).all id=true->Gf e x b g k (BU b s g)=BU b s k:=by
 induction h generalizing k with
 |nil=>intro x s f n _;cases f;cases n;rfl
 |@cons r b i g o y z p=>
  intro x s f n c
  cases f with
  |@cons _ _ a t u v=>
  cases n with
  |@cons _ _ _ _ _ j A n1 n2=>
  simp only[Cm,D7,Dj,id]at c
  have p:=p (x+1) t v n2 c.2
  simp only[Gf,BU,p]
  congr 1
  obtain⟨l,d,rfl⟩:=List.mem_map.mp u
  rw[KA o.nd d]at c
  rw[Je o.nd d,Je o.nd d]
  cases q:(Ar e x r).find? λm=>decide (m.getD i .non=l.getD i .non)with
  |none=>
   have:=List.find?_eq_none.mp q l (List.mem_filter.mpr ⟨d,c.1⟩)
   simp at this
  |some m=>
   have w:=List.find?_some q
   obtain⟨m1,m2⟩:=List.mem_filter.mp (List.mem_of_find?_eq_some q)
   have:=n1 m m1 l d (by simpa using w)
   unfold FN at this
   rw[if_pos m2,if_pos c.1]at this
   exact Fy this
theorem oN(c:List AP){b:List (List (List At))}{g k:List Nat}(h:Bq b g)(h':Bq b k):∀(x:Nat)(s:List At),Bj b s->GQ c x b g k->(Cm c x b s).all id=true->C1 (ZZ 2 (Zv (Zk 0) (Zv (Zk 1) Z1))) (λ_=>some true) Mb [.no,.no] (Fs (λx y=>D.tup [x,y]) (CG c x b g k) ((BU b s g).map aD))=some ((BU b s k).map aD):=by
 induction h generalizing k with
 |nil=>intro x s o v _;cases o;cases h';rfl
 |@cons d b i g q G H r=>
  intro x s o v f
  cases o with
  |@cons _ _ a w z A=>
  cases h' with
  |@cons _ _ j I J L B=>
  cases v with
  |cons n1 n2=>
  simp only[Cm,D7,Dj,id]at f
  have r:=r B (x+1) w A n2 f.2
  have C:Mb [.val (.lst (Zz (Ge c x d i j)) true),.val (aD (Gc d a i))]=some (aD (Gc d a j)):=by
   obtain⟨l,n,rfl⟩:=List.mem_map.mp z
   rw[KA q.nd n]at f
   rw[Je q.nd n,Je q.nd n]
   have:D0 (.lst (Zz (Ge c x d i j)) true) (aD (l.getD i .non))=some (aD (l.getD j .non)):=by
    rw[LC,Ia]
    have t:∀p∈Ge c x d i j,ED p.1=true:=Mg _ [] (λ_ h=>nomatch h)
    show(if DD (.at (l.getD i .non)) (Ge c x d i j)=true then _ else _)=_
    rw[if_pos (HP _ t)]
    refine aq _ _ (λp E e=>?_) (.inr ⟨(l.getD i .non,aD (l.getD j .non)),List.mem_map.mpr ⟨l,List.mem_filter.mpr ⟨n,f.1⟩,rfl⟩,rfl⟩)
    obtain⟨m,u,rfl⟩:=List.mem_map.mp E
    obtain⟨m1,m2⟩:=List.mem_filter.mp u
    have:=n1 m m1 l n e
    unfold FN at this
    rw[if_pos m2,if_pos f.1]at this
    show aD (m.getD j .non)=aD (l.getD j .non)
    rw[Fy this]
   simp only[Mb,Zd,Ai,AN,AL,AA,AT,this]
  simp only[CG,BU,AY,To,C1,ZZ,Zv,Zk,Z1,B8,DT,if_true,AW,AU,AA,C,r,Zb]
structure Fw(acc:List Ba)(n m:Nat):Prop where
 nd:(Zx acc).Nodup
 len:acc.length<=m
 kl:∀k∈Zx acc,k.length=n
theorem Fw.add{acc:List Ba}{n m:Nat}(h:Fw acc n m){k:List At}(b:k.length=n)(x:Int)(xs:List Int):Fw (CU acc k x xs) n (m+1):=
 ⟨aM h.nd,by have:=aN k x xs acc;have:=h.len;omega,λc a=>by
  rw[TC]at a
  split at a
  ·exact h.kl _ a
  ·rcases List.mem_append.mp a with z|z
   ·exact h.kl _ z
   ·simp at z;rw[z];exact b⟩
theorem oO(c:List AP){a:List (List (List At))}{g k:List Nat}{s:List At}(h:Bq a g)(h':Bq a k)(H:GQ c 0 a g k)(has:(Cm c 0 a s).all id=true)(v:Bj a s)(hz:a.length<=4)(e u:Sl)(x:Int)(xs:List Int){acc:List Ba}{n m:Nat}(I:Fw acc n m)(J:m<1000):
  IZ [.val (.lst (CG c 0 a g k)),e,DG vC acc,.val (Ah (BU a s g)),.val (BS x xs),u]=.next [.val (.lst (CG c 0 a g k)),e,DG vC (CU acc (BU a s k) x xs),.val (Ah (BU a s g)),.val (BS x xs),.val (Ah (BU a s k))]:=by
 have i:=TL c h h' hz (BU a s g) (Pc h v)
 unfold CJ at i
 rw[aX c h 0 s v H,has]at i
 have M:=oN c h h' 0 s v H has
 have q1:=ZC (Fs (λx y=>D.tup [x,y]) (CG c 0 a g k) ((BU a s g).map aD)) (by simp[TK c h h'];omega)
 have N:∀x y z w,ZA De (λb=>Zb (Zj (ZF ((ZM 2 [] (Hb (λb=>A6 b 0) (λb=>A6 b 3)) (ZZ 2 (Zv (Zk 0) (Zv (Zk 1) Z1))) (λ_=>some true) Mb) b))) (some [])) [.val (.lst (CG c 0 a g k)),x,y,.val (Ah (BU a s g)),z,w]=some (Ah (BU a s k)):=by
  intro x y z w
  unfold Ah
  generalize CG c 0 a g k=L at *
  generalize (BU a s g).map aD=S at *
  have A:ZV 2 [] [.val (.lst L),x,y,.val (.tup S),z,w]=[.no,.no]:=rfl
  simp only[ZA,De,Bw,pk,Zb,Zj,ZF,ZM,Hb,Dk,A,A6,AN,AL,AA,AT,q1,M]
 generalize CG c 0 a g k=L at *
 generalize BU a s g=j at *
 generalize BU a s k=k at *
 have hok:=Tt k
 have l:=Ts vC k acc
 have o:=GO vC k acc
 have q:(acc.map (Z5 vC)).length<AG:=by rw[BY];exact PX I.len (Ca J (by decide))
 have B:=Kb (acc.map (Z5 vC))
 have r:EE false (Ah k) (.lst (Zz (acc.map (Z5 vC))) true)=some (.bl (Z4 acc k).isSome):=by
  rw[Wh,hok]
  show(if DD (.tup k) (acc.map (Z5 vC))=true then _ else _)=_
  rw[if_pos l,o,Option.isSome_map]
  cases(Z4 acc k).isSome<;>rfl
 have f:∀d,K9 (some (Z4 acc k).isSome) ((Zo LV (λb=>Zb (Zj ((Zd D0 (λb=>Ai b 2) (λb=>Ai b 5)) b)) (Zb (Ao b 4) (some [])))) [.val (.lst L),e,DG vC acc,.val (Ah j),.val (BS x xs),.val (Ah k)]) (some (BS x xs))=some d->B6 (acc.map (Z5 vC)) (.tup k) d=(CU acc k x xs).map (Z5 vC)->IZ [.val (.lst L),e,DG vC acc,.val (Ah j),.val (BS x xs),u]=.next [.val (.lst L),e,DG vC (CU acc k x xs),.val (Ah j),.val (BS x xs),.val (Ah k)]:=by
  intro d C E
  unfold DG at *
  have G:=N e (.own (Zz (acc.map (Z5 vC))) true) (.val (BS x xs)) u
  generalize acc.map (Z5 vC)=KV at *
  generalize (CU acc k x xs).map (Z5 vC)=O at *
  unfold IZ
  have Q:B5 ((Zo LW (λb=>Zb (Ao b 0) (Zb (Ao b 3) (some [])))) [.val (.lst L),e,.own (Zz KV) true,.val (Ah j),.val (BS x xs),u])=some true:=by
   simp only[Zo,Zb,Ao,AN,AL,AA,AT,i,Cr,B5]
  simp only[Q,ZI,Zf,G,Zw,AW,AU]
  have T:Zd (EE false) (λb=>Ai b 5) (λb=>Ai b 2) [.val (.lst L),e,.own (Zz KV) true,.val (Ah j),.val (BS x xs),.val (Ah k)]=some (.bl (Z4 acc k).isSome):=by
   simp only[Zd,Ai,AN,AL,AA,r]
  have U:A8 [.val (.lst L),e,.own (Zz KV) true,.val (Ah j),.val (BS x xs),.val (Ah k)] 4=some (BS x xs):=rfl
  rw[T,U]
  simp only[AS,AA]
  rw[C]
  simp only[HN,Ai,ER,AN,AL,AW,AU,B,hok,l,E,HZ,decide_eq_true q,if_true]
 cases t:Z4 acc k with
 |none=>
  rw[t]at f
  exact f (vC (x,xs)) rfl (oz vC t)
 |some p=>
  rw[t]at f
  refine f (vC (p.1,p.2++x::xs)) ?_ (oy vC I.nd t)
  have C:=Tv vC t
  have E:=nt p.1 x p.2 xs
  unfold DG
  generalize acc.map (Z5 vC)=KV at *
  simp only[K9,Option.isSome,Zo,Zd,Zb,Zj,Ai,Ao,AN,AL,AA,AT,C,E,Cr]
theorem oP(b:List AP){a:List (List (List At))}{g k:List Nat}(h:Bq a g)(h':Bq a k)(hz:a.length<=4)(k1:List At)(j:k1.length=a.length)(l:CJ b a g k1=false)(d e f i:Sl):
  IZ [.val (.lst (CG b 0 a g k)),d,e,.val (Ah k1),f,i]=.next [.val (.lst (CG b 0 a g k)),d,e,.val (Ah k1),f,i]:=by
 have c:=TL b h h' hz k1 j
 rw[l]at c
 generalize CG b 0 a g k=L at *
 simp only[IZ,Zf,ZI,B5,Zo,Zb,Ao,AN,AL,AA,AT,c,Cr]
def Tells(b:List AP)(a:List (List (List At)))(g k:List Nat):Prop:=GQ b 0 a g k\/∀s,Bj a s->(Cm b 0 a s).all id=false/\CJ b a g (BU a s g)=false
theorem Tells.go{b:List AP}{a:List (List (List At))}{g k:List Nat}(d:Tells b a g k)(h:Bq a g){s:List At}(c:Bj a s):CJ b a g (BU a s g)=(Cm b 0 a s).all id:=by
 rcases d with e|z
 ·unfold CJ;rw[aX b h 0 s c e]
 ·rw[(z s c).1,(z s c).2]
theorem Tells.nb{b:List AP}{a:List (List (List At))}{g k:List Nat}(d:Tells b a g k){s:List At}(e:Bj a s)(c:(Cm b 0 a s).all id=true):GQ b 0 a g k:=by
 rcases d with f|z
 ·exact f
 ·rw[(z s e).1]at c;cases c
abbrev DQ(t:Ba):D:=.tup [Ah t.1,BS t.2.1 t.2.2]
theorem TM(e:List AP){d:List (List (List At))}{g k:List Nat}(h:Bq d g)(h':Bq d k)(u:Tells e d g k)(hz:d.length<=4)(l:Sl):∀(f acc:List Ba)(m:Nat)(v w j:Sl),(∀t∈f,∃s,Bj d s/\t.1=BU d s g)->Fw acc d.length m->m+f.length<1000 ->
  Fw (Kz (Gf e 0 d g k) (f.filter λt=>CJ e d g t.1) acc) d.length (m+f.length)/\∃x y z,ZO (ZZ 2 (Zv (Zk 3) (Zv (Zk 4) Z1))) IZ (f.map DQ) [.val (.lst (CG e 0 d g k)),l,DG vC acc,v,w,j]=.next [.val (.lst (CG e 0 d g k)),l,DG vC (Kz (Gf e 0 d g k) (f.filter λt=>CJ e d g t.1) acc),x,y,z]
 |[],acc,m,v,w,j,_,o,_=>⟨o,v,w,j,rfl⟩
 |t::f,acc,m,v,w,j,A,o,J=>by
  simp only[B8]at J
  obtain⟨s,n,B⟩:=A t BA
  have i:=u.go h n
  rw[<- B]at i
  cases p:(Cm e 0 d s).all id with
  |true=>
   have I:=u.nb n p
   have r:=oO e h h' I p n hz l j t.2.1 t.2.2 o (by omega)
   have C:=aY e h 0 s n I p
   rw[<- B]at r C
   rw[<- C]at r
   have E:(Gf e 0 d g k t.1).length=d.length:=by rw[C,Pc h' n]
   obtain⟨ok,a,b,c,G⟩:=TM e h h' u hz l f (CU acc (Gf e 0 d g k t.1) t.2.1 t.2.2) (m+1) (.val (Ah t.1)) (.val (BS t.2.1 t.2.2)) (.val (Ah (Gf e 0 d g k t.1))) (λq H=>A q (Bt _ H)) (o.add E _ _) (by omega)
   rw[Pj (by rw[i];exact p)]
   refine⟨by rw[B8,show m+(f.length+1)=m+1+f.length by omega];exact ok,a,b,c,?_⟩
   simp only[AY,DQ,ZO,ZZ,Zv,Zk,Z1,B8,DT,if_true,AW,AU,AA]
   rw[r]
   exact G
  |false=>
   rw[p]at i
   have r:=oP e h h' hz t.1 (by rw[B,Pc h n]) i l (DG vC acc) (.val (BS t.2.1 t.2.2)) j
   obtain⟨ok,a,b,c,G⟩:=TM e h h' u hz l f acc m (.val (Ah t.1)) (.val (BS t.2.1 t.2.2)) j (λq H=>A q (Bt _ H)) o (by omega)
   rw[Pk (by rw[i];decide)]
   refine⟨⟨ok.nd,by have:=ok.len;rw[B8];omega,ok.kl⟩,a,b,c,?_⟩
   simp only[AY,DQ,ZO,ZZ,Zv,Zk,Z1,B8,DT,if_true,AW,AU,AA]
   rw[r]
   exact G
theorem aZ(acc:List Ba):(C4 acc).length=acc.length:=by
 unfold C4
 rw[BY,(D1 BD _).length_eq]
 unfold Zx
 rw[BY]
theorem bc(P:List At->Bool):∀a:List Ba,C0 (a.filter λt=>P t.1)=(C0 a).filter λp=>P p.1
 |[]=>rfl
 |t::a=>by
  have c:=bc P a
  rw[GP,List.filter_append]
  cases h:P t.1 with
  |true=>
   rw[Pj (p:=λt:Ba=>P t.1) h,GP,c]
   congr 1
   rw[List.filter_eq_self.mpr]
   intro p b
   obtain⟨y,_,rfl⟩:=List.mem_map.mp b
   exact h
  |false=>
   rw[Pk (p:=λt:Ba=>P t.1) (by show ¬ P t.1=true;rw[h];decide),c]
   have:((t.2.1::t.2.2).map λx=>(t.1,x)).filter (λp=>P p.1)=[]:=by
    rw[List.filter_eq_nil_iff]
    intro p b
    obtain⟨y,_,rfl⟩:=List.mem_map.mp b
    show ¬ P t.1=true
    rw[h];decide
   rw[this];rfl
def Dp(b:List AP)(c:List (List (List At)))(a:List (List At×Int)):List (List At×Int):=a.filter λr=>(Cm b 0 c r.1).all id
theorem oQ(c:List AP){b:List (List (List At))}{g k:List Nat}(h:Bq b g)(f:Tells c b g k)(a:List (List At×Int))(e:∀r∈a,Bj b r.1)(n1:(Zx (BL b g a [])).Nodup)(n2:(Zx (BL b k (Dp c b a) [])).Nodup):Ck (Kz (Gf c 0 b g k) ((C4 (BL b g a [])).filter λt=>CJ c b g t.1) [])=Ck (BL b k (Dp c b a) []):=by
 refine oB (aU _ _ _ (by simp[Zx])) n2 ?_
 refine(aT _ _ _).trans ?_
 have i:C0 []=[]:=rfl
 rw[i,Es,bc (CJ c b g)]
 refine(((oE n1).filter _).map _).trans ?_
 refine(((Pg b g a []).filter _).map _).trans ?_
 refine List.Perm.trans ?_ (Pg b k (Dp c b a) []).symm
 rw[i,Es,Es,List.filter_map,Dg]
 unfold Dp
 have m:a.filter ((λp:List At×Int=>CJ c b g p.1)∘λr=>(BU b r.1 g,r.2))=a.filter λr=>(Cm c 0 b r.1).all id:=List.filter_congr λr d=>f.go h (e r d)
 rw[m]
 refine List.Perm.of_eq (List.map_congr_left λr d=>?_)
 obtain⟨j,l⟩:=List.mem_filter.mp d
 show(Gf c 0 b g k (BU b r.1 g),r.2)=(BU b r.1 k,r.2)
 rw[aY c h 0 r.1 (e r j) (f.nb (e r j) l) l]
theorem oR(j:List AP){f:List (List (List At))}{g k:List Nat}(h:Bq f g)(h':Bq f k)(u:Tells j f g k)(J:0<f.length)(hz:f.length<=4)(d:List (List At×Int))(v:∀r∈d,Bj f r.1)(w:d.length<64):Ss [.val (.lst (CG j 0 f g k)),.val (.lst (Ck (BL f g d [])))]=some (.own (Ck (BL f k (Dp j f d) []))):=by
 have n:=(Pf h hz d v w).2
 have A:∀r∈Dp j f d,Bj f r.1:=λr m=>v r (List.mem_filter.mp m).1
 have O:(Dp j f d).length<=d.length:=Kv _ _
 have B:=(Pf h' hz (Dp j f d) A (by omega)).2
 rw[<- oQ j h u d v n.nd B.nd,Mj (BL f g d [])]
 have C:∀t∈C4 (BL f g d []),∃s,Bj f s/\t.1=BU f s g:=λt u=>by
  obtain⟨k',E,rfl⟩:=List.mem_map.mp u
  obtain⟨r,m,e⟩:=oF f g d ((D1 BD _).mem_iff.mp E)
  exact⟨r.1,v r m,e⟩
 have Q:=aZ (BL f g d [])
 have U:=n.len
 obtain⟨ok,a,b,c,e⟩:=TM j h h' u hz (.val (.lst ((C4 (BL f g d [])).map DQ))) (C4 (BL f g d [])) [] 0 .no .no .no C ⟨by simp[Zx],by simp,λk G=>nomatch G⟩ (by omega)
 rw[Gd]at ok
 generalize Kz (Gf j 0 f g k) ((C4 (BL f g d [])).filter λt=>CJ j f g t.1) []=i at *
 have H:(Zx i).length<64:=by unfold Zx;rw[BY];have:=ok.len;omega
 have M:=Y9 (.val (.lst ((Zx i).map Ah))) (Zx i) (.inl rfl) H λl w=>by
  have:=ok.kl l w
  exact⟨λz=>by rw[z]at this;simp at this;omega,by omega⟩
 rw[Tc _ _ ((D1 BD _).nodup_iff.mpr ok.nd) (λ_ e=>by cases e),<- aC vC]at M
 have Y:=Ec (b:=Zk 0) (e:=Sr) (ρ:=[.no,.lent (Zz (i.map (Z5 vC))) true]) Ah (λk=>.tup [Ah k,vC ((Z4 i k).getD (0,[]))]) (Z2 BD (Zx i)) λk G=>⟨[.val (Ah k),.lent (Zz (i.map (Z5 vC))) true],rfl,by
  obtain⟨p,N⟩:=Pe G
  have e1:=Tv vC N
  have q:Zr (some [Ah k,vC p])=some [Ah k,vC p]:=ZC _ (by simp)
  rw[N]
  simp only[Sr,Zb,Zj,Zt,Zd,Ai,A8,AN,AL,AA,AT,e1,q,Option.getD]⟩
 have q1:=ZC ((Z2 BD (Zx i)).map Ah) (by rw[BY,(D1 _ _).length_eq];omega)
 have o:=lA (i.map (Z5 vC))
 have J:DG vC []=.own [] true:=rfl
 rw[J]at e
 unfold DG at e
 unfold Ck
 refine Z9 rfl ?_
 generalize (Z2 BD (Zx i)).map (λk=>D.tup [Ah k,vC ((Z4 i k).getD (0,[]))])=T at *
 generalize (Z2 BD (Zx i)).map Ah=W at *
 generalize i.map (Z5 vC)=KV at *
 generalize (C4 (BL f g d [])).map DQ=R at *
 generalize CG j 0 f g k=L at *
 show OA [.val (.lst L),.val (.lst R),.no,.no,.no,.no]=_
 have I:∀x y z,ZV 1 [2] [.val (.lst L),.val (.lst R),.own (Zz KV) true,x,y,z]=[.no,.lent (Zz KV) true]:=λ_ _ _=>rfl
 simp only[OA,Zf,ES,ZT,A6,Zy,Cf,ZM,I,Ao,CA,Bw,pk,Zo,Zb,Zj,ZF,AN,AL,AW,AU,AA,AT,e,o,M,DO,q1,Y]
theorem oS(c:List AP){a:List (List (List At))}{g k:List Nat}(h:Bq a g)(h':Bq a k):∀x,(∀(n:Nat)(b:List (List At)),a[n]?=some b->∀l∈b,∀m∈b,l.getD (g.getD n 0) .non=m.getD (g.getD n 0) .non->FN c (x+n) (k.getD n 0) l=FN c (x+n) (k.getD n 0) m)->GQ c x a g k:=by
 induction h generalizing k with
 |nil=>intro x _;cases h';exact .nil
 |@cons b a i g s t u p=>
  cases h' with
  |@cons _ _ j v w y q=>
  intro x z
  refine .cons (λl d m f e=>by simpa using z 0 b rfl l d m f (by simpa using e)) (p q (x+1) λn o r l d m f e=>?_)
  have:=z (n+1) o (by simpa using r) l d m f (by simpa using e)
  rw[show x+1+n=x+(n+1) by omega]
  simpa using this
theorem oU(b:List AP){d:List (List (List At))}{g:List Nat}(h:Bq d g):∀(x n:Nat)(f:List (List At)),d[n]?=some f->Ar b (x+n) f=[]->∀s,Bj d s->(Cm b x d s).all id=false/\(EF b x d g (BU d s g)).all id=false:=by
 induction h with
 |nil=>intro x n f e;simp at e
 |@cons f d i g o y z p=>
  intro x n j e k s q
  cases q with
  |@cons _ _ a r t u=>
  cases n with
  |zero=>
   simp at e;subst e
   obtain⟨l,m,rfl⟩:=List.mem_map.mp t
   have v:ZP b x l=false:=by
    cases c:ZP b x l with
    |false=>rfl
    |true=>
     have:l∈Ar b (x+0) f:=List.mem_filter.mpr ⟨m,c⟩
     rw[k]at this
     exact nomatch this
   simp only[Cm,EF,BU,D7,id]
   rw[KA o.nd m,v]
   have w:Ar b x f=[]:=k
   rw[w]
   exact⟨rfl,rfl⟩
  |succ n=>
   have:=p (x+1) n j (by simpa using e) (by rw[show x+1+n=x+(n+1) by omega];exact k) r u
   simp only[Cm,EF,BU,D7,id]
   rw[this.1,this.2]
   simp
theorem oV(b:List AP){a:List (List (List At))}{g k:List Nat}(h:Bq a g)(h':Bq a k)(z:E1 (B2 a) b=true\/∀t,¬ GN (B2 a) g k b t):Tells b a g k:=by
 rcases z with z|z
 ·unfold E1 at z
  rw[List.any_eq_true]at z
  obtain⟨x,d,e⟩:=z
  rw[Mk]at d
  have d:=List.mem_range.mp d
  have i:((B2 a).getD x (0,[])).2=a[x]:=by simp[B2,Cq,d]
  rw[i]at e
  refine .inr λs j=>?_
  have:=oU b h 0 x a[x] (CH d) (by rw[Gd];exact List.isEmpty_iff.mp e) s j
  exact⟨this.1,this.2⟩
 ·refine .inl (oS b h h' 0 λn f o l p m q e=>?_)
  rw[Gd]
  refine Classical.byContradiction λc=>z (n,Av l,Av m) ⟨Db f,f,l,m,?_,p,q,?_,rfl,rfl⟩
  ·rw[Jf,o];rfl
  ·unfold FO
   rw[Dj,decide_eq_true_eq]
   refine⟨e,?_⟩
   rw[Bool.not_eq_true',decide_eq_false_iff_not]
   exact c
theorem bd(d:D)(b:Bool)(h:isN d=b):Gr (some d)=some b:=by rw[<- h];rfl
theorem oW(c:List AP){b:List (List (List At))}{g k:List Nat}(h:Bq b g)(h':Bq b k)(f:∀i∈b,BG i)(j:0<b.length)(hz:b.length<=4)(l:∀q∈c,Fd (B2 b) q)(z:E1 (B2 b) c=true\/∀t,¬ GN (B2 b) g k c t)(e:GJ [.val (LD (B2 b)),.val (GD g),.val (GD k),.val (.lst (c.map AJ))]=some (.val .non))(a:List (List At×Int))(m:∀r∈a,Bj b r.1)(n:a.length<64):
  OJ [.val (.lst (b.map Ax)),.val (.lst (Ck (BL b g a []))),.val (AO g),.val (AO k),.val (.lst (c.map AJ))]=some (.own (Ck (BL b k (Dp c b a) []))):=by
 have o:=oR c h h' (oV c h h' z) j hz a m n
 have p:=aW h h' f hz c λq d=>(l q d).1
 rw[TJ,Ph,Ph]at e
 have s:=bd .non true rfl
 generalize Ck (BL b g a [])=T at *
 generalize Ck (BL b k (Dp c b a) [])=u at *
 generalize CG c 0 b g k=W at *
 generalize b.map Ax=L at *
 generalize c.map AJ=Q at *
 refine Z9 rfl ?_
 show OI [.val (.lst L),.val (.lst T),.val (AO g),.val (AO k),.val (.lst Q)]=_
 simp only[OI,Zf,ZI,CM,Cf,Ao,Gs,Zo,Zb,Zj,AN,AL,AA,AT,e,Cr,s,p,DO,o,MR,GK]
theorem oX(s0 a b c d:Sl):SK [s0,a,b,c,d,.exc "NoGrain"]=.ret (.val (.bl true)):=by
 have e:CS.contains "NoGrain"=true:=by decide +kernel
 have f:EX "NoGrain" "NoGrain"=true:=by decide +kernel
 have g:EX "ValueError" "NoGrain"=true:=by decide +kernel
 have h:EX "NoPick" "NoGrain"=false:=by decide +kernel
 simp only[SK,Zf,ZH,EQ,Dv,CM,AS,Ki,AN,AL,AA,AT,e,if_true,f,g,h,Ku]
theorem oY(L T:List D)(g k:List Nat)(Q:List D)(t:Nat×At×At)(a:GJ [.val (.lst L),.val (AO g),.val (AO k),.val (.lst Q)]=some (.val (Ic t))):SN [.val (.lst L),.val (.lst T),.val (AO g),.val (AO k),.val (.lst Q)]=some (.val (.bl true)):=by
 have b:=bd (Ic t) false rfl
 have c:SE [.val (.lst L),.val (.lst T),.val (AO g),.val (AO k),.val (.lst Q)]=some ("NoGrain":Ae):=by
  show OL [.val (.lst L),.val (.lst T),.val (AO g),.val (AO k),.val (.lst Q)]=_
  simp only[OL,QX,CM,QZ,Zo,Zb,Zj,Ao,AN,AL,AA,AT,a,Cr,b,Ku]
 have d:CS.contains "NoGrain"=true:=by decide +kernel
 refine Z9 rfl ?_
 show OO [.val (.lst L),.val (.lst T),.val (AO g),.val (AO k),.val (.lst Q),.no]=_
 simp only[OO,Nr,WQ,c,d,if_pos,oX,Zf,Zb,Ao,AN,AL,AW,AU,AA]
def Ig(a:List (List (List At))):List Nat:=a.map Db
theorem TN:∀{a:List (List (List At))},(∀b∈a,BG b)->Bq a (Ig a)
 |[],_=>.nil
 |b::a,h=>by
  have c:=h b BA
  refine .cons c (λl d=>?_) (TN λm e=>h m (Bt _ e))
  rw[c.la.len l d];exact BB _
theorem oZ{a:List (List At)}(b:BG a):Rg [.val (Ax a)]=some (.val (.int (Db a:Int))):=by
 obtain⟨l0,c,d⟩:=ai b.la
 unfold Ax
 generalize a.map Ah=L at *
 generalize Ah l0=l at *
 refine Z9 rfl ?_
 show NB [.val (.lst L)]=_
 simp only[NB,Zf,ZH,ZA,Bw,pk,Zd,Zb,Zj,Ai,AL,AA,AT,c,d]
theorem o0{c:List (List (List At))}(f:∀a∈c,BG a)(hz:c.length<=4):Rt [.val (.lst (c.map Ax))]=some (.val (AO (Ig c))):=by
 have g:=Ec (b:=Zk 0) (e:=Rs) (ρ:=[.no]) Ax (λa=>D.int (Db a:Int)) c λa h=>⟨[.val (Ax a)],rfl,by
  have:=oZ (f a h)
  generalize Ax a=LD at *
  simp only[Rs,Zo,Zb,Ao,AL,AA,AT,this,Cr]⟩
 have q1:=ZC (c.map Ax) (by simp;omega)
 have e:D.tup (c.map λa=>D.int (Db a:Int))=AO (Ig c):=by unfold AO Ig;rw[Dg];rfl
 generalize (c.map λa=>D.int (Db a:Int))=M at *
 generalize c.map Ax=L at *
 refine Z9 rfl ?_
 show NT [.val (.lst L)]=_
 have d:ZV 1 [] [.val (.lst L)]=[.no]:=rfl
 simp only[NT,Zf,ZH,ZA,De,Bw,pk,Zb,Zj,ZF,ZM,d,A6,Zy,AL,AA,AT,q1,g,e]
def FR(a:List AP)(b:List (List (List At)))(g:List Nat)(c:List Ba):Nat:=(c.filter λt=>CJ a b g t.1).length
theorem o7(c:List AP){a:List (List (List At))}{g:List Nat}(h:Bq a g)(i:∀n∈a,BG n)(hz:a.length<=4)(o:∀q∈c,q.vs.length<=50)(d:List Ba)(j:∀t∈d,t.1.length=a.length)(u:d.length<1000):SJ [.val (.lst (a.map Ax)),.val (.lst (d.map DQ)),.val (AO g),.val (.lst (c.map AJ))]=some (.val (.int (FR c a g d:Int))):=by
 have p:=aW h (TN i) i hz c o
 have k:=o0 i hz
 have r:=O5 (b:=ZZ 2 (Zv (Zk 0) (Zv (Zk 1) Z1))) (t:=SF) (e:=SH) (ρ:=[.no,.no,.val (.lst (CG c 0 a g (Ig a)))]) DQ DQ (λt=>CJ c a g t.1) d λt s=>⟨[.val (Ah t.1),.val (BS t.2.1 t.2.2),.val (.lst (CG c 0 a g (Ig a)))],rfl,by
   have:=TL c h (TN i) hz t.1 (j t s)
   generalize CG c 0 a g (Ig a)=W at *
   simp only[SF,B5,Zo,Zb,Ao,AN,AL,AA,AT,this,Cr],by
   have q:Zr (some [Ah t.1,BS t.2.1 t.2.2])=some [Ah t.1,BS t.2.1 t.2.2]:=ZC _ (by simp)
   simp only[SH,Zb,Zj,Zt,A8,AN,AL,AA,AT,q]⟩
 have q1:=ZC (d.map DQ) (by simp;omega)
 have f:B9 [.lst ((d.filter λt=>CJ c a g t.1).map DQ)]=some (.int (FR c a g d:Int)):=by simp[FR]
 generalize (d.filter λt=>CJ c a g t.1).map DQ=R at *
 generalize CG c 0 a g (Ig a)=W at *
 generalize d.map DQ=T at *
 generalize a.map Ax=L at *
 generalize c.map AJ=Q at *
 have l:SI [.val (.lst L),.val (.lst T),.val (AO g),.val (.lst Q)]=some (.own R):=by
  refine Z9 rfl ?_
  show OM [.val (.lst L),.val (.lst T),.val (AO g),.val (.lst Q),.no]=_
  have m:ZV 2 [4] [.val (.lst L),.val (.lst T),.val (AO g),.val (.lst Q),.val (.lst W)]=[.no,.no,.val (.lst W)]:=rfl
  simp only[OM,Zf,Zw,Cf,Zo,Zb,Zj,Ao,ZM,m,A6,Zy,AN,AL,AW,AU,AA,AT,k,Cr,p,DO,q1,r]
 refine Z9 rfl ?_
 show ON [.val (.lst L),.val (.lst T),.val (AO g),.val (.lst Q)]=_
 simp only[ON,Zf,ZH,ZA,Bw,pk,Zo,Zb,Zj,Ao,AN,AL,AA,AT,l,DO,f]
theorem TQ(a b:Int):C9 (.int a) (.int b)=some (.bl (decide (a=b))):=by simp
theorem KC(l:List At)(b:l.length<=1000)(j:Nat)(a:j<=l.length):ZJ (Ah l) (.tup [.non])=some (Ah (l++[.non]))/\Au (Ah (l++[.non])) (.int (j:Int))=some (aD (l.getD j .non)):=by
 refine⟨?_,?_⟩
 ·unfold Ah
  rw[Rb _ _ (by simp;omega)]
  simp[aD]
 ·show atI ((l++[At.non]).map aD) (j:Int)=_
  refine DJ ?_
  rw[Dy]
  by_cases a:j<l.length
  ·rw[Jq a,CH a]
   simp[Cq,a]
  ·have:j=l.length:=by omega
   subst this
   simp[Cq]
theorem be{g:List Nat}{i:Nat}(h:i<g.length):Au (AO g) (.int (i:Int))=some (.int ((g.getD i 0:Nat):Int)):=Pd (by rw[CH h];simp[Cq,h])
theorem o8(s0 b c d e f g h i:Sl)(q:AP):ZZ 3 (Zv (Zk 6) (Zv (Zk 7) (Zv (Zk 8) Z1))) (AJ q) [s0,b,c,d,e,f,g,h,i]=some [s0,b,c,d,e,f,.val (.int (q.a:Int)),.val (.int (q.lv:Int)),.val (Di q)]:=rfl
theorem Pl(s0 i j:Sl)(x:Nat)(l:List At)(k:l.length<=1000):∀(g:List AP)(b:Bool)(t u v:Sl),(∀q∈g,q.a=x->q.lv<=l.length)->∃c d f,ZO (ZZ 3 (Zv (Zk 6) (Zv (Zk 7) (Zv (Zk 8) Z1)))) HW (g.map AJ) [s0,i,.val (.int (x:Int)),j,.val (Ah l),.val (.bl b),t,u,v]=.next [s0,i,.val (.int (x:Int)),j,.val (Ah l),.val (.bl (b&&ZP g x l)),c,d,f]
 |[],b,t,u,v,_=>⟨t,u,v,by simp[ZO,ZP]⟩
 |q::g,b,t,u,v,w=>by
  have n:=TQ (q.a:Int) (x:Int)
  simp only[AY,ZO,o8]
  by_cases h:q.a=x
  ·rw[decide_eq_true (by omega)]at n
   have y:=KC l k q.lv (w q BA h)
   have o:Zr (some [D.non])=some [D.non]:=ZC _ (by simp)
   have m:=nH (l.getD q.lv .non) q
   by_cases z:l.getD q.lv .non∈q.vs
   ·rw[decide_eq_true z]at m
    obtain⟨c,d,f,e⟩:=Pl s0 i j x l k g b (.val (.int (q.a:Int))) (.val (.int (q.lv:Int))) (.val (Di q)) (λp r=>w p (Bt _ r))
    refine⟨c,d,f,?_⟩
    have s:HW [s0,i,.val (.int (x:Int)),j,.val (Ah l),.val (.bl b),.val (.int (q.a:Int)),.val (.int (q.lv:Int)),.val (Di q)]=.next [s0,i,.val (.int (x:Int)),j,.val (Ah l),.val (.bl b),.val (.int (q.a:Int)),.val (.int (q.lv:Int)),.val (Di q)]:=by
     generalize Di q=V at *
     generalize aD (l.getD q.lv .non)=T at *
     simp only[HW,n,o,y.1,y.2,m,Dv,GK,Zf,ZI,AS,Zd,CB,Ai,A8,Ao,Zo,Zb,Zj,Zt,ZF,ZA,CA,Bw,pk,Cw,Zw,ZH,AN,AL,AW,AU,AA,AT]
    rw[s]
    refine e.trans ?_
    have:ZP (q::g) x l=ZP g x l:=by
     unfold ZP
     rw[D7,if_pos h,decide_eq_true z,HZ]
    rw[this]
   ·rw[decide_eq_false z]at m
    obtain⟨c,d,f,e⟩:=Pl s0 i j x l k g false (.val (.int (q.a:Int))) (.val (.int (q.lv:Int))) (.val (Di q)) (λp r=>w p (Bt _ r))
    refine⟨c,d,f,?_⟩
    have s:HW [s0,i,.val (.int (x:Int)),j,.val (Ah l),.val (.bl b),.val (.int (q.a:Int)),.val (.int (q.lv:Int)),.val (Di q)]=.next [s0,i,.val (.int (x:Int)),j,.val (Ah l),.val (.bl false),.val (.int (q.a:Int)),.val (.int (q.lv:Int)),.val (Di q)]:=by
     generalize Di q=V at *
     generalize aD (l.getD q.lv .non)=T at *
     simp only[HW,n,o,y.1,y.2,m,Dv,Ku,Zf,ZI,AS,Zd,CB,Ai,A8,Ao,Zo,Zb,Zj,Zt,ZF,ZA,CA,Bw,pk,Cw,Zw,ZH,AN,AL,AW,AU,AA,AT]
    rw[s]
    refine e.trans ?_
    have:ZP (q::g) x l=false:=by
     unfold ZP
     rw[D7,if_pos h,decide_eq_false z,Bool.false_and]
    rw[this]
    simp
  ·rw[decide_eq_false (by omega)]at n
   obtain⟨c,d,f,e⟩:=Pl s0 i j x l k g b (.val (.int (q.a:Int))) (.val (.int (q.lv:Int))) (.val (Di q)) (λp r=>w p (Bt _ r))
   refine⟨c,d,f,?_⟩
   have s:HW [s0,i,.val (.int (x:Int)),j,.val (Ah l),.val (.bl b),.val (.int (q.a:Int)),.val (.int (q.lv:Int)),.val (Di q)]=.next [s0,i,.val (.int (x:Int)),j,.val (Ah l),.val (.bl b),.val (.int (q.a:Int)),.val (.int (q.lv:Int)),.val (Di q)]:=by
    generalize Di q=V at *
    simp only[HW,n,Dv,Zf,ZI,AS,Zd,CB,Ai,A8,Ao,Zo,Zb,Zj,Zt,ZF,ZA,CA,Bw,pk,Cw,Zw,ZH,AN,AL,AW,AU,AA,AT]
   rw[s]
   refine e.trans ?_
   have:ZP (q::g) x l=ZP g x l:=by
    unfold ZP
    rw[D7,if_neg h,HZ]
   rw[this]
theorem TR(s0:Sl)(x w:Nat)(b:List AP)(v:∀q∈b,q.a=x->q.lv<=w)(o:w<=4):∀(la:List (List At))(acc:List At)(r n j k m:Sl),(∀l∈la,l.length=w/\l≠[])->acc.length+la.length<=1000->∃d f g h i,ZO (Zk 4) Kl (la.map Ah) [s0,.val (.lst (b.map AJ)),.val (.int (x:Int)),.own (acc.map aD),r,n,j,k,m]=.next [s0,.val (.lst (b.map AJ)),.val (.int (x:Int)),.own ((acc++(la.filter (ZP b x)).map Av).map aD),d,f,g,h,i]
 |[],acc,r,n,j,k,m,_,_=>⟨r,n,j,k,m,by simp[ZO]⟩
 |l::la,acc,r,n,j,k,m,z,I=>by
  simp only[B8]at I
  obtain⟨B,C⟩:=z l BA
  obtain⟨s,t,u,p⟩:=Pl s0 (.val (.lst (b.map AJ))) (.own (acc.map aD)) x l (by omega) b true j k m (λq J L=>by rw[B];exact v q J L)
  rw[HZ]at p
  have M:=GL l C
  have E:(acc.map aD).length<AG:=Ca (show(acc.map aD).length<1000 by simp;omega) (by decide)
  simp only[AY,ZO,Zk,AW,AU]
  cases c:ZP b x l with
  |true=>
   rw[c]at p
   obtain⟨d,f,g,h,i,e⟩:=TR s0 x w b v o la (acc++[Av l]) (.val (Ah l)) (.val (.bl true)) s t u (λy G=>z y (Bt _ G)) (by simp;omega)
   refine⟨d,f,g,h,i,?_⟩
   have H:Kl [s0,.val (.lst (b.map AJ)),.val (.int (x:Int)),.own (acc.map aD),.val (Ah l),n,j,k,m]=.next [s0,.val (.lst (b.map AJ)),.val (.int (x:Int)),.own ((acc++[Av l]).map aD),.val (Ah l),.val (.bl true),s,t,u]:=by
    rw[D9,AY,Dd]
    generalize b.map AJ=Q at *
    generalize acc.map aD=A at *
    generalize aD (Av l)=T at *
    simp only[Kl,ZT,A6,Zy,p,B5,M,CI,BX,E,if_true,Zf,ZI,AS,Zd,CB,Ai,A8,Ao,Zo,Zb,Zj,Zt,ZF,ZA,CA,Bw,pk,Cw,Zw,ZH,AN,AL,AW,AU,AA,AT]
   rw[H]
   refine e.trans ?_
   rw[Pj c,AY,Hj]
   rfl
  |false=>
   rw[c]at p
   obtain⟨d,f,g,h,i,e⟩:=TR s0 x w b v o la acc (.val (Ah l)) (.val (.bl false)) s t u (λy G=>z y (Bt _ G)) (by omega)
   refine⟨d,f,g,h,i,?_⟩
   have H:Kl [s0,.val (.lst (b.map AJ)),.val (.int (x:Int)),.own (acc.map aD),.val (Ah l),n,j,k,m]=.next [s0,.val (.lst (b.map AJ)),.val (.int (x:Int)),.own (acc.map aD),.val (Ah l),.val (.bl false),s,t,u]:=by
    generalize b.map AJ=Q at *
    generalize acc.map aD=A at *
    simp only[Kl,ZT,A6,Zy,p,B5,Zf,ZI,AS,Zd,CB,Ai,A8,Ao,Zo,Zb,Zj,Zt,ZF,ZA,CA,Bw,pk,Cw,Zw,ZH,AN,AL,AW,AU,AA,AT]
   rw[H]
   refine e.trans ?_
   rw[Pk (by rw[c];decide)]
theorem o9{i:List (Nat×List (List At))}(h:O6 i)(j:List AP)(s:∀q∈j,Fd i q)(x w:Nat)(la:List (List At))(n:i[x]?=some (w,la)):Km [.val (LD i),.val (.lst (j.map AJ)),.val (.int (x:Int))]=some (.own (((la.filter (ZP j x)).map Av).map aD)):=by
 have k:=Gp n
 have g:=h.la _ k
 have t:=h.l8 _ k
 have u:=ag n
 obtain⟨a,b,c,d,f,e⟩:=TR (.val (LD i)) x w j (λq k v=>by
  obtain⟨_,p,r,m⟩:=s q k
  rw[v,n]at r
  cases r
  exact m) g.w4 la [] .no .no .no .no .no (λl m=>⟨g.len l m,λz=>by have:=g.len l m;have:=g.w0;rw[z]at *;simp at *;omega⟩) (by simp;dsimp only at t;omega)
 rw[Dd,Jd]at e
 have o:Zr (some ([]:List D))=some []:=rfl
 generalize ((la.filter (ZP j x)).map Av).map aD=S at *
 generalize la.map Ah=y at *
 generalize LD i=L at *
 generalize j.map AJ=Q at *
 refine Z9 rfl ?_
 show NQ [.val L,.val (.lst Q),.val (.int (x:Int)),.no,.no,.no,.no,.no,.no]=_
 simp only[NQ,CN,o,u,ZT,Zy,e,BX,Cf,Zf,ZI,AS,Zd,CB,Ai,A8,Ao,Zo,Zb,Zj,Zt,ZF,ZA,CA,Bw,pk,Cw,Zw,ZH,AN,AL,AW,AU,AA,AT]
theorem TU{a:List (List (List At))}(d:∀b∈a,BG b)(e:0<a.length)(hz:a.length<=4)(c:List AP)(f:∀q∈c,Fd (B2 a) q)(x:Nat)(b:List (List At))(g:a[x]?=some b):Km [.val (.lst (a.map Ax)),.val (.lst (c.map AJ)),.val (.int (x:Int))]=some (.own (((Ar c x b).map Av).map aD)):=by
 have:=o9 (aV d e hz) c f x (Db b) b (by rw[Jf,g];rfl)
 rw[TJ]at this
 exact this
theorem pa(L:List D)(g k:List Nat)(I:Sl)(d:List AP)(x:Nat)(e:List (List At))(j:BG e)(O:x<g.length)(Q:x<k.length)(m:∀l∈e,g.getD x 0<=l.length)(n:∀l∈e,k.getD x 0<=l.length)(B:D)(h:Au B (.int (x:Int))=some (.lst (((Ar d x e).map Av).map aD)))(one:List At)(o:one∈e)(c:List At)(r:c∈e)(J N s:Sl):
  (FO d x (g.getD x 0) (k.getD x 0) one c=true/\GI [.val (.lst L),.val (AO g),.val (AO k),I,.val B,.val (.int (x:Int)),J,.val (Ah one),.val (Ah c),N,s]=.ret (.val (.bl true))) \/
  (FO d x (g.getD x 0) (k.getD x 0) one c=false/\∃M t,GI [.val (.lst L),.val (AO g),.val (AO k),I,.val B,.val (.int (x:Int)),J,.val (Ah one),.val (Ah c),N,s]=.next [.val (.lst L),.val (AO g),.val (AO k),I,.val B,.val (.int (x:Int)),J,.val (Ah one),.val (Ah c),M,t]):=by
 have T:=j.four one o
 have U:=j.four c r
 have f:Zr (some [D.non])=some [D.non]:=ZC _ (by simp)
 have a1:=KC one (by omega) (g.getD x 0) (m one o)
 have a2:=KC c (by omega) (g.getD x 0) (m c r)
 have b1:=KC one (by omega) (k.getD x 0) (n one o)
 have b2:=KC c (by omega) (k.getD x 0) (n c r)
 have w:=Ti (one.getD (g.getD x 0) .non) (c.getD (g.getD x 0) .non)
 have C:=Ti (one.getD (k.getD x 0) .non) (c.getD (k.getD x 0) .non)
 have y:=be (g:=g) O
 have E:=be (g:=k) Q
 have G:=GL one (j.some one o)
 have H:=GL c (j.some c r)
 have z:=(Ib (Av one) ((Ar d x e).map Av)).1
 have i2:=(Ib (Av c) ((Ar d x e).map Av)).1
 have m1:decide (Av one∈(Ar d x e).map Av)=ZP d x one:=O7 j.la (ZP d x) o
 have m2:decide (Av c∈(Ar d x e).map Av)=ZP d x c:=O7 j.la (ZP d x) r
 rw[m1]at z
 rw[m2]at i2
 have n1:∀a b:Bool,Ew (.bl a) (.bl b)=some (.bl (a != b)):=λa b=>by cases a<;>cases b<;>rfl
 rw[nJ]
 generalize ZP d x one=p at *
 generalize ZP d x c=q at *
 generalize ((Ar d x e).map Av).map aD=S at *
 generalize decide (one.getD (g.getD x 0) .non=c.getD (g.getD x 0) .non)=u at *
 generalize decide (one.getD (k.getD x 0) .non=c.getD (k.getD x 0) .non)=v at *
 generalize aD (one.getD (g.getD x 0) .non)=Y at *
 generalize aD (c.getD (g.getD x 0) .non)=v2 at *
 generalize aD (one.getD (k.getD x 0) .non)=v3 at *
 generalize aD (c.getD (k.getD x 0) .non)=v4 at *
 generalize ((g.getD x 0:Nat):Int)=gx at *
 generalize ((k.getD x 0:Nat):Int)=kx at *
 generalize Ah (one++[.non])=w1 at *
 generalize Ah (c++[.non])=w2 at *
 generalize aD (Av one)=t1 at *
 generalize aD (Av c)=t2 at *
 generalize Ah one=o1 at *
 generalize Ah c=o2 at *
 cases u with
 |false=>
  refine .inr ⟨rfl,.val (.bl false),.val (.bl v),?_⟩
  simp only[GI,Zf,Zw,ZI,Dv,B5,Zd,Zb,Zj,Zt,Ai,AN,AL,AW,AU,AA,AT,f,a1.1,a2.1,y,a1.2,a2.2,w,E,b1.2,b2.2,C]
 |true=>
  cases A:(p != q)with
  |true=>
   have i:=n1 p q
   rw[A]at i
   refine .inl ⟨rfl,?_⟩
   simp only[GI,Zf,Zw,ZI,Dv,B5,AS,Zd,Zb,Zj,Zt,Ai,ZH,AN,AL,AW,AU,AA,AT,f,a1.1,a2.1,y,a1.2,a2.2,w,G,H,h,z,i2,i]
  |false=>
   have i:=n1 p q
   rw[A]at i
   cases p with
   |false=>
    refine .inr ⟨rfl,.val (.bl true),.val (.bl v),?_⟩
    simp only[GI,Zf,Zw,ZI,Dv,B5,AS,Zd,Zb,Zj,Zt,Ai,AN,AL,AW,AU,AA,AT,f,a1.1,a2.1,y,a1.2,a2.2,w,G,H,h,z,i2,i,E,b1.2,b2.2,C]
   |true=>
    cases v with
    |false=>
     refine .inl ⟨rfl,?_⟩
     simp only[GI,Zf,Zw,ZI,Dv,CM,B5,AS,Zd,Zb,Zj,Zt,Ai,ZH,AN,AL,AW,AU,AA,AT,f,a1.1,a2.1,y,a1.2,a2.2,w,G,H,h,z,i2,i,E,b1.2,b2.2,C,Ku]
    |true=>
     refine .inr ⟨rfl,.val (.bl true),.val (.bl true),?_⟩
     simp only[GI,Zf,Zw,ZI,Dv,CM,B5,AS,Zd,Zb,Zj,Zt,Ai,AN,AL,AW,AU,AA,AT,f,a1.1,a2.1,y,a1.2,a2.2,w,G,H,h,z,i2,i,E,b1.2,b2.2,C,GK]
theorem bf(L:List D)(g k:List Nat)(s:Sl)(t:List AP)(x:Nat)(i:List (List At))(G:BG i)(H:x<g.length)(I:x<k.length)(u:∀l∈i,g.getD x 0<=l.length)(v:∀l∈i,k.getD x 0<=l.length)(q:D)(w:Au q (.int (x:Int))=some (.lst (((Ar t x i).map Av).map aD)))(one:List At)(J:one∈i)(z:Sl):∀(j:List (List At))(A r d:Sl),(∀m∈j,m∈i) ->
  ((∃m∈j,FO t x (g.getD x 0) (k.getD x 0) one m=true)/\ZO (Zk 8) GI (j.map Ah) [.val (.lst L),.val (AO g),.val (AO k),s,.val q,.val (.int (x:Int)),z,.val (Ah one),A,r,d]=.ret (.val (.bl true))) \/
  ((∀m∈j,FO t x (g.getD x 0) (k.getD x 0) one m=false)/\∃B n f,ZO (Zk 8) GI (j.map Ah) [.val (.lst L),.val (AO g),.val (AO k),s,.val q,.val (.int (x:Int)),z,.val (Ah one),A,r,d]=.next [.val (.lst L),.val (AO g),.val (AO k),s,.val q,.val (.int (x:Int)),z,.val (Ah one),B,n,f])
 |[],A,r,d,_=>.inr ⟨(λ_ h=>nomatch h),A,r,d,rfl⟩
 |m::j,A,r,d,M=>by
  simp only[AY,ZO,Zk,AW,AU]
  rcases pa L g k s t x i G H I u v q w one J m (M m BA) z r d with⟨C,e⟩|⟨C,n,f,e⟩
  ·refine .inl ⟨⟨m,BA,C⟩,?_⟩
   rw[e]
  ·rw[e]
   rcases bf L g k s t x i G H I u v q w one J z j (.val (Ah m)) n f (λy o=>M y (Bt _ o))with⟨⟨y,o,p⟩,E⟩|⟨p,a,b,c,E⟩
   ·exact .inl ⟨⟨y,Bt _ o,p⟩,E⟩
   ·refine .inr ⟨λy o=>?_,a,b,c,E⟩
    rcases Bv.mp o with rfl|o
    ·exact C
    ·exact p y o
theorem bg(L:List D)(g k:List Nat)(s:Sl)(w:List AP)(x:Nat)(f:List (List At))(I:BG f)(J:x<g.length)(M:x<k.length)(z:∀l∈f,g.getD x 0<=l.length)(A:∀l∈f,k.getD x 0<=l.length)(n:D)(B:Au n (.int (x:Int))=some (.lst (((Ar w x f).map Av).map aD))):∀(os:List (List At))(C t u i:Sl),(∀m∈os,m∈f) ->
  ((∃o∈os,∃m∈f,FO w x (g.getD x 0) (k.getD x 0) o m=true)/\ZO (Zk 7) IU (os.map Ah) [.val (.lst L),.val (AO g),.val (AO k),s,.val n,.val (.int (x:Int)),.val (Ax f),C,t,u,i]=.ret (.val (.bl true))) \/
  ((∀o∈os,∀m∈f,FO w x (g.getD x 0) (k.getD x 0) o m=false)/\∃E p q j,ZO (Zk 7) IU (os.map Ah) [.val (.lst L),.val (AO g),.val (AO k),s,.val n,.val (.int (x:Int)),.val (Ax f),C,t,u,i]=.next [.val (.lst L),.val (AO g),.val (AO k),s,.val n,.val (.int (x:Int)),.val (Ax f),E,p,q,j])
 |[],C,t,u,i,_=>.inr ⟨(λ_ h=>nomatch h),C,t,u,i,rfl⟩
 |o::os,C,t,u,i,N=>by
  simp only[AY,ZO,Zk,AW,AU]
  rcases bf L g k s w x f I J M z A n B o (N o BA) (.val (Ax f)) f t u i (λ_ h=>h)with⟨⟨y,r,G⟩,e⟩|⟨G,p,q,j,e⟩
  ·refine .inl ⟨⟨o,BA,y,r,G⟩,?_⟩
   have:IU [.val (.lst L),.val (AO g),.val (AO k),s,.val n,.val (.int (x:Int)),.val (Ax f),.val (Ah o),t,u,i]=.ret (.val (.bl true)):=by
    unfold Ax at *
    generalize f.map Ah=W at *
    simp only[IU,Zf,ZT,A6,Zy,AN,AL,AA,e]
   rw[this]
  ·have:IU [.val (.lst L),.val (AO g),.val (AO k),s,.val n,.val (.int (x:Int)),.val (Ax f),.val (Ah o),t,u,i]=.next [.val (.lst L),.val (AO g),.val (AO k),s,.val n,.val (.int (x:Int)),.val (Ax f),.val (Ah o),p,q,j]:=by
    unfold Ax at *
    generalize f.map Ah=W at *
    simp only[IU,Zf,ZT,A6,Zy,AN,AL,AA,e]
   rw[this]
   rcases bg L g k s w x f I J M z A n B os (.val (Ah o)) p q j (λy r=>N y (Bt _ r))with⟨⟨y,r,v⟩,H⟩|⟨v,a,b,c,d,H⟩
   ·exact .inl ⟨⟨y,Bt _ r,v⟩,H⟩
   ·refine .inr ⟨λy r=>?_,a,b,c,d,H⟩
    rcases Bv.mp r with rfl|r
    ·exact G
    ·exact v y r
theorem Bq.at{b:List (List (List At))}{g:List Nat}(h:Bq b g):∀(n:Nat)(a:List (List At)),b[n]?=some a->∀l∈a,g.getD n 0<=l.length:=by
 induction h with
 |nil=>intro n a e;simp at e
 |@cons a b i g j d k f=>
  intro n c e
  cases n with
  |zero=>simp at e;subst e;exact d
  |succ n=>simpa using f n c (by simpa using e)
theorem bh(L:List D)(j:List (List (List At)))(T:∀f∈j,BG f)(g k:List Nat)(h:Bq j g)(h':Bq j k)(q:Sl)(z:List AP)(l:D)(A:∀(x:Nat)(f:List (List At)),j[x]?=some f->Au l (.int (x:Int))=some (.lst (((Ar z x f).map Av).map aD))):∀(B:List (List (List At)))(x:Nat)(G H r s u i:Sl),(∀n,B[n]?=j[x+n]?) ->
  ((∃t,GN (B2 j) g k z t)/\ZO (ZZ 2 (Zv (Zk 5) (Zv (Zk 6) Z1))) IV (Cj x (B.map Ax)) [.val (.lst L),.val (AO g),.val (AO k),q,.val l,G,H,r,s,u,i]=.ret (.val (.bl true))) \/
  ((∀t,x<=t.1->¬ GN (B2 j) g k z t)/\∃ρ,ZO (ZZ 2 (Zv (Zk 5) (Zv (Zk 6) Z1))) IV (Cj x (B.map Ax)) [.val (.lst L),.val (AO g),.val (AO k),q,.val l,G,H,r,s,u,i]=.next ρ)
 |[],x,G,H,r,s,u,i,I=>by
   refine .inr ⟨λt Y C=>?_,_,rfl⟩
   obtain⟨w,la,_,_,e,_⟩:=C
   have:=I (t.1-x)
   rw[show x+(t.1-x)=t.1 by omega]at this
   rw[Jf,<- this]at e
   cases e
 |f::B,x,G,H,r,s,u,i,I=>by
  have v:j[x]?=some f:=by have:=I 0;simpa using this.symm
  have J:=T f (Gp v)
  have hxl:x<j.length:=(List.getElem?_eq_some_iff.mp v).1
  have l1:=h.len
  have l2:=h'.len
  simp only[AY,Cj,ZO,ZZ,Zv,Zk,Z1,B8,DT,if_true,AW,AU,AA]
  rcases bg L g k q z x f J (by omega) (by omega) (h.at x f v) (h'.at x f v) l (A x f v) f r s u i (λ_ h=>h)with⟨⟨o,M,m,N,C⟩,e⟩|⟨C,a,b,c,d,e⟩
  ·refine .inl ⟨⟨(x,Av o,Av m),Db f,f,o,m,by rw[Jf,v];rfl,M,N,C,rfl,rfl⟩,?_⟩
   have:IV [.val (.lst L),.val (AO g),.val (AO k),q,.val l,.val (.int (x:Int)),.val (Ax f),r,s,u,i]=.ret (.val (.bl true)):=by
    unfold Ax at *
    generalize f.map Ah=W at *
    simp only[IV,Zf,ZT,A6,Zy,AN,AL,AA,e]
   rw[this]
  ·have:IV [.val (.lst L),.val (AO g),.val (AO k),q,.val l,.val (.int (x:Int)),.val (Ax f),r,s,u,i]=.next [.val (.lst L),.val (AO g),.val (AO k),q,.val l,.val (.int (x:Int)),.val (Ax f),a,b,c,d]:=by
    unfold Ax at *
    generalize f.map Ah=W at *
    simp only[IV,Zf,ZT,A6,Zy,AN,AL,AA,e]
   rw[this]
   rcases bh L j T g k h h' q z l A B (x+1) (.val (.int (x:Int))) (.val (Ax f)) a b c d (λn=>by have:=I (n+1);rw[show x+1+n=x+(n+1) by omega];simpa using this)with⟨t,O⟩|⟨Q,ρ,O⟩
   ·exact .inl ⟨t,O⟩
   ·refine .inr ⟨λt Y p=>?_,ρ,O⟩
    by_cases E:t.1=x
    ·obtain⟨w,la,o,m,U,M,N,y,_,_⟩:=p
     rw[E,Jf,v]at U
     cases U
     rw[E]at y
     rw[C o M m N]at y
     cases y
    ·exact Q t (by omega) p
theorem bi(c:List AP)(a:List (List (List At)))(x:Nat)(d:List (List At))(e:a[x]?=some d):Au (.lst ((A7 a.length).map λx=>D.lst (((Ar c x (a.getD x [])).map Av).map aD))) (.int (x:Int))=some (.lst (((Ar c x d).map Av).map aD)):=by
 have b:x<a.length:=(List.getElem?_eq_some_iff.mp e).1
 show atI _ (x:Int)=_
 refine DJ ?_
 rw[Dy,Qj b]
 simp[Cq,e]
theorem pb{i:List (List (List At))}(H:∀J∈i,BG J)(M:0<i.length)(hz:i.length<=4){g k:List Nat}(h:Bq i g)(h':Bq i k)(j:List AP)(O:∀q∈j,Fd (B2 i) q):∃b,Oj [.val (.lst (i.map Ax)),.val (AO g),.val (AO k),.val (.lst (j.map AJ))]=some (.val (.bl b))/\(b=true->E1 (B2 i) j=false/\∃t,GN (B2 i) g k j t)/\(b=false->E1 (B2 i) j=true\/∀t,¬ GN (B2 i) g k j t):=by
 have B:=Ec (b:=Zk 0) (e:=RW) (ρ:=[.no,.val (.lst (i.map Ax)),.val (.lst (j.map AJ))]) (λ(k:Nat)=>D.int (k:Int)) (λx=>D.lst (((Ar j x (i.getD x [])).map Av).map aD)) (A7 i.length) λx A=>⟨[.val (.int (x:Int)),.val (.lst (i.map Ax)),.val (.lst (j.map AJ))],rfl,by
  have A:=List.mem_range.mp A
  have e:i.getD x []=i[x]:=by simp[Cq,A]
  have U:=TU H M hz j O x i[x] (CH A)
  rw[e]
  generalize ((Ar j x i[x]).map Av).map aD=S at *
  generalize i.map Ax=L at *
  generalize j.map AJ=Q at *
  simp only[RW,U,DO,Ao,Zo,Zb,AN,AL,AA,AT]⟩
 have C:=F5 i.length (by omega)
 have q1:=ZC ((A7 i.length).map λ(k:Nat)=>D.int (k:Int)) (by simp;omega)
 have E:B9 [.lst (i.map Ax)]=some (.int (i.length:Int)):=by simp
 have o:=aj ((A7 i.length).map λx=>(Ar j x (i.getD x [])).map Av)
 rw[Dg]at o
 have w:(((A7 i.length).map λx=>(Ar j x (i.getD x [])).map Av).any λm=>m.isEmpty)=E1 (B2 i) j:=by
  unfold E1
  rw[List.any_map,Mk]
  refine List.any_congr rfl λx=>?_
  show((Ar j x (i.getD x [])).map Av).isEmpty=_
  rw[List.isEmpty_map]
  congr 1
  unfold Ar
  congr 1
  simp[B2,Cq]
  cases i[x]?<;>rfl
 rw[w]at o
 have l:C2 false (.lst []) (.lst ((A7 i.length).map λx=>D.lst (((Ar j x (i.getD x [])).map Av).map aD)))=some (.bl (E1 (B2 i) j)):=o
 have y:=bh (i.map Ax) i H g k h h' (.val (.lst (j.map AJ))) j _ (bi j i) i 0 .no .no .no .no .no .no (λn=>by rw[Gd])
 have s:Zr (some ([]:List D))=some []:=rfl
 generalize ((A7 i.length).map λx=>D.lst (((Ar j x (i.getD x [])).map Av).map aD))=SM at *
 generalize ((A7 i.length).map λ(k:Nat)=>D.int (k:Int))=R at *
 generalize (i.length:Int)=N at *
 have u:∀r,L4 [.val (.lst (i.map Ax)),.val (AO g),.val (AO k),.val (.lst (j.map AJ)),.no,.no,.no,.no,.no,.no,.no]=.ret r->Oj [.val (.lst (i.map Ax)),.val (AO g),.val (AO k),.val (.lst (j.map AJ))]=some r:=λr e=>Z9 rfl e
 generalize i.map Ax=L at *
 generalize j.map AJ=Q at *
 have v:∀a b c d e f p q r,ZV 1 [0,3] [.val (.lst L),a,b,.val (.lst Q),c,d,e,f,p,q,r]=[.no,.val (.lst L),.val (.lst Q)]:=λ_ _ _ _ _ _ _ _ _=>rfl
 cases I:E1 (B2 i) j with
 |true=>
  rw[I]at l
  refine⟨false,u _ ?_,(λz=>by cases z),λ_=>.inl rfl⟩
  simp only[L4,Og,Oi,Oh,Zf,Zw,ZI,AS,ZH,ZA,Bw,pk,Zd,Zb,Zj,Zt,ZF,ZM,v,Ao,Ai,AN,AL,AW,AU,AA,AT,E,C,q1,B,s,l]
 |false=>
  rw[I]at l
  rcases y with⟨Y,e⟩|⟨G,T,e⟩
  ·refine⟨true,u _ ?_,(λ_=>⟨rfl,Y⟩),λz=>by cases z⟩
   simp only[L4,Og,Oi,Oh,RY,RX,Zf,Zw,ZI,AS,ZH,ZA,Bw,pk,Zd,Zb,Zj,Zt,ZF,ZM,v,ZT,Df,Dk,A6,Ao,Ai,AN,AL,AW,AU,AA,AT,E,C,q1,B,s,l,e]
  ·refine⟨false,u _ ?_,(λz=>by cases z),λ_=>.inr λt=>G t (Hv _)⟩
   simp only[L4,Og,Oi,Oh,RY,RX,Xr,Xq,Zf,Zw,ZI,AS,ZH,ZA,Bw,pk,Zd,Zb,Zj,Zt,ZF,ZM,v,ZT,Df,Dk,A6,Ao,Ai,AN,AL,AW,AU,AA,AT,E,C,q1,B,s,l,e]
theorem pc(b:List AP){a:List (List (List At))}{s:List At}(c:Bj a s):∀x,(Cm b x a s).length=a.length:=by
 induction c with
 |nil=>exact λ_=>rfl
 |cons _ _ d=>intro x;simp[Cm,d]
theorem pe(f:List AP){d:List (List (List At))}{s:List At}(h:Bj d s):∀(x n:Nat)(a:At),s[n]?=some a->∃c,d[n]?=some c/\a∈c.map Av/\(Cm f x d s)[n]?=some (ZP f (x+n) (Ml c a)):=by
 induction h with
 |nil=>intro x n a e;simp at e
 |@cons c d a o i p j=>
  intro x n b e
  cases n with
  |zero=>simp at e;subst e;exact⟨c,rfl,i,rfl⟩
  |succ n=>
   obtain⟨l,k,m,g⟩:=j (x+1) n b (by simpa using e)
   rw[show x+1+n=x+(n+1) by omega]at g
   exact⟨l,k,m,g⟩
theorem pf{d:List (List (List At))}(E:∀f∈d,BG f)(hz:d.length<=4)(c:List AP)(g:List D)(q:∀(x:Nat)(f:List (List At)),d[x]?=some f->Au (.lst g) (.int (x:Int))=some (.lst (((Ar c x f).map Av).map aD)))(s0 s t:Sl)(r:List At×Int)(o:Bj d r.1)(acc:List (List At×Int))(G:acc.length<1000):
  L5 [s0,s,t,.val (.lst g),.own (acc.map CF),.val (Ah r.1),.val (.int r.2)]=.next [s0,s,t,.val (.lst g),.own ((acc++[r].filter λr=>(Cm c 0 d r.1).all id).map CF),.val (Ah r.1),.val (.int r.2)]:=by
 have u:=Pb (e:=R0) [.val (.lst g)] aD r.1 0 ((Cm c 0 d r.1).map D.bl) (by rw[BY,pc c o,o.len]) λn a y H v=>by
  obtain⟨f,w,I,J⟩:=pe c o 0 n a H
  rw[Dy,J]at v
  cases v
  have i:=E f (Gp w)
  obtain⟨l,z,rfl⟩:=List.mem_map.mp I
  have C:=(Ib (Av l) ((Ar c n f).map Av)).1
  have m1:decide (Av l∈(Ar c n f).map Av)=ZP c n l:=O7 i.la (ZP c n) z
  rw[m1]at C
  rw[KA i.nd z,Gd]
  have L:=q n f w
  simp only[R0,Zd,Ai,AN,AL,AA,L,C]
 have j:HH [.lst ((Cm c 0 d r.1).map D.bl)]=some (.bl ((Cm c 0 d r.1).all id)):=by simp only[HH,NA,Hz]
 have q1:Zr (some (Cj 0 (r.1.map aD)))=some (Cj 0 (r.1.map aD)):=ZC _ (by rw[J6];simp;have:=o.len;omega)
 have q2:Zr (some [Ah r.1,D.int r.2])=some [Ah r.1,D.int r.2]:=ZC _ (by simp)
 have k:(acc.map CF).length<AG:=by rw[BY];exact Ca G (by decide)
 rw[D9]
 have M:([r].filter λr=>(Cm c 0 d r.1).all id).map CF=if(Cm c 0 d r.1).all id=true then [D.tup [Ah r.1,.int r.2]]else []:=by
  cases h:(Cm c 0 d r.1).all id with
  |true=>rw[Pj (p:=λr:List At×Int=>(Cm c 0 d r.1).all id) h];rfl
  |false=>rw[Pk (p:=λr:List At×Int=>(Cm c 0 d r.1).all id) (by show ¬ _=true;rw[h];decide)];rfl
 rw[M]
 generalize (Cm c 0 d r.1).map D.bl=B at *
 generalize (Cm c 0 d r.1).all id=b at *
 generalize acc.map CF=A at *
 unfold Ah at *
 generalize r.1.map aD=S at *
 have m:ZV 2 [3] [s0,s,t,.val (.lst g),.own A,.val (.tup S),.val (.int r.2)]=[.no,.no,.val (.lst g)]:=rfl
 cases b with
 |true=>simp only[L5,Zf,ZI,B5,CI,ZA,Bw,pk,Zb,Zj,Zt,ZF,ZM,Df,Dk,m,A6,A8,BX,AN,AL,AW,AU,AA,AT,q1,u,j,q2,k,if_true]
 |false=>simp only[L5,Zf,ZI,B5,ZA,Bw,pk,Zb,Zj,ZF,ZM,Df,Dk,m,A6,AN,AL,AA,AT,q1,u,j,DS,if_false,Es]
theorem bj{d:List (List (List At))}(p:∀h∈d,BG h)(hz:d.length<=4)(e:List AP)(f:List D)(g:∀(x:Nat)(h:List (List At)),d[x]?=some h->Au (.lst f) (.int (x:Int))=some (.lst (((Ar e x h).map Av).map aD)))(s0 i j:Sl):∀(c acc:List (List At×Int))(k l:Sl),(∀r∈c,Bj d r.1)->acc.length+c.length<1000 ->
  ∃m n,ZO (ZZ 2 (Zv (Zk 5) (Zv (Zk 6) Z1))) L5 (c.map CF) [s0,i,j,.val (.lst f),.own (acc.map CF),k,l]=.next [s0,i,j,.val (.lst f),.own ((acc++Dp e d c).map CF),m,n]
 |[],acc,k,l,_,_=>⟨k,l,by simp[ZO,Dp]⟩
 |r::c,acc,k,l,s,o=>by
  simp only[B8]at o
  have t:=pf p hz e f g s0 i j r (s r BA) acc (by omega)
  have u:([r].filter λr=>(Cm e 0 d r.1).all id).length<=1:=Kv _ [r]
  obtain⟨a,b,v⟩:=bj p hz e f g s0 i j c (acc++[r].filter λr=>(Cm e 0 d r.1).all id) (.val (Ah r.1)) (.val (.int r.2)) (λq w=>s q (Bt _ w)) (by rw[Fj];omega)
  refine⟨a,b,?_⟩
  simp only[AY,CF,ZO,ZZ,Zv,Zk,Z1,B8,DT,if_true,AW,AU,AA]
  rw[t]
  refine v.trans ?_
  have:Dp e d (r::c)=([r].filter λr=>(Cm e 0 d r.1).all id)++Dp e d c:=by
   unfold Dp
   rw[<- List.filter_append];rfl
  rw[this,Hj]
theorem ph{a:List (List (List At))}(d:∀f∈a,BG f)(g:0<a.length)(hz:a.length<=4)(b:List AP)(h:∀q∈b,Fd (B2 a) q):C1 (Zk 0) (λ_=>some true) RZ [.no,.val (.lst (a.map Ax)),.val (.lst (b.map AJ))] ((A7 a.length).map λ(k:Nat)=>D.int (k:Int))=some ((A7 a.length).map λx=>D.lst (((Ar b x (a.getD x [])).map Av).map aD)):=
 Ec (λ(k:Nat)=>D.int (k:Int)) (λx=>D.lst (((Ar b x (a.getD x [])).map Av).map aD)) (A7 a.length) λx c=>⟨[.val (.int (x:Int)),.val (.lst (a.map Ax)),.val (.lst (b.map AJ))],rfl,by
  have c:=List.mem_range.mp c
  have e:a.getD x []=a[x]:=by simp[Cq,c]
  have i:=TU d g hz b h x a[x] (CH c)
  rw[e]
  generalize ((Ar b x a[x]).map Av).map aD=S at *
  generalize a.map Ax=L at *
  generalize b.map AJ=Q at *
  simp only[RZ,i,DO,Ao,Zo,Zb,AN,AL,AA,AT]⟩
theorem pi{g:List (List (List At))}(l:∀m∈g,BG m)(n:0<g.length)(hz:g.length<=4)(h:List AP)(o:∀q∈h,Fd (B2 g) q)(f:List (List At×Int))(p:∀r∈f,Bj g r.1)(w:f.length<64):R6 [.val (.lst (g.map Ax)),.val (.lst (f.map CF)),.val (.lst (h.map AJ))]=some (.own ((Dp h g f).map CF)):=by
 have s:=ph l n hz h o
 obtain⟨a,b,e⟩:=bj l hz h _ (bi h g) (.val (.lst (g.map Ax))) (.val (.lst (f.map CF))) (.val (.lst (h.map AJ))) f [] .no .no p (by simp;omega)
 rw[Dd,Jd]at e
 have t:=F5 g.length (by omega)
 have q1:=ZC ((A7 g.length).map λ(k:Nat)=>D.int (k:Int)) (by simp;omega)
 have u:B9 [.lst (g.map Ax)]=some (.int (g.length:Int)):=by simp
 have i:Zr (some ([]:List D))=some []:=rfl
 generalize ((A7 g.length).map λx=>D.lst (((Ar h x (g.getD x [])).map Av).map aD))=y at *
 generalize ((A7 g.length).map λ(k:Nat)=>D.int (k:Int))=R at *
 generalize (g.length:Int)=N at *
 generalize (Dp h g f).map CF=z at *
 generalize f.map CF=v at *
 generalize g.map Ax=L at *
 generalize h.map AJ=Q at *
 refine Z9 rfl ?_
 show R5 [.val (.lst L),.val (.lst v),.val (.lst Q),.no,.no,.no,.no]=_
 have j:∀a b c d e,ZV 1 [0,2] [.val (.lst L),a,.val (.lst Q),b,c,d,e]=[.no,.val (.lst L),.val (.lst Q)]:=λ_ _ _ _ _=>rfl
 simp only[R5,Xt,Xz,Xu,Xy,Xv,Xx,Xw,Zf,Zw,CN,Cf,ZA,Bw,pk,Zb,Zj,Zt,ZF,ZM,j,ZT,Zy,A6,Ao,BX,AN,AL,AW,AU,AA,AT,u,t,q1,s,i,e]
theorem bn{k:List (List (List At))}(N:∀f∈k,BG f)(h0:0<k.length)(hz:k.length<=4){g:List Nat}(h:Bq k g)(j:List AP)(hq:∀q∈j,Fd (B2 k) q)(z A B:Sl)(p:List At):∀(s:List (List (List At)))(x:Nat)(gs t:List Nat×List At)(b:Bool)(I J m o:Sl),(∀n,s[n]?=k[x+n]?)->(∀n,gs.1[n]?=g[x+n]?)->gs.1.length=s.length->(∀n,t.2[n]?=p[x+n]?)->t.2.length=s.length ->
  ∃O T C E,ZO (ZZ 2 (Zv (Zk 8) (Zv (Zk 9) Z1))) Ol (Cj x (s.map Ax)) [.val (.lst (k.map Ax)),z,.val (AO g),.val (.lst (j.map AJ)),A,.val (Ah p),B,.val (.bl b),I,J,m,o]=.next [.val (.lst (k.map Ax)),z,.val (AO g),.val (.lst (j.map AJ)),A,.val (Ah p),B,.val (.bl (b&&(EF j x s gs.1 t.2).all id)),O,T,C,E]
 |[],x,gs,t,b,I,J,m,o,_,_,M,_,_=>⟨I,J,m,o,by
   have:EF j x [] gs.1 t.2=[]:=by unfold EF;rfl
   rw[this];simp[ZO,Cj]⟩
 |f::s,x,gs,t,b,I,J,m,o,hn,M,v,U,w=>by
  obtain⟨Y,g2⟩:=gs
  obtain⟨k1,k2⟩:=t
  simp only at M v U w ⊢
  cases Y with
  |nil=>simp at v
  |cons i Y=>
  cases k2 with
  |nil=>simp at w
  |cons a k2=>
  have hx:k[x]?=some f:=by have:=hn 0;simpa using this.symm
  have G:g[x]?=some i:=by have:=M 0;simpa using this.symm
  have hkx:p[x]?=some a:=by have:=U 0;simpa using this.symm
  have y:=N f (Gp hx)
  have hgi:g.getD x 0=i:=by simp[Cq,G]
  have r:=h.at x f hx
  rw[hgi]at r
  have p1:=TU N h0 hz j hq x f hx
  have a1:=Pd G
  have a2:=nR hkx
  have hc:=Ec (b:=Zk 0) (e:=R7) (ρ:=[.no,.val (Ax f),.val (AO g),.val (.int (x:Int))]) (λl=>aD (Av l)) (λl=>aD (l.getD i .non)) (Ar j x f) λl hm=>⟨[.val (aD (Av l)),.val (Ax f),.val (AO g),.val (.int (x:Int))],rfl,by
   have H:=(List.mem_filter.mp hm).1
   have u:=au y (Pa H) i r
   rw[Je y.nd H]at u
   generalize Ax f=LL at *
   simp only[R7,Zo,Zd,Zb,Zj,Ao,Ai,AN,AL,AA,AT,a1,u,Cr]⟩
  have m1:((Ar j x f).map Av).map aD=(Ar j x f).map λl=>aD (Av l):=by rw[Dg];rfl
  have m2:((Ar j x f).map λl=>aD (l.getD i .non))=((Ar j x f).map λl=>l.getD i .non).map aD:=by rw[Dg];rfl
  have hfl:(Ar j x f).length<=f.length:=Kv _ _
  have q1:=ZC ((Ar j x f).map λl=>aD (Av l)) (by rw[BY];have:=y.few;omega)
  rw[m1]at p1
  rw[m2]at hc
  have i1:=(Ib a ((Ar j x f).map λl=>l.getD i .non)).1
  obtain⟨c8,c9,c10,c11,e⟩:=bn N h0 hz h j hq z A B p s (x+1) (Y,g2) (k1,k2) (b&&decide (a∈(Ar j x f).map λl=>l.getD i .non)) (.val (.int (x:Int))) (.val (Ax f)) (.val (.lst ((Ar j x f).map λl=>aD (Av l)))) (.val (.lst (((Ar j x f).map λl=>l.getD i .non).map aD))) (λn=>by have:=hn (n+1);rw[show x+1+n=x+(n+1) by omega];simpa using this) (λn=>by have:=M (n+1);rw[show x+1+n=x+(n+1) by omega];simpa using this) (by simpa using v) (λn=>by have:=U (n+1);rw[show x+1+n=x+(n+1) by omega];simpa using this) (by simpa using w)
  refine⟨c8,c9,c10,c11,?_⟩
  have hb:Ol [.val (.lst (k.map Ax)),z,.val (AO g),.val (.lst (j.map AJ)),A,.val (Ah p),B,.val (.bl b),.val (.int (x:Int)),.val (Ax f),m,o]=.next [.val (.lst (k.map Ax)),z,.val (AO g),.val (.lst (j.map AJ)),A,.val (Ah p),B,.val (.bl (b&&decide (a∈(Ar j x f).map λl=>l.getD i .non))),.val (.int (x:Int)),.val (Ax f),.val (.lst ((Ar j x f).map λl=>aD (Av l))),.val (.lst (((Ar j x f).map λl=>l.getD i .non).map aD))]:=by
   generalize decide (a∈(Ar j x f).map λl=>l.getD i .non)=c at *
   generalize ((Ar j x f).map λl=>l.getD i .non).map aD=TH at *
   generalize ((Ar j x f).map λl=>aD (Av l))=HS at *
   generalize Ax f=LL at *
   generalize k.map Ax=L at *
   generalize j.map AJ=Q at *
   have hin:∀d,ZV 1 [9,2,8] [.val (.lst L),z,.val (AO g),.val (.lst Q),A,.val (Ah p),B,.val (.bl b),.val (.int (x:Int)),.val LL,.val (.lst HS),d]=[.no,.val LL,.val (AO g),.val (.int (x:Int))]:=λ_=>rfl
   cases b<;>simp only[Ol,Zf,Zw,EQ,Dv,AS,Zo,Zd,Zb,Zj,ZF,ZM,hin,A6,Zy,Ao,Ai,A8,AN,AL,AW,AU,AA,AT,p1,DO,q1,hc,a2,i1,Bool.false_and,HZ]
  simp only[AY,Cj,ZO,ZZ,Zv,Zk,Z1,B8,DT,if_true,AW,AU,AA]
  rw[hb]
  refine e.trans ?_
  simp only[EF,D7,id,Bool.and_assoc]
theorem bo{i:List (List (List At))}(N:∀ls∈i,BG ls)(O:0<i.length)(hz:i.length<=4){g:List Nat}(h:Bq i g)(j:List AP)(T:∀q∈j,Fd (B2 i) q)(r:Sl):∀(o:List Ba)(n:Nat)(A B v s u k l:Sl),(∀t∈o,t.1.length=i.length) ->
  ∃E G H I J w x,ZO (ZZ 2 (Zv (Zk 5) (Zv (Zk 6) Z1))) L6 (o.map DQ) [.val (.lst (i.map Ax)),r,.val (AO g),.val (.lst (j.map AJ)),.val (.int (n:Int)),A,B,v,s,u,k,l]=.next [.val (.lst (i.map Ax)),r,.val (AO g),.val (.lst (j.map AJ)),.val (.int ((n+FR j i g o:Nat):Int)),E,G,H,I,J,w,x]
 |[],n,A,B,v,s,u,k,l,_=>⟨A,B,v,s,u,k,l,rfl⟩
 |t::o,n,A,B,v,s,u,k,l,U=>by
  have hg:=h.len
  have hk:=U t BA
  obtain⟨Y,c9,y,z,C⟩:=bn N O hz h j T r (.val (.int (n:Int))) (.val (BS t.2.1 t.2.2)) t.1 i 0 (g,t.1) (g,t.1) true s u k l (λn=>by rw[Gd]) (λn=>by rw[Gd]) hg (λn=>by rw[Gd]) hk
  rw[HZ]at C
  have m:(EF j 0 i g t.1).all id=CJ j i g t.1:=rfl
  simp only at C
  rw[m]at C
  have ii:JX [.bl (CJ j i g t.1)]=some (.int ((if CJ j i g t.1=true then 1 else 0:Nat):Int)):=by cases CJ j i g t.1<;>rfl
  obtain⟨a,b,c,d,e,f,p,e2⟩:=bo N O hz h j T r o (n+(if CJ j i g t.1=true then 1 else 0)) (.val (Ah t.1)) (.val (BS t.2.1 t.2.2)) (.val (.bl (CJ j i g t.1))) Y c9 y z λq M=>U q (Bt _ M)
  refine⟨a,b,c,d,e,f,p,?_⟩
  have hb:L6 [.val (.lst (i.map Ax)),r,.val (AO g),.val (.lst (j.map AJ)),.val (.int (n:Int)),.val (Ah t.1),.val (BS t.2.1 t.2.2),v,s,u,k,l]=.next [.val (.lst (i.map Ax)),r,.val (AO g),.val (.lst (j.map AJ)),.val (.int ((n+(if CJ j i g t.1=true then 1 else 0):Nat):Int)),.val (Ah t.1),.val (BS t.2.1 t.2.2),.val (.bl (CJ j i g t.1)),Y,c9,y,z]:=by
   generalize CJ j i g t.1=go at *
   generalize i.map Ax=L at *
   generalize j.map AJ=Q at *
   have ad:ZJ (.int (n:Int)) (.int ((if go=true then 1 else 0:Nat):Int))=some (.int ((n+(if go=true then 1 else 0):Nat):Int)):=by
    show some (D.int ((n:Int)+((if go=true then 1 else 0:Nat):Int)))=_
    congr 2
   simp only[L6,Zf,Zw,ZT,Df,Dk,A6,ZA,Bw,pk,Zd,Zb,Ao,Ai,AN,AL,AW,AU,AA,AT,C,ii,ad]
  simp only[AY,DQ,ZO,ZZ,Zv,Zk,Z1,B8,DT,if_true,AW,AU,AA]
  rw[hb]
  refine e2.trans ?_
  have:FR j i g (t::o)=(if CJ j i g t.1=true then 1 else 0)+FR j i g o:=by
   unfold FR
   cases m:CJ j i g t.1 with
   |true=>rw[Pj (p:=λt:Ba=>CJ j i g t.1) m];simp;omega
   |false=>rw[Pk (p:=λt:Ba=>CJ j i g t.1) (by show ¬ _=true;rw[m];decide)];simp
  rw[this,Nat.add_assoc]
theorem pj{i:List (List (List At))}(n:∀o∈i,BG o)(r:0<i.length)(hz:i.length<=4){g:List Nat}(h:Bq i g)(k:List AP)(s:∀q∈k,Fd (B2 i) q)(j:List Ba)(u:∀t∈j,t.1.length=i.length):R8 [.val (.lst (i.map Ax)),.val (.lst (j.map DQ)),.val (AO g),.val (.lst (k.map AJ))]=some (.val (.int (FR k i g j:Int))):=by
 obtain⟨a,b,c,d,e,f,p,m⟩:=bo n r hz h k s (.val (.lst (j.map DQ))) j 0 .no .no .no .no .no .no .no u
 rw[Gd]at m
 have l:ZO (ZZ 2 (Zv (Zk 5) (Zv (Zk 6) Z1))) L6 (j.map DQ) [.val (.lst (i.map Ax)),.val (.lst (j.map DQ)),.val (AO g),.val (.lst (k.map AJ)),.val (.int 0),.no,.no,.no,.no,.no,.no,.no]=_:=m
 refine Z9 rfl ?_
 generalize (FR k i g j:Int)=N at *
 generalize j.map DQ=T at *
 generalize i.map Ax=L at *
 generalize k.map AJ=Q at *
 show Om [.val (.lst L),.val (.lst T),.val (AO g),.val (.lst Q),.no,.no,.no,.no,.no,.no,.no,.no]=_
 simp only[Om,Zf,Zw,ZT,A6,Zy,ZH,A8,AN,AL,AW,AU,AA,l]
theorem bp(s0 h j m n o:Sl)(ws:List Int)(t:ws.length=24)(b:List (List At))(r:BG b)(lv:Nat)(p:∀l∈b,lv<=l.length):∀(g:List Nat)(acc:List At)(f:Sl),(∀k∈g,k<20)->acc.length+g.length<=100 ->
  ∃(c:List At) (d:Sl),c.length=acc.length+g.length/\ZO (Zk 10) Oe (g.map λ(k:Nat)=>D.int (k:Int)) [s0,h,j,m,n,.val (.lst (ws.map D.int)),o,.val (Ax b),.val (.int (lv:Int)),.own (acc.map aD),f]=.next [s0,h,j,m,n,.val (.lst (ws.map D.int)),o,.val (Ax b),.val (.int (lv:Int)),.own (c.map aD),d]
 |[],acc,f,_,_=>⟨acc,f,rfl,rfl⟩
 |k::g,acc,f,u,y=>by
  simp only[B8]at y
  have z:=u k BA
  have a1:ZJ (.int 3) (.int (k:Int))=some (.int ((3+k:Nat):Int)):=rfl
  have a2:=FP t (3+k) (by omega)
  generalize ws.getD (3+k) 0=v at *
  obtain⟨a,B,w⟩:=Hn v b.length r.ne
  have a3:=DP v (b.length:Int) (by have:=r.ne;omega)
  rw[B]at a3
  have a4:Au (Ax b) (.int (a:Int))=some (Ah b[a]):=by
   show atI (b.map Ah) (a:Int)=_
   exact DJ (by simp[w])
  have x:=ET w
  have a5:=KC b[a] (by have:=r.four _ x;omega) lv (p _ x)
  have a6:B9 [Ax b]=some (.int (b.length:Int)):=by simp
  have s:Zr (some [D.non])=some [D.non]:=ZC _ (by simp)
  have q:(acc.map aD).length<AG:=by rw[BY];exact Ca (show acc.length<1000 by omega) (by decide)
  generalize b[a]=l at *
  obtain⟨c,d,C,e⟩:=bp s0 h j m n o ws t b r lv p g (acc++[l.getD lv .non]) (.val (.int (k:Int))) (λi E=>u i (Bt _ E)) (by simp;omega)
  refine⟨c,d,by rw[C];simp;omega,?_⟩
  have G:Oe [s0,h,j,m,n,.val (.lst (ws.map D.int)),o,.val (Ax b),.val (.int (lv:Int)),.own (acc.map aD),.val (.int (k:Int))]=.next [s0,h,j,m,n,.val (.lst (ws.map D.int)),o,.val (Ax b),.val (.int (lv:Int)),.own ((acc++[l.getD lv .non]).map aD),.val (.int (k:Int))]:=by
   rw[D9,Ky]
   generalize acc.map aD=A at *
   generalize aD (l.getD lv .non)=T at *
   generalize Ah (l++[.non])=w1 at *
   generalize Ah l=w0 at *
   generalize Ax b=H at *
   generalize ws.map D.int=W at *
   simp only[Oe,Zf,CI,ZA,Bw,pk,Zd,Zb,Zj,Zt,Ao,Ai,BX,AN,AL,AW,AU,AA,AT,a1,a2,a6,a3,a4,s,a5.1,a5.2,q,if_true]
  simp only[AY,ZO,Zk,AW,AU,G,e]
def Jg:List D:=[.int 1,.int 2,.int 1,.int 3,.int 4,.int 6,.int 2,.int 0]
theorem pq(y:Int):∃n:Nat,n<=6/\Au (.lst Jg) (.int (y%8))=some (.int (n:Int)):=by
 have h:y%8=0\/y%8=1\/y%8=2\/y%8=3\/y%8=4\/y%8=5\/y%8=6\/y%8=7:=by omega
 rcases h with h|h|h|h|h|h|h|h<;>rw[h]
 ·exact⟨1,by omega,rfl⟩
 ·exact⟨2,by omega,rfl⟩
 ·exact⟨1,by omega,rfl⟩
 ·exact⟨3,by omega,rfl⟩
 ·exact⟨4,by omega,rfl⟩
 ·exact⟨6,by omega,rfl⟩
 ·exact⟨2,by omega,rfl⟩
 ·exact⟨0,by omega,rfl⟩
theorem pr(y:Int):∃a:At,Au (.lst [.str "nobody",.non,.int (10^40)]) (.int (y%3))=some (aD a):=by
 have h:y%3=0\/y%3=1\/y%3=2:=by omega
 rcases h with h|h|h<;>rw[h]
 ·exact⟨.str "nobody",rfl⟩
 ·exact⟨.non,rfl⟩
 ·exact⟨.int (10^40),rfl⟩
theorem pu{i:List (List (List At))}(hL:∀d∈i,BG d)(h0:0<i.length)(hz:i.length<=4)(s0:Sl)(r:List AP)(hqs:r.length<1000)(c:Int)(N:Nat)(s5 s6 s7 s8 s9 U:Sl):∃(q:AP)(t5 t6 t7 t8 t9 t10:Sl),Fd (B2 i) q/\IT [s0,.val (.lst (i.map Ax)),.own (r.map AJ),.val (.int (N:Int)),.val (.int c),s5,s6,s7,s8,s9,U]=.next [s0,.val (.lst (i.map Ax)),.own ((r++[q]).map AJ),.val (.int (N:Int)),.val (.int c),t5,t6,t7,t8,t9,t10]:=by
 have p0:ZJ (.int 40) (.int (N:Int))=some (.int ((40+N:Nat):Int)):=rfl
 obtain⟨f,hs,O,hp⟩:=O0 c ((40+N:Nat):Int)
 have i0:Au (.lst (f.map D.int)) (.int 0)=some (.int (f.getD 0 0)):=FP O 0 (by omega)
 have i1:Au (.lst (f.map D.int)) (.int 1)=some (.int (f.getD 1 0)):=FP O 1 (by omega)
 have i2:Au (.lst (f.map D.int)) (.int 2)=some (.int (f.getD 2 0)):=FP O 2 (by omega)
 have w:Au (.lst (f.map D.int)) (.int 10)=some (.int (f.getD 10 0)):=FP O 10 (by omega)
 have x:Au (.lst (f.map D.int)) (.int 11)=some (.int (f.getD 11 0)):=FP O 11 (by omega)
 generalize f.getD 0 0=y0 at *
 generalize f.getD 1 0=y1 at *
 generalize f.getD 2 0=y2 at *
 generalize f.getD 10 0=j at *
 generalize f.getD 11 0=y at *
 obtain⟨g,eax,J⟩:=Hn y0 i.length h0
 have Y:=DP y0 (i.length:Int) (by omega)
 rw[eax]at Y
 have z:B9 [.lst (i.map Ax)]=some (.int (i.length:Int)):=by simp
 have j0:Au (.lst (i.map Ax)) (.int (g:Int))=some (Ax i[g]):=by
  show atI (i.map Ax) (g:Int)=_
  exact DJ (by simp[J])
 have M:=hL _ (ET J)
 have A:(B2 i)[g]?=some (Db i[g],i[g]):=by rw[Jf,CH J];rfl
 generalize i[g]=d at *
 obtain⟨l0,T,j2⟩:=ai M.la
 have T:Au (Ax d) (.int 0)=some (Ah l0):=T
 have j3:ZJ (.int (Db d:Int)) (.int 1)=some (.int ((Db d:Int)+1)):=rfl
 obtain⟨lv,elv,hlv⟩:=Hn y1 (Db d+1) (by omega)
 have m1:=DP y1 ((Db d:Int)+1) (by omega)
 have elv':y1%((Db d:Int)+1)=(lv:Int):=by
  have e:((Db d+1:Nat):Int)=(Db d:Int)+1:=by omega
  rw[e]at elv;exact elv
 rw[elv']at m1
 have hlen:∀l∈d,lv<=l.length:=λl hl=>by rw[M.la.len l hl];omega
 have m2:=DP y2 8 (by omega)
 obtain⟨n,hn,j4⟩:=pq y2
 have r1:=F5 n (by omega)
 obtain⟨vs,B,hvl,ev⟩:=bp s0 (.val (.lst (i.map Ax))) (.own (r.map AJ)) (.val (.int (N:Int))) (.val (.int c)) (.val (.int (g:Int))) f O d M lv hlen (A7 n) [] U (λk hk=>by have:=List.mem_range.mp hk;omega) (by simp;omega)
 rw[Dd]at ev
 simp at hvl
 have C:Zr (some Jg)=some Jg:=ZC _ (by decide)
 have p:Zr (some ([]:List D))=some []:=rfl
 have E:=DP j 9 (by omega)
 have s:=TQ (j%9) 4
 have G:=DP y 5 (by omega)
 have m:=TQ (y%5) 0
 have d10:DU (.int j) (.int 9)=some (.int (j/9)):=by
  show(if Ds j 9 then some (D.int (j/9))else none)=_
  rw[if_pos ⟨by decide,by decide⟩]
 have m3:=DP (j/9) 3 (by omega)
 obtain⟨t,j5⟩:=pr (j/9)
 have pw:JN (.int 10) (.int 40)=some (.int (10^40)):=by simp[Go]
 generalize (10:Int)^40=B40 at *
 have H:∀a b c:D,Zr (some [a,b,c])=some [a,b,c]:=λ_ _ _=>ZC _ (by simp)
 have hvz:∀vs:List At,vs.length<=10->(vs.map aD).length<AG:=λvs h=>by rw[BY];exact Ca (show vs.length<1000 by omega) (by decide)
 have I:(r.map AJ).length<AG:=by rw[BY];exact Ca hqs (by decide)
 have hz1:=hvz vs (by omega)
 by_cases h10:j%9=4
 ·rw[decide_eq_true h10]at s
  by_cases u:y%5=0
  ·rw[decide_eq_true u]at m
   refine⟨⟨g,lv,true,(vs++[t])⟩,.val (.lst (f.map D.int)),.val (.int (g:Int)),.val (Ax d),.val (.int (lv:Int)),.val (.tup (vs.map aD++[aD t])),B,⟨by show(vs++[t]).length<=50;simp;omega,_,A,by show lv<=Db d;omega⟩,?_⟩
   rw[D9 (l₁:=r),Ky]
   have o:AJ ⟨g,lv,true,(vs++[t])⟩=.tup [.int (g:Int),.int (lv:Int),.tup (vs.map aD++[aD t])]:=by simp[AJ,Di]
   rw[o]
   unfold Jg at *
   generalize i.map Ax=L at *
   generalize f.map D.int=W at *
   generalize Ax d=LL at *
   generalize r.map AJ=Q at *
   generalize ((A7 n).map λ(k:Nat)=>D.int (k:Int))=RG at *
   generalize vs.map aD=V at *
   generalize aD t=OD at *
   generalize Ah l0=LN at *
   simp only[IT,Zf,Zw,CN,ZT,ZI,AS,CI,IC,Zo,ZA,De,Bw,pk,Zd,Zb,Zj,Zt,ZF,Ao,Ai,A8,BX,AN,AL,AW,AU,AA,AT,p0,hs,Cr,i0,z,Y,j0,i1,T,j2,j3,m1,p,i2,m2,C,j4,r1,ev,w,E,s,x,G,m,H,I,if_true,d10,m3,pw,j5,hz1]
  ·rw[decide_eq_false u]at m
   refine⟨⟨g,lv,false,(vs++[t])⟩,.val (.lst (f.map D.int)),.val (.int (g:Int)),.val (Ax d),.val (.int (lv:Int)),.val (.lst (vs.map aD++[aD t])),B,⟨by show(vs++[t]).length<=50;simp;omega,_,A,by show lv<=Db d;omega⟩,?_⟩
   rw[D9 (l₁:=r),Ky]
   have o:AJ ⟨g,lv,false,(vs++[t])⟩=.tup [.int (g:Int),.int (lv:Int),.lst (vs.map aD++[aD t])]:=by simp[AJ,Di]
   rw[o]
   unfold Jg at *
   generalize i.map Ax=L at *
   generalize f.map D.int=W at *
   generalize Ax d=LL at *
   generalize r.map AJ=Q at *
   generalize ((A7 n).map λ(k:Nat)=>D.int (k:Int))=RG at *
   generalize vs.map aD=V at *
   generalize aD t=OD at *
   generalize Ah l0=LN at *
   simp only[IT,Zf,Zw,CN,ZT,ZI,AS,CI,IC,Zo,ZA,De,Bw,pk,Zd,Zb,Zj,Zt,ZF,Ao,Ai,A8,BX,AN,AL,AW,AU,AA,AT,p0,hs,Cr,i0,z,Y,j0,i1,T,j2,j3,m1,p,i2,m2,C,j4,r1,ev,w,E,s,x,G,m,H,I,if_true,d10,m3,pw,j5,hz1]
 ·rw[decide_eq_false h10]at s
  by_cases u:y%5=0
  ·rw[decide_eq_true u]at m
   refine⟨⟨g,lv,true,vs⟩,.val (.lst (f.map D.int)),.val (.int (g:Int)),.val (Ax d),.val (.int (lv:Int)),.val (.tup (vs.map aD)),B,⟨by show vs.length<=50;omega,_,A,by show lv<=Db d;omega⟩,?_⟩
   rw[D9 (l₁:=r),Ky]
   have o:AJ ⟨g,lv,true,vs⟩=.tup [.int (g:Int),.int (lv:Int),.tup (vs.map aD)]:=by simp[AJ,Di]
   rw[o]
   unfold Jg at *
   generalize i.map Ax=L at *
   generalize f.map D.int=W at *
   generalize Ax d=LL at *
   generalize r.map AJ=Q at *
   generalize ((A7 n).map λ(k:Nat)=>D.int (k:Int))=RG at *
   generalize vs.map aD=V at *
   generalize Ah l0=LN at *
   simp only[IT,Zf,Zw,CN,ZT,ZI,AS,CI,IC,Zo,ZA,De,Bw,pk,Zd,Zb,Zj,Zt,ZF,Ao,Ai,A8,BX,AN,AL,AW,AU,AA,AT,p0,hs,Cr,i0,z,Y,j0,i1,T,j2,j3,m1,p,i2,m2,C,j4,r1,ev,w,E,s,x,G,m,H,I,if_true]
  ·rw[decide_eq_false u]at m
   refine⟨⟨g,lv,false,vs⟩,.val (.lst (f.map D.int)),.val (.int (g:Int)),.val (Ax d),.val (.int (lv:Int)),.val (.lst (vs.map aD)),B,⟨by show vs.length<=50;omega,_,A,by show lv<=Db d;omega⟩,?_⟩
   rw[D9 (l₁:=r),Ky]
   have o:AJ ⟨g,lv,false,vs⟩=.tup [.int (g:Int),.int (lv:Int),.lst (vs.map aD)]:=by simp[AJ,Di]
   rw[o]
   unfold Jg at *
   generalize i.map Ax=L at *
   generalize f.map D.int=W at *
   generalize Ax d=LL at *
   generalize r.map AJ=Q at *
   generalize ((A7 n).map λ(k:Nat)=>D.int (k:Int))=RG at *
   generalize vs.map aD=V at *
   generalize Ah l0=LN at *
   simp only[IT,Zf,Zw,CN,ZT,ZI,AS,CI,IC,Zo,ZA,De,Bw,pk,Zd,Zb,Zj,Zt,ZF,Ao,Ai,A8,BX,AN,AL,AW,AU,AA,AT,p0,hs,Cr,i0,z,Y,j0,i1,T,j2,j3,m1,p,i2,m2,C,j4,r1,ev,w,E,s,x,G,m,H,I,if_true]
theorem bq{e:List (List (List At))}(v:∀x∈e,BG x)(w:0<e.length)(hz:e.length<=4)(s0:Sl):∀(g:List Int)(f:Nat)(b:List AP)(n o i j k l m d:Sl),(∀q∈b,Fd (B2 e) q)->b.length+g.length<1000 ->
  ∃(a:List AP) (ρ:VE),(∀q∈a,Fd (B2 e) q)/\a.length=b.length+g.length/\ZO (ZZ 2 (Zv (Zk 3) (Zv (Zk 4) Z1))) IT (Cj f (g.map D.int)) [s0,.val (.lst (e.map Ax)),.own (b.map AJ),n,o,i,j,k,l,m,d]=.next ρ/\ρ[2]?=some (.own (a.map AJ))
 |[],f,b,n,o,i,j,k,l,m,d,r,_=>⟨b,_,r,rfl,rfl,rfl⟩
 |c::g,f,b,n,o,i,j,k,l,m,d,r,s=>by
  simp only[B8]at s
  obtain⟨q,y,z,A,B,C,t,E,G⟩:=pu v w hz s0 b (by omega) c f i j k l m d
  obtain⟨a,ρ,H,I,J,L⟩:=bq v w hz s0 g (f+1) (b++[q]) (.val (.int (f:Int))) (.val (.int c)) y z A B C t (λp u=>by
   rcases List.mem_append.mp u with h|h
   ·exact r p h
   ·simp at h;rw[h];exact E) (by simp;omega)
  refine⟨a,ρ,H,by rw[I];simp;omega,?_,L⟩
  simp only[AY,Cj,ZO,ZZ,Zv,Zk,Z1,B8,DT,if_true,AW,AU,AA,G,J]
theorem pv{a:List (List (List At))}(f:∀g∈a,BG g)(i:0<a.length)(hz:a.length<=4)(b:List Int)(m:b.length<=100):∃c:List AP,(∀q∈c,Fd (B2 a) q)/\c.length=b.length/\RV [.val (.lst (b.map D.int)),.val (.lst (a.map Ax))]=some (.own (c.map AJ)):=by
 obtain⟨c,n,j,k,e,l⟩:=bq f i hz (.val (.lst (b.map D.int))) b 0 [] .no .no .no .no .no .no .no .no (λ_ h=>nomatch h) (by simp;omega)
 refine⟨c,j,by simpa using k,?_⟩
 rw[Dd]at e
 have d:Zr (some ([]:List D))=some []:=rfl
 generalize c.map AJ=Q at *
 generalize b.map D.int=C at *
 generalize a.map Ax=L at *
 refine Z9 rfl ?_
 show Of [.val (.lst C),.val (.lst L),.no,.no,.no,.no,.no,.no,.no,.no,.no]=_
 simp only[Of,Zf,CN,ZT,Df,Dk,A6,Zt,Cf,BX,AN,AL,AW,AU,AA,d,e,l]
def Ih(g k:List Nat):List Nat:=Fs (λi j=>if j<i then j else i) g k
theorem br:∀(g k:List Nat),C1 (Zk 0) (λ_=>some true) OP [.no] (Fs (λx y=>D.tup [x,y]) (g.map λ(j:Nat)=>D.int (j:Int)) (k.map λ(j:Nat)=>D.int (j:Int)))=some ((Ih g k).map λ(j:Nat)=>D.int (j:Int))
 |[],_=>by cases ‹List Nat›<;>rfl
 |_::_,[]=>rfl
 |i::g,j::k=>by
  have a:=br g k
  have b:OP [.val (.tup [.int (i:Int),.int (j:Int)])]=some (.int ((if j<i then j else i:Nat):Int)):=by
   have e:Nz [.tup [.int (i:Int),.int (j:Int)]]=some (.int (if(j:Int)<(i:Int)then(j:Int)else(i:Int))):=rfl
   have d:(if(j:Int)<(i:Int)then(j:Int)else(i:Int))=((if j<i then j else i:Nat):Int):=by
    by_cases c:j<i
    ·rw[if_pos c,if_pos (by omega)]
    ·rw[if_neg c,if_neg (by omega)]
   rw[d]at e
   simp only[OP,ZA,Bw,pk,Zb,Ao,AN,AL,AA,e]
  simp only[AY,To,Ih,C1,Zk,AU,b,a,Zb,AA]
theorem Bq.either{b:List (List (List At))}{g k:List Nat}(h:Bq b g)(h':Bq b k):∀m:List Nat,m.length=b.length->(∀i,i<m.length->m.getD i 0=g.getD i 0\/m.getD i 0=k.getD i 0)->Bq b m:=by
 induction h generalizing k with
 |nil=>intro m c _;cases m with
  |nil=>exact .nil
  |cons=>simp at c
 |@cons r b i g e f s l=>
  cases h' with
  |@cons _ _ j t u o p=>
  intro m c d
  cases m with
  |nil=>simp at c
  |cons x m=>
   have a:=d 0 (by simp)
   refine .cons e ?_ (l p m (by simpa using c) λn q=>by simpa using d (n+1) (by simpa using q))
   simp only[List.getD_cons_zero]at a
   rcases a with rfl|rfl
   ·exact f
   ·exact o
theorem bt(f:Nat->Nat->Nat):∀(g k:List Nat)(i:Nat),i<g.length->i<k.length->(Fs f g k).getD i 0=f (g.getD i 0) (k.getD i 0)
 |x::g,y::k,0,_,_=>rfl
 |x::g,y::k,i+1,a,b=>by
  have:=bt f g k i (by simpa using a) (by simpa using b)
  simpa using this
theorem px{a:List (List (List At))}{g k:List Nat}(h:Bq a g)(h':Bq a k):Bq a (Ih g k):=by
 have c:=h.len
 have d:=h'.len
 refine h.either h' _ (by simp[Ih];omega) λi b=>?_
 simp[Ih]at b
 unfold Ih
 rw[bt _ _ _ _ (by omega) (by omega)]
 split
 ·exact .inr rfl
 ·exact .inl rfl
theorem py(N L R:List D)(a:Int)(f:ZU [.val (.lst N),.val (.int 6)]=some (.val (.int a)))(c:List (List (List At)))(b k:List Nat)(h:Bq c b)(h':Bq c k)(hz:c.length<=4):∃g,Bq c g/\OQ [.val (.lst N),.val (.lst L),.val (.lst R),.val (AO b),.val (AO k),.no,.no,.no,.no,.no,.no]=.next [.val (.lst N),.val (.lst L),.val (.lst R),.val (AO g),.val (AO k),.no,.no,.no,.no,.no,.no]:=by
 have d1:DU (.int a) (.int 125)=some (.int (a/125)):=by
  show(if Ds a 125 then some (D.int (a/125))else none)=_
  rw[if_pos ⟨by decide,by decide⟩]
 have m1:=DP (a/125) 4 (by omega)
 have d:JP (.int (a/125%4)) (.int 0)=some (.bl (decide (0<a/125%4))):=rfl
 have m:=h.len
 have n:=h'.len
 by_cases i:0<a/125%4
 ·refine⟨Ih b k,px h h',?_⟩
  have l:=br b k
  have q1:=ZC (Fs (λx y=>D.tup [x,y]) (b.map λ(j:Nat)=>D.int (j:Int)) (k.map λ(j:Nat)=>D.int (j:Int))) (by simp;omega)
  rw[decide_eq_true i]at d
  unfold AO
  generalize ((Ih b k).map λ(j:Nat)=>D.int (j:Int))=o at *
  generalize (b.map λ(j:Nat)=>D.int (j:Int))=G at *
  generalize (k.map λ(j:Nat)=>D.int (j:Int))=W at *
  have e:ZV 1 [] [.val (.lst N),.val (.lst L),.val (.lst R),.val (.tup G),.val (.tup W),.no,.no,.no,.no,.no,.no]=[.no]:=rfl
  simp only[OQ,Zf,Zw,ZI,AS,Zo,ZA,De,Bw,pk,Zd,Zb,Zj,Zt,ZF,ZM,Hb,Dk,e,A6,Ao,Ai,AN,AL,AW,AU,AA,AT,f,Cr,d1,m1,d,q1,l]
 ·refine⟨b,h,?_⟩
  rw[decide_eq_false i]at d
  simp only[OQ,ZI,AS,Zo,Zd,Zb,Zj,Ao,AN,AL,AA,AT,f,Cr,d1,m1,d]
theorem pz(acc:List Ba)(b:List AP):A5 12 (.lst [.lst (Ck acc),.lst (b.map AJ)])=true:=by
 have d:A5 11 (.lst (Ck acc))=true:=by
  rw[Mj]
  show((C4 acc).map _).all (A5 10)=true
  rw[HF,Ev]
  intro t _
  show [Ah t.1,BS t.2.1 t.2.2].all (A5 9)=true
  rw[Tw]
  simp only[D7,List.all_nil,OU 8,EY]
 have e:A5 11 (.lst (b.map AJ))=true:=by
  show(b.map AJ).all (A5 10)=true
  rw[HF,Ev]
  intro q _
  show A5 10 (AJ q)=true
  unfold AJ Di
  have c:∀vs:List At,(vs.map aD).all (A5 8)=true:=λvs=>by rw[HF,Ev];exact λa _=>Ks 8 a
  cases q.tp
  ·show [D.int (q.a:Int),.int (q.lv:Int),.lst (q.vs.map aD)].all (A5 9)=true
   simp only[D7,List.all_nil,A5,c,EY]
  ·show [D.int (q.a:Int),.int (q.lv:Int),.tup (q.vs.map aD)].all (A5 9)=true
   simp only[D7,List.all_nil,A5,c,EY]
 show [D.lst (Ck acc),.lst (b.map AJ)].all (A5 11)=true
 simp only[D7,List.all_nil,d,e,EY]
theorem pA(n:Int):NR [.val (.int n)]=some (.val (.bl true)):=by simp[NR,Bm,Rq]
theorem pB(f:List Int)(hl:f.length<=63):YC [.val (.lst (f.map D.int))]=some (.val (.bl true)):=by
 obtain⟨c,m,p,j,e1⟩:=ol f
 obtain⟨a,n,H,e2⟩:=oo f hl c m j
 have c4:ZU [.val (.lst (f.map D.int)),.val (.int 4)]=some (.val (.int (f.getD 4 0))):=Kt (.val (.lst (f.map D.int))) f (.inl rfl) 4 (by omega)
 have c6:ZU [.val (.lst (f.map D.int)),.val (.int 6)]=some (.val (.int (f.getD 6 0))):=Kt (.val (.lst (f.map D.int))) f (.inl rfl) 6 (by omega)
 have I:ZU [.val (.lst (f.map D.int)),.val (.int 10)]=some (.val (.int (f.getD 10 0))):=Kt (.val (.lst (f.map D.int))) f (.inl rfl) 10 (by omega)
 generalize f.getD 4 0=x4 at *
 generalize f.getD 6 0=x6 at *
 generalize f.getD 10 0=i at *
 obtain⟨g0,J,e3⟩:=aJ x4 c m j
 obtain⟨k,v,e4⟩:=aJ x6 c m j
 obtain⟨g,s,e5⟩:=py (f.map D.int) (c.map Ax) (a.map CF) x6 c6 c g0 k J v j
 have M:=DP i 4 (by omega)
 have a7:ZJ (.int 7) (.int (i%4))=some (.int (7+i%4)):=rfl
 have w:Em (f.map D.int) (some 7) (some (7+i%4))=((f.drop 7).take (i%4).toNat).map D.int:=by
  rw[Ra,WZ _ _ _ (by omega) (by omega)]
  congr 2
  omega
 have hcl:((f.drop 7).take (i%4).toNat).length<=63:=by simp;omega
 generalize (f.drop 7).take (i%4).toNat=cs at *
 obtain⟨h,u,hql,e6⟩:=pv m p j cs (by omega)
 obtain⟨t1,x⟩:=Pf s j a H n
 obtain⟨b,y,O,U⟩:=pb m p j s v h u
 have o:=nP (aV m p j) g k s.gr v.gr h u
 have Y:∀r∈Dp h c a,Bj c r.1:=λr hr'=>H r (List.mem_filter.mp hr').1
 have hpl:(Dp h c a).length<=a.length:=Kv _ _
 obtain⟨t2,ok2⟩:=Pf v j (Dp h c a) Y (by omega)
 have eof:=pi m p j h u a H n
 have e7:=ow ok2 (by omega) (by omega)
 obtain⟨q1,q2⟩:=Tz (ox (BL c k (Dp h c a) []))
 obtain⟨q3,q4⟩:=Tz (pz (BL c g a []) h)
 have A:∀t∈C4 (BL c g a []),t.1.length=c.length:=λt ht=>by
  obtain⟨k',hk',rfl⟩:=List.mem_map.mp ht
  exact x.kl k' ((D1 BD _).mem_iff.mp hk')
 have htl:=aZ (BL c g a [])
 have hl1:=x.len
 have B:=o7 h s m j (λq hq'=>(u q hq').1) (C4 (BL c g a [])) A (by omega)
 have E:=pj m p j s h u (C4 (BL c g a [])) A
 have htE:(C4 (BL c g a [])).map DQ=Ck (BL c g a []):=(Mj _).symm
 rw[htE]at B E
 have wh:=pA (FR h c g (C4 (BL c g a [])):Int)
 have qn:=(Tz (d:=.int (FR h c g (C4 (BL c g a [])):Int)) rfl).1
 have s2:Zr (some [D.lst (Ck (BL c g a [])),.lst (h.map AJ)])=some [D.lst (Ck (BL c g a [])),.lst (h.map AJ)]:=ZC _ (by simp)
 have i0:Au (.lst [D.lst (Ck (BL c g a [])),.lst (h.map AJ)]) (.int 0)=some (.lst (Ck (BL c g a []))):=rfl
 have i1:Au (.lst [D.lst (Ck (BL c g a [])),.lst (h.map AJ)]) (.int 1)=some (.lst (h.map AJ)):=rfl
 refine Z9 rfl ?_
 show OS [.val (.lst (f.map D.int)),.no,.no,.no,.no,.no,.no,.no,.no,.no,.no]=_
 have s8:OS [.val (.lst (f.map D.int)),.no,.no,.no,.no,.no,.no,.no,.no,.no,.no]=OR [.val (.lst (f.map D.int)),.val (.lst (c.map Ax)),.val (.lst (a.map CF)),.val (AO g),.val (AO k),.val (.lst (h.map AJ)),.val (.lst (Ck (BL c g a []))),.val (.lst [D.lst (Ck (BL c g a [])),.lst (h.map AJ)]),.no,.no,.no]:=by
  generalize Ck (BL c g a [])=T at *
  generalize a.map CF=R at *
  generalize c.map Ax=L at *
  generalize h.map AJ=Q at *
  generalize cs.map D.int=C at *
  generalize f.map D.int=N at *
  simp only[OS,X9,YA,Ya,Yz,Yb,Yy,Yc,Yx,Yw,Yd,Yv,Ye,Yu,Yf,Zf,Zw,Zo,CA,Lo,Bw,pk,Zd,CB,G6,Cw,Zb,Zj,Zt,ZF,Ao,Ai,AN,AL,AW,AU,AA,AT,e1,DO,e2,c4,Cr,e3,c6,e4,e5,I,M,a7,w,e6,t1,s2]
 rw[s8]
 cases b with
 |true=>
  obtain⟨hE,t,l⟩:=O rfl
  have hF:∃t,GJ [.val (.lst (c.map Ax)),.val (AO g),.val (AO k),.val (.lst (h.map AJ))]=some (.val (Ic t)):=by
   rw[TJ,Ph,Ph]at o
   rcases o with⟨t,_,_,e⟩|⟨z,_⟩
   ·exact⟨t,e⟩
   ·rcases z with z|z
    ·rw[hE]at z;cases z
    ·exact absurd l (z t)
  obtain⟨t,eF⟩:=hF
  have rf:=oY (c.map Ax) (Ck (BL c g a [])) g k (h.map AJ) t eF
  generalize Ck (BL c g a [])=T at *
  generalize a.map CF=R at *
  generalize c.map Ax=L at *
  generalize h.map AJ=Q at *
  generalize f.map D.int=N at *
  simp only[OR,SO,Zf,ZI,ZH,B5,Zo,Zd,Zb,Zj,Ao,Ai,AN,AL,AA,AT,y,Cr,i0,i1,rf]
 |false=>
  have G:=U rfl
  have hF:GJ [.val (LD (B2 c)),.val (GD g),.val (GD k),.val (.lst (h.map AJ))]=some (.val .non):=by
   rcases o with⟨t,hE,l,e⟩|⟨_,e⟩
   ·rcases G with z|z
    ·rw[hE]at z;cases z
    ·exact absurd l (z t)
   ·exact e
  have er:=oW h s v m p j u G hF a H n
  generalize (FR h c g (C4 (BL c g a [])):Int)=MN at *
  generalize Ck (BL c g a [])=T at *
  generalize Ck (BL c k (Dp h c a) [])=T' at *
  generalize (Dp h c a).map CF=RP at *
  generalize a.map CF=R at *
  generalize c.map Ax=L at *
  generalize h.map AJ=Q at *
  generalize f.map D.int=N at *
  simp only[OR,SO,Yt,Yg,Ys,Yh,Yr,Yi,Yq,Yj,Yp,Yk,Yo,Yl,Yn,Ym,Zf,Zw,CN,LO,ZI,ZH,FE,CM,B5,AS,Zo,Gs,Zd,Zb,Zj,Zt,ZF,Ao,Ai,A8,BX,AN,AL,AW,AU,AA,AT,y,Cr,i0,i1,er,MR,eof,DO,e7,t2,q2,GK,B,wh,s2,q4,E,qn]
def BR(i:Nat):Ay:=PySem.Challenge.pw_cubebook_k35_read_and_counted.main.body.getD i (.Pass ⟨0,0,0,0⟩)
abbrev bu:Ay:=BR 1
abbrev bv:Ay:=BR 3
abbrev TV:Ay:=BR 4
abbrev bw:Ay:=BR 5
abbrev bz:Ay:=BR 7
abbrev bB:Ay:=BR 8
abbrev Pm:Ay:=BR 9
abbrev TW:Ay:=BR 15
abbrev Mm:Ay:=BR 17
abbrev TX:Ay:=BR 18
abbrev TY:Ay:=BR 20
abbrev bC:Ay:=BR 21
abbrev bD:Ay:=BR 22
abbrev bE:Ay:=BR 24
abbrev TZ:Ay:=BR 26
abbrev Pn:Ay:=BR 27
abbrev T0:Ay:=BR 29
abbrev T1:Ay:=BR 30
abbrev bF:Ay:=BR 31
abbrev T2:Ay:=BR 32
abbrev bG:Ay:=BR 33
abbrev bH:Ay:=BR 35
abbrev bI:Ay:=BR 36
abbrev bJ:Ay:=BR 37
abbrev bK:Ay:=BR 38
abbrev bL:Ay:=BR 39
abbrev bM:Ay:=BR 40
abbrev T4:Ay:=BR 41
abbrev bN:Ay:=BR 42
abbrev bO:Ay:=BR 43
abbrev T5:Ay:=BR 44
abbrev T6:Ay:=BR 45
abbrev bP:Ay:=BR 46
abbrev T7:Ay:=BR 47
abbrev bQ:Ay:=BR 48
abbrev T8:Ay:=BR 49
abbrev bR:Ay:=BR 50
abbrev bS:Ay:=BR 51
abbrev T9:Ay:=BR 52
abbrev Po:Ay:=BR 53
abbrev bT:Ay:=BR 54
abbrev Pp:Ay:=BR 55
abbrev bU:Ay:=BR 56
abbrev Ua:Ay:=BR 57
abbrev Ub:Ay:=BR 58
structure AD where
 a0:Ac
 d0:Bi
 a1:Ac
 d1:Bi
 a2:Ac
 d2:Bi
 a3:Ac
 d3:Bi
 a4:Ac
 d4:Bi
 a5:Ac
 d5:Bi
 a6:Ac
 d6:Bi
 a7:Ac
 d7:Bi
 a8:Ac
 d8:Bi
 a9:Ac
 d9:Bi
 a10:Ac
 d10:Bi
 a11:Ac
 d11:Bi
 a12:Ac
 d12:Bi
 a13:Ac
 d13:Bi
 a14:Ac
 d14:Bi
 a15:Ac
 d15:Bi
 a16:Ac
 d16:Bi
 a17:Ac
 d17:Bi
 a18:Ac
 d18:Bi
 a19:Ac
 d19:Bi
 a20:Ac
 d20:Bi
 a21:Ac
 d21:Bi
 a22:Ac
 d22:Bi
 a23:Ac
 d23:Bi
 a24:Ac
 d24:Bi
 a25:Ac
 d25:Bi
 a26:Ac
 d26:Bi
 a27:Ac
 d27:Bi
 a28:Ac
 d28:Bi
 a29:Ac
 d29:Bi
 a30:Ac
 d30:Bi
 a31:Ac
 d31:Bi
 a32:Ac
 d32:Bi
 a33:Ac
 d33:Bi
 a34:Ac
 d34:Bi
 a35:Ac
 d35:Bi
 a36:Ac
 d36:Bi
 a37:Ac
 d37:Bi
 a38:Ac
 d38:Bi
 a39:Ac
 d39:Bi
 a40:Ac
 d40:Bi
 a41:Ac
 d41:Bi
 a42:Ac
 d42:Bi
 a43:Ac
 d43:Bi
 a44:Ac
 d44:Bi
 a_CubeError:Ac
 a_NoGrain:Ac
 a_NoPick:Ac
structure Tx(K:As)(mg:Ae->Option Aa)(d:AD):Prop where
 q0:DI K mg "is_whole" bu ["thing"] d.a0 d.d0
 q1:DI K mg "value_rank" bv ["thing"] d.a1 d.d1
 q2:DI K mg "key_rank" TV ["key"] d.a2 d.d2
 q3:DI K mg "in_order" bw ["keys"] d.a3 d.d3
 q4:DI K mg "whole_of" bz ["ladder"] d.a4 d.d4
 q5:DI K mg "line_at" bB ["line","level"] d.a5 d.d5
 q6:DI K mg "values_in_order" Pm ["values"] d.a6 d.d6
 q7:DI K mg "coarsest" TW ["ladders"] d.a7 d.d7
 q8:DI K mg "picked" Mm ["ladders","picks","axis"] d.a8 d.d8
 q9:DI K mg "picked_everywhere" TX ["ladders","picks"] d.a9 d.d9
 q10:DI K mg "asked_of" TY ["ladder","level","chosen"] d.a10 d.d10
 q11:DI K mg "apart_on" bC ["ladder","kept_level","level","chosen"] d.a11 d.d11
 q12:DI K mg "apart" bD ["ladders","kept","grain","picks"] d.a12 d.d12
 q13:DI K mg "merged" bE ["one","other"] d.a13 d.d13
 q14:DI K mg "goes_along" TZ ["ways","key"] d.a14 d.d14
 q15:DI K mg "merged_along" Pn ["ways","table"] d.a15 d.d15
 q16:DI K mg "picked_lifts" T0 ["ladder","level","other","chosen"] d.a16 d.d16
 q17:DI K mg "picked_ways" T1 ["ladders","kept","grain","picks"] d.a17 d.d17
 q18:DI K mg "read" bF ["ladders","table","kept","grain","picks"] d.a18 d.d18
 q19:DI K mg "cells_picked" T2 ["ladders","table","kept","picks"] d.a19 d.d19
 q20:DI K mg "cells_read" bG ["ladders","table","kept","picks"] d.a20 d.d20
 q21:DI K mg "_law_cell_at" bH ["_law_script","_law_k"] d.a21 d.d21
 q22:DI K mg "_law_stream" bI ["_law_cell","_law_place"] d.a22 d.d22
 q23:DI K mg "_law_word" bJ ["_law_cell","_law_many_here"] d.a23 d.d23
 q24:DI K mg "_law_value" bK ["_law_way","_law_cell","_law_k"] d.a24 d.d24
 q25:DI K mg "_law_ladder" bL ["_law_cell","_law_many_here","_law_places"] d.a25 d.d25
 q26:DI K mg "_law_ladders" bM ["_law_script"] d.a26 d.d26
 q27:DI K mg "_law_row" T4 ["_law_cell","_law_place","_law_ladders_here"] d.a27 d.d27
 q28:DI K mg "_law_rank" bN ["_law_value_here"] d.a28 d.d28
 q29:DI K mg "_law_up" bO ["_law_ladder_here","_law_value_here","_law_level"] d.a29 d.d29
 q30:DI K mg "_law_key_at" T5 ["_law_ladders_here","_law_spot","_law_grain_here"] d.a30 d.d30
 q31:DI K mg "_law_key_rank" T6 ["_law_spot"] d.a31 d.d31
 q32:DI K mg "_law_cell_of" bP ["_law_amounts"] d.a32 d.d32
 q33:DI K mg "_law_table" T7 ["_law_ladders_here","_law_rows_here","_law_grain_here"] d.a33 d.d33
 q34:DI K mg "_law_grain" bQ ["_law_cell","_law_ladders_here"] d.a34 d.d34
 q35:DI K mg "_law_is_table" T8 ["_law_found"] d.a35 d.d35
 q36:DI K mg "_law_picks" bR ["_law_cells","_law_ladders_here"] d.a36 d.d36
 q37:DI K mg "_law_picked" bS ["_law_ladders_here","_law_picks_here","_law_axis"] d.a37 d.d37
 q38:DI K mg "_law_apart" T9 ["_law_ladders_here","_law_kept","_law_grain_here","_law_picks_here"] d.a38 d.d38
 q39:DI K mg "_law_of_picked" Po ["_law_ladders_here","_law_rows_here","_law_picks_here"] d.a39 d.d39
 q40:DI K mg "_law_whole" bT ["_law_found"] d.a40 d.d40
 q41:DI K mg "_law_rows" Pp ["_law_script","_law_ladders_here"] d.a41 d.d41
 q42:DI K mg "_law_refused" bU ["_law_ladders_here","_law_table_here","_law_kept","_law_grain_here","_law_picks_here"] d.a42 d.d42
 q43:DI K mg "_law_many" Ua ["_law_ladders_here","_law_table_here","_law_kept","_law_picks_here"] d.a43 d.d43
 q44:DI K mg "law" Ub ["_law_script"] d.a44 d.d44
 n0:mg "ValueError"=none
 n1:mg "all"=none
 n2:mg "any"=none
 n3:mg "bool"=none
 n4:mg "dict"=none
 n5:mg "enumerate"=none
 n6:mg "int"=none
 n7:mg "isinstance"=none
 n8:mg "len"=none
 n9:mg "list"=none
 n10:mg "max"=none
 n11:mg "min"=none
 n12:mg "range"=none
 n13:mg "sorted"=none
 n14:mg "str"=none
 n15:mg "sum"=none
 n16:mg "tuple"=none
 n17:mg "zip"=none
 m_CubeError:mg "CubeError"=some (.ref d.a_CubeError)
 q_CubeError:HA K C5 "CubeError"=some (some (.ref d.a_CubeError))
 m_NoGrain:mg "NoGrain"=some (.ref d.a_NoGrain)
 q_NoGrain:HA K C5 "NoGrain"=some (some (.ref d.a_NoGrain))
 m_NoPick:mg "NoPick"=some (.ref d.a_NoPick)
 q_NoPick:HA K C5 "NoPick"=some (some (.ref d.a_NoPick))
 k_NoGrain:QY K d.a_NoGrain
 f_NoGrain:Ft K d.a_NoGrain
 p_NoGrain_NoGrain:J1 K (.ref d.a_NoGrain) (.ref d.a_NoGrain)=some (EX "NoGrain" "NoGrain")
 p_NoGrain_NoPick:J1 K (.ref d.a_NoGrain) (.ref d.a_NoPick)=some (EX "NoPick" "NoGrain")
 p_NoGrain_ValueError:J1 K (.ref d.a_NoGrain) (.type "ValueError")=some (EX "ValueError" "NoGrain")
 x_NoGrain_CubeError:PySem.W.exmOne K (.ref d.a_NoGrain) (.ref d.a_CubeError)=some true
section
variable{P:A4}{w:Aj}{K:As}{mg:Ae->Option Aa}{base:Al}{d:AD}
theorem Pq{c:Ae}(h:CS.contains c=true):c="NoGrain":=by
 simpa[CS]using h
theorem pC(T:Tx K mg d):∀c D,CS.contains c=true->HA K C5 c=some (some (.ref D))->PySem.W.exmOne K (.ref D) (.ref d.a_CubeError)=some true:=by
 intro c D h e
 rcases Pq h with rfl
 ·have z:=e.symm.trans T.q_NoGrain;cases z;exact T.x_NoGrain_CubeError
theorem pD(T:Tx K mg d):∀c D,CS.contains c=true->HA K C5 c=some (some (.ref D))->Ft K D/\J1 K (.ref D) (.ref d.a_NoGrain)=some (EX "NoGrain" c):=by
 intro c D h e
 rcases Pq h with rfl
 ·have z:=e.symm.trans T.q_NoGrain;cases z;exact⟨T.f_NoGrain,T.p_NoGrain_NoGrain⟩
theorem pE(T:Tx K mg d):∀c D,CS.contains c=true->HA K C5 c=some (some (.ref D))->Ft K D/\J1 K (.ref D) (.ref d.a_NoPick)=some (EX "NoPick" c):=by
 intro c D h e
 rcases Pq h with rfl
 ·have z:=e.symm.trans T.q_NoGrain;cases z;exact⟨T.f_NoGrain,T.p_NoGrain_NoPick⟩
theorem pF(T:Tx K mg d):∀c D,CS.contains c=true->HA K C5 c=some (some (.ref D))->Ft K D/\J1 K (.ref D) (.type "ValueError")=some (EX "ValueError" c):=by
 intro c D h e
 rcases Pq h with rfl
 ·have z:=e.symm.trans T.q_NoGrain;cases z;exact⟨T.f_NoGrain,T.p_NoGrain_ValueError⟩
abbrev N0:List Ae:=["thing"]
theorem S0:ZG N0 ["thing"] (Zm bu):=BP
theorem pG(T:Tx K mg d):Az P w K mg base Bh 1 d.a0 d.d0 ["thing"] (Bu K Rf):=
 ZR (N:=N0) (g:=Re) T.q0 S0 (λ_ _ _ _ _ _ _ _ a=>(Zc (ZB (K8 (ZL Gy Gz (by rfl) T.n7 (by rfl) (Za (Zq 0) (Za (Zi (GA (n:="int") (by rfl) T.n6 (by rfl))) Ze))) (MO (Qe (ZL Gy Gz (by rfl) T.n7 (by rfl) (Za (Zq 0) (Za (Zi (GA (n:="bool") (by rfl) T.n3 (by rfl))) Ze)))))))
   Zg))
abbrev N4:List Ae:=["ladder"]
theorem S4:ZG N4 ["ladder"] (Zm bz):=BP
theorem pH(T:Tx K mg d):Az P w K mg base Bh 1 d.a4 d.d4 ["ladder"] (Bu K Rg):=
 ZR (N:=N4) (g:=NB) T.q4 S4 (λ_ _ _ _ _ _ _ _ a=>(Zc (ZB (ZL EH EU (by rfl) T.n8 (by rfl) (Za (Zi (Zh (Zl 0) Zs)) Ze)))
   Zg))
abbrev N5:List Ae:=["line","level"]
theorem S5:ZG N5 ["line","level"] (Zm bB):=BP
theorem Mn(T:Tx K mg d):Az P w K mg base Bh 1 d.a5 d.d5 ["line","level"] (Bu K F6):=
 ZR (N:=N5) (g:=NC) T.q5 S5 (λ_ _ _ _ _ _ _ _ a=>(Zc (ZB (Va (VQ a.units (Zl 1) (Aq (ZL EH EU (by rfl) T.n8 (by rfl) (Za (Zq 0) Ze)))) (Zh (Zl 0) (Zl 1)) E4))
   Zg))
abbrev bV:List Ae:=["one","other"]
theorem pI:ZG bV ["one","other"] (Zm bE):=BP
theorem pJ(T:Tx K mg d):Az P w K mg base Bh 1 d.a13 d.d13 ["one","other"] (Bu K LV):=
 ZR (N:=bV) (g:=Rh) T.q13 pI (λ_ _ _ _ _ _ _ _ a=>(Zc (ZB (ZY (Za (Zi (ZD (Aq (Zh (Zl 0) Zs)) (Aq (Zh (Zl 1) Zs)))) (Za (Zi (ZD (Aq (Zh (Zl 0) Zs)) (Aq (Zh (Zl 1) Zs)))) (Za (Zi (ZL (fI rfl) iT (by rfl) T.n11 (by rfl) (Za (Zi (Zh (Zl 0) Zs)) (Za (Zi (Zh (Zl 1) Zs)) Ze)))) (Za (Zi (ZL (fH rfl) iS (by rfl) T.n10 (by rfl) (Za (Zi (Zh (Zl 0) Zs)) (Za (Zi (Zh (Zl 1) Zs)) Ze)))) Ze))))))
   Zg))
abbrev bW:List Ae:=["ways","key"]
theorem pK:ZG bW ["ways","key"] (Zm TZ):=BP
theorem bX(T:Tx K mg d):Az P w K mg base Bh 1 d.a14 d.d14 ["ways","key"] (Bu K LW):=
 ZR (N:=bW) (g:=NE) T.q14 pK (λ_ _ _ _ _ _ _ _ a=>(Zc (ZB (ZL (U6 rfl) VC (by rfl) T.n1 (by rfl) (Za (Zi (Cu (Z0 ["way","value"] [] [] (C3 ["way","value"] [] (Zm TZ)) rfl rfl  (Q8 (by rfl) T.n17 (BZ 0) (BZ 1)) (λ_ _ _ _ _ _ _=>(D6 (n:=2) rfl (ZE (Zn 0 (Cb ["way","value"])) (ZE (Zn 1 (Cb ["way","value"])) D5)))) (λ_ _ _ _ _ _ _=>Z8) (λ_ _ _ _ _ _ _=>(jI a.units (Zl 1) (Zl 0))) (by decide)))) Ze)))
   Zg))
abbrev bY:List Ae:=["_law_script","_law_k"]
theorem pL:ZG bY ["_law_script","_law_k"] (Zm bH):=BP
theorem Ii(T:Tx K mg d):Az P w K mg base Bh 1 d.a21 d.d21 ["_law_script","_law_k"] (Bu K ZU):=
 ZR (N:=bY) (g:=NF) T.q21 pL (λ_ _ _ _ _ _ _ _ a=>(Zc (ZW (VQ a.units (Zl 1) (Aq (ZL EH EU (by rfl) T.n8 (by rfl) (Za (Zq 0) Ze))))
   (Zc (ZB (Zh (Zl 0) (Zl 1)))
   Zg)
   Zg)
   (Zc (ZB ZQ)
   Zg)))
abbrev bZ:List Ae:=["_law_cell","_law_place","_law_number","_law_some","_law_k"]
theorem Mo:ZG bZ ["_law_cell","_law_place"] (Zm bI):=BP
theorem Pr(T:Tx K mg d):Az P w K mg base Bh 1 d.a22 d.d22 ["_law_cell","_law_place"] (Bu K IS):=
 ZR (N:=bZ) (g:=Rj) T.q22 Mo (λ_ _ _ _ _ _ _ _ a=>(Zc (Zu 2 Mo.nd (ZN (Aq (ZD (Zl 0) (Aq (Gw Zs (Zl 1))))) Zs))
   (Zc (FH (i:=3) Mo.nd rfl (Or.inl rfl) (DB Ze))
   (Zc (Z3 Dc rfl (Gv (by rfl) T.n12 (Za (Zi ZQ) Ze)) (Zn 4 Mo.nd)
   (Zc (Zu 2 Mo.nd (ZN (Aq (ZD (Aq (ZD (Aq (Gw (Zl 2) Zs)) (Aq (Gw Zs (Zl 4))))) Zs)) Zs))
   (Zc (FI (i:=3) rfl (by first|exact Or.inl rfl|exact Or.inr (Or.inl rfl)) (Fq (Zl 2) Zs))
   Zg)))
   (Zc (ZB (Lj (Zl 3) (IF Zs) Qr))
   Zg)))))
abbrev b4:List Ae:=["_law_cell","_law_many_here","_law_signs","_law_word_here","_law_k"]
theorem Mp:ZG b4 ["_law_cell","_law_many_here"] (Zm bJ):=BP
theorem pM(T:Tx K mg d):Az P w K mg base Bh 1 d.a23 d.d23 ["_law_cell","_law_many_here"] (Bu K LX):=
 ZR (N:=b4) (g:=Rl) T.q23 Mp (λ_ _ _ _ _ _ _ _ a=>(Zc (Zu 2 Mp.nd HB)
   (Zc (Zu 3 Mp.nd (Zh (Zl 2) (Aq (ZN (Zl 0) Zs))))
   (Zc (Z3 Dc rfl (Gv (by rfl) T.n12 (Za (Zi (CC 1)) Ze)) (Zn 4 Mp.nd)
   (Zc (Zu 3 Mp.nd (ZD (Zl 3) (Aq (Zh (Zl 2) (Aq (ZN (Aq (Fq (Zl 0) (Aq (ZD (Zl 4) Zs)))) Zs))))))
   Zg))
   (Zc (ZB (CC 3))
   Zg)))))
abbrev b6:List Ae:=["_law_value_here"]
theorem pN:ZG b6 ["_law_value_here"] (Zm bN):=BP
theorem pO(T:Tx K mg d):Az P w K mg base Bh 1 d.a28 d.d28 ["_law_value_here"] (Bu K NH):=
 ZR (N:=b6) (g:=Rm) T.q28 pN (λ_ _ _ _ _ _ _ _ a=>(Zc (ZW (Vb (Zl 0))
   (Zc (ZB (ZY (Za (Zi ZQ) (Za (Zi ZQ) (Za (Zi HB) Ze)))))
   Zg)
   Zg)
   (Zc (ZW (D8 (Aq (ZL Gy Gz (by rfl) T.n7 (by rfl) (Za (Zq 0) (Za (Zi (GA (n:="int") (by rfl) T.n6 (by rfl))) Ze)))))
   (Zc (ZB (ZY (Za (Zi ZQ) (Za (Zi (CC 0)) (Za (Zi HB) Ze)))))
   Zg)
   Zg)
   (Zc (ZB (ZY (Za (Zi ZQ) (Za (Zi ZQ) (Za (Zi (CC 0)) Ze)))))
   Zg))))
abbrev cb:List Ae:=["_law_ladder_here","_law_value_here","_law_level","_law_line"]
theorem cc:ZG cb ["_law_ladder_here","_law_value_here","_law_level"] (Zm bO):=BP
theorem ce(T:Tx K mg d):Az P w K mg base Bh 1 d.a29 d.d29 ["_law_ladder_here","_law_value_here","_law_level"] (Bu K NJ):=
 ZR (N:=cb) (g:=NI) T.q29 cc (λ_ _ _ _ _ _ _ _ a=>(Zc (Z3 Dc rfl (ZX (BZ 0)) (Zn 3 cc.nd)
   (Zc (ZW (G9 a.units (Aq (Zh (Zl 3) Zs)) (Zl 1))
   (Zc (ZB (Zh (Aq (ZD (Zl 3) (Aq (ZY (Za (Zi E4) Ze))))) (Zl 2)))
   Zg)
   Zg)
   Zg))
   (Zc (ZB E4)
   Zg)))
abbrev cf:List Ae:=["_law_amounts","_law_some"]
theorem cg:ZG cf ["_law_amounts"] (Zm bP):=BP
theorem pP(T:Tx K mg d):Az P w K mg base Bh 1 d.a32 d.d32 ["_law_amounts"] (Bu K NK):=
 ZR (N:=cf) (g:=Rn) T.q32 cg (λ_ _ _ _ _ _ _ _ a=>(Zc (Zu 1 cg.nd (Cu (hU i4 i5 (by rfl) T.n13 (by rfl) (Za (Zq 0) Ze))))
   (Zc (ZB (ZY (Za (Zi (ZL EH EU (by rfl) T.n8 (by rfl) (Za (Zq 1) Ze))) (Za (Zi (ZL (iV rfl) iX (by rfl) T.n15 (by rfl) (Za (Zq 1) Ze))) (Za (Zi (Zh (Zl 1) Zs)) (Za (Zi (Zh (Zl 1) (Aq (Vm Zs)))) Ze))))))
   Zg)))
abbrev ci:List Ae:=["_law_cell","_law_ladders_here","_law_levels","_law_k","_law_ladder_here"]
theorem Ps:ZG ci ["_law_cell","_law_ladders_here"] (Zm bQ):=BP
theorem cj(T:Tx K mg d):Az P w K mg base Bh 1 d.a34 d.d34 ["_law_cell","_law_ladders_here"] (Bu K NN):=
 ZR (N:=ci) (g:=NM) T.q34 Ps (λ_ _ _ _ _ _ _ _ a=>(Zc (FH (i:=2) Ps.nd rfl (Or.inl rfl) (DB Ze))
   (Zc (Z3 Dc rfl (He (by rfl) T.n5 (BZ 1)) (D6 (n:=2) rfl (ZE (Zn 3 Ps.nd) (ZE (Zn 4 Ps.nd) D5)))
   (Zc (FI (i:=2) rfl (by first|exact Or.inl rfl|exact Or.inr (Or.inl rfl)) (ZN (Aq (Fq (Zl 0) (Aq (Zh (Aq (Cu (DB (Za (Zi ZQ) (Za (Zi ZQ) (Za (Zi ZQ) (Za (Zi ZQ) Ze))))))) (Zl 3))))) (Aq (ZD (Aq (ZL EH EU (by rfl) T.n8 (by rfl) (Za (Zi (Zh (Zl 4) Zs)) Ze))) Zs))))
   Zg))
   (Zc (ZB (FG G1 G7 (by rfl) T.n16 (by rfl) (Za (Zq 2) Ze)))
   Zg))))
abbrev ck:List Ae:=["_law_found","_law_one"]
theorem cm:ZG ck ["_law_found"] (Zm T8):=BP
theorem pQ(T:Tx K mg d):Az P w K mg base Bh 1 d.a35 d.d35 ["_law_found"] (Bu K Rp):=
 ZR (N:=ck) (g:=NP) T.q35 cm (λ_ _ _ _ _ _ _ _ a=>(Zc (ZW (HC (D8 (Aq (ZL Gy Gz (by rfl) T.n7 (by rfl) (Za (Zq 0) (Za (Zi (GA (n:="list") (by rfl) T.n9 (by rfl))) Ze))))))
   (Zc (ZB EO)
   Zg)
   Zg)
   (Zc (Z3 Dc rfl (ZX (BZ 0)) (Zn 1 cm.nd)
   (Zc (ZW (HI (JD (HC (D8 (Aq (ZL Gy Gz (by rfl) T.n7 (by rfl) (Za (Zq 1) (Za (Zi (GA (n:="tuple") (by rfl) T.n16 (by rfl))) Ze)))))) (JD (J3 a.units (Aq (ZL EH EU (by rfl) T.n8 (by rfl) (Za (Zq 1) Ze))) Zs) (K7 (HC (D8 (Aq (ZL Gy Gz (by rfl) T.n7 (by rfl) (Za (Zi (Zh (Zl 1) Zs)) (Za (Zi (GA (n:="tuple") (by rfl) T.n16 (by rfl))) Ze))))))))))
   (Zc (ZB EO)
   Zg)
   Zg)
   (Zc (ZW (HI (JD (HC (D8 (Aq (ZL Gy Gz (by rfl) T.n7 (by rfl) (Za (Zi (Zh (Zl 1) Zs)) (Za (Zi (GA (n:="tuple") (by rfl) T.n16 (by rfl))) Ze)))))) (K7 (D8 (Aq (ZL (gK rfl) iR (by rfl) T.n2 (by rfl) (Za (Zi (Cu (Z0 ["_law_part"] [] [] (C3 ["_law_part"] [] (Zm T8)) rfl rfl  (ZX (ID (ZD (Aq (Zh (Zl 1) Zs)) (Aq (Zh (Zl 1) Zs))))) (λ_ _ _ _ _ _ _=>(Zn 0 (Cb ["_law_part"]))) (λ_ _ _ _ _ _ _=>Z8) (λ_ _ _ _ _ _ _=>(ZL Gy Gz (by rfl) T.n7 (by rfl) (Za (Zq 0) (Za (Zi (GA (n:="bool") (by rfl) T.n3 (by rfl))) Ze)))) (by decide)))) Ze)))))))
   (Zc (ZB EO)
   Zg)
   Zg)
   Zg)))
   (Zc (ZB EO)
   Zg))))
abbrev cp:List Ae:=["_law_ladders_here","_law_picks_here","_law_axis","_law_found","_law_line","_law_good","_law_at","_law_level","_law_values"]
theorem Ij:ZG cp ["_law_ladders_here","_law_picks_here","_law_axis"] (Zm bS):=BP
theorem Uc(T:Tx K mg d):Az P w K mg base Bh 1 d.a37 d.d37 ["_law_ladders_here","_law_picks_here","_law_axis"] (Bu K Km):=
 ZR (N:=cp) (g:=NQ) T.q37 Ij (λ_ _ _ _ _ _ _ _ a=>(Zc (FH (i:=3) Ij.nd rfl (Or.inl rfl) (DB Ze))
   (Zc (Z3 Dc rfl (ZX (ID (Zh (Zl 0) (Zl 2)))) (Zn 4 Ij.nd)
   (Zc (Zu 5 Ij.nd EO)
   (Zc (Z3 Dc rfl (ZX (BZ 1)) (D6 (n:=3) rfl (ZE (Zn 6 Ij.nd) (ZE (Zn 7 Ij.nd) (ZE (Zn 8 Ij.nd) D5))))
   (Zc (ZW (HI (MM (G9 a.units (Zl 6) (Zl 2)) (Qc (iZ a.units (Aq (Zh (Aq (ZD (Zl 4) (Aq (ZY (Za (Zi E4) Ze))))) (Zl 7))) (Zl 8)))))
   (Zc (Zu 5 Ij.nd EO)
   Zg)
   Zg)
   Zg))
   (Zc (ZW (D8 (Zl 5))
   (Zc (FI (i:=3) rfl (by first|exact Or.inl rfl|exact Or.inr (Or.inl rfl)) (Zh (Zl 4) Zs))
   Zg)
   Zg)
   Zg))))
   (Zc (J2 3)
   Zg))))
abbrev cq:List Ae:=["_law_found"]
theorem pR:ZG cq ["_law_found"] (Zm bT):=BP
theorem pS(T:Tx K mg d):Az P w K mg base Bh 1 d.a40 d.d40 ["_law_found"] (Bu K NR):=
 ZR (N:=cq) (g:=Rq) T.q40 pR (λ_ _ _ _ _ _ _ _ a=>(Zc (ZB (K8 (ZL Gy Gz (by rfl) T.n7 (by rfl) (Za (Zq 0) (Za (Zi (GA (n:="int") (by rfl) T.n6 (by rfl))) Ze))) (MO (Qe (ZL Gy Gz (by rfl) T.n7 (by rfl) (Za (Zq 0) (Za (Zi (GA (n:="bool") (by rfl) T.n3 (by rfl))) Ze)))))))
   Zg))
abbrev N1:List Ae:=["thing"]
theorem S1:ZG N1 ["thing"] (Zm bv):=BP
theorem pT(T:Tx K mg d):Az P w K mg base Bh 2 d.a1 d.d1 ["thing"] (Bu K NS):=
 ZR (N:=N1) (g:=Rr) T.q1 S1 (λ_ _ _ _ _ _ _ _ a=>(Zc (ZW (Vb (Zl 0))
   (Zc (ZB (ZY (Za (Zi ZQ) (Za (Zi ZQ) Ze))))
   Zg)
   Zg)
   (Zc (ZW (D8 (Aq (Zp (pG T) a T.q0 (Za (Zq 0) Ze))))
   (Zc (ZB (ZY (Za (Zi ZQ) (Za (Zi (CC 0)) Ze))))
   Zg)
   Zg)
   (Zc (ZB (ZY (Za (Zi ZQ) (Za (Zi (CC 0)) Ze))))
   Zg))))
abbrev N7:List Ae:=["ladders"]
theorem S7:ZG N7 ["ladders"] (Zm TW):=BP
theorem pU(T:Tx K mg d):Az P w K mg base Bh 2 d.a7 d.d7 ["ladders"] (Bu K Rt):=
 ZR (N:=N7) (g:=NT) T.q7 S7 (λ_ _ _ _ _ _ _ _ a=>(Zc (ZB (FG G1 G7 (by rfl) T.n16 (by rfl) (Za (Zi (Cu (Z0 ["ladder"] [] [] (C3 ["ladder"] [] (Zm TW)) rfl rfl  (ZX (BZ 0)) (λ_ _ _ _ _ _ _=>(Zn 0 (Cb ["ladder"]))) (λ_ _ _ _ _ _ _=>Z8) (λ_ _ _ _ _ _ _=>(Zp (pH T) a T.q4 (Za (Zq 0) Ze))) (by decide)))) Ze)))
   Zg))
abbrev cr:List Ae:=["ladder","level","chosen","asked","line"]
theorem Ud:ZG cr ["ladder","level","chosen"] (Zm TY):=BP
theorem pV(T:Tx K mg d):Az P w K mg base Bh 2 d.a10 d.d10 ["ladder","level","chosen"] (Bu K Rw):=
 ZR (N:=cr) (g:=NU) T.q10 Ud (λ_ _ _ _ _ _ _ _ a=>(Zc (Le (i:=3) Ud.nd rfl (Or.inl rfl) (QU rfl a.units (by rfl) T.n4 (Aq (Cu (Z0 ["line"] [] [] (C3 ["line"] [] (Zm TY)) rfl rfl  (ZX (BZ 0)) (λ_ _ _ _ _ _ _=>(Zn 0 (Cb ["line"]))) (λ_ _ _ _ _ _ _=>Z8) (λ_ _ _ _ _ _ _=>(ZY (Za (Zi (Zh (Zl 0) Zs)) (Za (Zi (ZY (Za (Zi HB) (Za (Zi E4) Ze)))) Ze)))) (by decide))))))
   (Zc (Z3 Dc rfl (ZX (BZ 0)) (Zn 4 Ud.nd)
   (Zc (ZW (Lq a.units (Aq (Zh (Zl 4) Zs)) (Zl 2))
   (Zc (QN (i:=3) a.units (Aq (Zh (Zl 4) Zs)) (ZY (Za (Zi HB) (Za (Zi (Zp (Mn T) a T.q5 (Za (Zq 4) (Za (Zq 1) Ze)))) Ze))))
   Zg)
   Zg)
   Zg))
   (Zc (kw 3)
   Zg))))
abbrev cu:List Ae:=["ladder","level","other","chosen"]
theorem pW:ZG cu ["ladder","level","other","chosen"] (Zm T0):=BP
theorem pX(T:Tx K mg d):Az P w K mg base Bh 2 d.a16 d.d16 ["ladder","level","other","chosen"] (Bu K Rx):=
 ZR (N:=cu) (g:=NX) T.q16 pW (λ_ _ _ _ _ _ _ _ a=>(Zc (hV (QU rfl a.units (by rfl) T.n4 (Aq (Cu (Z0 ["line"] ["level","other","chosen"] [1,2,3] (C3 ["line"] ["level","other","chosen"] (Zm T0)) rfl rfl  (ZX (BZ 0)) (λ_ _ _ _ _ _ _=>(Zn 0 (Cb ["line","level","other","chosen"]))) (λ_ _ _ _ _ _ _=>(Qn (Lq a.units (Aq (Zh (Zl 0) Zs)) (Zl 3)))) (λ_ _ _ _ _ _ _=>(ZY (Za (Zi (Zp (Mn T) a T.q5 (Za (Zq 0) (Za (Zq 1) Ze)))) (Za (Zi (Zp (Mn T) a T.q5 (Za (Zq 0) (Za (Zq 2) Ze)))) Ze)))) (by decide))))))
   Zg))
abbrev cv:List Ae:=["_law_way","_law_cell","_law_k","_law_number","_law_word_here","_law_letters","_law_at","_law_two"]
theorem KD:ZG cv ["_law_way","_law_cell","_law_k"] (Zm bK):=BP
theorem pY(T:Tx K mg d):Az P w K mg base Bh 2 d.a24 d.d24 ["_law_way","_law_cell","_law_k"] (Bu K Fu):=
 ZR (N:=cv) (g:=Ko) T.q24 KD (λ_ _ _ _ _ _ _ _ a=>(Zc (Zu 3 KD.nd (ZN (Aq (Fq (Zl 1) Zs)) (Aq (Qq Zs Zs))))
   (Zc (ZW (G9 a.units (Zl 0) Zs)
   (Zc (ZB (ZD (Zl 3) (Zl 2)))
   Zg)
   Zg)
   (Zc (ZW (G9 a.units (Zl 0) Zs)
   (Zc (ZB (MX (Aq (MX Zs (Zl 3))) (Zl 2)))
   Zg)
   Zg)
   (Zc (Zu 4 KD.nd (Zp (pM T) a T.q23 (Za (Zi (Fq (Zl 1) Zs)) (Za (Zi (ZN (Zl 1) Zs)) Ze))))
   (Zc (ZW (G9 a.units (Zl 0) Zs)
   (Zc (ZB (ZD (Zl 4) (Aq (i8 PySem.F.plainAttrs_str PySem.F.slot_str_zfill PySem.F.type_str_zfill jO jQ (Aq (FG fJ iU (by rfl) T.n14 (by rfl) (Za (Zq 2) Ze))) (Za (Zi (ZD Zs (Aq (ZN (Aq (Fq (Zl 1) Zs)) Zs)))) Ze)))))
   Zg)
   Zg)
   (Zc (Zu 5 KD.nd HB)
   (Zc (Zu 6 KD.nd (ZN (Aq (Fq (Zl 1) Zs)) (Aq (ZD (Aq (ZL EH EU (by rfl) T.n8 (by rfl) (Za (Zq 4) Ze))) Zs))))
   (Zc (Zu 7 KD.nd (ZD (Aq (Zh (Zl 5) (Aq (Fq (Zl 2) Zs)))) (Aq (Zh (Zl 5) (Aq (ZN (Aq (ZD (Zl 2) (Aq (Fq (Zl 1) Zs)))) Zs))))))
   (Zc (ZB (ZD (Aq (ZD (Aq (Lj (Zl 4) Qr (IF (Zl 6)))) (Zl 7))) (Aq (Lj (Zl 4) (IF (Zl 6)) Qr))))
   Zg))))))))))
abbrev cw:List Ae:=["_law_cell","_law_place","_law_ladders_here","_law_s","_law_spot","_law_amount"]
theorem Mq:ZG cw ["_law_cell","_law_place","_law_ladders_here"] (Zm T4):=BP
theorem pZ(T:Tx K mg d):Az P w K mg base Bh 2 d.a27 d.d27 ["_law_cell","_law_place","_law_ladders_here"] (Bu K RQ):=
 ZR (N:=cw) (g:=L3) T.q27 Mq (λ_ _ _ _ _ _ _ _ a=>(Zc (Zu 3 Mq.nd (Zp (Pr T) a T.q22 (Za (Zq 0) (Za (Zq 1) Ze))))
   (Zc (Zu 4 Mq.nd (FG G1 G7 (by rfl) T.n16 (by rfl) (Za (Zi (Cu (Z0 ["_law_k","_law_ladder_here"] ["_law_s"] [3] (C3 ["_law_k","_law_ladder_here"] ["_law_s"] (Zm T4)) rfl rfl  (He (by rfl) T.n5 (BZ 2)) (λ_ _ _ _ _ _ _=>(D6 (n:=2) rfl (ZE (Zn 0 (Cb ["_law_k","_law_ladder_here","_law_s"])) (ZE (Zn 1 (Cb ["_law_k","_law_ladder_here","_law_s"])) D5)))) (λ_ _ _ _ _ _ _=>Z8) (λ_ _ _ _ _ _ _=>(Zh (Aq (Zh (Zl 1) (Aq (ZN (Aq (Zh (Zl 2) (Zl 0))) (Aq (ZL EH EU (by rfl) T.n8 (by rfl) (Za (Zq 1) Ze))))))) Zs)) (by decide)))) Ze)))
   (Zc (Zu 5 Mq.nd (Gw (Aq (ZN (Zl 0) (Aq (Qq Zs Zs)))) (Aq (MX Zs (Aq (Gw Zs (Aq (ZN (Aq (Zh (Zl 3) Zs)) Zs))))))))
   (Zc (ZW (G9 a.units (Aq (ZN (Aq (Zh (Zl 3) Zs)) Zs)) Zs)
   (Zc (Zu 5 Mq.nd (MX (Aq (ZN (Aq (Zh (Zl 3) Zs)) Zs)) Zs))
   Zg)
   Zg)
   (Zc (ZB (ZY (Za (Zi (CC 4)) (Za (Zi (CC 5)) Ze))))
   Zg))))))
abbrev cx:List Ae:=["_law_ladders_here","_law_spot","_law_grain_here"]
theorem p3:ZG cx ["_law_ladders_here","_law_spot","_law_grain_here"] (Zm T5):=BP
theorem p4(T:Tx K mg d):Az P w K mg base Bh 2 d.a30 d.d30 ["_law_ladders_here","_law_spot","_law_grain_here"] (Bu K RS):=
 ZR (N:=cx) (g:=Ob) T.q30 p3 (λ_ _ _ _ _ _ _ _ a=>(Zc (ZB (FG G1 G7 (by rfl) T.n16 (by rfl) (Za (Zi (Cu (Z0 ["_law_ladder_here","_law_value_here","_law_level"] [] [] (C3 ["_law_ladder_here","_law_value_here","_law_level"] [] (Zm T5)) rfl rfl  (lm (by rfl) T.n17 (BZ 0) (BZ 1) (BZ 2)) (λ_ _ _ _ _ _ _=>(D6 (n:=3) rfl (ZE (Zn 0 (Cb ["_law_ladder_here","_law_value_here","_law_level"])) (ZE (Zn 1 (Cb ["_law_ladder_here","_law_value_here","_law_level"])) (ZE (Zn 2 (Cb ["_law_ladder_here","_law_value_here","_law_level"])) D5))))) (λ_ _ _ _ _ _ _=>Z8) (λ_ _ _ _ _ _ _=>(Zp (ce T) a T.q29 (Za (Zq 0) (Za (Zq 1) (Za (Zq 2) Ze))))) (by decide)))) Ze)))
   Zg))
abbrev cy:List Ae:=["_law_spot"]
theorem p5:ZG cy ["_law_spot"] (Zm T6):=BP
theorem p6(T:Tx K mg d):Az P w K mg base Bh 2 d.a31 d.d31 ["_law_spot"] (Bu K Od):=
 ZR (N:=cy) (g:=Oc) T.q31 p5 (λ_ _ _ _ _ _ _ _ a=>(Zc (Gu (Z0 ["_law_value_here"] [] [] (C3 ["_law_value_here"] [] (Zm T6)) rfl rfl  (ZX (BZ 0)) (λ_ _ _ _ _ _ _=>(Zn 0 (Cb ["_law_value_here"]))) (λ_ _ _ _ _ _ _=>Z8) (λ_ _ _ _ _ _ _=>(Zp (pO T) a T.q28 (Za (Zq 0) Ze))) (by decide)))
   Zg))
abbrev cz:List Ae:=["_law_cells","_law_ladders_here","_law_picks_here","_law_place","_law_cell","_law_s","_law_axis","_law_ladder_here","_law_level","_law_values","_law_k"]
theorem Gg:ZG cz ["_law_cells","_law_ladders_here"] (Zm bR):=BP
theorem p7(T:Tx K mg d):Az P w K mg base Bh 2 d.a36 d.d36 ["_law_cells","_law_ladders_here"] (Bu K RV):=
 ZR (N:=cz) (g:=Of) T.q36 Gg (λ_ _ _ _ _ _ _ _ a=>(Zc (FH (i:=2) Gg.nd rfl (Or.inl rfl) (DB Ze))
   (Zc (Z3 Dc rfl (He (by rfl) T.n5 (BZ 0)) (D6 (n:=2) rfl (ZE (Zn 3 Gg.nd) (ZE (Zn 4 Gg.nd) D5)))
   (Zc (Zu 5 Gg.nd (Zp (Pr T) a T.q22 (Za (Zq 4) (Za (Zi (ZD Zs (Zl 3))) Ze))))
   (Zc (Zu 6 Gg.nd (ZN (Aq (Zh (Zl 5) Zs)) (Aq (ZL EH EU (by rfl) T.n8 (by rfl) (Za (Zq 1) Ze)))))
   (Zc (Zu 7 Gg.nd (Zh (Zl 1) (Zl 6)))
   (Zc (Zu 8 Gg.nd (ZN (Aq (Zh (Zl 5) Zs)) (Aq (ZD (Aq (ZL EH EU (by rfl) T.n8 (by rfl) (Za (Zi (Zh (Zl 7) Zs)) Ze))) Zs))))
   (Zc (FH (i:=9) Gg.nd rfl (Or.inl rfl) (DB Ze))
   (Zc (Z3 Dc rfl (Gv (by rfl) T.n12 (Za (Zi (Zh (Aq (Cu (DB (Za (Zi ZQ) (Za (Zi ZQ) (Za (Zi ZQ) (Za (Zi ZQ) (Za (Zi ZQ) (Za (Zi ZQ) (Za (Zi ZQ) (Za (Zi ZQ) Ze))))))))))) (Aq (ZN (Aq (Zh (Zl 5) Zs)) Zs)))) Ze)) (Zn 10 Gg.nd)
   (Zc (FI (i:=9) rfl (by first|exact Or.inl rfl|exact Or.inr (Or.inl rfl)) (Zh (Aq (ZD (Aq (Zh (Zl 7) (Aq (ZN (Aq (Zh (Zl 5) (Aq (ZD Zs (Zl 10))))) (Aq (ZL EH EU (by rfl) T.n8 (by rfl) (Za (Zq 7) Ze))))))) (Aq (ZY (Za (Zi E4) Ze))))) (Zl 8)))
   Zg))
   (Zc (ZW (G9 a.units (Aq (ZN (Aq (Zh (Zl 5) Zs)) Zs)) Zs)
   (Zc (FI (i:=9) rfl (by first|exact Or.inl rfl|exact Or.inr (Or.inl rfl)) (Zh (Aq (Cu (DB (Za (Zi HB) (Za (Zi E4) (Za (Zi (Qq Zs Zs)) Ze)))))) (Aq (ZN (Aq (Fq (Aq (Zh (Zl 5) Zs)) Zs)) Zs))))
   Zg)
   Zg)
   (Zc (ZW (G9 a.units (Aq (ZN (Aq (Zh (Zl 5) Zs)) Zs)) Zs)
   (Zc (Zu 9 Gg.nd (FG G1 G7 (by rfl) T.n16 (by rfl) (Za (Zq 9) Ze)))
   Zg)
   Zg)
   (Zc (ie 9 (FI (i:=2) rfl (by first|exact Or.inl rfl|exact Or.inr (Or.inl rfl)) (ZY (Za (Zi (CC 6)) (Za (Zi (CC 8)) (Za (Zi (CC 9)) Ze))))))
   Zg))))))))))
   (Zc (J2 2)
   Zg))))
abbrev cA:List Ae:=["_law_ladders_here","_law_kept","_law_grain_here","_law_picks_here","_law_some","_law_axis","_law_ladder_here","_law_one","_law_other","_law_alike","_law_far"]
theorem Ik:ZG cA ["_law_ladders_here","_law_kept","_law_grain_here","_law_picks_here"] (Zm T9):=BP
theorem p8(T:Tx K mg d):Az P w K mg base Bh 2 d.a38 d.d38 ["_law_ladders_here","_law_kept","_law_grain_here","_law_picks_here"] (Bu K Oj):=
 ZR (N:=cA) (g:=Xs) T.q38 Ik (λ_ _ _ _ _ _ _ _ a=>(Zc (Qo (i:=4) ["_law_axis"] ["_law_ladders_here","_law_picks_here"] [0,3] (C3 ["_law_axis"] ["_law_ladders_here","_law_picks_here"] (Zm T9)) rfl rfl Ik.nd rfl rfl (Gv (by rfl) T.n12 (Za (Zi (ZL EH EU (by rfl) T.n8 (by rfl) (Za (Zq 0) Ze))) Ze)) (λ_ _ _ _ _ _ _=>(Zn 0 (Cb ["_law_axis","_law_ladders_here","_law_picks_here"]))) (λ_ _ _ _ _ _ _=>Z8) (λ_ _ _ _ _ _ _=>(Zp (Uc T) a T.q37 (Za (Zq 1) (Za (Zq 2) (Za (Zq 0) Ze))))) (by decide))
   (Zc (ZW (Lq a.units (Aq (Cu (DB Ze))) (Zl 4))
   (Zc (ZB EO)
   Zg)
   Zg)
   (Zc (Z3 Dc rfl (He (by rfl) T.n5 (BZ 0)) (D6 (n:=2) rfl (ZE (Zn 5 Ik.nd) (ZE (Zn 6 Ik.nd) D5)))
   (Zc (Z3 Dc rfl (ZX (BZ 6)) (Zn 7 Ik.nd)
   (Zc (Z3 Dc rfl (ZX (BZ 6)) (Zn 8 Ik.nd)
   (Zc (Zu 9 Ik.nd (M7 a.units (Aq (Zh (Aq (ZD (Zl 7) (Aq (ZY (Za (Zi E4) Ze))))) (Aq (Zh (Zl 1) (Zl 5))))) (Aq (Zh (Aq (ZD (Zl 8) (Aq (ZY (Za (Zi E4) Ze))))) (Aq (Zh (Zl 1) (Zl 5)))))))
   (Zc (ZW (HI (MM (D8 (Zl 9)) (Qc (J3 a.units (Aq (M8 a.units (Aq (Zh (Zl 7) Zs)) (Aq (Zh (Zl 4) (Zl 5))))) (Aq (M8 a.units (Aq (Zh (Zl 8) Zs)) (Aq (Zh (Zl 4) (Zl 5)))))))))
   (Zc (ZB EO)
   Zg)
   Zg)
   (Zc (Zu 10 Ik.nd (M7 a.units (Aq (Zh (Aq (ZD (Zl 7) (Aq (ZY (Za (Zi E4) Ze))))) (Aq (Zh (Zl 2) (Zl 5))))) (Aq (Zh (Aq (ZD (Zl 8) (Aq (ZY (Za (Zi E4) Ze))))) (Aq (Zh (Zl 2) (Zl 5)))))))
   (Zc (ZW (HI (MM (D8 (Zl 9)) (MM (Lq a.units (Aq (Zh (Zl 7) Zs)) (Aq (Zh (Zl 4) (Zl 5)))) (Qc (HC (D8 (Zl 10)))))))
   (Zc (ZB EO)
   Zg)
   Zg)
   Zg)))))
   Zg))
   Zg))
   (Zc (ZB EO)
   Zg)))))
abbrev cB:List Ae:=["_law_ladders_here","_law_rows_here","_law_picks_here","_law_some","_law_found","_law_spot","_law_amount"]
theorem Mr:ZG cB ["_law_ladders_here","_law_rows_here","_law_picks_here"] (Zm Po):=BP
theorem p9(T:Tx K mg d):Az P w K mg base Bh 2 d.a39 d.d39 ["_law_ladders_here","_law_rows_here","_law_picks_here"] (Bu K R6):=
 ZR (N:=cB) (g:=XA) T.q39 Mr (λ_ _ _ _ _ _ _ _ a=>(Zc (Zu 3 Mr.nd (Cu (Z0 ["_law_axis"] ["_law_ladders_here","_law_picks_here"] [0,2] (C3 ["_law_axis"] ["_law_ladders_here","_law_picks_here"] (Zm Po)) rfl rfl  (Gv (by rfl) T.n12 (Za (Zi (ZL EH EU (by rfl) T.n8 (by rfl) (Za (Zq 0) Ze))) Ze)) (λ_ _ _ _ _ _ _=>(Zn 0 (Cb ["_law_axis","_law_ladders_here","_law_picks_here"]))) (λ_ _ _ _ _ _ _=>Z8) (λ_ _ _ _ _ _ _=>(Zp (Uc T) a T.q37 (Za (Zq 1) (Za (Zq 2) (Za (Zq 0) Ze))))) (by decide))))
   (Zc (FH (i:=4) Mr.nd rfl (Or.inl rfl) (DB Ze))
   (Zc (Z3 Dc rfl (ZX (BZ 1)) (D6 (n:=2) rfl (ZE (Zn 5 Mr.nd) (ZE (Zn 6 Mr.nd) D5)))
   (Zc (ZW (D8 (Aq (ZL (U6 rfl) VC (by rfl) T.n1 (by rfl) (Za (Zi (Cu (Z0 ["_law_axis","_law_value_here"] ["_law_some"] [3] (C3 ["_law_axis","_law_value_here"] ["_law_some"] (Zm Po)) rfl rfl  (He (by rfl) T.n5 (BZ 5)) (λ_ _ _ _ _ _ _=>(D6 (n:=2) rfl (ZE (Zn 0 (Cb ["_law_axis","_law_value_here","_law_some"])) (ZE (Zn 1 (Cb ["_law_axis","_law_value_here","_law_some"])) D5)))) (λ_ _ _ _ _ _ _=>Z8) (λ_ _ _ _ _ _ _=>(M8 a.units (Zl 1) (Aq (Zh (Zl 2) (Zl 0))))) (by decide)))) Ze))))
   (Zc (FI (i:=4) rfl (by first|exact Or.inl rfl|exact Or.inr (Or.inl rfl)) (ZY (Za (Zi (CC 5)) (Za (Zi (CC 6)) Ze))))
   Zg)
   Zg)
   Zg))
   (Zc (J2 4)
   Zg)))))
abbrev cC:List Ae:=["_law_ladders_here","_law_table_here","_law_kept","_law_picks_here","_law_many_here","_law_spot","_law_cell","_law_good","_law_axis","_law_ladder_here","_law_some","_law_there"]
theorem Gh:ZG cC ["_law_ladders_here","_law_table_here","_law_kept","_law_picks_here"] (Zm Ua):=BP
theorem qa(T:Tx K mg d):Az P w K mg base Bh 2 d.a43 d.d43 ["_law_ladders_here","_law_table_here","_law_kept","_law_picks_here"] (Bu K R8):=
 ZR (N:=cC) (g:=Om) T.q43 Gh (λ_ _ _ _ _ _ _ _ a=>(Zc (Zu 4 Gh.nd ZQ)
   (Zc (Z3 Dc rfl (ZX (BZ 1)) (D6 (n:=2) rfl (ZE (Zn 5 Gh.nd) (ZE (Zn 6 Gh.nd) D5)))
   (Zc (Zu 7 Gh.nd EO)
   (Zc (Z3 Dc rfl (He (by rfl) T.n5 (BZ 0)) (D6 (n:=2) rfl (ZE (Zn 8 Gh.nd) (ZE (Zn 9 Gh.nd) D5)))
   (Zc (Zu 10 Gh.nd (Zp (Uc T) a T.q37 (Za (Zq 0) (Za (Zq 3) (Za (Zq 8) Ze)))))
   (Zc (Qo (i:=11) ["_law_value_here"] ["_law_ladder_here","_law_kept","_law_axis"] [9,2,8] (C3 ["_law_value_here"] ["_law_ladder_here","_law_kept","_law_axis"] (Zm Ua)) rfl rfl Gh.nd rfl rfl (ZX (BZ 10)) (λ_ _ _ _ _ _ _=>(Zn 0 (Cb ["_law_value_here","_law_ladder_here","_law_kept","_law_axis"]))) (λ_ _ _ _ _ _ _=>Z8) (λ_ _ _ _ _ _ _=>(Zp (ce T) a T.q29 (Za (Zq 1) (Za (Zq 0) (Za (Zi (Zh (Zl 2) (Zl 3))) Ze))))) (by decide))
   (Zc (Zu 7 Gh.nd (K8 (CC 7) (MO (M8 a.units (Aq (Zh (Zl 5) (Zl 8))) (Zl 11)))))
   Zg))))
   (Zc (Zu 4 Gh.nd (ZD (Zl 4) (Aq (FG Uz VD (by rfl) T.n6 (by rfl) (Za (Zq 7) Ze)))))
   Zg))))
   (Zc (ZB (CC 4))
   Zg))))
abbrev N2:List Ae:=["key"]
theorem S2:ZG N2 ["key"] (Zm TV):=BP
theorem qb(T:Tx K mg d):Az P w K mg base Bh 3 d.a2 d.d2 ["key"] (Bu K L7):=
 ZR (N:=N2) (g:=Sa) T.q2 S2 (λ_ _ _ _ _ _ _ _ a=>(Zc (ZB (FG G1 G7 (by rfl) T.n16 (by rfl) (Za (Zi (Cu (Z0 ["thing"] [] [] (C3 ["thing"] [] (Zm TV)) rfl rfl  (ZX (BZ 0)) (λ_ _ _ _ _ _ _=>(Zn 0 (Cb ["thing"]))) (λ_ _ _ _ _ _ _=>Z8) (λ_ _ _ _ _ _ _=>(Zp (pT T) a T.q1 (Za (Zq 0) Ze))) (by decide)))) Ze)))
   Zg))
abbrev cD:List Ae:=["ladder","kept_level","level","chosen","asked","firsts","line","first"]
theorem Ms:ZG cD ["ladder","kept_level","level","chosen"] (Zm bC):=BP
theorem qc(T:Tx K mg d):Az P w K mg base Bh 3 d.a11 d.d11 ["ladder","kept_level","level","chosen"] (Bu K L8):=
 ZR (N:=cD) (g:=XF) T.q11 Ms (λ_ _ _ _ _ _ _ _ a=>(Zc (Zu 4 Ms.nd (Zp (pV T) a T.q10 (Za (Zq 0) (Za (Zq 2) (Za (Zq 3) Ze)))))
   (Zc (Le (i:=5) Ms.nd rfl (Or.inl rfl) QM)
   (Zc (Z3 Dc rfl (ZX (BZ 0)) (Zn 6 Ms.nd)
   (Zc (jM (i:=7) Ms.nd rfl (Or.inl rfl) (jL (i:=5) a.units (Aq (Zp (Mn T) a T.q5 (Za (Zq 6) (Za (Zq 1) Ze)))) (Zh (Zl 6) Zs)))
   (Zc (ZW (J3 a.units (Aq (Ke a.units (Zl 4) (Zl 7) (λ_ _=>rfl))) (Aq (Ke a.units (Zl 4) (Aq (Zh (Zl 6) Zs)) (λ_ _=>rfl))))
   (Zc (ZB (ZY (Za (Zi (CC 7)) (Za (Zi (Zh (Zl 6) Zs)) Ze))))
   Zg)
   Zg)
   Zg)))
   (Zc (ZB E4)
   Zg)))))
abbrev cE:List Ae:=["_law_cell","_law_many_here","_law_places","_law_s","_law_widths","_law_j","_law_lines","_law_k","_law_at","_law_line","_law_near"]
theorem Gi:ZG cE ["_law_cell","_law_many_here","_law_places"] (Zm bL):=BP
theorem qd(T:Tx K mg d):Az P w K mg base Bh 3 d.a25 d.d25 ["_law_cell","_law_many_here","_law_places"] (Bu K L9):=
 ZR (N:=cE) (g:=XV) T.q25 Gi (λ_ _ _ _ _ _ _ _ a=>(Zc (Zu 3 Gi.nd (Zp (Pr T) a T.q22 (Za (Zq 0) (Za (Zq 2) Ze))))
   (Zc (FH (i:=4) Gi.nd rfl (Or.inl rfl) (DB (Za (Zi ZQ) Ze)))
   (Zc (Z3 Dc rfl (iu (by rfl) T.n12 (Za (Zi ZQ) (Za (Zi ZQ) Ze))) (Zn 5 Gi.nd)
   (Zc (FI (i:=4) rfl (by first|exact Or.inl rfl|exact Or.inr (Or.inl rfl)) (Zh (Aq (Cu (DB (Za (Zi (ZD Zs (Aq (ZN (Aq (Zh (Zl 3) (Zl 5))) Zs)))) (Za (Zi (ZD Zs (Aq (ZN (Aq (Zh (Zl 3) (Zl 5))) Zs)))) (Za (Zi ZQ) (Za (Zi ZQ) Ze))))))) (Aq (ZN (Aq (Fq (Aq (Zh (Zl 3) (Zl 5))) Zs)) Zs))))
   Zg))
   (Zc (FH (i:=6) Gi.nd rfl (Or.inl rfl) (DB Ze))
   (Zc (Z3 Dc rfl (Gv (by rfl) T.n12 (Za (Zi (CC 1)) Ze)) (Zn 7 Gi.nd)
   (Zc (Zu 8 Gi.nd (ZN (Aq (ZD (Aq (Gw (Zl 7) (Aq (ZD Zs (Aq (ZN (Aq (Zh (Zl 3) Zs)) Zs)))))) (Aq (Zh (Zl 3) Zs)))) Zs))
   (Zc (FH (i:=9) Gi.nd rfl (Or.inl rfl) (DB Ze))
   (Zc (Z3 Dc rfl (Gv (by rfl) T.n12 (Za (Zi (CC 2)) Ze)) (Zn 5 Gi.nd)
   (Zc (ZW (VR a.units (Zl 5) Zs)
   (Zc (Zu 8 Gi.nd (ZN (Aq (ZD (Aq (Gw (Zl 8) (Aq (ZD Zs (Aq (ZN (Aq (Zh (Zl 3) (Aq (ZD Zs (Zl 5))))) Zs)))))) (Aq (Zh (Zl 3) (Aq (ZD Zs (Zl 5))))))) (Aq (Zh (Zl 4) (Zl 5)))))
   Zg)
   Zg)
   (Zc (Zu 10 Gi.nd (ZD (Zl 0) (Aq (Gw (Aq (Gw (Zl 5) (Aq (ZN (Aq (Zh (Zl 3) Zs)) Zs)))) Zs))))
   (Zc (FI (i:=9) rfl (by first|exact Or.inl rfl|exact Or.inr (Or.inl rfl)) (Zp (pY T) a T.q24 (Za (Zi (ZN (Aq (Zh (Zl 3) (Aq (ZD Zs (Zl 5))))) Zs)) (Za (Zq 10) (Za (Zq 8) Ze)))))
   Zg))))
   (Zc (FI (i:=6) rfl (by first|exact Or.inl rfl|exact Or.inr (Or.inl rfl)) (FG G1 G7 (by rfl) T.n16 (by rfl) (Za (Zq 9) Ze)))
   Zg)))))
   (Zc (J2 6)
   Zg)))))))
abbrev cF:List Ae:=["_law_script","_law_ladders_here","_law_head","_law_cells"]
theorem Ue:ZG cF ["_law_script","_law_ladders_here"] (Zm Pp):=BP
theorem qe(T:Tx K mg d):Az P w K mg base Bh 3 d.a41 d.d41 ["_law_script","_law_ladders_here"] (Bu K Si):=
 ZR (N:=cF) (g:=Oq) T.q41 Ue (λ_ _ _ _ _ _ _ _ a=>(Zc (Zu 2 Ue.nd (Zp (Ii T) a T.q21 (Za (Zq 0) (Za (Zi ZQ) Ze))))
   (Zc (Zu 3 Ue.nd (ZD (Aq (Lj (Zl 0) (IF Zs) (IF Zs))) (Aq (Cu (Z0 ["_law_k"] ["_law_head"] [2] (C3 ["_law_k"] ["_law_head"] (Zm Pp)) rfl rfl  (Gv (by rfl) T.n12 (Za (Zi (ZN (Zl 2) Zs)) Ze)) (λ_ _ _ _ _ _ _=>(Zn 0 (Cb ["_law_k","_law_head"]))) (λ_ _ _ _ _ _ _=>Z8) (λ_ _ _ _ _ _ _=>(ZD (Aq (Fq (Zl 1) Zs)) (Aq (Gw Zs (Zl 0))))) (by decide))))))
   (Zc (Gu (Z0 ["_law_k","_law_cell"] ["_law_ladders_here"] [1] (C3 ["_law_k","_law_cell"] ["_law_ladders_here"] (Zm Pp)) rfl rfl  (He (by rfl) T.n5 (BZ 3)) (λ_ _ _ _ _ _ _=>(D6 (n:=2) rfl (ZE (Zn 0 (Cb ["_law_k","_law_cell","_law_ladders_here"])) (ZE (Zn 1 (Cb ["_law_k","_law_cell","_law_ladders_here"])) D5)))) (λ_ _ _ _ _ _ _=>Z8) (λ_ _ _ _ _ _ _=>(Zp (pZ T) a T.q27 (Za (Zq 1) (Za (Zq 0) (Za (Zq 2) Ze))))) (by decide)))
   Zg))))
abbrev cG:List Ae:=["_law_script","_law_cell","_law_ladders_here","_law_k","_law_s"]
theorem Mt:ZG cG ["_law_script"] (Zm bM):=BP
theorem qf(T:Tx K mg d):Az P w K mg base Bh 4 d.a26 d.d26 ["_law_script"] (Bu K Sj):=
 ZR (N:=cG) (g:=Ou) T.q26 Mt (λ_ _ _ _ _ _ _ _ a=>(Zc (Zu 1 Mt.nd (Zp (Ii T) a T.q21 (Za (Zq 0) (Za (Zi ZQ) Ze))))
   (Zc (FH (i:=2) Mt.nd rfl (Or.inl rfl) (DB Ze))
   (Zc (Z3 Dc rfl (Gv (by rfl) T.n12 (Za (Zi (ZD (Aq (ZD Zs (Aq (ZN (Zl 1) Zs)))) (Aq (FG Uz VD (by rfl) T.n6 (by rfl) (Za (Zi (M7 a.units (Aq (ZN (Zl 1) Zs)) Zs)) Ze))))) Ze)) (Zn 3 Mt.nd)
   (Zc (Zu 4 Mt.nd (Zp (Pr T) a T.q22 (Za (Zi (Zp (Ii T) a T.q21 (Za (Zq 0) (Za (Zi (ZD Zs (Zl 3))) Ze)))) (Za (Zq 3) Ze))))
   (Zc (FI (i:=2) rfl (by first|exact Or.inl rfl|exact Or.inr (Or.inl rfl)) (Zp (qd T) a T.q25 (Za (Zi (Zp (Ii T) a T.q21 (Za (Zq 0) (Za (Zi (ZD Zs (Zl 3))) Ze)))) (Za (Zi (ZD Zs (Aq (ZN (Aq (Zh (Zl 4) Zs)) Zs)))) (Za (Zi (ZD Zs (Aq (ZN (Aq (Zh (Zl 4) Zs)) Zs)))) Ze)))))
   Zg)))
   (Zc (J2 2)
   Zg)))))
abbrev cH:List Ae:=["_law_ladders_here","_law_rows_here","_law_grain_here","_law_amounts","_law_spot","_law_amount","_law_far"]
theorem Mu:ZG cH ["_law_ladders_here","_law_rows_here","_law_grain_here"] (Zm T7):=BP
theorem cI(T:Tx K mg d):Az P w K mg base Bh 5 d.a33 d.d33 ["_law_ladders_here","_law_rows_here","_law_grain_here"] (Bu K Ow):=
 ZR (N:=cH) (g:=Ov) T.q33 Mu (λ_ _ _ _ _ _ _ _ a=>(Zc (Le (i:=3) Mu.nd rfl (Or.inr rfl) QM)
   (Zc (Z3 Dc rfl (ZX (BZ 1)) (D6 (n:=2) rfl (ZE (Zn 4 Mu.nd) (ZE (Zn 5 Mu.nd) D5)))
   (Zc (Zu 6 Mu.nd (Zp (p4 T) a T.q30 (Za (Zq 0) (Za (Zq 4) (Za (Zq 2) Ze)))))
   (Zc (QN (i:=3) a.units (Zl 6) (ZD (Aq (k8 (i:=3) a.units (Zl 6) (Cu (DB Ze)))) (Aq (Cu (DB (Za (Zi (CC 5)) Ze))))))
   Zg)))
   (Zc (Gu (Z0 ["_law_spot"] ["_law_amounts"] [3] (C3 ["_law_spot"] ["_law_amounts"] (Zm T7)) rfl rfl  (ZX (ID (Cu (lE rfl (p6 T) (a.mono (by decide)) (by rfl) T.n13 (by rfl) (by rfl) T.q31.m T.q31.b (Zl 3))))) (λ_ _ _ _ _ _ _=>(Zn 0 (Cb ["_law_spot","_law_amounts"]))) (λ_ _ _ _ _ _ _=>Z8) (λ_ _ _ _ _ _ _=>(ZY (Za (Zi (CC 0)) (Za (Zi (Zp (pP T) a T.q32 (Za (Zi (Ke a.units (Zl 1) (Zl 0) (λ_ _=>rfl))) Ze))) Ze)))) (by decide)))
   Zg))))
abbrev N3:List Ae:=["keys","told","key"]
theorem S3:ZG N3 ["keys"] (Zm bw):=BP
theorem cJ(T:Tx K mg d):Az P w K mg base Bh 6 d.a3 d.d3 ["keys"] (Bu K Oy):=
 ZR (N:=N3) (g:=Ox) T.q3 S3 (λ_ _ _ _ _ _ _ _ a=>(Zc (FH (i:=1) S3.nd rfl (Or.inl rfl) (DB Ze))
   (Zc (Z3 Dc rfl (ZX (ID (Cu (kh (qb T) (a.mono (by decide)) (by rfl) T.n13 (by rfl) (by rfl) T.q2.m T.q2.b (Zl 0))))) (Zn 2 S3.nd)
   (Zc (ZW (HI (JD (HC (D8 (Zl 1))) (K7 (J3 a.units (Aq (Zh (Zl 1) (Aq (Vm Zs)))) (Zl 2)))))
   (Zc (FI (i:=1) rfl (by first|exact Or.inl rfl|exact Or.inr (Or.inl rfl)) (CC 2))
   Zg)
   Zg)
   Zg))
   (Zc (J2 1)
   Zg))))
abbrev N6:List Ae:=["values"]
theorem S6:ZG N6 ["values"] (Zm Pm):=BP
theorem qg(T:Tx K mg d):Az P w K mg base Bh 7 d.a6 d.d6 ["values"] (Bu K Sq):=
 ZR (N:=N6) (g:=Oz) T.q6 S6 (λ_ _ _ _ _ _ _ _ a=>(Zc (Gu (Z0 ["key"] [] [] (C3 ["key"] [] (Zm Pm)) rfl rfl  (ZX (ID (Zp (cJ T) a T.q3 (Za (Zi (Cu (Z0 ["value"] [] [] (C3 ["value"] [] (Zm Pm)) rfl rfl  (ZX (BZ 0)) (λ_ _ _ _ _ _ _=>(Zn 0 (Cb ["value"]))) (λ_ _ _ _ _ _ _=>Z8) (λ_ _ _ _ _ _ _=>(ZY (Za (Zi (CC 0)) Ze))) (by decide)))) Ze)))) (λ_ _ _ _ _ _ _=>(Zn 0 (Cb ["key"]))) (λ_ _ _ _ _ _ _=>Z8) (λ_ _ _ _ _ _ _=>(Zh (Zl 0) Zs)) (by decide)))
   Zg))
abbrev cK:List Ae:=["ways","table","cells","key","cell","there"]
theorem Mv:ZG cK ["ways","table"] (Zm Pn):=BP
theorem qh(T:Tx K mg d):Az P w K mg base Bh 7 d.a15 d.d15 ["ways","table"] (Bu K Ss):=
 ZR (N:=cK) (g:=OA) T.q15 Mv (λ_ _ _ _ _ _ _ _ a=>(Zc (Le (i:=2) Mv.nd rfl (Or.inr rfl) QM)
   (Zc (Z3 Dc rfl (ZX (BZ 1)) (D6 (n:=2) rfl (ZE (Zn 3 Mv.nd) (ZE (Zn 4 Mv.nd) D5)))
   (Zc (ZW (D8 (Aq (Zp (bX T) a T.q14 (Za (Zq 0) (Za (Zq 3) Ze)))))
   (Zc (Zu 5 Mv.nd (FG G1 G7 (by rfl) T.n16 (by rfl) (Za (Zi (Cu (Z0 ["way","value"] [] [] (C3 ["way","value"] [] (Zm Pn)) rfl rfl  (Q8 (by rfl) T.n17 (BZ 0) (BZ 3)) (λ_ _ _ _ _ _ _=>(D6 (n:=2) rfl (ZE (Zn 0 (Cb ["way","value"])) (ZE (Zn 1 (Cb ["way","value"])) D5)))) (λ_ _ _ _ _ _ _=>Z8) (λ_ _ _ _ _ _ _=>(Ke a.units (Zl 0) (Zl 1) (λ_ _=>rfl))) (by decide)))) Ze)))
   (Zc (QN (i:=2) a.units (Zl 5) (Va (Wj a.units (Zl 5) (Zl 2)) (Zp (pJ T) a T.q13 (Za (Zi (Ke a.units (Zl 2) (Zl 5) (λ_ _=>rfl))) (Za (Zq 4) Ze))) (CC 4)))
   Zg))
   Zg)
   Zg))
   (Zc (Gu (Z0 ["key"] ["cells"] [2] (C3 ["key"] ["cells"] (Zm Pn)) rfl rfl  (ZX (ID (Zp (cJ T) a T.q3 (Za (Zi (Cu (Qh (lz rfl) lB (by rfl) T.n9 (by rfl) (Za (Zq 2) Ze)))) Ze)))) (λ_ _ _ _ _ _ _=>(Zn 0 (Cb ["key","cells"]))) (λ_ _ _ _ _ _ _=>Z8) (λ_ _ _ _ _ _ _=>(ZY (Za (Zi (CC 0)) (Za (Zi (Ke a.units (Zl 1) (Zl 0) (λ_ _=>rfl))) Ze)))) (by decide)))
   Zg))))
abbrev N8:List Ae:=["ladders","picks","axis","lines","pick","among"]
theorem S8:ZG N8 ["ladders","picks","axis"] (Zm Mm):=BP
theorem qi(T:Tx K mg d):Az P w K mg base Bh 8 d.a8 d.d8 ["ladders","picks","axis"] (Bu K Sx):=
 ZR (N:=N8) (g:=OB) T.q8 S8 (λ_ _ _ _ _ _ _ _ a=>(Zc (Zu 3 S8.nd (Zh (Zl 0) (Zl 2)))
   (Zc (Z3 Dc rfl (ZX (BZ 1)) (Zn 4 S8.nd)
   (Zc (ZW (G9 a.units (Aq (Zh (Zl 4) Zs)) (Zl 2))
   (Zc (Le (i:=5) S8.nd rfl (Or.inr rfl) (QU rfl a.units (by rfl) T.n4 (Aq (Cu (Z0 ["value"] [] [] (C3 ["value"] [] (Zm Mm)) rfl rfl  (ZX (ID (Zh (Zl 4) Zs))) (λ_ _ _ _ _ _ _=>(Zn 0 (Cb ["value"]))) (λ_ _ _ _ _ _ _=>Z8) (λ_ _ _ _ _ _ _=>(ZY (Za (Zi (CC 0)) (Za (Zi EO) Ze)))) (by decide))))))
   (Zc (Qo (i:=3) ["line"] ["pick","among"] [4,5] (C3 ["line"] ["pick","among"] (Zm Mm)) rfl rfl S8.nd rfl rfl (ZX (BZ 3)) (λ_ _ _ _ _ _ _=>(Zn 0 (Cb ["line","pick","among"]))) (λ_ _ _ _ _ _ _=>(Qn (Wj a.units (Aq (Zp (Mn T) a T.q5 (Za (Zq 0) (Za (Zi (Zh (Zl 1) Zs)) Ze)))) (Zl 2)))) (λ_ _ _ _ _ _ _=>(CC 0)) (by decide))
   Zg))
   Zg)
   Zg))
   (Zc (Gu (Q9 (qg T) a T.q6 (Za (Zi (Cu (Z0 ["line"] [] [] (C3 ["line"] [] (Zm Mm)) rfl rfl  (ZX (BZ 3)) (λ_ _ _ _ _ _ _=>(Zn 0 (Cb ["line"]))) (λ_ _ _ _ _ _ _=>Z8) (λ_ _ _ _ _ _ _=>(Zh (Zl 0) Zs)) (by decide)))) Ze)))
   Zg))))
abbrev N9:List Ae:=["ladders","picks"]
theorem S9:ZG N9 ["ladders","picks"] (Zm TX):=BP
theorem cL(T:Tx K mg d):Az P w K mg base Bh 9 d.a9 d.d9 ["ladders","picks"] (Bu K Md):=
 ZR (N:=N9) (g:=Kr) T.q9 S9 (λ_ _ _ _ _ _ _ _ a=>(Zc (Gu (Z0 ["axis"] ["ladders","picks"] [0,1] (C3 ["axis"] ["ladders","picks"] (Zm TX)) rfl rfl  (Gv (by rfl) T.n12 (Za (Zi (ZL EH EU (by rfl) T.n8 (by rfl) (Za (Zq 0) Ze))) Ze)) (λ_ _ _ _ _ _ _=>(Zn 0 (Cb ["axis","ladders","picks"]))) (λ_ _ _ _ _ _ _=>Z8) (λ_ _ _ _ _ _ _=>(Zp (qi T) a T.q8 (Za (Zq 1) (Za (Zq 2) (Za (Zq 0) Ze))))) (by decide)))
   Zg))
abbrev cM:List Ae:=["ladders","kept","grain","picks","chosen","axis","ladder","two"]
theorem Mw:ZG cM ["ladders","kept","grain","picks"] (Zm bD):=BP
theorem cN(T:Tx K mg d):Az P w K mg base Bh 10 d.a12 d.d12 ["ladders","kept","grain","picks"] (Bu K GJ):=
 ZR (N:=cM) (g:=X8) T.q12 Mw (λ_ _ _ _ _ _ _ _ a=>(Zc (Zu 4 Mw.nd (Zp (cL T) a T.q9 (Za (Zq 0) (Za (Zq 3) Ze))))
   (Zc (ZW (Lq a.units (Aq (Cu (DB Ze))) (Zl 4))
   (Zc (ZB E4)
   Zg)
   Zg)
   (Zc (Z3 Dc rfl (He (by rfl) T.n5 (BZ 0)) (D6 (n:=2) rfl (ZE (Zn 5 Mw.nd) (ZE (Zn 6 Mw.nd) D5)))
   (Zc (Zu 7 Mw.nd (Zp (qc T) a T.q11 (Za (Zq 6) (Za (Zi (Zh (Zl 1) (Zl 5))) (Za (Zi (Zh (Zl 2) (Zl 5))) (Za (Zi (Zh (Zl 4) (Zl 5))) Ze))))))
   (Zc (ZW (Qf (Zl 7))
   (Zc (ZB (ZY (Za (Zi (CC 5)) (Za (Zi (Zh (Zl 7) Zs)) (Za (Zi (Zh (Zl 7) Zs)) Ze)))))
   Zg)
   Zg)
   Zg)))
   (Zc (ZB E4)
   Zg)))))
abbrev cO:List Ae:=["ladders","kept","grain","picks","chosen"]
theorem cP:ZG cO ["ladders","kept","grain","picks"] (Zm T1):=BP
theorem cQ(T:Tx K mg d):Az P w K mg base Bh 10 d.a17 d.d17 ["ladders","kept","grain","picks"] (Bu K OH):=
 ZR (N:=cO) (g:=OG) T.q17 cP (λ_ _ _ _ _ _ _ _ a=>(Zc (Zu 4 cP.nd (Zp (cL T) a T.q9 (Za (Zq 0) (Za (Zq 3) Ze))))
   (Zc (Gu (Z0 ["axis","ladder"] ["kept","grain","chosen"] [1,2,4] (C3 ["axis","ladder"] ["kept","grain","chosen"] (Zm T1)) rfl rfl  (He (by rfl) T.n5 (BZ 0)) (λ_ _ _ _ _ _ _=>(D6 (n:=2) rfl (ZE (Zn 0 (Cb ["axis","ladder","kept","grain","chosen"])) (ZE (Zn 1 (Cb ["axis","ladder","kept","grain","chosen"])) D5)))) (λ_ _ _ _ _ _ _=>Z8) (λ_ _ _ _ _ _ _=>(Zp (pX T) a T.q16 (Za (Zq 1) (Za (Zi (Zh (Zl 2) (Zl 0))) (Za (Zi (Zh (Zl 3) (Zl 0))) (Za (Zi (Zh (Zl 4) (Zl 0))) Ze)))))) (by decide)))
   Zg)))
abbrev cR:List Ae:=["ladders","table","kept","grain","picks"]
theorem cS:ZG cR ["ladders","table","kept","grain","picks"] (Zm bF):=BP
theorem cU(T:Tx K mg d):Az P w K mg base Bh 11 d.a18 d.d18 ["ladders","table","kept","grain","picks"] (Bu K OJ):=
 ZR (N:=cR) (g:=OI) T.q18 cS (λ_ _ _ _ _ _ _ _ a=>(Zc (ZW (Qf (Aq (Zp (cN T) a T.q12 (Za (Zq 0) (Za (Zq 2) (Za (Zq 3) (Za (Zq 4) Ze)))))))
   (Zc ky
   Zg)
   Zg)
   (Zc (Gu (Q9 (qh T) a T.q15 (Za (Zi (Zp (cQ T) a T.q17 (Za (Zq 0) (Za (Zq 2) (Za (Zq 3) (Za (Zq 4) Ze)))))) (Za (Zq 1) Ze))))
   Zg)))
theorem qj(T:Tx K mg d):Az P w K mg base (Nq P w) 11 d.a18 d.d18 ["ladders","table","kept","grain","picks"] (LM K SE):=
 by
 refine kQ (N:=["ladders","table","kept","grain","picks"]) (ps:=["ladders","table","kept","grain","picks"]) T.q18.F cS (by decide) (h:=OL) (λa A outer s H E M e b=>?_)
 refine kW (WP (kN Nt (Qf (Aq (Zp (cN T) b T.q12 (Za (Zq 0) (Za (Zq 2) (Za (Zq 3) (Za (Zq 4) Ze)))))))
   (WP (XT.s (kP Nt rfl rfl T.k_NoGrain T.q_NoGrain (by rfl) T.m_NoGrain (Za (Zi HB) Ze))))
   kX)) ?_
 rfl
abbrev cV:List Ae:=["ladders","table","kept","picks","ways"]
theorem cW:ZG cV ["ladders","table","kept","picks"] (Zm T2):=BP
theorem qk(T:Tx K mg d):Az P w K mg base Bh 11 d.a19 d.d19 ["ladders","table","kept","picks"] (Bu K SI):=
 ZR (N:=cV) (g:=OM) T.q19 cW (λ_ _ _ _ _ _ _ _ a=>(Zc (Zu 4 cW.nd (Zp (cQ T) a T.q17 (Za (Zq 0) (Za (Zq 2) (Za (Zi (Zp (pU T) a T.q7 (Za (Zq 0) Ze))) (Za (Zq 3) Ze))))))
   (Zc (Gu (Z0 ["key","cell"] ["ways"] [4] (C3 ["key","cell"] ["ways"] (Zm T2)) rfl rfl  (ZX (BZ 1)) (λ_ _ _ _ _ _ _=>(D6 (n:=2) rfl (ZE (Zn 0 (Cb ["key","cell","ways"])) (ZE (Zn 1 (Cb ["key","cell","ways"])) D5)))) (λ_ _ _ _ _ _ _=>(Qn (D8 (Aq (Zp (bX T) a T.q14 (Za (Zq 2) (Za (Zq 0) Ze))))))) (λ_ _ _ _ _ _ _=>(ZY (Za (Zi (CC 0)) (Za (Zi (CC 1)) Ze)))) (by decide)))
   Zg)))
abbrev cX:List Ae:=["ladders","table","kept","picks"]
theorem ql:ZG cX ["ladders","table","kept","picks"] (Zm bG):=BP
theorem qm(T:Tx K mg d):Az P w K mg base Bh 12 d.a20 d.d20 ["ladders","table","kept","picks"] (Bu K SJ):=
 ZR (N:=cX) (g:=ON) T.q20 ql (λ_ _ _ _ _ _ _ _ a=>(Zc (ZB (ZL EH EU (by rfl) T.n8 (by rfl) (Za (Zi (Zp (qk T) a T.q19 (Za (Zq 0) (Za (Zq 1) (Za (Zq 2) (Za (Zq 3) Ze)))))) Ze)))
   Zg))
abbrev cY:List Ae:=["_law_ladders_here","_law_table_here","_law_kept","_law_grain_here","_law_picks_here","e"]
theorem cZ:ZG cY ["_law_ladders_here","_law_table_here","_law_kept","_law_grain_here","_law_picks_here"] (Zm bU):=BP
theorem qo(T:Tx K mg d):Az P w K mg base Bh 12 d.a42 d.d42 ["_law_ladders_here","_law_table_here","_law_kept","_law_grain_here","_law_picks_here"] (Bu K SN):=
 ZR (N:=cY) (g:=OO) T.q42 cZ (λ_ _ _ _ _ _ _ _ a=>(Zc (kR 5 CS Nt rfl rfl rfl (kM (kO Nt rfl (qj T) (a.mono (by decide)) (by rfl) T.q18.m T.q18.F.kp T.q18.b (Za (Zq 0) (Za (Zq 1) (Za (Zq 2) (Za (Zq 3) (Za (Zq 4) Ze))))))) (lQ (Zp (cU T) a T.q18 (Za (Zq 0) (Za (Zq 1) (Za (Zq 2) (Za (Zq 3) (Za (Zq 4) Ze))))))) T.m_CubeError (by rfl) (pC T) cZ.nd rfl rfl (λx e c=>(Zc (ZB (K8 (Q0 5 CS (EX "NoGrain") rfl rfl (Or.inl rfl) (My (v:=.ref d.a_NoGrain) (by rfl) T.m_NoGrain rfl) (λu z=>z) (pD T) (by rfl) T.n7 (by rfl)) (K8 (Q0 5 CS (EX "ValueError") rfl rfl (Or.inl rfl) (Ui (v:=.ty "ValueError") (by rfl) T.n0 (by rfl) rfl) (λu z=>z) (pF T) (by rfl) T.n7 (by rfl)) (MO (Qe (Q0 5 CS (EX "NoPick") rfl rfl (Or.inl rfl) (My (v:=.ref d.a_NoPick) (by rfl) T.m_NoPick rfl) (λu z=>z) (pE T) (by rfl) T.n7 (by rfl)))))))
   Zg)))
   (Zc (ZB EO)
   Zg)))
abbrev c0:List Ae:=["_law_script","_law_ladders_here","_law_rows_here","_law_kept","_law_grain_here","_law_picks_here","_law_table_here","_law_handed","_law_found","_law_left","_law_many_here"]
theorem FS:ZG c0 ["_law_script"] (Zm Ub):=BP
theorem qp(T:Tx K mg d):Az P w K mg base Bh 13 d.a44 d.d44 ["_law_script"] (Bu K YC):=
 ZR (N:=c0) (g:=YB) T.q44 FS (λ_ _ _ _ _ _ _ _ a=>(Zc (Zu 1 FS.nd (Zp (qf T) a T.q26 (Za (Zq 0) Ze)))
   (Zc (Zu 2 FS.nd (Zp (qe T) a T.q41 (Za (Zq 0) (Za (Zq 1) Ze))))
   (Zc (Zu 3 FS.nd (Zp (cj T) a T.q34 (Za (Zi (Zp (Ii T) a T.q21 (Za (Zq 0) (Za (Zi ZQ) Ze)))) (Za (Zq 1) Ze))))
   (Zc (Zu 4 FS.nd (Zp (cj T) a T.q34 (Za (Zi (Zp (Ii T) a T.q21 (Za (Zq 0) (Za (Zi ZQ) Ze)))) (Za (Zq 1) Ze))))
   (Zc (ZW (VR a.units (Aq (ZN (Aq (Fq (Aq (Zp (Ii T) a T.q21 (Za (Zq 0) (Za (Zi ZQ) Ze)))) Zs)) Zs)) Zs)
   (Zc (Zu 3 FS.nd (FG G1 G7 (by rfl) T.n16 (by rfl) (Za (Zi (Cu (Z0 ["_law_pair"] [] [] (C3 ["_law_pair"] [] (Zm Ub)) rfl rfl  (Q8 (by rfl) T.n17 (BZ 3) (BZ 4)) (λ_ _ _ _ _ _ _=>(Zn 0 (Cb ["_law_pair"]))) (λ_ _ _ _ _ _ _=>Z8) (λ_ _ _ _ _ _ _=>(ZL (lO rfl) lP (by rfl) T.n11 (by rfl) (Za (Zq 0) Ze))) (by decide)))) Ze)))
   Zg)
   Zg)
   (Zc (Zu 5 FS.nd (Zp (p7 T) a T.q36 (Za (Zi (Lj (Zl 0) (IF Zs) (IF (Aq (ZD Zs (Aq (ZN (Aq (Zp (Ii T) a T.q21 (Za (Zq 0) (Za (Zi ZQ) Ze)))) Zs))))))) (Za (Zq 1) Ze))))
   (Zc (Zu 6 FS.nd (Zp (cI T) a T.q33 (Za (Zq 1) (Za (Zq 2) (Za (Zq 3) Ze)))))
   (Zc (Zu 7 FS.nd (Cu (DB (Za (Zi (Cu (Qh UY VB (by rfl) T.n9 (by rfl) (Za (Zq 6) Ze)))) (Za (Zi (Cu (Qh UY VB (by rfl) T.n9 (by rfl) (Za (Zq 5) Ze)))) Ze)))))
   (Zc (ZW (D8 (Aq (Zp (p8 T) a T.q38 (Za (Zq 1) (Za (Zq 3) (Za (Zq 4) (Za (Zq 5) Ze)))))))
   (Zc (ZB (Zp (qo T) a T.q42 (Za (Zq 1) (Za (Zi (Zh (Zl 7) Zs)) (Za (Zq 3) (Za (Zq 4) (Za (Zi (Zh (Zl 7) Zs)) Ze)))))))
   Zg)
   Zg)
   (Zc (FH (i:=8) FS.nd rfl (Or.inl rfl) (Q9 (cU T) a T.q18 (Za (Zq 1) (Za (Zi (Zh (Zl 7) Zs)) (Za (Zq 3) (Za (Zq 4) (Za (Zi (Zh (Zl 7) Zs)) Ze)))))))
   (Zc (Zu 9 FS.nd (Zp (p9 T) a T.q39 (Za (Zq 1) (Za (Zq 2) (Za (Zq 5) Ze)))))
   (Zc (ZW (HI (JD (HC (D8 (Aq (Zp (pQ T) a T.q35 (Za (Zq 8) Ze))))) (K7 (J3 a.units (Zl 8) (Aq (Zp (cI T) a T.q33 (Za (Zq 1) (Za (Zq 9) (Za (Zq 4) Ze)))))))))
   (Zc (ZB EO)
   Zg)
   Zg)
   (Zc (kY (i:=8))
   (Zc (Zu 10 FS.nd (Zp (qm T) a T.q20 (Za (Zq 1) (Za (Zi (Zh (Zl 7) Zs)) (Za (Zq 3) (Za (Zi (Zh (Zl 7) Zs)) Ze))))))
   (Zc (ZW (HI (JD (HC (D8 (Aq (Zp (pS T) a T.q40 (Za (Zq 10) Ze))))) (K7 (J3 a.units (Zl 7) (Aq (Cu (DB (Za (Zi (CC 6)) (Za (Zi (CC 5)) Ze)))))))))
   (Zc (ZB EO)
   Zg)
   Zg)
   (Zc (ZB (M7 a.units (Zl 10) (Aq (Zp (qa T) a T.q43 (Za (Zq 1) (Za (Zq 6) (Za (Zq 3) (Za (Zq 5) Ze))))))))
   Zg)))))))))))))))))
end
theorem fin{l:PySem.W.OpenLaw}{w:Aj}{K:As}{h:Al}{mg:Ae->Option Aa}{b:Ac}(_:K.In h)(a:mg "law"=some (.ref b)):(∃d,Tx K mg d)->∃fd:Bi,(∀(s:Ab)(v:Aa),BindsTo s fd ⟨[v],[]⟩ [("_law_script",v)])/\∀base:Al,K.In base->base.Ns C5 mg->Az l.prog w K mg base Bh 13 b fd ["_law_script"] (K5 K):=
 λ⟨_,T⟩=>lV a T.q44 (λ_=>qp T) pB λ_ _ _ _ _ _ _=>rfl
theorem walk{l:PySem.W.OpenLaw}{q:A4}{b:List Ae}{i:(Ae->Option Aa)->Al->Prop}{e:Aj->Al->Prop}{d:DefRec}{K:Params->As}(j:l.most=some 63)(c:d.params.defaults=[])
  (m:∀(w:Aj) (h:Al),e w h->(K w.params).In h)
  (F:∀(w:Aj) (mg:Ae->Option Aa) (g:Ac) (h:Al),(K w.params).In h->h.Ns C5 mg->mg d.name=some (.ref g) ->
   ∃fd:Bi,(∀(s:Ab) (u:Aa),BindsTo s fd ⟨[u],[]⟩ [("_law_script",u)])/\∀base:Al,(K w.params).In base->base.Ns C5 mg->Az l.prog w (K w.params) mg base Bh 13 g fd ["_law_script"] (K5 (K w.params))):
  PySem.W.WalkO q b i e l.row.toRowW d [] (λf vs=>PySem.call f vs):=
 L2.walk_of (n:=63) (k:=13) (x:="_law_script") (CX:=λ_=>Bh) (sp:=λw=>K5 (K w.params)) j (by decide) c ⟨rfl,by decide,by decide⟩ m F (λ_ _ a o p _ r=>⟨a,o,rfl,r,p,λ_=>rfl⟩) λ_ _ _ _ _ z=>z
end K35
end
namespace PySem.W.Fast
def tw8631305872048404770:=()
def tw7829230522272079686:=()
def tw3274649683241856775:=()
def tw8533168745482004492:=()
def tw8571086414326538490:=()
def tw8567035947230242846:=()
def tw11411585453404956215:=()
def tw14471148126792992574:=()
def tw14657607734847748925:=()
def tw8318526738242181081:=()
def tw18234259006145135945:=()
def tw7522617323931363554:=()
def tw10204977462678319838:=()
def tw4384826493610295677:=()
def tw9685933730647681567:=()
def tw17296689194074488478:=()
def tw15660139105804148591:=()
def tw9908869486554225163:=()
def tw17594169235530495304:=()
def tw1182257472799385517:=()
def tw7723917413276547763:=()
def tw13974623386164520177:=()
def tw783348200646013771:=()
def tw13016062680083428166:=()
def tw1733562134183320033:=()
def tw2976186918333348122:=()
def tw16105272277358234586:=()
def tw1053513558929077493:=()
def tw13259971239732668301:=()
def tw8058224870183513191:=()
def tw9507393455740206856:=()
def tw3299929294779140974:=()
def tw559862304151290152:=()
def tw13270098258344253636:=()
def tw10159302014866676320:=()
def tw4512844774224144970:=()
def tw17539942762809720610:=()
def tw6391982784404906468:=()
def tw10359806358252984513:=()
def tw15062213506900196146:=()
def tw15694836802587500786:=()
def tw13800565530962719257:=()
def tw2181671740504907800:=()
def tw4619065818462483429:=()
def tw15865950696687543867:=()
def tw13951888123500465303:=()
def tw15350065399407990891:=()
def tw7333468286110541783:=()
def tw6616959705200200681:=()
def tw11143600210952391876:=()
def tw10847758305068515301:=()
def tw5011607212969044371:=()
def tw12011456074494597780:=()
def tw15479614142698713635:=()
def tw6891504100227709929:=()
def tw2327609752149018979:=()
def tw13382152352051794443:=()
def tw1546205747460897889:=()
def tw4256200631384799762:=()
def tw864855112970281699:=()
def tw3464547456443107823:=()
def tw3879938306337496684:=()
def tw8173619874262705025:=()
def tw13247527108511400908:=()
def tw11999949084854709873:=()
def tw15154802854786246269:=()
def tw6724002473051285597:=()
def tw12519151524161201964:=()
def tw4423227732948158886:=()
def tw15686410901936385145:=()
def tw6036182554523071927:=()
def tw4423040533979432701:=()
def tw14143997497288245152:=()
def tw1970229491086548510:=()
def tw10144041828316075498:=()
def tw7694393799760927020:=()
def tw5415076593574467895:=()
def tw16694621788191271063:=()
def tw6025899702685821019:=()
def tw9925556358794752699:=()
def tw8469164832043297937:=()
def tw14415102530701269088:=()
def tw12607226132463814497:=()
def tw5245064249416928582:=()
def tw9008939226260756718:=()
def tw9086166225542984095:=()
def tw14337862288191747019:=()
def tw1713574112146598778:=()
def tw9812046545621247124:=()
def tw5908816029693577558:=()
def tw16848448587716530953:=()
def tw9968640835341830761:=()
def tw7067031650464230201:=()
def tw5975781032872250854:=()
def tw6886248112493466720:=()
def tw4418801923227519599:=()
def tw14342992534459188950:=()
def tw16512033957718775086:=()
def tw13126249507724469375:=()
def tw2927063936594446667:=()
def tw7989654497197515254:=()
def tw11896990882692546132:=()
def tw11482541027998625870:=()
def tw17652259399143131932:=()
def tw12438901417075366225:=()
def tw16981517062171032398:=()
def tw1410934727687595979:=()
def tw1261290376249015647:=()
def tw17027133361314737850:=()
def tw4944959135127806934:=()
def tw3526364067802469822:=()
def tw7146876968844882224:=()
def tw15357419210225669879:=()
end PySem.W.Fast
open PySem PySem.W PyProof.Rows
set_option maxRecDepth 100000 in
set_option maxHeartbeats 0 in
theorem PySem.Challenge.cw_cubebook_k35_read_and_counted_holds : PySem.Challenge.rw_cubebook_k35_read_and_counted.Holds := by
 w_on;o_law;k_head;(case hw=>w_witness2)
 k_fill
 refine K35.walk (l:=PySem.Challenge.rw_cubebook_k35_read_and_counted) rfl rfl (fun w h Y=>PySem.W.kIn_of Y) ?F
 case F =>
  intro w mg fa h KX G hmg
  open L2 in refine' K35.fin KX hmg ⟨⟨_,_,_,_,_,_,_,_,_,_,_,_,_,_,_,_,_,_,_,_,_,_,_,_,_,_,_,_,_,_,_,_,_,_,_,_,_,_,_,_,_,_,_,_,_,_,_,_,_,_,_,_,_,_,_,_,_,_,_,_,_,_,_,_,_,_,_,_,_,_,_,_,_,_,_,_,_,_,_,_,_,_,_,_,_,_,_,_,_,_,_,_,_⟩,⟨di KX G ?_ ?_ ?_ ?_,di KX G ?_ ?_ ?_ ?_,di KX G ?_ ?_ ?_ ?_,di KX G ?_ ?_ ?_ ?_,di KX G ?_ ?_ ?_ ?_,di KX G ?_ ?_ ?_ ?_,di KX G ?_ ?_ ?_ ?_,di KX G ?_ ?_ ?_ ?_,di KX G ?_ ?_ ?_ ?_,di KX G ?_ ?_ ?_ ?_,di KX G ?_ ?_ ?_ ?_,di KX G ?_ ?_ ?_ ?_,di KX G ?_ ?_ ?_ ?_,di KX G ?_ ?_ ?_ ?_,di KX G ?_ ?_ ?_ ?_,di KX G ?_ ?_ ?_ ?_,di KX G ?_ ?_ ?_ ?_,di KX G ?_ ?_ ?_ ?_,di KX G ?_ ?_ ?_ ?_,di KX G ?_ ?_ ?_ ?_,di KX G ?_ ?_ ?_ ?_,di KX G ?_ ?_ ?_ ?_,di KX G ?_ ?_ ?_ ?_,di KX G ?_ ?_ ?_ ?_,di KX G ?_ ?_ ?_ ?_,di KX G ?_ ?_ ?_ ?_,di KX G ?_ ?_ ?_ ?_,di KX G ?_ ?_ ?_ ?_,di KX G ?_ ?_ ?_ ?_,di KX G ?_ ?_ ?_ ?_,di KX G ?_ ?_ ?_ ?_,di KX G ?_ ?_ ?_ ?_,di KX G ?_ ?_ ?_ ?_,di KX G ?_ ?_ ?_ ?_,di KX G ?_ ?_ ?_ ?_,di KX G ?_ ?_ ?_ ?_,di KX G ?_ ?_ ?_ ?_,di KX G ?_ ?_ ?_ ?_,di KX G ?_ ?_ ?_ ?_,di KX G ?_ ?_ ?_ ?_,di KX G ?_ ?_ ?_ ?_,di KX G ?_ ?_ ?_ ?_,di KX G ?_ ?_ ?_ ?_,di KX G ?_ ?_ ?_ ?_,di KX G ?_ ?_ ?_ ?_,mg_none_of KX G ?_,mg_none_of KX G ?_,mg_none_of KX G ?_,mg_none_of KX G ?_,mg_none_of KX G ?_,mg_none_of KX G ?_,mg_none_of KX G ?_,mg_none_of KX G ?_,mg_none_of KX G ?_,mg_none_of KX G ?_,mg_none_of KX G ?_,mg_none_of KX G ?_,mg_none_of KX G ?_,mg_none_of KX G ?_,mg_none_of KX G ?_,mg_none_of KX G ?_,mg_none_of KX G ?_,mg_none_of KX G ?_,mg_of KX G ?_,?_,mg_of KX G ?_,?_,mg_of KX G ?_,?_,L2.mk_of ?_ ?_,⟨?_,?_,?_,?_,?_,?_,⟨_,?_⟩⟩,L2.kit_self,L2.kit_ne ?_ ?_ ?_ ?_,L2.kit_V ?_,L2.exm_of ?_ ?_ ?_ ?_⟩⟩
  all_goals try (show (_:Prop);first | k_is | rfl | k_exc)
#print axioms PySem.Challenge.cw_cubebook_k35_read_and_counted_holds
