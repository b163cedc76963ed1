import PyProof.Rows.All
import Wide.All
import OpenK.AllK
import Wide.FinOn
import Lean
import PyProof.EqAt
import PyProof.EqKinds
import PyProof.TupleCall
import PyProof.TupleKey
import PyProof.DictRoadsH
import Wide.Seal
import PyProof.NeKinds
import PyProof.ZipIter
import PyProof.EnumMake
import PyProof.Rows.TupTab
import KE.KDictLaws
import PyProof.AutoListH
import PyProof.AttrMissHeap
import KE.KDictOf
import KE.KIntText
import PyProof.StrBlockL
import PyProof.StrLawsChain
import PyProof.FString
import PyProof.Rows.FStr
import OpenK.KOwn
import KE.KIsAll
import KE.KDictList
import PySem.Challenge.RW_cubebook_k56_refused_books
open PySem renaming wpAny_bind→Aj,sizeLine→Av,wpAny_pure→AC,starEach→AO,Spec→Qaq,Program→AS,FuncData→A5,mainGlobals→BD,wpAny_field→Cw,wpAny_setField_rec→EV,wpAny_loadPart'→ES,wpAny_holding→DR,wpAny_callSpecial?_slot→Gk,foldedSetIterable→E2,wpAny_call_entry→E7,wpAny_newObj_type→Fk,bootBuiltins→Eg,compareOp→Dd,wpAny_mono→DQ,swapsWith→Dp,wpAny_truthy_bool→G1,sizeLine_eq→E4,mem_of_lookup→IP,keywordEach→Fj,sysModules→EY,behindInMarks→Gf,assignEach→E1,attributeBase→Gj,NameKind→Ej,wpAny_Call_Name_kw→IM,holding→D5,wpAny_typeNameOfWhole_keyiter→PB,Builtin→En,wpAny_seqItems→Ih,wpAny_rule→FW,letOwnedTupleGo→IH,codeAny_builtin→IV,binaryOp→E3,backToKw→Fi,wpAny_typeOf→HJ,wpAny_typeNameOf_keyiter→PF,wpAny_getItem_str_slice→OD,wpAny_attempt→Jp,tupleKind_room_in1→Mj,wpAny_loadPart_at→Mt,codeAny_mono→IL,wpAny_setField→Ky,codeAny_call_builtin→Ps,wpAny_passesOwn→LG
open PySem.W renaming Frag→Ap,kitOne→DJ,nsIn→C6,emptyDict→G5,findIn→G4,instObj→HA,keepIn→HH,fnOf→G6
open List renaming getElem?_cons_zero→AX,getElem?_cons_succ→A7,length_cons→A9,map_cons→AY,mem_cons_of_mem→BA,length_map→Bb,size_toArray→Bu,mem_cons_self→Bw,length_nil→Bg,set_cons_zero→B5,getElem?_set_ne→Ch,getElem?_set_self→Cv,set_cons_succ→Ce,replicate_zero→Cn,mem_append_right→CA,replicate_succ→Cy,replicate→BZ,map_nil→BH,getElem?_eq_getElem→DG,cons_append→Cq,nil_append→Ct,range→BL,append_nil→CG,getElem?_map→D8,map_map→CV,mem_singleton→D3,zip_cons_cons→ET,not_mem_nil→EH,length_append→FO,lookup_cons→Fn,getElem?_replicate→HI,getElem_mem→FY,mem_cons→Bm,mem_append_left→HB,length_replicate→IQ,ext_getElem?→HS,map_append→Hl,drop_eq_getElem_cons→LQ,length_set→HL,length_take→IN,all_eq_true→Eb,drop_eq_nil_of_le→LP,getElem?_drop→Kg,getElem?_append_right→Oj,getElem?_append_left→Ol,mem_of_getElem?→LK,filterMap_cons→LA,mem_append→CT,getD→GJ,take_of_length_le→O4,range'→IC,nodup_append→Jr,length_range→NA,getElem?_append→OQ,range_eq_range'→Q8,all_cons→Kw,forIn_cons→LN
open Option renaming bind→AL,map→Bp,map_some→HP
open PySem.Heap renaming get?_push_of_some→Bk,lt_size→Be,get?_push_size→BY,SameBut→C3,size_push→FN,get?_update_other→IS,get?_update_self→Kf
open Nat renaming le_refl→Bf,reduceAdd→BI,lt_of_lt_of_le→Cu,le_trans→BO,ne_of_lt→BS,reduceSub→CQ,zero_le→Dq,lt_irrefl→FH,ne_of_gt→FL,lt_trans→G8,le_of_lt→IF,lt_or_ge→Jy,lt_succ_self→LI
open False renaming elim→Bd
open PySem.Value renaming ref→Bv,none→DC,type→GY
open Bool renaming and_eq_true→C5,false_eq_true→DF,false_ne_true→Gd,not_true→J0,not_eq_true→L8
open PySem.Builtin.SmallTypes renaming nextOf→EU,ownedTupleIsFree→KC,ownedTupleHandOut→Pd
open Classical renaming propDecidable→Fp
open Ne renaming symm→BX
open PySem.W.KasT renaming kasWp→CN,kasWp_bind→Mo
open Option.some renaming inj→Ew,injEq→L0
open PySem.NameKind renaming free→Ek,cell→G7
open Array renaming getElem?_eq_getElem→Jn,length_toList→G2,getElem?_toList→Ov,getD_eq_getD_getElem?→UT
open Int renaming emod_nonneg→Ga,emod_lt_of_pos→Hw,toNat_natCast→Hk
open PyProof.Rows renaming callWith_type1→Kc,slot_tuple_getitem→On,listUpdate_at→KW
open PySem.Obj renaming mapSeq→Ez,data_mapFields→Jm,isFreed_of_fields→Pa
open PySem.Paired renaming length→FG
open PySem.F renaming slot_dict_keyiterator_next→Pz,slot_tuple_iterator_next→O9,slot_enumerate_next→Pc,slot_dict_setdefault→UC,slot_zip_next→PH,typeOf_object_class→U6,args_tuple_add_2→TF,args_dict_keyiterator_next_1→gB,entry_dict_keyiterator_next→gA,plainAttrs_list→Tp,entry_tuple_add→TD,args_tuple_iterator_next_1→ew,entry_tuple_iterator_next→eu
open PySem.Heap.SameBut renaming update→Jl
open PySem.Str renaming ofString→FP
open PySem.Around renaming under_plainId→Kh
open PySem.PassesOwn renaming never→IE
open True renaming intro→FM
open PySem.Builtin.Slice renaming slicePlaces→Om,sliceAdjust→Sz
open PySem.Builtin.Tuple renaming tupleExact→Oo
open PySem.AutoSeq1 renaming wpAny_loadPart'→Pb
open PySem.Builtin.Str renaming occurrences→Oc
open List.cons renaming injEq→Kx
open PySem renaming Value→Aa,Shared→Ac,Addr→Ad,Str→Af,model→Ag,Around→Ah,World→Ai,Heap→Al,eval→Ar,Stmt→As,cLine→AE,Builtin→AF,backTo→AG,rawInt→AI,Obj→AJ,Pos→AT,IsPair→Ba,DictEntry→Bi,pyNext→Bq,call_meets→By,sliceBounds→BB
open Pure renaming pure→AB
open PySem.W renaming Frag→AV
open PyProof.Rows renaming envOfC→Bt
set_option Elab.async false
set_option linter.all false
set_option maxHeartbeats 4000000
set_option maxRecDepth 100000
noncomputable section
namespace L2
open PySem PySem.Spec PyProof.Rows
abbrev D4:=Sum Int Af
def RL:D4->Aa->Bool
 |.inl k,v=>Value.isInt k v
 |.inr x,v=>Value.isStrOf x v
def Yx(w:Ai):D4->Int
 |.inl k=>hashInt k
 |.inr x=>hashStr w x
theorem Gc:∀{k:D4}{v:Aa},RL k v=true->(∃i t,k=Sum.inl i/\v=Value.int i t)\/(∃x t,k=Sum.inr x/\v=Value.str x t)
 |.inl i,v,h=>by
  obtain⟨t,e⟩:=Value.isInt_shape (k:=i) (v:=v) h
  exact .inl ⟨i,t,rfl,e⟩
 |.inr x,v,h=>by
  obtain⟨t,e⟩:=Value.isStrOf_shape (x:=x) (v:=v) h
  exact .inr ⟨x,t,rfl,e⟩
theorem Yy(a b:Int):decide ((Sum.inl a:D4)=Sum.inl b)=(a==b):=by
 by_cases e:a=b
 ·subst e;simp
 ·have h:¬ (Sum.inl a:D4)=Sum.inl b:=λq=>e (Sum.inl.inj q)
  rw[decide_eq_false h]
  exact(beq_eq_false_iff_ne.mpr e).symm
theorem Yz(a b:Af):decide ((Sum.inr a:D4)=Sum.inr b)=decide (a=b):=by
 by_cases e:a=b
 ·subst e;simp
 ·have h:¬ (Sum.inr a:D4)=Sum.inr b:=λq=>e (Sum.inr.inj q)
  rw[decide_eq_false h,decide_eq_false e]
theorem YA(a:Int)(b:Af):decide ((Sum.inl a:D4)=Sum.inr b)=false:=decide_eq_false (λq=>nomatch q)
theorem YB(a:Af)(b:Int):decide ((Sum.inr a:D4)=Sum.inl b)=false:=decide_eq_false (λq=>nomatch q)
def NS(prog:AS)(w:Ai):PySem.KeyKind prog w D4 where
 is:=RL
 hash:=Yx w
 inj:=λv a b g f=>by
  rcases Gc g with⟨i,t,rfl,rfl⟩|⟨x,t,rfl,rfl⟩
  ·rcases Gc f with⟨j,u,rfl,e⟩|⟨y,u,rfl,e⟩
   ·injection e with c _;rw[c]
   ·exact nomatch e
  ·rcases Gc f with⟨j,u,rfl,e⟩|⟨y,u,rfl,e⟩
   ·exact nomatch e
   ·injection e with c _;rw[c]
 byValue:=λk v h=>by
  rcases Gc h with⟨i,t,rfl,rfl⟩|⟨x,t,rfl,rfl⟩<;>rfl
 pyHash:=λd h=>by
  rcases Gc d with⟨i,t,rfl,rfl⟩|⟨x,t,rfl,rfl⟩
  ·exact wpAny_pyHash_int h
  ·exact wpAny_pyHash_str h
 eqBool:=λl d h=>by
  rcases Gc l with⟨i,t,rfl,rfl⟩|⟨x,t,rfl,rfl⟩
  ·rcases Gc d with⟨j,u,rfl,rfl⟩|⟨y,u,rfl,rfl⟩
   ·rw[Yy]at h;exact wpAny_eqBool_int h
   ·rw[YA]at h;exact SeqAt.EqAt.int_str i t y u _ _ _ _ h
  ·rcases Gc d with⟨j,u,rfl,rfl⟩|⟨y,u,rfl,rfl⟩
   ·rw[YB]at h;exact SeqAt.EqAt.str_int x t j u _ _ _ _ h
   ·rw[Yz]at h;exact wpAny_eqBool_str h
 «strs»:=λk x t v h=>by
  rcases Gc h with⟨i,u,rfl,e⟩|⟨y,u,rfl,e⟩
  ·exact nomatch e
  ·injection e with c _
   subst c
   cases v<;>rfl
inductive V where
 |non|bl (b:Bool)|int (i:Int)|str (x:Af)|byt (b:Array UInt8)|flt (b:UInt64)|ref (a:Ad)|ty (n:String)
 deriving DecidableEq
def RelV:V->Aa->Prop
 |.non,u=>u=DC
 |.bl b,u=>u=Value.bool b
 |.int i,u=>∃t,u=Value.int i t
 |.str x,u=>∃t,u=Value.str x t
 |.byt b,u=>∃t,u=Value.bytes b t
 |.flt b,u=>∃t,u=Value.float b t
 |.ref a,u=>u=Bv a
 |.ty n,u=>u=GY n
abbrev Am:List V->List Aa->Prop:=Paired RelV
theorem Am.length{xs:List V}{us:List Aa}(r:Am xs us):xs.length=us.length:=FG r
theorem Am.get:∀{xs:List V}{us:List Aa}{i:Nat}{x:V},Am xs us->xs[i]?=some x->∃u,us[i]?=some u/\RelV x u
 |_,_,_,_,.nil,e=>by simp at e
 |_,_,0,_,.cons r _,e=>by simp at e;subst e;exact⟨_,rfl,r⟩
 |_,_,i+1,x,.cons _ t,e=>by
  obtain⟨u,a,b⟩:=Am.get (i:=i) (x:=x) t (by simpa using e)
  exact⟨u,by simpa using a,b⟩
theorem Am.set{x:V}{u:Aa}(r:RelV x u):∀{xs:List V}{us:List Aa}(i:Nat),Am xs us->Am (xs.set i x) (us.set i u)
 |_,_,_,.nil=>.nil
 |_,_,0,.cons _ t=>.cons r t
 |_,_,i+1,.cons q t=>.cons q (Am.set r i t)
theorem Am.append:∀{xs ys:List V}{us ws:List Aa},Am xs us->Am ys ws->Am (xs++ys) (us++ws)
 |_,_,_,_,.nil,s=>s
 |_,_,_,_,.cons r t,s=>.cons r (Am.append t s)
theorem Am.take:∀{xs:List V}{us:List Aa}(n:Nat),Am xs us->Am (xs.take n) (us.take n)
 |_,_,0,_=>.nil
 |_,_,_+1,.nil=>.nil
 |_,_,n+1,.cons r t=>.cons r (Am.take n t)
theorem Am.drop:∀{xs:List V}{us:List Aa}(n:Nat),Am xs us->Am (xs.drop n) (us.drop n)
 |_,_,0,r=>r
 |_,_,_+1,.nil=>.nil
 |_,_,n+1,.cons _ t=>Am.drop n t
theorem Am.none_of:∀{xs:List V}{us:List Aa}{i:Nat},Am xs us->xs[i]?=none->us[i]?=none:=λ{xs us i} r e=>by
 have a:=r.length
 have b:xs.length<=i:=List.getElem?_eq_none_iff.mp e
 exact List.getElem?_eq_none_iff.mpr (by omega)
def B6:Option V->Option Aa->Prop
 |some v,some u=>RelV v u
 |none,none=>True
 |_,_=>False
def KV{a:Type}:List (a×V)->List (a×Aa)->Prop:=Paired λ(p:a×V)(q:a×Aa)=>p.1=q.1/\RelV p.2 q.2
def kV:D4->V
 |.inl i=>.int i
 |.inr x=>.str x
inductive At where
 |non|int (i:Int)|str (x:Af)
 deriving DecidableEq
def GZ:At->Aa->Bool
 |.non,.none=>true
 |.int k,v=>Value.isInt k v
 |.str x,v=>Value.isStrOf x v
 |_,_=>false
def NT(w:Ai):At->Int
 |.non=>reduceHash 4238894112
 |.int k=>hashInt k
 |.str x=>hashStr w x
theorem G0:∀{k:At}{v:Aa},GZ k v=true->(k=.non/\v=.none)\/(∃i t,k=.int i/\v=Value.int i t)\/(∃x t,k=.str x/\v=Value.str x t)
 |.non,v,h=>by cases v<;>first|exact .inl ⟨rfl,rfl⟩|exact absurd h Gd
 |.int i,v,h=>by obtain⟨t,e⟩:=Value.isInt_shape (k:=i) (v:=v) h;exact .inr (.inl ⟨i,t,rfl,e⟩)
 |.str x,v,h=>by obtain⟨t,e⟩:=Value.isStrOf_shape (x:=x) (v:=v) h;exact .inr (.inr ⟨x,t,rfl,e⟩)
theorem YC(i:Int)(t:Tok):GZ (.int i) (.int i t)=true:=by simp[GZ,Value.isInt]
theorem YD(x:Af)(t:Tok):GZ (.str x) (.str x t)=true:=by simp[GZ,Value.isStrOf]
theorem YE{prog:AS}{w:Ai}{A:Ah}{E:Aa->Ac->Prop}{s:Ac}{Q:Int->Ac->Prop}(h:Q (reduceHash 4238894112) {s with toks:=s.toks+1}):
  wpAny (Ag prog w) A (PySem.pyHash .none) Q E s:=
 PySem.W.pyHash_slot (T:="NoneType") rfl F.slot_NoneType_hash F.entry_NoneType_hash (F.args_NoneType_hash_1 _) (beq_builtin_none _) (.inl rfl) (Aj (AC (Aj (wpAny_mkInt (AC ⟨_,_,rfl,h⟩)))))
theorem YF(a b:Int):decide ((At.int a)=.int b)=(a==b):=by
 by_cases e:a=b
 ·subst e;simp
 ·rw[decide_eq_false (λq=>e (by injection q))];exact(beq_eq_false_iff_ne.mpr e).symm
theorem YG(a b:Af):decide ((At.str a)=.str b)=decide (a=b):=by
 by_cases e:a=b
 ·subst e;simp
 ·rw[decide_eq_false (λq=>e (by injection q)),decide_eq_false e]
def ZZ(prog:AS)(w:Ai):PySem.KeyKind prog w At where
 is:=GZ
 hash:=NT w
 inj:=λv a b d f=>by
  rcases G0 d with⟨rfl,rfl⟩|⟨i,t,rfl,rfl⟩|⟨x,t,rfl,rfl⟩<;>rcases G0 f with⟨rfl,e⟩|⟨j,u,rfl,e⟩|⟨y,u,rfl,e⟩ <;>
   first|rfl|(cases e;done)|(cases e;rfl)
 byValue:=λk v h=>by
  rcases G0 h with⟨rfl,rfl⟩|⟨i,t,rfl,rfl⟩|⟨x,t,rfl,rfl⟩<;>rfl
 pyHash:=λc h=>by
  rcases G0 c with⟨rfl,rfl⟩|⟨i,t,rfl,rfl⟩|⟨x,t,rfl,rfl⟩
  ·exact YE h
  ·exact wpAny_pyHash_int h
  ·exact wpAny_pyHash_str h
 eqBool:=λg c h=>by
  rcases G0 g with⟨rfl,rfl⟩|⟨i,t,rfl,rfl⟩|⟨x,t,rfl,rfl⟩<;>rcases G0 c with⟨rfl,rfl⟩|⟨j,u,rfl,rfl⟩|⟨y,u,rfl,rfl⟩
  ·exact SeqAt.EqAt.same DC _ _ _ _ h
  ·exact SeqAt.EqAt.none_int j u _ _ _ _ h
  ·exact SeqAt.EqAt.none_str y u _ _ _ _ h
  ·exact SeqAt.EqAt.int_none i t _ _ _ _ h
  ·rw[YF]at h;exact wpAny_eqBool_int h
  ·exact SeqAt.EqAt.int_str i t y u _ _ _ _ h
  ·exact SeqAt.EqAt.str_none x t _ _ _ _ h
  ·exact SeqAt.EqAt.str_int x t j u _ _ _ _ h
  ·rw[YG]at h;exact wpAny_eqBool_str h
 «strs»:=λk x t v h=>by
  rcases G0 h with⟨rfl,e⟩|⟨i,u,rfl,e⟩|⟨y,u,rfl,e⟩
  ·exact nomatch e
  ·exact nomatch e
  ·injection e with l _
   subst l
   cases v<;>rfl
inductive KT where
 |at(a:At)|tup (l:List At)
 deriving DecidableEq
def KT.hash(w:Ai):KT->Int
 |.at a=>NT w a
 |.tup l=>reduceHash (Builtin.Tuple.tupleHashOf (l.map (NT w)))
def EO:At->V
 |.non=>.non
 |.int i=>.int i
 |.str x=>.str x
def YH:KT->V->Prop
 |.at a,v=>v=EO a
 |.tup _,v=>∃p,v=.ref p
def Hz(w:Ai):List KT->List V->List Bi->Prop
 |[],a,b=>a=[]/\b=[]
 |k::d,a,b=>∃c v r e t,a=c::v::r/\b=e::t/\RelV c e.key/\RelV v e.val/\e.hash=k.hash w/\YH k c/\Hz w d r t
inductive HO where
 |lst (xs:List V)
 |tup (xs:List V)
 |dK (kvs:List (D4×V))|dT (kvs:List (List D4×V))
 |dct (ks:List KT) (vs:List V)
 |set (S:Int->Bool) (n:Nat)
 |ins (C dx:Ad) (fs:List (Af×V))
 |own (x:Ad)
 |xd (fs:List (Af×V))
 |met (f x:Ad)
 |rng (lo hi:Int)
 |frz (o:AJ) (u:HO)
 |tbl (ps:Array Aa)
 |ext (φ:Al->Prop)
abbrev Hp:=Ad->Option HO
def AK(H:Hp)(a:Ad)(o:HO):Hp:=λb=>if b=a then some o else H b
theorem ZP{H:Hp}{a:Ad}{o:HO}:AK H a o a=some o:=by unfold AK;rw[if_pos rfl]
theorem Zq{H:Hp}{a b:Ad}{o:HO}(h:b≠a):AK H a o b=H b:=by unfold AK;rw[if_neg h]
theorem YI{H:Hp}{a:Ad}{o u:HO}:AK (AK H a o) a u=AK H a u:=by
 funext b;unfold AK;split<;>rfl
theorem Z4{H:Hp}{a b:Ad}{o:HO}(h:H a=some o)(h':H b=none):a≠b:=by
 intro e;subst e;rw[h]at h';cases h'
section
variable(P:AS)(w:Ai)
def AZ(H:Hp)(h:Al)(a:Ad):HO->Prop
 |.lst d=>d.length<=Av/\∃(b:List Aa) (n:Nat),Am d b/\h.get? a=some {cls:=.type "list",data:=.seq b.toArray n}
 |.tup d=>d.length<=Av/\∃b:List Aa,Am d b/\IsTup h a b.toArray
 |.dK c=>c.length<=Av/\(a==EY)=false/\∃j,KV c j/\h.DictOf (NS P w) a j
 |.dT c=>c.length<=Av/\(a==EY)=false/\∃d:List (List D4×Ad×Aa),
   Paired (λ(p:List D4×V) (q:List D4×Ad×Aa)=>p.1=q.1/\H q.2.1=some (.tup (p.1.map kV))/\RelV p.2 q.2.2) c d /\
   ∃o g l,h.get? a=some o/\o.ExactDict/\o.data=.dict g l/\g.toList=d.map (entryOfKey (tupleKind (NS P w)))/\(d.map (·.1)).Nodup
 |.dct m j=>m.length<=Av/\(a==EY)=false/\m.Nodup/\∃o g l,h.get? a=some o/\o.ExactDict/\o.data=.dict g l/\Hz w m j g.toList
 |.set S n=>h.SetOf (intKind P w) a S n
 |.ins C k i=>H k=some (.own a)/\i.length<=1000/\k≠a/\h.get? a=some (HA C k) /\
   ∃e,h.Ns1 k e/\(∀f,B6 (i.lookup f) (e f))/\PySem.Within e (i.map (·.1))
 |.own _=>∃o,h.get? a=some o
 |.xd i=>∃e,h.Ns1 a e/\∀f,B6 (i.lookup f) (e f)
 |.rng lo z=>∃t u v,h.get? a=some {cls:=.type "range",data:=.fields #[.int lo t,.int z u,.int 1 v]}
 |.frz o u=>h.get? a=some o/\AZ H h a u
 |.tbl A=>h.get? a=some {cls:=.none,data:=.fields A}
 |.met f x=>h.get? a=some (PySem.W.methodObj (.ref f) (.ref x))
 |.ext r=>r h/\(∃o,h.get? a=some o)/\∀s y:Al,r s->(∀o,s.get? a=some o->y.get? a=some o)->r y
def BV(H:Hp)(h:Al):Prop:=∀a o,H a=some o->AZ P w H h a o
end
section
variable{P:AS}{w:Ai}{H H':Hp}{h h':Al}{a:Ad}{o:HO}
theorem AZ.lt(x:AZ P w H h a o):a<h.objs.size:=by
 cases o with
 |lst c=>obtain⟨_,_,_,_,e⟩:=x;exact Be e
 |tup c=>obtain⟨_,_,_,p⟩:=x;exact p.lt
 |dK b=>obtain⟨_,_,_,_,o,_,_,e,_⟩:=x;exact Be e
 |dT b=>obtain⟨_,_,_,_,o,_,_,e,_⟩:=x;exact Be e
 |dct g i=>obtain⟨_,_,_,o,_,_,e,_⟩:=x;exact Be e
 |set S n=>obtain⟨o,_,_,_,e,_⟩:=x;exact Be e
 |ins C j d=>obtain⟨_,_,_,e,_⟩:=x;exact Be e
 |own y=>obtain⟨_,e⟩:=x;exact Be e
 |xd d=>obtain⟨_,⟨_,_,_,e,_⟩,_⟩:=x;exact Be e
 |rng lo k=>obtain⟨_,_,_,e⟩:=x;exact Be e
 |frz ob u=>obtain⟨e,_⟩:=x;exact Be e
 |tbl l=>exact Be (show h.get? a=some _ from x)
 |met f y=>exact Be (show h.get? a=some _ from x)
 |ext m=>obtain⟨_,⟨_,e⟩,_⟩:=x;exact Be e
theorem Paired.mapP{e g:Type}{F G:e->g->Prop}:∀{c:List e}{d:List g},Paired F c d->(∀a b,F a b->G a b)->Paired G c d
 |_,_,.nil,_=>.nil
 |_,_,.cons r t,f=>.cons (f _ _ r) (Paired.mapP t f)
theorem AZ.stay(x:AZ P w H h a o)(k:∀b u,(b=a\/H b=some (.own a))->h.get? b=some u->h'.get? b=some u)
  (E:∀b,H b=some (.own a)->H' b=some (.own a)) (G:∀b xs,H b=some (.tup xs)->H' b=some (.tup xs)):AZ P w H' h' a o:=by
 induction o with
 |lst xs=>obtain⟨z,j,n,r,e⟩:=x;exact⟨z,j,n,r,k _ _ (.inl rfl) e⟩
 |tup xs=>obtain⟨z,j,r,ob,e,c⟩:=x;exact⟨z,j,r,ob,k _ _ (.inl rfl) e,c⟩
 |dK l=>obtain⟨z,y,A,r,ob,g,i,e,c⟩:=x;exact⟨z,y,A,r,ob,g,i,k _ _ (.inl rfl) e,c⟩
 |dT l=>
  obtain⟨z,y,xs,r,ob,g,i,e,c⟩:=x
  exact⟨z,y,xs,Paired.mapP r λp q z=>⟨z.1,G _ _ z.2.1,z.2.2⟩,ob,g,i,k _ _ (.inl rfl) e,c⟩
 |dct M A=>obtain⟨z,y,n,ob,g,i,e,c⟩:=x;exact⟨z,y,n,ob,g,i,k _ _ (.inl rfl) e,c⟩
 |set S n=>obtain⟨ob,g,i,t,e,c⟩:=x;exact⟨ob,g,i,t,k _ _ (.inl rfl) e,c⟩
 |ins C N I=>
  obtain⟨d,z,ne,e,m,⟨s,g,i,J,c⟩,r⟩:=x
  exact⟨E _ d,z,ne,k _ _ (.inl rfl) e,m,⟨s,g,i,k _ _ (.inr d) J,c⟩,r⟩
 |own y=>obtain⟨ob,e⟩:=x;exact⟨ob,k _ _ (.inl rfl) e⟩
 |xd I=>obtain⟨m,⟨s,g,i,e,c⟩,r⟩:=x;exact⟨m,⟨s,g,i,k _ _ (.inl rfl) e,c⟩,r⟩
 |rng lo O=>obtain⟨t,u,v,e⟩:=x;exact⟨t,u,v,k _ _ (.inl rfl) e⟩
 |frz ob u L=>obtain⟨e,q⟩:=x;exact⟨k _ _ (.inl rfl) e,L q⟩
 |tbl B=>
  have e:h.get? a=some {cls:=.none,data:=.fields B}:=x
  show h'.get? a=some {cls:=.none,data:=.fields B}
  exact k a _ (.inl rfl) e
 |met f y=>
  have e:h.get? a=some (PySem.W.methodObj (.ref f) (.ref y)):=x
  show h'.get? a=some (PySem.W.methodObj (.ref f) (.ref y))
  exact k a _ (.inl rfl) e
 |ext Q=>obtain⟨p,⟨o,e⟩,st⟩:=x;exact⟨st _ _ p λo q=>k _ _ (.inl rfl) q,⟨o,k _ _ (.inl rfl) e⟩,st⟩
theorem BV.lt(x:BV P w H h)(e:H a=some o):a<h.objs.size:=(x a o e).lt
theorem BV.fresh(x:BV P w H h)(e:h.objs.size<=a):H a=none:=by
 cases q:H a with
 |none=>rfl
 |some u=>exact absurd (Cu (x.lt q) e) (FH _)
theorem BV.kept(x:BV P w H h)(k:∀b u,h.get? b=some u->h'.get? b=some u):BV P w H h':=λa o e=>
 (x a o e).stay (λb u _ q=>k b u q) (λ_ q=>q) λ_ _ q=>q
theorem BV.laid(x:BV P w H h)(k:∀b u,h.get? b=some u->h'.get? b=some u)(g:h.objs.size<=a)(new:AZ P w (AK H a o) h' a o):BV P w (AK H a o) h':=λb u e=>by
 have d:=x.fresh g
 by_cases f:b=a
 ·subst f;rw[ZP]at e;cases e;exact new
 ·rw[Zq f]at e
  exact(x b u e).stay (λc v _ q=>k c v q) (λc q=>by rw[Zq (Z4 q d)];exact q) λc i q=>by rw[Zq (Z4 q d)];exact q
end
def Rd(H:Hp)(a:Ad)(u:HO):Prop:=H a=some u\/∃o,H a=some (.frz o u)
theorem Rd.of{H:Hp}{a:Ad}{u:HO}(h:H a=some u):Rd H a u:=.inl h
theorem Rd.ok{P:AS}{w:Ai}{H:Hp}{h:Al}{a:Ad}{u:HO}(r:Rd H a u)(x:BV P w H h):AZ P w H h a u:=by
 rcases r with r|⟨o,r⟩
 ·exact x a u r
 ·obtain⟨_,q⟩:=x a _ r
  exact q
def J7:Option HO->Prop
 |some (.lst _)=>True
 |some (.dK _)=>True
 |some (.dT _)=>True
 |some (.dct _ _)=>True
 |some (.set _ _)=>True
 |some (.ins _ _ _)=>True
 |some (.ext _)=>True
 |_=>False
section
variable{P:AS}{w:Ai}{H:Hp}{h h':Al}{x e:Ad}{o':HO}
theorem BV.write(ok:BV P w H h)(g:J7 (H x))(n:e=x\/H e=some (.own x))(k:∀b u,b≠e->h.get? b=some u->h'.get? b=some u)(m:∃u,h'.get? e=some u)
  (new:AZ P w (AK H x o') h' x o'):BV P w (AK H x o') h':=λb u q=>by
 have d:∀c y,H c=some (.own y)->c≠x:=λc y r z=>by subst z;rw[r]at g;exact g
 have f:∀c i,H c=some (.tup i)->c≠x:=λc i r z=>by subst z;rw[r]at g;exact g
 by_cases j:b=x
 ·subst j;rw[ZP]at q;cases q;exact new
 ·rw[Zq j]at q
  by_cases a:b=e
  ·have o:H b=some (.own x):=by
    rcases n with z|z
    ·exact absurd (a.trans z) j
    ·rw[a];exact z
   rw[q]at o;cases o
   obtain⟨v,p⟩:=m
   exact⟨v,by rw[a];exact p⟩
  ·refine(ok b u q).stay (λc v l r=>k c v ?_ r) (λc r=>by rw[Zq (d c b r)];exact r) λc i r=>by rw[Zq (f c i r)];exact r
   rcases l with rfl|l
   ·exact a
   ·rintro rfl
    rcases n with z|z
    ·exact d c b l z
    ·rw[l]at z;cases z;exact j rfl
end
structure Un(fs ex:List Ad)(H H':Hp)(h h':Al):Prop where
 keep:∀b o,h.get? b=some o->H b=none->b∉fs->b∉ex->h'.get? b=some o
 slot:∀b o,h.get? b=some o->H b=none->b∈fs->b∉ex->∃sl,h'.get? b=some {o with slots:=sl}
 free:∀b o,h.get? b=some o->H b=none->b∉ex->H' b=none
 there:∀b o,h.get? b=some o->b∉ex->∃o',h'.get? b=some o'
 tups:∀b xs,H b=some (.tup xs)->H' b=some (.tup xs)
 frzs:∀b o u,H b=some (.frz o u)->H' b=some (.frz o u)
 tbls:∀b ps,H b=some (.tbl ps)->∃more,H' b=some (.tbl (ps++more))
section
variable{fs fs' ex ex':List Ad}{H H1 H2:Hp}{h h1 h2 h':Al}{a x e:Ad}{o:HO}
theorem Un.any(u:Un fs ex H H1 h h1){b:Ad}{ob:AJ}(q:h.get? b=some ob)(n:H b=none)(a:b∉ex):∃d,h1.get? b=some {ob with slots:=d}:=by
 by_cases c:b∈fs
 ·exact u.slot b ob q n c a
 ·exact⟨ob.slots,u.keep b ob q n c a⟩
theorem Un.trans(a:Un fs ex H H1 h h1)(b:Un fs ex H1 H2 h1 h2):Un fs ex H H2 h h2 where
 keep:=λc ob q n f d=>b.keep c ob (a.keep c ob q n f d) (a.free c ob q n d) f d
 slot:=λc ob q n f d=>by
  obtain⟨p,e⟩:=a.slot c ob q n f d
  obtain⟨i,j⟩:=b.slot c _ e (a.free c ob q n d) f d
  exact⟨i,j⟩
 free:=λc ob q n d=>by
  obtain⟨k,e⟩:=a.there c ob q d
  exact b.free c k e (a.free c ob q n d) d
 there:=λc ob q d=>by
  obtain⟨k,e⟩:=a.there c ob q d
  exact b.there c k e d
 tups:=λc g q=>b.tups c g (a.tups c g q)
 frzs:=λc ob g q=>b.frzs c ob g (a.frzs c ob g q)
 tbls:=λc l q=>by
  obtain⟨m,e⟩:=a.tbls c l q
  obtain⟨o,j⟩:=b.tbls c _ e
  exact⟨m++o,by rw[j,Array.append_assoc]⟩
theorem Un.kept(k:∀b u,h.get? b=some u->h'.get? b=some u):Un fs ex H H h h':=
 ⟨λb ob q _ _ _=>k b ob q,λb ob q _ _ _=>⟨ob.slots,k b ob q⟩,λ_ _ _ n _=>n,λb ob q _=>⟨ob,k b ob q⟩,λ_ _ q=>q,λ_ _ _ q=>q,λ_ a q=>⟨#[],by rw[q];simp⟩⟩
theorem Un.refl:Un fs ex H H h h:=Un.kept λ_ _ q=>q
theorem Un.laid(k:∀b u,h.get? b=some u->h'.get? b=some u)(d:h.objs.size<=a)(c:H a=none):Un fs ex H (AK H a o) h h' where
 keep:=λb u q _ _ _=>k b u q
 slot:=λb u q _ _ _=>⟨u.slots,k b u q⟩
 free:=λb u q n _=>by rw[Zq (BS (Cu (Be q) d))];exact n
 there:=λb u q _=>⟨u,k b u q⟩
 tups:=λb e q=>by rw[Zq (Z4 q c)];exact q
 frzs:=λb u e q=>by rw[Zq (Z4 q c)];exact q
 tbls:=λb f q=>⟨#[],by rw[Zq (Z4 q c),q];simp⟩
theorem Un.write(c:J7 (H x))(j:e=x\/H e=some (.own x))(k:∀b u,b≠e->h.get? b=some u->h'.get? b=some u)(d:∃u,h'.get? e=some u):Un fs ex H (AK H x o) h h':=by
 have g:∀b,H b=none->b≠x:=λb n z=>by subst z;rw[n]at c;exact c
 have i:∀b,H b=none->b≠e:=λb n z=>by
  subst z
  rcases j with r|r
  ·exact g b n r
  ·rw[n]at r;cases r
 have f:∀b u,H b=some u->¬ J7 (some u)->b≠x:=λb u q l z=>by subst z;rw[q]at c;exact l c
 refine⟨λb u q n _ _=>k b u (i b n) q,λb u q n _ _=>⟨u.slots,k b u (i b n) q⟩,λb u q n _=>by rw[Zq (g b n)];exact n,λb u q _=>?_,
  λb m q=>by rw[Zq (f b _ q λz=>z)];exact q,λb u m q=>by rw[Zq (f b _ q λz=>z)];exact q,λb p q=>⟨#[],by rw[Zq (f b _ q λz=>z),q];simp⟩⟩
 by_cases a:b=e
 ·subst a;exact d
 ·exact⟨u,k b u a q⟩
theorem Un.mono(u:Un fs ex H H1 h h1)(d:∀b∈fs,b∈fs')(c:∀b∈ex,b∈ex'):Un fs' ex' H H1 h h1:=
 ⟨λb ob q n e a=>u.keep b ob q n (λz=>e (d b z)) λz=>a (c b z),λ_ _ q n _ a=>u.any q n λz=>a (c _ z),λb ob q n a=>u.free b ob q n λz=>a (c b z),λb ob q a=>u.there b ob q λz=>a (c b z),u.tups,u.frzs,u.tbls⟩
end
def Lz(h:Al)(H:Hp):List Ad:=(BL h.objs.size).filter λa=>(H a).isSome
def Ge(h:Al)(H:Hp):Al:=PySem.W.hideAll h (Lz h H)
theorem YJ(h:Al)(H:Hp):(Ge h H).objs.size=h.objs.size:=PySem.W.hideAll_size _ _
theorem YK{h:Al}{H:Hp}{b:Ad}{o:AJ}(e:h.get? b=some o)(n:H b=none):(Ge h H).get? b=some o:=
 PySem.W.hideAll_get _ e λa=>by
  have q:(H b).isSome=true:=(List.mem_filter.mp a).2
  rw[n]at q;simp at q
theorem YL{h:Al}{H:Hp}{b:Ad}{o:AJ}(e:(Ge h H).get? b=some o):h.get? b=some o/\H b=none:=by
 have a:h.get? b=some o:=PySem.W.of_hideAll (Lz h H) e
 refine⟨a,?_⟩
 cases q:H b with
 |none=>rfl
 |some x=>
  have c:b∈Lz h H:=List.mem_filter.mpr ⟨List.mem_range.mpr (Be a),by simp[q]⟩
  have z:(Ge h H).get? b=none:=PySem.W.hideAll_none (Lz h H) c
  rw[z]at e;cases e
def YM(g h:Al)(L:Ad):List (Ad×AJ):=(BL h.objs.size).filterMap λa=>if a=L\/(g.get? a).isSome=true then none else(h.get? a).map λo=>(a,o)
def Ay(g h:Al)(L d:Ad):List (Ad×AJ):=(YM g h L).filter λp=>decide (p.1≠d)
structure Mod(K:Ap)(mg:Af->Option Aa)(base:Al):Prop where
 kin:K.In base
 glob:base.Ns BD mg
 blt:∃mb,base.Ns builtinsNs mb/\∀x:Af,x≠"__name__"->mb x=Eg x
 nolimit:base.NoLimit
structure Cx where
 prog:AS
 w:Ai
 K:Ap
 mg:Af->Option Aa
 base:Al
 A:Ah
 N:List Af
 s₀:Ac
 H₀:Hp
 env:Env
 outer:List Env
 stack:List Env
 ex:List Ad
 fn:Af->Bool
 calm:Bool
 pn:List (Ad×AJ)
 xe:Aa->Ac->Prop
def BW(l:List Env):List Ad:=l.filterMap (·.frame)
abbrev Cx.fs(X:Cx):List Ad:=BW X.outer
def C0(a:Scope)(x:Af):Prop:=a.names.lookup x=some .local\/a.names.lookup x=some .cell\/a.names.lookup x=some .free
def Loc(a:Scope)(x:Af):Prop:=a.names.lookup x=some .local\/a.names.lookup x=some .cell
def YN(env:Env)(h:Al)(m:Af->Option Aa)(x:Af)(u:Aa):Prop:=
 (env.kindOf x=some .local/\m x=some u)\/((env.kindOf x=some .cell\/env.kindOf x=some .free)/\∃c,env.cells.lookup x=some c/\h.IsCell c (some u))
structure Cx.Ok(X:Cx):Prop where
 mod:Mod X.K X.mg X.base
 kind:X.env.scope.kind=.function
 glob:X.env.globals=BD
 blt:X.env.builtins=builtinsNs
 above:X.s₀.heap.objs.size<=X.env.locals
 inj:∀x y c,X.env.cells.lookup x=some c->X.env.cells.lookup y=some c->x=y
 has:∀x,(X.env.kindOf x=some .cell\/X.env.kindOf x=some .free)->∃c,X.env.cells.lookup x=some c
 cab:∀x c,X.fn x=true->X.env.cells.lookup x=some c->X.s₀.heap.objs.size<=c
 hd:X.calm=true->X.A.handled=none
 frames:X.A.frames=some X.stack
 stk:X.stack=X.outer\/(X.stack=X.env::X.outer/\X.env.frame=some X.env.locals)
 exf:∀b∈X.ex,b≠X.env.locals/\∀x c,X.env.cells.lookup x=some c->c≠b
 bs:∀b o,X.base.get? b=some o->X.s₀.heap.get? b=some o/\X.H₀ b=none
 bsz:X.base.objs.size<=X.s₀.heap.objs.size
 noex:∀b o,X.base.get? b=some o->b∉X.ex
 exfs:∀b∈X.ex,b∉X.fs
 funs:X.s₀.heap.FunFrames X.base X.outer
 frf:∀b∈X.fs,X.H₀ b=none
structure Inv(X:Cx)(pins:List (Ad×AJ))(σ:List (Option V))(H:Hp)(s:Ac):Prop where
 ok:X.Ok
 os:s.os=X.s₀.os
 bare:AllBare s.gens
 base:Un X.fs X.ex X.H₀ H X.s₀.heap s.heap
 loc:∃m,s.heap.Ns X.env.locals m/\∀(i:Nat) (x:Af) (v:V),X.N[i]?=some x->σ[i]?=some (some v)->C0 X.env.scope x->∃u,RelV v u/\YN X.env s.heap m x u
 cell:∀x c,X.env.cells.lookup x=some c->∃v,s.heap.IsCell c v
 free:H X.env.locals=none
 freeC:∀x c,X.env.cells.lookup x=some c->H c=none
 pin:∀p∈X.pn++pins,s.heap.get? p.1=some p.2/\H p.1=none/\p.1≠X.env.locals/\p.1∉X.fs/\∀v,p.2.data≠.cell v
 hok:BV X.prog X.w H s.heap
 len:σ.length=X.N.length
section
variable{X:Cx}{pins:List (Ad×AJ)}{σ:List (Option V)}{H H':Hp}{s:Ac}{h':Al}
theorem Cx.Ok.nofr(ok:X.Ok){b:Ad}{o:AJ}(e:X.base.get? b=some o):b∉X.fs:=λa=>by
 have:=(ok.funs.mem a).1
 rw[e]at this;cases this
theorem Inv.bs(I:Inv X pins σ H s):∀b o,X.base.get? b=some o->s.heap.get? b=some o/\H b=none:=λb o e=>
 ⟨I.base.keep b o (I.ok.bs b o e).1 (I.ok.bs b o e).2 (I.ok.nofr e) (I.ok.noex b o e),I.base.free b o (I.ok.bs b o e).1 (I.ok.bs b o e).2 (I.ok.noex b o e)⟩
theorem Inv.bk(I:Inv X pins σ H s):∀b o,X.base.get? b=some o->s.heap.get? b=some o:=λb o e=>(I.bs b o e).1
theorem Inv.mod(I:Inv X pins σ H s):Mod X.K X.mg X.base:=I.ok.mod
theorem Inv.kIn(I:Inv X pins σ H s):X.K.In s.heap:=I.ok.mod.kin.keeps I.bk
theorem Inv.nolimit(I:Inv X pins σ H s):s.heap.NoLimit:=I.ok.mod.nolimit.keeps I.bk
theorem Inv.fr(I:Inv X pins σ H s):∃m,Fr X.base X.env.locals s.heap m:=
 let⟨m,a,_⟩:=I.loc
 ⟨m,a,I.bk,BO I.ok.bsz I.ok.above⟩
theorem Inv.lt(I:Inv X pins σ H s):X.env.locals<s.heap.objs.size:=let⟨_,a,_⟩:=I.loc;a.lt
theorem Inv.sz(I:Inv X pins σ H s):X.s₀.heap.objs.size<=s.heap.objs.size:=BO I.ok.above (IF I.lt)
theorem Inv.nofs(I:Inv X pins σ H s){a:Ad}(h:s.heap.objs.size<=a):a∉X.fs:=λb=>by
 obtain⟨_,o,c,_⟩:=I.ok.funs.mem b
 exact absurd (Cu (Be c) (BO I.sz h)) (FH _)
theorem Inv.cne(I:Inv X pins σ H s):∀x c,X.env.cells.lookup x=some c->c≠X.env.locals:=λx c e z=>by
 obtain⟨v,o,d,hd⟩:=I.cell x c e
 obtain⟨m,⟨f,g,h,a,b,_⟩,_⟩:=I.loc
 rw[z,a]at d;cases d;rw[b]at hd;cases hd
theorem Inv.funs(I:Inv X pins σ H s):s.heap.FunFrames X.base X.outer:=by
 have all:∀(l:List Env),(∀b∈BW l,b∈X.fs)->X.s₀.heap.FunFrames X.base l->s.heap.FunFrames X.base l:=by
  intro l
  induction l with
  |nil=>intro _ _;trivial
  |cons env r g=>
   intro f h
   obtain⟨i,⟨L,o,a,j,k,hd⟩,m⟩:=h
   have c:L∈X.fs:=f L (by unfold BW;rw[LA,a];exact Bw)
   obtain⟨n,e⟩:=I.base.slot L o k (I.ok.frf L c) c λz=>I.ok.exfs L z c
   exact⟨i,⟨L,_,a,j,e,hd⟩,g (λb d=>f b (by unfold BW;rw[LA,a];exact BA _ d)) m⟩
 exact all X.outer (λ_ d=>d) I.ok.funs
theorem Inv.stack(I:Inv X pins σ H s):s.heap.FunFrames X.base X.stack:=by
 rcases I.ok.stk with e|⟨e,a⟩
 ·rw[e];exact I.funs
 ·rw[e]
  obtain⟨m,b,_⟩:=I.loc
  refine .cons (by rw[I.ok.kind];decide) a b ?_ I.funs
  exact Heap.get?_none_of_le (BO I.ok.bsz I.ok.above)
theorem Inv.stkSub(I:Inv X pins σ H s):∀b∈BW X.stack,b∈X.env.locals::X.fs:=λb a=>by
 rcases I.ok.stk with e|⟨e,c⟩
 ·rw[e]at a;exact BA _ a
 ·rw[e]at a
  unfold BW at a
  rw[LA,c]at a
  exact a
theorem Inv.stkFree(I:Inv X pins σ H s):∀b∈BW X.stack,H b=none:=λb a=>by
 rcases Bm.mp (I.stkSub b a)with e|a
 ·rw[e];exact I.free
 ·obtain⟨_,o,c,_⟩:=I.ok.funs.mem a
  exact I.base.free b o c (I.ok.frf b a) λz=>I.ok.exfs b z a
theorem Inv.step{g':Array GenState}{t':Nat}{d':Drawn}{ch:List Ad}(I:Inv X pins σ H s)
  (f:∀b∈ch,(b∈X.ex\/X.s₀.heap.objs.size<=b)/\b≠X.env.locals/\(∀x c,X.env.cells.lookup x=some c->c≠b)/\∀p∈X.pn++pins,p.1≠b)
  (keep:∀b o,b≠X.env.locals->b∉X.fs->b∉ch->s.heap.get? b=some o->H b=none->h'.get? b=some o)
  (slot:∀b o,b≠X.env.locals->b∈X.fs->b∉ch->s.heap.get? b=some o->H b=none->∃J,h'.get? b=some {o with slots:=J}) (free:∀b o,b∉ch->s.heap.get? b=some o->H b=none->H' b=none)
  (there:∀b o,b∉ch->s.heap.get? b=some o->∃B,h'.get? b=some B)
  (tups:∀b xs,H b=some (.tup xs)->H' b=some (.tup xs)) (frzs:∀b o u,H b=some (.frz o u)->H' b=some (.frz o u)) (tbls:∀b ps,H b=some (.tbl ps)->∃C,H' b=some (.tbl (ps++C)))
  (ns:∀m,s.heap.Ns X.env.locals m->h'.Ns X.env.locals m) (hok:BV X.prog X.w H' h') (O:AllBare g'):
  Inv X pins σ H' {s with heap:=h',gens:=g',drawn:=d',toks:=t' }:=by
 have E:∀b o,X.s₀.heap.get? b=some o->b≠X.env.locals:=λb o e=>BS (Cu (Be e) I.ok.above)
 have j:∀b o,X.s₀.heap.get? b=some o->b∉X.ex->b∉ch:=λb o e a y=>by
  rcases(f b y).1 with z|z
  ·exact a z
  ·exact absurd (Cu (Be e) z) (FH _)
 have g:∀x c,X.env.cells.lookup x=some c->∀v,s.heap.IsCell c v->h'.IsCell c v:=λx c e v ⟨o,A,hd⟩=>by
  have h:c∉ch:=λz=>(f c z).2.2.1 x c e rfl
  by_cases M:c∈X.fs
  ·obtain⟨J,q⟩:=slot c o (I.cne x c e) M h A (I.freeC x c e)
   exact⟨_,q,hd⟩
  ·exact⟨o,keep c o (I.cne x c e) M h A (I.freeC x c e),hd⟩
 refine⟨I.ok,I.os,O,⟨λb o e n y a=>?_,λb o e n y a=>?_,λb o e n a=>?_,λb o e a=>?_,λb xs e=>tups b xs (I.base.tups b xs e),λb o xs e=>frzs b o xs (I.base.frzs b o xs e),λb ps e=>?_⟩,?_,λx c e=>?_,?_,λx c e=>?_,λp N=>?_,hok,I.len⟩
 ·exact keep b o (E b o e) y (j b o e a) (I.base.keep b o e n y a) (I.base.free b o e n a)
 ·obtain⟨J,t⟩:=I.base.slot b o e n y a
  obtain⟨L,G⟩:=slot b _ (E b o e) y (j b o e a) t (I.base.free b o e n a)
  exact⟨L,G⟩
 ·obtain⟨B,t⟩:=I.base.there b o e a
  exact free b B (j b o e a) t (I.base.free b o e n a)
 ·obtain⟨B,t⟩:=I.base.there b o e a
  exact there b B (j b o e a) t
 ·obtain⟨Q,t⟩:=I.base.tbls b ps e
  obtain⟨T,G⟩:=tbls b _ t
  exact⟨Q++T,by rw[G,Array.append_assoc]⟩
 ·obtain⟨m,U,Y⟩:=I.loc
  refine⟨m,ns m U,λi x v t G e3=>?_⟩
  obtain⟨u,r,l⟩:=Y i x v t G e3
  refine⟨u,r,?_⟩
  rcases l with l|⟨k,c,e,z⟩
  ·exact .inl l
  ·exact .inr ⟨k,c,e,g x c e _ z⟩
 ·obtain⟨v,z⟩:=I.cell x c e
  exact⟨v,g x c e v z⟩
 ·obtain⟨m,⟨o,_,_,A,_⟩,_⟩:=I.loc
  exact free _ o (λz=>(f _ z).2.1 rfl) A I.free
 ·obtain⟨v,o,A,hd⟩:=I.cell x c e
  exact free c o (λz=>(f c z).2.2.1 x c e rfl) A (I.freeC x c e)
 ·obtain⟨e,n,ne,nf,d⟩:=I.pin p N
  have h:p.1∉ch:=λz=>(f p.1 z).2.2.2 p N rfl
  exact⟨keep p.1 p.2 ne nf h e n,free p.1 p.2 h e n,ne,nf,d⟩
theorem Inv.un{t':Nat}(I:Inv X pins σ H s)(u:Un X.fs [] H H' s.heap h')(hok:BV X.prog X.w H' h'):Inv X pins σ H' {s with heap:=h',toks:=t' }:=by
 obtain⟨m,⟨o,k,l,g,r⟩,_⟩:=id I.loc
 obtain⟨p,h⟩:=u.any g I.free (by simp)
 exact I.step (g':=s.gens) (d':=s.drawn) (ch:=[]) (λ_ z=>nomatch z) (λb o _ c _ e n=>u.keep b o e n c (by simp)) (λb o _ c _ e n=>u.slot b o e n c (by simp)) (λb o _ e n=>u.free b o e n (by simp)) (λb o _ e=>u.there b o e (by simp)) u.tups u.frzs u.tbls (λx i=>by
  obtain⟨y,d,f,a,j⟩:=i
  rw[g]at a;cases a
  exact⟨_,d,f,h,j⟩) hok I.bare
theorem Inv.call{g':Array GenState}{t':Nat}{d':Drawn}{ch:List Ad}(I:Inv X pins σ H s)(u:Un (BW X.stack) ch H H' s.heap h')(hok:BV X.prog X.w H' h')(k:AllBare g')
  (d:∀b∈ch,(b∈X.ex\/X.s₀.heap.objs.size<=b)/\b≠X.env.locals/\(∀x c,X.env.cells.lookup x=some c->c≠b)/\∀p∈X.pn++pins,p.1≠b):
  Inv X pins σ H' {s with heap:=h',gens:=g',drawn:=d',toks:=t' }:=by
 obtain⟨m,⟨o,v,y,j,r⟩,_⟩:=id I.loc
 obtain⟨A,g⟩:=u.any j I.free λz=>(d _ z).2.1 rfl
 exact I.step (ch:=ch) d (λb o g l a e n=>u.keep b o e n (λz=>(Bm.mp (I.stkSub b z)).elim g l) a) (λb o _ _ a e n=>u.any e n a) (λb o a e n=>u.free b o e n a) (λb o a e=>u.there b o e a) u.tups u.frzs u.tbls (λB q=>by
  obtain⟨C,h,i,f,t⟩:=q
  rw[j]at f;cases f
  exact⟨_,h,i,g,t⟩) hok k
theorem Inv.turned{t':Nat}{it:Ad}(I:Inv X pins σ H s)(k:∀b o,b≠it->s.heap.get? b=some o->h'.get? b=some o)(g:H it=none)(f:it≠X.env.locals)
  (h:it∈X.ex\/X.s₀.heap.objs.size<=it) (i:∀x c,X.env.cells.lookup x=some c->c≠it) (j:∀p∈X.pn++pins,p.1≠it):Inv X pins σ H {s with heap:=h',toks:=t' }:=by
 have d:∀b u,H b=some u->b≠it:=λb u e z=>by rw[z,g]at e;cases e
 refine I.step (g':=s.gens) (d':=s.drawn) (ch:=[it]) (λb l=>?_) (λb o _ _ a e _=>k b o (λz=>a (by simp[z])) e) (λb o _ _ a e _=>⟨o.slots,k b o (λz=>a (by simp[z])) e⟩) (λ_ _ _ _ n=>n)
  (λb o a e=>⟨o,k b o (λz=>a (by simp[z])) e⟩) (λ_ _ e=>e) (λ_ _ _ e=>e) (λb G e=>⟨#[],by rw[e];simp⟩) (λm t=>?_) (λb u e=>?_) I.bare
 ·have e:b=it:=by simpa using l
  subst e
  exact⟨h,f,i,j⟩
 ·obtain⟨o,w,y,A,r⟩:=t
  exact⟨o,w,y,k _ o (BX f) A,r⟩
 ·refine(I.hok b u e).stay (λc v a q=>k c v ?_ q) (λ_ q=>q) λ_ _ q=>q
  rcases a with z|z
  ·rw[z];exact d b u e
  ·exact d c _ z
theorem Inv.tok(I:Inv X pins σ H s)(t:Nat):Inv X pins σ H {s with toks:=t}:=I.un (h':=s.heap) (t':=t) Un.refl I.hok
theorem Inv.kept{t':Nat}(I:Inv X pins σ H s)(k:∀b u,s.heap.get? b=some u->h'.get? b=some u):Inv X pins σ H {s with heap:=h',toks:=t' }:=I.un (Un.kept k) (I.hok.kept k)
theorem Inv.laid{a:Ad}{o:HO}{t':Nat}(I:Inv X pins σ H s)(k:∀b u,s.heap.get? b=some u->h'.get? b=some u)(c:s.heap.objs.size<=a)(new:AZ X.prog X.w (AK H a o) h' a o):
  Inv X pins σ (AK H a o) {s with heap:=h',toks:=t' }:=I.un (Un.laid k c (I.hok.fresh c)) (I.hok.laid k c new)
theorem Inv.write{x e:Ad}{o:HO}{t':Nat}(I:Inv X pins σ H s)(c:J7 (H x))(d:e=x\/H e=some (.own x))(k:∀b u,b≠e->s.heap.get? b=some u->h'.get? b=some u)(a:∃u,h'.get? e=some u)
  (new:AZ X.prog X.w (AK H x o) h' x o):Inv X pins σ (AK H x o) {s with heap:=h',toks:=t' }:=I.un (Un.write c d k a) (I.hok.write c d k a new)
theorem Inv.weak{a:List (Option V)}(I:Inv X pins σ H s)(c:a.length=σ.length)(w:∀(i:Nat) v,a[i]?=some (some v)->σ[i]?=some (some v)):Inv X pins a H s:=
 ⟨I.ok,I.os,I.bare,I.base,let⟨m,d,b⟩:=I.loc;⟨m,d,λi x v e f g=>b i x v e (w i v f) g⟩,I.cell,I.free,I.freeC,I.pin,I.hok,c.trans I.len⟩
theorem Inv.pins_of{a:List (Ad×AJ)}(I:Inv X pins σ H s)(h:∀p∈a,s.heap.get? p.1=some p.2/\H p.1=none/\p.1≠X.env.locals/\p.1∉X.fs/\∀v,p.2.data≠.cell v):Inv X a σ H s:=
 ⟨I.ok,I.os,I.bare,I.base,I.loc,I.cell,I.free,I.freeC,λp b=>(CT.mp b).elim (λz=>I.pin p (HB _ z)) (h p),I.hok,I.len⟩
theorem RM{N:List Af}(c:N.Nodup){i j:Nat}{x:Af}(a:N[i]?=some x)(b:N[j]?=some x):i=j:=by
 obtain⟨f,d⟩:=List.getElem?_eq_some_iff.mp a
 obtain⟨g,e⟩:=List.getElem?_eq_some_iff.mp b
 exact(List.getElem_inj c).mp (d.trans e.symm)
theorem RN{M:Model}{A:Ah}{E:Aa->Ac->Prop}{i:Nat}{x:Af}{v:V}{u:Aa}{Q:Unit->Ac->Prop}(I:Inv X pins σ H s)(hN:X.N.Nodup)(hi:X.N[i]?=some x)(B:Loc X.env.scope x)(r:RelV v u)
  (h:∀s',Inv X pins (σ.set i (some v)) H s'->(∃a,C3 a s.heap s'.heap/\(a=X.env.locals\/X.env.cells.lookup x=some a))->Q () s') (hf:X.fn x=true\/X.env.scope.names.lookup x=some .local:=by first|exact .inl rfl|exact .inr rfl|assumption):wpAny M A (storeName X.env x u) Q E s:=by
 obtain⟨m,hn,hl⟩:=id I.loc
 have hcls:(X.env.scope.kind==.class||(X.env.scope.kind==.module&&X.env.locals != X.env.globals))=false:=by rw[I.ok.kind];rfl
 have J:i<σ.length:=by rw[I.len];exact(List.getElem?_eq_some_iff.mp hi).1
 have O:=I.cne
 have g:∀{a:Ad} {h':Al},(∃o,s.heap.get? a=some o/\H a=none)->C3 a s.heap h'->BV X.prog X.w H h':=λ{a h'} ha f b ob e=>by
  obtain⟨_,_,C⟩:=ha
  refine(I.hok b ob e).stay (λc w' t q=>(f.2 c ?_).trans q) (λ_ q=>q) λ_ _ q=>q
  rintro rfl
  rcases t with rfl|t
  ·rw[C]at e;cases e
  ·rw[C]at t;cases t
 rcases B with L|L
 ·refine wpAny_storeName_local L hn (λh' hn' f=>?_) hcls
  obtain⟨oL,_,_,hoL,_⟩:=id hn
  refine h _ ⟨I.ok,I.os,I.bare,⟨λb o e n T B=>?_,λb o e n T B=>?_,I.base.free,λb o e B=>?_,I.base.tups,I.base.frzs,I.base.tbls⟩,⟨_,hn',λj y v' l G e3=>?_⟩,λy c e=>?_,I.free,I.freeC,λp hp=>?_,g ⟨oL,hoL,I.free⟩ f,by simpa using I.len⟩ ⟨_,f,.inl rfl⟩
  ·exact(f.2 b (BS (Cu (Be e) I.ok.above))).trans (I.base.keep b o e n T B)
  ·obtain⟨sl,l⟩:=I.base.slot b o e n T B
   exact⟨sl,(f.2 b (BS (Cu (Be e) I.ok.above))).trans l⟩
  ·obtain⟨o',l⟩:=I.base.there b o e B
   exact⟨o',(f.2 b (BS (Cu (Be e) I.ok.above))).trans l⟩
  ·by_cases U:j=i
   ·subst U
    rw[hi]at l;cases l
    rw[Cv J]at G
    cases G
    exact⟨u,r,.inl ⟨L,by simp⟩⟩
   ·rw[Ch (BX U)]at G
    obtain⟨u',r',q⟩:=hl j y v' l G e3
    refine⟨u',r',?_⟩
    rcases q with⟨k,e⟩|⟨k,c,e,z⟩
    ·refine .inl ⟨k,?_⟩
     have:y≠x:=λe=>U (RM hN l (e ▸ hi))
     simp[this,e]
    ·exact .inr ⟨k,c,e,z.sameBut f (O y c e)⟩
  ·obtain⟨w',z⟩:=I.cell y c e
   exact⟨w',z.sameBut f (O y c e)⟩
  ·obtain⟨e,n,ne,nf,d⟩:=I.pin p hp
   exact⟨(f.2 p.1 ne).trans e,n,ne,nf,d⟩
 ·have Y:X.fn x=true:=by
   rcases hf with z|z
   ·exact z
   ·rw[z]at L;cases L
  obtain⟨c,t⟩:=I.ok.has x (.inl L)
  obtain⟨w',z⟩:=I.cell x c t
  refine wpAny_storeName_cell I.ok.kind L t z (λh' hc' f=>?_)
  obtain⟨oc,hoc,hocd⟩:=id z
  refine h {s with heap:=h' } ⟨I.ok,I.os,I.bare,⟨λb o e n T B=>?_,λb o e n T B=>?_,I.base.free,λb o e B=>?_,I.base.tups,I.base.frzs,I.base.tbls⟩,⟨m,hn.sameBut f (BX (O x c t)),λj y v' l G e3=>?_⟩,λy c' e=>?_,I.free,I.freeC,λp hp=>?_,g ⟨oc,hoc,I.freeC x c t⟩ f,by simpa using I.len⟩ ⟨c,f,.inr t⟩
  ·exact(f.2 b (BS (Cu (Be e) (I.ok.cab x c Y t)))).trans (I.base.keep b o e n T B)
  ·obtain⟨sl,l⟩:=I.base.slot b o e n T B
   exact⟨sl,(f.2 b (BS (Cu (Be e) (I.ok.cab x c Y t)))).trans l⟩
  ·obtain⟨o',l⟩:=I.base.there b o e B
   exact⟨o',(f.2 b (BS (Cu (Be e) (I.ok.cab x c Y t)))).trans l⟩
  ·by_cases U:j=i
   ·subst U
    rw[hi]at l;cases l
    rw[Cv J]at G
    cases G
    exact⟨u,r,.inr ⟨.inl L,c,t,hc'⟩⟩
   ·rw[Ch (BX U)]at G
    obtain⟨u',r',q⟩:=hl j y v' l G e3
    refine⟨u',r',?_⟩
    rcases q with q|⟨k,c',e,z'⟩
    ·exact .inl q
    ·refine .inr ⟨k,c',e,z'.sameBut f ?_⟩
     rintro rfl
     exact U (RM hN l (I.ok.inj _ _ _ e t ▸ hi))
  ·by_cases hcc:c'=c
   ·subst hcc;exact⟨_,hc'⟩
   ·obtain⟨w2,z2⟩:=I.cell y c' e
    exact⟨w2,z2.sameBut f hcc⟩
  ·obtain⟨e,n,ne,nf,d⟩:=I.pin p hp
   refine⟨(f.2 p.1 ?_).trans e,n,ne,nf,d⟩
   intro q
   rw[q,hoc]at e
   have q':oc=p.2:=Ew e
   exact d w' (by rw[<- q'];exact hocd)
theorem NU{M:Model}{A:Ah}{E:Aa->Ac->Prop}{i:Nat}{x:Af}{v:V}{u:Aa}{Q:Unit->Ac->Prop}(I:Inv X pins σ H s)(a:X.N.Nodup)(b:X.N[i]?=some x)(c:Loc X.env.scope x)(r:RelV v u)
  (h:∀s',Inv X pins (σ.set i (some v)) H s'->Q () s') (d:X.fn x=true\/X.env.scope.names.lookup x=some .local:=by first|exact .inl rfl|exact .inr rfl|assumption):wpAny M A (storeName X.env x u) Q E s:=
 RN I a b c r (λs' e _=>h s' e) d
theorem Inv.call'{s':Ac}{ch:List Ad}(I:Inv X pins σ H s)(h:s'.os=s.os)(u:Un (BW X.stack) ch H H' s.heap s'.heap)(hok:BV X.prog X.w H' s'.heap)(i:AllBare s'.gens)
  (a:∀b∈ch,(b∈X.ex\/X.s₀.heap.objs.size<=b)/\b≠X.env.locals/\(∀x c,X.env.cells.lookup x=some c->c≠b)/\∀p∈X.pn++pins,p.1≠b):Inv X pins σ H' s':=by
 obtain⟨h',d,f,g,j⟩:=s'
 have e:j=s.os:=h
 subst e
 exact I.call (g':=d) (t':=g) (d':=f) u hok i a
end
abbrev XK:=Aa->Option Ad->Hp->Prop
abbrev St:=List (Option V)
abbrev VK:=V->Hp->Prop
abbrev TE:=St->Hp->VK->Prop
abbrev TT:=St->Hp->(Bool->Hp->Prop)->Prop
abbrev TA:=St->Hp->(List V->Hp->Prop)->Prop
structure EZ where
 nx:St->Hp->Prop
 rt:VK
 bk:St->Hp->Prop:=λ_ _=>False
 ct:St->Hp->Prop:=λ_ _=>False
abbrev TS:=EZ->St->Hp->Prop
def EP(X:Cx)(a:List (Ad×AJ))(σ:St)(Q:VK)(u:Aa)(s':Ac):Prop:=∃v b,Inv X a σ b s'/\RelV v u/\Q v b
def TP(X:Cx)(a:List (Ad×AJ))(σ:St)(Q:Bool->Hp->Prop)(b:Bool)(s':Ac):Prop:=∃c,Inv X a σ c s'/\Q b c
def AP(X:Cx)(a:List (Ad×AJ))(σ:St)(Q:List V->Hp->Prop)(us:List Aa)(s':Ac):Prop:=∃b c,Inv X a σ c s'/\Am b us/\Q b c
def SP(X:Cx)(b:List (Ad×AJ))(D:EZ)(f:Flow)(s':Ac):Prop:=
 match f with
 |.next=>∃a c,Inv X b a c s'/\D.nx a c
 |.brk=>∃a c,Inv X b a c s'/\D.bk a c
 |.cont=>∃a c,Inv X b a c s'/\D.ct a c
 |.ret u=>∃v a c,Inv X b a c s'/\RelV v u/\D.rt v c
def PE(X:Cx)(e:Expr)(t:TE):Prop:=
 ∀(a:List (Ad×AJ)) (s:Ac) (b:St) (H:Hp) (Q:VK),Inv X a b H s->t b H Q->wpAny (Ag X.prog X.w) X.A (Ar e X.env) (EP X a b Q) X.xe s
def PT(X:Cx)(e:Expr)(t:TT):Prop:=
 ∀(a:List (Ad×AJ)) (s:Ac) (b:St) (H:Hp) (Q:Bool->Hp->Prop),Inv X a b H s->t b H Q->wpAny (Ag X.prog X.w) X.A (isTrue e X.env (Ar e X.env)) (TP X a b Q) X.xe s
def PW(X:Cx)(e:Expr)(t:TT):Prop:=
 ∀(b:Sem Aa) (a:List (Ad×AJ)) (s:Ac) (c:St) (H:Hp) (Q:Bool->Hp->Prop),Inv X a c H s->t c H Q->wpAny (Ag X.prog X.w) X.A (isTrue e X.env b) (TP X a c Q) X.xe s
theorem PW.pt{X:Cx}{e:Expr}{t:TT}(h:PW X e t):PT X e t:=h _
def PA(X:Cx)(es:List Expr)(t:TA):Prop:=
 ∀(b:AT) (a:List (Ad×AJ)) (s:Ac) (c:St) (H:Hp) (Q:List V->Hp->Prop),Inv X a c H s->t c H Q->wpAny (Ag X.prog X.w) X.A (spliced (AG b (AO es X.env))) (AP X a c Q) X.xe s
def PS(X:Cx)(st:As)(t:TS):Prop:=
 ∀(a:List (Ad×AJ)) (s:Ac) (b:St) (H:Hp) (D:EZ),Inv X a b H s->t D b H->wpAny (Ag X.prog X.w) X.A (exec st X.env) (SP X a D) X.xe s
def DP(X:Cx)(st:List As)(t:TS):Prop:=
 ∀(a:List (Ad×AJ)) (s:Ac) (b:St) (H:Hp) (D:EZ),Inv X a b H s->t D b H->wpAny (Ag X.prog X.w) X.A (execs st X.env) (SP X a D) X.xe s
theorem AU{b:Type}{t:Sem b}{Q Q':b->Ac->Prop}{M:Model}{A:Ah}{E:Aa->Ac->Prop}{s:Ac}(h:wpAny M A t Q E s)(c:∀a s,Q a s->Q' a s):wpAny M A t Q' E s:=DQ h c λ_ _ x=>x
section
variable{X:Cx}
theorem lS{a b:Expr}{k l:TE}(n:PE X a k)(o:PE X b l){c:List (Ad×AJ)}{s:Ac}{σ:St}{H:Hp}{R:V->V->Hp->Prop}(I:Inv X c σ H s)(h:k σ H λx j=>l σ j λy d=>R x y d)
  {m:Type} {Q:m->Ac->Prop} {f:Aa->Aa->Sem m}
  (p:∀v u i x y d,Inv X c σ d i->RelV x v->RelV y u->R x y d->wpAny (Ag X.prog X.w) X.A (f v u) Q X.xe i):
  wpAny (Ag X.prog X.w) X.A (Ar a X.env) (λv e=>wpAny (Ag X.prog X.w) X.A (Ar b X.env) (λu g=>wpAny (Ag X.prog X.w) X.A (f v u) Q X.xe g) X.xe e) X.xe s:=by
 refine AU (n c s σ H _ I h) λv q ⟨x,j,r,t,q1⟩=>?_
 refine AU (o c q σ j _ r q1) λu i ⟨y,d,z,B,q2⟩=>?_
 exact p v u i x y d z t B q2
def YO(i:Nat):TE:=λa H Q=>∃v,a[i]?=some (some v)/\Q v H
def tC(v:V):TE:=λ_ H Q=>Q v H
theorem Ex{i:Nat}{x:Af}{pos:AT}(j:X.N[i]?=some x)(k:C0 X.env.scope x)(hd:(x==("__debug__":Af))=false:=by decide)(f:(x==("__classdict__":Af))=false:=by decide):PE X (.Name x pos) (YO i):=by
 intro d s n H Q I h
 obtain⟨v,e,h⟩:=h
 obtain⟨m,o,p⟩:=I.loc
 obtain⟨u,r,l⟩:=p i x v j e k
 have fin:EP X d n Q u s:=⟨v,H,I,r,h⟩
 rcases l with⟨b,q⟩|⟨b,c,g,a⟩
 ·exact wpAny_Name (wpAny_loadName_local I.ok.kind b o q fin) hd
 ·rcases b with b|b
  ·exact wpAny_Name (wpAny_loadName_cell I.ok.kind b g a fin) hd
  ·exact wpAny_Name (wpAny_loadName_free I.ok.kind b g a fin f) hd
theorem RO {i j pos}:PE X (.Constant (.int i) j pos) (tC (.int i)):=λ_ _ _ H _ I h=>wpAny_Constant_int ⟨.int i,H,I.tok _,⟨_,rfl⟩,h⟩
theorem YP {b j pos}:PE X (.Constant (.bool b) j pos) (tC (.bl b)):=λ_ _ _ H _ I h=>Constant_bool ⟨.bl b,H,I,rfl,h⟩
theorem YQ {j pos}:PE X (.Constant .none j pos) (tC .non):=λ_ _ _ H _ I h=>Constant_none ⟨.non,H,I,rfl,h⟩
theorem YR {x j pos}:PE X (.Constant (.str x) j pos) (tC (.str x)):=λ_ _ _ H _ I h=>Calls.Constant_str ⟨.str x,H,I.tok _,⟨_,rfl⟩,h⟩
def Gl(X:Cx)(x:Af):Prop:=X.env.kindOf x=some .globalImplicit
theorem IG{E:Aa->Ac->Prop}{a:List (Ad×AJ)}{s:Ac}{σ:St}{H:Hp}{x:Af}{u:Aa}{pos:AT}{Q:Aa->Ac->Prop}(I:Inv X a σ H s)(b:Gl X x)(c:X.mg x=some u)(h:Q u s)
  (hd:(x==("__debug__":Af))=false:=by decide):wpAny (Ag X.prog X.w) X.A (Ar (.Name x pos) X.env) Q E s:=
 Calls.Name_function_global I.ok.kind b (Calls.loadGlobal_global (by rw[I.ok.glob];exact I.mod.glob.keeps I.bk) c h) hd
theorem FI{E:Aa->Ac->Prop}{a:List (Ad×AJ)}{s:Ac}{σ:St}{H:Hp}{x:Af}{u:Aa}{pos:AT}{Q:Aa->Ac->Prop}(I:Inv X a σ H s)(b:Gl X x)(c:X.mg x=none)(d:Eg x=some u)(h:Q u s)
  (e:x≠"__name__":=by decide) (hd:(x==("__debug__":Af))=false:=by decide):wpAny (Ag X.prog X.w) X.A (Ar (.Name x pos) X.env) Q E s:=by
 obtain⟨i,f,g⟩:=I.mod.blt
 exact Calls.Name_function_global I.ok.kind b (Calls.loadGlobal_builtin (by rw[I.ok.glob];exact I.mod.glob.keeps I.bk) c (by rw[I.ok.blt];exact f.keeps I.bk) ((g x e).trans d) h) hd
theorem FJ{x:Af}{v:V}{u:Aa}{pos:AT}(a:Gl X x)(b:X.mg x=some u)(r:RelV v u)(hd:(x==("__debug__":Af))=false:=by decide):PE X (.Name x pos) (tC v):=
 λ_ _ _ H _ I h=>IG I a b ⟨v,H,I,r,h⟩ hd
theorem RP{x:Af}{v:V}{u:Aa}{pos:AT}(a:Gl X x)(b:X.mg x=none)(c:Eg x=some u)(r:RelV v u)(d:x≠"__name__":=by decide)(hd:(x==("__debug__":Af))=false:=by decide):PE X (.Name x pos) (tC v):=
 λ_ _ _ H _ I h=>FI I a b c ⟨v,H,I,r,h⟩ d hd
variable{a b:Expr}{ta tb:TE}{pos:AT}
def PC(X:Cx)(op:CmpOp)(a b:Expr)(t:TE):Prop:=
 ∀(c:List (Ad×AJ)) (s:Ac) (f:St) (H:Hp) (Q:VK),Inv X c f H s->t f H Q ->
  wpAny (Ag X.prog X.w) X.A (Ar a X.env) (λv d=>wpAny (Ag X.prog X.w) X.A (Ar b X.env) (λu e=>wpAny (Ag X.prog X.w) X.A (Dd op v u) (EP X c f Q) X.xe e) X.xe d) X.xe s
theorem HC(b:Expr){op:CmpOp}(h:op≠.In)(a:op≠.NotIn):Gf op b=false:=by
 have c:(op==CmpOp.In)=false:=by cases op<;>first|rfl|exact absurd rfl h
 have d:(op==CmpOp.NotIn)=false:=by cases op<;>first|rfl|exact absurd rfl a
 cases b<;>simp[Gf,c,d]
def YS(ta:TE):TE:=λa H Q=>ta a H λx b=>Q (.bl (decide (x=.non))) b
theorem RelV.none_iff{x:V}{v:Aa}(r:RelV x v):(v==DC)=decide (x=.non):=by
 cases x with
 |non=>cases r;rfl
 |bl _=>cases r;rfl
 |int _=>obtain⟨t,rfl⟩:=r;rfl
 |str _=>obtain⟨t,rfl⟩:=r;rfl
 |byt _=>obtain⟨t,rfl⟩:=r;rfl
 |flt _=>obtain⟨t,rfl⟩:=r;rfl
 |ref _=>cases r;rfl
 |ty _=>cases r;rfl
theorem YT {j b} (d:PE X a ta):PC X .Is a (.Constant .none j b) (YS ta):=by
 intro c s e H Q I h
 refine AU (d c s e H _ I h) λv k ⟨x,f,g,i,q1⟩=>?_
 exact Constant_none (is_none_gen ⟨.bl _,f,g,by rw[i.none_iff];rfl,q1⟩)
def tB(t:TE):TT:=λa H Q=>t a H λx b=>∃c,x=.bl c/\Q c b
theorem YU{op:CmpOp}{t:TE}(h:PC X op a b t)(f:Gf op b=false:=by first|exact HC _ (by decide) (by decide)|rfl):PT X (.Compare a [op] [b] pos) (tB t):=by
 intro e s g H Q I i
 refine wpAny_isTrue_Compare1 (AU (h e s g H _ I i) λv n f=>AU f λu o j=>AU j λc p ⟨x,k,l,m,q1⟩=>?_) f
 obtain⟨d,rfl,q⟩:=q1
 cases m
 exact G1 ⟨k,l,q⟩
variable{tA Bx:TT}{Ay:List Expr}
def RS(t u:TT):TT:=λa H Q=>t a H λc b=>if c=true then u a b Q else Q false b
def RU(t u:TT):TT:=λa H Q=>t a H λc b=>if c=true then Q true b else u a b Q
def YV(t:TT):TT:=λa H Q=>t a H λc b=>Q (!c) b
theorem YW(d:PT X a tA):PW X (.BoolOp .And [a] pos) tA:=by
 intro g b s f H Q I h
 refine isTrue_and (AU (d b s f H Q I h) λc i e=>?_)
 cases c with
 |true=>exact isTrue_and_nil e
 |false=>exact e
theorem YX(d:PT X a tA):PW X (.BoolOp .Or [a] pos) tA:=by
 intro g b s f H Q I h
 refine isTrue_or (AU (d b s f H Q I h) λc i e=>?_)
 cases c with
 |false=>exact isTrue_or_nil e
 |true=>exact e
theorem YY(i:PT X a tA)(j:PW X (.BoolOp .And (b::Ay) pos) Bx):PW X (.BoolOp .And (a::b::Ay) pos) (RS tA Bx):=by
 intro k d s e H Q I h
 refine isTrue_and (AU (i d s e H _ I h) λc l ⟨f,g,q1⟩=>?_)
 cases c with
 |true=>exact j k d l e f Q g q1
 |false=>exact⟨f,g,q1⟩
theorem YZ(i:PT X a tA)(j:PW X (.BoolOp .Or (b::Ay) pos) Bx):PW X (.BoolOp .Or (a::b::Ay) pos) (RU tA Bx):=by
 intro k d s e H Q I h
 refine isTrue_or (AU (i d s e H _ I h) λc l ⟨f,g,q1⟩=>?_)
 cases c with
 |true=>exact⟨f,g,q1⟩
 |false=>exact j k d l e f Q g q1
theorem Y0(d:PT X a tA):PT X (.UnaryOp .Not a pos) (YV tA):=by
 intro b s e H Q I h
 exact isTrue_not (d b s e H (λc f=>Q (!c) f) I h)
def Y1(ta tb:TE):TE:=λa H Q=>ta a H λx b=>∃c,x=.bl c/\if c=true then tb a b Q else Q (.bl false) b
def Y2(ta tb:TE):TE:=λa H Q=>ta a H λx b=>∃c,x=.bl c/\if c=true then Q (.bl true) b else tb a b Q
def Y3(ta:TE):TE:=λa H Q=>ta a H λx b=>∃c,x=.bl c/\Q (.bl (!c)) b
theorem Y4 {op} {t:TE} (h:PE X a t):PE X (.BoolOp op [a] pos) t:=λb s c H Q I d=>BoolOp_one (h b s c H Q I d)
theorem Y5(i:PE X a ta)(j:PE X (.BoolOp .And (b::Ay) pos) tb):PE X (.BoolOp .And (a::b::Ay) pos) (Y1 ta tb):=by
 intro d s e H Q I h
 refine BoolOp_and (AU (i d s e H _ I h) λv k ⟨x,f,g,l,q1⟩=>?_)
 obtain⟨c,rfl,q1⟩:=q1
 cases l
 refine G1 ?_
 cases c with
 |true=>exact j d k e f Q g q1
 |false=>exact⟨.bl false,f,g,rfl,q1⟩
theorem Y6(i:PE X a ta)(j:PE X (.BoolOp .Or (b::Ay) pos) tb):PE X (.BoolOp .Or (a::b::Ay) pos) (Y2 ta tb):=by
 intro d s e H Q I h
 refine BoolOp_or (AU (i d s e H _ I h) λv k ⟨x,f,g,l,q1⟩=>?_)
 obtain⟨c,rfl,q1⟩:=q1
 cases l
 refine G1 ?_
 cases c with
 |false=>exact j d k e f Q g q1
 |true=>exact⟨.bl true,f,g,rfl,q1⟩
theorem Y7(d:PE X a ta):PE X (.UnaryOp .Not a pos) (Y3 ta):=by
 intro b s e H Q I h
 refine UnaryOp_ (AU (d b s e H _ I h) λv j ⟨x,f,g,i,q1⟩=>?_)
 obtain⟨c,rfl,q1⟩:=q1
 cases i
 exact not_of (G1 ⟨.bl (!c),f,g,rfl,q1⟩)
def Y8(t:TT)(ta tb:TE):TE:=λa H Q=>t a H λc b=>if c=true then ta a b Q else tb a b Q
theorem Y9{c:Expr}(k:PT X c tA)(l:PE X a ta)(m:PE X b tb):PE X (.IfExp c a b pos) (Y8 tA ta tb):=by
 intro e s f H Q I h
 refine wpAny_IfExp (AU (k e s f H _ I h) λd g ⟨i,j,q1⟩=>?_)
 cases d with
 |true=>exact l e g f i Q j q1
 |false=>exact m e g f i Q j q1
end
def Bn(K:Ap)(H:Hp)(a:Ad)(xs:List V):Prop:=
 Rd H a (.lst xs) \/
  ∃(o:AJ) (b:Array Aa) (n:Nat),K.lookup a=some o/\o.cls=.type "list"/\o.dict=none/\o.data=.seq b n/\b.size<=Av/\Am xs b.toList
def BE(K:Ap)(H:Hp)(a:Ad)(xs:List V):Prop:=
 Rd H a (.tup xs) \/
  ∃(o:AJ) (b:Array Aa) (n:Nat),K.lookup a=some o/\o.cls=.type "tuple"/\o.data=.seq b n/\b.size<=Av/\Am xs b.toList
def aa:Aa->Option V
 |.none=>some .non
 |.bool b=>some (.bl b)
 |.int i _=>some (.int i)
 |.str x _=>some (.str x)
 |.bytes b _=>some (.byt b)
 |.float b _=>some (.flt b)
 |.ref a=>some (.ref a)
 |.type n=>some (.ty n)
 |_=>none
theorem RelV.abs{x:V}{u:Aa}(r:RelV x u):aa u=some x:=by
 cases x with
 |non=>cases r;rfl
 |bl _=>cases r;rfl
 |int _=>obtain⟨t,rfl⟩:=r;rfl
 |str _=>obtain⟨t,rfl⟩:=r;rfl
 |byt _=>obtain⟨t,rfl⟩:=r;rfl
 |flt _=>obtain⟨t,rfl⟩:=r;rfl
 |ref _=>cases r;rfl
 |ty _=>cases r;rfl
theorem RelV.inj{x y:V}{u:Aa}(r:RelV x u)(q:RelV y u):x=y:=Ew (r.abs.symm.trans q.abs)
theorem Am.inj:∀{xs ys:List V}{us:List Aa},Am xs us->Am ys us->xs=ys
 |_,_,_,.nil,.nil=>rfl
 |_,_,_,.cons r t,.cons a b=>by rw[r.inj a,Am.inj t b]
section
variable{X:Cx}{pins:List (Ad×AJ)}{σ:St}{H:Hp}{s:Ac}{a:Ad}{xs ys:List V}
theorem Bn.of{K:Ap}(h:H a=some (.lst xs)):Bn K H a xs:=.inl (.inl h)
theorem BE.of{K:Ap}(h:H a=some (.tup xs)):BE K H a xs:=.inl (.inl h)
theorem Inv.list(I:Inv X pins σ H s)(h:Bn X.K H a xs):∃b:List Aa,Am xs b/\PlainL s.heap a b.toArray/\xs.length<=Av:=by
 rcases h with h|⟨o,b,n,c,d,hd,f,g,r⟩
 ·obtain⟨z,b,n,r,e⟩:=h.ok I.hok
  exact⟨b,r,⟨_,n,e,rfl,rfl,rfl⟩,z⟩
 ·refine⟨b.toList,r,⟨o,n,I.kIn a o c,d,hd,by simpa using f⟩,?_⟩
  have e:=r.length
  simp only[G2]at e
  omega
theorem Inv.tuple(I:Inv X pins σ H s)(h:BE X.K H a xs):∃b:List Aa,Am xs b/\IsTup s.heap a b.toArray/\xs.length<=Av:=by
 rcases h with h|⟨o,b,n,c,d,f,g,r⟩
 ·obtain⟨z,b,r,p⟩:=h.ok I.hok
  exact⟨b,r,p,z⟩
 ·refine⟨b.toList,r,⟨o,I.kIn a o c,d,n,by simpa using f⟩,?_⟩
  have e:=r.length
  simp only[G2]at e
  omega
theorem Inv.list_inj(I:Inv X pins σ H s)(h:Bn X.K H a xs)(h':Bn X.K H a ys):xs=ys:=by
 obtain⟨c,r,⟨o,n,e,_,_,d⟩,_⟩:=I.list h
 obtain⟨b,i,⟨j,k,f,_,_,g⟩,_⟩:=I.list h'
 rw[e]at f;cases f
 rw[d]at g
 injection g with d1 _
 have:c=b:=by simpa using congrArg Array.toList d1
 subst this
 exact r.inj i
theorem Inv.tuple_inj(I:Inv X pins σ H s)(h:BE X.K H a xs)(h':BE X.K H a ys):xs=ys:=by
 obtain⟨c,r,⟨o,e,_,n,d⟩,_⟩:=I.tuple h
 obtain⟨b,i,⟨j,f,_,k,g⟩,_⟩:=I.tuple h'
 rw[e]at f;cases f
 rw[d]at g
 injection g with d1 _
 have:c=b:=by simpa using congrArg Array.toList d1
 subst this
 exact r.inj i
end
abbrev Cx.wish(X:Cx)(E:Aa->Ac->Prop):Cx:={X with xe:=E}
abbrev Cx.nox(X:Cx):Cx:=X.wish λ_ _=>False
theorem Cx.Ok.wish{X:Cx}(ok:X.Ok)(E:Aa->Ac->Prop):(X.wish E).Ok:=
 ⟨ok.mod,ok.kind,ok.glob,ok.blt,ok.above,ok.inj,ok.has,ok.cab,ok.hd,ok.frames,ok.stk,ok.exf,ok.bs,ok.bsz,ok.noex,ok.exfs,ok.funs,ok.frf⟩
theorem Cx.Ok.unwish{X:Cx}{E:Aa->Ac->Prop}(ok:(X.wish E).Ok):X.Ok:=
 ⟨ok.mod,ok.kind,ok.glob,ok.blt,ok.above,ok.inj,ok.has,ok.cab,ok.hd,ok.frames,ok.stk,ok.exf,ok.bs,ok.bsz,ok.noex,ok.exfs,ok.funs,ok.frf⟩
section
variable{X:Cx}{pins:List (Ad×AJ)}{σ:St}{H:Hp}{s:Ac}{E:Aa->Ac->Prop}
theorem Inv.wish(I:Inv X pins σ H s)(E:Aa->Ac->Prop):Inv (X.wish E) pins σ H s:=⟨I.ok.wish E,I.os,I.bare,I.base,I.loc,I.cell,I.free,I.freeC,I.pin,I.hok,I.len⟩
theorem Inv.unwish(I:Inv (X.wish E) pins σ H s):Inv X pins σ H s:=⟨I.ok.unwish,I.os,I.bare,I.base,I.loc,I.cell,I.free,I.freeC,I.pin,I.hok,I.len⟩
theorem SP.unwish{D:EZ}{f:Flow}{s':Ac}(h:SP (X.wish E) pins D f s'):SP X pins D f s':=by
 cases f with
 |next=>obtain⟨a,b,I,q⟩:=h;exact⟨a,b,I.unwish,q⟩
 |brk=>obtain⟨a,b,I,q⟩:=h;exact⟨a,b,I.unwish,q⟩
 |cont=>obtain⟨a,b,I,q⟩:=h;exact⟨a,b,I.unwish,q⟩
 |ret u=>obtain⟨v,a,b,I,r,q⟩:=h;exact⟨v,a,b,I.unwish,r,q⟩
theorem PE.nox{e:Expr}{t:TE}(h:PE X.nox e t):PE X e t:=λpins s σ H Q I a=>
 DQ (h pins s σ H Q (I.wish _) a) (λ_ _ ⟨v,b,c,r,q⟩=>⟨v,b,c.unwish,r,q⟩) λ_ _ z=>Bd z
theorem PT.nox{e:Expr}{t:TT}(h:PT X.nox e t):PT X e t:=λpins s σ H Q I a=>
 DQ (h pins s σ H Q (I.wish _) a) (λ_ _ ⟨b,c,q⟩=>⟨b,c.unwish,q⟩) λ_ _ z=>Bd z
theorem DP.nox{st:List As}{t:TS}(h:DP X.nox st t):DP X st t:=λpins s σ H D I a=>
 DQ (h pins s σ H D (I.wish _) a) (λ_ _ q=>q.unwish) λ_ _ z=>Bd z
end
section
variable{X:Cx}{st:As}{Ay:List As}{t u:TS}{e:Expr}{te:TE}{pos:AT}
def ac:TS:=λD a H=>D.nx a H
def ae(t u:TS):TS:=λD a H=>t {D with nx:=u D} a H
theorem Do:DP X [] ac:=λ_ _ a H _ I h=>wpAny_execs_nil ⟨a,H,I,h⟩
theorem J8(c:PS X st t)(d:DP X Ay u):DP X (st::Ay) (ae t u):=by
 intro a s e H D I h
 refine wpAny_execs_cons (AU (c a s e H {D with nx:=u D} I h) λf g q=>?_)
 cases f with
 |next=>
  obtain⟨b,i,j,q⟩:=q
  exact d a g b i D j q
 |ret v=>exact q
 |brk=>exact q
 |cont=>exact q
theorem Inv.quiet{a:List (Ad×AJ)}{σ:St}{H:Hp}{s:Ac}(I:Inv X a σ H s):interactive X.env=false:=by simp[interactive,I.ok.kind]
def af(te:TE):TS:=λD a H=>te a H λ_ b=>D.nx a b
theorem NV(c:PE X e te)(d:Dp e none pos.line X.env=AB false:=by rfl):PS X (.Expr e pos) (af te):=by
 intro a s b H D I h
 exact wpAny_Expr_any (AU (c a s b H _ I h) λv i ⟨x,f,g,j,q1⟩=>⟨b,f,g,q1⟩) I.quiet d
def ag(te:TE):TS:=λD a H=>te a H D.rt
theorem LB(c:PE X e te):PS X (.Return (some e) pos) (ag te):=by
 intro a s b H D I h
 exact wpAny_Return_some (AU (c a s b H _ I h) λv i ⟨x,d,f,g,q1⟩=>⟨x,b,d,f,g,q1⟩)
def ah(c:TT)(t u:TS):TS:=λD a H=>c a H λb d=>if b=true then t D a d else u D a d
theorem NW{c:Expr}{a b:List As}{g:TT}(l:PT X c g)(m:DP X a t)(n:DP X b u):PS X (.If c a b pos) (ah g t u):=by
 intro e s f H D I h
 refine wpAny_If (AU (l e s f H _ I h) λd i ⟨j,k,q1⟩=>?_)
 cases d with
 |true=>exact m e i f j D k q1
 |false=>exact n e i f j D k q1
end
abbrev TG:=V->St->Hp->(St->Hp->Prop)->Prop
abbrev Gg:=List V->St->Hp->(St->Hp->Prop)->Prop
def PG(X:Cx)(a:Expr)(t:TG):Prop:=
 ∀(b:List (Ad×AJ)) (s:Ac) (d:St) (H:Hp) (v:V) (u:Aa) (Q:St->Hp->Prop),Inv X b d H s->RelV v u->t v d H Q ->
  wpAny (Ag X.prog X.w) X.A (assign a X.env u) (λ_ f=>∃c e,Inv X b c e f/\Q c e) X.xe s
def J9(X:Cx)(g:List Expr)(t:Gg):Prop:=
 ∀(a:List (Ad×AJ)) (s:Ac) (c:St) (H:Hp) (d:List V) (e:List Aa) (Q:St->Hp->Prop),Inv X a c H s->Am d e->t d c H Q ->
  wpAny (Ag X.prog X.w) X.A (assignInOrder ((E1 g X.env).map (·.2)) e) (λ_ h=>∃b f,Inv X a b f h/\Q b f) X.xe s
abbrev LC:=V->V->V->Hp->(Hp->Prop)->Prop
def NX(X:Cx)(t:LC):Prop:=
 ∀(a:List (Ad×AJ)) (s:Ac) (b:St) (H:Hp) (o i v:V) (c d u:Aa) (Q:Hp->Prop),Inv X a b H s->RelV o c->RelV i d->RelV v u->t o i v H Q ->
  wpAny (Ag X.prog X.w) X.A (setItem c d u) (λ_ f=>∃e,Inv X a b e f/\Q e) X.xe s
section
variable{X:Cx}{pos:AT}
def G3(i:Nat):TG:=λv a H Q=>Q (a.set i (some v)) H
theorem ai{i:Nat}{x:Af}(b:X.N.Nodup)(c:X.N[i]?=some x)(d:Loc X.env.scope x)(e:X.fn x=true\/X.env.scope.names.lookup x=some .local:=by first|exact .inl rfl|exact .inr rfl|assumption):PG X (.Name x pos) (G3 i):=by
 intro a s g H v u Q I r h
 exact wpAny_assign_Name (NU I b c d r (λj f=>⟨_,H,f,h⟩) e)
def aj:Gg:=λa b H Q=>a=[]/\Q b H
def ak(t:TG)(u:Gg):Gg:=λb c H Q=>∃v r,b=v::r/\t v c H λa d=>u r a d Q
theorem am:J9 X [] aj:=by
 intro a s b H c d Q I r h
 obtain⟨e,h⟩:=h
 subst e
 cases r
 exact assignInOrder_nil ⟨b,H,I,h⟩
theorem ao{e:Expr}{es:List Expr}{t:TG}{u:Gg}(c:PG X e t)(d:J9 X es u)
  (f:(E1 (e::es) X.env).map (·.2)=assign e X.env::(E1 es X.env).map (·.2):=by rfl):J9 X (e::es) (ak t u):=by
 intro a s g H n o Q I r h
 obtain⟨v,p,i,h⟩:=h
 subst i
 cases r with
 |cons r j=>
  rw[f]
  refine assignInOrder_cons (AU (c a s g H _ _ _ I r h) λ_ k ⟨b,l,m,q1⟩=>?_)
  exact d a k b l _ _ Q m j q1
def ap(K:Ap)(n:Nat)(t:Gg):TG:=λv c H Q=>∃a b,v=.ref a/\BE K H a b/\b.length=n/\t b c H Q
theorem aq{es:List Expr}{k:Nat}{t:Gg}{n:Nat}(j:X.calm=true)(h:J9 X es t)
  (l:(E1 es X.env).length=n:=by rfl) (d:(E1 es X.env).findIdx? (·.1)=none:=by rfl):PG X (.Tuple es k pos) (ap X.K n t):=by
 intro c s g H v u Q I r f
 obtain⟨a,m,p,q,w,f⟩:=f
 subst p
 cases r
 obtain⟨x,i,y,C⟩:=I.tuple q
 refine assign_Tuple_tuple (I.ok.hd j) y (by simp[l,<- w,i.length]) d λz A=>?_
 have B:Inv X c g H {s with heap:=z}:=I.kept (t':=s.toks) λb o e=>A b o (BS (Be e)) e
 exact h c _ g H m _ Q B (by simpa using i) f
def ar(b c:TE)(t:LC):TG:=λv a H Q=>b a H λo d=>c a d λi e=>t o i v e λf=>Q a f
theorem RV{o i:Expr}{e f:TE}{t:LC}(g:PE X o e)(j:PE X i f)(k:NX X t)
  (l:∀v,assign (.Subscript o i pos) X.env v=(do
   let b <- D5 [v] (Ar o X.env)
   let c <- D5 [v,b] (Ar i X.env)
   standAt pos
   D5 [v,b,c] (setItem b c v)
   release [v,b,c] []):=by intro _;rfl):PG X (.Subscript o i pos) (ar e f t):=by
 intro a s d H v u Q I r h
 rw[l]
 refine Aj (DR (AU (g a s d H _ I h) λb m ⟨x,n,p,q,q1⟩=>?_))
 refine Aj (DR (AU (j a m d n _ p q1) λc w ⟨y,z,A,B,q2⟩=>?_))
 refine Aj (wpAny_standAt (Aj (DR (AU (k a w d z x y v b c u _ A q B r q2) λ_ G ⟨C,E,q3⟩=>?_))))
 exact wpAny_release ⟨d,C,E,q3⟩
def HD(b:TE)(g:TG):TS:=λD a H=>b a H λx c=>g x a c D.nx
theorem NY{b e:Expr}{c:TE}{g:TG}(f:PE X e c)(i:PG X b g)(j:swapsWithSole [b] e pos.line X.env=AB false:=by rfl)(k:swappedStores [b] e X.env=AB none:=by rfl)
  (l:(E1 [b] X.env).map (·.2)=[assign b X.env]:=by rfl):PS X (.Assign [b] e pos) (HD c g):=by
 intro a s d H D I h
 refine wpAny_Assign_stores (AU (f a s d H _ I h) λv m ⟨x,n,o,p,q1⟩=>?_) j k
 rw[l]
 exact AU (i a m d n x v _ o p q1) λ_ r q=>q
theorem NZ{i:Nat}{x:Af}{e:Expr}{c:TE}{a:AT}(d:X.N.Nodup)(f:X.N[i]?=some x)(g:Loc X.env.scope x)(j:PE X e c)(k:Dp e (some (.Name x a)) pos.line X.env=AB false:=by rfl)(l:X.fn x=true\/X.env.scope.names.lookup x=some .local:=by first|exact .inl rfl|exact .inr rfl|assumption):
  PS X (.Assign [.Name x a] e pos) (HD c (G3 i)):=by
 intro b s m H D I h
 refine wpAny_Assign_Name (AU (j b s m H _ I h) λv r ⟨y,n,o,p,q1⟩=>?_) k
 exact NU o d f g p (λt q=>⟨_,n,q,q1⟩) l
end
section
variable{X:Cx}{pos:AT}
end
structure It where
 go:Nat->Hp->Prop
 yld:Nat->Hp->V->Hp->Prop
 stop:Nat->Hp->Prop
def EQ(X:Cx)(a:List (Ad×AJ))(H:Hp)(b:Ad):Prop:=
 H b=none/\b≠X.env.locals/\b∉X.fs/\(b∈X.ex\/X.s₀.heap.objs.size<=b)/\(∀x c,X.env.cells.lookup x=some c->c≠b)/\∀p∈X.pn++a,p.1≠b
theorem Inv.fpOk{X:Cx}{a:List (Ad×AJ)}{σ:St}{H H':Hp}{s:Ac}{b:Ad}(I:Inv X a σ H s)(d:s.heap.objs.size<=b)(f:H' b=none):EQ X a H' b:=by
 refine⟨f,FL (Cu I.lt d),I.nofs d,.inr (BO I.sz d),λx c e z=>?_,λp g z=>?_⟩
 ·obtain⟨v,q⟩:=I.cell x c e
  exact absurd (Cu q.lt (by rw[z];exact d)) (FH _)
 ·exact absurd (Cu (Be (I.pin p g).1) (by rw[z];exact d)) (FH _)
structure Gh(P:AS)(w:Ai)(K:Ap)(tg:Expr)(J:It)(fp:List Ad)(it:Ad)(tn:Nat->Al->Prop):Prop where
 mem:it∈fp
 obj:∀i h,tn i h->∀b∈fp,∃o,h.get? b=some o/\∀v,o.data≠.cell v
 keep:∀i h h',tn i h->(∀b∈fp,∀o,h.get? b=some o->h'.get? b=some o)->tn i h'
 item:∀(X:Cx),X.prog=P->X.w=w->X.K=K->X.calm=true->∀(i:Nat) (pins:List (Ad×AJ)) (s:Ac) (σ:St) (H:Hp) (E:Aa->Ac->Prop),Inv X pins σ H s->(∀b∈fp,EQ X pins H b)->tn i s.heap->J.go i H ->
  wpAny (Ag P w) X.A (Bq (.ref it)) (λr s1=>∃u,r=some u /\
   wpAny (Ag P w) X.A (IH tg (.ref it) u) (λ_ s2=>∃x H',Inv X pins σ H' s2/\RelV x u/\J.yld i H x H'/\tn (i+1) s2.heap/\∀b∈fp,H' b=none) E s1) E s
 done:∀(X:Cx),X.prog=P->X.w=w->X.K=K->X.calm=true->∀(i:Nat) (pins:List (Ad×AJ)) (s:Ac) (σ:St) (H:Hp) (E:Aa->Ac->Prop),Inv X pins σ H s->(∀b∈fp,EQ X pins H b)->tn i s.heap->J.stop i H ->
  wpAny (Ag P w) X.A (Bq (.ref it)) (λr s1=>r=none/\Inv X pins σ H s1) E s
 self:∀(A:Ah) (i:Nat) (s:Ac) (Q:Aa->Ac->Prop) (E:Aa->Ac->Prop),tn i s.heap->Q (.ref it) s->wpAny (Ag P w) A (pyIter (.ref it)) Q E s
abbrev TI:=St->Hp->(It->Hp->Prop)->Prop
def RW(X:Cx)(a:List (Ad×AJ))(σ:St)(h:Expr)(R:It->Hp->Prop)(c:Aa)(e:Ac):Prop:=
 ∃(it:Ad) (f:List Ad) (g:Nat->Al->Prop) (J:It) (d:Hp),c=.ref it/\Inv X a σ d e/\Gh X.prog X.w X.K h J f it g/\g 0 e.heap/\(∀b∈f,EQ X a d b)/\R J d
def PI(X:Cx)(c iter:Expr)(d:TI):Prop:=
 ∀(a:List (Ad×AJ)) (s:Ac) (b:St) (H:Hp) (R:It->Hp->Prop),Inv X a b H s->d b H R ->
  wpAny (Ag X.prog X.w) X.A (Ar iter X.env) (λv e=>wpAny (Ag X.prog X.w) X.A (pyIter v) (RW X a b c R) X.xe e) X.xe s
theorem Ka{M:Model}{A:Ah}{E:Aa->Ac->Prop}{s:Ac}{b:Expr}{it:Ad}{u:Aa}{o:AJ}{n:String}{vs:Array Aa}{Q:Unit->Ac->Prop}(c:s.heap.get? it=some o)(d:o.cls=.type n)(hd:o.data=.fields vs)
  (e:["enumerate","zip","dict_itemiterator","dict_reverseitemiterator","odict_iterator","itertools.zip_longest","itertools.pairwise"].contains n=false) (a:Q () s):wpAny M A (IH b (.ref it) u) Q E s:=by
 unfold IH
 cases b<;>first
  |exact AC a
  |(cases u<;>first
    |exact AC a
    |(refine Aj (wpAny_load c ?_)
      rw[d,hd]
      show wpAny M A (if(["enumerate","zip","dict_itemiterator","dict_reverseitemiterator","odict_iterator","itertools.zip_longest","itertools.pairwise"].contains n&&vs[0]?==some (AI _))=true then _ else _) Q E s
      rw[if_neg (by intro h;rw[e,Bool.false_and]at h;cases h)]
      exact AC a))
def RX(K:Ap)(a:Ad):It:=
 ⟨λi H=>∃b x,Bn K H a b/\b[i]?=some x,λi H x c=>c=H/\∀b,Bn K H a b->b[i]?=some x,λi H=>∃b,Bn K H a b/\b.length<=i⟩
def RY(K:Ap)(a:Ad):It:=
 ⟨λi H=>∃b x,BE K H a b/\b[i]?=some x,λi H x c=>c=H/\∀b,BE K H a b->b[i]?=some x,λi H=>∃b,BE K H a b/\b.length<=i⟩
def Kb(lo:Int)(n:Nat):It:=⟨λi _=>i<n,λi H x a=>a=H/\x=.int (lo+i),λi _=>n<=i⟩
theorem as{P:AS}{w:Ai}{K:Ap}{T:Expr}(a it:Ad):Gh P w K T (RX K a) [it] it (λi h=>h.IsListIter it a i) where
 mem:=by simp
 obj:=λi h st b g=>by
  have e:b=it:=by simpa using g
  subst e
  obtain⟨o,e,c,d⟩:=st
  exact⟨o,e,λv z=>by rw[d]at z;cases z⟩
 keep:=λi h l st k=>st.at λo e=>k it (by simp) o e
 item:=by
  intro X q r t O i f s Q H E I m st y
  subst q r t
  obtain⟨U,x,n,A⟩:=y
  obtain⟨B,C,p,Y⟩:=I.list n
  obtain⟨u,hu,ru⟩:=C.get A
  obtain⟨G,J,f2,L,M,N⟩:=m it (by simp)
  refine wpAny_pyNext_list_item st p.isList (x:=u) (by simpa using hu) λl j sb=>?_
  have I1:Inv X f Q H {s with heap:=l}:=I.turned (t':=s.toks) (λb o g e=>(sb.2 b g).trans e) G J L M N
  obtain⟨o,e,c,d⟩:=id j
  exact⟨u,rfl,Ka (s:={s with heap:=l}) e c d (by decide) ⟨x,H,I1,ru,⟨rfl,λys hy=>by rw[I.list_inj hy n];exact A⟩,j,λb g=>(m b g).1⟩⟩
 done:=by
  intro X q r t O i f s Q H E I m st y
  subst q r t
  obtain⟨U,n,A⟩:=y
  obtain⟨B,C,p,Y⟩:=I.list n
  obtain⟨G,J,f2,L,M,N⟩:=m it (by simp)
  have hl:=C.length
  exact wpAny_pyNext_list_end (I.ok.hd O) st p.isList (by simp;omega) λl eb=>⟨rfl,I.turned (t':=s.toks) (λb o g e=>eb b o g e) G J L M N⟩
 self:=λ_ _ _ _ _ st h=>wpAny_pyIter_listiter st h
theorem au{P:AS}{w:Ai}{K:Ap}{T:Expr}(a it:Ad):Gh P w K T (RY K a) [it] it (λi h=>h.IsTupleIter it a i) where
 mem:=by simp
 obj:=λi h st b g=>by
  have e:b=it:=by simpa using g
  subst e
  obtain⟨o,e,c,d⟩:=st
  exact⟨o,e,λv z=>by rw[d]at z;cases z⟩
 keep:=λi h m st k=>st.at λo e=>k it (by simp) o e
 item:=by
  intro X r t y O i f s Q H E I n st A
  subst r t y
  obtain⟨U,x,q,B⟩:=A
  obtain⟨j,C,p,Y⟩:=I.tuple q
  obtain⟨u,hu,ru⟩:=C.get B
  obtain⟨G,J,f2,L,M,N⟩:=n it (by simp)
  refine wpAny_pyNext_tuple_item st (show s.heap.IsTuple a j.toArray from p) (x:=u) (by simpa using hu) λm l sb=>?_
  have I1:Inv X f Q H {s with heap:=m}:=I.turned (t':=s.toks) (λb o g e=>(sb.2 b g).trans e) G J L M N
  obtain⟨o,e,c,d⟩:=id l
  exact⟨u,rfl,Ka (s:={s with heap:=m}) e c d (by decide) ⟨x,H,I1,ru,⟨rfl,λys hy=>by rw[I.tuple_inj hy q];exact B⟩,l,λb g=>(n b g).1⟩⟩
 done:=by
  intro X r t y O i f s Q H E I n st A
  subst r t y
  obtain⟨U,q,B⟩:=A
  obtain⟨j,C,p,Y⟩:=I.tuple q
  obtain⟨G,J,f2,L,M,N⟩:=n it (by simp)
  have hl:=C.length
  exact wpAny_pyNext_tuple_end (I.ok.hd O) st (show s.heap.IsTuple a j.toArray from p) (by simp;omega) λm eb=>⟨rfl,I.turned (t':=s.toks) (λb o g e=>eb b o g e) G J L M N⟩
 self:=λ_ _ _ _ _ st h=>wpAny_pyIter_tupleiter st h
theorem av{P:AS}{w:Ai}{K:Ap}{G:Expr}(it:Ad)(lo:Int)(n:Nat):Gh P w K G (Kb lo n) [it] it (λi h=>IsRangeIter h it (lo+(i:Nat)*1) ((n:Int)-(i:Nat)) 1) where
 mem:=by simp
 obj:=λi h st b c=>by
  have e:b=it:=by simpa using c
  subst e
  exact⟨_,st,λv z=>by
   have J:Data.fields _=Data.cell v:=z
   cases J⟩
 keep:=λi h f st k=>k it (by simp) _ st
 item:=by
  intro X j l m p i a s B H E I g st q
  subst j l m
  obtain⟨r,u,L,x,y,A⟩:=g it (by simp)
  have W:=Walks.range (prog:=X.prog) (w:=X.w) (I.ok.hd p) it lo 1 n
  refine W.item i s _ _ q st λv f C M d N=>?_
  obtain⟨t,rfl⟩:=M
  have O:Inv X a B H {s with heap:=f,toks:=C}:=I.turned (λb o c e=>N b o (by simpa using c) e) r u x y A
  refine⟨_,rfl,Ka (s:={s with heap:=f,toks:=C}) (n:="range_iterator") d rfl rfl (by decide) ⟨.int (lo+i),H,O,⟨t,?_⟩,⟨rfl,rfl⟩,d,λb c=>(g b c).1⟩⟩
  rw[Int.mul_one]
 done:=by
  intro X j l m p i a s B H E I g st q
  subst j l m
  obtain⟨r,u,L,x,y,A⟩:=g it (by simp)
  exact wpAny_pyNext_range_end (I.ok.hd p) st (by have:n<=i:=q;omega) λf Q=>⟨rfl,I.turned (t':=s.toks) (λb o c e=>Q b o c e) r u x y A⟩
 self:=λ_ _ _ _ _ st h=>wpAny_pyIter_rangeiter st h
section
variable{X:Cx}{tg:Expr}
def aw(K:Ap)(c:TE):TI:=λd H R=>c d H λx b=>∃a,x=.ref a/\(∃e,Bn K b a e)/\R (RX K a) b
def ax(K:Ap)(c:TE):TI:=λd H R=>c d H λx b=>∃a,x=.ref a/\(∃e,BE K b a e)/\R (RY K a) b
theorem ay{l:Expr}{g:TE}(i:PE X l g):PI X tg l (aw X.K g):=by
 intro c s j H R I h
 refine AU (i c s j H _ I h) λv d ⟨x,k,f,m,q1⟩=>?_
 obtain⟨a,e,⟨u,n⟩,q⟩:=q1
 subst e
 cases m
 obtain⟨r,w,p,y⟩:=f.list n
 refine wpAny_pyIter_list p.isList ?_
 refine⟨d.heap.objs.size,[d.heap.objs.size],_,_,k,rfl,f.kept (t':=d.toks) λb o e=>Bk _ e,as a _,⟨_,BY _ rfl,rfl,rfl⟩,λb t=>?_,q⟩
 have e:b=d.heap.objs.size:=by simpa using t
 subst e
 exact f.fpOk (Bf _) (f.hok.fresh (Bf _))
theorem az{l:Expr}{i:TE}(j:PE X l i):PI X tg l (ax X.K i):=by
 intro c s k H R I h
 refine AU (j c s k H _ I h) λv d ⟨x,m,f,n,q1⟩=>?_
 obtain⟨a,e,⟨u,r⟩,q⟩:=q1
 subst e
 cases n
 obtain⟨g,w,p,y⟩:=f.tuple r
 refine wpAny_pyIter_tuple (show d.heap.IsTuple a g.toArray from p) ?_
 refine⟨d.heap.objs.size,[d.heap.objs.size],_,_,m,rfl,f.kept (t':=d.toks) λb o e=>Bk _ e,au a _,⟨_,BY _ rfl,rfl,rfl⟩,λb t=>?_,q⟩
 have e:b=d.heap.objs.size:=by simpa using t
 subst e
 exact f.fpOk (Bf _) (f.hok.fresh (Bf _))
theorem RZ{c:List (Ad×AJ)}{σ:St}{H:Hp}{s:Ac}{R:It->Hp->Prop}{E:Aa->Ac->Prop}{lo a:Int}{t u v:Tok}{d:Nat}(I:Inv X c σ H s)(g : -(2^62)<=lo)(h:lo<2^62)(i : -(2^62)<=a)(j:a<2^62)
  (q:R (Kb lo (a-lo).toNat) H):wpAny (Ag X.prog X.w) X.A (pyIter (.ref s.heap.objs.size)) (RW X c σ tg R) E {s with heap:=s.heap.push {cls:=.type "range",data:=.fields #[.int lo t,.int a u,.int 1 v]},toks:=d}:=by
 refine wpAny_pyIter_range (IsRange.new ..) (small_one g h i j) ?_
 have f:Inv X c σ H {s with heap:=s.heap.push {cls:=.type "range",data:=.fields #[.int lo t,.int a u,.int 1 v]},toks:=d}:=I.kept λb o e=>Bk _ e
 refine⟨(s.heap.push {cls:=.type "range",data:=.fields #[.int lo t,.int a u,.int 1 v]}).objs.size,[(s.heap.push {cls:=.type "range",data:=.fields #[.int lo t,.int a u,.int 1 v]}).objs.size],_,_,H,rfl,
  f.kept (t':=d) λb o e=>Bk _ e,av _ lo (a-lo).toNat,?_,λb k=>?_,q⟩
 ·have l:lo+((0:Nat):Int)*1=lo:=by simp
  have m:(((a-lo).toNat:Nat):Int)-((0:Nat):Int)=Builtin.Range.rangeSize lo a 1:=by rw[rangeSize_one];split<;>omega
  show IsRangeIter _ _ (lo+((0:Nat):Int)*1) ((((a-lo).toNat:Nat):Int)-((0:Nat):Int)) 1
  rw[l,m]
  exact BY _ rfl
 ·have e:b=(s.heap.push {cls:=.type "range",data:=.fields #[.int lo t,.int a u,.int 1 v]}).objs.size:=by simpa using k
  subst e
  exact f.fpOk (Bf _) (f.hok.fresh (Bf _))
def aA(a:TA):TI:=λb H R=>a b H λc d=>∃j:Int,c=[.int j] /\ -(2^62)<=j/\j<2^62/\R (Kb 0 j.toNat) d
def aC(a:TA):TI:=λb H R=>a b H λc d=>∃i j:Int,c=[.int i,.int j]/\(-(2^62)<=i/\i<2^62 /\ -(2^62)<=j/\j<2^62)/\R (Kb i (j-i).toNat) d
theorem aE{a:Expr}{c:TA}{p pos:AT}(d:Gl X "range")(f:X.mg "range"=none)(g:PA X [a] c)(i:AO [a] X.env=[(false,Ar a X.env)]:=by rfl):PI X tg (.Call (.Name "range" p) [a] [] pos) (aA c):=by
 intro b s k H R I h
 refine Call_ (FI I d f boot_range (Kc (AU (g pos b s k H _ I h) λo u ⟨v,w,l,m,q1⟩=>?_) i rfl))
 obtain⟨j,e,q1,q2,q⟩:=q1
 subst e
 cases m with
 |cons r n=>
  cases n
  obtain⟨t,rfl⟩:=r
  exact call_range_1 (RZ l (by omega) (by omega) q1 q2 (by simpa using q))
theorem aF{a b:Expr}{g:TA}{p pos:AT}(k:Gl X "range")(l:X.mg "range"=none)(m:PA X [a,b] g)(n:AO [a,b] X.env=[(false,Ar a X.env),(false,Ar b X.env)]:=by rfl)(c:AO [b] X.env=[(false,Ar b X.env)]:=by rfl):
  PI X tg (.Call (.Name "range" p) [a,b] [] pos) (aC g):=by
 intro d s o H R I h
 refine Call_ (FI I k l boot_range (Kc (AU (m pos d s o H _ I h) λx y ⟨z,A,u,v,q1⟩=>?_) (by rw[n,c]) (by rw[c];rfl)))
 obtain⟨i,j,e,⟨q1,q2,q3,q4⟩,q⟩:=q1
 subst e
 cases v with
 |cons r f=>
  cases f with
  |cons w f=>
   cases f
   obtain⟨t,rfl⟩:=r
   obtain⟨B,rfl⟩:=w
   exact call_range_2 (RZ u q1 q2 q3 q4 q)
def R5(f:TI)(g:TG)(h:TS):TS:=λD a H=>f a H λJ j=>∃W:Nat->Nat->St->Hp->Prop,(∃m,W 0 m a j)/\∀i m a H,W i m a H ->
 (J.stop i H/\D.nx a H)\/(J.go i H/\∃N:St->Hp->Prop,(∀b c,N b c->∃e,e<m/\W (i+1) e b c)/\∀x c,J.yld i H x c->g x a c λd k=>h {D with nx:=N,ct:=N,bk:=D.nx} d k)
def HE(a:List Ad)(h:Al):List (Ad×AJ):=a.filterMap λb=>(h.get? b).map λo=>(b,o)
theorem LF{a:List Ad}{h:Al}{b:Ad}{o:AJ}(c:b∈a)(e:h.get? b=some o):(b,o)∈HE a h:=List.mem_filterMap.mpr ⟨b,c,by rw[e];rfl⟩
theorem R6{a:List Ad}{h:Al}{p:Ad×AJ}(c:p∈HE a h):p.1∈a/\h.get? p.1=some p.2:=by
 obtain⟨b,d,e⟩:=List.mem_filterMap.mp c
 cases q:h.get? b with
 |none=>rw[q]at e;cases e
 |some o=>
  rw[q]at e
  have f:(b,o)=p:=Ew e
  subst f
  exact⟨d,q⟩
theorem Inv.pinned{a:List (Ad×AJ)}{σ:St}{H:Hp}{s:Ac}{c:List Ad}(I:Inv X a σ H s)(h:∀b∈c,EQ X a H b)(i:∀b∈c,∃o,s.heap.get? b=some o/\∀v,o.data≠.cell v):Inv X (a++HE c s.heap) σ H s:=
 I.pins_of λp j=>(CT.mp j).elim (λz=>I.pin p (CA _ z)) λz=>by
  obtain⟨f,e⟩:=R6 z
  obtain⟨k,l,m,_⟩:=h p.1 f
  obtain⟨o,g,d⟩:=i p.1 f
  rw[e]at g;cases g
  exact⟨e,k,l,m,d⟩
theorem Inv.unpinned{a pl:List (Ad×AJ)}{σ:St}{H:Hp}{s:Ac}(I:Inv X (a++pl) σ H s):Inv X a σ H s:=I.pins_of λp b=>I.pin p (CA _ (HB _ b))
theorem aG{iter:Expr}{z:List As}{wi:TI}{g:TG}{tb:TS}{pos:AT}(C:PassesOwn (Ag X.prog X.w) X.A X.env X.xe)(hc:X.calm=true)(hi:PI X tg iter wi)(hg:PG X tg g)(j:DP X z tb)
  (hs:∀x,E2 iter X.env x=AB x:=by intro _;rfl):PS X (.For tg iter z [] pos) (R5 wi g tb):=by
 intro a s σ H D I h
 refine wpAny_For (AU (hi a s σ H _ I h) λv s1 h1=>AU h1 λitv s2 h2=>?_) hs
 obtain⟨it,E,tn,J,H2,e,I2,T,O,f2,W,⟨m0,w0⟩,turn⟩:=h2
 subst e
 have k:∀{y:Hp},(∀b∈E,y b=none)->∀b∈E,EQ X a y b:=λhn b j=>⟨hn b j,(f2 b j).2⟩
 refine codeAny_forLoop_any (λn s'=>∃i l y,Inv X a l y s'/\tn i s'.heap/\(∀b∈E,y b=none)/\W i n l y) ?_ m0 ⟨0,σ,H2,I2,O,λb j=>(f2 b j).1,w0⟩
 rintro n s3 ⟨i,p,M,I3,G,L,w3⟩
 rcases turn i n p M w3 with⟨stop,qn⟩|⟨go,N,hN,step⟩
 ·refine LG C (AU (T.done X rfl rfl rfl hc i a s3 p M X.xe I3 (k L) G stop) λr s4 ⟨Q,I4⟩=>?_)
  subst Q
  exact wpAny_execs_nil ⟨p,M,I4,qn⟩
 ·refine LG C (AU (T.item X rfl rfl rfl hc i a s3 p M X.xe I3 (k L) G go) λr s4 ⟨u,Q,h4⟩=>?_)
  subst Q
  refine LG C (AU h4 λ_ s5 ⟨x,H5,I5,r5,y5,B,U⟩=>?_)
  have Y:=I5.pinned (k U) (T.obj _ _ B)
  refine LG C (AU (hg _ s5 p H5 x u _ Y r5 (step x H5 y5)) λ_ s6 ⟨σ6,H6,I6,q6⟩=>?_)
  refine LG C (AU (j _ s6 σ6 H6 _ I6 q6) λf s7 q7=>?_)
  have again:∀{c:St} {q:Hp},Inv X (a++HE E s5.heap) c q s7->N c q->∃m,m<n/\∃i l y,Inv X a l y s7/\tn i s7.heap/\(∀b∈E,y b=none)/\W i m l y:=λ{c q} t n7=>by
   obtain⟨m',hm,w7⟩:=hN c q n7
   refine⟨m',hm,i+1,c,q,t.unpinned,T.keep _ _ _ B λb j o e=>(t.pin (b,o) (CA _ (CA _ (LF j e)))).1,λb j=>?_,w7⟩
   obtain⟨o,e,d⟩:=T.obj _ _ B b j
   exact(t.pin (b,o) (CA _ (CA _ (LF j e)))).2.1
  cases f with
  |next=>obtain⟨c,q,t,n7⟩:=q7;exact again t n7
  |cont=>obtain⟨c,q,t,n7⟩:=q7;exact again t n7
  |brk=>obtain⟨c,q,t,q7⟩:=q7;exact⟨c,q,t.unpinned,q7⟩
  |ret v=>obtain⟨x7,c,q,t,r7,q7⟩:=q7;exact⟨x7,c,q,t.unpinned,r7,q7⟩
end
abbrev R2:=V->V->Hp->VK->Prop
def BU(X:Cx)(f:Aa->Aa->Sem Aa)(r:R2):Prop:=
 ∀(a:List (Ad×AJ)) (s:Ac) (b:St) (H:Hp) (x y:V) (v u:Aa) (Q:VK),Inv X a b H s->RelV x v->RelV y u->r x y H Q ->
  wpAny (Ag X.prog X.w) X.A (f v u) (EP X a b Q) X.xe s
def Oa(X:Cx)(f:Aa->Sem Aa)(r:V->Hp->VK->Prop):Prop:=
 ∀(a:List (Ad×AJ)) (s:Ac) (b:St) (H:Hp) (x:V) (v:Aa) (Q:VK),Inv X a b H s->RelV x v->r x H Q ->
  wpAny (Ag X.prog X.w) X.A (f v) (EP X a b Q) X.xe s
def A8(X:Cx)(f:Aa)(r:List V->Hp->VK->Prop):Prop:=
 ∀(a:List (Ad×AJ)) (s:Ac) (b:St) (H:Hp) (c:List V) (d:List Aa) (Q:VK),Inv X a b H s->Am c d->r c H Q ->
  wpAny (Ag X.prog X.w) X.A (call f d) (EP X a b Q) X.xe s
def aH(X:Cx)(r:V->Hp->(Bool->Hp->Prop)->Prop):Prop:=
 ∀(a:List (Ad×AJ)) (s:Ac) (b:St) (H:Hp) (x:V) (v:Aa) (Q:Bool->Hp->Prop),Inv X a b H s->RelV x v->r x H Q ->
  wpAny (Ag X.prog X.w) X.A (truthy v) (TP X a b Q) X.xe s
def II(r:R2)(b c:TE):TE:=λa H Q=>b a H λx d=>c a d λy e=>r x y e Q
def aI(r:V->Hp->VK->Prop)(a:TE):TE:=λb H Q=>a b H λx c=>r x c Q
def rI(C:Int->Int->Prop)(g:Int->Int->V):R2:=λx y H Q=>∃i j,x=.int i/\y=.int j/\C i j/\Q (g i j) H
def Gi(g:Int->Int->V):R2:=λx y H Q=>∃i j,x=.int i/\y=.int j/\Q (g i j) H
def rU(g:Int->V):V->Hp->VK->Prop:=λx H Q=>∃i,x=.int i/\Q (g i) H
section
variable{X:Cx}{a b c:Expr}{ta tb tc:TE}{pos:AT}
theorem Ob(k:PE X a ta)(l:PE X b tb){c:List (Ad×AJ)}{s:Ac}{σ:St}{H:Hp}{R:V->V->Hp->Prop}(I:Inv X c σ H s)
  (h:ta σ H λx j=>tb σ j λy d=>R x y d) {Q:Aa->Ac->Prop} {f:Aa->Aa->Sem Aa}
  (m:∀v u i x y d,Inv X c σ d i->RelV x v->RelV y u->R x y d->wpAny (Ag X.prog X.w) X.A (f v u) Q X.xe i):
  wpAny (Ag X.prog X.w) X.A (Ar a X.env) (λv e=>wpAny (Ag X.prog X.w) X.A (Ar b X.env) (λu g=>wpAny (Ag X.prog X.w) X.A (f v u) Q X.xe g) X.xe e) X.xe s:=by
 refine AU (k c s σ H _ I h) λv n ⟨x,j,o,p,q1⟩=>?_
 refine AU (l c n σ j _ o q1) λu i ⟨y,d,q,r,q2⟩=>?_
 exact m v u i x y d q p r q2
theorem aJ{op:Operator}{r:R2}(d:BU X (E3 op) r)(e:PE X a ta)(f:PE X b tb):PE X (.BinOp a op b pos) (II r ta tb):=by
 intro c s g H Q I h
 exact wpAny_BinOp (Ob e f I h λv u i x y j k l m q=>d c i g j x y v u Q k l m q)
theorem aK{op:UnaryOp}{r:V->Hp->VK->Prop}(d:Oa X (unaryOp op) r)(e:PE X a ta):PE X (.UnaryOp op a pos) (aI r ta):=by
 intro b s c H Q I h
 exact UnaryOp_ (AU (e b s c H _ I h) λv f ⟨x,g,i,j,q1⟩=>d b f c g x v Q i j q1)
theorem LH{f:Aa->Aa->Sem Aa}{C:Int->Int->Prop}{g:Int->Int->Int}
  (rule:∀(i j:Int) (t u:Tok) (s:Ac) (Q:Aa->Ac->Prop) (E:Aa->Ac->Prop),C i j->Q (.int (g i j) s.toks) {s with toks:=s.toks+1}->wpAny (Ag X.prog X.w) X.A (f (.int i t) (.int j u)) Q E s):
  BU X f (rI C λi j=>.int (g i j)):=by
 intro a s k H x y v u Q I b c h
 obtain⟨i,j,rfl,rfl,d,q⟩:=h
 obtain⟨t,rfl⟩:=b
 obtain⟨e,rfl⟩:=c
 exact rule i j t e s _ _ d ⟨.int (g i j),H,I.tok _,⟨_,rfl⟩,q⟩
theorem R7{f:Aa->Aa->Sem Aa}{g:Int->Int->Int}
  (rule:∀(i j:Int) (t u:Tok) (s:Ac) (Q:Aa->Ac->Prop) (E:Aa->Ac->Prop),Q (.int (g i j) s.toks) {s with toks:=s.toks+1}->wpAny (Ag X.prog X.w) X.A (f (.int i t) (.int j u)) Q E s):
  BU X f (Gi λi j=>.int (g i j)):=by
 intro a s e H x y v u Q I b c h
 obtain⟨i,j,rfl,rfl,q⟩:=h
 obtain⟨t,rfl⟩:=b
 obtain⟨d,rfl⟩:=c
 exact rule i j t d s _ _ ⟨.int (g i j),H,I.tok _,⟨_,rfl⟩,q⟩
theorem R8{f:Aa->Aa->Sem Aa}{g:Int->Int->Bool}
  (rule:∀(i j:Int) (t u:Tok) (s:Ac) (Q:Aa->Ac->Prop) (E:Aa->Ac->Prop),Q (.bool (g i j)) s->wpAny (Ag X.prog X.w) X.A (f (.int i t) (.int j u)) Q E s):
  BU X f (Gi λi j=>.bl (g i j)):=by
 intro a s e H x y v u Q I b c h
 obtain⟨i,j,rfl,rfl,q⟩:=h
 obtain⟨t,rfl⟩:=b
 obtain⟨d,rfl⟩:=c
 exact rule i j t d s _ _ ⟨.bl (g i j),H,I,rfl,q⟩
def Kd(i j:Int):Prop:=0<j/\j<1073741824
def IJ(i j:Int):Prop:=0<=j/\j<=1000000/\i.natAbs<2^64
def C4(i j:Int):Prop:=(-(2^64)<i/\i<2^64)\/(-(2^64)<j/\j<2^64)
theorem C4.ok{i j:Int}(h:C4 i j):IntMulOk i j:=by
 rcases h with⟨a,b⟩|⟨a,b⟩
 ·exact .of_left (intBits_le_64 a b)
 ·exact .of_right (intBits_le_64 a b)
theorem HF:BU X (E3 .Add) (Gi λi j=>.int (i+j)):=R7 λ_ _ _ _ _ _ _ q=>add_int q
theorem aL:BU X (E3 .Sub) (Gi λi j=>.int (i-j)):=R7 λ_ _ _ _ _ _ _ q=>sub_int q
theorem aM:BU X (E3 .Mult) (rI C4 λi j=>.int (i*j)):=LH λ_ _ _ _ _ _ _ a q=>mul_int q a.ok
theorem aN:BU X (E3 .FloorDiv) (rI Kd λi j=>.int (i/j)):=LH λi j _ _ _ _ _ a q=>by
 have b:(0:Int)<j:=a.1
 have c:j<1073741824:=a.2
 exact floordiv_int (by omega) (by rw[Int.fdiv_eq_ediv_of_nonneg i (by omega)];exact q) (.inl (PyProof.noPylong_small (by omega)))
theorem aO:BU X (E3 .Mod) (rI (λ_ j=>0<j) λi j=>.int (i%j)):=LH λi j _ _ _ _ _ a q=>by
 have b:(0:Int)<j:=a
 exact mod_int' (by omega) (by rw[Int.fmod_eq_emod_of_nonneg i (by omega)];exact q)
theorem aP:BU X (E3 .Pow) (rI IJ λi j=>.int (i^j.toNat)):=LH λ_ _ _ _ _ _ _ a q=>pow_int_small a.1 a.2.1 a.2.2 q
theorem aQ{f:Aa->Sem Aa}{g:Int->Int}
  (rule:∀(i:Int) (t:Tok) (s:Ac) (Q:Aa->Ac->Prop) (E:Aa->Ac->Prop),Q (.int (g i) s.toks) {s with toks:=s.toks+1}->wpAny (Ag X.prog X.w) X.A (f (.int i t)) Q E s):
  Oa X f (rU λi=>.int (g i)):=by
 intro a s c H x v Q I b h
 obtain⟨i,rfl,q⟩:=h
 obtain⟨t,rfl⟩:=b
 exact rule i t s _ _ ⟨.int (g i),H,I.tok _,⟨_,rfl⟩,q⟩
theorem aR:Oa X (unaryOp .USub) (rU λi=>.int (-i)):=aQ λ_ _ _ _ _ q=>neg_int q
end
section
variable{X:Cx}{a b c:Expr}{ta tb tc:TE}{pos:AT}
theorem aS{a:List (Ad×AJ)}{σ:St}{H:Hp}{s:Ac}{Q:VK}{k b:Bool}(I:Inv X a σ H s)(q:Q (.bl k) H)(e:k=b):EP X a σ Q (.bool b) s:=by
 subst e
 exact⟨.bl k,H,I,rfl,q⟩
theorem R9:BU X (Dd .LtE) (Gi λi j=>.bl (decide (i<=j))):=R8 λ_ _ _ _ _ _ _ q=>le_int q
theorem aT:BU X (Dd .Gt) (Gi λi j=>.bl (decide (j<i))):=R8 λ_ _ _ _ _ _ _ q=>gt_int q
theorem aU:BU X (Dd .In) (λx y H Q=>∃i j,x=.str i/\y=.str j/\Q (.bl (!(Oc j i 0 j.length 1).isEmpty)) H):=by
 intro a s d H x y v u Q I b c h
 obtain⟨i,j,rfl,rfl,q⟩:=h
 obtain⟨t,rfl⟩:=b
 obtain⟨e,rfl⟩:=c
 exact in_str (aS I q rfl)
theorem BU.or{f:Aa->Aa->Sem Aa}{r b:R2}(h:BU X f r)(h':BU X f b):BU X f (λx y H Q=>r x y H Q\/b x y H Q):=by
 intro a s c H x y v u Q I d e q
 rcases q with q|q
 ·exact h a s c H x y v u Q I d e q
 ·exact h' a s c H x y v u Q I d e q
theorem aV{op:CmpOp}{r:R2}(d:BU X (Dd op) r)(e:PE X a ta)(f:PE X b tb)(g:Gf op b=false):PE X (.Compare a [op] [b] pos) (II r ta tb):=by
 intro c s i H Q I h
 exact wpAny_Compare1 (Ob e f I h λv u j x y k l m n q=>d c j i k x y v u Q l m n q) g
def aX(t:TE):TT:=λa H Q=>t a H λx b=>∃k,x=.bl k/\Q k b
theorem Sa{op:CmpOp}{r:R2}(g:BU X (Dd op) r)(i:PE X a ta)(j:PE X b tb)(l:Gf op b=false):PT X (.Compare a [op] [b] pos) (aX (II r ta tb)):=by
 intro d s f H Q I h
 refine wpAny_isTrue_Compare1 (AU (i d s f H _ I h) λv m ⟨x,n,o,p,q1⟩=>AU (j d m f n _ o q1) λu q ⟨y,t,w,A,q2⟩=>
  AU (g d q f t x y v u _ w p A q2) λc G ⟨z,B,C,E,k,e,q3⟩=>?_) l
 subst e
 cases E
 exact G1 ⟨B,C,q3⟩
def Sb(r c:R2)(ta tb tc:TE):TE:=λa H Q=>ta a H λx d=>tb a d λy e=>r x y e λz b=>∃k,z=.bl k /\
 (if k=true then tc a b λf g=>c y f g Q else Q (.bl false) b)
theorem aY{op g:CmpOp}{r l:R2}(p:BU X (Dd op) r)(j:BU X (Dd g) l)(q:PE X a ta)(t:PE X b tb)(w:PE X c tc)
  (A:lastMarks [op,g] [b,c]=false:=by with_unfolding_all rfl):PE X (.Compare a [op,g] [b,c] pos) (Sb r l ta tb tc):=by
 intro f s i H Q I h
 refine Compare_chain (AU (q f s i H _ I h) λv B ⟨x,C,E,G,q1⟩=>chain_link (AU (t f B i C _ E q1) λu J ⟨y,L,M,m,q2⟩=>
  AU (p f J i L x y v u _ M G m q2) λd N ⟨z,n,o,O,k,e,q3⟩=>?_)) A
 subst e
 cases O
 refine G1 ?_
 cases k with
 |false=>exact ite_ff ⟨.bl false,n,o,rfl,q3⟩
 |true=>exact ite_tt (chain_last (AU (w f N i n _ o q3) λT U ⟨Y,H4,I4,r4,q4⟩=>j f U i H4 y Y u T Q I4 m r4 q4))
def Sc(K:Ap)(x:V)(H:Hp)(k:Bool):Prop:=
 match x with
 |.non=>k=false
 |.bl b=>k=b
 |.int i=>k=(i != 0)
 |.str y=>y.length<=Av/\k=((y.length:Int) != 0)
 |.byt y=>y.size<=Av/\k=((y.size:Int) != 0)
 |.ref p=>(∃a,Bn K H p a/\k=!a.isEmpty)\/(∃a,BE K H p a/\k=!a.isEmpty)\/∃c,H p=some (.dK c)/\k=!c.isEmpty
 |_=>False
theorem aZ{b:Type}{a:List (b×V)}{vs:List (b×Aa)}(r:KV a vs):(!vs.isEmpty)=!a.isEmpty:=by
 cases r<;>rfl
theorem Sd{xs:List V}{a:List Aa}(r:Am xs a):(!a.toArray.isEmpty)=!xs.isEmpty:=by
 cases r<;>simp
theorem IK:(Av:Nat)<2^63:=by rw[E4];decide
theorem bc:aH X (λx H Q=>∃k,Sc X.K x H k/\Q k H):=by
 intro u s C H x v Q I g h
 obtain⟨k,e,q⟩:=h
 have E:=IK
 have G:Av=16777216:=E4
 cases x with
 |non=>
  cases g
  have a:k=false:=e
  subst a
  exact truthy_none ⟨H,I,q⟩
 |bl b=>
  cases g
  have a:k=b:=e
  subst a
  exact G1 ⟨H,I,q⟩
 |int i=>
  obtain⟨t,rfl⟩:=g
  have a:k=(i != 0):=e
  subst a
  exact PySem.P.truthy_int ⟨H,I,q⟩
 |str y=>
  obtain⟨t,rfl⟩:=g
  obtain⟨A,a⟩:y.length<=Av/\k=((y.length:Int) != 0):=e
  subst a
  exact PySem.P.truthy_str (by omega) ⟨H,I.tok _,q⟩
 |byt y=>
  obtain⟨t,rfl⟩:=g
  obtain⟨A,a⟩:y.size<=Av/\k=((y.size:Int) != 0):=e
  subst a
  exact PySem.W.truthy_bytes (by omega) ⟨H,I.tok _,q⟩
 |ref p=>
  cases g
  have a:(∃f,Bn X.K H p f/\k=!f.isEmpty)\/(∃f,BE X.K H p f/\k=!f.isEmpty)\/∃c,H p=some (.dK c)/\k=!c.isEmpty:=e
  rcases a with⟨f,j,a⟩|⟨f,j,a⟩|⟨c,j,a⟩
  ·subst a
   obtain⟨n,r,o,z⟩:=I.list j
   have d:=r.length
   exact wpAny_truthy_list o.isList (by simp only[Bu];omega) ⟨H,I.tok _,by rw[Sd r];exact q⟩
  ·subst a
   obtain⟨n,r,o,z⟩:=I.tuple j
   have d:=r.length
   exact truthy_tuple o (by simp only[Bu];omega) ⟨H,I.tok _,by rw[Sd r];exact q⟩
  ·subst a
   obtain⟨z,B,l,r,m⟩:c.length<=Av/\(p==EY)=false/\∃l,KV c l/\s.heap.DictOf (NS X.prog X.w) p l:=I.hok p _ j
   have d:c.length=l.length:=FG r
   exact wpAny_truthy_dict B m (by omega) ⟨H,I.tok _,by rw[aZ r];exact q⟩
 |_=>exact(show False from e).elim
theorem be(d:PE X a ta)(e:∀b,isTrue a X.env b=(do let v <- b;standAt a.pos;D5 [v] (truthy v))):
  PT X a (λσ H Q=>ta σ H λx H'=>∃k,Sc X.K x H' k/\Q k H'):=by
 intro c s σ H Q I h
 exact isTrue_plain (AU (d c s σ H _ I h) λv f ⟨x,g,i,j,q1⟩=>bc c f σ g x v Q i j q1) (e _)
theorem Eh:BU X (E3 .Add) (λx y H Q=>∃i j,x=.str i/\y=.str j/\i.length+j.length<=Av/\Q (.str (i++j)) H):=by
 intro a s f H x y v u Q I b c h
 obtain⟨i,j,rfl,rfl,d,q⟩:=h
 obtain⟨t,rfl⟩:=b
 obtain⟨e,rfl⟩:=c
 exact add_str (λe g=>⟨.str (i++j),H,I.tok _,⟨_,rfl⟩,q⟩) d
theorem D6{x:V}{us:List Aa}(r:Am [x] us):∃u,us=[u]/\RelV x u:=by
 cases r with
 |cons a b=>cases b;exact⟨_,rfl,a⟩
theorem Ke{x y:V}{us:List Aa}(r:Am [x,y] us):∃u a,us=[u,a]/\RelV x u/\RelV y a:=by
 cases r with
 |cons b c=>
  cases c with
  |cons d e=>cases e;exact⟨_,_,rfl,b,d⟩
theorem bf(c:X.calm=true):A8 X (.builtin "max") (λxs H Q=>∃i j,xs=[.int i,.int j]/\Q (.int (if j>i then j else i)) H):=by
 intro b s d H xs e Q I r h
 obtain⟨i,j,rfl,q⟩:=h
 obtain⟨u,f,rfl,⟨t,rfl⟩,⟨g,rfl⟩⟩:=Ke r
 refine max_two_ints (I.ok.hd c) λl m k=>⟨_,H,I.kept k,?_,q⟩
 by_cases a:j>i
 ·rw[if_pos a,if_pos a];exact⟨_,rfl⟩
 ·rw[if_neg a,if_neg a];exact⟨_,rfl⟩
theorem bg(c:X.calm=true):A8 X (.builtin "min") (λxs H Q=>∃i j,xs=[.int i,.int j]/\Q (.int (if j<i then j else i)) H):=by
 intro b s d H xs e Q I r h
 obtain⟨i,j,rfl,q⟩:=h
 obtain⟨u,f,rfl,⟨t,rfl⟩,⟨g,rfl⟩⟩:=Ke r
 refine min_two_ints (I.ok.hd c) λl m k=>⟨_,H,I.kept k,?_,q⟩
 by_cases a:j<i
 ·rw[if_pos a,if_pos a];exact⟨_,rfl⟩
 ·rw[if_neg a,if_neg a];exact⟨_,rfl⟩
theorem Se:A8 X (.type "int") (λxs H Q=>(∃i,xs=[.int i]/\Q (.int i) H)\/∃k,xs=[.bl k]/\Q (.int (if k then 1 else 0)) H):=by
 intro a s c H xs d Q I r h
 rcases h with⟨i,rfl,q⟩|⟨k,rfl,q⟩
 ·obtain⟨u,rfl,t,rfl⟩:=D6 r
  exact call_int_int ⟨.int i,H,I,⟨_,rfl⟩,q⟩
 ·obtain⟨u,rfl,b⟩:=D6 r
  cases b
  exact call_int_bool ⟨.int (if k then 1 else 0),H,I.tok _,⟨_,rfl⟩,q⟩
def Sf(K:Ap)(x:V)(H:Hp)(n:Nat):Prop:=
 match x with
 |.str y=>y.length<=Av/\n=y.length
 |.byt y=>y.size<=Av/\n=y.size
 |.ref p=>(∃a,Bn K H p a/\n=a.length)\/∃a,BE K H p a/\n=a.length
 |_=>False
theorem Z6:A8 X (.builtin "len") (λxs H Q=>∃x n,xs=[x]/\Sf X.K x H n/\Q (.int n) H):=by
 intro j s m H xs o Q I r h
 obtain⟨x,n,rfl,e,q⟩:=h
 obtain⟨u,rfl,c⟩:=D6 r
 have v:=IK
 have w:Av=16777216:=E4
 cases x with
 |str y=>
  obtain⟨t,rfl⟩:=c
  obtain⟨k,b⟩:y.length<=Av/\n=y.length:=e
  subst b
  exact len_str (by omega) ⟨.int _,H,I.tok _,⟨_,rfl⟩,q⟩
 |byt y=>
  obtain⟨t,rfl⟩:=c
  obtain⟨k,b⟩:y.size<=Av/\n=y.size:=e
  subst b
  exact PySem.W.len_bytes (by omega) ⟨.int _,H,I.tok _,⟨_,rfl⟩,q⟩
 |ref p=>
  cases c
  have b:(∃xs,Bn X.K H p xs/\n=xs.length)\/∃xs,BE X.K H p xs/\n=xs.length:=e
  rcases b with⟨xs,d,b⟩|⟨xs,d,b⟩
  ·subst b
   obtain⟨f,g,i,l⟩:=I.list d
   have a:=g.length
   exact Calls.call_len_list i.isList (by simp only[Bu];omega) ⟨.int xs.length,H,I.tok _,⟨_,by simp only[Bu];rw[a]⟩,q⟩
  ·subst b
   obtain⟨f,g,i,l⟩:=I.tuple d
   have a:=g.length
   exact len_tuple i (by simp only[Bu];omega) ⟨.int xs.length,H,I.tok _,⟨_,by simp only[Bu];rw[a]⟩,q⟩
 |_=>exact(show False from e).elim
end
structure Ei(h:Al)(x dx C:Ad)(mA:Af->Option Aa):Prop where
 obj:h.get? x=some (HA C dx)
 ns:h.Ns1 dx mA
 ne:dx≠x
theorem bh{h:Al}{c:Ad}{d:Af->Option Aa}(n:h.Ns1 c d):∃f,h.get? c=some f/\∀name,PySem.W.lookIn name f=some (d name):=by
 obtain⟨o,g,p,i,hd,j,_,k⟩:=n
 refine⟨o,i,λname=>?_⟩
 have e:=k name
 unfold nsFind findBy at e
 rw[<- Array.find?_toList]at e
 unfold PySem.W.lookIn
 rw[hd]
 dsimp only
 split
 ·rename_i y q
  rw[q]at e
  exact congrArg some e
 ·rename_i q
  rw[q]at e
  have a:g.toList.any (·.refKey)=false:=by
   rw[List.any_eq_false]
   intro y l
   obtain⟨z,t,b⟩:=j y (Array.mem_toList_iff.mp l)
   simp[DictEntry.refKey,b]
  have m:¬ g.toList.any (·.refKey)=true:=by rw[a];exact Gd
  rw[if_neg m]
  exact congrArg some e
theorem Ei.look{h:Al}{x b C:Ad}{c:Af->Option Aa}(I:Ei h x b C c):∃a,PySem.W.InstAt h x (HA C b) C (some a)/\∀name,PySem.W.lookIn name a=some (c name):=
 let⟨a,d,e⟩:=bh I.ns
 ⟨a,⟨I.obj,rfl,rfl,d⟩,e⟩
section
variable{prog:AS}{w:Ai}{A:Ah}{E:Aa->Ac->Prop}{s:Ac}{K:Ap}{x dx C f:Ad}{mA:Af->Option Aa}{name:Af}{v:Aa}
theorem bi{a:Bool}{Q:Aa->Ac->Prop}(X:K.In s.heap)(I:Ei s.heap x dx C mA)(c:PySem.W.plainGet K C name=true)(d:PySem.W.hasDictIn K C=true)
  (e:G4 K (.ref C) name=some none) (f:mA name=some v) (b:PySem.W.handedIn v=true) (h:Q v {s with toks:=s.toks+1}):
  wpAny (Ag prog w) A (getAttr (.ref x) name a) Q E s:=by
 obtain⟨i,J,g⟩:=I.look
 exact PySem.W.get_value X J (PySem.W.plainGet_of c).1 (PySem.W.findObj_own d e rfl (by rw[g,f])) b h
theorem bj{pl:Sem Bool}{Q:Aa×List Aa->Ac->Prop}(X:K.In s.heap)(I:Ei s.heap x dx C mA)(a:PySem.W.plainGet K C name=true)
  (b:G4 K (.ref C) name=some (some (.ref f))) (c:PySem.W.isFn K (.ref f)=true) (d:mA name=none) (h:Q (.ref f,[.ref x]) s):
  wpAny (Ag prog w) A (getMethod (.ref x) name pl) Q E s:=by
 obtain⟨e,J,g⟩:=I.look
 exact PySem.W.method_fn X J (PySem.W.plainGet_of a).1 (PySem.W.plainGet_of a).2 b (beq_iff_eq.mp c) (by show(PySem.W.lookIn name e).map (·.isSome)=some false;rw[g,d];rfl) h
theorem bn{ns:List Af}{Q:Unit->Ac->Prop}(X:K.In s.heap)(I:Ei s.heap x dx C mA)
  (j:G4 K (.ref C) "__setattr__"=some (some (.builtin "object.__setattr__"))) (k:PySem.W.plainOver K C=true) (l:PySem.W.takerIn K C name=some none) (m:PySem.W.hasDictIn K C=true)
  (n:PySem.Within mA ns) (hsz:ns.length<=Av)
  (h:∀h',Ei h' x dx C (λy=>if y=name then some v else mA y)->C3 dx s.heap h'->Q () {s with heap:=h',toks:=s.toks+2}):
  wpAny (Ag prog w) A (setAttr (.ref x) name v) Q E s:=by
 obtain⟨u,J,z⟩:=I.look
 refine PySem.W.set_plain X J j (PySem.W.osa_open (s:={s with toks:=s.toks+1}) (r:=none) X J k l λb=>?_)
 obtain⟨B,o,e⟩:=PySem.W.any_some m
 have p:s.heap.get? x=some ⟨.ref C,some dx,.plain,#[]⟩:=I.obj
 refine Aj (AC (Aj (Aj (wpAny_loadPart p (Aj (PySem.W.Looks.here (s:={s with toks:=s.toks+1}) (PySem.W.looks_clsIn X o) ?_))))))
 rw[e]
 refine AC (a:=some dx) (Aj (AC (Aj ?_)))
 refine wpAny_nsSet1 (s:={s with toks:=s.toks+1}) I.ns λh' c d=>?_
 obtain⟨G,q,t,f,g,i⟩:=c.count (PySem.Within.cons name v n)
 refine Aj (wpAny_lookBehind f (by rw[g];exact pastItsLine_dict (BO i (by rw[A9];omega))) ?_)
 exact AC (h _ ⟨(d.2 _ (BX I.ne)).trans I.obj,c,I.ne⟩ d)
theorem Sg{R:Result->Ac->Prop}{vs:List Aa}{a:List (Af×Aa)}(X:K.In s.heap)(b:PySem.W.makesIn K C=true)
  (c:G4 K (.ref C) "__init__"=some (some (.ref f))) (e:PySem.W.typeIn K (.ref f)=some (.type "function"))
  (h:codeAny (Ag prog w) (A.under (.builtin "type.__call__" ⟨.ref C::vs,a⟩)) (.call (.ref f) ⟨.ref (s.heap.objs.size+1)::vs,a⟩) (PySem.W.InitBack (s.heap.objs.size+1) R)
   {s with heap:=(s.heap.push G5).push (HA C s.heap.objs.size)}):
  codeAny (Ag prog w) A (.call (.ref C) ⟨vs,a⟩) R s:=by
 obtain⟨i,g,d,t,os⟩:=s
 exact PySem.W.make_core (PySem.W.makes_of X b) (PySem.W.looks_findIn X c) (λself=>PySem.W.bind_fn X self e) (.inl rfl) h
end
def DD(f:Af)(v:V):List (Af×V)->List (Af×V)
 |[]=>[(f,v)]
 |(g,x)::r=>if g=f then(g,v)::r else(g,x)::DD f v r
theorem Sh(f g:Af)(v:V):∀fs:List (Af×V),(DD f v fs).lookup g=if g=f then some v else fs.lookup g
 |[]=>by
  show List.lookup g [(f,v)]=_
  by_cases h:g=f
  ·have a:(g==f)=true:=beq_iff_eq.mpr h
   simp only[List.lookup,a,if_pos h]
  ·have a:(g==f)=false:=beq_eq_false_iff_ne.mpr h
   simp only[List.lookup,a,if_neg h]
 |(k,x)::r=>by
  have c:=Sh f g v r
  rw[show DD f v ((k,x)::r)=(if k=f then(k,v)::r else(k,x)::DD f v r)from rfl]
  by_cases b:k=f
  ·rw[if_pos b]
   by_cases h:g=k
   ·have a:(g==k)=true:=beq_iff_eq.mpr h
    simp only[List.lookup,a,if_pos (h.trans b)]
   ·have a:(g==k)=false:=beq_eq_false_iff_ne.mpr h
    simp only[List.lookup,a,if_neg (λe:g=f=>h (e.trans b.symm))]
  ·rw[if_neg b]
   by_cases h:g=k
   ·have a:(g==k)=true:=beq_iff_eq.mpr h
    simp only[List.lookup,a,if_neg (λe:g=f=>b (h.symm.trans e))]
   ·have a:(g==k)=false:=beq_eq_false_iff_ne.mpr h
    simp only[List.lookup,a]
    exact c
theorem Od(f:Af)(v:V):∀fs:List (Af×V),f∈(DD f v fs).map (·.1)/\∀g,g∈fs.map (·.1)->g∈(DD f v fs).map (·.1)
 |[]=>⟨by simp[DD],λg h=>by simp at h⟩
 |(k,x)::r=>by
  obtain⟨b,i2⟩:=Od f v r
  rw[show DD f v ((k,x)::r)=(if k=f then(k,v)::r else(k,x)::DD f v r)from rfl]
  by_cases a:k=f
  ·rw[if_pos a]
   subst a
   exact⟨by simp,λg h=>by simpa using h⟩
  ·rw[if_neg a]
   refine⟨?_,λg h=>?_⟩
   ·rw[AY]
    exact BA _ b
   ·rw[AY]at h ⊢
    rcases Bm.mp h with e|e
    ·exact Bm.mpr (.inl e)
    ·exact BA _ (i2 g e)
theorem Si(f:Af)(v:V):∀fs:List (Af×V),(DD f v fs).length<=fs.length+1
 |[]=>by simp[DD]
 |(k,x)::r=>by
  have b:=Si f v r
  rw[show DD f v ((k,x)::r)=(if k=f then(k,v)::r else(k,x)::DD f v r)from rfl]
  by_cases a:k=f
  ·rw[if_pos a,A9,A9];omega
  ·rw[if_neg a,A9,A9];omega
theorem B6.some_of{v:V}{o:Option Aa}(r:B6 (some v) o):∃u,o=some u/\RelV v u:=by
 cases o with
 |none=>exact(show False from r).elim
 |some u=>exact⟨u,rfl,r⟩
theorem B6.none_of{o:Option Aa}(r:B6 none o):o=none:=by
 cases o with
 |none=>rfl
 |some u=>exact(show False from r).elim
theorem bo{v:V}{u:Aa}(r:RelV v u):PySem.W.handedIn u=true:=by
 cases v with
 |non=>cases(show u=DC from r);rfl
 |bl b=>cases(show u=Value.bool b from r);rfl
 |int i=>obtain⟨t,e⟩:=(show ∃t,u=Value.int i t from r);cases e;rfl
 |str x=>obtain⟨t,e⟩:=(show ∃t,u=Value.str x t from r);cases e;rfl
 |byt b=>obtain⟨t,e⟩:=(show ∃t,u=Value.bytes b t from r);cases e;rfl
 |flt b=>obtain⟨t,e⟩:=(show ∃t,u=Value.float b t from r);cases e;rfl
 |ref a=>cases(show u=Bv a from r);rfl
 |ty n=>cases(show u=GY n from r);rfl
section
variable{P:AS}{w:Ai}{H H':Hp}{h h':Al}{a C dx:Ad}{fs fs':List (Af×V)}
theorem Oe(hok:BV P w H h)(e:H a=some (.ins C dx fs)):∃b,Ei h a dx C b/\(∀f,B6 (fs.lookup f) (b f))/\PySem.Within b (fs.map (·.1))/\fs.length<=1000/\H dx=some (.own a):=by
 obtain⟨d,z,ne,ob,b,n,r,q⟩:=(show AZ P w H h a (.ins C dx fs)from hok a _ e)
 exact⟨b,⟨ob,n,ne⟩,r,q,z,d⟩
end
structure D7(K:Ap)(C:Ad):Prop where
 pg:PySem.W.plainGet K C Str.empty=true
 hd:PySem.W.hasDictIn K C=true
 po:PySem.W.plainOver K C=true
 sa:G4 K (.ref C) "__setattr__"=some (some (.builtin "object.__setattr__"))
theorem D7.get{K:Ap}{C:Ad}(c:D7 K C)(f:Af):PySem.W.plainGet K C f=true:=c.pg
def Br(K:Ap)(C:Ad)(f:Af):Prop:=G4 K (.ref C) f=some none
theorem Br.taker{K:Ap}{C:Ad}{f:Af}(n:Br K C f):PySem.W.takerIn K C f=some none:=by
 unfold PySem.W.takerIn
 rw[show G4 K (.ref C) f=some none from n]
 rfl
structure HG(K:Ap)(C:Ad)(m:Af)(f:Ad):Prop where
 at_:G4 K (.ref C) m=some (some (.ref f))
 fn:PySem.W.isFn K (.ref f)=true
 kp:HH K (.ref f)=true
section
variable{X:Cx}{pins:List (Ad×AJ)}{σ:St}{H:Hp}{s:Ac}{a C dx:Ad}{fs:List (Af×V)}{f:Af}{v:V}{A:Ah}{E:Aa->Ac->Prop}
theorem bp{b:Bool}{Q:Aa->Ac->Prop}(I:Inv X pins σ H s)(e:H a=some (.ins C dx fs))(c:D7 X.K C)(n:Br X.K C f)(l:fs.lookup f=some v)
  (h:∀u s',Inv X pins σ H s'->RelV v u->Q u s'):wpAny (Ag X.prog X.w) A (getAttr (.ref a) f b) Q E s:=by
 obtain⟨g,O,r,_,_,_⟩:=Oe I.hok e
 obtain⟨u,i,d⟩:=B6.some_of (v:=v) (o:=g f) (by rw[<- l];exact r f)
 exact bi I.kIn O (c.get f) c.hd n i (bo d) (h u _ (I.tok _) d)
theorem Of{m:Af}{g:Ad}{pl:Sem Bool}{Q:Aa×List Aa->Ac->Prop}(I:Inv X pins σ H s)(e:H a=some (.ins C dx fs))(c:D7 X.K C)(k:HG X.K C m g)(l:fs.lookup m=none)
  (h:Q (.ref g,[.ref a]) s):wpAny (Ag X.prog X.w) A (getMethod (.ref a) m pl) Q E s:=by
 obtain⟨b,O,r,_,_,_⟩:=Oe I.hok e
 have d:b m=none:=B6.none_of (by rw[<- l];exact r m)
 exact bj I.kIn O (c.get m) k.at_ k.fn d h
theorem bq{y:V}{u:Aa}{Q:Unit->Ac->Prop}(I:Inv X pins σ H s)(e:H a=some (.ins C dx fs))(c:D7 X.K C)(n:Br X.K C f)(J:fs.length<1000)(l:RelV y u)
  (h:∀s',Inv X pins σ (AK H a (.ins C dx (DD f y fs))) s'->Q () s'):wpAny (Ag X.prog X.w) A (setAttr (.ref a) f u) Q E s:=by
 obtain⟨i,O,r,j,_,k⟩:=Oe I.hok e
 have m:(fs.map (·.1)).length<=Av:=by rw[Bb,E4];omega
 refine bn I.kIn O c.sa c.po n.taker c.hd j m λp d t=>h _ ?_
 have hd:∃o,p.get? dx=some o:=let⟨o,_,_,v,_⟩:=d.ns;⟨o,v⟩
 refine I.write (x:=a) (e:=dx) (by rw[e];exact FM) (.inr k) (λb q B z=>(t.2 b B).trans z) hd ?_
 refine⟨by rw[Zq O.ne];exact k,?_,O.ne,d.obj,_,d.ns,λg=>?_,λg G=>?_⟩
 ·have:=Si f y fs;omega
 ·show B6 ((DD f y fs).lookup g) (if g=f then some u else i g)
  rw[Sh]
  by_cases q:g=f
  ·rw[if_pos q,if_pos q];exact l
  ·rw[if_neg q,if_neg q];exact r g
 ·by_cases q:g=f
  ·rw[q];exact(Od f y fs).1
  ·refine(Od f y fs).2 g (j g λz=>G ?_)
   show(if g=f then some u else i g)=none
   rw[if_neg q];exact z
theorem Inv.made(I:Inv X pins σ H s):Inv X pins σ (AK (AK H s.heap.objs.size (.own (s.heap.objs.size+1))) (s.heap.objs.size+1) (.ins C s.heap.objs.size []))
  {s with heap:=(s.heap.push G5).push (HA C s.heap.objs.size)}:=by
 have c:(s.heap.push G5).get? s.heap.objs.size=some G5:=BY s.heap rfl
 have d:((s.heap.push G5).push (HA C s.heap.objs.size)).get? (s.heap.objs.size+1)=some (HA C s.heap.objs.size):=by
  have:=BY (s.heap.push G5) (o:=HA C s.heap.objs.size) rfl
  rwa[FN]at this
 have f:(s.heap.push G5).Ns s.heap.objs.size (λ_=>none):=⟨G5,#[],_,c,rfl,(λe g=>absurd g (by simp)),λ_=>rfl⟩
 have h:=I.laid (a:=s.heap.objs.size) (o:=.own (s.heap.objs.size+1)) (h':=s.heap.push G5) (t':=s.toks) (λb u q=>Bk _ q) (Bf _) ⟨_,c⟩
 refine h.laid (a:=s.heap.objs.size+1) (o:=.ins C s.heap.objs.size []) (t':=s.toks) (λb u q=>Bk _ q) (Nat.le_of_eq (FN _ _)) ?_
 have ne:s.heap.objs.size≠s.heap.objs.size+1:=BS (LI _)
 refine⟨by rw[Zq ne,ZP],Dq _,ne,d,λ_=>none,(Heap.Ns1.of_empty f).at λo q=>Bk _ q,λ_=>FM,λy j=>absurd rfl j⟩
theorem br{prog:AS}{w:Ai}{env:Env}{e:Expr}{f:Af}{pos:AT}{s:Ac}{Q:Aa->Ac->Prop}(b:Gj e f env (Ar e env)=Ar e env)
  (h:wpAny (Ag prog w) A (Ar e env) (λo a=>wpAny (Ag prog w) A (getAttr o f true) Q E a) E s):wpAny (Ag prog w) A (Ar (.Attribute e f pos) env) Q E s:=
 Attribute_any_ h (by rw[arm_eval_Attribute,b])
end
def bt(K:Ap)(d:TE)(f:Af):TE:=λe H Q=>d e H λx b=>∃a C g c v,x=.ref a/\b a=some (.ins C g c)/\D7 K C/\Br K C f/\c.lookup f=some v/\Q v b
def bu(K:Ap)(g h:TE)(f:Af):TS:=λD b H=>h b H λy i=>g b i λx d=>∃a C e c,x=.ref a/\d a=some (.ins C e c)/\D7 K C/\Br K C f/\c.length<1000 /\
 D.nx b (AK d a (.ins C e (DD f y c)))
section
variable{X:Cx}{o e value:Expr}{f:Af}{pos pos' tpos:AT}{ta tv:TE}
theorem bv(d:PE X e ta)(g:Gj e f X.env (Ar e X.env)=Ar e X.env):PE X (.Attribute e f pos) (bt X.K ta f):=by
 intro b s i H Q I h
 refine br g (AU (d b s i H _ I h) λu t ⟨x,j,k,m,a,C,w,y,v,ex,o,c,n,l,q⟩=>?_)
 subst ex
 obtain rfl:u=Bv a:=m
 exact bp k o c n l λz A p r=>⟨v,j,p,r,q⟩
theorem Sj(e:PE X o ta)(g:PE X value tv)(i:Dp value (some (.Attribute o f pos')) pos.line X.env=AB false):PS X (.Assign [.Attribute o f pos'] value pos) (bu X.K ta tv f):=by
 intro b s d H D I h
 refine plainObj_wpAny_Assign_Attribute (AU (g b s d H _ I h) λu j ⟨y,k,m,p,q⟩=>AU (e b j d k _ m q) λr A ⟨x,B,t,v,a,C,E,G,ex,w,c,n,l,q2⟩=>?_) i
 subst ex
 obtain rfl:r=Bv a:=v
 exact bq t w c n l p λJ z=>⟨d,_,z,q2⟩
theorem lT{pl:Sem Bool}{m:Af}{b:AT}{args:List Expr}{d:List (Ad×AJ)}{s:Ac}{σ:St}{H:Hp}{Q:Aa->Ac->Prop}{o:TE}(v:PE X e o)(I:Inv X d σ H s)
  (h:o σ H λx j=>∃a C p fs g,x=.ref a/\j a=some (.ins C p fs)/\D7 X.K C/\HG X.K C m g/\fs.lookup m=none /\
   ∀i,Inv X d σ j i->wpAny (Ag X.prog X.w) X.A (callWith pos (.ref g) [.ref a] (AG pos (AO args X.env)) (Fi pos (Fj [] X.env))) Q X.xe i)
  (y:Ar (.Call (.Attribute e m b) args [] pos) X.env=(do
   let r <- Ar e X.env
   standAt b.atName
   let(f,n) <- D5 [r] (getMethod r m pl)
   callWith pos f n (AG pos (AO args X.env)) (Fi pos (Fj [] X.env)))):
  wpAny (Ag X.prog X.w) X.A (Ar (.Call (.Attribute e m b) args [] pos) X.env) Q X.xe s:=by
 refine PySem.W.methodCall_KW (pl:=pl) (AU (v d s σ H _ I h) λu i ⟨x,j,t,z,a,C,p,fs,g,ex,B,c,k,l,q⟩=>?_) y
 subst ex
 obtain rfl:u=Bv a:=z
 exact Of t B c k l (q i t)
end
section
variable{X:Cx}{pins:List (Ad×AJ)}{σ:St}{H:Hp}{s:Ac}{A:Ah}{E:Aa->Ac->Prop}{Q:Aa->Ac->Prop}{c:Aa}{b:Bool}
end
structure AR(k:Nat)(A:Ah):Prop where
 hd:A.handled=none
 dp:A.depth+3*k+5<recursionLimit
 un:A.units+16*k+200<AE
theorem AR.mono{j k:Nat}{A:Ah}(r:AR k A)(h:j<=k):AR j A:=⟨r.hd,by have:=r.dp;omega,by have:=r.un;omega⟩
theorem AR.deeper{k:Nat}{A:Ah}(r:AR (k+1) A)(env:Env):AR k (A.deeper env):=
 ⟨r.hd,by have:=r.dp;show A.depth+1+3*k+5<_;omega,by have:=r.un;show A.units+3+16*k+200<_;omega⟩
theorem AR.in1{k:Nat}{A:Ah}(r:AR (k+1) A):AR k A.in1:=
 ⟨r.hd,by have:=r.dp;show A.depth+3*k+5<_;omega,by have:=r.un;show A.units+1+16*k+200<_;omega⟩
theorem bw{A:Ah}{C:Ad}{us:List Aa}{a:List (Af×Aa)}:(A.under (.builtin "type.__call__" ⟨.ref C::us,a⟩)).depth=A.depth+1:=by
 first|rfl|simp[Around.under,Code.weight,Code.isCreation,Code.isGuard,Code.isCaller,Code.frames,Code.isFrame,guardIds]
theorem bz{A:Ah}{C:Ad}{us:List Aa}{a:List (Af×Aa)}:(A.under (.builtin "type.__call__" ⟨.ref C::us,a⟩)).units=A.units+1:=by
 first|rfl|simp[Around.under,Code.cUnits,Code.frames,Code.isFrame]
theorem AR.make{k:Nat}{A:Ah}(r:AR (k+1) A)(C:Ad)(us:List Aa)(a:List (Af×Aa)):AR k (A.under (.builtin "type.__call__" ⟨.ref C::us,a⟩)):=
 ⟨r.hd,by have:=r.dp;rw[bw];omega,by have:=r.un;rw[bz];omega⟩
theorem AR.depth{k:Nat}{A:Ah}(r:AR k A):A.depth<recursionLimit:=by have:=r.dp;omega
theorem AR.units{k:Nat}{A:Ah}(r:AR k A):A.units+64<AE:=by have:=r.un;omega
def LJ:TA:=λ_ H Q=>Q [] H
def Sk(b:TE)(c:TA):TA:=λa H Q=>b a H λx d=>c a d λe f=>Q (x::e) f
section
variable{X:Cx}{e:Expr}{es:List Expr}{te:TE}{t:TA}{pos:AT}
theorem BM:PA X [] LJ:=λ_ _ _ _ H Q I h=>Calls.spliced_nil ⟨[],H,I,.nil,h⟩
theorem E5(c:PE X e te)(d:PA X es t)(f:AO (e::es) X.env=(false,Ar e X.env)::AO es X.env:=by rfl):PA X (e::es) (Sk te t):=by
 intro pos a s b H Q I h
 rw[f]
 show wpAny _ _ (spliced ((false,Ar e X.env)::AG pos (AO es X.env))) _ _ s
 refine Calls.spliced_cons (AU (c a s b H _ I h) λu g ⟨x,i,j,k,q1⟩=>?_)
 exact AU (d pos a g b i _ j q1) λp q ⟨l,m,n,o,q2⟩=>⟨x::l,m,n,.cons k o,q2⟩
def bA(t:TA):TE:=λc H Q=>t c H λa b=>a.length<=Av/\∀p,b p=none->Q (.ref p) (AK b p (.tup a))
def bB(t:TA):TE:=λc H Q=>t c H λa b=>a.length<=Av/\∀p,b p=none->Q (.ref p) (AK b p (.lst a))
theorem bC {g} (h:PA X es t):PE X (.Tuple es g pos) (bA t):=by
 intro a s i H Q I j
 refine wpAny_Tuple_spliced (AU (h pos a s i H _ I j) λk c ⟨l,d,f,r,z,q⟩=>⟨by rw[<- r.length];exact z,?_⟩)
 have m:d c.heap.objs.size=none:=f.hok.fresh (Bf _)
 refine⟨.ref c.heap.objs.size,AK d c.heap.objs.size (.tup l),f.laid (t':=c.toks) (λb u e=>Bk _ e) (Bf _) ?_,rfl,q _ m⟩
 exact⟨z,k,r,⟨_,BY _ rfl,rfl,_,rfl⟩⟩
theorem bD(h:PA X es t):PE X (.List es pos) (bB t):=by
 intro a s g H Q I i
 refine wpAny_List_spliced (AU (h pos a s g H _ I i) λj c ⟨k,d,f,r,z,q⟩=>⟨by rw[<- r.length];exact z,?_⟩)
 have l:d c.heap.objs.size=none:=f.hok.fresh (Bf _)
 refine⟨.ref c.heap.objs.size,AK d c.heap.objs.size (.lst k),f.laid (t':=c.toks) (λb u e=>Bk _ e) (Bf _) ?_,rfl,q _ l⟩
 exact⟨z,j,0,r,BY _ rfl⟩
end
abbrev Sp:=List V->Hp->VK->XK->Prop
abbrev DS:=List Env->Hp->Ac->XK->Aa->Ac->Prop
structure Ca(P:AS)(w:Ai)(K:Ap)(mg:Af->Option Aa)(base:Al)(A:Ah)(outer:List Env)(s:Ac)(H:Hp):Prop where
 frames:A.frames=some outer
 mod:Mod K mg base
 bs:∀b o,base.get? b=some o->s.heap.get? b=some o/\H b=none
 bsz:base.objs.size<=s.heap.objs.size
 funs:s.heap.FunFrames base outer
 frf:∀b∈BW outer,H b=none
 hok:BV P w H s.heap
 bare:AllBare s.gens
def CE(outer:List Env)(P:AS)(w:Ai)(H:Hp)(s:Ac)(Q:VK)(u:Aa)(s':Ac):Prop:=
 ∃v a,s'.os=s.os/\AllBare s'.gens/\Un (BW outer) [] H a s.heap s'.heap/\BV P w a s'.heap/\RelV v u/\Q v a
def CR(CX:DS)(outer:List Env)(P:AS)(w:Ai)(H:Hp)(s:Ac)(Q:VK)(E:XK)(r:Result)(s':Ac):Prop:=
 match r with
 |.ok (.ret u)=>CE outer P w H s Q u s'
 |.ok _=>False
 |.error e=>CX outer H s E e s'
structure Aw(P:AS)(w:Ai)(K:Ap)(mg:Af->Option Aa)(base:Al)(CX:DS)(k:Nat)(f:Ad)(fd:A5)(ps:List Af)(sp:Sp):Prop where
 len:∀vs H Q E,sp vs H Q E->vs.length=ps.length
 run:∀(A:Ah) (outer:List Env) (s:Ac) (H:Hp) (args:Args) (us:List Aa) (vs:List V) (Q:VK) (E:XK),AR k A->Ca P w K mg base A outer s H->BindsTo s fd args (ps.zip us)->Am vs us->sp vs H Q E ->
  codeAny (Ag P w) A (.call (.ref f) args) (CR CX outer P w H s Q E) s
theorem Aw.mono{P:AS}{w:Ai}{K:Ap}{mg:Af->Option Aa}{base:Al}{CX:DS}{j k:Nat}{f:Ad}{fd:A5}{ps:List Af}{sp:Sp}(F:Aw P w K mg base CX j f fd ps sp)(h:j<=k):
  Aw P w K mg base CX k f fd ps sp:=⟨F.len,λA outer s H args a b Q E c=>F.run A outer s H args a b Q E (c.mono h)⟩
theorem Aw.imp{P:AS}{w:Ai}{K:Ap}{mg:Af->Option Aa}{base:Al}{CX:DS}{k:Nat}{f:Ad}{fd:A5}{ps:List Af}{sp a:Sp}(F:Aw P w K mg base CX k f fd ps sp)
  (h:∀vs H Q E,a vs H Q E->sp vs H Q E):Aw P w K mg base CX k f fd ps a:=
 ⟨λvs H Q E q=>F.len vs H Q E (h _ _ _ _ q),λA outer s H args b vs Q E c d e g i=>F.run A outer s H args b vs Q E c d e g (h _ _ _ _ i)⟩
theorem Ca.make{P:AS}{w:Ai}{K:Ap}{mg:Af->Option Aa}{base:Al}{A:Ah}{outer:List Env}{s:Ac}{H:Hp}(e:Ca P w K mg base A outer s H)(C:Ad)(us:List Aa)(a:List (Af×Aa)):
  Ca P w K mg base (A.under (.builtin "type.__call__" ⟨.ref C::us,a⟩)) outer s H:=⟨by first|exact e.frames|(simpa[Around.under,Code.envs,Code.isFrame,pushEnvs]using e.frames),e.mod,e.bs,e.bsz,e.funs,e.frf,e.hok,e.bare⟩
theorem Ca.in1{P:AS}{w:Ai}{K:Ap}{mg:Af->Option Aa}{base:Al}{A:Ah}{outer:List Env}{s:Ac}{H:Hp}(e:Ca P w K mg base A outer s H):
  Ca P w K mg base A.in1 outer s H:=⟨e.frames,e.mod,e.bs,e.bsz,e.funs,e.frf,e.hok,e.bare⟩
section
variable{X:Cx}{pins:List (Ad×AJ)}{σ:St}{H:Hp}{s s':Ac}
theorem Inv.env0(I:Inv X pins σ H s):Ca X.prog X.w X.K X.mg X.base X.A X.stack s H:=
 ⟨I.ok.frames,I.ok.mod,I.bs,BO I.ok.bsz I.sz,I.stack,I.stkFree,I.hok,I.bare⟩
theorem Inv.after{Q:VK}{u:Aa}(I:Inv X pins σ H s)(h:CE X.stack X.prog X.w H s Q u s'):EP X pins σ Q u s':=by
 obtain⟨v,c,os,bare,un,hok,r,q⟩:=h
 obtain⟨e,g,d,t,a⟩:=s'
 obtain rfl:a=s.os:=os
 exact⟨v,c,I.call (h':=e) (g':=g) (d':=d) (t':=t) (ch:=[]) un hok bare (λb z=>absurd z (by simp)),r,q⟩
end
def Og(sp:Sp)(a:List V)(E:XK)(t:TA):TE:=λb H Q=>t b H λc d=>sp (c++a) d Q E
def Oh(C:Ad)(m:Af)(sp:Sp)(b:List V)(E:XK)(f:TE)(t:TA):TE:=λc H Q=>f c H λx d=>∃a g e,x=.ref a/\d a=some (.ins C g e)/\e.lookup m=none /\
 t c d λh i=>sp (x::(h++b)) i Q E
def bE(C:Ad)(sp:Sp)(b:List V)(E:XK)(t:TA):TE:=λd H Q=>t d H λe c=>∀x a,c x=none->c a=none->a≠x ->
 sp (.ref x::(e++b)) (AK (AK c a (.own x)) x (.ins C a [])) (λv f=>v=.non/\Q (.ref x) f) E
def Binds(K:Ap)(fd:A5)(ps:List Af)(b:List Aa):Prop:=
 ∀(s:Ac) (a:List Aa),K.In s.heap->(a++b).length=ps.length->BindsTo s fd ⟨a,[]⟩ (ps.zip (a++b))
theorem Binds.all{K:Ap}{fd:A5}{ps:List Af}(h:∀us:List Aa,us.length=ps.length->bindArgs fd ⟨us,[]⟩=AB (ps.zip us)):Binds K fd ps []:=λs us _ a=>by
 rw[CG]at a ⊢
 exact .of_eq (h us a)
def E6(CX:DS)(X:Cx)(E:XK):Prop:=∀(a:List (Ad×AJ))(c:St)(H:Hp)(s:Ac)(e:Aa)(b:Ac),Inv X a c H s->CX X.stack H s E e b->X.xe e b
section
variable{X:Cx}{CX:DS}{k:Nat}{f C:Ad}{fd:A5}{ps:List Af}{sp:Sp}{dvs:List V}{ds:List Aa}{E:XK}{x m:Af}{p pos apos:AT}{e o:Expr}{es:List Expr}{ta:TE}{t:TA}
theorem Oi{a:List (Ad×AJ)}{σ:St}{H:Hp}{s:Ac}{Q:VK}{us:List Aa}{vs:List V}(F:Aw X.prog X.w X.K X.mg X.base CX k f fd ps sp)(d:AR k X.A)(g:Binds X.K fd ps ds)(hd:Am dvs ds)(i:E6 CX X E)
  (I:Inv X a σ H s) (r:Am vs us) (h:sp (vs++dvs) H Q E):wpAny (Ag X.prog X.w) X.A (call (.ref f) us) (EP X a σ Q) X.xe s:=by
 have c:Am (vs++dvs) (us++ds):=r.append hd
 have j:(us++ds).length=ps.length:=by rw[<- c.length];exact F.len _ _ _ _ h
 refine wpAny_call (IL (F.run X.A X.stack s H ⟨us,[]⟩ (us++ds) (vs++dvs) Q E d I.env0 (g s us I.kIn j) c h) λr l b=>?_)
 cases r with
 |error e=>exact i a σ H s e l I b
 |ok m=>
  cases m with
  |ret u=>exact I.after b
  |next=>exact Bd b
  |brk=>exact Bd b
  |cont=>exact Bd b
theorem Sn(F:Aw X.prog X.w X.K X.mg X.base CX k f fd ps sp)(i:AR k X.A)(j:Gl X x)(l:X.mg x=some (.ref f))(m:HH X.K (.ref f)=true)(n:Binds X.K fd ps ds)(hd:Am dvs ds)(o:E6 CX X E)
  (u:PA X (e::es) t) (b:(x==("__debug__":Af))=false:=by decide) (v:AO (e::es) X.env=(false,Ar e X.env)::AO es X.env:=by rfl) (c:(AG pos (AO es X.env)).any (·.1)=false:=by rfl):
  PE X (.Call (.Name x p) (e::es) [] pos) (Og sp dvs E t):=by
 intro a s y H Q I h
 refine IM (IG I j l ?_ b)
 refine PySem.W.callWith_K (h₀:=X.base) I.ok.mod.kin m (AU (u pos a s y H _ I h) λz B ⟨C,G,g,r,q⟩=>⟨g.kIn,?_⟩) v c
 exact Oi F i n hd o g r q
theorem bF{pl:Sem Bool}(J:PE X o ta)(c:D7 X.K C)(j:HG X.K C m f)(F:Aw X.prog X.w X.K X.mg X.base CX k f fd ps sp)(L:AR k X.A)(M:Binds X.K fd ps ds)(hd:Am dvs ds)(N:E6 CX X E)(O:PA X (e::es) t)
  (d:AO (e::es) X.env=(false,Ar e X.env)::AO es X.env:=by rfl) (g:(AG pos (AO es X.env)).any (·.1)=false:=by rfl)
  (T:Ar (.Call (.Attribute o m apos) (e::es) [] pos) X.env=(do
   let n <- Ar o X.env
   standAt apos.atName
   let(f,i) <- D5 [n] (getMethod n m pl)
   callWith pos f i (AG pos (AO (e::es) X.env)) (Fi pos (Fj [] X.env))):=by rfl):
  PE X (.Call (.Attribute o m apos) (e::es) [] pos) (Oh C m sp dvs E ta t):=by
 intro b s p H Q I h
 refine PySem.W.methodCall_KW (pl:=pl) (AU (J b s p H _ I h) λu U ⟨x,Y,v,rx,a,dx,fs,ex,ea,l,q⟩=>?_) T
 subst ex
 obtain rfl:u=Bv a:=rx
 refine Of v ea c j l ?_
 refine PySem.W.callWith_K (first:=[.ref a]) (h₀:=X.base) I.ok.mod.kin j.kp (AU (O pos b U p Y _ v q) λz s2 ⟨B,H2,G,r,q2⟩=>⟨G.kIn,?_⟩) d g
 exact Oi (us:=.ref a::z) (vs:=.ref a::B) F L M hd N G (.cons rfl r) q2
theorem bG{pl:Sem Bool}(j:PE X o ta)(c:D7 X.K C)(g:HG X.K C m f)(F:Aw X.prog X.w X.K X.mg X.base CX k f fd ps sp)(n:AR k X.A)(p:Binds X.K fd ps ds)(hd:Am dvs ds)(r:E6 CX X E)
  (t:Ar (.Call (.Attribute o m apos) [] [] pos) X.env=(do
   let i <- Ar o X.env
   standAt apos.atName
   let(f,d) <- D5 [i] (getMethod i m pl)
   callWith pos f d (AG pos (AO [] X.env)) (Fi pos (Fj [] X.env))):=by rfl):
  PE X (.Call (.Attribute o m apos) [] [] pos) (Oh C m sp dvs E ta LJ):=by
 intro b s v H Q I h
 refine PySem.W.methodCall_KW (pl:=pl) (AU (j b s v H _ I h) λu B ⟨x,G,e,y,a,J,L,ex,z,l,q⟩=>?_) t
 subst ex
 obtain rfl:u=Bv a:=y
 refine Of e z c g l ?_
 exact PySem.W.callWith_K0 (first:=[.ref a]) e.kIn g.kp (Oi (us:=[.ref a]) (vs:=[.ref a]) F n p hd r e (.cons rfl .nil) q)
structure Mk(K:Ap)(C f:Ad):Prop where
 makes:PySem.W.makesIn K C=true
 init:G4 K (.ref C) "__init__"=some (some (.ref f))
 fn:PySem.W.isFn K (.ref f)=true
 kp:HH K (.ref C)=true
theorem bH{a:List (Ad×AJ)}{σ:St}{H:Hp}{s:Ac}{Q:VK}{us:List Aa}{vs:List V}(M:Mk X.K C f)(F:Aw X.prog X.w X.K X.mg X.base CX k f fd ps sp)(j:AR (k+1) X.A)(l:Binds X.K fd ps ds)(hd:Am dvs ds)
  (m:E6 CX X E) (I:Inv X a σ H s) (r:Am vs us)
  (h:∀x c,H x=none->H c=none->c≠x->sp (.ref x::(vs++dvs)) (AK (AK H c (.own x)) x (.ins C c [])) (λv n=>v=.non/\Q (.ref x) n) E):
  wpAny (Ag X.prog X.w) X.A (call (.ref C) us) (EP X a σ Q) X.xe s:=by
 have g:=h (s.heap.objs.size+1) s.heap.objs.size (I.hok.fresh (Nat.le_succ _)) (I.hok.fresh (Bf _)) (BS (LI _))
 have d:=Inv.made (C:=C) I
 have i:Am (V.ref (s.heap.objs.size+1)::(vs++dvs)) (Bv (s.heap.objs.size+1)::(us++ds)):=.cons rfl (r.append hd)
 have o:(Bv (s.heap.objs.size+1)::us++ds).length=ps.length:=by
  have e:=i.length
  rw[F.len _ _ _ _ g]at e
  exact e.symm
 refine wpAny_call (Sg (f:=f) I.kIn M.makes M.init (beq_iff_eq.mp M.fn) (IL (F.run _ X.stack _ _ ⟨Bv (s.heap.objs.size+1)::us,[]⟩ (Bv (s.heap.objs.size+1)::(us++ds)) _ _ E (j.make C us [])
  (d.env0.make C us []) (l _ (Bv (s.heap.objs.size+1)::us) d.kIn o) i g) λr p b=>?_))
 cases r with
 |error e=>exact m a σ _ _ e p d b
 |ok q=>
  cases q with
  |ret u=>
   obtain⟨v,t,y,z,B,q3⟩:=d.after b
   subst B
   exact⟨z,⟨V.ref (s.heap.objs.size+1),t,y,rfl,q3⟩⟩
  |next=>exact Bd b
  |brk=>exact Bd b
  |cont=>exact Bd b
theorem bI(M:Mk X.K C f)(F:Aw X.prog X.w X.K X.mg X.base CX k f fd ps sp)(i:AR (k+1) X.A)(j:Gl X x)(l:X.mg x=some (.ref C))(m:Binds X.K fd ps ds)(hd:Am dvs ds)(n:E6 CX X E)
  (o:PA X (e::es) t) (b:(x==("__debug__":Af))=false:=by decide) (u:AO (e::es) X.env=(false,Ar e X.env)::AO es X.env:=by rfl) (c:(AG pos (AO es X.env)).any (·.1)=false:=by rfl):
  PE X (.Call (.Name x p) (e::es) [] pos) (bE C sp dvs E t):=by
 intro a s v H Q I h
 refine IM (IG I j l ?_ b)
 refine PySem.W.callWith_K (h₀:=X.base) I.ok.mod.kin M.kp (AU (o pos a s v H _ I h) λy z ⟨B,G,g,r,q⟩=>⟨g.kIn,?_⟩) u c
 exact bH M F i m hd n g r q
end
def PK(X:Cx)(b:List Keyword)(t:TA):Prop:=
 ∀(c:AT) (a:List (Ad×AJ)) (s:Ac) (d:St) (H:Hp) (Q:List V->Hp->Prop),Inv X a d H s->t d H Q->wpAny (Ag X.prog X.w) X.A (evalAll ((Fi c (Fj b X.env)).map (·.2))) (AP X a d Q) X.xe s
section
variable{X:Cx}{CX:DS}{k:Nat}{f C:Ad}{fd:A5}{ps ks:List Af}{sp:Sp}{E:XK}{x m:Af}{p pos apos kpos:AT}{e o:Expr}{es:List Expr}{kws:List Keyword}{te ta:TE}{t tk:TA}{nm:Option Af}
theorem bJ:PK X [] LJ:=λ_ _ _ _ H Q I h=>wpAny_evalAll_nil ⟨[],H,I,.nil,h⟩
theorem bK(c:PE X e te)(d:PK X kws t):PK X (⟨nm,e,kpos⟩::kws) (Sk te t):=by
 intro pos a s b H Q I h
 show wpAny _ _ (evalAll ((do let v <- Ar e X.env;standAt pos;AB v)::(Fi pos (Fj kws X.env)).map (·.2))) _ _ s
 refine wpAny_evalAll_cons (Aj (AU (c a s b H _ I h) λu f ⟨x,g,i,j,q1⟩=>Aj (wpAny_standAt (AC ?_))))
 exact AU (d pos a f b g _ i q1) λo p ⟨k,l,m,n,q2⟩=>⟨x::k,l,m,.cons j n,q2⟩
variable{g:List Aa->List Aa->List Aa}{gV:List V->List V->List V}
end
structure Zx(N P:List Af)(sc:Scope):Prop where
 kind:sc.kind=.function
 co:sc.isCoroutine=false
 gen:sc.isGenerator=false
 nd:N.Nodup
 pre:N.take P.length=P
 par:∀x∈P,sc.names.lookup x=some .local\/sc.names.lookup x=some .cell
 nofree:∀y∈sc.names,y.2≠.free
theorem So{kindOf:Af->Option Ej}{x:Af}:∀{a:List (Af×Aa)}{m:Af->Option Aa},(∀v,(x,v)∉a)->bindL kindOf a m x=m x
 |[],_,_=>rfl
 |(n,v)::r,m,h=>by
  unfold bindL
  rw[So λw b=>h w (BA _ b)]
  split
  ·have:x≠n:=by rintro rfl;exact h v Bw
   simp[this]
  ·rfl
theorem Sq{kindOf:Af->Option Ej}{x:Af}:∀{a:List (Af×Aa)}{m:Af->Option Aa},(∀v,(x,v)∉a)->bindC kindOf a m x=m x
 |[],_,_=>rfl
 |(n,v)::r,m,h=>by
  unfold bindC
  rw[Sq λw b=>h w (BA _ b)]
  split
  ·rfl
  ·have:x≠n:=by rintro rfl;exact h v Bw
   simp[this]
theorem Sr{kindOf:Af->Option Ej}{x:Af}{v:Aa}:∀{P:List Af}{vs:List Aa}{i:Nat}{m:Af->Option Aa},P.Nodup->P[i]?=some x->vs[i]?=some v->kindOf x=some .local ->
  bindL kindOf (P.zip vs) m x=some v
 |[],_,_,_,_,h,_,_=>by simp at h
 |_::_,[],_,_,_,_,h,_=>by simp at h
 |p::P,w::vs,0,m,nd,a,b,c=>by
  simp at a b;subst a;subst b
  show bindL kindOf ((p,w)::P.zip vs) m p=_
  unfold bindL
  rw[So λv d=>(List.nodup_cons.mp nd).1 (List.of_mem_zip d).1,if_pos c]
  simp
 |p::P,w::vs,i+1,m,nd,a,b,c=>by
  show bindL kindOf ((p,w)::P.zip vs) m x=_
  unfold bindL
  exact Sr (i:=i) (List.nodup_cons.mp nd).2 (by simpa using a) (by simpa using b) c
theorem Ss{kindOf:Af->Option Ej}{x:Af}{v:Aa}:∀{P:List Af}{vs:List Aa}{i:Nat}{m:Af->Option Aa},P.Nodup->P[i]?=some x->vs[i]?=some v->kindOf x≠some .local ->
  bindC kindOf (P.zip vs) m x=some v
 |[],_,_,_,_,h,_,_=>by simp at h
 |_::_,[],_,_,_,_,h,_=>by simp at h
 |p::P,w::vs,0,m,nd,a,b,c=>by
  simp at a b;subst a;subst b
  show bindC kindOf ((p,w)::P.zip vs) m p=_
  unfold bindC
  rw[Sq λv d=>(List.nodup_cons.mp nd).1 (List.of_mem_zip d).1,if_neg c]
  simp
 |p::P,w::vs,i+1,m,nd,a,b,c=>by
  show bindC kindOf ((p,w)::P.zip vs) m x=_
  unfold bindC
  exact Ss (i:=i) (List.nodup_cons.mp nd).2 (by simpa using a) (by simpa using b) c
def Z7(N:List Af)(vs:List V):St:=vs.map some++BZ (N.length-vs.length) none
def Ey(CX:DS)(P:AS)(w:Ai)(K:Ap)(mg:Af->Option Aa)(base:Al)(N:List Af)(a:Af)(scope:Scope)(f:Ad)(c:Aa)(A:Ah)(outer:List Env)(s:Ac)(H:Hp)(E:XK):Cx where
 prog:=P
 w:=w
 K:=K
 mg:=mg
 base:=base
 A:=A.deeper (Bt a scope s.heap.objs.size f c)
 N:=N
 s₀:=s
 H₀:=H
 env:=Bt a scope s.heap.objs.size f c
 outer:=outer
 stack:=Bt a scope s.heap.objs.size f c::outer
 ex:=[]
 calm:=true
 fn:=λ_=>true
 pn:=[]
 xe:=λe d=>wpAny (Ag P w) (A.deeper (Bt a scope s.heap.objs.size f c)) (leaving (Bt a scope s.heap.objs.size f c) e) (λ_ b=>CX outer H s E e b) (λg b=>CX outer H s E g b) d
theorem Su{a:Scope}{n:Nat}{x:Af}(h:a.names.lookup x=some .cell):∃c,(cellsFrom n a.names []).lookup x=some c:=by
 have q:=PySem.W.cellsFrom_some a.names n [] (.inl h)
 exact Option.isSome_iff_exists.mp q
theorem bL{CX:DS}{P:AS}{w:Ai}{K:Ap}{mg:Af->Option Aa}{base:Al}{N ps:List Af}{d:Af}{scope:Scope}{f:Ad}{B:Aa}{A:Ah}{outer:List Env}{s I:Ac}{H:Hp}{E:XK}{us:List Aa}{vs:List V}
  (S:Zx N ps scope) (hd:A.handled=none) (j:Ca P w K mg base A outer s H) (T:vs.length=ps.length) (r:Am vs us)
  (x:InCallC s s.heap.objs.size (bindL (Bt d scope s.heap.objs.size f B).kindOf (ps.zip us) λ_=>none) (cellsFrom (s.heap.objs.size+1) scope.names []) (bindC (Bt d scope s.heap.objs.size f B).kindOf (ps.zip us) λ_=>none) I):
  Inv (Ey CX P w K mg base N d scope f B A outer s H E) [] (Z7 N vs) H I:=by
 have M:ps.length<=N.length:=by have:=congrArg List.length S.pre;rw[IN]at this;omega
 obtain⟨C,U,rfl,J⟩:=x.done
 have l:∀b:Ad,b∉(Ey CX P w K mg base N d scope f B A outer s H E).ex:=λb z=>absurd (show b∈([]:List Ad)from z) (by simp)
 refine⟨⟨j.mod,S.kind,rfl,rfl,Bf _,λy z c C g=>?_,λy m=>?_,λy c _ h=>?_,λ_=>hd,Around.frames_deeper j.frames,.inr ⟨rfl,rfl⟩,λb z=>absurd z (l b),j.bs,j.bsz,λb _ _=>l b,λb z=>absurd z (l b),j.funs,j.frf⟩,
  rfl,j.bare,Un.kept J,⟨_,x.toInCall.ns,λi y v C g Y=>?_⟩,λy c h=>⟨_,x.cell y c h⟩,j.hok.fresh (Bf _),λy c h=>?_,λp o=>absurd (show p∈([]:List (Ad×AJ))from o) (by simp),j.hok.kept J,?_⟩
 ·exact name_of_addr x.apart (IP C) (IP g)
 ·have m:scope.names.lookup y=some .cell\/scope.names.lookup y=some .free:=m
  rcases m with m|m
  ·exact Su m
  ·exact absurd rfl (S.nofree _ (IP m))
 ·exact IF (x.above y c (IP h))
 ·have G:i<vs.length:=by
   unfold Z7 at g
   by_cases G:i<vs.length
   ·exact G
   ·rw[Oj (by simpa using G)]at g
    rw[HI]at g
    split at g<;>cases g
  have O:vs[i]?=some v:=by
   unfold Z7 at g
   rw[Ol (by simpa using G),D8]at g
   cases e:vs[i]? with
   |none=>rw[e]at g;cases g
   |some a=>rw[e]at g;cases g;rfl
  obtain⟨u,L,Q⟩:=r.get O
  have o:ps[i]?=some y:=by
   rw[<- S.pre,List.getElem?_take_of_lt (by omega)];exact C
  have t:ps.Nodup:=by rw[<- S.pre];exact S.nd.sublist (List.take_sublist _ _)
  refine⟨u,Q,?_⟩
  rcases S.par y (LK o)with k|k
  ·exact .inl ⟨k,Sr t o L k⟩
  ·obtain⟨c,e⟩:=Su (n:=s.heap.objs.size+1) k
   refine .inr ⟨.inl k,c,e,?_⟩
   have q:=x.cell y c e
   rw[Ss t o L (by show scope.names.lookup y≠_;rw[k];decide)]at q
   exact q
 ·exact j.hok.fresh (IF (x.above y c (IP h)))
 ·unfold Z7
  show _=N.length
  rw[FO,Bb,IQ]
  omega
theorem Sv{CX:DS}{P:AS}{w:Ai}{K:Ap}{mg:Af->Option Aa}{base:Al}{k:Nat}{f:Ad}{name a:Af}{d:Arguments}{g:List As}{scope:Scope}{T kV m U c ct oc:Aa}{Y od:Option Ad}
  {B:Array (Option Aa)} {N ps:List Af} {sp:Sp} (lk:K.lookup f=some ⟨oc,od,.func (G6 name a d g scope T kV m U Y c ct),B⟩) (C:PySem.W.codeIn K c a=true) (S:Zx N ps scope)
  (len:∀vs H Q E,sp vs H Q E->vs.length=ps.length)
  (i:∀(A:Ah) (outer:List Env) (s:Ac) (H:Hp) (vs:List V) (Q:VK) (E:XK),AR k (A.deeper (Bt a scope s.heap.objs.size f c))->sp vs H Q E ->
   ∃t,DP (Ey CX P w K mg base N a scope f c A outer s H E) g t/\t {nx:=λ_ H'=>Q .non H',rt:=Q} (Z7 N vs) H):
  Aw P w K mg base CX (k+1) f (G6 name a d g scope T kV m U Y c ct) ps sp:=by
 refine⟨len,λA outer s H args us vs Q E G p hb r z=>?_⟩
 have hl:=len _ _ _ _ z
 have KX:K.In s.heap:=p.mod.kin.keeps λb o e=>(p.bs b o e).1
 have L:s.heap.NoLimit:=p.mod.nolimit.keeps λb o e=>(p.bs b o e).1
 have j:∀y∈ps.zip us,scope.names.lookup y.1=some .local\/(scope.names.lookup y.1=some .cell/\((cellsFrom (s.heap.objs.size+1) scope.names []).lookup y.1).isSome=true):=λ⟨n,v⟩ hy=>by
  rcases S.par n (List.of_mem_zip hy).1 with q|q
  ·exact .inl q
  ·exact .inr ⟨q,PySem.W.cellsFrom_some _ _ _ (.inl q)⟩
 refine codeAny_call_function G.depth (KX _ _ lk) rfl S.co S.gen rfl (PySem.W.codeRec_of KX C) (hb _ _ _ _ ?_)
 refine wpAny_newFunctionEnv_cells S.kind j λenv he s1 x=>?_
 subst he
 refine⟨L.keeps x.toInCall.keep,codeAny_func ?_⟩
 obtain⟨t,ht,hq⟩:=i A outer s H vs Q E (G.deeper _) z
 have I:Inv (Ey CX P w K mg base N a scope f c A outer s H E) [] (Z7 N vs) H s1:=bL S G.hd p hl r x
 refine DQ (ht [] s1 (Z7 N vs) H _ I hq) (λfl M l=>?_) λe M l=>l
 have fin:∀{h:St} {H':Hp} {v:V} {u:Aa},Inv (Ey CX P w K mg base N a scope f c A outer s H E) [] h H' M->RelV v u->Q v H'->CE outer P w H s Q u M:=
  λ{h H' v u} J O q=>⟨v,H',J.os,J.bare,J.base,J.hok,O,q⟩
 cases fl with
 |ret u=>
  obtain⟨v,h,H',J,O,q⟩:=l
  exact fin J O q
 |next=>
  obtain⟨h,H',J,q⟩:=l
  exact fin (v:=V.non) (u:=DC) J rfl q
 |brk=>
  obtain⟨_,_,_,q⟩:=l
  exact Bd q
 |cont=>
  obtain⟨_,_,_,q⟩:=l
  exact Bd q
section
variable{X:Cx}{x:Af}{p pos:AT}{e:Expr}{es:List Expr}{t:TA}{id T:String}{r:List V->Hp->VK->Prop}
def LL(r:List V->Hp->VK->Prop)(t:TA):TE:=λa H Q=>t a H λb c=>r b c Q
theorem Sw(f:A8 X (.builtin id) r)(g:Gl X x)(i:X.mg x=none)(j:Eg x=some (.builtin id))(k:PA X (e::es) t)(l:x≠"__name__":=by decide)(b:(x==("__debug__":Af))=false:=by decide)
  (m:AO (e::es) X.env=(false,Ar e X.env)::AO es X.env:=by rfl) (c:(AG pos (AO es X.env)).any (·.1)=false:=by rfl):PE X (.Call (.Name x p) (e::es) [] pos) (LL r t):=by
 intro a s d H Q I h
 refine IM (FI I g i j ?_ l b)
 exact PyProof.Rows.callWith_builtin1 (AU (k pos a s d H _ I h) λn o ⟨q,u,v,w,q1⟩=>f a o d u q n Q v w q1) m c
theorem Sx(f:A8 X (.type T) r)(g:Gl X x)(i:X.mg x=none)(j:Eg x=some (.type T))(k:PA X (e::es) t)(l:x≠"__name__":=by decide)(b:(x==("__debug__":Af))=false:=by decide)
  (m:AO (e::es) X.env=(false,Ar e X.env)::AO es X.env:=by rfl) (c:(AG pos (AO es X.env)).any (·.1)=false:=by rfl):PE X (.Call (.Name x p) (e::es) [] pos) (LL r t):=by
 intro a s d H Q I h
 refine IM (FI I g i j ?_ l b)
 exact Kc (AU (k pos a s d H _ I h) λn o ⟨q,u,v,w,q1⟩=>f a o d u q n Q v w q1) m c
end
end L2
namespace HT
open PySem PyProof.Rows
theorem rcLt_int(A:Ah)(s:Ac)(a:Int)(t:Tok)(c:Int)(u:Tok)(prog:AS)(w:Ai)(E:Aa->Ac->Prop)(Q:Aa->Ac->Prop)(h:Q (.bool (decide (a<c))) s):
  wpAny (Ag prog w) A (richCompare .Lt (.int a t) (.int c u)) Q E s:=
 (PyProof.Rows.lt_int h:wpAny (Ag prog w) A (Dd .Lt (.int a t) (.int c u)) Q E s)
section
open PySem.SeqAt
open PySem.AutoSeq1 (wpAny_loadPart')
open PySem.MeetsSeq PySem.MeetsSeq2 PySem.MeetsSeq3
end
section
variable{prog:AS}{w:Ai}{A:Ah}{E:Aa->Ac->Prop}{s:Ac}
def sIx(n d:Nat):Option Int->Nat
 |none=>d
 |some v=>if v<0 then(v+(n:Int)).toNat else min v.toNat n
theorem bM(n d:Nat)(hd:d<=n)(o:Option Int):sIx n d o<=n:=by
 cases o with
 |none=>exact hd
 |some v=>
  show(if v<0 then(v+(n:Int)).toNat else min v.toNat n)<=n
  by_cases a:v<0
  ·rw[if_pos a];omega
  ·rw[if_neg a];exact Nat.min_le_right _ _
theorem Sy(v:Int)(n d:Nat):(if v<0 then max (v+(n:Int)) 0 else min v (n:Int))=((sIx n d (some v):Nat):Int):=by
 show(if v<0 then max (v+(n:Int)) 0 else min v (n:Int))=(((if v<0 then(v+(n:Int)).toNat else min v.toNat n):Nat):Int)
 by_cases a:v<0
 ·simp only[if_pos a];omega
 ·simp only[if_neg a];omega
theorem bN(lo a:Option Int)(n:Nat):Sz lo a 1 (n:Int)=(((sIx n 0 lo:Nat):Int),((sIx n n a:Nat):Int)):=by
 have b:¬ ((1:Int)<0):=by omega
 unfold Sz
 simp only[b,if_false]
 refine Prod.ext ?_ ?_
 ·cases lo with
  |none=>rfl
  |some v=>exact Sy v n 0
 ·cases a with
  |none=>rfl
  |some v=>exact Sy v n n
theorem bO(i j:Nat):Om (i:Int) (j:Int) 1=j-i:=by
 unfold Om
 have a:(1:Int)>0:=by omega
 simp only[a,if_true,Int.ediv_one]
 split<;>omega
theorem SD{v:Aa}{o:Option Int}{Q:Option Int->Ac->Prop}(p:IsPart v o)(h:Q o s):wpAny (Ag prog w) A (Builtin.Slice.slicePartIndex v) Q E s:=by
 cases p with
 |none=>exact slicePart_none h
 |int i t=>exact slicePart_int h
theorem sliceApplied_gen{f:Ad}{d e:Aa}{lo a:Option Int}{n:Nat}{Q:Int×Int×Nat->Ac->Prop}(g:s.heap.IsSliceOf f d e .none)(pl:IsPart d lo)(i:IsPart e a)
  (h:Q (((sIx n 0 lo:Nat):Int),1,sIx n n a-sIx n 0 lo) s):wpAny (Ag prog w) A (Builtin.Slice.sliceApplied (.ref f) (AB (n:Int))) Q E s:=by
 obtain⟨os,b,j,c⟩:=id g
 unfold Builtin.Slice.sliceApplied Builtin.Slice.sliceFields
 refine Aj (Aj (Cw b c (x:=d) rfl (Aj (Cw b c (x:=e) rfl (Aj (Cw b c (x:=.none) rfl (AC ?_)))))))
 refine Aj (slicePart_none ?_)
 show wpAny _ _ (if((1:Int)==0)=true then _ else _) _ _ s
 rw[if_neg (by decide)]
 refine Aj (SD pl (Aj (SD i (Aj (AC ?_)))))
 show wpAny _ _ (match Sz lo a 1 (n:Int)with|(lo,a)=>AB (lo,(1:Int),Om lo a 1)) _ _ s
 rw[bN lo a n]
 show wpAny _ _ (AB (((sIx n 0 lo:Nat):Int),(1:Int),Om ((sIx n 0 lo:Nat):Int) ((sIx n n a:Nat):Int) 1)) _ _ s
 rw[bO]
 exact AC h
theorem bP(xs:Array Aa)(i k:Nat):((BL k).filterMap λ(m:Nat)=>xs[((i:Int)+(m:Int)*1).toNat]?).toArray=((xs.toList.drop i).take k).toArray:=by
 have e:(λ(m:Nat)=>xs[((i:Int)+(m:Int)*1).toNat]?)=λm=>xs[i+m]?:=by
  funext m
  have:((i:Int)+(m:Int)*1).toNat=i+m:=by omega
  rw[this]
 rw[e]
 have:=pick_run xs i k
 rw[List.filterMap_map]at this
 have a:((λx=>xs[x]?)∘λx=>i+x)=λm=>xs[i+m]?:=rfl
 rw[a]at this
 rw[this]
theorem getItem_tuple_cut{t d:Ad}{items:Array Aa}{j k:Aa}{lo b:Option Int}{Q:Aa->Ac->Prop}(c:IsTup s.heap t items)(l:s.heap.IsSliceOf d j k .none)(pl:IsPart j lo)(o:IsPart k b)
  (p:¬ (sIx items.size 0 lo=0/\sIx items.size items.size b=items.size))
  (h:Q (.ref s.heap.objs.size) {s with heap:=s.heap.push {cls:=.type "tuple",data:=.seq ((items.toList.drop (sIx items.size 0 lo)).take (sIx items.size items.size b-sIx items.size 0 lo)).toArray} })
  (hsz:items.size<=Av):wpAny (Ag prog w) A (getItem (.ref t) (.ref d)) Q E s:=by
 have a:sizeOk (.seq ((items.toList.drop (sIx items.size 0 lo)).take (sIx items.size items.size b-sIx items.size 0 lo)).toArray):=by
  show((items.toList.drop (sIx items.size 0 lo)).take (sIx items.size items.size b-sIx items.size 0 lo)).toArray.size<=Av
  rw[Bu,IN,List.length_drop,G2]
  omega
 have u:sIx items.size items.size b<=items.size:=bM _ _ (Bf _) b
 obtain⟨os,e,f,r⟩:=id l
 have g:s.TypeIs (.ref d) "slice":=⟨os,e,f⟩
 unfold getItem
 try with_reducible refine DR ?_
 first|refine Aj (AC ?_)|skip
 refine Aj (wpAny_sequenceKey c.typeIs (by decide) ?_)
 refine Aj (Gk (name:=FP "__getitem__") c.typeIs On
  (E7 On c.typeIs entry_tuple_getitem ?_ (args_tuple_getitem _ _)))
 show wpAny _ _ (Builtin.Tuple.tupleItemsOf (.ref t) >>= _) _ _ s
 refine Aj (tupleItemsOf_ c ?_)
 refine Aj (HJ g ?_)
 rw[if_pos (by decide)]
 refine Aj (sliceApplied_gen l pl o ?_)
 have i:¬ ((((sIx items.size 0 lo:Nat):Int)==0&&(1:Int)==1&&(sIx items.size items.size b-sIx items.size 0 lo)==items.size)=true):=by
  intro q
  rw[C5,C5]at q
  have q1:((sIx items.size 0 lo:Nat):Int)=0:=eq_of_beq q.1.1
  have q2:sIx items.size items.size b-sIx items.size 0 lo=items.size:=eq_of_beq q.2
  exact p ⟨by omega,by omega⟩
 show wpAny _ _ (if(((sIx items.size 0 lo:Nat):Int)==0&&(1:Int)==1&&(sIx items.size items.size b-sIx items.size 0 lo)==items.size)=true then _ else _) _ _ s
 rw[if_neg i,bP]
 first
  |exact Aj (m:=Oo _) (Fk (AC ⟨_,rfl,AC h⟩) a)
  |exact Aj (m:=Oo _) (Fk (Aj (AC (AC ⟨_,rfl,AC h⟩))) a)
  |exact Aj (Aj (m:=Oo _) (Fk (AC (AC ⟨_,rfl,AC h⟩)) a))
  |exact Aj (Aj (m:=Oo _) (Fk (AC ⟨_,rfl,AC h⟩) a))
end
end HT
namespace L2
open PySem PySem.Spec PyProof.Rows
abbrev TO:=St->Hp->(Option Int->Hp->Prop)->Prop
def PO(X:Cx)(e:Option Expr)(t:TO):Prop:=
 ∀(a:List (Ad×AJ)) (s:Ac) (b:St) (H:Hp) (Q:Option Int->Hp->Prop),Inv X a b H s->t b H Q ->
  wpAny (Ag X.prog X.w) X.A (evalPart e X.env) (λu d=>∃o c,Inv X a b c d/\IsPart u o/\Q o c) X.xe s
def bQ:TO:=λ_ H Q=>Q none H
def bR(t:TE):TO:=λa H Q=>t a H λx b=>∃i,x=.int i/\Q (some i) b
theorem Op{ns:List Int}:∀{us:List Aa},Am (ns.map V.int) us->IntsAre us ns:=by
 induction ns with
 |nil=>intro us r;rw[BH]at r;cases r;exact .nil
 |cons n ns a=>
  intro us r
  rw[AY]at r
  cases r with
  |cons b c=>
   obtain⟨t,e⟩:=b
   subst e
   exact .cons n t (a c)
section
variable{X:Cx}{e:Expr}{te:TE}{lo hi:Option Expr}{tl th:TO}{pos p2:AT}
theorem bS:PO X none bQ:=by
 intro a s b H Q I h
 rw[evalPart_none]
 exact AC ⟨none,H,I,.none,h⟩
theorem bT(h:PE X e te):PO X (some e) (bR te):=by
 intro a s b H Q I c
 rw[evalPart_some]
 refine AU (h a s b H _ I c) λu j ⟨x,d,f,g,q1⟩=>?_
 obtain⟨i,rfl,q⟩:=q1
 obtain⟨t,rfl⟩:=g
 exact⟨some i,d,f,.int i t,q⟩
def Gm(X:Cx)(r:V->Option Int->Option Int->Hp->VK->Prop):Prop:=
 ∀(a:List (Ad×AJ)) (s:Ac) (b:St) (H:Hp) (x:V) (v c d:Aa) (lo hi:Option Int) (e:Ad) (Q:VK),Inv X a b H s->RelV x v->s.heap.IsSliceOf e c d .none->IsPart c lo->IsPart d hi->r x lo hi H Q ->
  ∃T id,typeLookup (.type T) "__getitem__"=AB (some (.builtin id))/\s.TypeIs v T/\wpAny (Ag X.prog X.w) X.A (getItem v (.ref e)) (EP X a b Q) X.xe s
theorem Gm.or{r b:V->Option Int->Option Int->Hp->VK->Prop}(h:Gm X r)(h':Gm X b):Gm X (λx lo hi H Q=>r x lo hi H Q\/b x lo hi H Q):=by
 intro a s c H x v d e lo hi f Q I g i j k q
 rcases q with q|q
 ·exact h a s c H x v d e lo hi f Q I g i j k q
 ·exact h' a s c H x v d e lo hi f Q I g i j k q
def bU(r:V->Option Int->Option Int->Hp->VK->Prop)(te:TE)(tl th:TO):TE:=λa H Q=>te a H λx b=>tl a b λl c=>th a c λu d=>r x l u d Q
theorem bV{r:V->Option Int->Option Int->Hp->VK->Prop}(j:Gm X r)(k:PE X e te)(m:PO X lo tl)(n:PO X hi th):PE X (.Subscript e (.Slice lo hi none p2) pos) (bU r te tl th):=by
 intro a s d H Q I h
 refine Subscript_ (AU (k a s d H _ I h) λv o ⟨x,p,t,y,q1⟩=>?_)
 refine wpAny_Slice (AU (m a o d p _ t q1) λf z ⟨l,B,C,E,q2⟩=>AU (n a z d B _ C q2) λg c ⟨u,i,G,J,q3⟩=>?_)
 rw[evalPart_none]
 refine AC ?_
 have L:Inv X a d i {c with heap:=c.heap.push {cls:=.type "slice",data:=.fields #[f,g,.none]} }:=G.kept (t':=c.toks) λb ob q=>Bk _ q
 obtain⟨T,id,M,N,O⟩:=j a {c with heap:=c.heap.push {cls:=.type "slice",data:=.fields #[f,g,.none]} } d i x v f g l u c.heap.objs.size Q L y (Heap.IsSliceOf.new ..) E J q3
 show wpAny (Ag X.prog X.w) X.A (subscriptTail e (.Slice lo hi none p2) v (.ref c.heap.objs.size)) (EP X a d Q) X.xe {c with heap:=c.heap.push {cls:=.type "slice",data:=.fields #[f,g,.none]} }
 exact tail_any (ops:=[.ref c.heap.objs.size,v]) N M O (by with_unfolding_all rfl)
def Fl(xs:List V)(lo hi:Option Int):List V:=(xs.drop (HT.sIx xs.length 0 lo)).take (HT.sIx xs.length xs.length hi-HT.sIx xs.length 0 lo)
theorem SE(xs:List V)(lo hi:Option Int):(Fl xs lo hi).length<=xs.length:=by
 unfold Fl
 rw[IN,List.length_drop]
 omega
def bW(K:Ap):V->Option Int->Option Int->Hp->VK->Prop:=λx lo hi H Q=>∃a b,x=.ref a/\BE K H a b /\
 ¬ (HT.sIx b.length 0 lo=0/\HT.sIx b.length b.length hi=b.length)/\∀p,H p=none->Q (.ref p) (AK H p (.tup (Fl b lo hi)))
theorem bX:Gm X (bW X.K):=by
 intro f s t H x v u w lo hi y Q I j k l m h
 obtain⟨a,d,rfl,n,p,q⟩:=h
 cases j
 obtain⟨e,r,g,i⟩:=I.tuple n
 have c:e.toArray.size=d.length:=by rw[Bu];exact r.length.symm
 refine⟨"tuple",_,PyProof.Rows.slot_tuple_getitem.lookup,g.typeIs,?_⟩
 refine HT.getItem_tuple_cut g k l m (by rw[c];exact p) ?_ (by rw[c];exact i)
 rw[c]
 refine⟨.ref s.heap.objs.size,_,I.laid (t':=s.toks) (o:=.tup (Fl d lo hi)) (λb ob q=>Bk _ q) (Bf _) ?_,rfl,q _ (I.hok.fresh (Bf _))⟩
 exact⟨BO (SE d lo hi) i,_,(r.drop (HT.sIx d.length 0 lo)).take (HT.sIx d.length d.length hi-HT.sIx d.length 0 lo),IsTup.new _ _⟩
end
def DT(n:Nat)(i:Int):Option Nat:=if 0<=i then(if i<n then some i.toNat else none)else if -(n:Int)<=i then some (i+n).toNat else none
def atI{a:Type}(xs:List a)(i:Int):Option a:=(DT xs.length i).bind λj=>xs[j]?
theorem SF{n:Nat}{i:Int}{j:Nat}(h:DT n i=some j):seqIndex? i n=some j/\j<n /\ -(n:Int)<=i/\i<n:=by
 unfold DT at h
 by_cases b:0<=i
 ·rw[if_pos b]at h
  by_cases a:i<n
  ·rw[if_pos a]at h
   have e:i.toNat=j:=Ew h
   exact⟨by rw[seqIndex_of b a,e],by omega,by omega,a⟩
  ·rw[if_neg a]at h;cases h
 ·rw[if_neg b]at h
  by_cases a : -(n:Int)<=i
  ·rw[if_pos a]at h
   have e:(i+n).toNat=j:=Ew h
   exact⟨by rw[seqIndex_neg (by omega) a,e],by omega,a,by omega⟩
  ·rw[if_neg a]at h;cases h
theorem Oq{a:Type}{xs:List a}{i:Int}{v:a}(h:atI xs i=some v):∃j,seqIndex? i xs.length=some j/\xs[j]?=some v/\j<xs.length /\ -(xs.length:Int)<=i/\i<xs.length:=by
 unfold atI at h
 cases e:DT xs.length i with
 |none=>rw[e]at h;cases h
 |some j=>
  rw[e]at h
  obtain⟨b,c,d,f⟩:=SF e
  exact⟨j,b,h,c,d,f⟩
theorem ZL{a:Type}{xs:List a}{j:Nat}{v:a}(h:xs[j]?=some v):atI xs (j:Int)=some v:=by
 have b:j<xs.length:=(List.getElem?_eq_some_iff.mp h).1
 have e:DT xs.length (j:Int)=some j:=by
  unfold DT
  rw[if_pos (by omega),if_pos (by omega)];simp
 unfold atI;rw[e];exact h
def IR(b:Expr):Prop:=∀o i,subscripted b false o i=operate [o,i] (getItem o i)
def Fm(X:Cx)(r:R2):Prop:=
 ∀(b slice:Expr) (a:List (Ad×AJ)) (s:Ac) (c:St) (H:Hp) (x y:V) (v u:Aa) (Q:VK),Inv X a c H s->RelV x v->RelV y u->r x y H Q ->
  subscripted slice false v u=operate [v,u] (getItem v u)->wpAny (Ag X.prog X.w) X.A (subscriptTail b slice v u) (EP X a c Q) X.xe s
def Gn(X:Cx)(id:String)(r:V->List V->Hp->VK->Prop):Prop:=
 ∀(a:List (Ad×AJ)) (s:Ac) (b:St) (H:Hp) (x:V) (c:List V) (v:Aa) (d:List Aa) (Q:VK),Inv X a b H s->RelV x v->Am c d->r x c H Q ->
  wpAny (Ag X.prog X.w) X.A (call (.builtin id) (v::d)) (EP X a b Q) X.xe s
section
variable{X:Cx}{a b:Expr}{ta tb:TE}{pos:AT}
theorem Fm.or{r c:R2}(h:Fm X r)(h':Fm X c):Fm X (λx y H Q=>r x y H Q\/c x y H Q):=by
 intro a slice b s d H x y v u Q I e f q g
 rcases q with q|q
 ·exact h a slice b s d H x y v u Q I e f q g
 ·exact h' a slice b s d H x y v u Q I e f q g
theorem Gn.or{id:String}{r b:V->List V->Hp->VK->Prop}(h:Gn X id r)(h':Gn X id b):Gn X id (λx xs H Q=>r x xs H Q\/b x xs H Q):=by
 intro a s c H x xs v d Q I e f q
 rcases q with q|q
 ·exact h a s c H x xs v d Q I e f q
 ·exact h' a s c H x xs v d Q I e f q
theorem SG{r:R2}(d:Fm X r)(e:PE X a ta)(f:PE X b tb)(g:IR b):PE X (.Subscript a b pos) (II r ta tb):=by
 intro c s i H Q I h
 exact Subscript_ (Ob e f I h λv u j x y k l m n q=>d a b c j i k x y v u Q l m n q (g _ _))
def SH(K:Ap):R2:=λx y H Q=>∃p a i v,x=.ref p/\y=.int i/\Bn K H p a/\atI a i=some v/\Q v H
def SI(K:Ap):R2:=λx y H Q=>∃p a i v,x=.ref p/\y=.int i/\BE K H p a/\atI a i=some v/\Q v H
def SJ:R2:=λx y H Q=>∃z i c,x=.str z/\y=.int i/\z.length<=Av/\atI z.cps.toList i=some c/\Q (.str ⟨#[c]⟩) H
theorem Go:Fm X (SH X.K):=by
 intro c slice a s k H x y v u Q I o A h l
 obtain⟨p,N,i,z,rfl,rfl,B,C,q⟩:=h
 cases o
 obtain⟨t,rfl⟩:=A
 obtain⟨d,r,e,O⟩:=I.list B
 obtain⟨j,b,E,T,G,J⟩:=Oq C
 obtain⟨w,m,f⟩:=r.get E
 have L:=r.length
 have U:=IK
 have fin:EP X a k Q w s:=⟨z,H,I,f,q⟩
 by_cases n:0<=i
 ·have g:i.toNat=j:=by
   rw[seqIndex_of n J]at b
   exact Ew b
  exact item_listR e.isList n (by omega) (by rw[g];simpa using m) fin l
 ·have g:(i+(d.toArray.size:Int)).toNat=j:=by
   rw[seqIndex_neg (by omega) G]at b
   rw[Bu,<- L]
   exact Ew b
  exact subscriptTail_builtinR (x:=w) e.isList.typeIs slot_list_getitem.lookup
   (wpAny_getItem_list_neg (Q:=λr M=>r=w/\EP X a k Q r M) e.isList (by omega) (by rw[Bu]<;>omega) (by omega) (by rw[g];simpa using m) ⟨rfl,fin⟩) l
theorem HK:Fm X (SI X.K):=by
 intro b slice a s d H x y v u Q I f g h k
 obtain⟨p,G,i,z,rfl,rfl,l,m,q⟩:=h
 cases f
 obtain⟨t,rfl⟩:=g
 obtain⟨n,r,e,J⟩:=I.tuple l
 obtain⟨j,o,A,L,M,N⟩:=Oq m
 obtain⟨w,B,c⟩:=r.get A
 have C:=r.length
 have O:=IK
 have fin:EP X a d Q w s:=⟨z,H,I,c,q⟩
 exact subscriptTail_builtinR (x:=w) e.typeIs slot_tuple_getitem.lookup
  (getItem_tuple (j:=j) (Q:=λr E=>r=w/\EP X a d Q r E) e (by omega) (by omega) (by rw[Bu,<- C];exact o) (by simpa using B) ⟨rfl,fin⟩) k
theorem bY:Fm X SJ:=by
 intro a slice b s w H x y v u Q I e f h g
 obtain⟨z,i,c,rfl,rfl,A,k,q⟩:=h
 obtain⟨t,rfl⟩:=e
 obtain⟨B,rfl⟩:=f
 obtain⟨j,d,l,C,m,n⟩:=Oq k
 have o:z.cps.toList.length=z.length:=by simp[Str.length]
 rw[o]at d m n
 have E:=IK
 exact tail_any (typeIs_str s z t) slot_str_getitem.lookup (getItem_str (c:=c) (by
  have p:decide (i < -(2^63:Int))=false:=decide_eq_false (by omega)
  have r:decide (i≥2^63)=false:=decide_eq_false (by omega)
  rw[p,r,Bool.or_false]) (by rw[d];simpa using l) ⟨.str ⟨#[c]⟩,H,I.tok _,⟨_,rfl⟩,q⟩) g
def SM(K:Ap):R2:=λx y H Q=>SH K x y H Q\/SI K x y H Q\/SJ x y H Q
theorem SN:Fm X (SM X.K):=Go.or (HK.or bY)
theorem bZ(a:List Aa)(n j:Nat)(u:Aa):Ez (·.setIfInBounds j u) {cls:=.type "list",data:=.seq a.toArray n}={cls:=.type "list",data:=.seq (a.set j u).toArray n}:=by
 simp[Ez]
theorem Inv.lst{b:List (Ad×AJ)}{σ:St}{H:Hp}{s:Ac}{p:Ad}{xs:List V}(I:Inv X b σ H s)(h:H p=some (.lst xs)):
  ∃(a:List Aa) (n:Nat),Am xs a/\s.heap.get? p=some {cls:=.type "list",data:=.seq a.toArray n}/\xs.length<=Av:=by
 obtain⟨z,a,n,r,e⟩:=I.hok p _ h
 exact⟨a,n,r,e,z⟩
theorem Inv.lstUpd{a:List (Ad×AJ)}{σ:St}{H:Hp}{s:Ac}{p:Ad}{xs ys:List V}{c its':List Aa}{n d:Nat}{f:AJ->AJ}(I:Inv X a σ H s)(h:H p=some (.lst xs))
  (i:s.heap.get? p=some {cls:=.type "list",data:=.seq c.toArray n}) (g:f {cls:=.type "list",data:=.seq c.toArray n}={cls:=.type "list",data:=.seq its'.toArray d}) (r:Am ys its') (hz:ys.length<=Av) (t:Nat):
  Inv X a σ (AK H p (.lst ys)) {s with heap:=s.heap.update p f,toks:=t}:=by
 have e:(s.heap.update p f).get? p=some {cls:=.type "list",data:=.seq its'.toArray d}:=by
  rw[Kf f i (by rw[g]<;>rfl),g]
 refine I.write (x:=p) (e:=p) (by rw[h];trivial) (.inl rfl) (λb u j q=>(IS _ _ (BX j)).trans q) ⟨_,e⟩ ?_
 exact⟨hz,its',d,r,e⟩
def b2:V->V->V->Hp->(Hp->Prop)->Prop:=λo i v H Q=>∃p a k j,o=.ref p/\i=.int k/\H p=some (.lst a)/\DT a.length k=some j/\Q (AK H p (.lst (a.set j v)))
theorem b3:NX X b2:=by
 intro a s y H o i v J L u Q I z A B h
 obtain⟨p,C,k,j,rfl,rfl,g,E,q⟩:=h
 cases z
 obtain⟨t,rfl⟩:=A
 obtain⟨b,n,r,d,G⟩:=I.lst g
 obtain⟨c,M,l,m⟩:=SF E
 have e:=r.length
 have N:=IK
 have w:Inv X a y (AK H p (.lst (C.set j v))) {s with heap:=s.heap.update p (Ez (·.setIfInBounds j u))}:=
  I.lstUpd g d (bZ b n j u) (r.set B j) (by rw[HL];exact G) s.toks
 by_cases x:0<=k
 ·have f:k.toNat=j:=by
   rw[seqIndex_of x m]at c
   exact Ew c
  exact PySem.W.ki_setAt d x (by omega) (by rw[Bu,<- e];exact m) (by rw[f];exact⟨_,w,q⟩)
 ·have f:(k+(b.toArray.size:Int)).toNat=j:=by
   rw[seqIndex_neg (by omega) l]at c
   rw[Bu,<- e]
   exact Ew c
  exact PySem.W.ki_setBack d (by omega) (by rw[Bu,<- e];exact l) (by omega) (by rw[f];exact⟨_,w,q⟩)
theorem b4(lo a:Option Int)(n:Nat):(BB lo a none n).1=((HT.sIx n 0 lo:Nat):Int)/\(BB lo a none n).2.1=((HT.sIx n n a:Nat):Int)/\(BB lo a none n).2.2=1:=by
 refine⟨?_,?_,rfl⟩
 ·cases lo with
  |none=>simp[BB,HT.sIx]
  |some i=>
   simp only[BB,HT.sIx,Option.getD_none,show(1:Int)>0 by decide,if_true]
   by_cases h:i<0
   ·simp only[h,if_true]<;>omega
   ·simp only[h,if_false]<;>omega
 ·cases a with
  |none=>simp[BB,HT.sIx]
  |some i=>
   simp only[BB,HT.sIx,Option.getD_none,show(1:Int)>0 by decide,if_true]
   by_cases h:i<0
   ·simp only[h,if_true]<;>omega
   ·simp only[h,if_false]<;>omega
theorem b6(a:List Aa)(lo b:Option Int):slicePick a.toArray lo b none=((a.drop (HT.sIx a.length 0 lo)).take (HT.sIx a.length a.length b-HT.sIx a.length 0 lo)).toArray:=by
 obtain⟨c,d,e⟩:=b4 lo b a.toArray.size
 unfold slicePick
 rw[c,d,e]
 simp only[sliceRange_one,pick_run,Bu]<;>rfl
def b9(K:Ap):V->Option Int->Option Int->Hp->VK->Prop:=λx lo c H Q=>∃a b,x=.ref a/\Bn K H a b/\∀p,H p=none->Q (.ref p) (AK H p (.lst (Fl b lo c)))
theorem Gp:Gm X (b9 X.K):=by
 intro f s t H x v u w lo e y Q I i j k l h
 obtain⟨a,c,rfl,m,q⟩:=h
 cases i
 obtain⟨n,r,g,p⟩:=I.list m
 have d:=r.length
 refine⟨"list",_,slot_list_getitem.lookup,g.isList.typeIs,?_⟩
 refine wpAny_getItem_list_slice g.isList j k l .none (by simp) ?_ (by rw[Bu]<;>omega)
 rw[b6,<- d]
 refine⟨.ref s.heap.objs.size,_,I.laid (t':=s.toks) (o:=.lst (Fl c lo e)) (λb ob q=>Bk _ q) (Bf _) ?_,rfl,q _ (I.hok.fresh (Bf _))⟩
 exact⟨BO (SE c lo e) p,_,0,(r.drop (HT.sIx c.length 0 lo)).take (HT.sIx c.length c.length e-HT.sIx c.length 0 lo),BY _ rfl⟩
theorem A8.or{f:Aa}{r b:List V->Hp->VK->Prop}(h:A8 X f r)(h':A8 X f b):A8 X f (λxs H Q=>r xs H Q\/b xs H Q):=by
 intro a s c H xs d Q I e q
 rcases q with q|q
 ·exact h a s c H xs d Q I e q
 ·exact h' a s c H xs d Q I e q
theorem HM:A8 X (.type "list") (λxs H Q=>∃p ys,xs=[.ref p]/\(Bn X.K H p ys\/BE X.K H p ys)/\∀l,H l=none->Q (.ref l) (AK H l (.lst ys))):=by
 intro g s y H xs A Q I r h
 obtain⟨p,ys,rfl,i,q⟩:=h
 obtain⟨u,rfl,z⟩:=D6 r
 cases z
 have fin:∀(a:List Aa),Am ys a->ys.length<=Av->∀(c:Al) (d:Nat),(∀b x,s.heap.get? b=some x->c.get? b=some x) ->
   c.get? s.heap.objs.size=some {cls:=.type "list",dict:=none,data:=.seq a.toArray d,slots:=#[]}->EP X g y Q (.ref s.heap.objs.size) {s with heap:=c}:=λa f j c d kp e=>
  ⟨.ref s.heap.objs.size,_,I.laid (t':=s.toks) kp (Bf _) (show AZ X.prog X.w _ c _ (.lst ys)from⟨j,a,d,f,e⟩),rfl,q _ (I.hok.fresh (Bf _))⟩
 rcases i with i|i
 ·obtain⟨a,f,m,j⟩:=I.list i
  have k:=f.length
  obtain⟨o,t,v,n,hd⟩:=m.isList
  exact call_list_seq p (.inl rfl) t v hd (λc d kp e=>fin a f j c d kp e) (by simp only[Bu]<;>omega)
 ·obtain⟨a,f,m,j⟩:=I.tuple i
  have k:=f.length
  obtain⟨o,t,v,n,hd⟩:=m
  exact call_list_seq p (.inr rfl) t v hd (λc d kp e=>fin a f j c d kp e) (by simp only[Bu]<;>omega)
theorem HN:A8 X (.type "tuple") (λxs H Q=>∃p ys,xs=[.ref p]/\((Bn X.K H p ys/\∀l,H l=none->Q (.ref l) (AK H l (.tup ys)))\/(BE X.K H p ys/\Q (.ref p) H))):=by
 intro a s j H xs y Q I r h
 obtain⟨p,ys,rfl,h⟩:=h
 obtain⟨u,rfl,t⟩:=D6 r
 cases t
 rcases h with⟨f,q⟩|⟨f,q⟩
 ·obtain⟨c,g,i,k⟩:=I.list f
  have m:=g.length
  refine call_tuple_list i.isList (λd kp=>?_) (by simp only[Bu]<;>omega)
  have n:Inv X a j H {s with heap:=d}:=I.kept (t':=s.toks) kp
  have x:Inv X a j (AK H d.objs.size (.tup ys)) {s with heap:=d.push {cls:=.type "tuple",data:=.seq c.toArray} }:=
   n.laid (t':=s.toks) (λb o e=>Bk _ e) (Bf _) (show AZ X.prog X.w _ _ _ (.tup ys)from⟨k,c,g,IsTup.new _ _⟩)
  exact⟨.ref d.objs.size,_,x,rfl,q _ (n.hok.fresh (Bf _))⟩
 ·obtain⟨c,g,i,k⟩:=I.tuple f
  exact call_tuple_same i ⟨.ref p,H,I,rfl,q⟩
def LM(K:Ap)(T:String)(x:V)(H:Hp):Prop:=match x with
 |.str _=>T="str"
 |.int _=>T="int"
 |.ref p=>(T="list"/\∃b,Bn K H p b)\/(T="tuple"/\∃o,K.lookup p=some o/\o.cls=.type "tuple"/\o.dict=none) \/
   (T="dict"/\((∃a,H p=some (.dK a))\/(∃a,H p=some (.dT a))\/∃c d,Rd H p (.dct c d)))\/(T="set"/\∃S n,H p=some (.set S n))
 |_=>False
theorem SO{d:List (Ad×AJ)}{σ:St}{H:Hp}{s:Ac}{T:String}{x:V}{v:Aa}(I:Inv X d σ H s)(r:RelV x v)(ty:LM X.K T x H):
  s.TypeIs v T/\∀a,v=.ref a->∃ob,s.heap.get? a=some ob/\ob.dict=none:=by
 cases x with
 |str z=>
  obtain⟨t,rfl⟩:=r
  cases(show T="str" from ty)
  exact⟨typeIs_str s z t,λ_ e=>nomatch e⟩
 |int i=>
  obtain⟨t,rfl⟩:=r
  cases(show T="int" from ty)
  exact⟨typeIs_int s i t,λ_ e=>nomatch e⟩
 |ref p=>
  cases r
  rcases ty with⟨rfl,m,j⟩|⟨rfl,o,b,k,hd⟩|⟨rfl,b⟩|⟨rfl,S,n,b⟩
  ·obtain⟨l,_,h,_⟩:=I.list j
   refine⟨h.isList.typeIs,λa e=>?_⟩
   cases e
   obtain⟨o,n,e,c,hd,_⟩:=h
   exact⟨o,e,hd⟩
  ·refine⟨⟨o,I.kIn p o b,k⟩,λa e=>?_⟩
   cases e
   exact⟨o,I.kIn _ o b,hd⟩
  ·have z:∃o,s.heap.get? p=some o/\o.ExactDict:=by
    rcases b with⟨f,b⟩|⟨f,b⟩|⟨q,u,b⟩
    ·obtain⟨_,_,_,_,o,_,_,e,ex,_⟩:=I.hok p _ b
     exact⟨o,e,ex⟩
    ·obtain⟨_,_,_,_,o,_,_,e,ex,_⟩:=I.hok p _ b
     exact⟨o,e,ex⟩
    ·obtain⟨_,_,_,o,_,_,e,ex,_⟩:=b.ok I.hok
     exact⟨o,e,ex⟩
   obtain⟨o,e,ex⟩:=z
   refine⟨⟨o,e,ex.1⟩,λa g=>?_⟩
   cases g
   exact⟨o,e,ex.2.1⟩
  ·obtain⟨o,_,_,_,e,ex,_⟩:=I.hok p _ b
   refine⟨⟨o,e,ex.1⟩,λa g=>?_⟩
   cases g
   exact⟨o,e,ex.2.1⟩
 |_=>exact Bd ty
def cc(K:Ap)(T:String)(r:V->List V->Hp->VK->Prop)(b:TE):TE:=λc H Q=>b c H λx a=>LM K T x a/\r x [] a Q
def ce(K:Ap)(T:String)(r:V->List V->Hp->VK->Prop)(c:TE)(t:TA):TE:=λa H Q=>c a H λx b=>LM K T x b/\t a b λd e=>r x d e Q
variable{o e:Expr}{es:List Expr}{to:TE}{t:TA}{name:Af}{apos cpos:AT}{T id:String}{r:V->List V->Hp->VK->Prop}
theorem SQ(i:PlainAttrs T)(slot:Slot T name id)(d:typeOf (.builtin id)=AB (.type "method_descriptor"))(j:Gn X id r)(k:PE X o to)
  (b:Gj o name X.env (Ar o X.env)=Ar o X.env:=by rfl) (c:(apos.endLine==cpos.line)=true:=by rfl):PE X (.Call (.Attribute o name apos) [] [] cpos) (cc X.K T r to):=by
 intro a s e H Q I h
 refine wpAny_Call_method0_late b c (AU (k a s e H _ I h) λv l ⟨x,m,f,g,ty,q1⟩=>?_)
 obtain⟨n,p⟩:=SO f g ty
 exact⟨T,id,i,slot,d,n,p,Calls.callWith_builtin rfl (PySem.evalArgs_none (j a l e m x [] v [] Q f g .nil q1))⟩
theorem Ot(m:PlainAttrs T)(slot:Slot T name id)(g:typeOf (.builtin id)=AB (.type "method_descriptor"))(n:Gn X id r)(p:PE X o to)(q:PA X (e::es) t)
  (c:Gj o name X.env (Ar o X.env)=Ar o X.env:=by rfl)
  (f:((AG cpos (AO (e::es) X.env)).all (λx=>!x.1)&&(Fi cpos (Fj [] X.env)).all (λx=>x.1.isSome)
   && decide ((e::es).length+([]:List Keyword).length+(if([]:List Keyword).isEmpty then 0 else 1)<30))=true:=by rfl)
  (d:(apos.endLine==cpos.line)=true:=by rfl) (u:AO (e::es) X.env=(false,Ar e X.env)::AO es X.env:=by rfl) (b:(AG cpos (AO es X.env)).any (·.1)=false:=by rfl):
  PE X (.Call (.Attribute o name apos) (e::es) [] cpos) (ce X.K T r to t):=by
 intro a s i H Q I h
 refine wpAny_Call_method_late c f d rfl (AU (p a s i H _ I h) λv w ⟨x,y,j,k,ty,q1⟩=>?_)
 obtain⟨z,A⟩:=SO j k ty
 refine⟨T,id,m,slot,g,z,A,?_⟩
 have l:=q cpos a w i y _ j q1
 rw[u]at l ⊢
 refine Calls.callWith_builtin (by show(false||(AG cpos (AO es X.env)).any (·.1))=false;rw[b]<;>rfl) (Calls.evalArgs_plain ?_)
 exact AU l λB C ⟨E,G,J,L,q2⟩=>n a C i G x E v B Q J k L q2
end
def Ou(X:Cx)(id:String)(r:V->List V->Hp->VK->Prop):Prop:=
 ∀(a:List (Ad×AJ)) (s:Ac) (b:St) (H:Hp) (x:V) (c:List V) (v:Aa) (d:List Aa) (Q:VK),Inv X a b H s->RelV x v->Am c d->r x c H Q ->
  wpAny (Ag X.prog X.w) X.A (call (.builtin id) (v::d)) (EP X a b Q) X.xe s
theorem Am.one:∀{x:V}{us:List Aa},Am [x] us->∃u,us=[u]/\RelV x u
 |_,_,.cons r .nil=>⟨_,rfl,r⟩
theorem Am.two:∀{x y:V}{us:List Aa},Am [x,y] us->∃u v,us=[u,v]/\RelV x u/\RelV y v
 |_,_,_,.cons r (.cons q .nil)=>⟨_,_,rfl,r,q⟩
theorem Am.zero:∀{us:List Aa},Am [] us->us=[]
 |_,.nil=>rfl
theorem Am.dropLast{xs:List V}{us:List Aa}(h:Am xs us):Am xs.dropLast us.dropLast:=by
 induction h with
 |nil=>exact .nil
 |cons r t a=>
  cases t with
  |nil=>exact .nil
  |cons q b=>exact .cons r a
theorem Am.eraseIdx:∀{xs:List V}{us:List Aa}(i:Nat),Am xs us->Am (xs.eraseIdx i) (us.eraseIdx i)
 |_,_,_,.nil=>.nil
 |_,_,0,.cons _ t=>t
 |_,_,i+1,.cons r t=>.cons r (Am.eraseIdx i t)
theorem Am.reverse{xs:List V}{us:List Aa}(h:Am xs us):Am xs.reverse us.reverse:=by
 induction h with
 |nil=>exact .nil
 |cons r t a=>rw[List.reverse_cons,List.reverse_cons];exact Am.append a (.cons r .nil)
theorem Am.rep{xs:List V}{us:List Aa}(h:Am xs us):∀k:Nat,Am (BZ k xs).flatten (BZ k us).flatten
 |0=>.nil
 |k+1=>by
  rw[Cy,Cy,List.flatten_cons,List.flatten_cons]
  exact Am.append h (Am.rep h k)
theorem cf{c:Type}(l:List c):l.eraseIdx (l.length-1)=l.dropLast:=by
 induction l with
 |nil=>rfl
 |cons a r d=>
  cases r with
  |nil=>rfl
  |cons b r=>
   have e:(a::b::r).length-1=((b::r).length-1)+1:=by
    have f:(a::b::r).length=r.length+2:=rfl
    have g:(b::r).length=r.length+1:=rfl
    omega
   rw[e,List.eraseIdx_cons_succ,d]
   all_goals rfl
section
variable{X:Cx}{pins:List (Ad×AJ)}{σ:St}{H:Hp}{s:Ac}{l b:Ad}{xs ys zs:List V}
theorem Inv.lset{a its':List Aa}{n:Nat}{f:Array Aa->Array Aa}{t':Nat}(I:Inv X pins σ H s)(b:H l=some (.lst xs))
  (e:s.heap.get? l=some {cls:=.type "list",data:=.seq a.toArray n}) (c:f a.toArray=its'.toArray) (d:Am ys its') (hz:ys.length<=Av):
  Inv X pins σ (AK H l (.lst ys)) {s with heap:=s.heap.update l (Ez f),toks:=t' }:=by
 have q:=PySem.IsL.update e f
 rw[c]at q
 refine I.write (x:=l) (e:=l) (by rw[b];exact trivial) (.inl rfl) (λi u g h=>(IS s.heap (Ez f) (BX g)).trans h) ⟨_,q⟩ ?_
 exact⟨hz,its',_,d,q⟩
theorem Inv.lnew{a:List Aa}{t':Nat}(I:Inv X pins σ H s)(b:Am ys a)(hz:ys.length<=Av):
  Inv X pins σ (AK H s.heap.objs.size (.lst ys)) {s with heap:=s.heap.push {cls:=.type "list",data:=.seq a.toArray},toks:=t' }:=
 I.laid (λ_ _ q=>Bk _ q) (Bf _) ⟨hz,a,0,b,BY _ rfl⟩
theorem Inv.fresh(I:Inv X pins σ H s):H s.heap.objs.size=none:=I.hok.fresh (Bf _)
theorem Inv.lstM(I:Inv X pins σ H s)(b:H l=some (.lst xs)):xs.length<=Av/\∃(a:List Aa)(n:Nat),Am xs a/\xs.length=a.length/\s.heap.get? l=some {cls:=.type "list",data:=.seq a.toArray n}:=by
 obtain⟨z,a,n,r,e⟩:=I.hok l _ b
 exact⟨z,a,n,r,r.length,e⟩
end
section
variable{X:Cx}
def cg:V->List V->Hp->VK->Prop:=λx b H Q=>∃l a y,x=.ref l/\b=[y]/\H l=some (.lst a)/\a.length<Av/\Q .non (AK H l (.lst (a++[y])))
theorem cj:Ou X "list.append" cg:=by
 intro b s j H x k v m Q I f g h
 obtain⟨l,o,y,rfl,rfl,c,p,q⟩:=h
 cases f
 obtain⟨u,rfl,i⟩:=g.one
 obtain⟨z,a,n,r,t,e⟩:=I.lstM c
 refine By F.slot_list_append ⟨_,e,rfl⟩ F.entry_list_append (F.args_list_append_2 _ _) (PySem.list_append l a.toArray n u (by rw[Bu];omega)) ⟨e,?_⟩
 refine⟨.non,_,I.lset (its':=a++[u]) c e (by simp) (r.append (.cons i .nil)) ?_,rfl,q⟩
 rw[FO,List.length_singleton]
 omega
def ck:V->List V->Hp->VK->Prop:=λx b H Q=>∃l a y,x=.ref l/\b=[]/\H l=some (.lst a)/\a[a.length-1]?=some y/\Q y (AK H l (.lst a.dropLast))
theorem lU:Ou X "list.pop" ck:=by
 intro d s t H x w v A Q I i j h
 obtain⟨l,B,y,rfl,rfl,f,k,q⟩:=h
 cases i
 have b:=j.zero
 subst b
 obtain⟨z,a,n,r,m,e⟩:=I.lstM f
 obtain⟨u,o,p⟩:=r.get k
 have c:a.toArray[a.toArray.size-1]?=some u:=by
  show a.toArray[a.length-1]?=some u
  rw[<- Ov,<- m]
  exact o
 refine By F.slot_list_pop ⟨_,e,rfl⟩ F.entry_list_pop (F.args_list_pop_1 _) (MeetsSeq.list_pop_last l a.toArray n u c (by rw[Bu];omega)) ⟨e,?_⟩
 refine⟨y,_,I.lset (its':=a.dropLast) f e ?_ r.dropLast ?_,p,q⟩
 ·show a.toArray.eraseIdxIfInBounds (a.toArray.size-1)=a.dropLast.toArray
  rw[Bu,List.eraseIdxIfInBounds_toArray,cf]
 ·rw[List.length_dropLast]
  omega
def cm:V->List V->Hp->VK->Prop:=λx a H Q=>∃l b,x=.ref l/\a=[]/\H l=some (.lst b)/\Q .non (AK H l (.lst []))
theorem SR:Ou X "list.clear" cm:=by
 intro c s j H x k v m Q I g i h
 obtain⟨l,o,rfl,rfl,d,q⟩:=h
 cases g
 have a:=i.zero
 subst a
 obtain⟨z,b,n,r,p,e⟩:=I.lstM d
 refine By F.slot_list_clear ⟨_,e,rfl⟩ F.entry_list_clear (F.args_list_clear_1 _) (AutoSeq1.list_clear_list_0 l b.toArray n (by rw[Bu];omega)) ⟨e,?_⟩
 exact⟨.non,_,I.lset (its':=[]) (ys:=[]) d e rfl .nil (Dq _),rfl,q⟩
end
section
variable{prog:AS}{w:Ai}{A:Ah}{E:Aa->Ac->Prop}{s:Ac}
set_option maxRecDepth 100000 in
end
section
variable{X:Cx}
end
end L2
namespace Att
open PySem PySem.W PySem.Calls PyProof.Rows
theorem cp{P:Params}{h:Al}:∀(ns:List Int)(vs:List Aa),WellAll P h vs (ns.map WData.int)->IntsAre vs ns:=by
 intro ns
 induction ns with
 |nil=>
  intro vs w
  rw[BH]at w
  cases w
  exact .nil
 |cons n ns c=>
  intro vs w
  rw[AY]at w
  cases w with
  |cons a b=>
   cases a
   exact .cons _ _ (c _ b)
theorem cq{l:OpenLaw}{n:Nat}(m:l.most=some n){P:Params}{h:Al}{args:List WData}{Zs:List Aa}
  (b:l.row.toRowW.claim.pre args=true) (i:WellAll P h Zs args):
  ∃a vs ns,Zs=[Bv a]/\args=[WData.list (ns.map WData.int)]/\h.get? a=some {cls:=.type "list",data:=.seq vs.toArray}/\IntsAre vs ns/\ns.length<=n:=by
 have j:WShape.hasAll [] args [.list .int]=true:=(pre_splitW b).1
 have k:l.pre.holds [] {args:=args}=true:=(pre_splitW b).2
 obtain⟨d,r,rfl,o,p⟩:=hasAllW_cons j
 obtain rfl:=hasAllW_nil p
 obtain⟨x,rfl,s⟩:=hasW_list o
 obtain⟨ns,rfl⟩:=items_int s
 have c:ns.length<=n:=by
  unfold OpenLaw.pre at k
  have f:(WTm.not (.lt (.lit (.int (n:Int))) (.len (.arg 0)))).holds [] {args:=[.list (ns.map .int)]}=true:=by
   have f:=(holds_andW k).1
   rw[m]at f
   exact f
  have g:=condW_of f (w_not (w_lt w_lit (w_len_list (w_arg rfl))))
  rw[Bb]at g
  refine Nat.le_of_not_lt λq=>?_
  have t:(n:Int)<((ns.length:Nat):Int):=by omega
  first
   |(rw[decide_eq_true t]at g;exact absurd g (by decide))
   |(simp at g;omega)
 cases i with
 |cons u v=>
  cases v
  cases u with
  |list w e=>exact⟨_,_,ns,rfl,rfl,w,cp ns _ e,c⟩
theorem cr(l:OpenLaw)(args:List WData):l.row.toRowW.claim.post args (.bool true) args=true:=
 postW_of (r:=l.row.toRowW) (X:=(true==true))
  (show WShape.has [] (.bool true) .bool=true by first|rfl|decide|simp[WShape.has,WShape.arms,WShape.armsAll])
  (show(WTm.eq .res (.lit (.bool true))).value [] {args:=args,res:=some (.bool true),after:=args}=some (.bool (true==true))from w_eq_bool (w_res rfl) w_lit) rfl
theorem attach_call{l:OpenLaw}{n:Nat}{q:AS}{c:List Af}{x:(Af->Option Aa)->Al->Prop}{y:Ai->Al->Prop}{d:DefRec}
  (B:l.most=some n) (m:d.params.defaults=[])
  (call:∀(w:Ai) (s₀ b:Ac) (mg p:Af->Option Aa) (fa:Ad) (o:AJ) (s k e:Aa) (a:Ad) (vs:List Aa) (ns:List Int),
   Ground q c [] x w s₀ mg p b.heap->y w b.heap ->
   b.heap.get? fa=some o->o.data=.func (docDef d.name d.params d.body d.scope s k e)->b.heap.CodeRec k d.name->mg d.name=some (.ref fa) ->
   b.heap.get? a=some {cls:=.type "list",data:=.seq vs.toArray}->IntsAre vs ns->ns.length<=n->b.gens=#[] ->
   codeAny (Ag l.prog w) callerA (.call (.ref fa) ⟨[.ref a],[]⟩) (λr s'=>r=.ok (.ret (.bool true))/\OldK b.heap s'.heap/\s'.os=b.os/\AllBare s'.gens) b):
  WalkO q c x y l.row.toRowW d [] (λf vs=>PySem.call f vs):=by
 intro w s₀ b mg p G Y fa o s k e C kV E hd t z u H args Zs T h A I v J
 obtain rfl:C=.none:=Dflts.none z m
 obtain rfl:kV=.none:=Dflts.noKw z
 obtain⟨a,vs,ns,rfl,rfl,i,g,j⟩:=cq B h v
 refine enter_call (IL (call w s₀ b mg p fa o s k e a vs ns G Y E (fd_plain hd) t u i g j H) λr s' L=>?_)
 obtain⟨rfl,M,N,O⟩:=L
 exact⟨.inl ⟨.bool true,.bool true,[],rfl,λ_=>rfl,.bool true,cr l _,λ_=>⟨List.Pairwise.nil,λ_ Q=>(nomatch Q)⟩⟩,M,N,O⟩
section
variable{prog:AS}{w:Ai}{A:Ah}{E:Aa->Ac->Prop}{s:Ac}{K:AV}
end
end Att
namespace L2
open PySem PySem.Spec PyProof.Rows
theorem SS:∀{vs:List Aa}{ns:List Int},IntsAre vs ns->Am (ns.map V.int) vs
 |_,_,.nil=>.nil
 |_,_,.cons n t h=>.cons ⟨t,rfl⟩ (SS h)
def Ow(H:Hp):Prop:=∀b,H b=none\/∃o a,H b=some (.frz o (.lst a))
theorem cu{P:AS}{w:Ai}{K:Ap}{mg G:Af->Option Aa}{CX:DS}{k:Nat}{fa a:Ad}{fd:A5}{x:Af}{sp:Sp}{c:Ac}{vs:List Aa}{ns:List Int}
  (Q:K.In c.heap) (j:c.heap.Ns BD mg) (f:c.heap.Ns builtinsNs G) (I:∀x:Af,x≠"__name__"->G x=Eg x) (l:c.heap.NoLimit) (hg:c.gens=#[])
  (E:c.heap.get? a=some {cls:=.type "list",data:=.seq vs.toArray}) (T:IntsAre vs ns) (U:ns.length<=Av) (hr:AR k callerA)
  (F:∀base:Al,K.In base->base.Ns BD mg->Aw P w K mg base CX k fa fd [x] sp) (i:∀(s:Ac) (u:Aa),BindsTo s fd ⟨[u],[]⟩ [(x,u)])
  (J:∀H:Hp,Ow H->Bn K H a (ns.map V.int)->sp [.ref a] H (λv _=>v=.bl true) λ_ _ _=>False)
  (L:∀H e s',CX [] H c (λ_ _ _=>False) e s'->False):
  codeAny (Ag P w) callerA (.call (.ref fa) ⟨[.ref a],[]⟩) (λr s'=>r=.ok (.ret (.bool true))/\OldK c.heap s'.heap/\s'.os=c.os/\AllBare s'.gens) c:=by
 have Y:=SS T
 have p:=T.length
 have core:∀H:Hp,Ow H->Bn K H a (ns.map V.int)->BV P w H c.heap->(∀b,H b≠none->b=a)->(H a≠none->K.lookup a=none) ->
   codeAny (Ag P w) callerA (.call (.ref fa) ⟨[.ref a],[]⟩) (λr s'=>r=.ok (.ret (.bool true))/\OldK c.heap s'.heap/\s'.os=c.os/\AllBare s'.gens) c:=by
  intro H hO hS hok hA hK
  have base_of:∀{b:Ad} {o:AJ},c.heap.get? b=some o->H b=none->(Ge c.heap H).get? b=some o:=λe n=>YK e n
  have M:∀{b:Ad} {o:AJ} {t:Array Bi} {y:Nat},c.heap.get? b=some o->o.data=.dict t y->H b=none:=λ{b o t y} e d=>by
   cases q:H b with
   |none=>rfl
   |some u=>
    have N:b=a:=hA b (by rw[q];simp)
    subst N
    rw[E]at e;cases e
    have d':Data.seq vs.toArray _=Data.dict t y:=d
    cases d'
  have g:∀{b:Ad} {m:Af->Option Aa},c.heap.Ns b m->(Ge c.heap H).Ns b m:=λ{b m} ⟨o,t,y,e,d,r⟩=>⟨o,t,y,base_of e (M e d),d,r⟩
  have A:K.In (Ge c.heap H):=λb o e=>base_of (Q b o e) (by
   cases q:H b with
   |none=>rfl
   |some u=>
    have N:b=a:=hA b (by rw[q];simp)
    subst N
    rw[hK (by rw[q];simp)]at e;cases e)
  have hM:Mod K mg (Ge c.heap H):=⟨A,g j,⟨G,g f,I⟩,let⟨mc,h1,h2⟩:=l;⟨mc,g h1,h2⟩⟩
  have e0:Ca P w K mg (Ge c.heap H) callerA [] c H:=⟨rfl,hM,λb o e=>YL e,Nat.le_of_eq (YJ _ _),trivial,λb f=>absurd (show b∈([]:List Ad)from f) (by simp),hok,.of_eq hg⟩
  refine IL ((F _ A (g j)).run callerA [] c H ⟨[.ref a],[]⟩ [.ref a] [.ref a] _ _ hr e0 (i c (.ref a)) (.cons rfl .nil) (J H hO hS)) λr s' h=>?_
  cases r with
  |error e=>exact(L H e s' h).elim
  |ok fl=>
   cases fl with
   |next=>exact Bd h
   |brk=>exact Bd h
   |cont=>exact Bd h
   |ret u=>
    obtain⟨v,H',os,bare,un,B,r',q⟩:=h
    have q':v=.bl true:=q
    subst q'
    obtain rfl:u=Value.bool true:=r'
    refine⟨rfl,OldK.of_keep λb o e=>?_,os,bare⟩
    cases q:H b with
    |none=>exact un.keep b o e q (by intro z;exact absurd (show b∈([]:List Ad)from z) (by simp)) (by simp)
    |some u=>
     rcases hO b with z|⟨ob,xs,z⟩
     ·rw[q]at z;cases z
     ·have z2:=un.frzs b ob _ z
      obtain⟨e1,_⟩:=hok b _ z
      obtain⟨e2,_⟩:=B b _ z2
      rw[e]at e1;cases e1
      exact e2
 cases O:K.lookup a with
 |some o=>
  have e:=Q a o O
  rw[E]at e
  cases e
  refine core (λ_=>none) (λ_=>.inl rfl) (.inr ⟨_,vs.toArray,_,O,rfl,rfl,rfl,by rw[Bu,p];exact U,by simpa using Y⟩) (λb u z=>by have C:(none:Option HO)=some u:=z;cases C) (λb z=>absurd rfl z) λz=>absurd rfl z
 |none=>
  refine core (λb=>if b=a then some (.frz {cls:=.type "list",data:=.seq vs.toArray} (.lst (ns.map V.int)))else none) (λb=>?_) (.inl (.inr ⟨{cls:=.type "list",data:=.seq vs.toArray},if_pos rfl⟩)) (λb u z=>?_) (λb z=>?_) λ_=>O
  ·by_cases f:b=a
   ·exact .inr ⟨_,_,if_pos f⟩
   ·exact .inl (if_neg f)
  ·by_cases f:b=a
   ·have C:=(if_pos f).symm.trans z
    cases C
    subst f
    exact⟨E,by rw[Bb];exact U,vs,_,Y,E⟩
   ·have C:=(if_neg f).symm.trans z
    cases C
  ·by_cases f:b=a
   ·exact f
   ·exact absurd (if_neg f) z
theorem walk_of{l:PySem.W.OpenLaw}{n k:Nat}{q:AS}{i:List Af}{E:(Af->Option Aa)->Al->Prop}{B:Ai->Al->Prop}{d:DefRec}{K:Params->Ap}{CX:Ai->DS}{sp:Ai->Sp}{x:Af}
  (I:l.most=some n) (r:n<=Av) (t:d.params.defaults=[]) (J:AR k callerA)
  (L:∀(w:Ai) (h:Al),B w h->(K w.params).In h)
  (F:∀(w:Ai) (mg:Af->Option Aa) (fa:Ad) (h:Al),(K w.params).In h->h.Ns BD mg->mg d.name=some (.ref fa) ->
   ∃fd:A5,(∀(s:Ac) (u:Aa),BindsTo s fd ⟨[u],[]⟩ [(x,u)]) /\
    ∀base:Al,(K w.params).In base->base.Ns BD mg->Aw l.prog w (K w.params) mg base (CX w) k fa fd [x] (sp w))
  (y:∀(w:Ai) (H:Hp) (a:Ad) (ns:List Int),ns.length<=n->Ow H->Bn (K w.params) H a (ns.map V.int)->sp w [.ref a] H (λv _=>v=.bl true) λ_ _ _=>False)
  (z:∀(w:Ai) (H:Hp) (s:Ac) (e:Aa) (s':Ac),CX w [] H s (λ_ _ _=>False) e s'->False):
  PySem.W.WalkO q i E B l.row.toRowW d [] (λf vs=>PySem.call f vs):=by
 refine Att.attach_call I t λw s₀ m mg mb fa o pm cd M a vs ns G Y ho hd N A p j c O=>?_
 have C:=L w _ Y
 obtain⟨fd,Q,U⟩:=F w mg fa _ C G.T.g A
 exact cu C G.T.g G.T.b G.T.builtins G.T.nolimit O p j (BO c r) J U Q (λH hO hS=>y w H a ns c hO hS) λH e s'=>z w H m e s'
def IT(s:As)(j:Nat):As:=match s with
 |.ClassDef _ _ _ a _ _ _ _ _ _ _=>a.getD j (.Pass ⟨0,0,0,0⟩)
 |_=>.Pass ⟨0,0,0,0⟩
def FQ(s:As):Arguments:=match s with
 |.FunctionDef _ a _ _ _ _ _ _ _ _=>a
 |_=>{posonlyargs:=[],args:=[],vararg:=none,kwonlyargs:=[],kw_defaults:=[],kwarg:=none,defaults:=[]}
def DE(s:As):List As:=match s with
 |.FunctionDef _ _ b _ _ _ _ _ _ _=>b
 |_=>[]
def Zi(s:As):Scope:=match s with
 |.FunctionDef _ _ _ _ _ _ a _ _ _=>a
 |_=>{kind:=.function,names:=[],isGenerator:=false,isCoroutine:=false}
abbrev A6:DS:=λ_ _ _ _ _ _=>False
abbrev E0:XK:=λ_ _ _=>False
theorem Gq{X:Cx}:E6 A6 X E0:=λ_ _ _ _ _ _ _ h=>h.elim
structure Gr(K:Ap)(x qual:Af)(st:As)(f:Ad)(fd:A5):Prop where
 ex:∃(oc:Aa) (od:Option Ad) (kV doc pm:Aa) (an:Option Ad) (cdv ct:Aa) (osl:Array (Option Aa)),
  fd=G6 x qual (FQ st) (DE st) (Zi st) .none kV doc pm an cdv ct/\K.lookup f=some ⟨oc,od,.func fd,osl⟩/\PySem.W.codeIn K cdv qual=true
 kp:HH K (.ref f)=true
section
variable{P:AS}{w:Ai}{K:Ap}{mg:Af->Option Aa}{base:Al}
theorem Gr.ok{x a:Af}{st:As}{f:Ad}{fd:A5}{N ps:List Af}{k:Nat}{sp:Sp}(F:Gr K x a st f fd)(S:Zx N ps (Zi st))(len:∀vs H Q E,sp vs H Q E->vs.length=ps.length)
  (c:∀(b:Aa) (A:Ah) (outer:List Env) (s:Ac) (H:Hp) (vs:List V) (Q:VK) (E:XK),AR k (A.deeper (Bt a (Zi st) s.heap.objs.size f b))->sp vs H Q E ->
   ∃t,DP (Ey A6 P w K mg base N a (Zi st) f b A outer s H E).nox (DE st) t/\t {nx:=λ_ H'=>Q .non H',rt:=Q} (Z7 N vs) H):Aw P w K mg base A6 (k+1) f fd ps sp:=by
 obtain⟨m,n,kV,g,o,p,b,ct,i,rfl,j,d⟩:=F.ex
 refine Sv j d S len λA outer s H vs Q E l e=>?_
 obtain⟨t,h,q⟩:=c b A outer s H vs Q E l e
 exact⟨t,h.nox,q⟩
theorem SU{x a:Af}{st:As}{f:Ad}{i:Aa}{j g:Option Ad}{e:Array (Option Aa)}{kV d h b ct:Aa}(l:K.lookup f=some ⟨i,j,.func (G6 x a (FQ st) (DE st) (Zi st) .none kV d h g b ct),e⟩)
  (c:PySem.W.codeIn K b a=true) (k:HH K (.ref f)=true):Gr K x a st f (G6 x a (FQ st) (DE st) (Zi st) .none kV d h g b ct):=⟨⟨i,j,kV,d,h,g,b,ct,e,rfl,l,c⟩,k⟩
end
theorem cv{n:Nat}(h:n<=1000):n<Av:=Nat.lt_of_le_of_lt h (by decide)
section
variable{X:Cx}
end
def Ak(H H':Hp):Prop:=∀b o,H b=some o->H' b=some o
theorem Ak.refl(H:Hp):Ak H H:=λ_ _ h=>h
theorem Ak.trans{H d e:Hp}(a:Ak H d)(b:Ak d e):Ak H e:=λc o h=>b c o (a c o h)
theorem Ak.free{H H':Hp}(e:Ak H H'){l:Ad}(h:H' l=Option.none):H l=Option.none:=by
 cases q:H l with
 |none=>rfl
 |some o=>
  rw[e l o q]at h
  cases h
theorem Ak.seq{K:Ap}{H H':Hp}{a:Ad}{xs:List V}(e:Ak H H')(h:Bn K H a xs):Bn K H' a xs:=by
 rcases h with(h|⟨o,h⟩)|h
 ·exact .inl (.inl (e _ _ h))
 ·exact .inl (.inr ⟨o,e _ _ h⟩)
 ·exact .inr h
def DU(env:Env):List (Af×Ej)->List (Af×Ad)->List (Af×Ad)
 |[],a=>a
 |(n,k)::r,a=>if k=Ek then DU env r ((n,(env.cells.lookup n).getD 0)::a)else DU env r a
theorem SV{scope:Scope}{env:Env}(h:∀x∈scope.names,x.2=.free->∃c,env.cells.lookup x.1=some c):
  closureFor scope env=AB (DU env scope.names []):=by
 have all:∀(l:List (Af×Ej)) (b:List (Af×Ad)),(∀x∈l,x.2=.free->∃c,env.cells.lookup x.1=some c) ->
   (forIn l b (λ(x:Af×Ej) (b:List (Af×Ad))=>if(x.2==Ek)=true then(do let a <- cellOf env x.1;AB (ForInStep.yield ((x.1,a)::b)))else AB (ForInStep.yield b)):Sem (List (Af×Ad)))=AB (DU env l b):=by
  intro l
  induction l with
  |nil=>intro b _;rfl
  |cons x l j=>
   intro b f
   obtain⟨n,k⟩:=x
   rw[LN]
   have g:=λb=>j b (λy m=>f y (BA _ m))
   by_cases d:k=.free
   ·subst d
    obtain⟨c,i⟩:=f (n,.free) Bw rfl
    have e:cellOf env n=AB c:=by unfold cellOf;simp only[i]
    simp only[beq_self_eq_true,if_true,e,pure_bind,g,DU,i,Option.getD_some]
   ·have o:(k==Ek)=false:=by simpa using d
    simp only[o,DF,if_false,pure_bind,g,DU,d]
 have:=all scope.names [] h
 simp only[closureFor]
 rw[<- bind_pure (AB (DU env scope.names []):Sem _),<- this]
theorem Ox{env:Env}:∀(l:List (Af×Ej))(a:List (Af×Ad)),(∀x∈l,x.2=.free->∃c,env.cells.lookup x.1=some c) ->
  (∀p∈a,env.cells.lookup p.1=some p.2)->∀p∈DU env l a,env.cells.lookup p.1=some p.2
 |[],a,_,h=>h
 |(n,k)::r,a,d,h=>by
  have f:∀x∈r,x.2=.free->∃c,env.cells.lookup x.1=some c:=λy i=>d y (BA _ i)
  by_cases g:k=.free
  ·subst g
   obtain⟨c,j⟩:=d (n,.free) Bw rfl
   simp only[DU,if_true]
   refine Ox r _ f λp b=>?_
   rcases Bm.mp b with e|b
   ·subst e;simp only[j,Option.getD_some]
   ·exact h p b
  ·simp only[DU,g,if_false]
   exact Ox r a f h
theorem Oy{env:Env}:∀(l:List (Af×Ej))(a:List (Af×Ad))(x:Af),((x,Ek)∈l\/∃c,(x,c)∈a)->∃c,(x,c)∈DU env l a
 |[],a,x,h=>by
  rcases h with h|h
  ·cases h
  ·exact h
 |(n,k)::r,a,x,h=>by
  by_cases b:k=.free
  ·subst b
   simp only[DU,if_true]
   refine Oy r _ x ?_
   rcases h with h|⟨c,h⟩
   ·rcases Bm.mp h with e|h
    ·cases e;exact .inr ⟨_,Bw⟩
    ·exact .inl h
   ·exact .inr ⟨c,BA _ h⟩
  ·simp only[DU,b,if_false]
   refine Oy r a x ?_
   rcases h with h|h
   ·rcases Bm.mp h with e|h
    ·cases e;exact absurd rfl b
    ·exact .inl h
   ·exact .inr h
theorem SW{a:Type}:∀{l:List (Af×a)}{x:Af}{c:a},(x,c)∈l->∃d,l.lookup x=some d
 |[],_,_,h=>by cases h
 |(n,b)::r,x,c,h=>by
  rw[Fn]
  cases e:x==n with
  |true=>exact⟨b,rfl⟩
  |false=>
   rcases Bm.mp h with z|h
   ·cases z;simp at e
   ·exact SW h
structure ER(own outs:List Af)(sc osc:Scope):Prop where
 kind:sc.kind=.function
 nocell:∀x∈sc.names,x.2≠.cell
 free:∀x∈sc.names,x.2=.free->osc.names.lookup x.1=some .cell\/osc.names.lookup x.1=some .free
 loc:∀x∈sc.names,x.2=.local->sc.names.lookup x.1=some .local
 out:∀x∈outs,sc.names.lookup x=some .free
 nd:(own++outs).Nodup
theorem Ci{env:Env}:∀{names:List (Af×Ej)}{x:Af},names.lookup x=some .free ->
  ((names.map λ(n,k)=>if(k==Ek&&env.scope.kind==.function&&env.kindOf n==some .cell)then(n,G7)else(n,k)).lookup x=some .cell \/
    (names.map λ(n,k)=>if(k==Ek&&env.scope.kind==.function&&env.kindOf n==some .cell)then(n,G7)else(n,k)).lookup x=some .free)
 |[],_,h=>by simp at h
 |(n,k)::r,x,h=>by
  have b:=@Ci env r x
  rw[AY]
  by_cases c:(k==Ek&&env.scope.kind==.function&&env.kindOf n==some .cell)=true
  ·rw[show(match((n,k):Af×Ej)with|(n,k)=>if(k==Ek&&env.scope.kind==.function&&env.kindOf n==some .cell)then(n,G7)else(n,k))=(n,G7)from if_pos c]
   rw[Fn]at h ⊢
   cases a:x==n with
   |true=>exact .inl rfl
   |false=>rw[a]at h;exact b h
  ·rw[show(match((n,k):Af×Ej)with|(n,k)=>if(k==Ek&&env.scope.kind==.function&&env.kindOf n==some .cell)then(n,G7)else(n,k))=(n,k)from if_neg c]
   rw[Fn]at h ⊢
   cases a:x==n with
   |true=>rw[a]at h;exact .inr h
   |false=>rw[a]at h;exact b h
theorem B0{env:Env}:∀{names:List (Af×Ej)}{x:Af}{k:Ej},k=.cell\/k=.free->(∀y∈names,y.2≠.cell) ->
  (names.map λ(n,k)=>if(k==Ek&&env.scope.kind==.function&&env.kindOf n==some .cell)then(n,G7)else(n,k)).lookup x=some k->(x,Ek)∈names
 |[],_,_,_,_,h=>by simp at h
 |(n,j)::r,x,k,a,f,h=>by
  have g:=@B0 env r x k a λy i=>f y (BA _ i)
  rw[AY]at h
  by_cases c:(j==Ek&&env.scope.kind==.function&&env.kindOf n==some .cell)=true
  ·rw[show(match((n,j):Af×Ej)with|(n,k)=>if(k==Ek&&env.scope.kind==.function&&env.kindOf n==some .cell)then(n,G7)else(n,k))=(n,G7)from if_pos c]at h
   rw[Fn]at h
   cases b:x==n with
   |true=>
    have e:x=n:=by simpa using b
    have d:j=.free:=by
     simp only[C5,beq_iff_eq]at c
     exact c.1.1
    subst e d
    exact Bw
   |false=>rw[b]at h;exact BA _ (g h)
  ·rw[show(match((n,j):Af×Ej)with|(n,k)=>if(k==Ek&&env.scope.kind==.function&&env.kindOf n==some .cell)then(n,G7)else(n,k))=(n,j)from if_neg c]at h
   rw[Fn]at h
   cases b:x==n with
   |true=>
    rw[b]at h
    have e:x=n:=by simpa using b
    have d:j=k:=Ew h
    subst e d
    rcases a with a|a
    ·exact absurd a (f _ Bw)
    ·subst a;exact Bw
   |false=>rw[b]at h;exact BA _ (g h)
def B2(X:Cx)(own a:List Af)(scope:Scope)(C:Ad)(c:Ac)(d:Hp)(e:List Ad)(b:List (Ad×AJ)):Cx where
 prog:=X.prog
 w:=X.w
 K:=X.K
 mg:=X.mg
 base:=X.base
 A:=X.A
 N:=own++a
 s₀:=c
 H₀:=d
 env:=compEnvC scope (DU X.env scope.names []) C X.env
 outer:=X.stack
 stack:=X.stack
 ex:=e
 fn:=λ_=>false
 calm:=X.calm
 pn:=X.pn++b
 xe:=λ_ _=>False
def EA(X:Cx)(b:List Expr)(e:TT):Prop:=
 ∀(a:List (Ad×AJ)) (s:Ac) (d:St) (H:Hp) (Q:Bool->Hp->Prop),Inv X a d H s->e d H Q ->
  wpAny (Ag X.prog X.w) X.A (forIn b true λc r=>if r=true then do let ok <- isTrue c X.env (Ar c X.env);AB (ForInStep.yield ok)else AB (ForInStep.yield r)) (TP X a d Q) X.xe s
def Oz:TT:=λ_ H Q=>Q true H
theorem OA{X:Cx}:EA X [] Oz:=λ_ _ _ H _ I h=>wpAny_tests_nil ⟨H,I,h⟩
def D9(k:Nat)(a:List Nat)(σ:St):St:=BZ k none++a.map λj=>(σ[j]?).join
def SX(k:Nat)(e:List Nat)(g:TG)(m:TT)(o:TE)(J:It)(σ:St)(H:Hp)(Q:VK):Prop:=
 ∃(n:Nat) (W:Nat->List V->Hp->Prop),W 0 [] H/\∀i c d,W i c d ->
  (J.stop i d/\c.length<=Av/\∀p,d p=none->Q (.ref p) (AK d p (.lst c))) \/
  (J.go i d/\i<n/\c.length<Av/\∃N:List V->Hp->Prop,(∀f h,N f h->W (i+1) f h)/\∀x j,J.yld i d x j->g x (D9 k e σ) j λa q=>a.drop k=(D9 k e σ).drop k /\
   m a q λb l=>if b=true then o a l λy r=>N (c++[y]) r else N c l)
def LO(k:Nat)(a:List Nat)(c:TI)(g:TG)(d:TT)(e:TE):TE:=λb H Q=>c b H λJ f=>SX k a g d e J b f Q
def El(a:List Aa)(n:Nat):AJ:={cls:=.type "list",data:=.seq a.toArray n}
theorem BV.track{P:AS}{w:Ai}{H:Hp}{h:Al}{a:Ad}{o:HO}(x:BV P w H h)(d:H a=none)(new:AZ P w (AK H a o) h a o):BV P w (AK H a o) h:=λb u e=>by
 by_cases f:b=a
 ·subst f;rw[ZP]at e;cases e;exact new
 ·rw[Zq f]at e
  exact(x b u e).stay (λc v _ q=>q) (λc q=>by rw[Zq (Z4 q d)];exact q) λc g q=>by rw[Zq (Z4 q d)];exact q
theorem SY{X:Cx}{f:List (Ad×AJ)}{σ:St}{H2:Hp}{a:Ac}{tg elt iter:Expr}{ifs:List Expr}{scope:Scope}{pos:AT}{J:It}{M:List Ad}{it:Ad}{tn:Nat->Al->Prop}
  {own I:List Af} {U:List Nat} {g:TG} {tt:TT} {te:TE} {Q:VK} {E:Aa->Ac->Prop} {RR:Aa->Ad->Result->Ac->Prop}
  (S:ER own I scope X.env.scope) (hox:U.map (λj=>X.N[j]?)=I.map some) (hc:X.calm=true)
  (hg:∀C a H2 M f,PG (B2 X own I scope C a H2 M f) tg g)
  (ht:∀C a H2 M f,EA (B2 X own I scope C a H2 M f) ifs tt)
  (he:∀C a H2 M f,PE (B2 X own I scope C a H2 M f) elt te)
  (B:Inv X f σ H2 a) (T:Gh X.prog X.w X.K tg J M it tn) (st:tn 0 a.heap) (f2:∀b∈M,EQ X f H2 b)
  (h:SX own.length U g tt te J σ H2 Q)
  (hRR:∀(C:Ad) (s':Ac) (m:Af->Option Aa) (H':Hp),s'.heap.Ns C m->Inv X f σ H' s'->H' C=none->C≠X.env.locals->X.s₀.heap.objs.size<=C ->
   (∀x c,X.env.cells.lookup x=some c->c≠C)->(∀p∈X.pn++f,p.1≠C)->Q (.ref a.heap.objs.size) H'->RR (.ref a.heap.objs.size) C (.ok .next) s'):
  wpAny (Ag X.prog X.w) X.A (newList []) (λacc s₃=>wpAny (Ag X.prog X.w) X.A (newFunctionEnv scope X.env.globals (DU X.env scope.names []) [] X.env.qual none .none (some X.env)) (λcenv s₄=>
   codeAny (Ag X.prog X.w) X.A (.compStart (.ListComp elt [⟨tg,iter,ifs,0⟩] scope pos) 0 (.ref it) acc {cenv with scope:=relabel scope X.env}) (RR acc cenv.locals) s₄) E s₃) E a:=by
 obtain⟨n,W,w0,turn⟩:=h
 refine Fk (wpAny_newFunctionEnv S.nocell (by intro y hy;simp at hy) (λh₁ O L=>?_) S.kind)
 dsimp only at O L ⊢
 generalize hP:a.heap.push {cls:=.type "list",dict:=none,data:=.seq ([]:List Aa).toArray}=t at O L ⊢
 have hC:t.objs.size=a.heap.objs.size+1:=by rw[<- hP,FN]
 generalize hCC:t.objs.size=C at O L hC ⊢
 have hDC:a.heap.objs.size≠C:=by rw[hC];exact BS (LI _)
 have H:a.heap.objs.size<C:=by rw[hC];exact LI _
 have old:∀b o,a.heap.get? b=some o->h₁.get? b=some o:=λb o e=>
  L.extBut b o (BS (G8 (Be e) H)) (Bk _ (hP ▸ Bk _ e))
 have hacc:h₁.get? a.heap.objs.size=some (El [] 0):=L.extBut _ _ hDC (Bk _ (hP ▸ BY _ rfl))
 have hcells:∀x∈scope.names,x.2=.free->∃c,X.env.cells.lookup x.1=some c:=λx hx hf=>B.ok.has x.1 (S.free x hx hf)
 have clX:∀x c,(DU X.env scope.names []).lookup x=some c->X.env.cells.lookup x=some c:=λx c e=>
  Ox scope.names [] hcells (λp t=>by cases t) (x,c) (IP e)
 have clHas:∀x,(x,Ek)∈scope.names->∃c,(DU X.env scope.names []).lookup x=some c:=λx hx=>by
  obtain⟨c,hc⟩:=Oy (env:=X.env) scope.names [] x (.inl hx)
  exact SW hc
 have fpLt:∀b∈M,b<a.heap.objs.size:=λb G=>by
  obtain⟨o,e,_⟩:=T.obj 0 _ st b G
  exact Be e
 have cLt:∀x c,X.env.cells.lookup x=some c->c<a.heap.objs.size:=λx c e=>by
  obtain⟨v,q⟩:=B.cell x c e
  exact q.lt
 have fpStk:∀b∈M,b∉BW X.stack:=λb G z=>by
  rcases Bm.mp (B.stkSub b z)with e|z
  ·exact(f2 b G).2.1 e
  ·exact(f2 b G).2.2.1 z
 have pinLt:∀p∈X.pn++f,p.1<a.heap.objs.size:=λp t=>Be (B.pin p t).1
 have pinStk:∀p∈X.pn++f,p.1∉BW X.stack:=λp t z=>by
  rcases Bm.mp (B.stkSub _ z)with e|z
  ·exact(B.pin p t).2.2.1 e
  ·exact(B.pin p t).2.2.2.1 z
 have fsLt:∀b∈BW X.stack,b<a.heap.objs.size:=λb G=>by
  obtain⟨_,o,ho,_⟩:=B.stack.mem G
  exact Be ho
 let Y:Cx:=B2 X own I scope C a H2 M f
 have okY:Y.Ok:={
  mod:=B.ok.mod
  kind:=S.kind
  glob:=B.ok.glob
  blt:=B.ok.blt
  above:=IF H
  inj:=λx y c h1 h2=>B.ok.inj x y c (clX x c h1) (clX y c h2)
  has:=λx hx=>by
   refine clHas x ?_
   rcases hx with hx|hx
   ·exact B0 (env:=X.env) (.inl rfl) S.nocell hx
   ·exact B0 (env:=X.env) (.inr rfl) S.nocell hx
  cab:=λx c hf _=>absurd (show false=true from hf) Gd
  hd:=B.ok.hd
  frames:=B.ok.frames
  stk:=.inl rfl
  exf:=λb G=>⟨BS (G8 (fpLt b G) H),λx c e=>(f2 b G).2.2.2.2.1 x c (clX x c e)⟩
  bs:=B.bs
  bsz:=BO B.ok.bsz B.sz
  noex:=λb o e G=>by
   rcases(f2 b G).2.2.2.1 with z|z
   ·exact B.ok.noex b o e z
   ·exact absurd (Cu (Be e) (BO B.ok.bsz z)) (FH _)
  exfs:=fpStk
  funs:=B.stack
  frf:=B.stkFree}
 have hCH:∀H':Hp,BV X.prog X.w H' h₁->True:=λ_ _=>trivial
 have lenS:(D9 own.length U σ).length=Y.N.length:=by
  have e:=congrArg List.length hox
  simp only[Bb]at e
  show(BZ own.length none++U.map _).length=(own++I).length
  rw[FO,FO,IQ,Bb,e]
 have I4:Inv Y [(a.heap.objs.size,El [] 0)] (D9 own.length U σ) H2 {a with heap:=h₁}:={
  ok:=okY
  os:=rfl
  bare:=B.bare
  base:=Un.kept old
  loc:=by
   refine⟨_,O,λi x v e1 e2 e3=>?_⟩
   have hi:own.length<=i:=by
    apply Nat.le_of_not_lt
    intro hlt
    unfold D9 at e2
    rw[Ol (by rw[IQ];exact hlt),HI]at e2
    rw[if_pos hlt]at e2
    cases e2
   unfold D9 at e2
   rw[Oj (by rw[IQ];exact hi),IQ,D8]at e2
   have e1':I[i-own.length]?=some x:=by
    have e1:(own++I)[i]?=some x:=e1
    rwa[Oj hi]at e1
   cases ej:U[i-own.length]? with
   |none=>rw[ej]at e2;cases e2
   |some j=>
    rw[ej]at e2
    have e2':(σ[j]?).join=some v:=Ew e2
    have e2'':σ[j]?=some (some v):=by
     cases eσ:σ[j]? with
     |none=>rw[eσ]at e2';cases e2'
     |some z=>rw[eσ]at e2';exact congrArg some e2'
    have eN:X.N[j]?=some x:=by
     have q:=congrArg (λl=>l[i-own.length]?) hox
     simp only[D8,ej,e1',HP]at q
     exact Ew q
    have hfree:scope.names.lookup x=some .free:=S.out x (LK e1')
    have hmem:(x,Ek)∈scope.names:=IP hfree
    have hk:X.env.scope.names.lookup x=some .cell\/X.env.scope.names.lookup x=some .free:=S.free (x,.free) hmem rfl
    obtain⟨m,hn,hl⟩:=B.loc
    obtain⟨u,r,l⟩:=hl j x v eN e2'' (by rcases hk with hk|hk;exact .inr (.inl hk);exact .inr (.inr hk))
    refine⟨u,r,.inr ⟨Ci (env:=X.env) hfree,?_⟩⟩
    obtain⟨c,ec⟩:=clHas x hmem
    refine⟨c,ec,?_⟩
    have ec':=clX x c ec
    rcases l with⟨k,_⟩|⟨_,c',e',o,ho,hd⟩
    ·rcases hk with hk|hk
     ·exact absurd (k.symm.trans hk) (by decide)
     ·exact absurd (k.symm.trans hk) (by decide)
    ·rw[ec']at e'
     cases e'
     exact⟨o,old _ _ ho,hd⟩
  cell:=λx c e=>by
   obtain⟨v,o,ho,hd⟩:=B.cell x c (clX x c e)
   exact⟨v,o,old _ _ ho,hd⟩
  free:=B.hok.fresh (IF H)
  freeC:=λx c e=>B.freeC x c (clX x c e)
  pin:=λp t=>by
   rcases CT.mp t with t|t
   ·obtain⟨e,n,_,_,d⟩:=B.pin p t
    exact⟨old _ _ e,n,BS (G8 (pinLt p t) H),pinStk p t,d⟩
   ·have e:p=(a.heap.objs.size,El [] 0):=by simpa using t
    subst e
    refine⟨hacc,B.hok.fresh (Bf _),hDC,λz=>absurd (fsLt _ z) (FH _),λv z=>?_⟩
    have z':Data.seq _ _=Data.cell v:=z
    cases z'
  hok:=B.hok.kept old
  len:=lenS}
 have fpY:∀{H':Hp} {s:List Aa} {k:Nat},(∀b∈M,H' b=none)->∀b∈M,EQ Y [(a.heap.objs.size,El s k)] H' b:=λ{H' s k} hn b G=>by
  refine⟨hn b G,BS (G8 (fpLt b G) H),fpStk b G,.inl G,λx c e=>(f2 b G).2.2.2.2.1 x c (clX x c e),λp t=>?_⟩
  rcases CT.mp t with t|t
  ·exact(f2 b G).2.2.2.2.2 p t
  ·have e:p=(a.heap.objs.size,El s k):=by simpa using t
   subst e
   exact FL (fpLt b G)
 have fin:∀(i:Nat) (ys:List V) (s:List Aa) (k:Nat) (H':Hp) (s':Ac),Inv Y [(a.heap.objs.size,El s k)] (D9 own.length U σ) H' s'->Am ys s->ys.length<=Av ->
   Q (.ref a.heap.objs.size) (AK H' a.heap.objs.size (.lst ys))->RR (.ref a.heap.objs.size) C (.ok .next) s':=λi ys s k H' s' I' rv hz q=>by
  obtain⟨m,hn,_⟩:=I'.loc
  obtain⟨eD,nD,_⟩:=I'.pin (a.heap.objs.size,El s k) (CA _ (by simp))
  have un:Un (BW X.stack) M H2 H' a.heap s'.heap:=I'.base
  have neD:∀b o,a.heap.get? b=some o->b≠a.heap.objs.size:=λb o e=>BS (Be e)
  have neH:∀b o,H2 b=some o->b≠a.heap.objs.size:=λb o e=>BS (B.hok.lt e)
  have un':Un (BW X.stack) M H2 (AK H' a.heap.objs.size (.lst ys)) a.heap s'.heap:=
   ⟨un.keep,un.slot,λb o e n hx=>by rw[Zq (neD b o e)];exact un.free b o e n hx,un.there,λb xs e=>by rw[Zq (neH b _ e)];exact un.tups b xs e,
    λb o u e=>by rw[Zq (neH b _ e)];exact un.frzs b o u e,λb ps e=>by rw[Zq (neH b _ e)];exact un.tbls b ps e⟩
  have hok':BV X.prog X.w (AK H' a.heap.objs.size (.lst ys)) s'.heap:=BV.track I'.hok nD ⟨hz,s,k,rv,eD⟩
  have IX:Inv X f σ (AK H' a.heap.objs.size (.lst ys)) s':=B.call' (ch:=M) I'.os un' hok' I'.bare λb G=>⟨(f2 b G).2.2.2.1,(f2 b G).2.1,(f2 b G).2.2.2.2.1,(f2 b G).2.2.2.2.2⟩
  refine hRR C s' m _ hn IX ?_ ?_ ?_ ?_ ?_ q
  ·rw[Zq (BX hDC)];exact I'.free
  ·exact FL (G8 B.lt H)
  ·exact BO B.sz (IF H)
  ·exact λx c e=>BS (G8 (cLt x c e) H)
  ·exact λp t=>BS (G8 (pinLt p t) H)
 have loop:codeAny (Ag X.prog X.w) X.A (.compLoop (.ListComp elt [⟨tg,iter,ifs,0⟩] scope pos) 0 (.ref it) (.ref a.heap.objs.size) Y.env) (RR (.ref a.heap.objs.size) C) {a with heap:=h₁}:=by
  refine codeAny_loop rfl (λk s'=>∃(i:Nat) (ys:List V) (s:List Aa) (c:Nat) (H':Hp),Inv Y [(a.heap.objs.size,El s c)] (D9 own.length U σ) H' s'/\Am ys s/\tn i s'.heap/\(∀b∈M,H' b=none)/\W i ys H'/\k=n-i) (λk s' hI=>?_) n
   ⟨0,[],[],0,H2,I4,.nil,T.keep 0 _ _ st λb _ o e=>old b o e,λb G=>(f2 b G).1,w0,rfl⟩
  show wpAny _ X.A ((compTurn (.ListComp elt [⟨tg,iter,ifs,0⟩] scope pos) 0 (.ref it) (.ref a.heap.objs.size) Y.env).onRaise (λx=>do noteFrame x Y.env;theTreesLotGoes x)) _ _ s'
  refine wpAny_noted ?_
  rw[compTurn_list]
  obtain⟨i,ys,s,c,H',I',rv,st',fr',w',ek⟩:=hI
  rcases turn i ys H' w' with⟨stop,hz,q⟩|⟨go,hin,hz,N,hN,step⟩
  ·refine Aj (wpAny_standAt (Aj (AU (T.done Y rfl rfl rfl hc i _ s' _ H' _ I' (fpY fr') st' stop) λr s1 ⟨hr,I1⟩=>?_)))
   subst hr
   obtain⟨_,nD,_⟩:=I1.pin (a.heap.objs.size,El s c) (CA _ (by simp))
   exact AC (fin i ys s c H' s1 I1 rv hz (q _ nD))
  ·refine Aj (wpAny_standAt (Aj (AU (T.item Y rfl rfl rfl hc i _ s' _ H' _ I' (fpY fr') st' go) λr s1 ⟨u,hr,h1⟩=>?_)))
   subst hr
   refine Aj (AU h1 λ_ s5 ⟨x,H5,I5,r5,y5,st5,fr5⟩=>?_)
   have I5':=I5.pinned (fpY fr5) (T.obj _ _ st5)
   refine Aj (wpAny_noRaise (AU (hg C a H2 M f _ s5 _ H5 x u _ I5' r5 (step x H5 y5)) λ_ s6 ⟨σ6,H6,I6,dr6,q6⟩=>?_))
   refine Aj (wpAny_noRaise (AU (ht C a H2 M f _ s6 σ6 H6 _ I6 q6) λok s7 ⟨H7,I7,q7⟩=>?_))
   have back:∀{H8:Hp} {s8:Ac} {its8:List Aa} {c8:Nat},Inv Y ([(a.heap.objs.size,El its8 c8)]++HE M s5.heap) σ6 H8 s8 ->
     Inv Y [(a.heap.objs.size,El its8 c8)] (D9 own.length U σ) H8 s8/\tn (i+1) s8.heap/\∀b∈M,H8 b=none:=λ{H8 s8 its8 c8} I8=>by
    refine⟨I8.unpinned.weak ?_ λj v e=>?_,T.keep _ _ _ st5 λb G o e=>(I8.pin (b,o) (CA _ (CA _ (LF G e)))).1,λb G=>?_⟩
    ·exact lenS.trans I8.len.symm
    ·have hj:own.length<=j:=by
      apply Nat.le_of_not_lt
      intro hlt
      unfold D9 at e
      rw[Ol (by rw[IQ];exact hlt),HI]at e
      rw[if_pos hlt]at e
      cases e
     have e':=congrArg (λl=>l[j-own.length]?) dr6
     simp only[Kg]at e'
     rw[show own.length+(j-own.length)=j by omega]at e'
     exact e'.trans e
    ·obtain⟨o,e,d⟩:=T.obj _ _ st5 b G
     exact(I8.pin (b,o) (CA _ (CA _ (LF G e)))).2.1
   cases ok with
   |false=>
    obtain⟨I8,st8,fr8⟩:=back I7
    exact AC ⟨rfl,n-(i+1),by omega,i+1,ys,s,c,H7,I8,rv,st8,fr8,hN _ _ q7,rfl⟩
   |true=>
    refine Aj (Aj (wpAny_noRaise (AU (he C a H2 M f _ s7 σ6 H7 _ I7 q7) λy s8 ⟨z,H8,I8,r8,w8⟩=>?_)))
    obtain⟨eD,nD,neL,nF,dD⟩:=I8.pin (a.heap.objs.size,El s c) (CA _ (HB _ (by simp)))
    have hl:=rv.length
    refine Aj (By F.slot_list_append ⟨_,eD,rfl⟩ F.entry_list_append (F.args_list_append_2 _ _) (PySem.list_append _ s.toArray c y (by rw[Bu];omega)) ⟨eD,?_⟩)
    obtain⟨n',q⟩:∃n',(s8.heap.update a.heap.objs.size (Ez (·.push y))).get? a.heap.objs.size=some (El (s++[y]) n'):=by
     have q:=PySem.IsL.update eD (·.push y)
     rw[show s.toArray.push y=(s++[y]).toArray by simp]at q
     exact⟨_,q⟩
    have I9:Inv Y (HE M s5.heap) σ6 H8 {s8 with heap:=s8.heap.update a.heap.objs.size (Ez (·.push y))}:=
     (I8.pins_of λp t=>I8.pin p (CA _ (CA _ t))).turned (t':=s8.toks) (it:=a.heap.objs.size) (λb o G e=>(IS _ _ (BX G)).trans e) nD hDC (.inr (Bf _))
      (λx c' e=>BS (cLt x c' (clX x c' e))) λp t=>by
       rcases CT.mp t with t|t
       ·exact BS (pinLt p t)
       ·exact BS (fpLt _ (R6 t).1)
    have I10:Inv Y ([(a.heap.objs.size,El (s++[y]) n')]++HE M s5.heap) σ6 H8 {s8 with heap:=s8.heap.update a.heap.objs.size (Ez (·.push y))}:=I9.pins_of λp t=>by
     rcases CT.mp t with t|t
     ·have e:p=(a.heap.objs.size,El (s++[y]) n'):=by simpa using t
      subst e
      exact⟨q,nD,neL,nF,λv z=>by
       have z':Data.seq _ _=Data.cell v:=z
       cases z'⟩
     ·exact I9.pin p (CA _ t)
    obtain⟨I11,st11,fr11⟩:=back I10
    exact AC (AC ⟨rfl,n-(i+1),by omega,i+1,ys++[z],s++[y],_,H8,I11,rv.append (.cons r8 .nil),st11,fr11,hN _ _ w8,rfl⟩)
 exact codeAny_compStart_list loop (T.self _ 0 _ _ _ (T.keep 0 _ _ st λb _ o e=>old b o e) loop)
section
variable{X:Cx}{tg elt iter:Expr}{ifs:List Expr}{scope:Scope}{pos:AT}{oix:List Nat}{wi:TI}{g:TG}{tt:TT}{te:TE}
theorem Ta(own c:List Af)(oix:List Nat)(S:ER own c scope X.env.scope)(t:oix.map (λj=>X.N[j]?)=c.map some)(L:X.calm=true)(M:PI X tg iter wi)
  (O:∀C l i k a,PG (B2 X own c scope C l i k a) tg g)
  (U:∀C l i k a,EA (B2 X own c scope C l i k a) ifs tt)
  (Y:∀C l i k a,PE (B2 X own c scope C l i k a) elt te)
  (hs:∀x,E2 iter X.env x=AB x:=by intro _;rfl):
  PE X (.ListComp elt [⟨tg,iter,ifs,0⟩] scope pos) (LO own.length oix wi g tt te):=by
 intro a s z H Q I h
 rw[eval_ListComp]
 refine wpAny_comprehension_free (use:=none) rfl hs (SV λx hx hf=>I.ok.has x.1 (S.free x hx hf)) S.kind S.loc (AU (M a s z H _ I h) λxv B n=>AU n λitv E p=>?_)
 obtain⟨it,k,tn,J,i,e,I2,T,u,f2,d⟩:=p
 subst e
 refine SY (RR:=λv C=>compPost (Ag X.prog X.w) X.A X.xe none (EP X a z Q) v C) S t L O U Y I2 T u f2 d ?_
 intro C s' m H' hn I' hC hL h0 f r q
 exact⟨m,hn,λG y=>⟨.ref _,H',I'.turned (h':=G) (t':=s'.toks) (it:=C) (λb o hb e=>y.extBut b o hb e) hC hL (.inr h0) f r,rfl,q⟩⟩
theorem OB(own f:List Af)(oix:List Nat){i:Nat}{x:Af}{d l:AT}(S:ER own f scope X.env.scope)(M:oix.map (λj=>X.N[j]?)=f.map some)(hc:X.calm=true)
  (hN:X.N.Nodup) (O:X.N[i]?=some x) (hx:X.env.scope.names.lookup x=some .local) (hi:PI X tg iter wi)
  (hg:∀C B t u c,PG (B2 X own f scope C B t u c) tg g)
  (ht:∀C B t u c,EA (B2 X own f scope C B t u c) ifs tt)
  (he:∀C B t u c,PE (B2 X own f scope C B t u c) elt te)
  (U:Dp (.ListComp elt [⟨tg,iter,ifs,0⟩] scope pos) (some (.Name x d)) l.line X.env=AB true:=by rfl)
  (hs:∀x,E2 iter X.env x=AB x:=by intro _;rfl):
  PS X (.Assign [.Name x d] (.ListComp elt [⟨tg,iter,ifs,0⟩] scope pos) l) (HD (LO own.length oix wi g tt te) (G3 i)):=by
 intro c s σ H D I h
 rw[exec_Assign_Name_used _ _ _ _ U]
 refine Aj (wpAny_standAt (Aj ?_))
 show wpAny _ X.A (do let _ <- comprehension (.ListComp elt [⟨tg,iter,ifs,0⟩] scope pos) scope X.env _ (newList []) false (Ar iter X.env) (some (assign (.Name x d) X.env))) _ _ s
 refine Aj (DQ (wpAny_comprehension_free (use:=some (assign (.Name x d) X.env)) (Q:=λ_ z=>SP X c D .next z) rfl hs (SV λy hy hf=>I.ok.has y.1 (S.free y hy hf)) S.kind S.loc
  (AU (hi c s σ H _ I h) λxv s₁ E=>AU E λitv n G=>?_)) (λ_ z hq=>AC (AC hq)) λ_ _ e=>e)
 obtain⟨it,u,tn,J,t,e,I2,T,Y,f2,p⟩:=G
 subst e
 refine SY (RR:=λacc C=>compPost (Ag X.prog X.w) X.A X.xe (some (assign (.Name x d) X.env)) (λ_ z=>SP X c D .next z) acc C) S M hc hg ht he I2 T Y f2 p ?_
 intro C z m H' hn I' hC hL h0 k L q
 show wpAny _ X.A (assign (.Name x d) X.env (.ref n.heap.objs.size)) _ _ z
 refine wpAny_assign_Name (RN (v:=.ref n.heap.objs.size) I' hN O (.inl hx) rfl (λs'' I'' r=>?_) (.inr hx))
 obtain⟨a,r,ha⟩:=r
 have hCa:C≠a:=by
  rcases ha with e|e
  ·rw[e];exact hL
  ·exact BX (k _ _ e)
 exact⟨m,hn.sameBut r hCa,λh' hs'=>⟨_,H',I''.turned (h':=h') (t':=s''.toks) (it:=C) (λb o hb e=>hs'.extBut b o hb e) hC hL (.inr h0) k L,q⟩⟩
end
section
variable{K:Ap}{k:Nat}{oix:List Nat}{g:TG}{tt:TT}{te:TE}{σ:St}{H:Hp}{Q:VK}
end
def OC(x:Af):It:=⟨λi _=>i<x.cps.size,λi H v a=>a=H/\∃c,x.cps[i]?=some c/\v=.str ⟨#[c]⟩,λi _=>x.cps.size<=i⟩
theorem cw{P:AS}{w:Ai}{K:Ap}{M:Expr}(it:Ad)(x:Af)(t:Tok):Gh P w K M (OC x) [it] it (λi h=>h.IsStrIter it "str_ascii_iterator" x t i) where
 mem:=by simp
 obj:=λi h st b g=>by
  have e:b=it:=by simpa using g
  subst e
  obtain⟨o,e,c,d⟩:=st
  exact⟨o,e,λv z=>by rw[d]at z;cases z⟩
 keep:=λi h l st k=>by
  obtain⟨o,e,r⟩:=st
  exact⟨o,k it (by simp) o e,r⟩
 item:=by
  intro X n p q J i f s L H E I m st u
  subst n p q
  obtain⟨y,A,N,B,C,G⟩:=m it (by simp)
  have a:i<x.cps.size:=u
  refine wpAny_pyNext_ascii_item st (c:=x.cps[i]) (by simp[a]) λl j O=>?_
  have Q:Inv X f L H {s with heap:=l,toks:=s.toks+1}:=I.turned (t':=s.toks+1) (λb o g e=>(O.2 b g).trans e) y A B C G
  obtain⟨o,e,c,d⟩:=id j
  exact⟨_,rfl,Ka (s:={s with heap:=l,toks:=s.toks+1}) e c d (by decide) ⟨.str ⟨#[x.cps[i]]⟩,H,Q,⟨_,rfl⟩,⟨rfl,_,by simp[a],rfl⟩,j,λb g=>(m b g).1⟩⟩
 done:=by
  intro X n p q J i f s L H E I m st u
  subst n p q
  obtain⟨y,A,N,B,C,G⟩:=m it (by simp)
  have a:x.cps.size<=i:=u
  exact wpAny_pyNext_ascii_end (I.ok.hd J) st (by simp[a]) λl U=>⟨rfl,I.turned (t':=s.toks) (λb o g e=>U b o g e) y A B C G⟩
 self:=λ_ _ _ _ _ st h=>wpAny_pyIter_striter_ascii st h
theorem cx{P:AS}{w:Ai}{K:Ap}{M:Expr}(it:Ad)(x:Af)(t:Tok):Gh P w K M (OC x) [it] it (λi h=>h.IsStrIter it "str_iterator" x t i) where
 mem:=by simp
 obj:=λi h st b g=>by
  have e:b=it:=by simpa using g
  subst e
  obtain⟨o,e,c,d⟩:=st
  exact⟨o,e,λv z=>by rw[d]at z;cases z⟩
 keep:=λi h l st k=>by
  obtain⟨o,e,r⟩:=st
  exact⟨o,k it (by simp) o e,r⟩
 item:=by
  intro X n p q J i f s L H E I m st u
  subst n p q
  obtain⟨y,A,N,B,C,G⟩:=m it (by simp)
  have a:i<x.cps.size:=u
  refine wpAny_pyNext_wide_item st (c:=x.cps[i]) (by simp[a]) λl j O=>?_
  have Q:Inv X f L H {s with heap:=l,toks:=s.toks+1}:=I.turned (t':=s.toks+1) (λb o g e=>(O.2 b g).trans e) y A B C G
  obtain⟨o,e,c,d⟩:=id j
  exact⟨_,rfl,Ka (s:={s with heap:=l,toks:=s.toks+1}) e c d (by decide) ⟨.str ⟨#[x.cps[i]]⟩,H,Q,⟨_,rfl⟩,⟨rfl,_,by simp[a],rfl⟩,j,λb g=>(m b g).1⟩⟩
 done:=by
  intro X n p q J i f s L H E I m st u
  subst n p q
  obtain⟨y,A,N,B,C,G⟩:=m it (by simp)
  have a:x.cps.size<=i:=u
  exact wpAny_pyNext_wide_end (I.ok.hd J) st (by simp[a]) λl U=>⟨rfl,I.turned (t':=s.toks) (λb o g e=>U b o g e) y A B C G⟩
 self:=λ_ _ _ _ _ st h=>wpAny_pyIter_striter_wide st h
section
variable{X:Cx}{tg:Expr}
def cy(a:TE):TI:=λb H R=>a b H λv c=>∃x,v=.str x/\R (OC x) c
theorem cz{l:Expr}{g:TE}(k:PE X l g):PI X tg l (cy g):=by
 intro a s m H R I h
 refine AU (k a s m H _ I h) λv c ⟨y,f,d,n,q1⟩=>?_
 obtain⟨x,e,q⟩:=q1
 subst e
 obtain⟨t,rfl⟩:=n
 have i:∀{o:AJ} (b:Ad),b∈[c.heap.objs.size]->EQ X a f b:=λ{o} b p=>by
  have e:b=c.heap.objs.size:=by simpa using p
  subst e
  exact d.fpOk (Bf _) (d.hok.fresh (Bf _))
 cases j:x.cps.all (·<128)
 ·exact wpAny_pyIter_wide j ⟨c.heap.objs.size,[c.heap.objs.size],_,_,f,rfl,d.kept (t':=c.toks) λb o e=>Bk _ e,cx _ x t,⟨_,BY _ rfl,rfl,rfl⟩,i (o:=default),q⟩
 ·exact wpAny_pyIter_ascii j ⟨c.heap.objs.size,[c.heap.objs.size],_,_,f,rfl,d.kept (t':=c.toks) λb o e=>Bk _ e,cw _ x t,⟨_,BY _ rfl,rfl,rfl⟩,i (o:=default),q⟩
end
section
variable{X:Cx}
end
section
variable{X:Cx}
def cA:V->Option Int->Option Int->Hp->VK->Prop:=λx lo a H Q=>∃z,x=.str z/\z.length<=Av/\Q (.str (Txt.slice z lo a)) H
theorem cB:Gm X cA:=by
 intro e s o H x v p r lo w y Q I m a n f h
 obtain⟨z,rfl,b,q⟩:=h
 obtain⟨t,rfl⟩:=m
 refine⟨"str",_,PySem.F.slot_str_getitem.lookup,typeIs_str s z t,?_⟩
 cases n with
 |none=>
  cases f with
  |none=>exact OD (l:=none) (u:=none) (st:=none) a rfl (post_val_or_str ⟨BO (Txt.slice_le z _ _) b,λc k=>⟨.str (Txt.slice z none none),H,I.tok _,⟨_,rfl⟩,q⟩⟩)
  |int j d=>exact OD (l:=none) (u:=some (j,d)) (st:=none) a rfl (post_val_or_str ⟨BO (Txt.slice_le z _ _) b,λc k=>⟨.str (Txt.slice z none (some j)),H,I.tok _,⟨_,rfl⟩,q⟩⟩)
 |int i g=>
  cases f with
  |none=>exact OD (l:=some (i,g)) (u:=none) (st:=none) a rfl (post_val_or_str ⟨BO (Txt.slice_le z _ _) b,λc k=>⟨.str (Txt.slice z (some i) none),H,I.tok _,⟨_,rfl⟩,q⟩⟩)
  |int j d=>exact OD (l:=some (i,g)) (u:=some (j,d)) (st:=none) a rfl (post_val_or_str ⟨BO (Txt.slice_le z _ _) b,λc k=>⟨.str (Txt.slice z (some i) (some j)),H,I.tok _,⟨_,rfl⟩,q⟩⟩)
theorem cC{a:List Af}:∀{us:List Aa},Am (a.map V.str) us->StrsAre us a:=by
 induction a with
 |nil=>intro us r;rw[BH]at r;cases r;exact .nil
 |cons n ns b=>
  intro us r
  rw[AY]at r
  cases r with
  |cons c d=>
   obtain⟨t,e⟩:=c
   subst e
   exact .cons n t (b d)
def Tb(K:Ap):V->List V->Hp->VK->Prop:=λx c H Q=>∃z a b,x=.str z/\c=[.ref a]/\Bn K H a (b.map V.str)/\(b.map (·.length)).sum+b.length*z.length<=16777216/\Q (.str (Txt.join z b)) H
theorem cD:Gn X "str.join" (Tb X.K):=by
 intro d s m H x n v o Q I e f h
 obtain⟨z,a,p,rfl,rfl,g,i,q⟩:=h
 obtain⟨t,rfl⟩:=e
 obtain⟨u,rfl,j⟩:=D6 f
 cases j
 obtain⟨b,r,l,_⟩:=I.list g
 exact join_list (items:=b.toArray) l.isList (cC r) i λw k=>⟨.str _,H,I.tok _,⟨_,rfl⟩,q⟩
end
theorem cE{bs:List Bool}:∀{us:List Aa},Am (bs.map V.bl) us->LSm.BoolsAre us bs:=by
 induction bs with
 |nil=>intro us r;rw[BH]at r;cases r;exact .nil
 |cons n ns a=>
  intro us r
  rw[AY]at r
  cases r with
  |cons b c=>
   have e:_=Value.bool n:=b
   subst e
   exact .cons n (a c)
section
variable{X:Cx}
theorem IU(l:X.calm=true):A8 X (.builtin "all") (λxs H Q=>∃(a:Ad)(bs:List Bool),xs=[.ref a]/\Bn X.K H a (bs.map V.bl)/\Q (.bl (bs.all id)) H):=by
 intro g s x H xs y Q I r h
 obtain⟨a,bs,rfl,m,q⟩:=h
 obtain⟨u,rfl,n⟩:=D6 r
 cases n
 obtain⟨c,o,p,z⟩:=I.list m
 have j:=cE o
 have d:=p.isList
 have f:a<s.heap.objs.size:=by obtain⟨_,e,_⟩:=d;exact Be e
 refine call_all_walk (wpAny_pyIter_list d ?_)
 refine⟨s.heap.objs.size,[s.heap.objs.size,a],[s.heap.objs.size],c.toArray.size,_,_,λi=>(bs[i]?).getD true,rfl,Walks.list (A:=X.A.in1) (I.ok.hd l) _ a (BS f) c.toArray,
  ⟨⟨_,BY _ rfl,rfl,rfl⟩,d.push _⟩,λi v B C E t k=>?_,λG J w=>⟨.bl _,H,I.kept (LSm.kept_iter w),rfl,?_⟩⟩
 ·obtain⟨b,e,rfl⟩:=j.get i v (by simpa using t)
  simp only[e,Option.getD_some]at k
  exact G1 k
 ·have e:((BL c.toArray.size).all λi=>(bs[i]?).getD true)=bs.all id:=by
   rw[Bu,j.length];exact LSm.range_all bs
  rw[e]
  exact q
end
section
open PySem.SeqAt
inductive Em(A:Ah)(s:Ac):List Aa->List Aa->Bool->Prop where
 |nn:Em A s [] [] false
 |nc {w ws}:Em A s [] (w::ws) true
 |cn {v vs}:Em A s (v::vs) [] false
 |eq {v w vs ws b}:EqAt A s v w true->Em A s vs ws b->Em A s (v::vs) (w::ws) b
 |ne {v w vs ws b}:EqAt A s v w false->(∀(prog:AS) (wo:Ai) (E Q:Aa->Ac->Prop),Q (.bool b) s->wpAny (Ag prog wo) A (richCompare .Lt v w) Q E s)->Em A s (v::vs) (w::ws) b
end
section
open PySem.SeqAt
open PySem.AutoSeq1 (wpAny_loadPart')
open PySem.MeetsSeq PySem.MeetsSeq2 PySem.MeetsSeq3
theorem cF(l b:Ad)(items a:Array Aa)(n n2:Nat)(dd p:Option Ad)(I q:Array (Option Aa))(r:Bool):
  Meets (En.«tuple.__lt__» ⟨[.ref l,.ref b],[]⟩)
   (λA R s=>s.heap.get? l=some {cls:=.type "tuple",dict:=dd,data:=.seq items n,slots:=I}/\s.heap.get? b=some {cls:=.type "tuple",dict:=p,data:=.seq a n2,slots:=q} /\
    Em A.in1 s items.toList a.toList r/\R (.ok (.ret (.bool r))) s):=
 .of_wp λprog w A R s h=>by
  obtain⟨G,g,d,H,os⟩:=s;obtain⟨J,L,t,h⟩:=h
  have N:=AutoSeq1.sub_tuple_tuple
  wp_walk using ES J,ES L,wpAny_forIn_list _ (λAy b u=>b.1=none/\u=⟨G,g,d,H,os⟩/\∃(m o:List Aa),Ay=m.zip o /\
   Em A.in1 ⟨G,g,d,H,os⟩ m o r/\m.length+a.size=o.length+items.size) _
  case turn=>
   rintro⟨y,x⟩ Ay b u ⟨j,rfl,m,o,e,f,c⟩
   cases f with
   |nn=>rw[List.zip_nil_left]at e;cases e
   |nc=>rw[List.zip_nil_left]at e;cases e
   |cn=>rw[List.zip_nil_right]at e;cases e
   |eq v z=>
    rw[ET]at e
    injection e with k i
    injection k with B C
    subst B C
    simp only[A9]at c
    refine Aj (v prog w _ _ ?_)
    wp_walk
    exact⟨rfl,rfl,_,_,i,z,by omega⟩
   |ne v z=>
    rw[ET]at e
    injection e with k i
    injection k with B C
    subst B C
    refine Aj (v prog w _ _ ?_)
    have E:=z prog w
    wp_walk using E
    exact⟨_,rfl,by simpa using h⟩
  case fin=>
   rintro⟨O,Q⟩ u ⟨j,rfl,m,o,e,f,c⟩
   simp only at j
   subst j
   have M:r=decide (items.size<a.size):=by
    cases f with
    |nn=>
     simp only[Bg]at c
     exact(decide_eq_false (by omega)).symm
    |nc=>
     simp only[Bg,A9]at c
     exact(decide_eq_true (by omega)).symm
    |cn=>
     simp only[Bg,A9]at c
     exact(decide_eq_false (by omega)).symm
    |eq _ _=>rw[ET]at e;cases e
    |ne _ _=>rw[ET]at e;cases e
   rw[M]at h
   wp_walk
   exact⟨_,rfl,by simpa[Builtin.Tuple.tupleCompareSizes]using h⟩
  case h=>
   exact⟨rfl,rfl,items.toList,a.toList,rfl,t,by simp;omega⟩
theorem cG(l b:Ad)(items c:Array Aa)(n n2:Nat)(dd y:Option Ad)(C z:Array (Option Aa))(r:Bool)(k:Nat):
  ∀i:Nat,items.size-i=k->Meets (En.«list.__eq__.loop» ⟨[.ref l,.ref b,AI i,AI 0],[]⟩)
   (λA R s=>s.heap.get? l=some {cls:=.type "list",dict:=dd,data:=.seq items n,slots:=C}/\s.heap.get? b=some {cls:=.type "list",dict:=y,data:=.seq c n2,slots:=z} /\
    Em A.in1 s (items.toList.drop i) (c.toList.drop i) r/\(i<=items.size/\i<=c.size)/\R (.ok (.ret (.bool r))) s):=by
 induction k with
 |zero=>
  intro i E prog w A R s h
  obtain⟨G,g,d,H,os⟩:=s;obtain⟨o,p,e,⟨I,J⟩,h⟩:=h
  wp_walk using ES o,ES p
  have j:items[((i:Nat):Int).toNat]?=none:=by simp;omega
  have hd:items.toList.drop i=[]:=LP (by simp;omega)
  rw[hd]at e
  rw[j]
  have q:r=decide (items.size<c.size):=by
   cases x:c.toList.drop i with
   |nil=>
    rw[x]at e
    have:=congrArg List.length x
    simp at this
    cases e
    exact(decide_eq_false (by omega)).symm
   |cons a t=>
    rw[x]at e
    have:=congrArg List.length x
    simp at this
    cases e
    exact(decide_eq_true (by omega)).symm
  rw[q]at h
  wp_walk using ES o,ES p
  exact h
 |succ k L=>
  intro i E prog w A R s h
  obtain⟨G,g,d,H,os⟩:=s;obtain⟨o,p,e,⟨I,J⟩,h⟩:=h
  wp_walk using ES o,ES p
  have u:i<items.size:=by omega
  have j:items[((i:Nat):Int).toNat]?=some items[i]:=by simp[u]
  have hd:items.toList.drop i=items[i]::items.toList.drop (i+1):=by rw[LQ (by simpa using u)];simp
  have M:((i:Int)+1)=((i+1:Nat):Int):=by push_cast;rfl
  rw[hd]at e
  rw[j]
  by_cases f:i<c.size
  ·have m:c[((i:Nat):Int).toNat]?=some c[i]:=by simp[f]
   have v:c.toList.drop i=c[i]::c.toList.drop (i+1):=by rw[LQ (by simpa using f)];simp
   rw[v]at e
   rw[m]
   cases e with
   |eq e q=>
    refine Aj (e prog w _ _ ?_)
    wp_walk
    rw[M]
    exact⟨plainId_quiet plain_eq_loop _,IV entry_eq_loop (by
     rw[Kh plain_eq_loop _]
     exact L (i+1) (by omega) prog w A R _ ⟨o,p,q,⟨u,f⟩,h⟩)⟩
   |ne e q=>
    refine Aj (e prog w _ _ ?_)
    wp_walk using ES o,ES p
    rw[j,m]
    have B:=q prog w
    wp_walk using B
    exact h
  ·have m:c[((i:Nat):Int).toNat]?=none:=by simp;omega
   have v:c.toList.drop i=[]:=LP (by simp;omega)
   rw[v]at e
   rw[m]
   have q:r=decide (items.size<c.size):=by
    cases e
    exact(decide_eq_false (by omega)).symm
   rw[q]at h
   wp_walk using ES o,ES p
   exact h
theorem Tc(l b:Ad)(items a:Array Aa)(n n2:Nat)(dd c:Option Ad)(f e:Array (Option Aa))(r:Bool):
  Meets (En.«list.__lt__» ⟨[.ref l,.ref b],[]⟩)
   (λA R s=>s.heap.get? l=some {cls:=.type "list",dict:=dd,data:=.seq items n,slots:=f}/\s.heap.get? b=some {cls:=.type "list",dict:=c,data:=.seq a n2,slots:=e} /\
    Em A.in1 s items.toList a.toList r/\R (.ok (.ret (.bool r))) s):=by
 intro prog w A R s h
 obtain⟨m,g,d,o,os⟩:=s;obtain⟨i,j,k,h⟩:=h
 have p:=AutoSeq1.sub_list_list
 wp_walk using ES i,ES j
 exact⟨plainId_quiet plain_eq_loop _,IV entry_eq_loop (by
  rw[Kh plain_eq_loop _]
  exact cG l b items a n n2 dd c f e r _ 0 rfl prog w A R _ ⟨i,j,k,⟨Dq _,Dq _⟩,h⟩)⟩
end
section
variable{prog:AS}{w:Ai}{A:Ah}{E:Aa->Ac->Prop}{s:Ac}
theorem cH{l b:Ad}{items a:Array Aa}{r:Bool}{Q:Aa->Ac->Prop}(m:IsTup s.heap l items)(o:IsTup s.heap b a)(p:Em A.in1 s items.toList a.toList r)
  (q:A.units<AE) (h:Q (.bool r) s):wpAny (Ag prog w) A (richCompare .Lt (.ref l) (.ref b)) Q E s:=by
 obtain⟨⟨cls,t,data,u⟩,i,j,n,hd⟩:=id m
 obtain⟨⟨k,f,data2,g⟩,c,d,n2,e⟩:=id o
 simp only at j hd d e
 subst j hd d e
 exact richCompare_meets_room (op:=.Lt) ⟨_,i,rfl⟩ ⟨_,c,rfl⟩ PySem.F.slot_tuple_lt PySem.F.entry_tuple_lt (PySem.F.args_tuple_lt_2 _ _) (cF l b items a n n2 t f u g r)
  ⟨i,c,p,show Value.bool r≠Value.notImplemented/\Q (.bool r) s from⟨(λx=>nomatch x),h⟩⟩ q
theorem cI{l b:Ad}{items a:Array Aa}{r:Bool}{n n2:Nat}{dd c:Option Ad}{e d:Array (Option Aa)}{Q:Aa->Ac->Prop}(f:s.heap.get? l=some {cls:=.type "list",dict:=dd,data:=.seq items n,slots:=e})(g:s.heap.get? b=some {cls:=.type "list",dict:=c,data:=.seq a n2,slots:=d})(i:Em A.in1 s items.toList a.toList r)
  (j:A.units<AE) (h:Q (.bool r) s):wpAny (Ag prog w) A (richCompare .Lt (.ref l) (.ref b)) Q E s:=
 richCompare_meets_room (op:=.Lt) ⟨_,f,rfl⟩ ⟨_,g,rfl⟩ PySem.F.slot_list_lt PySem.F.entry_list_lt (PySem.F.args_list_lt_2 _ _) (Tc l b items a n n2 dd c e d r)
  ⟨f,g,i,show Value.bool r≠Value.notImplemented/\Q (.bool r) s from⟨(λx=>nomatch x),h⟩⟩ j
end
section
variable{X:Cx}
end
theorem OE(x:Af):x.cps.toList.length=x.length:=by simp[Str.length]
def Ki(K:Ap):Sp:=λb H Q _=>∃(a:Ad)(ns:List Int),b=[.ref a]/\Bn K H a (ns.map V.int)/\ns.length<=63/\∀c,Q (.bl true) c
section
variable{X:Cx}
end
section
variable{X:Cx}
end
theorem Td{H:Hp}{p:Ad}{o:HO}(h:H p=none):Ak H (AK H p o):=λb u e=>by rw[Zq (Z4 e h)];exact e
end L2
namespace L2
open PySem PySem.Spec PyProof.Rows
theorem FR{A B:Prop}(h:A):(if true=true then A else B):=(if_pos (c:=true=true) rfl:ite _ A B=A) ▸ h
theorem FS{A B:Prop}(h:B):(if false=true then A else B):=(if_neg (c:=false=true) Gd:ite _ A B=B) ▸ h
inductive D where
 |non|bl (b:Bool)|int (i:Int)|str (x:Af)|ty (n:String)|tup (xs:List D)|lst (xs:List D) (b:Bool:=false)|ins (ns:List Af) (xs:List D)
def OF:D->At
 |.int i=>.int i
 |.str x=>.str x
 |_=>.non
def OG:D->KT
 |.tup l=>.tup (l.map OF)
 |d=>.at (OF d)
def HQ:List D->List KT
 |k::_::r=>OG k::HQ r
 |_=>[]
def CO(b:Bool)(xs:List D)(vs:List V):HO:=match b with
 |false=>.lst vs
 |true=>.dct (HQ xs) vs
def OH:HO->Bool
 |.lst _=>true
 |.dct _ _=>true
 |.ins _ _ _=>true
 |_=>false
theorem cJ(b:Bool)(xs:List D)(vs:List V):OH (CO b xs vs)=true:=by cases b<;>rfl
abbrev Fb:=Ad->Prop
def KL(K:Ap)(a:Ad)(vs:List V):Prop:=Bn K (λ_=>none) a vs
def LstAt(K:Ap)(N:Fb)(H:Hp)(a:Ad)(o:HO):Prop:=(¬ N a/\Rd H a o)\/∃b,o=.lst b/\KL K a b
theorem KL.sq{K:Ap}{H:Hp}{a:Ad}{vs:List V}(h:KL K a vs):Bn K H a vs:=by
 rcases h with(h|⟨o,h⟩)|h
 ·cases h
 ·cases h
 ·exact .inr h
theorem LstAt.sq{K:Ap}{N:Fb}{H:Hp}{a:Ad}{vs:List V}(h:LstAt K N H a (.lst vs)):Bn K H a vs:=by
 rcases h with⟨_,h⟩|⟨b,e,h⟩
 ·exact .inl h
 ·cases e;exact h.sq
theorem LstAt.of{K:Ap}{N:Fb}{H:Hp}{a:Ad}{o:HO}(n:¬ N a)(h:H a=some o):LstAt K N H a o:=.inl ⟨n,.inl h⟩
theorem LstAt.of_sq{K:Ap}{H:Hp}{a:Ad}{vs:List V}(h:Bn K H a vs):LstAt K (λ_=>False) H a (.lst vs):=by
 rcases h with h|h
 ·exact .inl ⟨id,h⟩
 ·exact .inr ⟨vs,rfl,.inr h⟩
def Eo(K:Ap)(C:Ad):Prop:=C6 K BD "Book"=some (some (.ref C))
mutual
def Aq(K:Ap)(N:Fb)(H:Hp):D->V->Prop
 |.non,v=>v=.non
 |.bl b,v=>v=.bl b
 |.int i,v=>v=.int i
 |.str x,v=>v=.str x
 |.ty n,v=>v=.ty n
 |.tup d,v=>∃a c,v=.ref a/\BE K H a c/\Ae K N H d c
 |.lst d b,v=>∃a c,v=.ref a/\LstAt K N H a (CO b d c)/\Ae K N H d c
 |.ins ns d,v=>∃a C e c,v=.ref a/\Eo K C/\¬ N a/\H a=some (.ins C e (ns.zip c))/\ns.length=c.length/\Ae K N H d c
def Ae(K:Ap)(N:Fb)(H:Hp):List D->List V->Prop
 |[],a=>a=[]
 |x::b,a=>∃v r,a=v::r/\Aq K N H x v/\Ae K N H b r
end
structure Step(M N N':Fb)(H H':Hp):Prop where
 kp:∀a o,H a=some o->(¬ N a\/M a\/OH o=false)->H' a=some o
 nw:∀a,N' a->N a\/H a=none
theorem Step.trans{M N N1 N2:Fb}{H d f:Hp}(a:Step M N N1 H d)(b:Step M N1 N2 d f):Step M N N2 H f where
 kp:=λc o h z=>by
  have g:=a.kp c o h z
  refine b.kp c o g ?_
  rcases z with z|z|z
  ·refine .inl λn1=>?_
   rcases a.nw c n1 with q|q
   ·exact z q
   ·rw[h]at q;cases q
  ·exact .inr (.inl z)
  ·exact .inr (.inr z)
 nw:=λc n2=>by
  rcases b.nw c n2 with q|q
  ·exact a.nw c q
  ·cases e:H c with
   |none=>exact .inr rfl
   |some o=>
    refine .inl (Classical.byContradiction λz=>?_)
    rw[a.kp c o e (.inl z)]at q
    cases q
theorem Step.of_same{M N:Fb}{H H':Hp}(s:Ak H H'):Step M N N H H':=⟨λa o h _=>s a o h,λa h=>.inl h⟩
theorem Step.refl{M N:Fb}{H:Hp}:Step M N N H H:=Step.of_same (Ak.refl H)
theorem Rd.step{M N b:Fb}{H H':Hp}{a:Ad}{u:HO}(s:Step M N b H H')(h:Rd H a u)(z:¬ N a\/M a\/OH u=false):Rd H' a u:=by
 rcases h with h|⟨o,h⟩
 ·exact .inl (s.kp a u h z)
 ·exact .inr ⟨o,s.kp a _ h (.inr (.inr rfl))⟩
theorem Rd.same{H H':Hp}{a:Ad}{u:HO}(s:Ak H H')(h:Rd H a u):Rd H' a u:=by
 rcases h with h|⟨o,h⟩
 ·exact .inl (s a u h)
 ·exact .inr ⟨o,s a _ h⟩
theorem BE.step{K:Ap}{M N b:Fb}{H H':Hp}{a:Ad}{xs:List V}(s:Step M N b H H')(h:BE K H a xs):BE K H' a xs:=by
 rcases h with h|h
 ·exact .inl (h.step s (.inr (.inr rfl)))
 ·exact .inr h
theorem BE.same{K:Ap}{H H':Hp}{a:Ad}{xs:List V}(s:Ak H H')(h:BE K H a xs):BE K H' a xs:=BE.step (M:=λ_=>False) (N:=λ_=>False) (Step.of_same s) h
theorem Rd.has{H:Hp}{a:Ad}{u:HO}(h:Rd H a u):H a≠none:=by
 rcases h with h|⟨o,h⟩<;>rw[h]<;>exact λe=>nomatch e
mutual
theorem Aq.step{K:Ap}{M N g:Fb}{H H':Hp}(s:Step M N g H H'):∀(d:D)(v:V),Aq K N H d v->Aq K g H' d v
 |.non,_,h=>h
 |.bl _,_,h=>h
 |.int _,_,h=>h
 |.str _,_,h=>h
 |.ty _,_,h=>h
 |.tup c,v,h=>by
  simp only[Aq]at h ⊢
  obtain⟨a,b,e,q,r⟩:=h
  exact⟨a,b,e,q.step s,Ae.step s c b r⟩
 |.lst c l,v,h=>by
  simp only[Aq]at h ⊢
  obtain⟨a,b,e,q,r⟩:=h
  refine⟨a,b,e,?_,Ae.step s c b r⟩
  rcases q with⟨n,q⟩|q
  ·refine .inl ⟨λf=>?_,q.step s (.inl n)⟩
   rcases s.nw a f with z|z
   ·exact n z
   ·exact q.has z
  ·exact .inr q
 |.ins ns c,v,h=>by
  simp only[Aq]at h ⊢
  obtain⟨a,C,i,b,e,j,n,q,k,r⟩:=h
  refine⟨a,C,i,b,e,j,λf=>?_,s.kp _ _ q (.inl n),k,Ae.step s c b r⟩
  rcases s.nw a f with z|z
  ·exact n z
  ·rw[q]at z;cases z
theorem Ae.step{K:Ap}{M N a:Fb}{H H':Hp}(s:Step M N a H H'):∀(xs:List D)(vs:List V),Ae K N H xs vs->Ae K a H' xs vs
 |[],_,h=>h
 |x::xs,vs,h=>by
  simp only[Ae]at h ⊢
  obtain⟨v,r,e,q,t⟩:=h
  exact⟨v,r,e,Aq.step s x v q,Ae.step s xs r t⟩
end
section
variable{K:Ap}{M N N':Fb}{H H':Hp}{d:D}{v:V}{xs ys:List D}{vs ws:List V}{a:Ad}
theorem Aq.same(h:Aq K N H d v)(s:Ak H H'):Aq K N H' d v:=Aq.step (M:=N) (Step.of_same s) d v h
theorem Ae.same(h:Ae K N H xs vs)(s:Ak H H'):Ae K N H' xs vs:=Ae.step (M:=N) (Step.of_same s) xs vs h
theorem Aq.nw(h:Aq K N H d v)(z:∀a,N' a->N a\/H a=none):Aq K N' H d v:=Aq.step (M:=N) (H':=H) ⟨λ_ _ h _=>h,z⟩ d v h
theorem Ae.nw(h:Ae K N H xs vs)(z:∀a,N' a->N a\/H a=none):Ae K N' H xs vs:=Ae.step (M:=N) (H':=H) ⟨λ_ _ h _=>h,z⟩ xs vs h
theorem Ae.length:∀{xs:List D}{vs:List V},Ae K N H xs vs->xs.length=vs.length
 |[],_,h=>by simp only[Ae]at h;subst h;rfl
 |_::xs,_,h=>by simp only[Ae]at h;obtain⟨v,r,e,_,t⟩:=h;subst e;simp[Ae.length t]
theorem Ae.get:∀{xs:List D}{vs:List V}{i:Nat}{d:D},Ae K N H xs vs->xs[i]?=some d->∃v,vs[i]?=some v/\Aq K N H d v
 |[],_,i,d,_,e=>by simp at e
 |x::xs,_,0,d,h,e=>by
  simp only[Ae]at h;obtain⟨v,r,a,q,_⟩:=h;subst a
  simp at e;subst e;exact⟨v,rfl,q⟩
 |x::xs,_,i+1,d,h,e=>by
  simp only[Ae]at h;obtain⟨v,r,a,_,t⟩:=h;subst a
  obtain⟨w,b,c⟩:=Ae.get (i:=i) t (by simpa using e)
  exact⟨w,by simpa using b,c⟩
theorem Ae.get':∀{xs:List D}{vs:List V}{i:Nat}{v:V},Ae K N H xs vs->vs[i]?=some v->∃d,xs[i]?=some d/\Aq K N H d v:=by
 intro xs vs i v h e
 have f:=h.length
 have g:i<vs.length:=(List.getElem?_eq_some_iff.mp e).1
 have a:xs[i]?=some xs[i]:=DG (by omega)
 obtain⟨w,b,c⟩:=h.get a
 rw[e]at b;cases b
 exact⟨_,a,c⟩
theorem Ae.append:∀{xs ys:List D}{vs ws:List V},Ae K N H xs vs->Ae K N H ys ws->Ae K N H (xs++ys) (vs++ws)
 |[],_,_,_,h,a=>by simp only[Ae]at h;subst h;exact a
 |x::xs,ys,_,ws,h,a=>by
  simp only[Ae]at h;obtain⟨v,r,e,q,t⟩:=h;subst e
  simp only[Cq,Ae]
  exact⟨v,r++ws,rfl,q,Ae.append t a⟩
theorem Ae.nil:Ae K N H [] []:=by simp only[Ae]
theorem Ae.cons(h:Aq K N H d v)(t:Ae K N H xs vs):Ae K N H (d::xs) (v::vs):=by simp only[Ae];exact⟨v,vs,rfl,h,t⟩
theorem Ae.take:∀{xs:List D}{vs:List V}(n:Nat),Ae K N H xs vs->Ae K N H (xs.take n) (vs.take n)
 |_,_,0,_=>by simpa using Ae.nil
 |[],_,n+1,h=>by simp only[Ae]at h;subst h;simpa using Ae.nil
 |x::xs,_,n+1,h=>by
  simp only[Ae]at h;obtain⟨v,r,e,q,t⟩:=h;subst e
  simpa using Ae.cons q (Ae.take n t)
theorem Ae.drop:∀{xs:List D}{vs:List V}(n:Nat),Ae K N H xs vs->Ae K N H (xs.drop n) (vs.drop n)
 |_,_,0,h=>by simpa using h
 |[],_,n+1,h=>by simp only[Ae]at h;subst h;simpa using Ae.nil
 |x::xs,_,n+1,h=>by
  simp only[Ae]at h;obtain⟨v,r,e,q,t⟩:=h;subst e
  simpa using Ae.drop n t
theorem Ae.reverse:∀{xs:List D}{vs:List V},Ae K N H xs vs->Ae K N H xs.reverse vs.reverse
 |[],_,h=>by simp only[Ae]at h;subst h;simpa using Ae.nil
 |x::xs,_,h=>by
  simp only[Ae]at h;obtain⟨v,r,e,q,t⟩:=h;subst e
  simpa using Ae.append (Ae.reverse t) (Ae.cons q Ae.nil)
theorem Ae.set:∀{xs:List D}{vs:List V}(i:Nat),Ae K N H xs vs->Aq K N H d v->Ae K N H (xs.set i d) (vs.set i v)
 |[],_,_,h,_=>by simp only[Ae]at h;subst h;simpa using Ae.nil
 |x::xs,_,0,h,q=>by
  simp only[Ae]at h;obtain⟨v,r,e,_,t⟩:=h;subst e
  simpa using Ae.cons q t
 |x::xs,_,i+1,h,q=>by
  simp only[Ae]at h;obtain⟨v,r,e,a,t⟩:=h;subst e
  simpa using Ae.cons a (Ae.set i t q)
theorem Ae.ints:∀(ns:List Int),Ae K N H (ns.map D.int) (ns.map V.int)
 |[]=>Ae.nil
 |n::ns=>Ae.cons (by simp only[Aq]) (Ae.ints ns)
end
inductive Sl where
 |no|val (d:D)|own (xs:List D) (b:Bool:=false)|lent (xs:List D) (b:Bool:=false)|exc (c:Af)|pin (a:Ad)|deep (zs:List (List D)) (oa:Option Ad:=none)
def De(e C:Ad)(h:Al):Prop:=∃o a,h.get? e=some o/\o.cls=.ref C/\o.data=.fields a/\a[2]?=some .none
abbrev VE:=List Sl
def Nf(M:Fb)(ρ:VE)(σ:St):Fb:=λa=>M a\/∃(i:Nat)(c:List D)(b:Bool),ρ[i]?=some (Sl.own c b)/\σ[i]?=some (some (V.ref a))
def OI(K:Ap)(M N:Fb)(g H:Hp):Sl->Option V->Prop
 |.no,_=>True
 |.val d,o=>∃v,o=some v/\Aq K N H d v
 |.own f b,o=>∃a e,o=some (.ref a)/\g a=none/\¬ M a/\H a=some (CO b f e)/\Ae K N H f e
 |.lent f b,o=>∃a e,o=some (.ref a)/\(M a/\g a≠none)/\Rd H a (CO b f e)/\Ae K N H f e
 |.exc c,o=>∃a C,o=some (.ref a)/\C6 K BD c=some (some (.ref C))/\H a=some (.ext (De a C))
 |.pin a,o=>o=some (.ref a)
 |.deep h i,o=>∃a bs,o=some (.ref a)/\(∀c,i=some c->c=a)/\M a/\Rd H a (.lst (bs.map V.ref))/\(∀b∈bs,M b)/\Paired (λz b=>∃e,Rd H b (.lst e)/\Ae K N H z e) h bs
structure A3(K:Ap)(M:Fb)(H0:Hp)(ρ:VE)(σ:St)(H:Hp):Prop where
 len:ρ.length=σ.length
 same:Ak H0 H
 mh:∀a,M a->H a≠none
 slot:∀(i:Nat) (s:Sl),ρ[i]?=some s->OI K M (Nf M ρ σ) H0 H s (σ[i]?.join)
 inj:∀(i j:Nat) (xs ys:List D) (b b':Bool) (a:Ad),ρ[i]?=some (Sl.own xs b)->ρ[j]?=some (Sl.own ys b')->σ[i]?=some (some (V.ref a))->σ[j]?=some (some (V.ref a))->i=j
section
variable{K:Ap}{M N:Fb}{H0 H H':Hp}{ρ:VE}{σ:St}
theorem A3.nh(R:A3 K M H0 ρ σ H):∀a,Nf M ρ σ a->H a≠none:=by
 rintro a (h|⟨i,g,j,c,d⟩)
 ·exact R.mh a h
 ·obtain⟨b,k,e,_,_,q,_⟩:=R.slot i _ c
  rw[d]at e
  have f:b=a:=by simpa using e.symm
  rw[<- f,q];exact λz=>nomatch z
theorem A3.st(R:A3 K M H0 ρ σ H)(s:Ak H H'):A3 K M H0 ρ σ H' where
 len:=R.len
 same:=R.same.trans s
 mh:=λa h z=>R.mh a h (s.free z)
 slot:=λi l e=>by
  have q:=R.slot i l e
  cases l with
  |no=>trivial
  |val d=>obtain⟨v,e,h⟩:=q;exact⟨v,e,h.same s⟩
  |own m n=>obtain⟨a,g,e,b,f,j,k⟩:=q;exact⟨a,g,e,b,f,s _ _ j,k.same s⟩
  |lent m n=>obtain⟨a,g,e,b,f,j⟩:=q;exact⟨a,g,e,b,f.same s,j.same s⟩
  |exc c=>obtain⟨a,C,e,b,f⟩:=q;exact⟨a,C,e,b,s _ _ f⟩
  |pin a=>exact q
  |deep t u=>obtain⟨a,bs,e,o,b,f,j,k⟩:=q;exact⟨a,bs,e,o,b,f.same s,j,Paired.mapP k λ_ _ ⟨g,p,r⟩=>⟨g,p.same s,r.same s⟩⟩
 inj:=R.inj
theorem A3.fresh(R:A3 K M H0 ρ σ H){p:Ad}(h:H p=none):¬ Nf M ρ σ p:=λn=>R.nh p n h
end
def tD(K:Ap)(M:Fb)(e:Hp)(f:VE->Option D):TE:=λc H Q=>∃a d,A3 K M e a c H/\f a=some d/\∀v b,Ak H b->Aq K (Nf M a c) b d v->Q v b
def AA(K:Ap)(N:Fb)(H:Hp)(d:D)(v:V):Prop:=match d with
 |.lst c=>∃a b,v=.ref a/\Bn K H a b/\Ae K N H c b
 |.lst c true=>∃a b,v=.ref a/\Rd H a (.dct (HQ c) b)/\Ae K N H c b
 |d=>Aq K N H d v
theorem Aq.p{K:Ap}{N:Fb}{H:Hp}{d:D}{v:V}(h:Aq K N H d v):AA K N H d v:=by
 cases d with
 |lst f c=>
  simp only[Aq]at h
  obtain⟨a,b,e,q,r⟩:=h
  cases c with
  |false=>exact⟨a,b,e,LstAt.sq q,r⟩
  |true=>
   rcases q with⟨_,q⟩|⟨g,z,_⟩
   ·exact⟨a,b,e,q,r⟩
   ·cases z
 |_=>exact h
theorem AA.same{K:Ap}{N:Fb}{H H':Hp}{d:D}{v:V}(h:AA K N H d v)(s:Ak H H'):AA K N H' d v:=by
 cases d with
 |lst f c=>
  cases c with
  |false=>obtain⟨a,b,e,q,r⟩:=h;exact⟨a,b,e,s.seq q,r.same s⟩
  |true=>obtain⟨a,b,e,q,r⟩:=h;exact⟨a,b,e,q.same s,r.same s⟩
 |_=>exact Aq.same h s
theorem OJ{K:Ap}{N:Fb}{H:Hp}{xs:List D}{vs:List V}{fl:Bool}{a:Ad}(h:Rd H a (CO fl xs vs))(r:Ae K N H xs vs):AA K N H (.lst xs fl) (.ref a):=by
 cases fl with
 |false=>exact⟨a,vs,rfl,.inl h,r⟩
 |true=>exact⟨a,vs,rfl,h,r⟩
def tP(K:Ap)(M:Fb)(e:Hp)(f:VE->Option D):TE:=λc H Q=>∃a d,A3 K M e a c H/\f a=some d/\∀v b,Ak H b->AA K (Nf M a c) b d v->Q v b
def IW(fl:Bool)(K:Ap)(M:Fb)(i:Hp)(f:VE->Option (List D)):TE:=λg H Q=>∃d e,A3 K M i d g H/\f d=some e /\
 ∀a h c,Ak H c->H a=none->c a=some (CO fl e h)->Ae K (λb=>Nf M d g b\/b=a) c e h->Q (.ref a) c
@[reducible] def tF(K:Ap)(M:Fb)(a:Hp)(f:VE->Option (List D)):TE:=IW false K M a f
def Bx(K:Ap)(M:Fb)(d:Hp)(f:VE->Option Bool):TT:=λe H Q=>∃a b,A3 K M d a e H/\f a=some b/\∀c,Ak H c->Q b c
structure JE(X:Cx)(e:Expr)(t:TE):Prop where h:PE X e t
structure JT(X:Cx)(e:Expr)(t:TT):Prop where h:PT X e t
structure JW(X:Cx)(e:Expr)(t:TT):Prop where h:PW X e t
structure JA(X:Cx)(e:List Expr)(t:TA):Prop where h:PA X e t
structure JS(X:Cx)(e:As)(t:TS):Prop where h:PS X e t
structure JB(X:Cx)(e:List As)(t:TS):Prop where h:DP X e t
structure JI(X:Cx)(tg e:Expr)(t:TI):Prop where h:PI X tg e t
structure JG(X:Cx)(e:Expr)(t:TG):Prop where h:PG X e t
structure JK(X:Cx)(e:List Expr)(t:Gg):Prop where h:J9 X e t
structure JO(X:Cx)(e:Option Expr)(t:TO):Prop where h:PO X e t
structure JF(X:Cx)(e:List Expr)(t:TT):Prop where h:EA X e t
theorem PE.mono{X:Cx}{e:Expr}{t t':TE}(h:PE X e t)(m:∀σ H Q,t' σ H Q->t σ H Q):PE X e t':=λa s σ H Q I q=>h a s σ H Q I (m σ H Q q)
theorem PT.mono{X:Cx}{e:Expr}{t t':TT}(h:PT X e t)(m:∀σ H Q,t' σ H Q->t σ H Q):PT X e t':=λa s σ H Q I q=>h a s σ H Q I (m σ H Q q)
theorem PW.mono{X:Cx}{e:Expr}{t t':TT}(h:PW X e t)(m:∀σ H Q,t' σ H Q->t σ H Q):PW X e t':=λb a s σ H Q I q=>h b a s σ H Q I (m σ H Q q)
theorem PA.mono{X:Cx}{e:List Expr}{t t':TA}(h:PA X e t)(m:∀σ H Q,t' σ H Q->t σ H Q):PA X e t':=λb a s σ H Q I q=>h b a s σ H Q I (m σ H Q q)
theorem PS.mono{X:Cx}{e:As}{t t':TS}(h:PS X e t)(m:∀D σ H,t' D σ H->t D σ H):PS X e t':=λa s σ H D I q=>h a s σ H D I (m D σ H q)
theorem DP.mono{X:Cx}{e:List As}{t t':TS}(h:DP X e t)(m:∀D σ H,t' D σ H->t D σ H):DP X e t':=λa s σ H D I q=>h a s σ H D I (m D σ H q)
section
variable{X:Cx}{K:Ap}{M:Fb}{H0:Hp}{e a b:Expr}{f g:VE->Option D}{pos:AT}
theorem PE.p(h:PE X e (tD K M H0 f)):PE X e (tP K M H0 f):=h.mono λc H Q ⟨a,d,R,e,q⟩=>⟨a,d,R,e,λv b s z=>q v b s z.p⟩
theorem Au(h:JE X e (tD K M H0 f)):JE X e (tP K M H0 f):=⟨PE.p h.h⟩
@[simp] def Zz(o:Option (List D)):Option D:=o.map D.lst
@[simp] def lV(o:Option (List D)):Option D:=o.map λl=>D.lst l true
theorem PE.fd{f:VE->Option (List D)}(h:PE X e (tF K M H0 f)):PE X e (tD K M H0 λρ=>Zz (f ρ)):=h.mono λn H Q ⟨ρ,d,R,e,q⟩=>by
 try dsimp only at e q
 cases c:f ρ with
 |none=>rw[c]at e;cases e
 |some g=>
  rw[c]at e
  cases e
  refine⟨ρ,g,R,c,λa i o s j k l=>q _ _ s ?_⟩
  simp only[Aq]
  refine⟨a,i,rfl,.of (R.fresh j) k,l.nw λb m=>.inl (.inl m)⟩
theorem ZV{f:VE->Option (List D)}(h:JE X e (tF K M H0 f)):JE X e (tD K M H0 λρ=>Zz (f ρ)):=⟨PE.fd h.h⟩
@[simp] def A1(ρ:VE)(i:Nat):Option D:=match ρ[i]? with
  |some (.val d)=>some d
  |_=>none
@[simp] def Ao(ρ:VE)(i:Nat):Option D:=match ρ[i]? with
  |some (.val d)=>some d
  |some (.own a b)=>some (.lst a b)
  |some (.lent a b)=>some (.lst a b)
  |_=>none
theorem cK{ρ:VE}{i:Nat}{d:D}(h:A1 ρ i=some d):ρ[i]?=some (.val d):=by
 unfold A1 at h
 split at h
 ·cases h;assumption
 ·cases h
theorem cL{i:Nat}{x:Af}(c:X.N[i]?=some x)(f:C0 X.env.scope x)(hd:(x==("__debug__":Af))=false:=by decide)(b:(x==("__classdict__":Af))=false:=by decide):PE X (.Name x pos) (tD K M H0 λρ=>A1 ρ i):=
 (Ex c f hd b).mono λg H Q ⟨ρ,d,R,e,q⟩=>by
  try dsimp only at e q
  obtain⟨v,a,h⟩:=R.slot i _ (cK e)
  refine⟨v,?_,q v H (Ak.refl H) h⟩
  cases z:g[i]? with
  |none=>rw[z]at a;cases a
  |some o=>rw[z]at a;cases a;rfl
theorem cM{i:Nat}{x:Af}(k:X.N[i]?=some x)(l:C0 X.env.scope x)(hd:(x==("__debug__":Af))=false:=by decide)(f:(x==("__classdict__":Af))=false:=by decide):PE X (.Name x pos) (tP K M H0 λρ=>Ao ρ i):=
 (Ex k l hd f).mono λc H Q ⟨ρ,d,R,e,q⟩=>by
  try dsimp only at e q
  have fin:∀v,c[i]?.join=some v->AA K (Nf M ρ c) H d v->∃v,c[i]?=some (some v)/\Q v H:=λv b h=>by
   refine⟨v,?_,q v H (Ak.refl H) h⟩
   cases z:c[i]? with
   |none=>rw[z]at b;cases b
   |some o=>rw[z]at b;cases b;rfl
  unfold Ao at e
  split at e
  ·next h=>cases e;obtain⟨v,b,h⟩:=R.slot i _ h;exact fin v b h.p
  ·next h=>cases e;obtain⟨a,m,b,_,_,g,j⟩:=R.slot i _ h;exact fin _ b (OJ (.inl g) j)
  ·next h=>cases e;obtain⟨a,m,b,_,g,j⟩:=R.slot i _ h;exact fin _ b (OJ g j)
  ·cases e
theorem IY{d:D}{v:V}{e:Expr}(h:PE X e (tC v))(hd:∀N H,Aq K N H d v):PE X e (tD K M H0 λ_=>some d):=
 h.mono λa H Q ⟨b,c,R,e,q⟩=>by(try dsimp only at e q);cases e;exact q v H (Ak.refl H) (hd _ _)
theorem ZC {i j pos}:JE X (.Constant (.int i) j pos) (tD K M H0 λ_=>some (.int i)):=⟨IY RO λ_ _=>by simp only[Aq]⟩
theorem DV {i j pos}:JE X (.Constant (.bool i) j pos) (tD K M H0 λ_=>some (.bl i)):=⟨IY YP λ_ _=>by simp only[Aq]⟩
theorem IZ {j pos}:JE X (.Constant .none j pos) (tD K M H0 λ_=>some .non):=⟨IY YQ λ_ _=>by simp only[Aq]⟩
theorem Kj {i j pos}:JE X (.Constant (.str i) j pos) (tD K M H0 λ_=>some (.str i)):=⟨IY YR λ_ _=>by simp only[Aq]⟩
def CB(K:Ap)(r:R2)(F:D->D->Option D):Prop:=∀(N:Fb)(H:Hp)(x y:V)(d1 d2 d:D)(Q:VK),(∀a,N a->H a≠none)->AA K N H d1 x->AA K N H d2 y->F d1 d2=some d ->
 (∀v b,Ak H b->Aq K N b d v->Q v b)->r x y H Q
@[simp] def Ze(F:D->D->Option D)(f g:VE->Option D):VE->Option D:=λa=>(f a).bind λx=>(g a).bind λy=>F x y
theorem cN{F:D->D->Option D}{f g:VE->Option D}{ρ:VE}{d:D}(h:Ze F f g ρ=some d):∃x y,f ρ=some x/\g ρ=some y/\F x y=some d:=by
 unfold Ze at h
 cases a:f ρ with
 |none=>rw[a]at h;cases h
 |some x=>
  cases b:g ρ with
  |none=>rw[a,b]at h;cases h
  |some y=>rw[a,b]at h;exact⟨x,y,rfl,rfl,h⟩
theorem LR{r:R2}{F:D->D->Option D}(i:CB K r F){σ:St}{H:Hp}{Q:VK}(h:tD K M H0 (Ze F f g) σ H Q):II r (tP K M H0 f) (tP K M H0 g) σ H Q:=by
 obtain⟨a,d,R,e,q⟩:=h
 try dsimp only at e q
 obtain⟨x,y,j,k,l⟩:=cN e
 refine⟨a,x,R,j,λv z b m=>⟨a,y,R.st b,k,λu n c o=>?_⟩⟩
 exact i (Nf M a σ) n v u x y d Q ((R.st b).st c).nh (m.same c) o l λw p s t=>q w p ((b.trans c).trans s) t
theorem HR{op:Operator}{r:R2}{F:D->D->Option D}(c:BU X (E3 op) r)(d:CB K r F)(e:PE X a (tP K M H0 f))(i:PE X b (tP K M H0 g)):PE X (.BinOp a op b pos) (tD K M H0 (Ze F f g)):=
 (aJ c e i).mono λ_ _ _ h=>LR d h
theorem OL{op:CmpOp}{r:R2}{F:D->D->Option D}(c:BU X (Dd op) r)(d:CB K r F)(e:PE X a (tP K M H0 f))(i:PE X b (tP K M H0 g))(j:Gf op b=false):PE X (.Compare a [op] [b] pos) (tD K M H0 (Ze F f g)):=
 (aV c e i j).mono λ_ _ _ h=>LR d h
theorem Te{r:R2}{F:D->D->Option D}(c:Fm X r)(d:CB K r F)(e:PE X a (tP K M H0 f))(i:PE X b (tP K M H0 g))(j:IR b):PE X (.Subscript a b pos) (tD K M H0 (Ze F f g)):=
 (SG c e i j).mono λ_ _ _ h=>LR d h
@[simp] def I0{c:Type}(a b:Option c):Option c:=match a with
  |some x=>some x
  |none=>b
theorem CB.or{r b:R2}{F c:D->D->Option D}(h:CB K r F)(h':CB K b c):CB K (λx y H Q=>r x y H Q\/b x y H Q) (λx y=>I0 (F x y) (c x y)):=by
 intro N H x y d1 d2 d Q f g i e q
 cases a:F d1 d2 with
 |some z=>simp only[a,I0]at e;cases e;exact .inl (h N H x y d1 d2 d Q f g i a q)
 |none=>simp only[a,I0]at e;exact .inr (h' N H x y d1 d2 d Q f g i e q)
@[simp] def AM:Option D->Option Bool
  |some (.bl b)=>some b
  |_=>none
theorem Ja{o:Option D}{b:Bool}(h:AM o=some b):o=some (.bl b):=by
 unfold AM at h
 split at h
 ·cases h;rfl
 ·cases h
theorem cO{t:TE}{σ:St}{H:Hp}{Q:Bool->Hp->Prop}(c:∀σ H Q,tD K M H0 f σ H Q->t σ H Q)(h:Bx K M H0 (λρ=>AM (f ρ)) σ H Q):tB t σ H Q:=by
 obtain⟨ρ,b,R,e,q⟩:=h
 try dsimp only at e q
 refine c σ H _ ⟨ρ,.bl b,R,Ja e,λv d s a=>?_⟩
 simp only[Aq]at a
 exact⟨b,a,q d s⟩
theorem Kk{op:CmpOp}{r:R2}{F:D->D->Option D}(c:BU X (Dd op) r)(d:CB K r F)(e:PE X a (tP K M H0 f))(h:PE X b (tP K M H0 g))(i:Gf op b=false):PT X (.Compare a [op] [b] pos) (Bx K M H0 λρ=>AM (Ze F f g ρ)):=
 (Sa c e h i).mono λ_ _ _ q=>cO (t:=II r (tP K M H0 f) (tP K M H0 g)) (λ_ _ _ z=>LR d z) q
@[simp] def CH(o:Option Bool):Option Bool:=o.map (!·)
@[simp] def DW(o p:Option Bool):Option Bool:=match o with
  |some true=>p
  |some false=>some false
  |none=>none
@[simp] def Ea(o p:Option Bool):Option Bool:=match o with
  |some true=>some true
  |some false=>p
  |none=>none
section
variable{c c':VE->Option Bool}{Ay:List Expr}
theorem EB(h:JT X a (Bx K M H0 c)):JT X (.UnaryOp .Not a pos) (Bx K M H0 λρ=>CH (c ρ)):=⟨have h:=h.h;(Y0 h).mono λf H Q ⟨ρ,b,R,e,q⟩=>by
 try dsimp only at e q
 cases d:c ρ with
 |none=>rw[d]at e;cases e
 |some k=>rw[d]at e;cases e;exact⟨ρ,k,R,d,q⟩⟩
theorem cP(h:JT X a (Bx K M H0 c)):JW X (.BoolOp .And [a] pos) (Bx K M H0 c):=⟨have h:=h.h;YW h⟩
theorem G9(h:JT X a (Bx K M H0 c)):JW X (.BoolOp .Or [a] pos) (Bx K M H0 c):=⟨have h:=h.h;YX h⟩
theorem cQ{σ:St}{H:Hp}{Q:Bool->Hp->Prop}(h:Bx K M H0 (λρ=>DW (c ρ) (c' ρ)) σ H Q):RS (Bx K M H0 c) (Bx K M H0 c') σ H Q:=by
 obtain⟨ρ,b,R,e,q⟩:=h
 try dsimp only at e q
 cases a:c ρ with
 |none=>rw[a]at e;cases e
 |some k=>
  cases k with
  |true=>rw[a]at e;exact⟨ρ,true,R,a,λd s=>by refine FR ?_;exact⟨ρ,b,R.st s,e,λf g=>q f (s.trans g)⟩⟩
  |false=>rw[a]at e;cases e;exact⟨ρ,false,R,a,λd s=>by refine FS ?_;exact q d s⟩
theorem cR{σ:St}{H:Hp}{Q:Bool->Hp->Prop}(h:Bx K M H0 (λρ=>Ea (c ρ) (c' ρ)) σ H Q):RU (Bx K M H0 c) (Bx K M H0 c') σ H Q:=by
 obtain⟨ρ,b,R,e,q⟩:=h
 try dsimp only at e q
 cases a:c ρ with
 |none=>rw[a]at e;cases e
 |some k=>
  cases k with
  |false=>rw[a]at e;exact⟨ρ,false,R,a,λd s=>by refine FS ?_;exact⟨ρ,b,R.st s,e,λf g=>q f (s.trans g)⟩⟩
  |true=>rw[a]at e;cases e;exact⟨ρ,true,R,a,λd s=>by refine FR ?_;exact q d s⟩
theorem cT(h:JT X a (Bx K M H0 c))(h':JW X (.BoolOp .And (b::Ay) pos) (Bx K M H0 c')):JW X (.BoolOp .And (a::b::Ay) pos) (Bx K M H0 λρ=>DW (c ρ) (c' ρ)):=⟨have h:=h.h;have h':=h'.h;(YY h h').mono λ_ _ _ q=>cQ q⟩
theorem Gs(h:JT X a (Bx K M H0 c))(h':JW X (.BoolOp .Or (b::Ay) pos) (Bx K M H0 c')):JW X (.BoolOp .Or (a::b::Ay) pos) (Bx K M H0 λρ=>Ea (c ρ) (c' ρ)):=⟨have h:=h.h;have h':=h'.h;(YZ h h').mono λ_ _ _ q=>cR q⟩
@[simp] def C1(o:Option Bool):Option D:=o.map D.bl
theorem LS{σ:St}{H:Hp}{Q:VK}(h:tD K M H0 (λρ=>C1 (c ρ)) σ H Q):∃ρ b,A3 K M H0 ρ σ H/\c ρ=some b/\∀H',Ak H H'->Q (.bl b) H':=by
 obtain⟨ρ,d,R,e,q⟩:=h
 try dsimp only at e q
 cases a:c ρ with
 |none=>rw[a]at e;cases e
 |some k=>rw[a]at e;cases e;exact⟨ρ,k,R,a,λH' s=>q _ H' s (by simp only[Aq])⟩
theorem cU(h:JE X a (tD K M H0 f)):JE X (.UnaryOp .Not a pos) (tD K M H0 λρ=>C1 (CH (AM (f ρ)))):=⟨have h:=h.h;(Y7 h).mono λi H Q q=>by
 obtain⟨ρ,b,R,e,q⟩:=LS q
 try dsimp only at e q
 cases c:AM (f ρ)with
 |none=>rw[c]at e;cases e
 |some k=>
  rw[c]at e;cases e
  refine⟨ρ,.bl k,R,Ja c,λv g s d=>?_⟩
  simp only[Aq]at d
  exact⟨k,d,q g s⟩⟩
theorem Ha {op} (h:JE X a (tD K M H0 f)):JE X (.BoolOp op [a] pos) (tD K M H0 λρ=>C1 (AM (f ρ))):=⟨have h:=h.h;(Y4 h).mono λg H Q q=>by
 obtain⟨ρ,b,R,e,q⟩:=LS q
 try dsimp only at e q
 exact⟨ρ,.bl b,R,Ja e,λv d s c=>by simp only[Aq]at c;subst c;exact q d s⟩⟩
theorem Hb(h:JE X a (tD K M H0 f))(h':JE X (.BoolOp .And (b::Ay) pos) (tD K M H0 λρ=>C1 (c' ρ))):JE X (.BoolOp .And (a::b::Ay) pos) (tD K M H0 λρ=>C1 (DW (AM (f ρ)) (c' ρ))):=⟨have h:=h.h;have h':=h'.h;(Y5 h h').mono λn H Q q=>by
 obtain⟨ρ,b,R,e,q⟩:=LS q
 try dsimp only at e q
 cases c:AM (f ρ)with
 |none=>rw[c]at e;cases e
 |some k=>
  refine⟨ρ,.bl k,R,Ja c,λv i s d=>?_⟩
  simp only[Aq]at d
  refine⟨k,d,?_⟩
  cases k with
  |true=>
   rw[c]at e;refine FR ?_
   have j:c' ρ=some b:=e
   exact⟨ρ,.bl b,R.st s,by show C1 (c' ρ)=_;rw[j];rfl,λw l m g=>by simp only[Aq]at g;subst g;exact q l (s.trans m)⟩
  |false=>rw[c]at e;cases e;refine FS ?_;exact q i s⟩
theorem Tf(h:JE X a (tD K M H0 f))(h':JE X (.BoolOp .Or (b::Ay) pos) (tD K M H0 λρ=>C1 (c' ρ))):JE X (.BoolOp .Or (a::b::Ay) pos) (tD K M H0 λρ=>C1 (Ea (AM (f ρ)) (c' ρ))):=⟨have h:=h.h;have h':=h'.h;(Y6 h h').mono λn H Q q=>by
 obtain⟨ρ,b,R,e,q⟩:=LS q
 try dsimp only at e q
 cases c:AM (f ρ)with
 |none=>rw[c]at e;cases e
 |some k=>
  refine⟨ρ,.bl k,R,Ja c,λv i s d=>?_⟩
  simp only[Aq]at d
  refine⟨k,d,?_⟩
  cases k with
  |false=>
   rw[c]at e;refine FS ?_
   have j:c' ρ=some b:=e
   exact⟨ρ,.bl b,R.st s,by show C1 (c' ρ)=_;rw[j];rfl,λw l m g=>by simp only[Aq]at g;subst g;exact q l (s.trans m)⟩
  |true=>rw[c]at e;cases e;refine FR ?_;exact q i s⟩
@[simp] def OM{d:Type}(c:Option Bool)(a b:Option d):Option d:=match c with
  |some true=>a
  |some false=>b
  |none=>none
theorem Tg{k:Expr}(i:JT X k (Bx K M H0 c))(j:JE X a (tD K M H0 f))(l:JE X b (tD K M H0 g)):JE X (.IfExp k a b pos) (tD K M H0 λρ=>OM (c ρ) (f ρ) (g ρ)):=⟨have i:=i.h;have j:=j.h;have l:=l.h;(Y9 i j l).mono λp H Q ⟨ρ,d,R,e,q⟩=>by
 try dsimp only at e q
 cases i:c ρ with
 |none=>rw[i]at e;cases e
 |some k=>
  refine⟨ρ,k,R,i,λr s=>?_⟩
  cases k with
  |true=>rw[i]at e;refine FR ?_;exact⟨ρ,d,R.st s,e,λw m n o=>q w m (s.trans n) o⟩
  |false=>rw[i]at e;refine FS ?_;exact⟨ρ,d,R.st s,e,λw m n o=>q w m (s.trans n) o⟩⟩
@[simp] def isN:D->Bool
  |.non=>true
  |_=>false
@[simp] def Th(o:Option D):Option Bool:=o.map isN
theorem AA.isN{K:Ap}{N:Fb}{H:Hp}{d:D}{v:V}(h:AA K N H d v):decide (v=.non)=L2.isN d:=by
 cases d with
 |non=>simp only[AA,Aq]at h;subst h;rfl
 |bl _=>simp only[AA,Aq]at h;subst h;rfl
 |int _=>simp only[AA,Aq]at h;subst h;rfl
 |str _=>simp only[AA,Aq]at h;subst h;rfl
 |ty _=>simp only[AA,Aq]at h;subst h;rfl
 |tup _=>simp only[AA,Aq]at h;obtain⟨a,b,e,_⟩:=h;subst e;rfl
 |lst _ c=>cases c<;>(obtain⟨a,b,e,_⟩:=h;subst e;rfl)
 |ins _ _=>simp only[AA,Aq]at h;obtain⟨a,_,_,b,e,_⟩:=h;subst e;rfl
theorem cV {j c} (h:JE X a (tP K M H0 f)):JT X (.Compare a [.Is] [.Constant .none j c] pos) (Bx K M H0 λρ=>Th (f ρ)):=⟨have h:=h.h;(YU (YT h)).mono λl H Q ⟨ρ,b,R,e,q⟩=>by
 try dsimp only at e q
 cases g:f ρ with
 |none=>rw[g]at e;cases e
 |some d=>rw[g]at e;cases e;exact⟨ρ,d,R,g,λv i s k=>⟨_,rfl,by rw[k.isN];exact q i s⟩⟩⟩
end
end
theorem Df{e:Expr}{es:List Expr}{env:Env}(h:∀x p,e≠.Starred x p):AO (e::es) env=(false,Ar e env)::AO es env:=by
 cases e with
 |Starred x p=>exact absurd rfl (h x p)
 |_=>rfl
def B1(K:Ap)(N:Fb)(H:Hp):Sl->V->Prop
 |.val d,v=>Aq K N H d v
 |.lent f b,v=>∃a e,v=.ref a/\N a/\Rd H a (CO b f e)/\Ae K N H f e
 |.deep g h,v=>∃a bs,v=.ref a/\(∀c,h=some c->c=a)/\N a/\Rd H a (.lst (bs.map V.ref))/\(∀b∈bs,N b)/\Paired (λz b=>∃e,Rd H b (.lst e)/\Ae K N H z e) g bs
 |_,_=>False
def AW(K:Ap)(N:Fb)(H:Hp):List Sl->List V->Prop
 |[],a=>a=[]
 |s::b,a=>∃v r,a=v::r/\B1 K N H s v/\AW K N H b r
@[simp] def pk:Sl->Option D
  |.val d=>some d
  |.lent a b=>some (.lst a b)
  |.own a b=>some (.lst a b)
  |.no=>none
  |.exc _=>none
  |.pin _=>none
  |.deep _ _=>none
theorem B1.same{K:Ap}{N:Fb}{H H':Hp}{s:Sl}{v:V}(h:B1 K N H s v)(sm:Ak H H'):B1 K N H' s v:=by
 cases s with
 |val d=>exact Aq.same h sm
 |lent f g=>obtain⟨a,b,e,n,q,r⟩:=h;exact⟨a,b,e,n,q.same sm,r.same sm⟩
 |no=>exact h
 |own f g=>exact h
 |exc c=>exact h
 |pin a=>exact h
 |deep t u=>obtain⟨a,bs,e,i,j,k,l,m⟩:=h;exact⟨a,bs,e,i,j,k.same sm,l,Paired.mapP m λ_ _ ⟨b,o,p⟩=>⟨b,o.same sm,p.same sm⟩⟩
theorem AW.same{K:Ap}{N:Fb}{H H':Hp}(sm:Ak H H'):∀{a:List Sl}{vs:List V},AW K N H a vs->AW K N H' a vs
 |[],_,h=>h
 |s::a,_,⟨v,r,e,h,t⟩=>⟨v,r,e,h.same sm,AW.same sm t⟩
theorem B1.p{K:Ap}{N:Fb}{H:Hp}{s:Sl}{v:V}(h:B1 K N H s v){d:D}(b:pk s=some d):AA K N H d v:=by
 cases s with
 |val d=>cases b;exact Aq.p h
 |lent f g=>cases b;obtain⟨a,i,e,n,q,r⟩:=h;subst e;exact OJ q r
 |no=>exact Bd h
 |own f g=>exact Bd h
 |exc c=>exact Bd h
 |pin a=>exact Bd h
 |deep j k=>cases b
theorem AW.length{K:Ap}{N:Fb}{H:Hp}:∀{a:List Sl}{vs:List V},AW K N H a vs->a.length=vs.length
 |[],_,h=>by cases h;rfl
 |s::a,_,⟨v,r,e,h,t⟩=>by subst e;simp[AW.length t]
theorem AW.get{K:Ap}{N:Fb}{H:Hp}:∀{a:List Sl}{vs:List V}{i:Nat}{s:Sl},AW K N H a vs->a[i]?=some s->∃v,vs[i]?=some v/\B1 K N H s v
 |[],_,i,s,h,e=>by simp at e
 |_::a,_,0,s,⟨v,r,b,h,t⟩,e=>by subst b;simp at e;subst e;exact⟨v,rfl,h⟩
 |_::a,_,i+1,s,⟨v,r,b,h,t⟩,e=>by
  subst b
  obtain⟨w,c,d⟩:=AW.get (i:=i) t (by simpa using e)
  exact⟨w,by simpa using c,d⟩
def CC(K:Ap)(M:Fb)(g:Hp)(f:VE->Option (List Sl)):TA:=λc H Q=>∃a d,A3 K M g a c H/\f a=some d/\∀e b,Ak H b->AW K (Nf M a c) b d e->Q e b
def LU(K:Ap)(M:Fb)(d:Hp)(f:VE->Option Sl):TE:=λc H Q=>∃a s,A3 K M d a c H/\f a=some s/\∀v b,Ak H b->B1 K (Nf M a c) b s v->Q v b
@[simp] def AH(ρ:VE)(i:Nat):Option Sl:=match ρ[i]? with
  |some (.val d)=>some (.val d)
  |some (.own a b)=>some (.lent a b)
  |some (.lent a b)=>some (.lent a b)
  |some (.deep c _)=>some (.deep c)
  |_=>none
@[simp] def Zj(o:Option D):Option Sl:=o.map Sl.val
@[simp] def Zb{c:Type}(a:Option c)(b:Option (List c)):Option (List c):=a.bind λx=>b.bind λy=>some (x::y)
theorem Jb{c:Type}{a:Option c}{b:Option (List c)}{l:List c}(h:Zb a b=some l):∃x y,a=some x/\b=some y/\l=x::y:=by
 cases a with
 |none=>cases h
 |some x=>
  cases b with
  |none=>cases h
  |some y=>cases h;exact⟨x,y,rfl,rfl,rfl⟩
section
variable{X:Cx}{K:Ap}{M:Fb}{H0:Hp}{e a b:Expr}{es:List Expr}{f g:VE->Option D}{fa:VE->Option (List Sl)}{f1:VE->Option Sl}{pos:AT}
theorem cX{i:Nat}{x:Af}(n:X.N[i]?=some x)(p:C0 X.env.scope x)(hd:(x==("__debug__":Af))=false:=by decide)(k:(x==("__classdict__":Af))=false:=by decide):PE X (.Name x pos) (LU K M H0 λρ=>AH ρ i):=
 (Ex n p hd k).mono λf H Q ⟨ρ,d,R,e,q⟩=>by
  try dsimp only at e q
  have fin:∀v,f[i]?.join=some v->B1 K (Nf M ρ f) H d v->∃v,f[i]?=some (some v)/\Q v H:=λv c h=>by
   refine⟨v,?_,q v H (Ak.refl H) h⟩
   cases z:f[i]? with
   |none=>rw[z]at c;cases c
   |some o=>rw[z]at c;cases c;rfl
  unfold AH at e
  split at e
  ·next h=>cases e;obtain⟨v,c,h⟩:=R.slot i _ h;exact fin v c h
  ·next h=>
   cases e
   obtain⟨a,l,c,_,_,g,j⟩:=R.slot i _ h
   refine fin _ c ⟨a,l,rfl,.inr ⟨i,_,_,h,?_⟩,.inl g,j⟩
   cases z:f[i]? with
   |none=>rw[z]at c;cases c
   |some o=>rw[z]at c;cases c;rfl
  ·next h=>cases e;obtain⟨a,l,c,m,g,j⟩:=R.slot i _ h;exact fin _ c ⟨a,l,rfl,.inl m.1,g,j⟩
  ·next h=>cases e;obtain⟨a,bs,c,_,m,g,j,r⟩:=R.slot i _ h;exact fin _ c ⟨a,bs,rfl,(λ_ z=>nomatch z),.inl m,g,λb s=>.inl (j b s),r⟩
  ·cases e
theorem Zh(h:JE X e (tD K M H0 f)):JE X e (LU K M H0 λρ=>Zj (f ρ)):=⟨have h:=h.h;h.mono λg H Q ⟨ρ,s,R,e,q⟩=>by
 try dsimp only at e q
 cases a:f ρ with
 |none=>rw[a]at e;cases e
 |some d=>rw[a]at e;cases e;exact⟨ρ,d,R,a,λv b s c=>q v b s c⟩⟩
theorem Zd :JA X [] (CC K M H0 λ_=>some []):=⟨BM.mono λa H Q ⟨b,c,R,e,q⟩=>by
 try dsimp only at e q
 cases e;exact q [] H (Ak.refl H) rfl⟩
theorem Za(h:JE X e (LU K M H0 f1))(a:JA X es (CC K M H0 fa))(f:AO (e::es) X.env=(false,Ar e X.env)::AO es X.env:=by exact Df (λ_ _ z=>nomatch z)):JA X (e::es) (CC K M H0 λρ=>Zb (f1 ρ) (fa ρ)):=⟨have h:=h.h;have a:=a.h;(E5 h a f).mono λn H Q ⟨ρ,o,R,e,q⟩=>by
 try dsimp only at e q
 obtain⟨s,r,g,i,j⟩:=Jb e
 subst j
 exact⟨ρ,s,R,g,λv p b k=>⟨ρ,r,R.st b,i,λc l d m=>q (v::c) l (b.trans d) ⟨v,c,rfl,k.same d,m⟩⟩⟩⟩
@[simp] def Zs:List Sl->Option (List D)
  |[]=>some []
  |.val d::r=>Zb (some d) (Zs r)
  |_=>none
theorem Kl{K:Ap}{N:Fb}{H:Hp}:∀{a:List Sl}{vs:List V}{b:List D},AW K N H a vs->Zs a=some b->Ae K N H b vs
 |[],_,_,h,e=>by cases e;cases h;exact Ae.nil
 |.val d::r,_,_,⟨v,t,c,h,f⟩,e=>by
  obtain⟨x,y,g,i,j⟩:=Jb e
  cases g;subst c j
  exact Ae.cons h (Kl f i)
 |.no::_,_,_,_,e=>nomatch e
 |.own _ _::_,_,_,_,e=>nomatch e
 |.lent _ _::_,_,_,_,e=>nomatch e
 |.exc _::_,_,_,_,e=>nomatch e
 |.pin _::_,_,_,_,e=>nomatch e
 |.deep _ _::_,_,_,_,e=>nomatch e
@[simp] def Zl{a:Type}(o:Option (List a)):Option (List a):=o.bind λl=>if l.length<=Av then some l else none
theorem LV{b:Type}{o:Option (List b)}{l:List b}(h:Zl o=some l):o=some l/\l.length<=Av:=by
 cases o with
 |none=>cases h
 |some x=>
  have a:(if x.length<=Av then some x else none)=some l:=h
  split at a
  ·cases a;exact⟨rfl,by assumption⟩
  ·cases a
theorem Z3{H:Hp}{p:Ad}{o:HO}(h:H p=none):Ak H (AK H p o):=λb u e=>by rw[Zq (Z4 e h)];exact e
theorem Km{fl:Bool}{ρ:VE}{σ:St}{H d:Hp}{Q:VK}{xs:List D}{vs:List V}{p:Ad}(s:Ak H d)(e:d p=none)(h:Ae K (Nf M ρ σ) d xs vs)
  (q:∀a vs H',Ak H H'->H a=none->H' a=some (CO fl xs vs)->Ae K (λb=>Nf M ρ σ b\/b=a) H' xs vs->Q (.ref a) H'):Q (.ref p) (AK d p (CO fl xs vs)):=by
 refine q p vs _ (s.trans (Z3 e)) (s.free e) ZP ?_
 refine(h.nw λb c=>?_).same (Z3 e)
 rcases c with c|c
 ·exact .inl c
 ·subst c;exact .inr e
theorem ZF(h:JA X es (CC K M H0 fa)):JE X (.List es pos) (tF K M H0 λρ=>Zl ((fa ρ).bind Zs)):=⟨have h:=h.h;(bD h).mono λi H Q ⟨ρ,j,R,e,q⟩=>by
 try dsimp only at e q
 obtain⟨e,b⟩:=LV e
 cases a:fa ρ with
 |none=>rw[a]at e;cases e
 |some c=>
  rw[a]at e
  refine⟨ρ,c,R,a,λk l d f=>?_⟩
  have hd:=Kl f e
  exact⟨by rw[<- hd.length];exact b,λp g=>Km d g hd q⟩⟩
theorem DX {f} (h:JA X es (CC K M H0 fa)):JE X (.Tuple es f pos) (tD K M H0 λρ=>(Zl ((fa ρ).bind Zs)).map D.tup):=⟨have h:=h.h;(bC h).mono λl H Q ⟨ρ,d,R,e,q⟩=>by
 try dsimp only at e q
 cases a:Zl ((fa ρ).bind Zs)with
 |none=>rw[a]at e;cases e
 |some m=>
  rw[a]at e;cases e
  obtain⟨e,a⟩:=LV a
  cases b:fa ρ with
  |none=>rw[b]at e;cases e
  |some g=>
   rw[b]at e
   refine⟨ρ,g,R,b,λi n j k=>?_⟩
   have hd:=Kl k e
   refine⟨by rw[<- hd.length];exact a,λp c=>q _ _ (j.trans (Z3 c)) ?_⟩
   simp only[Aq]
   exact⟨p,i,rfl,BE.of ZP,hd.same (Z3 c)⟩⟩
end
inductive Rv where
 |val (d:D)|own (xs:List D) (b:Bool:=false)
def Hc(K:Ap)(N:Fb)(f H':Hp):Rv->V->Prop
 |.val d,v=>Aq K N H' d v
 |.own c b,v=>∃a e,v=.ref a/\f a=none/\H' a=some (CO b c e)/\Ae K (λb=>N b\/b=a) H' c e
def Bc(K:Ap)(F:List Sl->Option Rv):Sp:=λd H Q _=>∃N c r,(∀a,N a->H a≠none)/\AW K N H c d/\F c=some r/\∀v b,Ak H b->Hc K N H b r v->Q v b
@[simp] def BF:Rv->D
  |.val d=>d
  |.own a b=>.lst a b
@[simp] def Ti:Rv->Option (List D)
  |.own a=>some a
  |_=>none
@[simp] def cY:Rv->Option (List D)
  |.own a true=>some a
  |_=>none
section
variable{X:Cx}{K:Ap}{M:Fb}{H0:Hp}{e:Expr}{es:List Expr}{fa:VE->Option (List Sl)}{F:List Sl->Option Rv}{CX:DS}{k:Nat}{fn:Ad}{fd:A5}{ps:List Af}{x:Af}{p pos:AT}{E:XK}
@[simp] def Zw(F:List Sl->Option Rv)(fa:VE->Option (List Sl)):VE->Option D:=λa=>(fa a).bind λb=>(F b).map BF
@[simp] def Jc(F:List Sl->Option Rv)(fa:VE->Option (List Sl)):VE->Option (List D):=λa=>(fa a).bind λb=>(F b).bind Ti
theorem cZ{σ:St}{H:Hp}{Q:VK}(h:tD K M H0 (Zw F fa) σ H Q):Og (Bc K F) [] E (CC K M H0 fa) σ H Q:=by
 obtain⟨c,d,R,e,q⟩:=h
 try dsimp only at e q
 unfold Zw at e
 cases f:fa c with
 |none=>rw[f]at e;cases e
 |some g=>
  rw[f]at e
  cases i:F g with
  |none=>simp only[AL,i]at e;cases e
  |some r=>
   simp only[AL,i]at e;cases e
   refine⟨c,g,R,f,λx y j l=>⟨Nf M c σ,g,r,(R.st j).nh,by rw[CG];exact l,i,λv m n k=>q v m (j.trans n) ?_⟩⟩
   cases r with
   |val d=>exact k
   |own A B=>
    obtain⟨a,o,p,s,t,u⟩:=k
    simp only[BF,Aq]
    exact⟨a,o,p,.of (λz=>(R.st j).fresh s z) t,u.nw λb w=>.inl (.inl w)⟩
@[simp] def lW(F:List Sl->Option Rv)(fa:VE->Option (List Sl)):VE->Option (List D):=λa=>(fa a).bind λb=>(F b).bind cY
theorem c0{σ:St}{H:Hp}{Q:VK}(h:tF K M H0 (Jc F fa) σ H Q):Og (Bc K F) [] E (CC K M H0 fa) σ H Q:=by
 obtain⟨b,d,R,e,q⟩:=h
 try dsimp only at e q
 unfold Jc at e
 cases c:fa b with
 |none=>rw[c]at e;cases e
 |some f=>
  rw[c]at e
  cases g:F f with
  |none=>simp only[AL,g]at e;cases e
  |some r=>
   simp only[AL,g]at e
   cases r with
   |val d=>cases e
   |own w j=>
    cases j with
    |true=>cases e
    |false=>
     cases e
     refine⟨b,f,R,c,λx y i k=>⟨Nf M b σ,f,_,(R.st i).nh,by rw[CG];exact k,g,λv l m n=>?_⟩⟩
     obtain⟨a,o,p,s,t,u⟩:=n
     subst p
     exact q a o l (i.trans m) (i.free s) t u
theorem c3(G:Aw X.prog X.w X.K X.mg X.base CX k fn fd ps (Bc K F))(d:AR k X.A)(f:Gl X x)(g:X.mg x=some (.ref fn))(i:HH X.K (.ref fn)=true)(j:Binds X.K fd ps [])(l:E6 CX X E)(a:JA X (e::es) (CC K M H0 fa))(b:(x==("__debug__":Af))=false:=by decide)(m:AO (e::es) X.env=(false,Ar e X.env)::AO es X.env:=by exact Df (λ_ _ z=>nomatch z))(c:(AG pos (AO es X.env)).any (·.1)=false:=by rfl):JE X (.Call (.Name x p) (e::es) [] pos) (tD K M H0 (Zw F fa)):=⟨have a:=a.h;(Sn G d f g i j .nil l a b m c).mono λ_ _ _ h=>cZ h⟩
theorem c5(G:Aw X.prog X.w X.K X.mg X.base CX k fn fd ps (Bc K F))(d:AR k X.A)(f:Gl X x)(g:X.mg x=some (.ref fn))(i:HH X.K (.ref fn)=true)(j:Binds X.K fd ps [])(l:E6 CX X E)(a:JA X (e::es) (CC K M H0 fa))(b:(x==("__debug__":Af))=false:=by decide)(m:AO (e::es) X.env=(false,Ar e X.env)::AO es X.env:=by exact Df (λ_ _ z=>nomatch z))(c:(AG pos (AO es X.env)).any (·.1)=false:=by rfl):JE X (.Call (.Name x p) (e::es) [] pos) (tF K M H0 (Jc F fa)):=⟨have a:=a.h;(Sn G d f g i j .nil l a b m c).mono λ_ _ _ h=>c0 h⟩
end
def DY(K:Ap)(r:List V->Hp->VK->Prop)(F:List D->Option D):Prop:=∀(N:Fb)(H:Hp)(c:List V)(e:List D)(d:D)(Q:VK),(∀a,N a->H a≠none)->Paired (AA K N H) e c->F e=some d ->
 (∀v b,Ak H b->Aq K N b d v->Q v b)->r c H Q
def LW(K:Ap)(r:List V->Hp->VK->Prop)(F:List D->Option (List D)):Prop:=∀(N:Fb)(H:Hp)(b:List V)(c:List D)(d:List D)(Q:VK),(∀a,N a->H a≠none)->Paired (AA K N H) c b->F c=some d ->
 (∀e p,H p=none->Ae K N H d e->Q (.ref p) (AK H p (.lst e)))->r b H Q
@[simp] def CD:List Sl->Option (List D)
  |[]=>some []
  |s::r=>Zb (pk s) (CD r)
theorem LX{K:Ap}{N:Fb}{H:Hp}:∀{a:List Sl}{vs:List V}{b:List D},AW K N H a vs->CD a=some b->Paired (AA K N H) b vs
 |[],_,_,h,e=>by cases e;cases h;exact .nil
 |s::r,_,_,⟨v,t,c,h,d⟩,e=>by
  obtain⟨x,y,f,g,i⟩:=Jb e
  subst c i
  exact .cons (h.p f) (LX d g)
section
variable{X:Cx}{K:Ap}{M:Fb}{H0:Hp}{e:Expr}{es:List Expr}{fa:VE->Option (List Sl)}{x:Af}{p pos:AT}{r:List V->Hp->VK->Prop}{F:List D->Option D}{G:List D->Option (List D)}{id:String}
@[simp] def ZJ(F:List D->Option D)(fa:VE->Option (List Sl)):VE->Option D:=λa=>((fa a).bind CD).bind F
@[simp] def Ep(F:List D->Option (List D))(fa:VE->Option (List Sl)):VE->Option (List D):=λa=>((fa a).bind CD).bind F
theorem Tj(i:DY K r F){σ:St}{H:Hp}{Q:VK}(h:tD K M H0 (ZJ F fa) σ H Q):LL r (CC K M H0 fa) σ H Q:=by
 obtain⟨a,d,R,e,q⟩:=h
 try dsimp only at e q
 unfold ZJ at e
 cases b:fa a with
 |none=>rw[b]at e;cases e
 |some f=>
  rw[b]at e
  cases c:CD f with
  |none=>simp only[AL,c]at e;cases e
  |some j=>
   simp only[AL,c]at e
   exact⟨a,f,R,b,λk l g m=>i (Nf M a σ) l k j d Q (R.st g).nh (LX m c) e λv n s o=>q v n (g.trans s) o⟩
theorem c6(i:LW K r G){σ:St}{H:Hp}{Q:VK}(h:tF K M H0 (Ep G fa) σ H Q):LL r (CC K M H0 fa) σ H Q:=by
 obtain⟨b,d,R,e,q⟩:=h
 try dsimp only at e q
 unfold Ep at e
 cases c:fa b with
 |none=>rw[c]at e;cases e
 |some f=>
  rw[c]at e
  cases a:CD f with
  |none=>simp only[AL,a]at e;cases e
  |some j=>
   simp only[AL,a]at e
   exact⟨b,f,R,c,λk l g m=>i (Nf M b σ) l k j d Q (R.st g).nh (LX m a) e λo p a n=>Km g a n q⟩
theorem Zu(d:A8 X (.builtin id) r)(f:DY K r F)(g:Gl X x)(i:X.mg x=none)(j:Eg x=some (.builtin id))(a:JA X (e::es) (CC K M H0 fa))(k:x≠"__name__":=by decide)(b:(x==("__debug__":Af))=false:=by decide)(l:AO (e::es) X.env=(false,Ar e X.env)::AO es X.env:=by exact Df (λ_ _ z=>nomatch z))(c:(AG pos (AO es X.env)).any (·.1)=false:=by rfl):JE X (.Call (.Name x p) (e::es) [] pos) (tD K M H0 (ZJ F fa)):=⟨have a:=a.h;(Sw d g i j a k b l c).mono λ_ _ _ h=>Tj f h⟩
theorem Gu(d:A8 X (.type id) r)(f:DY K r F)(g:Gl X x)(i:X.mg x=none)(j:Eg x=some (.type id))(a:JA X (e::es) (CC K M H0 fa))(k:x≠"__name__":=by decide)(b:(x==("__debug__":Af))=false:=by decide)(l:AO (e::es) X.env=(false,Ar e X.env)::AO es X.env:=by exact Df (λ_ _ z=>nomatch z))(c:(AG pos (AO es X.env)).any (·.1)=false:=by rfl):JE X (.Call (.Name x p) (e::es) [] pos) (tD K M H0 (ZJ F fa)):=⟨have a:=a.h;(Sx d g i j a k b l c).mono λ_ _ _ h=>Tj f h⟩
theorem Hd(d:A8 X (.type id) r)(f:LW K r G)(g:Gl X x)(i:X.mg x=none)(j:Eg x=some (.type id))(a:JA X (e::es) (CC K M H0 fa))(k:x≠"__name__":=by decide)(b:(x==("__debug__":Af))=false:=by decide)(l:AO (e::es) X.env=(false,Ar e X.env)::AO es X.env:=by exact Df (λ_ _ z=>nomatch z))(c:(AG pos (AO es X.env)).any (·.1)=false:=by rfl):JE X (.Call (.Name x p) (e::es) [] pos) (tF K M H0 (Ep G fa)):=⟨have a:=a.h;(Sx d g i j a k b l c).mono λ_ _ _ h=>c6 f h⟩
theorem DY.or{r c:List V->Hp->VK->Prop}{F f:List D->Option D}(h:DY K r F)(h':DY K c f):DY K (λxs H Q=>r xs H Q\/c xs H Q) (λa=>I0 (F a) (f a)):=by
 intro N H g a d Q i j e q
 cases b:F a with
 |some z=>simp only[b,I0]at e;cases e;exact .inl (h N H g a d Q i j b q)
 |none=>simp only[b,I0]at e;exact .inr (h' N H g a d Q i j e q)
end
inductive An where
 |fail|next(ρ:VE)|brk (ρ:VE)|cont (ρ:VE)|ret (r:Rv)
def Gv(K:Ap)(M:Fb)(d:Hp)(ρ:VE)(σ:St)(H:Hp)(b:VE)(Q:St->Hp->Prop):Prop:=∀a c,A3 K M d b a c->Step M (Nf M ρ σ) (Nf M b a) H c->Q a c
def BG(K:Ap)(M:Fb)(b:Hp)(ρ:VE)(σ:St)(H:Hp)(D:EZ):An->Prop
 |.fail=>False
 |.next a=>Gv K M b ρ σ H a D.nx
 |.brk a=>Gv K M b ρ σ H a D.bk
 |.cont a=>Gv K M b ρ σ H a D.ct
 |.ret r=>∀v c,Ak b c->Hc K M b c r v->D.rt v c
def tS(K:Ap)(M:Fb)(b:Hp)(g:VE->An):TS:=λD c H=>∃a,A3 K M b a c H/\BG K M b a c H D (g a)
@[simp] def Zg(a:An)(g:VE->An):An:=match a with
  |.next b=>g b
  |r=>r
theorem Gv.from{K:Ap}{M:Fb}{e:Hp}{ρ a b:VE}{σ c:St}{H f:Hp}{Q:St->Hp->Prop}(s:Step M (Nf M ρ σ) (Nf M a c) H f)(h:Gv K M e ρ σ H b Q):Gv K M e a c f b Q:=
 λd g R i=>h d g R (s.trans i)
theorem BG.from{K:Ap}{M:Fb}{d:Hp}{ρ a:VE}{σ b:St}{H e:Hp}{D:EZ}{r:An}(s:Step M (Nf M ρ σ) (Nf M a b) H e)(h:BG K M d ρ σ H D r):BG K M d a b e D r:=by
 cases r with
 |fail=>exact h
 |next c=>exact Gv.from s h
 |brk c=>exact Gv.from s h
 |cont c=>exact Gv.from s h
 |ret r=>exact h
section
variable{X:Cx}{K:Ap}{M:Fb}{H0:Hp}{st:As}{Ay:List As}{g g1 g2:VE->An}{pos:AT}{e:Expr}{f:VE->Option D}
theorem Zf :JB X [] (tS K M H0 λρ=>.next ρ):=⟨Do.mono λD a H ⟨ρ,R,q⟩=>q a H R Step.refl⟩
theorem Zc(c:JS X st (tS K M H0 g1))(d:JB X Ay (tS K M H0 g2)):JB X (st::Ay) (tS K M H0 λρ=>Zg (g1 ρ) g2):=⟨have c:=c.h;have d:=d.h;(J8 c d).mono λD i H ⟨ρ,R,q⟩=>by
 try dsimp only at q
 refine⟨ρ,R,?_⟩
 cases b:g1 ρ with
 |fail=>rw[b]at q;exact q
 |next a=>rw[b]at q;exact λe j f g=>⟨a,f,q.from g⟩
 |brk a=>rw[b]at q;exact q
 |cont a=>rw[b]at q;exact q
 |ret r=>rw[b]at q;exact q⟩
@[simp] def ZA(o:Option D):An:=match o with
  |some d=>.ret (.val d)
  |none=>.fail
theorem Zp(h:JE X e (tD K M H0 f)):JS X (.Return (some e) pos) (tS K M H0 λρ=>ZA (f ρ)):=⟨have h:=h.h;(LB h).mono λD j H ⟨ρ,R,q⟩=>by
 try dsimp only at q
 cases b:f ρ with
 |none=>rw[b]at q;exact Bd q
 |some d=>
  rw[b]at q
  exact⟨ρ,d,R,b,λv c s g=>q v c (R.same.trans s) (g.nw λa i=>.inl (.inl i))⟩⟩
@[simp] def CU(o:Option (List D)):An:=match o with
  |some a=>.ret (.own a)
  |none=>.fail
@[simp] def Kn(o:Option (List D)):An:=match o with
  |some a=>.ret (.own a true)
  |none=>.fail
theorem Tk{f:VE->Option (List D)}(h:JE X e (IW true K M H0 f)):JS X (.Return (some e) pos) (tS K M H0 λρ=>Kn (f ρ)):=⟨have h:=h.h;(LB h).mono λD n H ⟨ρ,R,q⟩=>by
 try dsimp only at q
 cases d:f ρ with
 |none=>rw[d]at q;exact Bd q
 |some g=>
  rw[d]at q
  exact⟨ρ,g,R,d,λa i j s k l m=>q (.ref a) j (R.same.trans s) ⟨a,i,rfl,R.same.free k,l,m.nw λb c=>by
   rcases c with c|c
   ·exact .inl (.inl (.inl c))
   ·exact .inl (.inr c)⟩⟩⟩
theorem He{f:VE->Option (List D)}(h:JE X e (tF K M H0 f)):JS X (.Return (some e) pos) (tS K M H0 λρ=>CU (f ρ)):=⟨have h:=h.h;(LB h).mono λD n H ⟨ρ,R,q⟩=>by
 try dsimp only at q
 cases d:f ρ with
 |none=>rw[d]at q;exact Bd q
 |some g=>
  rw[d]at q
  exact⟨ρ,g,R,d,λa i j s k l m=>q (.ref a) j (R.same.trans s) ⟨a,i,rfl,R.same.free k,l,m.nw λb c=>by
   rcases c with c|c
   ·exact .inl (.inl (.inl c))
   ·exact .inl (.inr c)⟩⟩⟩
@[simp] def C7(ρ:VE)(i:Nat):Option (List D):=match ρ[i]? with
  |some (.own a)=>some a
  |_=>none
theorem LY{ρ:VE}{i:Nat}{xs:List D}(h:C7 ρ i=some xs):ρ[i]?=some (.own xs):=by
 unfold C7 at h
 split at h
 ·cases h;assumption
 ·cases h
@[simp] def Jd(ρ:VE)(i:Nat):Option (List D):=match ρ[i]? with
  |some (.own a true)=>some a
  |_=>none
theorem Tl{ρ:VE}{i:Nat}{xs:List D}(h:Jd ρ i=some xs):ρ[i]?=some (.own xs true):=by
 unfold Jd at h
 split at h
 ·cases h;assumption
 ·cases h
theorem AN{σ:St}{i:Nat}{v:V}(a:σ[i]?.join=some v):σ[i]?=some (some v):=by
 cases z:σ[i]? with
 |none=>rw[z]at a;cases a
 |some o=>rw[z]at a;cases a;rfl
theorem c7{i:Nat}{x:Af}{c:AT}(h:X.N[i]?=some x)(j:C0 X.env.scope x)(hd:(x==("__debug__":Af))=false:=by decide)(f:(x==("__classdict__":Af))=false:=by decide):
  PS X (.Return (some (.Name x c)) pos) (tS K M H0 λρ=>CU (C7 ρ i)):=(LB (Ex h j hd f)).mono λD p H ⟨ρ,R,q⟩=>by
 try dsimp only at q
 cases e:C7 ρ i with
 |none=>rw[e]at q;exact Bd q
 |some k=>
  rw[e]at q
  obtain⟨a,l,g,m,r,n,o⟩:=R.slot i _ (LY e)
  refine⟨.ref a,AN g,q (.ref a) H R.same ⟨a,l,rfl,m,n,o.nw λb d=>.inl ?_⟩⟩
  rcases d with d|d
  ·exact .inl d
  ·subst d;exact .inr ⟨i,k,_,LY e,AN g⟩
@[simp] def ZE(c:Option Bool)(a b:An):An:=match c with
  |some true=>a
  |some false=>b
  |none=>.fail
theorem ZI{c:Expr}{a b:List As}{t:VE->Option Bool}(d:JT X c (Bx K M H0 t))(e:JB X a (tS K M H0 g1))(f:JB X b (tS K M H0 g2)):JS X (.If c a b pos) (tS K M H0 λρ=>ZE (t ρ) (g1 ρ) (g2 ρ)):=⟨have d:=d.h;have e:=e.h;have f:=f.h;(NW d e f).mono λD i H ⟨ρ,R,q⟩=>by
 try dsimp only at q
 cases g:t ρ with
 |none=>rw[g]at q;exact Bd q
 |some k=>
  rw[g]at q
  refine⟨ρ,k,R,g,λj s=>?_⟩
  cases k with
  |true=>refine FR ?_;exact⟨ρ,R.st s,BG.from (Step.of_same s) q⟩
  |false=>refine FS ?_;exact⟨ρ,R.st s,BG.from (Step.of_same s) q⟩⟩
theorem ON{M N a:Fb}{H H':Hp}(S:Step M N a H H'):∀{c:List (List D)}{bs:List Ad},(∀b∈bs,M b)->Paired (λz b=>∃vs,Rd H b (.lst vs)/\Ae K N H z vs) c bs->Paired (λz b=>∃vs,Rd H' b (.lst vs)/\Ae K a H' z vs) c bs
 |_,_,_,.nil=>.nil
 |_,_,d,.cons ⟨vs,e,f⟩ t=>.cons ⟨vs,e.step S (.inr (.inl (d _ (by simp)))),Ae.step S _ _ f⟩ (ON S (λb g=>d b (by simp[g])) t)
theorem Hf{b:Type}{l:List b}{i:Nat}{x y:b}(h:(l.set i x)[i]?=some y):i<l.length/\x=y:=by
 by_cases a:i<l.length
 ·rw[Cv a]at h;exact⟨a,Ew h⟩
 ·rw[List.getElem?_eq_none (by simpa using Nat.le_of_not_lt a)]at h;cases h
theorem Je{M:Fb}{ρ:VE}{σ:St}{i:Nat}{s:Sl}{v:V}{b:Ad}(d:ρ.length=σ.length)(h:Nf M (ρ.set i s) (σ.set i (some v)) b):Nf M ρ σ b\/∃xs fl,s=.own xs fl/\v=.ref b:=by
 rcases h with h|⟨j,xs,fl,a,c⟩
 ·exact .inl (.inl h)
 ·by_cases e:i=j
  ·subst e
   have q1:=(Hf a).2
   have q2:=(Hf c).2
   cases q1;cases q2;exact .inr ⟨xs,fl,rfl,rfl⟩
  ·rw[Ch e]at a c
   exact .inl (.inr ⟨j,xs,fl,a,c⟩)
theorem A3.put{ρ:VE}{σ:St}{H H':Hp}{i:Nat}{s:Sl}{v:V}(R:A3 K M H0 ρ σ H)(S:Step M (Nf M ρ σ) (Nf M (ρ.set i s) (σ.set i (some v))) H H')(sm:Ak H0 H')
  (A:∀j a vs xs fl,j≠i->ρ[j]?=some (.own xs fl)->σ[j]?=some (some (.ref a))->H a=some (CO fl xs vs)->H' a=some (CO fl xs vs))
  (B:i<ρ.length->OI K M (Nf M (ρ.set i s) (σ.set i (some v))) H0 H' s (some v))
  (p:∀xs fl a j ys g,s=.own xs fl->v=.ref a->j≠i->ρ[j]?=some (.own ys g)->σ[j]?≠some (some (.ref a))):A3 K M H0 (ρ.set i s) (σ.set i (some v)) H' where
 len:=by rw[HL,HL];exact R.len
 same:=sm
 mh:=λa h z=>by
  cases e:H a with
  |none=>exact R.mh a h e
  |some o=>rw[S.kp a o e (.inr (.inl h))]at z;cases z
 slot:=λj x e=>by
  by_cases r:i=j
  ·subst r
   obtain⟨y,e⟩:=Hf e
   subst e
   rw[Cv (by rw[<- R.len];exact y)]
   exact B y
  ·rw[Ch r]at e ⊢
   have q:=R.slot j x e
   cases x with
   |no=>trivial
   |val d=>obtain⟨u,m,h⟩:=q;exact⟨u,m,Aq.step S d u h⟩
   |own xs fl=>obtain⟨a,vs,m,b,f,l,n⟩:=q;exact⟨a,vs,m,b,f,A j a vs xs fl (BX r) e (AN m) l,Ae.step S xs vs n⟩
   |lent xs fl=>obtain⟨a,vs,m,b,f,l⟩:=q;exact⟨a,vs,m,b,f.step S (.inr (.inl b.1)),Ae.step S xs vs l⟩
   |exc c=>obtain⟨a,C,m,b,f⟩:=q;exact⟨a,C,m,b,S.kp _ _ f (.inr (.inr rfl))⟩
   |pin a=>exact q
   |deep G I=>obtain⟨a,bs,m,E,b,f,l,n⟩:=q;exact⟨a,bs,m,E,b,f.step S (.inr (.inl b)),l,ON S l n⟩
 inj:=λj k xs ys fl g a b f l n=>by
  by_cases w:i=j
  ·by_cases t:i=k
   ·rw[<- w,t]
   ·subst w
    rw[Ch t]at f n
    have q1:=(Hf b).2
    have q3:=(Hf l).2
    cases q1;cases q3;exact absurd n (p xs fl a k ys g rfl rfl (BX t) f)
  ·rw[Ch w]at b l
   by_cases t:i=k
   ·subst t
    have q2:=(Hf f).2
    have q4:=(Hf n).2
    cases q2;cases q4;exact absurd l (p ys g a j xs fl rfl rfl (BX w) b)
   ·rw[Ch t]at f n
    exact R.inj j k xs ys fl g a b f l n
theorem A3.setV{ρ:VE}{σ:St}{H H':Hp}{i:Nat}{d:D}{v:V}(R:A3 K M H0 ρ σ H)(s:Ak H H')(h:Aq K (Nf M ρ σ) H' d v):
  A3 K M H0 (ρ.set i (.val d)) (σ.set i (some v)) H'/\Step M (Nf M ρ σ) (Nf M (ρ.set i (.val d)) (σ.set i (some v))) H H':=by
 have S:Step M (Nf M ρ σ) (Nf M (ρ.set i (.val d)) (σ.set i (some v))) H H':=⟨λa o e _=>s a o e,λb c=>by
  rcases Je R.len c with q|⟨f,_,e,_⟩
  ·exact .inl q
  ·cases e⟩
 refine⟨R.put S (R.same.trans s) (λj a l f g _ _ _ e=>s _ _ e) (λ_=>⟨v,rfl,h.nw λb c=>?_⟩) (λf g a j m k e=>nomatch e),S⟩
 rcases Je R.len c with q|⟨f,_,e,_⟩
 ·exact .inl q
 ·cases e
theorem A3.setO{fl:Bool}{ρ:VE}{σ:St}{H H':Hp}{i:Nat}{xs:List D}{a:Ad}{vs:List V}(R:A3 K M H0 ρ σ H)(s:Ak H H')(d:H a=none)(k:H' a=some (CO fl xs vs))(h:Ae K (λb=>Nf M ρ σ b\/b=a) H' xs vs):
  A3 K M H0 (ρ.set i (.own xs fl)) (σ.set i (some (.ref a))) H'/\Step M (Nf M ρ σ) (Nf M (ρ.set i (.own xs fl)) (σ.set i (some (.ref a)))) H H':=by
 have nf:∀b,Nf M (ρ.set i (.own xs fl)) (σ.set i (some (.ref a))) b->Nf M ρ σ b\/b=a:=λb c=>by
  rcases Je R.len c with q|⟨xs,fl,e,f⟩
  ·exact .inl q
  ·cases f;exact .inr rfl
 have S:Step M (Nf M ρ σ) (Nf M (ρ.set i (.own xs fl)) (σ.set i (some (.ref a)))) H H':=⟨λa o e _=>s a o e,λb c=>by
  rcases nf b c with q|q
  ·exact .inl q
  ·subst q;exact .inr d⟩
 refine⟨R.put S (R.same.trans s) (λj a vs xs fl _ _ _ e=>s _ _ e) (λ_=>⟨a,vs,rfl,R.same.free d,λl=>R.fresh d (.inl l),k,h.nw λb c=>.inl (nf b c)⟩) (λm n u j p g e f v r t=>?_),S⟩
 cases f
 exact R.fresh d (.inr ⟨j,p,g,r,t⟩)
theorem A3.chg{fl fl2:Bool}{ρ:VE}{σ:St}{H:Hp}{i:Nat}{xs ys:List D}{a:Ad}{ws:List V}(R:A3 K M H0 ρ σ H)(k:ρ[i]?=some (.own xs fl))(d:σ[i]?=some (some (.ref a)))(h:Ae K (Nf M ρ σ) H ys ws):
  A3 K M H0 (ρ.set i (.own ys fl2)) σ (AK H a (CO fl2 ys ws))/\Step M (Nf M ρ σ) (Nf M (ρ.set i (.own ys fl2)) σ) H (AK H a (CO fl2 ys ws)):=by
 obtain⟨y,G,u,v,w,A,I⟩:=R.slot i _ k
 rw[d]at u
 have B:a=y:=by simpa using u
 subst B
 have l:σ.set i (some (.ref a))=σ:=by
  apply HS
  intro j
  by_cases e:i=j
  ·subst e
   rw[Cv (List.getElem?_eq_some_iff.mp d).1,d]
  ·rw[Ch e]
 have x:Nf M ρ σ a:=.inr ⟨i,xs,fl,k,d⟩
 have nf:∀b,Nf M (ρ.set i (.own ys fl2)) (σ.set i (some (.ref a))) b->Nf M ρ σ b:=λb m=>by
  rcases Je R.len m with q|⟨xs,_,e,n⟩
  ·exact q
  ·cases n;exact x
 have S:Step M (Nf M ρ σ) (Nf M (ρ.set i (.own ys fl2)) (σ.set i (some (.ref a)))) H (AK H a (CO fl2 ys ws)):=⟨λb o e z=>by
   have ne:b≠a:=by
    rintro rfl
    rcases z with z|z|z
    ·exact z x
    ·exact w z
    ·rw[A]at e;cases e;rw[cJ]at z;cases z
   rw[Zq ne];exact e,λb m=>.inl (nf b m)⟩
 have f:A3 K M H0 (ρ.set i (.own ys fl2)) (σ.set i (some (.ref a))) (AK H a (CO fl2 ys ws)):=by
  refine R.put S (λb o e=>?_) (λj b J g c p r s C=>?_) (λ_=>⟨a,ws,rfl,v,w,ZP,Ae.step S ys ws h⟩) (λg E b j t c e n p r s=>?_)
  ·have ne:b≠a:=by
    rintro rfl
    rw[v]at e;cases e
   rw[Zq ne];exact R.same b o e
  ·have ne:b≠a:=by
    rintro rfl
    exact p (R.inj j i g xs c fl b r k s d)
   rw[Zq ne];exact C
  ·cases n
   exact p (R.inj j i t xs c fl _ r k s d)
 rw[l]at f S
 exact⟨f,S⟩
theorem A3.frz{fl:Bool}{ρ:VE}{σ:St}{H:Hp}{i:Nat}{xs:List D}(R:A3 K M H0 ρ σ H)(m:ρ[i]?=some (.own xs fl)):
  A3 K M H0 (ρ.set i (.val (.lst xs fl))) σ H/\Step M (Nf M ρ σ) (Nf M (ρ.set i (.val (.lst xs fl))) σ) H H:=by
 obtain⟨a,n,p,y,r,s,t⟩:=R.slot i _ m
 have d:=AN p
 have f:σ.set i (some (.ref a))=σ:=by
  apply HS
  intro j
  by_cases e:i=j
  ·subst e
   rw[Cv (List.getElem?_eq_some_iff.mp d).1,d]
  ·rw[Ch e]
 have nf:∀b,Nf M (ρ.set i (.val (.lst xs fl))) (σ.set i (some (.ref a))) b->Nf M ρ σ b:=λb g=>by
  rcases Je R.len g with q|⟨xs,_,e,z⟩
  ·exact q
  ·cases e
 have k:¬ Nf M (ρ.set i (.val (.lst xs fl))) (σ.set i (some (.ref a))) a:=by
  rintro(h|⟨j,u,v,l,o⟩)
  ·exact r h
  ·by_cases e:i=j
   ·subst e
    have q1:=(Hf l).2
    cases q1
   ·rw[Ch e]at l o
    exact e (R.inj i j xs u _ _ a m l d o)
 have S:Step M (Nf M ρ σ) (Nf M (ρ.set i (.val (.lst xs fl))) (σ.set i (some (.ref a)))) H H:=⟨λ_ _ e _=>e,λb g=>.inl (nf b g)⟩
 have c:A3 K M H0 (ρ.set i (.val (.lst xs fl))) (σ.set i (some (.ref a))) H:=by
  refine R.put S R.same (λ_ _ _ _ _ _ _ _ h=>h) (λ_=>⟨.ref a,rfl,?_⟩) (λw _ b j x _ e=>nomatch e)
  simp only[Aq]
  exact⟨a,n,rfl,.of k s,Ae.step S xs n t⟩
 rw[f]at c S
 exact⟨c,S⟩
@[simp] def ZM(i:Nat)(o:Option D)(ρ:VE):An:=match o with
  |some d=>.next (ρ.set i (.val d))
  |none=>.fail
@[simp] def DZ(i:Nat)(o:Option (List D))(ρ:VE):An:=match o with
  |some a=>.next (ρ.set i (.own a))
  |none=>.fail
@[simp] def Hg(i:Nat)(o:Option (List D))(ρ:VE):An:=match o with
  |some a=>.next (ρ.set i (.own a true))
  |none=>.fail
theorem c9{f:VE->Option (List D)}{i:Nat}{c:EZ}{σ:St}{H:Hp}(h:tS K M H0 (λρ=>Hg i (f ρ) ρ) c σ H):HD (IW true K M H0 f) (G3 i) c σ H:=by
 obtain⟨ρ,R,q⟩:=h
 try dsimp only at q
 cases b:f ρ with
 |none=>simp only[b,Hg]at q;exact Bd q
 |some d=>
  simp only[b,Hg]at q
  refine⟨ρ,d,R,b,λa l m s e g j=>?_⟩
  obtain⟨k,S1⟩:=R.setO (i:=i) s e g j
  exact q _ _ k S1
theorem OO{f:VE->Option (List D)}{i:Nat}{x:Af}{a:AT}(c:X.N.Nodup)(d:X.N[i]?=some x)(g:Loc X.env.scope x)(b:JE X e (IW true K M H0 f))(j:Dp e (some (.Name x a)) pos.line X.env=AB false:=by rfl)(k:X.fn x=true\/X.env.scope.names.lookup x=some .local:=by first|exact .inl rfl|exact .inr rfl|assumption):JS X (.Assign [.Name x a] e pos) (tS K M H0 λρ=>Hg i (f ρ) ρ):=⟨have b:=b.h;(NZ c d g b j k).mono λ_ _ _ q=>c9 q⟩
theorem Tn{i:Nat}{b:EZ}{σ:St}{H:Hp}(h:tS K M H0 (λρ=>ZM i (f ρ) ρ) b σ H):HD (tD K M H0 f) (G3 i) b σ H:=by
 obtain⟨ρ,R,q⟩:=h
 try dsimp only at q
 cases a:f ρ with
 |none=>simp only[a,ZM]at q;exact Bd q
 |some d=>
  simp only[a,ZM]at q
  refine⟨ρ,d,R,a,λv g s c=>?_⟩
  obtain⟨e,S1⟩:=R.setV (i:=i) s c
  exact q _ _ e S1
theorem To{f:VE->Option (List D)}{i:Nat}{c:EZ}{σ:St}{H:Hp}(h:tS K M H0 (λρ=>DZ i (f ρ) ρ) c σ H):HD (tF K M H0 f) (G3 i) c σ H:=by
 obtain⟨ρ,R,q⟩:=h
 try dsimp only at q
 cases b:f ρ with
 |none=>simp only[b,DZ]at q;exact Bd q
 |some d=>
  simp only[b,DZ]at q
  refine⟨ρ,d,R,b,λa l m s e g j=>?_⟩
  obtain⟨k,S1⟩:=R.setO (i:=i) s e g j
  exact q _ _ k S1
theorem db{i:Nat}{x:Af}{a:AT}(c:X.N.Nodup)(d:X.N[i]?=some x)(g:Loc X.env.scope x)(b:JE X e (tD K M H0 f))(j:Dp e (some (.Name x a)) pos.line X.env=AB false:=by rfl)(k:X.fn x=true\/X.env.scope.names.lookup x=some .local:=by first|exact .inl rfl|exact .inr rfl|assumption):JS X (.Assign [.Name x a] e pos) (tS K M H0 λρ=>ZM i (f ρ) ρ):=⟨have b:=b.h;(NZ c d g b j k).mono λ_ _ _ q=>Tn q⟩
theorem Ko{f:VE->Option (List D)}{i:Nat}{x:Af}{a:AT}(c:X.N.Nodup)(d:X.N[i]?=some x)(g:Loc X.env.scope x)(b:JE X e (tF K M H0 f))(j:Dp e (some (.Name x a)) pos.line X.env=AB false:=by rfl)(k:X.fn x=true\/X.env.scope.names.lookup x=some .local:=by first|exact .inl rfl|exact .inr rfl|assumption):JS X (.Assign [.Name x a] e pos) (tS K M H0 λρ=>DZ i (f ρ) ρ):=⟨have b:=b.h;(NZ c d g b j k).mono λ_ _ _ q=>To q⟩
@[simp] def lX(i:Nat)(ρ:VE):VE:=match ρ[i]? with
  |some (.own a b)=>ρ.set i (.val (.lst a b))
  |_=>ρ
@[simp] def EC(i:Nat)(o:Option D)(ρ:VE):An:=match C7 ρ i,o with
  |some a,some d=>if a.length<Av then .next (ρ.set i (.own (a++[d])))else .fail
  |_,_=>.fail
theorem Kp{i:Nat}{x:Af}{c g b:AT}(C:X.N[i]?=some x)(o:C0 X.env.scope x)(p:JE X e (tD K M H0 f))(hd:(x==("__debug__":Af))=false:=by decide)(r:(x==("__classdict__":Af))=false:=by decide)(E:Dp (.Call (.Attribute (.Name x c) "append" g) [e] [] b) none pos.line X.env=AB false:=by rfl)(j:Gj (.Name x c) "append" X.env (Ar (.Name x c) X.env)=Ar (.Name x c) X.env:=by rfl) (l:((AG b (AO [e] X.env)).all (λx=>!x.1)&&(Fi b (Fj [] X.env)).all (λx=>x.1.isSome)
   && decide ([e].length+([]:List Keyword).length+(if([]:List Keyword).isEmpty then 0 else 1)<30))=true:=by rfl) (k:(g.endLine==b.line)=true:=by rfl) (m:AO [e] X.env=(false,Ar e X.env)::AO [] X.env:=by rfl) (t:(AG b (AO [] X.env)).any (·.1)=false:=by rfl):JS X (.Expr (.Call (.Attribute (.Name x c) "append" g) [e] [] b) pos) (tS K M H0 λρ=>EC i (f ρ) ρ):=⟨have p:=p.h;(NV (Ot Tp PySem.F.slot_list_append PySem.F.type_list_append cj (Ex C o hd r) (E5 p BM m) j l k m t) E).mono λO Q H ⟨ρ,R,q⟩=>by
  try dsimp only at q
  cases n:C7 ρ i with
  |none=>simp only[n,EC]at q;exact Bd q
  |some G=>
   cases u:f ρ with
   |none=>simp only[n,u,EC]at q;exact Bd q
   |some d=>
    simp only[n,u,EC]at q
    split at q
    ·next I=>
     have y:=LY n
     obtain⟨a,w,J,T,U,z,A⟩:=R.slot i _ y
     have B:=AN J
     refine⟨.ref a,B,.inl ⟨rfl,w,.inl (.inl z)⟩,ρ,d,R,u,λv Y s o=>?_⟩
     have L:=R.st s
     obtain⟨R2,S2⟩:=L.chg (ys:=G++[d]) (ws:=w++[v]) y B ((A.same s).append (Ae.cons o Ae.nil))
     exact⟨a,w,v,rfl,rfl,s _ _ z,by rw[<- A.length];exact I,q _ _ R2 ((Step.of_same s).trans S2)⟩
    ·exact Bd q⟩
end
def LZ(K:Ap)(M N:Fb)(e:Hp)(J:It)(c:List D):Prop:=∀N2 a,Step M N N2 e a->∀i,(∀d,c[i]?=some d->J.go i a/\∀x b,J.yld i a x b->Ak a b/\Aq K N2 b d x)/\(i=c.length->J.stop i a)
def tI(K:Ap)(M:Fb)(e:Hp)(f:VE->Option (List D)):TI:=λc H R=>∃a d,A3 K M e a c H/\f a=some d/\∀J b,Ak H b->LZ K M (Nf M a c) b J d->R J b
def tG(K:Ap)(M:Fb)(g:Hp)(ws:List Nat)(b:D->VE->Option VE):TG:=λv e H Q=>∃f d c,A3 K M g f e H/\Aq K (Nf M f e) H d v/\b d f=some c/\∀a ,A3 K M g c a H->Step M (Nf M f e) (Nf M c a) H H->(∀j,j∉ws->a[j]?=e[j]?)->Q a H
@[simp] def Zm(i:Nat)(d:D)(ρ:VE):Option VE:=some (ρ.set i (.val d))
def Co(b:D->VE->Option VE)(g:VE->An):List D->VE->An
 |[],c=>.next c
 |d::f,c=>match b d c with
  |none=>.fail
  |some e=>match g e with
   |.next a=>Co b g f a
   |.cont a=>Co b g f a
   |.brk a=>.next a
   |r=>r
@[simp] def Er(f:VE->Option (List D))(b:D->VE->Option VE)(g:VE->An):VE->An:=λa=>match f a with
  |some c=>Co b g c a
  |none=>.fail
section
variable{X:Cx}{K:Ap}{M:Fb}{H0:Hp}{pos:AT}{e tg iter:Expr}{f:VE->Option (List D)}{b:D->VE->Option VE}{g:VE->An}{body:List As}
theorem de{i:Nat}{x:Af}(b:X.N.Nodup)(c:X.N[i]?=some x)(f:Loc X.env.scope x)(g:X.fn x=true\/X.env.scope.names.lookup x=some .local:=by first|exact .inl rfl|exact .inr rfl|assumption):JG X (.Name x pos) (tG K M H0 [i] (Zm i)):=⟨by
 intro a s h H v u Q I r ⟨n,d,k,R,hd,e,q⟩
 cases e
 obtain⟨l,S1⟩:=R.setV (i:=i) (Ak.refl H) hd
 exact ai b c f g a s h H v u Q I r (q _ l S1 λj m=>by rw[Ch (λe=>m (by rw[e];simp))])⟩
theorem df{ws:List Nat}{E:EZ}{σ:St}{H:Hp}{U:TI}{B:TG}{Y:TS}(hi:∀σ H R,tI K M H0 f σ H R->U σ H R)(hg:∀v σ H Q,tG K M H0 ws b v σ H Q->B v σ H Q)(hb:∀D σ H,tS K M H0 g D σ H->Y D σ H)
  (h:tS K M H0 (Er f b g) E σ H):R5 U B Y E σ H:=by
 obtain⟨C,R,q⟩:=h
 try dsimp only at q
 unfold Er at q
 cases G:f C with
 |none=>rw[G]at q;exact Bd q
 |some d=>
  rw[G]at q
  refine hi _ _ _ ⟨C,d,R,G,λJ H1 s1 ok=>?_⟩
  refine⟨λi m j A=>m=d.length-i/\i<=d.length/\∃a,A3 K M H0 a j A/\Step M (Nf M C σ) (Nf M a j) H1 A/\BG K M H0 a j A E (Co b g (d.drop i) a),⟨d.length,by simp,Dq _,C,R.st s1,Step.refl,?_⟩,?_⟩
  ·exact BG.from (Step.of_same s1) q
  ·rintro i m j A ⟨rfl,hle,a,Ri,I,c⟩
   obtain⟨L,N⟩:=ok _ _ I i
   by_cases n:i<d.length
   ·obtain⟨go,y⟩:=L d[i] (DG n)
    rw[LQ n]at c
    simp only[Co]at c
    refine .inr ⟨go,λo t=>i+1<=d.length/\∃a,A3 K M H0 a o t/\Step M (Nf M C σ) (Nf M a o) H1 t/\BG K M H0 a o t E (Co b g (d.drop (i+1)) a),λo t z=>⟨d.length-(i+1),by omega,rfl,z⟩,λx t yl=>?_⟩
    obtain⟨s3,hd⟩:=y x t yl
    cases u:b d[i] a with
    |none=>rw[u]at c;exact Bd c
    |some p=>
     rw[u]at c
     simp only at c
     refine hg _ _ _ _ ⟨a,d[i],p,Ri.st s3,hd,u,λO R1 S1 _=>hb _ _ _ ⟨p,R1,?_⟩⟩
     have k:Step M (Nf M a j) (Nf M p O) A t:=(Step.of_same s3).trans S1
     cases l:g p with
     |fail=>rw[l]at c;exact c
     |next s=>rw[l]at c;exact λw T R2 S2=>⟨n,s,R2,I.trans (k.trans S2),BG.from (k.trans S2) c⟩
     |cont s=>rw[l]at c;exact λw T R2 S2=>⟨n,s,R2,I.trans (k.trans S2),BG.from (k.trans S2) c⟩
     |brk s=>rw[l]at c;exact λw T R2 S2=>c w T R2 (k.trans S2)
     |ret r=>rw[l]at c;exact c
   ·have e:i=d.length:=by omega
    rw[LP (by omega)]at c
    exact .inl ⟨N e,c j A Ri Step.refl⟩
theorem Hh{ws:List Nat}(e:PassesOwn (Ag X.prog X.w) X.A X.env X.xe)(i:X.calm=true)(a:JI X tg iter (tI K M H0 f))(c:JG X tg (tG K M H0 ws b))(d:JB X body (tS K M H0 g))(j:∀x,E2 iter X.env x=AB x:=by intro _;rfl):JS X (.For tg iter body [] pos) (tS K M H0 (Er f b g)):=⟨have a:=a.h;have c:=c.h;have d:=d.h;(aG e i a c d j).mono λ_ _ _ q=>df (λ_ _ _ z=>z) (λ_ _ _ _ z=>z) (λ_ _ _ z=>z) q⟩
theorem PI.mono{c a:TI}(h:PI X tg iter c)(m:∀σ H R,a σ H R->c σ H R):PI X tg iter a:=λb s σ H R I q=>h b s σ H R I (m σ H R q)
def D0(K:Ap)(M N:Fb)(H:Hp)(d:D)(v:V):Prop:=match d with
 |.lst c=>∃a b,v=.ref a/\(((¬ N a\/M a)/\Rd H a (.lst b))\/KL K a b)/\Ae K N H c b
 |.lst c true=>∃a b,v=.ref a/\(¬ N a\/M a)/\Rd H a (.dct (HQ c) b)/\Ae K N H c b
 |d=>Aq K N H d v
def tQ(K:Ap)(M:Fb)(H0:Hp)(f:VE->Option D):TE:=λc H Q=>∃a d,A3 K M H0 a c H/\f a=some d/\∀v b,Ak H b->D0 K M (Nf M a c) b d v->Q v b
theorem Aq.q{M N:Fb}{H:Hp}{d:D}{v:V}(h:Aq K N H d v):D0 K M N H d v:=by
 cases d with
 |lst g c=>
  simp only[Aq]at h
  obtain⟨a,b,e,q,r⟩:=h
  cases c with
  |false=>
   refine⟨a,b,e,?_,r⟩
   rcases q with⟨n,q⟩|⟨f,z,q⟩
   ·exact .inl ⟨.inl n,q⟩
   ·cases z;exact .inr q
  |true=>
   rcases q with⟨n,q⟩|⟨f,z,_⟩
   ·exact⟨a,b,e,.inl n,q,r⟩
   ·cases z
 |_=>exact h
theorem PE.q{f:VE->Option D}(h:PE X e (tD K M H0 f)):PE X e (tQ K M H0 f):=h.mono λc H Q ⟨a,d,R,e,q⟩=>⟨a,d,R,e,λv b s z=>q v b s z.q⟩
theorem OP{f:VE->Option D}(h:JE X e (tD K M H0 f)):JE X e (tQ K M H0 f):=⟨PE.q h.h⟩
theorem dg{M N:Fb}{H:Hp}{xs:List D}{vs:List V}{fl:Bool}{a:Ad}(m:M a)(h:Rd H a (CO fl xs vs))(r:Ae K N H xs vs):D0 K M N H (.lst xs fl) (.ref a):=by
 cases fl with
 |false=>exact⟨a,vs,rfl,.inl ⟨.inr m,h⟩,r⟩
 |true=>exact⟨a,vs,rfl,.inr m,h,r⟩
@[simp] def BN(ρ:VE)(i:Nat):Option D:=match ρ[i]? with
  |some (.val d)=>some d
  |some (.lent a b)=>some (.lst a b)
  |_=>none
theorem dh{i:Nat}{x:Af}(f:X.N[i]?=some x)(g:C0 X.env.scope x)(hd:(x==("__debug__":Af))=false:=by decide)(b:(x==("__classdict__":Af))=false:=by decide):PE X (.Name x pos) (tQ K M H0 λρ=>BN ρ i):=
 (Ex f g hd b).mono λm H Q ⟨ρ,d,R,e,q⟩=>by
  try dsimp only at e q
  unfold BN at e
  split at e
  ·next h=>cases e;obtain⟨v,c,h⟩:=R.slot i _ h;exact⟨v,AN c,q v H (Ak.refl H) h.q⟩
  ·next h=>cases e;obtain⟨a,n,c,j,k,l⟩:=R.slot i _ h;exact⟨_,AN c,q _ H (Ak.refl H) (dg j.1 k l)⟩
  ·cases e
def Tq:D->Option (List D)
 |.lst a=>some a
 |_=>none
def dj:D->Option (List D)
 |.tup a=>some a
 |_=>none
def dm:D->Option (List D)
 |.str x=>some (x.cps.toList.map λc=>D.str ⟨#[c]⟩)
 |_=>none
theorem dn{l:Expr}{f:VE->Option D}(h:PE X l (tQ X.K M H0 f)):PI X tg l (tI X.K M H0 λρ=>(f ρ).bind Tq):=(ay h).mono λt H I ⟨ρ,J,R,e,q⟩=>by
 try dsimp only at e q
 cases k:f ρ with
 |none=>rw[k]at e;cases e
 |some d=>
  rw[k]at e
  cases d with
  |lst L u=>
   cases u with
   |true=>cases e
   |false=>
   cases e
   refine⟨ρ,.lst _,R,k,λv p A B=>?_⟩
   obtain⟨a,c,C,g,hd⟩:=B
   have r:∀N2 j,Step M (Nf M ρ t) N2 p j->Bn X.K j a c:=λN2 j S=>by
    rcases g with⟨E,g⟩|g
    ·exact .inl (g.step S (by rcases E with z|z;exact .inl z;exact .inr (.inl z)))
    ·exact g.sq
   refine⟨a,C,⟨c,r _ _ Step.refl⟩,q _ p A λN2 j S i=>?_⟩
   have b:=r _ _ S
   have m:=Ae.step S _ _ hd
   refine⟨λd n=>?_,λn=>⟨c,b,by rw[n,hd.length];exact Bf _⟩⟩
   obtain⟨w,s,o⟩:=m.get n
   refine⟨⟨c,w,b,s⟩,λx N y=>?_⟩
   obtain⟨G,y⟩:=y
   subst G
   have:=y c b
   rw[s]at this;cases this
   exact⟨Ak.refl _,o⟩
  |_=>cases e
theorem dq{l:Expr}{f:VE->Option D}(h:PE X l (tQ X.K M H0 f)):PI X tg l (tI X.K M H0 λρ=>(f ρ).bind dj):=(az h).mono λz H A ⟨ρ,B,R,e,q⟩=>by
 try dsimp only at e q
 cases g:f ρ with
 |none=>rw[g]at e;cases e
 |some d=>
  rw[g]at e
  cases d with
  |tup C=>
   cases e
   refine⟨ρ,.tup _,R,g,λv r s n=>?_⟩
   simp only[D0,Aq]at n
   obtain⟨a,c,t,o,hd⟩:=n
   refine⟨a,t,⟨c,o⟩,q _ r s λN2 E S i=>?_⟩
   have b:=o.step S
   have j:=Ae.step S _ _ hd
   refine⟨λd k=>?_,λk=>⟨c,b,by rw[k,hd.length];exact Bf _⟩⟩
   obtain⟨w,p,m⟩:=j.get k
   refine⟨⟨c,w,b,p⟩,λx G y=>?_⟩
   obtain⟨u,y⟩:=y
   subst u
   have:=y c b
   rw[p]at this;cases this
   exact⟨Ak.refl _,m⟩
  |_=>cases e
theorem dr{l:Expr}{f:VE->Option D}(h:PE X l (tQ K M H0 f)):PI X tg l (tI K M H0 λρ=>(f ρ).bind dm):=(cz h).mono λr H s ⟨ρ,t,R,e,q⟩=>by
 try dsimp only at e q
 cases j:f ρ with
 |none=>rw[j]at e;cases e
 |some d=>
  rw[j]at e
  cases d with
  |str x=>
   cases e
   refine⟨ρ,.str x,R,j,λv m n k=>?_⟩
   simp only[D0,Aq]at k
   refine⟨x,k,q _ m n λN2 u S i=>⟨λd a=>?_,λa=>?_⟩⟩
   ·rw[D8]at a
    cases g:x.cps.toList[i]? with
    |none=>rw[g]at a;cases a
    |some c=>
     rw[g]at a;cases a
     have o:i<x.cps.size:=by
      have:=(List.getElem?_eq_some_iff.mp g).1
      simpa using this
     refine⟨o,λv w y=>?_⟩
     obtain⟨p,z,b,y⟩:=y
     subst p y
     rw[<- Ov,g]at b;cases b
     exact⟨Ak.refl _,by simp only[Aq]⟩
   ·have:i=x.cps.size:=by simpa using a
    exact Nat.le_of_eq this.symm
  |_=>cases e
def Hi(lo:Int)(n:Nat):List D:=(BL n).map (λ(k:Nat)=>D.int (lo+(k:Int)))
theorem Tr{M N:Fb}{c:Hp}{lo:Int}{n:Nat}:LZ K M N c (Kb lo n) (Hi lo n):=λN2 g S i=>by
 refine⟨λd a=>?_,λa=>?_⟩
 ·have b:i<n:=by
   have:=(List.getElem?_eq_some_iff.mp a).1
   simpa[Hi]using this
  have e:d=D.int (lo+i):=by
   simp only[Hi,D8,List.getElem?_range b,HP,L0]at a
   exact a.symm
  subst e
  refine⟨b,λx h y=>?_⟩
  obtain⟨f,y⟩:=y
  subst f y
  exact⟨Ak.refl _,by simp only[Aq]⟩
 ·have:i=n:=by simpa[Hi]using a
  exact Nat.le_of_eq this.symm
def gd{a:Type}(p:Prop)(o:Option a):Option a:=@ite _ p (Fp p) o none
theorem Kq{a:Type}{p:Prop}{o:Option a}(h:p):gd p o=o:=by unfold gd;exact @if_pos _ (Fp p) h _ _ _
theorem Ts{b:Type}{p:Prop}{o:Option b}{x:b}(h:gd p o=some x):p/\o=some x:=by
 by_cases a:p
 ·rw[Kq a]at h;exact⟨a,h⟩
 ·unfold gd at h
  rw[@if_neg _ (Fp p) a]at h
  cases h
def ED:List D->Option (List D)
 |[.int j]=>gd (-1000000000<=j/\j<1000000000) (some (Hi 0 j.toNat))
 |_=>none
def Kr:List D->Option (List D)
 |[.int i,.int j]=>gd (-1000000000<=i/\i<1000000000 /\ -1000000000<=j/\j<1000000000) (some (Hi i (j-i).toNat))
 |_=>none
theorem HU{a:Expr}{fa:VE->Option (List Sl)}{p:AT}(g:Gl X "range")(i:X.mg "range"=none)(b:JA X [a] (CC K M H0 fa))(k:AO [a] X.env=[(false,Ar a X.env)]:=by rfl):JI X tg (.Call (.Name "range" p) [a] [] pos) (tI K M H0 λρ=>((fa ρ).bind Zs).bind ED):=⟨have b:=b.h;(aE g i b k).mono λw H x ⟨ρ,y,R,e,q⟩=>by
  try dsimp only at e q
  cases c:fa ρ with
  |none=>rw[c]at e;cases e
  |some f=>
   rw[c]at e
   cases d:Zs f with
   |none=>simp only[AL,d]at e;cases e
   |some l=>
    simp only[AL,d]at e
    unfold ED at e
    split at e
    ·next j=>
     obtain⟨z,e⟩:=Ts e
     cases e
     refine⟨ρ,f,R,c,λA m n o=>?_⟩
     have hd:=Kl o d
     simp only[Ae,Aq]at hd
     obtain⟨v,r,s,t,u⟩:=hd
     subst s t u
     exact⟨j,rfl,by omega,by omega,q _ m n Tr⟩
    ·cases e⟩
theorem dt{a b:Expr}{fa:VE->Option (List Sl)}{p:AT}(m:Gl X "range")(n:X.mg "range"=none)(c:JA X [a,b] (CC K M H0 fa))(o:AO [a,b] X.env=[(false,Ar a X.env),(false,Ar b X.env)]:=by rfl)(d:AO [b] X.env=[(false,Ar b X.env)]:=by rfl):JI X tg (.Call (.Name "range" p) [a,b] [] pos) (tI K M H0 λρ=>((fa ρ).bind Zs).bind Kr):=⟨have c:=c.h;(aF m n c o d).mono λB H C ⟨ρ,E,R,e,q⟩=>by
  try dsimp only at e q
  cases f:fa ρ with
  |none=>rw[f]at e;cases e
  |some k=>
   rw[f]at e
   cases g:Zs k with
   |none=>simp only[AL,g]at e;cases e
   |some l=>
    simp only[AL,g]at e
    unfold Kr at e
    split at e
    ·next i j=>
     obtain⟨G,e⟩:=Ts e
     cases e
     refine⟨ρ,k,R,f,λI s t u=>?_⟩
     have hd:=Kl u g
     simp only[Ae,Aq]at hd
     obtain⟨v,r,w,x,J,L,y,z,A⟩:=hd
     subst x z A y w
     exact⟨i,j,rfl,⟨by omega,by omega,by omega,by omega⟩,q _ s t Tr⟩
    ·cases e⟩
end
def L1(K:Ap)(M:Fb)(f:Hp)(ws:List Nat)(b:List D->VE->Option VE):Gg:=λh d H Q=>∃e g c,A3 K M f e d H/\Ae K (Nf M e d) H g h/\b g e=some c/\∀a ,A3 K M f c a H->Step M (Nf M e d) (Nf M c a) H H->(∀j,j∉ws->a[j]?=d[j]?)->Q a H
@[simp] def DH:List D->VE->Option VE
  |[],a=>some a
  |_,_=>none
@[simp] def ZW(b:D->VE->Option VE)(c:List D->VE->Option VE):List D->VE->Option VE
  |d::r,a=>(b d a).bind (c r)
  |_,_=>none
@[simp] def Dr(n:Nat)(b:List D->VE->Option VE):D->VE->Option VE
  |.tup a,c=>if a.length=n then b a c else none
  |_,_=>none
section
variable{X:Cx}{K:Ap}{M:Fb}{H0:Hp}{pos:AT}{e tg iter:Expr}{es:List Expr}{ws ws':List Nat}{b:D->VE->Option VE}{c:List D->VE->Option VE}
theorem Gw :JK X [] (L1 K M H0 [] DH):=⟨by
 intro a s b H c d Q I r ⟨h,f,g,R,hd,e,q⟩
 cases f with
 |nil=>
  cases e
  simp only[Ae]at hd
  exact am a s b H c d Q I r ⟨hd,q b R Step.refl λ_ _=>rfl⟩
 |cons=>cases e⟩
theorem ZR(g:JG X e (tG K M H0 ws b))(i:JK X es (L1 K M H0 ws' c))(t:(E1 (e::es) X.env).map (·.2)=assign e X.env::(E1 es X.env).map (·.2):=by rfl):JK X (e::es) (L1 K M H0 (ws++ws') (ZW b c)):=⟨have g:=g.h;have i:=i.h;by
 intro a s u H J w Q I r ⟨p,k,l,R,hd,e,q⟩
 cases k with
 |nil=>cases e
 |cons d k=>
  simp only[Ae]at hd
  obtain⟨v,x,y,z,A⟩:=hd
  subst y
  simp only[ZW]at e
  cases m:b d p with
  |none=>rw[m]at e;cases e
  |some f=>
   rw[m]at e
   refine ao g i t a s u H _ w Q I r ⟨v,x,rfl,p,d,f,R,z,m,λB C S1 E=>⟨f,k,l,C,Ae.step S1 _ _ A,e,λn R2 S2 G=>q n R2 (S1.trans S2) λj o=>?_⟩⟩
   rw[CT,not_or]at o
   rw[G j o.2,E j o.1]⟩
theorem Gx{k n:Nat}(i:X.calm=true)(h:JK X es (L1 X.K M H0 ws c))(j:(E1 es X.env).length=n:=by rfl)(f:(E1 es X.env).findIdx? (·.1)=none:=by rfl):JG X (.Tuple es k pos) (tG X.K M H0 ws (Dr n c)):=⟨have h:=h.h;by
 intro b s l H v u Q I r ⟨m,d,g,R,hd,e,q⟩
 cases d with
 |tup o=>
  simp only[Dr]at e
  split at e
  ·next p=>
   simp only[Aq]at hd
   obtain⟨a,t,w,x,hd⟩:=hd
   exact aq i h j f b s l H v u Q I r ⟨a,t,w,x,by rw[<- hd.length];exact p,m,o,g,R,hd,e,q⟩
  ·cases e
 |_=>cases e⟩
end
@[simp] def FT:Option Sl->Sl
  |some (.val d)=>.val d
  |some (.own a b)=>.lent a b
  |some (.lent a b)=>.lent a b
  |_=>.no
@[simp] def ZO(k:Nat)(a:List Nat)(ρ:VE):VE:=BZ k .no++a.map λj=>FT ρ[j]?
def C2(b:D->VE->Option VE)(t:VE->Option Bool)(e:VE->Option D)(ρ:VE):List D->Option (List D)
 |[]=>some []
 |d::c=>match b d ρ with
  |none=>none
  |some a=>match t a with
   |some true=>Zb (e a) (C2 b t e ρ c)
   |some false=>C2 b t e ρ c
   |none=>none
@[simp] def ZQ(k:Nat)(a:List Nat)(f:VE->Option (List D))(b:D->VE->Option VE)(t:VE->Option Bool)(e:VE->Option D):VE->Option (List D):=λc=>(Zl (f c)).bind (C2 b t e (ZO k a c))
section
variable{X:Cx}{K:Ap}{M:Fb}{H0:Hp}{pos:AT}{tg elt iter:Expr}{ifs:List Expr}{scope:Scope}{ws:List Nat}{f:VE->Option (List D)}{b:D->VE->Option VE}{t:VE->Option Bool}{e:VE->Option D}{k:Nat}{oix:List Nat}
theorem A3.comp{ρ:VE}{σ:St}{H:Hp}(R:A3 K M H0 ρ σ H)(k:Nat)(oix:List Nat):A3 K (Nf M ρ σ) H (ZO k oix ρ) (D9 k oix σ) H/\∀a,Nf (Nf M ρ σ) (ZO k oix ρ) (D9 k oix σ) a->Nf M ρ σ a:=by
 have b:∀(j:Nat) (c:List D) (e:Bool),(ZO k oix ρ)[j]?≠some (Sl.own c e):=λj c e h=>by
  unfold ZO at h
  rw[OQ]at h
  split at h
  ·rw[HI]at h
   split at h<;>cases h
  ·rw[D8]at h
   cases g:oix[j-(BZ k Sl.no).length]? with
   |none=>rw[g]at h;cases h
   |some o=>
    rw[g]at h
    simp only[HP,L0]at h
    unfold FT at h
    split at h<;>cases h
 have nf:∀a,Nf (Nf M ρ σ) (ZO k oix ρ) (D9 k oix σ) a->Nf M ρ σ a:=λa h=>by
  rcases h with h|⟨j,c,e,h,_⟩
  ·exact h
  ·exact absurd h (b j c e)
 refine⟨⟨by simp[ZO,D9],Ak.refl H,R.nh,λj s h=>?_,λi j c y e w a h=>absurd h (b i c e)⟩,nf⟩
 unfold ZO at h
 rw[OQ]at h
 split at h
 ·rw[HI]at h
  split at h
  ·cases h;trivial
  ·cases h
 ·next n=>
  rw[D8]at h
  have p:(D9 k oix σ)[j]?=(oix[j-k]?).map λi=>(σ[i]?).join:=by
   unfold D9
   rw[Oj (by simpa using n),D8]
   simp
  rw[p]
  simp only[IQ]at h
  cases g:oix[j-k]? with
  |none=>rw[g]at h;cases h
  |some o=>
   rw[g]at h
   simp only[HP,L0]at h
   simp only[HP,Option.join_some]
   unfold FT at h
   split at h
   ·next d hd=>subst h;obtain⟨v,f,q⟩:=R.slot o _ hd;exact⟨v,f,q.nw λa l=>.inl (nf a l)⟩
   ·next c e hd=>
    subst h
    obtain⟨a,r,f,t,u,m,x⟩:=R.slot o _ hd
    exact⟨a,r,f,⟨.inr ⟨o,c,e,hd,AN f⟩,λz=>by rw[m]at z;cases z⟩,.inl m,x.nw λa l=>.inl (nf a l)⟩
   ·next c hd=>
    subst h
    obtain⟨a,r,f,t,u,m⟩:=R.slot o _ hd
    exact⟨a,r,f,⟨.inl t.1,R.mh a t.1⟩,u,m.nw λa l=>.inl (nf a l)⟩
   ·subst h;trivial
def OR(K:Ap)(ws:List Nat)(b:D->VE->Option VE):TG:=λv a H Q=>∃M H0,tG K M H0 ws b v a H Q
def Tt(K:Ap)(t:VE->Option Bool):TT:=λa H Q=>∃M H0,Bx K M H0 t a H Q
def Tu(K:Ap)(e:VE->Option D):TE:=λa H Q=>∃M H0,tD K M H0 e a H Q
theorem OS(hw:∀j∈ws,j<k){wi:TI}(hi:∀σ H R,tI K M H0 f σ H R->wi σ H R){σ:St}{H:Hp}{Q:VK}(h:tF K M H0 (ZQ k oix f b t e) σ H Q):LO k oix wi (OR K ws b) (Tt K t) (Tu K e) σ H Q:=by
 obtain⟨g,C,R,ex,q⟩:=h
 try dsimp only at ex q
 unfold ZQ at ex
 cases u:Zl (f g)with
 |none=>rw[u]at ex;cases ex
 |some l=>
  rw[u]at ex
  obtain⟨u,hz⟩:=LV u
  have ex:C2 b t e (ZO k oix g) l=some C:=ex
  refine hi _ _ _ ⟨g,l,R,u,λJ H1 s1 ok=>?_⟩
  refine⟨l.length,λi L E=>i<=l.length/\L.length<=i/\Ak H1 E/\∃c Ay,Ae K (Nf M g σ) E c L/\C2 b t e (ZO k oix g) (l.drop i)=some Ay/\c++Ay=C,⟨Dq _,Bf _,Ak.refl _,[],C,Ae.nil,ex,rfl⟩,?_⟩
  rintro i L E ⟨hle,hy,w,c,Ay,m,d,G⟩
  obtain⟨N,O⟩:=ok _ E (Step.of_same w) i
  by_cases n:i<l.length
  ·obtain⟨go,y⟩:=N l[i] (DG n)
   rw[LQ n]at d
   simp only[C2]at d
   refine .inr ⟨go,n,by omega,λr T=>r.length<=i+1/\Ak H1 T/\∃c Ay,Ae K (Nf M g σ) T c r/\C2 b t e (ZO k oix g) (l.drop (i+1))=some Ay/\c++Ay=C,λr T z=>⟨n,z⟩,λx I yl=>?_⟩
   obtain⟨A,hd⟩:=y x I yl
   have R3:=((R.st s1).st w).st A
   obtain⟨Rc,nf⟩:=R3.comp k oix
   cases U:b l[i] (ZO k oix g)with
   |none=>rw[U]at d;cases d
   |some o=>
    rw[U]at d
    simp only at d
    refine⟨Nf M g σ,I,ZO k oix g,l[i],o,Rc,hd.nw λa Y=>.inl (nf a Y),U,λσ4 R4 S4 w4=>⟨?_,?_⟩⟩
    ·apply HS
     intro j
     rw[Kg,Kg]
     exact w4 _ λhj=>absurd (hw _ hj) (by omega)
    ·cases ht:t o with
     |none=>rw[ht]at d;cases d
     |some bb=>
      rw[ht]at d
      refine⟨Nf M g σ,I,o,bb,R4,ht,λH5 B=>?_⟩
      cases bb with
      |true=>
       simp only at d
       obtain⟨yd,s,e1,e2,e3⟩:=Jb d
       refine FR ?_
       refine⟨Nf M g σ,I,o,yd,R4.st B,e1,λv H6 s6 hv=>⟨?_,((w.trans A).trans B).trans s6,c++[yd],s,(m.same ((A.trans B).trans s6)).append (Ae.cons (hv.nw λa Y=>.inl (.inl Y)) Ae.nil),e2,?_⟩⟩
       ·simp only[FO,List.length_singleton];omega
       ·subst e3;rw[<- G];simp
      |false=>
       refine FS ?_
       exact⟨by omega,(w.trans A).trans B,c,Ay,m.same (A.trans B),d,G⟩
  ·have ei:i=l.length:=by omega
   rw[LP (by omega)]at d
   cases d
   rw[CG]at G
   subst G
   exact .inl ⟨O ei,by omega,λp hp=>Km (s1.trans w) hp m q⟩
theorem PG.all{Y:Cx}(h:∀M H0,PG Y tg (tG K M H0 ws b)):PG Y tg (OR K ws b):=λa s c H v u Q I r ⟨M,H0,z⟩=>h M H0 a s c H v u Q I r z
theorem EA.all{Y:Cx}(h:∀M H0,EA Y ifs (Bx K M H0 t)):EA Y ifs (Tt K t):=λa s b H Q I ⟨M,H0,z⟩=>h M H0 a s b H Q I z
theorem PE.all{Y:Cx}(h:∀M H0,PE Y elt (tD K M H0 e)):PE Y elt (Tu K e):=λa s b H Q I ⟨M,H0,z⟩=>h M H0 a s b H Q I z
theorem ZX{Y:Cx}:JF Y [] (Bx K M H0 λ_=>some true):=⟨λa s c H Q I ⟨d,b,R,e,q⟩=>OA a s c H Q I (by cases e;exact q H (Ak.refl H))⟩
theorem du(own c:List Af)(oix:List Nat)(S:ER own c scope X.env.scope)(k:oix.map (λj=>X.N[j]?)=c.map some)(l:X.calm=true)(m:PI X tg iter (tI K M H0 f))
  (n:∀C d g h a i H',PG (B2 X own c scope C d g h a) tg (tG K i H' ws b))
  (o:∀C d g h a i H',EA (B2 X own c scope C d g h a) ifs (Bx K i H' t))
  (p:∀C d g h a i H',PE (B2 X own c scope C d g h a) elt (tD K i H' e)) (q:∀j∈ws,j<own.length)
  (r:∀x,E2 iter X.env x=AB x:=by intro _;rfl):
  PE X (.ListComp elt [⟨tg,iter,ifs,0⟩] scope pos) (tF K M H0 (ZQ own.length oix f b t e)):=
 (Ta own c oix S k l m (λC d g h a=>PG.all (n C d g h a)) (λC d g h a=>EA.all (o C d g h a)) (λC d g h a=>PE.all (p C d g h a)) r).mono
  λ_ _ _ z=>OS q (λ_ _ _ z=>z) z
theorem Z8(own c:List Af)(oix:List Nat)(S:ER own c scope X.env.scope)(l:oix.map (λj=>X.N[j]?)=c.map some)(m:X.calm=true)(n:JI X tg iter (tI K M H0 f))(o:∀C d g i a k H',JG (B2 X own c scope C d g i a) tg (tG K k H' ws b))(p:∀C d g i a k H',JF (B2 X own c scope C d g i a) ifs (Bx K k H' t))(q:∀C d g i a k H',JE (B2 X own c scope C d g i a) elt (tD K k H' e))(r:∀j∈ws,j<own.length)(s:∀x,E2 iter X.env x=AB x:=by intro _;rfl):JE X (.ListComp elt [⟨tg,iter,ifs,0⟩] scope pos) (tF K M H0 (ZQ own.length oix f b t e)):=⟨du own c oix S l m n.h (λC d g i a k H'=>(o C d g i a k H').h) (λC d g i a k H'=>(p C d g i a k H').h) (λC d g i a k H'=>(q C d g i a k H').h) r s⟩
theorem dw(own c:List Af)(oix:List Nat){i:Nat}{x:Af}{k l:AT}(S:ER own c scope X.env.scope)(n:oix.map (λj=>X.N[j]?)=c.map some)(q:X.calm=true)
  (r:X.N.Nodup) (o:X.N[i]?=some x) (s:X.env.scope.names.lookup x=some .local) (u:PI X tg iter (tI K M H0 f))
  (v:∀C d g h a m H',PG (B2 X own c scope C d g h a) tg (tG K m H' ws b))
  (w:∀C d g h a m H',EA (B2 X own c scope C d g h a) ifs (Bx K m H' t))
  (y:∀C d g h a m H',PE (B2 X own c scope C d g h a) elt (tD K m H' e)) (A:∀j∈ws,j<own.length)
  (p:Dp (.ListComp elt [⟨tg,iter,ifs,0⟩] scope pos) (some (.Name x k)) l.line X.env=AB true:=by rfl)
  (B:∀x,E2 iter X.env x=AB x:=by intro _;rfl):
  PS X (.Assign [.Name x k] (.ListComp elt [⟨tg,iter,ifs,0⟩] scope pos) l) (tS K M H0 λρ=>DZ i (ZQ own.length oix f b t e ρ) ρ):=
 (OB own c oix S n q r o s u (λC d g h a=>PG.all (v C d g h a)) (λC d g h a=>EA.all (w C d g h a)) (λC d g h a=>PE.all (y C d g h a)) p B).mono
  λG I H z=>by
   have E:=To z
   exact OS A (λ_ _ _ z=>z) E
theorem dy(own c:List Af)(oix:List Nat){i:Nat}{x:Af}{m n:AT}(S:ER own c scope X.env.scope)(o:oix.map (λj=>X.N[j]?)=c.map some)(r:X.calm=true)(s:X.N.Nodup)(p:X.N[i]?=some x)(u:X.env.scope.names.lookup x=some .local)(v:JI X tg iter (tI K M H0 f))(w:∀C d g k a l H',JG (B2 X own c scope C d g k a) tg (tG K l H' ws b))(y:∀C d g k a l H',JF (B2 X own c scope C d g k a) ifs (Bx K l H' t))(z:∀C d g k a l H',JE (B2 X own c scope C d g k a) elt (tD K l H' e))(A:∀j∈ws,j<own.length)(q:Dp (.ListComp elt [⟨tg,iter,ifs,0⟩] scope pos) (some (.Name x m)) n.line X.env=AB true:=by rfl)(B:∀x,E2 iter X.env x=AB x:=by intro _;rfl):JS X (.Assign [.Name x m] (.ListComp elt [⟨tg,iter,ifs,0⟩] scope pos) n) (tS K M H0 λρ=>DZ i (ZQ own.length oix f b t e ρ) ρ):=⟨dw own c oix S o r s p u v.h (λC d g k a l H'=>(w C d g k a l H').h) (λC d g k a l H'=>(y C d g k a l H').h) (λC d g k a l H'=>(z C d g k a l H').h) A q B⟩
theorem dz(own g:List Af)(oix:List Nat){i:Nat}{x:Af}{m n:AT}(S:ER own g scope X.env.scope)(r:oix.map (λj=>X.N[j]?)=g.map some)(A:X.calm=true)
  (B:X.N.Nodup) (u:X.N[i]?=some x) (E:X.env.scope.names.lookup x=some .local) (G:PI X tg iter (tI K M H0 f))
  (I:∀C h k l c o H',PG (B2 X own g scope C h k l c) tg (tG K o H' ws b))
  (J:∀C h k l c o H',EA (B2 X own g scope C h k l c) ifs (Bx K o H' t))
  (L:∀C h k l c o H',PE (B2 X own g scope C h k l c) elt (tD K o H' e)) (O:∀j∈ws,j<own.length)
  (v:Dp (.ListComp elt [⟨tg,iter,ifs,0⟩] scope pos) (some (.Name x m)) n.line X.env=AB true:=by rfl)
  (Q:∀x,E2 iter X.env x=AB x:=by intro _;rfl):
  PS X (.Assign [.Name x m] (.ListComp elt [⟨tg,iter,ifs,0⟩] scope pos) n) (tS K M H0 λρ=>ZM i (Zz (ZQ own.length oix f b t e ρ)) ρ):=
 (OB own g oix S r A B u E G (λC h k l c=>PG.all (I C h k l c)) (λC h k l c=>EA.all (J C h k l c)) (λC h k l c=>PE.all (L C h k l c)) v Q).mono
  λT y H z=>by
   have U:tD K M H0 (λρ=>Zz (ZQ own.length oix f b t e ρ)) y H (λx Y=>G3 i x y Y T.nx):=Tn z
   obtain⟨ρ,d,R,p,q⟩:=U
   try dsimp only at p q
   cases w:ZQ own.length oix f b t e ρ with
   |none=>rw[w]at p;cases p
   |some xs=>
    rw[w]at p;cases p
    refine OS O (λ_ _ _ z=>z) ⟨ρ,xs,R,w,λa vs H' s z1 z2 z3=>q _ _ s ?_⟩
    simp only[Aq]
    exact⟨a,vs,rfl,.of (R.fresh z1) z2,z3.nw λb hb=>.inl (.inl hb)⟩
theorem L3(own c:List Af)(oix:List Nat){i:Nat}{x:Af}{m n:AT}(S:ER own c scope X.env.scope)(o:oix.map (λj=>X.N[j]?)=c.map some)(r:X.calm=true)(s:X.N.Nodup)(p:X.N[i]?=some x)(u:X.env.scope.names.lookup x=some .local)(v:JI X tg iter (tI K M H0 f))(w:∀C d g k a l H',JG (B2 X own c scope C d g k a) tg (tG K l H' ws b))(y:∀C d g k a l H',JF (B2 X own c scope C d g k a) ifs (Bx K l H' t))(z:∀C d g k a l H',JE (B2 X own c scope C d g k a) elt (tD K l H' e))(A:∀j∈ws,j<own.length)(q:Dp (.ListComp elt [⟨tg,iter,ifs,0⟩] scope pos) (some (.Name x m)) n.line X.env=AB true:=by rfl)(B:∀x,E2 iter X.env x=AB x:=by intro _;rfl):JS X (.Assign [.Name x m] (.ListComp elt [⟨tg,iter,ifs,0⟩] scope pos) n) (tS K M H0 λρ=>ZM i (Zz (ZQ own.length oix f b t e ρ)) ρ):=⟨dz own c oix S o r s p u v.h (λC d g k a l H'=>(w C d g k a l H').h) (λC d g k a l H'=>(y C d g k a l H').h) (λC d g k a l H'=>(z C d g k a l H').h) A q B⟩
end
def AQ(a n:Nat)(g:VE->An):List Sl->Option Rv:=λb=>if b.length=a then
  match g (b++BZ (n-a) .no)with
  |.ret r=>some r
  |.next _=>some (.val .non)
  |_=>none
 else none
theorem OT{K:Ap}{N:Fb}{H:Hp}{l:List Sl}{vs:List V}(t:∀a,N a->H a≠none)(h:AW K N H l vs)(n:Nat):A3 K N H (l++BZ n .no) (vs.map some++BZ n none) H:=by
 have u:=h.length
 have b:∀(j:Nat) (f:List D) (g:Bool),(l++BZ n Sl.no)[j]?≠some (Sl.own f g):=λj f g e=>by
  rw[OQ]at e
  split at e
  ·obtain⟨v,_,q⟩:=h.get e;exact q
  ·rw[HI]at e
   split at e<;>cases e
 have nf:∀a,Nf N (l++BZ n Sl.no) (vs.map some++BZ n none) a->N a:=λa z=>by
  rcases z with z|⟨j,f,g,z,_⟩
  ·exact z
  ·exact absurd z (b j f g)
 refine⟨by simp[u],Ak.refl H,t,λj s e=>?_,λi j f I g w a z=>absurd z (b i f g)⟩
 rw[OQ]at e
 split at e
 ·next x=>
  obtain⟨v,y,q⟩:=h.get e
  rw[Ol (by simpa[<- u]using x),D8,y]
  cases s with
  |val d=>exact⟨v,rfl,Aq.nw q λa k=>.inl (nf a k)⟩
  |lent f g=>obtain⟨a,A,o,m,p,r⟩:=q;exact⟨a,A,by rw[o];rfl,⟨m,t a m⟩,p,r.nw λa k=>.inl (nf a k)⟩
  |no=>trivial
  |own f g=>exact Bd q
  |exc c=>exact Bd q
  |pin a=>exact Bd q
  |deep J L=>obtain⟨a,bs,o,B,m,p,r,C⟩:=q;exact⟨a,bs,by rw[o];rfl,B,m,p,r,Paired.mapP C λ_ _ ⟨vs,E,G⟩=>⟨vs,E,G.nw λa k=>.inl (nf a k)⟩⟩
 ·rw[HI]at e
  split at e
  ·cases e;trivial
  ·cases e
theorem dA{P:AS}{w:Ai}{K:Ap}{mg:Af->Option Aa}{base:Al}{x b:Af}{st:As}{f:Ad}{fd:A5}{N ps:List Af}{k:Nat}{g:VE->An}(F:Gr K x b st f fd)(S:Zx N ps (Zi st))(t:ps.length<=N.length)
  (u:∀(c:Aa) (A:Ah) (outer:List Env) (s:Ac) (H:Hp) (E:XK) (M:Fb) (y:Hp),AR k (A.deeper (Bt b (Zi st) s.heap.objs.size f c)) ->
   DP (Ey A6 P w K mg base N b (Zi st) f c A outer s H E).nox (DE st) (tS K M y g)):Aw P w K mg base A6 (k+1) f fd ps (Bc K (AQ ps.length N.length g)):=by
 refine F.ok S (λj H Q E h=>?_) (λc A outer s H j Q E z h=>?_)
 ·obtain⟨n,o,r,p,i,a,q⟩:=h
  unfold AQ at a
  split at a
  ·next l=>rw[<- i.length];exact l
  ·cases a
 ·obtain⟨n,o,r,p,i,a,q⟩:=h
  refine⟨_,u c A outer s H E n H z,?_⟩
  unfold AQ at a
  split at a
  ·next l=>
   have B:Z7 N j=j.map some++BZ (N.length-ps.length) none:=by unfold Z7;rw[<- i.length,l]
   rw[B]
   refine⟨_,OT p i (N.length-ps.length),?_⟩
   cases d:g (o++BZ (N.length-ps.length) .no)with
   |fail=>rw[d]at a;cases a
   |next e=>rw[d]at a;cases a;exact λC m G J=>q .non m G.same (by simp only[Hc,Aq])
   |brk e=>rw[d]at a;cases a
   |cont e=>rw[d]at a;cases a
   |ret L=>rw[d]at a;cases a;exact λv m s I=>q v m s I
  ·cases a
theorem Tv{P:AS}{w:Ai}{K:Ap}{mg:Af->Option Aa}{base:Al}{x a:Af}{st:As}{f:Ad}{fd:A5}{N ps:List Af}{k:Nat}{g:VE->An}(F:Gr K x a st f fd)(S:Zx N ps (Zi st))(c:ps.length<=N.length)
  (e:∀(b:Aa) (A:Ah) (outer:List Env) (s:Ac) (H:Hp) (E:XK) (M:Fb) (d:Hp),AR k (A.deeper (Bt a (Zi st) s.heap.objs.size f b)) ->
   JB (Ey A6 P w K mg base N a (Zi st) f b A outer s H E).nox (DE st) (tS K M d g)):Aw P w K mg base A6 (k+1) f fd ps (Bc K (AQ ps.length N.length g)):=
 dA F S c λb A outer s H E M d i=>(e b A outer s H E M d i).h
theorem dB{P:AS}{w:Ai}{K:Ap}{mg:Af->Option Aa}{base:Al}{k:Nat}{f:Ad}{fd:A5}{F:List Sl->Option Rv}(G:Aw P w K mg base A6 k f fd ["_law_script"] (Bc K F))
  (h:∀ns:List Int,ns.length<=63->F [.val (.lst (ns.map D.int))]=some (.val (.bl true))):Aw P w K mg base A6 k f fd ["_law_script"] (Ki K):=
 G.imp λi H Q E ⟨a,ns,e,c,d,q⟩=>by
  refine⟨λ_=>False,[.val (.lst (ns.map D.int))],.val (.bl true),λ_ z=>z.elim,⟨_,[],e,?_,rfl⟩,h ns d,λv g s b=>?_⟩
  ·simp only[B1,Aq]
   exact⟨a,_,rfl,.of_sq c,Ae.ints ns⟩
  ·simp only[Hc,Aq]at b
   subst b;exact q g
section
variable{K:Ap}
@[simp] def i2(g:Int->Int->Option D):D->D->Option D
  |.int i,.int j=>g i j
  |_,_=>none
theorem OU{g:Int->Int->Option D}{x y d:D}(h:i2 g x y=some d):∃i j,x=.int i/\y=.int j/\g i j=some d:=by
 unfold i2 at h
 split at h
 ·exact⟨_,_,rfl,rfl,h⟩
 ·cases h
theorem AA.int{N:Fb}{H:Hp}{i:Int}{v:V}(h:AA K N H (.int i) v):v=.int i:=by simpa only[AA,Aq]using h
theorem AA.str{N:Fb}{H:Hp}{i:Af}{v:V}(h:AA K N H (.str i) v):v=.str i:=by simpa only[AA,Aq]using h
theorem AA.bl{N:Fb}{H:Hp}{i:Bool}{v:V}(h:AA K N H (.bl i) v):v=.bl i:=by simpa only[AA,Aq]using h
theorem AA.non{N:Fb}{H:Hp}{v:V}(h:AA K N H .non v):v=.non:=by simpa only[AA,Aq]using h
theorem AA.ty{N:Fb}{H:Hp}{i:String}{v:V}(h:AA K N H (.ty i) v):v=.ty i:=by simpa only[AA,Aq]using h
theorem AA.tup{N:Fb}{H:Hp}{xs:List D}{v:V}(h:AA K N H (.tup xs) v):∃a vs,v=.ref a/\BE K H a vs/\Ae K N H xs vs:=by simpa only[AA,Aq]using h
theorem EE{N:Fb}{H:Hp}{i:Int}:Aq K N H (.int i) (.int i):=by simp only[Aq]
theorem Fq{N:Fb}{H:Hp}{i:Bool}:Aq K N H (.bl i) (.bl i):=by simp only[Aq]
theorem L4{N:Fb}{H:Hp}{i:Af}:Aq K N H (.str i) (.str i):=by simp only[Aq]
theorem dC(g:Int->Int->Int):CB K (Gi λi j=>.int (g i j)) (i2 λi j=>some (.int (g i j))):=by
 intro N H x y d1 d2 d Q c a b e q
 obtain⟨i,j,rfl,rfl,e⟩:=OU e
 cases e
 exact⟨i,j,a.int,b.int,q _ H (Ak.refl H) EE⟩
theorem OV(g:Int->Int->Bool):CB K (Gi λi j=>.bl (g i j)) (i2 λi j=>some (.bl (g i j))):=by
 intro N H x y d1 d2 d Q c a b e q
 obtain⟨i,j,rfl,rfl,e⟩:=OU e
 cases e
 exact⟨i,j,a.int,b.int,q _ H (Ak.refl H) Fq⟩
theorem L5{C:Int->Int->Prop}[∀i j,Decidable (C i j)](g:Int->Int->Int):CB K (rI C λi j=>.int (g i j)) (i2 λi j=>if C i j then some (.int (g i j))else none):=by
 intro N H x y d1 d2 d Q h b c e q
 obtain⟨i,j,rfl,rfl,a⟩:=OU e
 split at a
 ·next f=>cases a;exact⟨i,j,b.int,c.int,f,q _ H (Ak.refl H) EE⟩
 ·cases a
instance (i j:Int):Decidable (Kd i j):=by unfold Kd;exact inferInstance
instance (i j:Int):Decidable (C4 i j):=by unfold C4;exact inferInstance
instance (i j:Int):Decidable (IJ i j):=by unfold IJ;exact inferInstance
@[simp] def HV:D->D->Option D:=i2 λi j=>some (.int (i-j))
@[simp] def Es:D->D->Option D:=i2 λi j=>if C4 i j then some (.int (i*j))else none
@[simp] def E8:D->D->Option D:=i2 λi j=>if Kd i j then some (.int (i/j))else none
@[simp] def Cg:D->D->Option D:=i2 λi j=>if 0<j then some (.int (i%j))else none
@[simp] def EF:D->D->Option D:=i2 λi j=>if IJ i j then some (.int (i^j.toNat))else none
@[simp] def Tw:D->D->Option D:=i2 λi j=>some (.bl (decide (i<=j)))
@[simp] def Fs:D->D->Option D:=i2 λi j=>some (.bl (decide (j<i)))
@[simp] def lY:D->D->Option D:=i2 λi j=>some (.bl (decide (j<=i)))
section
variable{X:Cx}{M:Fb}{H0:Hp}{a b:Expr}{f g:VE->Option D}{pos:AT}
theorem Ks(c:JE X a (tP K M H0 f))(d:JE X b (tP K M H0 g)):JE X (.BinOp a .Sub b pos) (tD K M H0 (Ze HV f g)):=⟨have c:=c.h;have d:=d.h;HR aL (dC _) c d⟩
theorem FU(c:JE X a (tP K M H0 f))(d:JE X b (tP K M H0 g)):JE X (.BinOp a .Mult b pos) (tD K M H0 (Ze Es f g)):=⟨have c:=c.h;have d:=d.h;HR aM (L5 _) c d⟩
theorem FV(c:JE X a (tP K M H0 f))(d:JE X b (tP K M H0 g)):JE X (.BinOp a .FloorDiv b pos) (tD K M H0 (Ze E8 f g)):=⟨have c:=c.h;have d:=d.h;HR aN (L5 _) c d⟩
theorem ZT(c:JE X a (tP K M H0 f))(d:JE X b (tP K M H0 g)):JE X (.BinOp a .Mod b pos) (tD K M H0 (Ze Cg f g)):=⟨have c:=c.h;have d:=d.h;HR aO (L5 _) c d⟩
theorem Jf(c:JE X a (tP K M H0 f))(d:JE X b (tP K M H0 g)):JE X (.BinOp a .Pow b pos) (tD K M H0 (Ze EF f g)):=⟨have c:=c.h;have d:=d.h;HR aP (L5 _) c d⟩
@[simp] def Kt:Option D->Option D
  |some (.int i)=>some (.int (-i))
  |_=>none
theorem Tz(b:JE X a (tP K M H0 f)):JE X (.UnaryOp .USub a pos) (tD K M H0 λρ=>Kt (f ρ)):=⟨have b:=b.h;(aK aR b).mono λk H Q ⟨ρ,d,R,e,q⟩=>by
 try dsimp only at e q
 unfold Kt at e
 split at e
 ·next i c=>cases e;exact⟨ρ,.int i,R,c,λv g s j=>⟨i,j.int,q _ g s EE⟩⟩
 ·cases e⟩
end
end
section
variable{X:Cx}
def TB(K:Ap):R2:=λx y H Q=>∃l b a c,x=.ref l/\y=.ref b/\Bn K H l a/\Bn K H b c/\a.length+c.length<=Av/\∀p,H p=none->Q (.ref p) (AK H p (.lst (a++c)))
theorem Gy:BU X (E3 .Add) (TB X.K):=by
 intro k s L H x y v u Q I w z h
 obtain⟨l,b,M,N,rfl,rfl,A,B,O,q⟩:=h
 cases w
 cases z
 obtain⟨c,r,p1,T⟩:=I.list A
 obtain⟨a,m,C,U⟩:=I.list B
 have Y:=r.length
 have E:=m.length
 obtain⟨⟨cls,G,data,J⟩,o,p,n,hd⟩:=p1.isList
 obtain⟨⟨t,i,data2,j⟩,d,f,n2,g⟩:=C.isList
 simp only at p hd f g
 subst p hd f g
 have e:c.toArray++a.toArray=(c++a).toArray:=by simp
 refine concat_meets ⟨_,o,rfl⟩ ⟨_,d,rfl⟩ noFill_list_add seq_list_add PySem.F.slot_list_add PySem.F.entry_list_add (PySem.F.args_list_add_2 _ _) (list_addW l b c.toArray a.toArray n n2 G i J j (by rw[Bu,Bu];omega)) ⟨o,d,?_⟩
 rw[e]
 exact⟨.ref _,_,I.lnew (t':=s.toks) (r.append m) (by rw[FO];omega),rfl,q _ I.fresh⟩
def TC(K:Ap):R2:=λx y H Q=>∃l b a c,x=.ref l/\y=.ref b/\BE K H l a/\BE K H b c/\a.length+c.length<=Av /\
 (a=[]->Q (.ref b) H)/\(c=[]->Q (.ref l) H)/\∀p,H p=none->Q (.ref p) (AK H p (.tup (a++c)))
theorem dE:BU X (E3 .Add) (TC X.K):=by
 intro C s σ H x y v u Q I O T h
 obtain⟨l,b,E,G,rfl,rfl,U,Y,hz,qx,qz,q⟩:=h
 cases O
 cases T
 obtain⟨c,r,p1,z1⟩:=I.tuple U
 obtain⟨a,J,p2,z2⟩:=I.tuple Y
 have L:=r.length
 have k:=J.length
 obtain⟨⟨cls,t,data,w⟩,j,M,n,hd⟩:=id p1
 obtain⟨⟨N,f,data2,g⟩,d,m,n2,o⟩:=id p2
 simp only at M hd m o
 subst M hd m o
 by_cases A:E=[]
 ·have p:c.toArray.isEmpty=true:=by
   subst A
   have:c=[]:=List.length_eq_zero_iff.mp L.symm
   subst this;rfl
  exact concat_meets ⟨_,j,rfl⟩ ⟨_,d,rfl⟩ noFill_tuple_add seq_tuple_add PySem.F.slot_tuple_add TD (TF _ _) (tuple_addW0 l b c.toArray a.toArray n n2 t f w g p) ⟨j,d,⟨.ref b,H,I,rfl,qx A⟩⟩
 ·have p:¬ c.toArray.isEmpty=true:=by
   intro z
   have:c=[]:=by simpa using z
   subst this
   exact A (List.length_eq_zero_iff.mp L)
  by_cases B:G=[]
  ·have i:a.toArray.isEmpty=true:=by
    subst B
    have:a=[]:=List.length_eq_zero_iff.mp k.symm
    subst this;rfl
   exact concat_meets ⟨_,j,rfl⟩ ⟨_,d,rfl⟩ noFill_tuple_add seq_tuple_add PySem.F.slot_tuple_add TD (TF _ _) (tuple_addW1 l b c.toArray a.toArray n n2 t f w g p i) ⟨j,d,⟨.ref l,H,I,rfl,qz B⟩⟩
  ·have i:¬ a.toArray.isEmpty=true:=by
    intro z
    have:a=[]:=by simpa using z
    subst this
    exact B (List.length_eq_zero_iff.mp k)
   have e:c.toArray++a.toArray=(c++a).toArray:=by simp
   refine concat_meets ⟨_,j,rfl⟩ ⟨_,d,rfl⟩ noFill_tuple_add seq_tuple_add PySem.F.slot_tuple_add TD (TF _ _) (tuple_addW2 l b c.toArray a.toArray n n2 t f w g p i (by rw[Bu,Bu];omega)) ⟨j,d,?_⟩
   rw[e]
   refine⟨.ref s.heap.objs.size,AK H s.heap.objs.size (.tup (E++G)),I.laid (t':=s.toks) (λb u e=>Bk _ e) (Bf _) ?_,rfl,q _ I.fresh⟩
   exact⟨by rw[FO];omega,c++a,r.append J,IsTup.new _ _⟩
end
@[simp] def ZN:D->D->Option D
  |.int i,.int j=>some (.int (i+j))
  |.str x,.str y=>if x.length+y.length<=Av then some (.str (x++y))else none
  |.lst a,.lst b=>if a.length+b.length<=Av then some (.lst (a++b))else none
  |.tup a,.tup b=>if a.length+b.length<=Av then some (.tup (a++b))else none
  |_,_=>none
def TH(K:Ap):R2:=λx y H Q=>Gi (λi j=>.int (i+j)) x y H Q\/(∃i j,x=.str i/\y=.str j/\i.length+j.length<=Av/\Q (.str (i++j)) H)\/TB K x y H Q\/TC K x y H Q
theorem dF{X:Cx}:BU X (E3 .Add) (TH X.K):=HF.or (Eh.or (Gy.or dE))
theorem OW{K:Ap}{N:Fb}{H:Hp}{xs:List D}{vs:List V}{p:Ad}(c:∀a,N a->H a≠none)(b:H p=none)(h:Ae K N H xs vs):Aq K N (AK H p (.lst vs)) (.lst xs) (.ref p):=by
 simp only[Aq]
 exact⟨p,vs,rfl,.of (λz=>c p z b) ZP,h.same (Z3 b)⟩
theorem Ku{K:Ap}{N:Fb}{H:Hp}{xs:List D}{vs:List V}{p:Ad}(a:H p=none)(h:Ae K N H xs vs):Aq K N (AK H p (.tup vs)) (.tup xs) (.ref p):=by
 simp only[Aq]
 exact⟨p,vs,rfl,BE.of ZP,h.same (Z3 a)⟩
theorem dG{K:Ap}:CB K (TH K) ZN:=by
 intro N H x y d1 d2 d Q o k l e q
 unfold ZN at e
 split at e
 ·cases e;exact .inl ⟨_,_,k.int,l.int,q _ H (Ak.refl H) EE⟩
 ·split at e
  ·next g=>cases e;exact .inr (.inl ⟨_,_,k.str,l.str,g,q _ H (Ak.refl H) L4⟩)
  ·cases e
 ·split at e
  ·next g=>
   cases e
   obtain⟨a,h,m,q1,c⟩:=k
   obtain⟨b,i,n,q2,f⟩:=l
   exact .inr (.inr (.inl ⟨a,b,h,i,m,n,q1,q2,by rw[<- c.length,<- f.length];exact g,λp j=>q _ _ (Z3 j) (OW o j (c.append f))⟩))
  ·cases e
 ·split at e
  ·next g=>
   cases e
   obtain⟨a,h,m,q1,c⟩:=k.tup
   obtain⟨b,i,n,q2,f⟩:=l.tup
   refine .inr (.inr (.inr ⟨a,b,h,i,m,n,q1,q2,by rw[<- c.length,<- f.length];exact g,λz=>?_,λz=>?_,λp j=>q _ _ (Z3 j) (Ku j (c.append f))⟩))
   ·refine q _ H (Ak.refl H) ?_
    simp only[Aq]
    exact⟨b,h++i,rfl,by rw[z];exact q2,c.append f⟩
   ·refine q _ H (Ak.refl H) ?_
    simp only[Aq]
    exact⟨a,h++i,rfl,by rw[z,CG];exact q1,c.append f⟩
  ·cases e
 ·cases e
theorem Zv{X:Cx}{M:Fb}{c:Hp}{a b:Expr}{f g:VE->Option D}{pos:AT}(d:JE X a (tP X.K M c f))(e:JE X b (tP X.K M c g)):JE X (.BinOp a .Add b pos) (tD X.K M c (Ze ZN f g)):=⟨have d:=d.h;have e:=e.h;HR dF dG d e⟩
section
variable{prog:AS}{w:Ai}{A:Ah}{E:Aa->Ac->Prop}{s:Ac}
theorem dH{t d:Ad}{items:Array Aa}{i j:Aa}{lo c:Option Int}{Q:Aa->Ac->Prop}(a:IsTup s.heap t items)(k:s.heap.IsSliceOf d i j .none)(pl:IsPart i lo)(n:IsPart j c)
  (l:HT.sIx items.size 0 lo=0/\HT.sIx items.size items.size c=items.size) (h:Q (.ref t) s):wpAny (Ag prog w) A (getItem (.ref t) (.ref d)) Q E s:=by
 obtain⟨os,e,f,o⟩:=id k
 have g:s.TypeIs (.ref d) "slice":=⟨os,e,f⟩
 unfold getItem
 try with_reducible refine DR ?_
 first|refine Aj (AC ?_)|skip
 refine Aj (wpAny_sequenceKey a.typeIs (by decide) ?_)
 refine Aj (Gk (name:=FP "__getitem__") a.typeIs On
  (E7 On a.typeIs entry_tuple_getitem ?_ (args_tuple_getitem _ _)))
 show wpAny _ _ (Builtin.Tuple.tupleItemsOf (.ref t) >>= _) _ _ s
 refine Aj (PyProof.Rows.tupleItemsOf_ a ?_)
 refine Aj (HJ g ?_)
 rw[if_pos (by decide)]
 refine Aj (HT.sliceApplied_gen k pl n ?_)
 have b:(((HT.sIx items.size 0 lo:Nat):Int)==0&&(1:Int)==1&&(HT.sIx items.size items.size c-HT.sIx items.size 0 lo)==items.size)=true:=by
  rw[l.1,l.2];simp
 show wpAny _ _ (if(((HT.sIx items.size 0 lo:Nat):Int)==0&&(1:Int)==1&&(HT.sIx items.size items.size c-HT.sIx items.size 0 lo)==items.size)=true then _ else _) _ _ s
 rw[if_pos b]
 unfold Builtin.Tuple.tupleIsExact
 refine Aj (Aj (HJ a.typeIs (AC ?_)))
 rw[if_pos (by decide)]
 exact Aj (FW (AC ⟨_,rfl,AC h⟩))
end
def dI(K:Ap):V->Option Int->Option Int->Hp->VK->Prop:=λx lo c H Q=>∃a b,x=.ref a/\BE K H a b/\(Fl b lo c=b->Q (.ref a) H)/\∀p,H p=none->Q (.ref p) (AK H p (.tup (Fl b lo c)))
theorem Gz{X:Cx}:Gm X (dI X.K):=by
 intro c s o H x v p t lo g u Q I i j k l h
 obtain⟨a,b,rfl,m,w,q⟩:=h
 by_cases e:HT.sIx b.length 0 lo=0/\HT.sIx b.length b.length g=b.length
 ·cases i
  obtain⟨f,r,n,y⟩:=I.tuple m
  have d:f.toArray.size=b.length:=by rw[Bu];exact r.length.symm
  refine⟨"tuple",_,PyProof.Rows.slot_tuple_getitem.lookup,n.typeIs,dH n j k l (by rw[d];exact e) ⟨.ref a,H,I,rfl,w ?_⟩⟩
  unfold Fl
  rw[e.1,e.2,List.drop_zero,Nat.sub_zero,List.take_length]
 ·exact bX c s o H _ v p t lo g u Q I i j k l ⟨a,b,rfl,m,e,q⟩
@[simp] def A0:D->D->Option D
  |.lst a,.int i=>atI a i
  |.tup a,.int i=>atI a i
  |.str x,.int i=>if x.length<=Av then(atI x.cps.toList i).map λc=>.str ⟨#[c]⟩else none
  |_,_=>none
theorem Ae.atI{K:Ap}{N:Fb}{H:Hp}{xs:List D}{vs:List V}{i:Int}{d:D}(h:Ae K N H xs vs)(e:L2.atI xs i=some d):∃v,L2.atI vs i=some v/\Aq K N H d v:=by
 unfold L2.atI at e ⊢
 rw[<- h.length]
 cases a:DT xs.length i with
 |none=>rw[a]at e;cases e
 |some j=>rw[a]at e;exact h.get e
theorem dJ{K:Ap}:CB K (SM K) A0:=by
 intro N H x y d1 d2 d Q o b f e q
 unfold A0 at e
 split at e
 ·obtain⟨a,g,h,q1,j⟩:=b
  obtain⟨v,k,l⟩:=j.atI e
  exact .inl ⟨a,g,_,v,h,f.int,q1,k,q v H (Ak.refl H) l⟩
 ·obtain⟨a,g,h,q1,j⟩:=b.tup
  obtain⟨v,k,l⟩:=j.atI e
  exact .inr (.inl ⟨a,g,_,v,h,f.int,q1,k,q v H (Ak.refl H) l⟩)
 ·split at e
  ·next z i n=>
   cases m:atI z.cps.toList i with
   |none=>rw[m]at e;cases e
   |some c=>rw[m]at e;cases e;exact .inr (.inr ⟨z,i,c,b.str,f.int,n,m,q _ H (Ak.refl H) L4⟩)
  ·cases e
 ·cases e
section
variable{X:Cx}{K:Ap}{M:Fb}{H0:Hp}{a b e:Expr}{f g:VE->Option D}{pos p2:AT}
theorem dL(c:JE X a (tP X.K M H0 f))(d:JE X b (tP X.K M H0 g))(e:IR b):JE X (.Subscript a b pos) (tD X.K M H0 (Ze A0 f g)):=⟨have c:=c.h;have d:=d.h;Te SN dJ c d e⟩
def tO(K:Ap)(M:Fb)(H0:Hp)(o:VE->Option (Option Int)):TO:=λc H Q=>∃a i,A3 K M H0 a c H/\o a=some i/\∀b,Ak H b->Q i b
@[simp] def C8:Option D->Option (Option Int)
  |some (.int i)=>some (some i)
  |_=>none
theorem PO.mono{e:Option Expr}{t t':TO}(h:PO X e t)(m:∀σ H Q,t' σ H Q->t σ H Q):PO X e t':=by
 intro a s σ H Q I q
 exact h a s σ H Q I (m σ H Q q)
theorem GA :JO X none (tO K M H0 λ_=>some none):=⟨PO.mono bS λa H Q ⟨b,i,R,e,q⟩=>by(try dsimp only at e q);cases e;exact q H (Ak.refl H)⟩
theorem Ft(h:JE X e (tP K M H0 f)):JO X (some e) (tO K M H0 λρ=>C8 (f ρ)):=⟨have h:=h.h;PO.mono (bT h) λd H Q ⟨ρ,i,R,e,q⟩=>by
 try dsimp only at e q
 unfold C8 at e
 split at e
 ·next j a=>cases e;exact⟨ρ,.int j,R,a,λv b s c=>⟨j,c.int,q b s⟩⟩
 ·cases e⟩
def cutD{a:Type}(xs:List a)(lo b:Option Int):List a:=(xs.drop (HT.sIx xs.length 0 lo)).take (HT.sIx xs.length xs.length b-HT.sIx xs.length 0 lo)
@[simp] def Dg(x:D)(lo a:Option Int):Option D:=match x with
  |.lst b=>some (.lst (cutD b lo a))
  |.tup b=>some (.tup (cutD b lo a))
  |.str x=>if x.length<=Av then some (.str (Txt.slice x lo a))else none
  |_=>none
@[simp] def lZ(x:D)(lo a:Option Int):Option (List D):=match x with
  |.lst b=>some (cutD b lo a)
  |_=>none
theorem Ae.cut{K:Ap}{N:Fb}{H:Hp}{xs:List D}{vs:List V}(h:Ae K N H xs vs)(lo a:Option Int):Ae K N H (cutD xs lo a) (Fl vs lo a):=by
 unfold cutD Fl
 rw[h.length]
 exact(h.drop _).take _
@[simp] def C9{b:Type}(f:VE->Option D)(lo c:VE->Option (Option Int))(F:D->Option Int->Option Int->Option b):VE->Option b:=λa=>(f a).bind λx=>(lo a).bind λl=>(c a).bind λh=>F x l h
theorem dM{e:Type}{f:VE->Option D}{lo b:VE->Option (Option Int)}{F:D->Option Int->Option Int->Option e}{ρ:VE}{d:e}(h:C9 f lo b F ρ=some d):∃x l u,f ρ=some x/\lo ρ=some l/\b ρ=some u/\F x l u=some d:=by
 unfold C9 at h
 cases a:f ρ with
 |none=>rw[a]at h;cases h
 |some x=>
  cases c:lo ρ with
  |none=>rw[a,c]at h;cases h
  |some l=>
   cases g:b ρ with
   |none=>rw[a,c,g]at h;cases h
   |some u=>rw[a,c,g]at h;exact⟨x,l,u,rfl,rfl,rfl,h⟩
theorem FX{A B:Option Expr}{lo C:VE->Option (Option Int)}(m:JE X e (tP X.K M H0 f))(n:JO X A (tO X.K M H0 lo))(o:JO X B (tO X.K M H0 C)):JE X (.Subscript e (.Slice A B none p2) pos) (tD X.K M H0 (C9 f lo C Dg)):=⟨have m:=m.h;have n:=n.h;have o:=o.h;(bV (Gp.or (Gz.or cB)) m n o).mono λO H Q ⟨r,d,R,ex,q⟩=>by
 try dsimp only at ex q
 obtain⟨x,l,u,G,I,J,b⟩:=dM ex
 refine⟨r,x,R,G,λv T t c=>⟨r,l,R.st t,I,λU w=>⟨r,u,(R.st t).st w,J,λY E=>?_⟩⟩⟩
 have c:=(c.same w).same E
 have s:=(t.trans w).trans E
 have L:=R.st s
 unfold Dg at b
 split at b
 ·cases b
  obtain⟨a,i,y,j,k⟩:=c
  exact .inl ⟨a,i,y,j,λp g=>q _ _ (s.trans (Z3 g)) (OW L.nh g (k.cut l u))⟩
 ·cases b
  obtain⟨a,i,y,j,k⟩:=c.tup
  refine .inr (.inl ⟨a,i,y,j,λz=>q _ _ s ?_,λp g=>q _ _ (s.trans (Z3 g)) (Ku g (k.cut l u))⟩)
  simp only[Aq]
  exact⟨a,i,rfl,j,z ▸ k.cut l u⟩
 ·split at b
  ·next N=>cases b;exact .inr (.inr ⟨_,c.str,N,q _ _ s L4⟩)
  ·cases b
 ·cases b⟩
end
mutual
def Az:D->D->Bool
 |.non,.non=>true
 |.bl a,.bl b=>a==b
 |.bl a,.int b=>(if a then 1 else 0)==b
 |.int a,.bl b=>a==(if b then 1 else 0)
 |.int a,.int b=>a==b
 |.str a,.str b=>a==b
 |.tup c,.tup d=>B7 c d
 |.lst c,.lst d=>B7 c d
 |_,_=>false
def B7:List D->List D->Bool
 |[],[]=>true
 |x::a,y::b=>Az x y&&B7 a b
 |_,_=>false
end
@[simp] def A4:Nat->D->Bool
  |_,.non=>true
  |_,.bl _=>true
  |_,.int _=>true
  |_,.str _=>true
  |n+1,.tup a=>a.all (A4 n)
  |n+1,.lst a=>a.all (A4 n)
  |_,_=>false
mutual
theorem OX:∀(n:Nat)(d:D),A4 n d=true->Az d d=true
 |_,.non,_=>by simp only[Az]
 |_,.bl _,_=>by simp only[Az,beq_self_eq_true]
 |_,.int _,_=>by simp only[Az,beq_self_eq_true]
 |_,.str _,_=>by simp only[Az,beq_self_eq_true]
 |0,.ty _,h=>by simp[A4]at h
 |0,.ins _ _,h=>by simp[A4]at h
 |_+1,.ins _ _,h=>by simp[A4]at h
 |_+1,.ty _,h=>by simp[A4]at h
 |0,.tup a,h=>by simp[A4]at h
 |0,.lst a _,h=>by simp[A4]at h
 |n+1,.tup a,h=>by simp only[A4]at h;simp only[Az];exact Kv n a h
 |n+1,.lst a false,h=>by simp only[A4]at h;simp only[Az];exact Kv n a h
 |n+1,.lst a true,h=>by simp[A4]at h
theorem Kv:∀(n:Nat)(xs:List D),xs.all (A4 n)=true->B7 xs xs=true
 |_,[],_=>by simp only[B7]
 |n,x::xs,h=>by
  simp only[Kw,C5]at h
  simp only[B7,C5]
  exact⟨OX n x h.1,Kv n xs h.2⟩
end
theorem OY:∀{xs ys:List D},xs.length≠ys.length->B7 xs ys=false
 |[],[],h=>absurd rfl h
 |[],_::_,_=>by simp only[B7]
 |_::_,[],_=>by simp only[B7]
 |x::xs,y::ys,h=>by
  simp only[B7]
  rw[OY (xs:=xs) (ys:=ys) (by simpa using h),Bool.and_false]
theorem OZ:∀{xs ys:List D},xs.length=ys.length->B7 xs ys=(BL xs.length).all λj=>Az (xs.getD j .non) (ys.getD j .non)
 |[],[],_=>by simp[B7]
 |[],_::_,h=>by simp at h
 |_::_,[],h=>by simp at h
 |x::xs,y::ys,h=>by
  have a:=OZ (xs:=xs) (ys:=ys) (by simpa using h)
  simp only[B7,A9,List.range_succ_eq_map,Kw,List.getD_cons_zero,List.all_map,a]
  rfl
section
variable{X:Cx}{pins:List (Ad×AJ)}{σ:St}{H:Hp}{s:Ac}
theorem Inv.apart(I:Inv X pins σ H s){a:Ad}{xs ys:List V}(h:Bn X.K H a xs)(h':BE X.K H a ys):False:=by
 obtain⟨g,r,⟨o,n,e,c,_⟩,_⟩:=I.list h
 obtain⟨b,i,⟨j,d,f,_⟩,_⟩:=I.tuple h'
 rw[e]at d;cases d
 rw[c]at f
 exact absurd f (by decide)
theorem Rd.dct_inj{H:Hp}{a:Ad}{d c:List KT}{vs b:List V}(h:Rd H a (.dct d vs))(h':Rd H a (.dct c b)):vs=b:=by
 rcases h with h|⟨o,h⟩<;>rcases h' with h'|⟨e,h'⟩<;>(rw[h]at h';cases h';try rfl)
theorem Inv.apartDL(I:Inv X pins σ H s){a:Ad}{g:List KT}{xs ys:List V}(h:Rd H a (.dct g xs))(h':Bn X.K H a ys):False:=by
 obtain⟨_,_,_,o,_,_,e,c,_⟩:=h.ok I.hok
 obtain⟨b,i,⟨j,k,d,f,_⟩,_⟩:=I.list h'
 rw[e]at d;cases d
 rw[c.1]at f
 exact absurd f (by decide)
theorem Inv.apartDT(I:Inv X pins σ H s){a:Ad}{g:List KT}{xs ys:List V}(h:Rd H a (.dct g xs))(h':BE X.K H a ys):False:=by
 obtain⟨_,_,_,o,_,_,e,c,_⟩:=h.ok I.hok
 obtain⟨b,i,⟨j,d,f,_⟩,_⟩:=I.tuple h'
 rw[e]at d;cases d
 rw[c.1]at f
 exact absurd f (by decide)
theorem Inv.apartIL(I:Inv X pins σ H s){a C b:Ad}{fs:List (Af×V)}{ys:List V}(h:H a=some (.ins C b fs))(h':Bn X.K H a ys):False:=by
 obtain⟨_,_,_,e,_⟩:=(show AZ X.prog X.w H s.heap a (.ins C b fs)from I.hok a _ h)
 obtain⟨c,g,⟨i,j,d,f,_⟩,_⟩:=I.list h'
 rw[e]at d;cases d
 exact nomatch f
theorem Inv.apartIT(I:Inv X pins σ H s){a C b:Ad}{fs:List (Af×V)}{ys:List V}(h:H a=some (.ins C b fs))(h':BE X.K H a ys):False:=by
 obtain⟨_,_,_,e,_⟩:=(show AZ X.prog X.w H s.heap a (.ins C b fs)from I.hok a _ h)
 obtain⟨c,g,⟨i,d,f,_⟩,_⟩:=I.tuple h'
 rw[e]at d;cases d
 exact nomatch f
theorem TJ{a C b:Ad}{fs:List (Af×V)}{c:List KT}{ys:List V}(h:H a=some (.ins C b fs))(h':Rd H a (.dct c ys)):False:=by
 rcases h' with h'|⟨o,h'⟩<;>rw[h]at h'<;>cases h'
theorem AA.ins{K:Ap}{N:Fb}{ns:List Af}{xs:List D}{v:V}(h:AA K N H (.ins ns xs) v):∃a C b vs,v=.ref a/\Eo K C/\¬ N a/\H a=some (.ins C b (ns.zip vs))/\ns.length=vs.length/\Ae K N H xs vs:=by simpa only[AA,Aq]using h
theorem TK{i j:Type}:∀{f g:List i}{bs h:List j},f.length=bs.length->g.length=h.length->f.zip bs=g.zip h->f=g/\bs=h
 |[],[],[],[],_,_,_=>⟨rfl,rfl⟩
 |a::f,c::g,b::bs,d::h,k,l,e=>by
  simp only[ET,Kx,Prod.mk.injEq]at e
  obtain⟨m,n⟩:=TK (by simpa using k) (by simpa using l) e.2
  exact⟨by rw[e.1.1,m],by rw[e.1.2,n]⟩
 |[],c::g,[],d::h,_,_,e=>by simp at e
 |a::f,[],b::bs,[],_,_,e=>by simp at e
mutual
/-- what an address denotes is one thing -/
theorem TL(I:Inv X pins σ H s){N p:Fb}:∀(d d':D)(v:V),AA X.K N H d v->AA X.K p H d' v->d=d'
 |.non,d',v,h,c=>by
  have h:=h.non
  cases d' with
  |non=>rfl
  |bl _=>rw[c.bl]at h;cases h
  |int _=>rw[c.int]at h;cases h
  |str _=>rw[c.str]at h;cases h
  |ty _=>rw[c.ty]at h;cases h
  |ins _ _=>obtain⟨_,_,_,_,e,_⟩:=c.ins;rw[e]at h;cases h
  |tup _=>obtain⟨_,_,e,_⟩:=c.tup;rw[e]at h;cases h
  |lst _ g=>cases g<;>(obtain⟨_,_,e,_⟩:=c;rw[e]at h;cases h)
 |.bl _,d',v,h,c=>by
  have h:=h.bl
  cases d' with
  |non=>rw[c.non]at h;cases h
  |bl _=>rw[c.bl]at h;cases h;rfl
  |int _=>rw[c.int]at h;cases h
  |str _=>rw[c.str]at h;cases h
  |ty _=>rw[c.ty]at h;cases h
  |ins _ _=>obtain⟨_,_,_,_,e,_⟩:=c.ins;rw[e]at h;cases h
  |tup _=>obtain⟨_,_,e,_⟩:=c.tup;rw[e]at h;cases h
  |lst _ g=>cases g<;>(obtain⟨_,_,e,_⟩:=c;rw[e]at h;cases h)
 |.int _,d',v,h,c=>by
  have h:=h.int
  cases d' with
  |non=>rw[c.non]at h;cases h
  |bl _=>rw[c.bl]at h;cases h
  |int _=>rw[c.int]at h;cases h;rfl
  |str _=>rw[c.str]at h;cases h
  |ty _=>rw[c.ty]at h;cases h
  |ins _ _=>obtain⟨_,_,_,_,e,_⟩:=c.ins;rw[e]at h;cases h
  |tup _=>obtain⟨_,_,e,_⟩:=c.tup;rw[e]at h;cases h
  |lst _ g=>cases g<;>(obtain⟨_,_,e,_⟩:=c;rw[e]at h;cases h)
 |.str _,d',v,h,c=>by
  have h:=h.str
  cases d' with
  |non=>rw[c.non]at h;cases h
  |bl _=>rw[c.bl]at h;cases h
  |int _=>rw[c.int]at h;cases h
  |str _=>rw[c.str]at h;cases h;rfl
  |ty _=>rw[c.ty]at h;cases h
  |ins _ _=>obtain⟨_,_,_,_,e,_⟩:=c.ins;rw[e]at h;cases h
  |tup _=>obtain⟨_,_,e,_⟩:=c.tup;rw[e]at h;cases h
  |lst _ g=>cases g<;>(obtain⟨_,_,e,_⟩:=c;rw[e]at h;cases h)
 |.ty _,d',v,h,c=>by
  have h:=h.ty
  cases d' with
  |non=>rw[c.non]at h;cases h
  |bl _=>rw[c.bl]at h;cases h
  |int _=>rw[c.int]at h;cases h
  |str _=>rw[c.str]at h;cases h
  |ty _=>rw[c.ty]at h;cases h;rfl
  |ins _ _=>obtain⟨_,_,_,_,e,_⟩:=c.ins;rw[e]at h;cases h
  |tup _=>obtain⟨_,_,e,_⟩:=c.tup;rw[e]at h;cases h
  |lst _ g=>cases g<;>(obtain⟨_,_,e,_⟩:=c;rw[e]at h;cases h)
 |.tup l,d',v,h,c=>by
  obtain⟨a,m,e,q,r⟩:=h.tup
  subst e
  cases d' with
  |non=>cases c.non
  |bl _=>cases c.bl
  |int _=>cases c.int
  |str _=>cases c.str
  |ty _=>cases c.ty
  |ins _ _=>obtain⟨b,C,n,i,e,_,_,f,_⟩:=c.ins;cases e;exact(I.apartIT f q).elim
  |tup k=>
   obtain⟨b,i,e,f,j⟩:=c.tup
   cases e
   have:=I.tuple_inj q f
   subst this
   rw[HW I l k m r j]
  |lst _ g=>
   cases g with
   |false=>obtain⟨b,i,e,f,_⟩:=c;cases e;exact(I.apart f q).elim
   |true=>obtain⟨b,i,e,f,_⟩:=c;cases e;exact(I.apartDT f q).elim
 |.lst l true,d',v,h,c=>by
  obtain⟨a,m,e,q,r⟩:=h
  subst e
  cases d' with
  |non=>cases c.non
  |bl _=>cases c.bl
  |int _=>cases c.int
  |str _=>cases c.str
  |ty _=>cases c.ty
  |ins _ _=>obtain⟨b,C,n,i,e,_,_,f,_⟩:=c.ins;cases e;exact(TJ f q).elim
  |tup k=>obtain⟨b,i,e,f,j⟩:=c.tup;cases e;exact(I.apartDT q f).elim
  |lst k g=>
   cases g with
   |false=>obtain⟨b,i,e,f,j⟩:=c;cases e;exact(I.apartDL q f).elim
   |true=>
    obtain⟨b,i,e,f,j⟩:=c
    cases e
    have:=Rd.dct_inj q f
    subst this
    rw[HW I l k m r j]
 |.lst l false,d',v,h,c=>by
  obtain⟨a,m,e,q,r⟩:=h
  subst e
  cases d' with
  |non=>cases c.non
  |bl _=>cases c.bl
  |int _=>cases c.int
  |str _=>cases c.str
  |ty _=>cases c.ty
  |ins _ _=>obtain⟨b,C,n,i,e,_,_,f,_⟩:=c.ins;cases e;exact(I.apartIL f q).elim
  |tup k=>obtain⟨b,i,e,f,j⟩:=c.tup;cases e;exact(I.apart q f).elim
  |lst k g=>
   cases g with
   |true=>obtain⟨b,i,e,f,j⟩:=c;cases e;exact(I.apartDL f q).elim
   |false=>
   obtain⟨b,i,e,f,j⟩:=c
   cases e
   have:=I.list_inj q f
   subst this
   rw[HW I l k m r j]
 |.ins ns l,d',v,h,c=>by
  obtain⟨a,C,n,m,e,y,_,q,t,r⟩:=h.ins
  subst e
  cases d' with
  |non=>cases c.non
  |bl _=>cases c.bl
  |int _=>cases c.int
  |str _=>cases c.str
  |ty _=>cases c.ty
  |ins z k=>
   obtain⟨b,A,u,i,e,_,_,f,o,j⟩:=c.ins
   cases e
   rw[q]at f
   injection f with f
   injection f with _ _ f
   obtain⟨w,x⟩:=TK t o f
   subst w x
   rw[HW I l k m r j]
  |tup _=>obtain⟨b,i,e,f,_⟩:=c.tup;cases e;exact(I.apartIT q f).elim
  |lst _ g=>
   cases g with
   |false=>obtain⟨b,i,e,f,_⟩:=c;cases e;exact(I.apartIL q f).elim
   |true=>obtain⟨b,i,e,f,_⟩:=c;cases e;exact(TJ q f).elim
theorem HW(I:Inv X pins σ H s){N b:Fb}:∀(xs ys:List D)(vs:List V),Ae X.K N H xs vs->Ae X.K b H ys vs->xs=ys
 |[],ys,vs,h,a=>by
  simp only[Ae]at h;subst h
  cases ys with
  |nil=>rfl
  |cons y ys=>simp only[Ae]at a;obtain⟨_,_,e,_⟩:=a;cases e
 |x::xs,ys,vs,h,a=>by
  simp only[Ae]at h
  obtain⟨v,r,e,q,t⟩:=h
  subst e
  cases ys with
  |nil=>simp only[Ae]at a;cases a
  |cons y ys=>
   simp only[Ae]at a
   obtain⟨f,g,e,c,d⟩:=a
   cases e
   rw[TL I x y v q.p c.p,HW I xs ys r t d]
end
open SeqAt
theorem B3{a:Type}{xs:List a}{j:Nat}{d e:a}(h:xs[j]?=some e):xs.getD j d=e:=by simp[List.getD_eq_getElem?_getD,h]
theorem L6{a:List Aa}{j:Nat}{u:Aa}(b:j<a.toArray.size)(e:a[j]?=some u):a.toArray[j]=u:=by
 obtain⟨_,e⟩:=List.getElem?_eq_some_iff.mp e
 simpa using e
def TM(A:Ah)(s:Ac)(u v:Aa)(b:Bool):Prop:=RcAt A s u v b/\EqAt A s u v b/\RcNeAt A s u v (!b)
theorem HX(A:Ah):A.in1.units=A.units+1:=rfl
theorem TN(I:Inv X pins σ H s){N:Fb}(A:Ah)(x y:D)(g h:V)(u v:Aa)(l:A.units+0<AE)(i:A4 0 x=true)(e:A4 0 y=true)(f:AA X.K N H x g)(b:AA X.K N H y h)(c:RelV g u)(a:RelV h v):TM A s u v (Az x y):=by
 have j:A.units<AE:=by omega
 cases x with
 |non=>
  rw[f.non]at c;cases c
  cases y with
  |non=>rw[b.non]at a;cases a;simp only[Az];exact⟨RcAt.none_none,EqAt.same _,RcNeAt.none_none⟩
  |bl _=>rw[b.bl]at a;cases a;simp only[Az];exact⟨RcAt.none_bool _,EqAt.none_bool _,RcNeAt.none_bool _⟩
  |int _=>rw[b.int]at a;obtain⟨d,rfl⟩:=a;simp only[Az];exact⟨RcAt.none_int _ _,EqAt.none_int _ _,RcNeAt.none_int _ _⟩
  |str _=>rw[b.str]at a;obtain⟨d,rfl⟩:=a;simp only[Az];exact⟨RcAt.none_str _ _,EqAt.none_str _ _,RcNeAt.none_str _ _⟩
  |_=>simp[A4]at e
 |bl _=>
  rw[f.bl]at c;cases c
  cases y with
  |non=>rw[b.non]at a;cases a;simp only[Az];exact⟨RcAt.bool_none _,EqAt.bool_none _,RcNeAt.bool_none _⟩
  |bl _=>rw[b.bl]at a;cases a;simp only[Az];exact⟨RcAt.bool_bool _ _,EqAt.bool_bool _ _,RcNeAt.bool_bool _ _⟩
  |int _=>rw[b.int]at a;obtain⟨d,rfl⟩:=a;simp only[Az];exact⟨RcAt.bool_int _ _ _,EqAt.bool_int _ _ _,RcNeAt.bool_int _ _ _⟩
  |str _=>rw[b.str]at a;obtain⟨d,rfl⟩:=a;simp only[Az];exact⟨RcAt.bool_str _ _ _,EqAt.bool_str _ _ _,RcNeAt.bool_str _ _ _⟩
  |_=>simp[A4]at e
 |int _=>
  rw[f.int]at c;obtain⟨k,rfl⟩:=c
  cases y with
  |non=>rw[b.non]at a;cases a;simp only[Az];exact⟨RcAt.int_none _ _,EqAt.int_none _ _,RcNeAt.int_none _ _⟩
  |bl _=>rw[b.bl]at a;cases a;simp only[Az];exact⟨RcAt.int_bool _ _ _,EqAt.int_bool _ _ _,RcNeAt.int_bool _ _ _⟩
  |int _=>rw[b.int]at a;obtain⟨d,rfl⟩:=a;simp only[Az];exact⟨RcAt.int_int _ _ _ _,EqAt.int_int _ _ _ _,RcNeAt.int_int _ _ _ _⟩
  |str _=>rw[b.str]at a;obtain⟨d,rfl⟩:=a;simp only[Az];exact⟨RcAt.int_str _ _ _ _,EqAt.int_str _ _ _ _,RcNeAt.int_str _ _ _ _⟩
  |_=>simp[A4]at e
 |str _=>
  rw[f.str]at c;obtain⟨k,rfl⟩:=c
  cases y with
  |non=>rw[b.non]at a;cases a;simp only[Az];exact⟨RcAt.str_none _ _,EqAt.str_none _ _,RcNeAt.str_none _ _⟩
  |bl _=>rw[b.bl]at a;cases a;simp only[Az];exact⟨RcAt.str_bool _ _ _,EqAt.str_bool _ _ _,RcNeAt.str_bool _ _ _⟩
  |int _=>rw[b.int]at a;obtain⟨d,rfl⟩:=a;simp only[Az];exact⟨RcAt.str_int _ _ _ _,EqAt.str_int _ _ _ _,RcNeAt.str_int _ _ _ _⟩
  |str _=>rw[b.str]at a;obtain⟨d,rfl⟩:=a;simp only[Az];exact⟨RcAt.str_str _ _ _ _,EqAt.str_str _ _ _ _,RcNeAt.str_str _ _ _ _⟩
  |_=>simp[A4]at e
 |_=>simp[A4]at i
theorem Jg(I:Inv X pins σ H s){N:Fb}:∀(n:Nat)(A:Ah)(x y:D)(vx vy:V)(u v:Aa),A.units+n<AE->A4 n x=true->A4 n y=true->AA X.K N H x vx->AA X.K N H y vy->RelV vx u->RelV vy v->TM A s u v (Az x y):=by
 intro n
 induction n with
 |zero=>exact TN I
 |succ n ih=>
  intro A x y vx vy u v hu M k C q r i
  have c:A.units<AE:=by omega
  have Z:=λa b=>TN I A x y vx vy u v c a b C q r i
  cases x with
  |non=>
   cases y with
   |tup h=>rw[C.non]at r;cases r;obtain⟨a2,m,o,q2,d2⟩:=q.tup;subst o;cases i;obtain⟨d,z,f,E⟩:=I.tuple q2;simp only[Az];exact⟨RcAt.none_tuple f c,EqAt.none_tuple f c,RcNeAt.none_tuple f c⟩
   |lst h B=>
    cases B with
    |true=>simp[A4]at k
    |false=>
     rw[C.non]at r;cases r;obtain⟨a2,m,o,q2,d2⟩:=q;subst o;cases i;obtain⟨d,z,f,E⟩:=I.list q2;simp only[Az];exact⟨RcAt.none_list f.isList c,EqAt.none_list f.isList c,RcNeAt.none_list f.isList c⟩
   |ty _=>simp[A4]at k
   |ins _ _=>simp[A4]at k
   |_=>exact Z rfl rfl
  |bl _=>
   cases y with
   |tup h=>rw[C.bl]at r;cases r;obtain⟨a2,m,o,q2,d2⟩:=q.tup;subst o;cases i;obtain⟨d,z,f,E⟩:=I.tuple q2;simp only[Az];exact⟨RcAt.bool_tuple _ f c,EqAt.bool_tuple _ f c,RcNeAt.bool_tuple _ f c⟩
   |lst h B=>
    cases B with
    |true=>simp[A4]at k
    |false=>
     rw[C.bl]at r;cases r;obtain⟨a2,m,o,q2,d2⟩:=q;subst o;cases i;obtain⟨d,z,f,E⟩:=I.list q2;simp only[Az];exact⟨RcAt.bool_list _ f.isList c,EqAt.bool_list _ f.isList c,RcNeAt.bool_list _ f.isList c⟩
   |ty _=>simp[A4]at k
   |ins _ _=>simp[A4]at k
   |_=>exact Z rfl rfl
  |int _=>
   cases y with
   |tup h=>rw[C.int]at r;obtain⟨t1,rfl⟩:=r;obtain⟨a2,m,o,q2,d2⟩:=q.tup;subst o;cases i;obtain⟨d,z,f,E⟩:=I.tuple q2;simp only[Az];exact⟨RcAt.int_tuple _ _ f c,EqAt.int_tuple _ _ f c,RcNeAt.int_tuple _ _ f c⟩
   |lst h B=>
    cases B with
    |true=>simp[A4]at k
    |false=>
     rw[C.int]at r;obtain⟨t1,rfl⟩:=r;obtain⟨a2,m,o,q2,d2⟩:=q;subst o;cases i;obtain⟨d,z,f,E⟩:=I.list q2;simp only[Az];exact⟨RcAt.int_list _ _ f.isList c,EqAt.int_list _ _ f.isList c,RcNeAt.int_list _ _ f.isList c⟩
   |ty _=>simp[A4]at k
   |ins _ _=>simp[A4]at k
   |_=>exact Z rfl rfl
  |str _=>
   cases y with
   |tup h=>rw[C.str]at r;obtain⟨t1,rfl⟩:=r;obtain⟨a2,m,o,q2,d2⟩:=q.tup;subst o;cases i;obtain⟨d,z,f,E⟩:=I.tuple q2;simp only[Az];exact⟨RcAt.str_tuple _ _ f c,EqAt.str_tuple _ _ f c,RcNeAt.str_tuple _ _ f c⟩
   |lst h B=>
    cases B with
    |true=>simp[A4]at k
    |false=>
     rw[C.str]at r;obtain⟨t1,rfl⟩:=r;obtain⟨a2,m,o,q2,d2⟩:=q;subst o;cases i;obtain⟨d,z,f,E⟩:=I.list q2;simp only[Az];exact⟨RcAt.str_list _ _ f.isList c,EqAt.str_list _ _ f.isList c,RcNeAt.str_list _ _ f.isList c⟩
   |ty _=>simp[A4]at k
   |ins _ _=>simp[A4]at k
   |_=>exact Z rfl rfl
  |tup l=>
   obtain⟨a1,vs1,e1,q1,d1⟩:=C.tup;subst e1;cases r;obtain⟨g,r1,p1,z1⟩:=I.tuple q1
   cases y with
   |non=>rw[q.non]at i;cases i;simp only[Az];exact⟨RcAt.tuple_none p1 c,EqAt.tuple_none p1 c,RcNeAt.tuple_none p1 c⟩
   |bl _=>rw[q.bl]at i;cases i;simp only[Az];exact⟨RcAt.tuple_bool _ p1 c,EqAt.tuple_bool _ p1 c,RcNeAt.tuple_bool _ p1 c⟩
   |int _=>rw[q.int]at i;obtain⟨t2,rfl⟩:=i;simp only[Az];exact⟨RcAt.tuple_int _ _ p1 c,EqAt.tuple_int _ _ p1 c,RcNeAt.tuple_int _ _ p1 c⟩
   |str _=>rw[q.str]at i;obtain⟨t2,rfl⟩:=i;simp only[Az];exact⟨RcAt.tuple_str _ _ p1 c,EqAt.tuple_str _ _ p1 c,RcNeAt.tuple_str _ _ p1 c⟩
   |tup h=>
    obtain⟨a2,m,o,q2,d2⟩:=q.tup;subst o;cases i;obtain⟨d,z,f,E⟩:=I.tuple q2
    simp only[A4]at M k
    have l1:=r1.length
    have l2:=z.length
    have m1:=d1.length
    have m2:=d2.length
    simp only[Az]
    have O:RcAt A s (.ref a1) (.ref a2) (B7 l h)/\RcNeAt A s (.ref a1) (.ref a2) (!B7 l h):=by
     have t:∀j (Q:j<g.toArray.size) (T:j<d.toArray.size),EqAt A.in1 s g.toArray[j] d.toArray[j] (Az (l.getD j .non) (h.getD j .non)):=λj Q T=>?_
     ·have G:=RcAt.tuples (A:=A) (s:=s) (e:=λj=>Az (l.getD j .non) (h.getD j .non)) p1 f c t
      have w:=RcNeAt.tuples (A:=A) (s:=s) (e:=λj=>Az (l.getD j .non) (h.getD j .non)) p1 f c t
      have e:((BL (min g.toArray.size d.toArray.size)).all (λj=>Az (l.getD j .non) (h.getD j .non))&&g.toArray.size==d.toArray.size)=B7 l h:=by
       rw[Bu,Bu]
       by_cases hl:l.length=h.length
       ·rw[OZ hl,show g.length=l.length by omega,show d.length=l.length by omega,Nat.min_self];simp
       ·rw[OY hl,show(g.length==d.length)=false by simp;omega,Bool.and_false]
      rw[e]at G w
      exact⟨G,w⟩
     ·have J:j<l.length:=by rw[Bu]at Q;omega
      have L:j<h.length:=by rw[Bu]at T;omega
      have g1:=DG J
      have g2:=DG L
      obtain⟨w1,U,Y⟩:=d1.get g1
      obtain⟨w2,hw2,dw2⟩:=d2.get g2
      obtain⟨u1,hu1,ru1⟩:=r1.get U
      obtain⟨u2,hu2,ru2⟩:=z.get hw2
      rw[L6 Q hu1,L6 T hu2,B3 g1,B3 g2]
      exact(ih A.in1 _ _ _ _ _ _ (by rw[HX];omega) (Eb.mp M _ (FY J)) (Eb.mp k _ (FY L)) Y.p dw2.p ru1 ru2).2.1
    refine⟨O.1,?_,O.2⟩
    by_cases ea:a1=a2
    ·subst ea
     have:=I.tuple_inj q1 q2
     subst this
     rw[HW I l h _ d1 d2,Kv n h k]
     exact EqAt.same _
    ·exact EqAt.of_refs ea O.1
   |lst h B=>
    cases B with
    |true=>simp[A4]at k
    |false=>
     obtain⟨a2,m,o,q2,d2⟩:=q;subst o;cases i;obtain⟨d,z,f,E⟩:=I.list q2;simp only[Az];exact⟨RcAt.tuple_list p1 f.isList c,EqAt.tuple_list p1 f.isList c,RcNeAt.tuple_list p1 f.isList c⟩
   |ty _=>simp[A4]at k
   |ins _ _=>simp[A4]at k
  |lst l B=>
   cases B with
   |true=>simp[A4]at M
   |false=>
    obtain⟨a1,vs1,e1,q1,d1⟩:=C;subst e1;cases r;obtain⟨g,r1,p1,z1⟩:=I.list q1
    cases y with
    |non=>rw[q.non]at i;cases i;simp only[Az];exact⟨RcAt.list_none p1.isList c,EqAt.list_none p1.isList c,RcNeAt.list_none p1.isList c⟩
    |bl _=>rw[q.bl]at i;cases i;simp only[Az];exact⟨RcAt.list_bool _ p1.isList c,EqAt.list_bool _ p1.isList c,RcNeAt.list_bool _ p1.isList c⟩
    |int _=>rw[q.int]at i;obtain⟨t2,rfl⟩:=i;simp only[Az];exact⟨RcAt.list_int _ _ p1.isList c,EqAt.list_int _ _ p1.isList c,RcNeAt.list_int _ _ p1.isList c⟩
    |str _=>rw[q.str]at i;obtain⟨t2,rfl⟩:=i;simp only[Az];exact⟨RcAt.list_str _ _ p1.isList c,EqAt.list_str _ _ p1.isList c,RcNeAt.list_str _ _ p1.isList c⟩
    |tup h=>obtain⟨a2,m,o,q2,d2⟩:=q.tup;subst o;cases i;obtain⟨d,z,f,E⟩:=I.tuple q2;simp only[Az];exact⟨RcAt.list_tuple p1.isList f c,EqAt.list_tuple p1.isList f c,RcNeAt.list_tuple p1.isList f c⟩
    |lst h B=>
     cases B with
     |true=>simp[A4]at k
     |false=>
      obtain⟨a2,m,o,q2,d2⟩:=q;subst o;cases i;obtain⟨d,z,f,E⟩:=I.list q2
      simp only[A4]at M k
      have l1:=r1.length
      have l2:=z.length
      have m1:=d1.length
      have m2:=d2.length
      simp only[Az]
      have O:RcAt A s (.ref a1) (.ref a2) (B7 l h)/\RcNeAt A s (.ref a1) (.ref a2) (!B7 l h):=by
       by_cases hl:l.length=h.length
       ·have t:∀j (Q:j<g.toArray.size) (T:j<d.toArray.size),EqAt A.in1 s g.toArray[j] d.toArray[j] (Az (l.getD j .non) (h.getD j .non)):=λj Q T=>?_
        ·have G:=RcAt.lists (A:=A) (s:=s) (e:=λj=>Az (l.getD j .non) (h.getD j .non)) p1.isList f.isList (by rw[Bu,Bu];omega) c t
         have w:=RcNeAt.lists (A:=A) (s:=s) (e:=λj=>Az (l.getD j .non) (h.getD j .non)) p1.isList f.isList (by rw[Bu,Bu];omega) c t
         have e:(BL g.toArray.size).all (λj=>Az (l.getD j .non) (h.getD j .non))=B7 l h:=by
          rw[Bu,OZ hl,show g.length=l.length by omega]
         rw[e]at G w
         exact⟨G,w⟩
        ·have J:j<l.length:=by rw[Bu]at Q;omega
         have L:j<h.length:=by rw[Bu]at T;omega
         have g1:=DG J
         have g2:=DG L
         obtain⟨w1,U,Y⟩:=d1.get g1
         obtain⟨w2,hw2,dw2⟩:=d2.get g2
         obtain⟨u1,hu1,ru1⟩:=r1.get U
         obtain⟨u2,hu2,ru2⟩:=z.get hw2
         rw[L6 Q hu1,L6 T hu2,B3 g1,B3 g2]
         exact(ih A.in1 _ _ _ _ _ _ (by rw[HX];omega) (Eb.mp M _ (FY J)) (Eb.mp k _ (FY L)) Y.p dw2.p ru1 ru2).2.1
       ·rw[OY hl]
        have hne:(g.toArray.size != d.toArray.size)=true:=by rw[Bu,Bu];simp;omega
        exact⟨RcAt.lists_lengths p1.isList f.isList hne c,RcNeAt.lists_lengths p1.isList f.isList hne c⟩
      refine⟨O.1,?_,O.2⟩
      by_cases ea:a1=a2
      ·subst ea
       have:=I.list_inj q1 q2
       subst this
       rw[HW I l h _ d1 d2,Kv n h k]
       exact EqAt.same _
      ·exact EqAt.of_refs ea O.1
    |ty _=>simp[A4]at k
    |ins _ _=>simp[A4]at k
  |ty _=>simp[A4]at M
  |ins _ _=>simp[A4]at M
end
def deep:Nat:=12
@[simp] def Bo(x y:D):Option D:=if A4 deep x&&A4 deep y then some (.bl (Az x y))else none
@[simp] def Ec(x y:D):Option D:=if A4 deep x&&A4 deep y then some (.bl (!Az x y))else none
def L7(K:Ap)(neg:Bool):R2:=λx y H Q=>∃N d1 d2,AA K N H d1 x/\AA K N H d2 y/\A4 deep d1=true/\A4 deep d2=true/\Q (.bl (if neg then !Az d1 d2 else Az d1 d2)) H
section
variable{X:Cx}{K:Ap}{M:Fb}{H0:Hp}{a b:Expr}{f g:VE->Option D}{pos:AT}
theorem TQ(i:X.A.units+64<AE):BU X (Dd .Eq) (L7 X.K false):=by
 intro a s j H x y v u Q I b c h
 obtain⟨N,d1,d2,d,e,f,g,q⟩:=h
 exact(Jg I deep X.A d1 d2 x y v u (by unfold deep;omega) f g d e b c).1 X.prog X.w X.xe _ ⟨.bl _,H,I,rfl,q⟩
theorem TR(i:X.A.units+64<AE):BU X (Dd .NotEq) (L7 X.K true):=by
 intro a s j H x y v u Q I b c h
 obtain⟨N,d1,d2,d,e,f,g,q⟩:=h
 exact(Jg I deep X.A d1 d2 x y v u (by unfold deep;omega) f g d e b c).2.2 X.prog X.w X.xe _ ⟨.bl _,H,I,rfl,q⟩
theorem TU:CB K (L7 K false) Bo:=by
 intro N H x y d1 d2 d Q f b c e q
 unfold Bo at e
 split at e
 ·next a=>rw[C5]at a;cases e;exact⟨N,d1,d2,b,c,a.1,a.2,q _ H (Ak.refl H) Fq⟩
 ·cases e
theorem TV:CB K (L7 K true) Ec:=by
 intro N H x y d1 d2 d Q f b c e q
 unfold Ec at e
 split at e
 ·next a=>rw[C5]at a;cases e;exact⟨N,d1,d2,b,c,a.1,a.2,q _ H (Ak.refl H) Fq⟩
 ·cases e
def HY(x:D)(ys:List D):Bool:=ys.any λy=>Az y x
@[simp] def FZ(neg:Bool)(x y:D):Option D:=match y with
  |.lst a=>if A4 deep x&&a.all (A4 deep)then some (.bl (if neg then !HY x a else HY x a))else none
  |.tup a=>if A4 deep x&&a.all (A4 deep)then some (.bl (if neg then !HY x a else HY x a))else none
  |.str z=>match x with
   |.str w=>some (.bl (if neg then !(!(Oc z w 0 z.length 1).isEmpty)else !(Oc z w 0 z.length 1).isEmpty))
   |_=>none
  |_=>none
def TW(K:Ap)(neg:Bool):R2:=λx y H Q=>∃N d1 a b p,AA K N H d1 x/\y=.ref p/\(Bn K H p b\/BE K H p b)/\Ae K N H a b/\A4 deep d1=true/\a.all (A4 deep)=true/\Q (.bl (if neg then !HY d1 a else HY d1 a)) H
open Classical in
def F0(K:Ap)(N:Fb)(H:Hp)(x:D)(u:Aa):Bool:=decide (∃d w,AA K N H d w/\RelV w u/\Az d x=true)
theorem TX{a:List (Ad×AJ)}{σ:St}{H:Hp}{s:Ac}(I:Inv X a σ H s){N:Fb}{x d:D}{w:V}{u:Aa}(hd:AA X.K N H d w)(r:RelV w u):F0 X.K N H x u=Az d x:=by
 classical
 unfold F0
 cases e:Az d x with
 |true=>exact @decide_eq_true _ (Fp _) ⟨d,w,hd,r,e⟩
 |false=>
  refine @decide_eq_false _ (Fp _) ?_
  rintro⟨f,h,b,g,c⟩
  have:=g.inj r
  subst this
  have:=TL I f d _ b hd
  subst this
  rw[e]at c;cases c
theorem O0{a:List (Ad×AJ)}{σ:St}{H:Hp}{s:Ac}(I:Inv X a σ H s){N:Fb}{x:D}:∀{ys:List D}{vs:List V}{us:List Aa},Ae X.K N H ys vs->Am vs us->us.any (F0 X.K N H x)=HY x ys
 |[],_,_,h,r=>by simp only[Ae]at h;subst h;cases r;rfl
 |y::ys,_,_,h,r=>by
  simp only[Ae]at h
  obtain⟨v,t,e,b,c⟩:=h
  subst e
  cases r with
  |cons d f=>
   rw[List.any_cons,TX I b.p d,O0 I c f]
   rfl
theorem TY{a:List (Ad×AJ)}{σ:St}{H:Hp}{s:Ac}(I:Inv X a σ H s){N:Fb}{A:Ah}{x:D}{d:V}{v:Aa}(l:A.units+deep<AE)(m:A4 deep x=true)(n:AA X.K N H x d)(o:RelV d v){ys:List D}{vs:List V}{us:List Aa}(h:Ae X.K N H ys vs)(r:Am vs us)(q:ys.all (A4 deep)=true):
  ∀u∈us,SeqAt.EqAt A s u v (F0 X.K N H x u):=by
 intro u b
 obtain⟨j,e⟩:=List.getElem?_of_mem b
 have w:=r.length
 have c:j<vs.length:=by have:=(List.getElem?_eq_some_iff.mp e).1;omega
 have f:=DG c
 obtain⟨z,g,i⟩:=r.get f
 rw[e]at g;cases g
 obtain⟨y,t,k⟩:=h.get' f
 rw[TX I k.p i]
 exact(Jg I deep A y x _ _ _ _ l (Eb.mp q y (LK t)) m k.p n i o).2.1
theorem dN(n:X.A.units+64<AE):BU X (Dd .In) (TW X.K false):=by
 intro f s o H x y v u Q I g l h
 obtain⟨N,d1,t,z,p,i,rfl,b,hd,j,k,q⟩:=h
 cases l
 have c:X.A.in1.units+deep<AE:=by rw[HX];unfold deep;omega
 rcases b with b|b
 ·obtain⟨a,r,d,m⟩:=I.list b
  refine SeqAt.in_listAt (F0 X.K N H d1) d.isList (λw e=>TY I c j i g hd r k w (by simpa using e)) ⟨.bl _,H,I,rfl,?_⟩
  rw[show a.toArray.any (F0 X.K N H d1)=a.any (F0 X.K N H d1) by simp,O0 I hd r]
  exact q
 ·obtain⟨a,r,d,m⟩:=I.tuple b
  refine SeqAt.in_tupleAt (F0 X.K N H d1) d (λw e=>TY I c j i g hd r k w (by simpa using e)) ⟨.bl _,H,I,rfl,?_⟩
  rw[show a.toArray.any (F0 X.K N H d1)=a.any (F0 X.K N H d1) by simp,O0 I hd r]
  exact q
theorem dO:CB K (λx y H Q=>TW K false x y H Q\/∃i j,x=.str i/\y=.str j/\Q (.bl (!(Oc j i 0 j.length 1).isEmpty)) H) (FZ false):=by
 intro N H x y d1 d2 d Q l c f e q
 unfold FZ at e
 split at e
 ·split at e
  ·next b=>rw[C5]at b;cases e;obtain⟨a,g,h,q1,k⟩:=f;exact .inl ⟨N,d1,_,g,a,c,h,.inl q1,k,b.1,b.2,q _ H (Ak.refl H) Fq⟩
  ·cases e
 ·split at e
  ·next b=>rw[C5]at b;cases e;obtain⟨a,g,h,q1,k⟩:=f.tup;exact .inl ⟨N,d1,_,g,a,c,h,.inr q1,k,b.1,b.2,q _ H (Ak.refl H) Fq⟩
  ·cases e
 ·split at e
  ·cases e;exact .inr ⟨_,_,c.str,f.str,q _ H (Ak.refl H) Fq⟩
  ·cases e
 ·cases e
@[simp] def E9(lt:D->D->Option Bool):List D->List D->Option Bool
  |[],[]=>some false
  |[],_::_=>some true
  |_::_,[]=>some false
  |x::a,y::b=>if A4 deep x&&A4 deep y then(if Az x y then E9 lt a b else lt x y)else none
@[simp] def ltN:Nat->D->D->Option Bool
  |_,.int i,.int j=>some (decide (i<j))
  |_,.str a,.str b=>some (decide (a.cps.toList<b.cps.toList))
  |n+1,.tup c,.tup d=>E9 (ltN n) c d
  |n+1,.lst c false,.lst d false=>E9 (ltN n) c d
  |_,_,_=>none
@[simp] def Ds(x y:D):Option D:=(ltN 6 x y).map D.bl
def TZ(K:Ap):R2:=λx y H Q=>∃N d1 d2 b,AA K N H d1 x/\AA K N H d2 y/\ltN 6 d1 d2=some b/\Q (.bl b) H
theorem O1{B:List (Ad×AJ)}{σ:St}{H:Hp}{s:Ac}(I:Inv X B σ H s){N:Fb}:∀(n:Nat)(A:Ah)(x y:D)(vx vy:V)(u v:Aa)(b:Bool),A.units+n+deep<AE->ltN n x y=some b->AA X.K N H x vx->AA X.K N H y vy->RelV vx u->RelV vy v ->
  ∀(prog:AS) (j:Ai) (E Q:Aa->Ac->Prop),Q (.bool b) s->wpAny (Ag prog j) A (richCompare .Lt u v) Q E s:=by
 intro n
 induction n with
 |zero=>
  intro A x y vx vy u v b hu h o r f g prog j E Q q
  unfold ltN at h
  split at h
  ·cases h;rw[o.int]at f;rw[r.int]at g;obtain⟨t,rfl⟩:=f;obtain⟨t',rfl⟩:=g;exact HT.rcLt_int A s _ _ _ _ prog j E Q q
  ·cases h;rw[o.str]at f;rw[r.str]at g;obtain⟨t,rfl⟩:=f;obtain⟨t',rfl⟩:=g;exact(PyProof.Rows.lt_str q:wpAny (Ag prog j) A (Dd .Lt _ _) Q E s)
  ·next h0=>cases h0
  ·next h0=>cases h0
  ·cases h
 |succ n ih=>
  intro A x y vx vy u v b hu h o r f g prog j E Q q
  have i:∀(k a:List D) (c d:List V) (D1 D2:List Aa),E9 (ltN n) k a=some b->Ae X.K N H k c->Ae X.K N H a d->Am c D1->Am d D2->Em A.in1 s D1 D2 b:=by
   intro k
   induction k with
   |nil=>
    intro a c d D1 D2 h d1 d2 z l
    simp only[Ae]at d1;subst d1;cases z
    cases a with
    |nil=>simp only[Ae]at d2;subst d2;cases l;cases h;exact .nn
    |cons y a=>simp only[Ae]at d2;obtain⟨w,t,e,_,_⟩:=d2;subst e;cases l;cases h;exact .nc
   |cons x k ihx=>
    intro a c d D1 D2 h d1 d2 z l
    simp only[Ae]at d1;obtain⟨w1,t1,C,G,dt1⟩:=d1;subst C
    cases z with
    |cons J rt1=>
     cases a with
     |nil=>simp only[Ae]at d2;subst d2;cases l;cases h;exact .cn
     |cons y a=>
      simp only[Ae]at d2;obtain⟨w2,t2,L,M,dt2⟩:=d2;subst L
      cases l with
      |cons O rt2=>
       simp only[E9]at h
       split at h
       ·next ho=>
        rw[C5]at ho
        have he:=(Jg I deep A.in1 x y _ _ _ _ (by rw[HX];omega) ho.1 ho.2 G.p M.p J O).2.1
        split at h
        ·next e=>rw[e]at he;exact .eq he (ihx a _ _ _ _ h dt1 dt2 rt1 rt2)
        ·next e=>
         rw[L8]at e
         rw[e]at he
         exact .ne he λprog j E Q q=>ih A.in1 x y _ _ _ _ b (by rw[HX];omega) h G.p M.p J O prog j E Q q
       ·cases h
  unfold ltN at h
  split at h
  ·cases h;rw[o.int]at f;rw[r.int]at g;obtain⟨t,rfl⟩:=f;obtain⟨t',rfl⟩:=g;exact HT.rcLt_int A s _ _ _ _ prog j E Q q
  ·cases h;rw[o.str]at f;rw[r.str]at g;obtain⟨t,rfl⟩:=f;obtain⟨t',rfl⟩:=g;exact(PyProof.Rows.lt_str q:wpAny (Ag prog j) A (Dd .Lt _ _) Q E s)
  ·next m k a e0=>
   cases e0
   obtain⟨a1,c,C,q1,d1⟩:=o.tup
   obtain⟨a2,d,L,q2,d2⟩:=r.tup
   subst C L
   cases f
   cases g
   obtain⟨T,z,p1,_⟩:=I.tuple q1
   obtain⟨U,l,p2,_⟩:=I.tuple q2
   exact cH p1 p2 (by simpa using i k a _ _ _ _ h d1 d2 z l) (by omega) q
  ·next m k a e0=>
   cases e0
   obtain⟨a1,c,C,q1,d1⟩:=o
   obtain⟨a2,d,L,q2,d2⟩:=r
   subst C L
   cases f
   cases g
   obtain⟨T,z,⟨⟨cls,dd,data,sl⟩,n1,ho1,Y,hdd1,hd1⟩,_⟩:=I.list q1
   obtain⟨U,l,⟨⟨cls2,dd2,data2,sl2⟩,n2,ho2,hc2,hdd2,hd2⟩,_⟩:=I.list q2
   simp only at Y hd1 hc2 hd2
   subst Y hd1 hc2 hd2
   exact cI ho1 ho2 (by simpa using i k a _ _ _ _ h d1 d2 z l) (by omega) q
  ·cases h
theorem dP(j:X.A.units+64<AE):BU X (Dd .Lt) (TZ X.K):=by
 intro a s c H x y v u Q I d e h
 obtain⟨N,d1,d2,b,f,g,i,q⟩:=h
 have fin:EP X a c Q (.bool b) s:=⟨.bl b,H,I,rfl,q⟩
 exact O1 I 6 X.A d1 d2 x y v u b (by unfold deep;omega) i f g d e X.prog X.w X.xe _ fin
theorem dQ:CB K (TZ K) Ds:=by
 intro N H x y d1 d2 d Q g c f e q
 unfold Ds at e
 cases a:ltN 6 d1 d2 with
 |none=>rw[a]at e;cases e
 |some b=>rw[a]at e;cases e;exact⟨N,d1,d2,b,c,f,a,q _ H (Ak.refl H) Fq⟩
end
end L2
namespace L2
open PySem PySem.Spec PyProof.Rows
section
variable{K:Ap}{N:Fb}{H:Hp}
theorem Paired.one'{a b:Type}{F:a->b->Prop}{x:a}{vs:List b}(h:Paired F [x] vs):∃v,vs=[v]/\F x v:=by
 cases h with
 |cons r t=>cases t;exact⟨_,rfl,r⟩
theorem Paired.two'{a b:Type}{F:a->b->Prop}{x y:a}{vs:List b}(h:Paired F [x,y] vs):∃v w,vs=[v,w]/\F x v/\F y w:=by
 cases h with
 |cons r t=>
  obtain⟨w,e,q⟩:=Paired.one' t
  subst e
  exact⟨_,w,rfl,r,q⟩
@[simp] def B4:List D->Option D
  |[.lst a]=>some (.int a.length)
  |[.tup a]=>some (.int a.length)
  |[.str x]=>if x.length<=Av then some (.int x.length)else none
  |_=>none
theorem Dh:DY K (λxs H Q=>∃x n,xs=[x]/\Sf K x H n/\Q (.int n) H) B4:=by
 intro N H j k d Q l h e q
 unfold B4 at e
 split at e
 ·cases e
  obtain⟨v,rfl,b⟩:=Paired.one' h
  obtain⟨a,c,f,q1,g⟩:=b
  subst f
  exact⟨.ref a,_,rfl,.inl ⟨c,q1,rfl⟩,by rw[<- g.length];exact q _ H (Ak.refl H) EE⟩
 ·cases e
  obtain⟨v,rfl,b⟩:=Paired.one' h
  obtain⟨a,c,f,q1,g⟩:=b.tup
  subst f
  exact⟨.ref a,_,rfl,.inr ⟨c,q1,rfl⟩,by rw[<- g.length];exact q _ H (Ak.refl H) EE⟩
 ·split at e
  ·next i=>
   cases e
   obtain⟨v,rfl,b⟩:=Paired.one' h
   exact⟨v,_,rfl,by rw[b.str];exact⟨i,rfl⟩,q _ H (Ak.refl H) EE⟩
  ·cases e
 ·cases e
@[simp] def Fa:List D->Option (List D)
  |[.lst a]=>some a
  |[.tup a]=>some a
  |_=>none
theorem HZ:LW K (λxs H Q=>∃p ys,xs=[.ref p]/\(Bn K H p ys\/BE K H p ys)/\∀l,H l=none->Q (.ref l) (AK H l (.lst ys))) Fa:=by
 intro N H i j xs Q k h e q
 unfold Fa at e
 split at e
 ·cases e
  obtain⟨v,rfl,c⟩:=Paired.one' h
  obtain⟨a,b,d,q1,f⟩:=c
  subst d
  exact⟨a,b,rfl,.inl q1,λl g=>q b l g f⟩
 ·cases e
  obtain⟨v,rfl,c⟩:=Paired.one' h
  obtain⟨a,b,d,q1,f⟩:=c.tup
  subst d
  exact⟨a,b,rfl,.inr q1,λl g=>q b l g f⟩
 ·cases e
@[simp] def EG:List D->Option D
  |[.lst a]=>some (.tup a)
  |[.tup a]=>some (.tup a)
  |_=>none
theorem H9:DY K (λxs H Q=>∃p ys,xs=[.ref p]/\((Bn K H p ys/\∀l,H l=none->Q (.ref l) (AK H l (.tup ys)))\/(BE K H p ys/\Q (.ref p) H))) EG:=by
 intro N H j k d Q m h e q
 unfold EG at e
 split at e
 ·cases e
  obtain⟨v,rfl,c⟩:=Paired.one' h
  obtain⟨a,b,f,q1,g⟩:=c
  subst f
  exact⟨a,b,rfl,.inl ⟨q1,λl i=>q _ _ (Z3 i) (Ku i g)⟩⟩
 ·cases e
  obtain⟨v,rfl,c⟩:=Paired.one' h
  obtain⟨a,b,f,q1,g⟩:=c.tup
  subst f
  exact⟨a,b,rfl,.inr ⟨q1,q _ _ (Ak.refl H) (by simp only[Aq];exact⟨a,b,rfl,q1,g⟩)⟩⟩
 ·cases e
def F1:List D->Option (List Bool)
 |[]=>some []
 |.bl b::r=>(F1 r).map (b::·)
 |_=>none
theorem T0:∀{xs:List D}{bs:List Bool},F1 xs=some bs->xs=bs.map D.bl
 |[],_,e=>by cases e;rfl
 |.bl b::r,_,e=>by
  simp only[F1]at e
  cases h:F1 r with
  |none=>rw[h]at e;cases e
  |some bs=>rw[h]at e;cases e;rw[T0 h];rfl
 |.non::_,_,e=>nomatch e
 |.int _::_,_,e=>nomatch e
 |.str _::_,_,e=>nomatch e
 |.ty _::_,_,e=>nomatch e
 |.tup _::_,_,e=>nomatch e
 |.lst _ _::_,_,e=>nomatch e
 |.ins _ _::_,_,e=>nomatch e
theorem T1:∀{bs:List Bool}{vs:List V},Ae K N H (bs.map D.bl) vs->vs=bs.map V.bl
 |[],_,h=>by simpa only[BH,Ae]using h
 |b::bs,_,h=>by
  simp only[AY,Ae,Aq]at h
  obtain⟨v,r,e,a,t⟩:=h
  subst e a
  rw[T1 t];rfl
@[simp] def Hj:List D->Option D
  |[.lst a]=>(F1 a).map λbs=>.bl (bs.all id)
  |_=>none
@[simp] def l0:List D->Option D
  |[.lst a]=>(F1 a).map λbs=>.bl (bs.any id)
  |_=>none
theorem Jh:DY K (λxs H Q=>∃(a:Ad)(bs:List Bool),xs=[.ref a]/\Bn K H a (bs.map V.bl)/\Q (.bl (bs.all id)) H) Hj:=by
 intro N H i j d Q k h e q
 unfold Hj at e
 split at e
 ·next xs=>
  cases b:F1 xs with
  |none=>rw[b]at e;cases e
  |some bs=>
   rw[b]at e;cases e
   obtain⟨v,rfl,f⟩:=Paired.one' h
   obtain⟨a,l,g,q1,c⟩:=f
   subst g
   rw[T0 b]at c
   rw[T1 c]at q1
   exact⟨a,bs,rfl,q1,q _ H (Ak.refl H) Fq⟩
 ·cases e
@[simp] def O2:List D->Option D
  |[.int i,.int j]=>some (.int (if j>i then j else i))
  |_=>none
@[simp] def O3:List D->Option D
  |[.int i,.int j]=>some (.int (if j<i then j else i))
  |_=>none
theorem dR:DY K (λxs H Q=>∃i j,xs=[.int i,.int j]/\Q (.int (if j>i then j else i)) H) O2:=by
 intro N H c f d Q g h e q
 unfold O2 at e
 split at e
 ·cases e
  obtain⟨v,w,rfl,a,b⟩:=Paired.two' h
  exact⟨_,_,by rw[a.int,b.int],q _ H (Ak.refl H) EE⟩
 ·cases e
theorem dS:DY K (λxs H Q=>∃i j,xs=[.int i,.int j]/\Q (.int (if j<i then j else i)) H) O3:=by
 intro N H c f d Q g h e q
 unfold O3 at e
 split at e
 ·cases e
  obtain⟨v,w,rfl,a,b⟩:=Paired.two' h
  exact⟨_,_,by rw[a.int,b.int],q _ H (Ak.refl H) EE⟩
 ·cases e
@[simp] def l5:List D->Option D
  |[.int i]=>some (.int (if i<0 then -i else i))
  |_=>none
@[simp] def l6:List D->Option D
  |[.int i]=>if i.natAbs.log2<1920 then some (.str (toString i))else none
  |_=>none
@[simp] def intD:List D->Option D
  |[.int i]=>some (.int i)
  |[.bl k]=>some (.int (if k then 1 else 0))
  |_=>none
theorem T2:DY K (λxs H Q=>(∃i,xs=[.int i]/\Q (.int i) H)\/∃k,xs=[.bl k]/\Q (.int (if k then 1 else 0)) H) intD:=by
 intro N H b c d Q f h e q
 unfold intD at e
 split at e
 ·cases e
  obtain⟨v,rfl,a⟩:=Paired.one' h
  exact .inl ⟨_,by rw[a.int],q _ H (Ak.refl H) EE⟩
 ·cases e
  obtain⟨v,rfl,a⟩:=Paired.one' h
  exact .inr ⟨_,by rw[a.bl],q _ H (Ak.refl H) EE⟩
 ·cases e
def Ed:List D->Option (List Int)
 |[]=>some []
 |.int b::r=>(Ed r).map (b::·)
 |_=>none
theorem L9:∀{xs:List D}{bs:List Int},Ed xs=some bs->xs=bs.map D.int
 |[],_,e=>by cases e;rfl
 |.int b::r,_,e=>by
  simp only[Ed]at e
  cases h:Ed r with
  |none=>rw[h]at e;cases e
  |some bs=>rw[h]at e;cases e;rw[L9 h];rfl
 |.non::_,_,e=>nomatch e
 |.bl _::_,_,e=>nomatch e
 |.str _::_,_,e=>nomatch e
 |.ty _::_,_,e=>nomatch e
 |.tup _::_,_,e=>nomatch e
 |.lst _ _::_,_,e=>nomatch e
 |.ins _ _::_,_,e=>nomatch e
theorem T4:∀(ns:List Int),Ed (ns.map D.int)=some ns
 |[]=>rfl
 |n::ns=>by simp only[AY,Ed,T4 ns];rfl
theorem Ma:∀{bs:List Int}{vs:List V},Ae K N H (bs.map D.int) vs->vs=bs.map V.int
 |[],_,h=>by simpa only[BH,Ae]using h
 |b::bs,_,h=>by
  simp only[AY,Ae,Aq]at h
  obtain⟨v,r,e,a,t⟩:=h
  subst e a
  rw[Ma t];rfl
end
section
variable{X:Cx}
theorem dU(i:X.calm=true):A8 X (.builtin "sum") (λxs H Q=>∃(a:Ad)(ns:List Int),xs=[.ref a]/\Bn X.K H a (ns.map V.int)/\Q (.int ns.sum) H):=by
 intro e s w H xs x Q I r h
 obtain⟨a,ns,rfl,j,q⟩:=h
 obtain⟨u,rfl,k⟩:=D6 r
 cases k
 obtain⟨b,l,p,y⟩:=I.list j
 have f:IntsAre b ns:=Op l
 obtain⟨c,g⟩:=f.allInts.items
 have d:s.heap.IsList a (intItems c):=g ▸ p.isList
 refine sum_intListG (I.ok.hd i) d λz m n o=>?_
 have t:ns=c.toList.map (·.1):=by
  rw[<- nums_intItems,<- g]
  exact(show numsOf b.toArray.toList=ns from f.numsOf).symm
 have v:preSum (numAt c) c.size=ns.sum:=by
  rw[preSum_eq,O4 (by simp),t]
 rw[v]
 exact⟨.int ns.sum,H,I.kept (t':=m) o,⟨_,rfl⟩,q⟩
theorem dV(w:X.calm=true):A8 X (.builtin "min") (λxs H Q=>∃(a:Ad)(ns:List Int),xs=[.ref a]/\Bn X.K H a (ns.map V.int)/\0<ns.length/\∀m,m∈ns->(∀a,a∈ns->m<=a)->Q (.int m) H):=by
 intro k s L H xs M Q I r h
 obtain⟨a,ns,rfl,x,f,q⟩:=h
 obtain⟨u,rfl,y⟩:=D6 r
 cases y
 obtain⟨g,z,p,N⟩:=I.list x
 have l:IntsAre g ns:=Op z
 obtain⟨d,e⟩:=l.allInts.items
 have c:ns=d.toList.map (·.1):=by rw[<- l.numsOf,<- nums_intItems,<- e]
 have i:0<d.size:=by
  have n:=f;rw[c,Bb,G2]at n;exact n
 have A:s.heap.IsList a (intItems d):=e ▸ p.isList
 refine min_intList (I.ok.hd w) A i λv O B C E=>?_
 obtain⟨t,rfl⟩:=intItems_at C
 obtain⟨T,G⟩:=argBest_lt (numAt d) (d.size-1)
 refine⟨.int _,H,I.kept (t':=B) E,⟨t,rfl⟩,q _ ?_ λb o=>?_⟩
 ·rw[c,numAt_eq];exact getD_mem (by rw[Bb,G2];omega)
 ·rw[c]at o
  obtain⟨j,J,rfl⟩:=mem_getD o
  rw[Bb,G2]at J
  rw[<- numAt_eq];exact G j (by omega)
theorem dW(w:X.calm=true):A8 X (.builtin "max") (λxs H Q=>∃(a:Ad)(ns:List Int),xs=[.ref a]/\Bn X.K H a (ns.map V.int)/\0<ns.length/\∀m,m∈ns->(∀a,a∈ns->a<=m)->Q (.int m) H):=by
 intro k s L H xs M Q I r h
 obtain⟨a,ns,rfl,x,f,q⟩:=h
 obtain⟨u,rfl,y⟩:=D6 r
 cases y
 obtain⟨g,z,p,N⟩:=I.list x
 have l:IntsAre g ns:=Op z
 obtain⟨d,e⟩:=l.allInts.items
 have c:ns=d.toList.map (·.1):=by rw[<- l.numsOf,<- nums_intItems,<- e]
 have i:0<d.size:=by
  have n:=f;rw[c,Bb,G2]at n;exact n
 have A:s.heap.IsList a (intItems d):=e ▸ p.isList
 refine max_intList (I.ok.hd w) A i λv O B C E=>?_
 obtain⟨t,rfl⟩:=intItems_at C
 obtain⟨T,G⟩:=argBest_gt (numAt d) (d.size-1)
 refine⟨.int _,H,I.kept (t':=B) E,⟨t,rfl⟩,q _ ?_ λb o=>?_⟩
 ·rw[c,numAt_eq];exact getD_mem (by rw[Bb,G2];omega)
 ·rw[c]at o
  obtain⟨j,J,rfl⟩:=mem_getD o
  rw[Bb,G2]at J
  rw[<- numAt_eq];exact G j (by omega)
end
def Mb:List Int->Option Int
 |[]=>none
 |x::a=>some (a.foldl (λm y=>if y<m then y else m) x)
def Mc:List Int->Option Int
 |[]=>none
 |x::a=>some (a.foldl (λm y=>if y>m then y else m) x)
theorem T5:∀(xs:List Int)(x:Int),(xs.foldl (λm y=>if y<m then y else m) x)∈x::xs/\∀a∈x::xs,(xs.foldl (λm y=>if y<m then y else m) x)<=a
 |[],x=>by simp
 |y::e,x=>by
  simp only[List.foldl_cons]
  obtain⟨f,d⟩:=T5 e (if y<x then y else x)
  have b:=d _ Bw
  have g:(if y<x then y else x)<=x:=by split<;>omega
  have i:(if y<x then y else x)<=y:=by split<;>omega
  refine⟨?_,λa c=>?_⟩
  ·rcases Bm.mp f with h|h
   ·rw[h];split<;>simp
   ·exact BA _ (BA _ h)
  ·rcases Bm.mp c with rfl|c
   ·exact Int.le_trans b g
   ·rcases Bm.mp c with rfl|c
    ·exact Int.le_trans b i
    ·exact d a (BA _ c)
theorem T6:∀(xs:List Int)(x:Int),(xs.foldl (λm y=>if y>m then y else m) x)∈x::xs/\∀a∈x::xs,a<=(xs.foldl (λm y=>if y>m then y else m) x)
 |[],x=>by simp
 |y::e,x=>by
  simp only[List.foldl_cons]
  obtain⟨f,d⟩:=T6 e (if y>x then y else x)
  have b:=d _ Bw
  have g:x<=(if y>x then y else x):=by split<;>omega
  have i:y<=(if y>x then y else x):=by split<;>omega
  refine⟨?_,λa c=>?_⟩
  ·rcases Bm.mp f with h|h
   ·rw[h];split<;>simp
   ·exact BA _ (BA _ h)
  ·rcases Bm.mp c with rfl|c
   ·exact Int.le_trans g b
   ·rcases Bm.mp c with rfl|c
    ·exact Int.le_trans i b
    ·exact d a (BA _ c)
theorem dX{ns:List Int}{m k:Int}(h:Mb ns=some k)(b:m∈ns)(c:∀a,a∈ns->m<=a):m=k:=by
 cases ns with
 |nil=>cases h
 |cons x d=>
  cases h
  obtain⟨q1,q2⟩:=T5 d x
  have:=c _ q1
  have:=q2 _ b
  omega
theorem dY{ns:List Int}{m k:Int}(h:Mc ns=some k)(b:m∈ns)(c:∀a,a∈ns->a<=m):m=k:=by
 cases ns with
 |nil=>cases h
 |cons x d=>
  cases h
  obtain⟨q1,q2⟩:=T6 d x
  have:=c _ q1
  have:=q2 _ b
  omega
section
variable{K:Ap}
@[simp] def O5:List D->Option D
  |[.lst a]=>(Ed a).map λns=>.int ns.sum
  |_=>none
@[simp] def O6:List D->Option D
  |[.lst a]=>((Ed a).bind Mb).map D.int
  |_=>none
@[simp] def O7:List D->Option D
  |[.lst a]=>((Ed a).bind Mc).map D.int
  |_=>none
theorem dZ:DY K (λxs H Q=>∃(a:Ad)(ns:List Int),xs=[.ref a]/\Bn K H a (ns.map V.int)/\Q (.int ns.sum) H) O5:=by
 intro N H i j d Q k h e q
 unfold O5 at e
 split at e
 ·next xs=>
  cases b:Ed xs with
  |none=>rw[b]at e;cases e
  |some bs=>
   rw[b]at e;cases e
   obtain⟨v,rfl,f⟩:=Paired.one' h
   obtain⟨a,l,g,q1,c⟩:=f
   subst g
   rw[L9 b]at c
   rw[Ma c]at q1
   exact⟨a,bs,rfl,q1,q _ H (Ak.refl H) EE⟩
 ·cases e
theorem ed:DY K (λxs H Q=>∃(a:Ad)(ns:List Int),xs=[.ref a]/\Bn K H a (ns.map V.int)/\0<ns.length/\∀m,m∈ns->(∀a,a∈ns->m<=a)->Q (.int m) H) O6:=by
 intro N H n o d Q p h e q
 unfold O6 at e
 split at e
 ·next xs=>
  cases c:Ed xs with
  |none=>rw[c]at e;cases e
  |some bs=>
   rw[c]at e
   simp only[AL]at e
   cases b:Mb bs with
   |none=>rw[b]at e;cases e
   |some k=>
    rw[b]at e;cases e
    obtain⟨v,rfl,g⟩:=Paired.one' h
    obtain⟨a,r,i,q1,f⟩:=g
    subst i
    rw[L9 c]at f
    rw[Ma f]at q1
    refine⟨a,bs,rfl,q1,?_,λm j l=>?_⟩
    ·cases bs with
     |nil=>cases b
     |cons=>simp
    ·rw[dX b j l];exact q _ H (Ak.refl H) EE
 ·cases e
theorem ee:DY K (λxs H Q=>∃(a:Ad)(ns:List Int),xs=[.ref a]/\Bn K H a (ns.map V.int)/\0<ns.length/\∀m,m∈ns->(∀a,a∈ns->a<=m)->Q (.int m) H) O7:=by
 intro N H n o d Q p h e q
 unfold O7 at e
 split at e
 ·next xs=>
  cases c:Ed xs with
  |none=>rw[c]at e;cases e
  |some bs=>
   rw[c]at e
   simp only[AL]at e
   cases b:Mc bs with
   |none=>rw[b]at e;cases e
   |some k=>
    rw[b]at e;cases e
    obtain⟨v,rfl,g⟩:=Paired.one' h
    obtain⟨a,r,i,q1,f⟩:=g
    subst i
    rw[L9 c]at f
    rw[Ma f]at q1
    refine⟨a,bs,rfl,q1,?_,λm j l=>?_⟩
    ·cases bs with
     |nil=>cases b
     |cons=>simp
    ·rw[dY b j l];exact q _ H (Ak.refl H) EE
 ·cases e
@[simp] def Ia:D->Option String
  |.non=>some "NoneType"
  |.bl _=>some "bool"
  |.int _=>some "int"
  |.str _=>some "str"
  |.tup _=>some "tuple"
  |.lst _=>some "list"
  |.lst _ true=>none
  |.ty _=>none
  |.ins _ _=>none
def Ji(t n:String):Bool:=t==n||(t=="bool"&&n=="int")
end
def Fu:List String:=["NoneType","bool","int","str","tuple","list"]
theorem T7(K:Ap):∀t∈Fu,∀n∈Fu,DJ K (.type t) (.type n)=some (Ji t n):=by
 intro t a n b
 simp only[Fu,Bm,EH,or_false]at a b
 rcases a with rfl|rfl|rfl|rfl|rfl|rfl<;>rcases b with rfl|rfl|rfl|rfl|rfl|rfl<;>with_unfolding_all rfl
theorem T8(K:Ap){t:String}(a:t∈Fu):∀(ns:List String),(∀n∈ns,n∈Fu)->PySem.W.kitAny K (.type t) (ns.map GY)=some (ns.any λn=>Ji t n)
 |[],_=>rfl
 |n::ns,h=>by
  have b:=T7 K t a n (h n Bw)
  have c:=T8 K a ns λm d=>h m (BA _ d)
  simp only[AY,PySem.W.kitAny,b,c,List.any_cons]
  cases Ji t n<;>rfl
theorem T9{d:D}{t:String}(h:Ia d=some t):t∈Fu:=by
 cases d with
 |lst b a=>cases a<;>simp[Ia]at h;subst h;simp[Fu]
 |_=>simp[Ia]at h<;>subst h<;>simp[Fu]
section
variable{X:Cx}{K:Ap}
theorem ef{h:List (Ad×AJ)}{σ:St}{H:Hp}{s:Ac}(I:Inv X h σ H s){N:Fb}{d:D}{x:V}{u:Aa}{t:String}(g:AA X.K N H d x)(c:RelV x u)(f:Ia d=some t):
  ∃l:Al->Prop,PySem.W.KitX X.K u (.type t) l/\l s.heap/\u≠.builtin "__main__.__loader__#opaque":=by
 cases d with
 |non=>cases f;rw[g.non]at c;cases c;exact⟨_,PySem.W.kitx_none,trivial,λz=>nomatch z⟩
 |bl b=>cases f;rw[g.bl]at c;cases c;exact⟨_,PySem.W.kitx_bool,trivial,λz=>nomatch z⟩
 |int b=>cases f;rw[g.int]at c;obtain⟨t,rfl⟩:=c;exact⟨_,PySem.W.kitx_int,trivial,λz=>nomatch z⟩
 |str b=>cases f;rw[g.str]at c;obtain⟨t,rfl⟩:=c;exact⟨_,PySem.W.kitx_str,trivial,λz=>nomatch z⟩
 |ty n=>cases f
 |ins _ _=>cases f
 |tup m=>
  cases f
  obtain⟨a,p,e,q,r⟩:=g.tup
  subst e;cases c
  obtain⟨i,_,⟨o,j,k,_⟩,_⟩:=I.tuple q
  exact⟨_,PySem.W.kitx_tuple,⟨o,j,k⟩,λz=>nomatch z⟩
 |lst m v=>
  cases v with
  |true=>cases f
  |false=>
  cases f
  obtain⟨a,p,e,q,r⟩:=g
  subst e;cases c
  obtain⟨i,_,⟨o,n,j,k,_⟩,_⟩:=I.list q
  exact⟨_,PySem.W.kitx_list,⟨o,j,k⟩,λz=>nomatch z⟩
@[simp] def Cj:D->Option (List String)
  |.ty n=>some [n]
  |.tup a=>tysL a
  |_=>none
where tysL:List D->Option (List String)
 |[]=>some []
 |.ty n::r=>(tysL r).map (n::·)
 |_=>none
theorem Ua:∀{xs:List D}{ns:List String},Cj.tysL xs=some ns->xs=ns.map D.ty
 |[],_,e=>by cases e;rfl
 |.ty b::r,_,e=>by
  simp only[Cj.tysL]at e
  cases h:Cj.tysL r with
  |none=>rw[h]at e;cases e
  |some bs=>rw[h]at e;cases e;rw[Ua h];rfl
 |.non::_,_,e=>nomatch e
 |.bl _::_,_,e=>nomatch e
 |.int _::_,_,e=>nomatch e
 |.str _::_,_,e=>nomatch e
 |.tup _::_,_,e=>nomatch e
 |.lst _ _::_,_,e=>nomatch e
 |.ins _ _::_,_,e=>nomatch e
@[simp] def GB:List D->Option D
  |[x,c]=>(Cj c).bind λns=>if(∀n∈ns,n∈Fu)then(Ia x).map λt=>.bl (ns.any λn=>Ji t n)else none
  |_=>none
def Ub(K:Ap):List V->Hp->VK->Prop:=λa H Q=>∃N d c x y ns t,a=[x,y]/\AA K N H d x/\AA K N H c y/\Cj c=some ns/\(∀n∈ns,n∈Fu)/\Ia d=some t/\Q (.bl (ns.any λn=>Ji t n)) H
theorem Uc{N:Fb}{H:Hp}:∀{ns:List String}{vs:List V},Ae K N H (ns.map D.ty) vs->vs=ns.map V.ty
 |[],_,h=>by simpa only[BH,Ae]using h
 |b::bs,_,h=>by
  simp only[AY,Ae,Aq]at h
  obtain⟨v,r,e,a,t⟩:=h
  subst e a
  rw[Uc t];rfl
theorem Ud:∀{ns:List String}{us:List Aa},Am (ns.map V.ty) us->us=ns.map GY
 |[],_,r=>by cases r;rfl
 |n::ns,_,r=>by
  cases r with
  |cons a b=>cases a;rw[Ud b];rfl
theorem Ib:A8 X (.builtin "isinstance") (Ub X.K):=by
 intro l s M H w O Q I r h
 obtain⟨N,d,c,x,y,ns,t,rfl,z,m,b,f,i,q⟩:=h
 obtain⟨u,T,rfl,A,j⟩:=Ke r
 obtain⟨U,Z,p,g⟩:=ef I z A i
 cases c with
 |ty n=>
  cases b
  rw[m.ty]at j;cases j
  refine PySem.W.kia_one Z I.kIn p (T7 X.K t (T9 i) n (f n (by simp))) g λk=>⟨.bl _,H,I.tok k,rfl,?_⟩
  simpa using q
 |tup w=>
  have e:=Ua b
  subst e
  obtain⟨a,Y,e,B,dl⟩:=m.tup
  subst e;cases j
  obtain⟨C,E,⟨⟨cls,dd,data,sl⟩,G,o,n,v⟩,_⟩:=I.tuple B
  simp only at o v
  subst o v
  have J:=Uc dl
  subst J
  have L:=Ud E
  subst L
  exact PySem.W.kia_tup Z I.kIn p G (T8 X.K (T9 i) ns f) g λk=>⟨.bl _,H,I.tok k,rfl,q⟩
 |non=>cases b
 |bl _=>cases b
 |int _=>cases b
 |str _=>cases b
 |lst _=>cases b
 |ins _ _=>cases b
theorem Ic:DY K (Ub K) GB:=by
 intro N H j k d Q l h e q
 unfold GB at e
 split at e
 ·next x c=>
  cases a:Cj c with
  |none=>rw[a]at e;cases e
  |some ns=>
   rw[a]at e
   simp only[AL]at e
   split at e
   ·next b=>
    cases f:Ia x with
    |none=>rw[f]at e;cases e
    |some t=>
     rw[f]at e;cases e
     obtain⟨v,w,rfl,g,i⟩:=Paired.two' h
     exact⟨N,x,c,v,w,ns,t,rfl,g,i,a,b,f,q _ H (Ak.refl H) Fq⟩
   ·cases e
 ·cases e
theorem Ie{M:Fb}{a:Hp}{x:Af}{n:String}{pos:AT}(b:Gl X x)(c:X.mg x=none)(d:Eg x=some (.type n))(e:x≠"__name__":=by decide)(hd:(x==("__debug__":Af))=false:=by decide):JE X (.Name x pos) (tD K M a λ_=>some (.ty n)):=⟨IY (RP b c d (v:=.ty n) rfl e hd) λ_ _=>by simp only[Aq]⟩
theorem Ig{M:Fb}{b:Hp}{x:Af}{v:V}{d:D}{pos:AT}(c:Gl X x)(h:∃u,X.mg x=some u/\RelV v u)(hd:∀N H,Aq K N H d v)(a:(x==("__debug__":Af))=false:=by decide):JE X (.Name x pos) (tD K M b λ_=>some d):=⟨by
 obtain⟨u,e,r⟩:=h
 exact IY (FJ c e r a) hd⟩
end
section
variable{X:Cx}{K:Ap}{M:Fb}{H0:Hp}{a b c e tg iter:Expr}{es:List Expr}{f g h:VE->Option D}{fa:VE->Option (List Sl)}{pos:AT}
theorem vv(i:Nat){x:Af}(b:X.N[i]?=some x:=by rfl)(c:C0 X.env.scope x:=by first|exact Or.inl rfl|exact Or.inr (Or.inl rfl)|exact Or.inr (Or.inr rfl))(hd:(x==("__debug__":Af))=false:=by decide)(a:(x==("__classdict__":Af))=false:=by decide):
  PE X (.Name x pos) (tD K M H0 λρ=>A1 ρ i):=cL b c hd a
theorem Z5(i:Nat){x:Af}(b:X.N[i]?=some x:=by rfl)(c:C0 X.env.scope x:=by first|exact Or.inl rfl|exact Or.inr (Or.inl rfl)|exact Or.inr (Or.inr rfl))(hd:(x==("__debug__":Af))=false:=by decide)(a:(x==("__classdict__":Af))=false:=by decide):JE X (.Name x pos) (tD K M H0 λρ=>A1 ρ i):=⟨vv i b c hd a⟩
theorem Zk(i:Nat){x:Af}(b:X.N[i]?=some x:=by rfl)(c:C0 X.env.scope x:=by first|exact Or.inl rfl|exact Or.inr (Or.inl rfl)|exact Or.inr (Or.inr rfl))(hd:(x==("__debug__":Af))=false:=by decide)(a:(x==("__classdict__":Af))=false:=by decide):JE X (.Name x pos) (tP K M H0 λρ=>Ao ρ i):=⟨cM b c hd a⟩
theorem CJ(i:Nat){x:Af}(b:X.N[i]?=some x:=by rfl)(c:C0 X.env.scope x:=by first|exact Or.inl rfl|exact Or.inr (Or.inl rfl)|exact Or.inr (Or.inr rfl))(hd:(x==("__debug__":Af))=false:=by decide)(a:(x==("__classdict__":Af))=false:=by decide):JE X (.Name x pos) (tQ K M H0 λρ=>BN ρ i):=⟨dh b c hd a⟩
theorem Zy(i:Nat){x:Af}(b:X.N[i]?=some x:=by rfl)(c:C0 X.env.scope x:=by first|exact Or.inl rfl|exact Or.inr (Or.inl rfl)|exact Or.inr (Or.inr rfl))(hd:(x==("__debug__":Af))=false:=by decide)(a:(x==("__classdict__":Af))=false:=by decide):JE X (.Name x pos) (LU K M H0 λρ=>AH ρ i):=⟨cX b c hd a⟩
theorem Ue(i:Nat){x:Af}{a:AT}(c:X.N[i]?=some x:=by rfl)(d:C0 X.env.scope x:=by first|exact Or.inl rfl|exact Or.inr (Or.inl rfl)|exact Or.inr (Or.inr rfl))(hd:(x==("__debug__":Af))=false:=by decide)(b:(x==("__classdict__":Af))=false:=by decide):JS X (.Return (some (.Name x a)) pos) (tS K M H0 λρ=>CU (C7 ρ i)):=⟨c7 c d hd b⟩
theorem F2(e:X.A.units+64<AE)(c:JE X a (tP X.K M H0 f))(d:JE X b (tP X.K M H0 g)):JE X (.Compare a [.Eq] [b] pos) (tD X.K M H0 (Ze Bo f g)):=⟨have c:=c.h;have d:=d.h;OL (TQ e) TU c d (HC _ (by decide) (by decide))⟩
theorem O8(e:X.A.units+64<AE)(c:JE X a (tP X.K M H0 f))(d:JE X b (tP X.K M H0 g))(i:Gf .In b=false:=by with_unfolding_all rfl):JE X (.Compare a [.In] [b] pos) (tD X.K M H0 (Ze (FZ false) f g)):=⟨have c:=c.h;have d:=d.h;OL ((dN e).or aU) dO c d i⟩
theorem F3(e:X.A.units+64<AE)(c:JE X a (tP X.K M H0 f))(d:JE X b (tP X.K M H0 g)):JT X (.Compare a [.Eq] [b] pos) (Bx X.K M H0 λρ=>AM (Ze Bo f g ρ)):=⟨have c:=c.h;have d:=d.h;Kk (TQ e) TU c d (HC _ (by decide) (by decide))⟩
theorem Jj(e:X.A.units+64<AE)(c:JE X a (tP X.K M H0 f))(d:JE X b (tP X.K M H0 g)):JT X (.Compare a [.NotEq] [b] pos) (Bx X.K M H0 λρ=>AM (Ze Ec f g ρ)):=⟨have c:=c.h;have d:=d.h;Kk (TR e) TV c d (HC _ (by decide) (by decide))⟩
theorem GC(e:X.A.units+64<AE)(c:JE X a (tP X.K M H0 f))(d:JE X b (tP X.K M H0 g)):JT X (.Compare a [.Lt] [b] pos) (Bx X.K M H0 λρ=>AM (Ze Ds f g ρ)):=⟨have c:=c.h;have d:=d.h;Kk (dP e) dQ c d (HC _ (by decide) (by decide))⟩
theorem Jk(e:X.A.units+64<AE)(c:JE X a (tP X.K M H0 f))(d:JE X b (tP X.K M H0 g)):JT X (.Compare a [.Gt] [b] pos) (Bx X.K M H0 λρ=>AM (Ze Fs f g ρ)):=⟨have c:=c.h;have d:=d.h;Kk aT (OV _) c d (HC _ (by decide) (by decide))⟩
@[simp] def Md(F b:D->D->Option D)(f g h:VE->Option D):VE->Option D:=λa=>(f a).bind λx=>(g a).bind λy=>match F x y with
  |some (.bl true)=>(h a).bind λz=>b y z
  |some (.bl false)=>some (.bl false)
  |_=>none
theorem eg{r t:R2}{F A:D->D->Option D}(B:CB K r F)(k:CB K t A){σ:St}{H:Hp}{Q:VK}(q:tD K M H0 (Md F A f g h) σ H Q):Sb r t (tP K M H0 f) (tP K M H0 g) (tP K M H0 h) σ H Q:=by
 obtain⟨a,d,R,e,q⟩:=q
 unfold Md at e
 cases i:f a with
 |none=>rw[i]at e;cases e
 |some x=>
  cases l:g a with
  |none=>rw[i,l]at e;cases e
  |some y=>
   rw[i,l]at e
   simp only[AL]at e
   refine⟨a,x,R,i,λv Y j C=>⟨a,y,R.st j,l,λu E c m=>?_⟩⟩
   have R2:=(R.st j).st c
   split at e
   ·next n=>
    cases o:h a with
    |none=>rw[o]at e;cases e
    |some z=>
     rw[o]at e
     refine B _ E v u x y _ _ R2.nh (C.same c) m n λw G b p=>⟨true,by simpa only[Aq]using p,FR ⟨a,z,R2.st b,o,λI J s L=>?_⟩⟩
     exact k _ J u I y z d Q (((R2.st b).st s)).nh ((m.same b).same s) L e λN O T U=>q N O ((((j.trans c).trans b).trans s).trans T) U
   ·next n=>
    cases e
    exact B _ E v u x y _ _ R2.nh (C.same c) m n λw G b p=>⟨false,by simpa only[Aq]using p,FS (q _ G ((j.trans c).trans b) Fq)⟩
   ·cases e
theorem eh{op d:CmpOp}{r m:R2}{F n:D->D->Option D}(o:BU X (Dd op) r)(e:BU X (Dd d) m)(p:CB K r F)(i:CB K m n)(j:JE X a (tP K M H0 f))(k:JE X b (tP K M H0 g))(l:JE X c (tP K M H0 h))(s:lastMarks [op,d] [b,c]=false:=by with_unfolding_all rfl):JE X (.Compare a [op,d] [b,c] pos) (tD K M H0 (Md F n f g h)):=⟨have j:=j.h;have k:=k.h;have l:=l.h;(aY o e j k l s).mono λ_ _ _ q=>eg p i q⟩
@[simp] def CK:Option D->Option Bool
  |some .non=>some false
  |some (.bl b)=>some b
  |some (.int i)=>some (i != 0)
  |some (.str y)=>if y.length<=Av then some ((y.length:Int) != 0)else none
  |some (.lst a)=>some (!a.isEmpty)
  |some (.tup a)=>some (!a.isEmpty)
  |_=>none
theorem Ae.isEmpty{N:Fb}{H:Hp}{xs:List D}{vs:List V}(h:Ae K N H xs vs):vs.isEmpty=xs.isEmpty:=by
 cases xs with
 |nil=>simp only[Ae]at h;subst h;rfl
 |cons x xs=>simp only[Ae]at h;obtain⟨_,_,e,_⟩:=h;subst e;rfl
theorem Ee(i:JE X a (tP X.K M H0 f))(n:∀b,isTrue a X.env b=(do let v <- b;standAt a.pos;D5 [v] (truthy v)):=by intro _;rfl):JT X a (Bx X.K M H0 λρ=>CK (f ρ)):=⟨have i:=i.h;(be i n).mono λr H Q ⟨ρ,k,R,e,q⟩=>by
  try dsimp only at e q
  unfold CK at e
  split at e
  ·next c=>cases e;exact⟨ρ,_,R,c,λv d s g=>⟨_,by rw[g.non];rfl,q d s⟩⟩
  ·next c=>cases e;exact⟨ρ,_,R,c,λv d s g=>⟨_,by rw[g.bl];rfl,q d s⟩⟩
  ·next c=>cases e;exact⟨ρ,_,R,c,λv d s g=>⟨_,by rw[g.int];rfl,q d s⟩⟩
  ·next c=>
   split at e
   ·next o=>cases e;exact⟨ρ,_,R,c,λv d s g=>⟨_,by rw[g.str];exact⟨o,rfl⟩,q d s⟩⟩
   ·cases e
  ·next c=>
   cases e
   refine⟨ρ,_,R,c,λv d s g=>⟨_,?_,q d s⟩⟩
   obtain⟨p,j,l,q1,m⟩:=g
   subst l
   exact .inl ⟨j,q1,by rw[m.isEmpty]⟩
  ·next c=>
   cases e
   refine⟨ρ,_,R,c,λv d s g=>⟨_,?_,q d s⟩⟩
   obtain⟨p,j,l,q1,m⟩:=g.tup
   subst l
   exact .inr (.inl ⟨j,q1,by rw[m.isEmpty]⟩)
  ·cases e⟩
@[simp] def ZG:D->Option (List D)
  |.lst a=>some a
  |.tup a=>some a
  |.str x=>some (x.cps.toList.map λc=>D.str ⟨#[c]⟩)
  |_=>none
theorem Z9{l:Expr}(b:JE X l (tQ X.K M H0 f)):JI X tg l (tI X.K M H0 λρ=>(f ρ).bind ZG):=⟨have b:=b.h;λa s g H i I ⟨ρ,j,R,e,q⟩=>by
 try dsimp only at e
 cases c:f ρ with
 |none=>rw[c]at e;cases e
 |some d=>
  rw[c]at e
  cases d with
  |lst k m=>
   cases m with
   |true=>cases e
   |false=>exact dn b a s g H i I ⟨ρ,j,R,by dsimp only;rw[c];exact e,q⟩
  |tup k=>exact dq b a s g H i I ⟨ρ,j,R,by dsimp only;rw[c];exact e,q⟩
  |str x=>exact dr b a s g H i I ⟨ρ,j,R,by dsimp only;rw[c];exact e,q⟩
  |_=>cases e⟩
@[simp] def l7(i:Nat)(o:Option (List D))(ρ:VE):An:=match C7 ρ i,o with
  |some a,some b=>if a.length+b.length<=Av then .next (ρ.set i (.own (a++b)))else .fail
  |_,_=>.fail
@[simp] def l8(i:Nat)(ρ:VE):An:=match C7 ρ i with
  |some a=>.next (ρ.set i (.own a.reverse))
  |_=>.fail
@[simp] def l9(i j:Nat)(ρ:VE):An:=match C7 ρ j with
  |some a=>.next ((ρ.set j .no).set i (.own a))
  |_=>.fail
@[simp] def ma(i j:Nat)(ρ:VE):An:=match Jd ρ j with
  |some a=>.next ((ρ.set j .no).set i (.own a true))
  |_=>.fail
end
end L2
namespace L2
theorem GD{X:Cx}{e:PySem.Expr}{t:TT}(h:JW X e t):JT X e t:=⟨h.h.pt⟩
end L2
namespace L2
open PySem PySem.Spec PyProof.Rows
def Uf(ns:List Int):List Int:=ns.mergeSort λa b=>decide (a<=b)
section
variable{X:Cx}{K:Ap}
def Ug:List D->Option (List D)
 |[.lst a]=>(Ed a).bind λns=>if ns.length<64 then some ((Uf ns).map D.int)else none
 |_=>none
def Me(i:Nat)(b c:Option D)(ρ:VE):An:=match C7 ρ i,b,c with
 |some a,some (.int k),some d=>match DT a.length k with
  |some j=>.next (ρ.set i (.own (a.set j d)))
  |none=>.fail
 |_,_,_=>.fail
theorem en{M:Fb}{p:Hp}{i:Nat}{x:Af}{b c pos:AT}{g e:Expr}{C f:VE->Option D}(r:JE X g (tP K M p C))(s:JE X e (tD K M p f))(J:X.N[i]?=some x:=by rfl)(t:C0 X.env.scope x:=by first|exact Or.inl rfl|exact Or.inr (Or.inl rfl)|exact Or.inr (Or.inr rfl))(hd:(x==("__debug__":Af))=false:=by decide)(u:(x==("__classdict__":Af))=false:=by decide) (n:∀v,assign (.Subscript (.Name x b) g c) X.env v=(do
   let o <- D5 [v] (Ar (.Name x b) X.env)
   let y <- D5 [v,o] (Ar g X.env)
   standAt c
   D5 [v,o,y] (setItem o y v)
   release [v,o,y] []):=by intro _;rfl) (L:swapsWithSole [.Subscript (.Name x b) g c] e pos.line X.env=AB false:=by rfl) (z:swappedStores [.Subscript (.Name x b) g c] e X.env=AB none:=by rfl) (O:(E1 [.Subscript (.Name x b) g c] X.env).map (·.2)=[assign (.Subscript (.Name x b) g c) X.env]:=by rfl):JS X (.Assign [.Subscript (.Name x b) g c] e pos) (tS K M p λρ=>Me i (C ρ) (f ρ) ρ):=⟨have r:=r.h;have s:=s.h;(NY s (RV (Ex J t hd u) r b3 n) L z O).mono λD' σ H ⟨ρ,R,q⟩=>by
 try dsimp only at q
 unfold Me at q
 split at q
 ·next Q k d T A U=>
  split at q
  ·next j Y=>
   refine⟨ρ,d,R,U,λv H1 E t=>?_⟩
   have l:=LY T
   have B:=R.st E
   obtain⟨a,G,e1,z1,z2,z3,I⟩:=B.slot i _ l
   have n:=AN e1
   refine⟨.ref a,n,ρ,.int k,B,A,λw H2 m z=>?_⟩
   have R2:=B.st m
   obtain⟨R3,S3⟩:=R2.chg (ys:=Q.set j d) (ws:=G.set j v) l n (Ae.set j (I.same m) (t.same m))
   exact⟨a,G,k,j,rfl,z.int,m _ _ z3,by rw[<- I.length];exact Y,q _ _ R3 ((Step.of_same (E.trans m)).trans S3)⟩
  ·exact Bd q
 ·exact Bd q⟩
def Uh(K:Ap)(r:V->List V->Hp->VK->Prop)(F:Af->List D->Option D):Prop:=∀(N:Fb)(H:Hp)(z:Af)(c:List V)(e:List D)(d:D)(Q:VK),(∀a,N a->H a≠none)->Paired (AA K N H) e c->F z e=some d ->
 (∀v b,Ak H b->Aq K N b d v->Q v b)->r (.str z) c H Q
@[simp] def Mf(F:Af->List D->Option D)(f:VE->Option D)(fa:VE->Option (List Sl)):VE->Option D:=λa=>match f a with
  |some (.str z)=>((fa a).bind CD).bind (F z)
  |_=>none
@[simp] def me(F:Af->List D->Option D)(f:VE->Option D):VE->Option D:=λa=>match f a with
  |some (.str z)=>F z []
  |_=>none
section
variable{M:Fb}{H0:Hp}{o e:Expr}{es:List Expr}{f:VE->Option D}{fa:VE->Option (List Sl)}{name:Af}{apos cpos:AT}{id:String}{r:V->List V->Hp->VK->Prop}{F:Af->List D->Option D}
theorem eo(u:PlainAttrs "str")(slot:Slot "str" name id)(i:typeOf (.builtin id)=AB (.type "method_descriptor"))(y:Gn X id r)(A:Uh X.K r F)(j:JE X o (tP X.K M H0 f))(k:JA X (e::es) (CC X.K M H0 fa))(b:Gj o name X.env (Ar o X.env)=Ar o X.env:=by rfl) (g:((AG cpos (AO (e::es) X.env)).all (λx=>!x.1)&&(Fi cpos (Fj [] X.env)).all (λx=>x.1.isSome)
   && decide ((e::es).length+([]:List Keyword).length+(if([]:List Keyword).isEmpty then 0 else 1)<30))=true:=by rfl) (c:(apos.endLine==cpos.line)=true:=by rfl) (B:AO (e::es) X.env=(false,Ar e X.env)::AO es X.env:=by exact Df (λ_ _ z=>nomatch z)) (a:(AG cpos (AO es X.env)).any (·.1)=false:=by rfl):JE X (.Call (.Attribute o name apos) (e::es) [] cpos) (tD X.K M H0 (Mf F f fa)):=⟨have j:=j.h;have k:=k.h;(Ot u slot i y j k b g c B a).mono λU H Q ⟨l,d,R,ex,q⟩=>by
 unfold Mf at ex
 split at ex
 ·next z C=>
  cases m:fa l with
  |none=>rw[m]at ex;cases ex
  |some s=>
   rw[m]at ex
   cases n:CD s with
   |none=>simp only[AL,n]at ex;cases ex
   |some E=>
    simp only[AL,n]at ex
    refine⟨l,.str z,R,C,λv Y p G=>?_⟩
    rw[G.str]
    refine⟨rfl,l,s,R.st p,m,λI J t L=>?_⟩
    exact A _ J z I E d Q ((R.st p).st t).nh (LX L n) ex λw N O T=>q w N ((p.trans t).trans O) T
 ·cases ex⟩
end
def GF:List D->Option (List Af)
 |[]=>some []
 |.str b::r=>(GF r).map (b::·)
 |_=>none
theorem Ui:∀{xs:List D}{bs:List Af},GF xs=some bs->xs=bs.map D.str
 |[],_,e=>by cases e;rfl
 |.str b::r,_,e=>by
  simp only[GF]at e
  cases h:GF r with
  |none=>rw[h]at e;cases e
  |some bs=>rw[h]at e;cases e;rw[Ui h];rfl
 |.non::_,_,e=>nomatch e
 |.bl _::_,_,e=>nomatch e
 |.int _::_,_,e=>nomatch e
 |.ty _::_,_,e=>nomatch e
 |.tup _::_,_,e=>nomatch e
 |.lst _ _::_,_,e=>nomatch e
 |.ins _ _::_,_,e=>nomatch e
@[simp] theorem Uj:∀(ns:List Af),GF (ns.map D.str)=some ns
  |[]=>rfl
  |n::ns=>by simp only[AY,GF,Uj ns];rfl
theorem Uk{N:Fb}{H:Hp}:∀{bs:List Af}{vs:List V},Ae K N H (bs.map D.str) vs->vs=bs.map V.str
 |[],_,h=>by simpa only[BH,Ae]using h
 |b::bs,_,h=>by
  simp only[AY,Ae,Aq]at h
  obtain⟨v,r,e,a,t⟩:=h
  subst e a
  rw[Uk t];rfl
@[simp] def Mg(z:Af):List D->Option D
  |[.lst b]=>(GF b).bind λa=>if(a.map (·.length)).sum+a.length*z.length<=16777216 then some (.str (Txt.join z a))else none
  |_=>none
theorem er:Uh K (Tb K) Mg:=by
 intro N H z l m d Q n h e q
 unfold Mg at e
 split at e
 ·next f=>
  cases b:GF f with
  |none=>rw[b]at e;cases e
  |some g=>
   rw[b]at e
   simp only[AL]at e
   split at e
   ·next i=>
    cases e
    obtain⟨v,rfl,j⟩:=Paired.one' h
    obtain⟨a,o,k,q1,c⟩:=j
    subst k
    rw[Ui b]at c
    rw[Uk c]at q1
    exact⟨z,a,g,rfl,rfl,q1,i,q _ H (Ak.refl H) L4⟩
   ·cases e
 ·cases e
@[simp] def mf(z:Af):List D->Option D
  |[.str y]=>some (.int (Txt.find z y))
  |_=>none
@[simp] def mj(z:Af):List D->Option D
  |[]=>if Builtin.Str.tooLong (Txt.upper z).length=false then some (.str (Txt.upper z))else none
  |_=>none
end
structure Fv(P:AS)(w:Ai)(i:Ad)(fp:List Ad)(n:Nat)(is:Nat->Aa->Prop)(st:Nat->Al->Prop):Prop where
 frame:∀k h h',st k h->(∀b,b=i\/b∈fp->∀o,h.get? b=some o->h'.get? b=some o)->st k h'
 lt:∀k h,st k h->i<h.objs.size
 item:∀(A:Ah) (E:Aa->Ac->Prop) (s:Ac) (k:Nat) (Q:Aa->Ac->Prop),k<n->st k s.heap->(∀v h',is k v->st (k+1) h'->C3 i s.heap h'->Q v {s with heap:=h' })->wpAny (Ag P w) A (EU (.ref i)) Q E s
 fin:∀(A:Ah) (E:Aa->Ac->Prop) (s:Ac) (k:Nat) (Q:Aa->Ac->Prop),A.handled=none->n<=k->st k s.heap->(∀h' e,Heap.ExtBut i s.heap h'->(∃o,h'.get? e=some o/\o.cls=.type "StopIteration")->E (.ref e) {s with heap:=h' }) ->
  wpAny (Ag P w) A (EU (.ref i)) Q E s
section
variable{prog:AS}{w:Ai}{A:Ah}{E:Aa->Ac->Prop}{s:Ac}
theorem et{i a:Ad}{k:Nat}{b:Array Aa}{v:Aa}{Q:Aa->Ac->Prop}(e:s.heap.IsTupleIter i a k)(g:s.heap.IsTuple a b)(h:b[k]?=some v)
  (q:∀h',h'.IsTupleIter i a (k+1)->C3 i s.heap h'->Q v {s with heap:=h' }):wpAny (Ag prog w) A (EU (.ref i)) Q E s:=by
 obtain⟨n,d,j,c⟩:=id e
 obtain⟨o,l,_,p,m⟩:=g
 unfold EU
 refine Aj (Gk (name:=FP "__next__") e.typeIs O9 (E7 O9 e.typeIs eu ?_ (ew _)))
 show wpAny _ _ (field (.ref i) 0 >>= _) _ _ s
 refine Aj (Cw d c (x:=.ref a) rfl ?_)
 show wpAny _ _ (if(Bv a==DC)=true then _ else _) _ _ s
 rw[if_neg (show ¬ ((Bv a==DC)=true)from Gd)]
 show wpAny _ _ (field (.ref i) 1 >>= _) _ _ s
 refine Aj (Cw d c (x:=.int k 0) rfl ?_)
 show wpAny _ _ (seqItems? (.ref a) >>= _) _ _ s
 refine Aj (Ih l m ?_)
 simp only[h,Hk]
 refine Aj (Ky d c (by simp) (AC ⟨v,rfl,AC (q _ ?_ (Jl ..))⟩))
 exact⟨_,Kf _ d (Pa (Jm c _)),(Obj.cls_mapFields ..).trans j,by rw[Jm c];simp[AI]⟩
theorem ez{i b:Ad}{k:Nat}{c:Array Aa}{Q:Aa->Ac->Prop}(h:A.handled=none)(d:s.heap.IsTupleIter i b k)(l:s.heap.IsTuple b c)(n:c[k]?=none)
  (q:∀h' e,Heap.ExtBut i s.heap h'->(∃o,h'.get? e=some o/\o.cls=.type "StopIteration")->E (.ref e) {s with heap:=h' }):wpAny (Ag prog w) A (EU (.ref i)) Q E s:=by
 obtain⟨t,f,u,g⟩:=id d
 obtain⟨v,p,_,y,r⟩:=l
 unfold EU
 refine Aj (Gk (name:=FP "__next__") d.typeIs O9 (E7 O9 d.typeIs eu ?_ (ew _)))
 show wpAny _ _ (field (.ref i) 0 >>= _) _ _ s
 refine Aj (Cw f g (x:=.ref b) rfl ?_)
 show wpAny _ _ (if(Bv b==DC)=true then _ else _) _ _ s
 rw[if_neg (show ¬ ((Bv b==DC)=true)from Gd)]
 show wpAny _ _ (field (.ref i) 1 >>= _) _ _ s
 refine Aj (Cw f g (x:=.int k 0) rfl ?_)
 show wpAny _ _ (seqItems? (.ref b) >>= _) _ _ s
 refine Aj (Ih p r ?_)
 simp only[n,Hk]
 refine Aj (FW (Aj (Ky f g (by simp) ?_)))
 show wpAny _ _ (newExc (.type "StopIteration") ([]:List Aa) >>= _) _ _ _
 refine Aj ?_
 simp only[newTuple,newExc]
 refine Aj (Fk ?_ (show(0:Nat)<=Av by decide))
 refine Aj (m:=firstArgMember _ _) (wpAny_of_eq (a:=DC) (by first|rfl|(unfold firstArgMember;rfl)) ?_)
 refine Fk ?_ (by first|trivial|(show(0:Nat)<=Av;decide)|size_fits)
 unfold raiseNew
 refine Aj (wpAny_handled ?_)
 first|rw[h]|rw[show A.in1.handled=none from h]
 refine Aj (AC (wpAny_throw ?_))
 exact q _ _ ((Heap.ExtBut.push (Heap.SameBut.extBut (Jl ..)) _).push _) ⟨_,BY _ rfl,rfl⟩
theorem eA{P:AS}{w:Ai}{i l:Ad}(d:Array Aa):Fv P w i [l] d.size (λk v=>d[k]?=some v) (λk h=>h.IsListIter i l k/\h.IsList l d) where
 frame:=λk h g ⟨a,b⟩ kp=>⟨a.at λo e=>kp i (.inl rfl) o e,b.at λo e=>kp l (.inr (by simp)) o e⟩
 lt:=λk h ⟨⟨o,e,_⟩,_⟩=>Be e
 item:=λA E s k Q f ⟨a,b⟩ q=>wpAny_nextOf_list_item a b (Jn f) λg r j=>by
  by_cases m:l=i
  ·subst m
   obtain⟨o,e,c,_⟩:=a
   obtain⟨u,n,p,_⟩:=b
   rw[e]at n;cases n
   rw[c]at p
   exact absurd p (by decide)
  ·exact q _ g (Jn f) ⟨r,b.extBut j.extBut m⟩ j
 fin:=λA E s k Q t f ⟨a,b⟩ q=>wpAny_nextOf_list_end t a b (Array.getElem?_eq_none f) q
theorem eB{P:AS}{w:Ai}{i l:Ad}(d:Array Aa):Fv P w i [l] d.size (λk v=>d[k]?=some v) (λk h=>h.IsTupleIter i l k/\h.IsTuple l d) where
 frame:=λk h g ⟨a,b⟩ kp=>⟨a.at λo e=>kp i (.inl rfl) o e,b.at λo e=>kp l (.inr (by simp)) o e⟩
 lt:=λk h ⟨⟨o,e,_⟩,_⟩=>Be e
 item:=λA E s k Q f ⟨a,b⟩ q=>et a b (Jn f) λg r j=>by
  by_cases m:l=i
  ·subst m
   obtain⟨o,e,c,_⟩:=a
   obtain⟨u,n,p,_⟩:=b
   rw[e]at n;cases n
   rw[c]at p
   exact absurd p (by decide)
  ·exact q _ g (Jn f) ⟨r,b.at λo e=>j.extBut _ _ m e⟩ j
 fin:=λA E s k Q t f ⟨a,b⟩ q=>ez t a b (Array.getElem?_eq_none f) q
structure Cb(z tin tout ia ib:Ad)(fa fb:List Ad):Prop where
 n1:tin≠z
 n2:tout≠z
 n3:ia≠z
 n4:ib≠z
 n5:tin≠tout
 n6:tin≠ia
 n7:tin≠ib
 n8:tout≠ia
 n9:tout≠ib
 n10:ia≠ib
 fz:∀b,b∈fa\/b∈fb->b≠z/\b≠tout/\b≠ia/\b≠ib
section
variable{z tin tout ia ib:Ad}{fa fb:List Ad}{n m k:Nat}{isA isB:Nat->Aa->Prop}{sa sb:Nat->Al->Prop}{a b:Aa}
theorem Cb.keepA(D:Cb z tin tout ia ib fa fb)(f:Fv prog w ia fa n isA sa){h h':Al}(st:sa k h){c:Ad}(d:c=z\/c=tout\/c=ib)(a:C3 c h h'):sa k h':=
 f.frame k h h' st λx b o e=>by
  refine a.extBut x o ?_ e
  rcases b with rfl|b
  ·rcases d with rfl|rfl|rfl
   ·exact D.n3
   ·exact BX D.n8
   ·exact D.n10
  ·obtain⟨q1,q2,q3,q4⟩:=D.fz x (.inl b)
   rcases d with rfl|rfl|rfl
   ·exact q1
   ·exact q2
   ·exact q4
theorem Cb.keepB(D:Cb z tin tout ia ib fa fb)(SB:Fv prog w ib fb n isB sb){h h':Al}(st:sb k h){c:Ad}(d:c=z\/c=tout\/c=ia)(a:C3 c h h'):sb k h':=
 SB.frame k h h' st λx b o e=>by
  refine a.extBut x o ?_ e
  rcases b with rfl|b
  ·rcases d with rfl|rfl|rfl
   ·exact D.n4
   ·exact BX D.n9
   ·exact BX D.n10
  ·obtain⟨q1,q2,q3,q4⟩:=D.fz x (.inr b)
   rcases d with rfl|rfl|rfl
   ·exact q1
   ·exact q2
   ·exact q3
end
end
section
variable{X:Cx}{pins:List (Ad×AJ)}{σ:St}{H:Hp}{s:Ac}{h':Al}
theorem Inv.turnedL{f:List Ad}(I:Inv X pins σ H s)(g:∀b∈f,EQ X pins H b)(k:∀b o,b∉f->s.heap.get? b=some o->h'.get? b=some o):Inv X pins σ H {s with heap:=h' }:=by
 have d:∀b u,H b=some u->b∉f:=λb u e z=>by rw[(g b z).1]at e;cases e
 refine I.step (g':=s.gens) (d':=s.drawn) (t':=s.toks) (ch:=f) (λb h=>?_) (λb o _ _ a e _=>k b o a e) (λb o _ _ a e _=>⟨o.slots,k b o a e⟩) (λ_ _ _ _ n=>n)
  (λb o a e=>⟨o,k b o a e⟩) (λ_ _ e=>e) (λ_ _ _ e=>e) (λb G e=>⟨#[],by rw[e];simp⟩) (λm i=>?_) (λb u e=>?_) I.bare
 ·obtain⟨_,j,_,l,p,t⟩:=g b h
  exact⟨l,j,p,t⟩
 ·obtain⟨o,w,x,y,r⟩:=i
  exact⟨o,w,x,k _ o (λz=>(g _ z).2.1 rfl) y,r⟩
 ·refine(I.hok b u e).stay (λc v a q=>k c v ?_ q) (λ_ q=>q) λ_ _ q=>q
  rcases a with z|z
  ·rw[z];exact d b u e
  ·exact d c _ z
theorem Inv.yielded{g:List Ad}{p:Ad}{vs:List V}(I:Inv X pins σ H s)(i:∀b∈g,EQ X pins H b)(k:∀b o,b∉g->s.heap.get? b=some o->h'.get? b=some o)(j:s.heap.objs.size<=p)
  (new:AZ X.prog X.w (AK H p (.tup vs)) h' p (.tup vs)):Inv X pins σ (AK H p (.tup vs)) {s with heap:=h' }:=by
 have d:∀b u,H b=some u->b∉g:=λb u e z=>by rw[(i b z).1]at e;cases e
 have f:H p=none:=I.hok.fresh j
 refine I.step (g':=s.gens) (d':=s.drawn) (t':=s.toks) (ch:=g) (λb h=>?_) (λb o _ _ a e _=>k b o a e) (λb o _ _ a e _=>⟨o.slots,k b o a e⟩) (λb o _ e n=>?_)
  (λb o a e=>⟨o,k b o a e⟩) (λb l e=>?_) (λb o u e=>?_) (λb O e=>⟨#[],?_⟩) (λm t=>?_) (λb u e=>?_) I.bare
 ·obtain⟨_,x,_,y,A,B⟩:=i b h
  exact⟨y,x,A,B⟩
 ·rw[Zq (BS (Cu (Be e) j))];exact n
 ·rw[Zq (Z4 e f)];exact e
 ·rw[Zq (Z4 e f)];exact e
 ·rw[Zq (Z4 e f),e];simp
 ·obtain⟨o,C,E,G,r⟩:=t
  exact⟨o,C,E,k _ o (λz=>(i _ z).2.1 rfl) G,r⟩
 ·by_cases h:b=p
  ·subst h;rw[ZP]at e;cases e;exact new
  ·rw[Zq h]at e
   refine(I.hok b u e).stay (λc v a q=>k c v ?_ q) (λc q=>by rw[Zq (Z4 q f)];exact q) λc l q=>by rw[Zq (Z4 q f)];exact q
   rcases a with z|z
   ·rw[z];exact d b u e
   ·exact d c _ z
end
inductive Bh where
 |l (a:Ad)
 |t (a:Ad)
@[reducible] def Bh.ad:Bh->Ad
  |.l a=>a
  |.t a=>a
def Bh.sq(K:Ap)(H:Hp):Bh->List V->Prop
 |.l a=>Bn K H a
 |.t a=>BE K H a
def Bh.nm:Bh->String
 |.l _=>"list_iterator"
 |.t _=>"tuple_iterator"
def Bh.ok(h:Al)(b:Array Aa):Bh->Prop
 |.l a=>h.IsList a b
 |.t a=>h.IsTuple a b
def Bh.it(h:Al)(i:Ad)(k:Nat):Bh->Prop
 |.l a=>h.IsListIter i a k
 |.t a=>h.IsTupleIter i a k
theorem Bh.of(S:Bh){X:Cx}{c:List (Ad×AJ)}{σ:St}{H:Hp}{s:Ac}{xs:List V}(I:Inv X c σ H s)(h:S.sq X.K H xs):∃b:List Aa,Am xs b/\S.ok s.heap b.toArray/\xs.length<=Av:=by
 cases S with
 |l a=>obtain⟨b,r,p,z⟩:=I.list h;exact⟨b,r,p.isList,z⟩
 |t a=>obtain⟨b,r,p,z⟩:=I.tuple h;exact⟨b,r,(show s.heap.IsTuple a b.toArray from p),z⟩
theorem Bh.inj(S:Bh){X:Cx}{b:List (Ad×AJ)}{σ:St}{H:Hp}{s:Ac}{xs ys:List V}(I:Inv X b σ H s)(h:S.sq X.K H xs)(h':S.sq X.K H ys):xs=ys:=by
 cases S with
 |l a=>exact I.list_inj h h'
 |t a=>exact I.tuple_inj h h'
theorem Bh.lt(S:Bh){h:Al}{b:Array Aa}(p:S.ok h b):S.ad<h.objs.size:=by
 cases S with
 |l a=>obtain⟨o,e,_⟩:=p;exact Be e
 |t a=>obtain⟨o,e,_⟩:=p;exact Be e
theorem Bh.okAt(S:Bh){h h':Al}{b:Array Aa}(p:S.ok h b)(k:∀o,h.get? S.ad=some o->h'.get? S.ad=some o):S.ok h' b:=by
 cases S with
 |l a=>exact Heap.IsList.at p k
 |t a=>exact Heap.IsTuple.at p k
theorem Bh.itAt(S:Bh){h h':Al}{i:Ad}{n:Nat}(p:S.it h i n)(k:∀o,h.get? i=some o->h'.get? i=some o):S.it h' i n:=by
 cases S with
 |l a=>exact Heap.IsListIter.at p k
 |t a=>exact Heap.IsTupleIter.at p k
theorem Bh.itOb(S:Bh){h:Al}{i:Ad}{n:Nat}(p:S.it h i n):∃o,h.get? i=some o/\∀v,o.data≠.cell v:=by
 cases S with
 |l a=>obtain⟨o,e,c,d⟩:=p;exact⟨o,e,λv z=>by rw[d]at z;cases z⟩
 |t a=>obtain⟨o,e,c,d⟩:=p;exact⟨o,e,λv z=>by rw[d]at z;cases z⟩
theorem Bh.sub(S:Bh){P:AS}{w:Ai}{i:Ad}(b:Array Aa):Fv P w i [S.ad] b.size (λk v=>b[k]?=some v) (λk h=>S.it h i k/\S.ok h b):=by
 cases S with
 |l a=>exact eA b
 |t a=>exact eB b
def Bh.obj(S:Bh):AJ:={cls:=.type S.nm,data:=.fields #[.ref S.ad,.int 0 0]}
theorem Bh.pyIter(S:Bh){prog:AS}{w:Ai}{A:Ah}{E:Aa->Ac->Prop}{s:Ac}{b:Array Aa}{Q:Aa->Ac->Prop}(p:S.ok s.heap b)
  (q:Q (.ref s.heap.objs.size) {s with heap:=s.heap.push S.obj}):wpAny (Ag prog w) A (pyIter (.ref S.ad)) Q E s:=by
 cases S with
 |l a=>exact wpAny_pyIter_list p q
 |t a=>exact wpAny_pyIter_tuple p q
theorem Bh.new(S:Bh){h:Al}:S.it (h.push S.obj) h.objs.size 0:=by
 cases S with
 |l a=>exact⟨_,BY _ rfl,rfl,rfl⟩
 |t a=>exact⟨_,BY _ rfl,rfl,rfl⟩
@[reducible] def Kz(h:Al)(A:Bh):Al:=h.push A.obj
@[reducible] def KA(h:Al)(A B:Bh):Al:=(Kz h A).push B.obj
@[reducible] def Mh(h:Al)(A B:Bh):Al:=(KA h A B).push {cls:=.type "tuple",data:=.seq #[.ref h.objs.size,.ref (Kz h A).objs.size]}
@[reducible] def Mi(h:Al)(A B:Bh):Al:=(Mh h A B).push {cls:=.type "tuple",data:=.seq #[.none,.none]}
@[reducible] def Ii(h:Al)(A B:Bh):Al:=(Mi h A B).push {cls:=.type "zip",data:=.fields #[.none,.bool false,.bool false,.ref (KA h A B).objs.size,.ref (Mh h A B).objs.size]}
theorem eC(A B:Bh)(xs ys:Array Aa):Meets (En.«zip.__new__» ⟨[.type "zip",.ref A.ad,.ref B.ad],[]⟩) (λ_ R s=>A.ok s.heap xs/\B.ok s.heap ys/\R (.ok (.ret (.ref (Mi s.heap A B).objs.size))) {s with heap:=Ii s.heap A B}):=
 .of_wp λprog w k R s h=>by
  obtain⟨a,g,d,b,os⟩:=s;obtain⟨c,f,q⟩:=h
  have l:=sub_zip
  have i:A.ok (Shared.heap ⟨a,g,d,b,os⟩) xs:=c
  have j:B.ok (Shared.heap ⟨a.push A.obj,g,d,b,os⟩) ys:=B.okAt f λo e=>Bk _ e
  wp_walk using A.pyIter i,B.pyIter j
  exact⟨_,rfl,q⟩
section
variable{prog:AS}{w:Ai}{A:Ah}{E:Aa->Ac->Prop}{s:Ac}
theorem eE{S T:Bh}{xs ys:Array Aa}{Q:Aa->Ac->Prop}(p1:S.ok s.heap xs)(m:T.ok s.heap ys)
  (q:∀h',IsZip h' (s.heap.objs.size+4) (s.heap.objs.size+2) (s.heap.objs.size+3) .none->Ba h' (s.heap.objs.size+2) (.ref s.heap.objs.size) (.ref (s.heap.objs.size+1)) ->
   Ba h' (s.heap.objs.size+3) .none .none->S.it h' s.heap.objs.size 0->T.it h' (s.heap.objs.size+1) 0->(∀c o,s.heap.get? c=some o->h'.get? c=some o)->Q (.ref (s.heap.objs.size+4)) {s with heap:=h' }):
  wpAny (Ag prog w) A (call (.type "zip") [.ref S.ad,.ref T.ad]) Q E s:=by
 refine callType_new PySem.F.called_zip (by decide) (PySem.F.typeCall_zip_2 _ _) (PySem.F.newCall_zip_2 _ _) (λobj=>PySem.F.args_object_init_3 obj _ _) PySem.F.entry_zip_new (eC S T xs ys) ⟨p1,m,?_⟩
 have a:(Kz s.heap S).objs.size=s.heap.objs.size+1:=FN ..
 have b:(KA s.heap S T).objs.size=s.heap.objs.size+2:=by rw[FN,a]
 have d:(Mh s.heap S T).objs.size=s.heap.objs.size+3:=by rw[FN,b]
 have i:(Mi s.heap S T).objs.size=s.heap.objs.size+4:=by rw[FN,d]
 have f:(Ii s.heap S T).get? (Mi s.heap S T).objs.size=some _:=BY _ rfl
 have j:(Ii s.heap S T).get? (Mh s.heap S T).objs.size=some _:=Bk _ (BY _ rfl)
 have k:(Ii s.heap S T).get? (KA s.heap S T).objs.size=some _:=Bk _ (Bk _ (BY _ rfl))
 have g:∀c o,(KA s.heap S T).get? c=some o->(Ii s.heap S T).get? c=some o:=λc o e=>Bk _ (Bk _ (Bk _ e))
 have l:T.it (Ii s.heap S T) (Kz s.heap S).objs.size 0:=T.itAt (T.new (h:=Kz s.heap S)) λo e=>g _ o e
 have n:S.it (Ii s.heap S T) s.heap.objs.size 0:=S.itAt (S.new (h:=s.heap)) λo e=>g _ o (Bk _ e)
 show _/\_
 rw[b,d,i]at f
 rw[a,b]at k
 rw[d]at j
 rw[a]at l
 rw[i]
 exact⟨⟨_,f,rfl⟩,q _ f k j n l λc o e=>g _ _ (Bk _ (Bk _ e))⟩
end
def Ul(K:Ap)(S T:Bh):It:=
 ⟨λi H=>∃a b x y,S.sq K H a/\T.sq K H b/\a[i]?=some x/\b[i]?=some y,
  λi H v c=>∃p x y,v=.ref p/\H p=none/\c=AK H p (.tup [x,y])/\(∀a,S.sq K H a->a[i]?=some x)/\∀b,T.sq K H b->b[i]?=some y,
  λi H=>∃a b,S.sq K H a/\T.sq K H b/\(a.length<=i\/b.length<=i)⟩
theorem Um{n:Nat}{S T:Bh}(c:S.ad<n)(d:T.ad<n):Cb (n+4) (n+2) (n+3) n (n+1) [S.ad] [T.ad] where
 n1:=by(show @Ne Nat _ _;omega)
 n2:=by(show @Ne Nat _ _;omega)
 n3:=by(show @Ne Nat _ _;omega)
 n4:=by(show @Ne Nat _ _;omega)
 n5:=by(show @Ne Nat _ _;omega)
 n6:=by(show @Ne Nat _ _;omega)
 n7:=by(show @Ne Nat _ _;omega)
 n8:=by(show @Ne Nat _ _;omega)
 n9:=by(show @Ne Nat _ _;omega)
 n10:=by(show @Ne Nat _ _;omega)
 fz:=λb f=>by
  have a:(b:Nat)<n:=by
   rcases f with z|z
   ·rw[D3.mp z];exact c
   ·rw[D3.mp z];exact d
  exact⟨λe=>by subst e;exact absurd a (by show ¬ @LT.lt Nat _ _ _;omega),λe=>by subst e;exact absurd a (by show ¬ @LT.lt Nat _ _ _;omega),λe=>by subst e;exact absurd a (by show ¬ @LT.lt Nat _ _ _;omega),λe=>by subst e;exact absurd a (by show ¬ @LT.lt Nat _ _ _;omega)⟩
theorem eF:Eg "zip"=some (.type "zip"):=by decide +kernel
@[simp] def Fw:D->Option (List D)
  |.lst a=>some a
  |.tup a=>some a
  |_=>none
theorem D0.src{K:Ap}{M N:Fb}{H:Hp}{d:D}{v:V}{xs:List D}(h:D0 K M N H d v)(e:Fw d=some xs):
  ∃(S:Bh) (vs:List V),v=.ref S.ad/\Ae K N H xs vs/\∀N2 c,Step M N N2 H c->S.sq K c vs:=by
 cases d with
 |lst g i=>
  cases i with
  |true=>cases e
  |false=>
  cases e
  obtain⟨a,vs,f,b,hd⟩:=h
  refine⟨.l a,vs,f,hd,λN2 c S=>?_⟩
  rcases b with⟨j,b⟩|b
  ·exact .inl (b.step S (by rcases j with z|z;exact .inl z;exact .inr (.inl z)))
  ·exact b.sq
 |tup g=>
  cases e
  simp only[D0,Aq]at h
  obtain⟨a,vs,f,b,hd⟩:=h
  exact⟨.t a,vs,f,hd,λN2 c S=>b.step S⟩
 |_=>cases e
@[simp] def Jo(f g:VE->Option D):VE->Option (List D):=λa=>match(f a).bind Fw,(g a).bind Fw with
  |some b,some c=>some (List.zipWith (λx y=>D.tup [x,y]) b c)
  |_,_=>none
theorem eG{K:Ap}{M N:Fb}{H:Hp}{S T:Bh}{xs ys:List D}{us vs:List V}(g:Ae K N H xs us)(h:Ae K N H ys vs)(q1:∀N2 b,Step M N N2 H b->S.sq K b us)(q2:∀N2 b,Step M N N2 H b->T.sq K b vs):
  LZ K M N H (Ul K S T) (List.zipWith (λx y=>D.tup [x,y]) xs ys):=λN2 b St i=>by
 have c:=q1 _ _ St
 have e:=q2 _ _ St
 have d1:=Ae.step St _ _ g
 have d2:=Ae.step St _ _ h
 refine⟨λd a=>?_,λa=>⟨us,vs,c,e,?_⟩⟩
 ·rw[List.getElem?_zipWith]at a
  cases ex:xs[i]? with
  |none=>rw[ex]at a;cases a
  |some x=>
   cases f:ys[i]? with
   |none=>rw[ex,f]at a;cases a
   |some y=>
    rw[ex,f]at a;cases a
    obtain⟨u,j,m⟩:=d1.get ex
    obtain⟨v,k,n⟩:=d2.get f
    refine⟨⟨us,vs,u,v,c,e,j,k⟩,λz t ⟨p,w,A,o,l,q,r,s⟩=>?_⟩
    have:=r us c;rw[j]at this;cases this
    have:=s vs e;rw[k]at this;cases this
    subst o q
    exact⟨Td l,Ku l (Ae.cons m (Ae.cons n Ae.nil))⟩
 ·have l1:=g.length
  have B:=h.length
  simp only[List.length_zipWith]at a
  omega
section
variable{X:Cx}{M:Fb}{H0:Hp}{f g:VE->Option D}{a b:Expr}{elts:List Expr}{p pos tpos:AT}
end
section
variable{prog:AS}{w:Ai}{A:Ah}{E:Aa->Ac->Prop}{s:Ac}
theorem eH(l:Ad)(items:Array Aa)(n:Nat)(dct:Option Ad)(a:Array (Option Aa))(ob:AJ)(b:ob={cls:=.type "list_iterator",data:=.fields #[.ref l,.int 0 0]}):
  Meets (En.«enumerate.__new__» ⟨[.type "enumerate",.ref l],[]⟩) (λ_ R s=>s.heap.get? l=some {cls:=.type "list",dict:=dct,data:=.seq items n,slots:=a} /\
   R (.ok (.ret (.ref (s.heap.push ob).objs.size))) {s with heap:=(s.heap.push ob).push {cls:=.type "enumerate",data:=.fields #[.none,.bool false,.ref s.heap.objs.size,AI 0,.none,.none]} }):=by
 subst b;exact meets_enumerate_newL l items n dct a
theorem eI(l:Ad)(items:Array Aa)(n:Nat)(dct:Option Ad)(i:Array (Option Aa)):
  Meets (En.«enumerate.__new__» ⟨[.type "enumerate",.ref l],[]⟩) (λ_ R s=>s.heap.get? l=some {cls:=.type "tuple",dict:=dct,data:=.seq items n,slots:=i} /\
   R (.ok (.ret (.ref (s.heap.push (Bh.obj (.t l))).objs.size))) {s with heap:=(s.heap.push (Bh.obj (.t l))).push {cls:=.type "enumerate",data:=.fields #[.none,.bool false,.ref s.heap.objs.size,AI 0,.none,.none]} }):=
 .of_wp λprog w A R s h=>by
  obtain⟨a,g,d,b,os⟩:=s;obtain⟨e,q⟩:=h
  have k:=sub_enumerate
  have j:Bh.ok (Shared.heap ⟨a,g,d,b,os⟩) items (.t l):=⟨_,e,rfl,n,rfl⟩
  have f:∀{prog:AS} {w:Ai} {A:Ah} {E:Aa->Ac->Prop} {Q:Aa->Ac->Prop},Q (.ref a.objs.size) ⟨a.push (Bh.obj (.t l)),g,d,b,os⟩->wpAny (Ag prog w) A (pyIter (.ref l)) Q E ⟨a,g,d,b,os⟩:=λq=>Bh.pyIter (.t l) j q
  wp_walk using Pb e
  refine wpAny_stack_any λst=>AC ?_
  split
  ·rename_i c _ _ _ _ _
   cases(c==GY "enumerate")
   ·wp_walk using Pb e,f
    exact⟨_,rfl,q⟩
   ·wp_walk using Pb e,f
    exact⟨_,rfl,q⟩
  ·wp_walk using Pb e,f
   exact⟨_,rfl,q⟩
theorem eJ{S:Bh}{items:Array Aa}{Q:Aa->Ac->Prop}(p:S.ok s.heap items)
  (q:∀h',IsEnum h' (s.heap.objs.size+1) s.heap.objs.size 0 .none->S.it h' s.heap.objs.size 0->(∀b o,s.heap.get? b=some o->h'.get? b=some o)->Q (.ref (s.heap.objs.size+1)) {s with heap:=h' }):
  wpAny (Ag prog w) A (call (.type "enumerate") [.ref S.ad]) Q E s:=by
 have g:(s.heap.push S.obj).objs.size=s.heap.objs.size+1:=FN ..
 have i:IsEnum ((s.heap.push S.obj).push {cls:=.type "enumerate",data:=.fields #[.none,.bool false,.ref s.heap.objs.size,AI 0,.none,.none]}) (s.heap.objs.size+1) s.heap.objs.size 0 .none:=by
  have:=BY (s.heap.push S.obj) (o:={cls:=.type "enumerate",data:=.fields #[.none,.bool false,.ref s.heap.objs.size,AI 0,.none,.none]}) rfl
  rw[g]at this;exact this
 have fin:(s.TypeIs (.ref 0) "x"->True):=λ_=>trivial
 have d:=q _ i (S.itAt (S.new (h:=s.heap)) λo e=>Bk _ e) λb o e=>Bk _ (Bk _ e)
 cases S with
 |l a=>
  obtain⟨⟨c,dct,j,k⟩,m,f,n,hd⟩:=p
  replace f:c=.type "list":=f
  replace hd:j=.seq items n:=hd
  subst f hd
  refine callType_new PySem.F.called_enumerate (by decide) (PySem.F.typeCall_enumerate_1 _) (PySem.F.newCall_enumerate_1 _) (λobj=>PySem.F.args_object_init_2 obj _) PySem.F.entry_enumerate_new (eH a items n dct k (Bh.obj (.l a)) rfl) ⟨m,?_⟩
  show _/\_
  rw[g]
  exact⟨⟨_,i,rfl⟩,d⟩
 |t a=>
  obtain⟨⟨c,dct,j,k⟩,m,f,n,hd⟩:=p
  replace f:c=.type "tuple":=f
  replace hd:j=.seq items n:=hd
  subst f hd
  refine callType_new PySem.F.called_enumerate (by decide) (PySem.F.typeCall_enumerate_1 _) (PySem.F.newCall_enumerate_1 _) (λobj=>PySem.F.args_object_init_2 obj _) PySem.F.entry_enumerate_new (eI a items n dct k) ⟨m,?_⟩
  show _/\_
  rw[g]
  exact⟨⟨_,i,rfl⟩,d⟩
section
variable{e it:Ad}{fa:List Ad}{n k:Nat}{isA:Nat->Aa->Prop}{sa:Nat->Al->Prop}{old:Aa}
theorem eK{Q:Option Aa->Ac->Prop}(SA:Fv prog w it fa n isA sa)(f:IsEnum s.heap e it k old)(ha:sa k s.heap)(kn:k<n)(m:e≠it)(C:e∉fa)
  (q:∀x h',isA k x->IsEnumOut h' e it ((k:Int)+1) x s.heap.objs.size->sa (k+1) h'->h'.get? s.heap.objs.size=some {cls:=.type "tuple",data:=.seq #[.int k s.toks,x]} ->
   (∀b o,b≠e->b≠it->s.heap.get? b=some o->h'.get? b=some o)->Q (some (.ref s.heap.objs.size)) {s with heap:=h',toks:=s.toks+1}):
  wpAny (Ag prog w) A (Bq (.ref e)) Q E s:=by
 obtain⟨i,g,d,a,os⟩:=s
 have ty:Shared.TypeIs ⟨i,g,d,a,os⟩ (.ref e) "enumerate":=⟨_,f,rfl⟩
 unfold Bq
 refine Aj (Jp (Gk (name:=FP "__next__") ty Pc (E7 Pc ty PySem.F.entry_enumerate_next ?_ (PySem.F.args_enumerate_next_1 _))))
 have fr:∀{h h':Al},sa (k+1) h->(∀b o,b≠e->h.get? b=some o->h'.get? b=some o)->sa (k+1) h':=λst kp=>SA.frame _ _ _ st λb c o x=>kp b o (by
  rcases c with rfl|c
  ·exact BX m
  ·intro z;subst z;exact C c) x
 show wpAny _ _ (field (.ref e) 2 >>= _) _ _ _
 refine Aj (Cw f rfl (x:=.ref it) rfl ?_)
 refine Aj (SA.item _ _ _ k _ kn ha λx l hx a1 p=>?_)
 replace p:C3 it i l:=p
 have G:IsEnum l e it k old:=(p.2 e m).trans f
 show wpAny _ _ (field (.ref e) 3 >>= _) _ _ ⟨l,g,d,a,os⟩
 refine Aj (Cw G rfl (x:=AI k) rfl ?_)
 show wpAny _ _ (field (.ref e) 4 >>= _) _ _ ⟨l,g,d,a,os⟩
 refine Aj (Cw G rfl (x:=.none) rfl ?_)
 show wpAny _ _ (mkInt k >>= _) _ _ ⟨l,g,d,a,os⟩
 refine Aj (wpAny_mkInt ?_)
 show wpAny _ _ (setField (.ref e) 3 (AI ((k:Int)+1)) >>= _) _ _ ⟨l,g,d,a+1,os⟩
 refine Aj (EV G (by simp) λu H r=>?_)
 replace r:C3 e l u:=r
 replace H:IsEnum u e it ((k:Int)+1) old:=H
 show wpAny _ _ (setField (.ref e) 4 .none >>= _) _ _ ⟨u,g,d,a+1,os⟩
 refine Aj (EV H (by simp) λj I t=>?_)
 replace t:C3 e u j:=t
 replace I:IsEnum j e it ((k:Int)+1) old:=I
 show wpAny _ _ (newTuple [.int k a,x] >>= _) _ _ ⟨j,g,d,a+1,os⟩
 refine Aj (wpAny_newTuple ?_)
 have sz:j.objs.size=i.objs.size:=by rw[t.1,r.1,p.1]
 have el:e<i.objs.size:=Be f
 have v:IsEnum (j.push {cls:=.type "tuple",data:=.seq #[.int k a,x]}) e it ((k:Int)+1) old:=Bk _ I
 have t4:(j.push {cls:=.type "tuple",data:=.seq #[.int k a,x]}).get? i.objs.size=some {cls:=.type "tuple",data:=.seq #[.int k a,x]}:=by rw[<- sz];exact BY _ rfl
 have k4:∀b o,b≠e->b≠it->i.get? b=some o->(j.push {cls:=.type "tuple",data:=.seq #[.int k a,x]}).get? b=some o:=λb o f J c=>
  Bk _ (t.extBut b o f (r.extBut b o f (p.extBut b o J c)))
 have a4:sa (k+1) (j.push {cls:=.type "tuple",data:=.seq #[.int k a,x]}):=fr a1 λb o c z=>Bk _ (t.extBut b o c (r.extBut b o c z))
 generalize (j.push {cls:=.type "tuple",data:=.seq #[.int k a,x]})=L at v t4 k4 a4 ⊢
 show wpAny _ _ (KC (.ref e) >>= _) _ _ ⟨L,g,d,a+1,os⟩
 rw[sz]
 refine Aj ?_
 unfold KC
 refine Aj (Cw v rfl (x:=.none) rfl (AC ?_))
 rw[if_pos rfl]
 refine Aj (FW ?_)
 refine Aj (Cw v rfl (x:=old) rfl ?_)
 refine Aj (EV v (by simp) λy M N=>?_)
 replace N:C3 e L y:=N
 replace M:IsEnum y e it ((k:Int)+1) x:=M
 show wpAny _ _ (Pd (.ref e) (.ref i.objs.size) >>= _) _ _ ⟨y,g,d,a+1,os⟩
 refine Aj ?_
 unfold Pd
 refine Aj (EV M (by simp) λO T U=>?_)
 replace U:C3 e y O:=U
 replace T:IsEnumOut O e it ((k:Int)+1) x i.objs.size:=T
 refine EV T (by simp) λB Y s7=>?_
 replace s7:C3 e O B:=s7
 replace Y:IsEnumOut B e it ((k:Int)+1) x i.objs.size:=Y
 have up:∀b o,b≠e->L.get? b=some o->B.get? b=some o:=λb o c z=>s7.extBut b o c (U.extBut b o c (N.extBut b o c z))
 refine Aj (wpAny_letGo (AC ⟨_,rfl,AC (q x B hx Y (fr a4 up) (up _ _ (FL el) t4) λb o f J z=>up b o f (k4 b o f J z))⟩))
theorem eL{Q:Option Aa->Ac->Prop}(a:A.handled=none)(f:Fv prog w it fa n isA sa)(c:IsEnum s.heap e it k old)(g:sa k s.heap)(h:n<=k)
  (q:∀h',Heap.ExtBut it s.heap h'->Q none {s with heap:=h' }):wpAny (Ag prog w) A (Bq (.ref e)) Q E s:=by
 have ty:s.TypeIs (.ref e) "enumerate":=⟨_,c,rfl⟩
 unfold Bq
 refine Aj (Jp (Gk (name:=FP "__next__") ty Pc (E7 Pc ty PySem.F.entry_enumerate_next ?_ (PySem.F.args_enumerate_next_1 _))))
 show wpAny _ _ (field (.ref e) 2 >>= _) _ _ _
 refine Aj (Cw c rfl (x:=.ref it) rfl ?_)
 refine Aj (f.fin _ _ _ k _ (by first|exact a|simpa using a) h g λh' x i j=>?_)
 obtain⟨o,l,m⟩:=j
 exact Aj (wpAny_isInstance (T:="StopIteration") (b:=true) ⟨o,l,m⟩ isSubtype_stop (AC (q _ i)))
theorem eM{a:List Expr} {b} {pos:AT} {i:Int} {v:Aa} {T:Ad} {Q:Unit->Ac->Prop} (hz:IsEnumOut s.heap e it i v T)
  (q:∀h',IsEnum h' e it i v->C3 e s.heap h'->Q () {s with heap:=h' }):wpAny (Ag prog w) A (IH (.Tuple a b pos) (.ref e) (.ref T)) Q E s:=by
 unfold IH
 refine Aj (wpAny_load hz ?_)
 show wpAny _ _ (if(["enumerate","zip","dict_itemiterator","dict_reverseitemiterator","odict_iterator","itertools.zip_longest","itertools.pairwise"].contains "enumerate"&&(#[AI T,.bool false,.ref it,AI i,.none,v]:Array Aa)[0]?==some (AI T))=true then _ else _) Q E s
 rw[if_pos (by simp)]
 refine Aj (FW ?_)
 show wpAny _ _ (setField (.ref e) 0 .none) Q E s
 exact EV hz (by simp) λh' z c=>q h' z c
end
end
def Uo(K:Ap)(S:Bh):It:=
 ⟨λi H=>∃a x,S.sq K H a/\a[i]?=some x,
  λi H v b=>∃p x,v=.ref p/\H p=none/\b=AK H p (.tup [.int i,x])/\(∀a,S.sq K H a->a[i]?=some x),
  λi H=>∃a,S.sq K H a/\a.length<=i⟩
theorem eO{P:AS}{w:Ai}{K:Ap}{j:List Expr} {T} {pos:AT} (S:Bh) (n:Nat) (U:S.ad<n):
  Gh P w K (.Tuple j T pos) (Uo K S) [n+1,n] (n+1) (λi h=>(∃d,IsEnum h (n+1) n i d)/\S.it h n i) where
 mem:=by simp
 obj:=λi h ⟨⟨x,z⟩,c⟩ q a=>by
  simp only[Bm,EH,or_false]at a
  rcases a with rfl|rfl
  ·exact⟨_,z,λv e=>nomatch (show Data.fields _=Data.cell v from e)⟩
  ·exact S.itOb c
 keep:=λi h m ⟨⟨x,z⟩,c⟩ k=>⟨⟨x,k _ (by simp) _ z⟩,S.itAt c λo e=>k _ (by simp) o e⟩
 item:=by
  intro X u y A N i b s O H E I p ⟨⟨d,z⟩,c⟩ ⟨Y,x,r,ex⟩
  subst u y A
  obtain⟨f,B,C,_⟩:=S.of I r
  obtain⟨u1,Q,G⟩:=B.get ex
  have l1:=(List.getElem?_eq_some_iff.mp Q).1
  have hlt:n+1<s.heap.objs.size:=Be z
  have J:S.ad≠(n+1:Nat):=λe=>absurd (show @LT.lt Nat _ S.ad n from U) (by rw[e];show ¬ @LT.lt Nat _ _ _;omega)
  refine eK (S.sub (P:=X.prog) (w:=X.w) f.toArray) z ⟨c,C⟩ (by simpa using l1) (by(show @Ne Nat _ _;omega)) (λz=>J (D3.mp z).symm) λt m l z' ⟨c',_⟩ new kp=>?_
  have L:t=u1:=by simp[Q]at l;exact l.symm
  subst L
  refine⟨_,rfl,eM (s:={s with heap:=m,toks:=s.toks+1}) z' λg z2 sb=>?_⟩
  have M:∀q o,q≠n+1->m.get? q=some o->g.get? q=some o:=λq o a e=>sb.extBut _ _ a e
  have I1:Inv X b O (AK H s.heap.objs.size (.tup [.int i,x])) {s with heap:=g}:=by
   refine I.yielded p (λq o a e=>M q o (λz=>a (by simp[z])) (kp q o (λz=>a (by simp[z])) (λz=>a (by simp[z])) e)) (Bf _) ?_
   exact⟨show 2<=Av by decide,[.int i s.toks,t],.cons ⟨_,rfl⟩ (.cons G .nil),⟨_,M _ _ (by(show @Ne Nat _ _;omega)) new,rfl,_,rfl⟩⟩
  refine⟨.ref s.heap.objs.size,_,I1.tok (s.toks+1),rfl,⟨_,x,rfl,I.hok.fresh (Bf _),rfl,λzs hz=>by rw[S.inj I hz r];exact ex⟩,⟨⟨t,?_⟩,S.itAt c' λo e=>M _ o (by(show @Ne Nat _ _;omega)) e⟩,λq a=>?_⟩
  ·have:((i+1:Nat):Int)=(i:Int)+1:=by omega
   show IsEnum g (n+1) n ((i+1:Nat):Int) t
   rw[this]
   exact z2
  rw[Zq]
  ·exact(p q a).1
  ·simp only[Bm,EH,or_false]at a
   rcases a with rfl|rfl<;>(show @Ne Nat _ _;omega)
 done:=by
  intro X u y A N i b s O H E I p ⟨⟨d,z⟩,c⟩ ⟨Y,r,hl⟩
  subst u y A
  obtain⟨f,B,C,_⟩:=S.of I r
  have q1:=B.length
  refine eL (I.ok.hd N) (S.sub (P:=X.prog) (w:=X.w) f.toArray) z ⟨c,C⟩ (by simp only[Bu];omega) λm kp=>⟨rfl,I.turnedL p λq o a e=>kp q o (λz=>a (by simp[z])) e⟩
 self:=λ_ _ _ _ _ ⟨⟨_,z⟩,_⟩ q=>wpAny_pyIter_enum z q
theorem eP:Eg "enumerate"=some (.type "enumerate"):=by decide +kernel
def Ef:Nat->List D->List D
 |_,[]=>[]
 |k,d::a=>.tup [.int k,d]::Ef (k+1) a
theorem Pe:∀(xs:List D)(k:Nat),(Ef k xs).length=xs.length
 |[],_=>rfl
 |_::xs,k=>by simp[Ef,Pe xs]
theorem Up:∀(xs:List D)(k i:Nat),(Ef k xs)[i]?=(xs[i]?).map λd=>D.tup [.int ((k+i:Nat):Int),d]
 |[],_,_=>by simp[Ef]
 |x::xs,k,0=>by simp[Ef]
 |x::xs,k,i+1=>by
  simp only[Ef,A7,Up xs]
  rw[show k+1+i=k+(i+1) by omega]
@[simp] def KD(f:VE->Option D):VE->Option (List D):=λa=>match(f a).bind Fw with
  |some b=>some (Ef 0 b)
  |none=>none
theorem eQ{K:Ap}{M N:Fb}{H:Hp}{S:Bh}{xs:List D}{us:List V}(e:Ae K N H xs us)(q1:∀N2 b,Step M N N2 H b->S.sq K b us):LZ K M N H (Uo K S) (Ef 0 xs):=λN2 b St i=>by
 have c:=q1 _ _ St
 have d1:=Ae.step St _ _ e
 refine⟨λd a=>?_,λa=>⟨us,c,?_⟩⟩
 ·rw[Up]at a
  cases ex:xs[i]? with
  |none=>rw[ex]at a;cases a
  |some x=>
   rw[ex]at a;cases a
   obtain⟨u,f,h⟩:=d1.get ex
   refine⟨⟨us,u,c,f⟩,λz m ⟨p,n,j,g,k,l⟩=>?_⟩
   have:=l us c;rw[f]at this;cases this
   subst j k
   refine⟨Td g,Ku g (Ae.cons ?_ (Ae.cons h Ae.nil))⟩
   simp[Aq]
 ·have l1:=e.length
  rw[Pe]at a
  omega
section
variable{X:Cx}{M:Fb}{H0:Hp}{f:VE->Option D}{a:Expr}{elts:List Expr}{p pos tpos:AT}
theorem Uq {J} (L:Gl X "enumerate") (N:X.mg "enumerate"=none) (l:JE X a (tQ X.K M H0 f)) (x:AO [a] X.env=[(false,Ar a X.env)]:=by rfl) (m:AO [] X.env=[]:=by rfl):
  JI X (.Tuple elts J tpos) (.Call (.Name "enumerate" p) [a] [] pos) (tI X.K M H0 (KD f)):=⟨have l:=l.h;by
 intro d s n H Q I ⟨i,ds,R,e,q⟩
 unfold KD at e
 split at e
 ·next O ex=>
  cases e
  cases o:f i with
  |none=>rw[o]at ex;cases ex
  |some d1=>
   rw[o]at ex
   have t:=E5 l BM (by rw[x,m])
   refine Call_ (FI I L N eP (Kc (AU (t pos d s n H (λy u=>∃S g,y=[.ref (Bh.ad S)]/\Ak H u/\Ae X.K (Nf M i n) u O g/\(∀N2 A,Step M (Nf M i n) N2 u A->S.sq X.K A g)) I ?_) λg v ⟨y,B,j,T,q1⟩=>?_) x rfl))
   ·refine⟨i,d1,R,o,λU B Y q1=>?_⟩
    obtain⟨S,g,w,c,k⟩:=q1.src ex
    exact⟨S,g,by rw[w],Y,c,k⟩
   ·obtain⟨S,us',w,z,c,k⟩:=q1
    subst w
    cases T with
    |cons r rr=>
     cases rr
     cases r
     obtain⟨its,U,C,_⟩:=S.of j (k _ _ Step.refl)
     refine eJ C λh' a1 a4 kp=>wpAny_pyIter_enum a1 ?_
     refine⟨_,_,_,_,B,rfl,j.kept (t':=v.toks) kp,eO S v.heap.objs.size (S.lt C),⟨⟨_,a1⟩,a4⟩,λb E=>?_,q _ _ z (eQ c k)⟩
     have G:v.heap.objs.size<=b:=by
      simp only[Bm,EH,or_false]at E
      rcases E with rfl|rfl<;>(show @LE.le Nat _ _ _;omega)
     exact j.fpOk G (j.hok.fresh G)
 ·cases e⟩
end
abbrev T3:=KT×V×V
def Di:List T3->List V
 |[]=>[]
 |t::r=>t.2.1::t.2.2::Di r
def CL:List T3->KT->Option V
 |[],_=>none
 |t::r,k=>if t.1=k then some t.2.2 else CL r k
def Fc:List T3->KT->V->List T3
 |[],_,_=>[]
 |t::r,k,v=>(if t.1=k then(t.1,t.2.1,v)else t)::Fc r k v
def Dj(a:List T3)(k:KT)(b v:V):List T3:=if(CL a k).isSome=true then Fc a k v else a++[(k,b,v)]
theorem Ur(k:KT)(v:V):∀a:List T3,(Fc a k v).map (·.1)=a.map (·.1)
 |[]=>rfl
 |t::r=>by
  simp only[Fc,AY,Ur k v r]
  split<;>rfl
theorem Us{k:KT}:∀{a:List T3},CL a k=none->k∉a.map (·.1)
 |[],_=>by simp
 |t::r,h=>by
  unfold CL at h
  split at h
  ·cases h
  ·next e=>
   simp only[AY,Bm,not_or]
   exact⟨λz=>e z.symm,Us h⟩
theorem Jq{c:List T3}{k:KT}{f v:V}(h:(c.map (·.1)).Nodup):((Dj c k f v).map (·.1)).Nodup:=by
 unfold Dj
 split
 ·rw[Ur];exact h
 ·next e=>
  rw[Hl,Jr]
  refine⟨h,by simp,λa g b d=>?_⟩
  have i:CL c k=none:=by
   cases j:CL c k with
   |none=>rfl
   |some x=>rw[j]at e;exact absurd rfl e
  simp only[AY,BH,D3]at d
  subst d
  rintro rfl
  exact Us i g
theorem Ut(k:KT)(v:V):∀a:List T3,(Fc a k v).length=a.length
 |[]=>rfl
 |t::r=>by simp[Fc,Ut k v r]
theorem Pf(a:List T3)(k:KT)(b v:V):(Dj a k b v).length<=a.length+1:=by
 unfold Dj
 split
 ·rw[Ut];omega
 ·simp
theorem Hm{a:At}{u:Aa}(h:RelV (EO a) u):GZ a u=true:=by
 cases a with
 |non=>cases h;rfl
 |int i=>obtain⟨t,rfl⟩:=h;exact YC i t
 |str x=>obtain⟨t,rfl⟩:=h;exact YD x t
theorem eR{a:At}{u:Aa}(h:GZ a u=true):RelV (EO a) u:=by
 rcases G0 h with⟨rfl,rfl⟩|⟨i,t,rfl,rfl⟩|⟨x,t,rfl,rfl⟩
 ·rfl
 ·exact⟨t,rfl⟩
 ·exact⟨t,rfl⟩
abbrev RA:List T3->List (At×Aa)->Prop:=Paired λt u=>t.1=.at u.1/\t.2.1=EO u.1/\RelV t.2.2 u.2
theorem Uu{P:AS}{w:Ai}:∀{d:List T3}{es:List Bi},Hz w (d.map (·.1)) (Di d) es->(∀t∈d,∃a,t.1=KT.at a) ->
  ∃us,RA d us/\Pairs (ZZ P w) es us/\∀e∈es,∃k,(ZZ P w).is k e.key=true/\e.hash=(ZZ P w).hash k
 |[],es,h,_=>by
  obtain⟨_,rfl⟩:=h
  exact⟨[],.nil,.nil,λ_ z=>nomatch z⟩
 |t::r,es,h,m=>by
  obtain⟨E,v,q,e,o,f,p,g,s,i,b,u⟩:=h
  obtain⟨a,n⟩:=m t Bw
  simp only[Di,Kx]at f
  obtain⟨f,j,c⟩:=f
  subst f j p c
  dsimp only at i b
  rw[n]at i b
  obtain⟨us,x,y,A⟩:=Uu (P:=P) u λt B=>m t (BA _ B)
  have b:t.2.1=EO a:=b
  rw[b]at g
  refine⟨(a,e.val)::us,.cons ⟨n,b,s⟩ x,.cons (Hm g) rfl y,λC l=>?_⟩
  rcases Bm.mp l with rfl|l
  ·exact⟨a,Hm g,i⟩
  ·exact A C l
theorem Uv{P:AS}{w:Ai}:∀{b:List T3}{us:List (At×Aa)}{es:List Bi},RA b us->Pairs (ZZ P w) es us->(∀e∈es,∃k,(ZZ P w).is k e.key=true/\e.hash=(ZZ P w).hash k) ->
  Hz w (b.map (·.1)) (Di b) es
 |_,_,_,.nil,.nil,_=>⟨rfl,rfl⟩
 |t::r,(a,u)::us,e::es,.cons ⟨c,d,g⟩ h,.cons p1 i j,f=>by
  refine⟨t.2.1,t.2.2,Di r,e,es,rfl,rfl,?_,?_,?_,?_,Uv h j λe l=>f e (BA _ l)⟩
  ·rw[d];exact eR p1
  ·rw[i];exact g
  ·obtain⟨k,q1,q2⟩:=f e Bw
   have:k=a:=(ZZ P w).inj _ _ _ q1 p1
   subst this
   dsimp only;rw[c];exact q2
  ·dsimp only;rw[c];exact d
theorem RA.val:∀{b:List T3}{us:List (At×Aa)},RA b us->∀a,B6 (CL b (.at a)) (valueAt us a)
 |_,_,.nil,_=>FM
 |t::r,u::us,.cons ⟨c,h,d⟩ f,a=>by
  have g:=RA.val f a
  unfold CL valueAt
  rw[c,List.find?_cons]
  by_cases e:u.1=a
  ·rw[if_pos (by rw[e])];simp only[e,decide_true];exact d
  ·rw[if_neg (λz=>e (KT.at.inj z))];simp only[e,decide_false];exact g
theorem B6.isS:∀{o:Option V}{u:Option Aa},B6 o u->o.isSome=u.isSome
 |some _,some _,_=>rfl
 |none,none,_=>rfl
 |some _,none,h=>h.elim
 |none,some _,h=>h.elim
theorem RA.rep{a:At}{v:V}{u:Aa}(d:RelV v u):∀{f:List T3}{us:List (At×Aa)},RA f us->RA (Fc f (.at a) v) (us.map λc=>if c.1=a then(c.1,u)else c)
 |_,_,.nil=>.nil
 |t::r,w::us,.cons ⟨b,g,h⟩ i=>by
  have j:=RA.rep (a:=a) d i
  unfold Fc
  rw[AY]
  refine .cons ?_ j
  by_cases e:w.1=a
  ·rw[if_pos (by rw[b,e]),if_pos e];exact⟨b,g,d⟩
  ·rw[if_neg (λz=>e (KT.at.inj (b.symm.trans z))),if_neg e];exact⟨b,g,h⟩
theorem Paired.snoc'{a b:Type}{F:a->b->Prop}{x:a}{y:b}(h:F x y):∀{l:List a}{m:List b},Paired F l m->Paired F (l++[x]) (m++[y])
 |_,_,.nil=>.cons h .nil
 |_,_,.cons r t=>.cons r (Paired.snoc' h t)
theorem eS{us:List (At×Aa)}{a:At}:(us.any λb=>decide (b.1=a))=(valueAt us a).isSome:=by
 unfold valueAt
 rw[Option.isSome_map]
 induction us with
 |nil=>rfl
 |cons x r c=>
  rw[List.any_cons,List.find?_cons]
  cases decide (x.1=a)with
  |true=>rfl
  |false=>simpa using c
theorem RA.put{b:List T3}{us:List (At×Aa)}{a:At}{v:V}{u:Aa}(h:RA b us)(c:RelV v u):RA (Dj b (.at a) (EO a) v) (stored us a u):=by
 unfold Dj stored
 rw[eS,(h.val a).isS]
 by_cases e:(valueAt us a).isSome=true
 ·rw[if_pos e,if_pos e];exact h.rep c
 ·rw[if_neg e,if_neg e];exact Paired.snoc' ⟨rfl,rfl,c⟩ h
theorem RA.fst:∀{a:List T3}{us:List (At×Aa)},RA a us->a.map (·.1)=(us.map (·.1)).map KT.at
 |_,_,.nil=>rfl
 |t::r,u::us,.cons ⟨b,_,_⟩ c=>by rw[AY,AY,AY,b,RA.fst c]
abbrev RT:List T3->List (List At×Ad×Aa)->Prop:=Paired λt u=>t.1=.tup u.1/\t.2.1=.ref u.2.1/\RelV t.2.2 u.2.2
theorem Uw{P:AS}{w:Ai}:∀{b:List T3}{es:List Bi},Hz w (b.map (·.1)) (Di b) es->(∀t∈b,∃l,t.1=KT.tup l) ->
  ∃us,RT b us/\es=us.map (entryOfKey (tupleKind (ZZ P w)))
 |[],es,h,_=>by
  obtain⟨_,rfl⟩:=h
  exact⟨[],.nil,rfl⟩
 |t::r,es,h,i=>by
  obtain⟨E,v,q,e,n,c,o,j,s,d,f,u⟩:=h
  obtain⟨l,k⟩:=i t Bw
  simp only[Di,Kx]at c
  obtain⟨c,g,a⟩:=c
  subst c g o a
  dsimp only at d f
  rw[k]at d f
  obtain⟨us,x,y⟩:=Uw (P:=P) u λt z=>i t (BA _ z)
  obtain⟨p,m⟩:=(f:∃p,t.2.1=.ref p)
  rw[m]at j
  obtain⟨A,B,C⟩:=e
  cases(j:B=Bv p)
  refine⟨(l,p,C)::us,.cons ⟨k,m,s⟩ x,?_⟩
  rw[AY,<- y]
  have:A=(KT.tup l).hash w:=d
  rw[this];rfl
theorem Ux{P:AS}{w:Ai}:∀{a:List T3}{us:List (List At×Ad×Aa)},RT a us->Hz w (a.map (·.1)) (Di a) (us.map (entryOfKey (tupleKind (ZZ P w))))
 |_,_,.nil=>⟨rfl,rfl⟩
 |t::r,u::us,.cons ⟨b,c,d⟩ e=>by
  refine⟨t.2.1,t.2.2,Di r,_,_,rfl,rfl,?_,d,?_,?_,Ux e⟩
  ·rw[c];rfl
  ·dsimp only;rw[b];rfl
  ·dsimp only;rw[b];exact⟨_,c⟩
theorem RT.val:∀{a:List T3}{us:List (List At×Ad×Aa)},RT a us->∀l,B6 (CL a (.tup l)) ((atKey us l).map (·.2))
 |_,_,.nil,_=>FM
 |t::r,u::us,.cons ⟨b,g,c⟩ d,l=>by
  have f:=RT.val d l
  unfold CL atKey
  rw[b,List.find?_cons]
  by_cases e:u.1=l
  ·rw[if_pos (by rw[e])];simp only[e,decide_true];exact c
  ·rw[if_neg (λz=>e (KT.tup.inj z))];simp only[e,decide_false];exact f
theorem RT.rep{l:List At}{v:V}{u:Aa}(b:RelV v u):∀{c:List T3}{us:List (List At×Ad×Aa)},RT c us->RT (Fc c (.tup l) v) (us.map (putAt l u))
 |_,_,.nil=>.nil
 |t::r,w::us,.cons ⟨a,d,f⟩ g=>by
  have h:=RT.rep (l:=l) b g
  unfold Fc
  rw[AY]
  refine .cons ?_ h
  unfold putAt
  by_cases e:w.1=l
  ·rw[if_pos (by rw[a,e]),if_pos e];exact⟨a,d,b⟩
  ·rw[if_neg (λz=>e (KT.tup.inj (a.symm.trans z))),if_neg e];exact⟨a,d,f⟩
theorem RT.put{a:List T3}{us:List (List At×Ad×Aa)}{l:List At}{p:Ad}{v:V}{u:Aa}(h:RT a us)(b:RelV v u):RT (Dj a (.tup l) (.ref p) v) (storedH us l p u):=by
 unfold Dj storedH
 have c:=(h.val l).isS
 rw[Option.isSome_map]at c
 rw[c]
 by_cases e:(atKey us l).isSome=true
 ·rw[if_pos e,if_pos e];exact h.rep b
 ·rw[if_neg e,if_neg e];exact Paired.snoc' ⟨rfl,rfl,b⟩ h
theorem RT.fst:∀{a:List T3}{us:List (List At×Ad×Aa)},RT a us->a.map (·.1)=(us.map (·.1)).map KT.tup
 |_,_,.nil=>rfl
 |t::r,u::us,.cons ⟨b,_,_⟩ c=>by rw[AY,AY,AY,b,RT.fst c]
theorem Pg{c d:Type}{f:c->d}(e:∀a b,f a=f b->a=b):∀{l:List c},(l.map f).Nodup->l.Nodup
 |[],_=>List.nodup_nil
 |a::l,h=>by
  rw[AY,List.nodup_cons]at h
  rw[List.nodup_cons]
  exact⟨λz=>h.1 (List.mem_map.mpr ⟨a,z,rfl⟩),Pg e h.2⟩
def DK(K:Ap)(H:Hp):KT->V->Prop
 |.at a,v=>v=EO a
 |.tup l,v=>∃p,v=.ref p/\BE K H p (l.map EO)
theorem Uy{P:AS}{w:Ai}:∀{a:List At}{us:List Aa},Am (a.map EO) us->ItemsAre (ZZ P w) a us
 |[],_,r=>by rw[BH]at r;cases r;exact .nil
 |k::a,_,r=>by
  rw[AY]at r
  cases r with
  |cons h t=>exact .cons (Hm h) (Uy t)
def GG:KT->List T3->Prop
 |.at _,b=>∀t∈b,∃a,t.1=KT.at a
 |.tup _,b=>∀t∈b,∃l,t.1=KT.tup l
def Cc(K:Ap)(H:Hp)(a:Ad)(b:List T3):Prop:=Rd H a (.dct (b.map (·.1)) (Di b))/\∀t∈b,DK K H t.1 t.2.1
section
variable{X:Cx}{pins:List (Ad×AJ)}{σ:St}{H:Hp}{s:Ac}{a p:Ad}{y v:V}{u r:Aa}{o:Option V}{A:Ah}{E:Aa->Ac->Prop}{tr:List T3}{k:KT}
theorem Js{l:List At}(I:Inv X pins σ H s)(h:BE X.K H p (l.map EO)):(tupleKind (ZZ X.prog X.w)).is s.heap l p:=by
 obtain⟨a,r,⟨o,b,c,n,d⟩,_⟩:=I.tuple h
 exact⟨o,a.toArray,n,b,c,d,by simpa using Uy r⟩
theorem KG(I:Inv X pins σ H s)(h:Cc X.K H a tr)(c:∀t∈tr,∃a,t.1=KT.at a):tr.length<=Av/\(a==EY)=false/\(tr.map (·.1)).Nodup/\∃us,RA tr us/\s.heap.DictOf (ZZ X.prog X.w) a us:=by
 obtain⟨z,d,nd,o,f,g,i,j,k,l⟩:=h.1.ok I.hok
 obtain⟨us,b,m,n⟩:=Uu (P:=X.prog) l c
 refine⟨by simpa using z,d,nd,us,b,o,f,g,i,j,k,λe p=>n e (by simpa using p),m,?_⟩
 rw[b.fst]at nd
 exact Pg (λ_ _ z=>KT.at.inj z) nd
theorem KH(I:Inv X pins σ H s)(h:Cc X.K H a tr)(j:∀t∈tr,∃l,t.1=KT.tup l):tr.length<=Av/\(a==EY)=false/\(tr.map (·.1)).Nodup/\∃us,RT tr us/\s.heap.DictOfH (tupleKind (ZZ X.prog X.w)) a us:=by
 obtain⟨z,k,nd,o,n,d,r,v,y,A⟩:=h.1.ok I.hok
 obtain⟨us,f,B⟩:=Uw (P:=X.prog) A j
 have c:=nd
 rw[f.fst]at c
 refine⟨by simpa using z,k,nd,us,f,o,n,d,r,v,y,B,λx b=>?_,Pg (λ_ _ z=>KT.tup.inj z) c⟩
 have all:∀{l:List T3} {m:List (List At×Ad×Aa)},RT l m->(∀t∈l,DK X.K H t.1 t.2.1)->∀x∈m,(tupleKind (ZZ X.prog X.w)).is s.heap x.1 x.2.1:=by
  intro l m q
  induction q with
  |nil=>intro _ x b;exact nomatch b
  |@cons t u J us g L C=>
   intro i x b
   rcases Bm.mp b with e|b
   ·subst e
    have:=i t Bw
    rw[g.1,g.2.1]at this
    obtain⟨p,d,E⟩:=this
    cases d
    exact Js I E
   ·exact C (λt G=>i t (BA _ G)) x b
 exact all f h.2 x b
theorem B6.to:∀{v:V}{o:Option Aa},B6 (some v) o->∃w,o=some w/\RelV v w
 |_,some w,h=>⟨w,rfl,h⟩
 |_,none,h=>h.elim
theorem eT{Q:Aa->Ac->Prop}(r:A.units+1<AE)(I:Inv X pins σ H s)(h:Cc X.K H a tr)(j:GG k tr)(m:DK X.K H k y)(n:RelV y u)(o:CL tr k=some v)(q:∀d s',Inv X pins σ H s'->RelV v d->Q d s'):
  wpAny (Ag X.prog X.w) A (getItem (.ref a) u) Q E s:=by
 cases k with
 | «at» b=>
  cases m
  obtain⟨z,hd,nd,t,rel,f⟩:=KG I h j
  have e:=rel.val b
  rw[o]at e
  obtain⟨d,g,c⟩:=e.to
  exact wpAny_getItem_of (knd:=ZZ X.prog X.w) (Hm n) f.mapOf g (q d _ (I.tok _) c)
 |tup l=>
  obtain⟨p,B,C⟩:=m
  subst B
  cases(show u=Bv p from n)
  obtain⟨z,hd,nd,t,rel,f⟩:=KH I h j
  have e:=rel.val l
  rw[o]at e
  obtain⟨d,g,c⟩:=e.to
  obtain⟨J,G,i⟩:=Option.map_eq_some_iff.mp g
  refine wpAny_getItem_heap (Mj r) (Js I C) f G ?_
  rw[i]
  exact q d _ (I.tok _) c
theorem eU{Q:Aa->Ac->Prop}(i:A.units+1<AE)(I:Inv X pins σ H s)(h:Cc X.K H a tr)(d:GG k tr)(e:DK X.K H k y)(f:RelV y u)(q:∀s',Inv X pins σ H s'->Q (.bool (CL tr k).isSome) s'):
  wpAny (Ag X.prog X.w) A (Dd .In u (.ref a)) Q E s:=by
 cases k with
 | «at» b=>
  cases e
  obtain⟨z,hd,nd,j,rel,c⟩:=KG I h d
  refine wpAny_in_of (knd:=ZZ X.prog X.w) (Hm f) hd c.mapOf ?_
  rw[<- (rel.val b).isS]
  exact q _ (I.tok _)
 |tup l=>
  obtain⟨p,n,o⟩:=e
  subst n
  cases(show u=Bv p from f)
  obtain⟨z,hd,nd,j,rel,c⟩:=KH I h d
  refine wpAny_in_heap (Mj i) (Js I o) hd c ?_
  have g:=(rel.val l).isS
  rw[Option.isSome_map]at g
  rw[<- g]
  exact q _ (I.tok _)
theorem Jt{h':Al}{t':Nat}{ob:HO}(I:Inv X pins σ H s)(c:J7 (H a))(d:C3 a s.heap h')(f:∃q,h'.get? a=some q)(new:AZ X.prog X.w (AK H a ob) h' a ob):
  Inv X pins σ (AK H a ob) {s with heap:=h',toks:=t' }:=
 I.write (x:=a) (e:=a) c (.inl rfl) (λb q g z=>(d.2 b g).trans z) f new
def Dk(tr:List T3):HO:=.dct (tr.map (·.1)) (Di tr)
theorem Ph{P:AS}{w:Ai}{H':Hp}{h':Al}{us:List (At×Aa)}(z:tr.length<=Av)(hd:(a==EY)=false)(nd:(tr.map (·.1)).Nodup)(rel:RA tr us)(dd:h'.DictOf (ZZ P w) a us):AZ P w H' h' a (Dk tr):=by
 obtain⟨o,b,c,d,f,g,h,i,k⟩:=dd
 exact⟨by simpa using z,hd,nd,o,b,c,d,f,g,Uv rel i λe j=>h e (by simpa using j)⟩
theorem Pj{P:AS}{w:Ai}{H':Hp}{h':Al}{us:List (List At×Ad×Aa)}(z:tr.length<=Av)(hd:(a==EY)=false)(nd:(tr.map (·.1)).Nodup)(rel:RT tr us)(dd:h'.DictOfH (tupleKind (ZZ P w)) a us):AZ P w H' h' a (Dk tr):=by
 obtain⟨o,b,c,d,e,f,g,h,i⟩:=dd
 refine⟨by simpa using z,hd,nd,o,b,c,d,e,f,?_⟩
 rw[g]
 exact Ux rel
theorem eV{Q:Unit->Ac->Prop}(M:A.units+1<AE)(I:Inv X pins σ H s)(e:H a=some (Dk tr))(d:∀t∈tr,DK X.K H t.1 t.2.1)(C:GG k tr)(G:DK X.K H k y)(J:RelV y u)(L:RelV v r)(U:tr.length<Av)
  (q:∀s',Inv X pins σ (AK H a (Dk (Dj tr k y v))) s'->Q () s'):wpAny (Ag X.prog X.w) A (setItem (.ref a) u r) Q E s:=by
 have h:Cc X.K H a tr:=⟨.inl e,d⟩
 have f:(Dj tr k y v).length<=Av:=by have:=Pf tr k y v;omega
 cases k with
 | «at» b=>
  cases G
  obtain⟨z,hd,nd,g,rel,i⟩:=KG I h C
  have j:g.length<=Av:=by rw[<- FG rel];exact z
  refine wpAny_setItem_pairs (knd:=ZZ X.prog X.w) (hsz:=j) (Hm J) i λn c o=>q _ ?_
  have x:∃q,n.get? a=some q:=let⟨q,_,_,B,_⟩:=c;⟨q,B⟩
  exact Jt I (by rw[e];exact FM) o x (Ph f hd (Jq nd) (rel.put L) c)
 |tup l=>
  obtain⟨p,O,T⟩:=G
  subst O
  cases(show u=Bv p from J)
  obtain⟨z,hd,nd,g,rel,i⟩:=KH I h C
  have j:g.length<=Av:=by rw[<- FG rel];exact z
  refine wpAny_setItem_heap (hsz:=j) (Mj M) (Js I T) i λn c o=>q _ ?_
  have x:∃q,n.get? a=some q:=let⟨q,_,_,B,_⟩:=c;⟨q,B⟩
  exact Jt I (by rw[e];exact FM) o x (Pj f hd (Jq nd) (rel.put L) c)
end
end L2
namespace PySem
section
variable{prog:AS}{w:Ai}{K:Type}[DecidableEq K]{knd:HeapKind prog w K}{A:Ah}{E:Aa->Ac->Prop}{s:Ac}
theorem eW{d a:Ad}{xs:List (K×Ad×Aa)}{k:K}{v:Aa}{Q:Aa->Ac->Prop}(n:knd.room A)(b:knd.is s.heap k a)(t:s.heap.DictOfH knd d xs)(hsz:xs.length<=Av)
  (u:∀p,atKey xs k=some p->Q p.2 {s with toks:=s.toks+knd.draws k})
  (z:atKey xs k=none->∀h',h'.DictOfH knd d (storedH xs k a v)->C3 d s.heap h'->Q v {s with heap:=h',toks:=s.toks+knd.draws k}):
  wpAny (Ag prog w) A (dictSetDefault d (.ref a) v) Q E s:=by
 obtain⟨o,G,B,g,C,hd,l,h,m⟩:=t
 unfold dictSetDefault
 try with_reducible refine DR ?_
 refine Aj (knd.pyHash n b ?_)
 refine Aj (wpAny_dictFind_heap (s:={s with toks:=s.toks+knd.draws k}) n b g hd l h m ?_ ?_)
 ·intro c
  have i:k∉xs.map (·.1):=not_mem_keys_of_get c
  refine Aj (FW (Aj (wpAny_updateDictKeys (hz:=by have e:=size_of_entries l;omega) (s:={s with toks:=s.toks+knd.draws k}) g hd (AC (z (atKey_none_of_get c) _ ⟨_,_,B+1,Kf _ g (Obj.isFreed_of_dict (Obj.data_mapDictKeys hd _)),
   C.mapDictKeys _,Obj.data_mapDictKeys hd _,?_,?_,?_⟩ (Jl ..))))))
  ·rw[storedH_new (atKey_none_of_get c)]
   simp[l,entryOfKey]
  ·rw[storedH_new (atKey_none_of_get c)]
   intro x f
   rcases CT.mp f with f|f
   ·exact knd.keeps (h x f) g hd (Jl ..)
   ·simp only[D3]at f
    subst f
    exact knd.keeps b g hd (Jl ..)
  ·rw[storedH_new (atKey_none_of_get c)]
   rw[Hl,Jr]
   refine⟨m,by simp,?_⟩
   intro x f y q
   simp only[AY,BH,D3]at q
   subst q
   exact λe=>i (e ▸ f)
 ·intro j p r
  refine Aj (wpAny_dictEntries (s:={s with toks:=s.toks+knd.draws k}) g hd ?_)
  rw[entry_at l j,r]
  exact Aj (FW (AC (u p (atKey_of_get m r))))
theorem eX{k:K}{a:Ad}(d:Ad)(hd:(d==EY)=false)(dflt:Aa):
  MeetsIn prog w (En.«dict.setdefault» ⟨[.ref d,.ref a,dflt],[]⟩) (λA R s=>knd.room A.in1/\∃xs,knd.is s.heap k a/\s.heap.DictOfH knd d xs/\xs.length<=Av /\
   (∀p,atKey xs k=some p->R (.ok (.ret p.2)) {s with toks:=s.toks+knd.draws k}) /\
   (atKey xs k=none->∀h',h'.DictOfH knd d (storedH xs k a dflt)->C3 d s.heap h'->R (.ok (.ret dflt)) {s with heap:=h',toks:=s.toks+knd.draws k})):=
 .of_wp λA R s ⟨g,xs,b,f,h,i,j⟩=>by
  unfold En.«dict.setdefault»
  refine Aj ?_
  unfold Builtin.Dict.keyAndDefault
  refine Aj (wpAny_notOrdered_dict f.typeIs ?_)
  show wpAny _ _ (AB (d,Bv a,some dflt)) _ _ s
  refine AC ?_
  show wpAny _ _ (if(d==EY)=true then _ else(dictSetDefault d (.ref a) dflt >>= _)) _ _ s
  rw[if_neg (by rw[hd];exact Gd)]
  exact Aj (eW g b f h (λp l=>AC ⟨p.2,rfl,i p l⟩) λm h' c e=>AC ⟨dflt,rfl,j m h' c e⟩)
end
end PySem
namespace L2
open PySem PySem.Spec PyProof.Rows
def Uz(K:Ap):R2:=λx y H Q=>∃a b k v,x=.ref a/\Cc K H a b/\GG k b/\DK K H k y/\CL b k=some v/\Q v H
def UA(K:Ap)(neg:Bool):R2:=λx y H Q=>∃a b k,y=.ref a/\Cc K H a b/\GG k b/\DK K H k x/\Q (.bl (neg != (CL b k).isSome)) H
def eY(K:Ap):LC:=λo i v H Q=>∃a b k,o=.ref a/\H a=some (Dk b)/\(∀t∈b,DK K H t.1 t.2.1)/\GG k b/\DK K H k i/\b.length<Av/\Q (AK H a (Dk (Dj b k i v)))
def eZ(K:Ap):V->List V->Hp->VK->Prop:=λx c H Q=>∃a b k y z,x=.ref a/\c=[y,z]/\H a=some (Dk b)/\(∀t∈b,DK K H t.1 t.2.1)/\GG k b/\DK K H k y/\b.length<Av /\
 (∀v,CL b k=some v->Q v H)/\(CL b k=none->Q z (AK H a (Dk (Dj b k y z))))
theorem Cc.typeIs{X:Cx}{b:List (Ad×AJ)}{σ:St}{H:Hp}{s:Ac}{a:Ad}{d:List T3}(I:Inv X b σ H s)(h:Cc X.K H a d):s.TypeIs (.ref a) "dict":=by
 obtain⟨_,_,_,o,_,_,e,c,_⟩:=h.1.ok I.hok
 exact⟨o,e,c.1⟩
section
variable{X:Cx}
theorem e5(t:X.A.units+64<AE):Fm X (Uz X.K):=by
 intro b slice c s g H x y v u Q I i j h l
 obtain⟨a,B,k,z,rfl,hd,m,n,o,q⟩:=h
 cases i
 have f:=hd.typeIs I
 unfold subscriptTail
 refine Aj ?_
 rw[getitemInPython_of_ne f.not_modules]
 refine Aj (wpAny_specialOf f PySem.F.slot_dict_getitem.lookup ?_)
 have fin:wpAny (Ag X.prog X.w) X.A (subscripted slice false (.ref a) u) (λr d=>wpAny (Ag X.prog X.w) X.A (letTemporaryGo b (.ref a) r >>= λ_=>AB r) (EP X c g Q) X.xe d) X.xe s:=by
  rw[l]
  exact wpAny_operating (eT (by omega) I hd m n j o λC E p e=>Aj (wpAny_letTemporaryGo (AC ⟨z,H,p,e,q⟩)))
 first
  |exact AC (Aj fin)
  |exact Aj (AC (Aj fin))
  |exact Aj fin
theorem UB(j:X.A.units+64<AE):BU X (Dd .In) (UA X.K false):=by
 intro b s l H x y v u Q I c d h
 obtain⟨a,e,k,rfl,hd,f,g,q⟩:=h
 cases d
 exact eU (by omega) I hd f g c λm i=>⟨.bl (CL e k).isSome,H,i,rfl,by simpa using q⟩
theorem e6(p:X.A.units+64<AE):NX X (eY X.K):=by
 intro c s r H o i v t w u Q I d f g h
 obtain⟨a,x,k,rfl,e,b,j,l,m,q⟩:=h
 cases d
 exact eV (by omega) I e b j l f g m λy n=>⟨_,n,q⟩
theorem e7(hu:X.A.units+64<AE):Gn X "dict.setdefault" (eZ X.K):=by
 intro N s σ H x xs v j Q I rx rs h
 obtain⟨a,g,k,y,z,rfl,rfl,e,t,O,T,hl,q1,q2⟩:=h
 cases rx
 obtain⟨u1,U,rfl,Y,r⟩:=rs.two
 have hd:Cc X.K H a g:=⟨.inl e,t⟩
 have m:(Dj g k y z).length<=Av:=by have:=Pf g k y z;omega
 cases k with
 | «at» b=>
  cases T
  obtain⟨u,n,nd,j,rel,o⟩:=KG I hd O
  have B:j.length<=Av:=by rw[<- FG rel];exact u
  have c:=rel.val b
  refine call_meetsIn UC o.typeIs PySem.F.entry_dict_setdefault (PySem.F.args_dict_setdefault_3 _ _ _) (kt_meets_setdefault (ZZ X.prog X.w) a (Hm Y) n U)
   ⟨j,o,B,λv' C=>?_,λE G f i=>?_⟩
  ·rw[C]at c
   cases d:CL g (.at b)with
   |none=>rw[d]at c;exact c.elim
   |some w=>rw[d]at c;exact⟨w,H,I.tok _,c,q1 w d⟩
  ·rw[E]at c
   cases d:CL g (.at b)with
   |some w=>rw[d]at c;exact c.elim
   |none=>
    have J:∃q,G.get? a=some q:=let⟨q,_,_,L,_⟩:=f;⟨q,L⟩
    exact⟨z,_,Jt I (by rw[e];exact FM) i J (Ph m n (Jq nd) (rel.put r) f),r,q2 d⟩
 |tup l=>
  obtain⟨p,ep,sq⟩:=T
  subst ep
  cases(show u1=Bv p from Y)
  obtain⟨u,n,nd,j,rel,o⟩:=KH I hd O
  have B:j.length<=Av:=by rw[<- FG rel];exact u
  have c:=rel.val l
  refine call_meetsIn UC o.typeIs PySem.F.entry_dict_setdefault (PySem.F.args_dict_setdefault_3 _ _ _) (eX (knd:=tupleKind (ZZ X.prog X.w)) (k:=l) a n U)
   ⟨Mj (by omega),j,Js I sq,o,B,λp' M=>?_,λE G f i=>?_⟩
  ·rw[M]at c
   cases d:CL g (.tup l)with
   |none=>rw[d]at c;exact c.elim
   |some w=>rw[d]at c;exact⟨w,H,I.tok _,c,q1 w d⟩
  ·rw[E]at c
   cases d:CL g (.tup l)with
   |some w=>rw[d]at c;exact c.elim
   |none=>
    have J:∃q,G.get? a=some q:=let⟨q,_,_,L,_⟩:=f;⟨q,L⟩
    exact⟨z,_,Jt I (by rw[e];exact FM) i J (Pj m n (Jq nd) (rel.put r) f),r,q2 d⟩
theorem Inv.big(I:Inv X a σ H s):EY<s.heap.objs.size:=by
 have h:BD<s.heap.objs.size:=(I.mod.glob.keeps I.bk).lt
 exact G8 (by decide) h
theorem GH{pos:AT}:PE X (.Dict [] [] pos) (λ_ H Q=>∀p,H p=none->Q (.ref p) (AK H p (Dk []))):=λb s c H Q I h=>
 wpAny_Dict_empty ⟨.ref s.heap.objs.size,_,I.laid (a:=s.heap.objs.size) (o:=Dk []) (t':=s.toks) (λ_ _ q=>Bk _ q) (Bf _)
  ⟨Dq _,beq_eq_false_iff_ne.mpr (BX (BS I.big)),List.nodup_nil,_,#[],0,BY _ rfl,⟨rfl,rfl,rfl⟩,rfl,rfl,rfl⟩,rfl,h _ (I.hok.fresh (Bf _))⟩
end
def Ij:D->Option At
 |.non=>some .non
 |.int i=>some (.int i)
 |.str x=>some (.str x)
 |_=>none
def GI:List D->Option (List At)
 |[]=>some []
 |d::r=>(Ij d).bind λa=>(GI r).map (a::·)
def CM:D->Option KT
 |.tup l=>(GI l).map KT.tup
 |d=>(Ij d).map KT.at
def aD:At->D
 |.non=>.non
 |.int i=>.int i
 |.str x=>.str x
def kD:KT->D
 |.at a=>aD a
 |.tup l=>.tup (l.map aD)
theorem UD{d:D}{a:At}(h:Ij d=some a):d=aD a:=by
 unfold Ij at h
 split at h<;>cases h<;>rfl
theorem UE:∀{l:List D}{b:List At},GI l=some b->l=b.map aD
 |[],_,h=>by cases h;rfl
 |d::r,b,h=>by
  unfold GI at h
  cases c:Ij d with
  |none=>rw[c]at h;cases h
  |some a=>
   rw[c]at h
   cases e:GI r with
   |none=>rw[e]at h;cases h
   |some bs=>rw[e]at h;cases h;rw[AY,<- UD c,<- UE e]
theorem Ju{d:D}{k:KT}(h:CM d=some k):d=kD k:=by
 unfold CM at h
 split at h
 ·next l=>
  cases b:GI l with
  |none=>rw[b]at h;cases h
  |some c=>rw[b]at h;cases h;rw[UE b];rfl
 ·cases b:Ij d with
  |none=>rw[b]at h;cases h
  |some a=>rw[b]at h;cases h;rw[UD b];rfl
theorem e8(a:At):Ij (aD a)=some a:=by cases a<;>rfl
theorem UF:∀(l:List At),GI (l.map aD)=some l
 |[]=>rfl
 |a::l=>by rw[AY];unfold GI;rw[e8,UF l];rfl
@[simp] theorem Jv(k:KT):CM (kD k)=some k:=by
  cases k with
  | «at» a=>cases a<;>rfl
  |tup l=>show(GI (l.map aD)).map KT.tup=_;rw[UF];rfl
@[simp] theorem ml:CM .non=some (.at .non):=rfl
@[simp] theorem mm(i:Int):CM (.int i)=some (.at (.int i)):=rfl
@[simp] theorem mn(x:Af):CM (.str x)=some (.at (.str x)):=rfl
theorem e9(a:At):OF (aD a)=a:=by cases a<;>rfl
theorem fe(k:KT):OG (kD k)=k:=by
 cases k with
 | «at» a=>cases a<;>rfl
 |tup l=>
  unfold kD OG
  simp only[CV,KT.tup.injEq]
  induction l with
  |nil=>rfl
  |cons a l b=>rw[AY,b];simp[e9]
abbrev BC:=List (KT×D)
def ZB:BC->List D
 |[]=>[]
 |p::r=>kD p.1::p.2::ZB r
def DL:List D->Option BC
 |[]=>some []
 |k::v::r=>(CM k).bind λa=>(DL r).map ((a,v)::·)
 |_=>none
@[simp] theorem Pk:∀a:BC,DL (ZB a)=some a
  |[]=>rfl
  |p::r=>by unfold ZB DL;rw[Jv,Pk r];rfl
@[simp] theorem mo:DL []=some []:=rfl
theorem Ik:∀{xs:List D}{a:BC},DL xs=some a->xs=ZB a
 |[],_,h=>by cases h;rfl
 |[_],_,h=>by cases h
 |k::v::r,a,h=>by
  unfold DL at h
  cases b:CM k with
  |none=>rw[b]at h;cases h
  |some d=>
   rw[b]at h
   cases c:DL r with
   |none=>rw[c]at h;cases h
   |some q=>rw[c]at h;cases h;unfold ZB;rw[<- Ju b,<- Ik c]
theorem Pl:∀a:BC,HQ (ZB a)=a.map (·.1)
 |[]=>rfl
 |p::r=>by unfold ZB HQ;rw[fe,Pl r];rfl
def Cp:BC->KT->Option D
 |[],_=>none
 |t::r,k=>if t.1=k then some t.2 else Cp r k
def Fx:BC->KT->D->BC
 |[],_,_=>[]
 |t::r,k,v=>(if t.1=k then(t.1,v)else t)::Fx r k v
def Dl(a:BC)(k:KT)(v:D):BC:=if(Cp a k).isSome=true then Fx a k v else a++[(k,v)]
def Fy:KT->Bool
 |.at _=>true
 |_=>false
def Dm(k:KT)(a:BC):Bool:=a.all λp=>Fy p.1==Fy k
section
variable{K:Ap}{N:Fb}{H:Hp}
abbrev PD(K:Ap)(N:Fb)(H:Hp):BC->List T3->Prop:=Paired λp t=>p.1=t.1/\Aq K N H (kD p.1) t.2.1/\Aq K N H p.2 t.2.2
theorem UG{a:At}{v:V}(h:Aq K N H (aD a) v):v=EO a:=by cases a<;>simpa only[aD,Aq,EO]using h
theorem UH:∀{l:List At}{vs:List V},Ae K N H (l.map aD) vs->vs=l.map EO
 |[],_,h=>by simpa only[BH,Ae]using h
 |a::l,vs,h=>by
  simp only[AY,Ae]at h
  obtain⟨v,r,e,b,c⟩:=h
  rw[e,UG b,UH c];rfl
theorem Jw{k:KT}{v:V}(h:Aq K N H (kD k) v):DK K H k v:=by
 cases k with
 | «at» a=>exact UG h
 |tup l=>
  simp only[kD,Aq]at h
  obtain⟨p,d,e,b,c⟩:=h
  rw[UH c]at b
  exact⟨p,e,b⟩
theorem KI{k:KT}{v:V}(h:AA K N H (kD k) v):Aq K N H (kD k) v:=by
 cases k with
 | «at» a=>cases a<;>exact h
 |tup l=>exact h
theorem Ml:∀{a:BC}{vs:List V},Ae K N H (ZB a) vs->∃b,vs=Di b/\PD K N H a b
 |[],vs,h=>⟨[],by simpa only[ZB,Ae,Di]using h,.nil⟩
 |p::r,vs,h=>by
  simp only[ZB,Ae]at h
  obtain⟨v,t,e,c,d,k,f,g,i⟩:=h
  obtain⟨b,j,q⟩:=Ml i
  exact⟨(p.1,v,d)::b,by rw[e,f,j];rfl,.cons ⟨rfl,c,g⟩ q⟩
theorem PD.flat:∀{a:BC}{b:List T3},PD K N H a b->Ae K N H (ZB a) (Di b)
 |_,_,.nil=>Ae.nil
 |_,_,.cons ⟨_,c,d⟩ t=>Ae.cons c (Ae.cons d (PD.flat t))
theorem PD.fst:∀{a:BC}{b:List T3},PD K N H a b->a.map (·.1)=b.map (·.1)
 |_,_,.nil=>rfl
 |_,_,.cons ⟨c,_,_⟩ t=>by rw[AY,AY,c,PD.fst t]
theorem PD.keys:∀{a:BC}{c:List T3},PD K N H a c->∀t∈c,DK K H t.1 t.2.1
 |_,_,.nil,_,h=>nomatch h
 |_,_,.cons ⟨d,e,_⟩ t,x,b=>by
  rcases Bm.mp b with rfl|b
  ·rw[<- d];exact Jw e
  ·exact PD.keys t x b
def Il(K:Ap)(N:Fb)(H:Hp):Option D->Option V->Prop
 |some d,some v=>Aq K N H d v
 |none,none=>True
 |_,_=>False
theorem PD.val:∀{a:BC}{b:List T3},PD K N H a b->∀k,Il K N H (Cp a k) (CL b k)
 |_,_,.nil,_=>FM
 |p::a,t::b,.cons ⟨c,_,d⟩ r,k=>by
  have e:=PD.val r k
  unfold Cp CL
  rw[c]
  split
  ·exact d
  ·exact e
theorem Il.isS:∀{o:Option D}{u:Option V},Il K N H o u->o.isSome=u.isSome
 |some _,some _,_=>rfl
 |none,none,_=>rfl
 |some _,none,h=>h.elim
 |none,some _,h=>h.elim
theorem PD.rep{k:KT}{d:D}{v:V}(hd:Aq K N H d v):∀{a:BC}{b:List T3},PD K N H a b->PD K N H (Fx a k d) (Fc b k v)
 |_,_,.nil=>.nil
 |p::a,t::b,.cons ⟨c,e,f⟩ r=>by
  have g:=PD.rep (k:=k) hd r
  unfold Fx Fc
  rw[c]
  refine .cons ?_ g
  split
  ·exact⟨rfl,c ▸ e,hd⟩
  ·exact⟨c,e,f⟩
theorem PD.put{a:BC}{b:List T3}{k:KT}{d:D}{c v:V}(h:PD K N H a b)(e:Aq K N H (kD k) c)(hd:Aq K N H d v):PD K N H (Dl a k d) (Dj b k c v):=by
 unfold Dl Dj
 rw[(h.val k).isS]
 split
 ·exact h.rep hd
 ·exact Paired.snoc' ⟨rfl,e,hd⟩ h
theorem PD.hom{k:KT}:∀{d:BC}{g:List T3},PD K N H d g->Dm k d=true->GG k g
 |_,_,.nil,_=>by cases k<;>exact λ_ h=>nomatch h
 |p::d,t::g,.cons ⟨j,_,_⟩ r,e=>by
  simp only[Dm,Kw,C5]at e
  have i:=PD.hom (k:=k) r e.2
  have f:=e.1
  rw[j]at f
  cases k with
  | «at» a=>
   intro x c
   rcases Bm.mp c with rfl|c
   ·cases c:x.1 with
    | «at» b=>exact⟨b,rfl⟩
    |tup l=>rw[c]at f;cases f
   ·exact i x c
  |tup l=>
   intro x c
   rcases Bm.mp c with rfl|c
   ·cases c:x.1 with
    | «at» b=>rw[c]at f;cases f
    |tup l=>exact⟨l,rfl⟩
   ·exact i x c
theorem KJ{a:Ad}{b:BC}{vs:List V}(h:Rd H a (.dct (HQ (ZB b)) vs))(hd:Ae K N H (ZB b) vs):∃c,Cc K H a c/\PD K N H b c:=by
 obtain⟨c,e,p⟩:=Ml hd
 subst e
 rw[Pl,p.fst]at h
 exact⟨c,⟨h,p.keys⟩,p⟩
theorem KN{a:BC}{b:List T3}(p:PD K N H a b):CO true (ZB a) (Di b)=Dk b:=by
 unfold CO Dk
 dsimp only
 rw[Pl,p.fst]
end
def Fd:D->D->Option D
 |.lst b true,y=>(DL b).bind λa=>(CM y).bind λk=>if Dm k a then Cp a k else none
 |_,_=>none
@[simp] theorem ff(a:BC)(y:D):Fd (.lst (ZB a) true) y=(CM y).bind λk=>if Dm k a then Cp a k else none:=by simp[Fd]
@[simp] theorem mq(y:D):Fd (.lst [] true) y=(CM y).bind λk=>none:=by simp[Fd,Cp]
def EW(neg:Bool):D->D->Option D
 |y,.lst b true=>(DL b).bind λa=>(CM y).bind λk=>if Dm k a then some (.bl (neg != (Cp a k).isSome))else none
 |_,_=>none
@[simp] theorem fg(neg:Bool)(a:BC)(y:D):EW neg y (.lst (ZB a) true)=(CM y).bind λk=>if Dm k a then some (.bl (neg != (Cp a k).isSome))else none:=by simp[EW]
@[simp] theorem mr(neg:Bool)(y:D):EW neg y (.lst [] true)=(CM y).bind λk=>some (.bl neg):=by simp[EW,Cp,Dm]
section
variable{X:Cx}{K:Ap}{M:Fb}{H0:Hp}{e a b:Expr}{f g:VE->Option D}{pos:AT}
theorem fh:CB K (Uz K) Fd:=by
 intro N H x y d1 d2 d Q t h i e q
 unfold Fd at e
 split at e
 ·next m=>
  cases c:DL m with
  |none=>rw[c]at e;cases e
  |some a=>
   rw[c]at e
   cases f:CM d2 with
   |none=>rw[f]at e;cases e
   |some k=>
    rw[f]at e
    have e:(if Dm k a then Cp a k else none)=some d:=e
    split at e
    ·next n=>
     rw[Ik c]at h
     obtain⟨p,u,o,r,hd⟩:=h
     obtain⟨j,s,l⟩:=KJ r hd
     rw[Ju f]at i
     have b:=l.val k
     rw[e]at b
     cases g:CL j k with
     |none=>rw[g]at b;exact b.elim
     |some w=>rw[g]at b;exact⟨p,j,k,w,o,s,l.hom n,Jw (KI i),g,q w H (Ak.refl H) b⟩
    ·cases e
 ·cases e
theorem UI{neg:Bool}:CB K (UA K neg) (EW neg):=by
 intro N H x y d1 d2 d Q o f g e q
 unfold EW at e
 split at e
 ·next i=>
  cases b:DL i with
  |none=>rw[b]at e;cases e
  |some a=>
   rw[b]at e
   cases c:CM d1 with
   |none=>rw[c]at e;cases e
   |some k=>
    rw[c]at e
    have e:(if Dm k a then some (D.bl (neg != (Cp a k).isSome))else none)=some d:=e
    split at e
    ·next j=>
     cases e
     rw[Ik b]at g
     obtain⟨p,s,l,r,hd⟩:=g
     obtain⟨m,n,h⟩:=KJ r hd
     rw[Ju c]at f
     refine⟨p,m,k,l,n,h.hom j,Jw (KI f),?_⟩
     rw[<- (h.val k).isS]
     exact q _ H (Ak.refl H) Fq
    ·cases e
 ·cases e
theorem Mm(e:X.A.units+64<AE)(c:JE X a (tP X.K M H0 f))(d:JE X b (tP X.K M H0 g))(i:IR b):JE X (.Subscript a b pos) (tD X.K M H0 (Ze Fd f g)):=⟨have c:=c.h;have d:=d.h;Te (e5 e) fh c d i⟩
theorem UJ(e:X.A.units+64<AE)(c:JE X a (tP X.K M H0 f))(d:JE X b (tP X.K M H0 g))(i:Gf .In b=false:=by with_unfolding_all rfl):JE X (.Compare a [.In] [b] pos) (tD X.K M H0 (Ze (EW false) f g)):=⟨have c:=c.h;have d:=d.h;OL (UB e) UI c d i⟩
theorem UK(e:X.A.units+64<AE)(c:JE X a (tP X.K M H0 f))(d:JE X b (tP X.K M H0 g))(i:Gf .In b=false:=by with_unfolding_all rfl):JT X (.Compare a [.In] [b] pos) (Bx X.K M H0 λρ=>AM (Ze (EW false) f g ρ)):=⟨have c:=c.h;have d:=d.h;Kk (UB e) UI c d i⟩
def UL:List D->Option D
 |[.lst b true]=>(DL b).bind λa=>if a.all (λp=>Fy p.1)then some (.int a.length)else none
 |_=>none
@[simp] theorem ms(a:BC):UL [.lst (ZB a) true]=if a.all (λp=>Fy p.1)then some (.int a.length)else none:=by simp[UL]
theorem Pm{pos:AT}:JE X (.Dict [] [] pos) (IW true K M H0 λ_=>some []):=⟨GH.mono λc H Q ⟨d,a,R,e,q⟩ p b=>by
 cases e
 exact Km (xs:=[]) (vs:=[]) (fl:=true) (Ak.refl H) b Ae.nil q⟩
def Jx(i:Nat)(ok b:Option D)(ρ:VE):An:=match Jd ρ i,ok,b with
 |some c,some y,some d=>match DL c,CM y with
  |some a,some k=>if Dm k a&&decide (a.length<Av)then .next (ρ.set i (.own (ZB (Dl a k d)) true))else .fail
  |_,_=>.fail
 |_,_,_=>.fail
theorem UM{i:Nat}{x:Af}{b c pos:AT}{j e:Expr}{L f:VE->Option D}(hu:X.A.units+64<AE)(s:JE X j (tP X.K M H0 L))(t:JE X e (tD X.K M H0 f))(hN:X.N[i]?=some x:=by rfl)
  (u:C0 X.env.scope x:=by first|exact Or.inl rfl|exact Or.inr (Or.inl rfl)|exact Or.inr (Or.inr rfl)) (hd:(x==("__debug__":Af))=false:=by decide) (z:(x==("__classdict__":Af))=false:=by decide)
  (p:∀v,assign (.Subscript (.Name x b) j c) X.env v=(do
   let r <- D5 [v] (Ar (.Name x b) X.env)
   let B <- D5 [v,r] (Ar j X.env)
   standAt c
   D5 [v,r,B] (setItem r B v)
   release [v,r,B] []):=by intro _;rfl)
  (hs:swapsWithSole [.Subscript (.Name x b) j c] e pos.line X.env=AB false:=by rfl) (m:swappedStores [.Subscript (.Name x b) j c] e X.env=AB none:=by rfl)
  (h1:(E1 [.Subscript (.Name x b) j c] X.env).map (·.2)=[assign (.Subscript (.Name x b) j c) X.env]:=by rfl):
  JS X (.Assign [.Subscript (.Name x b) j c] e pos) (tS X.K M H0 λρ=>Jx i (L ρ) (f ρ) ρ):=⟨have s:=s.h;have t:=t.h;(NY t (RV (Ex hN u hd z) s (e6 hu) p) hs m h1).mono λD' σ H ⟨ρ,R,q⟩=>by
 try dsimp only at q
 unfold Jx at q
 split at q
 ·next xs y d hr C hf=>
  split at q
  ·next E k G hk=>
   split at q
   ·next I=>
    rw[C5,decide_eq_true_eq]at I
    refine⟨ρ,d,R,hf,λv H1 O u=>?_⟩
    have n:=Tl hr
    have J:=R.st O
    have ex:=Ik G
    subst ex
    obtain⟨a,vs,e1,z1,z2,Q,T⟩:=J.slot i _ n
    have p:=AN e1
    refine⟨.ref a,p,ρ,y,J,C,λw H2 l m=>?_⟩
    have R2:=J.st l
    obtain⟨tr,dc,pd⟩:=KJ (K:=X.K) (.inl (l _ _ Q)) (T.same l)
    obtain⟨o,e',g⟩:=Ml (T.same l)
    subst e'
    rw[Ju hk]at m
    have U:=g.put (k:=k) (KI m) (u.same l)
    obtain⟨Y,S3⟩:=R2.chg (fl2:=true) (ys:=ZB (Dl E k d)) (ws:=Di (Dj o k w v)) n p U.flat
    rw[KN U]at Y S3
    refine⟨a,o,k,rfl,?_,g.keys,g.hom I.1,Jw (KI m),by rw[<- FG g];exact I.2,q _ _ Y ((Step.of_same (O.trans l)).trans S3)⟩
    rw[<- KN g]
    exact l _ _ Q
   ·exact Bd q
  ·exact Bd q
 ·exact Bd q⟩
end
theorem fi(k:KT)(v:D)(a:KT):∀b:BC,Cp (Fx b k v) a=if k=a then(Cp b a).map (λ_=>v)else Cp b a
 |[]=>by simp[Fx,Cp]
 |t::r=>by
  have e:=fi k v a r
  unfold Fx Cp
  by_cases d:t.1=k
  ·subst d
   rw[if_pos rfl]
   by_cases c:t.1=a
   ·subst c;simp
   ·simp only[if_neg c,e]
  ·rw[if_neg d]
   by_cases c:t.1=a
   ·subst c
    rw[if_pos rfl,if_neg (λz=>d z.symm),if_pos rfl]
   ·rw[if_neg c,e,if_neg c]
theorem UN{k:KT}{v:D}{p:KT×D}:∀{a:BC},p∈Fx a k v->p∈a\/p=(k,v)
 |[],h=>nomatch h
 |t::r,h=>by
  unfold Fx at h
  rcases Bm.mp h with b|h
  ·by_cases e:t.1=k
   ·rw[if_pos e,e]at b;exact .inr b
   ·rw[if_neg e]at b;subst b;exact .inl Bw
  ·rcases UN h with h|h
   ·exact .inl (BA _ h)
   ·exact .inr h
theorem fj{k:KT}{v:D}{p:KT×D}{a:BC}(h:p∈Dl a k v):p∈a\/p=(k,v):=by
 unfold Dl at h
 split at h
 ·exact UN h
 ·rcases CT.mp h with h|h
  ·exact .inl h
  ·exact .inr (by simpa using h)
theorem UO(k:KT)(v:D):∀a:BC,(Fx a k v).length=a.length
 |[]=>rfl
 |t::r=>by simp[Fx,UO k v r]
theorem fm(a:BC)(k:KT)(v:D):(Dl a k v).length<=a.length+1:=by
 unfold Dl
 split
 ·rw[UO];omega
 ·simp
theorem UP{b:BC}(a:At)(h:∀p∈b,Fy p.1=true):Dm (.at a) b=true:=by
 unfold Dm
 rw[Eb]
 intro p c
 rw[h p c];rfl
theorem fo{a:BC}(l:List At)(h:∀p∈a,Fy p.1=false):Dm (.tup l) a=true:=by
 unfold Dm
 rw[Eb]
 intro p b
 rw[h p b];rfl
def tX(K:Ap)(M:Fb)(g:Hp)(f:VE->Option (D×VE)):TE:=λb H Q=>∃e d a,A3 K M g e b H/\f e=some (d,a) /\
 ∀v c,A3 K M g a b c->Step M (Nf M e b) (Nf M a b) H c->Aq K (Nf M a b) c d v->Q v c
def UQ(K:Ap)(M:Fb)(f:Hp)(t:VE->Option (Bool×VE)):TT:=λc H Q=>∃d b a,A3 K M f d c H/\t d=some (b,a) /\
 ∀e,A3 K M f a c e->Step M (Nf M d c) (Nf M a c) H e->Q b e
def KO(i:Nat)(c e:VE->Option D):VE->Option (D×VE):=λb=>match Jd b i,c b,e b with
 |some f,some y,some d=>match DL f,CM y with
  |some a,some k=>if Dm k a&&decide (a.length<Av)then
    (match Cp a k with
    |some v=>some (v,b)
    |none=>some (d,b.set i (.own (ZB (Dl a k d)) true)))
   else none
  |_,_=>none
 |_,_,_=>none
section
variable{X:Cx}{K:Ap}{M:Fb}{H0:Hp}{e a b ek ev:Expr}{f g fk fv:VE->Option D}{fx:VE->Option (D×VE)}{pos:AT}
theorem fq{i:Nat}{x:Af}{e g c:AT}(hu:X.A.units+64<AE)(G:JE X ek (tP X.K M H0 fk))(j:JE X ev (tD X.K M H0 fv))(hN:X.N[i]?=some x:=by rfl)(E:C0 X.env.scope x:=by first|exact Or.inl rfl|exact Or.inr (Or.inl rfl)|exact Or.inr (Or.inr rfl))(hd:(x==("__debug__":Af))=false:=by decide)(I:(x==("__classdict__":Af))=false:=by decide)
  (l:Gj (.Name x e) "setdefault" X.env (Ar (.Name x e) X.env)=Ar (.Name x e) X.env:=by rfl)
  (p:((AG c (AO [ek,ev] X.env)).all (λx=>!x.1)&&(Fi c (Fj [] X.env)).all (λx=>x.1.isSome)
   && decide ([ek,ev].length+([]:List Keyword).length+(if([]:List Keyword).isEmpty then 0 else 1)<30))=true:=by rfl)
  (m:(g.endLine==c.line)=true:=by rfl) (r:AO [ek,ev] X.env=(false,Ar ek X.env)::AO [ev] X.env:=by exact Df (λ_ _ z=>nomatch z)) (t:AO [ev] X.env=(false,Ar ev X.env)::AO [] X.env:=by exact Df (λ_ _ z=>nomatch z)) (J:(AG c (AO [ev] X.env)).any (·.1)=false:=by rfl):
  JE X (.Call (.Attribute (.Name x e) "setdefault" g) [ek,ev] [] c) (tX X.K M H0 (KO i fk fv)):=⟨have G:=G.h;have j:=j.h;(Ot PySem.F.plainAttrs_dict UC PySem.F.type_dict_setdefault (e7 hu) (Ex hN E hd I) (E5 G (E5 j BM t) r) l p m r J).mono λσ H Q ⟨ρ,d,ρ',R,ex,q⟩=>by
  unfold KO at ex
  split at ex
  ·next xs y dv hr L O=>
   split at ex
   ·next n k T U=>
    split at ex
    ·next Y=>
     rw[C5,decide_eq_true_eq]at Y
     have B:=Tl hr
     have exs:=Ik T
     subst exs
     obtain⟨a,vs,e1,z1,z2,z3,z4⟩:=R.slot i _ B
     have ha:=AN e1
     have tv:LM X.K "dict" (.ref a) H:=.inr (.inr (.inl ⟨rfl,.inr (.inr ⟨_,_,.inl z3⟩)⟩))
     refine⟨.ref a,ha,tv,ρ,y,R,L,λw H1 s1 hw=>⟨ρ,dv,R.st s1,O,λv H2 s2 E=>?_⟩⟩
     have s:=s1.trans s2
     have R2:=R.st s
     obtain⟨tr,e',o⟩:=Ml (z4.same s)
     subst e'
     rw[Ju U]at hw
     have C:=KI (hw.same s2)
     have b:=o.val k
     refine⟨a,tr,k,w,v,rfl,rfl,?_,o.keys,o.hom Y.1,Jw C,by rw[<- FG o];exact Y.2,λu hu'=>?_,λhn=>?_⟩
     ·rw[<- KN o];exact s _ _ z3
     ·rw[hu']at b
      cases f:Cp n k with
      |none=>rw[f]at b;exact b.elim
      |some d0=>
       rw[f]at b ex
       cases ex
       exact q u H2 R2 (Step.of_same s) b
     ·rw[hn]at b
      cases f:Cp n k with
      |some d0=>rw[f]at b;exact b.elim
      |none=>
       rw[f]at ex
       cases ex
       have pp:=o.put (k:=k) C E
       obtain⟨R3,S3⟩:=R2.chg (fl2:=true) (ys:=ZB (Dl n k d)) (ws:=Di (Dj tr k w v)) B ha pp.flat
       rw[KN pp]at R3 S3
       exact q v _ R3 ((Step.of_same s).trans S3) (Aq.step S3 d v E)
    ·cases ex
   ·cases ex
  ·cases ex⟩
def mu(o:Option (D×VE)):An:=match o with
 |some (_,a)=>.next a
 |none=>.fail
def KP(fx:VE->Option (D×VE))(g:VE->Option D):VE->Option (Bool×VE):=λc=>match fx c with
 |some (d,a)=>match g a with
  |some y=>(AM (Ec d y)).map λb=>(b,a)
  |none=>none
 |none=>none
theorem ft(r:X.A.units+64<AE)(f:JE X a (tX X.K M H0 fx))(i:JE X b (tP X.K M H0 g)):JT X (.Compare a [.NotEq] [b] pos) (UQ X.K M H0 (KP fx g)):=⟨have f:=f.h;have i:=i.h;(Sa (TR r) f i (HC _ (by decide) (by decide))).mono λs H Q ⟨t,m,c,R,ex,q⟩=>by
 unfold KP at ex
 split at ex
 ·next d x z=>
  split at ex
  ·next y B=>
   cases j:AM (Ec d y)with
   |none=>rw[j]at ex;cases ex
   |some I=>
    rw[j]at ex
    cases ex
    refine⟨t,d,c,R,z,λv J k S1 C=>⟨c,y,k,B,λu E e l=>?_⟩⟩
    exact TV (Nf M c s) E v u d y (.bl m) _ (k.st e).nh (C.p.same e) l (Ja j) λw G n o=>by
     simp only[Aq]at o
     exact⟨m,o,q G ((k.st e).st n) (S1.trans (Step.of_same (e.trans n)))⟩
  ·cases ex
 ·cases ex⟩
def Hn(c:Option (Bool×VE))(b d:VE->An):An:=match c with
 |some (true,a)=>b a
 |some (false,a)=>d a
 |none=>.fail
theorem fu{c:Expr}{g i:List As}{t:VE->Option (Bool×VE)}{j l:VE->An}(b:JT X c (UQ K M H0 t))(d:JB X g (tS K M H0 j))(e:JB X i (tS K M H0 l)):JS X (.If c g i pos) (tS K M H0 λρ=>Hn (t ρ) j l):=⟨have b:=b.h;have d:=d.h;have e:=e.h;(NW b d e).mono λn o H ⟨ρ,R,q⟩=>by
 try dsimp only at q
 cases f:t ρ with
 |none=>rw[f]at q;exact Bd q
 |some p=>
  obtain⟨k,a⟩:=p
  rw[f]at q
  refine⟨ρ,k,a,R,f,λr m S=>?_⟩
  cases k with
  |true=>refine FR ?_;exact⟨a,m,BG.from S q⟩
  |false=>refine FS ?_;exact⟨a,m,BG.from S q⟩⟩
def fw:D->D->Option D
 |.bl i,.bl j=>some (.bl (decide (i=j)))
 |_,_=>none
@[simp] theorem mv(i j:Bool):fw (.bl i) (.bl j)=some (.bl (decide (i=j))):=rfl
end
section
variable{X:Cx}{K:Ap}
def UR(z:Af):List D->Option D
 |[.int i]=>gd (0<=i/\i<1000000) (some (.str (Txt.zfill z i)))
 |_=>none
@[simp] theorem mw(z:Af)(i:Int)(a:0<=i)(b:i<1000000):UR z [.int i]=some (.str (Txt.zfill z i)):=by
  unfold UR
  exact Kq ⟨a,b⟩
@[simp] def mx(z:Af):List D->Option D
  |[.str y]=>some (.bl (Txt.startswith z y))
  |_=>none
end
@[simp] def Im(b:D->VE->Option VE)(o:Option D)(ρ:VE):An:=match o with
  |some d=>(match b d ρ with
   |some a=>.next a
   |none=>.fail)
  |none=>.fail
section
variable{X:Cx}{K:Ap}{M:Fb}{H0:Hp}{e tg:Expr}{f:VE->Option D}{b:D->VE->Option VE}{pos:AT}
theorem US{ws:List Nat}(a:JE X e (tD K M H0 f))(c:JG X tg (tG K M H0 ws b))(l:swapsWithSole [tg] e pos.line X.env=AB false:=by rfl)(m:swappedStores [tg] e X.env=AB none:=by rfl)
  (n:(E1 [tg] X.env).map (·.2)=[assign tg X.env]:=by rfl):JS X (.Assign [tg] e pos) (tS K M H0 λρ=>Im b (f ρ) ρ):=⟨have a:=a.h;have c:=c.h;(NY a c l m n).mono λt u H ⟨ρ,R,q⟩=>by
 try dsimp only at q
 cases g:f ρ with
 |none=>rw[g]at q;exact Bd q
 |some d=>
  rw[g]at q
  cases i:b d ρ with
  |none=>simp only[Im,i]at q;exact Bd q
  |some j=>
   simp only[Im,i]at q
   exact⟨ρ,d,R,g,λv o s p=>⟨ρ,d,j,R.st s,p,i,λk r S1 _=>q k o r ((Step.of_same s).trans S1)⟩⟩⟩
end
end L2
namespace L2
open PySem PySem.Spec PyProof.Rows PySem.W
section
variable(lt:Nat->Nat->Bool)
structure WO(n:Nat):Prop where
 asym:∀a b,a<n->b<n->lt a b=true->lt b a=false
 neg:∀a b c,a<n->b<n->c<n->lt a c=true->lt a b=true\/lt b c=true
def DM(a b:Nat):Prop:=lt b a=false
end
section
variable{lt:Nat->Nat->Bool}{n:Nat}(W:WO lt n)
include W
theorem WO.refl{a:Nat}(b:a<n):DM lt a a:=by
 unfold DM
 cases h:lt a a with
 |false=>rfl
 |true=>have:=W.asym a a b b h;rw[h]at this;cases this
theorem WO.trans{a b c:Nat}(f:a<n)(g:b<n)(i:c<n)(d:DM lt a b)(e:DM lt b c):DM lt a c:=by
 unfold DM at *
 cases h:lt c a with
 |false=>rfl
 |true=>
  rcases W.neg c b a i g f h with z|z
  ·rw[z]at e;cases e
  ·rw[z]at d;cases d
theorem WO.of_lt{a b:Nat}(c:a<n)(d:b<n)(h:lt a b=true):DM lt a b:=W.asym a b c d h
end
abbrev A2(p:Array Nat)(i:Nat):Nat:=p.getD i 0
def F4(lt:Nat->Nat->Bool)(p:Array Nat)(k:Nat):Prop:=∀i j,i<=j->j<k->DM lt (A2 p i) (A2 p j)
def Ho(lt:Nat->Nat->Bool)(p:Array Nat)(k:Nat):Prop:=∀i j,i<=j->j<k->DM lt (A2 p j) (A2 p i)
def Eqv(lt:Nat->Nat->Bool)(a b:Nat):Prop:=DM lt a b/\DM lt b a
def Bs(n:Nat)(p:Array Nat):Prop:=p.Perm (BL n).toArray
theorem Bs.size{n:Nat}{p:Array Nat}(h:Bs n p):p.size=n:=by have:=h.size_eq;simpa using this
theorem Bs.lt{n:Nat}{p:Array Nat}(h:Bs n p){i:Nat}(d:i<n):A2 p i<n:=by
 have e:=h.size
 have b:i<p.size:=by omega
 have c:p[i]∈p:=Array.getElem_mem b
 have:=(h.mem_iff (a:=p[i])).mp c
 simp at this
 unfold A2
 rw[UT,Jn b]
 exact this
theorem KQ{p q:Array Nat}{i j:Nat}(h:p[i]?=q[j]?):A2 p i=A2 q j:=by
 unfold A2
 rw[UT,UT,h]
theorem KR{p:Array Nat}{i j:Nat}(a:j<=p.size)(k:Nat):A2 (kas_rev p i j) k=if i<=k/\k<j then A2 p (i+j-1-k)else A2 p k:=by
 have:=getElem?_mirror_all (xs:=p) (i:=i) (j:=j) a k
 by_cases h:i<=k/\k<j
 ·rw[if_pos h]at this ⊢;exact KQ this
 ·rw[if_neg h]at this ⊢;exact KQ this
theorem UU{p:Array Nat}{k d:Nat}(b:k<p.size)(hd:d<=k)(i:Nat):A2 (bubble p k d) i=if i=k-d then A2 p k else if k-d<i/\i<=k then A2 p (i-1)else A2 p i:=by
 have:=getElem?_bubble (xs:=p) (src:=k) b d hd i
 by_cases h:i=k-d
 ·rw[if_pos h]at this ⊢;exact KQ this
 ·rw[if_neg h]at this ⊢
  by_cases a:k-d<i/\i<=k
  ·rw[if_pos a]at this ⊢;exact KQ this
  ·rw[if_neg a]at this ⊢;exact KQ this
theorem Bs.rev{n:Nat}{p:Array Nat}(h:Bs n p)(i j:Nat):Bs n (kas_rev p i j):=(mirror_perm p i j _).trans h
theorem Bs.bub{n:Nat}{p:Array Nat}(h:Bs n p)(k d:Nat):Bs n (bubble p k d):=(bubble_perm p k d).trans h
section
variable{lt:Nat->Nat->Bool}{n:Nat}(W:WO lt n){cmp:Nat->Nat->(Bool->Ac->Prop)->Ac->Prop}{s:Ac}(hc:∀i j C,i<n->j<n->C (lt i j) s->cmp i j C s)
include W hc
theorem Pn{p:Array Nat}(h:Bs n p):∀(f m:Nat){Q:Nat->Ac->Prop},1<=m->m+f<=n->F4 lt p m->(∀g,m<=g->g<=m+f->F4 lt p g->(g=m+f\/lt (A2 p g) (A2 p (g-1))=true)->Q g s)->CN cmp (kas_asc p f m) Q s
 |0,m,Q,r,t,k,q=>by
  rw[kas_asc,CN]
  exact q m (Bf _) (by omega) k (.inl rfl)
 |f+1,m,Q,r,t,k,q=>by
  rw[kas_asc,CN]
  refine hc _ _ _ (h.lt (by omega)) (h.lt (by omega)) ?_
  cases o:lt (A2 p m) (A2 p (m-1))with
  |true=>
   simp only[if_true,CN]
   exact q m (Bf _) (by omega) k (.inr o)
  |false=>
   simp only[DF,if_false]
   refine Pn h f (m+1) (by omega) (by omega) (λi j l u=>?_) λg a b c d=>q g (by omega) (by omega) c (by rcases d with d|d;exact .inl (by omega);exact .inr d)
   rcases Jy j m with z|z
   ·exact k i j l z
   ·have e:j=m:=by omega
    subst e
    rcases Jy i j with y|y
    ·exact W.trans (h.lt (by omega)) (h.lt (i:=j-1) (by omega)) (h.lt (by omega)) (k i (j-1) (by omega) (by omega)) o
    ·have e:i=j:=by omega
     subst e
     exact W.refl (h.lt (by omega))
theorem Po{p:Array Nat}(c:Bs n p){i j:Nat}(f:i<j)(g:j<=n)(d:∀k,i<=k->k<j->Eqv lt (A2 p k) (A2 p (j-1)))(k:Nat)(e:k<n):Eqv lt (A2 (kas_rev p i j) k) (A2 p k):=by
 rw[KR (by rw[c.size];exact g)]
 by_cases h:i<=k/\k<j
 ·rw[if_pos h]
  have a:=d (i+j-1-k) (by omega) (by omega)
  have b:=d k h.1 h.2
  exact⟨W.trans (c.lt (by omega)) (c.lt (by omega)) (c.lt (by omega)) a.1 b.2,W.trans (c.lt (by omega)) (c.lt (by omega)) (c.lt (by omega)) b.1 a.2⟩
 ·rw[if_neg h]
  exact⟨W.refl (c.lt e),W.refl (c.lt e)⟩
theorem UV{p q:Array Nat}(a:Bs n p)(b:Bs n q){k:Nat}(f:k<=n)(d:∀i,i<n->Eqv lt (A2 q i) (A2 p i))(h:Ho lt p k):Ho lt q k:=λi j c e=>
 W.trans (b.lt (by omega)) (a.lt (i:=j) (by omega)) (b.lt (by omega)) (d j (by omega)).1 (W.trans (a.lt (by omega)) (a.lt (i:=i) (by omega)) (b.lt (by omega)) (h i j c e) (d i (by omega)).2)
theorem Mn:∀(f:Nat)(p:Array Nat)(m q:Nat){Q:Array Nat×Nat×Nat->Ac->Prop},Bs n p->1<=m->m+f<=n->q+1<=m->Ho lt p m->(∀i,m-(q+1)<=i->i<m->Eqv lt (A2 p i) (A2 p (m-1))) ->
  (∀r t I,Bs n r->m<=t->t<=m+f->I+1<=t->Ho lt r t->(∀i,t-(I+1)<=i->i<t->Eqv lt (A2 r i) (A2 r (t-1)))->Q (r,t,I) s)->CN cmp (kas_desc f p m q) Q s
 |0,p,m,q,Q,l,O,T,J,u,w,v=>by
  rw[kas_desc,CN]
  exact v p m q l (Bf _) (by omega) J u w
 |f+1,p,m,q,Q,l,O,T,J,u,w,v=>by
  rw[kas_desc,CN]
  refine hc _ _ _ (l.lt (by omega)) (l.lt (by omega)) ?_
  have step:∀(r:Array Nat),Bs n r->Ho lt r m->DM lt (A2 r m) (A2 r (m-1))->Ho lt r (m+1):=λr o h H i j L Y=>by
   rcases Jy j m with z|z
   ·exact h i j L z
   ·have e:j=m:=by omega
    subst e
    rcases Jy i j with y|y
    ·exact W.trans (o.lt (by omega)) (o.lt (i:=j-1) (by omega)) (o.lt (by omega)) H (h i (j-1) (by omega) (by omega))
    ·have e:i=j:=by omega
     subst e
     exact W.refl (o.lt (by omega))
  cases H:lt (A2 p m) (A2 p (m-1))with
  |true=>
   have x:=W.of_lt (l.lt (by omega)) (l.lt (by omega)) H
   simp only[if_true]
   have A:∀(r:Array Nat),Bs n r->∀i,m+1-(0+1)<=i->i<m+1->Eqv lt (A2 r i) (A2 r (m+1-1)):=λr o i a b=>by
    have e:i=m:=by omega
    subst e
    exact⟨W.refl (o.lt (by omega)),W.refl (o.lt (by omega))⟩
   by_cases N:q>0
   ·simp only[N,if_true]
    have o:=l.rev (m-(q+1)) m
    have B:=Po W hc l (i:=m-(q+1)) (j:=m) (by omega) (by omega) w
    have M:=UV W hc l o (k:=m) (by omega) (λi U=>B i U) u
    have em:A2 (kas_rev p (m-(q+1)) m) m=A2 p m:=by rw[KR (by rw[l.size];omega),if_neg (by omega)]
    have C:DM lt (A2 (kas_rev p (m-(q+1)) m) m) (A2 (kas_rev p (m-(q+1)) m) (m-1)):=by
     rw[em]
     exact W.trans (l.lt (by omega)) (l.lt (by omega)) (o.lt (by omega)) x (B (m-1) (by omega)).2
    exact Mn f _ (m+1) 0 o (by omega) (by omega) (by omega) (step _ o M C) (A _ o) λE G q2 a b c d e g=>v E G q2 a (by omega) (by omega) d e g
   ·simp only[N,if_false]
    exact Mn f _ (m+1) 0 l (by omega) (by omega) (by omega) (step _ l u x) (A _ l) λE G q2 a b c d e g=>v E G q2 a (by omega) (by omega) d e g
  |false=>
   simp only[DF,if_false,CN]
   refine hc _ _ _ (l.lt (by omega)) (l.lt (by omega)) ?_
   cases hd:lt (A2 p (m-1)) (A2 p m)with
   |true=>
    simp only[if_true,CN]
    exact v p m q l (Bf _) (by omega) J u w
   |false=>
    simp only[DF,if_false]
    refine Mn f _ (m+1) (q+1) l (by omega) (by omega) (by omega) (step _ l u hd) (λi a b=>?_) λE G q2 a b c d e g=>v E G q2 a (by omega) (by omega) d e g
    show Eqv lt (A2 p i) (A2 p m)
    rcases Jy i m with z|z
    ·have:=w i (by omega) z
     exact⟨W.trans (l.lt (by omega)) (l.lt (i:=m-1) (by omega)) (l.lt (by omega)) this.1 H,W.trans (l.lt (by omega)) (l.lt (i:=m-1) (by omega)) (l.lt (by omega)) hd this.2⟩
    ·have e:i=m:=by omega
     subst e
     exact⟨W.refl (l.lt (by omega)),W.refl (l.lt (by omega))⟩
theorem UW{p:Array Nat}{m e:Nat}{Q:Nat×Array Nat->Ac->Prop}(g:Bs n p)(k:1<=m)(r:m<=e)(t:e<=n)(l:Ho lt p m)
  (q:∀d h,Bs n h->1<=d->d<=e->F4 lt h d->Q (d,h) s):CN cmp (kas_tail3 m e p) Q s:=by
 unfold kas_tail3
 rw[Mo]
 have f:=g.rev 0 m
 refine Pn W hc f (e-m) m k (by omega) (λi j o u=>?_) λd a b c _=>?_
 ·rw[KR (by rw[g.size];omega),KR (by rw[g.size];omega),if_pos (by omega),if_pos (by omega)]
  exact l (0+m-1-j) (0+m-1-i) (by omega) (by omega)
 ·rw[CN]
  exact q d _ f (by omega) (by omega) c
theorem fy{p:Array Nat}{m f:Nat}{Q:Nat×Array Nat->Ac->Prop}(k:Bs n p)(v:m+1<=f)(l:f<=n)(r:Ho lt p (m+1))
  (q:∀h j,Bs n j->1<=h->h<=f->F4 lt j h->Q (h,j) s):CN cmp (kas_descPart m f p) Q s:=by
 unfold kas_descPart
 rw[Mo]
 refine Mn W hc (f-(m+1)) p (m+1) 0 k (by omega) (by omega) (by omega) r (λi a b=>?_) λj h t a b c d e g=>?_
 ·have e:i=m:=by omega
  subst e
  exact⟨W.refl (k.lt (by omega)),W.refl (k.lt (by omega))⟩
 ·by_cases o:t>0
  ·simp only[o,if_true]
   exact UW W hc (a.rev _ _) (by omega) (by omega) l (UV W hc a (a.rev _ _) (by omega) (λi u=>Po W hc a (by omega) (by omega) g i u) e) q
  ·simp only[o,if_false]
   exact UW W hc a (by omega) (by omega) l e q
theorem fA{p:Array Nat}{Q:Nat×Array Nat->Ac->Prop}(g:Bs n p)(N:1<=n)(q:∀v h,Bs n h->1<=v->v<=n->F4 lt h v->Q (v,h) s):CN cmp (kas_count n p) Q s:=by
 unfold kas_count
 rw[Mo]
 refine Pn W hc g (n-1) 1 (by omega) (by omega) (λi j A H=>?_) λm a b c d=>?_
 ·have e:i=0:=by omega
  have I:j=0:=by omega
  subst e I
  exact W.refl (g.lt (by omega))
 ·by_cases B:m=n
  ·subst B
   simp only[beq_self_eq_true,if_true,CN]
   exact q m p g a (by omega) c
  ·have J:(m==n)=false:=by simpa using B
   have t:lt (A2 p m) (A2 p (m-1))=true:=by
    rcases d with d|d
    ·exact absurd (by omega) B
    ·exact d
   simp only[J,DF,if_false]
   have l:∀(h:Array Nat),Bs n h->(∀i,i<m->Eqv lt (A2 h i) (A2 h (m-1)))->lt (A2 h m) (A2 h (m-1))=true->CN cmp (kas_descPart m n h) Q s:=λh f r L=>
    fy W hc f (by omega) (by omega) (λi j A H=>by
     rcases Jy j m with z|z
     ·exact W.trans (f.lt (by omega)) (f.lt (i:=m-1) (by omega)) (f.lt (by omega)) (r j z).1 (r i (by omega)).2
     ·have e:j=m:=by omega
      subst e
      rcases Jy i j with y|y
      ·exact W.trans (f.lt (by omega)) (f.lt (i:=j-1) (by omega)) (f.lt (by omega)) (W.of_lt (f.lt (by omega)) (f.lt (by omega)) L) (r i y).2
      ·have e:i=j:=by omega
       subst e
       exact W.refl (f.lt (by omega))) q
   by_cases u:m>1
   ·simp only[u,if_true,CN]
    refine hc _ _ _ (g.lt (by omega)) (g.lt (by omega)) ?_
    cases M:lt (A2 p 0) (A2 p (m-1))with
    |true=>
     simp only[if_true,CN]
     exact q m p g a (by omega) c
    |false=>
     simp only[DF,if_false]
     have f:=g.rev 0 m
     have r:∀i,i<m->Eqv lt (A2 p i) (A2 p (m-1)):=λi w=>⟨c i (m-1) (by omega) (by omega),W.trans (g.lt (by omega)) (g.lt (i:=0) (by omega)) (g.lt (by omega)) M (c 0 i (by omega) w)⟩
     have o:=λk C=>Po W hc g (i:=0) (j:=m) (by omega) (by omega) (λk _ C=>r k C) k C
     have em:A2 (kas_rev p 0 m) m=A2 p m:=by rw[KR (by rw[g.size];omega),if_neg (by omega)]
     refine l _ f (λi w=>?_) ?_
     ·have E:=o i (by omega)
      have x:=o (m-1) (by omega)
      have G:=r i w
      exact⟨W.trans (f.lt (by omega)) (g.lt (i:=i) (by omega)) (f.lt (by omega)) E.1 (W.trans (g.lt (by omega)) (g.lt (i:=m-1) (by omega)) (f.lt (by omega)) G.1 x.2),
       W.trans (f.lt (by omega)) (g.lt (i:=m-1) (by omega)) (f.lt (by omega)) x.1 (W.trans (g.lt (by omega)) (g.lt (i:=i) (by omega)) (f.lt (by omega)) G.2 E.2)⟩
     ·rw[em]
      have x:=o (m-1) (by omega)
      rcases W.neg (A2 p m) (A2 (kas_rev p 0 m) (m-1)) (A2 p (m-1)) (g.lt (by omega)) (f.lt (by omega)) (g.lt (by omega)) t with z|z
      ·exact z
      ·have:=x.2;unfold DM at this;rw[z]at this;cases this
   ·have e:m=1:=by omega
    subst e
    simp only[u,if_false]
    refine l p g (λi w=>?_) t
    have e:i=0:=by omega
    subst e
    exact⟨W.refl (g.lt (by omega)),W.refl (g.lt (by omega))⟩
theorem Pp{p:Array Nat}(c:Bs n p){k:Nat}(g:k<n)(j:F4 lt p k):∀(f l r:Nat){Q:Nat->Ac->Prop},l<=r->r<=k->r<=l+f->(∀i,i<l->DM lt (A2 p i) (A2 p k))->(∀i,r<=i->i<k->lt (A2 p k) (A2 p i)=true) ->
  (∀m,m<=k->(∀i,i<m->DM lt (A2 p i) (A2 p k))->(∀i,m<=i->i<k->lt (A2 p k) (A2 p i)=true)->Q m s)->CN cmp (kas_place p k f l r) Q s
 |0,l,r,Q,w,o,x,t,u,q=>by
  rw[kas_place,CN]
  have e:l=r:=by omega
  subst e
  exact q l o t u
 |f+1,l,r,Q,w,o,x,t,u,q=>by
  rw[kas_place]
  by_cases h:l≥r
  ·have e:l=r:=by omega
   subst e
   rw[if_pos h,CN]
   exact q l o t u
  ·rw[if_neg h,CN]
   refine hc _ _ _ (c.lt g) (c.lt (by omega)) ?_
   cases v:lt (A2 p k) (A2 p ((l+r)/2))with
   |true=>
    simp only[if_true]
    refine Pp c g j f l ((l+r)/2) (by omega) (by omega) (by omega) t (λi a b=>?_) q
    have d:=j ((l+r)/2) i a b
    rcases W.neg (A2 p k) (A2 p i) (A2 p ((l+r)/2)) (c.lt g) (c.lt (by omega)) (c.lt (by omega)) v with z|z
    ·exact z
    ·unfold DM at d;rw[z]at d;cases d
   |false=>
    simp only[DF,if_false]
    refine Pp c g j f ((l+r)/2+1) r (by omega) o (by omega) (λi a=>?_) u q
    exact W.trans (c.lt (by omega)) (c.lt (i:=(l+r)/2) (by omega)) (c.lt g) (j i ((l+r)/2) (by omega) (by omega)) v
theorem UX:∀(f:Nat)(p:Array Nat)(k:Nat){Q:Array Nat->Ac->Prop},Bs n p->k+f=n->F4 lt p k->(∀t,Bs n t->F4 lt t n->Q t s)->CN cmp (kas_bin f p k) Q s
 |0,p,k,Q,g,x,h,q=>by
  rw[kas_bin,CN]
  have e:k=n:=by omega
  subst e
  exact q p g h
 |f+1,p,k,Q,g,x,h,q=>by
  rw[kas_bin,Mo]
  refine Pp W hc g (k:=k) (by omega) h k 0 k (by omega) (Bf _) (by omega) (λi z=>by omega) (λi a b=>by omega) λl a b c=>?_
  refine UX f _ (k+1) (g.bub _ _) (by omega) (λi j u y=>?_) q
  have m:k<p.size:=by rw[g.size];omega
  have v:k-(k-l)=l:=by omega
  rw[UU m (by omega),UU m (by omega),v]
  by_cases w:i=l
  ·rw[if_pos w]
   by_cases d:j=l
   ·rw[if_pos d];exact W.refl (g.lt (by omega))
   ·rw[if_neg d,if_pos (by omega)]
    exact W.of_lt (g.lt (by omega)) (g.lt (by omega)) (c (j-1) (by omega) (by omega))
  ·rw[if_neg w]
   by_cases o:l<i/\i<=k
   ·rw[if_pos o,if_neg (by omega),if_pos (by omega)]
    exact h (i-1) (j-1) (by omega) (by omega)
   ·rw[if_neg o]
    by_cases d:j=l
    ·rw[if_pos d];exact b i (by omega)
    ·rw[if_neg d]
     by_cases r:l<j/\j<=k
     ·rw[if_pos r];exact h i (j-1) (by omega) (by omega)
     ·rw[if_neg r];exact h i j u (by omega)
theorem fB{Q:Array Nat->Ac->Prop}(g:1<=n)(q:∀f,Bs n f->F4 lt f n->Q f s):CN cmp (kas_sort n) Q s:=by
 unfold kas_sort
 rw[Mo]
 refine fA W hc (p:=(BL n).toArray) (Array.Perm.refl _) g λm f a b c d=>?_
 by_cases h:m<n
 ·simp only[h,if_true]
  have e:max m 1=m:=by omega
  rw[e]
  exact UX W hc (n-m) f m a (by omega) d q
 ·have e:m=n:=by omega
  subst e
  simp only[FH,if_false,CN]
  exact q f a d
end
section
variable{prog:AS}{w:Ai}{A:Ah}{E:Aa->Ac->Prop}{s:Ac}
theorem fC{l b:Ad}{items a:Array Aa}{r:Bool}{n n2:Nat}{dd c:Option Ad}{f d:Array (Option Aa)}{Q:Bool->Ac->Prop}(e:s.heap.get? l=some {cls:=.type "list",dict:=dd,data:=.seq items n,slots:=f})(g:s.heap.get? b=some {cls:=.type "list",dict:=c,data:=.seq a n2,slots:=d})(i:Em A.in1 s items.toList a.toList r)
  (j:A.units<AE) (h:Q r s):wpAny (Ag prog w) A (oneLt' true (.ref l) (.ref b)) Q E s:=by
 rw[oneLt'_eq]
 simp only[if_true]
 refine Aj (wpAny_cRoomFor j ?_)
 refine Aj (wpAny_callSpecialIfBound?_slot (T:="list") ⟨_,e,rfl⟩ PySem.F.slot_list_lt (By PySem.F.slot_list_lt ⟨_,e,rfl⟩ PySem.F.entry_list_lt (PySem.F.args_list_lt_2 _ _) (Tc l b items a n n2 dd c f d r) ⟨e,g,i,?_⟩))
 exact G1 h
end
section
variable{X:Cx}{pins:List (Ad×AJ)}{σ:St}{H:Hp}{s:Ac}{N:Fb}
theorem fE(I:Inv X pins σ H s){prog:AS}{w:Ai}(A:Ah)(hu:A.units+40<AE)(b fin:Bool){Q:Bool->Ac->Prop}:∀(xs ys:List D)(a c:List V)(D1 D2:List Aa)(i:Nat)(r:Bool),E9 (ltN 5) xs ys=some r ->
  Ae X.K N H xs a->Ae X.K N H ys c->Am a D1->Am c D2->fin=decide (xs.length<ys.length) ->
  (b=false\/i≠0\/((∀x,xs.head?=some x->∃n,x=.int n)/\∀y,ys.head?=some y->∃n,y=.int n))->Q r s->KatLex prog w A b fin Q (D1.zip D2) i s:=by
 intro xs
 induction xs with
 |nil=>
  intro ys a c D1 D2 i r h d1 d2 t u k J q
  simp only[Ae]at d1;subst d1;cases t
  rw[List.zip_nil_left]
  refine kat_nil ?_
  cases ys with
  |nil=>simp only[E9]at h;cases h;rw[k];exact q
  |cons y ys=>simp only[E9]at h;cases h;rw[k];simpa using q
 |cons x xs L=>
  intro ys a c D1 D2 i r h d1 d2 t u k J q
  simp only[Ae]at d1;obtain⟨w1,t1,M,d,v⟩:=d1;subst M
  cases t with
  |cons f B=>
   cases ys with
   |nil=>
    simp only[Ae]at d2;subst d2;cases u
    rw[List.zip_nil_right]
    simp only[E9]at h;cases h
    refine kat_nil ?_
    rw[k];simpa using q
   |cons y ys=>
    simp only[Ae]at d2;obtain⟨w2,t2,O,g,C⟩:=d2;subst O
    cases u with
    |cons j E=>
     rw[ET]
     simp only[E9]at h
     split at h
     ·next G=>
      rw[C5]at G
      have m:=(Jg I deep A x y _ _ _ _ (by unfold deep;omega) G.1 G.2 d.p g.p f j).2.1
      refine kat_cons ?_
      split at h
      ·next e=>
       rw[e]at m
       refine m prog w _ _ ?_
       show KatGo prog w A b fin Q _ _ _ i true s
       unfold KatGo
       rw[if_pos rfl]
       exact L ys _ _ _ _ (i+1) r h v C B E (by rw[k];simp) (.inr (.inl (by omega))) q
      ·next e=>
       rw[L8]at e
       rw[e]at m
       refine m prog w _ _ ?_
       refine kat_no ?_
       by_cases o:(b&&i==0)=true
       ·rw[o]
        have l:b=true/\i=0:=by simpa using o
        rcases J with z|z|⟨T,U⟩
        ·rw[l.1]at z;cases z
        ·exact absurd l.2 z
        ·obtain⟨n1,rfl⟩:=T x rfl
         obtain⟨n2,rfl⟩:=U y rfl
         have Y:=d.p.int
         have g2:=g.p.int
         subst Y g2
         obtain⟨k1,rfl⟩:=f
         obtain⟨k2,rfl⟩:=j
         simp only[ltN]at h
         cases h
         exact oneLt_int q
       ·rw[L8]at o
        rw[o]
        refine kat_one _ _ ?_
        exact O1 I 5 A x y _ _ _ _ r (by unfold deep;omega) h d.p g.p f j prog w _ (PySem.W.BoolBack Q) q
     ·cases h
theorem fF(I:Inv X pins σ H s)(n:Nat)(A:Ah)(J:A.units+n+1+deep<AE){b:Bool}:∀(xs ys:List D)(a c:List V)(D1 D2:List Aa),E9 (ltN n) xs ys=some b->Ae X.K N H xs a->Ae X.K N H ys c->Am a D1->Am c D2->Em A.in1 s D1 D2 b:=by
 intro xs
 induction xs with
 |nil=>
  intro ys a c D1 D2 h d1 d2 l d
  simp only[Ae]at d1;subst d1;cases l
  cases ys with
  |nil=>simp only[Ae]at d2;subst d2;cases d;cases h;exact .nn
  |cons y ys=>simp only[Ae]at d2;obtain⟨w,t,e,_,_⟩:=d2;subst e;cases d;cases h;exact .nc
 |cons x xs m=>
  intro ys a c D1 D2 h d1 d2 l d
  simp only[Ae]at d1;obtain⟨L,M,B,f,o⟩:=d1;subst B
  cases l with
  |cons g r=>
   cases ys with
   |nil=>simp only[Ae]at d2;subst d2;cases d;cases h;exact .cn
   |cons y ys=>
    simp only[Ae]at d2;obtain⟨O,T,C,i,u⟩:=d2;subst C
    cases d with
    |cons j v=>
     simp only[E9]at h
     split at h
     ·next z=>
      rw[C5]at z
      have k:=(Jg I deep A.in1 x y _ _ _ _ (by rw[HX];omega) z.1 z.2 f.p i.p g j).2.1
      split at h
      ·next e=>rw[e]at k;exact .eq k (m ys _ _ _ _ h o u r v)
      ·next e=>
       rw[L8]at e
       rw[e]at k
       exact .ne k λprog G E Q q=>O1 I n A.in1 x y _ _ _ _ b (by rw[HX];omega) h f.p i.p g j prog G E Q q
     ·cases h
def B8(b:Option Bool)(k:D):Prop:=match b with
 |some true=>∃i r,k=.tup (.int i::r)
 |some false=>∃f r,k=.tup (.tup f::r)
 |none=>∃r,k=.lst r
abbrev KS:Option Bool->SortKind
 |some b=>tuples' b
 |none=>oneType'
theorem B8.tup{b:Bool}{k:D}(h:B8 (some b) k):∃f r,k=.tup (f::r):=by
 cases b with
 |true=>obtain⟨i,r,e⟩:=h;exact⟨_,_,e⟩
 |false=>obtain⟨i,r,e⟩:=h;exact⟨_,_,e⟩
theorem fG(I:Inv X pins σ H s){prog:AS}{w:Ai}(A:Ah)(G:A.units+40<AE)(b r:Bool){k1 k2:D}{u v:V}{y z:Aa}{Q:Bool->Ac->Prop}{E:Aa->Ac->Prop}(h:ltN 6 k1 k2=some r)(B:B8 (some b) k1)(C:B8 (some b) k2)
  (d1:Aq X.K N H k1 u) (d2:Aq X.K N H k2 v) (J:RelV u y) (L:RelV v z) (q:Q r s):wpAny (Ag prog w) A (keyLt' (tuples' b) y z) Q E s:=by
 obtain⟨M,O,d⟩:=B.tup
 obtain⟨T,U,e⟩:=C.tup
 subst d e
 simp only[Aq]at d1 d2
 obtain⟨a1,k,d,q1,f⟩:=d1
 obtain⟨a2,l,e,q2,g⟩:=d2
 subst d e
 cases J
 cases L
 obtain⟨a,i,p1,_⟩:=I.tuple q1
 obtain⟨c,j,Y,_⟩:=I.tuple q2
 obtain⟨o1,m,_,n1,n⟩:=p1
 obtain⟨o2,o,_,n2,p⟩:=Y
 refine kat_lt m n o p ?_
 have l1:=f.length
 have l2:=g.length
 have l3:=i.length
 have l4:=j.length
 have:=fE I (prog:=prog) (w:=w) (N:=N) A G b (decide (a.toArray.size<c.toArray.size)) (Q:=Q) (M::O) (T::U) k l a c 0 r h f g i j (by rw[Bu,Bu,<- l3,<- l4,<- l1,<- l2]) (by
  cases b with
  |false=>exact .inl rfl
  |true=>
   obtain⟨i1,_,d⟩:=B
   obtain⟨i2,_,e⟩:=C
   cases d
   cases e
   exact .inr (.inr ⟨λx t=>by cases t;exact⟨_,rfl⟩,λx t=>by cases t;exact⟨_,rfl⟩⟩)) q
 simpa using this
theorem fH(I:Inv X pins σ H s){prog:AS}{w:Ai}(A:Ah)(O:A.units+40<AE)(b:Option Bool)(r:Bool){k1 k2:D}{o t:V}{u v:Aa}{Q:Bool->Ac->Prop}{E:Aa->Ac->Prop}(h:ltN 6 k1 k2=some r)(x:B8 b k1)(y:B8 b k2)
  (d1:Aq X.K N H k1 o) (d2:Aq X.K N H k2 t) (z:RelV o u) (B:RelV t v) (q:Q r s):wpAny (Ag prog w) A (keyLt' (KS b) u v) Q E s:=by
 cases b with
 |some b=>exact fG I A O b r h x y d1 d2 z B q
 |none=>
  obtain⟨T,f⟩:=x
  obtain⟨U,g⟩:=y
  subst f g
  obtain⟨a1,Y,f,q1,i⟩:=d1.p
  obtain⟨a2,vs2,g,q2,j⟩:=d2.p
  subst f g
  cases z
  cases B
  obtain⟨C,k,⟨⟨cls,dd,data,sl⟩,n1,l,a,G,c⟩,_⟩:=I.list q1
  obtain⟨J,m,⟨⟨L,dd2,data2,sl2⟩,n2,n,d,M,e⟩,_⟩:=I.list q2
  simp only at a c d e
  subst a c d e
  show wpAny (Ag prog w) A (oneLt' true _ _) Q E s
  exact fC l n (by simpa using fF I 5 A (by unfold deep;omega) T U _ _ _ _ h i j k m) (by omega) q
theorem fI(I:Inv X pins σ H s){M:Model}(b:Bool):∀(j:List D)(c:List V)(us:List Aa),Ae X.K N H j c->Am c us->(∀k∈j,B8 (some b) k) ->
  ∃fs,KatTups s.heap us fs/\fs.length=us.length/\∀v∈fs,Looks M s.heap (typeOf v) (.type (if b then "int" else "tuple")):=by
 intro j
 induction j with
 |nil=>
  intro c us d r _
  simp only[Ae]at d;subst d;cases r
  exact⟨[],KatTups.nil,rfl,λ_ h=>nomatch h⟩
 |cons k j U=>
  intro c us d r J
  simp only[Ae]at d;obtain⟨v,t,e,L,Y⟩:=d;subst e
  cases r with
  |cons rv rt=>
   obtain⟨fs,h1,h2,h3⟩:=U t _ Y rt λk x=>J k (BA _ x)
   have m:=J k Bw
   obtain⟨f,g,e⟩:=m.tup
   subst e
   simp only[Aq]at L
   obtain⟨a,vs,e,q,dl⟩:=L
   subst e
   cases rv
   obtain⟨its,y,⟨o,ho,hc,n,hd⟩,_⟩:=I.tuple q
   obtain⟨w,vs',e,z,_⟩:=dl
   subst e
   cases y with
   |cons l rt1=>
    rename_i u us'
    refine⟨u::fs,KatTups.cons ho hc hd (by simp) h1,by simp[h2],λv B=>?_⟩
    rcases Bm.mp B with e|B
    ·subst e
     intro A Q E s' x O
     cases b with
     |true=>
      obtain⟨i,_,e⟩:=m
      cases e
      have g:=z.p.int
      subst g
      obtain⟨t,rfl⟩:=l
      exact HJ (T:="int") rfl O
     |false=>
      obtain⟨i,_,e⟩:=m
      cases e
      simp only[Aq]at z
      obtain⟨a2,vs2,e,q2,_⟩:=z
      subst e
      cases l
      obtain⟨_,_,⟨o2,C,G,_⟩,_⟩:=I.tuple q2
      exact HJ (T:="tuple") ⟨o2,x _ _ C,G⟩ O
    ·exact h3 v B
theorem fJ(I:Inv X pins σ H s){M:Model}:∀(c:List D)(b:List V)(us:List Aa),Ae X.K N H c b->Am b us->(∀k∈c,B8 none k)->∀u∈us,Looks M s.heap (typeOf u) (.type "list"):=by
 intro c
 induction c with
 |nil=>
  intro b us d r _
  simp only[Ae]at d;subst d;cases r
  exact λ_ h=>nomatch h
 |cons k c l=>
  intro b us d r j
  simp only[Ae]at d;obtain⟨v,t,e,m,w⟩:=d;subst e
  cases r with
  |cons x rt=>
   intro u f
   rcases Bm.mp f with e|f
   ·subst e
    obtain⟨g,e⟩:=j k Bw
    subst e
    obtain⟨a,C,e,q,_⟩:=m.p
    subst e
    cases x
    obtain⟨_,_,⟨o,n,y,z,_⟩,_⟩:=I.list q
    intro A Q E G i B
    exact HJ (T:="list") ⟨o,i _ _ y,z⟩ B
   ·exact l t _ w rt (λk i=>j k (BA _ i)) u f
theorem fK(I:Inv X pins σ H s){M:Model}{A:Ah}{E:Aa->Ac->Prop}(b:Option Bool)(c:List D)(a:List V)(us:List Aa)(d:Ae X.K N H c a)(r:Am a us)(e:∀k∈c,B8 b k)(f:2<=us.length){Q:SortKind->Ac->Prop}(q:Q (KS b) s):wpAny M A (keyKind' us.toArray) Q E s:=by
 cases b with
 |some b=>
  obtain⟨i,g,j,h⟩:=fI I (M:=M) b c a us d r e
  refine kat_kind g (by omega) h (by cases b<;>rfl) ?_
  have em:(GY (if b=true then "int" else "tuple") != GY "tuple")=b:=by cases b<;>rfl
  rw[em]
  exact q
 |none=>exact kas_kind f (fJ I c a us d r e) rfl rfl q
structure Off(X:Cx)(pins:List (Ad×AJ))(a:Ad):Prop where
 nL:a≠X.env.locals
 s0:X.s₀.heap.objs.size<=a
 cl:∀x c,X.env.cells.lookup x=some c->c≠a
 pn:∀p∈X.pn++pins,p.1≠a
 nf:a∉X.fs
theorem Inv.off(I:Inv X pins σ H s){a:Ad}(h:s.heap.objs.size<=a):Off X pins a where
 nL:=λe=>by have b:=I.lt;rw[<- e]at b;exact absurd (Cu b h) (FH _)
 s0:=BO I.sz h
 cl:=λx c e z=>by
  obtain⟨v,o,d,_⟩:=I.cell x c e
  have b:=Be d
  rw[z]at b
  exact absurd (Cu b h) (FH _)
 pn:=λp f z=>by
  have b:=Be (I.pin p f).1
  rw[z]at b
  exact absurd (Cu b h) (FH _)
 nf:=I.nofs h
theorem Inv.pin1{a:Ad}{o:AJ}(I:Inv X pins σ H s)(c:H a=none)(f:Off X pins a)(e:s.heap.get? a=some o)(d:∀v,o.data≠.cell v):Inv X (pins++[(a,o)]) σ H s:=
 I.pins_of λp b=>by
  rcases CT.mp b with b|b
  ·exact I.pin p (CA _ b)
  ·simp only[D3]at b;subst b;exact⟨e,c,f.nL,f.nf,d⟩
theorem Inv.catch{a:Ad}{d:List Aa}{n:Nat}{vs:List V}(I:Inv X pins σ H s)(h:H a=none)(f:Off X pins a)(e:s.heap.get? a=some {cls:=.type "list",data:=.seq d.toArray n})(i:Am vs d)(hz:vs.length<=Av):Inv X pins σ (AK H a (.lst vs)) s:=by
 have ne:∀b u,H b=some u->b≠a:=λb u q z=>by rw[z,h]at q;cases q
 have:=I.step (h':=s.heap) (g':=s.gens) (d':=s.drawn) (t':=s.toks) (ch:=[a]) (H':=AK H a (.lst vs)) (λb g=>by
   have e:b=a:=by simpa using g
   subst e
   exact⟨.inr f.s0,f.nL,f.cl,f.pn⟩) (λb o _ _ _ q _=>q) (λb o _ _ _ q _=>⟨o.slots,q⟩) (λb o g _ n=>by rw[Zq (λz=>g (by simp[z]))];exact n) (λb o _ q=>⟨o,q⟩)
  (λb j q=>by rw[Zq (ne _ _ q)];exact q) (λb o u q=>by rw[Zq (ne _ _ q)];exact q) (λb A q=>⟨#[],by rw[Zq (ne _ _ q),q];simp⟩) (λm k=>k) (λb u q=>by
   by_cases g:b=a
   ·subst g
    rw[ZP]at q
    cases q
    exact⟨hz,d,n,i,e⟩
   ·rw[Zq g]at q
    exact(I.hok b u q).stay (λc v _ r=>r) (λc r=>by rw[Zq (ne _ _ r)];exact r) λc j r=>by rw[Zq (ne _ _ r)];exact r) I.bare
 exact this
end
def Dt(F:List Sl->Option Rv)(x:D):D:=((F [.val x]).map BF).getD .non
def Ck(F:List Sl->Option Rv)(x y:D):Bool:=match ltN 6 (Dt F x) (Dt F y)with
 |some true=>true
 |_=>false
theorem fL{F:List Sl->Option Rv}{x y:D}{r:Bool}(h:ltN 6 (Dt F x) (Dt F y)=some r):Ck F x y=r:=by
 unfold Ck;rw[h];cases r<;>rfl
structure Bz(F:List Sl->Option Rv)(xs:List D):Prop where
 few:xs.length<64
 tells:∀x∈xs,∃r,F [.val x]=some r
 mode:∃b,∀x∈xs,B8 b (Dt F x)
 cmp:∀x∈xs,∀y∈xs,∃r,ltN 6 (Dt F x) (Dt F y)=some r
 asym:∀x∈xs,∀y∈xs,Ck F x y=true->Ck F y x=false
 neg:∀x∈xs,∀y∈xs,∀z∈xs,Ck F x z=true->Ck F x y=true\/Ck F y z=true
 anti:∀x∈xs,∀y∈xs,Ck F x y=false->Ck F y x=false->x=y
def Io(lt:D->D->Bool)(x:D):List D->List D
 |[]=>[x]
 |y::r=>if lt x y then x::y::r else y::Io lt x r
def Fz(lt:D->D->Bool):List D->List D
 |[]=>[]
 |x::r=>Io lt x (Fz lt r)
theorem Pq(lt:D->D->Bool)(x:D):∀l,(Io lt x l).Perm (x::l)
 |[]=>.refl _
 |y::r=>by
  unfold Io
  split
  ·exact .refl _
  ·exact((Pq lt x r).cons y).trans (.swap x y r)
theorem Mp(lt:D->D->Bool):∀l,(Fz lt l).Perm l
 |[]=>.refl _
 |x::r=>(Pq lt x _).trans ((Mp lt r).cons x)
theorem UY{F:List Sl->Option Rv}{xs:List D}(h:Bz F xs){x:D}(f:x∈xs):∀l:List D,(∀y∈l,y∈xs)->l.Pairwise (λa b=>Ck F b a=false)->(Io (Ck F) x l).Pairwise λa b=>Ck F b a=false
 |[],_,_=>by simp[Io]
 |y::r,g,j=>by
  obtain⟨k,m⟩:=List.pairwise_cons.mp j
  have i:=g y Bw
  unfold Io
  split
  ·next d=>
   refine List.pairwise_cons.mpr ⟨λz c=>?_,j⟩
   rcases Bm.mp c with e|c
   ·subst e;exact h.asym x f z i d
   ·cases n:Ck F z x with
    |false=>rfl
    |true=>
     rcases h.neg z (g z (BA _ c)) y i x f n with q|q
     ·rw[k z c]at q;cases q
     ·rw[h.asym x f y i d]at q;cases q
  ·next d=>
   rw[L8]at d
   refine List.pairwise_cons.mpr ⟨λz c=>?_,UY h f r (λz c=>g z (BA _ c)) m⟩
   rcases Bm.mp ((Pq (Ck F) x r).subset c)with e|c
   ·subst e;exact d
   ·exact k z c
theorem UZ{F:List Sl->Option Rv}{xs:List D}(h:Bz F xs):∀l:List D,(∀y∈l,y∈xs)->(Fz (Ck F) l).Pairwise λa b=>Ck F b a=false
 |[],_=>.nil
 |x::r,c=>UY h (c x Bw) _ (λy d=>c y (BA _ ((Mp _ r).subset d))) (UZ h r λy d=>c y (BA _ d))
def KU(F:List Sl->Option Rv)(xs:List D):Option (List D):=gd (Bz F xs) (some (Fz (Ck F) xs))
theorem Bz.same{F:List Sl->Option Rv}{xs ys:List D}(h:Bz F xs)(c:ys.Perm xs)(d:ys.Pairwise λa b=>Ck F b a=false):ys=Fz (Ck F) xs:=
 List.Perm.eq_of_pairwise (le:=λa b=>Ck F b a=false) (λa b e f g i=>h.anti a (c.subset e) b ((Mp _ xs).subset f) i g) d (UZ h xs λ_ j=>j) (c.trans (Mp _ xs).symm)
theorem fN{F:List Sl->Option Rv}{xs:List D}(h:Bz F xs):KU F xs=some (Fz (Ck F) xs):=Kq h
theorem fO{F:List Sl->Option Rv}{xs ys:List D}(h:KU F xs=some ys):Bz F xs/\ys=Fz (Ck F) xs:=by
 unfold KU gd at h
 split at h
 ·next a=>cases h;exact⟨a,rfl⟩
 ·cases h
section
variable{X:Cx}{pins:List (Ad×AJ)}{σ:St}{H:Hp}{s:Ac}{N:Fb}
theorem U0{K:Ap}{a:List D}{vs:List V}(h:Ae K N H a vs):∀(b:List Nat),(∀j∈b,j<a.length)->Ae K N H (b.map λj=>a.getD j .non) (b.map λj=>vs.getD j .non)
 |[],_=>Ae.nil
 |j::b,c=>by
  have f:=c j Bw
  obtain⟨v,e,d⟩:=h.get (DG f)
  refine Ae.cons ?_ (U0 h b λk g=>c k (BA _ g))
  have i:a.getD j .non=a[j]:=by simp[GJ,f]
  have l:vs.getD j .non=v:=by simp[GJ,e]
  show Aq K N H (a.getD j .non) (vs.getD j .non)
  rw[i,l];exact d
theorem Mq{vs:List V}{us:List Aa}(h:Am vs us):∀(b:List Nat),Am (b.map λj=>vs.getD j .non) (b.map λj=>us.getD j .none)
 |[]=>.nil
 |j::b=>by
  refine .cons ?_ (Mq h b)
  induction h generalizing j with
  |nil=>simp;rfl
  |cons a _ c=>
   cases j with
   |zero=>simpa using a
   |succ j=>simpa using c j
theorem fP(I:Inv X pins σ H s){prog:AS}{w:Ai}(A:Ah)(hu:A.units+40<AE){E:Aa->Ac->Prop}{F:List Sl->Option Rv}{f:List D}(h:Bz F f){m:List V}{us items:List Aa}
  (d:Ae X.K N H (f.map (Dt F)) m) (r:Am m us) (g:items.length=f.length) {a:Ad} {n:Nat} {O:Aa} {P:PySem.Fin->Ac->Prop}
  (q:∀(p:List Nat) (st:SortSt),p.Perm (BL f.length)->(p.map λj=>f.getD j .non)=Fz (Ck F) f->Array.map (λx=>x.2) (arrOf st)=(p.map λj=>items.getD j .none).toArray->failedOf st=none->wpAny (Ag prog w) A (ksk_tail a false n O st) P E s):
  wpAny (Ag prog w) A (ksk_end a false items.toArray n O us.toArray) P E s:=by
 unfold ksk_end
 simp only[DF,if_false]
 have l1:=d.length
 have l2:=r.length
 rw[Bb]at l1
 by_cases y:items.toArray.size<2
 ·rw[if_pos y]
  simp only[y,if_true]
  have L:us.length=items.length:=by omega
  rw[Bu]at y
  refine Aj (AC ?_)
  refine Aj ?_
  show wpAny _ _ (AB ((),SortSt.mk' general' (us.toArray.zip items.toArray) #[] 7 none)) _ _ _
  refine AC ?_
  refine q (BL f.length) (SortSt.mk' general' (us.toArray.zip items.toArray) #[] 7 none) (.refl _) ?_ ?_ rfl
  ·have e:(BL f.length).map (λj=>f.getD j .non)=f:=by
    apply HS
    intro i
    by_cases g:i<f.length
    ·simp[g]
    ·simp[g]
   rw[e]
   refine h.same (.refl _) ?_
   match f,g with
   |[],_=>exact .nil
   |[a],_=>exact List.pairwise_singleton _ _
   |a::b::c,g=>simp at g;omega
  ·show Array.map (λx=>x.2) (us.toArray.zip items.toArray)=_
   have e:(BL f.length).map (λj=>items.getD j .none)=items:=by
    rw[<- g]
    apply HS
    intro i
    by_cases g:i<items.length
    ·simp[g]
    ·simp[g]
   rw[e]
   rw[List.zip_toArray,List.map_toArray]
   congr 1
   exact List.map_snd_zip (by omega)
 ·rw[if_neg y]
  simp only[y,if_false]
  rw[Bu]at y
  obtain⟨b,o⟩:=h.mode
  refine Aj (fK I b (f.map (Dt F)) m us d r (λk hk=>by
   obtain⟨x,hx,rfl⟩:=List.mem_map.mp hk
   exact o x hx) (by omega) ?_)
  have L:us.length=items.length:=by omega
  have T:(us.toArray.zip items.toArray).size=f.length:=by simp;omega
  have hr:=kas_range (us.toArray.zip items.toArray)
  rw[T]at hr
  have U:SortSt.mk' (KS b) (us.toArray.zip items.toArray) #[] 7 none=kas_st (KS b) (us.toArray.zip items.toArray) (BL f.length).toArray:=by
   unfold kas_st;rw[hr]
  refine Aj ?_
  rw[U]
  have W:WO (λi j=>Ck F (f.getD i .non) (f.getD j .non)) f.length:=by
   have mem:∀i,i<f.length->f.getD i .non∈f:=λi g=>by
    have n:f.getD i .non=f[i]:=by simp[GJ,g]
    rw[n];exact FY g
   exact⟨λa b z o Y=>h.asym _ (mem a z) _ (mem b o) Y,λa b c z o hc Y=>h.neg _ (mem a z) _ (mem b o) _ (mem c hc) Y⟩
  have hc:∀i j (C:Bool->Ac->Prop),i<f.length->j<f.length->C (Ck F (f.getD i .non) (f.getD j .non)) s->kas_cmp prog w A (KS b) (us.toArray.zip items.toArray) i j C s:=λi j C t u hq=>by
   unfold kas_cmp
   rw[kat_item L,kat_item L]
   have mem:∀i,i<f.length->f.getD i .non∈f:=λi g=>by
    have n:f.getD i .non=f[i]:=by simp[GJ,g]
    rw[n];exact FY g
   obtain⟨rr,B⟩:=h.cmp _ (mem i t) _ (mem j u)
   rw[fL B]at hq
   have J:∀i,i<f.length->∃v,Aq X.K N H (Dt F (f.getD i .non)) v/\RelV v (us.getD i .none):=λi g=>by
    have n:f.getD i .non=f[i]:=by simp[GJ,g]
    obtain⟨v,ev,dv⟩:=d.get (i:=i) (d:=Dt F f[i]) (by simp[g])
    refine⟨v,by rw[n];exact dv,?_⟩
    have:=Mq r [i]
    cases this with
    |cons a _=>
     have e2:m.getD i .non=v:=by simp[GJ,ev]
     rw[<- e2]
     exact a
   obtain⟨v1,dv1,rv1⟩:=J i t
   obtain⟨v2,dv2,rv2⟩:=J j u
   exact fH I A hu b rr B (o _ (mem i t)) (o _ (mem j u)) dv1 dv2 rv1 rv2 hq
  refine kas_runs (Q:=λ_ st M=>wpAny (Ag prog w) A (ksk_tail a false n O st) P E M) (G:=λp M=>M=s/\Bs f.length p/\F4 (λi j=>Ck F (f.getD i .non) (f.getD j .non)) p f.length) (by omega) h.few (λp st M hp z hf hg=>?_) (fB W hc (by omega) λp a b=>⟨rfl,a,b⟩)
  obtain⟨rfl,hB,hS⟩:=hg
  have l:p.toList.Perm (BL f.length):=by
   have:=hB.toList
   simpa using this
  refine q p.toList st l ?_ (kat_snds L z) hf
  refine h.same ?_ ?_
  ·have e:(BL f.length).map (λj=>f.getD j .non)=f:=by
    apply HS
    intro i
    by_cases g:i<f.length
    ·simp[g]
    ·simp[g]
   have:=l.map λj=>f.getD j .non
   rw[e]at this
   exact this
  ·rw[List.pairwise_map]
   rw[List.pairwise_iff_getElem]
   intro i j g hj hij
   have hsz':=hB.size
   have:=hS i j (by omega) (by simp at hj;omega)
   unfold DM A2 at this
   simp at g hj
   simpa[Array.getD,g,hj]using this
end
section
variable{X:Cx}{pins:List (Ad×AJ)}{σ:St}{H:Hp}{s:Ac}{N:Fb}
abbrev Du(a:List Aa)(n:Nat):AJ:={cls:=.type "list",data:=.seq a.toArray n}
theorem Inv.rawset{a:Ad}{c its':List Aa}{n:Nat}{f:Array Aa->Array Aa}(I:Inv X pins σ H s)(d:H a=none)(o:Off X pins a)(e:s.heap.get? a=some (Du c n))(g:f c.toArray=its'.toArray):
  ∃h,(s.heap.update a (Ez f)).get? a=some (Du its' h)/\Inv X pins σ H {s with heap:=s.heap.update a (Ez f)}:=by
 have q:=PySem.IsL.update e f
 rw[g]at q
 exact⟨_,q,I.turned (t':=s.toks) (λb u i j=>(IS s.heap (Ez f) (BX i)).trans j) d o.nL (.inr o.s0) o.cl o.pn⟩
theorem Pr(a:List Aa)(n:Nat)(v:Option Aa):(Du a n).data≠.cell v:=nofun
theorem Off.more{a b:Ad}{o:AJ}(f:Off X pins a)(h:b≠a):Off X (pins++[(b,o)]) a:=
 ⟨f.nL,f.s0,f.cl,λp c=>by
  rw[<- List.append_assoc]at c
  rcases CT.mp c with c|c
  ·exact f.pn p c
  ·simp only[D3]at c;subst c;exact h,f.nf⟩
theorem Inv.pinGet{a:Ad}{o:AJ}(I:Inv X pins σ H s)(h:(a,o)∈pins):s.heap.get? a=some o/\H a=none:=⟨(I.pin _ (CA _ h)).1,(I.pin _ (CA _ h)).2.1⟩
theorem fQ{prog:AS}{w:Ai}(A:Ah){D c:Ad}{d m:Nat}{us out:List Aa}{vs:List V}{E:Aa->Ac->Prop}{P:PySem.Fin->Ac->Prop}{st:SortSt}(I:Inv X (pins++[(D,Du [] d)]++[(c,Du us m)]) σ H s)
  (i:Off X pins D) (n:Off X pins c) (ne:D≠c) (g:us.length<=Av) (h:Array.map (λx=>x.2) (arrOf st)=out.toArray) (o:failedOf st=none) (j:Am vs out) (hz:vs.length<=Av)
  (q:∀s',Inv X pins σ (AK H D (.lst vs)) s'->P (.done (.ret .none)) s'):wpAny (Ag prog w) A (ksk_tail D false d (.ref c) st) P E s:=by
 obtain⟨k,p⟩:=I.pinGet (a:=c) (CA _ Bw)
 obtain⟨r,hd⟩:=I.pinGet (a:=D) (HB _ (CA _ Bw))
 have t:Inv X (pins++[(D,Du [] d)]) σ H s:=I.unpinned
 obtain⟨n2,C,l⟩:=t.rawset (f:=λ_=>#[]) (its':=[]) p (n.more ne) k rfl
 unfold ksk_tail
 refine Aj (KW k rfl ?_ (by simpa using g) (by simp))
 refine Aj (wpAny_letGo ?_)
 obtain⟨b,_⟩:=l.pinGet (a:=D) (CA _ Bw)
 refine Aj (seqEpoch_at b rfl ?_)
 have u:Inv X pins σ H _:=l.unpinned
 have v:out.length<=Av:=by rw[<- j.length];exact hz
 obtain⟨n3,y,z⟩:=u.rawset (f:=λ_=>out.toArray) (its':=out) hd i b rfl
 simp only[DF,if_false,h]
 refine Aj (KW b rfl ?_ (by simp) (by simp;omega))
 have B:(d != d)=false:=by simp
 rw[o]
 simp only[B,DF,if_false]
 exact AC (q _ (z.catch hd i y j hz))
variable{k:Nat}{fn:Ad}{fd:A5}{ps:List Af}{F:List Sl->Option Rv}
theorem fR(m:Aw X.prog X.w X.K X.mg X.base A6 k fn fd ps (Bc X.K F))(i:Binds X.K fd ps [])(I:Inv X pins σ H s)(A:Ah)(B:AR k A)(C:Ca X.prog X.w X.K X.mg X.base A X.stack s H)(n:∀a,N a->H a≠none){x:D}{v:V}{u:Aa}(d:Aq X.K N H x v)(G:RelV v u){r:Rv}(o:F [.val x]=some r)
  {E:Aa->Ac->Prop} {Q:Aa->Ac->Prop} (q:∀h s' c H',Inv X pins σ H' s'->Ak H H'->Aq X.K N H' (Dt F x) c->RelV c h->Q h s'):wpAny (Ag X.prog X.w) A (call (.ref fn) [u]) Q E s:=by
 have f:Bc X.K F [v] H (λc H'=>Ak H H'/\Aq X.K N H' (Dt F x) c) E0:=by
  refine⟨N,[.val x],r,n,?_,o,λc H' j p=>⟨j,?_⟩⟩
  ·exact⟨v,[],rfl,d,rfl⟩
  ·have e:Dt F x=BF r:=by unfold Dt;rw[o];rfl
   rw[e]
   cases r with
   |val y=>exact p
   |own ys t=>
    obtain⟨a,J,L,M,O,T⟩:=p
    simp only[BF,Aq]
    exact⟨a,J,L,.of (λz=>n a z M) O,T.nw λb i=>.inl (.inl i)⟩
 have U:([u]:List Aa).length=ps.length:=by
  have:=m.len _ _ _ _ f
  simpa using this
 refine wpAny_call (IL (m.run A X.stack s H ⟨[u],[]⟩ [u] [v] _ E0 B C (by simpa using i s [u] I.kIn (by simpa using U)) (.cons G .nil) f) λr s' g=>?_)
 cases r with
 |error e=>exact Bd g
 |ok t=>
  cases t with
  |ret h=>
   obtain⟨c,H',Y,l,j,hd⟩:=I.after g
   exact q h s' c H' Y j hd l
  |next=>exact Bd g
  |brk=>exact Bd g
  |cont=>exact Bd g
theorem Ak.none{H H':Hp}(h:Ak H H'){a:Ad}(e:H' a=none):H a=none:=by
 cases q:H a with
 |none=>rfl
 |some o=>rw[h a o q]at e;cases e
theorem fS(Fo:Aw X.prog X.w X.K X.mg X.base A6 k fn fd ps (Bc X.K F))(hb:Binds X.K fd ps [])(A:Ah)(hr:AR k A)(hu:A.units+40<AE)(hA:∀s H,Ca X.prog X.w X.K X.mg X.base X.A X.stack s H->Ca X.prog X.w X.K X.mg X.base A X.stack s H)
  {g h:Ad} {m e0:Nat} (I:Inv X (pins++[(g,Du [] m)]++[(h,Du [] e0)]) σ H s) (nh:∀a,N a->H a≠none) {items:List Aa} {xs:List V} {c:List D} (fD:Off X pins g) (G:Off X pins h) (ne:g≠h) (L:Am xs items) (M:Ae X.K N H c xs) (ok:Bz F c)
  {E:Aa->Ac->Prop} {P:PySem.Fin->Ac->Prop} (q:∀s' H' vs,Inv X pins σ (AK H' g (.lst vs)) s'->Ak H H'->H' g=none->Ae X.K N H' (Fz (Ck F) c) vs->P (.done (.ret .none)) s'):
  wpAny (Ag X.prog X.w) A (ksk_rest g (.ref fn) false items.toArray m (.ref h)) P E s:=by
 have l1:=M.length
 have l2:=L.length
 have few:=ok.few
 have hsl:Av=16777216:=E4
 unfold ksk_rest
 refine Aj (FW ?_)
 refine Aj (wpAny_forIn_array' _ (λAy _ s'=>∃(done:List Aa) (H':Hp) (i:List Aa) (d:List V) (o:Nat),items=done++Ay/\i.length=done.length/\Inv X (pins++[(g,Du [] m)]++[(h,Du i o)]) σ H' s'/\Ak H H'/\Am d i/\Ae X.K N H' ((c.take done.length).map (Dt F)) d) _ ?_ ?_ items.toArray PUnit.unit ?_)
 ·rintro u Ay b s1 ⟨done,H1,i,d,o,n,hl,l,sm,O,y⟩
  have Q:done.length<c.length:=by
   have:=congrArg List.length n
   simp at this
   omega
  have B:c[done.length]?=some c[done.length]:=DG Q
  generalize c[done.length]=x at B
  obtain⟨v,hv,dv⟩:=M.get B
  have ru:RelV v u:=by
   have:=Mq L [done.length]
   cases this with
   |cons a _=>
    have m:xs.getD done.length .non=v:=by simp[GJ,hv]
    have o:items.getD done.length .none=u:=by rw[n];simp[GJ]
    rw[<- m,<- o];exact a
  obtain⟨r,hF⟩:=ok.tells x (LK B)
  refine Aj (Jp ?_)
  refine fR (N:=N) Fo hb l A hr (hA _ _ l.env0) (λa T z=>nh a T (sm.none z)) (dv.same sm) ru hF λU s2 v' H2 I2 t Y rv2=>?_
  obtain⟨C,hk⟩:=I2.pinGet (a:=h) (CA _ Bw)
  have I3:Inv X (pins++[(g,Du [] m)]) σ H2 s2:=I2.unpinned
  obtain⟨n3,g3,I4⟩:=I3.rawset (f:=λx=>x.push U) (its':=i++[U]) hk (G.more ne) C (by simp)
  refine Aj (KW C rfl ?_ (by simp;omega) (by simp;omega))
  refine AC ?_
  refine⟨done++[u],H2,i++[U],d++[v'],n3,by rw[n];simp,by simp[hl],I4.pin1 hk (G.more ne) g3 (Pr _ _),sm.trans t,O.append (.cons rv2 .nil),?_⟩
  have e:(c.take (done++[u]).length).map (Dt F)=(c.take done.length).map (Dt F)++[Dt F x]:=by
   rw[FO,List.length_singleton,List.take_succ,B]
   simp
  rw[e]
  exact(y.same t).append (Ae.cons Y Ae.nil)
 ·rintro b s1 ⟨done,H1,i,d,o,n,hl,l,sm,O,y⟩
  rw[CG]at n
  subst n
  obtain⟨C,hk⟩:=l.pinGet (a:=h) (CA _ Bw)
  obtain⟨gd',hd⟩:=l.pinGet (a:=g) (HB _ (CA _ Bw))
  refine Aj (listItems_at C rfl ?_)
  have ht:c.take items.length=c:=O4 (by omega)
  rw[ht]at y
  refine fP (N:=N) l A hu ok y O (by omega) λp st hp hs T hf=>?_
  have hpl:p.length=c.length:=by have:=hp.length_eq;simpa using this
  refine fQ A l fD G ne (by omega) T hf (Mq L p) (by rw[Bb];omega) λs' J=>?_
  refine q s' H1 _ J sm hd ?_
  rw[<- hs]
  exact U0 (M.same sm) p λj hj=>by have:=hp.subset hj;simpa using this
 ·exact⟨[],H,[],[],e0,by simp,rfl,I,Ak.refl H,.nil,Ae.nil⟩
theorem fT(G:Aw X.prog X.w X.K X.mg X.base A6 k fn fd ps (Bc X.K F))(J:Binds X.K fd ps [])(A:Ah)(L:AR k A)(M:A.units+40<AE)(O:∀s H,Ca X.prog X.w X.K X.mg X.base X.A X.stack s H->Ca X.prog X.w X.K X.mg X.base A X.stack s H)
  (I:Inv X pins σ H s) (Q:∀a,N a->H a≠none) {c:Ad} {items:List Aa} {n0:Nat} {xs:List V} {j:List D} (g:s.heap.get? c=some (Du items n0)) (t:H c=none) (l:Off X pins c) (v:Am xs items) (y:Ae X.K N H j xs) (ok:Bz F j)
  {E:Aa->Ac->Prop} {P:PySem.Fin->Ac->Prop} (q:∀s' H' vs,Inv X pins σ (AK H' c (.lst vs)) s'->Ak H H'->H' c=none->Ae X.K N H' (Fz (Ck F) j) vs->P (.done (.ret .none)) s'):
  wpAny (Ag X.prog X.w) A (ksk_tree c (.ref fn) false) P E s:=by
 have l1:=y.length
 have l2:=v.length
 have few:=ok.few
 have T:Av=16777216:=E4
 unfold ksk_tree
 refine Aj (listItems_at g rfl ?_)
 obtain⟨n1,z,U⟩:=I.rawset (f:=λ_=>#[]) (its':=[]) t l g rfl
 refine Aj (KW g rfl ?_ (by simp;omega) (by simp))
 refine Aj (seqEpoch_at z rfl ?_)
 refine Aj (wpAny_newTuple ?_ (by simp;omega))
 generalize m:({heap:=s.heap.update c (Ez λx=>#[]),gens:=s.gens,drawn:=s.drawn,toks:=s.toks,os:=s.os}:Ac)=d at *
 have n:d.heap.get? c=some (Du [] n1):=by rw[<- m];exact z
 have p:=U.kept (t':=d.toks) (λb u e=>Bk {cls:=.type "tuple",data:=.seq items.toArray} e)
 have g2:=Bk {cls:=.type "tuple",data:=.seq items.toArray} n
 generalize r:({heap:=d.heap.push {cls:=.type "tuple",data:=.seq items.toArray},gens:=d.gens,drawn:=d.drawn,toks:=d.toks,os:=d.os}:Ac)=h at *
 have i:h.heap.get? c=some (Du [] n1):=by rw[<- r];exact g2
 refine Aj (wpAny_newList ?_ (by simp))
 have I3:=p.kept (t':=h.toks) (λb u e=>Bk (Du [] 0) e)
 have g3:=Bk (Du [] 0) i
 have gk:=BY h.heap (o:=Du [] 0) rfl
 have C:=p.off (Bf h.heap.objs.size)
 have hK:H h.heap.objs.size=none:=p.fresh
 have ne:c≠h.heap.objs.size:=BS (Be i)
 refine DR ?_
 exact fS (N:=N) G J A L M O ((I3.pin1 t l g3 (Pr _ _)).pin1 hK (C.more ne) gk (Pr _ _)) Q l C ne v y ok q
theorem fU(C:Aw X.prog X.w X.K X.mg X.base A6 k fn fd ps (Bc X.K F))(c:Binds X.K fd ps [])(t:AR (k+2) X.A)
  (I:Inv X pins σ H s) (E:∀a,N a->H a≠none) {a:Ad} {xs:List V} {i:List D} (G:Bn X.K H a xs) (v:Ae X.K N H i xs) (ok:Bz F i) {Q:VK}
  (q:∀f vs H',Ak H H'->H f=none->H' f=some (.lst vs)->Ae X.K (λb=>N b\/b=f) H' (Fz (Ck F) i) vs->Q (.ref f) H'):
  wpAny (Ag X.prog X.w) X.A (call (.builtin "sorted") [.ref a] [("key",.ref fn)]) (EP X pins σ Q) X.xe s:=by
 have l1:=v.length
 have few:=ok.few
 have L:Av=16777216:=E4
 obtain⟨d,x,⟨o,n,O,U,Y,hd⟩,hz⟩:=I.list G
 have l2:=x.length
 refine wpAny_call (Ps plain_sorted entry_sorted ?_)
 have j:checkBuiltinCall "sorted" ⟨[.ref a],[("key",.ref fn)]⟩=AB ():=by rfl
 rw[j]
 refine AC ?_
 unfold PySem.Builtin.sorted
 have m:checkCount "sorted" 1 1 1=AB ():=rfl
 show wpAny _ _ (do checkCount "sorted" 1 1 1;let y <- collect (.ref a);let l <- newList y;let _ <- D5 [l] (call (.builtin "list.sort") [l] [("key",.ref fn)]);ret l) _ _ _
 rw[m]
 refine Aj (AC ?_)
 refine Aj (wpAny_collect_seq a (T:="list") (.inl rfl) O U hd (λh1 k1=>?_) (by simp;omega))
 have p:=I.kept (t':=s.toks) k1
 refine Aj (wpAny_newList ?_ (by simp;omega))
 generalize hs1:({heap:=h1,gens:=s.gens,drawn:=s.drawn,toks:=s.toks,os:=s.os}:Ac)=h at *
 have I2:=p.kept (t':=h.toks) (λb u e=>Bk (Du d 0) e)
 have g:=BY h.heap (o:=Du d 0) rfl
 have fD:=p.off (Bf h.heap.objs.size)
 have r:H h.heap.objs.size=none:=p.fresh
 refine Aj (DR ?_)
 refine wpAny_call (Ps PySem.F.slot_list_sort.plain PySem.F.entry_list_sort ?_)
 refine PySem.F.slot_list_sort.check _ _ _ _ _ _ _ _ ⟨_,g,rfl⟩ rfl ?_
 rw[ksk_t1]
 refine fT (N:=N) C c X.A.in1.in1 t.in1.in1 ?_ (λs H e=>e.in1.in1) I2 E g r fD x v ok λs' H' vs J sm B dv=>?_
 ·have:=t.un;show X.A.units+1+1+40<_;omega
 ·refine AC ?_
  refine⟨.ref _,_,J,rfl,q _ vs _ (λb u e=>?_) r ZP ?_⟩
  ·rw[Zq (λz=>by rw[z,r]at e;cases e)];exact sm b u e
  ·exact Ae.step (M:=λ_=>False) ⟨λb u e z=>by
    rw[Zq (λz=>by rw[z,B]at e;cases e)];exact e,λb c=>by
    rcases c with c|c
    ·exact .inl c
    ·subst c;exact .inr B⟩ _ _ dv
end
section
variable{X:Cx}{M:Fb}{H0:Hp}{k:Nat}{fn:Ad}{fd:A5}{ps:List Af}{F:List Sl->Option Rv}{e:Expr}{f:VE->Option D}{x y:Af}{p p2 kpos pos:AT}
def Mr(F:List Sl->Option Rv)(f:VE->Option D):VE->Option (List D):=λa=>match f a with
 |some (.lst b)=>KU F b
 |_=>none
theorem fV(Fo:Aw X.prog X.w X.K X.mg X.base A6 k fn fd ps (Bc X.K F))(hr:AR (k+2) X.A)(hg:Gl X x)(hm:X.mg x=none)(hv:Eg x=some (.builtin "sorted"))(l:Gl X y)(m:X.mg y=some (.ref fn))(hb:Binds X.K fd ps [])(n:JE X e (tP X.K M H0 f))
  (hn:x≠"__name__":=by decide) (o:(x==("__debug__":Af))=false:=by decide) (d:(y==("__debug__":Af))=false:=by decide) (L:AO [e] X.env=(false,Ar e X.env)::AO [] X.env:=by exact Df (λ_ _ z=>nomatch z)):
  JE X (.Call (.Name x p) [e] [⟨some "key",.Name y p2,kpos⟩] pos) (tF X.K M H0 (Mr F f)):=⟨have n:=n.h;by
 intro b s g H Q I h
 obtain⟨r,ys,R,i,q⟩:=h
 refine IM (FI I hg hm hv ?_ hn o)
 unfold Mr at i
 split at i
 ·next O hf=>
  obtain⟨ok,rfl⟩:=fO i
  have T:=(E5 n (BM (X:=X)) L) pos b s g H (λj c=>∃v,j=[v]/\Ak H c/\AA X.K (Nf M r g) c (.lst O) v) I ⟨r,.lst O,R,hf,λv c t d1=>⟨v,rfl,t,d1⟩⟩
  have B:=bK (nm:=some "key") (kpos:=kpos) (FJ (v:=.ref fn) (pos:=p2) l m rfl d) (bJ (X:=X))
  rw[L]at T ⊢
  refine callWith_builtin_kwB rfl rfl ?_
  unfold evalArgs
  refine Aj (AU T λus t C=>?_)
  obtain⟨j,c,I1,r1,v,rfl,sm,d1⟩:=C
  refine Aj (AC ?_)
  refine DR ?_
  refine Aj (AU (B pos b t g c (λU Y=>U=[.ref fn]/\Y=c) I1 ⟨rfl,rfl⟩) λks s2 C=>?_)
  obtain⟨U,Y,I2,r2,rfl,rfl⟩:=C
  refine Aj (AC ?_)
  refine AC ?_
  obtain⟨u,rfl,ru⟩:=D6 r1
  obtain⟨u2,rfl,E⟩:=D6 r2
  cases E
  obtain⟨a,ws,rfl,sq,dl⟩:=d1
  cases ru
  have R1:=R.st sm
  exact fU (N:=Nf M r g) Fo hb hr I2 R1.nh sq dl ok λda j H' s' G J dv=>q da j H' (sm.trans s') (sm.none G) J dv
 ·cases i⟩
end
end L2
namespace L2
open PySem PySem.Spec PyProof.Rows
section
variable{X:Cx}{K:Ap}{M:Fb}{H0:Hp}{pos:AT}{tg elt iter:Expr}{ifs:List Expr}{scope:Scope}{ws:List Nat}{f:VE->Option (List D)}{b:D->VE->Option VE}{t:VE->Option Bool}{e:VE->Option D}{k:Nat}{oix:List Nat}
@[simp] theorem my(xs:List D):Tq (.lst xs)=some xs:=rfl
end
end L2
namespace L2
open PySem PySem.Spec PyProof.Rows PySem.W
theorem fW:typeLookup (.type "list") ("keys":Af)=AB none:=am_miss_of_fast (by kernel_rfl)
theorem fX{prog:AS}{w:Ai}{A:Ah}{E:Aa->Ac->Prop}{s:Ac}{a:Ad}{f:Array Aa}{Q:Option Aa->Ac->Prop}(p:PlainL s.heap a f)(k:A.handled=none)
  (q:∀h' h,(∀b o,s.heap.get? b=some o->h'.get? b=some o)->Q none {s with heap:=h',toks:=h}):wpAny (Ag prog w) A (getAttr? (.ref a) "keys") Q E s:=by
 obtain⟨o,n,e,i,hd,j⟩:=p
 obtain⟨c,u,v,l⟩:=o
 dsimp only at i hd j
 subst i hd j
 obtain⟨m,g,d,h,os⟩:=s
 have ty:∀t,(⟨m,g,d,t,os⟩:Ac).TypeIs (.ref a) "list":=λ_=>⟨_,e,rfl⟩
 have l1:=sub_AttributeError
 have x:=F.slot_list_getattribute.lookup
 have y:=F.slot_list_getattribute.bind (.ref a)
 have l4:=am_list_getattr_none
 unfold getAttr? getAttrBy? getAttrBy
 repeat(any_goals(first
  |assumption
  |exact ty _
  |((with_reducible show wpAny _ _ (call (Value.builtin "list.__getattribute__") _ _) _ _ _)
    refine By F.slot_list_getattribute (ty _) am_entry_list_getattribute (F.args_list_getattribute_2 _ _) (meets_getattribute_miss_list a f n l "keys" _ fW (by decide +kernel) (by decide +kernel)) ⟨e,k,λr z B new=>?_⟩)
  |wp_step))
 obtain⟨C,G,ex⟩:=new.there
 show wpAny _ _ (getattributeRaised _ _ _ _ _ _ _) _ _ _
 unfold getattributeRaised
 repeat(any_goals(first|assumption|wp_step))
 exact q r _ new.keeps
theorem U1:entryFor table "dict.update.loop"=some En.«dict.update.loop»:=entryFor_of_tree (by kernel_rfl)
theorem Ms:plainId "dict.update.loop"=true:=by decide +kernel
section
variable{X:Cx}{pins:List (Ad×AJ)}{σ:St}{H:Hp}{s:Ac}{A:Ah}{E:Aa->Ac->Prop}{tr:List T3}{a:Ad}{k:KT}{y v:V}{u r:Aa}
theorem fY{Q:Unit->Ac->Prop}(L:A.units+1<AE)(I:Inv X pins σ H s)(e:H a=some (Dk tr))(d:∀t∈tr,DK X.K H t.1 t.2.1)(B:GG k tr)(C:DK X.K H k y)(G:RelV y u)(J:RelV v r)(T:tr.length<Av)
  (q:∀h' t',Inv X pins σ (AK H a (Dk (Dj tr k y v))) {s with heap:=h',toks:=t' }->C3 a s.heap h'->Q () {s with heap:=h',toks:=t' }):wpAny (Ag X.prog X.w) A.in1 (dictSet a u r) Q E s:=by
 have h:Cc X.K H a tr:=⟨.inl e,d⟩
 have f:(Dj tr k y v).length<=Av:=by have:=Pf tr k y v;omega
 cases k with
 | «at» b=>
  cases C
  obtain⟨z,hd,nd,i,rel,j⟩:=KG I h B
  have m:i.length<=Av:=by rw[<- FG rel];exact z
  refine wpAny_dictSet_pairs (knd:=ZZ X.prog X.w) (hsz:=m) (Hm G) j λh' c g=>q _ _ ?_ g
  have o:∃q,h'.get? a=some q:=let⟨q,_,_,x,_⟩:=c;⟨q,x⟩
  exact Jt I (by rw[e];exact FM) g o (Ph f hd (Jq nd) (rel.put J) c)
 |tup l=>
  obtain⟨p,N,O⟩:=C
  subst N
  cases(show u=Bv p from G)
  obtain⟨z,hd,nd,i,rel,j⟩:=KH I h B
  have m:i.length<=Av:=by rw[<- FG rel];exact z
  refine wpAny_dictSet_heap (hsz:=m) (Mj L) (Js I O) j λh' c g=>q _ _ ?_ g
  have o:∃q,h'.get? a=some q:=let⟨q,_,_,x,_⟩:=c;⟨q,x⟩
  exact Jt I (by rw[e];exact FM) g o (Pj f hd (Jq nd) (rel.put J) c)
end
theorem U2{K:Ap}{H H':Hp}{k:KT}{v:V}(h:DK K H k v)(s:Ak H H'):DK K H' k v:=by
 cases k with
 | «at» a=>exact h
 |tup l=>obtain⟨p,e,b⟩:=h;exact⟨p,e,b.same s⟩
def FA:BC->List D->Option BC
 |a,[]=>some a
 |a,.tup [y,d]::r=>match CM y with
  |some k=>if Dm k a&&decide (a.length<Av)then FA (Dl a k d) r else none
  |none=>none
 |_,_=>none
theorem fZ{M:Model}{A:Ah}{E:Aa->Ac->Prop}{s:Ac}{p:Ad}{a:Array Aa}{Q:List Aa->Ac->Prop}(h:IsTup s.heap p a)(q:Q a.toList s):wpAny M A (Builtin.Dict.pairItems (.ref p)) Q E s:=by
 obtain⟨o,e,b,n,hd⟩:=h
 unfold Builtin.Dict.pairItems
 refine Aj (HJ (T:="tuple") ⟨o,e,b⟩ ?_)
 rw[if_pos (by decide)]
 unfold seqItems?
 refine Aj (Aj (wpAny_load e ?_))
 rw[hd]
 exact AC (AC q)
section
variable{X:Cx}{pins:List (Ad×AJ)}{σ:St}{H:Hp}{A:Ah}{a it l:Ad}{N:Fb}{us:List Aa}{R:Result->Ac->Prop}
theorem U3(hu:A.units+1<AE)(hA:A.in1.handled=none)(hH:H a=none)(g:EQ X pins H it)(h:it≠a)(z:l≠it)(B:l≠a):∀(L:List D)(vs:List V)(ws:List Aa)(i:Nat)(s:Ac)(j:BC)(m:List T3)(c:BC),
  us.drop i=ws->Am vs ws->Ae X.K N H L vs->PD X.K N H j m->Inv X pins σ (AK H a (Dk m)) s->s.heap.IsListIter it l i->s.heap.IsList l us.toArray->FA j L=some c ->
  (∀s' C,Inv X pins σ (AK H a (Dk C)) s'->PD X.K N H c C->R (.ok (.ret .none)) s') ->
  codeAny (Ag X.prog X.w) A (.builtin "dict.update.loop" ⟨[.ref a,.ref it,AI (i:Int),.none],[]⟩) R s
 |[],vs,ws,i,s,j,m,c,hd,T,M,x,I,n,O,f,q=>by
  cases M
  cases T
  cases f
  refine IV U1 ?_
  rw[Kh Ms _]
  show wpAny _ A.in1 (Bq (.ref it) >>= _) _ _ s
  have U:us.toArray[i]?=none:=by
   have:=List.drop_eq_nil_iff.mp hd
   simp[this]
  refine Aj (wpAny_pyNext_list_end hA n O U λh' ke=>?_)
  have Q:=I.turned (t':=s.toks) (λb o Y e=>ke b o Y e) (by rw[Zq h];exact g.1) g.2.1 g.2.2.2.1 g.2.2.2.2.1 g.2.2.2.2.2
  exact Aj (AC (AC (q _ m Q x)))
 |d::L,vs,ws,i,s,j,m,c,hd,T,M,x,I,n,O,f,q=>by
  simp only[Ae]at M
  obtain⟨v,vs',rfl,d1,dn'⟩:=M
  cases T with
  |@cons _ u _ E rv hv'=>
  unfold FA at f
  split at f
  ·cases ‹_::_=[]›
  ·next y dd r e1=>
   cases e1
   cases hk:CM y with
   |none=>rw[hk]at f;cases f
   |some k=>
    rw[hk]at f
    dsimp only at f
    split at f
    ·next hc=>
     rw[C5,decide_eq_true_eq]at hc
     have ey:=Ju hk
     subst ey
     simp only[Aq]at d1
     obtain⟨p,vs2,rfl,sq,dl⟩:=d1
     simp only[Ae]at dl
     obtain⟨kv,r2,rfl,dk,vv,r3,rfl,dv,rfl⟩:=dl
     cases rv
     have hat:us.toArray[i]?=some (.ref p):=by
      have h0:(us.drop i)[0]?=some (Bv p):=by rw[hd];rfl
      rw[Kg]at h0
      simpa using h0
     have hd':us.drop (i+1)=E:=by
      rw[<- List.tail_drop,hd];rfl
     refine IV U1 ?_
     rw[Kh Ms _]
     show wpAny _ A.in1 (Bq (.ref it) >>= _) _ _ s
     refine Aj (wpAny_pyNext_list_item n O hat λh' G sb=>?_)
     have Q:=I.turned (t':=s.toks) (λb o Y e=>(sb.2 b Y).trans e) (by rw[Zq h];exact g.1) g.2.1 g.2.2.2.1 g.2.2.2.2.1 g.2.2.2.2.2
     have sm:Ak H (AK H a (Dk m)):=Z3 hH
     obtain⟨its,rv2,ht,_⟩:=Q.tuple (sq.same sm)
     obtain⟨u1,u2,rfl,r1,r2⟩:=Ke rv2
     have hl':h'.IsList l us.toArray:=O.at λo e=>(sb.2 l z).trans e
     refine Aj (DR ?_)
     refine Aj (wpAny_tryCatch (fZ ht ?_))
     dsimp only
     refine DR ?_
     refine fY hu Q ZP (λt ht=>U2 (x.keys t ht) sm) (x.hom hc.1) (U2 (Jw dk) sm) r1 r2 (by have:=FG x;omega) λh2 t2 I2 J=>?_
     rw[YI]at I2
     refine AC ⟨plainId_quiet Ms _,?_⟩
     have e2:AI ((i:Int)+1)=AI ((i+1:Nat):Int):=by simp
     rw[e2]
     refine U3 hu hA hH g h z B L vs' E (i+1) _ (Dl _ k dd) (Dj m k kv vv) c hd' hv' dn' (x.put dk dv) I2 ?_ ?_ f q
     ·obtain⟨o,e,hh⟩:=G
      exact⟨o,(J.2 it h).trans e,hh⟩
     ·exact hl'.at λo e=>(J.2 l B).trans e
    ·cases f
  ·cases f
theorem f3(O:X.calm=true)(hu:X.A.units+64<AE){s:Ac}{E:Aa->Ac->Prop}{Q:VK}(I:Inv X pins σ H s){r:List D}{vs:List V}{c:BC}(U:Bn X.K H l vs)(Y:Ae X.K N H r vs)(hf:FA [] r=some c)
  (q:∀y p,H p=none->PD X.K N H c y->Q (.ref p) (AK H p (Dk y))):wpAny (Ag X.prog X.w) X.A (call (.type "dict") [.ref l]) (EP X pins σ Q) E s:=by
 obtain⟨us,rv,B,hz⟩:=I.list U
 have h:l<s.heap.objs.size:=by obtain⟨o,n,e,_⟩:=B;exact Be e
 have C:X.A.handled=none:=I.ok.hd O
 refine callType_codes (Q₁:=λx J=>x=.ref s.heap.objs.size/\J={s with heap:=s.heap.push {cls:=.type "dict",data:=.dict #[]} }) F.kt_called_dict (F.kt_typeCall_dict_1 (.ref l)) F.entry_dict_init (kt_code_dict_new (.ref l) ⟨rfl,rfl⟩) ?_
 rintro x J ⟨rfl,rfl⟩
 have i:H s.heap.objs.size=none:=I.hok.fresh (Bf _)
 have I1:Inv X pins σ (AK H s.heap.objs.size (Dk [])) {s with heap:=s.heap.push {cls:=.type "dict",data:=.dict #[]} }:=
  I.laid (a:=s.heap.objs.size) (o:=Dk []) (t':=s.toks) (λ_ _ z=>Bk _ z) (Bf _) ⟨Dq _,beq_eq_false_iff_ne.mpr (BX (BS I.big)),List.nodup_nil,_,#[],0,BY _ rfl,⟨rfl,rfl,rfl⟩,rfl,rfl,rfl⟩
 have d:PlainL (s.heap.push {cls:=.type "dict",data:=.dict #[]}) l us.toArray:=by
  obtain⟨o,n,e,j⟩:=B
  exact⟨o,n,Bk _ e,j⟩
 have k:Shared.TypeIs {s with heap:=s.heap.push {cls:=.type "dict",data:=.dict #[]} } (.ref s.heap.objs.size) "dict":=⟨_,BY _ rfl,rfl⟩
 refine⟨k,F.args_dict_init_2 _ _,?_⟩
 unfold En.«dict.__init__» Builtin.Dict.selfAndRest
 refine Aj (Aj (wpAny_notOrdered_dict k ?_))
 show wpAny _ _ (AB (s.heap.objs.size,[Bv l])) _ _ _
 refine AC ?_
 show wpAny _ _ (Builtin.Dict.updateFrom "dict.__init__" s.heap.objs.size (.ref l) [] .none) _ _ _
 unfold Builtin.Dict.updateFrom
 refine Aj (HJ (T:="list") (by obtain⟨o,n,e,j,_⟩:=d;exact⟨o,e,j⟩) ?_)
 rw[if_pos (by decide)]
 refine Aj (fX d C λg M t=>?_)
 rw[if_pos (show(none:Option Aa).isNone=true from rfl)]
 have u:=I1.kept (h':=g) (t':=M) t
 have m:PlainL g l us.toArray:=by
  obtain⟨o,n,e,j⟩:=d
  exact⟨o,n,t _ _ e,j⟩
 refine Aj (FW ?_)
 refine Aj (wpAny_pyIter_list m.isList ?_)
 have I3:=u.kept (h':=g.push {cls:=.type "list_iterator",data:=.fields #[.ref l,.int 0 0]}) (t':=M) λb o e=>Bk _ e
 have f:s.heap.objs.size<g.objs.size:=Be (t _ _ (BY _ rfl))
 have fp:EQ X pins H g.objs.size:=u.fpOk (Bf _) (by
  have:=u.hok.fresh (a:=g.objs.size) (Bf _)
  rw[Zq (FL f)]at this
  exact this)
 refine AC ⟨plainId_quiet Ms _,?_⟩
 refine U3 (A:=X.A.in1) (N:=N) (us:=us) (by show X.A.units+1+1<AE;omega) C i fp (FL f) (BS (G8 h f)) (BS h) r vs us 0 _ [] [] c rfl rv Y .nil I3 ⟨_,BY _ rfl,rfl,rfl⟩ ?_ hf λs' v I' pd=>?_
 ·exact m.isList.push _
 ·exact⟨rfl,.ref s.heap.objs.size,_,I',rfl,q v _ i pd⟩
end
theorem f4:Eg "dict"=some (.type "dict"):=by kernel_rfl
def Jz(f:VE->Option D):VE->Option (List D):=λa=>match f a with
 |some (.lst b)=>(FA [] b).map ZB
 |_=>none
section
variable{X:Cx}{M:Fb}{H0:Hp}{e:Expr}{f:VE->Option D}{p pos:AT}
theorem U4(x:X.calm=true)(y:X.A.units+64<AE)(B:Gl X "dict")(C:X.mg "dict"=none)(l:JE X e (tP X.K M H0 f))(r:AO [e] X.env=(false,Ar e X.env)::AO [] X.env:=by exact Df (λ_ _ z=>nomatch z)):
  JE X (.Call (.Name "dict" p) [e] [] pos) (IW true X.K M H0 (Jz f)):=⟨have l:=l.h;by
 intro d s g H Q I h
 obtain⟨i,ys,R,c,q⟩:=h
 unfold Jz at c
 split at c
 ·next j E=>
  cases m:FA [] j with
  |none=>rw[m]at c;cases c
  |some n=>
   rw[m]at c
   cases c
   have G:=(E5 l (BM (X:=X)) r) pos d s g H (λo k=>∃v,o=[v]/\Ak H k/\AA X.K (Nf M i g) k (.lst j) v) I ⟨i,.lst j,R,E,λv k t d1=>⟨v,rfl,t,d1⟩⟩
   refine Call_ (FI I B C f4 (Kc (AU G λus t J=>?_) (by rw[r]) rfl))
   obtain⟨o,k,L,N,v,rfl,sm,d1⟩:=J
   obtain⟨u,rfl,O⟩:=D6 N
   obtain⟨a,ws,rfl,T,dl⟩:=d1
   cases O
   refine f3 x y L T dl m λU b Y w=>?_
   have:=Km (K:=X.K) (M:=M) (ρ:=i) (σ:=g) (fl:=true) (Q:=Q) (xs:=ZB n) (vs:=Di U) (p:=b) sm Y w.flat q
   rw[KN w]at this
   exact this
 ·cases c⟩
end
section
variable{X:Cx}{K:Ap}{M:Fb}{H0:Hp}
theorem f5{st:As}:JS X st (tS K M H0 λ_=>.fail):=⟨λa s b H D I ⟨c,R,q⟩=>Bd q⟩
@[simp] def mz:List D->Option D
  |[.int i]=>if i.natAbs.log2<1920 then some (.str (toString i))else none
  |[.str z]=>some (.str z)
  |_=>none
@[simp] def mB:List D->Option D
  |[.str z]=>if z.length<=640 then(PySem.intText? z).map D.int else none
  |_=>none
@[simp] def mC(z:Af):List D->Option D
  |[.str y]=>if(y.length==0)=false/\z.length<=Av/\(Txt.split z y).length<=Av then some (.lst ((Txt.split z y).map D.str))else none
  |_=>none
end
end L2
namespace L2
open PySem PySem.Spec PyProof.Rows
end L2
namespace L2
open PySem PySem.Spec PyProof.Rows PySem.W
section
variable{X:Cx}{M:Fb}{H0:Hp}{e a b:Expr}{es:List Expr}{f:VE->Option D}{pos:AT}
@[simp] def mD:Option D->Option D
  |some (.int i)=>if i.natAbs.log2<1920 then some (.str (toString i))else none
  |some (.str z)=>if z.length<=Av then some (.str z)else none
  |_=>none
def U5(a:Af)(b:List Af):Af:=b.foldl (·++·) a
@[simp] def mE(o:Option D)(p:Option (List Af)):Option (List Af):=match o,p with
  |some (.str z),some a=>some (z::a)
  |_,_=>none
@[simp] def mF(p:Option (List Af)):Option D:=match p with
  |some a=>if(U5 Str.empty a).length<=Av then some (.str (U5 Str.empty a))else none
  |none=>none
end
structure Dv(K:AV)(C:Ad):Prop where
 ga:findIn K (.ref C) "__getattribute__"=some (some (.builtin "BaseException.__getattribute__"))
 cl:findIn K (.ref C) "__class__"=some (some (.builtin "object.__class__"))
 gr:findIn K (.ref C) "__getattr__"=some none
 bx:subIn K (.ref C) (.type "BaseException")=some true
 ob:subIn K (.ref C) (.type "object")=some true
 ty:typeIn K (.ref C)=some (.type "type")
 is:∃cd,clsIn K C=some cd
section
variable{prog:AS}{w:Ai}{A:Ah}{E:Aa->Ac->Prop}{h:Al}{g:Array GenState}{d:Drawn}{t:Nat}{os:OsState}{e C:Ad}{K:AV}
theorem f6{R:Result->Ac->Prop}(X:K.In h)(F:Dv K C)(p:De e C h)(i:R (.ok (.ret (.ref C))) ⟨h,g,d,t,os⟩):codeAny (Ag prog w) A (.call (.builtin "getset_descriptor.__get__") ⟨[.builtin "object.__class__",.ref e,.ref C],[]⟩) R ⟨h,g,d,t,os⟩:=by
 obtain⟨o,j,a,b,k⟩:=p
 have c:(⟨h,g,d,t,os⟩:Ac).TypeIs (.builtin "object.__class__") "getset_descriptor":=U6
 have f:Looks (Ag prog w) h (isSubtype (.ref C) (.type (".".intercalate ("object.__class__".cutAt '.').dropLast))) true:=by rw[PySem.F.owner_object_class];exact looks_subIn X F.ob
 refine Ps PySem.F.slot_gs_get.plain PySem.F.entry_gs_get (PySem.F.slot_gs_get.check _ _ _ _ _ _ _ _ c (PySem.F.args_gs_get _ _ _) ?_)
 repeat(any_goals(first|assumption|(with_reducible refine Mt a ?_;rw[b])|(with_reducible refine Looks.at f ?_)|wp_step))
 refine⟨Code.quiet_builtin _ (by decide +kernel),IV PySem.F.entry_object_class ?_⟩
 repeat(any_goals(first|assumption|(with_reducible refine Mt a ?_;rw[b])|wp_step))
theorem f7{a:Tok}{Q:Fin->Ac->Prop}(X:K.In h)(F:Dv K C)(p:De e C h)(i:Q (.done (.ret (.ref C))) ⟨h,g,d,t,os⟩):wpAny (Ag prog w) A (En.«object.__getattribute__» ⟨[.ref e,.str "__class__" a],[]⟩) Q E ⟨h,g,d,t,os⟩:=by
 obtain⟨o,j,b,c,k⟩:=id p
 have l:(⟨h,g,d,t,os⟩:Ac).TypeIs (.builtin "object.__class__") "getset_descriptor":=U6
 have f:Looks (Ag prog w) h (typeLookup (.ref C) "__class__") _:=looks_findIn X F.cl
 have m:=U6
 have n:=PySem.F.slot_gs_get.lookup
 have q:=PySem.F.slot_gs_set.lookup
 repeat(any_goals(first|assumption|(with_reducible refine Mt b ?_;rw[c])|(with_reducible refine Looks.at f ?_)|wp_step))
 refine f6 X F p ?_
 repeat(any_goals(first|assumption|wp_step))
theorem f8{M:Model}{a:Aa}{Q:Unit->Ac->Prop}(X:K.In h)(F:Dv K C)(p:De e C h)(b:Q () ⟨h,g,d,t,os⟩):wpAny M A (checkBuiltinCall "BaseException.__getattribute__" ⟨[.ref e,a],[]⟩) Q E ⟨h,g,d,t,os⟩:=by
 obtain⟨o,l,c,f,m⟩:=p
 have i:builtinKind "BaseException.__getattribute__"=some .slot:=by decide +kernel
 have j:splitId "BaseException.__getattribute__"=some ("BaseException","__getattribute__"):=by decide +kernel
 have k:Looks M h (isSubtype (.ref C) (.type "BaseException")) true:=looks_subIn X F.bx
 have n:=PySem.F.args_bexc_ga (.ref e) a
 simp only[checkBuiltinCall,i,j]
 refine Aj ?_
 unfold isInstance
 repeat(first|(with_reducible refine Mt c ?_;rw[f])|(with_reducible refine Looks.at k ?_)|wp_step)
 exact b
theorem f9{a:Tok}{R:Result->Ac->Prop}(X:K.In h)(F:Dv K C)(p:De e C h)(b:R (.ok (.ret (.ref C))) ⟨h,g,d,t,os⟩):
  codeAny (Ag prog w) A (.call (.builtin "BaseException.__getattribute__") ⟨[.ref e,.str "__class__" a],[]⟩) R ⟨h,g,d,t,os⟩:=
 Ps PySem.F.excAttr_ValueError.ga.plain PySem.F.entry_bexc_ga (f8 X F p (f7 X F p b))
theorem gb{a:Tok}{Q:Aa->Ac->Prop}(X:K.In h)(F:Dv K C)(p:De e C h)(j:Q (.ref C) ⟨h,g,d,t,os⟩):wpAny (Ag prog w) A (getAttrBy (.ref e) (.str "__class__" a) false) Q E ⟨h,g,d,t,os⟩:=by
 obtain⟨o,k,b,c,l⟩:=id p
 have f:Looks (Ag prog w) h (typeLookup (.ref C) "__getattribute__") _:=looks_findIn X F.ga
 have L2:Looks (Ag prog w) h (typeLookup (.ref C) "__getattr__") _:=looks_findIn X F.gr
 have m:=PySem.F.excAttr_ValueError.ga.bind (.ref e)
 have i:(Value.builtin "BaseException.__getattribute__"==Value.builtin "object.__getattribute__")=false:=by decide +kernel
 have n:(onTheHeap (Bv C)&&Value.builtin "BaseException.__getattribute__"==Value.builtin "object.__getattribute__")=false:=by rw[i];rfl
 repeat(any_goals(first|assumption|(with_reducible refine Mt b ?_;rw[c])|(with_reducible refine Looks.at f ?_)|(with_reducible refine Looks.at L2 ?_)|wp_step))
 refine f9 X F p ?_
 repeat(any_goals(first|assumption|wp_step))
theorem gc{s:Ac}{Q:Option Aa->Ac->Prop}(X:K.In s.heap)(F:Dv K C)(p:De e C s.heap)(a:Q (some (.ref C)) {s with toks:=s.toks+1}):wpAny (Ag prog w) A (getAttr? (.ref e) "__class__") Q E s:=by
 obtain⟨h,g,d,t,os⟩:=s
 unfold getAttr? getAttrBy?
 repeat(any_goals(first|assumption|with_reducible apply gb X F p|wp_step))
theorem ge(F:Dv K C):KitX K (.ref e) (.ref C) (De e C) where
 ty:=λM h X p=>by
  obtain⟨o,l,d,f,m⟩:=p
  intro A Q E s k q
  unfold typeOf
  exact Aj (wpAny_loadPart (k _ _ d) (AC (by rw[f];exact q)))
 it:=λM h X _=>by
  obtain⟨g,a⟩:=F.is
  unfold clsIn at a
  split at a
  ·rename_i b
   intro A Q E s k q
   unfold isType loadHead
   exact Aj (wpAny_loadPart (k _ _ (X _ _ b)) (AC q))
  ·cases a
 ne:=λh i r j n t X c=>by
  obtain⟨g,a⟩:=F.is
  refine Bool.eq_false_iff.mpr λq=>?_
  obtain rfl:C=i:=Value.ref.inj (beq_iff_eq.mp q)
  unfold clsIn at a
  split at a
  ·rename_i b
   have z:=(X _ _ b).symm.trans c
   cases z
  ·cases a
 ca:=λX p k=>gc X F p k
end
structure EI(B:Al)(l:List Env)(e:Ad)(C fl:Aa)(h:Al):Prop where
 stay:B.StaysIn h
 new:B.get? e=none
 fun_:h.FunFrames B l
 rcd:∃oe vs,h.get? e=some oe/\oe.cls=C/\oe.data=.fields vs/\vs[2]?=some .none/\(vs[1]?=some .none\/∃T oT ts,vs[1]?=some (.ref T)/\B.get? T=none/\T≠e/\h.get? T=some oT/\oT.data=.fields ts/\ts[3]?=some fl)
section
variable{M:Model}{A:Ah}{E:Aa->Ac->Prop}{s:Ac}{B:Al}{l outer:List Env}{env:Env}{e L:Ad}{C fl:Aa}{Q:Unit->Ac->Prop}
theorem EI.outs{h:Al}(a:EI B (env::outer) e C fl h):EI B outer e C fl h:=⟨a.stay,a.new,a.fun_.2.2,a.rcd⟩
theorem Mu{h:Al}{b x:Ad}{o a:AJ}{ws:Array Aa}(d:h.get? b=some o)(nf:∀vs,o.data≠.fields vs)(c:h.get? x=some a)(e:a.data=.fields ws):b≠x:=λq=>by
 subst q;rw[d]at c;cases c;exact nf ws e
theorem U7{d:Aa}{N:Bool}{k:AJ}{vs:Array Aa}(p:A.frames=some (env::outer))(O:env.frame=some L)(st:B.StaysIn s.heap)(nw:B.get? e=none)(l:s.heap.FunFrames B (env::outer))
  (m:s.heap.get? e=some k) (T:k.cls=C) (g:k.data=.fields vs) (U:vs[2]?=some .none) (hz:1<vs.size) (q:∀h',EI B (env::outer) e C (AI L) h'->s.heap.UpToSlots h'->Q () {s with heap:=h' }):
  wpAny M A (do let a <- frameOf env;let pl <- entryPlaceOf L N;let b <- EntryCells.newEntry d a .none (AI L) .none pl;setField (.ref e) 1 b) Q E s:=by
 have Y:e∉(env::outer).filterMap (·.frame):=λr=>by
  obtain⟨_,o,i,z⟩:=l.mem r
  rw[m]at i;cases i;exact z vs g
 refine Aj (wpAny_frameOf_fun p l O λc sg=>Aj (wpAny_entryPlaceOf λx t=>?_))
 unfold EntryCells.newEntry newFields;refine Aj (Fk ?_ (t.sizeOk5 _ _ _ _ _))
 have G:c.get? e=some k:=(sg.2.1 e Y).trans m
 have H:B.StaysIn c:=λb o z=>(sg.2.1 b λr=>by rw[(l.mem r).1]at z;cases z).trans (st b o z)
 generalize i:({cls:=.type "traceback",dict:=none,data:=.fields ([d,.ref L,.none,AI L,.none]++(if x.isEmpty then BZ 6 DC else x)).toArray}:AJ)=j
 have u:∃n,j.data=.fields n/\n[3]?=some (AI L):=by subst i;exact⟨_,rfl,by simp⟩
 have v:j.isFreed=false:=by subst i;rfl
 obtain⟨n,td,t3⟩:=u
 have I:=Bk (h:=c) j G
 refine Ky I g hz (q _ ?_ ?_)
 all_goals
  have d3:=Jm g (·.setIfInBounds 1 (Bv c.objs.size))
  have e3:=Kf (Obj.mapFields (·.setIfInBounds 1 (Bv c.objs.size))) I (Pa d3)
  have ne:c.objs.size≠e:=FL (Be G)
  have kp:∀b o,b≠e->c.get? b=some o->((c.push j).update e (Obj.mapFields (·.setIfInBounds 1 (Bv c.objs.size)))).get? b=some o:=λb o z f=>by
   rw[IS _ _ (BX z)];exact Bk _ f
 ·refine⟨λb o z=>kp b o (λy=>by rw[y,nw]at z;cases z) (H b o z),nw,l.of_keeps λb o f nf=>?_,_,_,e3,(Obj.cls_mapFields _ _).trans T,d3,by rw[Array.getElem?_setIfInBounds_ne (by decide)];exact U,.inr ⟨c.objs.size,j,n,by simp[hz],H.fresh,ne,?_,td,t3⟩⟩
  ·obtain⟨J,w⟩:=sg.2.2 b o f
   exact⟨_,kp b _ (Mu f nf m g) w,rfl⟩
  ·rw[IS _ _ (BX ne)];exact BY c v
 ·intro b o f nf
  obtain⟨J,w⟩:=sg.2.2 b o f
  exact⟨J,kp b _ (Mu f nf m g) w⟩
theorem U8{T:Ad}{f g:AJ}{h:Array Aa}{v:Aa}(st:B.StaysIn s.heap)(k:s.heap.FunFrames B l)(m:s.heap.get? e=some g)(n:B.get? T=none)(ne:T≠e)(d:s.heap.get? T=some f)(dT:f.data=.fields h)(hz:3<h.size)
  (q:∀h',B.StaysIn h'->h'.FunFrames B l->h'.get? e=some g->(∃i j,h'.get? T=some i/\i.data=.fields j/\j[3]?=some v)->s.heap.UpToSlots h'->Q () {s with heap:=h' }):wpAny M A (setField (.ref T) 3 v) Q E s:=by
 refine Ky d dT hz ?_
 have a:∀b,b≠T->(s.heap.update T (Obj.mapFields (·.setIfInBounds 3 v))).get? b=s.heap.get? b:=λb z=>IS _ _ (BX z)
 refine q _ (λb o z=>(a b λy=>by rw[y,n]at z;cases z).trans (st b o z)) (k.of_keeps λb o c nf=>⟨o,(a b (Mu c nf d dT)).trans c,rfl⟩) ((a e (BX ne)).trans m)
  ⟨_,_,Kf _ d (Pa (Jm dT _)),Jm dT _,by simp[hz]⟩ λb o c nf=>⟨o.slots,(a b (Mu c nf d dT)).trans c⟩
theorem U9(b:A.frames=some (env::outer))(g:env.frame=some L)(a:EI B (env::outer) e C .none s.heap)(q:∀h',EI B (env::outer) e C (AI L) h'->s.heap.UpToSlots h'->Q () {s with heap:=h' }):
  wpAny M A (noteFrame (.ref e) env) Q E s:=by
 obtain⟨st,nw,k,t,v,c,d,f,l,r⟩:=a
 unfold noteFrame;simp only[g]
 rcases r with r|⟨T,w,x,r,o,ne,m,dT,n⟩
 ·refine Aj (Cw c f r ?_)
  rw[if_neg (by decide)]
  exact U7 b g st nw k c d f l (Array.getElem?_eq_some_iff.mp r).1 q
 ·refine Aj (Cw c f r ?_)
  rw[if_pos (show(Bv T != DC)=true by simp)]
  refine Aj (Cw m dT n ?_)
  rw[if_neg (show ¬ (DC==AI L)=true by simp[AI])]
  refine Aj (U8 st k c o ne m dT (Array.getElem?_eq_some_iff.mp n).1 λh' h i j _ u=>?_)
  exact U7 (s:={s with heap:=h' }) b g h nw i j d f l (Array.getElem?_eq_some_iff.mp r).1 λd a p=>q d a (u.trans p)
theorem Pt(a:EI B l e C fl s.heap)(q:∀h',EI B l e C .none h'->s.heap.UpToSlots h'->Q () {s with heap:=h' }):wpAny M A (setFlight (.ref e) none) Q E s:=by
 obtain⟨st,nw,h,i,j,b,k,c,m,r⟩:=a
 unfold setFlight
 rcases r with r|⟨T,z,G,r,n,ne,o,dT,p⟩
 ·refine Aj (Cw b c r ?_)
  rw[if_neg (by decide)]
  exact AC (q s.heap ⟨st,nw,h,i,j,b,k,c,m,.inl r⟩ (.refl _))
 ·refine Aj (Cw b c r ?_)
  rw[if_pos (show(Bv T != DC)=true by simp)]
  exact U8 st h b n ne o dT (Array.getElem?_eq_some_iff.mp p).1 λh' d f g ⟨t,v,w,x,y⟩ u=>q h' ⟨d,nw,f,i,j,g,k,c,m,.inr ⟨T,t,v,r,n,ne,w,x,y⟩⟩ u
theorem gf(b:A.frames=some (env::outer))(c:env.frame=some L)(a:EI B (env::outer) e C .none s.heap)(q:∀h',EI B outer e C .none h'->s.heap.UpToSlots h'->Q () {s with heap:=h' }):wpAny M A (leaving env (.ref e)) Q E s:=by
 unfold leaving
 exact Aj (U9 b c a λd a1 f=>Pt (s:={s with heap:=d}) a1 λg a2 h=>q g a2.outs (f.trans h))
theorem _root_.L2.AZ.ob{P:AS}{w:Ai}{H:Hp}{h:Al}{x:Ad}{o:HO}(z:AZ P w H h x o):∃ob,h.get? x=some ob:=by
 cases o with
 |lst b=>obtain⟨_,_,_,_,q⟩:=z;exact⟨_,q⟩
 |tup b=>obtain⟨_,_,_,ob,q,_⟩:=z;exact⟨_,q⟩
 |dK a=>obtain⟨_,_,_,_,ob,_,_,q,_⟩:=z;exact⟨_,q⟩
 |dT a=>obtain⟨_,_,_,_,ob,_,_,q,_⟩:=z;exact⟨_,q⟩
 |dct d e=>obtain⟨_,_,_,ob,_,_,q,_⟩:=z;exact⟨_,q⟩
 |set S n=>obtain⟨ob,_,_,_,q,_⟩:=z;exact⟨_,q⟩
 |ins D g c=>obtain⟨_,_,_,q,_⟩:=z;exact⟨_,q⟩
 |own y=>exact z
 |xd c=>obtain⟨_,⟨_,_,_,q,_⟩,_⟩:=z;exact⟨_,q⟩
 |rng lo i=>obtain⟨_,_,_,q⟩:=z;exact⟨_,q⟩
 |frz ob u=>exact⟨_,z.1⟩
 |tbl j=>exact⟨_,z⟩
 |met f y=>exact⟨_,z⟩
 |ext k=>exact z.2.1
def Va(P:AS)(w:Ai)(l:List Env)(H H':Hp)(s:Al)(e C:Ad)(h:Al):Prop:=
 Ak H H'/\Un (BW l) [] H H' s h/\∃B,BV P w H' B/\(∀b o,s.get? b=some o->H b=none->b∉BW l->B.get? b=some o)/\EI B l e (.ref C) .none h
def Mv(P:AS)(w:Ai):DS:=λouter H s E e b=>∃a C c,e=.ref a/\b.os=s.os/\AllBare b.gens/\Va P w outer H c s.heap a C b.heap/\E (.ref C) none c
def Ip(Y:Cx)(b:List (Ad×AJ))(σ:St)(H:Hp)(C:Ad)(e:Aa)(s':Ac):Prop:=
 ∃a c f d,e=.ref a/\Inv Y b σ c d/\Ak H c/\s'.os=d.os/\AllBare s'.gens/\Va Y.prog Y.w Y.stack c f d.heap a C s'.heap
theorem Ip.from{Y:Cx}{b:List (Ad×AJ)}{σ:St}{H d:Hp}{C:Ad}{v:Aa}{s':Ac}(sm:Ak H d)(t:Ip Y b σ d C v s'):Ip Y b σ H C v s':=by
 obtain⟨a,e,f,g,h,I,c,r⟩:=t
 exact⟨a,e,f,g,h,I,sm.trans c,r⟩
theorem Vb{fs:List Ad}{l:List Env}{H m H':Hp}{s q h h':Al}{P:AS}{w:Ai}{C:Aa}(d:Un fs [] H m s q)(p:Un (BW l) [] m H' q h)(y:BV P w H' B)(k:∀b o,q.get? b=some o->m b=none->b∉BW l->B.get? b=some o)
  (A:∀b o,s.get? b=some o->H b=none->b∈BW l->b∈fs) (sm:Ak m H') (a:EI B l e C fl h) (st:B.StaysIn h') (E:h.UpToSlots h'):Un fs [] H H' s h':=by
 have nx:∀b:Ad,b∉([]:List Ad):=λb=>by simp
 have fr:∀b o,q.get? b=some o->m b=none->b∈BW l->∃r,h'.get? b=some {o with slots:=r}:=λb o z n f=>by
  obtain⟨r,c⟩:=p.any z n (nx b)
  obtain⟨_,t,g,nf⟩:=a.fun_.mem f
  rw[c]at g;cases g
  obtain⟨i,G⟩:=E b _ c nf
  exact⟨i,G⟩
 refine⟨λb o z n f _=>?_,λb o z n f _=>?_,λb o z n _=>?_,λb o z _=>?_,λb v z=>p.tups b v (d.tups b v z),λb o u z=>p.frzs b o u (d.frzs b o u z),λb I z=>?_⟩
 ·exact st b o (k b o (d.keep b o z n f (nx b)) (d.free b o z n (nx b)) λj=>f (A b o z n j))
 ·obtain⟨r,c⟩:=d.slot b o z n f (nx b)
  by_cases j:b∈BW l
  ·obtain⟨i,g⟩:=fr b _ c (d.free b o z n (nx b)) j
   exact⟨i,g⟩
  ·exact⟨r,st b _ (k b _ c (d.free b o z n (nx b)) j)⟩
 ·obtain⟨t,c⟩:=d.there b o z (nx b)
  exact p.free b t c (d.free b o z n (nx b)) (nx b)
 ·obtain⟨x,c⟩:=d.there b o z (nx b)
  cases f:m b with
  |none=>
   by_cases j:b∈BW l
   ·obtain⟨i,g⟩:=fr b x c f j
    exact⟨_,g⟩
   ·exact⟨x,st b _ (k b _ c f j)⟩
  |some u=>
   obtain⟨J,g⟩:=(y b u (sm b u f)).ob
   exact⟨J,st b _ g⟩
 ·obtain⟨L,c⟩:=d.tbls b I z
  obtain⟨M,g⟩:=p.tbls b _ c
  exact⟨L++M,by rw[g,Array.append_assoc]⟩
theorem gg{P:AS}{w:Ai}{H:Hp}{h:Al}{fs:List Ad}(a:BV P w H h)(nf:∀b∈fs,H b=none):BV P w H (hideAll h fs):=λx o z=>
 (a x o z).stay (λb u c q=>hideAll_get _ q λd=>by
  have:=nf b d
  rcases c with y|y
  ·rw[y,z]at this;cases this
  ·rw[y]at this;cases this) (λ_ q=>q) λ_ _ q=>q
theorem gh{Y:Cx}{a:List (Ad×AJ)}{σ:St}{H:Hp}{s:Ac}{D x:Ad}{vs:List Aa}{h':Al}(I:Inv Y a σ H s)(m:Heap.MadeExcOf s.heap h' x (.ref D) vs):Ip Y a σ H D (.ref x) {s with heap:=h' }:=by
 have f:=I.stack
 have c:∀env∈Y.stack,∀b,env.frame=some b->b∈Y.stack.filterMap (·.frame):=λenv g b d=>List.mem_filterMap.mpr ⟨env,g,d⟩
 have h:(hideAll s.heap (BW Y.stack)).get? x=none:=by
  cases q:(hideAll s.heap (BW Y.stack)).get? x with
  |none=>rfl
  |some o=>have:=of_hideAll _ q;rw[m.new]at this;cases this
 have e:=funFrames_hide f c
 obtain⟨j,i,k,l⟩:=m.there
 refine⟨x,H,H,s,rfl,I,Ak.refl H,rfl,I.bare,Ak.refl H,Un.kept m.keeps,hideAll s.heap (BW Y.stack),gg I.hok I.stkFree,λb o z n d=>hideAll_get _ z d,⟨λb o z=>m.keeps b o (of_hideAll _ z),h,?_,_,_,i,rfl,rfl,rfl,.inl rfl⟩⟩
 exact e.of_keeps λb o z _=>⟨o,m.keeps b o z,rfl⟩
theorem gi{Y:Cx}{f:List (Ad×AJ)}{σ:St}{H:Hp}{s':Ac}{D:Ad}{v:Aa}{p:XK}(ys:Y.stack=Y.env::Y.outer)(i:Y.env.frame=some Y.env.locals)(q:Y.ex=[])(g:Ak Y.H₀ H)(t:Ip Y f σ H D v s')(s:∀H',Ak Y.H₀ H'->p (.ref D) none H'):
  wpAny M Y.A (leaving Y.env v) (λ_ j=>Mv Y.prog Y.w Y.outer Y.H₀ Y.s₀ p v j) E s':=by
 obtain⟨x,J,H',L,rfl,I,sm,os,C,a,u,B,r,k,c⟩:=t
 have h:=I.ok.frames
 rw[ys]at c u k h
 refine gf h i c λN a2 G=>⟨x,D,H',rfl,os.trans I.os,C,⟨(g.trans sm).trans a,?_,B,r,λb o z n d=>?_,a2⟩,s H' ((g.trans sm).trans a)⟩
 ·have e:=I.base
  rw[q]at e
  refine Vb (l:=Y.env::Y.outer) e u r k (λb o z n d=>?_) a c a2.stay G
  rcases Bm.mp (show b∈Y.env.locals::BW Y.outer by unfold BW at d ⊢;rw[LA,i]at d;exact d)with y|y
  ·exact absurd (y ▸ Be z) (Nat.not_lt.mpr I.ok.above)
  ·exact y
 ·have e:=I.base
  rw[q]at e
  refine k b o (e.keep b o z n d (by simp)) (e.free b o z n (by simp)) λm=>?_
  rcases Bm.mp (show b∈Y.env.locals::BW Y.outer by unfold BW at m ⊢;rw[LA,i]at m;exact m)with y|y
  ·exact absurd (y ▸ Be z) (Nat.not_lt.mpr I.ok.above)
  ·exact d y
end
abbrev Cx.hand(Y:Cx)(x:Ad):Cx:={Y with A:=Y.A.mark (some (.ref x)),calm:=false}
section
variable{Y:Cx}{pins:List (Ad×AJ)}{σ:St}{H H2 H':Hp}{s s2 s':Ac}{x D G:Ad}{fl f0:Aa}{B h h':Al}
theorem Inv.hand(I:Inv Y pins σ H s)(x:Ad):Inv (Y.hand x) pins σ H s:=
 ⟨⟨I.ok.mod,I.ok.kind,I.ok.glob,I.ok.blt,I.ok.above,I.ok.inj,I.ok.has,I.ok.cab,(λz=>nomatch z),I.ok.frames,I.ok.stk,I.ok.exf,I.ok.bs,I.ok.bsz,I.ok.noex,I.ok.exfs,I.ok.funs,I.ok.frf⟩,I.os,I.bare,I.base,I.loc,I.cell,I.free,I.freeC,I.pin,I.hok,I.len⟩
theorem Inv.back(ok:Y.Ok)(I:Inv (Y.hand x) pins σ H s):Inv Y pins σ H s:=⟨ok,I.os,I.bare,I.base,I.loc,I.cell,I.free,I.freeC,I.pin,I.hok,I.len⟩
theorem Vc(I:Inv Y pins σ H2 s2)(os:s'.os=s2.os)(E:AllBare s'.gens)(sm:Ak H2 H')(u:Un (BW Y.stack) [] H2 H' s2.heap h)(l:BV Y.prog Y.w H' B)(t:∀b o,s2.heap.get? b=some o->H2 b=none->b∉BW Y.stack->B.get? b=some o)
  (a0:EI B Y.stack x (.ref D) f0 h) (a:EI B Y.stack x (.ref D) fl h') (G:h.UpToSlots h'):H2 x=none/\Ak H2 (AK H' x (.ext (De x D)))/\Inv Y pins σ (AK H' x (.ext (De x D))) {s' with heap:=h' }:=by
 have g:H' x=none:=by
  cases q:H' x with
  |none=>rfl
  |some o=>obtain⟨ob,z⟩:=(l x o q).ob;rw[a.new]at z;cases z
 have H:s2.heap.get? x=none:=by
  cases q:s2.heap.get? x with
  |none=>rfl
  |some o=>
   cases q2:H2 x with
   |some J=>rw[sm x J q2]at g;cases g
   |none=>
    by_cases A:x∈BW Y.stack
    ·obtain⟨_,U,i,nf⟩:=a0.fun_.mem A
     obtain⟨p,r,j,_,s,_⟩:=a0.rcd
     rw[j]at i;cases i;exact absurd s (nf r)
    ·have:=t x o q q2 A;rw[a.new]at this;cases this
 have d:=Vb (Un.refl (fs:=BW Y.stack)) u l t (λ_ _ _ _ z=>z) sm a0 a.stay G
 have f:∀b o,H' b=some o->(AK H' x (.ext (De x D))) b=some o:=λb o q=>by rw[Zq (Z4 q g)];exact q
 refine⟨sm.free g,λb o q=>f b o (sm b o q),I.call' (s':={s' with heap:=h' }) (ch:=[]) os ⟨d.keep,d.slot,λb o z n L=>?_,d.there,λb C z=>f b _ (d.tups b C z),λb o v z=>f b _ (d.frzs b o v z),λb M z=>?_⟩ (λb v q=>?_) E (λb z=>absurd z (by simp))⟩
 ·rw[Zq (λy=>by rw[y,H]at z;cases z)];exact d.free b o z n L
 ·obtain⟨m,q⟩:=d.tbls b M z;exact⟨m,f b _ q⟩
 ·by_cases e:b=x
  ·subst e
   rw[ZP]at q;cases q
   obtain⟨p,r,j,s,i,N,_⟩:=a.rcd
   exact⟨⟨p,r,j,s,i,N⟩,⟨p,j⟩,λh1 h2 ⟨o,O,Q,T⟩ k=>⟨o,O,k o Q,T⟩⟩
  ·rw[Zq e]at q
   exact(l b v q).stay (λc o _ z=>a.stay c o z) (λc z=>f c _ z) λc C z=>f c _ z
theorem Inv.gone{h:Af->Option Aa}{k:Nat}(I:Inv Y pins σ H s)(l:h'.Ns Y.env.locals h)(a:C3 Y.env.locals s.heap h'):Inv Y pins (BZ Y.N.length none) H {s with heap:=h',toks:=k}:=by
 have lt:∀b o,Y.s₀.heap.get? b=some o->b≠Y.env.locals:=λb o z=>BS (Cu (Be z) I.ok.above)
 refine⟨I.ok,I.os,I.bare,⟨λb o z n f e=>(a.2 b (lt b o z)).trans (I.base.keep b o z n f e),λb o z n f e=>?_,I.base.free,λb o z e=>?_,I.base.tups,I.base.frzs,I.base.tbls⟩,⟨h,l,λi y v x g _=>?_⟩,λy c z=>?_,I.free,I.freeC,λp m=>?_,λb v q=>?_,by simp⟩
 ·obtain⟨r,q⟩:=I.base.slot b o z n f e;exact⟨r,(a.2 b (lt b o z)).trans q⟩
 ·obtain⟨t,q⟩:=I.base.there b o z e;exact⟨t,(a.2 b (lt b o z)).trans q⟩
 ·rw[HI]at g;split at g<;>cases g
 ·obtain⟨w,q⟩:=I.cell y c z;exact⟨w,q.sameBut a (I.cne y c z)⟩
 ·obtain⟨z,n,ne,nf,u⟩:=I.pin p m;exact⟨(a.2 p.1 ne).trans z,n,ne,nf,u⟩
 ·refine(I.hok b v q).stay (λc o d z=>(a.2 c λy=>?_).trans z) (λ_ z=>z) λ_ _ z=>z
  have j:=I.free
  rcases d with d|d
  ·rw[d]at y;rw[y,j]at q;cases q
  ·rw[y,j]at d;cases d
theorem gj{i:Nat}{h n:Af}{np pos:AT}{L:As}{a:List As}{Ay:List ExceptHandler}{v:Aa}{Q:Flow->Ac->Prop}{E:Aa->Ac->Prop}{Q':VK}(ys:Y.stack=Y.env::Y.outer)(yf:Y.env.frame=some Y.env.locals)(t:Ip Y pins σ H D v s')
  (hm:Y.mg h=some (.ref G)) (hg:Gl Y h) (hx:exmOne Y.K (.ref D) (.ref G)=some true) (hN:Y.N.Nodup) (hi:Y.N[i]?=some n) (l:Y.env.scope.names.lookup n=some .local)
  (k:∀x m j,H x=none->Ak H m->Inv (Y.hand x) pins (σ.set i (some (.ref x))) m j->m x=some (.ext (De x D)) ->
   wpAny (Ag Y.prog Y.w) (Y.A.mark (some (.ref x))) (execs (L::a) Y.env) (λf s4=>∃u vv b H',f=.ret u/\Inv (Y.hand x) pins b H' s4/\RelV vv u/\Q' vv H') (λ_ _=>False) j)
  (fin:∀u vv b H' M,Inv Y pins b H' M->RelV vv u->Q' vv H'->Q (.ret u) M) (hd:(h==("__debug__":Af))=false:=by decide):
  wpAny (Ag Y.prog Y.w) Y.A (noteFrame v Y.env) (λ_ s2=>wpAny (Ag Y.prog Y.w) Y.A (setFlight v none) (λ_ j=>wpAny (Ag Y.prog Y.w) Y.A (handleBy v Y.env (.ExceptHandler (some (.Name h np)) (some n) (L::a) pos::Ay)) Q E j) E s2) E s':=by
 obtain⟨x,H2,H',s2,rfl,I,e,os,O,sm,u,B,T,U,d⟩:=t
 have g:=I.ok.frames
 have c:=d
 rw[ys]at g c
 refine U9 g yf c λh4 a4 o=>Pt (s:={s' with heap:=h4}) a4 λh5 a5 p=>?_
 rw[<- ys]at a5
 have up:=o.trans p
 obtain⟨_,sm5,I5⟩:=Vc I os O sm u T U d a5 up
 obtain⟨oe,vs,e1,e2,e3,_⟩:=id a5.rcd
 have LT:Looks (Ag Y.prog Y.w) h5 (typeOf (.ref x)) (.ref D):=λA' Q' E' s' kk q=>by
  unfold typeOf;exact Aj (wpAny_loadPart (kk _ _ e1) (AC (by rw[e2];exact q)))
 refine wpAny_handleBy_cons (codeAny_handlers_test ?_) (by intro q;cases q)
 refine IG (X:=Y.hand x) (I5.hand x) hg hm ?_ hd
 refine(exm_one (K:=Y.K) I5.kIn LT hx).here ?_
 refine codeAny_handlers_suite_as (Pt (s:={s' with heap:=h5}) a5 λh6 a6 r=>?_)
 obtain⟨y,C,I6⟩:=Vc (s':=s') I os O sm u T U d a6 (up.trans r)
 refine NU (X:=Y.hand x) (I6.hand x) hN hi (.inl l) (v:=.ref x) rfl (λs7 I7=>?_) (.inr l)
 refine DQ (k x _ s7 (e.free y) (e.trans C) I7 ZP) (λf s8 hf=>?_) λ_ _ z=>z.elim
 obtain⟨uu,vv,b,H8,rfl,I8,rv,q⟩:=hf
 obtain⟨m8,n8,_⟩:=id I8.loc
 refine wpAny_nameGoes l n8 (by rw[I.ok.kind];rfl) λh9 m9 n9 J=>?_
 exact fin uu vv _ H8 _ ((I8.back I.ok).gone n9 J) rv q
end
def Et(Y:Cx)(a:List (Ad×AJ))(σ:St)(H:Hp)(c:Af)(e:Aa)(s':Ac):Prop:=∃D,nsIn Y.K BD c=some (some (.ref D))/\Ip Y a σ H D e s'
def KY(Y:Cx):Prop:=∀e s,¬ Y.xe e s
theorem Et.from{Y:Cx}{a:List (Ad×AJ)}{σ:St}{H b:Hp}{c:Af}{v:Aa}{s':Ac}(sm:Ak H b)(t:Et Y a σ b c v s'):Et Y a σ H c v s':=by
 obtain⟨D,e,t⟩:=t
 exact⟨D,e,t.from sm⟩
structure XE(Y:Cx)(K:AV)(M:Fb)(H0:Hp)(e:Expr)(h:VE->Option Af):Prop where
 h:∀pins s σ H ρ c,Inv Y pins σ H s->A3 K M H0 ρ σ H->h ρ=some c->wpAny (Ag Y.prog Y.w) Y.A (Ar e Y.env) (λ_ _=>False) (Et Y pins σ H c) s
structure XT(Y:Cx)(K:AV)(M:Fb)(H0:Hp)(st:As)(h:VE->Option Af):Prop where
 h:∀pins s σ H ρ c,Inv Y pins σ H s->A3 K M H0 ρ σ H->h ρ=some c->wpAny (Ag Y.prog Y.w) Y.A (exec st Y.env) (λ_ _=>False) (Et Y pins σ H c) s
structure XS(Y:Cx)(K:AV)(M:Fb)(H0:Hp)(st:As)(h:VE->Option Af):Prop where
 h:∀pins s σ H ρ c,Inv Y pins σ H s->A3 K M H0 ρ σ H->h ρ=some c->wpAny (Ag Y.prog Y.w) Y.A (exec st Y.env) (λ_ _=>False) (λe s'=>∃σ' H1,Ak H0 H1/\Et Y pins σ' H1 c e s') s
structure XB(Y:Cx)(K:AV)(M:Fb)(H0:Hp)(b:List As)(h:VE->Option Af):Prop where
 h:∀pins s σ H ρ c,Inv Y pins σ H s->A3 K M H0 ρ σ H->h ρ=some c->wpAny (Ag Y.prog Y.w) Y.A (execs b Y.env) (λ_ _=>False) (λe s'=>∃σ' H1,Ak H0 H1/\Et Y pins σ' H1 c e s') s
section
variable{Y:Cx}{K:AV}{M:Fb}{H0:Hp}{e:Expr}{es:List Expr}{st:As}{Ay a b:List As}{h h1 h2:VE->Option Af}{g:VE->An}{pos p np cpos:AT}{fa:VE->Option (List Sl)}{x:Af}
theorem XT.s(z:XT Y K M H0 st h):XS Y K M H0 st h:=⟨λa s b H d c I R q=>DQ (z.h a s b H d c I R q) (λ_ _ z=>z) λ_ _ z=>⟨b,H,R.same,z⟩⟩
theorem gl{a:AT}(z:XE Y K M H0 e h)(d:Dp e (some (.Name x a)) pos.line Y.env=AB false:=by rfl):XT Y K M H0 (.Assign [.Name x a] e pos) h:=
 ⟨λb s f H g c I R q=>wpAny_Assign_Name (DQ (z.h b s f H g c I R q) (λ_ _ z=>z.elim) λ_ _ z=>z) d⟩
theorem Vd(z:XS Y K M H0 st h):XB Y K M H0 (st::Ay) h:=⟨λa s b H d c I R q=>wpAny_execs_cons (DQ (z.h a s b H d c I R q) (λ_ _ z=>z.elim) λ_ _ z=>z)⟩
@[simp] def mG(r:An)(h:VE->Option Af):Option Af:=match r with
  |.next a=>h a
  |_=>none
@[simp] def mH(o:Option Af)(r:Option Af):Option Af:=match o with
  |some c=>some c
  |none=>r
@[simp] def Mw(t:Option Bool)(a b:Option Af):Option Af:=match t with
  |some true=>a
  |some false=>b
  |none=>none
theorem gm{c:Expr}{t:VE->Option Bool}(nx:KY Y)(p:JT Y c (Bx K M H0 t))(r:XB Y K M H0 a h1)(u:XB Y K M H0 b h2):XS Y K M H0 (.If c a b pos) (λρ=>Mw (t ρ) (h1 ρ) (h2 ρ)):=⟨λf s g H ρ n I R q=>by
 cases i:t ρ with
 |none=>rw[i]at q;cases q
 |some k=>
  rw[i]at q
  refine wpAny_If (DQ (p.h f s g H (λv j=>v=k/\Ak H j) I ⟨ρ,k,R,i,λj sm=>⟨rfl,sm⟩⟩) (λd l ⟨m,o,w,sm⟩=>?_) λe x z=>(nx e x z).elim)
  subst w
  cases d with
  |true=>exact r.h f l g m ρ n o (R.st sm) q
  |false=>exact u.h f l g m ρ n o (R.st sm) q⟩
def KZ(K:AV)(F:List Sl->Option Af):Sp:=λe H Q E=>∃N b c,(∀a,N a->H a≠none)/\AW K N H b e/\F b=some c/\∀D d,nsIn K BD c=some (some (.ref D))->Ak H d->E (.ref D) none d
def fnX(np n:Nat)(h:VE->Option Af):List Sl->Option Af:=λa=>if a.length=np then h (a++BZ (n-np) .no)else none
structure Pw(K:AV)(D:Ad):Prop where
 ex:∃nm q N bs bm hdct sn sub ab col dd k0 k1 k2 k3 k5,K.lookup D=some (excClassObj nm q D N bs bm hdct sn sub ab col dd k0 k1 k2 k3 k5 "ValueError.__new__")/\tailIn K [.type "ValueError",.type "Exception",.type "BaseException",.type "object"] bm=true/\nsOkIn K N=true/\nsIn K N "__init__"=some none
@[simp] def Px(o:Option (List Sl))(x:Af):Option Af:=match o with
  |some [_]=>some x
  |_=>none
theorem gn{D:Ad}(nx:KY Y)(Q:Y.K=K)(T:Y.calm=true)(U:Pw K D)(hn:nsIn K BD x=some (some (.ref D)))(hg:Gl Y x)(hm:Y.mg x=some (.ref D))(ha:JA Y (e::es) (CC K M H0 fa))
  (i:(x==("__debug__":Af))=false:=by decide) (j:AO (e::es) Y.env=(false,Ar e Y.env)::AO es Y.env:=by exact Df (λ_ _ z=>nomatch z)) (k:(AG cpos (AO es Y.env)).any (·.1)=false:=by rfl):
  XT Y K M H0 (.Raise (some (.Call (.Name x np) (e::es) [] cpos)) none pos) (λρ=>Px (fa ρ) x):=⟨λb s o H ρ c I R q=>by
 subst Q
 cases l:fa ρ with
 |none=>rw[l]at q;cases q
 |some p=>
  rw[l]at q
  obtain⟨s0,rfl⟩:∃s0,p=[s0]:=by
   cases p with
   |nil=>cases q
   |cons s0 r=>cases r with
    |nil=>exact⟨s0,rfl⟩
    |cons _ _=>cases q
  cases q
  obtain⟨t,qn,N,bs,bm,a,u,sub,w,d,y,A,B,C,E,G,l1,J,L,l4⟩:=U.ex
  have F:=PySem.F.excBase_ValueError
  refine wpAny_Raise_call_subU (mN:=Y.base.nsMap N) (nm:=t) (q:=qn) (N:=N) (bs:=bs) (hdct:=a) (sn:=u) (sub:=sub) (ab:=w) (col:=d) (dd:=y) (k0:=A) (k1:=B) (k2:=C) (k3:=E) (k5:=G) F F.hasB F ((tail_of_in I.kIn J).hasType F.hasBase) (I.ok.hd T) (by rw[j];exact k) (nsMap_none_of_in I.ok.mod.kin L l4) (IG I hg hm ⟨rfl,?_⟩ i)
  rw[j]
  refine Calls.evalArgs_plain (DQ (j ▸ ha.h cpos b s o H (λn f=>Ak H f/\AW Y.K (Nf M ρ o) f [s0] n) I ⟨ρ,[s0],R,l,λn f sm h1=>⟨sm,h1⟩⟩) (λO s1 ⟨n,f,g,r,sm,h1⟩=>?_) λe s' z=>(nx e s' z).elim)
  have ul:O.length=1:=by rw[<- r.length,<- h1.length];rfl
  refine⟨rfl,?_,g.kIn _ _ l1,?_,tail_of_in g.kIn J,λh' v m=>⟨D,hn,(gh g m).from sm⟩⟩
  ·show O.length<=Av
   rw[ul];exact IF (cv (by decide))
  ·exact(Heap.Ns.of_isNs (isNs_of_in I.ok.mod.kin L)).keeps g.bk⟩
theorem gp{P:AS}{w:Ai}{mg:Af->Option Aa}{base:Al}{x a:Af}{st:As}{f:Ad}{fd:A5}{N ps:List Af}{k:Nat}{h:VE->Option Af}(F:Gr K x a st f fd)(S:Zx N ps (Zi st))(y:ps.length<=N.length)
  (B:∀(b:Aa) (A:Ah) (outer:List Env) (s:Ac) (H:Hp) (E:XK) (M:Fb) (H0:Hp),AR k (A.deeper (Bt a (Zi st) s.heap.objs.size f b)) ->
   XB (Ey A6 P w K mg base N a (Zi st) f b A outer s H E).nox K M H0 (DE st) h):Aw P w K mg base (Mv P w) (k+1) f fd ps (KZ K (fnX ps.length N.length h)):=by
 obtain⟨oc,od,kV,C,pm,an,b,ct,G,rfl,J,l⟩:=F.ex
 have len:∀e H Q E,KZ K (fnX ps.length N.length h) e H Q E->e.length=ps.length:=λe H Q E z=>by
  obtain⟨m,r,c,u,j,d,q⟩:=z
  unfold fnX at d
  split at d
  ·next n=>rw[<- j.length];exact n
  ·cases d
 refine Sv J l S len λA outer s H e Q E L z=>?_
 obtain⟨m,r,c,u,j,d,q⟩:=z
 unfold fnX at d
 split at d
 ·next n=>
  have O:Z7 N e=e.map some++BZ (N.length-ps.length) none:=by unfold Z7;rw[<- j.length,n]
  refine⟨λD o g=>D={nx:=λ_ p=>Q .non p,rt:=Q}/\g=H/\A3 K m H (r++BZ (N.length-ps.length) .no) o H,λi T o g D I U=>?_,rfl,rfl,by rw[O];exact OT u j _⟩
  obtain⟨_,rfl,R⟩:=U
  refine DQ ((B b A outer s g E m g L).h i T o g _ c (I.wish _) R d) (λ_ _ z=>z.elim) λv s'' z=>?_
  obtain⟨σ',H2,sm,D',e1,t⟩:=z
  exact gi (Y:=(Ey A6 P w K mg base N a (Zi st) f b A outer s g E).nox) rfl rfl rfl sm t λp e2=>q D' p e1 e2
 ·cases d
theorem A3.more{ρ:VE}{σ:St}{H:Hp}{y C:Ad}(R:A3 K M H0 ρ σ H)(g:H y=some (.ext (De y C))):A3 K M (AK H0 y (.ext (De y C))) ρ σ H where
 len:=R.len
 same:=λb o z=>by
  by_cases e:b=y
  ·rw[e,ZP]at z;rw[e,g,z]
  ·rw[Zq e]at z;exact R.same b o z
 mh:=R.mh
 slot:=λj h z=>by
  have q:=R.slot j h z
  cases h with
  |no=>trivial
  |val d=>exact q
  |lent l i=>
   obtain⟨c,m,a,h1,h2⟩:=q
   refine⟨c,m,a,⟨h1.1,λz=>h1.2 ?_⟩,h2⟩
   by_cases k:c=y
   ·rw[k,ZP]at z;cases z
   ·rw[Zq k]at z;exact z
  |exc c=>exact q
  |pin c=>exact q
  |deep r s=>exact q
  |own l i=>
   obtain⟨b,n,a,h1,h2,f,p⟩:=q
   refine⟨b,n,a,?_,h2,f,p⟩
   rw[Zq (λe=>by rw[e,g]at f;cases i<;>cases f)];exact h1
 inj:=R.inj
@[simp] def Ve:An->An
  |.ret r=>.ret r
  |_=>.fail
@[simp] def K0(a:List Af)(i:Nat)(o:Option Af)(r:An)(g:VE->An)(ρ:VE):An:=match o with
  |none=>r
  |some c=>if a.contains c=true then Ve (g (ρ.set i (.exc c)))else .fail
theorem gq{O:VE->An}{Q:VE->Option Af}{G:Ad}{E n:Af}{b0:As}{l:List As}{hp:AT}(i:Nat)(cs:List Af)(nx:KY Y)(hK:Y.K=K)(ys:Y.stack=Y.env::Y.outer)(yf:Y.env.frame=some Y.env.locals)(zx:XT Y K M H0 st Q)(zb:JS Y st (tS K M H0 g))
  (hm:Y.mg E=some (.ref G)) (hg:Gl Y E) (hc:∀c D,cs.contains c=true->nsIn K BD c=some (some (.ref D))->exmOne K (.ref D) (.ref G)=some true) (hN:Y.N.Nodup) (hi:Y.N[i]?=some n) (hl:Y.env.scope.names.lookup n=some .local)
  (zs:∀(x:Ad) (H1:Hp),(∃C,H1 x=some (.ext (De x C)))->JB (Y.hand x) (b0::l) (tS K M H1 O)) (hd:(E==("__debug__":Af))=false:=by decide):
  JS Y (.Try [st] [.ExceptHandler (some (.Name E np)) (some n) (b0::l) hp] [] [] pos) (tS K M H0 λρ=>K0 cs i (Q ρ) (g ρ) O ρ):=⟨λm s y H D I ⟨ρ,R,q⟩=>by
 subst hK
 try dsimp only at q
 cases T:Q ρ with
 |none=>
  rw[T]at q
  refine wpAny_Try_except (wpAny_execs_cons (DQ (zb.h m s y H D I ⟨ρ,R,q⟩) (λf J z=>?_) λe U z=>(nx e U z).elim))
  cases f with
  |next=>exact wpAny_execs_nil (wpAny_execs_nil z)
  |ret v=>exact z
  |brk=>exact z
  |cont=>exact z
 |some c=>
  rw[T]at q
  simp only[K0]at q
  split at q
  ·next hcc=>
   refine wpAny_Try_except (wpAny_execs_cons (DQ (zx.h m s y H ρ c I R T) (λf J z=>z.elim) λv J z=>?_))
   obtain⟨D',L,t⟩:=z
   cases k:O (ρ.set i (.exc c))with
   |ret r=>
    rw[k]at q
    refine gj (Q':=D.rt) ys yf t hm hg (hc c D' hcc L) hN hi hl (λx H3 s3 hx0 sm I3 A=>?_) (λu vv p B s5 I5 w qq=>⟨vv,p,B,I5,w,qq⟩) hd
    have S:Step M (Nf M ρ y) (Nf M (ρ.set i (.exc c)) (y.set i (some (.ref x)))) H H3:=⟨λa o e _=>sm a o e,λb hb=>by
     rcases Je R.len hb with q|⟨xs,_,e,_⟩
     ·exact .inl q
     ·cases e⟩
    have R3:A3 Y.K M H0 (ρ.set i (.exc c)) (y.set i (some (.ref x))) H3:=R.put S (R.same.trans sm) (λj a vs xs fl _ _ _ e=>sm _ _ e) (λ_=>⟨x,D',rfl,L,A⟩) (λxs fl a j ys fl' e=>nomatch e)
    have n0:=R.same.free hx0
    refine DQ ((zs x _ ⟨D',ZP⟩).h m s3 _ H3 {nx:=λ_ _=>False,rt:=D.rt} I3 ⟨_,R3.more A,?_⟩) (λf s4 z=>?_) λe U z=>(nx e U z).elim
    ·rw[k]
     refine λv B J w=>q v B (λb o z=>J b o (by rw[Zq (Z4 z n0)];exact z)) ?_
     cases r with
     |val d=>exact w
     |own xs fl=>
      obtain⟨b,vs,L,z1,z2⟩:=w
      refine⟨b,vs,L,?_,z2⟩
      by_cases e:b=x
      ·rw[e];exact n0
      ·rw[Zq e]at z1;exact z1
    ·cases f with
     |ret u=>obtain⟨vv,p,B,I',w,qq⟩:=z;exact⟨u,vv,p,B,rfl,I',w,qq⟩
     |next=>obtain⟨_,_,_,z⟩:=z;exact z.elim
     |brk=>obtain⟨_,_,_,z⟩:=z;exact z.elim
     |cont=>obtain⟨_,_,_,z⟩:=z;exact z.elim
   |next _=>rw[k]at q;exact q.elim
   |fail=>rw[k]at q;exact q.elim
   |brk _=>rw[k]at q;exact q.elim
   |cont _=>rw[k]at q;exact q.elim
  ·exact q.elim⟩
end
section
variable{prog:AS}{w:Ai}{A:Ah}{E:Aa->Ac->Prop}{s:Ac}{x C:Ad}
theorem De.at{h h':Al}(p:De x C h)(k:∀o,h.get? x=some o->h'.get? x=some o):De x C h':=let⟨o,a,b,r⟩:=p;⟨o,a,k o b,r⟩
end
section
variable{Y:Cx}{K:AV}{M:Fb}{H0:Hp}{x:Ad}
def gs(K:AV):List V->Hp->VK->Prop:=λe H Q=>∃a C d c b,e=[.ref a,d]/\(∀u,RelV d u->u=c)/\H a=some (.ext (De a C))/\Dv K C/\kitOne K (.ref C) c=some b/\Q (.bl b) H
theorem gt:A8 Y (.builtin "isinstance") (gs Y.K):=by
 intro d s k H l m Q I r h
 obtain⟨a,C,n,c,b,rfl,f,g,F,e,q⟩:=h
 obtain⟨u,v,rfl,i,j⟩:=Ke r
 cases i
 cases f v j
 exact kia_one (ge F) I.kIn (show AZ Y.prog Y.w H s.heap a (.ext (De a C))from I.hok a _ g).1 e (λz=>nomatch z) λo=>⟨.bl b,H,I.tok _,rfl,q⟩
@[simp] def Fe(i:Nat)(a:List Af)(f:Af->Bool)(ρ:VE):Option D:=match ρ[i]? with
  |some (.exc c)=>if a.contains c=true then some (.bl (f c))else none
  |_=>none
theorem GK{b:Expr}{e:V}{g:Aa}{n m:Af}{j p pos:AT}(i:Nat)(v:List Af)(f:Af->Bool)(x:Y.K=K)(y:Y.N[i]?=some n)(k:C0 Y.env.scope n)(A:PE Y b (tC e))(B:∀u,RelV e u->u=g)
  (E:∀c C,v.contains c=true->nsIn K BD c=some (some (.ref C))->Dv K C/\kitOne K (.ref C) g=some (f c)) (G:Gl Y m) (I:Y.mg m=none) (J:Eg m=some (.builtin "isinstance"))
  (L:m≠"__name__":=by decide) (l:(m==("__debug__":Af))=false:=by decide) (hd:(n==("__debug__":Af))=false:=by decide) (o:(n==("__classdict__":Af))=false:=by decide)
  (w:AO [.Name n j,b] Y.env=(false,Ar (.Name n j) Y.env)::AO [b] Y.env:=by exact Df (λ_ _ z=>nomatch z)) (r:AO [b] Y.env=(false,Ar b Y.env)::AO [] Y.env:=by exact Df (λ_ _ z=>nomatch z)) (s:(AG pos (AO [b] Y.env)).any (·.1)=false:=by rfl):
  JE Y (.Call (.Name m p) [.Name n j,b] [] pos) (tD K M H0 (Fe i v f)):=⟨(Sw gt G I J (E5 (Ex y k hd o) (E5 A BM r) w) L l w s).mono λσ H Q h=>by
 subst x
 obtain⟨ρ,d,R,z,q⟩:=h
 unfold Fe at z
 split at z
 ·next c O=>
  split at z
  ·next t=>
   cases z
   obtain⟨a,C,T,U,e3⟩:=R.slot i _ O
   obtain⟨F,kk⟩:=E c C t U
   exact⟨.ref a,AN T,a,C,e,g,f c,rfl,B,e3,F,kk,q _ H (Ak.refl H) (by simp only[Aq])⟩
  ·cases z
 ·cases z⟩
end
theorem Mx{X:Cx}:KY X.nox:=λ_ _ z=>z
abbrev gu:List Aa:=[.type "ValueError",.type "Exception",.type "BaseException",.type "object"]
def ZY(t c:Af):Bool:=c==t||t=="CubeError"||t=="ValueError"
section
variable{K:AV}{C D G:Ad}{b:Bool}{cd:ClassData}
theorem mk_of{nm q:Af}{N:Ad}{bs a:List Aa}{hdct:Bool}{sn:List Af}{sub:List Aa}{ab:Bool}{col:Option Bool}{dd:Option Ad}{k0 k1 k2 k3 k5:Option Aa}
  (l:K.lookup D=some (excClassObj nm q D N bs a hdct sn sub ab col dd k0 k1 k2 k3 k5 "ValueError.__new__")) (e:excIn K D gu "ValueError.__new__"=true):Pw K D:=by
 unfold excIn at e
 rw[l]at e
 simp only[C5,beq_iff_eq,Bool.not_eq_true']at e
 exact⟨nm,q,N,bs,a,hdct,sn,sub,ab,col,dd,k0,k1,k2,k3,k5,l,e.1.1.2,e.1.2,e.2⟩
theorem Vf{t:Aa}(z:clsIn K G=some cd)(y:typeIn K (.ref G)=some (.type "type"))(s:subIn K t (.ref G)=some b):kitCls K t (.ref G)=some b:=by
 unfold kitCls
 dsimp only
 rw[if_pos (by rw[z,y];rfl)];exact s
theorem kit_ne(ne:(Bv C==Bv G)=false)(z:clsIn K G=some cd)(y:typeIn K (.ref G)=some (.type "type"))(s:subIn K (.ref C) (.ref G)=some b):kitOne K (.ref C) (.ref G)=some b:=by
 unfold kitOne
 rw[if_neg (λq=>by rw[ne]at q;cases q)];exact Vf z y s
theorem kit_self:kitOne K (.ref C) (.ref C)=some true:=by
 unfold kitOne
 rw[if_pos (beq_self_eq_true _)]
theorem kit_V(s:subIn K (.ref C) (.type "ValueError")=some b):kitOne K (.ref C) (.type "ValueError")=some b:=by
 unfold kitOne
 rw[if_neg (λq=>by cases(show(Bv C=GY "ValueError")from beq_iff_eq.mp q))]
 unfold kitCls
 dsimp only
 rw[if_pos (by decide +kernel)];exact s
theorem exm_of(x:subIn K (.ref G) (.type "BaseException")=some true)(z:clsIn K G=some cd)(y:typeIn K (.ref G)=some (.type "type"))(s:subIn K (.ref C) (.ref G)=some true):exmOne K (.ref C) (.ref G)=some true:=by
 unfold exmOne
 rw[if_pos (by rw[x];rfl)];exact Vf z y s
end
section
variable{Y:Cx}{K:AV}{M:Fb}{H0:Hp}{b:List As}{h h':VE->Option Af}
theorem gv(z:XB Y K M H0 b h)(e:h=h'):XB Y K M H0 b h':=e ▸ z
theorem gw:XB Y K M H0 b (λ_=>none):=⟨λ_ _ _ _ _ _ _ _ q=>nomatch q⟩
end
end L2
namespace L2
open PySem PySem.Spec PyProof.Rows
section
variable{X:Cx}{K:Ap}{M:Fb}{H0:Hp}{pos:AT}{st:As}
@[simp] def mI(i:Nat)(ρ:VE):An:=match C7 ρ i with
  |some _=>.next (ρ.set i (.own []))
  |_=>.fail
@[simp] def My(c:Bool)(a b:An):An:=if c=true then a else b
def gx:D->D->Option D
 |.bl i,.bl j=>some (.bl (!decide (i=j)))
 |_,_=>none
@[simp] theorem mJ(i j:Bool):gx (.bl i) (.bl j)=some (.bl (!decide (i=j))):=rfl
@[simp] def mK(i:Nat)(ρ:VE):Bool:=match ρ[i]? with
  |some (.own _ false)=>true
  |_=>false
end
def Py(i j:Int):Prop:=0<j/\j<2^100
instance (i j:Int):Decidable (Py i j):=by unfold Py;exact inferInstance
section
variable{X:Cx}{K:Ap}{M:Fb}{H0:Hp}{a b:Expr}{f g:VE->Option D}{pos:AT}
@[simp] def mL:D->D->Option D:=i2 λi j=>if Py i j then some (.int (i/j))else none
end
section
variable{X:Cx}
variable{K:Ap}{M:Fb}{H0:Hp}{ek ev:Expr}{fk fv:VE->Option D}{pos:AT}
end
section
variable{prog:AS}{w:Ai}{A:Ah}{E:Aa->Ac->Prop}{s:Ac}
variable{z tin tout ia ib ic:Ad}{fa fb fc:List Ad}{n m l k:Nat}{isA isB isC:Nat->Aa->Prop}{sa sb sc:Nat->Al->Prop}{a b c:Aa}
end
section
variable{prog:AS}{w:Ai}{A:Ah}{E:Aa->Ac->Prop}{s:Ac}
end
@[simp] def mM(f g k:VE->Option D):VE->Option (List D):=λa=>match(f a).bind Fw,(g a).bind Fw,(k a).bind Fw with
  |some b,some c,some d=>some (List.zipWith (λx y=>D.tup [x,y.1,y.2]) b (c.zip d))
  |_,_,_=>none
section
variable{X:Cx}{M:Fb}{H0:Hp}{f g k:VE->Option D}{a b c:Expr}{elts:List Expr}{p pos tpos:AT}
end
end L2
namespace L2
open PySem PySem.Spec PyProof.Rows PySem.W
def Db(h:Al)(d:Ad)(es:Array Bi)(ep:Nat):Prop:=∃o,h.get? d=some o/\o.ExactDict/\o.data=.dict es ep
section
variable{prog:AS}{w:Ai}{A:Ah}{E:Aa->Ac->Prop}{s:Ac}{d it:Ad}{es:Array Bi}{ep i:Nat}
theorem Db.type(x:Db s.heap d es ep):s.TypeIs (.ref d) "dict":=by
 obtain⟨o,a,b,_⟩:=x
 exact⟨o,a,b.1⟩
theorem Db.at{h h':Al}(x:Db h d es ep)(k:∀o,h.get? d=some o->h'.get? d=some o):Db h' d es ep:=by
 obtain⟨o,a,b⟩:=x
 exact⟨o,k o a,b⟩
theorem gy{Q:Aa->Ac->Prop}(hd:(d==EY)=false)(a:Db s.heap d es ep)
  (e:Q (.ref s.heap.objs.size) {s with heap:=s.heap.push {cls:=.type "dict_keyiterator",data:=.fields #[.ref d,.int 0 0,.int es.size 0,.int ep 0]} }):wpAny (Ag prog w) A (pyIter (.ref d)) Q E s:=by
 have ty:=a.type
 obtain⟨o,b,f,c⟩:=a
 refine wpAny_pyIter_slot ty PySem.F.slot_dict_iter (E7 PySem.F.slot_dict_iter ty PySem.F.entry_dict_iter ?_ (PySem.F.args_dict_iter_1 _))
 unfold En.«dict.__iter__» Builtin.Dict.dictSlotNone
 refine Aj (Aj (wpAny_notOrdered_dict ty ?_))
 refine(AC ?_:wpAny _ _ (AB (Bv d)) _ _ s)
 show wpAny _ _ (Builtin.Dict.showsAll d >>= _) _ _ s
 unfold Builtin.Dict.showsAll
 rw[if_neg (by rw[hd];exact Gd)]
 refine Aj (AC (Aj (wpAny_dictEntries b c (Aj (wpAny_dictEpoch b c ?_)))))
 refine Aj (Fk (AC ⟨_,rfl,"dict_keyiterator",_,⟨_,BY _ rfl,rfl⟩,PySem.F.slot_dict_keyiterator_next.lookup,?_⟩))
 simpa[AI]using e
theorem gz{Q:Option Aa->Ac->Prop}(c:s.heap.IsKeyIter it d i es.size ep)(j:Db s.heap d es ep)(k:i<es.size)
  (l:∀h',h'.IsKeyIter it d (i+1) es.size ep->C3 it s.heap h'->Q (some es[i].key) {s with heap:=h' }):wpAny (Ag prog w) A (Bq (.ref it)) Q E s:=by
 have ty:=c.typeIs
 obtain⟨p,b,m,a⟩:=c
 obtain⟨o,e,n,f⟩:=j
 unfold Bq
 refine Aj (Jp (Gk (name:=FP "__next__") ty Pz (E7 Pz ty gA ?_ (gB _))))
 refine Aj (AC (Aj (Aj ?_)))
 first|refine Aj (PB ty (AC ?_))|refine Aj (PF ty (AC ?_))
 refine Aj (wpAny_fieldsOf b a ?_)
 simp only[show Builtin.Dict_items.ownsTuple "dict_keyiterator"=false by decide,DF,if_false]
 show wpAny _ _ (if(Bv d==DC)=true then _ else _) _ _ s
 rw[if_neg (show ¬ ((Bv d==DC)=true)from λz=>Gd z)]
 refine Aj (AC (Aj (wpAny_dictEntries e f ?_)))
 rw[if_neg (by simp)]
 refine Aj (AC (Aj (wpAny_dictEpoch e f ?_)))
 rw[if_neg (by simp)]
 refine AC ?_
 simp only[show ¬ ((i:Int)<0)from by omega,if_false,Hk,Jn k]
 refine Aj ?_
 first|refine Aj (PB ty (AC ?_))|refine Aj (PF ty (AC ?_))
 refine Aj (wpAny_isOneOf_keyiter ty ?_)
 show wpAny _ _ (setField (.ref it) 1 (AI ((i:Int)+1)) >>= _) _ _ s
 refine Aj (Ky b a (by simp) ?_)
 have h:(s.heap.update it (Obj.mapFields (·.setIfInBounds 1 (AI ((i:Int)+1))))).IsKeyIter it d (i+1) es.size ep:=⟨_,Kf _ b (Pa (Jm a _)),(Obj.cls_mapFields ..).trans m,by rw[Jm a];simp[AI]⟩
 refine Aj (DR (Aj (wpAny_isOneOf_keyiter (s:={s with heap:=s.heap.update it (Obj.mapFields (·.setIfInBounds 1 (AI ((i:Int)+1))))}) h.typeIs ?_)))
 exact AC (AC ⟨_,rfl,AC (l _ h (Jl ..))⟩)
theorem gC{Q:Option Aa->Ac->Prop}(k:A.handled=none)(c:s.heap.IsKeyIter it d i es.size ep)(l:Db s.heap d es ep)(n:es.size<=i)
  (q:∀h',Heap.ExtBut it s.heap h'->Q none {s with heap:=h' }):wpAny (Ag prog w) A (Bq (.ref it)) Q E s:=by
 have ty:=c.typeIs
 obtain⟨p,e,r,f⟩:=c
 obtain⟨o,g,t,h⟩:=l
 unfold Bq
 refine Aj (Jp (Gk (name:=FP "__next__") ty Pz (E7 Pz ty gA ?_ (gB _))))
 refine Aj (AC (Aj (Aj ?_)))
 first|refine Aj (PB ty (AC ?_))|refine Aj (PF ty (AC ?_))
 refine Aj (wpAny_fieldsOf e f ?_)
 simp only[show Builtin.Dict_items.ownsTuple "dict_keyiterator"=false by decide,DF,if_false]
 show wpAny _ _ (if(Bv d==DC)=true then _ else _) _ _ s
 rw[if_neg (show ¬ ((Bv d==DC)=true)from λz=>Gd z)]
 refine Aj (AC (Aj (wpAny_dictEntries g h ?_)))
 rw[if_neg (by simp)]
 refine Aj (AC (Aj (wpAny_dictEpoch g h ?_)))
 rw[if_neg (by simp)]
 refine AC ?_
 simp only[show ¬ ((i:Int)<0)from by omega,if_false,Hk,Array.getElem?_eq_none n]
 refine Aj ?_
 first|refine Aj (PB ty (AC ?_))|refine Aj (PF ty (AC ?_))
 show wpAny _ _ (setField (.ref it) 0 .none >>= _) _ _ s
 refine Aj (Ky e f (by simp) ?_)
 show wpAny _ _ (newExc (.type "StopIteration") [] >>= _) _ _ _
 refine Aj ?_
 simp only[newExc,newTuple]
 refine Aj (Fk ?_ (by size_fits))
 refine Aj (m:=firstArgMember _ _) (wpAny_of_eq (a:=DC) (by first|rfl|(simp only[firstArgMember];rfl)) ?_)
 refine Fk ?_ (by size_fits)
 simp only[raiseNew]
 refine Aj (wpAny_handled ?_)
 rw[show A.in1.handled=none from k]
 refine Aj (AC (wpAny_throw ?_))
 refine Aj (wpAny_isInstance (T:="StopIteration") (b:=true) ⟨_,BY _ rfl,rfl⟩ isSubtype_stop ?_)
 exact AC (q _ ((Heap.ExtBut.push (Heap.SameBut.extBut (Jl ..)) _).push _))
theorem gD(n:A.handled=none)(I:Ad)(f:d≠I):Walks prog w A I [I,d] [I] es.size (λi v=>∃e,es[i]?=some e/\v=e.key) (λi h=>h.IsKeyIter I d i es.size ep/\Db h d es ep) where
 sub:=λb a=>by simp at a;simp[a]
 frame:=λ_ _ _ st k=>⟨st.1.at λo e=>k I (by simp) o e,st.2.at λo e=>k d (by simp) o e⟩
 item:=λi s Q E l st c=>gz st.1 st.2 l λg p m=>c _ g s.toks ⟨es[i],Jn l,rfl⟩ ⟨p,st.2.at λo e=>m.extBut _ _ f e⟩ λb o a e=>m.extBut b o (λh=>a (by simp[h])) e
 done:=λs Q E st c=>gC n st.1 st.2 (Bf _) λg j=>c g s.toks λb o a e=>j b o (λh=>a (by simp[h])) e
 self:=λ_ _ _ _ st c=>wpAny_pyIter_keyiter st.1 c
theorem Vg(lo:(d==EY)=false):KdlSrc prog w "dict" d d es.size (λi v=>∃e,es[i]?=some e/\v=e.key) (λh=>Db h d es ep) where
 type:=λ_ a=>a.type
 there:=λ_ a=>by obtain⟨o,b,_⟩:=a;exact⟨Be b,Be b⟩
 keep:=λ_ _ a f=>a.at λo e=>f d (.inl rfl) o e
 notList:=by decide
 notTuple:=by decide
 hint:=λ_ _ _ _ a c=>kdl_hint_dict a.type c
 iter:=λ_ s g a=>⟨_,_,(λ_ _ c=>gy lo a c),gD g _ (by obtain⟨o,b,_⟩:=a;exact BS (Be b)),⟨⟨_,BY _ rfl,rfl,rfl⟩,a.at λo e=>Bk _ e⟩⟩
end
theorem Vh{w:Ai}:∀{a:List T3}{es:List Bi},Hz w (a.map (·.1)) (Di a) es->Am (a.map λt=>t.2.1) (es.map λe=>e.key):=by
 intro a
 induction a with
 |nil=>
  intro es h
  obtain⟨_,e⟩:=h
  subst e
  exact .nil
 |cons t r c=>
  intro es h
  obtain⟨l,v,m,e,n,b,d,f,_,_,_,g⟩:=h
  simp only[Di,Kx]at b
  obtain⟨i,j,k⟩:=b
  subst d i j k
  exact .cons f (c g)
section
variable{X:Cx}
theorem Vi{es:Array Bi}{a:Array Aa}(h:ItemsOf (λi v=>∃e,es[i]?=some e/\v=e.key) a es.size):a.toList=es.toList.map λe=>e.key:=by
 refine HS λi=>?_
 rw[Ov,D8,Ov]
 cases b:a[i]? with
 |some v=>
  obtain⟨e,c,d⟩:=h.2 i v b
  rw[c,d];rfl
 |none=>
  have f:a.size<=i:=Array.getElem?_eq_none_iff.mp b
  have g:es[i]?=none:=Array.getElem?_eq_none_iff.mpr (by rw[<- h.1];exact f)
  rw[g];rfl
theorem gE(k:X.calm=true):A8 X (.type "list") (λxs H Q=>∃a b,xs=[.ref a]/\Cc X.K H a b/\∀l,H l=none->Q (.ref l) (AK H l (.lst (b.map λt=>t.2.1)))):=by
 intro f s L H xs M Q I r h
 obtain⟨a,b,rfl,hd,q⟩:=h
 obtain⟨u,rfl,m⟩:=D6 r
 cases m
 obtain⟨z,n,nd,o,e,g,p,v,x,y⟩:=hd.1.ok I.hok
 have i:=Vh y
 have A:b.length=e.size:=by have:=i.length;simpa using this
 have j:b.length<=Av:=by simpa using z
 refine kdl_call (Vg (es:=e) (ep:=g) n) (I.ok.hd k) ⟨o,p,v,x⟩ (by rw[<- A];exact j) λB C c E kp G J=>?_
 have d:=Vi J
 refine⟨.ref s.heap.objs.size,_,I.laid (t':=C) kp (Bf _) (show AZ X.prog X.w _ B _ (.lst (b.map λt=>t.2.1))from⟨by simpa using j,c.toList,E,by rw[d];exact i,by simpa using G⟩),rfl,q _ (I.hok.fresh (Bf _))⟩
end
def JC:List D->Option (List D)
 |[.lst b true]=>(DL b).map λa=>a.map λp=>kD p.1
 |_=>none
@[simp] theorem mO(a:BC):JC [.lst (ZB a) true]=some (a.map λp=>kD p.1):=by simp[JC]
section
variable{K:Ap}{N:Fb}{H:Hp}
theorem PD.kden:∀{a:BC}{b:List T3},PD K N H a b->Ae K N H (a.map λp=>kD p.1) (b.map λt=>t.2.1)
 |_,_,.nil=>Ae.nil
 |_,_,.cons ⟨d,c,e⟩ t=>Ae.cons c (PD.kden t)
theorem gF:LW K (λxs H Q=>∃a b,xs=[.ref a]/\Cc K H a b/\∀l,H l=none->Q (.ref l) (AK H l (.lst (b.map λt=>t.2.1)))) JC:=by
 intro N H n o xs Q s h e q
 unfold JC at e
 split at e
 ·next f=>
  cases c:DL f with
  |none=>rw[c]at e;cases e
  |some g=>
   rw[c]at e
   cases e
   obtain⟨v,rfl,d⟩:=Paired.one' h
   rw[Ik c]at d
   obtain⟨p,u,i,r,hd⟩:=d
   subst i
   obtain⟨b,j,k⟩:=KJ r hd
   exact⟨p,b,rfl,j,λl m=>q _ l m k.kden⟩
 ·cases e
end
section
variable{prog:AS}{w:Ai}{A:Ah}{E:Aa->Ac->Prop}{s:Ac}{T:String}{r d:Ad}{n:Nat}{P:Nat->Aa->Prop}{OK:Al->Prop}
theorem gG{Q:List Aa->Ac->Prop}(K:KdlSrc prog w T r d n P OK)(v:A.handled=none)(hok:OK s.heap)(x:n<=Av)
  (y:∀h' i g,(∀b o,s.heap.get? b=some o->h'.get? b=some o)->ItemsOf P g n->Q g.toList {s with heap:=h',toks:=i}):wpAny (Ag prog w) A (collect (.ref r)) Q E s:=by
 obtain⟨z,ld⟩:=K.there _ hok
 unfold collect
 refine Aj (wpAny_runValue (IV F.entry_proto_collect ?_))
 rw[Kh F.plain_proto_collect _]
 show wpAny _ A.in1 (newList [] >>= λl=>again (.builtin "list.__iadd__" ⟨[l,.ref r],[]⟩)) _ _ s
 refine Aj (Fk ?_)
 refine AC ⟨plainId_quiet F.plain_list_iadd _,IV F.entry_list_iadd ?_⟩
 rw[Kh F.plain_list_iadd _]
 show wpAny _ A.in1 (Builtin.List.listExtendWith (.ref s.heap.objs.size) (.ref r) (.ref s.heap.objs.size)) _ _ _
 have B:(s.heap.push {cls:=.type "list",data:=.seq ([]:List Aa).toArray}).get? s.heap.objs.size=some {cls:=.type "list",data:=.seq #[] 0}:=BY _ rfl
 have j:∀k,(∃h' i g p,k={s with heap:=h',toks:=i}/\(∀b o,s.heap.get? b=some o->h'.get? b=some o)/\h'.get? s.heap.objs.size=some {cls:=.type "list",dict:=none,data:=.seq g p,slots:=#[]}/\ItemsOf P g n)->wpAny (Ag prog w) A (match Bv s.heap.objs.size with
   |Bv a=>do
    match(<- load a).data with
     |Data.seq C _=>AB C.toList
     |_=>unsupported "internal:collect"
   |_=>unsupported "internal:collect") Q E k:=by
  rintro k ⟨h',i,g,p,rfl,q,m,t⟩
  show wpAny _ A (load s.heap.objs.size >>= _) _ _ _
  refine Aj (wpAny_load m ?_)
  refine AC ?_
  exact y h' i g q t
 refine DQ (kdl_extend (R:=λr k=>r=.ok (.ret (.ref s.heap.objs.size))/\∃h' i g p,k={s with heap:=h',toks:=i}/\(∀b o,s.heap.get? b=some o->h'.get? b=some o)/\h'.get? s.heap.objs.size=some {cls:=.type "list",dict:=none,data:=.seq g p,slots:=#[]}/\ItemsOf P g n) (s:={s with heap:=s.heap.push {cls:=.type "list",data:=.seq ([]:List Aa).toArray} }) K v (K.keep _ _ hok λb _ o e=>Bk _ e) s.heap.objs.size (FL z) (FL ld) _ 0 B (λh' i g p q m t=>⟨rfl,h',i,g,p,rfl,λb o e=>q b o (BS (Be e)) (Bk _ e),m,t⟩) x) (λfin k h=>?_) (λe k h=>?_)
 ·cases fin with
  |done f=>
   obtain⟨e,h⟩:=h
   cases e
   exact j k h
  |again c=>
   refine⟨h.1,IL h.2 λr u G=>?_⟩
   obtain⟨rfl,h⟩:=G
   exact j u h
 ·exact nomatch h.1
end
section
variable{X:Cx}{pins:List (Ad×AJ)}{σ:St}{H:Hp}{s:Ac}{N:Fb}{k:Nat}{fn:Ad}{fd:A5}{ps:List Af}{F:List Sl->Option Rv}
end
section
variable{X:Cx}{M:Fb}{H0:Hp}{k:Nat}{fn:Ad}{fd:A5}{ps:List Af}{F:List Sl->Option Rv}{e:Expr}{f:VE->Option D}{x y:Af}{p p2 kpos pos:AT}
end
end L2
namespace L2
open PySem PySem.Spec PyProof.Rows
abbrev DN(h:Al)(z TI TO:Ad)(a:Aa)(b:Bool):Prop:=
 h.get? z=some {cls:=.type "zip",dict:=none,data:=.fields #[a,.bool b,.bool false,.ref TI,.ref TO],slots:=#[]}
def Iq(v:Aa):Prop:=v=.none\/∃a:Nat,v=AI a
section
variable{prog:AS}{w:Ai}{A:Ah}{E:Aa->Ac->Prop}{s:Ac}
variable{z tin tout ia ib:Ad}{fa fb:List Ad}{n m k:Nat}{isA isB:Nat->Aa->Prop}{sa sb:Nat->Al->Prop}{a b:Aa}{v0:Aa}{b1:Bool}
theorem gH{a:Ad}{Q:Option AJ->Ac->Prop}(h:Q (s.heap.get? a) s):wpAny (Ag prog w) A (loadIfAlive a) Q E s:=λ_ _ _=>h
theorem Vj{Q:Bool->Ac->Prop}(hz:DN s.heap z tin tout v0 b1)(d:Iq v0)
  (q:∀(b:Bool) h' e,DN h' z tin tout v0 e->C3 z s.heap h'->Q b {s with heap:=h' }):wpAny (Ag prog w) A (KC (.ref z)) Q E s:=by
 unfold KC
 rcases d with rfl|⟨a,rfl⟩
 ·exact Aj (Cw hz rfl (x:=.none) rfl (AC (q true s.heap b1 hz (.refl ..))))
 ·refine Aj (Cw hz rfl (x:=AI a) rfl ?_)
  show wpAny _ _ (loadIfAlive ((a:Int).toNat) >>= _) _ _ s
  refine Aj (gH ?_)
  refine wpAny_ite_split (λ_=>AC (q true s.heap b1 hz (.refl ..))) λ_=>?_
  refine Aj (Cw hz rfl (x:=.bool b1) rfl ?_)
  refine wpAny_ite_split (λ_=>?_) λ_=>?_
  ·dsimp only
   refine Aj (EV hz (by simp) λf g c=>AC ?_)
   exact q false f true g c
  ·exact AC (q false s.heap b1 hz (.refl ..))
theorem gI{Q:Option Aa->Ac->Prop}(D:Cb z tin tout ia ib fa fb)(j:Fv prog w ia fa n isA sa)(SB:Fv prog w ib fb m isB sb)
  (hz:DN s.heap z tin tout v0 b1) (hv:Iq v0) (hi:Ba s.heap tin (.ref ia) (.ref ib)) (ho:Ba s.heap tout a b) (ha:sa k s.heap) (hb:sb k s.heap) (kn:k<n) (km:k<m)
  (q:∀x y h' v' b',isA k x->isB k y->Iq v'->DN h' z tin tout v' b'->(∃a b,Ba h' tout a b)->sa (k+1) h'->sb (k+1) h'->Ba h' s.heap.objs.size x y->h'.objs.size=s.heap.objs.size+1 ->
   (∀c o,c≠z->c≠tout->c≠ia->c≠ib->s.heap.get? c=some o->h'.get? c=some o)->Q (some (.ref s.heap.objs.size)) {s with heap:=h' }):
  wpAny (Ag prog w) A (Bq (.ref z)) Q E s:=by
 have ty:s.TypeIs (.ref z) "zip":=⟨_,hz,rfl⟩
 unfold Bq
 refine Aj (Jp (Gk (name:=FP "__next__") ty PH (E7 PH ty PySem.F.entry_zip_next ?_ (PySem.F.args_zip_next_1 _))))
 show wpAny _ _ (field (.ref z) 2 >>= _) _ _ _
 refine Aj (Cw hz rfl (x:=.bool false) rfl ?_)
 show wpAny _ _ (field (.ref z) 3 >>= _) _ _ _
 refine Aj (Cw hz rfl (x:=.ref tin) rfl ?_)
 refine Aj (Ih hi rfl ?_)
 show wpAny _ _ (KC (.ref z) >>= _) _ _ _
 refine Aj (Vj hz hv λfr T B U s0=>?_)
 have C:Ba T tout a b:=s0.extBut _ _ D.n2 ho
 have G:sa k T:=D.keepA j ha (.inl rfl) s0
 have H:sb k T:=D.keepB SB hb (.inl rfl) s0
 cases fr with
 |true=>
  rw[if_pos rfl]
  refine Aj (FW ?_)
  refine Aj (Cw U rfl (x:=.ref tout) rfl ?_)
  refine Aj (EV U (by simp) λg1 Y b1=>?_)
  have Y:DN g1 z tin tout .ellipsis B:=Y
  refine Aj ?_
  simp only[List.zipIdx_nil,List.zipIdx_cons,List.forIn_nil,LN]
  refine Aj (Aj (wpAny_onRaise ?_))
  show wpAny _ _ (EU (.ref ia) >>= _) _ _ _
  refine Aj (j.item _ _ _ k _ kn (D.keepA j G (.inl rfl) b1) λx g2 hx a2 h=>AC ?_)
  have o2:Ba g2 tout a b:=h.extBut _ _ D.n8 (b1.extBut _ _ D.n2 C)
  refine Aj (Ih o2 rfl ?_)
  refine Aj (wpAny_updateSeq_pair o2 λg3 o3 I=>?_)
  have o3:Ba g3 tout x b:=o3
  refine Aj (wpAny_letGo (AC ?_))
  refine Aj (Aj (wpAny_onRaise ?_))
  show wpAny _ _ (EU (.ref ib) >>= _) _ _ _
  have hb3:sb k g3:=D.keepB SB (D.keepB SB (D.keepB SB H (.inl rfl) b1) (.inr (.inr rfl)) h) (.inr (.inl rfl)) I
  refine Aj (SB.item _ _ _ k _ km hb3 λy f hy a4 i=>AC ?_)
  have o4:Ba f tout x b:=i.extBut _ _ D.n9 o3
  refine Aj (Ih o4 rfl ?_)
  refine Aj (wpAny_updateSeq_pair o4 λd O J=>?_)
  have O:Ba d tout x y:=O
  refine Aj (wpAny_letGo (AC (AC ?_)))
  refine Aj (Ih O rfl ?_)
  refine Aj (wpAny_newTuple ?_)
  have L:d.objs.size=s.heap.objs.size:=by rw[J.1,i.1,I.1,h.1,b1.1,s0.1]
  have z5:DN d z tin tout .ellipsis B:=J.extBut _ _ (BX D.n2) (i.extBut _ _ (BX D.n4) (I.extBut _ _ (BX D.n2) (h.extBut _ _ (BX D.n3) Y)))
  have kp:∀c o,c≠z->c≠tout->c≠ia->c≠ib->s.heap.get? c=some o->d.get? c=some o:=λc o g r t u e=>
   J.extBut _ _ r (i.extBut _ _ u (I.extBut _ _ r (h.extBut _ _ t (b1.extBut _ _ g (s0.extBut _ _ g e)))))
  have a5:sa (k+1) d:=D.keepA j (D.keepA j (D.keepA j a2 (.inr (.inl rfl)) I) (.inr (.inr rfl)) i) (.inr (.inl rfl)) J
  have b5':sb (k+1) d:=D.keepB SB a4 (.inr (.inl rfl)) J
  have M:z<d.objs.size:=Be z5
  show wpAny _ _ (Pd (.ref z) (.ref d.objs.size) >>= _) _ _ _
  refine Aj ?_
  unfold Pd
  have z6:DN (d.push {cls:=.type "tuple",data:=.seq #[x,y]}) z tin tout .ellipsis B:=Bk _ z5
  refine Aj (EV z6 (by simp) λg7 z7 b7=>?_)
  have z7:DN g7 z tin tout (AI d.objs.size) B:=z7
  refine EV z7 (by simp) λv z8 b8=>?_
  have z8:DN v z tin tout (AI d.objs.size) false:=z8
  have l:∀c o,c≠z->d.get? c=some o->v.get? c=some o:=λc o g e=>b8.extBut _ _ g (b7.extBut _ _ g (Bk _ e))
  have new:Ba v d.objs.size x y:=b8.extBut _ _ (FL M) (b7.extBut _ _ (FL M) (BY _ rfl))
  have N:v.objs.size=d.objs.size+1:=by rw[b8.1,b7.1,FN]
  have a8:sa (k+1) v:=j.frame _ _ _ a5 λc p o e=>l c o (by
   rcases p with rfl|p
   ·exact D.n3
   ·exact(D.fz c (.inl p)).1) e
  have b8':sb (k+1) v:=SB.frame _ _ _ b5' λc p o e=>l c o (by
   rcases p with rfl|p
   ·exact D.n4
   ·exact(D.fz c (.inr p)).1) e
  rw[L]at new N
  refine AC ⟨_,rfl,AC ?_⟩
  show Q (some (.ref d.objs.size)) _
  rw[L]
  exact q x y v _ _ hx hy (.inr ⟨_,rfl⟩) z8 ⟨x,y,l _ _ D.n2 O⟩ a8 b8' new N λc o g r t u e=>l c o g (kp c o g r t u e)
 |false=>
  simp only[DF,if_false]
  refine Aj ?_
  simp only[<- Array.forIn_toList,LN,List.forIn_nil]
  refine Aj (Aj (DR ?_))
  show wpAny _ _ (EU (.ref ia) >>= _) _ _ _
  refine Aj (j.item _ _ _ k _ kn G λx g2 hx a2 h=>AC (AC ?_))
  refine Aj (Aj (DR ?_))
  show wpAny _ _ (EU (.ref ib) >>= _) _ _ _
  have hb2:sb k g2:=D.keepB SB H (.inr (.inr rfl)) h
  refine Aj (SB.item _ _ _ k _ km hb2 λy f hy a4 i=>AC (AC (AC ?_)))
  refine Aj (wpAny_newTuple ?_ (show(2:Nat)<=Av by decide))
  have L:f.objs.size=s.heap.objs.size:=by rw[i.1,h.1,s0.1]
  have z4:DN f z tin tout v0 B:=i.extBut _ _ (BX D.n4) (h.extBut _ _ (BX D.n3) U)
  have kp:∀c o,c≠z->c≠tout->c≠ia->c≠ib->s.heap.get? c=some o->f.get? c=some o:=λc o g r t u e=>
   i.extBut _ _ u (h.extBut _ _ t (s0.extBut _ _ g e))
  have a5:sa (k+1) f:=D.keepA j a2 (.inr (.inr rfl)) i
  have l:∀c o,f.get? c=some o->(f.push {cls:=.type "tuple",data:=.seq #[x,y]}).get? c=some o:=λc o e=>Bk _ e
  have new:Ba (f.push {cls:=.type "tuple",data:=.seq #[x,y]}) f.objs.size x y:=BY _ rfl
  have N:(f.push {cls:=.type "tuple",data:=.seq #[x,y]}).objs.size=f.objs.size+1:=FN ..
  rw[L]at new N
  refine AC ⟨_,rfl,AC ?_⟩
  show Q (some (.ref f.objs.size)) _
  rw[L]
  exact q x y _ _ _ hx hy hv (l _ _ z4) ⟨a,b,l _ _ (i.extBut _ _ D.n9 (h.extBut _ _ D.n8 C))⟩ (j.frame _ _ _ a5 λc p o e=>l c o e) (SB.frame _ _ _ a4 λc p o e=>l c o e) new N λc o g r t u e=>l c o (kp c o g r t u e)
theorem gJ{Q:Option Aa->Ac->Prop}(j:A.handled=none)(D:Cb z tin tout ia ib fa fb)(l:Fv prog w ia fa n isA sa)(SB:Fv prog w ib fb m isB sb)
  (hz:DN s.heap z tin tout v0 b1) (hv:Iq v0) (hi:Ba s.heap tin (.ref ia) (.ref ib)) (ho:Ba s.heap tout a b) (ha:sa k s.heap) (hb:sb k s.heap) (kn:n<=k\/m<=k)
  (q:∀h',(∀c o,c≠z->c≠tout->c≠ia->c≠ib->s.heap.get? c=some o->h'.get? c=some o)->Q none {s with heap:=h' }):
  wpAny (Ag prog w) A (Bq (.ref z)) Q E s:=by
 have ty:s.TypeIs (.ref z) "zip":=⟨_,hz,rfl⟩
 unfold Bq
 refine Aj (Jp (Gk (name:=FP "__next__") ty PH (E7 PH ty PySem.F.entry_zip_next ?_ (PySem.F.args_zip_next_1 _))))
 have f:∀(h':Al) (e:Ad),(∀c o,c≠z->c≠tout->c≠ia->c≠ib->s.heap.get? c=some o->h'.get? c=some o)->(∃o,h'.get? e=some o/\o.cls=.type "StopIteration") ->
   wpAny (Ag prog w) A (do if(<- isInstance (.ref e) (.type "StopIteration"))=true then AB (none:Option Aa)else throw (Bv e)) Q E {s with heap:=h' }:=λh' e kp ⟨o,g,d⟩=>
  Aj (wpAny_isInstance (T:="StopIteration") (b:=true) ⟨o,g,d⟩ isSubtype_stop (AC (q h' kp)))
 show wpAny _ _ (field (.ref z) 2 >>= _) _ _ _
 refine Aj (Cw hz rfl (x:=.bool false) rfl ?_)
 show wpAny _ _ (field (.ref z) 3 >>= _) _ _ _
 refine Aj (Cw hz rfl (x:=.ref tin) rfl ?_)
 refine Aj (Ih hi rfl ?_)
 show wpAny _ _ (KC (.ref z) >>= _) _ _ _
 refine Aj (Vj hz hv λfr J L z0 s0=>?_)
 have M:Ba J tout a b:=s0.extBut _ _ D.n2 ho
 have i:sa k J:=D.keepA l ha (.inl rfl) s0
 have B:sb k J:=D.keepB SB hb (.inl rfl) s0
 cases fr with
 |true=>
  rw[if_pos rfl]
  refine Aj (FW ?_)
  refine Aj (Cw z0 rfl (x:=.ref tout) rfl ?_)
  refine Aj (EV z0 (by simp) λg1 C b1=>?_)
  have C:DN g1 z tin tout .ellipsis L:=C
  refine Aj ?_
  simp only[List.zipIdx_nil,List.zipIdx_cons,List.forIn_nil,LN]
  refine Aj (Aj (wpAny_onRaise ?_))
  show wpAny _ _ (EU (.ref ia) >>= _) _ _ _
  by_cases p:n<=k
  ·refine Aj (l.fin A.in1 _ _ k _ (by first|exact j|simpa using j) p (D.keepA l i (.inl rfl) b1) λr e G t=>?_)
   obtain⟨N,g,d⟩:=t
   have z2:DN r z tin tout .ellipsis L:=G _ _ (BX D.n3) C
   have O:e≠z:=λx=>by subst x;rw[z2]at g;cases g;simp at d
   exact EV z2 (by simp) λH _ y=>f H e (λc o d _ u _ x=>y.extBut _ _ d (G _ _ u (b1.extBut _ _ d (s0.extBut _ _ d x)))) ⟨N,y.extBut _ _ O g,d⟩
  ·have U:m<=k:=by rcases kn with h|h;exact absurd h p;exact h
   refine Aj (l.item _ _ _ k _ (Nat.lt_of_not_le p) (D.keepA l i (.inl rfl) b1) λx r hx a2 v=>AC ?_)
   have o2:Ba r tout a b:=v.extBut _ _ D.n8 (b1.extBut _ _ D.n2 M)
   refine Aj (Ih o2 rfl ?_)
   refine Aj (wpAny_updateSeq_pair o2 λH o3 y=>?_)
   have o3:Ba H tout x b:=o3
   refine Aj (wpAny_letGo (AC ?_))
   refine Aj (Aj (wpAny_onRaise ?_))
   show wpAny _ _ (EU (.ref ib) >>= _) _ _ _
   have Y:sb k H:=D.keepB SB (D.keepB SB (D.keepB SB B (.inl rfl) b1) (.inr (.inr rfl)) v) (.inr (.inl rfl)) y
   refine Aj (SB.fin A.in1 _ _ k _ (by first|exact j|simpa using j) U Y λg4 e I t=>?_)
   obtain⟨N,g,d⟩:=t
   have z4:DN g4 z tin tout .ellipsis L:=I _ _ (BX D.n4) (y.extBut _ _ (BX D.n2) (v.extBut _ _ (BX D.n3) C))
   have O:e≠z:=λx=>by subst x;rw[z4]at g;cases g;simp at d
   exact EV z4 (by simp) λg5 _ b5=>f g5 e (λc o d c2 u c4 x=>b5.extBut _ _ d (I _ _ c4 (y.extBut _ _ c2 (v.extBut _ _ u (b1.extBut _ _ d (s0.extBut _ _ d x)))))) ⟨N,b5.extBut _ _ O g,d⟩
 |false=>
  simp only[DF,if_false]
  refine Aj ?_
  simp only[<- Array.forIn_toList,LN,List.forIn_nil]
  refine Aj (Aj (DR ?_))
  show wpAny _ _ (EU (.ref ia) >>= _) _ _ _
  by_cases p:n<=k
  ·refine Aj (l.fin A.in1 _ _ k _ (by first|exact j|simpa using j) p i λr e G t=>?_)
   exact f r e (λc o d _ u _ x=>G _ _ u (s0.extBut _ _ d x)) t
  ·have U:m<=k:=by rcases kn with h|h;exact absurd h p;exact h
   refine Aj (l.item _ _ _ k _ (Nat.lt_of_not_le p) i λx r hx a2 v=>AC (AC ?_))
   refine Aj (Aj (DR ?_))
   show wpAny _ _ (EU (.ref ib) >>= _) _ _ _
   have hb2:sb k r:=D.keepB SB B (.inr (.inr rfl)) v
   refine Aj (SB.fin A.in1 _ _ k _ (by first|exact j|simpa using j) U hb2 λg4 e I t=>?_)
   exact f g4 e (λc o d c2 u c4 x=>I _ _ c4 (v.extBut _ _ u (s0.extBut _ _ d x))) t
end
theorem gK{prog:AS}{w:Ai}{A:Ah}{E:Aa->Ac->Prop}{s:Ac}{z TI TO:Ad}{b:Aa}{c:Bool}{Q:Aa->Ac->Prop}(hz:DN s.heap z TI TO b c)(h:Q (.ref z) s):wpAny (Ag prog w) A (pyIter (.ref z)) Q E s:=by
 have a:s.TypeIs (.ref z) "zip":=⟨_,hz,rfl⟩
 refine wpAny_pyIter_slot a F.slot_zip_iter (E7 F.slot_zip_iter a F.entry_zip_iter ?_ (F.args_zip_iter_1 _))
 show wpAny _ _ (ret (.ref z)) _ _ s
 exact AC ⟨_,rfl,"zip",_,a,F.slot_zip_next.lookup,h⟩
theorem gL{prog:AS}{w:Ai}{A:Ah}{E:Aa->Ac->Prop}{s:Ac}{z TI TO a:Ad}{b:Aa}{e:Bool}{Q:Unit->Ac->Prop}(f:Expr)(hz:DN s.heap z TI TO b e)(h:Iq b)
  (q:∀h' g,Iq g->DN h' z TI TO g e->C3 z s.heap h'->Q () {s with heap:=h' }):wpAny (Ag prog w) A (IH f (.ref z) (.ref a)) Q E s:=by
 have stay:Q () s:=q s.heap b h hz (.refl ..)
 have go:wpAny (Ag prog w) A (do
   let o <- load z
   match o.cls,o.data with
   |.type n,.fields i=>
    if ["enumerate","zip","dict_itemiterator","dict_reverseitemiterator","odict_iterator","itertools.zip_longest","itertools.pairwise"].contains n&&i[0]?==some (AI a)then
     rule "for.unpacks-the-owned-tuple"
     updateField z 0 .none
   |_,_=>AB ()) Q E s:=by
  refine Aj (wpAny_load hz ?_)
  refine wpAny_ite_split (λ_=>?_) λ_=>AC stay
  refine Aj (FW ?_)
  show wpAny _ _ (setField (.ref z) 0 .none) Q E s
  exact EV hz (by simp) λh' c d=>q h' .none (.inl rfl) c d
 unfold IH
 cases f<;>first|exact AC stay|exact go
theorem gM{P:AS}{w:Ai}{K:Ap}{tg:Expr}(S T:Bh)(n:Nat)(h1:S.ad<n)(h2:T.ad<n):
  Gh P w K tg (Ul K S T) [n+4,n+2,n+3,n,n+1] (n+4) (λi h=>(∃g l,Iq g/\DN h (n+4) (n+2) (n+3) g l)/\Ba h (n+2) (.ref n) (.ref (n+1))/\(∃a b,Ba h (n+3) a b)/\S.it h n i/\T.it h (n+1) i) where
 mem:=by simp
 obj:=λi h ⟨⟨g,l,m,z⟩,a,⟨x,y,b⟩,c,d⟩ q f=>by
  simp only[Bm,EH,or_false]at f
  rcases f with rfl|rfl|rfl|rfl|rfl
  ·exact⟨_,z,λv e=>nomatch (show Data.fields _=Data.cell v from e)⟩
  ·exact⟨_,a,λv e=>nomatch (show Data.seq _ _=Data.cell v from e)⟩
  ·exact⟨_,b,λv e=>nomatch (show Data.seq _ _=Data.cell v from e)⟩
  ·exact S.itOb c
  ·exact T.itOb d
 keep:=λi h N ⟨⟨g,l,m,z⟩,a,⟨x,y,b⟩,c,d⟩ k=>⟨⟨g,l,m,k _ (by simp) _ z⟩,k _ (by simp) _ a,⟨x,y,k _ (by simp) _ b⟩,S.itAt c λo e=>k _ (by simp) o e,T.itAt d λo e=>k _ (by simp) o e⟩
 item:=by
  intro X O Q U hc i j s σ H E I J ⟨⟨g,l,m,z⟩,a,⟨u,v,b⟩,c,d⟩ ⟨xs,ys,x,y,L,M,ex,ey⟩
  subst O Q U
  obtain⟨p,Y,o1,_⟩:=S.of I L
  obtain⟨r,r2,o2,_⟩:=T.of I M
  obtain⟨u1,e1,ru1⟩:=Y.get ex
  obtain⟨u2,e2,ru2⟩:=r2.get ey
  have l1:=(List.getElem?_eq_some_iff.mp e1).1
  have l2:=(List.getElem?_eq_some_iff.mp e2).1
  refine gI (Um h1 h2) (S.sub (P:=X.prog) (w:=X.w) p.toArray) (T.sub (P:=X.prog) (w:=X.w) r.toArray) z m a b ⟨c,o1⟩ ⟨d,o2⟩ (by simpa using l1) (by simpa using l2) λx' y' N v' b' A B hv' z' to' ⟨c',_⟩ ⟨d',_⟩ new sz kp=>?_
  have hx1:x'=u1:=by simp[e1]at A;exact A.symm
  have hy1:y'=u2:=by simp[e2]at B;exact B.symm
  subst hx1 hy1
  have hlt:n+4<s.heap.objs.size:=Be z
  refine⟨_,rfl,gL tg z' hv' λC v2 hv2 z2 sb=>?_⟩
  have t:∀q o,q≠n+4->N.get? q=some o->C.get? q=some o:=λq o f e=>sb.extBut _ _ f e
  have I1:Inv X j σ (AK H s.heap.objs.size (.tup [x,y])) {s with heap:=C}:=by
   refine I.yielded J (λq o f e=>t q o (λz=>f (by simp[z])) (kp q o (λz=>f (by simp[z])) (λz=>f (by simp[z])) (λz=>f (by simp[z])) (λz=>f (by simp[z])) e)) (Bf _) ?_
   exact⟨show 2<=Av by decide,[x',y'],.cons ru1 (.cons ru2 .nil),⟨_,t _ _ (by(show @Ne Nat _ _;omega)) new,rfl,_,rfl⟩⟩
  obtain⟨u',v'',G⟩:=to'
  refine⟨.ref s.heap.objs.size,_,I1,rfl,⟨_,x,y,rfl,I.hok.fresh (Bf _),rfl,λzs hz=>by rw[S.inj I hz L];exact ex,λzs hz=>by rw[T.inj I hz M];exact ey⟩,⟨⟨v2,b',hv2,z2⟩,t _ _ (by(show @Ne Nat _ _;omega)) (kp _ _ (by(show @Ne Nat _ _;omega)) (by(show @Ne Nat _ _;omega)) (by(show @Ne Nat _ _;omega)) (by(show @Ne Nat _ _;omega)) a),⟨u',v'',t _ _ (by(show @Ne Nat _ _;omega)) G⟩,S.itAt c' λo e=>t _ o (by(show @Ne Nat _ _;omega)) e,T.itAt d' λo e=>t _ o (by(show @Ne Nat _ _;omega)) e⟩,λq f=>?_⟩
  rw[Zq]
  ·exact(J q f).1
  ·simp only[Bm,EH,or_false]at f
   rcases f with rfl|rfl|rfl|rfl|rfl<;>(show @Ne Nat _ _;omega)
 done:=by
  intro X O Q U hc i j s σ H E I J ⟨⟨g,l,m,z⟩,a,⟨u,v,b⟩,c,d⟩ ⟨xs,ys,L,M,hl⟩
  subst O Q U
  obtain⟨p,Y,o1,_⟩:=S.of I L
  obtain⟨r,r2,o2,_⟩:=T.of I M
  have q1:=Y.length
  have q2:=r2.length
  refine gJ (I.ok.hd hc) (Um h1 h2) (S.sub (P:=X.prog) (w:=X.w) p.toArray) (T.sub (P:=X.prog) (w:=X.w) r.toArray) z m a b ⟨c,o1⟩ ⟨d,o2⟩ (by simp only[Bu];omega) λN kp=>⟨rfl,I.turnedL J λq o f e=>kp q o (λz=>f (by simp[z])) (λz=>f (by simp[z])) (λz=>f (by simp[z])) (λz=>f (by simp[z])) e⟩
 self:=λ_ _ _ _ _ ⟨⟨g,l,m,z⟩,_⟩ q=>gK z q
section
variable{X:Cx}{M:Fb}{H0:Hp}{f g:VE->Option D}{a b tg:Expr}{p pos:AT}
theorem PJ(hg:Gl X "zip")(hm:X.mg "zip"=none)(B:JE X a (tQ X.K M H0 f))(l:JE X b (tQ X.K M H0 g))(U:AO [a,b] X.env=[(false,Ar a X.env),(false,Ar b X.env)]:=by rfl)(c:AO [b] X.env=[(false,Ar b X.env)]:=by rfl)(C:AO [] X.env=[]:=by rfl):
  JI X tg (.Call (.Name "zip" p) [a,b] [] pos) (tI X.K M H0 (Jo f g)):=⟨have B:=B.h;have l:=l.h;by
 intro o s t H Q I ⟨d,ds,R,e,q⟩
 unfold Jo at e
 split at e
 ·next xs ys ex x=>
  cases e
  cases E:f d with
  |none=>rw[E]at ex;cases ex
  |some d1=>
   cases i:g d with
   |none=>rw[i]at x;cases x
   |some d2=>
    rw[E]at ex
    rw[i]at x
    have G:=E5 B (E5 l BM (by rw[c,C])) (by rw[U,c])
    refine Call_ (FI I hg hm eF (Kc (AU (G pos o s t H (λY m=>∃S T u v,Y=[.ref (Bh.ad S),.ref (Bh.ad T)]/\Ak H m/\Ae X.K (Nf M d t) m xs u/\Ae X.K (Nf M d t) m ys v/\(∀N2 n,Step M (Nf M d t) N2 m n->S.sq X.K n u)/\∀N2 n,Step M (Nf M d t) N2 m n->T.sq X.K n v) I ?_) λu J ⟨Y,H1,w,r1,q1⟩=>?_) (by rw[U,c]) (by rw[c];rfl)))
    ·refine⟨d,d1,R,E,λv1 H1 z1 q1=>⟨d,d2,R.st z1,i,λv2 m L q2=>?_⟩⟩
     obtain⟨S,u,N,j,y⟩:=q1.src ex
     obtain⟨T,v,e2,k,A⟩:=q2.src x
     exact⟨S,T,u,v,by rw[N,e2],z1.trans L,j.same L,k,λN2 n St=>y _ _ ((Step.of_same L).trans St),A⟩
    ·obtain⟨S,T,us',v,N,z,j,k,y,A⟩:=q1
     subst N
     cases r1 with
     |cons r O=>
      cases O with
      |cons r' O=>
       cases O
       cases r
       cases r'
       obtain⟨its,v1,o1,_⟩:=S.of w (y _ _ Step.refl)
       obtain⟨jts,v2,o2,_⟩:=T.of w (A _ _ Step.refl)
       refine eE o1 o2 λh' a1 a2 a3 a4 a5 kp=>wpAny_pyIter_zip a1 ?_
       refine⟨_,_,_,_,H1,rfl,w.kept (t':=J.toks) kp,gM S T J.heap.objs.size (S.lt o1) (T.lt o2),⟨⟨_,_,.inl rfl,a1⟩,a2,⟨_,_,a3⟩,a4,a5⟩,λb l=>?_,q _ _ z (eG j k y A)⟩
       have hl:J.heap.objs.size<=b:=by
        simp only[Bm,EH,or_false]at l
        rcases l with rfl|rfl|rfl|rfl|rfl<;>(show @LE.le Nat _ _ _;omega)
       exact w.fpOk hl (w.hok.fresh hl)
 ·cases e⟩
end
section
variable{prog:AS}{w:Ai}{A:Ah}{E:Aa->Ac->Prop}{s:Ac}{l:Ad}{xs:Array (Int×Tok)}
end
section
variable{X:Cx}
end
@[simp] def mP:List D->Option D
  |[.tup a]=>((Ed a).bind Mb).map D.int
  |_=>none
@[simp] def mQ:List D->Option D
  |[.tup a]=>((Ed a).bind Mc).map D.int
  |_=>none
section
variable{K:Ap}
end
@[simp] def mR(o:Option D)(ρ:VE):An:=match o with
  |some _=>.next ρ
  |none=>.fail
section
variable{X:Cx}{K:Ap}{M:Fb}{H0:Hp}{e:Expr}{f:VE->Option D}{pos:AT}
end
theorem D1{P:List Aa->Prop}(h:∀a,P [a])(us:List Aa)(b:us.length=1):P us:=by
 match us,b with
 |[a],_=>exact h a
theorem D2{P:List Aa->Prop}(h:∀a b,P [a,b])(us:List Aa)(c:us.length=2):P us:=by
 match us,c with
 |[a,b],_=>exact h a b
theorem Vk{P:List Aa->Prop}(h:∀a b c,P [a,b,c])(us:List Aa)(d:us.length=3):P us:=by
 match us,d with
 |[a,b,c],_=>exact h a b c
theorem gN{P:List Aa->Prop}(h:∀a b c d,P [a,b,c,d])(us:List Aa)(e:us.length=4):P us:=by
 match us,e with
 |[a,b,c,d],_=>exact h a b c d
theorem gO{P:List Aa->Prop}(h:∀a b c d e,P [a,b,c,d,e])(us:List Aa)(f:us.length=5):P us:=by
 match us,f with
 |[a,b,c,d,e],_=>exact h a b c d e
theorem gP{P:List Aa->Prop}(h:∀a b c d e f,P [a,b,c,d,e,f])(us:List Aa)(g:us.length=6):P us:=by
 match us,g with
 |[a,b,c,d,e,f],_=>exact h a b c d e f
structure DI(K:Ap)(mg:Af->Option Aa)(nm:Af)(st:As)(ps:List Af)(a:Ad)(fd:A5):Prop where
 m:mg nm=some (.ref a)
 F:Gr K nm nm st a fd
 b:Binds K fd ps []
theorem di{K:Ap}{mg:Af->Option Aa}{h:Al}{nm:Af}{st:As}{ps:List Af}{a:Ad}{i:Aa}{j e:Option Ad}{g:Array (Option Aa)}{kV d f b ct:Aa}(X:K.In h)(G:h.Ns BD mg)
  (A:C6 K BD nm=some (some (.ref a)))
  (l:K.lookup a=some ⟨i,j,.func (G6 nm nm (FQ st) (DE st) (Zi st) .none kV d f e b ct),g⟩) (c:PySem.W.codeIn K b nm=true) (k:HH K (.ref a)=true)
  (m:∀(kV d f:Aa) (e:Option Ad) (b ct:Aa) (us:List Aa),us.length=ps.length->bindArgs (G6 nm nm (FQ st) (DE st) (Zi st) .none kV d f e b ct) ⟨us,[]⟩=AB (ps.zip us):=by
   first|exact λ_ _ _ _ _ _=>D1 λ_=>rfl|exact λ_ _ _ _ _ _=>D2 λ_ _=>rfl|exact λ_ _ _ _ _ _=>Vk λ_ _ _=>rfl|exact λ_ _ _ _ _ _=>gN λ_ _ _ _=>rfl|exact λ_ _ _ _ _ _=>gO λ_ _ _ _ _=>rfl|exact λ_ _ _ _ _ _=>gP λ_ _ _ _ _ _=>rfl):
  DI K mg nm st ps a (G6 nm nm (FQ st) (DE st) (Zi st) .none kV d f e b ct):=
 ⟨PySem.W.mg_of X G A,SU l c k,.all (m kV d f e b ct)⟩
theorem gQ{l:PySem.W.OpenLaw}{w:Ai}{K:Ap}{mg:Af->Option Aa}{fa a:Ad}{fd:A5}{st:As}{n:Nat}{F:List Sl->Option Rv}(d:mg "law"=some (.ref fa))(q:DI K mg "law" st ["_law_script"] a fd)
  (G:∀base:Al,Aw l.prog w K mg base A6 n a fd ["_law_script"] (Bc K F)) (h:∀ns:List Int,ns.length<=63->F [.val (.lst (ns.map D.int))]=some (.val (.bl true)))
  (e:∀(kV b f:Aa) (g:Option Ad) (c ct v:Aa),bindArgs (G6 "law" "law" (FQ st) (DE st) (Zi st) .none kV b f g c ct) ⟨[v],[]⟩=AB [(("_law_script":Af),v)]):
  ∃fd:A5,(∀(s:Ac) (v:Aa),BindsTo s fd ⟨[v],[]⟩ [("_law_script",v)])/\∀base:Al,K.In base->base.Ns BD mg->Aw l.prog w K mg base A6 n fa fd ["_law_script"] (Ki K):=by
 cases d.symm.trans q.m
 obtain⟨k,o,kV,b,f,g,c,ct,i,rfl,p,j⟩:=q.F.ex
 exact⟨_,λs v=>.of_eq (e _ _ _ _ _ _ _),λbase _ _=>dB (G base) h⟩
theorem BP{N P:List Af}{a:Scope}(b:a.kind=.function:=by rfl)(c:a.isCoroutine=false:=by rfl)(d:a.isGenerator=false:=by rfl)(e:N.Nodup:=by decide +kernel)(f:N.take P.length=P:=by rfl)
  (g:∀x∈P,a.names.lookup x=some .local\/a.names.lookup x=some .cell:=by decide +kernel) (h:∀y∈a.names,y.2≠.free:=by decide +kernel):Zx N P a:=⟨b,c,d,e,f,g,h⟩
theorem CP(own a:List Af){b:Scope}(c:Scope)(d:b.kind=.function:=by rfl)(e:∀x∈b.names,x.2≠.cell:=by decide +kernel)(f:∀x∈b.names,x.2=.free->c.names.lookup x.1=some .cell\/c.names.lookup x.1=some .free:=by decide +kernel)
  (g:∀x∈b.names,x.2=.local->b.names.lookup x.1=some .local:=by decide +kernel) (h:∀x∈a,b.names.lookup x=some .free:=by decide +kernel) (i:(own++a).Nodup:=by decide +kernel):ER own a b c:=⟨d,e,f,g,h,i⟩
theorem Cm(L:List Af)(h:L.Nodup:=by decide +kernel):L.Nodup:=h
section
variable{X:Cx}{K:Ap}{M:Fb}{H0:Hp}{k n:Nat}{fn:Ad}{fd:A5}{ps:List Af}{x nm:Af}{st:As}{F:List Sl->Option Rv}{e a b:Expr}{es:List Expr}{fa:VE->Option (List Sl)}{p pos:AT}{f g:VE->Option D}
theorem Zt(G:Aw X.prog X.w X.K X.mg X.base A6 k fn fd ps (Bc K F))(d:AR n X.A)(D:DI X.K X.mg x st ps fn fd)(f:JA X (e::es) (CC K M H0 fa))(g:k<=n:=by decide)(h:Gl X x:=by rfl)(a:(x==("__debug__":Af))=false:=by decide)
  (i:AO (e::es) X.env=(false,Ar e X.env)::AO es X.env:=by exact Df (λ_ _ z=>nomatch z)) (c:(AG pos (AO es X.env)).any (·.1)=false:=by rfl):JE X (.Call (.Name x p) (e::es) [] pos) (tD K M H0 (Zw F fa)):=
 c3 G (d.mono g) h D.m D.F.kp D.b (E:=E0) Gq f a i c
theorem gR(G:Aw X.prog X.w X.K X.mg X.base A6 k fn fd ps (Bc K F))(d:AR n X.A)(D:DI X.K X.mg x st ps fn fd)(f:JA X (e::es) (CC K M H0 fa))(g:k<=n:=by decide)(h:Gl X x:=by rfl)(a:(x==("__debug__":Af))=false:=by decide)
  (i:AO (e::es) X.env=(false,Ar e X.env)::AO es X.env:=by exact Df (λ_ _ z=>nomatch z)) (c:(AG pos (AO es X.env)).any (·.1)=false:=by rfl):JE X (.Call (.Name x p) (e::es) [] pos) (tF K M H0 (Jc F fa)):=
 c5 G (d.mono g) h D.m D.F.kp D.b (E:=E0) Gq f a i c
theorem Zn {i j pos}:JE X (.Constant (.int i) j pos) (tP K M H0 λ_=>some (.int i)):=Au ZC
theorem Zr(c:JE X a (tP X.K M H0 f))(d:JE X b (tP X.K M H0 g))(e:IR b:=by exact λ_ _=>rfl):JE X (.Subscript a b pos) (tD X.K M H0 (Ze A0 f g)):=dL c d e
theorem Zo(i:Nat){x:Af}(a:X.N.Nodup)(b:X.N[i]?=some x:=by rfl)(c:Loc X.env.scope x:=by first|exact .inl rfl|exact .inr rfl)(d:X.fn x=true\/X.env.scope.names.lookup x=some .local:=by first|exact .inl rfl|exact .inr rfl|assumption):
  JG X (.Name x pos) (tG K M H0 [i] (Zm i)):=de a b c d
theorem ZH(i:Nat){x:Af}{a:AT}(b:X.N.Nodup)(c:JE X e (tD K M H0 f))(d:X.N[i]?=some x:=by rfl)(g:Loc X.env.scope x:=by first|exact .inl rfl|exact .inr rfl)(h:Dp e (some (.Name x a)) pos.line X.env=AB false:=by rfl)
  (j:X.fn x=true\/X.env.scope.names.lookup x=some .local:=by first|exact .inl rfl|exact .inr rfl|assumption):JS X (.Assign [.Name x a] e pos) (tS K M H0 λρ=>ZM i (f ρ) ρ):=db b d g c h j
theorem ZU{P:AS}{w:Ai}{mg:Af->Option Aa}{base:Al}{N:List Af}{g c:VE->An}(D:DI K mg nm st ps fn fd)(S:Zx N ps (Zi st))
  (d:∀(a:Aa) (A:Ah) (outer:List Env) (s:Ac) (H:Hp) (E:XK) (M:Fb) (H0:Hp),AR k (A.deeper (Bt nm (Zi st) s.heap.objs.size fn a)) ->
   JB (Ey A6 P w K mg base N nm (Zi st) fn a A outer s H E).nox (DE st) (tS K M H0 c)) (e:c=g:=by rfl) (b:ps.length<=N.length:=by decide):Aw P w K mg base A6 (k+1) fn fd ps (Bc K (AQ ps.length N.length g)):=
 Tv D.F S b (e ▸ d)
end
end L2
namespace L2
open PySem PySem.Spec PyProof.Rows PySem.W
mutual
/-- no list,no instance within -/
def GN:D->Bool
 |.lst _ _=>false
 |.ins _ _=>false
 |.tup a=>Dw a
 |.non=>true
 |.bl _=>true
 |.int _=>true
 |.str _=>true
 |.ty _=>true
def Dw:List D->Bool
 |[]=>true
 |x::a=>GN x&&Dw a
end
mutual
theorem Aq.free{K:AV}{N f:Fb}{H:Hp}:∀(d:D)(v:V),GN d=true->Aq K N H d v->Aq K f H d v
 |.non,_,_,h=>by simpa only[Aq]using h
 |.bl _,_,_,h=>by simpa only[Aq]using h
 |.int _,_,_,h=>by simpa only[Aq]using h
 |.str _,_,_,h=>by simpa only[Aq]using h
 |.ty _,_,_,h=>by simpa only[Aq]using h
 |.tup g,v,b,h=>by
  simp only[GN]at b
  simp only[Aq]at h ⊢
  obtain⟨a,c,e,q,r⟩:=h
  exact⟨a,c,e,q,Ae.free g c b r⟩
 |.lst _ _,_,b,_=>by simp only[GN]at b;cases b
 |.ins _ _,_,b,_=>by simp only[GN]at b;cases b
theorem Ae.free{K:AV}{N b:Fb}{H:Hp}:∀(xs:List D)(vs:List V),Dw xs=true->Ae K N H xs vs->Ae K b H xs vs
 |[],_,_,h=>by simpa only[Ae]using h
 |x::xs,vs,a,h=>by
  simp only[Dw,C5]at a
  simp only[Ae]at h ⊢
  obtain⟨v,r,e,q,t⟩:=h
  exact⟨v,r,e,Aq.free x v a.1 q,Ae.free xs r a.2 t⟩
end
@[simp] def CW:Sl->Sl
  |.val d=>.val d
  |.lent a b=>.val (.lst a b)
  |.own a b=>.val (.lst a b)
  |.deep c _=>.val (.lst (c.map λz=>D.lst z))
  |_=>.no
section
variable{K:AV}{M N N':Fb}{H0 H H':Hp}{ρ:VE}{σ:St}
theorem Vl(nn:∀a,¬ N' a):∀{c:List (List D)}{bs:List Ad},Paired (λz b=>∃vs,Rd H b (.lst vs)/\Ae K N H z vs) c bs->Ae K N' H (c.map λz=>D.lst z) (bs.map V.ref)
 |_,_,.nil=>Ae.nil
 |_,_,.cons ⟨vs,d,e⟩ t=>Ae.cons (by simp only[Aq];exact⟨_,vs,rfl,.inl ⟨nn _,d⟩,e.nw λa f=>(nn a f).elim⟩) (Vl nn t)
theorem Vm{ρ:VE}{i:Nat}{xs:List D}{b:Bool}:(ρ.map CW)[i]?≠some (Sl.own xs b):=λh=>by
 rw[D8]at h
 cases e:ρ[i]? with
 |none=>rw[e]at h;cases h
 |some s=>rw[e]at h;cases s<;>cases h
theorem A3.all(R:A3 K M H0 ρ σ H):A3 K (λ_=>False) H (ρ.map CW) σ H:=by
 have nf:∀a,¬ Nf (λ_=>False) (ρ.map CW) σ a:=by
  rintro a (h|⟨i,g,b,h,_⟩)
  ·exact h
  ·exact Vm h
 refine⟨by rw[Bb];exact R.len,Ak.refl H,λ_ h=>h.elim,λi s e=>?_,λi j g p b r a h=>(Vm h).elim⟩
 rw[D8]at e
 cases h:ρ[i]? with
 |none=>rw[h]at e;cases e
 |some s0=>
  rw[h]at e
  simp only[HP,L0]at e
  have q:=R.slot i s0 h
  subst e
  cases s0 with
  |no=>trivial
  |val d=>obtain⟨v,e,h⟩:=q;exact⟨v,e,h.nw λa f=>(nf a f).elim⟩
  |own g o=>obtain⟨a,k,e,_,_,l,m⟩:=q;exact⟨.ref a,e,by simp only[Aq];exact⟨a,k,rfl,.inl ⟨nf a,.inl l⟩,m.nw λa f=>(nf a f).elim⟩⟩
  |lent g o=>obtain⟨a,k,e,_,n,l⟩:=q;exact⟨.ref a,e,by simp only[Aq];exact⟨a,k,rfl,.inl ⟨nf a,n⟩,l.nw λa f=>(nf a f).elim⟩⟩
  |deep t u=>obtain⟨a,bs,e,_,_,n,_,m⟩:=q;exact⟨.ref a,e,by simp only[Aq];exact⟨a,bs.map V.ref,rfl,.inl ⟨nf a,n⟩,Vl nf m⟩⟩
  |exc c=>trivial
  |pin a=>trivial
end
@[simp] def mS(o:Option D):Option D:=o.bind λd=>if GN d=true then some d else none
section
variable{X:Cx}{K:AV}{M:Fb}{H0:Hp}{e o:Expr}{es:List Expr}{f go:VE->Option D}{t:VE->Option Bool}{fa:VE->Option (List Sl)}{pos apos:AT}
theorem PL(h:∀M H0,JT X e (Bx K M H0 t)):JT X e (Bx K M H0 λρ=>t (ρ.map CW)):=⟨λa s c H Q I ⟨ρ,b,R,e,q⟩=>(h _ _).h a s c H Q I ⟨_,b,R.all,e,q⟩⟩
@[simp] def Dx(f:Af):D->Option D
  |.ins ns a=>(ns.zip a).lookup f
  |_=>none
theorem Eo.one{C a:Ad}(h:Eo K C)(h':Eo K a):C=a:=by
 unfold Eo at h h'
 rw[h]at h';cases h';rfl
theorem Vn{N:Fb}{H:Hp}{f:Af}{d:D}:∀{ns:List Af}{xs:List D}{vs:List V},ns.length=vs.length->Ae K N H xs vs->(ns.zip xs).lookup f=some d->∃v,(ns.zip vs).lookup f=some v/\Aq K N H d v
 |[],_,_,_,_,e=>by simp at e
 |_::_,[],_,_,_,e=>by simp at e
 |n::ns,x::xs,vs,b,h,e=>by
  simp only[Ae]at h
  obtain⟨v,r,c,q,t⟩:=h
  subst c
  simp only[ET,Fn]at e ⊢
  cases a:f==n with
  |true=>rw[a]at e;cases e;exact⟨v,rfl,q⟩
  |false=>rw[a]at e;exact Vn (by simpa using b) t e
theorem Vo{m:Af}:∀{ns:List Af}{vs:List V},ns.contains m=false->(ns.zip vs).lookup m=none
 |[],_,_=>by simp
 |_::_,[],_=>by simp
 |n::ns,v::vs,h=>by
  simp only[List.contains_cons,Bool.or_eq_false_iff]at h
  simp only[ET,Fn,h.1]
  exact Vo h.2
theorem Hq{C:Ad}{f:Af}(j:Eo X.K C)(k:D7 X.K C)(l:Br X.K C f)(b:JE X o (tD X.K M H0 go))(m:Gj o f X.env (Ar o X.env)=Ar o X.env:=by rfl):JE X (.Attribute o f pos) (tD X.K M H0 λρ=>(go ρ).bind (Dx f)):=⟨have b:=b.h;(bv b m).mono λA H Q ⟨ρ,d,R,e,q⟩=>by
  try dsimp only at e q
  cases c:go ρ with
  |none=>rw[c]at e;cases e
  |some d0=>
   rw[c]at e
   cases d0 with
   |ins ns B=>
    refine⟨ρ,_,R,c,λv n s i=>?_⟩
    simp only[Aq]at i
    obtain⟨a,E,p,G,t,g,_,w,x,r⟩:=i
    have:=j.one g
    subst this
    obtain⟨u,y,z⟩:=Vn x r e
    exact⟨a,C,p,_,u,t,w,k,l,y,q u n s z⟩
   |_=>cases e⟩
theorem gS{N:Fb}{H H':Hp}{r:Rv}{v:V}(c:∀a,N a->H a≠none)(h:Hc K N H H' r v):Aq K N H' (BF r) v:=by
 cases r with
 |val d=>exact h
 |own l m=>
  obtain⟨a,f,e,g,i,j⟩:=h
  simp only[BF,Aq]
  exact⟨a,f,e,.of (λn=>c a n g) i,j.nw λb k=>.inl (.inl k)⟩
@[simp] def EJ(m:Af)(F:List Sl->Option Rv)(o:Option D)(a:Option (List Sl)):Option D:=match o with
  |some (.ins ns b)=>if ns.contains m then none else a.bind λc=>(F (.val (.ins ns b)::c)).map BF
  |_=>none
theorem gT{m:Af}{F:List Sl->Option Rv}{o:Option D}{a:Option (List Sl)}{d:D}(h:EJ m F o a=some d):∃ns xs b r,o=some (.ins ns xs)/\ns.contains m=false/\a=some b/\F (.val (.ins ns xs)::b)=some r/\d=BF r:=by
 unfold EJ at h
 split at h
 ·next ns xs=>
  split at h
  ·cases h
  ·next f=>
   cases e:a with
   |none=>rw[e]at h;cases h
   |some b=>
    rw[e]at h
    simp only[AL]at h
    cases c:F (.val (.ins ns xs)::b)with
    |none=>rw[c]at h;cases h
    |some r=>rw[c]at h;cases h;exact⟨ns,xs,b,r,rfl,by simpa using f,rfl,c,rfl⟩
 ·cases h
variable{F:List Sl->Option Rv}{CX:DS}{k:Nat}{fn C:Ad}{fd:A5}{ps:List Af}{m:Af}{E:XK}
theorem Vp(l:Eo K C){σ:St}{H:Hp}{Q:VK}(h:tD K M H0 (λρ=>EJ m F (go ρ) (fa ρ)) σ H Q):Oh C m (Bc K F) [] E (tD K M H0 go) (CC K M H0 fa) σ H Q:=by
 obtain⟨ρ,d,R,e,q⟩:=h
 try dsimp only at e q
 obtain⟨ns,n,j,r,o,p,s,t,rfl⟩:=gT e
 refine⟨ρ,_,R,o,λv J b c=>?_⟩
 have f:=c
 simp only[Aq]at c
 obtain⟨a,L,u,N,x,g,_,y,O,hd⟩:=c
 have:=l.one g
 subst this
 refine⟨a,u,_,x,y,Vo p,ρ,j,R.st b,s,λz T i A=>?_⟩
 have k:=((R.st b).st i).nh
 refine⟨Nf M ρ σ,.val (.ins ns n)::j,r,k,⟨v,z++[],rfl,f.same i,by rw[CG];exact A⟩,t,λw B G I=>q w B ((b.trans i).trans G) (gS k I)⟩
theorem gU{σ:St}{H:Hp}{Q:List V->Hp->Prop}(h:CC K M H0 (λ_=>some []) σ H Q):LJ σ H Q:=by
 obtain⟨a,b,R,e,q⟩:=h
 cases e
 exact q [] H (Ak.refl H) rfl
theorem Vq{pl:Sem Bool}(i:Eo X.K C)(c:D7 X.K C)(j:HG X.K C m fn)(G:Aw X.prog X.w X.K X.mg X.base CX k fn fd ps (Bc X.K F))(l:AR k X.A)(n:Binds X.K fd ps [])(p:E6 CX X E)(q:JE X o (tD X.K M H0 go))(r:JA X (e::es) (CC X.K M H0 fa))
  (a:AO (e::es) X.env=(false,Ar e X.env)::AO es X.env:=by exact Df (λ_ _ z=>nomatch z)) (b:(AG pos (AO es X.env)).any (·.1)=false:=by rfl)
  (s:Ar (.Call (.Attribute o m apos) (e::es) [] pos) X.env=(do
   let g <- Ar o X.env
   standAt apos.atName
   let(f,d) <- D5 [g] (getMethod g m pl)
   callWith pos f d (AG pos (AO (e::es) X.env)) (Fi pos (Fj [] X.env))):=by rfl):
  JE X (.Call (.Attribute o m apos) (e::es) [] pos) (tD X.K M H0 λρ=>EJ m F (go ρ) (fa ρ)):=
 ⟨(bF q.h c j G l n .nil p r.h a b s).mono λ_ _ _ h=>Vp i h⟩
theorem Mz{pl:Sem Bool}(i:Eo X.K C)(c:D7 X.K C)(j:HG X.K C m fn)(G:Aw X.prog X.w X.K X.mg X.base CX k fn fd ps (Bc X.K F))(l:AR k X.A)(n:Binds X.K fd ps [])(p:E6 CX X E)(r:JE X o (tD X.K M H0 go))
  (u:Ar (.Call (.Attribute o m apos) [] [] pos) X.env=(do
   let g <- Ar o X.env
   standAt apos.atName
   let(f,b) <- D5 [g] (getMethod g m pl)
   callWith pos f b (AG pos (AO [] X.env)) (Fi pos (Fj [] X.env))):=by rfl):
  JE X (.Call (.Attribute o m apos) [] [] pos) (tD X.K M H0 λρ=>EJ m F (go ρ) (some [])):=
 ⟨(bG r.h c j G l n .nil p u).mono λN H Q h=>by
   obtain⟨ρ,d,R,e,q⟩:=Vp (fa:=λ_=>some []) (E:=E) i h
   refine⟨ρ,d,R,e,λv x s y=>?_⟩
   obtain⟨a,z,B,I,J,L,t⟩:=q v x s y
   exact⟨a,z,B,I,J,L,gU t⟩⟩
end
def CY(K:AV)(H:Hp)(c:List (List D))(bs:List Ad):Prop:=Paired (λz b=>∃a,H b=some (.lst a)/\∀N,Ae K N H z a) c bs
theorem CY.same{K:AV}{H H':Hp}{a:List (List D)}{bs:List Ad}(h:CY K H a bs)(s:Ak H H'):CY K H' a bs:=Paired.mapP h λ_ _ ⟨b,c,d⟩=>⟨b,s _ _ c,λN=>(d N).same s⟩
theorem CY.has{K:AV}{H:Hp}:∀{c:List (List D)}{bs:List Ad},CY K H c bs->∀b∈bs,H b≠none
 |_,_,.nil,_,a=>nomatch a
 |_,_,.cons ⟨f,d,_⟩ t,b,a=>by
  rcases Bm.mp a with e|e
  ·rw[e,d];exact λz=>nomatch z
  ·exact CY.has t b e
theorem CY.snoc{K:AV}{H:Hp}{z:List D}{b:Ad}:∀{a:List (List D)}{bs:List Ad},CY K H a bs->(∃vs,H b=some (.lst vs)/\∀N,Ae K N H z vs)->CY K H (a++[z]) (bs++[b])
 |_,_,.nil,h=>.cons h .nil
 |_,_,.cons c t,h=>.cons c (CY.snoc t h)
def MA(K:AV)(M:Fb)(g:Hp)(f:VE->Option (List (List D))):TE:=λh H Q=>∃d e,A3 K M g d h H/\f d=some e /\
 ∀a bs c,Ak H c->H a=none->(∀b∈bs,H b=none)->bs.Nodup->a∉bs->c a=some (.lst (bs.map V.ref))->CY K c e bs->Q (.ref a) c
def gW(K:AV)(e:VE->Option (List D)):TE:=λa H Q=>∃M b,tF K M b e a H Q
def Vr(K:AV)(f:VE->Option (List D)):TI:=λa H R=>∃M b,tI K M b f a H R
@[simp] def MB(o:Option (List D)):Option (List D):=o.bind λz=>if Dw z=true then some z else none
def F5(b:D->VE->Option VE)(e:VE->Option (List D))(ρ:VE):List D->Option (List (List D))
 |[]=>some []
 |d::c=>match b d ρ with
  |none=>none
  |some a=>Zb (MB (e a)) (F5 b e ρ c)
@[simp] def FC(k:Nat)(a:List Nat)(f:VE->Option (List D))(b:D->VE->Option VE)(e:VE->Option (List D)):VE->Option (List (List D)):=λc=>(Zl (f (c.map CW))).bind (F5 b e (ZO k a (c.map CW)))
section
variable{X:Cx}{K:AV}{M:Fb}{H0:Hp}{pos:AT}{tg elt iter:Expr}{scope:Scope}{ws:List Nat}{f:VE->Option (List D)}{b:D->VE->Option VE}{e:VE->Option (List D)}{k:Nat}{oix:List Nat}
theorem Vs(hw:∀j∈ws,j<k){σ:St}{H:Hp}{Q:VK}(h:MA K M H0 (FC k oix f b e) σ H Q):LO k oix (Vr K f) (OR K ws b) Oz (gW K e) σ H Q:=by
 obtain⟨o,L,R,ex,q⟩:=h
 try dsimp only at ex q
 unfold FC at ex
 cases w:Zl (f (o.map CW))with
 |none=>rw[w]at ex;cases ex
 |some l=>
  rw[w]at ex
  obtain⟨w,hz⟩:=LV w
  have ex:F5 b e (ZO k oix (o.map CW)) l=some L:=ex
  have R0:=R.all
  refine⟨_,_,o.map CW,l,R0,w,λJ H1 O ok=>?_⟩
  refine⟨l.length,λi ys T=>i<=l.length/\Ak H1 T/\∃(bs:List Ad) (d Ay:List (List D)),ys=bs.map V.ref/\bs.length=i/\(∀b∈bs,H b=none)/\bs.Nodup/\CY K T d bs/\F5 b e (ZO k oix (o.map CW)) (l.drop i)=some Ay/\d++Ay=L,
   ⟨Dq _,Ak.refl _,[],[],L,rfl,rfl,(λc h=>nomatch h),List.nodup_nil,.nil,ex,rfl⟩,?_⟩
  rintro i ys T ⟨hle,v,bs,d,Ay,rfl,r,A,B,U,g,Y⟩
  obtain⟨ok1,ok2⟩:=ok _ T (Step.of_same v) i
  by_cases m:i<l.length
  ·obtain⟨go,y⟩:=ok1 l[i] (DG m)
   rw[LQ m]at g
   simp only[F5]at g
   refine .inr ⟨go,m,by rw[Bb,r];omega,λC H'=>Ak H1 H'/\∃(bs:List Ad) (d Ay:List (List D)),C=bs.map V.ref/\bs.length=i+1/\(∀b∈bs,H b=none)/\bs.Nodup/\CY K H' d bs/\F5 b e (ZO k oix (o.map CW)) (l.drop (i+1))=some Ay/\d++Ay=L,λC H' z=>⟨m,z⟩,λx H3 yl=>?_⟩
   obtain⟨E,hd⟩:=y x H3 yl
   have R3:=((R0.st O).st v).st E
   obtain⟨Rc,nf⟩:=R3.comp k oix
   cases hb:b l[i] (ZO k oix (o.map CW))with
   |none=>rw[hb]at g;cases g
   |some s=>
    rw[hb]at g
    simp only at g
    obtain⟨z,t,u,e2,e3⟩:=Jb g
    cases he:e s with
    |none=>rw[he]at u;cases u
    |some z'=>
     rw[he]at u
     simp only[MB,AL]at u
     split at u
     ·next hn=>
      cases u
      refine⟨_,H3,ZO k oix (o.map CW),l[i],s,Rc,hd.nw λa ha=>.inl (nf a ha),hb,λσ4 R4 S4 w4=>⟨?_,?_⟩⟩
      ·apply HS
       intro j
       rw[Kg,Kg]
       exact w4 _ λhj=>absurd (hw _ hj) (by omega)
      ·unfold Oz
       refine FR ?_
       refine⟨_,H3,s,z,R4,he,λa vs H6 s6 G ha2 hd6=>⟨(v.trans E).trans s6,bs++[a],d++[z],t,by simp,by simp[r],λc g=>?_,?_,(U.same (E.trans s6)).snoc ⟨vs,ha2,λN=>Ae.free _ _ hn hd6⟩,e2,?_⟩⟩
       ·rcases CT.mp g with h|h
        ·exact A c h
        ·simp only[D3]at h
         rw[h];exact((O.trans v).trans E).free G
       ·refine Jr.mpr ⟨B,by simp,λc g c' I ec=>?_⟩
        simp only[D3]at I
        rw[ec,I]at g
        exact U.has a g (E.free G)
       ·subst e3;rw[<- Y];simp
     ·cases u
  ·have ei:i=l.length:=by omega
   rw[LP (by omega)]at g
   cases g
   rw[CG]at Y
   subst Y
   refine .inl ⟨ok2 ei,by rw[Bb,r];omega,λp n=>?_⟩
   exact q p bs _ ((O.trans v).trans (Z3 n)) ((O.trans v).free n) A B (λh=>U.has p h n) ZP (U.same (Z3 n))
theorem PI.all(h:∀M H0,JI X tg iter (tI K M H0 f)):PI X tg iter (Vr K f):=λa s b H R I ⟨M,H0,z⟩=>(h M H0).h a s b H R I z
theorem gX(own c:List Af)(oix:List Nat)(S:ER own c scope X.env.scope)(l:oix.map (λj=>X.N[j]?)=c.map some)(n:X.calm=true)(o:∀M H0,JI X tg iter (tI K M H0 f))(p:∀C d g i a m H',JG (B2 X own c scope C d g i a) tg (tG K m H' ws b))
  (q:∀C d g i a m H',JE (B2 X own c scope C d g i a) elt (tF K m H' e)) (r:∀j∈ws,j<own.length) (t:∀x,E2 iter X.env x=AB x:=by intro _;rfl):
  JE X (.ListComp elt [⟨tg,iter,[],0⟩] scope pos) (MA K M H0 (FC own.length oix f b e)):=
 ⟨(Ta own c oix S l n (PI.all o) (λC d g i a=>PG.all λM H0=>(p C d g i a M H0).h) (λC d g i a=>OA) (λC d g i a=>(λk s u H Q I ⟨M,H0,z⟩=>(q C d g i a M H0).h k s u H Q I z)) t).mono λ_ _ _ z=>Vs r z⟩
theorem gY(own c:List Af)(oix:List Nat){i:Nat}{x:Af}{d g:AT}(S:ER own c scope X.env.scope)(o:oix.map (λj=>X.N[j]?)=c.map some)(t:X.calm=true)(u:X.N.Nodup)(p:X.N[i]?=some x)(v:X.env.scope.names.lookup x=some .local)
  (w:∀M H0,JI X tg iter (tI K M H0 f)) (y:∀C k l m a q H',JG (B2 X own c scope C k l m a) tg (tG K q H' ws b))
  (A:∀C k l m a q H',JE (B2 X own c scope C k l m a) elt (tF K q H' e)) (B:∀j∈ws,j<own.length)
  (r:Dp (.ListComp elt [⟨tg,iter,[],0⟩] scope pos) (some (.Name x d)) g.line X.env=AB true:=by rfl) (E:∀x,E2 iter X.env x=AB x:=by intro _;rfl):
  PS X (.Assign [.Name x d] (.ListComp elt [⟨tg,iter,[],0⟩] scope pos) g) (HD (MA K M H0 (FC own.length oix f b e)) (G3 i)):=
 (OB own c oix S o t u p v (PI.all w) (λC k l m a=>PG.all λM H0=>(y C k l m a M H0).h) (λC k l m a=>OA) (λC k l m a=>(λn s G H Q I ⟨M,H0,z⟩=>(A C k l m a M H0).h n s G H Q I z)) r E).mono λ_ _ _ z=>Vs B z
end
def M1(M:Fb)(x:Ad):Fb:=λb=>M b\/b=x
mutual
/-- no instance within -/
def noI:D->Bool
 |.ins _ _=>false
 |.tup a=>GO a
 |.lst a _=>GO a
 |.non=>true
 |.bl _=>true
 |.int _=>true
 |.str _=>true
 |.ty _=>true
def GO:List D->Bool
 |[]=>true
 |x::a=>noI x&&GO a
end
theorem Vt{b:Bool}{xs:List D}{vs:List V}{C a:Ad}{fs:List (Af×V)}{H:Hp}{x:Ad}(h:H x=some (.ins C a fs))(h':Rd H x (CO b xs vs)):False:=by
 cases b<;>(rcases h' with h'|⟨o,h'⟩<;>rw[h]at h'<;>cases h')
mutual
theorem Aq.noI{K:AV}{N j:Fb}{H:Hp}{x C k:Ad}{fs:List (Af×V)}(g:H x=some (.ins C k fs))(z:∀b,j b->N b\/b=x):∀(d:D)(v:V),L2.noI d=true->Aq K N H d v->Aq K j H d v
 |.non,_,_,h=>by simpa only[Aq]using h
 |.bl _,_,_,h=>by simpa only[Aq]using h
 |.int _,_,_,h=>by simpa only[Aq]using h
 |.str _,_,_,h=>by simpa only[Aq]using h
 |.ty _,_,_,h=>by simpa only[Aq]using h
 |.tup i,v,c,h=>by
  simp only[L2.noI]at c
  simp only[Aq]at h ⊢
  obtain⟨a,f,e,q,r⟩:=h
  exact⟨a,f,e,q,Ae.noI g z i f c r⟩
 |.lst i b,v,c,h=>by
  simp only[L2.noI]at c
  simp only[Aq]at h ⊢
  obtain⟨a,f,e,q,r⟩:=h
  refine⟨a,f,e,?_,Ae.noI g z i f c r⟩
  rcases q with⟨n,q⟩|q
  ·refine .inl ⟨λl=>?_,q⟩
   rcases z a l with y|y
   ·exact n y
   ·subst y;exact Vt g q
  ·exact .inr q
 |.ins _ _,_,c,_=>by simp only[L2.noI]at c;cases c
theorem Ae.noI{K:AV}{N c:Fb}{H:Hp}{x C f:Ad}{fs:List (Af×V)}(d:H x=some (.ins C f fs))(z:∀b,c b->N b\/b=x):∀(xs:List D)(vs:List V),GO xs=true->Ae K N H xs vs->Ae K c H xs vs
 |[],_,_,h=>by simpa only[Ae]using h
 |y::xs,vs,a,h=>by
  simp only[GO,C5]at a
  simp only[Ae]at h ⊢
  obtain⟨v,r,e,q,t⟩:=h
  exact⟨v,r,e,Aq.noI d z y v a.1 q,Ae.noI d z xs r a.2 t⟩
end
structure Dc(K:AV)(M:Fb)(H0:Hp)(x C dx:Ad)(ρ:VE)(ns:List Af)(xs:List D)(σ:St)(H:Hp):Prop where
 rel:A3 K (M1 M x) H0 ρ σ H
 pin:ρ[0]?=some .no/\σ[0]?=some (some (.ref x))
 obj:∃vs,H x=some (.ins C dx (ns.zip vs))/\ns.length=vs.length/\Ae K (Nf (M1 M x) ρ σ) H xs vs
 fr:H0 x=none/\¬ M x
section
variable{K:AV}{M:Fb}{H0 H H':Hp}{x C dx:Ad}{ρ:VE}{ns:List Af}{xs:List D}{σ:St}
theorem Dc.st(R:Dc K M H0 x C dx ρ ns xs σ H)(s:Ak H H'):Dc K M H0 x C dx ρ ns xs σ H':=⟨R.rel.st s,R.pin,by obtain⟨a,b,c,d⟩:=R.obj;exact⟨a,s _ _ b,c,d.same s⟩,R.fr⟩
theorem PM{N:Fb}:∀{c:List (List D)}{bs:List Ad},Paired (λz b=>∃vs,Rd H b (.lst vs)/\Ae K N H z vs) c bs->∀b∈bs,∃vs,Rd H b (.lst vs)
 |_,_,.nil,_,a=>nomatch a
 |_,_,.cons ⟨vs,h,_⟩ t,b,a=>by
  rcases Bm.mp a with e|e
  ·rw[e];exact⟨vs,h⟩
  ·exact PM t b e
theorem MC{fs:List (Af×V)}(c:H x=some (.ins C dx fs)){a:Ad}{vs:List V}(m:M1 M x a)(h:Rd H a (.lst vs)):M a:=by
 rcases m with m|m
 ·exact m
 ·subst m;exact(Vt (b:=false) (xs:=[]) c h).elim
theorem Vu(b:H0 x=none){a:Ad}(m:M1 M x a)(h:H0 a≠none):M a:=by
 rcases m with m|m
 ·exact m
 ·subst m;exact absurd b h
theorem Dc.view(G:Eo K C)(R:Dc K M H0 x C dx ρ ns xs σ H):A3 K M H0 (ρ.set 0 (.val (.ins ns xs))) σ H:=by
 obtain⟨I,t,J,L⟩:=R.obj
 have k:0<ρ.length:=(List.getElem?_eq_some_iff.mp R.pin.1).1
 have nf:∀a,Nf M (ρ.set 0 (.val (.ins ns xs))) σ a->Nf (M1 M x) ρ σ a:=by
  rintro a (h|⟨i,p,b,f,g⟩)
  ·exact .inl (.inl h)
  ·by_cases e:0=i
   ·subst e;rw[Cv k]at f;cases f
   ·rw[Ch e]at f;exact .inr ⟨i,p,b,f,g⟩
 have nx:¬ Nf M (ρ.set 0 (.val (.ins ns xs))) σ x:=by
  rintro(h|⟨i,p,b,f,g⟩)
  ·exact R.fr.2 h
  ·by_cases e:0=i
   ·subst e;rw[Cv k]at f;cases f
   ·rw[Ch e]at f
    obtain⟨a,n,y,_,m,_⟩:=R.rel.slot i _ f
    rw[g]at y
    have N:a=x:=by simpa using y.symm
    exact m (.inr N)
 refine⟨by rw[HL];exact R.rel.len,R.rel.same,λa h=>R.rel.mh a (.inl h),λj s e=>?_,λi j p A b O a f g o r=>?_⟩
 ·by_cases B:0=j
  ·subst B
   rw[Cv k]at e
   cases e
   refine⟨.ref x,by rw[R.pin.2];rfl,?_⟩
   simp only[Aq]
   exact⟨x,C,dx,I,rfl,G,nx,t,J,L.nw λa l=>.inl (nf a l)⟩
  ·rw[Ch B]at e
   have q:=R.rel.slot j s e
   cases s with
   |no=>trivial
   |val d=>obtain⟨v,e,h⟩:=q;exact⟨v,e,h.nw λa l=>.inl (nf a l)⟩
   |own p Q=>obtain⟨a,n,e,f,g,o,r⟩:=q;exact⟨a,n,e,f,λm=>g (.inl m),o,r.nw λa l=>.inl (nf a l)⟩
   |lent p Q=>obtain⟨a,n,e,f,g,o⟩:=q;exact⟨a,n,e,⟨Vu R.fr.1 f.1 f.2,f.2⟩,g,o.nw λa l=>.inl (nf a l)⟩
   |exc c=>exact q
   |pin a=>exact q
   |deep A Y=>
    obtain⟨a,bs,e,T,f,g,o,r⟩:=q
    refine⟨a,bs,e,T,MC t f g,g,λb E=>?_,Paired.mapP r λ_ _ ⟨n,u,w⟩=>⟨n,u,w.nw λa l=>.inl (nf a l)⟩⟩
    obtain⟨n,U⟩:=PM r b E
    exact MC t (o b E) U
 ·have u:¬ 0=i:=λz=>by subst z;rw[Cv k]at f;cases f
  have w:¬ 0=j:=λz=>by subst z;rw[Cv k]at g;cases g
  rw[Ch u]at f
  rw[Ch w]at g
  exact R.rel.inj i j p A b O a f g o r
theorem Dc.put(R:Dc K M H0 x C dx ρ ns xs σ H){f:Af}{d:D}{y:V}{vs:List V}(p:H x=some (.ins C dx (ns.zip vs)))(t:ns.length=vs.length)(u:Ae K (Nf (M1 M x) ρ σ) H xs vs)(hd:Aq K (Nf (M1 M x) ρ σ) H d y):
  Dc K M H0 x C dx ρ (ns++[f]) (xs++[d]) σ (AK H x (.ins C dx ((ns++[f]).zip (vs++[y])))):=by
 have S:Step M (Nf (M1 M x) ρ σ) (Nf (M1 M x) ρ σ) H (AK H x (.ins C dx ((ns++[f]).zip (vs++[y])))):=⟨λc o e z=>by
  by_cases l:c=x
  ·subst l
   rcases z with z|z|z
   ·exact absurd (.inl (.inr rfl)) z
   ·exact absurd z R.fr.2
   ·rw[p]at e;cases e;cases z
  ·rw[Zq l];exact e,λ_ h=>.inl h⟩
 refine⟨⟨R.rel.len,λb o e=>?_,λa h=>?_,λj s e=>?_,R.rel.inj⟩,R.pin,⟨vs++[y],ZP,by simp[t],Ae.step S _ _ (u.append (Ae.cons hd Ae.nil))⟩,R.fr⟩
 ·have:b≠x:=λz=>by rw[z,R.fr.1]at e;cases e
  rw[Zq this];exact R.rel.same b o e
 ·by_cases l:a=x
  ·rw[l,ZP];exact λz=>nomatch z
  ·rw[Zq l];exact R.rel.mh a h
 ·have q:=R.rel.slot j s e
  cases s with
  |no=>trivial
  |val d=>obtain⟨v,e,h⟩:=q;exact⟨v,e,Aq.step S _ _ h⟩
  |own w A=>
   obtain⟨a,m,e,g,i,k,n⟩:=q
   have:a≠x:=λz=>i (.inr z)
   exact⟨a,m,e,g,i,by rw[Zq this];exact k,Ae.step S _ _ n⟩
  |lent w A=>obtain⟨a,m,e,g,i,k⟩:=q;exact⟨a,m,e,g,i.step S (.inr (.inl (Vu R.fr.1 g.1 g.2))),Ae.step S _ _ k⟩
  |exc c=>obtain⟨a,B,e,g,i⟩:=q;exact⟨a,B,e,g,S.kp _ _ i (.inr (.inr rfl))⟩
  |pin a=>exact q
  |deep I J=>
   obtain⟨a,bs,e,E,g,i,k,n⟩:=q
   refine⟨a,bs,e,E,g,i.step S (.inr (.inl (MC p g i))),k,ON S (λb r=>?_) n⟩
   obtain⟨m,G⟩:=PM n b r
   exact MC p (k b r) G
end
def tK(K:AV)(M:Fb)(c:Hp)(C:Ad)(g:VE->List Af->List D->Option (List Af×List D)):TS:=λD a H=>∃x d b ns e,Dc K M c x C d b ns e a H/\∃r,g b ns e=some r/\∀f,Dc K M c x C d b r.1 r.2 a f->D.nx a f
@[simp] def JD(o:Option (List Af×List D))(g:List Af->List D->Option (List Af×List D)):Option (List Af×List D):=o.bind λr=>g r.1 r.2
@[simp] def PN(o:Option Bool)(ns:List Af)(xs:List D):Option (List Af×List D):=match o with
  |some false=>some (ns,xs)
  |_=>none
@[simp] def GP(f:Af)(o:Option D)(ns:List Af)(xs:List D):Option (List Af×List D):=o.bind λd=>if ns.contains f then none else some (ns++[f],xs++[d])
@[simp] def PP(o:Option D):Option D:=o.bind λd=>if noI d=true then some d else none
section
variable{X:Cx}{K:AV}{M:Fb}{H0:Hp}{C:Ad}{st:As}{Ay body:List As}{g1 g2:VE->List Af->List D->Option (List Af×List D)}{pos pos' vpos:AT}{e c:Expr}{f:VE->Option D}{t:VE->Option Bool}
theorem gZ:JB X [] (tK K M H0 C λ_ ns xs=>some (ns,xs)):=⟨Do.mono λD a H ⟨x,b,c,ns,xs,R,r,e,q⟩=>by cases e;exact q H R⟩
theorem MD(c:JS X st (tK K M H0 C g1))(d:JB X Ay (tK K M H0 C g2)):JB X (st::Ay) (tK K M H0 C λρ ns xs=>JD (g1 ρ ns xs) (g2 ρ)):=⟨(J8 c.h d.h).mono λD g H ⟨x,b,ρ,ns,xs,R,r,e,q⟩=>by
 try dsimp only at e q
 cases h:g1 ρ ns xs with
 |none=>rw[h]at e;cases e
 |some a=>rw[h]at e;exact⟨x,b,ρ,ns,xs,R,a,h,λi f=>⟨x,b,ρ,a.1,a.2,f,r,e,q⟩⟩⟩
theorem g0(i:∀M,JT X c (Bx K M H0 t)):JS X (.If c body [] pos) (tK K M H0 C λρ ns xs=>PN (t ρ) ns xs):=⟨λa s g H D I ⟨x,k,ρ,ns,xs,R,r,e,q⟩=>by
 have d:DP X body (λ_ _ _=>False):=λa s g H D I h=>h.elim
 try dsimp only at e q
 cases f:t ρ with
 |none=>rw[f]at e;cases e
 |some b=>
  cases b with
  |true=>rw[f]at e;cases e
  |false=>
   rw[f]at e;cases e
   refine NW (i (M1 M x)).h d Do a s g H D I ⟨ρ,false,R.rel,f,λj s=>?_⟩
   refine FS ?_
   exact q j (R.st s)⟩
theorem PQ{f:Af}{y:V}:∀{ns:List Af}{vs:List V},ns.length=vs.length->ns.contains f=false->DD f y (ns.zip vs)=(ns++[f]).zip (vs++[y])
 |[],[],_,_=>rfl
 |n::ns,v::vs,b,h=>by
  simp only[List.contains_cons,Bool.or_eq_false_iff]at h
  have a:¬ n=f:=λz=>by rw[z]at h;simp at h
  simp only[ET,DD,if_neg a,Cq]
  rw[PQ (by simpa using b) h.2]
theorem Vv{fn a:Af}(m:X.K=K)(n:D7 K C)(o:Br K C fn)(p:X.N[0]?=some a)(t:C0 X.env.scope a)(u:∀M,JE X e (tD K M H0 f))(hd:(a==("__debug__":Af))=false:=by decide)(g:(a==("__classdict__":Af))=false:=by decide)
  (v:Dp e (some (.Attribute (.Name a vpos) fn pos')) pos.line X.env=AB false:=by rfl):
  JS X (.Assign [.Attribute (.Name a vpos) fn pos'] e pos) (tK K M H0 C λρ ns xs=>if ns.length<1000 then GP fn (f ρ) ns xs else none):=⟨λb s w H D I ⟨x,z,ρ,ns,xs,R,r,e,q⟩=>by
 subst m
 try dsimp only at e q
 split at e
 ·next c=>
  cases i:f ρ with
  |none=>rw[i]at e;cases e
  |some d=>
   rw[i]at e
   simp only[GP,AL]at e
   split at e
   ·cases e
   ·next A=>
    cases e
    refine Sj (Ex p t hd g) (u (M1 M x)).h v b s w H D I ⟨ρ,d,R.rel,i,λy G k B=>⟨.ref x,R.pin.2,?_⟩⟩
    obtain⟨J,l,j,E⟩:=(R.st k).obj
    refine⟨x,C,z,_,rfl,l,n,o,by rw[List.length_zip,<- j,Nat.min_self];exact c,?_⟩
    rw[PQ j (by simpa using A)]
    exact q _ ((R.st k).put l j E B)
 ·cases e⟩
theorem g6{fn c:Af}(v:X.K=K)(w:Eo K C)(z:D7 K C)(A:Br K C fn)(B:X.N[0]?=some c)(E:C0 X.env.scope c)(G:∀M,JE X e (tD K M H0 f))(hd:(c==("__debug__":Af))=false:=by decide)(l:(c==("__classdict__":Af))=false:=by decide)
  (J:Dp e (some (.Attribute (.Name c vpos) fn pos')) pos.line X.env=AB false:=by rfl):
  JS X (.Assign [.Attribute (.Name c vpos) fn pos'] e pos) (tK K M H0 C λρ ns xs=>if ns.length<1000 then GP fn (PP (f (ρ.set 0 (.val (.ins ns xs))))) ns xs else none):=⟨λg s L H D I ⟨x,O,ρ,ns,xs,R,r,e,q⟩=>by
 subst v
 try dsimp only at e q
 split at e
 ·next j=>
  cases m:f (ρ.set 0 (.val (.ins ns xs)))with
  |none=>rw[m]at e;cases e
  |some d=>
   rw[m]at e
   have e:GP fn (if noI d=true then some d else none) ns xs=some r:=e
   by_cases a:noI d=true
   ·rw[if_pos a]at e
    simp only[GP,AL]at e
    split at e
    ·cases e
    ·next Q=>
     cases e
     refine Sj (Ex B E hd l) (G M).h J g s L H D I ⟨_,d,R.view w,m,λy H1 t T=>⟨.ref x,R.pin.2,?_⟩⟩
     obtain⟨vs,n,o,U⟩:=(R.st t).obj
     refine⟨x,C,O,_,rfl,n,z,A,by rw[List.length_zip,<- o,Nat.min_self];exact j,?_⟩
     rw[PQ o (by simpa using Q)]
     refine q _ ((R.st t).put n o U (Aq.noI n (λb k=>?_) _ _ a T))
     rcases k with(k|k)|⟨i,Y,fl,p,z2⟩
     ·exact .inl (.inl k)
     ·exact .inr k
     ·refine .inl (.inr ⟨i,Y,fl,?_,z2⟩)
      by_cases u:0=i
      ·subst u;rw[R.pin.1]at p;cases p
      ·rw[Ch u];exact p
   ·rw[if_neg a]at e;cases e
 ·cases e⟩
theorem g8{f:VE->Option (List (List L2.D))}(h:JE X e (MA K M H0 f)):JE X e (tD K M H0 λρ=>(f ρ).map λc=>L2.D.lst (c.map λz=>L2.D.lst z)):=⟨h.h.mono λl H Q ⟨ρ,d,R,e,q⟩=>by
 try dsimp only at e q
 cases g:f ρ with
 |none=>rw[g]at e;cases e
 |some c=>
  rw[g]at e
  cases e
  refine⟨ρ,c,R,g,λa bs j s m n x y o p=>q _ _ s ?_⟩
  simp only[Aq]
  refine⟨a,bs.map V.ref,rfl,.of (R.fresh m) o,?_⟩
  have:∀{c:List (List L2.D)} {bs:List Ad},(∀b∈bs,H b=none)->CY K j c bs->Ae K (Nf M ρ l) j (c.map λz=>L2.D.lst z) (bs.map V.ref):=by
   intro c bs k h
   induction h with
   |nil=>exact Ae.nil
   |cons h t r=>
    obtain⟨u,v,w⟩:=h
    refine Ae.cons ?_ (r λb i=>k b (BA _ i))
    simp only[Aq]
    exact⟨_,u,rfl,.of (R.fresh (k _ Bw)) v,w _⟩
  exact this n p⟩
end
def ME(K:AV)(C:Ad)(F:List Sl->Option (List Af×List D)):Sp:=λh i Q _=>∃x c f N g r H,h=V.ref x::f/\i=AK (AK H c (.own x)) x (.ins C c [])/\H x=none/\H c=none/\c≠x/\(∀a,N a->H a≠none)/\AW K N H g f/\F g=some r /\
 ∀d e,Ak H d->d x=some (.ins C c (r.1.zip e))->r.1.length=e.length->Ae K (λb=>N b\/b=x) d r.2 e->Q .non d
def JH(a n:Nat)(g:VE->List Af->List D->Option (List Af×List D)):List Sl->Option (List Af×List D):=λb=>if b.length+1=a then g (.no::(b++BZ (n-a) .no)) [] []else none
theorem A3.consI{K:AV}{N:Fb}{H:Hp}{ρ:VE}{σ:St}{x C l:Ad}(R:A3 K N H ρ σ H)(r:H x=none)(hd:H l=none)(t:l≠x):A3 K (M1 N x) H (.no::ρ) (some (.ref x)::σ) (AK (AK H l (.own x)) x (.ins C l [])):=by
 have sm:Ak H (AK (AK H l (.own x)) x (.ins C l [])):=(Z3 hd).trans (Z3 (by rw[Zq (BX t)];exact r))
 have nf:∀a,Nf (M1 N x) (.no::ρ) (some (.ref x)::σ) a->Nf N ρ σ a\/H a=none:=by
  rintro a ((h|h)|⟨i,n,b,f,g⟩)
  ·exact .inl (.inl h)
  ·rw[h];exact .inr r
  ·cases i with
   |zero=>cases f
   |succ i=>exact .inl (.inr ⟨i,n,b,f,g⟩)
 refine⟨by simp[R.len],sm,λa h=>?_,λj s e=>?_,λi j n u b w a f g k o=>?_⟩
 ·rcases h with h|h
  ·exact λz=>R.mh a h (sm.free z)
  ·rw[h,ZP];exact λz=>nomatch z
 ·cases j with
  |zero=>cases e;trivial
  |succ j=>
   have q:=R.slot j s e
   show OI K (M1 N x) _ H _ s (σ[j]?.join)
   cases s with
   |no=>trivial
   |val d=>obtain⟨v,e,h⟩:=q;exact⟨v,e,(h.nw nf).same sm⟩
   |own n y=>
    obtain⟨a,p,e,f,g,k,o⟩:=q
    refine⟨a,p,e,f,λm=>?_,sm _ _ k,(o.nw nf).same sm⟩
    rcases m with m|m
    ·exact g m
    ·rw[m,r]at k;cases k
   |lent n y=>obtain⟨a,p,e,f,g,k⟩:=q;exact⟨a,p,e,⟨.inl f.1,f.2⟩,g.same sm,(k.nw nf).same sm⟩
   |exc c=>obtain⟨a,A,e,f,g⟩:=q;exact⟨a,A,e,f,sm _ _ g⟩
   |pin a=>exact q
   |deep u J=>obtain⟨a,bs,e,B,f,g,k,o⟩:=q;exact⟨a,bs,e,B,.inl f,g.same sm,λb E=>.inl (k b E),Paired.mapP o λ_ _ ⟨p,G,I⟩=>⟨p,G.same sm,(I.nw nf).same sm⟩⟩
 ·cases i with
  |zero=>cases f
  |succ i=>
   cases j with
   |zero=>cases g
   |succ j=>rw[R.inj i j n u b w a f g k o]
theorem g9{P:AS}{w:Ai}{K:AV}{mg:Af->Option Aa}{base:Al}{x a:Af}{st:As}{f C:Ad}{fd:A5}{N ps:List Af}{k:Nat}{g:VE->List Af->List D->Option (List Af×List D)}(F:Gr K x a st f fd)(S:Zx N ps (Zi st))(B:ps.length<=N.length)
  (i:∀(c:Aa) (A:Ah) (outer:List Env) (s:Ac) (H:Hp) (E:XK) (M:Fb) (G:Hp),AR k (A.deeper (Bt a (Zi st) s.heap.objs.size f c)) ->
   JB (Ey A6 P w K mg base N a (Zi st) f c A outer s H E).nox (DE st) (tK K M G C g)):Aw P w K mg base A6 (k+1) f fd ps (ME K C (JH ps.length N.length g)):=by
 refine F.ok S (λu H Q E h=>?_) (λc A outer s H u Q E I h=>?_)
 ·obtain⟨x,v,j,y,J,r,z,l,_,_,_,_,m,e,d,q⟩:=h
  unfold JH at d
  split at d
  ·next o=>rw[l,A9,<- e.length];exact o
  ·cases d
 ·obtain⟨x,v,j,y,J,r,z,l,L,p,hd,t,m,e,d,q⟩:=h
  refine⟨_,(i c A outer s H E y z I).h,?_⟩
  unfold JH at d
  split at d
  ·next o=>
   have O:j.length+1=ps.length:=by rw[<- e.length];exact o
   have T:Z7 N u=some (.ref x)::(j.map some++BZ (N.length-ps.length) none):=by
    unfold Z7;rw[l,AY,A9,O,Cq]
   rw[T]
   have U:=OT m e (N.length-ps.length)
   subst L
   refine⟨x,v,_,[],[],⟨U.consI p hd t,⟨rfl,rfl⟩,⟨[],ZP,rfl,Ae.nil⟩,p,λn=>m x n p⟩,r,d,λY R2=>?_⟩
   obtain⟨ws,h1,h2,h3⟩:=R2.obj
   exact q Y ws R2.rel.same h1 h2 (h3.nw λb i=>.inl (.inl i))
  ·cases d
section
variable{X:Cx}{M:Fb}{H0:Hp}{C:Ad}{CX:DS}{k:Nat}{f:Ad}{fd:A5}{ps:List Af}{E:XK}{x:Af}{p pos:AT}{e:Expr}{es:List Expr}{fa:VE->Option (List Sl)}{F:List Sl->Option (List Af×List D)}
@[simp] def MF(F:List Sl->Option (List Af×List D))(o:Option (List Sl)):Option D:=o.bind λa=>(F a).map λr=>D.ins r.1 r.2
theorem hD(t:Eo X.K C)(u:Mk X.K C f)(G:Aw X.prog X.w X.K X.mg X.base CX k f fd ps (ME X.K C F))(v:AR (k+1) X.A)(B:Gl X x)(I:X.mg x=some (.ref C))(a:Binds X.K fd ps [])(J:E6 CX X E)
  (L:JA X (e::es) (CC X.K M H0 fa)) (c:(x==("__debug__":Af))=false:=by decide) (N:AO (e::es) X.env=(false,Ar e X.env)::AO es X.env:=by exact Df (λ_ _ z=>nomatch z)) (g:(AG pos (AO es X.env)).any (·.1)=false:=by rfl):
  JE X (.Call (.Name x p) (e::es) [] pos) (tD X.K M H0 λρ=>MF F (fa ρ)):=⟨(bI u G v B I a .nil J L.h c N g).mono λO H Q ⟨ρ,d,R,e,q⟩=>by
 try dsimp only at e q
 cases i:fa ρ with
 |none=>rw[i]at e;cases e
 |some j=>
  rw[i]at e
  simp only[MF,AL]at e
  cases l:F j with
  |none=>rw[l]at e;cases e
  |some r=>
   rw[l]at e;cases e
   refine⟨ρ,j,R,i,λT U m Y y o s hd n=>⟨y,o,T++[],Nf M ρ O,j,r,U,rfl,rfl,s,hd,n,(R.st m).nh,by rw[CG];exact Y,l,λH2 ws s2 h2 hl hw=>⟨rfl,q _ _ (m.trans s2) ?_⟩⟩⟩
   simp only[Aq]
   exact⟨y,C,o,ws,rfl,t,(R.st m).fresh s,h2,hl,hw.nw λb a=>.inl (.inl a)⟩⟩
end
section
variable{Y:Cx}{K:AV}{M:Fb}{H0:Hp}{e:Expr}{es:List Expr}{pos p:AT}{fa:VE->Option (List Sl)}{x:Af}
theorem hE{F:List Sl->Option Af}{k:Nat}{fn C:Ad}{fd:A5}{ps:List Af}(nx:KY Y)(hK:Y.K=K)(hC:Eo K C)(J:Mk Y.K C fn)(G:Aw Y.prog Y.w Y.K Y.mg Y.base (Mv Y.prog Y.w) k fn fd ps (KZ K F))(hr:AR (k+1) Y.A)(hg:Gl Y x)(hm:Y.mg x=some (.ref C))(hb:Binds Y.K fd ps [])
  (ha:JA Y (e::es) (CC K M H0 fa)) (O:(x==("__debug__":Af))=false:=by decide) (he:AO (e::es) Y.env=(false,Ar e Y.env)::AO es Y.env:=by exact Df (λ_ _ z=>nomatch z)) (Q:(AG pos (AO es Y.env)).any (·.1)=false:=by rfl):
  XE Y K M H0 (.Call (.Name x p) (e::es) [] pos) (λρ=>(fa ρ).bind λj=>F (.val (.ins [] [])::j)):=⟨λm s T H ρ c I R q=>by
 cases U:fa ρ with
 |none=>rw[U]at q;cases q
 |some j=>
  rw[U]at q
  have q:F (.val (.ins [] [])::j)=some c:=q
  refine IM (IG I hg hm ?_ O)
  refine callWith_K (h₀:=Y.base) I.ok.mod.kin J.kp (DQ (ha.h pos m s T H (λl d=>Ak H d/\AW K (Nf M ρ T) d j l) I ⟨ρ,j,R,U,λl d sm h1=>⟨sm,h1⟩⟩) (λg b ⟨l,d,o,r,sm,h1⟩=>⟨o.kIn,?_⟩) λe s' z=>(nx e s' z).elim) he Q
  have L:=Inv.made (C:=C) o
  have t:d (b.heap.objs.size+1)=none:=o.hok.fresh (Nat.le_succ _)
  have hfd:d b.heap.objs.size=none:=o.hok.fresh (Bf _)
  have hne:b.heap.objs.size≠b.heap.objs.size+1:=BS (LI _)
  generalize y:AK (AK d b.heap.objs.size (.own (b.heap.objs.size+1))) (b.heap.objs.size+1) (.ins C b.heap.objs.size [])=B at L
  have i:Ak d B:=by rw[<- y];exact(Z3 hfd).trans (Z3 (by rw[Zq (BX hne)];exact t))
  have nh:=(R.st sm).nh
  have sp:KZ K F (.ref (b.heap.objs.size+1)::l) B (λ_ _=>False) (λv _ N=>∃D,v=.ref D/\nsIn K BD c=some (some (.ref D))/\Ak B N):=by
   refine⟨Nf M ρ T,.val (.ins [] [])::j,c,λa h z=>nh a h (i.free z),⟨_,l,rfl,?_,h1.same i⟩,q,λD N e1 e2=>⟨D,rfl,e1,e2⟩⟩
   simp only[B1,Aq]
   exact⟨_,C,b.heap.objs.size,[],rfl,hC,λn=>nh _ n t,by rw[<- y,ZP];rfl,rfl,Ae.nil⟩
  have r2:Am (V.ref (b.heap.objs.size+1)::l) (Bv (b.heap.objs.size+1)::g):=.cons rfl r
  have hl:(Bv (b.heap.objs.size+1)::g++[]).length=ps.length:=by rw[CG,<- r2.length];exact G.len _ _ _ _ sp
  have bd:=hb _ (Bv (b.heap.objs.size+1)::g) L.kIn hl
  rw[CG]at bd
  refine wpAny_call (Sg (f:=fn) o.kIn J.makes J.init (beq_iff_eq.mp J.fn) (IL (G.run _ Y.stack _ B ⟨Bv (b.heap.objs.size+1)::g,[]⟩ (Bv (b.heap.objs.size+1)::g) _ _ _ (hr.make C g []) (L.env0.make C g []) bd r2 sp) λr s' E=>?_))
  cases r with
  |error v=>
   obtain⟨a,C',N,e1,os,ba,fl,D,e2,e3,e4⟩:=E
   cases e2
   exact⟨C',by rw[hK];exact e3,a,B,N,_,e1,L,sm.trans i,os,ba,fl⟩
  |ok f=>
   cases f with
   |ret u=>obtain⟨_,_,_,_,_,_,_,z⟩:=E;exact z.elim
   |next=>exact E.elim
   |brk=>exact E.elim
   |cont=>exact E.elim⟩
end
def M3(M:Fb)(a:Ad)(bs:List Ad):Fb:=λx=>M x\/x=a\/x∈bs
structure Cr(K:AV)(M:Fb)(H0:Hp)(k:Nat)(a:Ad)(bs:List Ad)(ρ:VE)(zs:List (List D))(σ:St)(H:Hp):Prop where
 rel:A3 K (M3 M a bs) H0 ρ σ H
 slot:ρ[k]?=some (.deep zs (some a))
 out:H a=some (.lst (bs.map V.ref))
 ins:CY K H zs bs
 no:∀z∈zs,Dw z=true
 nd:bs.Nodup
 ne:a∉bs
 fr:∀x,x=a\/x∈bs->H0 x=none/\¬ M x
def hG(K:AV)(M:Fb)(d:Hp)(k:Nat)(a:Ad)(bs:List Ad)(D:EZ):An->Prop
 |.next e=>∀f c b,Cr K M d k a bs e f c b->D.nx c b
 |.ret r=>∀v b,Ak d b->Hc K M d b r v->D.rt v b
 |_=>False
def Ir(K:AV)(M:Fb)(b:Hp)(k:Nat)(g:VE->An):TS:=λD d H=>∃a bs c e,Cr K M b k a bs c e d H/\hG K M b k a bs D (g c)
def JJ(p:Prop)(r:An):An:=@ite _ p (Fp p) r .fail
theorem Vw{p:Prop}{r:An}(h:p):JJ p r=r:=by unfold JJ;exact @if_pos _ (Fp p) h _ _ _
theorem hJ{p:Prop}{r:An}(h:JJ p r≠.fail):p:=by
 refine Classical.byContradiction λz=>h ?_
 unfold JJ;exact @if_neg _ (Fp p) z _ _ _
def Hr(k:Nat)(ρ:VE)(r:An):An:=match r with
 |.next a=>JJ (a[k]?=ρ[k]?) (.next a)
 |.ret r=>.ret r
 |_=>.fail
@[simp] def K1(r:An):An:=match r with
  |.ret r=>.ret r
  |_=>.fail
def Iu(h:Ad->An):An:=@ite _ (∀a,h a=h 0) (Fp _) (h 0) .fail
theorem hQ{h:Ad->An}{r:An}(e:∀a,h a=r):Iu h=r:=by
 unfold Iu
 rw[@if_pos _ (Fp _) λa=>(e a).trans (e 0).symm];exact e 0
theorem hR{h:Ad->An}(e:Iu h≠.fail)(a:Ad):h a=Iu h:=by
 unfold Iu at e ⊢
 by_cases p:∀a,h a=h 0
 ·rw[@if_pos _ (Fp _) p];exact p a
 ·rw[@if_neg _ (Fp _) p]at e;exact absurd rfl e
section
variable{X:Cx}{K:AV}{M:Fb}{H0 H H':Hp}{k:Nat}{a:Ad}{bs:List Ad}{ρ ρ':VE}{zs:List (List D)}{σ σ':St}{st:As}{Ay:List As}{g g1 g2:VE->An}{pos:AT}
theorem Vx{r:Rv}{v:V}(h:Hc K (M3 M a bs) H0 H' r v):Hc K M H0 H' r v:=by
 cases r with
 |val d=>exact Aq.nw h λx b=>.inl (.inl b)
 |own k l=>
  obtain⟨c,f,e,g,i,j⟩:=h
  exact⟨c,f,e,g,i,j.nw λx b=>.inl (b.imp .inl id)⟩
theorem CY.step{M N d:Fb}(S:Step M N d H H'):∀{zs:List (List D)}{bs:List Ad},(∀b∈bs,M b)->(∀z∈zs,Dw z=true)->CY K H zs bs->CY K H' zs bs
 |_,_,_,_,.nil=>.nil
 |_,_,a,c,.cons ⟨e,f,g⟩ t=>.cons ⟨e,S.kp _ _ f (.inr (.inl (a _ Bw))),λh=>Ae.free _ _ (c _ Bw) (Ae.step S _ _ (g N))⟩ (CY.step S (λb i=>a b (BA _ i)) (λz j=>c z (BA _ j)) t)
theorem Cr.over(R:Cr K M H0 k a bs ρ zs σ H)(c:A3 K (M3 M a bs) H0 ρ' σ' H')(S:Step (M3 M a bs) (Nf (M3 M a bs) ρ σ) (Nf (M3 M a bs) ρ' σ') H H')(d:ρ'[k]?=ρ[k]?):Cr K M H0 k a bs ρ' zs σ' H':=
 ⟨c,d.trans R.slot,S.kp _ _ R.out (.inr (.inl (.inr (.inl rfl)))),R.ins.step S (λb e=>.inr (.inr e)) R.no,R.no,R.nd,R.ne,R.fr⟩
theorem K2(h:∀M,JS X st (tS K M H0 g)):JS X st (Ir K M H0 k λρ=>Hr k ρ (g ρ)):=⟨λb s σ H D I ⟨a,bs,ρ,zs,R,q⟩=>by
 refine(h (M3 M a bs)).h b s σ H D I ⟨ρ,R.rel,?_⟩
 try dsimp only at q
 cases c:g ρ with
 |fail=>rw[c]at q;exact q
 |brk ρ'=>rw[c]at q;exact Bd q
 |cont ρ'=>rw[c]at q;exact Bd q
 |ret r=>rw[c]at q;exact λv H' e f=>q v H' e (Vx f)
 |next ρ'=>
  rw[c]at q
  simp only[Hr]at q
  have d:ρ'[k]?=ρ[k]?:=hJ λz=>by rw[z]at q;exact q
  rw[Vw d]at q
  exact λσ' H' i j=>q _ _ _ (R.over i j d)⟩
theorem JL(e:JS X st (Ir K M H0 k g1))(f:JB X Ay (Ir K M H0 k g2)):JB X (st::Ay) (Ir K M H0 k λρ=>Zg (g1 ρ) g2):=⟨(J8 e.h f.h).mono λD σ H ⟨a,bs,ρ,zs,R,q⟩=>by
 try dsimp only at q
 refine⟨a,bs,ρ,zs,R,?_⟩
 cases b:g1 ρ with
 |fail=>rw[b]at q;exact q
 |brk ρ'=>rw[b]at q;exact Bd q
 |cont ρ'=>rw[b]at q;exact Bd q
 |next c=>rw[b]at q;exact λd g j i=>⟨a,bs,c,d,i,q⟩
 |ret r=>rw[b]at q;exact q⟩
theorem hT(c:VE->Bool)(b:JB X Ay (tS K M H0 g1))(d:JB X Ay (tS K M H0 g2)):JB X Ay (tS K M H0 λρ=>My (c ρ) (g1 ρ) (g2 ρ)):=⟨λa s σ H D I ⟨ρ,R,q⟩=>by
 dsimp only[My]at q
 split at q
 ·exact b.h a s σ H D I ⟨ρ,R,q⟩
 ·exact d.h a s σ H D I ⟨ρ,R,q⟩⟩
theorem PR:JB X Ay (tS K M H0 λ_=>.fail):=⟨λa s σ H D I ⟨ρ,R,q⟩=>q.elim⟩
theorem Vy{b:D->VE->Option VE}{e:VE->Option (List D)}{ρ:VE}:∀{g:List D}{zs:List (List D)},F5 b e ρ g=some zs->∀z∈zs,Dw z=true
 |[],_,h,z,c=>by cases h;cases c
 |d::g,_,h,z,c=>by
  simp only[F5]at h
  split at h
  ·cases h
  ·next f _=>
   obtain⟨y,m,a,j,k⟩:=Jb h
   subst k
   rcases Bm.mp c with w|w
   ·subst w
    cases i:e f with
    |none=>rw[i]at a;cases a
    |some n=>
     rw[i]at a
     simp only[MB,AL]at a
     split at a
     ·next l=>cases a;exact l
     ·cases a
   ·exact Vy j z w
@[simp] def MG(k:Nat)(o:Option (List (List D)))(g:VE->An)(ρ:VE):An:=match ρ[k]?,o with
  |some .no,some zs=>Iu λa=>K1 (g (ρ.set k (.deep zs (some a))))
  |_,_=>.fail
theorem Cr.open{ρ:VE}{σ:St}{H E:Hp}(R:A3 K M H0 ρ σ H)(T:ρ[k]?=some .no)(U:∀z∈zs,Dw z=true)(sm:Ak H E)(Y:H a=none)(h2:∀b∈bs,H b=none)(h3:bs.Nodup)(h4:a∉bs)(G:E a=some (.lst (bs.map V.ref)))(I:CY K E zs bs):
  Cr K M H0 k a bs (ρ.set k (.deep zs (some a))) zs (σ.set k (some (.ref a))) E:=by
 have f:k<ρ.length:=(List.getElem?_eq_some_iff.mp T).1
 have J:k<σ.length:=by rw[<- R.len];exact f
 have L:∀y,H y=none->H0 y=none:=λy m=>R.same.free m
 have fresh:∀y,y=a\/y∈bs->H y=none:=λy m=>by
  rcases m with rfl|m
  ·exact Y
  ·exact h2 y m
 have nf:∀y,Nf (M3 M a bs) (ρ.set k (.deep zs (some a))) (σ.set k (some (.ref a))) y->Nf M ρ σ y\/H y=none:=by
  rintro y ((h|h)|⟨i,t,u,g,l⟩)
  ·exact .inl (.inl h)
  ·exact .inr (fresh y h)
  ·by_cases w:k=i
   ·subst w;rw[Cv f]at g;cases g
   ·rw[Ch w]at g l;exact .inl (.inr ⟨i,t,u,g,l⟩)
 refine⟨⟨by rw[HL,HL];exact R.len,R.same.trans sm,λy m=>?_,λj s e=>?_,λi j t Q u N c g l n q=>?_⟩,Cv f,G,I,U,h3,h4,λy m=>⟨L y (fresh y m),λhM=>R.mh y hM (fresh y m)⟩⟩
 ·rcases m with h|rfl|h
  ·exact λz=>R.mh y h (sm.free z)
  ·rw[G];exact λz=>nomatch z
  ·exact I.has y h
 ·by_cases x:k=j
  ·subst x
   rw[Cv f]at e
   cases e
   refine⟨a,bs,by rw[Cv J];rfl,λc z=>by cases z;rfl,.inr (.inl rfl),.inl G,λb O=>.inr (.inr O),Paired.mapP I λ_ _ ⟨p,A,B⟩=>⟨p,.inl A,B _⟩⟩
  ·rw[Ch x]at e ⊢
   have r:=R.slot j s e
   cases s with
   |no=>trivial
   |val d=>obtain⟨v,o,h⟩:=r;exact⟨v,o,(h.nw nf).same sm⟩
   |own t u=>
    obtain⟨c,p,o,g,l,n,q⟩:=r
    refine⟨c,p,o,g,λz=>?_,sm _ _ n,(q.nw nf).same sm⟩
    rcases z with z|z
    ·exact l z
    ·rw[fresh c z]at n;cases n
   |lent t u=>obtain⟨c,p,o,g,l,n⟩:=r;exact⟨c,p,o,⟨.inl g.1,g.2⟩,l.same sm,(n.nw nf).same sm⟩
   |exc c=>obtain⟨y,C,o,g,l⟩:=r;exact⟨y,C,o,g,sm _ _ l⟩
   |pin c=>exact r
   |deep Q oa=>obtain⟨c,cs,o,z0,g,l,n,q⟩:=r;exact⟨c,cs,o,z0,.inl g,l.same sm,λb O=>.inl (n b O),Paired.mapP q λ_ _ ⟨p,A,B⟩=>⟨p,A.same sm,(B.nw nf).same sm⟩⟩
 ·have A:¬ k=i:=λz=>by subst z;rw[Cv f]at g;cases g
  have B:¬ k=j:=λz=>by subst z;rw[Cv f]at l;cases l
  rw[Ch A]at g n
  rw[Ch B]at l q
  exact R.inj i j t Q u N c g l n q
theorem hU{b:D->VE->Option VE}{e:VE->Option (List D)}{f:VE->Option (List D)}{ws:List Nat}{s m iter:Expr}{scope:Scope}(own c:List Af)(n:List Nat){x:Af}{i l:AT}(S:ER own c scope X.env.scope)(t:n.map (λj=>X.N[j]?)=c.map some)(J:X.calm=true)(L:X.N.Nodup)(u:X.N[k]?=some x)(O:X.env.scope.names.lookup x=some .local)
  (Q:∀M H0,JI X s iter (tI K M H0 f)) (T:∀C v w y d A H',JG (B2 X own c scope C v w y d) s (tG K A H' ws b))
  (U:∀C v w y d A H',JE (B2 X own c scope C v w y d) m (tF K A H' e)) (Y:∀j∈ws,j<own.length) (hr:JB X Ay (Ir K M H0 k g))
  (B:Dp (.ListComp m [⟨s,iter,[],0⟩] scope pos) (some (.Name x i)) l.line X.env=AB true:=by rfl) (hs:∀x,E2 iter X.env x=AB x:=by intro _;rfl):
  JB X (.Assign [.Name x i] (.ListComp m [⟨s,iter,[],0⟩] scope pos) l::Ay) (tS K M H0 λρ=>MG k (FC own.length n f b e ρ) g ρ):=
 ⟨(J8 (gY own c n S t J L u O Q T U Y B hs) hr.h).mono λD' σ H ⟨ρ,R,q⟩=>by
   try dsimp only at q
   unfold MG at q
   split at q
   ·next zs hk o=>
    have E:Iu (λa=>K1 (g (ρ.set k (.deep zs (some a)))))≠.fail:=λz=>by rw[z]at q;exact q
    refine⟨ρ,zs,R,o,λa bs H' sm h1 h2 h3 h4 h5 h6=>?_⟩
    have G:∀z∈zs,Dw z=true:=by
     unfold FC at o
     cases I:Zl (f (ρ.map CW))with
     |none=>rw[I]at o;cases o
     |some ds=>rw[I]at o;exact Vy o
    refine⟨a,bs,_,zs,Cr.open R hk G sm h1 h2 h3 h4 h5 h6,?_⟩
    have ea:=hR E a
    rw[<- ea]at q
    cases p:g (ρ.set k (.deep zs (some a)))with
    |ret r=>rw[p]at q;exact q
    |_=>rw[p]at q;exact Bd q
   ·exact Bd q⟩
@[simp] def hV:Sl->Bool
  |.deep _ _=>true
  |_=>false
@[simp] def K3(ρ:VE):Bool:=ρ.all λs=>!hV s
theorem Vz{j:Nat}{ys:List (List D)}{a:Option Ad}(h:K3 (ρ.set k .no)=true)(b:¬ k=j):ρ[j]?≠some (.deep ys a):=λe=>by
 have c:(ρ.set k .no)[j]?=some (.deep ys a):=by rw[Ch b];exact e
 have:=Eb.mp h _ (LK c)
 simp at this
@[simp] def MH(k:Nat)(ρ:VE):An:=match ρ[k]? with
  |some (.deep (_::zs) a)=>if K3 (ρ.set k .no)=true then .next (ρ.set k (.deep ([]::zs) a))else .fail
  |_=>.fail
theorem Cr.clr0{z:List D}{b:Ad}(R:Cr K M H0 k a (b::bs) ρ (z::zs) σ H)(E:K3 (ρ.set k .no)=true):Cr K M H0 k a (b::bs) (ρ.set k (.deep ([]::zs) (some a))) ([]::zs) σ (AK H b (.lst [])):=by
 have d:k<ρ.length:=(List.getElem?_eq_some_iff.mp R.slot).1
 obtain⟨f0,fM⟩:=R.fr b (.inr Bw)
 have G:a≠b:=λe=>R.ne (e ▸ Bw)
 have I:b∉bs:=(List.nodup_cons.mp R.nd).1
 cases R.ins with
 |cons J ht=>
  obtain⟨vs,hv,_⟩:=J
  have S:Step (λy=>M3 M a (b::bs) y/\y≠b) (Nf (M3 M a (b::bs)) ρ σ) (Nf (M3 M a (b::bs)) ρ σ) H (AK H b (.lst [])):=⟨λc o e z=>by
   by_cases m:c=b
   ·subst m
    rcases z with z|z|z
    ·exact absurd (.inl (.inr (.inr Bw))) z
    ·exact absurd rfl z.2
    ·rw[hv]at e;cases e;cases z
   ·rw[Zq m];exact e,λ_ h=>.inl h⟩
  have nf:∀y,Nf (M3 M a (b::bs)) (ρ.set k (.deep ([]::zs) (some a))) σ y->Nf (M3 M a (b::bs)) ρ σ y:=by
   rintro y (h|⟨i,t,u,f,n⟩)
   ·exact .inl h
   ·by_cases v:k=i
    ·subst v;rw[Cv d]at f;cases f
    ·rw[Ch v]at f;exact .inr ⟨i,t,u,f,n⟩
  have A:CY K (AK H b (.lst [])) zs bs:=CY.step S (λc m=>⟨.inr (.inr (BA _ m)),λe=>I (e ▸ m)⟩) (λz L=>R.no z (BA _ L)) ht
  have all:CY K (AK H b (.lst [])) ([]::zs) (b::bs):=.cons ⟨[],ZP,λN=>Ae.nil⟩ A
  have out:AK H b (.lst []) a=some (.lst ((b::bs).map V.ref)):=by rw[Zq G];exact R.out
  refine⟨⟨by rw[HL];exact R.rel.len,λx o e=>?_,λx hx=>?_,λj s e=>?_,λi j t ys u O c f n z3 z4=>?_⟩,Cv d,out,all,λz L=>?_,R.nd,R.ne,R.fr⟩
  ·have:x≠b:=λz=>by rw[z,f0]at e;cases e
   rw[Zq this];exact R.rel.same x o e
  ·by_cases m:x=b
   ·rw[m,ZP];exact λz=>nomatch z
   ·rw[Zq m];exact R.rel.mh x hx
  ·by_cases p:k=j
   ·subst p
    rw[Cv d]at e
    cases e
    obtain⟨c,cs,g,z0,f,n,z3,z4⟩:=R.rel.slot k _ R.slot
    have ec:a=c:=z0 a rfl
    subst ec
    exact⟨a,b::bs,g,λc z=>by cases z;rfl,f,.inl out,λb J=>.inr (.inr J),Paired.mapP all λ_ _ ⟨vs,Q,T⟩=>⟨vs,.inl Q,T _⟩⟩
   ·rw[Ch p]at e
    have q:=R.rel.slot j s e
    cases s with
    |no=>trivial
    |val d'=>obtain⟨w,g,l⟩:=q;exact⟨w,g,(Aq.step S _ _ l).nw λy B=>.inl (nf y B)⟩
    |own t u=>
     obtain⟨c,U,g,l,r,Y,h4⟩:=q
     have:c≠b:=λz=>r (.inr (.inr (z ▸ Bw)))
     exact⟨c,U,g,l,r,by rw[Zq this];exact Y,(Ae.step S _ _ h4).nw λy B=>.inl (nf y B)⟩
    |lent t u=>
     obtain⟨c,U,g,l,r,Y⟩:=q
     have:c≠b:=λz=>l.2 (by rw[z];exact f0)
     exact⟨c,U,g,l,r.step S (.inr (.inl ⟨l.1,this⟩)),(Ae.step S _ _ Y).nw λy B=>.inl (nf y B)⟩
    |exc c=>obtain⟨x,C,g,l,r⟩:=q;exact⟨x,C,g,l,S.kp _ _ r (.inr (.inr rfl))⟩
    |pin c=>exact q
    |deep ys oa=>exact absurd e (Vz E p)
  ·have Q:¬ k=i:=λz=>by subst z;rw[Cv d]at f;cases f
   have T:¬ k=j:=λz=>by subst z;rw[Cv d]at n;cases n
   rw[Ch Q]at f
   rw[Ch T]at n
   exact R.rel.inj i j t ys u O c f n z3 z4
  ·rcases Bm.mp L with e|e
   ·rw[e];simp only[Dw]
   ·exact R.no z (BA _ e)
theorem hW{l:Nat}{x:Af}{e g h d f:AT}(u:X.N[k]?=some x)(v:C0 X.env.scope x)(w:IR (.Constant (.int 0) l d))(hd:(x==("__debug__":Af))=false:=by decide)(o:(x==("__classdict__":Af))=false:=by decide)
  (y:Dp (.Call (.Attribute (.Subscript (.Name x e) (.Constant (.int 0) l d) f) "clear" g) [] [] h) none pos.line X.env=AB false:=by rfl)
  (i:Gj (.Subscript (.Name x e) (.Constant (.int 0) l d) f) "clear" X.env (Ar (.Subscript (.Name x e) (.Constant (.int 0) l d) f) X.env)=Ar (.Subscript (.Name x e) (.Constant (.int 0) l d) f) X.env:=by rfl) (j:(g.endLine==h.line)=true:=by rfl):
  JS X (.Expr (.Call (.Attribute (.Subscript (.Name x e) (.Constant (.int 0) l d) f) "clear" g) [] [] h) pos) (Ir X.K M H0 k λρ=>MH k ρ):=⟨λm s σ H A I ⟨a,bs,ρ,zs,R,q⟩=>by
 refine NV (SQ Tp PySem.F.slot_list_clear PySem.F.type_list_clear SR (SG SN (Ex u v hd o) RO w) i j) y m s σ H A I ?_
 try dsimp only at q
 unfold MH at q
 rw[R.slot]at q
 cases zs with
 |nil=>exact Bd q
 |cons z zs=>
  dsimp only at q
  split at q
  ·next p=>
   cases bs with
   |nil=>exact nomatch R.ins
   |cons b bs=>
    obtain⟨c,L,B,C,_⟩:=R.rel.slot k _ R.slot
    have E:a=c:=C a rfl
    subst E
    have G:σ[k]?=some (some (.ref a)):=AN B
    have R2:=R.clr0 p
    cases R.ins with
    |cons J O=>
     obtain⟨t,n,_⟩:=J
     have r:atI ((b::bs).map V.ref) ((0:Nat):Int)=some (V.ref b):=ZL rfl
     exact⟨.ref a,G,.inl ⟨a,(b::bs).map V.ref,0,V.ref b,rfl,rfl,.inl (.inl R.out),r,.inl ⟨rfl,t,.inl (.inl n)⟩,b,t,rfl,rfl,n,q _ _ _ R2⟩⟩
  ·exact Bd q⟩
@[simp] def MJ(k:Nat)(g:VE->An)(ρ:VE):An:=if K3 (ρ.set k .no)=true then K1 (g (ρ.set k .no))else .fail
theorem Cr.clr(R:Cr K M H0 k a bs ρ zs σ H)(A:K3 (ρ.set k .no)=true):A3 K (M3 M a bs) H0 (ρ.set k .no) σ (AK H a (.lst [])):=by
 have b:k<ρ.length:=(List.getElem?_eq_some_iff.mp R.slot).1
 obtain⟨I,Y⟩:=R.fr a (.inl rfl)
 have S:Step (λy=>M3 M a bs y/\y≠a) (Nf (M3 M a bs) ρ σ) (Nf (M3 M a bs) ρ σ) H (AK H a (.lst [])):=⟨λc o e z=>by
  by_cases p:c=a
  ·subst p
   rcases z with z|z|z
   ·exact absurd (.inl (.inr (.inl rfl))) z
   ·exact absurd rfl z.2
   ·rw[R.out]at e;cases e;cases z
  ·rw[Zq p];exact e,λ_ h=>.inl h⟩
 have nf:∀y,Nf (M3 M a bs) (ρ.set k .no) σ y->Nf (M3 M a bs) ρ σ y:=by
  rintro y (h|⟨i,r,t,d,m⟩)
  ·exact .inl h
  ·by_cases u:k=i
   ·subst u;rw[Cv b]at d;cases d
   ·rw[Ch u]at d;exact .inr ⟨i,r,t,d,m⟩
 refine⟨by rw[HL];exact R.rel.len,λx o e=>?_,λx L=>?_,λj s e=>?_,λi j r J t B c d m N O=>?_⟩
 ·have:x≠a:=λz=>by rw[z,I]at e;cases e
  rw[Zq this];exact R.rel.same x o e
 ·by_cases p:x=a
  ·rw[p,ZP];exact λz=>nomatch z
  ·rw[Zq p];exact R.rel.mh x L
 ·by_cases g:k=j
  ·subst g
   rw[Cv b]at e
   cases e;trivial
  ·rw[Ch g]at e
   have q:=R.rel.slot j s e
   cases s with
   |no=>trivial
   |val d'=>obtain⟨w,l,f⟩:=q;exact⟨w,l,(Aq.step S _ _ f).nw λy v=>.inl (nf y v)⟩
   |own r t=>
    obtain⟨c,E,l,f,n,G,Q⟩:=q
    have:c≠a:=λz=>n (.inr (.inl z))
    exact⟨c,E,l,f,n,by rw[Zq this];exact G,(Ae.step S _ _ Q).nw λy v=>.inl (nf y v)⟩
   |lent r t=>
    obtain⟨c,E,l,f,n,G⟩:=q
    have:c≠a:=λz=>f.2 (by rw[z];exact I)
    exact⟨c,E,l,f,n.step S (.inr (.inl ⟨f.1,this⟩)),(Ae.step S _ _ G).nw λy v=>.inl (nf y v)⟩
   |exc c=>obtain⟨x,C,l,f,n⟩:=q;exact⟨x,C,l,f,S.kp _ _ n (.inr (.inr rfl))⟩
   |pin c=>exact q
   |deep J oa=>exact absurd e (Vz A g)
 ·have T:¬ k=i:=λz=>by subst z;rw[Cv b]at d;cases d
  have U:¬ k=j:=λz=>by subst z;rw[Cv b]at m;cases m
  rw[Ch T]at d
  rw[Ch U]at m
  exact R.rel.inj i j r J t B c d m N O
theorem hX{x:Af}{b d e:AT}(o:X.N[k]?=some x)(p:C0 X.env.scope x)(t:∀M,JB X Ay (tS K M H0 g))(hd:(x==("__debug__":Af))=false:=by decide)(l:(x==("__classdict__":Af))=false:=by decide)
  (u:Dp (.Call (.Attribute (.Name x b) "clear" d) [] [] e) none pos.line X.env=AB false:=by rfl)
  (f:Gj (.Name x b) "clear" X.env (Ar (.Name x b) X.env)=Ar (.Name x b) X.env:=by rfl) (i:(d.endLine==e.line)=true:=by rfl):
  JB X (.Expr (.Call (.Attribute (.Name x b) "clear" d) [] [] e) pos::Ay) (Ir K M H0 k λρ=>MJ k g ρ):=⟨λj s σ H D I ⟨a,bs,ρ,zs,R,q⟩=>by
 refine(J8 (NV (SQ Tp PySem.F.slot_list_clear PySem.F.type_list_clear SR (Ex o p hd l) f i) u) (t (M3 M a bs)).h) j s σ H D I ?_
 try dsimp only at q
 unfold MJ at q
 split at q
 ·next m=>
  obtain⟨c,E,w,y,_⟩:=R.rel.slot k _ R.slot
  have z:a=c:=y a rfl
  subst z
  have A:σ[k]?=some (some (.ref a)):=AN w
  refine⟨.ref a,A,.inl ⟨rfl,_,.inl (.inl R.out)⟩,a,_,rfl,rfl,R.out,_,R.clr m,?_⟩
  cases n:g (ρ.set k .no)with
  |ret r=>rw[n]at q;exact λv H' B C=>q v H' B (Vx C)
  |_=>rw[n]at q;exact Bd q
 ·exact Bd q⟩
end
section
variable{prog:AS}{w:Ai}{A:Ah}{E:Aa->Ac->Prop}{s:Ac}
theorem hY{a:Ad}{v:Aa}{n:Nat}{P:Fin->Ac->Prop}(d:s.heap.get? a=some (seqObj "list" [v].toArray n))(h:P (.done (.ret .none)) {s with heap:=sortedHeap s.heap a [v] #[v]}):
  wpAny (Ag prog w) A (En.«list.sort» ⟨[.ref a],[]⟩) P E s:=by
 rw[list_sort_plain]
 have f:a<s.heap.objs.size:=Be d
 refine Aj (listItems_at d rfl ?_)
 refine Aj (KW d rfl ?_ (by simp[E4]) (by simp))
 obtain⟨e,b⟩:∃e,(s.heap.update a (Ez λ_=>#[])).get? a=some (seqObj "list" #[] e):=⟨_,get?_update_seq d (λ_=>#[])⟩
 refine Aj (seqEpoch_at b rfl ?_)
 refine Aj (wpAny_newTuple ?_ (by simp[E4]))
 refine Aj (wpAny_newList ?_)
 refine DR ?_
 have c:(((s.heap.update a (Ez λ_=>#[])).push (seqObj "tuple" [v].toArray 0)).push (seqObj "list" #[] 0)).get? a=some (seqObj "list" #[] e):=by
  rw[Heap.get?_push_ne _ _ _ (by rw[size_push',Heap.size_update];exact BS (Nat.lt_succ_of_lt f)),Heap.get?_push_ne _ _ _ (by rw[Heap.size_update];exact BS f)]
  exact b
 show wpAny (Ag prog w) A _ P E {s with heap:=((s.heap.update a (Ez λ_=>#[])).push (seqObj "tuple" [v].toArray 0)).push (seqObj "list" #[] 0)}
 dsimp only
 have g:[v].toArray.size<2:=by simp
 rw[if_pos g,if_pos g]
 refine Aj (AC ?_)
 rw[StateT.run_pure]
 refine Aj (AC ?_)
 dsimp only
 refine Aj (seqEpoch_at c rfl ?_)
 refine Aj (KW c rfl ?_ (by simp) (hsz2:=by rw[Array.size_map];show([v].toArray.zip [v].toArray).size<=_;simp))
 simp only[bne_self_eq_false,DF,if_false]
 have j:#[v].zip #[v]=#[(v,v)]:=by simp
 rw[j]
 have k:Array.map (λx=>x.snd) (arrOf (SortSt.mk' general' #[(v,v)] #[] 7 none))=#[v]:=by
  show Array.map (λx:Aa×Aa=>x.snd) #[(v,v)]=#[v]
  simp
 rw[k]
 exact AC h
end
section
variable{X:Cx}{pins:List (Ad×AJ)}{σ:St}{H:Hp}{s:Ac}
theorem hZ(c:X.calm=true)(I:Inv X pins σ H s){a:Ad}{t:T3}(h:Cc X.K H a [t]){Q:VK}(q:∀i,H i=none->Q (.ref i) (AK H i (.lst [t.2.1]))):
  wpAny (Ag X.prog X.w) X.A (call (.builtin "sorted") [.ref a]) (EP X pins σ Q) X.xe s:=by
 obtain⟨z,B,nd,o,f,l,C,E,G,J⟩:=h.1.ok I.hok
 have n:=Vh J
 have L:[t].length=f.size:=by have:=n.length;simpa using this
 refine Calls.call_function_entry kind_sorted plain_sorted entry_sorted (args_sorted1 _) ?_
 unfold En.«sorted»
 refine Aj (m:=checkCount "sorted" 1 1 _) (AC ?_)
 refine Aj (gG (Vg (es:=f) (ep:=l) B) (by show X.A.handled=none;exact I.ok.hd c) ⟨o,C,E,G⟩ (by rw[E4];simp at L;omega) λM p N O T=>?_)
 have d:=Vi T
 rw[d]
 have r:=I.kept (t':=p) O
 generalize v:List.map (λe=>e.key) f.toList=j at *
 have x:Am [t.2.1] j:=n
 obtain⟨u,rfl,ru⟩:=D6 x
 refine Aj (wpAny_newList ?_ (by rw[E4];simp))
 generalize Y:({heap:=M,gens:=s.gens,drawn:=s.drawn,toks:=p,os:=s.os}:Ac)=k at *
 have g:(k.heap.push (seqObj "list" [u].toArray 0)).get? k.heap.objs.size=some (seqObj "list" [u].toArray 0):=BY _ rfl
 refine Aj (DR (E7 slot_list_sort ⟨_,g,rfl⟩ entry_list_sort (hY g ⟨_,rfl,?_⟩) (args_list_sort _)))
 refine AC ⟨_,rfl,?_⟩
 obtain⟨e,he⟩:=sortedHeap_at (out:=#[u]) g
 refine⟨.ref _,_,r.laid (t':=k.toks) (o:=.lst [t.2.1]) (λb u z=>?_) (Bf _) ?_,rfl,q _ (r.hok.fresh (Bf _))⟩
 ·have y:=Be z
  rw[sortedHeap_old (BS y) (by rw[FN];exact Nat.lt_succ_of_lt y)]
  exact Bk _ z
 ·exact⟨by rw[E4];simp,[u],e,x,he⟩
end
section
variable{X:Cx}{M:Fb}{H0:Hp}{e:Expr}{f:VE->Option D}{x:Af}{p pos:AT}
def K4(o:Option D):Option (List D):=match o with
 |some (.lst b true)=>(DL b).bind λa=>if a.length=1 then some (a.map λp=>kD p.1)else none
 |_=>none
theorem h7(B:X.calm=true)(C:Gl X x)(E:X.mg x=none)(G:Eg x=some (.builtin "sorted"))(J:JE X e (tP X.K M H0 f))
  (L:x≠"__name__":=by decide) (j:(x==("__debug__":Af))=false:=by decide) (n:AO [e] X.env=(false,Ar e X.env)::AO [] X.env:=by exact Df (λ_ _ z=>nomatch z)):
  JE X (.Call (.Name x p) [e] [] pos) (tF X.K M H0 λρ=>K4 (f ρ)):=⟨by
 intro g s o H Q I h
 obtain⟨ρ,ys,R,c,q⟩:=h
 dsimp only at c
 unfold K4 at c
 split at c
 ·next k N=>
  cases l:DL k with
  |none=>rw[l]at c;cases c
  |some O=>
  rw[l]at c
  simp only[AL]at c
  split at c
  ·next m=>
   cases c
   refine IM (FI I C E G ?_ L j)
   have T:=(E5 J.h (BM (X:=X)) n) pos g s o H (λr i=>∃v,r=[v]/\Ak H i/\AA X.K (Nf M ρ o) i (.lst k true) v) I ⟨ρ,.lst k true,R,N,λv i w d1=>⟨v,rfl,w,d1⟩⟩
   refine PyProof.Rows.callWith_builtin1 ?_ n rfl
   refine AU T λus w U=>?_
   obtain⟨r,i,Y,r1,v,rfl,sm,d1⟩:=U
   obtain⟨u,rfl,ru⟩:=D6 r1
   rw[Ik l]at d1
   obtain⟨a,ws,rfl,sq,dl⟩:=d1
   cases ru
   obtain⟨y,dc,pd⟩:=KJ sq dl
   have A:=pd.kden
   have lk:y.length=1:=by have:=A.length;simp[m]at this;omega
   obtain⟨t,rfl⟩:∃t,y=[t]:=List.length_eq_one_iff.mp lk
   exact hZ B Y dc λda d=>q da [t.2.1] _ (sm.trans (Z3 d)) (sm.none d) ZP ((A.nw λb hb=>hb.imp id λz=>by subst z;exact d).same (Z3 d))
  ·cases c
 ·cases c⟩
end
structure MI(K:AV)(C:Ad)(nm qual:Af)(st:As)(ps:List Af)(a:Ad)(fd:A5):Prop where
 M:HG K C nm a
 F:Gr K nm qual st a fd
 b:Binds K fd ps []
theorem mi{K:AV}{C:Ad}{nm b:Af}{st:As}{ps:List Af}{a:Ad}{j:Aa}{m f:Option Ad}{h:Array (Option Aa)}{kV e g d ct:Aa}
  (A:findIn K (.ref C) nm=some (some (.ref a))) (i:isFn K (.ref a)=true)
  (l:K.lookup a=some ⟨j,m,.func (fnOf nm b (FQ st) (DE st) (Zi st) .none kV e g f d ct),h⟩) (c:codeIn K d b=true) (k:keepIn K (.ref a)=true)
  (n:∀(kV e g:Aa) (f:Option Ad) (d ct:Aa) (us:List Aa),us.length=ps.length->bindArgs (fnOf nm b (FQ st) (DE st) (Zi st) .none kV e g f d ct) ⟨us,[]⟩=AB (ps.zip us):=by
   first|exact λ_ _ _ _ _ _=>D1 λ_=>rfl|exact λ_ _ _ _ _ _=>D2 λ_ _=>rfl|exact λ_ _ _ _ _ _=>Vk λ_ _ _=>rfl):
  MI K C nm b st ps a (fnOf nm b (FQ st) (DE st) (Zi st) .none kV e g f d ct):=
 ⟨⟨A,i,k⟩,SU l c k,.all (n kV e g f d ct)⟩
structure CI(K:AV)(mg:Af->Option Aa)(C:Ad):Prop where
 cof:Eo K C
 cl:D7 K C
 m:mg "Book"=some (.ref C)
 mks:makesIn K C=true
 kp:keepIn K (.ref C)=true
theorem ci{K:AV}{mg:Af->Option Aa}{h:Al}{C:Ad}(X:K.In h)(G:h.Ns BD mg)(A:nsIn K BD "Book"=some (some (.ref C)))(pg:plainGet K C Str.empty=true)(hd:hasDictIn K C=true)(po:plainOver K C=true)(sa:findIn K (.ref C) "__setattr__"=some (some (.builtin "object.__setattr__")))(a:makesIn K C=true)(b:keepIn K (.ref C)=true):CI K mg C:=
 ⟨A,⟨pg,hd,po,sa⟩,mg_of X G A,a,b⟩
theorem CI.mkB{K:AV}{mg:Af->Option Aa}{C a:Ad}{b:Af}{st:As}{ps:List Af}{fd:A5}(c:CI K mg C)(q:MI K C "__init__" b st ps a fd):Mk K C a:=⟨c.mks,q.M.at_,q.M.fn,c.kp⟩
theorem K5{K:AV}{k:Nat}{C fn:Ad}{fd:A5}{ps:List Af}{nm a:Af}{st:As}{P:AS}{w:Ai}{mg:Af->Option Aa}{base:Al}{N:List Af}{g d:VE->An}(D:MI K C nm a st ps fn fd)(S:Zx N ps (Zi st))
  (f:∀(b:Aa) (A:Ah) (outer:List Env) (s:Ac) (H:Hp) (E:XK) (M:Fb) (h:Hp),AR k (A.deeper (Bt a (Zi st) s.heap.objs.size fn b)) ->
   JB (Ey A6 P w K mg base N a (Zi st) fn b A outer s H E).nox (DE st) (tS K M h d)) (e:d=g:=by rfl) (c:ps.length<=N.length:=by decide):Aw P w K mg base A6 (k+1) fn fd ps (Bc K (AQ ps.length N.length g)):=
 Tv D.F S c (e ▸ f)
theorem h8{K:AV}{k:Nat}{C fn:Ad}{fd:A5}{ps:List Af}{nm a:Af}{st:As}{P:AS}{w:Ai}{mg:Af->Option Aa}{base:Al}{N:List Af}{g d:VE->List Af->List D->Option (List Af×List D)}(D:MI K C nm a st ps fn fd)(S:Zx N ps (Zi st))
  (f:∀(b:Aa) (A:Ah) (outer:List Env) (s:Ac) (H:Hp) (E:XK) (M:Fb) (h:Hp),AR k (A.deeper (Bt a (Zi st) s.heap.objs.size fn b)) ->
   JB (Ey A6 P w K mg base N a (Zi st) fn b A outer s H E).nox (DE st) (tK K M h C d)) (e:d=g:=by rfl) (c:ps.length<=N.length:=by decide):Aw P w K mg base A6 (k+1) fn fd ps (ME K C (JH ps.length N.length g)):=
 g9 D.F S c (e ▸ f)
theorem ie(a:Int)(t:Tok)(l:Ad)(b:Array Aa)(n:Nat)(dd:Option Ad)(c:Array (Option Aa)):
  Meets (En.«int.__rmul__» ⟨[.int a t,.ref l],[]⟩) (λ_ R s=>s.heap.get? l=some {cls:=.type "list",dict:=dd,data:=.seq b n,slots:=c}/\R (.ok (.ret Value.notImplemented)) s):=
 .of_wp λprog w A R s z=>by
  obtain⟨e,g,d,f,os⟩:=s
  obtain⟨h,q⟩:=z
  wp_walk
  exact⟨_,rfl,q⟩
theorem ig(l:Ad)(a:Array Aa)(n:Nat)(dd:Option Ad)(b:Array (Option Aa))(x:Int)(u:Tok)(f:¬(!Builtin.List.listFitsIndex x)=true)(h:¬a.size*x.toNat>(2^63-1)/8)(c:¬Builtin.List.listTooLong (a.size*x.toNat)=true):
  Meets (En.«list.__mul__» ⟨[.ref l,.int x u],[]⟩) (λ_ R s=>s.heap.get? l=some {cls:=.type "list",dict:=dd,data:=.seq a n,slots:=b} /\
   R (.ok (.ret (Bv s.heap.objs.size))) {s with heap:=s.heap.push {cls:=GY "list",data:=Data.seq (List.foldl (λy z=>y++z) #[] (BZ (if a.isEmpty=true then 0 else x.toNat) a))},toks:=s.toks}):=
 .of_wp λprog w A R s z=>by
  obtain⟨i,g,d,j,os⟩:=s
  obtain⟨k,q⟩:=z
  have e:=AutoListH.joined_fits c
  wp_walk
  refine wpAny_ite_false (decide_eq_false (Nat.not_lt.mpr e)) ?_
  wp_walk
  exact⟨_,rfl,q⟩
theorem VA{xs:List V}{us:List Aa}(r:Am xs us):∀k:Nat,Am (BZ k xs).flatten (BZ k us).flatten
 |0=>.nil
 |k+1=>by simpa[Cy]using r.append (VA r k)
theorem Ae.rep{K:AV}{N:Fb}{H:Hp}{xs:List D}{vs:List V}(h:Ae K N H xs vs):∀k:Nat,Ae K N H (BZ k xs).flatten (BZ k vs).flatten
 |0=>Ae.nil
 |k+1=>by simpa[Cy]using h.append (Ae.rep h k)
theorem PU{a:Type}(xs:List a):∀k:Nat,(BZ k xs).flatten.length=k*xs.length
 |0=>by simp
 |k+1=>by simp[Cy,PU xs k,Nat.succ_mul,Nat.add_comm]
section
variable{X:Cx}{K:AV}{M:Fb}{H0:Hp}{a b:Expr}{f g:VE->Option D}{pos:AT}
theorem ii:BU X (E3 .Mult) (λx y H Q=>∃l xs n,x=.ref l/\y=.int n/\Bn X.K H l xs/\1<=xs.length/\xs.length<=1000/\0<=n/\n<=100/\∀p,H p=none->Q (.ref p) (AK H p (.lst (BZ n.toNat xs).flatten))):=by
 intro c s C H x y v u Q I i j h
 obtain⟨l,xs,n,rfl,rfl,m,E,G,J,L,q⟩:=h
 cases i
 obtain⟨t,rfl⟩:=j
 obtain⟨a,r,p1,M⟩:=I.list m
 have d:=r.length
 obtain⟨⟨cls,e,data,f⟩,b,g,k,hd⟩:=p1.isList
 simp only at g hd
 subst g hd
 have o:a.length*n.toNat<=1000*100:=Nat.mul_le_mul (by omega) (by omega)
 refine wpAny_binaryOp_repeat_ref (T:="list") (U:="int") (by decide) ⟨_,b,rfl⟩ (λw=>typeIs_int w n t) noFill_list_mul F.fills_int_mul F.slot_int_rmul repeat_list F.slot_int_index.lookup ?_
 refine By F.slot_int_rmul (typeIs_int s n t) F.entry_int_rmul (F.args_int_rmul_2 _ _) (ie n t l a.toArray k e f) ⟨b,rfl,⟨_,b,rfl⟩,?_⟩
 refine By F.slot_list_mul ⟨_,b,rfl⟩ F.entry_list_mul (F.args_list_mul_2 _ _) (ig l a.toArray k e f n t (by simp[Builtin.List.listFitsIndex];omega) (by simp only[Bu];omega) (by simp[Builtin.List.listTooLong,Av];omega)) ⟨b,?_⟩
 have A:a.toArray.isEmpty=false:=by
  cases a with
  |nil=>rw[Bg]at d;omega
  |cons _ _=>rfl
 rw[A]
 have B:List.foldl (λy z=>y++z) #[] (BZ (if false=true then 0 else n.toNat) a.toArray)=((BZ n.toNat a).flatten).toArray:=by
  have:=listMul_foldl a.toArray n.toNat #[]
  simpa using this
 rw[B]
 exact⟨.ref _,_,I.lnew (t':=s.toks) (VA r n.toNat) (by rw[PU,E4];rw[<- d]at o;rw[Nat.mul_comm];omega),rfl,q _ I.fresh⟩
@[simp] def K6:D->D->Option D
  |.lst a,.int n=>if 1<=a.length/\a.length<=1000/\0<=n/\n<=100 then some (.lst (BZ n.toNat a).flatten)else none
  |_,_=>none
theorem ij:CB K (λx y H Q=>∃l xs n,x=.ref l/\y=.int n/\Bn K H l xs/\1<=xs.length/\xs.length<=1000/\0<=n/\n<=100/\∀p,H p=none->Q (.ref p) (AK H p (.lst (BZ n.toNat xs).flatten))) K6:=by
 intro N H x y d1 d2 d Q g h i e q
 unfold K6 at e
 split at e
 ·split at e
  ·next b=>
   cases e
   obtain⟨a,j,k,q1,c⟩:=h
   have m:=c.length
   exact⟨a,j,_,k,i.int,q1,by omega,by omega,b.2.2.1,b.2.2.2,λp f=>q _ _ (Z3 f) (OW g f (Ae.rep c _))⟩
  ·cases e
 ·cases e
theorem ik(c:JE X a (tP X.K M H0 f))(d:JE X b (tP X.K M H0 g)):JE X (.BinOp a .Mult b pos) (tD X.K M H0 (Ze K6 f g)):=⟨HR ii ij c.h d.h⟩
end
end L2
namespace L2
open PySem PySem.Spec PyProof.Rows
@[simp] theorem mT(a b:Int):Az (.int a) (.int b)=decide (a=b):=by simp only[Az];by_cases h:a=b<;>simp[h]
@[simp] theorem mU(a b:Af):Az (.str a) (.str b)=decide (a=b):=by simp only[Az];by_cases h:a=b<;>simp[h]
@[simp] theorem mV(a b:Bool):Az (.bl a) (.bl b)=decide (a=b):=by simp only[Az];by_cases h:a=b<;>simp[h]
@[simp] theorem mW:Az .non .non=true:=by simp only[Az]
@[simp] theorem mX(a:Bool)(b:Int):Az (.bl a) (.int b)=decide ((if a then 1 else 0)=b):=by simp only[Az];by_cases h:(if a then 1 else 0)=b<;>simp[h]
@[simp] theorem mY(a:Int)(b:Bool):Az (.int a) (.bl b)=decide (a=(if b then 1 else 0)):=by simp only[Az];by_cases h:a=(if b then 1 else 0)<;>simp[h]
@[simp] theorem mZ(a:Int)(b:Af):Az (.int a) (.str b)=false:=by simp only[Az]
@[simp] theorem m4(a:Af)(b:Int):Az (.str a) (.int b)=false:=by simp only[Az]
@[simp] theorem m5(a:Bool)(b:Af):Az (.bl a) (.str b)=false:=by simp only[Az]
@[simp] theorem m7(a:Af)(b:Bool):Az (.str a) (.bl b)=false:=by simp only[Az]
@[simp] theorem na(b:Int):Az .non (.int b)=false:=by simp only[Az]
@[simp] theorem nb(b:Af):Az .non (.str b)=false:=by simp only[Az]
@[simp] theorem ng(b:Bool):Az .non (.bl b)=false:=by simp only[Az]
@[simp] theorem ni(b:Int):Az (.int b) .non=false:=by simp only[Az]
@[simp] theorem nj(b:Af):Az (.str b) .non=false:=by simp only[Az]
@[simp] theorem nk(b:Bool):Az (.bl b) .non=false:=by simp only[Az]
@[simp] theorem nl(a b:List D):Az (.tup a) (.tup b)=B7 a b:=by simp only[Az]
@[simp] theorem nq(a b:List D):Az (.lst a) (.lst b)=B7 a b:=by simp only[Az]
@[simp] theorem nr(a b:List D):Az (.tup a) (.lst b)=false:=by simp only[Az]
@[simp] theorem nt(a b:List D):Az (.lst a) (.tup b)=false:=by simp only[Az]
@[simp] theorem nu(a:List D)(b:Int):Az (.tup a) (.int b)=false:=by simp only[Az]
@[simp] theorem nv(a:List D)(b:Af):Az (.tup a) (.str b)=false:=by simp only[Az]
@[simp] theorem ny(a:List D):Az (.tup a) .non=false:=by simp only[Az]
@[simp] theorem nz(a:List D)(b:Bool):Az (.tup a) (.bl b)=false:=by simp only[Az]
@[simp] theorem nA(a:List D)(b:Int):Az (.int b) (.tup a)=false:=by simp only[Az]
@[simp] theorem nB(a:List D)(b:Af):Az (.str b) (.tup a)=false:=by simp only[Az]
@[simp] theorem nC(a:List D):Az .non (.tup a)=false:=by simp only[Az]
@[simp] theorem nE(a:List D)(b:Bool):Az (.bl b) (.tup a)=false:=by simp only[Az]
@[simp] theorem nG(a:List D)(b:Int):Az (.lst a) (.int b)=false:=by simp only[Az]
@[simp] theorem nH(a:List D)(b:Af):Az (.lst a) (.str b)=false:=by simp only[Az]
@[simp] theorem nI(a:List D):Az (.lst a) .non=false:=by simp only[Az]
@[simp] theorem nJ(a:List D)(b:Bool):Az (.lst a) (.bl b)=false:=by simp only[Az]
@[simp] theorem nK(a:List D)(b:Int):Az (.int b) (.lst a)=false:=by simp only[Az]
@[simp] theorem nM(a:List D)(b:Af):Az (.str b) (.lst a)=false:=by simp only[Az]
@[simp] theorem nN(a:List D):Az .non (.lst a)=false:=by simp only[Az]
@[simp] theorem nO(a:List D)(b:Bool):Az (.bl b) (.lst a)=false:=by simp only[Az]
@[simp] theorem nP:B7 [] []=true:=by simp only[B7]
@[simp] theorem nQ(a b:D)(c bs:List D):B7 (a::c) (b::bs)=(Az a b&&B7 c bs):=by simp only[B7]
@[simp] theorem nR(b:D)(bs:List D):B7 [] (b::bs)=false:=by simp only[B7]
@[simp] theorem nS(b:D)(bs:List D):B7 (b::bs) []=false:=by simp only[B7]
@[simp] theorem im:∀(a b:List Int),B7 (a.map D.int) (b.map D.int)=decide (a=b)
  |[],[]=>by simp
  |[],_::_=>by simp
  |_::_,[]=>by simp
  |x::a,y::b=>by simp[im a b]
@[simp] theorem nT(n:Nat)(a:List Int):(a.map D.int).all (A4 n)=true:=by
  rw[Eb]
  intro x b
  obtain⟨i,_,rfl⟩:=List.mem_map.mp b
  cases n<;>rfl
@[simp] theorem nU(t n:String):Ji t n=(t==n||(t=="bool"&&n=="int")):=rfl
@[simp] theorem nV:Fu=["NoneType","bool","int","str","tuple","list"]:=rfl
@[simp] theorem io:deep=12:=rfl
@[simp] theorem nW:Cj.tysL []=some []:=rfl
@[simp] theorem nX(n:String)(r:List D):Cj.tysL (.ty n::r)=(Cj.tysL r).map (n::·):=rfl
@[simp] theorem nY(ns:List Int):Ed (ns.map D.int)=some ns:=T4 ns
@[simp] theorem ip:∀(ns:List Bool),F1 (ns.map D.bl)=some ns
  |[]=>rfl
  |n::ns=>by simp only[AY,F1,ip ns];rfl
theorem Eu{c:Type}{b:D->VE->Option VE}{e:VE->Option D}{ρ:VE}(G F:c->D):∀(xs:List c),(∀x∈xs,∃a,b (G x) ρ=some a/\e a=some (F x))->C2 b (λ_=>some true) e ρ (xs.map G)=some (xs.map F)
 |[],_=>rfl
 |x::xs,h=>by
  obtain⟨a,d,f⟩:=h x Bw
  simp only[AY,C2,d,f,Zb,AL,Eu G F xs λy g=>h y (BA _ g)]
@[simp] theorem PV{a:Type}(l:List a)(h:l.length<=1000000):Zl (some l)=some l:=by
  have:l.length<=Av:=BO h (by decide)
  simp[this]
theorem VB{a c:Type}(f:a->c)(xs:List a)(lo b:Option Int):cutD (xs.map f) lo b=(cutD xs lo b).map f:=by
 unfold cutD
 rw[Bb,List.map_take,List.map_drop]
theorem PX{b:Type}(xs:List b)(k:Int)(h:0<=k):cutD xs none (some k)=xs.take k.toNat:=by
 have e:HT.sIx xs.length 0 none=0:=rfl
 have c:HT.sIx xs.length xs.length (some k)=min k.toNat xs.length:=by simp only[HT.sIx];split<;>omega
 unfold cutD
 rw[e,c,List.drop_zero,Nat.sub_zero]
 rcases Nat.le_total k.toNat xs.length with a|a
 ·rw[Nat.min_eq_left a]
 ·rw[Nat.min_eq_right a,List.take_length,O4 a]
theorem JM{b:Type}(xs:List b)(k:Int)(h:0<=k):cutD xs (some k) none=xs.drop k.toNat:=by
 have e:HT.sIx xs.length xs.length none=xs.length:=rfl
 have c:HT.sIx xs.length 0 (some k)=min k.toNat xs.length:=by simp only[HT.sIx];split<;>omega
 unfold cutD
 rw[e,c]
 rcases Nat.le_total k.toNat xs.length with a|a
 ·rw[Nat.min_eq_left a,O4 (by rw[List.length_drop];exact Bf _)]
 ·rw[Nat.min_eq_right a,List.drop_length,List.drop_of_length_le a,List.take_nil]
@[simp] theorem nZ(ns:List Int):Ug [.lst (ns.map D.int)]=if ns.length<64 then some ((Uf ns).map D.int)else none:=by simp[Ug]
theorem iq(j:Int)(a:0<=j)(h:j<1000000000):ED [.int j]=some ((BL j.toNat).map λ(k:Nat)=>D.int (k:Int)):=by
 have e:Hi 0 j.toNat=(BL j.toNat).map λ(k:Nat)=>D.int (k:Int):=by simp[Hi]
 simp only[ED]
 rw[Kq ⟨by omega,by omega⟩,e]
theorem Iv(n:Nat)(h:n<1000000000):ED [.int (n:Int)]=some ((BL n).map λ(k:Nat)=>D.int (k:Int)):=by
 rw[iq _ (by omega) (by omega),Hk]
theorem ir(i j:Int)(a:0<=i)(b:i<1000000000)(h:j<1000000000)(c : -1000000000<j):Kr [.int i,.int j]=some ((BL (j-i).toNat).map λ(k:Nat)=>D.int (i+(k:Int))):=by
 simp only[Kr]
 rw[Kq ⟨by omega,by omega,by omega,by omega⟩]
 rfl
theorem PY(neg:Bool)(c:Nat)(z:Af):FZ neg (.str ⟨#[c]⟩) (.str z)=some (.bl (if neg then !decide (c∈z.cps.toList)else decide (c∈z.cps.toList))):=by
 have h:=StrLaws.found_one z c
 simp only[FZ]
 rw[h]
@[simp] theorem og(d:D):BF (.val d)=d:=rfl
@[simp] theorem oh(xs:List D)(b:Bool):BF (.own xs b)=.lst xs b:=rfl
end L2
namespace K56
open PySem PySem.Spec PyProof.Rows L2
def CS:List Af:=["NoLadder"]
def MK:VE->An:=(λa=>Zg (ZA (C1 (DW (AM ((ZJ GB (λa=>Zb (AH a 0) (Zb (Zj (some (.ty "int"))) (some [])))) a)) (AM (C1 (CH (AM ((ZJ GB (λa=>Zb (AH a 0) (Zb (Zj (some (.ty "bool"))) (some [])))) a)))))))) (λa=>.next a))
def Iw:List Sl->Option Rv:=AQ 1 1 MK
def ML:VE->Option D:=(λa=>C1 (Ea (AM ((Ze (FZ false) (λa=>Ao a 0) (λ_=>some (.str "abcdefghijklmnopqrstuvwxyz"))) a)) (AM ((Ze (FZ false) (λa=>Ao a 0) (λ_=>some (.str "0123456789"))) a))))
def Hs:VE->An:=(λa=>Zg (ZE (CH (CK ((ZJ GB (λa=>Zb (AH a 0) (Zb (Zj (some (.ty "str"))) (some [])))) a))) (Zg (ZA (some (.bl false))) (λa=>.next a)) (.next a)) (λa=>Zg (ZE (Ea (AM ((Ze Ds (ZJ B4 (λa=>Zb (AH a 0) (some []))) (λ_=>some (.int 1))) a)) (AM ((Ze Fs (ZJ B4 (λa=>Zb (AH a 0) (some []))) (λ_=>some (.int 12))) a))) (Zg (ZA (some (.bl false))) (λa=>.next a)) (.next a)) (λa=>Zg (ZA (C1 (DW (AM ((Ze (FZ false) (Ze A0 (λa=>Ao a 0) (λ_=>some (.int 0))) (λ_=>some (.str "abcdefghijklmnopqrstuvwxyz"))) a)) (AM ((ZJ Hj (λa=>Zb (Zj (Zz ((ZQ 1 [] (λa=>(BN a 0).bind ZG) (Zm 0) (λ_=>some true) ML) a))) (some []))) a))))) (λa=>.next a))))
def GQ:List Sl->Option Rv:=AQ 1 1 Hs
def PZ:VE->An:=(λa=>Zg (ZA ((ZJ B4 (λa=>Zb (Zj ((Ze A0 (λa=>Ao a 0) (λ_=>some (.int 0))) a)) (some []))) a)) (λa=>.next a))
def MM:List Sl->Option Rv:=AQ 1 1 PZ
def P0:VE->An:=(λa=>Zg (ZA (OM (AM ((Ze Ds (λa=>Ao a 1) (ZJ B4 (λa=>Zb (AH a 0) (some [])))) a)) ((Ze A0 (λa=>Ao a 0) (λa=>Ao a 1)) a) (some .non))) (λa=>.next a))
def K7:List Sl->Option Rv:=AQ 2 2 P0
def VC:VE->Option D:=(λ_=>some (.int 0))
def P1:VE->An:=(λa=>Zg (ZA ((ZJ EG (λa=>Zb (Zj (Zz ((ZQ 1 [] (λa=>(BN a 0).bind ZG) (Zm 0) (λ_=>some true) VC) a))) (some []))) a)) (λa=>.next a))
def K8:List Sl->Option Rv:=AQ 1 1 P1
def VD:VE->An:=(λa=>Zg (ZA ((Zl ((Zb (Zj ((ZJ B4 (λa=>Zb (AH a 0) (some []))) a)) (Zb (Zj ((ZJ O5 (λa=>Zb (AH a 0) (some []))) a)) (Zb (Zj ((ZJ O6 (λa=>Zb (AH a 0) (some []))) a)) (Zb (Zj ((ZJ O7 (λa=>Zb (AH a 0) (some []))) a)) (some []))))).bind Zs)).map D.tup)) (λa=>.next a))
def VF:List Sl->Option Rv:=AQ 1 1 VD
def VG:VE->An:=(λa=>Zg (ZA ((Zl ((Zb (Zj ((Ze ZN (Ze A0 (λa=>Ao a 0) (λ_=>some (.int 0))) (Ze A0 (λa=>Ao a 1) (λ_=>some (.int 0)))) a)) (Zb (Zj ((Ze ZN (Ze A0 (λa=>Ao a 0) (λ_=>some (.int 1))) (Ze A0 (λa=>Ao a 1) (λ_=>some (.int 1)))) a)) (Zb (Zj ((ZJ O3 (λa=>Zb (Zj ((Ze A0 (λa=>Ao a 0) (λ_=>some (.int 2))) a)) (Zb (Zj ((Ze A0 (λa=>Ao a 1) (λ_=>some (.int 2))) a)) (some [])))) a)) (Zb (Zj ((ZJ O2 (λa=>Zb (Zj ((Ze A0 (λa=>Ao a 0) (λ_=>some (.int 3))) a)) (Zb (Zj ((Ze A0 (λa=>Ao a 1) (λ_=>some (.int 3))) a)) (some [])))) a)) (some []))))).bind Zs)).map D.tup)) (λa=>.next a))
def VH:List Sl->Option Rv:=AQ 2 2 VG
def iu:VE->Option D:=(Ze (EW false) (λa=>Ao a 1) (λa=>Ao a 0))
def VI:VE->An:=(λa=>Zg (ZA ((ZJ Hj (λa=>Zb (Zj (Zz ((ZQ 2 [] (Jo (λa=>BN a 0) (λa=>BN a 1)) (Dr 2 (ZW (Zm 0) (ZW (Zm 1) DH))) (λ_=>some true) iu) a))) (some []))) a)) (λa=>.next a))
def VJ:List Sl->Option Rv:=AQ 2 2 VI
def VL:VE->Option D:=(λa=>Zz ((Ep Fa (λa=>Zb (AH a 0) (some []))) a))
def P2:VE->An:=(λa=>Zg (CU ((ZQ 1 [] (λa=>((A1 a 0).bind (Dx "axes")).bind ZG) (Zm 0) (λ_=>some true) VL) a)) (λa=>.next a))
def K9:List Sl->Option Rv:=AQ 1 1 P2
def P4:VE->An:=(λa=>Zg (CU ((Ep Fa (λa=>Zb (Zj ((A1 a 0).bind (Dx "standing"))) (some []))) a)) (λa=>.next a))
def MN:List Sl->Option Rv:=AQ 1 1 P4
def P5:VE->An:=(λa=>Zg (CU (K4 ((A1 a 0).bind (Dx "tables")))) (λa=>.next a))
def MO:List Sl->Option Rv:=AQ 1 1 P5
def MP:VE->An:=(λa=>Zg (ZE (AM ((Ze Ds (λa=>Ao a 1) (ZJ B4 (λa=>Zb (AH a 0) (some [])))) a)) (Zg (ZA ((Ze A0 (λa=>Ao a 0) (λa=>Ao a 1)) a)) (λa=>.next a)) (.next a)) (λa=>Zg (ZA (some (.int 0))) (λa=>.next a)))
def F6:List Sl->Option Rv:=AQ 2 2 MP
def MQ:VE->An:=(λa=>Zg (ZM 2 ((Ze Cg (Ze ZN (Ze ZN (Ze ZN (Ze Es (λa=>Ao a 2) (λ_=>some (.int 45742))) (Ze E8 (λa=>Ao a 2) (λ_=>some (.int 46949)))) (Ze Es (λ_=>some (.int 29)) (λa=>Ao a 4))) (λ_=>some (.int 11))) (λ_=>some (.int 2147483647))) a) a) (λa=>Zg (EC 3 ((Ze E8 (λa=>Ao a 2) (λ_=>some (.int 8))) a) a) (λa=>.next a)))
def VM:VE->An:=(λa=>ZM 2 ((Ze ZN (Ze Cg (λa=>Ao a 0) (λ_=>some (.int 2147483549))) (λ_=>some (.int 17))) a) a)
def VN:VE->An:=(λa=>DZ 3 (Zl ((some []).bind Zs)) a)
def VO:VE->An:=(Er (λa=>((Zb (Zj ((Ze ZN (λa=>Ao a 1) (λ_=>some (.int 2))) a)) (some [])).bind Zs).bind ED) (Zm 4) MQ)
def VP:VE->An:=(λa=>ZA ((C9 (λa=>Ao a 3) (λa=>C8 (some (.int 2))) (λ_=>some none) Dg) a))
def iv:VE->An:=λa=>.next a
def VQ:VE->An:=λa=>Zg (VP a) iv
def VR:VE->An:=λa=>Zg (VO a) VQ
def VS:VE->An:=λa=>Zg (VN a) VR
def VT:VE->An:=λa=>Zg (VM a) VS
def P6:VE->An:=VT
def MR:List Sl->Option Rv:=AQ 2 5 P6
def MS:VE->Option D:=(Ze A0 (λa=>Ao a 1) (Ze Cg (Ze ZN (Ze E8 (λa=>Ao a 2) (Ze ZN (λa=>Ao a 0) (λ_=>some (.int 2)))) (Ze Es (λ_=>some (.int 4)) (λa=>Ao a 0))) (Ze A0 (λa=>Zz (Zl ((Zb (Zj (some (.int 36))) (Zb (Zj (some (.int 26))) (some []))).bind Zs))) (ZJ intD (λa=>Zb (Zj ((Ze Bo (λa=>Ao a 0) (λ_=>some (.int 0))) a)) (some []))))))
def P7:VE->An:=(λa=>ZE (AM ((Ze Bo (λa=>Ao a 1) (λ_=>some (.int 0))) a)) (Zg (ZA ((Ze ZN (Ze HV (Ze Cg (λa=>Ao a 0) (Ze EF (λ_=>some (.int 10)) (λ_=>some (.int 30)))) (Ze Es (λ_=>some (.int 5)) (Ze EF (λ_=>some (.int 10)) (λ_=>some (.int 29))))) (λa=>Ao a 2)) a)) (λa=>.next a)) (.next a))
def VU:VE->An:=(λa=>ZM 3 (some (.str "abcdefghijklmnopqrstuvwxyz0123456789")) a)
def VV:VE->An:=(λa=>ZM 4 ((Ze ZN (λ_=>some (.int 1)) (Ze Cg (λa=>Ao a 0) (λ_=>some (.int 12)))) a) a)
def VW:VE->An:=(λa=>ZM 5 ((Ze Cg (Ze E8 (λa=>Ao a 0) (λ_=>some (.int 12))) (λa=>Ao a 4)) a) a)
def VX:VE->An:=(λa=>DZ 6 ((ZQ 1 [3,0] (λa=>((Zb (Zj (A1 a 4)) (some [])).bind Zs).bind ED) (Zm 0) (λ_=>some true) MS) a) a)
def VY:VE->An:=(λa=>Me 6 (Ao a 5) ((Ze A0 (λa=>Ao a 3) (Ze Cg (Ze ZN (Ze ZN (Ze E8 (λa=>Ao a 0) (Ze ZN (λa=>Ao a 5) (λ_=>some (.int 2)))) (Ze Es (λ_=>some (.int 4)) (λa=>Ao a 5))) (Ze Es (λ_=>some (.int 5)) (λa=>Ao a 2))) (Ze A0 (λa=>Zz (Zl ((Zb (Zj (some (.int 36))) (Zb (Zj (some (.int 26))) (some []))).bind Zs))) (ZJ intD (λa=>Zb (Zj ((Ze Bo (λa=>Ao a 5) (λ_=>some (.int 0))) a)) (some [])))))) a) a)
def VZ:VE->An:=(λa=>ZA ((Mf Mg (λ_=>some (.str "")) (λa=>Zb (AH a 6) (some []))) a))
def iw:VE->An:=λa=>.next a
def V0:VE->An:=λa=>Zg (VZ a) iw
def V1:VE->An:=λa=>Zg (VY a) V0
def V2:VE->An:=λa=>Zg (VX a) V1
def V3:VE->An:=λa=>Zg (VW a) V2
def V4:VE->An:=λa=>Zg (VV a) V3
def V5:VE->An:=λa=>Zg (VU a) V4
def P8:VE->An:=λa=>Zg (P7 a) V5
def MT:VE->An:=P8
def GR:List Sl->Option Rv:=AQ 3 7 MT
def P9:VE->Option D:=(Ze ZN (λa=>(Zl ((Zb (Zj ((Ze ZN (Ze EF (λ_=>some (.int 10)) (λ_=>some (.int 43))) (λa=>Ao a 0)) a)) (some [])).bind Zs)).map D.tup) (C9 (λa=>Ao a 1) (λa=>C8 (some (.int 1))) (λ_=>some none) Dg))
def V6:VE->An:=(λa=>ZM 2 ((Ze Cg (λa=>Ao a 1) (λ_=>some (.int 12))) a) a)
def V7:VE->An:=(λa=>ZM 3 ((Ze A0 (λa=>Ao a 0) (Ze Cg (Ze E8 (λa=>Ao a 1) (λ_=>some (.int 12))) (ZJ B4 (λa=>Zb (AH a 0) (some []))))) a) a)
def V8:VE->An:=(λa=>ZM 4 ((Ze ZN (Ze EF (λ_=>some (.int 10)) (λ_=>some (.int 41))) (Ze Cg (Ze E8 (λa=>Ao a 1) (λ_=>some (.int 12))) (λ_=>some (.int 7)))) a) a)
def Qa:VE->An:=(λa=>ZE (AM ((Ze Ds (λa=>Ao a 2) (λ_=>some (.int 4))) a)) (Zg (ZA ((Ze A0 (λa=>Zz (Zl ((Zb (Zj ((ZJ EG (λa=>Zb (AH a 0) (some []))) a)) (Zb (Zj (Zz (Zl ((some []).bind Zs)))) (Zb (Zj (some .non)) (Zb (Zj (A1 a 3)) (some []))))).bind Zs))) (λa=>Ao a 2)) a)) (λa=>.next a)) (.next a))
def Qb:VE->An:=(λa=>ZE (AM ((Ze Bo (λa=>Ao a 2) (λ_=>some (.int 4))) a)) (Zg (ZA ((Ze ZN (λa=>Ao a 0) (λa=>Zz (Zl ((Zb (Zj (A1 a 3)) (some [])).bind Zs)))) a)) (λa=>.next a)) (.next a))
def Qc:VE->An:=(λa=>ZE (AM ((Ze Bo (λa=>Ao a 2) (λ_=>some (.int 5))) a)) (Zg (ZA ((Ze ZN (λa=>Ao a 0) (λa=>Zz (Zl ((Zb (Zj ((Ze ZN (λa=>Zz (Zl ((Zb (Zj (A1 a 4)) (some [])).bind Zs))) (λa=>Zz ((Ep Fa (λa=>Zb (Zj ((C9 (λa=>Ao a 3) (λa=>C8 (some (.int 1))) (λ_=>some none) Dg) a)) (some []))) a))) a)) (some [])).bind Zs)))) a)) (λa=>.next a)) (.next a))
def Qd:VE->An:=(λa=>ZE (AM ((Ze Bo (λa=>Ao a 2) (λ_=>some (.int 6))) a)) (Zg (ZA ((Ze ZN (λa=>Ao a 0) (λa=>Zz (Zl ((Zb (Zj ((Ze ZN (λa=>(Zl ((Zb (Zj (A1 a 4)) (some [])).bind Zs)).map D.tup) (λa=>Ao a 3)) a)) (some [])).bind Zs)))) a)) (λa=>.next a)) (.next a))
def Qe:VE->An:=(λa=>ZE (AM ((Ze Ds (λa=>Ao a 2) (λ_=>some (.int 10))) a)) (Zg (ZA ((Ze ZN (λa=>Ao a 0) (λa=>Zz (Zl ((Zb (Zj ((Ze ZN (λa=>(Zl ((Zb (Zj ((Ze A0 (λa=>Zz (Zl ((Zb (Zj (some (.bl true))) (Zb (Zj (some .non)) (Zb (Zj (some (.str "Ab"))) (some [])))).bind Zs))) (Ze HV (λa=>Ao a 2) (λ_=>some (.int 7)))) a)) (some [])).bind Zs)).map D.tup) (C9 (λa=>Ao a 3) (λa=>C8 (some (.int 1))) (λ_=>some none) Dg)) a)) (some [])).bind Zs)))) a)) (λa=>.next a)) (.next a))
def Qf:VE->An:=(λa=>ZE (DW (AM ((Ze Bo (λa=>Ao a 2) (λ_=>some (.int 10))) a)) (AM ((Ze Fs (ZJ B4 (λa=>Zb (AH a 3) (some []))) (λ_=>some (.int 2))) a))) (Zg (ZA ((Ze ZN (λa=>Ao a 0) (λa=>Zz (Zl ((Zb (Zj ((Ze ZN (Ze ZN (λa=>(Zl ((Zb (Zj (A1 a 4)) (some [])).bind Zs)).map D.tup) (C9 (λa=>Ao a 3) (λa=>C8 (some (.int 1))) (λa=>C8 (Kt (some (.int 1)))) Dg)) (λa=>(Zl ((Zb (Zj ((Ze EF (λ_=>some (.int 10)) (λ_=>some (.int 42))) a)) (some [])).bind Zs)).map D.tup)) a)) (some [])).bind Zs)))) a)) (λa=>.next a)) (.next a))
def V9:VE->An:=(λa=>ZM 5 ((Ze HV (λ_=>some (.int 41)) (ZJ B4 (λa=>Zb (AH a 0) (some [])))) a) a)
def Wa:VE->An:=(λa=>ZA ((Ze ZN (λa=>Ao a 0) (λa=>Zz ((ZQ 1 [3] (λa=>((Zb (Zj (A1 a 5)) (some [])).bind Zs).bind ED) (Zm 0) (λ_=>some true) P9) a))) a))
def ix:VE->An:=λa=>.next a
def Wb:VE->An:=λa=>Zg (Wa a) ix
def Wc:VE->An:=λa=>Zg (V9 a) Wb
def Z2:VE->An:=λa=>Zg (Qf a) Wc
def JN:VE->An:=λa=>Zg (Qe a) Z2
def JP:VE->An:=λa=>Zg (Qd a) JN
def JQ:VE->An:=λa=>Zg (Qc a) JP
def JR:VE->An:=λa=>Zg (Qb a) JQ
def Z1:VE->An:=λa=>Zg (Qa a) JR
def Wd:VE->An:=λa=>Zg (V8 a) Z1
def We:VE->An:=λa=>Zg (V7 a) Wd
def Wf:VE->An:=λa=>Zg (V6 a) We
def Qg:VE->An:=Wf
def JU:List Sl->Option Rv:=AQ 2 6 Qg
def Qh:VE->An:=(λa=>Zg (ZA (C1 (Ea (AM ((Zw Iw (λa=>Zb (AH a 0) (some []))) a)) (AM ((Zw GQ (λa=>Zb (AH a 0) (some []))) a))))) (λa=>.next a))
def MU:List Sl->Option Rv:=AQ 1 1 Qh
def Wg:VE->An:=(λa=>Zg (ZE (Th (Ao a 0)) (Zg (ZA ((Zl ((Zb (Zj (some (.int 0))) (Zb (Zj (some (.int 0))) (some []))).bind Zs)).map D.tup)) (λa=>.next a)) (.next a)) (λa=>Zg (ZE (CK ((Zw Iw (λa=>Zb (AH a 0) (some []))) a)) (Zg (ZA ((Zl ((Zb (Zj (some (.int 1))) (Zb (Zj (A1 a 0)) (some []))).bind Zs)).map D.tup)) (λa=>.next a)) (.next a)) (λa=>Zg (ZA ((Zl ((Zb (Zj (some (.int 2))) (Zb (Zj (A1 a 0)) (some []))).bind Zs)).map D.tup)) (λa=>.next a))))
def Wh:List Sl->Option Rv:=AQ 1 1 Wg
def Qi:VE->Option D:=(λa=>(Zl ((Zb (Zj ((Zw K7 (λa=>Zb (AH a 0) (Zb (AH a 1) (some [])))) a)) (Zb (Zj ((Zw K7 (λa=>Zb (AH a 0) (Zb (AH a 2) (some [])))) a)) (some []))).bind Zs)).map D.tup)
def Qj:VE->An:=(λa=>Zg (Kn ((Jz (λa=>Zz ((ZQ 1 [1,2] (λa=>(BN a 0).bind ZG) (Zm 0) (λ_=>some true) Qi) a))) a)) (λa=>.next a))
def MV:List Sl->Option Rv:=AQ 3 3 Qj
def Qk:VE->An:=(λa=>Zg (ZA (C1 (DW (AM ((Zw Iw (λa=>Zb (AH a 1) (some []))) a)) (AM ((Md Tw Tw (λ_=>some (.int 0)) (λa=>Ao a 1) (Zw MM (λa=>Zb (AH a 0) (some [])))) a))))) (λa=>.next a))
def MW:List Sl->Option Rv:=AQ 2 2 Qk
def MX:VE->An:=(λa=>Zg (EC 4 ((Ze ZN (λ_=>some (.int 1)) (Ze Cg (Ze A0 (λa=>Ao a 1) (Ze ZN (λ_=>some (.int 2)) (λa=>Ao a 5))) (Ze A0 (λa=>Ao a 4) (Ze HV (λa=>Ao a 5) (λ_=>some (.int 1)))))) a) a) (λa=>.next a))
def La:VE->An:=(λa=>Zg (ZE (AM ((Ze Fs (λa=>Ao a 5) (λ_=>some (.int 0))) a)) (Zg (ZM 9 ((Ze Cg (Ze A0 (λa=>Ao a 1) (Ze ZN (Ze ZN (λ_=>some (.int 7)) (Ze Es (λ_=>some (.int 7)) (λa=>Ao a 5))) (λa=>Ao a 9))) (Ze A0 (λa=>Ao a 4) (λa=>Ao a 5))) a) a) (λa=>.next a)) (.next a)) (λa=>Zg (EC 8 ((Zw GR (λa=>Zb (Zj ((Ze ZN (λa=>Ao a 0) (Ze Es (Ze A0 (λa=>Ao a 1) (λ_=>some (.int 2))) (Ze Cg (Ze A0 (λa=>Ao a 1) (λ_=>some (.int 6))) (λ_=>some (.int 2))))) a)) (Zb (Zj ((Ze Cg (Ze ZN (Ze A0 (λa=>Ao a 1) (λ_=>some (.int 7))) (Ze Es (λa=>Ao a 5) (Ze Cg (Ze A0 (λa=>Ao a 1) (λ_=>some (.int 8))) (λ_=>some (.int 2))))) (λ_=>some (.int 2))) a)) (Zb (AH a 9) (some []))))) a) a) (λa=>.next a)))
def MY:VE->An:=(λa=>Zg (DZ 8 (Zl ((some []).bind Zs)) a) (λa=>Zg (ZM 9 ((Ze Cg (Ze ZN (λa=>Ao a 7) (Ze A0 (λa=>Ao a 1) (λ_=>some (.int 2)))) (λa=>Ao a 2)) a) a) (λa=>Zg ((Er (λa=>((Zb (Zj (A1 a 3)) (some [])).bind Zs).bind ED) (Zm 5) La) a) (λa=>Zg (EC 6 ((ZJ EG (λa=>Zb (AH a 8) (some []))) a) a) (λa=>.next a)))))
def Wi:VE->An:=(λa=>ZM 1 ((Zw MR (λa=>Zb (AH a 0) (Zb (Zj (some (.int 40))) (some [])))) a) a)
def Wj:VE->An:=(λa=>ZM 2 ((Ze ZN (λ_=>some (.int 1)) (Ze Cg (Ze A0 (λa=>Ao a 1) (λ_=>some (.int 0))) (λ_=>some (.int 6)))) a) a)
def Wk:VE->An:=(λa=>ZM 3 ((Ze A0 (λa=>Zz (Zl ((Zb (Zj (some (.int 2))) (Zb (Zj (some (.int 1))) (Zb (Zj (some (.int 3))) (Zb (Zj (some (.int 2))) (Zb (Zj (some (.int 3))) (Zb (Zj (some (.int 4))) (Zb (Zj (some (.int 2))) (Zb (Zj (some (.int 3))) (some []))))))))).bind Zs))) (Ze Cg (Ze A0 (λa=>Ao a 1) (λ_=>some (.int 1))) (λ_=>some (.int 8)))) a) a)
def Wl:VE->An:=(λa=>DZ 4 (Zl ((Zb (Zj (A1 a 2)) (some [])).bind Zs)) a)
def Wm:VE->An:=(Er (λa=>((Zb (Zj (some (.int 1))) (Zb (Zj (A1 a 3)) (some []))).bind Zs).bind Kr) (Zm 5) MX)
def Wn:VE->An:=(λa=>DZ 6 (Zl ((some []).bind Zs)) a)
def Wo:VE->An:=(Er (λa=>((Zb (Zj (A1 a 2)) (some [])).bind Zs).bind ED) (Zm 7) MY)
def Wp:VE->An:=(λa=>CU (C7 a 6))
def iy:VE->An:=λa=>.next a
def Wq:VE->An:=λa=>Zg (Wp a) iy
def Wr:VE->An:=λa=>Zg (Wo a) Wq
def Ws:VE->An:=λa=>Zg (Wn a) Wr
def Wt:VE->An:=λa=>Zg (Wm a) Ws
def Wu:VE->An:=λa=>Zg (Wl a) Wt
def Wv:VE->An:=λa=>Zg (Wk a) Wu
def Ww:VE->An:=λa=>Zg (Wj a) Wv
def Wx:VE->An:=λa=>Zg (Wi a) Ww
def Ql:VE->An:=Wx
def MZ:List Sl->Option Rv:=AQ 1 10 Ql
def Wy:VE->An:=(λa=>ZM 2 ((Ze Cg (λa=>Ao a 1) (λ_=>some (.int 14))) a) a)
def Qm:VE->An:=(λa=>ZE (AM ((Ze Bo (λa=>Ao a 2) (λ_=>some (.int 0))) a)) (Zg (CU (Zl ((some []).bind Zs))) (λa=>.next a)) (.next a))
def Qn:VE->An:=(λa=>ZE (AM ((Ze Bo (λa=>Ao a 2) (λ_=>some (.int 1))) a)) (Zg (ZA ((C9 (Ze K6 (λa=>Ao a 0) (λ_=>some (.int 5))) (λ_=>some none) (λa=>C8 (some (.int 5))) Dg) a)) (λa=>.next a)) (.next a))
def Qo:VE->An:=(λa=>ZE (AM ((Ze Bo (λa=>Ao a 2) (λ_=>some (.int 2))) a)) (Zg (ZA ((ZJ EG (λa=>Zb (AH a 0) (some []))) a)) (λa=>.next a)) (.next a))
def Qp:VE->An:=(λa=>ZE (AM ((Ze Bo (λa=>Ao a 2) (λ_=>some (.int 3))) a)) (Zg (ZA ((Ze A0 (λa=>Ao a 0) (λ_=>some (.int 0))) a)) (λa=>.next a)) (.next a))
def Qq:VE->An:=(λa=>ZE (AM ((Ze Ds (λa=>Ao a 2) (λ_=>some (.int 7))) a)) (Zg (ZA ((Ze A0 (λa=>Zz (Zl ((Zb (Zj (some .non)) (Zb (Zj ((Ze Cg (Ze E8 (λa=>Ao a 1) (λ_=>some (.int 14))) (Ze EF (λ_=>some (.int 10)) (λ_=>some (.int 60)))) a)) (Zb (Zj (some (.str "axis"))) (some [])))).bind Zs))) (Ze HV (λa=>Ao a 2) (λ_=>some (.int 4)))) a)) (λa=>.next a)) (.next a))
def Wz:VE->An:=(λa=>ZM 3 ((Ze Cg (Ze E8 (λa=>Ao a 1) (λ_=>some (.int 14))) (ZJ B4 (λa=>Zb (AH a 0) (some [])))) a) a)
def WA:VE->An:=(λa=>ZA ((Ze ZN (Ze ZN (C9 (λa=>Ao a 0) (λ_=>some none) (λa=>C8 (Ao a 3)) Dg) (λa=>Zz (Zl ((Zb (Zj ((Zw JU (λa=>Zb (Zj ((Ze A0 (λa=>Ao a 0) (λa=>Ao a 3)) a)) (Zb (Zj ((Ze E8 (λa=>Ao a 1) (λ_=>some (.int 56))) a)) (some [])))) a)) (some [])).bind Zs)))) (C9 (λa=>Ao a 0) (λa=>C8 ((Ze ZN (λa=>Ao a 3) (λ_=>some (.int 1))) a)) (λ_=>some none) Dg)) a))
def iz:VE->An:=λa=>.next a
def WB:VE->An:=λa=>Zg (WA a) iz
def Qr:VE->An:=λa=>Zg (Wz a) WB
def JV:VE->An:=λa=>Zg (Qq a) Qr
def Lb:VE->An:=λa=>Zg (Qp a) JV
def Lc:VE->An:=λa=>Zg (Qo a) Lb
def Ld:VE->An:=λa=>Zg (Qn a) Lc
def Le:VE->An:=λa=>Zg (Qm a) Ld
def WC:VE->An:=λa=>Zg (Wy a) Le
def Qs:VE->An:=WC
def Lf:List Sl->Option Rv:=AQ 2 4 Qs
def iA:VE->Option D:=(Zw Wh (λa=>Zb (AH a 0) (some [])))
def WD:VE->An:=(λa=>Zg (ZA ((ZJ EG (λa=>Zb (Zj (Zz ((ZQ 1 [] (λa=>(BN a 0).bind ZG) (Zm 0) (λ_=>some true) iA) a))) (some []))) a)) (λa=>.next a))
def Qt:List Sl->Option Rv:=AQ 1 1 WD
def Qu:VE->Option D:=(Zw MU (λa=>Zb (AH a 0) (some [])))
def Ix:VE->An:=(λa=>Zg (ZE (CH (CK ((ZJ GB (λa=>Zb (AH a 0) (Zb (Zj (some (.ty "tuple"))) (some [])))) a))) (Zg (ZA (some (.bl false))) (λa=>.next a)) (.next a)) (λa=>Zg (ZE (Ea (AM ((Ze Ds (ZJ B4 (λa=>Zb (AH a 0) (some []))) (λ_=>some (.int 1))) a)) (AM ((Ze Fs (ZJ B4 (λa=>Zb (AH a 0) (some []))) (λ_=>some (.int 4))) a))) (Zg (ZA (some (.bl false))) (λa=>.next a)) (.next a)) (λa=>Zg (ZA ((ZJ Hj (λa=>Zb (Zj (Zz ((ZQ 1 [] (λa=>(BN a 0).bind ZG) (Zm 0) (λ_=>some true) Qu) a))) (some []))) a)) (λa=>.next a))))
def Ht:List Sl->Option Rv:=AQ 1 1 Ix
def Qv:VE->Option D:=(Zw MW (λa=>Zb (AH a 0) (Zb (AH a 1) (some []))))
def Qw:VE->An:=(λa=>Zg (ZE (Ea (CH (CK ((ZJ GB (λa=>Zb (AH a 1) (Zb (Zj (some (.ty "tuple"))) (some [])))) a))) (AM ((Ze Ec (ZJ B4 (λa=>Zb (AH a 1) (some []))) (ZJ B4 (λa=>Zb (AH a 0) (some [])))) a))) (Zg (ZA (some (.bl false))) (λa=>.next a)) (.next a)) (λa=>Zg (ZA ((ZJ Hj (λa=>Zb (Zj (Zz ((ZQ 2 [] (Jo (λa=>BN a 0) (λa=>BN a 1)) (Dr 2 (ZW (Zm 0) (ZW (Zm 1) DH))) (λ_=>some true) Qv) a))) (some []))) a)) (λa=>.next a)))
def M0:List Sl->Option Rv:=AQ 2 2 Qw
def M2:VE->Option D:=(Zw MV (λa=>Zb (AH a 1) (Zb (Zj ((Ze A0 (λa=>Ao a 2) (λa=>Ao a 0)) a)) (Zb (Zj ((Ze A0 (λa=>Ao a 3) (λa=>Ao a 0)) a)) (some [])))))
def Qx:VE->An:=(λa=>Zg (CU ((ZQ 2 [1,2] (KD (λa=>BN a 0)) (Dr 2 (ZW (Zm 0) (ZW (Zm 1) DH))) (λ_=>some true) M2) a)) (λa=>.next a))
def M4:List Sl->Option Rv:=AQ 3 3 Qx
def M5:VE->Option D:=(Zw MZ (λa=>Zb (Zj ((Ze ZN (Zw F6 (λa=>Zb (AH a 1) (Zb (Zj ((Ze ZN (λ_=>some (.int 1)) (λa=>Ao a 0)) a)) (some [])))) (Ze Es (λ_=>some (.int 1000)) (λa=>Ao a 0))) a)) (some [])))
def M6:VE->Option D:=(C9 (λa=>Ao a 0) (λ_=>some none) (λa=>C8 (some (.int 3))) Dg)
def Qy:VE->An:=(λa=>ZM 1 ((Ze A0 (λa=>Zz (Zl ((Zb (Zj (some (.int 2))) (Zb (Zj (some (.int 1))) (Zb (Zj (some (.int 2))) (Zb (Zj (some (.int 3))) (Zb (Zj (some (.int 1))) (Zb (Zj (some (.int 2))) (Zb (Zj (some (.int 3))) (Zb (Zj (some (.int 4))) (some []))))))))).bind Zs))) (Ze Cg (Zw F6 (λa=>Zb (AH a 0) (Zb (Zj (some (.int 0))) (some [])))) (λ_=>some (.int 8)))) a) a)
def Qz:VE->An:=(λa=>ZM 2 (Zz ((ZQ 1 [0] (λa=>((Zb (Zj (A1 a 1)) (some [])).bind Zs).bind ED) (Zm 0) (λ_=>some true) M5) a)) a)
def QA:VE->An:=(λa=>ZE (AM ((Ze Bo (λa=>Ao a 1) (λ_=>some (.int 4))) a)) (Zg (ZM 2 (Zz ((ZQ 1 [] (λa=>(BN a 2).bind ZG) (Zm 0) (λ_=>some true) M6) a)) a) (λa=>.next a)) (.next a))
def QB:VE->An:=(λa=>ZA (A1 a 2))
def iB:VE->An:=λa=>.next a
def QC:VE->An:=λa=>Zg (QB a) iB
def QD:VE->An:=λa=>Zg (QA a) QC
def QE:VE->An:=λa=>Zg (Qz a) QD
def QF:VE->An:=λa=>Zg (Qy a) QE
def M7:VE->An:=QF
def Lg:List Sl->Option Rv:=AQ 1 3 M7
def QG:VE->Option D:=(Zw Ht (λa=>Zb (AH a 0) (some [])))
def Lh:VE->An:=(λa=>Zg (ZM 6 ((C9 (λa=>Ao a 3) (λa=>C8 ((Ze ZN (λa=>Ao a 4) (λ_=>some (.int 1))) a)) (λ_=>some none) Dg) a) a) (λa=>Zg (Hn (KP (KO 1 (λa=>(Zl ((Zb (Zj (A1 a 4)) (Zb (Zj (A1 a 5)) (some []))).bind Zs)).map D.tup) (λa=>A1 a 6)) (λa=>Ao a 6) a) (λa=>Zg (ZA (some (.bl false))) (λa=>.next a)) (λa=>.next a)) (λa=>.next a)))
def Z0:VE->An:=(λa=>Zg (ZE (Ea (AM ((Ze Ec (ZJ B4 (λa=>Zb (AH a 3) (some []))) (ZJ B4 (λa=>Zb (Zj ((Ze A0 (λa=>Ao a 0) (λ_=>some (.int 0))) a)) (some [])))) a)) (AM ((Ze (EW false) (Ze A0 (λa=>Ao a 3) (λ_=>some (.int 0))) (λa=>Ao a 2)) a))) (Zg (ZA (some (.bl false))) (λa=>.next a)) (.next a)) (λa=>Zg (Jx 2 ((Ze A0 (λa=>Ao a 3) (λ_=>some (.int 0))) a) (some (.bl true)) a) (λa=>Zg ((Er (KD (λa=>BN a 3)) (Dr 2 (ZW (Zm 4) (ZW (Zm 5) DH))) Lh) a) (λa=>.next a))))
def Li:VE->An:=(λa=>ZE (CH (CK ((ZJ Hj (λa=>Zb (Zj (Zz ((ZQ 1 [] (λa=>(BN a 0).bind ZG) (Zm 0) (λ_=>some true) QG) a))) (some []))) a))) (Zg (ZA (some (.bl false))) (λa=>.next a)) (.next a))
def M8:VE->An:=(λa=>Hg 1 (some []) a)
def M9:VE->An:=(λa=>Hg 2 (some []) a)
def Na:VE->An:=(Er (λa=>(BN a 0).bind ZG) (Zm 3) Z0)
def QH:VE->An:=(λa=>ZA (some (.bl true)))
def iC:VE->An:=λa=>.next a
def QI:VE->An:=λa=>Zg (QH a) iC
def Nb:VE->An:=λa=>Zg (Na a) QI
def Nc:VE->An:=λa=>Zg (M9 a) Nb
def Nd:VE->An:=λa=>Zg (M8 a) Nc
def Lj:VE->An:=λa=>Zg (Li a) Nd
def JX:VE->An:=Lj
def GS:List Sl->Option Rv:=AQ 1 7 JX
def QJ:VE->An:=(λa=>Zg (ZA (C1 (DW (AM ((Zw M0 (λa=>Zb (Zj ((A1 a 0).bind (Dx "axes"))) (Zb (AH a 1) (some [])))) a)) (AM ((Ze (EW false) (λa=>Ao a 1) (λa=>(A1 a 0).bind (Dx "tables"))) a))))) (λa=>.next a))
def Ng:List Sl->Option Rv:=AQ 2 2 QJ
def Iy:VE->An:=(λa=>Zg (ZE (CH (CK ((ZJ GB (λa=>Zb (AH a 0) (Zb (Zj (some (.ty "list"))) (some [])))) a))) (Zg (ZA (some (.bl false))) (λa=>.next a)) (.next a)) (λa=>Zg (ZE (Ea (AM ((Ze Ds (ZJ B4 (λa=>Zb (AH a 0) (some []))) (λ_=>some (.int 1))) a)) (AM ((Ze Fs (ZJ B4 (λa=>Zb (AH a 0) (some []))) (λ_=>some (.int 40))) a))) (Zg (ZA (some (.bl false))) (λa=>.next a)) (.next a)) (λa=>Zg (ZA ((Zw GS (λa=>Zb (AH a 0) (some []))) a)) (λa=>.next a))))
def ZK:List Sl->Option Rv:=AQ 1 1 Iy
def QK:VE->An:=(λa=>Zg (ZE (CH (CK (EJ "is_kept" Ng (A1 a 0) (Zb (AH a 1) (some []))))) (Zg (.fail) (λa=>.next a)) (.next a)) (λa=>Zg (CU ((Ep Fa (λa=>Zb (Zj ((Ze Fd (λa=>(A1 a 0).bind (Dx "tables")) (λa=>Ao a 1)) a)) (some []))) a)) (λa=>.next a)))
def Nh:List Sl->Option Rv:=AQ 2 2 QK
def iD:VE->An:=(λa=>Zg (ZE (Ea (CH (CK (Ao a 1))) (AM ((Ze Ec (Ze A0 (λa=>Ao a 1) (λa=>Kt (some (.int 1)))) (λa=>Ao a 2)) a))) (Zg (EC 1 (A1 a 2) a) (λa=>.next a)) (.next a)) (λa=>.next a))
def QL:VE->An:=(λa=>Zg (DZ 1 (Zl ((some []).bind Zs)) a) (λa=>Zg ((Er (λa=>(Zz ((Mr Qt (λa=>Ao a 0)) a)).bind ZG) (Zm 2) iD) a) (λa=>Zg (CU (C7 a 1)) (λa=>.next a))))
def Ni:List Sl->Option Rv:=AQ 1 3 QL
def Nj:VE->Option D:=(Zw ZK (λa=>Zb (AH a 0) (some [])))
def GU:VE->An:=(λa=>Zg (ZE (CH (CK ((ZJ GB (λa=>Zb (AH a 0) (Zb (Zj (some (.ty "list"))) (some [])))) a))) (Zg (ZA (some (.bl false))) (λa=>.next a)) (.next a)) (λa=>Zg (ZE (Ea (AM ((Ze Ds (ZJ B4 (λa=>Zb (AH a 0) (some []))) (λ_=>some (.int 1))) a)) (AM ((Ze Fs (ZJ B4 (λa=>Zb (AH a 0) (some []))) (λ_=>some (.int 4))) a))) (Zg (ZA (some (.bl false))) (λa=>.next a)) (.next a)) (λa=>Zg (ZA ((ZJ Hj (λa=>Zb (Zj (Zz ((ZQ 1 [] (λa=>(BN a 0).bind ZG) (Zm 0) (λ_=>some true) Nj) a))) (some []))) a)) (λa=>.next a))))
def ZD:List Sl->Option Rv:=AQ 1 1 GU
def iE:VE->Option D:=(Ze Fd (λa=>Ao a 0) (λa=>Ao a 1))
def iF:VE->An:=(λa=>Zg (ZE (CK ((Zw VJ (λa=>Zb (AH a 0) (Zb (AH a 3) (some [])))) a)) (Zg (ZM 5 ((ZJ EG (λa=>Zb (Zj (Zz ((ZQ 2 [] (Jo (λa=>BN a 0) (λa=>BN a 3)) (Dr 2 (ZW (Zm 0) (ZW (Zm 1) DH))) (λ_=>some true) iE) a))) (some []))) a) a) (λa=>Zg (Jx 2 (Ao a 5) (OM (AM ((Ze (EW false) (λa=>Ao a 5) (λa=>Ao a 2)) a)) ((Zw VH (λa=>Zb (Zj ((Ze Fd (λa=>Ao a 2) (λa=>Ao a 5)) a)) (Zb (AH a 4) (some [])))) a) (A1 a 4)) a) (λa=>.next a))) (.next a)) (λa=>.next a))
def iG:VE->Option D:=(λa=>(Zl ((Zb (Zj (A1 a 0)) (Zb (Zj ((Ze Fd (λa=>Ao a 1) (λa=>Ao a 0)) a)) (some []))).bind Zs)).map D.tup)
def QM:VE->An:=(λa=>Zg (Hg 2 (some []) a) (λa=>Zg ((Er (λa=>(BN a 1).bind ZG) (Dr 2 (ZW (Zm 3) (ZW (Zm 4) DH))) iF) a) (λa=>Zg (CU ((ZQ 1 [2] (λa=>((Zw Ni (λa=>Zb (Zj (Zz ((Ep JC (λa=>Zb (AH a 2) (some []))) a))) (some []))) a).bind ZG) (Zm 0) (λ_=>some true) iG) a)) (λa=>.next a))))
def Nk:List Sl->Option Rv:=AQ 2 6 QM
def iH:VE->Option D:=(λa=>(Zl ((Zb (Zj (A1 a 0)) (Zb (Zj ((Zw VF (λa=>Zb (Zj (Zz (Zl ((Zb (Zj (A1 a 1)) (some [])).bind Zs)))) (some []))) a)) (some []))).bind Zs)).map D.tup)
def QN:VE->An:=(λa=>Zg (ZM 3 (Zz ((ZQ 2 [] (λa=>(BN a 1).bind ZG) (Dr 2 (ZW (Zm 0) (ZW (Zm 1) DH))) (λ_=>some true) iH) a)) a) (λa=>Zg (CU ((Jc Nk (λa=>Zb (Zj ((Zw M4 (λa=>Zb (AH a 0) (Zb (Zj ((Zw K8 (λa=>Zb (AH a 0) (some []))) a)) (Zb (AH a 2) (some []))))) a)) (Zb (AH a 3) (some [])))) a)) (λa=>.next a)))
def Nl:List Sl->Option Rv:=AQ 3 4 QN
def Nm:VE->Option D:=(λa=>(Zl ((Zb (Zj (A1 a 0)) (Zb (Zj ((Zw Nl (λa=>Zb (AH a 1) (Zb (AH a 2) (Zb (AH a 0) (some []))))) a)) (some []))).bind Zs)).map D.tup)
def QO:VE->An:=(λa=>Zg (Kn ((Jz (λa=>Zz ((ZQ 1 [0,1] (λa=>(BN a 2).bind ZG) (Zm 0) (λ_=>some true) Nm) a))) a)) (λa=>.next a))
def Nn:List Sl->Option Rv:=AQ 3 3 QO
def WE:VE->Option (List D):=(Ep Fa (λa=>Zb (AH a 0) (some [])))
def QP:VE->List Af->List D->Option (List Af×List D):=(λa ns b=>JD (PN ((λa=>CH (CK ((Zw ZD (λa=>Zb (AH a 1) (some []))) a))) (a.map CW)) ns b) ((λa ns b=>JD ((if ns.length<1000 then GP "axes" (((FC 1 [] (λa=>(BN a 1).bind ZG) (Zm 0) WE) a).map λc=>D.lst (c.map λz=>D.lst z)) ns b else none)) ((λa ns b=>JD ((if ns.length<1000 then GP "standing" (Zz (Zl ((some []).bind Zs))) ns b else none)) ((λa ns b=>JD ((if ns.length<1000 then GP "tables" (PP ((Zw Nn (λa=>Zb (Zj ((A1 a 0).bind (Dx "axes"))) (Zb (Zj (Zz (Zl ((some []).bind Zs)))) (Zb (Zj (Zz (Zl ((Zb (Zj ((Zw K8 (λa=>Zb (Zj ((A1 a 0).bind (Dx "axes"))) (some []))) a)) (some [])).bind Zs)))) (some []))))) (a.set 0 (.val (.ins ns b))))) ns b else none)) ((λ_ ns b=>some (ns,b)) a)) a)) a)) a))
def No:List Sl->Option (List Af×List D):=JH 2 2 QP
def Np:VE->Option Af:=(λa=>Mw ((λa=>CH (CK ((Zw ZD (λa=>Zb (AH a 1) (some []))) a))) (a.map CW)) (Px (Zb (Zj (some (.str "a book is made of one to four ladders"))) (some [])) "NoLadder") (none))
def JY:List Sl->Option Af:=fnX 2 2 Np
def QQ:VE->An:=(λa=>Zg (ZM 3 (Zz (Zl ((Zb (Zj ((Fe 2 CS (ZY "NoLadder")) a)) (Zb (Zj ((Fe 2 CS (ZY "NoValue")) a)) (Zb (Zj ((Fe 2 CS (ZY "NoGrain")) a)) (Zb (Zj ((Fe 2 CS (ZY "NoPick")) a)) (some []))))).bind Zs))) a) (λa=>Zg (ZM 3 ((Ze ZN (λa=>Ao a 3) (λa=>Zz (Zl ((Zb (Zj ((Fe 2 CS (ZY "NoRow")) a)) (Zb (Zj ((Fe 2 CS (ZY "NoSuch")) a)) (Zb (Zj ((Fe 2 CS (ZY "NoText")) a)) (some [])))).bind Zs)))) a) a) (λa=>Zg (ZA ((Zl ((Zb (Zj ((Ze ZN (λa=>Ao a 3) (λa=>Zz (Zl ((Zb (Zj ((Fe 2 CS (ZY "TooMuch")) a)) (some [])).bind Zs)))) a)) (Zb (Zj ((Fe 2 CS (ZY "ValueError")) a)) (Zb (Zj (some .non)) (some [])))).bind Zs)).map D.tup)) (λa=>.next a))))
def Nq:VE->An:=(λa=>Zg (ZM 1 (some .non) a) (λa=>Zg (K0 CS 2 ((Zb (AH a 0) (some [])).bind λb=>JY (.val (.ins [] [])::b)) (ZM 1 (MF No (Zb (AH a 0) (some []))) a) QQ a) (λa=>Zg (ZA ((Zl ((Zb (Zj (Zz (Zl ((some []).bind Zs)))) (Zb (Zj (some (.bl true))) (Zb (Zj (A1 a 1)) (some [])))).bind Zs)).map D.tup)) (λa=>.next a))))
def Iz:List Sl->Option Rv:=AQ 1 4 Nq
def QR:VE->Option D:=(λa=>Zz ((Ep Fa (λa=>Zb (AH a 0) (some []))) a))
def QS:VE->Option D:=(Ze Bo (λa=>Ao a 0) (λ_=>some (.int 0)))
def WF:VE->An:=(λa=>ZE (CH (CK (Ao a 3))) (Zg (ZA (C1 (DW (AM (A1 a 5)) (AM ((Ze Bo (λa=>Ao a 4) (λa=>Zz ((ZQ 1 [] (λa=>((Zb (Zj (some (.int 8))) (some [])).bind Zs).bind ED) (Zm 0) (λ_=>some true) QS) a))) a))))) (λa=>.next a)) (.next a))
def WG:VE->An:=(λa=>Im (Dr 3 (ZW (Zm 4) (ZW (Zm 5) (ZW (Zm 6) DH)))) ((Zw Iz (λa=>Zb (AH a 2) (some []))) a) a)
def WH:VE->An:=(λa=>ZE (CH (CK (Ao a 3))) (Zg (ZM 2 ((Zw Lf (λa=>Zb (AH a 2) (Zb (Zj ((Zw F6 (λa=>Zb (AH a 0) (Zb (Zj (some (.int 6))) (some [])))) a)) (some [])))) a) a) (λa=>.next a)) (.next a))
def WI:VE->An:=(λa=>ZM 3 ((Ze Bo (Ze Cg (Zw F6 (λa=>Zb (AH a 0) (Zb (Zj (some (.int 5))) (some [])))) (λ_=>some (.int 4))) (λ_=>some (.int 0))) a) a)
def WJ:VE->An:=(λa=>ZM 2 (Zz ((ZQ 1 [] (λa=>(BN a 1).bind ZG) (Zm 0) (λ_=>some true) QR) a)) a)
def WK:VE->Option D:=(λ_=>some (.int 0))
def Lk:VE->An:=(λa=>Zg (ZM 7 ((ZJ EG (λa=>Zb (Zj (Zz ((ZQ 1 [] (λa=>(BN a 1).bind ZG) (Zm 0) (λ_=>some true) WK) a))) (some []))) a) a) (λa=>Zg (ZA (C1 (DW (AM ((Ze Bo (λa=>EJ "ladders" K9 (A1 a 6) (some [])) (λa=>Ao a 1)) a)) (DW (AM ((Ze Bo (λa=>EJ "rows" MN (A1 a 6) (some [])) (λa=>Zz (Zl ((some []).bind Zs)))) a)) (DW (AM ((Ze Bo (λa=>EJ "kept" MO (A1 a 6) (some [])) (λa=>Zz (Zl ((Zb (Zj (A1 a 7)) (some [])).bind Zs)))) a)) (AM ((Ze Bo (λa=>EJ "table" Nh (A1 a 6) (Zb (AH a 7) (some []))) (λa=>Zz (Zl ((some []).bind Zs)))) a))))))) (λa=>.next a)))
def QT:VE->An:=(λa=>ZE ((λa=>Ea (AM ((Ze Ec (λa=>Ao a 4) (λa=>Zz (Zl ((some []).bind Zs)))) a)) (Ea (AM ((Ze Ec (λa=>Ao a 2) (λa=>Ao a 1)) a)) (AM ((Ze Ec (λa=>EJ "ladders" K9 (A1 a 6) (some [])) (λa=>Ao a 1)) a)))) (a.map CW)) (Zg (ZA (some (.bl false))) (λa=>.next a)) (.next a))
def QU:VE->An:=(λa=>ZE (CH (CK (Ao a 3))) .fail (.next a))
def QV:VE->An:=(λa=>Im (Dr 3 (ZW (Zm 4) (ZW (Zm 5) (ZW (Zm 6) DH)))) ((Zw Iz (λa=>Zb (AH a 2) (some []))) a) a)
def QW:VE->An:=(λa=>ZE (CH (CK (Ao a 3))) .fail (.next a))
def QX:VE->An:=(λa=>ZM 3 ((Ze Bo (Ze Cg (Zw F6 (λa=>Zb (AH a 0) (Zb (Zj (some (.int 5))) (some [])))) (λ_=>some (.int 4))) (λ_=>some (.int 0))) a) a)
def QY:VE->Option (List D):=(Ep Fa (λa=>Zb (AH a 0) (some [])))
def QZ:VE->An:=(λa=>Zg (Hr 2 a (QX a)) (λa=>Zg (Hr 2 a (QW a)) (λa=>Zg (Hr 2 a (QV a)) (λa=>Zg (Hr 2 a (QU a)) (λa=>Zg (Hr 2 a (QT a)) (λa=>Zg (MH 2 a) (MJ 2 Lk)))))))
def Ll:VE->Bool:=λa=>match(Ze Bo (Ze Cg (Zw F6 (λa=>Zb (AH a 0) (Zb (Zj (some (.int 5))) (some [])))) (λ_=>some (.int 4))) (λ_=>some (.int 0))) a with|some (.bl true)=>true|_=>false
def Nr:VE->An:=(λa=>MG 2 ((FC 1 [] (λa=>(BN a 1).bind ZG) (Zm 0) QY) a) QZ a)
def Nt:VE->An:=(λa=>Zg (WJ a) (λa=>Zg (WI a) (λa=>Zg (WH a) (λa=>Zg (WG a) (λa=>Zg (WF a) (λ_=>.fail))))))
def WL:VE->An:=(λa=>ZM 1 ((Zw Lg (λa=>Zb (AH a 0) (some []))) a) a)
def Q0:VE->An:=(λa=>Zg (WL a) (λa=>My (Ll a) (Nr a) (Nt a)))
def Nu:List Sl->Option Rv:=AQ 1 8 Q0
theorem JZ(s:Sl)(ns:List Int)(b:s=.val (.lst (ns.map D.int))\/s=.lent (ns.map D.int))(k:Int)(c:0<=k):F6 [s,.val (.int k)]=some (.val (.int (ns.getD k.toNat 0))):=by
 by_cases h:k<ns.length
 ·have a:k.toNat<ns.length:=by omega
  rcases b with rfl|rfl<;>simp[F6,AQ,MP,h,atI,DT,c,a]
 ·have a:ns.length<=k.toNat:=by omega
  rcases b with rfl|rfl<;>simp[F6,AQ,MP,h,a]
def Bj:Af:="abcdefghijklmnopqrstuvwxyz"
def Dy:Af:="0123456789"
def signs:Af:="abcdefghijklmnopqrstuvwxyz0123456789"
theorem WM:signs.length=36:=by decide +kernel
theorem iI:signs.cps.toList=Bj.cps.toList++Dy.cps.toList:=by decide +kernel
def F7:D->Bool
 |.int _=>true
 |_=>false
def F8(c:Nat):Bool:=decide (c∈Bj.cps.toList)||decide (c∈Dy.cps.toList)
def IA:List Nat->Bool
 |[]=>false
 |c::r=>decide (c∈Bj.cps.toList)&&(c::r).all F8&&decide ((c::r).length<=12)
def BQ:D->Bool
 |.str z=>IA z.cps.toList
 |_=>false
theorem oi(c:Nat):F8 c=decide (c∈signs.cps.toList):=by
 unfold F8
 rw[iI,Bool.eq_iff_iff]
 simp[CT]
def Sm:D->Prop
 |.str z=>z.length<=100
 |.ty _=>False
 |.lst _ true=>False
 |.ins _ _=>False
 |_=>True
theorem WN(d:D)(h:Sm d):Iw [.val d]=some (.val (.bl (F7 d))):=by
 cases d with
 |lst a b=>cases b with
  |true=>exact h.elim
  |false=>simp[Iw,AQ,MK,F7]
 |ty n=>exact h.elim
 |ins _ _=>exact h.elim
 |_=>simp[Iw,AQ,MK,F7]
theorem iJ(c:Nat):ML [.val (.str ⟨#[c]⟩)]=some (.bl (F8 c)):=by
 simp only[ML,Ze,Ao,AX,AL,PY,AM,Ea,C1,Bp]
 cases h:decide (c∈Bj.cps.toList)<;>simp[F8,Bj,Dy]at h ⊢<;>simp[h]
theorem iK(L:List Nat):C2 (Zm 0) (λ_=>some true) ML [.no] (L.map λc=>D.str ⟨#[c]⟩)=some ((L.map F8).map D.bl):=by
 rw[Eu (λc=>D.str ⟨#[c]⟩) (λc=>D.bl (F8 c)) L λc _=>⟨[.val (.str ⟨#[c]⟩)],rfl,iJ c⟩]
 simp
theorem iL(d:D)(h:Sm d):GQ [.val d]=some (.val (.bl (BQ d))):=by
 cases d with
 |str z=>
  obtain⟨⟨L⟩⟩:=z
  have i:L.length<=100:=h
  have a:L.length<=Av:=BO i (by decide)
  have k:=iK L
  cases L with
  |nil=>simp[GQ,AQ,Hs,BQ,IA,Str.length]
  |cons c r=>
   simp only[A9]at i a
   have g:¬ ((r.length:Int)+1<1):=by omega
   by_cases l:r.length+1<=12
   ·have e:¬ ((12:Int)<(r.length:Int)+1):=by omega
    have f:r.length<=11:=by omega
    by_cases j:c∈(FP "abcdefghijklmnopqrstuvwxyz").cps
    ·simp[GQ,AQ,Hs,BQ,IA,Str.length,a,g,e,-FZ,PY,atI,DT,k,-AY,-CV,j,f,Bj]
    ·simp[GQ,AQ,Hs,BQ,IA,Str.length,a,g,e,-FZ,PY,atI,DT,j,f,Bj]
   ·have e:(12:Int)<(r.length:Int)+1:=by omega
    have f:¬ r.length<=11:=by omega
    simp[GQ,AQ,Hs,BQ,IA,Str.length,a,g,e,f]
 |ty n=>exact h.elim
 |ins _ _=>exact h.elim
 |lst m b=>cases b with
  |true=>exact h.elim
  |false=>simp[GQ,AQ,Hs,BQ]
 |_=>simp[GQ,AQ,Hs,BQ]
theorem iM(d:D)(h:Sm d):MU [.val d]=some (.val (.bl (F7 d||BQ d))):=by
 have a:=WN d h
 have b:=iL d h
 cases c:F7 d<;>simp[c]at a ⊢<;>simp[MU,AQ,Qh,a,b]
def Dz(d:D):Bool:=F7 d||BQ d
def Hu:D->Prop
 |.tup a=>a.length<=1000/\∀x∈a,Sm x
 |d=>Sm d
def Cs:D->Bool
 |.tup a=>decide (1<=a.length)&&decide (a.length<=4)&&a.all Dz
 |_=>false
theorem iN{e:VE->Option D}(a:∀d,Sm d->e [.val d]=some (.bl (Dz d)))(xs:List D)(h:∀x∈xs,Sm x):C2 (Zm 0) (λ_=>some true) e [.no] xs=some ((xs.map Dz).map D.bl):=by
 have:=Eu (b:=Zm 0) (e:=e) (ρ:=[.no]) (λd:D=>d) (λd=>D.bl (Dz d)) xs λd hd=>⟨[.val d],rfl,a d (h d hd)⟩
 rw[List.map_id']at this
 rw[this,CV];rfl
theorem iO(xs:List D):(xs.map Dz).all id=xs.all Dz:=by rw[List.all_map];rfl
theorem iP(d:D)(h:Hu d):Ht [.val d]=some (.val (.bl (Cs d))):=by
 cases d with
 |tup a=>
  have l:=iN (e:=Qu) (λd hd=>by have:=iM d hd;simp only[Qu,Zw,Zb,AH,AX,AL,this,Bp,BF];rfl) a h.2
  have m:a.length<=Av:=BO h.1 (by decide)
  have j:=iO a
  have f:(a.map Dz).all (λx=>x)=a.all Dz:=j
  by_cases g:1<=a.length
  ·by_cases k:a.length<=4
   ·have c:¬ ((a.length:Int)<1):=by omega
    have i:¬ ((4:Int)<(a.length:Int)):=by omega
    simp[Ht,AQ,Ix,Cs,c,i,g,k,m,ZO,l,-CV,j,f]
   ·have c:¬ ((a.length:Int)<1):=by omega
    have i:(4:Int)<(a.length:Int):=by omega
    simp[Ht,AQ,Ix,Cs,c,i,g,k]
  ·have c:(a.length:Int)<1:=by omega
   simp[Ht,AQ,Ix,Cs,c,g]
 |ty n=>exact h.elim
 |ins _ _=>exact h.elim
 |lst a b=>cases b with
  |true=>exact h.elim
  |false=>simp[Ht,AQ,Ix,Cs]
 |_=>simp[Ht,AQ,Ix,Cs]
def Ax(l:List At):D:=.tup (l.map aD)
abbrev EK:=Nat×At
def Cd{T:Type}:List (EK×T)->EK->Option T
 |[],_=>none
 |e::r,k=>if e.1=k then some e.2 else Cd r k
def DA{T:Type}[DecidableEq T]:List (EK×T)->List (EK×T)->Option (List (EK×T))
 |S,[]=>some S
 |S,e::E=>match Cd S e.1 with
  |some t=>if t=e.2 then DA S E else none
  |none=>DA (S++[e]) E
def kE(k:EK):KT:=.tup [.int (k.1:Int),k.2]
def SK{T:Type}(f:T->D)(S:List (EK×T)):BC:=S.map λe=>(kE e.1,f e.2)
theorem iQ{a b:EK}(h:kE a=kE b):a=b:=by
 obtain⟨i,x⟩:=a
 obtain⟨j,y⟩:=b
 simp only[kE,KT.tup.injEq,Kx,At.int.injEq,and_true]at h
 have:i=j:=by omega
 rw[this,h.2]
theorem Q1{T:Type}(f:T->D)(k:EK):∀S:List (EK×T),Cp (SK f S) (kE k)=(Cd S k).map f
 |[]=>rfl
 |e::r=>by
  have a:=Q1 f k r
  simp only[SK,AY]at a ⊢
  unfold Cp Cd
  by_cases h:e.1=k
  ·rw[if_pos h,if_pos (by rw[h])];rfl
  ·rw[if_neg h,if_neg (λz=>h (iQ z))];exact a
theorem iR{T:Type}(f:T->D)(S:List (EK×T)):∀p∈SK f S,Fy p.1=false:=by
 intro p a
 obtain⟨e,_,rfl⟩:=List.mem_map.mp a
 rfl
theorem iS{T:Type}(f:T->D)(S:List (EK×T))(e:EK×T)(h:Cd S e.1=none):Dl (SK f S) (kE e.1) (f e.2)=SK f (S++[e]):=by
 unfold Dl
 rw[Q1,h]
 simp[SK]
theorem iT(a:At):CM (aD a)=some (.at a):=Jv (.at a)
theorem iU:∀(a b:At),Az (aD a) (aD b)=decide (a=b):=by
 intro a b
 cases a<;>cases b<;>simp[aD]
theorem WP:∀(a b:List At),B7 (a.map aD) (b.map aD)=decide (a=b)
 |[],[]=>by simp
 |[],_::_=>by simp
 |_::_,[]=>by simp
 |x::a,y::b=>by
  have c:=WP a b
  rw[Bool.eq_iff_iff]
  simp[iU,c]
theorem iV(n:Nat)(a:At):A4 n (aD a)=true:=by cases a<;>cases n<;>rfl
theorem Q2(n:Nat)(l:List At):A4 (n+1) (Ax l)=true:=by
 show(l.map aD).all (A4 n)=true
 rw[List.all_map,Eb]
 exact λa _=>iV n a
theorem Q3(a b:List At):Ec (Ax a) (Ax b)=some (.bl (!decide (a=b))):=by
 have c:=Q2 11 a
 have d:=Q2 11 b
 have e:Az (Ax a) (Ax b)=decide (a=b):=by simp only[Ax,Az,WP]
 simp only[Ec,io,c,d,e,Bool.and_self,if_true]
theorem iW{T:Type}[DecidableEq T](f:T->D)(j:∀a b,Ec (f a) (f b)=some (.bl (!decide (a=b))))(S:List (EK×T))(m:S.length<100000)(e:EK×T)(i:Nat)(k l g:VE->Option D)(ρ:VE)(n:Jd ρ i=some (ZB (SK f S)))(o:k ρ=some (kD (kE e.1)))(p:l ρ=some (f e.2))
  (q:∀xs,g (ρ.set i (.own xs true))=some (f e.2)) (d:g ρ=some (f e.2)):
  KP (KO i k l) g ρ=match Cd S e.1 with
   |some t=>some (!decide (t=e.2),ρ)
   |none=>some (false,ρ.set i (.own (ZB (SK f (S++[e]))) true)):=by
 have r:(SK f S).length<Av:=Cu (show(SK f S).length<100000 by simpa[SK]using m) (by decide)
 have s:Dm (kE e.1) (SK f S)=true:=fo _ (iR f S)
 have c:=Q1 f e.1 S
 unfold KP KO
 simp only[n,o,p,Pk,Jv,s,r,decide_true,Bool.and_self,if_true]
 cases h:Cd S e.1 with
 |some t=>
  rw[h]at c
  simp only[c,HP,d,j,AM]
 |none=>
  rw[h]at c
  simp only[c,Option.map_none,q,j,AM,HP,decide_true,J0,iS f S e h]
def Cz:Nat->List At->List (EK×List At)
 |_,[]=>[]
 |i,a::r=>((i,a),r)::Cz (i+1) r
theorem Q4(s0 e:Sl)(l:List At)(I:l.length<=4):∀(Ay pre:List At)(S:List (EK×List At))(n o g:Sl),l=pre++Ay->S.length+Ay.length<100000 ->
  (∃i w x y,DA S (Cz pre.length Ay)=some i/\i.length<=S.length+Ay.length/\Co (Dr 2 (ZW (Zm 4) (ZW (Zm 5) DH))) Lh (Ef pre.length (Ay.map aD)) [s0,.own (ZB (SK Ax S)) true,e,.val (Ax l),n,o,g]=.next [s0,.own (ZB (SK Ax i)) true,e,.val (Ax l),w,x,y]) \/
  (DA S (Cz pre.length Ay)=none/\Co (Dr 2 (ZW (Zm 4) (ZW (Zm 5) DH))) Lh (Ef pre.length (Ay.map aD)) [s0,.own (ZB (SK Ax S)) true,e,.val (Ax l),n,o,g]=.ret (.val (.bl false)))
 |[],pre,S,n,o,g,_,_=>.inl ⟨S,n,o,g,rfl,by simp,rfl⟩
 |a::r,pre,S,n,o,g,j,J=>by
  simp only[A9]at J
  have q:cutD (l.map aD) (some ((pre.length:Int)+1)) none=r.map aD:=by
   rw[VB,JM _ _ (by omega),j]
   have:((pre.length:Int)+1).toNat=pre.length+1:=by omega
   rw[this]
   simp
  have z:=iW Ax Q3 S (by omega) ((pre.length,a),r) 1 (λc=>(Zl (((λc=>Zb (Zj ((λc=>A1 c 4) c)) ((λc=>Zb (Zj ((λc=>A1 c 5) c)) ((λ_=>some []) c)) c)) c).bind Zs)).map D.tup) (λc=>A1 c 6) (λc=>Ao c 6)
   [s0,.own (ZB (SK Ax S)) true,e,.val (Ax l),.val (.int (pre.length:Int)),.val (aD a),.val (Ax r)] rfl (by
    have A:2<=Av:=by decide
    simp[A,kE,kD,aD]) rfl (λL=>rfl) rfl
  have b:Lh [s0,.own (ZB (SK Ax S)) true,e,.val (Ax l),.val (.int (pre.length:Int)),.val (aD a),g] =
    Hn (match Cd S ((pre.length,a):EK)with
     |some t=>some (!decide (t=r),[s0,.own (ZB (SK Ax S)) true,e,.val (Ax l),.val (.int (pre.length:Int)),.val (aD a),.val (Ax r)])
     |none=>some (false,[s0,.own (ZB (SK Ax (S++[((pre.length,a),r)]))) true,e,.val (Ax l),.val (.int (pre.length:Int)),.val (aD a),.val (Ax r)])) (λ_=>.ret (.val (.bl false))) (λc=>.next c):=by
   have s:ZM 6 (C9 (λc=>Ao c 3) (λc=>C8 (Ze ZN (λc=>Ao c 4) (λ_=>some (.int 1)) c)) (λ_=>some none) Dg [s0,.own (ZB (SK Ax S)) true,e,.val (Ax l),.val (.int (pre.length:Int)),.val (aD a),g]) [s0,.own (ZB (SK Ax S)) true,e,.val (Ax l),.val (.int (pre.length:Int)),.val (aD a),g] =
     .next [s0,.own (ZB (SK Ax S)) true,e,.val (Ax l),.val (.int (pre.length:Int)),.val (aD a),.val (Ax r)]:=by
    simp[Ax,q]
   unfold Lh
   try dsimp only
   rw[s]
   simp only[Zg]
   rw[z]
   cases f:Cd S ((pre.length,a):EK)with
   |none=>simp[Hn]
   |some t=>cases hd:decide (t=r)<;>simp[Hn,hd]
  have B:Ef pre.length ((a::r).map aD)=.tup [.int (pre.length:Int),aD a]::Ef (pre.length+1) (r.map aD):=rfl
  have h:(pre++[a]).length=pre.length+1:=by simp
  have k:Dr 2 (ZW (Zm 4) (ZW (Zm 5) DH)) (.tup [.int (pre.length:Int),aD a]) [s0,.own (ZB (SK Ax S)) true,e,.val (Ax l),n,o,g]=some [s0,.own (ZB (SK Ax S)) true,e,.val (Ax l),.val (.int (pre.length:Int)),.val (aD a),g]:=rfl
  rw[B]
  cases f:Cd S ((pre.length,a):EK)with
  |some t=>
   rw[f]at b
   by_cases v:t=r
   ·have u:=Q4 s0 e l I r (pre++[a]) S (.val (.int (pre.length:Int))) (.val (aD a)) (.val (Ax r)) (by rw[j];simp) (by omega)
    rw[h]at u
    have d:DA S (Cz pre.length (a::r))=DA S (Cz (pre.length+1) r):=by simp[Cz,DA,f,v]
    simp only[v,decide_true,J0,Hn]at b
    rw[d]
    simp only[Co,k,b]
    rcases u with⟨i,C,E,G,m,p,H⟩|⟨m,p⟩
    ·exact .inl ⟨i,C,E,G,m,by simp only[A9];omega,H⟩
    ·exact .inr ⟨m,p⟩
   ·have d:DA S (Cz pre.length (a::r))=none:=by simp[Cz,DA,f,v]
    simp only[v,decide_false,Bool.not_false,Hn]at b
    exact .inr ⟨d,by simp only[Co,k,b]⟩
  |none=>
   rw[f]at b
   have u:=Q4 s0 e l I r (pre++[a]) (S++[((pre.length,a),r)]) (.val (.int (pre.length:Int))) (.val (aD a)) (.val (Ax r)) (by rw[j];simp) (by simp;omega)
   rw[h]at u
   have d:DA S (Cz pre.length (a::r))=DA (S++[((pre.length,a),r)]) (Cz (pre.length+1) r):=by simp[Cz,DA,f]
   simp only[Hn]at b
   rw[d]
   simp only[Co,k,b]
   rcases u with⟨i,C,E,G,m,p,H⟩|⟨m,p⟩
   ·exact .inl ⟨i,C,E,G,m,by simp at p;simp only[A9];omega,H⟩
   ·exact .inr ⟨m,p⟩
def FK(F:List At):BC:=F.map λa=>(.at a,.bl true)
theorem Q5(a:At):∀F:List At,Cp (FK F) (.at a)=if a∈F then some (.bl true)else none
 |[]=>by simp[FK,Cp]
 |b::F=>by
  have c:=Q5 a F
  simp only[FK,AY]at c ⊢
  unfold Cp
  by_cases h:b=a
  ·subst h;simp
  ·have d:¬ (KT.at b=KT.at a):=λz=>h (KT.at.inj z)
   have e:¬ a=b:=λz=>h z.symm
   rw[if_neg d,c];simp[e]
theorem iX(F:List At):∀p∈FK F,Fy p.1=true:=by
 intro p a
 obtain⟨e,_,rfl⟩:=List.mem_map.mp a
 rfl
theorem iY(F:List At)(a:At)(h:a∉F):Dl (FK F) (.at a) (.bl true)=FK (F++[a]):=by
 unfold Dl
 rw[Q5,if_neg h]
 simp[FK]
def Ev(n:Nat):List At->List (EK×List At)->List (List At)->Bool
 |_,_,[]=>true
 |F,S,l::b=>match l with
  |[]=>false
  |a::_=>if l.length=n/\a∉F then(match DA S (Cz 0 l)with
   |some c=>Ev n (F++[a]) c b
   |none=>false)else false
theorem WQ(g:D)(f:List At)(t:A0 g (.int 0)=some (Ax f)):∀(e:List (List At))(F:List At)(S:List (EK×List At))(u i j k:Sl),(∀l∈e,1<=l.length/\l.length<=4)->S.length+4*e.length<100000->F.length+e.length<100000 ->
  (∃ρ,Ev f.length F S e=true/\Co (Zm 3) Z0 (e.map Ax) [.val g,.own (ZB (SK Ax S)) true,.own (ZB (FK F)) true,u,i,j,k]=.next ρ) \/
  (Ev f.length F S e=false/\Co (Zm 3) Z0 (e.map Ax) [.val g,.own (ZB (SK Ax S)) true,.own (ZB (FK F)) true,u,i,j,k]=.ret (.val (.bl false)))
 |[],F,S,u,i,j,k,_,_,_=>.inl ⟨_,rfl,rfl⟩
 |[]::e,F,S,u,i,j,k,h,_,_=>by have:=(h [] Bw).1;simp at this
 |(a::r)::e,F,S,u,i,j,k,h,A,B=>by
  simp only[A9]at A B
  have C:=h (a::r) Bw
  have J:F.length<Av:=Cu (show F.length<100000 by omega) (by decide)
  have E:=UP a (iX F)
  have v:=Q5 a F
  have O:atI ((a::r).map aD) 0=some (aD a):=by simp[atI,DT]
  have w:(FK F).length=F.length:=by simp[FK]
  have b:B4 [Ax f]=some (.int (f.length:Int)):=by simp[Ax]
  have c:B4 [Ax (a::r)]=some (.int ((a::r).length:Int)):=by simp[Ax]
  have o:A0 (Ax (a::r)) (.int 0)=some (aD a):=by simp only[Ax,A0];exact O
  have hok:=iT a
  have x:Fw (Ax (a::r))=some ((a::r).map aD):=rfl
  simp only[AY,Co,Zm,Ce,B5]
  by_cases d:(a::r).length=f.length
  ·by_cases s:a∈F
   ·rw[if_pos s]at v
    refine .inr ⟨by simp[Ev,s],?_⟩
    have p:Z0 [.val g,.own (ZB (SK Ax S)) true,.own (ZB (FK F)) true,.val (Ax (a::r)),i,j,k]=.ret (.val (.bl false)):=by
     simp[Z0,-A0,-B4,t,o,b,c,d,hok,E,v]
    rw[p]
   ·rw[if_neg s]at v
    have n:=iY F a s
    have y:=Q4 (.val g) (.own (ZB (FK (F++[a]))) true) (a::r) C.2 (a::r) [] S i j k (by simp) (by simp only[A9]at C ⊢;omega)
    simp only[Bg]at y
    rcases y with⟨G,L,M,N,H,I,Q⟩|⟨H,I⟩
    ·have T:=WQ g f t e (F++[a]) G (.val (Ax (a::r))) L M N (λm U=>h m (BA _ U)) (by simp only[A9]at C I;omega) (by simp;omega)
     have q:Ev f.length F S ((a::r)::e)=Ev f.length (F++[a]) G e:=by simp only[Ev,d,s,H,not_false_eq_true,and_self,if_true]
     have p:Z0 [.val g,.own (ZB (SK Ax S)) true,.own (ZB (FK F)) true,.val (Ax (a::r)),i,j,k]=.next [.val g,.own (ZB (SK Ax G)) true,.own (ZB (FK (F++[a]))) true,.val (Ax (a::r)),L,M,N]:=by
      simp[Z0,-A0,-B4,t,o,b,c,d,hok,E,v,Jx,w,J,n,-Fw,x,Q,-AY]
     rw[p,q]
     exact T
    ·have q:Ev f.length F S ((a::r)::e)=false:=by simp only[Ev,d,s,H,not_false_eq_true,and_self,if_true]
     refine .inr ⟨q,?_⟩
     have p:Z0 [.val g,.own (ZB (SK Ax S)) true,.own (ZB (FK F)) true,.val (Ax (a::r)),i,j,k]=.ret (.val (.bl false)):=by
      simp[Z0,-A0,-B4,t,o,b,c,d,hok,E,v,Jx,w,J,n,-Fw,x,I,-AY]
     rw[p]
  ·have z:¬ ((r.length:Int)+1=(f.length:Int)):=by simp only[A9]at d;omega
   refine .inr ⟨by simp only[Ev,d,false_and,if_false],?_⟩
   have p:Z0 [.val g,.own (ZB (SK Ax S)) true,.own (ZB (FK F)) true,.val (Ax (a::r)),i,j,k]=.ret (.val (.bl false)):=by
    simp[Z0,-A0,-B4,t,b,c,z]
   rw[p]
theorem iZ{d:D}(h:Dz d=true):∃a,d=aD a:=by
 cases d with
 |int i=>exact⟨.int i,rfl⟩
 |str x=>exact⟨.str x,rfl⟩
 |_=>simp[Dz,F7,BQ]at h
theorem WR:∀{xs:List D},xs.all Dz=true->∃l:List At,xs=l.map aD
 |[],_=>⟨[],rfl⟩
 |x::xs,h=>by
  simp only[Kw,C5]at h
  obtain⟨a,rfl⟩:=iZ h.1
  obtain⟨l,rfl⟩:=WR h.2
  exact⟨a::l,rfl⟩
theorem GV{d:D}(h:Cs d=true):∃l:List At,d=Ax l/\1<=l.length/\l.length<=4:=by
 cases d with
 |tup a=>
  simp only[Cs,C5,decide_eq_true_eq]at h
  obtain⟨l,rfl⟩:=WR h.2
  exact⟨l,rfl,by simpa using h.1.1,by simpa using h.1.2⟩
 |_=>simp[Cs]at h
theorem WS:∀{xs:List D},xs.all Cs=true->∃a:List (List At),xs=a.map Ax/\∀l∈a,1<=l.length/\l.length<=4
 |[],_=>⟨[],rfl,λ_ h=>nomatch h⟩
 |x::xs,h=>by
  simp only[Kw,C5]at h
  obtain⟨l,rfl,c⟩:=GV h.1
  obtain⟨a,rfl,d⟩:=WS h.2
  refine⟨l::a,rfl,λm b=>?_⟩
  rcases Bm.mp b with rfl|b
  ·exact c
  ·exact d m b
def Hv(a:List (List At)):Bool:=match a with
 |[]=>true
 |l::_=>Ev l.length [] [] a
theorem i0{e:VE->Option D}(a:∀d,Hu d->e [.val d]=some (.bl (Cs d)))(xs:List D)(h:∀x∈xs,Hu x):C2 (Zm 0) (λ_=>some true) e [.no] xs=some ((xs.map Cs).map D.bl):=by
 have:=Eu (b:=Zm 0) (e:=e) (ρ:=[.no]) (λd:D=>d) (λd=>D.bl (Cs d)) xs λd hd=>⟨[.val d],rfl,a d (h d hd)⟩
 rw[List.map_id']at this
 rw[this,CV];rfl
theorem WT(xs:List D)(h:∀x∈xs,Hu x)(hz:xs.length<=1000):(xs.all Cs=false/\GS [.val (.lst xs)]=some (.val (.bl false)))\/(xs.all Cs=true/\∃a:List (List At),xs=a.map Ax/\(∀l∈a,1<=l.length/\l.length<=4)/\GS [.val (.lst xs)]=some (.val (.bl (Hv a)))):=by
 have k:=i0 (e:=QG) (λd hd=>by have:=iP d hd;simp only[QG,Zw,Zb,AH,AX,AL,this,Bp,BF]) xs h
 have f:xs.length<=Av:=BO hz (by decide)
 have i:(xs.map Cs).all id=xs.all Cs:=by rw[List.all_map];rfl
 have b:(xs.map Cs).all (λx=>x)=xs.all Cs:=i
 cases g:xs.all Cs with
 |false=>
  refine .inl ⟨rfl,?_⟩
  rw[g]at i b
  simp[GS,AQ,JX,Lj,Li,f,ZO,k,-CV,i,b]
 |true=>
  rw[g]at i b
  obtain⟨a,rfl,j⟩:=WS g
  refine .inr ⟨rfl,a,rfl,j,?_⟩
  cases a with
  |nil=>simp[GS,AQ,JX,Lj,Li,Nd,M8,Nc,M9,Nb,Na,QI,QH,C2,F1,Co,Hv]
  |cons c a=>
   have q:(c::a).length<=1000:=by rw[Bb]at hz;exact hz
   have r:A0 (.lst ((c::a).map Ax)) (.int 0)=some (Ax c):=by simp[atI,DT]
   have p:=WQ (.lst ((c::a).map Ax)) c r (c::a) [] [] .no .no .no .no j (by simp only[Bg];omega) (by simp only[Bg];omega)
   rw[show ZB (SK Ax [])=[]from rfl,show ZB (FK [])=[]from rfl]at p
   have m:Hv (c::a)=Ev c.length [] [] (c::a):=rfl
   rw[m]
   generalize (c::a).map Ax=G at *
   rcases p with⟨s,n,o⟩|⟨n,o⟩
   ·rw[n]
    simp[GS,AQ,JX,Lj,Li,Nd,M8,Nc,M9,Nb,Na,QI,QH,f,ZO,k,-CV,i,b,o]
   ·rw[n]
    simp[GS,AQ,JX,Lj,Li,Nd,M8,Nc,M9,Nb,Na,f,ZO,k,-CV,i,b,o]
def Bl{T:Type}(E:List (EK×T)):Prop:=∀k t a,(k,t)∈E->(k,a)∈E->t=a
theorem WU{T:Type}{k:EK}{t:T}:∀{S:List (EK×T)},Cd S k=some t->(k,t)∈S
 |[],h=>by cases h
 |e::r,h=>by
  unfold Cd at h
  by_cases a:e.1=k
  ·rw[if_pos a]at h;cases h;subst a;exact Bw
  ·rw[if_neg a]at h;exact BA _ (WU h)
theorem WV{T:Type}{k:EK}:∀{S:List (EK×T)},Cd S k=none->∀t,(k,t)∉S
 |[],_,t,h=>nomatch h
 |e::r,a,t,h=>by
  unfold Cd at a
  by_cases b:e.1=k
  ·rw[if_pos b]at a;cases a
  ·rw[if_neg b]at a
   rcases Bm.mp h with h|h
   ·exact b (by rw[<- h])
   ·exact WV a t h
theorem Q6{T:Type}[DecidableEq T]:∀(E S:List (EK×T)),Bl S->(∃m,DA S E=some m/\(∀e,e∈m↔e∈S++E)/\Bl (S++E))\/(DA S E=none/\¬ Bl (S++E))
 |[],S,h=>.inl ⟨S,rfl,by simp,by simpa using h⟩
 |e::E,S,h=>by
  unfold DA
  cases q:Cd S e.1 with
  |some t=>
   have o:=WU q
   by_cases n:t=e.2
   ·have p:e∈S:=by rw[n]at o;exact o
    have d:∀x,x∈S++e::E↔x∈S++E:=λx=>by
     simp only[CT,Bm]
     constructor
     ·rintro(h|rfl|h)
      ·exact .inl h
      ·exact .inl p
      ·exact .inr h
     ·rintro(h|h)
      ·exact .inl h
      ·exact .inr (.inr h)
    have j:Bl (S++e::E)↔Bl (S++E):=⟨λf k t l g i=>f k t l ((d _).mpr g) ((d _).mpr i),λf k t l g i=>f k t l ((d _).mp g) ((d _).mp i)⟩
    simp only[n,if_true]
    rcases Q6 E S h with⟨m,a,b,c⟩|⟨a,b⟩
    ·exact .inl ⟨m,a,λx=>(b x).trans (d x).symm,j.mpr c⟩
    ·exact .inr ⟨a,λf=>b (j.mp f)⟩
   ·simp only[n,if_false]
    refine .inr ⟨trivial,λf=>n (f e.1 t e.2 (HB _ o) (CA _ Bw))⟩
  |none=>
   have r:=WV q
   have s:Bl (S++[e]):=λk t l g i=>by
    simp only[CT,D3]at g i
    rcases g with g|g<;>rcases i with i|i
    ·exact h k t l g i
    ·have:k=e.1:=by rw[<- i]
     subst this;exact absurd g (r t)
    ·have:k=e.1:=by rw[<- g]
     subst this;exact absurd i (r l)
    ·have:=g.trans i.symm
     injection this
   have u:S++e::E=S++[e]++E:=by simp
   rw[u]
   exact Q6 E (S++[e]) s
def hd(l:List At):At:=l.headD .non
def IB{T:Type}[DecidableEq T](Cf:List At->List (EK×T))(n:Nat):List At->List (EK×T)->List (List At)->Bool
 |_,_,[]=>true
 |F,S,l::b=>match l with
  |[]=>false
  |a::_=>if l.length=n/\a∉F then(match DA S (Cf l)with
   |some c=>IB Cf n (F++[a]) c b
   |none=>false)else false
theorem WW(n:Nat):∀(b:List (List At))(F:List At)(S:List (EK×List At)),Ev n F S b=IB (Cz 0) n F S b
 |[],_,_=>rfl
 |[]::b,_,_=>rfl
 |(a::r)::b,F,S=>by
  simp only[Ev,IB]
  cases DA S (Cz 0 (a::r))with
  |none=>rfl
  |some c=>simp only[WW n b]
theorem Bl.congr{T:Type}{E d:List (EK×T)}(h:∀e,e∈E↔e∈d):Bl E↔Bl d:=⟨λf k t a b c=>f k t a ((h _).mpr b) ((h _).mpr c),λf k t a b c=>f k t a ((h _).mp b) ((h _).mp c)⟩
theorem Bl.left{T:Type}{E a:List (EK×T)}(h:Bl (E++a)):Bl E:=λk t b c d=>h k t b (HB _ c) (HB _ d)
theorem WX{T:Type}[DecidableEq T](Cf:List At->List (EK×T))(n:Nat):∀(b:List (List At))(F:List At)(S:List (EK×T)),F.Nodup->Bl S->(∀l∈b,l≠[]) ->
  (IB Cf n F S b=true↔(∀l∈b,l.length=n)/\(F++b.map hd).Nodup/\Bl (S++b.flatMap Cf))
 |[],F,S,o,p,_=>by simp[IB,o,p]
 |[]::b,F,S,o,p,h=>by exact absurd rfl (h [] Bw)
 |(a::r)::b,F,S,o,p,h=>by
  have B:∀l∈b,l≠[]:=λl c=>h l (BA _ c)
  have f:S++((a::r)::b).flatMap Cf=S++Cf (a::r)++b.flatMap Cf:=by simp
  rw[f]
  have s:F++((a::r)::b).map hd=F++[a]++b.map hd:=by simp[hd]
  rw[s]
  have t:IB Cf n F S ((a::r)::b)=if(a::r).length=n/\a∉F then(match DA S (Cf (a::r))with
   |some g=>IB Cf n (F++[a]) g b
   |none=>false)else false:=rfl
  rw[t]
  by_cases i:(a::r).length=n/\a∉F
  ·have u:(F++[a]).Nodup:=by
    rw[Jr]
    exact⟨o,by simp,λx C y A=>by simp at A;subst A;rintro rfl;exact i.2 C⟩
   rw[if_pos i]
   rcases Q6 (Cf (a::r)) S p with⟨g,v,q,E⟩|⟨v,q⟩
   ·have w:Bl g:=(Bl.congr q).mpr E
    simp only[v]
    rw[WX Cf n b (F++[a]) g u w B]
    have j:Bl (g++b.flatMap Cf)↔Bl (S++Cf (a::r)++b.flatMap Cf):=Bl.congr λe=>by
     rw[CT,CT,q e]
    rw[j]
    constructor
    ·rintro⟨k,d,m⟩
     exact⟨λl c=>by rcases Bm.mp c with rfl|c;exact i.1;exact k l c,d,m⟩
    ·rintro⟨k,d,m⟩
     exact⟨λl c=>k l (BA _ c),d,m⟩
   ·simp only[v]
    constructor
    ·intro z;cases z
    ·rintro⟨_,_,m⟩
     exact absurd m.left q
  ·rw[if_neg i]
   constructor
   ·intro z;cases z
   ·rintro⟨k,d,_⟩
    refine absurd ⟨k _ Bw,λG=>?_⟩ i
    rw[Jr]at d
    have:=d.1
    rw[Jr]at this
    exact this.2.2 a G a (by simp) rfl
theorem Q7:∀(l:List At)(j:Nat)(e:EK×List At),e∈Cz j l↔∃m,e.1.1=j+m/\l[m]?=some e.1.2/\e.2=l.drop (m+1)
 |[],j,e=>by simp[Cz]
 |a::r,j,e=>by
  rw[Cz,Bm,Q7 r (j+1) e]
  constructor
  ·rintro(rfl|⟨m,d,b,c⟩)
   ·exact⟨0,by simp,by simp,by simp⟩
   ·exact⟨m+1,by omega,by simpa using b,by simpa using c⟩
  ·rintro⟨m,d,b,c⟩
   cases m with
   |zero=>
    left
    obtain⟨⟨i,x⟩,t⟩:=e
    simp at d b c
    rw[d,b,c]
   |succ m=>right;exact⟨m,by omega,by simpa using b,by simpa using c⟩
theorem i3{T:Type}:Bl ([]:List (EK×T)):=λ_ _ _ h=>by cases h
theorem OE(x:Af):x.length=x.cps.toList.length:=by simp[Str.length]
theorem i4{b:Type}{f:Nat->b}{m:Nat}(h:((BL m).map f).Nodup){j k:Nat}(c:j<m)(d:k<m)(e:f j=f k):j=k:=by
 rw[List.nodup_iff_pairwise_ne,List.pairwise_map]at h
 rcases Nat.lt_trichotomy j k with a|a|a
 ·exact absurd e (List.pairwise_iff_getElem.mp h j k (by simpa) (by simpa) a |> λz=>by simpa using z)
 ·exact a
 ·exact absurd e.symm (List.pairwise_iff_getElem.mp h k j (by simpa) (by simpa) a |> λz=>by simpa using z)
def GW(W:List Nat):Prop:=(∃c r,W=c::r/\c∈Bj.cps.toList)/\W.all F8=true
theorem GW.word{W:List Nat}(h:GW W)(a:W.length<=12):IA W=true:=by
 obtain⟨⟨c,r,rfl,b⟩,d⟩:=h
 simp only[IA,b,decide_true,Bool.true_and,d,a]
theorem i5{z:Af}(h:GW z.cps.toList)(a:z.cps.toList.length<=12):Dz (aD (.str z))=true/\Sm (aD (.str z)):=by
 refine⟨?_,?_⟩
 ·show(F7 (.str z)||BQ (.str z))=true
  simp only[F7,BQ,h.word a,Bool.or_true]
 ·show z.length<=100
  rw[OE];omega
theorem GX(x k:Int)(q1:0<k)(q2:k<1000000000):E8 (.int x) (.int k)=some (.int (x/k)):=by
 show(if Kd x k then some (D.int (x/k))else none)=_
 rw[if_pos ⟨q1,by omega⟩]
theorem CF(x k:Int)(q1:0<k):Cg (.int x) (.int k)=some (.int (x%k)):=by
 show(if(0:Int)<k then some (D.int (x%k))else none)=_
 rw[if_pos q1]
theorem F9{x y:Int}(h:C4 x y):Es (.int x) (.int y)=some (.int (x*y)):=by show(if C4 x y then some (D.int (x*y))else none)=_;rw[if_pos h]
theorem EL(x y:Int):ZN (.int x) (.int y)=some (.int (x+y)):=rfl
theorem Lm(x y:Int):HV (.int x) (.int y)=some (.int (x-y)):=rfl
theorem DO(a b:Int):Bo (.int a) (.int b)=some (.bl (decide (a=b))):=by simp
def EX(x:Int)(k:Nat):Int:=(x*45742+x/46949+29*(k:Int)+11)%2147483647
theorem i6(x:Int)(k:Nat):0<=EX x k/8:=by unfold EX;omega
def FD(x:Int)(k:Nat):Nat->List Int
 |0=>[]
 |n+1=>(EX x k/8)::FD (EX x k) (k+1) n
theorem WY:∀(n k:Nat)(x:Int),(FD x k n).length=n
 |0,_,_=>rfl
 |n+1,k,x=>by simp[FD,WY n]
theorem WZ:∀(n k:Nat)(x:Int),∀y∈FD x k n,0<=y
 |0,_,_,y,h=>by cases h
 |n+1,k,x,y,h=>by
  simp only[FD,Bm]at h
  rcases h with rfl|h
  ·exact i6 x k
  ·exact WZ n _ _ y h
theorem i7(s0 b:Sl)(k:Nat)(x:Int)(a:List Int)(hz:a.length<Av):MQ [s0,b,.val (.int x),.own (a.map D.int),.val (.int (k:Int))]=.next [s0,b,.val (.int (EX x k)),.own ((a++[EX x k/8]).map D.int),.val (.int (k:Int))]:=by
 have c:=F9 (x:=x) (y:=45742) (by right;decide)
 have d:=GX x 46949 (by decide) (by decide)
 have e:=F9 (x:=29) (y:=(k:Int)) (by left;decide)
 have f:=CF (x*45742+x/46949+29*(k:Int)+11) 2147483647 (by decide)
 have g:=GX ((x*45742+x/46949+29*(k:Int)+11)%2147483647) 8 (by decide) (by decide)
 unfold EX
 simp only[MQ,Ze,Ao,A7,AX,AL,c,d,e,EL,f,ZM,Zg,Ce,B5,g,EC,C7,Bb,if_pos hz,Hl,AY,BH]
theorem W0(s0 c:Sl):∀(n k:Nat)(x:Int)(a:List Int)(d:Sl),a.length+n<100000->∃f b,Co (Zm 4) MQ ((IC k n).map λ(k:Nat)=>D.int (k:Int)) [s0,c,.val (.int x),.own (a.map D.int),d]=.next [s0,c,.val (.int f),.own ((a++FD x k n).map D.int),b]
 |0,k,x,a,d,_=>⟨x,d,by simp[Co,FD]⟩
 |n+1,k,x,a,d,h=>by
  obtain⟨f,b,e⟩:=W0 s0 c n (k+1) (EX x k) (a++[EX x k/8]) (.val (.int (k:Int))) (by simp;omega)
  have g:a.length<Av:=Cu (show a.length<100000 by omega) (by decide)
  refine⟨f,b,?_⟩
  rw[List.range'_succ,AY]
  simp only[Co,Zm,Ce,B5]
  rw[i7 s0 c k x a g]
  simp only[FD]
  rw[show a++(EX x k/8)::FD (EX x k) (k+1) n=a++[EX x k/8]++FD (EX x k) (k+1) n by simp]
  exact e
theorem i8(c:Int):∃ws:List Int,MR [.val (.int c),.val (.int 40)]=some (.val (.lst (ws.map D.int)))/\ws.length=40/\∀y∈ws,0<=y:=by
 have d:ED [.int 42]=some ((IC 0 42).map λ(k:Nat)=>D.int (k:Int)):=by
  have:=Iv 42 (by omega)
  rw[Q8]at this
  exact this
 obtain⟨i,f,e⟩:=W0 (.val (.int c)) (.val (.int 40)) 42 0 (c%2147483549+17) [] .no (by simp)
 have b:=WY 42 0 (c%2147483549+17)
 have a:=WZ 42 0 (c%2147483549+17)
 simp only[Ct,BH]at e
 generalize FD (c%2147483549+17) 0 42=W at *
 have g:cutD (W.map D.int) (some 2) none=(W.drop 2).map D.int:=by rw[VB,JM _ _ (by omega)];rfl
 have j:=CF c 2147483549 (by decide)
 have l:(W.map D.int).length<=Av:=by rw[Bb,b];decide
 refine⟨W.drop 2,?_,by simp[b],λy h=>a y (List.mem_of_mem_drop h)⟩
 simp[MR,AQ,P6,VT,VS,VR,VQ,VM,VN,VO,VP,d,e,g]
theorem Nv{xs:List Int}{i:Int}(a:0<=i)(b:i<xs.length):atI (xs.map D.int) i=some (.int (xs.getD i.toNat 0)):=by
 rw[show i=((i.toNat:Nat):Int) by omega]
 have h:i.toNat<xs.length:=by omega
 exact ZL (by rw[D8,Hk,DG h];simp[GJ,h])
theorem W1{i g:Type}{b:D->VE->Option VE}{e:VE->Option D}{ρ:VE}(G:i->D)(W:g->D)(P:g->Prop):∀(xs:List i),(∀x∈xs,∃c a,P c/\b (G x) ρ=some a/\e a=some (W c))->∃f:List g,C2 b (λ_=>some true) e ρ (xs.map G)=some (f.map W)/\f.length=xs.length/\∀c∈f,P c
 |[],_=>⟨[],rfl,rfl,λ_ h=>nomatch h⟩
 |x::xs,h=>by
  obtain⟨c,a,j,k,l⟩:=h x Bw
  obtain⟨f,m,n,o⟩:=W1 G W P xs λy p=>h y (BA _ p)
  refine⟨c::f,?_,by simp[n],λd hd=>?_⟩
  ·simp only[AY,C2,k,l,Zb,AL,m]
  ·rcases Bm.mp hd with rfl|hd
   ·exact j
   ·exact o d hd
abbrev cS(c:Nat):D:=.str ⟨#[c]⟩
theorem i9:∀a:List Nat,(Txt.join "" (a.map λc=>(⟨#[c]⟩:Af))).cps.toList=a:=by
 intro a
 show(Builtin.Str.glued "" (a.map λc=>(⟨#[c]⟩:Af))).cps.toList=a
 rw[StrLaws.glued_eq_join]
 induction a with
 |nil=>rfl
 |cons c a b=>
  cases a with
  |nil=>rfl
  |cons d a=>
   show((⟨#[c]⟩:Af)++("":Af)++Str.join "" ((d::a).map λc=>(⟨#[c]⟩:Af))).cps.toList=_
   have e:∀(x y:Af),(x++y).cps.toList=x.cps.toList++y.cps.toList:=λx y=>by
    show(x.cps++y.cps).toList=_
    simp
   have f:("":Af).cps.toList=[]:=by decide +kernel
   rw[e,e,b,f];rfl
structure W2(f:Nat->At):Prop where
 inj:∀j k,j<6->k<6->f j=f k->j=k
 val:∀k,k<6->Dz (aD (f k))=true
 sm:∀k,k<6->Sm (aD (f k))
 lt:∀k i,k<6->f k=.int i->i<10^40
theorem J1{x y:Int}(h:IJ x y):EF (.int x) (.int y)=some (.int (x^y.toNat)):=by show(if IJ x y then some (D.int (x^y.toNat))else none)=_;rw[if_pos h]
theorem ja(c:Int)(k:Nat):GR [.val (.int c),.val (.int 0),.val (.int (k:Int))]=some (.val (.int (c%10^30-5*10^29+(k:Int)))):=by
 have a:EF (.int 10) (.int 30)=some (.int (10^30)):=J1 (by decide)
 have b:EF (.int 10) (.int 29)=some (.int (10^29)):=J1 (by decide)
 have d:=CF c (10^30) (by decide)
 have e:Es (.int 5) (.int (10^29))=some (.int (5*10^29)):=F9 (by left;decide)
 have f:AM (Bo (.int 0) (.int 0))=some true:=by decide
 simp only[GR,AQ,A9,Bg,BI,if_true,MT,P8,P7,Ze,Ao,A7,AX,AL,Cq,Ct,f,ZE,Zg,a,b,d,e,Lm,EL,ZA]
def sg(i:Nat):Nat:=signs.cps.toList.getD i 0
theorem jb:((BL 36).map sg).Nodup:=by decide +kernel
theorem W3:∀i∈BL 26,sg i∈Bj.cps.toList:=by decide +kernel
theorem Q9:∀i∈BL 36,F8 (sg i)=true:=by decide +kernel
theorem W4(i:Nat)(h:i<36):A0 (.str "abcdefghijklmnopqrstuvwxyz0123456789") (.int (i:Int))=some (cS (sg i)):=by
 have a:=WM
 have b:signs.length<=Av:=by rw[WM];decide
 have d:signs.cps.toList.length=36:=by rw[<- OE];exact a
 have e:atI signs.cps.toList (i:Int)=some (signs.cps.toList[i]'(by omega)):=ZL (DG (by omega))
 show(if signs.length<=Av then(atI signs.cps.toList (i:Int)).map λc=>D.str ⟨#[c]⟩else none)=_
 rw[if_pos b,e]
 simp[sg,GJ,d,h]
def md(j:Nat):Int:=if j=0 then 26 else 36
theorem W5(j:Nat):A0 (.lst [.int 36,.int 26]) (.int (if decide ((j:Int)=0)=true then 1 else 0))=some (.int (md j)):=by
 unfold md
 by_cases h:j=0
 ·subst h;rfl
 ·have a:¬ ((j:Int)=0):=by omega
  simp only[h,a,decide_false,if_false];rfl
theorem Nw(j:Nat):0<md j/\md j<=36:=by unfold md;split<;>decide
def EM(x:Int)(j:Nat):Nat:=(x%md j).toNat
theorem ID(x:Int)(j:Nat):EM x j<36:=by
 have:=Nw j
 unfold EM
 have a:=Hw x this.1
 have b:=Ga x (show md j≠0 by omega)
 omega
theorem W6(x:Int):EM x 0<26:=by
 unfold EM md
 have a:=Hw x (show(0:Int)<26 by decide)
 have b:=Ga x (show(26:Int)≠0 by decide)
 simp only[if_true];omega
theorem Nx(x:Int)(j:Nat):x%md j=(EM x j:Int):=by
 have:=Nw j
 have a:=Ga x (show md j≠0 by omega)
 unfold EM;omega
theorem jc(x:Int)(j:Nat){a b:Nat}(d:a<6)(f:b<6)(e:EM (x+5*(a:Int)) j=EM (x+5*(b:Int)) j):a=b:=by
 have c:(x+5*(a:Int))%md j=(x+5*(b:Int))%md j:=by rw[Nx,Nx,e]
 unfold md at c
 split at c<;>omega
theorem jd(c:Int)(j:Nat)(h:j<1000):MS [.val (.int (j:Int)),.val (.str "abcdefghijklmnopqrstuvwxyz0123456789"),.val (.int c)]=some (cS (sg (EM (c/((j:Int)+2)+4*(j:Int)) j))):=by
 have a:=GX c ((j:Int)+2) (by omega) (by omega)
 have b:=F9 (x:=4) (y:=(j:Int)) (by left;decide)
 have d:=CF (c/((j:Int)+2)+4*(j:Int)) (md j) (Nw j).1
 have e:=W5 j
 have f:=W4 _ (ID (c/((j:Int)+2)+4*(j:Int)) j)
 have g:([D.int 36,.int 26]:List D).length<=Av:=by decide
 simp only[MS,Ze,Ao,A7,AX,AL,EL,a,b,DO,Zj,Bp,Zb,ZJ,CD,pk,L2.intD,Zs,Zl,if_pos g,Zz,e,d]
 rw[Nx,f]
def wB(c:Int)(n:Nat):List Nat:=(BL n).map λ(j:Nat)=>sg (EM (c/((j:Int)+2)+4*(j:Int)) j)
def wK(c:Int)(n a:Nat)(k:Nat):List Nat:=(wB c n).set a (sg (EM (c/((a:Int)+2)+4*(a:Int)+5*(k:Int)) a))
def wS(L:List Nat):Af:=Txt.join "" (L.map λc=>(⟨#[c]⟩:Af))
theorem Ny(L:List Nat):(wS L).cps.toList=L:=i9 L
theorem Nz(c:Int)(n:Nat):(wB c n).length=n:=by simp[wB]
theorem je(c:Int)(n:Nat):∀x∈wB c n,F8 x=true:=by
 intro x a
 obtain⟨j,b,rfl⟩:=List.mem_map.mp a
 exact Q9 _ (List.mem_range.mpr (ID _ _))
theorem jf(c:Int)(n:Nat)(h:0<n):∃x r,wB c n=x::r/\x∈Bj.cps.toList:=by
 obtain⟨m,rfl⟩:∃m,n=m+1:=⟨n-1,by omega⟩
 refine⟨_,_,by rw[wB,List.range_succ_eq_map,AY],?_⟩
 exact W3 _ (List.mem_range.mpr (W6 _))
theorem jg(c:Int)(n a k:Nat)(h:0<n):GW (wK c n a k):=by
 obtain⟨x,r,e,f⟩:=jf c n h
 have d:=je c n
 unfold wK
 rw[e]at d ⊢
 cases a with
 |zero=>
  refine⟨⟨_,r,rfl,W3 _ (List.mem_range.mpr (W6 _))⟩,Eb.mpr λy b=>?_⟩
  rcases Bm.mp b with rfl|b
  ·exact Q9 _ (List.mem_range.mpr (ID _ _))
  ·exact d y (BA _ b)
 |succ a=>
  refine⟨⟨x,r.set a _,rfl,f⟩,Eb.mpr λy b=>?_⟩
  rcases Bm.mp b with rfl|b
  ·exact d _ Bw
  ·rcases List.mem_or_eq_of_mem_set b with b|rfl
   ·exact d y (BA _ b)
   ·exact Q9 _ (List.mem_range.mpr (ID _ _))
theorem jh(c:Int)(n a:Nat)(g:a<n){j k:Nat}(d:j<6)(f:k<6)(e:wK c n a j=wK c n a k):j=k:=by
 unfold wK at e
 have b:=congrArg (λl=>l[a]?) e
 have h:=Nz c n
 simp only[Cv (show a<(wB c n).length by omega),L0]at b
 exact jc _ _ d f (i4 jb (ID _ _) (ID _ _) b)
theorem W7:∀L:List Nat,(L.map λ_=>1).sum=L.length
 |[]=>rfl
 |_::L=>by rw[AY,List.sum_cons,W7 L,A9];omega
theorem ji(c w:Int)(g:¬ w=0)(n a k:Nat)(h:1+c%12=(n:Int))(d:n<=12)(i:c/12%(n:Int)=(a:Int))(l:a<n):GR [.val (.int c),.val (.int w),.val (.int (k:Int))]=some (.val (.str (wS (wK c n a k)))):=by
 have q0:AM (Bo (.int w) (.int 0))=some false:=by rw[DO];simp[g]
 have q1:=CF c 12 (by decide)
 have q2:=GX c 12 (by decide) (by decide)
 have q3:=CF (c/12) (n:Int) (by omega)
 rw[i]at q3
 have q4:=Iv n (by omega)
 have q5:=Eu (b:=Zm 0) (e:=MS) (ρ:=[.no,.val (.str "abcdefghijklmnopqrstuvwxyz0123456789"),.val (.int c)]) (λ(j:Nat)=>D.int (j:Int)) (λ(j:Nat)=>cS (sg (EM (c/((j:Int)+2)+4*(j:Int)) j))) (BL n) λj m=>⟨_,rfl,jd c j (by have:=List.mem_range.mp m;omega)⟩
 have q6:(BL n).map (λ(j:Nat)=>cS (sg (EM (c/((j:Int)+2)+4*(j:Int)) j)))=(wB c n).map cS:=by rw[wB,CV];rfl
 rw[q6]at q5
 have q7:((BL n).map λ(k:Nat)=>D.int (k:Int)).length<=Av:=by rw[Bb,NA];exact BO d (by decide)
 have o:=GX c ((a:Int)+2) (by omega) (by omega)
 have p:=F9 (x:=4) (y:=(a:Int)) (by left;decide)
 have f:=F9 (x:=5) (y:=(k:Int)) (by left;decide)
 have q:=CF (c/((a:Int)+2)+4*(a:Int)+5*(k:Int)) (md a) (Nw a).1
 have r:=W5 a
 have s:=W4 _ (ID (c/((a:Int)+2)+4*(a:Int)+5*(k:Int)) a)
 have t:([D.int 36,.int 26]:List D).length<=Av:=by decide
 have u:DT ((wB c n).map cS).length (a:Int)=some a:=by
  rw[Bb,Nz];unfold DT
  rw[if_pos (by omega),if_pos (by omega)];simp
 have v:((wB c n).map cS).set a (cS (sg (EM (c/((a:Int)+2)+4*(a:Int)+5*(k:Int)) a)))=(wK c n a k).map cS:=by rw[wK,List.map_set]
 have z:GF ((wK c n a k).map cS)=some ((wK c n a k).map λc=>(⟨#[c]⟩:Af)):=by
  have:=Uj ((wK c n a k).map λc=>(⟨#[c]⟩:Af))
  rwa[CV]at this
 have A:(((wK c n a k).map λc=>(⟨#[c]⟩:Af)).map (·.length)).sum+((wK c n a k).map λc=>(⟨#[c]⟩:Af)).length*("":Af).length<=16777216:=by
  have B:(wK c n a k).length=n:=by simp[wK,Nz]
  have C:((wK c n a k).map λc=>(⟨#[c]⟩:Af)).map (·.length)=(wK c n a k).map λ_=>1:=by rw[CV];rfl
  have E:("":Af).length=0:=by decide
  rw[C,E,Nat.mul_zero,Nat.add_zero,W7,B]
  omega
 simp only[GR,AQ,A9,Bg,BI,if_true,MT,P8,P7,Ze,Ao,A7,AX,AL,Cq,Ct,q0,ZE,Zg,CQ,Cy,Cn,
  V5,VU,ZM,Ce,B5,V4,VV,q1,EL,h,V3,VW,q2,q3,V2,VX,ZQ,Zj,Bp,A1,Zb,Zs,q4,Zl,if_pos q7,ZO,AY,BH,FT,q5,DZ]
 simp only[V1,VY,Ze,Ao,A7,AX,AL,EL,o,p,f,DO,Zj,Bp,Zb,ZJ,CD,pk,L2.intD,Zs,Zl,if_pos t,Zz,r,q,Me,C7]
 rw[Nx,s]
 simp only[u,Ce,B5,v,Zg,V0,VZ,Mf,Zb,AH,A7,AX,AL,CD,pk,Mg,z,if_pos A,ZA,wS]
theorem W8(c w:Int):∃f,W2 f/\∀k:Nat,k<6->GR [.val (.int c),.val (.int w),.val (.int (k:Int))]=some (.val (aD (f k))):=by
 by_cases l:w=0
 ·subst l
  refine⟨λk=>.int (c%10^30-5*10^29+(k:Int)),⟨λj k _ _ e=>by injection e with e;omega,λk _=>rfl,λk _=>trivial,λk i m e=>?_⟩,λk _=>ja c k⟩
  injection e with e
  have:=Hw c (show(0:Int)<10^30 by decide)
  have p:(10:Int)^30+6<10^40:=by decide
  have q:(0:Int)<5*10^29:=by decide
  generalize (10:Int)^40=Z,(10:Int)^30=Y,c%10^30=X,(5:Int)*10^29=B at *
  omega
 ·obtain⟨n,r,h,b⟩:∃n:Nat,1+c%12=(n:Int)/\0<n/\n<=12:=⟨(1+c%12).toNat,by omega,by omega,by omega⟩
  have p:=Ga (c/12) (show(n:Int)≠0 by omega)
  have q:=Hw (c/12) (show(0:Int)<(n:Int) by omega)
  obtain⟨a,s,d⟩:∃a:Nat,c/12%(n:Int)=(a:Int)/\a<n:=⟨(c/12%(n:Int)).toNat,by omega,by omega⟩
  have g:∀k,Dz (aD (.str (wS (wK c n a k))))=true/\Sm (aD (.str (wS (wK c n a k)))):=λk=>i5 (by rw[Ny];exact jg c n a k h) (by rw[Ny];simp[wK,Nz];omega)
  refine⟨λk=>.str (wS (wK c n a k)),⟨λj k t m e=>?_,λk _=>(g k).1,λk _=>(g k).2,λk i _ e=>nomatch e⟩,λk _=>ji c w l n a k r b s d⟩
  injection e with e
  have o:(wS (wK c n a j)).cps.toList=(wS (wK c n a k)).cps.toList:=by rw[e]
  rw[Ny,Ny]at o
  exact jh c n a d t m o
theorem Ra{Z:List Int}{P:Int->Prop}(h:∀z∈Z,P z)(i:Nat)(a:i<Z.length):P (Z.getD i 0):=by
 rw[List.getD_eq_getElem?_getD,DG a]
 exact h _ (FY a)
abbrev XS(ws:List Int):Sl:=.val (.lst (ws.map D.int))
theorem jj(ws:List Int)(p:ws.length=40)(s0 b c d e f g:Sl)(j:Nat)(q:1<=j)(a:j<10)(Z:List Int)(h:Z.length=j)(hz:∀z∈Z,1<=z/\z<=6):
  ∃z,1<=z/\z<=6/\MX [s0,XS ws,b,c,.own (Z.map D.int),.val (.int (j:Int)),d,e,f,g]=.next [s0,XS ws,b,c,.own ((Z++[z]).map D.int),.val (.int (j:Int)),d,e,f,g]:=by
 have k:=Nv (xs:=ws) (i:=2+(j:Int)) (by omega) (by omega)
 have m:=Nv (xs:=Z) (i:=(j:Int)-1) (by omega) (by omega)
 have r:=Ra hz ((j:Int)-1).toNat (by omega)
 generalize Z.getD ((j:Int)-1).toNat 0=y,ws.getD (2+(j:Int)).toNat 0=w at *
 have n:=CF w y (by omega)
 have s:=Ga w (show y≠0 by omega)
 have t:=Hw w (show 0<y by omega)
 have o:Z.length<Av:=by rw[h];exact Cu a (by decide)
 refine⟨1+w%y,by omega,by omega,?_⟩
 simp only[MX,Ze,Ao,A7,AX,AL,EL,Lm,A0,k,m,n,EC,C7,Bb,if_pos o,Zg,Ce,B5,Hl,AY,BH]
theorem W9(ws:List Int)(q:ws.length=40)(s0 d f g h i l:Sl):∀(n j:Nat)(Z:List Int)(m:Sl),1<=j->j+n<=9->Z.length=j->(∀z∈Z,1<=z/\z<=6) ->
  ∃(c:List Int) (a:Sl),c.length=j+n/\(∀z∈c,1<=z/\z<=6)/\Co (Zm 5) MX ((IC j n).map λ(k:Nat)=>D.int (k:Int)) [s0,XS ws,d,f,.own (Z.map D.int),m,g,h,i,l]=.next [s0,XS ws,d,f,.own (c.map D.int),a,g,h,i,l]
 |0,j,Z,m,_,_,p,o=>⟨Z,m,by omega,o,rfl⟩
 |n+1,j,Z,m,r,u,p,o=>by
  obtain⟨z,s,t,e⟩:=jj ws q s0 d f g h i l j r (by omega) Z p o
  obtain⟨c,a,q1,q2,q3⟩:=W9 ws q s0 d f g h i l n (j+1) (Z++[z]) (.val (.int (j:Int))) (by omega) (by omega) (by simp[p]) (λy b=>by
   rcases CT.mp b with b|b
   ·exact o y b
   ·simp only[D3]at b;subst b;exact⟨s,t⟩)
  refine⟨c,a,by omega,q2,?_⟩
  rw[List.range'_succ,AY]
  simp only[Co,Zm,Ce,B5]
  rw[e];exact q3
def Cf(a:Nat->Nat->Nat)(j x:Nat):Nat:=if j=0 then x else a j x
def CZ(f:Nat->Nat->At)(a:Nat->Nat->Nat):Nat->Nat->Nat->List At
 |_,_,0=>[]
 |j,x,n+1=>f j (Cf a j x)::CZ f a (j+1) (Cf a j x) n
def B9(ws Z:List Int)(j x:Nat):Nat:=(ws.getD (7+7*j+x) 0%Z.getD j 0).toNat
theorem jk(ws Z:List Int)(j x:Nat)(h:1<=Z.getD j 0):ws.getD (7+7*j+x) 0%Z.getD j 0=(B9 ws Z j x:Int):=by
 have:=Ga (ws.getD (7+7*j+x) 0) (show Z.getD j 0≠0 by omega)
 unfold B9;omega
theorem Xa(ws Z:List Int)(j x:Nat)(h:1<=Z.getD j 0)(a:Z.getD j 0<=6):B9 ws Z j x<6:=by
 have:=Ga (ws.getD (7+7*j+x) 0) (show Z.getD j 0≠0 by omega)
 have:=Hw (ws.getD (7+7*j+x) 0) (show 0<Z.getD j 0 by omega)
 unfold B9;omega
def cW(c:Int)(ws:List Int):Int:=c+ws.getD 2 0*(ws.getD 6 0%2)
def wW(ws:List Int)(j:Nat):Int:=(ws.getD 7 0+(j:Int)*(ws.getD 8 0%2))%2
def J2(c:Int)(ws:List Int)(f:Nat->Nat->At):Prop:=∀j,W2 (f j)/\∀k:Nat,k<6->GR [.val (.int (cW c ws)),.val (.int (wW ws j)),.val (.int (k:Int))]=some (.val (aD (f j k)))
theorem jl(c:Int)(ws:List Int):∃f,J2 c ws f:=⟨λj=>Classical.choose (W8 (cW c ws) (wW ws j)),λj=>Classical.choose_spec (W8 (cW c ws) (wW ws j))⟩
theorem Hx(ws:List Int)(a:ws.length=40)(i:Nat)(b:i<40):atI (ws.map D.int) (i:Int)=some (.int (ws.getD i 0)):=by
 have:=Nv (xs:=ws) (i:=(i:Int)) (by omega) (by omega)
 rwa[Hk]at this
theorem jm(c:Int)(ws:List Int)(d:ws.length=40)(f:Nat->Nat->At)(v:J2 c ws f)(e g h k:Sl)(Z:List Int)(hz:∀z∈Z,1<=z/\z<=6)(j x:Nat)(w:j<Z.length)(A:j<4)(B:x<6)(b:List At)(C:b.length<100):
  La [.val (.int c),XS ws,e,g,.own (Z.map D.int),.val (.int (j:Int)),h,k,.own (b.map aD),.val (.int (x:Int))]=.next [.val (.int c),XS ws,e,g,.own (Z.map D.int),.val (.int (j:Int)),h,k,.own ((b++[f j (Cf (B9 ws Z) j x)]).map aD),.val (.int (Cf (B9 ws Z) j x:Int))]:=by
 have l:=Ra hz j w
 have E:=Hx ws d 2 (by omega)
 have G:=Hx ws d 6 (by omega)
 have H:=Hx ws d 7 (by omega)
 have I:=Hx ws d 8 (by omega)
 have J:b.length<Av:=Cu C (by decide)
 have L:=CF (ws.getD 6 0) 2 (by decide)
 have M:=CF (ws.getD 8 0) 2 (by decide)
 have N:C4 (ws.getD 2 0) (ws.getD 6 0%2):=by right;constructor<;>omega
 have O:C4 (j:Int) (ws.getD 8 0%2):=by right;constructor<;>omega
 have Q:=F9 N
 have T:=F9 O
 have U:=CF (ws.getD 7 0+(j:Int)*(ws.getD 8 0%2)) 2 (by decide)
 have cond:AM (Fs (.int (j:Int)) (.int 0))=some (decide (0<(j:Int))):=rfl
 have fin:∀y:Nat,y<6->(Zg (EC 8 ((Zw GR (λa=>Zb (Zj ((Ze ZN (λa=>Ao a 0) (Ze Es (Ze A0 (λa=>Ao a 1) (λ_=>some (.int 2))) (Ze Cg (Ze A0 (λa=>Ao a 1) (λ_=>some (.int 6))) (λ_=>some (.int 2))))) a)) (Zb (Zj ((Ze Cg (Ze ZN (Ze A0 (λa=>Ao a 1) (λ_=>some (.int 7))) (Ze Es (λa=>Ao a 5) (Ze Cg (Ze A0 (λa=>Ao a 1) (λ_=>some (.int 8))) (λ_=>some (.int 2))))) (λ_=>some (.int 2))) a)) (Zb (AH a 9) (some []))))) [.val (.int c),XS ws,e,g,.own (Z.map D.int),.val (.int (j:Int)),h,k,.own (b.map aD),.val (.int (y:Int))]) [.val (.int c),XS ws,e,g,.own (Z.map D.int),.val (.int (j:Int)),h,k,.own (b.map aD),.val (.int (y:Int))]) (λa=>.next a))=.next [.val (.int c),XS ws,e,g,.own (Z.map D.int),.val (.int (j:Int)),h,k,.own ((b++[f j y]).map aD),.val (.int (y:Int))]:=λy Y=>by
  have r:=(v j).2 y Y
  unfold cW wW at r
  have m:atI (ws.map D.int) 2=some (.int (ws.getD 2 0)):=E
  have n:atI (ws.map D.int) 6=some (.int (ws.getD 6 0)):=G
  have o:atI (ws.map D.int) 7=some (.int (ws.getD 7 0)):=H
  have p:atI (ws.map D.int) 8=some (.int (ws.getD 8 0)):=I
  simp only[Zw,Ze,Ao,AH,A7,AX,AL,A0,m,n,o,p,L,M,Q,T,EL,U,Zj,Bp,Zb,r,BF,EC,C7,Bb,if_pos J,Zg,Ce,B5,Hl,AY,BH]
 by_cases s:j=0
 ·subst s
  have:=fin x B
  unfold La
  simp only[Ze,Ao,A7,AX,AL,cond]at this ⊢
  have hd:decide (0<((0:Nat):Int))=false:=by decide
  rw[hd]
  simp only[ZE,Zg]at this ⊢
  rw[show Cf (B9 ws Z) 0 x=x from rfl]
  exact this
 ·have hd:decide (0<(j:Int))=true:=decide_eq_true (by omega)
  have g1:=Hx ws d (7+7*j+x) (by omega)
  have q:atI (ws.map D.int) (7+7*(j:Int)+(x:Int))=some (.int (ws.getD (7+7*j+x) 0)):=by
   rw[<- g1];congr 1
  have t:=Nv (xs:=Z) (i:=(j:Int)) (by omega) (by omega)
  rw[Hk]at t
  have u:=CF (ws.getD (7+7*j+x) 0) (Z.getD j 0) (by omega)
  rw[jk ws Z j x l.1]at u
  have g4:=F9 (x:=7) (y:=(j:Int)) (by left;decide)
  have:=fin (B9 ws Z j x) (Xa ws Z j x l.1 l.2)
  have he:Cf (B9 ws Z) j x=B9 ws Z j x:=if_neg s
  unfold La
  rw[he]
  simp only[Ze,Ao,A7,AX,AL,cond,hd,ZE,g4,EL,A0,q,t,u,ZM,Zg,Ce,B5]at this ⊢
  exact this
theorem Rb(ws Z:List Int)(hz:∀z∈Z,1<=z/\z<=6)(j x:Nat)(b:j<Z.length)(c:x<6):Cf (B9 ws Z) j x<6:=by
 unfold Cf
 split
 ·exact c
 ·have a:=Ra hz j b
  exact Xa ws Z j x a.1 a.2
theorem Xb(c:Int)(ws:List Int)(p:ws.length=40)(f:Nat->Nat->At)(r:J2 c ws f)(g h i l:Sl)(Z:List Int)(hz:∀z∈Z,1<=z/\z<=6):∀(n j x:Nat)(a:List At)(m:Sl),j+n<=Z.length->j+n<=4->x<6->a.length+n<100 ->
  ∃(b:Sl) (d:Sl),Co (Zm 5) La ((IC j n).map λ(k:Nat)=>D.int (k:Int)) [.val (.int c),XS ws,g,h,.own (Z.map D.int),m,i,l,.own (a.map aD),.val (.int (x:Int))]=.next [.val (.int c),XS ws,g,h,.own (Z.map D.int),b,i,l,.own ((a++CZ f (B9 ws Z) j x n).map aD),d]
 |0,j,x,a,m,_,_,_,_=>⟨m,_,by simp[Co,CZ];rfl⟩
 |n+1,j,x,a,m,t,u,s,v=>by
  have o:=Rb ws Z hz j x (by omega) s
  have e:=jm c ws p f r g h i l Z hz j x (by omega) (by omega) s a (by omega)
  obtain⟨b,d,q⟩:=Xb c ws p f r g h i l Z hz n (j+1) (Cf (B9 ws Z) j x) (a++[f j (Cf (B9 ws Z) j x)]) (.val (.int (j:Int))) (by omega) (by omega) o (by simp;omega)
  refine⟨b,d,?_⟩
  rw[List.range'_succ,AY]
  simp only[Co,Zm,Ce,B5]
  rw[e]
  simp only
  rw[q]
  simp only[CZ,List.append_assoc,List.singleton_append]
structure GL(ls:List (List At))(p:Nat):Prop where
 n1:1<=ls.length
 n6:ls.length<=6
 p1:1<=p
 p4:p<=4
 len:∀l∈ls,l.length=p
 val:∀l∈ls,∀a∈l,Dz (aD a)=true/\Sm (aD a)/\∀i,a=.int i->i<10^40
 hdn:(ls.map hd).Nodup
 fn:Bl (ls.flatMap (Cz 0))
theorem Xc(l:List At)(a:List (List At))(b:∀x∈l::a,x≠[]):Hv (l::a)=true↔(∀x∈l::a,x.length=l.length)/\((l::a).map hd).Nodup/\Bl ((l::a).flatMap (Cz 0)):=by
 show Ev l.length [] [] (l::a)=true↔_
 rw[WW,WX (Cz 0) _ _ _ _ List.nodup_nil i3 b,Ct,Ct]
theorem GL.ne{a:List (List At)}{p:Nat}(h:GL a p):∀x∈a,x≠[]:=λx b e=>by
 have:=h.len x b
 have:=h.p1
 rw[e]at *;simp at *;omega
theorem GL.go{a:List (List At)}{p:Nat}(h:GL a p):Hv a=true:=by
 cases a with
 |nil=>rfl
 |cons l a=>
  rw[Xc l a h.ne]
  exact⟨λx b=>by rw[h.len x b,h.len l Bw],h.hdn,h.fn⟩
theorem GL.take{b:List (List At)}{p:Nat}(h:GL b p)(n:Nat)(q:1<=n):GL (b.take n) p:=by
 have c:∀x∈b.take n,x∈b:=λx g=>List.mem_of_mem_take g
 refine⟨?_,?_,h.p1,h.p4,λl a=>h.len l (c l a),λl a=>h.val l (c l a),?_,?_⟩
 ·rw[IN];have:=h.n1;omega
 ·rw[IN];have:=h.n6;omega
 ·rw[List.map_take];exact h.hdn.sublist (List.take_sublist _ _)
 ·intro k t i j m
  obtain⟨l,a,e⟩:=List.mem_flatMap.mp j
  obtain⟨f,d,o⟩:=List.mem_flatMap.mp m
  exact h.fn k t i (List.mem_flatMap.mpr ⟨l,c l a,e⟩) (List.mem_flatMap.mpr ⟨f,c f d,o⟩)
theorem NB(f:Nat->Nat->At)(a:Nat->Nat->Nat):∀(n j x:Nat),(CZ f a j x n).length=n
 |0,_,_=>rfl
 |n+1,j,x=>by simp[CZ,NB f a n]
def FE(a:Nat->Nat->Nat)(j x:Nat):Nat->Nat
 |0=>Cf a j x
 |i+1=>FE a (j+1) (Cf a j x) i
theorem NC(f:Nat->Nat->At)(a:Nat->Nat->Nat):∀(i n j x:Nat),i<n->(CZ f a j x n)[i]?=some (f (j+i) (FE a j x i))/\(CZ f a j x n).drop (i+1)=CZ f a (j+i+1) (FE a j x i) (n-i-1)
 |_,0,_,_,h=>by omega
 |0,n+1,j,x,_=>by simp[CZ,FE]
 |i+1,n+1,j,x,h=>by
  obtain⟨b,c⟩:=NC f a i n (j+1) (Cf a j x) (by omega)
  refine⟨?_,?_⟩
  ·simp only[CZ,A7,FE]
   rw[b,show j+1+i=j+(i+1) by omega]
  ·simp only[CZ,List.drop_succ_cons,FE]
   rw[c,show j+1+i+1=j+(i+1)+1 by omega,show n-i-1=n+1-(i+1)-1 by omega]
theorem Xd(ws Z:List Int)(hz:∀z∈Z,1<=z/\z<=6):∀(i j x:Nat),j+i<Z.length->x<6->FE (B9 ws Z) j x i<6
 |0,j,x,b,a=>Rb ws Z hz j x (by omega) a
 |i+1,j,x,b,a=>Xd ws Z hz i (j+1) _ (by omega) (Rb ws Z hz j x (by omega) a)
theorem jn(c:Int)(ws:List Int)(f:Nat->Nat->At)(s:J2 c ws f)(Z:List Int)(hz:∀z∈Z,1<=z/\z<=6)(p m:Nat)(hp:Z.length=p)(p1:1<=p)(p4:p<=4)(Q:1<=m)(T:m<=6)(a:Nat->Nat)(E:∀k,k<m->a k<6)(u:∀j k,j<m->k<m->a j=a k->j=k):
  GL ((BL m).map λk=>CZ f (B9 ws Z) 0 (a k) p) p:=by
 have G:∀(k i:Nat),k<m->i<p->(CZ f (B9 ws Z) 0 (a k) p)[i]?=some (f i (FE (B9 ws Z) 0 (a k) i))/\FE (B9 ws Z) 0 (a k) i<6:=λk i h d=>by
  have:=(NC f (B9 ws Z) i p 0 (a k) d).1
  rw[Nat.zero_add]at this
  exact⟨this,Xd ws Z hz i 0 (a k) (by omega) (E k h)⟩
 refine⟨by simpa using Q,by simpa using T,p1,p4,λl w=>?_,λl w b U=>?_,?_,?_⟩
 ·obtain⟨k,_,rfl⟩:=List.mem_map.mp w
  exact NB _ _ _ _ _
 ·obtain⟨k,h,rfl⟩:=List.mem_map.mp w
  obtain⟨i,u,e⟩:=List.mem_iff_getElem.mp U
  have d:i<p:=by rw[NB]at u;exact u
  obtain⟨r,A⟩:=G k i (List.mem_range.mp h) d
  rw[DG u,e]at r
  injection r with r
  subst r
  exact⟨(s i).1.val _ A,(s i).1.sm _ A,λn Y=>(s i).1.lt _ n A Y⟩
 ·rw[CV]
  refine List.pairwise_map.mpr (List.Pairwise.imp_of_mem (λ{x y} B C H e=>H ?_) (List.nodup_range (n:=m)))
  have B:=List.mem_range.mp B
  have C:=List.mem_range.mp C
  have N:∀k,hd (CZ f (B9 ws Z) 0 (a k) p)=f 0 (a k):=λk=>by
   obtain⟨q,rfl⟩:∃q,p=q+1:=⟨p-1,by omega⟩
   simp[CZ,hd,Cf]
  have e:f 0 (a x)=f 0 (a y):=by rw[<- N,<- N];exact e
  exact u x y B C ((s 0).1.inj _ _ (E x B) (E y C) e)
 ·rintro⟨i,v⟩ t t' h1 h2
  obtain⟨l,w,e⟩:=List.mem_flatMap.mp h1
  obtain⟨l',I,e'⟩:=List.mem_flatMap.mp h2
  obtain⟨k,h,rfl⟩:=List.mem_map.mp w
  obtain⟨J,o,rfl⟩:=List.mem_map.mp I
  have h:=List.mem_range.mp h
  have o:=List.mem_range.mp o
  obtain⟨n,a1,a2,a3⟩:=(Q7 _ _ _).mp e
  obtain⟨g,b1,L,O⟩:=(Q7 _ _ _).mp e'
  simp only[Nat.zero_add]at a1 b1 a2 L a3 O
  subst a1
  have M:g=i:=by omega
  subst M
  have d:g<p:=by
   have:=(List.getElem?_eq_some_iff.mp a2).1
   rwa[NB]at this
  obtain⟨r,A⟩:=G k g h d
  obtain⟨g3,g4⟩:=G J g o d
  rw[r]at a2
  rw[g3]at L
  have eq:FE (B9 ws Z) 0 (a k) g=FE (B9 ws Z) 0 (a J) g:=(s g).1.inj _ _ A g4 (by rw[Ew a2,Ew L])
  rw[a3,O,(NC f (B9 ws Z) g p 0 (a k) d).2,(NC f (B9 ws Z) g p 0 (a J) d).2,eq]
def aW(ws:List Int)(m k:Nat):Nat:=(((k:Int)+ws.getD 2 0)%(m:Int)).toNat
theorem Re(ws:List Int)(m k:Nat)(a:0<m):((k:Int)+ws.getD 2 0)%(m:Int)=(aW ws m k:Int):=by
 have:=Ga ((k:Int)+ws.getD 2 0) (show(m:Int)≠0 by omega)
 unfold aW;omega
theorem Xe(ws:List Int)(m k:Nat)(a:0<m):aW ws m k<m:=by
 have:=Ga ((k:Int)+ws.getD 2 0) (show(m:Int)≠0 by omega)
 have:=Hw ((k:Int)+ws.getD 2 0) (show 0<(m:Int) by omega)
 unfold aW;omega
theorem jo(c:Int)(m j k:Nat)(a:m<=6)(b:j<m)(d:k<m)(e:((j:Int)+c)%(m:Int)=((k:Int)+c)%(m:Int)):j=k:=by
 have:m=1\/m=2\/m=3\/m=4\/m=5\/m=6:=by omega
 rcases this with rfl|rfl|rfl|rfl|rfl|rfl<;>omega
theorem jp(c:Int)(ws:List Int)(g:ws.length=40)(f:Nat->Nat->At)(l:J2 c ws f)(Z:List Int)(hz:∀z∈Z,1<=z/\z<=6)(p m k:Nat)(w:Z.length=p)(p4:p<=4)(x:1<=m)(y:m<=6)(a:List (List At))(n:a.length<100)(h o r:Sl):
  ∃b e d,MY [.val (.int c),XS ws,.val (.int (m:Int)),.val (.int (p:Int)),.own (Z.map D.int),h,.own (a.map Ax),.val (.int (k:Int)),o,r]=.next [.val (.int c),XS ws,.val (.int (m:Int)),.val (.int (p:Int)),.own (Z.map D.int),b,.own ((a++[CZ f (B9 ws Z) 0 (aW ws m k) p]).map Ax),.val (.int (k:Int)),e,d]:=by
 have s:atI (ws.map D.int) 2=some (.int (ws.getD 2 0)):=Hx ws g 2 (by omega)
 have i:=CF ((k:Int)+ws.getD 2 0) (m:Int) (by omega)
 rw[Re ws m k (by omega)]at i
 have j:=Iv p (by omega)
 rw[Q8]at j
 have A:=Xe ws m k (by omega)
 obtain⟨b,d,q⟩:=Xb c ws g f l (.val (.int (m:Int))) (.val (.int (p:Int))) (.own (a.map Ax)) (.val (.int (k:Int))) Z hz p 0 (aW ws m k) [] h (by omega) (by omega) (by omega) (by simp;omega)
 simp only[BH,Ct]at q
 have t:(0:Nat)<=Av:=Dq _
 have u:a.length<Av:=Cu n (by decide)
 have v:EG [.lst ((CZ f (B9 ws Z) 0 (aW ws m k) p).map aD)]=some (Ax (CZ f (B9 ws Z) 0 (aW ws m k) p)):=rfl
 refine⟨b,.own ((CZ f (B9 ws Z) 0 (aW ws m k) p).map aD),d,?_⟩
 simp only[MY,AL,Zs,Zl,Bg,if_pos t,DZ,Zg,Ce,B5,Ze,Ao,A7,AX,A0,s,EL,i,ZM,Er,A1,Zj,Bp,Zb,j,q,EC,C7,ZJ,AH,CD,pk,v,Bb,if_pos u,Hl,AY,BH]
theorem Xf(c:Int)(ws:List Int)(s:ws.length=40)(f:Nat->Nat->At)(t:J2 c ws f)(Z:List Int)(hz:∀z∈Z,1<=z/\z<=6)(p m:Nat)(u:Z.length=p)(p4:p<=4)(v:1<=m)(w:m<=6):∀(n k:Nat)(a:List (List At))(j r l o:Sl),a.length+n<100 ->
  ∃(b d g i:Sl),Co (Zm 7) MY ((IC k n).map λ(k:Nat)=>D.int (k:Int)) [.val (.int c),XS ws,.val (.int (m:Int)),.val (.int (p:Int)),.own (Z.map D.int),j,.own (a.map Ax),r,l,o]=.next [.val (.int c),XS ws,.val (.int (m:Int)),.val (.int (p:Int)),.own (Z.map D.int),b,.own ((a++(IC k n).map λk=>CZ f (B9 ws Z) 0 (aW ws m k) p).map Ax),d,g,i]
 |0,k,a,j,r,l,o,_=>⟨j,r,l,o,by simp[Co]⟩
 |n+1,k,a,j,r,l,o,h=>by
  obtain⟨x,y,A,e⟩:=jp c ws s f t Z hz p m k u p4 v w a (by omega) j l o
  obtain⟨b,d,g,i,q⟩:=Xf c ws s f t Z hz p m u p4 v w n (k+1) (a++[CZ f (B9 ws Z) 0 (aW ws m k) p]) x (.val (.int (k:Int))) y A (by simp;omega)
  refine⟨b,d,g,i,?_⟩
  rw[List.range'_succ,AY]
  simp only[Co,Zm,Ce,B5]
  rw[e]
  simp only
  rw[q]
  simp only[List.append_assoc,List.singleton_append,AY]
theorem jq(x:Int):∃p:Nat,1<=p/\p<=4/\atI [D.int 2,.int 1,.int 3,.int 2,.int 3,.int 4,.int 2,.int 3] (x%8)=some (.int (p:Int)):=by
 obtain⟨i,a,b⟩:∃i:Nat,x%8=(i:Int)/\i<8:=⟨(x%8).toNat,by omega,by omega⟩
 rw[a]
 have:i=0\/i=1\/i=2\/i=3\/i=4\/i=5\/i=6\/i=7:=by omega
 rcases this with rfl|rfl|rfl|rfl|rfl|rfl|rfl|rfl
 ·exact⟨2,by decide,by decide,ZL rfl⟩
 ·exact⟨1,by decide,by decide,ZL rfl⟩
 ·exact⟨3,by decide,by decide,ZL rfl⟩
 ·exact⟨2,by decide,by decide,ZL rfl⟩
 ·exact⟨3,by decide,by decide,ZL rfl⟩
 ·exact⟨4,by decide,by decide,ZL rfl⟩
 ·exact⟨2,by decide,by decide,ZL rfl⟩
 ·exact⟨3,by decide,by decide,ZL rfl⟩
theorem jr(c:Int):∃n p,GL n p/\MZ [.val (.int c)]=some (.own (n.map Ax)):=by
 obtain⟨a,x,b,_⟩:=i8 c
 obtain⟨f,o⟩:=jl c a
 have y:atI (a.map D.int) 0=some (.int (a.getD 0 0)):=Hx a b 0 (by omega)
 have A:atI (a.map D.int) 1=some (.int (a.getD 1 0)):=Hx a b 1 (by omega)
 have B:=CF (a.getD 0 0) 6 (by decide)
 have C:=CF (a.getD 1 0) 8 (by decide)
 obtain⟨m,E,r,d⟩:∃m:Nat,1+a.getD 0 0%6=(m:Int)/\1<=m/\m<=6:=⟨(1+a.getD 0 0%6).toNat,by omega,by omega,by omega⟩
 obtain⟨p,p1,p4,G⟩:=jq (a.getD 1 0)
 have s:=ir 1 (p:Int) (by decide) (by decide) (by omega) (by omega)
 have g:(BL ((p:Int)-1).toNat).map (λ(k:Nat)=>D.int (1+(k:Int)))=(IC 1 (p-1)).map λ(k:Nat)=>D.int (k:Int):=by
  rw[List.range'_eq_map_range,CV,show((p:Int)-1).toNat=p-1 by omega]
  refine List.map_congr_left λk _=>?_
  show D.int (1+(k:Int))=D.int ((1+k:Nat):Int)
  congr 1
 rw[g]at s
 obtain⟨Z,H,Q,t,u⟩:=W9 a b (.val (.int c)) (.val (.int (m:Int))) (.val (.int (p:Int))) .no .no .no .no (p-1) 1 [(m:Int)] .no (by omega) (by omega) rfl (λz v=>by simp only[D3]at v;subst v;omega)
 have w:=Iv m (by omega)
 rw[Q8]at w
 obtain⟨I,J,L,M,q⟩:=Xf c a b f o Z t p m (by omega) p4 r d m 0 [] H .no .no .no (by simp;omega)
 simp only[BH,Ct]at q
 have h:(0:Nat)<=Av:=Dq _
 have i:(1:Nat)<=Av:=by decide
 have l:(8:Nat)<=Av:=by decide
 refine⟨(IC 0 m).map λk=>CZ f (B9 a Z) 0 (aW a m k) p,p,?_,?_⟩
 ·rw[<- Q8]
  exact jn c a f o Z t p m (by omega) p1 p4 r d (aW a m) (λk _=>by have:=Xe a m k (by omega);omega) λj k N O e=>jo (a.getD 2 0) m j k d N O (by rw[Re a m j (by omega),Re a m k (by omega),e])
 ·simp only[AY,BH]at u
  simp only[MZ,AQ,A9,Bg,BI,if_true,Ql,Wx,Wi,Zw,AH,A7,AX,Cq,Ct,Zj,Bp,Zb,AL,x,BF,ZM,Zg,CQ,Cy,Cn,Ce,B5,
   Ww,Wj,Ze,Ao,A0,y,B,EL,E,Wv,Wk,Zs,Zl,A9,Bg,if_pos l,Zz,A,C,G,Wu,Wl,A1,if_pos i,DZ]
  simp only[Wt,Wm,Er,A1,A7,AX,Zj,Bp,Zb,AL,Zs,s,u,Zg,Ws,Wn,Zl,Bg,if_pos h,DZ,Ce,B5,Wr,Wo,w,q,Wq,Wp,C7,CU]
abbrev LD(a:List (List At)):D:=.lst (a.map Ax)
theorem js(ns:List Int)(k:Nat):∃a,(∃p,GL a p)/\M5 [.val (.int (k:Int)),.val (.lst (ns.map D.int))]=some (LD a):=by
 have b:=JZ (.val (.lst (ns.map D.int))) ns (.inl rfl) (1+(k:Int)) (by omega)
 have c:=F9 (x:=1000) (y:=(k:Int)) (by left;decide)
 obtain⟨a,p,d,e⟩:=jr (ns.getD (1+(k:Int)).toNat 0+1000*(k:Int))
 refine⟨a,⟨p,d⟩,?_⟩
 simp only[M5,Zw,Ze,Ao,AH,A7,AX,AL,EL,Zj,Bp,Zb,b,c,BF,e]
theorem jt(x:Int):∃m:Nat,1<=m/\m<=4/\atI [D.int 2,.int 1,.int 2,.int 3,.int 1,.int 2,.int 3,.int 4] (x%8)=some (.int (m:Int)):=by
 obtain⟨i,a,b⟩:∃i:Nat,x%8=(i:Int)/\i<8:=⟨(x%8).toNat,by omega,by omega⟩
 rw[a]
 have:i=0\/i=1\/i=2\/i=3\/i=4\/i=5\/i=6\/i=7:=by omega
 rcases this with rfl|rfl|rfl|rfl|rfl|rfl|rfl|rfl
 ·exact⟨2,by decide,by decide,ZL rfl⟩
 ·exact⟨1,by decide,by decide,ZL rfl⟩
 ·exact⟨2,by decide,by decide,ZL rfl⟩
 ·exact⟨3,by decide,by decide,ZL rfl⟩
 ·exact⟨1,by decide,by decide,ZL rfl⟩
 ·exact⟨2,by decide,by decide,ZL rfl⟩
 ·exact⟨3,by decide,by decide,ZL rfl⟩
 ·exact⟨4,by decide,by decide,ZL rfl⟩
structure DB(Ls:List (List (List At))):Prop where
 n1:1<=Ls.length
 n4:Ls.length<=4
 good:∀ls∈Ls,∃p,GL ls p
theorem ju(a:List (List At)):M6 [.val (LD a)]=some (LD (a.take 3)):=by
 have:=PX (a.map Ax) 3 (by decide)
 simp only[M6,C9,Ao,AX,AL,C8,Dg,this]
 show some (D.lst (List.take 3 (a.map Ax)))=some (D.lst ((a.take 3).map Ax))
 rw[List.map_take]
theorem jv(ns:List Int):∃c,DB c/\Lg [.val (.lst (ns.map D.int))]=some (.val (.lst (c.map LD))):=by
 have l:=JZ (.val (.lst (ns.map D.int))) ns (.inl rfl) 0 (by decide)
 obtain⟨m,C,n,o⟩:=jt (ns.getD (0:Int).toNat 0)
 have q:=CF (ns.getD (0:Int).toNat 0) 8 (by decide)
 have r:=Iv m (by omega)
 obtain⟨c,s,t,u⟩:=W1 (b:=Zm 0) (e:=M5) (ρ:=[.no,.val (.lst (ns.map D.int))]) (λ(k:Nat)=>D.int (k:Int)) LD (λa=>∃p,GL a p) (BL m) λk _=>by
  obtain⟨a,i,y⟩:=js ns k
  exact⟨a,_,i,rfl,y⟩
 rw[NA]at t
 have d:(8:Nat)<=Av:=by decide
 have f:((BL m).map λ(k:Nat)=>D.int (k:Int)).length<=Av:=by rw[Bb,NA];exact BO n (by decide)
 have j:(c.map LD).length<=Av:=by rw[Bb,t];exact BO n (by decide)
 have v:=Eu (b:=Zm 0) (e:=M6) (ρ:=[.no]) LD (λa=>LD (a.take 3)) c λa _=>⟨_,rfl,ju a⟩
 have z:c.map (λa=>LD (a.take 3))=(c.map λa=>a.take 3).map LD:=by rw[CV];rfl
 rw[z]at v
 have g:=DO (m:Int) 4
 by_cases w:(m:Int)=4
 ·refine⟨c.map λa=>a.take 3,⟨by rw[Bb];omega,by rw[Bb];omega,λa h=>?_⟩,?_⟩
  ·obtain⟨A,i,rfl⟩:=List.mem_map.mp h
   obtain⟨p,B⟩:=u A i
   exact⟨p,B.take 3 (by decide)⟩
  ·rw[decide_eq_true w]at g
   simp only[Lg,AQ,A9,Bg,BI,if_true,M7,QF,Qy,Zw,AH,A7,AX,Cq,Ct,Zj,Bp,Zb,AL,l,BF,Ze,q,Zs,Zl,if_pos d,Zz,A0,o,ZM,Zg,CQ,Cy,Cn,Ce,B5,
    QE,Qz,ZQ,A1,r,if_pos f,ZO,AY,BH,FT,s,QD,QA,Ao,g,AM,ZE,BN,ZG,if_pos j,v,QC,QB,ZA]
 ·refine⟨c,⟨by omega,by omega,u⟩,?_⟩
  rw[decide_eq_false w]at g
  simp only[Lg,AQ,A9,Bg,BI,if_true,M7,QF,Qy,Zw,AH,A7,AX,Cq,Ct,Zj,Bp,Zb,AL,l,BF,Ze,q,Zs,Zl,if_pos d,Zz,A0,o,ZM,Zg,CQ,Cy,Cn,Ce,B5,
   QE,Qz,ZQ,A1,r,if_pos f,ZO,AY,BH,FT,s,QD,QA,Ao,g,AM,ZE,QC,QB,ZA]
theorem Rf(xs:List D):ZK [.val (.tup xs)]=some (.val (.bl false)):=by simp[ZK,AQ,Iy]
theorem jw:ZK [.val .non]=some (.val (.bl false)):=by simp[ZK,AQ,Iy]
theorem Xg(xs:List D)(h:xs.length<1\/40<xs.length):ZK [.val (.lst xs)]=some (.val (.bl false)):=by
 rcases h with h|h
 ·have a:(xs.length:Int)<1:=by omega
  simp[ZK,AQ,Iy,a]
 ·have a:¬ ((xs.length:Int)<1):=by omega
  have b:(40:Int)<(xs.length:Int):=by omega
  simp[ZK,AQ,Iy,a,b]
theorem Xh(xs:List D)(e:1<=xs.length)(f:xs.length<=40)(b:Bool)(a:GS [.val (.lst xs)]=some (.val (.bl b))):ZK [.val (.lst xs)]=some (.val (.bl b)):=by
 have c:¬ ((xs.length:Int)<1):=by omega
 have d:¬ (40:Int)<(xs.length:Int):=by omega
 simp[ZK,AQ,Iy,c,d,a]
theorem jx{l:List At}(b:1<=l.length)(c:l.length<=4)(d:∀a∈l,Dz (aD a)=true):Cs (Ax l)=true:=by
 simp only[Ax,Cs,Bb,b,c,decide_true,Bool.true_and,List.all_map,Eb]
 exact λa e=>d a e
theorem jy{a b:List At}(h:Ax a=Ax b):a=b:=by
 have:=Q3 a b
 rw[h]at this
 have c:=Q3 b b
 rw[this]at c
 simpa using c
theorem Rg:∀{a b:List (List At)},a.map Ax=b.map Ax->a=b
 |[],[],_=>rfl
 |[],_::_,h=>nomatch h
 |_::_,[],h=>nomatch h
 |x::a,y::b,h=>by
  simp only[AY,Kx]at h
  rw[jy h.1,Rg h.2]
structure Ln(l:List At):Prop where
 l1:1<=l.length
 l4:l.length<=4
 val:∀a∈l,Dz (aD a)=true/\Sm (aD a)
theorem Ln.sml{l:List At}(h:Ln l):Hu (Ax l):=⟨by rw[Bb];have:=h.l4;omega,λx b=>by obtain⟨a,c,rfl⟩:=List.mem_map.mp b;exact(h.val a c).2⟩
theorem Xi(b:List (List At))(f:1<=b.length)(i:b.length<=40)(c:∀l∈b,Ln l):ZK [.val (LD b)]=some (.val (.bl (Hv b))):=by
 have j:∀x∈b.map Ax,Hu x:=λx d=>by obtain⟨l,h,rfl⟩:=List.mem_map.mp d;exact(c l h).sml
 refine Xh _ (by simpa using f) (by simpa using i) _ ?_
 rcases WT (b.map Ax) j (by rw[Bb];omega)with⟨a,_⟩|⟨_,k,e,_,g⟩
 ·have:(b.map Ax).all Cs=true:=Eb.mpr λx d=>by
   obtain⟨l,h,rfl⟩:=List.mem_map.mp d
   exact jx (c l h).l1 (c l h).l4 λa m=>((c l h).val a m).1
  rw[this]at a;cases a
 ·rw[Rg e];rw[Rg e]at g;exact g
theorem jz(xs:List D)(b:1<=xs.length)(c:xs.length<=40)(e:∀x∈xs,Hu x)(d:D)(hd:d∈xs)(f:Cs d=false):ZK [.val (.lst xs)]=some (.val (.bl false)):=by
 refine Xh _ b c _ ?_
 rcases WT xs e (by omega)with⟨_,g⟩|⟨a,_⟩
 ·exact g
 ·have:=Eb.mp a d hd
  rw[f]at this;cases this
theorem GL.ln{c:List (List At)}{p:Nat}(h:GL c p):∀l∈c,Ln l:=λl b=>⟨by rw[h.len l b];exact h.p1,by rw[h.len l b];exact h.p4,λa d=>⟨(h.val l b a d).1,(h.val l b a d).2.1⟩⟩
theorem GL.il{a:List (List At)}{p:Nat}(h:GL a p):ZK [.val (LD a)]=some (.val (.bl true)):=by
 rw[Xi a h.n1 (by have:=h.n6;omega) h.ln,h.go]
theorem jA{a:Type}(G:a->D)(F:a->Bool)(xs:List a)(h:∀x∈xs,ZK [.val (G x)]=some (.val (.bl (F x)))):C2 (Zm 0) (λ_=>some true) Nj [.no] (xs.map G)=some ((xs.map F).map D.bl):=by
 have:=Eu (b:=Zm 0) (e:=Nj) (ρ:=[.no]) G (λx=>D.bl (F x)) xs λx c=>⟨[.val (G x)],rfl,by simp only[Nj,Zw,Zb,AH,AX,AL,h x c,Bp,BF]⟩
 rw[this,CV];rfl
theorem Xj{a:Type}(G:a->D)(F:a->Bool)(xs:List a)(j:1<=xs.length)(d:xs.length<=4)(h:∀x∈xs,ZK [.val (G x)]=some (.val (.bl (F x)))):ZD [.val (.lst (xs.map G))]=some (.val (.bl (xs.all F))):=by
 have e:¬ ((xs.length:Int)<1):=by omega
 have f:¬ (4:Int)<(xs.length:Int):=by omega
 have g:=jA G F xs h
 have i:xs.length<=Av:=BO d (by decide)
 have c:(xs.map F).all id=xs.all F:=by rw[List.all_map];rfl
 have b:(xs.map F).all (λx=>x)=xs.all F:=c
 simp[ZD,AQ,GU,e,f,i,ZO,g,-CV,c,b]
theorem Rh(xs:List D)(h:xs.length<1\/4<xs.length):ZD [.val (.lst xs)]=some (.val (.bl false)):=by
 rcases h with h|h
 ·have a:(xs.length:Int)<1:=by omega
  simp[ZD,AQ,GU,a]
 ·have a:¬ ((xs.length:Int)<1):=by omega
  have b:(4:Int)<(xs.length:Int):=by omega
  simp[ZD,AQ,GU,a,b]
theorem jB(xs:List D):ZD [.val (.tup xs)]=some (.val (.bl false)):=by simp[ZD,AQ,GU]
theorem jC:ZD [.val .non]=some (.val (.bl false)):=by simp[ZD,AQ,GU]
theorem jD(i:Int):ZD [.val (.int i)]=some (.val (.bl false)):=by simp[ZD,AQ,GU]
theorem jE(z:Af):ZD [.val (.str z)]=some (.val (.bl false)):=by simp[ZD,AQ,GU]
theorem DB.al{a:List (List (List At))}(h:DB a):ZD [.val (.lst (a.map LD))]=some (.val (.bl true)):=by
 rw[Xj LD (λ_=>true) a h.n1 h.n4 λb c=>by obtain⟨p,d⟩:=h.good b c;exact d.il]
 simp
theorem jF{a:List (List At)}{p:Nat}(h:GL a p)(x:List At)(f:x≠[])(b:x.length≠p\/hd x∈a.map hd\/¬ Bl ((a++[x]).flatMap (Cz 0))):Hv (a++[x])=false:=by
 cases g:Hv (a++[x])with
 |false=>rfl
 |true=>
  exfalso
  cases a with
  |nil=>have:=h.n1;simp at this
  |cons l a=>
   have d:∀y∈l::(a++[x]),y≠[]:=λy c=>by
    rw[<- Cq]at c
    rcases CT.mp c with c|c
    ·exact h.ne y c
    ·simp only[D3]at c;subst c;exact f
   obtain⟨i,e,j⟩:=(Xc l (a++[x]) d).mp g
   rcases b with b|b|b
   ·exact b ((i x (by simp)).trans (h.len l Bw))
   ·rw[<- Cq,Hl]at e
    obtain⟨_,_,k⟩:=Jr.mp e
    exact k _ b _ (by simp) rfl
   ·exact b j
theorem Rj{a:List (List At)}{p:Nat}(h:GL a p)(x:List At)(c:Ln x)(d:x.length≠p\/hd x∈a.map hd\/¬ Bl ((a++[x]).flatMap (Cz 0))):ZK [.val (.lst (a.map Ax++[Ax x]))]=some (.val (.bl false)):=by
 have e:a.map Ax++[Ax x]=(a++[x]).map Ax:=by simp
 have f:=h.n6
 rw[e,Xi (a++[x]) (by simp) (by simp;omega) λl b=>?_,jF h x (λz=>by have:=c.l1;rw[z]at this;simp at this) d]
 rcases CT.mp b with b|b
 ·exact h.ln l b
 ·simp only[D3]at b;subst b;exact c
theorem Rk{b:List (List At)}{p:Nat}(h:GL b p)(d:D)(c:Hu d)(e:Cs d=false):ZK [.val (.lst (b.map Ax++[d]))]=some (.val (.bl false)):=by
 have g:=h.n6
 refine jz _ (by simp) (by simp;omega) (λx a=>?_) d (by simp) e
 rcases CT.mp a with a|a
 ·obtain⟨l,f,rfl⟩:=List.mem_map.mp a
  exact(h.ln l f).sml
 ·simp only[D3]at a;subst a;exact c
abbrev Dn(a:List (List At))(c:Int)(w:Nat)(l:List At)(N:Int):VE:=[.val (LD a),.val (.int c),.val (.int (w:Int)),.val (Ax l),.val (.int N),.no]
theorem J3(a b:Int):Ds (.int a) (.int b)=some (.bl (decide (a<b))):=by simp
theorem jG(b:List (List At)){p:Nat}(h:GL b p)(c:Int)(w:Nat)(j:w<4)(l:List At)(N:Int):∃d,Z1 (Dn b c w l N)=.ret (.val d)/\ZK [.val d]=some (.val (.bl false)):=by
 have g:AM (Ds (.int (w:Int)) (.int 4))=some true:=by rw[J3,decide_eq_true (by omega)];rfl
 have i:EG [LD b]=some (.tup (b.map Ax)):=rfl
 have e:(4:Nat)<=Av:=by decide
 have f:(0:Nat)<=Av:=Dq _
 have a:∀d,atI [.tup (b.map Ax),.lst [],.non,Ax l] (w:Int)=some d->Z1 (Dn b c w l N)=.ret (.val d):=λd hd=>by
  simp only[Z1,Qa,Ze,Ao,AH,A1,A7,AX,AL,g,ZE,ZJ,CD,pk,Zb,i,Zj,Bp,Zs,Zl,A9,Bg,BI,if_pos f,if_pos e,Zz,A0,hd,ZA,Zg]
 have:w=0\/w=1\/w=2\/w=3:=by omega
 rcases this with rfl|rfl|rfl|rfl
 ·exact⟨_,a _ (ZL rfl),Rf _⟩
 ·exact⟨_,a _ (ZL rfl),Xg [] (.inl (by simp))⟩
 ·exact⟨_,a _ (ZL rfl),jw⟩
 ·exact⟨_,a _ (ZL rfl),Rf _⟩
theorem FF(xs ys:List D)(h:xs.length+ys.length<=1000):ZN (.lst xs) (.lst ys)=some (.lst (xs++ys)):=by
 show(if xs.length+ys.length<=Av then some (D.lst (xs++ys))else none)=_
 rw[if_pos (BO h (by decide))]
theorem Lo(xs ys:List D)(h:xs.length+ys.length<=1000):ZN (.tup xs) (.tup ys)=some (.tup (xs++ys)):=by
 show(if xs.length+ys.length<=Av then some (D.tup (xs++ys))else none)=_
 rw[if_pos (BO h (by decide))]
section
variable{ls:List (List At)}{p:Nat}(h:GL ls p)(c:Int)(w:Nat)(l:List At)(hl:l∈ls)(N:Int)
include h hl
theorem jH(b:4<=w):Z1 (Dn ls c w l N)=JR (Dn ls c w l N):=by
 have a:AM (Ds (.int (w:Int)) (.int 4))=some false:=by rw[J3,decide_eq_false (by omega)];rfl
 simp only[Z1,Qa,Ze,Ao,A7,AX,AL,a,ZE,Zg]
theorem jI(b:w≠4):JR (Dn ls c w l N)=JQ (Dn ls c w l N):=by
 have a:AM (Bo (.int (w:Int)) (.int 4))=some false:=by rw[DO,decide_eq_false (by omega)];rfl
 simp only[JR,Qb,Ze,Ao,A7,AX,AL,a,ZE,Zg]
theorem jJ(b:w≠5):JQ (Dn ls c w l N)=JP (Dn ls c w l N):=by
 have a:AM (Bo (.int (w:Int)) (.int 5))=some false:=by rw[DO,decide_eq_false (by omega)];rfl
 simp only[JQ,Qc,Ze,Ao,A7,AX,AL,a,ZE,Zg]
theorem jK(b:w≠6):JP (Dn ls c w l N)=JN (Dn ls c w l N):=by
 have a:AM (Bo (.int (w:Int)) (.int 6))=some false:=by rw[DO,decide_eq_false (by omega)];rfl
 simp only[JP,Qd,Ze,Ao,A7,AX,AL,a,ZE,Zg]
theorem jL(b:10<=w):JN (Dn ls c w l N)=Z2 (Dn ls c w l N):=by
 have a:AM (Ds (.int (w:Int)) (.int 10))=some false:=by rw[J3,decide_eq_false (by omega)];rfl
 simp only[JN,Qe,Ze,Ao,A7,AX,AL,a,ZE,Zg]
theorem jM(b:w=4):JR (Dn ls c w l N)=.ret (.val (.lst (ls.map Ax++[Ax l]))):=by
 subst b
 have d:AM (Bo (.int ((4:Nat):Int)) (.int 4))=some true:=by rw[DO];rfl
 have f:=h.n6
 have e:=FF (ls.map Ax) [Ax l] (by simp;omega)
 have a:(1:Nat)<=Av:=by decide
 simp only[JR,Qb,Ze,Ao,A1,A7,AX,AL,d,ZE,Zj,Bp,Zb,Zs,Zl,A9,Bg,BI,if_pos a,Zz,e,ZA,Zg]
theorem jN(d:w=5):JQ (Dn ls c w l N)=.ret (.val (.lst (ls.map Ax++[.lst ([.int N]++(l.map aD).drop 1)]))):=by
 subst d
 have e:AM (Bo (.int ((5:Nat):Int)) (.int 5))=some true:=by rw[DO];rfl
 have m:=h.n6
 have n:=h.p4
 have f:=h.len l hl
 have g:=FF [.int N] ((l.map aD).drop 1) (by simp;omega)
 have i:=FF (ls.map Ax) [.lst ([.int N]++(l.map aD).drop 1)] (by simp;omega)
 have j:L2.cutD (l.map aD) (some 1) none=(l.map aD).drop 1:=JM (l.map aD) 1 (by decide)
 have k:Fa [.tup ((l.map aD).drop 1)]=some ((l.map aD).drop 1):=rfl
 have a:(1:Nat)<=Av:=by decide
 simp only[JQ,Qc,Ze,Ao,A1,Ax,C9,C8,Dg,j,Ep,CD,pk,k,A7,AX,AL,e,ZE,Zj,Bp,Zb,Zs,Zl,A9,Bg,BI,if_pos a,Zz,g]
 have b:ZN (LD ls) (.lst [.lst ([.int N]++(l.map aD).drop 1)])=some (.lst (ls.map Ax++[.lst ([.int N]++(l.map aD).drop 1)])):=i
 simp only[b,ZA,Zg]
theorem jO(b:w=6):JP (Dn ls c w l N)=.ret (.val (.lst (ls.map Ax++[Ax (.int N::l)]))):=by
 subst b
 have d:AM (Bo (.int ((6:Nat):Int)) (.int 6))=some true:=by rw[DO];rfl
 have i:=h.n6
 have j:=h.p4
 have e:=h.len l hl
 have f:ZN (.tup [.int N]) (Ax l)=some (Ax (.int N::l)):=Lo [.int N] (l.map aD) (by simp;omega)
 have g:=FF (ls.map Ax) [Ax (.int N::l)] (by simp;omega)
 have a:(1:Nat)<=Av:=by decide
 simp only[JP,Qd,Ze,Ao,A1,A7,AX,AL,d,ZE,Zj,Bp,Zb,Zs,Zl,A9,Bg,BI,if_pos a,Zz,f,g,ZA,Zg]
theorem jP(n:7<=w)(e:w<10)(x:D)(f:atI [.bl true,.non,.str "Ab"] ((w:Int)-7)=some x):JN (Dn ls c w l N)=.ret (.val (.lst (ls.map Ax++[.tup ([x]++(l.map aD).drop 1)]))):=by
 have g:AM (Ds (.int (w:Int)) (.int 10))=some true:=by rw[J3,decide_eq_true (by omega)];rfl
 have o:=h.n6
 have p:=h.p4
 have i:=h.len l hl
 have j:=Lo [x] ((l.map aD).drop 1) (by simp;omega)
 have k:=FF (ls.map Ax) [.tup ([x]++(l.map aD).drop 1)] (by simp;omega)
 have m:L2.cutD (l.map aD) (some 1) none=(l.map aD).drop 1:=JM (l.map aD) 1 (by decide)
 have a:(1:Nat)<=Av:=by decide
 have b:(3:Nat)<=Av:=by decide
 simp only[JN,Qe,Ze,Ao,A1,Ax,C9,C8,Dg,m,Lm,A0,f,A7,AX,AL,g,ZE,Zj,Bp,Zb,Zs,Zl,A9,Bg,BI,if_pos a,if_pos b,Zz,j]
 have d:ZN (LD ls) (.lst [.tup ([x]++(l.map aD).drop 1)])=some (.lst (ls.map Ax++[.tup ([x]++(l.map aD).drop 1)])):=k
 simp only[d,ZA,Zg]
end
theorem Xk{a:List (List At)}{p:Nat}(h:GL a p){l:List At}(b:l∈a){x:At}(c:x∈l):x≠.int (10^42):=λe=>by
 have:=(h.val l b x c).2.2 _ e
 exact absurd this (by decide)
theorem Lp(i:Int):Dz (aD (.int i))=true/\Sm (aD (.int i)):=⟨rfl,trivial⟩
section
variable{ls:List (List At)}{p:Nat}(h:GL ls p)(c:Int)(w:Nat)(l:List At)(hl:l∈ls)(N:Int)
include h hl
theorem jQ(v:w=10)(j:2<l.length):∃x,Ln x/\¬ Bl ((ls++[x]).flatMap (Cz 0))/\Z2 (Dn ls c w l N)=.ret (.val (.lst (ls.map Ax++[Ax x]))):=by
 subst v
 have A:AM (Bo (.int ((10:Nat):Int)) (.int 10))=some true:=by rw[DO];rfl
 have L:=h.n6
 have M:=h.p4
 have g:=h.len l hl
 have o:EF (.int 10) (.int 42)=some (.int (10^42)):=J1 (by decide)
 have p:(1:Nat)<=Av:=by decide
 have q:Kt (some (.int 1))=some (.int (-1)):=rfl
 have i:∀(x:List At) (f:List At),x=.int N::(f++[.int (10^42)])->f.length<=2->L2.cutD (l.map aD) (some 1) (some (-1))=f.map aD->Z2 (Dn ls c 10 l N)=.ret (.val (.lst (ls.map Ax++[Ax x]))):=λx f ex O B=>by
  have C:AM (Fs (.int ((l.map aD).length:Int)) (.int 2))=some true:=by
   show some (decide ((2:Int)<((l.map aD).length:Int)))=some true
   rw[Bb,decide_eq_true (by omega)]
  have E:=Lo [.int N] (f.map aD) (by simp;omega)
  have u:=Lo ([.int N]++f.map aD) [.int (10^42)] (by simp;omega)
  have G:D.tup (([.int N]++f.map aD)++[.int (10^42)])=Ax x:=by rw[ex];simp[Ax,aD]
  rw[G]at u
  have H:=FF (ls.map Ax) [Ax x] (by simp;omega)
  have s:ZN (LD ls) (.lst [.tup (x.map aD)])=some (.lst (ls.map Ax++[.tup (x.map aD)])):=H
  have k:B4 [.tup (l.map aD)]=some (.int ((l.map aD).length:Int)):=rfl
  simp only[Z2,Qf,Ze,Ao,AH,A1,Ax,A7,AX,AL,A,ZJ,CD,pk,Zb,k,C,DW,ZE,Zj,Bp,Zs,Zl,A9,Bg,BI,if_pos p,C9,C8,q,Dg,B,E,o,u,Zz,s,ZA,Zg]
 have m:∀(a b:At) (r:List At) (y:List At),l=a::b::r->r≠y->y.length=r.length->¬ Bl ((ls++[.int N::b::y]).flatMap (Cz 0)):=λa b r y I t _ J=>by
  refine t (J (1,b) r y ?_ ?_)
  ·refine List.mem_flatMap.mpr ⟨l,by simp[hl],?_⟩
   rw[I];simp[Cz]
  ·refine List.mem_flatMap.mpr ⟨.int N::b::y,by simp,?_⟩
   simp[Cz]
 match l,hl,j,g,i,m with
 |[a,b,d],hl,_,g,i,m=>
  refine⟨.int N::([b]++[.int (10^42)]),⟨by simp,by simp,λx n=>?_⟩,m a b [d] [.int (10^42)] rfl (λe=>Xk h hl (x:=d) (by simp) (by injection e)) rfl,i _ [b] rfl (by simp) rfl⟩
  simp only[Cq,Ct,Bm,EH,or_false]at n
  rcases n with rfl|rfl|rfl
  ·exact Lp _
  ·have:=h.val _ hl x (by simp);exact⟨this.1,this.2.1⟩
  ·exact Lp _
 |[a,b,d,e],hl,_,g,i,m=>
  refine⟨.int N::([b,d]++[.int (10^42)]),⟨by simp,by simp,λx n=>?_⟩,m a b [d,e] [d,.int (10^42)] rfl (λz=>Xk h hl (x:=e) (by simp) (by injection z with _ z;injection z)) rfl,i _ [b,d] rfl (by simp) rfl⟩
  simp only[Cq,Ct,Bm,EH,or_false]at n
  rcases n with rfl|rfl|rfl|rfl
  ·exact Lp _
  ·have:=h.val _ hl x (by simp);exact⟨this.1,this.2.1⟩
  ·have:=h.val _ hl x (by simp);exact⟨this.1,this.2.1⟩
  ·exact Lp _
 |[],_,j,_,_,_=>simp at j
 |[_],_,j,_,_,_=>simp at j
 |[_,_],_,j,_,_,_=>simp at j
 |_::_::_::_::_::_,_,_,g,_,_=>exfalso;simp at g;omega
theorem jR(q:¬ (w=10/\2<l.length)):∃ys:List D,ys.length=41-ls.length/\Z2 (Dn ls c w l N)=.ret (.val (.lst (ls.map Ax++ys))):=by
 have A:=h.n6
 have B:=h.p4
 have r:=h.len l hl
 have j:EF (.int 10) (.int 43)=some (.int (10^43)):=J1 (by decide)
 have m:(1:Nat)<=Av:=by decide
 have s:L2.cutD (l.map aD) (some 1) none=(l.map aD).drop 1:=JM (l.map aD) 1 (by decide)
 have d:B4 [.tup (l.map aD)]=some (.int ((l.map aD).length:Int)):=rfl
 have a:B4 [LD ls]=some (.int ((ls.map Ax).length:Int)):=rfl
 have t:DW (AM (Bo (.int (w:Int)) (.int 10))) (AM (Fs (.int ((l.map aD).length:Int)) (.int 2)))=some false:=by
  have g:AM (Fs (.int ((l.map aD).length:Int)) (.int 2))=some (decide ((2:Int)<((l.map aD).length:Int))):=rfl
  rw[DO,g,Bb]
  by_cases f:w=10
  ·have:¬ (2:Int)<(l.length:Int):=λz=>q ⟨f,by omega⟩
   subst f
   rw[decide_eq_false this];rfl
  ·rw[decide_eq_false (by omega)];rfl
 have u:=Iv (41-ls.length) (by omega)
 have n:(41:Int)-((ls.map Ax).length:Int)=((41-ls.length:Nat):Int):=by rw[Bb];omega
 have p:=Eu (b:=Zm 0) (e:=P9) (ρ:=[.no,.val (.tup (l.map aD))]) (λ(k:Nat)=>D.int (k:Int)) (λ(k:Nat)=>D.tup ([.int (10^43+(k:Int))]++(l.map aD).drop 1)) (BL (41-ls.length)) λk _=>⟨[.val (.int (k:Int)),.val (.tup (l.map aD))],rfl,by
  have v:=Lo [.int (10^43+(k:Int))] ((l.map aD).drop 1) (by simp;omega)
  simp only[P9,Ze,Ao,A7,AX,AL,j,EL,Zj,Bp,Zb,Zs,Zl,A9,Bg,BI,if_pos m,C9,C8,Dg,s,v]⟩
 generalize x:(BL (41-ls.length)).map (λ(k:Nat)=>D.tup ([.int (10^43+(k:Int))]++(l.map aD).drop 1))=Y at p
 have i:Y.length=41-ls.length:=by rw[<- x];simp
 have o:((BL (41-ls.length)).map λ(k:Nat)=>D.int (k:Int)).length<=Av:=by rw[Bb,NA];exact BO (show 41-ls.length<=41 by omega) (by decide)
 have y:ZN (LD ls) (.lst Y)=some (.lst (ls.map Ax++Y)):=FF (ls.map Ax) Y (by rw[Bb,i];omega)
 refine⟨Y,i,?_⟩
 simp only[Z2,Qf,Ze,Ao,AH,A1,Ax,A7,AX,AL,ZJ,CD,pk,Zb,d,t,ZE,Zg,Wc,V9,a,Lm,n,ZM,Ce,B5,Wb,Wa,ZQ,Zj,Bp,Zs,u,Zl,if_pos o,ZO,Cy,Cn,AY,BH,FT,Cq,Ct,p,Zz,y,ZA]
end
theorem jS{b:List (List At)}{p:Nat}(h:GL b p)(c:Int):∃d,JU [.val (LD b),.val (.int c)]=some (.val d)/\ZK [.val d]=some (.val (.bl false)):=by
 have T:=h.n1
 have U:=h.n6
 obtain⟨w,Y,H⟩:∃w:Nat,c%12=(w:Int)/\w<12:=⟨(c%12).toNat,by omega,by omega⟩
 have g1:=Ga (c/12) (show(b.length:Int)≠0 by omega)
 have g2:=Hw (c/12) (show(0:Int)<(b.length:Int) by omega)
 obtain⟨i,hi,t⟩:∃i:Nat,c/12%(b.length:Int)=(i:Int)/\i<b.length:=⟨(c/12%(b.length:Int)).toNat,by omega,by omega⟩
 have I:=CF c 12 (by decide)
 rw[Y]at I
 have d1:=GX c 12 (by decide) (by decide)
 have J:=CF (c/12) (b.length:Int) (by omega)
 rw[hi]at J
 have m3:=CF (c/12) 7 (by decide)
 have C:EF (.int 10) (.int 41)=some (.int (10^41)):=J1 (by decide)
 have u:B4 [LD b]=some (.int (b.length:Int)):=by
  show some (D.int ((b.map Ax).length:Int))=_
  rw[Bb]
 have v:atI (b.map Ax) (i:Int)=some (Ax b[i]):=ZL (by rw[D8,DG t];rfl)
 have f:b[i]∈b:=FY t
 generalize b[i]=l at v f
 have Z7:∀r,Z1 (Dn b c w l (10^41+c/12%7))=.ret r->JU [.val (LD b),.val (.int c)]=some r:=λr hr=>by
  simp only[JU,AQ,A9,Bg,BI,if_true,Qg,Wf,V6,Ze,Ao,AH,A7,AX,Cq,Ct,AL,CQ,Cy,Cn,I,ZM,Zg,Ce,B5,
   We,V7,d1,ZJ,CD,pk,Zb,u,J,A0,v,Wd,V8,C,m3,EL,hr]
 generalize (10:Int)^41+c/12%7=N at Z7
 have hll:=h.len l f
 have z:∀x∈(l.map aD).drop 1,Sm x:=λx n=>by
  obtain⟨a,k,rfl⟩:=List.mem_map.mp (List.mem_of_mem_drop n)
  exact(h.val l f a k).2.1
 by_cases h4:w<4
 ·obtain⟨d,e,q⟩:=jG b h c w h4 l N
  exact⟨d,Z7 _ e,q⟩
 have A:=jH h c w l f N (by omega)
 by_cases L:w=4
 ·exact⟨_,Z7 _ (A.trans (jM h c w l f N L)),Rj h l (h.ln l f) (.inr (.inl (List.mem_map.mpr ⟨l,f,rfl⟩)))⟩
 have B:=jI h c w l f N L
 by_cases M:w=5
 ·exact⟨_,Z7 _ ((A.trans B).trans (jN h c w l f N M)),Rk h _ trivial rfl⟩
 have E:=jJ h c w l f N M
 by_cases O:w=6
 ·refine⟨_,Z7 _ (((A.trans B).trans E).trans (jO h c w l f N O)),?_⟩
  by_cases hp:p=4
  ·refine Rk h _ ⟨by simp;omega,λx n=>?_⟩ ?_
   ·obtain⟨a,k,rfl⟩:=List.mem_map.mp n
    rcases Bm.mp k with rfl|k
    ·exact trivial
    ·exact(h.val l f a k).2.1
   ·simp only[Ax,Cs,Bb,A9]
    rw[decide_eq_false (show ¬ l.length+1<=4 by omega)];simp
  ·have:=h.p4
   refine Rj h _ ⟨by simp,by simp;omega,λa k=>?_⟩ (.inl (by simp;omega))
   rcases Bm.mp k with rfl|k
   ·exact Lp _
   ·exact⟨(h.val l f a k).1,(h.val l f a k).2.1⟩
 have Q:=jK h c w l f N O
 by_cases G:w<10
 ·have o:∀x,atI [.bl true,.non,.str "Ab"] ((w:Int)-7)=some x->Dz x=false->Sm x->∃d,JU [.val (LD b),.val (.int c)]=some (.val d)/\ZK [.val d]=some (.val (.bl false)):=λx n hv hs=>by
   refine⟨_,Z7 _ ((((A.trans B).trans E).trans Q).trans (jP h c w l f N (by omega) G x n)),Rk h _ ⟨?_,λy m=>?_⟩ ?_⟩
   ·have:=h.p4
    simp;omega
   ·rcases CT.mp m with m|m
    ·simp only[D3]at m;subst m;exact hs
    ·exact z y m
   ·simp only[Cs,Cq,Ct,Kw,hv,Bool.false_and,Bool.and_false]
  have:w=7\/w=8\/w=9:=by omega
  rcases this with rfl|rfl|rfl
  ·exact o (.bl true) (ZL (j:=0) rfl) rfl trivial
  ·exact o .non (ZL (j:=1) rfl) rfl trivial
  ·exact o (.str "Ab") (ZL (j:=2) rfl) (by decide +kernel) (show("Ab":Af).length<=100 by decide +kernel)
 have s7:=jL h c w l f N (by omega)
 have s:=(((A.trans B).trans E).trans Q).trans s7
 by_cases g:w=10/\2<l.length
 ·obtain⟨x,n,hF,e⟩:=jQ h c w l f N g.1 g.2
  exact⟨_,Z7 _ (s.trans e),Rj h x n (.inr (.inr hF))⟩
 ·obtain⟨ys,m,e⟩:=jR h c w l f N g
  exact⟨_,Z7 _ (s.trans e),Xg _ (.inr (by rw[FO,Bb,m];omega))⟩
theorem Xl(xs:List (D×Bool))(a:1<=xs.length)(b:xs.length<=4)(h:∀x∈xs,ZK [.val x.1]=some (.val (.bl x.2)))(c:∃x∈xs,x.2=false):ZD [.val (.lst (xs.map (·.1)))]=some (.val (.bl false)):=by
 rw[Xj (·.1) (·.2) xs a b h]
 obtain⟨x,d,e⟩:=c
 have:xs.all (·.2)=false:=by
  rw[List.all_eq_false]
  exact⟨x,d,by rw[e];simp⟩
 rw[this]
abbrev Ff(a:List (List (List At)))(c:Int)(w:Nat):VE:=[.val (.lst (a.map LD)),.val (.int c),.val (.int (w:Int)),.no]
theorem jT{a:List (List (List At))}(h:DB a)(c:Int):∃r,Lf [.val (.lst (a.map LD)),.val (.int c)]=some r/\ZD [.val (BF r)]=some (.val (.bl false)):=by
 have B:=h.n1
 have hn4:=h.n4
 obtain⟨w,hw,J⟩:∃w:Nat,c%14=(w:Int)/\w<14:=⟨(c%14).toNat,by omega,by omega⟩
 have L:=CF c 14 (by decide)
 rw[hw]at L
 have Z7:∀r,Le (Ff a c w)=.ret r->Lf [.val (.lst (a.map LD)),.val (.int c)]=some r:=λr hr=>by
  simp only[Lf,AQ,A9,Bg,BI,if_true,Qs,WC,Wy,Ze,Ao,A7,AX,Cq,Ct,AL,CQ,Cy,Cn,L,ZM,Zg,Ce,B5,hr]
 have m:∀k:Nat,w=k->AM (Bo (.int (w:Int)) (.int (k:Int)))=some true:=λk e=>by rw[DO,decide_eq_true (by omega)];rfl
 have n:∀k:Nat,w≠k->AM (Bo (.int (w:Int)) (.int (k:Int)))=some false:=λk e=>by rw[DO,decide_eq_false (by omega)];rfl
 by_cases M:w=0
 ·have e:AM (Bo (.int (w:Int)) (.int 0))=some true:=m 0 M
  have C:(0:Nat)<=Av:=Dq _
  refine⟨.own [],Z7 _ ?_,Rh [] (.inl (by simp))⟩
  simp only[Le,Qm,Ze,Ao,A7,AX,AL,e,ZE,Zs,Zl,Bg,if_pos C,CU,Zg]
 have v:Le (Ff a c w)=Ld (Ff a c w):=by
  have e:AM (Bo (.int (w:Int)) (.int 0))=some false:=n 0 M
  simp only[Le,Qm,Ze,Ao,A7,AX,AL,e,ZE,Zg]
 by_cases N:w=1
 ·have e:AM (Bo (.int (w:Int)) (.int 1))=some true:=m 1 N
  have O:K6 (.lst (a.map LD)) (.int 5)=some (.lst (BZ 5 (a.map LD)).flatten):=by
   show(if 1<=(a.map LD).length/\(a.map LD).length<=1000/\(0:Int)<=5/\(5:Int)<=100 then some (D.lst (BZ 5 (a.map LD)).flatten)else none)=_
   rw[if_pos ⟨by simpa using B,by rw[Bb];omega,by decide,by decide⟩]
  have b:=PU (a.map LD) 5
  rw[Bb]at b
  generalize (BZ 5 (a.map LD)).flatten=Y at O b
  have hc:L2.cutD Y none (some 5)=Y.take 5:=PX Y 5 (by decide)
  refine⟨.val (.lst (Y.take 5)),Z7 _ (v.trans ?_),Rh _ (.inr (by rw[IN];omega))⟩
  simp only[Ld,Qn,Ze,Ao,A7,AX,AL,e,ZE,C9,O,C8,Dg,hc,ZA,Zg]
 have A:Ld (Ff a c w)=Lc (Ff a c w):=by
  have e:AM (Bo (.int (w:Int)) (.int 1))=some false:=n 1 N
  simp only[Ld,Qn,Ze,Ao,A7,AX,AL,e,ZE,Zg]
 by_cases Q:w=2
 ·have e:AM (Bo (.int (w:Int)) (.int 2))=some true:=m 2 Q
  have ht:EG [.lst (a.map LD)]=some (.tup (a.map LD)):=rfl
  refine⟨.val (.tup (a.map LD)),Z7 _ ((v.trans A).trans ?_),jB _⟩
  simp only[Lc,Qo,Ze,Ao,AH,A7,AX,AL,e,ZE,ZJ,CD,pk,Zb,ht,ZA,Zg]
 have E:Lc (Ff a c w)=Lb (Ff a c w):=by
  have e:AM (Bo (.int (w:Int)) (.int 2))=some false:=n 2 Q
  simp only[Lc,Qo,Ze,Ao,A7,AX,AL,e,ZE,Zg]
 by_cases T:w=3
 ·have e:AM (Bo (.int (w:Int)) (.int 3))=some true:=m 3 T
  have hl:a[0]∈a:=FY (by omega)
  have o:atI (a.map LD) 0=some (LD a[0]):=ZL (j:=0) (by rw[D8,DG (by omega)];rfl)
  obtain⟨p,y⟩:=h.good _ hl
  generalize a[0]=f at o y
  refine⟨.val (LD f),Z7 _ (((v.trans A).trans E).trans ?_),?_⟩
  ·simp only[Lb,Qp,Ze,Ao,A7,AX,AL,e,ZE,A0,o,ZA,Zg]
  ·by_cases h4:f.length<=4
   ·have:=Xl (f.map λl=>(Ax l,false)) (by rw[Bb];exact y.n1) (by rw[Bb];exact h4) (λx g=>by obtain⟨l,_,rfl⟩:=List.mem_map.mp g;exact Rf _) (by
     have h0:0<f.length:=y.n1
     exact⟨(Ax (f[0]'h0),false),List.mem_map.mpr ⟨f[0]'h0,FY h0,rfl⟩,rfl⟩)
    rw[CV]at this
    exact this
   ·exact Rh _ (.inr (by rw[Bb];omega))
 have U:Lb (Ff a c w)=JV (Ff a c w):=by
  have e:AM (Bo (.int (w:Int)) (.int 3))=some false:=n 3 T
  simp only[Lb,Qp,Ze,Ao,A7,AX,AL,e,ZE,Zg]
 by_cases w7:w<7
 ·have e:AM (Ds (.int (w:Int)) (.int 7))=some true:=by rw[J3,decide_eq_true (by omega)];rfl
  have d1:=GX c 14 (by decide) (by decide)
  have G:EF (.int 10) (.int 60)=some (.int (10^60)):=J1 (by decide)
  have m6:=CF (c/14) (10^60) (by decide)
  have H:(3:Nat)<=Av:=by decide
  have q:∀d,atI [.non,.int (c/14%10^60),.str "axis"] ((w:Int)-4)=some d->JV (Ff a c w)=.ret (.val d):=λd hd=>by
   simp only[JV,Qq,Ze,Ao,A7,AX,AL,e,ZE,d1,G,m6,Zj,Bp,Zb,Zs,Zl,A9,Bg,BI,if_pos H,Zz,Lm,A0,hd,ZA,Zg]
  have s:=((v.trans A).trans E).trans U
  have:w=4\/w=5\/w=6:=by omega
  rcases this with rfl|rfl|rfl
  ·exact⟨_,Z7 _ (s.trans (q .non (ZL (j:=0) rfl))),jC⟩
  ·exact⟨_,Z7 _ (s.trans (q _ (ZL (j:=1) rfl))),jD _⟩
  ·exact⟨_,Z7 _ (s.trans (q _ (ZL (j:=2) rfl))),jE _⟩
 have s5:JV (Ff a c w)=Qr (Ff a c w):=by
  have e:AM (Ds (.int (w:Int)) (.int 7))=some false:=by rw[J3,decide_eq_false (by omega)];rfl
  simp only[JV,Qq,Ze,Ao,A7,AX,AL,e,ZE,Zg]
 have d1:=GX c 14 (by decide) (by decide)
 have d2:=GX c 56 (by decide) (by decide)
 have g1:=Ga (c/14) (show(a.length:Int)≠0 by omega)
 have g2:=Hw (c/14) (show(0:Int)<(a.length:Int) by omega)
 obtain⟨i,hi,z⟩:∃i:Nat,c/14%(a.length:Int)=(i:Int)/\i<a.length:=⟨(c/14%(a.length:Int)).toNat,by omega,by omega⟩
 have m2:=CF (c/14) (a.length:Int) (by omega)
 rw[hi]at m2
 have b:B4 [.lst (a.map LD)]=some (.int (a.length:Int)):=by
  show some (D.int ((a.map LD).length:Int))=_
  rw[Bb]
 have o:atI (a.map LD) (i:Int)=some (LD a[i]):=ZL (by rw[D8,DG z];rfl)
 obtain⟨p,y⟩:=h.good _ (FY z)
 obtain⟨d,hd,hdn⟩:=jS y (c/56)
 have c1:L2.cutD (a.map LD) none (some (i:Int))=(a.take i).map LD:=by rw[PX _ _ (by omega),Hk,List.map_take]
 have c2:L2.cutD (a.map LD) (some ((i:Int)+1)) none=(a.drop (i+1)).map LD:=by rw[JM _ _ (by omega),show((i:Int)+1).toNat=i+1 by omega,List.map_drop]
 have I:(1:Nat)<=Av:=by decide
 have e1:=FF ((a.take i).map LD) [d] (by simp;omega)
 have e2:=FF ((a.take i).map LD++[d]) ((a.drop (i+1)).map LD) (by simp;omega)
 refine⟨.val (.lst ((a.take i).map LD++[d]++(a.drop (i+1)).map LD)),Z7 _ (((((v.trans A).trans E).trans U).trans s5).trans ?_),?_⟩
 ·simp only[Qr,Wz,Ze,Ao,AH,A7,AX,AL,d1,ZJ,CD,pk,Zb,b,m2,ZM,Zg,Ce,B5,WB,WA,C9,C8,Dg,c1,Zw,A0,o,Zj,Bp,d2,hd,BF,Zs,Zl,A9,Bg,BI,if_pos I,Zz,e1,EL,c2,e2,ZA]
 ·have:=Xl ((a.take i).map (λf=>(LD f,true))++[(d,false)]++(a.drop (i+1)).map λf=>(LD f,true)) (by simp only[FO,Bb,A9,Bg];omega) (by simp only[FO,Bb,A9,Bg,IN,List.length_drop];omega) (λx g=>?_) ⟨(d,false),by simp,rfl⟩
  ·rw[Hl,Hl,CV,CV]at this
   exact this
  ·rcases CT.mp g with g|g
   ·rcases CT.mp g with g|g
    ·obtain⟨f,t,rfl⟩:=List.mem_map.mp g
     obtain⟨p',u⟩:=h.good f (List.mem_of_mem_take t)
     exact u.il
    ·simp only[D3]at g;subst g;exact hdn
   ·obtain⟨f,t,rfl⟩:=List.mem_map.mp g
    obtain⟨p',u⟩:=h.good f (List.mem_of_mem_drop t)
    exact u.il
theorem jU(s0 h i:Sl):QQ [s0,h,.exc "NoLadder",i]=.ret (.val (.tup [.lst [.bl true,.bl false,.bl false,.bl false,.bl false,.bl false,.bl false,.bl false],.bl true,.non])):=by
 have j:ZY "NoGrain" "NoLadder"=false:=by decide +kernel
 have k:ZY "NoValue" "NoLadder"=false:=by decide +kernel
 have m:ZY "NoPick" "NoLadder"=false:=by decide +kernel
 have n:ZY "NoRow" "NoLadder"=false:=by decide +kernel
 have o:ZY "NoSuch" "NoLadder"=false:=by decide +kernel
 have p:ZY "NoText" "NoLadder"=false:=by decide +kernel
 have v:ZY "ValueError" "NoLadder"=true:=by decide +kernel
 have l:ZY "NoLadder" "NoLadder"=true:=by decide +kernel
 have t:ZY "TooMuch" "NoLadder"=false:=by decide +kernel
 have q:CS.contains "NoLadder"=true:=by decide +kernel
 have e:∀a b c d:D,Zl (some [a,b,c,d])=some [a,b,c,d]:=λ_ _ _ _=>PV _ (by simp)
 have f:∀a b c:D,Zl (some [a,b,c])=some [a,b,c]:=λ_ _ _=>PV _ (by simp)
 have g:∀a:D,Zl (some [a])=some [a]:=λ_=>PV _ (by simp)
 have a1:=FF [.bl true,.bl false,.bl false,.bl false] [.bl false,.bl false,.bl false] (by simp)
 have a2:=FF ([.bl true,.bl false,.bl false,.bl false]++[.bl false,.bl false,.bl false]) [.bl false] (by simp)
 simp only[QQ,Fe,q,if_true,j,k,m,n,o,p,v,l,t,e,f,g,a1,a2,Zg,Ze,Ao,Zb,Zj,Zs,Zz,ZM,ZA,A7,AX,AL,Bp,Ce,B5]
 rfl
theorem jV(d:D)(hd:ZD [.val d]=some (.val (.bl false)))(x:D):JY [.val x,.val d]=some ("NoLadder":Af):=by
 have a:CK (some (.bl false))=some false:=rfl
 simp only[JY,fnX,A9,Bg,BI,if_true,Np,CQ,Cn,CG,AY,BH,CW,Zw,AH,A7,AX,Zb,AL,hd,Bp,BF,a,CH,Bool.not_false,Mw,Zj,Px]
theorem jW(d:D)(hd:ZD [.val d]=some (.val (.bl false))):Iz [.val d]=some (.val (.tup [.lst [.bl true,.bl false,.bl false,.bl false,.bl false,.bl false,.bl false,.bl false],.bl true,.non])):=by
 have a:=jV d hd (.ins [] [])
 have b:CS.contains "NoLadder"=true:=by decide +kernel
 simp only[Iz,AQ,A9,Bg,BI,if_true,Nq,CQ,Cy,Cn,Cq,Ct,ZM,Zg,Ce,B5,AH,AX,Zb,AL,a,K0,b,jU,Ve]
abbrev SC(ns:List Int):Sl:=.val (.lst (ns.map D.int))
theorem jX(a:List (List At)):QR [.val (LD a)]=some (LD a):=rfl
theorem jY(ns:List Int){a:List (List (List At))}(h:DB a)(m:¬ ns.getD (5:Int).toNat 0%4=0):Nt [SC ns,.val (.lst (a.map LD)),.no,.no,.no,.no,.no,.no]=.ret (.val (.bl true)):=by
 have n:=JZ (SC ns) ns (.inl rfl) 5 (by decide)
 have o:=JZ (SC ns) ns (.inl rfl) 6 (by decide)
 have p:=CF (ns.getD (5:Int).toNat 0) 4 (by decide)
 have q:Bo (.int (ns.getD (5:Int).toNat 0%4)) (.int 0)=some (.bl false):=by rw[DO,decide_eq_false m]
 obtain⟨r,s,t⟩:=jT h (ns.getD (6:Int).toNat 0)
 have i:=jW _ t
 have c:=h.n4
 have u:(a.map LD).length<=Av:=by rw[Bb];exact BO c (by decide)
 have v:=Eu (b:=Zm 0) (e:=QR) (ρ:=[.no]) LD LD a λj _=>⟨[.val (LD j)],rfl,jX j⟩
 have x:CK (some (.bl false))=some false:=rfl
 have y:=Iv 8 (by decide)
 have d:ED [.int 8]=some ((BL 8).map λ(k:Nat)=>D.int (k:Int)):=y
 have l:=Eu (b:=Zm 0) (e:=QS) (ρ:=[.no]) (λ(k:Nat)=>D.int (k:Int)) (λ(k:Nat)=>D.bl (decide ((k:Int)=0))) (BL 8) λk _=>⟨[.val (.int (k:Int))],rfl,by simp only[QS,Ze,Ao,AX,AL,DO]⟩
 have f:(BL 8).map (λ(k:Nat)=>D.bl (decide ((k:Int)=0)))=[.bl true,.bl false,.bl false,.bl false,.bl false,.bl false,.bl false,.bl false]:=rfl
 rw[f]at l
 have g:((BL 8).map λ(k:Nat)=>D.int (k:Int)).length<=Av:=by rw[Bb,NA];decide
 have z:Bo (.lst [.bl true,.bl false,.bl false,.bl false,.bl false,.bl false,.bl false,.bl false]) (.lst [.bl true,.bl false,.bl false,.bl false,.bl false,.bl false,.bl false,.bl false])=some (.bl true):=rfl
 cases r<;>simp only[BF]at i<;>simp only[Nt,WJ,ZQ,BN,A7,AX,AL,ZG,Zl,if_pos u,ZO,Cy,Cn,BH,Cq,Ct,v,Zz,Bp,ZM,Zg,Ce,B5,
  WI,Ze,Zw,AH,Zj,Zb,n,BF,p,q,WH,Ao,x,CH,Bool.not_false,ZE,o,s,WG,i,Im,Dr,A9,Bg,BI,if_true,ZW,Zm,DH,WF,A1,AM,Zs,d,if_pos g,l,z,DW,C1,ZA]
theorem jZ(ns:List Int)(a b c d e f g:Sl):Ll [SC ns,a,b,c,d,e,f,g]=decide (ns.getD (5:Int).toNat 0%4=0):=by
 have h:=JZ (SC ns) ns (.inl rfl) 5 (by decide)
 have i:=CF (ns.getD (5:Int).toNat 0) 4 (by decide)
 simp only[Ll,Ze,Zw,AH,AX,Zj,Zb,AL,Bp,h,BF,i,DO]
 cases decide (ns.getD (5:Int).toNat 0%4=0)<;>rfl
theorem j0(good:∀(ns:List Int)(a:List (List (List At))),DB a->ns.getD (5:Int).toNat 0%4=0->Nr [SC ns,.val (.lst (a.map LD)),.no,.no,.no,.no,.no,.no]=.ret (.val (.bl true)))(ns:List Int):Nu [.val (.lst (ns.map D.int))]=some (.val (.bl true)):=by
 obtain⟨a,d,e⟩:=jv ns
 have c:My (Ll [SC ns,.val (.lst (a.map LD)),.no,.no,.no,.no,.no,.no]) (Nr [SC ns,.val (.lst (a.map LD)),.no,.no,.no,.no,.no,.no]) (Nt [SC ns,.val (.lst (a.map LD)),.no,.no,.no,.no,.no,.no])=.ret (.val (.bl true)):=by
  rw[jZ]
  by_cases b:ns.getD (5:Int).toNat 0%4=0
  ·rw[decide_eq_true b,good ns a d b];rfl
  ·rw[decide_eq_false b,jY ns d b];rfl
 simp only[Nu,AQ,A9,Bg,BI,if_true,Q0,WL,CQ,Cy,Cn,Cq,Ct,Zw,AH,AX,Zb,AL,e,Bp,BF,ZM,Zg,Ce,B5,c]
theorem j1(a:At):GN (aD a)=true:=by cases a<;>simp only[aD,GN]
theorem Xm:∀l:List At,Dw (l.map aD)=true
 |[]=>by simp only[BH,Dw]
 |a::l=>by simp only[AY,Dw,j1,Xm l,Bool.and_self]
theorem Xn:∀a:List (List At),Dw (a.map Ax)=true
 |[]=>by simp only[BH,Dw]
 |l::a=>by simp only[AY,Dw,Ax,GN,Xm,Bool.true_and];exact Xn a
theorem Rl{C:VE->Option (List D)}(b:∀z,C [.val (.lst z)]=some z):∀a:List (List D),(∀z∈a,Dw z=true)->F5 (Zm 0) C [.no] (a.map λz=>D.lst z)=some a
 |[],_=>rfl
 |z::a,h=>by
  have c:=Rl b a λy d=>h y (BA _ d)
  have e:=h z Bw
  simp only[AY,F5,Zm,B5,b,MB,AL,if_pos e,Zb,c]
abbrev ZS(a:List (List (List At))):List (List D):=a.map λb=>b.map Ax
theorem Xo(a:List (List (List At))):∀z∈ZS a,Dw z=true:=λz b=>by obtain⟨c,_,rfl⟩:=List.mem_map.mp b;exact Xn c
theorem Lq(a:List (List (List At))):(ZS a).map (λz=>D.lst z)=a.map LD:=by rw[CV];rfl
abbrev BJ(a:List (List (List At))):D:=.tup (a.map λ_=>D.int 0)
theorem Xp{a:List (List (List At))}(h:DB a):K8 [.val (.lst (a.map LD))]=some (.val (BJ a)):=by
 have c:=h.n4
 have d:(a.map LD).length<=Av:=by rw[Bb];exact BO c (by decide)
 have f:=Eu (b:=Zm 0) (e:=VC) (ρ:=[.no]) LD (λ_=>D.int 0) a λg _=>⟨[.val (LD g)],rfl,rfl⟩
 have i:EG [.lst (a.map λ_=>D.int 0)]=some (BJ a):=rfl
 simp only[K8,AQ,A9,Bg,BI,if_true,P1,CQ,Cn,CG,ZQ,BN,AX,AL,ZG,Zl,if_pos d,ZO,Cy,BH,f,Zz,Bp,Zj,Zb,ZJ,CD,pk,i,ZA,Zg]
def Rm(a:BC)(ps:List (At×D)):BC:=ps.foldl (λb p=>Dl b (.at p.1) p.2) a
theorem j2(a:At):CM (aD a)=some (.at a):=Jv (.at a)
theorem j3{b:BC}{a:At}{v:D}(h:∀p∈b,Fy p.1=true):∀p∈Dl b (.at a) v,Fy p.1=true:=λp c=>by
 rcases fj c with c|rfl
 ·exact h p c
 ·rfl
theorem Xq:∀(ps:List (At×D))(a:BC),(∀p∈a,Fy p.1=true)->a.length+ps.length<=100000->FA a (ps.map λp=>.tup [aD p.1,p.2])=some (Rm a ps)
 |[],a,_,_=>rfl
 |p::ps,a,h,b=>by
  simp only[A9]at b
  have c:a.length<Av:=Cu (show a.length<100000 by omega) (by decide)
  have e:=fm a (.at p.1) p.2
  have d:=Xq ps (Dl a (.at p.1) p.2) (j3 h) (by omega)
  simp only[AY,FA,j2,UP p.1 h,c,decide_true,Bool.and_self,if_true,d]
  rfl
theorem j4{l:List At}(h:Ln l):K7 [.val (Ax l),.val (.int 0)]=some (.val (aD (hd l))):=by
 have b:=h.l1
 cases l with
 |nil=>simp at b
 |cons a r=>
  have c:(0:Int)<((r.length:Int)+1):=by omega
  simp[K7,AQ,P0,Ax,hd,atI,DT,c]
theorem j5(a:List (List At))(h:∀l∈a,Ln l)(i:a.length<=1000):∃c,MV [.val (LD a),.val (.int 0),.val (.int 0)]=some (.own c true):=by
 have j:(a.map Ax).length<=Av:=by rw[Bb];exact BO i (by decide)
 have d:(2:Nat)<=Av:=by decide
 have k:=Eu (b:=Zm 0) (e:=Qi) (ρ:=[.no,.val (.int 0),.val (.int 0)]) Ax (λl=>D.tup [aD (hd l),aD (hd l)]) a λl m=>⟨[.val (Ax l),.val (.int 0),.val (.int 0)],rfl,by
  have:=j4 (h l m)
  simp only[Qi,Zw,AH,A7,AX,Zb,AL,this,Bp,BF,Zj,Zs,Zl,A9,Bg,BI,if_pos d]⟩
 have g:=Xq (a.map λl=>(hd l,aD (hd l))) [] (λ_ h=>nomatch h) (by simp;omega)
 rw[CV]at g
 have f:FA [] (a.map λl=>D.tup [aD (hd l),aD (hd l)])=some (Rm [] (a.map λl=>(hd l,aD (hd l)))):=g
 refine⟨ZB (Rm [] (a.map λl=>(hd l,aD (hd l)))),?_⟩
 ·simp only[MV,AQ,A9,Bg,BI,if_true,Qj,CQ,Cn,CG,Jz,ZQ,BN,A7,AX,AL,ZG,Zl,if_pos j,ZO,Cy,AY,BH,Cq,Ct,FT,k,Zz,Bp,f,Kn,Zg]
theorem j6(n k:Nat)(a:k<n)(L:List (List (List At)))(b:L.length=n):atI (L.map λ_=>D.int 0) (k:Int)=some (.int 0):=ZL (by rw[D8,DG (by omega)];rfl)
theorem Xr(L:List (List (List At))):∀(b:List (List (List At)))(k:Nat),(∀a∈b,∃p,GL a p)->k+b.length<=L.length->∃d:List D,C2 (Dr 2 (ZW (Zm 0) (ZW (Zm 1) DH))) (λ_=>some true) M2 [.no,.no,.val (BJ L),.val (BJ L)] (Ef k (b.map LD))=some d
 |[],k,_,_=>⟨[],rfl⟩
 |a::b,k,h,g=>by
  simp only[A9]at g
  obtain⟨d,i⟩:=Xr L b (k+1) (λl e=>h l (BA _ e)) (by omega)
  obtain⟨p,f⟩:=h a Bw
  obtain⟨c,e⟩:=j5 a f.ln (by have:=f.n6;omega)
  have j:=j6 L.length k (by omega) L rfl
  have m:M2 [.val (.int (k:Int)),.val (LD a),.val (BJ L),.val (BJ L)]=some (.lst c true):=by
   simp only[M2,Zw,AH,Ao,A7,AX,Ze,A0,j,AL,Zj,Bp,Zb,e,BF]
  refine⟨.lst c true::d,?_⟩
  have n:Dr 2 (ZW (Zm 0) (ZW (Zm 1) DH)) (.tup [.int (k:Int),LD a]) [.no,.no,.val (BJ L),.val (BJ L)]=some [.val (.int (k:Int)),.val (LD a),.val (BJ L),.val (BJ L)]:=rfl
  rw[AY,Ef,C2,n]
  simp only[m,i,Zb,AL]
theorem j7{L:List (List (List At))}(h:DB L):∃a:List D,M4 [.val (.lst (L.map LD)),.val (BJ L),.val (BJ L)]=some (.own a):=by
 obtain⟨a,hd⟩:=Xr L L 0 h.good (by omega)
 have b:=h.n4
 have c:(Ef 0 (L.map LD)).length<=Av:=by rw[Pe,Bb];exact BO b (by decide)
 have d:Fw (.lst (L.map LD))=some (L.map LD):=rfl
 refine⟨a,?_⟩
 simp only[M4,AQ,A9,Bg,BI,if_true,Qx,CQ,Cn,CG,ZQ,KD,BN,A7,AX,AL,d,Zl,if_pos c,ZO,Cy,AY,BH,Cq,Ct,FT,hd,CU,Zg]
theorem j8(F:List Sl->Option Rv):KU F []=some []:=by
 rw[fN ⟨by simp,λ_ h=>absurd h EH,⟨none,λ_ h=>absurd h EH⟩,λ_ h=>absurd h EH,λ_ h=>absurd h EH,λ_ h=>absurd h EH,λ_ h=>absurd h EH⟩]
 rfl
theorem j9:Ni [.val (.lst [])]=some (.own []):=by
 have a:=j8 Qt
 have b:(0:Nat)<=Av:=Dq _
 simp only[Ni,AQ,A9,Bg,BI,if_true,QL,CQ,Cy,Cn,Cq,Ct,AL,Zs,Zl,if_pos b,DZ,Zg,Ce,B5,Er,Mr,Ao,AX,a,Zz,Bp,ZG,Co,C7,A7,CU]
theorem ka(w:List D):Nk [.val (.lst w),.val (.lst [])]=some (.own []):=by
 have a:=j9
 have b:(0:Nat)<=Av:=Dq _
 have c:JC [.lst [] true]=some []:=rfl
 simp only[Nk,AQ,A9,Bg,BI,if_true,QM,CQ,Cy,Cn,Cq,Ct,Hg,Zg,Ce,B5,Er,BN,A7,AX,AL,ZG,Co,ZQ,Zw,Ep,AH,Zb,CD,pk,c,Zz,Bp,Zj,a,BF,Zl,if_pos b,C2,CU]
theorem kb{L:List (List (List At))}(h:DB L):Nl [.val (.lst (L.map LD)),.val (.lst []),.val (BJ L)]=some (.own []):=by
 obtain⟨w,a⟩:=j7 h
 have b:=Xp h
 have c:=ka w
 have d:(0:Nat)<=Av:=Dq _
 simp only[Nl,AQ,A9,Bg,BI,if_true,QN,CQ,Cy,Cn,Cq,Ct,ZQ,BN,A7,AX,AL,ZG,Zl,if_pos d,C2,Zz,Bp,ZM,Zg,Ce,B5,Jc,Zw,AH,Zb,b,BF,Zj,a,c,Ti,CU]
abbrev Fg(L:List (List (List At))):KT:=.tup (L.map λ_=>At.int 0)
theorem Lr(L:List (List (List At))):kD (Fg L)=BJ L:=by
 show D.tup ((L.map λ_=>At.int 0).map aD)=_
 rw[CV];rfl
theorem kc(L:List (List (List At)))(v:D):FA [] [.tup [BJ L,v]]=some [(Fg L,v)]:=by
 have a:CM (BJ L)=some (Fg L):=by rw[<- Lr];exact Jv _
 have b:0<Av:=by decide
 simp[FA,a,b,Dl,Dm]
 intro z
 exact absurd z (by simp[Cp])
theorem kd{L:List (List (List At))}(h:DB L):Nn [.val (.lst (L.map LD)),.val (.lst []),.val (.lst [BJ L])]=some (.own [BJ L,.lst []] true):=by
 have b:=kb h
 have c:(1:Nat)<=Av:=by decide
 have d:(2:Nat)<=Av:=by decide
 have e:Nm [.val (BJ L),.val (.lst (L.map LD)),.val (.lst [])]=some (.tup [BJ L,.lst []]):=by
  simp only[Nm,A1,A7,AX,Zj,Bp,Zw,AH,Zb,AL,b,BF,Zs,Zl,A9,Bg,BI,if_pos d]
 have f:C2 (Zm 0) (λ_=>some true) Nm [.no,.val (.lst (L.map LD)),.val (.lst [])] [BJ L]=some [.tup [BJ L,.lst []]]:=by
  simp only[C2,Zm,B5,e,Zb,AL]
 have g:=kc L (.lst [])
 have a:ZB [(Fg L,D.lst [])]=[BJ L,.lst []]:=by
  show [kD (Fg L),D.lst []]=_
  rw[Lr]
 simp only[Nn,AQ,A9,Bg,BI,if_true,QO,CQ,Cn,CG,Jz,ZQ,BN,A7,AX,AL,ZG,Zl,if_pos c,ZO,Cy,AY,BH,Cq,Ct,FT,f,Zz,Bp,g,a,Kn,Zg]
abbrev Hy:List Af:=["axes","standing","tables"]
abbrev Xs(L:List (List (List At))):List D:=[.lst (L.map LD),.lst [],.lst [BJ L,.lst []] true]
abbrev BK(L:List (List (List At))):D:=.ins Hy (Xs L)
theorem Xt:∀L:List (List (List At)),GO (L.map λ_=>D.int 0)=true
 |[]=>by simp only[BH,GO]
 |_::L=>by simp only[AY,GO,noI,Bool.true_and];exact Xt L
theorem kf(L:List (List (List At))):noI (.lst [BJ L,.lst []] true)=true:=by
 simp only[noI,GO,Xt,Bool.and_self]
theorem kg{L:List (List (List At))}(h:DB L):No [.deep (ZS L)]=some (Hy,Xs L):=by
 have d:=h.al
 have c:((ZS L).map λz=>D.lst z).length<=Av:=by rw[Bb,Bb];exact BO h.n4 (by decide)
 have a:=Rl (C:=WE) (λz=>rfl) (ZS L) (Xo L)
 rw[Lq]at c a
 have e:=Xp h
 have f:=kd h
 have g:=kf L
 have b:=Lq L
 have i:CK (some (.bl true))=some true:=rfl
 have j:(0:Nat)<=Av:=Dq _
 have k:(1:Nat)<=Av:=by decide
 have l:([]:List Af).contains "axes"=false:=rfl
 have m:(["axes"]:List Af).contains "standing"=false:=by decide +kernel
 have n:(["axes","standing"]:List Af).contains "tables"=false:=by decide +kernel
 have o:Dx "axes" (.ins ["axes","standing"] [.lst (L.map LD),.lst []])=some (.lst (L.map LD)):=by
  simp only[Dx,ET,Fn,beq_self_eq_true]
 have s0:0<1000:=by decide
 have p:1<1000:=by decide
 have q:2<1000:=by decide
 simp only[No,JH,A9,Bg,BI,if_true,QP,CQ,Cn,CG,JD,AY,BH,CW,b,Zw,AH,A7,AX,Zb,AL,d,Bp,BF,i,CH,J0,PN]
 simp only[FC,AY,BH,CW,BN,A7,AX,ZG,Zl,if_pos c,ZO,Cy,Cn,a,AL,Bp,b,GP,AL,l,DF,if_false,Ct,Zs,Zl,Bg,if_pos j,Zz,m,Cq,B5,A1,AX,o,Zj,Zb,Zw,e,BF,A9,BI,if_pos k,f,PP,g,if_true,n,if_pos s0,if_pos p,if_pos q]
theorem kh{L:List (List (List At))}(h:DB L)(x:D):JY [.val x,.deep (ZS L)]=none:=by
 have b:=h.al
 have a:=Lq L
 have c:CK (some (.bl true))=some true:=rfl
 simp only[JY,fnX,A9,Bg,BI,if_true,Np,CQ,Cn,CG,AY,BH,CW,a,Zw,AH,A7,AX,Zb,AL,b,Bp,BF,c,CH,J0,Mw]
theorem ki{L:List (List (List At))}(h:DB L):Iz [.deep (ZS L)]=some (.val (.tup [.lst [],.bl true,BK L])):=by
 have a:=kh h (.ins [] [])
 have b:=kg h
 have c:(0:Nat)<=Av:=Dq _
 have d:(3:Nat)<=Av:=by decide
 simp only[Iz,AQ,A9,Bg,BI,if_true,Nq,CQ,Cy,Cn,Cq,Ct,ZM,Zg,Ce,B5,AH,A7,AX,Zb,AL,a,K0,MF,b,Bp,Zs,Zl,if_pos c,if_pos d,Zz,Zj,A1,ZA]
theorem Xu{L:List (List (List At))}(h:DB L):K9 [.val (BK L)]=some (.own (L.map LD)):=by
 have a:(L.map LD).length<=Av:=by rw[Bb];exact BO h.n4 (by decide)
 have c:=Eu (b:=Zm 0) (e:=VL) (ρ:=[.no]) LD LD L λd _=>⟨[.val (LD d)],rfl,rfl⟩
 have f:Dx "axes" (BK L)=some (.lst (L.map LD)):=by
  simp only[Dx,ET,Fn,beq_self_eq_true]
 simp only[K9,AQ,A9,Bg,BI,if_true,P2,CQ,Cn,CG,ZQ,A1,AX,AL,f,ZG,Zl,if_pos a,ZO,Cy,BH,c,CU,Zg]
theorem kj:(("standing":Af)=="axes")=false:=by decide +kernel
theorem kl:(("tables":Af)=="axes")=false:=by decide +kernel
theorem ko:(("tables":Af)=="standing")=false:=by decide +kernel
theorem kq(L:List (List (List At))):MN [.val (BK L)]=some (.own []):=by
 have a:Dx "standing" (BK L)=some (.lst []):=by
  simp only[Dx,ET,Fn,kj,beq_self_eq_true]
 have b:Fa [.lst []]=some []:=rfl
 simp only[MN,AQ,A9,Bg,BI,if_true,P4,CQ,Cn,CG,Ep,A1,AX,AL,a,Zj,Bp,Zb,CD,pk,b,CU,Zg]
theorem Rn(L:List (List (List At))):([BJ L,.lst []]:List D)=ZB [(Fg L,D.lst [])]:=by
 show _=[kD (Fg L),D.lst []]
 rw[Lr]
theorem Ro(L:List (List (List At))):Dx "tables" (BK L)=some (.lst [BJ L,.lst []] true):=by
 simp only[Dx,ET,Fn,kl,ko,beq_self_eq_true]
theorem kr(L:List (List (List At))):MO [.val (BK L)]=some (.own [BJ L]):=by
 have a:=Ro L
 have b:K4 (some (.lst [BJ L,.lst []] true))=some [BJ L]:=by
  rw[Rn]
  simp only[K4,Pk,AL,A9,Bg,if_true,AY,BH,Lr]
 simp only[MO,AQ,A9,Bg,BI,if_true,P5,CQ,Cn,CG,A1,AX,AL,a,b,CU,Zg]
theorem kt{a:List (List At)}{p:Nat}(h:GL a p):MW [.val (LD a),.val (.int 0)]=some (.val (.bl true)):=by
 have b:=WN (.int 0) trivial
 have c:=h.n1
 have e:∃n:Nat,MM [.val (LD a)]=some (.val (.int (n:Int))):=by
  cases a with
  |nil=>simp at c
  |cons l a=>
   refine⟨(l.map aD).length,?_⟩
   have d:atI ((l::a).map Ax) 0=some (Ax l):=ZL (j:=0) rfl
   have f:B4 [Ax l]=some (.int ((l.map aD).length:Int)):=rfl
   simp only[MM,AQ,A9,Bg,BI,if_true,PZ,CQ,Cn,CG,ZJ,Ze,Ao,AX,AL,A0,d,Zj,Bp,Zb,CD,pk,f,ZA,Zg]
 obtain⟨n,g⟩:=e
 have i:(0:Int)<=(n:Int):=by omega
 simp[MW,AQ,Qk,b,g,F7,i]
theorem ku{L:List (List (List At))}(h:DB L):M0 [.val (.lst (L.map LD)),.val (BJ L)]=some (.val (.bl true)):=by
 have i:(List.zipWith (λx y=>D.tup [x,y]) (L.map LD) (L.map λ_=>D.int 0))=L.map λc=>D.tup [LD c,.int 0]:=by
  rw[List.zipWith_map]
  induction L with
  |nil=>rfl
  |cons a L n=>simp
 have g:=Eu (b:=Dr 2 (ZW (Zm 0) (ZW (Zm 1) DH))) (e:=Qv) (ρ:=[.no,.no]) (λc=>D.tup [LD c,.int 0]) (λ_=>D.bl true) L λc j=>⟨[.val (LD c),.val (.int 0)],rfl,by
  obtain⟨p,k⟩:=h.good c j
  simp only[Qv,Zw,AH,A7,AX,Zb,AL,kt k,Bp,BF]⟩
 have q:(L.map λc=>D.tup [LD c,.int 0]).length<=Av:=by rw[Bb];exact BO h.n4 (by decide)
 have l:L.map (λ_=>D.bl true)=(L.map λ_=>true).map D.bl:=by rw[CV];rfl
 rw[l]at g
 have m:(L.map λ_=>true).all id=true:=by simp
 have d:(L.map λ_=>true).all (λx=>x)=true:=by simp
 have f:L.length<=Av:=BO h.n4 (by decide)
 simp[M0,AQ,Qw,Jo,i,f,ZO,g,-CV,m,d,Function.comp]
theorem Xv(L:List (List (List At)))(v:D):Dm (Fg L) [(Fg L,v)]=true:=by simp[Dm]
theorem Xw(L:List (List (List At)))(v:D):Cp [(Fg L,v)] (Fg L)=some v:=by simp[Cp]
theorem Xx(L:List (List (List At))):CM (BJ L)=some (Fg L):=by rw[<- Lr];exact Jv _
theorem kw(L:List (List (List At))):EW false (BJ L) (.lst [BJ L,.lst []] true)=some (.bl true):=by
 rw[Rn,fg,Xx]
 simp only[AL,Xv,if_true,Xw]
 rfl
theorem kx(L:List (List (List At))):Fd (.lst [BJ L,.lst []] true) (BJ L)=some (.lst []):=by
 rw[Rn,ff,Xx]
 simp only[AL,Xv,if_true,Xw]
theorem ky(L:List (List (List At))):Dx "axes" (BK L)=some (.lst (L.map LD)):=by
 simp only[Dx,ET,Fn,beq_self_eq_true]
theorem kz{L:List (List (List At))}(h:DB L):Ng [.val (BK L),.val (BJ L)]=some (.val (.bl true)):=by
 have a:=ku h
 have b:=ky L
 have c:=Ro L
 have d:=kw L
 simp only[Ng,AQ,A9,Bg,BI,if_true,QJ,CQ,Cn,CG,Zw,A1,AH,Ao,A7,AX,AL,b,Zj,Bp,Zb,a,BF,AM,Ze,c,d,DW,C1,ZA,Zg]
theorem kA{L:List (List (List At))}(h:DB L):Nh [.val (BK L),.val (BJ L)]=some (.own []):=by
 have a:=kz h
 have b:=Ro L
 have c:=kx L
 have d:CK (some (.bl true))=some true:=rfl
 have e:Hy.contains "is_kept"=false:=by decide +kernel
 have f:Fa [.lst []]=some []:=rfl
 simp only[Nh,AQ,A9,Bg,BI,if_true,QK,CQ,Cn,CG,EJ,A1,AH,Ao,A7,AX,e,DF,if_false,AL,Zb,a,Bp,BF,d,CH,J0,ZE,Zg,Ep,Ze,b,c,Zj,CD,pk,f,CU]
theorem Xy{d:D}(h:A4 12 d=true):Ec d d=some (.bl false):=by
 have a:=OX 12 d h
 simp[deep,h,a]
theorem Rp{d:D}(h:A4 12 d=true):Bo d d=some (.bl true):=by
 have:=OX 12 d h
 simp[Bo,h,this]
theorem Xz(L:List (List (List At))):A4 12 (.lst (L.map LD))=true:=by
 simp only[A4,Eb]
 intro x a
 obtain⟨c,_,rfl⟩:=List.mem_map.mp a
 simp only[A4,Eb]
 intro y b
 obtain⟨l,_,rfl⟩:=List.mem_map.mp b
 exact Q2 9 l
theorem kB(L:List (List (List At))):A4 12 (.lst [BJ L])=true:=by
 simp[A4]
abbrev RQ(ns:List Int)(L:List (List (List At)))(t g k u b w:Sl):VE:=[SC ns,.val (.lst (L.map LD)),t,g,k,u,b,w]
theorem kC(ns:List Int){L:List (List (List At))}(h:DB L)(g k u w:Sl):Lk (RQ ns L .no g k u (.val (BK L)) w)=.ret (.val (.bl true)):=by
 have a:=Xu h
 have c:=kq L
 have d:=kr L
 have f:=kA h
 have i:=Rp (Xz L)
 have j:Bo (.lst []) (.lst [])=some (.bl true):=Rp rfl
 have l:=Rp (kB L)
 have m:Hy.contains "ladders"=false:=by decide +kernel
 have n:Hy.contains "rows"=false:=by decide +kernel
 have o:Hy.contains "kept"=false:=by decide +kernel
 have p:Hy.contains "table"=false:=by decide +kernel
 have q:(L.map LD).length<=Av:=by rw[Bb];exact BO h.n4 (by decide)
 have r:=Eu (b:=Zm 0) (e:=WK) (ρ:=[.no]) LD (λ_=>D.int 0) L λs _=>⟨[.val (LD s)],rfl,rfl⟩
 have t:EG [.lst (L.map λ_=>D.int 0)]=some (BJ L):=rfl
 have v:(0:Nat)<=Av:=Dq _
 have x:(1:Nat)<=Av:=by decide
 simp only[Lk,ZQ,BN,A1,AH,Ao,A7,AX,AL,ZG,Zl,if_pos q,ZO,Cy,Cn,BH,CG,r,Zz,Bp,Zj,Zb,ZJ,CD,pk,t,ZM,Zg,Ce,B5,Ze,EJ,m,n,o,p,DF,if_false,a,c,d,f,BF,i,j,l,Zs,Bg,A9,BI,if_pos v,if_pos x,AM,DW,C1,ZA]
theorem kF(ns:List Int){L:List (List (List At))}(h:DB L)(m:ns.getD (5:Int).toNat 0%4=0)(a:Ad):K1 (QZ (RQ ns L (.deep (ZS L) (some a)) .no .no .no .no .no))=.ret (.val (.bl true)):=by
 have n:=JZ (SC ns) ns (.inl rfl) 5 (by decide)
 have o:=CF (ns.getD (5:Int).toNat 0) 4 (by decide)
 have p:Bo (.int (ns.getD (5:Int).toNat 0%4)) (.int 0)=some (.bl true):=by rw[DO,decide_eq_true m]
 have k:CK (some (.bl true))=some true:=rfl
 have q10:QX (RQ ns L (.deep (ZS L) (some a)) .no .no .no .no .no)=.next (RQ ns L (.deep (ZS L) (some a)) (.val (.bl true)) .no .no .no .no):=by
  simp only[QX,Ze,Zw,AH,AX,Zj,Zb,AL,Bp,n,BF,o,p,ZM,Ce,B5]
 have q9:QW (RQ ns L (.deep (ZS L) (some a)) (.val (.bl true)) .no .no .no .no)=.next (RQ ns L (.deep (ZS L) (some a)) (.val (.bl true)) .no .no .no .no):=by
  simp only[QW,Ao,A7,AX,k,CH,Bp,J0,ZE]
 have q:=ki h
 have q8:QV (RQ ns L (.deep (ZS L) (some a)) (.val (.bl true)) .no .no .no .no)=.next (RQ ns L (.deep (ZS L) (some a)) (.val (.bl true)) (.val (.lst [])) (.val (.bl true)) (.val (BK L)) .no):=by
  simp only[QV,Zw,AH,A7,AX,Zb,AL,q,Bp,BF,Im,Dr,A9,Bg,BI,if_true,ZW,Zm,DH,Ce,B5]
 have q7:QU (RQ ns L (.deep (ZS L) (some a)) (.val (.bl true)) (.val (.lst [])) (.val (.bl true)) (.val (BK L)) .no)=.next (RQ ns L (.deep (ZS L) (some a)) (.val (.bl true)) (.val (.lst [])) (.val (.bl true)) (.val (BK L)) .no):=by
  simp only[QU,Ao,A7,AX,k,CH,Bp,J0,ZE]
 have n1:Ec (.lst []) (.lst [])=some (.bl false):=Xy rfl
 have n2:=Xy (Xz L)
 have r:=Xu h
 have j:=Lq L
 have cl:Hy.contains "ladders"=false:=by decide +kernel
 have s:(0:Nat)<=Av:=Dq _
 have q6:QT (RQ ns L (.deep (ZS L) (some a)) (.val (.bl true)) (.val (.lst [])) (.val (.bl true)) (.val (BK L)) .no)=.next (RQ ns L (.deep (ZS L) (some a)) (.val (.bl true)) (.val (.lst [])) (.val (.bl true)) (.val (BK L)) .no):=by
  simp only[QT,AY,BH,CW,j,Ze,Ao,A1,A7,AX,AL,Zs,Zl,Bg,if_pos s,Zz,Bp,n1,AM,n2,EJ,cl,DF,if_false,r,BF,Ea,ZE]
 obtain⟨z,d,t⟩:∃z d,ZS L=z::d:=by
  have C:=h.n1
  cases u:ZS L with
  |nil=>have:(ZS L).length=0:=by rw[u];rfl
        rw[Bb]at this;omega
  |cons z d=>exact⟨z,d,rfl⟩
 have v:=kC ns h (.val (.bl true)) (.val (.lst [])) (.val (.bl true)) .no
 have i:∀(c b:VE),b[2]?=c[2]?->Hr 2 c (.next b)=.next b:=λc b e=>by
  show JJ (b[2]?=c[2]?) (.next b)=_
  exact Vw e
 have f:∀(c:VE) (g:VE->An),Zg (.next c) g=g c:=λ_ _=>rfl
 have w:=i (RQ ns L (.deep (ZS L) (some a)) .no .no .no .no .no) (RQ ns L (.deep (ZS L) (some a)) (.val (.bl true)) .no .no .no .no) rfl
 have x:=i (RQ ns L (.deep (ZS L) (some a)) (.val (.bl true)) .no .no .no .no) (RQ ns L (.deep (ZS L) (some a)) (.val (.bl true)) .no .no .no .no) rfl
 have y:=i (RQ ns L (.deep (ZS L) (some a)) (.val (.bl true)) .no .no .no .no) (RQ ns L (.deep (ZS L) (some a)) (.val (.bl true)) (.val (.lst [])) (.val (.bl true)) (.val (BK L)) .no) rfl
 have l:=i (RQ ns L (.deep (ZS L) (some a)) (.val (.bl true)) (.val (.lst [])) (.val (.bl true)) (.val (BK L)) .no) (RQ ns L (.deep (ZS L) (some a)) (.val (.bl true)) (.val (.lst [])) (.val (.bl true)) (.val (BK L)) .no) rfl
 have A:MH 2 (RQ ns L (.deep (ZS L) (some a)) (.val (.bl true)) (.val (.lst [])) (.val (.bl true)) (.val (BK L)) .no)=.next (RQ ns L (.deep ([]::d) (some a)) (.val (.bl true)) (.val (.lst [])) (.val (.bl true)) (.val (BK L)) .no):=by
  rw[t];rfl
 have B:MJ 2 Lk (RQ ns L (.deep ([]::d) (some a)) (.val (.bl true)) (.val (.lst [])) (.val (.bl true)) (.val (BK L)) .no)=K1 (Lk (RQ ns L .no (.val (.bl true)) (.val (.lst [])) (.val (.bl true)) (.val (BK L)) .no)):=rfl
 unfold QZ
 rw[q10,w,f,q9,x,f,q8,y,f,q7,l,f,q6,l,f,A,f,B,v]
 rfl
theorem kG(ns:List Int)(h:ns.length<=63):Nu [.val (.lst (ns.map D.int))]=some (.val (.bl true)):=j0 (λns L d e=>by
 have c:(L.map LD).length<=Av:=by rw[Bb];exact BO d.n4 (by decide)
 have b:=Rl (C:=QY) (λz=>rfl) (ZS L) (Xo L)
 rw[Lq]at b
 have f:FC 1 [] (λg=>(BN g 1).bind ZG) (Zm 0) QY [SC ns,.val (.lst (L.map LD)),.no,.no,.no,.no,.no,.no]=some (ZS L):=by
  simp only[FC,AY,BH,CW,BN,A7,AX,AL,ZG,Zl,if_pos c,ZO,Cy,Cn,Cq,Ct,b]
 unfold Nr
 rw[f]
 simp only[MG,A7,AX,Ce,B5]
 exact hQ λa=>kF ns d e a) ns
def BR(i:Nat):As:=PySem.Challenge.pw_cubebook_k56_refused_books.main.body.getD i (.Pass ⟨0,0,0,0⟩)
abbrev XA:As:=BR 5
abbrev Rq:As:=BR 6
abbrev XC:As:=BR 7
abbrev XD:As:=BR 9
abbrev Rr:As:=BR 10
abbrev XF:As:=BR 11
abbrev Rs:As:=BR 15
abbrev Rt:As:=BR 16
abbrev XG:As:=BR 17
abbrev XH:As:=BR 18
abbrev XI:As:=BR 19
abbrev Ru:As:=BR 20
abbrev XJ:As:=BR 32
abbrev Rw:As:=BR 33
abbrev Rx:As:=BR 34
abbrev XM:As:=BR 36
abbrev XN:As:=BR 37
abbrev Ry:As:=BR 39
abbrev Rz:As:=BR 40
abbrev ND:As:=BR 41
abbrev RB:As:=BR 42
abbrev RC:As:=BR 44
abbrev RD:As:=BR 47
abbrev RE:As:=IT (BR 48) 0
abbrev RF:As:=IT (BR 48) 1
abbrev XO:As:=IT (BR 48) 2
abbrev XP:As:=IT (BR 48) 3
abbrev XQ:As:=IT (BR 48) 9
abbrev XR:As:=IT (BR 48) 12
abbrev XU:As:=BR 50
abbrev XV:As:=BR 51
abbrev RG:As:=BR 52
abbrev XW:As:=BR 53
abbrev NE:As:=BR 54
abbrev RH:As:=BR 61
abbrev XX:As:=BR 62
abbrev XY:As:=BR 63
abbrev J4:As:=BR 64
abbrev NF:List Af:=["ladder","level","other"]
abbrev NG:List Af:=["ladder","thing"]
abbrev NH:List Af:=["ladders","thing"]
abbrev NI:List Af:=["ladders","grain","to"]
abbrev NJ:List Af:=["ladders","rows","grain"]
abbrev NK:List Af:=["ladders","rows","grains"]
abbrev J5:List Af:=["self","ladders"]
abbrev NL:List Af:=["_law_script","_law_k"]
abbrev NM:List Af:=["_law_cell_here","_law_many"]
abbrev NN:List Af:=["_law_cell_here","_law_way","_law_k"]
abbrev NO:List Af:=["_law_cell_here"]
abbrev NP:List Af:=["_law_ladder_here","_law_cell_here"]
abbrev NQ:List Af:=["_law_ladders_here","_law_cell_here"]
set_option genInjectivity false in
structure AD where
 a0:Ad
 d0:A5
 a1:Ad
 d1:A5
 a2:Ad
 d2:A5
 a3:Ad
 d3:A5
 a4:Ad
 d4:A5
 a5:Ad
 d5:A5
 a6:Ad
 d6:A5
 a7:Ad
 d7:A5
 a8:Ad
 d8:A5
 a9:Ad
 d9:A5
 a10:Ad
 d10:A5
 a11:Ad
 d11:A5
 a12:Ad
 d12:A5
 a13:Ad
 d13:A5
 a14:Ad
 d14:A5
 a15:Ad
 d15:A5
 a16:Ad
 d16:A5
 a17:Ad
 d17:A5
 a18:Ad
 d18:A5
 a19:Ad
 d19:A5
 a20:Ad
 d20:A5
 a21:Ad
 d21:A5
 a22:Ad
 d22:A5
 a23:Ad
 d23:A5
 a24:Ad
 d24:A5
 a25:Ad
 d25:A5
 a26:Ad
 d26:A5
 a27:Ad
 d27:A5
 a28:Ad
 d28:A5
 a29:Ad
 d29:A5
 a30:Ad
 d30:A5
 a31:Ad
 d31:A5
 a32:Ad
 d32:A5
 a33:Ad
 d33:A5
 a34:Ad
 d34:A5
 a35:Ad
 d35:A5
 a36:Ad
 d36:A5
 a37:Ad
 d37:A5
 a_CubeError:Ad
 a_NoGrain:Ad
 a_NoLadder:Ad
 a_NoPick:Ad
 a_NoRow:Ad
 a_NoSuch:Ad
 a_NoText:Ad
 a_NoValue:Ad
 a_TooMuch:Ad
 aB:Ad
structure Tx(K:Ap)(mg:Af->Option Aa)(d:AD):Prop where
 cb:CI K mg d.aB
 na_axes:Br K d.aB "axes"
 na_standing:Br K d.aB "standing"
 na_tables:Br K d.aB "tables"
 q0:DI K mg "is_whole" XA ["thing"] d.a0 d.d0
 q1:DI K mg "is_word" Rq ["thing"] d.a1 d.d1
 q2:DI K mg "is_value" XC ["thing"] d.a2 d.d2
 q3:DI K mg "value_rank" XD ["thing"] d.a3 d.d3
 q4:DI K mg "key_rank" Rr ["key"] d.a4 d.d4
 q5:DI K mg "in_order" XF ["keys"] d.a5 d.d5
 q6:DI K mg "is_line" Rs ["thing"] d.a6 d.d6
 q7:DI K mg "go_together" Rt ["lines"] d.a7 d.d7
 q8:DI K mg "is_ladder" XG ["thing"] d.a8 d.d8
 q9:DI K mg "whole_of" XH ["ladder"] d.a9 d.d9
 q10:DI K mg "line_at" XI ["line","level"] d.a10 d.d10
 q11:DI K mg "lifts" Ru NF d.a11 d.d11
 q12:DI K mg "is_level" XJ NG d.a12 d.d12
 q13:DI K mg "is_grain" Rw NH d.a13 d.d13
 q14:DI K mg "finest" Rx ["ladders"] d.a14 d.d14
 q15:DI K mg "cell_of" XM ["amounts"] d.a15 d.d15
 q16:DI K mg "merged" XN ["one","other"] d.a16 d.d16
 q17:DI K mg "ways_up" Ry NI d.a17 d.d17
 q18:DI K mg "goes_along" Rz ["ways","key"] d.a18 d.d18
 q19:DI K mg "merged_along" ND ["ways","table"] d.a19 d.d19
 q20:DI K mg "table_of" RB NJ d.a20 d.d20
 q21:DI K mg "tables_at" RC NK d.a21 d.d21
 q22:DI K mg "are_ladders" RD ["thing"] d.a22 d.d22
 q23:MI K d.aB "__init__" "Book.__init__" RE J5 d.a23 d.d23
 q24:MI K d.aB "ladders" "Book.ladders" RF ["self"] d.a24 d.d24
 q25:MI K d.aB "rows" "Book.rows" XO ["self"] d.a25 d.d25
 q26:MI K d.aB "kept" "Book.kept" XP ["self"] d.a26 d.d26
 q27:MI K d.aB "table" "Book.table" XQ ["self","grain"] d.a27 d.d27
 q28:MI K d.aB "is_kept" "Book.is_kept" XR ["self","thing"] d.a28 d.d28
 q29:DI K mg "_law_cell_at" XU NL d.a29 d.d29
 q30:DI K mg "_law_stream" XV NM d.a30 d.d30
 q31:DI K mg "_law_named" RG NN d.a31 d.d31
 q32:DI K mg "_law_ladder" XW NO d.a32 d.d32
 q33:DI K mg "_law_ladders" NE ["_law_script"] d.a33 d.d33
 q34:DI K mg "_law_spoiled_ladder" RH NP d.a34 d.d34
 q35:DI K mg "_law_spoiled" XX NQ d.a35 d.d35
 q36:DI K mg "_law_outcome" XY ["_law_thing"] d.a36 d.d36
 q37:DI K mg "law" J4 ["_law_script"] d.a37 d.d37
 n0:mg "ValueError"=none
 n1:mg "all"=none
 n2:mg "bool"=none
 n3:mg "dict"=none
 n4:mg "enumerate"=none
 n5:mg "int"=none
 n6:mg "isinstance"=none
 n7:mg "len"=none
 n8:mg "list"=none
 n9:mg "max"=none
 n10:mg "min"=none
 n11:mg "range"=none
 n12:mg "sorted"=none
 n13:mg "str"=none
 n14:mg "sum"=none
 n15:mg "tuple"=none
 n16:mg "zip"=none
 g_FIGURES:∃u,mg "FIGURES"=some u/\RelV (.str "0123456789") u
 g_LETTERS:∃u,mg "LETTERS"=some u/\RelV (.str "abcdefghijklmnopqrstuvwxyz") u
 g_LONGEST_LINE:∃u,mg "LONGEST_LINE"=some u/\RelV (.int 4) u
 g_LONGEST_WORD:∃u,mg "LONGEST_WORD"=some u/\RelV (.int 12) u
 g_MOST_LADDERS:∃u,mg "MOST_LADDERS"=some u/\RelV (.int 4) u
 g_MOST_LINES:∃u,mg "MOST_LINES"=some u/\RelV (.int 40) u
 m_CubeError:mg "CubeError"=some (.ref d.a_CubeError)
 q_CubeError:C6 K BD "CubeError"=some (some (.ref d.a_CubeError))
 m_NoGrain:mg "NoGrain"=some (.ref d.a_NoGrain)
 q_NoGrain:C6 K BD "NoGrain"=some (some (.ref d.a_NoGrain))
 m_NoLadder:mg "NoLadder"=some (.ref d.a_NoLadder)
 q_NoLadder:C6 K BD "NoLadder"=some (some (.ref d.a_NoLadder))
 m_NoPick:mg "NoPick"=some (.ref d.a_NoPick)
 q_NoPick:C6 K BD "NoPick"=some (some (.ref d.a_NoPick))
 m_NoRow:mg "NoRow"=some (.ref d.a_NoRow)
 q_NoRow:C6 K BD "NoRow"=some (some (.ref d.a_NoRow))
 m_NoSuch:mg "NoSuch"=some (.ref d.a_NoSuch)
 q_NoSuch:C6 K BD "NoSuch"=some (some (.ref d.a_NoSuch))
 m_NoText:mg "NoText"=some (.ref d.a_NoText)
 q_NoText:C6 K BD "NoText"=some (some (.ref d.a_NoText))
 m_NoValue:mg "NoValue"=some (.ref d.a_NoValue)
 q_NoValue:C6 K BD "NoValue"=some (some (.ref d.a_NoValue))
 m_TooMuch:mg "TooMuch"=some (.ref d.a_TooMuch)
 q_TooMuch:C6 K BD "TooMuch"=some (some (.ref d.a_TooMuch))
 k_NoLadder:Pw K d.a_NoLadder
 f_NoLadder:Dv K d.a_NoLadder
 p_NoLadder_NoGrain:DJ K (.ref d.a_NoLadder) (.ref d.a_NoGrain)=some (ZY "NoGrain" "NoLadder")
 p_NoLadder_NoLadder:DJ K (.ref d.a_NoLadder) (.ref d.a_NoLadder)=some (ZY "NoLadder" "NoLadder")
 p_NoLadder_NoPick:DJ K (.ref d.a_NoLadder) (.ref d.a_NoPick)=some (ZY "NoPick" "NoLadder")
 p_NoLadder_NoRow:DJ K (.ref d.a_NoLadder) (.ref d.a_NoRow)=some (ZY "NoRow" "NoLadder")
 p_NoLadder_NoSuch:DJ K (.ref d.a_NoLadder) (.ref d.a_NoSuch)=some (ZY "NoSuch" "NoLadder")
 p_NoLadder_NoText:DJ K (.ref d.a_NoLadder) (.ref d.a_NoText)=some (ZY "NoText" "NoLadder")
 p_NoLadder_NoValue:DJ K (.ref d.a_NoLadder) (.ref d.a_NoValue)=some (ZY "NoValue" "NoLadder")
 p_NoLadder_TooMuch:DJ K (.ref d.a_NoLadder) (.ref d.a_TooMuch)=some (ZY "TooMuch" "NoLadder")
 p_NoLadder_ValueError:DJ K (.ref d.a_NoLadder) (.type "ValueError")=some (ZY "ValueError" "NoLadder")
 x_NoLadder_CubeError:PySem.W.exmOne K (.ref d.a_NoLadder) (.ref d.a_CubeError)=some true
section
variable{P:AS}{w:Ai}{K:Ap}{mg:Af->Option Aa}{base:Al}{d:AD}
theorem Gb{c:Af}(h:CS.contains c=true):c="NoLadder":=by
 simpa[CS]using h
theorem kH(T:Tx K mg d):∀c D,CS.contains c=true->C6 K BD c=some (some (.ref D))->PySem.W.exmOne K (.ref D) (.ref d.a_CubeError)=some true:=by
 intro c D h e
 rcases Gb h with rfl
 ·have z:=e.symm.trans T.q_NoLadder;cases z;exact T.x_NoLadder_CubeError
theorem kI(T:Tx K mg d):∀c D,CS.contains c=true->C6 K BD c=some (some (.ref D))->Dv K D/\DJ K (.ref D) (.ref d.a_NoGrain)=some (ZY "NoGrain" c):=by
 intro c D h e
 rcases Gb h with rfl
 ·have z:=e.symm.trans T.q_NoLadder;cases z;exact⟨T.f_NoLadder,T.p_NoLadder_NoGrain⟩
theorem kJ(T:Tx K mg d):∀c D,CS.contains c=true->C6 K BD c=some (some (.ref D))->Dv K D/\DJ K (.ref D) (.ref d.a_NoLadder)=some (ZY "NoLadder" c):=by
 intro c D h e
 rcases Gb h with rfl
 ·have z:=e.symm.trans T.q_NoLadder;cases z;exact⟨T.f_NoLadder,T.p_NoLadder_NoLadder⟩
theorem kK(T:Tx K mg d):∀c D,CS.contains c=true->C6 K BD c=some (some (.ref D))->Dv K D/\DJ K (.ref D) (.ref d.a_NoPick)=some (ZY "NoPick" c):=by
 intro c D h e
 rcases Gb h with rfl
 ·have z:=e.symm.trans T.q_NoLadder;cases z;exact⟨T.f_NoLadder,T.p_NoLadder_NoPick⟩
theorem kL(T:Tx K mg d):∀c D,CS.contains c=true->C6 K BD c=some (some (.ref D))->Dv K D/\DJ K (.ref D) (.ref d.a_NoRow)=some (ZY "NoRow" c):=by
 intro c D h e
 rcases Gb h with rfl
 ·have z:=e.symm.trans T.q_NoLadder;cases z;exact⟨T.f_NoLadder,T.p_NoLadder_NoRow⟩
theorem kM(T:Tx K mg d):∀c D,CS.contains c=true->C6 K BD c=some (some (.ref D))->Dv K D/\DJ K (.ref D) (.ref d.a_NoSuch)=some (ZY "NoSuch" c):=by
 intro c D h e
 rcases Gb h with rfl
 ·have z:=e.symm.trans T.q_NoLadder;cases z;exact⟨T.f_NoLadder,T.p_NoLadder_NoSuch⟩
theorem kN(T:Tx K mg d):∀c D,CS.contains c=true->C6 K BD c=some (some (.ref D))->Dv K D/\DJ K (.ref D) (.ref d.a_NoText)=some (ZY "NoText" c):=by
 intro c D h e
 rcases Gb h with rfl
 ·have z:=e.symm.trans T.q_NoLadder;cases z;exact⟨T.f_NoLadder,T.p_NoLadder_NoText⟩
theorem kO(T:Tx K mg d):∀c D,CS.contains c=true->C6 K BD c=some (some (.ref D))->Dv K D/\DJ K (.ref D) (.ref d.a_NoValue)=some (ZY "NoValue" c):=by
 intro c D h e
 rcases Gb h with rfl
 ·have z:=e.symm.trans T.q_NoLadder;cases z;exact⟨T.f_NoLadder,T.p_NoLadder_NoValue⟩
theorem kP(T:Tx K mg d):∀c D,CS.contains c=true->C6 K BD c=some (some (.ref D))->Dv K D/\DJ K (.ref D) (.ref d.a_TooMuch)=some (ZY "TooMuch" c):=by
 intro c D h e
 rcases Gb h with rfl
 ·have z:=e.symm.trans T.q_NoLadder;cases z;exact⟨T.f_NoLadder,T.p_NoLadder_TooMuch⟩
theorem kQ(T:Tx K mg d):∀c D,CS.contains c=true->C6 K BD c=some (some (.ref D))->Dv K D/\DJ K (.ref D) (.type "ValueError")=some (ZY "ValueError" c):=by
 intro c D h e
 rcases Gb h with rfl
 ·have z:=e.symm.trans T.q_NoLadder;cases z;exact⟨T.f_NoLadder,T.p_NoLadder_ValueError⟩
abbrev N0:List Af:=["thing"]
theorem S0:Zx N0 ["thing"] (Zi XA):=BP
theorem RI(T:Tx K mg d):Aw P w K mg base A6 1 d.a0 d.d0 ["thing"] (Bc K Iw):=
 ZU (N:=N0) (g:=MK) T.q0 S0 (λ_ _ _ _ _ _ _ _ a=>(Zc (Zp (Hb (Zu Ib Ic (by rfl) T.n6 (by rfl) (Za (Zy 0) (Za (Zh (Ie (n:="int") (by rfl) T.n5 (by rfl))) Zd))) (Ha (cU (Zu Ib Ic (by rfl) T.n6 (by rfl) (Za (Zy 0) (Za (Zh (Ie (n:="bool") (by rfl) T.n2 (by rfl))) Zd)))))))
   Zf))
abbrev N1:List Af:=["thing"]
theorem S1:Zx N1 ["thing"] (Zi Rq):=BP
theorem kR(T:Tx K mg d):Aw P w K mg base A6 1 d.a1 d.d1 ["thing"] (Bc K GQ):=
 ZU (N:=N1) (g:=Hs) T.q1 S1 (λ_ _ _ _ _ _ _ _ a=>(Zc (ZI (EB (Ee (Au (Zu Ib Ic (by rfl) T.n6 (by rfl) (Za (Zy 0) (Za (Zh (Ie (n:="str") (by rfl) T.n13 (by rfl))) Zd))))))
   (Zc (Zp DV)
   Zf)
   Zf)
   (Zc (ZI (GD (Gs (GC a.units (Au (Zu Z6 Dh (by rfl) T.n7 (by rfl) (Za (Zy 0) Zd))) Zn) (G9 (Jk a.units (Au (Zu Z6 Dh (by rfl) T.n7 (by rfl) (Za (Zy 0) Zd))) (Au (Ig (d:=.int (12)) (by rfl) T.g_LONGEST_WORD (λ_ _=>by simp only[Aq])))))))
   (Zc (Zp DV)
   Zf)
   Zf)
   (Zc (Zp (Hb (O8 a.units (Au (Zr (Zk 0) Zn)) (Au (Ig (d:=.str "abcdefghijklmnopqrstuvwxyz") (by rfl) T.g_LETTERS (λ_ _=>by simp only[Aq])))) (Ha (Zu (IU rfl) Jh (by rfl) T.n1 (by rfl) (Za (Zh (ZV (Z8 ["sign"] [] [] (CP ["sign"] [] (Zi Rq)) rfl rfl  (Z9 (CJ 0)) (λ_ _ _ _ _ _ _=>(Zo 0 (Cm ["sign"]))) (λ_ _ _ _ _ _ _=>ZX) (λ_ _ _ _ _ _ _=>(Tf (O8 a.units (Zk 0) (Au (Ig (d:=.str "abcdefghijklmnopqrstuvwxyz") (by rfl) T.g_LETTERS (λ_ _=>by simp only[Aq])))) (Ha (O8 a.units (Zk 0) (Au (Ig (d:=.str "0123456789") (by rfl) T.g_FIGURES (λ_ _=>by simp only[Aq]))))))) (by decide)))) Zd)))))
   Zf))))
abbrev N9:List Af:=["ladder"]
theorem S9:Zx N9 ["ladder"] (Zi XH):=BP
theorem kS(T:Tx K mg d):Aw P w K mg base A6 1 d.a9 d.d9 ["ladder"] (Bc K MM):=
 ZU (N:=N9) (g:=PZ) T.q9 S9 (λ_ _ _ _ _ _ _ _ a=>(Zc (Zp (Zu Z6 Dh (by rfl) T.n7 (by rfl) (Za (Zh (Zr (Zk 0) Zn)) Zd)))
   Zf))
abbrev XZ:List Af:=["line","level"]
theorem kT:Zx XZ ["line","level"] (Zi XI):=BP
theorem X0(T:Tx K mg d):Aw P w K mg base A6 1 d.a10 d.d10 ["line","level"] (Bc K K7):=
 ZU (N:=XZ) (g:=P0) T.q10 kT (λ_ _ _ _ _ _ _ _ a=>(Zc (Zp (Tg (GC a.units (Zk 1) (Au (Zu Z6 Dh (by rfl) T.n7 (by rfl) (Za (Zy 0) Zd)))) (Zr (Zk 0) (Zk 1)) IZ))
   Zf))
abbrev X1:List Af:=["ladders"]
theorem kU:Zx X1 ["ladders"] (Zi Rx):=BP
theorem X2(T:Tx K mg d):Aw P w K mg base A6 1 d.a14 d.d14 ["ladders"] (Bc K K8):=
 ZU (N:=X1) (g:=P1) T.q14 kU (λ_ _ _ _ _ _ _ _ a=>(Zc (Zp (Gu HN H9 (by rfl) T.n15 (by rfl) (Za (Zh (ZV (Z8 ["ladder"] [] [] (CP ["ladder"] [] (Zi Rx)) rfl rfl  (Z9 (CJ 0)) (λ_ _ _ _ _ _ _=>(Zo 0 (Cm ["ladder"]))) (λ_ _ _ _ _ _ _=>ZX) (λ_ _ _ _ _ _ _=>ZC) (by decide)))) Zd)))
   Zf))
abbrev X3:List Af:=["amounts"]
theorem kW:Zx X3 ["amounts"] (Zi XM):=BP
theorem kX(T:Tx K mg d):Aw P w K mg base A6 1 d.a15 d.d15 ["amounts"] (Bc K VF):=
 ZU (N:=X3) (g:=VD) T.q15 kW (λ_ _ _ _ _ _ _ _ a=>(Zc (Zp (DX (Za (Zh (Zu Z6 Dh (by rfl) T.n7 (by rfl) (Za (Zy 0) Zd))) (Za (Zh (Zu (dU rfl) dZ (by rfl) T.n14 (by rfl) (Za (Zy 0) Zd))) (Za (Zh (Zu (dV rfl) ed (by rfl) T.n10 (by rfl) (Za (Zy 0) Zd))) (Za (Zh (Zu (dW rfl) ee (by rfl) T.n9 (by rfl) (Za (Zy 0) Zd))) Zd))))))
   Zf))
abbrev X4:List Af:=["one","other"]
theorem kY:Zx X4 ["one","other"] (Zi XN):=BP
theorem kZ(T:Tx K mg d):Aw P w K mg base A6 1 d.a16 d.d16 ["one","other"] (Bc K VH):=
 ZU (N:=X4) (g:=VG) T.q16 kY (λ_ _ _ _ _ _ _ _ a=>(Zc (Zp (DX (Za (Zh (Zv (Au (Zr (Zk 0) Zn)) (Au (Zr (Zk 1) Zn)))) (Za (Zh (Zv (Au (Zr (Zk 0) Zn)) (Au (Zr (Zk 1) Zn)))) (Za (Zh (Zu (bg rfl) dS (by rfl) T.n10 (by rfl) (Za (Zh (Zr (Zk 0) Zn)) (Za (Zh (Zr (Zk 1) Zn)) Zd)))) (Za (Zh (Zu (bf rfl) dR (by rfl) T.n9 (by rfl) (Za (Zh (Zr (Zk 0) Zn)) (Za (Zh (Zr (Zk 1) Zn)) Zd)))) Zd))))))
   Zf))
abbrev X5:List Af:=["ways","key"]
theorem k6:Zx X5 ["ways","key"] (Zi Rz):=BP
theorem k7(T:Tx K mg d):Aw P w K mg base A6 1 d.a18 d.d18 ["ways","key"] (Bc K VJ):=
 ZU (N:=X5) (g:=VI) T.q18 k6 (λ_ _ _ _ _ _ _ _ a=>(Zc (Zp (Zu (IU rfl) Jh (by rfl) T.n1 (by rfl) (Za (Zh (ZV (Z8 ["way","value"] [] [] (CP ["way","value"] [] (Zi Rz)) rfl rfl  (PJ (by rfl) T.n16 (CJ 0) (CJ 1)) (λ_ _ _ _ _ _ _=>(Gx (n:=2) rfl (ZR (Zo 0 (Cm ["way","value"])) (ZR (Zo 1 (Cm ["way","value"])) Gw)))) (λ_ _ _ _ _ _ _=>ZX) (λ_ _ _ _ _ _ _=>(UJ a.units (Zk 1) (Zk 0))) (by decide)))) Zd)))
   Zf))
abbrev X6:List Af:=["self"]
theorem k8:Zx X6 ["self"] (Zi RF):=BP
theorem X7(T:Tx K mg d):Aw P w K mg base A6 1 d.a24 d.d24 ["self"] (Bc K K9):=
 K5 (N:=X6) (g:=P2) T.q24 k8 (λ_ _ _ _ _ _ _ _ a=>(Zc (He (Z8 ["ladder"] [] [] (CP ["ladder"] [] (Zi RF)) rfl rfl  (Z9 (OP (Hq T.cb.cof T.cb.cl T.na_axes (Z5 0)))) (λ_ _ _ _ _ _ _=>(Zo 0 (Cm ["ladder"]))) (λ_ _ _ _ _ _ _=>ZX) (λ_ _ _ _ _ _ _=>(ZV (Hd HM HZ (by rfl) T.n8 (by rfl) (Za (Zy 0) Zd)))) (by decide)))
   Zf))
abbrev X8:List Af:=["self"]
theorem k9:Zx X8 ["self"] (Zi XO):=BP
theorem la(T:Tx K mg d):Aw P w K mg base A6 1 d.a25 d.d25 ["self"] (Bc K MN):=
 K5 (N:=X8) (g:=P4) T.q25 k9 (λ_ _ _ _ _ _ _ _ a=>(Zc (He (Hd HM HZ (by rfl) T.n8 (by rfl) (Za (Zh (Hq T.cb.cof T.cb.cl T.na_standing (Z5 0))) Zd)))
   Zf))
abbrev X9:List Af:=["self"]
theorem lb:Zx X9 ["self"] (Zi XP):=BP
theorem lc(T:Tx K mg d):Aw P w K mg base A6 1 d.a26 d.d26 ["self"] (Bc K MO):=
 K5 (N:=X9) (g:=P5) T.q26 lb (λ_ _ _ _ _ _ _ _ a=>(Zc (He (h7 rfl (by rfl) T.n12 (by rfl) (Au (Hq T.cb.cof T.cb.cl T.na_tables (Z5 0)))))
   Zf))
abbrev Ya:List Af:=NL
theorem lf:Zx Ya NL (Zi XU):=BP
theorem Lu(T:Tx K mg d):Aw P w K mg base A6 1 d.a29 d.d29 NL (Bc K F6):=
 ZU (N:=Ya) (g:=MP) T.q29 lf (λ_ _ _ _ _ _ _ _ a=>(Zc (ZI (GC a.units (Zk 1) (Au (Zu Z6 Dh (by rfl) T.n7 (by rfl) (Za (Zy 0) Zd))))
   (Zc (Zp (Zr (Zk 0) (Zk 1)))
   Zf)
   Zf)
   (Zc (Zp ZC)
   Zf)))
abbrev Yb:List Af:=NM.append ["_law_number","_law_found","_law_k"]
theorem Lv:Zx Yb NM (Zi XV):=BP
theorem lg(T:Tx K mg d):Aw P w K mg base A6 1 d.a30 d.d30 NM (Bc K MR):=
 ZU (N:=Yb) (g:=P6) T.q30 Lv (λ_ _ _ _ _ _ _ _ a=>(Zc (ZH 2 Lv.nd (Zv (Au (ZT (Zk 0) Zn)) Zn))
   (Zc (Ko (i:=3) Lv.nd rfl (Or.inl rfl) (ZF Zd))
   (Zc (Hh IE rfl (HU (by rfl) T.n11 (Za (Zh (Zv (Zk 1) Zn)) Zd)) (Zo 4 Lv.nd)
   (Zc (ZH 2 Lv.nd (ZT (Au (Zv (Au (Zv (Au (Zv (Au (FU (Zk 2) Zn)) (Au (FV (Zk 2) Zn)))) (Au (FU Zn (Zk 4))))) Zn)) Zn))
   (Zc (Kp (i:=3) rfl (by first|exact Or.inl rfl|exact Or.inr (Or.inl rfl)) (FV (Zk 2) Zn))
   Zf)))
   (Zc (Zp (FX (Zk 3) (Ft Zn) GA))
   Zf)))))
abbrev Yc:List Af:=NN.append ["_law_signs","_law_size","_law_at","_law_word"]
theorem Lw:Zx Yc NN (Zi RG):=BP
theorem lh(T:Tx K mg d):Aw P w K mg base A6 1 d.a31 d.d31 NN (Bc K GR):=
 ZU (N:=Yc) (g:=MT) T.q31 Lw (λ_ _ _ _ _ _ _ _ a=>(Zc (ZI (F3 a.units (Zk 1) Zn)
   (Zc (Zp (Zv (Au (Ks (Au (ZT (Zk 0) (Au (Jf Zn Zn)))) (Au (FU Zn (Au (Jf Zn Zn)))))) (Zk 2)))
   Zf)
   Zf)
   (Zc (ZH 3 Lw.nd Kj)
   (Zc (ZH 4 Lw.nd (Zv Zn (Au (ZT (Zk 0) Zn))))
   (Zc (ZH 5 Lw.nd (ZT (Au (FV (Zk 0) Zn)) (Zk 4)))
   (Zc (dy (i:=6) ["_law_j"] ["_law_signs","_law_cell_here"] [3,0] (CP ["_law_j"] ["_law_signs","_law_cell_here"] (Zi RG)) rfl rfl Lw.nd rfl rfl (HU (by rfl) T.n11 (Za (Zh (Z5 4)) Zd)) (λ_ _ _ _ _ _ _=>(Zo 0 (Cm ["_law_j","_law_signs","_law_cell_here"]))) (λ_ _ _ _ _ _ _=>ZX) (λ_ _ _ _ _ _ _=>(Zr (Zk 1) (Au (ZT (Au (Zv (Au (FV (Zk 2) (Au (Zv (Zk 0) Zn)))) (Au (FU Zn (Zk 0))))) (Au (Zr (Au (ZV (ZF (Za (Zh ZC) (Za (Zh ZC) Zd))))) (Au (Gu Se T2 (by rfl) T.n5 (by rfl) (Za (Zh (F2 a.units (Zk 0) Zn)) Zd))))))))) (by decide))
   (Zc (en (i:=6) (Zk 5) (Zr (Zk 3) (Au (ZT (Au (Zv (Au (Zv (Au (FV (Zk 0) (Au (Zv (Zk 5) Zn)))) (Au (FU Zn (Zk 5))))) (Au (FU Zn (Zk 2))))) (Au (Zr (Au (ZV (ZF (Za (Zh ZC) (Za (Zh ZC) Zd))))) (Au (Gu Se T2 (by rfl) T.n5 (by rfl) (Za (Zh (F2 a.units (Zk 5) Zn)) Zd)))))))))
   (Zc (Zp (eo PySem.F.plainAttrs_str PySem.F.slot_str_join PySem.F.type_str_join cD er (Au Kj) (Za (Zy 6) Zd)))
   Zf))))))))
abbrev Yd:List Af:=NP.append ["_law_way","_law_line","_law_new","_law_many"]
theorem Lx:Zx Yd NP (Zi RH):=BP
theorem li(T:Tx K mg d):Aw P w K mg base A6 1 d.a34 d.d34 NP (Bc K JU):=
 ZU (N:=Yd) (g:=Qg) T.q34 Lx (λ_ _ _ _ _ _ _ _ a=>(Zc (ZH 2 Lx.nd (ZT (Zk 1) Zn))
   (Zc (ZH 3 Lx.nd (Zr (Zk 0) (Au (ZT (Au (FV (Zk 1) Zn)) (Au (Zu Z6 Dh (by rfl) T.n7 (by rfl) (Za (Zy 0) Zd)))))))
   (Zc (ZH 4 Lx.nd (Zv (Au (Jf Zn Zn)) (Au (ZT (Au (FV (Zk 1) Zn)) Zn))))
   (Zc (ZI (GC a.units (Zk 2) Zn)
   (Zc (Zp (Zr (Au (ZV (ZF (Za (Zh (Gu HN H9 (by rfl) T.n15 (by rfl) (Za (Zy 0) Zd))) (Za (Zh (ZV (ZF Zd))) (Za (Zh IZ) (Za (Zh (Z5 3)) Zd))))))) (Zk 2)))
   Zf)
   Zf)
   (Zc (ZI (F3 a.units (Zk 2) Zn)
   (Zc (Zp (Zv (Zk 0) (Au (ZV (ZF (Za (Zh (Z5 3)) Zd))))))
   Zf)
   Zf)
   (Zc (ZI (F3 a.units (Zk 2) Zn)
   (Zc (Zp (Zv (Zk 0) (Au (ZV (ZF (Za (Zh (Zv (Au (ZV (ZF (Za (Zh (Z5 4)) Zd)))) (Au (ZV (Hd HM HZ (by rfl) T.n8 (by rfl) (Za (Zh (FX (Zk 3) (Ft Zn) GA)) Zd)))))) Zd))))))
   Zf)
   Zf)
   (Zc (ZI (F3 a.units (Zk 2) Zn)
   (Zc (Zp (Zv (Zk 0) (Au (ZV (ZF (Za (Zh (Zv (Au (DX (Za (Zh (Z5 4)) Zd))) (Zk 3))) Zd))))))
   Zf)
   Zf)
   (Zc (ZI (GC a.units (Zk 2) Zn)
   (Zc (Zp (Zv (Zk 0) (Au (ZV (ZF (Za (Zh (Zv (Au (DX (Za (Zh (Zr (Au (ZV (ZF (Za (Zh DV) (Za (Zh IZ) (Za (Zh Kj) Zd)))))) (Au (Ks (Zk 2) Zn)))) Zd))) (Au (FX (Zk 3) (Ft Zn) GA)))) Zd))))))
   Zf)
   Zf)
   (Zc (ZI (GD (cT (F3 a.units (Zk 2) Zn) (cP (Jk a.units (Au (Zu Z6 Dh (by rfl) T.n7 (by rfl) (Za (Zy 3) Zd))) Zn))))
   (Zc (Zp (Zv (Zk 0) (Au (ZV (ZF (Za (Zh (Zv (Au (Zv (Au (DX (Za (Zh (Z5 4)) Zd))) (Au (FX (Zk 3) (Ft Zn) (Ft (Au (Tz Zn))))))) (Au (DX (Za (Zh (Jf Zn Zn)) Zd))))) Zd))))))
   Zf)
   Zf)
   (Zc (ZH 5 Lx.nd (Ks Zn (Au (Zu Z6 Dh (by rfl) T.n7 (by rfl) (Za (Zy 0) Zd)))))
   (Zc (Zp (Zv (Zk 0) (Au (ZV (Z8 ["_law_k"] ["_law_line"] [3] (CP ["_law_k"] ["_law_line"] (Zi RH)) rfl rfl  (HU (by rfl) T.n11 (Za (Zh (Z5 5)) Zd)) (λ_ _ _ _ _ _ _=>(Zo 0 (Cm ["_law_k","_law_line"]))) (λ_ _ _ _ _ _ _=>ZX) (λ_ _ _ _ _ _ _=>(Zv (Au (DX (Za (Zh (Zv (Au (Jf Zn Zn)) (Zk 0))) Zd))) (Au (FX (Zk 1) (Ft Zn) GA)))) (by decide))))))
   Zf))))))))))))
abbrev N2:List Af:=["thing"]
theorem S2:Zx N2 ["thing"] (Zi XC):=BP
theorem lj(T:Tx K mg d):Aw P w K mg base A6 2 d.a2 d.d2 ["thing"] (Bc K MU):=
 ZU (N:=N2) (g:=Qh) T.q2 S2 (λ_ _ _ _ _ _ _ _ a=>(Zc (Zp (Tf (Zt (RI T) a T.q0 (Za (Zy 0) Zd)) (Ha (Zt (kR T) a T.q1 (Za (Zy 0) Zd)))))
   Zf))
abbrev N3:List Af:=["thing"]
theorem S3:Zx N3 ["thing"] (Zi XD):=BP
theorem ll(T:Tx K mg d):Aw P w K mg base A6 2 d.a3 d.d3 ["thing"] (Bc K Wh):=
 ZU (N:=N3) (g:=Wg) T.q3 S3 (λ_ _ _ _ _ _ _ _ a=>(Zc (ZI (cV (Zk 0))
   (Zc (Zp (DX (Za (Zh ZC) (Za (Zh ZC) Zd))))
   Zf)
   Zf)
   (Zc (ZI (Ee (Au (Zt (RI T) a T.q0 (Za (Zy 0) Zd))))
   (Zc (Zp (DX (Za (Zh ZC) (Za (Zh (Z5 0)) Zd))))
   Zf)
   Zf)
   (Zc (Zp (DX (Za (Zh ZC) (Za (Zh (Z5 0)) Zd))))
   Zf))))
abbrev Ye:List Af:=NF
theorem lm:Zx Ye NF (Zi Ru):=BP
theorem lp(T:Tx K mg d):Aw P w K mg base A6 2 d.a11 d.d11 NF (Bc K MV):=
 ZU (N:=Ye) (g:=Qj) T.q11 lm (λ_ _ _ _ _ _ _ _ a=>(Zc (Tk (U4 rfl a.units (by rfl) T.n3 (Au (ZV (Z8 ["line"] ["level","other"] [1,2] (CP ["line"] ["level","other"] (Zi Ru)) rfl rfl  (Z9 (CJ 0)) (λ_ _ _ _ _ _ _=>(Zo 0 (Cm ["line","level","other"]))) (λ_ _ _ _ _ _ _=>ZX) (λ_ _ _ _ _ _ _=>(DX (Za (Zh (Zt (X0 T) a T.q10 (Za (Zy 0) (Za (Zy 1) Zd)))) (Za (Zh (Zt (X0 T) a T.q10 (Za (Zy 0) (Za (Zy 2) Zd)))) Zd)))) (by decide))))))
   Zf))
abbrev Yf:List Af:=NG
theorem lq:Zx Yf NG (Zi XJ):=BP
theorem lr(T:Tx K mg d):Aw P w K mg base A6 2 d.a12 d.d12 NG (Bc K MW):=
 ZU (N:=Yf) (g:=Qk) T.q12 lq (λ_ _ _ _ _ _ _ _ a=>(Zc (Zp (Hb (Zt (RI T) a T.q0 (Za (Zy 1) Zd)) (Ha (eh R9 R9 (OV _) (OV _) Zn (Zk 1) (Au (Zt (kS T) a T.q9 (Za (Zy 0) Zd)))))))
   Zf))
abbrev Yg:List Af:=NO.append ["_law_xs","_law_many","_law_places","_law_sizes","_law_j","_law_lines","_law_k","_law_line","_law_at"]
theorem Fh:Zx Yg NO (Zi XW):=BP
theorem lu(T:Tx K mg d):Aw P w K mg base A6 2 d.a32 d.d32 NO (Bc K MZ):=
 ZU (N:=Yg) (g:=Ql) T.q32 Fh (λ_ _ _ _ _ _ _ _ a=>(Zc (ZH 1 Fh.nd (Zt (lg T) a T.q30 (Za (Zy 0) (Za (Zh ZC) Zd))))
   (Zc (ZH 2 Fh.nd (Zv Zn (Au (ZT (Au (Zr (Zk 1) Zn)) Zn))))
   (Zc (ZH 3 Fh.nd (Zr (Au (ZV (ZF (Za (Zh ZC) (Za (Zh ZC) (Za (Zh ZC) (Za (Zh ZC) (Za (Zh ZC) (Za (Zh ZC) (Za (Zh ZC) (Za (Zh ZC) Zd))))))))))) (Au (ZT (Au (Zr (Zk 1) Zn)) Zn))))
   (Zc (Ko (i:=4) Fh.nd rfl (Or.inl rfl) (ZF (Za (Zh (Z5 2)) Zd)))
   (Zc (Hh IE rfl (dt (by rfl) T.n11 (Za (Zh ZC) (Za (Zh (Z5 3)) Zd))) (Zo 5 Fh.nd)
   (Zc (Kp (i:=4) rfl (by first|exact Or.inl rfl|exact Or.inr (Or.inl rfl)) (Zv Zn (Au (ZT (Au (Zr (Zk 1) (Au (Zv Zn (Zk 5))))) (Au (Zr (Zk 4) (Au (Ks (Zk 5) Zn))))))))
   Zf))
   (Zc (Ko (i:=6) Fh.nd rfl (Or.inl rfl) (ZF Zd))
   (Zc (Hh IE rfl (HU (by rfl) T.n11 (Za (Zh (Z5 2)) Zd)) (Zo 7 Fh.nd)
   (Zc (Ko (i:=8) Fh.nd rfl (Or.inl rfl) (ZF Zd))
   (Zc (ZH 9 Fh.nd (ZT (Au (Zv (Zk 7) (Au (Zr (Zk 1) Zn)))) (Zk 2)))
   (Zc (Hh IE rfl (HU (by rfl) T.n11 (Za (Zh (Z5 3)) Zd)) (Zo 5 Fh.nd)
   (Zc (ZI (Jk a.units (Zk 5) Zn)
   (Zc (ZH 9 Fh.nd (ZT (Au (Zr (Zk 1) (Au (Zv (Au (Zv Zn (Au (FU Zn (Zk 5))))) (Zk 9))))) (Au (Zr (Zk 4) (Zk 5)))))
   Zf)
   Zf)
   (Zc (Kp (i:=8) rfl (by first|exact Or.inl rfl|exact Or.inr (Or.inl rfl)) (Zt (lh T) a T.q31 (Za (Zh (Zv (Zk 0) (Au (FU (Au (Zr (Zk 1) Zn)) (Au (ZT (Au (Zr (Zk 1) Zn)) Zn)))))) (Za (Zh (ZT (Au (Zv (Au (Zr (Zk 1) Zn)) (Au (FU (Zk 5) (Au (ZT (Au (Zr (Zk 1) Zn)) Zn)))))) Zn)) (Za (Zy 9) Zd)))))
   Zf)))
   (Zc (Kp (i:=6) rfl (by first|exact Or.inl rfl|exact Or.inr (Or.inl rfl)) (Gu HN H9 (by rfl) T.n15 (by rfl) (Za (Zy 8) Zd)))
   Zf)))))
   (Zc (Ue 6)
   Zf)))))))))
abbrev Yh:List Af:=NQ.append ["_law_way","_law_at"]
theorem RJ:Zx Yh NQ (Zi XX):=BP
theorem lv(T:Tx K mg d):Aw P w K mg base A6 2 d.a35 d.d35 NQ (Bc K Lf):=
 ZU (N:=Yh) (g:=Qs) T.q35 RJ (λ_ _ _ _ _ _ _ _ a=>(Zc (ZH 2 RJ.nd (ZT (Zk 1) Zn))
   (Zc (ZI (F3 a.units (Zk 2) Zn)
   (Zc (He (ZF Zd))
   Zf)
   Zf)
   (Zc (ZI (F3 a.units (Zk 2) Zn)
   (Zc (Zp (FX (Au (ik (Zk 0) Zn)) GA (Ft Zn)))
   Zf)
   Zf)
   (Zc (ZI (F3 a.units (Zk 2) Zn)
   (Zc (Zp (Gu HN H9 (by rfl) T.n15 (by rfl) (Za (Zy 0) Zd)))
   Zf)
   Zf)
   (Zc (ZI (F3 a.units (Zk 2) Zn)
   (Zc (Zp (Zr (Zk 0) Zn))
   Zf)
   Zf)
   (Zc (ZI (GC a.units (Zk 2) Zn)
   (Zc (Zp (Zr (Au (ZV (ZF (Za (Zh IZ) (Za (Zh (ZT (Au (FV (Zk 1) Zn)) (Au (Jf Zn Zn)))) (Za (Zh Kj) Zd)))))) (Au (Ks (Zk 2) Zn))))
   Zf)
   Zf)
   (Zc (ZH 3 RJ.nd (ZT (Au (FV (Zk 1) Zn)) (Au (Zu Z6 Dh (by rfl) T.n7 (by rfl) (Za (Zy 0) Zd)))))
   (Zc (Zp (Zv (Au (Zv (Au (FX (Zk 0) GA (Ft (Zk 3)))) (Au (ZV (ZF (Za (Zh (Zt (li T) a T.q34 (Za (Zh (Zr (Zk 0) (Zk 3))) (Za (Zh (FV (Zk 1) Zn)) Zd)))) Zd)))))) (Au (FX (Zk 0) (Ft (Au (Zv (Zk 3) Zn))) GA))))
   Zf)))))))))
abbrev N4:List Af:=["key"]
theorem S4:Zx N4 ["key"] (Zi Rr):=BP
theorem lw(T:Tx K mg d):Aw P w K mg base A6 3 d.a4 d.d4 ["key"] (Bc K Qt):=
 ZU (N:=N4) (g:=WD) T.q4 S4 (λ_ _ _ _ _ _ _ _ a=>(Zc (Zp (Gu HN H9 (by rfl) T.n15 (by rfl) (Za (Zh (ZV (Z8 ["thing"] [] [] (CP ["thing"] [] (Zi Rr)) rfl rfl  (Z9 (CJ 0)) (λ_ _ _ _ _ _ _=>(Zo 0 (Cm ["thing"]))) (λ_ _ _ _ _ _ _=>ZX) (λ_ _ _ _ _ _ _=>(Zt (ll T) a T.q3 (Za (Zy 0) Zd))) (by decide)))) Zd)))
   Zf))
abbrev N6:List Af:=["thing"]
theorem S6:Zx N6 ["thing"] (Zi Rs):=BP
theorem lx(T:Tx K mg d):Aw P w K mg base A6 3 d.a6 d.d6 ["thing"] (Bc K Ht):=
 ZU (N:=N6) (g:=Ix) T.q6 S6 (λ_ _ _ _ _ _ _ _ a=>(Zc (ZI (EB (Ee (Au (Zu Ib Ic (by rfl) T.n6 (by rfl) (Za (Zy 0) (Za (Zh (Ie (n:="tuple") (by rfl) T.n15 (by rfl))) Zd))))))
   (Zc (Zp DV)
   Zf)
   Zf)
   (Zc (ZI (GD (Gs (GC a.units (Au (Zu Z6 Dh (by rfl) T.n7 (by rfl) (Za (Zy 0) Zd))) Zn) (G9 (Jk a.units (Au (Zu Z6 Dh (by rfl) T.n7 (by rfl) (Za (Zy 0) Zd))) (Au (Ig (d:=.int (4)) (by rfl) T.g_LONGEST_LINE (λ_ _=>by simp only[Aq])))))))
   (Zc (Zp DV)
   Zf)
   Zf)
   (Zc (Zp (Zu (IU rfl) Jh (by rfl) T.n1 (by rfl) (Za (Zh (ZV (Z8 ["value"] [] [] (CP ["value"] [] (Zi Rs)) rfl rfl  (Z9 (CJ 0)) (λ_ _ _ _ _ _ _=>(Zo 0 (Cm ["value"]))) (λ_ _ _ _ _ _ _=>ZX) (λ_ _ _ _ _ _ _=>(Zt (lj T) a T.q2 (Za (Zy 0) Zd))) (by decide)))) Zd)))
   Zf))))
abbrev Yi:List Af:=NH
theorem ly:Zx Yi NH (Zi Rw):=BP
theorem lz(T:Tx K mg d):Aw P w K mg base A6 3 d.a13 d.d13 NH (Bc K M0):=
 ZU (N:=Yi) (g:=Qw) T.q13 ly (λ_ _ _ _ _ _ _ _ a=>(Zc (ZI (GD (Gs (EB (Ee (Au (Zu Ib Ic (by rfl) T.n6 (by rfl) (Za (Zy 1) (Za (Zh (Ie (n:="tuple") (by rfl) T.n15 (by rfl))) Zd)))))) (G9 (Jj a.units (Au (Zu Z6 Dh (by rfl) T.n7 (by rfl) (Za (Zy 1) Zd))) (Au (Zu Z6 Dh (by rfl) T.n7 (by rfl) (Za (Zy 0) Zd)))))))
   (Zc (Zp DV)
   Zf)
   Zf)
   (Zc (Zp (Zu (IU rfl) Jh (by rfl) T.n1 (by rfl) (Za (Zh (ZV (Z8 ["ladder","level"] [] [] (CP ["ladder","level"] [] (Zi Rw)) rfl rfl  (PJ (by rfl) T.n16 (CJ 0) (CJ 1)) (λ_ _ _ _ _ _ _=>(Gx (n:=2) rfl (ZR (Zo 0 (Cm ["ladder","level"])) (ZR (Zo 1 (Cm ["ladder","level"])) Gw)))) (λ_ _ _ _ _ _ _=>ZX) (λ_ _ _ _ _ _ _=>(Zt (lr T) a T.q12 (Za (Zy 0) (Za (Zy 1) Zd)))) (by decide)))) Zd)))
   Zf)))
abbrev Yj:List Af:=NI
theorem lA:Zx Yj NI (Zi Ry):=BP
theorem lB(T:Tx K mg d):Aw P w K mg base A6 3 d.a17 d.d17 NI (Bc K M4):=
 ZU (N:=Yj) (g:=Qx) T.q17 lA (λ_ _ _ _ _ _ _ _ a=>(Zc (He (Z8 ["axis","ladder"] ["grain","to"] [1,2] (CP ["axis","ladder"] ["grain","to"] (Zi Ry)) rfl rfl  (Uq (by rfl) T.n4 (CJ 0)) (λ_ _ _ _ _ _ _=>(Gx (n:=2) rfl (ZR (Zo 0 (Cm ["axis","ladder","grain","to"])) (ZR (Zo 1 (Cm ["axis","ladder","grain","to"])) Gw)))) (λ_ _ _ _ _ _ _=>ZX) (λ_ _ _ _ _ _ _=>(Zt (lp T) a T.q11 (Za (Zy 1) (Za (Zh (Zr (Zk 2) (Zk 0))) (Za (Zh (Zr (Zk 3) (Zk 0))) Zd))))) (by decide)))
   Zf))
abbrev Yk:List Af:=["_law_script","_law_many","_law_ladders_here"]
theorem NR:Zx Yk ["_law_script"] (Zi NE):=BP
theorem lC(T:Tx K mg d):Aw P w K mg base A6 3 d.a33 d.d33 ["_law_script"] (Bc K Lg):=
 ZU (N:=Yk) (g:=M7) T.q33 NR (λ_ _ _ _ _ _ _ _ a=>(Zc (ZH 1 NR.nd (Zr (Au (ZV (ZF (Za (Zh ZC) (Za (Zh ZC) (Za (Zh ZC) (Za (Zh ZC) (Za (Zh ZC) (Za (Zh ZC) (Za (Zh ZC) (Za (Zh ZC) Zd))))))))))) (Au (ZT (Au (Zt (Lu T) a T.q29 (Za (Zy 0) (Za (Zh ZC) Zd)))) Zn))))
   (Zc (L3 (i:=2) ["_law_k"] ["_law_script"] [0] (CP ["_law_k"] ["_law_script"] (Zi NE)) rfl rfl NR.nd rfl rfl (HU (by rfl) T.n11 (Za (Zh (Z5 1)) Zd)) (λ_ _ _ _ _ _ _=>(Zo 0 (Cm ["_law_k","_law_script"]))) (λ_ _ _ _ _ _ _=>ZX) (λ_ _ _ _ _ _ _=>(Zt (lu T) a T.q32 (Za (Zh (Zv (Au (Zt (Lu T) a T.q29 (Za (Zy 1) (Za (Zh (Zv Zn (Zk 0))) Zd)))) (Au (FU Zn (Zk 0))))) Zd))) (by decide))
   (Zc (ZI (F3 a.units (Zk 1) Zn)
   (Zc (L3 (i:=2) ["_law_ladder_here"] [] [] (CP ["_law_ladder_here"] [] (Zi NE)) rfl rfl NR.nd rfl rfl (Z9 (CJ 2)) (λ_ _ _ _ _ _ _=>(Zo 0 (Cm ["_law_ladder_here"]))) (λ_ _ _ _ _ _ _=>ZX) (λ_ _ _ _ _ _ _=>(FX (Zk 0) GA (Ft Zn))) (by decide))
   Zf)
   Zf)
   (Zc (Zp (Z5 2))
   Zf)))))
abbrev N7:List Af:=["lines","seen","finest_seen","line","level","value","later"]
theorem S7:Zx N7 ["lines"] (Zi Rt):=BP
theorem lD(T:Tx K mg d):Aw P w K mg base A6 4 d.a7 d.d7 ["lines"] (Bc K GS):=
 ZU (N:=N7) (g:=JX) T.q7 S7 (λ_ _ _ _ _ _ _ _ a=>(Zc (ZI (EB (Ee (Au (Zu (IU rfl) Jh (by rfl) T.n1 (by rfl) (Za (Zh (ZV (Z8 ["line"] [] [] (CP ["line"] [] (Zi Rt)) rfl rfl  (Z9 (CJ 0)) (λ_ _ _ _ _ _ _=>(Zo 0 (Cm ["line"]))) (λ_ _ _ _ _ _ _=>ZX) (λ_ _ _ _ _ _ _=>(Zt (lx T) a T.q6 (Za (Zy 0) Zd))) (by decide)))) Zd)))))
   (Zc (Zp DV)
   Zf)
   Zf)
   (Zc (OO (i:=1) S7.nd rfl (Or.inl rfl) Pm)
   (Zc (OO (i:=2) S7.nd rfl (Or.inl rfl) Pm)
   (Zc (Hh IE rfl (Z9 (CJ 0)) (Zo 3 S7.nd)
   (Zc (ZI (GD (Gs (Jj a.units (Au (Zu Z6 Dh (by rfl) T.n7 (by rfl) (Za (Zy 3) Zd))) (Au (Zu Z6 Dh (by rfl) T.n7 (by rfl) (Za (Zh (Zr (Zk 0) Zn)) Zd)))) (G9 (UK a.units (Au (Zr (Zk 3) Zn)) (Zk 2)))))
   (Zc (Zp DV)
   Zf)
   Zf)
   (Zc (UM (i:=2) a.units (Au (Zr (Zk 3) Zn)) DV)
   (Zc (Hh IE rfl (Uq (by rfl) T.n4 (CJ 3)) (Gx (n:=2) rfl (ZR (Zo 4 S7.nd) (ZR (Zo 5 S7.nd) Gw)))
   (Zc (ZH 6 S7.nd (FX (Zk 3) (Ft (Au (Zv (Zk 4) Zn))) GA))
   (Zc (fu (ft a.units (fq (i:=1) a.units (Au (DX (Za (Zh (Z5 4)) (Za (Zh (Z5 5)) Zd)))) (Z5 6)) (Zk 6))
   (Zc (Zp DV)
   Zf)
   Zf)
   Zf)))
   Zf))))
   (Zc (Zp DV)
   Zf))))))
abbrev Yl:List Af:=["self","thing"]
theorem lE:Zx Yl ["self","thing"] (Zi XR):=BP
theorem lF(T:Tx K mg d):Aw P w K mg base A6 4 d.a28 d.d28 ["self","thing"] (Bc K Ng):=
 K5 (N:=Yl) (g:=QJ) T.q28 lE (λ_ _ _ _ _ _ _ _ a=>(Zc (Zp (Hb (Zt (lz T) a T.q13 (Za (Zh (Hq T.cb.cof T.cb.cl T.na_axes (Z5 0))) (Za (Zy 1) Zd))) (Ha (UJ a.units (Zk 1) (Au (Hq T.cb.cof T.cb.cl T.na_tables (Z5 0)))))))
   Zf))
abbrev N8:List Af:=["thing"]
theorem S8:Zx N8 ["thing"] (Zi XG):=BP
theorem lG(T:Tx K mg d):Aw P w K mg base A6 5 d.a8 d.d8 ["thing"] (Bc K ZK):=
 ZU (N:=N8) (g:=Iy) T.q8 S8 (λ_ _ _ _ _ _ _ _ a=>(Zc (ZI (EB (Ee (Au (Zu Ib Ic (by rfl) T.n6 (by rfl) (Za (Zy 0) (Za (Zh (Ie (n:="list") (by rfl) T.n8 (by rfl))) Zd))))))
   (Zc (Zp DV)
   Zf)
   Zf)
   (Zc (ZI (GD (Gs (GC a.units (Au (Zu Z6 Dh (by rfl) T.n7 (by rfl) (Za (Zy 0) Zd))) Zn) (G9 (Jk a.units (Au (Zu Z6 Dh (by rfl) T.n7 (by rfl) (Za (Zy 0) Zd))) (Au (Ig (d:=.int (40)) (by rfl) T.g_MOST_LINES (λ_ _=>by simp only[Aq])))))))
   (Zc (Zp DV)
   Zf)
   Zf)
   (Zc (Zp (Zt (lD T) a T.q7 (Za (Zy 0) Zd)))
   Zf))))
abbrev Ym:List Af:=["self","grain"]
theorem lH:Zx Ym ["self","grain"] (Zi XQ):=BP
theorem lI(T:Tx K mg d):Aw P w K mg base A6 5 d.a27 d.d27 ["self","grain"] (Bc K Nh):=
 K5 (N:=Ym) (g:=QK) T.q27 lH (λ_ _ _ _ _ _ _ _ a=>(Zc (ZI (EB (Ee (Au (Vq T.cb.cof T.cb.cl T.q28.M (lF T) (a.mono (by decide)) T.q28.b (E:=E0) Gq (Z5 0) (Za (Zy 1) Zd)))))
   (Zc f5
   Zf)
   Zf)
   (Zc (He (Hd HM HZ (by rfl) T.n8 (by rfl) (Za (Zh (Mm a.units (Au (Hq T.cb.cof T.cb.cl T.na_tables (Z5 0))) (Zk 1) (λ_ _=>rfl))) Zd)))
   Zf)))
abbrev N5:List Af:=["keys","told","key"]
theorem S5:Zx N5 ["keys"] (Zi XF):=BP
theorem lJ(T:Tx K mg d):Aw P w K mg base A6 6 d.a5 d.d5 ["keys"] (Bc K Ni):=
 ZU (N:=N5) (g:=QL) T.q5 S5 (λ_ _ _ _ _ _ _ _ a=>(Zc (Ko (i:=1) S5.nd rfl (Or.inl rfl) (ZF Zd))
   (Zc (Hh IE rfl (Z9 (OP (ZV (fV (lw T) (a.mono (by decide)) (by rfl) T.n12 (by rfl) (by rfl) T.q4.m T.q4.b (Zk 0))))) (Zo 2 S5.nd)
   (Zc (ZI (GD (Gs (EB (Ee (Zk 1))) (G9 (Jj a.units (Au (Zr (Zk 1) (Au (Tz Zn)))) (Zk 2)))))
   (Zc (Kp (i:=1) rfl (by first|exact Or.inl rfl|exact Or.inr (Or.inl rfl)) (Z5 2))
   Zf)
   Zf)
   Zf))
   (Zc (Ue 1)
   Zf))))
abbrev Yn:List Af:=["thing"]
theorem lK:Zx Yn ["thing"] (Zi RD):=BP
theorem Yo(T:Tx K mg d):Aw P w K mg base A6 6 d.a22 d.d22 ["thing"] (Bc K ZD):=
 ZU (N:=Yn) (g:=GU) T.q22 lK (λ_ _ _ _ _ _ _ _ a=>(Zc (ZI (EB (Ee (Au (Zu Ib Ic (by rfl) T.n6 (by rfl) (Za (Zy 0) (Za (Zh (Ie (n:="list") (by rfl) T.n8 (by rfl))) Zd))))))
   (Zc (Zp DV)
   Zf)
   Zf)
   (Zc (ZI (GD (Gs (GC a.units (Au (Zu Z6 Dh (by rfl) T.n7 (by rfl) (Za (Zy 0) Zd))) Zn) (G9 (Jk a.units (Au (Zu Z6 Dh (by rfl) T.n7 (by rfl) (Za (Zy 0) Zd))) (Au (Ig (d:=.int (4)) (by rfl) T.g_MOST_LADDERS (λ_ _=>by simp only[Aq])))))))
   (Zc (Zp DV)
   Zf)
   Zf)
   (Zc (Zp (Zu (IU rfl) Jh (by rfl) T.n1 (by rfl) (Za (Zh (ZV (Z8 ["ladder"] [] [] (CP ["ladder"] [] (Zi RD)) rfl rfl  (Z9 (CJ 0)) (λ_ _ _ _ _ _ _=>(Zo 0 (Cm ["ladder"]))) (λ_ _ _ _ _ _ _=>ZX) (λ_ _ _ _ _ _ _=>(Zt (lG T) a T.q8 (Za (Zy 0) Zd))) (by decide)))) Zd)))
   Zf))))
abbrev Yp:List Af:=["ways","table","cells","key","cell","there"]
theorem Ly:Zx Yp ["ways","table"] (Zi ND):=BP
theorem lL(T:Tx K mg d):Aw P w K mg base A6 7 d.a19 d.d19 ["ways","table"] (Bc K Nk):=
 ZU (N:=Yp) (g:=QM) T.q19 Ly (λ_ _ _ _ _ _ _ _ a=>(Zc (OO (i:=2) Ly.nd rfl (Or.inr rfl) Pm)
   (Zc (Hh IE rfl (Z9 (CJ 1)) (Gx (n:=2) rfl (ZR (Zo 3 Ly.nd) (ZR (Zo 4 Ly.nd) Gw)))
   (Zc (ZI (Ee (Au (Zt (k7 T) a T.q18 (Za (Zy 0) (Za (Zy 3) Zd)))))
   (Zc (ZH 5 Ly.nd (Gu HN H9 (by rfl) T.n15 (by rfl) (Za (Zh (ZV (Z8 ["way","value"] [] [] (CP ["way","value"] [] (Zi ND)) rfl rfl  (PJ (by rfl) T.n16 (CJ 0) (CJ 3)) (λ_ _ _ _ _ _ _=>(Gx (n:=2) rfl (ZR (Zo 0 (Cm ["way","value"])) (ZR (Zo 1 (Cm ["way","value"])) Gw)))) (λ_ _ _ _ _ _ _=>ZX) (λ_ _ _ _ _ _ _=>(Mm a.units (Zk 0) (Zk 1) (λ_ _=>rfl))) (by decide)))) Zd)))
   (Zc (UM (i:=2) a.units (Zk 5) (Tg (UK a.units (Zk 5) (Zk 2)) (Zt (kZ T) a T.q16 (Za (Zh (Mm a.units (Zk 2) (Zk 5) (λ_ _=>rfl))) (Za (Zy 4) Zd))) (Z5 4)))
   Zf))
   Zf)
   Zf))
   (Zc (He (Z8 ["key"] ["cells"] [2] (CP ["key"] ["cells"] (Zi ND)) rfl rfl  (Z9 (OP (Zt (lJ T) a T.q5 (Za (Zh (ZV (Hd (gE rfl) gF (by rfl) T.n8 (by rfl) (Za (Zy 2) Zd)))) Zd)))) (λ_ _ _ _ _ _ _=>(Zo 0 (Cm ["key","cells"]))) (λ_ _ _ _ _ _ _=>ZX) (λ_ _ _ _ _ _ _=>(DX (Za (Zh (Z5 0)) (Za (Zh (Mm a.units (Zk 1) (Zk 0) (λ_ _=>rfl))) Zd)))) (by decide)))
   Zf))))
abbrev Yq:List Af:=NJ.append ["single"]
theorem Yr:Zx Yq NJ (Zi RB):=BP
theorem lM(T:Tx K mg d):Aw P w K mg base A6 8 d.a20 d.d20 NJ (Bc K Nl):=
 ZU (N:=Yq) (g:=QN) T.q20 Yr (λ_ _ _ _ _ _ _ _ a=>(Zc (L3 (i:=3) ["key","amount"] [] [] (CP ["key","amount"] [] (Zi RB)) rfl rfl Yr.nd rfl rfl (Z9 (CJ 1)) (λ_ _ _ _ _ _ _=>(Gx (n:=2) rfl (ZR (Zo 0 (Cm ["key","amount"])) (ZR (Zo 1 (Cm ["key","amount"])) Gw)))) (λ_ _ _ _ _ _ _=>ZX) (λ_ _ _ _ _ _ _=>(DX (Za (Zh (Z5 0)) (Za (Zh (Zt (kX T) a T.q15 (Za (Zh (ZV (ZF (Za (Zh (Z5 1)) Zd)))) Zd))) Zd)))) (by decide))
   (Zc (He (gR (lL T) a T.q19 (Za (Zh (Zt (lB T) a T.q17 (Za (Zy 0) (Za (Zh (Zt (X2 T) a T.q14 (Za (Zy 0) Zd))) (Za (Zy 2) Zd))))) (Za (Zy 3) Zd))))
   Zf)))
abbrev Ys:List Af:=NK
theorem lN:Zx Ys NK (Zi RC):=BP
theorem lO(T:Tx K mg d):Aw P w K mg base A6 9 d.a21 d.d21 NK (Bc K Nn):=
 ZU (N:=Ys) (g:=QO) T.q21 lN (λ_ _ _ _ _ _ _ _ a=>(Zc (Tk (U4 rfl a.units (by rfl) T.n3 (Au (ZV (Z8 ["grain"] ["ladders","rows"] [0,1] (CP ["grain"] ["ladders","rows"] (Zi RC)) rfl rfl  (Z9 (CJ 2)) (λ_ _ _ _ _ _ _=>(Zo 0 (Cm ["grain","ladders","rows"]))) (λ_ _ _ _ _ _ _=>ZX) (λ_ _ _ _ _ _ _=>(DX (Za (Zh (Z5 0)) (Za (Zh (Zt (lM T) a T.q20 (Za (Zy 1) (Za (Zy 2) (Za (Zy 0) Zd))))) Zd)))) (by decide))))))
   Zf))
abbrev RK:List Af:=J5
theorem Yt:Zx RK J5 (Zi RE):=BP
theorem lP(T:Tx K mg d):Aw P w K mg base A6 10 d.a23 d.d23 J5 (ME K d.aB No):=
 h8 (N:=RK) (g:=QP) T.q23 Yt (λ_ _ _ _ _ _ _ _ a=>(MD (g0 λ_=>(PL λ_ _=>(EB (Ee (Au (Zt (Yo T) a T.q22 (Za (Zy 1) Zd)))))))
   (MD (Vv rfl T.cb.cl T.na_axes rfl (by first|exact Or.inl rfl|exact Or.inr (Or.inl rfl)) (λ_=>(g8 (gX ["ladder"] [] [] (CP ["ladder"] [] (Zi RE)) rfl rfl (λ_ _=>(Z9 (CJ 1))) (λ_ _ _ _ _ _ _=>(Zo 0 (Cm ["ladder"]))) (λ_ _ _ _ _ _ _=>(Hd HM HZ (by rfl) T.n8 (by rfl) (Za (Zy 0) Zd))) (by decide)))))
   (MD (Vv rfl T.cb.cl T.na_standing rfl (by first|exact Or.inl rfl|exact Or.inr (Or.inl rfl)) (λ_=>(ZV (ZF Zd))))
   (MD (g6 rfl T.cb.cof T.cb.cl T.na_tables rfl (by first|exact Or.inl rfl|exact Or.inr (Or.inl rfl)) (λ_=>(Zt (lO T) a T.q21 (Za (Zh (Hq T.cb.cof T.cb.cl T.na_axes (Z5 0))) (Za (Zh (ZV (ZF Zd))) (Za (Zh (ZV (ZF (Za (Zh (Zt (X2 T) a T.q14 (Za (Zh (Hq T.cb.cof T.cb.cl T.na_axes (Z5 0))) Zd))) Zd)))) Zd))))))
   gZ)))))
theorem lQ(T:Tx K mg d):Aw P w K mg base (Mv P w) 10 d.a23 d.d23 J5 (KZ K JY):=
 by
 refine gp (N:=RK) (ps:=J5) T.q23.F Yt (by decide) (h:=Np) (λa A outer s H E M e b=>?_)
 refine gv (Vd (gm Mx (PL λ_ _=>(EB (Ee (Au (Zt (Yo T) b T.q22 (Za (Zy 1) Zd))))))
   (Vd (XT.s (gn Mx rfl rfl T.k_NoLadder T.q_NoLadder (by rfl) T.m_NoLadder (Za (Zh Kj) Zd))))
   gw)) ?_
 rfl
abbrev Yu:List Af:=["_law_thing","_law_book","e","_law_kinds"]
theorem J6:Zx Yu ["_law_thing"] (Zi XY):=BP
theorem Yv(T:Tx K mg d):Aw P w K mg base A6 12 d.a36 d.d36 ["_law_thing"] (Bc K Iz):=
 ZU (N:=Yu) (g:=Nq) T.q36 J6 (λ_ _ _ _ _ _ _ _ a=>(Zc (ZH 1 J6.nd IZ)
   (Zc (gq 2 CS Mx rfl rfl rfl (gl (hE Mx rfl T.cb.cof (T.cb.mkB T.q23) (lQ T) (a.mono (by decide)) (by rfl) T.cb.m T.q23.b (Za (Zy 0) Zd))) (ZH 1 J6.nd (hD T.cb.cof (T.cb.mkB T.q23) (lP T) (a.mono (by decide)) (by rfl) T.cb.m T.q23.b (E:=E0) Gq (Za (Zy 0) Zd))) T.m_CubeError (by rfl) (kH T) J6.nd rfl rfl (λx e c=>(Zc (ZH 3 J6.nd (ZV (ZF (Za (Zh (GK 2 CS (ZY "NoLadder") rfl rfl (Or.inl rfl) (FJ (v:=.ref d.a_NoLadder) (by rfl) T.m_NoLadder rfl) (λu z=>z) (kJ T) (by rfl) T.n6 (by rfl))) (Za (Zh (GK 2 CS (ZY "NoValue") rfl rfl (Or.inl rfl) (FJ (v:=.ref d.a_NoValue) (by rfl) T.m_NoValue rfl) (λu z=>z) (kO T) (by rfl) T.n6 (by rfl))) (Za (Zh (GK 2 CS (ZY "NoGrain") rfl rfl (Or.inl rfl) (FJ (v:=.ref d.a_NoGrain) (by rfl) T.m_NoGrain rfl) (λu z=>z) (kI T) (by rfl) T.n6 (by rfl))) (Za (Zh (GK 2 CS (ZY "NoPick") rfl rfl (Or.inl rfl) (FJ (v:=.ref d.a_NoPick) (by rfl) T.m_NoPick rfl) (λu z=>z) (kK T) (by rfl) T.n6 (by rfl))) Zd)))))))
   (Zc (ZH 3 J6.nd (Zv (Zk 3) (Au (ZV (ZF (Za (Zh (GK 2 CS (ZY "NoRow") rfl rfl (Or.inl rfl) (FJ (v:=.ref d.a_NoRow) (by rfl) T.m_NoRow rfl) (λu z=>z) (kL T) (by rfl) T.n6 (by rfl))) (Za (Zh (GK 2 CS (ZY "NoSuch") rfl rfl (Or.inl rfl) (FJ (v:=.ref d.a_NoSuch) (by rfl) T.m_NoSuch rfl) (λu z=>z) (kM T) (by rfl) T.n6 (by rfl))) (Za (Zh (GK 2 CS (ZY "NoText") rfl rfl (Or.inl rfl) (FJ (v:=.ref d.a_NoText) (by rfl) T.m_NoText rfl) (λu z=>z) (kN T) (by rfl) T.n6 (by rfl))) Zd))))))))
   (Zc (Zp (DX (Za (Zh (Zv (Zk 3) (Au (ZV (ZF (Za (Zh (GK 2 CS (ZY "TooMuch") rfl rfl (Or.inl rfl) (FJ (v:=.ref d.a_TooMuch) (by rfl) T.m_TooMuch rfl) (λu z=>z) (kP T) (by rfl) T.n6 (by rfl))) Zd)))))) (Za (Zh (GK 2 CS (ZY "ValueError") rfl rfl (Or.inl rfl) (RP (v:=.ty "ValueError") (by rfl) T.n0 (by rfl) rfl) (λu z=>z) (kQ T) (by rfl) T.n6 (by rfl))) (Za (Zh IZ) Zd)))))
   Zf)))))
   (Zc (Zp (DX (Za (Zh (ZV (ZF Zd))) (Za (Zh DV) (Za (Zh (Z5 1)) Zd)))))
   Zf))))
abbrev Yw:List Af:=["_law_script","_law_ladders_here","_law_thing","_law_good","_law_kinds","_law_under","_law_book","_law_low"]
theorem EN:Zx Yw ["_law_script"] (Zi J4):=BP
theorem lR(T:Tx K mg d):Aw P w K mg base A6 13 d.a37 d.d37 ["_law_script"] (Bc K Nu):=
 ZU (N:=Yw) (g:=Q0) T.q37 EN (λ_ _ _ _ _ _ _ _ a=>(Zc (ZH 1 EN.nd (Zt (lC T) a T.q33 (Za (Zy 0) Zd)))
   (hT Ll (hU (k:=2) ["_law_ladder_here"] [] [] (CP ["_law_ladder_here"] [] (Zi J4)) rfl rfl EN.nd rfl rfl (λ_ _=>(Z9 (CJ 1))) (λ_ _ _ _ _ _ _=>(Zo 0 (Cm ["_law_ladder_here"]))) (λ_ _ _ _ _ _ _=>(Hd HM HZ (by rfl) T.n8 (by rfl) (Za (Zy 0) Zd))) (by decide) (JL (K2 (k:=2) λ_=>(ZH 3 EN.nd (F2 a.units (Au (ZT (Au (Zt (Lu T) a T.q29 (Za (Zy 0) (Za (Zh ZC) Zd)))) Zn)) Zn)))
   (JL (K2 (k:=2) λ_=>(ZI (EB (Ee (Zk 3))) PR Zf))
   (JL (K2 (k:=2) λ_=>(US (Zt (Yv T) a T.q36 (Za (Zy 2) Zd)) (Gx (n:=3) rfl (ZR (Zo 4 EN.nd) (ZR (Zo 5 EN.nd) (ZR (Zo 6 EN.nd) Gw))))))
   (JL (K2 (k:=2) λ_=>(ZI (EB (Ee (Zk 3))) PR Zf))
   (JL (K2 (k:=2) λ_=>(ZI (PL λ_ _=>(GD (Gs (Jj a.units (Zk 4) (Au (ZV (ZF Zd)))) (Gs (Jj a.units (Zk 2) (Zk 1)) (G9 (Jj a.units (Au (Mz T.cb.cof T.cb.cl T.q24.M (X7 T) (a.mono (by decide)) T.q24.b (E:=E0) Gq (Z5 6))) (Zk 1))))))) (Zc (Zp DV)
   Zf) Zf))
   (JL (hW (k:=2) rfl (by first|exact Or.inl rfl|exact Or.inr (Or.inl rfl)) (λ_ _=>rfl))
   (hX (k:=2) rfl (by first|exact Or.inl rfl|exact Or.inr (Or.inl rfl)) (λ_=>(Zc (ZH 7 EN.nd (Gu HN H9 (by rfl) T.n15 (by rfl) (Za (Zh (ZV (Z8 ["_law_ladder_here"] [] [] (CP ["_law_ladder_here"] [] (Zi J4)) rfl rfl  (Z9 (CJ 1)) (λ_ _ _ _ _ _ _=>(Zo 0 (Cm ["_law_ladder_here"]))) (λ_ _ _ _ _ _ _=>ZX) (λ_ _ _ _ _ _ _=>ZC) (by decide)))) Zd)))
   (Zc (Zp (Hb (F2 a.units (Au (Mz T.cb.cof T.cb.cl T.q24.M (X7 T) (a.mono (by decide)) T.q24.b (E:=E0) Gq (Z5 6))) (Zk 1)) (Hb (F2 a.units (Au (Mz T.cb.cof T.cb.cl T.q25.M (la T) (a.mono (by decide)) T.q25.b (E:=E0) Gq (Z5 6))) (Au (ZV (ZF Zd)))) (Hb (F2 a.units (Au (Mz T.cb.cof T.cb.cl T.q26.M (lc T) (a.mono (by decide)) T.q26.b (E:=E0) Gq (Z5 6))) (Au (ZV (ZF (Za (Zh (Z5 7)) Zd))))) (Ha (F2 a.units (Au (Vq T.cb.cof T.cb.cl T.q27.M (lI T) (a.mono (by decide)) T.q27.b (E:=E0) Gq (Z5 6) (Za (Zy 7) Zd))) (Au (ZV (ZF Zd)))))))))
   Zf)))))))))))
   (Zc (L3 (i:=2) ["_law_ladder_here"] [] [] (CP ["_law_ladder_here"] [] (Zi J4)) rfl rfl EN.nd rfl rfl (Z9 (CJ 1)) (λ_ _ _ _ _ _ _=>(Zo 0 (Cm ["_law_ladder_here"]))) (λ_ _ _ _ _ _ _=>ZX) (λ_ _ _ _ _ _ _=>(ZV (Hd HM HZ (by rfl) T.n8 (by rfl) (Za (Zy 0) Zd)))) (by decide))
   (Zc (ZH 3 EN.nd (F2 a.units (Au (ZT (Au (Zt (Lu T) a T.q29 (Za (Zy 0) (Za (Zh ZC) Zd)))) Zn)) Zn))
   (Zc (ZI (EB (Ee (Zk 3)))
   (Zc (ZH 2 EN.nd (Zt (lv T) a T.q35 (Za (Zy 2) (Za (Zh (Zt (Lu T) a T.q29 (Za (Zy 0) (Za (Zh ZC) Zd)))) Zd))))
   Zf)
   Zf)
   (Zc (US (Zt (Yv T) a T.q36 (Za (Zy 2) Zd)) (Gx (n:=3) rfl (ZR (Zo 4 EN.nd) (ZR (Zo 5 EN.nd) (ZR (Zo 6 EN.nd) Gw)))))
   (Zc (ZI (EB (Ee (Zk 3)))
   (Zc (Zp (Hb (Z5 5) (Ha (F2 a.units (Zk 4) (Au (ZV (Z8 ["_law_k"] [] [] (CP ["_law_k"] [] (Zi J4)) rfl rfl  (HU (by rfl) T.n11 (Za (Zh ZC) Zd)) (λ_ _ _ _ _ _ _=>(Zo 0 (Cm ["_law_k"]))) (λ_ _ _ _ _ _ _=>ZX) (λ_ _ _ _ _ _ _=>(F2 a.units (Zk 0) Zn)) (by decide))))))))
   Zf)
   Zf)
   PR))))))))
end
theorem fin{l:PySem.W.OpenLaw}{w:Ai}{K:Ap}{h:Al}{mg:Af->Option Aa}{fa:Ad}(_:K.In h)(a:mg "law"=some (.ref fa)):(∃d,Tx K mg d)->∃fd:A5,(∀(s:Ac)(v:Aa),BindsTo s fd ⟨[v],[]⟩ [("_law_script",v)])/\∀base:Al,K.In base->base.Ns BD mg->Aw l.prog w K mg base A6 13 fa fd ["_law_script"] (Ki K):=
 λ⟨_,T⟩=>gQ a T.q37 (λ_=>lR T) kG λ_ _ _ _ _ _ _=>rfl
theorem walk{l:PySem.W.OpenLaw}{q:AS}{b:List Af}{g:(Af->Option Aa)->Al->Prop}{e:Ai->Al->Prop}{d:DefRec}{K:Params->Ap}(i:l.most=some 63)(c:d.params.defaults=[])
  (j:∀(w:Ai) (h:Al),e w h->(K w.params).In h)
  (F:∀(w:Ai) (mg:Af->Option Aa) (fa:Ad) (h:Al),(K w.params).In h->h.Ns BD mg->mg d.name=some (.ref fa) ->
   ∃fd:A5,(∀(s:Ac) (u:Aa),BindsTo s fd ⟨[u],[]⟩ [("_law_script",u)])/\∀base:Al,(K w.params).In base->base.Ns BD mg->Aw l.prog w (K w.params) mg base A6 13 fa fd ["_law_script"] (Ki (K w.params))):
  PySem.W.WalkO q b g e l.row.toRowW d [] (λf vs=>PySem.call f vs):=
 L2.walk_of (n:=63) (k:=13) (x:="_law_script") (CX:=λ_=>A6) (sp:=λw=>Ki (K w.params)) i (by decide) c ⟨rfl,by decide,by decide⟩ j F (λ_ _ a ns m _ o=>⟨a,ns,rfl,o,m,λ_=>rfl⟩) λ_ _ _ _ _ z=>z
end K56
end
namespace PySem.W.Fast
def tw10231638066711076569:=()
def tw1148939400220779096:=()
def tw283875466527423768:=()
def tw6068618922698478703:=()
def tw9213146030945831064:=()
def tw15860939472998489853:=()
def tw10074902390889988070:=()
def tw11969712833856034078:=()
def tw10514936417946869769:=()
def tw15183471715072309124:=()
def tw7794977779738340351:=()
def tw1699406498863117326:=()
def tw12520002768929324175:=()
def tw6870487787734686912:=()
def tw10060200720358940935:=()
def tw18219974018527447613:=()
def tw2328597063415202047:=()
def tw11573828241132290881:=()
def tw8830959667044968684:=()
def tw4940388670807290777:=()
def tw9258008790939635465:=()
def tw8991435731650796897:=()
def tw5988128983369449505:=()
def tw10973145656288848108:=()
def tw7057601438512800218:=()
def tw17775137818991483080:=()
def tw11433782324940223042:=()
def tw13791338767209000414:=()
def tw17461636947010007882:=()
def tw8123429060190282125:=()
def tw673223654618347446:=()
def tw6839386871572781541:=()
def tw6110063823253525233:=()
def tw336863640606885861:=()
def tw12903238837575381942:=()
def tw3050573752351141398:=()
def tw14634580899562686952:=()
def tw9040562564658857125:=()
def tw2241918110970338612:=()
def tw11663253000647031243:=()
def tw11910459489671647057:=()
def tw7527330614456673600:=()
def tw10885621935387056226:=()
def tw426629551074148420:=()
def tw9720720080701542360:=()
def tw16493315859532351372:=()
def tw15119563784400990733:=()
def tw11696664043516814117:=()
def tw16428183859377028572:=()
def tw6754027798123799418:=()
def tw17855683485224681523:=()
def tw4778266113815771291:=()
def tw17507102221635741043:=()
def tw14052076873582095609:=()
def tw11306201307254870546:=()
def tw586947095209597538:=()
def tw15973625596230447174:=()
def tw13885138905301799012:=()
def tw18377062929209972931:=()
def tw16658008413942707091:=()
def tw3483352186449247287:=()
def tw9425316877911845242:=()
def tw4189004712432971540:=()
def tw6716354500155548143:=()
def tw9892654253078848895:=()
def tw5770146189209848222:=()
def tw1830795697052070164:=()
def tw14644350314834237106:=()
def tw7724758269812652971:=()
def tw9923886669264561039:=()
def tw7792608690715768385:=()
def tw8672394134799969911:=()
def tw10492963932818492236:=()
def tw16064060599945572310:=()
def tw9964891897190043235:=()
def tw11997848201130308248:=()
def tw6930885486458827944:=()
def tw1032651857276930142:=()
def tw7253609608692465377:=()
def tw4536462889423334938:=()
def tw5546727931552689678:=()
def tw6306241389344940010:=()
def tw3003063179733890815:=()
def tw5064023499326939084:=()
def tw18374698343050913326:=()
def tw2272535979754067867:=()
def tw14244728483685498792:=()
def tw16963379157152586142:=()
def tw11210026944024873709:=()
def tw8651920810540731869:=()
def tw14474186078446099855:=()
def tw1387796928438244571:=()
def tw10047309558724951043:=()
def tw16929203340951055221:=()
def tw1243336709230637189:=()
def tw14923296569511211924:=()
def tw5135202326677708954:=()
def tw14982843872953916443:=()
def tw14162672337271474986:=()
def tw6722246216461116858:=()
def tw4255544299973996981:=()
def tw17975647390635723892:=()
def tw8472027253424975564:=()
def tw15961406026736664172:=()
def tw3237837803090456667:=()
def tw17376169960851193944:=()
def tw6374379945692004781:=()
def tw16973922050917937631:=()
def tw12271429155136738678:=()
def tw1868866518938248042:=()
def tw15035427942177504629:=()
def tw15794980773451631718:=()
def tw15634661681312997783:=()
def tw10980199995846244772:=()
def tw98011397700233964:=()
def tw16275342847294678811:=()
def tw9156823489059153436:=()
def tw1888338777340259296:=()
def tw8067192645231774822:=()
def tw11034206138288829035:=()
def tw1300690025136351579:=()
def tw11067856287571720357:=()
def tw14486610564045322507:=()
def tw17558415155251442832:=()
def tw13197178458708544684:=()
def tw15122483737563253626:=()
def tw9984528692814393976:=()
def tw1543152737546972502:=()
def tw15051719583918924905:=()
def tw15476211784881024984:=()
def tw15147896615074618651:=()
def tw10324448718384765434:=()
def tw12068528910908719704:=()
def tw2520116444202924838:=()
def tw3579487933620482696:=()
def tw15774489493267950904:=()
def tw11355790028352022513:=()
def tw10933066507556835578:=()
def tw813988531642509544:=()
def tw6554261658541759557:=()
def tw2182604833506365896:=()
def tw14138090491919314672:=()
def tw3049062715974325325:=()
def tw10825675261845625493:=()
def tw832712591823340796:=()
def tw14470747609864246945:=()
def tw5389063839631384869:=()
def tw12372033056487420467:=()
def tw12114688917705964383:=()
def tw17860469409893536472:=()
def tw8989998702439735597:=()
def tw16119176498215097645:=()
def tw11806594559216557980:=()
def tw9389791019286846022:=()
def tw17084436466711244161:=()
def tw4948089560994288137:=()
def tw15219056501403302253:=()
def tw6633289608006628059:=()
def tw2051993417317252517:=()
def tw16336063583123154722:=()
def tw15664226114847877909:=()
def tw4118768625808261296:=()
def tw9045213857686065319:=()
def tw7858268254183293832:=()
def tw428188497247959713:=()
def tw1172908287497942797:=()
def tw13025281698395420935:=()
def tw11935048258488520031:=()
def tw8161186415875754912:=()
def tw6668123846973226441:=()
def tw4472056184451595907:=()
def tw3567010193703048266:=()
def tw14603281110821050080:=()
def tw259770234950606428:=()
def tw15861337693676564503:=()
def tw3707751560193427677:=()
def tw18189851508105643112:=()
def tw12179678069226288599:=()
def tw10157456999866437316:=()
def tw7933489426537259564:=()
def tw10854300928345321455:=()
def tw7909435535705943277:=()
def tw7032871850245861693:=()
def tw4845572395932498788:=()
def tw14520775742583839603:=()
def tw13029502129782048823:=()
def tw12754503560284288354:=()
def tw12166695436733093639:=()
def tw4942210905361441542:=()
def tw16100562968676223248:=()
def tw17458254181365246989:=()
def tw7273962433223283788:=()
def tw10984050702626253532:=()
def tw16030349004169839288:=()
def tw8480965718119860465:=()
def tw15293011713809899681:=()
def tw15820692673855186905:=()
def tw18315636920072578197:=()
def tw6275681674208552711:=()
def tw4197790102065090976:=()
def tw16699935027722245195:=()
def tw7574456837321851122:=()
def tw208194259380234706:=()
def tw12295371627441608270:=()
def tw12621440554358278767:=()
def tw12106314123885636455:=()
def tw5274123830791302635:=()
def tw15915576350752041422:=()
def tw7868416428836505591:=()
def tw2107137840744795701:=()
def tw15747483123274148697:=()
def tw9271063015604746897:=()
def tw16426514865179632932:=()
def tw8356012951766900896:=()
def tw804230830071385651:=()
def tw14709125567915957994:=()
def tw2903959656454732541:=()
def tw14861641354530947670:=()
def tw10351421643194803933:=()
def tw7453841563955633781:=()
def tw5966129913681068911:=()
def tw12114350944631700232:=()
def tw370121367104109953:=()
def tw1845867513742578303:=()
def tw15329237869465786077:=()
def tw13733631565145007888:=()
def tw14930639567063037603:=()
def tw10185515132340198857:=()
def tw861487037444633709:=()
def tw8595859379562250205:=()
def tw8462889690070832758:=()
def tw767345787823243199:=()
def tw7110571798870853682:=()
def tw5055499423250651761:=()
def tw239893975370565458:=()
def tw1712347167995611384:=()
def tw12185381519052821746:=()
def tw12101731853712421554:=()
def tw13296578133203574393:=()
def tw10718854802366824713:=()
def tw7633161611170212185:=()
def tw3229196273927810379:=()
def tw1629775256565131047:=()
def tw14708464340132476363:=()
def tw15285468344298969586:=()
def tw13826531773346412821:=()
def tw8967554722280960755:=()
def tw5900352785302062533:=()
def tw5808275284926458736:=()
def tw4244260661517567602:=()
def tw12015535393887428222:=()
def tw5725080816984730806:=()
def tw624488234193733311:=()
def tw12048069786680715052:=()
def tw1738426199100578794:=()
def tw4733558587748924677:=()
def tw15390388159140011995:=()
def tw12361496547010010434:=()
def tw1524958718437489976:=()
def tw6296422014742367573:=()
def tw2268705145976187896:=()
def tw1543711813310427522:=()
def tw11252656167816903743:=()
def tw6856510744484157267:=()
def tw6284082731256590510:=()
def tw3413069855383649029:=()
def tw4986785107887615053:=()
def tw273953150786067413:=()
def tw5233787213933717798:=()
def tw8535254482935042576:=()
def tw15858917078195989441:=()
def tw3420489456225734184:=()
def tw17580741247349253174:=()
def tw15288983278585915777:=()
def tw6365031852409964809:=()
def tw3237963377883939388:=()
def tw3689743277419379711:=()
def tw1950451508956303610:=()
def tw5126294935273872982:=()
def tw11245747471789894913:=()
def tw15909106904688637951:=()
def tw4757789337649532436:=()
def tw18028354778588446836:=()
def tw17464827091160878088:=()
def tw8094054363205573782:=()
def tw11870430085489331946:=()
def tw10672102150873584337:=()
def tw2132281728644350952:=()
def tw10807397363126213857:=()
def tw13411555875755759626:=()
def tw6269701441244974354:=()
def tw4199875549395181225:=()
def tw15117744245446778616:=()
def tw10625247850455108976:=()
def tw5670134232235285689:=()
def tw274367122767967477:=()
def tw11367902205648230954:=()
def tw10366138748014775928:=()
def tw8838412569663496080:=()
def tw958891599298630098:=()
def tw1566677334832137804:=()
def tw12340330631841401412:=()
def tw18389058564632094071:=()
def tw9386317058989753253:=()
def tw18062731427548481316:=()
def tw15186145958816591009:=()
def tw17105589121590454560:=()
def tw7913541097530590390:=()
def tw426759713127636504:=()
def tw12413898928426205156:=()
def tw4030046095444461536:=()
def tw2604371597683806145:=()
def tw10306112167732753726:=()
def tw1550238004767541236:=()
def tw6686615645127270563:=()
def tw185930077685584510:=()
def tw721508922174538292:=()
def tw3162282594799391338:=()
def tw3094714458945745387:=()
def tw16693498688348778349:=()
def tw15240768757392751764:=()
def tw14115273502480784628:=()
def tw12210423837237822232:=()
def tw9974981559747507947:=()
def tw8071884187343313572:=()
def tw4914198154378148086:=()
def tw18121523956217173709:=()
def tw17690434989018404802:=()
def tw13514634468424530626:=()
def tw11642096932818080245:=()
def tw919568347396829630:=()
def tw8009400942337167167:=()
def tw6863317829585386325:=()
def tw6116656443710560997:=()
end PySem.W.Fast
open PySem PySem.W PyProof.Rows
set_option maxRecDepth 100000 in
set_option maxHeartbeats 0 in
theorem PySem.Challenge.cw_cubebook_k56_refused_books_holds : PySem.Challenge.rw_cubebook_k56_refused_books.Holds := by
 w_on;o_law;k_head;(case hw=>w_witness2)
 k_fill
 refine K56.walk (l:=PySem.Challenge.rw_cubebook_k56_refused_books) rfl rfl (fun w h Y=>PySem.W.kIn_of Y) ?F
 case F =>
  intro w mg fa h KX G hmg
  open L2 in refine' K56.fin KX hmg ⟨⟨_,_,_,_,_,_,_,_,_,_,_,_,_,_,_,_,_,_,_,_,_,_,_,_,_,_,_,_,_,_,_,_,_,_,_,_,_,_,_,_,_,_,_,_,_,_,_,_,_,_,_,_,_,_,_,_,_,_,_,_,_,_,_,_,_,_,_,_,_,_,_,_,_,_,_,_,_,_,_,_,_,_,_,_,_,_⟩,⟨L2.ci KX G ?_ ?_ ?_ ?_ ?_ ?_ ?_,?_,?_,?_,di KX G ?_ ?_ ?_ ?_,di KX G ?_ ?_ ?_ ?_,di KX G ?_ ?_ ?_ ?_,di KX G ?_ ?_ ?_ ?_,di KX G ?_ ?_ ?_ ?_,di KX G ?_ ?_ ?_ ?_,di KX G ?_ ?_ ?_ ?_,di KX G ?_ ?_ ?_ ?_,di KX G ?_ ?_ ?_ ?_,di KX G ?_ ?_ ?_ ?_,di KX G ?_ ?_ ?_ ?_,di KX G ?_ ?_ ?_ ?_,di KX G ?_ ?_ ?_ ?_,di KX G ?_ ?_ ?_ ?_,di KX G ?_ ?_ ?_ ?_,di KX G ?_ ?_ ?_ ?_,di KX G ?_ ?_ ?_ ?_,di KX G ?_ ?_ ?_ ?_,di KX G ?_ ?_ ?_ ?_,di KX G ?_ ?_ ?_ ?_,di KX G ?_ ?_ ?_ ?_,di KX G ?_ ?_ ?_ ?_,di KX G ?_ ?_ ?_ ?_,L2.mi ?_ ?_ ?_ ?_ ?_,L2.mi ?_ ?_ ?_ ?_ ?_,L2.mi ?_ ?_ ?_ ?_ ?_,L2.mi ?_ ?_ ?_ ?_ ?_,L2.mi ?_ ?_ ?_ ?_ ?_,L2.mi ?_ ?_ ?_ ?_ ?_,di KX G ?_ ?_ ?_ ?_,di KX G ?_ ?_ ?_ ?_,di KX G ?_ ?_ ?_ ?_,di KX G ?_ ?_ ?_ ?_,di KX G ?_ ?_ ?_ ?_,di KX G ?_ ?_ ?_ ?_,di KX G ?_ ?_ ?_ ?_,di KX G ?_ ?_ ?_ ?_,di KX G ?_ ?_ ?_ ?_,mg_none_of KX G ?_,mg_none_of KX G ?_,mg_none_of KX G ?_,mg_none_of KX G ?_,mg_none_of KX G ?_,mg_none_of KX G ?_,mg_none_of KX G ?_,mg_none_of KX G ?_,mg_none_of KX G ?_,mg_none_of KX G ?_,mg_none_of KX G ?_,mg_none_of KX G ?_,mg_none_of KX G ?_,mg_none_of KX G ?_,mg_none_of KX G ?_,mg_none_of KX G ?_,mg_none_of KX G ?_,⟨_,mg_of KX G ?_,⟨_,rfl⟩⟩,⟨_,mg_of KX G ?_,⟨_,rfl⟩⟩,⟨_,mg_of KX G ?_,⟨_,rfl⟩⟩,⟨_,mg_of KX G ?_,⟨_,rfl⟩⟩,⟨_,mg_of KX G ?_,⟨_,rfl⟩⟩,⟨_,mg_of KX G ?_,⟨_,rfl⟩⟩,mg_of KX G ?_,?_,mg_of KX G ?_,?_,mg_of KX G ?_,?_,mg_of KX G ?_,?_,mg_of KX G ?_,?_,mg_of KX G ?_,?_,mg_of KX G ?_,?_,mg_of KX G ?_,?_,mg_of KX G ?_,?_,L2.mk_of ?_ ?_,⟨?_,?_,?_,?_,?_,?_,⟨_,?_⟩⟩,L2.kit_ne ?_ ?_ ?_ ?_,L2.kit_self,L2.kit_ne ?_ ?_ ?_ ?_,L2.kit_ne ?_ ?_ ?_ ?_,L2.kit_ne ?_ ?_ ?_ ?_,L2.kit_ne ?_ ?_ ?_ ?_,L2.kit_ne ?_ ?_ ?_ ?_,L2.kit_ne ?_ ?_ ?_ ?_,L2.kit_V ?_,L2.exm_of ?_ ?_ ?_ ?_⟩⟩
  all_goals try (show (_:Prop);first | k_is | rfl | k_exc)
#print axioms PySem.Challenge.cw_cubebook_k56_refused_books_holds
