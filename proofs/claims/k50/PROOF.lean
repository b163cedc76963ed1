import PyProof.Rows.All
import Wide.All
import OpenK.AllK
import Wide.FinOn
import Lean
import PyProof.EqAt
import PyProof.EqKinds
import PyProof.TupleCall
import PyProof.TupleKey
import PyProof.DictRoadsH
import Wide.Seal
import PyProof.NeKinds
import PyProof.ZipIter
import PyProof.EnumMake
import PyProof.Rows.TupTab
import KE.KDictLaws
import PyProof.AutoListH
import PyProof.AttrMissHeap
import KE.KDictOf
import KE.KIntText
import PyProof.StrBlockL
import PyProof.StrLawsChain
import PyProof.FString
import PyProof.Rows.FStr
import OpenK.KOwn
import KE.KIsAll
import KE.KDictList
import PyProof.Draws
import PySem.Challenge.RW_cubebook_k50_poured
open List renaming getElem?_cons_zero→AG,getElem?_cons_succ→AN,map_cons→AI,mem_cons_of_mem→A9,mem_cons_self→A8,set_cons_zero→Bb,set_cons_succ→Bk,length_map→Bd,length_cons→Bp,size_toArray→Bx,getElem?_eq_getElem→Dl,getElem?_set_ne→C1,mem_append_right→Df,length_nil→B9,getElem?_set_self→Dz,map_nil→B3,append_nil→CF,range→BU,replicate_zero→D2,map_map→Ct,getElem?_map→DL,replicate→Do,nil_append→DG,cons_append→EH,mem_map_of_mem→Gq,replicate_succ→Gv,mem_append_left→Gy,map_append→Fj,length_append→GA,all_eq_true→CK,zip_cons_cons→G6,mem_cons→Bh,mem_of_getElem?→Ip,all_map→FF,ext_getElem?→HK,getElem?_replicate→Kr,mem_singleton→Ew,range_eq_range'→J7,lookup_cons→HH,range'→FN,getElem?_append→KD,getElem_mem→IL,zipWith→GO,append_assoc→JZ,drop_eq_getElem_cons→MF,length_replicate→Lm,foldl_cons→JL,drop_eq_nil_of_le→MD,take_of_length_le→M0,range'_succ→Lc,getD→Gg,length_set→Kw,not_mem_nil→LI,zipWith_cons_cons→Rf,getElem?_drop→MC,nodup_cons→Gc,getElem?_append_right→SM,all_cons→KG,getElem?_append_left→SN,filterMap_cons_none→UB,filterMap_cons_some→UC,filterMap_cons→Om,mem_append→Dk,nodup_append→GH,length_take→Oy,length_drop→OA,mem_or_eq_of_mem_set→cU,eraseIdx_cons_succ→gL
open PySem renaming wpAny_bind→Al,sizeLine→AB,wpAny_pure→AO,Spec→Qar,starEach→AY,FuncData→A2,Program→A4,mainGlobals→De,wpAny_loadPart'→EV,foldedSetIterable→FV,wpAny_callSpecial?_slot→HE,compareOp→DA,swapsWith→DB,wpAny_field→Ef,wpAny_setField_rec→Hq,attributeBase→Fw,wpAny_holding→FU,bootBuiltins→Fq,wpAny_call_entry→G1,wpAny_newObj_type→HF,sliceBounds→E9,wpAny_truthy_bool→Ij,behindInMarks→Gz,sizeLine_eq→F9,keywordEach→Gb,sysModules→FS,mem_of_lookup→Ll,NameKind→Fx,Keyword→ET,tupleKind_room_in1→LL,assignEach→GY,codeAny_builtin→Ky,Builtin→Fd,wpAny_typeNameOfWhole_keyiter→Ug,holding→Fs,backToKw→Ga,wpAny_seqItems→K4,wpAny_Call_Name_kw→My,wpAny_rule→II,binaryOp→GZ,wpAny_typeOf→Ks,wpAny_typeNameOf_keyiter→Uh,wpAny_getItem_str_slice→Tk,plainId_quiet→Lo,wpAny_attempt→LV,DictEntry→Ih,wpAny_pyIter_list→Oq,wpAny_dictEntries→Pc,letOwnedTupleGo→Op,wpAny_passesOwn→Ou
open PySem.W renaming Frag→Av,emptyDict→Jp,findIn→Jo,instObj→Kj,keepIn→Kq,fnOf→Jr
open Option renaming bind→Ay,map→AU,map_some→Iy,isSome_map→Pb
open PySem.Heap renaming get?_push_of_some→BG,get?_push_size→Cm,lt_size→BC,SameBut→ED,size_push→Io,get?_update_other→SY,get?_update_self→SX
open Nat renaming le_refl→Bl,lt_of_lt_of_le→CC,le_trans→BX,ne_of_lt→CD,reduceAdd→DK,reduceSub→Ep,zero_le→E7,lt_irrefl→Gx,ne_of_gt→Im,lt_trans→Ju,zero_add→Ka,lt_or_ge→LS
open False renaming elim→Bo
open Bool renaming and_eq_true→Dp,not_true→C8,false_eq_true→EG,and_self→Ec,false_ne_true→Hz,not_false→Mh,not_eq_true→MZ,eq_iff_iff→NX
open PySem.Value renaming ref→Cy,none→FQ
open PySem.PassesOwn renaming never→ER
open Classical renaming propDecidable→HM
open PySem.W.KasT renaming kasWp→DJ,kasWp_bind→Ph
open PySem.Builtin.SmallTypes renaming nextOf→I0,ownedTupleIsFree→Nq,ownedTupleHandOut→UI
open Ne renaming symm→CT
open Int renaming toNat_natCast→Gi,emod_lt_of_pos→Hv,emod_nonneg→Gu
open Option.some renaming inj→FT,injEq→MO
open PySem.NameKind renaming free→Fy,cell→Jt
open PySem.F renaming plainAttrs_list→Jz,slot_dict_keyiterator_next→Uf,slot_tuple_iterator_next→UG,slot_dict_setdefault→T1,slot_enumerate_next→UQ,slot_list_clear→Ud,type_list_clear→Ue,slot_zip_next→UH,args_tuple_add_2→ay,args_dict_keyiterator_next_1→qd,entry_dict_keyiterator_next→qc,entry_tuple_add→ax,plainAttrs_dict→bP,args_tuple_iterator_next_1→qY,entry_tuple_iterator_next→qX
open Array renaming length_toList→Jl,getElem?_toList→Tb,getD_eq_getD_getElem?→bR,getElem?_eq_getElem→bS
open PySem.Obj renaming mapSeq→E8,data_mapFields→Ui
open PySem.Paired renaming length→Gw
open PyProof.Rows renaming callWith_type1→Mu,slot_tuple_getitem→SQ,listUpdate_at→Nh
open PySem.Around renaming under_plainId→Kz
open PySem.Str renaming ofString→GB
open PySem.Builtin.Str renaming occurrences→Mw
open PySem.Heap.SameBut renaming update→LN
open True renaming intro→HD
open PySem.Builtin.Slice renaming slicePlaces→SO,sliceAdjust→YI
open PySem.Builtin.Tuple renaming tupleExact→SR
open List.cons renaming injEq→Pa
open PySem.Builtin.List renaming listTooLong→YT
open PySem renaming Value→Aa,Shared→Ab,Addr→Ac,Str→Ae,model→Ag,Around→Ah,World→Aj,Heap→Am,Stmt→Ar,eval→Ax,cLine→AA,Obj→AK,backTo→AL,Pos→AQ,Builtin→AW,rawInt→Be,IsPair→BB,pyNext→BI,tupleKind→BN,call_meets→BQ
open Pure renaming pure→AH
open PyProof.Rows renaming envOfC→By
open Option renaming some→Z,none→yA
open Bool renaming true→yB,false→yC
abbrev U:=@List
abbrev O:=@Option
set_option Elab.async false
set_option linter.all false
set_option maxHeartbeats 4000000
set_option maxRecDepth 100000
noncomputable section
set_option compiler.extract_closed false
set_option bootstrap.genMatcherCode false
set_option genSizeOf false
set_option genSizeOfSpec false
local macro_rules|`(tactic|erw[$[$t:term],*]$[$l]?)=>`(tactic|simp only[$[$t:term],*]$[$l]?)
local macro_rules|`(tactic|ext)=>`(tactic|decide)
variable{E Q:Aa->Ab->Prop}{C a:Ac}{apos cpos p2 pos:AQ}{B pins:U (Ac×AK)}{elts es ifs:U PySem.Expr}{u:Aa}{us:U Aa}{ws:U Nat}{pl:PySem.Sem Bool}{scope:PySem.Scope}{o:AK}{ek elt iter tg:PySem.Expr}{ps:U Ae}{j t':Nat}{h':Am}{items:Array Aa}{R:PySem.Result->Ab->Prop}{g':Array PySem.GenState}{T:String}{RR:Aa->Ac->PySem.Result->Ab->Prop}{isA:Nat->Aa->Prop}{ch:U Ac}{body:U Ar}{d':PySem.Drawn}{tn:Nat->Am->Prop}
def yaa(h:True:=by first|exact .inl rfl|exact .inr rfl|assumption):=h
def ya:Lean.Syntax:=yaa._auto_1
def yba(h:True:=by with_unfolding_all rfl):=h
def yb:Lean.Syntax:=yba._auto_1
def yca(h:True:=by first|exact Or.inl rfl|exact Or.inr (Or.inl rfl)|exact Or.inr (Or.inr rfl)):=h
def yc:Lean.Syntax:=yca._auto_1
def yea(h:True:=by exact Ev rfl):=h
def ye:Lean.Syntax:=yea._auto_1
def yfa(h:True:=by first|exact .inl rfl|exact .inr rfl):=h
def yf:Lean.Syntax:=yfa._auto_1
namespace L2
open PySem PySem.Spec PyProof.Rows
abbrev E5:=Sum Int Ae
noncomputable def X3:E5->Aa->Bool
 |.inl k,v=>Value.isInt k v
 |.inr x,v=>Value.isStrOf x v
def j4(w:Aj):E5->Int
 |.inl k=>hashInt k
 |.inr x=>hashStr w x
def Ig:∀{k:E5}{v:Aa},X3 k v=yB->(∃i t,k=Sum.inl i/\v=Value.int i t)\/(∃x t,k=Sum.inr x/\v=Value.str x t)
 |.inl i,v,h=>by
  obtain⟨t,e⟩:=Value.isInt_shape h;exact .inl ⟨i,t,rfl,e⟩
 |.inr x,v,h=>by
  obtain⟨t,e⟩:=Value.isStrOf_shape h;exact .inr ⟨x,t,rfl,e⟩
def j5(a b:Int):decide ((Sum.inl a:E5)=Sum.inl b)=(a==b):=by
 by_cases e:a=b
 ·subst e;simp
 ·have h:¬ (Sum.inl a:E5)=Sum.inl b:=λq=>e<|Sum.inl.inj q;rw[decide_eq_false h];exact(beq_eq_false_iff_ne.mpr e).symm
def j6(a b:Ae):decide ((Sum.inr a:E5)=Sum.inr b)=decide (a=b):=by
 by_cases e:a=b
 ·subst e;simp
 ·have h:¬ (Sum.inr a:E5)=Sum.inr b:=λq=>e<|Sum.inr.inj q;rw[decide_eq_false h,decide_eq_false e]
def j7(a:Int)(b:Ae):decide ((Sum.inl a:E5)=Sum.inr b)=yC:=decide_eq_false<|λq=>nomatch q
def j8(a:Ae)(b:Int):decide ((Sum.inr a:E5)=Sum.inl b)=yC:=decide_eq_false<|λq=>nomatch q
def Sq(prog:A4)(w:Aj):PySem.KeyKind prog w E5 where
 is:=X3
 hash:=j4 w
 inj:=λv a b g f=>by
  rcases Ig g with⟨i,t,rfl,rfl⟩|⟨x,t,rfl,rfl⟩
  ·rcases Ig f with⟨j,u,rfl,e⟩|⟨y,u,rfl,e⟩
   ·injection e with c _;rw[c]
   ·exact nomatch e
  ·rcases Ig f with⟨j,u,rfl,e⟩|⟨y,u,rfl,e⟩
   ·exact nomatch e
   ·injection e with c _;rw[c]
 byValue:=λk v h=>by
  rcases Ig h with⟨i,t,rfl,rfl⟩|⟨x,t,rfl,rfl⟩<;>rfl
 pyHash:=λd h=>by
  rcases Ig d with⟨i,t,rfl,rfl⟩|⟨x,t,rfl,rfl⟩
  ·exact wpAny_pyHash_int h
  ·exact wpAny_pyHash_str h
 eqBool:=λl d h=>by
  rcases Ig l with⟨i,t,rfl,rfl⟩|⟨x,t,rfl,rfl⟩
  ·rcases Ig d with⟨j,u,rfl,rfl⟩|⟨y,u,rfl,rfl⟩
   ·rw[j5]at h;exact wpAny_eqBool_int h
   ·rw[j7]at h;exact SeqAt.EqAt.int_str i t y u _ _ _ _ h
  ·rcases Ig d with⟨j,u,rfl,rfl⟩|⟨y,u,rfl,rfl⟩
   ·rw[j8]at h;exact SeqAt.EqAt.str_int x t j u _ _ _ _ h
   ·rw[j6]at h;exact wpAny_eqBool_str h
 «strs»:=λk x t v h=>by
  rcases Ig h with⟨i,u,rfl,e⟩|⟨y,u,rfl,e⟩
  ·exact nomatch e
  ·injection e with c _
   subst c
   cases v<;>rfl
inductive V where
 |non|bl (b:Bool)|int (i:Int)|str (x:Ae)|byt (b:Array UInt8)|flt (b:UInt64)|ref (a:Ac)|ty (n:String)
 deriving DecidableEq
variable{vs ys:U V}{y:V}
def RelV:V->Aa->Prop
 |.non,u=>u=FQ
 |.bl b,u=>u=Value.bool b
 |.int i,u=>∃t,u=Value.int i t
 |.str x,u=>∃t,u=Value.str x t
 |.byt b,u=>∃t,u=Value.bytes b t
 |.flt b,u=>∃t,u=Value.float b t
 |.ref a,u=>u=Cy a
 |.ty n,u=>u=Value.type n
abbrev As:U V->U Aa->Prop:=Paired RelV
def As.length{xs:U V}(r:As xs us):xs.length=us.length:=Gw r
theorem As.get:∀{xs:U V}{us:U Aa}{i:Nat}{x:V},As xs us->xs[i]?=Z x->∃u,us[i]?=Z u/\RelV x u
 |_,_,_,_,.nil,e=>by simp at e
 |_,_,0,_,.cons r _,e=>by simp at e;subst e;exact⟨_,rfl,r⟩
 |_,_,i+1,x,.cons _ t,e=>by
  obtain⟨u,a,b⟩:=As.get t (by simpa using e);exact⟨u,by simpa using a,b⟩
theorem As.set{x:V}{u:Aa}(r:RelV x u):∀{xs:U V}{us:U Aa}(i:Nat),As xs us->As (xs.set i x) (us.set i u)
 |_,_,_,.nil=>.nil
 |_,_,0,.cons _ t=>.cons r t
 |_,_,i+1,.cons q t=>.cons q<|As.set r i t
theorem As.append:∀{xs ys:U V}{us ws:U Aa},As xs us->As ys ws->As (xs++ys) (us++ws)
 |_,_,_,_,.nil,s=>s
 |_,_,_,_,.cons r t,s=>.cons r<|As.append t s
theorem As.take:∀{xs:U V}{us:U Aa}(n:Nat),As xs us->As (xs.take n) (us.take n)
 |_,_,0,_=>.nil
 |_,_,_+1,.nil=>.nil
 |_,_,n+1,.cons r t=>.cons r<|As.take n t
theorem As.drop:∀{xs:U V}{us:U Aa}(n:Nat),As xs us->As (xs.drop n) (us.drop n)
 |_,_,0,r=>r
 |_,_,_+1,.nil=>.nil
 |_,_,n+1,.cons _ t=>As.drop n t
def CS:O V->O Aa->Prop
 |some v,Z u=>RelV v u
 |none,yA=>True
 |_,_=>False
def KV{a:Type}:U (a×V)->U (a×Aa)->Prop:=Paired λ(p:a×V)(q:a×Aa)=>p.1=q.1/\RelV p.2 q.2
def kV:E5->V
 |.inl i=>.int i
 |.inr x=>.str x
inductive At where
 |non|int (i:Int)|str (x:Ae)
 deriving DecidableEq
variable{L:U (U (U At))}
def Jj:At->Aa->Bool
 |.non,.none=>yB
 |.int k,v=>Value.isInt k v
 |.str x,v=>Value.isStrOf x v
 |_,_=>yC
noncomputable def Sr(w:Aj):At->Int
 |.non=>reduceHash 4238894112
 |.int k=>hashInt k
 |.str x=>hashStr w x
def Jk:∀{k:At}{v:Aa},Jj k v=yB->(k=.non/\v=.none)\/(∃i t,k=.int i/\v=Value.int i t)\/(∃x t,k=.str x/\v=Value.str x t)
 |.non,v,h=>by cases v<;>first|exact .inl ⟨rfl,rfl⟩|exact absurd h Hz
 |.int i,v,h=>by obtain⟨t,e⟩:=Value.isInt_shape h;exact .inr<|.inl ⟨i,t,rfl,e⟩
 |.str x,v,h=>by obtain⟨t,e⟩:=Value.isStrOf_shape h;exact .inr<|.inr ⟨x,t,rfl,e⟩
def j9(i:Int)(t:Tok):Jj (.int i) (.int i t)=yB:=by simp[Jj,Value.isInt]
def ka(x:Ae)(t:Tok):Jj (.str x) (.str x t)=yB:=by simp[Jj,Value.isStrOf]
def kc{Q:Int->Ab->Prop}(h:Q (reduceHash 4238894112) {s with toks:=s.toks+1}):wpAny (Ag prog w) A (PySem.pyHash .none) Q E s:=PySem.W.pyHash_slot rfl F.slot_NoneType_hash F.entry_NoneType_hash (F.args_NoneType_hash_1 _) (beq_builtin_none _) (.inl rfl)<|Al<|AO<|Al<|wpAny_mkInt<|AO ⟨_,_,rfl,h⟩
def kd(a b:Int):decide ((At.int a)=.int b)=(a==b):=by
 by_cases e:a=b
 ·subst e;simp
 ·rw[decide_eq_false<|λq=>e (by injection q)];exact(beq_eq_false_iff_ne.mpr e).symm
def kf(a b:Ae):decide ((At.str a)=.str b)=decide (a=b):=by
 by_cases e:a=b
 ·subst e;simp
 ·rw[decide_eq_false<|λq=>e (by injection q),decide_eq_false e]
def Dy(prog:A4)(w:Aj):PySem.KeyKind prog w At where
 is:=Jj
 hash:=Sr w
 inj:=λv a b d f=>by
  rcases Jk d with⟨rfl,rfl⟩|⟨i,t,rfl,rfl⟩|⟨x,t,rfl,rfl⟩<;>rcases Jk f with⟨rfl,e⟩|⟨j,u,rfl,e⟩|⟨y,u,rfl,e⟩ <;>
   first|rfl|(cases e;done)|(cases e;rfl)
 byValue:=λk v h=>by
  rcases Jk h with⟨rfl,rfl⟩|⟨i,t,rfl,rfl⟩|⟨x,t,rfl,rfl⟩<;>rfl
 pyHash:=λc h=>by
  rcases Jk c with⟨rfl,rfl⟩|⟨i,t,rfl,rfl⟩|⟨x,t,rfl,rfl⟩
  ·exact kc h
  ·exact wpAny_pyHash_int h
  ·exact wpAny_pyHash_str h
 eqBool:=λg c h=>by
  rcases Jk g with⟨rfl,rfl⟩|⟨i,t,rfl,rfl⟩|⟨x,t,rfl,rfl⟩<;>rcases Jk c with⟨rfl,rfl⟩|⟨j,u,rfl,rfl⟩|⟨y,u,rfl,rfl⟩
  ·exact SeqAt.EqAt.same FQ _ _ _ _ h
  ·exact SeqAt.EqAt.none_int j u _ _ _ _ h
  ·exact SeqAt.EqAt.none_str y u _ _ _ _ h
  ·exact SeqAt.EqAt.int_none i t _ _ _ _ h
  ·rw[kd]at h;exact wpAny_eqBool_int h
  ·exact SeqAt.EqAt.int_str i t y u _ _ _ _ h
  ·exact SeqAt.EqAt.str_none x t _ _ _ _ h
  ·exact SeqAt.EqAt.str_int x t j u _ _ _ _ h
  ·rw[kf]at h;exact wpAny_eqBool_str h
 «strs»:=λk x t v h=>by
  rcases Jk h with⟨rfl,e⟩|⟨i,u,rfl,e⟩|⟨y,u,rfl,e⟩
  ·exact nomatch e
  ·exact nomatch e
  ·injection e with l _
   subst l
   cases v<;>rfl
inductive KT where
 |at(a:At)|tup (l:List At)
 deriving DecidableEq
def KT.hash(w:Aj):KT->Int
 |.at a=>Sr w a
 |.tup l=>reduceHash (Builtin.Tuple.tupleHashOf (l.map (Sr w)))
def E6:At->V
 |.non=>.non
 |.int i=>.int i
 |.str x=>.str x
def kg:KT->V->Prop
 |.at a,v=>v=E6 a
 |.tup _,v=>∃p,v=.ref p
def Ki(w:Aj):U KT->U V->U Ih->Prop
 |[],a,b=>a=[]/\b=[]
 |k::c,a,b=>∃kv v r e t,a=kv::v::r/\b=e::t/\RelV kv e.key/\RelV v e.val/\e.hash=k.hash w/\kg k kv/\Ki w c r t
inductive HO where
 |lst (xs:List V)
 |tup (xs:List V)
 |dK (kvs:List (E5×V))|dT (kvs:List (List E5×V))
 |dct (ks:List KT) (vs:List V)
 |set (S:Int->Bool) (n:Nat)
 |ins (C dx:Ac) (fs:List (Ae×V))
 |own (x:Ac)
 |xd (fs:List (Ae×V))
 |met (f x:Ac)
 |rng (lo hi:Int)
 |frz (o:AK) (u:HO)
 |tbl (ps:Array Aa)
 |ext (φ:Am->Prop)
abbrev Hp:=Ac->O HO
variable{H H' H0:Hp}
def AM(H:Hp)(a:Ac)(o:HO):Hp:=λb=>if b=a then Z o else H b
def D4{o:HO}:AM H a o a=Z o:=by unfold AM;rw[if_pos rfl]
def ZA{b:Ac}{o:HO}(h:b≠a):AM H a o b=H b:=by unfold AM;rw[if_neg h]
def kh{o u:HO}:AM (AM H a o) a u=AM H a u:=by
 funext b;unfold AM;split<;>rfl
def FR{b:Ac}{o:HO}(h:H a=Z o)(h':H b=yA):a≠b:=by
 intro e;subst e;rw[h]at h';cases h'
section
variable(P:A4)(w:Aj)
def Bc(H:Hp)(h:Am)(a:Ac):HO->Prop
 |.lst d=>d.length<=AB/\∃(b:U Aa) (n:Nat),As d b/\h.get? a=Z {cls:=.type "list",data:=.seq b.toArray n}
 |.tup d=>d.length<=AB/\∃b:U Aa,As d b/\IsTup h a b.toArray
 |.dK c=>c.length<=AB/\(a==FS)=yC/\∃j,KV c j/\h.DictOf (Sq P w) a j
 |.dT c=>c.length<=AB/\(a==FS)=yC/\∃d:U (U E5×Ac×Aa),
   Paired (λ(p:U E5×V) (q:U E5×Ac×Aa)=>p.1=q.1/\H q.2.1=Z (.tup (p.1.map kV))/\RelV p.2 q.2.2) c d /\
   ∃o g l,h.get? a=Z o/\o.ExactDict/\o.data=.dict g l/\g.toList=d.map (entryOfKey (BN (Sq P w)))/\(d.map (·.1)).Nodup
 |.dct m j=>m.length<=AB/\(a==FS)=yC/\m.Nodup/\∃o g l,h.get? a=Z o/\o.ExactDict/\o.data=.dict g l/\Ki w m j g.toList
 |.set S n=>h.SetOf (intKind P w) a S n
 |.ins C k i=>H k=Z (.own a)/\i.length<=1000/\k≠a/\h.get? a=Z (Kj C k) /\
   ∃e,h.Ns1 k e/\(∀f,CS (i.lookup f) (e f))/\PySem.Within e (i.map (·.1))
 |.own _=>∃o,h.get? a=Z o
 |.xd i=>∃e,h.Ns1 a e/\∀f,CS (i.lookup f) (e f)
 |.rng lo z=>∃t u v,h.get? a=Z {cls:=.type "range",data:=.fields #[.int lo t,.int z u,.int 1 v]}
 |.frz o u=>h.get? a=Z o/\Bc H h a u
 |.tbl A=>h.get? a=Z {cls:=.none,data:=.fields A}
 |.met f x=>h.get? a=Z (PySem.W.methodObj (.ref f) (.ref x))
 |.ext r=>r h/\(∃o,h.get? a=Z o)/\∀s y:Am,r s->(∀o,s.get? a=Z o->y.get? a=Z o)->r y
def Cz(H:Hp)(h:Am):Prop:=∀a o,H a=Z o->Bc P w H h a o
end
section
variable{P:A4}{w:Aj}{h:Am}{o:HO}
def Bc.lt(x:Bc P w H h a o):a<h.objs.size:=by
 cases o with
 |lst c=>obtain⟨_,_,_,_,e⟩:=x;exact BC e
 |tup c=>obtain⟨_,_,_,p⟩:=x;exact p.lt
 |dK b=>obtain⟨_,_,_,_,o,_,_,e,_⟩:=x;exact BC e
 |dT b=>obtain⟨_,_,_,_,o,_,_,e,_⟩:=x;exact BC e
 |dct g i=>obtain⟨_,_,_,o,_,_,e,_⟩:=x;exact BC e
 |set S n=>obtain⟨o,_,_,_,e,_⟩:=x;exact BC e
 |ins C j d=>obtain⟨_,_,_,e,_⟩:=x;exact BC e
 |own y=>obtain⟨_,e⟩:=x;exact BC e
 |xd d=>obtain⟨_,⟨_,_,_,e,_⟩,_⟩:=x;exact BC e
 |rng lo k=>obtain⟨_,_,_,e⟩:=x;exact BC e
 |frz l u=>obtain⟨e,_⟩:=x;exact BC e
 |tbl m=>exact BC (show h.get? a=Z _ from x)
 |met f y=>exact BC (show h.get? a=Z _ from x)
 |ext q=>obtain⟨_,⟨_,e⟩,_⟩:=x;exact BC e
theorem Paired.mapP{e g:Type}{F G:e->g->Prop}:∀{c:U e}{d:U g},Paired F c d->(∀a b,F a b->G a b)->Paired G c d
 |_,_,.nil,_=>.nil
 |_,_,.cons r t,f=>.cons (f _ _ r)<|Paired.mapP t f
def Bc.stay(x:Bc P w H h a o)(k:∀b u,(b=a\/H b=Z (.own a))->h.get? b=Z u->h'.get? b=Z u) (G:∀b,H b=Z (.own a)->H' b=Z (.own a)) (I:∀b xs,H b=Z (.tup xs)->H' b=Z (.tup xs)):Bc P w H' h' a o:=by
 induction o with
 |lst xs=>obtain⟨z,l,n,r,e⟩:=x;exact⟨z,l,n,r,k _ _ (.inl rfl) e⟩
 |tup xs=>obtain⟨z,l,r,g,e,c⟩:=x;exact⟨z,l,r,g,k _ _ (.inl rfl) e,c⟩
 |dK m=>obtain⟨z,y,B,r,g,i,j,e,c⟩:=x;exact⟨z,y,B,r,g,i,j,k _ _ (.inl rfl) e,c⟩
 |dT m=>
  obtain⟨z,y,xs,r,g,i,j,e,c⟩:=x;exact⟨z,y,xs,Paired.mapP r λp q z=>⟨z.1,I _ _ z.2.1,z.2.2⟩,g,i,j,k _ _ (.inl rfl) e,c⟩
 |dct N B=>obtain⟨z,y,n,g,i,j,e,c⟩:=x;exact⟨z,y,n,g,i,j,k _ _ (.inl rfl) e,c⟩
 |set S n=>obtain⟨g,i,j,t,e,c⟩:=x;exact⟨g,i,j,t,k _ _ (.inl rfl) e,c⟩
 |ins C K F=>
  obtain⟨d,z,ne,e,s,⟨A,i,j,L,c⟩,r⟩:=x;exact⟨G _ d,z,ne,k _ _ (.inl rfl) e,s,⟨A,i,j,k _ _ (.inr d) L,c⟩,r⟩
 |own y=>obtain⟨g,e⟩:=x;exact⟨g,k _ _ (.inl rfl) e⟩
 |xd F=>obtain⟨s,⟨A,i,j,e,c⟩,r⟩:=x;exact⟨s,⟨A,i,j,k _ _ (.inl rfl) e,c⟩,r⟩
 |rng lo Q=>obtain⟨t,u,v,e⟩:=x;exact⟨t,u,v,k _ _ (.inl rfl) e⟩
 |frz g u M=>obtain⟨e,q⟩:=x;exact⟨k _ _ (.inl rfl) e,M q⟩
 |tbl E=>
  have e:=x;exact k a _ (.inl rfl) e
 |met f y=>
  have e:=x;exact k a _ (.inl rfl) e
 |ext T=>obtain⟨p,⟨o,e⟩,st⟩:=x;exact⟨st _ _ p λo q=>k _ _ (.inl rfl) q,⟨o,k _ _ (.inl rfl) e⟩,st⟩
def Cz.lt(x:Cz P w H h)(e:H a=Z o):a<h.objs.size:=(x a o e).lt
def Cz.fresh(x:Cz P w H h)(e:h.objs.size<=a):H a=yA:=by
 cases q:H a with
 |none=>rfl
 |some u=>exact absurd (CC (x.lt q) e)<|Gx _
def Cz.kept(x:Cz P w H h)(k:∀b u,h.get? b=Z u->h'.get? b=Z u):Cz P w H h':=λa o e=>(x a o e).stay (λb u _ q=>k b u q) (λ_ q=>q) λ_ _ q=>q
def Cz.laid(x:Cz P w H h)(k:∀b u,h.get? b=Z u->h'.get? b=Z u)(g:h.objs.size<=a)(new:Bc P w (AM H a o) h' a o):Cz P w (AM H a o) h':=λb u e=>by
 have d:=x.fresh g;by_cases f:b=a
 ·subst f;rw[D4]at e;cases e;exact new
 ·rw[ZA f]at e;exact(x b u e).stay (λc v _ q=>k c v q) (λc q=>by rw[ZA<|FR q d];exact q) λc i q=>by rw[ZA<|FR q d];exact q
end
noncomputable def Rd(H:Hp)(a:Ac)(u:HO):Prop:=H a=Z u\/∃o,H a=Z (.frz o u)
def Rd.ok{u:HO}(r:Rd H a u)(x:Cz P w H h):Bc P w H h a u:=by
 rcases r with r|⟨o,r⟩
 ·exact x a u r
 ·obtain⟨_,q⟩:=x a _ r;exact q
def Mq:O HO->Prop
 |some (.lst _)=>True
 |some (.dK _)=>True
 |some (.dT _)=>True
 |some (.dct _ _)=>True
 |some (.set _ _)=>True
 |some (.ins _ _ _)=>True
 |some (.ext _)=>True
 |_=>False
section
variable{P:A4}{w:Aj}{h:Am}{x e:Ac}{o':HO}
def Cz.write(ok:Cz P w H h)(g:Mq (H x))(n:e=x\/H e=Z (.own x))(k:∀b u,b≠e->h.get? b=Z u->h'.get? b=Z u)(m:∃u,h'.get? e=Z u) (new:Bc P w (AM H x o') h' x o'):Cz P w (AM H x o') h':=λb u q=>by
 have d:∀c y,H c=Z (.own y)->c≠x:=λc y r z=>by subst z;rw[r]at g;exact g
 have f:∀c i,H c=Z (.tup i)->c≠x:=λc i r z=>by subst z;rw[r]at g;exact g
 by_cases j:b=x
 ·subst j;rw[D4]at q;cases q;exact new
 ·rw[ZA j]at q;by_cases a:b=e
  ·have o:H b=Z (.own x):=by
    rcases n with z|z
    ·exact absurd (a.trans z) j
    ·rw[a];exact z
   rw[q]at o;cases o;obtain⟨v,p⟩:=m;exact⟨v,by rw[a];exact p⟩
  ·refine(ok b u q).stay (λc v l r=>k c v ?_ r) (λc r=>by rw[ZA<|d c b r];exact r) λc i r=>by rw[ZA<|f c i r];exact r
   rcases l with rfl|l
   ·exact a
   ·rintro rfl;rcases n with z|z
    ·exact d c b l z
    ·rw[l]at z;cases z;exact j rfl
end
structure Un(fs ex:List Ac)(H H':Hp)(h h':Am):Prop where
 keep:∀b o,h.get? b=Z o->H b=yA->b∉fs->b∉ex->h'.get? b=Z o
 slot:∀b o,h.get? b=Z o->H b=yA->b∈fs->b∉ex->∃sl,h'.get? b=Z {o with slots:=sl}
 free:∀b o,h.get? b=Z o->H b=yA->b∉ex->H' b=yA
 there:∀b o,h.get? b=Z o->b∉ex->∃o',h'.get? b=Z o'
 tups:∀b xs,H b=Z (.tup xs)->H' b=Z (.tup xs)
 frzs:∀b o u,H b=Z (.frz o u)->H' b=Z (.frz o u)
 tbls:∀b ps,H b=Z (.tbl ps)->∃more,H' b=Z (.tbl (ps++more))
section
variable{fs ex:U Ac}{H1:Hp}{h h1:Am}{x e:Ac}{o:HO}
def Un.any(u:Un fs ex H H1 h h1){a:AK}(q:h.get? b=Z a)(n:H b=yA)(c:b∉ex):∃e,h1.get? b=Z {a with slots:=e}:=by
 by_cases d:b∈fs
 ·exact u.slot b a q n d c
 ·exact⟨a.slots,u.keep b a q n d c⟩
def Un.kept(k:∀b u,h.get? b=Z u->h'.get? b=Z u):Un fs ex H H h h':=⟨λb a q _ _ _=>k b a q,λb a q _ _ _=>⟨a.slots,k b a q⟩,λ_ _ _ n _=>n,λb a q _=>⟨a,k b a q⟩,λ_ _ q=>q,λ_ _ _ q=>q,λ_ c q=>⟨#[],by rw[q];simp⟩⟩
def Un.refl:Un fs ex H H h h:=Un.kept λ_ _ q=>q
def Un.laid(k:∀b u,h.get? b=Z u->h'.get? b=Z u)(d:h.objs.size<=a)(c:H a=yA):Un fs ex H (AM H a o) h h' where
 keep:=λb u q _ _ _=>k b u q;slot:=λb u q _ _ _=>⟨u.slots,k b u q⟩;free:=λb u q n _=>by rw[ZA<|CD<|CC (BC q) d];exact n
 there:=λb u q _=>⟨u,k b u q⟩;tups:=λb e q=>by rw[ZA<|FR q c];exact q
 frzs:=λb u e q=>by rw[ZA<|FR q c];exact q
 tbls:=λb f q=>⟨#[],by rw[ZA<|FR q c,q];simp⟩
def Un.write(c:Mq (H x))(j:e=x\/H e=Z (.own x))(k:∀b u,b≠e->h.get? b=Z u->h'.get? b=Z u)(d:∃u,h'.get? e=Z u):Un fs ex H (AM H x o) h h':=by
 have g:∀b,H b=yA->b≠x:=λb n z=>by subst z;rw[n]at c;exact c
 have i:∀b,H b=yA->b≠e:=λb n z=>by
  subst z;rcases j with r|r
  ·exact g b n r
  ·simp[n]at r
 have f:∀b u,H b=Z u->¬ Mq (Z u)->b≠x:=λb u q l z=>by subst z;rw[q]at c;exact l c
 refine⟨λb u q n _ _=>k b u (i b n) q,λb u q n _ _=>⟨u.slots,k b u (i b n) q⟩,λb u q n _=>by rw[ZA<|g b n];exact n,λb u q _=>?_,
  λb m q=>by rw[ZA<|f b _ q λz=>z];exact q,λb u m q=>by rw[ZA<|f b _ q λz=>z];exact q,λb p q=>⟨#[],by rw[ZA<|f b _ q λz=>z,q];simp⟩⟩
 by_cases a:b=e
 ·subst a;exact d
 ·exact⟨u,k b u a q⟩
end
def Ol(h:Am)(H:Hp):U Ac:=(BU h.objs.size).filter λa=>(H a).isSome
def Ii(h:Am)(H:Hp):Am:=PySem.W.hideAll h (Ol h H)
def ki(h:Am)(H:Hp):(Ii h H).objs.size=h.objs.size:=PySem.W.hideAll_size _ _
def kj(e:h.get? b=Z o)(n:H b=yA):(Ii h H).get? b=Z o:=PySem.W.hideAll_get _ e λa=>by
  have q:=(List.mem_filter.mp a).2;rw[n]at q;simp at q
def kk(e:(Ii h H).get? b=Z o):h.get? b=Z o/\H b=yA:=by
 have a:=PySem.W.of_hideAll (Ol h H) e;refine⟨a,?_⟩;cases q:H b with|none=>rfl|some x=>
  have c:b∈Ol h H:=List.mem_filter.mpr ⟨List.mem_range.mpr<|BC a,by simp[q]⟩;have z:(Ii h H).get? b=yA:=PySem.W.hideAll_none (Ol h H) c;rw[z]at e;cases e
noncomputable def ko(g h:Am)(L:Ac):U (Ac×AK):=(BU h.objs.size).filterMap λa=>if a=L\/(g.get? a).isSome=yB then yA else(h.get? a).map λo=>(a,o)
def AJ(g h:Am)(L d:Ac):U (Ac×AK):=(ko g h L).filter λp=>decide (p.1≠d)
structure Mod(K:Av)(mg:Ae->Option Aa)(base:Am):Prop where
 kin:K.In base
 glob:base.Ns De mg
 blt:∃mb,base.Ns builtinsNs mb/\∀x:Ae,x≠"__name__"->mb x=Fq x
 nolimit:base.NoLimit
structure Cx where
 prog:A4
 w:Aj
 K:Av
 mg:Ae->Option Aa
 base:Am
 A:Ah
 N:List Ae
 s₀:Ab
 H₀:Hp
 env:Env
 outer:List Env
 stack:List Env
 ex:List Ac
 fn:Ae->Bool
 calm:Bool
 pn:List (Ac×AK)
 xe:Aa->Ab->Prop
variable{X Y:Cx}
def EC(l:U Env):U Ac:=l.filterMap (·.frame)
abbrev Cx.fs(X:Cx):U Ac:=EC X.outer
def Kk(a:Scope)(x:Ae):Prop:=a.names.lookup x=Z .local\/a.names.lookup x=Z .cell\/a.names.lookup x=Z .free
def Loc(a:Scope)(x:Ae):Prop:=a.names.lookup x=Z .local\/a.names.lookup x=Z .cell
def kq(env:Env)(h:Am)(m:Ae->O Aa)(x:Ae)(u:Aa):Prop:=
 (env.kindOf x=Z .local/\m x=Z u)\/((env.kindOf x=Z .cell\/env.kindOf x=Z .free)/\∃c,env.cells.lookup x=Z c/\h.IsCell c (Z u))
structure Cx.Ok(X:Cx):Prop where
 mod:Mod X.K X.mg X.base
 kind:X.env.scope.kind=.function
 glob:X.env.globals=De
 blt:X.env.builtins=builtinsNs
 above:X.s₀.heap.objs.size<=X.env.locals
 inj:∀x y c,X.env.cells.lookup x=Z c->X.env.cells.lookup y=Z c->x=y
 has:∀x,(X.env.kindOf x=Z .cell\/X.env.kindOf x=Z .free)->∃c,X.env.cells.lookup x=Z c
 cab:∀x c,X.fn x=yB->X.env.cells.lookup x=Z c->X.s₀.heap.objs.size<=c
 hd:X.calm=yB->X.A.handled=yA
 frames:X.A.frames=Z X.stack
 stk:X.stack=X.outer\/(X.stack=X.env::X.outer/\X.env.frame=Z X.env.locals)
 exf:∀b∈X.ex,b≠X.env.locals/\∀x c,X.env.cells.lookup x=Z c->c≠b
 bs:∀b o,X.base.get? b=Z o->X.s₀.heap.get? b=Z o/\X.H₀ b=yA
 bsz:X.base.objs.size<=X.s₀.heap.objs.size
 noex:∀b o,X.base.get? b=Z o->b∉X.ex
 exfs:∀b∈X.ex,b∉X.fs
 funs:X.s₀.heap.FunFrames X.base X.outer
 frf:∀b∈X.fs,X.H₀ b=yA
structure Inv(X:Cx)(pins:List (Ac×AK))(σ:List (Option V))(H:Hp)(s:Ab):Prop where
 ok:X.Ok
 os:s.os=X.s₀.os
 bare:AllBare s.gens
 base:Un X.fs X.ex X.H₀ H X.s₀.heap s.heap
 loc:∃m,s.heap.Ns X.env.locals m/\∀(i:Nat) (x:Ae) (v:V),X.N[i]?=Z x->σ[i]?=Z (Z v)->Kk X.env.scope x->∃u,RelV v u/\kq X.env s.heap m x u
 cell:∀x c,X.env.cells.lookup x=Z c->∃v,s.heap.IsCell c v
 free:H X.env.locals=yA
 freeC:∀x c,X.env.cells.lookup x=Z c->H c=yA
 pin:∀p∈X.pn++pins,s.heap.get? p.1=Z p.2/\H p.1=yA/\p.1≠X.env.locals/\p.1∉X.fs/\∀v,p.2.data≠.cell v
 hok:Cz X.prog X.w H s.heap
 len:σ.length=X.N.length
section
variable{σ:U (O V)}{s:Ab}
def Cx.Ok.nofr(ok:X.Ok)(e:X.base.get? b=Z o):b∉X.fs:=λa=>by
 have:=(ok.funs.mem a).1;simp[e]at this
def Inv.bs(I:Inv X pins σ H s):∀b o,X.base.get? b=Z o->s.heap.get? b=Z o/\H b=yA:=λb o e=>⟨I.base.keep b o (I.ok.bs b o e).1 (I.ok.bs b o e).2 (I.ok.nofr e)<|I.ok.noex b o e,I.base.free b o (I.ok.bs b o e).1 (I.ok.bs b o e).2<|I.ok.noex b o e⟩
def Inv.bk(I:Inv X pins σ H s):∀b o,X.base.get? b=Z o->s.heap.get? b=Z o:=λb o e=>(I.bs b o e).1
def Inv.mod(I:Inv X pins σ H s):Mod X.K X.mg X.base:=I.ok.mod
def Inv.kIn(I:Inv X pins σ H s):X.K.In s.heap:=I.ok.mod.kin.keeps I.bk
def Inv.lt(I:Inv X pins σ H s):X.env.locals<s.heap.objs.size:=let⟨_,a,_⟩:=I.loc;a.lt
def Inv.sz(I:Inv X pins σ H s):X.s₀.heap.objs.size<=s.heap.objs.size:=BX I.ok.above<|Nat.le_of_lt I.lt
def Inv.nofs(I:Inv X pins σ H s)(h:s.heap.objs.size<=a):a∉X.fs:=λb=>by
 obtain⟨_,o,c,_⟩:=I.ok.funs.mem b;exact absurd (CC (BC c)<|BX I.sz h)<|Gx _
def Inv.cne(I:Inv X pins σ H s):∀x c,X.env.cells.lookup x=Z c->c≠X.env.locals:=λx c e z=>by
 obtain⟨v,o,d,hd⟩:=I.cell x c e;obtain⟨m,⟨f,g,h,a,b,_⟩,_⟩:=I.loc;rw[z,a]at d;cases d;simp[b]at hd
def Inv.funs(I:Inv X pins σ H s):s.heap.FunFrames X.base X.outer:=by
 have all:∀(l:U Env),(∀b∈EC l,b∈X.fs)->X.s₀.heap.FunFrames X.base l->s.heap.FunFrames X.base l:=by
  intro l;induction l with|nil=>intro _ _;trivial|cons env r g=>
   intro f h;obtain⟨i,⟨L,o,a,j,k,hd⟩,m⟩:=h;have c:=f L (by unfold EC;rw[Om,a];exact A8);obtain⟨n,e⟩:=I.base.slot L o k (I.ok.frf L c) c λz=>I.ok.exfs L z c;exact⟨i,⟨L,_,a,j,e,hd⟩,g (λb d=>f b (by unfold EC;rw[Om,a];exact A9 _ d)) m⟩
 exact all X.outer (λ_ d=>d) I.ok.funs
def Inv.stack(I:Inv X pins σ H s):s.heap.FunFrames X.base X.stack:=by
 rcases I.ok.stk with e|⟨e,a⟩
 ·rw[e];exact I.funs
 ·rw[e];obtain⟨m,b,_⟩:=I.loc;refine .cons (by rw[I.ok.kind];decide) a b ?_ I.funs;exact Heap.get?_none_of_le<|BX I.ok.bsz I.ok.above
def Inv.stkSub(I:Inv X pins σ H s):∀b∈EC X.stack,b∈X.env.locals::X.fs:=λb a=>by
 rcases I.ok.stk with e|⟨e,c⟩
 ·rw[e]at a;exact A9 _ a
 ·rw[e]at a;unfold EC at a;rw[Om,c]at a;exact a
def Inv.stkFree(I:Inv X pins σ H s):∀b∈EC X.stack,H b=yA:=λb a=>by
 rcases Bh.mp (I.stkSub b a)with e|a
 ·rw[e];exact I.free
 ·obtain⟨_,o,c,_⟩:=I.ok.funs.mem a;exact I.base.free b o c (I.ok.frf b a) λz=>I.ok.exfs b z a
def Inv.step(I:Inv X pins σ H s) (f:∀b∈ch,(b∈X.ex\/X.s₀.heap.objs.size<=b)/\b≠X.env.locals/\(∀x c,X.env.cells.lookup x=Z c->c≠b)/\∀p∈X.pn++pins,p.1≠b) (keep:∀b o,b≠X.env.locals->b∉X.fs->b∉ch->s.heap.get? b=Z o->H b=yA->h'.get? b=Z o) (slot:∀b o,b≠X.env.locals->b∈X.fs->b∉ch->s.heap.get? b=Z o->H b=yA->∃L,h'.get? b=Z {o with slots:=L}) (free:∀b o,b∉ch->s.heap.get? b=Z o->H b=yA->H' b=yA) (there:∀b o,b∉ch->s.heap.get? b=Z o->∃B,h'.get? b=Z B) (tups:∀b xs,H b=Z (.tup xs)->H' b=Z (.tup xs)) (frzs:∀b o u,H b=Z (.frz o u)->H' b=Z (.frz o u)) (tbls:∀b F,H b=Z (.tbl F)->∃C,H' b=Z (.tbl (F++C))) (ns:∀m,s.heap.Ns X.env.locals m->h'.Ns X.env.locals m) (hok:Cz X.prog X.w H' h') (Q:AllBare g'):Inv X pins σ H' {s with heap:=h',gens:=g',drawn:=d',toks:=t' }:=by
 have E:∀b o,X.s₀.heap.get? b=Z o->b≠X.env.locals:=λb o e=>CD<|CC (BC e) I.ok.above;have j:∀b o,X.s₀.heap.get? b=Z o->b∉X.ex->b∉ch:=λb o e a y=>by
  rcases(f b y).1 with z|z
  ·exact a z
  ·exact absurd (CC (BC e) z)<|Gx _
 have g:∀x c,X.env.cells.lookup x=Z c->∀v,s.heap.IsCell c v->h'.IsCell c v:=λx c e v ⟨o,A,hd⟩=>by
  have h:c∉ch:=λz=>(f c z).2.2.1 x c e rfl;by_cases N:c∈X.fs
  ·obtain⟨L,q⟩:=slot c o (I.cne x c e) N h A<|I.freeC x c e;exact⟨_,q,hd⟩
  ·exact⟨o,keep c o (I.cne x c e) N h A<|I.freeC x c e,hd⟩
 refine⟨I.ok,I.os,Q,⟨λb o e n y a=>?_,λb o e n y a=>?_,λb o e n a=>?_,λb o e a=>?_,λb xs e=>tups b xs<|I.base.tups b xs e,λb o xs e=>frzs b o xs<|I.base.frzs b o xs e,λb F e=>?_⟩,?_,λx c e=>?_,?_,λx c e=>?_,λp K=>?_,hok,I.len⟩
 ·exact keep b o (E b o e) y (j b o e a) (I.base.keep b o e n y a)<|I.base.free b o e n a
 ·obtain⟨L,t⟩:=I.base.slot b o e n y a;obtain⟨M,G⟩:=slot b _ (E b o e) y (j b o e a) t<|I.base.free b o e n a;exact⟨M,G⟩
 ·obtain⟨B,t⟩:=I.base.there b o e a;exact free b B (j b o e a) t<|I.base.free b o e n a
 ·obtain⟨B,t⟩:=I.base.there b o e a;exact there b B (j b o e a) t
 ·obtain⟨m1,t⟩:=I.base.tbls b F e;obtain⟨m2,G⟩:=tbls b _ t;exact⟨m1++m2,by rw[G,Array.append_assoc]⟩
 ·obtain⟨m,T,P⟩:=I.loc;refine⟨m,ns m T,λi x v t G Y=>?_⟩;obtain⟨u,r,l⟩:=P i x v t G Y;refine⟨u,r,?_⟩;rcases l with l|⟨k,c,e,z⟩
  ·exact .inl l
  ·exact .inr ⟨k,c,e,g x c e _ z⟩
 ·obtain⟨v,z⟩:=I.cell x c e;exact⟨v,g x c e v z⟩
 ·obtain⟨m,⟨o,_,_,A,_⟩,_⟩:=I.loc;exact free _ o (λz=>(f _ z).2.1 rfl) A I.free
 ·obtain⟨v,o,A,hd⟩:=I.cell x c e;exact free c o (λz=>(f c z).2.2.1 x c e rfl) A (I.freeC x c e)
 ·obtain⟨e,n,ne,nf,d⟩:=I.pin p K;have h:p.1∉ch:=λz=>(f p.1 z).2.2.2 p K rfl;exact⟨keep p.1 p.2 ne nf h e n,free p.1 p.2 h e n,ne,nf,d⟩
def Inv.un(I:Inv X pins σ H s)(u:Un X.fs [] H H' s.heap h')(hok:Cz X.prog X.w H' h'):Inv X pins σ H' {s with heap:=h',toks:=t' }:=by
 obtain⟨m,⟨o,k,l,g,r⟩,_⟩:=id I.loc;obtain⟨p,h⟩:=u.any g I.free (by simp);exact I.step (g':=s.gens) (d':=s.drawn) (ch:=[]) (λ_ z=>nomatch z) (λb o _ c _ e n=>u.keep b o e n c (by simp)) (λb o _ c _ e n=>u.slot b o e n c (by simp)) (λb o _ e n=>u.free b o e n (by simp)) (λb o _ e=>u.there b o e (by simp)) u.tups u.frzs u.tbls (λx i=>by
  obtain⟨y,d,f,a,j⟩:=i;rw[g]at a;cases a;exact⟨_,d,f,h,j⟩) hok I.bare
def Inv.call(I:Inv X pins σ H s)(u:Un (EC X.stack) ch H H' s.heap h')(hok:Cz X.prog X.w H' h')(k:AllBare g') (d:∀b∈ch,(b∈X.ex\/X.s₀.heap.objs.size<=b)/\b≠X.env.locals/\(∀x c,X.env.cells.lookup x=Z c->c≠b)/\∀p∈X.pn++pins,p.1≠b):Inv X pins σ H' {s with heap:=h',gens:=g',drawn:=d',toks:=t' }:=by
 obtain⟨m,⟨o,v,y,j,r⟩,_⟩:=id I.loc;obtain⟨A,g⟩:=u.any j I.free λz=>(d _ z).2.1 rfl;exact I.step d (λb o g l a e n=>u.keep b o e n (λz=>(Bh.mp<|I.stkSub b z).elim g l) a) (λb o _ _ a e n=>u.any e n a) (λb o a e n=>u.free b o e n a) (λb o a e=>u.there b o e a) u.tups u.frzs u.tbls (λB q=>by
  obtain⟨C,h,i,f,t⟩:=q;rw[j]at f;cases f;exact⟨_,h,i,g,t⟩) hok k
def Inv.turned(I:Inv X pins σ H s)(k:∀b o,b≠it->s.heap.get? b=Z o->h'.get? b=Z o)(g:H it=yA)(f:it≠X.env.locals) (h:it∈X.ex\/X.s₀.heap.objs.size<=it) (i:∀x c,X.env.cells.lookup x=Z c->c≠it) (j:∀p∈X.pn++pins,p.1≠it):Inv X pins σ H {s with heap:=h',toks:=t' }:=by
 have d:∀b u,H b=Z u->b≠it:=λb u e z=>by simp[z,g]at e
 refine I.step (g':=s.gens) (d':=s.drawn) (ch:=[it]) (λb l=>?_) (λb o _ _ a e _=>k b o (λz=>a (by simp[z])) e) (λb o _ _ a e _=>⟨o.slots,k b o (λz=>a (by simp[z])) e⟩) (λ_ _ _ _ n=>n)
  (λb o a e=>⟨o,k b o (λz=>a (by simp[z])) e⟩) (λ_ _ e=>e) (λ_ _ _ e=>e) (λb G e=>⟨#[],by rw[e];simp⟩) (λm t=>?_) (λb u e=>?_) I.bare
 ·have e:b=it:=by simpa using l
  subst e;exact⟨h,f,i,j⟩
 ·obtain⟨o,w,y,A,r⟩:=t;exact⟨o,w,y,k _ o (CT f) A,r⟩
 ·refine(I.hok b u e).stay (λc v a q=>k c v ?_ q) (λ_ q=>q) λ_ _ q=>q;rcases a with z|z
  ·rw[z];exact d b u e
  ·exact d c _ z
def Inv.tok(I:Inv X pins σ H s)(t:Nat):Inv X pins σ H {s with toks:=t}:=I.un (h':=s.heap) (t':=t) Un.refl I.hok
def Inv.kept(I:Inv X pins σ H s)(k:∀b u,s.heap.get? b=Z u->h'.get? b=Z u):Inv X pins σ H {s with heap:=h',toks:=t' }:=I.un (Un.kept k) (I.hok.kept k)
def Inv.laid{o:HO}(I:Inv X pins σ H s)(k:∀b u,s.heap.get? b=Z u->h'.get? b=Z u)(c:s.heap.objs.size<=a)(new:Bc X.prog X.w (AM H a o) h' a o):Inv X pins σ (AM H a o) {s with heap:=h',toks:=t' }:=I.un (Un.laid k c (I.hok.fresh c)) (I.hok.laid k c new)
def Inv.write{x e:Ac}{o:HO}(I:Inv X pins σ H s)(c:Mq (H x))(d:e=x\/H e=Z (.own x))(k:∀b u,b≠e->s.heap.get? b=Z u->h'.get? b=Z u)(a:∃u,h'.get? e=Z u) (new:Bc X.prog X.w (AM H x o) h' x o):Inv X pins σ (AM H x o) {s with heap:=h',toks:=t' }:=I.un (Un.write c d k a) (I.hok.write c d k a new)
def Inv.weak{a:U (O V)}(I:Inv X pins σ H s)(c:a.length=σ.length)(w:∀(i:Nat) v,a[i]?=Z (Z v)->σ[i]?=Z (Z v)):Inv X pins a H s:=⟨I.ok,I.os,I.bare,I.base,let⟨m,d,b⟩:=I.loc;⟨m,d,λi x v e f g=>b i x v e (w i v f) g⟩,I.cell,I.free,I.freeC,I.pin,I.hok,c.trans I.len⟩
def Inv.pins_of{a:U (Ac×AK)}(I:Inv X pins σ H s)(h:∀p∈a,s.heap.get? p.1=Z p.2/\H p.1=yA/\p.1≠X.env.locals/\p.1∉X.fs/\∀v,p.2.data≠.cell v):Inv X a σ H s:=⟨I.ok,I.os,I.bare,I.base,I.loc,I.cell,I.free,I.freeC,λp b=>(Dk.mp b).elim (λz=>I.pin p<|Gy _ z) (h p),I.hok,I.len⟩
def X4{N:U Ae}(c:N.Nodup){i:Nat}(a:N[i]?=Z x)(b:N[j]?=Z x):i=j:=by
 obtain⟨f,d⟩:=List.getElem?_eq_some_iff.mp a;obtain⟨g,e⟩:=List.getElem?_eq_some_iff.mp b;exact(List.getElem_inj c).mp<|d.trans e.symm
def X5{M:Model}{A:Ah}{i:Nat}{x:Ae}{v:V}{Q:Unit->Ab->Prop}(I:Inv X pins σ H s)(hN:X.N.Nodup)(hi:X.N[i]?=Z x)(B:Loc X.env.scope x)(r:RelV v u) (h:∀s',Inv X pins (σ.set i (Z v)) H s'->(∃a,ED a s.heap s'.heap/\(a=X.env.locals\/X.env.cells.lookup x=Z a))->Q () s') (hf:autoParam (X.fn x=yB\/X.env.scope.names.lookup x=Z .local) ya):wpAny M A (storeName X.env x u) Q E s:=by
 obtain⟨m,hn,hl⟩:=id I.loc;have hcls:(X.env.scope.kind==.class||(X.env.scope.kind==.module&&X.env.locals != X.env.globals))=yC:=by rw[I.ok.kind];rfl
 have F:i<σ.length:=by rw[I.len];exact(List.getElem?_eq_some_iff.mp hi).1
 have K:=I.cne;have g:∀{a:Ac} {h':Am},(∃o,s.heap.get? a=Z o/\H a=yA)->ED a s.heap h'->Cz X.prog X.w H h':=λ{a h'} ha f b ob e=>by
  obtain⟨_,_,C⟩:=ha;refine(I.hok b ob e).stay (λc w' t q=>(f.2 c ?_).trans q) (λ_ q=>q) λ_ _ q=>q;rintro rfl;rcases t with rfl|t
  ·simp[C]at e
  ·rw[C]at t;cases t
 rcases B with L|L
 ·refine wpAny_storeName_local L hn (λh' hn' f=>?_) hcls;obtain⟨oL,_,_,hoL,_⟩:=id hn;refine h _ ⟨I.ok,I.os,I.bare,⟨λb o e n T B=>?_,λb o e n T B=>?_,I.base.free,λb o e B=>?_,I.base.tups,I.base.frzs,I.base.tbls⟩,⟨_,hn',λj y v' l G e3=>?_⟩,λy c e=>?_,I.free,I.freeC,λp hp=>?_,g ⟨oL,hoL,I.free⟩ f,by simpa using I.len⟩ ⟨_,f,.inl rfl⟩
  ·exact(f.2 b<|CD<|CC (BC e) I.ok.above).trans<|I.base.keep b o e n T B
  ·obtain⟨sl,l⟩:=I.base.slot b o e n T B;exact⟨sl,(f.2 b<|CD<|CC (BC e) I.ok.above).trans l⟩
  ·obtain⟨o',l⟩:=I.base.there b o e B;exact⟨o',(f.2 b<|CD<|CC (BC e) I.ok.above).trans l⟩
  ·by_cases P:j=i
   ·subst P;rw[hi]at l;cases l;rw[Dz F]at G;cases G;exact⟨u,r,.inl ⟨L,by simp⟩⟩
   ·rw[C1<|CT P]at G;obtain⟨u',r',q⟩:=hl j y v' l G e3;refine⟨u',r',?_⟩;rcases q with⟨k,e⟩|⟨k,c,e,z⟩
    ·refine .inl ⟨k,?_⟩;have:y≠x:=λe=>P<|X4 hN l<|e ▸ hi;simp[this,e]
    ·exact .inr ⟨k,c,e,z.sameBut f<|K y c e⟩
  ·obtain⟨w',z⟩:=I.cell y c e;exact⟨w',z.sameBut f<|K y c e⟩
  ·obtain⟨e,n,ne,nf,d⟩:=I.pin p hp;exact⟨(f.2 p.1 ne).trans e,n,ne,nf,d⟩
 ·have Y:X.fn x=yB:=by
   rcases hf with z|z
   ·exact z
   ·rw[z]at L;cases L
  obtain⟨c,t⟩:=I.ok.has x<|.inl L;obtain⟨w',z⟩:=I.cell x c t;refine wpAny_storeName_cell I.ok.kind L t z<|λh' hc' f=>?_;obtain⟨oc,hoc,hocd⟩:=id z;refine h {s with heap:=h' } ⟨I.ok,I.os,I.bare,⟨λb o e n T B=>?_,λb o e n T B=>?_,I.base.free,λb o e B=>?_,I.base.tups,I.base.frzs,I.base.tbls⟩,⟨m,hn.sameBut f (CT (K x c t)),λj y v' l G e3=>?_⟩,λy c' e=>?_,I.free,I.freeC,λp hp=>?_,g ⟨oc,hoc,I.freeC x c t⟩ f,by simpa using I.len⟩ ⟨c,f,.inr t⟩
  ·exact(f.2 b<|CD<|CC (BC e)<|I.ok.cab x c Y t).trans<|I.base.keep b o e n T B
  ·obtain⟨sl,l⟩:=I.base.slot b o e n T B;exact⟨sl,(f.2 b<|CD<|CC (BC e)<|I.ok.cab x c Y t).trans l⟩
  ·obtain⟨o',l⟩:=I.base.there b o e B;exact⟨o',(f.2 b<|CD<|CC (BC e)<|I.ok.cab x c Y t).trans l⟩
  ·by_cases P:j=i
   ·subst P;rw[hi]at l;cases l;rw[Dz F]at G;cases G;exact⟨u,r,.inr ⟨.inl L,c,t,hc'⟩⟩
   ·rw[C1<|CT P]at G;obtain⟨u',r',q⟩:=hl j y v' l G e3;refine⟨u',r',?_⟩;rcases q with q|⟨k,c',e,z'⟩
    ·exact .inl q
    ·refine .inr ⟨k,c',e,z'.sameBut f ?_⟩;rintro rfl;exact P<|X4 hN l<|I.ok.inj _ _ _ e t ▸ hi
  ·by_cases hcc:c'=c
   ·subst hcc;exact⟨_,hc'⟩
   ·obtain⟨w2,z2⟩:=I.cell y c' e;exact⟨w2,z2.sameBut f hcc⟩
  ·obtain⟨e,n,ne,nf,d⟩:=I.pin p hp;refine⟨(f.2 p.1 ?_).trans e,n,ne,nf,d⟩;intro q;rw[q,hoc]at e;have q':oc=p.2:=FT e;exact d w' (by rw[<- q'];exact hocd)
def X6{M:Model}{A:Ah}{i:Nat}{x:Ae}{v:V}{Q:Unit->Ab->Prop}(I:Inv X pins σ H s)(b:X.N.Nodup)(c:X.N[i]?=Z x)(d:Loc X.env.scope x)(r:RelV v u) (h:∀a,Inv X pins (σ.set i (Z v)) H a->Q () a) (e:autoParam (X.fn x=yB\/X.env.scope.names.lookup x=Z .local) ya):wpAny M A (storeName X.env x u) Q E s:=X5 I b c d r (λa f _=>h a f) e
def Inv.call'{a:Ab}(I:Inv X pins σ H s)(i:a.os=s.os)(u:Un (EC X.stack) ch H H' s.heap a.heap)(hok:Cz X.prog X.w H' a.heap)(j:AllBare a.gens) (d:∀b∈ch,(b∈X.ex\/X.s₀.heap.objs.size<=b)/\b≠X.env.locals/\(∀x c,X.env.cells.lookup x=Z c->c≠b)/\∀p∈X.pn++pins,p.1≠b):Inv X pins σ H' a:=by
 obtain⟨h',f,g,h,k⟩:=a;have e:=i;subst e;exact I.call (g':=f) (t':=h) (d':=g) u hok j d
end
abbrev XK:=Aa->O Ac->Hp->Prop
abbrev St:=U (O V)
variable{σ:St}
abbrev VK:=V->Hp->Prop
abbrev TE:=St->Hp->VK->Prop
variable{ta tb te:TE}
abbrev TT:=St->Hp->(Bool->Hp->Prop)->Prop
abbrev TA:=St->Hp->(U V->Hp->Prop)->Prop
structure Ends where
 nx:St->Hp->Prop
 rt:VK
 bk:St->Hp->Prop:=λ_ _=>False
 ct:St->Hp->Prop:=λ_ _=>False
variable{D':Ends}
abbrev TS:=Ends->St->Hp->Prop
def EP(X:Cx)(a:U (Ac×AK))(σ:St)(Q:VK)(u:Aa)(c:Ab):Prop:=∃v b,Inv X a σ b c/\RelV v u/\Q v b
def TP(X:Cx)(a:U (Ac×AK))(σ:St)(Q:Bool->Hp->Prop)(b:Bool)(d:Ab):Prop:=∃c,Inv X a σ c d/\Q b c
def AP(X:Cx)(a:U (Ac×AK))(σ:St)(Q:U V->Hp->Prop)(us:U Aa)(d:Ab):Prop:=∃b c,Inv X a σ c d/\As b us/\Q b c
def SP(X:Cx)(b:U (Ac×AK))(D:Ends)(f:Flow)(d:Ab):Prop:=
 match f with
 |.next=>∃a c,Inv X b a c d/\D.nx a c
 |.brk=>∃a c,Inv X b a c d/\D.bk a c
 |.cont=>∃a c,Inv X b a c d/\D.ct a c
 |.ret u=>∃v a c,Inv X b a c d/\RelV v u/\D.rt v c
def PE(X:Cx)(e:Expr)(t:TE):Prop:=
 ∀(a:U (Ac×AK)) (s:Ab) (b:St) (H:Hp) (Q:VK),Inv X a b H s->t b H Q->wpAny (Ag X.prog X.w) X.A (Ax e X.env) (EP X a b Q) X.xe s
def PT(X:Cx)(e:Expr)(t:TT):Prop:=
 ∀(a:U (Ac×AK)) (s:Ab) (b:St) (H:Hp) (Q:Bool->Hp->Prop),Inv X a b H s->t b H Q->wpAny (Ag X.prog X.w) X.A (isTrue e X.env (Ax e X.env)) (TP X a b Q) X.xe s
def PW(X:Cx)(e:Expr)(t:TT):Prop:=
 ∀(b:Sem Aa) (a:U (Ac×AK)) (s:Ab) (c:St) (H:Hp) (Q:Bool->Hp->Prop),Inv X a c H s->t c H Q->wpAny (Ag X.prog X.w) X.A (isTrue e X.env b) (TP X a c Q) X.xe s
def PW.pt(h:PW X e t):PT X e t:=h _
def PA(X:Cx)(es:U Expr)(t:TA):Prop:=
 ∀(b:AQ) (a:U (Ac×AK)) (s:Ab) (c:St) (H:Hp) (Q:U V->Hp->Prop),Inv X a c H s->t c H Q->wpAny (Ag X.prog X.w) X.A (spliced (AL b (AY es X.env))) (AP X a c Q) X.xe s
def PS(X:Cx)(st:Ar)(t:TS):Prop:=
 ∀(a:U (Ac×AK)) (s:Ab) (b:St) (H:Hp) (D:Ends),Inv X a b H s->t D b H->wpAny (Ag X.prog X.w) X.A (exec st X.env) (SP X a D) X.xe s
def EE(X:Cx)(st:U Ar)(t:TS):Prop:=
 ∀(a:U (Ac×AK)) (s:Ab) (b:St) (H:Hp) (D:Ends),Inv X a b H s->t D b H->wpAny (Ag X.prog X.w) X.A (execs st X.env) (SP X a D) X.xe s
def A1{b:Type}{t:Sem b}{Q c:b->Ab->Prop}{M:Model}{A:Ah}{s:Ab}(h:wpAny M A t Q E s)(d:∀a s,Q a s->c a s):wpAny M A t c E s:=wpAny_mono h d λ_ _ x=>x
section
def On(i:Nat):TE:=λa H Q=>∃v,a[i]?=Z (Z v)/\Q v H
def tC(v:V):TE:=λ_ H Q=>Q v H
def Mr{i:Nat}{x:Ae}(j:X.N[i]?=Z x)(k:Kk X.env.scope x)(hd:(x==("__debug__":Ae))=yC:=by ext)(f:(x==("__classdict__":Ae))=yC:=by ext):PE X (.Name x pos) (On i):=by
 intro d s n H Q I h;obtain⟨v,e,h⟩:=h;obtain⟨m,o,p⟩:=I.loc;obtain⟨u,r,l⟩:=p i x v j e k;have fin:EP X d n Q u s:=⟨v,H,I,r,h⟩;rcases l with⟨b,q⟩|⟨b,c,g,a⟩
 ·exact wpAny_Name (wpAny_loadName_local I.ok.kind b o q fin) hd
 ·rcases b with b|b
  ·exact wpAny_Name (wpAny_loadName_cell I.ok.kind b g a fin) hd
  ·exact wpAny_Name (wpAny_loadName_free I.ok.kind b g a fin f) hd
def Ss {i j pos}:PE X (.Constant (.int i) j pos) (tC (.int i)):=λ_ _ _ H _ I h=>wpAny_Constant_int ⟨.int i,H,I.tok _,⟨_,rfl⟩,h⟩
def kr {b j pos}:PE X (.Constant (.bool b) j pos) (tC (.bl b)):=λ_ _ _ H _ I h=>Constant_bool ⟨.bl b,H,I,rfl,h⟩
def kt {j pos}:PE X (.Constant .none j pos) (tC .non):=λ_ _ _ H _ I h=>Constant_none ⟨.non,H,I,rfl,h⟩
def ku {x j pos}:PE X (.Constant (.str x) j pos) (tC (.str x)):=λ_ _ _ H _ I h=>Calls.Constant_str ⟨.str x,H,I.tok _,⟨_,rfl⟩,h⟩
def Gl(X:Cx)(x:Ae):Prop:=X.env.kindOf x=Z .globalImplicit
def Su{a:U (Ac×AK)}{s:Ab}{x:Ae}(I:Inv X a σ H s)(b:Gl X x)(c:X.mg x=Z u)(h:Q u s) (hd:(x==("__debug__":Ae))=yC:=by ext):wpAny (Ag X.prog X.w) X.A (Ax (.Name x pos) X.env) Q E s:=Calls.Name_function_global I.ok.kind b (Calls.loadGlobal_global (by rw[I.ok.glob];exact I.mod.glob.keeps I.bk) c h) hd
def HA{a:U (Ac×AK)}{s:Ab}{x:Ae}(I:Inv X a σ H s)(b:Gl X x)(c:X.mg x=yA)(d:Fq x=Z u)(h:Q u s) (e:x≠"__name__":=by ext) (hd:(x==("__debug__":Ae))=yC:=by ext):wpAny (Ag X.prog X.w) X.A (Ax (.Name x pos) X.env) Q E s:=by
 obtain⟨i,f,g⟩:=I.mod.blt;exact Calls.Name_function_global I.ok.kind b (Calls.loadGlobal_builtin (by rw[I.ok.glob];exact I.mod.glob.keeps I.bk) c (by rw[I.ok.blt];exact f.keeps I.bk) ((g x e).trans d) h) hd
def X7{x:Ae}{v:V}(a:Gl X x)(b:X.mg x=Z u)(r:RelV v u)(hd:(x==("__debug__":Ae))=yC:=by ext):PE X (.Name x pos) (tC v):=λ_ _ _ H _ I h=>Su I a b ⟨v,H,I,r,h⟩ hd
def kw{x:Ae}{v:V}(a:Gl X x)(b:X.mg x=yA)(c:Fq x=Z u)(r:RelV v u)(d:x≠"__name__":=by ext)(hd:(x==("__debug__":Ae))=yC:=by ext):PE X (.Name x pos) (tC v):=λ_ _ _ H _ I h=>HA I a b c ⟨v,H,I,r,h⟩ d hd
variable{a b:Expr}
def PC(X:Cx)(op:CmpOp)(a b:Expr)(t:TE):Prop:=
 ∀(c:U (Ac×AK)) (s:Ab) (f:St) (H:Hp) (Q:VK),Inv X c f H s->t f H Q ->
  wpAny (Ag X.prog X.w) X.A (Ax a X.env) (λv d=>wpAny (Ag X.prog X.w) X.A (Ax b X.env) (λu e=>wpAny (Ag X.prog X.w) X.A (DA op v u) (EP X c f Q) X.xe e) X.xe d) X.xe s
def GX(b:Expr)(h:op≠.In)(a:op≠.NotIn):Gz op b=yC:=by
 have c:(op==CmpOp.In)=yC:=by cases op<;>first|rfl|exact absurd rfl h
 have d:(op==CmpOp.NotIn)=yC:=by cases op<;>first|rfl|exact absurd rfl a
 cases b<;>simp[Gz,c,d]
def kx(ta:TE):TE:=λa H Q=>ta a H λx b=>Q (.bl (decide (x=.non))) b
def ky(ta:TE):TE:=λa H Q=>ta a H λx b=>Q (.bl (!decide (x=.non))) b
def RelV.none_iff(r:RelV x v):(v==FQ)=decide (x=.non):=by
 cases x with
 |non=>cases r;rfl
 |bl _=>cases r;rfl
 |int _=>obtain⟨t,rfl⟩:=r;rfl
 |str _=>obtain⟨t,rfl⟩:=r;rfl
 |byt _=>obtain⟨t,rfl⟩:=r;rfl
 |flt _=>obtain⟨t,rfl⟩:=r;rfl
 |ref _=>cases r;rfl
 |ty _=>cases r;rfl
def X8 {j b} (d:PE X a ta):PC X .Is a (.Constant .none j b) (kx ta):=by
 intro c s e H Q I h;refine A1 (d c s e H _ I h) λv k ⟨x,f,g,i,q1⟩=>?_;exact Constant_none<|is_none_gen ⟨.bl _,f,g,by rw[i.none_iff];rfl,q1⟩
def X9 {j b} (d:PE X a ta):PC X .IsNot a (.Constant .none j b) (ky ta):=by
 intro c s e H Q I h;refine A1 (d c s e H _ I h) λv k ⟨x,f,g,i,q1⟩=>?_;exact Constant_none<|isnot_none_gen ⟨.bl _,f,g,by rw[i.none_iff];rfl,q1⟩
def tB(t:TE):TT:=λa H Q=>t a H λx b=>∃c,x=.bl c/\Q c b
def Ya{op:CmpOp}{t:TE}(h:PC X op a b t)(d:Gz op b=yC:=by first|exact GX _ (by ext) (by ext)|rfl):PE X (.Compare a [op] [b] pos) t:=λc s e H Q I f=>wpAny_Compare1 (h c s e H Q I f) d
def Yb{op:CmpOp}{t:TE}(h:PC X op a b t)(f:Gz op b=yC:=by first|exact GX _ (by ext) (by ext)|rfl):PT X (.Compare a [op] [b] pos) (tB t):=by
 intro e s g H Q I i;refine wpAny_isTrue_Compare1 (A1 (h e s g H _ I i) λv n f=>A1 f λu o j=>A1 j λc p ⟨x,k,l,m,q1⟩=>?_) f;obtain⟨d,rfl,q⟩:=q1;cases m;exact Ij ⟨k,l,q⟩
variable{tA BO:TT}{AJ:U Expr}
def Yc(t u:TT):TT:=λa H Q=>t a H λc b=>if c=yB then u a b Q else Q yC b
def Yd(t u:TT):TT:=λa H Q=>t a H λc b=>if c=yB then Q yB b else u a b Q
def kz(t:TT):TT:=λa H Q=>t a H λc b=>Q (!c) b
def kA(d:PT X a tA):PW X (.BoolOp .And [a] pos) tA:=by
 intro g b s f H Q I h;refine isTrue_and<|A1 (d b s f H Q I h) λc i e=>?_;cases c with
 |true=>exact isTrue_and_nil e
 |false=>exact e
def kC(d:PT X a tA):PW X (.BoolOp .Or [a] pos) tA:=by
 intro g b s f H Q I h;refine isTrue_or<|A1 (d b s f H Q I h) λc i e=>?_;cases c with
 |false=>exact isTrue_or_nil e
 |true=>exact e
def kF(i:PT X a tA)(j:PW X (.BoolOp .And (b::AJ) pos) BO):PW X (.BoolOp .And (a::b::AJ) pos) (Yc tA BO):=by
 intro k d s e H Q I h;refine isTrue_and<|A1 (i d s e H _ I h) λc l ⟨f,g,q1⟩=>?_;cases c with
 |true=>exact j k d l e f Q g q1
 |false=>exact⟨f,g,q1⟩
def kG(i:PT X a tA)(j:PW X (.BoolOp .Or (b::AJ) pos) BO):PW X (.BoolOp .Or (a::b::AJ) pos) (Yd tA BO):=by
 intro k d s e H Q I h;refine isTrue_or<|A1 (i d s e H _ I h) λc l ⟨f,g,q1⟩=>?_;cases c with
 |true=>exact⟨f,g,q1⟩
 |false=>exact j k d l e f Q g q1
def kH(d:PT X a tA):PT X (.UnaryOp .Not a pos) (kz tA):=by
 intro b s e H Q I h;exact isTrue_not<|d b s e H (λc f=>Q (!c) f) I h
def kI(ta tb:TE):TE:=λa H Q=>ta a H λx b=>∃c,x=.bl c/\if c=yB then tb a b Q else Q (.bl yC) b
def kJ(ta tb:TE):TE:=λa H Q=>ta a H λx b=>∃c,x=.bl c/\if c=yB then Q (.bl yB) b else tb a b Q
def kK(ta:TE):TE:=λa H Q=>ta a H λx b=>∃c,x=.bl c/\Q (.bl (!c)) b
def kL {op}  (h:PE X a t):PE X (.BoolOp op [a] pos) t:=λb s c H Q I d=>BoolOp_one<|h b s c H Q I d
def kM(i:PE X a ta)(j:PE X (.BoolOp .And (b::AJ) pos) tb):PE X (.BoolOp .And (a::b::AJ) pos) (kI ta tb):=by
 intro d s e H Q I h;refine BoolOp_and<|A1 (i d s e H _ I h) λv k ⟨x,f,g,l,q1⟩=>?_;obtain⟨c,rfl,q1⟩:=q1;cases l;refine Ij ?_;cases c with
 |true=>exact j d k e f Q g q1
 |false=>exact⟨.bl yC,f,g,rfl,q1⟩
def kN(i:PE X a ta)(j:PE X (.BoolOp .Or (b::AJ) pos) tb):PE X (.BoolOp .Or (a::b::AJ) pos) (kJ ta tb):=by
 intro d s e H Q I h;refine BoolOp_or<|A1 (i d s e H _ I h) λv k ⟨x,f,g,l,q1⟩=>?_;obtain⟨c,rfl,q1⟩:=q1;cases l;refine Ij ?_;cases c with
 |false=>exact j d k e f Q g q1
 |true=>exact⟨.bl yB,f,g,rfl,q1⟩
def kO(d:PE X a ta):PE X (.UnaryOp .Not a pos) (kK ta):=by
 intro b s e H Q I h;refine UnaryOp_<|A1 (d b s e H _ I h) λv j ⟨x,f,g,i,q1⟩=>?_;obtain⟨c,rfl,q1⟩:=q1;cases i;exact not_of<|Ij ⟨.bl<|!c,f,g,rfl,q1⟩
def kP(t:TT)(ta tb:TE):TE:=λa H Q=>t a H λc b=>if c=yB then ta a b Q else tb a b Q
def kQ(k:PT X c tA)(l:PE X a ta)(m:PE X b tb):PE X (.IfExp c a b pos) (kP tA ta tb):=by
 intro e s f H Q I h;refine wpAny_IfExp<|A1 (k e s f H _ I h) λd g ⟨i,j,q1⟩=>?_;cases d with
 |true=>exact l e g f i Q j q1
 |false=>exact m e g f i Q j q1
end
def BM(K:Av)(H:Hp)(a:Ac)(xs:U V):Prop:=
 Rd H a (.lst xs) \/
  ∃(o:AK) (b:Array Aa) (n:Nat),K.lookup a=Z o/\o.cls=.type "list"/\o.dict=yA/\o.data=.seq b n/\b.size<=AB/\As xs b.toList
def B6(K:Av)(H:Hp)(a:Ac)(xs:U V):Prop:=
 Rd H a (.tup xs) \/
  ∃(o:AK) (b:Array Aa) (n:Nat),K.lookup a=Z o/\o.cls=.type "tuple"/\o.data=.seq b n/\b.size<=AB/\As xs b.toList
noncomputable def kR:Aa->O V
 |.none=>Z .non
 |.bool b=>Z (.bl b)
 |.int i _=>Z (.int i)
 |.str x _=>Z (.str x)
 |.bytes b _=>Z (.byt b)
 |.float b _=>Z (.flt b)
 |.ref a=>Z (.ref a)
 |.type n=>Z (.ty n)
 |_=>yA
def RelV.abs(r:RelV x u):kR u=Z x:=by
 cases x with
 |non=>cases r;rfl
 |bl _=>cases r;rfl
 |int _=>obtain⟨t,rfl⟩:=r;rfl
 |str _=>obtain⟨t,rfl⟩:=r;rfl
 |byt _=>obtain⟨t,rfl⟩:=r;rfl
 |flt _=>obtain⟨t,rfl⟩:=r;rfl
 |ref _=>cases r;rfl
 |ty _=>cases r;rfl
def RelV.inj{x:V}(r:RelV x u)(q:RelV y u):x=y:=FT<|r.abs.symm.trans q.abs
theorem As.inj:∀{xs ys:U V}{us:U Aa},As xs us->As ys us->xs=ys
 |_,_,_,.nil,.nil=>rfl
 |_,_,_,.cons r t,.cons a b=>by rw[r.inj a,As.inj t b]
section
variable{s:Ab}{xs:U V}
def B6.of{K:Av}(h:H a=Z (.tup xs)):B6 K H a xs:=.inl<|.inl h
theorem Inv.list(I:Inv X pins σ H s)(h:BM X.K H a xs):∃b:U Aa,As xs b/\PlainL s.heap a b.toArray/\xs.length<=AB:=by
 rcases h with h|⟨o,b,n,c,d,hd,f,g,r⟩
 ·obtain⟨z,b,n,r,e⟩:=h.ok I.hok;exact⟨b,r,⟨_,n,e,rfl,rfl,rfl⟩,z⟩
 ·refine⟨b.toList,r,⟨o,n,I.kIn a o c,d,hd,by simpa using f⟩,?_⟩;have e:=r.length;erw[Jl]at e;lia
def Inv.tuple(I:Inv X pins σ H s)(h:B6 X.K H a xs):∃b:U Aa,As xs b/\IsTup s.heap a b.toArray/\xs.length<=AB:=by
 rcases h with h|⟨o,b,n,c,d,f,g,r⟩
 ·obtain⟨z,b,r,p⟩:=h.ok I.hok;exact⟨b,r,p,z⟩
 ·refine⟨b.toList,r,⟨o,I.kIn a o c,d,n,by simpa using f⟩,?_⟩;have e:=r.length;erw[Jl]at e;lia
def Inv.list_inj(I:Inv X pins σ H s)(h:BM X.K H a xs)(h':BM X.K H a ys):xs=ys:=by
 obtain⟨c,r,⟨o,n,e,_,_,d⟩,_⟩:=I.list h;obtain⟨b,i,⟨j,k,f,_,_,g⟩,_⟩:=I.list h';rw[e]at f;cases f;rw[d]at g;injection g with d1 _
 have:c=b:=by simpa using congrArg Array.toList d1
 subst this;exact r.inj i
def Inv.tuple_inj(I:Inv X pins σ H s)(h:B6 X.K H a xs)(h':B6 X.K H a ys):xs=ys:=by
 obtain⟨c,r,⟨o,e,_,n,d⟩,_⟩:=I.tuple h;obtain⟨b,i,⟨j,f,_,k,g⟩,_⟩:=I.tuple h';rw[e]at f;cases f;rw[d]at g;injection g with d1 _
 have:c=b:=by simpa using congrArg Array.toList d1
 subst this;exact r.inj i
end
abbrev Cx.wish(X:Cx)(E:Aa->Ab->Prop):Cx:={X with xe:=E}
abbrev Cx.nox(X:Cx):Cx:=X.wish λ_ _=>False
def Cx.Ok.wish(ok:X.Ok)(E:Aa->Ab->Prop):(X.wish E).Ok:=⟨ok.mod,ok.kind,ok.glob,ok.blt,ok.above,ok.inj,ok.has,ok.cab,ok.hd,ok.frames,ok.stk,ok.exf,ok.bs,ok.bsz,ok.noex,ok.exfs,ok.funs,ok.frf⟩
def Cx.Ok.unwish(ok:(X.wish E).Ok):X.Ok:=⟨ok.mod,ok.kind,ok.glob,ok.blt,ok.above,ok.inj,ok.has,ok.cab,ok.hd,ok.frames,ok.stk,ok.exf,ok.bs,ok.bsz,ok.noex,ok.exfs,ok.funs,ok.frf⟩
section
variable{s:Ab}
def Inv.wish(I:Inv X pins σ H s)(E:Aa->Ab->Prop):Inv (X.wish E) pins σ H s:=⟨I.ok.wish E,I.os,I.bare,I.base,I.loc,I.cell,I.free,I.freeC,I.pin,I.hok,I.len⟩
def Inv.unwish(I:Inv (X.wish E) pins σ H s):Inv X pins σ H s:=⟨I.ok.unwish,I.os,I.bare,I.base,I.loc,I.cell,I.free,I.freeC,I.pin,I.hok,I.len⟩
def SP.unwish{D:Ends}{f:Flow}{c:Ab}(h:SP (X.wish E) pins D f c):SP X pins D f c:=by
 cases f with
 |next=>obtain⟨a,b,I,q⟩:=h;exact⟨a,b,I.unwish,q⟩
 |brk=>obtain⟨a,b,I,q⟩:=h;exact⟨a,b,I.unwish,q⟩
 |cont=>obtain⟨a,b,I,q⟩:=h;exact⟨a,b,I.unwish,q⟩
 |ret u=>obtain⟨v,a,b,I,r,q⟩:=h;exact⟨v,a,b,I.unwish,r,q⟩
def EE.nox{st:U Ar}{t:TS}(h:EE X.nox st t):EE X st t:=λpins s σ H D I a=>wpAny_mono (h pins s σ H D (I.wish _) a) (λ_ _ q=>q.unwish) λ_ _ z=>Bo z
end
section
variable{st:Ar}{AJ:U Ar}{t u:TS}{e:Expr}
def kS:TS:=λD a H=>D.nx a H
def kT(t u:TS):TS:=λD a H=>t {D with nx:=u D} a H
def BY:EE X [] kS:=λ_ _ a H _ I h=>wpAny_execs_nil ⟨a,H,I,h⟩
def F7(c:PS X st t)(d:EE X AJ u):EE X (st::AJ) (kT t u):=by
 intro a s e H D I h;refine wpAny_execs_cons<|A1 (c a s e H {D with nx:=u D} I h) λf g q=>?_;cases f with
 |next=>
  obtain⟨b,i,j,q⟩:=q;exact d a g b i D j q
 |ret v=>exact q
 |brk=>exact q
 |cont=>exact q
def Inv.quiet{a:U (Ac×AK)}(I:Inv X a σ H s):interactive X.env=yC:=by simp[interactive,I.ok.kind]
def kU(te:TE):TS:=λD a H=>te a H λ_ b=>D.nx a b
def Ik(c:PE X e te)(d:DB e yA pos.line X.env=AH yC:=by rfl):PS X (.Expr e pos) (kU te):=by
 intro a s b H D I h;exact wpAny_Expr_any (A1 (c a s b H _ I h) λv i ⟨x,f,g,j,q1⟩=>⟨b,f,g,q1⟩) I.quiet d
def kW(te:TE):TS:=λD a H=>te a H D.rt
def Jm(c:PE X e te):PS X (.Return (Z e) pos) (kW te):=by
 intro a s b H D I h;exact wpAny_Return_some<|A1 (c a s b H _ I h) λv i ⟨x,d,f,g,q1⟩=>⟨x,b,d,f,g,q1⟩
def kX(c:TT)(t u:TS):TS:=λD a H=>c a H λb d=>if b=yB then t D a d else u D a d
def Sv{a b:U Ar}(l:PT X c g)(m:EE X a t)(n:EE X b u):PS X (.If c a b pos) (kX g t u):=by
 intro e s f H D I h;refine wpAny_If<|A1 (l e s f H _ I h) λd i ⟨j,k,q1⟩=>?_;cases d with
 |true=>exact m e i f j D k q1
 |false=>exact n e i f j D k q1
end
abbrev TG:=V->St->Hp->(St->Hp->Prop)->Prop
abbrev Il:=U V->St->Hp->(St->Hp->Prop)->Prop
def PG(X:Cx)(a:Expr)(t:TG):Prop:=
 ∀(b:U (Ac×AK)) (s:Ab) (d:St) (H:Hp) (v:V) (u:Aa) (Q:St->Hp->Prop),Inv X b d H s->RelV v u->t v d H Q ->
  wpAny (Ag X.prog X.w) X.A (assign a X.env u) (λ_ f=>∃c e,Inv X b c e f/\Q c e) X.xe s
def Ms(X:Cx)(g:U Expr)(t:Il):Prop:=
 ∀(a:U (Ac×AK)) (s:Ab) (c:St) (H:Hp) (d:U V) (e:U Aa) (Q:St->Hp->Prop),Inv X a c H s->As d e->t d c H Q ->
  wpAny (Ag X.prog X.w) X.A (assignInOrder ((GY g X.env).map (·.2)) e) (λ_ h=>∃b f,Inv X a b f h/\Q b f) X.xe s
abbrev Oo:=V->V->V->Hp->(Hp->Prop)->Prop
def Sw(X:Cx)(t:Oo):Prop:=
 ∀(a:U (Ac×AK)) (s:Ab) (b:St) (H:Hp) (o i v:V) (c d u:Aa) (Q:Hp->Prop),Inv X a b H s->RelV o c->RelV i d->RelV v u->t o i v H Q ->
  wpAny (Ag X.prog X.w) X.A (setItem c d u) (λ_ f=>∃e,Inv X a b e f/\Q e) X.xe s
section
def Jn(i:Nat):TG:=λv a H Q=>Q (a.set i (Z v)) H
def kY{i:Nat}{x:Ae}(b:X.N.Nodup)(c:X.N[i]?=Z x)(d:Loc X.env.scope x)(e:autoParam (X.fn x=yB\/X.env.scope.names.lookup x=Z .local) ya):PG X (.Name x pos) (Jn i):=by
 intro a s g H v u Q I r h;exact wpAny_assign_Name<|X6 I b c d r (λj f=>⟨_,H,f,h⟩) e
def kZ:Il:=λa b H Q=>a=[]/\Q b H
def k0(t:TG)(u:Il):Il:=λb c H Q=>∃v r,b=v::r/\t v c H λa d=>u r a d Q
def k3:Ms X [] kZ:=by
 intro a s b H c d Q I r h;obtain⟨rfl,h⟩:=h;cases r;exact assignInOrder_nil ⟨b,H,I,h⟩
def k5{e:Expr}{t:TG}{u:Il}(c:PG X e t)(d:Ms X es u) (f:(GY (e::es) X.env).map (·.2)=assign e X.env::(GY es X.env).map (·.2):=by rfl):Ms X (e::es) (k0 t u):=by
 intro a s g H n o Q I r h;obtain⟨v,p,rfl,h⟩:=h;cases r with
 |cons r j=>
  rw[f];exact assignInOrder_cons<|A1 (c a s g H _ _ _ I r h) λ_ k ⟨b,l,m,q1⟩=>d a k b l _ _ Q m j q1
def k6(K:Av)(n:Nat)(t:Il):TG:=λv c H Q=>∃a b,v=.ref a/\B6 K H a b/\b.length=n/\t b c H Q
def k7{k:Nat}{t:Il}{n:Nat}(j:X.calm=yB)(h:Ms X es t) (l:(GY es X.env).length=n:=by rfl) (d:(GY es X.env).findIdx? (·.1)=yA:=by rfl):PG X (.Tuple es k pos) (k6 X.K n t):=by
 intro c s g H v u Q I r f;obtain⟨a,m,rfl,q,w,f⟩:=f;cases r;obtain⟨x,i,y,C⟩:=I.tuple q;refine assign_Tuple_tuple (I.ok.hd j) y (by simp[l,<- w,i.length]) d λz A=>?_;have B:=I.kept (t':=s.toks) λb o e=>A b o (CD<|BC e) e;exact h c _ g H m _ Q B (by simpa using i) f
def k8(b c:TE)(t:Oo):TG:=λv a H Q=>b a H λo d=>c a d λi e=>t o i v e λf=>Q a f
def Ye{o i:Expr}{e f:TE}{t:Oo}(g:PE X o e)(j:PE X i f)(k:Sw X t) (l:∀v,assign (.Subscript o i pos) X.env v=(do
   let b <- Fs [v] (Ax o X.env);let c <- Fs [v,b] (Ax i X.env);standAt pos
   Fs [v,b,c] (setItem b c v)
   release [v,b,c] []):=by intro _;rfl):PG X (.Subscript o i pos) (k8 e f t):=by
 intro a s d H v u Q I r h;rw[l];refine Al<|FU<|A1 (g a s d H _ I h) λb m ⟨x,n,p,q,q1⟩=>?_;refine Al<|FU<|A1 (j a m d n _ p q1) λc w ⟨y,z,A,B,q2⟩=>?_;exact Al<|wpAny_standAt<|Al<|FU<|A1 (k a w d z x y v b c u _ A q B r q2) λ_ G ⟨C,E,q3⟩=>wpAny_release ⟨d,C,E,q3⟩
def Kl(b:TE)(g:TG):TS:=λD a H=>b a H λx c=>g x a c D.nx
def Yf{b e:Expr}{c:TE}{g:TG}(f:PE X e c)(i:PG X b g)(j:swapsWithSole [b] e pos.line X.env=AH yC:=by rfl)(k:swappedStores [b] e X.env=AH yA:=by rfl) (l:(GY [b] X.env).map (·.2)=[assign b X.env]:=by rfl):PS X (.Assign [b] e pos) (Kl c g):=by
 intro a s d H D I h;refine wpAny_Assign_stores (A1 (f a s d H _ I h) λv m ⟨x,n,o,p,q1⟩=>?_) j k;rw[l];exact A1 (i a m d n x v _ o p q1) λ_ r q=>q
def Lg{i:Nat}{x:Ae}{e:Expr}{c:TE}{a:AQ}(d:X.N.Nodup)(f:X.N[i]?=Z x)(g:Loc X.env.scope x)(j:PE X e c)(k:DB e (Z (.Name x a)) pos.line X.env=AH yC:=by rfl)(l:autoParam (X.fn x=yB\/X.env.scope.names.lookup x=Z .local) ya):PS X (.Assign [.Name x a] e pos) (Kl c (Jn i)):=by
 intro b s m H D I h;exact wpAny_Assign_Name (A1 (j b s m H _ I h) λv r ⟨y,n,o,p,q1⟩=>X6 o d f g p (λt q=>⟨_,n,q,q1⟩) l) k
end
structure It where
 go:Nat->Hp->Prop
 yld:Nat->Hp->V->Hp->Prop
 stop:Nat->Hp->Prop
def F8(X:Cx)(a:U (Ac×AK))(H:Hp)(b:Ac):Prop:=
 H b=yA/\b≠X.env.locals/\b∉X.fs/\(b∈X.ex\/X.s₀.heap.objs.size<=b)/\(∀x c,X.env.cells.lookup x=Z c->c≠b)/\∀p∈X.pn++a,p.1≠b
def Inv.fpOk{a:U (Ac×AK)}{b:Ac}(I:Inv X a σ H s)(d:s.heap.objs.size<=b)(f:H' b=yA):F8 X a H' b:=by
 refine⟨f,Im<|CC I.lt d,I.nofs d,.inr<|BX I.sz d,λx c e z=>?_,λp g z=>?_⟩
 ·obtain⟨v,q⟩:=I.cell x c e;exact absurd (CC q.lt (by rw[z];exact d))<|Gx _
 ·exact absurd (CC (BC (I.pin p g).1) (by rw[z];exact d))<|Gx _
structure HB(P:A4)(w:Aj)(K:Av)(tg:Expr)(J:It)(fp:List Ac)(it:Ac)(tn:Nat->Am->Prop):Prop where
 mem:it∈fp
 obj:∀i h,tn i h->∀b∈fp,∃o,h.get? b=Z o/\∀v,o.data≠.cell v
 keep:∀i h h',tn i h->(∀b∈fp,∀o,h.get? b=Z o->h'.get? b=Z o)->tn i h'
 item:∀(X:Cx),X.prog=P->X.w=w->X.K=K->X.calm=yB->∀(i:Nat) (pins:List (Ac×AK)) (s:Ab) (σ:St) (H:Hp) (E:Aa->Ab->Prop),Inv X pins σ H s->(∀b∈fp,F8 X pins H b)->tn i s.heap->J.go i H ->
  wpAny (Ag P w) X.A (BI (.ref it)) (λr s1=>∃u,r=Z u /\
   wpAny (Ag P w) X.A (Op tg (.ref it) u) (λ_ s2=>∃x H',Inv X pins σ H' s2/\RelV x u/\J.yld i H x H'/\tn (i+1) s2.heap/\∀b∈fp,H' b=yA) E s1) E s
 done:∀(X:Cx),X.prog=P->X.w=w->X.K=K->X.calm=yB->∀(i:Nat) (pins:List (Ac×AK)) (s:Ab) (σ:St) (H:Hp) (E:Aa->Ab->Prop),Inv X pins σ H s->(∀b∈fp,F8 X pins H b)->tn i s.heap->J.stop i H ->
  wpAny (Ag P w) X.A (BI (.ref it)) (λr s1=>r=yA/\Inv X pins σ H s1) E s
 self:∀(A:Ah) (i:Nat) (s:Ab) (Q:Aa->Ab->Prop) (E:Aa->Ab->Prop),tn i s.heap->Q (.ref it) s->wpAny (Ag P w) A (pyIter (.ref it)) Q E s
abbrev TI:=St->Hp->(It->Hp->Prop)->Prop
variable{wi:TI}
def Yg(X:Cx)(a:U (Ac×AK))(σ:St)(i:Expr)(R:It->Hp->Prop)(c:Aa)(e:Ab):Prop:=
 ∃(f:Ac) (g:U Ac) (h:Nat->Am->Prop) (q:It) (d:Hp),c=.ref f/\Inv X a σ d e/\HB X.prog X.w X.K i q g f h/\h 0 e.heap/\(∀b∈g,F8 X a d b)/\R q d
def PI(X:Cx)(c iter:Expr)(wi:TI):Prop:=
 ∀(a:U (Ac×AK)) (s:Ab) (b:St) (H:Hp) (R:It->Hp->Prop),Inv X a b H s->wi b H R ->
  wpAny (Ag X.prog X.w) X.A (Ax iter X.env) (λv d=>wpAny (Ag X.prog X.w) X.A (pyIter v) (Yg X a b c R) X.xe d) X.xe s
def Lh{vs:Array Aa}{Q:Unit->Ab->Prop}(c:s.heap.get? it=Z o)(d:o.cls=.type n)(hd:o.data=.fields vs) (e:["enumerate","zip","dict_itemiterator","dict_reverseitemiterator","odict_iterator","itertools.zip_longest","itertools.pairwise"].contains n=yC) (a:Q () s):wpAny M A (Op b (.ref it) u) Q E s:=by
 unfold Op;cases b<;>first
  |exact AO a
  |(cases u<;>first
    |exact AO a
    |(refine Al (wpAny_load c ?_)
      rw[d,hd];show wpAny M A (if(["enumerate","zip","dict_itemiterator","dict_reverseitemiterator","odict_iterator","itertools.zip_longest","itertools.pairwise"].contains n&&vs[0]?==Z (Be _))=yB then _ else _) Q E s
      rw[if_neg (by intro h;rw[e,Bool.false_and]at h;cases h)];exact AO a))
def Yh(K:Av)(a:Ac):It:=
 ⟨λi H=>∃b x,BM K H a b/\b[i]?=Z x,λi H x c=>c=H/\∀b,BM K H a b->b[i]?=Z x,λi H=>∃b,BM K H a b/\b.length<=i⟩
def Yi(K:Av)(a:Ac):It:=
 ⟨λi H=>∃b x,B6 K H a b/\b[i]?=Z x,λi H x c=>c=H/\∀b,B6 K H a b->b[i]?=Z x,λi H=>∃b,B6 K H a b/\b.length<=i⟩
def Mt(lo:Int)(n:Nat):It:=⟨λi _=>i<n,λi H x a=>a=H/\x=.int (lo+i),λi _=>n<=i⟩
theorem k9{w:Aj}{K:Av}{T:Expr}(a it:Ac):HB P w K T (Yh K a) [it] it (λi h=>h.IsListIter it a i) where
 mem:=by simp
 obj:=λi h st b g=>by
  have e:b=it:=by simpa using g
  subst e;obtain⟨o,e,c,d⟩:=st;exact⟨o,e,λv z=>by rw[d]at z;cases z⟩
 keep:=λi h l st k=>st.at λo e=>k it (by simp) o e;item:=by
  intro X q r t R i f s Q H E I m st y;subst q r t;obtain⟨S,x,n,A⟩:=y;obtain⟨B,C,p,Y⟩:=I.list n;obtain⟨u,hu,ru⟩:=C.get A;obtain⟨G,F,f2,L,M,N⟩:=m it (by simp);refine wpAny_pyNext_list_item st p.isList (by simpa using hu) λl j sb=>?_;have I1:=I.turned (t':=s.toks) (λb o g e=>(sb.2 b g).trans e) G F L M N;obtain⟨o,e,c,d⟩:=id j;exact⟨u,rfl,Lh e c d (by ext) ⟨x,H,I1,ru,⟨rfl,λys hy=>by rw[I.list_inj hy n];exact A⟩,j,λb g=>(m b g).1⟩⟩
 done:=by
  intro X q r t R i f s Q H E I m st y;subst q r t;obtain⟨S,n,A⟩:=y;obtain⟨B,C,p,Y⟩:=I.list n;obtain⟨G,F,f2,L,M,N⟩:=m it (by simp);have hl:=C.length;exact wpAny_pyNext_list_end (I.ok.hd R) st p.isList (by simp;lia) λl eb=>⟨rfl,I.turned (t':=s.toks) (λb o g e=>eb b o g e) G F L M N⟩
 self:=λ_ _ _ _ _ st h=>wpAny_pyIter_listiter st h
def la{w:Aj}{K:Av}{T:Expr}(a it:Ac):HB P w K T (Yi K a) [it] it (λi h=>h.IsTupleIter it a i) where
 mem:=by simp
 obj:=λi h st b g=>by
  have e:b=it:=by simpa using g
  subst e;obtain⟨o,e,c,d⟩:=st;exact⟨o,e,λv z=>by rw[d]at z;cases z⟩
 keep:=λi h m st k=>st.at λo e=>k it (by simp) o e;item:=by
  intro X r t y R i f s Q H E I n st A;subst r t y;obtain⟨S,x,q,B⟩:=A;obtain⟨j,C,p,Y⟩:=I.tuple q;obtain⟨u,hu,ru⟩:=C.get B;obtain⟨G,F,f2,L,M,N⟩:=n it (by simp);refine wpAny_pyNext_tuple_item st (show s.heap.IsTuple a j.toArray from p) (by simpa using hu) λm l sb=>?_;have I1:=I.turned (t':=s.toks) (λb o g e=>(sb.2 b g).trans e) G F L M N;obtain⟨o,e,c,d⟩:=id l;exact⟨u,rfl,Lh e c d (by ext) ⟨x,H,I1,ru,⟨rfl,λys hy=>by rw[I.tuple_inj hy q];exact B⟩,l,λb g=>(n b g).1⟩⟩
 done:=by
  intro X r t y R i f s Q H E I n st A;subst r t y;obtain⟨S,q,B⟩:=A;obtain⟨j,C,p,Y⟩:=I.tuple q;obtain⟨G,F,f2,L,M,N⟩:=n it (by simp);have hl:=C.length;exact wpAny_pyNext_tuple_end (I.ok.hd R) st (show s.heap.IsTuple a j.toArray from p) (by simp;lia) λm eb=>⟨rfl,I.turned (t':=s.toks) (λb o g e=>eb b o g e) G F L M N⟩
 self:=λ_ _ _ _ _ st h=>wpAny_pyIter_tupleiter st h
theorem lb{K:Av}{G:Expr}(it:Ac)(lo:Int)(n:Nat):HB P w K G (Mt lo n) [it] it (λi h=>IsRangeIter h it (lo+(i:Nat)*1) ((n:Int)-(i:Nat)) 1) where
 mem:=by simp
 obj:=λi h st b c=>by
  have e:b=it:=by simpa using c
  subst e;exact⟨_,st,λv z=>by
   have F:=z;cases F⟩
 keep:=λi h f st k=>k it (by simp) _ st;item:=by
  intro X j l m p i a s B H E I g st q;subst j l m;obtain⟨r,u,L,x,y,A⟩:=g it (by simp);have W:=Walks.range (prog:=X.prog) (w:=X.w) (I.ok.hd p) it lo 1 n;refine W.item i s _ _ q st λv f C M d N=>?_;obtain⟨t,rfl⟩:=M;have R:Inv X a B H {s with heap:=f,toks:=C}:=I.turned (λb o c e=>N b o (by simpa using c) e) r u x y A;refine⟨_,rfl,Lh (s:={s with heap:=f,toks:=C}) (n:="range_iterator") d rfl rfl (by ext) ⟨.int (lo+i),H,R,⟨t,?_⟩,⟨rfl,rfl⟩,d,λb c=>(g b c).1⟩⟩;rw[Int.mul_one]
 done:=by
  intro X j l m p i a s B H E I g st q;subst j l m;obtain⟨r,u,L,x,y,A⟩:=g it (by simp);exact wpAny_pyNext_range_end (I.ok.hd p) st (by have:n<=i:=q;lia) λf Q=>⟨rfl,I.turned (t':=s.toks) (λb o c e=>Q b o c e) r u x y A⟩
 self:=λ_ _ _ _ _ st h=>wpAny_pyIter_rangeiter st h
section
def lc(K:Av)(c:TE):TI:=λd H R=>c d H λx b=>∃a,x=.ref a/\(∃e,BM K b a e)/\R (Yh K a) b
def lf(K:Av)(c:TE):TI:=λd H R=>c d H λx b=>∃a,x=.ref a/\(∃e,B6 K b a e)/\R (Yi K a) b
def lg(i:PE X l g):PI X tg l (lc X.K g):=by
 intro c s j H R I h;refine A1 (i c s j H _ I h) λv d ⟨x,k,f,m,q1⟩=>?_;obtain⟨a,rfl,⟨u,n⟩,q⟩:=q1;cases m;obtain⟨r,w,p,y⟩:=f.list n;refine Oq p.isList ?_;refine⟨d.heap.objs.size,[d.heap.objs.size],_,_,k,rfl,f.kept (t':=d.toks) λb o e=>BG _ e,k9 a _,⟨_,Cm _ rfl,rfl,rfl⟩,λb t=>?_,q⟩;have e:b=d.heap.objs.size:=by simpa using t
 subst e;exact f.fpOk (Bl _)<|f.hok.fresh<|Bl _
def lh(j:PE X l i):PI X tg l (lf X.K i):=by
 intro c s k H R I h;refine A1 (j c s k H _ I h) λv d ⟨x,m,f,n,q1⟩=>?_;obtain⟨a,rfl,⟨u,r⟩,q⟩:=q1;cases n;obtain⟨g,w,p,y⟩:=f.tuple r;refine wpAny_pyIter_tuple (show d.heap.IsTuple a g.toArray from p) ?_;refine⟨d.heap.objs.size,[d.heap.objs.size],_,_,m,rfl,f.kept (t':=d.toks) λb o e=>BG _ e,la a _,⟨_,Cm _ rfl,rfl,rfl⟩,λb t=>?_,q⟩;have e:b=d.heap.objs.size:=by simpa using t
 subst e;exact f.fpOk (Bl _)<|f.hok.fresh<|Bl _
theorem Yj{R:It->Hp->Prop}{lo a:Int}{t u v:Tok}(I:Inv X c σ H s)(g : -(2^62)<=lo)(h:lo<2^62)(i : -(2^62)<=a)(j:a<2^62) (q:R (Mt lo (a-lo).toNat) H):wpAny (Ag X.prog X.w) X.A (pyIter (.ref s.heap.objs.size)) (Yg X c σ tg R) E {s with heap:=s.heap.push {cls:=.type "range",data:=.fields #[.int lo t,.int a u,.int 1 v]},toks:=d}:=by
 refine wpAny_pyIter_range (IsRange.new ..) (small_one g h i j) ?_;have f:Inv X c σ H {s with heap:=s.heap.push {cls:=.type "range",data:=.fields #[.int lo t,.int a u,.int 1 v]},toks:=d}:=I.kept λb o e=>BG _ e;refine⟨(s.heap.push {cls:=.type "range",data:=.fields #[.int lo t,.int a u,.int 1 v]}).objs.size,[(s.heap.push {cls:=.type "range",data:=.fields #[.int lo t,.int a u,.int 1 v]}).objs.size],_,_,H,rfl,
  f.kept (t':=d) λb o e=>BG _ e,lb _ lo (a-lo).toNat,?_,λb k=>?_,q⟩
 ·have l:lo+((0:Nat):Int)*1=lo:=by simp
  have m:(((a-lo).toNat:Nat):Int)-((0:Nat):Int)=Builtin.Range.rangeSize lo a 1:=by rw[rangeSize_one];split<;>lia
  rw[l,m];exact Cm _ rfl
 ·have e:b=(s.heap.push {cls:=.type "range",data:=.fields #[.int lo t,.int a u,.int 1 v]}).objs.size:=by simpa using k
  subst e;exact f.fpOk (Bl _)<|f.hok.fresh<|Bl _
def li(a:TA):TI:=λb H R=>a b H λc d=>∃j:Int,c=[.int j] /\ -(2^62)<=j/\j<2^62/\R (Mt 0 j.toNat) d
def lj(a:TA):TI:=λb H R=>a b H λc d=>∃i j:Int,c=[.int i,.int j]/\(-(2^62)<=i/\i<2^62 /\ -(2^62)<=j/\j<2^62)/\R (Mt i (j-i).toNat) d
theorem ll{a:Expr}{c:TA}{p:AQ}(d:Gl X "range")(f:X.mg "range"=yA)(g:PA X [a] c)(i:AY [a] X.env=[(yC,Ax a X.env)]:=by rfl):PI X tg (.Call (.Name "range" p) [a] [] pos) (li c):=by
 intro b s k H R I h;refine Call_<|HA I d f boot_range<|Mu (A1 (g pos b s k H _ I h) λo u ⟨v,w,l,m,q1⟩=>?_) i rfl;obtain⟨j,rfl,q1,q2,q⟩:=q1;cases m with
 |cons r n=>
  cases n;obtain⟨t,rfl⟩:=r;exact call_range_1<|Yj l (by lia) (by lia) q1 q2 (by simpa using q)
def lm{a b:Expr}{g:TA}{p:AQ}(k:Gl X "range")(l:X.mg "range"=yA)(m:PA X [a,b] g)(n:AY [a,b] X.env=[(yC,Ax a X.env),(yC,Ax b X.env)]:=by rfl)(c:AY [b] X.env=[(yC,Ax b X.env)]:=by rfl):PI X tg (.Call (.Name "range" p) [a,b] [] pos) (lj g):=by
 intro d s o H R I h;refine Call_<|HA I k l boot_range<|Mu (A1 (m pos d s o H _ I h) λx y ⟨z,A,u,v,q1⟩=>?_) (by rw[n,c]) (by rw[c];rfl);obtain⟨i,j,rfl,⟨q1,q2,q3,q4⟩,q⟩:=q1;cases v with
 |cons r f=>
  cases f with
  |cons w f=>
   cases f;obtain⟨t,rfl⟩:=r;obtain⟨B,rfl⟩:=w;exact call_range_2<|Yj u q1 q2 q3 q4 q
def Yk(wi:TI)(g:TG)(tb:TS):TS:=λD a H=>wi a H λq f=>∃W:Nat->Nat->St->Hp->Prop,(∃m,W 0 m a f)/\∀i m a H,W i m a H ->
 (q.stop i H/\D.nx a H)\/(q.go i H/\∃N:St->Hp->Prop,(∀b c,N b c->∃e,e<m/\W (i+1) e b c)/\∀x c,q.yld i H x c->g x a c λd h=>tb {D with nx:=N,ct:=N,bk:=D.nx} d h)
def Km(a:U Ac)(h:Am):U (Ac×AK):=a.filterMap λb=>(h.get? b).map λo=>(b,o)
def Ot{a:U Ac}(c:b∈a)(e:h.get? b=Z o):(b,o)∈Km a h:=List.mem_filterMap.mpr ⟨b,c,by rw[e];rfl⟩
def Yl{a:U Ac}(c:p∈Km a h):p.1∈a/\h.get? p.1=Z p.2:=by
 obtain⟨b,d,e⟩:=List.mem_filterMap.mp c;cases q:h.get? b with|none=>simp[q]at e|some o=>
  rw[q]at e;have f:=FT e;subst f;exact⟨d,q⟩
def Inv.pinned{a:U (Ac×AK)}(I:Inv X a σ H s)(h:∀b∈c,F8 X a H b)(i:∀b∈c,∃o,s.heap.get? b=Z o/\∀v,o.data≠.cell v):Inv X (a++Km c s.heap) σ H s:=I.pins_of λp j=>(Dk.mp j).elim (λz=>I.pin p<|Df _ z) λz=>by
  obtain⟨f,e⟩:=Yl z;obtain⟨k,l,m,_⟩:=h p.1 f;obtain⟨o,g,d⟩:=i p.1 f;rw[e]at g;cases g;exact⟨e,k,l,m,d⟩
def Inv.unpinned{a pl:U (Ac×AK)}(I:Inv X (a++pl) σ H s):Inv X a σ H s:=I.pins_of λp b=>I.pin p<|Df _<|Gy _ b
def Sx{z:U Ar}{g:TG}{tb:TS}(C:PassesOwn (Ag X.prog X.w) X.A X.env X.xe)(hc:X.calm=yB)(hi:PI X tg iter wi)(hg:PG X tg g)(j:EE X z tb) (hs:∀x,FV iter X.env x=AH x:=by intro _;rfl):PS X (.For tg iter z [] pos) (Yk wi g tb):=by
 intro a s σ H D I h;refine wpAny_For (A1 (hi a s σ H _ I h) λv s1 h1=>A1 h1 λitv s2 h2=>?_) hs;obtain⟨it,E,tn,F,H2,rfl,I2,T,K,f2,W,⟨m0,w0⟩,turn⟩:=h2;have k:∀{y:Hp},(∀b∈E,y b=yA)->∀b∈E,F8 X a y b:=λhn b j=>⟨hn b j,(f2 b j).2⟩;refine codeAny_forLoop_any (λn s'=>∃i l y,Inv X a l y s'/\tn i s'.heap/\(∀b∈E,y b=yA)/\W i n l y) ?_ m0 ⟨0,σ,H2,I2,K,λb j=>(f2 b j).1,w0⟩;rintro n s3 ⟨i,p,M,I3,G,L,w3⟩;rcases turn i n p M w3 with⟨stop,qn⟩|⟨go,N,hN,step⟩
 ·refine Ou C<|A1 (T.done X rfl rfl rfl hc i a s3 p M X.xe I3 (k L) G stop) λr s4 ⟨Q,I4⟩=>?_;subst Q;exact wpAny_execs_nil ⟨p,M,I4,qn⟩
 ·refine Ou C<|A1 (T.item X rfl rfl rfl hc i a s3 p M X.xe I3 (k L) G go) λr s4 ⟨u,Q,h4⟩=>?_;subst Q;refine Ou C<|A1 h4 λ_ s5 ⟨x,H5,I5,r5,y5,B,P⟩=>?_;have Y:=I5.pinned (k P)<|T.obj _ _ B;refine Ou C<|A1 (hg _ s5 p H5 x u _ Y r5<|step x H5 y5) λ_ s6 ⟨σ6,H6,I6,q6⟩=>?_;refine Ou C<|A1 (j _ s6 σ6 H6 _ I6 q6) λf s7 q7=>?_;have again:∀{c:St} {q:Hp},Inv X (a++Km E s5.heap) c q s7->N c q->∃m,m<n/\∃i l y,Inv X a l y s7/\tn i s7.heap/\(∀b∈E,y b=yA)/\W i m l y:=λ{c q} t n7=>by
   obtain⟨m',hm,w7⟩:=hN c q n7;refine⟨m',hm,i+1,c,q,t.unpinned,T.keep _ _ _ B λb j o e=>(t.pin (b,o)<|Df _<|Df _<|Ot j e).1,λb j=>?_,w7⟩;obtain⟨o,e,d⟩:=T.obj _ _ B b j;exact(t.pin (b,o)<|Df _<|Df _<|Ot j e).2.1
  cases f with
  |next=>obtain⟨c,q,t,n7⟩:=q7;exact again t n7
  |cont=>obtain⟨c,q,t,n7⟩:=q7;exact again t n7
  |brk=>obtain⟨c,q,t,q7⟩:=q7;exact⟨c,q,t.unpinned,q7⟩
  |ret v=>obtain⟨x7,c,q,t,r7,q7⟩:=q7;exact⟨x7,c,q,t.unpinned,r7,q7⟩
end
abbrev R2:=V->V->Hp->VK->Prop
variable{r:R2}
def Cd(X:Cx)(f:Aa->Aa->Sem Aa)(r:R2):Prop:=
 ∀(a:U (Ac×AK)) (s:Ab) (b:St) (H:Hp) (x y:V) (v u:Aa) (Q:VK),Inv X a b H s->RelV x v->RelV y u->r x y H Q ->
  wpAny (Ag X.prog X.w) X.A (f v u) (EP X a b Q) X.xe s
def Sy(X:Cx)(f:Aa->Sem Aa)(r:V->Hp->VK->Prop):Prop:=
 ∀(a:U (Ac×AK)) (s:Ab) (b:St) (H:Hp) (x:V) (v:Aa) (Q:VK),Inv X a b H s->RelV x v->r x H Q ->
  wpAny (Ag X.prog X.w) X.A (f v) (EP X a b Q) X.xe s
def Es(X:Cx)(f:Aa)(r:U V->Hp->VK->Prop):Prop:=
 ∀(a:U (Ac×AK)) (s:Ab) (b:St) (H:Hp) (c:U V) (d:U Aa) (Q:VK),Inv X a b H s->As c d->r c H Q ->
  wpAny (Ag X.prog X.w) X.A (call f d) (EP X a b Q) X.xe s
def lq(X:Cx)(r:V->Hp->(Bool->Hp->Prop)->Prop):Prop:=
 ∀(a:U (Ac×AK)) (s:Ab) (b:St) (H:Hp) (x:V) (v:Aa) (Q:Bool->Hp->Prop),Inv X a b H s->RelV x v->r x H Q ->
  wpAny (Ag X.prog X.w) X.A (truthy v) (TP X a b Q) X.xe s
def Li(r:R2)(b tb:TE):TE:=λa H Q=>b a H λx c=>tb a c λy d=>r x y d Q
def lu(r:V->Hp->VK->Prop)(a:TE):TE:=λb H Q=>a b H λx c=>r x c Q
def rI(C:Int->Int->Prop)(g:Int->Int->V):R2:=λx y H Q=>∃i j,x=.int i/\y=.int j/\C i j/\Q (g i j) H
def HC(g:Int->Int->V):R2:=λx y H Q=>∃i j,x=.int i/\y=.int j/\Q (g i j) H
def rU(g:Int->V):V->Hp->VK->Prop:=λx H Q=>∃i,x=.int i/\Q (g i) H
section
variable{a b c:Expr}
def Sz(k:PE X a ta)(l:PE X b tb){c:U (Ac×AK)}{s:Ab}{R:V->V->Hp->Prop}(I:Inv X c σ H s) (h:ta σ H λx j=>tb σ j λy d=>R x y d) {f:Aa->Aa->Sem Aa} (m:∀v u i x y d,Inv X c σ d i->RelV x v->RelV y u->R x y d->wpAny (Ag X.prog X.w) X.A (f v u) Q X.xe i):wpAny (Ag X.prog X.w) X.A (Ax a X.env) (λv e=>wpAny (Ag X.prog X.w) X.A (Ax b X.env) (λu g=>wpAny (Ag X.prog X.w) X.A (f v u) Q X.xe g) X.xe e) X.xe s:=by
 refine A1 (k c s σ H _ I h) λv n ⟨x,j,o,p,q1⟩=>?_;exact A1 (l c n σ j _ o q1) λu i ⟨y,d,q,r,q2⟩=>m v u i x y d q p r q2
def lv(d:Cd X (GZ op) r)(e:PE X a ta)(f:PE X b tb):PE X (.BinOp a op b pos) (Li r ta tb):=by
 intro c s g H Q I h;exact wpAny_BinOp<|Sz e f I h λv u i x y j k l m q=>d c i g j x y v u Q k l m q
def lw{r:V->Hp->VK->Prop}(d:Sy X (unaryOp op) r)(e:PE X a ta):PE X (.UnaryOp op a pos) (lu r ta):=by
 intro b s c H Q I h;exact UnaryOp_<|A1 (e b s c H _ I h) λv f ⟨x,g,i,j,q1⟩=>d b f c g x v Q i j q1
def Ov{C:Int->Int->Prop}{g:Int->Int->Int} (rule:∀(i j:Int) (t u:Tok) (s:Ab) (Q:Aa->Ab->Prop) (E:Aa->Ab->Prop),C i j->Q (.int (g i j) s.toks) {s with toks:=s.toks+1}->wpAny (Ag X.prog X.w) X.A (f (.int i t) (.int j u)) Q E s):Cd X f (rI C λi j=>.int (g i j)):=by
 intro a s k H x y v u Q I b c h;obtain⟨i,j,rfl,rfl,d,q⟩:=h;obtain⟨t,rfl⟩:=b;obtain⟨e,rfl⟩:=c;exact rule i j t e s _ _ d ⟨.int<|g i j,H,I.tok _,⟨_,rfl⟩,q⟩
def Ym{g:Int->Int->Int} (rule:∀(i j:Int) (t u:Tok) (s:Ab) (Q:Aa->Ab->Prop) (E:Aa->Ab->Prop),Q (.int (g i j) s.toks) {s with toks:=s.toks+1}->wpAny (Ag X.prog X.w) X.A (f (.int i t) (.int j u)) Q E s):Cd X f (HC λi j=>.int (g i j)):=by
 intro a s e H x y v u Q I b c h;obtain⟨i,j,rfl,rfl,q⟩:=h;obtain⟨t,rfl⟩:=b;obtain⟨d,rfl⟩:=c;exact rule i j t d s _ _ ⟨.int<|g i j,H,I.tok _,⟨_,rfl⟩,q⟩
def SD{g:Int->Int->Bool} (rule:∀(i j:Int) (t u:Tok) (s:Ab) (Q:Aa->Ab->Prop) (E:Aa->Ab->Prop),Q (.bool (g i j)) s->wpAny (Ag X.prog X.w) X.A (f (.int i t) (.int j u)) Q E s):Cd X f (HC λi j=>.bl (g i j)):=by
 intro a s e H x y v u Q I b c h;obtain⟨i,j,rfl,rfl,q⟩:=h;obtain⟨t,rfl⟩:=b;obtain⟨d,rfl⟩:=c;exact rule i j t d s _ _ ⟨.bl<|g i j,H,I,rfl,q⟩
noncomputable def Mv(i j:Int):Prop:=0<j/\j<1073741824
noncomputable def Lj(i j:Int):Prop:=0<=j/\j<=1000000/\i.natAbs<2^64
noncomputable def D5(i j:Int):Prop:=(-(2^64)<i/\i<2^64)\/(-(2^64)<j/\j<2^64)
def D5.ok{i j:Int}(h:D5 i j):IntMulOk i j:=by
 rcases h with⟨a,b⟩|⟨a,b⟩
 ·exact .of_left<|intBits_le_64 a b
 ·exact .of_right<|intBits_le_64 a b
def Kn:Cd X (GZ .Add) (HC λi j=>.int (i+j)):=Ym λ_ _ _ _ _ _ _ q=>add_int q
def lx:Cd X (GZ .Sub) (HC λi j=>.int (i-j)):=Ym λ_ _ _ _ _ _ _ q=>sub_int q
def ly:Cd X (GZ .Mult) (rI D5 λi j=>.int (i*j)):=Ov λ_ _ _ _ _ _ _ a q=>mul_int q a.ok
theorem lz:Cd X (GZ .FloorDiv) (rI Mv λi j=>.int (i/j)):=Ov λi j _ _ _ _ _ a q=>by
 have b:=a.1;have c:=a.2;exact floordiv_int (by lia) (by rw[Int.fdiv_eq_ediv_of_nonneg i (by lia)];exact q)<|.inl<|PyProof.noPylong_small (by lia)
def lA:Cd X (GZ .Mod) (rI (λ_ j=>0<j) λi j=>.int (i%j)):=Ov λi j _ _ _ _ _ a q=>by
 have b:=a;exact mod_int' (by lia) (by rw[Int.fmod_eq_emod_of_nonneg i (by lia)];exact q)
def lB:Cd X (GZ .Pow) (rI Lj λi j=>.int (i^j.toNat)):=Ov λ_ _ _ _ _ _ _ a q=>pow_int_small a.1 a.2.1 a.2.2 q
def lC{g:Int->Int} (rule:∀(i:Int) (t:Tok) (s:Ab) (Q:Aa->Ab->Prop) (E:Aa->Ab->Prop),Q (.int (g i) s.toks) {s with toks:=s.toks+1}->wpAny (Ag X.prog X.w) X.A (f (.int i t)) Q E s):Sy X f (rU λi=>.int (g i)):=by
 intro a s c H x v Q I b h;obtain⟨i,rfl,q⟩:=h;obtain⟨t,rfl⟩:=b;exact rule i t s _ _ ⟨.int<|g i,H,I.tok _,⟨_,rfl⟩,q⟩
def lD:Sy X (unaryOp .USub) (rU λi=>.int (-i)):=lC λ_ _ _ _ _ q=>neg_int q
end
section
variable{a b c:Expr}{tc:TE}
def Yn{a:U (Ac×AK)}{Q:VK}{k b:Bool}(I:Inv X a σ H s)(q:Q (.bl k) H)(e:k=b):EP X a σ Q (.bool b) s:=by
 subst e;exact⟨.bl k,H,I,rfl,q⟩
def Yo:Cd X (DA .LtE) (HC λi j=>.bl (decide (i<=j))):=SD λ_ _ _ _ _ _ _ q=>le_int q
def Yp:Cd X (DA .Gt) (HC λi j=>.bl (decide (j<i))):=SD λ_ _ _ _ _ _ _ q=>gt_int q
def lE:Cd X (DA .GtE) (HC λi j=>.bl (decide (j<=i))):=SD λ_ _ _ _ _ _ _ q=>ge_int q
def lF:Cd X (DA .In) (λx y H Q=>∃i j,x=.str i/\y=.str j/\Q (.bl (!(Mw j i 0 j.length 1).isEmpty)) H):=by
 intro a s d H x y v u Q I b c h;obtain⟨i,j,rfl,rfl,q⟩:=h;obtain⟨t,rfl⟩:=b;obtain⟨e,rfl⟩:=c;exact in_str<|Yn I q rfl
def lG:Cd X (DA .NotIn) (λx y H Q=>∃i j,x=.str i/\y=.str j/\Q (.bl (!(!(Mw j i 0 j.length 1).isEmpty))) H):=by
 intro a s d H x y v u Q I b c h;obtain⟨i,j,rfl,rfl,q⟩:=h;obtain⟨t,rfl⟩:=b;obtain⟨e,rfl⟩:=c;exact notIn_str<|Yn I q rfl
def Cd.or{b:R2}(h:Cd X f r)(h':Cd X f b):Cd X f (λx y H Q=>r x y H Q\/b x y H Q):=by
 intro a s c H x y v u Q I d e q;rcases q with q|q
 ·exact h a s c H x y v u Q I d e q
 ·exact h' a s c H x y v u Q I d e q
def lH(d:Cd X (DA op) r)(e:PE X a ta)(f:PE X b tb)(g:Gz op b=yC):PE X (.Compare a [op] [b] pos) (Li r ta tb):=by
 intro c s i H Q I h;exact wpAny_Compare1 (Sz e f I h λv u j x y k l m n q=>d c j i k x y v u Q l m n q) g
def lI(t:TE):TT:=λa H Q=>t a H λx b=>∃k,x=.bl k/\Q k b
def Yq(g:Cd X (DA op) r)(i:PE X a ta)(j:PE X b tb)(l:Gz op b=yC):PT X (.Compare a [op] [b] pos) (lI (Li r ta tb)):=by
 intro d s f H Q I h;refine wpAny_isTrue_Compare1 (A1 (i d s f H _ I h) λv m ⟨x,n,o,p,q1⟩=>A1 (j d m f n _ o q1) λu q ⟨y,t,w,A,q2⟩=>
  A1 (g d q f t x y v u _ w p A q2) λc G ⟨z,B,C,E,k,e,q3⟩=>?_) l
 subst e;cases E;exact Ij ⟨B,C,q3⟩
def Yr(r c:R2)(ta tb tc:TE):TE:=λa H Q=>ta a H λx d=>tb a d λy e=>r x y e λz b=>∃k,z=.bl k /\
 (if k=yB then tc a b λf g=>c y f g Q else Q (.bl yC) b)
def lJ{op g:CmpOp}{l:R2}(p:Cd X (DA op) r)(j:Cd X (DA g) l)(q:PE X a ta)(t:PE X b tb)(w:PE X c tc) (A:autoParam (lastMarks [op,g] [b,c]=yC) yb):PE X (.Compare a [op,g] [b,c] pos) (Yr r l ta tb tc):=by
 intro f s i H Q I h;refine Compare_chain (A1 (q f s i H _ I h) λv B ⟨x,C,E,G,q1⟩=>chain_link (A1 (t f B i C _ E q1) λu F ⟨y,L,M,m,q2⟩=>
  A1 (p f F i L x y v u _ M G m q2) λd N ⟨z,n,o,K,k,e,q3⟩=>?_)) A
 subst e;cases K;refine Ij ?_;cases k with
 |false=>exact ite_ff ⟨.bl yC,n,o,rfl,q3⟩
 |true=>exact ite_tt<|chain_last<|A1 (w f N i n _ o q3) λT P ⟨Y,H4,I4,r4,q4⟩=>j f P i H4 y Y u T Q I4 m r4 q4
def Ys(K:Av)(x:V)(H:Hp)(k:Bool):Prop:=
 match x with
 |.non=>k=yC
 |.bl b=>k=b
 |.int i=>k=(i != 0)
 |.str y=>y.length<=AB/\k=((y.length:Int) != 0)
 |.byt y=>y.size<=AB/\k=((y.size:Int) != 0)
 |.ref p=>(∃a,BM K H p a/\k=!a.isEmpty)\/(∃a,B6 K H p a/\k=!a.isEmpty)\/∃c,H p=Z (.dK c)/\k=!c.isEmpty
 |_=>False
def lK{a:Type}{kvs:U (a×V)}{vs:U (a×Aa)}(r:KV kvs vs):(!vs.isEmpty)=!kvs.isEmpty:=by
 cases r<;>rfl
def Yt{xs:U V}{a:U Aa}(r:As xs a):(!a.toArray.isEmpty)=!xs.isEmpty:=by
 cases r<;>simp
def Ko:(AB:Nat)<2^63:=by rw[F9];decide
theorem lL:lq X (λx H Q=>∃k,Ys X.K x H k/\Q k H):=by
 intro u s C H x v Q I g h;obtain⟨k,e,q⟩:=h;have E:=Ko;have G:=F9;cases x with
 |non=>
  cases g;have a:=e;subst a;exact truthy_none ⟨H,I,q⟩
 |bl b=>
  cases g;have a:=e;subst a;exact Ij ⟨H,I,q⟩
 |int i=>
  obtain⟨t,rfl⟩:=g;have a:=e;subst a;exact PySem.P.truthy_int ⟨H,I,q⟩
 |str y=>
  obtain⟨t,rfl⟩:=g;obtain⟨A,a⟩:y.length<=AB/\k=((y.length:Int) != 0):=e;subst a;exact PySem.P.truthy_str (by lia) ⟨H,I.tok _,q⟩
 |byt y=>
  obtain⟨t,rfl⟩:=g;obtain⟨A,a⟩:y.size<=AB/\k=((y.size:Int) != 0):=e;subst a;exact PySem.W.truthy_bytes (by lia) ⟨H,I.tok _,q⟩
 |ref p=>
  cases g;have a:=e;rcases a with⟨f,j,a⟩|⟨f,j,a⟩|⟨c,j,a⟩
  ·subst a;obtain⟨n,r,o,z⟩:=I.list j;have d:=r.length;exact wpAny_truthy_list o.isList (by erw[Bx];lia) ⟨H,I.tok _,by rw[Yt r];exact q⟩
  ·subst a;obtain⟨n,r,o,z⟩:=I.tuple j;have d:=r.length;exact truthy_tuple o (by erw[Bx];lia) ⟨H,I.tok _,by rw[Yt r];exact q⟩
  ·subst a;obtain⟨z,B,l,r,m⟩:c.length<=AB/\(p==FS)=yC/\∃l,KV c l/\s.heap.DictOf (Sq X.prog X.w) p l:=I.hok p _ j;have d:=Gw r;exact wpAny_truthy_dict B m (by lia) ⟨H,I.tok _,by rw[lK r];exact q⟩
 |_=>exact(show False from e).elim
def lM(d:PE X a ta)(e:∀b,isTrue a X.env b=(do let v <- b;standAt a.pos;Fs [v] (truthy v))):PT X a (λσ H Q=>ta σ H λx H'=>∃k,Ys X.K x H' k/\Q k H'):=by
 intro c s σ H Q I h;exact isTrue_plain (A1 (d c s σ H _ I h) λv f ⟨x,g,i,j,q1⟩=>lL c f σ g x v Q i j q1) (e _)
def Ft:Cd X (GZ .Add) (λx y H Q=>∃i j,x=.str i/\y=.str j/\i.length+j.length<=AB/\Q (.str (i++j)) H):=by
 intro a s f H x y v u Q I b c h;obtain⟨i,j,rfl,rfl,d,q⟩:=h;obtain⟨t,rfl⟩:=b;obtain⟨e,rfl⟩:=c;exact add_str (λe g=>⟨.str<|i++j,H,I.tok _,⟨_,rfl⟩,q⟩) d
def Et(r:As [x] us):∃u,us=[u]/\RelV x u:=by
 cases r with
 |cons a b=>cases b;exact⟨_,rfl,a⟩
def Ow{x:V}(r:As [x,y] us):∃u a,us=[u,a]/\RelV x u/\RelV y a:=by
 cases r with
 |cons b c=>
  cases c with
  |cons d e=>cases e;exact⟨_,_,rfl,b,d⟩
def lN(c:X.calm=yB):Es X (.builtin "max") (λxs H Q=>∃i j,xs=[.int i,.int j]/\Q (.int (if j>i then j else i)) H):=by
 intro b s d H xs e Q I r h;obtain⟨i,j,rfl,q⟩:=h;obtain⟨u,f,rfl,⟨t,rfl⟩,⟨g,rfl⟩⟩:=Ow r;refine max_two_ints (I.ok.hd c) λl m k=>⟨_,H,I.kept k,?_,q⟩;by_cases a:j>i
 ·rw[if_pos a,if_pos a];exact⟨_,rfl⟩
 ·rw[if_neg a,if_neg a];exact⟨_,rfl⟩
def lO(c:X.calm=yB):Es X (.builtin "min") (λxs H Q=>∃i j,xs=[.int i,.int j]/\Q (.int (if j<i then j else i)) H):=by
 intro b s d H xs e Q I r h;obtain⟨i,j,rfl,q⟩:=h;obtain⟨u,f,rfl,⟨t,rfl⟩,⟨g,rfl⟩⟩:=Ow r;refine min_two_ints (I.ok.hd c) λl m k=>⟨_,H,I.kept k,?_,q⟩;by_cases a:j<i
 ·rw[if_pos a,if_pos a];exact⟨_,rfl⟩
 ·rw[if_neg a,if_neg a];exact⟨_,rfl⟩
def Yu:Es X (.type "int") (λxs H Q=>(∃i,xs=[.int i]/\Q (.int i) H)\/∃k,xs=[.bl k]/\Q (.int (if k then 1 else 0)) H):=by
 intro a s c H xs d Q I r h;rcases h with⟨i,rfl,q⟩|⟨k,rfl,q⟩
 ·obtain⟨u,rfl,t,rfl⟩:=Et r;exact call_int_int ⟨.int i,H,I,⟨_,rfl⟩,q⟩
 ·obtain⟨u,rfl,b⟩:=Et r;cases b;exact call_int_bool ⟨.int<|if k then 1 else 0,H,I.tok _,⟨_,rfl⟩,q⟩
def Yv(K:Av)(x:V)(H:Hp)(n:Nat):Prop:=
 match x with
 |.str y=>y.length<=AB/\n=y.length
 |.byt y=>y.size<=AB/\n=y.size
 |.ref p=>(∃a,BM K H p a/\n=a.length)\/∃a,B6 K H p a/\n=a.length
 |_=>False
def Lk:Es X (.builtin "len") (λxs H Q=>∃x n,xs=[x]/\Yv X.K x H n/\Q (.int n) H):=by
 intro j s m H xs o Q I r h;obtain⟨x,n,rfl,e,q⟩:=h;obtain⟨u,rfl,c⟩:=Et r;have v:=Ko;have w:=F9;cases x with
 |str y=>
  obtain⟨t,rfl⟩:=c;obtain⟨k,b⟩:y.length<=AB/\n=y.length:=e;subst b;exact len_str (by lia) ⟨.int _,H,I.tok _,⟨_,rfl⟩,q⟩
 |byt y=>
  obtain⟨t,rfl⟩:=c;obtain⟨k,b⟩:y.size<=AB/\n=y.size:=e;subst b;exact PySem.W.len_bytes (by lia) ⟨.int _,H,I.tok _,⟨_,rfl⟩,q⟩
 |ref p=>
  cases c;have b:=e;rcases b with⟨xs,d,b⟩|⟨xs,d,b⟩
  ·subst b;obtain⟨f,g,i,l⟩:=I.list d;have a:=g.length;exact Calls.call_len_list i.isList (by erw[Bx];lia) ⟨.int xs.length,H,I.tok _,⟨_,by erw[Bx];rw[a]⟩,q⟩
  ·subst b;obtain⟨f,g,i,l⟩:=I.tuple d;have a:=g.length;exact len_tuple i (by erw[Bx];lia) ⟨.int xs.length,H,I.tok _,⟨_,by erw[Bx];rw[a]⟩,q⟩
 |_=>exact(show False from e).elim
end
structure Fu(h:Am)(x dx C:Ac)(mA:Ae->Option Aa):Prop where
 obj:h.get? x=Z (Kj C dx)
 ns:h.Ns1 dx mA
 ne:dx≠x
def lP{h:Am}(n:h.Ns1 c d):∃f,h.get? c=Z f/\∀name,PySem.W.lookIn name f=Z (d name):=by
 obtain⟨o,g,p,i,hd,j,_,k⟩:=n;refine⟨o,i,λname=>?_⟩;have e:=k name;unfold nsFind findBy at e;rw[<- Array.find?_toList]at e;unfold PySem.W.lookIn;rw[hd];dsimp only;split
 ·rename_i y q;rw[q]at e;exact congrArg Z e
 ·rename_i q;rw[q]at e;have a:g.toList.any (·.refKey)=yC:=by
   rw[List.any_eq_false];intro y l;obtain⟨z,t,b⟩:=j y<|Array.mem_toList_iff.mp l;simp[DictEntry.refKey,b]
  have m:¬ g.toList.any (·.refKey)=yB:=by rw[a];exact Hz
  rw[if_neg m];exact congrArg Z e
def Fu.look{x b:Ac}(I:Fu h x b C c):∃a,PySem.W.InstAt h x (Kj C b) C (Z a)/\∀name,PySem.W.lookIn name a=Z (c name):=let⟨a,d,e⟩:=lP I.ns
 ⟨a,⟨I.obj,rfl,rfl,d⟩,e⟩
section
variable{prog:A4}{w:Aj}{A:Ah}{s:Ab}{K:Av}{x dx f:Ac}{mA:Ae->O Aa}{name:Ae}{v:Aa}
def lQ{a:Bool}(X:K.In s.heap)(I:Fu s.heap x dx C mA)(c:PySem.W.plainGet K C name=yB)(d:PySem.W.hasDictIn K C=yB) (e:Jo K (.ref C) name=Z yA) (f:mA name=Z v) (b:PySem.W.handedIn v=yB) (h:Q v {s with toks:=s.toks+1}):wpAny (Ag prog w) A (getAttr (.ref x) name a) Q E s:=by
 obtain⟨i,q,g⟩:=I.look;exact PySem.W.get_value X q (PySem.W.plainGet_of c).1 (PySem.W.findObj_own d e rfl (by rw[g,f])) b h
def lR{Q:Aa×U Aa->Ab->Prop}(X:K.In s.heap)(I:Fu s.heap x dx C mA)(a:PySem.W.plainGet K C name=yB) (b:Jo K (.ref C) name=Z (Z (.ref f))) (c:PySem.W.isFn K (.ref f)=yB) (d:mA name=yA) (h:Q (.ref f,[.ref x]) s):wpAny (Ag prog w) A (getMethod (.ref x) name pl) Q E s:=by
 obtain⟨e,q,g⟩:=I.look;exact PySem.W.method_fn X q (PySem.W.plainGet_of a).1 (PySem.W.plainGet_of a).2 b (beq_iff_eq.mp c) (by show(PySem.W.lookIn name e).map (·.isSome)=Z yC;rw[g,d];rfl) h
theorem lS{Q:Unit->Ab->Prop}(X:K.In s.heap)(I:Fu s.heap x dx C mA) (j:Jo K (.ref C) "__setattr__"=Z (Z (.builtin "object.__setattr__"))) (k:PySem.W.plainOver K C=yB) (l:PySem.W.takerIn K C name=Z yA) (m:PySem.W.hasDictIn K C=yB) (n:PySem.Within mA ns) (hsz:ns.length<=AB) (h:∀h',Fu h' x dx C (λy=>if y=name then Z v else mA y)->ED dx s.heap h'->Q () {s with heap:=h',toks:=s.toks+2}):wpAny (Ag prog w) A (setAttr (.ref x) name v) Q E s:=by
 obtain⟨u,a,z⟩:=I.look
 refine PySem.W.set_plain X a j (PySem.W.osa_open X a k l λb=>?_)
 obtain⟨B,o,e⟩:=PySem.W.any_some m
 have p:=I.obj
 refine Al (AO (Al (Al (wpAny_loadPart p (Al (PySem.W.Looks.here (PySem.W.looks_clsIn X o) ?_))))))
 rw[e]
 refine AO (Al (AO (Al ?_)))
 refine wpAny_nsSet1 I.ns λh' c d=>?_
 obtain⟨G,q,t,f,g,i⟩:=c.count (PySem.Within.cons name v n)
 refine Al (wpAny_lookBehind f (by rw[g];exact pastItsLine_dict (BX i (by rw[Bp];lia))) ?_)
 exact AO (h _ ⟨(d.2 _ (CT I.ne)).trans I.obj,c,I.ne⟩ d)
def lT{vs:U Aa}{a:U (Ae×Aa)}(X:K.In s.heap)(b:PySem.W.makesIn K C=yB) (c:Jo K (.ref C) "__init__"=Z (Z (.ref f))) (e:PySem.W.typeIn K (.ref f)=Z (.type "function")) (h:codeAny (Ag prog w) (A.under (.builtin "type.__call__" ⟨.ref C::vs,a⟩)) (.call (.ref f) ⟨.ref (s.heap.objs.size+1)::vs,a⟩) (PySem.W.InitBack (s.heap.objs.size+1) R) {s with heap:=(s.heap.push Jp).push (Kj C s.heap.objs.size)}):codeAny (Ag prog w) A (.call (.ref C) ⟨vs,a⟩) R s:=by
 obtain⟨i,g,d,t,os⟩:=s;exact PySem.W.make_core (PySem.W.makes_of X b) (PySem.W.looks_findIn X c) (λself=>PySem.W.bind_fn X self e) (.inl rfl) h
end
def EF(f:Ae)(v:V):U (Ae×V)->U (Ae×V)
 |[]=>[(f,v)]
 |(g,x)::r=>if g=f then(g,v)::r else(g,x)::EF f v r
theorem Yw(f g:Ae)(v:V):∀c:U (Ae×V),(EF f v c).lookup g=if g=f then Z v else c.lookup g
 |[]=>by
  show List.lookup g [(f,v)]=_
  by_cases h:g=f
  ·have a:(g==f)=yB:=beq_iff_eq.mpr h;erw[List.lookup,a,if_pos h]
  ·have a:(g==f)=yC:=beq_eq_false_iff_ne.mpr h;erw[List.lookup,a,if_neg h]
 |(k,x)::r=>by
  have d:=Yw f g v r;rw[show EF f v ((k,x)::r)=(if k=f then(k,v)::r else(k,x)::EF f v r)from rfl];by_cases b:k=f
  ·rw[if_pos b];by_cases h:g=k
   ·have a:(g==k)=yB:=beq_iff_eq.mpr h;erw[List.lookup,a,if_pos<|h.trans b]
   ·have a:(g==k)=yC:=beq_eq_false_iff_ne.mpr h;erw[List.lookup,a,if_neg<|λe:g=f=>h<|e.trans b.symm]
  ·rw[if_neg b];by_cases h:g=k
   ·have a:(g==k)=yB:=beq_iff_eq.mpr h;erw[List.lookup,a,if_neg<|λe:g=f=>b<|h.symm.trans e]
   ·have a:(g==k)=yC:=beq_eq_false_iff_ne.mpr h;erw[List.lookup,a];exact d
theorem SE(f:Ae)(v:V):∀a:U (Ae×V),f∈(EF f v a).map (·.1)/\∀g,g∈a.map (·.1)->g∈(EF f v a).map (·.1)
 |[]=>⟨by simp[EF],λg h=>by simp at h⟩
 |(k,x)::r=>by
  obtain⟨c,i2⟩:=SE f v r;rw[show EF f v ((k,x)::r)=(if k=f then(k,v)::r else(k,x)::EF f v r)from rfl];by_cases b:k=f
  ·rw[if_pos b];subst b;exact⟨by simp,λg h=>by simpa using h⟩
  ·rw[if_neg b];refine⟨?_,λg h=>?_⟩
   ·rw[AI];exact A9 _ c
   ·rw[AI]at h ⊢;rcases Bh.mp h with e|e
    ·exact Bh.mpr<|.inl e
    ·exact A9 _<|i2 g e
theorem Yx(f:Ae)(v:V):∀a:U (Ae×V),(EF f v a).length<=a.length+1
 |[]=>by simp[EF]
 |(k,x)::r=>by
  have c:=Yx f v r;rw[show EF f v ((k,x)::r)=(if k=f then(k,v)::r else(k,x)::EF f v r)from rfl];by_cases b:k=f
  ·rw[if_pos b,Bp,Bp];lia
  ·rw[if_neg b,Bp,Bp];lia
def CS.some_of{o:O Aa}(r:CS (Z v) o):∃u,o=Z u/\RelV v u:=by
 cases o with
 |none=>exact(show False from r).elim
 |some u=>exact⟨u,rfl,r⟩
def CS.none_of{o:O Aa}(r:CS yA o):o=yA:=by
 cases o with
 |none=>rfl
 |some u=>exact(show False from r).elim
def lU(r:RelV v u):PySem.W.handedIn u=yB:=by
 cases v with
 |non=>cases(show u=FQ from r);rfl
 |bl b=>cases(show u=Value.bool b from r);rfl
 |int i=>obtain⟨t,e⟩:=(show ∃t,u=Value.int i t from r);cases e;rfl
 |str x=>obtain⟨t,e⟩:=(show ∃t,u=Value.str x t from r);cases e;rfl
 |byt b=>obtain⟨t,e⟩:=(show ∃t,u=Value.bytes b t from r);cases e;rfl
 |flt b=>obtain⟨t,e⟩:=(show ∃t,u=Value.float b t from r);cases e;rfl
 |ref a=>cases(show u=Cy a from r);rfl
 |ty n=>cases(show u=Value.type n from r);rfl
section
variable{P:A4}{w:Aj}{h:Am}{dx:Ac}{fs:U (Ae×V)}
def SF(hok:Cz P w H h)(e:Rd H a (.ins C dx fs)):∃b,Fu h a dx C b/\(∀f,CS (fs.lookup f) (b f))/\PySem.Within b (fs.map (·.1))/\fs.length<=1000/\H dx=Z (.own a):=by
 obtain⟨d,z,ne,c,b,n,r,q⟩:=(show Bc P w H h a (.ins C dx fs)from e.ok hok);exact⟨b,⟨c,n,ne⟩,r,q,z,d⟩
end
structure Fv(K:Av)(C:Ac):Prop where
 pg:PySem.W.plainGet K C Str.empty=yB
 hd:PySem.W.hasDictIn K C=yB
 po:PySem.W.plainOver K C=yB
 sa:Jo K (.ref C) "__setattr__"=Z (Z (.builtin "object.__setattr__"))
def Fv.get{K:Av}(c:Fv K C)(f:Ae):PySem.W.plainGet K C f=yB:=c.pg
def BP(K:Av)(C:Ac)(f:Ae):Prop:=Jo K (.ref C) f=Z yA
def BP.taker{K:Av}(n:BP K C f):PySem.W.takerIn K C f=Z yA:=by
 unfold PySem.W.takerIn;rw[show Jo K (.ref C) f=Z yA from n];rfl
structure Kp(K:Av)(C:Ac)(m:Ae)(f:Ac):Prop where
 at_:Jo K (.ref C) m=Z (Z (.ref f))
 fn:PySem.W.isFn K (.ref f)=yB
 kp:Kq K (.ref f)=yB
section
variable{s:Ab}{dx:Ac}{fs:U (Ae×V)}{f:Ae}{v:V}{A:Ah}
def lV(I:Inv X pins σ H s)(e:Rd H a (.ins C dx fs))(c:Fv X.K C)(n:BP X.K C f)(l:fs.lookup f=Z v) (h:∀u d,Inv X pins σ H d->RelV v u->Q u d):wpAny (Ag X.prog X.w) A (getAttr (.ref a) f b) Q E s:=by
 obtain⟨i,q,r,_,_,_⟩:=SF I.hok e;obtain⟨u,j,g⟩:=CS.some_of (by rw[<- l];exact r f);exact lQ I.kIn q (c.get f) c.hd n j (lU g)<|h u _ (I.tok _) g
def Yy{Q:Aa×U Aa->Ab->Prop}(I:Inv X pins σ H s)(e:Rd H a (.ins C dx fs))(c:Fv X.K C)(k:Kp X.K C m g)(l:fs.lookup m=yA) (h:Q (.ref g,[.ref a]) s):wpAny (Ag X.prog X.w) A (getMethod (.ref a) m pl) Q E s:=by
 obtain⟨b,q,r,_,_,_⟩:=SF I.hok e;have d:=CS.none_of (by rw[<- l];exact r m);exact lR I.kIn q (c.get m) k.at_ k.fn d h
theorem lW{Q:Unit->Ab->Prop}(I:Inv X pins σ H s)(e:H a=Z (.ins C dx fs))(c:Fv X.K C)(n:BP X.K C f)(L:fs.length<1000)(m:RelV y u) (h:∀i,Inv X pins σ (AM H a (.ins C dx (EF f y fs))) i->Q () i):wpAny (Ag X.prog X.w) A (setAttr (.ref a) f u) Q E s:=by
 obtain⟨j,M,r,k,_,l⟩:=SF I.hok<|.inl e;have p:(fs.map (·.1)).length<=AB:=by rw[Bd,F9];lia
 refine lS I.kIn M c.sa c.po n.taker c.hd k p λt d v=>h _ ?_;have hd:∃o,t.get? dx=Z o:=let⟨o,_,_,B,_⟩:=d.ns;⟨o,B⟩;refine I.write (x:=a) (e:=dx) (by rw[e];exact HD) (.inr l) (λb q G z=>(v.2 b G).trans z) hd ?_;refine⟨by rw[ZA M.ne];exact l,?_,M.ne,d.obj,_,d.ns,λg=>?_,λg F=>?_⟩
 ·have:=Yx f y fs;lia
 ·show CS ((EF f y fs).lookup g)<|if g=f then Z u else j g
  rw[Yw];by_cases q:g=f
  ·rw[if_pos q,if_pos q];exact m
  ·rw[if_neg q,if_neg q];exact r g
 ·by_cases q:g=f
  ·rw[q];exact(SE f y fs).1
  ·refine(SE f y fs).2 g<|k g λz=>F ?_;show(if g=f then Z u else j g)=yA
   rw[if_neg q];exact z
def Inv.made(I:Inv X pins σ H s):Inv X pins σ (AM (AM H s.heap.objs.size (.own (s.heap.objs.size+1))) (s.heap.objs.size+1) (.ins C s.heap.objs.size [])) {s with heap:=(s.heap.push Jp).push (Kj C s.heap.objs.size)}:=by
 have c:(s.heap.push Jp).get? s.heap.objs.size=Z Jp:=Cm s.heap rfl;have d:((s.heap.push Jp).push<|Kj C s.heap.objs.size).get? (s.heap.objs.size+1)=Z (Kj C s.heap.objs.size):=by
  have:=Cm (s.heap.push Jp) (o:=Kj C s.heap.objs.size) rfl;rwa[Io]at this
 have f:(s.heap.push Jp).Ns s.heap.objs.size (λ_=>yA):=⟨Jp,#[],_,c,rfl,(λe g=>absurd g (by simp)),λ_=>rfl⟩;have h:=I.laid (a:=s.heap.objs.size) (o:=.own<|s.heap.objs.size+1) (h':=s.heap.push Jp) (t':=s.toks) (λb u q=>BG _ q) (Bl _) ⟨_,c⟩;refine h.laid (a:=s.heap.objs.size+1) (o:=.ins C s.heap.objs.size []) (t':=s.toks) (λb u q=>BG _ q) (Nat.le_of_eq<|Io _ _) ?_;have ne:s.heap.objs.size≠s.heap.objs.size+1:=CD<|Nat.lt_succ_self _;refine⟨by rw[ZA ne,D4],E7 _,ne,d,λ_=>yA,(Heap.Ns1.of_empty f).at λo q=>BG _ q,λ_=>HD,λy j=>absurd rfl j⟩
def lX(b:Fw e f env (Ax e env)=Ax e env) (h:wpAny (Ag prog w) A (Ax e env) (λo a=>wpAny (Ag prog w) A (getAttr o f yB) Q E a) E s):wpAny (Ag prog w) A (Ax (.Attribute e f pos) env) Q E s:=Attribute_any_ h (by rw[arm_eval_Attribute,b])
end
def lY(K:Av)(d:TE)(f:Ae):TE:=λe H Q=>d e H λx b=>∃a C g c v,x=.ref a/\Rd b a (.ins C g c)/\Fv K C/\BP K C f/\c.lookup f=Z v/\Q v b
def lZ(K:Av)(g h:TE)(f:Ae):TS:=λD b H=>h b H λy i=>g b i λx d=>∃a C e c,x=.ref a/\d a=Z (.ins C e c)/\Fv K C/\BP K C f/\c.length<1000 /\
 D.nx b (AM d a (.ins C e (EF f y c)))
section
variable{o e value:Expr}{f:Ae}{pos':AQ}{tv:TE}
def l0(d:PE X e ta)(g:Fw e f X.env (Ax e X.env)=Ax e X.env):PE X (.Attribute e f pos) (lY X.K ta f):=by
 intro b s i H Q I h;refine lX g<|A1 (d b s i H _ I h) λu t ⟨x,j,k,m,a,C,w,y,v,ex,o,c,n,l,q⟩=>?_;subst ex;obtain rfl:u=Cy a:=m;exact lV k o c n l λz A p r=>⟨v,j,p,r,q⟩
def l5(e:PE X o ta)(g:PE X value tv)(i:DB value (Z (.Attribute o f pos')) pos.line X.env=AH yC):PS X (.Assign [.Attribute o f pos'] value pos) (lZ X.K ta tv f):=by
 intro b s d H D I h;refine plainObj_wpAny_Assign_Attribute (A1 (g b s d H _ I h) λu j ⟨y,k,m,p,q⟩=>A1 (e b j d k _ m q) λr A ⟨x,B,t,v,a,C,E,G,ex,w,c,n,l,q2⟩=>?_) i;subst ex;obtain rfl:r=Cy a:=v;exact lW t w c n l p λF z=>⟨d,_,z,q2⟩
end
structure AZ(k:Nat)(A:Ah):Prop where
 hd:A.handled=yA
 dp:A.depth+3*k+5<recursionLimit
 un:A.units+16*k+200<AA
theorem AZ.mono{k:Nat}(r:AZ k A)(h:j<=k):AZ j A:=⟨r.hd,by have:=r.dp;lia,by have:=r.un;lia⟩
theorem AZ.deeper{k:Nat}{A:Ah}(r:AZ (k+1) A)(env:Env):AZ k (A.deeper env):=⟨r.hd,by have:=r.dp;show A.depth+1+3*k+5<_;lia,by have:=r.un;show A.units+3+16*k+200<_;lia⟩
theorem AZ.in1{k:Nat}{A:Ah}(r:AZ (k+1) A):AZ k A.in1:=⟨r.hd,by have:=r.dp;show A.depth+3*k+5<_;lia,by have:=r.un;show A.units+1+16*k+200<_;lia⟩
def l6{A:Ah}{a:U (Ae×Aa)}:(A.under (.builtin "type.__call__" ⟨.ref C::us,a⟩)).depth=A.depth+1:=by
 first|rfl|simp[Around.under,Code.weight,Code.isCreation,Code.isGuard,Code.isCaller,Code.frames,Code.isFrame,guardIds]
def l7{A:Ah}{a:U (Ae×Aa)}:(A.under (.builtin "type.__call__" ⟨.ref C::us,a⟩)).units=A.units+1:=by
 first|rfl|simp[Around.under,Code.cUnits,Code.frames,Code.isFrame]
theorem AZ.make(r:AZ (k+1) A)(C:Ac)(us:U Aa)(a:U (Ae×Aa)):AZ k (A.under (.builtin "type.__call__" ⟨.ref C::us,a⟩)):=⟨r.hd,by have:=r.dp;rw[l6];lia,by have:=r.un;rw[l7];lia⟩
theorem AZ.depth{k:Nat}{A:Ah}(r:AZ k A):A.depth<recursionLimit:=by have:=r.dp;lia
theorem AZ.units{k:Nat}{A:Ah}(r:AZ k A):A.units+64<AA:=by have:=r.un;lia
def Mx:TA:=λ_ H Q=>Q [] H
def Yz(b:TE)(c:TA):TA:=λa H Q=>b a H λx d=>c a d λe f=>Q (x::e) f
section
variable{e:Expr}{t:TA}
def Bm:PA X [] Mx:=λ_ _ _ _ H Q I h=>Calls.spliced_nil ⟨[],H,I,.nil,h⟩
def Ee(c:PE X e te)(d:PA X es t)(f:AY (e::es) X.env=(yC,Ax e X.env)::AY es X.env:=by rfl):PA X (e::es) (Yz te t):=by
 intro pos a s b H Q I h;rw[f];exact Calls.spliced_cons<|A1 (c a s b H _ I h) λu g ⟨x,i,j,k,q1⟩=>A1 (d pos a g b i _ j q1) λp q ⟨l,m,n,o,q2⟩=>⟨x::l,m,n,.cons k o,q2⟩
def l8(t:TA):TE:=λc H Q=>t c H λa b=>a.length<=AB/\∀p,b p=yA->Q (.ref p) (AM b p (.tup a))
def l9(t:TA):TE:=λc H Q=>t c H λa b=>a.length<=AB/\∀p,b p=yA->Q (.ref p) (AM b p (.lst a))
def ma {g} (h:PA X es t):PE X (.Tuple es g pos) (l8 t):=by
 intro a s i H Q I j;refine wpAny_Tuple_spliced<|A1 (h pos a s i H _ I j) λk c ⟨l,d,f,r,z,q⟩=>⟨by rw[<- r.length];exact z,?_⟩;have m:=f.hok.fresh<|Bl _;exact⟨.ref c.heap.objs.size,AM d c.heap.objs.size<|.tup l,f.laid (t':=c.toks) (λb u e=>BG _ e) (Bl _) (⟨z,k,r,⟨_,Cm _ rfl,rfl,_,rfl⟩⟩),rfl,q _ m⟩
def YA(h:PA X es t):PE X (.List es pos) (l9 t):=by
 intro a s g H Q I i;refine wpAny_List_spliced<|A1 (h pos a s g H _ I i) λj c ⟨k,d,f,r,z,q⟩=>⟨by rw[<- r.length];exact z,?_⟩;have l:=f.hok.fresh<|Bl _;exact⟨.ref c.heap.objs.size,AM d c.heap.objs.size<|.lst k,f.laid (t':=c.toks) (λb u e=>BG _ e) (Bl _) (⟨z,j,0,r,Cm _ rfl⟩),rfl,q _ l⟩
end
abbrev Sp:=U V->Hp->VK->XK->Prop
variable{sp:Sp}
abbrev ES:=U Env->Hp->Ab->XK->Aa->Ab->Prop
variable{CX:ES}
structure C2(P:A4)(w:Aj)(K:Av)(mg:Ae->Option Aa)(base:Am)(A:Ah)(outer:List Env)(s:Ab)(H:Hp):Prop where
 frames:A.frames=Z outer
 mod:Mod K mg base
 bs:∀b o,base.get? b=Z o->s.heap.get? b=Z o/\H b=yA
 bsz:base.objs.size<=s.heap.objs.size
 funs:s.heap.FunFrames base outer
 frf:∀b∈EC outer,H b=yA
 hok:Cz P w H s.heap
 bare:AllBare s.gens
def CE(outer:U Env)(P:A4)(w:Aj)(H:Hp)(s:Ab)(Q:VK)(u:Aa)(a:Ab):Prop:=
 ∃v b,a.os=s.os/\AllBare a.gens/\Un (EC outer) [] H b s.heap a.heap/\Cz P w b a.heap/\RelV v u/\Q v b
def CR(CX:ES)(outer:U Env)(P:A4)(w:Aj)(H:Hp)(s:Ab)(Q:VK)(E:XK)(r:Result)(a:Ab):Prop:=
 match r with
 |.ok (.ret u)=>CE outer P w H s Q u a
 |.ok _=>False
 |.error e=>CX outer H s E e a
structure Aw(P:A4)(w:Aj)(K:Av)(mg:Ae->Option Aa)(base:Am)(CX:ES)(k:Nat)(f:Ac)(fd:A2)(ps:List Ae)(sp:Sp):Prop where
 len:∀vs H Q E,sp vs H Q E->vs.length=ps.length
 run:∀(A:Ah) (outer:List Env) (s:Ab) (H:Hp) (args:Args) (us:List Aa) (vs:List V) (Q:VK) (E:XK),AZ k A->C2 P w K mg base A outer s H->BindsTo s fd args (ps.zip us)->As vs us->sp vs H Q E ->
  codeAny (Ag P w) A (.call (.ref f) args) (CR CX outer P w H s Q E) s
def Aw.imp{K:Av}{mg:Ae->O Aa}{base:Am}{k:Nat}{f:Ac}{fd:A2}{b:U Ae}{a:Sp}(F:Aw P w K mg base CX k f fd b sp) (h:∀vs H Q E,a vs H Q E->sp vs H Q E):Aw P w K mg base CX k f fd b a:=⟨λvs H Q E q=>F.len vs H Q E<|h _ _ _ _ q,λA outer s H args c vs Q E d e g i j=>F.run A outer s H args c vs Q E d e g i<|h _ _ _ _ j⟩
def C2.make{K:Av}{mg:Ae->O Aa}{base:Am}{A:Ah}{outer:U Env}{s:Ab}(e:C2 P w K mg base A outer s H)(C:Ac)(us:U Aa)(a:U (Ae×Aa)):C2 P w K mg base (A.under (.builtin "type.__call__" ⟨.ref C::us,a⟩)) outer s H:=⟨by first|exact e.frames|(simpa[Around.under,Code.envs,Code.isFrame,pushEnvs]using e.frames),e.mod,e.bs,e.bsz,e.funs,e.frf,e.hok,e.bare⟩
def C2.in1{P:A4}{w:Aj}{K:Av}{mg:Ae->O Aa}{base:Am}{A:Ah}{outer:U Env}{s:Ab}(e:C2 P w K mg base A outer s H):C2 P w K mg base A.in1 outer s H:=⟨e.frames,e.mod,e.bs,e.bsz,e.funs,e.frf,e.hok,e.bare⟩
section
variable{s s':Ab}
def Inv.env0(I:Inv X pins σ H s):C2 X.prog X.w X.K X.mg X.base X.A X.stack s H:=⟨I.ok.frames,I.ok.mod,I.bs,BX I.ok.bsz I.sz,I.stack,I.stkFree,I.hok,I.bare⟩
def Inv.after{Q:VK}(I:Inv X pins σ H s)(h:CE X.stack X.prog X.w H s Q u s'):EP X pins σ Q u s':=by
 obtain⟨v,c,os,bare,un,hok,r,q⟩:=h;obtain⟨e,g,d,t,a⟩:=s';obtain rfl:a=s.os:=os;exact⟨v,c,I.call (h':=e) (g':=g) (d':=d) (t':=t) un hok bare (λb z=>absurd z (by simp)),r,q⟩
end
def SG(sp:Sp)(a:U V)(E:XK)(t:TA):TE:=λb H Q=>t b H λc d=>sp (c++a) d Q E
def Jq(C:Ac)(m:Ae)(sp:Sp)(b:U V)(E:XK)(f:TE)(t:TA):TE:=λc H Q=>f c H λx d=>∃a g e,x=.ref a/\Rd d a (.ins C g e)/\e.lookup m=yA /\
 t c d λh i=>sp (x::(h++b)) i Q E
def me(C:Ac)(sp:Sp)(b:U V)(E:XK)(t:TA):TE:=λd H Q=>t d H λe c=>∀x a,c x=yA->c a=yA->x=a+1 ->
 sp (.ref x::(e++b)) (AM (AM c a (.own x)) x (.ins C a [])) (λv f=>v=.non/\Q (.ref x) f) E
def Binds(K:Av)(fd:A2)(b:U Ae)(c:U Aa):Prop:=
 ∀(s:Ab) (a:U Aa),K.In s.heap->(a++c).length=b.length->BindsTo s fd ⟨a,[]⟩ (b.zip (a++c))
def Binds.all{K:Av}{a:U Ae}(h:∀us:U Aa,us.length=a.length->bindArgs fd ⟨us,[]⟩=AH (a.zip us)):Binds K fd a []:=λs us _ b=>by
 rw[CF]at b ⊢;exact .of_eq<|h us b
def FW(CX:ES)(X:Cx)(E:XK):Prop:=∀(a:U (Ac×AK))(c:St)(H:Hp)(s:Ab)(e:Aa)(b:Ab),Inv X a c H s->CX X.stack H s E e b->X.xe e b
section
variable{k:Nat}{f:Ac}{fd:A2}{dvs:U V}{ds:U Aa}{E:XK}{x m:Ae}{p:AQ}{e o:Expr}{t:TA}
def SH{a:U (Ac×AK)}{Q:VK}(F:Aw X.prog X.w X.K X.mg X.base CX k f fd ps sp)(d:AZ k X.A)(g:Binds X.K fd ps ds)(hd:As dvs ds)(i:FW CX X E) (I:Inv X a σ H s) (r:As vs us) (h:sp (vs++dvs) H Q E):wpAny (Ag X.prog X.w) X.A (call (.ref f) us) (EP X a σ Q) X.xe s:=by
 have c:=r.append hd;have j:(us++ds).length=ps.length:=by rw[<- c.length];exact F.len _ _ _ _ h
 refine wpAny_call<|codeAny_mono (F.run X.A X.stack s H ⟨us,[]⟩ (us++ds) (vs++dvs) Q E d I.env0 (g s us I.kIn j) c h) λr l b=>?_;cases r with|error e=>exact i a σ H s e l I b|ok m=>
  cases m with
  |ret u=>exact I.after b
  |next=>exact Bo b
  |brk=>exact Bo b
  |cont=>exact Bo b
def SI(F:Aw X.prog X.w X.K X.mg X.base CX k f fd ps sp)(i:AZ k X.A)(j:Gl X x)(l:X.mg x=Z (.ref f))(m:Kq X.K (.ref f)=yB)(n:Binds X.K fd ps ds)(hd:As dvs ds)(o:FW CX X E) (u:PA X (e::es) t) (b:(x==("__debug__":Ae))=yC:=by ext) (v:AY (e::es) X.env=(yC,Ax e X.env)::AY es X.env:=by rfl) (c:(AL pos (AY es X.env)).any (·.1)=yC:=by rfl):PE X (.Call (.Name x p) (e::es) [] pos) (SG sp dvs E t):=by
 intro a s y H Q I h;refine My<|Su I j l ?_ b;exact PySem.W.callWith_K (h₀:=X.base) I.ok.mod.kin m (A1 (u pos a s y H _ I h) λz B ⟨C,G,g,r,q⟩=>⟨g.kIn,SH F i n hd o g r q⟩) v c
def SJ(y:PE X o ta)(c:Fv X.K C)(j:Kp X.K C m f)(F:Aw X.prog X.w X.K X.mg X.base CX k f fd ps sp)(L:AZ k X.A)(M:Binds X.K fd ps ds)(hd:As dvs ds)(N:FW CX X E)(P:PA X (e::es) t) (d:AY (e::es) X.env=(yC,Ax e X.env)::AY es X.env:=by rfl) (g:(AL pos (AY es X.env)).any (·.1)=yC:=by rfl) (T:Ax (.Call (.Attribute o m apos) (e::es) [] pos) X.env=(do
   let n <- Ax o X.env;standAt apos.atName;let(f,i) <- Fs [n] (getMethod n m pl);callWith pos f i (AL pos (AY (e::es) X.env)) (Ga pos (Gb [] X.env))):=by rfl):PE X (.Call (.Attribute o m apos) (e::es) [] pos) (Jq C m sp dvs E ta t):=by
 intro b s p H Q I h;refine PySem.W.methodCall_KW (A1 (y b s p H _ I h) λu R ⟨x,Y,v,rx,a,dx,fs,ex,ea,l,q⟩=>?_) T;subst ex;obtain rfl:u=Cy a:=rx;refine Yy v ea c j l ?_;exact PySem.W.callWith_K (first:=[.ref a]) (h₀:=X.base) I.ok.mod.kin j.kp (A1 (P pos b R p Y _ v q) λz s2 ⟨B,H2,G,r,q2⟩=>⟨G.kIn,SH (us:=.ref a::z) (vs:=.ref a::B) F L M hd N G (.cons rfl r) q2⟩) d g
def Ox(j:PE X o ta)(c:Fv X.K C)(g:Kp X.K C m f)(F:Aw X.prog X.w X.K X.mg X.base CX k f fd ps sp)(n:AZ k X.A)(p:Binds X.K fd ps ds)(hd:As dvs ds)(r:FW CX X E) (t:Ax (.Call (.Attribute o m apos) [] [] pos) X.env=(do
   let i <- Ax o X.env;standAt apos.atName;let(f,d) <- Fs [i] (getMethod i m pl);callWith pos f d (AL pos (AY [] X.env)) (Ga pos (Gb [] X.env))):=by rfl):PE X (.Call (.Attribute o m apos) [] [] pos) (Jq C m sp dvs E ta Mx):=by
 intro b s v H Q I h;refine PySem.W.methodCall_KW (A1 (j b s v H _ I h) λu B ⟨x,G,e,y,a,M,L,ex,z,l,q⟩=>?_) t;subst ex;obtain rfl:u=Cy a:=y;exact Yy e z c g l<|PySem.W.callWith_K0 (first:=[.ref a]) e.kIn g.kp (SH (us:=[.ref a]) (vs:=[.ref a]) F n p hd r e (.cons rfl .nil) q)
structure Mk(K:Av)(C f:Ac):Prop where
 makes:PySem.W.makesIn K C=yB
 init:Jo K (.ref C) "__init__"=Z (Z (.ref f))
 fn:PySem.W.isFn K (.ref f)=yB
 kp:Kq K (.ref C)=yB
def mf{a:U (Ac×AK)}{Q:VK}(M:Mk X.K C f)(F:Aw X.prog X.w X.K X.mg X.base CX k f fd ps sp)(j:AZ (k+1) X.A)(l:Binds X.K fd ps ds)(hd:As dvs ds) (m:FW CX X E) (I:Inv X a σ H s) (r:As vs us) (h:∀x c,H x=yA->H c=yA->x=c+1->sp (.ref x::(vs++dvs)) (AM (AM H c (.own x)) x (.ins C c [])) (λv n=>v=.non/\Q (.ref x) n) E):wpAny (Ag X.prog X.w) X.A (call (.ref C) us) (EP X a σ Q) X.xe s:=by
 have g:=h (s.heap.objs.size+1) s.heap.objs.size (I.hok.fresh (Nat.le_succ _)) (I.hok.fresh (Bl _)) rfl
 have d:=Inv.made (C:=C) I
 have i:As (V.ref (s.heap.objs.size+1)::(vs++dvs)) (Cy (s.heap.objs.size+1)::(us++ds)):=.cons rfl (r.append hd)
 have o:(Cy (s.heap.objs.size+1)::us++ds).length=ps.length:=by
  have e:=i.length
  rw[F.len _ _ _ _ g]at e
  exact e.symm
 refine wpAny_call (lT I.kIn M.makes M.init (beq_iff_eq.mp M.fn) (codeAny_mono (F.run _ X.stack _ _ ⟨Cy (s.heap.objs.size+1)::us,[]⟩ (Cy (s.heap.objs.size+1)::(us++ds)) _ _ E (j.make C us [])
  (d.env0.make C us []) (l _ (Cy (s.heap.objs.size+1)::us) d.kIn o) i g) λr p b=>?_))
 cases r with
 |error e=>exact m a σ _ _ e p d b
 |ok q=>
  cases q with
  |ret u=>
   obtain⟨v,t,y,z,rfl,q3⟩:=d.after b
   exact⟨z,⟨V.ref (s.heap.objs.size+1),t,y,rfl,q3⟩⟩
  |next=>exact Bo b
  |brk=>exact Bo b
  |cont=>exact Bo b
def mj(M:Mk X.K C f)(F:Aw X.prog X.w X.K X.mg X.base CX k f fd ps sp)(i:AZ (k+1) X.A)(j:Gl X x)(l:X.mg x=Z (.ref C))(m:Binds X.K fd ps ds)(hd:As dvs ds)(n:FW CX X E) (o:PA X (e::es) t) (b:(x==("__debug__":Ae))=yC:=by ext) (u:AY (e::es) X.env=(yC,Ax e X.env)::AY es X.env:=by rfl) (c:(AL pos (AY es X.env)).any (·.1)=yC:=by rfl):PE X (.Call (.Name x p) (e::es) [] pos) (me C sp dvs E t):=by
 intro a s v H Q I h;refine My<|Su I j l ?_ b;exact PySem.W.callWith_K (h₀:=X.base) I.ok.mod.kin M.kp (A1 (o pos a s v H _ I h) λy z ⟨B,G,g,r,q⟩=>⟨g.kIn,mf M F i m hd n g r q⟩) u c
end
def PK(X:Cx)(b:U ET)(t:TA):Prop:=
 ∀(c:AQ) (a:U (Ac×AK)) (s:Ab) (d:St) (H:Hp) (Q:U V->Hp->Prop),Inv X a d H s->t d H Q->wpAny (Ag X.prog X.w) X.A (evalAll ((Ga c (Gb b X.env)).map (·.2))) (AP X a d Q) X.xe s
section
variable{k:Nat}{f:Ac}{x m:Ae}{p kpos:AQ}{e:Expr}{kws:U ET}{t:TA}{nm:O Ae}
def mk:PK X [] Mx:=λ_ _ _ _ H Q I h=>wpAny_evalAll_nil ⟨[],H,I,.nil,h⟩
def ml(c:PE X e te)(d:PK X kws t):PK X (⟨nm,e,kpos⟩::kws) (Yz te t):=by
 intro pos a s b H Q I h;show wpAny _ _ (evalAll<|(do let v <- Ax e X.env;standAt pos;AH v)::(Ga pos<|Gb kws X.env).map (·.2)) _ _ s
 exact wpAny_evalAll_cons<|Al<|A1 (c a s b H _ I h) λu f ⟨x,g,i,j,q1⟩=>Al<|wpAny_standAt<|AO<|A1 (d pos a f b g _ i q1) λo p ⟨k,l,m,n,q2⟩=>⟨x::k,l,m,.cons j n,q2⟩
end
structure Zw(N P:List Ae)(sc:Scope):Prop where
 kind:sc.kind=.function
 co:sc.isCoroutine=yC
 gen:sc.isGenerator=yC
 nd:N.Nodup
 pre:N.take P.length=P
 par:∀x∈P,sc.names.lookup x=Z .local\/sc.names.lookup x=Z .cell
 nofree:∀y∈sc.names,y.2≠.free
theorem YB{kindOf:Ae->O Fx}{x:Ae}:∀{a:U (Ae×Aa)}{m:Ae->O Aa},(∀v,(x,v)∉a)->bindL kindOf a m x=m x
 |[],_,_=>rfl
 |(n,v)::r,m,h=>by
  unfold bindL;rw[YB λw b=>h w<|A9 _ b];split
  ·have:x≠n:=by rintro rfl;exact h v A8
   simp[this]
  ·rfl
theorem YC{kindOf:Ae->O Fx}{x:Ae}:∀{a:U (Ae×Aa)}{m:Ae->O Aa},(∀v,(x,v)∉a)->bindC kindOf a m x=m x
 |[],_,_=>rfl
 |(n,v)::r,m,h=>by
  unfold bindC;rw[YC λw b=>h w<|A9 _ b];split
  ·rfl
  ·have:x≠n:=by rintro rfl;exact h v A8
   simp[this]
theorem YD{kindOf:Ae->O Fx}{x:Ae}{v:Aa}:∀{P:U Ae}{vs:U Aa}{i:Nat}{m:Ae->O Aa},P.Nodup->P[i]?=Z x->vs[i]?=Z v->kindOf x=Z .local->bindL kindOf (P.zip vs) m x=Z v
 |[],_,_,_,_,h,_,_=>by simp at h
 |_::_,[],_,_,_,_,h,_=>by simp at h
 |p::P,w::vs,0,m,nd,a,b,c=>by
  simp at a b;subst a;subst b;show bindL kindOf ((p,w)::P.zip vs) m p=_
  unfold bindL;rw[YB λv d=>(Gc.mp nd).1 (List.of_mem_zip d).1,if_pos c];simp
 |p::P,w::vs,i+1,m,nd,a,b,c=>by
  unfold bindL;exact YD (Gc.mp nd).2 (by simpa using a) (by simpa using b) c
theorem YE{kindOf:Ae->O Fx}{x:Ae}{v:Aa}:∀{P:U Ae}{vs:U Aa}{i:Nat}{m:Ae->O Aa},P.Nodup->P[i]?=Z x->vs[i]?=Z v->kindOf x≠Z .local->bindC kindOf (P.zip vs) m x=Z v
 |[],_,_,_,_,h,_,_=>by simp at h
 |_::_,[],_,_,_,_,h,_=>by simp at h
 |p::P,w::vs,0,m,nd,a,b,c=>by
  simp at a b;subst a;subst b;show bindC kindOf ((p,w)::P.zip vs) m p=_
  unfold bindC;rw[YC λv d=>(Gc.mp nd).1 (List.of_mem_zip d).1,if_neg c];simp
 |p::P,w::vs,i+1,m,nd,a,b,c=>by
  unfold bindC;exact YE (Gc.mp nd).2 (by simpa using a) (by simpa using b) c
def FX(N:U Ae)(vs:U V):St:=vs.map Z++Do (N.length-vs.length) yA
noncomputable def FY(CX:ES)(P:A4)(w:Aj)(K:Av)(mg:Ae->O Aa)(base:Am)(N:U Ae)(a:Ae)(scope:Scope)(f:Ac)(c:Aa)(A:Ah)(outer:U Env)(s:Ab)(H:Hp)(E:XK):Cx where
 prog:=P
 w:=w
 K:=K
 mg:=mg
 base:=base
 A:=A.deeper (By a scope s.heap.objs.size f c)
 N:=N
 s₀:=s
 H₀:=H
 env:=By a scope s.heap.objs.size f c
 outer:=outer
 stack:=By a scope s.heap.objs.size f c::outer
 ex:=[]
 calm:=yB
 fn:=λ_=>yB
 pn:=[]
 xe:=λe d=>wpAny (Ag P w) (A.deeper (By a scope s.heap.objs.size f c)) (leaving (By a scope s.heap.objs.size f c) e) (λ_ b=>CX outer H s E e b) (λg b=>CX outer H s E g b) d
def YF{a:Scope}(h:a.names.lookup x=Z .cell):∃c,(cellsFrom n a.names []).lookup x=Z c:=by
 have q:=PySem.W.cellsFrom_some a.names n []<|.inl h;exact Option.isSome_iff_exists.mp q
theorem mm{K:Av}{mg:Ae->O Aa}{base:Am}{N l:U Ae}{d:Ae}{f:Ac}{C:Aa}{A:Ah}{outer:U Env}{s F:Ab}{E:XK} (S:Zw N l scope) (hd:A.handled=yA) (j:C2 P w K mg base A outer s H) (W:vs.length=l.length) (r:As vs us) (x:InCallC s s.heap.objs.size (bindL (By d scope s.heap.objs.size f C).kindOf (l.zip us) λ_=>yA) (cellsFrom (s.heap.objs.size+1) scope.names []) (bindC (By d scope s.heap.objs.size f C).kindOf (l.zip us) λ_=>yA) F):Inv (FY CX P w K mg base N d scope f C A outer s H E) [] (FX N vs) H F:=by
 have R:l.length<=N.length:=by have:=congrArg List.length S.pre;rw[Oy]at this;lia
 obtain⟨G,Y,rfl,L⟩:=x.done;have m:∀b:Ac,b∉(FY CX P w K mg base N d scope f C A outer s H E).ex:=λb z=>absurd (show b∈([]:U Ac)from z) (by simp);refine⟨⟨j.mod,S.kind,rfl,rfl,Bl _,λy z c G g=>?_,λy o=>?_,λy c _ h=>?_,λ_=>hd,Around.frames_deeper j.frames,.inr ⟨rfl,rfl⟩,λb z=>absurd z<|m b,j.bs,j.bsz,λb _ _=>m b,λb z=>absurd z<|m b,j.funs,j.frf⟩,
  rfl,j.bare,Un.kept L,⟨_,x.toInCall.ns,λi y v G g h3=>?_⟩,λy c h=>⟨_,x.cell y c h⟩,j.hok.fresh<|Bl _,λy c h=>?_,λp t=>absurd (show p∈([]:U (Ac×AK))from t) (by simp),j.hok.kept L,?_⟩
 ·exact name_of_addr x.apart (Ll G)<|Ll g
 ·have o:=o;rcases o with o|o
  ·exact YF o
  ·exact absurd rfl<|S.nofree _<|Ll o
 ·exact Nat.le_of_lt<|x.above y c<|Ll h
 ·have I:i<vs.length:=by
   unfold FX at g;by_cases I:i<vs.length
   ·exact I
   ·rw[SM (by simpa using I)]at g;rw[Kr]at g;split at g<;>cases g
  have Q:vs[i]?=Z v:=by
   unfold FX at g;rw[SN (by simpa using I),DL]at g;cases e:vs[i]? with
   |none=>rw[e]at g;cases g
   |some a=>rw[e]at g;cases g;rfl
  obtain⟨u,M,T⟩:=r.get Q;have t:l[i]?=Z y:=by
   rw[<- S.pre,List.getElem?_take_of_lt (by lia)];exact G
  have B:l.Nodup:=by rw[<- S.pre];exact S.nd.sublist<|List.take_sublist _ _
  refine⟨u,T,?_⟩;rcases S.par y (Ip t)with k|k
  ·exact .inl ⟨k,YD B t M k⟩
  ·obtain⟨c,e⟩:=YF (n:=s.heap.objs.size+1) k;refine .inr ⟨.inl k,c,e,?_⟩;have q:=x.cell y c e;rw[YE B t M (by show scope.names.lookup y≠_;rw[k];decide)]at q;exact q
 ·exact j.hok.fresh<|Nat.le_of_lt<|x.above y c<|Ll h
 ·unfold FX;show _=N.length
  rw[GA,Bd,Lm];lia
def mo{K:Av}{mg:Ae->O Aa}{base:Am}{k:Nat}{f:Ac}{name a:Ae}{d:Arguments}{g:U Ar}{X kV m Y c ct oc:Aa}{an od:O Ac} {C:Array (O Aa)} {N B:U Ae} (lk:K.lookup f=Z ⟨oc,od,.func (Jr name a d g scope X kV m Y an c ct),C⟩) (G:PySem.W.codeIn K c a=yB) (S:Zw N B scope) (len:∀vs H Q E,sp vs H Q E->vs.length=B.length) (i:∀(A:Ah) (outer:U Env) (s:Ab) (H:Hp) (vs:U V) (Q:VK) (E:XK),AZ k (A.deeper (By a scope s.heap.objs.size f c))->sp vs H Q E->∃t,EE (FY CX P w K mg base N a scope f c A outer s H E) g t/\t {nx:=λ_ H'=>Q .non H',rt:=Q} (FX N vs) H):Aw P w K mg base CX (k+1) f (Jr name a d g scope X kV m Y an c ct) B sp:=by
 refine⟨len,λA outer s H args us vs Q E L p hb r z=>?_⟩;have hl:=len _ _ _ _ z;have KX:=p.mod.kin.keeps λb o e=>(p.bs b o e).1;have M:s.heap.NoLimit:=p.mod.nolimit.keeps λb o e=>(p.bs b o e).1;have j:∀y∈B.zip us,scope.names.lookup y.1=Z .local\/(scope.names.lookup y.1=Z .cell/\((cellsFrom (s.heap.objs.size+1) scope.names []).lookup y.1).isSome=yB):=λ⟨n,v⟩ hy=>by
  rcases S.par n (List.of_mem_zip hy).1 with q|q
  ·exact .inl q
  ·exact .inr ⟨q,PySem.W.cellsFrom_some _ _ _<|.inl q⟩
 refine codeAny_call_function L.depth (KX _ _ lk) rfl S.co S.gen rfl (PySem.W.codeRec_of KX G)<|hb _ _ _ _ ?_;refine wpAny_newFunctionEnv_cells S.kind j λenv he s1 x=>?_;subst he;refine⟨M.keeps x.toInCall.keep,codeAny_func ?_⟩;obtain⟨t,ht,hq⟩:=i A outer s H vs Q E (L.deeper _) z;have I:Inv (FY CX P w K mg base N a scope f c A outer s H E) [] (FX N vs) H s1:=mm S L.hd p hl r x;refine wpAny_mono (ht [] s1 (FX N vs) H _ I hq) (λfl R l=>?_) λe R l=>l;have fin:∀{h:St} {H':Hp} {v:V} {u:Aa},Inv (FY CX P w K mg base N a scope f c A outer s H E) [] h H' R->RelV v u->Q v H'->CE outer P w H s Q u R:=
  λ{h H' v u} F T q=>⟨v,H',F.os,F.bare,F.base,F.hok,T,q⟩
 cases fl with
 |ret u=>
  obtain⟨v,h,H',F,T,q⟩:=l;exact fin F T q
 |next=>
  obtain⟨h,H',F,q⟩:=l;exact fin (v:=V.non) (u:=FQ) F rfl q
 |brk=>
  obtain⟨_,_,_,q⟩:=l;exact Bo q
 |cont=>
  obtain⟨_,_,_,q⟩:=l;exact Bo q
section
variable{x:Ae}{p:AQ}{e:Expr}{t:TA}{id:String}{r:U V->Hp->VK->Prop}
def Oz(r:U V->Hp->VK->Prop)(t:TA):TE:=λa H Q=>t a H λb c=>r b c Q
def mq(f:Es X (.builtin id) r)(g:Gl X x)(i:X.mg x=yA)(j:Fq x=Z (.builtin id))(k:PA X (e::es) t)(l:x≠"__name__":=by ext)(b:(x==("__debug__":Ae))=yC:=by ext) (m:AY (e::es) X.env=(yC,Ax e X.env)::AY es X.env:=by rfl) (c:(AL pos (AY es X.env)).any (·.1)=yC:=by rfl):PE X (.Call (.Name x p) (e::es) [] pos) (Oz r t):=by
 intro a s d H Q I h;exact My<|HA I g i j (PyProof.Rows.callWith_builtin1 (A1 (k pos a s d H _ I h) λn o ⟨q,u,v,w,q1⟩=>f a o d u q n Q v w q1) m c) l b
def YG(f:Es X (.type T) r)(g:Gl X x)(i:X.mg x=yA)(j:Fq x=Z (.type T))(k:PA X (e::es) t)(l:x≠"__name__":=by ext)(b:(x==("__debug__":Ae))=yC:=by ext) (m:AY (e::es) X.env=(yC,Ax e X.env)::AY es X.env:=by rfl) (c:(AL pos (AY es X.env)).any (·.1)=yC:=by rfl):PE X (.Call (.Name x p) (e::es) [] pos) (Oz r t):=by
 intro a s d H Q I h;exact My<|HA I g i j (Mu (A1 (k pos a s d H _ I h) λn o ⟨q,u,v,w,q1⟩=>f a o d u q n Q v w q1) m c) l b
end
end L2
variable{H H' H0:L2.Hp}{X Y:L2.Cx}{L:U (U (U L2.At))}{σ:L2.St}{vs ys:U L2.V}{r:L2.R2}{CX:L2.ES}{ta tb te:L2.TE}{sp:L2.Sp}{D':L2.Ends}{wi:L2.TI}{y:L2.V}
namespace HT
open PySem PyProof.Rows
def rcLt_int(A:Ah)(s:Ab)(a:Int)(t:Tok)(c:Int)(u:Tok)(prog:A4)(w:Aj)(E:Aa->Ab->Prop)(Q:Aa->Ab->Prop)(h:Q (.bool (decide (a<c))) s):wpAny (Ag prog w) A (richCompare .Lt (.int a t) (.int c u)) Q E s:=(PyProof.Rows.lt_int h:wpAny (Ag prog w) A (DA .Lt (.int a t)<|.int c u) Q E s)
section
variable{prog:A4}{w:Aj}{A:Ah}{s:Ab}
noncomputable def sIx(n d:Nat):O Int->Nat
 |none=>d
 |some v=>if v<0 then(v+(n:Int)).toNat else min v.toNat n
theorem mr(n d:Nat)(hd:d<=n)(o:O Int):sIx n d o<=n:=by
 cases o with|none=>exact hd|some v=>
  show(if v<0 then(v+(n:Int)).toNat else min v.toNat n)<=n
  by_cases a:v<0
  ·rw[if_pos a];lia
  ·rw[if_neg a];exact Nat.min_le_right _ _
theorem YH(v:Int)(n d:Nat):(if v<0 then max (v+(n:Int)) 0 else min v (n:Int))=((sIx n d (Z v):Nat):Int):=by
 show(if v<0 then max (v+(n:Int)) 0 else min v (n:Int))=(((if v<0 then(v+(n:Int)).toNat else min v.toNat n):Nat):Int)
 by_cases a:v<0
 ·erw[if_pos a];lia
 ·erw[if_neg a];lia
def ms(lo a:O Int)(n:Nat):YI lo a 1 (n:Int)=(((sIx n 0 lo:Nat):Int),((sIx n n a:Nat):Int)):=by
 have b:¬ ((1:Int)<0):=by lia
 unfold YI;erw[b,if_false];refine Prod.ext ?_ ?_
 ·cases lo with
  |none=>rfl
  |some v=>exact YH v n 0
 ·cases a with
  |none=>rfl
  |some v=>exact YH v n n
theorem mu(i j:Nat):SO (i:Int) (j:Int) 1=j-i:=by
 unfold SO;have a:(1:Int)>0:=by lia
 erw[a,if_true,Int.ediv_one];split<;>lia
def YJ{o:O Int}{Q:O Int->Ab->Prop}(p:IsPart v o)(h:Q o s):wpAny (Ag prog w) A (Builtin.Slice.slicePartIndex v) Q E s:=by
 cases p with
 |none=>exact slicePart_none h
 |int i t=>exact slicePart_int h
def sliceApplied_gen{lo a:O Int}{Q:Int×Int×Nat->Ab->Prop}(g:s.heap.IsSliceOf f d e .none)(pl:IsPart d lo)(i:IsPart e a) (h:Q (((sIx n 0 lo:Nat):Int),1,sIx n n a-sIx n 0 lo) s):wpAny (Ag prog w) A (Builtin.Slice.sliceApplied (.ref f) (AH (n:Int))) Q E s:=by
 obtain⟨os,b,j,c⟩:=id g;unfold Builtin.Slice.sliceApplied Builtin.Slice.sliceFields;refine Al<|Al<|Ef b c rfl<|Al<|Ef b c rfl<|Al<|Ef b c rfl<|AO ?_;refine Al<|slicePart_none ?_;show wpAny _ _ (if((1:Int)==0)=yB then _ else _) _ _ s
 rw[if_neg (by ext)];refine Al<|YJ pl<|Al<|YJ i<|Al<|AO ?_;show wpAny _ _ (match YI lo a 1 (n:Int)with|(lo,a)=>AH (lo,(1:Int),SO lo a 1)) _ _ s
 rw[ms lo a n];show wpAny _ _ (AH (((sIx n 0 lo:Nat):Int),(1:Int),SO ((sIx n 0 lo:Nat):Int) ((sIx n n a:Nat):Int) 1)) _ _ s
 rw[mu];exact AO h
theorem mv(xs:Array Aa)(i k:Nat):((BU k).filterMap λ(m:Nat)=>xs[((i:Int)+(m:Int)*1).toNat]?).toArray=((xs.toList.drop i).take k).toArray:=by
 have e:(λ(m:Nat)=>xs[((i:Int)+(m:Int)*1).toNat]?)=λm=>xs[i+m]?:=by
  funext m;have:((i:Int)+(m:Int)*1).toNat=i+m:=by lia
  rw[this]
 rw[e];have:=pick_run xs i k;rw[List.filterMap_map]at this;have a:((λx=>xs[x]?)∘λx=>i+x)=λm=>xs[i+m]?:=rfl;rw[a]at this;rw[this]
theorem getItem_tuple_cut{j k:Aa}{lo b:O Int}(c:IsTup s.heap t items)(l:s.heap.IsSliceOf d j k .none)(pl:IsPart j lo)(o:IsPart k b) (p:¬ (sIx items.size 0 lo=0/\sIx items.size items.size b=items.size)) (h:Q (.ref s.heap.objs.size) {s with heap:=s.heap.push {cls:=.type "tuple",data:=.seq ((items.toList.drop (sIx items.size 0 lo)).take (sIx items.size items.size b-sIx items.size 0 lo)).toArray} }) (hsz:items.size<=AB):wpAny (Ag prog w) A (getItem (.ref t) (.ref d)) Q E s:=by
 have a:sizeOk (.seq ((items.toList.drop<|sIx items.size 0 lo).take<|sIx items.size items.size b-sIx items.size 0 lo).toArray):=by
  show((items.toList.drop<|sIx items.size 0 lo).take<|sIx items.size items.size b-sIx items.size 0 lo).toArray.size<=AB
  rw[Bx,Oy,OA,Jl];lia
 have u:sIx items.size items.size b<=items.size:=mr _ _ (Bl _) b;obtain⟨os,e,f,r⟩:=id l;have g:s.TypeIs (.ref d) "slice":=⟨os,e,f⟩;unfold getItem;try with_reducible refine FU ?_
 first|refine Al (AO ?_)|skip
 refine Al<|wpAny_sequenceKey c.typeIs (by ext) ?_;refine Al (HE (name:=GB "__getitem__") c.typeIs SQ
  (G1 SQ c.typeIs entry_tuple_getitem ?_<|args_tuple_getitem _ _))
 show wpAny _ _ (Builtin.Tuple.tupleItemsOf (.ref t) >>= _) _ _ s
 refine Al<|tupleItemsOf_ c ?_;refine Al<|Ks g ?_;rw[if_pos (by ext)];refine Al<|sliceApplied_gen l pl o ?_;have i:¬ ((((sIx items.size 0 lo:Nat):Int)==0&&(1:Int)==1&&(sIx items.size items.size b-sIx items.size 0 lo)==items.size)=yB):=by
  intro q;rw[Dp,Dp]at q;have q1:((sIx items.size 0 lo:Nat):Int)=0:=eq_of_beq q.1.1;have q2:sIx items.size items.size b-sIx items.size 0 lo=items.size:=eq_of_beq q.2;exact p ⟨by lia,by lia⟩
 show wpAny _ _ (if(((sIx items.size 0 lo:Nat):Int)==0&&(1:Int)==1&&(sIx items.size items.size b-sIx items.size 0 lo)==items.size)=yB then _ else _) _ _ s
 rw[if_neg i,mv];first
  |exact Al (m:=SR _) (HF (AO ⟨_,rfl,AO h⟩) a)
  |exact Al (m:=SR _) (HF (Al (AO (AO ⟨_,rfl,AO h⟩))) a)
  |exact Al (Al (m:=SR _) (HF (AO (AO ⟨_,rfl,AO h⟩)) a))
  |exact Al (Al (m:=SR _) (HF (AO ⟨_,rfl,AO h⟩) a))
end
end HT
namespace L2
open PySem PySem.Spec PyProof.Rows
abbrev TO:=St->Hp->(O Int->Hp->Prop)->Prop
def PO(X:Cx)(e:O Expr)(t:TO):Prop:=
 ∀(a:U (Ac×AK)) (s:Ab) (b:St) (H:Hp) (Q:O Int->Hp->Prop),Inv X a b H s->t b H Q ->
  wpAny (Ag X.prog X.w) X.A (evalPart e X.env) (λu d=>∃o c,Inv X a b c d/\IsPart u o/\Q o c) X.xe s
def mw:TO:=λ_ H Q=>Q yA H
def my(t:TE):TO:=λa H Q=>t a H λx b=>∃i,x=.int i/\Q (Z i) b
def SS:∀{us:U Aa},As (ns.map V.int) us->IntsAre us ns:=by
 induction ns with|nil=>intro us r;rw[B3]at r;cases r;exact .nil|cons n ns a=>
  intro us r;rw[AI]at r;cases r with
  |cons b c=>
   obtain⟨t,rfl⟩:=b;exact .cons n t<|a c
section
variable{e:Expr}{lo hi:O Expr}{tl th:TO}
def mz:PO X yA mw:=by
 intro a s b H Q I h;rw[evalPart_none];exact AO ⟨yA,H,I,.none,h⟩
def mB(h:PE X e te):PO X (Z e) (my te):=by
 intro a s b H Q I c;rw[evalPart_some];refine A1 (h a s b H _ I c) λu j ⟨x,d,f,g,q1⟩=>?_;obtain⟨i,rfl,q⟩:=q1;obtain⟨t,rfl⟩:=g;exact⟨Z i,d,f,.int i t,q⟩
def Iq(X:Cx)(r:V->O Int->O Int->Hp->VK->Prop):Prop:=
 ∀(a:U (Ac×AK)) (s:Ab) (b:St) (H:Hp) (x:V) (v c d:Aa) (lo hi:O Int) (e:Ac) (Q:VK),Inv X a b H s->RelV x v->s.heap.IsSliceOf e c d .none->IsPart c lo->IsPart d hi->r x lo hi H Q ->
  ∃T id,typeLookup (.type T) "__getitem__"=AH (Z (.builtin id))/\s.TypeIs v T/\wpAny (Ag X.prog X.w) X.A (getItem v (.ref e)) (EP X a b Q) X.xe s
def Iq.or{r b:V->O Int->O Int->Hp->VK->Prop}(h:Iq X r)(h':Iq X b):Iq X (λx lo hi H Q=>r x lo hi H Q\/b x lo hi H Q):=by
 intro a s c H x v d e lo hi f Q I g i j k q;rcases q with q|q
 ·exact h a s c H x v d e lo hi f Q I g i j k q
 ·exact h' a s c H x v d e lo hi f Q I g i j k q
def mC(r:V->O Int->O Int->Hp->VK->Prop)(te:TE)(tl th:TO):TE:=λa H Q=>te a H λx b=>tl a b λl c=>th a c λu d=>r x l u d Q
def mD{r:V->O Int->O Int->Hp->VK->Prop}(j:Iq X r)(k:PE X e te)(m:PO X lo tl)(n:PO X hi th):PE X (.Subscript e (.Slice lo hi yA p2) pos) (mC r te tl th):=by
 intro a s d H Q I h;refine Subscript_<|A1 (k a s d H _ I h) λv o ⟨x,p,t,y,q1⟩=>?_;refine wpAny_Slice<|A1 (m a o d p _ t q1) λf z ⟨l,B,C,E,q2⟩=>A1 (n a z d B _ C q2) λg c ⟨u,i,G,w,q3⟩=>?_;rw[evalPart_none];refine AO ?_;have L:Inv X a d i {c with heap:=c.heap.push {cls:=.type "slice",data:=.fields #[f,g,.none]} }:=G.kept (t':=c.toks) λb ob q=>BG _ q;obtain⟨T,id,M,N,A⟩:=j a {c with heap:=c.heap.push {cls:=.type "slice",data:=.fields #[f,g,.none]} } d i x v f g l u c.heap.objs.size Q L y (Heap.IsSliceOf.new ..) E w q3;exact tail_any N M A (by with_unfolding_all rfl)
def G2(xs:U V)(lo hi:O Int):U V:=(xs.drop (HT.sIx xs.length 0 lo)).take (HT.sIx xs.length xs.length hi-HT.sIx xs.length 0 lo)
theorem YK(xs:U V)(lo hi:O Int):(G2 xs lo hi).length<=xs.length:=by
 unfold G2;rw[Oy,OA];lia
def mE(K:Av):V->O Int->O Int->Hp->VK->Prop:=λx lo hi H Q=>∃a b,x=.ref a/\B6 K H a b /\
 ¬ (HT.sIx b.length 0 lo=0/\HT.sIx b.length b.length hi=b.length)/\∀p,H p=yA->Q (.ref p) (AM H p (.tup (G2 b lo hi)))
def mF:Iq X (mE X.K):=by
 intro f s t H x v u w lo hi y Q I j k l m h;obtain⟨a,d,rfl,n,p,q⟩:=h;cases j;obtain⟨e,r,g,i⟩:=I.tuple n;have c:e.toArray.size=d.length:=by rw[Bx];exact r.length.symm
 refine⟨"tuple",_,PyProof.Rows.slot_tuple_getitem.lookup,g.typeIs,?_⟩;refine HT.getItem_tuple_cut g k l m (by rw[c];exact p) ?_ (by rw[c];exact i);rw[c];exact⟨.ref s.heap.objs.size,_,I.laid (t':=s.toks) (o:=.tup<|G2 d lo hi) (λb A q=>BG _ q) (Bl _) (⟨BX (YK d lo hi) i,_,(r.drop<|HT.sIx d.length 0 lo).take<|HT.sIx d.length d.length hi-HT.sIx d.length 0 lo,IsTup.new _ _⟩),rfl,q _<|I.hok.fresh<|Bl _⟩
end
noncomputable def D6(n:Nat)(i:Int):O Nat:=if 0<=i then(if i<n then Z i.toNat else yA)else if -(n:Int)<=i then Z (i+n).toNat else yA
def atI{a:Type}(xs:U a)(i:Int):O a:=(D6 xs.length i).bind λj=>xs[j]?
theorem YL(h:D6 n i=Z j):seqIndex? i n=Z j/\j<n /\ -(n:Int)<=i/\i<n:=by
 unfold D6 at h;by_cases b:0<=i
 ·rw[if_pos b]at h;by_cases a:i<n
  ·rw[if_pos a]at h;have e:=FT h;exact⟨by rw[seqIndex_of b a,e],by lia,by lia,a⟩
  ·simp[if_neg a]at h
 ·rw[if_neg b]at h;by_cases a : -(n:Int)<=i
  ·rw[if_pos a]at h;have e:=FT h;exact⟨by rw[seqIndex_neg (by lia) a,e],by lia,a,by lia⟩
  ·simp[if_neg a]at h
def SU{a:Type}{xs:U a}{v:a}(h:atI xs i=Z v):∃j,seqIndex? i xs.length=Z j/\xs[j]?=Z v/\j<xs.length /\ -(xs.length:Int)<=i/\i<xs.length:=by
 unfold atI at h;cases e:D6 xs.length i with|none=>simp[e]at h|some j=>
  rw[e]at h;obtain⟨b,c,d,f⟩:=YL e;exact⟨j,b,h,c,d,f⟩
theorem C3{a:Type}{xs:U a}{v:a}(h:xs[j]?=Z v):atI xs (j:Int)=Z v:=by
 have b:=(List.getElem?_eq_some_iff.mp h).1;have e:D6 xs.length (j:Int)=Z j:=by
  unfold D6;rw[if_pos (by lia),if_pos (by lia)];simp
 unfold atI;rw[e];exact h
theorem YM{a:Type}(xs:U a)(v:a):atI (xs++[v]) (-1)=Z v:=by
 have b:(xs++[v]).length=xs.length+1:=by simp
 have e:D6 (xs++[v]).length (-1)=Z xs.length:=by
  unfold D6;rw[b,if_neg (by ext),if_pos (by lia)];congr 1;lia
 unfold atI;rw[e];show(xs++[v])[xs.length]?=Z v
 simp
def Kt(b:Expr):Prop:=∀o i,subscripted b yC o i=operate [o,i] (getItem o i)
def G3(X:Cx)(r:R2):Prop:=
 ∀(b slice:Expr) (a:U (Ac×AK)) (s:Ab) (c:St) (H:Hp) (x y:V) (v u:Aa) (Q:VK),Inv X a c H s->RelV x v->RelV y u->r x y H Q ->
  subscripted slice yC v u=operate [v,u] (getItem v u)->wpAny (Ag X.prog X.w) X.A (subscriptTail b slice v u) (EP X a c Q) X.xe s
def Ku(X:Cx)(id:String)(r:V->U V->Hp->VK->Prop):Prop:=
 ∀(a:U (Ac×AK)) (s:Ab) (b:St) (H:Hp) (x:V) (c:U V) (v:Aa) (d:U Aa) (Q:VK),Inv X a b H s->RelV x v->As c d->r x c H Q ->
  wpAny (Ag X.prog X.w) X.A (call (.builtin id) (v::d)) (EP X a b Q) X.xe s
section
variable{a b:Expr}
def G3.or{c:R2}(h:G3 X r)(h':G3 X c):G3 X (λx y H Q=>r x y H Q\/c x y H Q):=by
 intro a slice b s d H x y v u Q I e f q g;rcases q with q|q
 ·exact h a slice b s d H x y v u Q I e f q g
 ·exact h' a slice b s d H x y v u Q I e f q g
def SV(d:G3 X r)(e:PE X a ta)(f:PE X b tb)(g:Kt b):PE X (.Subscript a b pos) (Li r ta tb):=by
 intro c s i H Q I h;exact Subscript_<|Sz e f I h λv u j x y k l m n q=>d a b c j i k x y v u Q l m n q<|g _ _
def YN(K:Av):R2:=λx y H Q=>∃p a i v,x=.ref p/\y=.int i/\BM K H p a/\atI a i=Z v/\Q v H
def YO(K:Av):R2:=λx y H Q=>∃p a i v,x=.ref p/\y=.int i/\B6 K H p a/\atI a i=Z v/\Q v H
def YP:R2:=λx y H Q=>∃z i c,x=.str z/\y=.int i/\z.length<=AB/\atI z.cps.toList i=Z c/\Q (.str ⟨#[c]⟩) H
theorem Ir:G3 X (YN X.K):=by
 intro c slice a s k H x y v u Q I o A h l;obtain⟨p,N,i,z,rfl,rfl,B,C,q⟩:=h;cases o;obtain⟨t,rfl⟩:=A;obtain⟨d,r,e,M⟩:=I.list B;obtain⟨j,b,E,T,G,F⟩:=SU C;obtain⟨w,m,f⟩:=r.get E;have L:=r.length;have P:=Ko;have fin:EP X a k Q w s:=⟨z,H,I,f,q⟩;by_cases n:0<=i
 ·have g:i.toNat=j:=by
   rw[seqIndex_of n F]at b;exact FT b
  exact item_listR e.isList n (by lia) (by rw[g];simpa using m) fin l
 ·have g:(i+(d.toArray.size:Int)).toNat=j:=by
   rw[seqIndex_neg (by lia) G]at b;rw[Bx,<- L];exact FT b
  exact subscriptTail_builtinR e.isList.typeIs slot_list_getitem.lookup
   (wpAny_getItem_list_neg e.isList (by lia) (by rw[Bx]<;>lia) (by lia) (by rw[g];simpa using m) ⟨rfl,fin⟩) l
def Kv:G3 X (YO X.K):=by
 intro b slice a s d H x y v u Q I f g h k;obtain⟨p,G,i,z,rfl,rfl,l,m,q⟩:=h;cases f;obtain⟨t,rfl⟩:=g;obtain⟨n,r,e,E⟩:=I.tuple l;obtain⟨j,o,A,L,M,N⟩:=SU m;obtain⟨w,B,c⟩:=r.get A;have C:=r.length;have F:=Ko;have fin:EP X a d Q w s:=⟨z,H,I,c,q⟩;exact subscriptTail_builtinR e.typeIs slot_tuple_getitem.lookup
  (getItem_tuple e (by lia) (by lia) (by rw[Bx,<- C];exact o) (by simpa using B) ⟨rfl,fin⟩) k
theorem mG:G3 X YP:=by
 intro a slice b s w H x y v u Q I e f h g;obtain⟨z,i,c,rfl,rfl,A,k,q⟩:=h;obtain⟨t,rfl⟩:=e;obtain⟨B,rfl⟩:=f;obtain⟨j,d,l,C,m,n⟩:=SU k;have o:z.cps.toList.length=z.length:=by simp[Str.length]
 rw[o]at d m n;have E:=Ko;exact tail_any (typeIs_str s z t) slot_str_getitem.lookup (getItem_str (by
  have p:decide (i < -(2^63:Int))=yC:=decide_eq_false (by lia);have r:decide (i≥2^63)=yC:=decide_eq_false (by lia);rw[p,r,Bool.or_false]) (by rw[d];simpa using l) ⟨.str ⟨#[c]⟩,H,I.tok _,⟨_,rfl⟩,q⟩) g
def YQ(K:Av):R2:=λx y H Q=>YN K x y H Q\/YO K x y H Q\/YP x y H Q
def SW:G3 X (YQ X.K):=Ir.or<|Kv.or mG
def mH(a:U Aa)(n j:Nat)(u:Aa):E8 (·.setIfInBounds j u) {cls:=.type "list",data:=.seq a.toArray n}={cls:=.type "list",data:=.seq (a.set j u).toArray n}:=by
 simp[E8]
def Inv.lst{b:U (Ac×AK)}{s:Ab}{p:Ac}{xs:U V}(I:Inv X b σ H s)(h:H p=Z (.lst xs)):∃(a:U Aa) (n:Nat),As xs a/\s.heap.get? p=Z {cls:=.type "list",data:=.seq a.toArray n}/\xs.length<=AB:=by
 obtain⟨z,a,n,r,e⟩:=I.hok p _ h;exact⟨a,n,r,e,z⟩
def Inv.lstUpd{a:U (Ac×AK)}{xs:U V}{c its':U Aa}{n d:Nat}{f:AK->AK}(I:Inv X a σ H s)(h:H p=Z (.lst xs)) (i:s.heap.get? p=Z {cls:=.type "list",data:=.seq c.toArray n}) (g:f {cls:=.type "list",data:=.seq c.toArray n}={cls:=.type "list",data:=.seq its'.toArray d}) (r:As ys its') (hz:ys.length<=AB) (t:Nat):Inv X a σ (AM H p (.lst ys)) {s with heap:=s.heap.update p f,toks:=t}:=by
 have e:(s.heap.update p f).get? p=Z {cls:=.type "list",data:=.seq its'.toArray d}:=by
  rw[SX f i (by rw[g]<;>rfl),g]
 refine I.write (by rw[h];trivial) (.inl rfl) (λb u j q=>(SY _ _<|CT j).trans q) ⟨_,e⟩ ?_;exact⟨hz,its',d,r,e⟩
def mI:V->V->V->Hp->(Hp->Prop)->Prop:=λo i v H Q=>∃p a k j,o=.ref p/\i=.int k/\H p=Z (.lst a)/\D6 a.length k=Z j/\Q (AM H p (.lst (a.set j v)))
theorem mJ:Sw X mI:=by
 intro a s y H o i v F L u Q I z A B h;obtain⟨p,C,k,j,rfl,rfl,g,E,q⟩:=h;cases z;obtain⟨t,rfl⟩:=A;obtain⟨b,n,r,d,G⟩:=I.lst g;obtain⟨c,M,l,m⟩:=YL E;have e:=r.length;have N:=Ko;have w:Inv X a y (AM H p<|.lst<|C.set j v) {s with heap:=s.heap.update p (E8 (·.setIfInBounds j u))}:=
  I.lstUpd g d (mH b n j u) (r.set B j) (by rw[Kw];exact G) s.toks
 by_cases x:0<=k
 ·have f:k.toNat=j:=by
   rw[seqIndex_of x m]at c;exact FT c
  exact PySem.W.ki_setAt d x (by lia) (by rw[Bx,<- e];exact m) (by rw[f];exact⟨_,w,q⟩)
 ·have f:(k+(b.toArray.size:Int)).toNat=j:=by
   rw[seqIndex_neg (by lia) l]at c;rw[Bx,<- e];exact FT c
  exact PySem.W.ki_setBack d (by lia) (by rw[Bx,<- e];exact l) (by lia) (by rw[f];exact⟨_,w,q⟩)
theorem mK(lo a:O Int)(n:Nat):(E9 lo a yA n).1=((HT.sIx n 0 lo:Nat):Int)/\(E9 lo a yA n).2.1=((HT.sIx n n a:Nat):Int)/\(E9 lo a yA n).2.2=1:=by
 refine⟨?_,?_,rfl⟩
 ·cases lo with|none=>simp[E9,HT.sIx]|some i=>
   erw[E9,HT.sIx,Option.getD_none,show(1:Int)>0 by ext,if_true];by_cases h:i<0
   ·erw[h,if_true]<;>lia
   ·erw[h,if_false]<;>lia
 ·cases a with|none=>simp[E9,HT.sIx]|some i=>
   erw[E9,HT.sIx,Option.getD_none,show(1:Int)>0 by ext,if_true];by_cases h:i<0
   ·erw[h,if_true]<;>lia
   ·erw[h,if_false]<;>lia
def mL(a:U Aa)(lo b:O Int):slicePick a.toArray lo b yA=((a.drop (HT.sIx a.length 0 lo)).take (HT.sIx a.length a.length b-HT.sIx a.length 0 lo)).toArray:=by
 obtain⟨c,d,e⟩:=mK lo b a.toArray.size;unfold slicePick;rw[c,d,e];erw[sliceRange_one,pick_run,Bx]<;>rfl
def mM(K:Av):V->O Int->O Int->Hp->VK->Prop:=λx lo c H Q=>∃a b,x=.ref a/\BM K H a b/\∀p,H p=yA->Q (.ref p) (AM H p (.lst (G2 b lo c)))
theorem Iu:Iq X (mM X.K):=by
 intro f s t H x v u w lo e y Q I i j k l h;obtain⟨a,c,rfl,m,q⟩:=h;cases i;obtain⟨n,r,g,p⟩:=I.list m;have d:=r.length;refine⟨"list",_,slot_list_getitem.lookup,g.isList.typeIs,?_⟩;refine wpAny_getItem_list_slice g.isList j k l .none (by simp) ?_ (by rw[Bx]<;>lia);rw[mL,<- d];exact⟨.ref s.heap.objs.size,_,I.laid (t':=s.toks) (o:=.lst<|G2 c lo e) (λb A q=>BG _ q) (Bl _) (⟨BX (YK c lo e) p,_,0,(r.drop<|HT.sIx c.length 0 lo).take<|HT.sIx c.length c.length e-HT.sIx c.length 0 lo,Cm _ rfl⟩),rfl,q _<|I.hok.fresh<|Bl _⟩
def YR:V->Bool
 |.non=>yB
 |.bl _=>yB
 |.int _=>yB
 |.str _=>yB
 |_=>yC
noncomputable def mN:V->V->Bool
 |.non,.non=>yB
 |.bl a,.bl b=>a==b
 |.bl a,.int b=>(if a then 1 else 0)==b
 |.int a,.bl b=>a==(if b then 1 else 0)
 |.int a,.int b=>a==b
 |.str a,.str b=>a==b
 |_,_=>yC
def Iv:Es X (.type "list") (λxs H Q=>∃p ys,xs=[.ref p]/\(BM X.K H p ys\/B6 X.K H p ys)/\∀l,H l=yA->Q (.ref l) (AM H l (.lst ys))):=by
 intro g s y H xs A Q I r h;obtain⟨p,ys,rfl,i,q⟩:=h;obtain⟨u,rfl,z⟩:=Et r;cases z;have fin:∀(a:U Aa),As ys a->ys.length<=AB->∀(c:Am) (d:Nat),(∀b x,s.heap.get? b=Z x->c.get? b=Z x) ->
   c.get? s.heap.objs.size=Z {cls:=.type "list",dict:=yA,data:=.seq a.toArray d,slots:=#[]}->EP X g y Q (.ref s.heap.objs.size) {s with heap:=c}:=λa f j c d kp e=>
  ⟨.ref s.heap.objs.size,_,I.laid (t':=s.toks) kp (Bl _) (show Bc X.prog X.w _ c _ (.lst ys)from⟨j,a,d,f,e⟩),rfl,q _<|I.hok.fresh<|Bl _⟩
 rcases i with i|i
 ·obtain⟨a,f,m,j⟩:=I.list i;have k:=f.length;obtain⟨o,t,v,n,hd⟩:=m.isList;exact call_list_seq p (.inl rfl) t v hd (λc d kp e=>fin a f j c d kp e) (by erw[Bx]<;>lia)
 ·obtain⟨a,f,m,j⟩:=I.tuple i;have k:=f.length;obtain⟨o,t,v,n,hd⟩:=m;exact call_list_seq p (.inr rfl) t v hd (λc d kp e=>fin a f j c d kp e) (by erw[Bx]<;>lia)
def Kx:Es X (.type "tuple") (λxs H Q=>∃p ys,xs=[.ref p]/\((BM X.K H p ys/\∀l,H l=yA->Q (.ref l) (AM H l (.tup ys)))\/(B6 X.K H p ys/\Q (.ref p) H))):=by
 intro a s j H xs y Q I r h;obtain⟨p,ys,rfl,h⟩:=h;obtain⟨u,rfl,t⟩:=Et r;cases t;rcases h with⟨f,q⟩|⟨f,q⟩
 ·obtain⟨c,g,i,k⟩:=I.list f;have m:=g.length;refine call_tuple_list i.isList (λd kp=>?_) (by erw[Bx]<;>lia);have n:=I.kept (t':=s.toks) kp;have x:Inv X a j (AM H d.objs.size<|.tup ys) {s with heap:=d.push {cls:=.type "tuple",data:=.seq c.toArray} }:=
   n.laid (t':=s.toks) (λb o e=>BG _ e) (Bl _) (show Bc X.prog X.w _ _ _ (.tup ys)from⟨k,c,g,IsTup.new _ _⟩)
  exact⟨.ref d.objs.size,_,x,rfl,q _<|n.hok.fresh<|Bl _⟩
 ·obtain⟨c,g,i,k⟩:=I.tuple f;exact call_tuple_same i ⟨.ref p,H,I,rfl,q⟩
def Mz(K:Av)(T:String)(x:V)(H:Hp):Prop:=match x with
 |.str _=>T="str"
 |.int _=>T="int"
 |.ref p=>(T="list"/\∃b,BM K H p b)\/(T="tuple"/\∃o,K.lookup p=Z o/\o.cls=.type "tuple"/\o.dict=yA) \/
   (T="dict"/\((∃a,H p=Z (.dK a))\/(∃a,H p=Z (.dT a))\/∃c d,Rd H p (.dct c d)))\/(T="set"/\∃S n,H p=Z (.set S n))
 |_=>False
def YS(I:Inv X d σ H s)(r:RelV x v)(ty:Mz X.K T x H):s.TypeIs v T/\∀a,v=.ref a->∃h,s.heap.get? a=Z h/\h.dict=yA:=by
 cases x with
 |str z=>
  obtain⟨t,rfl⟩:=r;cases(show T="str" from ty);exact⟨typeIs_str s z t,λ_ e=>nomatch e⟩
 |int i=>
  obtain⟨t,rfl⟩:=r;cases(show T="int" from ty);exact⟨typeIs_int s i t,λ_ e=>nomatch e⟩
 |ref p=>
  cases r;rcases ty with⟨rfl,q,k⟩|⟨rfl,o,b,l,hd⟩|⟨rfl,b⟩|⟨rfl,S,n,b⟩
  ·obtain⟨m,_,j,_⟩:=I.list k;refine⟨j.isList.typeIs,λa e=>?_⟩;cases e;obtain⟨o,n,e,c,hd,_⟩:=j;exact⟨o,e,hd⟩
  ·refine⟨⟨o,I.kIn p o b,l⟩,λa e=>?_⟩;cases e;exact⟨o,I.kIn _ o b,hd⟩
  ·have z:∃o,s.heap.get? p=Z o/\o.ExactDict:=by
    rcases b with⟨f,b⟩|⟨f,b⟩|⟨u,w,b⟩
    ·obtain⟨_,_,_,_,o,_,_,e,ex,_⟩:=I.hok p _ b;exact⟨o,e,ex⟩
    ·obtain⟨_,_,_,_,o,_,_,e,ex,_⟩:=I.hok p _ b;exact⟨o,e,ex⟩
    ·obtain⟨_,_,_,o,_,_,e,ex,_⟩:=b.ok I.hok;exact⟨o,e,ex⟩
   obtain⟨o,e,ex⟩:=z;refine⟨⟨o,e,ex.1⟩,λa g=>?_⟩;cases g;exact⟨o,e,ex.2.1⟩
  ·obtain⟨o,_,_,_,e,ex,_⟩:=I.hok p _ b;refine⟨⟨o,e,ex.1⟩,λa g=>?_⟩;cases g;exact⟨o,e,ex.2.1⟩
 |_=>exact Bo ty
def mO(K:Av)(T:String)(r:V->U V->Hp->VK->Prop)(b:TE):TE:=λc H Q=>b c H λx a=>Mz K T x a/\r x [] a Q
def mP(K:Av)(T:String)(r:V->U V->Hp->VK->Prop)(c:TE)(t:TA):TE:=λa H Q=>c a H λx b=>Mz K T x b/\t a b λd e=>r x d e Q
variable{o e:Expr}{to:TE}{t:TA}{name:Ae}{id:String}{r:V->U V->Hp->VK->Prop}
def OB(i:PlainAttrs T)(slot:Slot T name id)(d:typeOf (.builtin id)=AH (.type "method_descriptor"))(j:Ku X id r)(k:PE X o to) (b:Fw o name X.env (Ax o X.env)=Ax o X.env:=by rfl) (c:(apos.endLine==cpos.line)=yB:=by rfl):PE X (.Call (.Attribute o name apos) [] [] cpos) (mO X.K T r to):=by
 intro a s e H Q I h;refine wpAny_Call_method0_late b c<|A1 (k a s e H _ I h) λv l ⟨x,m,f,g,ty,q1⟩=>?_;obtain⟨n,p⟩:=YS f g ty;exact⟨T,id,i,slot,d,n,p,Calls.callWith_builtin rfl<|PySem.evalArgs_none<|j a l e m x [] v [] Q f g .nil q1⟩
def Iw(m:PlainAttrs T)(slot:Slot T name id)(g:typeOf (.builtin id)=AH (.type "method_descriptor"))(n:Ku X id r)(p:PE X o to)(q:PA X (e::es) t) (c:Fw o name X.env (Ax o X.env)=Ax o X.env:=by rfl) (f:((AL cpos (AY (e::es) X.env)).all (λx=>!x.1)&&(Ga cpos (Gb [] X.env)).all (λx=>x.1.isSome) && decide ((e::es).length+([]:U ET).length+(if([]:U ET).isEmpty then 0 else 1)<30))=yB:=by rfl) (d:(apos.endLine==cpos.line)=yB:=by rfl) (u:AY (e::es) X.env=(yC,Ax e X.env)::AY es X.env:=by rfl) (b:(AL cpos (AY es X.env)).any (·.1)=yC:=by rfl):PE X (.Call (.Attribute o name apos) (e::es) [] cpos) (mP X.K T r to t):=by
 intro a s i H Q I h;refine wpAny_Call_method_late c f d rfl<|A1 (p a s i H _ I h) λv w ⟨x,y,j,k,ty,q1⟩=>?_;obtain⟨z,A⟩:=YS j k ty;refine⟨T,id,m,slot,g,z,A,?_⟩;have l:=q cpos a w i y _ j q1;rw[u]at l ⊢;refine Calls.callWith_builtin (by show(yC||(AL cpos<|AY es X.env).any (·.1))=yC;rw[b]<;>rfl)<|Calls.evalArgs_plain ?_;exact A1 l λB C ⟨E,G,F,L,q2⟩=>n a C i G x E v B Q F k L q2
end
def MA(X:Cx)(id:String)(r:V->U V->Hp->VK->Prop):Prop:=
 ∀(a:U (Ac×AK)) (s:Ab) (b:St) (H:Hp) (x:V) (c:U V) (v:Aa) (d:U Aa) (Q:VK),Inv X a b H s->RelV x v->As c d->r x c H Q ->
  wpAny (Ag X.prog X.w) X.A (call (.builtin id) (v::d)) (EP X a b Q) X.xe s
def As.one:∀{x:V}{us:U Aa},As [x] us->∃u,us=[u]/\RelV x u
 |_,_,.cons r .nil=>⟨_,rfl,r⟩
def As.two:∀{x y:V}{us:U Aa},As [x,y] us->∃u v,us=[u,v]/\RelV x u/\RelV y v
 |_,_,_,.cons r (.cons q .nil)=>⟨_,_,rfl,r,q⟩
def As.zero:∀{us:U Aa},As [] us->us=[]
 |_,.nil=>rfl
theorem As.eraseIdx:∀{xs:U V}{us:U Aa}(i:Nat),As xs us->As (xs.eraseIdx i) (us.eraseIdx i)
 |_,_,_,.nil=>.nil
 |_,_,0,.cons _ t=>t
 |_,_,i+1,.cons r t=>.cons r<|As.eraseIdx i t
theorem Ta{a:Type}:∀(l:U a)(i:Nat),(l.eraseIdx i).length<=l.length
 |[],_=>Bl _
 |_::_,0=>Nat.le_succ _
 |_::r,i+1=>Nat.succ_le_succ<|Ta r i
section
variable{s:Ab}{l b:Ac}{xs:U V}
def Inv.lset{a its':U Aa}(I:Inv X pins σ H s)(b:H l=Z (.lst xs)) (e:s.heap.get? l=Z {cls:=.type "list",data:=.seq a.toArray n}) (c:f a.toArray=its'.toArray) (d:As ys its') (hz:ys.length<=AB):Inv X pins σ (AM H l (.lst ys)) {s with heap:=s.heap.update l (E8 f),toks:=t' }:=by
 have q:=PySem.IsL.update e f;rw[c]at q;refine I.write (by rw[b];exact trivial) (.inl rfl) (λi u g h=>(SY s.heap (E8 f)<|CT g).trans h) ⟨_,q⟩ ?_;exact⟨hz,its',_,d,q⟩
def Inv.lnew{a:U Aa}(I:Inv X pins σ H s)(b:As ys a)(hz:ys.length<=AB):Inv X pins σ (AM H s.heap.objs.size (.lst ys)) {s with heap:=s.heap.push {cls:=.type "list",data:=.seq a.toArray},toks:=t' }:=I.laid (λ_ _ q=>BG _ q) (Bl _) ⟨hz,a,0,b,Cm _ rfl⟩
def Inv.fresh(I:Inv X pins σ H s):H s.heap.objs.size=yA:=I.hok.fresh<|Bl _
def Inv.lstM(I:Inv X pins σ H s)(b:H l=Z (.lst xs)):xs.length<=AB/\∃(a:U Aa)(n:Nat),As xs a/\xs.length=a.length/\s.heap.get? l=Z {cls:=.type "list",data:=.seq a.toArray n}:=by
 obtain⟨z,a,n,r,e⟩:=I.hok l _ b;exact⟨z,a,n,r,r.length,e⟩
def mQ(h:n<=AB):YT n=yC:=by
 unfold YT;exact decide_eq_false (by lia)
end
section
def mR:V->U V->Hp->VK->Prop:=λx b H Q=>∃l a y,x=.ref l/\b=[y]/\H l=Z (.lst a)/\a.length<AB/\Q .non (AM H l (.lst (a++[y])))
theorem YU:MA X "list.append" mR:=by
 intro b s j H x k v m Q I f g h;obtain⟨l,o,y,rfl,rfl,c,p,q⟩:=h;cases f;obtain⟨u,rfl,i⟩:=g.one;obtain⟨z,a,n,r,t,e⟩:=I.lstM c;refine BQ F.slot_list_append ⟨_,e,rfl⟩ F.entry_list_append (F.args_list_append_2 _ _) (PySem.list_append l a.toArray n u (by rw[Bx];lia)) ⟨e,?_⟩;refine⟨.non,_,I.lset (its':=a++[u]) c e (by simp) (r.append<|.cons i .nil) ?_,rfl,q⟩;rw[GA,List.length_singleton];lia
def mS:V->U V->Hp->VK->Prop:=λx d H Q=>∃l b a c,x=.ref l/\d=[.ref b]/\H l=Z (.lst a)/\H b=Z (.lst c)/\a.length+c.length<=AB/\Q .non (AM H l (.lst (a++c)))
theorem mT:MA X "list.extend" mS:=by
 intro g s A H x B v C Q I k m h;obtain⟨l,b,E,G,rfl,rfl,i,o,j,q⟩:=h;cases k;obtain⟨u,rfl,p⟩:=m.one;cases p;obtain⟨z,c,n,r,L,e⟩:=I.lstM i
 obtain⟨M,a,n2,t,w,y⟩:=I.lstM o
 have f:c.toArray.size+a.toArray.size<=AB:=by rw[Bx,Bx];lia
 have d:¬ (!c.toArray.isEmpty&&YT (c.toArray.size+a.toArray.size))=yB:=by
  rw[mQ f,Bool.and_false]
  exact Hz
 refine BQ F.slot_list_extend ⟨_,e,rfl⟩ F.entry_list_extend (F.args_list_extend_2 _ _)
  (AutoSeq1.list_extend_list_list_0 l c.toArray n b a.toArray n2 d (by rw[Bx];lia) (by lia)) ⟨e,y,?_⟩
 refine⟨.non,_,I.lset (its':=c++a) i e (by simp) (r.append t) ?_,rfl,q⟩
 rw[GA]
 lia
def mU:V->U V->Hp->VK->Prop:=λx b H Q=>∃l a i k y,x=.ref l/\b=[.int i]/\H l=Z (.lst a) /\ -(2^63)<=i/\i<2^63/\seqIndex? i a.length=Z k/\a[k]?=Z y/\Q y (AM H l (.lst (a.eraseIdx k)))
theorem mV:MA X "list.pop" mU:=by
 intro c s f H x L v M Q I g j h;obtain⟨l,m,i,k,y,rfl,rfl,d,o,p,A,B,q⟩:=h;cases g;obtain⟨u,rfl,C⟩:=j.one;obtain⟨t,rfl⟩:=C
 obtain⟨z,a,n,r,E,e⟩:=I.lstM d
 obtain⟨w,G,b⟩:=r.get B
 refine BQ F.slot_list_pop ⟨_,e,rfl⟩ F.entry_list_pop (F.args_list_pop_2 _ _)
  (MeetsSeq.list_pop_at l a.toArray n i t k w (fitsIndex_both o p) (by rw[Bx,<- E];exact A) (by rw[<- Tb];exact G) (by rw[Bx];lia)) ⟨e,?_⟩
 refine⟨y,_,I.lset (its':=a.eraseIdx k) d e ?_ (r.eraseIdx k) ?_,b,q⟩
 ·rw[List.eraseIdxIfInBounds_toArray]
 ·have:=Ta m k
  lia
def mW:V->U V->Hp->VK->Prop:=λx a H Q=>∃l b,x=.ref l/\a=[]/\H l=Z (.lst b)/\Q .non (AM H l (.lst []))
def OC:MA X "list.clear" mW:=by
 intro c s j H x k v m Q I g i h;obtain⟨l,o,rfl,rfl,d,q⟩:=h;cases g;have a:=i.zero;subst a;obtain⟨z,b,n,r,p,e⟩:=I.lstM d;refine BQ F.slot_list_clear ⟨_,e,rfl⟩ F.entry_list_clear (F.args_list_clear_1 _) (AutoSeq1.list_clear_list_0 l b.toArray n (by rw[Bx];lia)) ⟨e,?_⟩;exact⟨.non,_,I.lset (its':=[]) d e rfl .nil (E7 _),rfl,q⟩
end
section
set_option maxRecDepth 100000 in
end
end L2
namespace Att
open PySem PySem.W PySem.Calls PyProof.Rows
def mX:∀(ns:U Int)(vs:U Aa),WellAll P h vs (ns.map WData.int)->IntsAre vs ns:=by
 intro ns;induction ns with
 |nil=>
  intro vs w;rw[B3]at w;cases w;exact .nil
 |cons n ns c=>
  intro vs w;rw[AI]at w;cases w with
  |cons a b=>
   cases a;exact .cons _ _<|c _ b
theorem mY{l:OpenLaw}{n:Nat}(m:l.most=Z n){P:Params}{h:Am}{args:U WData}{Zy:U Aa} (b:l.row.toRowW.claim.pre args=yB) (i:WellAll P h Zy args):∃a vs ns,Zy=[Cy a]/\args=[WData.list (ns.map WData.int)]/\h.get? a=Z {cls:=.type "list",data:=.seq vs.toArray}/\IntsAre vs ns/\ns.length<=n:=by
 have j:=(pre_splitW b).1;have k:l.pre.holds [] {args:=args}=yB:=(pre_splitW b).2;obtain⟨d,r,rfl,o,p⟩:=hasAllW_cons j;obtain rfl:=hasAllW_nil p;obtain⟨x,rfl,s⟩:=hasW_list o;obtain⟨ns,rfl⟩:=items_int s;have c:ns.length<=n:=by
  unfold OpenLaw.pre at k;have f:(WTm.not<|.lt (.lit<|.int (n:Int))<|.len<|.arg 0).holds [] {args:=[.list<|ns.map .int]}=yB:=by
   have f:=(holds_andW k).1;rw[m]at f;exact f
  have g:=condW_of f<|w_not<|w_lt w_lit<|w_len_list<|w_arg rfl;rw[Bd]at g;refine Nat.le_of_not_lt λq=>?_;have t:(n:Int)<((ns.length:Nat):Int):=by lia
  first
   |(rw[decide_eq_true t]at g;exact absurd g (by ext))
   |(simp at g;lia)
 cases i with
 |cons u v=>
  cases v;cases u with
  |list w e=>exact⟨_,_,ns,rfl,rfl,w,mX ns _ e,c⟩
def mZ(l:OpenLaw)(args:U WData):l.row.toRowW.claim.post args (.bool yB) args=yB:=postW_of (show WShape.has [] (.bool yB) .bool=yB by first|rfl|decide|simp[WShape.has,WShape.arms,WShape.armsAll]) (show(WTm.eq .res<|.lit<|.bool yB).value [] {args:=args,res:=Z<|.bool yB,after:=args}=Z (.bool<|true==yB)from w_eq_bool (w_res rfl) w_lit) rfl
def attach_call{l:OpenLaw}{n:Nat}{q:A4}{c:U Ae}{z:(Ae->O Aa)->Am->Prop}{A:Aj->Am->Prop}{d:DefRec} (E:l.most=Z n) (s:d.params.defaults=[]) (call:∀(w:Aj) (s₀ b:Ab) (mg t:Ae->O Aa) (h:Ac) (o:AK) (u m e:Aa) (a:Ac) (vs:U Aa) (ns:U Int),Ground q c [] z w s₀ mg t b.heap->A w b.heap->b.heap.get? h=Z o->o.data=.func (docDef d.name d.params d.body d.scope u m e)->b.heap.CodeRec m d.name->mg d.name=Z (.ref h)->b.heap.get? a=Z {cls:=.type "list",data:=.seq vs.toArray}->IntsAre vs ns->ns.length<=n->b.gens=#[]->codeAny (Ag l.prog w) callerA (.call (.ref h) ⟨[.ref a],[]⟩) (λr p=>r=.ok (.ret (.bool yB))/\OldK b.heap p.heap/\p.os=b.os/\AllBare p.gens) b):WalkO q c z A l.row.toRowW d [] (λf vs=>PySem.call f vs):=by
 intro w s₀ b mg t G Y h o u m e H kV I hd v B x F args Zy as i C L y M
 obtain rfl:H=.none:=Dflts.none B s
 obtain rfl:kV=.none:=Dflts.noKw B
 obtain⟨a,vs,ns,rfl,rfl,j,g,k⟩:=mY E i y
 refine enter_call (codeAny_mono (call w s₀ b mg t h o u m e a vs ns G Y I (fd_plain hd) v x j g k F) λr p N=>?_)
 obtain⟨rfl,K,Q,T⟩:=N
 exact⟨.inl ⟨.bool yB,.bool yB,[],rfl,λ_=>rfl,.bool yB,mZ l _,λ_=>⟨List.Pairwise.nil,λ_ P=>(nomatch P)⟩⟩,K,Q,T⟩
end Att
namespace L2
open PySem PySem.Spec PyProof.Rows
theorem YV:∀{vs:U Aa}{ns:U Int},IntsAre vs ns->As (ns.map V.int) vs
 |_,_,.nil=>.nil
 |_,_,.cons n t h=>.cons ⟨t,rfl⟩<|YV h
def Tc(H:Hp):Prop:=∀b,H b=yA\/∃o a,H b=Z (.frz o (.lst a))
def m4{K:Av}{mg I:Ae->O Aa}{k:Nat}{R:Ac}{fd:A2}{x:Ae}{c:Ab}{vs:U Aa}{ns:U Int} (W:K.In c.heap) (l:c.heap.Ns De mg) (f:c.heap.Ns builtinsNs I) (L:∀x:Ae,x≠"__name__"->I x=Fq x) (p:c.heap.NoLimit) (hg:c.gens=#[]) (G:c.heap.get? a=Z {cls:=.type "list",data:=.seq vs.toArray}) (Y:IntsAre vs ns) (hl:ns.length<=AB) (hr:AZ k callerA) (F:∀base:Am,K.In base->base.Ns De mg->Aw P w K mg base CX k R fd [x] sp) (j:∀(s:Ab) (u:Aa),BindsTo s fd ⟨[u],[]⟩ [(x,u)]) (M:∀H:Hp,Tc H->BM K H a (ns.map V.int)->sp [.ref a] H (λv _=>v=.bl yB) λ_ _ _=>False) (N:∀H e g,CX [] H c (λ_ _ _=>False) e g->False):codeAny (Ag P w) callerA (.call (.ref R) ⟨[.ref a],[]⟩) (λr g=>r=.ok (.ret (.bool yB))/\OldK c.heap g.heap/\g.os=c.os/\AllBare g.gens) c:=by
 have rv:=YV Y
 have t:=Y.length
 have core:∀H:Hp,Tc H->BM K H a (ns.map V.int)->Cz P w H c.heap->(∀b,H b≠yA->b=a)->(H a≠yA->K.lookup a=yA) ->
   codeAny (Ag P w) callerA (.call (.ref R) ⟨[.ref a],[]⟩) (λr g=>r=.ok (.ret (.bool yB))/\OldK c.heap g.heap/\g.os=c.os/\AllBare g.gens) c:=by
  intro H hO hS hok hA hK
  have base_of:∀{b:Ac} {o:AK},c.heap.get? b=Z o->H b=yA->(Ii c.heap H).get? b=Z o:=λe n=>kj e n
  have S:∀{b:Ac} {o:AK} {y:Array Ih} {A:Nat},c.heap.get? b=Z o->o.data=.dict y A->H b=yA:=λ{b o y A} e d=>by
   cases q:H b with
   |none=>rfl
   |some u=>
    have Q:b=a:=hA b (by rw[q];simp)
    subst Q
    rw[G]at e;cases e
    have d':Data.seq vs.toArray _=Data.dict y A:=d
    cases d'
  have i:∀{b:Ac} {m:Ae->O Aa},c.heap.Ns b m->(Ii c.heap H).Ns b m:=λ{b m} ⟨o,y,A,e,d,r⟩=>⟨o,y,A,base_of e (S e d),d,r⟩
  have B:K.In (Ii c.heap H):=λb o e=>base_of (W b o e) (by
   cases q:H b with
   |none=>rfl
   |some u=>
    have Q:b=a:=hA b (by rw[q];simp)
    subst Q
    rw[hK (by rw[q];simp)]at e;cases e)
  have hM:Mod K mg (Ii c.heap H):=⟨B,i l,⟨I,i f,L⟩,let⟨mc,h1,h2⟩:=p;⟨mc,i h1,h2⟩⟩
  have e0:C2 P w K mg (Ii c.heap H) callerA [] c H:=⟨rfl,hM,λb o e=>kk e,Nat.le_of_eq (ki _ _),trivial,λb f=>absurd (show b∈([]:U Ac)from f) (by simp),hok,.of_eq hg⟩
  refine codeAny_mono ((F _ B (i l)).run callerA [] c H ⟨[.ref a],[]⟩ [.ref a] [.ref a] _ _ hr e0 (j c (.ref a)) (.cons rfl .nil) (M H hO hS)) λr g h=>?_
  cases r with
  |error e=>exact(N H e g h).elim
  |ok fl=>
   cases fl with
   |next=>exact Bo h
   |brk=>exact Bo h
   |cont=>exact Bo h
   |ret u=>
    obtain⟨v,H',os,bare,un,C,r',q⟩:=h
    have q':v=.bl yB:=q
    subst q'
    obtain rfl:u=Value.bool yB:=r'
    refine⟨rfl,OldK.of_keep λb o e=>?_,os,bare⟩
    cases q:H b with
    |none=>exact un.keep b o e q (by intro z;exact absurd (show b∈([]:U Ac)from z) (by simp)) (by simp)
    |some u=>
     rcases hO b with z|⟨ob,xs,z⟩
     ·rw[q]at z;cases z
     ·have z2:=un.frzs b ob _ z
      obtain⟨e1,_⟩:=hok b _ z
      obtain⟨e2,_⟩:=C b _ z2
      rw[e]at e1;cases e1
      exact e2
 cases T:K.lookup a with
 |some o=>
  have e:=W a o T
  rw[G]at e
  cases e
  refine core (λ_=>yA) (λ_=>.inl rfl) (.inr ⟨_,vs.toArray,_,T,rfl,rfl,rfl,by rw[Bx,t];exact hl,by simpa using rv⟩) (λb u z=>by have E:(yA:O HO)=Z u:=z;cases E) (λb z=>absurd rfl z) λz=>absurd rfl z
 |none=>
  refine core (λb=>if b=a then Z (.frz {cls:=.type "list",data:=.seq vs.toArray} (.lst (ns.map V.int)))else yA) (λb=>?_) (.inl (.inr ⟨{cls:=.type "list",data:=.seq vs.toArray},if_pos rfl⟩)) (λb u z=>?_) (λb z=>?_) λ_=>T
  ·by_cases f:b=a
   ·exact .inr ⟨_,_,if_pos f⟩
   ·exact .inl (if_neg f)
  ·by_cases f:b=a
   ·have E:=(if_pos f).symm.trans z
    cases E
    subst f
    exact⟨G,by rw[Bd];exact hl,vs,_,rv,G⟩
   ·have E:=(if_neg f).symm.trans z
    cases E
  ·by_cases f:b=a
   ·exact f
   ·exact absurd (if_neg f) z
def walk_of{l:PySem.W.OpenLaw}{n k:Nat}{q:A4}{i:U Ae}{P:(Ae->O Aa)->Am->Prop}{E:Aj->Am->Prop}{d:DefRec}{K:Params->Av}{CX:Aj->ES}{sp:Aj->Sp}{x:Ae} (L:l.most=Z n) (t:n<=AB) (y:d.params.defaults=[]) (M:AZ k callerA) (N:∀(w:Aj) (h:Am),E w h->(K w.params).In h) (F:∀(w:Aj) (mg:Ae->O Aa) (r:Ac) (h:Am),(K w.params).In h->h.Ns De mg->mg d.name=Z (.ref r)->∃fd:A2,(∀(s:Ab) (u:Aa),BindsTo s fd ⟨[u],[]⟩ [(x,u)])/\∀base:Am,(K w.params).In base->base.Ns De mg->Aw l.prog w (K w.params) mg base (CX w) k r fd [x] (sp w)) (z:∀(w:Aj) (H:Hp) (a:Ac) (ns:U Int),ns.length<=n->Tc H->BM (K w.params) H a (ns.map V.int)->sp w [.ref a] H (λv _=>v=.bl yB) λ_ _ _=>False) (A:∀(w:Aj) (H:Hp) (s:Ab) (e:Aa) (B:Ab),CX w [] H s (λ_ _ _=>False) e B->False):PySem.W.WalkO q i P E l.row.toRowW d [] (λf vs=>PySem.call f vs):=by
 refine Att.attach_call L y λw s₀ m mg mb r o pm cd R a vs ns G Y ho hd Q C p j c S=>?_;have I:=N w _ Y;obtain⟨fd,hb,hF⟩:=F w mg r _ I G.T.g C;exact m4 I G.T.g G.T.b G.T.builtins G.T.nolimit S p j (BX c t) M hF hb (λH hO hS=>z w H a ns c hO hS) λH e B=>A w H m e B
def Js(s:Ar)(j:Nat):Ar:=match s with
 |.ClassDef _ _ _ a _ _ _ _ _ _ _=>a.getD j (.Pass ⟨0,0,0,0⟩)
 |_=>.Pass ⟨0,0,0,0⟩
def HG(s:Ar):Arguments:=match s with
 |.FunctionDef _ a _ _ _ _ _ _ _ _=>a
 |_=>{posonlyargs:=[],args:=[],vararg:=yA,kwonlyargs:=[],kw_defaults:=[],kwarg:=yA,defaults:=[]}
def DV(s:Ar):U Ar:=match s with
 |.FunctionDef _ _ b _ _ _ _ _ _ _=>b
 |_=>[]
def Zk(s:Ar):Scope:=match s with
 |.FunctionDef _ _ _ _ _ _ a _ _ _=>a
 |_=>{kind:=.function,names:=[],isGenerator:=yC,isCoroutine:=yC}
abbrev A3:ES:=λ_ _ _ _ _ _=>False
abbrev E0:XK:=λ_ _ _=>False
def Fa:FW A3 X E0:=λ_ _ _ _ _ _ _ h=>h.elim
structure Ix(K:Av)(x qual:Ae)(st:Ar)(f:Ac)(fd:A2):Prop where
 ex:∃(oc:Aa) (od:Option Ac) (kV doc pm:Aa) (an:Option Ac) (cdv ct:Aa) (osl:Array (Option Aa)),
  fd=Jr x qual (HG st) (DV st) (Zk st) .none kV doc pm an cdv ct/\K.lookup f=Z ⟨oc,od,.func fd,osl⟩/\PySem.W.codeIn K cdv qual=yB
 kp:Kq K (.ref f)=yB
section
variable{P:A4}{w:Aj}{K:Av}{mg:Ae->O Aa}{base:Am}
def Ix.ok{x a:Ae}{st:Ar}{f:Ac}{fd:A2}{N d:U Ae}{k:Nat}(F:Ix K x a st f fd)(S:Zw N d (Zk st))(len:∀vs H Q E,sp vs H Q E->vs.length=d.length) (c:∀(b:Aa) (A:Ah) (outer:U Env) (s:Ab) (H:Hp) (vs:U V) (Q:VK) (E:XK),AZ k (A.deeper (By a (Zk st) s.heap.objs.size f b))->sp vs H Q E->∃t,EE (FY A3 P w K mg base N a (Zk st) f b A outer s H E).nox (DV st) t/\t {nx:=λ_ H'=>Q .non H',rt:=Q} (FX N vs) H):Aw P w K mg base A3 (k+1) f fd d sp:=by
 obtain⟨n,o,kV,i,p,r,b,ct,j,rfl,l,e⟩:=F.ex;refine mo l e S len λA outer s H vs Q E m g=>?_;obtain⟨t,h,q⟩:=c b A outer s H vs Q E m g;exact⟨t,h.nox,q⟩
def YW{x a:Ae}{st:Ar}{f:Ac}{i:Aa}{j g:O Ac}{e:Array (O Aa)}{kV d h b ct:Aa}(l:K.lookup f=Z ⟨i,j,.func (Jr x a (HG st) (DV st) (Zk st) .none kV d h g b ct),e⟩) (c:PySem.W.codeIn K b a=yB) (k:Kq K (.ref f)=yB):Ix K x a st f (Jr x a (HG st) (DV st) (Zk st) .none kV d h g b ct):=⟨⟨i,j,kV,d,h,g,b,ct,e,rfl,l,c⟩,k⟩
end
section
def pv(i:Nat){x:Ae}(b:X.N[i]?=Z x:=by rfl)(c:autoParam (Kk X.env.scope x) yc)(hd:(x==("__debug__":Ae))=yC:=by ext) (a:(x==("__classdict__":Ae))=yC:=by ext):PE X (.Name x pos) (On i):=Mr b c hd a
end
def Ai(H H':Hp):Prop:=∀b o,H b=Z o->H' b=Z o
def Ai.refl(H:Hp):Ai H H:=λ_ _ h=>h
def Ai.trans{d e:Hp}(a:Ai H d)(b:Ai d e):Ai H e:=λc o h=>b c o<|a c o h
def Ai.free(e:Ai H H')(h:H' l=Option.none):H l=Option.none:=by
 cases q:H l with|none=>rfl|some o=>
  simp[e l o q]at h
def Ai.seq{K:Av}{xs:U V}(e:Ai H H')(h:BM K H a xs):BM K H' a xs:=by
 rcases h with(h|⟨o,h⟩)|h
 ·exact .inl<|.inl<|e _ _ h
 ·exact .inl<|.inr ⟨o,e _ _ h⟩
 ·exact .inr h
structure NV(X:Cx)(i:Nat)(x:Ae):Prop where
 n:X.N[i]?=Z x
 v:Kk X.env.scope x
 d:(x==("__debug__":Ae))=yC
 c:(x==("__classdict__":Ae))=yC
def CG{i:Nat}{x:Ae}(n:X.N[i]?=Z x:=by rfl)(v:autoParam (Kk X.env.scope x) yc)(d:(x==("__debug__":Ae))=yC:=by ext)(c:(x==("__classdict__":Ae))=yC:=by ext):NV X i x:=⟨n,v,d,c⟩
def Eg(h:NV X i x):PE X (.Name x pos) (On i):=Mr h.n h.v h.d h.c
noncomputable def EU(env:Env):U (Ae×Fx)->U (Ae×Ac)->U (Ae×Ac)
 |[],a=>a
 |(n,k)::r,a=>if k=Fy then EU env r ((n,(env.cells.lookup n).getD 0)::a)else EU env r a
def YX(h:∀x∈scope.names,x.2=.free->∃c,env.cells.lookup x.1=Z c):closureFor scope env=AH (EU env scope.names []):=by
 have all:∀(l:U (Ae×Fx)) (b:U (Ae×Ac)),(∀x∈l,x.2=.free->∃c,env.cells.lookup x.1=Z c) ->
   (forIn l b (λ(x:Ae×Fx) (b:U (Ae×Ac))=>if(x.2==Fy)=yB then(do let a <- cellOf env x.1;AH<|ForInStep.yield<|(x.1,a)::b)else AH (ForInStep.yield b)):Sem (U<|Ae×Ac))=AH (EU env l b):=by
  intro l;induction l with|nil=>intro b _;rfl|cons x l j=>
   intro b f;obtain⟨n,k⟩:=x;rw[List.forIn_cons];have g:=λb=>j b<|λy m=>f y<|A9 _ m;by_cases d:k=.free
   ·subst d;obtain⟨c,i⟩:=f (n,.free) A8 rfl;have e:cellOf env n=AH c:=by unfold cellOf;erw[i]
    erw[beq_self_eq_true,if_true,e,pure_bind,g,EU,i,Option.getD_some]
   ·have o:(k==Fy)=yC:=by simpa using d
    erw[o,EG,if_false,pure_bind,g,EU,d]
 have:=all scope.names [] h;erw[closureFor];rw[<- bind_pure (AH (EU env scope.names []):Sem _),<- this]
theorem Td{env:Env}:∀(l:U (Ae×Fx))(a:U (Ae×Ac)),(∀x∈l,x.2=.free->∃c,env.cells.lookup x.1=Z c)->(∀p∈a,env.cells.lookup p.1=Z p.2)->∀p∈EU env l a,env.cells.lookup p.1=Z p.2
 |[],a,_,h=>h
 |(n,k)::r,a,d,h=>by
  have f:∀x∈r,x.2=.free->∃c,env.cells.lookup x.1=Z c:=λy i=>d y<|A9 _ i;by_cases g:k=.free
  ·subst g;obtain⟨c,j⟩:=d (n,.free) A8 rfl;erw[EU,if_true];refine Td r _ f λp b=>?_;rcases Bh.mp b with e|b
   ·subst e;erw[j,Option.getD_some]
   ·exact h p b
  ·erw[EU,g,if_false];exact Td r a f h
theorem Te{env:Env}:∀(l:U (Ae×Fx))(a:U (Ae×Ac))(x:Ae),((x,Fy)∈l\/∃c,(x,c)∈a)->∃c,(x,c)∈EU env l a
 |[],a,x,h=>by
  rcases h with h|h
  ·cases h
  ·exact h
 |(n,k)::r,a,x,h=>by
  by_cases b:k=.free
  ·subst b;erw[EU,if_true];refine Te r _ x ?_;rcases h with h|⟨c,h⟩
   ·rcases Bh.mp h with e|h
    ·cases e;exact .inr ⟨_,A8⟩
    ·exact .inl h
   ·exact .inr ⟨c,A9 _ h⟩
  ·erw[EU,b,if_false];refine Te r a x ?_;rcases h with h|h
   ·rcases Bh.mp h with e|h
    ·cases e;exact absurd rfl b
    ·exact .inl h
   ·exact .inr h
theorem YY{a:Type}:∀{l:U (Ae×a)}{x:Ae}{c:a},(x,c)∈l->∃d,l.lookup x=Z d
 |[],_,_,h=>by cases h
 |(n,b)::r,x,c,h=>by
  rw[HH];cases e:x==n with|true=>exact⟨b,rfl⟩|false=>
   rcases Bh.mp h with z|h
   ·cases z;simp at e
   ·exact YY h
structure G4(own outs:List Ae)(sc osc:Scope):Prop where
 kind:sc.kind=.function
 nocell:∀x∈sc.names,x.2≠.cell
 free:∀x∈sc.names,x.2=.free->osc.names.lookup x.1=Z .cell\/osc.names.lookup x.1=Z .free
 loc:∀x∈sc.names,x.2=.local->sc.names.lookup x.1=Z .local
 out:∀x∈outs,sc.names.lookup x=Z .free
 nd:(own++outs).Nodup
theorem Dg{env:Env}:∀{names:U (Ae×Fx)}{x:Ae},names.lookup x=Z .free->((names.map λ(n,k)=>if(k==Fy&&env.scope.kind==.function&&env.kindOf n==Z .cell)then(n,Jt)else(n,k)).lookup x=Z .cell \/(names.map λ(n,k)=>if(k==Fy&&env.scope.kind==.function&&env.kindOf n==Z .cell)then(n,Jt)else(n,k)).lookup x=Z .free)
 |[],_,h=>by simp at h
 |(n,k)::r,x,h=>by
  have b:=@Dg env r x;rw[AI];by_cases c:(k==Fy&&env.scope.kind==.function&&env.kindOf n==Z .cell)=yB
  ·rw[show(match((n,k):Ae×Fx)with|(n,k)=>if(k==Fy&&env.scope.kind==.function&&env.kindOf n==Z .cell)then(n,Jt)else(n,k))=(n,Jt)from if_pos c];rw[HH]at h ⊢;cases a:x==n with
   |true=>exact .inl rfl
   |false=>rw[a]at h;exact b h
  ·rw[show(match((n,k):Ae×Fx)with|(n,k)=>if(k==Fy&&env.scope.kind==.function&&env.kindOf n==Z .cell)then(n,Jt)else(n,k))=(n,k)from if_neg c];rw[HH]at h ⊢;cases a:x==n with
   |true=>rw[a]at h;exact .inr h
   |false=>rw[a]at h;exact b h
theorem Cs{env:Env}:∀{names:U (Ae×Fx)}{x:Ae}{k:Fx},k=.cell\/k=.free->(∀y∈names,y.2≠.cell)->(names.map λ(n,k)=>if(k==Fy&&env.scope.kind==.function&&env.kindOf n==Z .cell)then(n,Jt)else(n,k)).lookup x=Z k->(x,Fy)∈names
 |[],_,_,_,_,h=>by simp at h
 |(n,j)::r,x,k,a,f,h=>by
  have g:=@Cs env r x k a λy i=>f y<|A9 _ i;rw[AI]at h;by_cases c:(j==Fy&&env.scope.kind==.function&&env.kindOf n==Z .cell)=yB
  ·rw[show(match((n,j):Ae×Fx)with|(n,k)=>if(k==Fy&&env.scope.kind==.function&&env.kindOf n==Z .cell)then(n,Jt)else(n,k))=(n,Jt)from if_pos c]at h;rw[HH]at h;cases b:x==n with
   |true=>
    have e:x=n:=by simpa using b
    have d:j=.free:=by
     erw[Dp,beq_iff_eq]at c;exact c.1.1
    subst e d;exact A8
   |false=>rw[b]at h;exact A9 _<|g h
  ·rw[show(match((n,j):Ae×Fx)with|(n,k)=>if(k==Fy&&env.scope.kind==.function&&env.kindOf n==Z .cell)then(n,Jt)else(n,k))=(n,j)from if_neg c]at h;rw[HH]at h;cases b:x==n with
   |true=>
    rw[b]at h;have e:x=n:=by simpa using b
    have d:=FT h;subst e d;rcases a with a|a
    ·exact absurd a<|f _ A8
    ·subst a;exact A8
   |false=>rw[b]at h;exact A9 _<|g h
def DW(X:Cx)(own a:U Ae)(scope:Scope)(C:Ac)(c:Ab)(d:Hp)(e:U Ac)(b:U (Ac×AK)):Cx where
 prog:=X.prog
 w:=X.w
 K:=X.K
 mg:=X.mg
 base:=X.base
 A:=X.A
 N:=own++a
 s₀:=c
 H₀:=d
 env:=compEnvC scope (EU X.env scope.names []) C X.env
 outer:=X.stack
 stack:=X.stack
 ex:=e
 fn:=λ_=>yC
 calm:=X.calm
 pn:=X.pn++b
 xe:=λ_ _=>False
def G5(X:Cx)(b:U Expr)(e:TT):Prop:=
 ∀(a:U (Ac×AK)) (s:Ab) (d:St) (H:Hp) (Q:Bool->Hp->Prop),Inv X a d H s->e d H Q ->
  wpAny (Ag X.prog X.w) X.A (forIn b yB λc r=>if r=yB then do let ok <- isTrue c X.env (Ax c X.env);AH (ForInStep.yield ok)else AH (ForInStep.yield r)) (TP X a d Q) X.xe s
def Tf:TT:=λ_ H Q=>Q yB H
def Tg:G5 X [] Tf:=λ_ _ _ H _ I h=>wpAny_tests_nil ⟨H,I,h⟩
def m5(h:PT X c b):G5 X [c] b:=λa s d H Q I q=>wpAny_tests_one<|h a s d H Q I q
def Fc(k:Nat)(oix:U Nat)(σ:St):St:=Do k yA++oix.map λj=>(σ[j]?).join
def Th(k:Nat)(oix:U Nat)(g:TG)(l:TT)(m:TE)(I:It)(σ:St)(H:Hp)(Q:VK):Prop:=
 ∃(n:Nat) (W:Nat->U V->Hp->Prop),W 0 [] H/\∀i c d,W i c d ->
  (I.stop i d/\c.length<=AB/\∀p,d p=yA->Q (.ref p) (AM d p (.lst c))) \/
  (I.go i d/\i<n/\c.length<AB/\∃N:U V->Hp->Prop,(∀e f,N e f->W (i+1) e f)/\∀x h,I.yld i d x h->g x (Fc k oix σ) h λa o=>a.drop k=(Fc k oix σ).drop k /\
   l a o λb j=>if b=yB then m a j λy q=>N (c++[y]) q else N c j)
def MB(k:Nat)(oix:U Nat)(wi:TI)(g:TG)(b:TT)(c:TE):TE:=λa H Q=>wi a H λq d=>Th k oix g b c q a d Q
def Fz(a:U Aa)(n:Nat):AK:={cls:=.type "list",data:=.seq a.toArray n}
def Cz.track{o:HO}(x:Cz P w H h)(d:H a=yA)(new:Bc P w (AM H a o) h a o):Cz P w (AM H a o) h:=λb u e=>by
 by_cases f:b=a
 ·subst f;rw[D4]at e;cases e;exact new
 ·rw[ZA f]at e;exact(x b u e).stay (λc v _ q=>q) (λc q=>by rw[ZA<|FR q d];exact q) λc g q=>by rw[ZA<|FR q d];exact q
theorem YZ{a:Ab}{P:It} {Q:VK} (S:G4 own I scope X.env.scope) (hox:oix.map (λj=>X.N[j]?)=I.map Z) (hc:X.calm=yB) (hg:∀C a H2 M f,PG (DW X own I scope C a H2 M f) tg g) (ht:∀C a H2 M f,G5 (DW X own I scope C a H2 M f) ifs tt) (he:∀C a H2 M f,PE (DW X own I scope C a H2 M f) elt te) (B:Inv X f σ H2 a) (T:HB X.prog X.w X.K tg P M it tn) (st:tn 0 a.heap) (f2:∀b∈M,F8 X f H2 b) (h:Th own.length oix g tt te P σ H2 Q) (hRR:∀(C:Ac) (zA:Ab) (m:Ae->O Aa) (H':Hp),zA.heap.Ns C m->Inv X f σ H' zA->H' C=yA->C≠X.env.locals->X.s₀.heap.objs.size<=C->(∀x c,X.env.cells.lookup x=Z c->c≠C)->(∀p∈X.pn++f,p.1≠C)->Q (.ref a.heap.objs.size) H'->RR (.ref a.heap.objs.size) C (.ok .next) zA):wpAny (Ag X.prog X.w) X.A (newList []) (λacc s₃=>wpAny (Ag X.prog X.w) X.A (newFunctionEnv scope X.env.globals (EU X.env scope.names []) [] X.env.qual yA .none (Z X.env)) (λcenv s₄=>codeAny (Ag X.prog X.w) X.A (.compStart (.ListComp elt [⟨tg,iter,ifs,0⟩] scope pos) 0 (.ref it) acc {cenv with scope:=relabel scope X.env}) (RR acc cenv.locals) s₄) E s₃) E a:=by
 obtain⟨n,W,w0,turn⟩:=h
 refine HF (wpAny_newFunctionEnv S.nocell (by intro y hy;simp at hy) (λh₁ R L=>?_) S.kind)
 dsimp only at R L ⊢
 generalize hP:a.heap.push {cls:=.type "list",dict:=yA,data:=.seq ([]:U Aa).toArray}=t at R L ⊢
 have hC:t.objs.size=a.heap.objs.size+1:=by rw[<- hP,Io]
 generalize hCC:t.objs.size=C at R L hC ⊢
 have hDC:a.heap.objs.size≠C:=by rw[hC];exact CD (Nat.lt_succ_self _)
 have H:a.heap.objs.size<C:=by rw[hC];exact Nat.lt_succ_self _
 have old:∀b o,a.heap.get? b=Z o->h₁.get? b=Z o:=λb o e=>
  L.extBut b o (CD (Ju (BC e) H)) (BG _ (hP ▸ BG _ e))
 have hacc:h₁.get? a.heap.objs.size=Z (Fz [] 0):=L.extBut _ _ hDC (BG _ (hP ▸ Cm _ rfl))
 have hcells:∀x∈scope.names,x.2=.free->∃c,X.env.cells.lookup x.1=Z c:=λx hx hf=>B.ok.has x.1 (S.free x hx hf)
 have clX:∀x c,(EU X.env scope.names []).lookup x=Z c->X.env.cells.lookup x=Z c:=λx c e=>
  Td scope.names [] hcells (λp t=>by cases t) (x,c) (Ll e)
 have clHas:∀x,(x,Fy)∈scope.names->∃c,(EU X.env scope.names []).lookup x=Z c:=λx hx=>by
  obtain⟨c,hc⟩:=Te (env:=X.env) scope.names [] x (.inl hx)
  exact YY hc
 have fpLt:∀b∈M,b<a.heap.objs.size:=λb G=>by
  obtain⟨o,e,_⟩:=T.obj 0 _ st b G
  exact BC e
 have cLt:∀x c,X.env.cells.lookup x=Z c->c<a.heap.objs.size:=λx c e=>by
  obtain⟨v,q⟩:=B.cell x c e
  exact q.lt
 have fpStk:∀b∈M,b∉EC X.stack:=λb G z=>by
  rcases Bh.mp (B.stkSub b z)with e|z
  ·exact(f2 b G).2.1 e
  ·exact(f2 b G).2.2.1 z
 have pinLt:∀p∈X.pn++f,p.1<a.heap.objs.size:=λp t=>BC (B.pin p t).1
 have pinStk:∀p∈X.pn++f,p.1∉EC X.stack:=λp t z=>by
  rcases Bh.mp (B.stkSub _ z)with e|z
  ·exact(B.pin p t).2.2.1 e
  ·exact(B.pin p t).2.2.2.1 z
 have fsLt:∀b∈EC X.stack,b<a.heap.objs.size:=λb G=>by
  obtain⟨_,o,ho,_⟩:=B.stack.mem G
  exact BC ho
 let Y:Cx:=DW X own I scope C a H2 M f
 have okY:Y.Ok:={
  mod:=B.ok.mod
  kind:=S.kind
  glob:=B.ok.glob
  blt:=B.ok.blt
  above:=Nat.le_of_lt H
  inj:=λx y c h1 h2=>B.ok.inj x y c (clX x c h1) (clX y c h2)
  has:=λx hx=>by
   refine clHas x ?_
   rcases hx with hx|hx
   ·exact Cs (env:=X.env) (.inl rfl) S.nocell hx
   ·exact Cs (env:=X.env) (.inr rfl) S.nocell hx
  cab:=λx c hf _=>absurd (show yC=yB from hf) Hz
  hd:=B.ok.hd
  frames:=B.ok.frames
  stk:=.inl rfl
  exf:=λb G=>⟨CD (Ju (fpLt b G) H),λx c e=>(f2 b G).2.2.2.2.1 x c (clX x c e)⟩
  bs:=B.bs
  bsz:=BX B.ok.bsz B.sz
  noex:=λb o e G=>by
   rcases(f2 b G).2.2.2.1 with z|z
   ·exact B.ok.noex b o e z
   ·exact absurd (CC (BC e) (BX B.ok.bsz z)) (Gx _)
  exfs:=fpStk
  funs:=B.stack
  frf:=B.stkFree}
 have hCH:∀H':Hp,Cz X.prog X.w H' h₁->True:=λ_ _=>trivial
 have lenS:(Fc own.length oix σ).length=Y.N.length:=by
  have e:=congrArg List.length hox
  erw[Bd]at e
  show(Do own.length yA++oix.map _).length=(own++I).length
  rw[GA,GA,Lm,Bd,e]
 have I4:Inv Y [(a.heap.objs.size,Fz [] 0)] (Fc own.length oix σ) H2 {a with heap:=h₁}:={
  ok:=okY
  os:=rfl
  bare:=B.bare
  base:=Un.kept old
  loc:=by
   refine⟨_,R,λi x v e1 e2 e3=>?_⟩
   have hi:own.length<=i:=by
    apply Nat.le_of_not_lt
    intro hlt
    unfold Fc at e2
    rw[SN (by rw[Lm];exact hlt),Kr]at e2
    rw[if_pos hlt]at e2
    cases e2
   unfold Fc at e2
   rw[SM (by rw[Lm];exact hi),Lm,DL]at e2
   have e1':I[i-own.length]?=Z x:=by
    have e1:(own++I)[i]?=Z x:=e1
    rwa[SM hi]at e1
   cases ej:oix[i-own.length]? with
   |none=>rw[ej]at e2;cases e2
   |some j=>
    rw[ej]at e2
    have e2':(σ[j]?).join=Z v:=FT e2
    have e2'':σ[j]?=Z (Z v):=by
     cases eσ:σ[j]? with
     |none=>rw[eσ]at e2';cases e2'
     |some z=>rw[eσ]at e2';exact congrArg Z e2'
    have eN:X.N[j]?=Z x:=by
     have q:=congrArg (λl=>l[i-own.length]?) hox
     erw[DL,ej,e1',Iy]at q
     exact FT q
    have hfree:scope.names.lookup x=Z .free:=S.out x (Ip e1')
    have hmem:(x,Fy)∈scope.names:=Ll hfree
    have hk:X.env.scope.names.lookup x=Z .cell\/X.env.scope.names.lookup x=Z .free:=S.free (x,.free) hmem rfl
    obtain⟨m,hn,hl⟩:=B.loc
    obtain⟨u,r,l⟩:=hl j x v eN e2'' (by rcases hk with hk|hk;exact .inr (.inl hk);exact .inr (.inr hk))
    refine⟨u,r,.inr ⟨Dg (env:=X.env) hfree,?_⟩⟩
    obtain⟨c,ec⟩:=clHas x hmem
    refine⟨c,ec,?_⟩
    have ec':=clX x c ec
    rcases l with⟨k,_⟩|⟨_,c',e',o,ho,hd⟩
    ·rcases hk with hk|hk
     ·exact absurd (k.symm.trans hk) (by ext)
     ·exact absurd (k.symm.trans hk) (by ext)
    ·rw[ec']at e'
     cases e'
     exact⟨o,old _ _ ho,hd⟩
  cell:=λx c e=>by
   obtain⟨v,o,ho,hd⟩:=B.cell x c (clX x c e)
   exact⟨v,o,old _ _ ho,hd⟩
  free:=B.hok.fresh (Nat.le_of_lt H)
  freeC:=λx c e=>B.freeC x c (clX x c e)
  pin:=λp t=>by
   rcases Dk.mp t with t|t
   ·obtain⟨e,n,_,_,d⟩:=B.pin p t
    exact⟨old _ _ e,n,CD (Ju (pinLt p t) H),pinStk p t,d⟩
   ·have e:p=(a.heap.objs.size,Fz [] 0):=by simpa using t
    subst e
    refine⟨hacc,B.hok.fresh (Bl _),hDC,λz=>absurd (fsLt _ z) (Gx _),λv z=>?_⟩
    have z':Data.seq _ _=Data.cell v:=z
    cases z'
  hok:=B.hok.kept old
  len:=lenS}
 have fpY:∀{H':Hp} {s:U Aa} {k:Nat},(∀b∈M,H' b=yA)->∀b∈M,F8 Y [(a.heap.objs.size,Fz s k)] H' b:=λ{H' s k} hn b G=>by
  refine⟨hn b G,CD (Ju (fpLt b G) H),fpStk b G,.inl G,λx c e=>(f2 b G).2.2.2.2.1 x c (clX x c e),λp t=>?_⟩
  rcases Dk.mp t with t|t
  ·exact(f2 b G).2.2.2.2.2 p t
  ·have e:p=(a.heap.objs.size,Fz s k):=by simpa using t
   subst e
   exact Im (fpLt b G)
 have fin:∀(i:Nat) (ys:U V) (s:U Aa) (k:Nat) (H':Hp) (zA:Ab),Inv Y [(a.heap.objs.size,Fz s k)] (Fc own.length oix σ) H' zA->As ys s->ys.length<=AB ->
   Q (.ref a.heap.objs.size) (AM H' a.heap.objs.size (.lst ys))->RR (.ref a.heap.objs.size) C (.ok .next) zA:=λi ys s k H' zA I' rv hz q=>by
  obtain⟨m,hn,_⟩:=I'.loc
  obtain⟨eD,nD,_⟩:=I'.pin (a.heap.objs.size,Fz s k) (Df _ (by simp))
  have un:Un (EC X.stack) M H2 H' a.heap zA.heap:=I'.base
  have neD:∀b o,a.heap.get? b=Z o->b≠a.heap.objs.size:=λb o e=>CD (BC e)
  have neH:∀b o,H2 b=Z o->b≠a.heap.objs.size:=λb o e=>CD (B.hok.lt e)
  have un':Un (EC X.stack) M H2 (AM H' a.heap.objs.size (.lst ys)) a.heap zA.heap:=
   ⟨un.keep,un.slot,λb o e n hx=>by rw[ZA (neD b o e)];exact un.free b o e n hx,un.there,λb xs e=>by rw[ZA (neH b _ e)];exact un.tups b xs e,
    λb o u e=>by rw[ZA (neH b _ e)];exact un.frzs b o u e,λb ps e=>by rw[ZA (neH b _ e)];exact un.tbls b ps e⟩
  have hok':Cz X.prog X.w (AM H' a.heap.objs.size (.lst ys)) zA.heap:=Cz.track I'.hok nD ⟨hz,s,k,rv,eD⟩
  have IX:Inv X f σ (AM H' a.heap.objs.size (.lst ys)) zA:=B.call' (ch:=M) I'.os un' hok' I'.bare λb G=>⟨(f2 b G).2.2.2.1,(f2 b G).2.1,(f2 b G).2.2.2.2.1,(f2 b G).2.2.2.2.2⟩
  refine hRR C zA m _ hn IX ?_ ?_ ?_ ?_ ?_ q
  ·rw[ZA (CT hDC)];exact I'.free
  ·exact Im (Ju B.lt H)
  ·exact BX B.sz (Nat.le_of_lt H)
  ·exact λx c e=>CD (Ju (cLt x c e) H)
  ·exact λp t=>CD (Ju (pinLt p t) H)
 have loop:codeAny (Ag X.prog X.w) X.A (.compLoop (.ListComp elt [⟨tg,iter,ifs,0⟩] scope pos) 0 (.ref it) (.ref a.heap.objs.size) Y.env) (RR (.ref a.heap.objs.size) C) {a with heap:=h₁}:=by
  refine codeAny_loop rfl (λk zA=>∃(i:Nat) (ys:U V) (s:U Aa) (c:Nat) (H':Hp),Inv Y [(a.heap.objs.size,Fz s c)] (Fc own.length oix σ) H' zA/\As ys s/\tn i zA.heap/\(∀b∈M,H' b=yA)/\W i ys H'/\k=n-i) (λk zA hI=>?_) n
   ⟨0,[],[],0,H2,I4,.nil,T.keep 0 _ _ st λb _ o e=>old b o e,λb G=>(f2 b G).1,w0,rfl⟩
  show wpAny _ X.A ((compTurn (.ListComp elt [⟨tg,iter,ifs,0⟩] scope pos) 0 (.ref it) (.ref a.heap.objs.size) Y.env).onRaise (λx=>do noteFrame x Y.env;theTreesLotGoes x)) _ _ zA
  refine wpAny_noted ?_
  rw[compTurn_list]
  obtain⟨i,ys,s,c,H',I',rv,st',fr',w',ek⟩:=hI
  rcases turn i ys H' w' with⟨stop,hz,q⟩|⟨go,hin,hz,N,hN,step⟩
  ·refine Al (wpAny_standAt (Al (A1 (T.done Y rfl rfl rfl hc i _ zA _ H' _ I' (fpY fr') st' stop) λr s1 ⟨hr,I1⟩=>?_)))
   subst hr
   obtain⟨_,nD,_⟩:=I1.pin (a.heap.objs.size,Fz s c) (Df _ (by simp))
   exact AO (fin i ys s c H' s1 I1 rv hz (q _ nD))
  ·refine Al (wpAny_standAt (Al (A1 (T.item Y rfl rfl rfl hc i _ zA _ H' _ I' (fpY fr') st' go) λr s1 ⟨u,hr,h1⟩=>?_)))
   subst hr
   refine Al (A1 h1 λ_ s5 ⟨x,H5,I5,r5,y5,st5,fr5⟩=>?_)
   have I5':=I5.pinned (fpY fr5) (T.obj _ _ st5)
   refine Al (wpAny_noRaise (A1 (hg C a H2 M f _ s5 _ H5 x u _ I5' r5 (step x H5 y5)) λ_ s6 ⟨σ6,H6,I6,dr6,q6⟩=>?_))
   refine Al (wpAny_noRaise (A1 (ht C a H2 M f _ s6 σ6 H6 _ I6 q6) λok s7 ⟨H7,I7,q7⟩=>?_))
   have back:∀{H8:Hp} {s8:Ab} {its8:U Aa} {c8:Nat},Inv Y ([(a.heap.objs.size,Fz its8 c8)]++Km M s5.heap) σ6 H8 s8 ->
     Inv Y [(a.heap.objs.size,Fz its8 c8)] (Fc own.length oix σ) H8 s8/\tn (i+1) s8.heap/\∀b∈M,H8 b=yA:=λ{H8 s8 its8 c8} I8=>by
    refine⟨I8.unpinned.weak ?_ λj v e=>?_,T.keep _ _ _ st5 λb G o e=>(I8.pin (b,o) (Df _ (Df _ (Ot G e)))).1,λb G=>?_⟩
    ·exact lenS.trans I8.len.symm
    ·have hj:own.length<=j:=by
      apply Nat.le_of_not_lt
      intro hlt
      unfold Fc at e
      rw[SN (by rw[Lm];exact hlt),Kr]at e
      rw[if_pos hlt]at e
      cases e
     have e':=congrArg (λl=>l[j-own.length]?) dr6
     erw[MC]at e'
     rw[show own.length+(j-own.length)=j by lia]at e'
     exact e'.trans e
    ·obtain⟨o,e,d⟩:=T.obj _ _ st5 b G
     exact(I8.pin (b,o) (Df _ (Df _ (Ot G e)))).2.1
   cases ok with
   |false=>
    obtain⟨I8,st8,fr8⟩:=back I7
    exact AO ⟨rfl,n-(i+1),by lia,i+1,ys,s,c,H7,I8,rv,st8,fr8,hN _ _ q7,rfl⟩
   |true=>
    refine Al (Al (wpAny_noRaise (A1 (he C a H2 M f _ s7 σ6 H7 _ I7 q7) λy s8 ⟨z,H8,I8,r8,w8⟩=>?_)))
    obtain⟨eD,nD,neL,nF,dD⟩:=I8.pin (a.heap.objs.size,Fz s c) (Df _ (Gy _ (by simp)))
    have hl:=rv.length
    refine Al (BQ F.slot_list_append ⟨_,eD,rfl⟩ F.entry_list_append (F.args_list_append_2 _ _) (PySem.list_append _ s.toArray c y (by rw[Bx];lia)) ⟨eD,?_⟩)
    obtain⟨n',q⟩:∃n',(s8.heap.update a.heap.objs.size (E8 (·.push y))).get? a.heap.objs.size=Z (Fz (s++[y]) n'):=by
     have q:=PySem.IsL.update eD (·.push y)
     rw[show s.toArray.push y=(s++[y]).toArray by simp]at q
     exact⟨_,q⟩
    have I9:Inv Y (Km M s5.heap) σ6 H8 {s8 with heap:=s8.heap.update a.heap.objs.size (E8 (·.push y))}:=
     (I8.pins_of λp t=>I8.pin p (Df _ (Df _ t))).turned (t':=s8.toks) (it:=a.heap.objs.size) (λb o G e=>(SY _ _ (CT G)).trans e) nD hDC (.inr (Bl _))
      (λx c' e=>CD (cLt x c' (clX x c' e))) λp t=>by
       rcases Dk.mp t with t|t
       ·exact CD (pinLt p t)
       ·exact CD (fpLt _ (Yl t).1)
    have I10:Inv Y ([(a.heap.objs.size,Fz (s++[y]) n')]++Km M s5.heap) σ6 H8 {s8 with heap:=s8.heap.update a.heap.objs.size (E8 (·.push y))}:=I9.pins_of λp t=>by
     rcases Dk.mp t with t|t
     ·have e:p=(a.heap.objs.size,Fz (s++[y]) n'):=by simpa using t
      subst e
      exact⟨q,nD,neL,nF,λv z=>by
       have z':Data.seq _ _=Data.cell v:=z
       cases z'⟩
     ·exact I9.pin p (Df _ t)
    obtain⟨I11,st11,fr11⟩:=back I10
    exact AO (AO ⟨rfl,n-(i+1),by lia,i+1,ys++[z],s++[y],_,H8,I11,rv.append (.cons r8 .nil),st11,fr11,hN _ _ w8,rfl⟩)
 exact codeAny_compStart_list loop (T.self _ 0 _ _ _ (T.keep 0 _ _ st λb _ o e=>old b o e) loop)
section
variable{oix:U Nat}{g:TG}{tt:TT}
def Ti(own c:U Ae)(oix:U Nat)(S:G4 own c scope X.env.scope)(t:oix.map (λj=>X.N[j]?)=c.map Z)(L:X.calm=yB)(M:PI X tg iter wi) (w:∀C l i k a,PG (DW X own c scope C l i k a) tg g) (A:∀C l i k a,G5 (DW X own c scope C l i k a) ifs tt) (Y:∀C l i k a,PE (DW X own c scope C l i k a) elt te) (hs:∀x,FV iter X.env x=AH x:=by intro _;rfl):PE X (.ListComp elt [⟨tg,iter,ifs,0⟩] scope pos) (MB own.length oix wi g tt te):=by
 intro a s z H Q I h;rw[eval_ListComp];refine wpAny_comprehension_free rfl hs (YX λx hx hf=>I.ok.has x.1<|S.free x hx hf) S.kind S.loc (A1 (M a s z H _ I h) λxv B n=>A1 n λitv E p=>?_);obtain⟨it,k,tn,v,i,rfl,I2,T,u,f2,d⟩:=p;refine YZ S t L w A Y I2 T u f2 d ?_;intro C s' m H' hn I' hC hL h0 f r q;exact⟨m,hn,λG y=>⟨.ref _,H',I'.turned (h':=G) (t':=s'.toks) (λb o hb e=>y.extBut b o hb e) hC hL (.inr h0) f r,rfl,q⟩⟩
def OD(own f:U Ae)(oix:U Nat){i:Nat}{x:Ae}{d l:AQ}(S:G4 own f scope X.env.scope)(M:oix.map (λj=>X.N[j]?)=f.map Z)(hc:X.calm=yB) (hN:X.N.Nodup) (K:X.N[i]?=Z x) (hx:X.env.scope.names.lookup x=Z .local) (hi:PI X tg iter wi) (hg:∀C B t u c,PG (DW X own f scope C B t u c) tg g) (ht:∀C B t u c,G5 (DW X own f scope C B t u c) ifs tt) (he:∀C B t u c,PE (DW X own f scope C B t u c) elt te) (P:DB (.ListComp elt [⟨tg,iter,ifs,0⟩] scope pos) (Z (.Name x d)) l.line X.env=AH yB:=by rfl) (hs:∀x,FV iter X.env x=AH x:=by intro _;rfl):PS X (.Assign [.Name x d] (.ListComp elt [⟨tg,iter,ifs,0⟩] scope pos) l) (Kl (MB own.length oix wi g tt te) (Jn i)):=by
 intro c s σ H D I h;rw[exec_Assign_Name_used _ _ _ _ P];refine Al<|wpAny_standAt<|Al ?_;refine Al (wpAny_mono (wpAny_comprehension_free rfl hs (YX λy hy hf=>I.ok.has y.1<|S.free y hy hf) S.kind S.loc
  (A1 (hi c s σ H _ I h) λxv s₁ E=>A1 E λitv n G=>?_)) (λ_ z hq=>AO<|AO hq) λ_ _ e=>e)
 obtain⟨it,u,tn,F,t,rfl,I2,T,Y,f2,p⟩:=G;refine YZ (RR:=λacc C=>compPost (Ag X.prog X.w) X.A X.xe (Z<|assign (.Name x d) X.env) (λ_ z=>SP X c D .next z) acc C) S M hc hg ht he I2 T Y f2 p ?_;intro C z m H' hn I' hC hL h0 k L q;show wpAny _ X.A (assign (.Name x d) X.env<|.ref n.heap.objs.size) _ _ z
 refine wpAny_assign_Name<|X5 (v:=.ref n.heap.objs.size) I' hN K (.inl hx) rfl (λs'' I'' r=>?_) (.inr hx);obtain⟨a,r,ha⟩:=r;have hCa:C≠a:=by
  rcases ha with e|e
  ·rw[e];exact hL
  ·exact CT<|k _ _ e
 exact⟨m,hn.sameBut r hCa,λh' hs'=>⟨_,H',I''.turned (h':=h') (t':=s''.toks) (it:=C) (λb o hb e=>hs'.extBut b o hb e) hC hL (.inr h0) k L,q⟩⟩
end
def Tj(x:Ae):It:=⟨λi _=>i<x.cps.size,λi H v a=>a=H/\∃c,x.cps[i]?=Z c/\v=.str ⟨#[c]⟩,λi _=>x.cps.size<=i⟩
def m6{K:Av}{M:Expr}(it:Ac)(x:Ae)(t:Tok):HB P w K M (Tj x) [it] it (λi h=>h.IsStrIter it "str_ascii_iterator" x t i) where
 mem:=by simp
 obj:=λi h st b g=>by
  have e:b=it:=by simpa using g
  subst e;obtain⟨o,e,c,d⟩:=st;exact⟨o,e,λv z=>by rw[d]at z;cases z⟩
 keep:=λi h l st k=>by
  obtain⟨o,e,r⟩:=st;exact⟨o,k it (by simp) o e,r⟩
 item:=by
  intro X n p q F i f s L H E I m st u;subst n p q;obtain⟨y,A,N,B,C,G⟩:=m it (by simp);have a:i<x.cps.size:=u;refine wpAny_pyNext_ascii_item st (c:=x.cps[i]) (by simp[a]) λl j R=>?_;have Q:Inv X f L H {s with heap:=l,toks:=s.toks+1}:=I.turned (t':=s.toks+1) (λb o g e=>(R.2 b g).trans e) y A B C G;obtain⟨o,e,c,d⟩:=id j;exact⟨_,rfl,Lh (s:={s with heap:=l,toks:=s.toks+1}) e c d (by ext) ⟨.str ⟨#[x.cps[i]]⟩,H,Q,⟨_,rfl⟩,⟨rfl,_,by simp[a],rfl⟩,j,λb g=>(m b g).1⟩⟩
 done:=by
  intro X n p q F i f s L H E I m st u;subst n p q;obtain⟨y,A,N,B,C,G⟩:=m it (by simp);have a:x.cps.size<=i:=u;exact wpAny_pyNext_ascii_end (I.ok.hd F) st (by simp[a]) λl S=>⟨rfl,I.turned (t':=s.toks) (λb o g e=>S b o g e) y A B C G⟩
 self:=λ_ _ _ _ _ st h=>wpAny_pyIter_striter_ascii st h
def m7{K:Av}{M:Expr}(it:Ac)(x:Ae)(t:Tok):HB P w K M (Tj x) [it] it (λi h=>h.IsStrIter it "str_iterator" x t i) where
 mem:=by simp
 obj:=λi h st b g=>by
  have e:b=it:=by simpa using g
  subst e;obtain⟨o,e,c,d⟩:=st;exact⟨o,e,λv z=>by rw[d]at z;cases z⟩
 keep:=λi h l st k=>by
  obtain⟨o,e,r⟩:=st;exact⟨o,k it (by simp) o e,r⟩
 item:=by
  intro X n p q F i f s L H E I m st u;subst n p q;obtain⟨y,A,N,B,C,G⟩:=m it (by simp);have a:i<x.cps.size:=u;refine wpAny_pyNext_wide_item st (c:=x.cps[i]) (by simp[a]) λl j R=>?_;have Q:Inv X f L H {s with heap:=l,toks:=s.toks+1}:=I.turned (t':=s.toks+1) (λb o g e=>(R.2 b g).trans e) y A B C G;obtain⟨o,e,c,d⟩:=id j;exact⟨_,rfl,Lh (s:={s with heap:=l,toks:=s.toks+1}) e c d (by ext) ⟨.str ⟨#[x.cps[i]]⟩,H,Q,⟨_,rfl⟩,⟨rfl,_,by simp[a],rfl⟩,j,λb g=>(m b g).1⟩⟩
 done:=by
  intro X n p q F i f s L H E I m st u;subst n p q;obtain⟨y,A,N,B,C,G⟩:=m it (by simp);have a:x.cps.size<=i:=u;exact wpAny_pyNext_wide_end (I.ok.hd F) st (by simp[a]) λl S=>⟨rfl,I.turned (t':=s.toks) (λb o g e=>S b o g e) y A B C G⟩
 self:=λ_ _ _ _ _ st h=>wpAny_pyIter_striter_wide st h
section
def m8(a:TE):TI:=λb H R=>a b H λv c=>∃x,v=.str x/\R (Tj x) c
def nb(k:PE X l g):PI X tg l (m8 g):=by
 intro a s m H R I h;refine A1 (k a s m H _ I h) λv c ⟨y,f,d,n,q1⟩=>?_;obtain⟨x,rfl,q⟩:=q1;obtain⟨t,rfl⟩:=n;have i:∀{o:AK} (b:Ac),b∈[c.heap.objs.size]->F8 X a f b:=λ{o} b p=>by
  have e:b=c.heap.objs.size:=by simpa using p
  subst e;exact d.fpOk (Bl _)<|d.hok.fresh<|Bl _
 cases j:x.cps.all (·<128)
 ·exact wpAny_pyIter_wide j ⟨c.heap.objs.size,[c.heap.objs.size],_,_,f,rfl,d.kept (t':=c.toks) λb o e=>BG _ e,m7 _ x t,⟨_,Cm _ rfl,rfl,rfl⟩,i (o:=default),q⟩
 ·exact wpAny_pyIter_ascii j ⟨c.heap.objs.size,[c.heap.objs.size],_,_,f,rfl,d.kept (t':=c.toks) λb o e=>BG _ e,m6 _ x t,⟨_,Cm _ rfl,rfl,rfl⟩,i (o:=default),q⟩
end
section
def ng:V->O Int->O Int->Hp->VK->Prop:=λx lo a H Q=>∃z,x=.str z/\z.length<=AB/\Q (.str (Txt.slice z lo a)) H
def ni:Iq X ng:=by
 intro e s o H x v p r lo w y Q I m a n f h;obtain⟨z,rfl,b,q⟩:=h;obtain⟨t,rfl⟩:=m;refine⟨"str",_,PySem.F.slot_str_getitem.lookup,typeIs_str s z t,?_⟩;cases n with
 |none=>
  cases f with
  |none=>exact Tk (l:=yA) (u:=yA) (st:=yA) a rfl (post_val_or_str ⟨BX (Txt.slice_le z _ _) b,λc k=>⟨.str<|Txt.slice z yA yA,H,I.tok _,⟨_,rfl⟩,q⟩⟩)
  |int j d=>exact Tk (l:=yA) (u:=Z (j,d)) (st:=yA) a rfl (post_val_or_str ⟨BX (Txt.slice_le z _ _) b,λc k=>⟨.str<|Txt.slice z yA<|some j,H,I.tok _,⟨_,rfl⟩,q⟩⟩)
 |int i g=>
  cases f with
  |none=>exact Tk (l:=Z (i,g)) (u:=yA) (st:=yA) a rfl (post_val_or_str ⟨BX (Txt.slice_le z _ _) b,λc k=>⟨.str<|Txt.slice z (Z i) yA,H,I.tok _,⟨_,rfl⟩,q⟩⟩)
  |int j d=>exact Tk (l:=Z (i,g)) (u:=Z (j,d)) (st:=yA) a rfl (post_val_or_str ⟨BX (Txt.slice_le z _ _) b,λc k=>⟨.str<|Txt.slice z (Z i)<|some j,H,I.tok _,⟨_,rfl⟩,q⟩⟩)
def Y0:V->U V->Hp->VK->Prop:=λx a H Q=>∃z y,x=.str z/\a=[.str y]/\Q (.int (Txt.find z y)) H
def Y1:Ku X "str.find" Y0:=by
 intro a s d H x e v f Q I b c h;obtain⟨z,y,rfl,rfl,q⟩:=h;obtain⟨t,rfl⟩:=b;obtain⟨u,rfl,g,rfl⟩:=Et c;exact SC.find ⟨.int _,H,I.tok _,⟨_,rfl⟩,q⟩
def nj{a:U Ae}:∀{us:U Aa},As (a.map V.str) us->StrsAre us a:=by
 induction a with|nil=>intro us r;rw[B3]at r;cases r;exact .nil|cons n ns b=>
  intro us r;rw[AI]at r;cases r with
  |cons c d=>
   obtain⟨t,rfl⟩:=c;exact .cons n t<|b d
def Y2(K:Av):V->U V->Hp->VK->Prop:=λx c H Q=>∃z a b,x=.str z/\c=[.ref a]/\BM K H a (b.map V.str)/\(b.map (·.length)).sum+b.length*z.length<=16777216/\Q (.str (Txt.join z b)) H
def nl:Ku X "str.join" (Y2 X.K):=by
 intro d s m H x n v o Q I e f h;obtain⟨z,a,p,rfl,rfl,g,i,q⟩:=h;obtain⟨t,rfl⟩:=e;obtain⟨u,rfl,j⟩:=Et f;cases j;obtain⟨b,r,l,_⟩:=I.list g;exact join_list l.isList (nj r) i λw k=>⟨.str _,H,I.tok _,⟨_,rfl⟩,q⟩
end
def Y3:∀{us:U Aa},As (bs.map V.bl) us->LSm.BoolsAre us bs:=by
 induction bs with|nil=>intro us r;rw[B3]at r;cases r;exact .nil|cons n ns a=>
  intro us r;rw[AI]at r;cases r with
  |cons b c=>
   have e:=b;subst e;exact .cons n<|a c
section
def Jv(l:X.calm=yB):Es X (.builtin "all") (λxs H Q=>∃(a:Ac)(bs:U Bool),xs=[.ref a]/\BM X.K H a (bs.map V.bl)/\Q (.bl (bs.all id)) H):=by
 intro g s x H xs y Q I r h;obtain⟨a,bs,rfl,m,q⟩:=h;obtain⟨u,rfl,n⟩:=Et r;cases n;obtain⟨c,o,p,z⟩:=I.list m;have j:=Y3 o;have d:=p.isList;have f:a<s.heap.objs.size:=by obtain⟨_,e,_⟩:=d;exact BC e
 refine call_all_walk<|Oq d ?_;refine⟨s.heap.objs.size,[s.heap.objs.size,a],[s.heap.objs.size],c.toArray.size,_,_,λi=>(bs[i]?).getD yB,rfl,Walks.list (A:=X.A.in1) (I.ok.hd l) _ a (CD f) c.toArray,
  ⟨⟨_,Cm _ rfl,rfl,rfl⟩,d.push _⟩,λi v B C E t k=>?_,λG F w=>⟨.bl _,H,I.kept<|LSm.kept_iter w,rfl,?_⟩⟩
 ·obtain⟨b,e,rfl⟩:=j.get i v (by simpa using t);erw[e,Option.getD_some]at k;exact Ij k
 ·have e:((BU c.toArray.size).all λi=>(bs[i]?).getD yB)=bs.all id:=by
   rw[Bx,j.length];exact LSm.range_all bs
  rw[e];exact q
def Y4(l:X.calm=yB):Es X (.builtin "any") (λxs H Q=>∃(a:Ac)(bs:U Bool),xs=[.ref a]/\BM X.K H a (bs.map V.bl)/\Q (.bl (bs.any id)) H):=by
 intro g s x H xs y Q I r h;obtain⟨a,bs,rfl,m,q⟩:=h;obtain⟨u,rfl,n⟩:=Et r;cases n;obtain⟨c,o,p,z⟩:=I.list m;have j:=Y3 o;have d:=p.isList;have f:a<s.heap.objs.size:=by obtain⟨_,e,_⟩:=d;exact BC e
 refine call_any_walk<|Oq d ?_;refine⟨s.heap.objs.size,[s.heap.objs.size,a],[s.heap.objs.size],c.toArray.size,_,_,λi=>(bs[i]?).getD yC,rfl,Walks.list (A:=X.A.in1) (I.ok.hd l) _ a (CD f) c.toArray,
  ⟨⟨_,Cm _ rfl,rfl,rfl⟩,d.push _⟩,λi v B C E t k=>?_,λG F w=>⟨.bl _,H,I.kept<|LSm.kept_iter w,rfl,?_⟩⟩
 ·obtain⟨b,e,rfl⟩:=j.get i v (by simpa using t);erw[e,Option.getD_some]at k;exact Ij k
 ·have e:((BU c.toArray.size).any λi=>(bs[i]?).getD yC)=bs.any id:=by
   rw[Bx,j.length];exact LSm.range_any bs
  rw[e];exact q
end
section
open PySem.SeqAt
inductive FA(A:Ah)(s:Ab):List Aa->List Aa->Bool->Prop where
 |nn:FA A s [] [] yC
 |nc {w ws}:FA A s [] (w::ws) yB
 |cn {v vs}:FA A s (v::vs) [] yC
 |eq {v w vs ws b}:EqAt A s v w yB->FA A s vs ws b->FA A s (v::vs) (w::ws) b
 |ne {v w vs ws b}:EqAt A s v w yC->(∀(prog:A4) (wo:Aj) (E Q:Aa->Ab->Prop),Q (.bool b) s->wpAny (Ag prog wo) A (richCompare .Lt v w) Q E s)->FA A s (v::vs) (w::ws) b
end
section
open PySem.SeqAt
open PySem.AutoSeq1 (wpAny_loadPart')
open PySem.MeetsSeq PySem.MeetsSeq2 PySem.MeetsSeq3
theorem nq(l b:Ac)(items a:Array Aa)(n n2:Nat)(I p:O Ac)(F q:Array (O Aa))(r:Bool):Meets (Fd.«tuple.__lt__» ⟨[.ref l,.ref b],[]⟩) (λA R s=>s.heap.get? l=Z {cls:=.type "tuple",dict:=I,data:=.seq items n,slots:=F}/\s.heap.get? b=Z {cls:=.type "tuple",dict:=p,data:=.seq a n2,slots:=q}/\FA A.in1 s items.toList a.toList r/\R (.ok (.ret (.bool r))) s):=.of_wp λprog w A R s h=>by
  obtain⟨G,g,d,H,os⟩:=s;obtain⟨L,M,t,h⟩:=h;have K:=AutoSeq1.sub_tuple_tuple;wp_walk using EV L,EV M,wpAny_forIn_list _ (λAJ b u=>b.1=yA/\u=⟨G,g,d,H,os⟩/\∃(m o:U Aa),AJ=m.zip o /\
   FA A.in1 ⟨G,g,d,H,os⟩ m o r/\m.length+a.size=o.length+items.size) _
  case turn=>
   rintro⟨y,x⟩ AJ b u ⟨j,rfl,m,o,e,f,c⟩;cases f with
   |nn=>simp[List.zip_nil_left]at e
   |nc=>simp[List.zip_nil_left]at e
   |cn=>simp[List.zip_nil_right]at e
   |eq v z=>
    rw[G6]at e;injection e with k i
    injection k with B C
    subst B C;erw[Bp]at c;refine Al<|v prog w _ _ ?_;wp_walk;exact⟨rfl,rfl,_,_,i,z,by lia⟩
   |ne v z=>
    rw[G6]at e;injection e with k i
    injection k with B C
    subst B C;refine Al<|v prog w _ _ ?_;have E:=z prog w;wp_walk using E;exact⟨_,rfl,by simpa using h⟩
  case fin=>
   rintro⟨Q,T⟩ u ⟨j,rfl,m,o,e,f,c⟩;simp only at j;subst j;have N:r=decide (items.size<a.size):=by
    cases f with
    |nn=>
     erw[B9]at c;exact(decide_eq_false (by lia)).symm
    |nc=>
     erw[B9,Bp]at c;exact(decide_eq_true (by lia)).symm
    |cn=>
     erw[B9,Bp]at c;exact(decide_eq_false (by lia)).symm
    |eq _ _=>simp[G6]at e
    |ne _ _=>simp[G6]at e
   rw[N]at h;wp_walk;exact⟨_,rfl,by simpa[Builtin.Tuple.tupleCompareSizes]using h⟩
  case h=>
   exact⟨rfl,rfl,items.toList,a.toList,rfl,t,by simp;lia⟩
theorem nr(l b:Ac)(items c:Array Aa)(n n2:Nat)(C y:O Ac)(E z:Array (O Aa))(r:Bool)(k:Nat):
  ∀i:Nat,items.size-i=k->Meets (Fd.«list.__eq__.loop» ⟨[.ref l,.ref b,Be i,Be 0],[]⟩)
   (λA R s=>s.heap.get? l=Z {cls:=.type "list",dict:=C,data:=.seq items n,slots:=E}/\s.heap.get? b=Z {cls:=.type "list",dict:=y,data:=.seq c n2,slots:=z} /\
    FA A.in1 s (items.toList.drop i) (c.toList.drop i) r/\(i<=items.size/\i<=c.size)/\R (.ok (.ret (.bool r))) s):=by
 induction k with
 |zero=>
  intro i G prog w A R s h
  obtain⟨H,g,d,I,os⟩:=s;obtain⟨o,p,e,⟨F,L⟩,h⟩:=h
  wp_walk using EV o,EV p
  have j:items[((i:Nat):Int).toNat]?=yA:=by simp;lia
  have hd:items.toList.drop i=[]:=MD (by simp;lia)
  rw[hd]at e
  rw[j]
  have q:r=decide (items.size<c.size):=by
   cases x:c.toList.drop i with
   |nil=>
    rw[x]at e
    have:=congrArg List.length x
    simp at this
    cases e
    exact(decide_eq_false (by lia)).symm
   |cons a t=>
    rw[x]at e
    have:=congrArg List.length x
    simp at this
    cases e
    exact(decide_eq_true (by lia)).symm
  rw[q]at h
  wp_walk using EV o,EV p
  exact h
 |succ k M=>
  intro i G prog w A R s h
  obtain⟨H,g,d,I,os⟩:=s;obtain⟨o,p,e,⟨F,L⟩,h⟩:=h
  wp_walk using EV o,EV p
  have u:i<items.size:=by lia
  have j:items[((i:Nat):Int).toNat]?=Z items[i]:=by simp[u]
  have hd:items.toList.drop i=items[i]::items.toList.drop (i+1):=by rw[MF (by simpa using u)];simp
  have N:((i:Int)+1)=((i+1:Nat):Int):=by push_cast;rfl
  rw[hd]at e
  rw[j]
  by_cases f:i<c.size
  ·have m:c[((i:Nat):Int).toNat]?=Z c[i]:=by simp[f]
   have v:c.toList.drop i=c[i]::c.toList.drop (i+1):=by rw[MF (by simpa using f)];simp
   rw[v]at e
   rw[m]
   cases e with
   |eq e q=>
    refine Al (e prog w _ _ ?_)
    wp_walk
    rw[N]
    exact⟨Lo plain_eq_loop _,Ky entry_eq_loop (by
     rw[Kz plain_eq_loop _]
     exact M (i+1) (by lia) prog w A R _ ⟨o,p,q,⟨u,f⟩,h⟩)⟩
   |ne e q=>
    refine Al (e prog w _ _ ?_)
    wp_walk using EV o,EV p
    rw[j,m]
    have B:=q prog w
    wp_walk using B
    exact h
  ·have m:c[((i:Nat):Int).toNat]?=yA:=by simp;lia
   have v:c.toList.drop i=[]:=MD (by simp;lia)
   rw[v]at e
   rw[m]
   have q:r=decide (items.size<c.size):=by
    cases e
    exact(decide_eq_false (by lia)).symm
   rw[q]at h
   wp_walk using EV o,EV p
   exact h
def Y5(l b:Ac)(items a:Array Aa)(n n2:Nat)(f c:O Ac)(i e:Array (O Aa))(r:Bool):Meets (Fd.«list.__lt__» ⟨[.ref l,.ref b],[]⟩) (λA R s=>s.heap.get? l=Z {cls:=.type "list",dict:=f,data:=.seq items n,slots:=i}/\s.heap.get? b=Z {cls:=.type "list",dict:=c,data:=.seq a n2,slots:=e}/\FA A.in1 s items.toList a.toList r/\R (.ok (.ret (.bool r))) s):=by
 intro prog w A R s h;obtain⟨o,g,d,p,os⟩:=s;obtain⟨j,k,m,h⟩:=h;have q:=AutoSeq1.sub_list_list;wp_walk using EV j,EV k;exact⟨Lo plain_eq_loop _,Ky entry_eq_loop (by
  rw[Kz plain_eq_loop _];exact nr l b items a n n2 f c i e r _ 0 rfl prog w A R _ ⟨j,k,m,⟨E7 _,E7 _⟩,h⟩)⟩
end
section
variable{prog:A4}{w:Aj}{A:Ah}{s:Ab}
def nt{a:Array Aa}{r:Bool}(m:IsTup s.heap l items)(o:IsTup s.heap b a)(p:FA A.in1 s items.toList a.toList r) (q:A.units<AA) (h:Q (.bool r) s):wpAny (Ag prog w) A (richCompare .Lt (.ref l) (.ref b)) Q E s:=by
 obtain⟨⟨cls,t,data,u⟩,i,j,n,hd⟩:=id m;obtain⟨⟨k,f,data2,g⟩,c,d,n2,e⟩:=id o;simp only at j hd d e
 subst j hd d e
 exact richCompare_meets_room ⟨_,i,rfl⟩ ⟨_,c,rfl⟩ PySem.F.slot_tuple_lt PySem.F.entry_tuple_lt (PySem.F.args_tuple_lt_2 _ _) (nq l b items a n n2 t f u g r)
  ⟨i,c,p,show Value.bool r≠Value.notImplemented/\Q (.bool r) s from⟨(λx=>nomatch x),h⟩⟩ q
def nu{a:Array Aa}{r:Bool}(g:s.heap.get? l=Z {cls:=.type "list",dict:=e,data:=.seq items n,slots:=f})(i:s.heap.get? b=Z {cls:=.type "list",dict:=c,data:=.seq a n2,slots:=d})(j:FA A.in1 s items.toList a.toList r) (k:A.units<AA) (h:Q (.bool r) s):wpAny (Ag prog w) A (richCompare .Lt (.ref l) (.ref b)) Q E s:=richCompare_meets_room ⟨_,g,rfl⟩ ⟨_,i,rfl⟩ PySem.F.slot_list_lt PySem.F.entry_list_lt (PySem.F.args_list_lt_2 _ _) (Y5 l b items a n n2 e c f d r) ⟨g,i,j,show Value.bool r≠Value.notImplemented/\Q (.bool r) s from⟨(λx=>nomatch x),h⟩⟩ k
end
noncomputable def nv:V->V->O Bool
 |.int i,.int j=>Z (decide (i<j))
 |.str a,.str b=>Z (decide (a.cps.toList<b.cps.toList))
 |_,_=>yA
def Ba:U V->U V->O Bool
 |[],[]=>Z yC
 |[],_::_=>Z yB
 |_::_,[]=>Z yC
 |x::a,y::b=>if(YR x&&YR y)=yB then(if mN x y=yB then Ba a b else nv x y)else yA
def Tl(x:Ae):x.cps.toList.length=x.length:=by simp[Str.length]
def MG(K:Av):Sp:=λb H Q _=>∃(a:Ac)(ns:U Int),b=[.ref a]/\BM K H a (ns.map V.int)/\ns.length<=63/\∀c,Q (.bl yB) c
def Y6{o:HO}(h:H p=yA):Ai H (AM H p o):=λb u e=>by rw[ZA<|FR e h];exact e
def G7{A B:Prop}(h:A):(if yB=yB then A else B):=(if_pos (c:=yB=yB) rfl:ite _ A B=A) ▸ h
def HI{A B:Prop}(h:B):(if yC=yB then A else B):=(if_neg Hz:ite _ A B=B) ▸ h
inductive Kd where
 |l|d|i (ns:List Ae) (c:Ae)
variable{fl:Kd}
def OE(K:Av)(c:Ae):Ac:=match PySem.W.nsIn K De c with
 |some (Z (.ref C))=>C
 |_=>0
inductive D where
 |non|bl (b:Bool)|int (i:Int)|str (x:Ae)|ty (n:String)|tup (xs:List D)|lst (xs:List D) (b:Kd:=.l)
variable{xs:U D}{zs:U (U D)}
noncomputable def Tn:D->At
 |.int i=>.int i
 |.str x=>.str x
 |_=>.non
def To:D->KT
 |.tup l=>.tup (l.map Tn)
 |d=>.at (Tn d)
def MH:U D->U KT
 |k::_::r=>To k::MH r
 |_=>[]
def CO(K:Av)(b:Kd)(a:Ac)(xs:U D)(vs:U V):HO:=match b with
 |.l=>.lst vs
 |.d=>.dct (MH xs) vs
 |.i ns c=>.ins (OE K c) (a-1) (ns.zip vs)
def FZ:HO->Bool
 |.lst _=>yB
 |.dct _ _=>yB
 |.ins _ _ _=>yB
 |_=>yC
def Y7(K:Av)(b:Kd)(a:Ac)(xs:U D)(vs:U V):FZ (CO K b a xs vs)=yB:=by cases b<;>rfl
abbrev Fb:=Ac->Prop
def KL(K:Av)(a:Ac)(vs:U V):Prop:=BM K (λ_=>yA) a vs
def LstAt(K:Av)(N:Fb)(H:Hp)(a:Ac)(o:HO):Prop:=(¬ N a/\Rd H a o)\/∃b,o=.lst b/\KL K a b
def KL.sq{K:Av}(h:KL K a vs):BM K H a vs:=by
 rcases h with(h|⟨o,h⟩)|h
 ·cases h
 ·cases h
 ·exact .inr h
def LstAt.sq{K:Av}{N:Fb}(h:LstAt K N H a (.lst vs)):BM K H a vs:=by
 rcases h with⟨_,h⟩|⟨b,e,h⟩
 ·exact .inl h
 ·cases e;exact h.sq
def LstAt.of{K:Av}{o:HO}(n:¬ N a)(h:H a=Z o):LstAt K N H a o:=.inl ⟨n,.inl h⟩
def LstAt.of_sq{K:Av}(h:BM K H a vs):LstAt K (λ_=>False) H a (.lst vs):=by
 rcases h with h|h
 ·exact .inl ⟨id,h⟩
 ·exact .inr ⟨vs,rfl,.inr h⟩
mutual
def Au(K:Av)(N:Fb)(H:Hp):D->V->Prop
 |.non,v=>v=.non
 |.bl b,v=>v=.bl b
 |.int i,v=>v=.int i
 |.str x,v=>v=.str x
 |.ty n,v=>v=.ty n
 |.tup d,v=>∃a c,v=.ref a/\B6 K H a c/\Ad K N H d c
 |.lst d b,v=>∃a c,v=.ref a/\LstAt K N H a (CO K b a d c)/\Ad K N H d c
def Ad(K:Av)(N:Fb)(H:Hp):U D->U V->Prop
 |[],a=>a=[]
 |x::b,a=>∃v r,a=v::r/\Au K N H x v/\Ad K N H b r
end
structure Step(M N N':Fb)(H H':Hp):Prop where
 kp:∀a o,H a=Z o->(¬ N a\/M a\/FZ o=yC)->H' a=Z o
 nw:∀a,N' a->N a\/H a=yA
def Step.trans{d f:Hp}(a:Step M N N1 H d)(b:Step M N1 N2 d f):Step M N N2 H f where
 kp:=λc o h z=>by
  have g:=a.kp c o h z;refine b.kp c o g ?_;rcases z with z|z|z
  ·refine .inl λn1=>?_;rcases a.nw c n1 with q|q
   ·exact z q
   ·simp[h]at q
  ·exact .inr<|.inl z
  ·exact .inr<|.inr z
 nw:=λc n2=>by
  rcases b.nw c n2 with q|q
  ·exact a.nw c q
  ·cases e:H c with|none=>exact .inr rfl|some o=>
    refine .inl<|Classical.byContradiction λz=>?_;rw[a.kp c o e<|.inl z]at q;cases q
def Step.of_same(s:Ai H H'):Step M N N H H':=⟨λa o h _=>s a o h,λa h=>.inl h⟩
def Step.refl{M N:Fb}:Step M N N H H:=Step.of_same<|Ai.refl H
def Rd.step{u:HO}(s:Step M N b H H')(h:Rd H a u)(z:¬ N a\/M a\/FZ u=yC):Rd H' a u:=by
 rcases h with h|⟨o,h⟩
 ·exact .inl<|s.kp a u h z
 ·exact .inr ⟨o,s.kp a _ h<|.inr<|.inr rfl⟩
def Rd.same{u:HO}(s:Ai H H')(h:Rd H a u):Rd H' a u:=by
 rcases h with h|⟨o,h⟩
 ·exact .inl<|s a u h
 ·exact .inr ⟨o,s a _ h⟩
def B6.step{K:Av}{M N b:Fb}{xs:U V}(s:Step M N b H H')(h:B6 K H a xs):B6 K H' a xs:=by
 rcases h with h|h
 ·exact .inl<|h.step s<|.inr<|.inr rfl
 ·exact .inr h
def B6.same{K:Av}{xs:U V}(s:Ai H H')(h:B6 K H a xs):B6 K H' a xs:=B6.step (M:=λ_=>False) (N:=λ_=>False) (Step.of_same s) h
def Rd.has{u:HO}(h:Rd H a u):H a≠yA:=by
 rcases h with h|⟨o,h⟩<;>rw[h]<;>exact λe=>nomatch e
mutual
theorem Au.step{K:Av}{M N f:Fb}{H H':Hp}(s:Step M N f H H'):∀(d:D)(v:V),Au K N H d v->Au K f H' d v
 |.non,_,h=>h
 |.bl _,_,h=>h
 |.int _,_,h=>h
 |.str _,_,h=>h
 |.ty _,_,h=>h
 |.tup c,v,h=>by
  erw[Au]at h ⊢
  obtain⟨a,b,e,q,r⟩:=h
  exact⟨a,b,e,q.step s,Ad.step s c b r⟩
 |.lst c i,v,h=>by
  erw[Au]at h ⊢
  obtain⟨a,b,e,q,r⟩:=h
  refine⟨a,b,e,?_,Ad.step s c b r⟩
  rcases q with⟨n,q⟩|q
  ·refine .inl ⟨λg=>?_,q.step s (.inl n)⟩
   rcases s.nw a g with z|z
   ·exact n z
   ·exact q.has z
  ·exact .inr q
theorem Ad.step{K:Av}{M N a:Fb}{H H':Hp}(s:Step M N a H H'):∀(xs:U D)(vs:U V),Ad K N H xs vs->Ad K a H' xs vs
 |[],_,h=>h
 |x::xs,vs,h=>by
  erw[Ad]at h ⊢
  obtain⟨v,r,e,q,t⟩:=h
  exact⟨v,r,e,Au.step s x v q,Ad.step s xs r t⟩
end
section
variable{K:Av}{M N N':Fb}{d:D}{v:V}{ys:U D}{ws:U V}
def Au.same(h:Au K N H d v)(s:Ai H H'):Au K N H' d v:=Au.step (M:=N) (Step.of_same s) d v h
def Ad.same(h:Ad K N H xs vs)(s:Ai H H'):Ad K N H' xs vs:=Ad.step (M:=N) (Step.of_same s) xs vs h
def Au.nw(h:Au K N H d v)(z:∀a,N' a->N a\/H a=yA):Au K N' H d v:=Au.step (M:=N) (H':=H) ⟨λ_ _ h _=>h,z⟩ d v h
def Ad.nw(h:Ad K N H xs vs)(z:∀a,N' a->N a\/H a=yA):Ad K N' H xs vs:=Ad.step (M:=N) (H':=H) ⟨λ_ _ h _=>h,z⟩ xs vs h
theorem Ad.length:∀{xs:U D}{vs:U V},Ad K N H xs vs->xs.length=vs.length
 |[],_,h=>by erw[Ad]at h;subst h;rfl
 |_::xs,_,h=>by erw[Ad]at h;obtain⟨v,r,rfl,_,t⟩:=h;simp[Ad.length t]
theorem Ad.get:∀{xs:U D}{vs:U V}{i:Nat}{d:D},Ad K N H xs vs->xs[i]?=Z d->∃v,vs[i]?=Z v/\Au K N H d v
 |[],_,i,d,_,e=>by simp at e
 |x::xs,_,0,d,h,e=>by
  erw[Ad]at h;obtain⟨v,r,rfl,q,_⟩:=h;simp at e;subst e;exact⟨v,rfl,q⟩
 |x::xs,_,i+1,d,h,e=>by
  erw[Ad]at h;obtain⟨v,r,rfl,_,t⟩:=h;obtain⟨w,b,c⟩:=Ad.get t (by simpa using e);exact⟨w,by simpa using b,c⟩
theorem Ad.get':∀{xs:U D}{vs:U V}{i:Nat}{v:V},Ad K N H xs vs->vs[i]?=Z v->∃d,xs[i]?=Z d/\Au K N H d v:=by
 intro xs vs i v h e;have f:=h.length;have g:=(List.getElem?_eq_some_iff.mp e).1;have a:xs[i]?=Z xs[i]:=Dl (by lia);obtain⟨w,b,c⟩:=h.get a;rw[e]at b;cases b;exact⟨_,a,c⟩
theorem Ad.append:∀{xs ys:U D}{vs ws:U V},Ad K N H xs vs->Ad K N H ys ws->Ad K N H (xs++ys) (vs++ws)
 |[],_,_,_,h,a=>by erw[Ad]at h;subst h;exact a
 |x::xs,ys,_,ws,h,a=>by
  erw[Ad]at h;obtain⟨v,r,rfl,q,t⟩:=h;erw[EH,Ad];exact⟨v,r++ws,rfl,q,Ad.append t a⟩
def Ad.nil:Ad K N H [] []:=by erw[Ad]
def Ad.cons(h:Au K N H d v)(t:Ad K N H xs vs):Ad K N H (d::xs) (v::vs):=by erw[Ad];exact⟨v,vs,rfl,h,t⟩
theorem Ad.take:∀{xs:U D}{vs:U V}(n:Nat),Ad K N H xs vs->Ad K N H (xs.take n) (vs.take n)
 |_,_,0,_=>by simpa using Ad.nil
 |[],_,n+1,h=>by erw[Ad]at h;subst h;simpa using Ad.nil
 |x::xs,_,n+1,h=>by
  erw[Ad]at h;obtain⟨v,r,rfl,q,t⟩:=h;simpa using Ad.cons q<|Ad.take n t
theorem Ad.drop:∀{xs:U D}{vs:U V}(n:Nat),Ad K N H xs vs->Ad K N H (xs.drop n) (vs.drop n)
 |_,_,0,h=>by simpa using h
 |[],_,n+1,h=>by erw[Ad]at h;subst h;simpa using Ad.nil
 |x::xs,_,n+1,h=>by
  erw[Ad]at h;obtain⟨v,r,rfl,q,t⟩:=h;simpa using Ad.drop n t
theorem Ad.set:∀{xs:U D}{vs:U V}(i:Nat),Ad K N H xs vs->Au K N H d v->Ad K N H (xs.set i d) (vs.set i v)
 |[],_,_,h,_=>by erw[Ad]at h;subst h;simpa using Ad.nil
 |x::xs,_,0,h,q=>by
  erw[Ad]at h;obtain⟨v,r,rfl,_,t⟩:=h;simpa using Ad.cons q t
 |x::xs,_,i+1,h,q=>by
  erw[Ad]at h;obtain⟨v,r,rfl,a,t⟩:=h;simpa using Ad.cons a<|Ad.set i t q
theorem Ad.ints:∀(ns:U Int),Ad K N H (ns.map D.int) (ns.map V.int)
 |[]=>Ad.nil
 |n::ns=>Ad.cons (by erw[Au])<|Ad.ints ns
end
inductive Sl where
 |no|val (d:D)|own (xs:List D) (b:Kd:=.l) (oa:Option Ac:=yA)|lent (xs:List D) (b:Kd:=.l)|exc (c:Ae)|pin (a:Ac)|deep (zs:List (List D)) (oa:Option Ac:=yA)
def ny(e C:Ac)(h:Am):Prop:=∃o a,h.get? e=Z o/\o.cls=.ref C/\o.data=.fields a/\a[2]?=Z .none
abbrev VE:=U Sl
variable{ρ:VE}{fa:VE->O (U Sl)}{fb:VE->O (U Sl×U Sl)}{fx:VE->O (D×VE)}{lo:VE->O (O Int)}{f1 fo:VE->O Sl}{fk:VE->O D}{ee:VE->O (U D)}
def Nf(M:Fb)(ρ:VE)(σ:St):Fb:=λa=>M a\/∃(i:Nat)(c:U D)(b:Kd)(d:O Ac),ρ[i]?=Z (Sl.own c b d)/\σ[i]?=Z (Z (V.ref a))
def Tp(K:Av)(M N:Fb)(H0 H:Hp):Sl->O V->Prop
 |.no,_=>True
 |.val d,o=>∃v,o=Z v/\Au K N H d v
 |.own f b g,o=>∃a e,o=Z (.ref a)/\(H0 a=yA/\∀c,g=Z c->c=a)/\¬ M a/\H a=Z (CO K b a f e)/\Ad K N H f e
 |.lent f b,o=>∃a e,o=Z (.ref a)/\(M a/\H0 a≠yA)/\Rd H a (CO K b a f e)/\Ad K N H f e
 |.exc c,o=>∃a C,o=Z (.ref a)/\PySem.W.nsIn K De c=Z (Z (.ref C))/\H a=Z (.ext (ny a C))
 |.pin a,o=>o=Z (.ref a)
 |.deep h g,o=>∃a bs,o=Z (.ref a)/\(∀c,g=Z c->c=a)/\M a/\Rd H a (.lst (bs.map V.ref))/\(∀b∈bs,M b)/\Paired (λz b=>∃e,Rd H b (.lst e)/\Ad K N H z e) h bs
structure A6(K:Av)(M:Fb)(H0:Hp)(ρ:VE)(σ:St)(H:Hp):Prop where
 len:ρ.length=σ.length
 same:Ai H0 H
 mh:∀a,M a->H a≠yA
 slot:∀(i:Nat) (s:Sl),ρ[i]?=Z s->Tp K M (Nf M ρ σ) H0 H s (σ[i]?.join)
 inj:∀(i j:Nat) (xs ys:List D) (b b':Kd) (oa oa':Option Ac) (a:Ac),ρ[i]?=Z (Sl.own xs b oa)->ρ[j]?=Z (Sl.own ys b' oa')->σ[i]?=Z (Z (V.ref a))->σ[j]?=Z (Z (V.ref a))->i=j
section
variable{K:Av}{M:Fb}
def A6.nh(R:A6 K M H0 ρ σ H):∀a,Nf M ρ σ a->H a≠yA:=by
 rintro a (h|⟨i,g,j,k,c,d⟩)
 ·exact R.mh a h
 ·obtain⟨b,l,e,_,_,q,_⟩:=R.slot i _ c;rw[d]at e;have f:b=a:=by simpa using e.symm
  rw[<- f,q];exact λz=>nomatch z
def A6.st(R:A6 K M H0 ρ σ H)(s:Ai H H'):A6 K M H0 ρ σ H' where
 len:=R.len;same:=R.same.trans s;mh:=λa h z=>R.mh a h<|s.free z;slot:=λi l e=>by
  have q:=R.slot i l e;cases l with
  |no=>trivial
  |val d=>obtain⟨v,e,h⟩:=q;exact⟨v,e,h.same s⟩
  |own m n t=>obtain⟨a,g,e,b,f,j,k⟩:=q;exact⟨a,g,e,b,f,s _ _ j,k.same s⟩
  |lent m n=>obtain⟨a,g,e,b,f,j⟩:=q;exact⟨a,g,e,b,f.same s,j.same s⟩
  |exc c=>obtain⟨a,C,e,b,f⟩:=q;exact⟨a,C,e,b,s _ _ f⟩
  |pin a=>exact q
  |deep u w=>obtain⟨a,bs,e,o,b,f,j,k⟩:=q;exact⟨a,bs,e,o,b,f.same s,j,Paired.mapP k λ_ _ ⟨g,p,r⟩=>⟨g,p.same s,r.same s⟩⟩
 inj:=R.inj
def A6.fresh(R:A6 K M H0 ρ σ H)(h:H p=yA):¬ Nf M ρ σ p:=λn=>R.nh p n h
end
def tD(K:Av)(M:Fb)(H0:Hp)(f:VE->O D):TE:=λc H Q=>∃a d,A6 K M H0 a c H/\f a=Z d/\∀v b,Ai H b->Au K (Nf M a c) b d v->Q v b
def AC(K:Av)(N:Fb)(H:Hp)(d:D)(v:V):Prop:=match d with
 |.lst e=>∃a c,v=.ref a/\BM K H a c/\Ad K N H e c
 |.lst e b=>∃a c,v=.ref a/\Rd H a (CO K b a e c)/\Ad K N H e c
 |d=>Au K N H d v
def Au.p{K:Av}{N:Fb}{d:D}{v:V}(h:Au K N H d v):AC K N H d v:=by
 cases d with
 |lst f c=>
  erw[Au]at h;obtain⟨a,b,e,q,r⟩:=h;cases c with|l=>exact⟨a,b,e,LstAt.sq q,r⟩|_=>
   rcases q with⟨_,q⟩|⟨g,z,_⟩
   ·exact⟨a,b,e,q,r⟩
   ·cases z
 |_=>exact h
def AC.same{K:Av}{N:Fb}{d:D}{v:V}(h:AC K N H d v)(s:Ai H H'):AC K N H' d v:=by
 cases d with
 |lst f c=>
  cases c with
  |l=>obtain⟨a,b,e,q,r⟩:=h;exact⟨a,b,e,s.seq q,r.same s⟩
  |_=>obtain⟨a,b,e,q,r⟩:=h;exact⟨a,b,e,q.same s,r.same s⟩
 |_=>exact Au.same h s
def Tq{K:Av}(h:Rd H a (CO K fl a xs vs))(r:Ad K N H xs vs):AC K N H (.lst xs fl) (.ref a):=by
 cases fl with
 |l=>exact⟨a,vs,rfl,.inl h,r⟩
 |_=>exact⟨a,vs,rfl,h,r⟩
def tP(K:Av)(M:Fb)(H0:Hp)(f:VE->O D):TE:=λc H Q=>∃a d,A6 K M H0 a c H/\f a=Z d/\∀v b,Ai H b->AC K (Nf M a c) b d v->Q v b
def Lp(fl:Kd)(K:Av)(M:Fb)(H0:Hp)(f:VE->O (U D)):TE:=λg H Q=>∃d e,A6 K M H0 d g H/\f d=Z e /\
 ∀a h c,Ai H c->H a=yA->c a=Z (CO K fl a e h)->Ad K (λb=>Nf M d g b\/b=a) c e h->Q (.ref a) c
@[reducible] def tF(K:Av)(M:Fb)(H0:Hp)(f:VE->O (U D)):TE:=Lp .l K M H0 f
def BO(K:Av)(M:Fb)(H0:Hp)(f:VE->O Bool):TT:=λd H Q=>∃a b,A6 K M H0 a d H/\f a=Z b/\∀c,Ai H c->Q b c
structure JE(X:Cx)(e:Expr)(t:TE):Prop where h:PE X e t
structure JT(X:Cx)(e:Expr)(t:TT):Prop where h:PT X e t
structure JW(X:Cx)(e:Expr)(t:TT):Prop where h:PW X e t
structure JA(X:Cx)(e:List Expr)(t:TA):Prop where h:PA X e t
structure JS(X:Cx)(e:Ar)(t:TS):Prop where h:PS X e t
structure JB(X:Cx)(e:List Ar)(t:TS):Prop where h:EE X e t
structure JI(X:Cx)(tg e:Expr)(t:TI):Prop where h:PI X tg e t
structure JG(X:Cx)(e:Expr)(t:TG):Prop where h:PG X e t
structure JK(X:Cx)(e:List Expr)(t:Il):Prop where h:Ms X e t
structure JO(X:Cx)(e:Option Expr)(t:TO):Prop where h:PO X e t
structure JF(X:Cx)(e:List Expr)(t:TT):Prop where h:G5 X e t
def PE.mono{t t':TE}(h:PE X e t)(m:∀σ H Q,t' σ H Q->t σ H Q):PE X e t':=λa s σ H Q I q=>h a s σ H Q I<|m σ H Q q
def PT.mono{t t':TT}(h:PT X e t)(m:∀σ H Q,t' σ H Q->t σ H Q):PT X e t':=λa s σ H Q I q=>h a s σ H Q I<|m σ H Q q
def PW.mono{t t':TT}(h:PW X e t)(m:∀σ H Q,t' σ H Q->t σ H Q):PW X e t':=λb a s σ H Q I q=>h b a s σ H Q I<|m σ H Q q
def PA.mono{t t':TA}(h:PA X e t)(m:∀σ H Q,t' σ H Q->t σ H Q):PA X e t':=λb a s σ H Q I q=>h b a s σ H Q I<|m σ H Q q
def PS.mono{t t':TS}(h:PS X e t)(m:∀D σ H,t' D σ H->t D σ H):PS X e t':=λa s σ H D I q=>h a s σ H D I<|m D σ H q
def EE.mono{t t':TS}(h:EE X e t)(m:∀D σ H,t' D σ H->t D σ H):EE X e t':=λa s σ H D I q=>h a s σ H D I<|m D σ H q
section
variable{K:Av}{M:Fb}{e a b:Expr}{f g:VE->O D}
def PE.p(h:PE X e (tD K M H0 f)):PE X e (tP K M H0 f):=h.mono λc H Q ⟨a,d,R,e,q⟩=>⟨a,d,R,e,λv b s z=>q v b s z.p⟩
def Ao(h:JE X e (tD K M H0 f)):JE X e (tP K M H0 f):=⟨PE.p h.h⟩
@[simp] def ZH(o:O (U D)):O D:=o.map D.lst
def PE.fd{f:VE->O (U D)}(h:PE X e (tF K M H0 f)):PE X e (tD K M H0 λρ=>ZH (f ρ)):=h.mono λo H Q g=>by
 obtain⟨ρ,d,R,e,q⟩:=g;try dsimp only at e q
 cases c:f ρ with|none=>rw[c]at e;cases e|some i=>
  rw[c]at e;cases e;refine⟨ρ,i,R,c,λa j p s k l m=>q _ _ s ?_⟩;erw[Au];refine⟨a,j,rfl,.of (R.fresh k) l,m.nw λb n=>.inl<|.inl n⟩
def Ca{f:VE->O (U D)}(h:JE X e (tF K M H0 f)):JE X e (tD K M H0 λρ=>ZH (f ρ)):=⟨PE.fd h.h⟩
@[simp] def Bn(ρ:VE)(i:Nat):O D:=match ρ[i]? with
  |some (.val d)=>Z d
  |_=>yA
@[simp] def Af(ρ:VE)(i:Nat):O D:=match ρ[i]? with
  |some (.val d)=>Z d
  |some (.own a b _)=>Z (.lst a b)
  |some (.lent a b)=>Z (.lst a b)
  |_=>yA
def nz(h:Bn ρ i=Z d):ρ[i]?=Z (.val d):=by
 unfold Bn at h;split at h
 ·cases h;assumption
 ·cases h
def nA(b:NV X i x):PE X (.Name x pos) (tD K M H0 λρ=>Bn ρ i):=(Eg b).mono λc H Q f=>by
  obtain⟨ρ,d,R,e,q⟩:=f;obtain⟨v,a,h⟩:=R.slot i _<|nz e;refine⟨v,?_,q v H (Ai.refl H) h⟩;cases z:c[i]? with
  |none=>rw[z]at a;cases a
  |some o=>rw[z]at a;cases a;rfl
def nB(j:NV X i x):PE X (.Name x pos) (tP K M H0 λρ=>Af ρ i):=(Eg j).mono λc H Q k=>by
  obtain⟨ρ,d,R,e,q⟩:=k;try dsimp only at e q
  have fin:∀v,c[i]?.join=Z v->AC K (Nf M ρ c) H d v->∃v,c[i]?=Z (Z v)/\Q v H:=λv b h=>by
   refine⟨v,?_,q v H (Ai.refl H) h⟩;cases z:c[i]? with
   |none=>rw[z]at b;cases b
   |some o=>rw[z]at b;cases b;rfl
  unfold Af at e;split at e
  ·next h=>cases e;obtain⟨v,b,h⟩:=R.slot i _ h;exact fin v b h.p
  ·next h=>cases e;obtain⟨a,l,b,_,_,f,g⟩:=R.slot i _ h;exact fin _ b<|Tq (.inl f) g
  ·next h=>cases e;obtain⟨a,l,b,_,f,g⟩:=R.slot i _ h;exact fin _ b<|Tq f g
  ·cases e
def Lq(h:PE X e (tC v))(hd:∀N H,Au K N H d v):PE X e (tD K M H0 λ_=>Z d):=h.mono λa H Q ⟨b,c,R,e,q⟩=>by(try dsimp only at e q);cases e;exact q v H (Ai.refl H)<|hd _ _
def ZJ {i j pos}:JE X (.Constant (.int i) j pos) (tD K M H0 λ_=>Z (.int i)):=⟨Lq Ss λ_ _=>by erw[Au]⟩
def ZZ {i j pos}:JE X (.Constant (.bool i) j pos) (tD K M H0 λ_=>Z (.bl i)):=⟨Lq kr λ_ _=>by erw[Au]⟩
def Y8 {j pos}:JE X (.Constant .none j pos) (tD K M H0 λ_=>Z .non):=⟨Lq kt λ_ _=>by erw[Au]⟩
def Jw {i j pos}:JE X (.Constant (.str i) j pos) (tD K M H0 λ_=>Z (.str i)):=⟨Lq ku λ_ _=>by erw[Au]⟩
def D7(K:Av)(r:R2)(F:D->D->O D):Prop:=∀(N:Fb)(H:Hp)(x y:V)(d1 d2 d:D)(Q:VK),(∀a,N a->H a≠yA)->AC K N H d1 x->AC K N H d2 y->F d1 d2=Z d ->
 (∀v b,Ai H b->Au K N b d v->Q v b)->r x y H Q
@[simp] def Zd(F:D->D->O D)(f g:VE->O D):VE->O D:=λa=>(f a).bind λx=>(g a).bind λy=>F x y
def Y9(h:Zd F f g ρ=Z d):∃x y,f ρ=Z x/\g ρ=Z y/\F x y=Z d:=by
 unfold Zd at h;cases a:f ρ with|none=>simp[a]at h|some x=>
  cases b:g ρ with
  |none=>simp[a,b]at h
  |some y=>rw[a,b]at h;exact⟨x,y,rfl,rfl,h⟩
def OF(i:D7 K r F){Q:VK}(h:tD K M H0 (Zd F f g) σ H Q):Li r (tP K M H0 f) (tP K M H0 g) σ H Q:=by
 obtain⟨a,d,R,e,q⟩:=h;obtain⟨x,y,j,k,l⟩:=Y9 e;exact⟨a,x,R,j,λv z b m=>⟨a,y,R.st b,k,λu n c o=>i (Nf M a σ) n v u x y d Q ((R.st b).st c).nh (m.same c) o l λw p s t=>q w p ((b.trans c).trans s) t⟩⟩
def Lr(c:Cd X (GZ op) r)(d:D7 K r F)(e:PE X a (tP K M H0 f))(i:PE X b (tP K M H0 g)):PE X (.BinOp a op b pos) (tD K M H0 (Zd F f g)):=(lv c e i).mono λ_ _ _ h=>OF d h
def MJ(c:Cd X (DA op) r)(d:D7 K r F)(e:PE X a (tP K M H0 f))(i:PE X b (tP K M H0 g))(j:Gz op b=yC):PE X (.Compare a [op] [b] pos) (tD K M H0 (Zd F f g)):=(lH c e i j).mono λ_ _ _ h=>OF d h
def aa(c:G3 X r)(d:D7 K r F)(e:PE X a (tP K M H0 f))(i:PE X b (tP K M H0 g))(j:Kt b):PE X (.Subscript a b pos) (tD K M H0 (Zd F f g)):=(SV c e i j).mono λ_ _ _ h=>OF d h
@[simp] def AF:O D->O Bool
  |some (.bl b)=>Z b
  |_=>yA
def Lu{o:O D}{b:Bool}(h:AF o=Z b):o=Z (.bl b):=by
 unfold AF at h;split at h
 ·cases h;rfl
 ·cases h
def nE{Q:Bool->Hp->Prop}(c:∀σ H Q,tD K M H0 f σ H Q->t σ H Q)(h:BO K M H0 (λρ=>AF (f ρ)) σ H Q):tB t σ H Q:=by
 obtain⟨ρ,b,R,e,q⟩:=h;refine c σ H _ ⟨ρ,.bl b,R,Lu e,λv d s a=>?_⟩;erw[Au]at a;exact⟨b,a,q d s⟩
def Jx(c:Cd X (DA op) r)(d:D7 K r F)(e:PE X a (tP K M H0 f))(h:PE X b (tP K M H0 g))(i:Gz op b=yC):PT X (.Compare a [op] [b] pos) (BO K M H0 λρ=>AF (Zd F f g ρ)):=(Yq c e h i).mono λ_ _ _ q=>nE (λ_ _ _ z=>OF d z) q
@[simp] def ZW(o:O Bool):O Bool:=o.map (!·)
@[simp] def B4(o p:O Bool):O Bool:=match o with
  |some yB=>p
  |some yC=>Z yC
  |none=>yA
@[simp] def BR(o p:O Bool):O Bool:=match o with
  |some yB=>Z yB
  |some yC=>p
  |none=>yA
section
variable{c c':VE->O Bool}{AJ:U Expr}
def Du(h:JT X a (BO K M H0 c)):JT X (.UnaryOp .Not a pos) (BO K M H0 λρ=>ZW (c ρ)):=⟨have h:=h.h;(kH h).mono λg H Q f=>by
 obtain⟨ρ,b,R,e,q⟩:=f;try dsimp only at e q
 cases d:c ρ with
 |none=>rw[d]at e;cases e
 |some k=>rw[d]at e;cases e;exact⟨ρ,k,R,d,q⟩⟩
def Iz(h:JT X a (BO K M H0 c)):JW X (.BoolOp .And [a] pos) (BO K M H0 c):=⟨have h:=h.h;kA h⟩
def Eu(h:JT X a (BO K M H0 c)):JW X (.BoolOp .Or [a] pos) (BO K M H0 c):=⟨have h:=h.h;kC h⟩
def nG{Q:Bool->Hp->Prop}(h:BO K M H0 (λρ=>B4 (c ρ) (c' ρ)) σ H Q):Yc (BO K M H0 c) (BO K M H0 c') σ H Q:=by
 obtain⟨ρ,b,R,e,q⟩:=h;try dsimp only at e q
 cases a:c ρ with|none=>rw[a]at e;cases e|some k=>
  cases k with
  |true=>rw[a]at e;exact⟨ρ,yB,R,a,λd s=>by refine G7 ?_;exact⟨ρ,b,R.st s,e,λf g=>q f<|s.trans g⟩⟩
  |false=>rw[a]at e;cases e;exact⟨ρ,yC,R,a,λd s=>by refine HI ?_;exact q d s⟩
def nH{Q:Bool->Hp->Prop}(h:BO K M H0 (λρ=>BR (c ρ) (c' ρ)) σ H Q):Yd (BO K M H0 c) (BO K M H0 c') σ H Q:=by
 obtain⟨ρ,b,R,e,q⟩:=h;try dsimp only at e q
 cases a:c ρ with|none=>rw[a]at e;cases e|some k=>
  cases k with
  |false=>rw[a]at e;exact⟨ρ,yC,R,a,λd s=>by refine HI ?_;exact⟨ρ,b,R.st s,e,λf g=>q f<|s.trans g⟩⟩
  |true=>rw[a]at e;cases e;exact⟨ρ,yB,R,a,λd s=>by refine G7 ?_;exact q d s⟩
def G8(h:JT X a (BO K M H0 c))(h':JW X (.BoolOp .And (b::AJ) pos) (BO K M H0 c')):JW X (.BoolOp .And (a::b::AJ) pos) (BO K M H0 λρ=>B4 (c ρ) (c' ρ)):=⟨have h:=h.h;have h':=h'.h;(kF h h').mono λ_ _ _ q=>nG q⟩
def DX(h:JT X a (BO K M H0 c))(h':JW X (.BoolOp .Or (b::AJ) pos) (BO K M H0 c')):JW X (.BoolOp .Or (a::b::AJ) pos) (BO K M H0 λρ=>BR (c ρ) (c' ρ)):=⟨have h:=h.h;have h':=h'.h;(kG h h').mono λ_ _ _ q=>nH q⟩
@[simp] def Dq(o:O Bool):O D:=o.map D.bl
def Lv{Q:VK}(h:tD K M H0 (λρ=>Dq (c ρ)) σ H Q):∃ρ b,A6 K M H0 ρ σ H/\c ρ=Z b/\∀H',Ai H H'->Q (.bl b) H':=by
 obtain⟨ρ,d,R,e,q⟩:=h;try dsimp only at e q
 cases a:c ρ with
 |none=>rw[a]at e;cases e
 |some k=>rw[a]at e;cases e;exact⟨ρ,k,R,a,λH' s=>q _ H' s (by erw[Au])⟩
def ab(h:JE X a (tD K M H0 f)):JE X (.UnaryOp .Not a pos) (tD K M H0 λρ=>Dq (ZW (AF (f ρ)))):=⟨have h:=h.h;(kO h).mono λi H Q q=>by
 obtain⟨ρ,b,R,e,q⟩:=Lv q;cases c:AF (f ρ)with
 |none=>rw[c]at e;cases e
 |some k=>
  rw[c]at e;cases e;refine⟨ρ,.bl k,R,Lu c,λv g s d=>?_⟩;erw[Au]at d;exact⟨k,d,q g s⟩⟩
def IA {op} (h:JE X a (tD K M H0 f)):JE X (.BoolOp op [a] pos) (tD K M H0 λρ=>Dq (AF (f ρ))):=⟨have h:=h.h;(kL h).mono λg H Q q=>by
 obtain⟨ρ,b,R,e,q⟩:=Lv q;exact⟨ρ,.bl b,R,Lu e,λv d s c=>by erw[Au]at c;subst c;exact q d s⟩⟩
def KA(h:JE X a (tD K M H0 f))(h':JE X (.BoolOp .And (b::AJ) pos) (tD K M H0 λρ=>Dq (c' ρ))):JE X (.BoolOp .And (a::b::AJ) pos) (tD K M H0 λρ=>Dq (B4 (AF (f ρ)) (c' ρ))):=⟨have h:=h.h;have h':=h'.h;(kM h h').mono λn H Q q=>by
 obtain⟨ρ,b,R,e,q⟩:=Lv q;try dsimp only at e q
 cases c:AF (f ρ)with
 |none=>rw[c]at e;cases e
 |some k=>
  refine⟨ρ,.bl k,R,Lu c,λv i s d=>?_⟩;erw[Au]at d;refine⟨k,d,?_⟩;cases k with
  |true=>
   rw[c]at e;refine G7 ?_;have j:c' ρ=Z b:=e;exact⟨ρ,.bl b,R.st s,by show Dq (c' ρ)=_;rw[j];rfl,λw l m g=>by erw[Au]at g;subst g;exact q l<|s.trans m⟩
  |false=>rw[c]at e;cases e;refine HI ?_;exact q i s⟩
def ac(h:JE X a (tD K M H0 f))(h':JE X (.BoolOp .Or (b::AJ) pos) (tD K M H0 λρ=>Dq (c' ρ))):JE X (.BoolOp .Or (a::b::AJ) pos) (tD K M H0 λρ=>Dq (BR (AF (f ρ)) (c' ρ))):=⟨have h:=h.h;have h':=h'.h;(kN h h').mono λn H Q q=>by
 obtain⟨ρ,b,R,e,q⟩:=Lv q;try dsimp only at e q
 cases c:AF (f ρ)with
 |none=>rw[c]at e;cases e
 |some k=>
  refine⟨ρ,.bl k,R,Lu c,λv i s d=>?_⟩;erw[Au]at d;refine⟨k,d,?_⟩;cases k with
  |false=>
   rw[c]at e;refine HI ?_;have j:c' ρ=Z b:=e;exact⟨ρ,.bl b,R.st s,by show Dq (c' ρ)=_;rw[j];rfl,λw l m g=>by erw[Au]at g;subst g;exact q l<|s.trans m⟩
  |true=>rw[c]at e;cases e;refine G7 ?_;exact q i s⟩
@[simp] def MK{d:Type}(c:O Bool)(a b:O d):O d:=match c with
  |some yB=>a
  |some yC=>b
  |none=>yA
def ae(i:JT X k (BO K M H0 c))(j:JE X a (tD K M H0 f))(l:JE X b (tD K M H0 g)):JE X (.IfExp k a b pos) (tD K M H0 λρ=>MK (c ρ) (f ρ) (g ρ)):=⟨have i:=i.h;have j:=j.h;have l:=l.h;(kQ i j l).mono λr H Q p=>by
 obtain⟨ρ,d,R,e,q⟩:=p;try dsimp only at e q
 cases i:c ρ with|none=>rw[i]at e;cases e|some k=>
  refine⟨ρ,k,R,i,λt s=>?_⟩;cases k with
  |true=>rw[i]at e;refine G7 ?_;exact⟨ρ,d,R.st s,e,λw m n o=>q w m (s.trans n) o⟩
  |false=>rw[i]at e;refine HI ?_;exact⟨ρ,d,R.st s,e,λw m n o=>q w m (s.trans n) o⟩⟩
@[simp] def isN:D->Bool
  |.non=>yB
  |_=>yC
@[simp] def G9(o:O D):O Bool:=o.map isN
def AC.isN{K:Av}{N:Fb}{d:D}{v:V}(h:AC K N H d v):decide (v=.non)=L2.isN d:=by
 cases d with
 |non=>erw[AC,Au]at h;subst h;rfl
 |bl _=>erw[AC,Au]at h;subst h;rfl
 |int _=>erw[AC,Au]at h;subst h;rfl
 |str _=>erw[AC,Au]at h;subst h;rfl
 |ty _=>erw[AC,Au]at h;subst h;rfl
 |tup _=>erw[AC,Au]at h;obtain⟨a,b,rfl,_⟩:=h;rfl
 |lst _ c=>cases c<;>(obtain⟨a,b,rfl,_⟩:=h;rfl)
def nI {j c} (h:JE X a (tP K M H0 f)):JE X (.Compare a [.Is] [.Constant .none j c] pos) (tD K M H0 λρ=>Dq (G9 (f ρ))):=⟨have h:=h.h;(Ya<|X8 h).mono λl H Q q=>by
 obtain⟨ρ,b,R,e,q⟩:=Lv q;cases g:f ρ with
 |none=>rw[g]at e;cases e
 |some d=>rw[g]at e;cases e;exact⟨ρ,d,R,g,λv i s k=>by dsimp only;rw[k.isN];exact q i s⟩⟩
def nJ {j c} (h:JE X a (tP K M H0 f)):JE X (.Compare a [.IsNot] [.Constant .none j c] pos) (tD K M H0 λρ=>Dq (ZW (G9 (f ρ)))):=⟨have h:=h.h;(Ya<|X9 h).mono λl H Q q=>by
 obtain⟨ρ,b,R,e,q⟩:=Lv q;cases g:f ρ with
 |none=>rw[g]at e;cases e
 |some d=>rw[g]at e;cases e;exact⟨ρ,d,R,g,λv i s k=>by dsimp only;rw[k.isN];exact q i s⟩⟩
def Tr {j c} (h:JE X a (tP K M H0 f)):JT X (.Compare a [.Is] [.Constant .none j c] pos) (BO K M H0 λρ=>G9 (f ρ)):=⟨have h:=h.h;(Yb<|X8 h).mono λm H Q i=>by
 obtain⟨ρ,b,R,e,q⟩:=i;try dsimp only at e q
 cases g:f ρ with
 |none=>rw[g]at e;cases e
 |some d=>rw[g]at e;cases e;exact⟨ρ,d,R,g,λv k s l=>⟨_,rfl,by rw[l.isN];exact q k s⟩⟩⟩
def nK {j c} (h:JE X a (tP K M H0 f)):JT X (.Compare a [.IsNot] [.Constant .none j c] pos) (BO K M H0 λρ=>ZW (G9 (f ρ))):=⟨have h:=h.h;(Yb<|X9 h).mono λm H Q i=>by
 obtain⟨ρ,b,R,e,q⟩:=i;try dsimp only at e q
 cases g:f ρ with
 |none=>rw[g]at e;cases e
 |some d=>rw[g]at e;cases e;exact⟨ρ,d,R,g,λv k s l=>⟨_,rfl,by rw[l.isN];exact q k s⟩⟩⟩
end
end
def nM(h:∀x p,e≠.Starred x p):AY (e::es) env=(yC,Ax e env)::AY es env:=by
 cases e with
 |Starred x p=>exact absurd rfl<|h x p
 |_=>rfl
def nN:Expr->Bool
 |.Starred _ _=>yB
 |_=>yC
def Ev(h:nN e=yC):AY (e::es) env=(yC,Ax e env)::AY es env:=nM λx p z=>by subst z;cases h
structure CA(X:Cx)(x:Ae)(e:Expr)(es:List Expr)(pos:AQ):Prop where
 d:(x==("__debug__":Ae))=yC
 s:AY (e::es) X.env=(yC,Ax e X.env)::AY es X.env
 p:(AL pos (AY es X.env)).any (·.1)=yC
def Ha{x:Ae}{e:Expr}(d:(x==("__debug__":Ae))=yC:=by ext)(s:autoParam (AY (e::es) X.env=(yC,Ax e X.env)::AY es X.env) ye)(p:(AL pos (AY es X.env)).any (·.1)=yC:=by rfl):CA X x e es pos:=⟨d,s,p⟩
structure BA(X:Cx)(x:Ae)(vpos:AQ)(m:Ae)(apos:AQ)(e:Expr)(cpos:AQ):Prop where
 b:Fw (.Name x vpos) m X.env (Ax (.Name x vpos) X.env)=Ax (.Name x vpos) X.env
 f:((AL cpos (AY [e] X.env)).all (λx=>!x.1)&&(Ga cpos (Gb [] X.env)).all (λx=>x.1.isSome)&&decide ([e].length+([]:List ET).length+(if([]:List ET).isEmpty then 0 else 1)<30))=yB
 l:(apos.endLine==cpos.line)=yB
 s:AY [e] X.env=(yC,Ax e X.env)::AY [] X.env
 p:(AL cpos (AY [] X.env)).any (·.1)=yC
def OG{x:Ae}{a:AQ}{m:Ae}{e:Expr}(b:Fw (.Name x a) m X.env (Ax (.Name x a) X.env)=Ax (.Name x a) X.env:=by rfl) (f:((AL cpos (AY [e] X.env)).all (λx=>!x.1)&&(Ga cpos (Gb [] X.env)).all (λx=>x.1.isSome)&&decide ([e].length+([]:U ET).length+(if([]:U ET).isEmpty then 0 else 1)<30))=yB:=by rfl) (l:(apos.endLine==cpos.line)=yB:=by rfl) (s:autoParam (AY [e] X.env=(yC,Ax e X.env)::AY [] X.env) ye) (p:(AL cpos (AY [] X.env)).any (·.1)=yC:=by rfl):BA X x a m apos e cpos:=⟨b,f,l,s,p⟩
def Ci(K:Av)(N:Fb)(H:Hp):Sl->V->Prop
 |.val d,v=>Au K N H d v
 |.lent f b,v=>∃a e,v=.ref a/\N a/\Rd H a (CO K b a f e)/\Ad K N H f e
 |.deep g h,v=>∃a bs,v=.ref a/\(∀c,h=Z c->c=a)/\N a/\Rd H a (.lst (bs.map V.ref))/\(∀b∈bs,N b)/\Paired (λz b=>∃e,Rd H b (.lst e)/\Ad K N H z e) g bs
 |_,_=>False
def Br(K:Av)(N:Fb)(H:Hp):U Sl->U V->Prop
 |[],a=>a=[]
 |s::b,a=>∃v r,a=v::r/\Ci K N H s v/\Br K N H b r
@[simp] def pk:Sl->O D
  |.val d=>Z d
  |.lent a b=>Z (.lst a b)
  |.own a b _=>Z (.lst a b)
  |.no=>yA
  |.exc _=>yA
  |.pin _=>yA
  |.deep _ _=>yA
def Ci.same{K:Av}{N:Fb}{s:Sl}{v:V}(h:Ci K N H s v)(sm:Ai H H'):Ci K N H' s v:=by
 cases s with
 |val d=>exact Au.same h sm
 |lent f g=>obtain⟨a,b,e,n,q,r⟩:=h;exact⟨a,b,e,n,q.same sm,r.same sm⟩
 |no=>exact h
 |own f g t=>exact h
 |exc c=>exact h
 |pin a=>exact h
 |deep u w=>obtain⟨a,bs,e,i,j,k,l,m⟩:=h;exact⟨a,bs,e,i,j,k.same sm,l,Paired.mapP m λ_ _ ⟨b,o,p⟩=>⟨b,o.same sm,p.same sm⟩⟩
def Ci.p{K:Av}{N:Fb}{s:Sl}{v:V}(h:Ci K N H s v){d:D}(b:pk s=Z d):AC K N H d v:=by
 cases s with
 |val d=>cases b;exact Au.p h
 |lent f g=>cases b;obtain⟨a,i,rfl,n,q,r⟩:=h;exact Tq q r
 |no=>exact Bo h
 |own f g j=>exact Bo h
 |exc c=>exact Bo h
 |pin a=>exact Bo h
 |deep k l=>cases b
theorem Br.length{K:Av}{N:Fb}{H:Hp}:∀{a:U Sl}{vs:U V},Br K N H a vs->a.length=vs.length
 |[],_,h=>by cases h;rfl
 |s::a,_,⟨v,r,e,h,t⟩=>by subst e;simp[Br.length t]
theorem Br.get{K:Av}{N:Fb}{H:Hp}:∀{a:U Sl}{vs:U V}{i:Nat}{s:Sl},Br K N H a vs->a[i]?=Z s->∃v,vs[i]?=Z v/\Ci K N H s v
 |[],_,i,s,h,e=>by simp at e
 |_::a,_,0,s,⟨v,r,b,h,t⟩,e=>by subst b;simp at e;subst e;exact⟨v,rfl,h⟩
 |_::a,_,i+1,s,⟨v,r,b,h,t⟩,e=>by
  subst b;obtain⟨w,c,d⟩:=Br.get t (by simpa using e);exact⟨w,by simpa using c,d⟩
def Dr(K:Av)(M:Fb)(H0:Hp)(f:VE->O (U Sl)):TA:=λc H Q=>∃a d,A6 K M H0 a c H/\f a=Z d/\∀e b,Ai H b->Br K (Nf M a c) b d e->Q e b
def Hb(K:Av)(M:Fb)(H0:Hp)(f:VE->O Sl):TE:=λc H Q=>∃a s,A6 K M H0 a c H/\f a=Z s/\∀v b,Ai H b->Ci K (Nf M a c) b s v->Q v b
@[simp] def Ap(ρ:VE)(i:Nat):O Sl:=match ρ[i]? with
  |some (.val d)=>Z (.val d)
  |some (.own a b _)=>Z (.lent a b)
  |some (.lent a b)=>Z (.lent a b)
  |some (.deep c _)=>Z (.deep c)
  |_=>yA
@[simp] def Zh(o:O D):O Sl:=o.map Sl.val
@[simp] def Zb{c:Type}(a:O c)(b:O (U c)):O (U c):=a.bind λx=>b.bind λy=>Z (x::y)
def Lw{c:Type}{a:O c}{b:O (U c)}{l:U c}(h:Zb a b=Z l):∃x y,a=Z x/\b=Z y/\l=x::y:=by
 cases a with|none=>cases h|some x=>
  cases b with
  |none=>cases h
  |some y=>cases h;exact⟨x,y,rfl,rfl,rfl⟩
section
variable{K:Av}{M:Fb}{e a b:Expr}{f g:VE->O D}
def nO(m:NV X i x):PE X (.Name x pos) (Hb K M H0 λρ=>Ap ρ i):=(Eg m).mono λf H Q n=>by
  obtain⟨ρ,d,R,e,q⟩:=n;try dsimp only at e q
  have fin:∀v,f[i]?.join=Z v->Ci K (Nf M ρ f) H d v->∃v,f[i]?=Z (Z v)/\Q v H:=λv c h=>by
   refine⟨v,?_,q v H (Ai.refl H) h⟩;cases z:f[i]? with
   |none=>rw[z]at c;cases c
   |some o=>rw[z]at c;cases c;rfl
  unfold Ap at e;split at e
  ·next h=>cases e;obtain⟨v,c,h⟩:=R.slot i _ h;exact fin v c h
  ·next h=>
   cases e;obtain⟨a,k,c,_,_,g,j⟩:=R.slot i _ h;refine fin _ c ⟨a,k,rfl,.inr ⟨i,_,_,_,h,?_⟩,.inl g,j⟩;cases z:f[i]? with
   |none=>rw[z]at c;cases c
   |some o=>rw[z]at c;cases c;rfl
  ·next h=>cases e;obtain⟨a,k,c,l,g,j⟩:=R.slot i _ h;exact fin _ c ⟨a,k,rfl,.inl l.1,g,j⟩
  ·next h=>cases e;obtain⟨a,bs,c,_,l,g,j,p⟩:=R.slot i _ h;exact fin _ c ⟨a,bs,rfl,(λ_ z=>nomatch z),.inl l,g,λb r=>.inl<|j b r,p⟩
  ·cases e
def Zj(h:JE X e (tD K M H0 f)):JE X e (Hb K M H0 λρ=>Zh (f ρ)):=⟨have h:=h.h;h.mono λi H Q b=>by
 obtain⟨ρ,s,R,e,q⟩:=b;try dsimp only at e q
 cases a:f ρ with
 |none=>rw[a]at e;cases e
 |some d=>rw[a]at e;cases e;exact⟨ρ,d,R,a,λv c s g=>q v c s g⟩⟩
def Ze :JA X [] (Dr K M H0 λ_=>Z []):=⟨Bm.mono λb H Q a=>by
 obtain⟨c,d,R,e,q⟩:=a;cases e;exact q [] H (Ai.refl H) rfl⟩
def Za(h:JE X e (Hb K M H0 f1))(a:JA X es (Dr K M H0 fa))(f:autoParam (AY (e::es) X.env=(yC,Ax e X.env)::AY es X.env) ye):JA X (e::es) (Dr K M H0 λρ=>Zb (f1 ρ) (fa ρ)):=⟨have h:=h.h;have a:=a.h;(Ee h a f).mono λo H Q g=>by
 obtain⟨ρ,p,R,e,q⟩:=g;obtain⟨s,r,i,j,rfl⟩:=Lw e;exact⟨ρ,s,R,i,λv t b l=>⟨ρ,r,R.st b,j,λc m d n=>q (v::c) m (b.trans d) ⟨v,c,rfl,l.same d,n⟩⟩⟩⟩
@[simp] def Zy:U Sl->O (U D)
  |[]=>Z []
  |.val d::r=>Zb (Z d) (Zy r)
  |_=>yA
theorem ML{K:Av}{N:Fb}{H:Hp}:∀{a:U Sl}{vs:U V}{b:U D},Br K N H a vs->Zy a=Z b->Ad K N H b vs
 |[],_,_,h,e=>by cases e;cases h;exact Ad.nil
 |.val d::r,_,_,⟨v,t,c,h,f⟩,e=>by
  obtain⟨x,y,g,i,j⟩:=Lw e;cases g;subst c j;exact Ad.cons h<|ML f i
 |.no::_,_,_,_,e=>nomatch e
 |.own _ _ _::_,_,_,_,e=>nomatch e
 |.lent _ _::_,_,_,_,e=>nomatch e
 |.exc _::_,_,_,_,e=>nomatch e
 |.pin _::_,_,_,_,e=>nomatch e
 |.deep _ _::_,_,_,_,e=>nomatch e
@[simp] def Zu{a:Type}(o:O (U a)):O (U a):=o.bind λl=>if l.length<=AB then Z l else yA
def OH{b:Type}{o:O (U b)}{l:U b}(h:Zu o=Z l):o=Z l/\l.length<=AB:=by
 cases o with|none=>cases h|some x=>
  have a:(if x.length<=AB then Z x else yA)=Z l:=h;split at a
  ·cases a;exact⟨rfl,by assumption⟩
  ·cases a
def Eh{o:HO}(h:H p=yA):Ai H (AM H p o):=λb u e=>by rw[ZA<|FR e h];exact e
def Lx{d:Hp}{Q:VK}(s:Ai H d)(e:d p=yA)(h:Ad K (Nf M ρ σ) d xs vs) (q:∀a vs H',Ai H H'->H a=yA->H' a=Z (CO K fl a xs vs)->Ad K (λb=>Nf M ρ σ b\/b=a) H' xs vs->Q (.ref a) H'):Q (.ref p) (AM d p (CO K fl p xs vs)):=by
 refine q p vs _ (s.trans<|Eh e) (s.free e) D4 ?_;refine(h.nw λb c=>?_).same (Eh e);rcases c with c|c
 ·exact .inl c
 ·subst c;exact .inr e
def DY(h:JA X es (Dr K M H0 fa)):JE X (.List es pos) (tF K M H0 λρ=>Zu ((fa ρ).bind Zy)):=⟨have h:=h.h;(YA h).mono λj H Q b=>by
 obtain⟨ρ,k,R,e,q⟩:=b;obtain⟨e,c⟩:=OH e;cases a:fa ρ with|none=>simp[a]at e|some d=>
  rw[a]at e;refine⟨ρ,d,R,a,λl m f g=>?_⟩;have hd:=ML g e;exact⟨by rw[<- hd.length];exact c,λp i=>Lx f i hd q⟩⟩
def DM {f} (h:JA X es (Dr K M H0 fa)):JE X (.Tuple es f pos) (tD K M H0 λρ=>(Zu ((fa ρ).bind Zy)).map D.tup):=⟨have h:=h.h;(ma h).mono λm H Q g=>by
 obtain⟨ρ,d,R,e,q⟩:=g;try dsimp only at e q
 cases a:Zu ((fa ρ).bind Zy)with
 |none=>rw[a]at e;cases e
 |some n=>
  rw[a]at e;cases e;obtain⟨e,a⟩:=OH a;cases b:fa ρ with|none=>rw[b]at e;cases e|some i=>
   rw[b]at e;refine⟨ρ,i,R,b,λj o k l=>?_⟩;have hd:=ML l e;refine⟨by rw[<- hd.length];exact a,λp c=>q _ _ (k.trans<|Eh c) ?_⟩;erw[Au];exact⟨p,j,rfl,B6.of D4,hd.same<|Eh c⟩⟩
end
inductive Rv where
 |val (d:D)|own (xs:List D) (b:Kd:=.l)
def D8(K:Av)(N:Fb)(H0 H':Hp):Rv->V->Prop
 |.val d,v=>Au K N H' d v
 |.own c b,v=>∃a e,v=.ref a/\H0 a=yA/\H' a=Z (CO K b a c e)/\Ad K (λb=>N b\/b=a) H' c e
def Bf(K:Av)(F:U Sl->O Rv):Sp:=λd H Q _=>∃N c r,(∀a,N a->H a≠yA)/\Br K N H c d/\F c=Z r/\∀v b,Ai H b->D8 K N H b r v->Q v b
@[simp] def CH:Rv->D
  |.val d=>d
  |.own a b=>.lst a b
@[simp] def Hc:Rv->O (U D)
  |.own a=>Z a
  |_=>yA
section
variable{K:Av}{M:Fb}{e:Expr}{F:U Sl->O Rv}{k:Nat}{fn:Ac}{fd:A2}{x:Ae}{p:AQ}{E:XK}
@[simp] def Zp(F:U Sl->O Rv)(fa:VE->O (U Sl)):VE->O D:=λa=>(fa a).bind λb=>(F b).map CH
@[simp] def HJ(F:U Sl->O Rv)(fa:VE->O (U Sl)):VE->O (U D):=λa=>(fa a).bind λb=>(F b).bind Hc
def nP{Q:VK}(h:tD K M H0 (Zp F fa) σ H Q):SG (Bf K F) [] E (Dr K M H0 fa) σ H Q:=by
 obtain⟨c,d,R,e,q⟩:=h;unfold Zp at e;cases f:fa c with|none=>simp[f]at e|some g=>
  rw[f]at e;cases i:F g with|none=>erw[Ay,i]at e;cases e|some r=>
   erw[Ay,i]at e;cases e;refine⟨c,g,R,f,λx y j l=>⟨Nf M c σ,g,r,(R.st j).nh,by rw[CF];exact l,i,λv m n k=>q v m (j.trans n) ?_⟩⟩;cases r with|val d=>exact k|own A B=>
    obtain⟨a,o,p,s,t,u⟩:=k;erw[CH,Au];exact⟨a,o,p,.of (λz=>(R.st j).fresh s z) t,u.nw λb w=>.inl<|.inl w⟩
def nQ{Q:VK}(h:tF K M H0 (HJ F fa) σ H Q):SG (Bf K F) [] E (Dr K M H0 fa) σ H Q:=by
 obtain⟨b,d,R,e,q⟩:=h;unfold HJ at e;cases c:fa b with|none=>simp[c]at e|some f=>
  rw[c]at e;cases g:F f with|none=>erw[Ay,g]at e;cases e|some r=>
   erw[Ay,g]at e;cases r with|val d=>cases e|own y k=>
    cases k with
    |d=>cases e
    |i _ _=>cases e
    |l=>
     cases e;refine⟨b,f,R,c,λz A j m=>⟨Nf M b σ,f,_,(R.st j).nh,by rw[CF];exact m,g,λv n o p=>?_⟩⟩;obtain⟨a,s,rfl,u,w,x⟩:=p;exact q a s n (j.trans o) (j.free u) w x
def nR(G:Aw X.prog X.w X.K X.mg X.base CX k fn fd ps (Bf K F))(b:AZ k X.A)(c:Gl X x)(f:X.mg x=Z (.ref fn))(g:Kq X.K (.ref fn)=yB)(i:Binds X.K fd ps [])(j:FW CX X E)(a:JA X (e::es) (Dr K M H0 fa))(hz:CA X x e es pos:=by exact Ha):JE X (.Call (.Name x p) (e::es) [] pos) (tD K M H0 (Zp F fa)):=⟨have a:=a.h;(SI G b c f g i .nil j a hz.d hz.s hz.p).mono λ_ _ _ h=>nP h⟩
def nS(G:Aw X.prog X.w X.K X.mg X.base CX k fn fd ps (Bf K F))(b:AZ k X.A)(c:Gl X x)(f:X.mg x=Z (.ref fn))(g:Kq X.K (.ref fn)=yB)(i:Binds X.K fd ps [])(j:FW CX X E)(a:JA X (e::es) (Dr K M H0 fa))(hz:CA X x e es pos:=by exact Ha):JE X (.Call (.Name x p) (e::es) [] pos) (tF K M H0 (HJ F fa)):=⟨have a:=a.h;(SI G b c f g i .nil j a hz.d hz.s hz.p).mono λ_ _ _ h=>nQ h⟩
end
def FC(K:Av)(r:U V->Hp->VK->Prop)(F:U D->O D):Prop:=∀(N:Fb)(H:Hp)(c:U V)(e:U D)(d:D)(Q:VK),(∀a,N a->H a≠yA)->Paired (AC K N H) e c->F e=Z d ->
 (∀v b,Ai H b->Au K N b d v->Q v b)->r c H Q
def OI(K:Av)(r:U V->Hp->VK->Prop)(F:U D->O (U D)):Prop:=∀(N:Fb)(H:Hp)(b:U V)(c:U D)(d:U D)(Q:VK),(∀a,N a->H a≠yA)->Paired (AC K N H) c b->F c=Z d ->
 (∀e p,H p=yA->Ad K N H d e->Q (.ref p) (AM H p (.lst e)))->r b H Q
@[simp] def BV:U Sl->O (U D)
  |[]=>Z []
  |s::r=>Zb (pk s) (BV r)
theorem OJ{K:Av}{N:Fb}{H:Hp}:∀{a:U Sl}{vs:U V}{b:U D},Br K N H a vs->BV a=Z b->Paired (AC K N H) b vs
 |[],_,_,h,e=>by cases e;cases h;exact .nil
 |s::r,_,_,⟨v,t,c,h,d⟩,e=>by
  obtain⟨x,y,f,g,i⟩:=Lw e;subst c i;exact .cons (h.p f)<|OJ d g
section
variable{K:Av}{M:Fb}{e:Expr}{x:Ae}{p:AQ}{r:U V->Hp->VK->Prop}{F:U D->O D}{G:U D->O (U D)}{id:String}
@[simp] def Zv(F:U D->O D)(fa:VE->O (U Sl)):VE->O D:=λa=>((fa a).bind BV).bind F
@[simp] def D9(F:U D->O (U D))(fa:VE->O (U Sl)):VE->O (U D):=λa=>((fa a).bind BV).bind F
def af(i:FC K r F){Q:VK}(h:tD K M H0 (Zv F fa) σ H Q):Oz r (Dr K M H0 fa) σ H Q:=by
 obtain⟨a,d,R,e,q⟩:=h;unfold Zv at e;cases b:fa a with|none=>simp[b]at e|some f=>
  rw[b]at e;cases c:BV f with|none=>erw[Ay,c]at e;cases e|some j=>
   erw[Ay,c]at e;exact⟨a,f,R,b,λk l g m=>i (Nf M a σ) l k j d Q (R.st g).nh (OJ m c) e λv n s o=>q v n (g.trans s) o⟩
def nT(i:OI K r G){Q:VK}(h:tF K M H0 (D9 G fa) σ H Q):Oz r (Dr K M H0 fa) σ H Q:=by
 obtain⟨b,d,R,e,q⟩:=h;unfold D9 at e;cases c:fa b with|none=>simp[c]at e|some f=>
  rw[c]at e;cases a:BV f with|none=>erw[Ay,a]at e;cases e|some j=>
   erw[Ay,a]at e;exact⟨b,f,R,c,λk l g m=>i (Nf M b σ) l k j d Q (R.st g).nh (OJ m a) e λo p a n=>Lx g a n q⟩
def ZN(b:Es X (.builtin id) r)(c:FC K r F)(f:Gl X x)(g:X.mg x=yA)(i:Fq x=Z (.builtin id))(a:JA X (e::es) (Dr K M H0 fa))(j:x≠"__name__":=by ext)(hz:CA X x e es pos:=by exact Ha):JE X (.Call (.Name x p) (e::es) [] pos) (tD K M H0 (Zv F fa)):=⟨have a:=a.h;(mq b f g i a j hz.d hz.s hz.p).mono λ_ _ _ h=>af c h⟩
def IB(b:Es X (.type id) r)(c:FC K r F)(f:Gl X x)(g:X.mg x=yA)(i:Fq x=Z (.type id))(a:JA X (e::es) (Dr K M H0 fa))(j:x≠"__name__":=by ext)(hz:CA X x e es pos:=by exact Ha):JE X (.Call (.Name x p) (e::es) [] pos) (tD K M H0 (Zv F fa)):=⟨have a:=a.h;(YG b f g i a j hz.d hz.s hz.p).mono λ_ _ _ h=>af c h⟩
def Hd(b:Es X (.type id) r)(c:OI K r G)(f:Gl X x)(g:X.mg x=yA)(i:Fq x=Z (.type id))(a:JA X (e::es) (Dr K M H0 fa))(j:x≠"__name__":=by ext)(hz:CA X x e es pos:=by exact Ha):JE X (.Call (.Name x p) (e::es) [] pos) (tF K M H0 (D9 G fa)):=⟨have a:=a.h;(YG b f g i a j hz.d hz.s hz.p).mono λ_ _ _ h=>nT c h⟩
end
inductive An where
 |fail|next(ρ:VE)|brk (ρ:VE)|cont (ρ:VE)|ret (r:Rv)
variable{g1:VE->An}
def He(K:Av)(M:Fb)(H0:Hp)(ρ:VE)(σ:St)(H:Hp)(b:VE)(Q:St->Hp->Prop):Prop:=∀a c,A6 K M H0 b a c->Step M (Nf M ρ σ) (Nf M b a) H c->Q a c
def Bg(K:Av)(M:Fb)(H0:Hp)(ρ:VE)(σ:St)(H:Hp)(D:Ends):An->Prop
 |.fail=>False
 |.next a=>He K M H0 ρ σ H a D.nx
 |.brk a=>He K M H0 ρ σ H a D.bk
 |.cont a=>He K M H0 ρ σ H a D.ct
 |.ret r=>∀v b,Ai H0 b->D8 K M H0 b r v->D.rt v b
def tS(K:Av)(M:Fb)(H0:Hp)(g:VE->An):TS:=λD b H=>∃a,A6 K M H0 a b H/\Bg K M H0 a b H D (g a)
@[simp] def Zg(a:An)(g:VE->An):An:=match a with
  |.next b=>g b
  |r=>r
def He.from{K:Av}{a b:VE}{c:St}{e:Hp}{Q:St->Hp->Prop}(s:Step M (Nf M ρ σ) (Nf M a c) H e)(h:He K M H0 ρ σ H b Q):He K M H0 a c e b Q:=λd f R g=>h d f R<|s.trans g
def Bg.from{K:Av}{M:Fb}{a:VE}{b:St}{d:Hp}{D:Ends}{r:An}(s:Step M (Nf M ρ σ) (Nf M a b) H d)(h:Bg K M H0 ρ σ H D r):Bg K M H0 a b d D r:=by
 cases r with
 |fail=>exact h
 |next c=>exact He.from s h
 |brk c=>exact He.from s h
 |cont c=>exact He.from s h
 |ret r=>exact h
section
variable{K:Av}{M:Fb}{st:Ar}{AJ:U Ar}{g g2:VE->An}{e:Expr}{f:VE->O D}
def Zf :JB X [] (tS K M H0 λρ=>.next ρ):=⟨BY.mono λD a H ⟨ρ,R,q⟩=>q a H R Step.refl⟩
def Zc(c:JS X st (tS K M H0 g1))(d:JB X AJ (tS K M H0 g2)):JB X (st::AJ) (tS K M H0 λρ=>Zg (g1 ρ) g2):=⟨have c:=c.h;have d:=d.h;(F7 c d).mono λD j H e=>by
 obtain⟨ρ,R,q⟩:=e;try dsimp only at q
 refine⟨ρ,R,?_⟩;cases b:g1 ρ with
 |fail=>rw[b]at q;exact q
 |next a=>rw[b]at q;exact λf k g i=>⟨a,g,q.from i⟩
 |brk a=>rw[b]at q;exact q
 |cont a=>rw[b]at q;exact q
 |ret r=>rw[b]at q;exact q⟩
@[simp] def ZD(o:O D):An:=match o with
  |some d=>.ret (.val d)
  |none=>.fail
def Zs(h:JE X e (tD K M H0 f)):JS X (.Return (Z e) pos) (tS K M H0 λρ=>ZD (f ρ)):=⟨have h:=h.h;(Jm h).mono λD k H c=>by
 obtain⟨ρ,R,q⟩:=c;try dsimp only at q
 cases b:f ρ with|none=>rw[b]at q;exact Bo q|some d=>
  rw[b]at q;exact⟨ρ,d,R,b,λv g s i=>q v g (R.same.trans s)<|i.nw λa j=>.inl<|.inl j⟩⟩
@[simp] def CV(o:O (U D)):An:=match o with
  |some a=>.ret (.own a)
  |none=>.fail
@[simp] def IC(o:O (U D)):An:=match o with
  |some a=>.ret (.own a .d)
  |none=>.fail
def ag{f:VE->O (U D)}(h:JE X e (Lp .d K M H0 f)):JS X (.Return (Z e) pos) (tS K M H0 λρ=>IC (f ρ)):=⟨have h:=h.h;(Jm h).mono λD p H i=>by
 obtain⟨ρ,R,q⟩:=i;try dsimp only at q
 cases g:f ρ with|none=>rw[g]at q;exact Bo q|some j=>
  rw[g]at q;exact⟨ρ,j,R,g,λa k l s m n o=>q (.ref a) l (R.same.trans s) ⟨a,k,rfl,R.same.free m,n,o.nw λb c=>by
   rcases c with c|c
   ·exact .inl<|.inl<|.inl c
   ·exact .inl<|.inr c⟩⟩⟩
def GC{f:VE->O (U D)}(h:JE X e (tF K M H0 f)):JS X (.Return (Z e) pos) (tS K M H0 λρ=>CV (f ρ)):=⟨have h:=h.h;(Jm h).mono λD o H g=>by
 obtain⟨ρ,R,q⟩:=g;try dsimp only at q
 cases d:f ρ with|none=>rw[d]at q;exact Bo q|some i=>
  rw[d]at q;exact⟨ρ,i,R,d,λa j k s l m n=>q (.ref a) k (R.same.trans s) ⟨a,j,rfl,R.same.free l,m,n.nw λb c=>by
   rcases c with c|c
   ·exact .inl<|.inl<|.inl c
   ·exact .inl<|.inr c⟩⟩⟩
@[simp] def DC(ρ:VE)(i:Nat):O (U D):=match ρ[i]? with
  |some (.own a)=>Z a
  |_=>yA
def MM(h:DC ρ i=Z xs):ρ[i]?=Z (.own xs):=by
 unfold DC at h;split at h
 ·cases h;assumption
 ·cases h
@[simp] def GD(ρ:VE)(i:Nat):O (U D):=match ρ[i]? with
  |some (.own a .d)=>Z a
  |_=>yA
def OL(h:GD ρ i=Z xs):ρ[i]?=Z (.own xs .d):=by
 unfold GD at h;split at h
 ·cases h;assumption
 ·cases h
def Az{i:Nat}(a:σ[i]?.join=Z v):σ[i]?=Z (Z v):=by
 cases z:σ[i]? with
 |none=>simp[z]at a
 |some o=>rw[z]at a;cases a;rfl
def nU(g:NV X i x):PS X (.Return (Z (.Name x c)) pos) (tS K M H0 λρ=>CV (DC ρ i)):=(Jm<|Eg g).mono λD o H h=>by
 obtain⟨ρ,R,q⟩:=h;try dsimp only at q
 cases e:DC ρ i with|none=>rw[e]at q;exact Bo q|some j=>
  rw[e]at q;obtain⟨a,k,f,⟨l,_⟩,p,m,n⟩:=R.slot i _<|MM e;refine⟨.ref a,Az f,q (.ref a) H R.same ⟨a,k,rfl,l,m,n.nw λb d=>.inl ?_⟩⟩;rcases d with d|d
  ·exact .inl d
  ·subst d;exact .inr ⟨i,j,_,_,MM e,Az f⟩
def nV(g:NV X i x):PS X (.Return (Z (.Name x c)) pos) (tS K M H0 λρ=>IC (GD ρ i)):=(Jm<|Eg g).mono λD o H h=>by
 obtain⟨ρ,R,q⟩:=h;try dsimp only at q
 cases e:GD ρ i with|none=>rw[e]at q;exact Bo q|some j=>
  rw[e]at q;obtain⟨a,k,f,⟨l,_⟩,p,m,n⟩:=R.slot i _<|OL e;refine⟨.ref a,Az f,q (.ref a) H R.same ⟨a,k,rfl,l,m,n.nw λb d=>.inl ?_⟩⟩;rcases d with d|d
  ·exact .inl d
  ·subst d;exact .inr ⟨i,j,_,_,OL e,Az f⟩
@[simp] def ZE(c:O Bool)(a b:An):An:=match c with
  |some yB=>a
  |some yC=>b
  |none=>.fail
def ZF{a b:U Ar}(d:JT X c (BO K M H0 t))(e:JB X a (tS K M H0 g1))(f:JB X b (tS K M H0 g2)):JS X (.If c a b pos) (tS K M H0 λρ=>ZE (t ρ) (g1 ρ) (g2 ρ)):=⟨have d:=d.h;have e:=e.h;have f:=f.h;(Sv d e f).mono λD j H i=>by
 obtain⟨ρ,R,q⟩:=i;try dsimp only at q
 cases g:t ρ with|none=>rw[g]at q;exact Bo q|some k=>
  rw[g]at q;refine⟨ρ,k,R,g,λl s=>?_⟩;cases k with
  |true=>refine G7 ?_;exact⟨ρ,R.st s,Bg.from (Step.of_same s) q⟩
  |false=>refine HI ?_;exact⟨ρ,R.st s,Bg.from (Step.of_same s) q⟩⟩
theorem ah{M N a:Fb}{H H':Hp}(S:Step M N a H H'):∀{c:U (U D)}{bs:U Ac},(∀b∈bs,M b)->Paired (λz b=>∃vs,Rd H b (.lst vs)/\Ad K N H z vs) c bs->Paired (λz b=>∃vs,Rd H' b (.lst vs)/\Ad K a H' z vs) c bs
 |_,_,_,.nil=>.nil
 |_,_,d,.cons ⟨vs,e,f⟩ t=>.cons ⟨vs,e.step S<|.inr<|.inl<|d _ (by simp),Ad.step S _ _ f⟩<|ah S (λb g=>d b (by simp[g])) t
def Jy{b:Type}{l:U b}{x y:b}(h:(l.set i x)[i]?=Z y):i<l.length/\x=y:=by
 by_cases a:i<l.length
 ·rw[Dz a]at h;exact⟨a,FT h⟩
 ·rw[List.getElem?_eq_none (by simpa using Nat.le_of_not_lt a)]at h;cases h
def Ly(f:ρ.length=σ.length)(h:Nf M (ρ.set i s) (σ.set i (Z v)) b):Nf M ρ σ b\/∃xs fl a,s=.own xs fl a/\v=.ref b:=by
 rcases h with h|⟨j,xs,fl,a,c,d⟩
 ·exact .inl<|.inl h
 ·by_cases e:i=j
  ·subst e;have q1:=(Jy c).2;have q2:=(Jy d).2;cases q1;cases q2;exact .inr ⟨xs,fl,a,rfl,rfl⟩
  ·rw[C1 e]at c d;exact .inl<|.inr ⟨j,xs,fl,a,c,d⟩
def A6.put(R:A6 K M H0 ρ σ H)(S:Step M (Nf M ρ σ) (Nf M (ρ.set i s) (σ.set i (Z v))) H H')(sm:Ai H0 H') (E:∀j a vs xs fl p,j≠i->ρ[j]?=Z (.own xs fl p)->σ[j]?=Z (Z (.ref a))->H a=Z (CO K fl a xs vs)->H' a=Z (CO K fl a xs vs)) (G:i<ρ.length->Tp K M (Nf M (ρ.set i s) (σ.set i (Z v))) H0 H' s (Z v)) (t:∀xs fl p a j ys g l,s=.own xs fl p->v=.ref a->j≠i->ρ[j]?=Z (.own ys g l)->σ[j]?≠Z (Z (.ref a))):A6 K M H0 (ρ.set i s) (σ.set i (Z v)) H' where
 len:=by rw[Kw,Kw];exact R.len
 same:=sm;mh:=λa h z=>by
  cases e:H a with
  |none=>exact R.mh a h e
  |some o=>simp[S.kp a o e<|.inr<|.inl h]at z
 slot:=λj A e=>by
  by_cases w:i=j
  ·subst w;obtain⟨B,rfl⟩:=Jy e;rw[Dz (by rw[<- R.len];exact B)];exact G B
  ·rw[C1 w]at e ⊢;have q:=R.slot j A e;cases A with
   |no=>trivial
   |val d=>obtain⟨u,n,h⟩:=q;exact⟨u,n,Au.step S d u h⟩
   |own xs fl p=>obtain⟨a,vs,n,b,f,m,r⟩:=q;exact⟨a,vs,n,b,f,E j a vs xs fl p (CT w) e (Az n) m,Ad.step S xs vs r⟩
   |lent xs fl=>obtain⟨a,vs,n,b,f,m⟩:=q;exact⟨a,vs,n,b,f.step S<|.inr<|.inl b.1,Ad.step S xs vs m⟩
   |exc c=>obtain⟨a,C,n,b,f⟩:=q;exact⟨a,C,n,b,S.kp _ _ f<|.inr<|.inr rfl⟩
   |pin a=>exact q
   |deep F L=>obtain⟨a,bs,n,I,b,f,m,r⟩:=q;exact⟨a,bs,n,I,b,f.step S<|.inr<|.inl b,m,ah S m r⟩
 inj:=λj k xs ys fl g p l a b f m r=>by
  by_cases y:i=j
  ·by_cases x:i=k
   ·rw[<- y,x]
   ·subst y;rw[C1 x]at f r;have q1:=(Jy b).2;have q3:=(Jy m).2;cases q1;cases q3;exact absurd r<|t xs fl p a k ys g l rfl rfl (CT x) f
  ·rw[C1 y]at b m;by_cases x:i=k
   ·subst x;have q2:=(Jy f).2;have q4:=(Jy r).2;cases q2;cases q4;exact absurd m<|t ys g l a j xs fl p rfl rfl (CT y) b
   ·rw[C1 x]at f r;exact R.inj j k xs ys fl g p l a b f m r
def A6.setV(R:A6 K M H0 ρ σ H)(s:Ai H H')(h:Au K (Nf M ρ σ) H' d v):A6 K M H0 (ρ.set i (.val d)) (σ.set i (Z v)) H'/\Step M (Nf M ρ σ) (Nf M (ρ.set i (.val d)) (σ.set i (Z v))) H H':=by
 have S:Step M (Nf M ρ σ) (Nf M (ρ.set i<|.val d)<|σ.set i<|some v) H H':=⟨λa o e _=>s a o e,λb c=>by
  rcases Ly R.len c with q|⟨f,_,_,e,_⟩
  ·exact .inl q
  ·cases e⟩
 refine⟨R.put S (R.same.trans s) (λj a l f g _ _ _ _ e=>s _ _ e) (λ_=>⟨v,rfl,h.nw λb c=>?_⟩) (λf g _ a j m k _ e=>nomatch e),S⟩;rcases Ly R.len c with q|⟨f,_,_,e,_⟩
 ·exact .inl q
 ·cases e
def A6.setO(R:A6 K M H0 ρ σ H)(s:Ai H H')(d:H a=yA)(l:H' a=Z (CO K fl a xs vs))(h:Ad K (λb=>Nf M ρ σ b\/b=a) H' xs vs):A6 K M H0 (ρ.set i (.own xs fl)) (σ.set i (Z (.ref a))) H'/\Step M (Nf M ρ σ) (Nf M (ρ.set i (.own xs fl)) (σ.set i (Z (.ref a)))) H H':=by
 have nf:∀b,Nf M (ρ.set i<|.own xs fl) (σ.set i<|some<|.ref a) b->Nf M ρ σ b\/b=a:=λb c=>by
  rcases Ly R.len c with q|⟨xs,fl,_,e,f⟩
  ·exact .inl q
  ·cases f;exact .inr rfl
 have S:Step M (Nf M ρ σ) (Nf M (ρ.set i<|.own xs fl)<|σ.set i<|some<|.ref a) H H':=⟨λa o e _=>s a o e,λb c=>by
  rcases nf b c with q|q
  ·exact .inl q
  ·subst q;exact .inr d⟩
 refine⟨R.put S (R.same.trans s) (λj a vs xs fl _ _ _ _ e=>s _ _ e) (λ_=>⟨a,vs,rfl,⟨R.same.free d,λ_ z=>nomatch z⟩,λm=>R.fresh d<|.inl m,l,h.nw λb c=>.inl<|nf b c⟩) (λn p _ v j r g k e f w t u=>?_),S⟩;cases f;exact R.fresh d<|.inr ⟨j,r,g,k,t,u⟩
def A6.chg{fl2:Kd}{ys:U D}{ws:U V}(R:A6 K M H0 ρ σ H)(m:ρ[i]?=Z (.own xs fl c))(g:σ[i]?=Z (Z (.ref a)))(h:Ad K (Nf M ρ σ) H ys ws):A6 K M H0 (ρ.set i (.own ys fl2 c)) σ (AM H a (CO K fl2 a ys ws))/\Step M (Nf M ρ σ) (Nf M (ρ.set i (.own ys fl2 c)) σ) H (AM H a (CO K fl2 a ys ws)):=by
 obtain⟨B,L,w,⟨x,C⟩,y,E,N⟩:=R.slot i _ m;rw[g]at w;have G:a=B:=by simpa using w
 subst G;have n:σ.set i (Z<|.ref a)=σ:=by
  apply HK;intro j;by_cases e:i=j
  ·subst e;rw[Dz (List.getElem?_eq_some_iff.mp g).1,g]
  ·rw[C1 e]
 have A:Nf M ρ σ a:=.inr ⟨i,xs,fl,c,m,g⟩;have nf:∀b,Nf M (ρ.set i<|.own ys fl2 c) (σ.set i<|some<|.ref a) b->Nf M ρ σ b:=λb p=>by
  rcases Ly R.len p with q|⟨xs,_,_,e,r⟩
  ·exact q
  ·cases r;exact A
 have S:Step M (Nf M ρ σ) (Nf M (ρ.set i<|.own ys fl2 c)<|σ.set i<|some<|.ref a) H (AM H a<|CO K fl2 a ys ws):=⟨λb o e z=>by
   have ne:b≠a:=by
    rintro rfl;rcases z with z|z|z
    ·exact z A
    ·exact y z
    ·rw[E]at e;cases e;simp[Y7]at z
   rw[ZA ne];exact e,λb p=>.inl<|nf b p⟩
 have k:A6 K M H0 (ρ.set i<|.own ys fl2 c) (σ.set i<|some<|.ref a) (AM H a<|CO K fl2 a ys ws):=by
  refine R.put S (λb o e=>?_) (λj b P l d f s t u I=>?_) (λ_=>⟨a,ws,rfl,⟨x,C⟩,y,D4,Ad.step S ys ws h⟩) (λl F _ b j v d f e r s t u=>?_)
  ·have ne:b≠a:=by
    rintro rfl;simp[x]at e
   rw[ZA ne];exact R.same b o e
  ·have ne:b≠a:=by
    rintro rfl;exact s<|R.inj j i l xs d fl f c b t m u g
   rw[ZA ne];exact I
  ·cases r;exact s<|R.inj j i v xs d fl f c _ t m u g
 rw[n]at k S;exact⟨k,S⟩
def A6.frz(R:A6 K M H0 ρ σ H)(m:ρ[i]?=Z (.own xs fl p)):A6 K M H0 (ρ.set i (.val (.lst xs fl))) σ H/\Step M (Nf M ρ σ) (Nf M (ρ.set i (.val (.lst xs fl))) σ) H H:=by
 obtain⟨a,n,r,A,s,t,u⟩:=R.slot i _ m;have d:=Az r;have f:σ.set i (Z<|.ref a)=σ:=by
  apply HK;intro j;by_cases e:i=j
  ·subst e;rw[Dz (List.getElem?_eq_some_iff.mp d).1,d]
  ·rw[C1 e]
 have nf:∀b,Nf M (ρ.set i<|.val<|.lst xs fl) (σ.set i<|some<|.ref a) b->Nf M ρ σ b:=λb g=>by
  rcases Ly R.len g with q|⟨xs,_,_,e,B⟩
  ·exact q
  ·cases e
 have k:¬ Nf M (ρ.set i<|.val<|.lst xs fl) (σ.set i<|some<|.ref a) a:=by
  rintro(h|⟨j,v,w,x,l,o⟩)
  ·exact s h
  ·by_cases e:i=j
   ·subst e;have q1:=(Jy l).2;cases q1
   ·rw[C1 e]at l o;exact e<|R.inj i j xs v _ _ _ _ a m l d o
 have S:Step M (Nf M ρ σ) (Nf M (ρ.set i<|.val<|.lst xs fl)<|σ.set i<|some<|.ref a) H H:=⟨λ_ _ e _=>e,λb g=>.inl<|nf b g⟩;have c:A6 K M H0 (ρ.set i<|.val<|.lst xs fl) (σ.set i<|some<|.ref a) H:=by
  refine R.put S R.same (λ_ _ _ _ _ _ _ _ _ h=>h) (λ_=>⟨.ref a,rfl,?_⟩) (λy _ _ b j z _ _ e=>nomatch e);erw[Au];exact⟨a,n,rfl,.of k t,Ad.step S xs n u⟩
 rw[f]at c S;exact⟨c,S⟩
@[simp] def Z8(i:Nat)(o:O D)(ρ:VE):An:=match o with
  |some d=>.next (ρ.set i (.val d))
  |none=>.fail
@[simp] def CW(i:Nat)(o:O (U D))(ρ:VE):An:=match o with
  |some a=>.next (ρ.set i (.own a))
  |none=>.fail
@[simp] def F0(i:Nat)(o:O (U D))(ρ:VE):An:=match o with
  |some a=>.next (ρ.set i (.own a .d))
  |none=>.fail
def nW{f:VE->O (U D)}(h:tS K M H0 (λρ=>F0 i (f ρ) ρ) D' σ H):Kl (Lp .d K M H0 f) (Jn i) D' σ H:=by
 obtain⟨ρ,R,q⟩:=h;cases b:f ρ with|none=>erw[b,F0]at q;exact Bo q|some d=>
  erw[b,F0]at q;refine⟨ρ,d,R,b,λa k l s c e g=>?_⟩;obtain⟨j,S1⟩:=R.setO s c e g;exact q _ _ j S1
def KC{f:VE->O (U D)}{i:Nat}{x:Ae}{a:AQ}(c:X.N.Nodup)(g:X.N[i]?=Z x)(j:Loc X.env.scope x)(b:JE X e (Lp .d K M H0 f))(k:DB e (Z (.Name x a)) pos.line X.env=AH yC:=by rfl)(l:autoParam (X.fn x=yB\/X.env.scope.names.lookup x=Z .local) ya):JS X (.Assign [.Name x a] e pos) (tS K M H0 λρ=>F0 i (f ρ) ρ):=⟨have b:=b.h;(Lg c g j b k l).mono λ_ _ _ q=>nW q⟩
def ai(h:tS K M H0 (λρ=>Z8 i (f ρ) ρ) D' σ H):Kl (tD K M H0 f) (Jn i) D' σ H:=by
 obtain⟨ρ,R,q⟩:=h;cases a:f ρ with|none=>erw[a,Z8]at q;exact Bo q|some d=>
  erw[a,Z8]at q;refine⟨ρ,d,R,a,λv e s b=>?_⟩;obtain⟨c,S1⟩:=R.setV s b;exact q _ _ c S1
def Ts{f:VE->O (U D)}(h:tS K M H0 (λρ=>CW i (f ρ) ρ) D' σ H):Kl (tF K M H0 f) (Jn i) D' σ H:=by
 obtain⟨ρ,R,q⟩:=h;cases b:f ρ with|none=>erw[b,CW]at q;exact Bo q|some d=>
  erw[b,CW]at q;refine⟨ρ,d,R,b,λa k l s c e g=>?_⟩;obtain⟨j,S1⟩:=R.setO s c e g;exact q _ _ j S1
def nX{i:Nat}{x:Ae}{a:AQ}(c:X.N.Nodup)(d:X.N[i]?=Z x)(g:Loc X.env.scope x)(b:JE X e (tD K M H0 f))(j:DB e (Z (.Name x a)) pos.line X.env=AH yC:=by rfl)(k:autoParam (X.fn x=yB\/X.env.scope.names.lookup x=Z .local) ya):JS X (.Assign [.Name x a] e pos) (tS K M H0 λρ=>Z8 i (f ρ) ρ):=⟨have b:=b.h;(Lg c d g b j k).mono λ_ _ _ q=>ai q⟩
def Ge{f:VE->O (U D)}{i:Nat}{x:Ae}{a:AQ}(c:X.N.Nodup)(d:X.N[i]?=Z x)(g:Loc X.env.scope x)(b:JE X e (tF K M H0 f))(j:DB e (Z (.Name x a)) pos.line X.env=AH yC:=by rfl)(k:autoParam (X.fn x=yB\/X.env.scope.names.lookup x=Z .local) ya):JS X (.Assign [.Name x a] e pos) (tS K M H0 λρ=>CW i (f ρ) ρ):=⟨have b:=b.h;(Lg c d g b j k).mono λ_ _ _ q=>Ts q⟩
@[simp] def GF(i:Nat)(ρ:VE):VE:=match ρ[i]? with
  |some (.own a b _)=>ρ.set i (.val (.lst a b))
  |_=>ρ
def Tt(i:Nat)(h:JS X st (tS K M H0 g)):JS X st (tS K M H0 λρ=>g (GF i ρ)):=⟨have h:=h.h;h.mono λd e H a=>by
 obtain⟨ρ,R,q⟩:=a;try dsimp only at q
 unfold GF at q;split at q
 ·next f b=>
  obtain⟨c,S1⟩:=R.frz b;exact⟨_,c,q.from S1⟩
 ·exact⟨ρ,R,q⟩⟩
@[simp] def Dv(i:Nat)(o:O D)(ρ:VE):An:=match ρ[i]?,o with
  |some (.own a .l b),Z d=>if a.length<AB then .next (ρ.set i (.own (a++[d]) .l b))else .fail
  |_,_=>.fail
def Hf{i:Nat}{x:Ae}{c:AQ}(r:NV X i x)(g:JE X e (tD K M H0 f))(t:DB (.Call (.Attribute (.Name x c) "append" apos) [e] [] cpos) yA pos.line X.env=AH yC:=by rfl)(hz:BA X x c "append" apos e cpos:=by exact OG):JS X (.Expr (.Call (.Attribute (.Name x c) "append" apos) [e] [] cpos) pos) (tS K M H0 λρ=>Dv i (f ρ) ρ):=⟨have g:=g.h;(Ik (Iw Jz PySem.F.slot_list_append PySem.F.type_list_append YU (Eg r) (Ee g Bm hz.s) hz.b hz.f hz.l hz.s hz.p) t).mono λE G H u=>by
  obtain⟨ρ,R,q⟩:=u;try dsimp only at q
  unfold Dv at q;split at q
  ·next w I d k y=>
   split at q
   ·next hz=>
    obtain⟨a,j,z,C,L,m,n⟩:=R.slot i _ k;have o:=Az z;refine⟨.ref a,o,.inl ⟨rfl,j,.inl<|.inl m⟩,ρ,d,R,y,λv N s A=>?_⟩;have B:=R.st s;obtain⟨R2,S2⟩:=B.chg (ys:=w++[d]) (ws:=j++[v]) (fl2:=.l) k o ((n.same s).append<|Ad.cons A Ad.nil);exact⟨a,j,v,rfl,rfl,s _ _ m,by rw[<- n.length];exact hz,q _ _ R2<|(Step.of_same s).trans S2⟩
   ·exact Bo q
  ·exact Bo q⟩
end
def MN(K:Av)(M N:Fb)(e:Hp)(q:It)(c:U D):Prop:=∀N2 a,Step M N N2 e a->∀i,(∀d,c[i]?=Z d->q.go i a/\∀x b,q.yld i a x b->Ai a b/\Au K N2 b d x)/\(i=c.length->q.stop i a)
def tI(K:Av)(M:Fb)(H0:Hp)(f:VE->O (U D)):TI:=λc H R=>∃a d,A6 K M H0 a c H/\f a=Z d/\∀q b,Ai H b->MN K M (Nf M a c) b q d->R q b
def tG(K:Av)(M:Fb)(H0:Hp)(ws:U Nat)(b:D->VE->O VE):TG:=λv e H Q=>∃f d c,A6 K M H0 f e H/\Au K (Nf M f e) H d v/\b d f=Z c/\∀a ,A6 K M H0 c a H->Step M (Nf M f e) (Nf M c a) H H->(∀j,j∉ws->a[j]?=e[j]?)->Q a H
@[simp] def Zn(i:Nat)(d:D)(ρ:VE):O VE:=Z (ρ.set i (.val d))
noncomputable def Z9(b:D->VE->O VE)(g:VE->An):U D->VE->An
 |[],c=>.next c
 |d::f,c=>match b d c with
  |none=>.fail
  |some e=>match g e with
   |.next a=>Z9 b g f a
   |.cont a=>Z9 b g f a
   |.brk a=>.next a
   |r=>r
@[simp] def Cb(f:VE->O (U D))(b:D->VE->O VE)(g:VE->An):VE->An:=λa=>match f a with
  |some c=>Z9 b g c a
  |none=>.fail
section
variable{K:Av}{M:Fb}{e:Expr}{f:VE->O (U D)}{b:D->VE->O VE}{g:VE->An}
def nY{i:Nat}{x:Ae}(b:X.N.Nodup)(c:X.N[i]?=Z x)(f:Loc X.env.scope x)(g:autoParam (X.fn x=yB\/X.env.scope.names.lookup x=Z .local) ya):JG X (.Name x pos) (tG K M H0 [i] (Zn i)):=⟨by
 intro a s h H v u Q I r ⟨n,d,k,R,hd,e,q⟩;cases e;obtain⟨l,S1⟩:=R.setV (Ai.refl H) hd;exact kY b c f g a s h H v u Q I r (q _ l S1 λj m=>by rw[C1<|λe=>m (by rw[e];simp)])⟩
theorem aj{tb:TS}(hi:∀σ H R,tI K M H0 f σ H R->wi σ H R)(hg:∀v σ H Q,tG K M H0 ws b v σ H Q->tg' v σ H Q)(hb:∀D σ H,tS K M H0 g D σ H->tb D σ H) (h:tS K M H0 (Cb f b g) D' σ H):Yk wi tg' tb D' σ H:=by
 obtain⟨B,R,q⟩:=h;unfold Cb at q;cases C:f B with|none=>rw[C]at q;exact Bo q|some d=>
  rw[C]at q;refine hi _ _ _ ⟨B,d,R,C,λF P T ok=>?_⟩;refine⟨λi m j A=>m=d.length-i/\i<=d.length/\∃a,A6 K M H0 a j A/\Step M (Nf M B σ) (Nf M a j) P A/\Bg K M H0 a j A D' (Z9 b g (d.drop i) a),⟨d.length,by simp,E7 _,B,R.st T,Step.refl,?_⟩,?_⟩
  ·exact Bg.from (Step.of_same T) q
  ·rintro i m j A ⟨rfl,hle,a,S,E,c⟩;obtain⟨G,I⟩:=ok _ _ E i;by_cases n:i<d.length
   ·obtain⟨go,y⟩:=G d[i]<|Dl n;rw[MF n]at c;erw[Z9]at c;refine .inr ⟨go,λo t=>i+1<=d.length/\∃a,A6 K M H0 a o t/\Step M (Nf M B σ) (Nf M a o) P t/\Bg K M H0 a o t D' (Z9 b g (d.drop<|i+1) a),λo t z=>⟨d.length-(i+1),by lia,rfl,z⟩,λx t yl=>?_⟩;obtain⟨Y,hd⟩:=y x t yl;cases u:b d[i] a with|none=>rw[u]at c;exact Bo c|some p=>
     rw[u]at c;simp only at c;refine hg _ _ _ _ ⟨a,d[i],p,S.st Y,hd,u,λL R1 S1 _=>hb _ _ _ ⟨p,R1,?_⟩⟩;have k:=(Step.of_same Y).trans S1;cases l:g p with
     |fail=>rw[l]at c;exact c
     |next s=>rw[l]at c;exact λw N R2 S2=>⟨n,s,R2,E.trans<|k.trans S2,Bg.from (k.trans S2) c⟩
     |cont s=>rw[l]at c;exact λw N R2 S2=>⟨n,s,R2,E.trans<|k.trans S2,Bg.from (k.trans S2) c⟩
     |brk s=>rw[l]at c;exact λw N R2 S2=>c w N R2<|k.trans S2
     |ret r=>rw[l]at c;exact c
   ·have e:i=d.length:=by lia
    rw[MD (by lia)]at c;exact .inl ⟨I e,c j A S Step.refl⟩
def EW(e:PassesOwn (Ag X.prog X.w) X.A X.env X.xe)(i:X.calm=yB)(a:JI X tg iter (tI K M H0 f))(c:JG X tg (tG K M H0 ws b))(d:JB X body (tS K M H0 g))(j:∀x,FV iter X.env x=AH x:=by intro _;rfl):JS X (.For tg iter body [] pos) (tS K M H0 (Cb f b g)):=⟨have a:=a.h;have c:=c.h;have d:=d.h;(Sx e i a c d j).mono λ_ _ _ q=>aj (λ_ _ _ z=>z) (λ_ _ _ _ z=>z) (λ_ _ _ z=>z) q⟩
def PI.mono{a:TI}(h:PI X tg iter wi)(m:∀σ H R,a σ H R->wi σ H R):PI X tg iter a:=λb s σ H R I q=>h b s σ H R I<|m σ H R q
def JC(K:Av)(M N:Fb)(H:Hp)(d:D)(v:V):Prop:=match d with
 |.lst e=>∃a c,v=.ref a/\(((¬ N a\/M a)/\Rd H a (.lst c))\/KL K a c)/\Ad K N H e c
 |.lst e b=>∃a c,v=.ref a/\(¬ N a\/M a)/\Rd H a (CO K b a e c)/\Ad K N H e c
 |d=>Au K N H d v
def tQ(K:Av)(M:Fb)(H0:Hp)(f:VE->O D):TE:=λc H Q=>∃a d,A6 K M H0 a c H/\f a=Z d/\∀v b,Ai H b->JC K M (Nf M a c) b d v->Q v b
def Au.q{M N:Fb}{H:Hp}{d:D}{v:V}(h:Au K N H d v):JC K M N H d v:=by
 cases d with
 |lst g c=>
  erw[Au]at h;obtain⟨a,b,e,q,r⟩:=h;cases c with
  |l=>
   refine⟨a,b,e,?_,r⟩;rcases q with⟨n,q⟩|⟨f,z,q⟩
   ·exact .inl ⟨.inl n,q⟩
   ·cases z;exact .inr q
  |_=>
   rcases q with⟨n,q⟩|⟨f,z,_⟩
   ·exact⟨a,b,e,.inl n,q,r⟩
   ·cases z
 |_=>exact h
def PE.q{f:VE->O D}(h:PE X e (tD K M H0 f)):PE X e (tQ K M H0 f):=h.mono λc H Q ⟨a,d,R,e,q⟩=>⟨a,d,R,e,λv b s z=>q v b s z.q⟩
def HL{f:VE->O D}(h:JE X e (tD K M H0 f)):JE X e (tQ K M H0 f):=⟨PE.q h.h⟩
def nZ(m:M a)(h:Rd H a (CO K fl a xs vs))(r:Ad K N H xs vs):JC K M N H (.lst xs fl) (.ref a):=by
 cases fl with
 |l=>exact⟨a,vs,rfl,.inl ⟨.inr m,h⟩,r⟩
 |_=>exact⟨a,vs,rfl,.inr m,h,r⟩
@[simp] def Bj(ρ:VE)(i:Nat):O D:=match ρ[i]? with
  |some (.val d)=>Z d
  |some (.lent a b)=>Z (.lst a b)
  |_=>yA
def og(c:NV X i x):PE X (.Name x pos) (tQ K M H0 λρ=>Bj ρ i):=(Eg c).mono λl H Q f=>by
  obtain⟨ρ,d,R,e,q⟩:=f;try dsimp only at e q
  unfold Bj at e;split at e
  ·next h=>cases e;obtain⟨v,b,h⟩:=R.slot i _ h;exact⟨v,Az b,q v H (Ai.refl H) h.q⟩
  ·next h=>cases e;obtain⟨a,m,b,g,j,k⟩:=R.slot i _ h;exact⟨_,Az b,q _ H (Ai.refl H)<|nZ g.1 j k⟩
  ·cases e
def ak:D->O (U D)
 |.lst a=>Z a
 |_=>yA
def oh:D->O (U D)
 |.tup a=>Z a
 |_=>yA
def oi:D->O (U D)
 |.str x=>Z (x.cps.toList.map λc=>D.str ⟨#[c]⟩)
 |_=>yA
def oj{f:VE->O D}(h:PE X l (tQ X.K M H0 f)):PI X tg l (tI X.K M H0 λρ=>(f ρ).bind ak):=(lg h).mono λt H F u=>by
 obtain⟨ρ,L,R,e,q⟩:=u;try dsimp only at e q
 cases k:f ρ with|none=>rw[k]at e;cases e|some d=>
  rw[k]at e;cases d with
  |lst N A=>
   cases A with
   |d=>cases e
   |i _ _=>cases e
   |l=>
   cases e;refine⟨ρ,.lst _,R,k,λv p B C=>?_⟩;obtain⟨a,c,E,g,hd⟩:=C;have r:∀N2 j,Step M (Nf M ρ t) N2 p j->BM X.K j a c:=λN2 j S=>by
    rcases g with⟨G,g⟩|g
    ·exact .inl<|g.step S (by rcases G with z|z;exact .inl z;exact .inr<|.inl z)
    ·exact g.sq
   refine⟨a,E,⟨c,r _ _ Step.refl⟩,q _ p B λN2 j S i=>?_⟩;have b:=r _ _ S;have m:=Ad.step S _ _ hd;refine⟨λd n=>?_,λn=>⟨c,b,by rw[n,hd.length];exact Bl _⟩⟩;obtain⟨w,s,o⟩:=m.get n;refine⟨⟨c,w,b,s⟩,λx P y=>?_⟩;obtain⟨I,y⟩:=y;subst I;have:=y c b;rw[s]at this;cases this;exact⟨Ai.refl _,o⟩
  |_=>cases e
def ol{f:VE->O D}(h:PE X l (tQ X.K M H0 f)):PI X tg l (tI X.K M H0 λρ=>(f ρ).bind oh):=(lh h).mono λA H B r=>by
 obtain⟨ρ,C,R,e,q⟩:=r;try dsimp only at e q
 cases g:f ρ with|none=>rw[g]at e;cases e|some d=>
  rw[g]at e;cases d with
  |tup E=>
   cases e;refine⟨ρ,.tup _,R,g,λv s t n=>?_⟩;erw[JC,Au]at n;obtain⟨a,c,u,o,hd⟩:=n;refine⟨a,u,⟨c,o⟩,q _ s t λN2 G S i=>?_⟩;have b:=o.step S;have j:=Ad.step S _ _ hd;refine⟨λd k=>?_,λk=>⟨c,b,by rw[k,hd.length];exact Bl _⟩⟩;obtain⟨w,p,m⟩:=j.get k;refine⟨⟨c,w,b,p⟩,λx I y=>?_⟩;obtain⟨z,y⟩:=y;subst z;have:=y c b;rw[p]at this;cases this;exact⟨Ai.refl _,m⟩
  |_=>cases e
def om{f:VE->O D}(h:PE X l (tQ K M H0 f)):PI X tg l (tI K M H0 λρ=>(f ρ).bind oi):=(nb h).mono λs H t m=>by
 obtain⟨ρ,u,R,e,q⟩:=m;try dsimp only at e q
 cases j:f ρ with|none=>rw[j]at e;cases e|some d=>
  rw[j]at e;cases d with
  |str x=>
   cases e;refine⟨ρ,.str x,R,j,λv n o k=>?_⟩;erw[JC,Au]at k;refine⟨x,k,q _ n o λN2 w S i=>⟨λd a=>?_,λa=>?_⟩⟩
   ·rw[DL]at a;cases g:x.cps.toList[i]? with|none=>rw[g]at a;cases a|some c=>
     rw[g]at a;cases a;have p:i<x.cps.size:=by
      have:=(List.getElem?_eq_some_iff.mp g).1;simpa using this
     refine⟨p,λv z y=>?_⟩;obtain⟨r,A,b,y⟩:=y;subst r y;rw[<- Tb,g]at b;cases b;exact⟨Ai.refl _,by erw[Au]⟩
   ·have:i=x.cps.size:=by simpa using a
    exact Nat.le_of_eq this.symm
  |_=>cases e
def JD(lo:Int)(n:Nat):U D:=(BU n).map (λ(k:Nat)=>D.int (lo+(k:Int)))
def am{lo:Int}:MN K M N c (Mt lo n) (JD lo n):=λN2 g S i=>by
 refine⟨λd a=>?_,λa=>?_⟩
 ·have b:i<n:=by
   have:=(List.getElem?_eq_some_iff.mp a).1;simpa[JD]using this
  have e:d=D.int (lo+i):=by
   erw[JD,DL,List.getElem?_range b,Iy,MO]at a;exact a.symm
  subst e;refine⟨b,λx h y=>?_⟩;obtain⟨f,y⟩:=y;subst f y;exact⟨Ai.refl _,by erw[Au]⟩
 ·have:i=n:=by simpa[JD]using a
  exact Nat.le_of_eq this.symm
def gd{a:Type}(p:Prop)(o:O a):O a:=@ite _ p (HM p) o yA
def Lz{a:Type}{o:O a}(h:p):gd p o=o:=by unfold gd;exact @if_pos _ (HM p) h _ _ _
def OM{b:Type}{o:O b}{x:b}(h:gd p o=Z x):p/\o=Z x:=by
 by_cases a:p
 ·rw[Lz a]at h;exact⟨a,h⟩
 ·unfold gd at h;simp[@if_neg _ (HM p) a]at h
def EX:U D->O (U D)
 |[.int j]=>gd (-1000000000<=j/\j<1000000000) (Z (JD 0 j.toNat))
 |_=>yA
def MP:U D->O (U D)
 |[.int i,.int j]=>gd (-1000000000<=i/\i<1000000000 /\ -1000000000<=j/\j<1000000000) (Z (JD i (j-i).toNat))
 |_=>yA
def HN{a:Expr}{b:VE->O (U Sl)}{p:AQ}(i:Gl X "range")(k:X.mg "range"=yA)(c:JA X [a] (Dr K M H0 b))(m:AY [a] X.env=[(yC,Ax a X.env)]:=by rfl):JI X tg (.Call (.Name "range" p) [a] [] pos) (tI K M H0 λρ=>((b ρ).bind Zy).bind EX):=⟨have c:=c.h;(ll i k c m).mono λy H z n=>by
  obtain⟨ρ,A,R,e,q⟩:=n;try dsimp only at e q
  cases d:b ρ with|none=>simp[d]at e|some g=>
   rw[d]at e;cases f:Zy g with|none=>erw[Ay,f]at e;cases e|some l=>
    erw[Ay,f]at e;unfold EX at e;split at e
    ·next j=>
     obtain⟨B,e⟩:=OM e;cases e;refine⟨ρ,g,R,d,λC o s t=>?_⟩;have hd:=ML t f;erw[Ad,Au]at hd;obtain⟨v,r,u,w,x⟩:=hd;subst u w x;exact⟨j,rfl,by lia,by lia,q _ o s am⟩
    ·cases e⟩
theorem on{a b:Expr}{c:VE->O (U Sl)}{p:AQ}(n:Gl X "range")(o:X.mg "range"=yA)(d:JA X [a,b] (Dr K M H0 c))(s:AY [a,b] X.env=[(yC,Ax a X.env),(yC,Ax b X.env)]:=by rfl)(f:AY [b] X.env=[(yC,Ax b X.env)]:=by rfl):JI X tg (.Call (.Name "range" p) [a,b] [] pos) (tI K M H0 λρ=>((c ρ).bind Zy).bind MP):=⟨have d:=d.h;(lm n o d s f).mono λE H G t=>by
  obtain⟨ρ,I,R,e,q⟩:=t;try dsimp only at e q
  cases g:c ρ with|none=>simp[g]at e|some m=>
   rw[g]at e;cases k:Zy m with|none=>erw[Ay,k]at e;cases e|some l=>
    erw[Ay,k]at e;unfold MP at e;split at e
    ·next i j=>
     obtain⟨F,e⟩:=OM e;cases e;refine⟨ρ,m,R,g,λL u w x=>?_⟩;have hd:=ML x k;erw[Ad,Au]at hd;obtain⟨v,r,y,z,N,P,A,B,C⟩:=hd;subst z B C A y;exact⟨i,j,rfl,⟨by lia,by lia,by lia,by lia⟩,q _ u w am⟩
    ·cases e⟩
end
def ON(K:Av)(M:Fb)(H0:Hp)(ws:U Nat)(b:U D->VE->O VE):Il:=λg d H Q=>∃e f c,A6 K M H0 e d H/\Ad K (Nf M e d) H f g/\b f e=Z c/\∀a ,A6 K M H0 c a H->Step M (Nf M e d) (Nf M c a) H H->(∀j,j∉ws->a[j]?=d[j]?)->Q a H
@[simp] def Cp:U D->VE->O VE
  |[],a=>Z a
  |_,_=>yA
@[simp] def ZI(b:D->VE->O VE)(c:U D->VE->O VE):U D->VE->O VE
  |d::r,a=>(b d a).bind (c r)
  |_,_=>yA
@[simp] def Cn(n:Nat)(b:U D->VE->O VE):D->VE->O VE
  |.tup a,c=>if a.length=n then b a c else yA
  |_,_=>yA
section
variable{K:Av}{M:Fb}{e:Expr}{ws':U Nat}{b:D->VE->O VE}{c:U D->VE->O VE}
def Hg :JK X [] (ON K M H0 [] Cp):=⟨by
 intro a s b H c d Q I r ⟨h,f,g,R,hd,e,q⟩;cases f with
 |nil=>
  cases e;erw[Ad]at hd;exact k3 a s b H c d Q I r ⟨hd,q b R Step.refl λ_ _=>rfl⟩
 |cons=>cases e⟩
def Z7(g:JG X e (tG K M H0 ws b))(i:JK X es (ON K M H0 ws' c))(t:(GY (e::es) X.env).map (·.2)=assign e X.env::(GY es X.env).map (·.2):=by rfl):JK X (e::es) (ON K M H0 (ws++ws') (ZI b c)):=⟨have g:=g.h;have i:=i.h;by
 intro a s u H y w Q I r ⟨p,k,l,R,hd,e,q⟩;cases k with|nil=>cases e|cons d k=>
  erw[Ad]at hd;obtain⟨v,x,rfl,z,A⟩:=hd;erw[ZI]at e;cases m:b d p with|none=>simp[m]at e|some f=>
   rw[m]at e;refine k5 g i t a s u H _ w Q I r ⟨v,x,rfl,p,d,f,R,z,m,λB C S1 E=>⟨f,k,l,C,Ad.step S1 _ _ A,e,λn R2 S2 G=>q n R2 (S1.trans S2) λj o=>?_⟩⟩;rw[Dk,not_or]at o;rw[G j o.2,E j o.1]⟩
def Hh{k n:Nat}(i:X.calm=yB)(h:JK X es (ON X.K M H0 ws c))(j:(GY es X.env).length=n:=by rfl)(f:(GY es X.env).findIdx? (·.1)=yA:=by rfl):JG X (.Tuple es k pos) (tG X.K M H0 ws (Cn n c)):=⟨have h:=h.h;by
 intro b s l H v u Q I r ⟨m,d,g,R,hd,e,q⟩;cases d with
 |tup o=>
  erw[Cn]at e;split at e
  ·next p=>
   erw[Au]at hd;obtain⟨a,t,w,x,hd⟩:=hd;exact k7 i h j f b s l H v u Q I r ⟨a,t,w,x,by rw[<- hd.length];exact p,m,o,g,R,hd,e,q⟩
  ·cases e
 |_=>cases e⟩
end
@[simp] def ID:O Sl->Sl
  |some (.val d)=>.val d
  |some (.own a b _)=>.lent a b
  |some (.lent a b)=>.lent a b
  |_=>.no
@[simp] def ZK(k:Nat)(oix:U Nat)(ρ:VE):VE:=Do k .no++oix.map λj=>ID ρ[j]?
noncomputable def C4(b:D->VE->O VE)(t:VE->O Bool)(e:VE->O D)(ρ:VE):U D->O (U D)
 |[]=>Z []
 |d::c=>match b d ρ with
  |none=>yA
  |some a=>match t a with
   |some yB=>Zb (e a) (C4 b t e ρ c)
   |some yC=>C4 b t e ρ c
   |none=>yA
@[simp] def ZG(k:Nat)(oix:U Nat)(f:VE->O (U D))(b:D->VE->O VE)(t:VE->O Bool)(e:VE->O D):VE->O (U D):=λa=>(Zu (f a)).bind (C4 b t e (ZK k oix a))
section
variable{K:Av}{M:Fb}{f:VE->O (U D)}{b:D->VE->O VE}{t:VE->O Bool}{e:VE->O D}{k:Nat}{oix:U Nat}
def A6.comp(R:A6 K M H0 ρ σ H)(k:Nat)(oix:U Nat):A6 K (Nf M ρ σ) H (ZK k oix ρ) (Fc k oix σ) H/\∀a,Nf (Nf M ρ σ) (ZK k oix ρ) (Fc k oix σ) a->Nf M ρ σ a:=by
 have b:∀(j:Nat) (c:U D) (e:Kd) (f:O Ac),(ZK k oix ρ)[j]?≠Z (Sl.own c e f):=λj c e f h=>by
  unfold ZK at h;rw[KD]at h;split at h
  ·rw[Kr]at h;split at h<;>cases h
  ·rw[DL]at h;cases l:oix[j-(Do k Sl.no).length]? with|none=>rw[l]at h;cases h|some o=>
    rw[l]at h;erw[Iy,MO]at h;unfold ID at h;split at h<;>cases h
 have nf:∀a,Nf (Nf M ρ σ) (ZK k oix ρ) (Fc k oix σ) a->Nf M ρ σ a:=λa h=>by
  rcases h with h|⟨j,c,e,f,h,_⟩
  ·exact h
  ·exact absurd h<|b j c e f
 refine⟨⟨by simp[ZK,Fc],Ai.refl H,R.nh,λj s h=>?_,λi j c B e x f y a h=>absurd h<|b i c e f⟩,nf⟩;unfold ZK at h;rw[KD]at h;split at h
 ·rw[Kr]at h;split at h
  ·cases h;trivial
  ·cases h
 ·next p=>
  rw[DL]at h;have r:(Fc k oix σ)[j]?=(oix[j-k]?).map λi=>(σ[i]?).join:=by
   unfold Fc;rw[SM (by simpa using p),DL];simp
  rw[r];erw[Lm]at h;cases l:oix[j-k]? with|none=>rw[l]at h;cases h|some o=>
   rw[l]at h;erw[Iy,MO]at h;erw[Iy,Option.join_some];unfold ID at h;split at h
   ·next d hd=>subst h;obtain⟨v,g,q⟩:=R.slot o _ hd;exact⟨v,g,q.nw λa m=>.inl<|nf a m⟩
   ·next c e f hd=>
    subst h;obtain⟨a,t,g,u,w,n,A⟩:=R.slot o _ hd;exact⟨a,t,g,⟨.inr ⟨o,c,e,f,hd,Az g⟩,λz=>by rw[n]at z;cases z⟩,.inl n,A.nw λa m=>.inl<|nf a m⟩
   ·next c hd=>
    subst h;obtain⟨a,t,g,u,w,n⟩:=R.slot o _ hd;exact⟨a,t,g,⟨.inl u.1,R.mh a u.1⟩,w,n.nw λa m=>.inl<|nf a m⟩
   ·subst h;trivial
def LA(K:Av)(ws:U Nat)(b:D->VE->O VE):TG:=λv a H Q=>∃M H0,tG K M H0 ws b v a H Q
def MQ(K:Av)(t:VE->O Bool):TT:=λa H Q=>∃M H0,BO K M H0 t a H Q
def MR(K:Av)(e:VE->O D):TE:=λa H Q=>∃M H0,tD K M H0 e a H Q
theorem OO(hw:∀j∈ws,j<k)(hi:∀σ H R,tI K M H0 f σ H R->wi σ H R){Q:VK}(h:tF K M H0 (ZG k oix f b t e) σ H Q):MB k oix wi (LA K ws b) (MQ K t) (MR K e) σ H Q:=by
 obtain⟨g,C,R,ex,q⟩:=h;unfold ZG at ex;cases u:Zu (f g)with
 |none=>rw[u]at ex;cases ex
 |some l=>
  rw[u]at ex;obtain⟨u,hz⟩:=OH u;have ex:C4 b t e (ZK k oix g) l=Z C:=ex;refine hi _ _ _ ⟨g,l,R,u,λF H1 s1 ok=>?_⟩;refine⟨l.length,λi L E=>i<=l.length/\L.length<=i/\Ai H1 E/\∃c AJ,Ad K (Nf M g σ) E c L/\C4 b t e (ZK k oix g) (l.drop i)=Z AJ/\c++AJ=C,⟨E7 _,Bl _,Ai.refl _,[],C,Ad.nil,ex,rfl⟩,?_⟩;rintro i L E ⟨hle,hy,w,c,AJ,m,d,G⟩;obtain⟨N,P⟩:=ok _ E (Step.of_same w) i;by_cases n:i<l.length
  ·obtain⟨go,y⟩:=N l[i]<|Dl n;rw[MF n]at d;erw[C4]at d;refine .inr ⟨go,n,by lia,λr T=>r.length<=i+1/\Ai H1 T/\∃c AJ,Ad K (Nf M g σ) T c r/\C4 b t e (ZK k oix g) (l.drop<|i+1)=Z AJ/\c++AJ=C,λr T z=>⟨n,z⟩,λx I yl=>?_⟩;obtain⟨A,hd⟩:=y x I yl;have R3:=((R.st s1).st w).st A;obtain⟨Rc,nf⟩:=R3.comp k oix;cases S:b l[i] (ZK k oix g)with
   |none=>rw[S]at d;cases d
   |some o=>
    rw[S]at d;simp only at d;refine⟨Nf M g σ,I,ZK k oix g,l[i],o,Rc,hd.nw λa Y=>.inl<|nf a Y,S,λσ4 R4 S4 w4=>⟨?_,?_⟩⟩
    ·apply HK;intro j;rw[MC,MC];exact w4 _ λhj=>absurd (hw _ hj) (by lia)
    ·cases ht:t o with|none=>rw[ht]at d;cases d|some bb=>
      rw[ht]at d;refine⟨Nf M g σ,I,o,bb,R4,ht,λH5 B=>?_⟩;cases bb with
      |true=>
       simp only at d;obtain⟨yd,s,e1,e2,e3⟩:=Lw d;refine G7 ?_;refine⟨Nf M g σ,I,o,yd,R4.st B,e1,λv H6 s6 hv=>⟨?_,((w.trans A).trans B).trans s6,c++[yd],s,(m.same<|(A.trans B).trans s6).append<|Ad.cons (hv.nw λa Y=>.inl<|.inl Y) Ad.nil,e2,?_⟩⟩
       ·erw[GA,List.length_singleton];lia
       ·subst e3;rw[<- G];simp
      |false=>
       refine HI ?_;exact⟨by lia,(w.trans A).trans B,c,AJ,m.same<|A.trans B,d,G⟩
  ·have ei:i=l.length:=by lia
   rw[MD (by lia)]at d;cases d;rw[CF]at G;subst G;exact .inl ⟨P ei,by lia,λp hp=>Lx (s1.trans w) hp m q⟩
def PG.all(h:∀M H0,PG Y tg (tG K M H0 ws b)):PG Y tg (LA K ws b):=λa s c H v u Q I r ⟨M,H0,z⟩=>h M H0 a s c H v u Q I r z
def G5.all(h:∀M H0,G5 Y ifs (BO K M H0 t)):G5 Y ifs (MQ K t):=λa s b H Q I ⟨M,H0,z⟩=>h M H0 a s b H Q I z
def PE.all(h:∀M H0,PE Y elt (tD K M H0 e)):PE Y elt (MR K e):=λa s b H Q I ⟨M,H0,z⟩=>h M H0 a s b H Q I z
def Z6:JF Y [] (BO K M H0 λ_=>Z yB):=⟨λa s c H Q I ⟨d,b,R,e,q⟩=>Tg a s c H Q I (by cases e;exact q H<|Ai.refl H)⟩
def Tu(h:JT Y c (BO K M H0 t)):JF Y [c] (BO K M H0 t):=⟨have h:=h.h;m5 h⟩
structure CB(K:Av)(X:Cx)(own outs:List Ae)(scope:Scope)(tg:Expr)(ifs:List Expr)(elt:Expr)(ws:List Nat)(b:D->VE->Option VE)(t:VE->Option Bool)(e:VE->Option D):Prop where
 g:∀C s2 H2 fp pins,PG (DW X own outs scope C s2 H2 fp pins) tg (LA K ws b)
 t:∀C s2 H2 fp pins,G5 (DW X own outs scope C s2 H2 fp pins) ifs (MQ K t)
 e:∀C s2 H2 fp pins,PE (DW X own outs scope C s2 H2 fp pins) elt (MR K e)
def C5(j:∀{C d f g a i H'},JG (DW X own c scope C d f g a) tg (tG K i H' ws b))(k:∀{C d f g a i H'},JF (DW X own c scope C d f g a) ifs (BO K i H' t))(l:∀{C d f g a i H'},JE (DW X own c scope C d f g a) elt (tD K i H' e)):CB K X own c scope tg ifs elt ws b t e:=⟨λ_ _ _ _ _=>PG.all λ_ _=>j.h,λ_ _ _ _ _=>G5.all λ_ _=>k.h,λ_ _ _ _ _=>PE.all λ_ _=>l.h⟩
def Z1(own a:U Ae)(oix:U Nat)(S:G4 own a scope X.env.scope)(c:oix.map (λj=>X.N[j]?)=a.map Z)(i:X.calm=yB)(k:JI X tg iter (tI K M H0 f))(d:CB K X own a scope tg ifs elt ws b t e)(l:∀j∈ws,j<own.length)(m:∀x,FV iter X.env x=AH x:=by intro _;rfl):JE X (.ListComp elt [⟨tg,iter,ifs,0⟩] scope pos) (tF K M H0 (ZG own.length oix f b t e)):=⟨(Ti own a oix S c i k.h d.g d.t d.e m).mono λ_ _ _ z=>OO l (λ_ _ _ z=>z) z⟩
def oq(own a:U Ae)(oix:U Nat){i:Nat}{x:Ae}{c d:AQ}(S:G4 own a scope X.env.scope)(k:oix.map (λj=>X.N[j]?)=a.map Z)(o:X.calm=yB)(p:X.N.Nodup)(l:X.N[i]?=Z x)(q:X.env.scope.names.lookup x=Z .local)(r:JI X tg iter (tI K M H0 f))(m:CB K X own a scope tg ifs elt ws b t e)(s:∀j∈ws,j<own.length)(n:DB (.ListComp elt [⟨tg,iter,ifs,0⟩] scope pos) (Z (.Name x c)) d.line X.env=AH yB:=by rfl)(u:∀x,FV iter X.env x=AH x:=by intro _;rfl):JS X (.Assign [.Name x c] (.ListComp elt [⟨tg,iter,ifs,0⟩] scope pos) d) (tS K M H0 λρ=>CW i (ZG own.length oix f b t e ρ) ρ):=⟨(OD own a oix S k o p l q r.h m.g m.t m.e n u).mono λv w H z=>OO s (λ_ _ _ z=>z) (Ts z)⟩
def Tv(own c:U Ae)(oix:U Nat){i:Nat}{x:Ae}{k l:AQ}(S:G4 own c scope X.env.scope)(o:oix.map (λj=>X.N[j]?)=c.map Z)(w:X.calm=yB)(y:X.N.Nodup)(p:X.N[i]?=Z x)(A:X.env.scope.names.lookup x=Z .local)(B:JI X tg iter (tI K M H0 f))(m:CB K X own c scope tg ifs elt ws b t e)(C:∀j∈ws,j<own.length)(r:DB (.ListComp elt [⟨tg,iter,ifs,0⟩] scope pos) (Z (.Name x k)) l.line X.env=AH yB:=by rfl)(E:∀x,FV iter X.env x=AH x:=by intro _;rfl):JS X (.Assign [.Name x k] (.ListComp elt [⟨tg,iter,ifs,0⟩] scope pos) l) (tS K M H0 λρ=>Z8 i (ZH (ZG own.length oix f b t e ρ)) ρ):=⟨(OD own c oix S o w y p A B.h m.g m.t m.e r E).mono λG v H z=>by
   have I:=ai z;obtain⟨ρ,d,R,n,q⟩:=I;try dsimp only at n q
   cases u:ZG own.length oix f b t e ρ with|none=>rw[u]at n;cases n|some L=>
    rw[u]at n;cases n;refine OO C (λ_ _ _ z=>z) ⟨ρ,L,R,u,λa F Y s Q T P=>q _ _ s ?_⟩;erw[Au];exact⟨a,F,rfl,.of (R.fresh Q) T,P.nw λb m=>.inl<|.inl m⟩⟩
end
noncomputable def AR(a n:Nat)(g:VE->An):U Sl->O Rv:=λb=>if b.length=a then
  match g (b++Do (n-a) .no)with
  |.ret r=>Z r
  |.next _=>Z (.val .non)
  |_=>yA
 else yA
def ao{K:Av}(u:∀a,N a->H a≠yA)(h:Br K N H m vs)(n:Nat):A6 K N H (m++Do n .no) (vs.map Z++Do n yA) H:=by
 have w:=h.length;have b:∀(j:Nat) (f:U D) (g:Kd) (k:O Ac),(m++Do n Sl.no)[j]?≠Z (Sl.own f g k):=λj f g k e=>by
  rw[KD]at e;split at e
  ·obtain⟨v,_,q⟩:=h.get e;exact q
  ·rw[Kr]at e;split at e<;>cases e
 have nf:∀a,Nf N (m++Do n Sl.no) (vs.map Z++Do n yA) a->N a:=λa z=>by
  rcases z with z|⟨j,f,g,k,z,_⟩
  ·exact z
  ·exact absurd z<|b j f g k
 refine⟨by simp[w],Ai.refl H,u,λj s e=>?_,λi j f L g x k y a z=>absurd z<|b i f g k⟩;rw[KD]at e;split at e
 ·next A=>
  obtain⟨v,B,q⟩:=h.get e;rw[SN (by simpa[<- w]using A),DL,B];cases s with
  |val d=>exact⟨v,rfl,Au.nw q λa l=>.inl<|nf a l⟩
  |lent f g=>obtain⟨a,C,p,o,r,t⟩:=q;exact⟨a,C,by rw[p];rfl,⟨o,u a o⟩,r,t.nw λa l=>.inl<|nf a l⟩
  |no=>trivial
  |own f g k=>exact Bo q
  |exc c=>exact Bo q
  |pin a=>exact Bo q
  |deep M P=>obtain⟨a,bs,p,E,o,r,t,G⟩:=q;exact⟨a,bs,by rw[p];rfl,E,o,r,t,Paired.mapP G λ_ _ ⟨vs,I,F⟩=>⟨vs,I,F.nw λa l=>.inl<|nf a l⟩⟩
 ·rw[Kr]at e;split at e
  ·cases e;trivial
  ·cases e
def ot{P:A4}{w:Aj}{K:Av}{mg:Ae->O Aa}{base:Am}{x b:Ae}{st:Ar}{f:Ac}{fd:A2}{N d:U Ae}{k:Nat}{g:VE->An}(F:Ix K x b st f fd)(S:Zw N d (Zk st))(u:d.length<=N.length) (y:∀(c:Aa) (A:Ah) (outer:U Env) (s:Ab) (H:Hp) (E:XK) (M:Fb) (H0:Hp),AZ k (A.deeper (By b (Zk st) s.heap.objs.size f c))->EE (FY A3 P w K mg base N b (Zk st) f c A outer s H E).nox (DV st) (tS K M H0 g)):Aw P w K mg base A3 (k+1) f fd d (Bf K (AR d.length N.length g)):=by
 refine F.ok S (λl H Q E h=>?_) (λc A outer s H l Q E z h=>?_)
 ·obtain⟨o,p,r,t,j,a,q⟩:=h;unfold AR at a;split at a
  ·next m=>rw[<- j.length];exact m
  ·cases a
 ·obtain⟨o,p,r,t,j,a,q⟩:=h;refine⟨_,y c A outer s H E o H z,?_⟩;unfold AR at a;split at a
  ·next m=>
   have B:FX N l=l.map Z++Do (N.length-d.length) yA:=by unfold FX;rw[<- j.length,m]
   rw[B];refine⟨_,ao t j<|N.length-d.length,?_⟩;cases e:g (p++Do (N.length-d.length) .no)with
   |fail=>simp[e]at a
   |next i=>rw[e]at a;cases a;exact λC n G R=>q .non n G.same (by erw[D8,Au])
   |brk i=>rw[e]at a;cases a
   |cont i=>rw[e]at a;cases a
   |ret L=>rw[e]at a;cases a;exact λv n s I=>q v n s I
  ·cases a
def aq{K:Av}{mg:Ae->O Aa}{base:Am}{x a:Ae}{st:Ar}{f:Ac}{fd:A2}{N c:U Ae}{k:Nat}{g:VE->An}(F:Ix K x a st f fd)(S:Zw N c (Zk st))(d:c.length<=N.length) (e:∀(b:Aa) (A:Ah) (outer:U Env) (s:Ab) (H:Hp) (E:XK) (M:Fb) (H0:Hp),AZ k (A.deeper (By a (Zk st) s.heap.objs.size f b))->JB (FY A3 P w K mg base N a (Zk st) f b A outer s H E).nox (DV st) (tS K M H0 g)):Aw P w K mg base A3 (k+1) f fd c (Bf K (AR c.length N.length g)):=ot F S d λb A outer s H E M H0 i=>(e b A outer s H E M H0 i).h
def ou{K:Av}{mg:Ae->O Aa}{base:Am}{k:Nat}{f:Ac}{fd:A2}{F:U Sl->O Rv}(G:Aw P w K mg base A3 k f fd ["_law_script"] (Bf K F)) (h:∀ns:U Int,ns.length<=63->F [.val (.lst (ns.map D.int))]=Z (.val (.bl yB))):Aw P w K mg base A3 k f fd ["_law_script"] (MG K):=G.imp λj H Q E c=>by
  obtain⟨a,ns,e,d,g,q⟩:=c;refine⟨λ_=>False,[.val<|.lst<|ns.map D.int],.val<|.bl yB,λ_ z=>z.elim,⟨_,[],e,?_,rfl⟩,h ns g,λv i s b=>?_⟩
  ·erw[Ci,Au];exact⟨a,_,rfl,.of_sq d,Ad.ints ns⟩
  ·erw[D8,Au]at b;subst b;exact q i
section
variable{K:Av}
@[simp] def i2(g:Int->Int->O D):D->D->O D
  |.int i,.int j=>g i j
  |_,_=>yA
def Tw{x y d:D}(h:i2 g x y=Z d):∃i j,x=.int i/\y=.int j/\g i j=Z d:=by
 unfold i2 at h;split at h
 ·exact⟨_,_,rfl,rfl,h⟩
 ·cases h
def AC.int{N:Fb}{i:Int}{v:V}(h:AC K N H (.int i) v):v=.int i:=by simpa only[AC,Au]using h
def AC.str{N:Fb}{i:Ae}{v:V}(h:AC K N H (.str i) v):v=.str i:=by simpa only[AC,Au]using h
def AC.bl{N:Fb}{i:Bool}{v:V}(h:AC K N H (.bl i) v):v=.bl i:=by simpa only[AC,Au]using h
def AC.non{N:Fb}{v:V}(h:AC K N H .non v):v=.non:=by simpa only[AC,Au]using h
def AC.ty{N:Fb}{i:String}{v:V}(h:AC K N H (.ty i) v):v=.ty i:=by simpa only[AC,Au]using h
def AC.tup{N:Fb}{v:V}(h:AC K N H (.tup xs) v):∃a vs,v=.ref a/\B6 K H a vs/\Ad K N H xs vs:=by simpa only[AC,Au]using h
def Fe:Au K N H (.int i) (.int i):=by erw[Au]
def FD:Au K N H (.bl i) (.bl i):=by erw[Au]
def OP:Au K N H (.str i) (.str i):=by erw[Au]
def ov(g:Int->Int->Int):D7 K (HC λi j=>.int (g i j)) (i2 λi j=>Z (.int (g i j))):=by
 intro N H x y d1 d2 d Q c a b e q;obtain⟨i,j,rfl,rfl,e⟩:=Tw e;cases e;exact⟨i,j,a.int,b.int,q _ H (Ai.refl H) Fe⟩
def MS(g:Int->Int->Bool):D7 K (HC λi j=>.bl (g i j)) (i2 λi j=>Z (.bl (g i j))):=by
 intro N H x y d1 d2 d Q c a b e q;obtain⟨i,j,rfl,rfl,e⟩:=Tw e;cases e;exact⟨i,j,a.int,b.int,q _ H (Ai.refl H) FD⟩
def OQ{C:Int->Int->Prop}[∀i j,Decidable (C i j)](g:Int->Int->Int):D7 K (rI C λi j=>.int (g i j)) (i2 λi j=>if C i j then Z (.int (g i j))else yA):=by
 intro N H x y d1 d2 d Q h b c e q;obtain⟨i,j,rfl,rfl,a⟩:=Tw e;split at a
 ·next f=>cases a;exact⟨i,j,b.int,c.int,f,q _ H (Ai.refl H) Fe⟩
 ·cases a
instance (i j:Int):Decidable (Mv i j):=by unfold Mv;exact inferInstance
instance (i j:Int):Decidable (D5 i j):=by unfold D5;exact inferInstance
instance (i j:Int):Decidable (Lj i j):=by unfold Lj;exact inferInstance
@[simp] def Ei:D->D->O D:=i2 λi j=>Z (.int (i-j))
@[simp] def FE:D->D->O D:=i2 λi j=>if D5 i j then Z (.int (i*j))else yA
@[simp] def IE:D->D->O D:=i2 λi j=>if Mv i j then Z (.int (i/j))else yA
@[simp] def Cq:D->D->O D:=i2 λi j=>if 0<j then Z (.int (i%j))else yA
@[simp] def IF:D->D->O D:=i2 λi j=>if Lj i j then Z (.int (i^j.toNat))else yA
@[simp] def ar:D->D->O D:=i2 λi j=>Z (.bl (decide (i<=j)))
@[simp] def Ea:D->D->O D:=i2 λi j=>Z (.bl (decide (j<i)))
@[simp] def Tz:D->D->O D:=i2 λi j=>Z (.bl (decide (j<=i)))
section
variable{M:Fb}{a b:Expr}{f g:VE->O D}
def IG(c:JE X a (tP K M H0 f))(d:JE X b (tP K M H0 g)):JE X (.BinOp a .Sub b pos) (tD K M H0 (Zd Ei f g)):=⟨have c:=c.h;have d:=d.h;Lr lx (ov _) c d⟩
def HP(c:JE X a (tP K M H0 f))(d:JE X b (tP K M H0 g)):JE X (.BinOp a .Mult b pos) (tD K M H0 (Zd FE f g)):=⟨have c:=c.h;have d:=d.h;Lr ly (OQ _) c d⟩
def LB(c:JE X a (tP K M H0 f))(d:JE X b (tP K M H0 g)):JE X (.BinOp a .FloorDiv b pos) (tD K M H0 (Zd IE f g)):=⟨have c:=c.h;have d:=d.h;Lr lz (OQ _) c d⟩
def ZX(c:JE X a (tP K M H0 f))(d:JE X b (tP K M H0 g)):JE X (.BinOp a .Mod b pos) (tD K M H0 (Zd Cq f g)):=⟨have c:=c.h;have d:=d.h;Lr lA (OQ _) c d⟩
def OR(c:JE X a (tP K M H0 f))(d:JE X b (tP K M H0 g)):JE X (.BinOp a .Pow b pos) (tD K M H0 (Zd IF f g)):=⟨have c:=c.h;have d:=d.h;Lr lB (OQ _) c d⟩
@[simp] def OS:O D->O D
  |some (.int i)=>Z (.int (-i))
  |_=>yA
def ow(b:JE X a (tP K M H0 f)):JE X (.UnaryOp .USub a pos) (tD K M H0 λρ=>OS (f ρ)):=⟨have b:=b.h;(lw lD b).mono λl H Q c=>by
 obtain⟨ρ,d,R,e,q⟩:=c;try dsimp only at e q
 unfold OS at e;split at e
 ·next i g=>cases e;exact⟨ρ,.int i,R,g,λv j s k=>⟨i,k.int,q _ j s Fe⟩⟩
 ·cases e⟩
end
end
section
def au(K:Av):R2:=λx y H Q=>∃l b a c,x=.ref l/\y=.ref b/\BM K H l a/\BM K H b c/\a.length+c.length<=AB/\∀p,H p=yA->Q (.ref p) (AM H p (.lst (a++c)))
theorem IH:Cd X (GZ .Add) (au X.K):=by
 intro k s L H x y v u Q I w z h;obtain⟨l,b,M,N,rfl,rfl,A,B,R,q⟩:=h;cases w;cases z;obtain⟨c,r,p1,T⟩:=I.list A;obtain⟨a,m,C,S⟩:=I.list B;have Y:=r.length;have E:=m.length;obtain⟨⟨cls,G,data,P⟩,o,p,n,hd⟩:=p1.isList;obtain⟨⟨t,i,data2,j⟩,d,f,n2,g⟩:=C.isList;simp only at p hd f g;subst p hd f g;have e:c.toArray++a.toArray=(c++a).toArray:=by simp
 refine concat_meets ⟨_,o,rfl⟩ ⟨_,d,rfl⟩ noFill_list_add seq_list_add PySem.F.slot_list_add PySem.F.entry_list_add (PySem.F.args_list_add_2 _ _) (list_addW l b c.toArray a.toArray n n2 G i P j (by rw[Bx,Bx];lia)) ⟨o,d,?_⟩;rw[e];exact⟨.ref _,_,I.lnew (t':=s.toks) (r.append m) (by rw[GA];lia),rfl,q _ I.fresh⟩
def aw(K:Av):R2:=λx y H Q=>∃l b a c,x=.ref l/\y=.ref b/\B6 K H l a/\B6 K H b c/\a.length+c.length<=AB /\
 (a=[]->Q (.ref b) H)/\(c=[]->Q (.ref l) H)/\∀p,H p=yA->Q (.ref p) (AM H p (.tup (a++c)))
def ox:Cd X (GZ .Add) (aw X.K):=by
 intro C s σ H x y v u Q I R T h;obtain⟨l,b,E,G,rfl,rfl,S,Y,hz,qx,qz,q⟩:=h;cases R;cases T;obtain⟨c,r,p1,z1⟩:=I.tuple S;obtain⟨a,P,p2,z2⟩:=I.tuple Y;have L:=r.length;have k:=P.length;obtain⟨⟨cls,t,data,w⟩,j,M,n,hd⟩:=id p1;obtain⟨⟨N,f,data2,g⟩,d,m,n2,o⟩:=id p2;simp only at M hd m o;subst M hd m o;by_cases A:E=[]
 ·have p:c.toArray.isEmpty=yB:=by
   subst A;have:=List.length_eq_zero_iff.mp L.symm;subst this;rfl
  exact concat_meets ⟨_,j,rfl⟩ ⟨_,d,rfl⟩ noFill_tuple_add seq_tuple_add PySem.F.slot_tuple_add ax (ay _ _) (tuple_addW0 l b c.toArray a.toArray n n2 t f w g p) ⟨j,d,⟨.ref b,H,I,rfl,qx A⟩⟩
 ·have p:¬ c.toArray.isEmpty=yB:=by
   intro z;have:c=[]:=by simpa using z
   subst this;exact A<|List.length_eq_zero_iff.mp L
  by_cases B:G=[]
  ·have i:a.toArray.isEmpty=yB:=by
    subst B;have:=List.length_eq_zero_iff.mp k.symm;subst this;rfl
   exact concat_meets ⟨_,j,rfl⟩ ⟨_,d,rfl⟩ noFill_tuple_add seq_tuple_add PySem.F.slot_tuple_add ax (ay _ _) (tuple_addW1 l b c.toArray a.toArray n n2 t f w g p i) ⟨j,d,⟨.ref l,H,I,rfl,qz B⟩⟩
  ·have i:¬ a.toArray.isEmpty=yB:=by
    intro z;have:a=[]:=by simpa using z
    subst this;exact B<|List.length_eq_zero_iff.mp k
   have e:c.toArray++a.toArray=(c++a).toArray:=by simp
   refine concat_meets ⟨_,j,rfl⟩ ⟨_,d,rfl⟩ noFill_tuple_add seq_tuple_add PySem.F.slot_tuple_add ax (ay _ _) (tuple_addW2 l b c.toArray a.toArray n n2 t f w g p i (by rw[Bx,Bx];lia)) ⟨j,d,?_⟩;rw[e];refine⟨.ref s.heap.objs.size,AM H s.heap.objs.size<|.tup<|E++G,I.laid (t':=s.toks) (λb u e=>BG _ e) (Bl _) ?_,rfl,q _ I.fresh⟩;exact⟨by rw[GA];lia,c++a,r.append P,IsTup.new _ _⟩
end
@[simp] def BS:D->D->O D
  |.int i,.int j=>Z (.int (i+j))
  |.str x,.str y=>if x.length+y.length<=AB then Z (.str (x++y))else yA
  |.lst a,.lst b=>if a.length+b.length<=AB then Z (.lst (a++b))else yA
  |.tup a,.tup b=>if a.length+b.length<=AB then Z (.tup (a++b))else yA
  |_,_=>yA
def az(K:Av):R2:=λx y H Q=>HC (λi j=>.int (i+j)) x y H Q\/(∃i j,x=.str i/\y=.str j/\i.length+j.length<=AB/\Q (.str (i++j)) H)\/au K x y H Q\/aw K x y H Q
def oy:Cd X (GZ .Add) (az X.K):=Kn.or<|Ft.or<|IH.or ox
def aA{K:Av}(c:∀a,N a->H a≠yA)(b:H p=yA)(h:Ad K N H xs vs):Au K N (AM H p (.lst vs)) (.lst xs) (.ref p):=by
 erw[Au];exact⟨p,vs,rfl,.of (λz=>c p z b) D4,h.same<|Eh b⟩
def MT{K:Av}(a:H p=yA)(h:Ad K N H xs vs):Au K N (AM H p (.tup vs)) (.tup xs) (.ref p):=by
 erw[Au];exact⟨p,vs,rfl,B6.of D4,h.same<|Eh a⟩
def oz{K:Av}:D7 K (az K) BS:=by
 intro N H x y d1 d2 d Q o k l e q;unfold BS at e;split at e
 ·cases e;exact .inl ⟨_,_,k.int,l.int,q _ H (Ai.refl H) Fe⟩
 ·split at e
  ·next g=>cases e;exact .inr<|.inl ⟨_,_,k.str,l.str,g,q _ H (Ai.refl H) OP⟩
  ·cases e
 ·split at e
  ·next g=>
   cases e;obtain⟨a,h,m,q1,c⟩:=k;obtain⟨b,i,n,q2,f⟩:=l;exact .inr<|.inr<|.inl ⟨a,b,h,i,m,n,q1,q2,by rw[<- c.length,<- f.length];exact g,λp j=>q _ _ (Eh j)<|aA o j<|c.append f⟩
  ·cases e
 ·split at e
  ·next g=>
   cases e;obtain⟨a,h,m,q1,c⟩:=k.tup;obtain⟨b,i,n,q2,f⟩:=l.tup;refine .inr<|.inr<|.inr ⟨a,b,h,i,m,n,q1,q2,by rw[<- c.length,<- f.length];exact g,λz=>?_,λz=>?_,λp j=>q _ _ (Eh j)<|MT j<|c.append f⟩
   ·refine q _ H (Ai.refl H) ?_;erw[Au];exact⟨b,h++i,rfl,by rw[z];exact q2,c.append f⟩
   ·refine q _ H (Ai.refl H) ?_;erw[Au];exact⟨a,h++i,rfl,by rw[z,CF];exact q1,c.append f⟩
  ·cases e
 ·cases e
def ZY{a b:Expr}(c:JE X a (tP X.K M H0 f))(d:JE X b (tP X.K M H0 g)):JE X (.BinOp a .Add b pos) (tD X.K M H0 (Zd BS f g)):=⟨have c:=c.h;have d:=d.h;Lr oy oz c d⟩
section
variable{prog:A4}{w:Aj}{A:Ah}{s:Ab}
def oA{i j:Aa}{lo c:O Int}(a:IsTup s.heap t items)(k:s.heap.IsSliceOf d i j .none)(pl:IsPart i lo)(n:IsPart j c) (l:HT.sIx items.size 0 lo=0/\HT.sIx items.size items.size c=items.size) (h:Q (.ref t) s):wpAny (Ag prog w) A (getItem (.ref t) (.ref d)) Q E s:=by
 obtain⟨os,e,f,o⟩:=id k;have g:s.TypeIs (.ref d) "slice":=⟨os,e,f⟩;unfold getItem;try with_reducible refine FU ?_
 first|refine Al (AO ?_)|skip
 refine Al<|wpAny_sequenceKey a.typeIs (by ext) ?_;refine Al (HE a.typeIs SQ
  (G1 SQ a.typeIs entry_tuple_getitem ?_<|args_tuple_getitem _ _))
 show wpAny _ _ (Builtin.Tuple.tupleItemsOf (.ref t) >>= _) _ _ s
 refine Al<|PyProof.Rows.tupleItemsOf_ a ?_;refine Al<|Ks g ?_;rw[if_pos (by ext)];refine Al<|HT.sliceApplied_gen k pl n ?_;have b:(((HT.sIx items.size 0 lo:Nat):Int)==0&&(1:Int)==1&&(HT.sIx items.size items.size c-HT.sIx items.size 0 lo)==items.size)=yB:=by
  rw[l.1,l.2];simp
 show wpAny _ _ (if(((HT.sIx items.size 0 lo:Nat):Int)==0&&(1:Int)==1&&(HT.sIx items.size items.size c-HT.sIx items.size 0 lo)==items.size)=yB then _ else _) _ _ s
 rw[if_pos b];unfold Builtin.Tuple.tupleIsExact;refine Al<|Al<|Ks a.typeIs<|AO ?_;rw[if_pos (by ext)];exact Al<|II<|AO ⟨_,rfl,AO h⟩
end
def oB(K:Av):V->O Int->O Int->Hp->VK->Prop:=λx lo c H Q=>∃a b,x=.ref a/\B6 K H a b/\(G2 b lo c=b->Q (.ref a) H)/\∀p,H p=yA->Q (.ref p) (AM H p (.tup (G2 b lo c)))
def IJ:Iq X (oB X.K):=by
 intro c s o H x v p t lo g u Q I i j k l h;obtain⟨a,b,rfl,m,w,q⟩:=h;by_cases e:HT.sIx b.length 0 lo=0/\HT.sIx b.length b.length g=b.length
 ·cases i;obtain⟨f,r,n,y⟩:=I.tuple m;have d:f.toArray.size=b.length:=by rw[Bx];exact r.length.symm
  refine⟨"tuple",_,PyProof.Rows.slot_tuple_getitem.lookup,n.typeIs,oA n j k l (by rw[d];exact e) ⟨.ref a,H,I,rfl,w ?_⟩⟩;unfold G2;rw[e.1,e.2,List.drop_zero,Nat.sub_zero,List.take_length]
 ·exact mF c s o H _ v p t lo g u Q I i j k l ⟨a,b,rfl,m,e,q⟩
@[simp] def Aq:D->D->O D
  |.lst a,.int i=>atI a i
  |.tup a,.int i=>atI a i
  |.str x,.int i=>if x.length<=AB then(atI x.cps.toList i).map λc=>.str ⟨#[c]⟩else yA
  |_,_=>yA
def Ad.atI{K:Av}{N:Fb}{i:Int}{d:D}(h:Ad K N H xs vs)(e:L2.atI xs i=Z d):∃v,L2.atI vs i=Z v/\Au K N H d v:=by
 unfold L2.atI at e ⊢;rw[<- h.length];cases a:D6 xs.length i with
 |none=>simp[a]at e
 |some j=>rw[a]at e;exact h.get e
def oC{K:Av}:D7 K (YQ K) Aq:=by
 intro N H x y d1 d2 d Q o b f e q;unfold Aq at e;split at e
 ·obtain⟨a,g,h,q1,j⟩:=b;obtain⟨v,k,l⟩:=j.atI e;exact .inl ⟨a,g,_,v,h,f.int,q1,k,q v H (Ai.refl H) l⟩
 ·obtain⟨a,g,h,q1,j⟩:=b.tup;obtain⟨v,k,l⟩:=j.atI e;exact .inr<|.inl ⟨a,g,_,v,h,f.int,q1,k,q v H (Ai.refl H) l⟩
 ·split at e
  ·next z i n=>
   cases m:atI z.cps.toList i with
   |none=>simp[m]at e
   |some c=>rw[m]at e;cases e;exact .inr<|.inr ⟨z,i,c,b.str,f.int,n,m,q _ H (Ai.refl H) OP⟩
  ·cases e
 ·cases e
section
variable{K:Av}{M:Fb}{a b e:Expr}{f g:VE->O D}
def oD(c:JE X a (tP X.K M H0 f))(d:JE X b (tP X.K M H0 g))(e:Kt b):JE X (.Subscript a b pos) (tD X.K M H0 (Zd Aq f g)):=⟨have c:=c.h;have d:=d.h;aa SW oC c d e⟩
def tO(K:Av)(M:Fb)(H0:Hp)(o:VE->O (O Int)):TO:=λc H Q=>∃a i,A6 K M H0 a c H/\o a=Z i/\∀b,Ai H b->Q i b
@[simp] def F1:O D->O (O Int)
  |some (.int i)=>Z (Z i)
  |_=>yA
def PO.mono{e:O Expr}{t t':TO}(h:PO X e t)(m:∀σ H Q,t' σ H Q->t σ H Q):PO X e t':=by
 intro a s σ H Q I q;exact h a s σ H Q I<|m σ H Q q
def OT :JO X yA (tO K M H0 λ_=>Z yA):=⟨PO.mono mz λa H Q ⟨b,i,R,e,q⟩=>by(try dsimp only at e q);cases e;exact q H<|Ai.refl H⟩
def LC(h:JE X e (tP K M H0 f)):JO X (Z e) (tO K M H0 λρ=>F1 (f ρ)):=⟨have h:=h.h;PO.mono (mB h) λg H Q a=>by
 obtain⟨ρ,i,R,e,q⟩:=a;try dsimp only at e q
 unfold F1 at e;split at e
 ·next j b=>cases e;exact⟨ρ,.int j,R,b,λv c s d=>⟨j,d.int,q c s⟩⟩
 ·cases e⟩
def EY{a:Type}(xs:U a)(lo b:O Int):U a:=(xs.drop (HT.sIx xs.length 0 lo)).take (HT.sIx xs.length xs.length b-HT.sIx xs.length 0 lo)
@[simp] def HQ(x:D)(lo a:O Int):O D:=match x with
  |.lst b=>Z (.lst (EY b lo a))
  |.tup b=>Z (.tup (EY b lo a))
  |.str x=>if x.length<=AB then Z (.str (Txt.slice x lo a))else yA
  |_=>yA
def Ad.cut(h:Ad K N H xs vs)(lo a:O Int):Ad K N H (EY xs lo a) (G2 vs lo a):=by
 unfold EY G2;rw[h.length];exact(h.drop _).take _
@[simp] def Hj{b:Type}(f:VE->O D)(lo c:VE->O (O Int))(F:D->O Int->O Int->O b):VE->O b:=λa=>(f a).bind λx=>(lo a).bind λl=>(c a).bind λh=>F x l h
def oE{e:Type}{b:VE->O (O Int)}{F:D->O Int->O Int->O e}{d:e}(h:Hj f lo b F ρ=Z d):∃x l u,f ρ=Z x/\lo ρ=Z l/\b ρ=Z u/\F x l u=Z d:=by
 unfold Hj at h;cases a:f ρ with|none=>simp[a]at h|some x=>
  cases c:lo ρ with|none=>simp[a,c]at h|some l=>
   cases g:b ρ with
   |none=>simp[a,c,g]at h
   |some u=>rw[a,c,g]at h;exact⟨x,l,u,rfl,rfl,rfl,h⟩
def OU{A B:O Expr}{C:VE->O (O Int)}(m:JE X e (tP X.K M H0 f))(n:JO X A (tO X.K M H0 lo))(o:JO X B (tO X.K M H0 C)):JE X (.Subscript e (.Slice A B yA p2) pos) (tD X.K M H0 (Hj f lo C HQ)):=⟨have m:=m.h;have n:=n.h;have o:=o.h;(mD (Iu.or<|IJ.or ni) m n o).mono λT H Q G=>by
 obtain⟨r,d,R,ex,q⟩:=G;try dsimp only at ex q
 obtain⟨x,l,u,I,F,L,b⟩:=oE ex;refine⟨r,x,R,I,λv S t c=>⟨r,l,R.st t,F,λY w=>⟨r,u,(R.st t).st w,L,λH3 E=>?_⟩⟩⟩;have c:=(c.same w).same E;have s:=(t.trans w).trans E;have N:=R.st s;unfold HQ at b;split at b
 ·cases b;obtain⟨a,i,y,j,k⟩:=c;exact .inl ⟨a,i,y,j,λp g=>q _ _ (s.trans<|Eh g)<|aA N.nh g<|k.cut l u⟩
 ·cases b;obtain⟨a,i,y,j,k⟩:=c.tup;refine .inr<|.inl ⟨a,i,y,j,λz=>q _ _ s ?_,λp g=>q _ _ (s.trans<|Eh g)<|MT g<|k.cut l u⟩;erw[Au];exact⟨a,i,rfl,j,z ▸ k.cut l u⟩
 ·split at b
  ·next P=>cases b;exact .inr<|.inr ⟨_,c.str,P,q _ _ s OP⟩
  ·cases b
 ·cases b⟩
end
mutual
noncomputable def AE:D->D->Bool
 |.non,.non=>yB
 |.bl a,.bl b=>a==b
 |.bl a,.int b=>(if a then 1 else 0)==b
 |.int a,.bl b=>a==(if b then 1 else 0)
 |.int a,.int b=>a==b
 |.str a,.str b=>a==b
 |.tup c,.tup d=>CU c d
 |.lst c,.lst d=>CU c d
 |_,_=>yC
noncomputable def CU:U D->U D->Bool
 |[],[]=>yB
 |x::a,y::b=>AE x y&&CU a b
 |_,_=>yC
end
@[simp] def AT:Nat->D->Bool
  |_,.non=>yB
  |_,.bl _=>yB
  |_,.int _=>yB
  |_,.str _=>yB
  |n+1,.tup a=>a.all (AT n)
  |n+1,.lst a=>a.all (AT n)
  |_,_=>yC
mutual
theorem MU:∀(n:Nat)(d:D),AT n d=yB->AE d d=yB
 |_,.non,_=>by erw[AE]
 |_,.bl _,_=>by erw[AE,beq_self_eq_true]
 |_,.int _,_=>by erw[AE,beq_self_eq_true]
 |_,.str _,_=>by erw[AE,beq_self_eq_true]
 |0,.ty _,h=>by simp[AT]at h
 |_+1,.ty _,h=>by simp[AT]at h
 |0,.tup a,h=>by simp[AT]at h
 |0,.lst a _,h=>by simp[AT]at h
 |n+1,.tup a,h=>by erw[AT]at h;erw[AE];exact MV n a h
 |n+1,.lst a .l,h=>by erw[AT]at h;erw[AE];exact MV n a h
 |n+1,.lst a .d,h=>by simp[AT]at h
 |n+1,.lst a (.i _ _),h=>by simp[AT]at h
theorem MV:∀(n:Nat)(xs:U D),xs.all (AT n)=yB->CU xs xs=yB
 |_,[],_=>by erw[CU]
 |n,x::xs,h=>by
  erw[KG,Dp]at h
  erw[CU,Dp]
  exact⟨MU n x h.1,MV n xs h.2⟩
end
theorem TB:∀{xs ys:U D},xs.length≠ys.length->CU xs ys=yC
 |[],[],h=>absurd rfl h
 |[],_::_,_=>by erw[CU]
 |_::_,[],_=>by erw[CU]
 |x::xs,y::ys,h=>by
  erw[CU];rw[TB (by simpa using h),Bool.and_false]
theorem TC:∀{xs ys:U D},xs.length=ys.length->CU xs ys=(BU xs.length).all λj=>AE (xs.getD j .non) (ys.getD j .non)
 |[],[],_=>by simp[CU]
 |[],_::_,h=>by simp at h
 |_::_,[],h=>by simp at h
 |x::xs,y::ys,h=>by
  have a:=TC (by simpa using h);erw[CU,Bp,List.range_succ_eq_map,KG,List.getD_cons_zero,FF,a];rfl
section
variable{s:Ab}
def Inv.apart(I:Inv X pins σ H s){xs:U V}(h:BM X.K H a xs)(h':B6 X.K H a ys):False:=by
 obtain⟨g,r,⟨o,n,e,c,_⟩,_⟩:=I.list h;obtain⟨b,i,⟨j,d,f,_⟩,_⟩:=I.tuple h';rw[e]at d;cases d;rw[c]at f;exact absurd f (by ext)
def Inv.apartDL(I:Inv X pins σ H s){xs:U V}(h:Rd H a (.dct g xs))(h':BM X.K H a ys):False:=by
 obtain⟨_,_,_,o,_,_,e,c,_⟩:=h.ok I.hok;obtain⟨b,i,⟨j,k,d,f,_⟩,_⟩:=I.list h';rw[e]at d;cases d;rw[c.1]at f;exact absurd f (by ext)
def Inv.apartDT(I:Inv X pins σ H s){xs:U V}(h:Rd H a (.dct g xs))(h':B6 X.K H a ys):False:=by
 obtain⟨_,_,_,o,_,_,e,c,_⟩:=h.ok I.hok;obtain⟨b,i,⟨j,d,f,_⟩,_⟩:=I.tuple h';rw[e]at d;cases d;rw[c.1]at f;exact absurd f (by ext)
def Inv.apartIL(I:Inv X pins σ H s){b:Ac}(h:Rd H a (.ins C b c))(h':BM X.K H a ys):False:=by
 obtain⟨_,_,_,e,_⟩:=(show Bc X.prog X.w H s.heap a (.ins C b c)from h.ok I.hok);obtain⟨d,i,⟨j,k,f,g,_⟩,_⟩:=I.list h';rw[e]at f;cases f;exact nomatch g
def Inv.apartIT(I:Inv X pins σ H s){b:Ac}(h:Rd H a (.ins C b c))(h':B6 X.K H a ys):False:=by
 obtain⟨_,_,_,e,_⟩:=(show Bc X.prog X.w H s.heap a (.ins C b c)from h.ok I.hok);obtain⟨d,i,⟨j,f,g,_⟩,_⟩:=I.tuple h';rw[e]at f;cases f;exact nomatch g
noncomputable def KH:D->O V
 |.non=>Z .non
 |.bl b=>Z (.bl b)
 |.int i=>Z (.int i)
 |.str x=>Z (.str x)
 |.ty n=>Z (.ty n)
 |_=>yA
def oF{d d':D}(h:KH d=Z w)(h':KH d'=Z w):d=d':=by
 cases d<;>cases h<;>cases d'<;>cases h'<;>rfl
def AC.av{K:Av}{N:Fb}{d:D}{v:V}(h:AC K N H d v):match KH d with
  |some w=>v=w
  |none=>∃a,v=.ref a:=by
 cases d with
 |lst b c=>cases c<;>(obtain⟨a,_,e,_⟩:=h;exact⟨a,e⟩)
 |tup b=>obtain⟨a,_,e,_⟩:=h.tup;exact⟨a,e⟩
 |non=>exact h.non
 |bl _=>exact h.bl
 |int _=>exact h.int
 |str _=>exact h.str
 |ty _=>exact h.ty
def AC.at{K:Av}{N c:Fb}{d d':D}{v w:V}(e:KH d=Z w)(h:AC K N H d v)(h':AC K c H d' v):d=d':=by
 have h:=h.av;have h':=h'.av;rw[e]at h;subst h;cases b:KH d' with
 |some u=>rw[b]at h';subst h';exact oF e b
 |none=>rw[b]at h';obtain⟨a,rfl⟩:=h';cases d<;>cases e
def AC.at'{K:Av}{d':D}(h':AC K N H d' (.ref a)):KH d'=yA:=by
 have h:=h'.av;cases e:KH d' with
 |none=>rfl
 |some w=>rw[e]at h;subst h;cases d'<;>cases e
mutual
/-- what an address denotes is one thing -/
theorem aC(I:Inv X pins σ H s){N u:Fb}:∀(n:Nat)(d d':D)(v:V),AT n d=yB->AC X.K N H d v->AC X.K u H d' v->d=d'
 |_,.non,d',v,_,h,c=>AC.at rfl h c
 |_,.bl _,d',v,_,h,c=>AC.at rfl h c
 |_,.int _,d',v,_,h,c=>AC.at rfl h c
 |_,.str _,d',v,_,h,c=>AC.at rfl h c
 |_,.ty _,d',v,_,h,c=>AC.at rfl h c
 |0,.tup g,d',v,o,h,c=>by simp[AT]at o
 |0,.lst g _,d',v,o,h,c=>by simp[AT]at o
 |n+1,.tup g,d',v,o,h,c=>by
  obtain⟨a,p,e,q,r⟩:=h.tup
  subst e
  have z:=c.at'
  cases d' with
  |tup m=>
   obtain⟨b,j,e,f,k⟩:=c.tup
   cases e
   have:=I.tuple_inj q f
   subst this
   rw[MW I n g m p o r k]
  |lst _ t=>
   cases t with
   |l=>obtain⟨b,j,e,f,_⟩:=c;cases e;exact(I.apart f q).elim
   |d=>obtain⟨b,j,e,f,_⟩:=c;cases e;exact(I.apartDT f q).elim
   |i=>obtain⟨b,j,e,f,_⟩:=c;cases e;exact(I.apartIT f q).elim
  |_=>cases z
 |n+1,.lst g .d,d',v,o,h,c=>by simp[AT]at o
 |n+1,.lst g (.i _ _),d',v,o,h,c=>by simp[AT]at o
 |n+1,.lst g .l,d',v,o,h,c=>by
  obtain⟨a,p,e,q,r⟩:=h
  subst e
  have z:=c.at'
  cases d' with
  |tup m=>obtain⟨b,j,e,f,k⟩:=c.tup;cases e;exact(I.apart q f).elim
  |lst m t=>
   cases t with
   |d=>obtain⟨b,j,e,f,k⟩:=c;cases e;exact(I.apartDL f q).elim
   |i=>obtain⟨b,j,e,f,k⟩:=c;cases e;exact(I.apartIL f q).elim
   |l=>
    obtain⟨b,j,e,f,k⟩:=c
    cases e
    have:=I.list_inj q f
    subst this
    rw[MW I n g m p o r k]
  |_=>cases z
theorem MW(I:Inv X pins σ H s){N b:Fb}:∀(n:Nat)(xs ys:U D)(vs:U V),xs.all (AT n)=yB->Ad X.K N H xs vs->Ad X.K b H ys vs->xs=ys
 |_,[],ys,vs,_,h,a=>by
  erw[Ad]at h;subst h
  cases ys with
  |nil=>rfl
  |cons y ys=>erw[Ad]at a;obtain⟨_,_,e,_⟩:=a;cases e
 |n,x::xs,ys,vs,o,h,a=>by
  erw[KG,Dp]at o
  erw[Ad]at h
  obtain⟨v,r,e,q,t⟩:=h
  subst e
  cases ys with
  |nil=>erw[Ad]at a;cases a
  |cons y ys=>
   erw[Ad]at a
   obtain⟨f,g,e,c,d⟩:=a
   cases e
   rw[aC I n x y v o.1 q.p c.p,MW I n xs ys r o.2 t d]
end
open SeqAt
def CJ{a:Type}{xs:U a}{d e:a}(h:xs[j]?=Z e):xs.getD j d=e:=by simp[List.getD_eq_getElem?_getD,h]
def OV{a:U Aa}(b:j<a.toArray.size)(e:a[j]?=Z u):a.toArray[j]=u:=by
 obtain⟨_,e⟩:=List.getElem?_eq_some_iff.mp e;simpa using e
def aE(A:Ah)(s:Ab)(u v:Aa)(b:Bool):Prop:=RcAt A s u v b/\EqAt A s u v b/\RcNeAt A s u v (!b)
def IK(A:Ah):A.in1.units=A.units+1:=rfl
theorem aF(I:Inv X pins σ H s)(A:Ah)(x y:D)(g h:V)(u v:Aa)(l:A.units+0<AA)(i:AT 0 x=yB)(e:AT 0 y=yB)(f:AC X.K N H x g)(b:AC X.K N H y h)(c:RelV g u)(a:RelV h v):aE A s u v (AE x y):=by
 have j:A.units<AA:=by lia
 cases x with
 |non=>
  rw[f.non]at c;cases c;cases y with
  |non=>rw[b.non]at a;cases a;erw[AE];exact⟨RcAt.none_none,EqAt.same _,RcNeAt.none_none⟩
  |bl _=>rw[b.bl]at a;cases a;erw[AE];exact⟨RcAt.none_bool _,EqAt.none_bool _,RcNeAt.none_bool _⟩
  |int _=>rw[b.int]at a;obtain⟨d,rfl⟩:=a;erw[AE];exact⟨RcAt.none_int _ _,EqAt.none_int _ _,RcNeAt.none_int _ _⟩
  |str _=>rw[b.str]at a;obtain⟨d,rfl⟩:=a;erw[AE];exact⟨RcAt.none_str _ _,EqAt.none_str _ _,RcNeAt.none_str _ _⟩
  |_=>simp[AT]at e
 |bl _=>
  rw[f.bl]at c;cases c;cases y with
  |non=>rw[b.non]at a;cases a;erw[AE];exact⟨RcAt.bool_none _,EqAt.bool_none _,RcNeAt.bool_none _⟩
  |bl _=>rw[b.bl]at a;cases a;erw[AE];exact⟨RcAt.bool_bool _ _,EqAt.bool_bool _ _,RcNeAt.bool_bool _ _⟩
  |int _=>rw[b.int]at a;obtain⟨d,rfl⟩:=a;erw[AE];exact⟨RcAt.bool_int _ _ _,EqAt.bool_int _ _ _,RcNeAt.bool_int _ _ _⟩
  |str _=>rw[b.str]at a;obtain⟨d,rfl⟩:=a;erw[AE];exact⟨RcAt.bool_str _ _ _,EqAt.bool_str _ _ _,RcNeAt.bool_str _ _ _⟩
  |_=>simp[AT]at e
 |int _=>
  rw[f.int]at c;obtain⟨k,rfl⟩:=c;cases y with
  |non=>rw[b.non]at a;cases a;erw[AE];exact⟨RcAt.int_none _ _,EqAt.int_none _ _,RcNeAt.int_none _ _⟩
  |bl _=>rw[b.bl]at a;cases a;erw[AE];exact⟨RcAt.int_bool _ _ _,EqAt.int_bool _ _ _,RcNeAt.int_bool _ _ _⟩
  |int _=>rw[b.int]at a;obtain⟨d,rfl⟩:=a;erw[AE];exact⟨RcAt.int_int _ _ _ _,EqAt.int_int _ _ _ _,RcNeAt.int_int _ _ _ _⟩
  |str _=>rw[b.str]at a;obtain⟨d,rfl⟩:=a;erw[AE];exact⟨RcAt.int_str _ _ _ _,EqAt.int_str _ _ _ _,RcNeAt.int_str _ _ _ _⟩
  |_=>simp[AT]at e
 |str _=>
  rw[f.str]at c;obtain⟨k,rfl⟩:=c;cases y with
  |non=>rw[b.non]at a;cases a;erw[AE];exact⟨RcAt.str_none _ _,EqAt.str_none _ _,RcNeAt.str_none _ _⟩
  |bl _=>rw[b.bl]at a;cases a;erw[AE];exact⟨RcAt.str_bool _ _ _,EqAt.str_bool _ _ _,RcNeAt.str_bool _ _ _⟩
  |int _=>rw[b.int]at a;obtain⟨d,rfl⟩:=a;erw[AE];exact⟨RcAt.str_int _ _ _ _,EqAt.str_int _ _ _ _,RcNeAt.str_int _ _ _ _⟩
  |str _=>rw[b.str]at a;obtain⟨d,rfl⟩:=a;erw[AE];exact⟨RcAt.str_str _ _ _ _,EqAt.str_str _ _ _ _,RcNeAt.str_str _ _ _ _⟩
  |_=>simp[AT]at e
 |_=>simp[AT]at i
theorem LF(I:Inv X pins σ H s):∀(n:Nat)(A:Ah)(x y:D)(vx vy:V)(u v:Aa),A.units+n<AA->AT n x=yB->AT n y=yB->AC X.K N H x vx->AC X.K N H y vy->RelV vx u->RelV vy v->aE A s u v (AE x y):=by
 intro n;induction n with|zero=>exact aF I|succ n ih=>
  intro A x y vx vy u v hu T o F w z m;have c:A.units<AA:=by lia
  have S:=λa b=>aF I A x y vx vy u v c a b F w z m;cases x with
  |non=>
   cases y with
   |tup k=>rw[F.non]at z;cases z;obtain⟨a2,r,t,q2,d2⟩:=w.tup;subst t;cases m;obtain⟨f,E,g,L⟩:=I.tuple q2;erw[AE];exact⟨RcAt.none_tuple g c,EqAt.none_tuple g c,RcNeAt.none_tuple g c⟩
   |lst k G=>
    cases G with
    |d=>simp[AT]at o
    |i _ _=>simp[AT]at o
    |l=>
     rw[F.non]at z;cases z;obtain⟨a2,r,t,q2,d2⟩:=w;subst t;cases m;obtain⟨f,E,g,L⟩:=I.list q2;erw[AE];exact⟨RcAt.none_list g.isList c,EqAt.none_list g.isList c,RcNeAt.none_list g.isList c⟩
   |ty _=>simp[AT]at o
   |_=>exact S rfl rfl
  |bl _=>
   cases y with
   |tup k=>rw[F.bl]at z;cases z;obtain⟨a2,r,t,q2,d2⟩:=w.tup;subst t;cases m;obtain⟨f,E,g,L⟩:=I.tuple q2;erw[AE];exact⟨RcAt.bool_tuple _ g c,EqAt.bool_tuple _ g c,RcNeAt.bool_tuple _ g c⟩
   |lst k G=>
    cases G with
    |d=>simp[AT]at o
    |i _ _=>simp[AT]at o
    |l=>
     rw[F.bl]at z;cases z;obtain⟨a2,r,t,q2,d2⟩:=w;subst t;cases m;obtain⟨f,E,g,L⟩:=I.list q2;erw[AE];exact⟨RcAt.bool_list _ g.isList c,EqAt.bool_list _ g.isList c,RcNeAt.bool_list _ g.isList c⟩
   |ty _=>simp[AT]at o
   |_=>exact S rfl rfl
  |int _=>
   cases y with
   |tup k=>rw[F.int]at z;obtain⟨t1,rfl⟩:=z;obtain⟨a2,r,t,q2,d2⟩:=w.tup;subst t;cases m;obtain⟨f,E,g,L⟩:=I.tuple q2;erw[AE];exact⟨RcAt.int_tuple _ _ g c,EqAt.int_tuple _ _ g c,RcNeAt.int_tuple _ _ g c⟩
   |lst k G=>
    cases G with
    |d=>simp[AT]at o
    |i _ _=>simp[AT]at o
    |l=>
     rw[F.int]at z;obtain⟨t1,rfl⟩:=z;obtain⟨a2,r,t,q2,d2⟩:=w;subst t;cases m;obtain⟨f,E,g,L⟩:=I.list q2;erw[AE];exact⟨RcAt.int_list _ _ g.isList c,EqAt.int_list _ _ g.isList c,RcNeAt.int_list _ _ g.isList c⟩
   |ty _=>simp[AT]at o
   |_=>exact S rfl rfl
  |str _=>
   cases y with
   |tup k=>rw[F.str]at z;obtain⟨t1,rfl⟩:=z;obtain⟨a2,r,t,q2,d2⟩:=w.tup;subst t;cases m;obtain⟨f,E,g,L⟩:=I.tuple q2;erw[AE];exact⟨RcAt.str_tuple _ _ g c,EqAt.str_tuple _ _ g c,RcNeAt.str_tuple _ _ g c⟩
   |lst k G=>
    cases G with
    |d=>simp[AT]at o
    |i _ _=>simp[AT]at o
    |l=>
     rw[F.str]at z;obtain⟨t1,rfl⟩:=z;obtain⟨a2,r,t,q2,d2⟩:=w;subst t;cases m;obtain⟨f,E,g,L⟩:=I.list q2;erw[AE];exact⟨RcAt.str_list _ _ g.isList c,EqAt.str_list _ _ g.isList c,RcNeAt.str_list _ _ g.isList c⟩
   |ty _=>simp[AT]at o
   |_=>exact S rfl rfl
  |tup q=>
   obtain⟨a1,vs1,e1,q1,d1⟩:=F.tup;subst e1;cases z;obtain⟨h,r1,p1,z1⟩:=I.tuple q1;cases y with
   |non=>rw[w.non]at m;cases m;erw[AE];exact⟨RcAt.tuple_none p1 c,EqAt.tuple_none p1 c,RcNeAt.tuple_none p1 c⟩
   |bl _=>rw[w.bl]at m;cases m;erw[AE];exact⟨RcAt.tuple_bool _ p1 c,EqAt.tuple_bool _ p1 c,RcNeAt.tuple_bool _ p1 c⟩
   |int _=>rw[w.int]at m;obtain⟨t2,rfl⟩:=m;erw[AE];exact⟨RcAt.tuple_int _ _ p1 c,EqAt.tuple_int _ _ p1 c,RcNeAt.tuple_int _ _ p1 c⟩
   |str _=>rw[w.str]at m;obtain⟨t2,rfl⟩:=m;erw[AE];exact⟨RcAt.tuple_str _ _ p1 c,EqAt.tuple_str _ _ p1 c,RcNeAt.tuple_str _ _ p1 c⟩
   |tup k=>
    obtain⟨a2,r,t,q2,d2⟩:=w.tup;subst t;cases m;obtain⟨f,E,g,L⟩:=I.tuple q2;erw[AT]at T o;have l1:=r1.length;have l2:=E.length;have m1:=d1.length;have m2:=d2.length;erw[AE];have R:RcAt A s (.ref a1) (.ref a2) (CU q k)/\RcNeAt A s (.ref a1) (.ref a2) (!CU q k):=by
     have B:∀j (Y:j<h.toArray.size) (h2:j<f.toArray.size),EqAt A.in1 s h.toArray[j] f.toArray[j] (AE (q.getD j .non)<|k.getD j .non):=λj Y h2=>?_
     ·have M:=RcAt.tuples (A:=A) (s:=s) (e:=λj=>AE (q.getD j .non)<|k.getD j .non) p1 g c B;have C:=RcNeAt.tuples (A:=A) (s:=s) (e:=λj=>AE (q.getD j .non)<|k.getD j .non) p1 g c B;have e:((BU<|min h.toArray.size f.toArray.size).all (λj=>AE (q.getD j .non)<|k.getD j .non)&&h.toArray.size==f.toArray.size)=CU q k:=by
       rw[Bx,Bx];by_cases hl:q.length=k.length
       ·rw[TC hl,show h.length=q.length by lia,show f.length=q.length by lia,Nat.min_self];simp
       ·rw[TB hl,show(h.length==f.length)=yC by simp;lia,Bool.and_false]
      rw[e]at M C;exact⟨M,C⟩
     ·have P:j<q.length:=by rw[Bx]at Y;lia
      have Q:j<k.length:=by rw[Bx]at h2;lia
      have g1:=Dl P;have g2:=Dl Q;obtain⟨w1,hw1,dw1⟩:=d1.get g1;obtain⟨w2,hw2,dw2⟩:=d2.get g2;obtain⟨u1,hu1,ru1⟩:=r1.get hw1;obtain⟨u2,hu2,ru2⟩:=E.get hw2;rw[OV Y hu1,OV h2 hu2,CJ g1,CJ g2];exact(ih A.in1 _ _ _ _ _ _ (by rw[IK];lia) (CK.mp T _<|IL P) (CK.mp o _<|IL Q) dw1.p dw2.p ru1 ru2).2.1
    refine⟨R.1,?_,R.2⟩;by_cases ea:a1=a2
    ·subst ea;have:=I.tuple_inj q1 q2;subst this;rw[MW I n q k _ T d1 d2,MV n k o];exact EqAt.same _
    ·exact EqAt.of_refs ea R.1
   |lst k G=>
    cases G with
    |d=>simp[AT]at o
    |i _ _=>simp[AT]at o
    |l=>
     obtain⟨a2,r,t,q2,d2⟩:=w;subst t;cases m;obtain⟨f,E,g,L⟩:=I.list q2;erw[AE];exact⟨RcAt.tuple_list p1 g.isList c,EqAt.tuple_list p1 g.isList c,RcNeAt.tuple_list p1 g.isList c⟩
   |ty _=>simp[AT]at o
  |lst q G=>
   cases G with
   |d=>simp[AT]at T
   |i _ _=>simp[AT]at T
   |l=>
    obtain⟨a1,vs1,e1,q1,d1⟩:=F;subst e1;cases z;obtain⟨h,r1,p1,z1⟩:=I.list q1;cases y with
    |non=>rw[w.non]at m;cases m;erw[AE];exact⟨RcAt.list_none p1.isList c,EqAt.list_none p1.isList c,RcNeAt.list_none p1.isList c⟩
    |bl _=>rw[w.bl]at m;cases m;erw[AE];exact⟨RcAt.list_bool _ p1.isList c,EqAt.list_bool _ p1.isList c,RcNeAt.list_bool _ p1.isList c⟩
    |int _=>rw[w.int]at m;obtain⟨t2,rfl⟩:=m;erw[AE];exact⟨RcAt.list_int _ _ p1.isList c,EqAt.list_int _ _ p1.isList c,RcNeAt.list_int _ _ p1.isList c⟩
    |str _=>rw[w.str]at m;obtain⟨t2,rfl⟩:=m;erw[AE];exact⟨RcAt.list_str _ _ p1.isList c,EqAt.list_str _ _ p1.isList c,RcNeAt.list_str _ _ p1.isList c⟩
    |tup k=>obtain⟨a2,r,t,q2,d2⟩:=w.tup;subst t;cases m;obtain⟨f,E,g,L⟩:=I.tuple q2;erw[AE];exact⟨RcAt.list_tuple p1.isList g c,EqAt.list_tuple p1.isList g c,RcNeAt.list_tuple p1.isList g c⟩
    |lst k G=>
     cases G with
     |d=>simp[AT]at o
     |i _ _=>simp[AT]at o
     |l=>
      obtain⟨a2,r,t,q2,d2⟩:=w;subst t;cases m;obtain⟨f,E,g,L⟩:=I.list q2;erw[AT]at T o;have l1:=r1.length;have l2:=E.length;have m1:=d1.length;have m2:=d2.length;erw[AE];have R:RcAt A s (.ref a1) (.ref a2) (CU q k)/\RcNeAt A s (.ref a1) (.ref a2) (!CU q k):=by
       by_cases hl:q.length=k.length
       ·have B:∀j (Y:j<h.toArray.size) (h2:j<f.toArray.size),EqAt A.in1 s h.toArray[j] f.toArray[j] (AE (q.getD j .non)<|k.getD j .non):=λj Y h2=>?_
        ·have M:=RcAt.lists (A:=A) (s:=s) (e:=λj=>AE (q.getD j .non)<|k.getD j .non) p1.isList g.isList (by rw[Bx,Bx];lia) c B;have C:=RcNeAt.lists (A:=A) (s:=s) (e:=λj=>AE (q.getD j .non)<|k.getD j .non) p1.isList g.isList (by rw[Bx,Bx];lia) c B;have e:(BU h.toArray.size).all (λj=>AE (q.getD j .non)<|k.getD j .non)=CU q k:=by
          rw[Bx,TC hl,show h.length=q.length by lia]
         rw[e]at M C;exact⟨M,C⟩
        ·have P:j<q.length:=by rw[Bx]at Y;lia
         have Q:j<k.length:=by rw[Bx]at h2;lia
         have g1:=Dl P;have g2:=Dl Q;obtain⟨w1,hw1,dw1⟩:=d1.get g1;obtain⟨w2,hw2,dw2⟩:=d2.get g2;obtain⟨u1,hu1,ru1⟩:=r1.get hw1;obtain⟨u2,hu2,ru2⟩:=E.get hw2;rw[OV Y hu1,OV h2 hu2,CJ g1,CJ g2];exact(ih A.in1 _ _ _ _ _ _ (by rw[IK];lia) (CK.mp T _<|IL P) (CK.mp o _<|IL Q) dw1.p dw2.p ru1 ru2).2.1
       ·rw[TB hl];have hne:(h.toArray.size != f.toArray.size)=yB:=by rw[Bx,Bx];simp;lia
        exact⟨RcAt.lists_lengths p1.isList g.isList hne c,RcNeAt.lists_lengths p1.isList g.isList hne c⟩
      refine⟨R.1,?_,R.2⟩;by_cases ea:a1=a2
      ·subst ea;have:=I.list_inj q1 q2;subst this;rw[MW I n q k _ T d1 d2,MV n k o];exact EqAt.same _
      ·exact EqAt.of_refs ea R.1
    |ty _=>simp[AT]at o
  |ty _=>simp[AT]at T
end
def deep:Nat:=12
@[simp] def Dw(x y:D):O D:=if AT deep x&&AT deep y then Z (.bl (AE x y))else yA
@[simp] def Bz(x y:D):O D:=if AT deep x&&AT deep y then Z (.bl (!AE x y))else yA
def OW(K:Av)(neg:Bool):R2:=λx y H Q=>∃N d1 d2,AC K N H d1 x/\AC K N H d2 y/\AT deep d1=yB/\AT deep d2=yB/\Q (.bl (if neg then !AE d1 d2 else AE d1 d2)) H
section
variable{K:Av}{M:Fb}{a b:Expr}{f g:VE->O D}
theorem aG(i:X.A.units+64<AA):Cd X (DA .Eq) (OW X.K yC):=by
 intro a s j H x y v u Q I b c h;obtain⟨N,d1,d2,d,e,f,g,q⟩:=h;exact(LF I deep X.A d1 d2 x y v u (by unfold deep;lia) f g d e b c).1 X.prog X.w X.xe _ ⟨.bl _,H,I,rfl,q⟩
def aH(i:X.A.units+64<AA):Cd X (DA .NotEq) (OW X.K yB):=by
 intro a s j H x y v u Q I b c h;obtain⟨N,d1,d2,d,e,f,g,q⟩:=h;exact(LF I deep X.A d1 d2 x y v u (by unfold deep;lia) f g d e b c).2.2 X.prog X.w X.xe _ ⟨.bl _,H,I,rfl,q⟩
def aI:D7 K (OW K yC) Dw:=by
 intro N H x y d1 d2 d Q f b c e q;unfold Dw at e;split at e
 ·next a=>rw[Dp]at a;cases e;exact⟨N,d1,d2,b,c,a.1,a.2,q _ H (Ai.refl H) FD⟩
 ·cases e
def aJ:D7 K (OW K yB) Bz:=by
 intro N H x y d1 d2 d Q f b c e q;unfold Bz at e;split at e
 ·next a=>rw[Dp]at a;cases e;exact⟨N,d1,d2,b,c,a.1,a.2,q _ H (Ai.refl H) FD⟩
 ·cases e
def IM(x:D)(ys:U D):Bool:=ys.any λy=>AE y x
@[simp] def Ej(neg:Bool)(x y:D):O D:=match y with
  |.lst a=>if AT deep x&&a.all (AT deep)then Z (.bl (if neg then !IM x a else IM x a))else yA
  |.tup a=>if AT deep x&&a.all (AT deep)then Z (.bl (if neg then !IM x a else IM x a))else yA
  |.str z=>match x with
   |.str w=>Z (.bl (if neg then !(!(Mw z w 0 z.length 1).isEmpty)else !(Mw z w 0 z.length 1).isEmpty))
   |_=>yA
  |_=>yA
def OX(K:Av)(neg:Bool):R2:=λx y H Q=>∃N d1 a b p,AC K N H d1 x/\y=.ref p/\(BM K H p b\/B6 K H p b)/\Ad K N H a b/\AT deep d1=yB/\a.all (AT deep)=yB/\Q (.bl (if neg then !IM d1 a else IM d1 a)) H
open Classical in
def EI(K:Av)(N:Fb)(H:Hp)(x:D)(u:Aa):Bool:=decide (∃d w,AC K N H d w/\RelV w u/\AE d x=yB)
def TD{a:U (Ac×AK)}(I:Inv X a σ H s)(hd:AC X.K N H d w)(r:RelV w u)(f:AT n d=yB):EI X.K N H x u=AE d x:=by
 classical
 unfold EI
 cases e:AE d x with
 |true=>exact @decide_eq_true _ (HM _) ⟨d,w,hd,r,e⟩
 |false=>
  refine @decide_eq_false _ (HM _) ?_
  rintro⟨g,i,b,h,c⟩
  have:=h.inj r
  subst this
  have:=aC I n d g _ f hd b
  subst this
  simp[e]at c
theorem MX{a:U (Ac×AK)}{σ:St}{H:Hp}{s:Ab}(I:Inv X a σ H s){N:Fb}{x:D}:∀{ys:U D}{vs:U V}{us:U Aa},Ad X.K N H ys vs->As vs us->ys.all (AT deep)=yB->us.any (EI X.K N H x)=IM x ys
 |[],_,_,h,r,_=>by erw[Ad]at h;subst h;cases r;rfl
 |y::ys,_,_,h,r,o=>by
  erw[KG,Dp]at o;erw[Ad]at h;obtain⟨v,t,rfl,b,c⟩:=h;cases r with
  |cons d f=>
   rw[List.any_cons,TD I b.p d o.1,MX I c f o.2];rfl
theorem MY{a:U (Ac×AK)}(I:Inv X a σ H s)(n:A.units+deep<AA)(o:AT deep x=yB)(q:AC X.K N H x d)(t:RelV d v){ys:U D}(h:Ad X.K N H ys vs)(r:As vs us)(e:ys.all (AT deep)=yB):∀u∈us,SeqAt.EqAt A s u v (EI X.K N H x u):=by
 intro u b;obtain⟨j,f⟩:=List.getElem?_of_mem b;have w:=r.length;have c:j<vs.length:=by have:=(List.getElem?_eq_some_iff.mp f).1;lia
 have g:=Dl c;obtain⟨z,i,k⟩:=r.get g;rw[f]at i;cases i;obtain⟨y,l,m⟩:=h.get' g;rw[TD I m.p k<|CK.mp e y<|Ip l];exact(LF I deep A y x _ _ _ _ n (CK.mp e y<|Ip l) o m.p q k t).2.1
theorem oG(n:X.A.units+64<AA):Cd X (DA .In) (OX X.K yC):=by
 intro g s o H x y v u Q I i l h;obtain⟨N,d1,t,z,p,j,rfl,b,hd,k,d,q⟩:=h;cases l;have c:X.A.in1.units+deep<AA:=by rw[IK];unfold deep;lia
 rcases b with b|b
 ·obtain⟨a,r,e,m⟩:=I.list b;refine SeqAt.in_listAt (EI X.K N H d1) e.isList (λw f=>MY I c k j i hd r d w (by simpa using f)) ⟨.bl _,H,I,rfl,?_⟩;rw[show a.toArray.any (EI X.K N H d1)=a.any (EI X.K N H d1) by simp,MX I hd r d];exact q
 ·obtain⟨a,r,e,m⟩:=I.tuple b;refine SeqAt.in_tupleAt (EI X.K N H d1) e (λw f=>MY I c k j i hd r d w (by simpa using f)) ⟨.bl _,H,I,rfl,?_⟩;rw[show a.toArray.any (EI X.K N H d1)=a.any (EI X.K N H d1) by simp,MX I hd r d];exact q
def oH(n:X.A.units+64<AA):Cd X (DA .NotIn) (OX X.K yB):=by
 intro g s o H x y v u Q I i l h;obtain⟨N,d1,t,z,p,j,rfl,b,hd,k,d,q⟩:=h;cases l;have c:X.A.in1.units+deep<AA:=by rw[IK];unfold deep;lia
 rcases b with b|b
 ·obtain⟨a,r,e,m⟩:=I.list b;refine SeqAt.notIn_listAt (EI X.K N H d1) e.isList (λw f=>MY I c k j i hd r d w (by simpa using f)) ⟨.bl _,H,I,rfl,?_⟩;rw[show a.toArray.any (EI X.K N H d1)=a.any (EI X.K N H d1) by simp,MX I hd r d];exact q
 ·obtain⟨a,r,e,m⟩:=I.tuple b;refine SeqAt.notIn_tupleAt (EI X.K N H d1) e (λw f=>MY I c k j i hd r d w (by simpa using f)) ⟨.bl _,H,I,rfl,?_⟩;rw[show a.toArray.any (EI X.K N H d1)=a.any (EI X.K N H d1) by simp,MX I hd r d];exact q
def oI:D7 K (λx y H Q=>OX K yC x y H Q\/∃i j,x=.str i/\y=.str j/\Q (.bl (!(Mw j i 0 j.length 1).isEmpty)) H) (Ej yC):=by
 intro N H x y d1 d2 d Q l c f e q;unfold Ej at e;split at e
 ·split at e
  ·next b=>rw[Dp]at b;cases e;obtain⟨a,g,h,q1,k⟩:=f;exact .inl ⟨N,d1,_,g,a,c,h,.inl q1,k,b.1,b.2,q _ H (Ai.refl H) FD⟩
  ·cases e
 ·split at e
  ·next b=>rw[Dp]at b;cases e;obtain⟨a,g,h,q1,k⟩:=f.tup;exact .inl ⟨N,d1,_,g,a,c,h,.inr q1,k,b.1,b.2,q _ H (Ai.refl H) FD⟩
  ·cases e
 ·split at e
  ·cases e;exact .inr ⟨_,_,c.str,f.str,q _ H (Ai.refl H) FD⟩
  ·cases e
 ·cases e
def oJ:D7 K (λx y H Q=>OX K yB x y H Q\/∃i j,x=.str i/\y=.str j/\Q (.bl (!(!(Mw j i 0 j.length 1).isEmpty))) H) (Ej yB):=by
 intro N H x y d1 d2 d Q l c f e q;unfold Ej at e;split at e
 ·split at e
  ·next b=>rw[Dp]at b;cases e;obtain⟨a,g,h,q1,k⟩:=f;exact .inl ⟨N,d1,_,g,a,c,h,.inl q1,k,b.1,b.2,q _ H (Ai.refl H) FD⟩
  ·cases e
 ·split at e
  ·next b=>rw[Dp]at b;cases e;obtain⟨a,g,h,q1,k⟩:=f.tup;exact .inl ⟨N,d1,_,g,a,c,h,.inr q1,k,b.1,b.2,q _ H (Ai.refl H) FD⟩
  ·cases e
 ·split at e
  ·cases e;exact .inr ⟨_,_,c.str,f.str,q _ H (Ai.refl H) FD⟩
  ·cases e
 ·cases e
@[simp] def Ff(lt:D->D->O Bool):U D->U D->O Bool
  |[],[]=>Z yC
  |[],_::_=>Z yB
  |_::_,[]=>Z yC
  |x::a,y::b=>if AT deep x&&AT deep y then(if AE x y then Ff lt a b else lt x y)else yA
@[simp] def ltN:Nat->D->D->O Bool
  |_,.int i,.int j=>Z (decide (i<j))
  |_,.str a,.str b=>Z (decide (a.cps.toList<b.cps.toList))
  |n+1,.tup c,.tup d=>Ff (ltN n) c d
  |n+1,.lst c .l,.lst d .l=>Ff (ltN n) c d
  |_,_,_=>yA
@[simp] def Ek(x y:D):O D:=(ltN 6 x y).map D.bl
def aK(K:Av):R2:=λx y H Q=>∃N d1 d2 b,AC K N H d1 x/\AC K N H d2 y/\ltN 6 d1 d2=Z b/\Q (.bl b) H
theorem TF(I:Inv X B σ H s):∀(n:Nat)(A:Ah)(x y:D)(vx vy:V)(u v:Aa)(b:Bool),A.units+n+deep<AA->ltN n x y=Z b->AC X.K N H x vx->AC X.K N H y vy->RelV vx u->RelV vy v->∀(prog:A4) (j:Aj) (E Q:Aa->Ab->Prop),Q (.bool b) s->wpAny (Ag prog j) A (richCompare .Lt u v) Q E s:=by
 intro n;induction n with
 |zero=>
  intro A x y vx vy u v b hu h o r f g prog j E Q q;unfold ltN at h;split at h
  ·cases h;rw[o.int]at f;rw[r.int]at g;obtain⟨t,rfl⟩:=f;obtain⟨t',rfl⟩:=g;exact HT.rcLt_int A s _ _ _ _ prog j E Q q
  ·cases h;rw[o.str]at f;rw[r.str]at g;obtain⟨t,rfl⟩:=f;obtain⟨t',rfl⟩:=g;exact(PyProof.Rows.lt_str q:wpAny (Ag prog j) A (DA .Lt _ _) Q E s)
  ·next h0=>cases h0
  ·next h0=>cases h0
  ·cases h
 |succ n ih=>
  intro A x y vx vy u v b hu h o r f g prog j E Q q;have i:∀(k a:U D) (c d:U V) (us1 B7:U Aa),Ff (ltN n) k a=Z b->Ad X.K N H k c->Ad X.K N H a d->As c us1->As d B7->FA A.in1 s us1 B7 b:=by
   intro k;induction k with
   |nil=>
    intro a c d us1 B7 h d1 d2 z l;erw[Ad]at d1;subst d1;cases z;cases a with
    |nil=>erw[Ad]at d2;subst d2;cases l;cases h;exact .nn
    |cons y a=>erw[Ad]at d2;obtain⟨w,t,rfl,_,_⟩:=d2;cases l;cases h;exact .nc
   |cons x k ihx=>
    intro a c d us1 B7 h d1 d2 z l;erw[Ad]at d1;obtain⟨w1,t1,rfl,G,dt1⟩:=d1;cases z with
    |cons F rt1=>
     cases a with|nil=>erw[Ad]at d2;subst d2;cases l;cases h;exact .cn|cons y a=>
      erw[Ad]at d2;obtain⟨w2,t2,rfl,M,dt2⟩:=d2;cases l with
      |cons P rt2=>
       erw[Ff]at h;split at h
       ·next ho=>
        rw[Dp]at ho;have he:=(LF I deep A.in1 x y _ _ _ _ (by rw[IK];lia) ho.1 ho.2 G.p M.p F P).2.1;split at h
        ·next e=>rw[e]at he;exact .eq he<|ihx a _ _ _ _ h dt1 dt2 rt1 rt2
        ·next e=>
         rw[MZ]at e;rw[e]at he;exact .ne he λprog j E Q q=>ih A.in1 x y _ _ _ _ b (by rw[IK];lia) h G.p M.p F P prog j E Q q
       ·cases h
  unfold ltN at h;split at h
  ·cases h;rw[o.int]at f;rw[r.int]at g;obtain⟨t,rfl⟩:=f;obtain⟨t',rfl⟩:=g;exact HT.rcLt_int A s _ _ _ _ prog j E Q q
  ·cases h;rw[o.str]at f;rw[r.str]at g;obtain⟨t,rfl⟩:=f;obtain⟨t',rfl⟩:=g;exact(PyProof.Rows.lt_str q:wpAny (Ag prog j) A (DA .Lt _ _) Q E s)
  ·next m k a e0=>
   cases e0;obtain⟨a1,c,C,q1,d1⟩:=o.tup;obtain⟨a2,d,L,q2,d2⟩:=r.tup;subst C L;cases f;cases g;obtain⟨T,z,p1,_⟩:=I.tuple q1;obtain⟨R,l,p2,_⟩:=I.tuple q2;exact nt p1 p2 (by simpa using i k a _ _ _ _ h d1 d2 z l) (by lia) q
  ·next m k a e0=>
   cases e0;obtain⟨a1,c,C,q1,d1⟩:=o;obtain⟨a2,d,L,q2,d2⟩:=r;subst C L;cases f;cases g;obtain⟨T,z,⟨⟨cls,dd,data,sl⟩,n1,ho1,Y,hdd1,hd1⟩,_⟩:=I.list q1;obtain⟨R,l,⟨⟨cls2,dd2,data2,sl2⟩,n2,ho2,hc2,hdd2,hd2⟩,_⟩:=I.list q2;simp only at Y hd1 hc2 hd2;subst Y hd1 hc2 hd2;exact nu ho1 ho2 (by simpa using i k a _ _ _ _ h d1 d2 z l) (by lia) q
  ·cases h
theorem aL(j:X.A.units+64<AA):Cd X (DA .Lt) (aK X.K):=by
 intro a s c H x y v u Q I d e h;obtain⟨N,d1,d2,b,f,g,i,q⟩:=h;have fin:EP X a c Q (.bool b) s:=⟨.bl b,H,I,rfl,q⟩;exact TF I 6 X.A d1 d2 x y v u b (by unfold deep;lia) i f g d e X.prog X.w X.xe _ fin
def aM:D7 K (aK K) Ek:=by
 intro N H x y d1 d2 d Q g c f e q;unfold Ek at e;cases a:ltN 6 d1 d2 with
 |none=>simp[a]at e
 |some b=>rw[a]at e;cases e;exact⟨N,d1,d2,b,c,f,a,q _ H (Ai.refl H) FD⟩
end
section
variable{K:Av}{N:Fb}
def Paired.one'{a b:Type}{F:a->b->Prop}{x:a}{vs:U b}(h:Paired F [x] vs):∃v,vs=[v]/\F x v:=by
 cases h with
 |cons r t=>cases t;exact⟨_,rfl,r⟩
def Paired.two'{a b:Type}{F:a->b->Prop}{x y:a}{vs:U b}(h:Paired F [x,y] vs):∃v w,vs=[v,w]/\F x v/\F y w:=by
 cases h with
 |cons r t=>
  obtain⟨w,rfl,q⟩:=Paired.one' t;exact⟨_,w,rfl,r,q⟩
@[simp] def ZQ:U D->O D
  |[.lst a]=>Z (.int a.length)
  |[.tup a]=>Z (.int a.length)
  |[.str x]=>if x.length<=AB then Z (.int x.length)else yA
  |_=>yA
def LG:FC K (λxs H Q=>∃x n,xs=[x]/\Yv K x H n/\Q (.int n) H) ZQ:=by
 intro N H j k d Q l h e q;unfold ZQ at e;split at e
 ·cases e;obtain⟨v,rfl,b⟩:=Paired.one' h;obtain⟨a,c,rfl,q1,g⟩:=b;exact⟨.ref a,_,rfl,.inl ⟨c,q1,rfl⟩,by rw[<- g.length];exact q _ H (Ai.refl H) Fe⟩
 ·cases e;obtain⟨v,rfl,b⟩:=Paired.one' h;obtain⟨a,c,rfl,q1,g⟩:=b.tup;exact⟨.ref a,_,rfl,.inr ⟨c,q1,rfl⟩,by rw[<- g.length];exact q _ H (Ai.refl H) Fe⟩
 ·split at e
  ·next i=>
   cases e;obtain⟨v,rfl,b⟩:=Paired.one' h;exact⟨v,_,rfl,by rw[b.str];exact⟨i,rfl⟩,q _ H (Ai.refl H) Fe⟩
  ·cases e
 ·cases e
@[simp] def Fg:U D->O (U D)
  |[.lst a]=>Z a
  |[.tup a]=>Z a
  |_=>yA
def IN:OI K (λxs H Q=>∃p ys,xs=[.ref p]/\(BM K H p ys\/B6 K H p ys)/\∀l,H l=yA->Q (.ref l) (AM H l (.lst ys))) Fg:=by
 intro N H i j xs Q k h e q;unfold Fg at e;split at e
 ·cases e;obtain⟨v,rfl,c⟩:=Paired.one' h;obtain⟨a,b,rfl,q1,f⟩:=c;exact⟨a,b,rfl,.inl q1,λl g=>q b l g f⟩
 ·cases e;obtain⟨v,rfl,c⟩:=Paired.one' h;obtain⟨a,b,rfl,q1,f⟩:=c.tup;exact⟨a,b,rfl,.inr q1,λl g=>q b l g f⟩
 ·cases e
@[simp] def Fh:U D->O D
  |[.lst a]=>Z (.tup a)
  |[.tup a]=>Z (.tup a)
  |_=>yA
def KI:FC K (λxs H Q=>∃p ys,xs=[.ref p]/\((BM K H p ys/\∀l,H l=yA->Q (.ref l) (AM H l (.tup ys)))\/(B6 K H p ys/\Q (.ref p) H))) Fh:=by
 intro N H j k d Q m h e q;unfold Fh at e;split at e
 ·cases e;obtain⟨v,rfl,c⟩:=Paired.one' h;obtain⟨a,b,rfl,q1,g⟩:=c;exact⟨a,b,rfl,.inl ⟨q1,λl i=>q _ _ (Eh i)<|MT i g⟩⟩
 ·cases e;obtain⟨v,rfl,c⟩:=Paired.one' h;obtain⟨a,b,rfl,q1,g⟩:=c.tup;exact⟨a,b,rfl,.inr ⟨q1,q _ _ (Ai.refl H) (by erw[Au];exact⟨a,b,rfl,q1,g⟩)⟩⟩
 ·cases e
noncomputable def Hk:U D->O (U Bool)
 |[]=>Z []
 |.bl b::r=>(Hk r).map (b::·)
 |_=>yA
theorem TH:∀{xs:U D}{bs:U Bool},Hk xs=Z bs->xs=bs.map D.bl
 |[],_,e=>by cases e;rfl
 |.bl b::r,_,e=>by
  erw[Hk]at e;cases h:Hk r with
  |none=>simp[h]at e
  |some bs=>rw[h]at e;cases e;rw[TH h];rfl
 |.non::_,_,e=>nomatch e
 |.int _::_,_,e=>nomatch e
 |.str _::_,_,e=>nomatch e
 |.ty _::_,_,e=>nomatch e
 |.tup _::_,_,e=>nomatch e
 |.lst _ _::_,_,e=>nomatch e
theorem TJ:∀{bs:U Bool}{vs:U V},Ad K N H (bs.map D.bl) vs->vs=bs.map V.bl
 |[],_,h=>by simpa only[B3,Ad]using h
 |b::bs,_,h=>by
  erw[AI,Ad,Au]at h;obtain⟨v,r,e,a,t⟩:=h;subst e a;rw[TJ t];rfl
@[simp] def F2:U D->O D
  |[.lst a]=>(Hk a).map λbs=>.bl (bs.all id)
  |_=>yA
@[simp] def JH:U D->O D
  |[.lst a]=>(Hk a).map λbs=>.bl (bs.any id)
  |_=>yA
def JJ:FC K (λxs H Q=>∃(a:Ac)(bs:U Bool),xs=[.ref a]/\BM K H a (bs.map V.bl)/\Q (.bl (bs.all id)) H) F2:=by
 intro N H i j d Q k h e q;unfold F2 at e;split at e
 ·next xs=>
  cases b:Hk xs with|none=>simp[b]at e|some bs=>
   rw[b]at e;cases e;obtain⟨v,rfl,f⟩:=Paired.one' h;obtain⟨a,l,g,q1,c⟩:=f;subst g;rw[TH b]at c;rw[TJ c]at q1;exact⟨a,bs,rfl,q1,q _ H (Ai.refl H) FD⟩
 ·cases e
def aN:FC K (λxs H Q=>∃(a:Ac)(bs:U Bool),xs=[.ref a]/\BM K H a (bs.map V.bl)/\Q (.bl (bs.any id)) H) JH:=by
 intro N H i j d Q k h e q;unfold JH at e;split at e
 ·next xs=>
  cases b:Hk xs with|none=>simp[b]at e|some bs=>
   rw[b]at e;cases e;obtain⟨v,rfl,f⟩:=Paired.one' h;obtain⟨a,l,g,q1,c⟩:=f;subst g;rw[TH b]at c;rw[TJ c]at q1;exact⟨a,bs,rfl,q1,q _ H (Ai.refl H) FD⟩
 ·cases e
@[simp] def TK:U D->O D
  |[.int i,.int j]=>Z (.int (if j>i then j else i))
  |_=>yA
@[simp] def TL:U D->O D
  |[.int i,.int j]=>Z (.int (if j<i then j else i))
  |_=>yA
def oK:FC K (λxs H Q=>∃i j,xs=[.int i,.int j]/\Q (.int (if j>i then j else i)) H) TK:=by
 intro N H c f d Q g h e q;unfold TK at e;split at e
 ·cases e;obtain⟨v,w,rfl,a,b⟩:=Paired.two' h;exact⟨_,_,by rw[a.int,b.int],q _ H (Ai.refl H) Fe⟩
 ·cases e
def oM:FC K (λxs H Q=>∃i j,xs=[.int i,.int j]/\Q (.int (if j<i then j else i)) H) TL:=by
 intro N H c f d Q g h e q;unfold TL at e;split at e
 ·cases e;obtain⟨v,w,rfl,a,b⟩:=Paired.two' h;exact⟨_,_,by rw[a.int,b.int],q _ H (Ai.refl H) Fe⟩
 ·cases e
@[simp] def intD:U D->O D
  |[.int i]=>Z (.int i)
  |[.bl k]=>Z (.int (if k then 1 else 0))
  |_=>yA
def aO:FC K (λxs H Q=>(∃i,xs=[.int i]/\Q (.int i) H)\/∃k,xs=[.bl k]/\Q (.int (if k then 1 else 0)) H) intD:=by
 intro N H b c d Q f h e q;unfold intD at e;split at e
 ·cases e;obtain⟨v,rfl,a⟩:=Paired.one' h;exact .inl ⟨_,by rw[a.int],q _ H (Ai.refl H) Fe⟩
 ·cases e;obtain⟨v,rfl,a⟩:=Paired.one' h;exact .inr ⟨_,by rw[a.bl],q _ H (Ai.refl H) Fe⟩
 ·cases e
noncomputable def FG:U D->O (U Int)
 |[]=>Z []
 |.int b::r=>(FG r).map (b::·)
 |_=>yA
theorem OY:∀{xs:U D}{bs:U Int},FG xs=Z bs->xs=bs.map D.int
 |[],_,e=>by cases e;rfl
 |.int b::r,_,e=>by
  erw[FG]at e;cases h:FG r with
  |none=>simp[h]at e
  |some bs=>rw[h]at e;cases e;rw[OY h];rfl
 |.non::_,_,e=>nomatch e
 |.bl _::_,_,e=>nomatch e
 |.str _::_,_,e=>nomatch e
 |.ty _::_,_,e=>nomatch e
 |.tup _::_,_,e=>nomatch e
 |.lst _ _::_,_,e=>nomatch e
theorem OZ:∀(ns:U Int),FG (ns.map D.int)=Z ns
 |[]=>rfl
 |n::ns=>by erw[AI,FG,OZ ns];rfl
theorem O0:∀{bs:U Int}{vs:U V},Ad K N H (bs.map D.int) vs->vs=bs.map V.int
 |[],_,h=>by simpa only[B3,Ad]using h
 |b::bs,_,h=>by
  erw[AI,Ad,Au]at h;obtain⟨v,r,e,a,t⟩:=h;subst e a;rw[O0 t];rfl
end
section
def aP(i:X.calm=yB):Es X (.builtin "sum") (λxs H Q=>∃(a:Ac)(ns:U Int),xs=[.ref a]/\BM X.K H a (ns.map V.int)/\Q (.int ns.sum) H):=by
 intro e s w H xs x Q I r h;obtain⟨a,ns,rfl,j,q⟩:=h;obtain⟨u,rfl,k⟩:=Et r;cases k;obtain⟨b,l,p,y⟩:=I.list j;have f:=SS l;obtain⟨c,g⟩:=f.allInts.items;have d:=g ▸ p.isList;refine sum_intListG (I.ok.hd i) d λz m n o=>?_;have t:ns=c.toList.map (·.1):=by
  rw[<- nums_intItems,<- g];exact(show numsOf b.toArray.toList=ns from f.numsOf).symm
 have v:preSum (numAt c) c.size=ns.sum:=by
  rw[preSum_eq,M0 (by simp),t]
 rw[v];exact⟨.int ns.sum,H,I.kept (t':=m) o,⟨_,rfl⟩,q⟩
theorem aQ(w:X.calm=yB):Es X (.builtin "min") (λxs H Q=>∃(a:Ac)(ns:U Int),xs=[.ref a]/\BM X.K H a (ns.map V.int)/\0<ns.length/\∀m,m∈ns->(∀a,a∈ns->m<=a)->Q (.int m) H):=by
 intro k s L H xs M Q I r h;obtain⟨a,ns,rfl,x,f,q⟩:=h;obtain⟨u,rfl,y⟩:=Et r;cases y;obtain⟨g,z,p,N⟩:=I.list x;have l:=SS z;obtain⟨d,e⟩:=l.allInts.items;have c:ns=d.toList.map (·.1):=by rw[<- l.numsOf,<- nums_intItems,<- e]
 have i:0<d.size:=by
  have n:=f;rw[c,Bd,Jl]at n;exact n
 have A:=e ▸ p.isList;refine min_intList (I.ok.hd w) A i λv P B C E=>?_;obtain⟨t,rfl⟩:=intItems_at C;obtain⟨T,G⟩:=argBest_lt (numAt d)<|d.size-1;refine⟨.int _,H,I.kept (t':=B) E,⟨t,rfl⟩,q _ ?_ λb o=>?_⟩
 ·rw[c,numAt_eq];exact getD_mem (by rw[Bd,Jl];lia)
 ·rw[c]at o;obtain⟨j,F,rfl⟩:=mem_getD o;rw[Bd,Jl]at F;rw[<- numAt_eq];exact G j (by lia)
theorem aR(w:X.calm=yB):Es X (.builtin "max") (λxs H Q=>∃(a:Ac)(ns:U Int),xs=[.ref a]/\BM X.K H a (ns.map V.int)/\0<ns.length/\∀m,m∈ns->(∀a,a∈ns->a<=m)->Q (.int m) H):=by
 intro k s L H xs M Q I r h;obtain⟨a,ns,rfl,x,f,q⟩:=h;obtain⟨u,rfl,y⟩:=Et r;cases y;obtain⟨g,z,p,N⟩:=I.list x;have l:=SS z;obtain⟨d,e⟩:=l.allInts.items;have c:ns=d.toList.map (·.1):=by rw[<- l.numsOf,<- nums_intItems,<- e]
 have i:0<d.size:=by
  have n:=f;rw[c,Bd,Jl]at n;exact n
 have A:=e ▸ p.isList;refine max_intList (I.ok.hd w) A i λv P B C E=>?_;obtain⟨t,rfl⟩:=intItems_at C;obtain⟨T,G⟩:=argBest_gt (numAt d)<|d.size-1;refine⟨.int _,H,I.kept (t':=B) E,⟨t,rfl⟩,q _ ?_ λb o=>?_⟩
 ·rw[c,numAt_eq];exact getD_mem (by rw[Bd,Jl];lia)
 ·rw[c]at o;obtain⟨j,F,rfl⟩:=mem_getD o;rw[Bd,Jl]at F;rw[<- numAt_eq];exact G j (by lia)
end
def M4:U Int->O Int
 |[]=>yA
 |x::a=>Z (a.foldl (λm y=>if y<m then y else m) x)
def M5:U Int->O Int
 |[]=>yA
 |x::a=>Z (a.foldl (λm y=>if y>m then y else m) x)
theorem aS:∀(xs:U Int)(x:Int),(xs.foldl (λm y=>if y<m then y else m) x)∈x::xs/\∀a∈x::xs,(xs.foldl (λm y=>if y<m then y else m) x)<=a
 |[],x=>by simp
 |y::e,x=>by
  erw[JL];obtain⟨f,d⟩:=aS e<|if y<x then y else x;have b:=d _ A8;have g:(if y<x then y else x)<=x:=by split<;>lia
  have i:(if y<x then y else x)<=y:=by split<;>lia
  refine⟨?_,λa c=>?_⟩
  ·rcases Bh.mp f with h|h
   ·rw[h];split<;>simp
   ·exact A9 _<|A9 _ h
  ·rcases Bh.mp c with rfl|c
   ·exact Int.le_trans b g
   ·rcases Bh.mp c with rfl|c
    ·exact Int.le_trans b i
    ·exact d a<|A9 _ c
theorem aT:∀(xs:U Int)(x:Int),(xs.foldl (λm y=>if y>m then y else m) x)∈x::xs/\∀a∈x::xs,a<=(xs.foldl (λm y=>if y>m then y else m) x)
 |[],x=>by simp
 |y::e,x=>by
  erw[JL];obtain⟨f,d⟩:=aT e<|if y>x then y else x;have b:=d _ A8;have g:x<=(if y>x then y else x):=by split<;>lia
  have i:y<=(if y>x then y else x):=by split<;>lia
  refine⟨?_,λa c=>?_⟩
  ·rcases Bh.mp f with h|h
   ·rw[h];split<;>simp
   ·exact A9 _<|A9 _ h
  ·rcases Bh.mp c with rfl|c
   ·exact Int.le_trans g b
   ·rcases Bh.mp c with rfl|c
    ·exact Int.le_trans i b
    ·exact d a<|A9 _ c
theorem oN(h:M4 ns=Z k)(b:m∈ns)(c:∀a,a∈ns->m<=a):m=k:=by
 cases ns with|nil=>cases h|cons x d=>
  cases h;obtain⟨q1,q2⟩:=aS d x;have:=c _ q1;have:=q2 _ b;lia
theorem oO(h:M5 ns=Z k)(b:m∈ns)(c:∀a,a∈ns->a<=m):m=k:=by
 cases ns with|nil=>cases h|cons x d=>
  cases h;obtain⟨q1,q2⟩:=aT d x;have:=c _ q1;have:=q2 _ b;lia
section
variable{K:Av}
@[simp] def O1:U D->O D
  |[.lst a]=>(FG a).map λns=>.int ns.sum
  |_=>yA
@[simp] def O2:U D->O D
  |[.lst a]=>((FG a).bind M4).map D.int
  |_=>yA
@[simp] def O3:U D->O D
  |[.lst a]=>((FG a).bind M5).map D.int
  |_=>yA
def aU:FC K (λxs H Q=>∃(a:Ac)(ns:U Int),xs=[.ref a]/\BM K H a (ns.map V.int)/\Q (.int ns.sum) H) O1:=by
 intro N H i j d Q k h e q;unfold O1 at e;split at e
 ·next xs=>
  cases b:FG xs with|none=>simp[b]at e|some bs=>
   rw[b]at e;cases e;obtain⟨v,rfl,f⟩:=Paired.one' h;obtain⟨a,l,g,q1,c⟩:=f;subst g;rw[OY b]at c;rw[O0 c]at q1;exact⟨a,bs,rfl,q1,q _ H (Ai.refl H) Fe⟩
 ·cases e
def aV:FC K (λxs H Q=>∃(a:Ac)(ns:U Int),xs=[.ref a]/\BM K H a (ns.map V.int)/\0<ns.length/\∀m,m∈ns->(∀a,a∈ns->m<=a)->Q (.int m) H) O2:=by
 intro N H n o d Q p h e q;unfold O2 at e;split at e
 ·next xs=>
  cases c:FG xs with|none=>simp[c]at e|some bs=>
   rw[c]at e;erw[Ay]at e;cases b:M4 bs with|none=>simp[b]at e|some k=>
    rw[b]at e;cases e;obtain⟨v,rfl,g⟩:=Paired.one' h;obtain⟨a,r,i,q1,f⟩:=g;subst i;rw[OY c]at f;rw[O0 f]at q1;refine⟨a,bs,rfl,q1,?_,λm j l=>?_⟩
    ·cases bs with
     |nil=>cases b
     |cons=>simp
    ·rw[oN b j l];exact q _ H (Ai.refl H) Fe
 ·cases e
def aX:FC K (λxs H Q=>∃(a:Ac)(ns:U Int),xs=[.ref a]/\BM K H a (ns.map V.int)/\0<ns.length/\∀m,m∈ns->(∀a,a∈ns->a<=m)->Q (.int m) H) O3:=by
 intro N H n o d Q p h e q;unfold O3 at e;split at e
 ·next xs=>
  cases c:FG xs with|none=>simp[c]at e|some bs=>
   rw[c]at e;erw[Ay]at e;cases b:M5 bs with|none=>simp[b]at e|some k=>
    rw[b]at e;cases e;obtain⟨v,rfl,g⟩:=Paired.one' h;obtain⟨a,r,i,q1,f⟩:=g;subst i;rw[OY c]at f;rw[O0 f]at q1;refine⟨a,bs,rfl,q1,?_,λm j l=>?_⟩
    ·cases bs with
     |nil=>cases b
     |cons=>simp
    ·rw[oO b j l];exact q _ H (Ai.refl H) Fe
 ·cases e
@[simp] def KJ:D->O String
  |.non=>Z "NoneType"
  |.bl _=>Z "bool"
  |.int _=>Z "int"
  |.str _=>Z "str"
  |.tup _=>Z "tuple"
  |.lst _=>Z "list"
  |.lst _ .d=>yA
  |.lst _ (.i _ _)=>yA
  |.ty _=>yA
def LH(t n:String):Bool:=t==n||(t=="bool"&&n=="int")
end
noncomputable def Hl:U String:=["NoneType","bool","int","str","tuple","list"]
def aY(K:Av):∀t∈Hl,∀n∈Hl,PySem.W.kitOne K (.type t) (.type n)=Z (LH t n):=by
 intro t a n b;erw[Hl,Bh,LI,or_false]at a b;rcases a with rfl|rfl|rfl|rfl|rfl|rfl<;>rcases b with rfl|rfl|rfl|rfl|rfl|rfl<;>with_unfolding_all rfl
theorem aZ(K:Av){t:String}(a:t∈Hl):∀(ns:U String),(∀n∈ns,n∈Hl)->PySem.W.kitAny K (.type t) (ns.map Value.type)=Z (ns.any λn=>LH t n)
 |[],_=>rfl
 |n::ns,h=>by
  have b:=aY K t a n<|h n A8;have c:=aZ K a ns λm d=>h m<|A9 _ d;erw[AI,PySem.W.kitAny,b,c,List.any_cons];cases LH t n<;>rfl
def ba(h:KJ d=Z t):t∈Hl:=by
 cases d with
 |lst b a=>cases a<;>simp[KJ]at h;subst h;simp[Hl]
 |_=>simp[KJ]at h<;>subst h<;>simp[Hl]
section
variable{K:Av}
def oP(I:Inv X h σ H s)(g:AC X.K N H d x)(c:RelV x u)(f:KJ d=Z t):∃p:Am->Prop,PySem.W.KitX X.K u (.type t) p/\p s.heap/\u≠.builtin "__main__.__loader__#opaque":=by
 cases d with
 |non=>cases f;rw[g.non]at c;cases c;exact⟨_,PySem.W.kitx_none,trivial,λz=>nomatch z⟩
 |bl b=>cases f;rw[g.bl]at c;cases c;exact⟨_,PySem.W.kitx_bool,trivial,λz=>nomatch z⟩
 |int b=>cases f;rw[g.int]at c;obtain⟨t,rfl⟩:=c;exact⟨_,PySem.W.kitx_int,trivial,λz=>nomatch z⟩
 |str b=>cases f;rw[g.str]at c;obtain⟨t,rfl⟩:=c;exact⟨_,PySem.W.kitx_str,trivial,λz=>nomatch z⟩
 |ty n=>cases f
 |tup v=>
  cases f;obtain⟨a,w,e,q,r⟩:=g.tup;subst e;cases c;obtain⟨j,_,⟨o,k,m,_⟩,_⟩:=I.tuple q;exact⟨_,PySem.W.kitx_tuple,⟨o,k,m⟩,λz=>nomatch z⟩
 |lst v y=>
  cases y with
  |d=>cases f
  |i _ _=>cases f
  |l=>
  cases f;obtain⟨a,w,e,q,r⟩:=g;subst e;cases c;obtain⟨j,_,⟨o,n,k,m,_⟩,_⟩:=I.list q;exact⟨_,PySem.W.kitx_list,⟨o,k,m⟩,λz=>nomatch z⟩
@[simp] def Dh:D->O (U String)
  |.ty n=>Z [n]
  |.tup a=>tysL a
  |_=>yA
where tysL:U D->O (U String)
 |[]=>Z []
 |.ty n::r=>(tysL r).map (n::·)
 |_=>yA
theorem bc:∀{xs:U D}{ns:U String},Dh.tysL xs=Z ns->xs=ns.map D.ty
 |[],_,e=>by cases e;rfl
 |.ty b::r,_,e=>by
  erw[Dh.tysL]at e;cases h:Dh.tysL r with
  |none=>simp[h]at e
  |some bs=>rw[h]at e;cases e;rw[bc h];rfl
 |.non::_,_,e=>nomatch e
 |.bl _::_,_,e=>nomatch e
 |.int _::_,_,e=>nomatch e
 |.str _::_,_,e=>nomatch e
 |.tup _::_,_,e=>nomatch e
 |.lst _ _::_,_,e=>nomatch e
@[simp] def Co:U D->O D
  |[x,c]=>(Dh c).bind λns=>if(∀n∈ns,n∈Hl)then(KJ x).map λt=>.bl (ns.any λn=>LH t n)else yA
  |_=>yA
def bd(K:Av):U V->Hp->VK->Prop:=λa H Q=>∃N d c x y ns t,a=[x,y]/\AC K N H d x/\AC K N H c y/\Dh c=Z ns/\(∀n∈ns,n∈Hl)/\KJ d=Z t/\Q (.bl (ns.any λn=>LH t n)) H
theorem be{N:Fb}{H:Hp}:∀{ns:U String}{vs:U V},Ad K N H (ns.map D.ty) vs->vs=ns.map V.ty
 |[],_,h=>by simpa only[B3,Ad]using h
 |b::bs,_,h=>by
  erw[AI,Ad,Au]at h;obtain⟨v,r,e,a,t⟩:=h;subst e a;rw[be t];rfl
theorem bf:∀{ns:U String}{us:U Aa},As (ns.map V.ty) us->us=ns.map Value.type
 |[],_,r=>by cases r;rfl
 |n::ns,_,r=>by
  cases r with
  |cons a b=>cases a;rw[bf b];rfl
def O4:Es X (.builtin "isinstance") (bd X.K):=by
 intro l s M H w P Q I r h;obtain⟨N,d,c,x,y,ns,t,rfl,z,m,b,f,i,q⟩:=h;obtain⟨u,T,rfl,A,j⟩:=Ow r;obtain⟨R,S,p,g⟩:=oP I z A i;cases c with
 |ty n=>
  cases b;rw[m.ty]at j;cases j;refine PySem.W.kia_one S I.kIn p (aY X.K t (ba i) n<|f n (by simp)) g λk=>⟨.bl _,H,I.tok k,rfl,?_⟩;simpa using q
 |tup w=>
  have e:=bc b;subst e;obtain⟨a,Y,rfl,B,dl⟩:=m.tup;cases j;obtain⟨C,E,⟨⟨cls,dd,data,sl⟩,G,o,n,v⟩,_⟩:=I.tuple B;simp only at o v;subst o v;have F:=be dl;subst F;have L:=bf E;subst L;exact PySem.W.kia_tup S I.kIn p G (aZ X.K (ba i) ns f) g λk=>⟨.bl _,H,I.tok k,rfl,q⟩
 |non=>cases b
 |bl _=>cases b
 |int _=>cases b
 |str _=>cases b
 |lst _=>cases b
def O5:FC K (bd K) Co:=by
 intro N H j k d Q l h e q;unfold Co at e;split at e
 ·next x c=>
  cases a:Dh c with|none=>rw[a]at e;cases e|some ns=>
   rw[a]at e;erw[Ay]at e;split at e
   ·next b=>
    cases f:KJ x with|none=>rw[f]at e;cases e|some t=>
     rw[f]at e;cases e;obtain⟨v,w,rfl,g,i⟩:=Paired.two' h;exact⟨N,x,c,v,w,ns,t,rfl,g,i,a,b,f,q _ H (Ai.refl H) FD⟩
   ·cases e
 ·cases e
def O6{M:Fb}{x:Ae}{n:String}(a:Gl X x)(b:X.mg x=yA)(c:Fq x=Z (.type n))(d:x≠"__name__":=by ext)(hd:(x==("__debug__":Ae))=yC:=by ext):JE X (.Name x pos) (tD K M H0 λ_=>Z (.ty n)):=⟨Lq (kw a b c (v:=.ty n) rfl d hd) λ_ _=>by erw[Au]⟩
def JM{M:Fb}{x:Ae}{v:V}{d:D}(b:Gl X x)(h:∃u,X.mg x=Z u/\RelV v u)(hd:∀N H,Au K N H d v)(a:(x==("__debug__":Ae))=yC:=by ext):JE X (.Name x pos) (tD K M H0 λ_=>Z d):=⟨by
 obtain⟨u,c,r⟩:=h;exact Lq (X7 b c r a) hd⟩
end
section
variable{K:Av}{M:Fb}{a b c e:Expr}{f g h:VE->O D}
def vv(i:Nat){x:Ae}(a:NV X i x:=by exact CG):PE X (.Name x pos) (tD K M H0 λρ=>Bn ρ i):=nA a
def CY(i:Nat){x:Ae}(a:NV X i x:=by exact CG):JE X (.Name x pos) (tD K M H0 λρ=>Bn ρ i):=⟨vv i a⟩
def vp(i:Nat){x:Ae}(a:NV X i x:=by exact CG):PE X (.Name x pos) (tP K M H0 λρ=>Af ρ i):=nB a
def Zl(i:Nat){x:Ae}(a:NV X i x:=by exact CG):JE X (.Name x pos) (tP K M H0 λρ=>Af ρ i):=⟨vp i a⟩
def Cj(i:Nat){x:Ae}(a:NV X i x:=by exact CG):JE X (.Name x pos) (tQ K M H0 λρ=>Bj ρ i):=⟨og a⟩
def Zz(i:Nat){x:Ae}(a:NV X i x:=by exact CG):JE X (.Name x pos) (Hb K M H0 λρ=>Ap ρ i):=⟨nO a⟩
def TM(i:Nat){x:Ae}{a:AQ}(b:NV X i x:=by exact CG):JS X (.Return (Z (.Name x a)) pos) (tS K M H0 λρ=>CV (DC ρ i)):=⟨nU b⟩
def bg(e:X.A.units+64<AA)(c:JE X a (tP X.K M H0 f))(d:JE X b (tP X.K M H0 g)):JE X (.Compare a [.Eq] [b] pos) (tD X.K M H0 (Zd Dw f g)):=⟨have c:=c.h;have d:=d.h;MJ (aG e) aI c d<|GX _ (by ext) (by ext)⟩
def TN(e:X.A.units+64<AA)(c:JE X a (tP X.K M H0 f))(d:JE X b (tP X.K M H0 g)):JE X (.Compare a [.Lt] [b] pos) (tD X.K M H0 (Zd Ek f g)):=⟨have c:=c.h;have d:=d.h;MJ (aL e) aM c d<|GX _ (by ext) (by ext)⟩
def oQ(e:X.A.units+64<AA)(c:JE X a (tP X.K M H0 f))(d:JE X b (tP X.K M H0 g)):JE X (.Compare a [.Gt] [b] pos) (tD X.K M H0 (Zd Ea f g)):=⟨have c:=c.h;have d:=d.h;MJ Yp (MS _) c d<|GX _ (by ext) (by ext)⟩
def TQ(e:X.A.units+64<AA)(c:JE X a (tP X.K M H0 f))(d:JE X b (tP X.K M H0 g))(i:autoParam (Gz .In b=yC) yb):JE X (.Compare a [.In] [b] pos) (tD X.K M H0 (Zd (Ej yC) f g)):=⟨have c:=c.h;have d:=d.h;MJ ((oG e).or lF) oI c d i⟩
def IP(e:X.A.units+64<AA)(c:JE X a (tP X.K M H0 f))(d:JE X b (tP X.K M H0 g)):JT X (.Compare a [.Eq] [b] pos) (BO X.K M H0 λρ=>AF (Zd Dw f g ρ)):=⟨have c:=c.h;have d:=d.h;Jx (aG e) aI c d<|GX _ (by ext) (by ext)⟩
def DN(e:X.A.units+64<AA)(c:JE X a (tP X.K M H0 f))(d:JE X b (tP X.K M H0 g)):JT X (.Compare a [.NotEq] [b] pos) (BO X.K M H0 λρ=>AF (Zd Bz f g ρ)):=⟨have c:=c.h;have d:=d.h;Jx (aH e) aJ c d<|GX _ (by ext) (by ext)⟩
def JN(e:X.A.units+64<AA)(c:JE X a (tP X.K M H0 f))(d:JE X b (tP X.K M H0 g)):JT X (.Compare a [.Lt] [b] pos) (BO X.K M H0 λρ=>AF (Zd Ek f g ρ)):=⟨have c:=c.h;have d:=d.h;Jx (aL e) aM c d<|GX _ (by ext) (by ext)⟩
def JP(e:X.A.units+64<AA)(c:JE X a (tP X.K M H0 f))(d:JE X b (tP X.K M H0 g)):JT X (.Compare a [.Gt] [b] pos) (BO X.K M H0 λρ=>AF (Zd Ea f g ρ)):=⟨have c:=c.h;have d:=d.h;Jx Yp (MS _) c d<|GX _ (by ext) (by ext)⟩
def oR(e:X.A.units+64<AA)(c:JE X a (tP X.K M H0 f))(d:JE X b (tP X.K M H0 g)):JT X (.Compare a [.GtE] [b] pos) (BO X.K M H0 λρ=>AF (Zd Tz f g ρ)):=⟨have c:=c.h;have d:=d.h;Jx lE (MS _) c d<|GX _ (by ext) (by ext)⟩
def bh(e:X.A.units+64<AA)(c:JE X a (tP X.K M H0 f))(d:JE X b (tP X.K M H0 g))(i:autoParam (Gz .NotIn b=yC) yb):JT X (.Compare a [.NotIn] [b] pos) (BO X.K M H0 λρ=>AF (Zd (Ej yB) f g ρ)):=⟨have c:=c.h;have d:=d.h;Jx ((oH e).or lG) oJ c d i⟩
@[simp] def O7(F b:D->D->O D)(f g h:VE->O D):VE->O D:=λa=>(f a).bind λx=>(g a).bind λy=>match F x y with
  |some (.bl yB)=>(h a).bind λz=>b y z
  |some (.bl yC)=>Z (.bl yC)
  |_=>yA
def oS{t:R2}(B:D7 K r F)(k:D7 K t A){Q:VK}(q:tD K M H0 (O7 F A f g h) σ H Q):Yr r t (tP K M H0 f) (tP K M H0 g) (tP K M H0 h) σ H Q:=by
 obtain⟨a,d,R,e,q⟩:=q;unfold O7 at e;cases i:f a with|none=>simp[i]at e|some x=>
  cases l:g a with|none=>simp[i,l]at e|some y=>
   rw[i,l]at e;erw[Ay]at e;refine⟨a,x,R,i,λv Y j C=>⟨a,y,R.st j,l,λu E c m=>?_⟩⟩;have R2:=(R.st j).st c;split at e
   ·next n=>
    cases o:h a with|none=>simp[o]at e|some z=>
     rw[o]at e;exact B _ E v u x y _ _ R2.nh (C.same c) m n λw G b p=>⟨yB,by simpa only[Au]using p,G7 ⟨a,z,R2.st b,o,λI P s L=>k _ P u I y z d Q (((R2.st b).st s)).nh ((m.same b).same s) L e λN S T W=>q N S ((((j.trans c).trans b).trans s).trans T) W⟩⟩
   ·next n=>
    cases e;exact B _ E v u x y _ _ R2.nh (C.same c) m n λw G b p=>⟨yC,by simpa only[Au]using p,HI<|q _ G ((j.trans c).trans b) FD⟩
   ·cases e
def oU{op d:CmpOp}{m:R2}{F n:D->D->O D}(o:Cd X (DA op) r)(e:Cd X (DA d) m)(p:D7 K r F)(i:D7 K m n)(j:JE X a (tP K M H0 f))(k:JE X b (tP K M H0 g))(l:JE X c (tP K M H0 h))(s:autoParam (lastMarks [op,d] [b,c]=yC) yb):JE X (.Compare a [op,d] [b,c] pos) (tD K M H0 (O7 F n f g h)):=⟨have j:=j.h;have k:=k.h;have l:=l.h;(lJ o e j k l s).mono λ_ _ _ q=>oS p i q⟩
@[simp] def Z5:O D->O Bool
  |some .non=>Z yC
  |some (.bl b)=>Z b
  |some (.int i)=>Z (i != 0)
  |some (.str y)=>if y.length<=AB then Z ((y.length:Int) != 0)else yA
  |some (.lst a)=>Z (!a.isEmpty)
  |some (.tup a)=>Z (!a.isEmpty)
  |_=>yA
def Ad.isEmpty{N:Fb}(h:Ad K N H xs vs):vs.isEmpty=xs.isEmpty:=by
 cases xs with
 |nil=>erw[Ad]at h;subst h;rfl
 |cons x xs=>erw[Ad]at h;obtain⟨_,_,rfl,_⟩:=h;rfl
def ZV(i:JE X a (tP X.K M H0 f))(n:∀b,isTrue a X.env b=(do let v <- b;standAt a.pos;Fs [v] (truthy v)):=by intro _;rfl):JT X a (BO X.K M H0 λρ=>Z5 (f ρ)):=⟨have i:=i.h;(lM i n).mono λt H Q o=>by
  obtain⟨ρ,k,R,e,q⟩:=o;try dsimp only at e q
  unfold Z5 at e;split at e
  ·next c=>cases e;exact⟨ρ,_,R,c,λv d s g=>⟨_,by rw[g.non];rfl,q d s⟩⟩
  ·next c=>cases e;exact⟨ρ,_,R,c,λv d s g=>⟨_,by rw[g.bl];rfl,q d s⟩⟩
  ·next c=>cases e;exact⟨ρ,_,R,c,λv d s g=>⟨_,by rw[g.int];rfl,q d s⟩⟩
  ·next c=>
   split at e
   ·next r=>cases e;exact⟨ρ,_,R,c,λv d s g=>⟨_,by rw[g.str];exact⟨r,rfl⟩,q d s⟩⟩
   ·cases e
  ·next c=>
   cases e;refine⟨ρ,_,R,c,λv d s g=>⟨_,?_,q d s⟩⟩;obtain⟨p,j,rfl,q1,m⟩:=g;exact .inl ⟨j,q1,by rw[m.isEmpty]⟩
  ·next c=>
   cases e;refine⟨ρ,_,R,c,λv d s g=>⟨_,?_,q d s⟩⟩;obtain⟨p,j,rfl,q1,m⟩:=g.tup;exact .inr<|.inl ⟨j,q1,by rw[m.isEmpty]⟩
  ·cases e⟩
@[simp] def Zx:D->O (U D)
  |.lst a=>Z a
  |.tup a=>Z a
  |.str x=>Z (x.cps.toList.map λc=>D.str ⟨#[c]⟩)
  |_=>yA
def ZT(b:JE X l (tQ X.K M H0 f)):JI X tg l (tI X.K M H0 λρ=>(f ρ).bind Zx):=⟨have b:=b.h;λa s g H j I m=>by
 obtain⟨ρ,k,R,e,q⟩:=m;try dsimp only at e
 cases c:f ρ with|none=>simp[c]at e|some d=>
  rw[c]at e;cases d with
  |lst n o=>
   cases o with
   |d=>cases e
   |i _ _=>cases e
   |l=>exact oj b a s g H j I ⟨ρ,k,R,by dsimp only;rw[c];exact e,q⟩
  |tup n=>exact ol b a s g H j I ⟨ρ,k,R,by dsimp only;rw[c];exact e,q⟩
  |str x=>exact om b a s g H j I ⟨ρ,k,R,by dsimp only;rw[c];exact e,q⟩
  |_=>cases e⟩
@[simp] def LJ(i:Nat)(o:O (U D))(ρ:VE):An:=match DC ρ i,o with
  |some a,Z b=>if a.length+b.length<=AB then .next (ρ.set i (.own (a++b)))else .fail
  |_,_=>.fail
def oV{fl:VE->O (U D)}{i:Nat}{x:Ae}{c:AQ}(m:JE X e (tF K M H0 fl))(y:NV X i x:=by exact CG)(z:DB (.Call (.Attribute (.Name x c) "extend" apos) [e] [] cpos) yA pos.line X.env=AH yC:=by rfl)(hz:BA X x c "extend" apos e cpos:=by exact OG):JS X (.Expr (.Call (.Attribute (.Name x c) "extend" apos) [e] [] cpos) pos) (tS K M H0 λρ=>LJ i (fl ρ) ρ):=⟨have m:=m.h;(Ik (Iw Jz PySem.F.slot_list_extend PySem.F.type_list_extend mT (Eg y) (Ee m Bm hz.s) hz.b hz.f hz.l hz.s hz.p) z).mono λS A H B=>by
  obtain⟨ρ,R,q⟩:=B;cases g:DC ρ i with|none=>erw[g,LJ]at q;exact Bo q|some C=>
   cases n:fl ρ with|none=>erw[g,n,LJ]at q;exact Bo q|some j=>
    erw[g,n,LJ]at q;split at q
    ·next hz=>
     have t:=MM g;obtain⟨a,o,E,Q,T,u,v⟩:=R.slot i _ t;have w:=Az E;refine⟨.ref a,w,.inl ⟨rfl,o,.inl<|.inl u⟩,ρ,j,R,n,λp k G s I r P=>?_⟩;have L:=R.st s;have d:=P.nw λb N=>.inl<|.inl N;obtain⟨R2,S2⟩:=L.chg t w<|(v.same s).append d;exact⟨a,p,o,k,rfl,rfl,s _ _ u,r,by rw[<- v.length,<- d.length];exact hz,q _ _ R2<|(Step.of_same s).trans S2⟩
    ·exact Bo q⟩
end
end L2
variable{ρ:L2.VE}{xs:U L2.D}{fa:L2.VE->O (U L2.Sl)}{fb:L2.VE->O (U L2.Sl×U L2.Sl)}{fx:L2.VE->O (L2.D×L2.VE)}{fl:L2.Kd}{lo:L2.VE->O (O Int)}{f1 fo:L2.VE->O L2.Sl}{zs:U (U L2.D)}{fk:L2.VE->O L2.D}{g1:L2.VE->L2.An}{ee:L2.VE->O (U L2.D)}
namespace L2
def Dm(h:JW X e t):JT X e t:=⟨h.h.pt⟩
open PyProof.Rows PySem PySem.Spec
section
variable{K:Av}
def O8(i:Nat)(b c:O D)(ρ:VE):An:=match DC ρ i,b,c with
 |some a,Z (.int k),Z d=>match D6 a.length k with
  |some j=>.next (ρ.set i (.own (a.set j d)))
  |none=>.fail
 |_,_,_=>.fail
def oW{M:Fb}{i:Nat}{x:Ae}{b c:AQ}{g e:Expr}{z f:VE->O D}(p:JE X g (tP K M H0 z))(r:JE X e (tD K M H0 f))(E:NV X i x:=by exact CG) (n:∀v,assign (.Subscript (.Name x b) g c) X.env v=(do
   let o <- Fs [v] (Ax (.Name x b) X.env);let s <- Fs [v,o] (Ax g X.env);standAt c
   Fs [v,o,s] (setItem o s v)
   release [v,o,s] []):=by intro _;rfl) (G:swapsWithSole [.Subscript (.Name x b) g c] e pos.line X.env=AH yC:=by rfl) (t:swappedStores [.Subscript (.Name x b) g c] e X.env=AH yA:=by rfl) (I:(GY [.Subscript (.Name x b) g c] X.env).map (·.2)=[assign (.Subscript (.Name x b) g c) X.env]:=by rfl):JS X (.Assign [.Subscript (.Name x b) g c] e pos) (tS K M H0 λρ=>O8 i (z ρ) (f ρ) ρ):=⟨have p:=p.h;have r:=r.h;(Yf r (Ye (Eg E) p mJ n) G t I).mono λD' σ H F=>by
 obtain⟨ρ,R,q⟩:=F;try dsimp only at q
 unfold O8 at q;split at q
 ·next L k d N u P=>
  split at q
  ·next j Q=>
   refine⟨ρ,d,R,P,λv H1 A T=>?_⟩;have l:=MM N;have y:=R.st A;obtain⟨a,B,S,z1,z2,Y,C⟩:=y.slot i _ l;have n:=Az S;refine⟨.ref a,n,ρ,.int k,y,u,λw H2 m t=>?_⟩;have R2:=y.st m;obtain⟨R3,S3⟩:=R2.chg (ys:=L.set j d) (ws:=B.set j v) l n (Ad.set j (C.same m)<|T.same m);exact⟨a,B,k,j,rfl,t.int,m _ _ Y,by rw[<- C.length];exact Q,q _ _ R3<|(Step.of_same<|A.trans m).trans S3⟩
  ·exact Bo q
 ·exact Bo q⟩
def TR(K:Av)(r:V->U V->Hp->VK->Prop)(F:Ae->U D->O D):Prop:=∀(N:Fb)(H:Hp)(z:Ae)(c:U V)(e:U D)(d:D)(Q:VK),(∀a,N a->H a≠yA)->Paired (AC K N H) e c->F z e=Z d ->
 (∀v b,Ai H b->Au K N b d v->Q v b)->r (.str z) c H Q
@[simp] def KN(F:Ae->U D->O D)(f:VE->O D)(b:VE->O (U Sl)):VE->O D:=λa=>match f a with
  |some (.str z)=>((b a).bind BV).bind (F z)
  |_=>yA
section
variable{M:Fb}{o e:Expr}{f:VE->O D}{name:Ae}{id:String}{r:V->U V->Hp->VK->Prop}{F:Ae->U D->O D}
def TU(u:PlainAttrs "str")(slot:Slot "str" name id)(i:typeOf (.builtin id)=AH (.type "method_descriptor"))(y:Ku X id r)(A:TR X.K r F)(j:JE X o (tP X.K M H0 f))(k:JA X (e::es) (Dr X.K M H0 fa))(b:Fw o name X.env (Ax o X.env)=Ax o X.env:=by rfl) (g:((AL cpos (AY (e::es) X.env)).all (λx=>!x.1)&&(Ga cpos (Gb [] X.env)).all (λx=>x.1.isSome) && decide ((e::es).length+([]:U ET).length+(if([]:U ET).isEmpty then 0 else 1)<30))=yB:=by rfl) (c:(apos.endLine==cpos.line)=yB:=by rfl) (B:autoParam (AY (e::es) X.env=(yC,Ax e X.env)::AY es X.env) ye) (a:(AL cpos (AY es X.env)).any (·.1)=yC:=by rfl):JE X (.Call (.Attribute o name apos) (e::es) [] cpos) (tD X.K M H0 (KN F f fa)):=⟨have j:=j.h;have k:=k.h;(Iw u slot i y j k b g c B a).mono λY H Q C=>by
 obtain⟨l,d,R,ex,q⟩:=C;unfold KN at ex;split at ex
 ·next z E=>
  cases m:fa l with|none=>simp[m]at ex|some s=>
   rw[m]at ex;cases n:BV s with|none=>erw[Ay,n]at ex;cases ex|some G=>
    erw[Ay,n]at ex;refine⟨l,.str z,R,E,λv H1 p I=>?_⟩;rw[I.str];exact⟨rfl,l,s,R.st p,m,λP L t N=>A _ L z P G d Q ((R.st p).st t).nh (OJ N n) ex λw S T W=>q w S ((p.trans t).trans T) W⟩
 ·cases ex⟩
end
noncomputable def IQ:U D->O (U Ae)
 |[]=>Z []
 |.str b::r=>(IQ r).map (b::·)
 |_=>yA
theorem bi:∀{xs:U D}{bs:U Ae},IQ xs=Z bs->xs=bs.map D.str
 |[],_,e=>by cases e;rfl
 |.str b::r,_,e=>by
  erw[IQ]at e;cases h:IQ r with
  |none=>simp[h]at e
  |some bs=>rw[h]at e;cases e;rw[bi h];rfl
 |.non::_,_,e=>nomatch e
 |.bl _::_,_,e=>nomatch e
 |.int _::_,_,e=>nomatch e
 |.ty _::_,_,e=>nomatch e
 |.tup _::_,_,e=>nomatch e
 |.lst _ _::_,_,e=>nomatch e
@[simp] theorem bj:∀(ns:U Ae),IQ (ns.map D.str)=Z ns
  |[]=>rfl
  |n::ns=>by erw[AI,IQ,bj ns];rfl
theorem bm{N:Fb}{H:Hp}:∀{bs:U Ae}{vs:U V},Ad K N H (bs.map D.str) vs->vs=bs.map V.str
 |[],_,h=>by simpa only[B3,Ad]using h
 |b::bs,_,h=>by
  erw[AI,Ad,Au]at h;obtain⟨v,r,e,a,t⟩:=h;subst e a;rw[bm t];rfl
@[simp] def O9(z:Ae):U D->O D
  |[.lst b]=>(IQ b).bind λa=>if(a.map (·.length)).sum+a.length*z.length<=16777216 then Z (.str (Txt.join z a))else yA
  |_=>yA
def oX:TR K (Y2 K) O9:=by
 intro N H z l m d Q n h e q;unfold O9 at e;split at e
 ·next f=>
  cases b:IQ f with|none=>simp[b]at e|some g=>
   rw[b]at e;erw[Ay]at e;split at e
   ·next i=>
    cases e;obtain⟨v,rfl,j⟩:=Paired.one' h;obtain⟨a,o,rfl,q1,c⟩:=j;rw[bi b]at c;rw[bm c]at q1;exact⟨z,a,g,rfl,rfl,q1,i,q _ H (Ai.refl H) OP⟩
   ·cases e
 ·cases e
@[simp] def M6(z:Ae):U D->O D
  |[.str y]=>Z (.int (Txt.find z y))
  |_=>yA
def bn:TR K Y0 M6:=by
 intro N H z b c d Q f h e q;unfold M6 at e;split at e
 ·next y=>
  cases e;obtain⟨v,rfl,a⟩:=Paired.one' h;exact⟨z,y,rfl,by rw[a.str],q _ H (Ai.refl H) Fe⟩
 ·cases e
end
section
variable{s:Ab}
def Inv.turnedL{f:U Ac}(I:Inv X pins σ H s)(g:∀b∈f,F8 X pins H b)(k:∀b o,b∉f->s.heap.get? b=Z o->h'.get? b=Z o):Inv X pins σ H {s with heap:=h' }:=by
 have d:∀b u,H b=Z u->b∉f:=λb u e z=>by simp[(g b z).1]at e
 refine I.step (g':=s.gens) (d':=s.drawn) (t':=s.toks) (λb h=>?_) (λb o _ _ a e _=>k b o a e) (λb o _ _ a e _=>⟨o.slots,k b o a e⟩) (λ_ _ _ _ n=>n)
  (λb o a e=>⟨o,k b o a e⟩) (λ_ _ e=>e) (λ_ _ _ e=>e) (λb G e=>⟨#[],by rw[e];simp⟩) (λm i=>?_) (λb u e=>?_) I.bare
 ·obtain⟨_,j,_,l,p,t⟩:=g b h;exact⟨l,j,p,t⟩
 ·obtain⟨o,w,x,y,r⟩:=i;exact⟨o,w,x,k _ o (λz=>(g _ z).2.1 rfl) y,r⟩
 ·refine(I.hok b u e).stay (λc v a q=>k c v ?_ q) (λ_ q=>q) λ_ _ q=>q;rcases a with z|z
  ·rw[z];exact d b u e
  ·exact d c _ z
def Inv.yielded{g:U Ac}{p:Ac}(I:Inv X pins σ H s)(i:∀b∈g,F8 X pins H b)(k:∀b o,b∉g->s.heap.get? b=Z o->h'.get? b=Z o)(j:s.heap.objs.size<=p) (new:Bc X.prog X.w (AM H p (.tup vs)) h' p (.tup vs)):Inv X pins σ (AM H p (.tup vs)) {s with heap:=h' }:=by
 have d:∀b u,H b=Z u->b∉g:=λb u e z=>by simp[(i b z).1]at e
 have f:=I.hok.fresh j;refine I.step (g':=s.gens) (d':=s.drawn) (t':=s.toks) (ch:=g) (λb h=>?_) (λb o _ _ a e _=>k b o a e) (λb o _ _ a e _=>⟨o.slots,k b o a e⟩) (λb o _ e n=>?_)
  (λb o a e=>⟨o,k b o a e⟩) (λb l e=>?_) (λb o u e=>?_) (λb F e=>⟨#[],?_⟩) (λm t=>?_) (λb u e=>?_) I.bare
 ·obtain⟨_,x,_,y,A,B⟩:=i b h;exact⟨y,x,A,B⟩
 ·rw[ZA<|CD<|CC (BC e) j];exact n
 ·rw[ZA<|FR e f];exact e
 ·rw[ZA<|FR e f];exact e
 ·rw[ZA<|FR e f,e];simp
 ·obtain⟨o,C,E,G,r⟩:=t;exact⟨o,C,E,k _ o (λz=>(i _ z).2.1 rfl) G,r⟩
 ·by_cases h:b=p
  ·subst h;rw[D4]at e;cases e;exact new
  ·rw[ZA h]at e;refine(I.hok b u e).stay (λc v a q=>k c v ?_ q) (λc q=>by rw[ZA<|FR q f];exact q) λc l q=>by rw[ZA<|FR q f];exact q
   rcases a with z|z
   ·rw[z];exact d b u e
   ·exact d c _ z
end
def oY:Fq "enumerate"=Z (.type "enumerate"):=by decide +kernel
noncomputable def Fi:Nat->U D->U D
 |_,[]=>[]
 |k,d::a=>.tup [.int k,d]::Fi (k+1) a
theorem TV:∀(xs:U D)(k:Nat),(Fi k xs).length=xs.length
 |[],_=>rfl
 |_::xs,k=>by simp[Fi,TV xs]
theorem bo:∀(xs:U D)(k i:Nat),(Fi k xs)[i]?=(xs[i]?).map λd=>D.tup [.int ((k+i:Nat):Int),d]
 |[],_,_=>by simp[Fi]
 |x::xs,k,0=>by simp[Fi]
 |x::xs,k,i+1=>by
  erw[Fi,AN,bo xs];rw[show k+1+i=k+(i+1) by lia]
abbrev T3:=KT×V×V
variable{tr:U T3}
noncomputable def DZ:U T3->U V
 |[]=>[]
 |t::r=>t.2.1::t.2.2::DZ r
def CM:U T3->KT->O V
 |[],_=>yA
 |t::r,k=>if t.1=k then Z t.2.2 else CM r k
noncomputable def GG:U T3->KT->V->U T3
 |[],_,_=>[]
 |t::r,k,v=>(if t.1=k then(t.1,t.2.1,v)else t)::GG r k v
def D0(a:U T3)(k:KT)(kv v:V):U T3:=if(CM a k).isSome=yB then GG a k v else a++[(k,kv,v)]
theorem bp(k:KT)(v:V):∀a:U T3,(GG a k v).map (·.1)=a.map (·.1)
 |[]=>rfl
 |t::r=>by
  erw[GG,AI,bp k v r];split<;>rfl
theorem bq{k:KT}:∀{a:U T3},CM a k=yA->k∉a.map (·.1)
 |[],_=>by simp
 |t::r,h=>by
  unfold CM at h;split at h
  ·cases h
  ·next e=>
   erw[AI,Bh,not_or];exact⟨λz=>e z.symm,bq h⟩
def LK(h:(c.map (·.1)).Nodup):((D0 c k kv v).map (·.1)).Nodup:=by
 unfold D0;split
 ·rw[bp];exact h
 ·next e=>
  rw[Fj,GH];refine⟨h,by simp,λa f b d=>?_⟩;have g:CM c k=yA:=by
   cases i:CM c k with
   |none=>rfl
   |some x=>rw[i]at e;exact absurd rfl e
  erw[AI,B3,Ew]at d;subst d;rintro rfl;exact bq g f
theorem br(k:KT)(v:V):∀a:U T3,(GG a k v).length=a.length
 |[]=>rfl
 |t::r=>by simp[GG,br k v r]
def TW(a:U T3)(k:KT)(kv v:V):(D0 a k kv v).length<=a.length+1:=by
 unfold D0;split
 ·rw[br];lia
 ·simp
def HR{a:At}(h:RelV (E6 a) u):Jj a u=yB:=by
 cases a with
 |non=>cases h;rfl
 |int i=>obtain⟨t,rfl⟩:=h;exact j9 i t
 |str x=>obtain⟨t,rfl⟩:=h;exact ka x t
def oZ{a:At}(h:Jj a u=yB):RelV (E6 a) u:=by
 rcases Jk h with⟨rfl,rfl⟩|⟨i,t,rfl,rfl⟩|⟨x,t,rfl,rfl⟩
 ·rfl
 ·exact⟨t,rfl⟩
 ·exact⟨t,rfl⟩
abbrev RA:U T3->U (At×Aa)->Prop:=Paired λt u=>t.1=.at u.1/\t.2.1=E6 u.1/\RelV t.2.2 u.2
theorem bt{P:A4}{w:Aj}:∀{d:U T3}{es:U Ih},Ki w (d.map (·.1)) (DZ d) es->(∀t∈d,∃a,t.1=KT.at a)->∃us,RA d us/\Pairs (Dy P w) es us/\∀e∈es,∃k,(Dy P w).is k e.key=yB/\e.hash=(Dy P w).hash k
 |[],es,h,_=>by
  obtain⟨_,rfl⟩:=h;exact⟨[],.nil,.nil,λ_ z=>nomatch z⟩
 |t::r,es,h,m=>by
  obtain⟨kv,v,q,e,o,f,p,g,s,i,b,u⟩:=h;obtain⟨a,n⟩:=m t A8;erw[DZ,Pa]at f;obtain⟨f,j,c⟩:=f;subst f j p c;dsimp only at i b;rw[n]at i b;obtain⟨us,x,y,A⟩:=bt (P:=P) u λt B=>m t<|A9 _ B;have b:t.2.1=E6 a:=b;rw[b]at g;refine⟨(a,e.val)::us,.cons ⟨n,b,s⟩ x,.cons (HR g) rfl y,λC l=>?_⟩;rcases Bh.mp l with rfl|l
  ·exact⟨a,HR g,i⟩
  ·exact A C l
theorem bu{P:A4}{w:Aj}:∀{b:U T3}{us:U (At×Aa)}{es:U Ih},RA b us->Pairs (Dy P w) es us->(∀e∈es,∃k,(Dy P w).is k e.key=yB/\e.hash=(Dy P w).hash k)->Ki w (b.map (·.1)) (DZ b) es
 |_,_,_,.nil,.nil,_=>⟨rfl,rfl⟩
 |t::r,(a,u)::us,e::es,.cons ⟨c,d,g⟩ h,.cons p1 i j,f=>by
  refine⟨t.2.1,t.2.2,DZ r,e,es,rfl,rfl,?_,?_,?_,?_,bu h j λe l=>f e<|A9 _ l⟩
  ·rw[d];exact oZ p1
  ·rw[i];exact g
  ·obtain⟨k,q1,q2⟩:=f e A8;have:=(Dy P w).inj _ _ _ q1 p1;subst this;dsimp only;rw[c];exact q2
  ·dsimp only;rw[c];exact d
theorem RA.val:∀{b:U T3}{us:U (At×Aa)},RA b us->∀a,CS (CM b (.at a)) (valueAt us a)
 |_,_,.nil,_=>HD
 |t::r,u::us,.cons ⟨c,h,d⟩ f,a=>by
  have g:=RA.val f a;unfold CM valueAt;rw[c,List.find?_cons];by_cases e:u.1=a
  ·rw[if_pos (by rw[e])];erw[e,decide_true];exact d
  ·rw[if_neg<|λz=>e<|KT.at.inj z];erw[e,decide_false];exact g
def CS.isS:∀{o:O V}{u:O Aa},CS o u->o.isSome=u.isSome
 |some _,Z _,_=>rfl
 |none,yA,_=>rfl
 |some _,yA,h=>h.elim
 |none,Z _,h=>h.elim
theorem RA.rep{a:At}{v:V}{u:Aa}(c:RelV v u):∀{d:U T3}{us:U (At×Aa)},RA d us->RA (GG d (.at a) v) (us.map λkv=>if kv.1=a then(kv.1,u)else kv)
 |_,_,.nil=>.nil
 |t::r,w::us,.cons ⟨b,f,g⟩ h=>by
  have i:=RA.rep (a:=a) c h;unfold GG;rw[AI];refine .cons ?_ i;by_cases e:w.1=a
  ·rw[if_pos (by rw[b,e]),if_pos e];exact⟨b,f,c⟩
  ·rw[if_neg<|λz=>e<|KT.at.inj<|b.symm.trans z,if_neg e];exact⟨b,f,g⟩
theorem Paired.snoc'{a b:Type}{F:a->b->Prop}{x:a}{y:b}(h:F x y):∀{l:U a}{m:U b},Paired F l m->Paired F (l++[x]) (m++[y])
 |_,_,.nil=>.cons h .nil
 |_,_,.cons r t=>.cons r<|Paired.snoc' h t
def o0{us:U (At×Aa)}{a:At}:(us.any λkv=>decide (kv.1=a))=(valueAt us a).isSome:=by
 unfold valueAt;rw[Pb];induction us with|nil=>rfl|cons x r b=>
  rw[List.any_cons,List.find?_cons];cases decide (x.1=a)with
  |true=>rfl
  |false=>simpa using b
def RA.put{us:U (At×Aa)}{a:At}(h:RA b us)(c:RelV v u):RA (D0 b (.at a) (E6 a) v) (stored us a u):=by
 unfold D0 stored;rw[o0,(h.val a).isS];by_cases e:(valueAt us a).isSome=yB
 ·rw[if_pos e,if_pos e];exact h.rep c
 ·rw[if_neg e,if_neg e];exact Paired.snoc' ⟨rfl,rfl,c⟩ h
theorem RA.fst:∀{a:U T3}{us:U (At×Aa)},RA a us->a.map (·.1)=(us.map (·.1)).map KT.at
 |_,_,.nil=>rfl
 |t::r,u::us,.cons ⟨b,_,_⟩ c=>by rw[AI,AI,AI,b,RA.fst c]
abbrev RT:U T3->U (U At×Ac×Aa)->Prop:=Paired λt u=>t.1=.tup u.1/\t.2.1=.ref u.2.1/\RelV t.2.2 u.2.2
theorem bv{P:A4}{w:Aj}:∀{b:U T3}{es:U Ih},Ki w (b.map (·.1)) (DZ b) es->(∀t∈b,∃l,t.1=KT.tup l)->∃us,RT b us/\es=us.map (entryOfKey (BN (Dy P w)))
 |[],es,h,_=>by
  obtain⟨_,rfl⟩:=h;exact⟨[],.nil,rfl⟩
 |t::r,es,h,i=>by
  obtain⟨kv,v,q,e,n,c,o,j,s,d,f,u⟩:=h;obtain⟨l,k⟩:=i t A8;erw[DZ,Pa]at c;obtain⟨c,g,a⟩:=c;subst c g o a;dsimp only at d f;rw[k]at d f;obtain⟨us,x,y⟩:=bv (P:=P) u λt z=>i t<|A9 _ z;obtain⟨p,m⟩:=(f:∃p,t.2.1=.ref p);rw[m]at j;obtain⟨A,B,C⟩:=e;cases(j:B=Cy p);refine⟨(l,p,C)::us,.cons ⟨k,m,s⟩ x,?_⟩;rw[AI,<- y];have:A=(KT.tup l).hash w:=d;rw[this];rfl
theorem bw{P:A4}{w:Aj}:∀{a:U T3}{us:U (U At×Ac×Aa)},RT a us->Ki w (a.map (·.1)) (DZ a) (us.map (entryOfKey (BN (Dy P w))))
 |_,_,.nil=>⟨rfl,rfl⟩
 |t::r,u::us,.cons ⟨b,c,d⟩ e=>by
  refine⟨t.2.1,t.2.2,DZ r,_,_,rfl,rfl,?_,d,?_,?_,bw e⟩
  ·rw[c];rfl
  ·dsimp only;rw[b];rfl
  ·dsimp only;rw[b];exact⟨_,c⟩
theorem RT.val:∀{a:U T3}{us:U (U At×Ac×Aa)},RT a us->∀l,CS (CM a (.tup l)) ((atKey us l).map (·.2))
 |_,_,.nil,_=>HD
 |t::r,u::us,.cons ⟨b,g,c⟩ d,l=>by
  have f:=RT.val d l;unfold CM atKey;rw[b,List.find?_cons];by_cases e:u.1=l
  ·rw[if_pos (by rw[e])];erw[e,decide_true];exact c
  ·rw[if_neg<|λz=>e<|KT.tup.inj z];erw[e,decide_false];exact f
theorem RT.rep{l:U At}{v:V}{u:Aa}(b:RelV v u):∀{c:U T3}{us:U (U At×Ac×Aa)},RT c us->RT (GG c (.tup l) v) (us.map (putAt l u))
 |_,_,.nil=>.nil
 |t::r,w::us,.cons ⟨a,d,f⟩ g=>by
  have h:=RT.rep (l:=l) b g;unfold GG;rw[AI];refine .cons ?_ h;unfold putAt;by_cases e:w.1=l
  ·rw[if_pos (by rw[a,e]),if_pos e];exact⟨a,d,b⟩
  ·rw[if_neg<|λz=>e<|KT.tup.inj<|a.symm.trans z,if_neg e];exact⟨a,d,f⟩
def RT.put{a:U T3}{us:U (U At×Ac×Aa)}(h:RT a us)(b:RelV v u):RT (D0 a (.tup l) (.ref p) v) (storedH us l p u):=by
 unfold D0 storedH;have c:=(h.val l).isS;rw[Pb]at c;rw[c];by_cases e:(atKey us l).isSome=yB
 ·rw[if_pos e,if_pos e];exact h.rep b
 ·rw[if_neg e,if_neg e];exact Paired.snoc' ⟨rfl,rfl,b⟩ h
theorem RT.fst:∀{a:U T3}{us:U (U At×Ac×Aa)},RT a us->a.map (·.1)=(us.map (·.1)).map KT.tup
 |_,_,.nil=>rfl
 |t::r,u::us,.cons ⟨b,_,_⟩ c=>by rw[AI,AI,AI,b,RT.fst c]
theorem TX{c d:Type}{f:c->d}(e:∀a b,f a=f b->a=b):∀{l:U c},(l.map f).Nodup->l.Nodup
 |[],_=>List.nodup_nil
 |a::l,h=>by
  rw[AI,Gc]at h;rw[Gc];exact⟨λz=>h.1<|List.mem_map.mpr ⟨a,z,rfl⟩,TX e h.2⟩
def Bw(K:Av)(H:Hp):KT->V->Prop
 |.at a,v=>v=E6 a
 |.tup l,v=>∃p,v=.ref p/\B6 K H p (l.map E6)
theorem bx{P:A4}{w:Aj}:∀{a:U At}{us:U Aa},As (a.map E6) us->ItemsAre (Dy P w) a us
 |[],_,r=>by rw[B3]at r;cases r;exact .nil
 |k::a,_,r=>by
  rw[AI]at r;cases r with
  |cons h t=>exact .cons (HR h)<|bx t
def GI:KT->U T3->Prop
 |.at _,b=>∀t∈b,∃a,t.1=KT.at a
 |.tup _,b=>∀t∈b,∃l,t.1=KT.tup l
def B8(K:Av)(H:Hp)(a:Ac)(b:U T3):Prop:=Rd H a (.dct (b.map (·.1)) (DZ b))/\∀t∈b,Bw K H t.1 t.2.1
section
variable{s:Ab}{p:Ac}{v:V}{r:Aa}{o:O V}{A:Ah}{k:KT}
def JQ(I:Inv X pins σ H s)(h:B6 X.K H p (l.map E6)):(BN (Dy X.prog X.w)).is s.heap l p:=by
 obtain⟨a,r,⟨o,b,c,n,d⟩,_⟩:=I.tuple h;exact⟨o,a.toArray,n,b,c,d,by simpa using bx r⟩
def KO(I:Inv X pins σ H s)(h:B8 X.K H a tr)(c:∀t∈tr,∃a,t.1=KT.at a):tr.length<=AB/\(a==FS)=yC/\(tr.map (·.1)).Nodup/\∃us,RA tr us/\s.heap.DictOf (Dy X.prog X.w) a us:=by
 obtain⟨z,d,nd,o,f,g,i,j,k,l⟩:=h.1.ok I.hok;obtain⟨us,b,m,n⟩:=bt l c;refine⟨by simpa using z,d,nd,us,b,o,f,g,i,j,k,λe p=>n e (by simpa using p),m,?_⟩;rw[b.fst]at nd;exact TX (λ_ _ z=>KT.at.inj z) nd
def JR(I:Inv X pins σ H s)(h:B8 X.K H a tr)(j:∀t∈tr,∃l,t.1=KT.tup l):tr.length<=AB/\(a==FS)=yC/\(tr.map (·.1)).Nodup/\∃us,RT tr us/\s.heap.DictOfH (BN (Dy X.prog X.w)) a us:=by
 obtain⟨z,k,nd,o,n,d,r,v,y,A⟩:=h.1.ok I.hok;obtain⟨us,f,B⟩:=bv A j;have c:=nd;rw[f.fst]at c;refine⟨by simpa using z,k,nd,us,f,o,n,d,r,v,y,B,λx b=>?_,TX (λ_ _ z=>KT.tup.inj z) c⟩;have all:∀{l:U T3} {m:U (U At×Ac×Aa)},RT l m->(∀t∈l,Bw X.K H t.1 t.2.1)->∀x∈m,(BN<|Dy X.prog X.w).is s.heap x.1 x.2.1:=by
  intro l m q;induction q with|nil=>intro _ x b;exact nomatch b|@cons t u F us g L C=>
   intro i x b;rcases Bh.mp b with e|b
   ·subst e;have:=i t A8;rw[g.1,g.2.1]at this;obtain⟨p,d,E⟩:=this;cases d;exact JQ I E
   ·exact C (λt G=>i t<|A9 _ G) x b
 exact all f h.2 x b
def CS.to:∀{v:V}{o:O Aa},CS (Z v) o->∃w,o=Z w/\RelV v w
 |_,Z w,h=>⟨w,rfl,h⟩
 |_,yA,h=>h.elim
def o5(t:A.units+1<AA)(I:Inv X pins σ H s)(h:B8 X.K H a tr)(j:GI k tr)(m:Bw X.K H k y)(n:RelV y u)(o:CM tr k=Z v)(q:∀d r,Inv X pins σ H r->RelV v d->Q d r):wpAny (Ag X.prog X.w) A (getItem (.ref a) u) Q E s:=by
 cases k with
 | «at» b=>
  cases m;obtain⟨z,hd,nd,x,rel,f⟩:=KO I h j;have e:=rel.val b;rw[o]at e;obtain⟨d,g,c⟩:=e.to;exact wpAny_getItem_of (HR n) f.mapOf g<|q d _ (I.tok _) c
 |tup l=>
  obtain⟨p,rfl,G⟩:=m;cases(show u=Cy p from n);obtain⟨z,hd,nd,x,rel,f⟩:=JR I h j;have e:=rel.val l;rw[o]at e;obtain⟨d,g,c⟩:=e.to;obtain⟨L,B,i⟩:=Option.map_eq_some_iff.mp g;refine wpAny_getItem_heap (LL t) (JQ I G) f B ?_;rw[i];exact q d _ (I.tok _) c
def o6(j:A.units+1<AA)(I:Inv X pins σ H s)(h:B8 X.K H a tr)(d:GI k tr)(e:Bw X.K H k y)(f:RelV y u)(q:∀g,Inv X pins σ H g->Q (.bool (CM tr k).isSome) g):wpAny (Ag X.prog X.w) A (DA .In u (.ref a)) Q E s:=by
 cases k with
 | «at» b=>
  cases e;obtain⟨z,hd,nd,m,rel,c⟩:=KO I h d;refine wpAny_in_of (HR f) hd c.mapOf ?_;rw[<- (rel.val b).isS];exact q _<|I.tok _
 |tup l=>
  obtain⟨p,rfl,r⟩:=e;cases(show u=Cy p from f);obtain⟨z,hd,nd,m,rel,c⟩:=JR I h d;refine wpAny_in_heap (LL j) (JQ I r) hd c ?_;have i:=(rel.val l).isS;rw[Pb]at i;rw[<- i];exact q _<|I.tok _
def o7(j:A.units+1<AA)(I:Inv X pins σ H s)(h:B8 X.K H a tr)(d:GI k tr)(e:Bw X.K H k y)(f:RelV y u)(q:∀g,Inv X pins σ H g->Q (.bool (!(CM tr k).isSome)) g):wpAny (Ag X.prog X.w) A (DA .NotIn u (.ref a)) Q E s:=by
 cases k with
 | «at» b=>
  cases e;obtain⟨z,hd,nd,m,rel,c⟩:=KO I h d;refine wpAny_notIn_of (HR f) hd c.mapOf ?_;rw[<- (rel.val b).isS];exact q _<|I.tok _
 |tup l=>
  obtain⟨p,rfl,r⟩:=e;cases(show u=Cy p from f);obtain⟨z,hd,nd,m,rel,c⟩:=JR I h d;refine wpAny_notIn_heap (LL j) (JQ I r) hd c ?_;have i:=(rel.val l).isS;rw[Pb]at i;rw[<- i];exact q _<|I.tok _
def LM(I:Inv X pins σ H s)(d:Mq (H a))(f:ED a s.heap h')(g:∃q,h'.get? a=Z q)(new:Bc X.prog X.w (AM H a c) h' a c):Inv X pins σ (AM H a c) {s with heap:=h',toks:=t' }:=I.write d (.inl rfl) (λb q h z=>(f.2 b h).trans z) g new
def DD(tr:U T3):HO:=.dct (tr.map (·.1)) (DZ tr)
def TY{us:U (At×Aa)}(z:tr.length<=AB)(hd:(a==FS)=yC)(nd:(tr.map (·.1)).Nodup)(rel:RA tr us)(b:h'.DictOf (Dy P w) a us):Bc P w H' h' a (DD tr):=by
 obtain⟨o,c,d,f,g,h,i,j,l⟩:=b;exact⟨by simpa using z,hd,nd,o,c,d,f,g,h,bu rel j λe k=>i e (by simpa using k)⟩
def TZ{us:U (U At×Ac×Aa)}(z:tr.length<=AB)(hd:(a==FS)=yC)(nd:(tr.map (·.1)).Nodup)(rel:RT tr us)(b:h'.DictOfH (BN (Dy P w)) a us):Bc P w H' h' a (DD tr):=by
 obtain⟨o,c,d,e,f,g,h,i,j⟩:=b;refine⟨by simpa using z,hd,nd,o,c,d,e,f,g,?_⟩;rw[h];exact bw rel
theorem o8{Q:Unit->Ab->Prop}(N:A.units+1<AA)(I:Inv X pins σ H s)(e:H a=Z (DD tr))(d:∀t∈tr,Bw X.K H t.1 t.2.1)(C:GI k tr)(G:Bw X.K H k y)(m:RelV y u)(L:RelV v r)(Y:tr.length<AB) (q:∀M,Inv X pins σ (AM H a (DD (D0 tr k y v))) M->Q () M):wpAny (Ag X.prog X.w) A (setItem (.ref a) u r) Q E s:=by
 have h:B8 X.K H a tr:=⟨.inl e,d⟩;have f:(D0 tr k y v).length<=AB:=by have:=TW tr k y v;lia
 cases k with
 | «at» b=>
  cases G;obtain⟨z,hd,nd,g,rel,i⟩:=KO I h C;have j:g.length<=AB:=by rw[<- Gw rel];exact z
  refine wpAny_setItem_pairs (hsz:=j) (HR m) i λn c o=>q _ ?_;have x:∃q,n.get? a=Z q:=let⟨q,_,_,B,_⟩:=c;⟨q,B⟩;exact LM I (by rw[e];exact HD) o x<|TY f hd (LK nd) (rel.put L) c
 |tup l=>
  obtain⟨p,T,F⟩:=G;subst T;cases(show u=Cy p from m);obtain⟨z,hd,nd,g,rel,i⟩:=JR I h C;have j:g.length<=AB:=by rw[<- Gw rel];exact z
  refine wpAny_setItem_heap (hsz:=j) (LL N) (JQ I F) i λn c o=>q _ ?_;have x:∃q,n.get? a=Z q:=let⟨q,_,_,B,_⟩:=c;⟨q,B⟩;exact LM I (by rw[e];exact HD) o x<|TZ f hd (LK nd) (rel.put L) c
end
end L2
variable{tr:U L2.T3}
namespace PySem
section
variable{prog:A4}{w:Aj}{K:Type}[DecidableEq K]{knd:HeapKind prog w K}{A:Ah}{s:Ab}
theorem o9{d:Ac}{xs:U (K×Ac×Aa)}{k:K}{v:Aa}(n:knd.room A)(b:knd.is s.heap k a)(t:s.heap.DictOfH knd d xs)(hsz:xs.length<=AB) (u:∀p,atKey xs k=Z p->Q p.2 {s with toks:=s.toks+knd.draws k}) (z:atKey xs k=yA->∀h',h'.DictOfH knd d (storedH xs k a v)->ED d s.heap h'->Q v {s with heap:=h',toks:=s.toks+knd.draws k}):wpAny (Ag prog w) A (dictSetDefault d (.ref a) v) Q E s:=by
 obtain⟨o,G,B,g,C,hd,l,h,m⟩:=t
 unfold dictSetDefault
 try with_reducible refine FU ?_
 refine Al (knd.pyHash n b ?_)
 refine Al (wpAny_dictFind_heap n b g hd l h m ?_ ?_)
 ·intro c
  have i:=not_mem_keys_of_get c
  refine Al (II (Al (wpAny_updateDictKeys (hz:=by have e:=size_of_entries l;lia) (s:={s with toks:=s.toks+knd.draws k}) g hd (AO (z (atKey_none_of_get c) _ ⟨_,_,B+1,SX _ g (Obj.isFreed_of_dict (Obj.data_mapDictKeys hd _)),
   C.mapDictKeys _,Obj.data_mapDictKeys hd _,?_,?_,?_⟩ (LN ..))))))
  ·rw[storedH_new (atKey_none_of_get c)]
   simp[l,entryOfKey]
  ·rw[storedH_new (atKey_none_of_get c)]
   intro x f
   rcases Dk.mp f with f|f
   ·exact knd.keeps (h x f) g hd (LN ..)
   ·erw[Ew]at f
    subst f
    exact knd.keeps b g hd (LN ..)
  ·rw[storedH_new (atKey_none_of_get c)]
   rw[Fj,GH]
   refine⟨m,by simp,?_⟩
   intro x f y q
   erw[AI,B3,Ew]at q
   subst q
   exact λe=>i (e ▸ f)
 ·intro j p r
  refine Al (Pc (s:={s with toks:=s.toks+knd.draws k}) g hd ?_)
  rw[entry_at l j,r]
  exact Al (II (AO (u p (atKey_of_get m r))))
def pa{k:K}(d:Ac)(hd:(d==FS)=yC)(dflt:Aa):MeetsIn prog w (Fd.«dict.setdefault» ⟨[.ref d,.ref a,dflt],[]⟩) (λA R s=>knd.room A.in1/\∃xs,knd.is s.heap k a/\s.heap.DictOfH knd d xs/\xs.length<=AB/\(∀p,atKey xs k=Z p->R (.ok (.ret p.2)) {s with toks:=s.toks+knd.draws k})/\(atKey xs k=yA->∀h',h'.DictOfH knd d (storedH xs k a dflt)->ED d s.heap h'->R (.ok (.ret dflt)) {s with heap:=h',toks:=s.toks+knd.draws k})):=.of_wp λA R s g=>by
  obtain⟨h,xs,b,f,i,j,l⟩:=g;unfold Fd.«dict.setdefault»;refine Al ?_;unfold Builtin.Dict.keyAndDefault;refine Al<|wpAny_notOrdered_dict f.typeIs ?_;refine AO ?_;show wpAny _ _ (if(d==FS)=yB then _ else(dictSetDefault d (.ref a) dflt >>= _)) _ _ s
  rw[if_neg (by rw[hd];exact Hz)];exact Al<|o9 h b f i (λp m=>AO ⟨p.2,rfl,j p m⟩) λn h' c e=>AO ⟨dflt,rfl,l n h' c e⟩
end
end PySem
namespace L2
open PySem PySem.Spec PyProof.Rows
def bz(K:Av):R2:=λx y H Q=>∃a b k v,x=.ref a/\B8 K H a b/\GI k b/\Bw K H k y/\CM b k=Z v/\Q v H
def T0(K:Av)(neg:Bool):R2:=λx y H Q=>∃a b k,y=.ref a/\B8 K H a b/\GI k b/\Bw K H k x/\Q (.bl (neg != (CM b k).isSome)) H
def pc(K:Av):Oo:=λo i v H Q=>∃a b k,o=.ref a/\H a=Z (DD b)/\(∀t∈b,Bw K H t.1 t.2.1)/\GI k b/\Bw K H k i/\b.length<AB/\Q (AM H a (DD (D0 b k i v)))
def pe(K:Av):V->U V->Hp->VK->Prop:=λx c H Q=>∃a b k y z,x=.ref a/\c=[y,z]/\H a=Z (DD b)/\(∀t∈b,Bw K H t.1 t.2.1)/\GI k b/\Bw K H k y/\b.length<AB /\
 (∀v,CM b k=Z v->Q v H)/\(CM b k=yA->Q z (AM H a (DD (D0 b k y z))))
def B8.typeIs(I:Inv X b σ H s)(h:B8 X.K H a d):s.TypeIs (.ref a) "dict":=by
 obtain⟨_,_,_,o,_,_,e,c,_⟩:=h.1.ok I.hok;exact⟨o,e,c.1⟩
section
theorem pf(t:X.A.units+64<AA):G3 X (bz X.K):=by
 intro b slice c s g H x y v u Q I i j h l;obtain⟨a,B,k,z,rfl,hd,m,n,o,q⟩:=h;cases i;have f:=hd.typeIs I;unfold subscriptTail;refine Al ?_;rw[getitemInPython_of_ne f.not_modules];refine Al<|wpAny_specialOf f PySem.F.slot_dict_getitem.lookup ?_;have fin:wpAny (Ag X.prog X.w) X.A (subscripted slice yC (.ref a) u) (λr d=>wpAny (Ag X.prog X.w) X.A (letTemporaryGo b (.ref a) r >>= λ_=>AH r) (EP X c g Q) X.xe d) X.xe s:=by
  rw[l];exact wpAny_operating<|o5 (by lia) I hd m n j o λC E p e=>Al<|wpAny_letTemporaryGo<|AO ⟨z,H,p,e,q⟩
 first
  |exact AO (Al fin)
  |exact Al (AO (Al fin))
  |exact Al fin
def bA(j:X.A.units+64<AA):Cd X (DA .In) (T0 X.K yC):=by
 intro b s l H x y v u Q I c d h;obtain⟨a,e,k,rfl,hd,f,g,q⟩:=h;cases d;exact o6 (by lia) I hd f g c λm i=>⟨.bl (CM e k).isSome,H,i,rfl,by simpa using q⟩
def ph(j:X.A.units+64<AA):Cd X (DA .NotIn) (T0 X.K yB):=by
 intro b s l H x y v u Q I c d h;obtain⟨a,e,k,rfl,hd,f,g,q⟩:=h;cases d;exact o7 (by lia) I hd f g c λm i=>⟨.bl<|!(CM e k).isSome,H,i,rfl,by simpa using q⟩
def pi(p:X.A.units+64<AA):Sw X (pc X.K):=by
 intro c s r H o i v t w u Q I d f g h;obtain⟨a,x,k,rfl,e,b,j,l,m,q⟩:=h;cases d;exact o8 (by lia) I e b j l f g m λy n=>⟨_,n,q⟩
theorem bB(hu:X.A.units+64<AA):Ku X "dict.setdefault" (pe X.K):=by
 intro N s σ H x xs v j Q I rx rs h;obtain⟨a,g,k,y,z,rfl,rfl,e,t,R,T,hl,q1,q2⟩:=h;cases rx;obtain⟨u1,S,rfl,Y,r⟩:=rs.two;have hd:B8 X.K H a g:=⟨.inl e,t⟩;have m:(D0 g k y z).length<=AB:=by have:=TW g k y z;lia
 cases k with
 | «at» b=>
  cases T;obtain⟨u,n,nd,j,rel,o⟩:=KO I hd R
  have B:j.length<=AB:=by rw[<- Gw rel];exact u
  have c:=rel.val b
  refine call_meetsIn T1 o.typeIs PySem.F.entry_dict_setdefault (PySem.F.args_dict_setdefault_3 _ _ _) (kt_meets_setdefault (Dy X.prog X.w) a (HR Y) n S)
   ⟨j,o,B,λv' C=>?_,λE G f i=>?_⟩
  ·rw[C]at c
   cases d:CM g (.at b)with
   |none=>rw[d]at c;exact c.elim
   |some w=>rw[d]at c;exact⟨w,H,I.tok _,c,q1 w d⟩
  ·rw[E]at c
   cases d:CM g (.at b)with
   |some w=>rw[d]at c;exact c.elim
   |none=>
    have P:∃q,G.get? a=Z q:=let⟨q,_,_,L,_⟩:=f;⟨q,L⟩
    exact⟨z,_,LM I (by rw[e];exact HD) i P (TY m n (LK nd) (rel.put r) f),r,q2 d⟩
 |tup l=>
  obtain⟨p,ep,sq⟩:=T
  subst ep
  cases(show u1=Cy p from Y)
  obtain⟨u,n,nd,j,rel,o⟩:=JR I hd R
  have B:j.length<=AB:=by rw[<- Gw rel];exact u
  have c:=rel.val l
  refine call_meetsIn T1 o.typeIs PySem.F.entry_dict_setdefault (PySem.F.args_dict_setdefault_3 _ _ _) (pa (knd:=BN (Dy X.prog X.w)) (k:=l) a n S)
   ⟨LL (by lia),j,JQ I sq,o,B,λp' M=>?_,λE G f i=>?_⟩
  ·rw[M]at c
   cases d:CM g (.tup l)with
   |none=>rw[d]at c;exact c.elim
   |some w=>rw[d]at c;exact⟨w,H,I.tok _,c,q1 w d⟩
  ·rw[E]at c
   cases d:CM g (.tup l)with
   |some w=>rw[d]at c;exact c.elim
   |none=>
    have P:∃q,G.get? a=Z q:=let⟨q,_,_,L,_⟩:=f;⟨q,L⟩
    exact⟨z,_,LM I (by rw[e];exact HD) i P (TZ m n (LK nd) (rel.put r) f),r,q2 d⟩
def Inv.big(I:Inv X pins σ H s):FS<s.heap.objs.size:=by
 have h:=(I.mod.glob.keeps I.bk).lt;exact Ju (by ext) h
def IR:PE X (.Dict [] [] pos) (λ_ H Q=>∀p,H p=yA->Q (.ref p) (AM H p (DD []))):=λb s c H Q I h=>wpAny_Dict_empty ⟨.ref s.heap.objs.size,_,I.laid (o:=DD []) (t':=s.toks) (λ_ _ q=>BG _ q) (Bl _) ⟨E7 _,beq_eq_false_iff_ne.mpr<|CT<|CD I.big,List.nodup_nil,_,#[],0,Cm _ rfl,⟨rfl,rfl,rfl⟩,rfl,rfl,rfl⟩,rfl,h _<|I.hok.fresh<|Bl _⟩
end
noncomputable def KP:D->O At
 |.non=>Z .non
 |.int i=>Z (.int i)
 |.str x=>Z (.str x)
 |_=>yA
def IS:U D->O (U At)
 |[]=>Z []
 |d::r=>(KP d).bind λa=>(IS r).map (a::·)
def Ds:D->O KT
 |.tup l=>(IS l).map KT.tup
 |d=>(KP d).map KT.at
noncomputable def aD:At->D
 |.non=>.non
 |.int i=>.int i
 |.str x=>.str x
def kD:KT->D
 |.at a=>aD a
 |.tup l=>.tup (l.map aD)
def bC{a:At}(h:KP d=Z a):d=aD a:=by
 unfold KP at h;split at h<;>cases h<;>rfl
theorem bD:∀{l:U D}{b:U At},IS l=Z b->l=b.map aD
 |[],_,h=>by cases h;rfl
 |d::r,b,h=>by
  unfold IS at h;cases c:KP d with|none=>simp[c]at h|some a=>
   rw[c]at h;cases e:IS r with
   |none=>rw[e]at h;cases h
   |some bs=>rw[e]at h;cases h;rw[AI,<- bC c,<- bD e]
def JU(h:Ds d=Z k):d=kD k:=by
 unfold Ds at h;split at h
 ·next l=>
  cases b:IS l with
  |none=>simp[b]at h
  |some c=>rw[b]at h;cases h;rw[bD b];rfl
 ·cases b:KP d with
  |none=>rw[b]at h;cases h
  |some a=>rw[b]at h;cases h;rw[bC b];rfl
def pj(a:At):KP (aD a)=Z a:=by cases a<;>rfl
theorem bE:∀(l:U At),IS (l.map aD)=Z l
 |[]=>rfl
 |a::l=>by rw[AI];unfold IS;rw[pj,bE l];rfl
@[simp] theorem KQ(k:KT):Ds (kD k)=Z k:=by
  cases k with
  | «at» a=>cases a<;>rfl
  |tup l=>show(IS<|l.map aD).map KT.tup=_;rw[bE];rfl
@[simp] theorem wU:Ds .non=Z (.at .non):=rfl
@[simp] theorem wV(i:Int):Ds (.int i)=Z (.at (.int i)):=rfl
@[simp] theorem wX(x:Ae):Ds (.str x)=Z (.at (.str x)):=rfl
def pq(a:At):Tn (aD a)=a:=by cases a<;>rfl
def pw(k:KT):To (kD k)=k:=by
 cases k with
 | «at» a=>cases a<;>rfl
 |tup l=>
  unfold kD To;erw[Ct,KT.tup.injEq];induction l with
  |nil=>rfl
  |cons a l b=>rw[AI,b];simp[pq]
abbrev BE:=U (KT×D)
variable{kvs:BE}
def Zo:BE->U D
 |[]=>[]
 |p::r=>kD p.1::p.2::Zo r
def DO:U D->O BE
 |[]=>Z []
 |k::v::r=>(Ds k).bind λa=>(DO r).map ((a,v)::·)
 |_=>yA
@[simp] theorem HS:∀kvs:BE,DO (Zo kvs)=Z kvs
  |[]=>rfl
  |p::r=>by unfold Zo DO;rw[KQ,HS r];rfl
@[simp] theorem wY:DO []=Z []:=rfl
theorem Hm:∀{xs:U D}{kvs:BE},DO xs=Z kvs->xs=Zo kvs
 |[],_,h=>by cases h;rfl
 |[_],_,h=>by cases h
 |k::v::r,kvs,h=>by
  unfold DO at h;cases a:Ds k with|none=>simp[a]at h|some c=>
   rw[a]at h;cases b:DO r with
   |none=>rw[b]at h;cases h
   |some q=>rw[b]at h;cases h;unfold Zo;rw[<- JU a,<- Hm b]
theorem T2:∀kvs:BE,MH (Zo kvs)=kvs.map (·.1)
 |[]=>rfl
 |p::r=>by unfold Zo MH;rw[pw,T2 r];rfl
def ZM:BE->KT->O D
 |[],_=>yA
 |t::r,k=>if t.1=k then Z t.2 else ZM r k
noncomputable def Fk:BE->KT->D->BE
 |[],_,_=>[]
 |t::r,k,v=>(if t.1=k then(t.1,v)else t)::Fk r k v
def Cr(kvs:BE)(k:KT)(v:D):BE:=if(ZM kvs k).isSome=yB then Fk kvs k v else kvs++[(k,v)]
noncomputable def El:KT->Bool
 |.at _=>yB
 |_=>yC
def Dn(k:KT)(kvs:BE):Bool:=kvs.all λp=>El p.1==El k
section
variable{K:Av}{N:Fb}
abbrev PD(K:Av)(N:Fb)(H:Hp):BE->U T3->Prop:=Paired λp t=>p.1=t.1/\Au K N H (kD p.1) t.2.1/\Au K N H p.2 t.2.2
def bF{a:At}(h:Au K N H (aD a) v):v=E6 a:=by cases a<;>simpa only[aD,Au,E6]using h
theorem bG:∀{l:U At}{vs:U V},Ad K N H (l.map aD) vs->vs=l.map E6
 |[],_,h=>by simpa only[B3,Ad]using h
 |a::l,vs,h=>by
  erw[AI,Ad]at h;obtain⟨v,r,e,b,c⟩:=h;rw[e,bF b,bG c];rfl
def JV(h:Au K N H (kD k) v):Bw K H k v:=by
 cases k with| «at» a=>exact bF h|tup l=>
  erw[kD,Au]at h;obtain⟨p,d,e,b,c⟩:=h;rw[bG c]at b;exact⟨p,e,b⟩
def KR(h:AC K N H (kD k) v):Au K N H (kD k) v:=by
 cases k with
 | «at» a=>cases a<;>exact h
 |tup l=>exact h
theorem Pd:∀{kvs:BE}{vs:U V},Ad K N H (Zo kvs) vs->∃a,vs=DZ a/\PD K N H kvs a
 |[],vs,h=>⟨[],by simpa only[Zo,Ad,DZ]using h,.nil⟩
 |p::r,vs,h=>by
  erw[Zo,Ad]at h;obtain⟨v,t,e,b,c,j,d,f,g⟩:=h;obtain⟨a,i,q⟩:=Pd g;exact⟨(p.1,v,c)::a,by rw[e,d,i];rfl,.cons ⟨rfl,b,f⟩ q⟩
theorem PD.flat:∀{kvs:BE}{a:U T3},PD K N H kvs a->Ad K N H (Zo kvs) (DZ a)
 |_,_,.nil=>Ad.nil
 |_,_,.cons ⟨_,b,c⟩ t=>Ad.cons b<|Ad.cons c<|PD.flat t
theorem PD.fst:∀{kvs:BE}{a:U T3},PD K N H kvs a->kvs.map (·.1)=a.map (·.1)
 |_,_,.nil=>rfl
 |_,_,.cons ⟨b,_,_⟩ t=>by rw[AI,AI,b,PD.fst t]
theorem PD.keys:∀{kvs:BE}{b:U T3},PD K N H kvs b->∀t∈b,Bw K H t.1 t.2.1
 |_,_,.nil,_,h=>nomatch h
 |_,_,.cons ⟨c,d,_⟩ t,x,a=>by
  rcases Bh.mp a with rfl|a
  ·rw[<- c];exact JV d
  ·exact PD.keys t x a
def KS(K:Av)(N:Fb)(H:Hp):O D->O V->Prop
 |some d,Z v=>Au K N H d v
 |none,yA=>True
 |_,_=>False
theorem PD.val:∀{kvs:BE}{a:U T3},PD K N H kvs a->∀k,KS K N H (ZM kvs k) (CM a k)
 |_,_,.nil,_=>HD
 |p::kvs,t::a,.cons ⟨b,_,c⟩ r,k=>by
  have d:=PD.val r k;unfold ZM CM;rw[b];split
  ·exact c
  ·exact d
def KS.isS:∀{o:O D}{u:O V},KS K N H o u->o.isSome=u.isSome
 |some _,Z _,_=>rfl
 |none,yA,_=>rfl
 |some _,yA,h=>h.elim
 |none,Z _,h=>h.elim
theorem PD.rep{k:KT}{d:D}{v:V}(hd:Au K N H d v):∀{kvs:BE}{a:U T3},PD K N H kvs a->PD K N H (Fk kvs k d) (GG a k v)
 |_,_,.nil=>.nil
 |p::kvs,t::a,.cons ⟨b,c,e⟩ r=>by
  have f:=PD.rep (k:=k) hd r;unfold Fk GG;rw[b];refine .cons ?_ f;split
  ·exact⟨rfl,b ▸ c,hd⟩
  ·exact⟨b,c,e⟩
def PD.put{a:U T3}(h:PD K N H kvs a)(b:Au K N H (kD k) kv)(hd:Au K N H d v):PD K N H (Cr kvs k d) (D0 a k kv v):=by
 unfold Cr D0;rw[(h.val k).isS];split
 ·exact h.rep hd
 ·exact Paired.snoc' ⟨rfl,b,hd⟩ h
theorem PD.hom{k:KT}:∀{kvs:BE}{f:U T3},PD K N H kvs f->Dn k kvs=yB->GI k f
 |_,_,.nil,_=>by cases k<;>exact λ_ h=>nomatch h
 |p::kvs,t::f,.cons ⟨i,_,_⟩ r,e=>by
  erw[Dn,KG,Dp]at e;have g:=PD.hom r e.2;have d:=e.1;rw[i]at d;cases k with
  | «at» a=>
   intro x c;rcases Bh.mp c with rfl|c
   ·cases c:x.1 with
    | «at» b=>exact⟨b,rfl⟩
    |tup l=>rw[c]at d;cases d
   ·exact g x c
  |tup l=>
   intro x c;rcases Bh.mp c with rfl|c
   ·cases c:x.1 with
    | «at» b=>rw[c]at d;cases d
    |tup l=>exact⟨l,rfl⟩
   ·exact g x c
def IT(h:Rd H a (.dct (MH (Zo kvs)) vs))(hd:Ad K N H (Zo kvs) vs):∃b,B8 K H a b/\PD K N H kvs b:=by
 obtain⟨b,rfl,p⟩:=Pd hd;rw[T2,p.fst]at h;exact⟨b,⟨h,p.keys⟩,p⟩
def LP(p:PD K N H kvs b):CO K .d a (Zo kvs) (DZ b)=DD b:=by
 unfold CO DD;rw[T2,p.fst]
end
def DP:D->D->O D
 |.lst b .d,y=>(DO b).bind λa=>(Ds y).bind λk=>if Dn k a then ZM a k else yA
 |_,_=>yA
@[simp] theorem Pe(kvs:BE)(y:D):DP (.lst (Zo kvs) .d) y=(Ds y).bind λk=>if Dn k kvs then ZM kvs k else yA:=by simp[DP]
@[simp] theorem wZ(y:D):DP (.lst [] .d) y=(Ds y).bind λk=>yA:=by simp[DP,ZM]
def DQ(neg:Bool):D->D->O D
 |y,.lst b .d=>(DO b).bind λa=>(Ds y).bind λk=>if Dn k a then Z (.bl (neg != (ZM a k).isSome))else yA
 |_,_=>yA
@[simp] theorem M7(neg:Bool)(kvs:BE)(y:D):DQ neg y (.lst (Zo kvs) .d)=(Ds y).bind λk=>if Dn k kvs then Z (.bl (neg != (ZM kvs k).isSome))else yA:=by simp[DQ]
@[simp] theorem w5(neg:Bool)(y:D):DQ neg y (.lst [] .d)=(Ds y).bind λk=>Z (.bl neg):=by simp[DQ,ZM,Dn]
section
variable{K:Av}{M:Fb}{e a b:Expr}{f g:VE->O D}
def px:D7 K (bz K) DP:=by
 intro N H x y d1 d2 d Q t h i e q;unfold DP at e;split at e
 ·next m=>
  cases c:DO m with|none=>simp[c]at e|some a=>
   rw[c]at e;cases f:Ds d2 with|none=>rw[f]at e;cases e|some k=>
    rw[f]at e;have e:(if Dn k a then ZM a k else yA)=Z d:=e;split at e
    ·next n=>
     rw[Hm c]at h;obtain⟨p,u,o,r,hd⟩:=h;obtain⟨j,s,l⟩:=IT r hd;rw[JU f]at i;have b:=l.val k;rw[e]at b;cases g:CM j k with
     |none=>rw[g]at b;exact b.elim
     |some w=>rw[g]at b;exact⟨p,j,k,w,o,s,l.hom n,JV<|KR i,g,q w H (Ai.refl H) b⟩
    ·cases e
 ·cases e
def T4:D7 K (T0 K neg) (DQ neg):=by
 intro N H x y d1 d2 d Q o f g e q;unfold DQ at e;split at e
 ·next i=>
  cases b:DO i with|none=>simp[b]at e|some a=>
   rw[b]at e;cases c:Ds d1 with|none=>rw[c]at e;cases e|some k=>
    rw[c]at e;have e:(if Dn k a then Z (D.bl<|neg != (ZM a k).isSome)else yA)=Z d:=e;split at e
    ·next j=>
     cases e;rw[Hm b]at g;obtain⟨p,s,l,r,hd⟩:=g;obtain⟨m,n,h⟩:=IT r hd;rw[JU c]at f;refine⟨p,m,k,l,n,h.hom j,JV<|KR f,?_⟩;rw[<- (h.val k).isS];exact q _ H (Ai.refl H) FD
    ·cases e
 ·cases e
def IU(e:X.A.units+64<AA)(c:JE X a (tP X.K M H0 f))(d:JE X b (tP X.K M H0 g))(i:Kt b):JE X (.Subscript a b pos) (tD X.K M H0 (Zd DP f g)):=⟨have c:=c.h;have d:=d.h;aa (pf e) px c d i⟩
def bH(e:X.A.units+64<AA)(c:JE X a (tP X.K M H0 f))(d:JE X b (tP X.K M H0 g))(i:autoParam (Gz .In b=yC) yb):JE X (.Compare a [.In] [b] pos) (tD X.K M H0 (Zd (DQ yC) f g)):=⟨have c:=c.h;have d:=d.h;MJ (bA e) T4 c d i⟩
def bI(e:X.A.units+64<AA)(c:JE X a (tP X.K M H0 f))(d:JE X b (tP X.K M H0 g))(i:autoParam (Gz .In b=yC) yb):JT X (.Compare a [.In] [b] pos) (BO X.K M H0 λρ=>AF (Zd (DQ yC) f g ρ)):=⟨have c:=c.h;have d:=d.h;Jx (bA e) T4 c d i⟩
def bJ(e:X.A.units+64<AA)(c:JE X a (tP X.K M H0 f))(d:JE X b (tP X.K M H0 g))(i:autoParam (Gz .NotIn b=yC) yb):JT X (.Compare a [.NotIn] [b] pos) (BO X.K M H0 λρ=>AF (Zd (DQ yB) f g ρ)):=⟨have c:=c.h;have d:=d.h;Jx (ph e) T4 c d i⟩
def M8:JE X (.Dict [] [] pos) (Lp .d K M H0 λ_=>Z []):=⟨IR.mono λf H Q a p b=>by
 obtain⟨g,c,R,e,q⟩:=a;cases e;exact Lx (Ai.refl H) b Ad.nil q⟩
def IV(i:Nat)(ok b:O D)(ρ:VE):An:=match GD ρ i,ok,b with
 |some c,Z y,Z d=>match DO c,Ds y with
  |some a,Z k=>if Dn k a&&decide (a.length<AB)then .next (ρ.set i (.own (Zo (Cr a k d)) .d))else .fail
  |_,_=>.fail
 |_,_,_=>.fail
def T5{i:Nat}{x:Ae}{b c:AQ}{j e:Expr}{I f:VE->O D}(T:X.A.units+64<AA)(s:JE X j (tP X.K M H0 I))(t:JE X e (tD X.K M H0 f))(S:NV X i x:=by exact CG) (p:∀v,assign (.Subscript (.Name x b) j c) X.env v=(do
   let r <- Fs [v] (Ax (.Name x b) X.env);let u <- Fs [v,r] (Ax j X.env);standAt c
   Fs [v,r,u] (setItem r u v)
   release [v,r,u] []):=by intro _;rfl) (Y:swapsWithSole [.Subscript (.Name x b) j c] e pos.line X.env=AH yC:=by rfl) (m:swappedStores [.Subscript (.Name x b) j c] e X.env=AH yA:=by rfl) (h1:(GY [.Subscript (.Name x b) j c] X.env).map (·.2)=[assign (.Subscript (.Name x b) j c) X.env]:=by rfl):JS X (.Assign [.Subscript (.Name x b) j c] e pos) (tS X.K M H0 λρ=>IV i (I ρ) (f ρ) ρ):=⟨have s:=s.h;have t:=t.h;(Yf t (Ye (Eg S) s (pi T) p) Y m h1).mono λD' σ H z0=>by
 obtain⟨ρ,R,q⟩:=z0;try dsimp only at q
 unfold IV at q;split at q
 ·next xs y d hr z hf=>
  split at q
  ·next B k C hk=>
   split at q
   ·next E=>
    rw[Dp,decide_eq_true_eq]at E;refine⟨ρ,d,R,hf,λv H1 F hv=>?_⟩;have n:=OL hr;have G:=R.st F;have ex:=Hm C;subst ex;obtain⟨a,vs,e1,z1,z2,L,N⟩:=G.slot i _ n;have p:=Az e1;refine⟨.ref a,p,ρ,y,G,z,λw H2 l m=>?_⟩;have R2:=G.st l;obtain⟨tr,dc,pd⟩:=IT (K:=X.K) (.inl<|l _ _ L) (N.same l);obtain⟨o,e',g⟩:=Pd<|N.same l;subst e';rw[JU hk]at m;have P:=g.put (k:=k) (KR m) (hv.same l);obtain⟨Q,S3⟩:=R2.chg (fl2:=.d) (ys:=Zo<|Cr B k d) (ws:=DZ<|D0 o k w v) n p P.flat;rw[LP P]at Q S3;refine⟨a,o,k,rfl,?_,g.keys,g.hom E.1,JV<|KR m,by rw[<- Gw g];exact E.2,q _ _ Q<|(Step.of_same<|F.trans l).trans S3⟩;rw[<- LP g];exact l _ _ L
   ·exact Bo q
  ·exact Bo q
 ·exact Bo q⟩
end
theorem bK(k:KT)(v:D)(a:KT):∀kvs:BE,ZM (Fk kvs k v) a=if k=a then(ZM kvs a).map (λ_=>v)else ZM kvs a
 |[]=>by simp[Fk,ZM]
 |t::r=>by
  have d:=bK k v a r;unfold Fk ZM;by_cases c:t.1=k
  ·subst c;rw[if_pos rfl];by_cases b:t.1=a
   ·subst b;simp
   ·erw[if_neg b,d]
  ·rw[if_neg c];by_cases b:t.1=a
   ·subst b;rw[if_pos rfl,if_neg<|λz=>c z.symm,if_pos rfl]
   ·rw[if_neg b,d,if_neg b]
theorem bL(k:KT):∀(a b:BE),ZM (a++b) k=match ZM a k with|some v=>Z v|none=>ZM b k
 |[],b=>by simp[ZM]
 |t::r,b=>by
  have c:=bL k r b;rw[EH];have d:ZM (t::(r++b)) k=if t.1=k then Z t.2 else ZM (r++b) k:=rfl
  have e:ZM (t::r) k=if t.1=k then Z t.2 else ZM r k:=rfl
  rw[d,e];by_cases h:t.1=k
  ·rw[if_pos h,if_pos h]
  ·rw[if_neg h,if_neg h];exact c
def T6(kvs:BE)(k:KT)(v:D)(a:KT):ZM (Cr kvs k v) a=if k=a then Z v else ZM kvs a:=by
 unfold Cr;by_cases h:(ZM kvs k).isSome=yB
 ·rw[if_pos h,bK];by_cases e:k=a
  ·subst e;rw[if_pos rfl,if_pos rfl];cases b:ZM kvs k with
   |none=>simp[b]at h
   |some w=>rfl
  ·rw[if_neg e,if_neg e]
 ·rw[if_neg h,bL];have c:ZM kvs k=yA:=by
   cases b:ZM kvs k with
   |none=>rfl
   |some w=>rw[b]at h;exact absurd rfl h
  by_cases e:k=a
  ·subst e;rw[c];simp[ZM]
  ·rw[if_neg e];cases ZM kvs a with
   |none=>simp[ZM,e]
   |some w=>rfl
theorem bM{k:KT}{v:D}{p:KT×D}:∀{kvs:BE},p∈Fk kvs k v->p∈kvs\/p=(k,v)
 |[],h=>nomatch h
 |t::r,h=>by
  unfold Fk at h;rcases Bh.mp h with a|h
  ·by_cases e:t.1=k
   ·rw[if_pos e,e]at a;exact .inr a
   ·rw[if_neg e]at a;subst a;exact .inl A8
  ·rcases bM h with h|h
   ·exact .inl<|A9 _ h
   ·exact .inr h
def py(h:p∈Cr kvs k v):p∈kvs\/p=(k,v):=by
 unfold Cr at h;split at h
 ·exact bM h
 ·rcases Dk.mp h with h|h
  ·exact .inl h
  ·exact .inr (by simpa using h)
theorem bN(k:KT)(v:D):∀kvs:BE,(Fk kvs k v).length=kvs.length
 |[]=>rfl
 |t::r=>by simp[Fk,bN k v r]
def pz(kvs:BE)(k:KT)(v:D):(Cr kvs k v).length<=kvs.length+1:=by
 unfold Cr;split
 ·rw[bN];lia
 ·simp
def Pf(a:At)(h:∀p∈kvs,El p.1=yB):Dn (.at a) kvs=yB:=by
 unfold Dn;rw[CK];intro p b;rw[h p b];rfl
def LQ(l:U At)(h:∀p∈kvs,El p.1=yC):Dn (.tup l) kvs=yB:=by
 unfold Dn;rw[CK];intro p a;rw[h p a];rfl
def tX(K:Av)(M:Fb)(H0:Hp)(f:VE->O (D×VE)):TE:=λb H Q=>∃e d a,A6 K M H0 e b H/\f e=Z (d,a) /\
 ∀v c,A6 K M H0 a b c->Step M (Nf M e b) (Nf M a b) H c->Au K (Nf M a b) c d v->Q v c
def bO(K:Av)(M:Fb)(H0:Hp)(t:VE->O (Bool×VE)):TT:=λc H Q=>∃d b a,A6 K M H0 d c H/\t d=Z (b,a) /\
 ∀e,A6 K M H0 a c e->Step M (Nf M d c) (Nf M a c) H e->Q b e
def M9(i:Nat)(c e:VE->O D):VE->O (D×VE):=λb=>match GD b i,c b,e b with
 |some f,Z y,Z d=>match DO f,Ds y with
  |some a,Z k=>if Dn k a&&decide (a.length<AB)then
    (match ZM a k with
    |some v=>Z (v,b)
    |none=>Z (d,b.set i (.own (Zo (Cr a k d)) .d)))
   else yA
  |_,_=>yA
 |_,_,_=>yA
section
variable{K:Av}{M:Fb}{e a b ev:Expr}{f g fv:VE->O D}
def pA{i:Nat}{x:Ae}{c:AQ}(hu:X.A.units+64<AA)(z:JE X ek (tP X.K M H0 fk))(f:JE X ev (tD X.K M H0 fv))(hN:NV X i x:=by exact CG) (g:Fw (.Name x c) "setdefault" X.env (Ax (.Name x c) X.env)=Ax (.Name x c) X.env:=by rfl) (n:((AL cpos (AY [ek,ev] X.env)).all (λx=>!x.1)&&(Ga cpos (Gb [] X.env)).all (λx=>x.1.isSome) && decide ([ek,ev].length+([]:U ET).length+(if([]:U ET).isEmpty then 0 else 1)<30))=yB:=by rfl) (j:(apos.endLine==cpos.line)=yB:=by rfl) (o:autoParam (AY [ek,ev] X.env=(yC,Ax ek X.env)::AY [ev] X.env) ye) (p:autoParam (AY [ev] X.env=(yC,Ax ev X.env)::AY [] X.env) ye) (B:(AL cpos (AY [ev] X.env)).any (·.1)=yC:=by rfl):JE X (.Call (.Attribute (.Name x c) "setdefault" apos) [ek,ev] [] cpos) (tX X.K M H0 (M9 i fk fv)):=⟨have z:=z.h;have f:=f.h;(Iw bP T1 PySem.F.type_dict_setdefault (bB hu) (Eg hN) (Ee z (Ee f Bm p) o) g n j o B).mono λσ H Q z0=>by
  obtain⟨S,d,ρ',R,ex,q⟩:=z0;unfold M9 at ex;split at ex
  ·next xs y dv hr C E=>
   split at ex
   ·next l k G I=>
    split at ex
    ·next P=>
     rw[Dp,decide_eq_true_eq]at P;have r:=OL hr;have L:=Hm G;subst L;obtain⟨a,vs,e1,z1,z2,T,z4⟩:=R.slot i _ r;have W:=Az e1;have tv:Mz X.K "dict" (.ref a) H:=.inr<|.inr<|.inl ⟨rfl,.inr<|.inr ⟨_,_,.inl T⟩⟩;refine⟨.ref a,W,tv,S,y,R,C,λw H1 Y hw=>⟨S,dv,R.st Y,E,λv H2 s2 hv=>?_⟩⟩;have s:=Y.trans s2;have R2:=R.st s;obtain⟨tr,e',m⟩:=Pd<|z4.same s;subst e';rw[JU I]at hw;have t:=KR<|hw.same s2;have b:=m.val k;refine⟨a,tr,k,w,v,rfl,rfl,?_,m.keys,m.hom P.1,JV t,by rw[<- Gw m];exact P.2,λu N=>?_,λhn=>?_⟩
     ·rw[<- LP m];exact s _ _ T
     ·rw[N]at b;cases e:ZM l k with|none=>rw[e]at b;exact b.elim|some d0=>
       rw[e]at b ex;cases ex;exact q u H2 R2 (Step.of_same s) b
     ·rw[hn]at b;cases e:ZM l k with|some d0=>rw[e]at b;exact b.elim|none=>
       rw[e]at ex;cases ex;have pp:=m.put (k:=k) t hv;obtain⟨R3,S3⟩:=R2.chg (fl2:=.d) (ys:=Zo<|Cr l k d) (ws:=DZ<|D0 tr k w v) r W pp.flat;rw[LP pp]at R3 S3;exact q v _ R3 ((Step.of_same s).trans S3)<|Au.step S3 d v hv
    ·cases ex
   ·cases ex
  ·cases ex⟩
def Na(o:O (D×VE)):An:=match o with
 |some (_,a)=>.next a
 |none=>.fail
def bQ(a:JE X e (tX K M H0 fx))(f:DB e yA pos.line X.env=AH yC:=by rfl):JS X (.Expr e pos) (tS K M H0 λρ=>Na (fx ρ)):=⟨have a:=a.h;(Ik a f).mono λl g H i=>by
 obtain⟨ρ,R,q⟩:=i;try dsimp only at q
 cases b:fx ρ with|none=>rw[b]at q;exact Bo q|some p=>
  obtain⟨d,c⟩:=p;rw[b]at q;exact⟨ρ,d,c,R,b,λv j k S _=>q g j k S⟩⟩
def KU(i:Nat)(o:O (D×VE)):An:=match o with
 |some (d,a)=>.next (a.set i (.val d))
 |none=>.fail
def T7{i:Nat}{x:Ae}{a:AQ}(g:X.N.Nodup)(j:X.N[i]?=Z x)(k:Loc X.env.scope x)(c:JE X e (tX K M H0 fx))(l:DB e (Z (.Name x a)) pos.line X.env=AH yC:=by rfl)(b:autoParam (X.fn x=yB\/X.env.scope.names.lookup x=Z .local) ya):JS X (.Assign [.Name x a] e pos) (tS K M H0 λρ=>KU i (fx ρ)):=⟨have c:=c.h;(Lg g j k c l b).mono λt u H m=>by
 obtain⟨ρ,R,q⟩:=m;try dsimp only at q
 cases b:fx ρ with|none=>rw[b]at q;exact Bo q|some p=>
  obtain⟨d,f⟩:=p;rw[b]at q;refine⟨ρ,d,f,R,b,λv n o S r=>?_⟩;obtain⟨s,S1⟩:=o.setV (Ai.refl n) r;exact q _ _ s<|S.trans S1⟩
def Nb(fx:VE->O (D×VE))(g:VE->O D):VE->O (Bool×VE):=λc=>match fx c with
 |some (d,a)=>match g a with
  |some y=>(AF (Bz d y)).map λb=>(b,a)
  |none=>yA
 |none=>yA
def pB(r:X.A.units+64<AA)(f:JE X a (tX X.K M H0 fx))(i:JE X b (tP X.K M H0 g)):JT X (.Compare a [.NotEq] [b] pos) (bO X.K M H0 (Nb fx g)):=⟨have f:=f.h;have i:=i.h;(Yq (aH r) f i<|GX _ (by ext) (by ext)).mono λs H Q t=>by
 obtain⟨x,m,c,R,ex,q⟩:=t;unfold Nb at ex;split at ex
 ·next d z B=>
  split at ex
  ·next y C=>
   cases j:AF (Bz d y)with
   |none=>rw[j]at ex;cases ex
   |some F=>
    rw[j]at ex;cases ex;refine⟨x,d,c,R,B,λv L k S1 E=>⟨c,y,k,C,λu G e l=>?_⟩⟩;exact aJ (Nf M c s) G v u d y (.bl m) _ (k.st e).nh (E.p.same e) l (Lu j) λw I n o=>by
     erw[Au]at o;exact⟨m,o,q I ((k.st e).st n)<|S1.trans<|Step.of_same<|e.trans n⟩
  ·cases ex
 ·cases ex⟩
def JX(c:O (Bool×VE))(b d:VE->An):An:=match c with
 |some (yB,a)=>b a
 |some (yC,a)=>d a
 |none=>.fail
def pC{g i:U Ar}{t:VE->O (Bool×VE)}{j l:VE->An}(b:JT X c (bO K M H0 t))(d:JB X g (tS K M H0 j))(e:JB X i (tS K M H0 l)):JS X (.If c g i pos) (tS K M H0 λρ=>JX (t ρ) j l):=⟨have b:=b.h;have d:=d.h;have e:=e.h;(Sv b d e).mono λo r H n=>by
 obtain⟨ρ,R,q⟩:=n;try dsimp only at q
 cases f:t ρ with|none=>rw[f]at q;exact Bo q|some p=>
  obtain⟨k,a⟩:=p;rw[f]at q;refine⟨ρ,k,a,R,f,λs m S=>?_⟩;cases k with
  |true=>refine G7 ?_;exact⟨a,m,Bg.from S q⟩
  |false=>refine HI ?_;exact⟨a,m,Bg.from S q⟩⟩
end
open PySem.W
section
variable(lt:Nat->Nat->Bool)
structure WO(n:Nat):Prop where
 asym:∀a b,a<n->b<n->lt a b=yB->lt b a=yC
 neg:∀a b c,a<n->b<n->c<n->lt a c=yB->lt a b=yB\/lt b c=yB
def EJ(a b:Nat):Prop:=lt b a=yC
end
section
variable{lt:Nat->Nat->Bool}{n:Nat}(W:WO lt n)
include W
def WO.refl{a:Nat}(b:a<n):EJ lt a a:=by
 unfold EJ;cases h:lt a a with
 |false=>rfl
 |true=>have:=W.asym a a b b h;simp[h]at this
def WO.trans{a b c:Nat}(f:a<n)(g:b<n)(i:c<n)(d:EJ lt a b)(e:EJ lt b c):EJ lt a c:=by
 unfold EJ at *;cases h:lt c a with|false=>rfl|true=>
  rcases W.neg c b a i g f h with z|z
  ·simp[z]at e
  ·simp[z]at d
def WO.of_lt{a b:Nat}(c:a<n)(d:b<n)(h:lt a b=yB):EJ lt a b:=W.asym a b c d h
end
abbrev Bi(p:Array Nat)(i:Nat):Nat:=p.getD i 0
def HU(lt:Nat->Nat->Bool)(p:Array Nat)(k:Nat):Prop:=∀i j,i<=j->j<k->EJ lt (Bi p i) (Bi p j)
def JY(lt:Nat->Nat->Bool)(p:Array Nat)(k:Nat):Prop:=∀i j,i<=j->j<k->EJ lt (Bi p j) (Bi p i)
def Eqv(lt:Nat->Nat->Bool)(a b:Nat):Prop:=EJ lt a b/\EJ lt b a
def Bs(n:Nat)(p:Array Nat):Prop:=p.Perm (BU n).toArray
def Bs.size{n:Nat}{p:Array Nat}(h:Bs n p):p.size=n:=by have:=h.size_eq;simpa using this
theorem Bs.lt{n:Nat}{p:Array Nat}(h:Bs n p){i:Nat}(d:i<n):Bi p i<n:=by
 have e:=h.size;have b:i<p.size:=by lia
 have c:=Array.getElem_mem b;have:=(h.mem_iff).mp c;simp at this;unfold Bi;rw[bR,bS b];exact this
def Nc{i:Nat}(h:p[i]?=q[j]?):Bi p i=Bi q j:=by
 unfold Bi;rw[bR,bR,h]
def Nd{i:Nat}(a:j<=p.size)(k:Nat):Bi (kas_rev p i j) k=if i<=k/\k<j then Bi p (i+j-1-k)else Bi p k:=by
 have:=getElem?_mirror_all (i:=i) (j:=j) a k;by_cases h:i<=k/\k<j
 ·rw[if_pos h]at this ⊢;exact Nc this
 ·rw[if_neg h]at this ⊢;exact Nc this
def bT(b:k<p.size)(hd:d<=k)(i:Nat):Bi (bubble p k d) i=if i=k-d then Bi p k else if k-d<i/\i<=k then Bi p (i-1)else Bi p i:=by
 have:=getElem?_bubble b d hd i;by_cases h:i=k-d
 ·rw[if_pos h]at this ⊢;exact Nc this
 ·rw[if_neg h]at this ⊢;by_cases a:k-d<i/\i<=k
  ·rw[if_pos a]at this ⊢;exact Nc this
  ·rw[if_neg a]at this ⊢;exact Nc this
def Bs.rev(h:Bs n p)(i j:Nat):Bs n (kas_rev p i j):=(mirror_perm p i j _).trans h
def Bs.bub(h:Bs n p)(k d:Nat):Bs n (bubble p k d):=(bubble_perm p k d).trans h
section
variable{lt:Nat->Nat->Bool}{n:Nat}(W:WO lt n){cmp:Nat->Nat->(Bool->Ab->Prop)->Ab->Prop}{s:Ab}(hc:∀i j C,i<n->j<n->C (lt i j) s->cmp i j C s)
include W hc
theorem T8{p:Array Nat}(h:Bs n p):∀(f m:Nat){Q:Nat->Ab->Prop},1<=m->m+f<=n->HU lt p m->(∀g,m<=g->g<=m+f->HU lt p g->(g=m+f\/lt (Bi p g) (Bi p (g-1))=yB)->Q g s)->DJ cmp (kas_asc p f m) Q s
 |0,m,Q,r,t,k,q=>by
  rw[kas_asc,DJ]
  exact q m (Bl _) (by lia) k (.inl rfl)
 |f+1,m,Q,r,t,k,q=>by
  rw[kas_asc,DJ]
  refine hc _ _ _ (h.lt (by lia)) (h.lt (by lia)) ?_
  cases o:lt (Bi p m) (Bi p (m-1))with
  |true=>
   erw[if_true,DJ]
   exact q m (Bl _) (by lia) k (.inr o)
  |false=>
   erw[EG,if_false]
   refine T8 h f (m+1) (by lia) (by lia) (λi j l u=>?_) λg a b c d=>q g (by lia) (by lia) c (by rcases d with d|d;exact .inl (by lia);exact .inr d)
   rcases LS j m with z|z
   ·exact k i j l z
   ·have e:j=m:=by lia
    subst e
    rcases LS i j with y|y
    ·exact W.trans (h.lt (by lia)) (h.lt (i:=j-1) (by lia)) (h.lt (by lia)) (k i (j-1) (by lia) (by lia)) o
    ·have e:i=j:=by lia
     subst e
     exact W.refl (h.lt (by lia))
theorem T9(c:Bs n p){i:Nat}(f:i<j)(g:j<=n)(d:∀k,i<=k->k<j->Eqv lt (Bi p k) (Bi p (j-1)))(k:Nat)(e:k<n):Eqv lt (Bi (kas_rev p i j) k) (Bi p k):=by
 rw[Nd (by rw[c.size];exact g)];by_cases h:i<=k/\k<j
 ·rw[if_pos h];have a:=d (i+j-1-k) (by lia) (by lia);have b:=d k h.1 h.2;exact⟨W.trans (c.lt (by lia)) (c.lt (by lia)) (c.lt (by lia)) a.1 b.2,W.trans (c.lt (by lia)) (c.lt (by lia)) (c.lt (by lia)) b.1 a.2⟩
 ·rw[if_neg h];exact⟨W.refl<|c.lt e,W.refl<|c.lt e⟩
theorem bU(a:Bs n p)(b:Bs n q)(f:k<=n)(d:∀i,i<n->Eqv lt (Bi q i) (Bi p i))(h:JY lt p k):JY lt q k:=λi j c e=>W.trans (b.lt (by lia)) (a.lt (by lia)) (b.lt (by lia)) (d j (by lia)).1<|W.trans (a.lt (by lia)) (a.lt (by lia)) (b.lt (by lia)) (h i j c e) (d i (by lia)).2
theorem Pg:∀(f:Nat)(p:Array Nat)(m q:Nat){Q:Array Nat×Nat×Nat->Ab->Prop},Bs n p->1<=m->m+f<=n->q+1<=m->JY lt p m->(∀i,m-(q+1)<=i->i<m->Eqv lt (Bi p i) (Bi p (m-1))) ->
  (∀r t H,Bs n r->m<=t->t<=m+f->H+1<=t->JY lt r t->(∀i,t-(H+1)<=i->i<t->Eqv lt (Bi r i) (Bi r (t-1)))->Q (r,t,H) s)->DJ cmp (kas_desc f p m q) Q s
 |0,p,m,q,Q,l,N,K,I,u,w,v=>by
  rw[kas_desc,DJ]
  exact v p m q l (Bl _) (by lia) I u w
 |f+1,p,m,q,Q,l,N,K,I,u,w,v=>by
  rw[kas_desc,DJ]
  refine hc _ _ _ (l.lt (by lia)) (l.lt (by lia)) ?_
  have step:∀(r:Array Nat),Bs n r->JY lt r m->EJ lt (Bi r m) (Bi r (m-1))->JY lt r (m+1):=λr o h G i j F P=>by
   rcases LS j m with z|z
   ·exact h i j F z
   ·have e:j=m:=by lia
    subst e
    rcases LS i j with y|y
    ·exact W.trans (o.lt (by lia)) (o.lt (i:=j-1) (by lia)) (o.lt (by lia)) G (h i (j-1) (by lia) (by lia))
    ·have e:i=j:=by lia
     subst e
     exact W.refl (o.lt (by lia))
  cases G:lt (Bi p m) (Bi p (m-1))with
  |true=>
   have x:=W.of_lt (l.lt (by lia)) (l.lt (by lia)) G
   erw[if_true]
   have A:∀(r:Array Nat),Bs n r->∀i,m+1-(0+1)<=i->i<m+1->Eqv lt (Bi r i) (Bi r (m+1-1)):=λr o i a b=>by
    have e:i=m:=by lia
    subst e
    exact⟨W.refl (o.lt (by lia)),W.refl (o.lt (by lia))⟩
   by_cases M:q>0
   ·erw[M,if_true]
    have o:=l.rev (m-(q+1)) m
    have B:=T9 W hc l (i:=m-(q+1)) (j:=m) (by lia) (by lia) w
    have L:=bU W hc l o (k:=m) (by lia) (λi T=>B i T) u
    have em:Bi (kas_rev p (m-(q+1)) m) m=Bi p m:=by rw[Nd (by rw[l.size];lia),if_neg (by lia)]
    have C:EJ lt (Bi (kas_rev p (m-(q+1)) m) m) (Bi (kas_rev p (m-(q+1)) m) (m-1)):=by
     rw[em]
     exact W.trans (l.lt (by lia)) (l.lt (by lia)) (o.lt (by lia)) x (B (m-1) (by lia)).2
    exact Pg f _ (m+1) 0 o (by lia) (by lia) (by lia) (step _ o L C) (A _ o) λE m2 q2 a b c d e g=>v E m2 q2 a (by lia) (by lia) d e g
   ·erw[M,if_false]
    exact Pg f _ (m+1) 0 l (by lia) (by lia) (by lia) (step _ l u x) (A _ l) λE m2 q2 a b c d e g=>v E m2 q2 a (by lia) (by lia) d e g
  |false=>
   erw[EG,if_false,DJ]
   refine hc _ _ _ (l.lt (by lia)) (l.lt (by lia)) ?_
   cases hd:lt (Bi p (m-1)) (Bi p m)with
   |true=>
    erw[if_true,DJ]
    exact v p m q l (Bl _) (by lia) I u w
   |false=>
    erw[EG,if_false]
    refine Pg f _ (m+1) (q+1) l (by lia) (by lia) (by lia) (step _ l u hd) (λi a b=>?_) λE m2 q2 a b c d e g=>v E m2 q2 a (by lia) (by lia) d e g
    show Eqv lt (Bi p i) (Bi p m)
    rcases LS i m with z|z
    ·have:=w i (by lia) z
     exact⟨W.trans (l.lt (by lia)) (l.lt (i:=m-1) (by lia)) (l.lt (by lia)) this.1 G,W.trans (l.lt (by lia)) (l.lt (i:=m-1) (by lia)) (l.lt (by lia)) hd this.2⟩
    ·have e:i=m:=by lia
     subst e
     exact⟨W.refl (l.lt (by lia)),W.refl (l.lt (by lia))⟩
theorem bV{Q:Nat×Array Nat->Ab->Prop}(g:Bs n p)(k:1<=m)(r:m<=e)(t:e<=n)(l:JY lt p m) (q:∀d h,Bs n h->1<=d->d<=e->HU lt h d->Q (d,h) s):DJ cmp (kas_tail3 m e p) Q s:=by
 unfold kas_tail3;rw[Ph];have f:=g.rev 0 m;refine T8 W hc f (e-m) m k (by lia) (λi j o u=>?_) λd a b c _=>?_
 ·rw[Nd (by rw[g.size];lia),Nd (by rw[g.size];lia),if_pos (by lia),if_pos (by lia)];exact l (0+m-1-j) (0+m-1-i) (by lia) (by lia)
 ·rw[DJ];exact q d _ f (by lia) (by lia) c
theorem pD{Q:Nat×Array Nat->Ab->Prop}(k:Bs n p)(v:m+1<=f)(l:f<=n)(r:JY lt p (m+1)) (q:∀h j,Bs n j->1<=h->h<=f->HU lt j h->Q (h,j) s):DJ cmp (kas_descPart m f p) Q s:=by
 unfold kas_descPart;rw[Ph];refine Pg W hc (f-(m+1)) p (m+1) 0 k (by lia) (by lia) (by lia) r (λi a b=>?_) λj h t a b c d e g=>?_
 ·have e:i=m:=by lia
  subst e;exact⟨W.refl<|k.lt (by lia),W.refl<|k.lt (by lia)⟩
 ·by_cases o:t>0
  ·erw[o,if_true];exact bV W hc (a.rev _ _) (by lia) (by lia) l (bU W hc a (a.rev _ _) (by lia) (λi u=>T9 W hc a (by lia) (by lia) g i u) e) q
  ·erw[o,if_false];exact bV W hc a (by lia) (by lia) l e q
theorem pE{Q:Nat×Array Nat->Ab->Prop}(g:Bs n p)(N:1<=n)(q:∀v h,Bs n h->1<=v->v<=n->HU lt h v->Q (v,h) s):DJ cmp (kas_count n p) Q s:=by
 unfold kas_count;rw[Ph];refine T8 W hc g (n-1) 1 (by lia) (by lia) (λi j A H=>?_) λm a b c d=>?_
 ·have e:i=0:=by lia
  have I:j=0:=by lia
  subst e I;exact W.refl<|g.lt (by lia)
 ·by_cases B:m=n
  ·subst B;erw[beq_self_eq_true,if_true,DJ];exact q m p g a (by lia) c
  ·have F:(m==n)=yC:=by simpa using B
   have t:lt (Bi p m) (Bi p<|m-1)=yB:=by
    rcases d with d|d
    ·exact absurd (by lia) B
    ·exact d
   erw[F,EG,if_false];have l:∀(h:Array Nat),Bs n h->(∀i,i<m->Eqv lt (Bi h i) (Bi h<|m-1))->lt (Bi h m) (Bi h<|m-1)=yB->DJ cmp (kas_descPart m n h) Q s:=λh f r L=>
    pD W hc f (by lia) (by lia) (λi j A H=>by
     rcases LS j m with z|z
     ·exact W.trans (f.lt (by lia)) (f.lt (by lia)) (f.lt (by lia)) (r j z).1 (r i (by lia)).2
     ·have e:j=m:=by lia
      subst e;rcases LS i j with y|y
      ·exact W.trans (f.lt (by lia)) (f.lt (by lia)) (f.lt (by lia)) (W.of_lt (f.lt (by lia)) (f.lt (by lia)) L) (r i y).2
      ·have e:i=j:=by lia
       subst e;exact W.refl<|f.lt (by lia)) q
   by_cases u:m>1
   ·erw[u,if_true,DJ];refine hc _ _ _ (g.lt (by lia)) (g.lt (by lia)) ?_;cases M:lt (Bi p 0) (Bi p<|m-1)with
    |true=>
     erw[if_true,DJ];exact q m p g a (by lia) c
    |false=>
     erw[EG,if_false];have f:=g.rev 0 m;have r:∀i,i<m->Eqv lt (Bi p i) (Bi p<|m-1):=λi w=>⟨c i (m-1) (by lia) (by lia),W.trans (g.lt (by lia)) (g.lt (i:=0) (by lia)) (g.lt (by lia)) M (c 0 i (by lia) w)⟩;have o:=λk C=>T9 W hc g (i:=0) (j:=m) (by lia) (by lia) (λk _ C=>r k C) k C;have em:Bi (kas_rev p 0 m) m=Bi p m:=by rw[Nd (by rw[g.size];lia),if_neg (by lia)]
     refine l _ f (λi w=>?_) ?_
     ·have E:=o i (by lia);have x:=o (m-1) (by lia);have G:=r i w;exact⟨W.trans (f.lt (by lia)) (g.lt (i:=i) (by lia)) (f.lt (by lia)) E.1 (W.trans (g.lt (by lia)) (g.lt (i:=m-1) (by lia)) (f.lt (by lia)) G.1 x.2),
       W.trans (f.lt (by lia)) (g.lt (i:=m-1) (by lia)) (f.lt (by lia)) x.1 (W.trans (g.lt (by lia)) (g.lt (i:=i) (by lia)) (f.lt (by lia)) G.2 E.2)⟩
     ·rw[em];have x:=o (m-1) (by lia);rcases W.neg (Bi p m) (Bi (kas_rev p 0 m)<|m-1) (Bi p<|m-1) (g.lt (by lia)) (f.lt (by lia)) (g.lt (by lia)) t with z|z
      ·exact z
      ·have:=x.2;unfold EJ at this;rw[z]at this;cases this
   ·have e:m=1:=by lia
    subst e;erw[u,if_false];refine l p g (λi w=>?_) t;have e:i=0:=by lia
    subst e;exact⟨W.refl<|g.lt (by lia),W.refl<|g.lt (by lia)⟩
theorem Ua{p:Array Nat}(c:Bs n p){k:Nat}(g:k<n)(j:HU lt p k):∀(f l r:Nat){Q:Nat->Ab->Prop},l<=r->r<=k->r<=l+f->(∀i,i<l->EJ lt (Bi p i) (Bi p k))->(∀i,r<=i->i<k->lt (Bi p k) (Bi p i)=yB) ->
  (∀m,m<=k->(∀i,i<m->EJ lt (Bi p i) (Bi p k))->(∀i,m<=i->i<k->lt (Bi p k) (Bi p i)=yB)->Q m s)->DJ cmp (kas_place p k f l r) Q s
 |0,l,r,Q,w,o,x,t,u,q=>by
  rw[kas_place,DJ]
  have e:l=r:=by lia
  subst e
  exact q l o t u
 |f+1,l,r,Q,w,o,x,t,u,q=>by
  rw[kas_place]
  by_cases h:l≥r
  ·have e:l=r:=by lia
   subst e
   rw[if_pos h,DJ]
   exact q l o t u
  ·rw[if_neg h,DJ]
   refine hc _ _ _ (c.lt g) (c.lt (by lia)) ?_
   cases v:lt (Bi p k) (Bi p ((l+r)/2))with
   |true=>
    erw[if_true]
    refine Ua c g j f l ((l+r)/2) (by lia) (by lia) (by lia) t (λi a b=>?_) q
    have d:=j ((l+r)/2) i a b
    rcases W.neg (Bi p k) (Bi p i) (Bi p ((l+r)/2)) (c.lt g) (c.lt (by lia)) (c.lt (by lia)) v with z|z
    ·exact z
    ·unfold EJ at d;rw[z]at d;cases d
   |false=>
    erw[EG,if_false]
    refine Ua c g j f ((l+r)/2+1) r (by lia) o (by lia) (λi a=>?_) u q
    exact W.trans (c.lt (by lia)) (c.lt (i:=(l+r)/2) (by lia)) (c.lt g) (j i ((l+r)/2) (by lia) (by lia)) v
theorem bW:∀(f:Nat)(p:Array Nat)(k:Nat){Q:Array Nat->Ab->Prop},Bs n p->k+f=n->HU lt p k->(∀t,Bs n t->HU lt t n->Q t s)->DJ cmp (kas_bin f p k) Q s
 |0,p,k,Q,g,x,h,q=>by
  rw[kas_bin,DJ]
  have e:k=n:=by lia
  subst e
  exact q p g h
 |f+1,p,k,Q,g,x,h,q=>by
  rw[kas_bin,Ph]
  refine Ua W hc g (k:=k) (by lia) h k 0 k (by lia) (Bl _) (by lia) (λi z=>by lia) (λi a b=>by lia) λl a b c=>?_
  refine bW f _ (k+1) (g.bub _ _) (by lia) (λi j u y=>?_) q
  have m:k<p.size:=by rw[g.size];lia
  have v:k-(k-l)=l:=by lia
  rw[bT m (by lia),bT m (by lia),v]
  by_cases w:i=l
  ·rw[if_pos w]
   by_cases d:j=l
   ·rw[if_pos d];exact W.refl (g.lt (by lia))
   ·rw[if_neg d,if_pos (by lia)]
    exact W.of_lt (g.lt (by lia)) (g.lt (by lia)) (c (j-1) (by lia) (by lia))
  ·rw[if_neg w]
   by_cases o:l<i/\i<=k
   ·rw[if_pos o,if_neg (by lia),if_pos (by lia)]
    exact h (i-1) (j-1) (by lia) (by lia)
   ·rw[if_neg o]
    by_cases d:j=l
    ·rw[if_pos d];exact b i (by lia)
    ·rw[if_neg d]
     by_cases r:l<j/\j<=k
     ·rw[if_pos r];exact h i (j-1) (by lia) (by lia)
     ·rw[if_neg r];exact h i j u (by lia)
theorem pF{Q:Array Nat->Ab->Prop}(g:1<=n)(q:∀f,Bs n f->HU lt f n->Q f s):DJ cmp (kas_sort n) Q s:=by
 unfold kas_sort;rw[Ph];refine pE W hc (Array.Perm.refl _) g λm f a b c d=>?_;by_cases h:m<n
 ·erw[h,if_true];have e:max m 1=m:=by lia
  rw[e];exact bW W hc (n-m) f m a (by lia) d q
 ·have e:m=n:=by lia
  subst e;erw[Gx,if_false,DJ];exact q f a d
end
section
variable{prog:A4}{w:Aj}{A:Ah}{s:Ab}
def pG{a:Array Aa}{r:Bool}{Q:Bool->Ab->Prop}(e:s.heap.get? l=Z {cls:=.type "list",dict:=f,data:=.seq items n,slots:=g})(i:s.heap.get? b=Z {cls:=.type "list",dict:=c,data:=.seq a n2,slots:=d})(j:FA A.in1 s items.toList a.toList r) (k:A.units<AA) (h:Q r s):wpAny (Ag prog w) A (oneLt' yB (.ref l) (.ref b)) Q E s:=by
 rw[oneLt'_eq];erw[if_true];refine Al<|wpAny_cRoomFor k ?_;refine Al<|wpAny_callSpecialIfBound?_slot ⟨_,e,rfl⟩ PySem.F.slot_list_lt<|BQ PySem.F.slot_list_lt ⟨_,e,rfl⟩ PySem.F.entry_list_lt (PySem.F.args_list_lt_2 _ _) (Y5 l b items a n n2 f c g d r) ⟨e,i,j,?_⟩;exact Ij h
end
section
variable{s:Ab}{N:Fb}
theorem pH(I:Inv X pins σ H s)(A:Ah)(hu:A.units+40<AA)(b fin:Bool){Q:Bool->Ab->Prop}:∀(xs ys:U D)(a c:U V)(us1 B7:U Aa)(i:Nat)(r:Bool),Ff (ltN 5) xs ys=Z r->Ad X.K N H xs a->Ad X.K N H ys c->As a us1->As c B7->fin=decide (xs.length<ys.length)->(b=yC\/i≠0\/((∀x,xs.head?=Z x->∃n,x=.int n)/\∀y,ys.head?=Z y->∃n,y=.int n))->Q r s->KatLex prog w A b fin Q (us1.zip B7) i s:=by
 intro xs;induction xs with
 |nil=>
  intro ys a c us1 B7 i r h d1 d2 t u k F q;erw[Ad]at d1;subst d1;cases t;rw[List.zip_nil_left];refine kat_nil ?_;cases ys with
  |nil=>erw[Ff]at h;cases h;rw[k];exact q
  |cons y ys=>erw[Ff]at h;cases h;rw[k];simpa using q
 |cons x xs L=>
  intro ys a c us1 B7 i r h d1 d2 t u k F q;erw[Ad]at d1;obtain⟨w1,t1,rfl,d,v⟩:=d1;cases t with
  |cons f B=>
   cases ys with
   |nil=>
    erw[Ad]at d2;subst d2;cases u;rw[List.zip_nil_right];erw[Ff]at h;cases h;refine kat_nil ?_;rw[k];simpa using q
   |cons y ys=>
    erw[Ad]at d2;obtain⟨w2,t2,rfl,g,C⟩:=d2;cases u with
    |cons j E=>
     rw[G6];erw[Ff]at h;split at h
     ·next G=>
      rw[Dp]at G;have m:=(LF I deep A x y _ _ _ _ (by unfold deep;lia) G.1 G.2 d.p g.p f j).2.1;refine kat_cons ?_;split at h
      ·next e=>
       rw[e]at m;refine m prog w _ _ ?_;unfold KatGo;rw[if_pos rfl];exact L ys _ _ _ _ (i+1) r h v C B E (by rw[k];simp) (.inr<|.inl (by lia)) q
      ·next e=>
       rw[MZ]at e;rw[e]at m;refine m prog w _ _ ?_;refine kat_no ?_;by_cases o:(b&&i==0)=yB
       ·rw[o];have l:b=yB/\i=0:=by simpa using o
        rcases F with z|z|⟨T,M⟩
        ·simp[l.1]at z
        ·exact absurd l.2 z
        ·obtain⟨n1,rfl⟩:=T x rfl;obtain⟨n2,rfl⟩:=M y rfl;have Y:=d.p.int;have g2:=g.p.int;subst Y g2;obtain⟨k1,rfl⟩:=f;obtain⟨k2,rfl⟩:=j;erw[ltN]at h;cases h;exact oneLt_int q
       ·rw[MZ]at o;rw[o];refine kat_one _ _ ?_;exact TF I 5 A x y _ _ _ _ r (by unfold deep;lia) h d.p g.p f j prog w _ (PySem.W.BoolBack Q) q
     ·cases h
theorem pI(I:Inv X pins σ H s)(n:Nat)(A:Ah)(B:A.units+n+1+deep<AA):∀(xs ys:U D)(a c:U V)(us1 B7:U Aa),Ff (ltN n) xs ys=Z b->Ad X.K N H xs a->Ad X.K N H ys c->As a us1->As c B7->FA A.in1 s us1 B7 b:=by
 intro xs;induction xs with
 |nil=>
  intro ys a c us1 B7 h d1 d2 l d;erw[Ad]at d1;subst d1;cases l;cases ys with
  |nil=>erw[Ad]at d2;subst d2;cases d;cases h;exact .nn
  |cons y ys=>erw[Ad]at d2;obtain⟨w,t,rfl,_,_⟩:=d2;cases d;cases h;exact .nc
 |cons x xs m=>
  intro ys a c us1 B7 h d1 d2 l d;erw[Ad]at d1;obtain⟨L,M,rfl,f,o⟩:=d1;cases l with
  |cons g r=>
   cases ys with|nil=>erw[Ad]at d2;subst d2;cases d;cases h;exact .cn|cons y ys=>
    erw[Ad]at d2;obtain⟨C,T,rfl,i,u⟩:=d2;cases d with
    |cons j v=>
     erw[Ff]at h;split at h
     ·next z=>
      rw[Dp]at z;have k:=(LF I deep A.in1 x y _ _ _ _ (by rw[IK];lia) z.1 z.2 f.p i.p g j).2.1;split at h
      ·next e=>rw[e]at k;exact .eq k<|m ys _ _ _ _ h o u r v
      ·next e=>
       rw[MZ]at e;rw[e]at k;exact .ne k λprog G E Q q=>TF I n A.in1 x y _ _ _ _ b (by rw[IK];lia) h f.p i.p g j prog G E Q q
     ·cases h
def Cu(b:O Bool)(k:D):Prop:=match b with
 |some yB=>∃i r,k=.tup (.int i::r)
 |some yC=>∃f r,k=.tup (.tup f::r)
 |none=>∃r,k=.lst r
abbrev Ng:O Bool->SortKind
 |some b=>tuples' b
 |none=>oneType'
def Cu.tup{b:Bool}{k:D}(h:Cu (Z b) k):∃f r,k=.tup (f::r):=by
 cases b with
 |true=>obtain⟨i,r,e⟩:=h;exact⟨_,_,e⟩
 |false=>obtain⟨i,r,e⟩:=h;exact⟨_,_,e⟩
def pJ(I:Inv X pins σ H s)(A:Ah)(G:A.units+40<AA)(b r:Bool){z:V}{B C:Aa}{Q:Bool->Ab->Prop}(h:ltN 6 k l=Z r)(m1:Cu (Z b) k)(m2:Cu (Z b) l) (d1:Au X.K N H k y) (d2:Au X.K N H l z) (F:RelV y B) (L:RelV z C) (q:Q r s):wpAny (Ag prog w) A (keyLt' (tuples' b) B C) Q E s:=by
 obtain⟨M,P,d⟩:=m1.tup;obtain⟨T,R,e⟩:=m2.tup;subst d e;erw[Au]at d1 d2;obtain⟨a1,m,d,q1,f⟩:=d1;obtain⟨a2,n,e,q2,g⟩:=d2;subst d e;cases F;cases L;obtain⟨a,i,p1,_⟩:=I.tuple q1;obtain⟨c,j,Y,_⟩:=I.tuple q2;obtain⟨o1,o,_,n1,p⟩:=p1;obtain⟨o2,t,_,n2,u⟩:=Y;refine kat_lt o p t u ?_;have l1:=f.length;have l2:=g.length;have l3:=i.length;have l4:=j.length;have:=pH I (prog:=prog) (w:=w) (N:=N) A G b (decide<|a.toArray.size<c.toArray.size) (Q:=Q) (M::P) (T::R) m n a c 0 r h f g i j (by rw[Bx,Bx,<- l3,<- l4,<- l1,<- l2]) (by
  cases b with|false=>exact .inl rfl|true=>
   obtain⟨i1,_,d⟩:=m1;obtain⟨i2,_,e⟩:=m2;cases d;cases e;exact .inr<|.inr ⟨λx v=>by cases v;exact⟨_,rfl⟩,λx v=>by cases v;exact⟨_,rfl⟩⟩) q
 simpa using this
theorem pK(I:Inv X pins σ H s)(A:Ah)(P:A.units+40<AA)(b:O Bool)(r:Bool){u v:V}{x y:Aa}{Q:Bool->Ab->Prop}(h:ltN 6 f g=Z r)(m1:Cu b f)(m2:Cu b g) (d1:Au X.K N H f u) (d2:Au X.K N H g v) (z:RelV u x) (B:RelV v y) (q:Q r s):wpAny (Ag prog w) A (keyLt' (Ng b) x y) Q E s:=by
 cases b with|some b=>exact pJ I A P b r h m1 m2 d1 d2 z B q|none=>
  obtain⟨T,i⟩:=m1;obtain⟨R,j⟩:=m2;subst i j;obtain⟨a1,Y,i,q1,k⟩:=d1.p;obtain⟨a2,vs2,j,q2,l⟩:=d2.p;subst i j;cases z;cases B;obtain⟨C,m,⟨⟨cls,dd,data,sl⟩,n1,n,a,G,c⟩,_⟩:=I.list q1;obtain⟨F,o,⟨⟨L,dd2,data2,sl2⟩,n2,t,d,M,e⟩,_⟩:=I.list q2;simp only at a c d e;subst a c d e;exact pG n t (by simpa using pI I 5 A (by unfold deep;lia) T R _ _ _ _ h k l m o) (by lia) q
def pL(I:Inv X pins σ H s)(b:Bool):∀(c:U D)(kvs:U V)(us:U Aa),Ad X.K N H c kvs->As kvs us->(∀k∈c,Cu (Z b) k)->∃j,KatTups s.heap us j/\j.length=us.length/\∀v∈j,Looks M s.heap (typeOf v) (.type (if b then "int" else "tuple")):=by
 intro c;induction c with
 |nil=>
  intro kvs us d r _;erw[Ad]at d;subst d;cases r;exact⟨[],KatTups.nil,rfl,λ_ h=>nomatch h⟩
 |cons k c R=>
  intro kvs us d r F;erw[Ad]at d;obtain⟨v,t,rfl,L,Y⟩:=d;cases r with
  |cons rv rt=>
   obtain⟨j,h1,h2,h3⟩:=R t _ Y rt λk x=>F k<|A9 _ x;have m:=F k A8;obtain⟨f,g,rfl⟩:=m.tup;erw[Au]at L;obtain⟨a,vs,rfl,q,dl⟩:=L;cases rv;obtain⟨its,y,⟨o,ho,hc,n,hd⟩,_⟩:=I.tuple q;obtain⟨w,vs',rfl,z,_⟩:=dl;cases y with
   |cons l rt1=>
    rename_i u us';refine⟨u::j,KatTups.cons ho hc hd (by simp) h1,by simp[h2],λv B=>?_⟩;rcases Bh.mp B with e|B
    ·subst e;intro A Q E s' x P;cases b with
     |true=>
      obtain⟨i,_,e⟩:=m;cases e;have g:=z.p.int;subst g;obtain⟨t,rfl⟩:=l;exact Ks rfl P
     |false=>
      obtain⟨i,_,e⟩:=m;cases e;erw[Au]at z;obtain⟨a2,vs2,rfl,q2,_⟩:=z;cases l;obtain⟨_,_,⟨o2,C,G,_⟩,_⟩:=I.tuple q2;exact Ks ⟨o2,x _ _ C,G⟩ P
    ·exact h3 v B
def pM(I:Inv X pins σ H s):∀(b:U D)(kvs:U V)(us:U Aa),Ad X.K N H b kvs->As kvs us->(∀k∈b,Cu yA k)->∀u∈us,Looks M s.heap (typeOf u) (.type "list"):=by
 intro b;induction b with
 |nil=>
  intro kvs us d r _;erw[Ad]at d;subst d;cases r;exact λ_ h=>nomatch h
 |cons k b j=>
  intro kvs us d r i;erw[Ad]at d;obtain⟨v,t,rfl,l,m⟩:=d;cases r with
  |cons w rt=>
   intro u c;rcases Bh.mp c with e|c
   ·subst e;obtain⟨g,rfl⟩:=i k A8;obtain⟨a,B,rfl,q,_⟩:=l.p;cases w;obtain⟨_,_,⟨o,n,x,y,_⟩,_⟩:=I.list q;intro A Q E C f z;exact Ks ⟨o,f _ _ x,y⟩ z
   ·exact j t _ m rt (λk f=>i k<|A9 _ f) u c
theorem pN(I:Inv X pins σ H s)(b:O Bool)(a:U D)(kvs:U V)(us:U Aa)(d:Ad X.K N H a kvs)(r:As kvs us)(c:∀k∈a,Cu b k)(e:2<=us.length){Q:SortKind->Ab->Prop}(q:Q (Ng b) s):wpAny M A (keyKind' us.toArray) Q E s:=by
 cases b with
 |some b=>
  obtain⟨h,f,i,g⟩:=pL I b a kvs us d r c;refine kat_kind f (by lia) g (by cases b<;>rfl) ?_;have em:(Value.type (if b=yB then "int" else "tuple") != Value.type "tuple")=b:=by cases b<;>rfl
  rw[em];exact q
 |none=>exact kas_kind e (pM I a kvs us d r c) rfl rfl q
structure Off(X:Cx)(pins:List (Ac×AK))(a:Ac):Prop where
 nL:a≠X.env.locals
 s0:X.s₀.heap.objs.size<=a
 cl:∀x c,X.env.cells.lookup x=Z c->c≠a
 pn:∀p∈X.pn++pins,p.1≠a
 nf:a∉X.fs
def Inv.off(I:Inv X pins σ H s)(h:s.heap.objs.size<=a):Off X pins a where
 nL:=λe=>by have b:=I.lt;rw[<- e]at b;exact absurd (CC b h)<|Gx _
 s0:=BX I.sz h;cl:=λx c e z=>by
  obtain⟨v,o,d,_⟩:=I.cell x c e;have b:=BC d;rw[z]at b;exact absurd (CC b h)<|Gx _
 pn:=λp f z=>by
  have b:=BC (I.pin p f).1;rw[z]at b;exact absurd (CC b h)<|Gx _
 nf:=I.nofs h
def Inv.pin1(I:Inv X pins σ H s)(c:H a=yA)(f:Off X pins a)(e:s.heap.get? a=Z o)(d:∀v,o.data≠.cell v):Inv X (pins++[(a,o)]) σ H s:=I.pins_of λp b=>by
  rcases Dk.mp b with b|b
  ·exact I.pin p<|Df _ b
  ·erw[Ew]at b;subst b;exact⟨e,c,f.nL,f.nf,d⟩
def Inv.catch(I:Inv X pins σ H s)(h:H a=yA)(f:Off X pins a)(e:s.heap.get? a=Z {cls:=.type "list",data:=.seq d.toArray n})(i:As vs d)(hz:vs.length<=AB):Inv X pins σ (AM H a (.lst vs)) s:=by
 have ne:∀b u,H b=Z u->b≠a:=λb u q z=>by simp[z,h]at q
 have:=I.step (h':=s.heap) (g':=s.gens) (d':=s.drawn) (t':=s.toks) (ch:=[a]) (H':=AM H a<|.lst vs) (λb g=>by
   have e:b=a:=by simpa using g
   subst e;exact⟨.inr f.s0,f.nL,f.cl,f.pn⟩) (λb o _ _ _ q _=>q) (λb o _ _ _ q _=>⟨o.slots,q⟩) (λb o g _ n=>by rw[ZA<|λz=>g (by simp[z])];exact n) (λb o _ q=>⟨o,q⟩)
  (λb j q=>by rw[ZA<|ne _ _ q];exact q) (λb o u q=>by rw[ZA<|ne _ _ q];exact q) (λb A q=>⟨#[],by rw[ZA<|ne _ _ q,q];simp⟩) (λm k=>k) (λb u q=>by
   by_cases g:b=a
   ·subst g;rw[D4]at q;cases q;exact⟨hz,d,n,i,e⟩
   ·rw[ZA g]at q;exact(I.hok b u q).stay (λc v _ r=>r) (λc r=>by rw[ZA<|ne _ _ r];exact r) λc j r=>by rw[ZA<|ne _ _ r];exact r) I.bare
 exact this
end
def Eb(F:U Sl->O Rv)(x:D):D:=((F [.val x]).map CH).getD .non
def Dc(F:U Sl->O Rv)(x y:D):Bool:=match ltN 6 (Eb F x) (Eb F y)with
 |some yB=>yB
 |_=>yC
def bX{x y:D}{r:Bool}(h:ltN 6 (Eb F x) (Eb F y)=Z r):Dc F x y=r:=by
 unfold Dc;rw[h];cases r<;>rfl
structure BJ(F:List Sl->Option Rv)(xs:List D):Prop where
 few:xs.length<64
 tells:∀x∈xs,∃r,F [.val x]=Z r
 mode:∃b,∀x∈xs,Cu b (Eb F x)
 cmp:∀x∈xs,∀y∈xs,∃r,ltN 6 (Eb F x) (Eb F y)=Z r
 asym:∀x∈xs,∀y∈xs,Dc F x y=yB->Dc F y x=yC
 neg:∀x∈xs,∀y∈xs,∀z∈xs,Dc F x z=yB->Dc F x y=yB\/Dc F y z=yB
 anti:∀x∈xs,∀y∈xs,Dc F x y=yC->Dc F y x=yC->x=y
def IW(lt:D->D->Bool)(x:D):U D->U D
 |[]=>[x]
 |y::r=>if lt x y then x::y::r else y::IW lt x r
def Gf(lt:D->D->Bool):U D->U D
 |[]=>[]
 |x::r=>IW lt x (Gf lt r)
theorem Ub(lt:D->D->Bool)(x:D):∀l,(IW lt x l).Perm (x::l)
 |[]=>.refl _
 |y::r=>by
  unfold IW;split
  ·exact .refl _
  ·exact((Ub lt x r).cons y).trans<|.swap x y r
theorem Pj(lt:D->D->Bool):∀l,(Gf lt l).Perm l
 |[]=>.refl _
 |x::r=>(Ub lt x _).trans<|(Pj lt r).cons x
theorem bY{F:U Sl->O Rv}{xs:U D}(h:BJ F xs){x:D}(f:x∈xs):∀l:U D,(∀y∈l,y∈xs)->l.Pairwise (λa b=>Dc F b a=yC)->(IW (Dc F) x l).Pairwise λa b=>Dc F b a=yC
 |[],_,_=>by simp[IW]
 |y::r,g,j=>by
  obtain⟨k,m⟩:=List.pairwise_cons.mp j;have i:=g y A8;unfold IW;split
  ·next d=>
   refine List.pairwise_cons.mpr ⟨λz c=>?_,j⟩;rcases Bh.mp c with e|c
   ·subst e;exact h.asym x f z i d
   ·cases n:Dc F z x with|false=>rfl|true=>
     rcases h.neg z (g z<|A9 _ c) y i x f n with q|q
     ·simp[k z c]at q
     ·simp[h.asym x f y i d]at q
  ·next d=>
   rw[MZ]at d;refine List.pairwise_cons.mpr ⟨λz c=>?_,bY h f r (λz c=>g z<|A9 _ c) m⟩;rcases Bh.mp ((Ub (Dc F) x r).subset c)with e|c
   ·subst e;exact d
   ·exact k z c
theorem bZ{F:U Sl->O Rv}{xs:U D}(h:BJ F xs):∀l:U D,(∀y∈l,y∈xs)->(Gf (Dc F) l).Pairwise λa b=>Dc F b a=yC
 |[],_=>.nil
 |x::r,c=>bY h (c x A8) _ (λy d=>c y<|A9 _<|(Pj _ r).subset d) (bZ h r λy d=>c y<|A9 _ d)
def LU(F:U Sl->O Rv)(xs:U D):O (U D):=gd (BJ F xs) (Z (Gf (Dc F) xs))
def BJ.same{ys:U D}(h:BJ F xs)(c:ys.Perm xs)(d:ys.Pairwise λa b=>Dc F b a=yC):ys=Gf (Dc F) xs:=List.Perm.eq_of_pairwise (λa b e f g i=>h.anti a (c.subset e) b ((Pj _ xs).subset f) i g) d (bZ h xs λ_ j=>j) (c.trans (Pj _ xs).symm)
def pO(h:BJ F xs):LU F xs=Z (Gf (Dc F) xs):=Lz h
def pP{ys:U D}(h:LU F xs=Z ys):BJ F xs/\ys=Gf (Dc F) xs:=by
 unfold LU gd at h;split at h
 ·next a=>cases h;exact⟨a,rfl⟩
 ·cases h
section
variable{s:Ab}{N:Fb}
theorem b0{K:Av}{a:U D}{vs:U V}(h:Ad K N H a vs):∀(b:U Nat),(∀j∈b,j<a.length)->Ad K N H (b.map λj=>a.getD j .non) (b.map λj=>vs.getD j .non)
 |[],_=>Ad.nil
 |j::b,c=>by
  have f:=c j A8;obtain⟨v,e,d⟩:=h.get<|Dl f;refine Ad.cons ?_<|b0 h b λk g=>c k<|A9 _ g;have i:a.getD j .non=a[j]:=by simp[Gg,f]
  have l:vs.getD j .non=v:=by simp[Gg,e]
  show Au K N H (a.getD j .non)<|vs.getD j .non
  rw[i,l];exact d
theorem Pk{vs:U V}{us:U Aa}(h:As vs us):∀(b:U Nat),As (b.map λj=>vs.getD j .non) (b.map λj=>us.getD j .none)
 |[]=>.nil
 |j::b=>by
  refine .cons ?_<|Pk h b;induction h generalizing j with|nil=>simp;rfl|cons a _ c=>
   cases j with
   |zero=>simpa using a
   |succ j=>simpa using c j
theorem pQ(I:Inv X pins σ H s)(A:Ah)(hu:A.units+40<AA)(h:BJ F f){kvs:U V}{items:U Aa} (d:Ad X.K N H (f.map (Eb F)) kvs) (r:As kvs us) (g:items.length=f.length)    (q:∀(p:U Nat) (st:SortSt),p.Perm (BU f.length)->(p.map λj=>f.getD j .non)=Gf (Dc F) f->Array.map (λx=>x.2) (arrOf st)=(p.map λj=>items.getD j .none).toArray->failedOf st=yA->wpAny (Ag prog w) A (ksk_tail a yC m M st) P E s):wpAny (Ag prog w) A (ksk_end a yC items.toArray m M us.toArray) P E s:=by
 unfold ksk_end
 erw[EG,if_false]
 have l1:=d.length
 have l2:=r.length
 rw[Bd]at l1
 by_cases u:items.toArray.size<2
 ·rw[if_pos u]
  erw[u,if_true]
  have R:us.length=items.length:=by lia
  rw[Bx]at u
  refine Al (AO ?_)
  refine Al ?_
  refine AO ?_
  refine q (BU f.length) (SortSt.mk' general' (us.toArray.zip items.toArray) #[] 7 yA) (.refl _) ?_ ?_ rfl
  ·have e:(BU f.length).map (λj=>f.getD j .non)=f:=by
    apply HK
    intro i
    by_cases g:i<f.length
    ·simp[g]
    ·simp[g]
   rw[e]
   refine h.same (.refl _) ?_
   match f,g with
   |[],_=>exact .nil
   |[a],_=>exact List.pairwise_singleton _ _
   |a::b::c,g=>simp at g;lia
  ·show Array.map (λx=>x.2) (us.toArray.zip items.toArray)=_
   have e:(BU f.length).map (λj=>items.getD j .none)=items:=by
    rw[<- g]
    apply HK
    intro i
    by_cases g:i<items.length
    ·simp[g]
    ·simp[g]
   rw[e]
   rw[List.zip_toArray,List.map_toArray]
   congr 1
   exact List.map_snd_zip (by lia)
 ·rw[if_neg u]
  erw[u,if_false]
  rw[Bx]at u
  obtain⟨b,n⟩:=h.mode
  refine Al (pN I b (f.map (Eb F)) kvs us d r (λk hk=>by
   obtain⟨x,hx,rfl⟩:=List.mem_map.mp hk
   exact n x hx) (by lia) ?_)
  have R:us.length=items.length:=by lia
  have S:(us.toArray.zip items.toArray).size=f.length:=by simp;lia
  have hr:=kas_range (us.toArray.zip items.toArray)
  rw[S]at hr
  have T:SortSt.mk' (Ng b) (us.toArray.zip items.toArray) #[] 7 yA=kas_st (Ng b) (us.toArray.zip items.toArray) (BU f.length).toArray:=by
   unfold kas_st;rw[hr]
  refine Al ?_
  rw[T]
  have W:WO (λi j=>Dc F (f.getD i .non) (f.getD j .non)) f.length:=by
   have mem:∀i,i<f.length->f.getD i .non∈f:=λi g=>by
    have m:f.getD i .non=f[i]:=by simp[Gg,g]
    rw[m];exact IL g
   exact⟨λa b y n zB=>h.asym _ (mem a y) _ (mem b n) zB,λa b c y n Y zB=>h.neg _ (mem a y) _ (mem b n) _ (mem c Y) zB⟩
  have Y:∀i j (C:Bool->Ab->Prop),i<f.length->j<f.length->C (Dc F (f.getD i .non) (f.getD j .non)) s->kas_cmp prog w A (Ng b) (us.toArray.zip items.toArray) i j C s:=λi j C o t hq=>by
   unfold kas_cmp
   rw[kat_item R,kat_item R]
   have mem:∀i,i<f.length->f.getD i .non∈f:=λi g=>by
    have m:f.getD i .non=f[i]:=by simp[Gg,g]
    rw[m];exact IL g
   obtain⟨rr,z⟩:=h.cmp _ (mem i o) _ (mem j t)
   rw[bX z]at hq
   have B:∀i,i<f.length->∃v,Au X.K N H (Eb F (f.getD i .non)) v/\RelV v (us.getD i .none):=λi g=>by
    have m:f.getD i .non=f[i]:=by simp[Gg,g]
    obtain⟨v,ev,dv⟩:=d.get (i:=i) (d:=Eb F f[i]) (by simp[g])
    refine⟨v,by rw[m];exact dv,?_⟩
    have:=Pk r [i]
    cases this with
    |cons a _=>
     have e2:kvs.getD i .non=v:=by simp[Gg,ev]
     rw[<- e2]
     exact a
   obtain⟨v1,dv1,rv1⟩:=B i o
   obtain⟨v2,dv2,rv2⟩:=B j t
   exact pK I A hu b rr z (n _ (mem i o)) (n _ (mem j t)) dv1 dv2 rv1 rv2 hq
  refine kas_runs (Q:=λ_ st L=>wpAny (Ag prog w) A (ksk_tail a yC m M st) P E L) (G:=λp L=>L=s/\Bs f.length p/\HU (λi j=>Dc F (f.getD i .non) (f.getD j .non)) p f.length) (by lia) h.few (λp st L hp y hf hg=>?_) (pF W Y (by lia) λp a b=>⟨rfl,a,b⟩)
  obtain⟨rfl,hB,hS⟩:=hg
  have l:p.toList.Perm (BU f.length):=by
   have:=hB.toList
   simpa using this
  refine q p.toList st l ?_ (kat_snds R y) hf
  refine h.same ?_ ?_
  ·have e:(BU f.length).map (λj=>f.getD j .non)=f:=by
    apply HK
    intro i
    by_cases g:i<f.length
    ·simp[g]
    ·simp[g]
   have:=l.map λj=>f.getD j .non
   rw[e]at this
   exact this
  ·rw[List.pairwise_map]
   rw[List.pairwise_iff_getElem]
   intro i j g hj hij
   have hsz':=hB.size
   have:=hS i j (by lia) (by simp at hj;lia)
   unfold EJ Bi at this
   simp at g hj
   simpa[Array.getD,g,hj]using this
end
section
variable{s:Ab}{N:Fb}
abbrev Ex(a:U Aa)(n:Nat):AK:={cls:=.type "list",data:=.seq a.toArray n}
def Inv.rawset(I:Inv X pins σ H s)(d:H a=yA)(o:Off X pins a)(e:s.heap.get? a=Z (Ex c n))(g:f c.toArray=its'.toArray):∃h,(s.heap.update a (E8 f)).get? a=Z (Ex its' h)/\Inv X pins σ H {s with heap:=s.heap.update a (E8 f)}:=by
 have q:=PySem.IsL.update e f;rw[g]at q;exact⟨_,q,I.turned (t':=s.toks) (λb u i j=>(SY s.heap (E8 f)<|CT i).trans j) d o.nL (.inr o.s0) o.cl o.pn⟩
def Uc(a:U Aa)(n:Nat)(v:O Aa):(Ex a n).data≠.cell v:=nofun
def Off.more{b:Ac}(f:Off X pins a)(h:b≠a):Off X (pins++[(b,o)]) a:=⟨f.nL,f.s0,f.cl,λp c=>by
  rw[<- JZ]at c;rcases Dk.mp c with c|c
  ·exact f.pn p c
  ·erw[Ew]at c;subst c;exact h,f.nf⟩
def Inv.pinGet(I:Inv X pins σ H s)(h:(a,o)∈pins):s.heap.get? a=Z o/\H a=yA:=⟨(I.pin _<|Df _ h).1,(I.pin _<|Df _ h).2.1⟩
theorem pR(A:Ah){D c:Ac}{d n:Nat}{out:U Aa}{P:PySem.Fin->Ab->Prop}{st:SortSt}(I:Inv X (pins++[(D,Ex [] d)]++[(c,Ex us n)]) σ H s) (i:Off X pins D) (o:Off X pins c) (ne:D≠c) (g:us.length<=AB) (h:Array.map (λx=>x.2) (arrOf st)=out.toArray) (p:failedOf st=yA) (j:As vs out) (hz:vs.length<=AB) (q:∀k,Inv X pins σ (AM H D (.lst vs)) k->P (.done (.ret .none)) k):wpAny (Ag prog w) A (ksk_tail D yC d (.ref c) st) P E s:=by
 obtain⟨l,r⟩:=I.pinGet<|Df _ A8;obtain⟨t,hd⟩:=I.pinGet<|Gy _<|Df _ A8;have u:=I.unpinned;obtain⟨n2,G,m⟩:=u.rawset (f:=λ_=>#[]) (its':=[]) r (o.more ne) l rfl;unfold ksk_tail;refine Al<|Nh l rfl ?_ (by simpa using g) (by simp);refine Al<|wpAny_letGo ?_;obtain⟨b,_⟩:=m.pinGet (a:=D) (Df _ A8);refine Al<|seqEpoch_at b rfl ?_;have v:Inv X pins σ H _:=m.unpinned;have y:out.length<=AB:=by rw[<- j.length];exact hz
 obtain⟨n3,z,B⟩:=v.rawset (f:=λ_=>out.toArray) (its':=out) hd i b rfl;erw[EG,if_false,h];refine Al<|Nh b rfl ?_ (by simp) (by simp;lia);have C:(d != d)=yC:=by simp
 rw[p];erw[C,EG,if_false];exact AO<|q _<|B.catch hd i z j hz
variable{k:Nat}{fn:Ac}{fd:A2}{F:U Sl->O Rv}
def pS(m:Aw X.prog X.w X.K X.mg X.base A3 k fn fd ps (Bf X.K F))(i:Binds X.K fd ps [])(I:Inv X pins σ H s)(A:Ah)(B:AZ k A)(C:C2 X.prog X.w X.K X.mg X.base A X.stack s H)(n:∀a,N a->H a≠yA)(d:Au X.K N H x v)(G:RelV v u){r:Rv}(o:F [.val x]=Z r) (q:∀u' h c H',Inv X pins σ H' h->Ai H H'->Au X.K N H' (Eb F x) c->RelV c u'->Q u' h):wpAny (Ag X.prog X.w) A (call (.ref fn) [u]) Q E s:=by
 have f:Bf X.K F [v] H (λc H'=>Ai H H'/\Au X.K N H' (Eb F x) c) E0:=by
  refine⟨N,[.val x],r,n,?_,o,λc H' j p=>⟨j,?_⟩⟩
  ·exact⟨v,[],rfl,d,rfl⟩
  ·have e:Eb F x=CH r:=by unfold Eb;rw[o];rfl
   rw[e];cases r with|val y=>exact p|own ys t=>
    obtain⟨a,P,L,M,R,T⟩:=p;erw[CH,Au];exact⟨a,P,L,.of (λz=>n a z M) R,T.nw λb i=>.inl<|.inl i⟩
 have S:([u]:U Aa).length=ps.length:=by
  have:=m.len _ _ _ _ f;simpa using this
 refine wpAny_call<|codeAny_mono (m.run A X.stack s H ⟨[u],[]⟩ [u] [v] _ E0 B C (by simpa using i s [u] I.kIn (by simpa using S)) (.cons G .nil) f) λr h g=>?_;cases r with|error e=>exact Bo g|ok t=>
  cases t with
  |ret u'=>
   obtain⟨c,H',Y,l,j,hd⟩:=I.after g;exact q u' h c H' Y j hd l
  |next=>exact Bo g
  |brk=>exact Bo g
  |cont=>exact Bo g
theorem Ai.none{H H':Hp}(h:Ai H H'){a:Ac}(e:H' a=yA):H a=yA:=by
 cases q:H a with
 |none=>rfl
 |some o=>rw[h a o q]at e;cases e
theorem pT(Fo:Aw X.prog X.w X.K X.mg X.base A3 k fn fd ps (Bf X.K F))(hb:Binds X.K fd ps [])(A:Ah)(hr:AZ k A)(hu:A.units+40<AA)(hA:∀s H,C2 X.prog X.w X.K X.mg X.base X.A X.stack s H->C2 X.prog X.w X.K X.mg X.base A X.stack s H)   (I:Inv X (pins++[(g,Ex [] m)]++[(h,Ex [] e0)]) σ H s) (nh:∀a,N a->H a≠yA) {items:U Aa} {xs:U V}  (fD:Off X pins g) (L:Off X pins h) (ne:g≠h) (M:As xs items) (S:Ad X.K N H c xs) (ok:BJ F c)  (q:∀n H' vs,Inv X pins σ (AM H' g (.lst vs)) n->Ai H H'->H' g=yA->Ad X.K N H' (Gf (Dc F) c) vs->P (.done (.ret .none)) n):wpAny (Ag X.prog X.w) A (ksk_rest g (.ref fn) yC items.toArray m (.ref h)) P E s:=by
 have l1:=S.length;have l2:=M.length;have few:=ok.few;have hsl:=F9;unfold ksk_rest;refine Al<|II ?_;refine Al<|wpAny_forIn_array' _ (λAJ _ n=>∃(done:U Aa) (H':Hp) (i:U Aa) (d:U V) (t:Nat),items=done++AJ/\i.length=done.length/\Inv X (pins++[(g,Ex [] m)]++[(h,Ex i t)]) σ H' n/\Ai H H'/\As d i/\Ad X.K N H' ((c.take done.length).map<|Eb F) d) _ ?_ ?_ items.toArray PUnit.unit ?_
 ·rintro u AJ b s1 ⟨done,H1,i,d,t,o,hl,l,sm,Q,B⟩;have T:done.length<c.length:=by
   have:=congrArg List.length o;simp at this;lia
  have C:=Dl T;generalize c[done.length]=x at C;obtain⟨v,hv,dv⟩:=S.get C;have ru:RelV v u:=by
   have:=Pk M [done.length];cases this with
   |cons a _=>
    have m:xs.getD done.length .non=v:=by simp[Gg,hv]
    have t:items.getD done.length .none=u:=by rw[o];simp[Gg]
    rw[<- m,<- t];exact a
  obtain⟨r,hF⟩:=ok.tells x<|Ip C;refine Al<|LV ?_;refine pS Fo hb l A hr (hA _ _ l.env0) (λa W z=>nh a W<|sm.none z) (dv.same sm) ru hF λY s2 v' H2 I2 y dv2 rv2=>?_;obtain⟨G,hk⟩:=I2.pinGet<|Df _ A8;have I3:=I2.unpinned;obtain⟨n3,g3,I4⟩:=I3.rawset (f:=λx=>x.push Y) (its':=i++[Y]) hk (L.more ne) G (by simp);refine Al<|Nh G rfl ?_ (by simp;lia) (by simp;lia);refine AO ?_;refine⟨done++[u],H2,i++[Y],d++[v'],n3,by rw[o];simp,by simp[hl],I4.pin1 hk (L.more ne) g3<|Uc _ _,sm.trans y,Q.append<|.cons rv2 .nil,?_⟩;have e:(c.take (done++[u]).length).map (Eb F)=(c.take done.length).map (Eb F)++[Eb F x]:=by
   rw[GA,List.length_singleton,List.take_succ,C];simp
  rw[e];exact(B.same y).append<|Ad.cons dv2 Ad.nil
 ·rintro b s1 ⟨done,H1,i,d,t,o,hl,l,sm,Q,B⟩;rw[CF]at o;subst o;obtain⟨G,hk⟩:=l.pinGet (a:=h) (Df _ A8);obtain⟨gd',hd⟩:=l.pinGet (a:=g) (Gy _<|Df _ A8);refine Al<|listItems_at G rfl ?_;have ht:c.take items.length=c:=M0 (by lia);rw[ht]at B;refine pQ (N:=N) l A hu ok B Q (by lia) λp st hp hs W hf=>?_;have hpl:p.length=c.length:=by have:=hp.length_eq;simpa using this
  refine pR A l fD L ne (by lia) W hf (Pk M p) (by rw[Bd];lia) λn R=>?_;refine q n H1 _ R sm hd ?_;rw[<- hs];exact b0 (S.same sm) p λj hj=>by have:=hp.subset hj;simpa using this
 ·exact⟨[],H,[],[],e0,by simp,rfl,I,Ai.refl H,.nil,Ad.nil⟩
theorem pU(C:Aw X.prog X.w X.K X.mg X.base A3 k fn fd ps (Bf X.K F))(L:Binds X.K fd ps [])(A:Ah)(M:AZ k A)(R:A.units+40<AA)(Q:∀s H,C2 X.prog X.w X.K X.mg X.base X.A X.stack s H->C2 X.prog X.w X.K X.mg X.base A X.stack s H) (I:Inv X pins σ H s) (T:∀a,N a->H a≠yA)  {items:U Aa}  {xs:U V} {j:U D} (g:s.heap.get? c=Z (Ex items n0)) (t:H c=yA) (l:Off X pins c) (v:As xs items) (y:Ad X.K N H j xs) (ok:BJ F j)  (q:∀z H' vs,Inv X pins σ (AM H' c (.lst vs)) z->Ai H H'->H' c=yA->Ad X.K N H' (Gf (Dc F) j) vs->P (.done (.ret .none)) z):wpAny (Ag X.prog X.w) A (ksk_tree c (.ref fn) yC) P E s:=by
 have l1:=y.length;have l2:=v.length;have few:=ok.few;have S:=F9;unfold ksk_tree;refine Al<|listItems_at g rfl ?_;obtain⟨n1,B,Y⟩:=I.rawset (f:=λ_=>#[]) (its':=[]) t l g rfl;refine Al<|Nh g rfl ?_ (by simp;lia) (by simp);refine Al<|seqEpoch_at B rfl ?_;refine Al<|wpAny_newTuple ?_ (by simp;lia);generalize m:({heap:=s.heap.update c<|E8 λx=>#[],gens:=s.gens,drawn:=s.drawn,toks:=s.toks,os:=s.os}:Ab)=d at *;have n:d.heap.get? c=Z (Ex [] n1):=by rw[<- m];exact B
 have p:=Y.kept (t':=d.toks) (λb u e=>BG {cls:=.type "tuple",data:=.seq items.toArray} e);have g2:=BG {cls:=.type "tuple",data:=.seq items.toArray} n;generalize r:({heap:=d.heap.push {cls:=.type "tuple",data:=.seq items.toArray},gens:=d.gens,drawn:=d.drawn,toks:=d.toks,os:=d.os}:Ab)=h at *;have i:h.heap.get? c=Z (Ex [] n1):=by rw[<- r];exact g2
 refine Al<|wpAny_newList ?_ (by simp);have I3:=p.kept (t':=h.toks) (λb u e=>BG (Ex [] 0) e);have g3:=BG (Ex [] 0) i;have gk:=Cm h.heap (o:=Ex [] 0) rfl;have G:=p.off<|Bl h.heap.objs.size;have hK:H h.heap.objs.size=yA:=p.fresh;have ne:c≠h.heap.objs.size:=CD<|BC i;refine FU ?_;exact pT (N:=N) C L A M R Q ((I3.pin1 t l g3<|Uc _ _).pin1 hK (G.more ne) gk<|Uc _ _) T l G ne v y ok q
theorem pV(C:Aw X.prog X.w X.K X.mg X.base A3 k fn fd ps (Bf X.K F))(c:Binds X.K fd ps [])(t:AZ (k+2) X.A) (I:Inv X pins σ H s) (E:∀a,N a->H a≠yA) {xs:U V}  (G:BM X.K H a xs) (v:Ad X.K N H i xs) (ok:BJ F i) {Q:VK} (q:∀f vs H',Ai H H'->H f=yA->H' f=Z (.lst vs)->Ad X.K (λb=>N b\/b=f) H' (Gf (Dc F) i) vs->Q (.ref f) H'):wpAny (Ag X.prog X.w) X.A (call (.builtin "sorted") [.ref a] [("key",.ref fn)]) (EP X pins σ Q) X.xe s:=by
 have l1:=v.length
 have few:=ok.few
 have L:=F9
 obtain⟨d,x,⟨o,n,R,S,Y,hd⟩,hz⟩:=I.list G
 have l2:=x.length
 refine wpAny_call (codeAny_call_builtin plain_sorted entry_sorted ?_)
 have j:checkBuiltinCall "sorted" ⟨[.ref a],[("key",.ref fn)]⟩=AH ():=by rfl
 rw[j]
 refine AO ?_
 unfold PySem.Builtin.sorted
 have m:checkCount "sorted" 1 1 1=AH ():=rfl
 show wpAny _ _ (do checkCount "sorted" 1 1 1;let y <- collect (.ref a);let l <- newList y;let _ <- Fs [l] (call (.builtin "list.sort") [l] [("key",.ref fn)]);ret l) _ _ _
 rw[m]
 refine Al (AO ?_)
 refine Al (wpAny_collect_seq a (T:="list") (.inl rfl) R S hd (λh1 k1=>?_) (by simp;lia))
 have p:=I.kept (t':=s.toks) k1
 refine Al (wpAny_newList ?_ (by simp;lia))
 generalize hs1:({heap:=h1,gens:=s.gens,drawn:=s.drawn,toks:=s.toks,os:=s.os}:Ab)=h at *
 have I2:=p.kept (t':=h.toks) (λb u e=>BG (Ex d 0) e)
 have g:=Cm h.heap (o:=Ex d 0) rfl
 have fD:=p.off (Bl h.heap.objs.size)
 have r:H h.heap.objs.size=yA:=p.fresh
 refine Al (FU ?_)
 refine wpAny_call (codeAny_call_builtin PySem.F.slot_list_sort.plain PySem.F.entry_list_sort ?_)
 refine PySem.F.slot_list_sort.check _ _ _ _ _ _ _ _ ⟨_,g,rfl⟩ rfl ?_
 rw[ksk_t1]
 refine pU (N:=N) C c X.A.in1.in1 t.in1.in1 ?_ (λs H e=>e.in1.in1) I2 E g r fD x v ok λs' H' vs P sm B dv=>?_
 ·have:=t.un;show X.A.units+1+1+40<_;lia
 ·refine AO ?_
  refine⟨.ref _,_,P,rfl,q _ vs _ (λb u e=>?_) r D4 ?_⟩
  ·rw[ZA (λz=>by rw[z,r]at e;cases e)];exact sm b u e
  ·exact Ad.step (M:=λ_=>False) ⟨λb u e z=>by
    rw[ZA (λz=>by rw[z,B]at e;cases e)];exact e,λb c=>by
    rcases c with c|c
    ·exact .inl c
    ·subst c;exact .inr B⟩ _ _ dv
end
section
variable{M:Fb}{k:Nat}{fn:Ac}{fd:A2}{F:U Sl->O Rv}{e:Expr}{f:VE->O D}{x y:Ae}{p kpos:AQ}
def LW(F:U Sl->O Rv)(f:VE->O D):VE->O (U D):=λa=>match f a with
 |some (.lst b)=>LU F b
 |_=>yA
def b3(Y:Aw X.prog X.w X.K X.mg X.base A3 k fn fd ps (Bf X.K F))(hr:AZ (k+2) X.A)(hg:Gl X x)(hm:X.mg x=yA)(hv:Fq x=Z (.builtin "sorted"))(l:Gl X y)(m:X.mg y=Z (.ref fn))(hb:Binds X.K fd ps [])(n:JE X e (tP X.K M H0 f)) (hn:x≠"__name__":=by ext) (o:(x==("__debug__":Ae))=yC:=by ext) (d:(y==("__debug__":Ae))=yC:=by ext) (P:autoParam (AY [e] X.env=(yC,Ax e X.env)::AY [] X.env) ye):JE X (.Call (.Name x p) [e] [⟨Z "key",.Name y p2,kpos⟩] pos) (tF X.K M H0 (LW F f)):=⟨have n:=n.h;by
 intro b s g H Q I h;obtain⟨r,ys,R,i,q⟩:=h;refine My<|HA I hg hm hv ?_ hn o;unfold LW at i;split at i
 ·next L hf=>
  obtain⟨ok,rfl⟩:=pP i;have S:=(Ee n (Bm) P) pos b s g H (λj c=>∃v,j=[v]/\Ai H c/\AC X.K (Nf M r g) c (.lst L) v) I ⟨r,.lst L,R,hf,λv c t d1=>⟨v,rfl,t,d1⟩⟩;have z:=ml (nm:=Z "key") (kpos:=kpos) (X7 (v:=.ref fn) (pos:=p2) l m rfl d) (mk (X:=X));rw[P]at S ⊢;refine callWith_builtin_kwB rfl rfl ?_;unfold evalArgs;refine Al<|A1 S λus t B=>?_;obtain⟨j,c,I1,r1,v,rfl,sm,d1⟩:=B;refine Al<|AO ?_;refine FU ?_;refine Al<|A1 (z pos b t g c (λT W=>T=[.ref fn]/\W=c) I1 ⟨rfl,rfl⟩) λks s2 B=>?_;obtain⟨T,W,I2,r2,rfl,rfl⟩:=B;refine Al<|AO ?_;refine AO ?_;obtain⟨u,rfl,ru⟩:=Et r1;obtain⟨u2,rfl,C⟩:=Et r2;cases C;obtain⟨a,ws,rfl,sq,dl⟩:=d1;cases ru;have R1:=R.st sm;exact pV (N:=Nf M r g) Y hb hr I2 R1.nh sq dl ok λda j H' s' E G dv=>q da j H' (sm.trans s') (sm.none E) G dv
 ·cases i⟩
end
end L2
variable{kvs:L2.BE}
namespace L2
open PySem PySem.Spec PyProof.Rows
section
@[simp] theorem w6(xs:U D):ak (.lst xs)=Z xs:=rfl
end
open PySem.W
def pW:typeLookup (.type "list") ("keys":Ae)=AH yA:=am_miss_of_fast (by kernel_rfl)
theorem pX{prog:A4}{w:Aj}{A:Ah}{s:Ab}{f:Array Aa}{Q:O Aa->Ab->Prop}(p:PlainL s.heap a f)(k:A.handled=yA)
  (q:∀h' h,(∀b o,s.heap.get? b=Z o->h'.get? b=Z o)->Q yA {s with heap:=h',toks:=h}):wpAny (Ag prog w) A (getAttr? (.ref a) "keys") Q E s:=by
 obtain⟨o,n,e,i,hd,j⟩:=p
 obtain⟨c,u,v,l⟩:=o
 dsimp only at i hd j
 subst i hd j
 obtain⟨m,g,d,h,os⟩:=s
 have ty:∀t,(⟨m,g,d,t,os⟩:Ab).TypeIs (.ref a) "list":=λ_=>⟨_,e,rfl⟩
 have l1:=sub_AttributeError
 have x:=F.slot_list_getattribute.lookup
 have y:=F.slot_list_getattribute.bind (.ref a)
 have l4:=am_list_getattr_none
 unfold getAttr? getAttrBy? getAttrBy
 repeat(any_goals(first
  |assumption
  |exact ty _
  |((with_reducible show wpAny _ _ (call (Value.builtin "list.__getattribute__") _ _) _ _ _)
    refine BQ F.slot_list_getattribute (ty _) am_entry_list_getattribute (F.args_list_getattribute_2 _ _) (meets_getattribute_miss_list a f n l "keys" _ pW (by decide +kernel) (by decide +kernel)) ⟨e,k,λr z B new=>?_⟩)
  |wp_step))
 obtain⟨C,G,ex⟩:=new.there
 show wpAny _ _ (getattributeRaised _ _ _ _ _ _ _) _ _ _
 unfold getattributeRaised
 repeat(any_goals(first|assumption|wp_step))
 exact q r _ new.keeps
def b4:entryFor table "dict.update.loop"=Z Fd.«dict.update.loop»:=entryFor_of_tree (by kernel_rfl)
def Pl:plainId "dict.update.loop"=yB:=by decide +kernel
section
variable{s:Ab}{A:Ah}{k:KT}{v:V}{r:Aa}
theorem pY{Q:Unit->Ab->Prop}(L:A.units+1<AA)(I:Inv X pins σ H s)(e:H a=Z (DD tr))(d:∀t∈tr,Bw X.K H t.1 t.2.1)(B:GI k tr)(C:Bw X.K H k y)(G:RelV y u)(n:RelV v r)(T:tr.length<AB) (q:∀h' t',Inv X pins σ (AM H a (DD (D0 tr k y v))) {s with heap:=h',toks:=t' }->ED a s.heap h'->Q () {s with heap:=h',toks:=t' }):wpAny (Ag X.prog X.w) A.in1 (dictSet a u r) Q E s:=by
 have h:B8 X.K H a tr:=⟨.inl e,d⟩;have f:(D0 tr k y v).length<=AB:=by have:=TW tr k y v;lia
 cases k with
 | «at» b=>
  cases C;obtain⟨z,hd,nd,i,rel,j⟩:=KO I h B;have m:i.length<=AB:=by rw[<- Gw rel];exact z
  refine wpAny_dictSet_pairs (hsz:=m) (HR G) j λh' c g=>q _ _ ?_ g;have o:∃q,h'.get? a=Z q:=let⟨q,_,_,x,_⟩:=c;⟨q,x⟩;exact LM I (by rw[e];exact HD) g o<|TY f hd (LK nd) (rel.put n) c
 |tup l=>
  obtain⟨p,N,F⟩:=C;subst N;cases(show u=Cy p from G);obtain⟨z,hd,nd,i,rel,j⟩:=JR I h B;have m:i.length<=AB:=by rw[<- Gw rel];exact z
  refine wpAny_dictSet_heap (hsz:=m) (LL L) (JQ I F) j λh' c g=>q _ _ ?_ g;have o:∃q,h'.get? a=Z q:=let⟨q,_,_,x,_⟩:=c;⟨q,x⟩;exact LM I (by rw[e];exact HD) g o<|TZ f hd (LK nd) (rel.put n) c
end
def b6{K:Av}(h:Bw K H k v)(s:Ai H H'):Bw K H' k v:=by
 cases k with
 | «at» a=>exact h
 |tup l=>obtain⟨p,e,b⟩:=h;exact⟨p,e,b.same s⟩
def Gh:BE->U D->O BE
 |a,[]=>Z a
 |a,.tup [y,d]::r=>match Ds y with
  |some k=>if Dn k a&&decide (a.length<AB)then Gh (Cr a k d) r else yA
  |none=>yA
 |_,_=>yA
def pZ{a:Array Aa}{Q:U Aa->Ab->Prop}(h:IsTup s.heap p a)(q:Q a.toList s):wpAny M A (Builtin.Dict.pairItems (.ref p)) Q E s:=by
 obtain⟨o,e,b,n,hd⟩:=h;unfold Builtin.Dict.pairItems;refine Al<|Ks ⟨o,e,b⟩ ?_;rw[if_pos (by ext)];unfold seqItems?;refine Al<|Al<|wpAny_load e ?_;rw[hd];exact AO<|AO q
section
variable{A:Ah}{it l:Ac}{N:Fb}
theorem b7(hu:A.units+1<AA)(hA:A.in1.handled=yA)(hH:H a=yA)(g:F8 X pins H it)(h:it≠a)(x:l≠it)(z:l≠a):∀(F:U D)(vs:U V)(ws:U Aa)(i:Nat)(s:Ab)(kvs:BE)(j:U T3)(c:BE),us.drop i=ws->As vs ws->Ad X.K N H F vs->PD X.K N H kvs j->Inv X pins σ (AM H a (DD j)) s->s.heap.IsListIter it l i->s.heap.IsList l us.toArray->Gh kvs F=Z c->(∀s' B,Inv X pins σ (AM H a (DD B)) s'->PD X.K N H c B->R (.ok (.ret .none)) s')->codeAny (Ag X.prog X.w) A (.builtin "dict.update.loop" ⟨[.ref a,.ref it,Be (i:Int),.none],[]⟩) R s
 |[],vs,ws,i,s,kvs,j,c,hd,Q,L,n,I,m,M,f,q=>by
  cases L
  cases Q
  cases f
  refine Ky b4 ?_
  rw[Kz Pl _]
  have T:us.toArray[i]?=yA:=by
   have:=List.drop_eq_nil_iff.mp hd
   simp[this]
  refine Al (wpAny_pyNext_list_end hA m M T λh' ke=>?_)
  have P:=I.turned (t':=s.toks) (λb o S e=>ke b o S e) (by rw[ZA h];exact g.1) g.2.1 g.2.2.2.1 g.2.2.2.2.1 g.2.2.2.2.2
  exact Al (AO (AO (q _ j P n)))
 |d::F,vs,ws,i,s,kvs,j,c,hd,Q,L,n,I,m,M,f,q=>by
  erw[Ad]at L
  obtain⟨v,Y,rfl,d1,dn'⟩:=L
  cases Q with
  |@cons _ u _ C rv hv'=>
  unfold Gh at f
  split at f
  ·cases ‹_::_=[]›
  ·next y dd r e1=>
   cases e1
   cases hk:Ds y with
   |none=>rw[hk]at f;cases f
   |some k=>
    rw[hk]at f
    dsimp only at f
    split at f
    ·next hc=>
     rw[Dp,decide_eq_true_eq]at hc
     have ey:=JU hk
     subst ey
     erw[Au]at d1
     obtain⟨p,vs2,rfl,sq,dl⟩:=d1
     erw[Ad]at dl
     obtain⟨kv,r2,rfl,dk,vv,r3,rfl,dv,rfl⟩:=dl
     cases rv
     have hat:us.toArray[i]?=Z (.ref p):=by
      have h0:(us.drop i)[0]?=Z (Cy p):=by rw[hd];rfl
      rw[MC]at h0
      simpa using h0
     have hd':us.drop (i+1)=C:=by
      rw[<- List.tail_drop,hd];rfl
     refine Ky b4 ?_
     rw[Kz Pl _]
     show wpAny _ A.in1 (BI (.ref it) >>= _) _ _ s
     refine Al (wpAny_pyNext_list_item m M hat λh' E sb=>?_)
     have P:=I.turned (t':=s.toks) (λb o S e=>(sb.2 b S).trans e) (by rw[ZA h];exact g.1) g.2.1 g.2.2.2.1 g.2.2.2.2.1 g.2.2.2.2.2
     have sm:Ai H (AM H a (DD j)):=Eh hH
     obtain⟨its,rv2,ht,_⟩:=P.tuple (sq.same sm)
     obtain⟨u1,u2,rfl,r1,r2⟩:=Ow rv2
     have hl':h'.IsList l us.toArray:=M.at λo e=>(sb.2 l x).trans e
     refine Al (FU ?_)
     refine Al (wpAny_tryCatch (pZ ht ?_))
     dsimp only
     refine FU ?_
     refine pY hu P D4 (λt ht=>b6 (n.keys t ht) sm) (n.hom hc.1) (b6 (JV dk) sm) r1 r2 (by have:=Gw n;lia) λh2 t2 I2 G=>?_
     rw[kh]at I2
     refine AO ⟨Lo Pl _,?_⟩
     have e2:Be ((i:Int)+1)=Be ((i+1:Nat):Int):=by simp
     rw[e2]
     refine b7 hu hA hH g h x z F Y C (i+1) _ (Cr _ k dd) (D0 j k kv vv) c hd' hv' dn' (n.put dk dv) I2 ?_ ?_ f q
     ·obtain⟨o,e,hh⟩:=E
      exact⟨o,(G.2 it h).trans e,hh⟩
     ·exact hl'.at λo e=>(G.2 l z).trans e
    ·cases f
  ·cases f
theorem p0(M:X.calm=yB)(hu:X.A.units+64<AA){Q:VK}(I:Inv X pins σ H s)(C:BM X.K H l vs)(P:Ad X.K N H m vs)(Y:Gh [] m=Z kvs) (q:∀v p,H p=yA->PD X.K N H kvs v->Q (.ref p) (AM H p (DD v))):wpAny (Ag X.prog X.w) X.A (call (.type "dict") [.ref l]) (EP X pins σ Q) E s:=by
 obtain⟨us,rv,y,hz⟩:=I.list C;have g:l<s.heap.objs.size:=by obtain⟨o,n,e,_⟩:=y;exact BC e
 have B:X.A.handled=yA:=I.ok.hd M;refine callType_codes (Q₁:=λx G=>x=.ref s.heap.objs.size/\G={s with heap:=s.heap.push {cls:=.type "dict",data:=.dict #[]} }) F.kt_called_dict (F.kt_typeCall_dict_1 (.ref l)) F.entry_dict_init (kt_code_dict_new (.ref l) ⟨rfl,rfl⟩) ?_;rintro x G ⟨rfl,rfl⟩;have h:H s.heap.objs.size=yA:=I.hok.fresh<|Bl _;have I1:Inv X pins σ (AM H s.heap.objs.size<|DD []) {s with heap:=s.heap.push {cls:=.type "dict",data:=.dict #[]} }:=
  I.laid (a:=s.heap.objs.size) (o:=DD []) (t':=s.toks) (λ_ _ z=>BG _ z) (Bl _) ⟨E7 _,beq_eq_false_iff_ne.mpr<|CT<|CD I.big,List.nodup_nil,_,#[],0,Cm _ rfl,⟨rfl,rfl,rfl⟩,rfl,rfl,rfl⟩
 have c:PlainL (s.heap.push {cls:=.type "dict",data:=.dict #[]}) l us.toArray:=by
  obtain⟨o,n,e,i⟩:=y;exact⟨o,n,BG _ e,i⟩
 have j:Shared.TypeIs {s with heap:=s.heap.push {cls:=.type "dict",data:=.dict #[]} } (.ref s.heap.objs.size) "dict":=⟨_,Cm _ rfl,rfl⟩;refine⟨j,F.args_dict_init_2 _ _,?_⟩;unfold Fd.«dict.__init__» Builtin.Dict.selfAndRest;refine Al<|Al<|wpAny_notOrdered_dict j ?_;show wpAny _ _ (AH (s.heap.objs.size,[Cy l])) _ _ _
 refine AO ?_;show wpAny _ _ (Builtin.Dict.updateFrom "dict.__init__" s.heap.objs.size (.ref l) [] .none) _ _ _
 unfold Builtin.Dict.updateFrom;refine Al<|Ks (T:="list") (by obtain⟨o,n,e,i,_⟩:=c;exact⟨o,e,i⟩) ?_;rw[if_pos (by ext)];refine Al<|pX c B λf L r=>?_;rw[if_pos (show(yA:O Aa).isNone=yB from rfl)];have t:=I1.kept (h':=f) (t':=L) r;have k:PlainL f l us.toArray:=by
  obtain⟨o,n,e,i⟩:=c;exact⟨o,n,r _ _ e,i⟩
 refine Al<|II ?_;refine Al<|Oq k.isList ?_;have I3:=t.kept (h':=f.push {cls:=.type "list_iterator",data:=.fields #[.ref l,.int 0 0]}) (t':=L) λb o e=>BG _ e;have d:s.heap.objs.size<f.objs.size:=BC<|r _ _<|Cm _ rfl;have fp:F8 X pins H f.objs.size:=t.fpOk (Bl _) (by
  have:=t.hok.fresh (a:=f.objs.size) (Bl _);rw[ZA<|Im d]at this;exact this)
 refine AO ⟨Lo Pl _,?_⟩;refine b7 (A:=X.A.in1) (N:=N) (us:=us) (by show X.A.units+1+1<AA;lia) B h fp (Im d) (CD<|Ju g d) (CD g) m vs us 0 _ [] [] kvs rfl rv P .nil I3 ⟨_,Cm _ rfl,rfl,rfl⟩ ?_ Y λs' u I' pd=>?_
 ·exact k.isList.push _
 ·exact⟨rfl,.ref s.heap.objs.size,_,I',rfl,q u _ h pd⟩
end
def p5:Fq "dict"=Z (.type "dict"):=by kernel_rfl
def HV(f:VE->O D):VE->O (U D):=λa=>match f a with
 |some (.lst b)=>(Gh [] b).map Zo
 |_=>yA
section
variable{M:Fb}{e:Expr}{f:VE->O D}{p:AQ}
def Pm(y:X.calm=yB)(z:X.A.units+64<AA)(B:Gl X "dict")(C:X.mg "dict"=yA)(m:JE X e (tP X.K M H0 f))(t:autoParam (AY [e] X.env=(yC,Ax e X.env)::AY [] X.env) ye):JE X (.Call (.Name "dict" p) [e] [] pos) (Lp .d X.K M H0 (HV f)):=⟨have m:=m.h;by
 intro g s i H Q I h;obtain⟨j,ys,R,c,q⟩:=h;unfold HV at c;split at c
 ·next k E=>
  cases n:Gh [] k with|none=>rw[n]at c;cases c|some o=>
   rw[n]at c;cases c;have G:=(Ee m (Bm (X:=X)) t) pos g s i H (λr l=>∃v,r=[v]/\Ai H l/\AC X.K (Nf M j i) l (.lst k) v) I ⟨j,.lst k,R,E,λv l w d1=>⟨v,rfl,w,d1⟩⟩;refine Call_<|HA I B C p5<|Mu (A1 G λus w F=>?_) (by rw[t]) rfl;obtain⟨r,l,L,N,v,rfl,sm,d1⟩:=F;obtain⟨u,rfl,P⟩:=Et N;obtain⟨a,ws,rfl,T,dl⟩:=d1;cases P;refine p0 y z L T dl n λS b Y x=>?_;have:=Lx (K:=X.K) (M:=M) (ρ:=j) (σ:=i) (fl:=.d) (Q:=Q) (xs:=Zo o) (vs:=DZ S) (p:=b) sm Y x.flat q;rw[LP x]at this;exact this
 ·cases c⟩
def p6{K:Av}(i:Nat){x:Ae}{a:AQ}(b:NV X i x:=by exact CG):JS X (.Return (Z (.Name x a)) pos) (tS K M H0 λρ=>IC (GD ρ i)):=⟨nV b⟩
end
section
variable{K:Av}{M:Fb}
def Ni{st:Ar}:JS X st (tS K M H0 λ_=>.fail):=⟨λa s b H D I ⟨c,R,q⟩=>Bo q⟩
end
structure p7(B:Am)(l:List Env)(e:Ac)(C fl:Aa)(h:Am):Prop where
 stay:B.StaysIn h
 new:B.get? e=yA
 fun_:h.FunFrames B l
 rcd:∃oe vs,h.get? e=Z oe/\oe.cls=C/\oe.data=.fields vs/\vs[2]?=Z .none/\(vs[1]?=Z .none\/∃T oT ts,vs[1]?=Z (.ref T)/\B.get? T=yA/\T≠e/\h.get? T=Z oT/\oT.data=.fields ts/\ts[3]?=Z fl)
section
variable{s:Ab}{B:Am}{l:U Env}{e:Ac}{C:Aa}
def p8(P:A4)(w:Aj)(l:U Env)(H H':Hp)(s:Am)(e C:Ac)(h:Am):Prop:=
 Ai H H'/\Un (EC l) [] H H' s h/\∃B,Cz P w H' B/\(∀b o,s.get? b=Z o->H b=yA->b∉EC l->B.get? b=Z o)/\p7 B l e (.ref C) .none h
def p9(Y:Cx)(b:U (Ac×AK))(σ:St)(H:Hp)(C:Ac)(e:Aa)(c:Ab):Prop:=
 ∃a d g f,e=.ref a/\Inv Y b σ d f/\Ai H d/\c.os=f.os/\AllBare c.gens/\p8 Y.prog Y.w Y.stack d g f.heap a C c.heap
end
def qa(Y:Cx)(a:U (Ac×AK))(σ:St)(H:Hp)(c:Ae)(e:Aa)(b:Ab):Prop:=∃D,nsIn Y.K De c=Z (Z (.ref D))/\p9 Y a σ H D e b
structure XS(Y:Cx)(K:Av)(M:Fb)(H0:Hp)(st:Ar)(h:VE->Option Ae):Prop where
 h:∀pins s σ H ρ c,Inv Y pins σ H s->A6 K M H0 ρ σ H->h ρ=Z c->wpAny (Ag Y.prog Y.w) Y.A (exec st Y.env) (λ_ _=>False) (λe s'=>∃σ' H1,Ai H0 H1/\qa Y pins σ' H1 c e s') s
end L2
namespace L2
open PySem PySem.Spec PyProof.Rows
section
variable{K:Av}{M:Fb}
@[simp] def Nj(i:Nat)(ρ:VE):An:=match DC ρ i with
  |some _=>.next (ρ.set i (.own []))
  |_=>.fail
def qb{i:Nat}{x:Ae}{b:AQ}(k:NV X i x:=by exact CG) (l:DB (.Call (.Attribute (.Name x b) "clear" apos) [] [] cpos) yA pos.line X.env=AH yC:=by rfl) (c:Fw (.Name x b) "clear" X.env (Ax (.Name x b) X.env)=Ax (.Name x b) X.env:=by rfl) (d:(apos.endLine==cpos.line)=yB:=by rfl):JS X (.Expr (.Call (.Attribute (.Name x b) "clear" apos) [] [] cpos) pos) (tS K M H0 λρ=>Nj i ρ):=⟨(Ik (OB Jz Ud Ue OC (Eg k) c d) l).mono λo p H m=>by
   obtain⟨ρ,R,q⟩:=m;cases e:DC ρ i with|none=>erw[e,Nj]at q;exact Bo q|some r=>
    erw[e,Nj]at q;have f:=MM e;obtain⟨a,g,n,s,t,h,u⟩:=R.slot i _ f;have j:=Az n;obtain⟨R2,S2⟩:=R.chg (ys:=[]) (ws:=[]) f j (by erw[Ad]);exact⟨.ref a,j,.inl ⟨rfl,g,.inl<|.inl h⟩,a,g,rfl,rfl,h,q _ _ R2 S2⟩⟩
end
noncomputable def b8(i j:Int):Prop:=0<j/\j<2^100
instance (i j:Int):Decidable (b8 i j):=by unfold b8;exact inferInstance
open PySem.W
def DE(h:Am)(d:Ac)(es:Array Ih)(ep:Nat):Prop:=∃o,h.get? d=Z o/\o.ExactDict/\o.data=.dict es ep
section
variable{prog:A4}{w:Aj}{A:Ah}{s:Ab}{d it:Ac}{es:Array Ih}{ep i:Nat}
def DE.type(x:DE s.heap d es ep):s.TypeIs (.ref d) "dict":=by
 obtain⟨o,a,b,_⟩:=x;exact⟨o,a,b.1⟩
def DE.at{h:Am}(x:DE h d es ep)(k:∀o,h.get? d=Z o->h'.get? d=Z o):DE h' d es ep:=by
 obtain⟨o,a,b⟩:=x;exact⟨o,k o a,b⟩
theorem b9(hd:(d==FS)=yC)(a:DE s.heap d es ep) (e:Q (.ref s.heap.objs.size) {s with heap:=s.heap.push {cls:=.type "dict_keyiterator",data:=.fields #[.ref d,.int 0 0,.int es.size 0,.int ep 0]} }):wpAny (Ag prog w) A (pyIter (.ref d)) Q E s:=by
 have ty:=a.type;obtain⟨o,b,f,c⟩:=a;refine wpAny_pyIter_slot ty PySem.F.slot_dict_iter<|G1 PySem.F.slot_dict_iter ty PySem.F.entry_dict_iter ?_<|PySem.F.args_dict_iter_1 _;unfold Fd.«dict.__iter__» Builtin.Dict.dictSlotNone;refine Al<|Al<|wpAny_notOrdered_dict ty ?_;refine(AO ?_:wpAny _ _ (AH<|Cy d) _ _ s);show wpAny _ _ (Builtin.Dict.showsAll d >>= _) _ _ s
 unfold Builtin.Dict.showsAll;rw[if_neg (by rw[hd];exact Hz)];refine Al<|AO<|Al<|Pc b c<|Al<|wpAny_dictEpoch b c ?_;refine Al<|HF<|AO ⟨_,rfl,"dict_keyiterator",_,⟨_,Cm _ rfl,rfl⟩,PySem.F.slot_dict_keyiterator_next.lookup,?_⟩;simpa[Be]using e
theorem ca{Q:O Aa->Ab->Prop}(c:s.heap.IsKeyIter it d i es.size ep)(j:DE s.heap d es ep)(k:i<es.size) (l:∀h',h'.IsKeyIter it d (i+1) es.size ep->ED it s.heap h'->Q (Z es[i].key) {s with heap:=h' }):wpAny (Ag prog w) A (BI (.ref it)) Q E s:=by
 have ty:=c.typeIs;obtain⟨p,b,m,a⟩:=c;obtain⟨o,e,n,f⟩:=j;unfold BI;refine Al<|LV<|HE ty Uf<|G1 Uf ty qc ?_<|qd _;refine Al<|AO<|Al<|Al ?_;first|refine Al (Ug ty<|AO ?_)|refine Al (Uh ty<|AO ?_)
 refine Al<|wpAny_fieldsOf b a ?_;erw[show Builtin.Dict_items.ownsTuple "dict_keyiterator"=yC by ext,EG,if_false];show wpAny _ _ (if(Cy d==FQ)=yB then _ else _) _ _ s
 rw[if_neg (show ¬ ((Cy d==FQ)=yB)from λz=>Hz z)];refine Al<|AO<|Al<|Pc e f ?_;rw[if_neg (by simp)];refine Al<|AO<|Al<|wpAny_dictEpoch e f ?_;rw[if_neg (by simp)];refine AO ?_;erw[show ¬ ((i:Int)<0)from by lia,if_false,Gi,bS k];refine Al ?_;first|refine Al (Ug ty<|AO ?_)|refine Al (Uh ty<|AO ?_)
 refine Al<|wpAny_isOneOf_keyiter ty ?_;show wpAny _ _ (setField (.ref it) 1 (Be<|(i:Int)+1) >>= _) _ _ s
 refine Al<|wpAny_setField b a (by simp) ?_;have h:(s.heap.update it<|Obj.mapFields (·.setIfInBounds 1 (Be<|(i:Int)+1))).IsKeyIter it d (i+1) es.size ep:=⟨_,SX _ b<|Obj.isFreed_of_fields<|Ui a _,(Obj.cls_mapFields ..).trans m,by rw[Ui a];simp[Be]⟩;refine Al<|FU<|Al<|wpAny_isOneOf_keyiter (s:={s with heap:=s.heap.update it (Obj.mapFields (·.setIfInBounds 1 (Be ((i:Int)+1))))}) h.typeIs ?_;exact AO<|AO ⟨_,rfl,AO<|l _ h<|LN ..⟩
def cc{Q:O Aa->Ab->Prop}(k:A.handled=yA)(c:s.heap.IsKeyIter it d i es.size ep)(l:DE s.heap d es ep)(n:es.size<=i) (q:∀h',Heap.ExtBut it s.heap h'->Q yA {s with heap:=h' }):wpAny (Ag prog w) A (BI (.ref it)) Q E s:=by
 have ty:=c.typeIs;obtain⟨p,e,r,f⟩:=c;obtain⟨o,g,t,h⟩:=l;unfold BI;refine Al<|LV<|HE ty Uf<|G1 Uf ty qc ?_<|qd _;refine Al<|AO<|Al<|Al ?_;first|refine Al (Ug ty<|AO ?_)|refine Al (Uh ty<|AO ?_)
 refine Al<|wpAny_fieldsOf e f ?_;erw[show Builtin.Dict_items.ownsTuple "dict_keyiterator"=yC by ext,EG,if_false];show wpAny _ _ (if(Cy d==FQ)=yB then _ else _) _ _ s
 rw[if_neg (show ¬ ((Cy d==FQ)=yB)from λz=>Hz z)];refine Al<|AO<|Al<|Pc g h ?_;rw[if_neg (by simp)];refine Al<|AO<|Al<|wpAny_dictEpoch g h ?_;rw[if_neg (by simp)];refine AO ?_;erw[show ¬ ((i:Int)<0)from by lia,if_false,Gi,Array.getElem?_eq_none n];refine Al ?_;first|refine Al (Ug ty<|AO ?_)|refine Al (Uh ty<|AO ?_)
 show wpAny _ _ (setField (.ref it) 0 .none >>= _) _ _ s
 refine Al<|wpAny_setField e f (by simp) ?_;show wpAny _ _ (newExc (.type "StopIteration") [] >>= _) _ _ _
 refine Al ?_;erw[newExc,newTuple];refine Al<|HF ?_ (by size_fits);refine Al (m:=firstArgMember _ _) (wpAny_of_eq (a:=FQ) (by first|rfl|(erw[firstArgMember];rfl)) ?_);refine HF ?_ (by size_fits);erw[raiseNew];refine Al<|wpAny_handled ?_;rw[show A.in1.handled=yA from k];refine Al<|AO<|wpAny_throw ?_;refine Al<|wpAny_isInstance (T:="StopIteration") (b:=yB) ⟨_,Cm _ rfl,rfl⟩ isSubtype_stop ?_;exact AO<|q _<|(Heap.ExtBut.push (Heap.SameBut.extBut<|LN ..) _).push _
def qe(n:A.handled=yA)(I:Ac)(f:d≠I):Walks prog w A I [I,d] [I] es.size (λi v=>∃e,es[i]?=Z e/\v=e.key) (λi h=>h.IsKeyIter I d i es.size ep/\DE h d es ep) where
 sub:=λb a=>by simp at a;simp[a]
 frame:=λ_ _ _ st k=>⟨st.1.at λo e=>k I (by simp) o e,st.2.at λo e=>k d (by simp) o e⟩;item:=λi s Q E l st c=>ca st.1 st.2 l λg p m=>c _ g s.toks ⟨es[i],bS l,rfl⟩ ⟨p,st.2.at λo e=>m.extBut _ _ f e⟩ λb o a e=>m.extBut b o (λh=>a (by simp[h])) e;done:=λs Q E st c=>cc n st.1 st.2 (Bl _) λg j=>c g s.toks λb o a e=>j b o (λh=>a (by simp[h])) e;self:=λ_ _ _ _ st c=>wpAny_pyIter_keyiter st.1 c
def ce(lo:(d==FS)=yC):KdlSrc prog w "dict" d d es.size (λi v=>∃e,es[i]?=Z e/\v=e.key) (λh=>DE h d es ep) where
 type:=λ_ a=>a.type;there:=λ_ a=>by obtain⟨o,b,_⟩:=a;exact⟨BC b,BC b⟩
 keep:=λ_ _ a f=>a.at λo e=>f d (.inl rfl) o e;notList:=by ext
 notTuple:=by ext
 hint:=λ_ _ _ _ a c=>kdl_hint_dict a.type c;iter:=λ_ s g a=>⟨_,_,(λ_ _ c=>b9 lo a c),qe g _ (by obtain⟨o,b,_⟩:=a;exact CD<|BC b),⟨⟨_,Cm _ rfl,rfl,rfl⟩,a.at λo e=>BG _ e⟩⟩
end
def Uj:∀{a:U T3}{es:U Ih},Ki w (a.map (·.1)) (DZ a) es->As (a.map λt=>t.2.1) (es.map λe=>e.key):=by
 intro a;induction a with
 |nil=>
  intro es h;obtain⟨_,rfl⟩:=h;exact .nil
 |cons t r c=>
  intro es h;obtain⟨kv,v,l,e,m,b,d,f,_,_,_,g⟩:=h;erw[DZ,Pa]at b;obtain⟨i,j,k⟩:=b;subst d i j k;exact .cons f<|c g
section
def cf{es:Array Ih}{acc:Array Aa}(h:ItemsOf (λi v=>∃e,es[i]?=Z e/\v=e.key) acc es.size):acc.toList=es.toList.map λe=>e.key:=by
 refine HK λi=>?_;rw[Tb,DL,Tb];cases a:acc[i]? with
 |some v=>
  obtain⟨e,b,c⟩:=h.2 i v a;rw[b,c];rfl
 |none=>
  have d:=Array.getElem?_eq_none_iff.mp a;have f:=Array.getElem?_eq_none_iff.mpr (by rw[<- h.1];exact d);rw[f];rfl
def cg(k:X.calm=yB):Es X (.type "list") (λxs H Q=>∃a b,xs=[.ref a]/\B8 X.K H a b/\∀l,H l=yA->Q (.ref l) (AM H l (.lst (b.map λt=>t.2.1)))):=by
 intro f s L H xs M Q I r h;obtain⟨a,b,rfl,hd,q⟩:=h;obtain⟨u,rfl,m⟩:=Et r;cases m;obtain⟨z,n,nd,o,e,g,p,v,x,y⟩:=hd.1.ok I.hok;have i:=Uj y;have A:b.length=e.size:=by have:=i.length;simpa using this
 have j:b.length<=AB:=by simpa using z
 refine kdl_call (ce n) (I.ok.hd k) ⟨o,p,v,x⟩ (by rw[<- A];exact j) λB C c E kp G F=>?_;have d:=cf F;refine⟨.ref s.heap.objs.size,_,I.laid (t':=C) kp (Bl _) (show Bc X.prog X.w _ B _ (.lst<|b.map λt=>t.2.1)from⟨by simpa using j,c.toList,E,by rw[d];exact i,by simpa using G⟩),rfl,q _<|I.hok.fresh<|Bl _⟩
end
def KW:U D->O (U D)
 |[.lst b .d]=>(DO b).map λa=>a.map λp=>kD p.1
 |_=>yA
@[simp] theorem cj(kvs:BE):KW [.lst (Zo kvs) .d]=Z (kvs.map λp=>kD p.1):=by simp[KW]
section
variable{K:Av}{N:Fb}
theorem PD.kden:∀{kvs:BE}{a:U T3},PD K N H kvs a->Ad K N H (kvs.map λp=>kD p.1) (a.map λt=>t.2.1)
 |_,_,.nil=>Ad.nil
 |_,_,.cons ⟨c,b,d⟩ t=>Ad.cons b<|PD.kden t
def ck:OI K (λxs H Q=>∃a b,xs=[.ref a]/\B8 K H a b/\∀l,H l=yA->Q (.ref l) (AM H l (.lst (b.map λt=>t.2.1)))) KW:=by
 intro N H n o xs Q s h e q;unfold KW at e;split at e
 ·next f=>
  cases c:DO f with|none=>simp[c]at e|some g=>
   rw[c]at e;cases e;obtain⟨v,rfl,d⟩:=Paired.one' h;rw[Hm c]at d;obtain⟨p,u,i,r,hd⟩:=d;subst i;obtain⟨b,j,k⟩:=IT r hd;exact⟨p,b,rfl,j,λl m=>q _ l m k.kden⟩
 ·cases e
end
section
variable{prog:A4}{w:Aj}{A:Ah}{s:Ab}{r d:Ac}{n:Nat}{P:Nat->Aa->Prop}{OK:Am->Prop}
def qf{Q:U Aa->Ab->Prop}(K:KdlSrc prog w T r d n P OK)(u:A.handled=yA)(hok:OK s.heap)(v:n<=AB) (x:∀h' g acc,(∀b o,s.heap.get? b=Z o->h'.get? b=Z o)->ItemsOf P acc n->Q acc.toList {s with heap:=h',toks:=g}):wpAny (Ag prog w) A (collect (.ref r)) Q E s:=by
 obtain⟨y,ld⟩:=K.there _ hok;unfold collect;refine Al<|wpAny_runValue<|Ky F.entry_proto_collect ?_;rw[Kz F.plain_proto_collect _];refine Al<|HF ?_;refine AO ⟨Lo F.plain_list_iadd _,Ky F.entry_list_iadd ?_⟩;rw[Kz F.plain_list_iadd _];show wpAny _ A.in1 (Builtin.List.listExtendWith (.ref s.heap.objs.size) (.ref r)<|.ref s.heap.objs.size) _ _ _
 have z:(s.heap.push {cls:=.type "list",data:=.seq ([]:U Aa).toArray}).get? s.heap.objs.size=Z {cls:=.type "list",data:=.seq #[] 0}:=Cm _ rfl;have i:∀j,(∃h' g acc m,j={s with heap:=h',toks:=g}/\(∀b o,s.heap.get? b=Z o->h'.get? b=Z o)/\h'.get? s.heap.objs.size=Z {cls:=.type "list",dict:=yA,data:=.seq acc m,slots:=#[]}/\ItemsOf P acc n)->wpAny (Ag prog w) A (match Cy s.heap.objs.size with
   |Cy a=>do
    match(<- load a).data with
     |Data.seq B _=>AH B.toList
     |_=>unsupported "internal:collect"
   |_=>unsupported "internal:collect") Q E j:=by
  rintro j ⟨h',g,acc,m,rfl,p,k,q⟩;show wpAny _ A (load s.heap.objs.size >>= _) _ _ _
  refine Al<|wpAny_load k ?_;refine AO ?_;exact x h' g acc p q
 refine wpAny_mono (kdl_extend (R:=λr j=>r=.ok (.ret<|.ref s.heap.objs.size)/\∃h' g acc m,j={s with heap:=h',toks:=g}/\(∀b o,s.heap.get? b=Z o->h'.get? b=Z o)/\h'.get? s.heap.objs.size=Z {cls:=.type "list",dict:=yA,data:=.seq acc m,slots:=#[]}/\ItemsOf P acc n) (s:={s with heap:=s.heap.push {cls:=.type "list",data:=.seq ([]:U Aa).toArray} }) K u (K.keep _ _ hok λb _ o e=>BG _ e) s.heap.objs.size (Im y) (Im ld) _ 0 z (λh' g acc m p k q=>⟨rfl,h',g,acc,m,rfl,λb o e=>p b o (CD (BC e)) (BG _ e),k,q⟩) v) (λfin j h=>?_) (λe j h=>?_)
 ·cases fin with
  |done f=>
   obtain⟨e,h⟩:=h;cases e;exact i j h
  |again c=>
   refine⟨h.1,codeAny_mono h.2 λr t C=>?_⟩;obtain⟨rfl,h⟩:=C;exact i t h
 ·exact nomatch h.1
end
end L2
namespace L2
open PySem PySem.Spec PyProof.Rows
def us1{P:U Aa->Prop}(h:∀a,P [a])(us:U Aa)(b:us.length=1):P us:=by
 match us,b with
 |[a],_=>exact h a
def B7{P:U Aa->Prop}(h:∀a b,P [a,b])(us:U Aa)(c:us.length=2):P us:=by
 match us,c with
 |[a,b],_=>exact h a b
def cm{P:U Aa->Prop}(h:∀a b c,P [a,b,c])(us:U Aa)(d:us.length=3):P us:=by
 match us,d with
 |[a,b,c],_=>exact h a b c
structure DI(K:Av)(mg:Ae->Option Aa)(nm:Ae)(st:Ar)(ps:List Ae)(a:Ac)(fd:A2):Prop where
 m:mg nm=Z (.ref a)
 F:Ix K nm nm st a fd
 b:Binds K fd ps []
def di{K:Av}{mg:Ae->O Aa}{h:Am}{nm:Ae}{st:Ar}{g:U Ae}{j:Aa}{m e:O Ac}{i:Array (O Aa)}{kV d f b ct:Aa}(X:K.In h)(G:h.Ns De mg) (A:PySem.W.nsIn K De nm=Z (Z (.ref a))) (l:K.lookup a=Z ⟨j,m,.func (Jr nm nm (HG st) (DV st) (Zk st) .none kV d f e b ct),i⟩) (c:PySem.W.codeIn K b nm=yB) (k:Kq K (.ref a)=yB) (n:∀(kV d f:Aa) (e:O Ac) (b ct:Aa) (us:U Aa),us.length=g.length->bindArgs (Jr nm nm (HG st) (DV st) (Zk st) .none kV d f e b ct) ⟨us,[]⟩=AH (g.zip us):=by
   first|exact λ_ _ _ _ _ _=>us1 λ_=>rfl|exact λ_ _ _ _ _ _=>B7 λ_ _=>rfl|exact λ_ _ _ _ _ _=>cm λ_ _ _=>rfl):DI K mg nm st g a (Jr nm nm (HG st) (DV st) (Zk st) .none kV d f e b ct):=⟨PySem.W.mg_of X G A,YW l c k,.all<|n kV d f e b ct⟩
def qg{l:PySem.W.OpenLaw}{w:Aj}{K:Av}{mg:Ae->O Aa}{f:Ac}{fd:A2}{st:Ar}{n:Nat}{F:U Sl->O Rv}(d:mg "law"=Z (.ref f))(q:DI K mg "law" st ["_law_script"] a fd) (G:∀base:Am,Aw l.prog w K mg base A3 n a fd ["_law_script"] (Bf K F)) (h:∀ns:U Int,ns.length<=63->F [.val (.lst (ns.map D.int))]=Z (.val (.bl yB))) (e:∀(kV b g:Aa) (i:O Ac) (c ct v:Aa),bindArgs (Jr "law" "law" (HG st) (DV st) (Zk st) .none kV b g i c ct) ⟨[v],[]⟩=AH [(("_law_script":Ae),v)]):∃fd:A2,(∀(s:Ab) (v:Aa),BindsTo s fd ⟨[v],[]⟩ [("_law_script",v)])/\∀base:Am,K.In base->base.Ns De mg->Aw l.prog w K mg base A3 n f fd ["_law_script"] (MG K):=by
 cases d.symm.trans q.m;obtain⟨o,p,kV,b,g,i,c,ct,j,rfl,r,k⟩:=q.F.ex;exact⟨_,λs v=>.of_eq<|e _ _ _ _ _ _ _,λbase _ _=>ou (G base) h⟩
def Z0{N P:U Ae}{a:Scope}(b:a.kind=.function:=by rfl)(c:a.isCoroutine=yC:=by rfl)(d:a.isGenerator=yC:=by rfl)(e:N.Nodup:=by decide +kernel)(f:N.take P.length=P:=by rfl) (g:∀x∈P,a.names.lookup x=Z .local\/a.names.lookup x=Z .cell:=by decide +kernel) (h:∀y∈a.names,y.2≠.free:=by decide +kernel):Zw N P a:=⟨b,c,d,e,f,g,h⟩
def CN(own a:U Ae){b:Scope}(c:Scope)(d:b.kind=.function:=by rfl)(e:∀x∈b.names,x.2≠.cell:=by decide +kernel)(f:∀x∈b.names,x.2=.free->c.names.lookup x.1=Z .cell\/c.names.lookup x.1=Z .free:=by decide +kernel) (g:∀x∈b.names,x.2=.local->b.names.lookup x.1=Z .local:=by decide +kernel) (h:∀x∈a,b.names.lookup x=Z .free:=by decide +kernel) (i:(own++a).Nodup:=by decide +kernel):G4 own a b c:=⟨d,e,f,g,h,i⟩
def Cc(L:U Ae)(h:L.Nodup:=by decide +kernel):L.Nodup:=h
section
variable{K:Av}{M:Fb}{k n:Nat}{fn:Ac}{fd:A2}{x nm:Ae}{st:Ar}{F:U Sl->O Rv}{e a b:Expr}{p:AQ}{f g:VE->O D}
def Zq(G:Aw X.prog X.w X.K X.mg X.base A3 k fn fd ps (Bf K F))(a:AZ n X.A)(D:DI X.K X.mg x st ps fn fd)(c:JA X (e::es) (Dr K M H0 fa))(d:k<=n:=by ext)(f:Gl X x:=by rfl)(hz:CA X x e es pos:=by exact Ha):JE X (.Call (.Name x p) (e::es) [] pos) (tD K M H0 (Zp F fa)):=nR G (a.mono d) f D.m D.F.kp D.b Fa c hz
def Uk(G:Aw X.prog X.w X.K X.mg X.base A3 k fn fd ps (Bf K F))(a:AZ n X.A)(D:DI X.K X.mg x st ps fn fd)(c:JA X (e::es) (Dr K M H0 fa))(d:k<=n:=by ext)(f:Gl X x:=by rfl)(hz:CA X x e es pos:=by exact Ha):JE X (.Call (.Name x p) (e::es) [] pos) (tF K M H0 (HJ F fa)):=nS G (a.mono d) f D.m D.F.kp D.b Fa c hz
def CZ(i:Nat){y:Ae}{p vp:AQ}(a:X.mg "len"=yA)(b:NV X i y:=by exact CG)(c:Gl X "len":=by rfl)(hz:CA X "len" (.Name y vp) [] pos:=by exact Ha):JE X (.Call (.Name "len" p) [.Name y vp] [] pos) (tD X.K M H0 (Zv ZQ λρ=>Zb (Ap ρ i) (Z []))):=ZN Lk LG c a rfl<|Za (Zz i b) Ze
def Em(i:Nat){y t:Ae}{n:String}{p vp b:AQ}(c:X.mg "isinstance"=yA)(d:X.mg t=yA)(e:Fq t=Z (.type n):=by rfl)(f:t≠"__name__":=by ext)(hd:(t==("__debug__":Ae))=yC:=by ext)(g:NV X i y:=by exact CG)(h:Gl X "isinstance":=by rfl)(a:Gl X t:=by rfl)(hz:CA X "isinstance" (.Name y vp) [.Name t b] pos:=by exact Ha):JE X (.Call (.Name "isinstance" p) [.Name y vp,.Name t b] [] pos) (tD X.K M H0 (Zv Co λρ=>Zb (Ap ρ i) (Zb (Zh (Z (.ty n))) (Z [])))):=ZN O4 O5 h c rfl<|Za (Zz i g)<|Za (Zj<|O6 a d e f hd) Ze
def Zt {i j pos}:JE X (.Constant (.int i) j pos) (tP K M H0 λ_=>Z (.int i)):=Ao ZJ
def Zi(c:JE X a (tP X.K M H0 f))(d:JE X b (tP X.K M H0 g))(e:Kt b:=by exact λ_ _=>rfl):JE X (.Subscript a b pos) (tD X.K M H0 (Zd Aq f g)):=oD c d e
def Zr(i:Nat){x:Ae}(a:X.N.Nodup)(b:X.N[i]?=Z x:=by rfl)(c:autoParam (Loc X.env.scope x) yf)(d:autoParam (X.fn x=yB\/X.env.scope.names.lookup x=Z .local) ya):JG X (.Name x pos) (tG K M H0 [i] (Zn i)):=nY a b c d
def Z2(i:Nat){x:Ae}{a:AQ}(b:X.N.Nodup)(c:JE X e (tD K M H0 f))(d:X.N[i]?=Z x:=by rfl)(g:autoParam (Loc X.env.scope x) yf)(h:DB e (Z (.Name x a)) pos.line X.env=AH yC:=by rfl) (j:autoParam (X.fn x=yB\/X.env.scope.names.lookup x=Z .local) ya):JS X (.Assign [.Name x a] e pos) (tS K M H0 λρ=>Z8 i (f ρ) ρ):=nX b d g c h j
def ZO{P:A4}{w:Aj}{mg:Ae->O Aa}{base:Am}{N:U Ae}{g c:VE->An}(D:DI K mg nm st ps fn fd)(S:Zw N ps (Zk st)) (d:∀(a:Aa) (A:Ah) (outer:U Env) (s:Ab) (H:Hp) (E:XK) (M:Fb) (H0:Hp),AZ k (A.deeper (By nm (Zk st) s.heap.objs.size fn a))->JB (FY A3 P w K mg base N nm (Zk st) fn a A outer s H E).nox (DV st) (tS K M H0 c)) (e:c=g:=by rfl) (b:ps.length<=N.length:=by ext):Aw P w K mg base A3 (k+1) fn fd ps (Bf K (AR ps.length N.length g)):=aq D.F S b<|e ▸ d
end
open PySem.W
abbrev ME(X:Cx)(o:Expr)(m:Ae)(es:U Expr)(pl:Sem Bool)(apos pos:AQ):Prop:=Ax (.Call (.Attribute o m apos) es [] pos) X.env=(do
 let b <- Ax o X.env
 standAt apos.atName
 let(f,a) <- Fs [b] (getMethod b m pl)
 callWith pos f a (AL pos (AY es X.env)) (Ga pos (Gb [] X.env)))
def KY{K:Av}(h:nsIn K De c=Z (Z (.ref C))):OE K c=C:=by unfold OE;rw[h]
@[simp] def DF(c f:Ae):D->O D
  |.lst a (.i ns b)=>if b=c then(ns.zip a).lookup f else yA
  |_=>yA
section
variable{K:Av}{N:Fb}
theorem cq{f:Ae}{d:D}:∀{ns:U Ae}{xs:U D}{vs:U V},Ad K N H xs vs->(ns.zip xs).lookup f=Z d->∃v,(ns.zip vs).lookup f=Z v/\Au K N H d v
 |[],_,_,_,e=>by simp at e
 |_::_,[],_,_,e=>by simp at e
 |n::ns,x::xs,vs,h,e=>by
  erw[Ad]at h;obtain⟨v,r,rfl,q,t⟩:=h;erw[G6,HH]at e ⊢;cases a:f==n with
  |true=>rw[a]at e;cases e;exact⟨v,rfl,q⟩
  |false=>rw[a]at e;exact cq t e
theorem Pn{m:Ae}:∀{ns:U Ae}{vs:U V},ns.contains m=yC->(ns.zip vs).lookup m=yA
 |[],_,_=>by simp
 |_::_,[],_=>by simp
 |n::ns,v::vs,h=>by
  erw[List.contains_cons,Bool.or_eq_false_iff]at h;erw[G6,HH,h.1];exact Pn h.2
@[simp] def FH(c m:Ae):Sl->Bool
  |.val (.lst _ (.i ns a))=>decide (a=c)&&!ns.contains m
  |.lent _ (.i ns a)=>decide (a=c)&&!ns.contains m
  |_=>yC
def cr(h:FH c m s=yB)(b:Ci K N H s v):∃a f d,v=.ref a/\Rd H a (.ins (OE K c) f d)/\d.lookup m=yA:=by
 unfold FH at h;split at h
 ·erw[Dp,decide_eq_true_eq,Bool.not_eq_true']at h;obtain⟨rfl,h⟩:=h;erw[Ci,Au]at b;obtain⟨a,g,e,q,_⟩:=b;rcases q with⟨_,q⟩|⟨i,z,_⟩
  ·exact⟨a,_,_,e,q,Pn h⟩
  ·cases z
 ·erw[Dp,decide_eq_true_eq,Bool.not_eq_true']at h;obtain⟨rfl,h⟩:=h;obtain⟨a,g,e,_,q,_⟩:=b;exact⟨a,_,_,e,q,Pn h⟩
 ·cases h
def qh{r:Rv}(c:∀a,N a->H a≠yA)(h:D8 K N H H' r v):Au K N H' (CH r) v:=by
 cases r with|val d=>exact h|own l m=>
  obtain⟨a,f,e,g,i,j⟩:=h;erw[CH,Au];exact⟨a,f,e,.of (λn=>c a n g) i,j.nw λb k=>.inl<|.inl k⟩
end
@[simp] def EL(c m:Ae)(F:U Sl->O Rv)(o:O Sl)(a:O (U Sl)):O Rv:=o.bind λs=>if FH c m s=yB then a.bind λb=>F (s::b)else yA
section
variable{K:Av}{M:Fb}{e o:Expr}{f go:VE->O D}{F:U Sl->O Rv}{k:Nat}{fn:Ac}{fd:A2}{c m:Ae}{E:XK}
def FI{f:Ae}(j:nsIn X.K De c=Z (Z (.ref C)))(k:Fv X.K C)(l:BP X.K C f)(m:JE X o (tP X.K M H0 go))(n:Fw o f X.env (Ax o X.env)=Ax o X.env:=by rfl):JE X (.Attribute o f pos) (tD X.K M H0 λρ=>(go ρ).bind (DF c f)):=⟨(l0 m.h n).mono λB H Q p=>by
   obtain⟨ρ,d,R,e,q⟩:=p;obtain⟨d0,t,b⟩:=Option.bind_eq_some_iff.mp e;unfold DF at b;split at b
   ·split at b
    ·next g=>
     subst g;refine⟨ρ,_,R,t,λv w s x=>?_⟩;obtain⟨a,E,y,i,r⟩:=x;obtain⟨u,z,A⟩:=cq r b;erw[CO,KY j]at i;exact⟨a,C,_,_,u,y,i,k,l,z,q u w s A⟩
    ·cases b
   ·cases b⟩
def cu(j:nsIn K De c=Z (Z (.ref C))){r:Rv}{Q:VK}(R:A6 K M H0 ρ σ H)(e:EL c m F (fo ρ) (fa ρ)=Z r)(q:∀v b H',Ai H b->Ai b H'->D8 K (Nf M ρ σ) b H' r v->Q v H'):Jq C m (Bf K F) [] E (Hb K M H0 fo) (Dr K M H0 fa) σ H Q:=by
 obtain⟨s,k,e⟩:=Option.bind_eq_some_iff.mp e;split at e
 ·next l=>
  obtain⟨g,n,o⟩:=Option.bind_eq_some_iff.mp e;refine⟨ρ,s,R,k,λv b d h=>?_⟩;obtain⟨a,p,t,u,i,x⟩:=cr l h;rw[KY j]at i;refine⟨a,p,t,u,i,x,ρ,g,R.st d,n,λy z f A=>?_⟩;exact⟨Nf M ρ σ,s::g,r,((R.st d).st f).nh,⟨v,y++[],rfl,h.same f,by rw[CF];exact A⟩,o,λw B G I=>q w z B (d.trans f) G I⟩
 ·cases e
def qi{Q:U V->Hp->Prop}(h:Dr K M H0 (λ_=>Z []) σ H Q):Mx σ H Q:=by
 obtain⟨a,b,R,e,q⟩:=h;cases e;exact q [] H (Ai.refl H) rfl
def cw{Q:VK}(h:Jq C m sp [] E (Hb K M H0 fo) (Dr K M H0 λ_=>Z []) σ H Q):Jq C m sp [] E (Hb K M H0 fo) Mx σ H Q:=by
 obtain⟨b,d,R,e,q⟩:=h;refine⟨b,d,R,e,λv c s f=>?_⟩;obtain⟨a,g,i,j,k,l,t⟩:=q v c s f;exact⟨a,g,i,j,k,l,qi t⟩
def cx(b:nsIn K De c=Z (Z (.ref C))){Q:VK}(h:tD K M H0 (λρ=>(EL c m F (fo ρ) (fa ρ)).map CH) σ H Q):Jq C m (Bf K F) [] E (Hb K M H0 fo) (Dr K M H0 fa) σ H Q:=by
 obtain⟨ρ,d,R,e,q⟩:=h;obtain⟨r,f,rfl⟩:=Option.map_eq_some_iff.mp e;exact cu b R f λv j g a i h=>q v g (a.trans i)<|qh (R.st a).nh h
def cy(g:nsIn K De c=Z (Z (.ref C))){Q:VK}(h:tF K M H0 (λρ=>(EL c m F (fo ρ) (fa ρ)).bind Hc) σ H Q):Jq C m (Bf K F) [] E (Hb K M H0 fo) (Dr K M H0 fa) σ H Q:=by
 obtain⟨ρ,d,R,e,q⟩:=h;obtain⟨r,i,b⟩:=Option.bind_eq_some_iff.mp e;unfold Hc at b;split at b
 ·cases b;exact cu g R i λv t j f k ⟨a,l,n,o,p,s⟩=>by subst n;exact q a l j (f.trans k) (f.free o) p s
 ·cases b
section
variable(hC:nsIn X.K De c=Z (Z (.ref C)))(cl:Fv X.K C)(hm:Kp X.K C m fn)(G:Aw X.prog X.w X.K X.mg X.base CX k fn fd ps (Bf X.K F))(hr:AZ k X.A)(hb:Binds X.K fd ps [])(hx:FW CX X E)(ho:JE X o (Hb X.K M H0 fo))
include hC cl hm G hr hb hx ho
def cz(d:JA X (e::es) (Dr X.K M H0 fa)) (a:autoParam (AY (e::es) X.env=(yC,Ax e X.env)::AY es X.env) ye) (b:(AL pos (AY es X.env)).any (·.1)=yC:=by rfl) (f:ME X o m (e::es) pl apos pos:=by rfl):JE X (.Call (.Attribute o m apos) (e::es) [] pos) (tD X.K M H0 λρ=>(EL c m F (fo ρ) (fa ρ)).map CH):=⟨(SJ ho.h cl hm G hr hb .nil hx d.h a b f).mono λ_ _ _ h=>cx hC h⟩
def qk(d:JA X (e::es) (Dr X.K M H0 fa)) (a:autoParam (AY (e::es) X.env=(yC,Ax e X.env)::AY es X.env) ye) (b:(AL pos (AY es X.env)).any (·.1)=yC:=by rfl) (f:ME X o m (e::es) pl apos pos:=by rfl):JE X (.Call (.Attribute o m apos) (e::es) [] pos) (tF X.K M H0 λρ=>(EL c m F (fo ρ) (fa ρ)).bind Hc):=⟨(SJ ho.h cl hm G hr hb .nil hx d.h a b f).mono λ_ _ _ h=>cy hC h⟩
def Ul (a:ME X o m [] pl apos pos:=by rfl):JE X (.Call (.Attribute o m apos) [] [] pos) (tD X.K M H0 λρ=>(EL c m F (fo ρ) (Z [])).map CH):=⟨(Ox ho.h cl hm G hr hb .nil hx a).mono λ_ _ _ h=>cw<|cx hC h⟩
def ql (a:ME X o m [] pl apos pos:=by rfl):JE X (.Call (.Attribute o m apos) [] [] pos) (tF X.K M H0 λρ=>(EL c m F (fo ρ) (Z [])).bind Hc):=⟨(Ox ho.h cl hm G hr hb .nil hx a).mono λ_ _ _ h=>cw<|cy hC h⟩
end
end
def LX(H:Hp)(x:Ac):Hp:=λb=>if b=x then yA else H b
def Po(h:b≠x):LX H x b=H b:=if_neg h
def cA:LX H x x=yA:=if_pos rfl
def qm:Ai (LX H x) H:=λb o e=>by
 by_cases h:b=x
 ·simp[h,cA]at e
 ·rwa[Po h]at e
structure cB(K:Av)(N:Fb)(a:Ac)(H H':Hp)(ys:List D)(b:Kd)(d:D)(v:V):Prop where
 sm:Ai (LX H a) H'
 at_:∃ws,H' a=Z (CO K b a ys ws)/\Ad K N H' ys ws
 de:Au K N H' d v
abbrev RB:=U D×Kd×D
def Ce(K:Av)(N:Fb)(a:Ac)(H:Hp):Sl->V->Prop
 |.val d,v=>Au K N H d v
 |.lent g b,v=>∃c f,v=.ref c/\(N c/\c≠a)/\Rd H c (CO K b c g f)/\Ad K N H g f
 |.deep h i,v=>∃c bs,v=.ref c/\(∀e,i=Z e->e=c)/\(N c/\c≠a)/\Rd H c (.lst (bs.map V.ref))/\(∀e∈bs,N e/\e≠a)/\Paired (λz e=>∃f,Rd H e (.lst f)/\Ad K N H z f) h bs
 |_,_=>False
def Fl(K:Av)(F:U Sl->Sl->U Sl->O RB):Sp:=λi H Q _=>∃N a e f us1 B7 d b g r,i=us1++.ref a::B7/\(∀c,N c->H c≠yA)/\N a/\H a=Z (CO K b a d g)/\Ad K N H d g/\Paired (Ce K N a H) e us1/\Paired (Ce K N a H) f B7 /\
 F e (.own d b (Z a)) f=Z r/\∀v h,cB K N a H h r.1 r.2.1 r.2.2 v->Q v h
section
variable{K:Av}{N:Fb}{s1 s2:U Sl}{us1 B7:U V}{b:Kd}{ws:U V}
theorem IY{a b:Type}{F:a->b->Prop}:∀{l:U a}{m:U b},Paired F l m->l.length=m.length
 |_,_,.nil=>rfl
 |_,_,.cons _ t=>by simp[IY t]
theorem Um{a b:Type}{F:a->b->Prop}{x:a}:∀{l:U a}{m:U b}{i:Nat},Paired F l m->l[i]?=Z x->∃y,m[i]?=Z y/\F x y
 |_,_,0,.cons h _,e=>by cases e;exact⟨_,rfl,h⟩
 |_,_,i+1,.cons _ t,e=>by simpa using Um t (by simpa using e)
theorem cC(g:Paired (Ce K N a H) s1 us1)(h:Paired (Ce K N a H) s2 B7)(e:(s1++.own xs b (Z a)::s2++Do n .no)[i]?=Z s):(s=.own xs b (Z a)/\i=s1.length/\((us1++V.ref a::B7).map Z++Do n yA)[i]?=Z (Z (.ref a)))\/s=.no\/∃v,Ce K N a H s v/\((us1++V.ref a::B7).map Z++Do n yA)[i]?=Z (Z v):=by
 have l1:=IY g;have k:=IY h;rw[JZ,KD]at e;rw[Fj,JZ,KD,Bd,<- l1];split at e
 ·next d=>
  obtain⟨v,f,q⟩:=Um g e;exact .inr<|.inr ⟨v,q,by rw[if_pos d,DL,f];rfl⟩
 ·next d=>
  rw[if_neg d];generalize l:i-s1.length=j at *;cases j with|zero=>cases e;exact .inl ⟨rfl,by lia,rfl⟩|succ j=>
   erw[EH,AN,AI]at e ⊢;rw[KD]at e;rw[KD,Bd,<- k];split at e
   ·next c=>
    obtain⟨v,f,q⟩:=Um h e;exact .inr<|.inr ⟨v,q,by rw[if_pos c,DL,f];rfl⟩
   ·next c=>
    rw[Kr]at e;split at e
    ·cases e;exact .inr<|.inl rfl
    ·cases e
def Ce.own{s:Sl}{v:V}(h:Ce K N a H s v){ys:U D}{b:Kd}{c:O Ac}:s≠.own ys b c:=λe=>by
 rw[e]at h;exact h
def qo(w:∀c,N c->H c≠yA)(y:N a)(A:H a=Z (CO K b a xs ws))(hd:Ad K N H xs ws)(m:Paired (Ce K N a H) s1 us1)(o:Paired (Ce K N a H) s2 B7)(n:Nat):A6 K (λc=>N c/\c≠a) (LX H a) (s1++.own xs b (Z a)::s2++Do n .no) ((us1++V.ref a::B7).map Z++Do n yA) H:=by
 have p:∀{i:Nat} {l:U D} {t:Kd} {x:O Ac},(s1++.own xs b (Z a)::s2++Do n .no)[i]?=Z (.own l t x)->i=s1.length/\((us1++V.ref a::B7).map Z++Do n yA)[i]?=Z (Z<|.ref a):=λe=>by
  rcases cC m o e with z|z|⟨v,z,_⟩
  ·exact z.2
  ·cases z
  ·exact absurd rfl z.own
 have nf:∀c,Nf (λc=>N c/\c≠a) (s1++.own xs b (Z a)::s2++Do n .no) ((us1++V.ref a::B7).map Z++Do n yA) c->N c:=by
  rintro c (h|⟨i,l,t,x,g,f⟩)
  ·exact h.1
  ·rw[(p g).2]at f;cases f;exact y
 refine⟨by simp[(IY m),(IY o)],qm,λc h=>w c h.1,λi s e=>?_,λi j l B Q T R Y c g f _ _=>(p g).1.trans (p f).1.symm⟩;rcases cC m o e with⟨rfl,_,z⟩|rfl|⟨v,q,z⟩
 ·rw[z];exact⟨a,ws,rfl,⟨cA,λc e=>by cases e;rfl⟩,λh=>h.2 rfl,A,hd.nw λc k=>.inl<|nf c k⟩
 ·trivial
 ·rw[z];cases s with
  |val d=>exact⟨v,rfl,Au.nw q λc k=>.inl<|nf c k⟩
  |lent l t=>obtain⟨c,C,u,n1,r,dl⟩:=q;exact⟨c,C,by rw[u];rfl,⟨n1,by rw[Po n1.2];exact w c n1.1⟩,r,dl.nw λc k=>.inl<|nf c k⟩
  |deep B oa=>obtain⟨c,bs,u,E,g,f,G,I⟩:=q;exact⟨c,bs,by rw[u];rfl,E,g,f,G,Paired.mapP I λ_ _ ⟨F,L,M⟩=>⟨F,L,M.nw λa P=>.inl<|nf a P⟩⟩
  |_=>exact Bo q
end
def EZ(j:Nat)(d:D)(ρ:VE):O (Ac×RB):=match ρ[j]? with
 |some (.own c b (Z a))=>Z (a,c,b,d)
 |_=>yA
@[simp] def En(r:An)(g:VE->O (Ac×RB)):O (Ac×RB):=match r with
  |.next a=>g a
  |_=>yA
def HW(K:Av)(M:Fb)(H0:Hp)(g:VE->O (Ac×RB)):TS:=λD f H=>∃d r,A6 K M H0 d f H/\g d=Z r/\∀a,Ai H0 a->(∃e,a r.1=Z (CO K r.2.2.1 r.1 r.2.1 e)/\Ad K (λc=>M c\/c=r.1) a r.2.1 e) ->
 (∀v,Au K (λc=>M c\/c=r.1) a r.2.2.2 v->D.rt v a)/\(r.2.2.2=.non->∀b,D.nx b a)
section
variable{K:Av}{M:Fb}{st:Ar}{AJ:U Ar}{g:VE->O (Ac×RB)}{e:Expr}{f:VE->O D}
def Uo{r:Ac×RB}(R:A6 K M H0 ρ σ H)(e:EZ j d ρ=Z r):(∃ws,H r.1=Z (CO K r.2.2.1 r.1 r.2.1 ws)/\Ad K (λc=>M c\/c=r.1) H r.2.1 ws)/\r.2.2.2=d/\∀c,M c\/c=r.1->Nf M ρ σ c:=by
 unfold EZ at e;split at e
 ·next g b a f=>
  cases e;obtain⟨o,ws,i,⟨_,k⟩,_,l,m⟩:=R.slot j _ f;have:=k a rfl;subst this;have nf:∀c,M c\/c=a->Nf M ρ σ c:=λc h=>h.imp id λh=>⟨j,g,b,_,f,by rw[h];exact Az i⟩;exact⟨⟨ws,l,m.nw λc n=>.inl<|nf c n⟩,rfl,nf⟩
 ·cases e
def Gj(c:JS X st (tS K M H0 g1))(d:JB X AJ (HW K M H0 g)):JB X (st::AJ) (HW K M H0 λρ=>En (g1 ρ) g):=⟨(F7 c.h d.h).mono λD k H f=>by
 obtain⟨ρ,r,R,e,q⟩:=f;refine⟨ρ,R,?_⟩;dsimp only at e;cases b:g1 ρ with
 |next a=>rw[b]at e;exact λi l j _=>⟨a,r,j,e,q⟩
 |_=>rw[b]at e;cases e⟩
def qp(i:Nat)(h:JB X AJ (HW K M H0 g)):JB X AJ (HW K M H0 λρ=>g (GF i ρ)):=⟨h.h.mono λD c H a=>by
 obtain⟨ρ,r,R,e,q⟩:=a;try dsimp only at e
 unfold GF at e;split at e
 ·next b=>exact⟨_,r,(R.frz b).1,e,q⟩
 ·exact⟨ρ,r,R,e,q⟩⟩
def Up:JB X [] (HW K M H0 λρ=>EZ j .non ρ):=⟨BY.mono λD a H b=>by
 obtain⟨ρ,r,R,e,q⟩:=b;obtain⟨c,d,_⟩:=Uo R e;exact(q H R.same c).2 d a⟩
def cD(a:JE X e (tD K M H0 f)):JB X [.Return (Z e) pos] (HW K M H0 λρ=>(f ρ).bind λd=>EZ j d ρ):=⟨(F7 (Jm a.h) BY).mono λD t H b=>by
 obtain⟨ρ,r,R,e,q⟩:=b;obtain⟨d,g,i⟩:=Option.bind_eq_some_iff.mp e;refine⟨ρ,d,R,g,λv k s l=>?_⟩;obtain⟨m,n,o⟩:=Uo (R.st s) i;exact(q k (R.st s).same m).1 v<|n ▸ l.nw λc p=>.inl<|o c p⟩
def qq(b:JE X e (tX K M H0 fx)):JB X [.Return (Z e) pos] (HW K M H0 λρ=>(fx ρ).bind λd=>EZ j d.1 d.2):=⟨(F7 (Jm b.h) BY).mono λD s H f=>by
 obtain⟨ρ,r,R,e,q⟩:=f;obtain⟨d,g,i⟩:=Option.bind_eq_some_iff.mp e;refine⟨ρ,d.1,d.2,R,g,λv k a _ l=>?_⟩;obtain⟨m,n,o⟩:=Uo a i;exact(q k a.same m).1 v<|n ▸ l.nw λc p=>.inl<|o c p⟩
end
noncomputable def E1(b n:Nat)(g:VE->O (Ac×RB)):U Sl->Sl->U Sl->O RB:=λc s d=>if c.length+1+d.length=b then
  match s,g (c++s::d++Do (n-b) .no)with
  |.own _ _ (Z a),Z (e,r)=>if e=a then Z r else yA
  |_,_=>yA
 else yA
theorem cE{P:A4}{w:Aj}{K:Av}{mg:Ae->O Aa}{base:Am}{x d:Ae}{st:Ar}{f:Ac}{fd:A2}{N j:U Ae}{k:Nat}{g t:VE->O (Ac×RB)}(F:Ix K x d st f fd)(S:Zw N j (Zk st)) (hb:∀(i:Aa) (A:Ah) (outer:U Env) (s:Ab) (H:Hp) (E:XK) (M:Fb) (H0:Hp),AZ k (A.deeper (By d (Zk st) s.heap.objs.size f i))->JB (FY A3 P w K mg base N d (Zk st) f i A outer s H E).nox (DV st) (HW K M H0 t)) (e:t=g:=by rfl) (hnp:j.length<=N.length:=by ext):Aw P w K mg base A3 (k+1) f fd j (Fl K (E1 j.length N.length g)):=by
 subst e;have n:∀{l m:U Sl} {o:U D} {b:Kd} {a:Ac} {r:RB},E1 j.length N.length t l (.own o b<|some a) m=Z r->l.length+1+m.length=j.length/\t (l++.own o b (Z a)::m++Do (N.length-j.length) .no)=Z (a,r):=λ{l m o b a r} h=>by
  unfold E1 at h;split at h
  ·next C=>
   split at h
   ·next G u=>
    cases G;split at h
    ·next ea=>cases h;rw[ea]at u;exact⟨C,u⟩
    ·cases h
   ·cases h
  ·cases h
 refine F.ok S (λW H Q E h=>?_) (λi A outer s H W Q E hr h=>?_)
 ·obtain⟨y,a,l,m,us1,B7,o,b,ws,r,I,_,_,_,_,z,B,R,_⟩:=h;rw[I,<- (n R).1,(IY z),(IY B)];simp;lia
 ·obtain⟨y,a,l,m,us1,B7,o,b,ws,r,I,nh,na,ho,hd,z,B,R,q⟩:=h;obtain⟨C,u⟩:=n R;refine⟨_,(hb i A outer s H E (λc=>y c/\c≠a) (LX H a) hr).h,?_⟩;have G:FX N W=(us1++V.ref a::B7).map Z++Do (N.length-j.length) yA:=by
   unfold FX;rw[I,<- C,(IY z),(IY B)];congr 2;simp;lia
  rw[G];have L:∀c,y c->(y c/\c≠a)\/c=a:=λc h=>Classical.byCases (λe:c=a=>.inr e) λe=>.inl ⟨h,e⟩;refine⟨_,(a,r),qo nh na ho hd z B _,u,λT s ⟨X,Y,z2⟩=>⟨λv hv=>q v T ⟨s,⟨X,Y,z2.nw λc p=>.inl<|L c p⟩,hv.nw λc p=>.inl<|L c p⟩,λhn σ'=>q .non T ⟨s,⟨X,Y,z2.nw λc p=>.inl<|L c p⟩,by rw[show r.2.2=.non from hn];erw[Au]⟩⟩⟩
def LY{b:Type}(h:Ac->O b):O b:=@ite _ (∀a,h a=h 0) (HM _) (h 0) yA
def LZ{b:Type}{h:Ac->O b}{r:O b}(e:∀a,h a=r):LY h=r:=by
 unfold LY;rw[@if_pos _ (HM _) λa=>(e a).trans (e 0).symm];exact e 0
def cF{b:Type}{h:Ac->O b}{r:b}(e:LY h=Z r)(a:Ac):h a=Z r:=by
 unfold LY at e;by_cases p:∀a,h a=h 0
 ·rw[@if_pos _ (HM _) p]at e;rw[p a,e]
 ·simp[@if_neg _ (HM _) p]at e
section
variable{K:Av}{M N:Fb}{k:Nat}{ys:U D}{b b':Kd}{oo:O Ac}{d:D}{v:V}
def qr(R:A6 K M H0 ρ σ H)(l:ρ[k]?=Z (.own xs b oo))(m:σ[k]?=Z (Z (.ref a)))(f:cB K (Nf M ρ σ) a H H' ys b' d v):A6 K M H0 (ρ.set k (.own ys b' oo)) σ H'/\Step M (Nf M ρ σ) (Nf M (ρ.set k (.own ys b' oo)) σ) H H'/\Au K (Nf M (ρ.set k (.own ys b' oo)) σ) H' d v:=by
 obtain⟨sm,⟨n,o,hd⟩,de⟩:=f;have p:Nf M ρ σ a:=.inr ⟨k,xs,b,oo,l,m⟩;have s:=R.nh a p;generalize g:(λc=>if c=a then H a else H' c:Hp)=i;have q:i a=H a:=by rw[<- g];exact if_pos rfl
 have j:∀{c},c≠a->i c=H' c:=λh=>by rw[<- g];exact if_neg h
 have r:Ai H i:=λc u e=>by
  by_cases h:c=a
  ·rw[h,q,<- h];exact e
  ·rw[j h];exact sm c u (by rw[Po h];exact e)
 have eq:AM i a (CO K b' a ys n)=H':=by
  funext c;by_cases h:c=a
  ·rw[h,D4,o]
  ·rw[ZA h,j h]
 have d1:Ad K (Nf M ρ σ) i ys n:=Ad.step (M:=λ_=>False) ⟨λc u e z=>by
  by_cases h:c=a
  ·rcases z with z|z|z
   ·exact absurd (h ▸ p) z
   ·exact z.elim
   ·rw[h,o]at e;cases e;rw[Y7]at z;cases z
  ·rw[j h];exact e,λc h=>.inl h⟩ _ _ hd
 obtain⟨R2,S2⟩:=(R.st r).chg (fl2:=b') l m d1;rw[eq]at R2 S2;refine⟨R2,(Step.of_same r).trans S2,de.nw λc w=>(S2.nw c w).imp id λz=>?_⟩;by_cases h:c=a
 ·rw[h,q]at z;exact absurd z s
 ·rw[<- j h];exact z
def Ce.same{s:Sl}(h:Ce K N a H s v)(sm:Ai H H'):Ce K N a H' s v:=by
 cases s with
 |val d=>exact Au.same h sm
 |lent xs m=>obtain⟨a,b,e,n,q,r⟩:=h;exact⟨a,b,e,n,q.same sm,r.same sm⟩
 |deep o p=>obtain⟨a,bs,e,c,f,g,i,j⟩:=h;exact⟨a,bs,e,c,f,g.same sm,i,Paired.mapP j λ_ _ ⟨b,k,l⟩=>⟨b,k.same sm,l.same sm⟩⟩
 |_=>exact h
end
def Uq(ρ:VE)(σ:St)(k:Nat)(a:Ac):Prop:=(∃c b d,ρ[k]?=Z (Sl.own c b d))/\σ[k]?=Z (Z (.ref a))
def Pp(K:Av)(M:Fb)(H0:Hp)(k:Nat)(f:VE->O Sl):TE:=λc H Q=>∃b s,A6 K M H0 b c H/\f b=Z s/\∀v d,Ai H d->(∀a,Uq b c k a->Ce K (Nf M b c) a d s v)->Q v d
def L0(K:Av)(M:Fb)(H0:Hp)(k:Nat)(f:VE->O (U Sl)):TA:=λc H Q=>∃b e,A6 K M H0 b c H/\f b=Z e/\∀g d,Ai H d->(∀a,Uq b c k a->Paired (Ce K (Nf M b c) a d) e g)->Q g d
def Pq(K:Av)(M:Fb)(H0:Hp)(k:Nat)(f:VE->O (U Sl×U Sl)):TA:=λc H Q=>∃b s a,A6 K M H0 b c H/\f b=Z s/\Uq b c k a/\∀us1 B7 d,Ai H d->Paired (Ce K (Nf M b c) a d) s.1 us1->Paired (Ce K (Nf M b c) a d) s.2 B7->Q (us1++.ref a::B7) d
@[simp] def L1(ρ:VE)(i:Nat):O Sl:=match ρ[i]? with
  |some (.val d)=>Z (.val d)
  |some (.own a b _)=>Z (.lent a b)
  |some (.lent a b)=>Z (.lent a b)
  |_=>yA
section
variable{K:Av}{M:Fb}{k:Nat}{e:Expr}{f:VE->O D}
def Ur(h:JE X e (tD K M H0 f)):JE X e (Pp K M H0 k λρ=>Zh (f ρ)):=⟨h.h.mono λj H Q b=>by
 obtain⟨ρ,s,R,e,q⟩:=b;obtain⟨d,c,rfl⟩:=Option.map_eq_some_iff.mp e;exact⟨ρ,d,R,c,λv g sm i=>q v g sm λa _=>i⟩⟩
def cG(i:Nat){x:Ae}(g:i≠k:=by ext)(B:NV X i x:=by exact CG):JE X (.Name x pos) (Pp K M H0 k λρ=>L1 ρ i):=⟨(Eg B).mono λI H Q C=>by
   obtain⟨ρ,s,R,e,q⟩:=C;try dsimp only at e
   unfold L1 at e;split at e
   ·next h=>cases e;obtain⟨v,d,h⟩:=R.slot i _ h;exact⟨v,Az d,q v H (Ai.refl H) λa _=>h⟩
   ·next j b t h=>
    cases e;obtain⟨c,l,d,_,_,m,n⟩:=R.slot i _ h;have o:=Az d;exact⟨_,o,q _ H (Ai.refl H) λa ⟨⟨u,w,f,p⟩,r⟩=>⟨c,l,rfl,⟨.inr ⟨i,j,b,t,h,o⟩,λz=>g<|R.inj i k j u b w t f a h p (z ▸ o) r⟩,.inl m,n⟩⟩
   ·next j b h=>
    cases e;obtain⟨c,l,d,y,m,n⟩:=R.slot i _ h;refine⟨_,Az d,q _ H (Ai.refl H) λa ⟨⟨u,w,f,p⟩,r⟩=>⟨c,l,rfl,⟨.inl y.1,λz=>?_⟩,m,n⟩⟩;obtain⟨E,_,A,_,G,_⟩:=R.slot k _ p;rw[r]at A;have:E=a:=by simpa using A.symm
    exact G (by rw[this,<- z];exact y.1)
   ·cases e⟩
def Pr:JA X [] (L0 K M H0 k λ_=>Z []):=⟨Bm.mono λa H Q ⟨b,c,R,e,q⟩=>by cases e;exact q [] H (Ai.refl H) λ_ _=>.nil⟩
def Ps(h:JE X e (Pp K M H0 k f1))(g:JA X es (L0 K M H0 k fa))(i:autoParam (AY (e::es) X.env=(yC,Ax e X.env)::AY es X.env) ye):JA X (e::es) (L0 K M H0 k λρ=>Zb (f1 ρ) (fa ρ)):=⟨(Ee h.h g.h i).mono λt H Q j=>by
   obtain⟨ρ,u,R,e,q⟩:=j;obtain⟨s,b,l,m,rfl⟩:=Lw e;exact⟨ρ,s,R,l,λv w d n=>⟨ρ,b,R.st d,m,λp r f c=>q (v::p) r (d.trans f) λa o=>.cons ((n a o).same f)<|c a o⟩⟩⟩
def Us{x:Ae}(c:JA X es (L0 K M H0 k fa))(d:NV X k x:=by exact CG) (f:autoParam (AY (.Name x pos::es) X.env=(yC,Ax (.Name x pos) X.env)::AY es X.env) ye):JA X (.Name x pos::es) (Pq K M H0 k λρ=>(fa ρ).map λs=>([],s)):=⟨(Ee (Eg d) c.h f).mono λp H Q g=>by
   obtain⟨ρ,s,a,R,e,o,q⟩:=g;obtain⟨i,j,rfl⟩:=Option.map_eq_some_iff.mp e;exact⟨.ref a,o.2,ρ,i,R,j,λl m n b=>q [] l m n .nil<|b a o⟩⟩
def qt(h:JE X e (Pp K M H0 k f1))(d:JA X es (Pq K M H0 k fb))(f:autoParam (AY (e::es) X.env=(yC,Ax e X.env)::AY es X.env) ye):JA X (e::es) (Pq K M H0 k λρ=>(f1 ρ).bind λs=>(fb ρ).map λp=>(s::p.1,p.2)):=⟨(Ee h.h d.h f).mono λu H Q g=>by
   obtain⟨ρ,s,a,R,e,o,q⟩:=g;obtain⟨s0,i,j⟩:=Option.bind_eq_some_iff.mp e;obtain⟨p,l,rfl⟩:=Option.map_eq_some_iff.mp j;exact⟨ρ,s0,R,i,λv w b m=>⟨ρ,p,a,R.st b,l,o,λus1 B7 n c r t=>q (v::us1) B7 n (b.trans c) (.cons ((m a o).same c) r) t⟩⟩⟩
end
def GJ(k:Nat)(F:U Sl->Sl->U Sl->O RB)(o:O (U Sl×U Sl))(ρ:VE):O (D×VE):=match ρ[k]?,o with
 |some (.own c b d),Z p=>(LY λa=>F p.1 (.own c b (Z a)) p.2).map λr=>(r.2.2,ρ.set k (.own r.1 r.2.1 d))
 |_,_=>yA
def HX(c m:Ae)(k:Nat)(F:U Sl->Sl->U Sl->O RB)(o:O (U Sl))(ρ:VE):O (D×VE):=match ρ[k]? with
 |some (.own b (.i ns a) d)=>if a=c/\ns.contains m=yC then GJ k F (o.map λs=>([],s)) ρ else yA
 |_=>yA
section
variable{K:Av}{M:Fb}{k:Nat}{e:Expr}{p vpos:AQ}{F:U Sl->Sl->U Sl->O RB}{n:Nat}{fn:Ac}{fd:A2}{x c m:Ae}{E:XK}
def cH{o:O (U Sl×U Sl)}{c:VE}(h:GJ k F o ρ=Z (d,c)):∃xs b f q r,ρ[k]?=Z (.own xs b f)/\o=Z q/\(∀a,F q.1 (.own xs b (Z a)) q.2=Z r)/\d=r.2.2/\c=ρ.set k (.own r.1 r.2.1 f):=by
 unfold GJ at h;split at h
 ·next xs b f q g=>
  obtain⟨r,i,e⟩:=Option.map_eq_some_iff.mp h;cases e;exact⟨xs,b,f,q,r,g,rfl,λa=>cF i a,rfl,rfl⟩
 ·cases h
def cI{d:Hp}{Q:VK}{q:U Sl×U Sl}{b:Kd}{c:O Ac}{r:RB}{us1 B7:U V}(R:A6 K M H0 ρ σ H)(e:ρ[k]?=Z (.own xs b c))(g:σ[k]?=Z (Z (.ref a)))(i:Ai H d)(l:Paired (Ce K (Nf M ρ σ) a d) q.1 us1)(m:Paired (Ce K (Nf M ρ σ) a d) q.2 B7) (n:F q.1 (.own xs b (Z a)) q.2=Z r) (o:∀v H',A6 K M H0 (ρ.set k (.own r.1 r.2.1 c)) σ H'->Step M (Nf M ρ σ) (Nf M (ρ.set k (.own r.1 r.2.1 c)) σ) H H'->Au K (Nf M (ρ.set k (.own r.1 r.2.1 c)) σ) H' r.2.2 v->Q v H'):Fl K F (us1++.ref a::B7) d Q E:=by
 have h:=R.st i;obtain⟨p,s,j,_,_,t,u⟩:=h.slot k _ e;rw[g]at j;have w:a=p:=by simpa using j
 subst w;refine⟨Nf M ρ σ,a,q.1,q.2,us1,B7,xs,b,s,r,rfl,h.nh,.inr ⟨k,xs,b,c,e,g⟩,t,u,l,m,n,λv H' f=>?_⟩;obtain⟨x,y,z⟩:=qr h e g f;exact o v H' x ((Step.of_same i).trans y) z
def Ut(G:Aw X.prog X.w X.K X.mg X.base CX n fn fd ps (Fl X.K F))(i:AZ n X.A)(j:Gl X x)(l:X.mg x=Z (.ref fn))(f:keepIn X.K (.ref fn)=yB)(m:Binds X.K fd ps [])(o:FW CX X E)(t:JA X (e::es) (Pq X.K M H0 k fb)) (hz:CA X x e es pos:=by exact Ha):JE X (.Call (.Name x p) (e::es) [] pos) (tX X.K M H0 λρ=>GJ k F (fb ρ) ρ):=⟨(SI G i j l f m .nil o t.h hz.d hz.s hz.p).mono λT H Q u=>by
 obtain⟨ρ,d,v,R,e,q⟩:=u;obtain⟨y,b,z,B,r,g,C,I,rfl,rfl⟩:=cH e;obtain⟨a,W,P,_⟩:=R.slot k _ g;have c:=Az P;exact⟨ρ,B,a,R,C,⟨⟨y,b,z,g⟩,c⟩,λus1 B7 Y L N S=>by show Fl _ _ (_++[]) _ _ _;rw[CF];exact cI R g c L N S (I a) q⟩⟩
def qu{o:O (U Sl)}{e:VE}(h:HX c m k F o ρ=Z (d,e)):∃xs ns g s r,ρ[k]?=Z (.own xs (.i ns c) g)/\ns.contains m=yC/\o=Z s/\(∀a,F [] (.own xs (.i ns c) (Z a)) s=Z r)/\d=r.2.2/\e=ρ.set k (.own r.1 r.2.1 g):=by
 unfold HX at h;split at h
 ·next xs ns y g l=>
  split at h
  ·next j=>
   obtain⟨rfl,j⟩:=j;obtain⟨n,b,p,q,r,f,t,u,v,w⟩:=cH h;rw[l]at f;cases f;obtain⟨s,x,rfl⟩:=Option.map_eq_some_iff.mp t;exact⟨xs,ns,g,s,r,l,j,x,u,v,w⟩
  ·cases h
 ·cases h
def cJ(i:nsIn K De c=Z (Z (.ref C))){Q:VK}(h:tX K M H0 (λρ=>HX c m k F (fa ρ) ρ) σ H Q):Jq C m (Fl K F) [] E (On k) (L0 K M H0 k fa) σ H Q:=by
 obtain⟨ρ,d,j,R,e,q⟩:=h;obtain⟨l,ns,n,s,r,f,o,p,t,rfl,rfl⟩:=qu e;obtain⟨a,x,u,_,_,g,_⟩:=R.slot k _ f;have b:=Az u;erw[CO,KY i]at g;refine⟨.ref a,b,a,_,_,rfl,.inl g,Pn o,ρ,s,R,p,λv y w z=>?_⟩;show Fl _ _ (_::(v++[])) _ _ _
 rw[CF];exact cI (us1:=[]) (q:=([],s)) R f b w .nil (z a ⟨⟨l,_,n,f⟩,b⟩) (t a) q
section
variable(hC:nsIn X.K De c=Z (Z (.ref C)))(cl:Fv X.K C)(hm:Kp X.K C m fn)(G:Aw X.prog X.w X.K X.mg X.base CX n fn fd ps (Fl X.K F))(hr:AZ n X.A)(hb:Binds X.K fd ps [])(hx:FW CX X E)
include hC cl hm G hr hb hx
def qv(d:JA X (e::es) (L0 X.K M H0 k fa))(f:NV X k x:=by exact CG) (a:autoParam (AY (e::es) X.env=(yC,Ax e X.env)::AY es X.env) ye) (b:(AL pos (AY es X.env)).any (·.1)=yC:=by rfl) (g:ME X (.Name x vpos) m (e::es) pl apos pos:=by rfl):JE X (.Call (.Attribute (.Name x vpos) m apos) (e::es) [] pos) (tX X.K M H0 λρ=>HX c m k F (fa ρ) ρ):=⟨(SJ (Eg f) cl hm G hr hb .nil hx d.h a b g).mono λ_ _ _ h=>cJ hC h⟩
def qw(b:NV X k x:=by exact CG) (d:ME X (.Name x vpos) m [] pl apos pos:=by rfl):JE X (.Call (.Attribute (.Name x vpos) m apos) [] [] pos) (tX X.K M H0 λρ=>HX c m k F (Z []) ρ):=⟨(Ox (Eg b) cl hm G hr hb .nil hx d).mono λ_ _ _ h=>by
 obtain⟨v,e,a,f,g,i,j,l,ρ,o,R,n,q⟩:=cJ (E:=E) hC h;cases n;exact⟨v,e,a,f,g,i,j,l,q [] _ (Ai.refl _) λ_ _=>.nil⟩⟩
end
end
@[simp] def putN(f:Ae):U Ae->U Ae
  |[]=>[f]
  |n::ns=>if n=f then n::ns else n::putN f ns
@[simp] def EM{a:Type}(f:Ae)(y:a):U Ae->U a->U a
  |n::ns,x::b=>if n=f then y::b else x::EM f y ns b
  |_,_=>[y]
theorem cK{f:Ae}{y:V}:∀{ns:U Ae}{vs:U V},ns.length=vs.length->EF f y (ns.zip vs)=(putN f ns).zip (EM f y ns vs)
 |[],[],_=>rfl
 |n::ns,v::vs,h=>by
  erw[G6,EF,putN,EM];by_cases e:n=f
  ·rw[if_pos e,if_pos e,if_pos e];rfl
  ·rw[if_neg e,if_neg e,if_neg e,cK (by simpa using h)];rfl
@[simp] def GK(c f:Ae)(k:Nat)(o:O D)(ρ:VE):An:=match ρ[k]?,o with
  |some (.own a (.i ns b) e),Z d=>if b=c/\ns.length=a.length/\ns.length<1000 then .next (ρ.set k (.own (EM f d ns a) (.i (putN f ns) c) e))else .fail
  |_,_=>.fail
def Uu(K:Av)(M:Fb)(H0:Hp)(c:Ae)(f:VE->O (U Ae×U D)):TE:=λg H Q=>∃e r,A6 K M H0 e g H/\f e=Z r /\
 ∀a h d,Ai H d->H a=yA->d a=Z (CO K (.i r.1 c) a r.2 h)->Ad K (λb=>Nf M e g b\/b=a) d r.2 h->Q (.ref a) d
@[simp] def Uv(c:Ae):RB->O (U Ae×U D)
  |(a,.i ns b,.non)=>if b=c then Z (ns,a)else yA
  |_=>yA
def Pt(c:Ae)(F:U Sl->Sl->U Sl->O RB)(o:O (U Sl)):O (U Ae×U D):=o.bind λb=>(LY λa=>F [] (.own [] (.i [] c) (Z a)) b).bind (Uv c)
section
variable{K:Av}{M N:Fb}{k:Nat}{e:Expr}{fe:VE->O D}{pos' p vpos:AQ}{F:U Sl->Sl->U Sl->O RB}{n:Nat}{fn:Ac}{fd:A2}{x c f:Ae}{E:XK}
theorem cL{d:D}{y:V}:∀{ns:U Ae}{xs:U D}{vs:U V},ns.length=xs.length->Ad K N H xs vs->Au K N H d y->Ad K N H (EM f d ns xs) (EM f y ns vs)
 |[],[],_,_,h,q=>by erw[Ad]at h;subst h;exact Ad.cons q Ad.nil
 |n::ns,x::xs,_,b,h,q=>by
  erw[Ad]at h;obtain⟨v,r,rfl,c,a⟩:=h;erw[EM];split
  ·exact Ad.cons q a
  ·exact Ad.cons c<|cL (by simpa using b) a q
theorem Nk(b:nsIn X.K De c=Z (Z (.ref C)))(cl:Fv X.K C)(o:BP X.K C f)(p:JE X e (tD X.K M H0 fe))(r:NV X k x:=by exact CG) (t:DB e (Z (.Attribute (.Name x vpos) f pos')) pos.line X.env=AH yC:=by rfl):JS X (.Assign [.Attribute (.Name x vpos) f pos'] e pos) (tS X.K M H0 λρ=>GK c f k (fe ρ) ρ):=⟨(l5 (Eg r) p.h t).mono λD L H u=>by
   obtain⟨ρ,R,q⟩:=u;try dsimp only at q
   unfold GK at q;split at q
   ·next v ns w N d g z=>
    split at q
    ·next A=>
     obtain⟨rfl,j,B⟩:=A;refine⟨ρ,d,R,z,λy F s E=>?_⟩;obtain⟨a,G,I,_,_,l,m⟩:=(R.st s).slot k _ g;have n:=Az I;erw[CO,KY b]at l;obtain⟨R2,S2⟩:=(R.st s).chg (fl2:=.i (putN f ns) w) (ys:=EM f d ns v) (ws:=EM f y ns G) g n (cL j m E);erw[CO,KY b]at R2 S2;refine⟨.ref a,n,a,C,a-1,_,rfl,l,cl,o,by rw[List.length_zip];lia,?_⟩;rw[cK<|j.trans m.length];exact q _ _ R2<|(Step.of_same s).trans S2
    ·exact Bo q
   ·exact Bo q⟩
theorem cM{y:Ac}(i:∀a,N a->H a≠yA)(f:H y=yA)(sm:Ai H H'):∀{g:U Sl}{vs:U V},Br K N H g vs->Paired (Ce K (λb=>N b\/b=y) y H') g vs
 |[],_,h=>by cases h;exact .nil
 |s::g,_,⟨v,r,e,h,t⟩=>by
  subst e;have nf:∀b,N b\/b=y->N b\/H b=yA:=λb h=>h.imp id λ(z:b=y)=>by rw[z];exact f
  have ne:∀{b},N b->(N b\/b=y)/\b≠y:=λh=>⟨.inl h,λz=>i _ h<|z ▸ f⟩;refine .cons ?_<|cM i f sm t;cases s with
  |val d=>exact(Au.nw h nf).same sm
  |lent x A=>obtain⟨c,vs,e,n,q,r⟩:=h;exact⟨c,vs,e,ne n,q.same sm,(r.nw nf).same sm⟩
  |deep B C=>obtain⟨c,bs,e,j,k,l,m,o⟩:=h;exact⟨c,bs,e,j,ne k,l.same sm,λb p=>ne<|m b p,Paired.mapP o λ_ _ ⟨vs,u,w⟩=>⟨vs,u.same sm,(w.nw nf).same sm⟩⟩
  |_=>exact h
def qy(W:nsIn X.K De c=Z (Z (.ref C)))(Y:Mk X.K C fn)(G:Aw X.prog X.w X.K X.mg X.base CX n fn fd ps (Fl X.K F))(hr:AZ (n+1) X.A)(hg:Gl X x)(hm:X.mg x=Z (.ref C))(m:Binds X.K fd ps [])(hx:FW CX X E) (ha:JA X (e::es) (Dr X.K M H0 fa)) (hz:CA X x e es pos:=by exact Ha):JE X (.Call (.Name x p) (e::es) [] pos) (Uu X.K M H0 c λρ=>Pt c F (fa ρ)):=⟨(mj Y G hr hg hm m .nil hx ha.h hz.d hz.s hz.p).mono λσ H Q z0=>by
 obtain⟨ρ,r,R,e,q⟩:=z0;obtain⟨B,hf,e2⟩:=Option.bind_eq_some_iff.mp e;obtain⟨⟨ys,b,d⟩,hF,a⟩:=Option.bind_eq_some_iff.mp e2;unfold Uv at a;split at a
 ·next ns I ez=>
  cases ez;split at a
  ·next ec=>
   subst ec;cases a;refine⟨ρ,B,R,hf,λvs P t hs y g l hd j=>?_⟩;have nd:y≠g:=by rw[j];exact λz=>absurd z<|Nat.succ_ne_self g
   generalize k:AM (AM P g<|.own y) y (.ins C g [])=L;have N:L y=Z (.ins C g []):=by rw[<- k,D4]
   have sm:Ai P L:=by rw[<- k];exact(Eh hd).trans<|Eh (by rw[ZA nd];exact l)
   have S:=(R.st t).nh;refine⟨λb=>Nf M ρ σ b\/b=y,y,[],B,[],vs++[],[],.i [] I,[],(ys,.i ns I,.non),rfl,λb h=>?_,.inr rfl,?_,Ad.nil,.nil,by rw[CF];exact cM S l sm hs,cF hF y,λv H3 f=>?_⟩
   ·rcases h with h|h
    ·exact λz=>S b h<|sm.free z
    ·rw[h,N];exact λz=>nomatch z
   ·rw[N,j];erw[CO,KY W,Nat.add_sub_cancel];rfl
   ·obtain⟨f1,⟨ws,f2,f3⟩,T⟩:=f;erw[Au]at T;refine⟨T,q y ws H3 (t.trans λb o u=>f1 b o ?_) (t.free l) f2 f3⟩;have m:b≠y:=λz=>by simp[z,l]at u
    rw[Po m];exact sm b o u
  ·cases a
 ·cases a⟩
end
mutual
/-- no list,no instance within -/
noncomputable def KZ:D->Bool
 |.lst _ _=>yC
 |.tup a=>Gk a
 |.non=>yB
 |.bl _=>yB
 |.int _=>yB
 |.str _=>yB
 |.ty _=>yB
noncomputable def Gk:U D->Bool
 |[]=>yB
 |x::a=>KZ x&&Gk a
end
mutual
theorem Au.free{K:Av}{N f:Fb}{H:Hp}:∀(d:D)(v:V),KZ d=yB->Au K N H d v->Au K f H d v
 |.non,_,_,h=>by simpa only[Au]using h
 |.bl _,_,_,h=>by simpa only[Au]using h
 |.int _,_,_,h=>by simpa only[Au]using h
 |.str _,_,_,h=>by simpa only[Au]using h
 |.ty _,_,_,h=>by simpa only[Au]using h
 |.tup g,v,b,h=>by
  erw[KZ]at b
  erw[Au]at h ⊢
  obtain⟨a,c,e,q,r⟩:=h
  exact⟨a,c,e,q,Ad.free g c b r⟩
 |.lst _ _,_,b,_=>by erw[KZ]at b;cases b
theorem Ad.free{K:Av}{N b:Fb}{H:Hp}:∀(xs:U D)(vs:U V),Gk xs=yB->Ad K N H xs vs->Ad K b H xs vs
 |[],_,_,h=>by simpa only[Ad]using h
 |x::xs,vs,a,h=>by
  erw[Gk,Dp]at a
  erw[Ad]at h ⊢
  obtain⟨v,r,e,q,t⟩:=h
  exact⟨v,r,e,Au.free x v a.1 q,Ad.free xs r a.2 t⟩
end
@[simp] def EN:Sl->Sl
  |.val d=>.val d
  |.lent a b=>.val (.lst a b)
  |.own a b _=>.val (.lst a b)
  |.deep c _=>.val (.lst (c.map λz=>D.lst z))
  |_=>.no
section
variable{K:Av}{M N N':Fb}
theorem cN(nn:∀a,¬ N' a):∀{c:U (U D)}{bs:U Ac},Paired (λz b=>∃vs,Rd H b (.lst vs)/\Ad K N H z vs) c bs->Ad K N' H (c.map λz=>D.lst z) (bs.map V.ref)
 |_,_,.nil=>Ad.nil
 |_,_,.cons ⟨vs,d,e⟩ t=>Ad.cons (by erw[Au];exact⟨_,vs,rfl,.inl ⟨nn _,d⟩,e.nw λa f=>(nn a f).elim⟩) (cN nn t)
def cO{i:Nat}{a:O Ac}:(ρ.map EN)[i]?≠Z (Sl.own xs b a):=λh=>by
 rw[DL]at h;cases e:ρ[i]? with
 |none=>simp[e]at h
 |some s=>rw[e]at h;cases s<;>cases h
def A6.all(R:A6 K M H0 ρ σ H):A6 K (λ_=>False) H (ρ.map EN) σ H:=by
 have nf:∀a,¬ Nf (λ_=>False) (ρ.map EN) σ a:=by
  rintro a (h|⟨i,g,b,o,h,_⟩)
  ·exact h
  ·exact cO h
 refine⟨by rw[Bd];exact R.len,Ai.refl H,λ_ h=>h.elim,λi s e=>?_,λi j g r b t _ _ a h=>(cO h).elim⟩;rw[DL]at e;cases h:ρ[i]? with|none=>simp[h]at e|some s0=>
  rw[h]at e;erw[Iy,MO]at e;have q:=R.slot i s0 h;subst e;cases s0 with
  |no=>trivial
  |val d=>obtain⟨v,e,h⟩:=q;exact⟨v,e,h.nw λa f=>(nf a f).elim⟩
  |own g p o=>obtain⟨a,k,e,_,_,l,m⟩:=q;exact⟨.ref a,e,by erw[Au];exact⟨a,k,rfl,.inl ⟨nf a,.inl l⟩,m.nw λa f=>(nf a f).elim⟩⟩
  |lent g p=>obtain⟨a,k,e,_,n,l⟩:=q;exact⟨.ref a,e,by erw[Au];exact⟨a,k,rfl,.inl ⟨nf a,n⟩,l.nw λa f=>(nf a f).elim⟩⟩
  |deep u w=>obtain⟨a,bs,e,_,_,n,_,m⟩:=q;exact⟨.ref a,e,by erw[Au];exact⟨a,bs.map V.ref,rfl,.inl ⟨nf a,n⟩,cN nf m⟩⟩
  |exc c=>trivial
  |pin a=>trivial
end
section
variable{K:Av}{M:Fb}{e:Expr}{t:VE->O Bool}
def qA(h:∀M H0,JT X e (BO K M H0 t)):JT X e (BO K M H0 λρ=>t (ρ.map EN)):=⟨λa s c H Q I ⟨ρ,b,R,e,q⟩=>(h _ _).h a s c H Q I ⟨_,b,R.all,e,q⟩⟩
end
def E2(K:Av)(H:Hp)(c:U (U D))(bs:U Ac):Prop:=Paired (λz b=>∃a,H b=Z (.lst a)/\∀N,Ad K N H z a) c bs
def E2.same{K:Av}{a:U (U D)}{bs:U Ac}(h:E2 K H a bs)(s:Ai H H'):E2 K H' a bs:=Paired.mapP h λ_ _ ⟨b,c,d⟩=>⟨b,s _ _ c,λN=>(d N).same s⟩
theorem E2.has{K:Av}{H:Hp}:∀{c:U (U D)}{bs:U Ac},E2 K H c bs->∀b∈bs,H b≠yA
 |_,_,.nil,_,a=>nomatch a
 |_,_,.cons ⟨f,d,_⟩ t,b,a=>by
  rcases Bh.mp a with e|e
  ·rw[e,d];exact λz=>nomatch z
  ·exact E2.has t b e
theorem E2.snoc{K:Av}{H:Hp}{z:U D}{b:Ac}:∀{a:U (U D)}{bs:U Ac},E2 K H a bs->(∃vs,H b=Z (.lst vs)/\∀N,Ad K N H z vs)->E2 K H (a++[z]) (bs++[b])
 |_,_,.nil,h=>.cons h .nil
 |_,_,.cons c t,h=>.cons c<|E2.snoc t h
def K0(K:Av)(M:Fb)(H0:Hp)(f:VE->O (U (U D))):TE:=λg H Q=>∃d e,A6 K M H0 d g H/\f d=Z e /\
 ∀a bs c,Ai H c->H a=yA->(∀b∈bs,H b=yA)->bs.Nodup->a∉bs->c a=Z (.lst (bs.map V.ref))->E2 K c e bs->Q (.ref a) c
def qB(K:Av)(e:VE->O (U D)):TE:=λa H Q=>∃M b,tF K M b e a H Q
def cP(K:Av)(f:VE->O (U D)):TI:=λa H R=>∃M b,tI K M b f a H R
@[simp] def Uw(o:O (U D)):O (U D):=o.bind λz=>if Gk z=yB then Z z else yA
def J0(b:D->VE->O VE)(e:VE->O (U D))(ρ:VE):U D->O (U (U D))
 |[]=>Z []
 |d::c=>match b d ρ with
  |none=>yA
  |some a=>Zb (Uw (e a)) (J0 b e ρ c)
@[simp] def Gm(k:Nat)(oix:U Nat)(f:VE->O (U D))(b:D->VE->O VE)(e:VE->O (U D)):VE->O (U (U D)):=λa=>(Zu (f (a.map EN))).bind (J0 b e (ZK k oix (a.map EN)))
section
variable{K:Av}{M:Fb}{f:VE->O (U D)}{b:D->VE->O VE}{e:VE->O (U D)}{k:Nat}{oix:U Nat}
theorem cQ(hw:∀j∈ws,j<k){Q:VK}(h:K0 K M H0 (Gm k oix f b e) σ H Q):MB k oix (cP K f) (LA K ws b) Tf (qB K e) σ H Q:=by
 obtain⟨o,L,R,ex,q⟩:=h;unfold Gm at ex;cases w:Zu (f<|o.map EN)with
 |none=>rw[w]at ex;cases ex
 |some l=>
  rw[w]at ex;obtain⟨w,hz⟩:=OH w;have ex:J0 b e (ZK k oix<|o.map EN) l=Z L:=ex;have R0:=R.all;refine⟨_,_,o.map EN,l,R0,w,λF H1 P ok=>?_⟩;refine⟨l.length,λi ys T=>i<=l.length/\Ai H1 T/\∃(bs:U Ac) (d AJ:U (U D)),ys=bs.map V.ref/\bs.length=i/\(∀b∈bs,H b=yA)/\bs.Nodup/\E2 K T d bs/\J0 b e (ZK k oix<|o.map EN) (l.drop i)=Z AJ/\d++AJ=L,
   ⟨E7 _,Ai.refl _,[],[],L,rfl,rfl,(λc h=>nomatch h),List.nodup_nil,.nil,ex,rfl⟩,?_⟩
  rintro i ys T ⟨hle,v,bs,d,AJ,rfl,r,A,B,S,g,Y⟩;obtain⟨ok1,ok2⟩:=ok _ T (Step.of_same v) i;by_cases m:i<l.length
  ·obtain⟨go,y⟩:=ok1 l[i]<|Dl m;rw[MF m]at g;erw[J0]at g;refine .inr ⟨go,m,by rw[Bd,r];lia,λC H'=>Ai H1 H'/\∃(bs:U Ac) (d AJ:U (U D)),C=bs.map V.ref/\bs.length=i+1/\(∀b∈bs,H b=yA)/\bs.Nodup/\E2 K H' d bs/\J0 b e (ZK k oix<|o.map EN) (l.drop<|i+1)=Z AJ/\d++AJ=L,λC H' z=>⟨m,z⟩,λx H3 yl=>?_⟩;obtain⟨E,hd⟩:=y x H3 yl;have R3:=((R0.st P).st v).st E;obtain⟨Rc,nf⟩:=R3.comp k oix;cases hb:b l[i] (ZK k oix<|o.map EN)with
   |none=>rw[hb]at g;cases g
   |some s=>
    rw[hb]at g;simp only at g;obtain⟨z,t,u,e2,e3⟩:=Lw g;cases he:e s with|none=>rw[he]at u;cases u|some z'=>
     rw[he]at u;erw[Uw,Ay]at u;split at u
     ·next hn=>
      cases u;refine⟨_,H3,ZK k oix<|o.map EN,l[i],s,Rc,hd.nw λa ha=>.inl<|nf a ha,hb,λσ4 R4 S4 w4=>⟨?_,?_⟩⟩
      ·apply HK;intro j;rw[MC,MC];exact w4 _ λhj=>absurd (hw _ hj) (by lia)
      ·unfold Tf;refine G7 ?_;refine⟨_,H3,s,z,R4,he,λa vs H6 s6 G ha2 hd6=>⟨(v.trans E).trans s6,bs++[a],d++[z],t,by simp,by simp[r],λc g=>?_,?_,(S.same<|E.trans s6).snoc ⟨vs,ha2,λN=>Ad.free _ _ hn hd6⟩,e2,?_⟩⟩
       ·rcases Dk.mp g with h|h
        ·exact A c h
        ·erw[Ew]at h;rw[h];exact((P.trans v).trans E).free G
       ·refine GH.mpr ⟨B,by simp,λc g c' I ec=>?_⟩;erw[Ew]at I;rw[ec,I]at g;exact S.has a g<|E.free G
       ·subst e3;rw[<- Y];simp
     ·cases u
  ·have ei:i=l.length:=by lia
   rw[MD (by lia)]at g;cases g;rw[CF]at Y;subst Y;refine .inl ⟨ok2 ei,by rw[Bd,r];lia,λp n=>?_⟩;exact q p bs _ ((P.trans v).trans<|Eh n) ((P.trans v).free n) A B (λh=>S.has p h n) D4 (S.same<|Eh n)
def PI.all(h:∀M H0,JI X tg iter (tI K M H0 f)):PI X tg iter (cP K f):=λa s b H R I ⟨M,H0,z⟩=>(h M H0).h a s b H R I z
def cR(own c:U Ae)(oix:U Nat)(S:G4 own c scope X.env.scope)(l:oix.map (λj=>X.N[j]?)=c.map Z)(n:X.calm=yB)(o:∀M H0,JI X tg iter (tI K M H0 f))(p:∀C d g i a m H',JG (DW X own c scope C d g i a) tg (tG K m H' ws b)) (q:∀C d g i a m H',JE (DW X own c scope C d g i a) elt (tF K m H' e)) (r:∀j∈ws,j<own.length) (t:∀x,FV iter X.env x=AH x:=by intro _;rfl):JE X (.ListComp elt [⟨tg,iter,[],0⟩] scope pos) (K0 K M H0 (Gm own.length oix f b e)):=⟨(Ti own c oix S l n (PI.all o) (λC d g i a=>PG.all λM H0=>(p C d g i a M H0).h) (λC d g i a=>Tg) (λC d g i a=>(λk s u H Q I ⟨M,H0,z⟩=>(q C d g i a M H0).h k s u H Q I z)) t).mono λ_ _ _ z=>cQ r z⟩
def qC(own c:U Ae)(oix:U Nat){i:Nat}{x:Ae}{d g:AQ}(S:G4 own c scope X.env.scope)(o:oix.map (λj=>X.N[j]?)=c.map Z)(t:X.calm=yB)(u:X.N.Nodup)(p:X.N[i]?=Z x)(v:X.env.scope.names.lookup x=Z .local) (w:∀M H0,JI X tg iter (tI K M H0 f)) (y:∀C k l m a q H',JG (DW X own c scope C k l m a) tg (tG K q H' ws b)) (A:∀C k l m a q H',JE (DW X own c scope C k l m a) elt (tF K q H' e)) (B:∀j∈ws,j<own.length) (r:DB (.ListComp elt [⟨tg,iter,[],0⟩] scope pos) (Z (.Name x d)) g.line X.env=AH yB:=by rfl) (E:∀x,FV iter X.env x=AH x:=by intro _;rfl):PS X (.Assign [.Name x d] (.ListComp elt [⟨tg,iter,[],0⟩] scope pos) g) (Kl (K0 K M H0 (Gm own.length oix f b e)) (Jn i)):=(OD own c oix S o t u p v (PI.all w) (λC k l m a=>PG.all λM H0=>(y C k l m a M H0).h) (λC k l m a=>Tg) (λC k l m a=>(λn s G H Q I ⟨M,H0,z⟩=>(A C k l m a M H0).h n s G H Q I z)) r E).mono λ_ _ _ z=>cQ B z
end
def M3(M:Fb)(a:Ac)(bs:U Ac):Fb:=λx=>M x\/x=a\/x∈bs
@[simp] def qD:Sl->Bool
  |.deep _ _=>yB
  |_=>yC
@[simp] def Hn(ρ:VE):Bool:=ρ.all λs=>!qD s
section
variable{K:Av}{M:Fb}{k:Nat}{bs:U Ac}
def A6.open3{E:Hp}(R:A6 K M H0 ρ σ H)(S:ρ[k]?=Z .no)(sm:Ai H E)(Y:H a=yA)(h2:∀b∈bs,H b=yA)(P:E a=Z (.lst (bs.map V.ref)))(Q:E2 K E zs bs):A6 K (M3 M a bs) H0 (ρ.set k (.deep zs)) (σ.set k (Z (.ref a))) E:=by
 have g:=(List.getElem?_eq_some_iff.mp S).1;have I:k<σ.length:=by rw[<- R.len];exact g
 have fresh:∀y,y=a\/y∈bs->H y=yA:=λy r=>by
  rcases r with rfl|r
  ·exact Y
  ·exact h2 y r
 have nf:∀y,Nf (M3 M a bs) (ρ.set k<|.deep zs) (σ.set k<|some<|.ref a) y->Nf M ρ σ y\/H y=yA:=by
  rintro y ((h|h)|⟨i,t,u,G,f,l⟩)
  ·exact .inl<|.inl h
  ·exact .inr<|fresh y h
  ·by_cases w:k=i
   ·subst w;rw[Dz g]at f;cases f
   ·rw[C1 w]at f l;exact .inl<|.inr ⟨i,t,u,G,f,l⟩
 refine⟨by rw[Kw,Kw];exact R.len,R.same.trans sm,λy r=>?_,λj s e=>?_,λi j t T u F G L c f l m p=>?_⟩
 ·rcases r with h|rfl|h
  ·exact λz=>R.mh y h<|sm.free z
  ·rw[P];exact λz=>nomatch z
  ·exact Q.has y h
 ·by_cases x:k=j
  ·subst x;rw[Dz g]at e;cases e;refine⟨a,bs,by rw[Dz I];rfl,λc z=>(nomatch z),.inr<|.inl rfl,.inl P,λb N=>.inr<|.inr N,Paired.mapP Q λ_ _ ⟨o,A,B⟩=>⟨o,.inl A,B _⟩⟩
  ·rw[C1 x]at e ⊢;have q:=R.slot j s e;cases s with
   |no=>trivial
   |val d=>obtain⟨v,n,h⟩:=q;exact⟨v,n,(h.nw nf).same sm⟩
   |own t u G=>
    obtain⟨c,o,n,f,l,m,p⟩:=q;refine⟨c,o,n,f,λz=>?_,sm _ _ m,(p.nw nf).same sm⟩;rcases z with z|z
    ·exact l z
    ·rw[fresh c z]at m;cases m
   |lent t u=>obtain⟨c,o,n,f,l,m⟩:=q;exact⟨c,o,n,⟨.inl f.1,f.2⟩,l.same sm,(m.nw nf).same sm⟩
   |exc c=>obtain⟨y,C,n,f,l⟩:=q;exact⟨y,C,n,f,sm _ _ l⟩
   |pin c=>exact q
   |deep T oa=>obtain⟨c,cs,n,z0,f,l,m,p⟩:=q;exact⟨c,cs,n,z0,.inl f,l.same sm,λb N=>.inl<|m b N,Paired.mapP p λ_ _ ⟨o,A,B⟩=>⟨o,A.same sm,(B.nw nf).same sm⟩⟩
 ·have A:¬ k=i:=λz=>by subst z;rw[Dz g]at f;cases f
  have B:¬ k=j:=λz=>by subst z;rw[Dz g]at l;cases l
  rw[C1 A]at f m;rw[C1 B]at l p;exact R.inj i j t T u F G L c f l m p
def A6.close3(R:A6 K (M3 M a bs) H0 ρ σ H)(u:k<ρ.length)(nd:Hn (ρ.set k .no)=yB)(fr:∀y,y=a\/y∈bs->H0 y=yA/\¬ M y)(N:∀y,y=a\/y∈bs->∃vs,H y=Z (.lst vs))(kp:∀c o,H c=Z o->¬ (c=a\/c∈bs)->t c=Z o):A6 K M H0 (ρ.set k .no) σ t:=by
 have P:∀c,Nf M (ρ.set k .no) σ c->Nf (M3 M a bs) ρ σ c:=by
  rintro c (h|⟨i,b,f,m,p,v⟩)
  ·exact .inl<|.inl h
  ·by_cases e:k=i
   ·subst e;simp[Dz u]at p
   ·rw[C1 e]at p;exact .inr ⟨i,b,f,m,p,v⟩
 have S:Step (λc=>M c) (Nf (M3 M a bs) ρ σ) (Nf M (ρ.set k .no) σ) H t:=⟨λc o e z=>by
  refine kp c o e λg=>?_;rcases z with z|z|z
  ·exact z<|.inl<|.inr g
  ·exact(fr c g).2 z
  ·obtain⟨vs,Q⟩:=N c g;rw[Q]at e;cases e;exact(nomatch z),λc h=>.inl<|P c h⟩
 refine⟨by rw[Kw];exact R.len,λc o e=>kp c o (R.same c o e) λg=>by rw[(fr c g).1]at e;exact(nomatch e),λc h z=>?_,λj s e=>?_,λi j b I f A m B c p v T W=>?_⟩
 ·cases e:H c with
  |none=>exact R.mh c (.inl h) e
  |some o=>rw[S.kp c o e<|.inr<|.inl h]at z;cases z
 ·by_cases F:k=j
  ·subst F;rw[Dz u]at e;cases e;trivial
  ·have Y:=e;rw[C1 F]at e;have q:=R.slot j s e;cases s with
   |no=>trivial
   |val d=>obtain⟨w,n,l⟩:=q;exact⟨w,n,Au.step S _ _ l⟩
   |own b f m=>obtain⟨c,E,n,l,r,G,h4⟩:=q;exact⟨c,E,n,l,λz=>r<|.inl z,kp _ _ G λg=>r<|.inr g,Ad.step S _ _ h4⟩
   |lent b f=>
    obtain⟨c,E,n,l,r,G⟩:=q;have L:M c:=l.1.elim id λg=>absurd (fr c g).1 l.2;exact⟨c,E,n,⟨L,l.2⟩,r.step S<|.inr<|.inl L,Ad.step S _ _ G⟩
   |exc c=>obtain⟨x,C,n,l,r⟩:=q;exact⟨x,C,n,l,S.kp _ _ r<|.inr<|.inr rfl⟩
   |pin c=>exact q
   |deep I oa=>
    have:=CK.mp nd _<|Ip Y;simp at this
 ·have w:∀{i b f m},(ρ.set k .no)[i]?=Z (Sl.own b f m)->ρ[i]?=Z (Sl.own b f m):=λ{i b f m} z=>by
   by_cases e:k=i
   ·subst e;rw[Dz u]at z;cases z
   ·rwa[C1 e]at z
  exact R.inj i j b I f A m B c (w p) (w v) T W
def A6.junk(R:A6 K M H0 ρ σ H)(d:ρ[k]?=Z .no)(sm:Ai H H'):A6 K M H0 ρ (σ.set k (Z v)) H'/\Step M (Nf M ρ σ) (Nf M ρ (σ.set k (Z v))) H H':=by
 have c:ρ.set k .no=ρ:=by
  apply HK;intro j;by_cases e:k=j
  ·subst e;rw[Dz (List.getElem?_eq_some_iff.mp d).1,d]
  ·rw[C1 e]
 have S:Step M (Nf M ρ σ) (Nf M (ρ.set k .no)<|σ.set k<|some v) H H':=⟨λa o e _=>sm a o e,λb g=>by
  rcases Ly R.len g with q|⟨f,_,_,e,_⟩
  ·exact .inl q
  ·cases e⟩
 have:=R.put S (R.same.trans sm) (λj a l f h _ _ _ _ e=>sm _ _ e) (λ_=>trivial) (λf h _ a j m i _ e=>nomatch e);rw[c]at this S;exact⟨this,S⟩
end
def Nl(K:Av)(F:U Sl->O (U (U D))):Sp:=λf H Q _=>∃N d e,(∀a,N a->H a≠yA)/\Br K N H d f/\F d=Z e /\
 ∀a bs c,Ai H c->H a=yA->(∀b∈bs,H b=yA)->bs.Nodup->a∉bs->c a=Z (.lst (bs.map V.ref))->E2 K c e bs->Q (.ref a) c
def Nm(a n:Nat)(f:VE->O (U (U D))):U Sl->O (U (U D)):=λb=>if b.length=a then f (b++Do (n-a) .no)else yA
def cT:U Ar->Expr
 |[.Return (Z e) _]=>e
 |_=>.Constant .none 0 ⟨0,0,0,0⟩
def qE:U Ar->AQ
 |[.Return (Z _) p]=>p
 |_=>⟨0,0,0,0⟩
def qF{P:A4}{w:Aj}{K:Av}{mg:Ae->O Aa}{base:Am}{x b:Ae}{st:Ar}{f:Ac}{fd:A2}{N e:U Ae}{k:Nat}{g m:VE->O (U (U D))}(F:Ix K x b st f fd)(S:Zw N e (Zk st)) (p:∀(c:Aa) (A:Ah) (outer:U Env) (s:Ab) (H:Hp) (E:XK) (M:Fb) (H0:Hp),AZ k (A.deeper (By b (Zk st) s.heap.objs.size f c))->JE (FY A3 P w K mg base N b (Zk st) f c A outer s H E).nox (cT (DV st)) (K0 K M H0 m)) (t:DV st=[.Return (Z (cT (DV st))) (qE (DV st))]:=by rfl) (u:m=g:=by rfl) (v:e.length<=N.length:=by ext):Aw P w K mg base A3 (k+1) f fd e (Nl K (Nm e.length N.length g)):=by
 subst u;refine F.ok S (λj H Q E h=>?_) (λc A outer s H j Q E y h=>?_)
 ·obtain⟨n,z,r,o,i,d,q⟩:=h;unfold Nm at d;split at d
  ·next l=>rw[<- i.length];exact l
  ·cases d
 ·obtain⟨n,z,B,o,i,d,q⟩:=h;rw[t];refine⟨_,F7 (Jm (p c A outer s H E n H y).h) BY,?_⟩;unfold Nm at d;split at d
  ·next l=>
   have C:FX N j=j.map Z++Do (N.length-e.length) yA:=by unfold FX;rw[<- i.length,l]
   rw[C];exact⟨_,B,ao o i<|N.length-e.length,d,λa bs G s I R L W T X=>q a bs G s I R L W T X⟩
  ·cases d
@[simp] def Ux(c m:Ae)(F:U Sl->O (U (U D)))(o:O Sl):O (U (U D)):=o.bind λs=>if FH c m s=yB then F [s]else yA
section
variable{K:Av}{M:Fb}{k kb:Nat}{e ec cnd o:Expr}{AJ:U Ar}{F:U Sl->O (U (U D))}{n:Nat}{fn:Ac}{fd:A2}{x xb c m:Ae}{E:XK}{p1 p3 p4 cp jp sp vp:AQ}{jk:Nat}
def qG(r:nsIn X.K De c=Z (Z (.ref C)))(cl:Fv X.K C)(t:Kp X.K C m fn)(G:Aw X.prog X.w X.K X.mg X.base CX n fn fd ps (Nl X.K F))(u:AZ n X.A)(g:Binds X.K fd ps [])(x:FW CX X E)(y:JE X o (Hb X.K M H0 fo)) (z:Ax (.Call (.Attribute o m apos) [] [] pos) X.env=(do
   let k <- Ax o X.env;standAt apos.atName;let(f,i) <- Fs [k] (getMethod k m pl);callWith pos f i (AL pos (AY [] X.env)) (Ga pos (Gb [] X.env))):=by rfl):JE X (.Call (.Attribute o m apos) [] [] pos) (K0 X.K M H0 λρ=>Ux c m F (fo ρ)):=⟨(Ox y.h cl t G u g .nil x z).mono λσ H Q B=>by
 obtain⟨ρ,zs,R,e,q⟩:=B;obtain⟨s,I,j⟩:=Option.bind_eq_some_iff.mp e;split at j
 ·next P=>
  refine⟨ρ,s,R,I,λv H1 d l=>?_⟩;obtain⟨a,L,N,S,p,T⟩:=cr P l;rw[KY r]at p;exact⟨a,L,N,S,p,T,Nf M ρ σ,[s],zs,(R.st d).nh,⟨v,[],rfl,l,rfl⟩,j,λa bs W Y z1 z2 z3 z4 z5 z6=>q a bs W (d.trans Y) (d.free z1) (λb g=>d.free<|z2 b g) z3 z4 z5 z6⟩
 ·cases j⟩
theorem Uy{N:Fb}(a:∀y,H y=yA->¬ N y):∀{zs:U (U D)}{bs:U Ac},(∀b∈bs,H b=yA)->E2 K H' zs bs->Ad K N H' (zs.map λz=>D.lst z) (bs.map V.ref)
 |_,_,_,.nil=>Ad.nil
 |_,_,h,.cons ⟨c,d,e⟩ t=>Ad.cons (by erw[Au];exact⟨_,c,rfl,.of (a _<|h _ A8) d,e _⟩)<|Uy a (λb f=>h b<|A9 _ f) t
def qH(h:JE X e (K0 K M H0 b)):JE X e (tD K M H0 λρ=>(b ρ).map λzs=>D.lst (zs.map λz=>D.lst z)):=⟨h.h.mono λσ H Q c=>by
 obtain⟨ρ,d,R,e,q⟩:=c;obtain⟨zs,f,rfl⟩:=Option.map_eq_some_iff.mp e;refine⟨ρ,zs,R,f,λa bs H' s g i m n j k=>q _ _ s ?_⟩;erw[Au];exact⟨a,bs.map V.ref,rfl,.of (R.fresh g) j,Uy (λy l=>R.fresh l) i k⟩⟩
@[simp] def Pu(k:Nat)(o:O (U (U D)))(t:VE->O Bool)(g:VE->An)(ρ:VE):An:=match ρ[k]?,o with
  |some .no,Z (z::zs)=>ZE (t (ρ.set k (.val (.lst ((z::zs).map λz=>D.lst z))))) (match g (ρ.set k (.val (.lst ((z::zs).map λz=>D.lst z))))with | .ret r=>.ret r|_=>.fail) (.next ρ)
  |_,_=>.fail
def qI{C:VE->O (U (U D))}{t:VE->O Bool}{g:VE->An}(hN:X.N.Nodup)(he:JE X ec (K0 X.K M H0 C))(hc:JT X cnd (BO X.K M H0 t))(hb:JB X body (tS X.K M H0 g))(hx:Kt (.Constant (.int 0) jk jp)) (E:X.N[k]?=Z x:=by rfl) (hl:autoParam (Loc X.env.scope x) yf) (hf:autoParam (X.fn x=yB\/X.env.scope.names.lookup x=Z .local) ya) (hv:autoParam (Kk X.env.scope x) yc) (hd:(x==("__debug__":Ae))=yC:=by ext) (m:(x==("__classdict__":Ae))=yC:=by ext) (n:DB ec (Z (.Name x p1)) p2.line X.env=AH yC:=by rfl) (hs:DB (.Call (.Attribute (.Subscript (.Name x vp) (.Constant (.int 0) jk jp) sp) "clear" apos) [] [] cp) yA pos.line X.env=AH yC:=by rfl) (d:Fw (.Subscript (.Name x vp) (.Constant (.int 0) jk jp) sp) "clear" X.env (Ax (.Subscript (.Name x vp) (.Constant (.int 0) jk jp) sp) X.env)=Ax (.Subscript (.Name x vp) (.Constant (.int 0) jk jp) sp) X.env:=by rfl) (f:(apos.endLine==cp.line)=yB:=by rfl):JB X [.Assign [.Name x p1] ec p2,.If cnd body [] p3,.Expr (.Call (.Attribute (.Subscript (.Name x vp) (.Constant (.int 0) jk jp) sp) "clear" apos) [] [] cp) pos] (tS X.K M H0 λρ=>Pu k (C ρ) t g ρ):=⟨(F7 (Lg hN E hl he.h n hf)<|F7 (Sv hc.h hb.h BY)<|F7 (Ik (OB Jz Ud Ue OC (SV SW (Mr E hv hd m) Ss hx) d f) hs) BY).mono λD' σ H z0=>by
   obtain⟨ρ,R,q⟩:=z0;try dsimp only at q
   unfold Pu at q;split at q
   ·next z zs G hz=>
    refine⟨ρ,z::zs,R,hz,λa bs H1 I z1 F z3 z4 L o=>?_⟩;have p:Au X.K (Nf M ρ σ) H1 (.lst<|(z::zs).map λz=>D.lst z) (.ref a):=by
     erw[Au];exact⟨a,bs.map V.ref,rfl,.of (R.fresh z1) L,Uy (λy hy=>R.fresh hy) F o⟩
    obtain⟨P,S1⟩:=R.setV (i:=k) I p;generalize hd0:D.lst ((z::zs).map λz=>D.lst z)=Q at *;cases s:t (ρ.set k<|.val Q)with
    |none=>rw[s]at q;exact Bo q
    |some T=>
     rw[s]at q;refine⟨_,T,P,s,λH2 j=>?_⟩;cases T with
     |true=>
      refine G7 ?_;refine⟨_,P.st j,?_⟩;erw[ZE]at q;cases S:g (ρ.set k<|.val Q)with
      |ret r=>rw[S]at q;exact q
      |_=>rw[S]at q;exact Bo q
     |false=>
      refine HI ?_;cases bs with|nil=>exact nomatch o|cons b bs=>
       cases o with
       |cons w ht'=>
        obtain⟨Y,l,_⟩:=w;have A:k<σ.length:=by rw[<- R.len];exact(List.getElem?_eq_some_iff.mp G).1
        have B:atI ((b::bs).map V.ref) ((0:Nat):Int)=Z (V.ref b):=C3 rfl;refine⟨.ref a,Dz A,.inl ⟨a,(b::bs).map V.ref,0,V.ref b,rfl,rfl,.inl<|.inl<|j _ _ L,B,.inl ⟨rfl,Y,.inl<|.inl<|j _ _ l⟩,b,Y,rfl,rfl,j _ _ l,?_⟩⟩;have sm:Ai H (AM H2 b<|.lst []):=λc u e=>by
         have:c≠b:=λz=>by rw[z,F b A8]at e;cases e
         rw[ZA this];exact j _ _<|I _ _ e
        obtain⟨R3,S3⟩:=R.junk (v:=.ref a) G sm;exact q _ _ R3 S3
   ·exact Bo q⟩
@[simp] def Pw(c:Ae)(k kb:Nat)(o:O (U (U D)))(fn:VE->O (U Ae×U D))(g:VE->An)(ρ:VE):An:=match ρ[k]?,o with
  |some .no,Z (z::zs)=>if Hn ρ=yB/\k≠kb/\kb<ρ.length then(match fn (ρ.set k (.deep (z::zs)))with
   |some r=>g (ρ.set kb (.own r.2 (.i r.1 c)))
   |none=>.fail)else .fail
  |_,_=>.fail
def qJ{fn:VE->O (U Ae×U D)}{g:VE->An}{b:D->VE->O VE}{f:VE->O (U D)}{F:Expr}(own l:U Ae)(oix:U Nat)(S:G4 own l scope X.env.scope)(hox:oix.map (λj=>X.N[j]?)=l.map Z)(hcl:X.calm=yB)(hN:X.N.Nodup)(hi:X.N[k]?=Z x)(hlx:X.env.scope.names.lookup x=Z .local) (hit:∀M H0,JI X tg iter (tI X.K M H0 f)) (hg:∀C u B fp m M' H',JG (DW X own l scope C u B fp m) tg (tG X.K M' H' ws b)) (hel:∀C u B fp m M' H',JE (DW X own l scope C u B fp m) F (tF X.K M' H' ee)) (d:∀j∈ws,j<own.length) (he:∀M,JE X ec (Uu X.K M H0 c fn)) (hr:JB X AJ (tS X.K M H0 g)) (hx:Kt (.Constant (.int 0) jk jp)) (hib:X.N[kb]?=Z xb:=by rfl) (hlb:autoParam (Loc X.env.scope xb) yf) (hfb:autoParam (X.fn xb=yB\/X.env.scope.names.lookup xb=Z .local) ya) (hv:autoParam (Kk X.env.scope x) yc) (hd:(x==("__debug__":Ae))=yC:=by ext) (hcd:(x==("__classdict__":Ae))=yC:=by ext) (hs2:DB ec (Z (.Name xb p2)) p3.line X.env=AH yC:=by rfl) (hsw:DB (.ListComp F [⟨tg,iter,[],0⟩] scope p4) (Z (.Name x p1)) sp.line X.env=AH yB:=by rfl) (hfs:∀x,FV iter X.env x=AH x:=by intro _;rfl) {n L P ep3 T W ep4 p:AQ} (hs:DB (.Call (.Attribute (.Subscript (.Name x vp) (.Constant (.int 0) jk jp) n) "clear" L) [] [] P) yA ep3.line X.env=AH yC:=by rfl) (Y:Fw (.Subscript (.Name x vp) (.Constant (.int 0) jk jp) n) "clear" X.env (Ax (.Subscript (.Name x vp) (.Constant (.int 0) jk jp) n) X.env)=Ax (.Subscript (.Name x vp) (.Constant (.int 0) jk jp) n) X.env:=by rfl) (hline:(L.endLine==P.line)=yB:=by rfl) (hs4:DB (.Call (.Attribute (.Name x p) "clear" T) [] [] W) yA ep4.line X.env=AH yC:=by rfl) (v:Fw (.Name x p) "clear" X.env (Ax (.Name x p) X.env)=Ax (.Name x p) X.env:=by rfl) (A:(T.endLine==W.line)=yB:=by rfl):JB X (.Assign [.Name x p1] (.ListComp F [⟨tg,iter,[],0⟩] scope p4) sp::.Assign [.Name xb p2] ec p3::.Expr (.Call (.Attribute (.Subscript (.Name x vp) (.Constant (.int 0) jk jp) n) "clear" L) [] [] P) ep3::.Expr (.Call (.Attribute (.Name x p) "clear" T) [] [] W) ep4::AJ) (tS X.K M H0 λρ=>Pw c k kb (Gm own.length oix f b ee ρ) fn g ρ):=⟨(F7 (qC own l oix S hox hcl hN hi hlx hit hg hel d hsw hfs) (F7 (Lg hN hib hlb (show PE X ec (λσ H Q=>∃M,Uu X.K M H0 c fn σ H Q)from λm s σ H Q I ⟨M,z⟩=>(he M).h m s σ H Q I z) hs2 hfb) (F7 (Ik (OB Jz Ud Ue OC (SV SW (Mr hi hv hd hcd) Ss hx) Y hline) hs) (F7 (Ik (OB Jz Ud Ue OC (Mr hi hv hd hcd) v A) hs4) hr.h)))).mono λD' σ H z0=>by
   obtain⟨ρ,R,q⟩:=z0
   try dsimp only at q
   unfold Pw at q
   split at q
   ·next z zs hk hz=>
    split at q
    ·next hc=>
     obtain⟨nd,nk,hbl⟩:=hc
     split at q
     ·next r hfn=>
      have hkl:k<ρ.length:=(List.getElem?_eq_some_iff.mp hk).1
      have hks:k<σ.length:=by rw[<- R.len];exact hkl
      refine⟨ρ,z::zs,R,hz,λa bs H1 s1 z1 z2 z3 z4 z5 z6=>?_⟩
      have R1:=R.open3 hk s1 z1 z2 z5 z6
      refine⟨M3 M a bs,_,r,R1,hfn,λy E B u y1 y2 y3=>?_⟩
      obtain⟨R2,S2⟩:=R1.setO (i:=kb) u y1 y2 y3
      cases bs with
      |nil=>exact nomatch z6
      |cons b bs=>
       have G:∀w,w=a\/w∈b::bs->∃E,B w=Z (.lst E):=λw d=>by
        rcases d with rfl|d
        ·exact⟨_,u _ _ z5⟩
        ·have:∀{zs:U (U D)} {bs:U Ac},E2 X.K H1 zs bs->∀w∈bs,∃E,H1 w=Z (.lst E):=by
          intro zs bs h
          induction h with
          |nil=>exact λw d=>nomatch d
          |cons h t ih=>
           intro w d
           rcases Bh.mp d with rfl|d
           ·obtain⟨E,h1,_⟩:=h;exact⟨E,h1⟩
           ·exact ih w d
         obtain⟨E,h1⟩:=this z6 w d
         exact⟨E,u _ _ h1⟩
       obtain⟨us,hus⟩:=G b (.inr A8)
       have hσ:((σ.set k (Z (.ref a))).set kb (Z (.ref y)))[k]?=Z (Z (V.ref a)):=by rw[C1 (CT nk)];exact Dz hks
       have hix:atI ((b::bs).map V.ref) ((0:Nat):Int)=Z (V.ref b):=C3 rfl
       have hab:a≠b:=λe=>z4 (e ▸ A8)
       have ha2:AM B b (.lst []) a=Z (.lst ((b::bs).map V.ref)):=by rw[ZA hab];exact u _ _ z5
       refine⟨.ref a,hσ,.inl ⟨a,(b::bs).map V.ref,0,V.ref b,rfl,rfl,.inl (.inl (u _ _ z5)),hix,.inl ⟨rfl,us,.inl (.inl hus)⟩,b,us,rfl,rfl,hus,?_⟩⟩
       refine⟨.ref a,hσ,.inl ⟨rfl,_,.inl (.inl ha2)⟩,a,_,rfl,rfl,ha2,?_⟩
       have kp:∀c o,B c=Z o->¬ (c=a\/c∈b::bs)->AM (AM B b (.lst [])) a (.lst []) c=Z o:=λc o e hn=>by
        have n1:c≠a:=λz=>hn (.inl z)
        have n2:c≠b:=λz=>hn (.inr (by rw[z];exact A8))
        rw[ZA n1,ZA n2];exact e
       have fre:∀w,w=a\/w∈b::bs->H w=yA:=λw d=>by
        rcases d with rfl|d
        ·exact z1
        ·exact z2 w d
       have eρ:((ρ.set k (.deep (z::zs))).set kb (.own r.2 (.i r.1 c))).set k .no=ρ.set kb (.own r.2 (.i r.1 c)):=by
        apply HK
        intro j
        by_cases e1:k=j
        ·subst e1;rw[Dz (by simpa using hkl),C1 (CT nk),hk]
        ·rw[C1 e1]
         by_cases e2:kb=j
         ·subst e2;rw[Dz (by simpa using hbl),Dz hbl]
         ·rw[C1 e2,C1 e1,C1 e2]
       have R4:=R2.close3 (k:=k) (by simpa using hkl) (by
        rw[eρ]
        refine CK.mpr λs hs=>?_
        rcases cU hs with h|h
        ·exact CK.mp nd s h
        ·rw[h];rfl) (λw d=>⟨R.same.free (fre w d),λhM=>R.mh w hM (fre w d)⟩) G kp
       rw[eρ]at R4
       refine⟨_,R4,Bg.from ⟨λc o e _=>kp c o (u _ _ (s1 _ _ e)) λhn=>by rw[fre c hn]at e;exact(nomatch e),λc h=>?_⟩ q⟩
       rcases h with h|⟨i,ys,fl,oo,w1,w2⟩
       ·exact .inl (.inl h)
       ·by_cases e2:kb=i
        ·subst e2
         rw[Dz (by simpa[R.len]using hbl)]at w2
         cases w2
         exact .inr (s1.free y1)
        ·rw[C1 e2]at w1 w2
         by_cases e1:k=i
         ·subst e1;rw[hk]at w1;cases w1
         ·rw[C1 e1]at w2;exact .inl (.inr ⟨i,ys,fl,oo,w1,w2⟩)
     ·exact Bo q
    ·exact Bo q
   ·exact Bo q⟩
end
open AutoSeq1 (wpAny_loadPart')
open PySem.MeetsSeq in
theorem qK(l:Ac)(items:Array Aa)(n:Nat)(x:Aa)(e:Aa->Bool)(j:Nat)(r:j<items.size)(p:e items[j]=yB)(f:items.size<=AB)(k:Nat):∀i:Nat,j-i=k->i<=j->(∀m (t:m<items.size),i<=m->m<j->e items[m]=yC)->Meets (Fd.«list.remove.loop» ⟨[.ref l,x,Be i],[]⟩) (λA R s=>s.heap.get? l=Z {cls:=.type "list",dict:=yA,data:=.seq items n,slots:=#[]}/\(∀y,y∈items->SeqAt.EqAt A.in1 s y x (e y))/\R (.ok (.ret .none)) {s with heap:=s.heap.update l (E8 λxs=>xs.eraseIdxIfInBounds j)}):=by
 induction k with
 |zero=>
  intro i z q a prog w A R s h;obtain⟨B,g,d,C,os⟩:=s;obtain⟨c,o,h⟩:=h;have E:i=j:=by lia
  subst E;wp_walk using EV c;rw[show items[((i:Nat):Int).toNat]?=Z items[i] by simp[r]];refine Al<|o _ (Array.getElem_mem r) prog w _ _ ?_;rw[p];have u:(items.eraseIdxIfInBounds i).size<=AB+1:=BX (size_erased items _)<|Nat.le_succ_of_le f;wp_walk using(wpAny_updateSeq c rfl (_hz':=u)),EV c;simpa using h
 |succ k G=>
  intro i z q a prog w A R s h;obtain⟨B,g,d,C,os⟩:=s;obtain⟨c,o,h⟩:=h;have b:i<items.size:=by lia
  wp_walk using EV c;rw[show items[((i:Nat):Int).toNat]?=Z items[i] by simp[b]];refine Al<|o _ (Array.getElem_mem b) prog w _ _ ?_;rw[a i b (Bl _) (by lia)];wp_walk;rw[show((i:Int)+1)=((i+1:Nat):Int) by push_cast;rfl];exact⟨Lo plain_remove_loop _,Ky entry_remove_loop (by
   rw[Kz plain_remove_loop _];exact G (i+1) (by lia) (by lia) (λm t I H=>a m t (by lia) H) prog w A R _ ⟨c,o,h⟩)⟩
open PySem.MeetsSeq in
theorem qL(l:Ac)(items:Array Aa)(n:Nat)(x:Aa)(e:Aa->Bool)(j:Nat)(k:j<items.size)(a:e items[j]=yB)(b:∀m (f:m<items.size),m<j->e items[m]=yC)(c:items.size<=AB):Meets (Fd.«list.remove» ⟨[.ref l,x],[]⟩) (λA R s=>s.heap.get? l=Z {cls:=.type "list",dict:=yA,data:=.seq items n,slots:=#[]}/\(∀y,y∈items->SeqAt.EqAt A.in1 s y x (e y))/\R (.ok (.ret .none)) {s with heap:=s.heap.update l (E8 λxs=>xs.eraseIdxIfInBounds j)}):=by
 intro prog w A R s h;obtain⟨q,g,d,r,os⟩:=s;obtain⟨i,o,h⟩:=h;wp_walk using EV i;exact⟨Lo plain_remove_loop _,Ky entry_remove_loop (by
  rw[Kz plain_remove_loop _];exact qK l items n x e j k a c _ 0 rfl (E7 _) (λm f _ p=>b m f p) prog w A R _ ⟨i,o,h⟩)⟩
def qM(K:Av):V->U V->Hp->VK->Prop:=λx c H Q=>∃l a y N d b j,x=.ref l/\c=[y]/\H l=Z (.lst a)/\Ad K N H b a/\AC K N H d y/\AT deep d=yB/\b.all (AT deep)=yB/\b.findIdx? (λz=>AE z d)=Z j/\Q .non (AM H l (.lst (a.eraseIdx j)))
section
variable{K:Av}{M:Fb}{e ei:Expr}{f fi:VE->O D}{vpos:AQ}{i:Nat}{x:Ae}
theorem qN(hu:X.A.units+64<AA):MA X "list.remove" (qM X.K):=by
 intro L s σ H x vs v us Q I S Y h;obtain⟨l,xs,y,N,d,M,j,rfl,rfl,R,hd,hy,od,c,hj,q⟩:=h;cases S;obtain⟨u,rfl,ru⟩:=Y.one;obtain⟨z,a,n,r,hl,e⟩:=I.lstM R;obtain⟨i,k,o⟩:=List.findIdx?_eq_some_iff_getElem.mp hj;have hln:=hd.length;have f:∀m (t:m<a.toArray.size) (b:m<M.length),EI X.K N H d a.toArray[m]=AE M[m] d:=λm t b=>by
  obtain⟨w,B,dw⟩:=hd.get (Dl b)
  obtain⟨w',C,E⟩:=r.get B
  have:a.toArray[m]=w':=by
   rw[List.getElem_toArray];exact(List.getElem?_eq_some_iff.mp C).2
  rw[this]
  exact TD I dw.p E (CK.mp c _ (IL b))
 have G:X.A.in1.units+deep<AA:=by rw[IK];unfold deep;lia
 have g:j<a.toArray.size:=by rw[Bx];lia
 refine BQ F.slot_list_remove ⟨_,e,rfl⟩ F.entry_list_remove (F.args_list_remove_2 _ _)
  (qL l a.toArray n u (EI X.K N H d) j g (by rw[f j g i];exact k) (λm t P=>by rw[f m t (by lia)];simpa using o m P) (by rw[Bx];lia)) ⟨e,λw B=>MY I G od hy ru hd r c w (by simpa using B),?_⟩
 refine⟨.non,_,I.lset (its':=a.eraseIdx j) R e ?_ (r.eraseIdx j) ?_,rfl,q⟩
 ·rw[List.eraseIdxIfInBounds_toArray]
 ·have:=Ta xs j
  lia
def Ad.erase(h:Ad K N H xs vs)(j:Nat):Ad K N H (xs.eraseIdx j) (vs.eraseIdx j):=by
 rw[List.eraseIdx_eq_take_drop_succ,List.eraseIdx_eq_take_drop_succ];exact(h.take j).append<|h.drop<|j+1
@[simp] def K1(i:Nat)(o:O D)(ρ:VE):An:=match ρ[i]?,o with
  |some (.own a .l b),Z d=>if AT deep d&&a.all (AT deep)then(match a.findIdx? (λz=>AE z d)with
   |some j=>.next (ρ.set i (.own (a.eraseIdx j) .l b))
   |none=>.fail)else .fail
  |_,_=>.fail
def cV(t:X.A.units+64<AA)(u:JE X e (tP X.K M H0 f))(w:NV X i x:=by exact CG) (y:DB (.Call (.Attribute (.Name x vpos) "remove" apos) [e] [] cpos) yA pos.line X.env=AH yC:=by rfl) (hz:BA X x vpos "remove" apos e cpos:=by exact OG):JS X (.Expr (.Call (.Attribute (.Name x vpos) "remove" apos) [e] [] cpos) pos) (tS X.K M H0 λρ=>K1 i (f ρ) ρ):=⟨(Ik (Iw Jz PySem.F.slot_list_remove PySem.F.type_list_remove (qN t) (Eg w) (Ee u.h Bm hz.s) hz.b hz.f hz.l hz.s hz.p) y).mono λI L H z=>by
   obtain⟨ρ,R,q⟩:=z;try dsimp only at q
   unfold K1 at q;split at q
   ·next k N d m B=>
    split at q
    ·next c=>
     rw[Dp]at c;split at q
     ·next j C=>
      obtain⟨a,g,E,P,Q,n,o⟩:=R.slot i _ m;have r:=Az E;refine⟨.ref a,r,.inl ⟨rfl,g,.inl<|.inl n⟩,ρ,d,R,B,λv T s G=>?_⟩;obtain⟨R2,S2⟩:=(R.st s).chg (fl2:=.l) (ys:=k.eraseIdx j) (ws:=g.eraseIdx j) m r ((o.same s).erase j);exact⟨a,g,v,_,d,k,j,rfl,rfl,s _ _ n,o.same s,G,c.1,c.2,C,q _ _ R2<|(Step.of_same s).trans S2⟩
     ·exact Bo q
    ·exact Bo q
   ·exact Bo q⟩
def Px(i:Nat)(fi:VE->O D)(ρ:VE):O (D×VE):=match ρ[i]?,fi ρ with
 |some (.own a .l b),Z (.int k)=>gd (0<=k/\k<a.length/\k<1000000000) ((a[k.toNat]?).map λd=>(d,ρ.set i (.own (a.eraseIdx k.toNat) .l b)))
 |_,_=>yA
theorem qO(y:JE X ei (tP X.K M H0 fi))(z:NV X i x:=by exact CG) (hz:BA X x vpos "pop" apos ei cpos:=by exact OG):JE X (.Call (.Attribute (.Name x vpos) "pop" apos) [ei] [] cpos) (tX X.K M H0 (Px i fi)):=⟨(Iw Jz PySem.F.slot_list_pop PySem.F.type_list_pop mV (Eg z) (Ee y.h Bm hz.s) hz.b hz.f hz.l hz.s hz.p).mono λT H Q A=>by
   obtain⟨B,d,C,R,ex,q⟩:=A;unfold Px at ex;split at ex
   ·next E Y k o G=>
    obtain⟨⟨r,h2,h3⟩,e⟩:=OM ex;obtain⟨d0,g,I⟩:=Option.map_eq_some_iff.mp e;cases I;obtain⟨a,c,P,z1,z2,t,j⟩:=R.slot i _ o;have u:=Az P;refine⟨.ref a,u,.inl ⟨rfl,c,.inl<|.inl t⟩,B,.int k,R,G,λv H1 s L=>?_⟩;have m:=L.int;subst m;obtain⟨w,N,S⟩:=(j.same s).get g;obtain⟨R2,S2⟩:=(R.st s).chg o u<|(j.same s).erase _;refine⟨a,c,k,k.toNat,w,rfl,rfl,s _ _ t,by lia,by lia,?_,N,q _ _ R2 ((Step.of_same s).trans S2)<|Au.step S2 _ _ S⟩;have hl:=j.length;have n:k<(c.length:Int):=by lia
    simp[seqIndex?,r,n,Int.not_lt.mpr r]
   ·cases ex⟩
end
end L2
namespace L2
open PySem PySem.Spec PyProof.Rows PySem.W
noncomputable def Uz(lo a:O Int)(st:Int)(n:Nat):U Nat:=sliceRange (E9 lo a (Z st) n).1 (E9 lo a (Z st) n).2.1 (E9 lo a (Z st) n).2.2
def EO{a:Type}(lo b:O Int)(st:Int)(xs:U a):U a:=(Uz lo b st xs.length).filterMap (xs[·]?)
theorem UA{xs:U V}{us:U Aa}(r:As xs us):∀l:U Nat,As (l.filterMap (xs[·]?)) (l.filterMap (us[·]?))
 |[]=>.nil
 |i::l=>by
  have d:=r.length;cases h:xs[i]? with
  |none=>
   have a:us[i]?=yA:=by rw[List.getElem?_eq_none_iff]at h ⊢;lia
   rw[UB h,UB a];exact UA r l
  |some v=>
   obtain⟨u,b,c⟩:=r.get h;rw[UC h,UC b];exact .cons c<|UA r l
theorem UD{K:Av}{N:Fb}{H:Hp}{xs:U D}{vs:U V}(r:Ad K N H xs vs):∀l:U Nat,Ad K N H (l.filterMap (xs[·]?)) (l.filterMap (vs[·]?))
 |[]=>Ad.nil
 |i::l=>by
  have d:=r.length;cases h:xs[i]? with
  |none=>
   have a:vs[i]?=yA:=by rw[List.getElem?_eq_none_iff]at h ⊢;lia
   rw[UB h,UB a];exact UD r l
  |some v=>
   obtain⟨u,b,c⟩:=r.get h;rw[UC h,UC b];exact Ad.cons c<|UD r l
@[simp] def Py(f:VE->O D)(lo b:VE->O (O Int))(c:VE->O D):VE->O (U D):=λa=>match f a,lo a,b a,c a with
  |some (.lst d),Z l,Z h,Z (.int s)=>if s=0 then yA else Z (EO l h s d)
  |_,_,_,_=>yA
section
variable{M:Fb}{e es:Expr}{el eh:O Expr}{f fs:VE->O D}{hi:VE->O (O Int)}
theorem qP(he:JE X e (tP X.K M H0 f))(hl:JO X el (tO X.K M H0 lo))(hu:JO X eh (tO X.K M H0 hi))(hs:JE X es (tP X.K M H0 fs)):JE X (.Subscript e (.Slice el eh (Z es) p2) pos) (tF X.K M H0 (Py f lo hi fs)):=⟨by
 intro c s m H Q I ⟨t,zs,R,ex,q⟩;unfold Py at ex;split at ex
 ·next xs l h st hf E G F=>
  split at ex
  ·cases ex
  ·next h0=>
   cases ex;refine Subscript_<|A1 (he.h c s m H (λx n=>Ai H n/\AC X.K (Nf M t m) n (.lst xs) x) I ⟨t,_,R,hf,λv n L N=>⟨L,N⟩⟩) λv L ⟨x,n,I1,r1,g,a,P,ex,hq,hd⟩=>?_;subst ex;cases r1;refine wpAny_Slice<|A1 (hl.h c L m n (λo y=>o=l/\Ai n y) I1 ⟨t,l,R.st g,E,λy T=>⟨rfl,T⟩⟩) λvl T ⟨i,y,I2,pl,el,p⟩=>A1 (hu.h c T m y (λo z=>o=h/\Ai y z) I2 ⟨t,h,R.st<|g.trans p,G,λz S=>⟨rfl,S⟩⟩) λvu S ⟨j,z,I3,pu,eh,B⟩=>?_;subst el eh;rw[evalPart_some];refine A1 (hs.h c S m z (λx u=>Ai z u/\x=.int st) I3 ⟨t,_,R.st<|(g.trans p).trans B,F,λv u k N=>⟨k,N.int⟩⟩) λvk k ⟨x,u,I4,r4,Y,ex⟩=>?_;subst ex;obtain⟨tk,rfl⟩:=r4;have sm:=(p.trans B).trans Y;have C:Inv X c m u {k with heap:=k.heap.push {cls:=.type "slice",data:=.fields #[vl,vu,.int st tk]} }:=I4.kept (t':=k.toks) λb ob q=>BG _ q;show wpAny (Ag X.prog X.w) X.A (subscriptTail e (.Slice _ _ (Z es) p2) (.ref a)<|.ref k.heap.objs.size) (EP X c m Q) X.xe _
   generalize hs5:({k with heap:=k.heap.push {cls:=.type "slice",data:=.fields #[vl,vu,.int st tk]} }:Ab)=s5 at C;obtain⟨d,r,ht,hz⟩:=C.list<|sm.seq hq;have hln:=r.length;refine tail_any (ops:=[.ref a,.ref k.heap.objs.size]) ht.isList.typeIs slot_list_getitem.lookup ?_ (by with_unfolding_all rfl);refine wpAny_getItem_list_slice (st:=Z st) ht.isList (by rw[<- hs5];exact Heap.IsSliceOf.new ..) pl pu (.int st tk) (by simpa using h0) ?_ (by rw[Bx]<;>lia);have ep:slicePick d.toArray i j (Z st)=(EO i j st d).toArray:=by
    unfold slicePick EO Uz;erw[Bx,List.getElem?_toArray]
   have hzz:(EO i j st d).length<=d.length:=by
    have:=slicePick_size_le d.toArray i j<|some st;rw[ep]at this;simpa using this
   have rv:As (EO i j st P) (EO i j st d):=by unfold EO;rw[hln];exact UA r _
   have hlv:=rv.length;rw[ep];refine⟨.ref s5.heap.objs.size,_,C.laid (t':=s5.toks) (o:=.lst<|EO i j st P) (λb ob q=>BG _ q) (Bl _) ⟨by lia,_,0,rv,Cm _ rfl⟩,rfl,?_⟩;have fr:=C.hok.fresh<|Bl s5.heap.objs.size;have dl:Ad X.K (Nf M t m) u (EO i j st xs) (EO i j st P):=by
    have d4:=hd.same sm;unfold EO;rw[d4.length];exact UD d4 _
   exact Lx (fl:=.l) (g.trans sm) fr dl q
 ·cases ex⟩
end
end L2
namespace L2
open PySem PySem.Spec PyProof.Rows
def Cf(a:Ac)(o:AK)(u:HO)(H:Hp):Hp:=λb=>@ite _ (b=a/\H b=Z u) (HM _) (Z (.frz o u)) (H b)
def Gn(a:Ac)(o:AK)(u:HO)(H:Hp):Hp:=λb=>@ite _ (b=a/\H b=Z (.frz o u)) (HM _) (Z u) (H b)
section
variable{u:HO}{b:Ac}{v:HO}
def IZ(h:H a=Z u):Cf a o u H a=Z (.frz o u):=if_pos ⟨rfl,h⟩
def FJ(h:¬ (b=a/\H b=Z u)):Cf a o u H b=H b:=if_neg h
def K2(h:H a=Z (.frz o u)):Gn a o u H a=Z u:=if_pos ⟨rfl,h⟩
def J1(h:¬ (b=a/\H b=Z (.frz o u))):Gn a o u H b=H b:=if_neg h
def BZ:Cf a o u H b=yA↔H b=yA:=by
 by_cases h:b=a/\H b=Z u
 ·obtain⟨rfl,h⟩:=h;rw[IZ h,h];exact⟨λz=>(nomatch z),λz=>(nomatch z)⟩
 ·rw[FJ h]
def Ho:Gn a o u H b=yA↔H b=yA:=by
 by_cases h:b=a/\H b=Z (.frz o u)
 ·obtain⟨rfl,h⟩:=h;rw[K2 h,h];exact⟨λz=>(nomatch z),λz=>(nomatch z)⟩
 ·rw[J1 h]
def cX(h:H b=Z v)(c:FZ v=yC)(d:FZ u=yB):Cf a o u H b=Z v:=by
 rw[FJ,h];rintro⟨_,z⟩;rw[h]at z;cases z;simp[d]at c
def Nn(h:H b=Z v)(c:∀o u,v≠.frz o u):Gn a o u H b=Z v:=by
 rw[J1,h];rintro⟨_,z⟩;rw[h]at z;cases z;exact c _ _ rfl
def Rd.fz(c:FZ u=yB)(h:Rd H b v):Rd (Cf a o u H) b v:=by
 rcases h with h|⟨d,h⟩
 ·by_cases z:b=a/\H b=Z u
  ·obtain⟨rfl,z⟩:=z;rw[h]at z;cases z;exact .inr ⟨o,IZ h⟩
  ·exact .inl (by rw[FJ z];exact h)
 ·exact .inr ⟨d,cX h rfl c⟩
def Rd.ufz(c:∀o u,v≠.frz o u)(h:Rd H b v):Rd (Gn a o u H) b v:=by
 rcases h with h|⟨d,h⟩
 ·exact .inl<|Nn h c
 ·by_cases z:b=a/\H b=Z (.frz o u)
  ·obtain⟨rfl,z⟩:=z;rw[h]at z;cases z;exact .inl<|K2 h
  ·exact .inr ⟨d,by rw[J1 z];exact h⟩
def Ai.fz(f:FZ u=yB)(s:Ai H0 H)(b:∀w,H0 a=Z w->H a=Z u->w=u):Ai (Cf a o u H0) (Cf a o u H):=by
 intro c w e;by_cases z:c=a/\H0 c=Z u
 ·obtain⟨rfl,z⟩:=z;rw[IZ z]at e;cases e;exact IZ<|s _ _ z
 ·rw[FJ z]at e;have q:=s _ _ e;rw[FJ]
  ·exact q
  ·rintro⟨rfl,d⟩;exact z ⟨rfl,by rw[e,b w e d]⟩
end
mutual
theorem Au.rd{K:Av}{N:Fb}{H H':Hp}(k:∀b v,(∀o u,v≠HO.frz o u)->Rd H b v->Rd H' b v):∀(d:D)(v:V),Au K N H d v->Au K N H' d v
 |.non,_,h=>h
 |.bl _,_,h=>h
 |.int _,_,h=>h
 |.str _,_,h=>h
 |.ty _,_,h=>h
 |.tup f,v,h=>by
  erw[Au]at h ⊢
  obtain⟨a,c,e,q,r⟩:=h
  refine⟨a,c,e,?_,Ad.rd k f c r⟩
  rcases q with q|q
  ·exact .inl (k _ _ (λ_ _ z=>nomatch z) q)
  ·exact .inr q
 |.lst f g,v,h=>by
  erw[Au]at h ⊢
  obtain⟨a,c,e,q,r⟩:=h
  refine⟨a,c,e,?_,Ad.rd k f c r⟩
  rcases q with⟨n,q⟩|q
  ·exact .inl ⟨n,k _ _ (λ_ _ z=>by cases g<;>cases z) q⟩
  ·exact .inr q
theorem Ad.rd{K:Av}{N:Fb}{H H':Hp}(k:∀b v,(∀o u,v≠HO.frz o u)->Rd H b v->Rd H' b v):∀(xs:U D)(vs:U V),Ad K N H xs vs->Ad K N H' xs vs
 |[],_,h=>h
 |x::xs,vs,h=>by
  erw[Ad]at h ⊢
  obtain⟨v,r,e,q,t⟩:=h
  exact⟨v,r,e,Au.rd k x v q,Ad.rd k xs r t⟩
end
def No(K:Av)(b:Kd)(a:Ac)(xs:U D)(vs:U V):∀o u,CO K b a xs vs≠HO.frz o u:=λ_ _ z=>by cases b<;>cases z
section
variable{K:Av}{M N N':Fb}{u:HO}
def A6.fz(p:FZ u=yB)(R:A6 K M H0 ρ σ H)(B:H a=Z u)(r:∀(i:Nat)(xs:U D)(b:Kd)(s:O Ac),ρ[i]?=Z (Sl.own xs b s)->σ[i]?≠Z (Z (V.ref a))):A6 K M (Cf a o u H0) ρ σ (Cf a o u H) where
 len:=R.len;same:=R.same.fz p λw e _=>by have:=R.same _ _ e;rw[B]at this;cases this;rfl
 mh:=λc h z=>R.mh c h<|BZ.mp z;slot:=λi y e=>by
  have q:=R.slot i y e;have j:∀b v,(∀o u,v≠HO.frz o u)->Rd H b v->Rd (Cf a o u H) b v:=λb v _ h=>Rd.fz p h;cases y with
  |no=>trivial
  |val d=>obtain⟨v,e,h⟩:=q;exact⟨v,e,Au.rd j d v h⟩
  |own xs A s=>
   obtain⟨c,k,f,g,l,m,n⟩:=q;refine⟨c,k,f,⟨BZ.mpr g.1,g.2⟩,l,?_,Ad.rd j xs k n⟩;rw[FJ,m];rintro⟨rfl,_⟩;cases t:σ[i]? with
   |none=>simp[t]at f
   |some w=>rw[t]at f;exact r i xs A s e (by rw[t];exact congrArg Z f)
  |lent xs A=>obtain⟨c,k,f,⟨g,l⟩,m,n⟩:=q;exact⟨c,k,f,⟨g,λz=>l<|BZ.mp z⟩,j _ _ (No _ _ _ _ _) m,Ad.rd j xs k n⟩
  |exc c=>obtain⟨x,C,f,g,l⟩:=q;exact⟨x,C,f,g,cX l rfl p⟩
  |pin c=>exact q
  |deep F L=>obtain⟨c,bs,f,E,g,l,m,n⟩:=q;exact⟨c,bs,f,E,g,j _ _ (λ_ _ z=>nomatch z) l,m,Paired.mapP n λ_ _ ⟨k,G,I⟩=>⟨k,j _ _ (λ_ _ z=>nomatch z) G,Ad.rd j _ _ I⟩⟩
 inj:=R.inj
def A6.ufz(R:A6 K M (Cf a o u H0) ρ σ H')(t:H' a=Z (.frz o u))(p:∀w,H0 a=Z w->w=u):A6 K M H0 ρ σ (Gn a o u H') where
 len:=R.len;same:=λc w e=>by
  by_cases z:c=a
  ·subst z;have:=p w e;subst this;exact K2 t
  ·have f:=R.same c w (by rw[FJ λy=>z y.1];exact e);rw[J1 λy=>z y.1];exact f
 mh:=λc h z=>R.mh c h<|Ho.mp z;slot:=λi s e=>by
  have q:=R.slot i s e;have g:∀b v,(∀o u,v≠HO.frz o u)->Rd H' b v->Rd (Gn a o u H') b v:=λb v A h=>Rd.ufz A h;cases s with
  |no=>trivial
  |val d=>obtain⟨v,e,h⟩:=q;exact⟨v,e,Au.rd g d v h⟩
  |own r B H=>obtain⟨c,j,k,f,l,m,n⟩:=q;exact⟨c,j,k,⟨BZ.mp f.1,f.2⟩,l,Nn m<|No _ _ _ _ _,Ad.rd g r j n⟩
  |lent r B=>obtain⟨c,j,k,⟨f,l⟩,m,n⟩:=q;exact⟨c,j,k,⟨f,λz=>l<|BZ.mpr z⟩,g _ _ (No _ _ _ _ _) m,Ad.rd g r j n⟩
  |exc c=>obtain⟨x,C,k,f,l⟩:=q;exact⟨x,C,k,f,Nn l λ_ _ z=>nomatch z⟩
  |pin c=>exact q
  |deep I F=>obtain⟨c,bs,k,p,f,l,m,n⟩:=q;exact⟨c,bs,k,p,f,g _ _ (λ_ _ z=>nomatch z) l,m,Paired.mapP n λ_ _ ⟨j,E,G⟩=>⟨j,g _ _ (λ_ _ z=>nomatch z) E,Ad.rd g _ _ G⟩⟩
 inj:=R.inj
def Step.ufz(s:Step M N N' (Cf a o u H) H')(b:H a=Z u):Step M N N' H (Gn a o u H')/\H' a=Z (.frz o u):=by
 have d:=s.kp a _ (IZ b)<|.inr<|.inr rfl;refine⟨⟨λc w e z=>?_,λc n=>(s.nw c n).imp id BZ.mp⟩,d⟩;by_cases y:c=a
 ·subst y;rw[b]at e;cases e;exact K2 d
 ·have:=s.kp c w (by rw[FJ λx=>y x.1];exact e) z;rw[J1 λx=>y x.1];exact this
def D8.ufz{r:Rv}{v:V}(h:D8 K M (Cf a o u H0) H' r v):D8 K M H0 (Gn a o u H') r v:=by
 have f:∀b v,(∀o u,v≠HO.frz o u)->Rd H' b v->Rd (Gn a o u H') b v:=λb v i h=>Rd.ufz i h;cases r with
 |val d=>exact Au.rd f d v h
 |own j n=>obtain⟨c,g,e,k,l,m⟩:=h;exact⟨c,g,e,BZ.mp k,Nn l<|No _ _ _ _ _,Ad.rd f j g m⟩
end
section
variable{s:Ab}{u:HO}
def Cz.swap{u u':HO}(x:Cz P w H h)(f:H a=Z u)(i:∀y,u≠.own y)(j:∀xs,u≠.tup xs)(ne:∀b,b≠a->H' b=H b)(d:H' a=Z u')(new:Bc P w H' h a u'):Cz P w H' h:=λb v e=>by
 by_cases g:b=a
 ·subst g;rw[d]at e;cases e;exact new
 ·rw[ne b g]at e;refine(x b v e).stay (λc v _ q=>q) (λc q=>?_) λc xs q=>?_
  ·rw[ne c λz=>by rw[z,f]at q;cases q;exact i _ rfl];exact q
  ·rw[ne c λz=>by rw[z,f]at q;cases q;exact j _ rfl];exact q
def UE(a:FZ u=yB):(∀y,u≠.own y)/\(∀xs,u≠.tup xs)/\(∀o v,u≠.frz o v)/\∀b,u≠.tbl b:=by
 refine⟨λ_ z=>?_,λ_ z=>?_,λ_ _ z=>?_,λ_ z=>?_⟩<;>rw[z]at a<;>cases a
def Inv.plain(I:Inv X pins σ H s)(b:H a=Z u)(d:FZ u=yB):(∀xs,X.H₀ a≠Z (.tup xs))/\(∀o v,X.H₀ a≠Z (.frz o v))/\∀c,X.H₀ a≠Z (.tbl c):=by
 obtain⟨_,e,f,g⟩:=UE d;refine⟨λxs z=>?_,λo v z=>?_,λc z=>?_⟩
 ·have:=I.base.tups a xs z;rw[b]at this;cases this;exact e _ rfl
 ·have:=I.base.frzs a o v z;rw[b]at this;cases this;exact f _ _ rfl
 ·obtain⟨_,this⟩:=I.base.tbls a c z;rw[b]at this;cases this;exact g _ rfl
def Inv.swap{u u':HO}(I:Inv X pins σ H s)(d:H a=Z u)(i:∀y,u≠.own y)(j:∀xs,u≠.tup xs)(pl:(∀xs,X.H₀ a≠Z (.tup xs))/\(∀o v,X.H₀ a≠Z (.frz o v))/\∀f,X.H₀ a≠Z (.tbl f))(ne:∀b,b≠a->H' b=H b)(g:H' a=Z u')(new:Bc X.prog X.w H' s.heap a u'):Inv X pins σ H' s where
 ok:=I.ok;os:=I.os;bare:=I.bare;base:=⟨I.base.keep,I.base.slot,λb o e n k=>by
   have:=I.base.free b o e n k;rw[ne b λz=>by rw[z,d]at this;cases this];exact this,I.base.there,
  λb xs e=>by rw[ne b λz=>pl.1 xs<|z ▸ e];exact I.base.tups b xs e,λb o v e=>by rw[ne b λz=>pl.2.1 o v<|z ▸ e];exact I.base.frzs b o v e,λb f e=>by rw[ne b λz=>pl.2.2 f<|z ▸ e];exact I.base.tbls b f e⟩
 loc:=I.loc;cell:=I.cell;free:=by rw[ne _ λz=>by have:=I.free;rw[z,d]at this;cases this];exact I.free
 freeC:=λx c e=>by
  have:=I.freeC x c e;rw[ne c λz=>by rw[z,d]at this;cases this];exact this
 pin:=λp l=>by
  obtain⟨p1,h,m⟩:=I.pin p l;exact⟨p1,by rw[ne _ λz=>by rw[z,d]at h;cases h];exact h,m⟩
 hok:=I.hok.swap d i j ne g new;len:=I.len
def Inv.fz(e:FZ u=yB)(I:Inv X pins σ H s)(d:H a=Z u)(h:s.heap.get? a=Z o):Inv X pins σ (Cf a o u H) s:=by
 obtain⟨f,g,j,k⟩:=UE e;have ne:∀b,b≠a->Cf a o u H b=H b:=λb i=>FJ λz=>i z.1;refine I.swap d f g (I.plain d e) ne (IZ d) ⟨h,(I.hok a u d).stay (λ_ _ _ q=>q) (λc q=>?_) λc l q=>?_⟩
 ·rw[ne c λz=>by rw[z,d]at q;cases q;exact f _ rfl];exact q
 ·rw[ne c λz=>by rw[z,d]at q;cases q;exact g _ rfl];exact q
def Inv.ufz(I:Inv X pins σ H s)(d:H a=Z (.frz o u))(pl:(∀xs,X.H₀ a≠Z (.tup xs))/\(∀o v,X.H₀ a≠Z (.frz o v))/\∀e,X.H₀ a≠Z (.tbl e)):Inv X pins σ (Gn a o u H) s:=by
 have ne:∀b,b≠a->Gn a o u H b=H b:=λb f=>J1 λz=>f z.1;refine I.swap d (λ_ z=>nomatch z) (λ_ z=>nomatch z) pl ne (K2 d) ((I.hok a _ d).2.stay (λ_ _ _ q=>q) (λc q=>?_) λc xs q=>?_)
 ·rw[ne c λz=>by rw[z,d]at q;cases q];exact q
 ·rw[ne c λz=>by rw[z,d]at q;cases q];exact q
end
open PySem.W
def K3(a:Ac)(o:AK)(u:HO)(b:U V):It:=⟨λi H=>H a=Z (.frz o u)/\i<b.length,λi H x c=>c=H/\b[i]?=Z x,λi H=>H a=Z (.frz o u)/\b.length<=i⟩
theorem qQ{K:Av}{it:Ac}{u:HO}{es:Array Ih}{ep:Nat}{R:U V}(Q:o.ExactDict)(T:o.data=.dict es ep)(q:As R (es.toList.map λe=>e.key)):HB P w K tg (K3 a o u R) [it] it (λi h=>h.IsKeyIter it a i es.size ep) where
 mem:=by simp
 obj:=λi h st b j=>by
  have e:b=it:=by simpa using j
  subst e;obtain⟨o,e,c,d⟩:=st;exact⟨o,e,λv z=>by rw[d]at z;cases z⟩
 keep:=λi h n st k=>st.at λo e=>k it (by simp) o e;item:=by
  intro X r t x S i g s Y H E I p st y;subst r t x;obtain⟨A,B⟩:=y;have l:DE s.heap a es ep:=⟨o,(I.hok a _ A).1,Q,T⟩;have f:=q.length;simp at f;obtain⟨k,hk,rk⟩:=q.get<|Dl B;have hi:i<es.size:=by lia
  have C:es[i].key=k:=by simpa[hi]using hk
  obtain⟨G,F,f2,L,M,N⟩:=p it (by simp);refine ca st l hi λn m sb=>?_;have I1:=I.turned (t':=s.toks) (λb o j e=>(sb.2 b j).trans e) G F L M N;obtain⟨o',e,c,d⟩:=id m;exact⟨_,rfl,Lh e c d (by ext) ⟨_,H,I1,by rw[C];exact rk,⟨rfl,Dl B⟩,m,λb j=>(p b j).1⟩⟩
 done:=by
  intro X r t x S i g s Y H E I p st y;subst r t x;obtain⟨A,B⟩:=y;have l:DE s.heap a es ep:=⟨o,(I.hok a _ A).1,Q,T⟩;have f:=q.length;simp at f;obtain⟨G,F,f2,L,M,N⟩:=p it (by simp);exact cc (I.ok.hd S) st l (by lia) λn eb=>⟨rfl,I.turned (t':=s.toks) (λb o j e=>eb b o j e) G F L M N⟩
 self:=λ_ _ _ _ _ st h=>wpAny_pyIter_keyiter st h
abbrev Di(a:U T3):HO:=.dct (a.map (·.1)) (DZ a)
section
variable{l:Expr}
def cY(K:Av)(d:TE):TI:=λe H R=>d e H λx c=>∃a b,x=.ref a/\B8 K c a b/\∀o,(Cf a o (Di b) c) a=Z (.frz o (Di b))->R (K3 a o (Di b) (b.map λt=>t.2.1)) (Cf a o (Di b) c)
def UF(u:PE X l n):PI X tg l (cY X.K n):=by
 intro c s p H R I h;refine A1 (u c s p H _ I h) λv f ⟨x,g,i,w,q1⟩=>?_;obtain⟨a,j,rfl,hd,q⟩:=q1;cases w;obtain⟨z,A,nd,o,F,L,k,r,t,B⟩:=hd.1.ok i.hok;have C:=Uj B;obtain⟨m,E⟩:Inv X c p (Cf a o (Di j) g) f/\(Cf a o (Di j) g) a=Z (.frz o<|Di j):=by
  rcases hd.1 with d|⟨M,d⟩
  ·exact⟨i.fz rfl d k,IZ d⟩
  ·have:=(i.hok a _ d).1;rw[k]at this;cases this;have:Cf a o (Di j) g=g:=funext λb=>FJ (by rintro⟨rfl,y⟩;rw[d]at y;cases y);rw[this];exact⟨i,d⟩
 refine b9 A ⟨o,k,r,t⟩ ?_;refine⟨f.heap.objs.size,[f.heap.objs.size],_,_,_,rfl,m.kept (t':=f.toks) λb o e=>BG _ e,qQ r t C,⟨_,Cm _ rfl,rfl,rfl⟩,λb G=>?_,q o E⟩;have e:b=f.heap.objs.size:=by simpa using G
 subst e;exact m.fpOk (Bl _)<|m.hok.fresh<|Bl _
end
def Cv(X:Cx)(Q:Hp->Prop)(H':Hp):Prop:=Q H'\/∃a o u,((∀b,X.H₀ a≠Z (.tup b))/\(∀o v,X.H₀ a≠Z (.frz o v))/\∀c,X.H₀ a≠Z (.tbl c))/\H' a=Z (.frz o u)/\Q (Gn a o u H')
def Ends.cv(X:Cx)(D:Ends):Ends:={nx:=λa=>Cv X (D.nx a),rt:=λv=>Cv X (D.rt v),bk:=λa=>Cv X (D.bk a),ct:=λa=>Cv X (D.ct a)}
def SP.cv{c:U (Ac×AK)}{D:Ends}{f:Flow}{s:Ab}(h:SP X c (D.cv X) f s):SP X c D f s:=by
 have k:∀{i:St} {H:Hp} {Q:Hp->Prop},Inv X c i H s->Cv X Q H->∃g,Inv X c i g s/\Q g:=λI q=>by
  rcases q with q|⟨a,o,u,j,l,q⟩
  ·exact⟨_,I,q⟩
  ·exact⟨_,I.ufz l j,q⟩
 cases f with
 |next=>obtain⟨b,g,I,q⟩:=h;obtain⟨d,e,q2⟩:=k I q;exact⟨b,d,e,q2⟩
 |brk=>obtain⟨b,g,I,q⟩:=h;obtain⟨d,e,q2⟩:=k I q;exact⟨b,d,e,q2⟩
 |cont=>obtain⟨b,g,I,q⟩:=h;obtain⟨d,e,q2⟩:=k I q;exact⟨b,d,e,q2⟩
 |ret u=>obtain⟨v,b,g,I,r,q⟩:=h;obtain⟨d,e,q2⟩:=k I q;exact⟨v,b,d,e,r,q2⟩
section
variable{K:Av}{M:Fb}{D:Ends}{r:An}{u:HO}
def Bg.cv(h:Bg K M H0 ρ σ H D r):Bg K M H0 ρ σ H (D.cv X) r:=by
 cases r with
 |fail=>exact h
 |next c=>exact λa b R S=>.inl<|h a b R S
 |brk c=>exact λa b R S=>.inl<|h a b R S
 |cont c=>exact λa b R S=>.inl<|h a b R S
 |ret r=>exact λv b s q=>.inl<|h v b s q
def Bg.fz(m:FZ u=yB)(h:Bg K M H0 ρ σ H D r)(i:H a=Z u)(j:∀w,H0 a=Z w->w=u)(pl:(∀xs,X.H₀ a≠Z (.tup xs))/\(∀o v,X.H₀ a≠Z (.frz o v))/\∀k,X.H₀ a≠Z (.tbl k)):Bg K M (Cf a o u H0) ρ σ (Cf a o u H) (D.cv X) r:=by
 have nx:∀(c:VE) (Q:St->Hp->Prop),He K M H0 ρ σ H c Q->He K M (Cf a o u H0) ρ σ (Cf a o u H) c (λσ=>Cv X<|Q σ):=λc Q h f g R S=>by
  obtain⟨l,d⟩:=S.ufz i;exact .inr ⟨a,o,u,pl,d,h f _ (R.ufz d j) l⟩
 cases r with
 |fail=>exact h
 |next c=>exact nx _ _ h
 |brk c=>exact nx _ _ h
 |cont c=>exact nx _ _ h
 |ret r=>
  intro v g s q;by_cases z:H0 a=Z u
  ·have d:=s a _<|IZ z;refine .inr ⟨a,o,u,pl,d,h v _ (λb w e=>?_) (D8.ufz q)⟩;by_cases y:b=a
   ·subst y;rw[z]at e;cases e;exact K2 d
   ·rw[J1 λx=>y x.1];exact s b w (by rw[FJ λx=>y x.1];exact e)
  ·have e:Cf a o u H0=H0:=funext λb=>FJ (by rintro⟨rfl,y⟩;exact z y);rw[e]at s q;exact .inl<|h v g s q
end
def EQ(d:D):O (U D):=match d with
 |.lst b .d=>(DO b).map λa=>a.map λp=>kD p.1
 |_=>yA
def Au.at_any{K:Av}{a:At}(h:Au K N H (aD a) v):Au K b H (aD a) v:=by cases a<;>exact h
theorem Ad.at_any{K:Av}{N b:Fb}{H:Hp}:∀{l:U At}{vs:U V},Ad K N H (l.map aD) vs->Ad K b H (l.map aD) vs
 |[],_,h=>h
 |a::l,vs,h=>by
  erw[AI,Ad]at h ⊢;obtain⟨v,r,e,q,t⟩:=h;exact⟨v,r,e,q.at_any,Ad.at_any t⟩
def Au.key_any{K:Av}{N b:Fb}{k:KT}{v:V}(h:Au K N H (kD k) v):Au K b H (kD k) v:=by
 cases k with| «at» a=>exact Au.at_any h|tup l=>
  erw[kD,Au]at h ⊢;obtain⟨p,c,e,q,r⟩:=h;exact⟨p,c,e,q,Ad.at_any r⟩
theorem cZ{K:Av}{M N N0:Fb}{k:Hp}{f:U T3}(n:PD K N0 k kvs f)(hz:Cf a o (Di f) k a=Z (.frz o (Di f))):MN K M N (Cf a o (Di f) k) (K3 a o (Di f) (f.map λt=>t.2.1)) (kvs.map λp=>kD p.1):=λN2 u S i=>by
 have l:=n.kden;have g:=S.kp a _ hz<|.inr<|.inr rfl;have c:=l.length;refine⟨λd hd=>?_,λe=>⟨g,by rw[<- c];lia⟩⟩;have q:=(List.getElem?_eq_some_iff.mp hd).1;refine⟨⟨g,by rw[<- c];exact q⟩,λx z y=>?_⟩;obtain⟨rfl,r⟩:=y;refine⟨Ai.refl _,?_⟩;obtain⟨w,m,s⟩:=l.get hd;rw[r]at m;cases m;rw[DL]at hd;cases j:kvs[i]? with|none=>rw[j]at hd;cases hd|some p=>
  rw[j]at hd;cases hd;have d1:Au K N (Cf a o (Di f) k) (kD p.1) x:=(Au.rd (λb v _ h=>Rd.fz rfl h) _ _ s).key_any;exact Au.step S _ _ d1
def c6{K:Av}(R:A6 K M H0 ρ σ H)(d:¬ Nf M ρ σ a\/M a):∀(i:Nat)(xs:U D)(b:Kd)(e:O Ac),ρ[i]?=Z (Sl.own xs b e)->σ[i]?≠Z (Z (V.ref a)):=λi xs j e f g=>by
 rcases d with d|d
 ·exact d<|.inr ⟨i,xs,j,e,f,g⟩
 ·obtain⟨c,k,h,_,l,_⟩:=R.slot i _ f;rw[g]at h;cases h;exact l d
def Inv.plain2{g:Hp}{u:HO}(I:Inv X b σ H s)(c:Ai H g)(d:g a=Z u)(h:FZ u=yB):(∀xs,X.H₀ a≠Z (.tup xs))/\(∀o v,X.H₀ a≠Z (.frz o v))/\∀f,X.H₀ a≠Z (.tbl f):=by
 obtain⟨_,i,j,k⟩:=UE h;refine⟨λxs z=>?_,λo v z=>?_,λf z=>?_⟩
 ·have y:=c _ _<|I.base.tups a xs z;rw[d]at y;cases y;exact i _ rfl
 ·have y:=c _ _<|I.base.frzs a o v z;rw[d]at y;cases y;exact j _ _ rfl
 ·obtain⟨m,e⟩:=I.base.tbls a f z;have y:=c _ _ e;rw[d]at y;cases y;exact k _ rfl
section
variable{M:Fb}{l:Expr}{f:VE->O D}{b:D->VE->O VE}{g:VE->An}
def qR(hp:PassesOwn (Ag X.prog X.w) X.A X.env X.xe)(hc:X.calm=yB)(hl:PE X l (tQ X.K M H0 f))(hg:∀H0,PG X tg (tG X.K M H0 ws b))(hb:∀H0,EE X body (tS X.K M H0 g)) (hs:∀x,FV l X.env x=AH x:=by intro _;rfl):PS X (.For tg l body [] pos) (tS X.K M H0 (Cb (λρ=>(f ρ).bind EQ) b g)):=by
 intro j s c H zC I ⟨ρ,R,q⟩;have Y:PG X tg (λv c H Q=>∃H0,tG X.K M H0 ws b v c H Q):=λj s c H v u Q I r ⟨H0,h⟩=>hg H0 j s c H v u Q I r h;have hbt:EE X body (λD c H=>∃H0,tS X.K M H0 g D c H):=λj s c H D I ⟨H0,h⟩=>hb H0 j s c H D I h;unfold Cb at q;dsimp only at q;cases hf:f ρ with|none=>rw[hf]at q;exact Bo q|some d=>
 rw[hf]at q;erw[Ay]at q;cases C:EQ d with|none=>rw[C]at q;exact Bo q|some ds=>
 rw[C]at q;dsimp only at q;unfold EQ at C;split at C
 ·next xs=>
  cases hu:DO xs with|none=>rw[hu]at C;cases C|some E=>
  rw[hu]at C;cases C;refine A1 (Sx hp hc (UF hl) Y hbt hs j s c H (zC.cv X) I ?_) λfl s' h=>h.cv;refine⟨ρ,_,R,hf,λv G s1 dq=>?_⟩;rw[Hm hu]at dq;obtain⟨a,vs,rfl,hN,hr,dl⟩:=dq;obtain⟨B,dc,pd⟩:=IT hr dl;refine⟨a,B,rfl,dc,λo hz=>?_⟩;have S:=R.st s1;have q1:Bg X.K M H0 ρ c G zC (Z9 b g (E.map λp=>kD p.1) ρ):=Bg.from (Step.of_same s1) q;have L:=λN=>cZ (M:=M) (N:=N) pd hz;have fin:∀n,A6 X.K M n ρ c (Cf a o (Di B) G)->Bg X.K M n ρ c (Cf a o (Di B) G) (zC.cv X) (Z9 b g (E.map λp=>kD p.1) ρ) ->
    ∃W:Nat->Nat->St->Hp->Prop,(∃m,W 0 m c<|Cf a o (Di B) G)/\∀i m c H,W i m c H->((K3 a o (Di B)<|B.map λt=>t.2.1).stop i H/\(zC.cv X).nx c H)\/((K3 a o (Di B)<|B.map λt=>t.2.1).go i H/\∃N:St->Hp->Prop,(∀P T,N P T->∃m',m'<m/\W (i+1) m' P T)/\∀x T,(K3 a o (Di B)<|B.map λt=>t.2.1).yld i H x T->(∃H0,tG X.K M H0 ws b x c T λσ2 H2=>∃H0,tS X.K M H0 g {zC.cv X with nx:=N,ct:=N,bk:=(zC.cv X).nx} σ2 H2)):=λn R2 q2=>by
   have core:=aj (K:=X.K) (M:=M) (H0:=n) (f:=λ_=>Z<|E.map λ(p:KT×D)=>kD p.1) (b:=b) (g:=g) (ws:=ws) (D':=zC.cv X) (σ:=c) (H:=Cf a o (Di B) G) (wi:=tI X.K M n λ_=>Z<|E.map λ(p:KT×D)=>kD p.1)
    (tg':=λv c H Q=>∃H0,tG X.K M H0 ws b v c H Q) (tb:=λD c H=>∃H0,tS X.K M H0 g D c H) (λ_ _ _ z=>z) (λ_ _ _ _ z=>⟨n,z⟩) (λ_ _ _ z=>⟨n,z⟩) ⟨ρ,R2,q2⟩
   obtain⟨ρ',ds',R',e',k⟩:=core;cases e';exact k _ _ (Ai.refl _)<|L _
  rcases dc.1 with F|⟨o',F⟩
  ·exact fin _ (S.fz rfl F<|c6 S hN)<|Bg.fz rfl q1 F (λw e=>by have y:=S.same _ _ e;rw[F]at y;cases y;rfl) (I.plain2 s1 F rfl)
  ·have e:Cf a o (Di B) G=G:=funext λb=>FJ (by rintro⟨rfl,y⟩;rw[F]at y;cases y);rw[e]at fin ⊢;exact fin _ S q1.cv
 ·cases C
def qS(a:PassesOwn (Ag X.prog X.w) X.A X.env X.xe)(c:X.calm=yB)(d:JE X l (tQ X.K M H0 f))(e:∀H0,JG X tg (tG X.K M H0 ws b))(i:∀H0,JB X body (tS X.K M H0 g)) (j:∀x,FV l X.env x=AH x:=by intro _;rfl):JS X (.For tg l body [] pos) (tS X.K M H0 (Cb (λρ=>(f ρ).bind EQ) b g)):=⟨qR a c d.h (λH0=>(e H0).h) (λH0=>(i H0).h) j⟩
end
def qT(K:Av):V->U V->Hp->VK->Prop:=λx c H Q=>∃a b k y,x=.ref a/\c=[y]/\B8 K H a b/\GI k b/\Bw K H k y/\Q ((CM b k).getD .non) H
@[simp] def Np(x y:D):O D:=match x with
  |.lst b .d=>match DO b,Ds y with
   |some a,Z k=>if Dn k a then Z ((ZM a k).getD .non)else yA
   |_,_=>yA
  |_=>yA
section
variable{M:Fb}{o:Expr}{fo:VE->O D}
def qU(E:X.A.units+64<AA):Ku X "dict.get" (qT X.K):=by
 intro j s L H x M v f Q I t u h;obtain⟨a,m,k,y,rfl,rfl,hd,n,o,q⟩:=h;cases t;obtain⟨z,rfl,r⟩:=u.one;cases k with
 | «at» b=>
  cases o;obtain⟨B,i,nd,f,rel,g⟩:=KO I hd n;have c:=rel.val b;refine call_meetsIn PySem.F.slot_dict_get g.typeIs PySem.F.entry_dict_get (PySem.F.args_dict_get_2 _ _) (meets_dict_get (Dy X.prog X.w) a (HR r) i) ⟨_,g.mapOf,?_⟩;cases d:CM m (.at b)with
  |none=>
   rw[d]at q;cases e:valueAt f b with
   |none=>exact⟨.non,H,I.tok _,rfl,q⟩
   |some w=>rw[d,e]at c;exact c.elim
  |some w=>
   rw[d]at q;cases e:valueAt f b with
   |none=>rw[d,e]at c;exact c.elim
   |some C=>rw[d,e]at c;exact⟨w,H,I.tok _,c,q⟩
 |tup l=>
  obtain⟨p,rfl,G⟩:=o;cases(show z=Cy p from r);obtain⟨B,i,nd,f,rel,g⟩:=JR I hd n;have c:=rel.val l;refine call_meetsIn PySem.F.slot_dict_get g.typeIs PySem.F.entry_dict_get (PySem.F.args_dict_get_2 _ _) (meetsH_dict_get (BN<|Dy X.prog X.w) a p i) ⟨LL (by lia),l,f,JQ I G,g,?_⟩;cases d:CM m (.tup l)with
  |none=>
   rw[d]at q;cases e:atKey f l with
   |none=>exact⟨.non,H,I.tok _,rfl,q⟩
   |some w=>rw[d,e]at c;exact c.elim
  |some w=>
   rw[d]at q;cases e:atKey f l with
   |none=>rw[d,e]at c;exact c.elim
   |some C=>rw[d,e]at c;exact⟨w,H,I.tok _,c,q⟩
def qV(I:X.A.units+64<AA)(P:JE X o (tP X.K M H0 fo))(L:JE X ek (tP X.K M H0 fk)) (c:Fw o "get" X.env (Ax o X.env)=Ax o X.env:=by rfl) (f:((AL cpos (AY [ek] X.env)).all (λx=>!x.1)&&(Ga cpos (Gb [] X.env)).all (λx=>x.1.isSome) && decide ([ek].length+([]:U ET).length+(if([]:U ET).isEmpty then 0 else 1)<30))=yB:=by rfl) (e:(apos.endLine==cpos.line)=yB:=by rfl) (g:autoParam (AY [ek] X.env=(yC,Ax ek X.env)::AY [] X.env) ye) (l:(AL cpos (AY [] X.env)).any (·.1)=yC:=by rfl):JE X (.Call (.Attribute o "get" apos) [ek] [] cpos) (tD X.K M H0 (Zd Np fo fk)):=⟨(Iw bP PySem.F.slot_dict_get PySem.F.type_dict_get (qU I) P.h (Ee L.h Bm g) c f e g l).mono λσ H Q N=>by
   obtain⟨z,d,R,ex,q⟩:=N;obtain⟨x,y,S,T,ex⟩:=Y9 ex;unfold Np at ex;split at ex
   ·next xs=>
    split at ex
    ·next m k n p=>
     split at ex
     ·next W=>
      cases ex;have r:=Hm n;subst r;refine⟨z,_,R,S,λv H1 B Y=>?_⟩;obtain⟨a,vs,rfl,C,hd⟩:=Y;refine⟨.inr<|.inr<|.inl ⟨rfl,.inr<|.inr ⟨_,_,C⟩⟩,z,y,R.st B,T,λw H2 s E=>?_⟩;obtain⟨t,dc,G⟩:=IT (C.same s)<|hd.same s;rw[JU p]at E;have b:=G.val k;refine⟨a,t,k,w,rfl,rfl,dc,G.hom W,JV<|KR E,q _ H2 (B.trans s) ?_⟩;cases i:ZM m k with
      |none=>
       rw[i]at b;cases j:CM t k with
       |none=>erw[Option.getD,Au]
       |some u=>rw[j]at b;exact b.elim
      |some d0=>
       rw[i]at b;cases j:CM t k with
       |none=>rw[j]at b;exact b.elim
       |some u=>rw[j]at b;exact b
     ·cases ex
    ·cases ex
   ·cases ex⟩
end
end L2
namespace L2
open PySem PySem.Spec PyProof.Rows
structure GN(P:A4)(w:Aj)(i:Ac)(fp:List Ac)(n:Nat)(is:Nat->Aa->Prop)(st:Nat->Am->Prop):Prop where
 frame:∀k h h',st k h->(∀b,b=i\/b∈fp->∀o,h.get? b=Z o->h'.get? b=Z o)->st k h'
 lt:∀k h,st k h->i<h.objs.size
 item:∀(A:Ah) (E:Aa->Ab->Prop) (s:Ab) (k:Nat) (Q:Aa->Ab->Prop),k<n->st k s.heap->(∀v h' tk,is k v->st (k+1) h'->ED i s.heap h'->Q v {s with heap:=h',toks:=tk})->wpAny (Ag P w) A (I0 (.ref i)) Q E s
 fin:∀(A:Ah) (E:Aa->Ab->Prop) (s:Ab) (k:Nat) (Q:Aa->Ab->Prop),A.handled=yA->n<=k->st k s.heap->(∀h' e,Heap.ExtBut i s.heap h'->(∃o,h'.get? e=Z o/\o.cls=.type "StopIteration")->E (.ref e) {s with heap:=h' }) ->
  wpAny (Ag P w) A (I0 (.ref i)) Q E s
section
variable{prog:A4}{w:Aj}{A:Ah}{s:Ab}
def qW{i:Ac}(e:s.heap.IsTupleIter i a k)(g:s.heap.IsTuple a b)(h:b[k]?=Z v) (q:∀h',h'.IsTupleIter i a (k+1)->ED i s.heap h'->Q v {s with heap:=h' }):wpAny (Ag prog w) A (I0 (.ref i)) Q E s:=by
 obtain⟨n,d,j,c⟩:=id e;obtain⟨o,l,_,m1,m⟩:=g;unfold I0;refine Al<|HE e.typeIs UG<|G1 UG e.typeIs qX ?_<|qY _;show wpAny _ _ (field (.ref i) 0 >>= _) _ _ s
 refine Al<|Ef d c (x:=.ref a) rfl ?_;show wpAny _ _ (if(Cy a==FQ)=yB then _ else _) _ _ s
 rw[if_neg (show ¬ ((Cy a==FQ)=yB)from Hz)];show wpAny _ _ (field (.ref i) 1 >>= _) _ _ s
 refine Al<|Ef d c (x:=.int k 0) rfl ?_;show wpAny _ _ (seqItems? (.ref a) >>= _) _ _ s
 refine Al<|K4 l m ?_;erw[h,Gi];refine Al<|wpAny_setField d c (by simp)<|AO ⟨v,rfl,AO<|q _ ?_<|LN ..⟩;exact⟨_,SX _ d<|Obj.isFreed_of_fields<|Ui c _,(Obj.cls_mapFields ..).trans j,by rw[Ui c];simp[Be]⟩
def qZ(h:A.handled=yA)(d:s.heap.IsTupleIter i b k)(l:s.heap.IsTuple b c)(n:c[k]?=yA) (q:∀h' e,Heap.ExtBut i s.heap h'->(∃o,h'.get? e=Z o/\o.cls=.type "StopIteration")->E (.ref e) {s with heap:=h' }):wpAny (Ag prog w) A (I0 (.ref i)) Q E s:=by
 obtain⟨t,f,u,g⟩:=id d;obtain⟨v,p,_,m1,r⟩:=l;unfold I0;refine Al<|HE (name:=GB "__next__") d.typeIs UG (G1 UG d.typeIs qX ?_<|qY _);show wpAny _ _ (field (.ref i) 0 >>= _) _ _ s
 refine Al<|Ef f g (x:=.ref b) rfl ?_;show wpAny _ _ (if(Cy b==FQ)=yB then _ else _) _ _ s
 rw[if_neg (show ¬ ((Cy b==FQ)=yB)from Hz)];show wpAny _ _ (field (.ref i) 1 >>= _) _ _ s
 refine Al<|Ef f g (x:=.int k 0) rfl ?_;show wpAny _ _ (seqItems? (.ref b) >>= _) _ _ s
 refine Al<|K4 p r ?_;erw[n,Gi];refine Al<|II<|Al<|wpAny_setField f g (by simp) ?_;show wpAny _ _ (newExc (.type "StopIteration") ([]:U Aa) >>= _) _ _ _
 refine Al ?_;erw[newTuple,newExc];refine Al<|HF ?_ (show(0:Nat)<=AB by ext);refine Al (m:=firstArgMember _ _) (wpAny_of_eq (a:=FQ) (by first|rfl|(unfold firstArgMember;rfl)) ?_);refine HF ?_ (by first|trivial|(show(0:Nat)<=AB;decide)|size_fits);unfold raiseNew;refine Al<|wpAny_handled ?_;first|rw[h]|rw[show A.in1.handled=yA from h]
 refine Al<|AO<|wpAny_throw ?_;exact q _ _ ((Heap.ExtBut.push (Heap.SameBut.extBut<|LN ..) _).push _) ⟨_,Cm _ rfl,rfl⟩
theorem ra{xs:U V}(d:Array Aa)(r:As xs d.toList):GN P w i [l] xs.length (λk v=>∃x,xs[k]?=Z x/\RelV x v) (λk h=>h.IsListIter i l k/\h.IsList l d) where
 frame:=λk h j ⟨a,b⟩ kp=>⟨a.at λo e=>kp i (.inl rfl) o e,b.at λo e=>kp l (.inr (by simp)) o e⟩;lt:=λk h ⟨⟨o,e,_⟩,_⟩=>BC e;item:=λA E s k Q g ⟨a,b⟩ q=>by
  have f:=r.length;have t:k<d.size:=by simp at f;lia
  obtain⟨u,y,z⟩:=r.get<|Dl g;refine wpAny_nextOf_list_item a b (by simpa using y) λj B m=>?_;by_cases f:l=i
  ·subst f;obtain⟨o,e,c,_⟩:=a;obtain⟨G,n,p,_⟩:=b;rw[e]at n;cases n;rw[c]at p;exact absurd p (by ext)
  ·exact q _ j s.toks ⟨_,Dl g,z⟩ ⟨B,b.extBut m.extBut f⟩ m
 fin:=λA E s k Q C g ⟨a,b⟩ q=>wpAny_nextOf_list_end C a b (Array.getElem?_eq_none (by have f:=r.length;simp at f;lia)) q
def rb{xs:U V}(d:Array Aa)(r:As xs d.toList):GN P w i [l] xs.length (λk v=>∃x,xs[k]?=Z x/\RelV x v) (λk h=>h.IsTupleIter i l k/\h.IsTuple l d) where
 frame:=λk h j ⟨a,b⟩ kp=>⟨a.at λo e=>kp i (.inl rfl) o e,b.at λo e=>kp l (.inr (by simp)) o e⟩;lt:=λk h ⟨⟨o,e,_⟩,_⟩=>BC e;item:=λA E s k Q g ⟨a,b⟩ q=>by
  obtain⟨u,t,y⟩:=r.get<|Dl g;refine qW a b (by simpa using t) λj z m=>?_;by_cases f:l=i
  ·subst f;obtain⟨o,e,c,_⟩:=a;obtain⟨C,n,p,_⟩:=b;rw[e]at n;cases n;rw[c]at p;exact absurd p (by ext)
  ·exact q _ j s.toks ⟨_,Dl g,y⟩ ⟨z,b.at λo e=>m.extBut _ _ f e⟩ m
 fin:=λA E s k Q B g ⟨a,b⟩ q=>qZ B a b (Array.getElem?_eq_none (by have f:=r.length;simp at f;lia)) q
noncomputable def L3(x:Ae):String:=if x.cps.all (·<128)=yB then "str_ascii_iterator" else "str_iterator"
def Go(x:Ae):U V:=x.cps.toList.map λc=>.str ⟨#[c]⟩
def re(x:Ae):GN P w i [] (Go x).length (λk v=>∃y,(Go x)[k]?=Z y/\RelV y v) (λk h=>∃t,h.IsStrIter i (L3 x) x t k) where
 frame:=λk h f ⟨t,o,e,r⟩ kp=>⟨t,o,kp i (.inl rfl) o e,r⟩;lt:=λk h ⟨t,o,e,_⟩=>BC e;item:=λA E s k Q g ⟨t,a⟩ q=>by
  have b:k<x.cps.size:=by simpa[Go]using g
  unfold L3 at a q;by_cases d:x.cps.all (·<128)=yB
  ·rw[if_pos d]at a q;exact wpAny_nextOf_ascii_item a (c:=x.cps[k]) (by simp[b]) λf j l=>q _ f (s.toks+1) ⟨.str ⟨#[x.cps[k]]⟩,by simp[Go,b],_,rfl⟩ ⟨t,j⟩ l
  ·rw[if_neg d]at a q;exact wpAny_nextOf_wide_item a (c:=x.cps[k]) (by simp[b]) λf j l=>q _ f (s.toks+1) ⟨.str ⟨#[x.cps[k]]⟩,by simp[Go,b],_,rfl⟩ ⟨t,j⟩ l
 fin:=λA E s k Q m g ⟨t,a⟩ q=>by
  have b:x.cps.size<=k:=by simpa[Go]using g
  unfold L3 at a;by_cases d:x.cps.all (·<128)=yB
  ·rw[if_pos d]at a;exact wpAny_nextOf_ascii_end m a (by simp[b]) q
  ·rw[if_neg d]at a;exact wpAny_nextOf_wide_end m a (by simp[b]) q
structure Cg(z tin tout ia ib:Ac)(fa fb:List Ac):Prop where
 n1:tin≠z
 n2:tout≠z
 n3:ia≠z
 n4:ib≠z
 n5:tin≠tout
 n6:tin≠ia
 n7:tin≠ib
 n8:tout≠ia
 n9:tout≠ib
 n10:ia≠ib
 fz:∀b,b∈fa\/b∈fb->b≠z/\b≠tout/\b≠ia/\b≠ib
section
variable{z tin tout ia ib:Ac}{fa fb:U Ac}{n m k:Nat}{isB:Nat->Aa->Prop}{sa sb:Nat->Am->Prop}{a b:Aa}
def Cg.keepA(D:Cg z tin tout ia ib fa fb)(f:GN prog w ia fa n isA sa){h:Am}(st:sa k h)(d:c=z\/c=tout\/c=ib)(a:ED c h h'):sa k h':=f.frame k h h' st λx b o e=>by
  refine a.extBut x o ?_ e;rcases b with rfl|b
  ·rcases d with rfl|rfl|rfl
   ·exact D.n3
   ·exact CT D.n8
   ·exact D.n10
  ·obtain⟨q1,q2,q3,q4⟩:=D.fz x<|.inl b;rcases d with rfl|rfl|rfl
   ·exact q1
   ·exact q2
   ·exact q4
def Cg.keepB(D:Cg z tin tout ia ib fa fb)(SB:GN prog w ib fb n isB sb){h:Am}(st:sb k h)(d:c=z\/c=tout\/c=ia)(a:ED c h h'):sb k h':=SB.frame k h h' st λx b o e=>by
  refine a.extBut x o ?_ e;rcases b with rfl|b
  ·rcases d with rfl|rfl|rfl
   ·exact D.n4
   ·exact CT D.n9
   ·exact CT D.n10
  ·obtain⟨q1,q2,q3,q4⟩:=D.fz x<|.inr b;rcases d with rfl|rfl|rfl
   ·exact q1
   ·exact q2
   ·exact q3
theorem rf{Q:O Aa->Ab->Prop}(D:Cg z tin tout ia ib fa fb)(i:GN prog w ia fa n isA sa)(SB:GN prog w ib fb m isB sb) (hz:IsZip s.heap z tin tout .none) (hi:BB s.heap tin (.ref ia) (.ref ib)) (ho:BB s.heap tout a b) (ha:sa k s.heap) (hb:sb k s.heap) (kn:k<n) (km:k<m) (q:∀x y h' tk,isA k x->isB k y->IsZip h' z tin tout (Be s.heap.objs.size)->BB h' tout x y->sa (k+1) h'->sb (k+1) h'->BB h' s.heap.objs.size x y->h'.objs.size=s.heap.objs.size+1->(∀c o,c≠z->c≠tout->c≠ia->c≠ib->s.heap.get? c=Z o->h'.get? c=Z o)->Q (Z (.ref s.heap.objs.size)) {s with heap:=h',toks:=tk}):wpAny (Ag prog w) A (BI (.ref z)) Q E s:=by
 have ty:s.TypeIs (.ref z) "zip":=⟨_,hz,rfl⟩;unfold BI;refine Al<|LV<|HE (name:=GB "__next__") ty UH (G1 UH ty PySem.F.entry_zip_next ?_<|PySem.F.args_zip_next_1 _);show wpAny _ _ (field (.ref z) 2 >>= _) _ _ _
 refine Al<|Ef hz rfl (x:=.bool yC) rfl ?_;show wpAny _ _ (field (.ref z) 3 >>= _) _ _ _
 refine Al<|Ef hz rfl (x:=.ref tin) rfl ?_;refine Al<|K4 hi rfl ?_;show wpAny _ _ (Nq (.ref z) >>= _) _ _ _
 refine Al ?_;unfold Nq;refine Al<|Ef hz rfl (x:=.none) rfl (AO ?_);rw[if_pos rfl];refine Al<|II ?_;refine Al<|Ef hz rfl (x:=.ref tout) rfl ?_;refine Al<|Hq hz (by simp) λg1 H j=>?_;have H:IsZip g1 z tin tout .ellipsis:=H;refine Al ?_;erw[List.zipIdx_nil,List.zipIdx_cons,List.forIn_nil,List.forIn_cons];refine Al<|Al<|wpAny_onRaise ?_;show wpAny _ _ (I0 (.ref ia) >>= _) _ _ _
 refine Al<|i.item _ _ _ k _ kn (D.keepA i ha (.inl rfl) j) λx g2 tk2 hx a2 l=>AO ?_;have o2:BB g2 tout a b:=l.extBut _ _ D.n8<|j.extBut _ _ D.n2 ho;refine Al<|K4 o2 rfl ?_;refine Al<|wpAny_updateSeq_pair o2 λg3 I p=>?_;have I:BB g3 tout x b:=I;refine Al<|wpAny_letGo<|AO ?_;refine Al<|Al<|wpAny_onRaise ?_;show wpAny _ _ (I0 (.ref ib) >>= _) _ _ _
 have K:sb k g3:=D.keepB SB (D.keepB SB (D.keepB SB hb (.inl rfl) j) (.inr<|.inr rfl) l) (.inr<|.inl rfl) p;refine Al<|SB.item _ _ _ k _ km K λy g4 L hy a4 r=>AO ?_;have o4:BB g4 tout x b:=r.extBut _ _ D.n9 I;refine Al<|K4 o4 rfl ?_;refine Al<|wpAny_updateSeq_pair o4 λd v t=>?_;have v:BB d tout x y:=v;refine Al<|wpAny_letGo<|AO<|AO ?_;refine Al<|K4 v rfl ?_;refine Al<|wpAny_newTuple ?_;have sz:d.objs.size=s.heap.objs.size:=by rw[t.1,r.1,p.1,l.1,j.1]
 have z5:IsZip d z tin tout .ellipsis:=t.extBut _ _ (CT D.n2)<|r.extBut _ _ (CT D.n4)<|p.extBut _ _ (CT D.n2)<|l.extBut _ _ (CT D.n3) H;have kp:∀c o,c≠z->c≠tout->c≠ia->c≠ib->s.heap.get? c=Z o->d.get? c=Z o:=λc o f B M N e=>
  t.extBut _ _ B<|r.extBut _ _ N<|p.extBut _ _ B<|l.extBut _ _ M<|j.extBut _ _ f e
 have a5:sa (k+1) d:=D.keepA i (D.keepA i (D.keepA i a2 (.inr<|.inl rfl) p) (.inr<|.inr rfl) r) (.inr<|.inl rfl) t;have P:sb (k+1) d:=D.keepB SB a4 (.inr<|.inl rfl) t;have u:z<d.objs.size:=BC z5;show wpAny _ _ (UI (.ref z) (.ref d.objs.size) >>= _) _ _ _
 refine Al ?_;unfold UI;have z6:IsZip (d.push {cls:=.type "tuple",data:=.seq #[x,y]}) z tin tout .ellipsis:=BG _ z5;refine Al<|Hq z6 (by simp) λg7 T R=>?_;have T:IsZip g7 z tin tout (Be d.objs.size):=T;refine Hq T (by simp) λg C Y=>?_;have C:IsZip g z tin tout (Be d.objs.size):=C;have G:∀c o,c≠z->d.get? c=Z o->g.get? c=Z o:=λc o f e=>Y.extBut _ _ f<|R.extBut _ _ f<|BG _ e;have new:BB g d.objs.size x y:=Y.extBut _ _ (Im u)<|R.extBut _ _ (Im u)<|Cm _ rfl;have s8:g.objs.size=d.objs.size+1:=by rw[Y.1,R.1,Io]
 have a8:sa (k+1) g:=i.frame _ _ _ a5 λc h o e=>G c o (by
  rcases h with rfl|h
  ·exact D.n3
  ·exact(D.fz c<|.inl h).1) e
 have b8':sb (k+1) g:=SB.frame _ _ _ P λc h o e=>G c o (by
  rcases h with rfl|h
  ·exact D.n4
  ·exact(D.fz c<|.inr h).1) e
 rw[sz]at C new s8;refine AO ⟨_,rfl,AO ?_⟩;show Q (Z<|.ref d.objs.size) _
 rw[sz];exact q x y g L hx hy C (G _ _ D.n2 v) a8 b8' new s8 λc o f B M N e=>G c o f<|kp c o f B M N e
def rg{Q:O Aa->Ab->Prop}(p:A.handled=yA)(D:Cg z tin tout ia ib fa fb)(r:GN prog w ia fa n isA sa)(SB:GN prog w ib fb m isB sb) (hz:IsZip s.heap z tin tout .none) (hi:BB s.heap tin (.ref ia) (.ref ib)) (ho:BB s.heap tout a b) (M:sa k s.heap) (hb:sb k s.heap) (kn:n<=k\/m<=k) (q:∀h' l,(∀c o,c≠z->c≠tout->c≠ia->c≠ib->s.heap.get? c=Z o->h'.get? c=Z o)->Q yA {s with heap:=h',toks:=l}):wpAny (Ag prog w) A (BI (.ref z)) Q E s:=by
 have ty:s.TypeIs (.ref z) "zip":=⟨_,hz,rfl⟩
 unfold BI
 refine Al (LV (HE (name:=GB "__next__") ty UH (G1 UH ty PySem.F.entry_zip_next ?_ (PySem.F.args_zip_next_1 _))))
 have g:∀(h':Am) (l:Nat) (e:Ac),(∀c o,c≠z->c≠tout->c≠ia->c≠ib->s.heap.get? c=Z o->h'.get? c=Z o)->(∃o,h'.get? e=Z o/\o.cls=.type "StopIteration") ->
   wpAny (Ag prog w) A (do if(<- isInstance (.ref e) (.type "StopIteration"))=yB then AH (yA:O Aa)else throw (Cy e)) Q E {s with heap:=h',toks:=l}:=λh' l e kp ⟨o,f,d⟩=>
  Al (wpAny_isInstance (T:="StopIteration") (b:=yB) ⟨o,f,d⟩ isSubtype_stop (AO (q h' l kp)))
 show wpAny _ _ (field (.ref z) 2 >>= _) _ _ _
 refine Al (Ef hz rfl (x:=.bool yC) rfl ?_)
 show wpAny _ _ (field (.ref z) 3 >>= _) _ _ _
 refine Al (Ef hz rfl (x:=.ref tin) rfl ?_)
 refine Al (K4 hi rfl ?_)
 show wpAny _ _ (Nq (.ref z) >>= _) _ _ _
 refine Al ?_
 unfold Nq
 refine Al (Ef hz rfl (x:=.none) rfl (AO ?_))
 rw[if_pos rfl]
 refine Al (II ?_)
 refine Al (Ef hz rfl (x:=.ref tout) rfl ?_)
 refine Al (Hq hz (by simp) λg1 t i=>?_)
 have t:IsZip g1 z tin tout .ellipsis:=t
 refine Al ?_
 erw[List.zipIdx_nil,List.zipIdx_cons,List.forIn_nil,List.forIn_cons]
 refine Al (Al (wpAny_onRaise ?_))
 show wpAny _ _ (I0 (.ref ia) >>= _) _ _ _
 by_cases y:n<=k
 ·refine Al (r.fin A.in1 _ _ k _ (by first|exact p|simpa using p) y (D.keepA r M (.inl rfl) i) λB e N C=>?_)
  obtain⟨G,f,d⟩:=C
  have P:IsZip B z tin tout .ellipsis:=N _ _ (CT D.n3) t
  have H:e≠z:=λx=>by subst x;rw[P]at f;cases f;simp at d
  exact Hq P (by simp) λu _ j=>g u s.toks e (λc o d _ I _ x=>j.extBut _ _ d (N _ _ I (i.extBut _ _ d x))) ⟨G,j.extBut _ _ H f,d⟩
 ·have kb:m<=k:=by rcases kn with h|h;exact absurd h y;exact h
  refine Al (r.item _ _ _ k _ (Nat.lt_of_not_le y) (D.keepA r M (.inl rfl) i) λx B K hx a2 v=>AO ?_)
  have Y:BB B tout a b:=v.extBut _ _ D.n8 (i.extBut _ _ D.n2 ho)
  refine Al (K4 Y rfl ?_)
  refine Al (wpAny_updateSeq_pair Y λu o3 j=>?_)
  have o3:BB u tout x b:=o3
  refine Al (wpAny_letGo (AO ?_))
  refine Al (Al (wpAny_onRaise ?_))
  show wpAny _ _ (I0 (.ref ib) >>= _) _ _ _
  have L:sb k u:=D.keepB SB (D.keepB SB (D.keepB SB hb (.inl rfl) i) (.inr (.inr rfl)) v) (.inr (.inl rfl)) j
  refine Al (SB.fin A.in1 _ _ k _ (by first|exact p|simpa using p) kb L λg4 e x4 C=>?_)
  obtain⟨G,f,d⟩:=C
  have z4:IsZip g4 z tin tout .ellipsis:=x4 _ _ (CT D.n4) (j.extBut _ _ (CT D.n2) (v.extBut _ _ (CT D.n3) t))
  have H:e≠z:=λx=>by subst x;rw[z4]at f;cases f;simp at d
  exact Hq z4 (by simp) λg5 _ b5=>g g5 K e (λc o d c2 I c4 x=>b5.extBut _ _ d (x4 _ _ c4 (j.extBut _ _ c2 (v.extBut _ _ I (i.extBut _ _ d x))))) ⟨G,b5.extBut _ _ H f,d⟩
end
end
inductive AS where
 |l (a:Ac)
 |t (a:Ac)
 |x (s:Ae)
@[reducible] def AS.v:AS->V
  |.l a=>.ref a
  |.t a=>.ref a
  |.x s=>.str s
@[reducible] def AS.fp:AS->U Ac
  |.l a=>[a]
  |.t a=>[a]
  |.x _=>[]
def AS.sq(K:Av)(H:Hp):AS->U V->Prop
 |.l a=>BM K H a
 |.t a=>B6 K H a
 |.x s=>λb=>b=Go s
def AS.nm:AS->String
 |.l _=>"list_iterator"
 |.t _=>"tuple_iterator"
 |.x s=>L3 s
def AS.ok(h:Am)(xs:U V):AS->Prop
 |.l a=>∃b:Array Aa,As xs b.toList/\h.IsList a b
 |.t a=>∃b:Array Aa,As xs b.toList/\h.IsTuple a b
 |.x s=>xs=Go s
def AS.it(h:Am)(i:Ac)(k:Nat):AS->Prop
 |.l a=>h.IsListIter i a k
 |.t a=>h.IsTupleIter i a k
 |.x s=>∃t,h.IsStrIter i (L3 s) s t k
def AS.of(S:AS){xs:U V}(I:Inv X c σ H s)(h:S.sq X.K H xs):S.ok s.heap xs:=by
 cases S with
 |l a=>obtain⟨b,r,p,z⟩:=I.list h;exact⟨b.toArray,r,p.isList⟩
 |t a=>obtain⟨b,r,p,z⟩:=I.tuple h;exact⟨b.toArray,r,(show s.heap.IsTuple a b.toArray from p)⟩
 |x s=>exact h
def AS.inj(S:AS){xs:U V}(I:Inv X b σ H s)(h:S.sq X.K H xs)(h':S.sq X.K H ys):xs=ys:=by
 cases S with
 |l a=>exact I.list_inj h h'
 |t a=>exact I.tuple_inj h h'
 |x s=>exact(show xs=Go s from h).trans (show ys=Go s from h').symm
def AS.lt(S:AS){h:Am}{xs:U V}(p:S.ok h xs):∀b∈S.fp,b<h.objs.size:=by
 intro b c;cases S with
 |l a=>rw[Ew.mp c];obtain⟨d,_,o,e,_⟩:=p;exact BC e
 |t a=>rw[Ew.mp c];obtain⟨d,_,o,e,_⟩:=p;exact BC e
 |x s=>cases c
def AS.okAt(S:AS){h:Am}{xs:U V}(p:S.ok h xs)(k:∀b∈S.fp,∀o,h.get? b=Z o->h'.get? b=Z o):S.ok h' xs:=by
 cases S with
 |l a=>obtain⟨c,r,q⟩:=p;exact⟨c,r,Heap.IsList.at q<|k a (by simp)⟩
 |t a=>obtain⟨c,r,q⟩:=p;exact⟨c,r,Heap.IsTuple.at q<|k a (by simp)⟩
 |x s=>exact p
def AS.itAt(S:AS){h:Am}(p:S.it h i n)(k:∀o,h.get? i=Z o->h'.get? i=Z o):S.it h' i n:=by
 cases S with
 |l a=>exact Heap.IsListIter.at p k
 |t a=>exact Heap.IsTupleIter.at p k
 |x s=>obtain⟨t,o,e,r⟩:=p;exact⟨t,o,k o e,r⟩
def AS.itOb(S:AS)(p:S.it h i n):∃o,h.get? i=Z o/\∀v,o.data≠.cell v:=by
 cases S with
 |l a=>obtain⟨o,e,c,d⟩:=p;exact⟨o,e,λv z=>by rw[d]at z;cases z⟩
 |t a=>obtain⟨o,e,c,d⟩:=p;exact⟨o,e,λv z=>by rw[d]at z;cases z⟩
 |x s=>obtain⟨t,o,e,c,d⟩:=p;exact⟨o,e,λv z=>by rw[d]at z;cases z⟩
def AS.sub(S:AS){xs:U V}(p:S.ok h xs):∃st:Nat->Am->Prop,GN P w i S.fp xs.length (λk v=>∃x,xs[k]?=Z x/\RelV x v) st/\(∀k,S.it h i k->st k h)/\∀k h',st k h'->S.it h' i k:=by
 cases S with
 |l a=>obtain⟨b,r,q⟩:=p;exact⟨_,ra b r,λk e=>⟨e,q⟩,λk h' e=>e.1⟩
 |t a=>obtain⟨b,r,q⟩:=p;exact⟨_,rb b r,λk e=>⟨e,q⟩,λk h' e=>e.1⟩
 |x s=>rw[show xs=Go s from p];exact⟨_,re s,λk e=>e,λk h' e=>e⟩
def AS.obj(S:AS)(u:Aa):AK:={cls:=.type S.nm,data:=.fields #[u,.int 0 0]}
theorem AS.pyIter(S:AS){prog:A4}{w:Aj}{A:Ah}{E:Aa->Ab->Prop}{s:Ab}{xs:U V}{u:Aa}(c:RelV S.v u){Q:Aa->Ab->Prop}(p:S.ok s.heap xs)
  (q:Q (.ref s.heap.objs.size) {s with heap:=s.heap.push (S.obj u)}):wpAny (Ag prog w) A (pyIter u) Q E s:=by
 cases S with
 |l a=>obtain⟨d,r,p⟩:=p;have e:u=.ref a:=c;subst e;exact Oq p q
 |t a=>obtain⟨d,r,p⟩:=p;have e:u=.ref a:=c;subst e;exact wpAny_pyIter_tuple p q
 |x x=>
  obtain⟨t,rfl⟩:=(show ∃t,u=Value.str x t from c)
  unfold AS.obj AS.nm L3 at q
  by_cases b:x.cps.all (·<128)=yB
  ·erw[b,if_true]at q;exact wpAny_pyIter_ascii b q
  ·erw[b,if_false]at q;exact wpAny_pyIter_wide (by simpa using b) q
def AS.new(S:AS){h:Am}(b:RelV S.v u):S.it (h.push (S.obj u)) h.objs.size 0:=by
 cases S with
 |l a=>have e:=b;subst e;exact⟨_,Cm _ rfl,rfl,rfl⟩
 |t a=>have e:=b;subst e;exact⟨_,Cm _ rfl,rfl,rfl⟩
 |x x=>obtain⟨t,rfl⟩:=(show ∃t,u=Value.str x t from b);exact⟨t,_,Cm _ rfl,rfl,rfl⟩
@[reducible] def Nr(h:Am)(A:AS)(u:Aa):Am:=h.push (A.obj u)
@[reducible] def Nt(h:Am)(A B:AS)(u v:Aa):Am:=(Nr h A u).push (B.obj v)
@[reducible] def Pz(h:Am)(A B:AS)(u v:Aa):Am:=(Nt h A B u v).push {cls:=.type "tuple",data:=.seq #[.ref h.objs.size,.ref (Nr h A u).objs.size]}
@[reducible] def PB(h:Am)(A B:AS)(u v:Aa):Am:=(Pz h A B u v).push {cls:=.type "tuple",data:=.seq #[.none,.none]}
@[reducible] def K5(h:Am)(A B:AS)(u v:Aa):Am:=(PB h A B u v).push {cls:=.type "zip",data:=.fields #[.none,.bool yC,.bool yC,.ref (Nt h A B u v).objs.size,.ref (Pz h A B u v).objs.size]}
theorem rh(A B:AS){v:Aa}(f:RelV A.v u)(i:RelV B.v v)(xs ys:U V):Meets (Fd.«zip.__new__» ⟨[.type "zip",u,v],[]⟩) (λ_ R s=>A.ok s.heap xs/\B.ok s.heap ys/\R (.ok (.ret (.ref (PB s.heap A B u v).objs.size))) {s with heap:=K5 s.heap A B u v}):=
 .of_wp λprog w n R s h=>by
  obtain⟨a,g,d,c,os⟩:=s;obtain⟨j,k,q⟩:=h
  have p:=sub_zip
  have l:A.ok (Shared.heap ⟨a,g,d,c,os⟩) xs:=j
  have m:B.ok (Shared.heap ⟨a.push (A.obj u),g,d,c,os⟩) ys:=B.okAt k λb _ o e=>BG _ e
  wp_walk using A.pyIter f l,B.pyIter i m
  exact⟨_,rfl,q⟩
section
variable{prog:A4}{w:Aj}{A:Ah}{s:Ab}
def ri{S T:AS}{xs:U V}{v:Aa}(i:RelV S.v u)(j:RelV T.v v)(p1:S.ok s.heap xs)(p:T.ok s.heap ys) (q:∀h',IsZip h' (s.heap.objs.size+4) (s.heap.objs.size+2) (s.heap.objs.size+3) .none->BB h' (s.heap.objs.size+2) (.ref s.heap.objs.size) (.ref (s.heap.objs.size+1))->BB h' (s.heap.objs.size+3) .none .none->S.it h' s.heap.objs.size 0->T.it h' (s.heap.objs.size+1) 0->(∀c o,s.heap.get? c=Z o->h'.get? c=Z o)->Q (.ref (s.heap.objs.size+4)) {s with heap:=h' }):wpAny (Ag prog w) A (call (.type "zip") [u,v]) Q E s:=by
 refine callType_new PySem.F.called_zip (by ext) (PySem.F.typeCall_zip_2 _ _) (PySem.F.newCall_zip_2 _ _) (λobj=>PySem.F.args_object_init_3 obj _ _) PySem.F.entry_zip_new (rh S T i j xs ys) ⟨p1,p,?_⟩;have a:(Nr s.heap S u).objs.size=s.heap.objs.size+1:=Io ..;have b:(Nt s.heap S T u v).objs.size=s.heap.objs.size+2:=by rw[Io,a]
 have d:(Pz s.heap S T u v).objs.size=s.heap.objs.size+3:=by rw[Io,b]
 have k:(PB s.heap S T u v).objs.size=s.heap.objs.size+4:=by rw[Io,d]
 have f:(K5 s.heap S T u v).get? (PB s.heap S T u v).objs.size=Z _:=Cm _ rfl;have l:(K5 s.heap S T u v).get? (Pz s.heap S T u v).objs.size=Z _:=BG _<|Cm _ rfl;have m:(K5 s.heap S T u v).get? (Nt s.heap S T u v).objs.size=Z _:=BG _<|BG _<|Cm _ rfl;have g:∀c o,(Nt s.heap S T u v).get? c=Z o->(K5 s.heap S T u v).get? c=Z o:=λc o e=>BG _<|BG _<|BG _ e;have n:T.it (K5 s.heap S T u v) (Nr s.heap S u).objs.size 0:=T.itAt (T.new (h:=Nr s.heap S u) j) λo e=>g _ o e;have r:S.it (K5 s.heap S T u v) s.heap.objs.size 0:=S.itAt (S.new (h:=s.heap) i) λo e=>g _ o<|BG _ e;show _/\_
 rw[b,d,k]at f;rw[a,b]at m;rw[d]at l;rw[a]at n;rw[k];exact⟨⟨_,f,rfl⟩,q _ f m l r n λc o e=>g _ _<|BG _<|BG _ e⟩
end
def c7(K:Av)(S T:AS):It:=
 ⟨λi H=>∃a b x y,S.sq K H a/\T.sq K H b/\a[i]?=Z x/\b[i]?=Z y,
  λi H v c=>∃p x y,v=.ref p/\H p=yA/\c=AM H p (.tup [x,y])/\(∀a,S.sq K H a->a[i]?=Z x)/\∀b,T.sq K H b->b[i]?=Z y,
  λi H=>∃a b,S.sq K H a/\T.sq K H b/\(a.length<=i\/b.length<=i)⟩
theorem db{n:Nat}{S T:AS}(c:∀b∈S.fp,b<n)(d:∀b∈T.fp,b<n):Cg (n+4) (n+2) (n+3) n (n+1) S.fp T.fp where
 n1:=by(show @Ne Nat _ _;lia)
 n2:=by(show @Ne Nat _ _;lia)
 n3:=by(show @Ne Nat _ _;lia)
 n4:=by(show @Ne Nat _ _;lia)
 n5:=by(show @Ne Nat _ _;lia)
 n6:=by(show @Ne Nat _ _;lia)
 n7:=by(show @Ne Nat _ _;lia)
 n8:=by(show @Ne Nat _ _;lia)
 n9:=by(show @Ne Nat _ _;lia)
 n10:=by(show @Ne Nat _ _;lia)
 fz:=λb f=>by
  have a:(b:Nat)<n:=by
   rcases f with z|z
   ·exact c b z
   ·exact d b z
  exact⟨λe=>by subst e;exact absurd a (by show ¬ @LT.lt Nat _ _ _;lia),λe=>by subst e;exact absurd a (by show ¬ @LT.lt Nat _ _ _;lia),λe=>by subst e;exact absurd a (by show ¬ @LT.lt Nat _ _ _;lia),λe=>by subst e;exact absurd a (by show ¬ @LT.lt Nat _ _ _;lia)⟩
theorem rj{K:Av}{m:U Expr} {x1} (S T:AS) (n:Nat) (h1:∀b∈S.fp,b<n) (h2:∀b∈T.fp,b<n):HB P w K (.Tuple m x1 pos) (c7 K S T) [n+4,n+2,n+3,n,n+1] (n+4) (λi h=>IsZip h (n+4) (n+2) (n+3) .none/\BB h (n+2) (.ref n) (.ref (n+1))/\(∃a b,BB h (n+3) a b)/\S.it h n i/\T.it h (n+1) i) where
 mem:=by simp
 obj:=λi h z0 q f=>by
  obtain⟨z,a,⟨x,y,b⟩,c,d⟩:=z0;erw[Bh,LI,or_false]at f;rcases f with rfl|rfl|rfl|rfl|rfl
  ·exact⟨_,z,λv e=>nomatch (show Data.fields _=Data.cell v from e)⟩
  ·exact⟨_,a,λv e=>nomatch (show Data.seq _ _=Data.cell v from e)⟩
  ·exact⟨_,b,λv e=>nomatch (show Data.seq _ _=Data.cell v from e)⟩
  ·exact S.itOb c
  ·exact T.itOb d
 keep:=λi h t ⟨z,a,⟨x,y,b⟩,c,d⟩ k=>⟨k _ (by simp) _ z,k _ (by simp) _ a,⟨x,y,k _ (by simp) _ b⟩,S.itAt c λo e=>k _ (by simp) o e,T.itAt d λo e=>k _ (by simp) o e⟩;item:=by
  intro X F L M hc i g s σ H E I A ⟨z,a,⟨u,v,b⟩,c,d⟩ ⟨xs,ys,x,y,B,C,ex,N⟩;subst F L M;obtain⟨sa,R,Q,c2⟩:=S.sub (P:=X.prog) (w:=X.w) (i:=n) (S.of I B);obtain⟨W,SB,d1,d2⟩:=T.sub (P:=X.prog) (w:=X.w) (i:=n+1) (T.of I C);have l1:=(List.getElem?_eq_some_iff.mp ex).1;have l2:=(List.getElem?_eq_some_iff.mp N).1;refine rf (db h1 h2) R SB z a b (Q _ c) (d1 _ d) l1 l2 λx' y' t G Y hy' z' to' c' d' new sz kp=>?_;obtain⟨x2,p,ru1⟩:=Y;obtain⟨y2,r,ru2⟩:=hy';rw[ex]at p;cases p;rw[N]at r;cases r;have c':=c2 _ _ c';have d':=d2 _ _ d';refine⟨_,rfl,wpAny_letOwnedTupleGo_zip z' λj z2 W=>?_⟩;have hlt:n+4<s.heap.objs.size:=BC z;have l:∀q o,q≠n+4->t.get? q=Z o->j.get? q=Z o:=λq o f e=>W.extBut _ _ f e;have I1:Inv X g σ (AM H s.heap.objs.size<|.tup [x,y]) {s with heap:=j,toks:=G}:=by
   refine Inv.tok (s:={s with heap:=j}) ?_ G;refine I.yielded A (λq o f e=>l q o (λz=>f (by simp[z])) (kp q o (λz=>f (by simp[z])) (λz=>f (by simp[z])) (λz=>f (by simp[z])) (λz=>f (by simp[z])) e)) (Bl _) ?_;exact⟨show 2<=AB by ext,[x',y'],.cons ru1<|.cons ru2 .nil,⟨_,l _ _ (by(show @Ne Nat _ _;lia)) new,rfl,_,rfl⟩⟩
  refine⟨.ref s.heap.objs.size,_,I1,rfl,⟨_,x,y,rfl,I.hok.fresh<|Bl _,rfl,λzs hz=>by rw[S.inj I hz B];exact ex,λzs hz=>by rw[T.inj I hz C];exact N⟩,⟨z2,l _ _ (by(show @Ne Nat _ _;lia))<|kp _ _ (by(show @Ne Nat _ _;lia)) (by(show @Ne Nat _ _;lia)) (by(show @Ne Nat _ _;lia)) (by(show @Ne Nat _ _;lia)) a,⟨x',y',l _ _ (by(show @Ne Nat _ _;lia)) to'⟩,S.itAt c' λo e=>l _ o (by(show @Ne Nat _ _;lia)) e,T.itAt d' λo e=>l _ o (by(show @Ne Nat _ _;lia)) e⟩,λq f=>?_⟩;rw[ZA]
  ·exact(A q f).1
  ·erw[Bh,LI,or_false]at f;rcases f with rfl|rfl|rfl|rfl|rfl<;>(show @Ne Nat _ _;lia)
 done:=by
  intro X F L M hc i g s σ H E I A ⟨z,a,⟨u,v,b⟩,c,d⟩ ⟨xs,ys,B,C,hl⟩;subst F L M;obtain⟨sa,R,Q,c2⟩:=S.sub (P:=X.prog) (w:=X.w) (i:=n) (S.of I B);obtain⟨W,SB,d1,d2⟩:=T.sub (P:=X.prog) (w:=X.w) (i:=n+1) (T.of I C);refine rg (I.ok.hd hc) (db h1 h2) R SB z a b (Q _ c) (d1 _ d) hl λt G kp=>⟨rfl,Inv.tok (s:={s with heap:=t}) (I.turnedL A λq o f e=>kp q o (λz=>f (by simp[z])) (λz=>f (by simp[z])) (λz=>f (by simp[z])) (λz=>f (by simp[z])) e) G⟩
 self:=λ_ _ _ _ _ ⟨z,_⟩ q=>wpAny_pyIter_zip z q
def rl:Fq "zip"=Z (.type "zip"):=by decide +kernel
@[simp] def F3:D->O (U D)
  |.lst a=>Z a
  |.tup a=>Z a
  |.str s=>Z (s.cps.toList.map λc=>.str ⟨#[c]⟩)
  |_=>yA
def UJ{K:Av}{M N:Fb}{d:D}{v:V}(h:JC K M N H d v)(e:F3 d=Z xs):∃(S:AS) (vs:U V),v=S.v/\Ad K N H xs vs/\∀N2 f,Step M N N2 H f->S.sq K f vs:=by
 cases d with
 |lst j k=>
  cases k with
  |d=>cases e
  |i _ _=>cases e
  |l=>
  cases e;obtain⟨a,vs,g,b,hd⟩:=h;refine⟨.l a,vs,g,hd,λN2 f S=>?_⟩;rcases b with⟨m,b⟩|b
  ·exact .inl<|b.step S (by rcases m with z|z;exact .inl z;exact .inr<|.inl z)
  ·exact b.sq
 |tup j=>
  cases e;erw[JC,Au]at h;obtain⟨a,vs,g,b,hd⟩:=h;exact⟨.t a,vs,g,hd,λN2 f S=>b.step S⟩
 |str s=>
  cases e;erw[JC,Au]at h;refine⟨.x s,Go s,h,?_,λ_ _ _=>rfl⟩;unfold Go;generalize s.cps.toList=l;induction l with
  |nil=>exact Ad.nil
  |cons c l n=>exact Ad.cons (by erw[Au]) n
 |_=>cases e
@[simp] def E3(f g:VE->O D):VE->O (U D):=λa=>match(f a).bind F3,(g a).bind F3 with
  |some b,Z c=>Z (GO (λx y=>D.tup [x,y]) b c)
  |_,_=>yA
theorem rm{K:Av}{S T:AS}{ys:U D}{us:U V}(g:Ad K N H xs us)(h:Ad K N H ys vs)(q1:∀N2 b,Step M N N2 H b->S.sq K b us)(q2:∀N2 b,Step M N N2 H b->T.sq K b vs):MN K M N H (c7 K S T) (GO (λx y=>D.tup [x,y]) xs ys):=λN2 b St i=>by
 have c:=q1 _ _ St;have e:=q2 _ _ St;have d1:=Ad.step St _ _ g;have d2:=Ad.step St _ _ h;refine⟨λd a=>?_,λa=>⟨us,vs,c,e,?_⟩⟩
 ·rw[List.getElem?_zipWith]at a;cases ex:xs[i]? with|none=>simp[ex]at a|some x=>
   cases f:ys[i]? with|none=>simp[ex,f]at a|some y=>
    rw[ex,f]at a;cases a;obtain⟨u,j,m⟩:=d1.get ex;obtain⟨v,k,n⟩:=d2.get f;refine⟨⟨us,vs,u,v,c,e,j,k⟩,λz t ⟨p,w,A,o,l,q,r,s⟩=>?_⟩;have:=r us c;rw[j]at this;cases this;have:=s vs e;rw[k]at this;cases this;subst o q;exact⟨Y6 l,MT l<|Ad.cons m<|Ad.cons n Ad.nil⟩
 ·have l1:=g.length;have B:=h.length;erw[List.length_zipWith]at a;lia
section
variable{M:Fb}{f g:VE->O D}{a b:Expr}{p tpos:AQ}
theorem L4 {x1} (hg:Gl X "zip") (hm:X.mg "zip"=yA) (C:JE X a (tQ X.K M H0 f)) (l:JE X b (tQ X.K M H0 g)) (Y:AY [a,b] X.env=[(yC,Ax a X.env),(yC,Ax b X.env)]:=by rfl) (c:AY [b] X.env=[(yC,Ax b X.env)]:=by rfl) (E:AY [] X.env=[]:=by rfl):JI X (.Tuple elts x1 tpos) (.Call (.Name "zip" p) [a,b] [] pos) (tI X.K M H0 (E3 f g)):=⟨have C:=C.h;have l:=l.h;by
 intro o s t H Q I ⟨d,ds,R,e,q⟩;unfold E3 at e;split at e
 ·next xs ys ex y=>
  cases e;cases G:f d with|none=>rw[G]at ex;cases ex|some d1=>
   cases i:g d with|none=>rw[i]at y;cases y|some d2=>
    rw[G]at ex;rw[i]at y;have F:=Ee C (Ee l Bm (by rw[c,E])) (by rw[Y,c]);refine Call_<|HA I hg hm rl<|Mu (A1 (F pos o s t H (λvs m=>∃S T u w,vs=[AS.v S,AS.v T]/\Ai H m/\Ad X.K (Nf M d t) m xs u/\Ad X.K (Nf M d t) m ys w/\(∀N2 n,Step M (Nf M d t) N2 m n->S.sq X.K n u)/\∀N2 n,Step M (Nf M d t) N2 m n->T.sq X.K n w) I ?_) λu L ⟨vs,H1,x,r1,q1⟩=>?_) (by rw[Y,c]) (by rw[c];rfl)
    ·refine⟨d,d1,R,G,λv1 H1 z1 q1=>⟨d,d2,R.st z1,i,λv2 m N q2=>?_⟩⟩;obtain⟨S,u,P,j,A⟩:=UJ q1 ex;obtain⟨T,w,e2,k,B⟩:=UJ q2 y;exact⟨S,T,u,w,by rw[P,e2],z1.trans N,j.same N,k,λN2 n St=>A _ _<|(Step.of_same N).trans St,B⟩
    ·obtain⟨S,T,us',w,P,z,j,k,A,B⟩:=q1;subst P;cases r1 with
     |cons r W=>
      cases W with
      |cons r' W=>
       cases W;have o1:=S.of x<|A _ _ Step.refl;have o2:=T.of x<|B _ _ Step.refl;refine ri r r' o1 o2 λh' a1 a2 a3 a4 a5 kp=>wpAny_pyIter_zip a1 ?_;refine⟨_,_,_,_,H1,rfl,x.kept (t':=L.toks) kp,rj S T L.heap.objs.size (S.lt o1)<|T.lt o2,⟨a1,a2,⟨_,_,a3⟩,a4,a5⟩,λb l=>?_,q _ _ z<|rm j k A B⟩;have hl:L.heap.objs.size<=b:=by
        erw[Bh,LI,or_false]at l;rcases l with rfl|rfl|rfl|rfl|rfl<;>(show @LE.le Nat _ _ _;lia)
       exact x.fpOk hl<|x.hok.fresh hl
 ·cases e⟩
end
open PySem.W
abbrev ZL:=U (KT×U D)
def Gp:ZL->KT->D->ZL
 |[],k,d=>[(k,[d])]
 |t::r,k,d=>if t.1=k then(t.1,t.2++[d])::r else t::Gp r k d
def HY(a:ZL):BE:=a.map λz=>(z.1,.lst z.2)
def UK(k:KT)(a:ZL):Bool:=a.all λz=>El z.1==El k
def PF(b c:VE->O D)(ρ:VE)(a:ZL):O ZL:=match b ρ,c ρ with
 |some y,Z d=>match Ds y with
  |some k=>if UK k a=yB then gd (a.length<AB/\∀z∈a,z.2.length<AB) (Z (Gp a k d))else yA
  |none=>yA
 |_,_=>yA
def Ja(k:Nat)(b:D->VE->O VE)(g h:VE->O D):U D->VE->ZL->O (VE×ZL)
 |[],c,e=>Z (c,e)
 |d::i,c,e=>match b d c with
  |some a=>match a[k]?,Hn a with
   |some .no,yB=>(PF g h a e).bind λf=>Ja k b g h i a f
   |_,_=>yA
  |none=>yA
def PH(k:Nat)(f:VE->O (U D))(b:D->VE->O VE)(a c:VE->O D)(ρ:VE):An:=match ρ[k]?,f ρ with
 |some (.own [] .d yA),Z e=>if Hn ρ=yB then(match Ja k b a c e (ρ.set k .no) []with
  |some p=>.next (p.1.set k (.own (Zo (HY p.2)) .d))
  |none=>.fail)else .fail
 |_,_=>.fail
structure Q4 where
 k:KT
 kv:V
 b:Ac
 z:List D
variable{qs:U Q4}
def q3(q:Q4):T3:=(q.k,q.kv,.ref q.b)
def qz(q:Q4):KT×U D:=(q.k,q.z)
noncomputable def GP:U Q4->KT->D->U Q4
 |[],_,_=>[]
 |q::r,k,d=>if q.k=k then{q with z:=q.z++[d]}::r else q::GP r k d
theorem df(k:KT)(d:D):∀qs:U Q4,(GP qs k d).map Q4.b=qs.map Q4.b/\(GP qs k d).map Q4.k=qs.map Q4.k/\(GP qs k d).map q3=qs.map q3
 |[]=>⟨rfl,rfl,rfl⟩
 |q::r=>by
  obtain⟨a,c,e⟩:=df k d r;unfold GP;split
  ·exact⟨rfl,rfl,rfl⟩
  ·erw[AI,a,c,e];exact⟨trivial,trivial,trivial⟩
theorem UL{k:KT}{d:D}:∀{qs:U Q4},k∈qs.map Q4.k->(GP qs k d).map qz=Gp (qs.map qz) k d
 |[],h=>nomatch h
 |q::r,h=>by
  unfold GP;split
  ·next e=>erw[AI,Gp,qz,e,if_true]
  ·next e=>
   have:k∈r.map Q4.k:=by
    rcases Bh.mp h with z|z
    ·exact absurd z.symm e
    ·exact z
   erw[AI,Gp];rw[UL this,if_neg (show ¬ (qz q).1=k from e)]
theorem dg{k:KT}{d:D}:∀{qs:U Q4},k∉qs.map Q4.k->Gp (qs.map qz) k d=qs.map qz++[(k,[d])]
 |[],_=>rfl
 |q::r,h=>by
  erw[AI,Bh,not_or]at h;erw[AI,Gp,EH];rw[if_neg (show ¬ (qz q).1=k from λz=>h.1 z.symm),dg h.2]
theorem dh{k:KT}{d:D}:∀{qs:U Q4},(qs.map Q4.k).Nodup->∀c∈GP qs k d,(c∈qs/\c.k≠k)\/∃q∈qs,q.k=k/\c={q with z:=q.z++[d]}
 |[],_,_,h=>nomatch h
 |q::r,nd,c,h=>by
  erw[AI,Gc]at nd;unfold GP at h;split at h
  ·next e=>
   rcases Bh.mp h with z|z
   ·exact .inr ⟨q,A8,e,z⟩
   ·exact .inl ⟨A9 _ z,λf=>nd.1 (by rw[e,<- f];exact Gq z)⟩
  ·next e=>
   rcases Bh.mp h with z|z
   ·rw[z];exact .inl ⟨A8,e⟩
   ·rcases dh nd.2 c z with⟨a,b⟩|⟨q0,a,b⟩
    ·exact .inl ⟨A9 _ a,b⟩
    ·exact .inr ⟨q0,A9 _ a,b⟩
theorem FL{k:KT}:∀{qs:U Q4},(∀v,CM (qs.map q3) k=Z v->∃q∈qs,q.k=k/\v=.ref q.b)/\(CM (qs.map q3) k=yA->k∉qs.map Q4.k)
 |[]=>⟨λ_ h=>(nomatch h),λ_ h=>nomatch h⟩
 |q::r=>by
  obtain⟨c,i2⟩:=FL;erw[AI,CM];refine⟨λv h=>?_,λh=>?_⟩
  ·split at h
   ·next e=>cases h;exact⟨q,A8,e,rfl⟩
   ·obtain⟨q0,a,b⟩:=c v h;exact⟨q0,A9 _ a,b⟩
  ·split at h
   ·cases h
   ·next e=>exact λz=>(Bh.mp z).elim (λz=>e z.symm) (i2 h)
def Bw.step{K:Av}{M N b:Fb}(S:Step M N b H H'){k:KT}{v:V}(h:Bw K H k v):Bw K H' k v:=by
 cases k with
 | «at» a=>exact h
 |tup l=>obtain⟨p,e,q⟩:=h;exact⟨p,e,q.step S⟩
def rn{K:Av}{N:Fb}{k:KT}{v:V}(h:Bw K H k v):Au K N H (kD k) v:=by
 have at_:∀(a:At),Au K N H (aD a) (E6 a):=λa=>by cases a<;>erw[aD,E6,Au]
 cases k with| «at» a=>rw[show v=E6 a from h];exact at_ a|tup l=>
  obtain⟨p,e,q⟩:=h;erw[kD,Au];refine⟨p,_,e,q,?_⟩;clear q;induction l with
  |nil=>exact Ad.nil
  |cons a l b=>exact Ad.cons (at_ a) b
theorem UM{d g:Type}{f:d->g}:∀{l:U d},(l.map f).Nodup->∀{x y:d},x∈l->y∈l->f x=f y->x=y
 |[],_,_,_,h,_,_=>nomatch h
 |c::l,nd,x,y,i,j,e=>by
  erw[AI,Gc]at nd;rcases Bh.mp i with a|a<;>rcases Bh.mp j with b|b
  ·rw[a,b]
  ·rw[a]at e;exact absurd (e ▸ Gq b) nd.1
  ·rw[b]at e;exact absurd (e ▸ Gq a) nd.1
  ·exact UM nd.2 a b e
structure BH(K:Av)(M:Fb)(H0:Hp)(k:Nat)(a:Ac)(ρ:VE)(qs:List Q4)(σ:St)(H:Hp):Prop where
 rel:A6 K (M3 M a (qs.map Q4.b)) H0 ρ σ H
 pin:ρ[k]?=Z .no/\σ[k]?=Z (Z (.ref a))
 out:H a=Z (DD (qs.map q3))
 ins:∀q∈qs,Bw K H q.k q.kv/\∃vs,H q.b=Z (.lst vs)/\Ad K (Nf (M3 M a (qs.map Q4.b)) ρ σ) H q.z vs
 nd:(qs.map Q4.b).Nodup
 ne:a∉qs.map Q4.b
 kn:(qs.map Q4.k).Nodup
 fr:∀y,y=a\/y∈qs.map Q4.b->H0 y=yA/\¬ M y
 dp:Hn ρ=yB
section
variable{K:Av}{M:Fb}{k:Nat}{ρ':VE}{σ':St}
def BH.over(R:BH K M H0 k a ρ qs σ H)(d:A6 K (M3 M a (qs.map Q4.b)) H0 ρ' σ' H')(S:Step (M3 M a (qs.map Q4.b)) (Nf (M3 M a (qs.map Q4.b)) ρ σ) (Nf (M3 M a (qs.map Q4.b)) ρ' σ') H H')(p:ρ'[k]?=Z .no/\σ'[k]?=Z (Z (.ref a)))(dp:Hn ρ'=yB):BH K M H0 k a ρ' qs σ' H':=⟨d,p,S.kp _ _ R.out<|.inr<|.inl<|.inr<|.inl rfl,λq c=>by
  obtain⟨e,f,g,h⟩:=R.ins q c;exact⟨e.step S,f,S.kp _ _ g<|.inr<|.inl<|.inr<|.inr<|Gq c,Ad.step S _ _ h⟩,R.nd,R.ne,R.kn,R.fr,dp⟩
def BH.st(R:BH K M H0 k a ρ qs σ H)(s:Ai H H'):BH K M H0 k a ρ qs σ H':=R.over (R.rel.st s) (Step.of_same s) R.pin R.dp
def BH.chg{u u':HO}(R:BH K M H0 k a ρ qs σ H)(l:c=a\/c∈qs.map Q4.b)(t:H c=Z u)(v:FZ u=yB):A6 K (M3 M a (qs.map Q4.b)) H0 ρ σ (AM H c u')/\Step M (Nf (M3 M a (qs.map Q4.b)) ρ σ) (Nf (M3 M a (qs.map Q4.b)) ρ σ) H (AM H c u'):=by
 obtain⟨r,A⟩:=R.fr c l;have S:Step (λy=>M3 M a (qs.map Q4.b) y/\y≠c) (Nf (M3 M a<|qs.map Q4.b) ρ σ) (Nf (M3 M a<|qs.map Q4.b) ρ σ) H (AM H c u'):=⟨λd o e z=>by
  by_cases hd:d=c
  ·subst hd;rcases z with z|z|z
   ·exact absurd (.inl<|.inr l) z
   ·exact absurd rfl z.2
   ·rw[t]at e;cases e;simp[v]at z
  ·rw[ZA hd];exact e,λ_ h=>.inl h⟩
 refine⟨⟨R.rel.len,λd o e=>?_,λd h=>?_,λj s e=>?_,R.rel.inj⟩,⟨λd o e z=>S.kp d o e<|z.imp id<|Or.imp (λm=>⟨.inl m,λw=>A<|w ▸ m⟩) id,S.nw⟩⟩
 ·have:d≠c:=λz=>by simp[z,r]at e
  rw[ZA this];exact R.rel.same d o e
 ·by_cases hd:d=c
  ·rw[hd,D4];exact λz=>nomatch z
  ·rw[ZA hd];exact R.rel.mh d h
 ·have q:=R.rel.slot j s e;cases s with
  |no=>trivial
  |val d=>obtain⟨w,g,f⟩:=q;exact⟨w,g,Au.step S _ _ f⟩
  |own B E I=>
   obtain⟨d,n,g,f,i,p,G⟩:=q;have:d≠c:=λz=>i<|z ▸ .inr l;exact⟨d,n,g,f,i,by rw[ZA this];exact p,Ad.step S _ _ G⟩
  |lent B E=>
   obtain⟨d,n,g,f,i,p⟩:=q;have:d≠c:=λz=>f.2 (by rw[z];exact r);exact⟨d,n,g,f,i.step S<|.inr<|.inl ⟨f.1,this⟩,Ad.step S _ _ p⟩
  |exc d=>obtain⟨x,C,g,f,i⟩:=q;exact⟨x,C,g,f,S.kp _ _ i<|.inr<|.inr rfl⟩
  |pin d=>exact q
  |deep F L=>
   have:=CK.mp R.dp _<|Ip e;simp at this
def BH.app(R:BH K M H0 k a ρ qs σ H)(h:q∈qs)(o:H q.b=Z (.lst vs))(hd:Au K (Nf (M3 M a (qs.map Q4.b)) ρ σ) H d v):BH K M H0 k a ρ (GP qs q.k d) σ (AM H q.b (.lst (vs++[v])))/\Step M (Nf (M3 M a (qs.map Q4.b)) ρ σ) (Nf (M3 M a ((GP qs q.k d).map Q4.b)) ρ σ) H (AM H q.b (.lst (vs++[v]))):=by
 obtain⟨f,s,t⟩:=df q.k d qs;have p:q.b∈qs.map Q4.b:=Gq h;obtain⟨u,S1⟩:=R.chg (u':=.lst<|vs++[v]) (.inr p) o rfl;have i:a≠q.b:=λe=>R.ne<|e ▸ p;have j:∀c∈qs,c.k=q.k->c=q:=λc l e=>UM R.kn l h e;rw[f];refine⟨⟨by rw[f];exact u,R.pin,by rw[t,ZA i];exact R.out,λc l=>?_,by rw[f];exact R.nd,by rw[f];exact R.ne,by rw[s];exact R.kn,by rw[f];exact R.fr,R.dp⟩,S1⟩;rw[f];rcases dh R.kn c l with⟨m1,m2⟩|⟨q0,m1,m2,w⟩
 ·obtain⟨m,r,g,n⟩:=R.ins c m1;have:c.b≠q.b:=λe=>m2 (by rw[UM R.nd m1 h e]);exact⟨m.step S1,r,by rw[ZA this];exact g,Ad.step S1 _ _ n⟩
 ·have x:=j q0 m1 m2;subst x w;obtain⟨m,r,g,n⟩:=R.ins q0 m1;rw[o]at g;cases g;exact⟨m.step S1,_,D4,Ad.step S1 _ _<|n.append<|Ad.cons hd Ad.nil⟩
def BH.new(R:BH K M H0 k a ρ qs σ H)(i:H p=yA)(hk:Bw K H g w)(hn:g∉qs.map Q4.k):BH K M H0 k a ρ (qs++[(⟨g,w,p,[]⟩:Q4)]) σ (AM (AM H p (.lst [])) a (DD (qs.map q3++[(g,w,.ref p)])))/\Step M (Nf (M3 M a (qs.map Q4.b)) ρ σ) (Nf (M3 M a ((qs++[(⟨g,w,p,[]⟩:Q4)]).map Q4.b)) ρ σ) H (AM (AM H p (.lst [])) a (DD (qs.map q3++[(g,w,.ref p)]))):=by
 have G:p≠a:=λe=>by simp[e,R.out]at i
 have L:p∉qs.map Q4.b:=λh=>by
  obtain⟨q,hq,e⟩:=List.mem_map.mp h;obtain⟨_,vs,f,_⟩:=R.ins q hq;rw[e,i]at f;cases f
 have r:Ai H (AM H p<|.lst []):=Eh i;have T:=R.st r;obtain⟨t,S1⟩:=T.chg (u':=DD<|qs.map q3++[(g,w,.ref p)]) (.inl rfl) T.out rfl;generalize A:AM (AM H p<|.lst []) a (DD<|qs.map q3++[(g,w,.ref p)])=S at *;have Y:S p=Z (.lst []):=by rw[<- A,ZA G,D4]
 have B:(qs++[(⟨g,w,p,[]⟩:Q4)]).map Q4.b=qs.map Q4.b++[p]:=by simp
 have nf:∀y,Nf (M3 M a<|qs.map Q4.b++[p]) ρ σ y->Nf (M3 M a<|qs.map Q4.b) ρ σ y\/y=p:=by
  rintro y ((h|h|h)|h)
  ·exact .inl<|.inl<|.inl h
  ·exact .inl<|.inl<|.inr<|.inl h
  ·rcases Dk.mp h with h|h
   ·exact .inl<|.inl<|.inr<|.inr h
   ·exact .inr<|Ew.mp h
  ·exact .inl<|.inr h
 have np:¬ Nf (M3 M a<|qs.map Q4.b) ρ σ p:=R.rel.fresh i;have S2:Step (M3 M a<|qs.map Q4.b) (Nf (M3 M a<|qs.map Q4.b) ρ σ) (Nf (M3 M a<|qs.map Q4.b++[p]) ρ σ) H (AM H p<|.lst []):=⟨λc o e _=>r c o e,λy h=>(nf y h).imp id λ(z:y=p)=>by rw[z];exact i⟩;have S3:Step M (Nf (M3 M a<|qs.map Q4.b) ρ σ) (Nf (M3 M a<|qs.map Q4.b++[p]) ρ σ) H S:=⟨λc o e z=>S1.kp c o (r c o e) z,λy h=>(nf y h).imp id λ(z:y=p)=>by rw[z];exact i⟩;rw[B];refine⟨⟨?_,R.pin,?_,λq' C=>?_,?_,?_,?_,λy n=>?_,R.dp⟩,S3⟩
 ·rw[B];refine⟨t.len,t.same,λy n=>?_,λj s e=>?_,t.inj⟩
  ·rcases n with h|h|h
   ·exact t.mh y<|.inl h
   ·exact t.mh y<|.inr<|.inl h
   ·rcases Dk.mp h with h|h
    ·exact t.mh y<|.inr<|.inr h
    ·rw[Ew.mp h,Y];exact λz=>nomatch z
  ·have q0:=R.rel.slot j s e;have q:=t.slot j s e;cases s with
   |no=>trivial
   |val d=>obtain⟨w,E,l⟩:=q0;exact⟨w,E,Au.step S3 _ _ l⟩
   |own xs fl oo=>
    obtain⟨c,I,E,l,f,u,h4⟩:=q0;obtain⟨F,N,v,_,P,h3',_⟩:=q;have ec:F=c:=by rw[E]at v;simpa using v.symm
    subst ec;refine⟨F,I,E,l,λz=>?_,?_,Ad.step S3 _ _ h4⟩
    ·rcases z with z|z|z
     ·exact f<|.inl z
     ·exact f<|.inr<|.inl z
     ·rcases Dk.mp z with z|z
      ·exact f<|.inr<|.inr z
      ·rw[Ew.mp z,i]at u;cases u
    ·have n1:F≠a:=λz=>f<|.inr<|.inl z;rw[<- A,ZA n1];exact r _ _ u
   |lent xs fl=>
    obtain⟨c,I,E,l,f,u⟩:=q0;obtain⟨F,N,v,_,P,_⟩:=q;refine⟨c,I,E,⟨l.1.imp id<|Or.imp id λh=>Gy _ h,l.2⟩,?_,Ad.step S3 _ _ u⟩;have n1:c≠a:=λz=>l.2 (by rw[z];exact(R.fr a<|.inl rfl).1);rcases f with f|⟨o,f⟩
    ·exact .inl (by rw[<- A,ZA n1];exact r _ _ f)
    ·exact .inr ⟨o,by rw[<- A,ZA n1];exact r _ _ f⟩
   |exc c=>exact q
   |pin c=>exact q
   |deep ys oa=>
    have:=CK.mp R.dp _<|Ip e;simp at this
 ·rw[<- A,D4];simp[q3]
 ·rw[B];rcases Dk.mp C with C|C
  ·obtain⟨l,I,f,u⟩:=R.ins q' C;have n1:q'.b≠a:=λe=>R.ne<|e ▸ Gq C;exact⟨l.step S3,I,by rw[<- A,ZA n1];exact r _ _ f,Ad.step S3 _ _ u⟩
  ·rw[Ew.mp C];exact⟨hk.step S3,[],Y,Ad.nil⟩
 ·rw[B];exact GH.mpr ⟨R.nd,by simp,λx Q y n=>by rw[Ew.mp n];exact λz=>L<|z ▸ Q⟩
 ·rw[B];intro h;rcases Dk.mp h with h|h
  ·exact R.ne h
  ·exact G (Ew.mp h).symm
 ·have:(qs++[(⟨g,w,p,[]⟩:Q4)]).map Q4.k=qs.map Q4.k++[g]:=by simp
  rw[this];exact GH.mpr ⟨R.kn,by simp,λx Q y n=>by rw[Ew.mp n];exact λz=>hn<|z ▸ Q⟩
 ·rw[B]at n;rcases n with h|h
  ·exact R.fr y<|.inl h
  ·rcases Dk.mp h with h|h
   ·exact R.fr y<|.inr h
   ·rw[Ew.mp h];exact⟨R.rel.same.free i,λm=>np<|.inl<|.inl m⟩
end
section
variable{K:Av}{M:Fb}{k:Nat}
def BH.open(R:A6 K M H0 ρ σ H)(r:ρ[k]?=Z (.own [] .d yA))(o:σ[k]?=Z (Z (.ref a)))(dp:Hn ρ=yB):BH K M H0 k a (ρ.set k .no) [] σ H/\Nf (M3 M a []) (ρ.set k .no) σ=Nf M ρ σ:=by
 obtain⟨L,vs,l,⟨N,_⟩,P,E,G⟩:=R.slot k _ r;rw[o]at l;have Q:a=L:=by simpa using l
 subst Q;erw[Ad]at G;subst G;have m:=(List.getElem?_eq_some_iff.mp r).1;have u:∀{i b f g},(ρ.set k .no)[i]?=Z (Sl.own b f g)->ρ[i]?=Z (Sl.own b f g)/\i≠k:=λ{i b f g} z=>by
  by_cases e:k=i
  ·subst e;simp[Dz m]at z
  ·exact⟨by rwa[C1 e]at z,λh=>e h.symm⟩
 have I:Nf (M3 M a []) (ρ.set k .no) σ=Nf M ρ σ:=by
  funext y;refine propext ⟨?_,?_⟩
  ·rintro((h|h|h)|⟨i,b,f,g,p,n⟩)
   ·exact .inl h
   ·exact .inr ⟨k,[],.d,yA,r,by rw[h];exact o⟩
   ·cases h
   ·exact .inr ⟨i,b,f,g,(u p).1,n⟩
  ·rintro(h|⟨i,b,f,g,p,n⟩)
   ·exact .inl<|.inl h
   ·by_cases e:k=i
    ·subst e;rw[o]at n;cases n;exact .inl<|.inr<|.inl rfl
    ·exact .inr ⟨i,b,f,g,by rw[C1 e];exact p,n⟩
 refine⟨⟨⟨by rw[Kw];exact R.len,R.same,λy v=>?_,λj s e=>?_,λi j b F f w g x c p n T S=>R.inj i j b F f w g x c (u p).1 (u n).1 T S⟩,⟨Dz m,o⟩,E,λq h=>(nomatch h),.nil,λh=>(nomatch h),.nil,λy v=>?_,?_⟩,I⟩
 ·rcases v with h|h|h
  ·exact R.mh y h
  ·rw[h,E];exact λz=>nomatch z
  ·cases h
 ·show Tp K (M3 M a []) (Nf (M3 M a []) (ρ.set k .no) σ) H0 H s _
  rw[I];by_cases A:k=j
  ·subst A;rw[Dz m]at e;cases e;trivial
  ·rw[C1 A]at e;have q:=R.slot j s e;cases s with
   |own b f g=>
    obtain⟨c,B,l,t,C,Y⟩:=q;refine⟨c,B,l,t,λz=>?_,Y⟩;rcases z with z|z|z
    ·exact C z
    ·exact A<|R.inj k j [] b .d f yA g a r e o (by rw[<- z];exact Az l)
    ·cases z
   |lent b f=>obtain⟨c,B,l,t,C⟩:=q;exact⟨c,B,l,⟨.inl t.1,t.2⟩,C⟩
   |deep F oa=>
    have:=CK.mp dp _<|Ip e;simp at this
   |no=>trivial
   |val d=>exact q
   |exc c=>exact q
   |pin c=>exact q
 ·rcases v with h|h
  ·rw[h];exact⟨N,P⟩
  ·cases h
 ·refine CK.mpr λs hs=>?_;rcases cU hs with h|h
  ·exact CK.mp dp s h
  ·rw[h];rfl
def BH.pd(d:∀q∈qs,¬ N q.b)(h:∀q∈qs,Bw K H q.k q.kv/\∃vs,H q.b=Z (.lst vs)/\Ad K N H q.z vs):PD K N H (HY (qs.map qz)) (qs.map q3):=by
 induction qs with|nil=>exact .nil|cons q r e=>
  obtain⟨f,vs,g,i⟩:=h q A8;refine .cons ⟨rfl,rn f,?_⟩<|e (λa c=>d a<|A9 _ c) λa c=>h a<|A9 _ c;erw[Au];exact⟨q.b,vs,rfl,.of (d q A8) g,i⟩
def BH.close(R:BH K M H0 k a ρ qs σ H):A6 K M H0 (ρ.set k (.own (Zo (HY (qs.map qz))) .d)) σ H/\∀y,Nf M (ρ.set k (.own (Zo (HY (qs.map qz))) .d)) σ y->Nf (M3 M a (qs.map Q4.b)) ρ σ y:=by
 have v:=(List.getElem?_eq_some_iff.mp R.pin.1).1;have x:∀{i g l n},(ρ.set k<|.own (Zo<|HY<|qs.map qz) .d)[i]?=Z (Sl.own g l n)->i=k\/(i≠k/\ρ[i]?=Z (Sl.own g l n)):=λ{i g l n} z=>by
  by_cases e:k=i
  ·exact .inl e.symm
  ·exact .inr ⟨λh=>e h.symm,by rwa[C1 e]at z⟩
 have A:∀y,Nf M (ρ.set k<|.own (Zo<|HY<|qs.map qz) .d) σ y->Nf (M3 M a<|qs.map Q4.b) ρ σ y/\y∉qs.map Q4.b:=by
  rintro y (h|⟨i,g,l,n,B,t⟩)
  ·exact⟨.inl<|.inl h,λm=>(R.fr y<|.inr m).2 h⟩
  ·rcases x B with e|⟨e,w⟩
   ·subst e;rw[R.pin.2]at t;cases t;exact⟨.inl<|.inr<|.inl rfl,R.ne⟩
   ·refine⟨.inr ⟨i,g,l,n,w,t⟩,λm=>?_⟩;obtain⟨c,u,f,_,p,_⟩:=R.rel.slot i _ w;rw[t]at f;have:c=y:=by simpa using f.symm
    exact p<|this ▸ .inr (.inr m)
 have nw:∀y,Nf M (ρ.set k<|.own (Zo<|HY<|qs.map qz) .d) σ y->Nf (M3 M a<|qs.map Q4.b) ρ σ y\/H y=yA:=λy h=>.inl (A y h).1;refine⟨⟨by rw[Kw];exact R.rel.len,R.rel.same,λy h=>R.rel.mh y<|.inl h,λj s e=>?_,λi j g Q l C n E c B t G I=>?_⟩,λy h=>(A y h).1⟩
 ·by_cases T:k=j
  ·subst T;rw[Dz v]at e;cases e;have S:=BH.pd (N:=Nf M (ρ.set k<|.own (Zo<|HY<|qs.map qz) .d) σ) (λq F h=>(A _ h).2<|Gq F) λq F=>by
    obtain⟨o,vs,p,r⟩:=R.ins q F;exact⟨o,vs,p,r.nw nw⟩
   exact⟨a,DZ<|qs.map q3,by rw[R.pin.2];rfl,⟨(R.fr a<|.inl rfl).1,λ_ z=>(nomatch z)⟩,(R.fr a<|.inl rfl).2,by rw[LP S];exact R.out,S.flat⟩
  ·rw[C1 T]at e;have q:=R.rel.slot j s e;cases s with
   |no=>trivial
   |val d=>obtain⟨w,f,o⟩:=q;exact⟨w,f,o.nw nw⟩
   |own g l n=>obtain⟨c,u,f,o,p,r,L⟩:=q;exact⟨c,u,f,o,λz=>p<|.inl z,r,L.nw nw⟩
   |lent g l=>obtain⟨c,u,f,o,p,r⟩:=q;exact⟨c,u,f,⟨o.1.elim id λhc=>absurd (R.fr c hc).1 o.2,o.2⟩,p,r.nw nw⟩
   |exc c=>exact q
   |pin c=>exact q
   |deep Q oa=>
    have:=CK.mp R.dp _<|Ip e;simp at this
 ·have no:∀{i g l n},ρ[i]?=Z (Sl.own g l n)->σ[i]?=Z (Z<|V.ref c)->σ[k]?≠Z (Z<|V.ref c):=λ{i g l n} o p r=>by
   rw[R.pin.2]at r;cases r;obtain⟨c',u,f,_,L,_⟩:=R.rel.slot i _ o;rw[p]at f;have:c'=a:=by simpa using f.symm
   exact L<|this ▸ .inr (.inl rfl)
  rcases x B with f|⟨f,Y⟩<;>rcases x t with P|⟨P,v2⟩
  ·rw[f,P]
  ·subst f;exact absurd G<|no v2 I
  ·subst P;exact absurd I<|no Y G
  ·exact R.rel.inj i j g Q l C n E c Y v2 G I
variable{ev:Expr}{f:VE->O (U D)}{b:D->VE->O VE}{fv:VE->O D}{x:Ae}{lp vp a1 c1 a2 c2 ep:AQ}
theorem ro(hu:X.A.units+64<AA)(hp:PassesOwn (Ag X.prog X.w) X.A X.env X.xe)(hc:X.calm=yB)(hi:JI X tg iter (tI X.K M H0 f))(hg:∀M,JG X tg (tG X.K M H0 ws b))(hek:∀M,JE X ek (tP X.K M H0 fk))(hev:∀M,JE X ev (tD X.K M H0 fv))(hw:k∉ws:=by ext) (hN:NV X k x:=by exact CG) (hbase:Fw (.Name x vp) "setdefault" X.env (Ax (.Name x vp) X.env)=Ax (.Name x vp) X.env:=by rfl) (hfew:((AL c1 (AY [ek,.List [] lp] X.env)).all (λx=>!x.1)&&(Ga c1 (Gb [] X.env)).all (λx=>x.1.isSome) && decide ([ek,.List [] lp].length+([]:U ET).length+(if([]:U ET).isEmpty then 0 else 1)<30))=yB:=by rfl) (hline:(a1.endLine==c1.line)=yB:=by rfl) (hst:autoParam (AY [ek,.List [] lp] X.env=(yC,Ax ek X.env)::AY [.List [] lp] X.env) ye) (hst2:autoParam (AY [.List [] lp] X.env=(yC,Ax (.List [] lp) X.env)::AY [] X.env) ye) (hpl:(AL c1 (AY [.List [] lp] X.env)).any (·.1)=yC:=by rfl) (T:Fw (.Call (.Attribute (.Name x vp) "setdefault" a1) [ek,.List [] lp] [] c1) "append" X.env (Ax (.Call (.Attribute (.Name x vp) "setdefault" a1) [ek,.List [] lp] [] c1) X.env)=Ax (.Call (.Attribute (.Name x vp) "setdefault" a1) [ek,.List [] lp] [] c1) X.env:=by rfl) (hfew2:((AL c2 (AY [ev] X.env)).all (λx=>!x.1)&&(Ga c2 (Gb [] X.env)).all (λx=>x.1.isSome) && decide ([ev].length+([]:U ET).length+(if([]:U ET).isEmpty then 0 else 1)<30))=yB:=by rfl) (W:(a2.endLine==c2.line)=yB:=by rfl) (hst3:autoParam (AY [ev] X.env=(yC,Ax ev X.env)::AY [] X.env) ye) (hpl2:(AL c2 (AY [] X.env)).any (·.1)=yC:=by rfl) (hsw:DB (.Call (.Attribute (.Call (.Attribute (.Name x vp) "setdefault" a1) [ek,.List [] lp] [] c1) "append" a2) [ev] [] c2) yA ep.line X.env=AH yC:=by rfl) (hs:∀x,FV iter X.env x=AH x:=by intro _;rfl):JS X (.For tg iter [.Expr (.Call (.Attribute (.Call (.Attribute (.Name x vp) "setdefault" a1) [ek,.List [] lp] [] c1) "append" a2) [ev] [] c2) ep] [] pos) (tS X.K M H0 (PH k f b fk fv)):=⟨by
 have hgt:PG X tg (λv σ H Q=>∃M,tG X.K M H0 ws b v σ H Q):=λC s σ H v u Q I r ⟨M,h⟩=>(hg M).h C s σ H v u Q I r h;have pk:PE X ek (λσ H Q=>∃M,tP X.K M H0 fk σ H Q):=λC s σ H Q I ⟨M,z⟩=>(hek M).h C s σ H Q I z;have pv:PE X ev (λσ H Q=>∃M,tD X.K M H0 fv σ H Q):=λC s σ H Q I ⟨M,z⟩=>(hev M).h C s σ H Q I z;have pb:=F7 (Ik (Iw Jz PySem.F.slot_list_append PySem.F.type_list_append YU
  (Iw bP T1 PySem.F.type_dict_setdefault (bB hu) (Eg hN) (Ee pk (Ee (YA Bm) Bm hst2) hst) hbase hfew hline hst hpl) (Ee pv Bm hst3) T hfew2 W hst3 hpl2) hsw)<|BY (X:=X)
 refine(Sx hp hc hi.h hgt pb hs).mono λD σ H ⟨ρ,R,q⟩=>?_;unfold PH at q;split at q
 ·next L hk hf=>
  split at q
  ·next dp=>
   split at q
   ·next pr hfor=>
    refine⟨ρ,L,R,hf,λP H1 s1 ok=>?_⟩;have R1:=R.st s1;obtain⟨a,vs,e1,_⟩:=R1.slot k _ hk;have ha:=Az e1;obtain⟨G0,en⟩:=BH.open R1 hk ha dp;refine⟨λi m σi Hi=>m=L.length-i/\i<=L.length/\∃d j,BH X.K M H0 k a d j σi Hi/\Step M (Nf M ρ σ) (Nf (M3 M a<|j.map Q4.b) d σi) H1 Hi/\Ja k b fk fv (L.drop i) d (j.map qz)=Z pr,⟨L.length,by simp,E7 _,_,[],G0,by rw[<- en];exact Step.refl,hfor⟩,?_⟩;rintro i m σi Hi ⟨rfl,hle,d,j,Ri,Si,S⟩;obtain⟨ok1,ok2⟩:=ok _ _ Si i;by_cases hlt:i<L.length
    ·obtain⟨go,y⟩:=ok1 L[i]<|Dl hlt;rw[MF hlt]at S;erw[Ja]at S;split at S
     ·next E hb=>
      split at S
      ·next h1k h1d=>
       obtain⟨zs',g,S⟩:=Option.bind_eq_some_iff.mp S;refine .inr ⟨go,λσ' H'=>i+1<=L.length/\∃d j,BH X.K M H0 k a d j σ' H'/\Step M (Nf M ρ σ) (Nf (M3 M a<|j.map Q4.b) d σ') H1 H'/\Ja k b fk fv (L.drop<|i+1) d (j.map qz)=Z pr,λσ' H' z=>⟨L.length-(i+1),by lia,rfl,z⟩,λv H' yl=>?_⟩;obtain⟨s3,hd⟩:=y v H' yl;have R3:=Ri.st s3;refine⟨_,d,L[i],E,R3.rel,hd,hb,λG Rb Sb fx=>?_⟩;have R4:BH X.K M H0 k a E j G H':=R3.over Rb Sb ⟨h1k,by rw[fx k hw];exact R3.pin.2⟩ h1d;have S4:Step M (Nf M ρ σ) (Nf (M3 M a<|j.map Q4.b) E G) H1 H':=Si.trans<|(Step.of_same s3).trans ⟨λc o e z=>Sb.kp c o e<|z.imp id<|Or.imp .inl id,Sb.nw⟩;unfold PF at g;split at g
       ·next yk dv hfk hfv=>
        split at g
        ·next B hkt=>
         split at g
         ·next hom=>
          obtain⟨⟨hl1,hl2⟩,e'⟩:=OM g;cases e';refine⟨.ref a,R4.pin.2,.inr<|.inr<|.inl ⟨rfl,.inr<|.inr ⟨_,_,.inl R4.out⟩⟩,M3 M a<|j.map Q4.b,E,yk,R4.rel,hfk,λw H5 s5 hw5=>⟨E7 _,λp Y=>?_⟩⟩;have R5:=R4.st s5;rw[JU hkt]at hw5;have kv5:Bw X.K H5 B w:=JV<|KR hw5;have homk:GI B (j.map q3):=by
           have:=CK.mp hom;cases B with
           | «at» u=>
            intro t ht;obtain⟨q0,n,rfl⟩:=List.mem_map.mp ht;have:=this (qz q0)<|Gq n;cases hq:q0.k with
            | «at» v=>exact⟨v,by rw[<- hq];rfl⟩
            |tup l=>simp[qz,hq,El]at this
           |tup u=>
            intro t ht;obtain⟨q0,n,rfl⟩:=List.mem_map.mp ht;have:=this (qz q0)<|Gq n;cases hq:q0.k with
            | «at» v=>simp[qz,hq,El]at this
            |tup l=>exact⟨l,by rw[<- hq];rfl⟩
          have hpa:p≠a:=λe=>by rw[e,R5.out]at Y;cases Y
          have s6:Ai H5 (AM H5 p<|.lst []):=Eh Y;have R6:=R5.st s6;have fin:∀(q:Q4) (qj:U Q4) (H6:Hp),q∈qj->q.k=B->BH X.K M H0 k a E qj G H6->Step M (Nf M ρ σ) (Nf (M3 M a<|qj.map Q4.b) E G) H1 H6->(GP qj B dv).map qz=Gp (j.map qz) B dv->q.z.length<AB ->
            Mz X.K "list" (.ref q.b) H6/\∃M',tD X.K M' H0 fv G H6 λv H7=>∃l xs y,(V.ref q.b=.ref l/\[v]=[y]/\H7 l=Z (.lst xs)/\xs.length<AB/\(i+1<=L.length/\∃d j,BH X.K M H0 k a d j G (AM H7 l<|.lst<|xs++[y])/\Step M (Nf M ρ σ) (Nf (M3 M a<|j.map Q4.b) d G) H1 (AM H7 l<|.lst<|xs++[y])/\Ja k b fk fv (L.drop<|i+1) d (j.map qz)=Z pr)):=λq qj H6 hq hqk R6 S6 hz hzl=>by
           obtain⟨_,us,hus,hdl⟩:=R6.ins q hq;refine⟨.inl ⟨rfl,us,.inl<|.inl hus⟩,_,E,dv,R6.rel,hfv,λv H7 s7 hv7=>?_⟩;have R7:=R6.st s7;obtain⟨R8,S8⟩:=R7.app hq (s7 _ _ hus) hv7;refine⟨q.b,us,v,rfl,rfl,s7 _ _ hus,by rw[<- hdl.length];exact hzl,hlt,E,_,R8,S6.trans<|(Step.of_same s7).trans S8,?_⟩;rw[hqk,hz];exact S
          refine⟨a,j.map q3,B,w,.ref p,rfl,rfl,by rw[ZA<|CT hpa];exact R5.out,λt ht=>?_,homk,kv5.step<|Step.of_same (M:=M) (N:=M) s6,by simpa using hl1,λu hu'=>?_,λhn=>?_⟩
          ·obtain⟨q0,n,rfl⟩:=List.mem_map.mp ht;exact(R6.ins q0 n).1
          ·obtain⟨q0,n,hk0,rfl⟩:=FL.1 u hu';exact fin q0 j _ n hk0 R6 (S4.trans<|Step.of_same<|s5.trans s6) (UL<|hk0 ▸ Gq n)<|hl2 (qz q0)<|Gq n
          ·have hnk:=FL.2 hn;obtain⟨R9,S9⟩:=R5.new Y kv5 hnk;have ep3:D0 (j.map q3) B w (.ref p)=j.map q3++[(B,w,.ref p)]:=by unfold D0;rw[hn];rfl
           rw[ep3];refine fin ⟨B,w,p,[]⟩ (j++[⟨B,w,p,[]⟩]) _ (Df _ A8) rfl R9 ((S4.trans<|Step.of_same s5).trans S9) ?_ (by rw[F9];simp);have hin:B∈(j++[(⟨B,w,p,[]⟩:Q4)]).map Q4.k:=by simp
           rw[UL hin,Fj,dg hnk];have:∀{l:U Q4},B∉l.map Q4.k->Gp (l.map qz++[(B,[])]) B dv=l.map qz++[(B,[dv])]:=by
            intro l;induction l with|nil=>intro _;simp[Gp]|cons q r ih=>
             intro h;erw[AI,Bh,not_or]at h;erw[AI,EH,Gp];rw[if_neg (show ¬ (qz q).1=B from λz=>h.1 z.symm),ih h.2]
           exact this hnk
         ·cases g
        ·cases g
       ·cases g
      ·cases S
     ·cases S
    ·have e:i=L.length:=by lia
     rw[MD (by lia)]at S;erw[Ja,MO]at S;subst S;refine .inl ⟨ok2 e,?_⟩;obtain⟨Rc,uc⟩:=Ri.close;exact q _ _ Rc<|(Step.of_same s1).trans<|Si.trans ⟨λc o e _=>e,λy h=>.inl<|uc y h⟩
   ·exact Bo q
  ·exact Bo q
 ·exact Bo q⟩
end
section
variable{prog:A4}{w:Aj}{A:Ah}{s:Ab}
def rp(d:s.heap.get? a=Z (seqObj "list" [v].toArray n))(h:P (.done (.ret .none)) {s with heap:=sortedHeap s.heap a [v] #[v]}):wpAny (Ag prog w) A (Fd.«list.sort» ⟨[.ref a],[]⟩) P E s:=by
 rw[list_sort_plain];have f:=BC d;refine Al<|listItems_at d rfl ?_;refine Al<|Nh d rfl ?_ (by simp[F9]) (by simp);obtain⟨e,b⟩:∃e,(s.heap.update a<|E8 λ_=>#[]).get? a=Z (seqObj "list" #[] e):=⟨_,get?_update_seq d<|λ_=>#[]⟩;refine Al<|seqEpoch_at b rfl ?_;refine Al<|wpAny_newTuple ?_ (by simp[F9]);refine Al<|wpAny_newList ?_;refine FU ?_;have c:(((s.heap.update a<|E8 λ_=>#[]).push (seqObj "tuple" [v].toArray 0)).push (seqObj "list" #[] 0)).get? a=Z (seqObj "list" #[] e):=by
  rw[Heap.get?_push_ne _ _ _ (by rw[size_push',Heap.size_update];exact CD<|Nat.lt_succ_of_lt f),Heap.get?_push_ne _ _ _ (by rw[Heap.size_update];exact CD f)];exact b
 show wpAny (Ag prog w) A _ P E {s with heap:=((s.heap.update a (E8 λ_=>#[])).push (seqObj "tuple" [v].toArray 0)).push (seqObj "list" #[] 0)}
 dsimp only;have g:[v].toArray.size<2:=by simp
 rw[if_pos g,if_pos g];refine Al<|AO ?_;rw[StateT.run_pure];refine Al<|AO ?_;dsimp only;refine Al<|seqEpoch_at c rfl ?_;refine Al<|Nh c rfl ?_ (by simp) (hsz2:=by rw[Array.size_map];show([v].toArray.zip [v].toArray).size<=_;simp);erw[bne_self_eq_false,EG,if_false];have j:#[v].zip #[v]=#[(v,v)]:=by simp
 rw[j];have k:Array.map (λx=>x.snd) (arrOf<|SortSt.mk' general' #[(v,v)] #[] 7 yA)=#[v]:=by
  show Array.map (λx:Aa×Aa=>x.snd) #[(v,v)]=#[v]
  simp
 rw[k];exact AO h
end
section
variable{s:Ab}
theorem rq(c:X.calm=yB)(I:Inv X pins σ H s)(h:B8 X.K H a [t]){Q:VK}(q:∀i,H i=yA->Q (.ref i) (AM H i (.lst [t.2.1]))):wpAny (Ag X.prog X.w) X.A (call (.builtin "sorted") [.ref a]) (EP X pins σ Q) X.xe s:=by
 obtain⟨z,B,nd,o,f,l,C,E,G,m⟩:=h.1.ok I.hok;have n:=Uj m;have L:[t].length=f.size:=by have:=n.length;simpa using this
 refine Calls.call_function_entry kind_sorted plain_sorted entry_sorted (args_sorted1 _) ?_;unfold Fd.«sorted»;refine Al<|AO ?_;refine Al<|qf (ce B) (by show X.A.handled=yA;exact I.ok.hd c) ⟨o,C,E,G⟩ (by rw[F9];simp at L;lia) λM p N F T=>?_;have d:=cf T;rw[d];have r:=I.kept (t':=p) F;generalize v:List.map (λe=>e.key) f.toList=j at *;have x:As [t.2.1] j:=n;obtain⟨u,rfl,ru⟩:=Et x;refine Al<|wpAny_newList ?_ (by rw[F9];simp);generalize Y:({heap:=M,gens:=s.gens,drawn:=s.drawn,toks:=p,os:=s.os}:Ab)=k at *;have g:(k.heap.push<|seqObj "list" [u].toArray 0).get? k.heap.objs.size=Z (seqObj "list" [u].toArray 0):=Cm _ rfl;refine Al<|FU<|G1 slot_list_sort ⟨_,g,rfl⟩ entry_list_sort (rp g ⟨_,rfl,?_⟩)<|args_list_sort _;refine AO ⟨_,rfl,?_⟩;obtain⟨e,he⟩:=sortedHeap_at (out:=#[u]) g;refine⟨.ref _,_,r.laid (t':=k.toks) (o:=.lst [t.2.1]) (λb u z=>?_) (Bl _) ?_,rfl,q _<|r.hok.fresh<|Bl _⟩
 ·have y:=BC z;rw[sortedHeap_old (CD y) (by rw[Io];exact Nat.lt_succ_of_lt y)];exact BG _ z
 ·exact⟨by rw[F9];simp,[u],e,x,he⟩
end
section
variable{M:Fb}{e:Expr}{f:VE->O D}{x:Ae}{p:AQ}
def L5(o:O D):O (U D):=match o with
 |some (.lst b .d)=>(DO b).bind λa=>if a.length=1 then Z (a.map λp=>kD p.1)else yA
 |_=>yA
def dj(C:X.calm=yB)(E:Gl X x)(G:X.mg x=yA)(F:Fq x=Z (.builtin "sorted"))(L:JE X e (tP X.K M H0 f)) (N:x≠"__name__":=by ext) (k:(x==("__debug__":Ae))=yC:=by ext) (o:autoParam (AY [e] X.env=(yC,Ax e X.env)::AY [] X.env) ye):JE X (.Call (.Name x p) [e] [] pos) (tF X.K M H0 λρ=>L5 (f ρ)):=⟨by
 intro i s r H Q I h;obtain⟨ρ,ys,R,c,q⟩:=h;dsimp only at c;unfold L5 at c;split at c
 ·next l P=>
  cases m:DO l with|none=>simp[m]at c|some T=>
  rw[m]at c;erw[Ay]at c;split at c
  ·next n=>
   cases c;refine My<|HA I E G F ?_ N k;have S:=(Ee L.h (Bm) o) pos i s r H (λw j=>∃v,w=[v]/\Ai H j/\AC X.K (Nf M ρ r) j (.lst l .d) v) I ⟨ρ,.lst l .d,R,P,λv j y d1=>⟨v,rfl,y,d1⟩⟩;refine PyProof.Rows.callWith_builtin1 ?_ o rfl;refine A1 S λus y Y=>?_;obtain⟨w,j,I1,r1,v,rfl,sm,d1⟩:=Y;obtain⟨u,rfl,ru⟩:=Et r1;rw[Hm m]at d1;obtain⟨a,ws,rfl,sq,dl⟩:=d1;cases ru;obtain⟨A,dc,pd⟩:=IT sq dl;have B:=pd.kden;have lk:A.length=1:=by have:=B.length;simp[n]at this;lia
   obtain⟨t,rfl⟩:∃t,A=[t]:=List.length_eq_one_iff.mp lk;exact rq C I1 dc λda g=>q da [t.2.1] _ (sm.trans<|Eh g) (sm.none g) D4<|(B.nw λb hb=>hb.imp id λz=>by subst z;exact g).same (Eh g)
  ·cases c
 ·cases c⟩
end
structure MI(K:Av)(C:Ac)(nm qual:Ae)(st:Ar)(ps:List Ae)(a:Ac)(fd:A2):Prop where
 M:Kp K C nm a
 F:Ix K nm qual st a fd
 b:Binds K fd ps []
def mi{K:Av}{nm b:Ae}{st:Ar}{h:U Ae}{m:Aa}{n f:O Ac}{j:Array (O Aa)}{kV e g d ct:Aa} (A:findIn K (.ref C) nm=Z (Z (.ref a))) (i:isFn K (.ref a)=yB) (l:K.lookup a=Z ⟨m,n,.func (fnOf nm b (HG st) (DV st) (Zk st) .none kV e g f d ct),j⟩) (c:codeIn K d b=yB) (k:keepIn K (.ref a)=yB) (o:∀(kV e g:Aa) (f:O Ac) (d ct:Aa) (us:U Aa),us.length=h.length->bindArgs (fnOf nm b (HG st) (DV st) (Zk st) .none kV e g f d ct) ⟨us,[]⟩=AH (h.zip us):=by
   first|exact λ_ _ _ _ _ _=>us1 λ_=>rfl|exact λ_ _ _ _ _ _=>B7 λ_ _=>rfl|exact λ_ _ _ _ _ _=>cm λ_ _ _=>rfl):MI K C nm b st h a (fnOf nm b (HG st) (DV st) (Zk st) .none kV e g f d ct):=⟨⟨A,i,k⟩,YW l c k,.all<|o kV e g f d ct⟩
structure CI(K:Av)(mg:Ae->Option Aa)(c:Ae)(C:Ac):Prop where
 cof:nsIn K De c=Z (Z (.ref C))
 cl:Fv K C
 m:mg c=Z (.ref C)
 mks:makesIn K C=yB
 kp:keepIn K (.ref C)=yB
def ci{K:Av}{mg:Ae->O Aa}{h:Am}{c:Ae}(X:K.In h)(G:h.Ns De mg)(A:nsIn K De c=Z (Z (.ref C)))(pg:plainGet K C Str.empty=yB)(hd:hasDictIn K C=yB)(po:plainOver K C=yB)(sa:findIn K (.ref C) "__setattr__"=Z (Z (.builtin "object.__setattr__")))(a:makesIn K C=yB)(b:keepIn K (.ref C)=yB):CI K mg c C:=⟨A,⟨pg,hd,po,sa⟩,mg_of X G A,a,b⟩
def CI.mkB{K:Av}{mg:Ae->O Aa}{b:Ae}{st:Ar}{d:U Ae}{fd:A2}{e:Ae}(c:CI K mg e C)(q:MI K C "__init__" b st d a fd):Mk K C a:=⟨c.mks,q.M.at_,q.M.fn,c.kp⟩
def Nu{K:Av}{k:Nat}{fn:Ac}{fd:A2}{b:U Ae}{nm a:Ae}{st:Ar}{P:A4}{w:Aj}{mg:Ae->O Aa}{base:Am}{N:U Ae}{g f:VE->An}(D:MI K C nm a st b fn fd)(S:Zw N b (Zk st)) (h:∀(c:Aa) (A:Ah) (outer:U Env) (s:Ab) (H:Hp) (E:XK) (M:Fb) (H0:Hp),AZ k (A.deeper (By a (Zk st) s.heap.objs.size fn c))->JB (FY A3 P w K mg base N a (Zk st) fn c A outer s H E).nox (DV st) (tS K M H0 f)) (e:f=g:=by rfl) (d:b.length<=N.length:=by ext):Aw P w K mg base A3 (k+1) fn fd b (Bf K (AR b.length N.length g)):=aq D.F S d<|e ▸ h
def UN{K:Av}{k:Nat}{fn:Ac}{fd:A2}{b:U Ae}{nm a:Ae}{st:Ar}{P:A4}{w:Aj}{mg:Ae->O Aa}{base:Am}{N:U Ae}{g f:VE->O (Ac×RB)}(D:MI K C nm a st b fn fd)(S:Zw N b (Zk st)) (h:∀(c:Aa) (A:Ah) (outer:U Env) (s:Ab) (H:Hp) (E:XK) (M:Fb) (H0:Hp),AZ k (A.deeper (By a (Zk st) s.heap.objs.size fn c))->JB (FY A3 P w K mg base N a (Zk st) fn c A outer s H E).nox (DV st) (HW K M H0 f)) (e:f=g:=by rfl) (d:b.length<=N.length:=by ext):Aw P w K mg base A3 (k+1) fn fd b (Fl K (E1 b.length N.length g)):=cE D.F S h e d
def UO{K:Av}{k:Nat}{fn:Ac}{fd:A2}{a:U Ae}{nm:Ae}{st:Ar}{P:A4}{w:Aj}{mg:Ae->O Aa}{base:Am}{N:U Ae}{g d:VE->O (Ac×RB)}(D:DI K mg nm st a fn fd)(S:Zw N a (Zk st)) (f:∀(b:Aa) (A:Ah) (outer:U Env) (s:Ab) (H:Hp) (E:XK) (M:Fb) (H0:Hp),AZ k (A.deeper (By nm (Zk st) s.heap.objs.size fn b))->JB (FY A3 P w K mg base N nm (Zk st) fn b A outer s H E).nox (DV st) (HW K M H0 d)) (e:d=g:=by rfl) (c:a.length<=N.length:=by ext):Aw P w K mg base A3 (k+1) fn fd a (Fl K (E1 a.length N.length g)):=cE D.F S f e c
section
variable{M:Fb}{l:Expr}{f:VE->O D}{b:D->VE->O VE}{t:VE->O Bool}{e:VE->O D}
def dm(hw:∀j∈ws,j<n){F:U (Ac×AK)}{Q:VK}(I:Inv X F σ H s)(h:tF X.K M H0 (ZG n oix (λρ=>(f ρ).bind EQ) b t e) σ H Q):MB n oix (cY X.K (tQ X.K M H0 f)) (LA X.K ws b) (MQ X.K t) (MR X.K e) σ H (λv=>Cv X (Q v)):=by
 obtain⟨ρ,T,R,g,q⟩:=h;unfold ZG at g;dsimp only at g;cases S:f ρ with|none=>rw[S]at g;cases g|some d=>
 rw[S]at g;erw[Ay]at g;cases m:EQ d with|none=>rw[m]at g;cases g|some ds=>
 rw[m]at g;unfold EQ at m;split at m
 ·next ys=>
  cases Y:DO ys with|none=>rw[Y]at m;cases m|some L=>
  rw[Y]at m;cases m;refine⟨ρ,_,R,S,λv u E dq=>?_⟩;rw[Hm Y]at dq;obtain⟨a,A,rfl,hN,hr,dl⟩:=dq;obtain⟨i,dc,pd⟩:=IT hr dl;refine⟨a,i,rfl,dc,λo hz=>?_⟩;have R1:=R.st E;have fin:∀r,A6 X.K M r ρ σ (Cf a o (Di i) u)->(∀p A B,Ai (Cf a o (Di i) u) B->Cf a o (Di i) u p=yA->B p=Z (CO X.K .l p T A)->Ad X.K (λb=>Nf M ρ σ b\/b=p) B T A->Cv X (Q<|.ref p) B) ->
    Th n oix (LA X.K ws b) (MQ X.K t) (MR X.K e) (K3 a o (Di i)<|i.map λt=>t.2.1) σ (Cf a o (Di i) u) (λv=>Cv X<|Q v):=λr R2 q2=>by
   have core:=OO (K:=X.K) (M:=M) (H0:=r) (f:=λ_=>Z<|L.map λ(p:KT×D)=>kD p.1) (b:=b) (t:=t) (e:=e) (oix:=oix) (k:=n) hw (wi:=tI X.K M r λ_=>Z<|L.map λ(p:KT×D)=>kD p.1) (λ_ _ _ z=>z) (σ:=σ) (H:=Cf a o (Di i) u) (Q:=λv=>Cv X<|Q v) ⟨ρ,T,R2,g,q2⟩;obtain⟨ρ',ds',R',e',k⟩:=core;cases e';exact k _ _ (Ai.refl _)<|cZ pd hz
  rcases dc.1 with G|⟨o',G⟩
  ·refine fin _ (R1.fz rfl G<|c6 R1 hN) λp A B sm hp N C=>?_;have P:=sm a _<|IZ G;refine .inr ⟨a,o,Di i,I.plain2 E G rfl,P,q p A _ (λc w e=>?_) (E.none<|BZ.mp hp) (Nn N<|No _ _ _ _ _) (Ad.rd (λb v N h=>Rd.ufz N h) _ _ C)⟩;have e1:=E c w e;by_cases y:c=a
   ·subst y;rw[G]at e1;cases e1;exact K2 P
   ·rw[J1 λx=>y x.1];exact sm c w (by rw[FJ λx=>y x.1];exact e1)
  ·have e:Cf a o (Di i) u=u:=funext λb=>FJ (by rintro⟨rfl,y⟩;rw[G]at y;cases y);rw[e]at fin ⊢;exact fin _ R1 λp A B sm hp N C=>.inl<|q p A B (E.trans sm) (E.none hp) N C
 ·cases m
variable(own outs:U Ae)(oix:U Nat)(S:G4 own outs scope X.env.scope)(hox:oix.map (λj=>X.N[j]?)=outs.map Z)(hc:X.calm=yB)
include S hox hc
def ry(k:JE X l (tQ X.K M H0 f)) (d:CB X.K X own outs scope tg ifs elt ws b t e) (m:∀j∈ws,j<own.length) (n:∀x,FV l X.env x=AH x:=by intro _;rfl):JE X (.ListComp elt [⟨tg,l,ifs,0⟩] scope pos) (tF X.K M H0 (ZG own.length oix (λρ=>(f ρ).bind EQ) b t e)):=⟨λc s p H Q I h=>by
 refine A1 (Ti own outs oix S hox hc (UF k.h) d.g d.t d.e n c s p H (λv=>Cv X<|Q v) I (dm m I h)) λu A h=>?_;obtain⟨v,q,i,r,z⟩:=h;rcases z with z|⟨a,o,u,w,y,z⟩
 ·exact⟨v,q,i,r,z⟩
 ·exact⟨v,_,i.ufz y w,r,z⟩⟩
def rz{i:Nat}{x:Ae}{a c:AQ}(o:X.N.Nodup)(k:X.N[i]?=Z x)(p:X.env.scope.names.lookup x=Z .local)(q:JE X l (tQ X.K M H0 f)) (m:CB X.K X own outs scope tg ifs elt ws b t e) (r:∀j∈ws,j<own.length) (n:DB (.ListComp elt [⟨tg,l,ifs,0⟩] scope pos) (Z (.Name x a)) c.line X.env=AH yB:=by rfl) (u:∀x,FV l X.env x=AH x:=by intro _;rfl):JS X (.Assign [.Name x a] (.ListComp elt [⟨tg,l,ifs,0⟩] scope pos) c) (tS X.K M H0 λρ=>CW i (ZG own.length oix (λρ=>(f ρ).bind EQ) b t e ρ) ρ):=⟨λd s v H D I h=>A1 (OD own outs oix S hox hc o k p (UF q.h) m.g m.t m.e n u d s v H (D.cv X) I<|dm r I<|Ts h) λ_ _ h=>SP.cv h⟩
end
section
variable{P:A4}{w:Aj}{T:Type}[DecidableEq T]{hk:HeapKind P w T}{A:Ah}{s:Ab}{us:U (T×Ac×Aa)}
def rA(hk:HeapKind P w T)(b:(a==FS)=yC):MeetsIn P w (Fd.«dict.__len__» ⟨[.ref a],[]⟩) (λ_ R t=>∃us,t.heap.DictOfH hk a us/\R (.ok (.ret (.int us.length t.toks))) {t with toks:=t.toks+1}):=.of_wp λA R t c=>by
 obtain⟨us,⟨o,d,h,e,_,f,g,_⟩,q⟩:=c;have n:=(size_of_entries g).symm;rw[n]at q;change wpAny _ _ (dictSize a >>= _) _ _ t;unfold dictSize;refine Al<|Al<|Pc e f<|AO (?_:wpAny _ _ (Builtin.Dict.pendingCount a >>= _) _ _ t);exact Al<|wpAny_pendingCount_other b<|wpAny_ret_mkInt (by rw[Nat.add_zero];exact q)
theorem rB(c:(a==FS)=yC)(d:s.heap.DictOfH hk a us)(z:(us.length:Int)<2^63)(q:Q (.int us.length (s.toks+1)) {s with toks:=s.toks+1+1}):wpAny (Ag P w) A (Fd.«len» ⟨[.ref a],[]⟩) (λf t=>∃r,f=.done (.ret r)/\Q r t) E s:=by
 unfold Fd.«len»;refine Al<|AO<|Al<|HE d.typeIs F.slot_dict_len<|call_meetsIn F.slot_dict_len d.typeIs F.entry_dict_len (F.args_dict_len_1 _) (rA hk c) ⟨us,d,?_⟩;change wpAny _ _ _ _ _ {s with toks:=s.toks+1};refine Al<|FU<|AO<|Al<|wpAny_letGo ?_;change wpAny _ _ (if((us.length:Nat):Int)<0 then _ else _) _ _ _;rw[if_neg (by lia:¬ ((us.length:Nat):Int)<0)];change wpAny _ _ (if((us.length:Nat):Int)≥2^63 then _ else _) _ _ _;rw[if_neg (by lia:¬ ((us.length:Nat):Int)≥2^63)];exact Al<|wpAny_mkInt<|AO ⟨_,rfl,q⟩
end
section
variable{K:Av}
theorem rC:Es X (.builtin "len") (λxs H Q=>∃a b,xs=[.ref a]/\B8 X.K H a b/\(∀t∈b,∃l,t.1=KT.tup l)/\Q (.int b.length) H):=by
 intro c s k H xs e Q I r h;obtain⟨a,b,rfl,hd,f,q⟩:=h;obtain⟨u,rfl,g⟩:=Et r;cases g;obtain⟨z,i,nd,e,rel,j⟩:=JR I hd f;have m:=Ko;have d:=Gw rel;refine Calls.call_function_entry kind_len plain_len entry_len (args_len1 _)<|rB i j (by rw[<- d];rw[F9]at z;lia) ?_;rw[<- d];exact⟨.int _,H,I.tok _,⟨_,rfl⟩,q⟩
def Nv:U D->O D
 |[.lst b .d]=>(DO b).bind λa=>if a.all (λp=>!El p.1)then Z (.int a.length)else yA
 |_=>yA
def rD:FC K (λxs H Q=>∃a b,xs=[.ref a]/\B8 K H a b/\(∀t∈b,∃l,t.1=KT.tup l)/\Q (.int b.length) H) Nv:=by
 intro N H o s d Q u h e q;unfold Nv at e;split at e
 ·next xs=>
  cases f:DO xs with|none=>simp[f]at e|some c=>
   rw[f]at e;have e:(if c.all (λp=>!El p.1)then Z (D.int c.length)else yA)=Z d:=e;split at e
   ·next j=>
    cases e;obtain⟨v,rfl,g⟩:=Paired.one' h;rw[Hm f]at g;obtain⟨p,w,m,r,hd⟩:=g;subst m;obtain⟨b,n,i⟩:=IT r hd;refine⟨p,b,rfl,n,i.hom (k:=.tup []) (by simpa[Dn,El]using j),?_⟩;rw[<- Gw i];exact q _ H (Ai.refl H) Fe
   ·cases e
 ·cases e
end
end L2
variable{qs:U L2.Q4}
namespace L2
open PySem PySem.Spec PyProof.Rows
section
variable{prog:A4}{w:Aj}{A:Ah}{s:Ab}
abbrev UP(i:Ac):AK:={cls:=.type "enumerate",data:=.fields #[.none,.bool yC,.ref i,Be 0,.none,.none]}
theorem rE(S:AS)(a:RelV S.v u)(xs:U V):Meets (Fd.«enumerate.__new__» ⟨[.type "enumerate",u],[]⟩) (λ_ R s=>S.ok s.heap xs/\R (.ok (.ret (.ref (s.heap.push (S.obj u)).objs.size))) {s with heap:=(s.heap.push (S.obj u)).push (UP s.heap.objs.size)}):=
 .of_wp λprog w A R s h=>by
  obtain⟨f,g,d,i,os⟩:=s;obtain⟨e,q⟩:=h
  have j:=sub_enumerate
  have b:S.ok (Shared.heap ⟨f,g,d,i,os⟩) xs:=e
  wp_walk using S.pyIter a b
  refine wpAny_stack_any λst=>AO ?_
  split
  ·rename_i c _ _ _ _ _
   cases(c==Value.type "enumerate")
   ·wp_walk using S.pyIter a b
    exact⟨_,rfl,q⟩
   ·wp_walk using S.pyIter a b
    exact⟨_,rfl,q⟩
  ·wp_walk using S.pyIter a b
   exact⟨_,rfl,q⟩
def rF{S:AS}(c:RelV S.v u){xs:U V}(p:S.ok s.heap xs) (q:∀h',IsEnum h' (s.heap.objs.size+1) s.heap.objs.size 0 .none->S.it h' s.heap.objs.size 0->(∀b o,s.heap.get? b=Z o->h'.get? b=Z o)->Q (.ref (s.heap.objs.size+1)) {s with heap:=h' }):wpAny (Ag prog w) A (call (.type "enumerate") [u]) Q E s:=by
 have d:(s.heap.push (S.obj u)).objs.size=s.heap.objs.size+1:=Io ..
 have f:IsEnum ((s.heap.push (S.obj u)).push (UP s.heap.objs.size)) (s.heap.objs.size+1) s.heap.objs.size 0 .none:=by
  have:=Cm (s.heap.push (S.obj u)) (o:=UP s.heap.objs.size) rfl
  rw[d]at this;exact this
 have a:=q _ f (S.itAt (S.new (h:=s.heap) c) λo e=>BG _ e) λb o e=>BG _ (BG _ e)
 refine callType_new PySem.F.called_enumerate (by ext) (PySem.F.typeCall_enumerate_1 _) (PySem.F.newCall_enumerate_1 _) (λobj=>PySem.F.args_object_init_2 obj _) PySem.F.entry_enumerate_new (rE S c xs) ⟨p,?_⟩
 show _/\_
 rw[d]
 exact⟨⟨_,f,rfl⟩,a⟩
section
variable{e it:Ac}{fa:U Ac}{n k:Nat}{sa:Nat->Am->Prop}{old:Aa}
def rG{Q:O Aa->Ab->Prop}(SA:GN prog w it fa n isA sa)(f:IsEnum s.heap e it k old)(ha:sa k s.heap)(kn:k<n)(m:e≠it)(C:e∉fa) (q:∀x h' t' G,isA k x->IsEnumOut h' e it ((k:Int)+1) x s.heap.objs.size->sa (k+1) h'->h'.get? s.heap.objs.size=Z {cls:=.type "tuple",data:=.seq #[.int k t',x]}->(∀b o,b≠e->b≠it->s.heap.get? b=Z o->h'.get? b=Z o)->Q (Z (.ref s.heap.objs.size)) {s with heap:=h',toks:=G}):wpAny (Ag prog w) A (BI (.ref e)) Q E s:=by
 obtain⟨i,g,d,tk,os⟩:=s;have ty:Shared.TypeIs ⟨i,g,d,tk,os⟩ (.ref e) "enumerate":=⟨_,f,rfl⟩;unfold BI;refine Al<|LV<|HE (name:=GB "__next__") ty UQ (G1 UQ ty PySem.F.entry_enumerate_next ?_<|PySem.F.args_enumerate_next_1 _);have fr:∀{h h':Am},sa (k+1) h->(∀b o,b≠e->h.get? b=Z o->h'.get? b=Z o)->sa (k+1) h':=λst kp=>SA.frame _ _ _ st λb c o x=>kp b o (by
  rcases c with rfl|c
  ·exact CT m
  ·intro z;subst z;exact C c) x
 show wpAny _ _ (field (.ref e) 2 >>= _) _ _ _
 refine Al<|Ef f rfl (x:=.ref it) rfl ?_;refine Al<|SA.item _ _ _ k _ kn ha λx l a hx a1 p=>?_;replace p:ED it i l:=p;have H:IsEnum l e it k old:=(p.2 e m).trans f;show wpAny _ _ (field (.ref e) 3 >>= _) _ _ ⟨l,g,d,a,os⟩
 refine Al<|Ef H rfl (x:=Be k) rfl ?_;show wpAny _ _ (field (.ref e) 4 >>= _) _ _ ⟨l,g,d,a,os⟩
 refine Al<|Ef H rfl (x:=.none) rfl ?_;show wpAny _ _ (mkInt k >>= _) _ _ ⟨l,g,d,a,os⟩
 refine Al<|wpAny_mkInt ?_;show wpAny _ _ (setField (.ref e) 3 (Be<|(k:Int)+1) >>= _) _ _ ⟨l,g,d,a+1,os⟩
 refine Al<|Hq H (by simp) λu I r=>?_;replace r:ED e l u:=r;replace I:IsEnum u e it ((k:Int)+1) old:=I;show wpAny _ _ (setField (.ref e) 4 .none >>= _) _ _ ⟨u,g,d,a+1,os⟩
 refine Al<|Hq I (by simp) λj K t=>?_;replace t:ED e u j:=t;replace K:IsEnum j e it ((k:Int)+1) old:=K;show wpAny _ _ (newTuple [.int k a,x] >>= _) _ _ ⟨j,g,d,a+1,os⟩
 refine Al<|wpAny_newTuple ?_;have sz:j.objs.size=i.objs.size:=by rw[t.1,r.1,p.1]
 have el:e<i.objs.size:=BC f;have v:IsEnum (j.push {cls:=.type "tuple",data:=.seq #[.int k a,x]}) e it ((k:Int)+1) old:=BG _ K;have t4:(j.push {cls:=.type "tuple",data:=.seq #[.int k a,x]}).get? i.objs.size=Z {cls:=.type "tuple",data:=.seq #[.int k a,x]}:=by rw[<- sz];exact Cm _ rfl
 have k4:∀b o,b≠e->b≠it->i.get? b=Z o->(j.push {cls:=.type "tuple",data:=.seq #[.int k a,x]}).get? b=Z o:=λb o f L c=>
  BG _<|t.extBut b o f<|r.extBut b o f<|p.extBut b o L c
 have a4:sa (k+1) (j.push {cls:=.type "tuple",data:=.seq #[.int k a,x]}):=fr a1 λb o c z=>BG _<|t.extBut b o c<|r.extBut b o c z;generalize (j.push {cls:=.type "tuple",data:=.seq #[.int k a,x]})=M at v t4 k4 a4 ⊢;show wpAny _ _ (Nq (.ref e) >>= _) _ _ ⟨M,g,d,a+1,os⟩
 rw[sz];refine Al ?_;unfold Nq;refine Al<|Ef v rfl (x:=.none) rfl (AO ?_);rw[if_pos rfl];refine Al<|II ?_;refine Al<|Ef v rfl (x:=old) rfl ?_;refine Al<|Hq v (by simp) λy N P=>?_;replace P:ED e M y:=P;replace N:IsEnum y e it ((k:Int)+1) x:=N;show wpAny _ _ (UI (.ref e) (.ref i.objs.size) >>= _) _ _ ⟨y,g,d,a+1,os⟩
 refine Al ?_;unfold UI;refine Al<|Hq N (by simp) λT R Y=>?_;replace Y:ED e y T:=Y;replace R:IsEnumOut T e it ((k:Int)+1) x i.objs.size:=R;refine Hq R (by simp) λB e7 s7=>?_;replace s7:ED e T B:=s7;replace e7:IsEnumOut B e it ((k:Int)+1) x i.objs.size:=e7;have up:∀b o,b≠e->M.get? b=Z o->B.get? b=Z o:=λb o c z=>s7.extBut b o c<|Y.extBut b o c<|P.extBut b o c z;refine Al<|wpAny_letGo<|AO ⟨_,rfl,AO<|q x B _ _ hx e7 (fr a4 up) (up _ _ (Im el) t4) λb o f L z=>up b o f<|k4 b o f L z⟩
def rH{Q:O Aa->Ab->Prop}(a:A.handled=yA)(f:GN prog w it fa n isA sa)(c:IsEnum s.heap e it k old)(g:sa k s.heap)(kn:n<=k) (q:∀h',Heap.ExtBut it s.heap h'->Q yA {s with heap:=h' }):wpAny (Ag prog w) A (BI (.ref e)) Q E s:=by
 have ty:s.TypeIs (.ref e) "enumerate":=⟨_,c,rfl⟩;unfold BI;refine Al<|LV<|HE ty UQ<|G1 UQ ty PySem.F.entry_enumerate_next ?_<|PySem.F.args_enumerate_next_1 _;show wpAny _ _ (field (.ref e) 2 >>= _) _ _ _
 refine Al<|Ef c rfl (x:=.ref it) rfl ?_;refine Al<|f.fin _ _ _ k _ (by first|exact a|simpa using a) kn g λh' x h i=>?_;obtain⟨o,j,l⟩:=i;exact Al<|wpAny_isInstance (T:="StopIteration") (b:=yB) ⟨o,j,l⟩ isSubtype_stop (AO<|q _ h)
def rJ{a:U Expr} {b}   {T:Ac} {Q:Unit->Ab->Prop} (hz:IsEnumOut s.heap e it i v T) (q:∀h',IsEnum h' e it i v->ED e s.heap h'->Q () {s with heap:=h' }):wpAny (Ag prog w) A (Op (.Tuple a b pos) (.ref e) (.ref T)) Q E s:=by
 unfold Op;refine Al<|wpAny_load hz ?_;show wpAny _ _ (if(["enumerate","zip","dict_itemiterator","dict_reverseitemiterator","odict_iterator","itertools.zip_longest","itertools.pairwise"].contains "enumerate"&&(#[Be T,.bool yC,.ref it,Be i,.none,v]:Array Aa)[0]?==Z (Be T))=yB then _ else _) Q E s
 rw[if_pos (by simp)];refine Al<|II ?_;exact Hq hz (by simp) λh' z c=>q h' z c
end
end
def dn(K:Av)(S:AS):It:=
 ⟨λi H=>∃a x,S.sq K H a/\a[i]?=Z x,
  λi H v b=>∃p x,v=.ref p/\H p=yA/\b=AM H p (.tup [.int i,x])/\(∀a,S.sq K H a->a[i]?=Z x),
  λi H=>∃a,S.sq K H a/\a.length<=i⟩
theorem rK{w:Aj}{K:Av}{j:U Expr} {W} (S:AS) (n:Nat) (Y:∀b∈S.fp,b<n):HB P w K (.Tuple j W pos) (dn K S) [n+1,n] (n+1) (λi h=>(∃f,IsEnum h (n+1) n i f)/\S.it h n i) where
 mem:=by simp
 obj:=λi h z0 q a=>by
  obtain⟨⟨x,z⟩,c⟩:=z0;erw[Bh,LI,or_false]at a;rcases a with rfl|rfl
  ·exact⟨_,z,λv e=>nomatch (show Data.fields _=Data.cell v from e)⟩
  ·exact S.itOb c
 keep:=λi h m ⟨⟨x,z⟩,c⟩ k=>⟨⟨x,k _ (by simp) _ z⟩,S.itAt c λo e=>k _ (by simp) o e⟩;item:=by
  intro X t u y N i d s R H E I p ⟨⟨f,z⟩,c⟩ ⟨xs,x,r,ex⟩;subst t u y;obtain⟨sa,A,B,Q⟩:=S.sub (P:=X.prog) (w:=X.w) (i:=n) (S.of I r);have l1:=(List.getElem?_eq_some_iff.mp ex).1;have hlt:n+1<s.heap.objs.size:=BC z;refine rG A z (B _ c) l1 (by(show @Ne Nat _ _;lia)) (λz=>absurd (show @LT.lt Nat _ _ _ from Y _ z) (by show ¬ @LT.lt Nat _ _ _;lia)) λC m t1 T G z' F new kp=>?_;obtain⟨x2,l,L⟩:=G;rw[ex]at l;cases l;have F:=Q _ _ F;refine⟨_,rfl,rJ (s:={s with heap:=m,toks:=T}) z' λg z2 sb=>?_⟩;have M:∀q o,q≠n+1->m.get? q=Z o->g.get? q=Z o:=λq o a e=>sb.extBut _ _ a e;have I1:Inv X d R (AM H s.heap.objs.size<|.tup [.int i,x]) {s with heap:=g}:=by
   refine I.yielded p (λq o a e=>M q o (λz=>a (by simp[z])) (kp q o (λz=>a (by simp[z])) (λz=>a (by simp[z])) e)) (Bl _) ?_;exact⟨show 2<=AB by ext,[.int i t1,C],.cons ⟨_,rfl⟩<|.cons L .nil,⟨_,M _ _ (by(show @Ne Nat _ _;lia)) new,rfl,_,rfl⟩⟩
  refine⟨.ref s.heap.objs.size,_,I1.tok T,rfl,⟨_,x,rfl,I.hok.fresh<|Bl _,rfl,λzs hz=>by rw[S.inj I hz r];exact ex⟩,⟨⟨C,?_⟩,S.itAt F λo e=>M _ o (by(show @Ne Nat _ _;lia)) e⟩,λq a=>?_⟩
  ·have:((i+1:Nat):Int)=(i:Int)+1:=by lia
   show IsEnum g (n+1) n ((i+1:Nat):Int) C
   rw[this];exact z2
  rw[ZA]
  ·exact(p q a).1
  ·erw[Bh,LI,or_false]at a;rcases a with rfl|rfl<;>(show @Ne Nat _ _;lia)
 done:=by
  intro X t u y N i d s R H E I p ⟨⟨f,z⟩,c⟩ ⟨xs,r,hl⟩;subst t u y;obtain⟨sa,A,B,Q⟩:=S.sub (P:=X.prog) (w:=X.w) (i:=n) (S.of I r);refine rH (I.ok.hd N) A z (B _ c) hl λm kp=>⟨rfl,I.turnedL p λq o a e=>kp q o (λz=>a (by simp[z])) e⟩
 self:=λ_ _ _ _ _ ⟨⟨_,z⟩,_⟩ q=>wpAny_pyIter_enum z q
@[simp] def Nw(f:VE->O D):VE->O (U D):=λa=>match(f a).bind F3 with
  |some b=>Z (Fi 0 b)
  |none=>yA
theorem rL{K:Av}{us:U V}(e:Ad K N H xs us)(q1:∀N2 b,Step M N N2 H b->S.sq K b us):MN K M N H (dn K S) (Fi 0 xs):=λN2 b St i=>by
 have c:=q1 _ _ St;have d1:=Ad.step St _ _ e;refine⟨λd a=>?_,λa=>⟨us,c,?_⟩⟩
 ·rw[bo]at a;cases ex:xs[i]? with|none=>simp[ex]at a|some x=>
   rw[ex]at a;cases a;obtain⟨u,f,h⟩:=d1.get ex;refine⟨⟨us,u,c,f⟩,λz m ⟨p,n,j,g,k,l⟩=>?_⟩;have:=l us c;rw[f]at this;cases this;subst j k;refine⟨Y6 g,MT g<|Ad.cons ?_<|Ad.cons h Ad.nil⟩;simp[Au]
 ·have l1:=e.length;rw[TV]at a;lia
section
variable{M:Fb}{f:VE->O D}{a:Expr}{p tpos:AQ}
def dr {L} (N:Gl X "enumerate") (P:X.mg "enumerate"=yA) (l:JE X a (tQ X.K M H0 f)) (y:AY [a] X.env=[(yC,Ax a X.env)]:=by rfl) (m:AY [] X.env=[]:=by rfl):JI X (.Tuple elts L tpos) (.Call (.Name "enumerate" p) [a] [] pos) (tI X.K M H0 (Nw f)):=⟨have l:=l.h;by
 intro d s n H Q I ⟨i,ds,R,e,q⟩;unfold Nw at e;split at e
 ·next T ex=>
  cases e;cases o:f i with|none=>simp[o]at ex|some d1=>
   rw[o]at ex;have t:=Ee l Bm (by rw[y,m]);refine Call_<|HA I N P oY<|Mu (A1 (t pos d s n H (λA u=>∃S g,A=[AS.v S]/\Ai H u/\Ad X.K (Nf M i n) u T g/\(∀N2 B,Step M (Nf M i n) N2 u B->S.sq X.K B g)) I ?_) λg w ⟨A,C,j,W,q1⟩=>?_) y rfl
   ·refine⟨i,d1,R,o,λv1 C Y q1=>?_⟩;obtain⟨S,g,x,c,k⟩:=UJ q1 ex;exact⟨S,g,by rw[x],Y,c,k⟩
   ·obtain⟨S,us',rfl,z,c,k⟩:=q1;cases W with
    |cons r rr=>
     cases rr;have E:=S.of j<|k _ _ Step.refl;refine rF r E λh' a1 a4 kp=>wpAny_pyIter_enum a1 ?_;refine⟨_,_,_,_,C,rfl,j.kept (t':=w.toks) kp,rK S w.heap.objs.size<|S.lt E,⟨⟨_,a1⟩,a4⟩,λb G=>?_,q _ _ z<|rL c k⟩;have F:w.heap.objs.size<=b:=by
      erw[Bh,LI,or_false]at G;rcases G with rfl|rfl<;>(show @LE.le Nat _ _ _;lia)
     exact j.fpOk F<|j.hok.fresh F
 ·cases e⟩
end
@[simp] theorem w9(a b:Int):AE (.int a) (.int b)=decide (a=b):=by erw[AE];by_cases h:a=b<;>simp[h]
@[simp] theorem xa(a b:Ae):AE (.str a) (.str b)=decide (a=b):=by erw[AE];by_cases h:a=b<;>simp[h]
@[simp] theorem xc(a b:Bool):AE (.bl a) (.bl b)=decide (a=b):=by erw[AE];by_cases h:a=b<;>simp[h]
@[simp] theorem xf:AE .non .non=yB:=by erw[AE]
@[simp] theorem xg(a:Bool)(b:Int):AE (.bl a) (.int b)=decide ((if a then 1 else 0)=b):=by erw[AE];by_cases h:(if a then 1 else 0)=b<;>simp[h]
@[simp] theorem xh(a:Int)(b:Bool):AE (.int a) (.bl b)=decide (a=(if b then 1 else 0)):=by erw[AE];by_cases h:a=(if b then 1 else 0)<;>simp[h]
@[simp] theorem xi(a:Int)(b:Ae):AE (.int a) (.str b)=yC:=by erw[AE]
@[simp] theorem xj(a:Ae)(b:Int):AE (.str a) (.int b)=yC:=by erw[AE]
@[simp] theorem xk(a:Bool)(b:Ae):AE (.bl a) (.str b)=yC:=by erw[AE]
@[simp] theorem xl(a:Ae)(b:Bool):AE (.str a) (.bl b)=yC:=by erw[AE]
@[simp] theorem xm(b:Int):AE .non (.int b)=yC:=by erw[AE]
@[simp] theorem xn(b:Ae):AE .non (.str b)=yC:=by erw[AE]
@[simp] theorem xo(b:Bool):AE .non (.bl b)=yC:=by erw[AE]
@[simp] theorem xp(b:Int):AE (.int b) .non=yC:=by erw[AE]
@[simp] theorem xq(b:Ae):AE (.str b) .non=yC:=by erw[AE]
@[simp] theorem xr(b:Bool):AE (.bl b) .non=yC:=by erw[AE]
@[simp] theorem xt(a b:U D):AE (.tup a) (.tup b)=CU a b:=by erw[AE]
@[simp] theorem xu(a b:U D):AE (.lst a) (.lst b)=CU a b:=by erw[AE]
@[simp] theorem xw(a b:U D):AE (.tup a) (.lst b)=yC:=by erw[AE]
@[simp] theorem xx(a b:U D):AE (.lst a) (.tup b)=yC:=by erw[AE]
@[simp] theorem xy(a:U D)(b:Int):AE (.tup a) (.int b)=yC:=by erw[AE]
@[simp] theorem xz(a:U D)(b:Ae):AE (.tup a) (.str b)=yC:=by erw[AE]
@[simp] theorem xA(a:U D):AE (.tup a) .non=yC:=by erw[AE]
@[simp] theorem xB(a:U D)(b:Bool):AE (.tup a) (.bl b)=yC:=by erw[AE]
@[simp] theorem xC(a:U D)(b:Int):AE (.int b) (.tup a)=yC:=by erw[AE]
@[simp] theorem xD(a:U D)(b:Ae):AE (.str b) (.tup a)=yC:=by erw[AE]
@[simp] theorem xE(a:U D):AE .non (.tup a)=yC:=by erw[AE]
@[simp] theorem xF(a:U D)(b:Bool):AE (.bl b) (.tup a)=yC:=by erw[AE]
@[simp] theorem xG(a:U D)(b:Int):AE (.lst a) (.int b)=yC:=by erw[AE]
@[simp] theorem xH(a:U D)(b:Ae):AE (.lst a) (.str b)=yC:=by erw[AE]
@[simp] theorem xI(a:U D):AE (.lst a) .non=yC:=by erw[AE]
@[simp] theorem xJ(a:U D)(b:Bool):AE (.lst a) (.bl b)=yC:=by erw[AE]
@[simp] theorem xK(a:U D)(b:Int):AE (.int b) (.lst a)=yC:=by erw[AE]
@[simp] theorem xL(a:U D)(b:Ae):AE (.str b) (.lst a)=yC:=by erw[AE]
@[simp] theorem xM(a:U D):AE .non (.lst a)=yC:=by erw[AE]
@[simp] theorem xN(a:U D)(b:Bool):AE (.bl b) (.lst a)=yC:=by erw[AE]
@[simp] theorem xO:CU [] []=yB:=by erw[CU]
@[simp] theorem xP(a b:D)(c bs:U D):CU (a::c) (b::bs)=(AE a b&&CU c bs):=by erw[CU]
@[simp] theorem xQ(b:D)(bs:U D):CU [] (b::bs)=yC:=by erw[CU]
@[simp] theorem xR(b:D)(bs:U D):CU (b::bs) []=yC:=by erw[CU]
@[simp] theorem rM:∀(a b:U Int),CU (a.map D.int) (b.map D.int)=decide (a=b)
  |[],[]=>by simp
  |[],_::_=>by simp
  |_::_,[]=>by simp
  |x::a,y::b=>by simp[rM a b]
@[simp] theorem xS(n:Nat)(a:U Int):(a.map D.int).all (AT n)=yB:=by
  rw[CK];intro x b;obtain⟨i,_,rfl⟩:=List.mem_map.mp b;cases n<;>rfl
@[simp] theorem xT(t n:String):LH t n=(t==n||(t=="bool"&&n=="int")):=rfl
@[simp] theorem xU:Hl=["NoneType","bool","int","str","tuple","list"]:=rfl
@[simp] theorem E4:deep=12:=rfl
@[simp] theorem xV:Dh.tysL []=Z []:=rfl
@[simp] theorem xW(n:String)(r:U D):Dh.tysL (.ty n::r)=(Dh.tysL r).map (n::·):=rfl
@[simp] theorem xX(ns:U Int):FG (ns.map D.int)=Z ns:=OZ ns
@[simp] theorem UR:∀(ns:U Bool),Hk (ns.map D.bl)=Z ns
  |[]=>rfl
  |n::ns=>by erw[AI,Hk,UR ns];rfl
theorem D1{c:Type}{b:D->VE->O VE}{e:VE->O D}{ρ:VE}(G F:c->D):∀(xs:U c),(∀x∈xs,∃a,b (G x) ρ=Z a/\e a=Z (F x))->C4 b (λ_=>Z yB) e ρ (xs.map G)=Z (xs.map F)
 |[],_=>rfl
 |x::xs,h=>by
  obtain⟨a,d,f⟩:=h x A8;erw[AI,C4,d,f,Zb,Ay,D1 G F xs λy g=>h y<|A9 _ g]
@[simp] theorem ZU{a:Type}(l:U a)(h:l.length<=1000000):Zu (Z l)=Z l:=by
  have:l.length<=AB:=BX h (by ext);simp[this]
def PJ{a c:Type}(f:a->c)(xs:U a)(lo b:O Int):EY (xs.map f) lo b=(EY xs lo b).map f:=by
 unfold EY;rw[Bd,List.map_take,List.map_drop]
theorem rN{b:Type}(xs:U b)(k:Int)(h:0<=k):EY xs yA (Z k)=xs.take k.toNat:=by
 have e:HT.sIx xs.length 0 yA=0:=rfl;have c:HT.sIx xs.length xs.length (Z k)=min k.toNat xs.length:=by erw[HT.sIx];split<;>lia
 unfold EY;rw[e,c,List.drop_zero,Nat.sub_zero];rcases Nat.le_total k.toNat xs.length with a|a
 ·rw[Nat.min_eq_left a]
 ·rw[Nat.min_eq_right a,List.take_length,M0 a]
def US{b:Type}(xs:U b)(k:Int)(h:0<=k):EY xs (Z k) yA=xs.drop k.toNat:=by
 have e:HT.sIx xs.length xs.length yA=xs.length:=rfl;have c:HT.sIx xs.length 0 (Z k)=min k.toNat xs.length:=by erw[HT.sIx];split<;>lia
 unfold EY;rw[e,c];rcases Nat.le_total k.toNat xs.length with a|a
 ·rw[Nat.min_eq_left a,M0 (by rw[OA];exact Bl _)]
 ·rw[Nat.min_eq_right a,List.drop_length,List.drop_of_length_le a,List.take_nil]
theorem rO{c:Type}(xs:U c)(i j:Int)(f:0<=i)(g:0<=j):EY xs (Z i) (Z j)=(xs.drop i.toNat).take (j.toNat-i.toNat):=by
 have d:HT.sIx xs.length 0 (Z i)=min i.toNat xs.length:=by erw[HT.sIx];split<;>lia
 have e:HT.sIx xs.length xs.length (Z j)=min j.toNat xs.length:=by erw[HT.sIx];split<;>lia
 unfold EY;rw[d,e];rcases Nat.le_total i.toNat xs.length with a|a
 ·rw[Nat.min_eq_left a];rcases Nat.le_total j.toNat xs.length with b|b
  ·rw[Nat.min_eq_left b]
  ·rw[Nat.min_eq_right b,M0 (by rw[OA];exact Bl _),M0 (by rw[OA];lia)]
 ·rw[Nat.min_eq_right a,List.drop_length,List.drop_of_length_le a,List.take_nil,List.take_nil]
theorem L6(j:Int)(a:0<=j)(h:j<1000000000):EX [.int j]=Z ((BU j.toNat).map λ(k:Nat)=>D.int (k:Int)):=by
 have e:JD 0 j.toNat=(BU j.toNat).map λ(k:Nat)=>D.int (k:Int):=by simp[JD]
 erw[EX];rw[Lz ⟨by lia,by lia⟩,e]
def L7(n:Nat)(h:n<1000000000):EX [.int (n:Int)]=Z ((BU n).map λ(k:Nat)=>D.int (k:Int)):=by
 rw[L6 _ (by lia) (by lia),Gi]
theorem rP(i j:Int)(a:0<=i)(b:i<1000000000)(h:j<1000000000)(c : -1000000000<j):MP [.int i,.int j]=Z ((BU (j-i).toNat).map λ(k:Nat)=>D.int (i+(k:Int))):=by
 erw[MP];rw[Lz ⟨by lia,by lia,by lia,by lia⟩];rfl
def dt(xs ys:U D)(h:xs.length+ys.length<=1000000):BS (.lst xs) (.lst ys)=Z (.lst (xs++ys)):=by
 erw[BS];rw[if_pos<|BX h (by ext)]
def UT(neg:Bool)(c:Nat)(z:Ae):Ej neg (.str ⟨#[c]⟩) (.str z)=Z (.bl (if neg then !decide (c∈z.cps.toList)else decide (c∈z.cps.toList))):=by
 have h:=StrLaws.found_one z c;erw[Ej];rw[h]
@[simp] theorem C6(d:D):CH (.val d)=d:=rfl
@[simp] theorem Hr(xs:U D)(b:Kd):CH (.own xs b)=.lst xs b:=rfl
end L2
namespace K50
open PySem PySem.Spec PyProof.Rows L2
def Nx:VE->An:=λa=>Zg (ZD (Dq (B4 (AF ((Zv Co (λa=>Zb (Ap a 0) (Zb (Zh (Z (.ty "int"))) (Z [])))) a)) (AF (Dq (ZW (AF ((Zv Co (λa=>Zb (Ap a 0) (Zb (Zh (Z (.ty "bool"))) (Z [])))) a)))))))) (λa=>.next a)
def Jb:U Sl->O Rv:=AR 1 1 Nx
def PL:VE->O D:=λa=>Dq (BR (AF ((Zd (Ej yC) (λa=>Af a 0) (λ_=>Z (.str "abcdefghijklmnopqrstuvwxyz"))) a)) (AF ((Zd (Ej yC) (λa=>Af a 0) (λ_=>Z (.str "0123456789"))) a)))
def J2:VE->An:=λa=>Zg (ZE (ZW (Z5 ((Zv Co (λa=>Zb (Ap a 0) (Zb (Zh (Z (.ty "str"))) (Z [])))) a))) (Zg (ZD (Z (.bl yC))) (λa=>.next a)) (.next a)) (λa=>Zg (ZE (BR (AF ((Zd Ek (Zv ZQ (λa=>Zb (Ap a 0) (Z []))) (λ_=>Z (.int 1))) a)) (AF ((Zd Ea (Zv ZQ (λa=>Zb (Ap a 0) (Z []))) (λ_=>Z (.int 12))) a))) (Zg (ZD (Z (.bl yC))) (λa=>.next a)) (.next a)) (λa=>Zg (ZD (Dq (B4 (AF ((Zd (Ej yC) (Zd Aq (λa=>Af a 0) (λ_=>Z (.int 0))) (λ_=>Z (.str "abcdefghijklmnopqrstuvwxyz"))) a)) (AF ((Zv F2 (λa=>Zb (Zh (ZH ((ZG 1 [] (λa=>(Bj a 0).bind Zx) (Zn 0) (λ_=>Z yB) PL) a))) (Z []))) a))))) (λa=>.next a)))
def Jc:U Sl->O Rv:=AR 1 1 J2
def UU:VE->An:=λa=>Zg (ZD ((Zv ZQ (λa=>Zb (Zh ((Zd Aq (λa=>Af a 0) (λ_=>Z (.int 0))) a)) (Z []))) a)) (λa=>.next a)
def PM:U Sl->O Rv:=AR 1 1 UU
def PN:VE->An:=λa=>Zg (ZD (MK (AF ((Zd Ek (λa=>Af a 1) (Zv ZQ (λa=>Zb (Ap a 0) (Z [])))) a)) ((Zd Aq (λa=>Af a 0) (λa=>Af a 1)) a) (Z .non))) (λa=>.next a)
def Jd:U Sl->O Rv:=AR 2 2 PN
def du:VE->O D:=λ_=>Z (.int 0)
def UV:VE->An:=λa=>Zg (ZD ((Zv Fh (λa=>Zb (Zh (ZH ((ZG 1 [] (λa=>(Bj a 0).bind Zx) (Zn 0) (λ_=>Z yB) du) a))) (Z []))) a)) (λa=>.next a)
def Ny:U Sl->O Rv:=AR 1 1 UV
def UW:VE->An:=λa=>Zg (ZD ((Zu ((Zb (Zh ((Zv ZQ (λa=>Zb (Ap a 0) (Z []))) a)) (Zb (Zh ((Zv O1 (λa=>Zb (Ap a 0) (Z []))) a)) (Zb (Zh ((Zv O2 (λa=>Zb (Ap a 0) (Z []))) a)) (Zb (Zh ((Zv O3 (λa=>Zb (Ap a 0) (Z []))) a)) (Z []))))).bind Zy)).map D.tup)) (λa=>.next a)
def PP:U Sl->O Rv:=AR 1 1 UW
def UX:VE->An:=λa=>Zg (ZD ((Zu ((Zb (Zh ((Zd BS (Zd Aq (λa=>Af a 0) (λ_=>Z (.int 0))) (Zd Aq (λa=>Af a 1) (λ_=>Z (.int 0)))) a)) (Zb (Zh ((Zd BS (Zd Aq (λa=>Af a 0) (λ_=>Z (.int 1))) (Zd Aq (λa=>Af a 1) (λ_=>Z (.int 1)))) a)) (Zb (Zh ((Zv TL (λa=>Zb (Zh ((Zd Aq (λa=>Af a 0) (λ_=>Z (.int 2))) a)) (Zb (Zh ((Zd Aq (λa=>Af a 1) (λ_=>Z (.int 2))) a)) (Z [])))) a)) (Zb (Zh ((Zv TK (λa=>Zb (Zh ((Zd Aq (λa=>Af a 0) (λ_=>Z (.int 3))) a)) (Zb (Zh ((Zd Aq (λa=>Af a 1) (λ_=>Z (.int 3))) a)) (Z [])))) a)) (Z []))))).bind Zy)).map D.tup)) (λa=>.next a)
def Nz:U Sl->O Rv:=AR 2 2 UX
def PQ:VE->O D:=(Zd (DQ yC) (λa=>Af a 1) (λa=>Af a 0))
def PR:VE->An:=λa=>Zg (ZD ((Zv F2 (λa=>Zb (Zh (ZH ((ZG 2 [] (E3 (λa=>Bj a 0) (λa=>Bj a 1)) (Cn 2 (ZI (Zn 0) (ZI (Zn 1) Cp))) (λ_=>Z yB) PQ) a))) (Z []))) a)) (λa=>.next a)
def PU:U Sl->O Rv:=AR 2 2 PR
def UY:VE->An:=λa=>Dv 0 (Bn a 1) a
noncomputable def UZ:VE->An:=λa=>ZE (AF ((Zd Tz (Zv ZQ (λa=>Zb (Ap a 0) (Z []))) (λ_=>Z (.int 200))) a)) (Zg (.fail) (λa=>.next a)) (.next a)
def U0:VE->O (Ac×RB):=λa=>En (UZ a) (λa=>En (UY a) (λa=>EZ 0 .non a))
def PV:U Sl->Sl->U Sl->O RB:=E1 2 2 U0
def U1:VE->An:=λa=>K1 0 (Af a 1) a
def U2:VE->An:=λa=>ZE (AF ((Zd (Ej yB) (λa=>Af a 1) (λa=>Af a 0)) a)) (Zg (.fail) (λa=>.next a)) (.next a)
def U3:VE->O (Ac×RB):=λa=>En (U2 a) (λa=>En (U1 a) (λa=>EZ 0 .non a))
def PX:U Sl->Sl->U Sl->O RB:=E1 2 2 U3
def dy:VE->O D:=λa=>ZH ((D9 Fg (λa=>Zb (Ap a 0) (Z []))) a)
def dz:VE->O (U D):=(D9 Fg (λa=>Zb (Ap a 0) (Z [])))
def U4:VE->An:=λa=>Zg (CV ((ZG 1 [] (λa=>((Af a 0).bind (DF "Book" "axes")).bind Zx) (Zn 0) (λ_=>Z yB) dy) a)) (λa=>.next a)
def NA:U Sl->O Rv:=AR 1 1 U4
def NB:U Sl->O (U (U D)):=Nm 1 1 (Gm 1 [] (λa=>((Af a 0).bind (DF "Book" "axes")).bind Zx) (Zn 0) dz)
noncomputable def U5:VE->An:=λa=>Zg (CV ((D9 Fg (λa=>Zb (Zh ((Af a 0).bind (DF "Book" "standing"))) (Z []))) a)) (λa=>.next a)
def K6:U Sl->O Rv:=AR 1 1 U5
def U6:VE->An:=λa=>Zg (CV (L5 ((Af a 0).bind (DF "Book" "tables")))) (λa=>.next a)
def NC:U Sl->O Rv:=AR 1 1 U6
def PY:VE->An:=λa=>Zg (ZE (AF ((Zd Ek (λa=>Af a 1) (Zv ZQ (λa=>Zb (Ap a 0) (Z [])))) a)) (Zg (ZD ((Zd Aq (λa=>Af a 0) (λa=>Af a 1)) a)) (λa=>.next a)) (.next a)) (λa=>Zg (ZD (Z (.int 0))) (λa=>.next a))
def Hs:U Sl->O Rv:=AR 2 2 PY
def PZ:VE->An:=λa=>Zg (Z8 2 ((Zd Cq (Zd BS (Zd BS (Zd BS (Zd FE (λa=>Af a 2) (λ_=>Z (.int 45742))) (Zd IE (λa=>Af a 2) (λ_=>Z (.int 46949)))) (Zd FE (λ_=>Z (.int 29)) (λa=>Af a 4))) (λ_=>Z (.int 11))) (λ_=>Z (.int 2147483647))) a) a) (λa=>Zg (Dv 3 ((Zd IE (λa=>Af a 2) (λ_=>Z (.int 8))) a) a) (λa=>.next a))
noncomputable def U7:VE->An:=λa=>Z8 2 ((Zd BS (Zd Cq (λa=>Af a 0) (λ_=>Z (.int 2147483549))) (λ_=>Z (.int 17))) a) a
def U8:VE->An:=λa=>CW 3 (Zu ((Z []).bind Zy)) a
def U9:VE->An:=(Cb (λa=>((Zb (Zh ((Zd BS (λa=>Af a 1) (λ_=>Z (.int 2))) a)) (Z [])).bind Zy).bind EX) (Zn 4) PZ)
def Va:VE->An:=λa=>ZD ((Hj (λa=>Af a 3) (λa=>F1 (Z (.int 2))) (λ_=>Z yA) HQ) a)
def rQ:VE->An:=λa=>.next a
def Vb:VE->An:=λa=>Zg (Va a) rQ
def Vc:VE->An:=λa=>Zg (U9 a) Vb
def Vd:VE->An:=λa=>Zg (U8 a) Vc
def Ve:VE->An:=λa=>Zg (U7 a) Vd
def P0:VE->An:=Ve
def GQ:U Sl->O Rv:=AR 2 5 P0
def P1:VE->O D:=(Zd Aq (λa=>Af a 1) (Zd Cq (Zd BS (Zd IE (λa=>Af a 2) (Zd BS (λa=>Af a 0) (λ_=>Z (.int 2)))) (Zd FE (λ_=>Z (.int 4)) (λa=>Af a 0))) (Zd Aq (λa=>ZH (Zu ((Zb (Zh (Z (.int 36))) (Zb (Zh (Z (.int 26))) (Z []))).bind Zy))) (Zv intD (λa=>Zb (Zh ((Zd Dw (λa=>Af a 0) (λ_=>Z (.int 0))) a)) (Z []))))))
def Vf:VE->An:=λa=>ZE (AF ((Zd Dw (λa=>Af a 1) (λ_=>Z (.int 0))) a)) (Zg (ZD ((Zd BS (Zd Ei (Zd Cq (λa=>Af a 0) (Zd IF (λ_=>Z (.int 10)) (λ_=>Z (.int 30)))) (Zd FE (λ_=>Z (.int 5)) (Zd IF (λ_=>Z (.int 10)) (λ_=>Z (.int 29))))) (λa=>Af a 2)) a)) (λa=>.next a)) (.next a)
def dA:VE->An:=λa=>Z8 3 (Z (.str "abcdefghijklmnopqrstuvwxyz0123456789")) a
def dB:VE->An:=λa=>Z8 4 ((Zd BS (λ_=>Z (.int 1)) (Zd Cq (λa=>Af a 0) (λ_=>Z (.int 12)))) a) a
def dC:VE->An:=λa=>Z8 5 ((Zd Cq (Zd IE (λa=>Af a 0) (λ_=>Z (.int 12))) (λa=>Af a 4)) a) a
def dE:VE->An:=λa=>CW 6 ((ZG 1 [3,0] (λa=>((Zb (Zh (Bn a 4)) (Z [])).bind Zy).bind EX) (Zn 0) (λ_=>Z yB) P1) a) a
def dF:VE->An:=λa=>O8 6 (Af a 5) ((Zd Aq (λa=>Af a 3) (Zd Cq (Zd BS (Zd BS (Zd IE (λa=>Af a 0) (Zd BS (λa=>Af a 5) (λ_=>Z (.int 2)))) (Zd FE (λ_=>Z (.int 4)) (λa=>Af a 5))) (Zd FE (λ_=>Z (.int 5)) (λa=>Af a 2))) (Zd Aq (λa=>ZH (Zu ((Zb (Zh (Z (.int 36))) (Zb (Zh (Z (.int 26))) (Z []))).bind Zy))) (Zv intD (λa=>Zb (Zh ((Zd Dw (λa=>Af a 5) (λ_=>Z (.int 0))) a)) (Z [])))))) a) a
def dG:VE->An:=λa=>ZD ((KN O9 (λ_=>Z (.str "")) (λa=>Zb (Ap a 6) (Z []))) a)
def rR:VE->An:=λa=>.next a
def dH:VE->An:=λa=>Zg (dG a) rR
def dI:VE->An:=λa=>Zg (dF a) dH
def dJ:VE->An:=λa=>Zg (dE a) dI
def dL:VE->An:=λa=>Zg (dC a) dJ
def dM:VE->An:=λa=>Zg (dB a) dL
def dN:VE->An:=λa=>Zg (dA a) dM
def Vg:VE->An:=λa=>Zg (Vf a) dN
def P2:VE->An:=Vg
def Je:U Sl->O Rv:=AR 3 7 P2
def ND:VE->An:=λa=>Zg (ZE (B4 (AF ((Zd Dw (Zd Aq (λa=>Af a 3) (λ_=>Z (.int 0))) (λa=>Af a 1)) a)) (AF ((Zd Ek (λa=>Af a 2) (Zv ZQ (λa=>Zb (Ap a 3) (Z [])))) a))) (Zg (ZD ((Zd Aq (λa=>Af a 3) (λa=>Af a 2)) a)) (λa=>.next a)) (.next a)) (λa=>.next a)
def P4:VE->An:=λa=>Zg ((Cb (λa=>(Bj a 0).bind Zx) (Zn 3) ND) a) (λa=>Zg (ZD (Z .non)) (λa=>.next a))
def Vh:U Sl->O Rv:=AR 3 4 P4
def Vi:VE->An:=λa=>Zg (ZD ((Zu ((Zb (Zh ((Zv ZQ (λa=>Zb (Ap a 0) (Z []))) a)) (Zb (Zh ((Zv O1 (λa=>Zb (Ap a 0) (Z []))) a)) (Zb (Zh ((Zv O2 (λa=>Zb (Ap a 0) (Z []))) a)) (Zb (Zh ((Zv O3 (λa=>Zb (Ap a 0) (Z []))) a)) (Z []))))).bind Zy)).map D.tup)) (λa=>.next a)
def P5:U Sl->O Rv:=AR 1 1 Vi
def K7:VE->An:=λa=>Zg (ZE (AF ((Zd Bz (λa=>Af a 3) (λa=>Af a 4)) a)) (Zg (ZD ((Zd Ek (KN M6 (λa=>Af a 2) (λa=>Zb (Ap a 3) (Z []))) (KN M6 (λa=>Af a 2) (λa=>Zb (Ap a 4) (Z [])))) a)) (λa=>.next a)) (.next a)) (λa=>.next a)
def L8:VE->An:=λa=>ZE (BR (G9 (Af a 0)) (G9 (Af a 1))) (Zg (ZD (Dq (B4 (AF (Dq (G9 (Af a 0)))) (AF (Dq (ZW (G9 (Af a 1)))))))) (λa=>.next a)) (.next a)
def P6:VE->An:=λa=>ZE (AF ((Zd Bz (Zv Co (λa=>Zb (Ap a 0) (Zb (Zh (Z (.ty "str"))) (Z [])))) (Zv Co (λa=>Zb (Ap a 1) (Zb (Zh (Z (.ty "str"))) (Z []))))) a)) (Zg (ZD ((Zv Co (λa=>Zb (Ap a 1) (Zb (Zh (Z (.ty "str"))) (Z [])))) a)) (λa=>.next a)) (.next a)
def Vj:VE->An:=λa=>ZE (Z5 ((Zv Co (λa=>Zb (Ap a 0) (Zb (Zh (Z (.ty "int"))) (Z [])))) a)) (Zg (ZD ((Zd Ek (λa=>Af a 0) (λa=>Af a 1)) a)) (λa=>.next a)) (.next a)
def dO:VE->An:=λa=>Z8 2 (Z (.str "0123456789abcdefghijklmnopqrstuvwxyz")) a
def Vk:VE->An:=(Cb (E3 (λa=>Bj a 0) (λa=>Bj a 1)) (Cn 2 (ZI (Zn 3) (ZI (Zn 4) Cp))) K7)
def dP:VE->An:=λa=>ZD ((Zd Ek (Zv ZQ (λa=>Zb (Ap a 0) (Z []))) (Zv ZQ (λa=>Zb (Ap a 1) (Z [])))) a)
def rS:VE->An:=λa=>.next a
def dQ:VE->An:=λa=>Zg (dP a) rS
def P7:VE->An:=λa=>Zg (Vk a) dQ
def dR:VE->An:=λa=>Zg (dO a) P7
def Vl:VE->An:=λa=>Zg (Vj a) dR
def P8:VE->An:=λa=>Zg (P6 a) Vl
def J3:VE->An:=λa=>Zg (L8 a) P8
def dS:VE->An:=J3
def Vm:U Sl->O Rv:=AR 2 5 dS
def Vn:VE->An:=λa=>Zg (ZD (Dq (B4 (AF ((Zv Co (λa=>Zb (Ap a 0) (Zb (Zh (Z (.ty "int"))) (Z [])))) a)) (AF (Dq (ZW (AF ((Zv Co (λa=>Zb (Ap a 0) (Zb (Zh (Z (.ty "bool"))) (Z [])))) a)))))))) (λa=>.next a)
def L9:U Sl->O Rv:=AR 1 1 Vn
def Vo:VE->An:=λa=>Zg (ZD (Dq (BR (AF ((Zp Jb (λa=>Zb (Ap a 0) (Z []))) a)) (AF ((Zp Jc (λa=>Zb (Ap a 0) (Z []))) a))))) (λa=>.next a)
def NE:U Sl->O Rv:=AR 1 1 Vo
def Vp:VE->An:=λa=>Zg (ZE (G9 (Af a 0)) (Zg (ZD ((Zu ((Zb (Zh (Z (.int 0))) (Zb (Zh (Z (.int 0))) (Z []))).bind Zy)).map D.tup)) (λa=>.next a)) (.next a)) (λa=>Zg (ZE (Z5 ((Zp Jb (λa=>Zb (Ap a 0) (Z []))) a)) (Zg (ZD ((Zu ((Zb (Zh (Z (.int 1))) (Zb (Zh (Bn a 0)) (Z []))).bind Zy)).map D.tup)) (λa=>.next a)) (.next a)) (λa=>Zg (ZD ((Zu ((Zb (Zh (Z (.int 2))) (Zb (Zh (Bn a 0)) (Z []))).bind Zy)).map D.tup)) (λa=>.next a)))
def P9:U Sl->O Rv:=AR 1 1 Vp
def Vq:VE->O D:=λa=>(Zu ((Zb (Zh ((Zp Jd (λa=>Zb (Ap a 0) (Zb (Ap a 1) (Z [])))) a)) (Zb (Zh ((Zp Jd (λa=>Zb (Ap a 0) (Zb (Ap a 2) (Z [])))) a)) (Z []))).bind Zy)).map D.tup
def Vr:VE->An:=λa=>Zg (IC ((HV (λa=>ZH ((ZG 1 [1,2] (λa=>(Bj a 0).bind Zx) (Zn 0) (λ_=>Z yB) Vq) a))) a)) (λa=>.next a)
def Qa:U Sl->O Rv:=AR 3 3 Vr
def Vs:VE->An:=λa=>Zg (ZD (Dq (B4 (AF ((Zp Jb (λa=>Zb (Ap a 1) (Z []))) a)) (AF ((O7 ar ar (λ_=>Z (.int 0)) (λa=>Af a 1) (Zp PM (λa=>Zb (Ap a 0) (Z [])))) a))))) (λa=>.next a)
def Qb:U Sl->O Rv:=AR 2 2 Vs
def Qc:VE->An:=λa=>Zg (Dv 4 ((Zd BS (λ_=>Z (.int 1)) (Zd Cq (Zd Aq (λa=>Af a 1) (Zd BS (λ_=>Z (.int 2)) (λa=>Af a 5))) (Zd Aq (λa=>Af a 4) (Zd Ei (λa=>Af a 5) (λ_=>Z (.int 1)))))) a) a) (λa=>.next a)
def NF:VE->An:=λa=>Zg (ZE (AF ((Zd Ea (λa=>Af a 5) (λ_=>Z (.int 0))) a)) (Zg (Z8 9 ((Zd Cq (Zd Aq (λa=>Af a 1) (Zd BS (Zd BS (λ_=>Z (.int 7)) (Zd FE (λ_=>Z (.int 7)) (λa=>Af a 5))) (λa=>Af a 9))) (Zd Aq (λa=>Af a 4) (λa=>Af a 5))) a) a) (λa=>.next a)) (.next a)) (λa=>Zg (Dv 8 ((Zp Je (λa=>Zb (Zh ((Zd BS (λa=>Af a 0) (Zd FE (Zd Aq (λa=>Af a 1) (λ_=>Z (.int 2))) (Zd Cq (Zd Aq (λa=>Af a 1) (λ_=>Z (.int 6))) (λ_=>Z (.int 2))))) a)) (Zb (Zh ((Zd Cq (Zd BS (Zd Aq (λa=>Af a 1) (λ_=>Z (.int 7))) (Zd FE (λa=>Af a 5) (Zd Cq (Zd Aq (λa=>Af a 1) (λ_=>Z (.int 8))) (λ_=>Z (.int 2))))) (λ_=>Z (.int 2))) a)) (Zb (Ap a 9) (Z []))))) a) a) (λa=>.next a))
def Qd:VE->An:=λa=>Zg (CW 8 (Zu ((Z []).bind Zy)) a) (λa=>Zg (Z8 9 ((Zd Cq (Zd BS (λa=>Af a 7) (Zd Aq (λa=>Af a 1) (λ_=>Z (.int 2)))) (λa=>Af a 2)) a) a) (λa=>Zg ((Cb (λa=>((Zb (Zh (Bn a 3)) (Z [])).bind Zy).bind EX) (Zn 5) NF) a) (λa=>Zg (Dv 6 ((Zv Fh (λa=>Zb (Ap a 8) (Z []))) a) a) (λa=>.next a))))
def dU:VE->An:=λa=>Z8 1 ((Zp GQ (λa=>Zb (Ap a 0) (Zb (Zh (Z (.int 40))) (Z [])))) a) a
def dV:VE->An:=λa=>Z8 2 ((Zd BS (λ_=>Z (.int 1)) (Zd Cq (Zd Aq (λa=>Af a 1) (λ_=>Z (.int 0))) (λ_=>Z (.int 6)))) a) a
def dW:VE->An:=λa=>Z8 3 ((Zd Aq (λa=>ZH (Zu ((Zb (Zh (Z (.int 2))) (Zb (Zh (Z (.int 1))) (Zb (Zh (Z (.int 3))) (Zb (Zh (Z (.int 2))) (Zb (Zh (Z (.int 3))) (Zb (Zh (Z (.int 4))) (Zb (Zh (Z (.int 2))) (Zb (Zh (Z (.int 3))) (Z []))))))))).bind Zy))) (Zd Cq (Zd Aq (λa=>Af a 1) (λ_=>Z (.int 1))) (λ_=>Z (.int 8)))) a) a
def dX:VE->An:=λa=>CW 4 (Zu ((Zb (Zh (Bn a 2)) (Z [])).bind Zy)) a
def dY:VE->An:=(Cb (λa=>((Zb (Zh (Z (.int 1))) (Zb (Zh (Bn a 3)) (Z []))).bind Zy).bind MP) (Zn 5) Qc)
def dZ:VE->An:=λa=>CW 6 (Zu ((Z []).bind Zy)) a
def ed:VE->An:=(Cb (λa=>((Zb (Zh (Bn a 2)) (Z [])).bind Zy).bind EX) (Zn 7) Qd)
def ef:VE->An:=λa=>CV (DC a 6)
def rT:VE->An:=λa=>.next a
def eg:VE->An:=λa=>Zg (ef a) rT
def eo:VE->An:=λa=>Zg (ed a) eg
def er:VE->An:=λa=>Zg (dZ a) eo
def et:VE->An:=λa=>Zg (dY a) er
def eu:VE->An:=λa=>Zg (dX a) et
def ew:VE->An:=λa=>Zg (dW a) eu
def eA:VE->An:=λa=>Zg (dV a) ew
def eB:VE->An:=λa=>Zg (dU a) eA
def Vt:VE->An:=eB
def Qe:U Sl->O Rv:=AR 1 10 Vt
def Vu:VE->O D:=(Zp Vh (λa=>Zb (Zh ((Zd Aq (λa=>Af a 1) (λa=>Af a 0)) a)) (Zb (Zh ((Zd Aq (λa=>Af a 2) (λa=>Af a 0)) a)) (Zb (Zh ((Zd Aq (λa=>Af a 3) (λa=>Af a 0)) a)) (Z [])))))
def Qf:VE->An:=λa=>Zg (ZD ((Zv Fh (λa=>Zb (Zh (ZH ((ZG 1 [0,1,2] (λa=>((Zb (Zh ((Zv ZQ (λa=>Zb (Ap a 1) (Z []))) a)) (Z [])).bind Zy).bind EX) (Zn 0) (λ_=>Z yB) Vu) a))) (Z []))) a)) (λa=>.next a)
def Vv:U Sl->O Rv:=AR 3 3 Qf
def Qg:VE->O D:=(Zd Aq (Zd Aq (Zd Aq (λa=>Af a 1) (λa=>Af a 0)) (Zd Cq (Zd Aq (λa=>Af a 2) (λa=>Af a 0)) (Zv ZQ (λa=>Zb (Zh ((Zd Aq (λa=>Af a 1) (λa=>Af a 0)) a)) (Z []))))) (λ_=>Z (.int 0)))
def Qh:VE->An:=λa=>Zg (Z8 2 ((Zp GQ (λa=>Zb (Ap a 1) (Zb (Zh (Z (.int 6))) (Z [])))) a) a) (λa=>Zg (Z8 3 ((Zv Fh (λa=>Zb (Zh (ZH ((ZG 1 [0,2] (λa=>((Zb (Zh ((Zv ZQ (λa=>Zb (Ap a 0) (Z []))) a)) (Z [])).bind Zy).bind EX) (Zn 0) (λ_=>Z yB) Qg) a))) (Z []))) a) a) (λa=>Zg (ZD ((Zu ((Zb (Zh (Bn a 3)) (Zb (Zh ((Zd Aq (λa=>ZH (Zu ((Zb (Zh ((Zd Ei (Zd Cq (Zd Aq (λa=>Af a 2) (λ_=>Z (.int 4))) (λ_=>Z (.int 7))) (λ_=>Z (.int 3))) a)) (Zb (Zh ((Zd Cq (λa=>Af a 1) (Zd IF (λ_=>Z (.int 10)) (λ_=>Z (.int 30)))) a)) (Zb (Zh ((Zd Ei (λ_=>Z (.int 0)) (Zd Cq (λa=>Af a 1) (Zd IF (λ_=>Z (.int 10)) (λ_=>Z (.int 30))))) a)) (Zb (Zh ((Zd Cq (Zd Aq (λa=>Af a 2) (λ_=>Z (.int 4))) (λ_=>Z (.int 2))) a)) (Z []))))).bind Zy))) (Zd Cq (Zd Aq (λa=>Af a 2) (λ_=>Z (.int 5))) (λ_=>Z (.int 4)))) a)) (Z []))).bind Zy)).map D.tup)) (λa=>.next a)))
def Vw:U Sl->O Rv:=AR 2 4 Qh
def K8:VE->An:=λa=>Zg (ZE (AF ((Zd Bz (λa=>Af a 2) (λa=>Af a 3)) a)) (Zg (ZD ((Zp Vm (λa=>Zb (Ap a 2) (Zb (Ap a 3) (Z [])))) a)) (λa=>.next a)) (.next a)) (λa=>.next a)
def NG:VE->An:=λa=>Zg ((Cb (E3 (λa=>Bj a 0) (λa=>Bj a 1)) (Cn 2 (ZI (Zn 2) (ZI (Zn 3) Cp))) K8) a) (λa=>Zg (ZD (Z (.bl yC))) (λa=>.next a))
def Ma:U Sl->O Rv:=AR 2 4 NG
def Vx:VE->O D:=(Zp P9 (λa=>Zb (Ap a 0) (Z [])))
def Vy:VE->An:=λa=>Zg (ZD ((Zv Fh (λa=>Zb (Zh (ZH ((ZG 1 [] (λa=>(Bj a 0).bind Zx) (Zn 0) (λ_=>Z yB) Vx) a))) (Z []))) a)) (λa=>.next a)
def Mb:U Sl->O Rv:=AR 1 1 Vy
def Vz:VE->O D:=(Zp NE (λa=>Zb (Ap a 0) (Z [])))
def K9:VE->An:=λa=>Zg (ZE (ZW (Z5 ((Zv Co (λa=>Zb (Ap a 0) (Zb (Zh (Z (.ty "tuple"))) (Z [])))) a))) (Zg (ZD (Z (.bl yC))) (λa=>.next a)) (.next a)) (λa=>Zg (ZE (BR (AF ((Zd Ek (Zv ZQ (λa=>Zb (Ap a 0) (Z []))) (λ_=>Z (.int 1))) a)) (AF ((Zd Ea (Zv ZQ (λa=>Zb (Ap a 0) (Z []))) (λ_=>Z (.int 4))) a))) (Zg (ZD (Z (.bl yC))) (λa=>.next a)) (.next a)) (λa=>Zg (ZD ((Zv F2 (λa=>Zb (Zh (ZH ((ZG 1 [] (λa=>(Bj a 0).bind Zx) (Zn 0) (λ_=>Z yB) Vz) a))) (Z []))) a)) (λa=>.next a)))
def J4:U Sl->O Rv:=AR 1 1 K9
def VA:VE->O D:=(Zp Qb (λa=>Zb (Ap a 0) (Zb (Ap a 1) (Z []))))
def VB:VE->An:=λa=>Zg (ZE (BR (ZW (Z5 ((Zv Co (λa=>Zb (Ap a 1) (Zb (Zh (Z (.ty "tuple"))) (Z [])))) a))) (AF ((Zd Bz (Zv ZQ (λa=>Zb (Ap a 1) (Z []))) (Zv ZQ (λa=>Zb (Ap a 0) (Z [])))) a))) (Zg (ZD (Z (.bl yC))) (λa=>.next a)) (.next a)) (λa=>Zg (ZD ((Zv F2 (λa=>Zb (Zh (ZH ((ZG 2 [] (E3 (λa=>Bj a 0) (λa=>Bj a 1)) (Cn 2 (ZI (Zn 0) (ZI (Zn 1) Cp))) (λ_=>Z yB) VA) a))) (Z []))) a)) (λa=>.next a))
def Qi:U Sl->O Rv:=AR 2 2 VB
def Qj:VE->O D:=(Zp Qa (λa=>Zb (Ap a 1) (Zb (Zh ((Zd Aq (λa=>Af a 2) (λa=>Af a 0)) a)) (Zb (Zh ((Zd Aq (λa=>Af a 3) (λa=>Af a 0)) a)) (Z [])))))
def VC:VE->An:=λa=>Zg (CV ((ZG 2 [1,2] (Nw (λa=>Bj a 0)) (Cn 2 (ZI (Zn 0) (ZI (Zn 1) Cp))) (λ_=>Z yB) Qj) a)) (λa=>.next a)
def Qk:U Sl->O Rv:=AR 3 3 VC
def Ql:VE->O D:=(Zp Qe (λa=>Zb (Zh ((Zd BS (Zp Hs (λa=>Zb (Ap a 1) (Zb (Zh ((Zd BS (λ_=>Z (.int 1)) (λa=>Af a 0)) a)) (Z [])))) (Zd FE (λ_=>Z (.int 1000)) (λa=>Af a 0))) a)) (Z [])))
def Qm:VE->O D:=(Hj (λa=>Af a 0) (λ_=>Z yA) (λa=>F1 (Z (.int 3))) HQ)
def VD:VE->An:=λa=>Z8 1 ((Zd Aq (λa=>ZH (Zu ((Zb (Zh (Z (.int 2))) (Zb (Zh (Z (.int 1))) (Zb (Zh (Z (.int 2))) (Zb (Zh (Z (.int 3))) (Zb (Zh (Z (.int 1))) (Zb (Zh (Z (.int 2))) (Zb (Zh (Z (.int 3))) (Zb (Zh (Z (.int 4))) (Z []))))))))).bind Zy))) (Zd Cq (Zp Hs (λa=>Zb (Ap a 0) (Zb (Zh (Z (.int 0))) (Z [])))) (λ_=>Z (.int 8)))) a) a
def VF:VE->An:=λa=>Z8 2 (ZH ((ZG 1 [0] (λa=>((Zb (Zh (Bn a 1)) (Z [])).bind Zy).bind EX) (Zn 0) (λ_=>Z yB) Ql) a)) a
def VG:VE->An:=λa=>ZE (AF ((Zd Dw (λa=>Af a 1) (λ_=>Z (.int 4))) a)) (Zg (Z8 2 (ZH ((ZG 1 [] (λa=>(Bj a 2).bind Zx) (Zn 0) (λ_=>Z yB) Qm) a)) a) (λa=>.next a)) (.next a)
def VH:VE->An:=λa=>ZD (Bn a 2)
def rV:VE->An:=λa=>.next a
def VI:VE->An:=λa=>Zg (VH a) rV
def VJ:VE->An:=λa=>Zg (VG a) VI
def VL:VE->An:=λa=>Zg (VF a) VJ
def VM:VE->An:=λa=>Zg (VD a) VL
def Qn:VE->An:=VM
def NH:U Sl->O Rv:=AR 1 3 Qn
def NI:VE->O D:=(Zp Vv (λa=>Zb (Ap a 0) (Zb (Ap a 4) (Zb (Ap a 2) (Z [])))))
def Qo:VE->O D:=λa=>Bn a 5
def Qp:VE->An:=λa=>Zg (IV 6 (Af a 4) ((Zp P5 (λa=>Zb (Zh ((Zd DP (λa=>Af a 3) (λa=>Af a 4)) a)) (Z []))) a) a) (λa=>.next a)
def eC:VE->An:=λa=>F0 3 (Z []) a
def VN:VE->An:=(PH 3 (λa=>(Bj a 1).bind Zx) (Cn 2 (ZI (Zn 4) (ZI (Zn 5) Cp))) NI Qo)
def eE:VE->An:=λa=>F0 6 (Z []) a
def VO:VE->An:=λa=>(Cb (λa=>(Bj a 3).bind EQ) (Zn 4) Qp) (GF 3 a)
def eF:VE->An:=λa=>IC (GD a 6)
def rW:VE->An:=λa=>.next a
def eG:VE->An:=λa=>Zg (eF a) rW
def eH:VE->An:=λa=>Zg (VO a) eG
def eI:VE->An:=λa=>Zg (eE a) eH
def eJ:VE->An:=λa=>Zg (VN a) eI
def VP:VE->An:=λa=>Zg (eC a) eJ
def eK:VE->An:=VP
def NJ:U Sl->O Rv:=AR 3 7 eK
def Qq:VE->O D:=(Zp L9 (λa=>Zb (Ap a 0) (Z [])))
def VQ:VE->O D:=(Zv Co (λa=>Zb (Ap a 0) (Zb (Zh (Z (.ty "bool"))) (Z []))))
def Qr:VE->An:=λa=>Zg (ZE (BR (ZW (Z5 ((Zv Co (λa=>Zb (Zh ((Zd Aq (λa=>Af a 0) (λa=>Af a 2)) a)) (Zb (Zh (Z (.ty "tuple"))) (Z [])))) a))) (BR (AF ((Zd Bz (Zv ZQ (λa=>Zb (Zh ((Zd Aq (λa=>Af a 0) (λa=>Af a 2)) a)) (Z []))) (λ_=>Z (.int 2))) a)) (ZW (Z5 ((Zv Co (λa=>Zb (Zh ((Zd Aq (Zd Aq (λa=>Af a 0) (λa=>Af a 2)) (λ_=>Z (.int 1))) a)) (Zb (Zh (Z (.ty "tuple"))) (Z [])))) a))))) (Zg (ZD (Z (.bl yC))) (λa=>.next a)) (.next a)) (λa=>Zg (ZE (BR (ZW (Z5 ((Zv F2 (λa=>Zb (Zh (ZH ((ZG 1 [] (λa=>((Zd Aq (Zd Aq (λa=>Af a 0) (λa=>Af a 2)) (λ_=>Z (.int 1))) a).bind Zx) (Zn 0) (λ_=>Z yB) Qq) a))) (Z []))) a))) (Z5 ((Zv JH (λa=>Zb (Zh (ZH ((ZG 1 [] (λa=>((Zd Aq (Zd Aq (λa=>Af a 0) (λa=>Af a 2)) (λ_=>Z (.int 0))) a).bind Zx) (Zn 0) (λ_=>Z yB) VQ) a))) (Z []))) a))) (Zg (ZD (Z (.bl yC))) (λa=>.next a)) (.next a)) (λa=>Zg (ZE (BR (AF ((Zd (DQ yB) (Zd Aq (Zd Aq (λa=>Af a 0) (λa=>Af a 2)) (λ_=>Z (.int 0))) (λa=>Af a 1)) a)) (AF ((Zd Bz (Zd DP (λa=>Af a 1) (Zd Aq (Zd Aq (λa=>Af a 0) (λa=>Af a 2)) (λ_=>Z (.int 0)))) (Zd Aq (Zd Aq (λa=>Af a 0) (λa=>Af a 2)) (λ_=>Z (.int 1)))) a))) (Zg (ZD (Z (.bl yC))) (λa=>.next a)) (.next a)) (λa=>Zg (ZE (B4 (AF ((Zd Ea (λa=>Af a 2) (λ_=>Z (.int 0))) a)) (ZW (Z5 ((Zp Ma (λa=>Zb (Zh ((Zd Aq (Zd Aq (λa=>Af a 0) (Zd Ei (λa=>Af a 2) (λ_=>Z (.int 1)))) (λ_=>Z (.int 0))) a)) (Zb (Zh ((Zd Aq (Zd Aq (λa=>Af a 0) (λa=>Af a 2)) (λ_=>Z (.int 0))) a)) (Z [])))) a)))) (Zg (ZD (Z (.bl yC))) (λa=>.next a)) (.next a)) (λa=>.next a))))
def Qs:VE->An:=λa=>Zg (ZE (BR (ZW (Z5 ((Zv Co (λa=>Zb (Ap a 0) (Zb (Zh (Z (.ty "list"))) (Z [])))) a))) (AF ((Zd Bz (Zv ZQ (λa=>Zb (Ap a 0) (Z []))) (Zv Nv (λa=>Zb (Ap a 1) (Z [])))) a))) (Zg (ZD (Z (.bl yC))) (λa=>.next a)) (.next a)) (λa=>Zg ((Cb (λa=>((Zb (Zh ((Zv ZQ (λa=>Zb (Ap a 0) (Z []))) a)) (Z [])).bind Zy).bind EX) (Zn 2) Qr) a) (λa=>Zg (ZD (Z (.bl yB))) (λa=>.next a)))
def Mc:U Sl->O Rv:=AR 2 3 Qs
def HZ:VE->An:=λa=>Zg (Z8 5 ((Zp GQ (λa=>Zb (Ap a 4) (Zb (Zh (Z (.int 3))) (Z [])))) a) a) (λa=>Zg (ZE (B4 (AF ((Zd Bz (λa=>Af a 1) (λa=>ZH (Zu ((Z []).bind Zy)))) a)) (AF ((Zd Dw (Zd Cq (Zd Aq (λa=>Af a 5) (λ_=>Z (.int 0))) (λ_=>Z (.int 3))) (λ_=>Z (.int 0))) a))) (Zg (KU 6 ((Px 1 (Zd Cq (Zd Aq (λa=>Af a 5) (λ_=>Z (.int 1))) (Zv ZQ (λa=>Zb (Ap a 1) (Z []))))) a)) (λa=>Zg (Dv 3 ((Zd BS (λa=>(Zu ((Zb (Zh (Z (.str "-"))) (Z [])).bind Zy)).map D.tup) (λa=>Af a 6)) a) a) (λa=>.next a))) (Zg (Z8 6 ((Zp Vw (λa=>Zb (Ap a 0) (Zb (Zh ((Zd IE (λa=>Af a 4) (λ_=>Z (.int 3))) a)) (Z [])))) a) a) (λa=>Zg (ZE (B4 (AF ((Zd Bz (λa=>Af a 1) (λa=>ZH (Zu ((Z []).bind Zy)))) a)) (AF ((Zd Dw (Zd Cq (Zd Aq (λa=>Af a 5) (λ_=>Z (.int 0))) (λ_=>Z (.int 3))) (λ_=>Z (.int 1))) a))) (Zg (Z8 6 ((Zu ((Zb (Zh ((Zd Aq (Zd Aq (λa=>Af a 1) (Zd Cq (Zd Aq (λa=>Af a 5) (λ_=>Z (.int 1))) (Zv ZQ (λa=>Zb (Ap a 1) (Z []))))) (λ_=>Z (.int 0))) a)) (Zb (Zh ((Zd Aq (λa=>Af a 6) (λ_=>Z (.int 1))) a)) (Z []))).bind Zy)).map D.tup) a) (λa=>.next a)) (.next a)) (λa=>Zg (ZE (B4 (AF ((Zd Bz (λa=>Af a 1) (λa=>ZH (Zu ((Z []).bind Zy)))) a)) (AF ((Zd Dw (Zd Cq (Zd Aq (λa=>Af a 5) (λ_=>Z (.int 0))) (λ_=>Z (.int 9))) (λ_=>Z (.int 2))) a))) (Zg (Z8 6 ((Zd Aq (λa=>Af a 1) (Zd Cq (Zd Aq (λa=>Af a 5) (λ_=>Z (.int 1))) (Zv ZQ (λa=>Zb (Ap a 1) (Z []))))) a) a) (λa=>.next a)) (.next a)) (λa=>Zg (Dv 1 (Bn a 6) a) (λa=>Zg (Dv 3 ((Zd BS (λa=>(Zu ((Zb (Zh (Z (.str "+"))) (Z [])).bind Zy)).map D.tup) (λa=>Af a 6)) a) a) (λa=>.next a))))))) (λa=>.next a))
def VR:VE->An:=(Cb (λa=>(Bj a 2).bind Zx) (Zn 4) HZ)
def eL:VE->An:=λa=>CW 3 (Zu ((Z []).bind Zy)) a
def VS:VE->O (Ac×RB):=λa=>En (eL a) (λa=>En (VR a) (λa=>(λa=>(Bn a 3).bind λd=>EZ 1 d a) (GF 3 a)))
def Qt:U Sl->Sl->U Sl->O RB:=E1 3 7 VS
def VT:VE->O D:=(Zv Co (λa=>Zb (Ap a 0) (Zb (Zh (Z (.ty "bool"))) (Z []))))
def Qu:VE->An:=λa=>Zg (ZE (BR (ZW (Z5 ((Zv Co (λa=>Zb (Zh ((Zd Aq (λa=>Af a 0) (λa=>Af a 3)) a)) (Zb (Zh (Z (.ty "tuple"))) (Z [])))) a))) (BR (AF ((Zd (Ej yB) (Zd Aq (λa=>Af a 0) (λa=>Af a 3)) (λa=>Af a 2)) a)) (ZW (Z5 ((Zp L9 (λa=>Zb (Zh ((Zd Aq (Zd Aq (λa=>Af a 0) (λa=>Af a 3)) (λ_=>Z (.int 1))) a)) (Z []))) a))))) (Zg (ZD (Z (.bl yC))) (λa=>.next a)) (.next a)) (λa=>Zg (ZE (Z5 ((Zv JH (λa=>Zb (Zh (ZH ((ZG 1 [] (λa=>((Zd Aq (Zd Aq (λa=>Af a 0) (λa=>Af a 3)) (λ_=>Z (.int 0))) a).bind Zx) (Zn 0) (λ_=>Z yB) VT) a))) (Z []))) a)) (Zg (ZD (Z (.bl yC))) (λa=>.next a)) (.next a)) (λa=>Zg (K1 2 ((Zd Aq (λa=>Af a 0) (λa=>Af a 3)) a) a) (λa=>Zg (ZE (B4 (AF ((Zd Ea (λa=>Af a 3) (λ_=>Z (.int 0))) a)) (B4 (AF ((Zd Dw (Zd Aq (Zd Aq (λa=>Af a 0) (Zd Ei (λa=>Af a 3) (λ_=>Z (.int 1)))) (λ_=>Z (.int 0))) (Zd Aq (Zd Aq (λa=>Af a 0) (λa=>Af a 3)) (λ_=>Z (.int 0)))) a)) (AF ((Zd Ek (Zd Aq (Zd Aq (λa=>Af a 0) (λa=>Af a 3)) (λ_=>Z (.int 1))) (Zd Aq (Zd Aq (λa=>Af a 0) (Zd Ei (λa=>Af a 3) (λ_=>Z (.int 1)))) (λ_=>Z (.int 1)))) a)))) (Zg (ZD (Z (.bl yC))) (λa=>.next a)) (.next a)) (λa=>Zg (ZE (B4 (AF ((Zd Ea (λa=>Af a 3) (λ_=>Z (.int 0))) a)) (B4 (AF ((Zd Bz (Zd Aq (Zd Aq (λa=>Af a 0) (Zd Ei (λa=>Af a 3) (λ_=>Z (.int 1)))) (λ_=>Z (.int 0))) (Zd Aq (Zd Aq (λa=>Af a 0) (λa=>Af a 3)) (λ_=>Z (.int 0)))) a)) (ZW (Z5 ((Zp Ma (λa=>Zb (Zh ((Zd Aq (Zd Aq (λa=>Af a 0) (Zd Ei (λa=>Af a 3) (λ_=>Z (.int 1)))) (λ_=>Z (.int 0))) a)) (Zb (Zh ((Zd Aq (Zd Aq (λa=>Af a 0) (λa=>Af a 3)) (λ_=>Z (.int 0))) a)) (Z [])))) a))))) (Zg (ZD (Z (.bl yC))) (λa=>.next a)) (.next a)) (λa=>.next a)))))
def VU:VE->An:=λa=>ZE (BR (ZW (Z5 ((Zv Co (λa=>Zb (Ap a 0) (Zb (Zh (Z (.ty "list"))) (Z [])))) a))) (AF ((Zd Bz (Zv ZQ (λa=>Zb (Ap a 0) (Z []))) (Zv ZQ (λa=>Zb (Ap a 1) (Z [])))) a))) (Zg (ZD (Z (.bl yC))) (λa=>.next a)) (.next a)
def VV:VE->An:=λa=>CW 2 ((D9 Fg (λa=>Zb (Ap a 1) (Z []))) a) a
def VW:VE->An:=(Cb (λa=>((Zb (Zh ((Zv ZQ (λa=>Zb (Ap a 0) (Z []))) a)) (Z [])).bind Zy).bind EX) (Zn 3) Qu)
noncomputable def eM:VE->An:=λa=>ZD (Z (.bl yB))
def rX:VE->An:=λa=>.next a
def eO:VE->An:=λa=>Zg (eM a) rX
def eP:VE->An:=λa=>Zg (VW a) eO
def eQ:VE->An:=λa=>Zg (VV a) eP
def VX:VE->An:=λa=>Zg (VU a) eQ
def eR:VE->An:=VX
def Md:U Sl->O Rv:=AR 2 4 eR
def VY:VE->O D:=(Zp J4 (λa=>Zb (Ap a 0) (Z [])))
def NK:VE->An:=λa=>Zg (Z8 6 ((Hj (λa=>Af a 3) (λa=>F1 ((Zd BS (λa=>Af a 4) (λ_=>Z (.int 1))) a)) (λ_=>Z yA) HQ) a) a) (λa=>Zg (JX (Nb (M9 1 (λa=>(Zu ((Zb (Zh (Bn a 4)) (Zb (Zh (Bn a 5)) (Z []))).bind Zy)).map D.tup) (λa=>Bn a 6)) (λa=>Af a 6) a) (λa=>Zg (ZD (Z (.bl yC))) (λa=>.next a)) (λa=>.next a)) (λa=>.next a))
def Ht:VE->An:=λa=>Zg (ZE (BR (AF ((Zd Bz (Zv ZQ (λa=>Zb (Ap a 3) (Z []))) (Zv ZQ (λa=>Zb (Zh ((Zd Aq (λa=>Af a 0) (λ_=>Z (.int 0))) a)) (Z [])))) a)) (AF ((Zd (DQ yC) (Zd Aq (λa=>Af a 3) (λ_=>Z (.int 0))) (λa=>Af a 2)) a))) (Zg (ZD (Z (.bl yC))) (λa=>.next a)) (.next a)) (λa=>Zg (IV 2 ((Zd Aq (λa=>Af a 3) (λ_=>Z (.int 0))) a) (Z (.bl yB)) a) (λa=>Zg ((Cb (Nw (λa=>Bj a 3)) (Cn 2 (ZI (Zn 4) (ZI (Zn 5) Cp))) NK) a) (λa=>.next a)))
def NL:VE->An:=λa=>ZE (ZW (Z5 ((Zv F2 (λa=>Zb (Zh (ZH ((ZG 1 [] (λa=>(Bj a 0).bind Zx) (Zn 0) (λ_=>Z yB) VY) a))) (Z []))) a))) (Zg (ZD (Z (.bl yC))) (λa=>.next a)) (.next a)
def Qv:VE->An:=λa=>F0 1 (Z []) a
def Qw:VE->An:=λa=>F0 2 (Z []) a
def Qx:VE->An:=(Cb (λa=>(Bj a 0).bind Zx) (Zn 3) Ht)
def VZ:VE->An:=λa=>ZD (Z (.bl yB))
def rY:VE->An:=λa=>.next a
def V0:VE->An:=λa=>Zg (VZ a) rY
def Qy:VE->An:=λa=>Zg (Qx a) V0
def Qz:VE->An:=λa=>Zg (Qw a) Qy
def QA:VE->An:=λa=>Zg (Qv a) Qz
def NM:VE->An:=λa=>Zg (NL a) QA
def Me:VE->An:=NM
def Jf:U Sl->O Rv:=AR 1 7 Me
def QB:VE->An:=λa=>Zg (ZD ((Zu ((Zb (Zh ((Zp Mb (λa=>Zb (Zh ((Zd Aq (λa=>Af a 0) (λ_=>Z (.int 0))) a)) (Z []))) a)) (Zb (Zh ((Zd Aq (λa=>Af a 0) (λ_=>Z (.int 1))) a)) (Z []))).bind Zy)).map D.tup)) (λa=>.next a)
def QC:U Sl->O Rv:=AR 1 1 QB
def V1:VE->An:=λa=>Zg (ZD (Dq (B4 (AF ((Zp Qi (λa=>Zb (Zh ((Af a 0).bind (DF "Book" "axes"))) (Zb (Ap a 1) (Z [])))) a)) (AF ((Zd (DQ yC) (λa=>Af a 1) (λa=>(Af a 0).bind (DF "Book" "tables"))) a))))) (λa=>.next a)
def QD:U Sl->O Rv:=AR 2 2 V1
def V2:VE->An:=λa=>Zg (ZE (ZW (Z5 ((Zv Co (λa=>Zb (Ap a 0) (Zb (Zh (Z (.ty "list"))) (Z [])))) a))) (Zg (ZD (Z (.bl yC))) (λa=>.next a)) (.next a)) (λa=>Zg (ZE (BR (AF ((Zd Ek (Zv ZQ (λa=>Zb (Ap a 0) (Z []))) (λ_=>Z (.int 1))) a)) (AF ((Zd Ea (Zv ZQ (λa=>Zb (Ap a 0) (Z []))) (λ_=>Z (.int 40))) a))) (Zg (ZD (Z (.bl yC))) (λa=>.next a)) (.next a)) (λa=>Zg (ZD ((Zp Jf (λa=>Zb (Ap a 0) (Z []))) a)) (λa=>.next a)))
def J5:U Sl->O Rv:=AR 1 1 V2
def V3:VE->An:=λa=>Zg (ZE (ZW (Z5 ((EL "Book" "is_kept" QD (Ap a 0) (Zb (Ap a 1) (Z []))).map CH))) (Zg (.fail) (λa=>.next a)) (.next a)) (λa=>Zg (CV ((D9 Fg (λa=>Zb (Zh ((Zd DP (λa=>(Af a 0).bind (DF "Book" "tables")) (λa=>Af a 1)) a)) (Z []))) a)) (λa=>.next a))
def La:U Sl->O Rv:=AR 2 2 V3
def J6:VE->An:=λa=>Zg (ZE (BR (ZW (Z5 (Af a 1))) (AF ((Zd Bz (Zd Aq (λa=>Af a 1) (λa=>OS (Z (.int 1)))) (λa=>Af a 2)) a))) (Zg (Dv 1 (Bn a 2) a) (λa=>.next a)) (.next a)) (λa=>.next a)
def QE:VE->An:=λa=>Zg (CW 1 (Zu ((Z []).bind Zy)) a) (λa=>Zg ((Cb (λa=>(ZH ((LW Mb (λa=>Af a 0)) a)).bind Zx) (Zn 2) J6) a) (λa=>Zg (CV (DC a 1)) (λa=>.next a)))
def NN:U Sl->O Rv:=AR 1 3 QE
def QF:VE->O D:=(Zp J5 (λa=>Zb (Ap a 0) (Z [])))
def V4:VE->An:=λa=>Zg (ZE (ZW (Z5 ((Zv Co (λa=>Zb (Ap a 0) (Zb (Zh (Z (.ty "list"))) (Z [])))) a))) (Zg (ZD (Z (.bl yC))) (λa=>.next a)) (.next a)) (λa=>Zg (ZE (BR (AF ((Zd Ek (Zv ZQ (λa=>Zb (Ap a 0) (Z []))) (λ_=>Z (.int 1))) a)) (AF ((Zd Ea (Zv ZQ (λa=>Zb (Ap a 0) (Z []))) (λ_=>Z (.int 4))) a))) (Zg (ZD (Z (.bl yC))) (λa=>.next a)) (.next a)) (λa=>Zg (ZD ((Zv F2 (λa=>Zb (Zh (ZH ((ZG 1 [] (λa=>(Bj a 0).bind Zx) (Zn 0) (λ_=>Z yB) QF) a))) (Z []))) a)) (λa=>.next a)))
def NO:U Sl->O Rv:=AR 1 1 V4
def V5:VE->O D:=λa=>(Zu ((Zb (Zh (Bn a 0)) (Z [])).bind Zy)).map D.tup
def V6:VE->O D:=(Zd Aq (λa=>Af a 0) (λ_=>Z (.int 0)))
def QG:VE->An:=λa=>Zg (CV ((ZG 1 [] (λa=>((Zp NN (λa=>Zb (Zh (ZH ((ZG 1 [] (λa=>(Bj a 0).bind Zx) (Zn 0) (λ_=>Z yB) V5) a))) (Z []))) a).bind Zx) (Zn 0) (λ_=>Z yB) V6) a)) (λa=>.next a)
def V7:U Sl->O Rv:=AR 1 1 QG
def NP:VE->O D:=(Zd DP (λa=>Af a 0) (λa=>Af a 1))
def NQ:VE->An:=λa=>Zg (ZE (Z5 ((Zp PU (λa=>Zb (Ap a 0) (Zb (Ap a 3) (Z [])))) a)) (Zg (Z8 5 ((Zv Fh (λa=>Zb (Zh (ZH ((ZG 2 [] (E3 (λa=>Bj a 0) (λa=>Bj a 3)) (Cn 2 (ZI (Zn 0) (ZI (Zn 1) Cp))) (λ_=>Z yB) NP) a))) (Z []))) a) a) (λa=>Zg (IV 2 (Af a 5) (MK (AF ((Zd (DQ yC) (λa=>Af a 5) (λa=>Af a 2)) a)) ((Zp Nz (λa=>Zb (Zh ((Zd DP (λa=>Af a 2) (λa=>Af a 5)) a)) (Zb (Ap a 4) (Z [])))) a) (Bn a 4)) a) (λa=>.next a))) (.next a)) (λa=>.next a)
def V8:VE->O D:=λa=>(Zu ((Zb (Zh (Bn a 0)) (Zb (Zh ((Zd DP (λa=>Af a 1) (λa=>Af a 0)) a)) (Z []))).bind Zy)).map D.tup
def QH:VE->An:=λa=>Zg (F0 2 (Z []) a) (λa=>Zg ((Cb (λa=>(Bj a 1).bind Zx) (Cn 2 (ZI (Zn 3) (ZI (Zn 4) Cp))) NQ) a) (λa=>Zg (CV ((ZG 1 [2] (λa=>((Zp NN (λa=>Zb (Zh (ZH ((D9 KW (λa=>Zb (Ap a 2) (Z []))) a))) (Z []))) a).bind Zx) (Zn 0) (λ_=>Z yB) V8) a)) (λa=>.next a)))
def V9:U Sl->O Rv:=AR 2 6 QH
def Wa:VE->O Bool:=λa=>AF ((Zd Bz (Zd Np (λa=>Af a 1) (λa=>Af a 0)) (Zd DP (λa=>Af a 2) (λa=>Af a 0))) a)
def eS:VE->O D:=λa=>Bn a 0
def Wb:VE->O Bool:=λa=>AF ((Zd (DQ yB) (λa=>Af a 0) (λa=>Af a 1)) a)
def eT:VE->O D:=λa=>Bn a 0
def Wc:VE->An:=λa=>F0 2 ((HV (λa=>Af a 0)) a) a
def Wd:VE->An:=λa=>F0 3 ((HV (λa=>Af a 1)) a) a
def We:VE->An:=λa=>(λa=>CW 4 ((ZG 1 [3,2] (λa=>(Bj a 2).bind EQ) (Zn 0) Wa eS) a) a) (GF 2 a)
def Wf:VE->An:=λa=>(λa=>CV ((HJ NN (λa=>Zb (Zh ((Zd BS (λa=>Af a 4) (λa=>ZH ((ZG 1 [2] (λa=>(Bj a 3).bind EQ) (Zn 0) Wb eT) a))) a)) (Z []))) a)) (GF 3 a)
def rZ:VE->An:=λa=>.next a
def eU:VE->An:=λa=>Zg (Wf a) rZ
def eV:VE->An:=λa=>Zg (We a) eU
def eW:VE->An:=λa=>Zg (Wd a) eV
def eX:VE->An:=λa=>Zg (Wc a) eW
def QI:VE->An:=eX
def Wg:U Sl->O Rv:=AR 2 5 QI
def Wh:VE->O Bool:=λa=>AF ((Zd Dw (Zp Jd (λa=>Zb (Ap a 0) (Zb (Ap a 1) (Z [])))) (λa=>Af a 2)) a)
def Wi:VE->O D:=(Zd Aq (λa=>Af a 0) (λ_=>Z (.int 0)))
def QJ:VE->An:=λa=>Zg (ZE (B4 (ZW (G9 (Af a 2))) (ZW (Z5 ((Zp NE (λa=>Zb (Ap a 2) (Z []))) a)))) (Zg (CV (Zu ((Z []).bind Zy))) (λa=>.next a)) (.next a)) (λa=>Zg (CV ((HJ V7 (λa=>Zb (Zh (ZH ((ZG 1 [1,2] (λa=>(Bj a 0).bind Zx) (Zn 0) Wh Wi) a))) (Z []))) a)) (λa=>.next a))
def Wj:U Sl->O Rv:=AR 3 3 QJ
def Wk:VE->O D:=λa=>(Zu ((Zb (Zh (Bn a 0)) (Zb (Zh ((Zp PP (λa=>Zb (Zh (ZH (Zu ((Zb (Zh (Bn a 1)) (Z [])).bind Zy)))) (Z []))) a)) (Z []))).bind Zy)).map D.tup
def QK:VE->An:=λa=>Zg (Z8 3 (ZH ((ZG 2 [] (λa=>(Bj a 1).bind Zx) (Cn 2 (ZI (Zn 0) (ZI (Zn 1) Cp))) (λ_=>Z yB) Wk) a)) a) (λa=>Zg (CV ((HJ V9 (λa=>Zb (Zh ((Zp Qk (λa=>Zb (Ap a 0) (Zb (Zh ((Zp Ny (λa=>Zb (Ap a 0) (Z []))) a)) (Zb (Ap a 2) (Z []))))) a)) (Zb (Ap a 3) (Z [])))) a)) (λa=>.next a))
def Wl:U Sl->O Rv:=AR 3 4 QK
def Wm:VE->O D:=λa=>(Zu ((Zb (Zh (Bn a 1)) (Zb (Zh (Bn a 0)) (Z []))).bind Zy)).map D.tup
def Wn:VE->An:=λa=>Zg (LJ 2 ((ZG 1 [3] (λa=>((Zp Wg (λa=>Zb (Zh ((Zd DP (λa=>Af a 0) (λa=>Af a 3)) a)) (Zb (Zh ((Zd DP (λa=>Af a 1) (λa=>Af a 3)) a)) (Z [])))) a).bind Zx) (Zn 0) (λ_=>Z yB) Wm) a) a) (λa=>.next a)
def QL:VE->An:=λa=>Zg (CW 2 (Zu ((Z []).bind Zy)) a) (λa=>Zg ((Cb (λa=>(ZH (L5 (Af a 0))).bind Zx) (Zn 3) Wn) a) (λa=>Zg (CV (DC a 2)) (λa=>.next a)))
def Wo:U Sl->O Rv:=AR 2 4 QL
def QM:VE->An:=λa=>Zg (ZD ((Zd Ea (Zv ZQ (λa=>Zb (Zh ((Zp Wj (λa=>Zb (Ap a 0) (Zb (Ap a 1) (Zb (Ap a 2) (Z []))))) a)) (Z []))) (λ_=>Z (.int 0))) a)) (λa=>.next a)
def Wp:U Sl->O Rv:=AR 3 3 QM
def QN:VE->O D:=λa=>(Zu ((Zb (Zh (Bn a 0)) (Zb (Zh ((Zp Wl (λa=>Zb (Ap a 1) (Zb (Ap a 2) (Zb (Ap a 0) (Z []))))) a)) (Z []))).bind Zy)).map D.tup
def Wq:VE->An:=λa=>Zg (IC ((HV (λa=>ZH ((ZG 1 [0,1] (λa=>(Bj a 2).bind Zx) (Zn 0) (λ_=>Z yB) QN) a))) a)) (λa=>.next a)
def NR:U Sl->O Rv:=AR 3 3 Wq
def QO:VE->O D:=(Zp Wp (λa=>Zb (Ap a 0) (Zb (Zh (Z (.int 0))) (Zb (Ap a 1) (Z [])))))
def QP:VE->An:=λa=>Zg (ZE (BR (ZW (Z5 ((Zv Co (λa=>Zb (Ap a 1) (Zb (Zh (Z (.ty "tuple"))) (Z [])))) a))) (AF ((Zd Bz (Zv ZQ (λa=>Zb (Ap a 1) (Z []))) (Zv ZQ (λa=>Zb (Ap a 0) (Z [])))) a))) (Zg (ZD (Z (.bl yC))) (λa=>.next a)) (.next a)) (λa=>Zg (ZD ((Zv F2 (λa=>Zb (Zh (ZH ((ZG 2 [] (E3 (λa=>Bj a 0) (λa=>Bj a 1)) (Cn 2 (ZI (Zn 0) (ZI (Zn 1) Cp))) (λ_=>Z yB) QO) a))) (Z []))) a)) (λa=>.next a))
def Wr:U Sl->O Rv:=AR 2 2 QP
def Ws:VE->O (U D):=(D9 Fg (λa=>Zb (Ap a 0) (Z [])))
def Wt:VE->An:=λa=>GK "Book" "tables" 0 ((Zp NR (λa=>Zb (Zh ((Af a 0).bind (DF "Book" "axes"))) (Zb (Zh (ZH (Zu ((Z []).bind Zy)))) (Zb (Zh (ZH (Zu ((Zb (Zh ((Zp Ny (λa=>Zb (Zh ((Af a 0).bind (DF "Book" "axes"))) (Z []))) a)) (Z [])).bind Zy)))) (Z []))))) a) a
def Wu:VE->An:=λa=>GK "Book" "standing" 0 (ZH (Zu ((Z []).bind Zy))) a
def Wv:VE->An:=λa=>GK "Book" "axes" 0 (((Gm 1 [] (λa=>(Bj a 1).bind Zx) (Zn 0) Ws) a).map λb=>D.lst (b.map λz=>D.lst z)) a
def Ww:VE->An:=λa=>ZE ((λa=>ZW (Z5 ((Zp NO (λa=>Zb (Ap a 1) (Z []))) a))) (a.map EN)) (Zg (.fail) (λa=>.next a)) (.next a)
def Wx:VE->O (Ac×RB):=λa=>En (Ww a) (λa=>En (Wv a) (λa=>En (Wu a) (λa=>En (Wt a) (λa=>EZ 0 .non a))))
def NS:U Sl->Sl->U Sl->O RB:=E1 2 2 Wx
def Wy:VE->An:=λa=>GK "Book" "tables" 0 ((Zp NR (λa=>Zb (Zh ((Af a 0).bind (DF "Book" "axes"))) (Zb (Zh ((Af a 0).bind (DF "Book" "standing"))) (Zb (Zh (ZH ((D9 KW (λa=>Zb (Ap a 1) (Z []))) a))) (Z []))))) a) a
def Wz:VE->An:=λa=>Z8 1 ((Af a 0).bind (DF "Book" "tables")) a
def WA:VE->O (Ac×RB):=λa=>En (Wz a) (λa=>En (Wy a) (λa=>((Zp Wo (λa=>Zb (Ap a 1) (Zb (Zh ((Af a 0).bind (DF "Book" "tables"))) (Z [])))) a).bind λd=>EZ 0 d a))
def NT:U Sl->Sl->U Sl->O RB:=E1 1 2 WA
def QQ:VE->An:=λa=>Zg (ZE (BR (ZW (Z5 ((Zv Co (λa=>Zb (Ap a 1) (Zb (Zh (Z (.ty "tuple"))) (Z [])))) a))) (AF ((Zd Bz (Zv ZQ (λa=>Zb (Ap a 1) (Z []))) (λ_=>Z (.int 3))) a))) (Zg (ZD (Z (.bl yC))) (λa=>.next a)) (.next a)) (λa=>Zg (ZE (B4 (AF ((Zd Bz (Zd Aq (λa=>Af a 1) (λ_=>Z (.int 0))) (λ_=>Z (.str "+"))) a)) (AF ((Zd Bz (Zd Aq (λa=>Af a 1) (λ_=>Z (.int 0))) (λ_=>Z (.str "-"))) a))) (Zg (ZD (Z (.bl yC))) (λa=>.next a)) (.next a)) (λa=>Zg (ZD (Dq (B4 (AF ((Zp Wr (λa=>Zb (Ap a 0) (Zb (Zh ((Zd Aq (λa=>Af a 1) (λ_=>Z (.int 1))) a)) (Z [])))) a)) (AF ((Zp Jb (λa=>Zb (Zh ((Zd Aq (λa=>Af a 1) (λ_=>Z (.int 2))) a)) (Z []))) a))))) (λa=>.next a)))
def WB:U Sl->O Rv:=AR 2 2 QQ
def NU:VE->An:=λa=>Zg (ZE (ZW (Z5 ((Zp WB (λa=>Zb (Ap a 0) (Zb (Ap a 4) (Z [])))) a))) (Zg (.fail) (λa=>.next a)) (.next a)) (λa=>Zg (ZE (AF ((Zd Dw (Zd Aq (λa=>Af a 4) (λ_=>Z (.int 0))) (λ_=>Z (.str "+"))) a)) (Zg (Na (GJ 3 PV ((Zb (Zh ((Zu ((Zb (Zh ((Zd Aq (λa=>Af a 4) (λ_=>Z (.int 1))) a)) (Zb (Zh ((Zd Aq (λa=>Af a 4) (λ_=>Z (.int 2))) a)) (Z []))).bind Zy)).map D.tup)) (Z [])).map λs=>([],s)) a)) (λa=>.next a)) (Zg (Na (GJ 3 PX ((Zb (Zh ((Zu ((Zb (Zh ((Zd Aq (λa=>Af a 4) (λ_=>Z (.int 1))) a)) (Zb (Zh ((Zd Aq (λa=>Af a 4) (λ_=>Z (.int 2))) a)) (Z []))).bind Zy)).map D.tup)) (Z [])).map λs=>([],s)) a)) (λa=>.next a))) (λa=>.next a))
def QR:VE->An:=λa=>Zg (CW 3 ((D9 Fg (λa=>Zb (Ap a 1) (Z []))) a) a) (λa=>Zg ((Cb (λa=>(Bj a 2).bind Zx) (Zn 4) NU) a) (λa=>Zg (CV ((LW QC (λa=>Af a 3)) a)) (λa=>.next a)))
def WC:U Sl->O Rv:=AR 3 5 QR
def WD:VE->An:=λa=>GK "Book" "standing" 0 ((Zp WC (λa=>Zb (Zh ((Af a 0).bind (DF "Book" "axes"))) (Zb (Zh ((Af a 0).bind (DF "Book" "standing"))) (Zb (Ap a 1) (Z []))))) a) a
def WE:VE->O (Ac×RB):=λa=>En (WD a) (λa=>(HX "Book" "tables_renewed" 0 NT (Z []) a).bind λd=>EZ 0 d.1 d.2)
def QS:U Sl->Sl->U Sl->O RB:=E1 2 2 WE
def WF:VE->O (U D):=(D9 Fg (λa=>Zb (Ap a 0) (Z [])))
def NW:VE->An:=λa=>Zg (KU 9 (GJ 5 Qt ((L1 a 1).bind λs=>((Zb (Zh (ZH ((Py (λa=>Af a 6) (λa=>F1 (Af a 8)) (λ_=>Z yA) (λa=>Af a 7)) a))) (Z [])).map λs=>([],s)).map λp=>(s::p.1,p.2)) a)) (λa=>Zg (CW 10 ((D9 Fg (λa=>Zb (Ap a 9) (Z []))) a) a) (λa=>Zg (KU 11 (HX "Book" "pour" 4 QS (Zb (L1 a 10) (Z [])) a)) (λa=>Zg (ZE (BR (AF ((Zd Bz (λa=>Af a 10) (λa=>Af a 9)) a)) (ZW (Z5 ((Zv Co (λa=>Zb (Ap a 11) (Zb (Zh (Z (.ty "list"))) (Z [])))) a)))) (Zg (ZD (Z (.bl yC))) (λa=>.next a)) (.next a)) (λa=>Zg (Nj 10 a) (λa=>Zg (CW 12 ((EL "Book" "rows" K6 (Ap a 4) (Z [])).bind Hc) a) (λa=>Zg (CW 13 ((EL "Book" "table" La (Ap a 4) (Zb (Ap a 2) (Z []))).bind Hc) a) (λa=>Zg (ZE (BR (ZW (Z5 ((Zp Md (λa=>Zb (Ap a 12) (Zb (Ap a 5) (Z [])))) a))) (ZW (Z5 ((Zp Mc (λa=>Zb (Ap a 13) (Zb (Zh ((Zp NJ (λa=>Zb (Ap a 1) (Zb (Ap a 5) (Zb (Ap a 2) (Z []))))) a)) (Z [])))) a)))) (Zg (ZD (Z (.bl yC))) (λa=>.next a)) (.next a)) (λa=>Zg (Dv 12 ((Zu ((Zb (Zh (Bn a 2)) (Zb (Zh (Z (.int 1))) (Z []))).bind Zy)).map D.tup) a) (λa=>Zg (Dv 13 ((Zu ((Zb (Zh (Bn a 2)) (Zb (Zh ((Zu ((Zb (Zh (Z (.int 1))) (Zb (Zh (Z (.int 1))) (Zb (Zh (Z (.int 1))) (Zb (Zh (Z (.int 1))) (Z []))))).bind Zy)).map D.tup)) (Z []))).bind Zy)).map D.tup) a) (λa=>Pu 14 (Ux "Book" "ladders" NB (Ap a 4)) (λa=>AF ((Zd Bz (λa=>Af a 14) (λa=>Af a 1)) a)) (λa=>Zg (ZD (Z (.bl yC))) (λa=>.next a)) a))))))))))
def WG:VE->An:=λa=>ZD ((Zp Mc (λa=>Zb (Zh ((EL "Book" "table" La (Ap a 4) (Zb (Ap a 2) (Z []))).map CH)) (Zb (Zh ((Zp NJ (λa=>Zb (Ap a 1) (Zb (Ap a 5) (Zb (Ap a 2) (Z []))))) a)) (Z [])))) a)
def WH:VE->An:=λa=>ZE (BR (ZW (Z5 ((Zp Md (λa=>Zb (Zh ((EL "Book" "rows" K6 (Ap a 4) (Z [])).map CH)) (Zb (Ap a 5) (Z [])))) a))) (BR (AF ((Zd Bz (λa=>(EL "Book" "ladders" NA (Ap a 4) (Z [])).map CH) (λa=>Af a 1)) a)) (AF ((Zd Bz (λa=>(EL "Book" "kept" NC (Ap a 4) (Z [])).map CH) (λa=>ZH (Zu ((Zb (Zh (Bn a 2)) (Z [])).bind Zy)))) a)))) (Zg (ZD (Z (.bl yC))) (λa=>.next a)) (.next a)
def WI:VE->An:=(Cb (λa=>((Zb (Zh (Bn a 7)) (Z [])).bind Zy).bind EX) (Zn 8) NW)
def WJ:VE->An:=λa=>Z8 7 ((Zd BS (λ_=>Z (.int 1)) (Zd Cq (Zp Hs (λa=>Zb (Ap a 0) (Zb (Zh (Z (.int 7))) (Z [])))) (λ_=>Z (.int 5)))) a) a
def WK:VE->An:=λa=>Z8 6 ((Zd BS (Hj (λa=>Af a 0) (λa=>F1 (Z (.int 8))) (λa=>F1 (Z (.int 48))) HQ) (Zp GQ (λa=>Zb (Zh ((Zp Hs (λa=>Zb (Ap a 0) (Zb (Zh (Z (.int 6))) (Z [])))) a)) (Zb (Zh ((Zd Cq (Zp Hs (λa=>Zb (Ap a 0) (Zb (Zh (Z (.int 6))) (Z [])))) (λ_=>Z (.int 13))) a)) (Z []))))) a) a
def eY:VE->An:=λa=>CW 5 (Zu ((Z []).bind Zy)) a
def WL:VE->An:=λa=>Zg (eY a) (λa=>Zg (WK a) (λa=>Zg (WJ a) (λa=>Zg (WI a) (λa=>Zg (WH a) (λa=>Zg (WG a) (λa=>.next a))))))
def WM:VE->O D:=λ_=>Z (.int 0)
def WN:VE->An:=λa=>Z8 2 ((Zv Fh (λa=>Zb (Zh (ZH ((ZG 1 [] (λa=>(Bj a 1).bind Zx) (Zn 0) (λ_=>Z yB) WM) a))) (Z []))) a) a
def WP:VE->An:=λa=>Z8 1 ((Zp NH (λa=>Zb (Ap a 0) (Z []))) a) a
def QT:VE->An:=λa=>Zg (WP a) (λa=>Zg (WN a) (λa=>Pw "Book" 3 4 ((Gm 1 [] (λa=>(Bj a 1).bind Zx) (Zn 0) WF) a) (λa=>Pt "Book" NS (Zb (Ap a 3) (Z []))) WL a))
def eZ:U Sl->O Rv:=AR 1 15 QT
theorem QU(s:Sl)(ns:U Int)(b:s=.val (.lst (ns.map D.int))\/s=.lent (ns.map D.int))(k:Int)(c:0<=k):Hs [s,.val (.int k)]=Z (.val (.int (ns.getD k.toNat 0))):=by
 by_cases h:k<ns.length
 ·have a:k.toNat<ns.length:=by lia
  rcases b with rfl|rfl<;>simp[Hs,AR,PY,h,atI,D6,c,a]
 ·have a:ns.length<=k.toNat:=by lia
  rcases b with rfl|rfl<;>simp[Hs,AR,PY,h,a]
noncomputable def BF:Ae:="abcdefghijklmnopqrstuvwxyz"
def Ey:Ae:="0123456789"
def signs:Ae:="abcdefghijklmnopqrstuvwxyz0123456789"
def e5:signs.length=36:=by decide +kernel
def r0:signs.cps.toList=BF.cps.toList++Ey.cps.toList:=by decide +kernel
def Gr:D->Bool
 |.int _=>yB
 |_=>yC
def H9(c:Nat):Bool:=decide (c∈BF.cps.toList)||decide (c∈Ey.cps.toList)
def Ia:U Nat->Bool
 |[]=>yC
 |c::r=>decide (c∈BF.cps.toList)&&(c::r).all H9&&decide ((c::r).length<=12)
def B2:D->Bool
 |.str z=>Ia z.cps.toList
 |_=>yC
def r9(c:Nat):H9 c=decide (c∈signs.cps.toList):=by
 unfold H9;rw[r0,NX];simp[Dk]
def Sm:D->Prop
 |.str z=>z.length<=100
 |.ty _=>False
 |.lst _ .d=>False
 |.lst _ (.i _ _)=>False
 |_=>True
def WQ(d:D)(h:Sm d):Jb [.val d]=Z (.val (.bl (Gr d))):=by
 cases d with
 |lst a b=>cases b with
  |d=>exact h.elim
  |i _ _=>exact h.elim
  |l=>simp[Jb,AR,Nx,Gr]
 |ty n=>exact h.elim
 |_=>simp[Jb,AR,Nx,Gr]
def sd(c:Nat):PL [.val (.str ⟨#[c]⟩)]=Z (.bl (H9 c)):=by
 erw[PL,Zd,Af,AG,Ay,UT,AF,BR,Dq,AU];cases h:decide (c∈BF.cps.toList)<;>simp[H9,BF,Ey]at h ⊢<;>simp[h]
def se(L:U Nat):C4 (Zn 0) (λ_=>Z yB) PL [.no] (L.map λc=>D.str ⟨#[c]⟩)=Z ((L.map H9).map D.bl):=by
 rw[D1 (λc=>D.str ⟨#[c]⟩) (λc=>D.bl<|H9 c) L λc _=>⟨[.val<|.str ⟨#[c]⟩],rfl,sd c⟩];simp
theorem sf(d:D)(h:Sm d):Jc [.val d]=Z (.val (.bl (B2 d))):=by
 cases d with
 |str z=>
  obtain⟨⟨L⟩⟩:=z;have j:=h;have a:L.length<=AB:=BX j (by ext);have m:=se L;cases L with|nil=>simp[Jc,AR,J2,B2,Ia,Str.length]|cons c r=>
   erw[Bp]at j a;have g:¬ ((r.length:Int)+1<1):=by lia
   by_cases o:r.length+1<=12
   ·have e:¬ ((12:Int)<(r.length:Int)+1):=by lia
    have f:r.length<=11:=by lia
    by_cases k:c∈(GB "abcdefghijklmnopqrstuvwxyz").cps
    ·simp[Jc,AR,J2,B2,Ia,Str.length,a,g,e,-Ej,UT,atI,D6,m,-AI,-Ct,k,f,BF]
    ·simp[Jc,AR,J2,B2,Ia,Str.length,a,g,e,-Ej,UT,atI,D6,k,f,BF]
   ·have e:(12:Int)<(r.length:Int)+1:=by lia
    have f:¬ r.length<=11:=by lia
    simp[Jc,AR,J2,B2,Ia,Str.length,a,g,e,f]
 |ty n=>exact h.elim
 |lst p b=>cases b with
  |d=>exact h.elim
  |i _ _=>exact h.elim
  |l=>simp[Jc,AR,J2,B2]
 |_=>simp[Jc,AR,J2,B2]
def e6(d:D)(h:Sm d):NE [.val d]=Z (.val (.bl (Gr d||B2 d))):=by
 have a:=WQ d h;have b:=sf d h;cases c:Gr d<;>simp[c]at a ⊢<;>simp[NE,AR,Vo,a,b]
def Ez(d:D):Bool:=Gr d||B2 d
def Mf:D->Prop
 |.tup a=>a.length<=1000/\∀x∈a,Sm x
 |d=>Sm d
def DR:D->Bool
 |.tup a=>decide (1<=a.length)&&decide (a.length<=4)&&a.all Ez
 |_=>yC
def sh(a:∀d,Sm d->e [.val d]=Z (.bl (Ez d)))(xs:U D)(h:∀x∈xs,Sm x):C4 (Zn 0) (λ_=>Z yB) e [.no] xs=Z ((xs.map Ez).map D.bl):=by
 have:=D1 (b:=Zn 0) (e:=e) (ρ:=[.no]) (λd:D=>d) (λd=>D.bl<|Ez d) xs λd hd=>⟨[.val d],rfl,a d<|h d hd⟩;rw[List.map_id']at this;rw[this,Ct];rfl
def si(xs:U D):(xs.map Ez).all id=xs.all Ez:=by rw[FF];rfl
theorem sj(d:D)(h:Mf d):J4 [.val d]=Z (.val (.bl (DR d))):=by
 cases d with
 |tup a=>
  have o:=sh (e:=Vz) (λd hd=>by have:=e6 d hd;erw[Vz,Zp,Zb,Ap,AG,Ay,this,AU,CH];rfl) a h.2;have p:a.length<=AB:=BX h.1 (by ext);have k:=si a;have f:(a.map Ez).all (λx=>x)=a.all Ez:=k;by_cases g:1<=a.length
  ·by_cases m:a.length<=4
   ·have c:¬ ((a.length:Int)<1):=by lia
    have j:¬ ((4:Int)<(a.length:Int)):=by lia
    simp[J4,AR,K9,DR,c,j,g,m,p,ZK,o,-Ct,k,f]
   ·have c:¬ ((a.length:Int)<1):=by lia
    have j:(4:Int)<(a.length:Int):=by lia
    simp[J4,AR,K9,DR,c,j,g,m]
  ·have c:(a.length:Int)<1:=by lia
   simp[J4,AR,K9,DR,c,g]
 |ty n=>exact h.elim
 |lst a b=>cases b with
  |d=>exact h.elim
  |i _ _=>exact h.elim
  |l=>simp[J4,AR,K9,DR]
 |_=>simp[J4,AR,K9,DR]
def Ak(l:U At):D:=.tup (l.map aD)
abbrev EK:=Nat×At
noncomputable def C7{T:Type}:U (EK×T)->EK->O T
 |[],_=>yA
 |e::r,k=>if e.1=k then Z e.2 else C7 r k
def EA{T:Type}[DecidableEq T]:U (EK×T)->U (EK×T)->O (U (EK×T))
 |S,[]=>Z S
 |S,e::E=>match C7 S e.1 with
  |some t=>if t=e.2 then EA S E else yA
  |none=>EA (S++[e]) E
def kE(k:EK):KT:=.tup [.int (k.1:Int),k.2]
def SK{T:Type}(f:T->D)(S:U (EK×T)):BE:=S.map λe=>(kE e.1,f e.2)
theorem sk{a b:EK}(h:kE a=kE b):a=b:=by
 obtain⟨i,x⟩:=a;obtain⟨j,y⟩:=b;erw[kE,KT.tup.injEq,Pa,At.int.injEq,and_true]at h;have:i=j:=by lia
 rw[this,h.2]
theorem WR{T:Type}(f:T->D)(k:EK):∀S:U (EK×T),ZM (SK f S) (kE k)=(C7 S k).map f
 |[]=>rfl
 |e::r=>by
  have a:=WR f k r;erw[SK,AI]at a ⊢;unfold ZM C7;by_cases h:e.1=k
  ·rw[if_pos h,if_pos (by rw[h])];rfl
  ·rw[if_neg h,if_neg<|λz=>h<|sk z];exact a
def sn{T:Type}(f:T->D)(S:U (EK×T)):∀p∈SK f S,El p.1=yC:=by
 intro p a;obtain⟨e,_,rfl⟩:=List.mem_map.mp a;rfl
def so{T:Type}(f:T->D)(S:U (EK×T))(e:EK×T)(h:C7 S e.1=yA):Cr (SK f S) (kE e.1) (f e.2)=SK f (S++[e]):=by
 unfold Cr;rw[WR,h];simp[SK]
def sr(a:At):Ds (aD a)=Z (.at a):=KQ<|.at a
def QV:∀(a b:At),AE (aD a) (aD b)=decide (a=b):=by
 intro a b;cases a<;>cases b<;>simp[aD]
theorem WS:∀(a b:U At),CU (a.map aD) (b.map aD)=decide (a=b)
 |[],[]=>by simp
 |[],_::_=>by simp
 |_::_,[]=>by simp
 |x::a,y::b=>by
  have c:=WS a b;rw[NX];simp[QV,c]
def QW(n:Nat)(a:At):AT n (aD a)=yB:=by cases a<;>cases n<;>rfl
def Mg(n:Nat)(l:U At):AT (n+1) (Ak l)=yB:=by
 show(l.map aD).all (AT n)=yB
 rw[FF,CK];exact λa _=>QW n a
def NY(a b:U At):Bz (Ak a) (Ak b)=Z (.bl (!decide (a=b))):=by
 have c:=Mg 11 a;have d:=Mg 11 b;have e:AE (Ak a) (Ak b)=decide (a=b):=by erw[Ak,AE,WS]
 erw[Bz,E4,c,d,e,Ec,if_true]
def ss(a b:At):Bz (aD a) (aD b)=Z (.bl (!decide (a=b))):=by
 erw[Bz,E4,QW,QV,Ec,if_true]
def su{T:Type}[DecidableEq T](f:T->D)(k:∀a b,Bz (f a) (f b)=Z (.bl (!decide (a=b))))(S:U (EK×T))(n:S.length<100000)(e:EK×T)(i:Nat)(l m g:VE->O D)(ρ:VE)(o:GD ρ i=Z (Zo (SK f S)))(p:l ρ=Z (kD (kE e.1)))(q:m ρ=Z (f e.2)) (r:∀xs,g (ρ.set i (.own xs .d))=Z (f e.2)) (h:g ρ=Z (f e.2)):Nb (M9 i l m) g ρ=match C7 S e.1 with
   |some t=>Z (!decide (t=e.2),ρ)
   |none=>Z (yC,ρ.set i<|.own (Zo<|SK f<|S++[e]) .d):=by
 have s:(SK f S).length<AB:=CC (show(SK f S).length<100000 by simpa[SK]using n) (by ext);have u:Dn (kE e.1) (SK f S)=yB:=LQ _<|sn f S;have c:=WR f e.1 S;unfold Nb M9;erw[o,p,q,HS,KQ,u,s,decide_true,Ec,if_true];cases j:C7 S e.1 with
 |some t=>
  rw[j]at c;erw[c,Iy,h,k,AF]
 |none=>
  rw[j]at c;erw[c,Option.map_none,r,k,AF,Iy,decide_true,C8,so f S e j]
def Eo:Nat->U At->U (EK×U At)
 |_,[]=>[]
 |i,a::r=>((i,a),r)::Eo (i+1) r
theorem WT(s0 f:Sl)(l:U At)(F:l.length<=4):∀(AJ pre:U At)(S:U (EK×U At))(o p h:Sl),l=pre++AJ->S.length+AJ.length<100000->(∃j x y z,EA S (Eo pre.length AJ)=Z j/\j.length<=S.length+AJ.length/\Z9 (Cn 2 (ZI (Zn 4) (ZI (Zn 5) Cp))) NK (Fi pre.length (AJ.map aD)) [s0,.own (Zo (SK Ak S)) .d,f,.val (Ak l),o,p,h]=.next [s0,.own (Zo (SK Ak j)) .d,f,.val (Ak l),x,y,z]) \/(EA S (Eo pre.length AJ)=yA/\Z9 (Cn 2 (ZI (Zn 4) (ZI (Zn 5) Cp))) NK (Fi pre.length (AJ.map aD)) [s0,.own (Zo (SK Ak S)) .d,f,.val (Ak l),o,p,h]=.ret (.val (.bl yC)))
 |[],pre,S,o,p,h,_,_=>.inl ⟨S,o,p,h,rfl,by simp,rfl⟩
 |a::r,pre,S,o,p,h,k,L=>by
  erw[Bp]at L;have s:EY (l.map aD) (Z<|(pre.length:Int)+1) yA=r.map aD:=by
   rw[PJ,US _ _ (by lia),k];have:((pre.length:Int)+1).toNat=pre.length+1:=by lia
   rw[this];simp
  have A:=su Ak NY S (by lia) ((pre.length,a),r) 1 (λc=>(Zu<|((λc=>Zb (Zh<|(λc=>Bn c 4) c) ((λc=>Zb (Zh<|(λc=>Bn c 5) c) ((λ_=>Z []) c)) c)) c).bind Zy).map D.tup) (λc=>Bn c 6) (λc=>Af c 6)
   [s0,.own (Zo<|SK Ak S) .d,f,.val<|Ak l,.val<|.int (pre.length:Int),.val<|aD a,.val<|Ak r] rfl (by
    have B:2<=AB:=by ext
    simp[B,kE,kD,aD]) rfl (λM=>rfl) rfl
  have b:NK [s0,.own (Zo<|SK Ak S) .d,f,.val<|Ak l,.val<|.int (pre.length:Int),.val<|aD a,h] =
    JX (match C7 S ((pre.length,a):EK)with
     |some t=>Z (!decide (t=r),[s0,.own (Zo<|SK Ak S) .d,f,.val<|Ak l,.val<|.int (pre.length:Int),.val<|aD a,.val<|Ak r])
     |none=>Z (yC,[s0,.own (Zo<|SK Ak<|S++[((pre.length,a),r)]) .d,f,.val<|Ak l,.val<|.int (pre.length:Int),.val<|aD a,.val<|Ak r])) (λ_=>.ret<|.val<|.bl yC) (λc=>.next c):=by
   have u:Z8 6 (Hj (λc=>Af c 3) (λc=>F1<|Zd BS (λc=>Af c 4) (λ_=>Z<|.int 1) c) (λ_=>Z yA) HQ [s0,.own (Zo<|SK Ak S) .d,f,.val<|Ak l,.val<|.int (pre.length:Int),.val<|aD a,h]) [s0,.own (Zo<|SK Ak S) .d,f,.val<|Ak l,.val<|.int (pre.length:Int),.val<|aD a,h] =
     .next [s0,.own (Zo<|SK Ak S) .d,f,.val<|Ak l,.val<|.int (pre.length:Int),.val<|aD a,.val<|Ak r]:=by
    simp[Ak,s]
   unfold NK;rw[u];erw[Zg];rw[A];cases g:C7 S ((pre.length,a):EK)with
   |none=>simp[JX]
   |some t=>cases hd:decide (t=r)<;>simp[JX,hd]
  have C:Fi pre.length ((a::r).map aD)=.tup [.int (pre.length:Int),aD a]::Fi (pre.length+1) (r.map aD):=rfl;have i:(pre++[a]).length=pre.length+1:=by simp
  have m:Cn 2 (ZI (Zn 4)<|ZI (Zn 5) Cp) (.tup [.int (pre.length:Int),aD a]) [s0,.own (Zo<|SK Ak S) .d,f,.val<|Ak l,o,p,h]=Z [s0,.own (Zo<|SK Ak S) .d,f,.val<|Ak l,.val<|.int (pre.length:Int),.val<|aD a,h]:=rfl;rw[C];cases g:C7 S ((pre.length,a):EK)with
  |some t=>
   rw[g]at b;by_cases w:t=r
   ·have v:=WT s0 f l F r (pre++[a]) S (.val<|.int (pre.length:Int)) (.val<|aD a) (.val<|Ak r) (by rw[k];simp) (by lia);rw[i]at v;have e:EA S (Eo pre.length<|a::r)=EA S (Eo (pre.length+1) r):=by simp[Eo,EA,g,w]
    erw[w,decide_true,C8,JX]at b;rw[e];erw[Z9,m,b];rcases v with⟨j,E,G,H,n,q,I⟩|⟨n,q⟩
    ·exact .inl ⟨j,E,G,H,n,by erw[Bp];lia,I⟩
    ·exact .inr ⟨n,q⟩
   ·have e:EA S (Eo pre.length<|a::r)=yA:=by simp[Eo,EA,g,w]
    erw[w,decide_false,Mh,JX]at b;exact .inr ⟨e,by erw[Z9,m,b]⟩
  |none=>
   rw[g]at b;have v:=WT s0 f l F r (pre++[a]) (S++[((pre.length,a),r)]) (.val<|.int (pre.length:Int)) (.val<|aD a) (.val<|Ak r) (by rw[k];simp) (by simp;lia);rw[i]at v;have e:EA S (Eo pre.length<|a::r)=EA (S++[((pre.length,a),r)]) (Eo (pre.length+1) r):=by simp[Eo,EA,g]
   erw[JX]at b;rw[e];erw[Z9,m,b];rcases v with⟨j,E,G,H,n,q,I⟩|⟨n,q⟩
   ·exact .inl ⟨j,E,G,H,n,by simp at q;erw[Bp];lia,I⟩
   ·exact .inr ⟨n,q⟩
def FK(F:U At):BE:=F.map λa=>(.at a,.bl yB)
theorem WU(a:At):∀F:U At,ZM (FK F) (.at a)=if a∈F then Z (.bl yB)else yA
 |[]=>by simp[FK,ZM]
 |b::F=>by
  have c:=WU a F;erw[FK,AI]at c ⊢;unfold ZM;by_cases h:b=a
  ·subst h;simp
  ·have d:¬ (KT.at b=KT.at a):=λz=>h<|KT.at.inj z;have e:¬ a=b:=λz=>h z.symm;rw[if_neg d,c];simp[e]
def sv(F:U At):∀p∈FK F,El p.1=yB:=by
 intro p a;obtain⟨e,_,rfl⟩:=List.mem_map.mp a;rfl
def sw(F:U At)(a:At)(h:a∉F):Cr (FK F) (.at a) (.bl yB)=FK (F++[a]):=by
 unfold Cr;rw[WU,if_neg h];simp[FK]
def FM(n:Nat):U At->U (EK×U At)->U (U At)->Bool
 |_,_,[]=>yB
 |F,S,l::b=>match l with
  |[]=>yC
  |a::_=>if l.length=n/\a∉F then(match EA S (Eo 0 l)with
   |some c=>FM n (F++[a]) c b
   |none=>yC)else yC
theorem e8(i:D)(g:U At)(u:Aq i (.int 0)=Z (Ak g)):∀(f:U (U At))(F:U At)(S:U (EK×U At))(v j k n:Sl),(∀l∈f,1<=l.length/\l.length<=4)->S.length+4*f.length<100000->F.length+f.length<100000->(∃ρ,FM g.length F S f=yB/\Z9 (Zn 3) Ht (f.map Ak) [.val i,.own (Zo (SK Ak S)) .d,.own (Zo (FK F)) .d,v,j,k,n]=.next ρ) \/(FM g.length F S f=yC/\Z9 (Zn 3) Ht (f.map Ak) [.val i,.own (Zo (SK Ak S)) .d,.own (Zo (FK F)) .d,v,j,k,n]=.ret (.val (.bl yC)))
 |[],F,S,v,j,k,n,_,_,_=>.inl ⟨_,rfl,rfl⟩
 |[]::f,F,S,v,j,k,n,h,_,_=>by have:=(h [] A8).1;simp at this
 |(a::r)::f,F,S,v,j,k,n,h,B,C=>by
  erw[Bp]at B C;have E:=h (a::r) A8;have L:F.length<AB:=CC (show F.length<100000 by lia) (by ext);have G:=Pf a<|sv F;have w:=WU a F;have Q:atI ((a::r).map aD) 0=Z (aD a):=by simp[atI,D6]
  have x:(FK F).length=F.length:=by simp[FK]
  have b:ZQ [Ak g]=Z (.int (g.length:Int)):=by simp[Ak]
  have c:ZQ [Ak<|a::r]=Z (.int ((a::r).length:Int)):=by simp[Ak]
  have p:Aq (Ak<|a::r) (.int 0)=Z (aD a):=by erw[Ak,Aq];exact Q
  have hok:=sr a;have y:F3 (Ak<|a::r)=Z ((a::r).map aD):=rfl;erw[AI,Z9,Zn,Bk,Bb];by_cases e:(a::r).length=g.length
  ·by_cases t:a∈F
   ·rw[if_pos t]at w;refine .inr ⟨by simp[FM,t],?_⟩;have q:Ht [.val i,.own (Zo<|SK Ak S) .d,.own (Zo<|FK F) .d,.val<|Ak<|a::r,j,k,n]=.ret (.val<|.bl yC):=by
     simp[Ht,-Aq,-ZQ,u,p,b,c,e,hok,G,w]
    rw[q]
   ·rw[if_neg t]at w;have o:=sw F a t;have z:=WT (.val i) (.own (Zo<|FK<|F++[a]) .d) (a::r) E.2 (a::r) [] S j k n (by simp) (by erw[Bp]at E ⊢;lia);erw[B9]at z;rcases z with⟨H,M,N,P,I,K,T⟩|⟨I,K⟩
    ·have R:=e8 i g u f (F++[a]) H (.val<|Ak<|a::r) M N P (λm Y=>h m<|A9 _ Y) (by erw[Bp]at E K;lia) (by simp;lia);have s:FM g.length F S ((a::r)::f)=FM g.length (F++[a]) H f:=by erw[FM,e,t,I,not_false_eq_true,and_self,if_true]
     have q:Ht [.val i,.own (Zo<|SK Ak S) .d,.own (Zo<|FK F) .d,.val<|Ak<|a::r,j,k,n]=.next [.val i,.own (Zo<|SK Ak H) .d,.own (Zo<|FK<|F++[a]) .d,.val<|Ak<|a::r,M,N,P]:=by
      simp[Ht,-Aq,-ZQ,u,p,b,c,e,hok,G,w,IV,x,L,o,-F3,y,T,-AI]
     rw[q,s];exact R
    ·have s:FM g.length F S ((a::r)::f)=yC:=by erw[FM,e,t,I,not_false_eq_true,and_self,if_true]
     refine .inr ⟨s,?_⟩;have q:Ht [.val i,.own (Zo<|SK Ak S) .d,.own (Zo<|FK F) .d,.val<|Ak<|a::r,j,k,n]=.ret (.val<|.bl yC):=by
      simp[Ht,-Aq,-ZQ,u,p,b,c,e,hok,G,w,IV,x,L,o,-F3,y,K,-AI]
     rw[q]
  ·have A:¬ ((r.length:Int)+1=(g.length:Int)):=by erw[Bp]at e;lia
   refine .inr ⟨by erw[FM,e,false_and,if_false],?_⟩;have q:Ht [.val i,.own (Zo<|SK Ak S) .d,.own (Zo<|FK F) .d,.val<|Ak<|a::r,j,k,n]=.ret (.val<|.bl yC):=by
    simp[Ht,-Aq,-ZQ,u,b,c,A]
   rw[q]
def sx(h:Ez d=yB):∃a,d=aD a:=by
 cases d with
 |int i=>exact⟨.int i,rfl⟩
 |str x=>exact⟨.str x,rfl⟩
 |_=>simp[Ez,Gr,B2]at h
theorem e9:∀{xs:U D},xs.all Ez=yB->∃l:U At,xs=l.map aD
 |[],_=>⟨[],rfl⟩
 |x::xs,h=>by
  erw[KG,Dp]at h;obtain⟨a,rfl⟩:=sx h.1;obtain⟨l,rfl⟩:=e9 h.2;exact⟨a::l,rfl⟩
def Jg(h:DR d=yB):∃l:U At,d=Ak l/\1<=l.length/\l.length<=4:=by
 cases d with
 |tup a=>
  erw[DR,Dp,decide_eq_true_eq]at h;obtain⟨l,rfl⟩:=e9 h.2;exact⟨l,rfl,by simpa using h.1.1,by simpa using h.1.2⟩
 |_=>simp[DR]at h
theorem ff:∀{xs:U D},xs.all DR=yB->∃a:U (U At),xs=a.map Ak/\∀l∈a,1<=l.length/\l.length<=4
 |[],_=>⟨[],rfl,λ_ h=>nomatch h⟩
 |x::xs,h=>by
  erw[KG,Dp]at h;obtain⟨l,rfl,c⟩:=Jg h.1;obtain⟨a,rfl,d⟩:=ff h.2;refine⟨l::a,rfl,λm b=>?_⟩;rcases Bh.mp b with rfl|b
  ·exact c
  ·exact d m b
def Mi(a:U (U At)):Bool:=match a with
 |[]=>yB
 |l::_=>FM l.length [] [] a
def sy(a:∀d,Mf d->e [.val d]=Z (.bl (DR d)))(xs:U D)(h:∀x∈xs,Mf x):C4 (Zn 0) (λ_=>Z yB) e [.no] xs=Z ((xs.map DR).map D.bl):=by
 have:=D1 (b:=Zn 0) (e:=e) (ρ:=[.no]) (λd:D=>d) (λd=>D.bl<|DR d) xs λd hd=>⟨[.val d],rfl,a d<|h d hd⟩;rw[List.map_id']at this;rw[this,Ct];rfl
theorem sA(xs:U D)(h:∀x∈xs,Mf x)(hz:xs.length<=1000):(xs.all DR=yC/\Jf [.val (.lst xs)]=Z (.val (.bl yC)))\/(xs.all DR=yB/\∃a:U (U At),xs=a.map Ak/\(∀l∈a,1<=l.length/\l.length<=4)/\Jf [.val (.lst xs)]=Z (.val (.bl (Mi a)))):=by
 have k:=sy (e:=VY) (λd hd=>by have:=sj d hd;erw[VY,Zp,Zb,Ap,AG,Ay,this,AU,CH]) xs h;have f:xs.length<=AB:=BX hz (by ext);have i:(xs.map DR).all id=xs.all DR:=by rw[FF];rfl
 have b:(xs.map DR).all (λx=>x)=xs.all DR:=i;cases g:xs.all DR with
 |false=>
  refine .inl ⟨rfl,?_⟩;rw[g]at i b;simp[Jf,AR,Me,NM,NL,f,ZK,k,-Ct,i,b]
 |true=>
  rw[g]at i b;obtain⟨a,rfl,j⟩:=ff g;refine .inr ⟨rfl,a,rfl,j,?_⟩;cases a with|nil=>simp[Jf,AR,Me,NM,NL,QA,Qv,Qz,Qw,Qy,Qx,V0,VZ,C4,Hk,Z9,Mi]|cons c a=>
   have q:(c::a).length<=1000:=by rw[Bd]at hz;exact hz
   have r:Aq (.lst<|(c::a).map Ak) (.int 0)=Z (Ak c):=by simp[atI,D6]
   have p:=e8 (.lst<|(c::a).map Ak) c r (c::a) [] [] .no .no .no .no j (by erw[B9];lia) (by erw[B9];lia);rw[show Zo (SK Ak [])=[]from rfl,show Zo (FK [])=[]from rfl]at p;have m:Mi (c::a)=FM c.length [] [] (c::a):=rfl;rw[m];generalize (c::a).map Ak=G at *;rcases p with⟨s,n,o⟩|⟨n,o⟩
   ·rw[n];simp[Jf,AR,Me,NM,NL,QA,Qv,Qz,Qw,Qy,Qx,V0,VZ,f,ZK,k,-Ct,i,b,o]
   ·rw[n];simp[Jf,AR,Me,NM,NL,QA,Qv,Qz,Qw,Qy,Qx,f,ZK,k,-Ct,i,b,o]
def BW{T:Type}(E:U (EK×T)):Prop:=∀k t a,(k,t)∈E->(k,a)∈E->t=a
theorem fg{T:Type}{k:EK}{t:T}:∀{S:U (EK×T)},C7 S k=Z t->(k,t)∈S
 |[],h=>by cases h
 |e::r,h=>by
  unfold C7 at h;by_cases a:e.1=k
  ·rw[if_pos a]at h;cases h;subst a;exact A8
  ·rw[if_neg a]at h;exact A9 _<|fg h
theorem fh{T:Type}{k:EK}:∀{S:U (EK×T)},C7 S k=yA->∀t,(k,t)∉S
 |[],_,t,h=>nomatch h
 |e::r,a,t,h=>by
  unfold C7 at a;by_cases b:e.1=k
  ·simp[if_pos b]at a
  ·rw[if_neg b]at a;rcases Bh.mp h with h|h
   ·exact b (by rw[<- h])
   ·exact fh a t h
theorem WV{T:Type}[DecidableEq T]:∀(E S:U (EK×T)),BW S->(∃m,EA S E=Z m/\(∀e,e∈m↔e∈S++E)/\BW (S++E))\/(EA S E=yA/\¬ BW (S++E))
 |[],S,h=>.inl ⟨S,rfl,by simp,by simpa using h⟩
 |e::E,S,h=>by
  unfold EA;cases q:C7 S e.1 with
  |some t=>
   have o:=fg q;by_cases n:t=e.2
   ·have p:e∈S:=by rw[n]at o;exact o
    have d:∀x,x∈S++e::E↔x∈S++E:=λx=>by
     erw[Dk,Bh];constructor
     ·rintro(h|rfl|h)
      ·exact .inl h
      ·exact .inl p
      ·exact .inr h
     ·rintro(h|h)
      ·exact .inl h
      ·exact .inr<|.inr h
    have j:BW (S++e::E)↔BW (S++E):=⟨λf k t l g i=>f k t l ((d _).mpr g)<|(d _).mpr i,λf k t l g i=>f k t l ((d _).mp g)<|(d _).mp i⟩;erw[n,if_true];rcases WV E S h with⟨m,a,b,c⟩|⟨a,b⟩
    ·exact .inl ⟨m,a,λx=>(b x).trans (d x).symm,j.mpr c⟩
    ·exact .inr ⟨a,λf=>b<|j.mp f⟩
   ·erw[n,if_false];refine .inr ⟨trivial,λf=>n<|f e.1 t e.2 (Gy _ o)<|Df _ A8⟩
  |none=>
   have r:=fh q;have s:BW (S++[e]):=λk t l g i=>by
    erw[Dk,Ew]at g i;rcases g with g|g<;>rcases i with i|i
    ·exact h k t l g i
    ·have:k=e.1:=by rw[<- i]
     subst this;exact absurd g<|r t
    ·have:k=e.1:=by rw[<- g]
     subst this;exact absurd i<|r l
    ·have:=g.trans i.symm;injection this
   have u:S++e::E=S++[e]++E:=by simp
   rw[u];exact WV E (S++[e]) s
def hd(l:U At):At:=l.headD .non
def Lb{T:Type}[DecidableEq T](C9:U At->U (EK×T))(n:Nat):U At->U (EK×T)->U (U At)->Bool
 |_,_,[]=>yB
 |F,S,l::b=>match l with
  |[]=>yC
  |a::_=>if l.length=n/\a∉F then(match EA S (C9 l)with
   |some c=>Lb C9 n (F++[a]) c b
   |none=>yC)else yC
theorem fj(n:Nat):∀(b:U (U At))(F:U At)(S:U (EK×U At)),FM n F S b=Lb (Eo 0) n F S b
 |[],_,_=>rfl
 |[]::b,_,_=>rfl
 |(a::r)::b,F,S=>by
  erw[FM,Lb];cases EA S (Eo 0<|a::r)with
  |none=>rfl
  |some c=>erw[fj n b]
def BW.congr{T:Type}{E d:U (EK×T)}(h:∀e,e∈E↔e∈d):BW E↔BW d:=⟨λf k t a b c=>f k t a ((h _).mpr b)<|(h _).mpr c,λf k t a b c=>f k t a ((h _).mp b)<|(h _).mp c⟩
def BW.left{T:Type}{E a:U (EK×T)}(h:BW (E++a)):BW E:=λk t b c d=>h k t b (Gy _ c)<|Gy _ d
theorem fm{T:Type}[DecidableEq T](C9:U At->U (EK×T))(n:Nat):∀(b:U (U At))(F:U At)(S:U (EK×T)),F.Nodup->BW S->(∀l∈b,l≠[])->(Lb C9 n F S b=yB↔(∀l∈b,l.length=n)/\(F++b.map hd).Nodup/\BW (S++b.flatMap C9))
 |[],F,S,o,p,_=>by simp[Lb,o,p]
 |[]::b,F,S,o,p,h=>by exact absurd rfl<|h [] A8
 |(a::r)::b,F,S,o,p,h=>by
  have B:∀l∈b,l≠[]:=λl c=>h l<|A9 _ c;have f:S++((a::r)::b).flatMap C9=S++C9 (a::r)++b.flatMap C9:=by simp
  rw[f];have s:F++((a::r)::b).map hd=F++[a]++b.map hd:=by simp[hd]
  rw[s];have t:Lb C9 n F S ((a::r)::b)=if(a::r).length=n/\a∉F then(match EA S (C9<|a::r)with
   |some g=>Lb C9 n (F++[a]) g b
   |none=>yC)else yC:=rfl
  rw[t];by_cases i:(a::r).length=n/\a∉F
  ·have u:(F++[a]).Nodup:=by
    rw[GH];exact⟨o,by simp,λx C y A=>by simp at A;subst A;rintro rfl;exact i.2 C⟩
   rw[if_pos i];rcases WV (C9<|a::r) S p with⟨g,v,q,E⟩|⟨v,q⟩
   ·have w:=(BW.congr q).mpr E;erw[v];rw[fm C9 n b (F++[a]) g u w B];have j:BW (g++b.flatMap C9)↔BW (S++C9 (a::r)++b.flatMap C9):=BW.congr λe=>by
     rw[Dk,Dk,q e]
    rw[j];constructor
    ·rintro⟨k,d,m⟩;exact⟨λl c=>by rcases Bh.mp c with rfl|c;exact i.1;exact k l c,d,m⟩
    ·rintro⟨k,d,m⟩;exact⟨λl c=>k l<|A9 _ c,d,m⟩
   ·erw[v];constructor
    ·intro z;cases z
    ·rintro⟨_,_,m⟩;exact absurd m.left q
  ·rw[if_neg i];constructor
   ·intro z;cases z
   ·rintro⟨k,d,_⟩;refine absurd ⟨k _ A8,λG=>?_⟩ i;rw[GH]at d;have:=d.1;rw[GH]at this;exact this.2.2 a G a (by simp) rfl
theorem WW:∀(l:U At)(j:Nat)(e:EK×U At),e∈Eo j l↔∃m,e.1.1=j+m/\l[m]?=Z e.1.2/\e.2=l.drop (m+1)
 |[],j,e=>by simp[Eo]
 |a::r,j,e=>by
  rw[Eo,Bh,WW r (j+1) e];constructor
  ·rintro(rfl|⟨m,d,b,c⟩)
   ·exact⟨0,by simp,by simp,by simp⟩
   ·exact⟨m+1,by lia,by simpa using b,by simpa using c⟩
  ·rintro⟨m,d,b,c⟩;cases m with
   |zero=>
    left;obtain⟨⟨i,x⟩,t⟩:=e;simp at d b c;rw[d,b,c]
   |succ m=>right;exact⟨m,by lia,by simpa using b,by simpa using c⟩
def sB{T:Type}:BW ([]:U (EK×T)):=λ_ _ _ h=>by cases h
def Tl(x:Ae):x.length=x.cps.toList.length:=by simp[Str.length]
def sC{b:Type}{f:Nat->b}(h:((BU m).map f).Nodup){k:Nat}(c:j<m)(d:k<m)(e:f j=f k):j=k:=by
 rw[List.nodup_iff_pairwise_ne,List.pairwise_map]at h;rcases Nat.lt_trichotomy j k with a|a|a
 ·exact absurd e (List.pairwise_iff_getElem.mp h j k (by simpa) (by simpa) a |> λz=>by simpa using z)
 ·exact a
 ·exact absurd e.symm (List.pairwise_iff_getElem.mp h k j (by simpa) (by simpa) a |> λz=>by simpa using z)
def GW(W:U Nat):Prop:=(∃c r,W=c::r/\c∈BF.cps.toList)/\W.all H9=yB
def GW.word(h:GW W)(a:W.length<=12):Ia W=yB:=by
 obtain⟨⟨c,r,rfl,b⟩,d⟩:=h;erw[Ia,b,decide_true,Bool.true_and,d,a]
def sD(h:GW z.cps.toList)(a:z.cps.toList.length<=12):Ez (aD (.str z))=yB/\Sm (aD (.str z)):=by
 refine⟨?_,?_⟩
 ·show(Gr (.str z)||B2 (.str z))=yB
  erw[Gr,B2,h.word a,Bool.or_true]
 ·show z.length<=100
  rw[Tl];lia
theorem NZ(x k:Int)(q1:0<k)(q2:k<1000000000):IE (.int x) (.int k)=Z (.int (x/k)):=by
 show(if Mv x k then Z (D.int<|x/k)else yA)=_
 rw[if_pos ⟨q1,by lia⟩]
def Dt(x k:Int)(q1:0<k):Cq (.int x) (.int k)=Z (.int (x%k)):=by
 show(if(0:Int)<k then Z (D.int<|x%k)else yA)=_
 rw[if_pos q1]
def Ib{x y:Int}(h:D5 x y):FE (.int x) (.int y)=Z (.int (x*y)):=by show(if D5 x y then Z (D.int<|x*y)else yA)=_;rw[if_pos h]
def Hu(x y:Int):BS (.int x) (.int y)=Z (.int (x+y)):=rfl
def fq(x y:Int):Ei (.int x) (.int y)=Z (.int (x-y)):=rfl
def QX(a b:Int):Dw (.int a) (.int b)=Z (.bl (decide (a=b))):=by simp
noncomputable def Gs(x:Int)(k:Nat):Int:=(x*45742+x/46949+29*(k:Int)+11)%2147483647
theorem sE(x:Int)(k:Nat):0<=Gs x k/8:=by unfold Gs;lia
def GR(x:Int)(k:Nat):Nat->U Int
 |0=>[]
 |n+1=>(Gs x k/8)::GR (Gs x k) (k+1) n
theorem WX:∀(n k:Nat)(x:Int),(GR x k n).length=n
 |0,_,_=>rfl
 |n+1,k,x=>by simp[GR,WX n]
theorem WY:∀(n k:Nat)(x:Int),∀y∈GR x k n,0<=y
 |0,_,_,y,h=>by cases h
 |n+1,k,x,y,h=>by
  erw[GR,Bh]at h;rcases h with rfl|h
  ·exact sE x k
  ·exact WY n _ _ y h
def sF(s0 a:Sl)(k:Nat)(x:Int)(acc:U Int)(hz:acc.length<AB):PZ [s0,a,.val (.int x),.own (acc.map D.int),.val (.int (k:Int))]=.next [s0,a,.val (.int (Gs x k)),.own ((acc++[Gs x k/8]).map D.int),.val (.int (k:Int))]:=by
 have b:=Ib (x:=x) (y:=45742) (by right;decide);have c:=NZ x 46949 (by ext) (by ext);have d:=Ib (x:=29) (y:=(k:Int)) (by left;decide);have e:=Dt (x*45742+x/46949+29*(k:Int)+11) 2147483647 (by ext);have f:=NZ ((x*45742+x/46949+29*(k:Int)+11)%2147483647) 8 (by ext) (by ext);unfold Gs;erw[PZ,Zd,Af,AN,AG,Ay,b,c,d,Hu,e,Z8,Zg,Bk,Bb,f,Dv,DC,Bd,if_pos hz,Fj,AI,B3]
theorem WZ(s0 b:Sl):∀(n k:Nat)(x:Int)(acc:U Int)(c:Sl),acc.length+n<100000->∃d a,Z9 (Zn 4) PZ ((FN k n).map λ(k:Nat)=>D.int (k:Int)) [s0,b,.val (.int x),.own (acc.map D.int),c]=.next [s0,b,.val (.int d),.own ((acc++GR x k n).map D.int),a]
 |0,k,x,acc,c,_=>⟨x,c,by simp[Z9,GR]⟩
 |n+1,k,x,acc,c,h=>by
  obtain⟨d,a,e⟩:=WZ s0 b n (k+1) (Gs x k) (acc++[Gs x k/8]) (.val<|.int (k:Int)) (by simp;lia);have f:acc.length<AB:=CC (show acc.length<100000 by lia) (by ext);refine⟨d,a,?_⟩;rw[Lc,AI];erw[Z9,Zn,Bk,Bb];rw[sF s0 b k x acc f];erw[GR];rw[show acc++(Gs x k/8)::GR (Gs x k) (k+1) n=acc++[Gs x k/8]++GR (Gs x k) (k+1) n by simp];exact e
theorem sG(c:Int):∃ws:U Int,GQ [.val (.int c),.val (.int 40)]=Z (.val (.lst (ws.map D.int)))/\ws.length=40/\∀y∈ws,0<=y:=by
 have d:EX [.int 42]=Z ((FN 0 42).map λ(k:Nat)=>D.int (k:Int)):=by
  have:=L7 42 (by lia);rw[J7]at this;exact this
 obtain⟨i,f,e⟩:=WZ (.val<|.int c) (.val<|.int 40) 42 0 (c%2147483549+17) [] .no (by simp);have b:=WX 42 0<|c%2147483549+17;have a:=WY 42 0<|c%2147483549+17;erw[DG,B3]at e;generalize GR (c%2147483549+17) 0 42=W at *;have g:EY (W.map D.int) (Z 2) yA=(W.drop 2).map D.int:=by rw[PJ,US _ _ (by lia)];rfl
 have j:=Dt c 2147483549 (by ext);have l:(W.map D.int).length<=AB:=by rw[Bd,b];decide
 refine⟨W.drop 2,?_,by simp[b],λy h=>a y<|List.mem_of_mem_drop h⟩;simp[GQ,AR,P0,Ve,Vd,Vc,Vb,U7,U8,U9,Va,d,e,g]
theorem J8{xs:U Int}{i:Int}(a:0<=i)(b:i<xs.length):atI (xs.map D.int) i=Z (.int (xs.getD i.toNat 0)):=by
 rw[show i=((i.toNat:Nat):Int) by lia];have h:i.toNat<xs.length:=by lia
 exact C3 (by rw[DL,Gi,Dl h];simp[Gg,h])
theorem ft{i g:Type}{b:D->VE->O VE}{e:VE->O D}{ρ:VE}(G:i->D)(W:g->D)(P:g->Prop):∀(xs:U i),(∀x∈xs,∃c a,P c/\b (G x) ρ=Z a/\e a=Z (W c))->∃f:U g,C4 b (λ_=>Z yB) e ρ (xs.map G)=Z (f.map W)/\f.length=xs.length/\∀c∈f,P c
 |[],_=>⟨[],rfl,rfl,λ_ h=>nomatch h⟩
 |x::xs,h=>by
  obtain⟨c,a,j,k,l⟩:=h x A8;obtain⟨f,m,n,o⟩:=ft G W P xs λy p=>h y<|A9 _ p;refine⟨c::f,?_,by simp[n],λd hd=>?_⟩
  ·erw[AI,C4,k,l,Zb,Ay,m]
  ·rcases Bh.mp hd with rfl|hd
   ·exact j
   ·exact o d hd
abbrev cS(c:Nat):D:=.str ⟨#[c]⟩
def sH:∀a:U Nat,(Txt.join "" (a.map λc=>(⟨#[c]⟩:Ae))).cps.toList=a:=by
 intro a;show(Builtin.Str.glued ""<|a.map λc=>(⟨#[c]⟩:Ae)).cps.toList=a
 rw[StrLaws.glued_eq_join];induction a with|nil=>rfl|cons c a b=>
  cases a with|nil=>rfl|cons d a=>
   show((⟨#[c]⟩:Ae)++("":Ae)++Str.join "" ((d::a).map λc=>(⟨#[c]⟩:Ae))).cps.toList=_
   have e:∀(x y:Ae),(x++y).cps.toList=x.cps.toList++y.cps.toList:=λx y=>by
    show(x.cps++y.cps).toList=_
    simp
   have f:("":Ae).cps.toList=[]:=by decide +kernel
   rw[e,e,b,f];rfl
structure fu(f:Nat->At):Prop where
 inj:∀j k,j<6->k<6->f j=f k->j=k
 val:∀k,k<6->Ez (aD (f k))=yB
 sm:∀k,k<6->Sm (aD (f k))
 lt:∀k i,k<6->f k=.int i->i<10^40
def W0{x y:Int}(h:Lj x y):IF (.int x) (.int y)=Z (.int (x^y.toNat)):=by show(if Lj x y then Z (D.int<|x^y.toNat)else yA)=_;rw[if_pos h]
def sI(c:Int)(k:Nat):Je [.val (.int c),.val (.int 0),.val (.int (k:Int))]=Z (.val (.int (c%10^30-5*10^29+(k:Int)))):=by
 have a:IF (.int 10) (.int 30)=Z (.int<|10^30):=W0 (by ext);have b:IF (.int 10) (.int 29)=Z (.int<|10^29):=W0 (by ext);have d:=Dt c (10^30) (by ext);have e:FE (.int 5) (.int<|10^29)=Z (.int<|5*10^29):=Ib (by left;decide);have f:AF (Dw (.int 0)<|.int 0)=Z yB:=by ext
 erw[Je,AR,Bp,B9,DK,if_true,P2,Vg,Vf,Zd,Af,AN,AG,Ay,EH,DG,f,ZE,Zg,a,b,d,e,fq,Hu,ZD]
def sg(i:Nat):Nat:=signs.cps.toList.getD i 0
def sJ:((BU 36).map sg).Nodup:=by decide +kernel
def fw:∀i∈BU 26,sg i∈BF.cps.toList:=by decide +kernel
def W3:∀i∈BU 36,H9 (sg i)=yB:=by decide +kernel
theorem fy(i:Nat)(h:i<36):Aq (.str "abcdefghijklmnopqrstuvwxyz0123456789") (.int (i:Int))=Z (cS (sg i)):=by
 have a:=e5;have b:signs.length<=AB:=by rw[e5];decide
 have d:signs.cps.toList.length=36:=by rw[<- Tl];exact a
 have e:atI signs.cps.toList (i:Int)=Z (signs.cps.toList[i]'(by lia)):=C3<|Dl (by lia);show(if signs.length<=AB then(atI signs.cps.toList (i:Int)).map λc=>D.str ⟨#[c]⟩else yA)=_
 rw[if_pos b,e];simp[sg,Gg,d,h]
noncomputable def md(j:Nat):Int:=if j=0 then 26 else 36
theorem fA(j:Nat):Aq (.lst [.int 36,.int 26]) (.int (if decide ((j:Int)=0)=yB then 1 else 0))=Z (.int (md j)):=by
 unfold md;by_cases h:j=0
 ·subst h;rfl
 ·have a:¬ ((j:Int)=0):=by lia
  erw[h,a,decide_false,if_false];rfl
def QY(j:Nat):0<md j/\md j<=36:=by unfold md;split<;>decide
def F4(x:Int)(j:Nat):Nat:=(x%md j).toNat
theorem Ld(x:Int)(j:Nat):F4 x j<36:=by
 have:=QY j;unfold F4;have a:=Hv x this.1;have b:=Gu x (show md j≠0 by lia);lia
theorem fB(x:Int):F4 x 0<26:=by
 unfold F4 md;have a:=Hv x (show(0:Int)<26 by ext);have b:=Gu x (show(26:Int)≠0 by ext);erw[if_true];lia
theorem QZ(x:Int)(j:Nat):x%md j=(F4 x j:Int):=by
 have:=QY j;have a:=Gu x (show md j≠0 by lia);unfold F4;lia
theorem sK(x:Int)(j:Nat){a b:Nat}(d:a<6)(f:b<6)(e:F4 (x+5*(a:Int)) j=F4 (x+5*(b:Int)) j):a=b:=by
 have c:(x+5*(a:Int))%md j=(x+5*(b:Int))%md j:=by rw[QZ,QZ,e]
 unfold md at c;split at c<;>lia
theorem sL(c:Int)(j:Nat)(h:j<1000):P1 [.val (.int (j:Int)),.val (.str "abcdefghijklmnopqrstuvwxyz0123456789"),.val (.int c)]=Z (cS (sg (F4 (c/((j:Int)+2)+4*(j:Int)) j))):=by
 have a:=NZ c ((j:Int)+2) (by lia) (by lia);have b:=Ib (x:=4) (y:=(j:Int)) (by left;decide);have d:=Dt (c/((j:Int)+2)+4*(j:Int)) (md j) (QY j).1;have e:=fA j;have f:=fy _<|Ld (c/((j:Int)+2)+4*(j:Int)) j;have g:([D.int 36,.int 26]:U D).length<=AB:=by ext
 erw[P1,Zd,Af,AN,AG,Ay,Hu,a,b,QX,Zh,AU,Zb,Zv,BV,pk,L2.intD,Zy,Zu,if_pos g,ZH,e,d];rw[QZ,f]
def wB(c:Int)(n:Nat):U Nat:=(BU n).map λ(j:Nat)=>sg (F4 (c/((j:Int)+2)+4*(j:Int)) j)
def wK(c:Int)(n a:Nat)(k:Nat):U Nat:=(wB c n).set a (sg (F4 (c/((a:Int)+2)+4*(a:Int)+5*(k:Int)) a))
def wS(L:U Nat):Ae:=Txt.join "" (L.map λc=>(⟨#[c]⟩:Ae))
def Q0(L:U Nat):(wS L).cps.toList=L:=sH L
def Q1(c:Int)(n:Nat):(wB c n).length=n:=by simp[wB]
def sM(c:Int)(n:Nat):∀x∈wB c n,H9 x=yB:=by
 intro x a;obtain⟨j,b,rfl⟩:=List.mem_map.mp a;exact W3 _<|List.mem_range.mpr<|Ld _ _
theorem sN(c:Int)(n:Nat)(h:0<n):∃x r,wB c n=x::r/\x∈BF.cps.toList:=by
 obtain⟨m,rfl⟩:∃m,n=m+1:=⟨n-1,by lia⟩;exact⟨_,_,by rw[wB,List.range_succ_eq_map,AI],fw _<|List.mem_range.mpr<|fB _⟩
def sO(c:Int)(n a k:Nat)(h:0<n):GW (wK c n a k):=by
 obtain⟨x,r,e,f⟩:=sN c n h;have d:=sM c n;unfold wK;rw[e]at d ⊢;cases a with
 |zero=>
  refine⟨⟨_,r,rfl,fw _<|List.mem_range.mpr<|fB _⟩,CK.mpr λy b=>?_⟩;rcases Bh.mp b with rfl|b
  ·exact W3 _<|List.mem_range.mpr<|Ld _ _
  ·exact d y<|A9 _ b
 |succ a=>
  refine⟨⟨x,r.set a _,rfl,f⟩,CK.mpr λy b=>?_⟩;rcases Bh.mp b with rfl|b
  ·exact d _ A8
  ·rcases cU b with b|rfl
   ·exact d y<|A9 _ b
   ·exact W3 _<|List.mem_range.mpr<|Ld _ _
theorem sP(c:Int)(n a:Nat)(g:a<n){k:Nat}(d:j<6)(f:k<6)(e:wK c n a j=wK c n a k):j=k:=by
 unfold wK at e;have b:=congrArg (λl=>l[a]?) e;have h:=Q1 c n;erw[Dz (show a<(wB c n).length by lia),MO]at b;exact sK _ _ d f<|sC sJ (Ld _ _) (Ld _ _) b
theorem fC:∀L:U Nat,(L.map λ_=>1).sum=L.length
 |[]=>rfl
 |_::L=>by rw[AI,List.sum_cons,fC L,Bp];lia
theorem sQ(c w:Int)(g:¬ w=0)(n a k:Nat)(h:1+c%12=(n:Int))(d:n<=12)(i:c/12%(n:Int)=(a:Int))(l:a<n):Je [.val (.int c),.val (.int w),.val (.int (k:Int))]=Z (.val (.str (wS (wK c n a k)))):=by
 have q0:AF (Dw (.int w)<|.int 0)=Z yC:=by rw[QX];simp[g]
 have q1:=Dt c 12 (by ext);have q2:=NZ c 12 (by ext) (by ext);have q3:=Dt (c/12) (n:Int) (by lia);rw[i]at q3;have q4:=L7 n (by lia);have q5:=D1 (b:=Zn 0) (e:=P1) (ρ:=[.no,.val<|.str "abcdefghijklmnopqrstuvwxyz0123456789",.val<|.int c]) (λ(j:Nat)=>D.int (j:Int)) (λ(j:Nat)=>cS<|sg<|F4 (c/((j:Int)+2)+4*(j:Int)) j) (BU n) λj m=>⟨_,rfl,sL c j (by have:=List.mem_range.mp m;lia)⟩;have q6:(BU n).map (λ(j:Nat)=>cS<|sg<|F4 (c/((j:Int)+2)+4*(j:Int)) j)=(wB c n).map cS:=by rw[wB,Ct];rfl
 rw[q6]at q5;have q7:((BU n).map λ(k:Nat)=>D.int (k:Int)).length<=AB:=by rw[Bd,List.length_range];exact BX d (by ext)
 have o:=NZ c ((a:Int)+2) (by lia) (by lia);have p:=Ib (x:=4) (y:=(a:Int)) (by left;decide);have f:=Ib (x:=5) (y:=(k:Int)) (by left;decide);have q:=Dt (c/((a:Int)+2)+4*(a:Int)+5*(k:Int)) (md a) (QY a).1;have r:=fA a;have s:=fy _<|Ld (c/((a:Int)+2)+4*(a:Int)+5*(k:Int)) a;have t:([D.int 36,.int 26]:U D).length<=AB:=by ext
 have u:D6 ((wB c n).map cS).length (a:Int)=Z a:=by
  rw[Bd,Q1];unfold D6;rw[if_pos (by lia),if_pos (by lia)];simp
 have v:((wB c n).map cS).set a (cS<|sg<|F4 (c/((a:Int)+2)+4*(a:Int)+5*(k:Int)) a)=(wK c n a k).map cS:=by rw[wK,List.map_set]
 have z:IQ ((wK c n a k).map cS)=Z ((wK c n a k).map λc=>(⟨#[c]⟩:Ae)):=by
  have:=bj<|(wK c n a k).map λc=>(⟨#[c]⟩:Ae);rwa[Ct]at this
 have A:(((wK c n a k).map λc=>(⟨#[c]⟩:Ae)).map (·.length)).sum+((wK c n a k).map λc=>(⟨#[c]⟩:Ae)).length*("":Ae).length<=16777216:=by
  have B:(wK c n a k).length=n:=by simp[wK,Q1]
  have C:((wK c n a k).map λc=>(⟨#[c]⟩:Ae)).map (·.length)=(wK c n a k).map λ_=>1:=by rw[Ct];rfl
  have E:("":Ae).length=0:=by ext
  rw[C,E,Nat.mul_zero,Nat.add_zero,fC,B];lia
 erw[Je,AR,Bp,B9,DK,if_true,P2,Vg,Vf,Zd,Af,AN,AG,Ay,EH,DG,q0,ZE,Zg,Ep,Gv,D2,
  dN,dA,Z8,Bk,Bb,dM,dB,q1,Hu,h,dL,dC,q2,q3,dJ,dE,ZG,Zh,AU,Bn,Zb,Zy,q4,Zu,if_pos q7,ZK,AI,B3,ID,q5,CW]
 erw[dI,dF,Zd,Af,AN,AG,Ay,Hu,o,p,f,QX,Zh,AU,Zb,Zv,BV,pk,L2.intD,Zy,Zu,if_pos t,ZH,r,q,O8,DC];rw[QZ,s];erw[u,Bk,Bb,v,Zg,dH,dG,KN,Zb,Ap,AN,AG,Ay,BV,pk,O9,z,if_pos A,ZD,wS]
theorem fE(c w:Int):∃f,fu f/\∀k:Nat,k<6->Je [.val (.int c),.val (.int w),.val (.int (k:Int))]=Z (.val (aD (f k))):=by
 by_cases l:w=0
 ·subst l;refine⟨λk=>.int<|c%10^30-5*10^29+(k:Int),⟨λj k _ _ e=>by injection e with e;lia,λk _=>rfl,λk _=>trivial,λk i m e=>?_⟩,λk _=>sI c k⟩;injection e with e
  have:=Hv c (show(0:Int)<10^30 by ext);have p:(10:Int)^30+6<10^40:=by ext
  have q:(0:Int)<5*10^29:=by ext
  generalize (10:Int)^40=I,(10:Int)^30=Y,c%10^30=X,(5:Int)*10^29=B at *;lia
 ·obtain⟨n,r,h,b⟩:∃n:Nat,1+c%12=(n:Int)/\0<n/\n<=12:=⟨(1+c%12).toNat,by lia,by lia,by lia⟩;have p:=Gu (c/12) (show(n:Int)≠0 by lia);have q:=Hv (c/12) (show(0:Int)<(n:Int) by lia);obtain⟨a,s,d⟩:∃a:Nat,c/12%(n:Int)=(a:Int)/\a<n:=⟨(c/12%(n:Int)).toNat,by lia,by lia⟩;have g:∀k,Ez (aD<|.str<|wS<|wK c n a k)=yB/\Sm (aD<|.str<|wS<|wK c n a k):=λk=>sD (by rw[Q0];exact sO c n a k h) (by rw[Q0];simp[wK,Q1];lia);refine⟨λk=>.str<|wS<|wK c n a k,⟨λj k t m e=>?_,λk _=>(g k).1,λk _=>(g k).2,λk i _ e=>nomatch e⟩,λk _=>sQ c w l n a k r b s d⟩;injection e with e
  have o:(wS<|wK c n a j).cps.toList=(wS<|wK c n a k).cps.toList:=by rw[e]
  rw[Q0,Q0]at o;exact sP c n a d t m o
def W4{q:U Int}{P:Int->Prop}(h:∀z∈q,P z)(i:Nat)(a:i<q.length):P (q.getD i 0):=by
 rw[List.getD_eq_getElem?_getD,Dl a];exact h _<|IL a
abbrev XS(ws:U Int):Sl:=.val (.lst (ws.map D.int))
theorem sR(ws:U Int)(p:ws.length=40)(s0 b c d e f g:Sl)(j:Nat)(q:1<=j)(a:j<10)(I:U Int)(h:I.length=j)(hz:∀z∈I,1<=z/\z<=6):∃z,1<=z/\z<=6/\Qc [s0,XS ws,b,c,.own (I.map D.int),.val (.int (j:Int)),d,e,f,g]=.next [s0,XS ws,b,c,.own ((I++[z]).map D.int),.val (.int (j:Int)),d,e,f,g]:=by
 have k:=J8 (xs:=ws) (i:=2+(j:Int)) (by lia) (by lia);have m:=J8 (xs:=I) (i:=(j:Int)-1) (by lia) (by lia);have r:=W4 hz ((j:Int)-1).toNat (by lia);generalize I.getD ((j:Int)-1).toNat 0=y,ws.getD (2+(j:Int)).toNat 0=w at *;have n:=Dt w y (by lia);have s:=Gu w (show y≠0 by lia);have t:=Hv w (show 0<y by lia);have o:I.length<AB:=by rw[h];exact CC a (by ext)
 refine⟨1+w%y,by lia,by lia,?_⟩;erw[Qc,Zd,Af,AN,AG,Ay,Hu,fq,Aq,k,m,n,Dv,DC,Bd,if_pos o,Zg,Bk,Bb,Fj,AI,B3]
theorem fF(ws:U Int)(q:ws.length=40)(s0 d f g h i l:Sl):∀(n j:Nat)(I:U Int)(m:Sl),1<=j->j+n<=9->I.length=j->(∀z∈I,1<=z/\z<=6)->∃(c:U Int) (a:Sl),c.length=j+n/\(∀z∈c,1<=z/\z<=6)/\Z9 (Zn 5) Qc ((FN j n).map λ(k:Nat)=>D.int (k:Int)) [s0,XS ws,d,f,.own (I.map D.int),m,g,h,i,l]=.next [s0,XS ws,d,f,.own (c.map D.int),a,g,h,i,l]
 |0,j,I,m,_,_,p,o=>⟨I,m,by lia,o,rfl⟩
 |n+1,j,I,m,r,u,p,o=>by
  obtain⟨z,s,t,e⟩:=sR ws q s0 d f g h i l j r (by lia) I p o;obtain⟨c,a,q1,q2,q3⟩:=fF ws q s0 d f g h i l n (j+1) (I++[z]) (.val<|.int (j:Int)) (by lia) (by lia) (by simp[p]) (λy b=>by
   rcases Dk.mp b with b|b
   ·exact o y b
   ·erw[Ew]at b;subst b;exact⟨s,t⟩)
  refine⟨c,a,by lia,q2,?_⟩;rw[Lc,AI];erw[Z9,Zn,Bk,Bb];rw[e];exact q3
noncomputable def C9(Bu:Nat->Nat->Nat)(j x:Nat):Nat:=if j=0 then x else Bu j x
def DS(f:Nat->Nat->At)(Bu:Nat->Nat->Nat):Nat->Nat->Nat->U At
 |_,_,0=>[]
 |j,x,n+1=>f j (C9 Bu j x)::DS f Bu (j+1) (C9 Bu j x) n
def C0(ws q:U Int)(j x:Nat):Nat:=(ws.getD (7+7*j+x) 0%q.getD j 0).toNat
theorem sS(ws q:U Int)(j x:Nat)(h:1<=q.getD j 0):ws.getD (7+7*j+x) 0%q.getD j 0=(C0 ws q j x:Int):=by
 have:=Gu (ws.getD (7+7*j+x) 0) (show q.getD j 0≠0 by lia);unfold C0;lia
theorem fG(ws q:U Int)(j x:Nat)(h:1<=q.getD j 0)(a:q.getD j 0<=6):C0 ws q j x<6:=by
 have:=Gu (ws.getD (7+7*j+x) 0) (show q.getD j 0≠0 by lia);have:=Hv (ws.getD (7+7*j+x) 0) (show 0<q.getD j 0 by lia);unfold C0;lia
def cW(c:Int)(ws:U Int):Int:=c+ws.getD 2 0*(ws.getD 6 0%2)
def wW(ws:U Int)(j:Nat):Int:=(ws.getD 7 0+(j:Int)*(ws.getD 8 0%2))%2
def Mj(c:Int)(ws:U Int)(f:Nat->Nat->At):Prop:=∀j,fu (f j)/\∀k:Nat,k<6->Je [.val (.int (cW c ws)),.val (.int (wW ws j)),.val (.int (k:Int))]=Z (.val (aD (f j k)))
def sT(c:Int)(ws:U Int):∃f,Mj c ws f:=⟨λj=>Classical.choose<|fE (cW c ws)<|wW ws j,λj=>Classical.choose_spec<|fE (cW c ws)<|wW ws j⟩
theorem J9(ws:U Int)(a:ws.length=40)(i:Nat)(b:i<40):atI (ws.map D.int) (i:Int)=Z (.int (ws.getD i 0)):=by
 have:=J8 (xs:=ws) (i:=(i:Int)) (by lia) (by lia);rwa[Gi]at this
theorem sU(c:Int)(ws:U Int)(b:ws.length=40)(f:Nat->Nat->At)(u:Mj c ws f)(d e g h:Sl)(R:U Int)(hz:∀z∈R,1<=z/\z<=6)(j x:Nat)(v:j<R.length)(w:j<4)(A:x<6)(acc:U At)(B:acc.length<100):NF [.val (.int c),XS ws,d,e,.own (R.map D.int),.val (.int (j:Int)),g,h,.own (acc.map aD),.val (.int (x:Int))]=.next [.val (.int c),XS ws,d,e,.own (R.map D.int),.val (.int (j:Int)),g,h,.own ((acc++[f j (C9 (C0 ws R) j x)]).map aD),.val (.int (C9 (C0 ws R) j x:Int))]:=by
 have k:=W4 hz j v;have C:=J9 ws b 2 (by lia);have E:=J9 ws b 6 (by lia);have G:=J9 ws b 7 (by lia);have H:=J9 ws b 8 (by lia);have I:acc.length<AB:=CC B (by ext);have F:=Dt (ws.getD 6 0) 2 (by ext);have L:=Dt (ws.getD 8 0) 2 (by ext);have M:D5 (ws.getD 2 0) (ws.getD 6 0%2):=by right;constructor<;>lia
 have N:D5 (j:Int) (ws.getD 8 0%2):=by right;constructor<;>lia
 have K:=Ib M;have Q:=Ib N;have T:=Dt (ws.getD 7 0+(j:Int)*(ws.getD 8 0%2)) 2 (by ext);have cond:AF (Ea (.int (j:Int))<|.int 0)=Z (decide<|0<(j:Int)):=rfl;have fin:∀y:Nat,y<6->(Zg (Dv 8 ((Zp Je<|λa=>Zb (Zh<|(Zd BS (λa=>Af a 0) (Zd FE (Zd Aq (λa=>Af a 1) (λ_=>Z<|.int 2)) (Zd Cq (Zd Aq (λa=>Af a 1) (λ_=>Z<|.int 6)) (λ_=>Z<|.int 2)))) a) (Zb (Zh<|(Zd Cq (Zd BS (Zd Aq (λa=>Af a 1) (λ_=>Z<|.int 7)) (Zd FE (λa=>Af a 5) (Zd Cq (Zd Aq (λa=>Af a 1) (λ_=>Z<|.int 8)) (λ_=>Z<|.int 2)))) (λ_=>Z<|.int 2)) a) (Zb (Ap a 9)<|some []))) [.val<|.int c,XS ws,d,e,.own<|R.map D.int,.val<|.int (j:Int),g,h,.own<|acc.map aD,.val<|.int (y:Int)]) [.val<|.int c,XS ws,d,e,.own<|R.map D.int,.val<|.int (j:Int),g,h,.own<|acc.map aD,.val<|.int (y:Int)]) (λa=>.next a))=.next [.val<|.int c,XS ws,d,e,.own<|R.map D.int,.val<|.int (j:Int),g,h,.own<|(acc++[f j y]).map aD,.val<|.int (y:Int)]:=λy P=>by
  have q:=(u j).2 y P;unfold cW wW at q;have l:atI (ws.map D.int) 2=Z (.int<|ws.getD 2 0):=C;have m:atI (ws.map D.int) 6=Z (.int<|ws.getD 6 0):=E;have n:atI (ws.map D.int) 7=Z (.int<|ws.getD 7 0):=G;have o:atI (ws.map D.int) 8=Z (.int<|ws.getD 8 0):=H;erw[Zp,Zd,Af,Ap,AN,AG,Ay,Aq,l,m,n,o,F,L,K,Q,Hu,T,Zh,AU,Zb,q,CH,Dv,DC,Bd,if_pos I,Zg,Bk,Bb,Fj,AI,B3]
 by_cases r:j=0
 ·subst r;have:=fin x A;unfold NF;erw[Zd,Af,AN,AG,Ay,cond]at this ⊢;have hd:decide (0<((0:Nat):Int))=yC:=by ext
  rw[hd];erw[ZE,Zg]at this ⊢;rw[show C9 (C0 ws R) 0 x=x from rfl];exact this
 ·have hd:decide (0<(j:Int))=yB:=decide_eq_true (by lia);have Y:=J9 ws b (7+7*j+x) (by lia);have p:atI (ws.map D.int) (7+7*(j:Int)+(x:Int))=Z (.int<|ws.getD (7+7*j+x) 0):=by
   rw[<- Y];congr 1
  have s:=J8 (xs:=R) (i:=(j:Int)) (by lia) (by lia);rw[Gi]at s;have t:=Dt (ws.getD (7+7*j+x) 0) (R.getD j 0) (by lia);rw[sS ws R j x k.1]at t;have g4:=Ib (x:=7) (y:=(j:Int)) (by left;decide);have:=fin (C0 ws R j x)<|fG ws R j x k.1 k.2;have he:C9 (C0 ws R) j x=C0 ws R j x:=if_neg r;unfold NF;rw[he];erw[Zd,Af,AN,AG,Ay,cond,hd,ZE,g4,Hu,Aq,p,s,t,Z8,Zg,Bk,Bb]at this ⊢;exact this
def W5(ws q:U Int)(hz:∀z∈q,1<=z/\z<=6)(j x:Nat)(b:j<q.length)(c:x<6):C9 (C0 ws q) j x<6:=by
 unfold C9;split
 ·exact c
 ·have a:=W4 hz j b;exact fG ws q j x a.1 a.2
theorem fH(c:Int)(ws:U Int)(o:ws.length=40)(f:Nat->Nat->At)(p:Mj c ws f)(d g h i:Sl)(I:U Int)(hz:∀z∈I,1<=z/\z<=6):∀(n j x:Nat)(acc:U At)(l:Sl),j+n<=I.length->j+n<=4->x<6->acc.length+n<100->∃(a:Sl) (b:Sl),Z9 (Zn 5) NF ((FN j n).map λ(k:Nat)=>D.int (k:Int)) [.val (.int c),XS ws,d,g,.own (I.map D.int),l,h,i,.own (acc.map aD),.val (.int (x:Int))]=.next [.val (.int c),XS ws,d,g,.own (I.map D.int),a,h,i,.own ((acc++DS f (C0 ws I) j x n).map aD),b]
 |0,j,x,acc,l,_,_,_,_=>⟨l,_,by simp[Z9,DS];rfl⟩
 |n+1,j,x,acc,l,s,t,r,u=>by
  have m:=W5 ws I hz j x (by lia) r;have e:=sU c ws o f p d g h i I hz j x (by lia) (by lia) r acc (by lia);obtain⟨a,b,q⟩:=fH c ws o f p d g h i I hz n (j+1) (C9 (C0 ws I) j x) (acc++[f j<|C9 (C0 ws I) j x]) (.val<|.int (j:Int)) (by lia) (by lia) m (by simp;lia);refine⟨a,b,?_⟩;rw[Lc,AI];erw[Z9,Zn,Bk,Bb];rw[e];simp only;rw[q];erw[DS,JZ,List.singleton_append]
structure GL(ls:List (List At))(p:Nat):Prop where
 n1:1<=ls.length
 n6:ls.length<=6
 p1:1<=p
 p4:p<=4
 len:∀l∈ls,l.length=p
 val:∀l∈ls,∀a∈l,Ez (aD a)=yB/\Sm (aD a)/\∀i,a=.int i->i<10^40
 hdn:(ls.map hd).Nodup
 fn:BW (ls.flatMap (Eo 0))
def sV(l:U At)(a:U (U At))(b:∀x∈l::a,x≠[]):Mi (l::a)=yB↔(∀x∈l::a,x.length=l.length)/\((l::a).map hd).Nodup/\BW ((l::a).flatMap (Eo 0)):=by
 show FM l.length [] [] (l::a)=yB↔_
 rw[fj,fm (Eo 0) _ _ _ _ List.nodup_nil sB b,DG,DG]
def GL.ne{a:U (U At)}(h:GL a p):∀x∈a,x≠[]:=λx b e=>by
 have:=h.len x b;have:=h.p1;rw[e]at *;simp at *;lia
def GL.go{a:U (U At)}(h:GL a p):Mi a=yB:=by
 cases a with|nil=>rfl|cons l a=>
  rw[sV l a h.ne];exact⟨λx b=>by rw[h.len x b,h.len l A8],h.hdn,h.fn⟩
theorem GL.take{b:U (U At)}{p:Nat}(h:GL b p)(n:Nat)(q:1<=n):GL (b.take n) p:=by
 have c:∀x∈b.take n,x∈b:=λx g=>List.mem_of_mem_take g;refine⟨?_,?_,h.p1,h.p4,λl a=>h.len l<|c l a,λl a=>h.val l<|c l a,?_,?_⟩
 ·rw[Oy];have:=h.n1;lia
 ·rw[Oy];have:=h.n6;lia
 ·rw[List.map_take];exact h.hdn.sublist<|List.take_sublist _ _
 ·intro k t i j m;obtain⟨l,a,e⟩:=List.mem_flatMap.mp j;obtain⟨f,d,o⟩:=List.mem_flatMap.mp m;exact h.fn k t i (List.mem_flatMap.mpr ⟨l,c l a,e⟩)<|List.mem_flatMap.mpr ⟨f,c f d,o⟩
theorem Q2(f:Nat->Nat->At)(Bu:Nat->Nat->Nat):∀(n j x:Nat),(DS f Bu j x n).length=n
 |0,_,_=>rfl
 |n+1,j,x=>by simp[DS,Q2 f Bu n]
def Hw(Bu:Nat->Nat->Nat)(j x:Nat):Nat->Nat
 |0=>C9 Bu j x
 |i+1=>Hw Bu (j+1) (C9 Bu j x) i
theorem Q3(f:Nat->Nat->At)(Bu:Nat->Nat->Nat):∀(i n j x:Nat),i<n->(DS f Bu j x n)[i]?=Z (f (j+i) (Hw Bu j x i))/\(DS f Bu j x n).drop (i+1)=DS f Bu (j+i+1) (Hw Bu j x i) (n-i-1)
 |_,0,_,_,h=>by lia
 |0,n+1,j,x,_=>by simp[DS,Hw]
 |i+1,n+1,j,x,h=>by
  obtain⟨a,b⟩:=Q3 f Bu i n (j+1) (C9 Bu j x) (by lia);refine⟨?_,?_⟩
  ·erw[DS,AN,Hw];rw[a,show j+1+i=j+(i+1) by lia]
  ·erw[DS,List.drop_succ_cons,Hw];rw[b,show j+1+i+1=j+(i+1)+1 by lia,show n-i-1=n+1-(i+1)-1 by lia]
theorem fI(ws q:U Int)(hz:∀z∈q,1<=z/\z<=6):∀(i j x:Nat),j+i<q.length->x<6->Hw (C0 ws q) j x i<6
 |0,j,x,b,a=>W5 ws q hz j x (by lia) a
 |i+1,j,x,b,a=>fI ws q hz i (j+1) _ (by lia)<|W5 ws q hz j x (by lia) a
theorem sW(c:Int)(ws:U Int)(f:Nat->Nat->At)(s:Mj c ws f)(R:U Int)(hz:∀z∈R,1<=z/\z<=6)(p m:Nat)(hp:R.length=p)(p1:1<=p)(p4:p<=4)(m1:1<=m)(Q:m<=6)(a:Nat->Nat)(E:∀k,k<m->a k<6)(u:∀j k,j<m->k<m->a j=a k->j=k):GL ((BU m).map λk=>DS f (C0 ws R) 0 (a k) p) p:=by
 have G:∀(k i:Nat),k<m->i<p->(DS f (C0 ws R) 0 (a k) p)[i]?=Z (f i<|Hw (C0 ws R) 0 (a k) i)/\Hw (C0 ws R) 0 (a k) i<6:=λk i h d=>by
  have:=(Q3 f (C0 ws R) i p 0 (a k) d).1;rw[Ka]at this;exact⟨this,fI ws R hz i 0 (a k) (by lia)<|E k h⟩
 refine⟨by simpa using m1,by simpa using Q,p1,p4,λl w=>?_,λl w b T=>?_,?_,?_⟩
 ·obtain⟨k,_,rfl⟩:=List.mem_map.mp w;exact Q2 _ _ _ _ _
 ·obtain⟨k,h,rfl⟩:=List.mem_map.mp w;obtain⟨i,u,e⟩:=List.mem_iff_getElem.mp T;have d:i<p:=by rw[Q2]at u;exact u
  obtain⟨r,A⟩:=G k i (List.mem_range.mp h) d;rw[Dl u,e]at r;injection r with r
  subst r;exact⟨(s i).1.val _ A,(s i).1.sm _ A,λn P=>(s i).1.lt _ n A P⟩
 ·rw[Ct];refine List.pairwise_map.mpr<|List.Pairwise.imp_of_mem (λ{x y} B C H e=>H ?_) (List.nodup_range);have B:=List.mem_range.mp B;have C:=List.mem_range.mp C;have N:∀k,hd (DS f (C0 ws R) 0 (a k) p)=f 0 (a k):=λk=>by
   obtain⟨q,rfl⟩:∃q,p=q+1:=⟨p-1,by lia⟩;simp[DS,hd,C9]
  have e:f 0 (a x)=f 0 (a y):=by rw[<- N,<- N];exact e
  exact u x y B C<|(s 0).1.inj _ _ (E x B) (E y C) e
 ·rintro⟨i,v⟩ t t' Y h2;obtain⟨l,w,e⟩:=List.mem_flatMap.mp Y;obtain⟨l',I,e'⟩:=List.mem_flatMap.mp h2;obtain⟨k,h,rfl⟩:=List.mem_map.mp w;obtain⟨F,o,rfl⟩:=List.mem_map.mp I;have h:=List.mem_range.mp h;have o:=List.mem_range.mp o;obtain⟨n,a1,a2,a3⟩:=(WW _ _ _).mp e;obtain⟨g,b1,L,K⟩:=(WW _ _ _).mp e';erw[Ka]at a1 b1 a2 L a3 K;subst a1;have M:g=i:=by lia
  subst M;have d:g<p:=by
   have:=(List.getElem?_eq_some_iff.mp a2).1;rwa[Q2]at this
  obtain⟨r,A⟩:=G k g h d;obtain⟨g3,g4⟩:=G F g o d;rw[r]at a2;rw[g3]at L;have eq:=(s g).1.inj _ _ A g4 (by rw[FT a2,FT L]);rw[a3,K,(Q3 f (C0 ws R) g p 0 (a k) d).2,(Q3 f (C0 ws R) g p 0 (a F) d).2,eq]
def aW(ws:U Int)(m k:Nat):Nat:=(((k:Int)+ws.getD 2 0)%(m:Int)).toNat
theorem W6(ws:U Int)(m k:Nat)(a:0<m):((k:Int)+ws.getD 2 0)%(m:Int)=(aW ws m k:Int):=by
 have:=Gu ((k:Int)+ws.getD 2 0) (show(m:Int)≠0 by lia);unfold aW;lia
theorem fJ(ws:U Int)(m k:Nat)(a:0<m):aW ws m k<m:=by
 have:=Gu ((k:Int)+ws.getD 2 0) (show(m:Int)≠0 by lia);have:=Hv ((k:Int)+ws.getD 2 0) (show 0<(m:Int) by lia);unfold aW;lia
theorem sX(c:Int)(m j k:Nat)(a:m<=6)(b:j<m)(d:k<m)(e:((j:Int)+c)%(m:Int)=((k:Int)+c)%(m:Int)):j=k:=by
 have:m=1\/m=2\/m=3\/m=4\/m=5\/m=6:=by lia
 rcases this with rfl|rfl|rfl|rfl|rfl|rfl<;>lia
theorem sY(c:Int)(ws:U Int)(e:ws.length=40)(f:Nat->Nat->At)(j:Mj c ws f)(I:U Int)(hz:∀z∈I,1<=z/\z<=6)(p m k:Nat)(v:I.length=p)(p4:p<=4)(m1:1<=m)(w:m<=6)(acc:U (U At))(l:acc.length<100)(g n o:Sl):∃a d b,Qd [.val (.int c),XS ws,.val (.int (m:Int)),.val (.int (p:Int)),.own (I.map D.int),g,.own (acc.map Ak),.val (.int (k:Int)),n,o]=.next [.val (.int c),XS ws,.val (.int (m:Int)),.val (.int (p:Int)),.own (I.map D.int),a,.own ((acc++[DS f (C0 ws I) 0 (aW ws m k) p]).map Ak),.val (.int (k:Int)),d,b]:=by
 have r:atI (ws.map D.int) 2=Z (.int<|ws.getD 2 0):=J9 ws e 2 (by lia);have h:=Dt ((k:Int)+ws.getD 2 0) (m:Int) (by lia);rw[W6 ws m k (by lia)]at h;have i:=L7 p (by lia);rw[J7]at i;have x:=fJ ws m k (by lia);obtain⟨a,b,q⟩:=fH c ws e f j (.val<|.int (m:Int)) (.val<|.int (p:Int)) (.own<|acc.map Ak) (.val<|.int (k:Int)) I hz p 0 (aW ws m k) [] g (by lia) (by lia) (by lia) (by simp;lia);erw[B3,DG]at q;have s:(0:Nat)<=AB:=E7 _;have t:acc.length<AB:=CC l (by ext);have u:Fh [.lst<|(DS f (C0 ws I) 0 (aW ws m k) p).map aD]=Z (Ak<|DS f (C0 ws I) 0 (aW ws m k) p):=rfl;refine⟨a,.own<|(DS f (C0 ws I) 0 (aW ws m k) p).map aD,b,?_⟩;erw[Qd,Ay,Zy,Zu,B9,if_pos s,CW,Zg,Bk,Bb,Zd,Af,AN,AG,Aq,r,Hu,h,Z8,Cb,Bn,Zh,AU,Zb,i,q,Dv,DC,Zv,Ap,BV,pk,u,Bd,if_pos t,Fj,AI,B3]
theorem fK(c:Int)(ws:U Int)(r:ws.length=40)(f:Nat->Nat->At)(s:Mj c ws f)(I:U Int)(hz:∀z∈I,1<=z/\z<=6)(p m:Nat)(t:I.length=p)(p4:p<=4)(m1:1<=m)(u:m<=6):∀(n k:Nat)(acc:U (U At))(i o j l:Sl),acc.length+n<100->∃(a b d g:Sl),Z9 (Zn 7) Qd ((FN k n).map λ(k:Nat)=>D.int (k:Int)) [.val (.int c),XS ws,.val (.int (m:Int)),.val (.int (p:Int)),.own (I.map D.int),i,.own (acc.map Ak),o,j,l]=.next [.val (.int c),XS ws,.val (.int (m:Int)),.val (.int (p:Int)),.own (I.map D.int),a,.own ((acc++(FN k n).map λk=>DS f (C0 ws I) 0 (aW ws m k) p).map Ak),b,d,g]
 |0,k,acc,i,o,j,l,_=>⟨i,o,j,l,by simp[Z9]⟩
 |n+1,k,acc,i,o,j,l,h=>by
  obtain⟨v,w,x,e⟩:=sY c ws r f s I hz p m k t p4 m1 u acc (by lia) i j l;obtain⟨a,b,d,g,q⟩:=fK c ws r f s I hz p m t p4 m1 u n (k+1) (acc++[DS f (C0 ws I) 0 (aW ws m k) p]) v (.val<|.int (k:Int)) w x (by simp;lia);refine⟨a,b,d,g,?_⟩;rw[Lc,AI];erw[Z9,Zn,Bk,Bb];rw[e];simp only;rw[q];erw[JZ,List.singleton_append,AI]
theorem sZ(x:Int):∃p:Nat,1<=p/\p<=4/\atI [D.int 2,.int 1,.int 3,.int 2,.int 3,.int 4,.int 2,.int 3] (x%8)=Z (.int (p:Int)):=by
 obtain⟨i,a,b⟩:∃i:Nat,x%8=(i:Int)/\i<8:=⟨(x%8).toNat,by lia,by lia⟩;rw[a];have:i=0\/i=1\/i=2\/i=3\/i=4\/i=5\/i=6\/i=7:=by lia
 rcases this with rfl|rfl|rfl|rfl|rfl|rfl|rfl|rfl
 ·exact⟨2,by ext,by ext,C3 rfl⟩
 ·exact⟨1,by ext,by ext,C3 rfl⟩
 ·exact⟨3,by ext,by ext,C3 rfl⟩
 ·exact⟨2,by ext,by ext,C3 rfl⟩
 ·exact⟨3,by ext,by ext,C3 rfl⟩
 ·exact⟨4,by ext,by ext,C3 rfl⟩
 ·exact⟨2,by ext,by ext,C3 rfl⟩
 ·exact⟨3,by ext,by ext,C3 rfl⟩
theorem td(c:Int):∃n p,GL n p/\Qe [.val (.int c)]=Z (.own (n.map Ak)):=by
 obtain⟨a,w,b,_⟩:=sG c;obtain⟨f,o⟩:=sT c a;have x:atI (a.map D.int) 0=Z (.int<|a.getD 0 0):=J9 a b 0 (by lia);have y:atI (a.map D.int) 1=Z (.int<|a.getD 1 0):=J9 a b 1 (by lia);have A:=Dt (a.getD 0 0) 6 (by ext);have B:=Dt (a.getD 1 0) 8 (by ext);obtain⟨m,C,m1,d⟩:∃m:Nat,1+a.getD 0 0%6=(m:Int)/\1<=m/\m<=6:=⟨(1+a.getD 0 0%6).toNat,by lia,by lia,by lia⟩;obtain⟨p,p1,p4,E⟩:=sZ<|a.getD 1 0;have r:=rP 1 (p:Int) (by ext) (by ext) (by lia) (by lia);have g:(BU ((p:Int)-1).toNat).map (λ(k:Nat)=>D.int<|1+(k:Int))=(FN 1<|p-1).map λ(k:Nat)=>D.int (k:Int):=by
  rw[List.range'_eq_map_range,Ct,show((p:Int)-1).toNat=p-1 by lia];refine List.map_congr_left λk _=>?_;show D.int (1+(k:Int))=D.int ((1+k:Nat):Int)
  congr 1
 rw[g]at r;obtain⟨P,G,K,s,t⟩:=fF a b (.val<|.int c) (.val<|.int (m:Int)) (.val<|.int (p:Int)) .no .no .no .no (p-1) 1 [(m:Int)] .no (by lia) (by lia) rfl (λz u=>by erw[Ew]at u;subst u;lia);have v:=L7 m (by lia);rw[J7]at v;obtain⟨H,I,F,L,q⟩:=fK c a b f o P s p m (by lia) p4 m1 d m 0 [] G .no .no .no (by simp;lia);erw[B3,DG]at q;have h:(0:Nat)<=AB:=E7 _;have i:(1:Nat)<=AB:=by ext
 have l:(8:Nat)<=AB:=by ext
 refine⟨(FN 0 m).map λk=>DS f (C0 a P) 0 (aW a m k) p,p,?_,?_⟩
 ·rw[<- J7];exact sW c a f o P s p m (by lia) p1 p4 m1 d (aW a m) (λk _=>by have:=fJ a m k (by lia);lia) λj k M N e=>sX (a.getD 2 0) m j k d M N (by rw[W6 a m j (by lia),W6 a m k (by lia),e])
 ·erw[AI,B3]at t;erw[Qe,AR,Bp,B9,DK,if_true,Vt,eB,dU,Zp,Ap,AN,AG,EH,DG,Zh,AU,Zb,Ay,w,CH,Z8,Zg,Ep,Gv,D2,Bk,Bb,
   eA,dV,Zd,Af,Aq,x,A,Hu,C,ew,dW,Zy,Zu,Bp,B9,if_pos l,ZH,y,B,E,eu,dX,Bn,if_pos i,CW]
  erw[et,dY,Cb,Bn,AN,AG,Zh,AU,Zb,Ay,Zy,r,t,Zg,er,dZ,Zu,B9,if_pos h,CW,Bk,Bb,eo,ed,v,q,eg,ef,DC,CV]
abbrev LD(a:U (U At)):D:=.lst (a.map Ak)
def tf(ns:U Int)(k:Nat):∃a,(∃p,GL a p)/\Ql [.val (.int (k:Int)),.val (.lst (ns.map D.int))]=Z (LD a):=by
 have b:=QU (.val<|.lst<|ns.map D.int) ns (.inl rfl) (1+(k:Int)) (by lia);have c:=Ib (x:=1000) (y:=(k:Int)) (by left;decide);obtain⟨a,p,d,e⟩:=td<|ns.getD (1+(k:Int)).toNat 0+1000*(k:Int);refine⟨a,⟨p,d⟩,?_⟩;erw[Ql,Zp,Zd,Af,Ap,AN,AG,Ay,Hu,Zh,AU,Zb,b,c,CH,e]
def ti(x:Int):∃m:Nat,1<=m/\m<=4/\atI [D.int 2,.int 1,.int 2,.int 3,.int 1,.int 2,.int 3,.int 4] (x%8)=Z (.int (m:Int)):=by
 obtain⟨i,a,b⟩:∃i:Nat,x%8=(i:Int)/\i<8:=⟨(x%8).toNat,by lia,by lia⟩;rw[a];have:i=0\/i=1\/i=2\/i=3\/i=4\/i=5\/i=6\/i=7:=by lia
 rcases this with rfl|rfl|rfl|rfl|rfl|rfl|rfl|rfl
 ·exact⟨2,by ext,by ext,C3 rfl⟩
 ·exact⟨1,by ext,by ext,C3 rfl⟩
 ·exact⟨2,by ext,by ext,C3 rfl⟩
 ·exact⟨3,by ext,by ext,C3 rfl⟩
 ·exact⟨1,by ext,by ext,C3 rfl⟩
 ·exact⟨2,by ext,by ext,C3 rfl⟩
 ·exact⟨3,by ext,by ext,C3 rfl⟩
 ·exact⟨4,by ext,by ext,C3 rfl⟩
structure CP(Ls:List (List (List At))):Prop where
 n1:1<=Ls.length
 n4:Ls.length<=4
 good:∀ls∈Ls,∃p,GL ls p
def tj(a:U (U At)):Qm [.val (LD a)]=Z (LD (a.take 3)):=by
 have:=rN (a.map Ak) 3 (by ext);erw[Qm,Hj,Af,AG,Ay,F1,HQ,this];show Z (D.lst<|List.take 3<|a.map Ak)=Z (D.lst<|(a.take 3).map Ak)
 rw[List.map_take]
theorem tm(ns:U Int):∃c,CP c/\NH [.val (.lst (ns.map D.int))]=Z (.val (.lst (c.map LD))):=by
 have l:=QU (.val<|.lst<|ns.map D.int) ns (.inl rfl) 0 (by ext);obtain⟨m,m1,n,o⟩:=ti<|ns.getD (0:Int).toNat 0;have q:=Dt (ns.getD (0:Int).toNat 0) 8 (by ext);have r:=L7 m (by lia);obtain⟨c,s,t,u⟩:=ft (b:=Zn 0) (e:=Ql) (ρ:=[.no,.val<|.lst<|ns.map D.int]) (λ(k:Nat)=>D.int (k:Int)) LD (λa=>∃p,GL a p) (BU m) λk _=>by
  obtain⟨a,i,y⟩:=tf ns k;exact⟨a,_,i,rfl,y⟩
 rw[List.length_range]at t;have d:(8:Nat)<=AB:=by ext
 have f:((BU m).map λ(k:Nat)=>D.int (k:Int)).length<=AB:=by rw[Bd,List.length_range];exact BX n (by ext)
 have j:(c.map LD).length<=AB:=by rw[Bd,t];exact BX n (by ext)
 have v:=D1 (b:=Zn 0) (e:=Qm) (ρ:=[.no]) LD (λa=>LD<|a.take 3) c λa _=>⟨_,rfl,tj a⟩;have z:c.map (λa=>LD<|a.take 3)=(c.map λa=>a.take 3).map LD:=by rw[Ct];rfl
 rw[z]at v;have g:=QX (m:Int) 4;by_cases w:(m:Int)=4
 ·refine⟨c.map λa=>a.take 3,⟨by rw[Bd];lia,by rw[Bd];lia,λa h=>?_⟩,?_⟩
  ·obtain⟨A,i,rfl⟩:=List.mem_map.mp h;obtain⟨p,B⟩:=u A i;exact⟨p,B.take 3 (by ext)⟩
  ·rw[decide_eq_true w]at g;erw[NH,AR,Bp,B9,DK,if_true,Qn,VM,VD,Zp,Ap,AN,AG,EH,DG,Zh,AU,Zb,Ay,l,CH,Zd,q,Zy,Zu,if_pos d,ZH,Aq,o,Z8,Zg,Ep,Gv,D2,Bk,Bb,
    VL,VF,ZG,Bn,r,if_pos f,ZK,AI,B3,ID,s,VJ,VG,Af,g,AF,ZE,Bj,Zx,if_pos j,v,VI,VH,ZD]
 ·refine⟨c,⟨by lia,by lia,u⟩,?_⟩;rw[decide_eq_false w]at g;erw[NH,AR,Bp,B9,DK,if_true,Qn,VM,VD,Zp,Ap,AN,AG,EH,DG,Zh,AU,Zb,Ay,l,CH,Zd,q,Zy,Zu,if_pos d,ZH,Aq,o,Z8,Zg,Ep,Gv,D2,Bk,Bb,
   VL,VF,ZG,Bn,r,if_pos f,ZK,AI,B3,ID,s,VJ,VG,Af,g,AF,ZE,VI,VH,ZD]
theorem tp(xs:U D)(e:1<=xs.length)(f:xs.length<=40)(b:Bool)(a:Jf [.val (.lst xs)]=Z (.val (.bl b))):J5 [.val (.lst xs)]=Z (.val (.bl b)):=by
 have c:¬ ((xs.length:Int)<1):=by lia
 have d:¬ (40:Int)<(xs.length:Int):=by lia
 simp[J5,AR,V2,c,d,a]
def tq(b:1<=l.length)(c:l.length<=4)(d:∀a∈l,Ez (aD a)=yB):DR (Ak l)=yB:=by
 erw[Ak,DR,Bd,b,c,decide_true,Bool.true_and,FF,CK];exact λa e=>d a e
def tu{a b:U At}(h:Ak a=Ak b):a=b:=by
 have:=NY a b;rw[h]at this;have c:=NY b b;rw[this]at c;simpa using c
theorem W7:∀{a b:U (U At)},a.map Ak=b.map Ak->a=b
 |[],[],_=>rfl
 |[],_::_,h=>nomatch h
 |_::_,[],h=>nomatch h
 |x::a,y::b,h=>by
  erw[AI,Pa]at h;rw[tu h.1,W7 h.2]
structure Ln(l:List At):Prop where
 l1:1<=l.length
 l4:l.length<=4
 val:∀a∈l,Ez (aD a)=yB/\Sm (aD a)
def Ln.sml(h:Ln l):Mf (Ak l):=⟨by rw[Bd];have:=h.l4;lia,λx b=>by obtain⟨a,c,rfl⟩:=List.mem_map.mp b;exact(h.val a c).2⟩
def tw(b:U (U At))(f:1<=b.length)(i:b.length<=40)(c:∀l∈b,Ln l):J5 [.val (LD b)]=Z (.val (.bl (Mi b))):=by
 have j:∀x∈b.map Ak,Mf x:=λx d=>by obtain⟨l,h,rfl⟩:=List.mem_map.mp d;exact(c l h).sml
 refine tp _ (by simpa using f) (by simpa using i) _ ?_;rcases sA (b.map Ak) j (by rw[Bd];lia)with⟨a,_⟩|⟨_,k,e,_,g⟩
 ·have:=CK.mpr λx d=>by
   obtain⟨l,h,rfl⟩:=List.mem_map.mp d;exact tq (c l h).l1 (c l h).l4 λa m=>((c l h).val a m).1
  simp[this]at a
 ·rw[W7 e];rw[W7 e]at g;exact g
def GL.ln(h:GL c p):∀l∈c,Ln l:=λl b=>⟨by rw[h.len l b];exact h.p1,by rw[h.len l b];exact h.p4,λa d=>⟨(h.val l b a d).1,(h.val l b a d).2.1⟩⟩
def GL.il{a:U (U At)}(h:GL a p):J5 [.val (LD a)]=Z (.val (.bl yB)):=by
 rw[tw a h.n1 (by have:=h.n6;lia) h.ln,h.go]
def tx{a:Type}(G:a->D)(F:a->Bool)(xs:U a)(h:∀x∈xs,J5 [.val (G x)]=Z (.val (.bl (F x)))):C4 (Zn 0) (λ_=>Z yB) QF [.no] (xs.map G)=Z ((xs.map F).map D.bl):=by
 have:=D1 (b:=Zn 0) (e:=QF) (ρ:=[.no]) G (λx=>D.bl<|F x) xs λx c=>⟨[.val<|G x],rfl,by erw[QF,Zp,Zb,Ap,AG,Ay,h x c,AU,CH]⟩;rw[this,Ct];rfl
theorem tz{a:Type}(G:a->D)(F:a->Bool)(xs:U a)(j:1<=xs.length)(d:xs.length<=4)(h:∀x∈xs,J5 [.val (G x)]=Z (.val (.bl (F x)))):NO [.val (.lst (xs.map G))]=Z (.val (.bl (xs.all F))):=by
 have e:¬ ((xs.length:Int)<1):=by lia
 have f:¬ (4:Int)<(xs.length:Int):=by lia
 have g:=tx G F xs h;have i:xs.length<=AB:=BX d (by ext);have c:(xs.map F).all id=xs.all F:=by rw[FF];rfl
 have b:=c;simp[NO,AR,V4,e,f,i,ZK,g,-Ct,c,b]
def CP.al{a:U (U (U At))}(h:CP a):NO [.val (.lst (a.map LD))]=Z (.val (.bl yB)):=by
 rw[tz LD (λ_=>yB) a h.n1 h.n4 λb c=>by obtain⟨p,d⟩:=h.good b c;exact d.il];simp
def tE(a:At):KZ (aD a)=yB:=by cases a<;>erw[aD,KZ]
theorem fL:∀l:U At,Gk (l.map aD)=yB
 |[]=>by erw[B3,Gk]
 |a::l=>by erw[AI,Gk,tE,fL l,Ec]
theorem fM:∀a:U (U At),Gk (a.map Ak)=yB
 |[]=>by erw[B3,Gk]
 |l::a=>by erw[AI,Gk,Ak,KZ,fL,Bool.true_and];exact fM a
theorem Q5{C:VE->O (U D)}(b:∀z,C [.val (.lst z)]=Z z):∀a:U (U D),(∀z∈a,Gk z=yB)->J0 (Zn 0) C [.no] (a.map λz=>D.lst z)=Z a
 |[],_=>rfl
 |z::a,h=>by
  have c:=Q5 b a λy d=>h y<|A9 _ d;have e:=h z A8;erw[AI,J0,Zn,Bb,b,Uw,Ay,if_pos e,Zb,c]
abbrev ZS(a:U (U (U At))):U (U D):=a.map λb=>b.map Ak
def W8(a:U (U (U At))):∀z∈ZS a,Gk z=yB:=λz b=>by obtain⟨c,_,rfl⟩:=List.mem_map.mp b;exact fM c
def Oa(a:U (U (U At))):(ZS a).map (λz=>D.lst z)=a.map LD:=by rw[Ct];rfl
abbrev AX(a:U (U (U At))):D:=.tup (a.map λ_=>D.int 0)
def fN{a:U (U (U At))}(h:CP a):Ny [.val (.lst (a.map LD))]=Z (.val (AX a)):=by
 have c:=h.n4;have d:(a.map LD).length<=AB:=by rw[Bd];exact BX c (by ext)
 have f:=D1 (b:=Zn 0) (e:=du) (ρ:=[.no]) LD (λ_=>D.int 0) a λg _=>⟨[.val<|LD g],rfl,rfl⟩;have i:Fh [.lst<|a.map λ_=>D.int 0]=Z (AX a):=rfl;erw[Ny,AR,Bp,B9,DK,if_true,UV,Ep,D2,CF,ZG,Bj,AG,Ay,Zx,Zu,if_pos d,ZK,Gv,B3,f,ZH,AU,Zh,Zb,Zv,BV,pk,i,ZD,Zg]
structure TO{α:Type}(lt:α->α->Bool):Prop where
 asym:∀a b,lt a b=yB->lt b a=yC
 neg:∀a b c,lt a c=yB->lt a b=yB\/lt b c=yB
 anti:∀a b,lt a b=yC->lt b a=yC->a=b
noncomputable def Jh{a:Type}(lt:a->a->Bool)(x:a):U a->U a
 |[]=>[x]
 |y::r=>if lt x y then x::y::r else y::Jh lt x r
def ZB{a:Type}(lt:a->a->Bool):U a->U a
 |[]=>[]
 |x::r=>Jh lt x (ZB lt r)
theorem W9{a:Type}(lt:a->a->Bool)(x:a):∀l,(Jh lt x l).Perm (x::l)
 |[]=>.refl _
 |y::r=>by
  unfold Jh;split
  ·exact .refl _
  ·exact((W9 lt x r).cons y).trans<|.swap x y r
theorem ZP{a:Type}(lt:a->a->Bool):∀l,(ZB lt l).Perm l
 |[]=>.refl _
 |x::r=>(W9 lt x _).trans<|(ZP lt r).cons x
theorem fO{f:Type}{lt:f->f->Bool}(T:TO lt)(x:f):∀l:U f,l.Pairwise (λa b=>lt b a=yC)->(Jh lt x l).Pairwise λa b=>lt b a=yC
 |[],_=>by simp[Jh]
 |y::r,g=>by
  obtain⟨h,i⟩:=List.pairwise_cons.mp g;unfold Jh;split
  ·next d=>
   refine List.pairwise_cons.mpr ⟨λz c=>?_,g⟩;rcases Bh.mp c with e|c
   ·subst e;exact T.asym x z d
   ·cases j:lt z x with|false=>rfl|true=>
     rcases T.neg z y x j with q|q
     ·simp[h z c]at q
     ·simp[T.asym x y d]at q
  ·next d=>
   rw[MZ]at d;refine List.pairwise_cons.mpr ⟨λz c=>?_,fO T x r i⟩;rcases Bh.mp ((W9 lt x r).subset c)with e|c
   ·subst e;exact d
   ·exact h z c
theorem Ml{c:Type}{lt:c->c->Bool}(T:TO lt):∀l:U c,(ZB lt l).Pairwise λa b=>lt b a=yC
 |[]=>.nil
 |x::r=>fO T x _<|Ml T r
def fP{c:Type}{lt:c->c->Bool}(T:TO lt){xs ys:U c}(d:ys.Perm xs)(e:ys.Pairwise λa b=>lt b a=yC):ys=ZB lt xs:=List.Perm.eq_of_pairwise (λa b _ _ f g=>T.anti a b g f) e (Ml T xs) (d.trans (ZP _ xs).symm)
theorem fQ{a:Type}(f:a->D)(lt:a->a->Bool)(b:D->D->Bool)(x:a):∀l:U a,(∀y∈l,b (f x) (f y)=lt x y)->IW b (f x) (l.map f)=(Jh lt x l).map f
 |[],_=>rfl
 |y::r,h=>by
  have c:=h y A8;have d:=fQ f lt b x r λz e=>h z<|A9 _ e;erw[AI,IW,Jh,c,d];split<;>rfl
theorem fR{a:Type}(f:a->D)(lt:a->a->Bool)(b:D->D->Bool):∀l:U a,(∀x∈l,∀y∈l,b (f x) (f y)=lt x y)->Gf b (l.map f)=(ZB lt l).map f
 |[],_=>rfl
 |x::r,h=>by
  have d:=fR f lt b r λy c z e=>h y (A9 _ c) z<|A9 _ e;erw[AI,Gf,ZB,d];exact fQ f lt b x _ λy c=>h x A8 y<|A9 _<|(ZP lt r).subset c
def fS{l:Type}(f:l->D){lt:l->l->Bool}(T:TO lt)(b:Bool)(xs:U l)(few:xs.length<64)(m:l->D)(tells:∀a∈xs,F [.val (f a)]=Z (.val (m a)))(mode:∀a∈xs,Cu b (m a))(cmp:∀a∈xs,∀c∈xs,ltN 6 (m a) (m c)=Z (lt a c)):LU F (xs.map f)=Z ((ZB lt xs).map f):=by
 have n:∀a∈xs,Eb F (f a)=m a:=λa d=>by unfold Eb;rw[tells a d];rfl
 have j:∀a∈xs,∀c∈xs,Dc F (f a) (f c)=lt a c:=λa d c g=>bX (by rw[n a d,n c g];exact cmp a d c g)
 have ok:BJ F (xs.map f):={
  few:=by simpa using few
  tells:=λx i=>by obtain⟨a,d,rfl⟩:=List.mem_map.mp i;exact⟨_,tells a d⟩
  mode:=⟨b,λx i=>by obtain⟨a,d,rfl⟩:=List.mem_map.mp i;rw[n a d];exact mode a d⟩
  cmp:=λx i y k=>by
   obtain⟨a,d,rfl⟩:=List.mem_map.mp i
   obtain⟨c,g,rfl⟩:=List.mem_map.mp k
   rw[n a d,n c g];exact⟨_,cmp a d c g⟩
  asym:=λx i y k h=>by
   obtain⟨a,d,rfl⟩:=List.mem_map.mp i
   obtain⟨c,g,rfl⟩:=List.mem_map.mp k
   rw[j a d c g]at h;rw[j c g a d];exact T.asym a c h
  neg:=λx i y k z r h=>by
   obtain⟨a,d,rfl⟩:=List.mem_map.mp i
   obtain⟨c,g,rfl⟩:=List.mem_map.mp k
   obtain⟨e,o,rfl⟩:=List.mem_map.mp r
   rw[j a d e o]at h;rw[j a d c g,j c g e o];exact T.neg a c e h
  anti:=λx i y k p q=>by
   obtain⟨a,d,rfl⟩:=List.mem_map.mp i
   obtain⟨c,g,rfl⟩:=List.mem_map.mp k
   rw[j a d c g]at p;rw[j c g a d]at q;rw[T.anti a c p q]}
 rw[pO ok,fR f lt _ xs j]
def Dx{b:Type}[DecidableEq b]:O b->U b->U b
 |_,[]=>[]
 |p,a::r=>if p=Z a then Dx p r else a::Dx (Z a) r
theorem fT{c:Type}[DecidableEq c]:∀(l:U c)(p:O c),l.Nodup->(∀a,p=Z a->a∉l)->Dx p l=l
 |[],_,_,_=>rfl
 |a::r,p,h,d=>by
  obtain⟨f,g⟩:=Gc.mp h;unfold Dx;rw[if_neg<|λe=>d a e A8,fT r (Z a) g λb i=>by cases i;exact f]
theorem Xa{c:Type}[DecidableEq c]:∀(l:U c)(p:O c)(a:c),a∈Dx p l->a∈l
 |[],_,_,h=>h
 |b::r,p,a,h=>by
  unfold Dx at h;split at h
  ·exact A9 _<|Xa r p a h
  ·rcases Bh.mp h with rfl|h
   ·exact A8
   ·exact A9 _<|Xa r _ a h
theorem Xb{c:Type}[DecidableEq c]:∀(l:U c)(p:O c)(a:c),a∈l->a∈Dx p l\/p=Z a
 |[],_,_,h=>by cases h
 |b::r,p,a,h=>by
  unfold Dx;split
  ·next e=>
   rcases Bh.mp h with rfl|h
   ·exact .inr e
   ·exact Xb r p a h
  ·rcases Bh.mp h with rfl|h
   ·exact .inl A8
   ·rcases Xb r (Z b) a h with h|h
    ·exact .inl<|A9 _ h
    ·cases h;exact .inl A8
def fU{b:Type}[DecidableEq b](l:U b)(a:b):a∈Dx yA l↔a∈l:=⟨Xa l yA a,λh=>by rcases Xb l yA a h with h|h;exact h;cases h⟩
noncomputable def EB:At->At->Bool
 |.non,.non=>yC
 |.non,_=>yB
 |.int i,.int j=>decide (i<j)
 |.int _,.str _=>yB
 |.str x,.str y=>decide (x.cps.toList<y.cps.toList)
 |_,_=>yC
def tH{x y:Ae}(h:x.cps.toList=y.cps.toList):x=y:=by
 obtain⟨⟨a⟩⟩:=x;obtain⟨⟨b⟩⟩:=y;simp at h;rw[h]
theorem Ji:TO EB:={
 asym:=λa b h=>by
  cases a<;>cases b<;>erw[EB,decide_eq_true_eq,decide_eq_false_iff_not,EG]at h ⊢
  ·lia
  ·exact List.lt_asymm h
 neg:=λa b c h=>by
  cases a<;>cases c<;>erw[EB,decide_eq_true_eq,EG]at h<;>cases b<;>erw[EB,decide_eq_true_eq,EG,true_or,or_true,false_or,or_false]
  ·lia
  ·next x y z=>
   by_cases d:x.cps.toList<z.cps.toList
   ·exact .inl d
   ·exact .inr<|List.lt_of_le_of_lt (List.not_lt.mp d) h
 anti:=λa b d e=>by
  cases a<;>cases b<;>erw[EB,decide_eq_false_iff_not,Bool.true_eq_false]at d e
  ·rfl
  ·rw[At.int.injEq];lia
  ·rw[At.str.injEq];exact tH<|List.le_antisymm (List.not_lt.mp e)<|List.not_lt.mp d}
def Ba:U At->U At->Bool
 |[],[]=>yC
 |[],_::_=>yB
 |_::_,[]=>yC
 |a::r,b::s=>if a=b then Ba r s else EB a b
theorem fV:∀a b,Ba a b=yB->Ba b a=yC
 |[],[],_=>rfl
 |[],_::_,_=>rfl
 |_::_,[],h=>by cases h
 |a::r,b::s,h=>by
  unfold Ba at h ⊢;by_cases e:a=b
  ·subst e;erw[if_true]at h ⊢;exact fV r s h
  ·rw[if_neg e]at h;rw[if_neg<|λz=>e z.symm];exact Ji.asym a b h
theorem fW:∀a b c,Ba a c=yB->Ba a b=yB\/Ba b c=yB
 |[],[],c,h=>.inr h
 |[],_::_,_,_=>.inl rfl
 |_::_,_,[],h=>by cases h
 |_::_,[],_::_,_=>.inr rfl
 |a::r,b::s,c::t,h=>by
  unfold Ba at h ⊢;by_cases e:a=b
  ·subst e;by_cases d:a=c
   ·erw[d,if_true]at h ⊢;exact fW r s t h
   ·rw[if_neg d]at h;right;rw[if_neg d];exact h
  ·rw[if_neg e];by_cases d:b=c
   ·subst d;rw[if_neg e]at h;exact .inl h
   ·rw[if_neg d];by_cases f:a=c
    ·subst f;cases g:EB a b with|true=>exact .inl rfl|false=>
      cases hd:EB b a with
      |true=>exact .inr rfl
      |false=>exact absurd (Ji.anti a b g hd) e
    ·rw[if_neg f]at h;exact Ji.neg a b c h
theorem fX:∀a b,Ba a b=yC->Ba b a=yC->a=b
 |[],[],_,_=>rfl
 |[],_::_,h,_=>by cases h
 |_::_,[],_,h=>by cases h
 |a::r,b::s,c,d=>by
  unfold Ba at c d;by_cases e:a=b
  ·subst e;erw[if_true]at c d;rw[fX r s c d]
  ·rw[if_neg e]at c;rw[if_neg<|λz=>e z.symm]at d;exact absurd (Ji.anti a b c d) e
def Ed:TO Ba:=⟨fV,fW,fX⟩
noncomputable def Dd:At->D
 |.non=>.tup [.int 0,.int 0]
 |.int i=>.tup [.int 1,.int i]
 |.str x=>.tup [.int 2,.str x]
theorem tJ(n:Nat)(a b:At):ltN (n+2) (Dd a) (Dd b)=Z (EB a b):=by
 cases a<;>cases b<;>simp[Dd,EB]
 ·intro e;lia
 ·intro e;subst e;simp
def fY(a b:At):AE (Dd a) (Dd b)=decide (a=b):=by
 cases a<;>cases b<;>simp[Dd]
def Q6(n:Nat)(a:At):AT (n+1) (Dd a)=yB:=by cases a<;>cases n<;>rfl
theorem Xc(n:Nat):∀l m:U At,Ff (ltN (n+2)) (l.map Dd) (m.map Dd)=Z (Ba l m)
 |[],[]=>rfl
 |[],_::_=>rfl
 |_::_,[]=>rfl
 |a::r,b::s=>by
  have c:=Xc n r s;have d:=Q6 11 a;have e:=Q6 11 b;have f:=fY a b;have g:=tJ n a b;erw[AI,Ff,E4,d,e,f,g,c,Ba,Ec,if_true,decide_eq_true_eq];split<;>rfl
theorem Q7{b:Type}[DecidableEq b]:∀(l:U b)(p:O b),(Dx p l).length<=l.length
 |[],_=>Bl _
 |a::r,p=>by
  unfold Dx;split
  ·exact Nat.le_succ_of_le<|Q7 r p
  ·exact Nat.succ_le_succ<|Q7 r _
noncomputable def mn(m y:Int):Int:=if y<m then y else m
def mx(m y:Int):Int:=if y>m then y else m
theorem fZ(m y:Int):mn m y=min m y:=by unfold mn;split<;>lia
theorem f4(m y:Int):mx m y=max m y:=by unfold mx;split<;>lia
def Dj(x:Int)(xs:U Int):D:=.tup [.int (xs.length+1:Nat),.int ((x::xs).sum),.int (xs.foldl mn x),.int (xs.foldl mx x)]
def tK(s:Sl)(ns:U Int):Prop:=s=.val (.lst (ns.map D.int))\/s=.lent (ns.map D.int)
def tL(s:Sl)(x:Int)(xs:U Int)(h:tK s (x::xs)):PP [s]=Z (.val (Dj x xs)):=by
 have a:(4:Nat)<=AB:=by ext
 rcases h with rfl|rfl<;>(simp[PP,AR,UW,FG,OZ,M4,M5,Dj,a];exact⟨rfl,rfl⟩)
def tM:(4:Nat)<=AB:=by ext
theorem f5(a:Int):∀(ys:U Int)(b:Int),ys.foldl mn (mn a b)=mn a (ys.foldl mn b)
 |[],b=>rfl
 |y::ys,b=>by
  have e:mn (mn a b) y=mn a (mn b y):=by erw[fZ];lia
  erw[JL,e,f5 a ys]
theorem f6(a:Int):∀(ys:U Int)(b:Int),ys.foldl mx (mx a b)=mx a (ys.foldl mx b)
 |[],b=>rfl
 |y::ys,b=>by
  have e:mx (mx a b) y=mx a (mx b y):=by erw[f4];lia
  erw[JL,e,f6 a ys]
theorem f7:∀(a b:U Int),(a++b).sum=a.sum+b.sum
 |[],b=>by simp
 |x::a,b=>by simp[f7 a b,Int.add_assoc]
theorem tN(x y:Int)(xs ys:U Int):Nz [.val (Dj x xs),.val (Dj y ys)]=Z (.val (Dj x (xs++y::ys))):=by
 have a:(xs++y::ys).foldl mn x=mn (xs.foldl mn x) (ys.foldl mn y):=by rw[List.foldl_append,JL,f5]
 have b:(xs++y::ys).foldl mx x=mx (xs.foldl mx x) (ys.foldl mx y):=by rw[List.foldl_append,JL,f6]
 simp[Nz,AR,UX,Dj,atI,D6,tM,a,b,f7];refine⟨by lia,by lia,rfl,rfl⟩
def Fm(acc:BE)(b:U (At×D)):BE:=b.foldl (λa p=>Cr a (.at p.1) p.2) acc
def Xd(a:At):Ds (aD a)=Z (.at a):=KQ<|.at a
def f8{a:At}(h:∀p∈kvs,El p.1=yB):∀p∈Cr kvs (.at a) v,El p.1=yB:=λp b=>by
 rcases py b with b|rfl
 ·exact h p b
 ·rfl
theorem f9:∀(a:U (At×D))(acc:BE),(∀p∈acc,El p.1=yB)->acc.length+a.length<=100000->Gh acc (a.map λp=>.tup [aD p.1,p.2])=Z (Fm acc a)
 |[],acc,_,_=>rfl
 |p::a,acc,h,b=>by
  erw[Bp]at b;have c:acc.length<AB:=CC (show acc.length<100000 by lia) (by ext);have e:=pz acc (.at p.1) p.2;have d:=f9 a (Cr acc (.at p.1) p.2) (f8 h) (by lia);erw[AI,Gh,Xd,Pf p.1 h,c,decide_true,Ec,if_true,d];rfl
theorem Xe:∀(a:U (At×D))(acc:BE),(∀p∈acc,El p.1=yB)->∀p∈Fm acc a,El p.1=yB
 |[],_,h=>h
 |p::a,acc,h=>Xe a _<|f8 h
theorem ga{a:At}:∀(b:U (At×D))(acc:BE),a∉b.map (·.1)->ZM (Fm acc b) (.at a)=ZM acc (.at a)
 |[],_,_=>rfl
 |p::b,acc,h=>by
  rw[AI,Bh,not_or]at h;have c:=ga b (Cr acc (.at p.1) p.2) h.2;show ZM (Fm (Cr acc (.at p.1) p.2) b) _=_
  rw[c,T6,if_neg<|λe=>h.1 (KT.at.inj e).symm]
theorem gb{a:At}{v:D}:∀(b:U (At×D))(acc:BE),(b.map (·.1)).Nodup->(a,v)∈b->ZM (Fm acc b) (.at a)=Z v
 |p::b,acc,c,h=>by
  rw[AI,Gc]at c;show ZM (Fm (Cr acc (.at p.1) p.2) b) _=_
  rcases Bh.mp h with rfl|h
  ·rw[ga b _ c.1,T6,if_pos rfl]
  ·exact gb b _ c.2 h
theorem gc(a:At):∀(b:U (At×D))(acc:BE),(ZM (Fm acc b) (.at a)).isSome=((ZM acc (.at a)).isSome||decide (a∈b.map (·.1)))
 |[],acc=>by simp[Fm]
 |p::b,acc=>by
  have c:=gc a b<|Cr acc (.at p.1) p.2;show(ZM (Fm (Cr acc (.at p.1) p.2) b) _).isSome=_
  rw[c,T6];by_cases e:p.1=a
  ·subst e;simp
  ·have d:¬ KT.at p.1=KT.at a:=λz=>e<|KT.at.inj z;have f:¬ a=p.1:=λz=>e z.symm;rw[if_neg d,NX];simp[f]
def tR{a:At}(c:(b.map (·.1)).Nodup)(h:(a,v)∈b):DP (.lst (Zo (Fm [] b)) .d) (aD a)=Z v:=by
 have e:=Pf a<|Xe b [] λ_ h=>nomatch h;rw[Pe,Xd];erw[Ay,e,if_true,gb b [] c h]
def tT(neg:Bool)(b:U (At×D))(a:At):DQ neg (aD a) (.lst (Zo (Fm [] b)) .d)=Z (.bl (neg != decide (a∈b.map (·.1)))):=by
 have c:=Pf a<|Xe b [] λ_ h=>nomatch h;have f:=gc a b [];rw[M7,Xd];erw[Ay,c,if_true,f];simp[ZM]
def Xf{a:Type}(l:U a):F2 [.lst ((l.map λ_=>yB).map D.bl)]=Z (.bl yB):=by
 erw[F2,UR,Iy];congr 2;rw[FF];simp
def D3{a n:Nat}{r:Rv}(h:b.length=a)(e:g (b++Do (n-a) .no)=.ret r):AR a n g b=Z r:=by
 unfold AR;rw[if_pos h,e]
theorem ge{a:Type}(x:a)(xs:U a):atI (x::xs) 0=Z x:=by
 have:(0:Int)<(xs.length:Int)+1:=by lia
 simp[atI,D6,this]
theorem YM{a:Type}(xs:U a)(x:a):atI (xs++[x]) (-1)=Z x:=by
 have b:(-1+((xs.length:Int)+1)).toNat=xs.length:=by lia
 have c : -((xs.length:Int)+1) <= -1:=by lia
 simp[atI,D6,b,c]
def tU(a:At):P9 [.val (aD a)]=Z (.val (Dd a)):=by
 have b:(2:Nat)<=AB:=by ext
 cases a<;>simp[P9,AR,Vp,Jb,Nx,aD,Dd,b]
def gf(l:U At)(h:l.length<=1000):Mb [.val (Ak l)]=Z (.val (.tup (l.map Dd))):=by
 have c:l.length<=AB:=BX h (by ext);have d:=D1 (b:=Zn 0) (e:=Vx) (ρ:=[.no]) aD Dd l λa _=>⟨[.val<|aD a],rfl,by
  have:=tU a;erw[Vx,Zp,Zb,Ap,AG,Ay,this,AU,CH]⟩
 simp[Mb,AR,Vy,Ak,c,ZK,d,-Ct]
theorem Q8(s0:Sl):∀(c acc:U (U At))(j:Sl),acc.length+c.length<100000->∃a,Z9 (Zn 2) J6 (c.map Ak) [s0,.own (acc.map Ak),j]=.next [s0,.own ((acc++Dx acc.getLast? c).map Ak),a]
 |[],acc,j,_=>⟨j,by simp[Z9,Dx]⟩
 |l::c,acc,j,k=>by
  erw[Bp]at k;have d:acc.length<AB:=CC (show acc.length<100000 by lia) (by ext);have n:OS (Z<|.int 1)=Z (.int (-1)):=rfl;erw[AI,Z9,Zn,Bk,Bb];rcases List.eq_nil_or_concat acc with rfl|⟨pre,x,rfl⟩
  ·obtain⟨a,e⟩:=Q8 s0 c [l] (.val<|Ak l) (by simp;lia);refine⟨a,?_⟩;have f:J6 [s0,.own<|[].map Ak,.val<|Ak l]=.next [s0,.own<|[l].map Ak,.val<|Ak l]:=by
    have o:(0:Nat)<AB:=by ext
    simp[J6,o]
   have hd:Dx ([]:U (U At)).getLast? (l::c)=l::Dx (Z l) c:=rfl;rw[f,hd];exact e
  ·rw[List.concat_eq_append]at k d ⊢;have g:Aq (.lst<|(pre++[x]).map Ak) (.int (-1))=Z (Ak x):=by
    rw[Fj];exact YM _ _
   have h:Z5 (Z<|.lst<|(pre++[x]).map Ak)=Z yB:=by simp
   have i:=NY x l;have b:(pre++[x]).getLast?=Z x:=by simp
   by_cases m:x=l
   ·subst m;obtain⟨a,e⟩:=Q8 s0 c (pre++[x]) (.val<|Ak x) (by lia);refine⟨a,?_⟩;have f:J6 [s0,.own<|(pre++[x]).map Ak,.val<|Ak x]=.next [s0,.own<|(pre++[x]).map Ak,.val<|Ak x]:=by
     erw[J6,Zg,ZE,BR,ZW,AF,Zd,Af,Bn,DC,AN,AG,Ay,AU,h,n,g,i,decide_true,C8]
    rw[f,b,Dx,if_pos rfl,<- b];exact e
   ·obtain⟨a,e⟩:=Q8 s0 c (pre++[x]++[l]) (.val<|Ak l) (by simp at k ⊢;lia);refine⟨a,?_⟩;have p:(pre++[x]++[l]).getLast?=Z l:=by simp
    have f:J6 [s0,.own<|(pre++[x]).map Ak,.val<|Ak l]=.next [s0,.own<|(pre++[x]++[l]).map Ak,.val<|Ak l]:=by
     rw[show((pre++[x]++[l]).map Ak)=(pre++[x]).map Ak++[Ak l] by simp];erw[J6,Zg,ZE,BR,ZW,AF,Zd,Af,Bn,DC,AN,AG,Ay,AU,h,n,g,i,m,decide_false,Mh,C8,Dv,Bd,d,if_true,Bk,Bb]
    rw[f,b,Dx,if_neg (by simpa using m)];rw[p]at e;rw[show pre++[x]++l::Dx (Z l) c=pre++[x]++[l]++Dx (Z l) c by simp];exact e
theorem Xg(s:Sl)(b:U (U At))(i:s=.val (.lst (b.map Ak))\/s=.lent (b.map Ak))(j:b.length<64)(f:∀l∈b,l≠[]/\l.length<=1000):NN [s]=Z (.own ((Dx yA (ZB Ba b)).map Ak)):=by
 have c:=fS Ak Ed yC b j (λl=>.tup<|l.map Dd) (λl h=>gf l (f l h).2) (λl h=>by
  cases l with
  |nil=>exact absurd rfl (f [] h).1
  |cons a r=>cases a<;>exact⟨_,_,rfl⟩) (λl _ m _=>Xc 3 l m)
 have g:=(ZP Ba b).length_eq;obtain⟨k,e⟩:=Q8 s (ZB Ba b) [] .no (by rw[g];simp;lia);have n:(ZB Ba b).length<=AB:=by rw[g];exact BX (show b.length<=1000 by lia) (by ext)
 erw[B3,DG,List.getLast?_nil]at e;refine D3 rfl ?_;show QE [s,.no,.no]=_
 have d:Zu (Z ([]:U D))=Z []:=rfl;rcases i with rfl|rfl<;>erw[QE,Zg,CW,Cb,LW,ZH,Zx,Af,DC,CV,Zy,d,c,e,AN,AG,Ay,AU,Bk,Bb]
theorem gg(l:U At)(j:Nat)(h:l.length<=1000):Jd [.val (Ak l),.val (.int (j:Int))]=Z (.val (aD (l.getD j .non))):=by
 have d:l.length<=AB:=BX h (by ext);by_cases c:j<l.length
 ·have b:(j:Int)<(l.length:Int):=by lia
  have:Aq (Ak l) (.int (j:Int))=Z (aD<|l.getD j .non):=by
   exact C3 (by simp[Dl c,Gg])
  have a:ZQ [Ak l]=Z (.int (l.length:Int)):=by simp[Ak]
  simp[Jd,AR,PN,-Aq,-ZQ,a,this,b]
 ·have b:¬ (j:Int)<(l.length:Int):=by lia
  have a:ZQ [Ak l]=Z (.int (l.length:Int)):=by simp[Ak]
  have e:l.getD j .non=.non:=by simp[Gg,List.getElem?_eq_none (show l.length<=j by lia)]
  rw[e];simp[Jd,AR,PN,-Aq,-ZQ,a,b,aD]
abbrev Bq:=U At×Int×U Int
variable{acc:U Bq}
def ZC(acc:U Bq):U (U At):=acc.map (·.1)
def Db:U Bq->U At->O (Int×U Int)
 |[],_=>yA
 |e::r,k=>if e.1=k then Z e.2 else Db r k
noncomputable def CQ:U Bq->U At->Int->U Bq
 |[],k,x=>[(k,x,[])]
 |e::r,k,x=>if e.1=k then(e.1,e.2.1,e.2.2++[x])::r else e::CQ r k x
def ZR(v:Int×U Int->D)(e:Bq):KT×D:=(.tup e.1,v e.2)
theorem Ch{k:U At}:∀{acc:U Bq},Db acc k=yA↔k∉ZC acc
 |[]=>by simp[Db,ZC]
 |e::r=>by
  have a:=Ch (k:=k) (acc:=r);unfold Db;by_cases h:e.1=k
  ·rw[if_pos h];simp[ZC,h]
  ·rw[if_neg h,a];simp[ZC,CT h]
theorem Kb(v:Int×U Int->D)(k:U At):∀acc:U Bq,ZM (acc.map (ZR v)) (.tup k)=(Db acc k).map v
 |[]=>rfl
 |e::r=>by
  have a:=Kb v k r;erw[AI,ZM,Db,ZR,KT.tup.injEq];by_cases h:e.1=k
  ·rw[if_pos h,if_pos h];rfl
  ·rw[if_neg h,if_neg h];exact a
theorem gh{k:KT}{w:D}:∀{kvs:BE},ZM kvs k=yA->Fk kvs k w=kvs
 |[],_=>rfl
 |p::r,h=>by
  unfold ZM at h;by_cases e:p.1=k
  ·simp[if_pos e]at h
  ·rw[if_neg e]at h;unfold Fk;rw[if_neg e,gh h]
theorem gi(v:Int×U Int->D){k:U At}{x:Int}{p:Int×U Int}:∀{acc:U Bq},(ZC acc).Nodup->Db acc k=Z p->Fk (acc.map (ZR v)) (.tup k) (v (p.1,p.2++[x]))=(CQ acc k x).map (ZR v)
 |e::r,a,h=>by
  erw[ZC,AI,Gc]at a;unfold Db at h;by_cases c:e.1=k
  ·rw[if_pos c]at h;cases h;have b:ZM (r.map<|ZR v) (.tup k)=yA:=by
    rw[Kb,Ch.mpr<|c ▸ a.1];rfl
   erw[AI,Fk,CQ,ZR,c,if_true,gh b,KT.tup.injEq]
  ·rw[if_neg c]at h;have d:=gi v (x:=x) a.2 h;erw[AI,Fk,CQ,ZR,c,if_false,KT.tup.injEq];rw[d]
theorem gj{k:U At}{x:Int}:∀{acc:U Bq},Db acc k=yA->CQ acc k x=acc++[(k,x,[])]
 |[],_=>rfl
 |e::r,h=>by
  unfold Db at h;by_cases c:e.1=k
  ·simp[if_pos c]at h
  ·rw[if_neg c]at h;unfold CQ;rw[if_neg c,gj h];rfl
def tV(v:Int×U Int->D)(a:(ZC acc).Nodup)(h:Db acc k=Z p):Cr (acc.map (ZR v)) (.tup k) (v (p.1,p.2++[x]))=(CQ acc k x).map (ZR v):=by
 unfold Cr;rw[Kb,h];exact gi v a h
def tW(v:Int×U Int->D)(h:Db acc k=yA):Cr (acc.map (ZR v)) (.tup k) (v (x,[]))=(CQ acc k x).map (ZR v):=by
 unfold Cr;rw[Kb,h,gj h];simp[ZR]
theorem Xh(k:U At)(x:Int):∀acc:U Bq,ZC (CQ acc k x)=if k∈ZC acc then ZC acc else ZC acc++[k]
 |[]=>rfl
 |e::r=>by
  have b:=Xh k x r;unfold CQ;by_cases c:e.1=k
  ·rw[if_pos c];simp[ZC,c]
  ·rw[if_neg c];have:ZC (e::CQ r k x)=e.1::ZC (CQ r k x):=rfl;have a:ZC (e::r)=e.1::ZC r:=rfl;rw[this,b,a];by_cases m:k∈ZC r
   ·rw[if_pos m,if_pos<|A9 _ m]
   ·rw[if_neg m,if_neg (by simp[ZC,CT c]at m ⊢;exact m)];rfl
def tY(h:(ZC acc).Nodup):(ZC (CQ acc k x)).Nodup:=by
 rw[Xh];split
 ·exact h
 ·next m=>exact GH.mpr ⟨h,by simp,λa d b c=>by simp at c;subst c;exact λe=>m<|e ▸ d⟩
theorem gl(k:U At)(x:Int):∀acc:U Bq,(CQ acc k x).length<=acc.length+1
 |[]=>by simp[CQ]
 |e::r=>by
  have:=gl k x r;unfold CQ;split<;>simp<;>lia
def gm{k a:U At}(h:a∈ZC (CQ acc k x)):a=k\/a∈ZC acc:=by
 rw[Xh]at h;split at h
 ·exact .inr h
 ·rcases Dk.mp h with h|h
  ·exact .inr h
  ·simp at h;exact .inl h
def Kc:U Bq->Nat
 |[]=>0
 |e::r=>e.2.2.length+1+Kc r
theorem gn(k:U At)(x:Int):∀acc:U Bq,Kc (CQ acc k x)=Kc acc+1
 |[]=>rfl
 |e::r=>by
  have:=gn k x r;unfold CQ;split<;>simp[Kc]<;>lia
def Q9(v:Int×U Int->D)(k:U At)(acc:U Bq):Dn (.tup k) (acc.map (ZR v))=yB:=LQ k λp a=>by
 obtain⟨e,_,rfl⟩:=List.mem_map.mp a;rfl
def Ke(l:U At):Ds (Ak l)=Z (.tup l):=KQ<|.tup l
abbrev vL(p:Int×U Int):D:=.lst ((p.1::p.2).map D.int)
abbrev vC(p:Int×U Int):D:=Dj p.1 p.2
abbrev Hx(v:Int×U Int->D)(acc:U Bq):Sl:=.own (Zo (acc.map (ZR v))) .d
def Zm(r:U At×Int):D:=.tup [Ak r.1,.int r.2]
def Z3(a:U (U At×Int))(acc:U Bq):U Bq:=a.foldl (λacc r=>CQ acc r.1 r.2) acc
structure A5(acc:List Bq)(n m:Nat):Prop where
 nd:(ZC acc).Nodup
 len:acc.length<=m
 sz:Kc acc<=m
 kl:∀k∈ZC acc,k.length=n
theorem A5.add(h:A5 acc n m)(b:k.length=n)(x:Int):A5 (CQ acc k x) n (m+1):=⟨tY h.nd,by have:=gl k x acc;have:=h.len;lia,by rw[gn];have:=h.sz;lia,λd a=>by
  rcases gm a with rfl|c
  ·exact b
  ·exact h.kl _ c⟩
def A5.nil(n:Nat):A5 [] n 0:=⟨by simp[ZC],by simp,by simp[Kc],λk a=>nomatch a⟩
theorem A5.tab:∀(a:U (U At×Int)){acc:U Bq}{n m:Nat},A5 acc n m->(∀r∈a,r.1.length=n)->A5 (Z3 a acc) n (m+a.length)
 |[],_,_,_,h,_=>h
 |r::a,acc,n,m,h,b=>by
  have:=A5.tab a (h.add (b r A8) r.2) λq c=>b q<|A9 _ c;rw[Bp,show m+(a.length+1)=m+1+a.length by lia];exact this
def Z4(acc:U Bq):U D:=(ZB Ba (ZC acc)).map λk=>.tup [Ak k,vC ((Db acc k).getD (0,[]))]
def Ra(h:k∈ZB Ba (ZC acc)):∃p,Db acc k=Z p:=by
 have a:=(ZP Ba<|ZC acc).mem_iff.mp h;cases b:Db acc k with
 |some p=>exact⟨p,rfl⟩
 |none=>exact absurd a<|Ch.mp b
def gp(v:Int×U Int->D)(acc:U Bq):((acc.map (ZR v)).map λp=>kD p.1)=(ZC acc).map Ak:=by
 unfold ZC;rw[Ct,Ct];rfl
def Re(v:Int×U Int->D)(h:Db acc k=Z p):DP (.lst (Zo (acc.map (ZR v))) .d) (Ak k)=Z (v p):=by
 rw[Pe,Ke];show(if Dn (.tup k) (acc.map<|ZR v)=yB then _ else _)=_
 rw[if_pos<|Q9 v k acc,Kb,h];rfl
def Ic(a:U (U At)):U (At×D):=a.map λl=>(hd l,aD (hd l))
def DH(a:U (U At)):D:=.lst (Zo (Fm [] (Ic a))) .d
inductive A0:List (List (List At))->List At->Prop where
 |nil:A0 [] []
 |cons {ls Ls a as}:a∈ls.map hd->A0 Ls as->A0 (ls::Ls) (a::as)
def A0.len{a:U (U (U At))}(h:A0 a s):s.length=a.length:=by
 induction h with
 |nil=>rfl
 |cons _ _ b=>simp[b]
theorem tZ(a:U (U At))(h:∀l∈a,Ln l)(i:a.length<=1000):Qa [.val (LD a),.val (.int 0),.val (.int 0)]=Z (.own (Zo (Fm [] (Ic a))) .d):=by
 have j:(a.map Ak).length<=AB:=by rw[Bd];exact BX i (by ext)
 have c:(2:Nat)<=AB:=by ext
 have k:=D1 (b:=Zn 0) (e:=Vq) (ρ:=[.no,.val<|.int 0,.val<|.int 0]) Ak (λl=>D.tup [aD<|hd l,aD<|hd l]) a λl m=>⟨[.val<|Ak l,.val<|.int 0,.val<|.int 0],rfl,by
  have n:l.getD 0 .non=hd l:=by cases l<;>rfl
  have this:Jd [.val<|Ak l,.val<|.int 0]=Z (.val<|aD<|hd l):=n ▸ gg l 0 (by have:=(h l m).l4;lia);erw[Vq,Zp,Ap,AN,AG,Zb,Ay,this,AU,CH,Zh,Zy,Zu,Bp,B9,DK,if_pos c]⟩
 have f:=f9 (Ic a) [] (λ_ h=>nomatch h) (by simp[Ic];lia);unfold Ic at f;rw[Ct]at f;have g:Gh [] (a.map λl=>D.tup [aD<|hd l,aD<|hd l])=Z (Fm []<|a.map λl=>(hd l,aD<|hd l)):=f;unfold Ic;erw[Qa,AR,Bp,B9,DK,if_true,Vr,Ep,D2,CF,HV,ZG,Bj,AN,AG,Ay,Zx,Zu,if_pos j,ZK,Gv,AI,B3,EH,DG,ID,k,ZH,AU,g,IC,Zg]
theorem gr(n k:Nat)(a:k<n)(L:U (U (U At)))(b:L.length=n):atI (L.map λ_=>D.int 0) (k:Int)=Z (.int 0):=C3 (by rw[DL,Dl (by lia)];rfl)
theorem gs(L:U (U (U At))):∀(b:U (U (U At)))(k:Nat),(∀a∈b,∃p,GL a p)->k+b.length<=L.length->C4 (Cn 2 (ZI (Zn 0) (ZI (Zn 1) Cp))) (λ_=>Z yB) Qj [.no,.no,.val (AX L),.val (AX L)] (Fi k (b.map LD))=Z (b.map DH)
 |[],k,_,_=>rfl
 |a::b,k,h,e=>by
  erw[Bp]at e;have f:=gs L b (k+1) (λl c=>h l<|A9 _ c) (by lia);obtain⟨p,d⟩:=h a A8;have c:=tZ a d.ln (by have:=d.n6;lia);have g:=gr L.length k (by lia) L rfl;have i:Qj [.val<|.int (k:Int),.val<|LD a,.val<|AX L,.val<|AX L]=Z (DH a):=by
   erw[Qj,Zp,Ap,Af,AN,AG,Zd,Aq,g,Ay,Zh,AU,Zb,c,CH,DH]
  have j:Cn 2 (ZI (Zn 0)<|ZI (Zn 1) Cp) (.tup [.int (k:Int),LD a]) [.no,.no,.val<|AX L,.val<|AX L]=Z [.val<|.int (k:Int),.val<|LD a,.val<|AX L,.val<|AX L]:=rfl;rw[AI,Fi,C4,j];erw[i,f,Zb,Ay,AI]
def t0(h:CP L):Qk [.val (.lst (L.map LD)),.val (AX L),.val (AX L)]=Z (.own (L.map DH)):=by
 have hd:=gs L L 0 h.good (by lia);have a:=h.n4;have b:(Fi 0<|L.map LD).length<=AB:=by rw[TV,Bd];exact BX a (by ext)
 have c:F3 (.lst<|L.map LD)=Z (L.map LD):=rfl;erw[Qk,AR,Bp,B9,DK,if_true,VC,Ep,D2,CF,ZG,Nw,Bj,AN,AG,Ay,c,Zu,if_pos b,ZK,Gv,AI,B3,EH,DG,ID,hd,CV,Zg]
def t3{a:U (U At)}(h:(a.map hd).Nodup):((Ic a).map (·.1)).Nodup:=by
 unfold Ic;rw[Ct];exact h
def t5{a:At}(h:a∈b.map hd):DQ yC (aD a) (DH b)=Z (.bl yB):=by
 unfold DH;rw[tT];have:a∈(Ic b).map (·.1):=by unfold Ic;rw[Ct];exact h
 rw[decide_eq_true this];rfl
def t6(c:(b.map hd).Nodup){a:At}(h:a∈b.map hd):DP (DH b) (aD a)=Z (aD a):=by
 refine tR (t3 c) ?_;obtain⟨l,d,rfl⟩:=List.mem_map.mp h;exact List.mem_map.mpr ⟨l,d,rfl⟩
def t7(c:A0 b s):C4 (Cn 2 (ZI (Zn 0) (ZI (Zn 1) Cp))) (λ_=>Z yB) PQ [.no,.no] (GO (λx y=>D.tup [x,y]) (b.map DH) (s.map aD))=Z ((b.map λ_=>yB).map D.bl):=by
 induction c with|nil=>rfl|@cons d b a h e i f=>
  have g:PQ [.val<|DH d,.val<|aD a]=Z (.bl yB):=by
   have:=t5 e;erw[PQ,Zd,Af,AN,AG,Ay,AU,this]
  erw[AI,Rf,C4,Cn,ZI,Zn,Cp,Bp,B9,if_true,Bk,Bb,Ay,g,f,Zb]
def t8(h:∀b∈c,(b.map hd).Nodup)(e:A0 c s):C4 (Cn 2 (ZI (Zn 0) (ZI (Zn 1) Cp))) (λ_=>Z yB) NP [.no,.no] (GO (λx y=>D.tup [x,y]) (c.map DH) (s.map aD))=Z (s.map aD):=by
 induction e with|nil=>rfl|@cons b c a j f k d=>
  have g:NP [.val<|DH b,.val<|aD a]=Z (aD a):=by
   have:=t6 (h b A8) f;erw[NP,Zd,Af,AN,AG,Ay,AU,this]
  have d:=d λb i=>h b<|A9 _ i;erw[AI,Rf,C4,Cn,ZI,Zn,Cp,Bp,B9,if_true,Bk,Bb,Ay,g,d,Zb]
theorem ua{a:U (U (U At))}(c:A0 a s)(hz:a.length<=4):PU [.val (.lst (a.map DH)),.val (Ak s)]=Z (.val (.bl yB)):=by
 have d:=t7 c;have e:=Xf a;have q1:=ZU (GO (λx y=>D.tup [x,y]) (a.map DH) (s.map aD)) (by simp;lia);refine D3 rfl ?_;unfold Ak;generalize (a.map λ_=>yB).map D.bl=B,s.map aD=S,a.map DH=L at *;show PR [.val<|.lst L,.val<|.tup S]=_
 have b:ZK 2 [] [.val<|.lst L,.val<|.tup S]=[.no,.no]:=rfl;erw[PR,Zg,ZD,Zv,BV,pk,Zb,Zh,ZH,ZG,E3,F3,b,Bj,AN,AG,Ay,AU,q1,d,e]
def Kf(r:U At×Int):D:=.tup [Ak r.1,Dj r.2 []]
theorem ub(h:∀C∈b,(C.map hd).Nodup)(A:A0 b s)(hz:b.length<=4)(c l:Sl)(x:Int)(B:A5 acc n m)(E:m<1000):NQ [.val (.lst (b.map DH)),c,Hx vC acc,.val (Ak s),.val (Dj x []),l]=.next [.val (.lst (b.map DH)),c,Hx vC (CQ acc s x),.val (Ak s),.val (Dj x []),.val (Ak s)]:=by
 have o:=ua A hz;have G:=t8 h A;have q1:=ZU (GO (λx y=>D.tup [x,y]) (b.map DH) (s.map aD)) (by simp;lia);have H:∀x y z w,Zv Fh (λa=>Zb (Zh<|ZH<|(ZG 2 [] (E3 (λa=>Bj a 0) (λa=>Bj a 3)) (Cn 2<|ZI (Zn 0)<|ZI (Zn 1) Cp) (λ_=>Z yB) NP) a) (Z [])) [.val<|.lst<|b.map DH,x,y,.val<|Ak s,z,w]=Z (Ak s):=by
  intro x y z w;unfold Ak;generalize s.map aD=S,b.map DH=L at *;have q:ZK 2 [] [.val<|.lst L,x,y,.val<|.tup S,z,w]=[.no,.no]:=rfl;erw[Zv,Fh,BV,pk,Zb,Zh,ZH,ZG,E3,F3,q,Bj,AN,AG,Ay,AU,q1,G]
 generalize b.map DH=L at *;have hok:=Ke s;have f:=Q9 vC s acc;have g:=Kb vC s acc;have i:(acc.map<|ZR vC).length<AB:=by rw[Bd];exact Nat.lt_of_le_of_lt B.len<|CC E (by ext)
 have r:=HS<|acc.map<|ZR vC;have j:DQ yC (Ak s) (.lst (Zo<|acc.map<|ZR vC) .d)=Z (.bl (Db acc s).isSome):=by
  rw[M7,hok];show(if Dn (.tup s) (acc.map<|ZR vC)=yB then _ else _)=_
  rw[if_pos f,g,Pb];cases(Db acc s).isSome<;>rfl
 have e:∀d,MK (Z (Db acc s).isSome) ((Zp Nz<|λa=>Zb (Zh<|(Zd DP (λa=>Af a 2) (λa=>Af a 5)) a) (Zb (Ap a 4)<|some [])) [.val<|.lst L,c,Hx vC acc,.val<|Ak s,.val<|Dj x [],.val<|Ak s]) (Z<|Dj x [])=Z d->Cr (acc.map<|ZR vC) (.tup s) d=(CQ acc s x).map (ZR vC)->NQ [.val<|.lst L,c,Hx vC acc,.val<|Ak s,.val<|Dj x [],l]=.next [.val<|.lst L,c,Hx vC<|CQ acc s x,.val<|Ak s,.val<|Dj x [],.val<|Ak s]:=by
  intro d t u;unfold Hx at *;have v:=H c (.own (Zo<|acc.map<|ZR vC) .d) (.val<|Dj x []) l;generalize acc.map (ZR vC)=KV at *;generalize (CQ acc s x).map (ZR vC)=I at *;unfold NQ;have F:Z5 ((Zp PU<|λa=>Zb (Ap a 0)<|Zb (Ap a 3)<|some []) [.val<|.lst L,c,.own (Zo KV) .d,.val<|Ak s,.val<|Dj x [],l])=Z yB:=by
   erw[Zp,Zb,Ap,AN,AG,Ay,AU,o,C6,Z5]
  erw[F,ZE,Zg,v,Z8,Bk,Bb];have M:Zd (DQ yC) (λa=>Af a 5) (λa=>Af a 2) [.val<|.lst L,c,.own (Zo KV) .d,.val<|Ak s,.val<|Dj x [],.val<|Ak s]=Z (.bl (Db acc s).isSome):=by
   erw[Zd,Af,AN,AG,Ay,j]
  have N:Bn [.val<|.lst L,c,.own (Zo KV) .d,.val<|Ak s,.val<|Dj x [],.val<|Ak s] 4=Z (Dj x []):=rfl;rw[M,N];erw[AF,Ay];rw[t];erw[IV,Af,GD,AN,AG,Bk,Bb,r,hok,f,u,Bool.true_and,decide_eq_true i,if_true]
 cases k:Db acc s with
 |none=>
  rw[k]at e;exact e (vC (x,[])) rfl<|tW vC k
 |some p=>
  rw[k]at e;refine e (vC (p.1,p.2++[x])) ?_<|tV vC B.nd k;have t:=Re vC k;have u:=tN p.1 x p.2 [];unfold Hx;generalize acc.map (ZR vC)=KV at *;erw[MK,Option.isSome,Zp,Zd,Zb,Zh,Af,Ap,AN,AG,Ay,AU,t,u,C6]
theorem gu{e:U (U (U At))}(h:∀t∈e,(t.map hd).Nodup)(hz:e.length<=4)(g:Sl):∀(d:U (U At×Int))(acc:U Bq)(m:Nat)(i j f:Sl),(∀r∈d,A0 e r.1)->A5 acc e.length m->m+d.length<1000->∃k l n,Z9 (Cn 2 (ZI (Zn 3) (ZI (Zn 4) Cp))) NQ (d.map Kf) [.val (.lst (e.map DH)),g,Hx vC acc,i,j,f]=.next [.val (.lst (e.map DH)),g,Hx vC (Z3 d acc),k,l,n]
 |[],acc,m,i,j,f,_,o,_=>⟨i,j,f,rfl⟩
 |r::d,acc,m,i,j,f,p,o,u=>by
  erw[Bp]at u;have s:=p r A8;have v:=ub h s hz g f r.2 o (by lia);obtain⟨a,b,c,w⟩:=gu h hz g d (CQ acc r.1 r.2) (m+1) (.val<|Ak r.1) (.val<|Dj r.2 []) (.val<|Ak r.1) (λq x=>p q<|A9 _ x) (o.add s.len r.2) (by lia);refine⟨a,b,c,?_⟩;erw[AI,Kf,Z9,Cn,ZI,Zn,Cp,Bp,B9,if_true,Bk,Bb,Ay];rw[v];exact w
theorem ud(h:∀w∈i,(w.map hd).Nodup)(o:0<i.length)(hz:i.length<=4)(f:U (U At×Int))(s:∀r∈f,A0 i r.1)(t:f.length<64):V9 [.val (.lst (i.map DH)),.val (.lst (f.map Kf))]=Z (.own (Z4 (Z3 f []))):=by
 have ok:=A5.tab f (A5.nil i.length) λr h=>(s r h).len;rw[Ka]at ok;obtain⟨a,b,c,e⟩:=gu h hz (.val<|.lst<|f.map Kf) f [] 0 .no .no .no s (A5.nil _) (by lia);generalize Z3 f []=g at *;have m:(ZC g).length<64:=by unfold ZC;rw[Bd];have:=ok.len;lia
 have u:=Xg (.val<|.lst<|(ZC g).map Ak) (ZC g) (.inl rfl) m λl t=>by
  have:=ok.kl l t;exact⟨λz=>by rw[z]at this;simp at this;lia,by lia⟩
 rw[fT _ _ ((ZP Ba _).nodup_iff.mpr ok.nd) (λ_ e=>by cases e),<- gp vC]at u;have A:=D1 (b:=Zn 0) (e:=V8) (ρ:=[.no,.lent (Zo<|g.map<|ZR vC) .d]) Ak (λk=>.tup [Ak k,vC<|(Db g k).getD (0,[])]) (ZB Ba<|ZC g) λk B=>⟨[.val<|Ak k,.lent (Zo<|g.map<|ZR vC) .d],rfl,by
  obtain⟨p,v⟩:=Ra B;have C:=Re vC v;have q:Zu (Z [Ak k,vC p])=Z [Ak k,vC p]:=ZU _ (by simp);rw[v];erw[V8,Zb,Zh,Zy,Zd,Af,Bn,AN,AG,Ay,AU,C,q,Option.getD]⟩
 have q1:=ZU ((ZB Ba<|ZC g).map Ak) (by rw[Bd,(ZP _ _).length_eq];lia);have j:=cj<|g.map<|ZR vC;have o:Hx vC []=.own [] .d:=rfl;rw[o]at e;unfold Hx at e;unfold Z4;refine D3 rfl ?_;generalize i.map DH=L,f.map Kf=R,g.map (ZR vC)=KV,(ZB Ba<|ZC g).map Ak=W,(ZB Ba<|ZC g).map (λk=>D.tup [Ak k,vC<|(Db g k).getD (0,[])])=T at *;show QH [.val<|.lst L,.val<|.lst R,.no,.no,.no,.no]=_
 have n:∀x y z,ZK 1 [2] [.val<|.lst L,.val<|.lst R,.own (Zo KV) .d,x,y,z]=[.no,.lent (Zo KV) .d]:=λ_ _ _=>rfl;erw[QH,Zg,F0,Cb,Bj,Zx,CV,ZG,n,Ap,D9,BV,pk,Zp,Zb,Zh,ZH,AN,AG,Bk,Bb,Ay,AU,e,j,u,Hr,q1,A]
def CP.hdn(h:CP L):∀a∈L,(a.map hd).Nodup:=λa b=>by obtain⟨p,c⟩:=h.good a b;exact c.hdn
def ue(h:CP c)(a:U (U At×Int))(f:∀r∈a,A0 c r.1)(g:a.length<64):Wl [.val (.lst (c.map LD)),.val (.lst (a.map Zm)),.val (AX c)]=Z (.own (Z4 (Z3 a []))):=by
 have i:=ud h.hdn h.n1 h.n4 a f g;have j:=fN h;have k:=t0 h;have l:=D1 (b:=Cn 2<|ZI (Zn 0)<|ZI (Zn 1) Cp) (e:=Wk) (ρ:=[.no,.no]) Zm Kf a λr _=>⟨[.val<|Ak r.1,.val<|.int r.2],rfl,by
  have m:=tL (.val<|.lst [.int r.2]) r.2 []<|.inl rfl;have q:Zu (Z [Ak r.1,Dj r.2 []])=Z [Ak r.1,Dj r.2 []]:=ZU _ (by simp);have q2:Zu (Z [D.int r.2])=Z [D.int r.2]:=ZU _ (by simp);erw[Wk,Zp,Zb,Zh,Zy,ZH,Bn,AN,AG,Ay,AU,q2,m,C6,q,Kf]⟩
 have q1:=ZU (a.map Zm) (by rw[Bd];lia);generalize c.map LD=L,AX c=I,c.map DH=W,a.map Kf=C,a.map Zm=R,Z4 (Z3 a [])=T at *;refine D3 rfl ?_;show QK [.val<|.lst L,.val<|.lst R,.val I,.no]=_
 have d:ZK 2 [] [.val<|.lst L,.val<|.lst R,.val I,.no]=[.no,.no]:=rfl;erw[QK,Zg,Z8,CV,ZG,d,Bj,Zx,Ap,HJ,Zp,Zb,Zh,ZH,AN,AG,Bk,Bb,Ay,AU,q1,l,j,C6,k,Hr,i,Hc]
abbrev GS(L:U (U (U At))):KT:=.tup (L.map λ_=>At.int 0)
def Mm(L:U (U (U At))):kD (GS L)=AX L:=by
 show D.tup ((L.map λ_=>At.int 0).map aD)=_
 rw[Ct];rfl
def uf(L:U (U (U At)))(v:D):Gh [] [.tup [AX L,v]]=Z [(GS L,v)]:=by
 have a:Ds (AX L)=Z (GS L):=by rw[<- Mm];exact KQ _
 have b:0<AB:=by ext
 simp[Gh,a,b,Cr,Dn];intro z;exact absurd z (by simp[ZM])
def gv(h:CP L)(a:U (U At×Int))(c:∀r∈a,A0 L r.1)(e:a.length<64):NR [.val (.lst (L.map LD)),.val (.lst (a.map Zm)),.val (.lst [AX L])]=Z (.own [AX L,.lst (Z4 (Z3 a []))] .d):=by
 have f:=ue h a c e;generalize a.map Zm=R,Z4 (Z3 a [])=T at *;have g:(1:Nat)<=AB:=by ext
 have i:(2:Nat)<=AB:=by ext
 have j:QN [.val<|AX L,.val<|.lst<|L.map LD,.val<|.lst R]=Z (.tup [AX L,.lst T]):=by
  erw[QN,Bn,AN,AG,Zh,AU,Zp,Ap,Zb,Ay,f,CH,Zy,Zu,Bp,B9,DK,if_pos i]
 have k:C4 (Zn 0) (λ_=>Z yB) QN [.no,.val<|.lst<|L.map LD,.val<|.lst R] [AX L]=Z [.tup [AX L,.lst T]]:=by
  erw[C4,Zn,Bb,j,Zb,Ay]
 have l:=uf L<|.lst T;have b:Zo [(GS L,D.lst T)]=[AX L,.lst T]:=by
  show [kD<|GS L,D.lst T]=_
  rw[Mm]
 erw[NR,AR,Bp,B9,DK,if_true,Wq,Ep,D2,CF,HV,ZG,Bj,AN,AG,Ay,Zx,Zu,if_pos g,ZK,Gv,AI,B3,EH,DG,ID,k,ZH,AU,l,b,IC,Zg]
abbrev Fn:U Ae:=["axes","standing","tables"]
abbrev kB:Kd:=.i Fn "Book"
abbrev DT(L:U (U (U At)))(T:U D):D:=.lst [AX L,.lst T] .d
abbrev Ck(L:U (U (U At)))(R T:U D):U D:=[.lst (L.map LD),.lst R,DT L T]
abbrev BD(L:U (U (U At)))(R T:U D):D:=.lst (Ck L R T) kB
abbrev BL(L:U (U (U At)))(R T:U D):Sl:=.lent (Ck L R T) kB
def ug:(("standing":Ae)=="axes")=yC:=by decide +kernel
def uh:(("tables":Ae)=="axes")=yC:=by decide +kernel
def ui:(("tables":Ae)=="standing")=yC:=by decide +kernel
def Ob{R T:U D}:DF "Book" "axes" (BD L R T)=Z (.lst (L.map LD)):=by
 erw[DF,if_true,G6,HH,beq_self_eq_true]
def Xi{R T:U D}:DF "Book" "standing" (BD L R T)=Z (.lst R):=by
 erw[DF,if_true,G6,HH,ug,beq_self_eq_true]
def Oc{R T:U D}:DF "Book" "tables" (BD L R T)=Z (DT L T):=by
 erw[DF,if_true,G6,HH,uh,ui,beq_self_eq_true]
def Rg(L:U (U (U At)))(T:U D):([AX L,.lst T]:U D)=Zo [(GS L,D.lst T)]:=by
 show _=[kD<|GS L,D.lst T]
 rw[Mm]
def gw(L:U (U (U At)))(v:D):Dn (GS L) [(GS L,v)]=yB:=by simp[Dn]
def gx(L:U (U (U At)))(v:D):ZM [(GS L,v)] (GS L)=Z v:=by simp[ZM]
def gy(L:U (U (U At))):Ds (AX L)=Z (GS L):=by rw[<- Mm];exact KQ _
def uj(L:U (U (U At)))(T:U D):DQ yC (AX L) (DT L T)=Z (.bl yB):=by
 unfold DT;rw[Rg,M7,gy];erw[Ay,gw,if_true,gx];rfl
def Xj(L:U (U (U At)))(T:U D):DP (DT L T) (AX L)=Z (.lst T):=by
 unfold DT;rw[Rg,Pe,gy];erw[Ay,gw,if_true,gx]
def gz(L:U (U (U At)))(T:U D):L5 (Z (DT L T))=Z [AX L]:=by
 unfold DT;rw[Rg];erw[L5,HS,Ay,Bp,B9,if_true,AI,B3,Mm]
def uk(h:CP L)(R T:U D):NA [BL L R T]=Z (.own (L.map LD)):=by
 have a:(L.map LD).length<=AB:=by rw[Bd];exact BX h.n4 (by ext)
 have c:=D1 (b:=Zn 0) (e:=dy) (ρ:=[.no]) LD LD L λd _=>⟨[.val<|LD d],rfl,rfl⟩;have f:=Ob (L:=L) (R:=R) (T:=T);erw[NA,AR,Bp,B9,DK,if_true,U4,Ep,D2,CF,ZG,Af,AG,Ay,f,Zx,Zu,if_pos a,ZK,Gv,B3,c,CV,Zg]
def ul(h:CP L)(R T:U D):NB [BL L R T]=Z (ZS L):=by
 have b:(L.map LD).length<=AB:=by rw[Bd];exact BX h.n4 (by ext)
 have a:=Q5 (C:=dz) (λz=>rfl) (ZS L) (W8 L);rw[Oa]at a;have c:=Ob (L:=L) (R:=R) (T:=T);erw[NB,Nm,Bp,B9,DK,if_true,Ep,D2,CF,Gm,AI,B3,EN,Af,AG,Ay,c,Zx,Zu,if_pos b,ZK,Gv,a]
def gA(R T:U D)(c:R.length<=1000000):K6 [BL L R T]=Z (.own R):=by
 have a:=Xi (L:=L) (R:=R) (T:=T);have b:Fg [.lst R]=Z R:=rfl;erw[K6,AR,Bp,B9,DK,if_true,U5,Ep,D2,CF,D9,Af,AG,Ay,a,Zh,AU,Zb,BV,pk,b,CV,Zg]
def um(L:U (U (U At)))(R T:U D):NC [BL L R T]=Z (.own [AX L]):=by
 have a:=Oc (L:=L) (R:=R) (T:=T);have b:=gz L T;erw[NC,AR,Bp,B9,DK,if_true,U6,Ep,D2,CF,Af,AG,Ay,a,b,CV,Zg]
def uo{a:U (U At)}(h:GL a p):Qb [.val (LD a),.val (.int 0)]=Z (.val (.bl yB)):=by
 have b:=WQ (.int 0) trivial;have c:=h.n1;have e:∃n:Nat,PM [.val<|LD a]=Z (.val<|.int (n:Int)):=by
  cases a with|nil=>simp at c|cons l a=>
   refine⟨(l.map aD).length,?_⟩;have d:atI ((l::a).map Ak) 0=Z (Ak l):=C3 rfl;have f:ZQ [Ak l]=Z (.int ((l.map aD).length:Int)):=rfl;erw[PM,AR,Bp,B9,DK,if_true,UU,Ep,D2,CF,Zv,Zd,Af,AG,Ay,Aq,d,Zh,AU,Zb,BV,pk,f,ZD,Zg]
 obtain⟨n,g⟩:=e;have i:(0:Int)<=(n:Int):=by lia
 simp[Qb,AR,Vs,b,g,Gr,i]
def uq(h:CP L):Qi [.val (.lst (L.map LD)),.val (AX L)]=Z (.val (.bl yB)):=by
 have i:(GO (λx y=>D.tup [x,y]) (L.map LD) (L.map λ_=>D.int 0))=L.map λc=>D.tup [LD c,.int 0]:=by
  rw[List.zipWith_map];induction L with
  |nil=>rfl
  |cons a L n=>simp
 have g:=D1 (b:=Cn 2<|ZI (Zn 0)<|ZI (Zn 1) Cp) (e:=VA) (ρ:=[.no,.no]) (λc=>D.tup [LD c,.int 0]) (λ_=>D.bl yB) L λc j=>⟨[.val<|LD c,.val<|.int 0],rfl,by
  obtain⟨p,k⟩:=h.good c j;erw[VA,Zp,Ap,AN,AG,Zb,Ay,uo k,AU,CH]⟩
 have q:(L.map λc=>D.tup [LD c,.int 0]).length<=AB:=by rw[Bd];exact BX h.n4 (by ext)
 have l:L.map (λ_=>D.bl yB)=(L.map λ_=>yB).map D.bl:=by rw[Ct];rfl
 rw[l]at g;have m:(L.map λ_=>yB).all id=yB:=by simp
 have d:(L.map λ_=>yB).all (λx=>x)=yB:=by simp
 have f:L.length<=AB:=BX h.n4 (by ext);simp[Qi,AR,VB,E3,i,f,ZK,g,-Ct,m,d,Function.comp]
def ur(h:CP L)(R T:U D):QD [BL L R T,.val (AX L)]=Z (.val (.bl yB)):=by
 have a:=uq h;have b:=Ob (L:=L) (R:=R) (T:=T);have c:=Oc (L:=L) (R:=R) (T:=T);have d:=uj L T;erw[QD,AR,Bp,B9,DK,if_true,V1,Ep,D2,CF,Zp,Bn,Ap,Af,AN,AG,Ay,b,Zh,AU,Zb,a,CH,AF,Zd,c,d,B4,Dq,ZD,Zg]
def ut:Fn.contains "is_kept"=yC:=by decide +kernel
def gB(h:CP L)(R T:U D):La [BL L R T,.val (AX L)]=Z (.own T):=by
 have a:=ur h R T;have b:=Oc (L:=L) (R:=R) (T:=T);have c:=Xj L T;have d:Z5 (Z<|.bl yB)=Z yB:=rfl;have e:FH "Book" "is_kept" (BL L R T)=yB:=by erw[FH,ut];simp
 have f:Fg [.lst T]=Z T:=rfl;erw[La,AR,Bp,B9,DK,if_true,V3,Ep,D2,CF,EL,Bn,Ap,Af,AN,AG,e,EG,if_false,Ay,Zb,a,AU,CH,d,ZW,C8,ZE,Zg,D9,Zd,b,c,Zh,BV,pk,f,CV]
def uu:Z4 (Z3 [] [])=[]:=rfl
theorem uv(h:CP L)(a:Ac):NS [] (.own [] (.i [] "Book") (Z a)) [.deep (ZS L)]=Z (Ck L [] [],kB,.non):=by
 have g:=h.al;have d:((ZS L).map λz=>D.lst z).length<=AB:=by rw[Bd,Bd];exact BX h.n4 (by ext)
 have c:=Q5 (C:=Ws) (λz=>rfl) (ZS L) (W8 L);rw[Oa]at d c;have j:=fN h;have f:=gv h [] (λ_ h=>nomatch h) (by ext);rw[uu,B3]at f;have b:=Oa L;have k:Z5 (Z<|.bl yB)=Z yB:=rfl;have G:(0:Nat)<=AB:=E7 _;have l:(1:Nat)<=AB:=by ext
 have m:DF "Book" "axes" (.lst [.lst<|L.map LD,.lst []]<|.i ["axes","standing"] "Book")=Z (.lst<|L.map LD):=by
  erw[DF,if_true,G6,HH,beq_self_eq_true]
 have n:L2.putN "axes" []=(["axes"]:U Ae):=rfl;have o:L2.putN "standing" ["axes"]=(["axes","standing"]:U Ae):=by decide +kernel
 have p:L2.putN "tables" ["axes","standing"]=(["axes","standing","tables"]:U Ae):=by decide +kernel
 have q:∀y:D,EM "axes" y [] []=[y]:=λ_=>rfl;have n1:¬ ("axes":Ae)="standing":=by decide +kernel
 have n2:¬ ("axes":Ae)="tables":=by decide +kernel
 have n3:¬ ("standing":Ae)="tables":=by decide +kernel
 have r:∀x y:D,EM "standing" y ["axes"] [x]=[x,y]:=λx y=>by erw[EM,if_neg n1]
 have s:∀x y z:D,EM "tables" z ["axes","standing"] [x,y]=[x,y,z]:=λx y z=>by erw[EM,if_neg n2,if_neg n3]
 have t:Ww [.own [] (.i [] "Book")<|some a,.deep<|ZS L]=.next [.own [] (.i [] "Book")<|some a,.deep<|ZS L]:=by
  erw[Ww,AI,B3,EN,b,Zp,Ap,AN,AG,Zb,Ay,g,AU,CH,k,ZW,C8,ZE]
 have u:Wv [.own [] (.i [] "Book")<|some a,.deep<|ZS L]=.next [.own [.lst<|L.map LD] (.i ["axes"] "Book")<|some a,.deep<|ZS L]:=by
  have:Gm 1 [] (λv=>(Bj v 1).bind Zx) (Zn 0) Ws [.own [] (.i [] "Book")<|some a,.deep<|ZS L]=Z (ZS L):=by
   erw[Gm,AI,B3,EN,Bj,AN,AG,Ay,b,Zx,Zu,if_pos d,ZK,Gv,D2,EH,DG,c]
  erw[Wv,this,AU,b,GK,AG,q,n,Bb];rfl
 have w:Wu [.own [.lst<|L.map LD] (.i ["axes"] "Book")<|some a,.deep<|ZS L]=.next [.own [.lst<|L.map LD,.lst []] (.i ["axes","standing"] "Book")<|some a,.deep<|ZS L]:=by
  have e:ZH (Zu<|(Z ([]:U Sl)).bind Zy)=Z (.lst []):=rfl;erw[Wu,e,GK,AG,r,o,Bb];rfl
 have A:Wt [.own [.lst<|L.map LD,.lst []] (.i ["axes","standing"] "Book")<|some a,.deep<|ZS L]=.next [.own (Ck L [] []) kB<|some a,.deep<|ZS L]:=by
  have e:ZH (Zu<|(Z ([]:U Sl)).bind Zy)=Z (.lst []):=rfl;have B:Zu (Z [AX L])=Z [AX L]:=by erw[Zu,Ay,Bp,B9,DK,if_pos l]
  have E:Zu (Z ([]:U D))=Z []:=rfl;unfold Wt;erw[Zp,Af,AG,Ay,m,Zh,AU,Zb,j,CH,Zy,B,E,ZH,f,GK,s,p,Bb];rfl
 erw[NS,E1,Bp,B9,DK,if_true,Ep,D2,CF,DG,Wx,En,t,u,w,A,EZ,AG]
theorem Rh{a:Type}[DecidableEq a]:∀(l A:U a),l.Nodup->(∀x∈l,x∈A)->l.length<=A.length
 |[],_,_,_=>E7 _
 |x::l,A,h,b=>by
  obtain⟨f,g⟩:=Gc.mp h;have c:=b x A8;have i:=Rh l (A.erase x) g λy d=>(List.mem_erase_of_ne (show y≠x from λe=>f (by rw[<- e];exact d))).mpr (b y<|A9 _ d);have:=List.length_erase_of_mem c;have:=List.length_pos_of_mem c;erw[Bp];lia
theorem Rj{c:Type}{b:D->VE->O VE}{t:VE->O Bool}{e:VE->O D}{ρ:VE}(G F:c->D)(p:c->Bool):∀xs:U c,(∀x∈xs,∃a,b (G x) ρ=Z a/\t a=Z (p x)/\e a=Z (F x))->C4 b t e ρ (xs.map G)=Z ((xs.filter p).map F)
 |[],_=>rfl
 |x::xs,h=>by
  obtain⟨a,g,i,j⟩:=h x A8;have d:=Rj G F p xs λy k=>h y<|A9 _ k;erw[AI,C4,g,i];cases f:p x with
  |true=>erw[j,d,Zb,Ay,List.filter_cons,f,if_true,AI]
  |false=>erw[d,List.filter_cons,f,EG,if_false]
abbrev KE:=U At×D
def FO(e:KE):D:=.tup [Ak e.1,e.2]
def B5(es:U KE):BE:=es.map λe=>(.tup e.1,e.2)
def Xk(es:U KE):∀p∈B5 es,El p.1=yC:=λp a=>by
 obtain⟨e,_,rfl⟩:=List.mem_map.mp a;rfl
theorem Rk:∀(es:U KE)(k:U At),(ZM (B5 es) (.tup k)).isSome=decide (k∈es.map (·.1))
 |[],k=>rfl
 |e::r,k=>by
  have a:=Rk r k;erw[B5,AI,ZM,KT.tup.injEq]at a ⊢;by_cases h:e.1=k
  ·simp[h]
  ·have b:¬ k=e.1:=λz=>h z.symm;rw[if_neg h,a];simp[b]
def gC{es:U KE}(h:∀e∈es,AT 12 e.2=yB)(e:ZM (B5 es) (.tup k)=Z d):AT 12 d=yB:=by
 induction es with|nil=>cases e|cons x r a=>
  erw[B5,AI,ZM,KT.tup.injEq]at e;by_cases c:x.1=k
  ·rw[if_pos c]at e;cases e;exact h x A8
  ·rw[if_neg c]at e;exact a (λy b=>h y<|A9 _ b) e
theorem Xl:∀(es a:U KE),((a++es).map (·.1)).Nodup->a.length+es.length<=100000->Gh (B5 a) (es.map FO)=Z (B5 (a++es))
 |[],a,_,_=>by rw[CF];rfl
 |e::r,a,b,g=>by
  erw[Bp]at g;have h:(B5 a).length<AB:=by
   unfold B5;rw[Bd];exact CC (show a.length<100000 by lia) (by ext)
  have i:ZM (B5 a) (.tup e.1)=yA:=by
   have:=Rk a e.1;have c:e.1∉a.map (·.1):=λc=>by
    rw[Fj,AI]at b;exact(GH.mp b).2.2 _ c _ A8 rfl
   rw[decide_eq_false c]at this;cases j:ZM (B5 a) (.tup e.1)with
   |none=>rfl
   |some d=>simp[j]at this
  have k:Cr (B5 a) (.tup e.1) e.2=B5 (a++[e]):=by
   unfold Cr;rw[i];simp[B5]
  have l:=Xl r (a++[e]) (by rw[JZ];exact b) (by simp;lia);have hok:=Ke e.1;have f:=LQ e.1<|Xk a;erw[AI,FO,Gh,hok,f,h,decide_true,Ec,if_true,k];rw[show a++e::r=a++[e]++r by simp];exact l
def gD(es:U KE):((B5 es).map λp=>kD p.1)=(es.map (·.1)).map Ak:=by
 unfold B5;rw[Ct,Ct];rfl
theorem uw(c f:U KE)(n1:(c.map (·.1)).Nodup)(n2:(f.map (·.1)).Nodup)(M:∀e∈c,AT 12 e.2=yB)(N:∀e∈f,AT 12 e.2=yB)(A:U (U At))(a1:∀e∈c,e.1∈A)(a2:∀e∈f,e.1∈A)(hA:A.length<64)(g:∀k∈A,k≠[]/\k.length<=1000):∃ys:U (U At),Wg [.val (.lst (c.map FO)),.val (.lst (f.map FO))]=Z (.own (ys.map Ak))/\ys.length<64:=by
 have K:=Rh _ A n1 λk g=>by obtain⟨e,q,rfl⟩:=List.mem_map.mp g;exact a1 e q
 have Q:=Rh _ A n2 λk g=>by obtain⟨e,q,rfl⟩:=List.mem_map.mp g;exact a2 e q
 rw[Bd]at K Q;have z:=Xl c [] (by simpa using n1) (by simp;lia);have B:=Xl f [] (by simpa using n2) (by simp;lia);rw[DG]at z B;have q1:=gD c;have q2:=gD f;have I:=Rk c;have v2:=Rk f;have T:=λk d=>gC M (k:=k) (d:=d);have P:=λk d=>gC N (k:=k) (d:=d);have F:=Xk c;have Y:=Xk f;let p:U At->Bool:=λk=>!AE ((ZM (B5 f)<|.tup k).getD .non) ((ZM (B5 c)<|.tup k).getD .non);let r:U At->Bool:=λk=>!decide (k∈c.map (·.1));have c1:=Rj (b:=Zn 0) (t:=Wa) (e:=eS) (ρ:=[.no,.lent (Zo<|B5 f) .d,.val<|.lst (Zo<|B5 c) .d]) Ak Ak p (c.map (·.1)) λk g=>⟨[.val<|Ak k,.lent (Zo<|B5 f) .d,.val<|.lst (Zo<|B5 c) .d],rfl,by
  have v:Dn (.tup k) (B5 c)=yB:=LQ k F;have y:Dn (.tup k) (B5 f)=yB:=LQ k Y;have hs:(ZM (B5 c)<|.tup k).isSome=yB:=by rw[I,decide_eq_true g]
  obtain⟨d,hd⟩:=Option.isSome_iff_exists.mp hs;have hok:=Ke k;have C:=T k d hd;have E:AT 12 ((ZM (B5 f)<|.tup k).getD .non)=yB:=by
   cases hh:ZM (B5 f) (.tup k)with
   |none=>rfl
   |some x=>exact P k x hh
  have G:Np (.lst (Zo<|B5 f) .d) (Ak k)=Z ((ZM (B5 f)<|.tup k).getD .non):=by
   erw[Np,HS,hok,y,if_true]
  have e2:DP (.lst (Zo<|B5 c) .d) (Ak k)=Z d:=by
   rw[Pe,hok];erw[Ay,v,if_true,hd]
  have hp:p k=!AE ((ZM (B5 f)<|.tup k).getD .non) d:=by show(!AE _ ((ZM (B5 c)<|.tup k).getD .non))=_;rw[hd];rfl
  rw[hp];generalize (ZM (B5 f)<|.tup k).getD .non=x at *;refine⟨?_,rfl⟩;erw[Wa,Zd,Af,AN,AG,Ay,G,e2,Bz,E4,C,E,Ec,if_true,AF]⟩
 have c2:=Rj (b:=Zn 0) (t:=Wb) (e:=eT) (ρ:=[.no,.val<|.lst (Zo<|B5 c) .d]) Ak Ak r (f.map (·.1)) λk g=>⟨[.val<|Ak k,.val<|.lst (Zo<|B5 c) .d],rfl,by
  have v:Dn (.tup k) (B5 c)=yB:=LQ k F;have hok:=Ke k;refine⟨?_,rfl⟩;have G:DQ yB (Ak k) (.lst (Zo<|B5 c) .d)=Z (.bl<|r k):=by
   rw[M7,hok];erw[Ay,v,if_true,I];show Z (D.bl<|true != decide (k∈c.map (·.1)))=Z (D.bl<|!decide (k∈c.map (·.1)))
   rw[Bool.true_bne]
  erw[Wb,Zd,Af,AN,AG,Ay,G,AF]⟩
 have m1:∀k∈c.map (·.1),k∈A:=λk g=>by obtain⟨e,q,rfl⟩:=List.mem_map.mp g;exact a1 e q
 have m2:∀k∈f.map (·.1),k∈A:=λk g=>by obtain⟨e,q,rfl⟩:=List.mem_map.mp g;exact a2 e q
 have w:((c.map (·.1)).filter p++(f.map (·.1)).filter r).Nodup:=GH.mpr ⟨n1.sublist List.filter_sublist,n2.sublist List.filter_sublist,λa H b hb e=>by
  subst e;have v:=(List.mem_filter.mp H).1;have y:=(List.mem_filter.mp hb).2;erw[r,decide_eq_true v]at y;cases y⟩
 have o:∀k∈(c.map (·.1)).filter p++(f.map (·.1)).filter r,k∈A:=λk g=>by
  rcases Dk.mp g with h|h
  ·exact m1 k (List.mem_filter.mp h).1
  ·exact m2 k (List.mem_filter.mp h).1
 have L:=Rh _ A w o;have l1:((c.map (·.1)).filter p).length<=c.length:=BX (List.length_filter_le _ _) (by rw[Bd];exact Bl _);have l2:((f.map (·.1)).filter r).length<=f.length:=BX (List.length_filter_le _ _) (by rw[Bd];exact Bl _);generalize (f.map (·.1)).filter r=u,(c.map (·.1)).filter p=n at *;have hi:=Xg (.val<|.lst<|(n++u).map Ak) (n++u) (.inl rfl) (by lia) λl hl=>g l<|o l hl;refine⟨Dx yA<|ZB Ba<|n++u,?_,Nat.lt_of_le_of_lt (Q7 _ _) (by rw[(ZP Ba _).length_eq];lia)⟩;generalize Dx yA (ZB Ba<|n++u)=R at *;have H:BS (.lst<|n.map Ak) (.lst<|u.map Ak)=Z (.lst<|(n++u).map Ak):=by
  rw[dt _ _ (by simp;lia),Fj]
 have s1:=ZU ((c.map (·.1)).map Ak) (by simp;lia);have s2:=ZU ((f.map (·.1)).map Ak) (by simp;lia);have C:EQ (.lst (Zo<|B5 c) .d)=Z ((c.map (·.1)).map Ak):=by erw[EQ,HS,AU,q1]
 have E:EQ (.lst (Zo<|B5 f) .d)=Z ((f.map (·.1)).map Ak):=by erw[EQ,HS,AU,q2]
 have h0:B5 []=[]:=rfl;rw[h0]at z B;generalize f.map FO=i,c.map FO=j,B5 f=s,B5 c=m,(f.map (·.1)).map Ak=W2,(c.map (·.1)).map Ak=W1 at *;refine D3 rfl ?_;show QI [.val<|.lst j,.val<|.lst i,.no,.no,.no]=_
 have i1:ZK 1 [3,2] [.val<|.lst j,.val<|.lst i,.val<|.lst (Zo m) .d,.own (Zo s) .d,.no]=[.no,.lent (Zo s) .d,.val<|.lst (Zo m) .d]:=rfl;have i2:ZK 1 [2] [.val<|.lst j,.val<|.lst i,.val<|.lst (Zo m) .d,.val<|.lst (Zo s) .d,.own<|n.map Ak]=[.no,.val<|.lst (Zo m) .d]:=rfl;have z0:Wc [.val<|.lst j,.val<|.lst i,.no,.no,.no]=.next [.val<|.lst j,.val<|.lst i,.own (Zo m) .d,.no,.no]:=by
  erw[Wc,HV,Af,AG,Ay,Zx,z,AU,F0,Bk,Bb]
 have z1:Wd [.val<|.lst j,.val<|.lst i,.own (Zo m) .d,.no,.no]=.next [.val<|.lst j,.val<|.lst i,.own (Zo m) .d,.own (Zo s) .d,.no]:=by
  erw[Wd,HV,Af,AN,AG,Ay,Zx,B,AU,F0,Bk,Bb]
 have z2:We [.val<|.lst j,.val<|.lst i,.own (Zo m) .d,.own (Zo s) .d,.no]=.next [.val<|.lst j,.val<|.lst i,.val<|.lst (Zo m) .d,.own (Zo s) .d,.own<|n.map Ak]:=by
  erw[We,GF,AN,AG,Bk,Bb,ZG,i1,Bj,Ay,C,s1,c1,CW]
 have z3:Wf [.val<|.lst j,.val<|.lst i,.val<|.lst (Zo m) .d,.own (Zo s) .d,.own<|n.map Ak]=.ret (.own<|R.map Ak):=by
  erw[Wf,GF,AN,AG,Bk,Bb,Zd,Af,ZG,i2,Bj,Ay,E,s2,c2,ZH,AU,H,Zh,Zb,HJ,hi,Hc,CV]
 erw[QI,eX,eW,eV,eU,z0,z1,z2,z3,Zg]
def Ie(acc:U Bq):U KE:=(ZB Ba (ZC acc)).map λk=>(k,vC ((Db acc k).getD (0,[])))
def gE(acc:U Bq):Z4 acc=(Ie acc).map FO:=by
 unfold Z4 Ie;rw[Ct];rfl
def Rl(acc:U Bq):(Ie acc).map (·.1)=ZB Ba (ZC acc):=by
 unfold Ie;rw[Ct];exact List.map_id _
def gF(x:Int)(xs:U Int):AT 12 (Dj x xs)=yB:=rfl
def gG(acc:U Bq):∀e∈Ie acc,AT 12 e.2=yB:=λe a=>by
 obtain⟨k,_,rfl⟩:=List.mem_map.mp a;exact gF _ _
def ux(L:U (U (U At)))(a c:U KE)(n1:(a.map (·.1)).Nodup)(n2:(c.map (·.1)).Nodup)(h:∀e∈a,AT 12 e.2=yB)(i:∀e∈c,AT 12 e.2=yB)(A:U (U At))(a1:∀e∈a,e.1∈A)(a2:∀e∈c,e.1∈A)(j:A.length<64)(l:∀k∈A,k≠[]/\k.length<=1000):∃ys:U D,Wo [.val (DT L (a.map FO)),.val (DT L (c.map FO))]=Z (.own ys):=by
 obtain⟨ys,e,u⟩:=uw a c n1 n2 h i A a1 a2 j l;generalize c.map FO=f,a.map FO=d at *;have m:=D1 (b:=Zn 0) (e:=Wm) (ρ:=[.no,.val<|AX L]) Ak (λk=>D.tup [AX L,Ak k]) ys λk _=>⟨[.val<|Ak k,.val<|AX L],rfl,by
  have q:Zu (Z [AX L,Ak k])=Z [AX L,Ak k]:=ZU _ (by simp);erw[Wm,Bn,AN,AG,Zh,AU,Zb,Ay,Zy,q]⟩
 have n:=gz L d;have o:=Xj L d;have p:=Xj L f;have q1:=ZU (ys.map Ak) (by simp;lia);have r:([]:U D).length+(ys.map λk=>D.tup [AX L,Ak k]).length<=AB:=by
  erw[B9,Bd,Ka];exact BX (show ys.length<=1000 by lia) (by ext)
 refine⟨ys.map λk=>D.tup [AX L,Ak k],?_⟩;generalize (ys.map λk=>D.tup [AX L,Ak k])=Y at *;have g:ZK 1 [3] [.val<|DT L d,.val<|DT L f,.own [],.val<|AX L]=[.no,.val<|AX L]:=rfl;have s:Wn [.val<|DT L d,.val<|DT L f,.own [],.val<|AX L]=.next [.val<|DT L d,.val<|DT L f,.own Y,.val<|AX L]:=by
  erw[Wn,ZG,g,Zp,Zd,Af,AN,AG,Ay,o,p,Zh,AU,Zb,e,Hr,Zx,q1,m,LJ,DC,if_pos r,DG,Bk,Bb,Zg]
 have t:Zu (Zy [])=Z []:=rfl;refine D3 rfl ?_;show QL [.val<|DT L d,.val<|DT L f,.no,.no]=_
 erw[QL,CW,t,Zg,Cb,Af,AN,AG,n,ZH,AU,Ay,Zx,Z9,Zn,Bk,Bb,s,DC,CV]
theorem uy(h:CP L)(b:U (U At×Int))(n:∀r∈b,A0 L r.1)(s:b.length<64)(c:U KE)(n1:(c.map (·.1)).Nodup)(t:∀e∈c,AT 12 e.2=yB)(A:U (U At))(a1:∀e∈c,e.1∈A)(a2:∀r∈b,r.1∈A)(u:A.length<64)(i:∀k∈A,A0 L k):∃ys:U D,∀a:Ac,NT [] (.own (Ck L (b.map Zm) (c.map FO)) kB (Z a)) []=Z (Ck L (b.map Zm) (Z4 (Z3 b [])),kB,.lst ys):=by
 have ok:=A5.tab b (A5.nil L.length) λr h=>(n r h).len;have n2:((Ie<|Z3 b []).map (·.1)).Nodup:=by rw[Rl];exact(ZP Ba _).nodup_iff.mpr ok.nd
 have g:∀(b:U (U At×Int)) (d:U Bq),∀k∈ZC (Z3 b d),k∈ZC d\/∃r∈b,k=r.1:=by
  intro b;induction b with|nil=>exact λd k i=>.inl i|cons r b v=>
   intro d k i;rcases v (CQ d r.1 r.2) k i with h|⟨q,B,e⟩
   ·rcases gm h with h|h
    ·exact .inr ⟨r,A8,h⟩
    ·exact .inl h
   ·exact .inr ⟨q,A9 _ B,e⟩
 obtain⟨ys,e⟩:=ux L c (Ie<|Z3 b []) n1 n2 t (gG _) A a1 (λe C=>by
  have o:e.1∈(Ie<|Z3 b []).map (·.1):=Gq C;rw[Rl]at o;rcases g b [] e.1 ((ZP Ba _).mem_iff.mp o)with h|⟨r,j,E⟩
  ·exact nomatch h
  ·rw[E];exact a2 r j) u λk l=>by
   have:=(i k l).len;have Q:=h.n1;have P:=h.n4;exact⟨λz=>by rw[z]at this;simp at this;lia,by lia⟩
 rw[<- gE]at e;refine⟨ys,λa=>?_⟩;have G:=gv h b n s;generalize b.map Zm=R,c.map FO=f,Z4 (Z3 b [])=p at *;have l1:=Oc (L:=L) (R:=R) (T:=f);have H:=Oc (L:=L) (R:=R) (T:=p);have I:=Ob (L:=L) (R:=R) (T:=f);have l4:=Xi (L:=L) (R:=R) (T:=f);have m:KW [DT L f]=Z [AX L]:=by
  unfold DT;rw[Rg,cj];erw[AI,B3,Mm]
 have n1:¬ ("axes":Ae)="tables":=by decide +kernel
 have n3:¬ ("standing":Ae)="tables":=by decide +kernel
 have F:L2.putN "tables" Fn=Fn:=by decide +kernel
 have M:∀x y z w:D,EM "tables" z Fn [x,y,w]=[x,y,z]:=λx y z w=>by erw[EM,if_neg n1,if_neg n3,if_true]
 have N:Wz [.own (Ck L R f) kB<|some a,.no]=.next [.own (Ck L R f) kB<|some a,.val<|DT L f]:=by
  erw[Wz,Af,AG,Ay,l1,Z8,Bk,Bb]
 have K:Wy [.own (Ck L R f) kB<|some a,.val<|DT L f]=.next [.own (Ck L R p) kB<|some a,.val<|DT L f]:=by
  unfold Wy;erw[Zp,Af,Ap,AN,AG,Ay,I,l4,Zh,AU,Zb,D9,BV,pk,m,ZH,G,Hr,GK,M,F,Bb];rfl
 erw[NT,E1,Bp,B9,DK,Ka,if_true,Ep,Gv,D2,CF,DG,EH,WA,En,N,K,Zp,Ap,Af,AN,AG,Ay,H,Zh,AU,Zb,e,Hr,EZ]
theorem uz(c:U At)(n:c≠[])(f:c.length<64):∃g:U D,V7 [.val (.lst (c.map aD))]=Z (.own g)/\0<g.length/\g.length<64:=by
 have m:=D1 (b:=Zn 0) (e:=V5) (ρ:=[.no]) aD (λa=>Ak [a]) c λa _=>⟨[.val<|aD a],rfl,by
  have q:Zu (Z [aD a])=Z [aD a]:=ZU _ (by simp);erw[V5,Bn,AG,Zh,AU,Zb,Ay,Zy,q];rfl⟩
 have p:c.map (λa=>Ak [a])=(c.map λa=>[a]).map Ak:=by rw[Ct];rfl
 rw[p]at m;have s:=Xg (.val<|.lst<|(c.map λa=>[a]).map Ak) (c.map λa=>[a]) (.inl rfl) (by simpa using f) λl f=>by
  obtain⟨a,_,rfl⟩:=List.mem_map.mp f;exact⟨by simp,by simp⟩
 have t:∀k∈Dx yA (ZB Ba<|c.map λa=>[a]),∃a,k=[a]:=λk h=>by
  have:=(ZP Ba _).mem_iff.mp<|(fU _ k).mp h;obtain⟨a,_,rfl⟩:=List.mem_map.mp this;exact⟨a,rfl⟩
 have d:0<(Dx yA<|ZB Ba<|c.map λa=>[a]).length:=by
  cases c with
  |nil=>exact absurd rfl n
  |cons a r=>exact List.length_pos_of_mem<|(fU _ [a]).mpr<|(ZP Ba _).mem_iff.mpr<|List.mem_map.mpr ⟨a,A8,rfl⟩
 have i:(Dx yA<|ZB Ba<|c.map λa=>[a]).length<64:=Nat.lt_of_le_of_lt (Q7 _ _) (by rw[(ZP Ba _).length_eq,Bd];exact f);generalize Dx yA (ZB Ba<|c.map λa=>[a])=I at *;have u:=D1 (b:=Zn 0) (e:=V6) (ρ:=[.no]) Ak (λk=>aD<|hd k) I λk h=>⟨[.val<|Ak k],rfl,by
  obtain⟨a,rfl⟩:=t k h;have:Aq (Ak [a]) (.int 0)=Z (aD a):=ge (aD a) [];erw[V6,Zd,Af,AG,Ay,this];rfl⟩
 have q1:=ZU (c.map aD) (by simp;lia);have q2:=ZU (I.map Ak) (by simp;lia);refine⟨I.map λk=>aD<|hd k,?_,by simpa using d,by simpa using i⟩;generalize c.map aD=M,(c.map λa=>[a]).map Ak=V,I.map Ak=W,(I.map λk=>aD<|hd k)=Y at *;refine D3 rfl ?_;show QG [.val<|.lst M]=_
 have j:ZK 1 [] [.val<|.lst M]=[.no]:=rfl;erw[QG,ZG,j,Zp,Bj,AG,Ay,Zx,q1,m,ZH,AU,Zh,Zb,s,Hr,q2,u,CV,Zg]
def uA(h:Ln l):Jd [.val (Ak l),.val (.int 0)]=Z (.val (aD (hd l))):=by
 have a:l.getD 0 .non=hd l:=by cases l<;>rfl
 exact a ▸ gg l 0 (by have:=h.l4;lia)
def Xm(h:Ln l):Aq (Ak l) (.int 0)=Z (aD (hd l)):=by
 have b:=h.l1;cases l with
 |nil=>simp at b
 |cons a r=>exact ge (aD a)<|r.map aD
def gH(h:Ln l):hd l∈l:=by
 have b:=h.l1;cases l with
 |nil=>simp at b
 |cons a r=>exact A8
theorem uB(d:GL c p){a:At}(o:a∈c.map hd):Wp [.val (LD c),.val (.int 0),.val (aD a)]=Z (.val (.bl yB)):=by
 obtain⟨i,g,rfl⟩:=List.mem_map.mp o;have h:=d.val i g (hd i)<|gH<|d.ln i g;generalize hd i=a at *;have q:=e6 (aD a) h.2.1;rw[show(Gr (aD a)||B2 (aD a))=yB from h.1]at q;have r:=Rj (b:=Zn 0) (t:=Wh) (e:=Wi) (ρ:=[.no,.val<|.int 0,.val<|aD a]) Ak (λl=>aD<|hd l) (λl=>decide<|hd l=a) c λl f=>⟨[.val<|Ak l,.val<|.int 0,.val<|aD a],rfl,by
  have s:=uA<|d.ln l f;have u:=Xm<|d.ln l f;refine⟨?_,?_⟩
  ·erw[Wh,Zd,Zp,Ap,Af,AN,AG,Zb,Ay,s,AU,C6,Dw,E4,QW,QV,Ec,if_true,AF]
  ·erw[Wi,Zd,Af,AG,Ay,u]⟩
 have v:(c.filter λl=>decide<|hd l=a).map (λl=>aD<|hd l)=((c.filter λl=>decide<|hd l=a).map hd).map aD:=by rw[Ct];rfl
 rw[v]at r;have k:(c.filter λl=>decide<|hd l=a).map hd≠[]:=by
  obtain⟨l,f,e⟩:=List.mem_map.mp o;intro z;have:l∈c.filter λl=>decide (hd l=a):=List.mem_filter.mpr ⟨f,by simpa using e⟩;rw[List.map_eq_nil_iff]at z;rw[z]at this;exact nomatch this
 obtain⟨j,w,E,x⟩:=uz _ k (by
  rw[Bd];have:=List.length_filter_le (λl=>decide<|hd l=a) c;have:=d.n6;lia)
 generalize ((c.filter λl=>decide<|hd l=a).map hd).map aD=M at *;have q1:=ZU (c.map Ak) (by rw[Bd];have:=d.n6;lia);have y:Wj [.val<|LD c,.val<|.int 0,.val<|aD a]=Z (.own j):=by
  refine D3 rfl ?_;show QJ [.val<|LD c,.val<|.int 0,.val<|aD a]=_
  have m:ZK 1 [1,2] [.val<|LD c,.val<|.int 0,.val<|aD a]=[.no,.val<|.int 0,.val<|aD a]:=rfl;have A:Z5 (Z<|.bl yB)=Z yB:=rfl;have n:B4 (ZW<|G9<|some<|aD a) (Z yC)=Z yC:=by
   cases a<;>rfl
  erw[QJ,Zp,Ap,Af,AN,AG,Zb,Ay,q,AU,C6,A,ZW,C8]at *;erw[n,ZE,Zg,HJ,ZG,m,Bj,AG,Ay,Zx,q1,r,ZH,AU,Zh,Zb,w,Hc,CV]
 have B:(0:Int)<(j.length:Int):=by lia
 have f:ZQ [.lst j]=Z (.int (j.length:Int)):=rfl;refine D3 rfl ?_;show QM [.val<|LD c,.val<|.int 0,.val<|aD a]=_
 erw[QM,Zd,Zv,Zp,Ap,AN,AG,Zb,Ay,y,AU,Hr,Zh,BV,pk,f,Ea,i2,decide_eq_true B,ZD,Zg]
def uC(h:∀b∈L,∃p,GL b p)(d:A0 L s):C4 (Cn 2 (ZI (Zn 0) (ZI (Zn 1) Cp))) (λ_=>Z yB) QO [.no,.no] (GO (λx y=>D.tup [x,y]) (L.map LD) (s.map aD))=Z ((L.map λ_=>yB).map D.bl):=by
 induction d with|nil=>rfl|@cons b j a k e l c=>
  obtain⟨p,f⟩:=h b A8;have g:QO [.val<|LD b,.val<|aD a]=Z (.bl yB):=by
   have:=uB f e;erw[QO,Zp,Ap,Zh,Zb,AN,AG,Ay,AU,this,C6]
  have c:=c λb i=>h b<|A9 _ i;erw[AI,Rf,C4,Cn,ZI,Zn,Cp,Bp,B9,if_true,Bk,Bb,Ay,g,c,Zb]
theorem uD(h:CP L)(d:A0 L s):Wr [.val (.lst (L.map LD)),.val (Ak s)]=Z (.val (.bl yB)):=by
 have e:=uC h.good d;have f:=Xf L;have l:=h.n4;have q1:=ZU (GO (λx y=>D.tup [x,y]) (L.map LD) (s.map aD)) (by simp;lia);have g:(s.map aD).length=(L.map LD).length:=by simp[d.len]
 have i:∀b,Z5 (Z<|.bl b)=Z b:=λ_=>rfl;have j:Co [.tup<|s.map aD,.ty "tuple"]=Z (.bl yB):=rfl;have l1:ZQ [.tup<|s.map aD]=Z (.int ((s.map aD).length:Int)):=rfl;have k:ZQ [.lst<|L.map LD]=Z (.int ((L.map LD).length:Int)):=rfl;have a:Bz (.int ((s.map aD).length:Int)) (.int ((L.map LD).length:Int))=Z (.bl yC):=by rw[g];simp
 refine D3 rfl ?_;unfold Ak;generalize (L.map λ_=>yB).map D.bl=B,s.map aD=S,(L.map LD)=q at *;show QP [.val<|.lst q,.val<|.tup S]=_
 have c:ZK 2 [] [.val<|.lst q,.val<|.tup S]=[.no,.no]:=rfl;erw[QP,Zv,Zb,Ap,AN,AG,Zh,AU,Ay,BV,pk,j,i,ZW,C8,Zd,l1,k,a,AF,BR,ZE,Zg,ZH,ZG,E3,F3,c,Bj,q1,e,f,ZD]
abbrev Row:=U At×Int
abbrev DU:=Bool×Row
noncomputable def Fp(b:Bool):D:=if b then .str "+" else .str "-"
def Bv(c:DU):D:=.tup [Fp c.1,Ak c.2.1,.int c.2.2]
def uE:¬ ("+":Ae)="-":=by decide +kernel
def gI:¬ ("-":Ae)="+":=by decide +kernel
def uF(b:Bool):Bz (Fp b) (.str "+")=Z (.bl (!b)):=by cases b<;>simp[Fp,gI]
def uG(b:Bool):Bz (Fp b) (.str "-")=Z (.bl b):=by cases b<;>simp[Fp,uE]
def uH(b:Bool):Dw (Fp b) (.str "+")=Z (.bl b):=by cases b<;>simp[Fp,gI]
def uI(h:CP L)(c:DU)(g:A0 L c.2.1):WB [.val (.lst (L.map LD)),.val (Bv c)]=Z (.val (.bl yB)):=by
 have i:=uD h g;have d:=WQ (.int c.2.2) trivial;have j:∀b,Z5 (Z<|.bl b)=Z b:=λ_=>rfl;have k:Co [Bv c,.ty "tuple"]=Z (.bl yB):=rfl;have l1:ZQ [Bv c]=Z (.int 3):=rfl;have a:Bz (.int 3) (.int 3)=Z (.bl yC):=rfl;have l:Aq (Bv c) (.int 0)=Z (Fp c.1):=rfl;have e:Aq (Bv c) (.int 1)=Z (Ak c.2.1):=rfl;have f:Aq (Bv c) (.int 2)=Z (.int c.2.2):=rfl;have m:Gr (.int c.2.2)=yB:=rfl;rw[m]at d;generalize Bv c=C,L.map LD=q at *;refine D3 rfl ?_;show QQ [.val<|.lst q,.val C]=_
 unfold QQ;erw[Zv,Zb,Ap,Af,AN,AG,Zh,AU,Ay,BV,pk,k,j,ZW,C8,Zd,l1,a,AF,BR,ZE,Zg,l,e,f,uF,uG];cases c.1<;>erw[C8,Mh,B4,AN,AG,e,f,Zp,Zb,Ay,AU,i,d,C6,Dq,ZD]
def gJ(a b:U At):AE (Ak a) (Ak b)=decide (a=b):=by erw[Ak,AE,WS]
def Rm(r s:Row):AE (Zm r) (Zm s)=decide (r=s):=by
 unfold Zm;have h:=gJ r.1 s.1;rw[NX];simp[h,Prod.ext_iff]
def Xn(n:Nat)(r:Row):AT (n+2) (Zm r)=yB:=by
 have:=Mg n r.1;simp[Zm,this]
def Xo(n:Nat)(a:U Row):(a.map Zm).all (AT (n+2))=yB:=by
 rw[FF,CK];exact λr _=>Xn n r
def gK(r:Row)(a:U Row):IM (Zm r) (a.map Zm)=decide (r∈a):=by
 unfold IM;rw[NX,List.any_map,List.any_eq_true];constructor
 ·rintro⟨x,b,e⟩;erw[Function.comp,Rm,decide_eq_true_eq]at e;subst e;simpa using b
 ·intro h;exact⟨r,by simpa using h,by simp[Function.comp,Rm]⟩
theorem Xp(r:Row):∀a:U Row,r∈a->∃j,(a.map Zm).findIdx? (λz=>AE z (Zm r))=Z j/\(a.map Zm).eraseIdx j=(a.erase r).map Zm
 |[],h=>nomatch h
 |s::a,h=>by
  by_cases c:s=r
  ·subst c;refine⟨0,?_,?_⟩
   ·simp[List.findIdx?_cons,Rm]
   ·simp
  ·have b:r∈a:=by
    rcases Bh.mp h with e|h
    ·exact absurd e.symm c
    ·exact h
   obtain⟨j,d,f⟩:=Xp r a b;refine⟨j+1,?_,?_⟩
   ·erw[AI,List.findIdx?_cons,Rm,decide_eq_false c,d,EG,if_false,AU]
   ·rw[List.erase_cons_tail (by simpa using c)];erw[AI,gL,f]
theorem uJ(b:U Row)(r:Row)(h:b.length<100)(a:Ac):PV [] (.own (b.map Zm) .l (Z a)) [.val (Zm r)]=Z ((b++[r]).map Zm,.l,.non):=by
 have d:¬ (200:Int)<=((b.map Zm).length:Int):=by rw[Bd];lia
 have e:(b.map Zm).length<AB:=by rw[Bd];exact CC (show b.length<1000 by lia) (by ext)
 have c:ZQ [.lst<|b.map Zm]=Z (.int ((b.map Zm).length:Int)):=rfl;rw[Fj,AI,B3];generalize b.map Zm=R at *;have f:UZ [.own R .l<|some a,.val<|Zm r]=.next [.own R .l<|some a,.val<|Zm r]:=by
  erw[UZ,Zd,Zv,Zb,Ap,AG,Ay,AU,BV,pk,c,Tz,i2,decide_eq_false d,AF,ZE]
 have g:UY [.own R .l<|some a,.val<|Zm r]=.next [.own (R++[Zm r]) .l<|some a,.val<|Zm r]:=by
  erw[UY,Bn,AN,AG,Dv,if_pos e,Bb]
 erw[PV,E1,Bp,B9,DK,Ka,if_true,Ep,D2,CF,DG,U0,En,f,g,EZ,AG]
def uK(b:U Row)(r:Row)(d:r∈b)(a:Ac):PX [] (.own (b.map Zm) .l (Z a)) [.val (Zm r)]=Z ((b.erase r).map Zm,.l,.non):=by
 obtain⟨j,g,h⟩:=Xp r b d;have e:=Xn 10 r;have f:=Xo 10 b;have c:=gK r b;rw[decide_eq_true d]at c;have i:Ej yB (Zm r) (.lst<|b.map Zm)=Z (.bl yC):=by
  erw[Ej,E4,e,f,c,Ec,if_true,C8]
 generalize b.map Zm=R at *;generalize (b.erase r).map Zm=k at *;have m:U2 [.own R .l<|some a,.val<|Zm r]=.next [.own R .l<|some a,.val<|Zm r]:=by
  erw[U2,Zd,Af,AN,AG,Ay,i,AF,ZE]
 have n:U1 [.own R .l<|some a,.val<|Zm r]=.next [.own k .l<|some a,.val<|Zm r]:=by
  erw[U1,Af,AN,AG,K1,E4,e,f,Ec,if_true,g,h,Bb]
 erw[PX,E1,Bp,B9,DK,Ka,if_true,Ep,D2,CF,DG,U3,En,m,n,EZ,AG]
def A7(r s:Row):Bool:=if r.1=s.1 then decide (r.2<s.2)else Ba r.1 s.1
theorem Rn:TO A7:={
 asym:=λa b h=>by
  unfold A7 at h ⊢;by_cases e:a.1=b.1
  ·rw[if_pos e]at h;rw[if_pos e.symm];simp at h ⊢;lia
  ·rw[if_neg e]at h;rw[if_neg<|λz=>e z.symm];exact Ed.asym _ _ h
 neg:=λa b c h=>by
  unfold A7 at h ⊢;by_cases g:a.1=b.1
  ·rw[if_pos g];by_cases f:b.1=c.1
   ·rw[if_pos f];rw[if_pos<|g.trans f]at h;simp at h ⊢;lia
   ·rw[if_neg f];rw[if_neg<|λz=>f<|g.symm.trans z,g]at h;exact .inr h
  ·rw[if_neg g];by_cases f:b.1=c.1
   ·rw[if_neg<|λz=>g<|z.trans f.symm,<- f]at h;exact .inl h
   ·rw[if_neg f];by_cases j:a.1=c.1
    ·cases i:Ba a.1 b.1 with|true=>exact .inl rfl|false=>
      cases d:Ba b.1 a.1 with
      |true=>rw[j]at d;exact .inr d
      |false=>exact absurd (Ed.anti _ _ i d) g
    ·rw[if_neg j]at h;exact Ed.neg _ _ _ h
 anti:=λa b i d=>by
  unfold A7 at i d;by_cases e:a.1=b.1
  ·rw[if_pos e]at i;rw[if_pos e.symm]at d;simp at i d;exact Prod.ext e (by lia)
  ·rw[if_neg e]at i;rw[if_neg<|λz=>e z.symm]at d;exact absurd (Ed.anti _ _ i d) e}
def Od(r:Row):D:=.tup [.tup (r.1.map Dd),.int r.2]
def uL(r:Row)(h:r.1.length<=1000):QC [.val (Zm r)]=Z (.val (Od r)):=by
 have a:=gf r.1 h;have b:Aq (Zm r) (.int 0)=Z (Ak r.1):=rfl;have c:Aq (Zm r) (.int 1)=Z (.int r.2):=rfl;have q:Zu (Z [D.tup<|r.1.map Dd,.int r.2])=Z [D.tup<|r.1.map Dd,.int r.2]:=ZU _ (by simp);refine D3 rfl ?_;show QB [.val<|Zm r]=_
 unfold Od;generalize D.tup (r.1.map Dd)=K,Zm r=R at *;erw[QB,Zp,Zd,Af,AG,Ay,b,c,Zh,AU,Zb,a,C6,Zy,q,ZD,Zg]
theorem gM:∀a b:U At,CU (a.map Dd) (b.map Dd)=decide (a=b)
 |[],[]=>by simp
 |[],_::_=>by simp
 |_::_,[]=>by simp
 |x::a,y::b=>by
  have c:=gM a b;rw[NX];simp[fY,c]
def uM(r s:Row):ltN 6 (Od r) (Od s)=Z (A7 r s):=by
 have c:AT 12 (.tup<|r.1.map Dd)=yB:=by
  show(r.1.map Dd).all (AT 11)=yB
  rw[FF,CK];exact λa _=>Q6 10 a
 have d:AT 12 (.tup<|s.1.map Dd)=yB:=by
  show(s.1.map Dd).all (AT 11)=yB
  rw[FF,CK];exact λa _=>Q6 10 a
 have f:AE (.tup<|r.1.map Dd) (.tup<|s.1.map Dd)=decide (r.1=s.1):=by
  rw[<- gM];erw[AE]
 have g:=Xc 2 r.1 s.1;have h:ltN 5 (.tup<|r.1.map Dd) (.tup<|s.1.map Dd)=Z (Ba r.1 s.1):=g;have i:ltN 5 (.int r.2) (.int s.2)=Z (decide<|r.2<s.2):=rfl;show Ff (ltN 5) [.tup<|r.1.map Dd,.int r.2] [.tup<|s.1.map Dd,.int s.2]=_
 unfold A7;erw[Ff,E4,c,d,f,h,i,Ec,if_true,decide_eq_true_eq,AT];by_cases e:r.1=s.1
 ·rw[if_pos e,if_pos e];by_cases b:r.2=s.2
  ·simp[b]
  ·simp[b]
 ·rw[if_neg e,if_neg e]
def uN(a:U Row)(b:a.length<64)(c:∀r∈a,r.1.length<=1000):LU QC (a.map Zm)=Z ((ZB A7 a).map Zm):=fS Zm Rn yC a b Od (λr h=>uL r<|c r h) (λr _=>⟨_,_,rfl⟩) (λr _ s _=>uM r s)
def Bu(a:U Row)(c:DU):U Row:=if c.1 then a++[c.2]else a.erase c.2
def Kg:U Row->U DU->Prop
 |_,[]=>True
 |a,c::b=>(c.1=yC->c.2∈a)/\Kg (Bu a c) b
theorem Xq(b:U Row)(c:DU):(Bu b c).length<=b.length+1:=by
 unfold Bu;split
 ·simp
 ·have:=List.length_erase_le (a:=c.2) (l:=b);lia
def gN{a:U Row}{r:Row}(h:r∈Bu a c):r∈a\/r=c.2:=by
 unfold Bu at h;split at h
 ·rcases Dk.mp h with h|h
  ·exact .inl h
  ·simp at h;exact .inr h
 ·exact .inl<|List.mem_of_mem_erase h
theorem Ro:∀(b:U DU)(a:U Row),(b.foldl Bu a).length<=a.length+b.length
 |[],a=>Bl _
 |c::b,a=>by
  have:=Ro b<|Bu a c;have:=Xq a c;erw[JL,Bp];lia
theorem Oe:∀(b:U DU)(a:U Row)(r:Row),r∈b.foldl Bu a->r∈a\/∃c∈b,r=c.2
 |[],a,r,h=>.inl h
 |c::b,a,r,h=>by
  rcases Oe b (Bu a c) r h with h|⟨d,hd,e⟩
  ·rcases gN h with h|h
   ·exact .inl h
   ·exact .inr ⟨c,A8,h⟩
  ·exact .inr ⟨d,A9 _ hd,e⟩
def gO{b a:U Row}(h:b.Perm a)(c:DU):(Bu b c).Perm (Bu a c):=by
 unfold Bu;split
 ·exact h.append_right _
 ·exact h.erase _
theorem Xr:∀(b:U DU){d a:U Row},d.Perm a->(b.foldl Bu d).Perm (b.foldl Bu a)
 |[],_,_,h=>h
 |c::b,_,_,h=>Xr b<|gO h c
theorem Xs:∀(b:U DU){d a:U Row},d.Perm a->Kg d b->Kg a b
 |[],_,_,_,_=>trivial
 |c::b,_,_,h,k=>⟨λe=>h.mem_iff.mp<|k.1 e,Xs b (gO h c) k.2⟩
def uO(h:CP L)(k l:Sl)(d:U Row)(s:d.length<100)(c:DU)(t:A0 L c.2.1)(u:c.1=yC->c.2∈d):NU [.val (.lst (L.map LD)),k,l,.own (d.map Zm),.val (Bv c)]=.next [.val (.lst (L.map LD)),k,l,.own ((Bu d c).map Zm),.val (Bv c)]:=by
 have m:=uI h c t;have n:∀b,Z5 (Z<|.bl b)=Z b:=λ_=>rfl;have g:Aq (Bv c) (.int 0)=Z (Fp c.1):=rfl;have o:Aq (Bv c) (.int 1)=Z (Ak c.2.1):=rfl;have p:Aq (Bv c) (.int 2)=Z (.int c.2.2):=rfl;have q:Zu (Z [Ak c.2.1,.int c.2.2])=Z [Ak c.2.1,.int c.2.2]:=ZU _ (by simp);have r:D.tup [Ak c.2.1,.int c.2.2]=Zm c.2:=rfl;have i:=uH c.1;cases f:c.1 with
 |true=>
  have j:=LZ λa=>uJ d c.2 s a;rw[f]at i g;have e:Bu d c=d++[c.2]:=by unfold Bu;rw[f];rfl
  rw[e];generalize (d++[c.2]).map Zm=v at *;generalize L.map LD=I,Bv c=C,d.map Zm=R at *;unfold NU;erw[Zp,Zb,Ap,Af,AN,AG,Ay,AU,m,C6,n,ZW,C8,ZE,Zg,Zd,g,o,p,i,AF,Zh,Zy,q,r,GJ,j,Na,Bk,Bb]
 |false=>
  have j:=LZ λa=>uK d c.2 (u f) a;rw[f]at i g;have e:Bu d c=d.erase c.2:=by unfold Bu;rw[f];rfl
  rw[e];generalize (d.erase c.2).map Zm=v at *;generalize L.map LD=I,Bv c=C,d.map Zm=R at *;unfold NU;erw[Zp,Zb,Ap,Af,AN,AG,Ay,AU,m,C6,n,ZW,C8,ZE,Zg,Zd,g,o,p,i,AF,Zh,Zy,q,r,GJ,j,Na,Bk,Bb]
theorem gP{L:U (U (U At))}(h:CP L)(f g:Sl):∀(b:U DU)(a:U Row)(i:Sl),a.length+b.length<100->(∀c∈b,A0 L c.2.1)->Kg a b->∃e,Z9 (Zn 4) NU (b.map Bv) [.val (.lst (L.map LD)),f,g,.own (a.map Zm),i]=.next [.val (.lst (L.map LD)),f,g,.own ((b.foldl Bu a).map Zm),e]
 |[],a,i,_,_,_=>⟨i,rfl⟩
 |c::b,a,i,l,j,k=>by
  erw[Bp]at l;have m:=uO h f g a (by lia) c (j c A8) k.1;have:=Xq a c;obtain⟨e,n⟩:=gP h f g b (Bu a c) (.val<|Bv c) (by lia) (λd hd=>j d<|A9 _ hd) k.2;refine⟨e,?_⟩;erw[AI,Z9,Zn,Bk,Bb,m,JL];exact n
theorem uP(h:CP L)(a:U Row)(b:U DU)(n:a.length+b.length<64)(k:∀r∈a,A0 L r.1)(i:∀c∈b,A0 L c.2.1)(l:Kg a b):WC [.val (.lst (L.map LD)),.val (.lst (a.map Zm)),.lent (b.map Bv)]=Z (.own ((ZB A7 (b.foldl Bu a)).map Zm)):=by
 obtain⟨o,e⟩:=gP h (.val<|.lst<|a.map Zm) (.lent<|b.map Bv) b a .no (by lia) i l;have j:=Ro b a;have p:=h.n4;have f:∀r∈b.foldl Bu a,r.1.length<=1000:=λr d=>by
  rcases Oe b a r d with d|⟨c,d,e⟩
  ·have:=(k r d).len;lia
  ·have:=(i c d).len;rw[e];lia
 have m:=uN (b.foldl Bu a) (by lia) f;have g:Fg [.lst<|a.map Zm]=Z (a.map Zm):=rfl;generalize L.map LD=q,a.map Zm=R,b.map Bv=C,(b.foldl Bu a).map Zm=W,(ZB A7<|b.foldl Bu a).map Zm=Y at *;refine D3 rfl ?_;show QR [.val<|.lst q,.val<|.lst R,.lent C,.no,.no]=_
 erw[QR,D9,Zb,Ap,Af,Bj,AN,AG,Ay,AU,BV,pk,g,CW,Bk,Bb,Zg,Cb,Zx,e,LW,m,CV]
def uQ:Fn.contains "tables_renewed"=yC:=by decide +kernel
def uR:Fn.contains "pour"=yC:=by decide +kernel
def uS(h:CP L)(b:U Row)(d:U DU)(p:b.length+d.length<64)(m:∀r∈b,A0 L r.1)(n:∀c∈d,A0 L c.2.1)(q:Kg b d)(f:U KE)(n1:(f.map (·.1)).Nodup)(s:∀e∈f,AT 12 e.2=yB)(A:U (U At))(a1:∀e∈f,e.1∈A)(a2:∀r∈b,r.1∈A)(a3:∀c∈d,c.2.1∈A)(t:A.length<64)(l:∀k∈A,A0 L k):∃ys:U D,∀a:Ac,QS [] (.own (Ck L (b.map Zm) (f.map FO)) kB (Z a)) [.lent (d.map Bv)]=Z (Ck L ((ZB A7 (d.foldl Bu b)).map Zm) (Z4 (Z3 (ZB A7 (d.foldl Bu b)) [])),kB,.lst ys):=by
 have u:=uP h b d p m n q;have i:∀r∈ZB A7 (d.foldl Bu b),r∈b\/∃c∈d,r=c.2:=λr g=>Oe d b r<|(ZP A7 _).mem_iff.mp g;have o:=Ro d b;obtain⟨ys,e⟩:=uy h (ZB A7<|d.foldl Bu b) (λr g=>by
  rcases i r g with g|⟨c,g,e⟩
  ·exact m r g
  ·rw[e];exact n c g) (by rw[(ZP A7 _).length_eq];lia) f n1 s A a1 (λr g=>by
  rcases i r g with g|⟨c,g,e⟩
  ·exact a2 r g
  ·rw[e];exact a3 c g) t l
 refine⟨ys,λa=>?_⟩;have v:=LZ e;generalize d.map Bv=C,b.map Zm=R,f.map FO=j,(ZB A7<|d.foldl Bu b).map Zm=R2,Z4 (Z3 (ZB A7<|d.foldl Bu b) [])=B at *;have E:=Ob (L:=L) (R:=R) (T:=j);have l4:=Xi (L:=L) (R:=R) (T:=j);have n1:¬ ("axes":Ae)="standing":=by decide +kernel
 have G:L2.putN "standing" Fn=Fn:=by decide +kernel
 have H:∀x y z w:D,EM "standing" z Fn [x,y,w]=[x,z,w]:=λx y z w=>by erw[EM,if_neg n1,if_true]
 have I:WD [.own (Ck L R j) kB<|some a,.lent C]=.next [.own (Ck L R2 j) kB<|some a,.lent C]:=by
  unfold WD;erw[Zp,Af,Ap,AN,AG,Ay,E,l4,Zh,AU,Zb,u,Hr,GK,H,G,Bb];rfl
 have F:HX "Book" "tables_renewed" 0 NT (Z []) [.own (Ck L R2 j) kB<|some a,.lent C]=Z (.lst ys,[.own (Ck L R2 B) kB<|some a,.lent C]):=by
  erw[HX,AG,uQ,and_self,if_true,GJ,AU,v,Bb]
 erw[QS,E1,Bp,B9,DK,Ka,if_true,Ep,D2,CF,DG,WE,En,I,F,Ay,EZ,AG]
def Gd:At->Prop
 |.str z=>(∀c∈z.cps.toList,c∈signs.cps.toList)/\z.length<=12
 |_=>True
abbrev FP:Ae:="0123456789abcdefghijklmnopqrstuvwxyz"
theorem uT:∀c∈signs.cps.toList,∀d∈signs.cps.toList,decide (Txt.find FP ⟨#[c]⟩<Txt.find FP ⟨#[d]⟩)=decide (c<d):=by decide +kernel
theorem gQ(s0 a:Sl):∀(xs ys:U Nat),(∀c∈xs,c∈signs.cps.toList)->(∀c∈ys,c∈signs.cps.toList)->∀b d:Sl,(∃g i,Z9 (Cn 2 (ZI (Zn 3) (ZI (Zn 4) Cp))) K7 (GO (λx y=>D.tup [x,y]) (xs.map cS) (ys.map cS)) [s0,a,.val (.str FP),b,d]=.next [s0,a,.val (.str FP),g,i]/\decide (xs<ys)=decide (xs.length<ys.length)) \/Z9 (Cn 2 (ZI (Zn 3) (ZI (Zn 4) Cp))) K7 (GO (λx y=>D.tup [x,y]) (xs.map cS) (ys.map cS)) [s0,a,.val (.str FP),b,d]=.ret (.val (.bl (decide (xs<ys))))
 |[],ys,_,_,b,d=>.inl ⟨b,d,rfl,by cases ys<;>simp⟩
 |x::xs,[],_,_,b,d=>.inl ⟨b,d,rfl,by simp⟩
 |x::xs,y::ys,l,m,b,d=>by
  have n:Cn 2 (ZI (Zn 3)<|ZI (Zn 4) Cp) (D.tup [cS x,cS y]) [s0,a,.val<|.str FP,b,d]=Z [s0,a,.val<|.str FP,.val<|cS x,.val<|cS y]:=rfl;have f:Bz (cS x) (cS y)=Z (.bl<|!decide (x=y)):=by
   have:(⟨#[x]⟩:Ae)=⟨#[y]⟩↔x=y:=by simp
   simp[cS]
  erw[AI,Rf,Z9,n];by_cases e:x=y
  ·subst e;have j:K7 [s0,a,.val<|.str FP,.val<|cS x,.val<|cS x]=.next [s0,a,.val<|.str FP,.val<|cS x,.val<|cS x]:=by
    erw[K7,Zg,ZE,AF,Zd,Af,AN,AG,Ay,f,decide_true,C8]
   rw[j];have hd:decide (x::xs<x::ys)=decide (xs<ys):=by
    rw[decide_eq_decide,List.cons_lt_cons_iff];exact⟨λh=>h.elim (λh=>absurd h<|Gx _) λh=>h.2,λh=>.inr ⟨rfl,h⟩⟩
   have o:decide ((x::xs).length<(x::ys).length)=decide (xs.length<ys.length):=by simp
   rw[hd,o];exact gQ s0 a xs ys (λc k=>l c<|A9 _ k) (λc k=>m c<|A9 _ k) (.val<|cS x) (.val<|cS x)
  ·have hd:decide (x::xs<y::ys)=decide (x<y):=by
    rw[decide_eq_decide,List.cons_lt_cons_iff];exact⟨λh=>h.elim id λh=>absurd h.1 e,λh=>.inl h⟩
   refine .inr ?_;have p:=uT x (l x A8) y<|m y A8;have lt:Ek (.int<|Txt.find FP ⟨#[x]⟩) (.int<|Txt.find FP ⟨#[y]⟩)=Z (.bl<|decide<|x<y):=by rw[<- p];rfl
   have q:∀c,M6 FP [cS c]=Z (.int<|Txt.find FP ⟨#[c]⟩):=λ_=>rfl;have j:K7 [s0,a,.val<|.str FP,.val<|cS x,.val<|cS y]=.ret (.val<|.bl<|decide<|x<y):=by
    erw[K7,Zg,ZE,AF,Zd,Af,Ap,ZD,KN,Zb,BV,pk,AN,AG,Ay,f,e,decide_false,Mh,q,lt]
   rw[j,hd]
theorem uU(a b:At)(g:Gd a)(h:Gd b):Vm [.val (aD a),.val (aD b)]=Z (.val (.bl (EB a b))):=by
 refine D3 rfl ?_;show J3 [.val<|aD a,.val<|aD b,.no,.no,.no]=_
 cases a with
 |non=>cases b<;>simp[J3,L8,aD,EB]
 |int i=>cases b<;>simp[J3,L8,P8,P6,Vl,Vj,aD,EB]
 |str x=>
  cases b with
  |non=>simp[J3,L8,aD,EB]
  |int j=>simp[J3,L8,P8,P6,aD,EB]
  |str y=>
   have l:J3 [.val<|aD<|.str x,.val<|aD<|.str y,.no,.no,.no]=P7 [.val<|.str x,.val<|.str y,.val<|.str FP,.no,.no]:=by
    simp[J3,L8,P8,P6,Vl,Vj,dR,dO,aD]
   rw[l];have k:∀z:Ae,z.length<=12->ZQ [.str z]=Z (.int (z.cps.toList.length:Int)):=λz m=>by
    have c:z.cps.size<=AB:=BX m (by ext);simp[Str.length,c]
   have d:=k x g.2;have e:=k y h.2;have o:(aD<|.str x)=.str x:=rfl;rcases gQ (.val<|.str x) (.val<|.str y) x.cps.toList y.cps.toList g.1 h.1 .no .no with⟨p,q,f,n⟩|f
   ·have lt:Ek (.int (x.cps.toList.length:Int)) (.int (y.cps.toList.length:Int))=Z (.bl<|decide<|x.cps.toList<y.cps.toList):=by
     rw[n];show Z (D.bl<|decide<|(x.cps.toList.length:Int)<(y.cps.toList.length:Int))=_
     congr 2;rw[decide_eq_decide];lia
    erw[P7,Vk,dQ,dP,Zg,Cb,E3,F3,Bj,AN,AG,Ay,f,ZD,Zd,Zv,Ap,Zb,BV,pk,d,e,lt,EB]
   ·erw[P7,Vk,Zg,Cb,E3,F3,Bj,AN,AG,Ay,f,EB]
theorem gR(s0 a:Sl):∀(xs ys:U At),(∀c∈xs,Gd c)->(∀c∈ys,Gd c)->∀b d:Sl,(∃g h,Z9 (Cn 2 (ZI (Zn 2) (ZI (Zn 3) Cp))) K8 (GO (λx y=>D.tup [x,y]) (xs.map aD) (ys.map aD)) [s0,a,b,d]=.next [s0,a,g,h]/\Ba xs ys=decide (xs.length<ys.length)) \/Z9 (Cn 2 (ZI (Zn 2) (ZI (Zn 3) Cp))) K8 (GO (λx y=>D.tup [x,y]) (xs.map aD) (ys.map aD)) [s0,a,b,d]=.ret (.val (.bl (Ba xs ys)))
 |[],ys,_,_,b,d=>.inl ⟨b,d,rfl,by cases ys<;>simp[Ba]⟩
 |x::xs,[],_,_,b,d=>.inl ⟨b,d,rfl,by simp[Ba]⟩
 |x::xs,y::ys,k,l,b,d=>by
  have m:Cn 2 (ZI (Zn 2)<|ZI (Zn 3) Cp) (D.tup [aD x,aD y]) [s0,a,b,d]=Z [s0,a,.val<|aD x,.val<|aD y]:=rfl;have f:=ss x y;erw[AI,Rf,Z9,m];by_cases e:x=y
  ·subst e;have i:K8 [s0,a,.val<|aD x,.val<|aD x]=.next [s0,a,.val<|aD x,.val<|aD x]:=by
    erw[K8,Zg,ZE,AF,Zd,Af,AN,AG,Ay,f,decide_true,C8]
   rw[i];have hd:Ba (x::xs) (x::ys)=Ba xs ys:=by simp[Ba]
   have n:decide ((x::xs).length<(x::ys).length)=decide (xs.length<ys.length):=by simp
   rw[hd,n];exact gR s0 a xs ys (λc j=>k c<|A9 _ j) (λc j=>l c<|A9 _ j) (.val<|aD x) (.val<|aD x)
  ·have hd:Ba (x::xs) (y::ys)=EB x y:=by simp[Ba,e]
   refine .inr ?_;have o:=uU x y (k x A8)<|l y A8;have i:K8 [s0,a,.val<|aD x,.val<|aD y]=.ret (.val<|.bl<|EB x y):=by
    erw[K8,Zg,ZE,AF,Zd,Af,Ap,ZD,Zp,Zb,AN,AG,Ay,AU,f,e,decide_false,Mh,o,C6]
   rw[i,hd]
def gS(l m:U At)(e:∀a∈l,Gd a)(f:∀a∈m,Gd a)(g:l.length=m.length):Ma [.val (Ak l),.val (Ak m)]=Z (.val (.bl (Ba l m))):=by
 refine D3 rfl ?_;show NG [.val<|Ak l,.val<|Ak m,.no,.no]=_
 have c:∀l:U At,F3 (Ak l)=Z (l.map aD):=λ_=>rfl;rcases gR (.val<|Ak l) (.val<|Ak m) l m e f .no .no with⟨h,i,b,d⟩|b
 ·rw[g,decide_eq_false<|Gx _]at d;rw[d];erw[NG,Zg,Cb,E3,c,Bj,AN,AG,Ay,b,ZD]
 ·erw[NG,Zg,Cb,E3,c,Bj,AN,AG,Ay,b]
def uV{a:At}(h:Ez (aD a)=yB):Gd a:=by
 cases a with
 |non=>trivial
 |int i=>trivial
 |str z=>
  have b:Ia z.cps.toList=yB:=by
   erw[Ez,aD,Gr,B2,Bool.false_or]at h;exact h
  obtain⟨⟨l⟩⟩:=z;cases l with|nil=>simp[Ia]at b|cons c r=>
   erw[Ia,Dp,decide_eq_true_eq]at b;refine⟨λd hd=>?_,b.2⟩;have:=CK.mp b.1.2 d hd;rw[r9]at this;exact of_decide_eq_true this
def A0.gd(h:∀c∈L,∃p,GL c p)(g:A0 L s):∀a∈s,Gd a:=by
 induction g with|nil=>exact λ_ h=>nomatch h|@cons c k a m i n j=>
  intro b e;rcases Bh.mp e with rfl|e
  ·obtain⟨p,f⟩:=h c A8;obtain⟨l,d,rfl⟩:=List.mem_map.mp i;exact uV (f.val l d _<|gH<|f.ln l d).1
  ·exact j (λc d=>h c<|A9 _ d) b e
def gT(x:Int):L9 [.val (.int x)]=Z (.val (.bl yB)):=by simp[L9,AR,Vn]
def gU{a:Type}(l:U a):JH [.lst ((l.map λ_=>yC).map D.bl)]=Z (.bl yC):=by
 erw[JH,UR,Iy];congr 2;rw[List.any_map];simp
structure gW(q t:Row):Prop where
 gq:∀a∈q.1,Gd a
 gt:∀a∈t.1,Gd a
 len:q.1.length=t.1.length
 lt:A7 t q=yC
theorem uW(s0 g:Sl)(T:U D)(o:∀r,Af (s0::r) 0=Z (.lst T))(left:U Row)(k:Nat)(t:Row)(p:Aq (.lst T) (.int (k:Int))=Z (Zm t))(C:t∈left)(h4:t.1.length<=1000)(l:k=0\/∃q,Aq (.lst T) (.int ((k:Int)-1))=Z (Zm q)/\gW q t):Qu [s0,g,.own (left.map Zm),.val (.int (k:Int))]=.next [s0,g,.own ((left.erase t).map Zm),.val (.int (k:Int))]:=by
 obtain⟨j,L,M⟩:=Xp t left C;have E:=Xn 10 t;have G:=Xo 10 left;have i:=gK t left;rw[decide_eq_true C]at i;have N:Ej yB (Zm t) (.lst<|left.map Zm)=Z (.bl yC):=by
  erw[Ej,E4,E,G,i,Ec,if_true,C8]
 have u:Aq (Zm t) (.int 0)=Z (Ak t.1):=rfl;have H:Aq (Zm t) (.int 1)=Z (.int t.2):=rfl;have K:Co [Zm t,.ty "tuple"]=Z (.bl yB):=rfl;have v:∀b,Z5 (Z<|.bl b)=Z b:=λ_=>rfl;have Q:=gT t.2;have s:=D1 (b:=Zn 0) (e:=VT) (ρ:=[.no]) aD (λ_=>D.bl yC) t.1 λa _=>⟨[.val<|aD a],rfl,by cases a<;>rfl⟩;have P:t.1.map (λ_=>D.bl yC)=(t.1.map λ_=>yC).map D.bl:=by rw[Ct];rfl
 rw[P]at s;have Y:=gU t.1;have q1:=ZU (t.1.map aD) (by simp;lia);have hs:Zx (Ak t.1)=Z (t.1.map aD):=rfl;have kp:∀b c,(k=0->c=Z yC)->(k≠0->b=c)->B4 (AF<|Ea (.int (k:Int))<|.int 0) b=c:=λb c h1 h2=>by
  by_cases e:k=0
  ·subst e;rw[h1 rfl];rfl
  ·have:(0:Int)<(k:Int):=by lia
   rw[<- h2 e];erw[Ea,i2,decide_eq_true this,AF,B4]
 have m:∀a b c:Sl,Af [a,b,c,.val<|.int (k:Int)] 3=Z (.int (k:Int)):=λ_ _ _=>rfl;have I:Ei (.int (k:Int)) (.int 1)=Z (.int<|(k:Int)-1):=rfl;have c3:K1 2 (Z<|Zm t) [s0,g,.own<|left.map Zm,.val<|.int (k:Int)]=.next [s0,g,.own<|(left.erase t).map Zm,.val<|.int (k:Int)]:=by
  erw[K1,AN,AG,E4,E,G,Ec,if_true,L,M,Bk,Bb]
 have c4:∀W,B4 (AF<|Ea (.int (k:Int))<|.int 0) (B4 (AF<|(Zd Dw (Zd Aq (Zd Aq (λf=>Af f 0) (Zd Ei (λf=>Af f 3) (λ_=>Z<|.int 1))) (λ_=>Z<|.int 0)) (Zd Aq (Zd Aq (λf=>Af f 0) (λf=>Af f 3)) (λ_=>Z<|.int 0))) [s0,g,W,.val<|.int (k:Int)]) (AF<|(Zd Ek (Zd Aq (Zd Aq (λf=>Af f 0) (λf=>Af f 3)) (λ_=>Z<|.int 1)) (Zd Aq (Zd Aq (λf=>Af f 0) (Zd Ei (λf=>Af f 3) (λ_=>Z<|.int 1))) (λ_=>Z<|.int 1))) [s0,g,W,.val<|.int (k:Int)]))=Z yC:=λW=>by
  refine kp _ _ (λ_=>rfl) λw=>?_;rcases l with e|⟨q,l,n⟩
  ·exact absurd e w
  ·have x:Aq (Zm q) (.int 0)=Z (Ak q.1):=rfl;have y1:Aq (Zm q) (.int 1)=Z (.int q.2):=rfl;have y:Dw (Ak q.1) (Ak t.1)=Z (.bl<|decide<|q.1=t.1):=by
    erw[Dw,E4,Mg,gJ,Ec,if_true]
   have z2:Ek (.int t.2) (.int q.2)=Z (.bl<|decide<|t.2<q.2):=rfl;have h:=n.lt;unfold A7 at h;erw[Zd,o,AN,AG,Ay,p,l,u,H,x,y1,y,z2,AF,I,m];by_cases e:q.1=t.1
   ·rw[if_pos e.symm]at h;erw[decide_eq_true e,B4,h]
   ·erw[decide_eq_false e,B4]
 have c5:∀W,B4 (AF<|Ea (.int (k:Int))<|.int 0) (B4 (AF<|(Zd Bz (Zd Aq (Zd Aq (λf=>Af f 0) (Zd Ei (λf=>Af f 3) (λ_=>Z<|.int 1))) (λ_=>Z<|.int 0)) (Zd Aq (Zd Aq (λf=>Af f 0) (λf=>Af f 3)) (λ_=>Z<|.int 0))) [s0,g,W,.val<|.int (k:Int)]) (ZW<|Z5<|(Zp Ma<|λf=>Zb (Zh<|(Zd Aq (Zd Aq (λf=>Af f 0) (Zd Ei (λf=>Af f 3) (λ_=>Z<|.int 1))) (λ_=>Z<|.int 0)) f) (Zb (Zh<|(Zd Aq (Zd Aq (λf=>Af f 0) (λf=>Af f 3)) (λ_=>Z<|.int 0)) f) (Z []))) [s0,g,W,.val<|.int (k:Int)]))=Z yC:=λW=>by
  refine kp _ _ (λ_=>rfl) λw=>?_;rcases l with e|⟨q,l,n⟩
  ·exact absurd e w
  ·have x:Aq (Zm q) (.int 0)=Z (Ak q.1):=rfl;have y:=NY q.1 t.1;have A:=gS q.1 t.1 n.gq n.gt n.len;have h:=n.lt;unfold A7 at h;erw[Zd,o,AN,AG,Ay,p,l,u,x,y,AF,I,Zp,Zh,AU,Zb,A,C6,v,m];by_cases e:q.1=t.1
   ·erw[decide_eq_true e,B4,C8]
   ·rw[if_neg<|λz=>e z.symm]at h;have:Ba q.1 t.1=yB:=by
     cases s:Ba q.1 t.1 with
     |true=>rfl
     |false=>exact absurd (Ed.anti _ _ s h) e
    erw[decide_eq_false e,this,B4,ZW,AU,C8,Mh]
 have p2:∀a b d:Sl,∀X,Af [a,b,.own X,d] 2=Z (.lst X):=λ_ _ _ _=>rfl;have c1:BR (ZW<|Z5<|(Zv Co<|λf=>Zb (Zh<|(Zd Aq (λf=>Af f 0) (λf=>Af f 3)) f) (Zb (Zh<|some<|.ty "tuple")<|some [])) [s0,g,.own<|left.map Zm,.val<|.int (k:Int)]) (BR (AF<|(Zd (Ej yB) (Zd Aq (λf=>Af f 0) (λf=>Af f 3)) (λf=>Af f 2)) [s0,g,.own<|left.map Zm,.val<|.int (k:Int)]) (ZW<|Z5<|(Zp L9<|λf=>Zb (Zh<|(Zd Aq (Zd Aq (λf=>Af f 0) (λf=>Af f 3)) (λ_=>Z<|.int 1)) f) (Z [])) [s0,g,.own<|left.map Zm,.val<|.int (k:Int)]))=Z yC:=by
  erw[Zv,Zd,o,p2,m,Ay,p,Zh,AU,Zb,BV,pk,K,v,ZW,C8,BR,N,AF,H,Zp,Q,C6]
 have c2:Z5 ((Zv JH<|λf=>Zb (Zh<|ZH<|(ZG 1 [] (λf=>((Zd Aq (Zd Aq (λf=>Af f 0) (λf=>Af f 3)) (λ_=>Z<|.int 0)) f).bind Zx) (Zn 0) (λ_=>Z yB) VT) f) (Z [])) [s0,g,.own<|left.map Zm,.val<|.int (k:Int)])=Z yC:=by
  have i:ZK 1 [] [s0,g,.own<|left.map Zm,.val<|.int (k:Int)]=[.no]:=rfl;erw[Zv,ZG,i,Zd,o,m,Ay,p,u,hs,q1,s,ZH,AU,Zh,Zb,BV,pk,Y,v]
 have B:(Zd Aq (λf=>Af f 0) (λf=>Af f 3)) [s0,g,.own<|left.map Zm,.val<|.int (k:Int)]=Z (Zm t):=by
  erw[Zd,o,m,Ay,p]
 have F:Zd Ea (λf=>Af f 3) (λ_=>Z<|.int 0) [s0,g,.own<|(left.erase t).map Zm,.val<|.int (k:Int)]=Ea (.int (k:Int)) (.int 0):=by
  erw[Zd,m,Ay]
 unfold Qu;rw[c1,ZE,Zg];rw[c2,ZE,Zg];rw[B,c3,Zg,F,c4,ZE,Zg,F,c5,ZE,Zg]
def gX{b pre a:U Row}(h:b=pre++t::a):Aq (.lst (b.map Zm)) (.int (pre.length:Int))=Z (Zm t):=by
 refine C3 ?_;rw[h];simp
theorem gY(n:Nat)(s0 j:Sl)(d:U Row)(x:∀r,Af (s0::r) 0=Z (.lst (d.map Zm)))(m:d.Pairwise λa b=>A7 b a=yC)(o:∀t∈d,(∀a∈t.1,Gd a)/\t.1.length=n)(A:n<=1000):∀(c pre left:U Row) (l:Sl),d=pre++c->left.Perm c->∃e W,Z9 (Zn 3) Qu ((FN pre.length c.length).map λk:Nat=>D.int (k:Int)) [s0,j,.own (left.map Zm),l]=.next [s0,j,W,e]
 |[],pre,left,l,_,_=>⟨l,_,rfl⟩
 |t::c,pre,left,l,g,y=>by
  have p:t∈d:=by rw[g];simp
  have h:=o t p;have B:pre.length=0\/∃q,Aq (.lst<|d.map Zm) (.int<|(pre.length:Int)-1)=Z (Zm q)/\gW q t:=by
   rcases List.eq_nil_or_concat pre with rfl|⟨s,q,rfl⟩
   ·exact .inl rfl
   ·right;rw[List.concat_eq_append]at g ⊢;have f:d=s++q::(t::c):=by rw[g];simp
    have u:q∈d:=by rw[f];simp
    have i:=o q u;have C:=gX f;have v:(((s++[q]).length:Nat):Int)-1=(s.length:Int):=by simp
    rw[v];refine⟨q,C,i.1,h.1,by rw[i.2,h.2],?_⟩;rw[f]at m;have:=(List.pairwise_append.mp m).2.1;exact(List.pairwise_cons.mp this).1 t A8
  have v:=uW s0 j (d.map Zm) x left pre.length t (gX g) (y.mem_iff.mpr A8) (by lia) B;have w:(left.erase t).Perm c:=by
   have:=y.erase t;rw[List.erase_cons_head]at this;exact this
  obtain⟨e,W,z⟩:=gY n s0 j d x m o A c (pre++[t]) (left.erase t) (.val<|.int (pre.length:Int)) (by rw[g];simp) w;refine⟨e,W,?_⟩;erw[Bp,Lc,AI,Z9,Zn,Bk,Bb,v];rw[GA]at z;exact z
theorem gZ(n:Nat)(s0:Sl)(c f:U Row)(i:s0=.val (.lst (c.map Zm))\/s0=.lent (c.map Zm))(g:f.Perm c)(q:c.Pairwise λa b=>A7 b a=yC)(s:∀t∈c,(∀a∈t.1,Gd a)/\t.1.length=n)(u:n<=1000)(E:c.length<=1000):Md [s0,.lent (f.map Zm)]=Z (.val (.bl yB)):=by
 have v:∀r,Af (s0::r) 0=Z (.lst<|c.map Zm):=λr=>by rcases i with rfl|rfl<;>rfl
 obtain⟨j,W,e⟩:=gY n s0 (.lent<|f.map Zm) c v q s u c [] f .no rfl g;have h:=g.length_eq;have w:(FN ([]:U Row).length c.length)=BU c.length:=by rw[J7];rfl
 rw[w]at e;have o:=L6 (c.length:Int) (by lia) (by lia);rw[Gi]at o;have p:ZQ [.lst<|c.map Zm]=Z (.int (c.length:Int)):=by simp
 have l1:ZQ [.lst<|f.map Zm]=Z (.int (c.length:Int)):=by simp[h]
 have l:Bz (.int (c.length:Int)) (.int (c.length:Int))=Z (.bl yC):=by simp
 have x:Co [.lst<|c.map Zm,.ty "list"]=Z (.bl yB):=rfl;have y:∀b,Z5 (Z<|.bl b)=Z b:=λ_=>rfl;have m:Fg [.lst<|f.map Zm]=Z (f.map Zm):=rfl;have z:∀d:D,Zy [Sl.val d]=Z [d]:=λ_=>rfl;generalize (c.length:Int)=N,f.map Zm=R,c.map Zm=T,((BU c.length).map λk:Nat=>D.int (k:Int))=G at *;refine D3 rfl ?_;have A:VU [s0,.lent R,.no,.no]=.next [s0,.lent R,.no,.no]:=by
  rcases i with rfl|rfl<;>erw[VU,Zv,Zd,Zb,Ap,AN,AG,Ay,AU,Zh,BV,pk,x,y,ZW,C8,p,l1,l,AF,BR,ZE]
 have B:VV [s0,.lent R,.no,.no]=.next [s0,.lent R,.own R,.no]:=by
  erw[VV,D9,Zb,Ap,AN,AG,Ay,AU,BV,pk,m,CW,Bk,Bb]
 have C:VW [s0,.lent R,.own R,.no]=.next [s0,.lent R,W,j]:=by
  rcases i with rfl|rfl<;>erw[VW,Cb,Zv,Zb,Ap,AG,Ay,AU,BV,pk,p,Zh,z,o,e]
 show VX [s0,.lent R,.no,.no]=_
 erw[VX,eQ,eP,eO,A,B,C,eM,ZD,Zg]
theorem g0{ls0:U (U At)}{p:Nat}(a:At):∀(c:U (U At))(i:Sl),(∀l∈c,Ln l)->a∈c.map hd->Z9 (Zn 3) ND (c.map Ak) [.val (LD ls0),.val (aD a),.val (.int 0),i]=.ret (.val (aD a))
 |[],_,_,h=>nomatch h
 |l::c,i,f,k=>by
  have g:=Xm<|f l A8;have q:=(f l A8).l1;have d:Dw (aD<|hd l) (aD a)=Z (.bl<|decide<|hd l=a):=by erw[Dw,E4,QW,QV,Ec,if_true]
  have b:ZQ [Ak l]=Z (.int (l.length:Int)):=by simp[Ak]
  have r:(0:Int)<(l.length:Int):=by lia
  have j:Ek (.int 0) (.int (l.length:Int))=Z (.bl yB):=by simp;lia
  erw[AI,Z9,Zn,Bk,Bb];have n:ND [.val<|LD ls0,.val<|aD a,.val<|.int 0,.val<|Ak l]=if hd l=a then .ret (.val<|aD a)else .next [.val<|LD ls0,.val<|aD a,.val<|.int 0,.val<|Ak l]:=by
   by_cases e:hd l=a
   ·rw[if_pos e];rw[e]at g d;rw[decide_eq_true rfl]at d;erw[ND,Zd,Zv,Af,Ap,Zb,AN,AG,Ay,AU,BV,pk,g,b,d,j,AF,B4,ZE,ZD,Zg]
   ·rw[if_neg e];erw[ND,Zd,Zv,Af,Ap,Zb,AN,AG,Ay,AU,BV,pk,g,b,d,j,AF,decide_eq_false e,B4,ZE,ZD,Zg]
  rw[n];by_cases e:hd l=a
  ·rw[if_pos e]
  ·rw[if_neg e];refine g0 (p:=p) a c _ (λm o=>f m<|A9 _ o) ?_;rcases Bh.mp k with h|h
   ·exact absurd h.symm e
   ·exact h
def uX(c:GL b p){a:At}(d:a∈b.map hd):Vh [.val (LD b),.val (aD a),.val (.int 0)]=Z (.val (aD a)):=by
 have e:=g0 (ls0:=b) (p:=p) a b .no c.ln d;refine D3 rfl ?_;show P4 [.val<|LD b,.val<|aD a,.val<|.int 0,.no]=_
 erw[P4,Cb,Bj,AG,Ay,Zx,e,Zg]
def A0.get(d:A0 L s):∀k,k<L.length->∃c a,L[k]?=Z c/\s[k]?=Z a/\c∈L/\a∈c.map hd:=by
 induction d with|nil=>exact λk h=>absurd h<|Nat.not_lt_zero k|@cons c o a p e q f=>
  intro k g;cases k with|zero=>exact⟨c,a,rfl,rfl,A8,e⟩|succ k=>
   obtain⟨l,b,i,j,m,n⟩:=f k (by simpa using g);exact⟨l,b,by simpa using i,by simpa using j,A9 _ m,n⟩
theorem uY(h:CP L)(g:A0 L s):Vv [.val (.lst (L.map LD)),.val (Ak s),.val (AX L)]=Z (.val (Ak s)):=by
 have q:=g.len;have I:=h.n4;have j:=D1 (b:=Zn 0) (e:=Vu) (ρ:=[.no,.val<|.lst<|L.map LD,.val<|Ak s,.val<|AX L]) (λk:Nat=>D.int (k:Int)) (λk=>aD<|s.getD k .non) (BU s.length) λk r=>⟨[.val<|.int (k:Int),.val<|.lst<|L.map LD,.val<|Ak s,.val<|AX L],rfl,by
  have t:=List.mem_range.mp r;obtain⟨l,a,u,m,v,w⟩:=g.get k (by lia);obtain⟨p,x⟩:=h.good l v;have y:Aq (.lst<|L.map LD) (.int (k:Int))=Z (LD l):=C3 (by rw[DL,u];rfl);have z:Aq (Ak s) (.int (k:Int))=Z (aD a):=C3 (by rw[DL,m];rfl);have A:Aq (AX L) (.int (k:Int))=Z (.int 0):=gr L.length k (by lia) L rfl;have B:=uX x w;have C:s.getD k .non=a:=by simp[Gg,m]
  rw[C];generalize Ak s=S,L.map LD=W,AX L=F at *;erw[Vu,Zp,Zd,Af,AN,AG,Ay,y,z,A,Zh,AU,Zb,B,C6]⟩
 have E:(BU s.length).map (λk=>aD<|s.getD k .non)=s.map aD:=by
  apply HK;intro i;by_cases n:i<s.length
  ·simp[n]
  ·simp[n]
 rw[E]at j;have c:ZQ [Ak s]=Z (.int (s.length:Int)):=by simp[Ak]
 have o:=L6 (s.length:Int) (by lia) (by lia);rw[Gi]at o;have q1:=ZU ((BU s.length).map λk:Nat=>D.int (k:Int)) (by simp;lia);have G:∀d:D,Zy [Sl.val d]=Z [d]:=λ_=>rfl;have H:Fh [.lst<|s.map aD]=Z (Ak s):=rfl;generalize Ak s=S,L.map LD=W,AX L=F,(BU s.length).map (λk:Nat=>D.int (k:Int))=M,s.map aD=N at *;refine D3 rfl ?_;show Qf [.val<|.lst W,.val S,.val F]=_
 have f:ZK 1 [0,1,2] [.val<|.lst W,.val S,.val F]=[.no,.val<|.lst W,.val S,.val F]:=rfl;erw[Qf,Zv,ZG,f,Zb,Ap,AN,AG,Ay,AU,BV,pk,c,Zh,G,o,q1,j,ZH,H,ZD,Zg]
def uZ(p:Int×U Int):P5 [.val (vL p)]=Z (.val (vC p)):=by
 obtain⟨x,b⟩:=p;have a:(4:Nat)<=AB:=by ext
 simp[P5,AR,Vi,FG,OZ,M4,M5,Dj,a];exact⟨rfl,rfl⟩
def F5(e:Bq):KT×U D:=(.tup e.1,(e.2.1::e.2.2).map D.int)
theorem g6(k:U At)(x:Int):∀acc:U Bq,Gp (acc.map F5) (.tup k) (.int x)=(CQ acc k x).map F5
 |[]=>rfl
 |e::r=>by
  have a:=g6 k x r;erw[AI,Gp,CQ,F5,KT.tup.injEq];by_cases c:e.1=k
  ·rw[if_pos c,if_pos c];simp[F5]
  ·rw[if_neg c,if_neg c,AI];exact congrArg _ a
def u0(acc:U Bq):HY (acc.map F5)=acc.map (ZR vL):=by
 unfold HY;rw[Ct];rfl
def u3(k:U At)(acc:U Bq):UK (.tup k) (acc.map F5)=yB:=by
 unfold UK;rw[FF,CK];exact λe _=>rfl
theorem g8{L:U (U (U At))}(h:CP L)(R:U D):∀(a:U Row)(acc:U Bq)(m:Nat)(f g:Sl),(∀r∈a,A0 L r.1)->A5 acc L.length m->m+a.length<1000->∃b c,Ja 3 (Cn 2 (ZI (Zn 4) (ZI (Zn 5) Cp))) NI Qo (a.map Zm) [.val (.lst (L.map LD)),.lent R,.val (AX L),.no,f,g,.no] (acc.map F5)=Z ([.val (.lst (L.map LD)),.lent R,.val (AX L),.no,b,c,.no],(Z3 a acc).map F5)
 |[],acc,m,f,g,_,_,_=>⟨f,g,rfl⟩
 |r::a,acc,m,f,g,s,j,i=>by
  erw[Bp]at i;have t:=s r A8;obtain⟨b,c,u⟩:=g8 h R a (CQ acc r.1 r.2) (m+1) (.val<|Ak r.1) (.val<|.int r.2) (λq v=>s q<|A9 _ v) (j.add t.len r.2) (by lia);refine⟨b,c,?_⟩;have w:Cn 2 (ZI (Zn 4)<|ZI (Zn 5) Cp) (Zm r) [.val<|.lst<|L.map LD,.lent R,.val<|AX L,.no,f,g,.no]=Z [.val<|.lst<|L.map LD,.lent R,.val<|AX L,.no,.val<|Ak r.1,.val<|.int r.2,.no]:=rfl;have x:=uY h t;have hok:=Ke r.1;have y:=u3 r.1 acc;have k:(acc.map F5).length<AB/\∀z∈acc.map F5,z.2.length<AB:=by
   have A:1000<=AB:=by ext
   refine⟨by rw[Bd];have:=j.len;lia,λz k=>?_⟩;obtain⟨e,B,rfl⟩:=List.mem_map.mp k;have n:∀(l:U Bq),e∈l->e.2.2.length+1<=Kc l:=by
    intro l;induction l with|nil=>exact λh=>nomatch h|cons d l C=>
     intro i;erw[Kc];rcases Bh.mp i with rfl|i
     ·lia
     ·have:=C i;lia
   have H:=n acc B;have I:=j.sz;erw[F5,Bd,Bp];lia
  have E:NI [.val<|.lst<|L.map LD,.lent R,.val<|AX L,.no,.val<|Ak r.1,.val<|.int r.2,.no]=Z (Ak r.1):=by
   erw[NI,Zp,Zb,Ap,AN,AG,Ay,x,AU,C6]
  have G:Qo [.val<|.lst<|L.map LD,.lent R,.val<|AX L,.no,.val<|Ak r.1,.val<|.int r.2,.no]=Z (.int r.2):=rfl;have o:PF NI Qo [.val<|.lst<|L.map LD,.lent R,.val<|AX L,.no,.val<|Ak r.1,.val<|.int r.2,.no] (acc.map F5)=Z ((CQ acc r.1 r.2).map F5):=by
   erw[PF,E,G,hok,y,if_true,Lz k,g6]
  have p:Hn [.val<|.lst<|L.map LD,.lent R,.val<|AX L,.no,.val<|Ak r.1,.val<|.int r.2,.no]=yB:=rfl;rw[AI,Ja,w];erw[AN,AG,p,o,Ay];exact u
theorem g9(s0 j k:Sl)(acc:U Bq)(i:(ZC acc).Nodup)(hz:acc.length<=1000):∀(a pre:U Bq)(n f:Sl),acc=pre++a->∃g h,Z9 (Zn 4) Qp ((ZC a).map Ak) [s0,j,k,.val (.lst (Zo (acc.map (ZR vL))) .d),n,f,.own (Zo (pre.map (ZR vC))) .d]=.next [s0,j,k,.val (.lst (Zo (acc.map (ZR vL))) .d),g,h,.own (Zo (acc.map (ZR vC))) .d]
 |[],pre,n,f,c=>⟨n,f,by rw[CF]at c;subst c;rfl⟩
 |e::a,pre,n,f,c=>by
  obtain⟨g,h,t⟩:=g9 s0 j k acc i hz a (pre++[e]) (.val<|Ak e.1) f (by rw[c];simp);refine⟨g,h,?_⟩;have b:e.1∉ZC pre:=by
   intro u;rw[c]at i;unfold ZC at i u;rw[Fj,AI]at i;exact(GH.mp i).2.2 _ u _ A8 rfl
  have o:Db acc e.1=Z e.2:=by
   rw[c];clear t i hz c;induction pre with|nil=>simp[Db]|cons d pre p=>
    erw[ZC,AI,Bh,not_or]at b;rw[EH,Db,if_neg<|λz=>b.1 z.symm];exact p b.2
  have v:=Re vL o;have w:=uZ e.2;have hok:=Ke e.1;have q:=Q9 vC e.1 pre;have r:=HS<|pre.map<|ZR vC;have l:(pre.map<|ZR vC).length<AB:=by
   have:acc.length=pre.length+(a.length+1):=by rw[c];simp
   rw[Bd];exact CC (show pre.length<1000 by lia) (by ext)
  have m:Cr (pre.map<|ZR vC) (.tup e.1) (vC e.2)=(pre++[e]).map (ZR vC):=by
   unfold Cr;rw[Kb,Ch.mpr b];simp[ZR]
  have s:ZC (e::a)=e.1::ZC a:=rfl;have x:Qp [s0,j,k,.val<|.lst (Zo<|acc.map<|ZR vL) .d,.val<|Ak e.1,f,.own (Zo<|pre.map<|ZR vC) .d]=.next [s0,j,k,.val<|.lst (Zo<|acc.map<|ZR vL) .d,.val<|Ak e.1,f,.own (Zo<|(pre++[e]).map<|ZR vC) .d]:=by
   rw[<- m];generalize vL e.2=y,pre.map (ZR vC)=A,acc.map (ZR vL)=KV at *;erw[Qp,Zp,Zd,Af,GD,Zb,Zh,AN,AG,Ay,AU,v,w,C6,IV,r,hok,q,l,decide_true,Ec,if_true,Bk,Bb,Zg]
  rw[s,AI,Z9];erw[Zn,Bk,Bb,x];exact t
theorem u4(h:CP L)(a:U Row)(m:∀r∈a,A0 L r.1)(v:a.length<64):NJ [.val (.lst (L.map LD)),.lent (a.map Zm),.val (AX L)]=Z (.own (Zo ((Z3 a []).map (ZR vC))) .d):=by
 have ok:=A5.tab a (A5.nil L.length) λr h=>(m r h).len;obtain⟨c,e,n⟩:=g8 h (a.map Zm) a [] 0 .no .no m (A5.nil _) (by lia);obtain⟨f,g,o⟩:=g9 (.val<|.lst<|L.map LD) (.lent<|a.map Zm) (.val<|AX L) (Z3 a []) ok.nd (by have:=ok.len;lia) (Z3 a []) [] c e rfl;have i:=u0<|Z3 a [];have j:EQ (.lst (Zo<|(Z3 a []).map<|ZR vL) .d)=Z ((ZC<|Z3 a []).map Ak):=by
  erw[EQ,HS,AU,gp]
 have k:Hn [.val<|.lst<|L.map LD,.lent<|a.map Zm,.val<|AX L,.own [] .d,.no,.no,.no]=yB:=rfl;generalize a.map Zm=R,Z3 a []=b at *;have p:([]:U Bq).map F5=[]:=rfl;have l:Zo (([]:U Bq).map<|ZR vC)=[]:=rfl;rw[p]at n;rw[l]at o;generalize L.map LD=W,AX L=I at *;refine D3 rfl ?_;show VP [.val<|.lst W,.lent R,.val I,.no,.no,.no,.no]=_
 have q:eC [.val<|.lst W,.lent R,.val I,.no,.no,.no,.no]=.next [.val<|.lst W,.lent R,.val I,.own [] .d,.no,.no,.no]:=rfl;have s:VN [.val<|.lst W,.lent R,.val I,.own [] .d,.no,.no,.no]=.next [.val<|.lst W,.lent R,.val I,.own (Zo<|b.map<|ZR vL) .d,c,e,.no]:=by
  erw[VN,PH,Bj,AN,AG,Ay,Zx,k,if_true,Bk,Bb,n,i]
 have t:eE [.val<|.lst W,.lent R,.val I,.own (Zo<|b.map<|ZR vL) .d,c,e,.no]=.next [.val<|.lst W,.lent R,.val I,.own (Zo<|b.map<|ZR vL) .d,c,e,.own [] .d]:=rfl;have u:VO [.val<|.lst W,.lent R,.val I,.own (Zo<|b.map<|ZR vL) .d,c,e,.own [] .d]=.next [.val<|.lst W,.lent R,.val I,.val<|.lst (Zo<|b.map<|ZR vL) .d,f,g,.own (Zo<|b.map<|ZR vC) .d]:=by
  erw[VO,GF,AN,AG,Bk,Bb,Cb,Bj,Ay,j,o]
 erw[VP,eJ,eI,eH,eG,q,s,t,u,eF,GD,AN,AG,IC,Zg]
def u5(s0:Sl)(T:U D)(m:∀r,Af (s0::r) 0=Z (.lst T))(acc:U Bq)(k:Nat)(a:U At)(p:Int×U Int)(n:Aq (.lst T) (.int (k:Int))=Z (.tup [Ak a,vC p]))(g:Db acc a=Z p)(h4:a.length<=1000)(F:k=0\/∃q d,Aq (.lst T) (.int ((k:Int)-1))=Z (.tup [Ak q,d])/\(∀x∈q,Gd x)/\(∀x∈a,Gd x)/\q.length=a.length/\Ba q a=yB):Qr [s0,.val (.lst (Zo (acc.map (ZR vC))) .d),.val (.int (k:Int))]=.next [s0,.val (.lst (Zo (acc.map (ZR vC))) .d),.val (.int (k:Int))]:=by
 have s:Aq (.tup [Ak a,vC p]) (.int 0)=Z (Ak a):=rfl;have t:Aq (.tup [Ak a,vC p]) (.int 1)=Z (vC p):=rfl;have L:Co [.tup [Ak a,vC p],.ty "tuple"]=Z (.bl yB):=rfl;have u:Co [vC p,.ty "tuple"]=Z (.bl yB):=rfl;have l1:ZQ [.tup [Ak a,vC p]]=Z (.int 2):=rfl;have v:Bz (.int 2) (.int 2)=Z (.bl yC):=rfl;have w:∀b,Z5 (Z<|.bl b)=Z b:=λ_=>rfl;have y:Zx (vC p)=Z ([((p.2.length+1:Nat):Int),(p.1::p.2).sum,p.2.foldl mn p.1,p.2.foldl mx p.1].map D.int):=rfl;have z:=D1 (b:=Zn 0) (e:=Qq) (ρ:=[.no]) D.int (λ_=>D.bl yB) [((p.2.length+1:Nat):Int),(p.1::p.2).sum,p.2.foldl mn p.1,p.2.foldl mx p.1] λx _=>⟨[.val<|.int x],rfl,by
  have:=gT x;erw[Qq,Zp,Zb,Ap,AG,Ay,this,AU,C6]⟩
 have q0:=ZU ([((p.2.length+1:Nat):Int),(p.1::p.2).sum,p.2.foldl mn p.1,p.2.foldl mx p.1].map D.int) (by simp);have h:=Xf [((p.2.length+1:Nat):Int),(p.1::p.2).sum,p.2.foldl mn p.1,p.2.foldl mx p.1];rw[Ct]at h;have i:F2 [.lst<|[((p.2.length+1:Nat):Int),(p.1::p.2).sum,p.2.foldl mn p.1,p.2.foldl mx p.1].map λ_=>D.bl yB]=Z (.bl yB):=h;have H:=D1 (b:=Zn 0) (e:=VQ) (ρ:=[.no]) aD (λ_=>D.bl yC) a λa _=>⟨[.val<|aD a],rfl,by cases a<;>rfl⟩;have M:a.map (λ_=>D.bl yC)=(a.map λ_=>yC).map D.bl:=by rw[Ct];rfl
 rw[M]at H;have N:=gU a;have q1:=ZU (a.map aD) (by simp;lia);have K:Zx (Ak a)=Z (a.map aD):=rfl;have Q:=Re vC g;have A:DQ yB (Ak a) (.lst (Zo<|acc.map<|ZR vC) .d)=Z (.bl yC):=by
  have hok:=Ke a;have B:=Q9 vC a acc;rw[M7,hok];erw[Ay,B,if_true,Kb,g];rfl
 have I:=gF p.1 p.2;have G:Bz (vC p) (vC p)=Z (.bl yC):=by
  have:AE (vC p) (vC p)=yB:=MU 12 _ I;erw[Bz,E4,I,this,Ec,if_true,C8]
 have P:Ei (.int (k:Int)) (.int 1)=Z (.int<|(k:Int)-1):=rfl;generalize vC p=C,([((p.2.length+1:Nat):Int),(p.1::p.2).sum,p.2.foldl mn p.1,p.2.foldl mx p.1].map D.int)=CI,([((p.2.length+1:Nat):Int),(p.1::p.2).sum,p.2.foldl mn p.1,p.2.foldl mx p.1].map λ_=>D.bl yB)=B1,acc.map (ZR vC)=KV at *;generalize D.tup [Ak a,C]=E at *;have o:∀a b:Sl,Af [a,b,.val<|.int (k:Int)] 2=Z (.int (k:Int)):=λ_ _=>rfl;have p1:∀(a c:Sl) (X:D),Af [a,.val X,c] 1=Z X:=λ_ _ _=>rfl;have j:ZK 1 [] [s0,.val<|.lst (Zo KV) .d,.val<|.int (k:Int)]=[.no]:=rfl;have Y:B4 (AF<|(Zd Ea (λf=>Af f 2) (λ_=>Z<|.int 0)) [s0,.val<|.lst (Zo KV) .d,.val<|.int (k:Int)]) (ZW<|Z5<|(Zp Ma<|λf=>Zb (Zh<|(Zd Aq (Zd Aq (λf=>Af f 0) (Zd Ei (λf=>Af f 2) (λ_=>Z<|.int 1))) (λ_=>Z<|.int 0)) f) (Zb (Zh<|(Zd Aq (Zd Aq (λf=>Af f 0) (λf=>Af f 2)) (λ_=>Z<|.int 0)) f) (Z []))) [s0,.val<|.lst (Zo KV) .d,.val<|.int (k:Int)])=Z yC:=by
  by_cases e:k=0
  ·subst e;rfl
  ·rcases F with e'|⟨q,d,g1,g2,g3,g4,g5⟩
   ·exact absurd e' e
   ·have hk:(0:Int)<(k:Int):=by lia
    have y0:Aq (.tup [Ak q,d]) (.int 0)=Z (Ak q):=rfl;have l:=gS q a g2 g3 g4;rw[g5]at l;generalize D.tup [Ak q,d]=E' at *;erw[Zd,o,m,Ay,Ea,i2,decide_eq_true hk,AF,B4,P,g1,y0,n,s,Zp,Zh,AU,Zb,l,C6,w,ZW,C8]
 have c1:BR (ZW<|Z5<|(Zv Co<|λf=>Zb (Zh<|(Zd Aq (λf=>Af f 0) (λf=>Af f 2)) f) (Zb (Zh<|some<|.ty "tuple")<|some [])) [s0,.val<|.lst (Zo KV) .d,.val<|.int (k:Int)]) (BR (AF<|(Zd Bz (Zv ZQ<|λf=>Zb (Zh<|(Zd Aq (λf=>Af f 0) (λf=>Af f 2)) f) (Z [])) (λ_=>Z<|.int 2)) [s0,.val<|.lst (Zo KV) .d,.val<|.int (k:Int)]) (ZW<|Z5<|(Zv Co<|λf=>Zb (Zh<|(Zd Aq (Zd Aq (λf=>Af f 0) (λf=>Af f 2)) (λ_=>Z<|.int 1)) f) (Zb (Zh<|some<|.ty "tuple")<|some [])) [s0,.val<|.lst (Zo KV) .d,.val<|.int (k:Int)]))=Z yC:=by
  erw[Zv,Zd,m,o,Ay,n,Zh,AU,Zb,BV,pk,L,w,ZW,C8,BR,l1,v,AF,t,u]
 have c2:BR (ZW<|Z5<|(Zv F2<|λf=>Zb (Zh<|ZH<|(ZG 1 [] (λf=>((Zd Aq (Zd Aq (λf=>Af f 0) (λf=>Af f 2)) (λ_=>Z<|.int 1)) f).bind Zx) (Zn 0) (λ_=>Z yB) Qq) f) (Z [])) [s0,.val<|.lst (Zo KV) .d,.val<|.int (k:Int)]) (Z5<|(Zv JH<|λf=>Zb (Zh<|ZH<|(ZG 1 [] (λf=>((Zd Aq (Zd Aq (λf=>Af f 0) (λf=>Af f 2)) (λ_=>Z<|.int 0)) f).bind Zx) (Zn 0) (λ_=>Z yB) VQ) f) (Z [])) [s0,.val<|.lst (Zo KV) .d,.val<|.int (k:Int)])=Z yC:=by
  erw[Zv,ZG,j,Zd,m,o,Ay,n,s,t,y,q0,z,K,q1,H,ZH,AU,Zh,Zb,BV,pk,i,N,w,ZW,C8,BR]
 have c3:BR (AF<|(Zd (DQ yB) (Zd Aq (Zd Aq (λf=>Af f 0) (λf=>Af f 2)) (λ_=>Z<|.int 0)) (λf=>Af f 1)) [s0,.val<|.lst (Zo KV) .d,.val<|.int (k:Int)]) (AF<|(Zd Bz (Zd DP (λf=>Af f 1) (Zd Aq (Zd Aq (λf=>Af f 0) (λf=>Af f 2)) (λ_=>Z<|.int 0))) (Zd Aq (Zd Aq (λf=>Af f 0) (λf=>Af f 2)) (λ_=>Z<|.int 1))) [s0,.val<|.lst (Zo KV) .d,.val<|.int (k:Int)])=Z yC:=by
  erw[Zd,m,p1,o,Ay,n,s,t,A,Q,G,AF,BR]
 unfold Qr;rw[c1,ZE,Zg,c2,ZE,Zg,c3,ZE,Zg,Y,ZE,Zg]
theorem hD(n:Nat)(u:n<=1000)(s0:Sl)(acc:U Bq)(v:∀r,Af (s0::r) 0=Z (.lst (Z4 acc)))(i:(ZC acc).Nodup)(w:∀k∈ZC acc,(∀a∈k,Gd a)/\k.length=n):∀(b pre:U (U At)) (o:Sl),ZB Ba (ZC acc)=pre++b->∃f,Z9 (Zn 2) Qr ((FN pre.length b.length).map λk:Nat=>D.int (k:Int)) [s0,.val (.lst (Zo (acc.map (ZR vC))) .d),o]=.next [s0,.val (.lst (Zo (acc.map (ZR vC))) .d),f]
 |[],pre,o,_=>⟨o,rfl⟩
 |a::b,pre,o,g=>by
  have c:∀k∈ZB Ba (ZC acc),(∀a∈k,Gd a)/\k.length=n:=λk C=>w k<|(ZP Ba _).mem_iff.mp C;have e:a∈ZB Ba (ZC acc):=by rw[g];simp
  obtain⟨p,j⟩:=Ra e;have l:∀(pre b:U (U At)) (a:U At),ZB Ba (ZC acc)=pre++a::b->Aq (.lst<|Z4 acc) (.int (pre.length:Int))=Z (.tup [Ak a,vC<|(Db acc a).getD (0,[])]):=λpre b a g=>by
   refine C3 ?_;unfold Z4;rw[g];simp
  have y:=l pre b a g;rw[j]at y;have E:pre.length=0\/∃q d,Aq (.lst<|Z4 acc) (.int<|(pre.length:Int)-1)=Z (.tup [Ak q,d])/\(∀x∈q,Gd x)/\(∀x∈a,Gd x)/\q.length=a.length/\Ba q a=yB:=by
   rcases List.eq_nil_or_concat pre with rfl|⟨s,q,rfl⟩
   ·exact .inl rfl
   ·right;rw[List.concat_eq_append]at g ⊢;have h:ZB Ba (ZC acc)=s++q::(a::b):=by rw[g];simp
    have m:q∈ZB Ba (ZC acc):=by rw[h];simp
    have t:(((s++[q]).length:Nat):Int)-1=(s.length:Int):=by simp
    rw[t];have A:=Ml Ed<|ZC acc;have hd:=(ZP Ba _).nodup_iff.mpr i;rw[h]at A hd;have G:=(List.pairwise_cons.mp (List.pairwise_append.mp A).2.1).1 a A8;have H:q≠a:=λz=>(Gc.mp (GH.mp hd).2.1).1 (by rw[z];exact A8);refine⟨q,_,l s (a::b) q h,(c q m).1,(c a e).1,by rw[(c q m).2,(c a e).2],?_⟩;cases I:Ba q a with
    |true=>rfl
    |false=>exact absurd (Ed.anti _ _ I G) H
  have t:=u5 s0 (Z4 acc) v acc pre.length a p y j (by rw[(c a e).2];exact u) E;obtain⟨f,B⟩:=hD n u s0 acc v i w b (pre++[a]) (.val<|.int (pre.length:Int)) (by rw[g];simp);refine⟨f,?_⟩;erw[Bp,Lc,AI,Z9,Zn,Bk,Bb,t];rw[GA]at B;exact B
theorem hG(n:Nat)(j:n<=1000)(s0:Sl)(acc:U Bq)(h:s0=.val (.lst (Z4 acc))\/s0=.lent (Z4 acc))(f:(ZC acc).Nodup)(l:∀k∈ZC acc,(∀a∈k,Gd a)/\k.length=n)(w:acc.length<=1000):Mc [s0,.val (.lst (Zo (acc.map (ZR vC))) .d)]=Z (.val (.bl yB)):=by
 have m:∀r,Af (s0::r) 0=Z (.lst<|Z4 acc):=λr=>by rcases h with rfl|rfl<;>rfl
 obtain⟨o,e⟩:=hD n j s0 acc m f l (ZB Ba<|ZC acc) [] .no rfl;have c:(ZB Ba<|ZC acc).length=acc.length:=by rw[(ZP Ba _).length_eq];unfold ZC;rw[Bd]
 rw[c]at e;have q:(FN ([]:U (U At)).length acc.length)=BU acc.length:=by rw[J7];rfl
 rw[q]at e;have i:=L6 (acc.length:Int) (by lia) (by lia);rw[Gi]at i;have s:ZQ [.lst<|Z4 acc]=Z (.int (acc.length:Int)):=by
  show Z (D.int ((Z4 acc).length:Int))=_
  unfold Z4;rw[Bd,c]
 have l1:Nv [.lst (Zo<|acc.map<|ZR vC) .d]=Z (.int (acc.length:Int)):=by
  have:(acc.map<|ZR vC).all (λp=>!El p.1)=yB:=by rw[FF,CK];exact λe _=>rfl
  erw[Nv,HS,Ay,this,if_true,Bd]
 have g:Bz (.int (acc.length:Int)) (.int (acc.length:Int))=Z (.bl yC):=by simp
 have t:Co [.lst<|Z4 acc,.ty "list"]=Z (.bl yB):=rfl;have u:∀b,Z5 (Z<|.bl b)=Z b:=λ_=>rfl;have v:∀d:D,Zy [Sl.val d]=Z [d]:=λ_=>rfl;generalize (acc.length:Int)=N,D.lst (Zo<|acc.map<|ZR vC) .d=R,Z4 acc=T,((BU acc.length).map λk:Nat=>D.int (k:Int))=x at *;refine D3 rfl ?_;show Qs [s0,.val R,.no]=_
 rcases h with rfl|rfl<;>erw[Qs,Zv,Zd,Zb,Ap,AN,AG,Ay,AU,Zh,BV,pk,t,u,ZW,C8,s,l1,g,AF,BR,ZE,Zg,Cb,v,i,e,ZD]
structure Ends(as:List Int)(m M:Int):Prop where
 m1:m∈as
 m2:∀a∈as,m<=a
 M1:M∈as
 M2:∀a∈as,a<=M
theorem Ends.uniq{a:U Int}(h:Ends a m M)(h':Ends a b c):m=b/\M=c:=by
 have a1:=h.m2 _ h'.m1;have a2:=h'.m2 _ h.m1;have a3:=h.M2 _ h'.M1;have a4:=h'.M2 _ h.M1;lia
theorem hJ(x:Int):∀xs:U Int,Ends (x::xs) (xs.foldl mn x) (xs.foldl mx x):=by
 intro xs;induction xs generalizing x with|nil=>exact⟨by simp,by simp,by simp,by simp⟩|cons y i d=>
  have a:=d<|mn x y;have b:=d<|mx x y;have f:=fZ x y;have g:=f4 x y;erw[JL];refine⟨?_,λz c=>?_,?_,λz c=>?_⟩
  ·rcases Bh.mp a.m1 with e|e
   ·rw[e,f];rcases Int.le_total x y with z|z
    ·rw[show min x y=x by lia];simp
    ·rw[show min x y=y by lia];simp
   ·exact A9 _<|A9 _ e
  ·have h:=a.m2 (mn x y) A8;rcases Bh.mp c with rfl|c
   ·lia
   ·rcases Bh.mp c with rfl|c
    ·lia
    ·exact a.m2 z<|A9 _ c
  ·rcases Bh.mp b.M1 with e|e
   ·rw[e,g];rcases Int.le_total x y with z|z
    ·rw[show max x y=y by lia];simp
    ·rw[show max x y=x by lia];simp
   ·exact A9 _<|A9 _ e
  ·have h:=b.M2 (mx x y) A8;rcases Bh.mp c with rfl|c
   ·lia
   ·rcases Bh.mp c with rfl|c
    ·lia
    ·exact b.M2 z<|A9 _ c
def u6{a b:U Int}(h:a.Perm b):a.sum=b.sum:=by
 induction h with
 |nil=>rfl
 |cons x _ c=>simp[c]
 |swap x y l=>erw[List.sum_cons];lia
 |trans _ _ d i2=>rw[d,i2]
def Er(acc:U Bq):U (U At×Int):=acc.flatMap λe=>(e.2.1::e.2.2).map λx=>(e.1,x)
def Le(e:Bq)(r:U Bq):Er (e::r)=(e.2.1::e.2.2).map (λx=>(e.1,x))++Er r:=by simp[Er]
noncomputable def Mn:U Bq->U At->Int->U Int->U Bq
 |[],k,x,a=>[(k,x,a)]
 |e::r,k,x,a=>if e.1=k then(e.1,e.2.1,e.2.2++x::a)::r else e::Mn r k x a
theorem hQ(k:U At)(x:Int):∀acc:U Bq,CQ acc k x=Mn acc k x []
 |[]=>rfl
 |e::r=>by unfold CQ Mn;rw[hQ k x r]
theorem hT(k:U At)(x:Int)(xs:U Int):∀acc:U Bq,(Er (Mn acc k x xs)).Perm ((x::xs).map (λy=>(k,y))++Er acc)
 |[]=>by simp[Mn,Er]
 |e::r=>by
  unfold Mn;by_cases c:e.1=k
  ·rw[if_pos c,Le,Le];subst c;show((e.2.1::(e.2.2++x::xs)).map (λy=>(e.1,y))++Er r).Perm _
   rw[show e.2.1::(e.2.2++x::xs)=(e.2.1::e.2.2)++(x::xs) by simp,Fj,<- JZ];exact List.perm_append_comm.append_right _
  ·rw[if_neg c,Le,Le];refine((hT k x xs r).append_left _).trans ?_;rw[<- JZ,<- JZ];exact List.perm_append_comm.append_right _
def u7{x y:Int}{xs ys:U Int}(h:(x::xs).Perm (y::ys)):Dj x xs=Dj y ys:=by
 have d:=hJ x xs;have b:=hJ y ys;have e:Ends (x::xs) (ys.foldl mn y) (ys.foldl mx y):=⟨h.mem_iff.mpr b.m1,λa c=>b.m2 a<|h.mem_iff.mp c,h.mem_iff.mpr b.M1,λa c=>b.M2 a<|h.mem_iff.mp c⟩;obtain⟨f,g⟩:=d.uniq e;have i:=u6 h;have j:=h.length_eq;erw[Bp]at j;unfold Dj;rw[f,g,i,show xs.length=ys.length by lia]
def GU(k:U At)(l:U (U At×Int)):U Int:=l.filterMap λp=>if p.1=k then Z p.2 else yA
def hU(k:U At)(a b:U (U At×Int)):GU k (a++b)=GU k a++GU k b:=by simp[GU]
theorem hV(k:U At):∀xs:U Int,GU k (xs.map λx=>(k,x))=xs
 |[]=>rfl
 |x::xs=>by
  have a:=hV k xs;unfold GU at a ⊢;erw[AI,Om,if_true,a]
theorem Xt{k a:U At}(h:a≠k):∀xs:U Int,GU k (xs.map λx=>(a,x))=[]
 |[]=>rfl
 |x::xs=>by
  have b:=Xt h xs;unfold GU at b ⊢;erw[AI,Om,h,if_false,b]
theorem hW{k:U At}:∀{acc:U Bq},k∉ZC acc->GU k (Er acc)=[]
 |[],_=>rfl
 |e::r,h=>by
  erw[ZC,AI,Bh,not_or]at h;rw[Le,hU,Xt<|CT h.1,hW h.2];rfl
theorem Xu{k:U At}{p:Int×U Int}:∀{acc:U Bq},(ZC acc).Nodup->Db acc k=Z p->GU k (Er acc)=p.1::p.2
 |e::r,a,h=>by
  erw[ZC,AI,Gc]at a;unfold Db at h;rw[Le,hU];by_cases c:e.1=k
  ·rw[if_pos c]at h;cases h;subst c;rw[hV,hW a.1,CF]
  ·rw[if_neg c]at h;rw[Xt c,Xu a.2 h];rfl
theorem Cw{k:U At}:∀{acc:U Bq},k∈ZC acc↔∃x,(k,x)∈Er acc
 |[]=>by simp[ZC,Er]
 |e::r=>by
  have b:=Cw (k:=k) (acc:=r);rw[Le];have a:ZC (e::r)=e.1::ZC r:=rfl;rw[a];constructor
  ·intro h;rcases Bh.mp h with rfl|h
   ·exact⟨e.2.1,Gy _<|List.mem_map.mpr ⟨e.2.1,A8,rfl⟩⟩
   ·obtain⟨x,c⟩:=b.mp h;exact⟨x,Df _ c⟩
  ·rintro⟨x,h⟩;rcases Dk.mp h with h|h
   ·obtain⟨y,_,d⟩:=List.mem_map.mp h;cases d;exact A8
   ·exact A9 _<|b.mpr ⟨x,h⟩
def u8{a:U Bq}(d:(ZC acc).Nodup)(f:(ZC a).Nodup)(h:(Er acc).Perm (Er a)):Z4 acc=Z4 a:=by
 have m:=(List.perm_ext_iff_of_nodup d f).mpr λk=>by
  rw[Cw,Cw];exact⟨λ⟨x,c⟩=>⟨x,h.mem_iff.mp c⟩,λ⟨x,c⟩=>⟨x,h.mem_iff.mpr c⟩⟩
 have g:=fP Ed ((ZP Ba _).trans m)<|Ml Ed _;unfold Z4;rw[g];refine List.map_congr_left λk b=>?_;obtain⟨i,j⟩:=Ra b;obtain⟨p,e⟩:=Ra (acc:=acc) (by rw[g];exact b);rw[e,j];have l:(GU k<|Er acc).Perm (GU k<|Er a):=h.filterMap _;rw[Xu d e,Xu f j]at l;show D.tup [Ak k,Dj p.1 p.2]=D.tup [Ak k,Dj i.1 i.2]
 rw[u7 l]
theorem Of:∀(a:U Row)(acc:U Bq),(Er (Z3 a acc)).Perm (a++Er acc)
 |[],acc=>.refl _
 |r::a,acc=>by
  refine(Of a<|CQ acc r.1 r.2).trans ?_;rw[hQ];refine((hT _ _ [] acc).append_left _).trans ?_;erw[AI,B3,List.singleton_append,EH];exact List.perm_middle
def u9{b a:U Row}(h:b.Perm a)(c:∀r∈b,r.1.length=n):Z4 (Z3 b [])=Z4 (Z3 a []):=by
 refine u8 (A5.tab b (A5.nil n) c).nd (A5.tab a (A5.nil n) λr f=>c r<|h.mem_iff.mpr f).nd ?_;have g:Er []=[]:=rfl;have d:=Of b [];have e:=Of a [];rw[g,CF]at d e;exact d.trans<|h.trans e.symm
theorem Xv(c:Int)(n:Nat)(i:n<=100):∃ws:U Int,GQ [.val (.int c),.val (.int (n:Int))]=Z (.val (.lst (ws.map D.int)))/\ws.length=n/\∀y∈ws,0<=y:=by
 have d:EX [.int<|(n:Int)+2]=Z ((FN 0<|n+2).map λ(k:Nat)=>D.int (k:Int)):=by
  have:=L7 (n+2) (by lia);rw[J7]at this;exact this
 obtain⟨j,f,e⟩:=WZ (.val<|.int c) (.val<|.int (n:Int)) (n+2) 0 (c%2147483549+17) [] .no (by simp;lia);have b:=WX (n+2) 0<|c%2147483549+17;have a:=WY (n+2) 0<|c%2147483549+17;erw[DG,B3]at e;generalize GR (c%2147483549+17) 0 (n+2)=W at *;have g:EY (W.map D.int) (Z 2) yA=(W.drop 2).map D.int:=by rw[PJ,US _ _ (by lia)];rfl
 have l:=Dt c 2147483549 (by ext);have m:(W.map D.int).length<=AB:=by rw[Bd,b];exact BX (show n+2<=1000 by lia) (by ext)
 refine⟨W.drop 2,?_,by simp[b],λy h=>a y<|List.mem_of_mem_drop h⟩;simp[GQ,AR,P0,Ve,Vd,Vc,Vb,U7,U8,U9,Va,d,e,g]
theorem hX(L:U (U (U At)))(h:∀a∈L,∃p,GL a p)(ws:U Int)(n:L.length<=ws.length):∀(e pre:U (U (U At))),L=pre++e->∃s,A0 e s/\C4 (Zn 0) (λ_=>Z yB) Qg [.no,.val (.lst (L.map LD)),.val (.lst (ws.map D.int))] ((FN pre.length e.length).map λk:Nat=>D.int (k:Int))=Z (s.map aD)
 |[],pre,_=>⟨[],.nil,rfl⟩
 |a::e,pre,g=>by
  obtain⟨s,o,i⟩:=hX L h ws n e (pre++[a]) (by rw[g];simp);rw[GA]at i;obtain⟨p,l⟩:=h a (by rw[g];simp);have f:pre.length<ws.length:=by
   have:L.length=pre.length+(e.length+1):=by rw[g];simp
   lia
  have q:Aq (.lst<|L.map LD) (.int (pre.length:Int))=Z (LD a):=C3 (by rw[g];simp);have r:Aq (.lst<|ws.map D.int) (.int (pre.length:Int))=Z (.int<|ws.getD pre.length 0):=C3 (by rw[DL,Dl f];simp[Gg,f]);generalize ws.getD pre.length 0=x at *;have t:ZQ [LD a]=Z (.int (a.length:Int)):=by simp
  have u:=l.n1;have v:=l.n6;have b:(0:Int)<(a.length:Int):=by lia
  have w:=Dt x (a.length:Int) b;have C:=Gu x (show(a.length:Int)≠0 by lia);have m1:=Hv x b;generalize x%(a.length:Int)=j at *;obtain⟨c,rfl⟩:∃c:Nat,j=(c:Int):=⟨j.toNat,by lia⟩;have m:c<a.length:=by lia
  have d:a[c]∈a:=IL m;have y:Aq (LD a) (.int (c:Int))=Z (Ak a[c]):=C3 (by rw[DL,Dl m];rfl);have z:=Xm<|l.ln _ d;refine⟨hd a[c]::s,.cons (Gq d) o,?_⟩;have A:Qg [.val<|.int (pre.length:Int),.val<|.lst<|L.map LD,.val<|.lst<|ws.map D.int]=Z (aD<|hd a[c]):=by
   generalize LD a=B,ws.map D.int=W,L.map LD=I at *;erw[Qg,Zd,Zv,Zb,Zh,Af,AN,AG,Ay,AU,BV,pk,q,r,t,w,y,z]
  erw[Bp,Lc,AI,C4,Zn,Bb,A];rw[show(pre.length+1:Nat)=pre.length+[a].length from rfl];erw[Bp,B9]at i ⊢;rw[i];rfl
theorem va(h:CP L)(c:Int):∃r:Row,A0 L r.1/\Vw [.val (.lst (L.map LD)),.val (.int c)]=Z (.val (Zm r)):=by
 obtain⟨e,y,K,_⟩:=Xv c 6 (by lia);have Q:=h.n4;obtain⟨s,m,w⟩:=hX L h.good e (by lia) L [] rfl;have z:(FN ([]:U (U<|U At)).length L.length)=BU L.length:=by rw[J7];rfl
 rw[z]at w;have f:ZQ [.lst<|L.map LD]=Z (.int (L.length:Int)):=by simp
 have x:=L6 (L.length:Int) (by lia) (by lia);rw[Gi]at x;have q1:=ZU ((BU L.length).map λk:Nat=>D.int (k:Int)) (by simp;lia);have A:∀d:D,Zy [Sl.val d]=Z [d]:=λ_=>rfl;have B:Fh [.lst<|s.map aD]=Z (Ak s):=rfl;have C:Aq (.lst<|e.map D.int) (.int 4)=Z (.int<|e.getD 4 0):=J8 (by lia) (by lia);have E:Aq (.lst<|e.map D.int) (.int 5)=Z (.int<|e.getD 5 0):=J8 (by lia) (by lia);generalize e.getD 5 0=g,e.getD 4 0=l at *;have G:IF (.int 10) (.int 30)=Z (.int<|10^30):=W0 (by ext);have H:=Dt l 7 (by ext);have m2:=Dt l 2 (by ext);have n:=Dt c (10^30) (by ext);have I:=Dt g 4 (by ext);have F:∀i:Int,Ei (.int i) (.int 3)=Z (.int<|i-3):=λ_=>rfl;have M:∀i:Int,Ei (.int 0) (.int i)=Z (.int<|0-i):=λ_=>rfl;have T:=Gu g (show(4:Int)≠0 by ext);have P:=Hv g (show(0:Int)<4 by ext);generalize c%10^30=a30,l%2=a2,l%7=a7,g%4=j at *;generalize Y:(10:Int)^30=X at *;have o:∀a b c d:Int,Zy [Sl.val<|.int a,.val<|.int b,.val<|.int c,.val<|.int d]=Z [D.int a,.int b,.int c,.int d]:=λ_ _ _ _=>rfl;have q4:∀a b c d:D,Zu (Z [a,b,c,d])=Z [a,b,c,d]:=λ_ _ _ _=>ZU _ (by simp);obtain⟨v,N⟩:∃v,Aq (.lst [.int<|a7-3,.int a30,.int<|0-a30,.int a2]) (.int j)=Z (.int v):=by
  rcases(show j=0\/j=1\/j=2\/j=3 by lia)with q|q|q|q<;>rw[q]
  ·exact⟨_,rfl⟩
  ·exact⟨_,rfl⟩
  ·exact⟨_,rfl⟩
  ·exact⟨_,rfl⟩
 have p:Zy [Sl.val<|Ak s,.val<|.int v]=Z [Ak s,.int v]:=rfl;have q2:Zu (Z [Ak s,.int v])=Z [Ak s,.int v]:=ZU _ (by simp);refine⟨(s,v),m,?_⟩;show _=Z (Rv.val<|.tup [Ak s,.int v])
 generalize L.map LD=R,e.map D.int=W,(BU L.length).map (λk:Nat=>D.int (k:Int))=RG,Ak s=S,s.map aD=SA at *;refine D3 rfl ?_;show Qh [.val<|.lst R,.val<|.int c,.no,.no]=_
 have t:ZK 1 [0,2] [.val<|.lst R,.val<|.int c,.val<|.lst W,.no]=[.no,.val<|.lst R,.val<|.lst W]:=rfl;have u:GQ [.val<|.int c,.val<|.int 6]=Z (.val<|.lst W):=y;erw[Qh,Zp,Zb,Ap,Af,Bn,Zh,AN,AG,Ay,AU,u,C6,Z8,Bk,Bb,Zg,Zv,ZG,t,BV,pk,f,A,x,q1,w,ZH,B,Zd,C,E,G,H,m2,n,I,F,M,o,q4,N,p,q2,ZD]
def vb(a:U Row):Bz (.lst (a.map Zm)) (.lst [])=Z (.bl (!a.isEmpty)):=by
 have o:=Xo 9 a;cases a with|nil=>rfl|cons r b=>
  have c:AT 12 (.lst<|(r::b).map Zm)=yB:=o;erw[Bz,E4,c,Bool.true_and];simp[AE]
def hY(q:U D)(e:U Row)(d:U DU)(c:Int)(f g:Sl)(r:Row)(a:Ac)(m:e.length<1000)(h:d.length<1000)(b:Bool):Dv 3 (BS (.tup [Fp b]) (Zm r)) [.val (.lst q),.own (e.map Zm) .l (Z a),f,.own (d.map Bv),.val (.int c),g,.val (Zm r)]=.next [.val (.lst q),.own (e.map Zm) .l (Z a),f,.own ((d++[(b,r)]).map Bv),.val (.int c),g,.val (Zm r)]:=by
 have i:BS (.tup [Fp b]) (Zm r)=Z (Bv (b,r)):=by
  have j:(3:Nat)<=AB:=by ext
  simp[BS,Zm,Bv,j]
 have k:(d.map Bv).length<AB:=by rw[Bd];exact CC h (by ext)
 rw[i,Fj];erw[Dv,AN,AG,if_pos k,Bk,Bb,AI,B3]
theorem h5:∀(l:U Row)(i:Nat),(l.map Zm).eraseIdx i=(l.eraseIdx i).map Zm
 |[],_=>rfl
 |_::_,0=>rfl
 |x::l,i+1=>by erw[AI,gL,h5 l i]
theorem h6:∀(l:U Row)(i:Nat)(h:i<l.length),(l[i]::l.eraseIdx i).Perm l
 |[],_,h=>absurd h<|Nat.not_lt_zero _
 |_::_,0,_=>.refl _
 |x::l,i+1,h=>by
  have a:=h6 l i (by simpa using h);erw[List.getElem_cons_succ,gL];exact(List.Perm.swap x _ _).trans<|a.cons x
theorem vc(h:CP L)(b:U Row)(g:U DU)(c:Int)(s:Sl)(hr:∀r∈b,A0 L r.1)(h1:b.length<900)(h2:g.length<900):∃(u:U Row) (ch:DU) (F M:Sl),(∀(a:Ac) (o A:Sl),HZ [.val (.lst (L.map LD)),.own (b.map Zm) .l (Z a),s,.own (g.map Bv),.val (.int c),o,A]=.next [.val (.lst (L.map LD)),.own (u.map Zm) .l (Z a),s,.own ((g++[ch]).map Bv),.val (.int c),F,M])/\u.Perm (Bu b ch)/\(ch.1=yC->ch.2∈b)/\A0 L ch.2.1:=by
 obtain⟨m,hs,hl,_⟩:=Xv c 3 (by lia);have v:GQ [.val<|.int c,.val<|.int 3]=Z (.val<|.lst<|m.map D.int):=hs;have x0:Aq (.lst<|m.map D.int) (.int 0)=Z (.int<|m.getD 0 0):=J8 (by lia) (by lia);have x1:Aq (.lst<|m.map D.int) (.int 1)=Z (.int<|m.getD 1 0):=J8 (by lia) (by lia);obtain⟨k,I,p⟩:=va h<|c/3;have E:IE (.int c) (.int 3)=Z (.int<|c/3):=rfl;generalize m.getD 1 0=y1,m.getD 0 0=T at *;have m3:=Dt T 3 (by ext);have m9:=Dt T 9 (by ext);have N:=vb b;have w:ZQ [.lst<|b.map Zm]=Z (.int (b.length:Int)):=by simp
 have G:∀i j:Int,Dw (.int i) (.int j)=Z (.bl<|decide<|i=j):=λi j=>by simp
 have f:∀(r:Row) (a:Ac) (o:Sl),Dv 1 (Z<|Zm r) [.val<|.lst<|L.map LD,.own (b.map Zm) .l<|some a,s,.own<|g.map Bv,.val<|.int c,o,.val<|Zm r]=.next [.val<|.lst<|L.map LD,.own ((b++[r]).map Zm) .l<|some a,s,.own<|g.map Bv,.val<|.int c,o,.val<|Zm r]:=λr a o=>by
  have hz:(b.map Zm).length<AB:=by rw[Bd];exact CC (show b.length<1000 by lia) (by ext)
  rw[Fj];erw[Dv,AN,AG,if_pos hz,Bk,Bb,AI,B3]
 have P:∀d:D,Zu (Z [d])=Z [d]:=λ_=>ZU _ (by simp);have q2:∀d e:D,Zu (Z [d,e])=Z [d,e]:=λ_ _=>ZU _ (by simp);have x:∀d:D,Zy [Sl.val d]=Z [d]:=λ_=>rfl;have hv2:∀d e:D,Zy [Sl.val d,.val e]=Z [d,e]:=λ_ _=>rfl;have y:Zu (Zy [])=Z []:=rfl;have H:(D.str "+")=Fp yB:=rfl;have hmi:(D.str "-")=Fp yC:=rfl;have fin:∀r:Row,A0 L r.1->(∀(a:Ac) (o A:Sl),HZ [.val<|.lst<|L.map LD,.own (b.map Zm) .l<|some a,s,.own<|g.map Bv,.val<|.int c,o,A]=.next [.val<|.lst<|L.map LD,.own ((b++[r]).map Zm) .l<|some a,s,.own<|(g++[(yB,r)]).map Bv,.val<|.int c,.val<|.lst<|m.map D.int,.val<|Zm r])->∃(u:U Row) (ch:DU) (F M:Sl),(∀(a:Ac) (o A:Sl),HZ [.val<|.lst<|L.map LD,.own (b.map Zm) .l<|some a,s,.own<|g.map Bv,.val<|.int c,o,A]=.next [.val<|.lst<|L.map LD,.own (u.map Zm) .l<|some a,s,.own<|(g++[ch]).map Bv,.val<|.int c,F,M])/\u.Perm (Bu b ch)/\(ch.1=yC->ch.2∈b)/\A0 L ch.2.1:=λr hsr e=>⟨b++[r],(yB,r),_,_,e,.refl _,(λz=>nomatch z),hsr⟩;have t:∀(r:Row) (a:Ac),Dv 3 (BS (.tup [Fp yB])<|Zm r) [.val<|.lst<|L.map LD,.own ((b++[r]).map Zm) .l<|some a,s,.own<|g.map Bv,.val<|.int c,.val<|.lst<|m.map D.int,.val<|Zm r]=.next [.val<|.lst<|L.map LD,.own ((b++[r]).map Zm) .l<|some a,s,.own<|(g++[(yB,r)]).map Bv,.val<|.int c,.val<|.lst<|m.map D.int,.val<|Zm r]:=λr a=>hY _ (b++[r]) g c s _ r a (by simp;lia) (by lia) yB;cases hE:b.isEmpty with
 |true=>
  rw[hE,C8]at N;refine fin k I λa o A=>?_;have f:=f k a<|.val<|.lst<|m.map D.int;have t:=t k a;generalize (b++[k]).map Zm=R' at *;generalize (g++[(yB,k)]).map Bv=C' at *;generalize Zm k=B,L.map LD=S,m.map D.int=W,g.map Bv=C,b.map Zm=R at *;unfold HZ;erw[Zp,Zb,Ap,Af,Bn,Zh,AN,AG,Ay,AU,v,C6,Z8,Bk,Bb,Zg,Zd,ZH,y,N,AF,B4,ZE,E,p,f,x,P,H,t]
 |false=>
  rw[hE,Mh]at N;have hne:b≠[]:=λz=>by rw[z]at hE;cases hE
  have hpos:0<b.length:=List.length_pos_iff.mpr hne;have Y:(0:Int)<(b.length:Int):=by lia
  have hm:=Dt y1 (b.length:Int) Y;have i0:=Gu y1 (show(b.length:Int)≠0 by lia);have i1:=Hv y1 Y;generalize y1%(b.length:Int)=j at *;obtain⟨n,rfl⟩:∃n:Nat,j=(n:Int):=⟨j.toNat,by lia⟩;have hj:n<b.length:=by lia
  have hq:Aq (.lst<|b.map Zm) (.int (n:Int))=Z (Zm b[n]):=C3 (by rw[DL,Dl hj];rfl);have K:b[n]∈b:=IL hj;have hpop:(b.map Zm)[n]?=Z (Zm b[n]):=by rw[DL,Dl hj];rfl
  have hers:(b.map Zm).eraseIdx n=(b.eraseIdx n).map Zm:=by exact h5 b n
  have hper:(b.eraseIdx n).Perm (b.erase b[n]):=by
   have p1:=h6 b n hj;have p2:=List.perm_cons_erase K;exact(p1.trans p2).cons_inv
  generalize b[n]=q at *;have Q:=hr q K;have z0:Aq (Zm q) (.int 0)=Z (Ak q.1):=rfl;have z1:Aq (Zm k) (.int 1)=Z (.int k.2):=rfl;by_cases c0:T%3=0
  ·refine⟨b.eraseIdx n,(yC,q),.val<|.lst<|m.map D.int,.val<|Zm q,λa o A=>?_,hper,λ_=>K,Q⟩;have tl':=hY (L.map LD) (b.eraseIdx n) g c s (.val<|.lst<|m.map D.int) q a (by have:=List.length_eraseIdx_le b n;lia) (by lia) yC;have hgd:(0:Int)<=(n:Int)/\(n:Int)<((b.map Zm).length:Int)/\(n:Int)<1000000000:=by rw[Bd];lia
   rw[<- hers]at tl' ⊢;generalize (g++[(yC,q)]).map Bv=C' at *;generalize Zm q=B,L.map LD=S,m.map D.int=W,g.map Bv=C,b.map Zm=R at *;unfold HZ;erw[Zp,Zb,Ap,Af,Bn,Zh,AN,AG,Ay,AU,v,C6,Z8,Bk,Bb,Zg,Zd,ZH,y,N,x0,m3,G,decide_eq_true c0,AF,B4,ZE,Px,Zv,BV,pk,w,x1,hm,Lz hgd,Gi,hpop,KU,x,P,hmi,tl']
  ·by_cases c9:T%9=2
   ·have c1:¬ T%3=1:=by lia
    refine fin q Q λa o A=>?_;have f:=f q a<|.val<|.lst<|m.map D.int;have t:=t q a;generalize (b++[q]).map Zm=R' at *;generalize (g++[(yB,q)]).map Bv=C' at *;generalize Zm q=B,L.map LD=S,m.map D.int=W,g.map Bv=C,b.map Zm=R at *;unfold HZ;erw[Zp,Zb,Ap,Af,Bn,Zh,AN,AG,Ay,AU,v,C6,Z8,Bk,Bb,Zg,Zd,ZH,y,N,x0,m3,m9,G,decide_eq_false c0,decide_eq_false c1,decide_eq_true c9,AF,B4,ZE,E,p,Zv,BV,pk,w,x1,hm,hq,f,x,P,H,t]
   ·by_cases c1:T%3=1
    ·refine fin (q.1,k.2) Q λa o A=>?_;have hB:D.tup [Ak q.1,.int k.2]=Zm (q.1,k.2):=rfl;have f:=f (q.1,k.2) a<|.val<|.lst<|m.map D.int;have t:=t (q.1,k.2) a;generalize (b++[(q.1,k.2)]).map Zm=R' at *;generalize (g++[(yB,(q.1,k.2))]).map Bv=C' at *;generalize Zm k=B0,Zm q=B1,Zm (q.1,k.2)=B,L.map LD=S,m.map D.int=W,g.map Bv=C,b.map Zm=R at *;unfold HZ;erw[Zp,Zb,Ap,Af,Bn,Zh,AN,AG,Ay,AU,v,C6,Z8,Bk,Bb,Zg,Zd,ZH,y,N,x0,m3,m9,G,decide_eq_false c0,decide_eq_true c1,decide_eq_false c9,AF,B4,ZE,E,p,Zv,BV,pk,w,x1,hm,hq,z0,z1,hv2,q2,hB,f,x,P,H,t]
    ·refine fin k I λa o A=>?_;have f:=f k a<|.val<|.lst<|m.map D.int;have t:=t k a;generalize (b++[k]).map Zm=R' at *;generalize (g++[(yB,k)]).map Bv=C' at *;generalize Zm k=B,L.map LD=S,m.map D.int=W,g.map Bv=C,b.map Zm=R at *;unfold HZ;erw[Zp,Zb,Ap,Af,Bn,Zh,AN,AG,Ay,AU,v,C6,Z8,Bk,Bb,Zg,Zd,ZH,y,N,x0,m3,m9,G,decide_eq_false c0,decide_eq_false c1,decide_eq_false c9,AF,B4,ZE,E,p,f,x,P,H,t]
theorem h7{L:U (U (U At))}(h:CP L)(s:Sl):∀(ns:U Int)(d:U Row)(e:U DU),(∀r∈d,A0 L r.1)->d.length+ns.length<900->e.length+ns.length<900->∃(f:U Row) (b:U DU),(∀(a:Ac) (t m o:Sl),∃g i j,Z9 (Zn 4) HZ (ns.map D.int) [.val (.lst (L.map LD)),.own (d.map Zm) .l (Z a),s,.own (e.map Bv),t,m,o]=.next [.val (.lst (L.map LD)),.own (f.map Zm) .l (Z a),s,.own ((e++b).map Bv),g,i,j])/\f.Perm (b.foldl Bu d)/\Kg d b/\(∀c∈b,A0 L c.2.1)/\b.length=ns.length
 |[],d,e,_,_,_=>⟨d,[],λa t m o=>⟨t,m,o,by rw[CF];rfl⟩,.refl _,trivial,(λ_ h=>nomatch h),rfl⟩
 |n::ns,d,e,x,z,A=>by
  erw[Bp]at z A;obtain⟨k,p,B,C,E,p1,m1,q⟩:=vc h d e n s x (by lia) (by lia);have y:k.length<=d.length+1:=by rw[p1.length_eq];exact Xq d p
  have u:∀r∈k,A0 L r.1:=λr G=>by
   rcases gN (p1.mem_iff.mp G)with v|v
   ·exact x r v
   ·rw[v];exact q
  obtain⟨f,b,H,I,F,Nl,M⟩:=h7 h s ns k (e++[p]) u (by lia) (by simp;lia);refine⟨f,p::b,λa t m o=>?_,I.trans<|Xr b p1,⟨m1,Xs b p1 F⟩,λc w=>?_,by simp[M]⟩
  ·obtain⟨g,i,j,N⟩:=H a (.val<|.int n) B C;refine⟨g,i,j,?_⟩;erw[AI,Z9,Zn,Bk,Bb,E a m o];rw[show e++p::b=e++[p]++b by simp];exact N
  ·rcases Bh.mp w with rfl|w
   ·exact q
   ·exact Nl c w
theorem vd(h:CP L)(ns:U Int)(f:U Row)(n:∀r∈f,A0 L r.1)(o:f.length+ns.length<900):∃(b:U Row) (d:U DU),(∀a:Ac,Qt [.val (.lst (L.map LD))] (.own (f.map Zm) .l (Z a)) [.val (.lst (ns.map D.int))]=Z (b.map Zm,.l,.lst (d.map Bv)))/\b.Perm (d.foldl Bu f)/\Kg f d/\(∀c∈d,A0 L c.2.1)/\d.length=ns.length:=by
 obtain⟨b,d,e,p,k,q,l⟩:=h7 h (.val<|.lst<|ns.map D.int) ns f [] n o (by simp;lia);refine⟨b,d,λa=>?_,p,k,q,l⟩;obtain⟨g,i,j,m⟩:=e a .no .no .no;rw[B3,DG]at m;generalize b.map Zm=s at *;generalize L.map LD=I,ns.map D.int=W,d.map Bv=C,f.map Zm=R at *;have t:eL [.val<|.lst I,.own R .l<|some a,.val<|.lst W,.no,.no,.no,.no]=.next [.val<|.lst I,.own R .l<|some a,.val<|.lst W,.own [],.no,.no,.no]:=rfl;have u:VR [.val<|.lst I,.own R .l<|some a,.val<|.lst W,.own [],.no,.no,.no]=.next [.val<|.lst I,.own s .l<|some a,.val<|.lst W,.own C,g,i,j]:=by
  erw[VR,Cb,Bj,AN,AG,Ay,Zx,m]
 erw[Qt,E1,Bp,B9,DK,Ka,if_true,Ep,Gv,D2,CF,DG,EH,VS,En,t,u,GF,Bn,AN,AG,Bk,Bb,Ay,EZ]
def ve{a c:Type}(f:a->c)(lo b:O Int)(st:Int)(xs:U a):EO lo b st (xs.map f)=(EO lo b st xs).map f:=by
 unfold EO;rw[Bd,List.map_filterMap];congr 1;funext i;rw[DL]
theorem vf{b:Type}(k p:Nat)(f:0<p)(xs:U b):(EO (Z (k:Int)) yA (p:Int) xs).length<=(xs.length+p-1)/p:=by
 unfold EO;refine BX (List.length_filterMap_le _ _) ?_;unfold Uz;have c:(E9 (Z (k:Int)) yA (Z (p:Int)) xs.length).2.1=(xs.length:Int):=by
  simp[E9];lia
 have d:(E9 (Z (k:Int)) yA (Z (p:Int)) xs.length).2.2=(p:Int):=by simp[E9]
 have g:0<=(E9 (Z (k:Int)) yA (Z (p:Int)) xs.length).1:=by simp[E9];lia
 rw[c,d];generalize (E9 (Z (k:Int)) yA (Z (p:Int)) xs.length).1=s at *;unfold sliceRange;have a:(p:Int)>0:=by lia
 have e:(((xs.length+p-1)/p:Nat):Int)=((xs.length:Int)+p-1)/p:=by
  rw[Int.natCast_ediv];congr 1;lia
 erw[if_pos a,Bd,List.length_range];split
 ·exact Int.toNat_le.mpr (by rw[e];exact Int.ediv_le_ediv a (by lia))
 ·exact E7 _
def h8:Fn.contains "rows"=yC:=by decide +kernel
def h9:Fn.contains "table"=yC:=by decide +kernel
def ie:Fn.contains "ladders"=yC:=by decide +kernel
def vg:Fn.contains "kept"=yC:=by decide +kernel
def Lf(m:Ae)(a:Fn.contains m=yC)(L:U (U (U At)))(R T:U D):FH "Book" m (BL L R T)=yB:=by erw[FH,a];simp
def vh(n:Nat)(a:U (U At)):AT (n+2) (LD a)=yB:=by
 show(a.map Ak).all (AT<|n+1)=yB
 rw[FF,CK];exact λl _=>Mg n l
def ig(L:U (U (U At))):Bz (.lst (L.map LD)) (.lst (L.map LD))=Z (.bl yC):=by
 have o:AT 12 (.lst<|L.map LD)=yB:=by
  show(L.map LD).all (AT 11)=yB
  rw[FF,CK];exact λl _=>vh 9 l
 have e:=MU 12 _ o;erw[Bz,E4,o,e,Ec,if_true,C8]
def vi(a:U DU):Bz (.lst (a.map Bv)) (.lst (a.map Bv))=Z (.bl yC):=by
 have o:AT 12 (.lst<|a.map Bv)=yB:=by
  show(a.map Bv).all (AT 11)=yB
  rw[FF,CK];intro c _;have b:=Mg 9 c.2.1;have d:AT 10 (Fp c.1)=yB:=by cases c.1<;>rfl
  show [Fp c.1,Ak c.2.1,.int c.2.2].all (AT 10)=yB
  simp[b,d]
 have e:=MU 12 _ o;erw[Bz,E4,o,e,Ec,if_true,C8]
def Hy(L:U (U (U At)))(a:U Row):Sl:=.own (Ck L ((ZB A7 a).map Zm) (Z4 (Z3 (ZB A7 a) []))) kB
theorem ii(h:CP L)(b:U Row)(c:∀r∈b,A0 L r.1)(m:b.length<64):Md [.lent ((ZB A7 b).map Zm),.lent (b.map Zm)]=Z (.val (.bl yB))/\Md [.val (.lst ((ZB A7 b).map Zm)),.lent (b.map Zm)]=Z (.val (.bl yB))/\∃K:U D,NJ [.val (.lst (L.map LD)),.lent (b.map Zm),.val (AX L)]=Z (.own K .d)/\Mc [.lent (Z4 (Z3 (ZB A7 b) [])),.val (.lst K .d)]=Z (.val (.bl yB))/\Mc [.val (.lst (Z4 (Z3 (ZB A7 b) []))),.val (.lst K .d)]=Z (.val (.bl yB)):=by
 have e:=ZP A7 b;have s:=h.n4;have j:∀t∈ZB A7 b,(∀a∈t.1,Gd a)/\t.1.length=L.length:=λt l=>⟨(c t<|e.mem_iff.mp l).gd h.good,(c t<|e.mem_iff.mp l).len⟩;have f:=Ml Rn b;have g:(ZB A7 b).length<=1000:=by rw[e.length_eq];lia
 have ok:=A5.tab b (A5.nil L.length) λr h=>(c r h).len;have o:=u9 e λr p=>(c r<|e.mem_iff.mp p).len;have i:∀k∈ZC (Z3 b []),(∀a∈k,Gd a)/\k.length=L.length:=λk i=>by
  obtain⟨x,q⟩:=Cw.mp i;have:=(Of b []).mem_iff.mp q;rw[show Er []=[]from rfl,CF]at this;exact⟨(c _ this).gd h.good,(c _ this).len⟩
 rw[o];exact⟨gZ L.length _ _ b (.inr rfl) e.symm f j (by lia) g,gZ L.length _ _ b (.inl rfl) e.symm f j (by lia) g,_,u4 h b c m,hG L.length (by lia) _ _ (.inr rfl) ok.nd i (by have:=ok.len;lia),hG L.length (by lia) _ _ (.inl rfl) ok.nd i (by have:=ok.len;lia)⟩
structure Mo(L:List (List (List At)))(lr:List Row)(A:List (List At)):Prop where
 sub:∀r∈lr,r.1∈A
 spot:∀k∈A,A0 L k
 few:lr.length<=A.length
theorem vj(h:CP L)(g:U Row)(A:U (U At))(o:Mo L g A)(ws:U Int)(k p:Nat)(hp:0<p)(hb:A.length+(ws.length+p-1)/p<64)(s0 s9 P Q S Y:Sl):∃f A' t9 t10 t11 t12 t13,Mo L f A'/\A'.length<=A.length+(ws.length+p-1)/p/\NW [s0,.val (.lst (L.map LD)),.val (AX L),.no,Hy L g,.own (g.map Zm),.val (.lst (ws.map D.int)),.val (.int (p:Int)),.val (.int (k:Int)),s9,P,Q,S,Y,.no]=.next [s0,.val (.lst (L.map LD)),.val (AX L),.no,Hy L f,.own (f.map Zm),.val (.lst (ws.map D.int)),.val (.int (p:Int)),.val (.int (k:Int)),t9,t10,t11,t12,t13,.no]:=by
 have B:∀r∈g,A0 L r.1:=λr l=>o.spot _<|o.sub r l;have hsl:=vf k p hp ws;have E:=o.few;generalize G:EO (Z (k:Int)) yA (p:Int) ws=cl at *;obtain⟨f,i,e1,p1,k1,n,l1⟩:=vd h cl g B (by lia);have j:=ZP A7 g;have t:∀r∈f,A0 L r.1:=λr l=>by
  rcases Oe i g r (p1.mem_iff.mp l)with u|⟨c,v,e⟩
  ·exact B r u
  ·rw[e];exact n c v
 have H:f.length<=g.length+i.length:=by rw[p1.length_eq];exact Ro i g
 have w:Mo L f (A++i.map λc=>c.2.1):=⟨λr l=>by
   rcases Oe i g r (p1.mem_iff.mp l)with u|⟨c,v,e⟩
   ·exact Gy _<|o.sub r u
   ·rw[e];exact Df _<|List.mem_map.mpr ⟨c,v,rfl⟩,λk hk=>by
   rcases Dk.mp hk with u|u
   ·exact o.spot k u
   ·obtain⟨c,v,rfl⟩:=List.mem_map.mp u;exact n c v,by simp;lia⟩
 have I:(A++i.map λc=>c.2.1).length<=A.length+(ws.length+p-1)/p:=by simp;lia
 have ok:=A5.tab (ZB A7 g) (A5.nil L.length) λr l=>(B r<|j.mem_iff.mp l).len;obtain⟨ys,e2⟩:=uS h (ZB A7 g) i (by rw[j.length_eq];lia) (λr l=>B r<|j.mem_iff.mp l) n (Xs i j.symm k1) (Ie<|Z3 (ZB A7 g) []) (by rw[Rl];exact(ZP Ba _).nodup_iff.mpr ok.nd) (gG _) (A++i.map λc=>c.2.1) (λe he=>by
   have l:e.1∈(Ie<|Z3 (ZB A7 g) []).map (·.1):=Gq he;rw[Rl]at l;obtain⟨x,hx⟩:=Cw.mp<|(ZP Ba _).mem_iff.mp l;have:=(Of (ZB A7 g) []).mem_iff.mp hx;rw[show Er []=[]from rfl,CF]at this;exact Gy _<|o.sub _<|j.mem_iff.mp this) (λr l=>Gy _<|o.sub r<|j.mem_iff.mp l) (λc v=>Df _<|List.mem_map.mpr ⟨c,v,rfl⟩) (by lia) w.spot
 have m:ZB A7 (i.foldl Bu<|ZB A7 g)=ZB A7 f:=fP Rn ((ZP A7 _).trans<|(Xr i j).trans p1.symm)<|Ml Rn _;rw[m,<- gE]at e2;obtain⟨g1,_,K,g2,g3,_⟩:=ii h f t (by lia);have a1:=LZ e1;have a2:=LZ e2;have nC:=vi i;have nL:=ig L;have b1:=gA (L:=L) ((ZB A7 f).map Zm) (Z4<|Z3 (ZB A7 f) []) (by rw[Bd,(ZP A7 f).length_eq];lia);have b2:=gB h ((ZB A7 f).map Zm)<|Z4<|Z3 (ZB A7 f) [];have N:=ul h ((ZB A7 f).map Zm)<|Z4<|Z3 (ZB A7 f) [];have i1:=Lf "rows" h8 L ((ZB A7 f).map Zm)<|Z4<|Z3 (ZB A7 f) [];have y:=Lf "table" h9 L ((ZB A7 f).map Zm)<|Z4<|Z3 (ZB A7 f) [];have i3:=Lf "ladders" ie L ((ZB A7 f).map Zm)<|Z4<|Z3 (ZB A7 f) [];have F:=Oa L;have hZn:∃z zs,ZS L=z::zs:=by
  have:=h.n1;cases L with
  |nil=>simp at this
  |cons a b=>exact⟨_,_,rfl⟩
 have hz1:((ZB A7 f).map Zm).length<AB:=by rw[Bd,(ZP A7 f).length_eq];exact CC (show f.length<1000 by lia) (by ext)
 have M:=A5.tab (ZB A7 f) (A5.nil L.length) λr l=>(t r<|(ZP A7 f).mem_iff.mp l).len;have hz2:(Z4<|Z3 (ZB A7 f) []).length<AB:=by
  have hle:=M.len;rw[(ZP A7 f).length_eq]at hle;have:(Z4<|Z3 (ZB A7 f) []).length=(Z3 (ZB A7 f) []).length:=by
   unfold Z4;rw[Bd,(ZP Ba _).length_eq];unfold ZC;rw[Bd]
  rw[this];exact CC (show _<1000 by lia) (by ext)
 have hst:EO (Z (k:Int)) yA (p:Int) (ws.map D.int)=cl.map D.int:=by rw[ve,G]
 have hp0:¬ (p:Int)=0:=by lia
 have tt:∀b,Z5 (Z<|.bl b)=Z b:=λ_=>rfl;have il:Co [.lst ys,.ty "list"]=Z (.bl yB):=rfl;have hls:Fg [.lst<|i.map Bv]=Z (i.map Bv):=rfl;obtain⟨zh,zt,hZ⟩:=hZn;refine⟨f,A++i.map λc=>c.2.1,.val<|.lst<|i.map Bv,.own [],.val<|.lst ys,.own<|(ZB A7 f).map Zm++[.tup [AX L,.int 1]],.own<|Z4 (Z3 (ZB A7 f) [])++[.tup [AX L,.tup [.int 1,.int 1,.int 1,.int 1]]],w,I,?_⟩;rw[hZ]at F N;clear e1 e2 w I ok M m G j p1 k1 n B t o hsl E H l1 hb;unfold Hy;generalize (ZB A7 f).map Zm=q at *;generalize Z4 (Z3 (ZB A7 f) [])=s at *;generalize Z4 (Z3 (ZB A7 g) [])=T,(ZB A7 g).map Zm=R at *;have b1:K6 [.lent (Ck L q s) kB]=Z (.own q):=b1;have b2:La [.lent (Ck L q s) kB,.val<|AX L]=Z (.own s):=b2;have N:NB [.lent (Ck L q s) kB]=Z (zh::zt):=N;have i1:FH "Book" "rows" (.lent (Ck L q s) kB)=yB:=i1;have y:FH "Book" "table" (.lent (Ck L q s) kB)=yB:=y;have i3:FH "Book" "ladders" (.lent (Ck L q s) kB)=yB:=i3;generalize ws.map D.int=W,cl.map D.int=CL,i.map Bv=C,Ck L R T=X0,Ck L q s=X1 at *;generalize f.map Zm=LR' at *;generalize AX L=LO,L.map LD=X,g.map Zm=LR at *;have q2:∀d e:D,Zu (Z [d,e])=Z [d,e]:=λ_ _=>ZU _ (by simp);have q4:∀a b c d:D,Zu (Z [a,b,c,d])=Z [a,b,c,d]:=λ_ _ _ _=>ZU _ (by simp);have hv2:∀d e:D,Zy [Sl.val d,.val e]=Z [d,e]:=λ_ _=>rfl;have hv4:∀a b c d:D,Zy [Sl.val a,.val b,.val c,.val d]=Z [a,b,c,d]:=λ_ _ _ _=>rfl;unfold NW;erw[L1,Af,AN,AG,Ay,Py,F1,hst,if_neg hp0,ZH,AU,Zh,Zb,GJ,a1,KU,Bk,Bb,Zg];erw[D9,Ap,L1,Zb,Ay,AU,AN,AG,BV,pk,hls,CW,Bk,Bb,HX,uR,and_self,if_true,GJ,a2,KU];erw[Zd,Af,Zv,Ap,Zb,Zh,Ay,AU,AN,AG,nC,AF,BV,pk,il,tt,ZW,C8,BR,ZE,Nj,DC,Bk,Bb];erw[EL,Ap,Zb,Ay,AN,AG,i1,y,if_true,b1,b2,Hc,CW,Bk,Bb];erw[Zp,Ap,Zb,Zh,Ay,AU,AN,AG,g1,g2,C6,Hr,g3,tt,ZW,C8,BR,ZE];erw[Bn,Zb,Zh,Ay,AU,AN,AG,hv2,hv4,q2,q4,Dv,if_pos hz1,if_pos hz2,Bk,Bb];erw[Pu,Ux,Ap,Ay,AN,AG,i3,if_true,N,F,Bk,Bb,Zd,Af,nL,AF,ZE]
theorem ij{L:U (U (U At))}(h:CP L)(ws:U Int)(p:Nat)(E:0<p)(s0:Sl)(G:p*((ws.length+p-1)/p)<64):∀(n k:Nat)(f:U Row)(A:U (U At))(o m a b c d:Sl),k+n=p->Mo L f A->A.length<=k*((ws.length+p-1)/p)->∃e q H r g i j l,Mo L e q/\q.length<64/\Z9 (Zn 8) NW ((FN k n).map λk:Nat=>D.int (k:Int)) [s0,.val (.lst (L.map LD)),.val (AX L),.no,Hy L f,.own (f.map Zm),.val (.lst (ws.map D.int)),.val (.int (p:Int)),o,m,a,b,c,d,.no]=.next [s0,.val (.lst (L.map LD)),.val (AX L),.no,Hy L e,.own (e.map Zm),.val (.lst (ws.map D.int)),.val (.int (p:Int)),H,r,g,i,j,l,.no]
 |0,k,f,A,o,m,a,b,c,d,s,t,I=>⟨f,A,o,m,a,b,c,d,t,by rw[Nat.add_zero]at s;subst s;lia,rfl⟩
 |n+1,k,f,A,o,m,a,b,c,d,s,t,I=>by
  have F:(k+1)*((ws.length+p-1)/p)<=p*((ws.length+p-1)/p):=Nat.mul_le_mul_right _ (by lia);rw[Nat.succ_mul]at F;obtain⟨u,M,r,g,i,j,l,v,N,K⟩:=vj h f A t ws k p E (by lia) s0 m a b c d;obtain⟨e,q,Q,T,w,x,y,z,B,C,P⟩:=ij h ws p E s0 G n (k+1) u M (.val<|.int (k:Int)) r g i j l (by lia) v (by rw[Nat.succ_mul];lia);refine⟨e,q,Q,T,w,x,y,z,B,C,?_⟩;erw[Lc,AI,Z9,Zn,Bk,Bb,K];exact P
theorem vm(m p:Nat)(a:m<=52)(b:1<=p)(c:p<=5):p*((m+p-1)/p)<64:=by
 rcases(show p=1\/p=2\/p=3\/p=4\/p=5 by lia)with rfl|rfl|rfl|rfl|rfl<;>lia
theorem vn(h:CP L)(a:U Row)(A:U (U At))(l:Mo L a A)(S:A.length<64)(s0 m n p q s c f g i j:Sl):WH [s0,.val (.lst (L.map LD)),.val (AX L),m,Hy L a,.own (a.map Zm),n,p,q,s,c,f,g,i,j]=.next [s0,.val (.lst (L.map LD)),.val (AX L),m,Hy L a,.own (a.map Zm),n,p,q,s,c,f,g,i,j]/\WG [s0,.val (.lst (L.map LD)),.val (AX L),m,Hy L a,.own (a.map Zm),n,p,q,s,c,f,g,i,j]=.ret (.val (.bl yB)):=by
 have E:∀r∈a,A0 L r.1:=λr G=>l.spot _<|l.sub r G;have C:=l.few;obtain⟨_,H,K,I,_,F⟩:=ii h a E (by lia);have nL:=ig L;have t:=gA (L:=L) ((ZB A7 a).map Zm) (Z4<|Z3 (ZB A7 a) []) (by rw[Bd,(ZP A7 a).length_eq];lia);have u:=gB h ((ZB A7 a).map Zm)<|Z4<|Z3 (ZB A7 a) [];have v:=uk h ((ZB A7 a).map Zm)<|Z4<|Z3 (ZB A7 a) [];have w:=um L ((ZB A7 a).map Zm)<|Z4<|Z3 (ZB A7 a) [];have x:=Lf "rows" h8 L ((ZB A7 a).map Zm)<|Z4<|Z3 (ZB A7 a) [];have k:=Lf "table" h9 L ((ZB A7 a).map Zm)<|Z4<|Z3 (ZB A7 a) [];have y:=Lf "ladders" ie L ((ZB A7 a).map Zm)<|Z4<|Z3 (ZB A7 a) [];have z:=Lf "kept" vg L ((ZB A7 a).map Zm)<|Z4<|Z3 (ZB A7 a) [];have M:Bz (.lst [AX L]) (.lst [AX L])=Z (.bl yC):=by
  have o:AT 12 (.lst [AX L])=yB:=by
   have N:AT 11 (AX L)=yB:=by
    show(L.map λ_=>D.int 0).all (AT 10)=yB
    rw[FF,CK];exact λ_ _=>rfl
   show [AX L].all (AT 11)=yB
   erw[KG,N,List.all_nil,Ec]
  have e:=MU 12 _ o;erw[Bz,E4,o,e,Ec,if_true,C8]
 unfold Hy;generalize Z4 (Z3 (ZB A7 a) [])=T,(ZB A7 a).map Zm=R at *;have t:K6 [.lent (Ck L R T) kB]=Z (.own R):=t;have u:La [.lent (Ck L R T) kB,.val<|AX L]=Z (.own T):=u;have v:NA [.lent (Ck L R T) kB]=Z (.own<|L.map LD):=v;have w:NC [.lent (Ck L R T) kB]=Z (.own [AX L]):=w;have x:FH "Book" "rows" (.lent (Ck L R T) kB)=yB:=x;have k:FH "Book" "table" (.lent (Ck L R T) kB)=yB:=k;have y:FH "Book" "ladders" (.lent (Ck L R T) kB)=yB:=y;have z:FH "Book" "kept" (.lent (Ck L R T) kB)=yB:=z;generalize AX L=Y,L.map LD=W,a.map Zm=LR,Ck L R T=X1 at *;have P:∀d:D,Zu (Z [d])=Z [d]:=λ_=>ZU _ (by simp);have B:∀d:D,Zy [Sl.val d]=Z [d]:=λ_=>rfl;have Q:∀b,Z5 (Z<|.bl b)=Z b:=λ_=>rfl;refine⟨?_,?_⟩
 ·erw[WH,Zp,EL,Ap,Af,Bn,Zb,Zh,Ay,AU,AN,AG,x,y,z,if_true,t,v,w,Hr,H,C6,Q,ZW,C8,BR,Zd,nL,AF,B,P,ZH,M,ZE]
 ·erw[WG,Zp,EL,Ap,Zb,Zh,Ay,AU,AN,AG,k,if_true,u,Hr,I,F,C6,ZD]
def vo(L:U (U (U At))):C4 (Zn 0) (λ_=>Z yB) WM [.no] (L.map LD)=Z (L.map λ_=>D.int 0):=D1 LD (λ_=>D.int 0) L λa _=>⟨[.val<|LD a],rfl,rfl⟩
def vq(h:CP L):Pt "Book" NS (Z [.deep (ZS L)])=Z (Fn,Ck L [] []):=by
 have e:=LZ λa=>uv h a;erw[Pt,Ay,e,Uv,if_true]
theorem vr(ns:U Int)(h:ns.length<=63)(AJ:U Sl):∃ws:U Int,ws.length<=52/\(Zd BS (Hj (λρ=>Af ρ 0) (λρ=>F1 (Z (.int 8))) (λρ=>F1 (Z (.int 48))) HQ) (Zp GQ (λρ=>Zb (Zh ((Zp Hs (λρ=>Zb (Ap ρ 0) (Zb (Zh (Z (.int 6))) (Z [])))) ρ)) (Zb (Zh ((Zd Cq (Zp Hs (λρ=>Zb (Ap ρ 0) (Zb (Zh (Z (.int 6))) (Z [])))) (λ_=>Z (.int 13))) ρ)) (Z []))))) (.val (.lst (ns.map D.int))::AJ)=Z (.lst (ws.map D.int)):=by
 have e:=QU (.val<|.lst<|ns.map D.int) ns (.inl rfl) 6 (by ext);generalize ns.getD (6:Int).toNat 0=c at *;have b:=Dt c 13 (by ext);have k:=Gu c (show(13:Int)≠0 by ext);have l:=Hv c (show(0:Int)<13 by ext);generalize c%13=j at *;obtain⟨m,rfl⟩:∃m:Nat,j=(m:Int):=⟨j.toNat,by lia⟩;obtain⟨a,f,n,_⟩:=Xv c m (by lia);have g:EY (ns.map D.int) (Z 8) (Z 48)=((ns.drop 8).take 40).map D.int:=by
  rw[PJ,rO _ _ _ (by lia) (by lia)];rfl
 have d:((ns.drop 8).take 40).length<=40:=by simp;lia
 have i:BS (.lst<|((ns.drop 8).take 40).map D.int) (.lst<|a.map D.int)=Z (.lst<|((ns.drop 8).take 40++a).map D.int):=by
  rw[dt _ _ (by rw[Bd,Bd];lia),Fj]
 refine⟨(ns.drop 8).take 40++a,by rw[GA];lia,?_⟩;generalize ns.map D.int=N,a.map D.int=o,((ns.drop 8).take 40).map D.int=p,(((ns.drop 8).take 40++a).map D.int)=Y at *;erw[Zd,Hj,Af,Ap,AG,Ay,F1,HQ,g,Zp,Zb,Zh,AU,e,C6,b,f,i]
theorem vt(ns:U Int)(h:ns.length<=63):eZ [.val (.lst (ns.map D.int))]=Z (.val (.bl yB)):=by
 obtain⟨L,n,K⟩:=tm ns;have Q:=n.n4;have T:(L.map LD).length<=AB:=by rw[Bd];exact BX Q (by ext)
 have s:=vo L;have e:=Q5 (C:=WF) (λz=>rfl) (ZS L) (W8 L);rw[Oa]at e;have c:=vq n;have P:=QU (.val<|.lst<|ns.map D.int) ns (.inl rfl) 7 (by ext);generalize ns.getD (7:Int).toNat 0=r at *;have Y:=Dt r 5 (by ext);have j0:=Gu r (show(5:Int)≠0 by ext);have j1:=Hv r (show(0:Int)<5 by ext);generalize r%5=j at *;obtain⟨p,hp⟩:∃p:Nat,1+j=(p:Int):=⟨(1+j).toNat,by lia⟩;have ap:BS (.int 1) (.int j)=Z (.int (p:Int)):=by rw[<- hp];rfl
 have t:1<=p:=by lia
 have u:p<=5:=by lia
 obtain⟨o,hw,e4⟩:=vr ns h [.val<|.lst<|L.map LD,.val<|AX L,.no,.own (Ck L [] []) kB,.own [],.no,.no,.no,.no,.no,.no,.no,.no,.no];obtain⟨q,A,v,w,f,g,i,l,H,I,F⟩:=ij n o p (by lia) (.val<|.lst<|ns.map D.int) (vm _ p hw t u) p 0 [] [] .no .no .no .no .no .no (by lia) ⟨(λ_ h=>nomatch h),(λ_ h=>nomatch h),Bl _⟩ (by simp);have x:Z9 (Zn 8) NW ((BU p).map λk:Nat=>D.int (k:Int)) [.val<|.lst<|ns.map D.int,.val<|.lst<|L.map LD,.val<|AX L,.no,.own (Ck L [] []) kB,.own [],.val<|.lst<|o.map D.int,.val<|.int (p:Int),.no,.no,.no,.no,.no,.no,.no]=.next [.val<|.lst<|ns.map D.int,.val<|.lst<|L.map LD,.val<|AX L,.no,Hy L q,.own<|q.map Zm,.val<|.lst<|o.map D.int,.val<|.int (p:Int),v,w,f,g,i,l,.no]:=by rw[J7];exact F
 have M:=L6 (p:Int) (by lia) (by lia);rw[Gi]at M;obtain⟨z1,z0⟩:=vn n q A H I (.val<|.lst<|ns.map D.int) .no (.val<|.lst<|o.map D.int) (.val<|.int (p:Int)) v w f g i l .no;have y:∀d:D,Zy [Sl.val d]=Z [d]:=λ_=>rfl;have ht:Fh [.lst<|L.map λ_=>D.int 0]=Z (AX L):=rfl;have B:∃z zs,ZS L=z::zs:=by
  have:=n.n1;cases L with
  |nil=>simp at this
  |cons a b=>exact⟨_,_,rfl⟩
 obtain⟨zh,zt,B⟩:=B;rw[B]at c e;have q1:=ZU (L.map LD) (by simp;lia);clear F H I;generalize ns.map D.int=N,o.map D.int=W,(BU p).map (λk:Nat=>D.int (k:Int))=RG,q.map Zm=LR,Hy L q=BK at *;have r7:WP [.val<|.lst N,.no,.no,.no,.no,.no,.no,.no,.no,.no,.no,.no,.no,.no,.no]=.next [.val<|.lst N,.val<|.lst<|L.map LD,.no,.no,.no,.no,.no,.no,.no,.no,.no,.no,.no,.no,.no]:=by
  erw[WP,Zp,Zb,Ap,AG,Ay,K,AU,C6,Z8,Bk,Bb]
 have r6:WN [.val<|.lst N,.val<|.lst<|L.map LD,.no,.no,.no,.no,.no,.no,.no,.no,.no,.no,.no,.no,.no]=.next [.val<|.lst N,.val<|.lst<|L.map LD,.val<|AX L,.no,.no,.no,.no,.no,.no,.no,.no,.no,.no,.no,.no]:=by
  have E:ZK 1 [] [.val<|.lst N,.val<|.lst<|L.map LD,.no,.no,.no,.no,.no,.no,.no,.no,.no,.no,.no,.no,.no]=[.no]:=rfl;erw[WN,Zv,ZG,E,Bj,AN,AG,Ay,Zx,q1,s,ZH,AU,Zh,Zb,BV,pk,ht,Z8,Bk,Bb]
 have rc:Gm 1 [] (λρ=>(Bj ρ 1).bind Zx) (Zn 0) WF [.val<|.lst N,.val<|.lst<|L.map LD,.val<|AX L,.no,.no,.no,.no,.no,.no,.no,.no,.no,.no,.no,.no]=Z (zh::zt):=by
  erw[Gm,AI,B3,EN,Bj,AN,AG,Ay,Zx,Zu,if_pos T,ZK,Gv,D2,EH,DG,e]
 generalize Ck L [] []=X at *;have r5:eY [.val<|.lst N,.val<|.lst<|L.map LD,.val<|AX L,.no,.own X kB,.no,.no,.no,.no,.no,.no,.no,.no,.no,.no]=.next [.val<|.lst N,.val<|.lst<|L.map LD,.val<|AX L,.no,.own X kB,.own [],.no,.no,.no,.no,.no,.no,.no,.no,.no]:=rfl;have r4:WK [.val<|.lst N,.val<|.lst<|L.map LD,.val<|AX L,.no,.own X kB,.own [],.no,.no,.no,.no,.no,.no,.no,.no,.no]=.next [.val<|.lst N,.val<|.lst<|L.map LD,.val<|AX L,.no,.own X kB,.own [],.val<|.lst W,.no,.no,.no,.no,.no,.no,.no,.no]:=by
  erw[WK,e4,Z8,Bk,Bb]
 have r3:WJ [.val<|.lst N,.val<|.lst<|L.map LD,.val<|AX L,.no,.own X kB,.own [],.val<|.lst W,.no,.no,.no,.no,.no,.no,.no,.no]=.next [.val<|.lst N,.val<|.lst<|L.map LD,.val<|AX L,.no,.own X kB,.own [],.val<|.lst W,.val<|.int (p:Int),.no,.no,.no,.no,.no,.no,.no]:=by
  erw[WJ,Zd,Zp,Zb,Ap,Zh,AG,Ay,AU,P,C6,Y,ap,Z8,Bk,Bb]
 have r2:WI [.val<|.lst N,.val<|.lst<|L.map LD,.val<|AX L,.no,.own X kB,.own [],.val<|.lst W,.val<|.int (p:Int),.no,.no,.no,.no,.no,.no,.no]=.next [.val<|.lst N,.val<|.lst<|L.map LD,.val<|AX L,.no,BK,.own LR,.val<|.lst W,.val<|.int (p:Int),v,w,f,g,i,l,.no]:=by
  erw[WI,Cb,Zb,Zh,Bn,AN,AG,Ay,AU,y,M,x]
 have G:Hn [.val<|.lst N,.val<|.lst<|L.map LD,.val<|AX L,.no,.no,.no,.no,.no,.no,.no,.no,.no,.no,.no,.no]=yB:=rfl;refine D3 rfl ?_;show QT [.val<|.lst N,.no,.no,.no,.no,.no,.no,.no,.no,.no,.no,.no,.no,.no,.no]=_
 have m:Hn [.val<|.lst N,.val<|.lst<|L.map LD,.val<|AX L,.no,.no,.no,.no,.no,.no,.no,.no,.no,.no,.no,.no]=yB/\(3:Nat)≠4/\4<[Sl.val<|.lst N,.val<|.lst<|L.map LD,.val<|AX L,.no,.no,.no,.no,.no,.no,.no,.no,.no,.no,.no,.no].length:=⟨G,by ext,by simp⟩;have hR:WL [.val<|.lst N,.val<|.lst<|L.map LD,.val<|AX L,.no,.own X kB,.no,.no,.no,.no,.no,.no,.no,.no,.no,.no]=.ret (.val<|.bl yB):=by
  erw[WL,r5,r4,r3,r2,z1,z0,Zg]
 erw[QT,r7,Zg,r6,rc];erw[Pw,AN,AG,if_pos m,Bk,Bb,Zb,Ap,Ay,c,hR]
noncomputable def Bt(i:Nat):Ar:=PySem.Challenge.pw_cubebook_k50_poured.main.body.getD i (.Pass ⟨0,0,0,0⟩)
abbrev ik:Ar:=Bt 5
abbrev Xw:Ar:=Bt 6
abbrev im:Ar:=Bt 7
abbrev io:Ar:=Bt 9
abbrev Xx:Ar:=Bt 10
abbrev ip:Ar:=Bt 11
abbrev Xy:Ar:=Bt 15
abbrev Xz:Ar:=Bt 16
abbrev iq:Ar:=Bt 17
abbrev ir:Ar:=Bt 18
abbrev iu:Ar:=Bt 19
abbrev Rp:Ar:=Bt 20
abbrev XA:Ar:=Bt 21
abbrev XB:Ar:=Bt 22
abbrev iv:Ar:=Bt 23
abbrev iw:Ar:=Bt 32
abbrev XC:Ar:=Bt 33
abbrev XD:Ar:=Bt 34
abbrev ix:Ar:=Bt 36
abbrev iy:Ar:=Bt 37
abbrev XE:Ar:=Bt 39
abbrev XF:Ar:=Bt 40
abbrev Rq:Ar:=Bt 41
abbrev XG:Ar:=Bt 42
abbrev XH:Ar:=Bt 45
abbrev iz:Ar:=Bt 46
abbrev iA:Ar:=Bt 47
abbrev iB:Ar:=Bt 48
abbrev iC:Ar:=Bt 49
abbrev iD:Ar:=Bt 50
abbrev XI:Ar:=Bt 51
abbrev Rr:Ar:=Bt 52
abbrev XJ:Ar:=Bt 53
abbrev XM:Ar:=Bt 56
abbrev XN:Ar:=Js (Bt 57) 0
abbrev Rs:Ar:=Js (Bt 57) 1
abbrev iE:Ar:=Js (Bt 57) 2
abbrev iF:Ar:=Js (Bt 57) 3
abbrev iG:Ar:=Js (Bt 57) 4
abbrev iH:Ar:=Js (Bt 57) 9
abbrev iI:Ar:=Js (Bt 57) 12
abbrev iJ:Ar:=Js (Bt 57) 14
abbrev iK:Ar:=Bt 59
abbrev iL:Ar:=Bt 60
abbrev XO:Ar:=Bt 61
abbrev iM:Ar:=Bt 62
abbrev Rt:Ar:=Bt 63
abbrev iN:Ar:=Bt 64
abbrev XP:Ar:=Bt 65
abbrev XQ:Ar:=Bt 67
abbrev iO:Ar:=Bt 68
abbrev iP:Ar:=Bt 69
abbrev iQ:Ar:=Bt 70
abbrev iR:Ar:=Bt 71
abbrev iS:Ar:=Bt 72
abbrev Ru:Ar:=Bt 73
abbrev iT:Ar:=Bt 74
abbrev XR:Ar:=Bt 75
abbrev Rw:Ar:=Bt 76
abbrev Rx:U Ae:=["ladder","level","other"]
abbrev Ry:U Ae:=["ladder","level","value"]
abbrev Rz:U Ae:=["ladder","level","thing"]
abbrev RC:U Ae:=["ladder","thing"]
abbrev RD:U Ae:=["ladders","thing"]
abbrev RE:U Ae:=["ladders","grain","to"]
abbrev RF:U Ae:=["ladders","rows","grain"]
abbrev RH:U Ae:=["ladders","thing"]
abbrev RI:U Ae:=["ladders","thing"]
abbrev RJ:U Ae:=["standing","row"]
abbrev RK:U Ae:=["standing","row"]
abbrev RL:U Ae:=["ladders","rows","changes"]
abbrev RM:U Ae:=["ladders","rows","grains"]
abbrev RN:U Ae:=["ahead","behind"]
abbrev RO:U Ae:=["ahead","behind"]
abbrev RP:U Ae:=["self","ladders"]
abbrev RQ:U Ae:=["self","changes"]
abbrev RS:U Ae:=["_law_script","_law_k"]
abbrev RU:U Ae:=["_law_cell_here","_law_many"]
abbrev RV:U Ae:=["_law_cell_here","_law_way","_law_k"]
abbrev RW:U Ae:=["_law_cell_here"]
abbrev RX:U Ae:=["_law_ladder_here","_law_value","_law_level"]
abbrev RY:U Ae:=["_law_ladders_here","_law_key","_law_grain_here"]
abbrev RZ:U Ae:=["_law_ladders_here","_law_cell_here"]
abbrev Sa:U Ae:=["_law_ladders_here","_law_rows","_law_grain_here"]
abbrev Sc:U Ae:=["_law_one","_law_other"]
abbrev Sd:U Ae:=["_law_one","_law_other"]
abbrev Se:U Ae:=["_law_table","_law_cells_here"]
abbrev Sf:U Ae:=["_law_ladders_here","_law_rows","_law_cells_here"]
abbrev Sg:U Ae:=["_law_told","_law_rows"]
set_option genInjectivity false in
structure AD where
 a0:Ac
 d0:A2
 a1:Ac
 d1:A2
 a2:Ac
 d2:A2
 a3:Ac
 d3:A2
 a4:Ac
 d4:A2
 a5:Ac
 d5:A2
 a6:Ac
 d6:A2
 a7:Ac
 d7:A2
 a8:Ac
 d8:A2
 a9:Ac
 d9:A2
 a10:Ac
 d10:A2
 a11:Ac
 d11:A2
 a12:Ac
 d12:A2
 a13:Ac
 d13:A2
 a14:Ac
 d14:A2
 a15:Ac
 d15:A2
 a16:Ac
 d16:A2
 a17:Ac
 d17:A2
 a18:Ac
 d18:A2
 a19:Ac
 d19:A2
 a20:Ac
 d20:A2
 a21:Ac
 d21:A2
 a22:Ac
 d22:A2
 a23:Ac
 d23:A2
 a24:Ac
 d24:A2
 a25:Ac
 d25:A2
 a26:Ac
 d26:A2
 a27:Ac
 d27:A2
 a28:Ac
 d28:A2
 a29:Ac
 d29:A2
 a30:Ac
 d30:A2
 a31:Ac
 d31:A2
 a32:Ac
 d32:A2
 a33:Ac
 d33:A2
 a34:Ac
 d34:A2
 a35:Ac
 d35:A2
 a36:Ac
 d36:A2
 a37:Ac
 d37:A2
 a38:Ac
 d38:A2
 a39:Ac
 d39:A2
 a40:Ac
 d40:A2
 a41:Ac
 d41:A2
 a42:Ac
 d42:A2
 a43:Ac
 d43:A2
 a44:Ac
 d44:A2
 a45:Ac
 d45:A2
 a46:Ac
 d46:A2
 a47:Ac
 d47:A2
 a48:Ac
 d48:A2
 a49:Ac
 d49:A2
 a50:Ac
 d50:A2
 a51:Ac
 d51:A2
 a52:Ac
 d52:A2
 a53:Ac
 d53:A2
 a54:Ac
 d54:A2
 a55:Ac
 d55:A2
 a56:Ac
 d56:A2
 a57:Ac
 d57:A2
 a58:Ac
 d58:A2
 aB:Ac
structure Tx(K:Av)(mg:Ae->Option Aa)(d:AD):Prop where
 cb:CI K mg "Book" d.aB
 na_axes:BP K d.aB "axes"
 na_standing:BP K d.aB "standing"
 na_tables:BP K d.aB "tables"
 q0:DI K mg "is_whole" ik ["thing"] d.a0 d.d0
 q1:DI K mg "is_word" Xw ["thing"] d.a1 d.d1
 q2:DI K mg "is_value" im ["thing"] d.a2 d.d2
 q3:DI K mg "value_rank" io ["thing"] d.a3 d.d3
 q4:DI K mg "key_rank" Xx ["key"] d.a4 d.d4
 q5:DI K mg "in_order" ip ["keys"] d.a5 d.d5
 q6:DI K mg "is_line" Xy ["thing"] d.a6 d.d6
 q7:DI K mg "go_together" Xz ["lines"] d.a7 d.d7
 q8:DI K mg "is_ladder" iq ["thing"] d.a8 d.d8
 q9:DI K mg "whole_of" ir ["ladder"] d.a9 d.d9
 q10:DI K mg "line_at" iu ["line","level"] d.a10 d.d10
 q11:DI K mg "values_in_order" Rp ["values"] d.a11 d.d11
 q12:DI K mg "lifts" XA Rx d.a12 d.d12
 q13:DI K mg "beneath" XB Ry d.a13 d.d13
 q14:DI K mg "is_value_at" iv Rz d.a14 d.d14
 q15:DI K mg "is_level" iw RC d.a15 d.d15
 q16:DI K mg "is_grain" XC RD d.a16 d.d16
 q17:DI K mg "finest" XD ["ladders"] d.a17 d.d17
 q18:DI K mg "cell_of" ix ["amounts"] d.a18 d.d18
 q19:DI K mg "merged" iy ["one","other"] d.a19 d.d19
 q20:DI K mg "ways_up" XE RE d.a20 d.d20
 q21:DI K mg "goes_along" XF ["ways","key"] d.a21 d.d21
 q22:DI K mg "merged_along" Rq ["ways","table"] d.a22 d.d22
 q23:DI K mg "table_of" XG RF d.a23 d.d23
 q24:DI K mg "is_finest_key" XH RH d.a24 d.d24
 q25:DI K mg "is_change" iz RI d.a25 d.d25
 q26:DI K mg "row_rank" iA ["row"] d.a26 d.d26
 q27:DI K mg "put_in" iB RJ d.a27 d.d27
 q28:DI K mg "take_out" iC RK d.a28 d.d28
 q29:DI K mg "poured" iD RL d.a29 d.d29
 q30:DI K mg "tables_at" XI RM d.a30 d.d30
 q31:DI K mg "keys_changed" Rr RN d.a31 d.d31
 q32:DI K mg "cells_changed" XJ RO d.a32 d.d32
 q33:DI K mg "are_ladders" XM ["thing"] d.a33 d.d33
 q34:MI K d.aB "__init__" "Book.__init__" XN RP d.a34 d.d34
 q35:MI K d.aB "ladders" "Book.ladders" Rs ["self"] d.a35 d.d35
 q36:MI K d.aB "rows" "Book.rows" iE ["self"] d.a36 d.d36
 q37:MI K d.aB "kept" "Book.kept" iF ["self"] d.a37 d.d37
 q38:MI K d.aB "pour" "Book.pour" iG RQ d.a38 d.d38
 q39:MI K d.aB "table" "Book.table" iH ["self","grain"] d.a39 d.d39
 q40:MI K d.aB "is_kept" "Book.is_kept" iI ["self","thing"] d.a40 d.d40
 q41:MI K d.aB "tables_renewed" "Book.tables_renewed" iJ ["self"] d.a41 d.d41
 q42:DI K mg "_law_cell_at" iK RS d.a42 d.d42
 q43:DI K mg "_law_stream" iL RU d.a43 d.d43
 q44:DI K mg "_law_named" XO RV d.a44 d.d44
 q45:DI K mg "_law_ladder" iM RW d.a45 d.d45
 q46:DI K mg "_law_ladders" Rt ["_law_script"] d.a46 d.d46
 q47:DI K mg "_law_up" iN RX d.a47 d.d47
 q48:DI K mg "_law_key_at" XP RY d.a48 d.d48
 q49:DI K mg "_law_row" XQ RZ d.a49 d.d49
 q50:DI K mg "_law_cell" iO ["_law_amounts"] d.a50 d.d50
 q51:DI K mg "_law_cells" iP Sa d.a51 d.d51
 q52:DI K mg "_law_thing_ahead" iQ Sc d.a52 d.d52
 q53:DI K mg "_law_ahead" iR Sd d.a53 d.d53
 q54:DI K mg "_law_whole" iS ["_law_thing"] d.a54 d.d54
 q55:DI K mg "_law_is_table" Ru Se d.a55 d.d55
 q56:DI K mg "_law_changes" iT Sf d.a56 d.d56
 q57:DI K mg "_law_rows_good" XR Sg d.a57 d.d57
 q58:DI K mg "law" Rw ["_law_script"] d.a58 d.d58
 n0:mg "all"=yA
 n1:mg "any"=yA
 n2:mg "bool"=yA
 n3:mg "dict"=yA
 n4:mg "enumerate"=yA
 n5:mg "int"=yA
 n6:mg "isinstance"=yA
 n7:mg "len"=yA
 n8:mg "list"=yA
 n9:mg "max"=yA
 n10:mg "min"=yA
 n11:mg "range"=yA
 n12:mg "sorted"=yA
 n13:mg "str"=yA
 n14:mg "sum"=yA
 n15:mg "tuple"=yA
 n16:mg "zip"=yA
 g_FIGURES:∃u,mg "FIGURES"=Z u/\RelV (.str "0123456789") u
 g_LETTERS:∃u,mg "LETTERS"=Z u/\RelV (.str "abcdefghijklmnopqrstuvwxyz") u
 g_LONGEST_LINE:∃u,mg "LONGEST_LINE"=Z u/\RelV (.int 4) u
 g_LONGEST_WORD:∃u,mg "LONGEST_WORD"=Z u/\RelV (.int 12) u
 g_MOST_LADDERS:∃u,mg "MOST_LADDERS"=Z u/\RelV (.int 4) u
 g_MOST_LINES:∃u,mg "MOST_LINES"=Z u/\RelV (.int 40) u
 g_MOST_ROWS:∃u,mg "MOST_ROWS"=Z u/\RelV (.int 200) u
section
variable{P:A4}{w:Aj}{K:Av}{mg:Ae->O Aa}{base:Am}{d:AD}
abbrev N0:U Ae:=["thing"]
theorem S0:Zw N0 ["thing"] (Zk ik):=Z0
def Sh(T:Tx K mg d):Aw P w K mg base A3 1 d.a0 d.d0 ["thing"] (Bf K Jb):=ZO T.q0 S0 (λ_ _ _ _ _ _ _ _ a=>(Zc (Zs (KA (Em 0 T.n6 T.n5) (IA (ab (Em 0 T.n6 T.n2))))) Zf))
abbrev N1:U Ae:=["thing"]
theorem S1:Zw N1 ["thing"] (Zk Xw):=Z0
theorem vw(T:Tx K mg d):Aw P w K mg base A3 1 d.a1 d.d1 ["thing"] (Bf K Jc):=ZO (N:=N1) (g:=J2) T.q1 S1 (λ_ _ _ _ _ _ _ _ a=>(Zc (ZF (Du (ZV (Ao (Em 0 T.n6 T.n13)))) (Zc (Zs ZZ) Zf) Zf) (Zc (ZF (Dm (DX (JN a.units (Ao (CZ 0 T.n7)) Zt) (Eu (JP a.units (Ao (CZ 0 T.n7)) (Ao (JM (d:=.int (12)) (by rfl) T.g_LONGEST_WORD (λ_ _=>by erw[Au]))))))) (Zc (Zs ZZ) Zf) Zf) (Zc (Zs (KA (TQ a.units (Ao (Zi (Zl 0) Zt)) (Ao (JM (d:=.str "abcdefghijklmnopqrstuvwxyz") (by rfl) T.g_LETTERS (λ_ _=>by erw[Au])))) (IA (ZN (Jv rfl) JJ (by rfl) T.n0 (by rfl) (Za (Zj (Ca (Z1 ["sign"] [] [] (CN ["sign"] [] (Zk Xw)) rfl rfl  (ZT (Cj 0)) (C5 (Zr 0 (Cc ["sign"])) Z6 (ac (TQ a.units (Zl 0) (Ao (JM (d:=.str "abcdefghijklmnopqrstuvwxyz") (by rfl) T.g_LETTERS (λ_ _=>by erw[Au])))) (IA (TQ a.units (Zl 0) (Ao (JM (d:=.str "0123456789") (by rfl) T.g_FIGURES (λ_ _=>by erw[Au]))))))) (by ext)))) Ze))))) Zf))))
abbrev N9:U Ae:=["ladder"]
theorem S9:Zw N9 ["ladder"] (Zk ir):=Z0
def vz(T:Tx K mg d):Aw P w K mg base A3 1 d.a9 d.d9 ["ladder"] (Bf K PM):=ZO T.q9 S9 (λ_ _ _ _ _ _ _ _ a=>(Zc (Zs (ZN Lk LG (by rfl) T.n7 (by rfl) (Za (Zj (Zi (Zl 0) Zt)) Ze))) Zf))
abbrev iU:U Ae:=["line","level"]
theorem vA:Zw iU ["line","level"] (Zk iu):=Z0
def XT(T:Tx K mg d):Aw P w K mg base A3 1 d.a10 d.d10 ["line","level"] (Bf K Jd):=ZO T.q10 vA (λ_ _ _ _ _ _ _ _ a=>(Zc (Zs (ae (JN a.units (Zl 1) (Ao (CZ 0 T.n7))) (Zi (Zl 0) (Zl 1)) Y8)) Zf))
abbrev iV:U Ae:=["ladders"]
theorem vB:Zw iV ["ladders"] (Zk XD):=Z0
theorem iW(T:Tx K mg d):Aw P w K mg base A3 1 d.a17 d.d17 ["ladders"] (Bf K Ny):=ZO T.q17 vB (λ_ _ _ _ _ _ _ _ a=>(Zc (Zs (IB Kx KI (by rfl) T.n15 (by rfl) (Za (Zj (Ca (Z1 ["ladder"] [] [] (CN ["ladder"] [] (Zk XD)) rfl rfl  (ZT (Cj 0)) (C5 (Zr 0 (Cc ["ladder"])) Z6 ZJ) (by ext)))) Ze))) Zf))
abbrev iX:U Ae:=["amounts"]
theorem vD:Zw iX ["amounts"] (Zk ix):=Z0
def vE(T:Tx K mg d):Aw P w K mg base A3 1 d.a18 d.d18 ["amounts"] (Bf K PP):=ZO T.q18 vD (λ_ _ _ _ _ _ _ _ a=>(Zc (Zs (DM (Za (Zj (CZ 0 T.n7)) (Za (Zj (ZN (aP rfl) aU (by rfl) T.n14 (by rfl) (Za (Zz 0) Ze))) (Za (Zj (ZN (aQ rfl) aV (by rfl) T.n10 (by rfl) (Za (Zz 0) Ze))) (Za (Zj (ZN (aR rfl) aX (by rfl) T.n9 (by rfl) (Za (Zz 0) Ze))) Ze)))))) Zf))
abbrev iY:U Ae:=["one","other"]
theorem vF:Zw iY ["one","other"] (Zk iy):=Z0
def vG(T:Tx K mg d):Aw P w K mg base A3 1 d.a19 d.d19 ["one","other"] (Bf K Nz):=ZO T.q19 vF (λ_ _ _ _ _ _ _ _ a=>(Zc (Zs (DM (Za (Zj (ZY (Ao (Zi (Zl 0) Zt)) (Ao (Zi (Zl 1) Zt)))) (Za (Zj (ZY (Ao (Zi (Zl 0) Zt)) (Ao (Zi (Zl 1) Zt)))) (Za (Zj (ZN (lO rfl) oM (by rfl) T.n10 (by rfl) (Za (Zj (Zi (Zl 0) Zt)) (Za (Zj (Zi (Zl 1) Zt)) Ze)))) (Za (Zj (ZN (lN rfl) oK (by rfl) T.n9 (by rfl) (Za (Zj (Zi (Zl 0) Zt)) (Za (Zj (Zi (Zl 1) Zt)) Ze)))) Ze)))))) Zf))
abbrev iZ:U Ae:=["ways","key"]
theorem vH:Zw iZ ["ways","key"] (Zk XF):=Z0
theorem vI(T:Tx K mg d):Aw P w K mg base A3 1 d.a21 d.d21 ["ways","key"] (Bf K PU):=ZO (N:=iZ) (g:=PR) T.q21 vH (λ_ _ _ _ _ _ _ _ a=>(Zc (Zs (ZN (Jv rfl) JJ (by rfl) T.n0 (by rfl) (Za (Zj (Ca (Z1 ["way","value"] [] [] (CN ["way","value"] [] (Zk XF)) rfl rfl  (L4 (by rfl) T.n16 (Cj 0) (Cj 1)) (C5 (Hh (n:=2) rfl (Z7 (Zr 0 (Cc ["way","value"])) (Z7 (Zr 1 (Cc ["way","value"])) Hg))) Z6 (bH a.units (Zl 1) (Zl 0))) (by ext)))) Ze))) Zf))
abbrev i4:U Ae:=RJ
theorem vJ:Zw i4 RJ (Zk iB):=Z0
def vK(T:Tx K mg d):Aw P w K mg base A3 1 d.a27 d.d27 RJ (Fl K PV):=UO T.q27 vJ (λ_ _ _ _ _ _ _ _ a=>(Gj (ZF (oR a.units (Ao (CZ 0 T.n7)) (Ao (JM (d:=.int (200)) (by rfl) T.g_MOST_ROWS (λ_ _=>by erw[Au])))) (Zc Ni Zf) Zf) (Gj (Hf (i:=0) CG (CY 1)) (Up (j:=0)))))
abbrev i5:U Ae:=RK
theorem vM:Zw i5 RK (Zk iC):=Z0
def vN(T:Tx K mg d):Aw P w K mg base A3 1 d.a28 d.d28 RK (Fl K PX):=UO T.q28 vM (λ_ _ _ _ _ _ _ _ a=>(Gj (ZF (bh a.units (Zl 1) (Zl 0)) (Zc Ni Zf) Zf) (Gj (cV (i:=0) a.units (Zl 1)) (Up (j:=0)))))
abbrev XU:U Ae:=["self"]
theorem i6:Zw XU ["self"] (Zk Rs):=Z0
theorem vO(T:Tx K mg d):Aw P w K mg base A3 1 d.a35 d.d35 ["self"] (Bf K NA):=Nu T.q35 i6 (λ_ _ _ _ _ _ _ _ a=>(Zc (GC (Z1 ["ladder"] [] [] (CN ["ladder"] [] (Zk Rs)) rfl rfl  (ZT (HL (FI T.cb.cof T.cb.cl T.na_axes (Zl 0)))) (C5 (Zr 0 (Cc ["ladder"])) Z6 (Ca (Hd Iv IN (by rfl) T.n8 (by rfl) (Za (Zz 0) Ze)))) (by ext))) Zf))
def vP(T:Tx K mg d):Aw P w K mg base A3 1 d.a35 d.d35 ["self"] (Nl K NB):=qF T.q35.F i6<|λ_ _ _ _ _ _ _ _ a=>(cR ["ladder"] [] [] (CN ["ladder"] []<|Zk Rs) rfl rfl (λ_ _=>(ZT<|HL<|FI T.cb.cof T.cb.cl T.na_axes<|Zl 0)) (λ_ _ _ _ _ _ _=>(Zr 0<|Cc ["ladder"])) (λ_ _ _ _ _ _ _=>(Hd Iv IN (by rfl) T.n8 (by rfl)<|Za (Zz 0) Ze)) (by ext))
abbrev i7:U Ae:=["self"]
theorem vQ:Zw i7 ["self"] (Zk iE):=Z0
def i8(T:Tx K mg d):Aw P w K mg base A3 1 d.a36 d.d36 ["self"] (Bf K K6):=Nu T.q36 vQ (λ_ _ _ _ _ _ _ _ a=>(Zc (GC (Hd Iv IN (by rfl) T.n8 (by rfl) (Za (Zj (FI T.cb.cof T.cb.cl T.na_standing (Zl 0))) Ze))) Zf))
abbrev i9:U Ae:=["self"]
theorem vR:Zw i9 ["self"] (Zk iF):=Z0
def vS(T:Tx K mg d):Aw P w K mg base A3 1 d.a37 d.d37 ["self"] (Bf K NC):=Nu T.q37 vR (λ_ _ _ _ _ _ _ _ a=>(Zc (GC (dj rfl (by rfl) T.n12 (by rfl) (Ao (FI T.cb.cof T.cb.cl T.na_tables (Zl 0))))) Zf))
abbrev ja:U Ae:=RS
theorem vT:Zw ja RS (Zk iK):=Z0
def Og(T:Tx K mg d):Aw P w K mg base A3 1 d.a42 d.d42 RS (Bf K Hs):=ZO T.q42 vT (λ_ _ _ _ _ _ _ _ a=>(Zc (ZF (JN a.units (Zl 1) (Ao (CZ 0 T.n7))) (Zc (Zs (Zi (Zl 0) (Zl 1))) Zf) Zf) (Zc (Zs ZJ) Zf)))
abbrev jb:U Ae:=RU.append ["_law_number","_law_found","_law_k"]
theorem Oh:Zw jb RU (Zk iL):=Z0
def Sj(T:Tx K mg d):Aw P w K mg base A3 1 d.a43 d.d43 RU (Bf K GQ):=ZO T.q43 Oh (λ_ _ _ _ _ _ _ _ a=>(Zc (Z2 2 Oh.nd (ZY (Ao (ZX (Zl 0) Zt)) Zt)) (Zc (Ge (i:=3) Oh.nd rfl (Or.inl rfl) (DY Ze)) (Zc (EW ER rfl (HN (by rfl) T.n11 (Za (Zj (ZY (Zl 1) Zt)) Ze)) (Zr 4 Oh.nd) (Zc (Z2 2 Oh.nd (ZX (Ao (ZY (Ao (ZY (Ao (ZY (Ao (HP (Zl 2) Zt)) (Ao (LB (Zl 2) Zt)))) (Ao (HP Zt (Zl 4))))) Zt)) Zt)) (Zc (Hf (i:=3) CG (LB (Zl 2) Zt)) Zf))) (Zc (Zs (OU (Zl 3) (LC Zt) OT)) Zf)))))
abbrev jc:U Ae:=RV.append ["_law_signs","_law_size","_law_at","_law_word"]
theorem Oi:Zw jc RV (Zk XO):=Z0
theorem vU(T:Tx K mg d):Aw P w K mg base A3 1 d.a44 d.d44 RV (Bf K Je):=ZO T.q44 Oi (λ_ _ _ _ _ _ _ _ a=>(Zc (ZF (IP a.units (Zl 1) Zt) (Zc (Zs (ZY (Ao (IG (Ao (ZX (Zl 0) (Ao (OR Zt Zt)))) (Ao (HP Zt (Ao (OR Zt Zt)))))) (Zl 2))) Zf) Zf) (Zc (Z2 3 Oi.nd Jw) (Zc (Z2 4 Oi.nd (ZY Zt (Ao (ZX (Zl 0) Zt)))) (Zc (Z2 5 Oi.nd (ZX (Ao (LB (Zl 0) Zt)) (Zl 4))) (Zc (oq (i:=6) ["_law_j"] ["_law_signs","_law_cell_here"] [3,0] (CN ["_law_j"] ["_law_signs","_law_cell_here"] (Zk XO)) rfl rfl Oi.nd rfl rfl (HN (by rfl) T.n11 (Za (Zj (CY 4)) Ze)) (C5 (Zr 0 (Cc ["_law_j","_law_signs","_law_cell_here"])) Z6 (Zi (Zl 1) (Ao (ZX (Ao (ZY (Ao (LB (Zl 2) (Ao (ZY (Zl 0) Zt)))) (Ao (HP Zt (Zl 0))))) (Ao (Zi (Ao (Ca (DY (Za (Zj ZJ) (Za (Zj ZJ) Ze))))) (Ao (IB Yu aO (by rfl) T.n5 (by rfl) (Za (Zj (bg a.units (Zl 0) Zt)) Ze))))))))) (by ext)) (Zc (oW (i:=6) (Zl 5) (Zi (Zl 3) (Ao (ZX (Ao (ZY (Ao (ZY (Ao (LB (Zl 0) (Ao (ZY (Zl 5) Zt)))) (Ao (HP Zt (Zl 5))))) (Ao (HP Zt (Zl 2))))) (Ao (Zi (Ao (Ca (DY (Za (Zj ZJ) (Za (Zj ZJ) Ze))))) (Ao (IB Yu aO (by rfl) T.n5 (by rfl) (Za (Zj (bg a.units (Zl 5) Zt)) Ze))))))))) (Zc (Zs (TU PySem.F.plainAttrs_str PySem.F.slot_str_join PySem.F.type_str_join nl oX (Ao Jw) (Za (Zz 6) Ze))) Zf))))))))
abbrev jd:U Ae:=RX.append ["_law_line"]
theorem je:Zw jd RX (Zk iN):=Z0
def vV(T:Tx K mg d):Aw P w K mg base A3 1 d.a47 d.d47 RX (Bf K Vh):=ZO T.q47 je (λ_ _ _ _ _ _ _ _ a=>(Zc (EW ER rfl (ZT (Cj 0)) (Zr 3 je.nd) (Zc (ZF (Dm (G8 (IP a.units (Ao (Zi (Zl 3) Zt)) (Zl 1)) (Iz (JN a.units (Zl 2) (Ao (CZ 3 T.n7)))))) (Zc (Zs (Zi (Zl 3) (Zl 2))) Zf) Zf) Zf)) (Zc (Zs Y8) Zf)))
abbrev jf:U Ae:=["_law_amounts"]
theorem vW:Zw jf ["_law_amounts"] (Zk iO):=Z0
def vX(T:Tx K mg d):Aw P w K mg base A3 1 d.a50 d.d50 ["_law_amounts"] (Bf K P5):=ZO T.q50 vW (λ_ _ _ _ _ _ _ _ a=>(Zc (Zs (DM (Za (Zj (CZ 0 T.n7)) (Za (Zj (ZN (aP rfl) aU (by rfl) T.n14 (by rfl) (Za (Zz 0) Ze))) (Za (Zj (ZN (aQ rfl) aV (by rfl) T.n10 (by rfl) (Za (Zz 0) Ze))) (Za (Zj (ZN (aR rfl) aX (by rfl) T.n9 (by rfl) (Za (Zz 0) Ze))) Ze)))))) Zf))
abbrev jg:U Ae:=Sc.append ["_law_signs","_law_mine","_law_yours"]
theorem Sk:Zw jg Sc (Zk iQ):=Z0
def vY(T:Tx K mg d):Aw P w K mg base A3 1 d.a52 d.d52 Sc (Bf K Vm):=ZO (N:=jg) (g:=dS) T.q52 Sk (λ_ _ _ _ _ _ _ _ a=>(Zc (ZF (Dm (DX (Tr (Zl 0)) (Eu (Tr (Zl 1))))) (Zc (Zs (KA (nI (Zl 0)) (IA (nJ (Zl 1))))) Zf) Zf) (Zc (ZF (DN a.units (Ao (Em 0 T.n6 T.n13)) (Ao (Em 1 T.n6 T.n13))) (Zc (Zs (Em 1 T.n6 T.n13)) Zf) Zf) (Zc (ZF (ZV (Ao (Em 0 T.n6 T.n5))) (Zc (Zs (TN a.units (Zl 0) (Zl 1))) Zf) Zf) (Zc (Z2 2 Sk.nd Jw) (Zc (EW ER rfl (L4 (by rfl) T.n16 (Cj 0) (Cj 1)) (Hh (n:=2) rfl (Z7 (Zr 3 Sk.nd) (Z7 (Zr 4 Sk.nd) Hg))) (Zc (ZF (DN a.units (Zl 3) (Zl 4)) (Zc (Zs (TN a.units (Ao (TU PySem.F.plainAttrs_str PySem.F.slot_str_find PySem.F.type_str_find Y1 bn (Zl 2) (Za (Zz 3) Ze))) (Ao (TU PySem.F.plainAttrs_str PySem.F.slot_str_find PySem.F.type_str_find Y1 bn (Zl 2) (Za (Zz 4) Ze))))) Zf) Zf) Zf)) (Zc (Zs (TN a.units (Ao (CZ 0 T.n7)) (Ao (CZ 1 T.n7)))) Zf)))))))
abbrev jh:U Ae:=["_law_thing"]
theorem vZ:Zw jh ["_law_thing"] (Zk iS):=Z0
def ji(T:Tx K mg d):Aw P w K mg base A3 1 d.a54 d.d54 ["_law_thing"] (Bf K L9):=ZO T.q54 vZ (λ_ _ _ _ _ _ _ _ a=>(Zc (Zs (KA (Em 0 T.n6 T.n5) (IA (ab (Em 0 T.n6 T.n2))))) Zf))
abbrev N2:U Ae:=["thing"]
theorem S2:Zw N2 ["thing"] (Zk im):=Z0
def jj(T:Tx K mg d):Aw P w K mg base A3 2 d.a2 d.d2 ["thing"] (Bf K NE):=ZO T.q2 S2 (λ_ _ _ _ _ _ _ _ a=>(Zc (Zs (ac (Zq (Sh T) a T.q0 (Za (Zz 0) Ze)) (IA (Zq (vw T) a T.q1 (Za (Zz 0) Ze))))) Zf))
abbrev N3:U Ae:=["thing"]
theorem S3:Zw N3 ["thing"] (Zk io):=Z0
def v3(T:Tx K mg d):Aw P w K mg base A3 2 d.a3 d.d3 ["thing"] (Bf K P9):=ZO T.q3 S3 (λ_ _ _ _ _ _ _ _ a=>(Zc (ZF (Tr (Zl 0)) (Zc (Zs (DM (Za (Zj ZJ) (Za (Zj ZJ) Ze)))) Zf) Zf) (Zc (ZF (ZV (Ao (Zq (Sh T) a T.q0 (Za (Zz 0) Ze)))) (Zc (Zs (DM (Za (Zj ZJ) (Za (Zj (CY 0)) Ze)))) Zf) Zf) (Zc (Zs (DM (Za (Zj ZJ) (Za (Zj (CY 0)) Ze)))) Zf))))
abbrev jl:U Ae:=Rx
theorem v4:Zw jl Rx (Zk XA):=Z0
theorem v5(T:Tx K mg d):Aw P w K mg base A3 2 d.a12 d.d12 Rx (Bf K Qa):=ZO T.q12 v4 (λ_ _ _ _ _ _ _ _ a=>(Zc (ag (Pm rfl a.units (by rfl) T.n3 (Ao (Ca (Z1 ["line"] ["level","other"] [1,2] (CN ["line"] ["level","other"] (Zk XA)) rfl rfl  (ZT (Cj 0)) (C5 (Zr 0 (Cc ["line","level","other"])) Z6 (DM (Za (Zj (Zq (XT T) a T.q10 (Za (Zz 0) (Za (Zz 1) Ze)))) (Za (Zj (Zq (XT T) a T.q10 (Za (Zz 0) (Za (Zz 2) Ze)))) Ze)))) (by ext)))))) Zf))
abbrev jm:U Ae:=RC
theorem v6:Zw jm RC (Zk iw):=Z0
def v7(T:Tx K mg d):Aw P w K mg base A3 2 d.a15 d.d15 RC (Bf K Qb):=ZO T.q15 v6 (λ_ _ _ _ _ _ _ _ a=>(Zc (Zs (KA (Zq (Sh T) a T.q0 (Za (Zz 1) Ze)) (IA (oU Yo Yo (MS _) (MS _) Zt (Zl 1) (Ao (Zq (vz T) a T.q9 (Za (Zz 0) Ze))))))) Zf))
abbrev jn:U Ae:=RW.append ["_law_xs","_law_many","_law_places","_law_sizes","_law_j","_law_lines","_law_k","_law_line","_law_at"]
theorem GV:Zw jn RW (Zk iM):=Z0
def v8(T:Tx K mg d):Aw P w K mg base A3 2 d.a45 d.d45 RW (Bf K Qe):=ZO T.q45 GV (λ_ _ _ _ _ _ _ _ a=>(Zc (Z2 1 GV.nd (Zq (Sj T) a T.q43 (Za (Zz 0) (Za (Zj ZJ) Ze)))) (Zc (Z2 2 GV.nd (ZY Zt (Ao (ZX (Ao (Zi (Zl 1) Zt)) Zt)))) (Zc (Z2 3 GV.nd (Zi (Ao (Ca (DY (Za (Zj ZJ) (Za (Zj ZJ) (Za (Zj ZJ) (Za (Zj ZJ) (Za (Zj ZJ) (Za (Zj ZJ) (Za (Zj ZJ) (Za (Zj ZJ) Ze))))))))))) (Ao (ZX (Ao (Zi (Zl 1) Zt)) Zt)))) (Zc (Ge (i:=4) GV.nd rfl (Or.inl rfl) (DY (Za (Zj (CY 2)) Ze))) (Zc (EW ER rfl (on (by rfl) T.n11 (Za (Zj ZJ) (Za (Zj (CY 3)) Ze))) (Zr 5 GV.nd) (Zc (Hf (i:=4) CG (ZY Zt (Ao (ZX (Ao (Zi (Zl 1) (Ao (ZY Zt (Zl 5))))) (Ao (Zi (Zl 4) (Ao (IG (Zl 5) Zt)))))))) Zf)) (Zc (Ge (i:=6) GV.nd rfl (Or.inl rfl) (DY Ze)) (Zc (EW ER rfl (HN (by rfl) T.n11 (Za (Zj (CY 2)) Ze)) (Zr 7 GV.nd) (Zc (Ge (i:=8) GV.nd rfl (Or.inl rfl) (DY Ze)) (Zc (Z2 9 GV.nd (ZX (Ao (ZY (Zl 7) (Ao (Zi (Zl 1) Zt)))) (Zl 2))) (Zc (EW ER rfl (HN (by rfl) T.n11 (Za (Zj (CY 3)) Ze)) (Zr 5 GV.nd) (Zc (ZF (JP a.units (Zl 5) Zt) (Zc (Z2 9 GV.nd (ZX (Ao (Zi (Zl 1) (Ao (ZY (Ao (ZY Zt (Ao (HP Zt (Zl 5))))) (Zl 9))))) (Ao (Zi (Zl 4) (Zl 5))))) Zf) Zf) (Zc (Hf (i:=8) CG (Zq (vU T) a T.q44 (Za (Zj (ZY (Zl 0) (Ao (HP (Ao (Zi (Zl 1) Zt)) (Ao (ZX (Ao (Zi (Zl 1) Zt)) Zt)))))) (Za (Zj (ZX (Ao (ZY (Ao (Zi (Zl 1) Zt)) (Ao (HP (Zl 5) (Ao (ZX (Ao (Zi (Zl 1) Zt)) Zt)))))) Zt)) (Za (Zz 9) Ze))))) Zf))) (Zc (Hf (i:=6) CG (IB Kx KI (by rfl) T.n15 (by rfl) (Za (Zz 8) Ze))) Zf))))) (Zc (TM 6) Zf)))))))))
abbrev jo:U Ae:=RY
theorem v9:Zw jo RY (Zk XP):=Z0
theorem wa(T:Tx K mg d):Aw P w K mg base A3 2 d.a48 d.d48 RY (Bf K Vv):=ZO T.q48 v9 (λ_ _ _ _ _ _ _ _ a=>(Zc (Zs (IB Kx KI (by rfl) T.n15 (by rfl) (Za (Zj (Ca (Z1 ["_law_k"] ["_law_ladders_here","_law_key","_law_grain_here"] [0,1,2] (CN ["_law_k"] ["_law_ladders_here","_law_key","_law_grain_here"] (Zk XP)) rfl rfl  (HN (by rfl) T.n11 (Za (Zj (CZ 1 T.n7)) Ze)) (C5 (Zr 0 (Cc ["_law_k","_law_ladders_here","_law_key","_law_grain_here"])) Z6 (Zq (vV T) a T.q47 (Za (Zj (Zi (Zl 1) (Zl 0))) (Za (Zj (Zi (Zl 2) (Zl 0))) (Za (Zj (Zi (Zl 3) (Zl 0))) Ze))))) (by ext)))) Ze))) Zf))
abbrev jq:U Ae:=RZ.append ["_law_xs","_law_key"]
theorem XV:Zw jq RZ (Zk XQ):=Z0
theorem wb(T:Tx K mg d):Aw P w K mg base A3 2 d.a49 d.d49 RZ (Bf K Vw):=ZO T.q49 XV (λ_ _ _ _ _ _ _ _ a=>(Zc (Z2 2 XV.nd (Zq (Sj T) a T.q43 (Za (Zz 1) (Za (Zj ZJ) Ze)))) (Zc (Z2 3 XV.nd (IB Kx KI (by rfl) T.n15 (by rfl) (Za (Zj (Ca (Z1 ["_law_k"] ["_law_ladders_here","_law_xs"] [0,2] (CN ["_law_k"] ["_law_ladders_here","_law_xs"] (Zk XQ)) rfl rfl  (HN (by rfl) T.n11 (Za (Zj (CZ 0 T.n7)) Ze)) (C5 (Zr 0 (Cc ["_law_k","_law_ladders_here","_law_xs"])) Z6 (Zi (Ao (Zi (Ao (Zi (Zl 1) (Zl 0))) (Ao (ZX (Ao (Zi (Zl 2) (Zl 0))) (Ao (ZN Lk LG (by rfl) T.n7 (by rfl) (Za (Zj (Zi (Zl 1) (Zl 0))) Ze))))))) Zt)) (by ext)))) Ze))) (Zc (Zs (DM (Za (Zj (CY 3)) (Za (Zj (Zi (Ao (Ca (DY (Za (Zj (IG (Ao (ZX (Ao (Zi (Zl 2) Zt)) Zt)) Zt)) (Za (Zj (ZX (Zl 1) (Ao (OR Zt Zt)))) (Za (Zj (IG Zt (Ao (ZX (Zl 1) (Ao (OR Zt Zt)))))) (Za (Zj (ZX (Ao (Zi (Zl 2) Zt)) Zt)) Ze))))))) (Ao (ZX (Ao (Zi (Zl 2) Zt)) Zt)))) Ze)))) Zf))))
abbrev jr:U Ae:=Sd.append ["_law_mine","_law_yours"]
theorem XW:Zw jr Sd (Zk iR):=Z0
def js(T:Tx K mg d):Aw P w K mg base A3 2 d.a53 d.d53 Sd (Bf K Ma):=ZO (N:=jr) (g:=NG) T.q53 XW (λ_ _ _ _ _ _ _ _ a=>(Zc (EW ER rfl (L4 (by rfl) T.n16 (Cj 0) (Cj 1)) (Hh (n:=2) rfl (Z7 (Zr 2 XW.nd) (Z7 (Zr 3 XW.nd) Hg))) (Zc (ZF (DN a.units (Zl 2) (Zl 3)) (Zc (Zs (Zq (vY T) a T.q52 (Za (Zz 2) (Za (Zz 3) Ze)))) Zf) Zf) Zf)) (Zc (Zs ZZ) Zf)))
abbrev N4:U Ae:=["key"]
theorem S4:Zw N4 ["key"] (Zk Xx):=Z0
theorem jt(T:Tx K mg d):Aw P w K mg base A3 3 d.a4 d.d4 ["key"] (Bf K Mb):=ZO T.q4 S4 (λ_ _ _ _ _ _ _ _ a=>(Zc (Zs (IB Kx KI (by rfl) T.n15 (by rfl) (Za (Zj (Ca (Z1 ["thing"] [] [] (CN ["thing"] [] (Zk Xx)) rfl rfl  (ZT (Cj 0)) (C5 (Zr 0 (Cc ["thing"])) Z6 (Zq (v3 T) a T.q3 (Za (Zz 0) Ze))) (by ext)))) Ze))) Zf))
abbrev N6:U Ae:=["thing"]
theorem S6:Zw N6 ["thing"] (Zk Xy):=Z0
theorem wc(T:Tx K mg d):Aw P w K mg base A3 3 d.a6 d.d6 ["thing"] (Bf K J4):=ZO (N:=N6) (g:=K9) T.q6 S6 (λ_ _ _ _ _ _ _ _ a=>(Zc (ZF (Du (ZV (Ao (Em 0 T.n6 T.n15)))) (Zc (Zs ZZ) Zf) Zf) (Zc (ZF (Dm (DX (JN a.units (Ao (CZ 0 T.n7)) Zt) (Eu (JP a.units (Ao (CZ 0 T.n7)) (Ao (JM (d:=.int (4)) (by rfl) T.g_LONGEST_LINE (λ_ _=>by erw[Au]))))))) (Zc (Zs ZZ) Zf) Zf) (Zc (Zs (ZN (Jv rfl) JJ (by rfl) T.n0 (by rfl) (Za (Zj (Ca (Z1 ["value"] [] [] (CN ["value"] [] (Zk Xy)) rfl rfl  (ZT (Cj 0)) (C5 (Zr 0 (Cc ["value"])) Z6 (Zq (jj T) a T.q2 (Za (Zz 0) Ze))) (by ext)))) Ze))) Zf))))
abbrev ju:U Ae:=RD
theorem wd:Zw ju RD (Zk XC):=Z0
theorem we(T:Tx K mg d):Aw P w K mg base A3 3 d.a16 d.d16 RD (Bf K Qi):=ZO (N:=ju) (g:=VB) T.q16 wd (λ_ _ _ _ _ _ _ _ a=>(Zc (ZF (Dm (DX (Du (ZV (Ao (Em 1 T.n6 T.n15)))) (Eu (DN a.units (Ao (CZ 1 T.n7)) (Ao (CZ 0 T.n7)))))) (Zc (Zs ZZ) Zf) Zf) (Zc (Zs (ZN (Jv rfl) JJ (by rfl) T.n0 (by rfl) (Za (Zj (Ca (Z1 ["ladder","level"] [] [] (CN ["ladder","level"] [] (Zk XC)) rfl rfl  (L4 (by rfl) T.n16 (Cj 0) (Cj 1)) (C5 (Hh (n:=2) rfl (Z7 (Zr 0 (Cc ["ladder","level"])) (Z7 (Zr 1 (Cc ["ladder","level"])) Hg))) Z6 (Zq (v7 T) a T.q15 (Za (Zz 0) (Za (Zz 1) Ze)))) (by ext)))) Ze))) Zf)))
abbrev jv:U Ae:=RE
theorem wf:Zw jv RE (Zk XE):=Z0
theorem wg(T:Tx K mg d):Aw P w K mg base A3 3 d.a20 d.d20 RE (Bf K Qk):=ZO (N:=jv) (g:=VC) T.q20 wf (λ_ _ _ _ _ _ _ _ a=>(Zc (GC (Z1 ["axis","ladder"] ["grain","to"] [1,2] (CN ["axis","ladder"] ["grain","to"] (Zk XE)) rfl rfl  (dr (by rfl) T.n4 (Cj 0)) (C5 (Hh (n:=2) rfl (Z7 (Zr 0 (Cc ["axis","ladder","grain","to"])) (Z7 (Zr 1 (Cc ["axis","ladder","grain","to"])) Hg))) Z6 (Zq (v5 T) a T.q12 (Za (Zz 1) (Za (Zj (Zi (Zl 2) (Zl 0))) (Za (Zj (Zi (Zl 3) (Zl 0))) Ze))))) (by ext))) Zf))
abbrev jw:U Ae:=["_law_script","_law_many","_law_ladders_here"]
theorem Sn:Zw jw ["_law_script"] (Zk Rt):=Z0
theorem wh(T:Tx K mg d):Aw P w K mg base A3 3 d.a46 d.d46 ["_law_script"] (Bf K NH):=ZO T.q46 Sn (λ_ _ _ _ _ _ _ _ a=>(Zc (Z2 1 Sn.nd (Zi (Ao (Ca (DY (Za (Zj ZJ) (Za (Zj ZJ) (Za (Zj ZJ) (Za (Zj ZJ) (Za (Zj ZJ) (Za (Zj ZJ) (Za (Zj ZJ) (Za (Zj ZJ) Ze))))))))))) (Ao (ZX (Ao (Zq (Og T) a T.q42 (Za (Zz 0) (Za (Zj ZJ) Ze)))) Zt)))) (Zc (Tv ["_law_k"] ["_law_script"] [0] (CN ["_law_k"] ["_law_script"] (Zk Rt)) rfl rfl Sn.nd rfl rfl (HN (by rfl) T.n11 (Za (Zj (CY 1)) Ze)) (C5 (Zr 0 (Cc ["_law_k","_law_script"])) Z6 (Zq (v8 T) a T.q45 (Za (Zj (ZY (Ao (Zq (Og T) a T.q42 (Za (Zz 1) (Za (Zj (ZY Zt (Zl 0))) Ze)))) (Ao (HP Zt (Zl 0))))) Ze))) (by ext)) (Zc (ZF (IP a.units (Zl 1) Zt) (Zc (Tv ["_law_ladder_here"] [] [] (CN ["_law_ladder_here"] [] (Zk Rt)) rfl rfl Sn.nd rfl rfl (ZT (Cj 2)) (C5 (Zr 0 (Cc ["_law_ladder_here"])) Z6 (OU (Zl 0) OT (LC Zt))) (by ext)) Zf) Zf) (Zc (Zs (CY 2)) Zf)))))
abbrev jx:U Ae:=Sa.append ["_law_amounts","_law_key","_law_amount","_law_cells_here"]
theorem Mp:Zw jx Sa (Zk iP):=Z0
theorem jy(T:Tx K mg d):Aw P w K mg base A3 3 d.a51 d.d51 Sa (Bf K NJ):=ZO T.q51 Mp (λ_ _ _ _ _ _ _ _ a=>(Zc (KC Mp.nd rfl (Or.inl rfl) M8) (Zc (ro (k:=3) a.units ER rfl (ZT (Cj 1)) (λ_=>(Hh (n:=2) rfl (Z7 (Zr 4 Mp.nd) (Z7 (Zr 5 Mp.nd) Hg)))) (λ_=>(Ao (Zq (wa T) a T.q48 (Za (Zz 0) (Za (Zz 4) (Za (Zz 2) Ze)))))) (λ_=>(CY 5))) (Zc (KC (i:=6) Mp.nd rfl (Or.inl rfl) M8) (Zc (Tt 3 (qS ER rfl (Cj 3) (λ_=>(Zr 4 Mp.nd)) (λ_=>(Zc (T5 (i:=6) a.units (Zl 4) (Zq (vX T) a T.q50 (Za (Zj (IU a.units (Zl 3) (Zl 4) (λ_ _=>rfl))) Ze))) Zf)))) (Zc (p6 6) Zf))))))
abbrev jz:U Ae:=Se.append ["_law_k"]
theorem jA:Zw jz Se (Zk Ru):=Z0
theorem jB(T:Tx K mg d):Aw P w K mg base A3 3 d.a55 d.d55 Se (Bf K Mc):=ZO T.q55 jA (λ_ _ _ _ _ _ _ _ a=>(Zc (ZF (Dm (DX (Du (ZV (Ao (Em 0 T.n6 T.n8)))) (Eu (DN a.units (Ao (CZ 0 T.n7)) (Ao (ZN rC rD (by rfl) T.n7 (by rfl) (Za (Zz 1) Ze))))))) (Zc (Zs ZZ) Zf) Zf) (Zc (EW ER rfl (HN (by rfl) T.n11 (Za (Zj (CZ 0 T.n7)) Ze)) (Zr 2 jA.nd) (Zc (ZF (Dm (DX (Du (ZV (Ao (ZN O4 O5 (by rfl) T.n6 (by rfl) (Za (Zj (Zi (Zl 0) (Zl 2))) (Za (Zj (O6 (by rfl) T.n15 (by rfl))) Ze)))))) (DX (DN a.units (Ao (ZN Lk LG (by rfl) T.n7 (by rfl) (Za (Zj (Zi (Zl 0) (Zl 2))) Ze))) Zt) (Eu (Du (ZV (Ao (ZN O4 O5 (by rfl) T.n6 (by rfl) (Za (Zj (Zi (Ao (Zi (Zl 0) (Zl 2))) Zt)) (Za (Zj (O6 (by rfl) T.n15 (by rfl))) Ze)))))))))) (Zc (Zs ZZ) Zf) Zf) (Zc (ZF (Dm (DX (Du (ZV (Ao (ZN (Jv rfl) JJ (by rfl) T.n0 (by rfl) (Za (Zj (Ca (Z1 ["_law_number"] [] [] (CN ["_law_number"] [] (Zk Ru)) rfl rfl  (ZT (HL (Zi (Ao (Zi (Zl 0) (Zl 2))) Zt))) (C5 (Zr 0 (Cc ["_law_number"])) Z6 (Zq (ji T) a T.q54 (Za (Zz 0) Ze))) (by ext)))) Ze))))) (Eu (ZV (Ao (ZN (Y4 rfl) aN (by rfl) T.n1 (by rfl) (Za (Zj (Ca (Z1 ["_law_v"] [] [] (CN ["_law_v"] [] (Zk Ru)) rfl rfl  (ZT (HL (Zi (Ao (Zi (Zl 0) (Zl 2))) Zt))) (C5 (Zr 0 (Cc ["_law_v"])) Z6 (Em 0 T.n6 T.n2)) (by ext)))) Ze))))))) (Zc (Zs ZZ) Zf) Zf) (Zc (ZF (Dm (DX (bJ a.units (Ao (Zi (Ao (Zi (Zl 0) (Zl 2))) Zt)) (Zl 1)) (Eu (DN a.units (Ao (IU a.units (Zl 1) (Ao (Zi (Ao (Zi (Zl 0) (Zl 2))) Zt)) (λ_ _=>rfl))) (Ao (Zi (Ao (Zi (Zl 0) (Zl 2))) Zt)))))) (Zc (Zs ZZ) Zf) Zf) (Zc (ZF (Dm (G8 (JP a.units (Zl 2) Zt) (Iz (Du (ZV (Ao (Zq (js T) a T.q53 (Za (Zj (Zi (Ao (Zi (Zl 0) (Ao (IG (Zl 2) Zt)))) Zt)) (Za (Zj (Zi (Ao (Zi (Zl 0) (Zl 2))) Zt)) Ze))))))))) (Zc (Zs ZZ) Zf) Zf) Zf))))) (Zc (Zs ZZ) Zf))))
abbrev jC:U Ae:=Sf.append ["_law_changes_here","_law_cell_here","_law_xs","_law_row_here"]
theorem Kh:Zw jC Sf (Zk iT):=Z0
theorem wj(T:Tx K mg d):Aw P w K mg base A3 3 d.a56 d.d56 Sf (Fl K Qt):=UO T.q56 Kh (λ_ _ _ _ _ _ _ _ a=>(Gj (Ge Kh.nd rfl (Or.inl rfl) (DY Ze)) (Gj (EW ER rfl (ZT (Cj 2)) (Zr 4 Kh.nd) (Zc (Z2 5 Kh.nd (Zq (Sj T) a T.q43 (Za (Zz 4) (Za (Zj ZJ) Ze)))) (Zc (ZF (Dm (G8 (DN a.units (Zl 1) (Ao (Ca (DY Ze)))) (Iz (IP a.units (Ao (ZX (Ao (Zi (Zl 5) Zt)) Zt)) Zt)))) (Zc (T7 Kh.nd rfl (Or.inl rfl) (qO (i:=1) (Ao (ZX (Ao (Zi (Zl 5) Zt)) (Ao (CZ 1 T.n7)))))) (Zc (Hf (i:=3) CG (ZY (Ao (DM (Za (Zj Jw) Ze))) (Zl 6))) Zf)) (Zc (Z2 6 Kh.nd (Zq (wb T) a T.q49 (Za (Zz 0) (Za (Zj (LB (Zl 4) Zt)) Ze)))) (Zc (ZF (Dm (G8 (DN a.units (Zl 1) (Ao (Ca (DY Ze)))) (Iz (IP a.units (Ao (ZX (Ao (Zi (Zl 5) Zt)) Zt)) Zt)))) (Zc (Z2 6 Kh.nd (DM (Za (Zj (Zi (Ao (Zi (Zl 1) (Ao (ZX (Ao (Zi (Zl 5) Zt)) (Ao (CZ 1 T.n7)))))) Zt)) (Za (Zj (Zi (Zl 6) Zt)) Ze)))) Zf) Zf) (Zc (ZF (Dm (G8 (DN a.units (Zl 1) (Ao (Ca (DY Ze)))) (Iz (IP a.units (Ao (ZX (Ao (Zi (Zl 5) Zt)) Zt)) Zt)))) (Zc (Z2 6 Kh.nd (Zi (Zl 1) (Ao (ZX (Ao (Zi (Zl 5) Zt)) (Ao (CZ 1 T.n7)))))) Zf) Zf) (Zc (Hf (i:=1) CG (CY 6)) (Zc (Hf (i:=3) CG (ZY (Ao (DM (Za (Zj Jw) Ze))) (Zl 6))) Zf)))))) Zf))) (qp 3 (cD (j:=1) (CY 3))))))
abbrev jD:U Ae:=Sg.append ["_law_left","_law_k"]
theorem XX:Zw jD Sg (Zk XR):=Z0
theorem jE(T:Tx K mg d):Aw P w K mg base A3 3 d.a57 d.d57 Sg (Bf K Md):=ZO T.q57 XX (λ_ _ _ _ _ _ _ _ a=>(Zc (ZF (Dm (DX (Du (ZV (Ao (Em 0 T.n6 T.n8)))) (Eu (DN a.units (Ao (CZ 0 T.n7)) (Ao (CZ 1 T.n7)))))) (Zc (Zs ZZ) Zf) Zf) (Zc (Ge (i:=2) XX.nd rfl (Or.inl rfl) (Hd Iv IN (by rfl) T.n8 (by rfl) (Za (Zz 1) Ze))) (Zc (EW ER rfl (HN (by rfl) T.n11 (Za (Zj (CZ 0 T.n7)) Ze)) (Zr 3 XX.nd) (Zc (ZF (Dm (DX (Du (ZV (Ao (ZN O4 O5 (by rfl) T.n6 (by rfl) (Za (Zj (Zi (Zl 0) (Zl 3))) (Za (Zj (O6 (n:="tuple") (by rfl) T.n15 (by rfl))) Ze)))))) (DX (bh a.units (Ao (Zi (Zl 0) (Zl 3))) (Zl 2)) (Eu (Du (ZV (Ao (Zq (ji T) a T.q54 (Za (Zj (Zi (Ao (Zi (Zl 0) (Zl 3))) Zt)) Ze))))))))) (Zc (Zs ZZ) Zf) Zf) (Zc (ZF (ZV (Ao (ZN (Y4 rfl) aN (by rfl) T.n1 (by rfl) (Za (Zj (Ca (Z1 ["_law_value"] [] [] (CN ["_law_value"] [] (Zk XR)) rfl rfl  (ZT (HL (Zi (Ao (Zi (Zl 0) (Zl 3))) Zt))) (C5 (Zr 0 (Cc ["_law_value"])) Z6 (Em 0 T.n6 T.n2)) (by ext)))) Ze)))) (Zc (Zs ZZ) Zf) Zf) (Zc (cV (i:=2) a.units (Ao (Zi (Zl 0) (Zl 3)))) (Zc (ZF (Dm (G8 (JP a.units (Zl 3) Zt) (G8 (IP a.units (Ao (Zi (Ao (Zi (Zl 0) (Ao (IG (Zl 3) Zt)))) Zt)) (Ao (Zi (Ao (Zi (Zl 0) (Zl 3))) Zt))) (Iz (JN a.units (Ao (Zi (Ao (Zi (Zl 0) (Zl 3))) Zt)) (Ao (Zi (Ao (Zi (Zl 0) (Ao (IG (Zl 3) Zt)))) Zt))))))) (Zc (Zs ZZ) Zf) Zf) (Zc (ZF (Dm (G8 (JP a.units (Zl 3) Zt) (G8 (DN a.units (Ao (Zi (Ao (Zi (Zl 0) (Ao (IG (Zl 3) Zt)))) Zt)) (Ao (Zi (Ao (Zi (Zl 0) (Zl 3))) Zt))) (Iz (Du (ZV (Ao (Zq (js T) a T.q53 (Za (Zj (Zi (Ao (Zi (Zl 0) (Ao (IG (Zl 3) Zt)))) Zt)) (Za (Zj (Zi (Ao (Zi (Zl 0) (Zl 3))) Zt)) Ze)))))))))) (Zc (Zs ZZ) Zf) Zf) Zf)))))) (Zc (Zs ZZ) Zf)))))
abbrev N7:U Ae:=["lines","seen","finest_seen","line","level","value","later"]
theorem S7:Zw N7 ["lines"] (Zk Xz):=Z0
theorem wk(T:Tx K mg d):Aw P w K mg base A3 4 d.a7 d.d7 ["lines"] (Bf K Jf):=ZO T.q7 S7 (λ_ _ _ _ _ _ _ _ a=>(Zc (ZF (Du (ZV (Ao (ZN (Jv rfl) JJ (by rfl) T.n0 (by rfl) (Za (Zj (Ca (Z1 ["line"] [] [] (CN ["line"] [] (Zk Xz)) rfl rfl  (ZT (Cj 0)) (C5 (Zr 0 (Cc ["line"])) Z6 (Zq (wc T) a T.q6 (Za (Zz 0) Ze))) (by ext)))) Ze))))) (Zc (Zs ZZ) Zf) Zf) (Zc (KC S7.nd rfl (Or.inl rfl) M8) (Zc (KC (i:=2) S7.nd rfl (Or.inl rfl) M8) (Zc (EW ER rfl (ZT (Cj 0)) (Zr 3 S7.nd) (Zc (ZF (Dm (DX (DN a.units (Ao (CZ 3 T.n7)) (Ao (ZN Lk LG (by rfl) T.n7 (by rfl) (Za (Zj (Zi (Zl 0) Zt)) Ze)))) (Eu (bI a.units (Ao (Zi (Zl 3) Zt)) (Zl 2))))) (Zc (Zs ZZ) Zf) Zf) (Zc (T5 (i:=2) a.units (Ao (Zi (Zl 3) Zt)) ZZ) (Zc (EW ER rfl (dr (by rfl) T.n4 (Cj 3)) (Hh (n:=2) rfl (Z7 (Zr 4 S7.nd) (Z7 (Zr 5 S7.nd) Hg))) (Zc (Z2 6 S7.nd (OU (Zl 3) (LC (Ao (ZY (Zl 4) Zt))) OT)) (Zc (pC (pB a.units (pA (i:=1) a.units (Ao (DM (Za (Zj (CY 4)) (Za (Zj (CY 5)) Ze)))) (CY 6)) (Zl 6)) (Zc (Zs ZZ) Zf) Zf) Zf))) Zf)))) (Zc (Zs ZZ) Zf))))))
abbrev jF:U Ae:=["row"]
theorem wl:Zw jF ["row"] (Zk iA):=Z0
theorem wm(T:Tx K mg d):Aw P w K mg base A3 4 d.a26 d.d26 ["row"] (Bf K QC):=ZO T.q26 wl (λ_ _ _ _ _ _ _ _ a=>(Zc (Zs (DM (Za (Zj (Zq (jt T) a T.q4 (Za (Zj (Zi (Zl 0) Zt)) Ze))) (Za (Zj (Zi (Zl 0) Zt)) Ze)))) Zf))
abbrev jG:U Ae:=["self","thing"]
theorem wn:Zw jG ["self","thing"] (Zk iI):=Z0
theorem wp(T:Tx K mg d):Aw P w K mg base A3 4 d.a40 d.d40 ["self","thing"] (Bf K QD):=Nu T.q40 wn (λ_ _ _ _ _ _ _ _ a=>(Zc (Zs (KA (Zq (we T) a T.q16 (Za (Zj (FI T.cb.cof T.cb.cl T.na_axes (Zl 0))) (Za (Zz 1) Ze))) (IA (bH a.units (Zl 1) (Ao (FI T.cb.cof T.cb.cl T.na_tables (Zl 0))))))) Zf))
abbrev N8:U Ae:=["thing"]
theorem S8:Zw N8 ["thing"] (Zk iq):=Z0
theorem wq(T:Tx K mg d):Aw P w K mg base A3 5 d.a8 d.d8 ["thing"] (Bf K J5):=ZO (N:=N8) (g:=V2) T.q8 S8 (λ_ _ _ _ _ _ _ _ a=>(Zc (ZF (Du (ZV (Ao (Em 0 T.n6 T.n8)))) (Zc (Zs ZZ) Zf) Zf) (Zc (ZF (Dm (DX (JN a.units (Ao (CZ 0 T.n7)) Zt) (Eu (JP a.units (Ao (CZ 0 T.n7)) (Ao (JM (d:=.int (40)) (by rfl) T.g_MOST_LINES (λ_ _=>by erw[Au]))))))) (Zc (Zs ZZ) Zf) Zf) (Zc (Zs (Zq (wk T) a T.q7 (Za (Zz 0) Ze))) Zf))))
abbrev jH:U Ae:=["self","grain"]
theorem wr:Zw jH ["self","grain"] (Zk iH):=Z0
theorem jI(T:Tx K mg d):Aw P w K mg base A3 5 d.a39 d.d39 ["self","grain"] (Bf K La):=Nu T.q39 wr (λ_ _ _ _ _ _ _ _ a=>(Zc (ZF (Du (ZV (Ao (cz T.cb.cof T.cb.cl T.q40.M (wp T) (a.mono (by ext)) T.q40.b Fa (Zz 0) (Za (Zz 1) Ze))))) (Zc Ni Zf) Zf) (Zc (GC (Hd Iv IN (by rfl) T.n8 (by rfl) (Za (Zj (IU a.units (Ao (FI T.cb.cof T.cb.cl T.na_tables (Zl 0))) (Zl 1) (λ_ _=>rfl))) Ze))) Zf)))
abbrev N5:U Ae:=["keys","told","key"]
theorem S5:Zw N5 ["keys"] (Zk ip):=Z0
theorem XY(T:Tx K mg d):Aw P w K mg base A3 6 d.a5 d.d5 ["keys"] (Bf K NN):=ZO T.q5 S5 (λ_ _ _ _ _ _ _ _ a=>(Zc (Ge (i:=1) S5.nd rfl (Or.inl rfl) (DY Ze)) (Zc (EW ER rfl (ZT (HL (Ca (b3 (jt T) (a.mono (by ext)) (by rfl) T.n12 (by rfl) (by rfl) T.q4.m T.q4.b (Zl 0))))) (Zr 2 S5.nd) (Zc (ZF (Dm (DX (Du (ZV (Zl 1))) (Eu (DN a.units (Ao (Zi (Zl 1) (Ao (ow Zt)))) (Zl 2))))) (Zc (Hf (i:=1) CG (CY 2)) Zf) Zf) Zf)) (Zc (TM 1) Zf))))
abbrev jJ:U Ae:=["thing"]
theorem wt:Zw jJ ["thing"] (Zk XM):=Z0
theorem wu(T:Tx K mg d):Aw P w K mg base A3 6 d.a33 d.d33 ["thing"] (Bf K NO):=ZO (N:=jJ) (g:=V4) T.q33 wt (λ_ _ _ _ _ _ _ _ a=>(Zc (ZF (Du (ZV (Ao (Em 0 T.n6 T.n8)))) (Zc (Zs ZZ) Zf) Zf) (Zc (ZF (Dm (DX (JN a.units (Ao (CZ 0 T.n7)) Zt) (Eu (JP a.units (Ao (CZ 0 T.n7)) (Ao (JM (d:=.int (4)) (by rfl) T.g_MOST_LADDERS (λ_ _=>by erw[Au]))))))) (Zc (Zs ZZ) Zf) Zf) (Zc (Zs (ZN (Jv rfl) JJ (by rfl) T.n0 (by rfl) (Za (Zj (Ca (Z1 ["ladder"] [] [] (CN ["ladder"] [] (Zk XM)) rfl rfl  (ZT (Cj 0)) (C5 (Zr 0 (Cc ["ladder"])) Z6 (Zq (wq T) a T.q8 (Za (Zz 0) Ze))) (by ext)))) Ze))) Zf))))
abbrev jK:U Ae:=["values"]
theorem wv:Zw jK ["values"] (Zk Rp):=Z0
theorem ww(T:Tx K mg d):Aw P w K mg base A3 7 d.a11 d.d11 ["values"] (Bf K V7):=ZO T.q11 wv (λ_ _ _ _ _ _ _ _ a=>(Zc (GC (Z1 ["key"] [] [] (CN ["key"] [] (Zk Rp)) rfl rfl  (ZT (HL (Zq (XY T) a T.q5 (Za (Zj (Ca (Z1 ["value"] [] [] (CN ["value"] [] (Zk Rp)) rfl rfl  (ZT (Cj 0)) (C5 (Zr 0 (Cc ["value"])) Z6 (DM (Za (Zj (CY 0)) Ze))) (by ext)))) Ze)))) (C5 (Zr 0 (Cc ["key"])) Z6 (Zi (Zl 0) Zt)) (by ext))) Zf))
abbrev jL:U Ae:=["ways","table","cells","key","cell","there"]
theorem Oj:Zw jL ["ways","table"] (Zk Rq):=Z0
theorem wx(T:Tx K mg d):Aw P w K mg base A3 7 d.a22 d.d22 ["ways","table"] (Bf K V9):=ZO T.q22 Oj (λ_ _ _ _ _ _ _ _ a=>(Zc (KC Oj.nd rfl (Or.inr rfl) M8) (Zc (EW ER rfl (ZT (Cj 1)) (Hh (n:=2) rfl (Z7 (Zr 3 Oj.nd) (Z7 (Zr 4 Oj.nd) Hg))) (Zc (ZF (ZV (Ao (Zq (vI T) a T.q21 (Za (Zz 0) (Za (Zz 3) Ze))))) (Zc (Z2 5 Oj.nd (IB Kx KI (by rfl) T.n15 (by rfl) (Za (Zj (Ca (Z1 ["way","value"] [] [] (CN ["way","value"] [] (Zk Rq)) rfl rfl  (L4 (by rfl) T.n16 (Cj 0) (Cj 3)) (C5 (Hh (n:=2) rfl (Z7 (Zr 0 (Cc ["way","value"])) (Z7 (Zr 1 (Cc ["way","value"])) Hg))) Z6 (IU a.units (Zl 0) (Zl 1) (λ_ _=>rfl))) (by ext)))) Ze))) (Zc (T5 (i:=2) a.units (Zl 5) (ae (bI a.units (Zl 5) (Zl 2)) (Zq (vG T) a T.q19 (Za (Zj (IU a.units (Zl 2) (Zl 5) (λ_ _=>rfl))) (Za (Zz 4) Ze))) (CY 4))) Zf)) Zf) Zf)) (Zc (GC (Z1 ["key"] ["cells"] [2] (CN ["key"] ["cells"] (Zk Rq)) rfl rfl  (ZT (HL (Zq (XY T) a T.q5 (Za (Zj (Ca (Hd (cg rfl) ck (by rfl) T.n8 (by rfl) (Za (Zz 2) Ze)))) Ze)))) (C5 (Zr 0 (Cc ["key","cells"])) Z6 (DM (Za (Zj (CY 0)) (Za (Zj (IU a.units (Zl 1) (Zl 0) (λ_ _=>rfl))) Ze)))) (by ext))) Zf))))
abbrev jM:U Ae:=RN.append ["cells_ahead","cells_behind","keys"]
theorem So:Zw jM RN (Zk Rr):=Z0
theorem wy(T:Tx K mg d):Aw P w K mg base A3 7 d.a31 d.d31 RN (Bf K Wg):=ZO T.q31 So (λ_ _ _ _ _ _ _ _ a=>(Zc (KC So.nd rfl (Or.inr rfl) (Pm rfl a.units (by rfl) T.n3 (Zl 0))) (Zc (KC So.nd rfl (Or.inr rfl) (Pm rfl a.units (by rfl) T.n3 (Zl 1))) (Zc (Tt 2 (rz ["key"] ["cells_behind","cells_ahead"] [3,2] (CN ["key"] ["cells_behind","cells_ahead"] (Zk Rr)) rfl rfl So.nd rfl rfl (Cj 2) (C5 (Zr 0 (Cc ["key","cells_behind","cells_ahead"])) (Tu (DN a.units (Ao (qV a.units (Zl 1) (Zl 0))) (Ao (IU a.units (Zl 2) (Zl 0) (λ_ _=>rfl))))) (CY 0)) (by ext))) (Zc (Tt 3 (GC (Uk (XY T) a T.q5 (Za (Zj (ZY (Zl 4) (Ao (Ca (ry ["key"] ["cells_ahead"] [2] (CN ["key"] ["cells_ahead"] (Zk Rr)) rfl rfl  (Cj 3) (C5 (Zr 0 (Cc ["key","cells_ahead"])) (Tu (bJ a.units (Zl 0) (Zl 1))) (CY 0)) (by ext)))))) Ze)))) Zf)))))
abbrev jN:U Ae:=Ry
theorem wz:Zw jN Ry (Zk XB):=Z0
theorem wA(T:Tx K mg d):Aw P w K mg base A3 8 d.a13 d.d13 Ry (Bf K Wj):=ZO T.q13 wz (λ_ _ _ _ _ _ _ _ a=>(Zc (ZF (Dm (G8 (nK (Zl 2)) (Iz (Du (ZV (Ao (Zq (jj T) a T.q2 (Za (Zz 2) Ze)))))))) (Zc (GC (DY Ze)) Zf) Zf) (Zc (GC (Uk (ww T) a T.q11 (Za (Zj (Ca (Z1 ["line"] ["level","value"] [1,2] (CN ["line"] ["level","value"] (Zk XB)) rfl rfl  (ZT (Cj 0)) (C5 (Zr 0 (Cc ["line","level","value"])) (Tu (IP a.units (Ao (Zq (XT T) a T.q10 (Za (Zz 0) (Za (Zz 1) Ze)))) (Zl 2))) (Zi (Zl 0) Zt)) (by ext)))) Ze))) Zf)))
abbrev jO:U Ae:=RF.append ["single"]
theorem jP:Zw jO RF (Zk XG):=Z0
theorem wC(T:Tx K mg d):Aw P w K mg base A3 8 d.a23 d.d23 RF (Bf K Wl):=ZO T.q23 jP (λ_ _ _ _ _ _ _ _ a=>(Zc (Tv (i:=3) ["key","amount"] [] [] (CN ["key","amount"] [] (Zk XG)) rfl rfl jP.nd rfl rfl (ZT (Cj 1)) (C5 (Hh (n:=2) rfl (Z7 (Zr 0 (Cc ["key","amount"])) (Z7 (Zr 1 (Cc ["key","amount"])) Hg))) Z6 (DM (Za (Zj (CY 0)) (Za (Zj (Zq (vE T) a T.q18 (Za (Zj (Ca (DY (Za (Zj (CY 1)) Ze)))) Ze))) Ze)))) (by ext)) (Zc (GC (Uk (wx T) a T.q22 (Za (Zj (Zq (wg T) a T.q20 (Za (Zz 0) (Za (Zj (Zq (iW T) a T.q17 (Za (Zz 0) Ze))) (Za (Zz 2) Ze))))) (Za (Zz 3) Ze)))) Zf)))
abbrev jQ:U Ae:=RO.append ["changed","grain"]
theorem XZ:Zw jQ RO (Zk XJ):=Z0
theorem wD(T:Tx K mg d):Aw P w K mg base A3 8 d.a32 d.d32 RO (Bf K Wo):=ZO T.q32 XZ (λ_ _ _ _ _ _ _ _ a=>(Zc (Ge (i:=2) XZ.nd rfl (Or.inl rfl) (DY Ze)) (Zc (EW ER rfl (ZT (HL (Ca (dj rfl (by rfl) T.n12 (by rfl) (Zl 0))))) (Zr 3 XZ.nd) (Zc (oV (i:=2) (Z1 ["key"] ["grain"] [3] (CN ["key"] ["grain"] (Zk XJ)) rfl rfl  (ZT (HL (Zq (wy T) a T.q31 (Za (Zj (IU a.units (Zl 0) (Zl 3) (λ_ _=>rfl))) (Za (Zj (IU a.units (Zl 1) (Zl 3) (λ_ _=>rfl))) Ze))))) (C5 (Zr 0 (Cc ["key","grain"])) Z6 (DM (Za (Zj (CY 1)) (Za (Zj (CY 0)) Ze)))) (by ext))) Zf)) (Zc (TM 2) Zf))))
abbrev jR:U Ae:=Rz
theorem wE:Zw jR Rz (Zk iv):=Z0
theorem wF(T:Tx K mg d):Aw P w K mg base A3 9 d.a14 d.d14 Rz (Bf K Wp):=ZO T.q14 wE (λ_ _ _ _ _ _ _ _ a=>(Zc (Zs (oQ a.units (Ao (ZN Lk LG (by rfl) T.n7 (by rfl) (Za (Zj (Zq (wA T) a T.q13 (Za (Zz 0) (Za (Zz 1) (Za (Zz 2) Ze))))) Ze))) Zt)) Zf))
abbrev jS:U Ae:=RM
theorem wG:Zw jS RM (Zk XI):=Z0
theorem jT(T:Tx K mg d):Aw P w K mg base A3 9 d.a30 d.d30 RM (Bf K NR):=ZO T.q30 wG (λ_ _ _ _ _ _ _ _ a=>(Zc (ag (Pm rfl a.units (by rfl) T.n3 (Ao (Ca (Z1 ["grain"] ["ladders","rows"] [0,1] (CN ["grain"] ["ladders","rows"] (Zk XI)) rfl rfl  (ZT (Cj 2)) (C5 (Zr 0 (Cc ["grain","ladders","rows"])) Z6 (DM (Za (Zj (CY 0)) (Za (Zj (Zq (wC T) a T.q23 (Za (Zz 1) (Za (Zz 2) (Za (Zz 0) Ze))))) Ze)))) (by ext)))))) Zf))
abbrev jU:U Ae:=RH
theorem wH:Zw jU RH (Zk XH):=Z0
theorem wI(T:Tx K mg d):Aw P w K mg base A3 10 d.a24 d.d24 RH (Bf K Wr):=ZO (N:=jU) (g:=QP) T.q24 wH (λ_ _ _ _ _ _ _ _ a=>(Zc (ZF (Dm (DX (Du (ZV (Ao (Em 1 T.n6 T.n15)))) (Eu (DN a.units (Ao (CZ 1 T.n7)) (Ao (CZ 0 T.n7)))))) (Zc (Zs ZZ) Zf) Zf) (Zc (Zs (ZN (Jv rfl) JJ (by rfl) T.n0 (by rfl) (Za (Zj (Ca (Z1 ["ladder","value"] [] [] (CN ["ladder","value"] [] (Zk XH)) rfl rfl  (L4 (by rfl) T.n16 (Cj 0) (Cj 1)) (C5 (Hh (n:=2) rfl (Z7 (Zr 0 (Cc ["ladder","value"])) (Z7 (Zr 1 (Cc ["ladder","value"])) Hg))) Z6 (Zq (wF T) a T.q14 (Za (Zz 0) (Za (Zj ZJ) (Za (Zz 1) Ze))))) (by ext)))) Ze))) Zf)))
abbrev jV:U Ae:=RP
theorem wJ:Zw jV RP (Zk XN):=Z0
theorem wL(T:Tx K mg d):Aw P w K mg base A3 10 d.a34 d.d34 RP (Fl K NS):=UN (N:=jV) (g:=Wx) T.q34 wJ (λ_ _ _ _ _ _ _ _ a=>(Gj (ZF (qA λ_ _=>(Du (ZV (Ao (Zq (wu T) a T.q33 (Za (Zz 1) Ze)))))) (Zc Ni Zf) Zf) (Gj (Nk (k:=0) T.cb.cof T.cb.cl T.na_axes (qH (cR ["ladder"] [] [] (CN ["ladder"] [] (Zk XN)) rfl rfl (λ_ _=>(ZT (Cj 1))) (λ_ _ _ _ _ _ _=>(Zr 0 (Cc ["ladder"]))) (λ_ _ _ _ _ _ _=>(Hd Iv IN (by rfl) T.n8 (by rfl) (Za (Zz 0) Ze))) (by ext)))) (Gj (Nk (k:=0) T.cb.cof T.cb.cl T.na_standing (Ca (DY Ze))) (Gj (Nk (k:=0) T.cb.cof T.cb.cl T.na_tables (Zq (jT T) a T.q30 (Za (Zj (FI T.cb.cof T.cb.cl T.na_axes (Zl 0))) (Za (Zj (Ca (DY Ze))) (Za (Zj (Ca (DY (Za (Zj (Zq (iW T) a T.q17 (Za (Zj (FI T.cb.cof T.cb.cl T.na_axes (Zl 0))) Ze))) Ze)))) Ze))))) (Up (j:=0)))))))
abbrev jW:U Ae:=["self","ahead"]
theorem jX:Zw jW ["self"] (Zk iJ):=Z0
theorem wM(T:Tx K mg d):Aw P w K mg base A3 10 d.a41 d.d41 ["self"] (Fl K NT):=UN T.q41 jX (λ_ _ _ _ _ _ _ _ a=>(Gj (Z2 1 jX.nd (FI T.cb.cof T.cb.cl T.na_tables (Zl 0))) (Gj (Nk (k:=0) T.cb.cof T.cb.cl T.na_tables (Zq (jT T) a T.q30 (Za (Zj (FI T.cb.cof T.cb.cl T.na_axes (Zl 0))) (Za (Zj (FI T.cb.cof T.cb.cl T.na_standing (Zl 0))) (Za (Zj (Ca (Hd (cg rfl) ck (by rfl) T.n8 (by rfl) (Za (Zz 1) Ze)))) Ze))))) (cD (j:=0) (Zq (wD T) a T.q32 (Za (Zz 1) (Za (Zj (FI T.cb.cof T.cb.cl T.na_tables (Zl 0))) Ze)))))))
abbrev jY:U Ae:=RI
theorem wN:Zw jY RI (Zk iz):=Z0
theorem wO(T:Tx K mg d):Aw P w K mg base A3 11 d.a25 d.d25 RI (Bf K WB):=ZO T.q25 wN (λ_ _ _ _ _ _ _ _ a=>(Zc (ZF (Dm (DX (Du (ZV (Ao (Em 1 T.n6 T.n15)))) (Eu (DN a.units (Ao (CZ 1 T.n7)) Zt)))) (Zc (Zs ZZ) Zf) Zf) (Zc (ZF (Dm (G8 (DN a.units (Ao (Zi (Zl 1) Zt)) (Ao Jw)) (Iz (DN a.units (Ao (Zi (Zl 1) Zt)) (Ao Jw))))) (Zc (Zs ZZ) Zf) Zf) (Zc (Zs (KA (Zq (wI T) a T.q24 (Za (Zz 0) (Za (Zj (Zi (Zl 1) Zt)) Ze))) (IA (Zq (Sh T) a T.q0 (Za (Zj (Zi (Zl 1) Zt)) Ze))))) Zf))))
abbrev jZ:U Ae:=RL.append ["standing","change"]
theorem X2:Zw jZ RL (Zk iD):=Z0
theorem wP(T:Tx K mg d):Aw P w K mg base A3 12 d.a29 d.d29 RL (Bf K WC):=ZO T.q29 X2 (λ_ _ _ _ _ _ _ _ a=>(Zc (Ge X2.nd rfl (Or.inl rfl) (Hd Iv IN (by rfl) T.n8 (by rfl) (Za (Zz 1) Ze))) (Zc (EW ER rfl (ZT (Cj 2)) (Zr 4 X2.nd) (Zc (ZF (Du (ZV (Ao (Zq (wO T) a T.q25 (Za (Zz 0) (Za (Zz 4) Ze)))))) (Zc Ni Zf) Zf) (Zc (ZF (IP a.units (Ao (Zi (Zl 4) Zt)) (Ao Jw)) (Zc (bQ (Ut (vK T) (a.mono (by ext)) (by rfl) T.q27.m T.q27.F.kp T.q27.b (E:=E0) Fa (Us (k:=3) (Ps (Ur (DM (Za (Zj (Zi (Zl 4) Zt)) (Za (Zj (Zi (Zl 4) Zt)) Ze)))) Pr)))) Zf) (Zc (bQ (Ut (k:=3) (vN T) (a.mono (by ext)) (by rfl) T.q28.m T.q28.F.kp T.q28.b (E:=E0) Fa (Us (k:=3) (Ps (Ur (DM (Za (Zj (Zi (Zl 4) Zt)) (Za (Zj (Zi (Zl 4) Zt)) Ze)))) Pr)))) Zf)) Zf))) (Zc (GC (b3 (wm T) (a.mono (by ext)) (by rfl) T.n12 (by rfl) (by rfl) T.q26.m T.q26.b (Zl 3))) Zf))))
abbrev j2:U Ae:=RQ
theorem wQ:Zw j2 RQ (Zk iG):=Z0
theorem wR(T:Tx K mg d):Aw P w K mg base A3 13 d.a38 d.d38 RQ (Fl K QS):=UN (N:=j2) (g:=WE) T.q38 wQ (λ_ _ _ _ _ _ _ _ a=>(Gj (Nk (k:=0) T.cb.cof T.cb.cl T.na_standing (Zq (wP T) a T.q29 (Za (Zj (FI T.cb.cof T.cb.cl T.na_axes (Zl 0))) (Za (Zj (FI T.cb.cof T.cb.cl T.na_standing (Zl 0))) (Za (Zz 1) Ze))))) (qq (j:=0) (qw (k:=0) T.cb.cof T.cb.cl T.q41.M (wM T) (a.mono (by ext)) T.q41.b (E:=E0) Fa))))
abbrev j3:U Ae:=["_law_script","_law_ladders_here","_law_low","_law_handed","_law_book","_law_rows","_law_cells_here","_law_parts","_law_k","_law_changes_here","_law_given","_law_told","_law_found","_law_table","_law_axes"]
theorem F6:Zw j3 ["_law_script"] (Zk Rw):=Z0
theorem wT(T:Tx K mg d):Aw P w K mg base A3 14 d.a58 d.d58 ["_law_script"] (Bf K eZ):=
 ZO (N:=j3) (g:=QT) T.q58 F6 (λ_ _ _ _ _ _ _ _ a=>(Zc (Z2 1 F6.nd (Zq (wh T) a T.q46 (Za (Zz 0) Ze)))
   (Zc (Z2 2 F6.nd (IB Kx KI (by rfl) T.n15 (by rfl) (Za (Zj (Ca (Z1 ["_law_ladder_here"] [] [] (CN ["_law_ladder_here"] [] (Zk Rw)) rfl rfl  (ZT (Cj 1)) (C5 (Zr 0 (Cc ["_law_ladder_here"])) Z6 ZJ) (by ext)))) Ze)))
   (qJ (k:=3) (kb:=4) ["_law_ladder_here"] [] [] (CN ["_law_ladder_here"] [] (Zk Rw)) rfl rfl F6.nd rfl rfl (λ_ _=>(ZT (Cj 1))) (λ_ _ _ _ _ _ _=>(Zr 0 (Cc ["_law_ladder_here"]))) (λ_ _ _ _ _ _ _=>by exact(Hd Iv IN (by rfl) T.n8 (by rfl) (Za (Zz 0) Ze))) (by ext) (λ_=>(qy T.cb.cof (T.cb.mkB T.q34) (wL T) (a.mono (by ext)) (by rfl) T.cb.m T.q34.b (E:=E0) Fa (Za (Zz 3) Ze)))
   (Zc (Ge (i:=5) F6.nd rfl (Or.inl rfl) (DY Ze))
   (Zc (Z2 6 F6.nd (ZY (Ao (OU (Zl 0) (LC Zt) (LC Zt))) (Ao (Zq (Sj T) a T.q43 (Za (Zj (Zq (Og T) a T.q42 (Za (Zz 0) (Za (Zj ZJ) Ze)))) (Za (Zj (ZX (Ao (Zq (Og T) a T.q42 (Za (Zz 0) (Za (Zj ZJ) Ze)))) Zt)) Ze))))))
   (Zc (Z2 7 F6.nd (ZY Zt (Ao (ZX (Ao (Zq (Og T) a T.q42 (Za (Zz 0) (Za (Zj ZJ) Ze)))) Zt))))
   (Zc (EW ER rfl (HN (by rfl) T.n11 (Za (Zj (CY 7)) Ze)) (Zr 8 F6.nd)
   (Zc (T7 (i:=9) F6.nd rfl (Or.inl rfl) (Ut (k:=5) (wj T) (a.mono (by ext)) (by rfl) T.q56.m T.q56.F.kp T.q56.b (E:=E0) Fa (qt (cG 1) (Us (k:=5) (Ps (Ur (Ca (qP (Zl 6) (LC (Zl 8)) OT (Zl 7)))) Pr)))))
   (Zc (Ge (i:=10) F6.nd rfl (Or.inl rfl) (Hd Iv IN (by rfl) T.n8 (by rfl) (Za (Zz 9) Ze)))
   (Zc (T7 (i:=11) F6.nd rfl (Or.inl rfl) (qv (k:=4) T.cb.cof T.cb.cl T.q38.M (wR T) (a.mono (by ext)) T.q38.b (E:=E0) Fa (Ps (cG 10) Pr)))
   (Zc (ZF (Dm (DX (DN a.units (Zl 10) (Zl 9)) (Eu (Du (ZV (Ao (Em 11 T.n6 T.n8)))))))
   (Zc (Zs ZZ)
   Zf)
   Zf)
   (Zc (qb (i:=10))
   (Zc (Ge (i:=12) F6.nd rfl (Or.inl rfl) (ql T.cb.cof T.cb.cl T.q36.M (i8 T) (a.mono (by ext)) T.q36.b (E:=E0) Fa (Zz 4)))
   (Zc (Ge (i:=13) F6.nd rfl (Or.inl rfl) (qk T.cb.cof T.cb.cl T.q39.M (jI T) (a.mono (by ext)) T.q39.b (E:=E0) Fa (Zz 4) (Za (Zz 2) Ze)))
   (Zc (ZF (Dm (DX (Du (ZV (Ao (Zq (jE T) a T.q57 (Za (Zz 12) (Za (Zz 5) Ze)))))) (Eu (Du (ZV (Ao (Zq (jB T) a T.q55 (Za (Zz 13) (Za (Zj (Zq (jy T) a T.q51 (Za (Zz 1) (Za (Zz 5) (Za (Zz 2) Ze))))) Ze)))))))))
   (Zc (Zs ZZ)
   Zf)
   Zf)
   (Zc (Hf (i:=12) CG (DM (Za (Zj (CY 2)) (Za (Zj ZJ) Ze))))
   (Zc (Hf (i:=13) CG (DM (Za (Zj (CY 2)) (Za (Zj (DM (Za (Zj ZJ) (Za (Zj ZJ) (Za (Zj ZJ) (Za (Zj ZJ) Ze)))))) Ze))))
   (qI (k:=14) F6.nd (qG T.cb.cof T.cb.cl T.q35.M (vP T) (a.mono (by ext)) T.q35.b (E:=E0) Fa (Zz 4)) (DN a.units (Zl 14) (Zl 1)) (Zc (Zs ZZ)
   Zf) (λ_ _=>rfl)))))))))))))
   (Zc (ZF (Dm (DX (Du (ZV (Ao (Zq (jE T) a T.q57 (Za (Zj (Ul T.cb.cof T.cb.cl T.q36.M (i8 T) (a.mono (by ext)) T.q36.b (E:=E0) Fa (Zz 4))) (Za (Zz 5) Ze)))))) (DX (DN a.units (Ao (Ul T.cb.cof T.cb.cl T.q35.M (vO T) (a.mono (by ext)) T.q35.b (E:=E0) Fa (Zz 4))) (Zl 1)) (Eu (DN a.units (Ao (Ul T.cb.cof T.cb.cl T.q37.M (vS T) (a.mono (by ext)) T.q37.b (E:=E0) Fa (Zz 4))) (Ao (Ca (DY (Za (Zj (CY 2)) Ze)))))))))
   (Zc (Zs ZZ)
   Zf)
   Zf)
   (Zc (Zs (Zq (jB T) a T.q55 (Za (Zj (cz T.cb.cof T.cb.cl T.q39.M (jI T) (a.mono (by ext)) T.q39.b (E:=E0) Fa (Zz 4) (Za (Zz 2) Ze))) (Za (Zj (Zq (jy T) a T.q51 (Za (Zz 1) (Za (Zz 5) (Za (Zz 2) Ze))))) Ze))))
   Zf)))))) (λ_ _=>rfl)))))
end
theorem fin{l:PySem.W.OpenLaw}{w:Aj}{K:Av}{h:Am}{mg:Ae->O Aa}{b:Ac}(_:K.In h)(a:mg "law"=Z (.ref b)):(∃d,Tx K mg d)->∃fd:A2,(∀(s:Ab)(v:Aa),BindsTo s fd ⟨[v],[]⟩ [("_law_script",v)])/\∀base:Am,K.In base->base.Ns De mg->Aw l.prog w K mg base A3 14 b fd ["_law_script"] (MG K):=λ⟨_,T⟩=>qg a T.q58 (λ_=>wT T) vt λ_ _ _ _ _ _ _=>rfl
theorem walk{l:PySem.W.OpenLaw}{q:A4}{b:U Ae}{i:(Ae->O Aa)->Am->Prop}{e:Aj->Am->Prop}{d:DefRec}{K:Params->Av}(j:l.most=Z 63)(c:d.params.defaults=[]) (m:∀(w:Aj) (h:Am),e w h->(K w.params).In h) (F:∀(w:Aj) (mg:Ae->O Aa) (g:Ac) (h:Am),(K w.params).In h->h.Ns De mg->mg d.name=Z (.ref g)->∃fd:A2,(∀(s:Ab) (u:Aa),BindsTo s fd ⟨[u],[]⟩ [("_law_script",u)])/\∀base:Am,(K w.params).In base->base.Ns De mg->Aw l.prog w (K w.params) mg base A3 14 g fd ["_law_script"] (MG (K w.params))):PySem.W.WalkO q b i e l.row.toRowW d [] (λf vs=>PySem.call f vs):=L2.walk_of j (by ext) c ⟨rfl,by ext,by ext⟩ m F (λ_ _ a ns o _ p=>⟨a,ns,rfl,p,o,λ_=>rfl⟩) λ_ _ _ _ _ z=>z
end K50
variable{acc:U K50.Bq}
end
structure PySem.W.Fast:Prop where(tw4300067118090457057 tw11808468170176734320 tw11304035749414473381 tw4500163358006193716 tw2020393798775896341 tw9960648203991567524 tw1877529484176257014 tw1220058714822301877 tw4038265904128685269 tw6127191428992074042 tw17819969728054245547 tw14542713601455087920 tw17905467389800232982 tw8070606903054621344 tw17203660276075617855 tw10974573920159088730 tw8195554956472408766 tw7581469947268185504 tw6705089455562365235 tw8896158015668395462 tw7722258557665697113 tw5093380646398816279 tw10576632894578507757 tw12150862733491697367 tw16180269054268525081 tw10144030701260714906 tw5711308371376597924 tw12672312606024650589 tw7210513264195674340 tw4668249130657072719 tw5122598768711700942 tw158171873953377524 tw5665379123480003792 tw2979117565280227417 tw2109870064883169977 tw6577677677725983839 tw9064168469440817122 tw7197859628454471105 tw11267055234533852082 tw7155843425248893590 tw12444300410295516716 tw2357790578536986386 tw11550242786203125827 tw10233012646229539370 tw9898438683050308683 tw10098398238549265920 tw8185554964436379351 tw9101448829542241282 tw15639010385150384116 tw8877310334739607476 tw13139362451139187379 tw1284780458968373352 tw13410128863386894555 tw9367997289104040089 tw17003642941952238664 tw18226084815050071 tw10381353490741945286 tw8174931554081128177 tw9097498327370008192 tw18106085242249385333 tw3742849550080699573 tw2665374279292187323 tw8413414085086691277 tw36109175162348156 tw983359829413526438 tw15573767242616224779 tw14056700291772928102 tw9366803623269885859 tw11239878249425487750 tw12936595409784233585 tw3020785527089979489 tw13084151698080148133 tw2819477950444822541 tw13677651495499744752 tw4072317509229561605 tw937618034276395959 tw5462626611211261924 tw4444334745574632165 tw11616655463537750395 tw14539659725305483408 tw8629906684677737140 tw7846285357658040681 tw14456884415886971583 tw9296627857327235961 tw16999848110603991039 tw7078549962026039705 tw2716603574152743055 tw11522836747323009843 tw16303991735243137399 tw16346799735901448947 tw13302286570412377188 tw15481615974247911135 tw2447913572707272322 tw14574608377490910847 tw13441239572657262707 tw289050456272965842 tw15680440891482039287 tw1687441491536117319 tw5074548886293019509 tw18351747996731322589 tw8341935458216021152 tw10710441700718210069 tw15489107354149847973 tw13860497948450359790 tw6616199843165544939 tw892667708045072539 tw3263347629235835640 tw11971321596613777286 tw1700660194694193107 tw3066242880623113630 tw14321668664022744880 tw7797019188159733299 tw9265786496208524354 tw15648009217100224918 tw17848211723259620828 tw5179963220421441382 tw13051550483470551567 tw16207456406448441948 tw7931782977212207844 tw17254486155153235562 tw18083738632310332337 tw5051715758483290980 tw12095286039620696579 tw6824102404735150173 tw11160422005275006467 tw15481731663807467077 tw1839976869684621155 tw3527245183469425317 tw15010896085027532796 tw11880715028710071004 tw13591040374683714423 tw15875962129661287491 tw15371383158710192900 tw18182170855230560691 tw678318370316006118 tw8790486970023229352 tw11746385497131124445 tw14355072777867962151 tw3757218379272185436 tw8690233542355531299 tw9712567795547164548 tw14151551406589038949 tw9325881621195811259 tw16449803403858800203 tw4170286769836188479 tw13191328251088124331 tw7918745485231666675 tw2211086478514892660 tw4894070083907133811 tw1222142051511645212 tw9057083935978372532 tw10608494260920464427 tw7158350808184498478 tw16486202049032622032 tw6761247873417151376 tw9770736339954524580 tw11716006698954766899 tw915869705541415301 tw12357876146560416071 tw9088080135479334882 tw14615610132192297280 tw11480885230346356670 tw11560288676461071022 tw11936757026526566487 tw18046272210158027273 tw17020316403245643974 tw8754832026944714466 tw18252283287161646546 tw12597291001449215388 tw9020876705938948114 tw2116566899332051728 tw5159066188931829680 tw13505267640799497219 tw6989945377102634793 tw15807492736920281868 tw9582700013871372490 tw2000300270824714766 tw13982695174151510689 tw8422199112583633538 tw12285607227119277709 tw6587431953817358809 tw10382033750276005196 tw4252456222626994181 tw14207144127199541233 tw10361242305963661171 tw7808772438340251917 tw14618368088493507686 tw16779549064856097021 tw3138988758887080573 tw8603276801294494119 tw11493715520186603792 tw12854110926378640493 tw11036184886819093088 tw9345367085271313443 tw7130073167822334983 tw7978075724911231672 tw14441822512716404697 tw9991258212171066984 tw17973290677343375053 tw8022825663051392451 tw10826567469339864286 tw2874380687984305573 tw7564951484079360228 tw5660840872842159105 tw7506514883053206215 tw3244256201254156174 tw2584032386802538799 tw14837019249721572095 tw14069619878423021907 tw6970351910591587053 tw6740691031800969369 tw15391941084418870736 tw8112827000533847779 tw9971364000096894166 tw10973903001052083017 tw68465420027155669 tw16065770327004052526 tw7751788476648848366 tw5836957396800600106 tw1258255821763503608 tw6984952157252107350 tw6720152009063681974 tw2249504614265338337 tw9877865736451014858 tw17258147738390623261 tw10887202995585769288 tw15830475103342951250 tw5151908304012894602 tw16909040387307310282 tw14169142977749360281 tw18222187684315357945 tw13198356992777392250 tw5973331086162397410 tw16371233333396492626 tw14386072105833110498 tw10619223459064502503 tw15283769774253232544 tw10202337119981799466 tw8672847924474546492 tw2322620783355674201 tw12004574072363762654 tw11258493040692530629 tw15693222127976462973 tw10057316928760529368 tw8861957325575316554 tw5241706198903118868 tw3338380469696914307 tw18435275414701535083 tw1810936904985426965 tw17946663782070651152 tw1688603555075345889 tw11549671932600358804 tw4183376110847205250 tw16539922878563978686 tw11781559815129016312 tw3530753612468384484 tw14548534786524158269 tw6040408762559974944 tw3154599551576303241 tw8889326624668613557 tw3949407316524791779 tw14929482964992316546 tw7741016533969101420 tw15247531993335340694 tw13477696043216184384 tw13050232034593949425 tw8209701051649593688 tw7821688040131233049 tw6762770915642341677 tw15958805165407693578 tw12868161213059676251 tw1203205359056479493 tw10401794995693037267 tw17468174082320395982 tw9576573194416939951 tw8088756367135108855 tw4000739344953814183 tw18186311772421050194 tw12025660432078582827 tw4072393366221952420 tw3183013681093624947 tw16840651055535547372 tw15632823251309184084 tw9582157603616084111 tw6871298881591876982 tw7598228458341948096 tw3556370691398539493 tw16596210995460634504 tw12642382870611076929 tw7074541652626205130 tw819536059147035670 tw11116974826282318061 tw8771084397263664746 tw14710086655705069373 tw6481734800748799328 tw4592597423753971161 tw15552175717115744129 tw11376227950538100683 tw16871587016661306266 tw10521451099609619136 tw16125017555502507646 tw12293851830280070264 tw8661759731827293849 tw1589572731067184650 tw14376985468222723943 tw6440139685296200728 tw6937883762579904189 tw184520704186364822 tw12362263198730566476 tw6997880028453940071 tw11635462688964766873 tw12082469035485796852 tw11732594569564509766 tw10958852380524996398 tw7697818606678319659 tw7961092584516873849 tw9575991545284982405 tw5241031223628575881 tw13308101960990090998 tw7498624138696766296 tw5624103854313460033 tw3500358014370832008 tw17961420390799077129 tw15329605313431024248 tw12422384810425678350 tw15000148500430498750 tw8811625992176581085 tw1130014202166243917 tw17762509093573144620 tw10316656888008135892 tw76727506588589218 tw10007105773807740680 tw15125229108920833221 tw12388362396006443658 tw381854268225134025 tw10232198418040553599 tw13651976158942475531 tw16486088891560749652 tw4140043442892178596 tw16738760956339736155 tw14329077706793830652 tw4881832689842912533 tw1236500068395326574 tw8377577113731558562 tw3454662916466282801 tw3248982891924818805 tw18101104644976218635 tw16131612767359163000 tw13513643220693583335 tw11668730667448599858 tw7276556292990930651 tw2906427969323383711 tw17618205523971075279 tw11840993186262254540 tw11546242496666605013 tw11445845445893549772 tw7668407620188712449 tw6833211016656485164 tw13738835876340468207:True)
open PySem PySem.W PyProof.Rows
set_option maxRecDepth 100000 in
set_option maxHeartbeats 0 in
theorem PySem.Challenge.cw_cubebook_k50_poured_holds : PySem.Challenge.rw_cubebook_k50_poured.Holds := by
 w_on;o_law;k_head;(case hw=>w_witness2)
 k_fill
 refine K50.walk (l:=PySem.Challenge.rw_cubebook_k50_poured) rfl rfl (fun w h Y=>PySem.W.kIn_of Y) ?F
 case F =>
  intro w mg fa h KX G hmg
  open L2 in refine' K50.fin KX hmg ⟨⟨_,_,_,_,_,_,_,_,_,_,_,_,_,_,_,_,_,_,_,_,_,_,_,_,_,_,_,_,_,_,_,_,_,_,_,_,_,_,_,_,_,_,_,_,_,_,_,_,_,_,_,_,_,_,_,_,_,_,_,_,_,_,_,_,_,_,_,_,_,_,_,_,_,_,_,_,_,_,_,_,_,_,_,_,_,_,_,_,_,_,_,_,_,_,_,_,_,_,_,_,_,_,_,_,_,_,_,_,_,_,_,_,_,_,_,_,_,_,_⟩,⟨L2.ci KX G ?_ ?_ ?_ ?_ ?_ ?_ ?_,?_,?_,?_,di KX G ?_ ?_ ?_ ?_,di KX G ?_ ?_ ?_ ?_,di KX G ?_ ?_ ?_ ?_,di KX G ?_ ?_ ?_ ?_,di KX G ?_ ?_ ?_ ?_,di KX G ?_ ?_ ?_ ?_,di KX G ?_ ?_ ?_ ?_,di KX G ?_ ?_ ?_ ?_,di KX G ?_ ?_ ?_ ?_,di KX G ?_ ?_ ?_ ?_,di KX G ?_ ?_ ?_ ?_,di KX G ?_ ?_ ?_ ?_,di KX G ?_ ?_ ?_ ?_,di KX G ?_ ?_ ?_ ?_,di KX G ?_ ?_ ?_ ?_,di KX G ?_ ?_ ?_ ?_,di KX G ?_ ?_ ?_ ?_,di KX G ?_ ?_ ?_ ?_,di KX G ?_ ?_ ?_ ?_,di KX G ?_ ?_ ?_ ?_,di KX G ?_ ?_ ?_ ?_,di KX G ?_ ?_ ?_ ?_,di KX G ?_ ?_ ?_ ?_,di KX G ?_ ?_ ?_ ?_,di KX G ?_ ?_ ?_ ?_,di KX G ?_ ?_ ?_ ?_,di KX G ?_ ?_ ?_ ?_,di KX G ?_ ?_ ?_ ?_,di KX G ?_ ?_ ?_ ?_,di KX G ?_ ?_ ?_ ?_,di KX G ?_ ?_ ?_ ?_,di KX G ?_ ?_ ?_ ?_,di KX G ?_ ?_ ?_ ?_,di KX G ?_ ?_ ?_ ?_,L2.mi ?_ ?_ ?_ ?_ ?_,L2.mi ?_ ?_ ?_ ?_ ?_,L2.mi ?_ ?_ ?_ ?_ ?_,L2.mi ?_ ?_ ?_ ?_ ?_,L2.mi ?_ ?_ ?_ ?_ ?_,L2.mi ?_ ?_ ?_ ?_ ?_,L2.mi ?_ ?_ ?_ ?_ ?_,L2.mi ?_ ?_ ?_ ?_ ?_,di KX G ?_ ?_ ?_ ?_,di KX G ?_ ?_ ?_ ?_,di KX G ?_ ?_ ?_ ?_,di KX G ?_ ?_ ?_ ?_,di KX G ?_ ?_ ?_ ?_,di KX G ?_ ?_ ?_ ?_,di KX G ?_ ?_ ?_ ?_,di KX G ?_ ?_ ?_ ?_,di KX G ?_ ?_ ?_ ?_,di KX G ?_ ?_ ?_ ?_,di KX G ?_ ?_ ?_ ?_,di KX G ?_ ?_ ?_ ?_,di KX G ?_ ?_ ?_ ?_,di KX G ?_ ?_ ?_ ?_,di KX G ?_ ?_ ?_ ?_,di KX G ?_ ?_ ?_ ?_,di KX G ?_ ?_ ?_ ?_,mg_none_of KX G ?_,mg_none_of KX G ?_,mg_none_of KX G ?_,mg_none_of KX G ?_,mg_none_of KX G ?_,mg_none_of KX G ?_,mg_none_of KX G ?_,mg_none_of KX G ?_,mg_none_of KX G ?_,mg_none_of KX G ?_,mg_none_of KX G ?_,mg_none_of KX G ?_,mg_none_of KX G ?_,mg_none_of KX G ?_,mg_none_of KX G ?_,mg_none_of KX G ?_,mg_none_of KX G ?_,⟨_,mg_of KX G ?_,⟨_,rfl⟩⟩,⟨_,mg_of KX G ?_,⟨_,rfl⟩⟩,⟨_,mg_of KX G ?_,⟨_,rfl⟩⟩,⟨_,mg_of KX G ?_,⟨_,rfl⟩⟩,⟨_,mg_of KX G ?_,⟨_,rfl⟩⟩,⟨_,mg_of KX G ?_,⟨_,rfl⟩⟩,⟨_,mg_of KX G ?_,⟨_,rfl⟩⟩⟩⟩
  all_goals try (show (_:Prop);first | k_is | rfl | k_exc)
#print axioms PySem.Challenge.cw_cubebook_k50_poured_holds
