import PyProof.Rows.All
import Wide.All
import OpenK.AllK
import Wide.FinOn
import Lean
import PyProof.EqAt
import PyProof.EqKinds
import PyProof.TupleCall
import PyProof.TupleKey
import PyProof.DictRoadsH
import Wide.Seal
import PyProof.NeKinds
import PyProof.ZipIter
import PyProof.EnumMake
import PyProof.Rows.TupTab
import KE.KDictLaws
import PyProof.AutoListH
import PyProof.AttrMissHeap
import KE.KDictOf
import KE.KIntText
import PyProof.StrBlockL
import PyProof.StrLawsChain
import PyProof.FString
import PyProof.Rows.FStr
import OpenK.KOwn
import KE.KIsAll
import KE.KDictList
import PyProof.Draws
import PySem.Challenge.RW_cubebook_k55_regrouped_and_grown
open PySem.W renaming Frag→Am,keepIn→HN,findIn→IU,instObj→Kf,fnOf→IZ,emptyDict→M2,callWith_K→Pf,methodCall_KW→Si
open PySem renaming wpAny_bind→Al,sizeLine→Ax,starEach→Az,Spec→Qal,wpAny_pure→AQ,Program→AJ,mainGlobals→BM,wpAny_mono→Cs,wpAny_loadPart'→Ey,FuncData→B3,foldedSetIterable→E2,bootBuiltins→DY,compareOp→Dd,wpAny_field→D9,swapsWith→DE,wpAny_setField_rec→Hw,wpAny_holding→FH,wpAny_truthy_bool→HK,behindInMarks→F7,holding→Dw,wpAny_callSpecial?_slot→Ly,attributeBase→GA,wpAny_newObj_type→Jb,mem_of_lookup→Kq,wpAny_Call_Name_kw→Kp,assignEach→FG,codeAny_builtin→Jh,keywordEach→GC,wpAny_call_entry→Ks,Keyword→Ev,Builtin→Ex,tupleKind_room_in1→L3,sysModules→Gv,binaryOp→FL,sizeLine_eq→IT,codeAny_mono→Ko,backToKw→GB,NameKind→GD,wpAny_getItem_str_slice→Sw,plainId_quiet→LF,DictEntry→HH,wpAny_rule→Ja,call_meets→Jd,wpAny_typeNameOfWhole_keyiter→be,wpAny_pyIter_list→O8,wpAny_loadPart_at→P2,wpAny_typeOf→Lz,wpAny_setField→NN,wpAny_execs_cons→O2,codeAny_call_builtin→Tk,wpAny_passesOwn→Pa
open PySem.Heap renaming get?_push_of_some→Bn,get?_push_size→B2,lt_size→Bp,SameBut→DZ,get?_update_other→LB,get?_update_self→M6,size_push→Lw
open List renaming getElem?_eq_some_iff→BC,mem_cons_self→Bj,length_map→A9,getElem?_eq_getElem→BW,mem_cons_of_mem→BG,map_cons→Be,mem_map→Ba,size_toArray→BV,getElem?_cons_succ→C0,mem_cons→Bz,getElem?_cons_zero→C9,mem_append_right→De,mem_singleton→CP,getElem?_map→CW,mem_append→Cm,range→BB,length_cons→CT,getElem?_append_left→EL,replicate→CV,map_map→Cp,getElem?_set_ne→Et,length_append→Ej,append_nil→DO,all_eq_true→Ec,nil_append→D8,map_nil→Dh,set_cons_zero→EX,mem_of_getElem?→Fn,set_cons_succ→Fg,getElem?_append_right→Hg,getElem?_set_self→Gx,mem_append_left→Gw,getElem?_replicate→HP,map_append→Fw,getElem_mem→Gf,getD→DH,mem_range→FD,not_mem_nil→Hn,range'→Fi,drop_eq_getElem_cons→LC,length_singleton→Kv,getElem?_drop→Jg,cons_append→HZ,getElem?_append→KD,mem_flatMap→IH,ext_getElem?→Jo,nodup_append→Js,replicate_zero→Lk,length_set→HR,length_nil→HY,length_replicate→Lx,contains_iff_mem→Mi,length_take→IY,zip_cons_cons→Ky,range_eq_range'→My,length_eq_zero_iff→No,nodup_cons→IW,replicate_succ→MA,drop_eq_nil_of_le→M8,take_of_length_le→Nv,range'_succ→Lg,mem_filter→Kh,map_congr_left→OU,zipWith→JC,append_assoc→NK,mem_of_mem_drop→Rm,mem_or_eq_of_mem_set→WC,length→IX,length_drop→N2,filterMap_cons→O1,mem_map_of_mem→Ry,all_cons→LS,of_mem_zip→M4,mem_of_mem_take→Wc,length_dropLast→WK,getElem?_take_of_lt→XE
open Option renaming bind_eq_some_iff→BI,map_eq_some_iff→BN,bind→B7,map→Db,map_some→Jf
open Nat renaming le_refl→Bc,lt_of_lt_of_le→BX,lt_of_add_right_lt→C7,le_trans→BR,ne_of_lt→BY,reduceAdd→FZ,le_add_right_of_le→Kw,lt_of_sub_eq_succ→Kz,ne_of_gt→Gz,lt_of_lt_of_eq→Kr,lt_of_le_of_lt→Kx,zero_le→F8,zero_lt_of_lt→KR,zero_add→HD,lt_irrefl→HJ,lt_trans→HX,le_sub_one_iff_lt→PL,lt_of_add_left_lt→RU,reduceSub→Lj,le_of_not_lt→M7,le_add_right→Ny,lt_or_ge→KQ,lt_of_not_le→NS,eq_of_le_of_lt_succ→Td,le_antisymm→NH,le_of_add_right_le→Sq,lt_of_succ_le→PX,le_of_lt_succ→P0,lt_of_succ_lt→Rw,le_of_lt→Lq,le_of_eq→Lv
open Bool renaming and_eq_true→C4,false_eq_true→Ew,not_false→Ie,false_ne_true→MO,not_eq_true'→NO,not_true→LW,and_self→Md
open False renaming elim→BS
open Ne renaming symm→Bv
open PySem.Value renaming ref→B8,none→Gs
open PySem.W.KasT renaming kasWp→Dz,kasWp_bind→PZ
open Int renaming emod_lt_of_pos→G6,natCast_pos→G7,toNat_natCast→Iq,zero_le_ofNat→IF,natCast_nonneg→JJ,emod_nonneg→IG,toNat_of_nonneg→OP,natCast_ne_zero_iff_pos→V9,ofNat_lt→MB,lt_of_not_ge→Pj,lt_of_add_one_le→TR,toNat_natCast_add_one→iU
open Option.some renaming inj→FE
open PyProof.Rows renaming callWith_type1→MW,listUpdate_at→NM
open PySem.Paired renaming length→Gu
open PySem.Obj renaming mapSeq→Fq,data_mapFields→L7,isFreed_of_fields→Tl
open PySem.Builtin.Str renaming occurrences→MZ
open PySem.Heap.SameBut renaming update→L5
open PySem.Str renaming length→F9,ofString→I0
open PySem.NameKind renaming free→Je
open Classical renaming propDecidable→Px
open Eq renaming trans→F4
open True renaming intro→Hf
open PySem.F renaming slot_enumerate_next→Tv,plainAttrs_list→SH,slot_dict_setdefault→aq,args_tuple_add_2→Yx,entry_tuple_add→Yw,slot_dict_keyiterator_next→su
open Array renaming getElem?_eq_some_iff→Tn,length_toList→R7
open PySem.Builtin.Slice renaming slicePlaces→Sj,sliceAdjust→XM
open List.cons renaming injEq→PR
open PySem.Builtin.SmallTypes renaming nextOf→bA
open PySem.Calls renaming call_function_entry→bG
open PySem renaming Value→Aa,Shared→Ab,Addr→Ac,Str→Ae,model→Ag,Around→Ah,World→Ai,Heap→Ak,eval→An,cLine→Aq,backTo→As,Stmt→Av,Pos→AC,rawInt→AZ,Builtin→A6,sliceBounds→BP
open PySem.W renaming Frag→Au,nsIn→Bt
open Pure renaming pure→Ay
open PyProof.Rows renaming envOfC→A0
open Option renaming some→Z,none→J
open Bool renaming true→J',false→O'
abbrev U:=@List
abbrev O:=@Option
set_option Elab.async false
set_option linter.all false
set_option backward.eqns.nonrecursive false
set_option tactic.hygienic false
set_option maxHeartbeats 4000000
set_option maxRecDepth 100000
abbrev AI:=PySem.Value->PySem.Shared->Prop
abbrev Cj(x:PySem.Str):Prop:=(x==("__debug__":PySem.Str))=O'
abbrev AR:=U (PySem.Addr×PySem.Obj)
abbrev Bi:=PySem.Str->O PySem.Value
theorem ZV{b:Type}{c:Prop}[Decidable c]{a:O b}{r:b}(h:(if c then a else J)=Z r):c/\a=Z r:=by
 split at h
 ·exact⟨‹_›,h⟩
 ·cases h
noncomputable section
set_option bootstrap.genMatcherCode false
set_option genSizeOf false
set_option genSizeOfSpec false
set_option compiler.extract_closed false
set_option bootstrap.genMatcherCode false
set_option genSizeOf false
set_option genSizeOfSpec false
open List renaming toArray->T'
local macro_rules|`(#[$a,*])=>`(⟨$a,*⟩)
local macro_rules|`(tactic|erw[$[$t:term],*]$[$l]?)=>`(tactic|simp only[$[$t:term],*]$[$l]?)
local macro_rules|`(tactic|ext)=>`(tactic|decide)
variable{C a:Ac}{apos cpos p2 pos pos':AC}{elts es ifs:U PySem.Expr}{E:AI}{gs:U (U Nat)}{Q:Unit->Ab->Prop}{u:Aa}{pl:PySem.Sem Bool}{j t':Nat}{elt iter o tg:PySem.Expr}{ps:U Ae}{φ:Nat->Ac}{pins:AR}{R:PySem.Result->Ab->Prop}{sc scope:PySem.Scope}{ws:U Nat}{g':Array PySem.GenState}{s':Ab}{items:Array Aa}{RR:Aa->Ac->PySem.Result->Ab->Prop}{isA:Nat->Aa->Prop}{ch:U Ac}{B:Aa->PySem.Sem PySem.Fin}{dd:O Ac}{d':PySem.Drawn}{tn:Nat->Ak->Prop}
namespace L2
open PySem PySem.Spec PyProof.Rows
inductive V where
 |non|bl (b:Bool)|int (i:Int)|str (x:Ae)|ref (a:Ac)|ty (n:String)
 deriving DecidableEq
variable{vs ys:U V}
def RelV:V->Aa->Prop
 |.non,u=>u=Gs
 |.bl b,u=>u=Value.bool b
 |.int i,u=>∃t,u=Value.int i t
 |.str x,u=>∃t,u=Value.str x t
 |.ref a,u=>u=B8 a
 |.ty n,u=>u=Value.type n
abbrev Ao:U V->U Aa->Prop:=Paired RelV
theorem Ao.length{xs:U V}{us:U Aa}(r:Ao xs us):xs.length=us.length:=Gu r
theorem Ao.get:∀{xs:U V}{us:U Aa}{i:Nat}{x:V},Ao xs us->xs[i]?=Z x->∃u,us[i]?=Z u/\RelV x u
 |_,_,_,_,.nil,e=>by simp at e
 |_,_,0,_,.cons r _,e=>by simp at e;subst e;exact#[_,rfl,r]
 |_,_,i+1,x,.cons _ t,e=>by
  obtain⟨u,a,b⟩:=Ao.get (i:=i) (x:=x) t (by simpa using e);exact#[u,by simpa using a,b]
theorem Ao.set{x:V}{u:Aa}(r:RelV x u):∀{xs:U V}{us:U Aa}(i:Nat),Ao xs us->Ao (xs.set i x) (us.set i u)
 |_,_,_,.nil=>.nil
 |_,_,0,.cons _ t=>.cons r t
 |_,_,i+1,.cons q t=>.cons q<|Ao.set r i t
theorem Ao.append{xs:U V}{us ws:U Aa}(h:Ao xs us)(s:Ao ys ws):Ao (xs++ys) (us++ws):=by
 induction h with
 |nil=>exact s
 |cons r _ a=>exact .cons r a
theorem Ao.take:∀{xs:U V}{us:U Aa}(n:Nat),Ao xs us->Ao (xs.take n) (us.take n)
 |_,_,0,_=>.nil
 |_,_,_+1,.nil=>.nil
 |_,_,n+1,.cons r t=>.cons r<|Ao.take n t
theorem Ao.drop:∀{xs:U V}{us:U Aa}(n:Nat),Ao xs us->Ao (xs.drop n) (us.drop n)
 |_,_,0,r=>r
 |_,_,_+1,.nil=>.nil
 |_,_,n+1,.cons _ t=>Ao.drop n t
def Ck:O V->O Aa->Prop
 |some v,Z u=>RelV v u
 |none,J=>True
 |_,_=>False
inductive At where
 |non|int (i:Int)|str (x:Ae)
 deriving DecidableEq
variable{us:U (U At×Ac×Aa)}
noncomputable def IQ:At->Aa->Bool
 |.non,.none=>J'
 |.int k,v=>Value.isInt k v
 |.str x,v=>Value.isStrOf x v
 |_,_=>O'
noncomputable def R0(w:Ai):At->Int
 |.non=>reduceHash 4238894112
 |.int k=>hashInt k
 |.str x=>hashStr w x
theorem IR:∀{k:At}{v:Aa},IQ k v=J'->(k=.non/\v=.none)\/(∃i t,k=.int i/\v=Value.int i t)\/(∃x t,k=.str x/\v=Value.str x t)
 |.non,v,h=>by cases v<;>first|exact .inl ⟨rfl,rfl⟩|exact absurd h MO
 |.int i,v,h=>by obtain⟨t,e⟩:=Value.isInt_shape (k:=i) (v:=v) h;exact .inr<|.inl ⟨i,t,rfl,e⟩
 |.str x,v,h=>by obtain⟨t,e⟩:=Value.isStrOf_shape (x:=x) (v:=v) h;exact .inr<|.inr ⟨x,t,rfl,e⟩
theorem kN(i:Int)(t:Tok):IQ (.int i) (.int i t)=J':=by simp[IQ,Value.isInt]
theorem kO(x:Ae)(t:Tok):IQ (.str x) (.str x t)=J':=by simp[IQ,Value.isStrOf]
theorem kP{prog:AJ}{w:Ai}{A:Ah}{s:Ab}{Q:Int->Ab->Prop}(h:Q (reduceHash 4238894112) {s with toks:=s.toks+1}):wpAny (Ag prog w) A (PySem.pyHash .none) Q E s:=PySem.W.pyHash_slot (T:="NoneType") rfl F.slot_NoneType_hash F.entry_NoneType_hash (F.args_NoneType_hash_1 _) (beq_builtin_none _) (.inl rfl) (Al<|AQ<|Al<|wpAny_mkInt<|AQ ⟨_,_,rfl,h⟩)
theorem kQ(a b:Int):decide ((At.int a)=.int b)=(a==b):=by
 grind
theorem kR(a b:Ae):decide ((At.str a)=.str b)=decide (a=b):=by
 simp_all
def ZG(prog:AJ)(w:Ai):PySem.KeyKind prog w At where
 is:=IQ
 hash:=R0 w
 inj:=λv a b d f=>by
  rcases IR d with⟨rfl,rfl⟩|⟨i,t,rfl,rfl⟩|⟨x,t,rfl,rfl⟩<;>rcases IR f with⟨rfl,e⟩|⟨j,u,rfl,e⟩|⟨y,u,rfl,e⟩ <;>
   first|rfl|(cases e;done)|(cases e;rfl)
 byValue:=λk v h=>by
  rcases IR h with⟨rfl,rfl⟩|⟨i,t,rfl,rfl⟩|⟨x,t,rfl,rfl⟩<;>rfl
 pyHash:=λc h=>by
  rcases IR c with⟨rfl,rfl⟩|⟨i,t,rfl,rfl⟩|⟨x,t,rfl,rfl⟩
  ·exact kP h
  ·exact wpAny_pyHash_int h
  ·exact wpAny_pyHash_str h
 eqBool:=λg c h=>by
  rcases IR g with⟨rfl,rfl⟩|⟨i,t,rfl,rfl⟩|⟨x,t,rfl,rfl⟩<;>rcases IR c with⟨rfl,rfl⟩|⟨j,u,rfl,rfl⟩|⟨y,u,rfl,rfl⟩
  ·exact SeqAt.EqAt.same Gs _ _ _ _ h
  ·exact SeqAt.EqAt.none_int j u _ _ _ _ h
  ·exact SeqAt.EqAt.none_str y u _ _ _ _ h
  ·exact SeqAt.EqAt.int_none i t _ _ _ _ h
  ·rw[kQ]at h;exact wpAny_eqBool_int h
  ·exact SeqAt.EqAt.int_str i t y u _ _ _ _ h
  ·exact SeqAt.EqAt.str_none x t _ _ _ _ h
  ·exact SeqAt.EqAt.str_int x t j u _ _ _ _ h
  ·rw[kR]at h;exact wpAny_eqBool_str h
 «strs»:=λk x t v h=>by
  rcases IR h with⟨rfl,e⟩|⟨i,u,rfl,e⟩|⟨y,u,rfl,e⟩
  ·exact nomatch e
  ·exact nomatch e
  ·injection e with l _
   subst l
   cases v<;>rfl
inductive KT where
 |at(a:At)|tup (l:List At)
 deriving DecidableEq
def KT.hash(w:Ai):KT->Int
 |.at a=>R0 w a
 |.tup l=>reduceHash (Builtin.Tuple.tupleHashOf (l.map (R0 w)))
noncomputable def F5:At->V
 |.non=>.non
 |.int i=>.int i
 |.str x=>.str x
def kS:KT->V->Prop
 |.at a,v=>v=F5 a
 |.tup _,v=>∃p,v=.ref p
def Ke(w:Ai):U KT->U V->U HH->Prop
 |[],a,b=>a=[]/\b=[]
 |k::c,a,b=>∃kv v r e t,a=kv::v::r/\b=e::t/\RelV kv e.key/\RelV v e.val/\e.hash=k.hash w/\kS k kv/\Ke w c r t
inductive HO where
 |lst (xs:List V)
 |tup (xs:List V)
 |dct (ks:List KT) (vs:List V)
 |ins (C dx:Ac) (fs:List (Ae×V))
 |own (x:Ac)
 |xd (fs:List (Ae×V))
 |met (f x:Ac)
 |rng (lo hi:Int)
 |frz (o:Obj) (u:HO)
 |tbl (ps:Array Aa)
 |ext (φ:Ak->Prop)
abbrev Hp:=Ac->O HO
variable{H H' H0:Hp}
noncomputable def AK(H:Hp)(a:Ac)(o:HO):Hp:=λb=>if b=a then Z o else H b
theorem ZZ{o:HO}:AK H a o a=Z o:=by grind [AK]
theorem Zn{b:Ac}{o:HO}(h:b≠a):AK H a o b=H b:=by grind [AK]
theorem kT{o u:HO}:AK (AK H a o) a u=AK H a u:=by grind [AK]
theorem ZU{b:Ac}{o:HO}(h:H a=Z o)(h':H b=J):a≠b:=by
 grind
section
variable(P:AJ)(w:Ai)
def AY(P:AJ)(w:Ai)(H:Hp)(h:Ak)(a:Ac):HO->Prop
 |.lst d=>d.length<=Ax/\∃(b:U Aa) (n:Nat),Ao d b/\h.get? a=Z {cls:=.type "list",data:=.seq b.toArray n}
 |.tup d=>d.length<=Ax/\∃b:U Aa,Ao d b/\IsTup h a b.toArray
 |.dct i p=>i.length<=Ax/\(a==Gv)=O'/\i.Nodup/\∃o k q,h.get? a=Z o/\o.ExactDict/\o.data=.dict k q/\Ke w i p k.toList
 |.ins C g e=>H g=Z (.own a)/\e.length<=1000/\g≠a/\h.get? a=Z (Kf C g) /\
   ∃c,h.Ns1 g c/\(∀f,Ck (e.lookup f) (c f))/\PySem.Within c (e.map (·.1))
 |.own _=>∃o,h.get? a=Z o
 |.xd e=>∃c,h.Ns1 a c/\∀f,Ck (e.lookup f) (c f)
 |.rng lo r=>∃t u v,h.get? a=Z {cls:=.type "range",data:=.fields (T' [.int lo t,.int r u,.int 1 v])}
 |.frz o u=>h.get? a=Z o/\AY P w H h a u
 |.tbl s=>h.get? a=Z {cls:=.none,data:=.fields s}
 |.met f x=>h.get? a=Z (PySem.W.methodObj (.ref f) (.ref x))
 |.ext j=>j h/\(∃o,h.get? a=Z o)/\∀l m:Ak,j l->(∀o,l.get? a=Z o->m.get? a=Z o)->j m
def B9(H:Hp)(h:Ak):Prop:=∀a o,H a=Z o->AY P w H h a o
end
section
variable{P:AJ}{w:Ai}{h h':Ak}{o:HO}
theorem AY.lt(x:AY P w H h a o):a<h.objs.size:=by
 cases o with
 |lst b=>obtain⟨_,_,_,_,e⟩:=x;exact Bp e
 |tup b=>obtain⟨_,_,_,p⟩:=x;exact p.lt
 |dct d g=>obtain⟨_,_,_,o,_,_,e,_⟩:=x;exact Bp e
 |ins C i c=>obtain⟨_,_,_,e,_⟩:=x;exact Bp e
 |own y=>obtain⟨_,e⟩:=x;exact Bp e
 |xd c=>obtain⟨_,⟨_,_,_,e,_⟩,_⟩:=x;exact Bp e
 |rng lo j=>obtain⟨_,_,_,e⟩:=x;exact Bp e
 |frz ob u=>obtain⟨e,_⟩:=x;exact Bp e
 |tbl k=>exact Bp (show h.get? a=Z _ from x)
 |met f y=>exact Bp (show h.get? a=Z _ from x)
 |ext l=>obtain⟨_,⟨_,e⟩,_⟩:=x;exact Bp e
theorem Paired.mapP{e g:Type}{F G:e->g->Prop}{c:U e}{d:U g}(h:Paired F c d)(f:∀a b,F a b->G a b):Paired G c d:=by
 induction h with
 |nil=>exact .nil
 |cons r _ i=>exact .cons (f _ _ r) i
theorem AY.stay(x:AY P w H h a o)(k:∀b u,(b=a\/H b=Z (.own a))->h.get? b=Z u->h'.get? b=Z u) (A:∀b,H b=Z (.own a)->H' b=Z (.own a)) (Q:∀b xs,H b=Z (.tup xs)->H' b=Z (.tup xs)):AY P w H' h' a o:=by
 induction o with
 |lst xs=>obtain⟨z,g,n,r,e⟩:=x;exact#[z,g,n,r,k _ _ (.inl rfl) e]
 |tup xs=>obtain⟨z,g,r,ob,e,c⟩:=x;exact#[z,g,r,ob,k _ _ (.inl rfl) e,c]
 |dct F L=>obtain⟨z,y,n,ob,i,j,e,c⟩:=x;exact#[z,y,n,ob,i,j,k _ _ (.inl rfl) e,c]
 |ins C M B=>
  obtain⟨d,z,ne,e,l,⟨m,i,j,E,c⟩,r⟩:=x;exact#[A _ d,z,ne,k _ _ (.inl rfl) e,l,#[m,i,j,k _ _ (.inr d) E,c],r]
 |own y=>obtain⟨ob,e⟩:=x;exact#[ob,k _ _ (.inl rfl) e]
 |xd B=>obtain⟨l,⟨m,i,j,e,c⟩,r⟩:=x;exact#[l,#[m,i,j,k _ _ (.inl rfl) e,c],r]
 |rng lo N=>obtain⟨t,u,v,e⟩:=x;exact#[t,u,v,k _ _ (.inl rfl) e]
 |frz ob u G=>obtain⟨e,q⟩:=x;exact#[k _ _ (.inl rfl) e,G q]
 |tbl s=>
  have e:h.get? a=Z {cls:=.none,data:=.fields s}:=x;show h'.get? a=Z {cls:=.none,data:=.fields s}
  grind
 |met f y=>
  have e:h.get? a=Z (PySem.W.methodObj (.ref f)<|.ref y):=x;show h'.get? a=Z (PySem.W.methodObj (.ref f)<|.ref y)
  simp_all
 |ext K=>obtain⟨p,⟨o,e⟩,st⟩:=x;exact#[st _ _ p λo q=>k _ _ (.inl rfl) q,#[o,k _ _ (.inl rfl) e],st]
theorem B9.lt(x:B9 P w H h)(e:H a=Z o):a<h.objs.size:=(x a o e).lt
theorem B9.fresh(x:B9 P w H h)(e:h.objs.size<=a):H a=J:=by
 cases q:H a with
 |none=>rfl
 |some u=>exact absurd (BX (x.lt q) e)<|HJ _
theorem B9.kept(x:B9 P w H h)(k:∀b u,h.get? b=Z u->h'.get? b=Z u):B9 P w H h':=λa o e=>(x a o e).stay (λb u _ q=>k b u q) (λ_ q=>q) λ_ _ q=>q
theorem B9.laid(x:B9 P w H h)(k:∀b u,h.get? b=Z u->h'.get? b=Z u)(d:h.objs.size<=a)(new:AY P w (AK H a o) h' a o):B9 P w (AK H a o) h':=λb u e=>by
 by_cases f:b=a
 ·subst f;rw[ZZ]at e;cases e;exact new
 ·rw[Zn f]at e;exact(x b u e).stay (λc v _ q=>k c v q) (λc q=>Zn (ZU q<|x.fresh d) ▸ q) λc g q=>Zn (ZU q<|x.fresh d) ▸ q
end
def Rd(H:Hp)(a:Ac)(u:HO):Prop:=H a=Z u\/∃o,H a=Z (.frz o u)
theorem Rd.ok{P:AJ}{w:Ai}{h:Ak}{u:HO}(r:Rd H a u)(x:B9 P w H h):AY P w H h a u:=by
 rcases r with r|⟨o,r⟩
 ·exact x a u r
 ·obtain⟨_,q⟩:=x a _ r;exact q
def MP:O HO->Prop
 |some (.lst _)=>True
 |some (.dct _ _)=>True
 |some (.ins _ _ _)=>True
 |some (.ext _)=>True
 |_=>False
section
variable{P:AJ}{w:Ai}{h h':Ak}{x e:Ac}{o':HO}
theorem B9.write(ok:B9 P w H h)(d:MP (H x))(j:e=x\/H e=Z (.own x))(k:∀b u,b≠e->h.get? b=Z u->h'.get? b=Z u)(i:∃u,h'.get? e=Z u) (new:AY P w (AK H x o') h' x o'):B9 P w (AK H x o') h':=λb u q=>by
 by_cases f:b=x
 ·subst f;rw[ZZ]at q;cases q;exact new
 ·rw[Zn f]at q;by_cases a:b=e
  ·have l:H b=Z (.own x):=by
    rcases j with z|z
    ·exact absurd (a.trans z) f
    ·rw[a];exact z
   rw[q]at l;cases l;obtain⟨v,n⟩:=i;exact#[v,a ▸ n]
  ·refine(ok b u q).stay (λc v g r=>k c v ?_ r) (λc r=>by rw[Zn<|(λc y r z=>by subst z;rw[r]at d;exact d) c b r];exact r) λc m r=>by rw[Zn<|(λc m r z=>by subst z;rw[r]at d;exact d) c m r];exact r
   rcases g with rfl|g
   ·exact a
   ·rintro rfl;rcases j with z|z
    ·exact(λc y r z=>by subst z;rw[r]at d;exact d) c b g z
    ·rw[g]at z;cases z;exact f rfl
end
structure Un(fs ex:List Ac)(H H':Hp)(h h':Ak):Prop where
 keep:∀b o,h.get? b=Z o->H b=J->b∉fs->b∉ex->h'.get? b=Z o
 slot:∀b o,h.get? b=Z o->H b=J->b∈fs->b∉ex->∃sl,h'.get? b=Z {o with slots:=sl}
 free:∀b o,h.get? b=Z o->H b=J->b∉ex->H' b=J
 there:∀b o,h.get? b=Z o->b∉ex->∃o',h'.get? b=Z o'
 tups:∀b xs,H b=Z (.tup xs)->H' b=Z (.tup xs)
 frzs:∀b o u,H b=Z (.frz o u)->H' b=Z (.frz o u)
 tbls:∀b ps,H b=Z (.tbl ps)->∃more,H' b=Z (.tbl (ps++more))
section
variable{fs ex:U Ac}{H1:Hp}{h h1 h':Ak}{x e:Ac}{o:HO}
theorem Un.any(u:Un fs ex H H1 h h1){b:Ac}{ob:Obj}(q:h.get? b=Z ob)(n:H b=J)(a:b∉ex):∃d,h1.get? b=Z {ob with slots:=d}:=by
 by_cases c:b∈fs
 ·exact u.slot b ob q n c a
 ·exact#[ob.slots,u.keep b ob q n c a]
theorem Un.kept(k:∀b u,h.get? b=Z u->h'.get? b=Z u):Un fs ex H H h h':=#[λb ob q _ _ _=>k b ob q,λb ob q _ _ _=>#[ob.slots,k b ob q],λ_ _ _ n _=>n,λb ob q _=>#[ob,k b ob q],λ_ _ q=>q,λ_ _ _ q=>q,λ_ a q=>#[(T' []),by rw[q];simp]]
theorem Un.refl:Un fs ex H H h h:=by grind [Un.kept]
theorem Un.laid(k:∀b u,h.get? b=Z u->h'.get? b=Z u)(d:h.objs.size<=a)(c:H a=J):Un fs ex H (AK H a o) h h' where
 keep:=λb u q _ _ _=>k b u q;slot:=λb u q _ _ _=>#[u.slots,k b u q];free:=λb u q n _=>Zn (BY<|BX (Bp q) d) ▸ n;there:=λb u q _=>#[u,k b u q];tups:=λb e q=>Zn (ZU q c) ▸ q;frzs:=λb u e q=>Zn (ZU q c) ▸ q;tbls:=λb f q=>#[(T' []),by rw[Zn<|ZU q c,q];simp]
theorem Un.write(a:MP (H x))(l:e=x\/H e=Z (.own x))(k:∀b u,b≠e->h.get? b=Z u->h'.get? b=Z u)(f:∃u,h'.get? e=Z u):Un fs ex H (AK H x o) h h':=by
 have g:∀b,H b=J->b≠x:=λb n z=>by subst z;rw[n]at a;exact a
 have d:∀b,H b=J->b≠e:=λb n z=>by
  simp_all
 have c:∀b u,H b=Z u->¬ MP (Z u)->b≠x:=λb u q i z=>by subst z;rw[q]at a;exact i a
 refine#[λb u q n _ _=>k b u (d b n) q,λb u q n _ _=>#[u.slots,k b u (d b n) q],λb u q n _=>Zn (g b n) ▸ n,λb u q _=>?_,
  λb j q=>Zn (c b _ q λz=>z) ▸ q,λb u j q=>Zn (c b _ q λz=>z) ▸ q,λb m q=>#[(T' []),by rw[Zn<|c b _ q λz=>z,q];simp]]
 grind
end
noncomputable def O0(h:Ak)(H:Hp):U Ac:=(BB h.objs.size).filter λa=>(H a).isSome
noncomputable def Kg(h:Ak)(H:Hp):Ak:=PySem.W.hideAll h (O0 h H)
theorem kU(h:Ak)(H:Hp):(Kg h H).objs.size=h.objs.size:=PySem.W.hideAll_size _ _
theorem WU{h:Ak}{b:Ac}{o:Obj}(e:h.get? b=Z o)(n:H b=J):(Kg h H).get? b=Z o:=PySem.W.hideAll_get _ e λa=>by
  have q:(H b).isSome=J':=(Kh.mp a).2;simp_all
theorem kW{h:Ak}{b:Ac}{o:Obj}(e:(Kg h H).get? b=Z o):h.get? b=Z o/\H b=J:=by
 refine#[(PySem.W.of_hideAll (O0 h H) e),?_];cases q:H b with|none=>rfl|some x=>
  have z:(Kg h H).get? b=J:=PySem.W.hideAll_none (O0 h H)<|Kh.mpr ⟨FD.mpr<|Bp<|PySem.W.of_hideAll (O0 h H) e,by simp[q]⟩;simp_all
noncomputable def kX(g h:Ak)(L:Ac):AR:=(BB h.objs.size).filterMap λa=>if a=L\/(g.get? a).isSome=J' then J else(h.get? a).map λo=>(a,o)
def AB(g h:Ak)(L d:Ac):AR:=(kX g h L).filter λp=>decide (p.1≠d)
structure Mod(K:Am)(mg:Bi)(base:Ak):Prop where
 kin:K.In base
 glob:base.Ns BM mg
 blt:∃mb,base.Ns builtinsNs mb/\∀x:Ae,x≠"__name__"->mb x=DY x
 nolimit:base.NoLimit
structure Cx where
 prog:AJ
 w:Ai
 K:Am
 mg:Bi
 base:Ak
 A:Ah
 N:List Ae
 s₀:Ab
 H₀:Hp
 env:Env
 outer:List Env
 stack:List Env
 ex:List Ac
 fn:Ae->Bool
 calm:Bool
 pn:AR
 xe:AI
variable{X Y:Cx}
noncomputable def Cg(l:U Env):U Ac:=l.filterMap (·.frame)
noncomputable abbrev Cx.fs(X:Cx):U Ac:=Cg X.outer
def MQ(a:Scope)(x:Ae):Prop:=a.names.lookup x=Z .local\/a.names.lookup x=Z .cell\/a.names.lookup x=Z .free
def Loc(a:Scope)(x:Ae):Prop:=a.names.lookup x=Z .local\/a.names.lookup x=Z .cell
def kY(env:Env)(h:Ak)(m:Bi)(x:Ae)(u:Aa):Prop:=
 (env.kindOf x=Z .local/\m x=Z u)\/((env.kindOf x=Z .cell\/env.kindOf x=Z .free)/\∃c,env.cells.lookup x=Z c/\h.IsCell c (Z u))
structure Cx.Ok(X:Cx):Prop where
 mod:Mod X.K X.mg X.base
 kind:X.env.scope.kind=.function
 glob:X.env.globals=BM
 blt:X.env.builtins=builtinsNs
 above:X.s₀.heap.objs.size<=X.env.locals
 inj:∀x y c,X.env.cells.lookup x=Z c->X.env.cells.lookup y=Z c->x=y
 has:∀x,(X.env.kindOf x=Z .cell\/X.env.kindOf x=Z .free)->∃c,X.env.cells.lookup x=Z c
 cab:∀x c,X.fn x=J'->X.env.cells.lookup x=Z c->X.s₀.heap.objs.size<=c
 hd:X.calm=J'->X.A.handled=J
 frames:X.A.frames=Z X.stack
 stk:X.stack=X.outer\/(X.stack=X.env::X.outer/\X.env.frame=Z X.env.locals)
 exf:∀b∈X.ex,b≠X.env.locals/\∀x c,X.env.cells.lookup x=Z c->c≠b
 bs:∀b o,X.base.get? b=Z o->X.s₀.heap.get? b=Z o/\X.H₀ b=J
 bsz:X.base.objs.size<=X.s₀.heap.objs.size
 noex:∀b o,X.base.get? b=Z o->b∉X.ex
 exfs:∀b∈X.ex,b∉X.fs
 funs:X.s₀.heap.FunFrames X.base X.outer
 frf:∀b∈X.fs,X.H₀ b=J
structure Inv(X:Cx)(pins:AR)(I:List (Option V))(H:Hp)(s:Ab):Prop where
 ok:X.Ok
 os:s.os=X.s₀.os
 bare:AllBare s.gens
 base:Un X.fs X.ex X.H₀ H X.s₀.heap s.heap
 loc:∃m,s.heap.Ns X.env.locals m/\∀(i:Nat) (x:Ae) (v:V),X.N[i]?=Z x->I[i]?=Z (Z v)->MQ X.env.scope x->∃u,RelV v u/\kY X.env s.heap m x u
 cell:∀x c,X.env.cells.lookup x=Z c->∃v,s.heap.IsCell c v
 free:H X.env.locals=J
 freeC:∀x c,X.env.cells.lookup x=Z c->H c=J
 pin:∀p∈X.pn++pins,s.heap.get? p.1=Z p.2/\H p.1=J/\p.1≠X.env.locals/\p.1∉X.fs/\∀v,p.2.data≠.cell v
 hok:B9 X.prog X.w H s.heap
 len:I.length=X.N.length
section
variable{I:U (O V)}{s:Ab}{h':Ak}
theorem Cx.Ok.nofr(ok:X.Ok){b:Ac}{o:Obj}(e:X.base.get? b=Z o):b∉X.fs:=λa=>by
 have:=(ok.funs.mem a).1;simp_all
theorem Inv.bs(a:Inv X pins I H s):∀b o,X.base.get? b=Z o->s.heap.get? b=Z o/\H b=J:=λb o e=>#[a.base.keep b o (a.ok.bs b o e).1 (a.ok.bs b o e).2 (a.ok.nofr e)<|a.ok.noex b o e,a.base.free b o (a.ok.bs b o e).1 (a.ok.bs b o e).2<|a.ok.noex b o e]
theorem Inv.bk(a:Inv X pins I H s):∀b o,X.base.get? b=Z o->s.heap.get? b=Z o:=λb o e=>(a.bs b o e).1
theorem Inv.mod(a:Inv X pins I H s):Mod X.K X.mg X.base:=a.ok.mod
theorem Inv.kIn(a:Inv X pins I H s):X.K.In s.heap:=a.ok.mod.kin.keeps a.bk
theorem Inv.lt(b:Inv X pins I H s):X.env.locals<s.heap.objs.size:=let⟨_,a,_⟩:=b.loc;a.lt
theorem Inv.sz(a:Inv X pins I H s):X.s₀.heap.objs.size<=s.heap.objs.size:=BR a.ok.above<|Lq a.lt
theorem Inv.nofs(d:Inv X pins I H s)(h:s.heap.objs.size<=a):a∉X.fs:=λb=>by
 obtain⟨_,o,c,_⟩:=d.ok.funs.mem b;exact absurd (BX (Bp c)<|BR d.sz h)<|HJ _
theorem Inv.cne(i:Inv X pins I H s):∀x c,X.env.cells.lookup x=Z c->c≠X.env.locals:=λx c e z=>by
 obtain⟨v,o,d,hd⟩:=i.cell x c e;obtain⟨m,⟨f,g,h,a,b,_⟩,_⟩:=i.loc;simp_all
theorem Inv.funs(n:Inv X pins I H s):s.heap.FunFrames X.base X.outer:=by
 have all:∀(l:U Env),(∀b∈Cg l,b∈X.fs)->X.s₀.heap.FunFrames X.base l->s.heap.FunFrames X.base l:=by
  intro l;induction l with|nil=>intro _ _;trivial|cons env r g=>
   rintro f ⟨h,⟨L,o,a,i,j,hd⟩,k⟩;have c:L∈X.fs:=f L (by unfold Cg;rw[O1,a];exact Bj);obtain⟨m,e⟩:=n.base.slot L o j (n.ok.frf L c) c λz=>n.ok.exfs L z c;exact#[h,#[L,_,a,i,e,hd],g (λb d=>f b (by unfold Cg;rw[O1,a];exact BG _ d)) k]
 exact all X.outer (λ_ d=>d) n.ok.funs
theorem Inv.stack(c:Inv X pins I H s):s.heap.FunFrames X.base X.stack:=by
 rcases c.ok.stk with e|⟨e,a⟩
 ·rw[e];exact c.funs
 ·rw[e];obtain⟨m,b,_⟩:=c.loc;exact .cons (by rw[c.ok.kind];decide) a b (Heap.get?_none_of_le<|BR c.ok.bsz c.ok.above) c.funs
theorem Inv.stkSub(d:Inv X pins I H s):∀b∈Cg X.stack,b∈X.env.locals::X.fs:=λb a=>by
 rcases d.ok.stk with e|⟨e,c⟩
 ·rw[e]at a;exact BG _ a
 ·rw[e]at a;unfold Cg at a;rw[O1,c]at a;exact a
theorem Inv.stkFree(d:Inv X pins I H s):∀b∈Cg X.stack,H b=J:=λb a=>by
 rcases Bz.mp (d.stkSub b a)with e|a
 ·rw[e];exact d.free
 ·obtain⟨_,o,c,_⟩:=d.ok.funs.mem a;exact d.base.free b o c (d.ok.frf b a) λz=>d.ok.exfs b z a
theorem Inv.step(R:Inv X pins I H s) (f:∀b∈ch,(b∈X.ex\/X.s₀.heap.objs.size<=b)/\b≠X.env.locals/\(∀x c,X.env.cells.lookup x=Z c->c≠b)/\∀p∈X.pn++pins,p.1≠b) (keep:∀b o,b≠X.env.locals->b∉X.fs->b∉ch->s.heap.get? b=Z o->H b=J->h'.get? b=Z o) (slot:∀b o,b≠X.env.locals->b∈X.fs->b∉ch->s.heap.get? b=Z o->H b=J->∃F,h'.get? b=Z {o with slots:=F}) (free:∀b o,b∉ch->s.heap.get? b=Z o->H b=J->H' b=J) (there:∀b o,b∉ch->s.heap.get? b=Z o->∃B,h'.get? b=Z B) (tups:∀b xs,H b=Z (.tup xs)->H' b=Z (.tup xs)) (frzs:∀b o u,H b=Z (.frz o u)->H' b=Z (.frz o u)) (tbls:∀b G,H b=Z (.tbl G)->∃C,H' b=Z (.tbl (G++C))) (ns:∀m,s.heap.Ns X.env.locals m->h'.Ns X.env.locals m) (hok:B9 X.prog X.w H' h') (K:AllBare g'):Inv X pins I H' {s with heap:=h',gens:=g',drawn:=d',toks:=t' }:=by
 have j:∀b o,X.s₀.heap.get? b=Z o->b∉X.ex->b∉ch:=λb o e a y=>by
  rcases(f b y).1 with z|z
  ·exact a z
  ·exact absurd (BX (Bp e) z)<|HJ _
 have g:∀x c,X.env.cells.lookup x=Z c->∀v,s.heap.IsCell c v->h'.IsCell c v:=λx c e v ⟨o,A,hd⟩=>by
  have h:c∉ch:=λz=>(f c z).2.2.1 x c e rfl;by_cases M:c∈X.fs
  ·obtain⟨F,q⟩:=slot c o (R.cne x c e) M h A<|R.freeC x c e;exact⟨_,q,hd⟩
  ·exact#[o,keep c o (R.cne x c e) M h A<|R.freeC x c e,hd]
 refine#[R.ok,R.os,K,#[λb o e n y a=>?_,λb o e n y a=>?_,λb o e n a=>?_,λb o e a=>?_,λb xs e=>tups b xs<|R.base.tups b xs e,λb o xs e=>frzs b o xs<|R.base.frzs b o xs e,λb G e=>?_],?_,λx c e=>?_,?_,λx c e=>?_,λp N=>?_,hok,R.len]
 ·exact keep b o ((λb o e=>BY<|BX (Bp e) R.ok.above) b o e) y (j b o e a) (R.base.keep b o e n y a) (R.base.free b o e n a)
 ·obtain⟨F,t⟩:=R.base.slot b o e n y a;obtain⟨L,E⟩:=slot b _ ((λb o e=>BY<|BX (Bp e) R.ok.above) b o e) y (j b o e a) t (R.base.free b o e n a);exact⟨L,E⟩
 ·obtain⟨B,t⟩:=R.base.there b o e a;exact free b B (j b o e a) t<|R.base.free b o e n a
 ·obtain⟨B,t⟩:=R.base.there b o e a;exact there b B (j b o e a) t
 ·obtain⟨Q,t⟩:=R.base.tbls b G e;obtain⟨T,E⟩:=tbls b _ t;exact#[Q++T,by rw[E,Array.append_assoc]]
 ·obtain⟨m,P,Y⟩:=R.loc;refine#[m,ns m P,λi x v t E e3=>?_];obtain⟨u,r,l⟩:=Y i x v t E e3;refine#[u,r,?_];rcases l with l|⟨k,c,e,z⟩
  ·exact .inl l
  ·exact .inr #[k,c,e,g x c e _ z]
 ·obtain⟨v,z⟩:=R.cell x c e;exact#[v,g x c e v z]
 ·obtain⟨m,⟨o,_,_,A,_⟩,_⟩:=R.loc;exact free _ o (λz=>(f _ z).2.1 rfl) A R.free
 ·obtain⟨v,o,A,hd⟩:=R.cell x c e;exact free c o (λz=>(f c z).2.2.1 x c e rfl) A (R.freeC x c e)
 ·obtain⟨e,n,ne,nf,d⟩:=R.pin p N;have h:p.1∉ch:=λz=>(f p.1 z).2.2.2 p N rfl;exact#[keep p.1 p.2 ne nf h e n,free p.1 p.2 h e n,ne,nf,d]
theorem Inv.un(q:Inv X pins I H s)(u:Un X.fs [] H H' s.heap h')(hok:B9 X.prog X.w H' h'):Inv X pins I H' {s with heap:=h',toks:=t' }:=by
 obtain⟨m,⟨o,k,l,g,r⟩,_⟩:=id q.loc;obtain⟨p,h⟩:=u.any g q.free (by simp);exact q.step (g':=s.gens) (d':=s.drawn) (ch:=[]) (λ_ z=>nomatch z) (λb o _ c _ e n=>u.keep b o e n c (by simp)) (λb o _ c _ e n=>u.slot b o e n c (by simp)) (λb o _ e n=>u.free b o e n (by simp)) (λb o _ e=>u.there b o e (by simp)) u.tups u.frzs u.tbls (λx i=>by
  obtain⟨y,d,f,a,j⟩:=i;rw[g]at a;cases a;exact#[_,d,f,h,j]) hok q.bare
theorem Inv.call(E:Inv X pins I H s)(u:Un (Cg X.stack) ch H H' s.heap h')(hok:B9 X.prog X.w H' h')(k:AllBare g') (d:∀b∈ch,(b∈X.ex\/X.s₀.heap.objs.size<=b)/\b≠X.env.locals/\(∀x c,X.env.cells.lookup x=Z c->c≠b)/\∀p∈X.pn++pins,p.1≠b):Inv X pins I H' {s with heap:=h',gens:=g',drawn:=d',toks:=t' }:=by
 obtain⟨m,⟨o,v,y,j,r⟩,_⟩:=id E.loc;obtain⟨A,g⟩:=u.any j E.free λz=>(d _ z).2.1 rfl;exact E.step (ch:=ch) d (λb o g l a e n=>u.keep b o e n (λz=>(Bz.mp<|E.stkSub b z).elim g l) a) (λb o _ _ a e n=>u.any e n a) (λb o a e n=>u.free b o e n a) (λb o a e=>u.there b o e a) u.tups u.frzs u.tbls (λB q=>by
  obtain⟨C,h,i,f,t⟩:=q;rw[j]at f;cases f;exact#[_,h,i,g,t]) hok k
theorem Inv.turned{it:Ac}(B:Inv X pins I H s)(k:∀b o,b≠it->s.heap.get? b=Z o->h'.get? b=Z o)(g:H it=J)(f:it≠X.env.locals) (h:it∈X.ex\/X.s₀.heap.objs.size<=it) (i:∀x c,X.env.cells.lookup x=Z c->c≠it) (j:∀p∈X.pn++pins,p.1≠it):Inv X pins I H {s with heap:=h',toks:=t' }:=by
 have d:∀b u,H b=Z u->b≠it:=λb u e z=>by rw[z,g]at e;cases e
 refine B.step (g':=s.gens) (d':=s.drawn) (ch:=[it]) (λb l=>?_) (λb o _ _ a e _=>k b o (λz=>a (by simp[z])) e) (λb o _ _ a e _=>#[o.slots,k b o (λz=>a (by simp[z])) e]) (λ_ _ _ _ n=>n)
  (λb o a e=>#[o,k b o (λz=>a (by simp[z])) e]) (λ_ _ e=>e) (λ_ _ _ e=>e) (λb G e=>#[(T' []),by rw[e];simp]) (λm t=>?_) (λb u e=>?_) B.bare
 ·have e:b=it:=by simpa using l
  subst e;exact#[h,f,i,j]
 ·obtain⟨o,w,y,A,r⟩:=t;exact#[o,w,y,k _ o (Bv f) A,r]
 ·refine(B.hok b u e).stay (λc v a q=>k c v ?_ q) (λ_ q=>q) λ_ _ q=>q;rcases a with z|z
  ·rw[z];exact d b u e
  ·exact d c _ z
theorem Inv.tok(a:Inv X pins I H s)(t:Nat):Inv X pins I H {s with toks:=t}:=a.un (h':=s.heap) (t':=t) Un.refl a.hok
theorem Inv.kept(a:Inv X pins I H s)(k:∀b u,s.heap.get? b=Z u->h'.get? b=Z u):Inv X pins I H {s with heap:=h',toks:=t' }:=a.un (Un.kept k) (a.hok.kept k)
theorem Inv.laid{o:HO}(d:Inv X pins I H s)(k:∀b u,s.heap.get? b=Z u->h'.get? b=Z u)(c:s.heap.objs.size<=a)(new:AY X.prog X.w (AK H a o) h' a o):Inv X pins I (AK H a o) {s with heap:=h',toks:=t' }:=d.un (Un.laid k c (d.hok.fresh c)) (d.hok.laid k c new)
theorem Inv.write{x e:Ac}{o:HO}(f:Inv X pins I H s)(c:MP (H x))(d:e=x\/H e=Z (.own x))(k:∀b u,b≠e->s.heap.get? b=Z u->h'.get? b=Z u)(a:∃u,h'.get? e=Z u) (new:AY X.prog X.w (AK H x o) h' x o):Inv X pins I (AK H x o) {s with heap:=h',toks:=t' }:=f.un (Un.write c d k a) (f.hok.write c d k a new)
theorem Inv.weak{a:U (O V)}(h:Inv X pins I H s)(c:a.length=I.length)(w:∀(i:Nat) v,a[i]?=Z (Z v)->I[i]?=Z (Z v)):Inv X pins a H s:=#[h.ok,h.os,h.bare,h.base,let⟨m,d,b⟩:=h.loc;#[m,d,λi x v e f g=>b i x v e (w i v f) g],h.cell,h.free,h.freeC,h.pin,h.hok,c.trans h.len]
theorem Inv.pins_of{a:AR}(c:Inv X pins I H s)(h:∀p∈a,s.heap.get? p.1=Z p.2/\H p.1=J/\p.1≠X.env.locals/\p.1∉X.fs/\∀v,p.2.data≠.cell v):Inv X a I H s:=#[c.ok,c.os,c.bare,c.base,c.loc,c.cell,c.free,c.freeC,λp b=>(Cm.mp b).elim (λz=>c.pin p<|Gw _ z) (h p),c.hok,c.len]
theorem WV{N:U Ae}(c:N.Nodup){i:Nat}{x:Ae}(a:N[i]?=Z x)(b:N[j]?=Z x):i=j:=by
 obtain⟨f,d⟩:=BC.mp a;obtain⟨g,e⟩:=BC.mp b;exact(List.getElem_inj c).mp<|d.trans e.symm
theorem WW{M:Model}{A:Ah}{i:Nat}{x:Ae}{v:V}(R:Inv X pins I H s)(hN:X.N.Nodup)(P:X.N[i]?=Z x)(t:Loc X.env.scope x)(r:RelV v u) (h:∀s',Inv X pins (I.set i (Z v)) H s'->(∃a,DZ a s.heap s'.heap/\(a=X.env.locals\/X.env.cells.lookup x=Z a))->Q () s') (hf:X.fn x=J'\/X.env.scope.names.lookup x=Z .local:=by first|exact .inl rfl|exact .inr rfl|assumption):wpAny M A (storeName X.env x u) Q E s:=by
 obtain⟨m,hn,hl⟩:=id R.loc;have G:i<I.length:=R.len ▸ (BC.mp P).1;have g:∀{a:Ac} {h':Ak},(∃o,s.heap.get? a=Z o/\H a=J)->DZ a s.heap h'->B9 X.prog X.w H h':=λ{a h'} ha f b ob e=>by
  obtain⟨_,_,hfree⟩:=ha;refine(R.hok b ob e).stay (λc w' B q=>(f.2 c ?_).trans q) (λ_ q=>q) λ_ _ q=>q;grind
 rcases t with F|F
 ·refine wpAny_storeName_local F hn (λh' hn' f=>?_) (show(X.env.scope.kind==.class||(X.env.scope.kind==.module&&X.env.locals != X.env.globals))=O' by rw[R.ok.kind];rfl);obtain⟨oL,_,_,hoL,_⟩:=id hn;refine h _ #[R.ok,R.os,R.bare,#[λb o e n L t=>?_,λb o e n L t=>?_,R.base.free,λb o e t=>?_,R.base.tups,R.base.frzs,R.base.tbls],#[_,hn',λj y v' l C e3=>?_],λy c e=>?_,R.free,R.freeC,λp hp=>?_,g #[oL,hoL,R.free] f,by simpa using R.len] #[_,f,.inl rfl]
  ·exact(f.2 b<|BY<|BX (Bp e) R.ok.above).trans<|R.base.keep b o e n L t
  ·obtain⟨sl,l⟩:=R.base.slot b o e n L t;exact#[sl,(f.2 b<|BY<|BX (Bp e) R.ok.above).trans l]
  ·obtain⟨o',l⟩:=R.base.there b o e t;exact#[o',(f.2 b<|BY<|BX (Bp e) R.ok.above).trans l]
  ·by_cases K:j=i
   ·subst K;rw[P]at l;cases l;rw[Gx G]at C;cases C;exact#[u,r,.inl #[F,by simp]]
   ·rw[Et<|Bv K]at C;obtain⟨u',r',q⟩:=hl j y v' l C e3;refine#[u',r',?_];rcases q with⟨k,e⟩|⟨k,c,e,z⟩
    ·refine .inl #[k,?_];have:y≠x:=λe=>K<|WV hN l<|e ▸ P;simp[this,e]
    ·exact .inr #[k,c,e,z.sameBut f<|R.cne y c e]
  ·obtain⟨w',z⟩:=R.cell y c e;exact#[w',z.sameBut f<|R.cne y c e]
  ·obtain⟨e,n,ne,nf,d⟩:=R.pin p hp;exact#[(f.2 p.1 ne).trans e,n,ne,nf,d]
 ·have T:X.fn x=J':=by
   rcases hf with z|z
   ·exact z
   ·rw[z]at F;cases F
  obtain⟨c,B⟩:=R.ok.has x<|.inl F;obtain⟨w',z⟩:=R.cell x c B;refine wpAny_storeName_cell R.ok.kind F B z<|λh' Y f=>?_;obtain⟨oc,hoc,hocd⟩:=id z;refine h {s with heap:=h' } #[R.ok,R.os,R.bare,#[λb o e n L t=>?_,λb o e n L t=>?_,R.base.free,λb o e t=>?_,R.base.tups,R.base.frzs,R.base.tbls],#[m,hn.sameBut f (Bv (R.cne x c B)),λj y v' l C e3=>?_],λy c' e=>?_,R.free,R.freeC,λp hp=>?_,g #[oc,hoc,R.freeC x c B] f,by simpa using R.len] #[c,f,.inr B]
  ·exact(f.2 b<|BY<|BX (Bp e)<|R.ok.cab x c T B).trans<|R.base.keep b o e n L t
  ·obtain⟨sl,l⟩:=R.base.slot b o e n L t;exact#[sl,(f.2 b<|BY<|BX (Bp e)<|R.ok.cab x c T B).trans l]
  ·obtain⟨o',l⟩:=R.base.there b o e t;exact#[o',(f.2 b<|BY<|BX (Bp e)<|R.ok.cab x c T B).trans l]
  ·by_cases K:j=i
   ·subst K;rw[P]at l;cases l;rw[Gx G]at C;cases C;exact#[u,r,.inr #[.inl F,c,B,Y]]
   ·rw[Et<|Bv K]at C;obtain⟨u',r',q⟩:=hl j y v' l C e3;refine#[u',r',?_];rcases q with q|⟨k,c',e,z'⟩
    ·exact .inl q
    ·refine .inr #[k,c',e,z'.sameBut f ?_];rintro rfl;exact K<|WV hN l<|R.ok.inj _ _ _ e B ▸ P
  ·by_cases hcc:c'=c
   ·subst hcc;exact#[_,Y]
   ·obtain⟨w2,z2⟩:=R.cell y c' e;exact#[w2,z2.sameBut f hcc]
  ·obtain⟨e,n,ne,nf,d⟩:=R.pin p hp;refine#[(f.2 p.1 ?_).trans e,n,ne,nf,d];grind
theorem R5{M:Model}{A:Ah}{i:Nat}{x:Ae}{v:V}(f:Inv X pins I H s)(a:X.N.Nodup)(b:X.N[i]?=Z x)(c:Loc X.env.scope x)(r:RelV v u) (h:∀s',Inv X pins (I.set i (Z v)) H s'->Q () s') (d:X.fn x=J'\/X.env.scope.names.lookup x=Z .local:=by first|exact .inl rfl|exact .inr rfl|assumption):wpAny M A (storeName X.env x u) Q E s:=WW f a b c r (λs' e _=>h s' e) d
theorem Inv.call'(j:Inv X pins I H s)(g:s'.os=s.os)(u:Un (Cg X.stack) ch H H' s.heap s'.heap)(hok:B9 X.prog X.w H' s'.heap)(h:AllBare s'.gens) (a:∀b∈ch,(b∈X.ex\/X.s₀.heap.objs.size<=b)/\b≠X.env.locals/\(∀x c,X.env.cells.lookup x=Z c->c≠b)/\∀p∈X.pn++pins,p.1≠b):Inv X pins I H' s':=by
 obtain⟨h',d,e,f,i⟩:=s';subst g;exact j.call (g':=d) (t':=f) (d':=e) u hok h a
end
abbrev XK:=Aa->O Ac->Hp->Prop
abbrev St:=U (O V)
variable{I:St}
abbrev VK:=V->Hp->Prop
abbrev TE:=St->Hp->VK->Prop
variable{ta tb te:TE}
abbrev TT:=St->Hp->(Bool->Hp->Prop)->Prop
abbrev TA:=St->Hp->(U V->Hp->Prop)->Prop
structure Ends where
 nx:St->Hp->Prop
 rt:VK
 bk:St->Hp->Prop:=λ_ _=>False
 ct:St->Hp->Prop:=λ_ _=>False
abbrev TS:=Ends->St->Hp->Prop
def EP(X:Cx)(a:AR)(I:St)(Q:VK)(u:Aa)(s':Ab):Prop:=∃v b,Inv X a I b s'/\RelV v u/\Q v b
def TP(X:Cx)(a:AR)(I:St)(Q:Bool->Hp->Prop)(b:Bool)(s':Ab):Prop:=∃c,Inv X a I c s'/\Q b c
def AP(X:Cx)(a:AR)(I:St)(Q:U V->Hp->Prop)(us:U Aa)(s':Ab):Prop:=∃b c,Inv X a I c s'/\Ao b us/\Q b c
def SP(X:Cx)(b:AR)(D:Ends)(f:Flow)(s':Ab):Prop:=
 match f with
 |.next=>∃a c,Inv X b a c s'/\D.nx a c
 |.brk=>∃a c,Inv X b a c s'/\D.bk a c
 |.cont=>∃a c,Inv X b a c s'/\D.ct a c
 |.ret u=>∃v a c,Inv X b a c s'/\RelV v u/\D.rt v c
def PE(X:Cx)(e:Expr)(t:TE):Prop:=
 ∀(a:AR) (s:Ab) (b:St) (H:Hp) (Q:VK),Inv X a b H s->t b H Q->wpAny (Ag X.prog X.w) X.A (An e X.env) (EP X a b Q) X.xe s
def PT(X:Cx)(e:Expr)(t:TT):Prop:=
 ∀(a:AR) (s:Ab) (b:St) (H:Hp) (Q:Bool->Hp->Prop),Inv X a b H s->t b H Q->wpAny (Ag X.prog X.w) X.A (isTrue e X.env (An e X.env)) (TP X a b Q) X.xe s
def PW(X:Cx)(e:Expr)(t:TT):Prop:=
 ∀(b:Sem Aa) (a:AR) (s:Ab) (c:St) (H:Hp) (Q:Bool->Hp->Prop),Inv X a c H s->t c H Q->wpAny (Ag X.prog X.w) X.A (isTrue e X.env b) (TP X a c Q) X.xe s
theorem PW.pt{e:Expr}{t:TT}(h:PW X e t):PT X e t:=h _
def PA(X:Cx)(es:U Expr)(t:TA):Prop:=
 ∀(b:AC) (a:AR) (s:Ab) (c:St) (H:Hp) (Q:U V->Hp->Prop),Inv X a c H s->t c H Q->wpAny (Ag X.prog X.w) X.A (spliced (As b (Az es X.env))) (AP X a c Q) X.xe s
def PS(X:Cx)(st:Av)(t:TS):Prop:=
 ∀(a:AR) (s:Ab) (b:St) (H:Hp) (D:Ends),Inv X a b H s->t D b H->wpAny (Ag X.prog X.w) X.A (exec st X.env) (SP X a D) X.xe s
def EI(X:Cx)(st:U Av)(t:TS):Prop:=
 ∀(a:AR) (s:Ab) (b:St) (H:Hp) (D:Ends),Inv X a b H s->t D b H->wpAny (Ag X.prog X.w) X.A (execs st X.env) (SP X a D) X.xe s
theorem AV{b:Type}{t:Sem b}{Q Q':b->Ab->Prop}{M:Model}{A:Ah}{s:Ab}(h:wpAny M A t Q E s)(c:∀a s,Q a s->Q' a s):wpAny M A t Q' E s:=Cs h c λ_ _ x=>x
section
def WX(i:Nat):TE:=λa H Q=>∃v,a[i]?=Z (Z v)/\Q v H
def tC(v:V):TE:=λ_ H Q=>Q v H
theorem WY{i:Nat}{x:Ae}(j:X.N[i]?=Z x)(k:MQ X.env.scope x)(hd:Cj x:=by ext)(d:(x==("__classdict__":Ae))=O':=by ext):PE X (.Name x pos) (WX i):=by
 intro f s q H Q t h;obtain⟨v,e,h⟩:=h;obtain⟨m,n,o⟩:=t.loc;obtain⟨u,r,l⟩:=o i x v j e k;rcases l with⟨b,p⟩|⟨b,c,g,a⟩
 ·exact wpAny_Name (wpAny_loadName_local t.ok.kind b n p #[v,H,t,r,h]) hd
 ·rcases b with b|b
  ·exact wpAny_Name (wpAny_loadName_cell t.ok.kind b g a #[v,H,t,r,h]) hd
  ·exact wpAny_Name (wpAny_loadName_free t.ok.kind b g a #[v,H,t,r,h] d) hd
theorem kZ {i j pos}:PE X (.Constant (.int i) j pos) (tC (.int i)):=λ_ _ _ H _ a h=>wpAny_Constant_int #[.int i,H,a.tok _,#[_,rfl],h]
theorem k6 {b j pos}:PE X (.Constant (.bool b) j pos) (tC (.bl b)):=λ_ _ _ H _ a h=>Constant_bool #[.bl b,H,a,rfl,h]
theorem k7 {j pos}:PE X (.Constant .none j pos) (tC .non):=λ_ _ _ H _ a h=>Constant_none #[.non,H,a,rfl,h]
theorem k8 {x j pos}:PE X (.Constant (.str x) j pos) (tC (.str x)):=λ_ _ _ H _ a h=>Calls.Constant_str #[.str x,H,a.tok _,#[_,rfl],h]
def Gl(X:Cx)(x:Ae):Prop:=X.env.kindOf x=Z .globalImplicit
theorem Ki{a:AR}{s:Ab}{x:Ae}{Q:AI}(d:Inv X a I H s)(b:Gl X x)(c:X.mg x=Z u)(h:Q u s) (hd:Cj x:=by ext):wpAny (Ag X.prog X.w) X.A (An (.Name x pos) X.env) Q E s:=Calls.Name_function_global d.ok.kind b (Calls.loadGlobal_global (d.ok.glob ▸ d.mod.glob.keeps d.bk) c h) hd
theorem Hc{a:AR}{s:Ab}{x:Ae}{Q:AI}(j:Inv X a I H s)(b:Gl X x)(c:X.mg x=J)(d:DY x=Z u)(h:Q u s) (e:x≠"__name__":=by ext) (hd:Cj x:=by ext):wpAny (Ag X.prog X.w) X.A (An (.Name x pos) X.env) Q E s:=by
 obtain⟨i,f,g⟩:=j.mod.blt;exact Calls.Name_function_global j.ok.kind b (Calls.loadGlobal_builtin (j.ok.glob ▸ j.mod.glob.keeps j.bk) c (j.ok.blt ▸ f.keeps j.bk) ((g x e).trans d) h) hd
theorem R6{x:Ae}{v:V}(a:Gl X x)(b:X.mg x=Z u)(r:RelV v u)(hd:Cj x:=by ext):PE X (.Name x pos) (tC v):=λ_ _ _ H _ c h=>Ki c a b #[v,H,c,r,h] hd
theorem WZ{x:Ae}{v:V}(a:Gl X x)(b:X.mg x=J)(c:DY x=Z u)(r:RelV v u)(d:x≠"__name__":=by ext)(hd:Cj x:=by ext):PE X (.Name x pos) (tC v):=λ_ _ _ H _ e h=>Hc e a b c #[v,H,e,r,h] d hd
variable{a b:Expr}
def PC(X:Cx)(op:CmpOp)(a b:Expr)(t:TE):Prop:=
 ∀(c:AR) (s:Ab) (f:St) (H:Hp) (Q:VK),Inv X c f H s->t f H Q ->
  wpAny (Ag X.prog X.w) X.A (An a X.env) (λv d=>wpAny (Ag X.prog X.w) X.A (An b X.env) (λu e=>wpAny (Ag X.prog X.w) X.A (Dd op v u) (EP X c f Q) X.xe e) X.xe d) X.xe s
theorem F6(b:Expr){op:CmpOp}(h:op≠.In)(a:op≠.NotIn):F7 op b=O':=by
 cases b with
 |Set _ k _=>
  show(k==0&&(op==.In||op==.NotIn)&&_)=O'
  rw[beq_false_of_ne h,beq_false_of_ne a];simp
 |_=>rfl
def k9(ta:TE):TE:=λa H Q=>ta a H λx b=>Q (.bl (decide (x=.non))) b
def lb(ta:TE):TE:=λa H Q=>ta a H λx b=>Q (.bl (!decide (x=.non))) b
theorem RelV.none_iff{x:V}{v:Aa}(r:RelV x v):(v==Gs)=decide (x=.non):=by
 cases x with
 |non=>cases r;rfl
 |bl _=>cases r;rfl
 |int _=>obtain⟨t,rfl⟩:=r;rfl
 |str _=>obtain⟨t,rfl⟩:=r;rfl
 |ref _=>cases r;rfl
 |ty _=>cases r;rfl
theorem lc {j b} (d:PE X a ta):PC X .Is a (.Constant .none j b) (k9 ta):=by
 intro c s e H Q n h;refine AV (d c s e H _ n h) λv m f=>?_;obtain⟨x,g,i,k,l⟩:=f;exact Constant_none<|is_none_gen ⟨.bl _,g,i,by rw[k.none_iff];rfl,l⟩
theorem lf {j b} (d:PE X a ta):PC X .IsNot a (.Constant .none j b) (lb ta):=by
 intro c s e H Q n h;refine AV (d c s e H _ n h) λv m f=>?_;obtain⟨x,g,i,k,l⟩:=f;exact Constant_none<|isnot_none_gen ⟨.bl _,g,i,by rw[k.none_iff];rfl,l⟩
def tB(t:TE):TT:=λa H Q=>t a H λx b=>∃c,x=.bl c/\Q c b
theorem W0{op:CmpOp}{t:TE}(h:PC X op a b t)(f:F7 op b=O':=by first|exact F6 _ (by ext) (by ext)|rfl):PT X (.Compare a [op] [b] pos) (tB t):=by
 intro e s g H Q w i;refine wpAny_isTrue_Compare1 (AV (h e s g H _ w i) λv o f=>AV f λu p j=>AV j λc r k=>?_) f;obtain⟨x,l,m,n,d,rfl,q⟩:=k;cases n;exact HK #[l,m,q]
theorem lg{e:Expr}{t:TE}(h:PE X e t)(c:∀a,isTrue e X.env a=(do let v <- a;standAt e.pos;Dw [v] (truthy v)):=by intro _;rfl):PT X e (tB t):=by
 intro b s f H Q n g;refine isTrue_plain (AV (h b s f H _ n g) λv m i=>?_) (c _);obtain⟨x,j,k,l,d,rfl,q⟩:=i;cases l;exact HK #[j,k,q]
variable{tA BH:TT}{AB:U Expr}
def W3(t u:TT):TT:=λa H Q=>t a H λc b=>if c=J' then u a b Q else Q O' b
def W4(t u:TT):TT:=λa H Q=>t a H λc b=>if c=J' then Q J' b else u a b Q
def lh(t:TT):TT:=λa H Q=>t a H λc b=>Q (!c) b
theorem W5(d:PT X a tA):PW X (.BoolOp .And [a] pos) tA:=by
 intro wh b s f H Q i h;refine isTrue_and<|AV (d b s f H Q i h) λc g e=>?_;cases c with
 |true=>exact isTrue_and_nil e
 |false=>exact e
theorem li(d:PT X a tA):PW X (.BoolOp .Or [a] pos) tA:=by
 intro wh b s f H Q i h;refine isTrue_or<|AV (d b s f H Q i h) λc g e=>?_;cases c with
 |false=>exact isTrue_or_nil e
 |true=>exact e
theorem W6(j:PT X a tA)(k:PW X (.BoolOp .And (b::AB) pos) BH):PW X (.BoolOp .And (a::b::AB) pos) (W3 tA BH):=by
 intro wh d s e H Q m h;refine isTrue_and<|AV (j d s e H _ m h) λc l ⟨f,g,i⟩=>?_;cases c with
 |true=>exact k wh d l e f Q g i
 |false=>exact#[f,g,i]
theorem lj(j:PT X a tA)(k:PW X (.BoolOp .Or (b::AB) pos) BH):PW X (.BoolOp .Or (a::b::AB) pos) (W4 tA BH):=by
 intro wh d s e H Q m h;refine isTrue_or<|AV (j d s e H _ m h) λc l ⟨f,g,i⟩=>?_;cases c with
 |true=>exact#[f,g,i]
 |false=>exact k wh d l e f Q g i
theorem W7(d:PT X a tA):PT X (.UnaryOp .Not a pos) (lh tA):=by
 intro b s e H Q g h;exact isTrue_not<|d b s e H (λc f=>Q (!c) f) g h
def ll(ta tb:TE):TE:=λa H Q=>ta a H λx b=>∃c,x=.bl c/\if c=J' then tb a b Q else Q (.bl O') b
def lm(ta tb:TE):TE:=λa H Q=>ta a H λx b=>∃c,x=.bl c/\if c=J' then Q (.bl J') b else tb a b Q
def lq(ta:TE):TE:=λa H Q=>ta a H λx b=>∃c,x=.bl c/\Q (.bl (!c)) b
theorem lr {op} {t:TE} (h:PE X a t):PE X (.BoolOp op [a] pos) t:=λb s c H Q e d=>BoolOp_one<|h b s c H Q e d
theorem lu(j:PE X a ta)(k:PE X (.BoolOp .And (b::AB) pos) tb):PE X (.BoolOp .And (a::b::AB) pos) (ll ta tb):=by
 intro d s f H Q o h;refine BoolOp_and<|AV (j d s f H _ o h) λv l m=>?_;obtain⟨x,g,i,n,e⟩:=m;obtain⟨c,rfl,e⟩:=e;cases n;refine HK ?_;cases c with
 |true=>exact k d l f g Q i e
 |false=>exact#[.bl O',g,i,rfl,e]
theorem lw(j:PE X a ta)(k:PE X (.BoolOp .Or (b::AB) pos) tb):PE X (.BoolOp .Or (a::b::AB) pos) (lm ta tb):=by
 intro d s f H Q o h;refine BoolOp_or<|AV (j d s f H _ o h) λv l m=>?_;obtain⟨x,g,i,n,e⟩:=m;obtain⟨c,rfl,e⟩:=e;cases n;refine HK ?_;cases c with
 |false=>exact k d l f g Q i e
 |true=>exact#[.bl J',g,i,rfl,e]
theorem lx(e:PE X a ta):PE X (.UnaryOp .Not a pos) (lq ta):=by
 intro b s f H Q m h;refine UnaryOp_<|AV (e b s f H _ m h) λv l g=>?_;obtain⟨x,i,j,k,d⟩:=g;obtain⟨c,rfl,d⟩:=d;cases k;exact not_of<|HK ⟨.bl<|!c,i,j,rfl,d⟩
def ly(t:TT)(ta tb:TE):TE:=λa H Q=>t a H λc b=>if c=J' then ta a b Q else tb a b Q
theorem lz{c:Expr}(l:PT X c tA)(m:PE X a ta)(n:PE X b tb):PE X (.IfExp c a b pos) (ly tA ta tb):=by
 intro e s f H Q o h;refine wpAny_IfExp<|AV (l e s f H _ o h) λd g ⟨i,j,k⟩=>?_;cases d with
 |true=>exact m e g f i Q j k
 |false=>exact n e g f i Q j k
end
def BJ(K:Am)(H:Hp)(a:Ac)(xs:U V):Prop:=
 Rd H a (.lst xs) \/
  ∃(o:Obj) (b:Array Aa) (n:Nat),K.lookup a=Z o/\o.cls=.type "list"/\o.dict=J/\o.data=.seq b n/\b.size<=Ax/\Ao xs b.toList
def B0(K:Am)(H:Hp)(a:Ac)(xs:U V):Prop:=
 Rd H a (.tup xs) \/
  ∃(o:Obj) (b:Array Aa) (n:Nat),K.lookup a=Z o/\o.cls=.type "tuple"/\o.data=.seq b n/\b.size<=Ax/\Ao xs b.toList
noncomputable def lA:Aa->O V
 |.none=>Z .non
 |.bool b=>Z (.bl b)
 |.int i _=>Z (.int i)
 |.str x _=>Z (.str x)
 |.ref a=>Z (.ref a)
 |.type n=>Z (.ty n)
 |_=>J
theorem RelV.abs{x:V}(r:RelV x u):lA u=Z x:=by
 cases x with
 |non=>cases r;rfl
 |bl _=>cases r;rfl
 |int _=>obtain⟨t,rfl⟩:=r;rfl
 |str _=>obtain⟨t,rfl⟩:=r;rfl
 |ref _=>cases r;rfl
 |ty _=>cases r;rfl
theorem RelV.inj{x y:V}(r:RelV x u)(q:RelV y u):x=y:=FE<|r.abs.symm.trans q.abs
theorem Ao.inj{xs:U V}{us:U Aa}(h:Ao xs us)(g:Ao ys us):xs=ys:=by
 induction h generalizing ys with|nil=>cases g;rfl|cons r _ a=>
  cases g with
  |cons q t=>rw[r.inj q,a t]
section
variable{s:Ab}{xs:U V}
theorem B0.of{K:Am}(h:H a=Z (.tup xs)):B0 K H a xs:=.inl<|.inl h
theorem Inv.list(i:Inv X pins I H s)(h:BJ X.K H a xs):∃b:U Aa,Ao xs b/\PlainL s.heap a b.toArray/\xs.length<=Ax:=by
 rcases h with h|⟨o,b,n,c,d,hd,f,g,r⟩
 ·obtain⟨z,b,n,r,e⟩:=h.ok i.hok;exact#[b,r,#[_,n,e,rfl,rfl,rfl],z]
 ·refine#[b.toList,r,#[o,n,i.kIn a o c,d,hd,by simpa using f],?_];have e:=r.length;erw[R7]at e;lia
theorem Inv.tuple(i:Inv X pins I H s)(h:B0 X.K H a xs):∃b:U Aa,Ao xs b/\IsTup s.heap a b.toArray/\xs.length<=Ax:=by
 rcases h with h|⟨o,b,n,c,d,f,g,r⟩
 ·obtain⟨z,b,r,p⟩:=h.ok i.hok;exact#[b,r,p,z]
 ·refine#[b.toList,r,#[o,i.kIn a o c,d,n,by simpa using f],?_];have e:=r.length;erw[R7]at e;lia
theorem Inv.list_inj(m:Inv X pins I H s)(h:BJ X.K H a xs)(h':BJ X.K H a ys):xs=ys:=by
 obtain⟨c,r,⟨o,n,e,_,_,d⟩,_⟩:=m.list h;obtain⟨b,i,⟨k,l,f,_,_,g⟩,_⟩:=m.list h';rw[e]at f;cases f;rw[d]at g;injection g with j _
 have:c=b:=by simpa using congrArg Array.toList j
 subst this;exact r.inj i
theorem Inv.tuple_inj(m:Inv X pins I H s)(h:B0 X.K H a xs)(h':B0 X.K H a ys):xs=ys:=by
 obtain⟨c,r,⟨o,e,_,n,d⟩,_⟩:=m.tuple h;obtain⟨b,i,⟨k,f,_,l,g⟩,_⟩:=m.tuple h';rw[e]at f;cases f;rw[d]at g;injection g with j _
 have:c=b:=by simpa using congrArg Array.toList j
 subst this;exact r.inj i
end
noncomputable abbrev Cx.wish(X:Cx)(E:AI):Cx:={X with xe:=E}
abbrev Cx.nox(X:Cx):Cx:=X.wish λ_ _=>False
theorem Cx.Ok.wish(ok:X.Ok)(E:AI):(X.wish E).Ok:=#[ok.mod,ok.kind,ok.glob,ok.blt,ok.above,ok.inj,ok.has,ok.cab,ok.hd,ok.frames,ok.stk,ok.exf,ok.bs,ok.bsz,ok.noex,ok.exfs,ok.funs,ok.frf]
theorem Cx.Ok.unwish(ok:(X.wish E).Ok):X.Ok:=#[ok.mod,ok.kind,ok.glob,ok.blt,ok.above,ok.inj,ok.has,ok.cab,ok.hd,ok.frames,ok.stk,ok.exf,ok.bs,ok.bsz,ok.noex,ok.exfs,ok.funs,ok.frf]
section
variable{s:Ab}
theorem Inv.wish(a:Inv X pins I H s)(E:AI):Inv (X.wish E) pins I H s:=#[a.ok.wish E,a.os,a.bare,a.base,a.loc,a.cell,a.free,a.freeC,a.pin,a.hok,a.len]
theorem Inv.unwish(a:Inv (X.wish E) pins I H s):Inv X pins I H s:=#[a.ok.unwish,a.os,a.bare,a.base,a.loc,a.cell,a.free,a.freeC,a.pin,a.hok,a.len]
theorem SP.unwish{D:Ends}{f:Flow}(h:SP (X.wish E) pins D f s'):SP X pins D f s':=by
 cases f with
 |next=>obtain⟨a,b,c,q⟩:=h;exact#[a,b,c.unwish,q]
 |brk=>obtain⟨a,b,c,q⟩:=h;exact#[a,b,c.unwish,q]
 |cont=>obtain⟨a,b,c,q⟩:=h;exact#[a,b,c.unwish,q]
 |ret u=>obtain⟨v,a,b,c,r,q⟩:=h;exact#[v,a,b,c.unwish,r,q]
theorem EI.nox{st:U Av}{t:TS}(h:EI X.nox st t):EI X st t:=λpins s I H D b a=>Cs (h pins s I H D (b.wish _) a) (λ_ _ q=>q.unwish) λ_ _ z=>BS z
end
section
variable{st:Av}{AB:U Av}{t u:TS}{e:Expr}
def lB:TS:=λD a H=>D.nx a H
def lC(t u:TS):TS:=λD a H=>t {D with nx:=u D} a H
theorem Fm:EI X [] lB:=λ_ _ a H _ b h=>wpAny_execs_nil #[a,H,b,h]
theorem W8(c:PS X st t)(d:EI X AB u):EI X (st::AB) (lC t u):=by
 intro a s e H D k h;refine O2<|AV (c a s e H {D with nx:=u D} k h) λf g q=>?_;cases f with
 |next=>
  obtain⟨b,i,j,q⟩:=q;exact d a g b i D j q
 |ret v=>exact q
 |brk=>exact q
 |cont=>exact q
theorem Inv.quiet{a:AR}{s:Ab}(b:Inv X a I H s):interactive X.env=O':=by simp[interactive,b.ok.kind]
def lD(te:TE):TS:=λD a H=>te a H λ_ b=>D.nx a b
theorem R8(c:PE X e te)(d:DE e J pos.line X.env=Ay O':=by rfl):PS X (.Expr e pos) (lD te):=by
 intro a s b H D l h;exact wpAny_Expr_any (AV (c a s b H _ l h) λv j ⟨x,f,g,k,i⟩=>#[b,f,g,i]) l.quiet d
def lE(te:TE):TS:=λD a H=>te a H D.rt
theorem O3(c:PE X e te):PS X (.Return (Z e) pos) (lE te):=by
 intro a s b H D k h;exact wpAny_Return_some<|AV (c a s b H _ k h) λv j ⟨x,d,f,g,i⟩=>#[x,b,d,f,g,i]
def lF(c:TT)(t u:TS):TS:=λD a H=>c a H λb d=>if b=J' then t D a d else u D a d
theorem O4{c:Expr}{a b:U Av}{g:TT}(m:PT X c g)(n:EI X a t)(o:EI X b u):PS X (.If c a b pos) (lF g t u):=by
 intro e s f H D p h;refine wpAny_If<|AV (m e s f H _ p h) λd i ⟨j,k,l⟩=>?_;cases d with
 |true=>exact n e i f j D k l
 |false=>exact o e i f j D k l
def lG:TS:=λ_ _ _=>False
theorem Gy:PS X st lG:=λ_ _ _ _ _ _ h=>h.elim
end
abbrev TG:=V->St->Hp->(St->Hp->Prop)->Prop
abbrev HL:=U V->St->Hp->(St->Hp->Prop)->Prop
def PG(X:Cx)(a:Expr)(t:TG):Prop:=
 ∀(b:AR) (s:Ab) (d:St) (H:Hp) (v:V) (u:Aa) (Q:St->Hp->Prop),Inv X b d H s->RelV v u->t v d H Q ->
  wpAny (Ag X.prog X.w) X.A (assign a X.env u) (λ_ f=>∃c e,Inv X b c e f/\Q c e) X.xe s
def MR(X:Cx)(g:U Expr)(t:HL):Prop:=
 ∀(a:AR) (s:Ab) (c:St) (H:Hp) (d:U V) (e:U Aa) (Q:St->Hp->Prop),Inv X a c H s->Ao d e->t d c H Q ->
  wpAny (Ag X.prog X.w) X.A (assignInOrder ((FG g X.env).map (·.2)) e) (λ_ h=>∃b f,Inv X a b f h/\Q b f) X.xe s
abbrev O5:=V->V->V->Hp->(Hp->Prop)->Prop
def R9(X:Cx)(t:O5):Prop:=
 ∀(a:AR) (s:Ab) (b:St) (H:Hp) (o i v:V) (c d u:Aa) (Q:Hp->Prop),Inv X a b H s->RelV o c->RelV i d->RelV v u->t o i v H Q ->
  wpAny (Ag X.prog X.w) X.A (setItem c d u) (λ_ f=>∃e,Inv X a b e f/\Q e) X.xe s
section
def Kj(i:Nat):TG:=λv a H Q=>Q (a.set i (Z v)) H
theorem W9{i:Nat}{x:Ae}(b:X.N.Nodup)(c:X.N[i]?=Z x)(d:Loc X.env.scope x)(e:X.fn x=J'\/X.env.scope.names.lookup x=Z .local:=by first|exact .inl rfl|exact .inr rfl|assumption):PG X (.Name x pos) (Kj i):=by
 intro a s g H v u Q k r h;exact wpAny_assign_Name<|R5 k b c d r (λj f=>#[_,H,f,h]) e
def lH:HL:=λa b H Q=>a=[]/\Q b H
def lI(t:TG)(u:HL):HL:=λb c H Q=>∃v r,b=v::r/\t v c H λa d=>u r a d Q
theorem lJ:MR X [] lH:=by
 intro a s b H c d Q e r h;obtain⟨rfl,h⟩:=h;cases r;exact assignInOrder_nil #[b,H,e,h]
theorem lK{e:Expr}{t:TG}{u:HL}(c:PG X e t)(d:MR X es u) (f:(FG (e::es) X.env).map (·.2)=assign e X.env::(FG es X.env).map (·.2):=by rfl):MR X (e::es) (lI t u):=by
 intro a s g H o p Q w r h;obtain⟨v,q,rfl,h⟩:=h;cases r with
 |cons r i=>
  rw[f];refine assignInOrder_cons<|AV (c a s g H _ _ _ w r h) λ_ j k=>?_;obtain⟨b,l,m,n⟩:=k;exact d a j b l _ _ Q m i n
def lL(K:Am)(n:Nat)(t:HL):TG:=λv c H Q=>∃a b,v=.ref a/\B0 K H a b/\b.length=n/\t b c H Q
theorem lM{k:Nat}{t:HL}{n:Nat}(i:X.calm=J')(h:MR X es t) (j:(FG es X.env).length=n:=by rfl) (d:(FG es X.env).findIdx? (·.1)=J:=by rfl):PG X (.Tuple es k pos) (lL X.K n t):=by
 intro c s l H v u Q B r f;obtain⟨a,m,rfl,p,q,f⟩:=f;cases r;obtain⟨w,g,x,z⟩:=B.tuple p;exact assign_Tuple_tuple (B.ok.hd i) x (by simp[j,<- q,g.length]) d λA y=>h c _ l H m _ Q (B.kept (t':=s.toks) λb o e=>y b o (BY<|Bp e) e) (by simpa using g) f
def lN(b c:TE)(t:O5):TG:=λv a H Q=>b a H λo d=>c a d λi e=>t o i v e λf=>Q a f
theorem O6{i:Expr}{f g:TE}{t:O5}(j:PE X o f)(k:PE X i g)(l:R9 X t) (L:∀v,assign (.Subscript o i pos) X.env v=(do
   let b <- Dw [v] (An o X.env);let c <- Dw [v,b] (An i X.env);standAt pos
   Dw [v,b,c] (setItem b c v)
   release [v,b,c] []):=by intro _;rfl):PG X (.Subscript o i pos) (lN f g t):=by
 intro a s d H v u Q K r h;refine Al<|FH<|AV (j a s d H _ K h) λb m e=>?_;obtain⟨x,n,p,q,w⟩:=e;refine Al<|FH<|AV (k a m d n _ p w) λc z e=>?_;obtain⟨y,A,B,C,E⟩:=e;exact Al<|wpAny_standAt<|Al<|FH<|AV (l a z d A x y v b c u _ B q C r E) λ_ M ⟨G,F,q3⟩=>wpAny_release #[d,G,F,q3]
def Lr(b:TE)(g:TG):TS:=λD a H=>b a H λx c=>g x a c D.nx
theorem O7{b e:Expr}{c:TE}{g:TG}(f:PE X e c)(i:PG X b g)(j:swapsWithSole [b] e pos.line X.env=Ay O':=by rfl)(k:swappedStores [b] e X.env=Ay J:=by rfl) (l:(FG [b] X.env).map (·.2)=[assign b X.env]:=by rfl):PS X (.Assign [b] e pos) (Lr c g):=by
 intro a s d H D w h;refine wpAny_Assign_stores (AV (f a s d H _ w h) λv m n=>?_) j k;obtain⟨x,o,p,r,t⟩:=n;rw[l];exact AV (i a m d o x v _ p r t) λ_ u q=>q
theorem MS{i:Nat}{x:Ae}{e:Expr}{c:TE}{a:AC}(d:X.N.Nodup)(f:X.N[i]?=Z x)(g:Loc X.env.scope x)(j:PE X e c)(k:DE e (Z (.Name x a)) pos.line X.env=Ay O':=by rfl)(l:X.fn x=J'\/X.env.scope.names.lookup x=Z .local:=by first|exact .inl rfl|exact .inr rfl|assumption):PS X (.Assign [.Name x a] e pos) (Lr c (Kj i)):=by
 intro b s m H D z h;refine wpAny_Assign_Name (AV (j b s m H _ z h) λv u n=>?_) k;obtain⟨y,o,p,q,r⟩:=n;exact R5 p d f g q (λw t=>#[_,o,t,r]) l
end
structure It where
 go:Nat->Hp->Prop
 yld:Nat->Hp->V->Hp->Prop
 stop:Nat->Hp->Prop
def FJ(X:Cx)(a:AR)(H:Hp)(b:Ac):Prop:=
 H b=J/\b≠X.env.locals/\b∉X.fs/\(b∈X.ex\/X.s₀.heap.objs.size<=b)/\(∀x c,X.env.cells.lookup x=Z c->c≠b)/\∀p∈X.pn++a,p.1≠b
theorem Inv.fpOk{a:AR}{s:Ab}{b:Ac}(h:Inv X a I H s)(d:s.heap.objs.size<=b)(f:H' b=J):FJ X a H' b:=by
 refine#[f,Gz<|BX h.lt d,h.nofs d,.inr<|BR h.sz d,λx c e z=>?_,λp g z=>?_]
 ·obtain⟨v,q⟩:=h.cell x c e;exact absurd (BX q.lt<|z ▸ d)<|HJ _
 ·exact absurd (BX (Bp (h.pin p g).1)<|z ▸ d)<|HJ _
structure Hd(P:AJ)(w:Ai)(K:Am)(tg:Expr)(a:It)(fp:List Ac)(it:Ac)(tn:Nat->Ak->Prop):Prop where
 mem:it∈fp
 obj:∀i h,tn i h->∀b∈fp,∃o,h.get? b=Z o/\∀v,o.data≠.cell v
 keep:∀i h h',tn i h->(∀b∈fp,∀o,h.get? b=Z o->h'.get? b=Z o)->tn i h'
 item:∀(X:Cx),X.prog=P->X.w=w->X.K=K->X.calm=J'->∀(i:Nat) (pins:AR) (s:Ab) (I:St) (H:Hp) (E:AI),Inv X pins I H s->(∀b∈fp,FJ X pins H b)->tn i s.heap->a.go i H ->
  wpAny (Ag P w) X.A (pyNext (.ref it)) (λr s1=>∃u,r=Z u /\
   wpAny (Ag P w) X.A (letOwnedTupleGo tg (.ref it) u) (λ_ s2=>∃x H',Inv X pins I H' s2/\RelV x u/\a.yld i H x H'/\tn (i+1) s2.heap/\∀b∈fp,H' b=J) E s1) E s
 done:∀(X:Cx),X.prog=P->X.w=w->X.K=K->X.calm=J'->∀(i:Nat) (pins:AR) (s:Ab) (I:St) (H:Hp) (E:AI),Inv X pins I H s->(∀b∈fp,FJ X pins H b)->tn i s.heap->a.stop i H ->
  wpAny (Ag P w) X.A (pyNext (.ref it)) (λr s1=>r=J/\Inv X pins I H s1) E s
 self:∀(A:Ah) (i:Nat) (s:Ab) (Q:AI) (E:AI),tn i s.heap->Q (.ref it) s->wpAny (Ag P w) A (pyIter (.ref it)) Q E s
abbrev TI:=St->Hp->(It->Hp->Prop)->Prop
variable{wi:TI}
def Xa(X:Cx)(a:AR)(I:St)(h:Expr)(R:It->Hp->Prop)(c:Aa)(e:Ab):Prop:=
 ∃(it:Ac) (f:U Ac) (g:Nat->Ak->Prop) (i:It) (d:Hp),c=.ref it/\Inv X a I d e/\Hd X.prog X.w X.K h i f it g/\g 0 e.heap/\(∀b∈f,FJ X a d b)/\R i d
def PI(X:Cx)(c iter:Expr)(wi:TI):Prop:=
 ∀(a:AR) (s:Ab) (b:St) (H:Hp) (R:It->Hp->Prop),Inv X a b H s->wi b H R ->
  wpAny (Ag X.prog X.w) X.A (An iter X.env) (λv d=>wpAny (Ag X.prog X.w) X.A (pyIter v) (Xa X a b c R) X.xe d) X.xe s
theorem lO{M:Model}{A:Ah}{s:Ab}{b:Expr}{it:Ac}{o:Obj}{n:String}{vs:Array Aa}(c:s.heap.get? it=Z o)(d:o.cls=.type n)(hd:o.data=.fields vs) (e:["enumerate","zip","dict_itemiterator","dict_reverseitemiterator","odict_iterator","itertools.zip_longest","itertools.pairwise"].contains n=O') (a:Q () s):wpAny M A (letOwnedTupleGo b (.ref it) u) Q E s:=by
 cases b<;>first
  |exact AQ a
  |(cases u<;>first
    |exact AQ a
    |(refine Al (wpAny_load c ?_)
      rw[d,hd];show wpAny M A (if(["enumerate","zip","dict_itemiterator","dict_reverseitemiterator","odict_iterator","itertools.zip_longest","itertools.pairwise"].contains n&&vs[0]?==Z (AZ _))=J' then _ else _) Q E s
      rw[if_neg (by intro h;rw[e,Bool.false_and]at h;cases h)];exact AQ a))
noncomputable def Xb(K:Am)(a:Ac):It:=
 #[λi H=>∃b x,BJ K H a b/\b[i]?=Z x,λi H x c=>c=H/\∀b,BJ K H a b->b[i]?=Z x,λi H=>∃b,BJ K H a b/\b.length<=i]
noncomputable def Xc(K:Am)(a:Ac):It:=
 #[λi H=>∃b x,B0 K H a b/\b[i]?=Z x,λi H x c=>c=H/\∀b,B0 K H a b->b[i]?=Z x,λi H=>∃b,B0 K H a b/\b.length<=i]
noncomputable def MU(lo:Int)(n:Nat):It:=#[λi _=>i<n,λi H x a=>a=H/\x=.int (lo+i),λi _=>n<=i]
theorem MV{P:AJ}{w:Ai}{K:Am}{N:Expr}{F:It}{it:Ac}{f:Nat->Ak->Prop}{n:String}(R:["enumerate","zip","dict_itemiterator","dict_reverseitemiterator","odict_iterator","itertools.zip_longest","itertools.pairwise"].contains n=O') (ob:∀i h,f i h->∃o fs,h.get? it=Z o/\o.cls=.type n/\o.data=.fields fs) (kp:∀i h h',f i h->(∀o,h.get? it=Z o->h'.get? it=Z o)->f i h') (M:∀(X:Cx) (i:Nat) (a:AR) (s:Ab) (I:St) (H:Hp) (E:AI) (Q:O Aa->Ab->Prop),X.K=K->X.A.handled=J->Inv X a I H s->f i s.heap->(F.go i H->(∀u x h' g,f (i+1) h'->(∀b o,b≠it->s.heap.get? b=Z o->h'.get? b=Z o)->RelV x u->F.yld i H x H->Q (Z u) {s with heap:=h',toks:=g})->wpAny (Ag P w) X.A (pyNext (.ref it)) Q E s)/\(F.stop i H->(∀h' g,(∀b o,b≠it->s.heap.get? b=Z o->h'.get? b=Z o)->Q J {s with heap:=h',toks:=g})->wpAny (Ag P w) X.A (pyNext (.ref it)) Q E s)) (T:∀(A:Ah) (i:Nat) (s:Ab) (Q:AI) (E:AI),f i s.heap->Q (.ref it) s->wpAny (Ag P w) A (pyIter (.ref it)) Q E s):Hd P w K N F [it] it f where
 mem:=by simp
 obj:=λi h st b m=>by
  obtain⟨o,fs,e,_,d⟩:=ob i h st;rw[CP.mp m];exact#[o,e,λv z=>by rw[d]at z;cases z]
 keep:=λi h h' st k=>kp i h h' st<|k it (by simp);item:=by
  intro X S Y p q i a s I H E W l st r;obtain⟨t,B,f2,C,G,L⟩:=l it (by simp);refine(M X i a s I H E _ p (W.ok.hd q) W st).1 r λu x h' g j k ru y=>?_;obtain⟨o,fs,e,c,d⟩:=ob _ _ j;exact#[u,rfl,lO (s:={s with heap:=h',toks:=g}) e c d R #[x,H,W.turned k t B C G L,ru,y,j,λb m=>(l b m).1]]
 done:=by
  intro X S Y p q i a s I H E W l st r;obtain⟨t,B,f2,C,G,L⟩:=l it (by simp);exact(M X i a s I H E _ p (W.ok.hd q) W st).2 r λh' g k=>#[rfl,W.turned k t B C G L]
 self:=T
theorem lP{P:AJ}{w:Ai}{K:Am}{y:Expr}(a it:Ac):Hd P w K y (Xb K a) [it] it (λi h=>h.IsListIter it a i):=by
 refine MV (n:="list_iterator") (by ext) (λi h st=>?_) (λi h f st k=>st.at k) (λX i t s T H E Q z A W st=>?_) λ_ _ _ _ _ st h=>wpAny_pyIter_listiter st h
 ·obtain⟨o,e,c,d⟩:=st;exact#[o,_,e,c,d]
 ·subst z;constructor<;>intro v q
  ·obtain⟨B,x,g,j⟩:=v;obtain⟨l,m,p,C⟩:=W.list g;obtain⟨u,G,F⟩:=m.get j;exact wpAny_pyNext_list_item st p.isList (x:=u) (by simpa using G) λf r L=>q u x f s.toks r (λb o M e=>(L.2 b M).trans e) F #[rfl,λS N=>W.list_inj N g ▸ j]
  ·obtain⟨B,g,j⟩:=v;obtain⟨l,m,p,C⟩:=W.list g;have Y:=m.length;exact wpAny_pyNext_list_end A st p.isList (by simp;lia) λf R=>q f s.toks R
theorem lQ{P:AJ}{w:Ai}{K:Am}{y:Expr}(a it:Ac):Hd P w K y (Xc K a) [it] it (λi h=>h.IsTupleIter it a i):=by
 refine MV (n:="tuple_iterator") (by ext) (λi h st=>?_) (λi h g st k=>st.at k) (λX i t s T H E Q z A W st=>?_) λ_ _ _ _ _ st h=>wpAny_pyIter_tupleiter st h
 ·obtain⟨o,e,c,d⟩:=st;exact#[o,_,e,c,d]
 ·subst z;constructor<;>intro v q
  ·obtain⟨B,x,j,l⟩:=v;obtain⟨f,m,p,C⟩:=W.tuple j;obtain⟨u,G,F⟩:=m.get l;exact wpAny_pyNext_tuple_item st (show s.heap.IsTuple a f.toArray from p) (x:=u) (by simpa using G) λg r L=>q u x g s.toks r (λb o M e=>(L.2 b M).trans e) F #[rfl,λS N=>W.tuple_inj N j ▸ l]
  ·obtain⟨B,j,l⟩:=v;obtain⟨f,m,p,C⟩:=W.tuple j;have Y:=m.length;exact wpAny_pyNext_tuple_end A st (show s.heap.IsTuple a f.toArray from p) (by simp;lia) λg R=>q g s.toks R
theorem lR{P:AJ}{w:Ai}{K:Am}{j:Expr}(it:Ac)(lo:Int)(n:Nat):Hd P w K j (MU lo n) [it] it (λi h=>IsRangeIter h it (lo+(i:Nat)*1) ((n:Int)-(i:Nat)) 1):=by
 refine MV (n:="range_iterator") (by ext) (λi h st=>#[_,_,st,rfl,rfl]) (λi h a st k=>k _ st) (λX i d s x H E Q y f z st=>?_) λ_ _ _ _ _ st h=>wpAny_pyIter_rangeiter st h;constructor<;>intro g q
 ·refine(Walks.range f it lo 1 n).item i s _ _ g st λv a l m c p=>?_;obtain⟨t,rfl⟩:=m;exact q _ (.int<|lo+i) a l c (λb o r e=>p b o (by simpa using r) e) #[t,by simp] #[rfl,rfl]
 ·exact wpAny_pyNext_range_end f st (by have:n<=i:=g;lia) λa u=>q a s.toks u
section
def lT(K:Am)(c:TE):TI:=λd H R=>c d H λx b=>∃a,x=.ref a/\(∃e,BJ K b a e)/\R (Xb K a) b
def lU(K:Am)(c:TE):TI:=λd H R=>c d H λx b=>∃a,x=.ref a/\(∃e,B0 K b a e)/\R (Xc K a) b
theorem Xd{l:Expr}{g:TE}(i:PE X l g):PI X tg l (lT X.K g):=by
 intro c s j H R A h;refine AV (i c s j H _ A h) λv d k=>?_;obtain⟨x,m,f,n,a,e,⟨w,r⟩,q⟩:=k;subst e;cases n;obtain⟨t,y,p,z⟩:=f.list r;refine O8 p.isList ?_;refine#[d.heap.objs.size,[d.heap.objs.size],_,_,m,rfl,f.kept (t':=d.toks) λb o e=>Bn _ e,lP a _,#[_,B2 _ rfl,rfl,rfl],λb u=>?_,q];have e:b=d.heap.objs.size:=by simpa using u
 subst e;exact f.fpOk (Bc _)<|f.hok.fresh<|Bc _
theorem lV{l:Expr}{i:TE}(j:PE X l i):PI X tg l (lU X.K i):=by
 intro c s k H R A h;refine AV (j c s k H _ A h) λv d m=>?_;obtain⟨x,n,f,r,a,e,⟨w,t⟩,q⟩:=m;subst e;cases r;obtain⟨g,y,p,z⟩:=f.tuple t;refine wpAny_pyIter_tuple (show d.heap.IsTuple a g.toArray from p) ?_;refine#[d.heap.objs.size,[d.heap.objs.size],_,_,n,rfl,f.kept (t':=d.toks) λb o e=>Bn _ e,lQ a _,#[_,B2 _ rfl,rfl,rfl],λb u=>?_,q];have e:b=d.heap.objs.size:=by simpa using u
 subst e;exact f.fpOk (Bc _)<|f.hok.fresh<|Bc _
theorem Xe{a:AR}{s:Ab}{R:It->Hp->Prop}{lo c:Int}{t u v:Tok}{d:Nat}(l:Inv X a I H s)(g : -(2^62)<=lo)(h:lo<2^62)(i : -(2^62)<=c)(j:c<2^62) (q:R (MU lo (c-lo).toNat) H):wpAny (Ag X.prog X.w) X.A (pyIter (.ref s.heap.objs.size)) (Xa X a I tg R) E {s with heap:=s.heap.push {cls:=.type "range",data:=.fields (T' [.int lo t,.int c u,.int 1 v])},toks:=d}:=by
 refine wpAny_pyIter_range (IsRange.new ..) (small_one g h i j) ?_;have f:Inv X a I H {s with heap:=s.heap.push {cls:=.type "range",data:=.fields (T' [.int lo t,.int c u,.int 1 v])},toks:=d}:=l.kept λb o e=>Bn _ e;refine#[(s.heap.push {cls:=.type "range",data:=.fields (T' [.int lo t,.int c u,.int 1 v])}).objs.size,[(s.heap.push {cls:=.type "range",data:=.fields (T' [.int lo t,.int c u,.int 1 v])}).objs.size],_,_,H,rfl,
  f.kept (t':=d) λb o e=>Bn _ e,lR _ lo (c-lo).toNat,?_,λb k=>?_,q]
 ·rw[show lo+((0:Nat):Int)*1=lo by simp,show(((c-lo).toNat:Nat):Int)-((0:Nat):Int)=Builtin.Range.rangeSize lo c 1 by rw[rangeSize_one];split<;>lia];exact B2 _ rfl
 ·have e:b=(s.heap.push {cls:=.type "range",data:=.fields (T' [.int lo t,.int c u,.int 1 v])}).objs.size:=by simpa using k
  subst e;exact f.fpOk (Bc _)<|f.hok.fresh<|Bc _
def lW(a:TA):TI:=λb H R=>a b H λc d=>∃j:Int,c=[.int j] /\ -(2^62)<=j/\j<2^62/\R (MU 0 j.toNat) d
def lX(a:TA):TI:=λb H R=>a b H λc d=>∃i j:Int,c=[.int i,.int j]/\(-(2^62)<=i/\i<2^62 /\ -(2^62)<=j/\j<2^62)/\R (MU i (j-i).toNat) d
theorem Xf{a:Expr}{d:TA}{p:AC}(e:Gl X "range")(f:X.mg "range"=J)(g:PA X [a] d)(i:Az [a] X.env=[(O',An a X.env)]:=by rfl):PI X tg (.Call (.Name "range" p) [a] [] pos) (lW d):=by
 intro b s k H R z h;refine Call_<|Hc z e f boot_range<|MW (AV (g pos b s k H _ z h) λv w l=>?_) i rfl;obtain⟨x,y,m,n,c⟩:=l;obtain⟨j,rfl,c,o,q⟩:=c;cases n with
 |cons r u=>
  cases u;obtain⟨t,rfl⟩:=r;exact call_range_1<|Xe m (Int.neg_ofNat_le_ofNat (2^62) 0) (W.kbt_pos 62) c o (by simpa using q)
theorem Xg{a b:Expr}{g:TA}{p:AC}(k:Gl X "range")(l:X.mg "range"=J)(m:PA X [a,b] g)(n:Az [a,b] X.env=[(O',An a X.env),(O',An b X.env)]:=by rfl)(c:Az [b] X.env=[(O',An b X.env)]:=by rfl):PI X tg (.Call (.Name "range" p) [a,b] [] pos) (lX g):=by
 intro d s o H R F h;refine Call_<|Hc F k l boot_range<|MW (AV (m pos d s o H _ F h) λA B u=>?_) (by rw[n,c]) (by rw[c];rfl);obtain⟨C,E,v,w,e⟩:=u;obtain⟨i,j,rfl,⟨e,x,q3,y⟩,q⟩:=e;cases w with
 |cons r f=>
  cases f with
  |cons z f=>
   cases f;obtain⟨t,rfl⟩:=r;obtain⟨G,rfl⟩:=z;exact call_range_2<|Xe v e x q3 y q
def Xh(wi:TI)(g:TG)(f:TS):TS:=λD a H=>wi a H λk h=>∃W:Nat->Nat->St->Hp->Prop,(∃m,W 0 m a h)/\∀i m a H,W i m a H ->
 (k.stop i H/\D.nx a H)\/(k.go i H/\∃N:St->Hp->Prop,(∀b c,N b c->∃e,e<m/\W (i+1) e b c)/\∀x c,k.yld i H x c->g x a c λd j=>f {D with nx:=N,ct:=N,bk:=D.nx} d j)
noncomputable def Kk(a:U Ac)(h:Ak):AR:=a.filterMap λb=>(h.get? b).map λo=>(b,o)
theorem O9{a:U Ac}{h:Ak}{b:Ac}{o:Obj}(c:b∈a)(e:h.get? b=Z o):(b,o)∈Kk a h:=List.mem_filterMap.mpr #[b,c,by rw[e];rfl]
theorem Xi{a:U Ac}{h:Ak}{p:Ac×Obj}(c:p∈Kk a h):p.1∈a/\h.get? p.1=Z p.2:=by
 obtain⟨b,d,e⟩:=List.mem_filterMap.mp c;obtain⟨o,q,e⟩:=BN.mp e;grind
theorem Inv.pinned{a:AR}{s:Ab}{c:U Ac}(l:Inv X a I H s)(d:∀b∈c,FJ X a H b)(h:∀b∈c,∃o,s.heap.get? b=Z o/\∀v,o.data≠.cell v):Inv X (a++Kk c s.heap) I H s:=l.pins_of λp f=>(Cm.mp f).elim (λz=>l.pin p<|De _ z) λz=>by
  obtain⟨g,e⟩:=Xi z;obtain⟨i,j,k,_⟩:=d p.1 g;grind
theorem Inv.unpinned{a pl:AR}{s:Ab}(c:Inv X (a++pl) I H s):Inv X a I H s:=c.pins_of λp b=>c.pin p<|De _<|Gw _ b
theorem Xj{z:U Av}{g:TG}{tb:TS}(E:PassesOwn (Ag X.prog X.w) X.A X.env X.xe)(hc:X.calm=J')(hi:PI X tg iter wi)(hg:PG X tg g)(j:EI X z tb) (hs:∀x,E2 iter X.env x=Ay x:=by intro _;rfl):PS X (.For tg iter z [] pos) (Xh wi g tb):=by
 intro a s I H D R h;refine wpAny_For (AV (hi a s I H _ R h) λv s1 h1=>AV h1 λitv s2 h2=>?_) hs;obtain⟨it,G,tn,F,H2,e,I2,T,Q,f2,W,⟨m0,w0⟩,turn⟩:=h2;subst e;have k:∀{y:Hp},(∀b∈G,y b=J)->∀b∈G,FJ X a y b:=λhn b j=>#[hn b j,(f2 b j).2];refine codeAny_forLoop_any (λn s'=>∃i l y,Inv X a l y s'/\tn i s'.heap/\(∀b∈G,y b=J)/\W i n l y) ?_ m0 #[0,I,H2,I2,Q,λb j=>(f2 b j).1,w0];rintro n s3 ⟨i,p,K,I3,L,M,w3⟩;rcases turn i n p K w3 with⟨stop,qn⟩|⟨go,N,hN,step⟩
 ·refine Pa E<|AV (T.done X rfl rfl rfl hc i a s3 p K X.xe I3 (k M) L stop) λr s4 ⟨P,I4⟩=>?_;subst P;exact wpAny_execs_nil #[p,K,I4,qn]
 ·refine Pa E<|AV (T.item X rfl rfl rfl hc i a s3 p K X.xe I3 (k M) L go) λr s4 ⟨u,P,h4⟩=>?_;subst P;refine Pa E<|AV h4 λ_ s5 Y=>?_;obtain⟨x,H5,I5,r5,y5,C,fr5⟩:=Y;refine Pa E<|AV (hg _ s5 p H5 x u _ (I5.pinned (k fr5)<|T.obj _ _ C) r5<|step x H5 y5) λ_ s6 Y=>?_;obtain⟨σ6,H6,I6,q6⟩:=Y;refine Pa E<|AV (j _ s6 σ6 H6 _ I6 q6) λf s7 B=>?_;have again:∀{c:St} {q:Hp},Inv X (a++Kk G s5.heap) c q s7->N c q->∃m,m<n/\∃i l y,Inv X a l y s7/\tn i s7.heap/\(∀b∈G,y b=J)/\W i m l y:=λ{c q} t n7=>by
   obtain⟨m',hm,w7⟩:=hN c q n7;refine#[m',hm,i+1,c,q,t.unpinned,T.keep _ _ _ C λb j o e=>(t.pin (b,o)<|De _<|De _<|O9 j e).1,λb j=>?_,w7];obtain⟨o,e,d⟩:=T.obj _ _ C b j;exact(t.pin (b,o)<|De _<|De _<|O9 j e).2.1
  cases f with
  |next=>obtain⟨c,q,t,n7⟩:=B;exact again t n7
  |cont=>obtain⟨c,q,t,n7⟩:=B;exact again t n7
  |brk=>obtain⟨c,q,t,B⟩:=B;exact#[c,q,t.unpinned,B]
  |ret v=>obtain⟨x7,c,q,t,r7,B⟩:=B;exact#[x7,c,q,t.unpinned,r7,B]
end
abbrev R2:=V->V->Hp->VK->Prop
def BU(X:Cx)(f:Aa->Aa->Sem Aa)(r:R2):Prop:=
 ∀(a:AR) (s:Ab) (b:St) (H:Hp) (x y:V) (v u:Aa) (Q:VK),Inv X a b H s->RelV x v->RelV y u->r x y H Q ->
  wpAny (Ag X.prog X.w) X.A (f v u) (EP X a b Q) X.xe s
def Sa(X:Cx)(f:Aa->Sem Aa)(r:V->Hp->VK->Prop):Prop:=
 ∀(a:AR) (s:Ab) (b:St) (H:Hp) (x:V) (v:Aa) (Q:VK),Inv X a b H s->RelV x v->r x H Q ->
  wpAny (Ag X.prog X.w) X.A (f v) (EP X a b Q) X.xe s
def Eh(X:Cx)(f:Aa)(r:U V->Hp->VK->Prop):Prop:=
 ∀(a:AR) (s:Ab) (b:St) (H:Hp) (c:U V) (d:U Aa) (Q:VK),Inv X a b H s->Ao c d->r c H Q ->
  wpAny (Ag X.prog X.w) X.A (call f d) (EP X a b Q) X.xe s
def lY(X:Cx)(r:V->Hp->(Bool->Hp->Prop)->Prop):Prop:=
 ∀(a:AR) (s:Ab) (b:St) (H:Hp) (x:V) (v:Aa) (Q:Bool->Hp->Prop),Inv X a b H s->RelV x v->r x H Q ->
  wpAny (Ag X.prog X.w) X.A (truthy v) (TP X a b Q) X.xe s
def Kl(r:R2)(b c:TE):TE:=λa H Q=>b a H λx d=>c a d λy e=>r x y e Q
def lZ(r:V->Hp->VK->Prop)(a:TE):TE:=λb H Q=>a b H λx c=>r x c Q
def rI(C:Int->Int->Prop)(g:Int->Int->V):R2:=λx y H Q=>∃i j,x=.int i/\y=.int j/\C i j/\Q (g i j) H
def He(g:Int->Int->V):R2:=λx y H Q=>∃i j,x=.int i/\y=.int j/\Q (g i j) H
def rU(g:Int->V):V->Hp->VK->Prop:=λx H Q=>∃i,x=.int i/\Q (g i) H
section
variable{a b c:Expr}
theorem Sb(l:PE X a ta)(m:PE X b tb){c:AR}{s:Ab}{R:V->V->Hp->Prop}(C:Inv X c I H s)
  (h:ta I H λx j=>tb I j λy d=>R x y d) {Q:AI} {f:Aa->Aa->Sem Aa}
  (n:∀v u i x y d,Inv X c I d i->RelV x v->RelV y u->R x y d->wpAny (Ag X.prog X.w) X.A (f v u) Q X.xe i):
  wpAny (Ag X.prog X.w) X.A (An a X.env) (λv e=>wpAny (Ag X.prog X.w) X.A (An b X.env) (λu g=>wpAny (Ag X.prog X.w) X.A (f v u) Q X.xe g) X.xe e) X.xe s:=by
 refine AV (l c s I H _ C h) λv o k=>?_
 obtain⟨x,j,p,q,r⟩:=k
 refine AV (m c o I j _ p r) λu i k=>?_
 obtain⟨y,d,t,z,B⟩:=k
 exact n v u i x y d t q z B
theorem l3{op:Operator}{r:R2}(d:BU X (FL op) r)(e:PE X a ta)(f:PE X b tb):PE X (.BinOp a op b pos) (Kl r ta tb):=by
 intro c s g H Q n h;exact wpAny_BinOp<|Sb e f n h λv u i x y j k l m q=>d c i g j x y v u Q k l m q
theorem l5{op:UnaryOp}{r:V->Hp->VK->Prop}(d:Sa X (unaryOp op) r)(e:PE X a ta):PE X (.UnaryOp op a pos) (lZ r ta):=by
 intro b s c H Q l h;exact UnaryOp_<|AV (e b s c H _ l h) λv f ⟨x,g,i,j,k⟩=>d b f c g x v Q i j k
theorem Pb{f:Aa->Aa->Sem Aa}{C:Int->Int->Prop}{g:Int->Int->Int} (rule:∀(i j:Int) (t u:Tok) (s:Ab) (Q:AI) (E:AI),C i j->Q (.int (g i j) s.toks) {s with toks:=s.toks+1}->wpAny (Ag X.prog X.w) X.A (f (.int i t) (.int j u)) Q E s):BU X f (rI C λi j=>.int (g i j)):=by
 rintro a s h H x y v u Q k b c ⟨i,j,rfl,rfl,d,q⟩;obtain⟨t,rfl⟩:=b;obtain⟨e,rfl⟩:=c;exact rule i j t e s _ _ d #[.int<|g i j,H,k.tok _,⟨_,rfl⟩,q]
theorem Xk{f:Aa->Aa->Sem Aa}{g:Int->Int->Int} (rule:∀(i j:Int) (t u:Tok) (s:Ab) (Q:AI) (E:AI),Q (.int (g i j) s.toks) {s with toks:=s.toks+1}->wpAny (Ag X.prog X.w) X.A (f (.int i t) (.int j u)) Q E s):BU X f (He λi j=>.int (g i j)):=by
 rintro a s e H x y v u Q h b c ⟨i,j,rfl,rfl,q⟩;obtain⟨t,rfl⟩:=b;obtain⟨d,rfl⟩:=c;exact rule i j t d s _ _ #[.int<|g i j,H,h.tok _,⟨_,rfl⟩,q]
theorem Sc{f:Aa->Aa->Sem Aa}{g:Int->Int->Bool} (rule:∀(i j:Int) (t u:Tok) (s:Ab) (Q:AI) (E:AI),Q (.bool (g i j)) s->wpAny (Ag X.prog X.w) X.A (f (.int i t) (.int j u)) Q E s):BU X f (He λi j=>.bl (g i j)):=by
 rintro a s e H x y v u Q h b c ⟨i,j,rfl,rfl,q⟩;obtain⟨t,rfl⟩:=b;obtain⟨d,rfl⟩:=c;exact rule i j t d s _ _ #[.bl<|g i j,H,h,rfl,q]
def MY(i j:Int):Prop:=0<j/\j<1073741824
def Lu(i j:Int):Prop:=0<=j/\j<=1000000/\i.natAbs<2^64
def DN(i j:Int):Prop:=(-(2^64)<i/\i<2^64)\/(-(2^64)<j/\j<2^64)
theorem DN.ok{i j:Int}(h:DN i j):IntMulOk i j:=by
 rcases h with⟨a,b⟩|⟨a,b⟩
 ·exact .of_left<|intBits_le_64 a b
 ·exact .of_right<|intBits_le_64 a b
theorem Km:BU X (FL .Add) (He λi j=>.int (i+j)):=Xk λ_ _ _ _ _ _ _ q=>add_int q
theorem l6:BU X (FL .Sub) (He λi j=>.int (i-j)):=Xk λ_ _ _ _ _ _ _ q=>sub_int q
theorem l7:BU X (FL .Mult) (rI DN λi j=>.int (i*j)):=Pb λ_ _ _ _ _ _ _ a q=>mul_int q a.ok
theorem l8:BU X (FL .FloorDiv) (rI MY λi j=>.int (i/j)):=Pb λi j _ _ _ _ _ a q=>by
 have b:(0:Int)<j:=a.1;have c:j<1073741824:=a.2;exact floordiv_int (Bv<|Int.ne_of_lt b) (Int.fdiv_eq_ediv_of_nonneg i (Int.le_of_lt b) ▸ q)<|.inl<|PyProof.noPylong_small (by lia)
theorem l9:BU X (FL .Mod) (rI (λ_ j=>0<j) λi j=>.int (i%j)):=Pb λi j _ _ _ _ _ a q=>by
 exact mod_int' (by lia) (by rw[Int.fmod_eq_emod_of_nonneg i (by lia)];exact q)
theorem ma:BU X (FL .Pow) (rI Lu λi j=>.int (i^j.toNat)):=Pb λ_ _ _ _ _ _ _ a q=>pow_int_small a.1 a.2.1 a.2.2 q
theorem mf{f:Aa->Sem Aa}{g:Int->Int} (rule:∀(i:Int) (t:Tok) (s:Ab) (Q:AI) (E:AI),Q (.int (g i) s.toks) {s with toks:=s.toks+1}->wpAny (Ag X.prog X.w) X.A (f (.int i t)) Q E s):Sa X f (rU λi=>.int (g i)):=by
 rintro a s c H x v Q d b ⟨i,rfl,q⟩;obtain⟨t,rfl⟩:=b;exact rule i t s _ _ #[.int<|g i,H,d.tok _,⟨_,rfl⟩,q]
theorem mj:Sa X (unaryOp .USub) (rU λi=>.int (-i)):=mf λ_ _ _ _ _ q=>neg_int q
end
section
variable{a b c:Expr}{tc:TE}
theorem Xl{a:AR}{s:Ab}{Q:VK}{k k':Bool}(b:Inv X a I H s)(q:Q (.bl k) H)(e:k=k'):EP X a I Q (.bool k') s:=by
 subst e;exact#[.bl k,H,b,rfl,q]
theorem Sd:BU X (Dd .LtE) (He λi j=>.bl (decide (i<=j))):=Sc λ_ _ _ _ _ _ _ q=>le_int q
theorem Xm:BU X (Dd .Gt) (He λi j=>.bl (decide (j<i))):=Sc λ_ _ _ _ _ _ _ q=>gt_int q
theorem mk:BU X (Dd .GtE) (He λi j=>.bl (decide (j<=i))):=Sc λ_ _ _ _ _ _ _ q=>ge_int q
theorem ml:BU X (Dd .In) (λx y H Q=>∃i j,x=.str i/\y=.str j/\Q (.bl (!(MZ j i 0 j.length 1).isEmpty)) H):=by
 rintro a s d H x y v u Q f b c ⟨i,j,rfl,rfl,q⟩;obtain⟨t,rfl⟩:=b;obtain⟨e,rfl⟩:=c;exact in_str<|Xl f q rfl
theorem mm:BU X (Dd .NotIn) (λx y H Q=>∃i j,x=.str i/\y=.str j/\Q (.bl (!(!(MZ j i 0 j.length 1).isEmpty))) H):=by
 rintro a s d H x y v u Q f b c ⟨i,j,rfl,rfl,q⟩;obtain⟨t,rfl⟩:=b;obtain⟨e,rfl⟩:=c;exact notIn_str<|Xl f q rfl
theorem BU.or{f:Aa->Aa->Sem Aa}{r b:R2}(h:BU X f r)(h':BU X f b):BU X f (λx y H Q=>r x y H Q\/b x y H Q):=by
 intro a s c H x y v u Q g d e q;rcases q with q|q
 ·exact h a s c H x y v u Q g d e q
 ·exact h' a s c H x y v u Q g d e q
theorem Xn{op:CmpOp}{r:R2}(d:BU X (Dd op) r)(e:PE X a ta)(f:PE X b tb)(g:F7 op b=O'):PE X (.Compare a [op] [b] pos) (Kl r ta tb):=by
 intro c s i H Q o h;exact wpAny_Compare1 (Sb e f o h λv u j x y k l m n q=>d c j i k x y v u Q l m n q) g
def mo(t:TE):TT:=λa H Q=>t a H λx b=>∃k,x=.bl k/\Q k b
theorem Se{op:CmpOp}{r:R2}(g:BU X (Dd op) r)(i:PE X a ta)(j:PE X b tb)(l:F7 op b=O'):PT X (.Compare a [op] [b] pos) (mo (Kl r ta tb)):=by
 intro d s f H Q K h;refine wpAny_isTrue_Compare1 (AV (i d s f H _ K h) λv m ⟨x,n,o,p,q⟩=>AV (j d m f n _ o q) λu t ⟨y,w,A,B,C⟩=>
  AV (g d t f w x y v u _ A p B C) λc L ⟨z,E,G,F,k,e,q3⟩=>?_) l
 subst e;cases F;exact HK #[E,G,q3]
def Xo(r c:R2)(ta tb tc:TE):TE:=λa H Q=>ta a H λx d=>tb a d λy e=>r x y e λz b=>∃k,z=.bl k /\
 (if k=J' then tc a b λf g=>c y f g Q else Q (.bl O') b)
theorem mq{op g:CmpOp}{r l:R2}(p:BU X (Dd op) r)(j:BU X (Dd g) l)(q:PE X a ta)(t:PE X b tb)(w:PE X c tc) (A:lastMarks [op,g] [b,c]=O':=by with_unfolding_all rfl):PE X (.Compare a [op,g] [b,c] pos) (Xo r l ta tb tc):=by
 intro f s i H Q R h;refine Compare_chain (AV (q f s i H _ R h) λv B ⟨x,C,E,G,F⟩=>chain_link (AV (t f B i C _ E F) λu L ⟨y,M,N,m,K⟩=>
  AV (p f L i M x y v u _ N G m K) λd T ⟨z,n,o,P,k,e,q3⟩=>?_)) A
 subst e;cases P;refine HK ?_;cases k with
 |false=>exact ite_ff #[.bl O',n,o,rfl,q3]
 |true=>exact ite_tt<|chain_last<|AV (w f T i n _ o q3) λY s4 ⟨z',H4,I4,r4,q4⟩=>j f s4 i H4 y z' u Y Q I4 m r4 q4
def Xp(K:Am)(x:V)(H:Hp)(k:Bool):Prop:=
 match x with
 |.non=>k=O'
 |.bl b=>k=b
 |.int i=>k=(i != 0)
 |.str y=>y.length<=Ax/\k=((y.length:Int) != 0)
 |.ref p=>(∃a,BJ K H p a/\k=!a.isEmpty)\/(∃a,B0 K H p a/\k=!a.isEmpty)
 |_=>False
theorem Xq{xs:U V}{a:U Aa}(r:Ao xs a):(!a.toArray.isEmpty)=!xs.isEmpty:=by
 cases r<;>simp
theorem M0:(Ax:Nat)<2^63:=by rw[IT];decide
theorem mr:lY X (λx H Q=>∃k,Xp X.K x H k/\Q k H):=by
 rintro h s m H x v Q u a ⟨k,e,q⟩;have n:=M0;cases x with
 |non=>
  cases a;subst e;exact truthy_none #[H,u,q]
 |bl b=>
  cases a;have e:k=b:=e;subst e;exact HK #[H,u,q]
 |int i=>
  obtain⟨t,rfl⟩:=a;subst e;exact PySem.P.truthy_int #[H,u,q]
 |str y=>
  obtain⟨t,rfl⟩:=a;obtain⟨o,e⟩:y.length<=Ax/\k=((y.length:Int) != 0):=e;subst e;exact PySem.P.truthy_str (by lia) #[H,u.tok _,q]
 |ref p=>
  cases a;rcases e with⟨j,d,e⟩|⟨j,d,e⟩
  ·subst e;obtain⟨f,r,g,l⟩:=u.list d;have c:=r.length;exact wpAny_truthy_list g.isList (by erw[BV];lia) #[H,u.tok _,Xq r ▸ q]
  ·subst e;obtain⟨f,r,g,l⟩:=u.tuple d;have c:=r.length;exact truthy_tuple g (by erw[BV];lia) #[H,u.tok _,Xq r ▸ q]
 |_=>exact(show False from e).elim
theorem ms(d:PE X a ta)(e:∀b,isTrue a X.env b=(do let v <- b;standAt a.pos;Dw [v] (truthy v))):PT X a (λI H Q=>ta I H λx H'=>∃k,Xp X.K x H' k/\Q k H'):=by
 intro c s I H Q m h;exact isTrue_plain (AV (d c s I H _ m h) λv f ⟨x,g,i,j,l⟩=>mr c f I g x v Q i j l) (e _)
theorem E3:BU X (FL .Add) (λx y H Q=>∃i j,x=.str i/\y=.str j/\i.length+j.length<=Ax/\Q (.str (i++j)) H):=by
 rintro a s f H x y v u Q h b c ⟨i,j,rfl,rfl,d,q⟩;obtain⟨t,rfl⟩:=b;obtain⟨e,rfl⟩:=c;exact add_str (λe g=>#[.str<|i++j,H,h.tok _,⟨_,rfl⟩,q]) d
theorem E4{x:V}{us:U Aa}(r:Ao [x] us):∃u,us=[u]/\RelV x u:=by
 cases r with
 |cons a b=>cases b;exact#[_,rfl,a]
theorem M1{x y:V}{us:U Aa}(r:Ao [x,y] us):∃u a,us=[u,a]/\RelV x u/\RelV y a:=by
 cases r with
 |cons b c=>
  cases c with
  |cons d e=>cases e;exact#[_,_,rfl,b,d]
theorem mu(c:X.calm=J'):Eh X (.builtin "max") (λxs H Q=>∃i j,xs=[.int i,.int j]/\Q (.int (if j>i then j else i)) H):=by
 rintro b s d H xs e Q m r ⟨i,j,rfl,q⟩;obtain⟨u,f,rfl,⟨t,rfl⟩,⟨g,rfl⟩⟩:=M1 r;refine max_two_ints (m.ok.hd c) λh l k=>#[_,H,m.kept k,?_,q];by_cases a:j>i
 ·rw[if_pos a,if_pos a];exact#[_,rfl]
 ·rw[if_neg a,if_neg a];exact#[_,rfl]
theorem mv(c:X.calm=J'):Eh X (.builtin "min") (λxs H Q=>∃i j,xs=[.int i,.int j]/\Q (.int (if j<i then j else i)) H):=by
 rintro b s d H xs e Q m r ⟨i,j,rfl,q⟩;obtain⟨u,f,rfl,⟨t,rfl⟩,⟨g,rfl⟩⟩:=M1 r;refine min_two_ints (m.ok.hd c) λh l k=>#[_,H,m.kept k,?_,q];by_cases a:j<i
 ·rw[if_pos a,if_pos a];exact#[_,rfl]
 ·rw[if_neg a,if_neg a];exact#[_,rfl]
theorem mw:Eh X (.type "int") (λxs H Q=>(∃i,xs=[.int i]/\Q (.int i) H)\/∃k,xs=[.bl k]/\Q (.int (if k then 1 else 0)) H):=by
 intro a s c H xs d Q e r h;rcases h with⟨i,rfl,q⟩|⟨k,rfl,q⟩
 ·obtain⟨u,rfl,t,rfl⟩:=E4 r;exact call_int_int #[.int i,H,e,#[_,rfl],q]
 ·obtain⟨u,rfl,b⟩:=E4 r;cases b;exact call_int_bool #[.int<|if k then 1 else 0,H,e.tok _,⟨_,rfl⟩,q]
def Xr(K:Am)(x:V)(H:Hp)(n:Nat):Prop:=
 match x with
 |.str y=>y.length<=Ax/\n=y.length
 |.ref p=>(∃a,BJ K H p a/\n=a.length)\/∃a,B0 K H p a/\n=a.length
 |_=>False
theorem Xs:Eh X (.builtin "len") (λxs H Q=>∃x n,xs=[x]/\Xr X.K x H n/\Q (.int n) H):=by
 rintro g s j H xs k Q o r ⟨x,n,rfl,e,q⟩;obtain⟨u,rfl,h⟩:=E4 r;have l:Ax=16777216:=IT;cases x with
 |str y=>
  obtain⟨t,rfl⟩:=h;obtain⟨m,rfl⟩:y.length<=Ax/\n=y.length:=e;exact len_str (by lia) #[.int _,H,o.tok _,#[_,rfl],q]
 |ref p=>
  cases h;rcases e with⟨xs,b,e⟩|⟨xs,b,e⟩
  ·subst e;obtain⟨c,d,f,i⟩:=o.list b;have a:=d.length;exact Calls.call_len_list f.isList (by erw[BV];lia) #[.int xs.length,H,o.tok _,#[_,by erw[BV];rw[a]],q]
  ·subst e;obtain⟨c,d,f,i⟩:=o.tuple b;have a:=d.length;exact len_tuple f (by erw[BV];lia) #[.int xs.length,H,o.tok _,#[_,by erw[BV];rw[a]],q]
 |_=>exact(show False from e).elim
end
structure E5(h:Ak)(x dx C:Ac)(mA:Bi):Prop where
 obj:h.get? x=Z (Kf C dx)
 ns:h.Ns1 dx mA
 ne:dx≠x
set_option tactic.hygienic true in
theorem my{h:Ak}{c:Ac}{d:Bi}(n:h.Ns1 c d):∃f,h.get? c=Z f/\∀name,PySem.W.lookIn name f=Z (d name):=by
 obtain⟨o,g,m,i,hd,j,_,k⟩:=n;refine#[o,i,λname=>?_];have e:=k name;unfold nsFind findBy at e;rw[<- Array.find?_toList]at e;unfold PySem.W.lookIn;rw[hd];dsimp only;split
 ·rename_i y q;rw[q]at e;exact congrArg Z e
 ·rename_i q;rw[q]at e;have a:g.toList.any (·.refKey)=O':=by
   rw[List.any_eq_false];intro y l;obtain⟨z,t,b⟩:=j y<|Array.mem_toList_iff.mp l;simp[DictEntry.refKey,b]
  rw[if_neg (show ¬ g.toList.any (·.refKey)=J' by rw[a];exact MO)];exact congrArg Z e
theorem E5.look{h:Ak}{x b:Ac}{c:Bi}(f:E5 h x b C c):∃a,PySem.W.InstAt h x (Kf C b) C (Z a)/\∀name,PySem.W.lookIn name a=Z (c name):=let⟨a,d,e⟩:=my f.ns
 #[a,#[f.obj,rfl,rfl,d],e]
section
variable{prog:AJ}{w:Ai}{A:Ah}{s:Ab}{K:Am}{x dx f:Ac}{mA:Bi}{name:Ae}{v:Aa}
theorem mz{a:Bool}{Q:AI}(X:K.In s.heap)(k:E5 s.heap x dx C mA)(c:PySem.W.plainGet K C name=J')(d:PySem.W.hasDictIn K C=J')
  (e:IU K (.ref C) name=Z J) (f:mA name=Z v) (b:PySem.W.handedIn v=J') (h:Q v {s with toks:=s.toks+1}):
  wpAny (Ag prog w) A (getAttr (.ref x) name a) Q E s:=by
 obtain⟨i,j,g⟩:=k.look
 exact PySem.W.get_value X j (PySem.W.plainGet_of c).1 (PySem.W.findObj_own d e rfl (by rw[g,f])) b h
theorem mB{Q:Aa×U Aa->Ab->Prop}(X:K.In s.heap)(j:E5 s.heap x dx C mA)(a:PySem.W.plainGet K C name=J')
  (b:IU K (.ref C) name=Z (Z (.ref f))) (c:PySem.W.isFn K (.ref f)=J') (d:mA name=J) (h:Q (.ref f,[.ref x]) s):
  wpAny (Ag prog w) A (getMethod (.ref x) name pl) Q E s:=by
 obtain⟨e,i,g⟩:=j.look
 exact PySem.W.method_fn X i (PySem.W.plainGet_of a).1 (PySem.W.plainGet_of a).2 b (beq_iff_eq.mp c) (by show(PySem.W.lookIn name e).map (·.isSome)=Z O';rw[g,d];rfl) h
theorem mC{ns:U Ae}(X:K.In s.heap)(G:E5 s.heap x dx C mA)
  (j:IU K (.ref C) "__setattr__"=Z (Z (.builtin "object.__setattr__"))) (k:PySem.W.plainOver K C=J') (l:PySem.W.takerIn K C name=Z J) (m:PySem.W.hasDictIn K C=J')
  (n:PySem.Within mA ns) (hsz:ns.length<=Ax)
  (h:∀h',E5 h' x dx C (λy=>if y=name then Z v else mA y)->DZ dx s.heap h'->Q () {s with heap:=h',toks:=s.toks+2}):
  wpAny (Ag prog w) A (setAttr (.ref x) name v) Q E s:=by
 obtain⟨t,F,u⟩:=G.look
 refine PySem.W.set_plain X F j (PySem.W.osa_open (s:={s with toks:=s.toks+1}) (r:=J) X F k l λb=>?_)
 obtain⟨z,o,e⟩:=PySem.W.any_some m
 refine Al (AQ (Al (Al (wpAny_loadPart G.obj (Al (PySem.W.Looks.here (s:={s with toks:=s.toks+1}) (PySem.W.looks_clsIn X o) ?_))))))
 rw[e]
 refine AQ (a:=Z dx) (Al (AQ (Al ?_)))
 refine wpAny_nsSet1 (s:={s with toks:=s.toks+1}) G.ns λh' c d=>?_
 obtain⟨B,p,q,f,g,i⟩:=c.count (PySem.Within.cons name v n)
 exact Al (wpAny_lookBehind f (g ▸ pastItsLine_dict (BR i (CT ▸ Nat.add_le_add_right hsz 1))) (AQ (h _ #[(d.2 _ (Bv G.ne)).trans G.obj,c,G.ne] d)))
theorem mD{vs:U Aa}{a:U (Ae×Aa)}(X:K.In s.heap)(b:PySem.W.makesIn K C=J') (c:IU K (.ref C) "__init__"=Z (Z (.ref f))) (e:PySem.W.typeIn K (.ref f)=Z (.type "function")) (h:codeAny (Ag prog w) (A.under (.builtin "type.__call__" #[.ref C::vs,a])) (.call (.ref f) #[.ref (s.heap.objs.size+1)::vs,a]) (PySem.W.InitBack (s.heap.objs.size+1) R) {s with heap:=(s.heap.push M2).push (Kf C s.heap.objs.size)}):codeAny (Ag prog w) A (.call (.ref C) #[vs,a]) R s:=by
 obtain⟨i,g,d,t,os⟩:=s;exact PySem.W.make_core (PySem.W.makes_of X b) (PySem.W.looks_findIn X c) (λself=>PySem.W.bind_fn X self e) (.inl rfl) h
end
noncomputable def EJ(f:Ae)(v:V):U (Ae×V)->U (Ae×V)
 |[]=>[(f,v)]
 |(g,x)::r=>if g=f then(g,v)::r else(g,x)::EJ f v r
theorem Xt(f g:Ae)(v:V):∀fs:U (Ae×V),(EJ f v fs).lookup g=if g=f then Z v else fs.lookup g
 |[]=>by
  show List.lookup g [(f,v)]=_
  grind
 |(k,x)::r=>by
  have a:=Xt f g v r;grind [EJ]
theorem Sf(f:Ae)(v:V):∀fs:U (Ae×V),f∈(EJ f v fs).map (·.1)/\∀g,g∈fs.map (·.1)->g∈(EJ f v fs).map (·.1)
 |[]=>#[by simp[EJ],λg h=>by simp at h]
 |(k,x)::r=>by
  obtain⟨i1,i2⟩:=Sf f v r;grind [EJ]
theorem Xu(f:Ae)(v:V):∀fs:U (Ae×V),(EJ f v fs).length<=fs.length+1
 |[]=>by simp[EJ]
 |(k,x)::r=>by
  have a:=Xu f v r;grind [EJ]
theorem Ck.some_of{v:V}{o:O Aa}(r:Ck (Z v) o):∃u,o=Z u/\RelV v u:=by
 cases o with
 |none=>exact(show False from r).elim
 |some u=>exact#[u,rfl,r]
theorem Ck.none_of{o:O Aa}(r:Ck J o):o=J:=by
 cases o with
 |none=>rfl
 |some u=>exact(show False from r).elim
theorem mE{v:V}(r:RelV v u):PySem.W.handedIn u=J':=by
 cases v with
 |non=>cases(show u=Gs from r);rfl
 |bl b=>cases(show u=Value.bool b from r);rfl
 |int i=>obtain⟨t,e⟩:=(show ∃t,u=Value.int i t from r);cases e;rfl
 |str x=>obtain⟨t,e⟩:=(show ∃t,u=Value.str x t from r);cases e;rfl
 |ref a=>cases(show u=B8 a from r);rfl
 |ty n=>cases(show u=Value.type n from r);rfl
section
variable{P:AJ}{w:Ai}{h:Ak}{dx:Ac}{fs:U (Ae×V)}
theorem Sg(hok:B9 P w H h)(e:Rd H a (.ins C dx fs)):∃b,E5 h a dx C b/\(∀f,Ck (fs.lookup f) (b f))/\PySem.Within b (fs.map (·.1))/\fs.length<=1000/\H dx=Z (.own a):=by
 obtain⟨d,z,ne,ob,b,n,r,q⟩:=(show AY P w H h a (.ins C dx fs)from e.ok hok);exact#[b,#[ob,n,ne],r,q,z,d]
end
structure Ei(K:Am)(C:Ac):Prop where
 pg:PySem.W.plainGet K C Str.empty=J'
 hd:PySem.W.hasDictIn K C=J'
 po:PySem.W.plainOver K C=J'
 sa:IU K (.ref C) "__setattr__"=Z (Z (.builtin "object.__setattr__"))
theorem Ei.get{K:Am}(c:Ei K C)(f:Ae):PySem.W.plainGet K C f=J':=c.pg
def Bw(K:Am)(C:Ac)(f:Ae):Prop:=IU K (.ref C) f=Z J
theorem Bw.taker{K:Am}{f:Ae}(n:Bw K C f):PySem.W.takerIn K C f=Z J:=by
 unfold PySem.W.takerIn;rw[show IU K (.ref C) f=Z J from n];rfl
structure HM(K:Am)(C:Ac)(m:Ae)(f:Ac):Prop where
 at_:IU K (.ref C) m=Z (Z (.ref f))
 fn:PySem.W.isFn K (.ref f)=J'
 kp:HN K (.ref f)=J'
section
variable{s:Ab}{dx:Ac}{fs:U (Ae×V)}{f:Ae}{v:V}{A:Ah}
theorem mF{b:Bool}{Q:AI}(k:Inv X pins I H s)(e:Rd H a (.ins C dx fs))(c:Ei X.K C)(n:Bw X.K C f)(l:fs.lookup f=Z v) (h:∀u s',Inv X pins I H s'->RelV v u->Q u s'):wpAny (Ag X.prog X.w) A (getAttr (.ref a) f b) Q E s:=by
 obtain⟨g,j,r,_,_,_⟩:=Sg k.hok e;obtain⟨u,i,d⟩:=Ck.some_of (v:=v) (o:=g f) (l ▸ r f);exact mz k.kIn j (c.get f) c.hd n i (mE d)<|h u _ (k.tok _) d
theorem Pc{m:Ae}{g:Ac}{Q:Aa×U Aa->Ab->Prop}(f:Inv X pins I H s)(e:Rd H a (.ins C dx fs))(c:Ei X.K C)(k:HM X.K C m g)(l:fs.lookup m=J) (h:Q (.ref g,[.ref a]) s):wpAny (Ag X.prog X.w) A (getMethod (.ref a) m pl) Q E s:=by
 obtain⟨b,d,r,_,_,_⟩:=Sg f.hok e;exact mB f.kIn d (c.get m) k.at_ k.fn (show b m=J by grind [Ck.none_of]) h
theorem mG{y:V}(L:Inv X pins I H s)(e:H a=Z (.ins C dx fs))(c:Ei X.K C)(n:Bw X.K C f)(G:fs.length<1000)(l:RelV y u) (h:∀s',Inv X pins I (AK H a (.ins C dx (EJ f y fs))) s'->Q () s'):wpAny (Ag X.prog X.w) A (setAttr (.ref a) f u) Q E s:=by
 obtain⟨i,F,r,j,_,k⟩:=Sg L.hok<|.inl e;refine mC L.kIn F c.sa c.po n.taker c.hd j (show(fs.map (·.1)).length<=Ax by rw[A9,IT];lia) λm d p=>h _ ?_;have hd:∃o,m.get? dx=Z o:=let⟨o,_,_,t,_⟩:=d.ns;#[o,t];refine L.write (x:=a) (e:=dx) (e ▸ Hf) (.inr k) (λb q v z=>(p.2 b v).trans z) hd ?_;refine#[Zn F.ne ▸ k,?_,F.ne,d.obj,_,d.ns,λg=>?_,λg B=>?_]
 ·have:=Xu f y fs;lia
 ·show Ck ((EJ f y fs).lookup g)<|if g=f then Z u else i g
  rw[Xt];by_cases q:g=f
  ·rw[if_pos q,if_pos q];exact l
  ·rw[if_neg q,if_neg q];exact r g
 ·by_cases q:g=f
  ·rw[q];exact(Sf f y fs).1
  ·refine(Sf f y fs).2 g<|j g λz=>B ?_;show(if g=f then Z u else i g)=J
   rw[if_neg q];exact z
theorem Inv.made(d:Inv X pins I H s):Inv X pins I (AK (AK H s.heap.objs.size (.own (s.heap.objs.size+1))) (s.heap.objs.size+1) (.ins C s.heap.objs.size [])) {s with heap:=(s.heap.push M2).push (Kf C s.heap.objs.size)}:=by
 have c:((s.heap.push M2).push<|Kf C s.heap.objs.size).get? (s.heap.objs.size+1)=Z (Kf C s.heap.objs.size):=by
  have:=B2 (s.heap.push M2) (o:=Kf C s.heap.objs.size) rfl;simp_all
 refine(d.laid (a:=s.heap.objs.size) (o:=.own<|s.heap.objs.size+1) (h':=s.heap.push M2) (t':=s.toks) (λb u q=>Bn _ q) (Bc _) #[_,(B2 s.heap rfl)]).laid (a:=s.heap.objs.size+1) (o:=.ins C s.heap.objs.size []) (t':=s.toks) (λb u q=>Bn _ q) (Lv<|Lw _ _) ?_;refine⟨by rw[Zn<|Nat.ne_add_one s.heap.objs.size,ZZ],F8 _,(Nat.ne_add_one s.heap.objs.size),c,λ_=>J,(Heap.Ns1.of_empty ⟨M2,(T' []),_,(B2 s.heap rfl),rfl,(λe f=>absurd f (by simp)),λ_=>rfl⟩).at λo q=>Bn _ q,λ_=>Hf,λy g=>absurd rfl g⟩
theorem mH{prog:AJ}{w:Ai}{env:Env}{e:Expr}{f:Ae}{s:Ab}{Q:AI}(b:GA e f env (An e env)=An e env) (h:wpAny (Ag prog w) A (An e env) (λo a=>wpAny (Ag prog w) A (getAttr o f J') Q E a) E s):wpAny (Ag prog w) A (An (.Attribute e f pos) env) Q E s:=Attribute_any_ h (by rw[arm_eval_Attribute,b])
end
def mI(K:Am)(d:TE)(f:Ae):TE:=λe H Q=>d e H λx b=>∃a C g c v,x=.ref a/\Rd b a (.ins C g c)/\Ei K C/\Bw K C f/\c.lookup f=Z v/\Q v b
def mJ(K:Am)(g h:TE)(f:Ae):TS:=λD b H=>h b H λy i=>g b i λx d=>∃a C e c,x=.ref a/\d a=Z (.ins C e c)/\Ei K C/\Bw K C f/\c.length<1000 /\
 D.nx b (AK d a (.ins C e (EJ f y c)))
section
variable{e value:Expr}{f:Ae}{tv:TE}
theorem Xv(d:PE X e ta)(g:GA e f X.env (An e X.env)=An e X.env):PE X (.Attribute e f pos) (mI X.K ta f):=by
 intro b s i H Q E h;refine mH g<|AV (d b s i H _ E h) λu w j=>?_;obtain⟨x,k,m,o,a,C,y,z,v,rfl,p,c,n,l,q⟩:=j;obtain rfl:u=B8 a:=o;exact mF m p c n l λA B r t=>#[v,k,r,t,q]
theorem mK(e:PE X o ta)(g:PE X value tv)(i:DE value (Z (.Attribute o f pos')) pos.line X.env=Ay O'):PS X (.Assign [.Attribute o f pos'] value pos) (mJ X.K ta tv f):=by
 intro b s d H D N h;refine plainObj_wpAny_Assign_Attribute (AV (g b s d H _ N h) λu j ⟨y,k,m,p,q⟩=>AV (e b j d k _ m q) λr E t=>?_) i;obtain⟨x,G,v,w,a,C,F,L,rfl,z,c,n,l,A⟩:=t;obtain rfl:r=B8 a:=w;exact mG v z c n l p λM B=>#[d,_,B,A]
end
structure AE(k:Nat)(A:Ah):Prop where
 hd:A.handled=J
 dp:A.depth+3*k+5<recursionLimit
 un:A.units+16*k+200<Aq
theorem AE.mono{k:Nat}{A:Ah}(r:AE k A)(h:j<=k):AE j A:=#[r.hd,by have:=r.dp;lia,by have:=r.un;lia]
theorem AE.deeper{k:Nat}{A:Ah}(r:AE (k+1) A)(env:Env):AE k (A.deeper env):=#[r.hd,by have:=r.dp;show A.depth+1+3*k+5<_;lia,by have:=r.un;show A.units+3+16*k+200<_;lia]
theorem AE.in1{k:Nat}{A:Ah}(r:AE (k+1) A):AE k A.in1:=#[r.hd,by have:=r.dp;show A.depth+3*k+5<_;lia,by have:=r.un;show A.units+1+16*k+200<_;lia]
theorem mL{A:Ah}{us:U Aa}{a:U (Ae×Aa)}:(A.under (.builtin "type.__call__" #[.ref C::us,a])).depth=A.depth+1:=by
 rfl
theorem mM{A:Ah}{us:U Aa}{a:U (Ae×Aa)}:(A.under (.builtin "type.__call__" #[.ref C::us,a])).units=A.units+1:=by
 rfl
theorem AE.make{k:Nat}{A:Ah}(r:AE (k+1) A)(C:Ac)(us:U Aa)(a:U (Ae×Aa)):AE k (A.under (.builtin "type.__call__" #[.ref C::us,a])):=#[r.hd,by have:=r.dp;rw[mL];lia,by have:=r.un;rw[mM];lia]
theorem AE.depth{k:Nat}{A:Ah}(r:AE k A):A.depth<recursionLimit:=by have:=r.dp;lia
theorem AE.units{k:Nat}{A:Ah}(r:AE k A):A.units+64<Aq:=by have:=r.un;lia
def M3:TA:=λ_ H Q=>Q [] H
def Xw(b:TE)(tr:TA):TA:=λa H Q=>b a H λx c=>tr a c λd e=>Q (x::d) e
section
variable{e:Expr}{t:TA}
theorem Bk:PA X [] M3:=λ_ _ _ _ H Q a h=>Calls.spliced_nil #[[],H,a,.nil,h]
theorem Eu(c:PE X e te)(d:PA X es t)(f:Az (e::es) X.env=(O',An e X.env)::Az es X.env:=by rfl):PA X (e::es) (Xw te t):=by
 intro pos a s b H Q w h;rw[f];show wpAny _ _ (spliced<|(O',An e X.env)::As pos (Az es X.env)) _ _ s
 exact Calls.spliced_cons<|AV (c a s b H _ w h) λu g ⟨x,i,j,k,l⟩=>AV (d pos a g b i _ j l) λr v ⟨m,n,o,p,q⟩=>#[x::m,n,o,.cons k p,q]
def mO(t:TA):TE:=λc H Q=>t c H λa b=>a.length<=Ax/\∀p,b p=J->Q (.ref p) (AK b p (.tup a))
def mP(t:TA):TE:=λc H Q=>t c H λa b=>a.length<=Ax/\∀p,b p=J->Q (.ref p) (AK b p (.lst a))
theorem mQ {f} (h:PA X es t):PE X (.Tuple es f pos) (mO t):=by
 intro a s g H Q m i;refine wpAny_Tuple_spliced<|AV (h pos a s g H _ m i) λj c ⟨k,l,d,r,z,q⟩=>#[r.length ▸ z,?_];refine#[.ref c.heap.objs.size,AK l c.heap.objs.size<|.tup k,d.laid (t':=c.toks) (λb u e=>Bn _ e) (Bc _) ?_,rfl,q _<|d.hok.fresh<|Bc _];exact⟨z,j,r,⟨_,B2 _ rfl,rfl,_,rfl⟩⟩
theorem mR(h:PA X es t):PE X (.List es pos) (mP t):=by
 intro a s f H Q l g;refine wpAny_List_spliced<|AV (h pos a s f H _ l g) λi c ⟨j,k,d,r,z,q⟩=>#[r.length ▸ z,?_];refine#[.ref c.heap.objs.size,AK k c.heap.objs.size<|.lst j,d.laid (t':=c.toks) (λb u e=>Bn _ e) (Bc _) ?_,rfl,q _<|d.hok.fresh<|Bc _];exact⟨z,i,0,r,B2 _ rfl⟩
end
abbrev Sp:=U V->Hp->VK->XK->Prop
abbrev DF:=U Env->Hp->Ab->XK->AI
variable{CX:DF}
structure CU(P:AJ)(w:Ai)(K:Am)(mg:Bi)(base:Ak)(A:Ah)(outer:List Env)(s:Ab)(H:Hp):Prop where
 frames:A.frames=Z outer
 mod:Mod K mg base
 bs:∀b o,base.get? b=Z o->s.heap.get? b=Z o/\H b=J
 bsz:base.objs.size<=s.heap.objs.size
 funs:s.heap.FunFrames base outer
 frf:∀b∈Cg outer,H b=J
 hok:B9 P w H s.heap
 bare:AllBare s.gens
def CE(outer:U Env)(P:AJ)(w:Ai)(H:Hp)(s:Ab)(Q:VK)(u:Aa)(s':Ab):Prop:=
 ∃v a,s'.os=s.os/\AllBare s'.gens/\Un (Cg outer) [] H a s.heap s'.heap/\B9 P w a s'.heap/\RelV v u/\Q v a
def CR(CX:DF)(outer:U Env)(P:AJ)(w:Ai)(H:Hp)(s:Ab)(Q:VK)(E:XK)(r:Result)(s':Ab):Prop:=
 match r with
 |.ok (.ret u)=>CE outer P w H s Q u s'
 |.ok _=>False
 |.error e=>CX outer H s E e s'
structure AO(P:AJ)(w:Ai)(K:Am)(mg:Bi)(base:Ak)(CX:DF)(k:Nat)(f:Ac)(fd:B3)(ps:List Ae)(sp:Sp):Prop where
 len:∀vs H Q E,sp vs H Q E->vs.length=ps.length
 run:∀(A:Ah) (outer:List Env) (s:Ab) (H:Hp) (args:Args) (us:List Aa) (vs:List V) (Q:VK) (E:XK),AE k A->CU P w K mg base A outer s H->BindsTo s fd args (ps.zip us)->Ao vs us->sp vs H Q E ->
  codeAny (Ag P w) A (.call (.ref f) args) (CR CX outer P w H s Q E) s
theorem AO.imp{P:AJ}{w:Ai}{K:Am}{mg:Bi}{base:Ak}{k:Nat}{f:Ac}{fd:B3}{b:U Ae}{sp a:Sp}(F:AO P w K mg base CX k f fd b sp) (h:∀vs H Q E,a vs H Q E->sp vs H Q E):AO P w K mg base CX k f fd b a:=#[λvs H Q E q=>F.len vs H Q E<|h _ _ _ _ q,λA outer s H args c vs Q E d e g i j=>F.run A outer s H args c vs Q E d e g i<|h _ _ _ _ j]
theorem CU.make{P:AJ}{w:Ai}{K:Am}{mg:Bi}{base:Ak}{A:Ah}{outer:U Env}{s:Ab}(e:CU P w K mg base A outer s H)(C:Ac)(us:U Aa)(a:U (Ae×Aa)):CU P w K mg base (A.under (.builtin "type.__call__" #[.ref C::us,a])) outer s H:=#[by(simpa[Around.under,Code.envs,Code.isFrame,pushEnvs]using e.frames),e.mod,e.bs,e.bsz,e.funs,e.frf,e.hok,e.bare]
theorem CU.in1{P:AJ}{w:Ai}{K:Am}{mg:Bi}{base:Ak}{A:Ah}{outer:U Env}{s:Ab}(e:CU P w K mg base A outer s H):CU P w K mg base A.in1 outer s H:=#[e.frames,e.mod,e.bs,e.bsz,e.funs,e.frf,e.hok,e.bare]
section
variable{s:Ab}
theorem Inv.env0(a:Inv X pins I H s):CU X.prog X.w X.K X.mg X.base X.A X.stack s H:=#[a.ok.frames,a.ok.mod,a.bs,BR a.ok.bsz a.sz,a.stack,a.stkFree,a.hok,a.bare]
theorem Inv.after{Q:VK}(f:Inv X pins I H s)(h:CE X.stack X.prog X.w H s Q u s'):EP X pins I Q u s':=by
 obtain⟨v,c,os,bare,un,hok,r,q⟩:=h;obtain⟨e,g,d,t,a⟩:=s';obtain rfl:a=s.os:=os;exact#[v,c,f.call (h':=e) (g':=g) (d':=d) (t':=t) (ch:=[]) un hok bare (λb z=>absurd z (by simp)),r,q]
end
def Pd(sp:Sp)(a:U V)(E:XK)(t:TA):TE:=λb H Q=>t b H λc d=>sp (c++a) d Q E
def Kn(C:Ac)(m:Ae)(sp:Sp)(b:U V)(E:XK)(f:TE)(t:TA):TE:=λc H Q=>f c H λx d=>∃a g e,x=.ref a/\Rd d a (.ins C g e)/\e.lookup m=J /\
 t c d λh i=>sp (x::(h++b)) i Q E
def mS(C:Ac)(sp:Sp)(b:U V)(E:XK)(t:TA):TE:=λd H Q=>t d H λe c=>∀x a,c x=J->c a=J->x=a+1 ->
 sp (.ref x::(e++b)) (AK (AK c a (.own x)) x (.ins C a [])) (λv f=>v=.non/\Q (.ref x) f) E
def Binds(K:Am)(fd:B3)(b:U Ae)(c:U Aa):Prop:=
 ∀(s:Ab) (a:U Aa),K.In s.heap->(a++c).length=b.length->BindsTo s fd #[a,[]] (b.zip (a++c))
theorem Binds.all{K:Am}{fd:B3}{a:U Ae}(h:∀us:U Aa,us.length=a.length->bindArgs fd #[us,[]]=Ay (a.zip us)):Binds K fd a []:=λs us _ b=>by
 rw[DO]at b ⊢;exact .of_eq<|h us b
def E6(CX:DF)(X:Cx)(E:XK):Prop:=∀(a:AR)(c:St)(H:Hp)(s:Ab)(e:Aa)(b:Ab),Inv X a c H s->CX X.stack H s E e b->X.xe e b
section
variable{k:Nat}{f:Ac}{fd:B3}{sp:Sp}{dvs:U V}{ds:U Aa}{E:XK}{x m:Ae}{p:AC}{e:Expr}{t:TA}
theorem Sh{a:AR}{s:Ab}{Q:VK}{us:U Aa}(F:AO X.prog X.w X.K X.mg X.base CX k f fd ps sp)(c:AE k X.A)(d:Binds X.K fd ps ds)(hd:Ao dvs ds)(g:E6 CX X E) (l:Inv X a I H s) (r:Ao vs us) (h:sp (vs++dvs) H Q E):wpAny (Ag X.prog X.w) X.A (call (.ref f) us) (EP X a I Q) X.xe s:=by
 refine wpAny_call<|Ko (F.run X.A X.stack s H ⟨us,[]⟩ (us++ds) (vs++dvs) Q E c l.env0 (d s us l.kIn (show(us++ds).length=ps.length by rw[<- (r.append hd).length];exact F.len _ _ _ _ h)) (r.append hd) h) λr i b=>?_;cases r with|error e=>exact g a I H s e i l b|ok j=>
  cases j with
  |ret u=>exact l.after b
  |next=>exact BS b
  |brk=>exact BS b
  |cont=>exact BS b
theorem Pe(F:AO X.prog X.w X.K X.mg X.base CX k f fd ps sp)(i:AE k X.A)(j:Gl X x)(l:X.mg x=Z (.ref f))(m:HN X.K (.ref f)=J')(n:Binds X.K fd ps ds)(hd:Ao dvs ds)(o:E6 CX X E) (u:PA X (e::es) t) (b:Cj x:=by ext) (v:Az (e::es) X.env=(O',An e X.env)::Az es X.env:=by rfl) (c:(As pos (Az es X.env)).any (·.1)=O':=by rfl):PE X (.Call (.Name x p) (e::es) [] pos) (Pd sp dvs E t):=by
 intro a s y H Q d h;exact Kp<|Ki d j l (Pf (h₀:=X.base) d.ok.mod.kin m (AV (u pos a s y H _ d h) λz B ⟨C,G,g,r,q⟩=>#[g.kIn,Sh F i n hd o g r q]) v c) b
theorem Xx(y:PE X o ta)(c:Ei X.K C)(j:HM X.K C m f)(F:AO X.prog X.w X.K X.mg X.base CX k f fd ps sp)(L:AE k X.A)(M:Binds X.K fd ps ds)(hd:Ao dvs ds)(N:E6 CX X E)(P:PA X (e::es) t) (d:Az (e::es) X.env=(O',An e X.env)::Az es X.env:=by rfl) (g:(As pos (Az es X.env)).any (·.1)=O':=by rfl) (T:An (.Call (.Attribute o m apos) (e::es) [] pos) X.env=(do
   let n <- An o X.env;standAt apos.atName;let(f,i) <- Dw [n] (getMethod n m pl);callWith pos f i (As pos (Az (e::es) X.env)) (GB pos (GC [] X.env))):=by rfl):PE X (.Call (.Attribute o m apos) (e::es) [] pos) (Kn C m sp dvs E ta t):=by
 intro b s p H Q S h;refine Si (pl:=pl) (AV (y b s p H _ S h) λu R Y=>?_) T;obtain⟨x,H1,v,rx,a,dx,fs,rfl,ea,l,q⟩:=Y;obtain rfl:u=B8 a:=rx;exact Pc v ea c j l<|Pf (first:=[.ref a]) (h₀:=X.base) S.ok.mod.kin j.kp (AV (P pos b R p H1 _ v q) λz s2 ⟨B,H2,G,r,q2⟩=>#[G.kIn,Sh (us:=.ref a::z) (vs:=.ref a::B) F L M hd N G (.cons rfl r) q2]) d g
theorem Xy(j:PE X o ta)(c:Ei X.K C)(g:HM X.K C m f)(F:AO X.prog X.w X.K X.mg X.base CX k f fd ps sp)(n:AE k X.A)(p:Binds X.K fd ps ds)(hd:Ao dvs ds)(r:E6 CX X E) (t:An (.Call (.Attribute o m apos) [] [] pos) X.env=(do
   let i <- An o X.env;standAt apos.atName;let(f,d) <- Dw [i] (getMethod i m pl);callWith pos f d (As pos (Az [] X.env)) (GB pos (GC [] X.env))):=by rfl):PE X (.Call (.Attribute o m apos) [] [] pos) (Kn C m sp dvs E ta M3):=by
 intro b s v H Q P h;refine Si (pl:=pl) (AV (j b s v H _ P h) λu G y=>?_) t;obtain⟨x,N,e,z,a,L,M,rfl,B,l,q⟩:=y;obtain rfl:u=B8 a:=z;exact Pc e B c g l<|PySem.W.callWith_K0 (first:=[.ref a]) e.kIn g.kp (Sh (us:=[.ref a]) (vs:=[.ref a]) F n p hd r e (.cons rfl .nil) q)
structure Mk(K:Am)(C f:Ac):Prop where
 makes:PySem.W.makesIn K C=J'
 init:IU K (.ref C) "__init__"=Z (Z (.ref f))
 fn:PySem.W.isFn K (.ref f)=J'
 kp:HN K (.ref C)=J'
theorem mT{a:AR}{s:Ab}{Q:VK}{us:U Aa}(M:Mk X.K C f)(F:AO X.prog X.w X.K X.mg X.base CX k f fd ps sp)(j:AE (k+1) X.A)(l:Binds X.K fd ps ds)(hd:Ao dvs ds)
  (m:E6 CX X E) (B:Inv X a I H s) (r:Ao vs us)
  (h:∀x c,H x=J->H c=J->x=c+1->sp (.ref x::(vs++dvs)) (AK (AK H c (.own x)) x (.ins C c [])) (λv n=>v=.non/\Q (.ref x) n) E):
  wpAny (Ag X.prog X.w) X.A (call (.ref C) us) (EP X a I Q) X.xe s:=by
 have g:=h (s.heap.objs.size+1) s.heap.objs.size (B.hok.fresh (Nat.le_succ _)) (B.hok.fresh (Bc _)) rfl
 have d:=Inv.made (C:=C) B
 have i:Ao (V.ref (s.heap.objs.size+1)::(vs++dvs)) (B8 (s.heap.objs.size+1)::(us++ds)):=.cons rfl (r.append hd)
 have o:(B8 (s.heap.objs.size+1)::us++ds).length=ps.length:=by
  have e:=i.length
  rw[F.len _ _ _ _ g]at e
  exact e.symm
 refine wpAny_call (mD (f:=f) B.kIn M.makes M.init (beq_iff_eq.mp M.fn) (Ko (F.run _ X.stack _ _ #[B8 (s.heap.objs.size+1)::us,[]] (B8 (s.heap.objs.size+1)::(us++ds)) _ _ E (j.make C us [])
  (d.env0.make C us []) (l _ (B8 (s.heap.objs.size+1)::us) d.kIn o) i g) λr p b=>?_))
 cases r with
 |error e=>exact m a I _ _ e p d b
 |ok q=>
  cases q with
  |ret u=>
   obtain⟨v,t,y,z,rfl,q3⟩:=d.after b
   exact#[z,#[V.ref (s.heap.objs.size+1),t,y,rfl,q3]]
  |next=>exact BS b
  |brk=>exact BS b
  |cont=>exact BS b
theorem mU(M:Mk X.K C f)(F:AO X.prog X.w X.K X.mg X.base CX k f fd ps sp)(i:AE (k+1) X.A)(j:Gl X x)(l:X.mg x=Z (.ref C))(m:Binds X.K fd ps ds)(hd:Ao dvs ds)(n:E6 CX X E) (o:PA X (e::es) t) (b:Cj x:=by ext) (u:Az (e::es) X.env=(O',An e X.env)::Az es X.env:=by rfl) (c:(As pos (Az es X.env)).any (·.1)=O':=by rfl):PE X (.Call (.Name x p) (e::es) [] pos) (mS C sp dvs E t):=by
 intro a s v H Q d h;exact Kp<|Ki d j l (Pf (h₀:=X.base) d.ok.mod.kin M.kp (AV (o pos a s v H _ d h) λy z ⟨B,G,g,r,q⟩=>#[g.kIn,mT M F i m hd n g r q]) u c) b
end
def PK(X:Cx)(b:U Ev)(t:TA):Prop:=
 ∀(c:AC) (a:AR) (s:Ab) (d:St) (H:Hp) (Q:U V->Hp->Prop),Inv X a d H s->t d H Q->wpAny (Ag X.prog X.w) X.A (evalAll ((GB c (GC b X.env)).map (·.2))) (AP X a d Q) X.xe s
section
variable{k:Nat}{f:Ac}{x m:Ae}{p kpos:AC}{e:Expr}{kws:U Ev}{t:TA}{nm:O Ae}
theorem mV:PK X [] M3:=λ_ _ _ _ H Q a h=>wpAny_evalAll_nil #[[],H,a,.nil,h]
theorem mW(c:PE X e te)(d:PK X kws t):PK X (#[nm,e,kpos]::kws) (Xw te t):=by
 intro pos a s b H Q v h;exact wpAny_evalAll_cons<|Al<|AV (c a s b H _ v h) λu f ⟨x,g,i,j,k⟩=>Al<|wpAny_standAt<|AQ<|AV (d pos a f b g _ i k) λq r ⟨l,m,n,o,p⟩=>#[x::l,m,n,.cons j o,p]
end
structure Z5(N P:List Ae)(sc:Scope):Prop where
 kind:sc.kind=.function
 co:sc.isCoroutine=O'
 gen:sc.isGenerator=O'
 nd:N.Nodup
 pre:N.take P.length=P
 par:∀x∈P,sc.names.lookup x=Z .local\/sc.names.lookup x=Z .cell
 nofree:∀y∈sc.names,y.2≠.free
theorem Xz{kindOf:Ae->O GD}{x:Ae}:∀{a:U (Ae×Aa)}{m:Bi},(∀v,(x,v)∉a)->bindL kindOf a m x=m x
 |[],_,_=>rfl
 |(n,v)::r,m,h=>by
  unfold bindL;rw[Xz λw b=>h w<|BG _ b];split
  ·grind [Bj]
  ·rfl
theorem XA{kindOf:Ae->O GD}{x:Ae}:∀{a:U (Ae×Aa)}{m:Bi},(∀v,(x,v)∉a)->bindC kindOf a m x=m x
 |[],_,_=>rfl
 |(n,v)::r,m,h=>by
  unfold bindC;rw[XA λw b=>h w<|BG _ b];split
  ·rfl
  ·grind [Bj]
theorem XB{kindOf:Ae->O GD}{x:Ae}{v:Aa}:∀{P:U Ae}{vs:U Aa}{i:Nat}{m:Bi},P.Nodup->P[i]?=Z x->vs[i]?=Z v->kindOf x=Z .local->bindL kindOf (P.zip vs) m x=Z v
 |[],_,_,_,_,h,_,_=>by simp at h
 |_::_,[],_,_,_,_,h,_=>by simp at h
 |p::P,w::vs,0,m,nd,a,b,c=>by
  simp at a b;subst a;subst b;show bindL kindOf ((p,w)::P.zip vs) m p=_
  unfold bindL;rw[Xz λv d=>(IW.mp nd).1 (M4 d).1,if_pos c];simp
 |p::P,w::vs,i+1,m,nd,a,b,c=>by
  unfold bindL;exact XB (i:=i) (IW.mp nd).2 (by simpa using a) (by simpa using b) c
theorem XC{kindOf:Ae->O GD}{x:Ae}{v:Aa}:∀{P:U Ae}{vs:U Aa}{i:Nat}{m:Bi},P.Nodup->P[i]?=Z x->vs[i]?=Z v->kindOf x≠Z .local->bindC kindOf (P.zip vs) m x=Z v
 |[],_,_,_,_,h,_,_=>by simp at h
 |_::_,[],_,_,_,_,h,_=>by simp at h
 |p::P,w::vs,0,m,nd,a,b,c=>by
  simp at a b;subst a;subst b;show bindC kindOf ((p,w)::P.zip vs) m p=_
  unfold bindC;rw[XA λv d=>(IW.mp nd).1 (M4 d).1,if_neg c];simp
 |p::P,w::vs,i+1,m,nd,a,b,c=>by
  unfold bindC;exact XC (i:=i) (IW.mp nd).2 (by simpa using a) (by simpa using b) c
noncomputable def FM(N:U Ae)(vs:U V):St:=vs.map Z++CV (N.length-vs.length) J
noncomputable def C2(CX:DF)(P:AJ)(w:Ai)(K:Am)(mg:Bi)(base:Ak)(N:U Ae)(a:Ae)(scope:Scope)(f:Ac)(c:Aa)(A:Ah)(outer:U Env)(s:Ab)(H:Hp)(E:XK):Cx where
 prog:=P
 w:=w
 K:=K
 mg:=mg
 base:=base
 A:=A.deeper (A0 a scope s.heap.objs.size f c)
 N:=N
 s₀:=s
 H₀:=H
 env:=A0 a scope s.heap.objs.size f c
 outer:=outer
 stack:=A0 a scope s.heap.objs.size f c::outer
 ex:=[]
 calm:=J'
 fn:=λ_=>J'
 pn:=[]
 xe:=λe d=>wpAny (Ag P w) (A.deeper (A0 a scope s.heap.objs.size f c)) (leaving (A0 a scope s.heap.objs.size f c) e) (λ_ b=>CX outer H s E e b) (λg b=>CX outer H s E g b) d
theorem XD{a:Scope}{n:Nat}{x:Ae}(h:a.names.lookup x=Z .cell):∃c,(cellsFrom n a.names []).lookup x=Z c:=by
 have q:=PySem.W.cellsFrom_some a.names n []<|.inl h;grind [Option.isSome_iff_exists]
theorem mX{P:AJ}{w:Ai}{K:Am}{mg:Bi}{base:Ak}{N l:U Ae}{d:Ae}{f:Ac}{G:Aa}{A:Ah}{outer:U Env}{s F:Ab}{E:XK}{us:U Aa} (S:Z5 N l scope) (hd:A.handled=J) (j:CU P w K mg base A outer s H) (R:vs.length=l.length) (r:Ao vs us) (x:InCallC s s.heap.objs.size (bindL (A0 d scope s.heap.objs.size f G).kindOf (l.zip us) λ_=>J) (cellsFrom (s.heap.objs.size+1) scope.names []) (bindC (A0 d scope s.heap.objs.size f G).kindOf (l.zip us) λ_=>J) F):Inv (C2 CX P w K mg base N d scope f G A outer s H E) [] (FM N vs) H F:=by
 have Q:l.length<=N.length:=by have:=congrArg IX S.pre;rw[IY]at this;lia
 obtain⟨X,Y,rfl,L⟩:=x.done;have m:∀b:Ac,b∉(C2 CX P w K mg base N d scope f G A outer s H E).ex:=λb z=>absurd (show b∈([]:U Ac)from z) (by simp);refine#[#[j.mod,S.kind,rfl,rfl,Bc _,λy z c X g=>?_,λy o=>?_,λy c _ h=>?_,λ_=>hd,Around.frames_deeper j.frames,.inr #[rfl,rfl],λb z=>absurd z<|m b,j.bs,j.bsz,λb _ _=>m b,λb z=>absurd z<|m b,j.funs,j.frf],
  rfl,j.bare,Un.kept L,#[_,x.toInCall.ns,λi y v X g h3=>?_],λy c h=>#[_,x.cell y c h],j.hok.fresh<|Bc _,λy c h=>?_,λp t=>absurd (show p∈([]:AR)from t) (by simp),j.hok.kept L,?_]
 ·exact name_of_addr x.apart (Kq X)<|Kq g
 ·rcases o with o|o
  ·exact XD o
  ·exact absurd rfl<|S.nofree _<|Kq o
 ·exact Lq<|x.above y c<|Kq h
 ·have B:i<vs.length:=by
   unfold FM at g;by_cases B:i<vs.length
   ·exact B
   ·rw[Hg (by simpa using B),HP]at g;split at g<;>cases g
  have T:vs[i]?=Z v:=by
   unfold FM at g;rw[EL (by simpa using B),CW]at g;cases e:vs[i]? with
   |none=>rw[e]at g;cases g
   |some a=>rw[e]at g;cases g;rfl
  obtain⟨u,M,W⟩:=r.get T;have t:l[i]?=Z y:=by
   rw[<- S.pre,XE<|Kr B R];exact X
  have C:l.Nodup:=S.pre ▸ S.nd.sublist (List.take_sublist _ _);refine#[u,W,?_];rcases S.par y (Fn t)with k|k
  ·exact .inl #[k,XB C t M k]
  ·obtain⟨c,e⟩:=XD (n:=s.heap.objs.size+1) k;refine .inr #[.inl k,c,e,?_];have q:=x.cell y c e;rw[XC C t M (by show scope.names.lookup y≠_;rw[k];decide)]at q;exact q
 ·exact j.hok.fresh<|Lq<|x.above y c<|Kq h
 ·unfold FM;show _=N.length
  rw[Ej,A9,Lx];lia
theorem XF{P:AJ}{w:Ai}{K:Am}{mg:Bi}{base:Ak}{k:Nat}{f:Ac}{name a:Ae}{c:Arguments}{g:U Av}{R T m X d ct oc:Aa}{Y od:O Ac} {C:Array (O Aa)} {N B:U Ae} {sp:Sp} (lk:K.lookup f=Z #[oc,od,.func (IZ name a c g scope R T m X Y d ct),C]) (G:PySem.W.codeIn K d a=J') (S:Z5 N B scope) (len:∀vs H Q E,sp vs H Q E->vs.length=B.length) (i:∀(A:Ah) (outer:U Env) (s:Ab) (H:Hp) (vs:U V) (Q:VK) (E:XK),AE k (A.deeper (A0 a scope s.heap.objs.size f d))->sp vs H Q E->∃t,EI (C2 CX P w K mg base N a scope f d A outer s H E) g t/\t {nx:=λ_ H'=>Q .non H',rt:=Q} (FM N vs) H):AO P w K mg base CX (k+1) f (IZ name a c g scope R T m X Y d ct) B sp:=by
 refine#[len,λA outer s H args us vs Q E zA p hb r z=>?_];have KX:K.In s.heap:=p.mod.kin.keeps λb o e=>(p.bs b o e).1;have j:∀y∈B.zip us,scope.names.lookup y.1=Z .local\/(scope.names.lookup y.1=Z .cell/\((cellsFrom (s.heap.objs.size+1) scope.names []).lookup y.1).isSome=J'):=λ⟨n,v⟩ hy=>by
  rcases S.par n (M4 hy).1 with q|q
  ·exact .inl q
  ·exact .inr #[q,PySem.W.cellsFrom_some _ _ _<|.inl q]
 refine codeAny_call_function zA.depth (KX _ _ lk) rfl S.co S.gen rfl (PySem.W.codeRec_of KX G)<|hb _ _ _ _ ?_;refine wpAny_newFunctionEnv_cells S.kind j λenv he s1 x=>?_;subst he;refine#[(p.mod.nolimit.keeps λb o e=>(p.bs b o e).1).keeps x.toInCall.keep,codeAny_func ?_];obtain⟨t,ht,hq⟩:=i A outer s H vs Q E (zA.deeper _) z;refine Cs (ht [] s1 (FM N vs) H _ (mX S zA.hd p (len _ _ _ _ z) r x) hq) (λfl L l=>?_) λe L l=>l;have fin:∀{h:St} {H':Hp} {v:V} {u:Aa},Inv (C2 CX P w K mg base N a scope f d A outer s H E) [] h H' L->RelV v u->Q v H'->CE outer P w H s Q u L:=
  λ{h H' v u} F M q=>#[v,H',F.os,F.bare,F.base,F.hok,M,q]
 cases fl with
 |ret u=>
  obtain⟨v,h,H',F,M,q⟩:=l;exact fin F M q
 |next=>
  obtain⟨h,H',F,q⟩:=l;exact fin (v:=V.non) (u:=Gs) F rfl q
 |brk=>
  obtain⟨_,_,_,q⟩:=l;exact BS q
 |cont=>
  obtain⟨_,_,_,q⟩:=l;exact BS q
section
variable{x:Ae}{p:AC}{e:Expr}{t:TA}{id T:String}{r:U V->Hp->VK->Prop}
def Pg(r:U V->Hp->VK->Prop)(t:TA):TE:=λa H Q=>t a H λb c=>r b c Q
theorem XG(f:Eh X (.builtin id) r)(g:Gl X x)(i:X.mg x=J)(j:DY x=Z (.builtin id))(k:PA X (e::es) t)(l:x≠"__name__":=by ext)(b:Cj x:=by ext) (m:Az (e::es) X.env=(O',An e X.env)::Az es X.env:=by rfl) (c:(As pos (Az es X.env)).any (·.1)=O':=by rfl):PE X (.Call (.Name x p) (e::es) [] pos) (Pg r t):=by
 intro a s d H Q z h;exact Kp<|Hc z g i j (PyProof.Rows.callWith_builtin1 (AV (k pos a s d H _ z h) λn o ⟨q,u,v,w,y⟩=>f a o d u q n Q v w y) m c) l b
theorem XH(f:Eh X (.type T) r)(g:Gl X x)(i:X.mg x=J)(j:DY x=Z (.type T))(k:PA X (e::es) t)(l:x≠"__name__":=by ext)(b:Cj x:=by ext) (m:Az (e::es) X.env=(O',An e X.env)::Az es X.env:=by rfl) (c:(As pos (Az es X.env)).any (·.1)=O':=by rfl):PE X (.Call (.Name x p) (e::es) [] pos) (Pg r t):=by
 intro a s d H Q z h;exact Kp<|Hc z g i j (MW (AV (k pos a s d H _ z h) λn o ⟨q,u,v,w,y⟩=>f a o d u q n Q v w y) m c) l b
end
end L2
variable{H H' H0:L2.Hp}{X Y:L2.Cx}{I:L2.St}{vs ys:U L2.V}{us:U (U L2.At×Ac×Aa)}{CX:L2.DF}{ta tb te:L2.TE}{wi:L2.TI}
namespace HT
open PySem PyProof.Rows
theorem rcLt_int(A:Ah)(s:Ab)(a:Int)(t:Tok)(c:Int)(u:Tok)(prog:AJ)(w:Ai)(E:AI)(Q:AI)(h:Q (.bool (decide (a<c))) s):wpAny (Ag prog w) A (richCompare .Lt (.int a t) (.int c u)) Q E s:=(PyProof.Rows.lt_int h:wpAny (Ag prog w) A (Dd .Lt (.int a t)<|.int c u) Q E s)
section
variable{prog:AJ}{w:Ai}{A:Ah}{s:Ab}
noncomputable def sIx(n d:Nat):O Int->Nat
 |none=>d
 |some v=>if v<0 then(v+(n:Int)).toNat else min v.toNat n
theorem XJ(v:Int)(n d:Nat):(if v<0 then max (v+(n:Int)) 0 else min v (n:Int))=((sIx n d (Z v):Nat):Int):=by
 show(if v<0 then max (v+(n:Int)) 0 else min v (n:Int))=(((if v<0 then(v+(n:Int)).toNat else min v.toNat n):Nat):Int)
 grind
theorem mY(lo a:O Int)(n:Nat):XM lo a 1 (n:Int)=(((sIx n 0 lo:Nat):Int),((sIx n n a:Nat):Int)):=by
 unfold XM;refine Prod.ext ?_ ?_
 ·cases lo with
  |none=>rfl
  |some v=>exact XJ v n 0
 ·cases a with
  |none=>rfl
  |some v=>exact XJ v n n
theorem mZ(i j:Nat):Sj (i:Int) (j:Int) 1=j-i:=by
 unfold Sj;grind
theorem XN{v:Aa}{o:O Int}{Q:O Int->Ab->Prop}(p:IsPart v o)(h:Q o s):wpAny (Ag prog w) A (Builtin.Slice.slicePartIndex v) Q E s:=by
 cases p with
 |none=>exact slicePart_none h
 |int i t=>exact slicePart_int h
theorem m1{f:Ac}{d e:Aa}{lo a:O Int}{n:Nat}{Q:Int×Int×Nat->Ab->Prop}(g:s.heap.IsSliceOf f d e .none)(pl:IsPart d lo)(i:IsPart e a) (h:Q (((sIx n 0 lo:Nat):Int),1,sIx n n a-sIx n 0 lo) s):wpAny (Ag prog w) A (Builtin.Slice.sliceApplied (.ref f) (Ay (n:Int))) Q E s:=by
 obtain⟨os,b,j,c⟩:=id g;refine Al<|Al<|D9 b c (x:=d) rfl (Al<|D9 b c (x:=e) rfl (Al<|D9 b c (x:=.none) rfl (AQ ?_)));refine Al<|slicePart_none ?_;refine Al<|XN pl<|Al<|XN i<|Al<|AQ ?_;show wpAny _ _ (match XM lo a 1 (n:Int)with|(lo,a)=>Ay (lo,(1:Int),Sj lo a 1)) _ _ s
 rw[mY lo a n];show wpAny _ _ (Ay (((sIx n 0 lo:Nat):Int),(1:Int),Sj ((sIx n 0 lo:Nat):Int) ((sIx n n a:Nat):Int) 1)) _ _ s
 rw[mZ];exact AQ h
theorem m2(xs:Array Aa)(i k:Nat):((BB k).filterMap λ(m:Nat)=>xs[((i:Int)+(m:Int)*1).toNat]?).toArray=((xs.toList.drop i).take k).toArray:=by
 have e:(λ(m:Nat)=>xs[((i:Int)+(m:Int)*1).toNat]?)=λm=>xs[i+m]?:=by
  grind
 have:=pick_run xs i k;have a:((λx=>xs[x]?)∘λx=>i+x)=λm=>xs[i+m]?:=rfl;simp_all
theorem getItem_tuple_cut{t g:Ac}{i j:Aa}{lo a:O Int}{Q:AI}(b:IsTup s.heap t items)(k:s.heap.IsSliceOf g i j .none)(pl:IsPart i lo)(o:IsPart j a) (p:sIx items.size 0 lo=0/\sIx items.size items.size a=items.size->Q (.ref t) s) (h:¬ (sIx items.size 0 lo=0/\sIx items.size items.size a=items.size)->Q (.ref s.heap.objs.size) {s with heap:=s.heap.push {cls:=.type "tuple",data:=.seq ((items.toList.drop (sIx items.size 0 lo)).take (sIx items.size items.size a-sIx items.size 0 lo)).toArray} }) (hsz:items.size<=Ax):wpAny (Ag prog w) A (getItem (.ref t) (.ref g)) Q E s:=by
 obtain⟨os,d,e,q⟩:=id k;unfold getItem;try with_reducible refine FH ?_
 refine Al<|wpAny_sequenceKey b.typeIs (by ext) ?_;refine Al (Ly (name:=I0 "__getitem__") b.typeIs PyProof.Rows.slot_tuple_getitem
  (Ks PyProof.Rows.slot_tuple_getitem b.typeIs entry_tuple_getitem ?_<|args_tuple_getitem _ _))
 show wpAny _ _ (Builtin.Tuple.tupleItemsOf (.ref t) >>= _) _ _ s
 refine Al<|tupleItemsOf_ b ?_;refine Al<|Lz ⟨os,d,e⟩ ?_;refine Al<|m1 k pl o ?_;show wpAny _ _ (if(((sIx items.size 0 lo:Nat):Int)==0&&(1:Int)==1&&(sIx items.size items.size a-sIx items.size 0 lo)==items.size)=J' then _ else _) _ _ s
 by_cases n:sIx items.size 0 lo=0/\sIx items.size items.size a=items.size
 ·have c:((((sIx items.size 0 lo:Nat):Int)==0&&(1:Int)==1&&(sIx items.size items.size a-sIx items.size 0 lo)==items.size)=J'):=by
   simp_all
  rw[if_pos c];exact Al<|Al<|Lz b.typeIs<|AQ<|Al<|Ja<|AQ ⟨_,rfl,AQ<|p n⟩
 ·have f:¬ ((((sIx items.size 0 lo:Nat):Int)==0&&(1:Int)==1&&(sIx items.size items.size a-sIx items.size 0 lo)==items.size)=J'):=by
   simp_all
  rw[if_neg f,m2];exact Al (m:=Builtin.Tuple.tupleExact _) (Jb (AQ #[_,rfl,AQ<|h n])<|BR ((List.take_sublist _ _).trans<|List.drop_sublist _ _).length_le hsz)
end
end HT
namespace L2
open PySem PySem.Spec PyProof.Rows
abbrev TO:=St->Hp->(O Int->Hp->Prop)->Prop
def PO(X:Cx)(e:O Expr)(t:TO):Prop:=
 ∀(a:AR) (s:Ab) (b:St) (H:Hp) (Q:O Int->Hp->Prop),Inv X a b H s->t b H Q ->
  wpAny (Ag X.prog X.w) X.A (evalPart e X.env) (λu d=>∃o c,Inv X a b c d/\IsPart u o/\Q o c) X.xe s
def m3:TO:=λ_ H Q=>Q J H
def m5(t:TE):TO:=λa H Q=>t a H λx b=>∃i,x=.int i/\Q (Z i) b
theorem Ph{ns:U Int}:∀{us:U Aa},Ao (ns.map V.int) us->IntsAre us ns:=by
 induction ns with|nil=>intro us r;rw[Dh]at r;cases r;exact .nil|cons n ns a=>
  intro us r;cases r with
  |cons b c=>
   obtain⟨t,rfl⟩:=b;exact .cons n t<|a c
section
variable{e:Expr}{lo hi:O Expr}{tl th:TO}
theorem m7:PO X J m3:=by
 intro a s b H Q c h;exact AQ #[J,H,c,.none,h]
theorem na(h:PE X e te):PO X (Z e) (m5 te):=by
 intro a s b H Q l c;refine AV (h a s b H _ l c) λu k d=>?_;obtain⟨x,f,g,j,i,rfl,q⟩:=d;obtain⟨t,rfl⟩:=j;exact#[Z i,f,g,.int i t,q]
def Jc(X:Cx)(r:V->O Int->O Int->Hp->VK->Prop):Prop:=
 ∀(a:AR) (s:Ab) (b:St) (H:Hp) (x:V) (v c d:Aa) (lo hi:O Int) (e:Ac) (Q:VK),Inv X a b H s->RelV x v->s.heap.IsSliceOf e c d .none->IsPart c lo->IsPart d hi->r x lo hi H Q ->
  ∃T id,typeLookup (.type T) "__getitem__"=Ay (Z (.builtin id))/\s.TypeIs v T/\wpAny (Ag X.prog X.w) X.A (getItem v (.ref e)) (EP X a b Q) X.xe s
theorem Jc.or{r b:V->O Int->O Int->Hp->VK->Prop}(h:Jc X r)(h':Jc X b):Jc X (λx lo hi H Q=>r x lo hi H Q\/b x lo hi H Q):=by
 intro a s c H x v d e lo hi f Q l g i j k q;rcases q with q|q
 ·exact h a s c H x v d e lo hi f Q l g i j k q
 ·exact h' a s c H x v d e lo hi f Q l g i j k q
def nb(r:V->O Int->O Int->Hp->VK->Prop)(te:TE)(tl th:TO):TE:=λa H Q=>te a H λx b=>tl a b λl c=>th a c λu d=>r x l u d Q
theorem ng{r:V->O Int->O Int->Hp->VK->Prop}(j:Jc X r)(k:PE X e te)(m:PO X lo tl)(n:PO X hi th):PE X (.Subscript e (.Slice lo hi J p2) pos) (nb r te tl th):=by
 intro a s d H Q P h;refine Subscript_<|AV (k a s d H _ P h) λv o f=>?_;obtain⟨x,p,t,w,y⟩:=f;refine wpAny_Slice<|AV (m a o d p _ t y) λg z ⟨l,A,B,C,E⟩=>AV (n a z d A _ B E) λi c f=>?_;obtain⟨u,G,F,L,q3⟩:=f;refine AQ ?_;obtain⟨T,id,M,N,K⟩:=j a {c with heap:=c.heap.push {cls:=.type "slice",data:=.fields (T' [g,i,.none])} } d G x v g i l u c.heap.objs.size Q (F.kept (t':=c.toks) λb ob q=>Bn _ q) w (Heap.IsSliceOf.new ..) C L q3;exact tail_any (ops:=[.ref c.heap.objs.size,v]) N M K (by with_unfolding_all rfl)
def HQ(xs:U V)(lo hi:O Int):U V:=(xs.drop (HT.sIx xs.length 0 lo)).take (HT.sIx xs.length xs.length hi-HT.sIx xs.length 0 lo)
theorem XO(xs:U V)(lo hi:O Int):(HQ xs lo hi).length<=xs.length:=((List.take_sublist _ _).trans<|List.drop_sublist _ _).length_le
end
noncomputable def CG(n:Nat)(i:Int):O Nat:=if 0<=i then(if i<n then Z i.toNat else J)else if -(n:Int)<=i then Z (i+n).toNat else J
def atI{a:Type}(xs:U a)(i:Int):O a:=(CG xs.length i).bind λj=>xs[j]?
theorem XP{n:Nat}{i:Int}(h:CG n i=Z j):seqIndex? i n=Z j/\j<n /\ -(n:Int)<=i/\i<n:=by
 unfold CG at h;by_cases b:0<=i
 ·rw[if_pos b]at h;by_cases a:i<n
  ·rw[if_pos a]at h;exact#[by rw[seqIndex_of b a,FE h],by lia,by lia,a]
  ·rw[if_neg a]at h;cases h
 ·rw[if_neg b]at h;by_cases a : -(n:Int)<=i
  ·rw[if_pos a]at h;exact#[by rw[seqIndex_neg (Pj b) a,FE h],by lia,a,by lia]
  ·rw[if_neg a]at h;cases h
theorem Sk{a:Type}{xs:U a}{i:Int}{v:a}(h:atI xs i=Z v):∃j,seqIndex? i xs.length=Z j/\xs[j]?=Z v/\j<xs.length /\ -(xs.length:Int)<=i/\i<xs.length:=by
 unfold atI at h;cases e:CG xs.length i with|none=>rw[e]at h;cases h|some j=>
  rw[e]at h;obtain⟨b,c,d,f⟩:=XP e;exact#[j,b,h,c,d,f]
theorem ZD{a:Type}{xs:U a}{v:a}(h:xs[j]?=Z v):atI xs (j:Int)=Z v:=by
 have b:j<xs.length:=(BC.mp h).1;have e:CG xs.length (j:Int)=Z j:=by
  unfold CG;rw[if_pos (by lia),if_pos (by lia)];simp
 unfold atI;rw[e];exact h
theorem Sn{a:Type}(xs:U a)(v:a):atI (xs++[v]) (-1)=Z v:=by
 have b:(xs++[v]).length=xs.length+1:=by simp
 have e:CG (xs++[v]).length (-1)=Z xs.length:=by
  unfold CG;grind
 unfold atI;simp_all
def LA(b:Expr):Prop:=∀o i,subscripted b O' o i=operate [o,i] (getItem o i)
def GF(X:Cx)(r:R2):Prop:=
 ∀(b slice:Expr) (a:AR) (s:Ab) (c:St) (H:Hp) (x y:V) (v u:Aa) (Q:VK),Inv X a c H s->RelV x v->RelV y u->r x y H Q ->
  subscripted slice O' v u=operate [v,u] (getItem v u)->wpAny (Ag X.prog X.w) X.A (subscriptTail b slice v u) (EP X a c Q) X.xe s
def M5(X:Cx)(id:String)(r:V->U V->Hp->VK->Prop):Prop:=
 ∀(a:AR) (s:Ab) (b:St) (H:Hp) (x:V) (c:U V) (v:Aa) (d:U Aa) (Q:VK),Inv X a b H s->RelV x v->Ao c d->r x c H Q ->
  wpAny (Ag X.prog X.w) X.A (call (.builtin id) (v::d)) (EP X a b Q) X.xe s
section
variable{a b:Expr}
theorem GF.or{r c:R2}(h:GF X r)(h':GF X c):GF X (λx y H Q=>r x y H Q\/c x y H Q):=by
 intro a slice b s d H x y v u Q i e f q g;rcases q with q|q
 ·exact h a slice b s d H x y v u Q i e f q g
 ·exact h' a slice b s d H x y v u Q i e f q g
theorem XQ{r:R2}(d:GF X r)(e:PE X a ta)(f:PE X b tb)(g:LA b):PE X (.Subscript a b pos) (Kl r ta tb):=by
 intro c s i H Q o h;exact Subscript_<|Sb e f o h λv u j x y k l m n q=>d a b c j i k x y v u Q l m n q<|g _ _
def XR(K:Am):R2:=λx y H Q=>∃p a i v,x=.ref p/\y=.int i/\BJ K H p a/\atI a i=Z v/\Q v H
def XU(K:Am):R2:=λx y H Q=>∃p a i v,x=.ref p/\y=.int i/\B0 K H p a/\atI a i=Z v/\Q v H
def XV:R2:=λx y H Q=>∃z i c,x=.str z/\y=.int i/\z.length<=Ax/\atI z.cps.toList i=Z c/\Q (.str #[(T' [c])]) H
theorem Fp:GF X (XR X.K):=by
 rintro e slice a s m H x y v u Q R n o ⟨p,M,i,z,rfl,rfl,A,B,q⟩ k;cases n;obtain⟨t,rfl⟩:=o;obtain⟨f,r,g,N⟩:=R.list A;obtain⟨j,c,C,P,E,G⟩:=Sk B;obtain⟨w,l,b⟩:=r.get C;have F:=r.length;have T:=M0;by_cases d:0<=i
 ·have h:i.toNat=j:=by
   rw[seqIndex_of d G]at c;exact FE c
  exact item_listR g.isList d (by lia) (by rw[h];simpa using l) #[z,H,R,b,q] k
 ·have h:(i+(f.toArray.size:Int)).toNat=j:=by
   rw[seqIndex_neg (Pj d) E]at c;rw[BV,<- F];exact FE c
  exact subscriptTail_builtinR (x:=w) g.isList.typeIs slot_list_getitem.lookup
   (wpAny_getItem_list_neg (Q:=λr L=>r=w/\EP X a m Q r L) g.isList (Pj d) (by rw[BV]<;>lia) (by lia) (by rw[h];simpa using l) #[rfl,#[z,H,R,b,q]]) k
theorem Kt:GF X (XU X.K):=by
 rintro b slice a s e H x y v u Q N f g ⟨p,C,i,z,rfl,rfl,h,k,q⟩ l;cases f;obtain⟨t,rfl⟩:=g;obtain⟨m,r,d,E⟩:=N.tuple h;obtain⟨j,n,o,G,F,L⟩:=Sk k;obtain⟨w,A,c⟩:=r.get o;have M:=M0;exact subscriptTail_builtinR (x:=w) d.typeIs slot_tuple_getitem.lookup
  (getItem_tuple (j:=j) (Q:=λr B=>r=w/\EP X a e Q r B) d (by lia) (by lia) (by rw[BV,<- r.length];exact n) (by simpa using A) #[rfl,#[z,H,N,c,q]]) l
theorem ni:GF X XV:=by
 rintro a slice b s n H x y v u Q A e f ⟨z,i,c,rfl,rfl,o,g,q⟩ h;obtain⟨t,rfl⟩:=e;obtain⟨p,rfl⟩:=f;obtain⟨j,d,k,r,l,m⟩:=Sk g;rw[show z.cps.toList.length=z.length by simp[F9]]at d l m;have w:=M0;exact tail_any (typeIs_str s z t) slot_str_getitem.lookup (getItem_str (c:=c) (by
  grind) (by rw[d];simpa using k) #[.str #[(T' [c])],H,A.tok _,#[_,rfl],q]) h
def XW(K:Am):R2:=λx y H Q=>XR K x y H Q\/XU K x y H Q\/XV x y H Q
theorem nj:GF X (XW X.K):=Fp.or<|Kt.or ni
theorem nk(a:U Aa)(n j:Nat)(u:Aa):Fq (·.setIfInBounds j u) {cls:=.type "list",data:=.seq a.toArray n}={cls:=.type "list",data:=.seq (a.set j u).toArray n}:=by
 simp[Fq]
theorem Inv.lst{b:AR}{s:Ab}{p:Ac}{xs:U V}(c:Inv X b I H s)(h:H p=Z (.lst xs)):∃(a:U Aa) (n:Nat),Ao xs a/\s.heap.get? p=Z {cls:=.type "list",data:=.seq a.toArray n}/\xs.length<=Ax:=by
 obtain⟨z,a,n,r,e⟩:=c.hok p _ h;exact#[a,n,r,e,z]
theorem Inv.lstUpd{a:AR}{s:Ab}{p:Ac}{xs:U V}{c its':U Aa}{n d:Nat}{f:Obj->Obj}(k:Inv X a I H s)(h:H p=Z (.lst xs)) (i:s.heap.get? p=Z {cls:=.type "list",data:=.seq c.toArray n}) (g:f {cls:=.type "list",data:=.seq c.toArray n}={cls:=.type "list",data:=.seq its'.toArray d}) (r:Ao ys its') (hz:ys.length<=Ax) (t:Nat):Inv X a I (AK H p (.lst ys)) {s with heap:=s.heap.update p f,toks:=t}:=by
 have e:(s.heap.update p f).get? p=Z {cls:=.type "list",data:=.seq its'.toArray d}:=by
  rw[M6 f i (by rw[g]<;>rfl),g]
 refine k.write (x:=p) (e:=p) (by rw[h];trivial) (.inl rfl) (λb u j q=>(LB _ _<|Bv j).trans q) ⟨_,e⟩ ?_;exact⟨hz,its',d,r,e⟩
def nl:V->V->V->Hp->(Hp->Prop)->Prop:=λo i v H Q=>∃p a k j,o=.ref p/\i=.int k/\H p=Z (.lst a)/\CG a.length k=Z j/\Q (AK H p (.lst (a.set j v)))
theorem XY:R9 X nl:=by
 rintro a s w H o i v E G u Q K x y z ⟨p,A,k,j,rfl,rfl,g,B,q⟩;cases x;obtain⟨t,rfl⟩:=y;obtain⟨b,n,r,e,C⟩:=K.lst g;obtain⟨c,F,h,l⟩:=XP B;have L:=M0;have m:Inv X a w (AK H p<|.lst<|A.set j v) {s with heap:=s.heap.update p (Fq (·.setIfInBounds j u))}:=
  K.lstUpd g e (nk b n j u) (r.set z j) (by rw[HR];exact C) s.toks
 by_cases d:0<=k
 ·have f:k.toNat=j:=by
   rw[seqIndex_of d l]at c;exact FE c
  exact PySem.W.ki_setAt e d (by lia) (by rw[BV,<- r.length];exact l)<|f ▸ ⟨_,m,q⟩
 ·have f:(k+(b.toArray.size:Int)).toNat=j:=by
   rw[seqIndex_neg (Pj d) h]at c;rw[BV,<- r.length];exact FE c
  exact PySem.W.ki_setBack e (Pj d) (by rw[BV,<- r.length];exact h) (by lia)<|f ▸ ⟨_,m,q⟩
theorem nq(lo a:O Int)(n:Nat):(BP lo a J n).1=((HT.sIx n 0 lo:Nat):Int)/\(BP lo a J n).2.1=((HT.sIx n n a:Nat):Int)/\(BP lo a J n).2.2=1:=by
 refine#[?_,?_,rfl]
 ·cases lo with|none=>simp[BP,HT.sIx]|some i=>
   erw[BP,HT.sIx,Option.getD_none,show(1:Int)>0 by ext,if_true];grind
 ·cases a with|none=>simp[BP,HT.sIx]|some i=>
   erw[BP,HT.sIx,Option.getD_none,show(1:Int)>0 by ext,if_true];grind
theorem nr(a:U Aa)(lo b:O Int):slicePick a.toArray lo b J=((a.drop (HT.sIx a.length 0 lo)).take (HT.sIx a.length a.length b-HT.sIx a.length 0 lo)).toArray:=by
 obtain⟨c,d,e⟩:=nq lo b a.toArray.size;unfold slicePick;rw[c,d,e];erw[sliceRange_one,pick_run,BV]<;>rfl
def nt(K:Am):V->O Int->O Int->Hp->VK->Prop:=λx lo c H Q=>∃a b,x=.ref a/\BJ K H a b/\∀p,H p=J->Q (.ref p) (AK H p (.lst (HQ b lo c)))
theorem HS:Jc X (nt X.K):=by
 rintro f s p H x v t u lo e w Q y h i j k ⟨a,c,rfl,l,q⟩;cases h;obtain⟨m,r,g,n⟩:=y.list l;have d:=r.length;refine#["list",_,slot_list_getitem.lookup,g.isList.typeIs,?_];refine wpAny_getItem_list_slice g.isList i j k .none (by simp) ?_ (by rw[BV]<;>lia);rw[nr,<- d];refine#[.ref s.heap.objs.size,_,y.laid (t':=s.toks) (o:=.lst<|HQ c lo e) (λb ob q=>Bn _ q) (Bc _) ?_,rfl,q _<|y.hok.fresh<|Bc _];exact⟨BR (XO c lo e) n,_,0,(r.drop<|HT.sIx c.length 0 lo).take<|HT.sIx c.length c.length e-HT.sIx c.length 0 lo,B2 _ rfl⟩
noncomputable def XZ:V->Bool
 |.non=>J'
 |.bl _=>J'
 |.int _=>J'
 |.str _=>J'
 |_=>O'
noncomputable def nu:V->V->Bool
 |.non,.non=>J'
 |.bl a,.bl b=>a==b
 |.bl a,.int b=>(if a then 1 else 0)==b
 |.int a,.bl b=>a==(if b then 1 else 0)
 |.int a,.int b=>a==b
 |.str a,.str b=>a==b
 |_,_=>O'
theorem nv:Eh X (.type "list") (λxs H Q=>∃p ys,xs=[.ref p]/\(BJ X.K H p ys\/B0 X.K H p ys)/\∀l,H l=J->Q (.ref l) (AK H l (.lst ys))):=by
 rintro g s v H xs z Q A r ⟨p,ys,rfl,h,q⟩;obtain⟨u,rfl,x⟩:=E4 r;cases x;have fin:∀(a:U Aa),Ao ys a->ys.length<=Ax->∀(c:Ak) (d:Nat),(∀b t,s.heap.get? b=Z t->c.get? b=Z t) ->
   c.get? s.heap.objs.size=Z {cls:=.type "list",dict:=J,data:=.seq a.toArray d,slots:=(T' [])}->EP X g v Q (.ref s.heap.objs.size) {s with heap:=c}:=λa f i c d kp e=>
  #[.ref s.heap.objs.size,_,A.laid (t':=s.toks) kp (Bc _) (show AY X.prog X.w _ c _ (.lst ys)from#[i,a,d,f,e]),rfl,q _<|A.hok.fresh<|Bc _]
 rcases h with h|h
 ·obtain⟨a,f,y,i⟩:=A.list h;have j:=f.length;obtain⟨o,k,m,n,hd⟩:=y.isList;exact call_list_seq p (.inl rfl) k m hd (λc d kp e=>fin a f i c d kp e) (by erw[BV]<;>lia)
 ·obtain⟨a,f,⟨o,k,m,n,hd⟩,i⟩:=A.tuple h;have j:=f.length;exact call_list_seq p (.inr rfl) k m hd (λc d kp e=>fin a f i c d kp e) (by erw[BV]<;>lia)
theorem ny:Eh X (.type "tuple") (λxs H Q=>∃p ys,xs=[.ref p]/\((BJ X.K H p ys/\∀l,H l=J->Q (.ref l) (AK H l (.tup ys)))\/(B0 X.K H p ys/\Q (.ref p) H))):=by
 intro g s t H xs v Q k r h;obtain⟨p,ys,rfl,h⟩:=h;obtain⟨u,rfl,m⟩:=E4 r;cases m;rcases h with⟨c,q⟩|⟨c,q⟩
 ·obtain⟨a,d,f,i⟩:=k.list c;have j:=d.length;exact call_tuple_list f.isList (λn kp=>#[.ref n.objs.size,_,((k.kept (t':=s.toks) kp).laid (t':=s.toks) (λb o e=>Bn _ e) (Bc _) (show AY X.prog X.w _ _ _ (.tup ys)from#[i,a,d,IsTup.new _ _])),rfl,q _<|(k.kept (t':=s.toks) kp).hok.fresh (Bc _)]) (by erw[BV]<;>lia)
 ·obtain⟨a,d,f,i⟩:=k.tuple c;exact call_tuple_same f #[.ref p,H,k,rfl,q]
def X0(K:Am)(T:String)(x:V)(H:Hp):Prop:=match x with
 |.str _=>T="str"
 |.int _=>T="int"
 |.ref p=>(T="list"/\∃a,BJ K H p a)\/(T="tuple"/\∃o,K.lookup p=Z o/\o.cls=.type "tuple"/\o.dict=J) \/
   (T="dict"/\(∃b c,Rd H p (.dct b c)))
 |_=>False
theorem nz{b:AR}{s:Ab}{T:String}{x:V}{v:Aa}(m:Inv X b I H s)(r:RelV x v)(ty:X0 X.K T x H):s.TypeIs v T/\∀a,v=.ref a->∃ob,s.heap.get? a=Z ob/\ob.dict=J:=by
 cases x with
 |str z=>
  obtain⟨t,rfl⟩:=r;cases(show T="str" from ty);exact#[typeIs_str s z t,λ_ e=>nomatch e]
 |int i=>
  obtain⟨t,rfl⟩:=r;cases(show T="int" from ty);exact#[typeIs_int s i t,λ_ e=>nomatch e]
 |ref p=>
  cases r;rcases ty with⟨rfl,l,g⟩|⟨rfl,o,d,h,hd⟩|⟨rfl,_,_,d⟩
  ·obtain⟨j,_,f,_⟩:=m.list g;refine#[f.isList.typeIs,λa e=>?_];cases e;obtain⟨o,n,e,c,hd,_⟩:=f;exact#[o,e,hd]
  ·refine#[#[o,m.kIn p o d,h],λa e=>?_];cases e;exact#[o,m.kIn _ o d,hd]
  ·obtain⟨_,_,_,o,_,_,e,ex,_⟩:=d.ok m.hok;refine#[#[o,e,ex.1],λa k=>?_];cases k;exact#[o,e,ex.2.1]
 |_=>exact BS ty
def nA(K:Am)(T:String)(r:V->U V->Hp->VK->Prop)(c:TE)(t:TA):TE:=λa H Q=>c a H λx b=>X0 K T x b/\t a b λd e=>r x d e Q
variable{e:Expr}{to:TE}{t:TA}{name:Ae}{T id:String}{r:V->U V->Hp->VK->Prop}
theorem Ku(m:PlainAttrs T)(slot:Slot T name id)(g:typeOf (.builtin id)=Ay (.type "method_descriptor"))(n:M5 X id r)(p:PE X o to)(q:PA X (e::es) t) (c:GA o name X.env (An o X.env)=An o X.env:=by rfl) (f:((As cpos (Az (e::es) X.env)).all (λx=>!x.1)&&(GB cpos (GC [] X.env)).all (λx=>x.1.isSome) && decide ((e::es).length+([]:U Ev).length+(if([]:U Ev).isEmpty then 0 else 1)<30))=J':=by rfl) (d:(apos.endLine==cpos.line)=J':=by rfl) (u:Az (e::es) X.env=(O',An e X.env)::Az es X.env:=by rfl) (b:(As cpos (Az es X.env)).any (·.1)=O':=by rfl):PE X (.Call (.Attribute o name apos) (e::es) [] cpos) (nA X.K T r to t):=by
 intro a s i H Q R h;refine wpAny_Call_method_late c f d rfl<|AV (p a s i H _ R h) λv w y=>?_;obtain⟨x,z,j,k,ty,A⟩:=y;obtain⟨B,C⟩:=nz j k ty;refine#[T,id,m,slot,g,B,C,?_];have l:=q cpos a w i z _ j A;rw[u]at l ⊢;exact Calls.callWith_builtin (by show(O'||(As cpos<|Az es X.env).any (·.1))=O';rw[b]<;>rfl)<|Calls.evalArgs_plain<|AV l λE G ⟨F,L,M,N,P⟩=>n a G i L x F v E Q M k N P
end
def So(X:Cx)(id:String)(r:V->U V->Hp->VK->Prop):Prop:=
 ∀(a:AR) (s:Ab) (b:St) (H:Hp) (x:V) (c:U V) (v:Aa) (d:U Aa) (Q:VK),Inv X a b H s->RelV x v->Ao c d->r x c H Q ->
  wpAny (Ag X.prog X.w) X.A (call (.builtin id) (v::d)) (EP X a b Q) X.xe s
theorem Ao.one{x:V}{us:U Aa}(h:Ao [x] us):∃u,us=[u]/\RelV x u:=by
 cases h with
 |cons r t=>cases t;exact#[_,rfl,r]
theorem Ao.two{x y:V}{us:U Aa}(h:Ao [x,y] us):∃u v,us=[u,v]/\RelV x u/\RelV y v:=by
 cases h with
 |cons r t=>
  cases t with
  |cons q t=>cases t;exact#[_,_,rfl,r,q]
theorem Ao.eraseIdx:∀{xs:U V}{us:U Aa}(i:Nat),Ao xs us->Ao (xs.eraseIdx i) (us.eraseIdx i)
 |_,_,_,.nil=>.nil
 |_,_,0,.cons _ t=>t
 |_,_,i+1,.cons r t=>.cons r<|Ao.eraseIdx i t
theorem X1{a:Type}:∀(l:U a)(i:Nat),(l.eraseIdx i).length<=l.length
 |[],_=>Bc _
 |_::_,0=>Nat.le_succ _
 |_::r,i+1=>Nat.succ_le_succ<|X1 r i
section
variable{s:Ab}{l b:Ac}{xs:U V}
theorem Inv.lset{a its':U Aa}{n:Nat}{f:Array Aa->Array Aa}(j:Inv X pins I H s)(b:H l=Z (.lst xs)) (e:s.heap.get? l=Z {cls:=.type "list",data:=.seq a.toArray n}) (c:f a.toArray=its'.toArray) (d:Ao ys its') (hz:ys.length<=Ax):Inv X pins I (AK H l (.lst ys)) {s with heap:=s.heap.update l (Fq f),toks:=t' }:=by
 have q:=PySem.IsL.update e f;rw[c]at q;refine j.write (x:=l) (e:=l) (b ▸ trivial) (.inl rfl) (λi u g h=>(LB s.heap (Fq f)<|Bv g).trans h) ⟨_,q⟩ ?_;exact⟨hz,its',_,d,q⟩
theorem Inv.lnew{a:U Aa}(c:Inv X pins I H s)(b:Ao ys a)(hz:ys.length<=Ax):Inv X pins I (AK H s.heap.objs.size (.lst ys)) {s with heap:=s.heap.push {cls:=.type "list",data:=.seq a.toArray},toks:=t' }:=c.laid (λ_ _ q=>Bn _ q) (Bc _) #[hz,a,0,b,B2 _ rfl]
theorem Inv.fresh(a:Inv X pins I H s):H s.heap.objs.size=J:=a.hok.fresh<|Bc _
theorem Inv.lstM(c:Inv X pins I H s)(b:H l=Z (.lst xs)):xs.length<=Ax/\∃(a:U Aa)(n:Nat),Ao xs a/\xs.length=a.length/\s.heap.get? l=Z {cls:=.type "list",data:=.seq a.toArray n}:=by
 obtain⟨z,a,n,r,e⟩:=c.hok l _ b;exact#[z,a,n,r,r.length,e]
theorem nB{n:Nat}(h:n<=Ax):Builtin.List.listTooLong n=O':=by
 exact decide_eq_false<|Nat.not_lt.mpr h
end
section
def nC:V->U V->Hp->VK->Prop:=λx b H Q=>∃l a y,x=.ref l/\b=[y]/\H l=Z (.lst a)/\a.length<Ax/\Q .non (AK H l (.lst (a++[y])))
theorem X2:So X "list.append" nC:=by
 rintro b s i H x j v k Q d f g ⟨l,m,y,rfl,rfl,c,o,q⟩;cases f;obtain⟨u,rfl,h⟩:=g.one;obtain⟨z,a,n,r,p,e⟩:=d.lstM c;refine Jd F.slot_list_append #[_,e,rfl] F.entry_list_append (F.args_list_append_2 _ _) (PySem.list_append l a.toArray n u (by rw[BV];lia)) #[e,?_];refine#[.non,_,d.lset (its':=a++[u]) c e (by simp) (r.append<|.cons h .nil) ?_,rfl,q];rw[Ej,Kv];lia
def nE:V->U V->Hp->VK->Prop:=λx d H Q=>∃l b a c,x=.ref l/\d=[.ref b]/\H l=Z (.lst a)/\H b=Z (.lst c)/\a.length+c.length<=Ax/\Q .non (AK H l (.lst (a++c)))
theorem nG:So X "list.extend" nE:=by
 rintro g s A H x B v C Q K j k ⟨l,b,E,G,rfl,rfl,h,m,o,q⟩
 cases j
 obtain⟨u,rfl,p⟩:=k.one
 cases p
 obtain⟨z,c,n,r,i,e⟩:=K.lstM h
 obtain⟨L,a,n2,t,w,y⟩:=K.lstM m
 have d:c.toArray.size+a.toArray.size<=Ax:=by rw[BV,BV];lia
 have f:¬ (!c.toArray.isEmpty&&Builtin.List.listTooLong (c.toArray.size+a.toArray.size))=J':=by
  rw[nB d,Bool.and_false]
  exact MO
 refine Jd F.slot_list_extend #[_,e,rfl] F.entry_list_extend (F.args_list_extend_2 _ _)
  (AutoSeq1.list_extend_list_list_0 l c.toArray n b a.toArray n2 f (BV ▸ Sq d) (Kw d)) #[e,y,?_]
 refine#[.non,_,K.lset (its':=c++a) h e (by simp) (r.append t) ?_,rfl,q]
 rw[Ej]
 exact W.kdl_size o
end
section
set_option maxRecDepth 100000 in
end
end L2
namespace Att
open PySem PySem.W PySem.Calls PyProof.Rows
theorem nH{P:Params}{h:Ak}:∀(ns:U Int)(vs:U Aa),WellAll P h vs (ns.map WData.int)->IntsAre vs ns:=by
 intro ns;induction ns with
 |nil=>
  intro vs w;cases w;exact .nil
 |cons n ns c=>
  intro vs w;cases w with
  |cons a b=>
   cases a;exact .cons _ _<|c _ b
theorem nI{l:OpenLaw}{n:Nat}(s:l.most=Z n){P:Params}{h:Ak}{args:U WData}{Zm:U Aa} (b:l.row.toRowW.claim.pre args=J') (f:WellAll P h Zm args):∃a vs ns,Zm=[B8 a]/\args=[WData.list (ns.map WData.int)]/\h.get? a=Z {cls:=.type "list",data:=.seq vs.toArray}/\IntsAre vs ns/\ns.length<=n:=by
 have i:l.pre.holds [] {args:=args}=J':=(pre_splitW b).2;obtain⟨d,r,rfl,j,k⟩:=hasAllW_cons<|(pre_splitW b).1;obtain rfl:=hasAllW_nil k;obtain⟨t,rfl,m⟩:=hasW_list j;obtain⟨ns,rfl⟩:=items_int m;have c:ns.length<=n:=by
  have g:(WTm.not<|.lt (.lit<|.int n)<|.len<|.arg 0).holds [] {args:=[.list<|ns.map .int]}=J':=by
   have g:=(holds_andW i).1;grind
  have u:=condW_of g<|w_not<|w_lt w_lit<|w_len_list<|w_arg rfl;simp_all
 cases f with
 |cons o p=>
  cases p;cases o with
  |list q e=>exact#[_,_,ns,rfl,rfl,q,nH ns _ e,c]
theorem nJ(l:OpenLaw)(args:U WData):l.row.toRowW.claim.post args (.bool J') args=J':=postW_of (r:=l.row.toRowW) (X:=(J'==J')) (show WShape.has [] (.bool J') .bool=J' by rfl) (show(WTm.eq .res<|.lit<|.bool J').value [] {args:=args,res:=Z<|.bool J',after:=args}=Z (.bool<|true==J')from w_eq_bool (w_res rfl) w_lit) rfl
theorem attach_call{l:OpenLaw}{n:Nat}{q:AJ}{c:U Ae}{y:(Bi)->Ak->Prop}{z:Ai->Ak->Prop}{d:DefRec}
  (C:l.most=Z n) (p:d.params.defaults=[])
  (call:∀(w:Ai) (s₀ b:Ab) (mg s:Bi) (h:Ac) (o:Obj) (t m e:Aa) (a:Ac) (vs:U Aa) (ns:U Int),
   Ground q c [] y w s₀ mg s b.heap->z w b.heap ->
   b.heap.get? h=Z o->o.data=.func (docDef d.name d.params d.body d.scope t m e)->b.heap.CodeRec m d.name->mg d.name=Z (.ref h) ->
   b.heap.get? a=Z {cls:=.type "list",data:=.seq vs.toArray}->IntsAre vs ns->ns.length<=n->b.gens=(T' []) ->
   codeAny (Ag l.prog w) callerA (.call (.ref h) #[[.ref a],[]]) (λr s'=>r=.ok (.ret (.bool J'))/\OldK b.heap s'.heap/\s'.os=b.os/\AllBare s'.gens) b):
  WalkO q c y z l.row.toRowW d [] (λf vs=>PySem.call f vs):=by
 intro w s₀ b mg s G Y h o t m e E H R hd u A v F args Zm as i B L x M
 obtain rfl:E=.none:=Dflts.none A p
 obtain rfl:H=.none:=Dflts.noKw A
 obtain⟨a,vs,ns,rfl,rfl,j,g,k⟩:=nI C i x
 refine enter_call (Ko (call w s₀ b mg s h o t m e a vs ns G Y R (fd_plain hd) u v j g k F) λr s' N=>?_)
 obtain⟨rfl,K,Q,T⟩:=N
 exact#[.inl #[.bool J',.bool J',[],rfl,λ_=>rfl,.bool J',nJ l _,λ_=>#[List.Pairwise.nil,λ_ P=>(nomatch P)]],K,Q,T]
end Att
namespace L2
open PySem PySem.Spec PyProof.Rows
theorem X3{vs:U Aa}{ns:U Int}(h:IntsAre vs ns):Ao (ns.map V.int) vs:=by
 induction h with
 |nil=>exact .nil
 |cons n t _ a=>exact .cons #[t,rfl] a
def Sr(H:Hp):Prop:=∀b,H b=J\/∃o a,H b=Z (.frz o (.lst a))
theorem nK{P:AJ}{w:Ai}{K:Am}{mg B:Bi}{k:Nat}{fd:B3}{x:Ae}{sp:Sp}{c:Ab}{vs:U Aa}{ns:U Int}
  (S:K.In c.heap) (j:c.heap.Ns BM mg) (f:c.heap.Ns builtinsNs B) (E:∀x:Ae,x≠"__name__"->B x=DY x) (l:c.heap.NoLimit) (Y:c.gens=(T' []))
  (G:c.heap.get? a=Z {cls:=.type "list",data:=.seq vs.toArray}) (X:IntsAre vs ns) (Q:ns.length<=Ax) (hr:AE k callerA)
  (F:∀base:Ak,K.In base->base.Ns BM mg->AO P w K mg base CX k C fd [x] sp) (i:∀(s:Ab) (u:Aa),BindsTo s fd #[[u],[]] [(x,u)])
  (R:∀H:Hp,Sr H->BJ K H a (ns.map V.int)->sp [.ref a] H (λv _=>v=.bl J') λ_ _ _=>False)
  (L:∀H e s',CX [] H c (λ_ _ _=>False) e s'->False):
  codeAny (Ag P w) callerA (.call (.ref C) #[[.ref a],[]]) (λr s'=>r=.ok (.ret (.bool J'))/\OldK c.heap s'.heap/\s'.os=c.os/\AllBare s'.gens) c:=by
 have core:∀H:Hp,Sr H->BJ K H a (ns.map V.int)->B9 P w H c.heap->(∀b,H b≠J->b=a)->(H a≠J->K.lookup a=J) ->
   codeAny (Ag P w) callerA (.call (.ref C) #[[.ref a],[]]) (λr s'=>r=.ok (.ret (.bool J'))/\OldK c.heap s'.heap/\s'.os=c.os/\AllBare s'.gens) c:=by
  intro H T hS hok hA hK
  have M:∀{b:Ac} {o:Obj} {y:Array HH} {A:Nat},c.heap.get? b=Z o->o.data=.dict y A->H b=J:=λ{b o y A} e d=>by
   grind
  have g:∀{b:Ac} {m:Bi},c.heap.Ns b m->(Kg c.heap H).Ns b m:=λ{b m} ⟨o,y,A,e,d,r⟩=>#[o,y,A,(λe n=>WU e n) e (M e d),d,r]
  have p:K.In (Kg c.heap H):=λb o e=>(λe n=>WU e n) (S b o e) (by
   cases q:H b with
   |none=>rfl
   |some u=>
    have e':b=a:=hA b (by rw[q];simp)
    subst e'
    rw[hK (by rw[q];simp)]at e;cases e)
  have hM:Mod K mg (Kg c.heap H):=#[p,g j,#[B,g f,E],let⟨mc,h1,h2⟩:=l;#[mc,g h1,h2]]
  refine Ko ((F _ p (g j)).run callerA [] c H #[[.ref a],[]] [.ref a] [.ref a] _ _ hr #[rfl,hM,λb o e=>kW e,Lv (kU _ _),trivial,λb f=>absurd (show b∈([]:U Ac)from f) (by simp),hok,.of_eq Y] (i c (.ref a)) (.cons rfl .nil) (R H T hS)) λr s' h=>?_
  cases r with
  |error e=>exact(L H e s' h).elim
  |ok fl=>
   cases fl with
   |next=>exact BS h
   |brk=>exact BS h
   |cont=>exact BS h
   |ret u=>
    obtain⟨v,H',os,bare,un,t,r',q⟩:=h
    subst q
    obtain rfl:u=Value.bool J':=r'
    refine#[rfl,OldK.of_keep λb o e=>?_,os,bare]
    cases q:H b with
    |none=>exact un.keep b o e q (by intro z;exact absurd (show b∈([]:U Ac)from z) (by simp)) (by simp)
    |some u=>
     rcases T b with z|⟨ob,xs,z⟩
     ·rw[q]at z;cases z
     ·obtain⟨W,_⟩:=hok b _ z
      obtain⟨e2,_⟩:=t b _ (un.frzs b ob _ z)
      rw[e]at W;cases W
      exact e2
 cases N:K.lookup a with
 |some o=>
  have e:=S a o N
  rw[G]at e
  cases e
  refine core (λ_=>J) (λ_=>.inl rfl) (.inr #[_,vs.toArray,_,N,rfl,rfl,rfl,by rw[BV,X.length];exact Q,by simpa using(X3 X)]) (λb u z=>by have z':(J:O HO)=Z u:=z;cases z') (λb z=>absurd rfl z) λz=>absurd rfl z
 |none=>
  refine core (λb=>if b=a then Z (.frz {cls:=.type "list",data:=.seq vs.toArray} (.lst (ns.map V.int)))else J) (λb=>?_) (.inl (.inr #[{cls:=.type "list",data:=.seq vs.toArray},if_pos rfl])) (λb u z=>?_) (λb z=>?_) λ_=>N
  ·by_cases f:b=a
   ·exact .inr #[_,_,if_pos f]
   ·exact .inl (if_neg f)
  ·by_cases f:b=a
   ·cases((if_pos f).symm.trans z)
    subst f
    exact#[G,by rw[A9];exact Q,vs,_,(X3 X),G]
   ·cases((if_neg f).symm.trans z)
  ·by_cases f:b=a
   ·exact f
   ·exact absurd (if_neg f) z
theorem walk_of{l:PySem.W.OpenLaw}{n k:Nat}{q:AJ}{i:U Ae}{X:(Bi)->Ak->Prop}{C:Ai->Ak->Prop}{d:DefRec}{K:Params->Am}{CX:Ai->DF}{sp:Ai->Sp}{x:Ae} (P:l.most=Z n) (t:n<=Ax) (y:d.params.defaults=[]) (L:AE k callerA) (M:∀(w:Ai) (h:Ak),C w h->(K w.params).In h) (F:∀(w:Ai) (mg:Bi) (r:Ac) (h:Ak),(K w.params).In h->h.Ns BM mg->mg d.name=Z (.ref r)->∃fd:B3,(∀(s:Ab) (u:Aa),BindsTo s fd #[[u],[]] [(x,u)])/\∀base:Ak,(K w.params).In base->base.Ns BM mg->AO l.prog w (K w.params) mg base (CX w) k r fd [x] (sp w)) (z:∀(w:Ai) (H:Hp) (a:Ac) (ns:U Int),ns.length<=n->Sr H->BJ (K w.params) H a (ns.map V.int)->sp w [.ref a] H (λv _=>v=.bl J') λ_ _ _=>False) (A:∀(w:Ai) (H:Hp) (s:Ab) (e:Aa) (s':Ab),CX w [] H s (λ_ _ _=>False) e s'->False):PySem.W.WalkO q i X C l.row.toRowW d [] (λf vs=>PySem.call f vs):=by
 refine Att.attach_call P y λw s₀ m mg mb r o pm cd N a vs ns G Y ho hd R B p j c Q=>?_;have E:=M w _ Y;obtain⟨fd,S,hF⟩:=F w mg r _ E G.T.g B;exact nK E G.T.g G.T.b G.T.builtins G.T.nolimit Q p j (BR c t) L hF S (λH hO hS=>z w H a ns c hO hS) λH e s'=>A w H m e s'
noncomputable def GG(s:Av)(j:Nat):Av:=match s with
 |.ClassDef _ _ _ a _ _ _ _ _ _ _=>a.getD j (.Pass #[0,0,0,0])
 |_=>.Pass #[0,0,0,0]
noncomputable def Hh(s:Av):Arguments:=match s with
 |.FunctionDef _ a _ _ _ _ _ _ _ _=>a
 |_=>{posonlyargs:=[],args:=[],vararg:=J,kwonlyargs:=[],kw_defaults:=[],kwarg:=J,defaults:=[]}
noncomputable def ZH(s:Av):U Av:=match s with
 |.FunctionDef _ _ b _ _ _ _ _ _ _=>b
 |_=>[]
noncomputable def Ze(s:Av):Scope:=match s with
 |.FunctionDef _ _ _ _ _ _ a _ _ _=>a
 |_=>{kind:=.function,names:=[],isGenerator:=O',isCoroutine:=O'}
abbrev Bd:DF:=λ_ _ _ _ _ _=>False
abbrev E0:XK:=λ_ _ _=>False
theorem HU:E6 Bd X E0:=λ_ _ _ _ _ _ _ h=>h.elim
structure HV(K:Am)(x qual:Ae)(st:Av)(f:Ac)(fd:B3):Prop where
 ex:∃(oc:Aa) (od:Option Ac) (kV doc pm:Aa) (an:Option Ac) (cdv ct:Aa) (osl:Array (Option Aa)),
  fd=IZ x qual (Hh st) (ZH st) (Ze st) .none kV doc pm an cdv ct/\K.lookup f=Z #[oc,od,.func fd,osl]/\PySem.W.codeIn K cdv qual=J'
 kp:HN K (.ref f)=J'
section
variable{P:AJ}{w:Ai}{K:Am}{mg:Bi}{base:Ak}
theorem HV.ok{x a:Ae}{st:Av}{f:Ac}{fd:B3}{N d:U Ae}{k:Nat}{sp:Sp}(F:HV K x a st f fd)(S:Z5 N d (Ze st))(len:∀vs H Q E,sp vs H Q E->vs.length=d.length) (c:∀(b:Aa) (A:Ah) (outer:U Env) (s:Ab) (H:Hp) (vs:U V) (Q:VK) (E:XK),AE k (A.deeper (A0 a (Ze st) s.heap.objs.size f b))->sp vs H Q E->∃t,EI (C2 Bd P w K mg base N a (Ze st) f b A outer s H E).nox (ZH st) t/\t {nx:=λ_ H'=>Q .non H',rt:=Q} (FM N vs) H):AO P w K mg base Bd (k+1) f fd d sp:=by
 obtain⟨n,o,p,i,r,u,b,ct,j,rfl,l,e⟩:=F.ex;refine XF l e S len λA outer s H vs Q E m g=>?_;obtain⟨t,h,q⟩:=c b A outer s H vs Q E m g;exact#[t,h.nox,q]
theorem X4{x a:Ae}{st:Av}{f:Ac}{j:Aa}{m g:O Ac}{e:Array (O Aa)}{h d i b ct:Aa}(l:K.lookup f=Z #[j,m,.func (IZ x a (Hh st) (ZH st) (Ze st) .none h d i g b ct),e]) (c:PySem.W.codeIn K b a=J') (k:HN K (.ref f)=J'):HV K x a st f (IZ x a (Hh st) (ZH st) (Ze st) .none h d i g b ct):=#[#[j,m,h,d,i,g,b,ct,e,rfl,l,c],k]
end
theorem nM{n:Nat}(h:n<=1000):n<Ax:=Kx h (by ext)
def Aj(H H':Hp):Prop:=∀b o,H b=Z o->H' b=Z o
theorem Aj.refl(H:Hp):Aj H H:=λ_ _ h=>h
theorem Aj.trans{d e:Hp}(a:Aj H d)(b:Aj d e):Aj H e:=λc o h=>b c o<|a c o h
theorem Aj.free(e:Aj H H'){l:Ac}(h:H' l=Option.none):H l=Option.none:=by
 cases q:H l with|none=>rfl|some o=>
  rw[e l o q]at h;cases h
theorem Aj.seq{K:Am}{xs:U V}(e:Aj H H')(h:BJ K H a xs):BJ K H' a xs:=by
 rcases h with(h|⟨o,h⟩)|h
 ·exact .inl<|.inl<|e _ _ h
 ·exact .inl<|.inr ⟨o,e _ _ h⟩
 ·exact .inr h
structure NV(X:Cx)(i:Nat)(x:Ae):Prop where
 n:X.N[i]?=Z x
 v:MQ X.env.scope x
 d:Cj x
 c:(x==("__classdict__":Ae))=O'
theorem EM{i:Nat}{x:Ae}(n:X.N[i]?=Z x:=by rfl)(v:MQ X.env.scope x:=by first|exact Or.inl rfl|exact Or.inr (Or.inl rfl)|exact Or.inr (Or.inr rfl))(d:Cj x:=by ext)(c:(x==("__classdict__":Ae))=O':=by ext):NV X i x:=#[n,v,d,c]
theorem Ga{i:Nat}{x:Ae}(h:NV X i x):PE X (.Name x pos) (WX i):=WY h.n h.v h.d h.c
noncomputable def E7(env:Env):U (Ae×GD)->U (Ae×Ac)->U (Ae×Ac)
 |[],a=>a
 |(n,k)::r,a=>if k=Je then E7 env r ((n,(env.cells.lookup n).getD 0)::a)else E7 env r a
theorem X5{env:Env}(h:∀x∈scope.names,x.2=.free->∃c,env.cells.lookup x.1=Z c):closureFor scope env=Ay (E7 env scope.names []):=by
 have all:∀(l:U (Ae×GD)) (b:U (Ae×Ac)),(∀x∈l,x.2=.free->∃c,env.cells.lookup x.1=Z c) ->
   (forIn l b (λ(x:Ae×GD) (b:U (Ae×Ac))=>if(x.2==Je)=J' then(do let a <- cellOf env x.1;Ay<|ForInStep.yield<|(x.1,a)::b)else Ay (ForInStep.yield b)):Sem (U<|Ae×Ac))=Ay (E7 env l b):=by
  intro l;induction l with|nil=>intro b _;rfl|cons x l i=>
   intro b e;obtain⟨n,k⟩:=x;rw[List.forIn_cons];have f:=λb=>i b<|λy j=>e y<|BG _ j;by_cases d:k=.free
   ·subst d;obtain⟨c,g⟩:=e (n,.free) Bj rfl;erw[beq_self_eq_true,if_true,show cellOf env n=Ay c by unfold cellOf;erw[g],pure_bind,f,E7,g,Option.getD_some]
   ·erw[show(k==Je)=O' by simpa using d,Ew,if_false,pure_bind,f,E7,d]
 have:=all scope.names [] h;erw[closureFor];rw[<- bind_pure (Ay (E7 env scope.names []):Sem _),<- this]
theorem Ss{env:Env}:∀(l:U (Ae×GD))(a:U (Ae×Ac)),(∀x∈l,x.2=.free->∃c,env.cells.lookup x.1=Z c)->(∀p∈a,env.cells.lookup p.1=Z p.2)->∀p∈E7 env l a,env.cells.lookup p.1=Z p.2
 |[],a,_,h=>h
 |(n,k)::r,a,b,h=>by
  by_cases e:k=.free
  ·subst e;obtain⟨c,f⟩:=b (n,.free) Bj rfl;refine Ss r _ (λy d=>b y<|BG _ d) λp g=>?_;grind [Bz,Option.getD_some]
  ·erw[E7,e,if_false];exact Ss r a (λy d=>b y<|BG _ d) h
theorem Su{env:Env}:∀(l:U (Ae×GD))(a:U (Ae×Ac))(x:Ae),((x,Je)∈l\/∃c,(x,c)∈a)->∃c,(x,c)∈E7 env l a
 |[],a,x,h=>by
  rcases h with h|h
  ·cases h
  ·exact h
 |(n,k)::r,a,x,h=>by
  by_cases b:k=.free
  ·subst b;refine Su r _ x ?_;grind [Bz,Bj,BG]
  ·erw[E7,b,if_false];refine Su r a x ?_;rcases h with h|h
   ·rcases Bz.mp h with e|h
    ·cases e;exact absurd rfl b
    ·exact .inl h
   ·exact .inr h
theorem X6{a:Type}:∀{l:U (Ae×a)}{x:Ae}{c:a},(x,c)∈l->∃d,l.lookup x=Z d
 |[],_,_,h=>by cases h
 |(n,b)::r,x,c,h=>by
  rw[List.lookup_cons];cases e:x==n with|true=>exact#[b,rfl]|false=>
   rcases Bz.mp h with z|h
   ·cases z;simp at e
   ·exact X6 h
structure HW(own outs:List Ae)(sc osc:Scope):Prop where
 kind:sc.kind=.function
 nocell:∀x∈sc.names,x.2≠.cell
 free:∀x∈sc.names,x.2=.free->osc.names.lookup x.1=Z .cell\/osc.names.lookup x.1=Z .free
 loc:∀x∈sc.names,x.2=.local->sc.names.lookup x.1=Z .local
 out:∀x∈outs,sc.names.lookup x=Z .free
 nd:(own++outs).Nodup
theorem CY{env:Env}:∀{names:U (Ae×GD)}{x:Ae},names.lookup x=Z .free->((names.map λ(n,k)=>if(k==Je&&env.scope.kind==.function&&env.kindOf n==Z .cell)then(n,NameKind.cell)else(n,k)).lookup x=Z .cell \/(names.map λ(n,k)=>if(k==Je&&env.scope.kind==.function&&env.kindOf n==Z .cell)then(n,NameKind.cell)else(n,k)).lookup x=Z .free)
 |[],_,h=>by simp at h
 |(n,k)::r,x,h=>by
  have a:=@CY env r x;grind
theorem Cd{env:Env}:∀{names:U (Ae×GD)}{x:Ae}{k:GD},k=.cell\/k=.free->(∀y∈names,y.2≠.cell)->(names.map λ(n,k)=>if(k==Je&&env.scope.kind==.function&&env.kindOf n==Z .cell)then(n,NameKind.cell)else(n,k)).lookup x=Z k->(x,Je)∈names
 |[],_,_,_,_,h=>by simp at h
 |(n,j)::r,x,k,a,b,h=>by
  have d:=@Cd env r x k a λy c=>b y<|BG _ c;grind
def Di(X:Cx)(own a:U Ae)(scope:Scope)(C:Ac)(c:Ab)(d:Hp)(e:U Ac)(b:AR):Cx where
 prog:=X.prog
 w:=X.w
 K:=X.K
 mg:=X.mg
 base:=X.base
 A:=X.A
 N:=own++a
 s₀:=c
 H₀:=d
 env:=compEnvC scope (E7 X.env scope.names []) C X.env
 outer:=X.stack
 stack:=X.stack
 ex:=e
 fn:=λ_=>O'
 calm:=X.calm
 pn:=X.pn++b
 xe:=λ_ _=>False
def GH(X:Cx)(b:U Expr)(e:TT):Prop:=
 ∀(a:AR) (s:Ab) (d:St) (H:Hp) (Q:Bool->Hp->Prop),Inv X a d H s->e d H Q ->
  wpAny (Ag X.prog X.w) X.A (forIn b J' λc r=>if r=J' then do let ok <- isTrue c X.env (An c X.env);Ay (ForInStep.yield ok)else Ay (ForInStep.yield r)) (TP X a d Q) X.xe s
def nN:TT:=λ_ H Q=>Q J' H
theorem nO:GH X [] nN:=λ_ _ _ H _ a h=>wpAny_tests_nil #[H,a,h]
theorem nP{c:Expr}{b:TT}(h:PT X c b):GH X [c] b:=λa s d H Q e q=>wpAny_tests_one<|h a s d H Q e q
noncomputable def EN(k:Nat)(oix:U Nat)(I:St):St:=CV k J++oix.map λj=>(I[j]?).join
def Sv(k:Nat)(oix:U Nat)(g:TG)(l:TT)(m:TE)(r:It)(I:St)(H:Hp)(Q:VK):Prop:=
 ∃(n:Nat) (W:Nat->U V->Hp->Prop),W 0 [] H/\∀i c d,W i c d ->
  (r.stop i d/\c.length<=Ax/\∀p,d p=J->Q (.ref p) (AK d p (.lst c))) \/
  (r.go i d/\i<n/\c.length<Ax/\∃N:U V->Hp->Prop,(∀e f,N e f->W (i+1) e f)/\∀x h,r.yld i d x h->g x (EN k oix I) h λa o=>a.drop k=(EN k oix I).drop k /\
   l a o λb j=>if b=J' then m a j λy q=>N (c++[y]) q else N c j)
def Pk(k:Nat)(oix:U Nat)(wi:TI)(g:TG)(b:TT)(c:TE):TE:=λa H Q=>wi a H λe d=>Sv k oix g b c e a d Q
noncomputable def Fs(a:U Aa)(n:Nat):Obj:={cls:=.type "list",data:=.seq a.toArray n}
theorem B9.track{P:AJ}{w:Ai}{h:Ak}{o:HO}(x:B9 P w H h)(d:H a=J)(new:AY P w (AK H a o) h a o):B9 P w (AK H a o) h:=λb u e=>by
 by_cases f:b=a
 ·grind [ZZ]
 ·rw[Zn f]at e;exact(x b u e).stay (λc v _ q=>q) (λc q=>Zn (ZU q d) ▸ q) λc g q=>Zn (ZU q d) ▸ q
theorem X7{f:AR}{zA:Hp}{a:Ab}{P:It}{M:U Ac}{it:Ac}
  {own zB:U Ae} {oix:U Nat} {g:TG} {tt:TT} {Q:VK}
  (S:HW own zB scope X.env.scope) (hox:oix.map (λj=>X.N[j]?)=zB.map Z) (hc:X.calm=J')
  (hg:∀C a zA M f,PG (Di X own zB scope C a zA M f) tg g)
  (ht:∀C a zA M f,GH (Di X own zB scope C a zA M f) ifs tt)
  (he:∀C a zA M f,PE (Di X own zB scope C a zA M f) elt te)
  (B:Inv X f I zA a) (T:Hd X.prog X.w X.K tg P M it tn) (st:tn 0 a.heap) (f2:∀b∈M,FJ X f zA b)
  (h:Sv own.length oix g tt te P I zA Q)
  (hRR:∀(C:Ac) (s':Ab) (m:Bi) (H':Hp),s'.heap.Ns C m->Inv X f I H' s'->H' C=J->C≠X.env.locals->X.s₀.heap.objs.size<=C ->
   (∀x c,X.env.cells.lookup x=Z c->c≠C)->(∀p∈X.pn++f,p.1≠C)->Q (.ref a.heap.objs.size) H'->RR (.ref a.heap.objs.size) C (.ok .next) s'):
  wpAny (Ag X.prog X.w) X.A (newList []) (λacc s₃=>wpAny (Ag X.prog X.w) X.A (newFunctionEnv scope X.env.globals (E7 X.env scope.names []) [] X.env.qual J .none (Z X.env)) (λcenv s₄=>
   codeAny (Ag X.prog X.w) X.A (.compStart (.ListComp elt [#[tg,iter,ifs,0]] scope pos) 0 (.ref it) acc {cenv with scope:=relabel scope X.env}) (RR acc cenv.locals) s₄) E s₃) E a:=by
 obtain⟨n,W,w0,turn⟩:=h
 refine Jb (wpAny_newFunctionEnv S.nocell (by intro y hy;simp at hy) (λh₁ R L=>?_) S.kind)
 generalize hP:a.heap.push {cls:=.type "list",dict:=J,data:=.seq ([]:U Aa).toArray}=t at R L ⊢
 have hC:t.objs.size=a.heap.objs.size+1:=by rw[<- hP,Lw]
 generalize hCC:t.objs.size=C at R L hC ⊢
 have hDC:a.heap.objs.size≠C:=hC ▸ BY (Nat.lt_succ_self _)
 have H:a.heap.objs.size<C:=hC ▸ Nat.lt_succ_self _
 have old:∀b o,a.heap.get? b=Z o->h₁.get? b=Z o:=λb o e=>
  L.extBut b o (BY (HX (Bp e) H)) (Bn _ (hP ▸ Bn _ e))
 have clX:∀x c,(E7 X.env scope.names []).lookup x=Z c->X.env.cells.lookup x=Z c:=λx c e=>
  Ss scope.names [] (λx hx hf=>B.ok.has x.1 (S.free x hx hf)) (λp t=>by cases t) (x,c) (Kq e)
 have clHas:∀x,(x,Je)∈scope.names->∃c,(E7 X.env scope.names []).lookup x=Z c:=λx hx=>by
  obtain⟨c,hc⟩:=Su (env:=X.env) scope.names [] x (.inl hx)
  exact X6 hc
 have fpLt:∀b∈M,b<a.heap.objs.size:=λb G=>by
  obtain⟨o,e,_⟩:=T.obj 0 _ st b G
  exact Bp e
 have cLt:∀x c,X.env.cells.lookup x=Z c->c<a.heap.objs.size:=λx c e=>by
  obtain⟨v,q⟩:=B.cell x c e
  exact q.lt
 have fpStk:∀b∈M,b∉Cg X.stack:=λb G z=>by
  rcases Bz.mp (B.stkSub b z)with e|z
  ·exact(f2 b G).2.1 e
  ·exact(f2 b G).2.2.1 z
 have pinLt:∀p∈X.pn++f,p.1<a.heap.objs.size:=λp t=>Bp (B.pin p t).1
 have pinStk:∀p∈X.pn++f,p.1∉Cg X.stack:=λp t z=>by
  rcases Bz.mp (B.stkSub _ z)with e|z
  ·exact(B.pin p t).2.2.1 e
  ·exact(B.pin p t).2.2.2.1 z
 have fsLt:∀b∈Cg X.stack,b<a.heap.objs.size:=λb G=>by
  obtain⟨_,o,ho,_⟩:=B.stack.mem G
  exact Bp ho
 let Y:Cx:=Di X own zB scope C a zA M f
 have okY:Y.Ok:={
  mod:=B.ok.mod
  kind:=S.kind
  glob:=B.ok.glob
  blt:=B.ok.blt
  above:=Lq H
  inj:=λx y c h1 h2=>B.ok.inj x y c (clX x c h1) (clX y c h2)
  has:=λx hx=>by
   refine clHas x ?_
   rcases hx with hx|hx
   ·exact Cd (env:=X.env) (.inl rfl) S.nocell hx
   ·exact Cd (env:=X.env) (.inr rfl) S.nocell hx
  cab:=λx c hf _=>absurd (show O'=J' from hf) MO
  hd:=B.ok.hd
  frames:=B.ok.frames
  stk:=.inl rfl
  exf:=λb G=>#[BY (HX (fpLt b G) H),λx c e=>(f2 b G).2.2.2.2.1 x c (clX x c e)]
  bs:=B.bs
  bsz:=BR B.ok.bsz B.sz
  noex:=λb o e G=>by
   rcases(f2 b G).2.2.2.1 with z|z
   ·exact B.ok.noex b o e z
   ·exact absurd (BX (Bp e) (BR B.ok.bsz z)) (HJ _)
  exfs:=fpStk
  funs:=B.stack
  frf:=B.stkFree}
 have lenS:(EN own.length oix I).length=Y.N.length:=by
  have e:=congrArg IX hox
  erw[A9]at e
  show(CV own.length J++oix.map _).length=(own++zB).length
  rw[Ej,Ej,Lx,A9,e]
 have I4:Inv Y [(a.heap.objs.size,Fs [] 0)] (EN own.length oix I) zA {a with heap:=h₁}:={
  ok:=okY
  os:=rfl
  bare:=B.bare
  base:=Un.kept old
  loc:=by
   refine#[_,R,λi x v e1 e2 e3=>?_]
   have hi:own.length<=i:=by
    apply M7
    intro hlt
    unfold EN at e2
    rw[EL (Lx ▸ hlt),HP,if_pos hlt]at e2
    cases e2
   unfold EN at e2
   rw[Hg (Lx ▸ hi),Lx,CW]at e2
   have e1':zB[i-own.length]?=Z x:=by
    have e1:(own++zB)[i]?=Z x:=e1
    rwa[Hg hi]at e1
   cases ej:oix[i-own.length]? with
   |none=>rw[ej]at e2;cases e2
   |some j=>
    rw[ej]at e2
    have e2':(I[j]?).join=Z v:=FE e2
    have e2'':I[j]?=Z (Z v):=by
     cases eI:I[j]? with
     |none=>rw[eI]at e2';cases e2'
     |some z=>rw[eI]at e2';exact congrArg Z e2'
    have eN:X.N[j]?=Z x:=by
     have q:=congrArg (λl=>l[i-own.length]?) hox
     erw[CW,ej,e1',Jf]at q
     exact FE q
    have hfree:scope.names.lookup x=Z .free:=S.out x (Fn e1')
    have hk:X.env.scope.names.lookup x=Z .cell\/X.env.scope.names.lookup x=Z .free:=S.free (x,.free) (Kq hfree) rfl
    obtain⟨m,hn,hl⟩:=B.loc
    obtain⟨u,r,l⟩:=hl j x v eN e2'' (by rcases hk with hk|hk;exact .inr (.inl hk);exact .inr (.inr hk))
    refine#[u,r,.inr #[CY (env:=X.env) hfree,?_]]
    obtain⟨c,ec⟩:=clHas x (Kq hfree)
    refine#[c,ec,?_]
    rcases l with⟨k,_⟩|⟨_,c',e',o,ho,hd⟩
    ·rcases hk with hk|hk
     ·exact absurd (k.symm.trans hk) (by ext)
     ·exact absurd (k.symm.trans hk) (by ext)
    ·rw[clX x c ec]at e'
     cases e'
     exact#[o,old _ _ ho,hd]
  cell:=λx c e=>by
   obtain⟨v,o,ho,hd⟩:=B.cell x c (clX x c e)
   exact#[v,o,old _ _ ho,hd]
  free:=B.hok.fresh (Lq H)
  freeC:=λx c e=>B.freeC x c (clX x c e)
  pin:=λp t=>by
   rcases Cm.mp t with t|t
   ·obtain⟨e,n,_,_,d⟩:=B.pin p t
    exact#[old _ _ e,n,BY (HX (pinLt p t) H),pinStk p t,d]
   ·have e:p=(a.heap.objs.size,Fs [] 0):=by simpa using t
    subst e
    refine#[(L.extBut _ _ hDC (Bn _ (hP ▸ B2 _ rfl))),B.hok.fresh (Bc _),hDC,λz=>absurd (fsLt _ z) (HJ _),λv z=>?_]
    cases z
  hok:=B.hok.kept old
  len:=lenS}
 have fpY:∀{H':Hp} {s:U Aa} {k:Nat},(∀b∈M,H' b=J)->∀b∈M,FJ Y [(a.heap.objs.size,Fs s k)] H' b:=λ{H' s k} hn b G=>by
  refine#[hn b G,BY (HX (fpLt b G) H),fpStk b G,.inl G,λx c e=>(f2 b G).2.2.2.2.1 x c (clX x c e),λp t=>?_]
  rcases Cm.mp t with t|t
  ·exact(f2 b G).2.2.2.2.2 p t
  ·have e:p=(a.heap.objs.size,Fs s k):=by simpa using t
   subst e
   exact Gz (fpLt b G)
 have fin:∀(i:Nat) (ys:U V) (s:U Aa) (k:Nat) (H':Hp) (s':Ab),Inv Y [(a.heap.objs.size,Fs s k)] (EN own.length oix I) H' s'->Ao ys s->ys.length<=Ax ->
   Q (.ref a.heap.objs.size) (AK H' a.heap.objs.size (.lst ys))->RR (.ref a.heap.objs.size) C (.ok .next) s':=λi ys s k H' s' I' rv hz q=>by
  obtain⟨m,hn,_⟩:=I'.loc
  obtain⟨eD,nD,_⟩:=I'.pin (a.heap.objs.size,Fs s k) (De _ (by simp))
  have neH:∀b o,zA b=Z o->b≠a.heap.objs.size:=λb o e=>BY (B.hok.lt e)
  have un':Un (Cg X.stack) M zA (AK H' a.heap.objs.size (.lst ys)) a.heap s'.heap:=
   #[I'.base.keep,I'.base.slot,λb o e n hx=>Zn ((λb o e=>BY (Bp e)) b o e) ▸ I'.base.free b o e n hx,I'.base.there,λb xs e=>Zn (neH b _ e) ▸ I'.base.tups b xs e,
    λb o u e=>Zn (neH b _ e) ▸ I'.base.frzs b o u e,λb ps e=>Zn (neH b _ e) ▸ I'.base.tbls b ps e]
  refine hRR C s' m _ hn (B.call' (ch:=M) I'.os un' (B9.track I'.hok nD #[hz,s,k,rv,eD]) I'.bare λb G=>#[(f2 b G).2.2.2.1,(f2 b G).2.1,(f2 b G).2.2.2.2.1,(f2 b G).2.2.2.2.2]) ?_ ?_ ?_ ?_ ?_ q
  ·rw[Zn (Bv hDC)];exact I'.free
  ·exact Gz (HX B.lt H)
  ·exact BR B.sz (Lq H)
  ·exact λx c e=>BY (HX (cLt x c e) H)
  ·exact λp t=>BY (HX (pinLt p t) H)
 have loop:codeAny (Ag X.prog X.w) X.A (.compLoop (.ListComp elt [#[tg,iter,ifs,0]] scope pos) 0 (.ref it) (.ref a.heap.objs.size) Y.env) (RR (.ref a.heap.objs.size) C) {a with heap:=h₁}:=by
  refine codeAny_loop rfl (λk s'=>∃(i:Nat) (ys:U V) (s:U Aa) (c:Nat) (H':Hp),Inv Y [(a.heap.objs.size,Fs s c)] (EN own.length oix I) H' s'/\Ao ys s/\tn i s'.heap/\(∀b∈M,H' b=J)/\W i ys H'/\k=n-i) (λk s' hI=>?_) n
   #[0,[],[],0,zA,I4,.nil,T.keep 0 _ _ st λb _ o e=>old b o e,λb G=>(f2 b G).1,w0,rfl]
  refine wpAny_noted ?_
  obtain⟨i,ys,s,c,H',I',rv,st',fr',w',ek⟩:=hI
  rcases turn i ys H' w' with⟨stop,hz,q⟩|⟨go,hin,hz,N,hN,step⟩
  ·refine Al (wpAny_standAt (Al (AV (T.done Y rfl rfl rfl hc i _ s' _ H' _ I' (fpY fr') st' stop) λr s1 ⟨hr,I1⟩=>?_)))
   subst hr
   obtain⟨_,nD,_⟩:=I1.pin (a.heap.objs.size,Fs s c) (De _ (by simp))
   exact AQ (fin i ys s c H' s1 I1 rv hz (q _ nD))
  ·refine Al (wpAny_standAt (Al (AV (T.item Y rfl rfl rfl hc i _ s' _ H' _ I' (fpY fr') st' go) λr s1 ⟨u,hr,h1⟩=>?_)))
   subst hr
   refine Al (AV h1 λ_ s5 z9=>?_)
   obtain⟨x,H5,I5,r5,y5,st5,fr5⟩:=z9
   refine Al (wpAny_noRaise (AV (hg C a zA M f _ s5 _ H5 x u _ (I5.pinned (fpY fr5) (T.obj _ _ st5)) r5 (step x H5 y5)) λ_ s6 z9=>?_))
   obtain⟨σ6,H6,I6,dr6,q6⟩:=z9
   refine Al (wpAny_noRaise (AV (ht C a zA M f _ s6 σ6 H6 _ I6 q6) λok s7 ⟨H7,I7,q7⟩=>?_))
   have back:∀{H8:Hp} {s8:Ab} {its8:U Aa} {c8:Nat},Inv Y ([(a.heap.objs.size,Fs its8 c8)]++Kk M s5.heap) σ6 H8 s8 ->
     Inv Y [(a.heap.objs.size,Fs its8 c8)] (EN own.length oix I) H8 s8/\tn (i+1) s8.heap/\∀b∈M,H8 b=J:=λ{H8 s8 its8 c8} I8=>by
    refine#[I8.unpinned.weak ?_ λj v e=>?_,T.keep _ _ _ st5 λb G o e=>(I8.pin (b,o) (De _ (De _ (O9 G e)))).1,λb G=>?_]
    ·exact lenS.trans I8.len.symm
    ·have hj:own.length<=j:=by
      apply M7
      intro hlt
      unfold EN at e
      rw[EL (Lx ▸ hlt),HP,if_pos hlt]at e
      cases e
     have e':=congrArg (λl=>l[j-own.length]?) dr6
     erw[Jg]at e'
     rw[show own.length+(j-own.length)=j by exact Nat.add_sub_of_le hj]at e'
     exact e'.trans e
    ·obtain⟨o,e,d⟩:=T.obj _ _ st5 b G
     exact(I8.pin (b,o) (De _ (De _ (O9 G e)))).2.1
   cases ok with
   |false=>
    obtain⟨I8,st8,fr8⟩:=back I7
    exact AQ #[rfl,n-(i+1),by lia,i+1,ys,s,c,H7,I8,rv,st8,fr8,hN _ _ q7,rfl]
   |true=>
    refine Al (Al (wpAny_noRaise (AV (he C a zA M f _ s7 σ6 H7 _ I7 q7) λy s8 z9=>?_)))
    obtain⟨z,H8,I8,r8,w8⟩:=z9
    obtain⟨eD,nD,neL,nF,dD⟩:=I8.pin (a.heap.objs.size,Fs s c) (De _ (Gw _ (by simp)))
    have hl:=rv.length
    refine Al (Jd F.slot_list_append #[_,eD,rfl] F.entry_list_append (F.args_list_append_2 _ _) (PySem.list_append _ s.toArray c y (by rw[BV];lia)) #[eD,?_])
    obtain⟨n',q⟩:∃n',(s8.heap.update a.heap.objs.size (Fq (·.push y))).get? a.heap.objs.size=Z (Fs (s++[y]) n'):=by
     have q:=PySem.IsL.update eD (·.push y)
     rw[show s.toArray.push y=(s++[y]).toArray by simp]at q
     exact#[_,q]
    have I9:Inv Y (Kk M s5.heap) σ6 H8 {s8 with heap:=s8.heap.update a.heap.objs.size (Fq (·.push y))}:=
     (I8.pins_of λp t=>I8.pin p (De _ (De _ t))).turned (t':=s8.toks) (it:=a.heap.objs.size) (λb o G e=>(LB _ _ (Bv G)).trans e) nD hDC (.inr (Bc _))
      (λx c' e=>BY (cLt x c' (clX x c' e))) λp t=>by
       rcases Cm.mp t with t|t
       ·exact BY (pinLt p t)
       ·exact BY (fpLt _ (Xi t).1)
    have I10:Inv Y ([(a.heap.objs.size,Fs (s++[y]) n')]++Kk M s5.heap) σ6 H8 {s8 with heap:=s8.heap.update a.heap.objs.size (Fq (·.push y))}:=I9.pins_of λp t=>by
     rcases Cm.mp t with t|t
     ·have e:p=(a.heap.objs.size,Fs (s++[y]) n'):=by simpa using t
      subst e
      exact#[q,nD,neL,nF,λv z=>by
       cases z]
     ·exact I9.pin p (De _ t)
    obtain⟨I11,st11,fr11⟩:=back I10
    exact AQ (AQ #[rfl,n-(i+1),by lia,i+1,ys++[z],s++[y],_,H8,I11,rv.append (.cons r8 .nil),st11,fr11,hN _ _ w8,rfl])
 exact codeAny_compStart_list loop (T.self _ 0 _ _ _ (T.keep 0 _ _ st λb _ o e=>old b o e) loop)
section
variable{oix:U Nat}{g:TG}{tt:TT}
theorem X8(own c:U Ae)(oix:U Nat)(S:HW own c scope X.env.scope)(t:oix.map (λj=>X.N[j]?)=c.map Z)(L:X.calm=J')(M:PI X tg iter wi) (K:∀C l i k a,PG (Di X own c scope C l i k a) tg g) (P:∀C l i k a,GH (Di X own c scope C l i k a) ifs tt) (Y:∀C l i k a,PE (Di X own c scope C l i k a) elt te) (hs:∀x,E2 iter X.env x=Ay x:=by intro _;rfl):PE X (.ListComp elt [#[tg,iter,ifs,0]] scope pos) (Pk own.length oix wi g tt te):=by
 intro a s z H Q R h;rw[eval_ListComp];refine wpAny_comprehension_free (use:=J) rfl hs (X5 λx hx hf=>R.ok.has x.1<|S.free x hx hf) S.kind S.loc (AV (M a s z H _ R h) λxv B n=>AV n λitv E p=>?_);obtain⟨it,k,tn,F,i,e,I2,T,u,f2,d⟩:=p;subst e;refine X7 (RR:=λv C=>compPost (Ag X.prog X.w) X.A X.xe J (EP X a z Q) v C) S t L K P Y I2 T u f2 d ?_;intro C s' m H' hn I' hC hL h0 f r q;exact#[m,hn,λG y=>#[.ref _,H',I'.turned (h':=G) (t':=s'.toks) (it:=C) (λb o hb e=>y.extBut b o hb e) hC hL (.inr h0) f r,rfl,q]]
theorem Pl(own d:U Ae)(oix:U Nat){i:Nat}{x:Ae}{f k:AC}(S:HW own d scope X.env.scope)(M:oix.map (λj=>X.N[j]?)=d.map Z)(hc:X.calm=J') (hN:X.N.Nodup) (K:X.N[i]?=Z x) (hx:X.env.scope.names.lookup x=Z .local) (hi:PI X tg iter wi) (hg:∀C u r t c,PG (Di X own d scope C u r t c) tg g) (ht:∀C u r t c,GH (Di X own d scope C u r t c) ifs tt) (he:∀C u r t c,PE (Di X own d scope C u r t c) elt te) (P:DE (.ListComp elt [#[tg,iter,ifs,0]] scope pos) (Z (.Name x f)) k.line X.env=Ay J':=by rfl) (hs:∀x,E2 iter X.env x=Ay x:=by intro _;rfl):PS X (.Assign [.Name x f] (.ListComp elt [#[tg,iter,ifs,0]] scope pos) k) (Lr (Pk own.length oix wi g tt te) (Kj i)):=by
 intro c s I H D R h;rw[exec_Assign_Name_used _ _ _ _ P];refine Al<|wpAny_standAt<|Al ?_;refine Al (Cs (wpAny_comprehension_free (use:=Z<|assign (.Name x f) X.env) (Q:=λ_ z=>SP X c D .next z) rfl hs (X5 λy hy hf=>R.ok.has y.1<|S.free y hy hf) S.kind S.loc
  (AV (hi c s I H _ R h) λxv s₁ B=>AV B λitv E G=>?_)) (λ_ z hq=>AQ<|AQ hq) λ_ _ e=>e)
 obtain⟨it,t,tn,F,r,e,I2,T,Y,f2,l⟩:=G;subst e;refine X7 (RR:=λacc C=>compPost (Ag X.prog X.w) X.A X.xe (Z<|assign (.Name x f) X.env) (λ_ z=>SP X c D .next z) acc C) S M hc hg ht he I2 T Y f2 l ?_;intro C z m H' hn I' hC hL h0 n L q;refine wpAny_assign_Name<|WW (v:=.ref E.heap.objs.size) I' hN K (.inl hx) rfl (λs'' I'' p=>?_) (.inr hx);obtain⟨a,p,ha⟩:=p;have hCa:C≠a:=by
  grind
 exact#[m,hn.sameBut p hCa,λh' hs'=>#[_,H',I''.turned (h':=h') (t':=s''.toks) (it:=C) (λb o hb e=>hs'.extBut b o hb e) hC hL (.inr h0) n L,q]]
end
noncomputable def X9(x:Ae):It:=#[λi _=>i<x.cps.size,λi H v a=>a=H/\∃c,x.cps[i]?=Z c/\v=.str #[(T' [c])],λi _=>x.cps.size<=i]
theorem Ya{P:AJ}{w:Ai}{K:Am}{u:Expr}{b:Bool}(it:Ac)(x:Ae)(t:Tok):Hd P w K u (X9 x) [it] it (λi h=>h.IsStrIter it (bif b then "str_ascii_iterator" else "str_iterator") x t i):=by
 refine MV (n:=bif b then "str_ascii_iterator" else "str_iterator") (by cases b<;>decide) (λi h st=>?_) (λi h g st k=>?_) (λX i m s z H E Q A p B st=>?_) λ_ _ _ _ _ st h=>by
  cases b
  ·exact wpAny_pyIter_striter_wide st h
  ·exact wpAny_pyIter_striter_ascii st h
 ·obtain⟨o,e,c,d⟩:=st;exact#[o,_,e,c,d]
 ·obtain⟨o,e,r⟩:=st;exact#[o,k o e,r]
 ·constructor<;>intro a q
  ·have a:i<x.cps.size:=a;have f:=λt g j (v:DZ it s.heap g)=>q (.str #[(T' [x.cps[i]])] t) (.str #[(T' [x.cps[i]])]) g (s.toks+1) j (λb o y e=>(v.2 b y).trans e) #[_,rfl] #[rfl,_,by simp[a],rfl];cases b
   ·exact wpAny_pyNext_wide_item st (c:=x.cps[i]) (by simp[a]) (f _)
   ·exact wpAny_pyNext_ascii_item st (c:=x.cps[i]) (by simp[a]) (f _)
  ·have a:x.cps.size<=i:=a;cases b
   ·exact wpAny_pyNext_wide_end p st (by simp[a]) λg l=>q g s.toks l
   ·exact wpAny_pyNext_ascii_end p st (by simp[a]) λg l=>q g s.toks l
section
def nQ(a:TE):TI:=λb H R=>a b H λv c=>∃x,v=.str x/\R (X9 x) c
theorem nR{l:Expr}{g:TE}(k:PE X l g):PI X tg l (nQ g):=by
 intro a s m H R u h;refine AV (k a s m H _ u h) λv c n=>?_;obtain⟨y,f,d,p,x,e,q⟩:=n;subst e;obtain⟨t,rfl⟩:=p;have i:∀{o:Obj} (b:Ac),b∈[c.heap.objs.size]->FJ X a f b:=λ{o} b r=>by
  have e:b=c.heap.objs.size:=by simpa using r
  subst e;exact d.fpOk (Bc _)<|d.hok.fresh<|Bc _
 cases j:x.cps.all (·<128)
 ·exact wpAny_pyIter_wide j #[c.heap.objs.size,[c.heap.objs.size],_,_,f,rfl,d.kept (t':=c.toks) λb o e=>Bn _ e,Ya (b:=O') _ x t,#[_,B2 _ rfl,rfl,rfl],i (o:=default),q]
 ·exact wpAny_pyIter_ascii j #[c.heap.objs.size,[c.heap.objs.size],_,_,f,rfl,d.kept (t':=c.toks) λb o e=>Bn _ e,Ya (b:=J') _ x t,#[_,B2 _ rfl,rfl,rfl],i (o:=default),q]
end
section
def nS:V->O Int->O Int->Hp->VK->Prop:=λx lo a H Q=>∃z,x=.str z/\z.length<=Ax/\Q (.str (Txt.slice z lo a)) H
theorem nT:Jc X nS:=by
 rintro e s n H x v o p lo r w Q y h a m f ⟨z,rfl,b,q⟩;obtain⟨t,rfl⟩:=h;refine#["str",_,PySem.F.slot_str_getitem.lookup,typeIs_str s z t,?_];cases m with
 |none=>
  cases f with
  |none=>exact Sw (l:=J) (u:=J) (st:=J) a rfl (post_val_or_str #[BR (Txt.slice_le z _ _) b,λc k=>#[.str<|Txt.slice z J J,H,y.tok _,⟨_,rfl⟩,q]])
  |int j d=>exact Sw (l:=J) (u:=Z (j,d)) (st:=J) a rfl (post_val_or_str #[BR (Txt.slice_le z _ _) b,λc k=>#[.str<|Txt.slice z J<|some j,H,y.tok _,⟨_,rfl⟩,q]])
 |int i g=>
  cases f with
  |none=>exact Sw (l:=Z (i,g)) (u:=J) (st:=J) a rfl (post_val_or_str #[BR (Txt.slice_le z _ _) b,λc k=>#[.str<|Txt.slice z (Z i) J,H,y.tok _,⟨_,rfl⟩,q]])
  |int j d=>exact Sw (l:=Z (i,g)) (u:=Z (j,d)) (st:=J) a rfl (post_val_or_str #[BR (Txt.slice_le z _ _) b,λc k=>#[.str<|Txt.slice z (Z i)<|some j,H,y.tok _,⟨_,rfl⟩,q]])
theorem nU{a:U Ae}:∀{us:U Aa},Ao (a.map V.str) us->StrsAre us a:=by
 induction a with|nil=>intro us r;rw[Dh]at r;cases r;exact .nil|cons n ns b=>
  intro us r;rw[Be]at r;cases r with
  |cons c d=>
   obtain⟨t,rfl⟩:=c;exact .cons n t<|b d
def Yb(K:Am):V->U V->Hp->VK->Prop:=λx c H Q=>∃z a b,x=.str z/\c=[.ref a]/\BJ K H a (b.map V.str)/\(b.map (·.length)).sum+b.length*z.length<=16777216/\Q (.str (Txt.join z b)) H
theorem nV:M5 X "str.join" (Yb X.K):=by
 rintro d s l H x m v n Q c e f ⟨z,a,o,rfl,rfl,g,h,q⟩;obtain⟨t,rfl⟩:=e;obtain⟨u,rfl,i⟩:=E4 f;cases i;obtain⟨b,r,j,_⟩:=c.list g;exact join_list (items:=b.toArray) j.isList (nU r) h λp k=>#[.str _,H,c.tok _,#[_,rfl],q]
end
theorem nW{bs:U Bool}:∀{us:U Aa},Ao (bs.map V.bl) us->LSm.BoolsAre us bs:=by
 induction bs with|nil=>intro us r;rw[Dh]at r;cases r;exact .nil|cons n ns a=>
  intro us r;rw[Be]at r;cases r with
  |cons b c=>
   subst b;exact .cons n<|a c
section
theorem nX{b:Bool}(l:X.calm=J'):Eh X (.builtin (bif b then "all" else "any")) (λxs H Q=>∃(a:Ac)(bs:U Bool),xs=[.ref a]/\BJ X.K H a (bs.map V.bl)/\Q (.bl (bif b then bs.all id else bs.any id)) H):=by
 rintro g s w H xs x Q F r ⟨a,bs,rfl,m,q⟩;obtain⟨u,rfl,n⟩:=E4 r;cases n;obtain⟨c,o,d,y⟩:=F.list m;have h:=nW o;obtain⟨f,j⟩:∃f:Nat->Bool,f=λi=>(bs[i]?).getD b:=#[_,rfl];cases b;all_goals
  first|refine call_all_walk (O8 d.isList ?_)|refine call_any_walk (O8 d.isList ?_)
  refine#[s.heap.objs.size,[s.heap.objs.size,a],[s.heap.objs.size],c.toArray.size,_,_,f,rfl,Walks.list (A:=X.A.in1) (F.ok.hd l) _ a (BY (show a<s.heap.objs.size by obtain⟨_,e,_⟩:=d.isList;exact Bp e)) c.toArray,
   #[#[_,B2 _ rfl,rfl,rfl],d.isList.push _],λi v z B C p k=>?_,λE G t=>#[.bl _,H,F.kept<|LSm.kept_iter t,rfl,?_]]
  ·obtain⟨b,e,rfl⟩:=h.get i v (by simpa using p);erw[j,e,Option.getD_some]at k;exact HK k
  ·rw[show c.toArray.size=bs.length by rw[BV,h.length],j];first|rw[LSm.range_all bs]|rw[LSm.range_any bs]
   exact q
end
section
open PySem.SeqAt
inductive Ft(A:Ah)(s:Ab):List Aa->List Aa->Bool->Prop where
 |nn:Ft A s [] [] O'
 |nc {w ws}:Ft A s [] (w::ws) J'
 |cn {v vs}:Ft A s (v::vs) [] O'
 |eq {v w vs ws b}:EqAt A s v w J'->Ft A s vs ws b->Ft A s (v::vs) (w::ws) b
 |ne {v w vs ws b}:EqAt A s v w O'->(∀(prog:AJ) (wo:Ai) (E Q:AI),Q (.bool b) s->wpAny (Ag prog wo) A (richCompare .Lt v w) Q E s)->Ft A s (v::vs) (w::ws) b
end
section
open PySem.SeqAt
open PySem.AutoSeq1 (wpAny_loadPart')
open PySem.MeetsSeq PySem.MeetsSeq2 PySem.MeetsSeq3
theorem nY(l b:Ac)(items a:Array Aa)(n n2:Nat)(dd p:O Ac)(H q:Array (O Aa))(r:Bool):Meets (Ex.«tuple.__lt__» #[[.ref l,.ref b],[]]) (λA R s=>s.heap.get? l=Z {cls:=.type "tuple",dict:=dd,data:=.seq items n,slots:=H}/\s.heap.get? b=Z {cls:=.type "tuple",dict:=p,data:=.seq a n2,slots:=q}/\Ft A.in1 s items.toList a.toList r/\R (.ok (.ret (.bool r))) s):=.of_wp λprog w A R s h=>by
  obtain⟨E,g,d,G,os⟩:=s;obtain⟨P,F,t,h⟩:=h;have M:=AutoSeq1.sub_tuple_tuple;wp_walk using Ey P,Ey F,wpAny_forIn_list _ (λAB b u=>b.1=J/\u=#[E,g,d,G,os]/\∃(m o:U Aa),AB=m.zip o /\
   Ft A.in1 #[E,g,d,G,os] m o r/\m.length+a.size=o.length+items.size) _
  case turn=>
   rintro⟨y,x⟩ AB b u ⟨j,rfl,m,o,e,f,c⟩;cases f with
   |nn=>rw[List.zip_nil_left]at e;cases e
   |nc=>rw[List.zip_nil_left]at e;cases e
   |cn=>rw[List.zip_nil_right]at e;cases e
   |eq v z=>
    rw[Ky]at e;injection e with k i
    injection k with B C
    subst B C;erw[CT]at c;refine Al<|v prog w _ _ ?_;wp_walk;exact⟨rfl,rfl,_,_,i,z,by lia⟩
   |ne v z=>
    rw[Ky]at e;injection e with k i
    injection k with B C
    subst B C;refine Al<|v prog w _ _ ?_;wp_walk using(z prog w);exact⟨_,rfl,by simpa using h⟩
  case fin=>
   rintro⟨N,K⟩ u ⟨j,rfl,m,o,e,f,c⟩;simp only at j;subst j;have L:r=decide (items.size<a.size):=by
    cases f with
    |nn=>
     erw[HY]at c;exact(decide_eq_false (by lia)).symm
    |nc=>
     erw[HY,CT]at c;exact(decide_eq_true (by lia)).symm
    |cn=>
     erw[HY,CT]at c;exact(decide_eq_false (by lia)).symm
    |eq _ _=>rw[Ky]at e;cases e
    |ne _ _=>rw[Ky]at e;cases e
   rw[L]at h;wp_walk;exact#[_,rfl,by simpa[Builtin.Tuple.tupleCompareSizes]using h]
  case h=>
   exact#[rfl,rfl,items.toList,a.toList,rfl,t,by simp;exact Nat.add_comm items.size a.size]
theorem nZ(l b:Ac)(items c:Array Aa)(n n2:Nat)(dd y:O Ac)(B z:Array (O Aa))(r:Bool)(k:Nat):∀i:Nat,items.size-i=k->Meets (Ex.«list.__eq__.loop» #[[.ref l,.ref b,AZ i,AZ 0],[]]) (λA R s=>s.heap.get? l=Z {cls:=.type "list",dict:=dd,data:=.seq items n,slots:=B}/\s.heap.get? b=Z {cls:=.type "list",dict:=y,data:=.seq c n2,slots:=z}/\Ft A.in1 s (items.toList.drop i) (c.toList.drop i) r/\(i<=items.size/\i<=c.size)/\R (.ok (.ret (.bool r))) s):=by
 induction k with
 |zero=>
  intro i u prog w A R s h;obtain⟨C,g,d,E,os⟩:=s;obtain⟨m,o,e,⟨G,H⟩,h⟩:=h;wp_walk using Ey m,Ey o;have j:items[((i:Nat):Int).toNat]?=J:=by simp;exact Nat.le_of_sub_eq_zero u
  have hd:items.toList.drop i=[]:=M8 (by simp;lia);rw[hd]at e;rw[j];have p:r=decide (items.size<c.size):=by
   cases x:c.toList.drop i with
   |nil=>
    rw[x]at e;have:=congrArg IX x;simp at this;cases e;exact(decide_eq_false (by lia)).symm
   |cons a t=>
    rw[x]at e;have:=congrArg IX x;simp at this;cases e;exact(decide_eq_true (by lia)).symm
  rw[p]at h;wp_walk using Ey m,Ey o;exact h
 |succ k F=>
  intro i u prog w A R s h;obtain⟨C,g,d,E,os⟩:=s;obtain⟨m,o,e,⟨G,H⟩,h⟩:=h;wp_walk using Ey m,Ey o;have j:items[((i:Nat):Int).toNat]?=Z items[i]:=by simp[Kz u]
  rw[show items.toList.drop i=items[i]::items.toList.drop (i+1) by rw[LC (by simpa using(Kz u))];simp]at e;rw[j];by_cases f:i<c.size
  ·have v:c[((i:Nat):Int).toNat]?=Z c[i]:=by simp[f]
   have q:c.toList.drop i=c[i]::c.toList.drop (i+1):=by rw[LC (by simpa using f)];simp
   rw[q]at e;rw[v];cases e with
   |eq e p=>
    refine Al<|e prog w _ _ ?_;wp_walk;rw[show((i:Int)+1)=((i+1:Nat):Int) by push_cast;rfl];exact#[LF plain_eq_loop _,Jh entry_eq_loop (by
     rw[Around.under_plainId plain_eq_loop _];exact F (i+1) (by lia) prog w A R _ #[m,o,p,#[(Kz u),f],h])]
   |ne e p=>
    refine Al<|e prog w _ _ ?_;wp_walk using Ey m,Ey o;rw[j,v];wp_walk using(p prog w);exact h
  ·have q:c.toList.drop i=[]:=M8 (by simp;lia);rw[q]at e;rw[show c[((i:Nat):Int).toNat]?=J by simp;exact M7 f];have p:r=decide (items.size<c.size):=by
    cases e;exact(decide_eq_false (by lia)).symm
   rw[p]at h;wp_walk using Ey m,Ey o;exact h
theorem Yc(l b:Ac)(items a:Array Aa)(n n2:Nat)(dd c:O Ac)(f e:Array (O Aa))(r:Bool):Meets (Ex.«list.__lt__» #[[.ref l,.ref b],[]]) (λA R s=>s.heap.get? l=Z {cls:=.type "list",dict:=dd,data:=.seq items n,slots:=f}/\s.heap.get? b=Z {cls:=.type "list",dict:=c,data:=.seq a n2,slots:=e}/\Ft A.in1 s items.toList a.toList r/\R (.ok (.ret (.bool r))) s):=by
 intro prog w A R s h;obtain⟨m,g,d,o,os⟩:=s;obtain⟨i,j,k,h⟩:=h;have p:=AutoSeq1.sub_list_list;wp_walk using Ey i,Ey j;exact#[LF plain_eq_loop _,Jh entry_eq_loop (by
  rw[Around.under_plainId plain_eq_loop _];exact nZ l b items a n n2 dd c f e r _ 0 rfl prog w A R _ #[i,j,k,#[F8 _,F8 _],h])]
end
section
variable{prog:AJ}{w:Ai}{A:Ah}{s:Ab}
theorem n0{l b:Ac}{a:Array Aa}{r:Bool}{Q:AI}(m:IsTup s.heap l items)(o:IsTup s.heap b a)(p:Ft A.in1 s items.toList a.toList r) (q:A.units<Aq) (h:Q (.bool r) s):wpAny (Ag prog w) A (richCompare .Lt (.ref l) (.ref b)) Q E s:=by
 obtain⟨⟨cls,t,data,u⟩,i,j,n,hd⟩:=id m;obtain⟨⟨k,f,data2,g⟩,c,d,n2,e⟩:=id o;simp only at j hd d e;subst j hd d e;exact richCompare_meets_room (op:=.Lt) #[_,i,rfl] #[_,c,rfl] PySem.F.slot_tuple_lt PySem.F.entry_tuple_lt (PySem.F.args_tuple_lt_2 _ _) (nY l b items a n n2 t f u g r)
  #[i,c,p,show Value.bool r≠Value.notImplemented/\Q (.bool r) s from#[(λx=>nomatch x),h]] q
theorem og{l b:Ac}{a:Array Aa}{r:Bool}{n n2:Nat}{c:O Ac}{e d:Array (O Aa)}{Q:AI}(f:s.heap.get? l=Z {cls:=.type "list",dict:=dd,data:=.seq items n,slots:=e})(g:s.heap.get? b=Z {cls:=.type "list",dict:=c,data:=.seq a n2,slots:=d})(i:Ft A.in1 s items.toList a.toList r) (j:A.units<Aq) (h:Q (.bool r) s):wpAny (Ag prog w) A (richCompare .Lt (.ref l) (.ref b)) Q E s:=richCompare_meets_room (op:=.Lt) #[_,f,rfl] #[_,g,rfl] PySem.F.slot_list_lt PySem.F.entry_list_lt (PySem.F.args_list_lt_2 _ _) (Yc l b items a n n2 dd c e d r) #[f,g,i,show Value.bool r≠Value.notImplemented/\Q (.bool r) s from#[(λx=>nomatch x),h]] j
end
noncomputable def oh:V->V->O Bool
 |.int i,.int j=>Z (decide (i<j))
 |.str a,.str b=>Z (decide (a.cps.toList<b.cps.toList))
 |_,_=>J
noncomputable def BE:U V->U V->O Bool
 |[],[]=>Z O'
 |[],_::_=>Z J'
 |_::_,[]=>Z O'
 |x::a,y::b=>if(XZ x&&XZ y)=J' then(if nu x y=J' then BE a b else oh x y)else J
theorem Sx(x:Ae):x.cps.toList.length=x.length:=by simp[F9]
def M9(K:Am):Sp:=λb H Q _=>∃(a:Ac)(ns:U Int),b=[.ref a]/\BJ K H a (ns.map V.int)/\ns.length<=63/\∀c,Q (.bl J') c
theorem Yd{p:Ac}{o:HO}(h:H p=J):Aj H (AK H p o):=λb u e=>Zn (ZU e h) ▸ e
theorem Ji{A B:Prop}(h:A):(if J'=J' then A else B):=by grind
theorem Jj{A B:Prop}(h:B):(if O'=J' then A else B):=by grind
inductive Kd where
 |l|d|i (ns:List Ae) (c:Ae)
variable{fl k':Kd}
noncomputable def Pm(K:Am)(c:Ae):Ac:=match PySem.W.nsIn K BM c with
 |some (Z (.ref C))=>C
 |_=>0
inductive D where
 |non|bl (b:Bool)|int (i:Int)|str (x:Ae)|ty (n:String)|tup (xs:List D)|lst (xs:List D) (b:Kd:=.l)
variable{xs:U D}
abbrev Ea:=U D->O D
abbrev A2:=O (U D)
noncomputable def Sy:D->At
 |.int i=>.int i
 |.str x=>.str x
 |_=>.non
def Na:D->KT
 |.tup l=>.tup (l.map Sy)
 |d=>.at (Sy d)
def Jk:U D->U KT
 |k::_::r=>Na k::Jk r
 |_=>[]
def CO(K:Am)(b:Kd)(a:Ac)(xs:U D)(vs:U V):HO:=match b with
 |.l=>.lst vs
 |.d=>.dct (Jk xs) vs
 |.i ns c=>.ins (Pm K c) (a-1) (ns.zip vs)
noncomputable def Gb:HO->Bool
 |.lst _=>J'
 |.dct _ _=>J'
 |.ins _ _ _=>J'
 |_=>O'
theorem Ye(K:Am)(b:Kd)(a:Ac)(xs:U D)(vs:U V):Gb (CO K b a xs vs)=J':=by cases b<;>rfl
abbrev Fb:=Ac->Prop
def KL(K:Am)(a:Ac)(vs:U V):Prop:=BJ K (λ_=>J) a vs
def LstAt(K:Am)(N:Fb)(H:Hp)(a:Ac)(o:HO):Prop:=(¬ N a/\Rd H a o)\/∃b,o=.lst b/\KL K a b
theorem KL.sq{K:Am}(h:KL K a vs):BJ K H a vs:=by
 rcases h with(h|⟨o,h⟩)|h
 ·cases h
 ·cases h
 ·exact .inr h
theorem LstAt.sq{K:Am}{N:Fb}(h:LstAt K N H a (.lst vs)):BJ K H a vs:=by
 rcases h with⟨_,h⟩|⟨b,e,h⟩
 ·exact .inl h
 ·cases e;exact h.sq
theorem LstAt.of{K:Am}{N:Fb}{o:HO}(n:¬ N a)(h:H a=Z o):LstAt K N H a o:=.inl #[n,.inl h]
theorem LstAt.of_sq{K:Am}(h:BJ K H a vs):LstAt K (λ_=>False) H a (.lst vs):=by
 rcases h with h|h
 ·exact .inl #[id,h]
 ·exact .inr #[vs,rfl,.inr h]
mutual
def Ar(K:Am)(N:Fb)(H:Hp):D->V->Prop
 |.non,v=>v=.non
 |.bl b,v=>v=.bl b
 |.int i,v=>v=.int i
 |.str x,v=>v=.str x
 |.ty n,v=>v=.ty n
 |.tup d,v=>∃a c,v=.ref a/\B0 K H a c/\Ad K N H d c
 |.lst d b,v=>∃a c,v=.ref a/\LstAt K N H a (CO K b a d c)/\Ad K N H d c
def Ad(K:Am)(N:Fb)(H:Hp):U D->U V->Prop
 |[],a=>a=[]
 |x::b,a=>∃v r,a=v::r/\Ar K N H x v/\Ad K N H b r
end
structure Step(M N N':Fb)(H H':Hp):Prop where
 kp:∀a o,H a=Z o->(¬ N a\/M a\/Gb o=O')->H' a=Z o
 nw:∀a,N' a->N a\/H a=J
theorem Step.trans{M N d f:Fb}{g i:Hp}(a:Step M N d H g)(b:Step M d f g i):Step M N f H i where
 kp:=λc o h z=>by
  refine b.kp c o (a.kp c o h z) ?_;rcases z with z|z|z
  ·refine .inl λn1=>?_;rcases a.nw c n1 with q|q
   ·exact z q
   ·rw[h]at q;cases q
  ·exact .inr<|.inl z
  ·exact .inr<|.inr z
 nw:=λc n2=>by
  rcases b.nw c n2 with q|q
  ·exact a.nw c q
  ·cases e:H c with|none=>exact .inr rfl|some o=>
    refine .inl<|Classical.byContradiction λz=>?_;rw[a.kp c o e<|.inl z]at q;cases q
theorem Step.of_same{M N:Fb}(s:Aj H H'):Step M N N H H':=#[λa o h _=>s a o h,λa h=>.inl h]
theorem Step.refl{M N:Fb}:Step M N N H H:=Step.of_same<|Aj.refl H
theorem Rd.step{M N b:Fb}{u:HO}(s:Step M N b H H')(h:Rd H a u)(z:¬ N a\/M a\/Gb u=O'):Rd H' a u:=by
 rcases h with h|⟨o,h⟩
 ·exact .inl<|s.kp a u h z
 ·exact .inr #[o,s.kp a _ h<|.inr<|.inr rfl]
theorem Rd.same{u:HO}(s:Aj H H')(h:Rd H a u):Rd H' a u:=by
 rcases h with h|⟨o,h⟩
 ·exact .inl<|s a u h
 ·exact .inr #[o,s a _ h]
theorem B0.step{K:Am}{M N b:Fb}{xs:U V}(s:Step M N b H H')(h:B0 K H a xs):B0 K H' a xs:=by
 rcases h with h|h
 ·exact .inl<|h.step s<|.inr<|.inr rfl
 ·exact .inr h
theorem B0.same{K:Am}{xs:U V}(s:Aj H H')(h:B0 K H a xs):B0 K H' a xs:=B0.step (M:=λ_=>False) (N:=λ_=>False) (Step.of_same s) h
theorem Rd.has{u:HO}(h:Rd H a u):H a≠J:=by
 rcases h with h|⟨o,h⟩<;>rw[h]<;>exact λe=>nomatch e
mutual
theorem Ar.step{K:Am}{M N f:Fb}{H H':Hp}(s:Step M N f H H'):∀(d:D)(v:V),Ar K N H d v->Ar K f H' d v
 |.non,_,h=>h
 |.bl _,_,h=>h
 |.int _,_,h=>h
 |.str _,_,h=>h
 |.ty _,_,h=>h
 |.tup c,v,h=>by
  erw[Ar]at h ⊢
  obtain⟨a,b,e,q,r⟩:=h
  exact#[a,b,e,q.step s,Ad.step s c b r]
 |.lst c i,v,h=>by
  erw[Ar]at h ⊢
  obtain⟨a,b,e,q,r⟩:=h
  refine#[a,b,e,?_,Ad.step s c b r]
  rcases q with⟨n,q⟩|q
  ·refine .inl #[λg=>?_,q.step s (.inl n)]
   rcases s.nw a g with z|z
   ·exact n z
   ·exact q.has z
  ·exact .inr q
theorem Ad.step{K:Am}{M N a:Fb}{H H':Hp}(s:Step M N a H H'):∀(xs:U D)(vs:U V),Ad K N H xs vs->Ad K a H' xs vs
 |[],_,h=>h
 |x::xs,vs,h=>by
  erw[Ad]at h ⊢
  obtain⟨v,r,e,q,t⟩:=h
  exact#[v,r,e,Ar.step s x v q,Ad.step s xs r t]
end
section
variable{K:Am}{M N N':Fb}{d:D}{v:V}{ys:U D}{ws:U V}
theorem Ar.same(h:Ar K N H d v)(s:Aj H H'):Ar K N H' d v:=Ar.step (M:=N) (Step.of_same s) d v h
theorem Ad.same(h:Ad K N H xs vs)(s:Aj H H'):Ad K N H' xs vs:=Ad.step (M:=N) (Step.of_same s) xs vs h
theorem Ar.nw(h:Ar K N H d v)(z:∀a,N' a->N a\/H a=J):Ar K N' H d v:=Ar.step (M:=N) (H':=H) #[λ_ _ h _=>h,z] d v h
theorem Ad.nw(h:Ad K N H xs vs)(z:∀a,N' a->N a\/H a=J):Ad K N' H xs vs:=Ad.step (M:=N) (H':=H) #[λ_ _ h _=>h,z] xs vs h
theorem Ad.length:∀{xs:U D}{vs:U V},Ad K N H xs vs->xs.length=vs.length
 |[],_,h=>by erw[Ad]at h;subst h;rfl
 |_::xs,_,h=>by erw[Ad]at h;obtain⟨v,r,e,_,t⟩:=h;subst e;simp[Ad.length t]
theorem Ad.get:∀{xs:U D}{vs:U V}{i:Nat}{d:D},Ad K N H xs vs->xs[i]?=Z d->∃v,vs[i]?=Z v/\Ar K N H d v
 |[],_,i,d,_,e=>by simp at e
 |x::xs,_,0,d,h,e=>by
  erw[Ad]at h;obtain⟨v,r,a,q,_⟩:=h;subst a;simp at e;subst e;exact#[v,rfl,q]
 |x::xs,_,i+1,d,h,e=>by
  erw[Ad]at h;obtain⟨v,r,a,_,t⟩:=h;subst a;obtain⟨w,b,c⟩:=Ad.get (i:=i) t (by simpa using e);exact#[w,by simpa using b,c]
theorem Ad.get':∀{xs:U D}{vs:U V}{i:Nat}{v:V},Ad K N H xs vs->vs[i]?=Z v->∃d,xs[i]?=Z d/\Ar K N H d v:=by
 intro xs vs i v h e;have f:=h.length;have g:i<vs.length:=(BC.mp e).1;have a:xs[i]?=Z xs[i]:=BW (by lia);obtain⟨w,b,c⟩:=h.get a;rw[e]at b;cases b;exact#[_,a,c]
theorem Ad.append:∀{xs ys:U D}{vs ws:U V},Ad K N H xs vs->Ad K N H ys ws->Ad K N H (xs++ys) (vs++ws)
 |[],_,_,_,h,a=>by erw[Ad]at h;subst h;exact a
 |x::xs,ys,_,ws,h,a=>by
  erw[Ad]at h;obtain⟨v,r,e,q,t⟩:=h;subst e;erw[HZ,Ad];exact#[v,r++ws,rfl,q,Ad.append t a]
theorem Ad.nil:Ad K N H [] []:=by erw[Ad]
theorem Ad.cons(h:Ar K N H d v)(t:Ad K N H xs vs):Ad K N H (d::xs) (v::vs):=by erw[Ad];exact#[v,vs,rfl,h,t]
theorem Ad.take:∀{xs:U D}{vs:U V}(n:Nat),Ad K N H xs vs->Ad K N H (xs.take n) (vs.take n)
 |_,_,0,_=>by simpa using Ad.nil
 |[],_,n+1,h=>by erw[Ad]at h;subst h;simpa using Ad.nil
 |x::xs,_,n+1,h=>by
  erw[Ad]at h;obtain⟨v,r,e,q,t⟩:=h;subst e;simpa using Ad.cons q<|Ad.take n t
theorem Ad.drop:∀{xs:U D}{vs:U V}(n:Nat),Ad K N H xs vs->Ad K N H (xs.drop n) (vs.drop n)
 |_,_,0,h=>by simpa using h
 |[],_,n+1,h=>by erw[Ad]at h;subst h;simpa using Ad.nil
 |x::xs,_,n+1,h=>by
  erw[Ad]at h;obtain⟨v,r,e,q,t⟩:=h;subst e;simpa using Ad.drop n t
theorem Ad.set:∀{xs:U D}{vs:U V}(i:Nat),Ad K N H xs vs->Ar K N H d v->Ad K N H (xs.set i d) (vs.set i v)
 |[],_,_,h,_=>by erw[Ad]at h;subst h;simpa using Ad.nil
 |x::xs,_,0,h,q=>by
  erw[Ad]at h;obtain⟨v,r,e,_,t⟩:=h;subst e;simpa using Ad.cons q t
 |x::xs,_,i+1,h,q=>by
  erw[Ad]at h;obtain⟨v,r,e,a,t⟩:=h;subst e;simpa using Ad.cons a<|Ad.set i t q
theorem Ad.ints:∀(ns:U Int),Ad K N H (ns.map D.int) (ns.map V.int)
 |[]=>Ad.nil
 |n::ns=>Ad.cons (by erw[Ar])<|Ad.ints ns
end
inductive Sl where
 |no|val (d:D)|own (xs:List D) (b:Kd:=.l) (oa:Option Ac:=J)|lent (xs:List D) (b:Kd:=.l)|exc (c:Ae)
def E8(e C:Ac)(h:Ak):Prop:=∃o a,h.get? e=Z o/\o.cls=.ref C/\o.data=.fields a/\a[2]?=Z .none
abbrev VE:=U Sl
variable{ρ:VE}{fo:VE->O Sl}{lo:VE->O (O Int)}{fx:VE->O (D×VE)}{ff:VE->O (U D)}
abbrev Dx:=VE->O (U Sl)
variable{fa:Dx}
abbrev AD:=VE->O D
def Nf(M:Fb)(ρ:VE)(I:St):Fb:=λa=>M a\/∃(i:Nat)(c:U D)(b:Kd)(d:O Ac),ρ[i]?=Z (Sl.own c b d)/\I[i]?=Z (Z (V.ref a))
def Yf(K:Am)(M N:Fb)(H0 H:Hp):Sl->O V->Prop
 |.no,_=>True
 |.val d,o=>∃v,o=Z v/\Ar K N H d v
 |.own e b g,o=>∃a f,o=Z (.ref a)/\(H0 a=J/\∀c,g=Z c->c=a)/\¬ M a/\H a=Z (CO K b a e f)/\Ad K N H e f
 |.lent e b,o=>∃a f,o=Z (.ref a)/\(M a/\H0 a≠J)/\Rd H a (CO K b a e f)/\Ad K N H e f
 |.exc c,o=>∃a C,o=Z (.ref a)/\PySem.W.nsIn K BM c=Z (Z (.ref C))/\H a=Z (.ext (E8 a C))
structure Bl(K:Am)(M:Fb)(H0:Hp)(ρ:VE)(I:St)(H:Hp):Prop where
 len:ρ.length=I.length
 same:Aj H0 H
 mh:∀a,M a->H a≠J
 slot:∀(i:Nat) (s:Sl),ρ[i]?=Z s->Yf K M (Nf M ρ I) H0 H s (I[i]?.join)
 inj:∀(i j:Nat) (xs ys:List D) (b b':Kd) (oa oa':Option Ac) (a:Ac),ρ[i]?=Z (Sl.own xs b oa)->ρ[j]?=Z (Sl.own ys b' oa')->I[i]?=Z (Z (V.ref a))->I[j]?=Z (Z (V.ref a))->i=j
section
variable{K:Am}{M:Fb}
theorem Bl.nh(R:Bl K M H0 ρ I H):∀a,Nf M ρ I a->H a≠J:=by
 rintro a (h|⟨i,f,g,j,c,d⟩)
 ·exact R.mh a h
 ·obtain⟨b,k,e,_,_,q,_⟩:=R.slot i _ c;rw[d]at e;rw[<- (show b=a by simpa using e.symm),q];exact λz=>nomatch z
theorem Bl.st(R:Bl K M H0 ρ I H)(s:Aj H H'):Bl K M H0 ρ I H' where
 len:=R.len;same:=R.same.trans s;mh:=λa h z=>R.mh a h<|s.free z;slot:=λi k e=>by
  have q:=R.slot i k e;cases k with
  |no=>trivial
  |val d=>obtain⟨v,e,h⟩:=q;exact#[v,e,h.same s]
  |own l m o=>obtain⟨a,g,e,b,f,j,n⟩:=q;exact#[a,g,e,b,f,s _ _ j,n.same s]
  |lent l m=>obtain⟨a,g,e,b,f,j⟩:=q;exact#[a,g,e,b,f.same s,j.same s]
  |exc c=>obtain⟨a,C,e,b,f⟩:=q;exact#[a,C,e,b,s _ _ f]
 inj:=R.inj
theorem Bl.fresh(R:Bl K M H0 ρ I H){p:Ac}(h:H p=J):¬ Nf M ρ I p:=λn=>R.nh p n h
end
def tD(K:Am)(M:Fb)(H0:Hp)(f:AD):TE:=λc H Q=>∃a d,Bl K M H0 a c H/\f a=Z d/\∀v b,Aj H b->Ar K (Nf M a c) b d v->Q v b
def Aw(K:Am)(N:Fb)(H:Hp)(d:D)(v:V):Prop:=match d with
 |.lst e=>∃a c,v=.ref a/\BJ K H a c/\Ad K N H e c
 |.lst e b=>∃a c,v=.ref a/\Rd H a (CO K b a e c)/\Ad K N H e c
 |d=>Ar K N H d v
theorem Ar.p{K:Am}{N:Fb}{d:D}{v:V}(h:Ar K N H d v):Aw K N H d v:=by
 cases d with
 |lst f c=>
  obtain⟨a,b,e,q,r⟩:=h;cases c with|l=>exact#[a,b,e,LstAt.sq q,r]|_=>
   rcases q with⟨_,q⟩|⟨g,z,_⟩
   ·exact#[a,b,e,q,r]
   ·cases z
 |_=>exact h
theorem Aw.same{K:Am}{N:Fb}{d:D}{v:V}(h:Aw K N H d v)(s:Aj H H'):Aw K N H' d v:=by
 cases d with
 |lst f c=>
  cases c with
  |l=>obtain⟨a,b,e,q,r⟩:=h;exact#[a,b,e,s.seq q,r.same s]
  |_=>obtain⟨a,b,e,q,r⟩:=h;exact#[a,b,e,q.same s,r.same s]
 |_=>exact Ar.same h s
theorem Sz{K:Am}{N:Fb}(h:Rd H a (CO K fl a xs vs))(r:Ad K N H xs vs):Aw K N H (.lst xs fl) (.ref a):=by
 cases fl with
 |l=>exact#[a,vs,rfl,.inl h,r]
 |_=>exact#[a,vs,rfl,h,r]
def tP(K:Am)(M:Fb)(H0:Hp)(f:AD):TE:=λc H Q=>∃a d,Bl K M H0 a c H/\f a=Z d/\∀v b,Aj H b->Aw K (Nf M a c) b d v->Q v b
def EO(fl:Kd)(K:Am)(M:Fb)(H0:Hp)(f:VE->A2):TE:=λg H Q=>∃d e,Bl K M H0 d g H/\f d=Z e /\
 ∀a h c,Aj H c->H a=J->c a=Z (CO K fl a e h)->Ad K (λb=>Nf M d g b\/b=a) c e h->Q (.ref a) c
@[reducible] def tF(K:Am)(M:Fb)(H0:Hp)(f:VE->A2):TE:=EO .l K M H0 f
def BH(K:Am)(M:Fb)(H0:Hp)(f:VE->O Bool):TT:=λd H Q=>∃a b,Bl K M H0 a d H/\f a=Z b/\∀c,Aj H c->Q b c
structure JE(X:Cx)(e:Expr)(t:TE):Prop where h:PE X e t
structure JT(X:Cx)(e:Expr)(t:TT):Prop where h:PT X e t
structure JW(X:Cx)(e:Expr)(t:TT):Prop where h:PW X e t
structure JA(X:Cx)(e:List Expr)(t:TA):Prop where h:PA X e t
structure JS(X:Cx)(e:Av)(t:TS):Prop where h:PS X e t
structure JB(X:Cx)(e:List Av)(t:TS):Prop where h:EI X e t
structure JI(X:Cx)(tg e:Expr)(t:TI):Prop where h:PI X tg e t
structure JG(X:Cx)(e:Expr)(t:TG):Prop where h:PG X e t
structure JK(X:Cx)(e:List Expr)(t:HL):Prop where h:MR X e t
structure JO(X:Cx)(e:Option Expr)(t:TO):Prop where h:PO X e t
structure JF(X:Cx)(e:List Expr)(t:TT):Prop where h:GH X e t
theorem PE.mono{e:Expr}{t t':TE}(h:PE X e t)(m:∀I H Q,t' I H Q->t I H Q):PE X e t':=λa s I H Q b q=>h a s I H Q b<|m I H Q q
theorem PT.mono{e:Expr}{t t':TT}(h:PT X e t)(m:∀I H Q,t' I H Q->t I H Q):PT X e t':=λa s I H Q b q=>h a s I H Q b<|m I H Q q
theorem PW.mono{e:Expr}{t t':TT}(h:PW X e t)(m:∀I H Q,t' I H Q->t I H Q):PW X e t':=λwh a s I H Q b q=>h wh a s I H Q b<|m I H Q q
theorem PA.mono{e:U Expr}{t t':TA}(h:PA X e t)(m:∀I H Q,t' I H Q->t I H Q):PA X e t':=λb a s I H Q c q=>h b a s I H Q c<|m I H Q q
theorem PS.mono{e:Av}{t t':TS}(h:PS X e t)(m:∀D I H,t' D I H->t D I H):PS X e t':=λa s I H D b q=>h a s I H D b<|m D I H q
theorem EI.mono{e:U Av}{t t':TS}(h:EI X e t)(m:∀D I H,t' D I H->t D I H):EI X e t':=λa s I H D b q=>h a s I H D b<|m D I H q
section
variable{K:Am}{M:Fb}{e a b:Expr}{f g:AD}
theorem PE.p(h:PE X e (tD K M H0 f)):PE X e (tP K M H0 f):=h.mono λc H Q ⟨a,d,R,e,q⟩=>#[a,d,R,e,λv b s z=>q v b s z.p]
theorem Yg(h:JE X e (tD K M H0 f)):JE X e (tP K M H0 f):=#[PE.p h.h]
@[simp] noncomputable def Zr(o:A2):O D:=o.map D.lst
theorem PE.fd{f:VE->A2}(h:PE X e (tF K M H0 f)):PE X e (tD K M H0 λρ=>Zr (f ρ)):=h.mono λo H Q c=>by
 obtain⟨ρ,d,R,e,q⟩:=c;obtain⟨g,i,e⟩:=BN.mp e;cases e;refine#[ρ,g,R,i,λa j p s k l m=>q _ _ s ?_];refine#[a,j,rfl,.of (R.fresh k) l,m.nw λb n=>.inl<|.inl n]
theorem oi{f:VE->A2}(h:JE X e (tF K M H0 f)):JE X e (tD K M H0 λρ=>Zr (f ρ)):=#[PE.fd h.h]
@[simp] noncomputable def AU(ρ:VE)(i:Nat):O D:=match ρ[i]? with
  |some (.val d)=>Z d
  |_=>J
@[simp] noncomputable def A5(ρ:VE)(i:Nat):O D:=match ρ[i]? with
  |some (.val d)=>Z d
  |some (.own a b _)=>Z (.lst a b)
  |some (.lent a b)=>Z (.lst a b)
  |_=>J
theorem oj{i:Nat}{d:D}(h:AU ρ i=Z d):ρ[i]?=Z (.val d):=by grind [AU]
theorem ol{i:Nat}{x:Ae}(a:NV X i x):PE X (.Name x pos) (tD K M H0 λρ=>AU ρ i):=(Ga a).mono λc H Q b=>by
  obtain⟨ρ,d,R,e,q⟩:=b;obtain⟨v,f,h⟩:=R.slot i _<|oj e;refine⟨v,?_,q v H (Aj.refl H) h⟩;grind
theorem om{i:Nat}{x:Ae}(j:NV X i x):PE X (.Name x pos) (tP K M H0 λρ=>A5 ρ i):=(Ga j).mono λc H Q k=>by
  obtain⟨ρ,d,R,e,q⟩:=k;try dsimp only at e q
  have fin:∀v,c[i]?.join=Z v->Aw K (Nf M ρ c) H d v->∃v,c[i]?=Z (Z v)/\Q v H:=λv b h=>by
   grind [Aj.refl]
  unfold A5 at e;split at e
  ·next h=>cases e;obtain⟨v,b,h⟩:=R.slot i _ h;exact fin v b h.p
  ·next h=>cases e;obtain⟨a,l,b,_,_,f,g⟩:=R.slot i _ h;exact fin _ b<|Sz (.inl f) g
  ·next h=>cases e;obtain⟨a,l,b,_,f,g⟩:=R.slot i _ h;exact fin _ b<|Sz f g
  ·cases e
theorem LH{d:D}{v:V}{e:Expr}(h:PE X e (tC v))(hd:∀N H,Ar K N H d v):PE X e (tD K M H0 λ_=>Z d):=h.mono λa H Q ⟨b,c,R,e,q⟩=>by(try dsimp only at e q);cases e;exact q v H (Aj.refl H)<|hd _ _
theorem Yh {i j pos}:JE X (.Constant (.int i) j pos) (tD K M H0 λ_=>Z (.int i)):=#[LH kZ λ_ _=>by erw[Ar]]
theorem on {i j pos}:JE X (.Constant (.bool i) j pos) (tD K M H0 λ_=>Z (.bl i)):=#[LH k6 λ_ _=>by erw[Ar]]
theorem oq {j pos}:JE X (.Constant .none j pos) (tD K M H0 λ_=>Z .non):=#[LH k7 λ_ _=>by erw[Ar]]
theorem ot {i j pos}:JE X (.Constant (.str i) j pos) (tD K M H0 λ_=>Z (.str i)):=#[LH k8 λ_ _=>by erw[Ar]]
def Dj(K:Am)(r:R2)(F:D->D->O D):Prop:=∀(N:Fb)(H:Hp)(x y:V)(c e d:D)(Q:VK),(∀a,N a->H a≠J)->Aw K N H c x->Aw K N H e y->F c e=Z d ->
 (∀v b,Aj H b->Ar K N b d v->Q v b)->r x y H Q
@[simp] noncomputable def Za(F:D->D->O D)(f g:AD):AD:=λa=>(f a).bind λx=>(g a).bind λy=>F x y
theorem Yi{F:D->D->O D}{f g:AD}{d:D}(h:Za F f g ρ=Z d):∃x y,f ρ=Z x/\g ρ=Z y/\F x y=Z d:=by
 unfold Za at h;cases a:f ρ with|none=>rw[a]at h;cases h|some x=>
  cases b:g ρ with
  |none=>rw[a,b]at h;cases h
  |some y=>rw[a,b]at h;exact#[x,y,rfl,rfl,h]
theorem Pn{r:R2}{F:D->D->O D}(i:Dj K r F){Q:VK}(h:tD K M H0 (Za F f g) I H Q):Kl r (tP K M H0 f) (tP K M H0 g) I H Q:=by
 obtain⟨a,d,R,e,q⟩:=h;obtain⟨x,y,j,k,l⟩:=Yi e;exact#[a,x,R,j,λv z b m=>#[a,y,R.st b,k,λu n c o=>i (Nf M a I) n v u x y d Q ((R.st b).st c).nh (m.same c) o l λw p s t=>q w p ((b.trans c).trans s) t]]
theorem KA{op:Operator}{r:R2}{F:D->D->O D}(c:BU X (FL op) r)(d:Dj K r F)(e:PE X a (tP K M H0 f))(i:PE X b (tP K M H0 g)):PE X (.BinOp a op b pos) (tD K M H0 (Za F f g)):=(l3 c e i).mono λ_ _ _ h=>Pn d h
theorem Po{op:CmpOp}{r:R2}{F:D->D->O D}(c:BU X (Dd op) r)(d:Dj K r F)(e:PE X a (tP K M H0 f))(i:PE X b (tP K M H0 g))(j:F7 op b=O'):PE X (.Compare a [op] [b] pos) (tD K M H0 (Za F f g)):=(Xn c e i j).mono λ_ _ _ h=>Pn d h
theorem Yj{r:R2}{F:D->D->O D}(c:GF X r)(d:Dj K r F)(e:PE X a (tP K M H0 f))(i:PE X b (tP K M H0 g))(j:LA b):PE X (.Subscript a b pos) (tD K M H0 (Za F f g)):=(XQ c e i j).mono λ_ _ _ h=>Pn d h
@[simp] noncomputable def AL:O D->O Bool
  |some (.bl b)=>Z b
  |_=>J
theorem LI{o:O D}{b:Bool}(h:AL o=Z b):o=Z (.bl b):=by
 unfold AL at h;grind
theorem ou{t:TE}{Q:Bool->Hp->Prop}(a:∀I H Q,tD K M H0 f I H Q->t I H Q)(h:BH K M H0 (λρ=>AL (f ρ)) I H Q):tB t I H Q:=by
 obtain⟨ρ,b,R,e,q⟩:=h;refine a I H _ #[ρ,.bl b,R,LI e,λv d s c=>?_];erw[Ar]at c;simp_all
theorem H9{op:CmpOp}{r:R2}{F:D->D->O D}(c:BU X (Dd op) r)(d:Dj K r F)(e:PE X a (tP K M H0 f))(h:PE X b (tP K M H0 g))(i:F7 op b=O'):PT X (.Compare a [op] [b] pos) (BH K M H0 λρ=>AL (Za F f g ρ)):=(Se c e h i).mono λ_ _ _ q=>ou (t:=Kl r (tP K M H0 f)<|tP K M H0 g) (λ_ _ _ z=>Pn d z) q
@[simp] noncomputable def ZW(o:O Bool):O Bool:=o.map (!·)
@[simp] noncomputable def Ez(o p:O Bool):O Bool:=match o with
  |some J'=>p
  |some O'=>Z O'
  |none=>J
@[simp] noncomputable def D0(o p:O Bool):O Bool:=match o with
  |some J'=>Z J'
  |some O'=>p
  |none=>J
section
variable{c c':VE->O Bool}{AB:U Expr}
theorem ov(h:JT X a (BH K M H0 c)):JT X (.UnaryOp .Not a pos) (BH K M H0 λρ=>ZW (c ρ)):=#[have h:=h.h;(W7 h).mono λg H Q d=>by
 obtain⟨ρ,b,R,e,q⟩:=d;obtain⟨k,f,e⟩:=BN.mp e;cases e;exact#[ρ,k,R,f,q]]
theorem ow(h:JT X a (BH K M H0 c)):JW X (.BoolOp .And [a] pos) (BH K M H0 c):=#[have h:=h.h;W5 h]
theorem oz(h:JT X a (BH K M H0 c)):JW X (.BoolOp .Or [a] pos) (BH K M H0 c):=#[have h:=h.h;li h]
theorem oA{Q:Bool->Hp->Prop}(h:BH K M H0 (λρ=>Ez (c ρ) (c' ρ)) I H Q):W3 (BH K M H0 c) (BH K M H0 c') I H Q:=by
 obtain⟨ρ,b,R,e,q⟩:=h;try dsimp only at e q
 cases a:c ρ with|none=>rw[a]at e;cases e|some k=>
  rw[a]at e;refine#[ρ,k,R,a,λd s=>?_];cases k with
  |true=>exact#[ρ,b,R.st s,e,λf g=>q f<|s.trans g]
  |false=>cases e;exact q d s
theorem oB{Q:Bool->Hp->Prop}(h:BH K M H0 (λρ=>D0 (c ρ) (c' ρ)) I H Q):W4 (BH K M H0 c) (BH K M H0 c') I H Q:=by
 obtain⟨ρ,b,R,e,q⟩:=h;try dsimp only at e q
 cases a:c ρ with|none=>rw[a]at e;cases e|some k=>
  rw[a]at e;refine#[ρ,k,R,a,λd s=>?_];cases k with
  |false=>exact#[ρ,b,R.st s,e,λf g=>q f<|s.trans g]
  |true=>cases e;exact q d s
theorem oC(h:JT X a (BH K M H0 c))(h':JW X (.BoolOp .And (b::AB) pos) (BH K M H0 c')):JW X (.BoolOp .And (a::b::AB) pos) (BH K M H0 λρ=>Ez (c ρ) (c' ρ)):=#[have h:=h.h;have h':=h'.h;(W6 h h').mono λ_ _ _ q=>oA q]
theorem oD(h:JT X a (BH K M H0 c))(h':JW X (.BoolOp .Or (b::AB) pos) (BH K M H0 c')):JW X (.BoolOp .Or (a::b::AB) pos) (BH K M H0 λρ=>D0 (c ρ) (c' ρ)):=#[have h:=h.h;have h':=h'.h;(lj h h').mono λ_ _ _ q=>oB q]
@[simp] noncomputable def Ct(o:O Bool):O D:=o.map D.bl
theorem Pp{Q:VK}(h:tD K M H0 (λρ=>Ct (c ρ)) I H Q):∃ρ b,Bl K M H0 ρ I H/\c ρ=Z b/\∀H',Aj H H'->Q (.bl b) H':=by
 obtain⟨ρ,d,R,e,q⟩:=h;obtain⟨k,a,e⟩:=BN.mp e;cases e;exact#[ρ,k,R,a,λH' s=>q _ H' s (by erw[Ar])]
theorem oE(h:JE X a (tD K M H0 f)):JE X (.UnaryOp .Not a pos) (tD K M H0 λρ=>Ct (ZW (AL (f ρ)))):=#[have h:=h.h;(lx h).mono λg H Q q=>by
 obtain⟨ρ,b,R,e,q⟩:=Pp q;obtain⟨k,c,e⟩:=BN.mp e;cases e;refine#[ρ,.bl k,R,LI c,λv i s d=>?_];erw[Ar]at d;simp_all]
theorem oF {op} (h:JE X a (tD K M H0 f)):JE X (.BoolOp op [a] pos) (tD K M H0 λρ=>Ct (AL (f ρ))):=#[have h:=h.h;(lr h).mono λg H Q q=>by
 obtain⟨ρ,b,R,e,q⟩:=Pp q;exact#[ρ,.bl b,R,LI e,λv d s c=>by erw[Ar]at c;subst c;exact q d s]]
theorem oG(h:JE X a (tD K M H0 f))(h':JE X (.BoolOp .And (b::AB) pos) (tD K M H0 λρ=>Ct (c' ρ))):JE X (.BoolOp .And (a::b::AB) pos) (tD K M H0 λρ=>Ct (Ez (AL (f ρ)) (c' ρ))):=#[have h:=h.h;have h':=h'.h;(lu h h').mono λm H Q q=>by
 obtain⟨ρ,b,R,e,q⟩:=Pp q;cases c:AL (f ρ)with
 |none=>rw[c]at e;cases e
 |some k=>
  refine#[ρ,.bl k,R,LI c,λv g s i=>?_];refine#[k,i,?_];rw[c]at e;cases k with
  |true=>exact#[ρ,.bl b,R.st s,by show Ct (c' ρ)=_;rw[show c' ρ=Z b from e];rfl,λw j l d=>by erw[Ar]at d;subst d;exact q j<|s.trans l]
  |false=>cases e;exact q g s]
theorem oH(h:JE X a (tD K M H0 f))(h':JE X (.BoolOp .Or (b::AB) pos) (tD K M H0 λρ=>Ct (c' ρ))):JE X (.BoolOp .Or (a::b::AB) pos) (tD K M H0 λρ=>Ct (D0 (AL (f ρ)) (c' ρ))):=#[have h:=h.h;have h':=h'.h;(lw h h').mono λm H Q q=>by
 obtain⟨ρ,b,R,e,q⟩:=Pp q;cases c:AL (f ρ)with
 |none=>rw[c]at e;cases e
 |some k=>
  refine#[ρ,.bl k,R,LI c,λv g s i=>?_];refine#[k,i,?_];rw[c]at e;cases k with
  |false=>exact#[ρ,.bl b,R.st s,by show Ct (c' ρ)=_;rw[show c' ρ=Z b from e];rfl,λw j l d=>by erw[Ar]at d;subst d;exact q j<|s.trans l]
  |true=>cases e;exact q g s]
@[simp] noncomputable def KC{d:Type}(c:O Bool)(a b:O d):O d:=match c with
  |some J'=>a
  |some O'=>b
  |none=>J
theorem oI{k:Expr}(i:JT X k (BH K M H0 c))(j:JE X a (tD K M H0 f))(l:JE X b (tD K M H0 g)):JE X (.IfExp k a b pos) (tD K M H0 λρ=>KC (c ρ) (f ρ) (g ρ)):=#[have i:=i.h;have j:=j.h;have l:=l.h;(lz i j l).mono λr H Q p=>by
 obtain⟨ρ,d,R,e,q⟩:=p;try dsimp only at e q
 cases i:c ρ with|none=>rw[i]at e;cases e|some k=>
  refine#[ρ,k,R,i,λt s=>?_];cases k with
  |true=>rw[i]at e;refine Ji ?_;exact#[ρ,d,R.st s,e,λw m n o=>q w m (s.trans n) o]
  |false=>rw[i]at e;refine Jj ?_;exact#[ρ,d,R.st s,e,λw m n o=>q w m (s.trans n) o]]
@[simp] noncomputable def isN:D->Bool
  |.non=>J'
  |_=>O'
@[simp] noncomputable def Jl(o:O D):O Bool:=o.map isN
theorem Aw.isN{K:Am}{N:Fb}{d:D}{v:V}(h:Aw K N H d v):decide (v=.non)=L2.isN d:=by
 cases d with
 |tup _=>erw[Aw,Ar]at h;obtain⟨a,b,e,_⟩:=h;subst e;rfl
 |lst _ c=>cases c<;>(obtain⟨a,b,e,_⟩:=h;subst e;rfl)
 |_=>erw[Aw,Ar]at h;subst h;rfl
theorem oJ {j c} (h:JE X a (tP K M H0 f)):JT X (.Compare a [.Is] [.Constant .none j c] pos) (BH K M H0 λρ=>Jl (f ρ)):=#[have h:=h.h;(W0<|lc h).mono λm H Q g=>by
 obtain⟨ρ,b,R,e,q⟩:=g;obtain⟨d,i,e⟩:=BN.mp e;cases e;exact#[ρ,d,R,i,λv k s l=>#[_,rfl,l.isN ▸ q k s]]]
theorem oK {j c} (h:JE X a (tP K M H0 f)):JT X (.Compare a [.IsNot] [.Constant .none j c] pos) (BH K M H0 λρ=>ZW (Jl (f ρ))):=#[have h:=h.h;(W0<|lf h).mono λm H Q i=>by
 obtain⟨ρ,b,R,e,q⟩:=i;try dsimp only at e q
 cases g:f ρ with
 |none=>rw[g]at e;cases e
 |some d=>rw[g]at e;cases e;exact#[ρ,d,R,g,λv k s l=>#[_,rfl,l.isN ▸ q k s]]]
end
end
theorem oM{e:Expr}{env:Env}(h:∀x p,e≠.Starred x p):Az (e::es) env=(O',An e env)::Az es env:=by
 cases e with
 |Starred x p=>exact absurd rfl<|h x p
 |_=>rfl
noncomputable def oO:Expr->Bool
 |.Starred _ _=>J'
 |_=>O'
theorem ZI{e:Expr}{env:Env}(h:oO e=O'):Az (e::es) env=(O',An e env)::Az es env:=oM λx p z=>by subst z;cases h
structure CA(X:Cx)(x:Ae)(e:Expr)(es:List Expr)(pos:AC):Prop where
 d:Cj x
 s:Az (e::es) X.env=(O',An e X.env)::Az es X.env
 p:(As pos (Az es X.env)).any (·.1)=O'
theorem Ek{x:Ae}{e:Expr}(d:Cj x:=by ext)(s:Az (e::es) X.env=(O',An e X.env)::Az es X.env:=by exact ZI rfl)(p:(As pos (Az es X.env)).any (·.1)=O':=by rfl):CA X x e es pos:=#[d,s,p]
structure BA(X:Cx)(x:Ae)(vpos:AC)(m:Ae)(apos:AC)(e:Expr)(cpos:AC):Prop where
 b:GA (.Name x vpos) m X.env (An (.Name x vpos) X.env)=An (.Name x vpos) X.env
 f:((As cpos (Az [e] X.env)).all (λx=>!x.1)&&(GB cpos (GC [] X.env)).all (λx=>x.1.isSome)&&decide ([e].length+([]:List Ev).length+(if([]:List Ev).isEmpty then 0 else 1)<30))=J'
 l:(apos.endLine==cpos.line)=J'
 s:Az [e] X.env=(O',An e X.env)::Az [] X.env
 p:(As cpos (Az [] X.env)).any (·.1)=O'
theorem Yk{x:Ae}{c:AC}{m:Ae}{d:AC}{e:Expr}{a:AC}(b:GA (.Name x c) m X.env (An (.Name x c) X.env)=An (.Name x c) X.env:=by rfl) (f:((As a (Az [e] X.env)).all (λx=>!x.1)&&(GB a (GC [] X.env)).all (λx=>x.1.isSome)&&decide ([e].length+([]:U Ev).length+(if([]:U Ev).isEmpty then 0 else 1)<30))=J':=by rfl) (l:(d.endLine==a.line)=J':=by rfl) (s:Az [e] X.env=(O',An e X.env)::Az [] X.env:=by exact ZI rfl) (p:(As a (Az [] X.env)).any (·.1)=O':=by rfl):BA X x c m d e a:=#[b,f,l,s,p]
def Cq(K:Am)(N:Fb)(H:Hp):Sl->V->Prop
 |.val d,v=>Ar K N H d v
 |.lent c b,v=>∃a e,v=.ref a/\N a/\Rd H a (CO K b a c e)/\Ad K N H c e
 |_,_=>False
def Bx(K:Am)(N:Fb)(H:Hp):U Sl->U V->Prop
 |[],a=>a=[]
 |s::b,a=>∃v r,a=v::r/\Cq K N H s v/\Bx K N H b r
@[simp] noncomputable def pk:Sl->O D
  |.val d=>Z d
  |.lent a b=>Z (.lst a b)
  |.own a b _=>Z (.lst a b)
  |.no=>J
  |.exc _=>J
theorem Cq.same{K:Am}{N:Fb}{s:Sl}{v:V}(h:Cq K N H s v)(sm:Aj H H'):Cq K N H' s v:=by
 cases s with
 |val d=>exact Ar.same h sm
 |lent b f=>obtain⟨a,g,e,n,q,r⟩:=h;exact#[a,g,e,n,q.same sm,r.same sm]
 |no=>exact h
 |own b f i=>exact h
 |exc c=>exact h
theorem Cq.p{K:Am}{N:Fb}{s:Sl}{v:V}(h:Cq K N H s v){d:D}(b:pk s=Z d):Aw K N H d v:=by
 cases s with
 |val d=>cases b;exact Ar.p h
 |lent f g=>cases b;obtain⟨a,i,e,n,q,r⟩:=h;subst e;exact Sz q r
 |no=>exact BS h
 |own f g j=>exact BS h
 |exc c=>exact BS h
theorem Bx.length{K:Am}{N:Fb}{H:Hp}:∀{a:U Sl}{vs:U V},Bx K N H a vs->a.length=vs.length
 |[],_,h=>by cases h;rfl
 |s::a,_,⟨v,r,e,h,t⟩=>by subst e;simp[Bx.length t]
theorem Bx.get{K:Am}{N:Fb}{H:Hp}:∀{a:U Sl}{vs:U V}{i:Nat}{s:Sl},Bx K N H a vs->a[i]?=Z s->∃v,vs[i]?=Z v/\Cq K N H s v
 |[],_,i,s,h,e=>by simp at e
 |_::a,_,0,s,⟨v,r,b,h,t⟩,e=>by subst b;simp at e;subst e;exact#[v,rfl,h]
 |_::a,_,i+1,s,⟨v,r,b,h,t⟩,e=>by
  subst b;obtain⟨w,c,d⟩:=Bx.get (i:=i) t (by simpa using e);exact#[w,by simpa using c,d]
def CH(K:Am)(M:Fb)(H0:Hp)(f:Dx):TA:=λc H Q=>∃a d,Bl K M H0 a c H/\f a=Z d/\∀e b,Aj H b->Bx K (Nf M a c) b d e->Q e b
def Gc(K:Am)(M:Fb)(H0:Hp)(f:VE->O Sl):TE:=λc H Q=>∃a s,Bl K M H0 a c H/\f a=Z s/\∀v b,Aj H b->Cq K (Nf M a c) b s v->Q v b
@[simp] noncomputable def CZ(ρ:VE)(i:Nat):O Sl:=match ρ[i]? with
  |some (.val d)=>Z (.val d)
  |some (.own a b _)=>Z (.lent a b)
  |some (.lent a b)=>Z (.lent a b)
  |_=>J
@[simp] noncomputable def C6(o:O D):O Sl:=o.map Sl.val
@[simp] noncomputable def Zd{c:Type}(a:O c)(b:O (U c)):O (U c):=a.bind λx=>b.bind λy=>Z (x::y)
theorem Hi{c:Type}{a:O c}{b:O (U c)}{l:U c}(h:Zd a b=Z l):∃x y,a=Z x/\b=Z y/\l=x::y:=by
 cases a with|none=>cases h|some x=>
  cases b<;>simp_all
section
variable{K:Am}{M:Fb}{e a b:Expr}{f g:AD}{f1:VE->O Sl}
theorem oP{i:Nat}{x:Ae}(k:NV X i x):PE X (.Name x pos) (Gc K M H0 λρ=>CZ ρ i):=(Ga k).mono λc H Q l=>by
  obtain⟨ρ,d,R,e,q⟩:=l;try dsimp only at e q
  have fin:∀v,c[i]?.join=Z v->Cq K (Nf M ρ c) H d v->∃v,c[i]?=Z (Z v)/\Q v H:=λv b h=>by
   grind [Aj.refl]
  unfold CZ at e;split at e
  ·next h=>cases e;obtain⟨v,b,h⟩:=R.slot i _ h;exact fin v b h
  ·next h=>
   cases e;obtain⟨a,f,b,_,_,g,j⟩:=R.slot i _ h;refine fin _ b #[a,f,rfl,.inr #[i,_,_,_,h,?_],.inl g,j];cases z:c[i]? with
   |none=>rw[z]at b;cases b
   |some o=>rw[z]at b;cases b;rfl
  ·next h=>cases e;obtain⟨a,f,b,m,g,j⟩:=R.slot i _ h;exact fin _ b #[a,f,rfl,.inl m.1,g,j]
  ·cases e
theorem Yl(h:JE X e (tD K M H0 f)):JE X e (Gc K M H0 λρ=>C6 (f ρ)):=#[have h:=h.h;h.mono λi H Q a=>by
 obtain⟨ρ,s,R,e,q⟩:=a;obtain⟨d,b,e⟩:=BN.mp e;cases e;exact#[ρ,d,R,b,λv c s g=>q v c s g]]
theorem SD :JA X [] (CH K M H0 λ_=>Z []):=#[Bk.mono λb H Q a=>by
 obtain⟨c,d,R,e,q⟩:=a;cases e;exact q [] H (Aj.refl H) rfl]
theorem Pq(h:JE X e (Gc K M H0 f1))(a:JA X es (CH K M H0 fa))(f:Az (e::es) X.env=(O',An e X.env)::Az es X.env:=by exact ZI rfl):JA X (e::es) (CH K M H0 λρ=>Zd (f1 ρ) (fa ρ)):=#[have h:=h.h;have a:=a.h;(Eu h a f).mono λn H Q g=>by
 obtain⟨ρ,o,R,e,q⟩:=g;obtain⟨s,r,i,j,rfl⟩:=Hi e;exact#[ρ,s,R,i,λv p b k=>#[ρ,r,R.st b,j,λc l d m=>q (v::c) l (b.trans d) #[v,c,rfl,k.same d,m]]]]
@[simp] def Zm:U Sl->A2
  |[]=>Z []
  |.val d::r=>Zd (Z d) (Zm r)
  |_=>J
theorem LJ{K:Am}{N:Fb}{H:Hp}:∀{a:U Sl}{vs:U V}{b:U D},Bx K N H a vs->Zm a=Z b->Ad K N H b vs
 |[],_,_,h,e=>by cases e;cases h;exact Ad.nil
 |.val d::r,_,_,⟨v,t,c,h,f⟩,e=>by
  obtain⟨x,y,g,i,j⟩:=Hi e;cases g;subst c j;exact Ad.cons h<|LJ f i
 |.no::_,_,_,_,e=>nomatch e
 |.own _ _ _::_,_,_,_,e=>nomatch e
 |.lent _ _::_,_,_,_,e=>nomatch e
 |.exc _::_,_,_,_,e=>nomatch e
@[simp] noncomputable def Zf{a:Type}(o:O (U a)):O (U a):=o.bind λl=>if l.length<=Ax then Z l else J
theorem SE{a:Type}{o:O (U a)}{l:U a}(h:Zf o=Z l):o=Z l/\l.length<=Ax:=by
 cases o with|none=>cases h|some x=>
  have b:(if x.length<=Ax then Z x else J)=Z l:=h;grind
theorem ZT{p:Ac}{o:HO}(h:H p=J):Aj H (AK H p o):=λb u e=>Zn (ZU e h) ▸ e
theorem Nb{d:Hp}{Q:VK}{p:Ac}(s:Aj H d)(e:d p=J)(h:Ad K (Nf M ρ I) d xs vs) (q:∀a vs H',Aj H H'->H a=J->H' a=Z (CO K fl a xs vs)->Ad K (λb=>Nf M ρ I b\/b=a) H' xs vs->Q (.ref a) H'):Q (.ref p) (AK d p (CO K fl p xs vs)):=by
 refine q p vs _ (s.trans<|ZT e) (s.free e) ZZ ?_;refine(h.nw λb c=>?_).same (ZT e);rcases c with c|c
 ·exact .inl c
 ·subst c;exact .inr e
theorem oQ(h:JA X es (CH K M H0 fa)):JE X (.List es pos) (tF K M H0 λρ=>Zf ((fa ρ).bind Zm)):=#[have h:=h.h;(mR h).mono λj H Q b=>by
 obtain⟨ρ,k,R,e,q⟩:=b;obtain⟨e,c⟩:=SE e;obtain⟨d,f,e⟩:=BI.mp e;exact#[ρ,d,R,f,λl m g a=>#[(LJ a e).length ▸ c,λp i=>Nb g i (LJ a e) q]]]
theorem oR {c} (h:JA X es (CH K M H0 fa)):JE X (.Tuple es c pos) (tD K M H0 λρ=>(Zf ((fa ρ).bind Zm)).map D.tup):=#[have h:=h.h;(mQ h).mono λm H Q f=>by
 obtain⟨ρ,d,R,e,q⟩:=f;obtain⟨n,a,e⟩:=BN.mp e;cases e;obtain⟨e,a⟩:=SE a;obtain⟨g,i,e⟩:=BI.mp e;refine#[ρ,g,R,i,λj o k l=>?_];have hd:=LJ l e;exact#[hd.length ▸ a,λp b=>q _ _ (k.trans<|ZT b) ⟨p,j,rfl,B0.of ZZ,hd.same<|ZT b⟩]]
end
inductive Rv where
 |val (d:D)|own (xs:List D) (b:Kd:=.l)
def Nc(K:Am)(N:Fb)(H0 H':Hp):Rv->V->Prop
 |.val d,v=>Ar K N H' d v
 |.own c b,v=>∃a e,v=.ref a/\H0 a=J/\H' a=Z (CO K b a c e)/\Ad K (λb=>N b\/b=a) H' c e
def A4(K:Am)(F:U Sl->O Rv):Sp:=λd H Q _=>∃N c r,(∀a,N a->H a≠J)/\Bx K N H c d/\F c=Z r/\∀v b,Aj H b->Nc K N H b r v->Q v b
@[simp] noncomputable def C3:Rv->D
  |.val d=>d
  |.own a b=>.lst a b
@[simp] noncomputable def LK:Rv->A2
  |.own a=>Z a
  |_=>J
@[simp] noncomputable def SF:Rv->A2
  |.own a .d=>Z a
  |_=>J
section
variable{K:Am}{M:Fb}{e:Expr}{F:U Sl->O Rv}{k:Nat}{fn:Ac}{fd:B3}{x:Ae}{p:AC}{E:XK}
@[simp] def Zh(F:U Sl->O Rv)(fa:Dx):AD:=λa=>(fa a).bind λb=>(F b).map C3
@[simp] noncomputable def E9(F:U Sl->O Rv)(fa:Dx):VE->A2:=λa=>(fa a).bind λb=>(F b).bind LK
theorem oS{Q:VK}(h:tD K M H0 (Zh F fa) I H Q):Pd (A4 K F) [] E (CH K M H0 fa) I H Q:=by
 obtain⟨f,d,R,e,q⟩:=h;obtain⟨g,j,e⟩:=BI.mp e;obtain⟨r,k,e⟩:=BN.mp e;cases e;refine#[f,g,R,j,λx y c l=>#[Nf M f I,g,r,(R.st c).nh,by rw[DO];exact l,k,λv m n i=>q v m (c.trans n) ?_]];cases r with|val d=>exact i|own A B=>
  obtain⟨a,o,p,s,t,u⟩:=i;exact#[a,o,p,.of (λz=>(R.st c).fresh s z) t,u.nw λb w=>.inl<|.inl w]
@[simp] noncomputable def Jm(F:U Sl->O Rv)(fa:Dx):VE->A2:=λa=>(fa a).bind λb=>(F b).bind SF
theorem oU{Q:VK}(h:EO .d K M H0 (Jm F fa) I H Q):Pd (A4 K F) [] E (CH K M H0 fa) I H Q:=by
 obtain⟨g,d,R,e,q⟩:=h;obtain⟨b,j,e⟩:=BI.mp e;cases c:F b with|none=>erw[B7,c]at e;cases e|some r=>
  erw[B7,c]at e;cases r with|val d=>cases e|own x k=>
   cases k with
   |l=>cases e
   |i _ _=>cases e
   |d=>
    cases e;refine#[g,b,R,j,λy z f m=>#[Nf M g I,b,_,(R.st f).nh,by rw[DO];exact m,c,λv n o p=>?_]];obtain⟨a,s,rfl,t,u,w⟩:=p;exact q a s n (f.trans o) (f.free t) u w
theorem oV{Q:VK}(h:tF K M H0 (E9 F fa) I H Q):Pd (A4 K F) [] E (CH K M H0 fa) I H Q:=by
 obtain⟨g,d,R,e,q⟩:=h;obtain⟨b,j,e⟩:=BI.mp e;cases c:F b with|none=>erw[B7,c]at e;cases e|some r=>
  erw[B7,c]at e;cases r with|val d=>cases e|own x k=>
   cases k with
   |d=>cases e
   |i _ _=>cases e
   |l=>
    cases e;refine#[g,b,R,j,λy z f m=>#[Nf M g I,b,_,(R.st f).nh,by rw[DO];exact m,c,λv n o p=>?_]];obtain⟨a,s,rfl,t,u,w⟩:=p;exact q a s n (f.trans o) (f.free t) u w
theorem oW(G:AO X.prog X.w X.K X.mg X.base CX k fn fd ps (A4 K F))(b:AE k X.A)(c:Gl X x)(f:X.mg x=Z (.ref fn))(g:HN X.K (.ref fn)=J')(i:Binds X.K fd ps [])(j:E6 CX X E)(a:JA X (e::es) (CH K M H0 fa))(hz:CA X x e es pos:=by exact Ek):JE X (.Call (.Name x p) (e::es) [] pos) (tD K M H0 (Zh F fa)):=#[have a:=a.h;(Pe G b c f g i .nil j a hz.d hz.s hz.p).mono λ_ _ _ h=>oS h]
theorem oX(G:AO X.prog X.w X.K X.mg X.base CX k fn fd ps (A4 K F))(b:AE k X.A)(c:Gl X x)(f:X.mg x=Z (.ref fn))(g:HN X.K (.ref fn)=J')(i:Binds X.K fd ps [])(j:E6 CX X E)(a:JA X (e::es) (CH K M H0 fa))(hz:CA X x e es pos:=by exact Ek):JE X (.Call (.Name x p) (e::es) [] pos) (tF K M H0 (E9 F fa)):=#[have a:=a.h;(Pe G b c f g i .nil j a hz.d hz.s hz.p).mono λ_ _ _ h=>oV h]
end
def FN(K:Am)(r:U V->Hp->VK->Prop)(F:Ea):Prop:=∀(N:Fb)(H:Hp)(c:U V)(e:U D)(d:D)(Q:VK),(∀a,N a->H a≠J)->Paired (Aw K N H) e c->F e=Z d ->
 (∀v b,Aj H b->Ar K N b d v->Q v b)->r c H Q
def Pr(K:Am)(r:U V->Hp->VK->Prop)(F:U D->A2):Prop:=∀(N:Fb)(H:Hp)(b:U V)(c:U D)(d:U D)(Q:VK),(∀a,N a->H a≠J)->Paired (Aw K N H) c b->F c=Z d ->
 (∀e p,H p=J->Ad K N H d e->Q (.ref p) (AK H p (.lst e)))->r b H Q
@[simp] noncomputable def Gd:U Sl->A2
  |[]=>Z []
  |s::r=>Zd (pk s) (Gd r)
theorem Ps{K:Am}{N:Fb}{H:Hp}:∀{a:U Sl}{vs:U V}{b:U D},Bx K N H a vs->Gd a=Z b->Paired (Aw K N H) b vs
 |[],_,_,h,e=>by cases e;cases h;exact .nil
 |s::r,_,_,⟨v,t,c,h,d⟩,e=>by
  obtain⟨x,y,f,g,i⟩:=Hi e;subst c i;exact .cons (h.p f)<|Ps d g
section
variable{K:Am}{M:Fb}{e:Expr}{x:Ae}{p:AC}{r:U V->Hp->VK->Prop}{F:Ea}{G:U D->A2}{id:String}
@[simp] def Zj(F:Ea)(fa:Dx):AD:=λa=>((fa a).bind Gd).bind F
@[simp] def El(F:U D->A2)(fa:Dx):VE->A2:=λa=>((fa a).bind Gd).bind F
theorem Ym(f:FN K r F){Q:VK}(h:tD K M H0 (Zj F fa) I H Q):Pg r (CH K M H0 fa) I H Q:=by
 obtain⟨a,d,R,e,q⟩:=h;unfold Zj at e;cases b:fa a with|none=>rw[b]at e;cases e|some g=>
  rw[b]at e;obtain⟨i,j,e⟩:=BI.mp e;exact#[a,g,R,b,λk l c m=>f (Nf M a I) l k i d Q (R.st c).nh (Ps m j) e λv n s o=>q v n (c.trans s) o]
theorem oY(g:Pr K r G){Q:VK}(h:tF K M H0 (El G fa) I H Q):Pg r (CH K M H0 fa) I H Q:=by
 obtain⟨a,d,R,e,q⟩:=h;unfold El at e;cases b:fa a with|none=>rw[b]at e;cases e|some i=>
  rw[b]at e;obtain⟨j,c,e⟩:=BI.mp e;exact#[a,i,R,b,λk l f m=>g (Nf M a I) l k j d Q (R.st f).nh (Ps m c) e λo p c n=>Nb f c n q]
theorem GI(b:Eh X (.builtin id) r)(c:FN K r F)(f:Gl X x)(g:X.mg x=J)(i:DY x=Z (.builtin id))(a:JA X (e::es) (CH K M H0 fa))(j:x≠"__name__":=by ext)(hz:CA X x e es pos:=by exact Ek):JE X (.Call (.Name x p) (e::es) [] pos) (tD K M H0 (Zj F fa)):=#[have a:=a.h;(XG b f g i a j hz.d hz.s hz.p).mono λ_ _ _ h=>Ym c h]
theorem Yn(b:Eh X (.type id) r)(c:FN K r F)(f:Gl X x)(g:X.mg x=J)(i:DY x=Z (.type id))(a:JA X (e::es) (CH K M H0 fa))(j:x≠"__name__":=by ext)(hz:CA X x e es pos:=by exact Ek):JE X (.Call (.Name x p) (e::es) [] pos) (tD K M H0 (Zj F fa)):=#[have a:=a.h;(XH b f g i a j hz.d hz.s hz.p).mono λ_ _ _ h=>Ym c h]
theorem Yo(b:Eh X (.type id) r)(c:Pr K r G)(f:Gl X x)(g:X.mg x=J)(i:DY x=Z (.type id))(a:JA X (e::es) (CH K M H0 fa))(j:x≠"__name__":=by ext)(hz:CA X x e es pos:=by exact Ek):JE X (.Call (.Name x p) (e::es) [] pos) (tF K M H0 (El G fa)):=#[have a:=a.h;(XH b f g i a j hz.d hz.s hz.p).mono λ_ _ _ h=>oY c h]
end
inductive DP where
 |fail|next(ρ:VE)|brk (ρ:VE)|cont (ρ:VE)|ret (r:Rv)
abbrev AA:=VE->DP
def Ia(K:Am)(M:Fb)(H0:Hp)(ρ:VE)(I:St)(H:Hp)(b:VE)(Q:St->Hp->Prop):Prop:=∀a c,Bl K M H0 b a c->Step M (Nf M ρ I) (Nf M b a) H c->Q a c
def BZ(K:Am)(M:Fb)(H0:Hp)(ρ:VE)(I:St)(H:Hp)(D:Ends):DP->Prop
 |.fail=>False
 |.next a=>Ia K M H0 ρ I H a D.nx
 |.brk a=>Ia K M H0 ρ I H a D.bk
 |.cont a=>Ia K M H0 ρ I H a D.ct
 |.ret r=>∀v b,Aj H0 b->Nc K M H0 b r v->D.rt v b
def tS(K:Am)(M:Fb)(H0:Hp)(g:AA):TS:=λD b H=>∃a,Bl K M H0 a b H/\BZ K M H0 a b H D (g a)
@[simp] noncomputable def Zg(a:DP)(g:AA):DP:=match a with
  |.next b=>g b
  |r=>r
theorem Ia.from{K:Am}{M:Fb}{a b:VE}{c:St}{e:Hp}{Q:St->Hp->Prop}(s:Step M (Nf M ρ I) (Nf M a c) H e)(h:Ia K M H0 ρ I H b Q):Ia K M H0 a c e b Q:=λd f R g=>h d f R<|s.trans g
theorem BZ.from{K:Am}{M:Fb}{a:VE}{b:St}{d:Hp}{D:Ends}{r:DP}(s:Step M (Nf M ρ I) (Nf M a b) H d)(h:BZ K M H0 ρ I H D r):BZ K M H0 a b d D r:=by
 cases r with
 |fail=>exact h
 |next c=>exact Ia.from s h
 |brk c=>exact Ia.from s h
 |cont c=>exact Ia.from s h
 |ret r=>exact h
section
variable{K:Am}{M:Fb}{st:Av}{AB:U Av}{g g1 g2:AA}{e:Expr}{f:AD}
theorem oZ :JB X [] (tS K M H0 λρ=>.next ρ):=#[Fm.mono λD a H ⟨ρ,R,q⟩=>q a H R Step.refl]
theorem Yp(c:JS X st (tS K M H0 g1))(d:JB X AB (tS K M H0 g2)):JB X (st::AB) (tS K M H0 λρ=>Zg (g1 ρ) g2):=#[have c:=c.h;have d:=d.h;(W8 c d).mono λD j H e=>by
 obtain⟨ρ,R,q⟩:=e;try dsimp only at q
 refine#[ρ,R,?_];cases b:g1 ρ with
 |fail=>rw[b]at q;exact q
 |next a=>rw[b]at q;exact λf k g i=>#[a,g,q.from i]
 |brk a=>rw[b]at q;exact q
 |cont a=>rw[b]at q;exact q
 |ret r=>rw[b]at q;exact q]
@[simp] noncomputable def ZA(o:O D):DP:=match o with
  |some d=>.ret (.val d)
  |none=>.fail
theorem o0(h:JE X e (tD K M H0 f)):JS X (.Return (Z e) pos) (tS K M H0 λρ=>ZA (f ρ)):=#[have h:=h.h;(O3 h).mono λD k H c=>by
 obtain⟨ρ,R,q⟩:=c;try dsimp only at q
 cases b:f ρ with|none=>rw[b]at q;exact BS q|some d=>
  rw[b]at q;exact#[ρ,d,R,b,λv g s i=>q v g (R.same.trans s)<|i.nw λa j=>.inl<|.inl j]]
@[simp] noncomputable def Cn(o:A2):DP:=match o with
  |some a=>.ret (.own a)
  |none=>.fail
@[simp] noncomputable def Nd(o:A2):DP:=match o with
  |some a=>.ret (.own a .d)
  |none=>.fail
theorem Yq{k:Kd}{f:VE->A2}{r:A2->DP}(g:r J=.fail)(i:∀xs,r (Z xs)=.ret (.own xs k))(h:PE X e (EO k K M H0 f)):PS X (.Return (Z e) pos) (tS K M H0 λρ=>r (f ρ)):=(O3 h).mono λD t H j=>by
 obtain⟨ρ,R,q⟩:=j;try dsimp only at q
 cases d:f ρ with|none=>rw[d,g]at q;exact BS q|some xs=>
  rw[d,i]at q;exact#[ρ,xs,R,d,λa l m s n o p=>q (.ref a) m (R.same.trans s) #[a,l,rfl,R.same.free n,o,p.nw λb c=>by
   rcases c with c|c
   ·exact .inl<|.inl<|.inl c
   ·exact .inl<|.inr c]]
theorem o4{f:VE->A2}(h:JE X e (EO .d K M H0 f)):JS X (.Return (Z e) pos) (tS K M H0 λρ=>Nd (f ρ)):=#[Yq rfl (λ_=>rfl) h.h]
theorem o5{f:VE->A2}(h:JE X e (tF K M H0 f)):JS X (.Return (Z e) pos) (tS K M H0 λρ=>Cn (f ρ)):=#[Yq rfl (λ_=>rfl) h.h]
@[simp] noncomputable def Eb(ρ:VE)(i:Nat):A2:=match ρ[i]? with
  |some (.own a)=>Z a
  |_=>J
theorem Ng{i:Nat}(h:Eb ρ i=Z xs):ρ[i]?=Z (.own xs):=by grind [Eb]
@[simp] noncomputable def LL(ρ:VE)(i:Nat):A2:=match ρ[i]? with
  |some (.own a .d)=>Z a
  |_=>J
theorem Pt{i:Nat}(h:LL ρ i=Z xs):ρ[i]?=Z (.own xs .d):=by grind [LL]
theorem ZN{i:Nat}{v:V}(a:I[i]?.join=Z v):I[i]?=Z (Z v):=by
 grind
theorem o6{k:Kd}{f:VE->Nat->A2}{r:A2->DP}(j:r J=.fail)(l:∀xs,r (Z xs)=.ret (.own xs k))(g:∀{ρ i xs},f ρ i=Z xs->ρ[i]?=Z (.own xs k)){i:Nat}{x:Ae}{c:AC}(m:NV X i x):PS X (.Return (Z (.Name x c)) pos) (tS K M H0 λρ=>r (f ρ i)):=(O3<|Ga m).mono λD u H n=>by
 obtain⟨ρ,R,q⟩:=n;try dsimp only at q
 cases e:f ρ i with|none=>rw[e,j]at q;exact BS q|some xs=>
  rw[e,l]at q;obtain⟨a,o,h,⟨p,_⟩,v,s,t⟩:=R.slot i _<|g e;refine⟨.ref a,ZN h,q (.ref a) H R.same ⟨a,o,rfl,p,s,t.nw λb d=>.inl ?_⟩⟩;rcases d with d|d
  ·exact .inl d
  ·subst d;exact .inr #[i,xs,_,_,g e,ZN h]
@[simp] noncomputable def ZX(c:O Bool)(a b:DP):DP:=match c with
  |some J'=>a
  |some O'=>b
  |none=>.fail
theorem o7{c:Expr}{a b:U Av}{t:VE->O Bool}(d:JT X c (BH K M H0 t))(e:JB X a (tS K M H0 g1))(f:JB X b (tS K M H0 g2)):JS X (.If c a b pos) (tS K M H0 λρ=>ZX (t ρ) (g1 ρ) (g2 ρ)):=#[have d:=d.h;have e:=e.h;have f:=f.h;(O4 d e f).mono λD j H i=>by
 obtain⟨ρ,R,q⟩:=i;try dsimp only at q
 cases g:t ρ with|none=>rw[g]at q;exact BS q|some k=>
  rw[g]at q;refine#[ρ,k,R,g,λl s=>?_];cases k with
  |true=>refine Ji ?_;exact#[ρ,R.st s,BZ.from (Step.of_same s) q]
  |false=>refine Jj ?_;exact#[ρ,R.st s,BZ.from (Step.of_same s) q]]
theorem Jn{a:Type}{l:U a}{i:Nat}{x y:a}(h:(l.set i x)[i]?=Z y):i<l.length/\x=y:=by
 grind
theorem Nh{M:Fb}{i:Nat}{s:Sl}{v:V}{b:Ac}(f:ρ.length=I.length)(h:Nf M (ρ.set i s) (I.set i (Z v)) b):Nf M ρ I b\/∃xs fl a,s=.own xs fl a/\v=.ref b:=by
 rcases h with h|⟨j,xs,fl,a,c,d⟩
 ·exact .inl<|.inl h
 ·by_cases e:i=j
  ·subst e;cases((Jn c).2);cases((Jn d).2);exact .inr #[xs,fl,a,rfl,rfl]
  ·rw[Et e]at c d;exact .inl<|.inr ⟨j,xs,fl,a,c,d⟩
theorem Bl.put{i:Nat}{s:Sl}{v:V}(R:Bl K M H0 ρ I H)(S:Step M (Nf M ρ I) (Nf M (ρ.set i s) (I.set i (Z v))) H H')(sm:Aj H0 H') (E:∀j a vs xs fl m,j≠i->ρ[j]?=Z (.own xs fl m)->I[j]?=Z (Z (.ref a))->H a=Z (CO K fl a xs vs)->H' a=Z (CO K fl a xs vs)) (G:i<ρ.length->Yf K M (Nf M (ρ.set i s) (I.set i (Z v))) H0 H' s (Z v)) (n:∀xs fl m a j ys b f,s=.own xs fl m->v=.ref a->j≠i->ρ[j]?=Z (.own ys b f)->I[j]?≠Z (Z (.ref a))):Bl K M H0 (ρ.set i s) (I.set i (Z v)) H' where
 len:=by rw[HR,HR];exact R.len
 same:=sm;mh:=λa h z=>by
  cases e:H a with
  |none=>exact R.mh a h e
  |some o=>rw[S.kp a o e<|.inr<|.inl h]at z;cases z
 slot:=λj A e=>by
  by_cases t:i=j
  ·subst t;obtain⟨B,e⟩:=Jn e;subst e;rw[Gx<|R.len ▸ B];exact G B
  ·rw[Et t]at e ⊢;have q:=R.slot j A e;cases A with
   |no=>trivial
   |val d=>obtain⟨u,p,h⟩:=q;exact#[u,p,Ar.step S d u h]
   |own xs fl m=>obtain⟨a,vs,p,g,l,r,w⟩:=q;exact#[a,vs,p,g,l,E j a vs xs fl m (Bv t) e (ZN p) r,Ad.step S xs vs w]
   |lent xs fl=>obtain⟨a,vs,p,g,l,r⟩:=q;exact#[a,vs,p,g,l.step S<|.inr<|.inl g.1,Ad.step S xs vs r]
   |exc c=>obtain⟨a,C,p,g,l⟩:=q;exact#[a,C,p,g,S.kp _ _ l<|.inr<|.inr rfl]
 inj:=λj k xs ys fl b m f a g l r w=>by
  by_cases y:i=j
  ·by_cases x:i=k
   ·rw[<- y,x]
   ·subst y;rw[Et x]at l w;cases((Jn g).2);cases((Jn r).2);exact absurd w<|n xs fl m a k ys b f rfl rfl (Bv x) l
  ·rw[Et y]at g r;by_cases x:i=k
   ·subst x;cases((Jn l).2);cases((Jn w).2);exact absurd r<|n ys b f a j xs fl m rfl rfl (Bv y) g
   ·rw[Et x]at l w;exact R.inj j k xs ys fl b m f a g l r w
theorem Bl.setV{i:Nat}{d:D}{v:V}(R:Bl K M H0 ρ I H)(s:Aj H H')(h:Ar K (Nf M ρ I) H' d v):Bl K M H0 (ρ.set i (.val d)) (I.set i (Z v)) H'/\Step M (Nf M ρ I) (Nf M (ρ.set i (.val d)) (I.set i (Z v))) H H':=by
 have S:Step M (Nf M ρ I) (Nf M (ρ.set i<|.val d)<|I.set i<|some v) H H':=#[λa o e _=>s a o e,λb c=>by
  rcases Nh R.len c with q|⟨f,_,_,e,_⟩
  ·exact .inl q
  ·cases e]
 refine#[R.put S (R.same.trans s) (λj a l f g _ _ _ _ e=>s _ _ e) (λ_=>#[v,rfl,h.nw λb c=>?_]) (λf g _ a j m k _ e=>nomatch e),S];rcases Nh R.len c with q|⟨f,_,_,e,_⟩
 ·exact .inl q
 ·cases e
theorem Bl.setO{i:Nat}(R:Bl K M H0 ρ I H)(s:Aj H H')(d:H a=J)(l:H' a=Z (CO K fl a xs vs))(h:Ad K (λb=>Nf M ρ I b\/b=a) H' xs vs):Bl K M H0 (ρ.set i (.own xs fl)) (I.set i (Z (.ref a))) H'/\Step M (Nf M ρ I) (Nf M (ρ.set i (.own xs fl)) (I.set i (Z (.ref a)))) H H':=by
 have nf:∀b,Nf M (ρ.set i<|.own xs fl) (I.set i<|some<|.ref a) b->Nf M ρ I b\/b=a:=λb c=>by
  rcases Nh R.len c with q|⟨xs,fl,_,e,f⟩
  ·exact .inl q
  ·cases f;exact .inr rfl
 have S:Step M (Nf M ρ I) (Nf M (ρ.set i<|.own xs fl)<|I.set i<|some<|.ref a) H H':=#[λa o e _=>s a o e,λb c=>by
  grind]
 refine#[R.put S (R.same.trans s) (λj a vs xs fl _ _ _ _ e=>s _ _ e) (λ_=>#[a,vs,rfl,#[R.same.free d,λ_ z=>nomatch z],λm=>R.fresh d<|.inl m,l,h.nw λb c=>.inl<|nf b c]) (λn p _ v j r g k e f w t u=>?_),S];cases f;exact R.fresh d<|.inr ⟨j,r,g,k,t,u⟩
theorem Bl.chg{fl2:Kd}{c:O Ac}{i:Nat}{ys:U D}{ws:U V}(R:Bl K M H0 ρ I H)(m:ρ[i]?=Z (.own xs fl c))(g:I[i]?=Z (Z (.ref a)))(h:Ad K (Nf M ρ I) H ys ws):Bl K M H0 (ρ.set i (.own ys fl2 c)) I (AK H a (CO K fl2 a ys ws))/\Step M (Nf M ρ I) (Nf M (ρ.set i (.own ys fl2 c)) I) H (AK H a (CO K fl2 a ys ws)):=by
 obtain⟨B,L,w,⟨x,C⟩,y,E,N⟩:=R.slot i _ m;rw[g]at w;have G:a=B:=by simpa using w
 subst G;have n:I.set i (Z<|.ref a)=I:=by
  apply Jo;intro j;by_cases e:i=j
  ·subst e;rw[Gx (BC.mp g).1,g]
  ·rw[Et e]
 have A:Nf M ρ I a:=.inr #[i,xs,fl,c,m,g];have nf:∀b,Nf M (ρ.set i<|.own ys fl2 c) (I.set i<|some<|.ref a) b->Nf M ρ I b:=λb p=>by
  rcases Nh R.len p with q|⟨xs,_,_,e,r⟩
  ·exact q
  ·cases r;exact A
 have S:Step M (Nf M ρ I) (Nf M (ρ.set i<|.own ys fl2 c)<|I.set i<|some<|.ref a) H (AK H a<|CO K fl2 a ys ws):=#[λb o e z=>by
   have ne:b≠a:=by
    rintro rfl;rcases z with z|z|z
    ·exact z A
    ·exact y z
    ·rw[E]at e;cases e;rw[Ye]at z;cases z
   rw[Zn ne];exact e,λb p=>.inl<|nf b p]
 have k:Bl K M H0 (ρ.set i<|.own ys fl2 c) (I.set i<|some<|.ref a) (AK H a<|CO K fl2 a ys ws):=by
  refine R.put S (λb o e=>?_) (λj b P l d f s t u Q=>?_) (λ_=>#[a,ws,rfl,#[x,C],y,ZZ,Ad.step S ys ws h]) (λl F _ b j v d f e r s t u=>?_)
  ·have ne:b≠a:=by
    rintro rfl;rw[x]at e;cases e
   rw[Zn ne];exact R.same b o e
  ·have ne:b≠a:=by
    rintro rfl;exact s<|R.inj j i l xs d fl f c b t m u g
   rw[Zn ne];exact Q
  ·cases r;exact s<|R.inj j i v xs d fl f c _ t m u g
 rw[n]at k S;exact#[k,S]
theorem Bl.frz{o:O Ac}{i:Nat}(R:Bl K M H0 ρ I H)(l:ρ[i]?=Z (.own xs fl o)):Bl K M H0 (ρ.set i (.val (.lst xs fl))) I H/\Step M (Nf M ρ I) (Nf M (ρ.set i (.val (.lst xs fl))) I) H H:=by
 obtain⟨a,m,p,z,r,s,t⟩:=R.slot i _ l;have d:I.set i (Z<|.ref a)=I:=by
  apply Jo;grind
 have nf:∀b,Nf M (ρ.set i<|.val<|.lst xs fl) (I.set i<|some<|.ref a) b->Nf M ρ I b:=λb f=>by
  rcases Nh R.len f with q|⟨xs,_,_,e,A⟩
  ·exact q
  ·cases e
 have g:¬ Nf M (ρ.set i<|.val<|.lst xs fl) (I.set i<|some<|.ref a) a:=by
  rintro(h|⟨j,u,v,w,k,n⟩)
  ·exact r h
  ·by_cases e:i=j
   ·subst e;cases((Jn k).2)
   ·rw[Et e]at k n;exact e<|R.inj i j xs u _ _ _ _ a l k (ZN p) n
 have S:Step M (Nf M ρ I) (Nf M (ρ.set i<|.val<|.lst xs fl)<|I.set i<|some<|.ref a) H H:=#[λ_ _ e _=>e,λb f=>.inl<|nf b f];have c:Bl K M H0 (ρ.set i<|.val<|.lst xs fl) (I.set i<|some<|.ref a) H:=by
  exact R.put S R.same (λ_ _ _ _ _ _ _ _ _ h=>h) (λ_=>#[.ref a,rfl,#[a,m,rfl,.of g s,Ad.step S xs m t]]) (λx _ _ b j y _ _ e=>nomatch e)
 rw[d]at c S;exact#[c,S]
@[simp] noncomputable def Z3(i:Nat)(o:O D)(ρ:VE):DP:=match o with
  |some d=>.next (ρ.set i (.val d))
  |none=>.fail
@[simp] noncomputable def Z6(i:Nat)(o:A2)(ρ:VE):DP:=match o with
  |some a=>.next (ρ.set i (.own a))
  |none=>.fail
@[simp] noncomputable def GJ(i:Nat)(o:A2)(ρ:VE):DP:=match o with
  |some a=>.next (ρ.set i (.own a .d))
  |none=>.fail
theorem o8{f:VE->A2}{i:Nat}{c:Ends}(h:tS K M H0 (λρ=>GJ i (f ρ) ρ) c I H):Lr (EO .d K M H0 f) (Kj i) c I H:=by
 obtain⟨ρ,R,q⟩:=h;cases b:f ρ with|none=>erw[b,GJ]at q;exact BS q|some d=>
  erw[b,GJ]at q;refine#[ρ,d,R,b,λa m n s e g j=>?_];obtain⟨k,l⟩:=R.setO (i:=i) s e g j;exact q _ _ k l
theorem o9{f:VE->A2}{i:Nat}{x:Ae}{a:AC}(c:X.N.Nodup)(g:X.N[i]?=Z x)(j:Loc X.env.scope x)(b:JE X e (EO .d K M H0 f))(k:DE e (Z (.Name x a)) pos.line X.env=Ay O':=by rfl)(l:X.fn x=J'\/X.env.scope.names.lookup x=Z .local:=by first|exact .inl rfl|exact .inr rfl|assumption):JS X (.Assign [.Name x a] e pos) (tS K M H0 λρ=>GJ i (f ρ) ρ):=#[have b:=b.h;(MS c g j b k l).mono λ_ _ _ q=>o8 q]
theorem Yr{i:Nat}{b:Ends}(h:tS K M H0 (λρ=>Z3 i (f ρ) ρ) b I H):Lr (tD K M H0 f) (Kj i) b I H:=by
 obtain⟨ρ,R,q⟩:=h;cases a:f ρ with|none=>erw[a,Z3]at q;exact BS q|some d=>
  erw[a,Z3]at q;refine#[ρ,d,R,a,λv j s c=>?_];obtain⟨e,g⟩:=R.setV (i:=i) s c;exact q _ _ e g
theorem SG{f:VE->A2}{i:Nat}{c:Ends}(h:tS K M H0 (λρ=>Z6 i (f ρ) ρ) c I H):Lr (tF K M H0 f) (Kj i) c I H:=by
 obtain⟨ρ,R,q⟩:=h;cases b:f ρ with|none=>erw[b,Z6]at q;exact BS q|some d=>
  erw[b,Z6]at q;refine#[ρ,d,R,b,λa m n s e g j=>?_];obtain⟨k,l⟩:=R.setO (i:=i) s e g j;exact q _ _ k l
theorem pa{i:Nat}{x:Ae}{a:AC}(c:X.N.Nodup)(d:X.N[i]?=Z x)(g:Loc X.env.scope x)(b:JE X e (tD K M H0 f))(j:DE e (Z (.Name x a)) pos.line X.env=Ay O':=by rfl)(k:X.fn x=J'\/X.env.scope.names.lookup x=Z .local:=by first|exact .inl rfl|exact .inr rfl|assumption):JS X (.Assign [.Name x a] e pos) (tS K M H0 λρ=>Z3 i (f ρ) ρ):=#[have b:=b.h;(MS c d g b j k).mono λ_ _ _ q=>Yr q]
theorem pb{f:VE->A2}{i:Nat}{x:Ae}{a:AC}(c:X.N.Nodup)(d:X.N[i]?=Z x)(g:Loc X.env.scope x)(b:JE X e (tF K M H0 f))(j:DE e (Z (.Name x a)) pos.line X.env=Ay O':=by rfl)(k:X.fn x=J'\/X.env.scope.names.lookup x=Z .local:=by first|exact .inl rfl|exact .inr rfl|assumption):JS X (.Assign [.Name x a] e pos) (tS K M H0 λρ=>Z6 i (f ρ) ρ):=#[have b:=b.h;(MS c d g b j k).mono λ_ _ _ q=>SG q]
@[simp] noncomputable def LM(i:Nat)(ρ:VE):VE:=match ρ[i]? with
  |some (.own a b _)=>ρ.set i (.val (.lst a b))
  |_=>ρ
set_option tactic.hygienic true in
theorem pc(i:Nat)(h:JS X st (tS K M H0 g)):JS X st (tS K M H0 λρ=>g (LM i ρ)):=#[have h:=h.h;h.mono λe f H a=>by
 obtain⟨ρ,R,q⟩:=a;try dsimp only at q
 unfold LM at q;split at q
 ·next j b=>
  obtain⟨c,d⟩:=R.frz b;exact#[_,c,q.from d]
 ·exact#[ρ,R,q]]
@[simp] noncomputable def FO(i:Nat)(o:O D)(ρ:VE):DP:=match ρ[i]?,o with
  |some (.own a .l b),Z d=>if a.length<Ax then .next (ρ.set i (.own (a++[d]) .l b))else .fail
  |_,_=>.fail
set_option tactic.hygienic true in
theorem pe{i:Nat}{x:Ae}{c g j:AC}(u:NV X i x)(k:JE X e (tD K M H0 f))(w:DE (.Call (.Attribute (.Name x c) "append" g) [e] [] j) J pos.line X.env=Ay O':=by rfl)(hz:BA X x c "append" g e j:=by exact Yk):JS X (.Expr (.Call (.Attribute (.Name x c) "append" g) [e] [] j) pos) (tS K M H0 λρ=>FO i (f ρ) ρ):=#[have k:=k.h;(R8 (Ku SH PySem.F.slot_list_append PySem.F.type_list_append X2 (Ga u) (Eu k Bk hz.s) hz.b hz.f hz.l hz.s hz.p) w).mono λG Q H y=>by
  obtain⟨ρ,R,q⟩:=y;try dsimp only at q
  unfold FO at q;split at q
  ·next z E d n A=>
   split at q
   ·next hz=>
    obtain⟨a,m,o,L,N,r,t⟩:=R.slot i _ n;refine#[.ref a,(ZN o),.inl #[rfl,m,.inl<|.inl r],ρ,d,R,A,λv P s B=>?_];obtain⟨R2,C⟩:=(R.st s).chg (ys:=z++[d]) (ws:=m++[v]) (fl2:=.l) n (ZN o) ((t.same s).append<|Ad.cons B Ad.nil);exact⟨a,m,v,rfl,rfl,s _ _ r,t.length ▸ hz,q _ _ R2<|(Step.of_same s).trans C⟩
   ·exact BS q
  ·exact BS q]
end
def LN(K:Am)(M N:Fb)(f:Hp)(g:It)(c:U D):Prop:=∀e a,Step M N e f a->∀i,(∀d,c[i]?=Z d->g.go i a/\∀x b,g.yld i a x b->Aj a b/\Ar K e b d x)/\(i=c.length->g.stop i a)
def tI(K:Am)(M:Fb)(H0:Hp)(f:VE->A2):TI:=λc H R=>∃a d,Bl K M H0 a c H/\f a=Z d/\∀e b,Aj H b->LN K M (Nf M a c) b e d->R e b
def tG(K:Am)(M:Fb)(H0:Hp)(ws:U Nat)(b:D->VE->O VE):TG:=λv e H Q=>∃f d c,Bl K M H0 f e H/\Ar K (Nf M f e) H d v/\b d f=Z c/\∀a ,Bl K M H0 c a H->Step M (Nf M f e) (Nf M c a) H H->(∀j,j∉ws->a[j]?=e[j]?)->Q a H
@[simp] noncomputable def Zc(i:Nat)(d:D)(ρ:VE):O VE:=Z (ρ.set i (.val d))
noncomputable def Z8(b:D->VE->O VE)(g:AA):U D->AA
 |[],c=>.next c
 |d::f,c=>match b d c with
  |none=>.fail
  |some e=>match g e with
   |.next a=>Z8 b g f a
   |.cont a=>Z8 b g f a
   |.brk a=>.next a
   |r=>r
@[simp] def EA(f:VE->A2)(b:D->VE->O VE)(g:AA):AA:=λa=>match f a with
  |some c=>Z8 b g c a
  |none=>.fail
section
variable{K:Am}{M:Fb}{e:Expr}{f:VE->A2}{b:D->VE->O VE}{g:AA}{body:U Av}
theorem pf{i:Nat}{x:Ae}(b:X.N.Nodup)(c:X.N[i]?=Z x)(f:Loc X.env.scope x)(g:X.fn x=J'\/X.env.scope.names.lookup x=Z .local:=by first|exact .inl rfl|exact .inr rfl|assumption):JG X (.Name x pos) (tG K M H0 [i] (Zc i)):=#[by
 intro a s h H v u Q p r #[o,d,k,R,hd,e,q];cases e;obtain⟨l,m⟩:=R.setV (i:=i) (Aj.refl H) hd;exact W9 b c f g a s h H v u Q p r (q _ l m λj n=>by rw[Et<|λe=>n (by rw[e];simp)])]
theorem ph{E:Ends}{B:TG}{S:TS}(hi:∀I H R,tI K M H0 f I H R->wi I H R)(hg:∀v I H Q,tG K M H0 ws b v I H Q->B v I H Q)(hb:∀D I H,tS K M H0 g D I H->S D I H) (h:tS K M H0 (EA f b g) E I H):Xh wi B S E I H:=by
 obtain⟨C,R,q⟩:=h;unfold EA at q;cases G:f C with|none=>rw[G]at q;exact BS q|some d=>
  rw[G]at q;refine hi _ _ _ #[C,d,R,G,λF Y s1 ok=>?_];refine#[λi m e A=>m=d.length-i/\i<=d.length/\∃a,Bl K M H0 a e A/\Step M (Nf M C I) (Nf M a e) Y A/\BZ K M H0 a e A E (Z8 b g (d.drop i) a),#[d.length,by simp,F8 _,C,R.st s1,Step.refl,?_],?_]
  ·exact BZ.from (Step.of_same s1) q
  ·rintro i m e A ⟨rfl,hle,a,Ri,W,c⟩;obtain⟨L,N⟩:=ok _ _ W i;by_cases l:i<d.length
   ·obtain⟨go,y⟩:=L d[i]<|BW l;rw[LC l]at c;erw[Z8]at c;refine .inr ⟨go,λn s=>i+1<=d.length/\∃a,Bl K M H0 a n s/\Step M (Nf M C I) (Nf M a n) Y s/\BZ K M H0 a n s E (Z8 b g (d.drop<|i+1) a),λn s z=>⟨d.length-(i+1),by lia,rfl,z⟩,λx s yl=>?_⟩;obtain⟨s3,hd⟩:=y x s yl;cases t:b d[i] a with|none=>rw[t]at c;exact BS c|some o=>
     rw[t]at c;simp only at c;refine hg _ _ _ _ #[a,d[i],o,Ri.st s3,hd,t,λP R1 S1 _=>hb _ _ _ #[o,R1,?_]];have j:Step M (Nf M a e) (Nf M o P) A s:=(Step.of_same s3).trans S1;cases k:g o with
     |fail=>rw[k]at c;exact c
     |next p=>rw[k]at c;exact λu T R2 w=>#[l,p,R2,W.trans<|j.trans w,BZ.from (j.trans w) c]
     |cont p=>rw[k]at c;exact λu T R2 w=>#[l,p,R2,W.trans<|j.trans w,BZ.from (j.trans w) c]
     |brk p=>rw[k]at c;exact λu T R2 w=>c u T R2<|j.trans w
     |ret r=>rw[k]at c;exact c
   ·rw[M8 (by lia)]at c;exact .inl #[N (show i=d.length by lia),c e A Ri Step.refl]
theorem pi(e:PassesOwn (Ag X.prog X.w) X.A X.env X.xe)(i:X.calm=J')(a:JI X tg iter (tI K M H0 f))(c:JG X tg (tG K M H0 ws b))(d:JB X body (tS K M H0 g))(j:∀x,E2 iter X.env x=Ay x:=by intro _;rfl):JS X (.For tg iter body [] pos) (tS K M H0 (EA f b g)):=#[have a:=a.h;have c:=c.h;have d:=d.h;(Xj e i a c d j).mono λ_ _ _ q=>ph (λ_ _ _ z=>z) (λ_ _ _ _ z=>z) (λ_ _ _ z=>z) q]
theorem PI.mono{a:TI}(h:PI X tg iter wi)(m:∀I H R,a I H R->wi I H R):PI X tg iter a:=λb s I H R c q=>h b s I H R c<|m I H R q
def Pu(K:Am)(M N:Fb)(H:Hp)(d:D)(v:V):Prop:=match d with
 |.lst e=>∃a c,v=.ref a/\(((¬ N a\/M a)/\Rd H a (.lst c))\/KL K a c)/\Ad K N H e c
 |.lst e b=>∃a c,v=.ref a/\(¬ N a\/M a)/\Rd H a (CO K b a e c)/\Ad K N H e c
 |d=>Ar K N H d v
def tQ(K:Am)(M:Fb)(H0:Hp)(f:AD):TE:=λc H Q=>∃a d,Bl K M H0 a c H/\f a=Z d/\∀v b,Aj H b->Pu K M (Nf M a c) b d v->Q v b
theorem Ar.q{M N:Fb}{H:Hp}{d:D}{v:V}(h:Ar K N H d v):Pu K M N H d v:=by
 cases d with
 |lst g c=>
  obtain⟨a,b,e,q,r⟩:=h;cases c with
  |l=>
   refine#[a,b,e,?_,r];rcases q with⟨n,q⟩|⟨f,z,q⟩
   ·exact .inl #[.inl n,q]
   ·cases z;exact .inr q
  |_=>
   rcases q with⟨n,q⟩|⟨f,z,_⟩
   ·exact#[a,b,e,.inl n,q,r]
   ·cases z
 |_=>exact h
theorem PE.q{f:AD}(h:PE X e (tD K M H0 f)):PE X e (tQ K M H0 f):=h.mono λc H Q ⟨a,d,R,e,q⟩=>#[a,d,R,e,λv b s z=>q v b s z.q]
theorem pj{f:AD}(h:JE X e (tD K M H0 f)):JE X e (tQ K M H0 f):=#[PE.q h.h]
theorem pq{M N:Fb}(m:M a)(h:Rd H a (CO K fl a xs vs))(r:Ad K N H xs vs):Pu K M N H (.lst xs fl) (.ref a):=by
 cases fl with
 |l=>exact#[a,vs,rfl,.inl #[.inr m,h],r]
 |_=>exact#[a,vs,rfl,.inr m,h,r]
@[simp] noncomputable def B4(ρ:VE)(i:Nat):O D:=match ρ[i]? with
  |some (.val d)=>Z d
  |some (.lent a b)=>Z (.lst a b)
  |_=>J
theorem pr{i:Nat}{x:Ae}(c:NV X i x):PE X (.Name x pos) (tQ K M H0 λρ=>B4 ρ i):=(Ga c).mono λl H Q f=>by
  obtain⟨ρ,d,R,e,q⟩:=f;try dsimp only at e q
  unfold B4 at e;split at e
  ·next h=>cases e;obtain⟨v,b,h⟩:=R.slot i _ h;exact#[v,ZN b,q v H (Aj.refl H) h.q]
  ·next h=>cases e;obtain⟨a,m,b,g,j,k⟩:=R.slot i _ h;exact#[_,ZN b,q _ H (Aj.refl H)<|pq g.1 j k]
  ·cases e
noncomputable def Ys:D->A2
 |.lst a=>Z a
 |_=>J
noncomputable def pu:D->A2
 |.tup a=>Z a
 |_=>J
noncomputable def pv:D->A2
 |.str x=>Z (x.cps.toList.map λc=>D.str #[(T' [c])])
 |_=>J
theorem pw{l:Expr}{f:AD}(h:PE X l (tQ X.K M H0 f)):PI X tg l (tI X.K M H0 λρ=>(f ρ).bind Ys):=(Xd h).mono λs H P t=>by
 obtain⟨ρ,F,R,e,q⟩:=t;obtain⟨d,u,e⟩:=BI.mp e;cases d with
 |lst L A=>
  cases A with
  |d=>cases e
  |i _ _=>cases e
  |l=>
  cases e;refine#[ρ,.lst _,R,u,λv o B C=>?_];obtain⟨a,c,E,g,hd⟩:=C;have p:∀k j,Step M (Nf M ρ s) k o j->BJ X.K j a c:=λk j S=>by
   rcases g with⟨G,g⟩|g
   ·exact .inl<|g.step S (by rcases G with z|z;exact .inl z;exact .inr<|.inl z)
   ·exact g.sq
  refine#[a,E,#[c,p _ _ Step.refl],q _ o B λk j S i=>?_];have b:=p _ _ S;refine#[λd m=>?_,λm=>#[c,b,by rw[m,hd.length];exact Bc _]];obtain⟨w,r,n⟩:=(Ad.step S _ _ hd).get m;refine#[#[c,w,b,r],λx N y=>?_];obtain⟨rfl,y⟩:=y;have:=y c b;rw[r]at this;cases this;exact#[Aj.refl _,n]
 |_=>cases e
theorem px{l:Expr}{f:AD}(h:PE X l (tQ X.K M H0 f)):PI X tg l (tI X.K M H0 λρ=>(f ρ).bind pu):=(lV h).mono λt H u m=>by
 obtain⟨ρ,z,R,e,q⟩:=m;obtain⟨d,n,e⟩:=BI.mp e;cases d with
 |tup A=>
  cases e;refine#[ρ,.tup _,R,n,λv o p r=>?_];obtain⟨a,b,s,c,hd⟩:=r;refine#[a,s,#[b,c],q _ o p λB C S i=>?_];refine#[λd g=>?_,λg=>#[b,(c.step S),by rw[g,hd.length];exact Bc _]];obtain⟨w,k,j⟩:=(Ad.step S _ _ hd).get g;refine#[#[b,w,(c.step S),k],λx E y=>?_];obtain⟨rfl,y⟩:=y;have:=y b<|c.step S;rw[k]at this;cases this;exact⟨Aj.refl _,j⟩
 |_=>cases e
theorem py{l:Expr}{f:AD}(h:PE X l (tQ K M H0 f)):PI X tg l (tI K M H0 λρ=>(f ρ).bind pv):=(nR h).mono λs H t j=>by
 obtain⟨ρ,u,R,e,q⟩:=j;obtain⟨d,k,e⟩:=BI.mp e;cases d with
 |str x=>
  cases e;refine#[ρ,.str x,R,k,λv m n o=>?_];refine#[x,o,q _ m n λw z S i=>#[λd a=>?_,λa=>?_]]
  ·rw[CW]at a;obtain⟨c,g,a⟩:=BN.mp a;cases a;have p:i<x.cps.size:=by
    have:=(BC.mp g).1;simpa using this
   refine#[p,λv A y=>?_];obtain⟨r,B,b,y⟩:=y;subst r y;rw[<- Array.getElem?_toList,g]at b;cases b;exact#[Aj.refl _,by erw[Ar]]
  ·have:i=x.cps.size:=by simpa using a
   exact Lv this.symm
 |_=>cases e
noncomputable def Ge(lo:Int)(n:Nat):U D:=(BB n).map (λ(k:Nat)=>D.int (lo+(k:Int)))
theorem Pw{M N:Fb}{c:Hp}{lo:Int}{n:Nat}:LN K M N c (MU lo n) (Ge lo n):=λg h S i=>by
 refine#[λd a=>?_,λa=>?_]
 ·have b:i<n:=by
   have:=(BC.mp a).1;simpa[Ge]using this
  have e:d=D.int (lo+i):=by
   erw[Ge,CW,List.getElem?_range b,Jf,Option.some.injEq]at a;exact a.symm
  subst e;refine#[b,λx j y=>?_];obtain⟨f,y⟩:=y;subst f y;exact#[Aj.refl _,by erw[Ar]]
 ·have:i=n:=by simpa[Ge]using a
  exact Lv this.symm
def gd{a:Type}(p:Prop)(o:O a):O a:=@ite _ p (Px p) o J
theorem LP{a:Type}{p:Prop}{o:O a}(h:p):gd p o=o:=by grind [gd]
theorem Py{a:Type}{p:Prop}{o:O a}{x:a}(h:gd p o=Z x):p/\o=Z x:=by grind [LP,gd]
def EQ:U D->A2
 |[.int j]=>gd (-1000000000<=j/\j<1000000000) (Z (Ge 0 j.toNat))
 |_=>J
def Ni:U D->A2
 |[.int i,.int j]=>gd (-1000000000<=i/\i<1000000000 /\ -1000000000<=j/\j<1000000000) (Z (Ge i (j-i).toNat))
 |_=>J
set_option tactic.hygienic true in
theorem pz{a:Expr}{b:Dx}{p:AC}(f:Gl X "range")(g:X.mg "range"=J)(c:JA X [a] (CH K M H0 b))(i:Az [a] X.env=[(O',An a X.env)]:=by rfl):JI X tg (.Call (.Name "range" p) [a] [] pos) (tI K M H0 λρ=>((b ρ).bind Zm).bind EQ):=#[have c:=c.h;(Xf f g c i).mono λy H z k=>by
  obtain⟨ρ,A,R,e,q⟩:=k;try dsimp only at e q
  cases d:b ρ with|none=>rw[d]at e;cases e|some m=>
   rw[d]at e;obtain⟨l,n,e⟩:=BI.mp e;unfold EQ at e;split at e
   ·next j=>
    obtain⟨B,e⟩:=Py e;cases e;refine#[ρ,m,R,d,λC o s t=>?_];obtain⟨v,r,u,w,x⟩:=(LJ t n);subst u w x;exact#[j,rfl,by lia,by lia,q _ o s Pw]
   ·cases e]
set_option tactic.hygienic true in
theorem pA{a b:Expr}{c:Dx}{p:AC}(k:Gl X "range")(m:X.mg "range"=J)(d:JA X [a,b] (CH K M H0 c))(n:Az [a,b] X.env=[(O',An a X.env),(O',An b X.env)]:=by rfl)(f:Az [b] X.env=[(O',An b X.env)]:=by rfl):JI X tg (.Call (.Name "range" p) [a,b] [] pos) (tI K M H0 λρ=>((c ρ).bind Zm).bind Ni):=#[have d:=d.h;(Xg k m d n f).mono λE H G o=>by
  obtain⟨ρ,Q,R,e,q⟩:=o;try dsimp only at e q
  cases g:c ρ with|none=>rw[g]at e;cases e|some s=>
   rw[g]at e;obtain⟨l,t,e⟩:=BI.mp e;unfold Ni at e;split at e
   ·next i j=>
    obtain⟨F,e⟩:=Py e;cases e;refine#[ρ,s,R,g,λL u w x=>?_];obtain⟨v,r,y,z,N,P,A,B,C⟩:=(LJ x t);subst z B C A y;exact#[i,j,rfl,#[by lia,by lia,by lia,by lia],q _ u w Pw]
   ·cases e]
end
def Pz(K:Am)(M:Fb)(H0:Hp)(ws:U Nat)(b:U D->VE->O VE):HL:=λg d H Q=>∃e f c,Bl K M H0 e d H/\Ad K (Nf M e d) H f g/\b f e=Z c/\∀a ,Bl K M H0 c a H->Step M (Nf M e d) (Nf M c a) H H->(∀j,j∉ws->a[j]?=d[j]?)->Q a H
@[simp] noncomputable def Dq:U D->VE->O VE
  |[],a=>Z a
  |_,_=>J
@[simp] noncomputable def ZC(b:D->VE->O VE)(c:U D->VE->O VE):U D->VE->O VE
  |d::r,a=>(b d a).bind (c r)
  |_,_=>J
@[simp] noncomputable def Dr(n:Nat)(b:U D->VE->O VE):D->VE->O VE
  |.tup a,c=>if a.length=n then b a c else J
  |_,_=>J
section
variable{K:Am}{M:Fb}{e:Expr}{ws':U Nat}{b:D->VE->O VE}{c:U D->VE->O VE}
theorem pB :JK X [] (Pz K M H0 [] Dq):=#[by
 intro a s b H c d Q i r #[h,f,g,R,hd,e,q];cases f with
 |nil=>
  cases e;exact lJ a s b H c d Q i r #[hd,q b R Step.refl λ_ _=>rfl]
 |cons=>cases e]
theorem pC(g:JG X e (tG K M H0 ws b))(i:JK X es (Pz K M H0 ws' c))(p:(FG (e::es) X.env).map (·.2)=assign e X.env::(FG es X.env).map (·.2):=by rfl):JK X (e::es) (Pz K M H0 (ws++ws') (ZC b c)):=#[have g:=g.h;have i:=i.h;by
 intro a s t H L u Q N r #[w,k,l,R,hd,e,q];cases k with|nil=>cases e|cons d k=>
  obtain⟨v,x,rfl,y,z⟩:=hd;obtain⟨f,A,e⟩:=BI.mp e;refine lK g i p a s t H _ u Q N r #[v,x,rfl,w,d,f,R,y,A,λB C o E=>#[f,k,l,C,Ad.step o _ _ z,e,λm R2 G F=>q m R2 (o.trans G) λj n=>?_]];rw[Cm,not_or]at n;rw[F j n.2,E j n.1]]
theorem pD{k n:Nat}(i:X.calm=J')(h:JK X es (Pz X.K M H0 ws c))(j:(FG es X.env).length=n:=by rfl)(f:(FG es X.env).findIdx? (·.1)=J:=by rfl):JG X (.Tuple es k pos) (tG X.K M H0 ws (Dr n c)):=#[have h:=h.h;by
 intro b s l H v u Q y r #[m,d,g,R,hd,e,q];cases d with
 |tup o=>
  obtain⟨p,e⟩:=ZV e;obtain⟨a,t,w,x,hd⟩:=hd;exact lM i h j f b s l H v u Q y r #[a,t,w,x,hd.length ▸ p,m,o,g,R,hd,e,q]
 |_=>cases e]
end
@[simp] noncomputable def Jp:O Sl->Sl
  |some (.val d)=>.val d
  |some (.own a b _)=>.lent a b
  |some (.lent a b)=>.lent a b
  |_=>.no
@[simp] noncomputable def Zq(k:Nat)(oix:U Nat)(ρ:VE):VE:=CV k .no++oix.map λj=>Jp ρ[j]?
noncomputable def Z2(b:D->VE->O VE)(t:VE->O Bool)(e:AD)(ρ:VE):U D->A2
 |[]=>Z []
 |d::c=>match b d ρ with
  |none=>J
  |some a=>match t a with
   |some J'=>Zd (e a) (Z2 b t e ρ c)
   |some O'=>Z2 b t e ρ c
   |none=>J
@[simp] def Zk(k:Nat)(oix:U Nat)(f:VE->A2)(b:D->VE->O VE)(t:VE->O Bool)(e:AD):VE->A2:=λa=>(Zf (f a)).bind (Z2 b t e (Zq k oix a))
section
variable{K:Am}{M:Fb}{f:VE->A2}{b:D->VE->O VE}{t:VE->O Bool}{e:AD}{k:Nat}{oix:U Nat}
set_option tactic.hygienic true in
theorem Bl.comp(R:Bl K M H0 ρ I H)(k:Nat)(oix:U Nat):Bl K (Nf M ρ I) H (Zq k oix ρ) (EN k oix I) H/\∀a,Nf (Nf M ρ I) (Zq k oix ρ) (EN k oix I) a->Nf M ρ I a:=by
 have b:∀(j:Nat) (c:U D) (e:Kd) (f:O Ac),(Zq k oix ρ)[j]?≠Z (Sl.own c e f):=λj c e f h=>by
  unfold Zq at h;rw[KD]at h;split at h
  ·rw[HP]at h;split at h<;>cases h
  ·rw[CW]at h;cases l:oix[j-(CV k Sl.no).length]? with|none=>rw[l]at h;cases h|some o=>
    rw[l]at h;erw[Jf,Option.some.injEq]at h;unfold Jp at h;split at h<;>cases h
 have nf:∀a,Nf (Nf M ρ I) (Zq k oix ρ) (EN k oix I) a->Nf M ρ I a:=λa h=>by
  rcases h with h|⟨j,c,e,f,h,_⟩
  ·exact h
  ·exact absurd h<|b j c e f
 refine#[#[by simp[Zq,EN],Aj.refl H,R.nh,λj s h=>?_,λi j c B e w f x a h=>absurd h<|b i c e f],nf];unfold Zq at h;rw[KD]at h;split at h
 ·rw[HP]at h;obtain⟨_,h⟩:=ZV h;cases h;trivial
 ·next y=>
  rw[CW]at h;have p:(EN k oix I)[j]?=(oix[j-k]?).map λi=>(I[i]?).join:=by
   unfold EN;grind
  rw[p];erw[Lx]at h;cases l:oix[j-k]? with|none=>rw[l]at h;cases h|some o=>
   rw[l]at h;erw[Jf,Option.some.injEq]at h;unfold Jp at h;split at h
   ·next d hd=>subst h;obtain⟨v,g,q⟩:=R.slot o _ hd;exact#[v,g,q.nw λa m=>.inl<|nf a m]
   ·next c e f hd=>
    subst h;obtain⟨a,r,g,t,u,n,A⟩:=R.slot o _ hd;exact#[a,r,g,#[.inr #[o,c,e,f,hd,ZN g],λz=>by rw[n]at z;cases z],.inl n,A.nw λa m=>.inl<|nf a m]
   ·next c hd=>
    subst h;obtain⟨a,r,g,t,u,n⟩:=R.slot o _ hd;exact#[a,r,g,#[.inl t.1,R.mh a t.1],u,n.nw λa m=>.inl<|nf a m]
   ·subst h;trivial
def Nj(K:Am)(ws:U Nat)(b:D->VE->O VE):TG:=λv a H Q=>∃M H0,tG K M H0 ws b v a H Q
def Nk(K:Am)(t:VE->O Bool):TT:=λa H Q=>∃M H0,BH K M H0 t a H Q
def Nl(K:Am)(e:AD):TE:=λa H Q=>∃M H0,tD K M H0 e a H Q
theorem Nm(hw:∀j∈ws,j<k)(hi:∀I H R,tI K M H0 f I H R->wi I H R){Q:VK}(h:tF K M H0 (Zk k oix f b t e) I H Q):Pk k oix wi (Nj K ws b) (Nk K t) (Nl K e) I H Q:=by
 obtain⟨l,G,R,ex,q⟩:=h;obtain⟨m,W,ex⟩:=BI.mp ex;obtain⟨W,hz⟩:=SE W;refine hi _ _ _ #[l,m,R,W,λF H1 s1 ok=>?_];refine#[m.length,λi L B=>i<=m.length/\L.length<=i/\Aj H1 B/\∃c AB,Ad K (Nf M l I) B c L/\Z2 b t e (Zq k oix l) (m.drop i)=Z AB/\c++AB=G,#[F8 _,Bc _,Aj.refl _,[],G,Ad.nil,ex,rfl],?_];rintro i L B ⟨hle,hy,u,c,AB,g,d,C⟩;obtain⟨N,P⟩:=ok _ B (Step.of_same u) i;by_cases n:i<m.length
 ·obtain⟨go,y⟩:=N m[i]<|BW n;rw[LC n]at d;erw[Z2]at d;refine .inr ⟨go,n,by lia,λr T=>r.length<=i+1/\Aj H1 T/\∃c AB,Ad K (Nf M l I) T c r/\Z2 b t e (Zq k oix l) (m.drop<|i+1)=Z AB/\c++AB=G,λr T z=>⟨n,z⟩,λx E yl=>?_⟩;obtain⟨w,hd⟩:=y x E yl;obtain⟨Rc,nf⟩:=(((R.st s1).st u).st w).comp k oix;cases S:b m[i] (Zq k oix l)with
  |none=>rw[S]at d;cases d
  |some o=>
   rw[S]at d;simp only at d;refine#[Nf M l I,E,Zq k oix l,m[i],o,Rc,hd.nw λa Y=>.inl<|nf a Y,S,λσ4 R4 S4 w4=>#[?_,?_]]
   ·apply Jo;intro j;rw[Jg,Jg];exact w4 _ λhj=>absurd (hw _ hj) (by lia)
   ·cases ht:t o with|none=>rw[ht]at d;cases d|some bb=>
     rw[ht]at d;refine#[Nf M l I,E,o,bb,R4,ht,λH5 A=>?_];cases bb with
     |true=>
      obtain⟨yd,s,e1,e2,e3⟩:=Hi d;refine Ji ?_;refine#[Nf M l I,E,o,yd,R4.st A,e1,λv H6 s6 hv=>#[?_,((u.trans w).trans A).trans s6,c++[yd],s,(g.same<|(w.trans A).trans s6).append<|Ad.cons (hv.nw λa Y=>.inl<|.inl Y) Ad.nil,e2,?_]]
      ·erw[Ej,Kv];lia
      ·subst e3;rw[<- C];simp
     |false=>
      exact Jj #[by lia,(u.trans w).trans A,c,AB,g.same<|w.trans A,d,C]
 ·rw[M8 (by lia)]at d;cases d;rw[DO]at C;subst C;exact .inl #[P (show i=m.length by lia),by lia,λp hp=>Nb (s1.trans u) hp g q]
theorem PG.all(h:∀M H0,PG Y tg (tG K M H0 ws b)):PG Y tg (Nj K ws b):=λa s c H v u Q d r ⟨M,H0,z⟩=>h M H0 a s c H v u Q d r z
theorem GH.all(h:∀M H0,GH Y ifs (BH K M H0 t)):GH Y ifs (Nk K t):=λa s b H Q c ⟨M,H0,z⟩=>h M H0 a s b H Q c z
theorem PE.all(h:∀M H0,PE Y elt (tD K M H0 e)):PE Y elt (Nl K e):=λa s b H Q c ⟨M,H0,z⟩=>h M H0 a s b H Q c z
theorem pE:JF Y [] (BH K M H0 λ_=>Z J'):=#[λa s c H Q f ⟨d,b,R,e,q⟩=>nO a s c H Q f (by cases e;exact q H<|Aj.refl H)]
theorem pF{c:Expr}(h:JT Y c (BH K M H0 t)):JF Y [c] (BH K M H0 t):=#[have h:=h.h;nP h]
structure CB(K:Am)(X:Cx)(own outs:List Ae)(scope:Scope)(tg:Expr)(ifs:List Expr)(elt:Expr)(ws:List Nat)(b:D->VE->Option VE)(t:VE->Option Bool)(e:AD):Prop where
 g:∀C s2 H2 fp pins,PG (Di X own outs scope C s2 H2 fp pins) tg (Nj K ws b)
 t:∀C s2 H2 fp pins,GH (Di X own outs scope C s2 H2 fp pins) ifs (Nk K t)
 e:∀C s2 H2 fp pins,PE (Di X own outs scope C s2 H2 fp pins) elt (Nl K e)
theorem pG{own c:U Ae}(j:∀{C d f g a i H'},JG (Di X own c scope C d f g a) tg (tG K i H' ws b))(k:∀{C d f g a i H'},JF (Di X own c scope C d f g a) ifs (BH K i H' t))(l:∀{C d f g a i H'},JE (Di X own c scope C d f g a) elt (tD K i H' e)):CB K X own c scope tg ifs elt ws b t e:=#[λ_ _ _ _ _=>PG.all λ_ _=>j.h,λ_ _ _ _ _=>GH.all λ_ _=>k.h,λ_ _ _ _ _=>PE.all λ_ _=>l.h]
theorem pH(own a:U Ae)(oix:U Nat)(S:HW own a scope X.env.scope)(c:oix.map (λj=>X.N[j]?)=a.map Z)(i:X.calm=J')(k:JI X tg iter (tI K M H0 f))(d:CB K X own a scope tg ifs elt ws b t e)(l:∀j∈ws,j<own.length)(m:∀x,E2 iter X.env x=Ay x:=by intro _;rfl):JE X (.ListComp elt [#[tg,iter,ifs,0]] scope pos) (tF K M H0 (Zk own.length oix f b t e)):=#[(X8 own a oix S c i k.h d.g d.t d.e m).mono λ_ _ _ z=>Nm l (λ_ _ _ z=>z) z]
theorem pI(own a:U Ae)(oix:U Nat){i:Nat}{x:Ae}{c d:AC}(S:HW own a scope X.env.scope)(k:oix.map (λj=>X.N[j]?)=a.map Z)(o:X.calm=J')(p:X.N.Nodup)(l:X.N[i]?=Z x)(q:X.env.scope.names.lookup x=Z .local)(r:JI X tg iter (tI K M H0 f))(m:CB K X own a scope tg ifs elt ws b t e)(s:∀j∈ws,j<own.length)(n:DE (.ListComp elt [#[tg,iter,ifs,0]] scope pos) (Z (.Name x c)) d.line X.env=Ay J':=by rfl)(u:∀x,E2 iter X.env x=Ay x:=by intro _;rfl):JS X (.Assign [.Name x c] (.ListComp elt [#[tg,iter,ifs,0]] scope pos) d) (tS K M H0 λρ=>Z6 i (Zk own.length oix f b t e ρ) ρ):=#[(Pl own a oix S k o p l q r.h m.g m.t m.e n u).mono λv w H z=>Nm s (λ_ _ _ z=>z) (SG z)]
theorem pJ(own c:U Ae)(oix:U Nat){i:Nat}{x:Ae}{k l:AC}(S:HW own c scope X.env.scope)(n:oix.map (λj=>X.N[j]?)=c.map Z)(u:X.calm=J')(v:X.N.Nodup)(o:X.N[i]?=Z x)(w:X.env.scope.names.lookup x=Z .local)(y:JI X tg iter (tI K M H0 f))(m:CB K X own c scope tg ifs elt ws b t e)(A:∀j∈ws,j<own.length)(p:DE (.ListComp elt [#[tg,iter,ifs,0]] scope pos) (Z (.Name x k)) l.line X.env=Ay J':=by rfl)(B:∀x,E2 iter X.env x=Ay x:=by intro _;rfl):JS X (.Assign [.Name x k] (.ListComp elt [#[tg,iter,ifs,0]] scope pos) l) (tS K M H0 λρ=>Z3 i (Zr (Zk own.length oix f b t e ρ)) ρ):=#[(Pl own c oix S n u v o w y.h m.g m.t m.e p B).mono λP Q H z=>by
   obtain⟨ρ,d,R,r,q⟩:=(Yr z);obtain⟨C,E,r⟩:=BN.mp r;cases r;exact Nm A (λ_ _ _ z=>z) #[ρ,C,R,E,λa G T s W F L=>q _ _ s #[a,G,rfl,.of (R.fresh W) F,L.nw λb m=>.inl<|.inl m]]]
end
noncomputable def AS(a n:Nat)(g:AA):U Sl->O Rv:=λb=>if b.length=a then
  match g (b++CV (n-a) .no)with
  |.ret r=>Z r
  |.next _=>Z (.val .non)
  |_=>J
 else J
theorem pK{K:Am}{N:Fb}{l:U Sl}(o:∀a,N a->H a≠J)(h:Bx K N H l vs)(n:Nat):Bl K N H (l++CV n .no) (vs.map Z++CV n J) H:=by
 have b:∀(j:Nat) (f:U D) (g:Kd) (k:O Ac),(l++CV n Sl.no)[j]?≠Z (Sl.own f g k):=λj f g k e=>by
  rw[KD]at e;split at e
  ·obtain⟨v,_,q⟩:=h.get e;exact q
  ·rw[HP]at e;split at e<;>cases e
 have nf:∀a,Nf N (l++CV n Sl.no) (vs.map Z++CV n J) a->N a:=λa z=>by
  rcases z with z|⟨j,f,g,k,z,_⟩
  ·exact z
  ·exact absurd z<|b j f g k
 refine#[by simp[h.length],Aj.refl H,o,λj s e=>?_,λi j f C g r k t a z=>absurd z<|b i f g k];rw[KD]at e;split at e
 ·next u=>
  obtain⟨v,w,q⟩:=h.get e;rw[EL (by simpa[<- h.length]using u),CW,w];cases s with
  |val d=>exact#[v,rfl,Ar.nw q λa m=>.inl<|nf a m]
  |lent f g=>obtain⟨a,x,y,p,A,B⟩:=q;exact#[a,x,by rw[y];rfl,#[p,o a p],A,B.nw λa m=>.inl<|nf a m]
  |no=>trivial
  |own f g k=>exact BS q
  |exc c=>exact BS q
 ·rw[HP]at e;obtain⟨_,e⟩:=ZV e;cases e;trivial
theorem pL{P:AJ}{w:Ai}{K:Am}{mg:Bi}{base:Ak}{x b:Ae}{st:Av}{f:Ac}{fd:B3}{N d:U Ae}{k:Nat}{g:AA}(F:HV K x b st f fd)(S:Z5 N d (Ze st))(u:d.length<=N.length) (y:∀(c:Aa) (A:Ah) (outer:U Env) (s:Ab) (H:Hp) (E:XK) (M:Fb) (H0:Hp),AE k (A.deeper (A0 b (Ze st) s.heap.objs.size f c))->EI (C2 Bd P w K mg base N b (Ze st) f c A outer s H E).nox (ZH st) (tS K M H0 g)):AO P w K mg base Bd (k+1) f fd d (A4 K (AS d.length N.length g)):=by
 refine F.ok S (λl H Q E h=>?_) (λc A outer s H l Q E z h=>?_)
 ·obtain⟨o,p,r,t,j,a,q⟩:=h;obtain⟨m,a⟩:=ZV a;rw[<- j.length];exact m
 ·obtain⟨o,p,r,t,j,a,q⟩:=h;refine#[_,y c A outer s H E o H z,?_];obtain⟨m,a⟩:=ZV a;rw[show FM N l=l.map Z++CV (N.length-d.length) J by unfold FM;rw[<- j.length,m]];refine#[_,pK t j<|N.length-d.length,?_];cases e:g (p++CV (N.length-d.length) .no)with
  |fail=>rw[e]at a;cases a
  |next i=>rw[e]at a;cases a;exact λB n C R=>q .non n C.same (by erw[Nc,Ar])
  |brk i=>rw[e]at a;cases a
  |cont i=>rw[e]at a;cases a
  |ret L=>rw[e]at a;cases a;exact λv n s G=>q v n s G
theorem Yt{P:AJ}{w:Ai}{K:Am}{mg:Bi}{base:Ak}{x a:Ae}{st:Av}{f:Ac}{fd:B3}{N c:U Ae}{k:Nat}{g:AA}(F:HV K x a st f fd)(S:Z5 N c (Ze st))(d:c.length<=N.length) (e:∀(b:Aa) (A:Ah) (outer:U Env) (s:Ab) (H:Hp) (E:XK) (M:Fb) (H0:Hp),AE k (A.deeper (A0 a (Ze st) s.heap.objs.size f b))->JB (C2 Bd P w K mg base N a (Ze st) f b A outer s H E).nox (ZH st) (tS K M H0 g)):AO P w K mg base Bd (k+1) f fd c (A4 K (AS c.length N.length g)):=pL F S d λb A outer s H E M H0 i=>(e b A outer s H E M H0 i).h
section
variable{K:Am}
@[simp] noncomputable def i2(g:Int->Int->O D):D->D->O D
  |.int i,.int j=>g i j
  |_,_=>J
theorem SI{g:Int->Int->O D}{x y d:D}(h:i2 g x y=Z d):∃i j,x=.int i/\y=.int j/\g i j=Z d:=by
 unfold i2 at h;grind
theorem Aw.int{N:Fb}{i:Int}{v:V}(h:Aw K N H (.int i) v):v=.int i:=by simpa only[Aw,Ar]using h
theorem Aw.str{N:Fb}{i:Ae}{v:V}(h:Aw K N H (.str i) v):v=.str i:=by simpa only[Aw,Ar]using h
theorem Aw.bl{N:Fb}{i:Bool}{v:V}(h:Aw K N H (.bl i) v):v=.bl i:=by simpa only[Aw,Ar]using h
theorem Aw.non{N:Fb}{v:V}(h:Aw K N H .non v):v=.non:=by simpa only[Aw,Ar]using h
theorem Aw.ty{N:Fb}{i:String}{v:V}(h:Aw K N H (.ty i) v):v=.ty i:=by simpa only[Aw,Ar]using h
theorem Aw.tup{N:Fb}{v:V}(h:Aw K N H (.tup xs) v):∃a vs,v=.ref a/\B0 K H a vs/\Ad K N H xs vs:=by simpa only[Aw,Ar]using h
theorem Fu{N:Fb}{i:Int}:Ar K N H (.int i) (.int i):=by erw[Ar]
theorem FP{N:Fb}{i:Bool}:Ar K N H (.bl i) (.bl i):=by erw[Ar]
theorem PB{N:Fb}{i:Ae}:Ar K N H (.str i) (.str i):=by erw[Ar]
theorem pM(g:Int->Int->Int):Dj K (He λi j=>.int (g i j)) (i2 λi j=>Z (.int (g i j))):=by
 intro N H x y c f d Q h a b e q;obtain⟨i,j,rfl,rfl,e⟩:=SI e;cases e;exact#[i,j,a.int,b.int,q _ H (Aj.refl H) Fu]
theorem LQ(g:Int->Int->Bool):Dj K (He λi j=>.bl (g i j)) (i2 λi j=>Z (.bl (g i j))):=by
 intro N H x y c f d Q h a b e q;obtain⟨i,j,rfl,rfl,e⟩:=SI e;cases e;exact#[i,j,a.int,b.int,q _ H (Aj.refl H) FP]
theorem PF{C:Int->Int->Prop}[∀i j,Decidable (C i j)](g:Int->Int->Int):Dj K (rI C λi j=>.int (g i j)) (i2 λi j=>if C i j then Z (.int (g i j))else J):=by
 intro N H x y h k d Q l b c e q;obtain⟨i,j,rfl,rfl,a⟩:=SI e;split at a
 ·next f=>cases a;exact#[i,j,b.int,c.int,f,q _ H (Aj.refl H) Fu]
 ·cases a
instance (i j:Int):Decidable (MY i j):=by unfold MY;exact inferInstance
instance (i j:Int):Decidable (DN i j):=by unfold DN;exact inferInstance
instance (i j:Int):Decidable (Lu i j):=by unfold Lu;exact inferInstance
@[simp] def Hj:D->D->O D:=i2 λi j=>Z (.int (i-j))
@[simp] def EB:D->D->O D:=i2 λi j=>if DN i j then Z (.int (i*j))else J
@[simp] def GK:D->D->O D:=i2 λi j=>if MY i j then Z (.int (i/j))else J
@[simp] def Zs:D->D->O D:=i2 λi j=>if 0<j then Z (.int (i%j))else J
@[simp] def D1:D->D->O D:=i2 λi j=>if Lu i j then Z (.int (i^j.toNat))else J
@[simp] def Hk:D->D->O D:=i2 λi j=>Z (.bl (decide (i<=j)))
@[simp] def D2:D->D->O D:=i2 λi j=>Z (.bl (decide (j<i)))
@[simp] def Nn:D->D->O D:=i2 λi j=>Z (.bl (decide (j<=i)))
section
variable{M:Fb}{a b:Expr}{f g:AD}
theorem pN(c:JE X a (tP K M H0 f))(d:JE X b (tP K M H0 g)):JE X (.BinOp a .Sub b pos) (tD K M H0 (Za Hj f g)):=#[have c:=c.h;have d:=d.h;KA l6 (pM _) c d]
theorem pO(c:JE X a (tP K M H0 f))(d:JE X b (tP K M H0 g)):JE X (.BinOp a .Mult b pos) (tD K M H0 (Za EB f g)):=#[have c:=c.h;have d:=d.h;KA l7 (PF _) c d]
theorem pP(c:JE X a (tP K M H0 f))(d:JE X b (tP K M H0 g)):JE X (.BinOp a .FloorDiv b pos) (tD K M H0 (Za GK f g)):=#[have c:=c.h;have d:=d.h;KA l8 (PF _) c d]
theorem pQ(c:JE X a (tP K M H0 f))(d:JE X b (tP K M H0 g)):JE X (.BinOp a .Mod b pos) (tD K M H0 (Za Zs f g)):=#[have c:=c.h;have d:=d.h;KA l9 (PF _) c d]
theorem pR(c:JE X a (tP K M H0 f))(d:JE X b (tP K M H0 g)):JE X (.BinOp a .Pow b pos) (tD K M H0 (Za D1 f g)):=#[have c:=c.h;have d:=d.h;KA ma (PF _) c d]
@[simp] noncomputable def GN:O D->O D
  |some (.int i)=>Z (.int (-i))
  |_=>J
set_option tactic.hygienic true in
theorem pS(b:JE X a (tP K M H0 f)):JE X (.UnaryOp .USub a pos) (tD K M H0 λρ=>GN (f ρ)):=#[have b:=b.h;(l5 mj b).mono λl H Q c=>by
 obtain⟨ρ,d,R,e,q⟩:=c;try dsimp only at e q
 unfold GN at e;split at e
 ·next i g=>cases e;exact#[ρ,.int i,R,g,λv j s k=>#[i,k.int,q _ j s Fu]]
 ·cases e]
end
end
section
def Yu(K:Am):R2:=λx y H Q=>∃l b a c,x=.ref l/\y=.ref b/\BJ K H l a/\BJ K H b c/\a.length+c.length<=Ax/\∀p,H p=J->Q (.ref p) (AK H p (.lst (a++c)))
theorem Ib:BU X (FL .Add) (Yu X.K):=by
 rintro i s P H x y v u Q S o p ⟨l,b,L,M,rfl,rfl,t,w,z,q⟩;cases o;cases p;obtain⟨c,r,p1,N⟩:=S.list t;obtain⟨a,j,A,R⟩:=S.list w;have T:=r.length;have B:=j.length;obtain⟨⟨cls,C,data,E⟩,k,G,n,hd⟩:=p1.isList;obtain⟨⟨m,e,data2,f⟩,d,g,n2,h⟩:=A.isList;subst G hd g h;refine concat_meets #[_,k,rfl] #[_,d,rfl] noFill_list_add seq_list_add PySem.F.slot_list_add PySem.F.entry_list_add (PySem.F.args_list_add_2 _ _) (list_addW l b c.toArray a.toArray n n2 C e E f (by rw[BV,BV];lia)) #[k,d,?_];rw[show c.toArray++a.toArray=(c++a).toArray by simp];exact#[.ref _,_,S.lnew (t':=s.toks) (r.append j) (Ej ▸ W.kdl_size z),rfl,q _ S.fresh]
def Yv(K:Am):R2:=λx y H Q=>∃l b a c,x=.ref l/\y=.ref b/\B0 K H l a/\B0 K H b c/\a.length+c.length<=Ax /\
 (a=[]->Q (.ref b) H)/\(c=[]->Q (.ref l) H)/\∀p,H p=J->Q (.ref p) (AK H p (.tup (a++c)))
theorem pT:BU X (FL .Add) (Yv X.K):=by
 rintro B s I H x y v u Q zA M N ⟨l,b,C,E,rfl,rfl,R,T,S,Y,qz,q⟩;cases M;cases N;obtain⟨c,r,p1,z1⟩:=zA.tuple R;obtain⟨a,G,p2,z2⟩:=zA.tuple T;have P:=r.length;have j:=G.length;obtain⟨⟨cls,m,data,o⟩,i,hc,n,hd⟩:=id p1;obtain⟨⟨L,f,data2,g⟩,d,p,n2,t⟩:=id p2;subst hc hd p t;by_cases w:C=[]
 ·have k:c.toArray.isEmpty=J':=by
   subst w;have:c=[]:=No.mp P.symm;subst this;rfl
  exact concat_meets #[_,i,rfl] #[_,d,rfl] noFill_tuple_add seq_tuple_add PySem.F.slot_tuple_add Yw (Yx _ _) (tuple_addW0 l b c.toArray a.toArray n n2 m f o g k) #[i,d,#[.ref b,H,zA,rfl,Y w]]
 ·have k:¬ c.toArray.isEmpty=J':=by
   intro z;have:c=[]:=by simpa using z
   subst this;exact w<|No.mp P
  by_cases A:E=[]
  ·have h:a.toArray.isEmpty=J':=by
    subst A;have:a=[]:=No.mp j.symm;subst this;rfl
   exact concat_meets #[_,i,rfl] #[_,d,rfl] noFill_tuple_add seq_tuple_add PySem.F.slot_tuple_add Yw (Yx _ _) (tuple_addW1 l b c.toArray a.toArray n n2 m f o g k h) #[i,d,#[.ref l,H,zA,rfl,qz A]]
  ·have h:¬ a.toArray.isEmpty=J':=by
    intro z;have:a=[]:=by simpa using z
    subst this;exact A<|No.mp j
   have e:c.toArray++a.toArray=(c++a).toArray:=by simp
   refine concat_meets #[_,i,rfl] #[_,d,rfl] noFill_tuple_add seq_tuple_add PySem.F.slot_tuple_add Yw (Yx _ _) (tuple_addW2 l b c.toArray a.toArray n n2 m f o g k h (by rw[BV,BV];lia)) #[i,d,?_];rw[e];refine#[.ref s.heap.objs.size,AK H s.heap.objs.size<|.tup<|C++E,zA.laid (t':=s.toks) (λb u e=>Bn _ e) (Bc _) ?_,rfl,q _ zA.fresh];exact#[Ej ▸ W.kdl_size S,c++a,r.append G,IsTup.new _ _]
end
@[simp] noncomputable def Zl:D->D->O D
  |.int i,.int j=>Z (.int (i+j))
  |.str x,.str y=>if x.length+y.length<=Ax then Z (.str (x++y))else J
  |.lst a,.lst b=>if a.length+b.length<=Ax then Z (.lst (a++b))else J
  |.tup a,.tup b=>if a.length+b.length<=Ax then Z (.tup (a++b))else J
  |_,_=>J
def Yy(K:Am):R2:=λx y H Q=>He (λi j=>.int (i+j)) x y H Q\/(∃i j,x=.str i/\y=.str j/\i.length+j.length<=Ax/\Q (.str (i++j)) H)\/Yu K x y H Q\/Yv K x y H Q
theorem pU:BU X (FL .Add) (Yy X.K):=Km.or<|E3.or<|Ib.or pT
theorem Yz{K:Am}{N:Fb}{p:Ac}(c:∀a,N a->H a≠J)(b:H p=J)(h:Ad K N H xs vs):Ar K N (AK H p (.lst vs)) (.lst xs) (.ref p):=by
 exact#[p,vs,rfl,.of (λz=>c p z b) ZZ,h.same<|ZT b]
theorem LR{K:Am}{N:Fb}{p:Ac}(a:H p=J)(h:Ad K N H xs vs):Ar K N (AK H p (.tup vs)) (.tup xs) (.ref p):=by
 exact#[p,vs,rfl,B0.of ZZ,h.same<|ZT a]
theorem pV{K:Am}:Dj K (Yy K) Zl:=by
 intro N H x y t u d Q s k l e q;unfold Zl at e;split at e
 ·cases e;exact .inl #[_,_,k.int,l.int,q _ H (Aj.refl H) Fu]
 ·obtain⟨g,e⟩:=ZV e;cases e;exact .inr<|.inl ⟨_,_,k.str,l.str,g,q _ H (Aj.refl H) PB⟩
 ·obtain⟨g,e⟩:=ZV e;cases e;obtain⟨a,h,o,m,c⟩:=k;obtain⟨b,i,r,n,f⟩:=l;exact .inr<|.inr<|.inl ⟨a,b,h,i,o,r,m,n,by rw[<- c.length,<- f.length];exact g,λp j=>q _ _ (ZT j)<|Yz s j<|c.append f⟩
 ·obtain⟨g,e⟩:=ZV e;cases e;obtain⟨a,h,o,m,c⟩:=k.tup;obtain⟨b,i,r,n,f⟩:=l.tup;refine .inr<|.inr<|.inr ⟨a,b,h,i,o,r,m,n,by rw[<- c.length,<- f.length];exact g,λz=>?_,λz=>?_,λp j=>q _ _ (ZT j)<|LR j<|c.append f⟩
  ·exact q _ H (Aj.refl H) #[b,h++i,rfl,z ▸ n,c.append f]
  ·exact q _ H (Aj.refl H) #[a,h++i,rfl,by rw[z,DO];exact m,c.append f]
 ·cases e
theorem pW{M:Fb}{a b:Expr}{f g:AD}(c:JE X a (tP X.K M H0 f))(d:JE X b (tP X.K M H0 g)):JE X (.BinOp a .Add b pos) (tD X.K M H0 (Za Zl f g)):=#[have c:=c.h;have d:=d.h;KA pU pV c d]
def pX(K:Am):V->O Int->O Int->Hp->VK->Prop:=λx lo c H Q=>∃a b,x=.ref a/\B0 K H a b/\(HQ b lo c=b->Q (.ref a) H)/\∀p,H p=J->Q (.ref p) (AK H p (.tup (HQ b lo c)))
theorem Ic:Jc X (pX X.K):=by
 rintro h s u H x v w y lo e z Q A k l m n ⟨a,d,rfl,p,t,q⟩;cases k;obtain⟨f,r,i,j⟩:=A.tuple p;have c:f.toArray.size=d.length:=BV ▸ r.length.symm;refine#["tuple",_,PyProof.Rows.slot_tuple_getitem.lookup,i.typeIs,HT.getItem_tuple_cut i l m n (λg=>#[.ref a,H,A,rfl,t ?_]) (λ_=>?_) (c ▸ j)]
 ·rw[c]at g;unfold HQ;rw[g.1,g.2,List.drop_zero,Nat.sub_zero,List.take_length]
 ·rw[c];refine#[.ref s.heap.objs.size,_,A.laid (t':=s.toks) (o:=.tup<|HQ d lo e) (λb ob q=>Bn _ q) (Bc _) ?_,rfl,q _<|A.hok.fresh<|Bc _];exact⟨BR (XO d lo e) j,_,(r.drop<|HT.sIx d.length 0 lo).take<|HT.sIx d.length d.length e-HT.sIx d.length 0 lo,IsTup.new _ _⟩
@[simp] def Ap:D->D->O D
  |.lst a,.int i=>atI a i
  |.tup a,.int i=>atI a i
  |.str x,.int i=>if x.length<=Ax then(atI x.cps.toList i).map λc=>.str #[(T' [c])]else J
  |_,_=>J
theorem Ad.atI{K:Am}{N:Fb}{i:Int}{d:D}(h:Ad K N H xs vs)(e:L2.atI xs i=Z d):∃v,L2.atI vs i=Z v/\Ar K N H d v:=by
 unfold L2.atI at e ⊢;rw[<- h.length];cases a:CG xs.length i with
 |none=>rw[a]at e;cases e
 |some j=>rw[a]at e;exact h.get e
set_option tactic.hygienic true in
theorem pY{K:Am}:Dj K (XW K) Ap:=by
 intro N H x y p r d Q s b f e q;unfold Ap at e;split at e
 ·obtain⟨a,g,h,j,k⟩:=b;obtain⟨v,l,m⟩:=k.atI e;exact .inl #[a,g,_,v,h,f.int,j,l,q v H (Aj.refl H) m]
 ·obtain⟨a,g,h,j,k⟩:=b.tup;obtain⟨v,l,m⟩:=k.atI e;exact .inr<|.inl ⟨a,g,_,v,h,f.int,j,l,q v H (Aj.refl H) m⟩
 ·split at e
  ·next z i n=>
   obtain⟨c,o,e⟩:=BN.mp e;cases e;exact .inr<|.inr ⟨z,i,c,b.str,f.int,n,o,q _ H (Aj.refl H) PB⟩
  ·cases e
 ·cases e
section
variable{K:Am}{M:Fb}{a b e:Expr}{f g:AD}
theorem pZ(c:JE X a (tP X.K M H0 f))(d:JE X b (tP X.K M H0 g))(e:LA b):JE X (.Subscript a b pos) (tD X.K M H0 (Za Ap f g)):=#[have c:=c.h;have d:=d.h;Yj nj pY c d e]
def tO(K:Am)(M:Fb)(H0:Hp)(o:VE->O (O Int)):TO:=λc H Q=>∃a i,Bl K M H0 a c H/\o a=Z i/\∀b,Aj H b->Q i b
@[simp] noncomputable def Ca:O D->O (O Int)
  |some (.int i)=>Z (Z i)
  |_=>J
theorem PO.mono{e:O Expr}{t t':TO}(h:PO X e t)(m:∀I H Q,t' I H Q->t I H Q):PO X e t':=by
 intro a s I H Q b q;exact h a s I H Q b<|m I H Q q
theorem p0 :JO X J (tO K M H0 λ_=>Z J):=#[PO.mono m7 λa H Q ⟨b,i,R,e,q⟩=>by(try dsimp only at e q);cases e;exact q H<|Aj.refl H]
set_option tactic.hygienic true in
theorem p5(h:JE X e (tP K M H0 f)):JO X (Z e) (tO K M H0 λρ=>Ca (f ρ)):=#[have h:=h.h;PO.mono (na h) λg H Q a=>by
 obtain⟨ρ,i,R,e,q⟩:=a;try dsimp only at e q
 unfold Ca at e;split at e
 ·next j b=>cases e;exact#[ρ,.int j,R,b,λv c s d=>#[j,d.int,q c s]]
 ·cases e]
def cutD{a:Type}(xs:U a)(lo b:O Int):U a:=(xs.drop (HT.sIx xs.length 0 lo)).take (HT.sIx xs.length xs.length b-HT.sIx xs.length 0 lo)
@[simp] def Cu(x:D)(lo a:O Int):O D:=match x with
  |.lst b=>Z (.lst (cutD b lo a))
  |.tup b=>Z (.tup (cutD b lo a))
  |.str x=>if x.length<=Ax then Z (.str (Txt.slice x lo a))else J
  |_=>J
theorem Ad.cut{K:Am}{N:Fb}(h:Ad K N H xs vs)(lo a:O Int):Ad K N H (cutD xs lo a) (HQ vs lo a):=by
 unfold cutD HQ;rw[h.length];exact(h.drop _).take _
@[simp] noncomputable def Ce{b:Type}(f:AD)(lo c:VE->O (O Int))(F:D->O Int->O Int->O b):VE->O b:=λa=>(f a).bind λx=>(lo a).bind λl=>(c a).bind λh=>F x l h
theorem p6{e:Type}{f:AD}{b:VE->O (O Int)}{F:D->O Int->O Int->O e}{d:e}(h:Ce f lo b F ρ=Z d):∃x l u,f ρ=Z x/\lo ρ=Z l/\b ρ=Z u/\F x l u=Z d:=by
 unfold Ce at h;cases a:f ρ with|none=>rw[a]at h;cases h|some x=>
  cases c:lo ρ with|none=>rw[a,c]at h;cases h|some l=>
   cases g:b ρ with
   |none=>rw[a,c,g]at h;cases h
   |some u=>rw[a,c,g]at h;exact#[x,l,u,rfl,rfl,rfl,h]
theorem p7{A B:O Expr}{C:VE->O (O Int)}(m:JE X e (tP X.K M H0 f))(n:JO X A (tO X.K M H0 lo))(o:JO X B (tO X.K M H0 C)):JE X (.Subscript e (.Slice A B J p2) pos) (tD X.K M H0 (Ce f lo C Cu)):=#[have m:=m.h;have n:=n.h;have o:=o.h;(ng (HS.or<|Ic.or nT) m n o).mono λP H Q G=>by
 obtain⟨r,d,R,ex,q⟩:=G;obtain⟨x,l,u,W,F,L,b⟩:=p6 ex;refine#[r,x,R,W,λv T t c=>#[r,l,R.st t,F,λS w=>#[r,u,(R.st t).st w,L,λY E=>?_]]];have c:=(c.same w).same E;have s:=(t.trans w).trans E;unfold Cu at b;split at b
 ·cases b;obtain⟨a,i,y,j,k⟩:=c;exact .inl #[a,i,y,j,λp g=>q _ _ (s.trans<|ZT g)<|Yz (R.st s).nh g<|k.cut l u]
 ·cases b;obtain⟨a,i,y,j,k⟩:=c.tup;exact .inr<|.inl ⟨a,i,y,j,λz=>q _ _ s ⟨a,i,rfl,j,z ▸ k.cut l u⟩,λp g=>q _ _ (s.trans<|ZT g)<|LR g<|k.cut l u⟩
 ·obtain⟨N,b⟩:=ZV b;cases b;exact .inr<|.inr ⟨_,c.str,N,q _ _ s PB⟩
 ·cases b]
end
mutual
noncomputable def AF:D->D->Bool
 |.non,.non=>J'
 |.bl a,.bl b=>a==b
 |.bl a,.int b=>(if a then 1 else 0)==b
 |.int a,.bl b=>a==(if b then 1 else 0)
 |.int a,.int b=>a==b
 |.str a,.str b=>a==b
 |.tup c,.tup d=>CJ c d
 |.lst c,.lst d=>CJ c d
 |_,_=>O'
noncomputable def CJ:U D->U D->Bool
 |[],[]=>J'
 |x::a,y::b=>AF x y&&CJ a b
 |_,_=>O'
end
@[simp] noncomputable def AW:Nat->D->Bool
  |_,.non=>J'
  |_,.bl _=>J'
  |_,.int _=>J'
  |_,.str _=>J'
  |n+1,.tup a=>a.all (AW n)
  |n+1,.lst a=>a.all (AW n)
  |_,_=>O'
mutual
theorem Np:∀(n:Nat)(d:D),AW n d=J'->AF d d=J'
 |_,.non,_=>by erw[AF]
 |_,.bl _,_=>by erw[AF,beq_self_eq_true]
 |_,.int _,_=>by erw[AF,beq_self_eq_true]
 |_,.str _,_=>by erw[AF,beq_self_eq_true]
 |0,.ty _,h=>by simp[AW]at h
 |_+1,.ty _,h=>by simp[AW]at h
 |0,.tup a,h=>by simp[AW]at h
 |0,.lst a _,h=>by simp[AW]at h
 |n+1,.tup a,h=>by erw[AW]at h;erw[AF];exact Nq n a h
 |n+1,.lst a .l,h=>by erw[AW]at h;erw[AF];exact Nq n a h
 |n+1,.lst a .d,h=>by simp[AW]at h
 |n+1,.lst a (.i _ _),h=>by simp[AW]at h
theorem Nq:∀(n:Nat)(xs:U D),xs.all (AW n)=J'->CJ xs xs=J'
 |_,[],_=>by erw[CJ]
 |n,x::xs,h=>by
  erw[LS,C4]at h
  erw[CJ,C4]
  exact#[Np n x h.1,Nq n xs h.2]
end
theorem SJ:∀{xs ys:U D},xs.length≠ys.length->CJ xs ys=O'
 |[],[],h=>absurd rfl h
 |[],_::_,_=>by erw[CJ]
 |_::_,[],_=>by erw[CJ]
 |x::xs,y::ys,h=>by
  erw[CJ];rw[SJ (xs:=xs) (ys:=ys) (by simpa using h),Bool.and_false]
theorem SM:∀{xs ys:U D},xs.length=ys.length->CJ xs ys=(BB xs.length).all λj=>AF (xs.getD j .non) (ys.getD j .non)
 |[],[],_=>by simp[CJ]
 |[],_::_,h=>by simp at h
 |_::_,[],h=>by simp at h
 |x::xs,y::ys,h=>by
  simp only[CJ,CT,List.range_succ_eq_map,LS,List.getD_cons_zero,List.all_map,SM (xs:=xs) (ys:=ys) (by simpa using h)];rfl
section
variable{s:Ab}
theorem Inv.apart(k:Inv X pins I H s){xs:U V}(h:BJ X.K H a xs)(h':B0 X.K H a ys):False:=by
 obtain⟨d,r,⟨o,n,e,c,_⟩,_⟩:=k.list h;obtain⟨b,f,⟨g,i,j,_⟩,_⟩:=k.tuple h';simp_all
theorem Inv.apartDL(l:Inv X pins I H s){d:U KT}{xs:U V}(h:Rd H a (.dct d xs))(h':BJ X.K H a ys):False:=by
 obtain⟨_,_,_,o,_,_,e,c,_⟩:=h.ok l.hok;obtain⟨b,f,⟨g,i,j,k,_⟩,_⟩:=l.list h';simp_all
theorem Inv.apartDT(k:Inv X pins I H s){d:U KT}{xs:U V}(h:Rd H a (.dct d xs))(h':B0 X.K H a ys):False:=by
 obtain⟨_,_,_,o,_,_,e,c,_⟩:=h.ok k.hok;obtain⟨b,f,⟨g,i,j,_⟩,_⟩:=k.tuple h';simp_all
theorem Inv.apartIL(k:Inv X pins I H s){b:Ac}{fs:U (Ae×V)}(h:Rd H a (.ins C b fs))(h':BJ X.K H a ys):False:=by
 obtain⟨_,_,_,e,_⟩:=(show AY X.prog X.w H s.heap a (.ins C b fs)from h.ok k.hok);obtain⟨c,d,⟨f,g,i,j,_⟩,_⟩:=k.list h';simp_all
theorem Inv.apartIT(j:Inv X pins I H s){b:Ac}{fs:U (Ae×V)}(h:Rd H a (.ins C b fs))(h':B0 X.K H a ys):False:=by
 obtain⟨_,_,_,e,_⟩:=(show AY X.prog X.w H s.heap a (.ins C b fs)from h.ok j.hok);obtain⟨c,d,⟨f,g,i,_⟩,_⟩:=j.tuple h';simp_all
noncomputable def KG:D->O V
 |.non=>Z .non
 |.bl b=>Z (.bl b)
 |.int i=>Z (.int i)
 |.str x=>Z (.str x)
 |.ty n=>Z (.ty n)
 |_=>J
theorem p8{d d':D}{w:V}(h:KG d=Z w)(h':KG d'=Z w):d=d':=by
 cases d<;>cases h<;>cases d'<;>cases h'<;>rfl
theorem Aw.av{K:Am}{N:Fb}{d:D}{v:V}(h:Aw K N H d v):match KG d with
  |some w=>v=w
  |none=>∃a,v=.ref a:=by
 cases d with
 |lst b c=>cases c<;>(obtain⟨a,_,e,_⟩:=h;exact#[a,e])
 |tup b=>obtain⟨a,_,e,_⟩:=h.tup;exact#[a,e]
 |non=>exact h.non
 |bl _=>exact h.bl
 |int _=>exact h.int
 |str _=>exact h.str
 |ty _=>exact h.ty
theorem Aw.at{K:Am}{N c:Fb}{d d':D}{v w:V}(e:KG d=Z w)(h:Aw K N H d v)(h':Aw K c H d' v):d=d':=by
 have h:=h.av;have h':=h'.av;rw[e]at h;subst h;cases b:KG d' with
 |some u=>rw[b]at h';subst h';exact p8 e b
 |none=>rw[b]at h';obtain⟨a,z⟩:=h';subst z;cases d<;>cases e
theorem Aw.at'{K:Am}{N:Fb}{d':D}(h':Aw K N H d' (.ref a)):KG d'=J:=by
 have h:=h'.av;cases e:KG d' with
 |none=>rfl
 |some w=>rw[e]at h;subst h;cases d'<;>cases e
mutual
/-- what an address denotes is one thing -/
theorem YA(w:Inv X pins I H s){N u:Fb}:∀(n:Nat)(d d':D)(v:V),AW n d=J'->Aw X.K N H d v->Aw X.K u H d' v->d=d'
 |_,.non,d',v,_,h,c=>Aw.at rfl h c
 |_,.bl _,d',v,_,h,c=>Aw.at rfl h c
 |_,.int _,d',v,_,h,c=>Aw.at rfl h c
 |_,.str _,d',v,_,h,c=>Aw.at rfl h c
 |_,.ty _,d',v,_,h,c=>Aw.at rfl h c
 |0,.tup g,d',v,o,h,c=>by simp[AW]at o
 |0,.lst g _,d',v,o,h,c=>by simp[AW]at o
 |n+1,.tup g,d',v,o,h,c=>by
  obtain⟨a,p,e,q,r⟩:=h.tup
  subst e
  have z:=c.at'
  cases d' with
  |tup m=>
   obtain⟨b,j,e,f,k⟩:=c.tup
   cases e
   have:=w.tuple_inj q f
   subst this
   rw[Nr w n g m p o r k]
  |lst _ t=>
   cases t with
   |l=>obtain⟨b,j,e,f,_⟩:=c;cases e;exact(w.apart f q).elim
   |d=>obtain⟨b,j,e,f,_⟩:=c;cases e;exact(w.apartDT f q).elim
   |i=>obtain⟨b,j,e,f,_⟩:=c;cases e;exact(w.apartIT f q).elim
  |_=>cases z
 |n+1,.lst g .d,d',v,o,h,c=>by simp[AW]at o
 |n+1,.lst g (.i _ _),d',v,o,h,c=>by simp[AW]at o
 |n+1,.lst g .l,d',v,o,h,c=>by
  obtain⟨a,p,e,q,r⟩:=h
  subst e
  have z:=c.at'
  cases d' with
  |tup m=>obtain⟨b,j,e,f,k⟩:=c.tup;cases e;exact(w.apart q f).elim
  |lst m t=>
   cases t with
   |d=>obtain⟨b,j,e,f,k⟩:=c;cases e;exact(w.apartDL f q).elim
   |i=>obtain⟨b,j,e,f,k⟩:=c;cases e;exact(w.apartIL f q).elim
   |l=>
    obtain⟨b,j,e,f,k⟩:=c
    cases e
    have:=w.list_inj q f
    subst this
    rw[Nr w n g m p o r k]
  |_=>cases z
theorem Nr(i:Inv X pins I H s){N b:Fb}:∀(n:Nat)(xs ys:U D)(vs:U V),xs.all (AW n)=J'->Ad X.K N H xs vs->Ad X.K b H ys vs->xs=ys
 |_,[],ys,vs,_,h,a=>by
  erw[Ad]at h;subst h
  cases ys with
  |nil=>rfl
  |cons y ys=>erw[Ad]at a;obtain⟨_,_,e,_⟩:=a;cases e
 |n,x::xs,ys,vs,o,h,a=>by
  erw[LS,C4]at o
  erw[Ad]at h
  obtain⟨v,r,e,q,t⟩:=h
  subst e
  cases ys with
  |nil=>erw[Ad]at a;cases a
  |cons y ys=>
   erw[Ad]at a
   obtain⟨f,g,e,c,d⟩:=a
   cases e
   rw[YA i n x y v o.1 q.p c.p,Nr i n xs ys r o.2 t d]
end
open SeqAt
theorem D3{a:Type}{xs:U a}{d e:a}(h:xs[j]?=Z e):xs.getD j d=e:=by simp[List.getD_eq_getElem?_getD,h]
theorem YB{a:U Aa}(b:j<a.toArray.size)(e:a[j]?=Z u):a.toArray[j]=u:=by
 obtain⟨_,e⟩:=BC.mp e;simpa using e
def KH(A:Ah)(s:Ab)(u v:Aa)(b:Bool):Prop:=RcAt A s u v b/\EqAt A s u v b/\RcNeAt A s u v (!b)
theorem Nt(A:Ah):A.in1.units=A.units+1:=rfl
theorem LU{N:Fb}{x:D}{v:V}(h:Aw X.K N H x v)(r:RelV v u)(o:AW 0 x=J'):(x=.non/\u=.none)\/(∃b,x=.bl b/\u=.bool b)\/(∃i t,x=.int i/\u=.int i t)\/∃c t,x=.str c/\u=.str c t:=by
 cases x with
 |non=>cases h.non;exact .inl #[rfl,r]
 |bl b=>cases h.bl;exact .inr<|.inl ⟨b,rfl,r⟩
 |int i=>cases h.int;obtain⟨t,r⟩:=r;exact .inr<|.inr<|.inl ⟨i,t,rfl,r⟩
 |str c=>cases h.str;obtain⟨t,r⟩:=r;exact .inr<|.inr<|.inr ⟨c,t,rfl,r⟩
 |_=>simp[AW]at o
theorem YC(q:Inv X pins I H s){N:Fb}(A:Ah)(x y:D)(a d:V)(u v:Aa)(m:A.units+0<Aq)(e:AW 0 x=J')(f:AW 0 y=J')(g:Aw X.K N H x a)(h:Aw X.K N H y d)(j:RelV a u)(k:RelV d v):KH A s u v (AF x y):=by
 rcases LU g j e with⟨rfl,rfl⟩|⟨b,rfl,rfl⟩|⟨i,t,rfl,rfl⟩|⟨c,t,rfl,rfl⟩<;>rcases LU h k f with⟨rfl,rfl⟩|⟨n,rfl,rfl⟩|⟨o,l,rfl,rfl⟩|⟨p,l,rfl,rfl⟩<;>erw[AF,KH,LW,Ie]<;>refine⟨?_,?_,?_⟩ <;>
  with_reducible first|exact .none_none|exact .same _|exact .none_bool _|exact .none_int _ _|exact .none_str _ _|exact .bool_none _|exact .bool_bool _ _|exact .bool_int _ _ _|exact .bool_str _ _ _|exact .int_none _ _|exact .int_bool _ _ _|exact .int_int _ _ _ _|exact .int_str _ _ _ _|exact .str_none _ _|exact .str_bool _ _ _|exact .str_int _ _ _ _|exact .str_str _ _ _ _
theorem Nu(S:Inv X pins I H s){N:Fb}:∀(n:Nat)(A:Ah)(x y:D)(vx vy:V)(u v:Aa),A.units+n<Aq->AW n x=J'->AW n y=J'->Aw X.K N H x vx->Aw X.K N H y vy->RelV vx u->RelV vy v->KH A s u v (AF x y):=by
 intro n;induction n with|zero=>exact YC S|succ n ih=>
  intro A x y vx vy u v hu ox oy hx hy rx ry;have h:A.units<Aq:=C7 hu;have P:∀{g k:U D} {B ws:U V} {m F:U Aa},g.all (AW n)=J'->k.all (AW n)=J'->Ad X.K N H g B->Ad X.K N H k ws->Ao B m->Ao ws F->m.length=g.length/\F.length=k.length/\∀j (h1:j<m.toArray.size) (h2:j<F.toArray.size),EqAt A.in1 s m.toArray[j] F.toArray[j] (AF (g.getD j .non)<|k.getD j .non):=λox oy Q T Y r2=>by
   have l1:=Q.length.trans Y.length;have l2:=T.length.trans r2.length;refine#[l1.symm,l2.symm,λj h1 h2=>?_];have C:=h1;have G:=h2;rw[BV]at C G;rw[<- l1]at C;rw[<- l2]at G;obtain⟨w1,hw1,dw1⟩:=Q.get<|BW C;obtain⟨w2,hw2,dw2⟩:=T.get<|BW G;obtain⟨u1,hu1,ru1⟩:=Y.get hw1;obtain⟨u2,hu2,ru2⟩:=r2.get hw2;rw[YB h1 hu1,YB h2 hu2,D3<|BW C,D3<|BW G];exact(ih A.in1 _ _ _ _ _ _ (by rw[Nt];lia) (Ec.mp ox _<|Gf C) (Ec.mp oy _<|Gf G) dw1.p dw2.p ru1 ru2).2.1
  have con:∀{x:D} {v:V} {u:Aa},AW (n+1) x=J'->Aw X.K N H x v->RelV v u->AW 0 x=J'\/(∃g a B m,x=.tup g/\u=.ref a/\g.all (AW n)=J'/\B0 X.K H a B/\Ad X.K N H g B/\Ao B m/\s.heap.IsTuple a m.toArray)\/∃g a B m,x=.lst g/\u=.ref a/\g.all (AW n)=J'/\BJ X.K H a B/\Ad X.K N H g B/\Ao B m/\s.heap.IsList a m.toArray:=λ{x v u} o h r=>by
   cases x with
   |tup g=>obtain⟨a,B,rfl,q,d⟩:=h.tup;obtain⟨m,z,p,_⟩:=S.tuple q;exact .inr<|.inl ⟨g,a,B,m,rfl,r,o,q,d,z,p⟩
   |lst g f=>
    cases f with
    |l=>obtain⟨a,B,rfl,q,d⟩:=h;obtain⟨m,z,p,_⟩:=S.list q;exact .inr<|.inr ⟨g,a,B,m,rfl,r,o,q,d,z,p.isList⟩
    |_=>simp[AW]at o
   |ty _=>simp[AW]at o
   |_=>exact .inl rfl
  rcases con ox hx rx with L|⟨g,a1,B,m,rfl,rfl,L,q1,Q,Y,p1⟩|⟨g,a1,B,m,rfl,rfl,L,q1,Q,Y,p1⟩<;>rcases con oy hy ry with M|⟨k,a2,ws,F,rfl,rfl,M,q2,T,r2,w⟩|⟨k,a2,ws,F,rfl,rfl,M,q2,T,r2,w⟩
  ·exact YC S A x y vx vy u v h L M hx hy rx ry
  ·rcases LU hx rx L with⟨rfl,rfl⟩|⟨b,rfl,rfl⟩|⟨i,t,rfl,rfl⟩|⟨c,t,rfl,rfl⟩<;>erw[AF,KH,Ie]<;>refine⟨?_,?_,?_⟩<;>with_reducible first|exact .none_tuple w h|exact .bool_tuple _ w h|exact .int_tuple _ _ w h|exact .str_tuple _ _ w h
  ·rcases LU hx rx L with⟨rfl,rfl⟩|⟨b,rfl,rfl⟩|⟨i,t,rfl,rfl⟩|⟨c,t,rfl,rfl⟩<;>erw[AF,KH,Ie]<;>refine⟨?_,?_,?_⟩<;>with_reducible first|exact .none_list w h|exact .bool_list _ w h|exact .int_list _ _ w h|exact .str_list _ _ w h
  ·rcases LU hy ry M with⟨rfl,rfl⟩|⟨b,rfl,rfl⟩|⟨i,t,rfl,rfl⟩|⟨c,t,rfl,rfl⟩<;>erw[AF,KH,Ie]<;>refine⟨?_,?_,?_⟩<;>with_reducible first|exact .tuple_none p1 h|exact .tuple_bool _ p1 h|exact .tuple_int _ _ p1 h|exact .tuple_str _ _ p1 h
  ·obtain⟨l1,l2,E⟩:=P L M Q T Y r2;have k1:=RcAt.tuples (e:=λj=>AF (g.getD j .non)<|k.getD j .non) p1 w h E;have k2:=RcNeAt.tuples (e:=λj=>AF (g.getD j .non)<|k.getD j .non) p1 w h E;have e:((BB<|min m.toArray.size F.toArray.size).all (λj=>AF (g.getD j .non)<|k.getD j .non)&&m.toArray.size==F.toArray.size)=CJ g k:=by
    rw[BV,BV,l1,l2];by_cases R:g.length=k.length
    ·rw[SM R,R,Nat.min_self];simp
    ·rw[SJ R,show(g.length==k.length)=O' by simp;exact W.neN R,Bool.and_false]
   rw[e]at k1 k2;erw[AF];refine#[k1,?_,k2];by_cases ea:a1=a2
   ·subst ea;cases S.tuple_inj q1 q2;rw[Nr S n g k _ L Q T,Nq n k M];exact .same _
   ·exact .of_refs ea k1
  ·erw[AF];refine#[?_,?_,?_]<;>exact .tuple_list p1 w h
  ·rcases LU hy ry M with⟨rfl,rfl⟩|⟨b,rfl,rfl⟩|⟨i,t,rfl,rfl⟩|⟨c,t,rfl,rfl⟩<;>erw[AF,KH,Ie]<;>refine⟨?_,?_,?_⟩<;>with_reducible first|exact .list_none p1 h|exact .list_bool _ p1 h|exact .list_int _ _ p1 h|exact .list_str _ _ p1 h
  ·erw[AF];refine#[?_,?_,?_]<;>exact .list_tuple p1 w h
  ·obtain⟨l1,l2,E⟩:=P L M Q T Y r2;erw[AF];have rc:RcAt A s (.ref a1) (.ref a2) (CJ g k)/\RcNeAt A s (.ref a1) (.ref a2) (!CJ g k):=by
    by_cases R:g.length=k.length
    ·have hs:m.toArray.size=F.toArray.size:=by rw[BV,BV,l1,l2,R]
     have k1:=RcAt.lists (e:=λj=>AF (g.getD j .non)<|k.getD j .non) p1 w hs h E;have k2:=RcNeAt.lists (e:=λj=>AF (g.getD j .non)<|k.getD j .non) p1 w hs h E;rw[BV,l1,<- SM R]at k1 k2;exact⟨k1,k2⟩
    ·rw[SJ R];have hne:(m.toArray.size != F.toArray.size)=J':=by rw[BV,BV];simp;lia
     exact#[.lists_lengths p1 w hne h,.lists_lengths p1 w hne h]
   refine#[rc.1,?_,rc.2];by_cases ea:a1=a2
   ·subst ea;cases S.list_inj q1 q2;rw[Nr S n g k _ L Q T,Nq n k M];exact .same _
   ·exact .of_refs ea rc.1
end
def ZS:Nat:=12
@[simp] def BK(x y:D):O D:=if AW ZS x&&AW ZS y then Z (.bl (AF x y))else J
@[simp] def CK(x y:D):O D:=if AW ZS x&&AW ZS y then Z (.bl (!AF x y))else J
def PH(K:Am)(neg:Bool):R2:=λx y H Q=>∃N a b,Aw K N H a x/\Aw K N H b y/\AW ZS a=J'/\AW ZS b=J'/\Q (.bl (if neg then !AF a b else AF a b)) H
section
variable{K:Am}{M:Fb}{a b:Expr}{f g:AD}
theorem SN(j:X.A.units+64<Aq):BU X (Dd .Eq) (PH X.K O'):=by
 rintro a s k H x y v u Q l b c ⟨N,d,e,f,g,h,i,q⟩;exact(Nu l ZS X.A d e x y v u (by unfold ZS;lia) h i f g b c).1 X.prog X.w X.xe _ #[.bl _,H,l,rfl,q]
theorem SO(j:X.A.units+64<Aq):BU X (Dd .NotEq) (PH X.K J'):=by
 rintro a s k H x y v u Q l b c ⟨N,d,e,f,g,h,i,q⟩;exact(Nu l ZS X.A d e x y v u (by unfold ZS;lia) h i f g b c).2.2 X.prog X.w X.xe _ #[.bl _,H,l,rfl,q]
theorem SQ:Dj K (PH K O') BK:=by
 intro N H x y b c d Q h f g e q;obtain⟨a,e⟩:=ZV e;rw[C4]at a;cases e;exact#[N,b,c,f,g,a.1,a.2,q _ H (Aj.refl H) FP]
theorem SR:Dj K (PH K J') CK:=by
 intro N H x y b c d Q h f g e q;obtain⟨a,e⟩:=ZV e;rw[C4]at a;cases e;exact#[N,b,c,f,g,a.1,a.2,q _ H (Aj.refl H) FP]
def KI(x:D)(ys:U D):Bool:=ys.any λy=>AF y x
@[simp] def GO(neg:Bool)(x y:D):O D:=match y with
  |.lst a=>if AW ZS x&&a.all (AW ZS)then Z (.bl (if neg then !KI x a else KI x a))else J
  |.tup a=>if AW ZS x&&a.all (AW ZS)then Z (.bl (if neg then !KI x a else KI x a))else J
  |.str z=>match x with
   |.str w=>Z (.bl (if neg then !(!(MZ z w 0 z.length 1).isEmpty)else !(MZ z w 0 z.length 1).isEmpty))
   |_=>J
  |_=>J
def YD(K:Am)(neg:Bool):R2:=λx y H Q=>∃N a b c p,Aw K N H a x/\y=.ref p/\(BJ K H p c\/B0 K H p c)/\Ad K N H b c/\AW ZS a=J'/\b.all (AW ZS)=J'/\Q (.bl (if neg then !KI a b else KI a b)) H
open Classical in
def FQ(K:Am)(N:Fb)(H:Hp)(x:D)(u:Aa):Bool:=decide (∃d w,Aw K N H d w/\RelV w u/\AF d x=J')
theorem SS{a:AR}{s:Ab}(j:Inv X a I H s){N:Fb}{x d:D}{w:V}(hd:Aw X.K N H d w)(r:RelV w u){n:Nat}(c:AW n d=J'):FQ X.K N H x u=AF d x:=by
 classical
 cases e:AF d x with
 |true=>exact @decide_eq_true _ (Px _) #[d,w,hd,r,e]
 |false=>
  refine @decide_eq_false _ (Px _) ?_
  rintro⟨f,h,b,g,i⟩
  have:=g.inj r
  subst this
  have:=YA j n d f _ c hd b
  simp_all
theorem SU{a:AR}{I:St}{H:Hp}{s:Ab}(f:Inv X a I H s){N:Fb}{x:D}:∀{ys:U D}{vs:U V}{us:U Aa},Ad X.K N H ys vs->Ao vs us->ys.all (AW ZS)=J'->us.any (FQ X.K N H x)=KI x ys
 |[],_,_,h,r,_=>by erw[Ad]at h;subst h;cases r;rfl
 |y::ys,_,_,h,r,o=>by
  erw[LS,C4]at o;obtain⟨v,t,rfl,b,c⟩:=h;cases r with
  |cons d e=>
   rw[List.any_cons,SS f b.p d o.1,SU f c e o.2];rfl
theorem SV{a:AR}{s:Ab}(z:Inv X a I H s){N:Fb}{A:Ah}{x:D}{c:V}{v:Aa}(l:A.units+ZS<Aq)(m:AW ZS x=J')(n:Aw X.K N H x c)(o:RelV c v){ys:U D}{us:U Aa}(h:Ad X.K N H ys vs)(r:Ao vs us)(d:ys.all (AW ZS)=J'):∀u∈us,SeqAt.EqAt A s u v (FQ X.K N H x u):=by
 intro u b;obtain⟨j,q⟩:=List.getElem?_of_mem b;have t:=r.length;have e:=BW (show j<vs.length by grind);obtain⟨w,f,g⟩:=r.get e;rw[q]at f;cases f;obtain⟨y,i,k⟩:=h.get' e;rw[SS z k.p g<|Ec.mp d y<|Fn i];exact(Nu z ZS A y x _ _ _ _ l (Ec.mp d y<|Fn i) m k.p n g o).2.1
theorem YE(b:Bool)(t:X.A.units+64<Aq):BU X (Dd (bif b then .NotIn else .In)) (YD X.K b):=by
 rintro j s z H x y v u Q E k n ⟨N,c,B,C,p,l,rfl,d,hd,m,h,q⟩;cases n;have e:X.A.in1.units+ZS<Aq:=by rw[Nt];unfold ZS;lia
 rcases d with d|d
 ·obtain⟨a,r,g,o⟩:=E.list d;have f:∀w∈a.toArray,_:=λw i=>SV E e m l k hd r h w (by simpa using i);cases b;all_goals
   first|refine SeqAt.in_listAt (FQ X.K N H c) g.isList f ⟨.bl _,H,E,rfl,?_⟩|refine SeqAt.notIn_listAt (FQ X.K N H c) g.isList f ⟨.bl _,H,E,rfl,?_⟩
   rw[show a.toArray.any (FQ X.K N H c)=a.any (FQ X.K N H c) by simp,SU E hd r h];exact q
 ·obtain⟨a,r,g,o⟩:=E.tuple d;have f:∀w∈a.toArray,_:=λw i=>SV E e m l k hd r h w (by simpa using i);cases b;all_goals
   first|refine SeqAt.in_tupleAt (FQ X.K N H c) g f ⟨.bl _,H,E,rfl,?_⟩|refine SeqAt.notIn_tupleAt (FQ X.K N H c) g f ⟨.bl _,H,E,rfl,?_⟩
   rw[show a.toArray.any (FQ X.K N H c)=a.any (FQ X.K N H c) by simp,SU E hd r h];exact q
theorem YF(b:Bool):Dj K (λx y H Q=>YD K b x y H Q\/∃i j,x=.str i/\y=.str j/\Q (.bl (if b then !(!(MZ j i 0 j.length 1).isEmpty)else !(MZ j i 0 j.length 1).isEmpty)) H) (GO b):=by
 intro N H x y n o d Q p f g e q;unfold GO at e;split at e
 ·obtain⟨c,e⟩:=ZV e;rw[C4]at c;cases e;obtain⟨a,h,k,l,m⟩:=g;exact .inl #[N,n,_,h,a,f,k,.inl l,m,c.1,c.2,q _ H (Aj.refl H) FP]
 ·obtain⟨c,e⟩:=ZV e;rw[C4]at c;cases e;obtain⟨a,h,k,l,m⟩:=g.tup;exact .inl #[N,n,_,h,a,f,k,.inr l,m,c.1,c.2,q _ H (Aj.refl H) FP]
 ·split at e
  ·cases e;exact .inr #[_,_,f.str,g.str,q _ H (Aj.refl H) FP]
  ·cases e
 ·cases e
@[simp] noncomputable def Fv(lt:D->D->O Bool):U D->U D->O Bool
  |[],[]=>Z O'
  |[],_::_=>Z J'
  |_::_,[]=>Z O'
  |x::a,y::b=>if AW ZS x&&AW ZS y then(if AF x y then Fv lt a b else lt x y)else J
@[simp] noncomputable def ltN:Nat->D->D->O Bool
  |_,.int i,.int j=>Z (decide (i<j))
  |_,.str a,.str b=>Z (decide (a.cps.toList<b.cps.toList))
  |n+1,.tup c,.tup d=>Fv (ltN n) c d
  |n+1,.lst c .l,.lst d .l=>Fv (ltN n) c d
  |_,_,_=>J
@[simp] def Hl(x y:D):O D:=(ltN 6 x y).map D.bl
def YG(K:Am):R2:=λx y H Q=>∃N a c b,Aw K N H a x/\Aw K N H c y/\ltN 6 a c=Z b/\Q (.bl b) H
abbrev YH(X:Cx)(N:Fb)(H:Hp)(s:Ab)(n:Nat):Prop:=∀(A:Ah)(x y:D)(a c:V)(u v:Aa)(b:Bool),A.units+n+ZS<Aq->ltN n x y=Z b->Aw X.K N H x a->Aw X.K N H y c->RelV a u->RelV c v ->
  ∀(prog:AJ) (d:Ai) (E Q:AI),Q (.bool b) s->wpAny (Ag prog d) A (richCompare .Lt u v) Q E s
theorem YI{i:AR}{s:Ab}(S:Inv X i I H s){N:Fb}(n:Nat)(M:YH X N H s n)(A:Ah)(Y:A.units+n+1+ZS<Aq){b:Bool}:∀(xs ys:U D)(a c:U V)(d f:U Aa),Fv (ltN n) xs ys=Z b->Ad X.K N H xs a->Ad X.K N H ys c->Ao a d->Ao c f->Ft A.in1 s d f b:=by
 intro xs;induction xs with
 |nil=>
  intro ys a c d f h j g v k;erw[Ad]at j;subst j;cases v;cases ys with
  |nil=>erw[Ad]at g;subst g;cases k;cases h;exact .nn
  |cons y ys=>erw[Ad]at g;obtain⟨w,t,e,_,_⟩:=g;subst e;cases k;cases h;exact .nc
 |cons x xs z=>
  intro ys a c d f h j g v k;erw[Ad]at j;obtain⟨w1,t1,P,l,B⟩:=j;subst P;cases v with
  |cons m C=>
   cases ys with|nil=>erw[Ad]at g;subst g;cases k;cases h;exact .cn|cons y ys=>
    erw[Ad]at g;obtain⟨w2,t2,T,o,G⟩:=g;subst T;cases k with
    |cons r F=>
     obtain⟨L,h⟩:=ZV h;rw[C4]at L;have u:=(Nu S ZS A.in1 x y _ _ _ _ (by rw[Nt];lia) L.1 L.2 l.p o.p m r).2.1;split at h
     ·next e=>rw[e]at u;exact .eq u<|z ys _ _ _ _ h B G C F
     ·next e=>
      rw[Bool.not_eq_true]at e;rw[e]at u;exact .ne u λprog R E Q q=>M A.in1 x y _ _ _ _ b (by rw[Nt];lia) h l.p o.p m r prog R E Q q
set_option tactic.hygienic true in
theorem SW{g:AR}{s:Ab}(R:Inv X g I H s){N:Fb}(n:Nat):YH X N H s n:=by
 induction n with
 |zero=>
  intro A x y vx vy u v b hu h e f a c prog i E Q q;unfold ltN at h;split at h
  ·cases h;rw[e.int]at a;rw[f.int]at c;obtain⟨t,rfl⟩:=a;obtain⟨l,rfl⟩:=c;exact HT.rcLt_int A s _ _ _ _ prog i E Q q
  ·cases h;rw[e.str]at a;rw[f.str]at c;obtain⟨t,rfl⟩:=a;obtain⟨l,rfl⟩:=c;exact(PyProof.Rows.lt_str q:wpAny (Ag prog i) A (Dd .Lt _ _) Q E s)
  ·next o=>cases o
  ·next o=>cases o
  ·cases h
 |succ n ih=>
  intro A x y vx vy u v b hu h e f a c prog i E Q q;have d:=YI (N:=N) R n ih A (by lia) (b:=b);unfold ltN at h;split at h
  ·cases h;rw[e.int]at a;rw[f.int]at c;obtain⟨t,rfl⟩:=a;obtain⟨l,rfl⟩:=c;exact HT.rcLt_int A s _ _ _ _ prog i E Q q
  ·cases h;rw[e.str]at a;rw[f.str]at c;obtain⟨t,rfl⟩:=a;obtain⟨l,rfl⟩:=c;exact(PyProof.Rows.lt_str q:wpAny (Ag prog i) A (Dd .Lt _ _) Q E s)
  ·next m p r w=>
   cases w;obtain⟨a1,z,B,C,G⟩:=e.tup;obtain⟨a2,F,L,M,K⟩:=f.tup;subst B L;cases a;cases c;obtain⟨j,T,p1,_⟩:=R.tuple C;obtain⟨k,P,p2,_⟩:=R.tuple M;exact n0 p1 p2 (by simpa using d p r _ _ _ _ h G K T P) (by lia) q
  ·next m p r w=>
   cases w;obtain⟨a1,z,B,C,G⟩:=e;obtain⟨a2,F,L,M,K⟩:=f;subst B L;cases a;cases c;obtain⟨j,T,⟨⟨cls,dd,data,sl⟩,n1,Y,hc1,hdd1,hd1⟩,_⟩:=R.list C;obtain⟨k,P,⟨⟨cls2,dd2,data2,sl2⟩,n2,ho2,hc2,hdd2,hd2⟩,_⟩:=R.list M;subst hc1 hd1 hc2 hd2;exact og Y ho2 (by simpa using d p r _ _ _ _ h G K T P) (by lia) q
  ·cases h
theorem YJ(j:X.A.units+64<Aq):BU X (Dd .Lt) (YG X.K):=by
 rintro a s k H x y v u Q l c d ⟨N,e,f,b,g,h,i,q⟩;exact SW l 6 X.A e f x y v u b (by unfold ZS;lia) i g h c d X.prog X.w X.xe _ #[.bl b,H,l,rfl,q]
theorem YK:Dj K (YG K) Hl:=by
 intro N H x y a c d Q i f g e q;obtain⟨b,h,e⟩:=BN.mp e;cases e;exact#[N,a,c,b,f,g,h,q _ H (Aj.refl H) FP]
end
section
variable{K:Am}{N:Fb}
theorem Paired.one'{a b:Type}{F:a->b->Prop}{x:a}{vs:U b}(h:Paired F [x] vs):∃v,vs=[v]/\F x v:=by
 cases h with
 |cons r t=>cases t;exact#[_,rfl,r]
theorem Paired.two'{a b:Type}{F:a->b->Prop}{x y:a}{vs:U b}(h:Paired F [x,y] vs):∃v w,vs=[v,w]/\F x v/\F y w:=by
 cases h with
 |cons r t=>
  obtain⟨w,e,q⟩:=Paired.one' t;grind
@[simp] noncomputable def Zo:Ea
  |[.lst a]=>Z (.int a.length)
  |[.tup a]=>Z (.int a.length)
  |[.str x]=>if x.length<=Ax then Z (.int x.length)else J
  |_=>J
theorem YL:FN K (λxs H Q=>∃x n,xs=[x]/\Xr K x H n/\Q (.int n) H) Zo:=by
 intro N H j k d Q l h e q;unfold Zo at e;split at e
 ·cases e;obtain⟨v,rfl,b⟩:=Paired.one' h;obtain⟨a,c,rfl,f,g⟩:=b;exact#[.ref a,_,rfl,.inl #[c,f,rfl],g.length ▸ q _ H (Aj.refl H) Fu]
 ·cases e;obtain⟨v,rfl,b⟩:=Paired.one' h;obtain⟨a,c,rfl,f,g⟩:=b.tup;exact#[.ref a,_,rfl,.inr #[c,f,rfl],g.length ▸ q _ H (Aj.refl H) Fu]
 ·obtain⟨i,e⟩:=ZV e;cases e;obtain⟨v,rfl,b⟩:=Paired.one' h;exact#[v,_,rfl,b.str ▸ #[i,rfl],q _ H (Aj.refl H) Fu]
 ·cases e
@[simp] noncomputable def FR:U D->A2
  |[.lst a]=>Z a
  |[.tup a]=>Z a
  |_=>J
theorem p9:Pr K (λxs H Q=>∃p ys,xs=[.ref p]/\(BJ K H p ys\/B0 K H p ys)/\∀l,H l=J->Q (.ref l) (AK H l (.lst ys))) FR:=by
 intro N H i j xs Q k h e q;unfold FR at e;split at e
 ·cases e;obtain⟨v,rfl,c⟩:=Paired.one' h;obtain⟨a,b,rfl,d,f⟩:=c;exact#[a,b,rfl,.inl d,λl g=>q b l g f]
 ·cases e;obtain⟨v,rfl,c⟩:=Paired.one' h;obtain⟨a,b,rfl,d,f⟩:=c.tup;exact#[a,b,rfl,.inr d,λl g=>q b l g f]
 ·cases e
@[simp] noncomputable def Em:Ea
  |[.lst a]=>Z (.tup a)
  |[.tup a]=>Z (.tup a)
  |_=>J
theorem qa:FN K (λxs H Q=>∃p ys,xs=[.ref p]/\((BJ K H p ys/\∀l,H l=J->Q (.ref l) (AK H l (.tup ys)))\/(B0 K H p ys/\Q (.ref p) H))) Em:=by
 intro N H j k d Q m h e q;unfold Em at e;split at e
 ·cases e;obtain⟨v,rfl,f⟩:=Paired.one' h;obtain⟨a,b,rfl,c,g⟩:=f;exact#[a,b,rfl,.inl #[c,λl i=>q _ _ (ZT i)<|LR i g]]
 ·cases e;obtain⟨v,rfl,f⟩:=Paired.one' h;obtain⟨a,b,rfl,c,g⟩:=f.tup;exact#[a,b,rfl,.inr #[c,q _ _ (Aj.refl H) (by erw[Ar];exact#[a,b,rfl,c,g])]]
 ·cases e
noncomputable def Ig:U D->O (U Bool)
 |[]=>Z []
 |.bl b::r=>(Ig r).map (b::·)
 |_=>J
theorem qb{bs:U Bool}(h:Ig xs=Z bs):xs=bs.map D.bl:=by
 induction xs generalizing bs with
 |nil=>cases h;rfl
 |cons x r a=>cases x<;>first|cases h;done|(erw[Ig,BN]at h;obtain⟨_,e,rfl⟩:=h;rw[a e];rfl)
theorem YM:∀{bs:U Bool}{vs:U V},Ad K N H (bs.map D.bl) vs->vs=bs.map V.bl
 |[],_,h=>by simpa only[Dh,Ad]using h
 |b::bs,_,h=>by
  obtain⟨v,r,e,a,t⟩:=h;subst e a;rw[YM t];rfl
@[simp] def Fa:Ea
  |[.lst a]=>(Ig a).map λbs=>.bl (bs.all id)
  |_=>J
@[simp] def SX:Ea
  |[.lst a]=>(Ig a).map λbs=>.bl (bs.any id)
  |_=>J
set_option tactic.hygienic true in
theorem qc{b:Bool}:FN K (λxs H Q=>∃(a:Ac)(bs:U Bool),xs=[.ref a]/\BJ K H a (bs.map V.bl)/\Q (.bl (bif b then bs.all id else bs.any id)) H) (bif b then Fa else SX):=by
 intro N H i j d Q k h e q;cases b;all_goals
  first|change Fa _=_ at e;unfold Fa at e|change SX _=_ at e;unfold SX at e
  split at e
  ·next xs=>
   obtain⟨bs,g,rfl⟩:=BN.mp e;obtain⟨v,rfl,a,l,rfl,c,f⟩:=Paired.one' h;rw[qb g]at f;rw[YM f]at c;exact#[a,bs,rfl,c,q _ H (Aj.refl H) FP]
  ·cases e
@[simp] noncomputable def Jq:Ea
  |[.int i,.int j]=>Z (.int (if j>i then j else i))
  |_=>J
@[simp] noncomputable def PJ:Ea
  |[.int i,.int j]=>Z (.int (if j<i then j else i))
  |_=>J
theorem qd:FN K (λxs H Q=>∃i j,xs=[.int i,.int j]/\Q (.int (if j>i then j else i)) H) Jq:=by
 intro N H c f d Q g h e q;unfold Jq at e;split at e
 ·cases e;obtain⟨v,w,rfl,a,b⟩:=Paired.two' h;exact#[_,_,by rw[a.int,b.int],q _ H (Aj.refl H) Fu]
 ·cases e
theorem qe:FN K (λxs H Q=>∃i j,xs=[.int i,.int j]/\Q (.int (if j<i then j else i)) H) PJ:=by
 intro N H c f d Q g h e q;unfold PJ at e;split at e
 ·cases e;obtain⟨v,w,rfl,a,b⟩:=Paired.two' h;exact#[_,_,by rw[a.int,b.int],q _ H (Aj.refl H) Fu]
 ·cases e
@[simp] noncomputable def intD:Ea
  |[.int i]=>Z (.int i)
  |[.bl k]=>Z (.int (if k then 1 else 0))
  |_=>J
theorem qf:FN K (λxs H Q=>(∃i,xs=[.int i]/\Q (.int i) H)\/∃k,xs=[.bl k]/\Q (.int (if k then 1 else 0)) H) intD:=by
 intro N H b c d Q f h e q;unfold intD at e;split at e
 ·cases e;obtain⟨v,rfl,a⟩:=Paired.one' h;exact .inl #[_,by rw[a.int],q _ H (Aj.refl H) Fu]
 ·cases e;obtain⟨v,rfl,a⟩:=Paired.one' h;exact .inr #[_,by rw[a.bl],q _ H (Aj.refl H) Fu]
 ·cases e
noncomputable def Hm:U D->O (U Int)
 |[]=>Z []
 |.int b::r=>(Hm r).map (b::·)
 |_=>J
theorem YN{bs:U Int}(h:Hm xs=Z bs):xs=bs.map D.int:=by
 induction xs generalizing bs with
 |nil=>cases h;rfl
 |cons x r a=>cases x<;>first|cases h;done|(erw[Hm,BN]at h;obtain⟨_,e,rfl⟩:=h;rw[a e];rfl)
theorem YO:∀(ns:U Int),Hm (ns.map D.int)=Z ns
 |[]=>rfl
 |n::ns=>by erw[Be,Hm,YO ns];rfl
theorem SY:∀{bs:U Int}{vs:U V},Ad K N H (bs.map D.int) vs->vs=bs.map V.int
 |[],_,h=>by simpa only[Dh,Ad]using h
 |b::bs,_,h=>by
  obtain⟨v,r,e,a,t⟩:=h;subst e a;rw[SY t];rfl
end
section
theorem qg(g:X.calm=J'):Eh X (.builtin "sum") (λxs H Q=>∃(a:Ac)(ns:U Int),xs=[.ref a]/\BJ X.K H a (ns.map V.int)/\Q (.int ns.sum) H):=by
 rintro d s o H xs t Q x r ⟨a,ns,rfl,h,q⟩;obtain⟨u,rfl,i⟩:=E4 r;cases i;obtain⟨b,e,p,v⟩:=x.list h;obtain⟨c,f⟩:=(Ph e).allInts.items;refine sum_intListG (x.ok.hd g) (f ▸ p.isList) λw j k l=>?_;have m:ns=c.toList.map (·.1):=by
  rw[<- nums_intItems,<- f];exact(show numsOf b.toArray.toList=ns from(Ph e).numsOf).symm
 have n:preSum (numAt c) c.size=ns.sum:=by
  rw[preSum_eq,Nv (by simp),m]
 rw[n];exact#[.int ns.sum,H,x.kept (t':=j) l,#[_,rfl],q]
theorem YP{b:Bool}(h:X.calm=J'):Eh X (.builtin (bif b then "min" else "max")) (λxs H Q=>∃(a:Ac)(ns:U Int),xs=[.ref a]/\BJ X.K H a (ns.map V.int)/\0<ns.length/\∀m,m∈ns->(∀a,a∈ns->bif b then m<=a else a<=m)->Q (.int m) H):=by
 rintro i s G H xs F Q M r ⟨a,ns,rfl,x,y,q⟩;obtain⟨u,rfl,z⟩:=E4 r;cases z;obtain⟨A,k,p,L⟩:=M.list x;obtain⟨d,e⟩:=(Ph k).allInts.items;have f:ns=d.toList.map (·.1):=by rw[<- (Ph k).numsOf,<- nums_intItems,<- e]
 have c:0<d.size:=by
  grind
 cases b;all_goals
  first|refine min_intList (M.ok.hd h) (e ▸ p.isList) c λv B l n o=>?_|refine max_intList (M.ok.hd h) (e ▸ p.isList) c λv B l n o=>?_
  obtain⟨t,rfl⟩:=intItems_at n;have C:=argBest_lt (numAt d)<|d.size-1;have E:=argBest_gt (numAt d)<|d.size-1;refine⟨.int _,H,M.kept (t':=l) o,⟨t,rfl⟩,q _ ?_ λb w=>?_⟩
  ·rw[f,numAt_eq];exact getD_mem (by rw[A9,R7];lia)
  ·rw[f]at w;obtain⟨j,g,rfl⟩:=mem_getD w;rw[A9,R7]at g;rw[<- numAt_eq];first|exact C.2 j ((PL c).mpr g)|exact E.2 j ((PL c).mpr g)
end
noncomputable def S0:U Int->O Int
 |[]=>J
 |x::a=>Z (a.foldl (λm y=>if y<m then y else m) x)
noncomputable def S2:U Int->O Int
 |[]=>J
 |x::a=>Z (a.foldl (λm y=>if y>m then y else m) x)
theorem YQ:∀(xs:U Int)(x:Int),(xs.foldl (λm y=>if y<m then y else m) x)∈x::xs/\∀a∈x::xs,(xs.foldl (λm y=>if y<m then y else m) x)<=a
 |[],x=>by simp
 |y::b,x=>by
  obtain⟨c,d⟩:=YQ b<|if y<x then y else x;grind [Bj]
theorem YR:∀(xs:U Int)(x:Int),(xs.foldl (λm y=>if y>m then y else m) x)∈x::xs/\∀a∈x::xs,a<=(xs.foldl (λm y=>if y>m then y else m) x)
 |[],x=>by simp
 |y::b,x=>by
  obtain⟨c,d⟩:=YR b<|if y>x then y else x;grind [Bj]
theorem qh{ns:U Int}{m k:Int}(h:S0 ns=Z k)(b:m∈ns)(c:∀a,a∈ns->m<=a):m=k:=by
 cases ns with|nil=>cases h|cons x d=>
  cases h;grind [YQ]
theorem qi{ns:U Int}{m k:Int}(h:S2 ns=Z k)(b:m∈ns)(c:∀a,a∈ns->a<=m):m=k:=by
 cases ns with|nil=>cases h|cons x d=>
  cases h;grind [YR]
section
variable{K:Am}
@[simp] noncomputable def PM:Ea
  |[.lst a]=>(Hm a).map λns=>.int ns.sum
  |_=>J
@[simp] noncomputable def Nw:Ea
  |[.lst a]=>((Hm a).bind S0).map D.int
  |_=>J
@[simp] noncomputable def Nx:Ea
  |[.lst a]=>((Hm a).bind S2).map D.int
  |_=>J
set_option tactic.hygienic true in
theorem qj:FN K (λxs H Q=>∃(a:Ac)(ns:U Int),xs=[.ref a]/\BJ K H a (ns.map V.int)/\Q (.int ns.sum) H) PM:=by
 intro N H g i d Q j h e q;unfold PM at e;split at e
 ·next xs=>
  obtain⟨bs,f,rfl⟩:=BN.mp e;obtain⟨v,rfl,a,k,rfl,b,c⟩:=Paired.one' h;rw[YN f]at c;rw[SY c]at b;exact#[a,bs,rfl,b,q _ H (Aj.refl H) Fu]
 ·cases e
set_option tactic.hygienic true in
theorem YS{b:Bool}:FN K (λxs H Q=>∃(a:Ac)(ns:U Int),xs=[.ref a]/\BJ K H a (ns.map V.int)/\0<ns.length/\∀m,m∈ns->(∀a,a∈ns->bif b then m<=a else a<=m)->Q (.int m) H) (bif b then Nw else Nx):=by
 intro N H o p d Q r h e q;cases b;all_goals
  first|change Nw _=_ at e;unfold Nw at e|change Nx _=_ at e;unfold Nx at e
  split at e
  ·next xs=>
   obtain⟨k,l,rfl⟩:=BN.mp e;obtain⟨bs,n,c⟩:=BI.mp l;obtain⟨v,rfl,a,s,rfl,f,g⟩:=Paired.one' h;rw[YN n]at g;rw[SY g]at f;refine#[a,bs,rfl,f,?_,λm i j=>?_]
   ·cases bs with
    |nil=>cases c
    |cons=>simp
   ·first|rw[qh c i j]|rw[qi c i j]
    exact q _ H (Aj.refl H) Fu
  ·cases e
@[simp] noncomputable def LX:D->O String
  |.non=>Z "NoneType"
  |.bl _=>Z "bool"
  |.int _=>Z "int"
  |.str _=>Z "str"
  |.tup _=>Z "tuple"
  |.lst _=>Z "list"
  |.lst _ .d=>J
  |.lst _ (.i _ _)=>J
  |.ty _=>J
noncomputable def LY(t n:String):Bool:=t==n||(t=="bool"&&n=="int")
end
noncomputable def GP:U String:=["NoneType","bool","int","str","tuple","list"]
theorem YT(K:Am):∀t∈GP,∀n∈GP,PySem.W.kitOne K (.type t) (.type n)=Z (LY t n):=by
 intro t a n b;erw[GP,Bz,Hn,or_false]at a b;rcases a with rfl|rfl|rfl|rfl|rfl|rfl<;>rcases b with rfl|rfl|rfl|rfl|rfl|rfl<;>with_unfolding_all rfl
theorem YU(K:Am){t:String}(a:t∈GP):∀(ns:U String),(∀n∈ns,n∈GP)->PySem.W.kitAny K (.type t) (ns.map Value.type)=Z (ns.any λn=>LY t n)
 |[],_=>rfl
 |n::ns,h=>by
  erw[Be,PySem.W.kitAny,YT K t a n<|h n Bj,YU K a ns λm b=>h m<|BG _ b,List.any_cons];cases LY t n<;>rfl
theorem YV{d:D}{t:String}(h:LX d=Z t):t∈GP:=by
 cases d with
 |lst b a=>cases a<;>simp[LX]at h;subst h;simp[GP]
 |_=>simp[LX]at h<;>subst h<;>simp[GP]
section
variable{K:Am}
theorem qk{h:AR}{s:Ab}(A:Inv X h I H s){N:Fb}{d:D}{x:V}{t:String}(g:Aw X.K N H d x)(c:RelV x u)(f:LX d=Z t):∃p:Ak->Prop,PySem.W.KitX X.K u (.type t) p/\p s.heap/\u≠.builtin "__main__.__loader__#opaque":=by
 cases d with
 |non=>cases f;rw[g.non]at c;cases c;exact#[_,PySem.W.kitx_none,trivial,λz=>nomatch z]
 |bl b=>cases f;rw[g.bl]at c;cases c;exact#[_,PySem.W.kitx_bool,trivial,λz=>nomatch z]
 |int b=>cases f;rw[g.int]at c;obtain⟨t,rfl⟩:=c;exact#[_,PySem.W.kitx_int,trivial,λz=>nomatch z]
 |str b=>cases f;rw[g.str]at c;obtain⟨t,rfl⟩:=c;exact#[_,PySem.W.kitx_str,trivial,λz=>nomatch z]
 |ty n=>cases f
 |tup v=>
  cases f;obtain⟨a,w,e,q,r⟩:=g.tup;subst e;cases c;obtain⟨j,_,⟨o,k,m,_⟩,_⟩:=A.tuple q;exact#[_,PySem.W.kitx_tuple,#[o,k,m],λz=>nomatch z]
 |lst v y=>
  cases y with
  |d=>cases f
  |i _ _=>cases f
  |l=>
  cases f;obtain⟨a,w,e,q,r⟩:=g;subst e;cases c;obtain⟨j,_,⟨o,n,k,m,_⟩,_⟩:=A.list q;exact#[_,PySem.W.kitx_list,#[o,k,m],λz=>nomatch z]
@[simp] noncomputable def Df:D->O (U String)
  |.ty n=>Z [n]
  |.tup a=>tysL a
  |_=>J
where tysL:U D->O (U String)
 |[]=>Z []
 |.ty n::r=>(tysL r).map (n::·)
 |_=>J
theorem qm{ns:U String}(h:Df.tysL xs=Z ns):xs=ns.map D.ty:=by
 induction xs generalizing ns with
 |nil=>cases h;rfl
 |cons x r a=>cases x<;>first|cases h;done|(erw[Df.tysL,BN]at h;obtain⟨_,e,rfl⟩:=h;rw[a e];rfl)
@[simp] def EC:Ea
  |[x,c]=>(Df c).bind λns=>if(∀n∈ns,n∈GP)then(LX x).map λt=>.bl (ns.any λn=>LY t n)else J
  |_=>J
def YW(K:Am):U V->Hp->VK->Prop:=λa H Q=>∃N d c x y ns t,a=[x,y]/\Aw K N H d x/\Aw K N H c y/\Df c=Z ns/\(∀n∈ns,n∈GP)/\LX d=Z t/\Q (.bl (ns.any λn=>LY t n)) H
theorem YX{N:Fb}{H:Hp}:∀{ns:U String}{vs:U V},Ad K N H (ns.map D.ty) vs->vs=ns.map V.ty
 |[],_,h=>by simpa only[Dh,Ad]using h
 |b::bs,_,h=>by
  obtain⟨v,r,e,a,t⟩:=h;subst e a;rw[YX t];rfl
theorem YZ:∀{ns:U String}{us:U Aa},Ao (ns.map V.ty) us->us=ns.map Value.type
 |[],_,r=>by cases r;rfl
 |n::ns,_,r=>by
  cases r with
  |cons a b=>cases a;rw[YZ b];rfl
theorem Y0:Eh X (.builtin "isinstance") (YW X.K):=by
 rintro k s L H m M Q zA r ⟨N,d,c,x,y,ns,t,rfl,o,l,b,f,h,q⟩;obtain⟨u,P,rfl,v,i⟩:=M1 r;obtain⟨T,S,p,g⟩:=qk zA o v h;cases c with
 |ty n=>
  cases b;rw[l.ty]at i;cases i;exact PySem.W.kia_one S zA.kIn p (YT X.K t (YV h) n<|f n (by simp)) g λj=>#[.bl _,H,zA.tok j,rfl,by simpa using q]
 |tup m=>
  have e:=qm b;subst e;obtain⟨a,R,e,w,dl⟩:=l.tup;subst e;cases i;obtain⟨z,A,⟨⟨cls,Y,data,sl⟩,B,C,n,E⟩,_⟩:=zA.tuple w;subst C E;have G:=YX dl;subst G;have F:=YZ A;subst F;exact PySem.W.kia_tup S zA.kIn p B (YU X.K (YV h) ns f) g λj=>#[.bl _,H,zA.tok j,rfl,q]
 |non=>cases b
 |bl _=>cases b
 |int _=>cases b
 |str _=>cases b
 |lst _=>cases b
set_option tactic.hygienic true in
theorem Y1:FN K (YW K) EC:=by
 intro N H j k d Q l h e q;unfold EC at e;split at e
 ·next x c=>
  cases a:Df c with|none=>rw[a]at e;cases e|some ns=>
   rw[a]at e;obtain⟨b,e⟩:=ZV e;obtain⟨t,f,e⟩:=BN.mp e;cases e;obtain⟨v,w,rfl,g,i⟩:=Paired.two' h;exact#[N,x,c,v,w,ns,t,rfl,g,i,a,b,f,q _ H (Aj.refl H) FP]
 ·cases e
theorem Y2{M:Fb}{x:Ae}{n:String}(a:Gl X x)(b:X.mg x=J)(c:DY x=Z (.type n))(d:x≠"__name__":=by ext)(hd:Cj x:=by ext):JE X (.Name x pos) (tD K M H0 λ_=>Z (.ty n)):=#[LH (WZ a b c (v:=.ty n) rfl d hd) λ_ _=>by erw[Ar]]
theorem qo{M:Fb}{x:Ae}{v:V}{d:D}(b:Gl X x)(h:∃u,X.mg x=Z u/\RelV v u)(hd:∀N H,Ar K N H d v)(a:Cj x:=by ext):JE X (.Name x pos) (tD K M H0 λ_=>Z d):=#[by
 obtain⟨u,c,r⟩:=h;exact LH (R6 b c r a) hd]
end
section
variable{K:Am}{M:Fb}{a b c e:Expr}{f g h:AD}
theorem vv(i:Nat){x:Ae}(a:NV X i x:=by exact EM):PE X (.Name x pos) (tD K M H0 λρ=>AU ρ i):=ol a
theorem qp(i:Nat){x:Ae}(a:NV X i x:=by exact EM):JE X (.Name x pos) (tD K M H0 λρ=>AU ρ i):=#[vv i a]
theorem vp(i:Nat){x:Ae}(a:NV X i x:=by exact EM):PE X (.Name x pos) (tP K M H0 λρ=>A5 ρ i):=om a
theorem qq(i:Nat){x:Ae}(a:NV X i x:=by exact EM):JE X (.Name x pos) (tP K M H0 λρ=>A5 ρ i):=#[vp i a]
theorem qr(i:Nat){x:Ae}(a:NV X i x:=by exact EM):JE X (.Name x pos) (tQ K M H0 λρ=>B4 ρ i):=#[pr a]
theorem S3(i:Nat){x:Ae}(a:NV X i x:=by exact EM):JE X (.Name x pos) (Gc K M H0 λρ=>CZ ρ i):=#[oP a]
theorem qt(i:Nat){x:Ae}{a:AC}(b:NV X i x:=by exact EM):JS X (.Return (Z (.Name x a)) pos) (tS K M H0 λρ=>Cn (Eb ρ i)):=#[o6 rfl (λ_=>rfl) Ng b]
theorem qu(e:X.A.units+64<Aq)(c:JE X a (tP X.K M H0 f))(d:JE X b (tP X.K M H0 g)):JE X (.Compare a [.Eq] [b] pos) (tD X.K M H0 (Za BK f g)):=#[have c:=c.h;have d:=d.h;Po (SN e) SQ c d<|F6 _ (by ext) (by ext)]
theorem qv(e:X.A.units+64<Aq)(c:JE X a (tP X.K M H0 f))(d:JE X b (tP X.K M H0 g)):JE X (.Compare a [.Gt] [b] pos) (tD X.K M H0 (Za D2 f g)):=#[have c:=c.h;have d:=d.h;Po Xm (LQ _) c d<|F6 _ (by ext) (by ext)]
theorem qw(e:X.A.units+64<Aq)(c:JE X a (tP X.K M H0 f))(d:JE X b (tP X.K M H0 g))(i:F7 .In b=O':=by with_unfolding_all rfl):JE X (.Compare a [.In] [b] pos) (tD X.K M H0 (Za (GO O') f g)):=#[have c:=c.h;have d:=d.h;Po ((YE O' e).or ml) (YF O') c d i]
theorem qx(e:X.A.units+64<Aq)(c:JE X a (tP X.K M H0 f))(d:JE X b (tP X.K M H0 g)):JT X (.Compare a [.Eq] [b] pos) (BH X.K M H0 λρ=>AL (Za BK f g ρ)):=#[have c:=c.h;have d:=d.h;H9 (SN e) SQ c d<|F6 _ (by ext) (by ext)]
theorem qy(e:X.A.units+64<Aq)(c:JE X a (tP X.K M H0 f))(d:JE X b (tP X.K M H0 g)):JT X (.Compare a [.NotEq] [b] pos) (BH X.K M H0 λρ=>AL (Za CK f g ρ)):=#[have c:=c.h;have d:=d.h;H9 (SO e) SR c d<|F6 _ (by ext) (by ext)]
theorem qA(e:X.A.units+64<Aq)(c:JE X a (tP X.K M H0 f))(d:JE X b (tP X.K M H0 g)):JT X (.Compare a [.Lt] [b] pos) (BH X.K M H0 λρ=>AL (Za Hl f g ρ)):=#[have c:=c.h;have d:=d.h;H9 (YJ e) YK c d<|F6 _ (by ext) (by ext)]
theorem qB(e:X.A.units+64<Aq)(c:JE X a (tP X.K M H0 f))(d:JE X b (tP X.K M H0 g)):JT X (.Compare a [.Gt] [b] pos) (BH X.K M H0 λρ=>AL (Za D2 f g ρ)):=#[have c:=c.h;have d:=d.h;H9 Xm (LQ _) c d<|F6 _ (by ext) (by ext)]
theorem qC(e:X.A.units+64<Aq)(c:JE X a (tP X.K M H0 f))(d:JE X b (tP X.K M H0 g)):JT X (.Compare a [.GtE] [b] pos) (BH X.K M H0 λρ=>AL (Za Nn f g ρ)):=#[have c:=c.h;have d:=d.h;H9 mk (LQ _) c d<|F6 _ (by ext) (by ext)]
theorem qD(e:X.A.units+64<Aq)(c:JE X a (tP X.K M H0 f))(d:JE X b (tP X.K M H0 g))(i:F7 .NotIn b=O':=by with_unfolding_all rfl):JT X (.Compare a [.NotIn] [b] pos) (BH X.K M H0 λρ=>AL (Za (GO J') f g ρ)):=#[have c:=c.h;have d:=d.h;H9 ((YE J' e).or mm) (YF J') c d i]
@[simp] noncomputable def Ih(F b:D->D->O D)(f g h:AD):AD:=λa=>(f a).bind λx=>(g a).bind λy=>match F x y with
  |some (.bl J')=>(h a).bind λz=>b y z
  |some (.bl O')=>Z (.bl O')
  |_=>J
theorem qE{r s:R2}{F t:D->D->O D}(A:Dj K r F)(k:Dj K s t){Q:VK}(q:tD K M H0 (Ih F t f g h) I H Q):Xo r s (tP K M H0 f) (tP K M H0 g) (tP K M H0 h) I H Q:=by
 obtain⟨b,d,R,e,q⟩:=q;unfold Ih at e;cases i:f b with|none=>rw[i]at e;cases e|some x=>
  cases l:g b with|none=>rw[i,l]at e;cases e|some y=>
   rw[i,l]at e;erw[B7]at e;refine#[b,x,R,i,λv Y j B=>#[b,y,R.st j,l,λu C c m=>?_]];have R2:=(R.st j).st c;split at e
   ·next n=>
    obtain⟨z,G,e⟩:=BI.mp e;exact A _ C v u x y _ _ R2.nh (B.same c) m n λw E a o=>#[J',by simpa only[Ar]using o,Ji #[b,z,R2.st a,G,λX P p L=>k _ P u X y z d Q (((R2.st a).st p)).nh ((m.same a).same p) L e λN S T W=>q N S ((((j.trans c).trans a).trans p).trans T) W]]
   ·next n=>
    cases e;exact A _ C v u x y _ _ R2.nh (B.same c) m n λw E a o=>#[O',by simpa only[Ar]using o,Jj<|q _ E ((j.trans c).trans a) FP]
   ·cases e
theorem Y3{op d:CmpOp}{r m:R2}{F n:D->D->O D}(o:BU X (Dd op) r)(e:BU X (Dd d) m)(p:Dj K r F)(i:Dj K m n)(j:JE X a (tP K M H0 f))(k:JE X b (tP K M H0 g))(l:JE X c (tP K M H0 h))(s:lastMarks [op,d] [b,c]=O':=by with_unfolding_all rfl):JE X (.Compare a [op,d] [b,c] pos) (tD K M H0 (Ih F n f g h)):=#[have j:=j.h;have k:=k.h;have l:=l.h;(mq o e j k l s).mono λ_ _ _ q=>qE p i q]
@[simp] noncomputable def Z0:O D->O Bool
  |some .non=>Z O'
  |some (.bl b)=>Z b
  |some (.int i)=>Z (i != 0)
  |some (.str y)=>if y.length<=Ax then Z ((y.length:Int) != 0)else J
  |some (.lst a)=>Z (!a.isEmpty)
  |some (.tup a)=>Z (!a.isEmpty)
  |_=>J
theorem Ad.isEmpty{N:Fb}(h:Ad K N H xs vs):vs.isEmpty=xs.isEmpty:=by
 cases xs with
 |nil=>erw[Ad]at h;subst h;rfl
 |cons x xs=>erw[Ad]at h;obtain⟨_,_,e,_⟩:=h;subst e;rfl
theorem qF(i:JE X a (tP X.K M H0 f))(n:∀b,isTrue a X.env b=(do let v <- b;standAt a.pos;Dw [v] (truthy v)):=by intro _;rfl):JT X a (BH X.K M H0 λρ=>Z0 (f ρ)):=#[have i:=i.h;(ms i n).mono λt H Q o=>by
  obtain⟨ρ,k,R,e,q⟩:=o;try dsimp only at e q
  unfold Z0 at e;split at e
  ·next c=>cases e;exact#[ρ,_,R,c,λv d s g=>#[_,by rw[g.non];rfl,q d s]]
  ·next c=>cases e;exact#[ρ,_,R,c,λv d s g=>#[_,by rw[g.bl];rfl,q d s]]
  ·next c=>cases e;exact#[ρ,_,R,c,λv d s g=>#[_,by rw[g.int];rfl,q d s]]
  ·next c=>
   obtain⟨r,e⟩:=ZV e;cases e;exact#[ρ,_,R,c,λv d s g=>#[_,g.str ▸ #[r,rfl],q d s]]
  ·next c=>
   cases e;refine#[ρ,_,R,c,λv d s g=>#[_,?_,q d s]];obtain⟨p,j,rfl,l,m⟩:=g;exact .inl #[j,l,by rw[m.isEmpty]]
  ·next c=>
   cases e;refine#[ρ,_,R,c,λv d s g=>#[_,?_,q d s]];obtain⟨p,j,rfl,l,m⟩:=g.tup;exact .inr #[j,l,by rw[m.isEmpty]]
  ·cases e]
@[simp] noncomputable def Zy:D->A2
  |.lst a=>Z a
  |.tup a=>Z a
  |.str x=>Z (x.cps.toList.map λc=>D.str #[(T' [c])])
  |_=>J
theorem qG{l:Expr}(b:JE X l (tQ X.K M H0 f)):JI X tg l (tI X.K M H0 λρ=>(f ρ).bind Zy):=#[have b:=b.h;λa s c H g p m=>by
 obtain⟨ρ,j,R,e,q⟩:=m;obtain⟨d,k,e⟩:=BI.mp e;cases d with
 |lst n o=>
  cases o with
  |d=>cases e
  |i _ _=>cases e
  |l=>exact pw b a s c H g p #[ρ,j,R,by dsimp only;rw[k];exact e,q]
 |tup n=>exact px b a s c H g p #[ρ,j,R,by dsimp only;rw[k];exact e,q]
 |str x=>exact py b a s c H g p #[ρ,j,R,by dsimp only;rw[k];exact e,q]
 |_=>cases e]
@[simp] def LZ(i:Nat)(o:A2)(ρ:VE):DP:=match Eb ρ i,o with
  |some a,Z b=>if a.length+b.length<=Ax then .next (ρ.set i (.own (a++b)))else .fail
  |_,_=>.fail
theorem qH{fl:VE->A2}{i:Nat}{x:Ae}{c d g:AC}(k:JE X e (tF K M H0 fl))(A:NV X i x:=by exact EM)(B:DE (.Call (.Attribute (.Name x c) "extend" d) [e] [] g) J pos.line X.env=Ay O':=by rfl)(hz:BA X x c "extend" d e g:=by exact Yk):JS X (.Expr (.Call (.Attribute (.Name x c) "extend" d) [e] [] g) pos) (tS K M H0 λρ=>LZ i (fl ρ) ρ):=#[have k:=k.h;(R8 (Ku SH PySem.F.slot_list_extend PySem.F.type_list_extend nG (Ga A) (Eu k Bk hz.s) hz.b hz.f hz.l hz.s hz.p) B).mono λP L H C=>by
  obtain⟨ρ,R,q⟩:=C;cases j:Eb ρ i with|none=>erw[j,LZ]at q;exact BS q|some E=>
   cases m:fl ρ with|none=>erw[j,m,LZ]at q;exact BS q|some n=>
    erw[j,m,LZ]at q;split at q
    ·next hz=>
     obtain⟨a,o,v,N,S,w,y⟩:=R.slot i _<|Ng j;refine⟨.ref a,(ZN v),.inl ⟨rfl,o,.inl<|.inl w⟩,ρ,n,R,m,λp r Q s G t z=>?_⟩;obtain⟨R2,T⟩:=(R.st s).chg (ys:=E++n) (ws:=o++r) (Ng j) (ZN v) ((y.same s).append<|z.nw λb u=>.inl<|.inl u);exact⟨a,p,o,r,rfl,rfl,s _ _ w,t,by rw[<- y.length,<- (z.nw λb u=>.inl<|.inl u).length];exact hz,q _ _ R2<|(Step.of_same s).trans T⟩
    ·exact BS q]
end
end L2
variable{xs:U L2.D}{ρ:L2.VE}{fl k':L2.Kd}{fa:L2.Dx}{fo:L2.VE->O L2.Sl}{lo:L2.VE->O (O Int)}{fx:L2.VE->O (L2.D×L2.VE)}{ff:L2.VE->O (U L2.D)}
namespace L2
theorem Y4{e:PySem.Expr}{t:TT}(h:JW X e t):JT X e t:=#[h.h.pt]
open PyProof.Rows PySem PySem.Spec
section
variable{K:Am}
def PN(i:Nat)(b c:O D)(ρ:VE):DP:=match Eb ρ i,b,c with
 |some a,Z (.int k),Z d=>match CG a.length k with
  |some j=>.next (ρ.set i (.own (a.set j d)))
  |none=>.fail
 |_,_,_=>.fail
set_option tactic.hygienic true in
theorem qI{M:Fb}{i:Nat}{x:Ae}{b c:AC}{g e:Expr}{fi f:AD}(n:JE X g (tP K M H0 fi))(o:JE X e (tD K M H0 f))(C:NV X i x:=by exact EM) (E:∀v,assign (.Subscript (.Name x b) g c) X.env v=(do
   let m <- Dw [v] (An (.Name x b) X.env);let p <- Dw [v,m] (An g X.env);standAt c
   Dw [v,m,p] (setItem m p v)
   release [v,m,p] []):=by intro _;rfl) (G:swapsWithSole [.Subscript (.Name x b) g c] e pos.line X.env=Ay O':=by rfl) (r:swappedStores [.Subscript (.Name x b) g c] e X.env=Ay J:=by rfl) (W:(FG [.Subscript (.Name x b) g c] X.env).map (·.2)=[assign (.Subscript (.Name x b) g c) X.env]:=by rfl):JS X (.Assign [.Subscript (.Name x b) g c] e pos) (tS K M H0 λρ=>PN i (fi ρ) (f ρ) ρ):=#[have n:=n.h;have o:=o.h;(O7 o (O6 (Ga C) n XY E) G r W).mono λD' I H F=>by
 obtain⟨ρ,R,q⟩:=F;try dsimp only at q
 unfold PN at q;split at q
 ·next L k d u s N=>
  split at q
  ·next j P=>
   refine#[ρ,d,R,N,λv H1 y Q=>?_];have t:=R.st y;obtain⟨a,z,A,z1,z2,T,B⟩:=t.slot i _<|Ng u;refine⟨.ref a,(ZN A),ρ,.int k,t,s,λw H2 l r=>?_⟩;obtain⟨S,Y⟩:=(t.st l).chg (ys:=L.set j d) (ws:=z.set j v) (Ng u) (ZN A) (Ad.set j (B.same l)<|Q.same l);exact⟨a,z,k,j,rfl,r.int,l _ _ T,B.length ▸ P,q _ _ S<|(Step.of_same<|y.trans l).trans Y⟩
  ·exact BS q
 ·exact BS q]
def Y5(K:Am)(r:V->U V->Hp->VK->Prop)(F:Ae->Ea):Prop:=∀(N:Fb)(H:Hp)(z:Ae)(c:U V)(e:U D)(d:D)(Q:VK),(∀a,N a->H a≠J)->Paired (Aw K N H) e c->F z e=Z d ->
 (∀v b,Aj H b->Ar K N b d v->Q v b)->r (.str z) c H Q
@[simp] def PP(F:Ae->Ea)(f:AD)(b:Dx):AD:=λa=>match f a with
  |some (.str z)=>((b a).bind Gd).bind (F z)
  |_=>J
section
variable{M:Fb}{e:Expr}{f:AD}{name:Ae}{id:String}{r:V->U V->Hp->VK->Prop}{F:Ae->Ea}
set_option tactic.hygienic true in
theorem qJ(s:PlainAttrs "str")(slot:Slot "str" name id)(i:typeOf (.builtin id)=Ay (.type "method_descriptor"))(t:M5 X id r)(u:Y5 X.K r F)(j:JE X o (tP X.K M H0 f))(k:JA X (e::es) (CH X.K M H0 fa))(b:GA o name X.env (An o X.env)=An o X.env:=by rfl) (g:((As cpos (Az (e::es) X.env)).all (λx=>!x.1)&&(GB cpos (GC [] X.env)).all (λx=>x.1.isSome) && decide ((e::es).length+([]:U Ev).length+(if([]:U Ev).isEmpty then 0 else 1)<30))=J':=by rfl) (c:(apos.endLine==cpos.line)=J':=by rfl) (y:Az (e::es) X.env=(O',An e X.env)::Az es X.env:=by exact ZI rfl) (a:(As cpos (Az es X.env)).any (·.1)=O':=by rfl):JE X (.Call (.Attribute o name apos) (e::es) [] cpos) (tD X.K M H0 (PP F f fa)):=#[have j:=j.h;have k:=k.h;(Ku s slot i t j k b g c y a).mono λY H Q A=>by
 obtain⟨l,d,R,ex,q⟩:=A;unfold PP at ex;split at ex
 ·next z B=>
  cases m:fa l with|none=>rw[m]at ex;cases ex|some C=>
   rw[m]at ex;obtain⟨E,G,ex⟩:=BI.mp ex;refine#[l,.str z,R,B,λv H1 n zA=>?_];rw[zA.str];exact#[rfl,l,C,R.st n,m,λP L p N=>u _ L z P E d Q ((R.st n).st p).nh (Ps N G) ex λw S T W=>q w S ((n.trans p).trans T) W]
 ·cases ex]
end
noncomputable def Jr:U D->O (U Ae)
 |[]=>Z []
 |.str b::r=>(Jr r).map (b::·)
 |_=>J
theorem qK{bs:U Ae}(h:Jr xs=Z bs):xs=bs.map D.str:=by
 induction xs generalizing bs with
 |nil=>cases h;rfl
 |cons x r a=>cases x<;>first|cases h;done|(erw[Jr,BN]at h;obtain⟨_,e,rfl⟩:=h;rw[a e];rfl)
@[simp] theorem Y6:∀(ns:U Ae),Jr (ns.map D.str)=Z ns
  |[]=>rfl
  |n::ns=>by erw[Be,Jr,Y6 ns];rfl
theorem Y7{N:Fb}{H:Hp}:∀{bs:U Ae}{vs:U V},Ad K N H (bs.map D.str) vs->vs=bs.map V.str
 |[],_,h=>by simpa only[Dh,Ad]using h
 |b::bs,_,h=>by
  obtain⟨v,r,e,a,t⟩:=h;subst e a;rw[Y7 t];rfl
@[simp] noncomputable def PQ(z:Ae):Ea
  |[.lst b]=>(Jr b).bind λa=>if(a.map (·.length)).sum+a.length*z.length<=16777216 then Z (.str (Txt.join z a))else J
  |_=>J
set_option tactic.hygienic true in
theorem qM:Y5 K (Yb K) PQ:=by
 intro N H z k l d Q m h e q;unfold PQ at e;split at e
 ·next g=>
  cases b:Jr g with|none=>rw[b]at e;cases e|some i=>
   rw[b]at e;obtain⟨j,e⟩:=ZV e;cases e;obtain⟨v,rfl,a,n,rfl,c,f⟩:=Paired.one' h;rw[qK b]at f;rw[Y7 f]at c;exact#[z,a,i,rfl,rfl,c,j,q _ H (Aj.refl H) PB]
 ·cases e
set_option tactic.hygienic true in
end
section
variable{s:Ab}{h':Ak}
theorem Inv.turnedL{f:U Ac}(A:Inv X pins I H s)(g:∀b∈f,FJ X pins H b)(k:∀b o,b∉f->s.heap.get? b=Z o->h'.get? b=Z o):Inv X pins I H {s with heap:=h' }:=by
 have d:∀b u,H b=Z u->b∉f:=λb u e z=>by rw[(g b z).1]at e;cases e
 refine A.step (g':=s.gens) (d':=s.drawn) (t':=s.toks) (ch:=f) (λb h=>?_) (λb o _ _ a e _=>k b o a e) (λb o _ _ a e _=>#[o.slots,k b o a e]) (λ_ _ _ _ n=>n)
  (λb o a e=>#[o,k b o a e]) (λ_ _ e=>e) (λ_ _ _ e=>e) (λb G e=>#[(T' []),by rw[e];simp]) (λm i=>?_) (λb u e=>?_) A.bare
 ·obtain⟨_,j,_,l,p,t⟩:=g b h;exact#[l,j,p,t]
 ·obtain⟨o,w,x,y,r⟩:=i;exact#[o,w,x,k _ o (λz=>(g _ z).2.1 rfl) y,r]
 ·refine(A.hok b u e).stay (λc v a q=>k c v ?_ q) (λ_ q=>q) λ_ _ q=>q;rcases a with z|z
  ·rw[z];exact d b u e
  ·exact d c _ z
theorem Inv.yielded{g:U Ac}{p:Ac}(K:Inv X pins I H s)(i:∀b∈g,FJ X pins H b)(k:∀b o,b∉g->s.heap.get? b=Z o->h'.get? b=Z o)(j:s.heap.objs.size<=p) (new:AY X.prog X.w (AK H p (.tup vs)) h' p (.tup vs)):Inv X pins I (AK H p (.tup vs)) {s with heap:=h' }:=by
 have d:∀b u,H b=Z u->b∉g:=λb u e z=>by rw[(i b z).1]at e;cases e
 have f:H p=J:=K.hok.fresh j;refine K.step (g':=s.gens) (d':=s.drawn) (t':=s.toks) (ch:=g) (λb h=>?_) (λb o _ _ a e _=>k b o a e) (λb o _ _ a e _=>#[o.slots,k b o a e]) (λb o _ e n=>?_)
  (λb o a e=>#[o,k b o a e]) (λb l e=>?_) (λb o u e=>?_) (λb F e=>#[(T' []),?_]) (λm t=>?_) (λb u e=>?_) K.bare
 ·obtain⟨_,x,_,y,A,B⟩:=i b h;exact#[y,x,A,B]
 ·rw[Zn<|BY<|BX (Bp e) j];exact n
 ·rw[Zn<|ZU e f];exact e
 ·rw[Zn<|ZU e f];exact e
 ·rw[Zn<|ZU e f,e];simp
 ·obtain⟨o,C,E,G,r⟩:=t;exact#[o,C,E,k _ o (λz=>(i _ z).2.1 rfl) G,r]
 ·by_cases h:b=p
  ·subst h;rw[ZZ]at e;cases e;exact new
  ·rw[Zn h]at e;refine(K.hok b u e).stay (λc v a q=>k c v ?_ q) (λc q=>Zn (ZU q f) ▸ q) λc l q=>Zn (ZU q f) ▸ q;rcases a with z|z
   ·rw[z];exact d b u e
   ·exact d c _ z
end
theorem qO:DY "enumerate"=Z (.type "enumerate"):=by decide +kernel
noncomputable def ER:Nat->U D->U D
 |_,[]=>[]
 |k,d::a=>.tup [.int k,d]::ER (k+1) a
theorem S5:∀(xs:U D)(k:Nat),(ER k xs).length=xs.length
 |[],_=>rfl
 |_::xs,k=>by simp[ER,S5 xs]
theorem Y8:∀(xs:U D)(k i:Nat),(ER k xs)[i]?=(xs[i]?).map λd=>D.tup [.int ((k+i:Nat):Int),d]
 |[],_,_=>by simp[ER]
 |x::xs,k,0=>by simp[ER]
 |x::xs,k,i+1=>by
  erw[ER,C0,Y8 xs];rw[show k+1+i=k+(i+1) by lia]
abbrev T3:=KT×V×V
noncomputable def DQ:U T3->U V
 |[]=>[]
 |t::r=>t.2.1::t.2.2::DQ r
noncomputable def CL:U T3->KT->O V
 |[],_=>J
 |t::r,k=>if t.1=k then Z t.2.2 else CL r k
noncomputable def Ho:U T3->KT->V->U T3
 |[],_,_=>[]
 |t::r,k,v=>(if t.1=k then(t.1,t.2.1,v)else t)::Ho r k v
def En(tr:U T3)(k:KT)(kv v:V):U T3:=if(CL tr k).isSome=J' then Ho tr k v else tr++[(k,kv,v)]
theorem Y9(k:KT)(v:V):∀tr:U T3,(Ho tr k v).map (·.1)=tr.map (·.1)
 |[]=>rfl
 |t::r=>by
  erw[Ho,Be,Y9 k v r];split<;>rfl
theorem aa{k:KT}:∀{tr:U T3},CL tr k=J->k∉tr.map (·.1)
 |[],_=>by simp
 |t::r,h=>by
  unfold CL at h;split at h
  ·cases h
  ·next e=>
   erw[Be,Bz,not_or];exact#[λz=>e z.symm,aa h]
theorem L0{tr:U T3}{k:KT}{kv v:V}(h:(tr.map (·.1)).Nodup):((En tr k kv v).map (·.1)).Nodup:=by
 unfold En;split
 ·rw[Y9];exact h
 ·next e=>
  rw[Fw,Js];refine#[h,by simp,λa c b d=>?_];have f:CL tr k=J:=by
   simp_all
  grind [aa]
theorem ac(k:KT)(v:V):∀tr:U T3,(Ho tr k v).length=tr.length
 |[]=>rfl
 |t::r=>by simp[Ho,ac k v r]
theorem ae(tr:U T3)(k:KT)(kv v:V):(En tr k kv v).length<=tr.length+1:=by
 unfold En;split
 ·rw[ac];exact Ny tr.length 1
 ·simp
theorem Hq{a:At}(h:RelV (F5 a) u):IQ a u=J':=by
 cases a with
 |non=>cases h;rfl
 |int i=>obtain⟨t,rfl⟩:=h;exact kN i t
 |str x=>obtain⟨t,rfl⟩:=h;exact kO x t
theorem qP{a:At}(h:IQ a u=J'):RelV (F5 a) u:=by
 rcases IR h with⟨rfl,rfl⟩|⟨i,t,rfl,rfl⟩|⟨x,t,rfl,rfl⟩
 ·rfl
 ·exact#[t,rfl]
 ·exact#[t,rfl]
abbrev RA:U T3->U (At×Aa)->Prop:=Paired λt u=>t.1=.at u.1/\t.2.1=F5 u.1/\RelV t.2.2 u.2
theorem af{P:AJ}{w:Ai}:∀{tr:U T3}{es:U HH},Ke w (tr.map (·.1)) (DQ tr) es->(∀t∈tr,∃a,t.1=KT.at a)->∃us,RA tr us/\Pairs (ZG P w) es us/\∀e∈es,∃k,(ZG P w).is k e.key=J'/\e.hash=(ZG P w).hash k
 |[],es,h,_=>by
  obtain⟨_,rfl⟩:=h;exact#[[],.nil,.nil,λ_ z=>nomatch z]
 |t::r,es,h,l=>by
  obtain⟨kv,v,q,e,n,c,o,f,p,g,d,s⟩:=h;obtain⟨a,m⟩:=l t Bj;erw[DQ,PR]at c;obtain⟨c,i,b⟩:=c;subst c i o b;dsimp only at g d;rw[m]at g d;obtain⟨us,u,x,y⟩:=af (P:=P) s λt A=>l t<|BG _ A;rw[d]at f;refine⟨(a,e.val)::us,.cons ⟨m,d,p⟩ u,.cons (Hq f) rfl x,λB j=>?_⟩;rcases Bz.mp j with rfl|j
  ·exact#[a,Hq f,g]
  ·exact y B j
theorem qQ{P:AJ}{w:Ai}{tr:U T3}{us:U (At×Aa)}{es:U HH}(h:RA tr us)(g:Pairs (ZG P w) es us)(a:∀e∈es,∃k,(ZG P w).is k e.key=J'/\e.hash=(ZG P w).hash k):Ke w (tr.map (·.1)) (DQ tr) es:=by
 induction h generalizing es with|nil=>cases g;exact#[rfl,rfl]|@cons t _ r _ h _ d=>
  obtain⟨b,c,f⟩:=h;cases g with
  |@cons e _ es _ p1 i j=>
   refine#[t.2.1,t.2.2,DQ r,e,es,rfl,rfl,?_,?_,?_,?_,d j λe l=>a e<|BG _ l]
   ·rw[c];exact qP p1
   ·rw[i];exact f
   ·obtain⟨k,m,n⟩:=a e Bj;have:=(ZG P w).inj _ _ _ m p1;subst this;dsimp only;rw[b];exact n
   ·dsimp only;rw[b];exact c
theorem RA.val{tr:U T3}{us:U (At×Aa)}(h:RA tr us)(a:At):Ck (CL tr (.at a)) (valueAt us a):=by
 induction h with|nil=>exact Hf|@cons t u _ _ h _ b=>
  unfold CL valueAt;rw[h.1,List.find?_cons];by_cases e:u.1=a
  ·rw[if_pos (by rw[e])];erw[e,decide_true];exact h.2.2
  ·rw[if_neg<|λz=>e<|KT.at.inj z];erw[e,decide_false];exact b
theorem Ck.isS:∀{o:O V}{u:O Aa},Ck o u->o.isSome=u.isSome
 |some _,Z _,_=>rfl
 |none,J,_=>rfl
 |some _,J,h=>h.elim
 |none,Z _,h=>h.elim
theorem RA.rep{a:At}{v:V}(d:RelV v u){tr:U T3}{us:U (At×Aa)}(h:RA tr us):RA (Ho tr (.at a) v) (us.map λkv=>if kv.1=a then(kv.1,u)else kv):=by
 induction h with|nil=>exact .nil|@cons t w _ _ h _ f=>
  refine .cons ?_ f;obtain⟨b,c,g⟩:=h;dsimp only;by_cases e:w.1=a
  ·rw[if_pos e,if_pos<|b.trans<|congrArg _ e];exact⟨b,c,d⟩
  ·rw[if_neg e,if_neg λz=>e<|KT.at.inj<|b.symm.trans z];exact⟨b,c,g⟩
theorem Paired.snoc'{a b:Type}{F:a->b->Prop}{x:a}{y:b}(h:F x y){l:U a}{m:U b}(t:Paired F l m):Paired F (l++[x]) (m++[y]):=t.snoc h
theorem qS{us:U (At×Aa)}{a:At}:(us.any λkv=>decide (kv.1=a))=(valueAt us a).isSome:=by
 unfold valueAt;grind
theorem RA.put{tr:U T3}{us:U (At×Aa)}{a:At}{v:V}(h:RA tr us)(b:RelV v u):RA (En tr (.at a) (F5 a) v) (stored us a u):=by
 unfold En stored;rw[qS,(h.val a).isS];by_cases e:(valueAt us a).isSome=J'
 ·rw[if_pos e,if_pos e];exact h.rep b
 ·rw[if_neg e,if_neg e];exact Paired.snoc' #[rfl,rfl,b] h
theorem RA.fst{tr:U T3}{us:U (At×Aa)}(h:RA tr us):tr.map (·.1)=(us.map (·.1)).map KT.at:=by
 induction h with
 |nil=>rfl
 |cons h _ a=>rw[Be,Be,Be,h.1,a]
abbrev RT:U T3->U (U At×Ac×Aa)->Prop:=Paired λt u=>t.1=.tup u.1/\t.2.1=.ref u.2.1/\RelV t.2.2 u.2.2
theorem ag{P:AJ}{w:Ai}:∀{tr:U T3}{es:U HH},Ke w (tr.map (·.1)) (DQ tr) es->(∀t∈tr,∃l,t.1=KT.tup l)->∃us,RT tr us/\es=us.map (entryOfKey (tupleKind (ZG P w)))
 |[],es,h,_=>by
  obtain⟨_,rfl⟩:=h;exact#[[],.nil,rfl]
 |t::r,es,h,f=>by
  obtain⟨kv,v,q,⟨k,m,n⟩,o,b,s,g,u,c,d,x⟩:=h;obtain⟨l,i⟩:=f t Bj;erw[DQ,PR]at b;obtain⟨b,e,a⟩:=b;subst b e s a;dsimp only at c d;rw[i]at c d;obtain⟨us,y,z⟩:=ag (P:=P) x λt A=>f t<|BG _ A;obtain⟨p,j⟩:=(d:∃p,t.2.1=.ref p);rw[j]at g;cases(g:m=B8 p);refine#[(l,p,n)::us,.cons #[i,j,u] y,?_];rw[Be,<- z];have:k=(KT.tup l).hash w:=c;rw[this];rfl
theorem qT{P:AJ}{w:Ai}{tr:U T3}(h:RT tr us):Ke w (tr.map (·.1)) (DQ tr) (us.map (entryOfKey (tupleKind (ZG P w)))):=by
 induction h with|nil=>exact#[rfl,rfl]|@cons t _ r _ h _ a=>
  refine#[t.2.1,t.2.2,DQ r,_,_,rfl,rfl,?_,h.2.2,?_,?_,a]
  ·rw[h.2.1];rfl
  ·dsimp only;rw[h.1];rfl
  ·dsimp only;rw[h.1];exact#[_,h.2.1]
theorem RT.val{tr:U T3}(h:RT tr us)(l:U At):Ck (CL tr (.tup l)) ((atKey us l).map (·.2)):=by
 induction h with|nil=>exact Hf|@cons t u _ _ h _ a=>
  unfold CL atKey;rw[h.1,List.find?_cons];by_cases e:u.1=l
  ·rw[if_pos (by rw[e])];erw[e,decide_true];exact h.2.2
  ·rw[if_neg<|λz=>e<|KT.tup.inj z];erw[e,decide_false];exact a
theorem RT.rep{l:U At}{v:V}(c:RelV v u){tr:U T3}(h:RT tr us):RT (Ho tr (.tup l) v) (us.map (putAt l u)):=by
 induction h with|nil=>exact .nil|@cons t w _ _ h _ d=>
  refine .cons ?_ d;obtain⟨a,b,f⟩:=h;unfold putAt;by_cases e:w.1=l
  ·rw[if_pos e,if_pos<|a.trans<|congrArg _ e];exact⟨a,b,c⟩
  ·rw[if_neg e,if_neg λz=>e<|KT.tup.inj<|a.symm.trans z];exact⟨a,b,f⟩
theorem RT.put{tr:U T3}{l:U At}{p:Ac}{v:V}(h:RT tr us)(a:RelV v u):RT (En tr (.tup l) (.ref p) v) (storedH us l p u):=by
 unfold En storedH;have b:=(h.val l).isS;rw[Option.isSome_map]at b;rw[b];by_cases e:(atKey us l).isSome=J'
 ·rw[if_pos e,if_pos e];exact h.rep a
 ·rw[if_neg e,if_neg e];exact Paired.snoc' #[rfl,rfl,a] h
theorem RT.fst{tr:U T3}(h:RT tr us):tr.map (·.1)=(us.map (·.1)).map KT.tup:=by
 induction h with
 |nil=>rfl
 |cons h _ a=>rw[Be,Be,Be,h.1,a]
theorem ah{c d:Type}{f:c->d}(e:∀a b,f a=f b->a=b):∀{l:U c},(l.map f).Nodup->l.Nodup
 |[],_=>List.nodup_nil
 |a::l,h=>by
  grind
def ED(K:Am)(H:Hp):KT->V->Prop
 |.at a,v=>v=F5 a
 |.tup l,v=>∃p,v=.ref p/\B0 K H p (l.map F5)
theorem ai{P:AJ}{w:Ai}:∀{a:U At}{us:U Aa},Ao (a.map F5) us->ItemsAre (ZG P w) a us
 |[],_,r=>by rw[Dh]at r;cases r;exact .nil
 |k::a,_,r=>by
  cases r with
  |cons h t=>exact .cons (Hq h)<|ai t
def Ii:KT->U T3->Prop
 |.at _,tr=>∀t∈tr,∃a,t.1=KT.at a
 |.tup _,tr=>∀t∈tr,∃l,t.1=KT.tup l
def Cw(K:Am)(H:Hp)(a:Ac)(tr:U T3):Prop:=Rd H a (.dct (tr.map (·.1)) (DQ tr))/\∀t∈tr,ED K H t.1 t.2.1
section
variable{s:Ab}{p:Ac}{y v:V}{r:Aa}{o:O V}{A:Ah}{tr:U T3}{k:KT}
theorem Jt{l:U At}(e:Inv X pins I H s)(h:B0 X.K H p (l.map F5)):(tupleKind (ZG X.prog X.w)).is s.heap l p:=by
 obtain⟨a,r,⟨o,b,c,n,d⟩,_⟩:=e.tuple h;exact#[o,a.toArray,n,b,c,d,by simpa using ai r]
theorem Nz(q:Inv X pins I H s)(h:Cw X.K H a tr)(c:∀t∈tr,∃a,t.1=KT.at a):tr.length<=Ax/\(a==Gv)=O'/\(tr.map (·.1)).Nodup/\∃us,RA tr us/\s.heap.DictOf (ZG X.prog X.w) a us:=by
 obtain⟨z,d,nd,o,f,g,i,j,k,l⟩:=h.1.ok q.hok;obtain⟨us,b,m,n⟩:=af (P:=X.prog) l c;refine#[by simpa using z,d,nd,us,b,o,f,g,i,j,k,λe p=>n e (by simpa using p),m,?_];rw[b.fst]at nd;exact ah (λ_ _ z=>KT.at.inj z) nd
theorem L1(M:Inv X pins I H s)(h:Cw X.K H a tr)(j:∀t∈tr,∃l,t.1=KT.tup l):tr.length<=Ax/\(a==Gv)=O'/\(tr.map (·.1)).Nodup/\∃us,RT tr us/\s.heap.DictOfH (tupleKind (ZG X.prog X.w)) a us:=by
 obtain⟨z,k,nd,o,n,d,r,v,y,A⟩:=h.1.ok M.hok;obtain⟨us,f,B⟩:=ag (P:=X.prog) A j;have c:=nd;rw[f.fst]at c;refine#[by simpa using z,k,nd,us,f,o,n,d,r,v,y,B,λx b=>?_,ah (λ_ _ z=>KT.tup.inj z) c];have all:∀{l:U T3} {m:U (U At×Ac×Aa)},RT l m->(∀t∈l,ED X.K H t.1 t.2.1)->∀x∈m,(tupleKind<|ZG X.prog X.w).is s.heap x.1 x.2.1:=by
  intro l m q;induction q with|nil=>intro _ x b;exact nomatch b|@cons t u F us g L C=>
   intro i x b;rcases Bz.mp b with e|b
   ·subst e;have:=i t Bj;rw[g.1,g.2.1]at this;obtain⟨p,d,E⟩:=this;cases d;exact Jt M E
   ·exact C (λt G=>i t<|BG _ G) x b
 exact all f h.2 x b
theorem Ck.to:∀{v:V}{o:O Aa},Ck (Z v) o->∃w,o=Z w/\RelV v w
 |_,Z w,h=>#[w,rfl,h]
 |_,J,h=>h.elim
theorem qU{Q:AI}(t:A.units+1<Aq)(F:Inv X pins I H s)(h:Cw X.K H a tr)(m:Ii k tr)(n:ED X.K H k y)(o:RelV y u)(r:CL tr k=Z v)(q:∀e s',Inv X pins I H s'->RelV v e->Q e s'):wpAny (Ag X.prog X.w) A (getItem (.ref a) u) Q E s:=by
 cases k with
 | «at» b=>
  cases n;obtain⟨z,hd,nd,x,c,g⟩:=Nz F h m;have f:=c.val b;rw[r]at f;obtain⟨e,i,d⟩:=f.to;exact wpAny_getItem_of (knd:=ZG X.prog X.w) (Hq o) g.mapOf i (q e _ (F.tok _) d)
 |tup l=>
  obtain⟨p,rfl,C⟩:=n;cases(show u=B8 p from o);obtain⟨z,hd,nd,x,c,g⟩:=L1 F h m;have f:=c.val l;rw[r]at f;obtain⟨e,i,d⟩:=f.to;obtain⟨B,G,j⟩:=BN.mp i;refine wpAny_getItem_heap (L3 t) (Jt F C) g G ?_;rw[j];exact q e _ (F.tok _) d
theorem aj(c:Bool){Q:AI}(i:A.units+1<Aq)(g:Inv X pins I H s)(h:Cw X.K H a tr)(j:Ii k tr)(m:ED X.K H k y)(f:RelV y u)(q:∀s',Inv X pins I H s'->Q (.bool (bif c then !(CL tr k).isSome else(CL tr k).isSome)) s'):wpAny (Ag X.prog X.w) A (Dd (bif c then .NotIn else .In) u (.ref a)) Q E s:=by
 cases k with
 | «at» b=>
  cases m;obtain⟨z,hd,nd,o,d,e⟩:=Nz g h j;rw[(d.val b).isS]at q;cases c
  ·exact wpAny_in_of (knd:=ZG X.prog X.w) (Hq f) hd e.mapOf (q _<|g.tok _)
  ·exact wpAny_notIn_of (knd:=ZG X.prog X.w) (Hq f) hd e.mapOf (q _<|g.tok _)
 |tup l=>
  obtain⟨p,rfl,n⟩:=m;cases(show u=B8 p from f);obtain⟨z,hd,nd,o,d,e⟩:=L1 g h j;rw[(d.val l).isS,Option.isSome_map]at q;cases c
  ·exact wpAny_in_heap (L3 i) (Jt g n) hd e<|q _<|g.tok _
  ·exact wpAny_notIn_heap (L3 i) (Jt g n) hd e<|q _<|g.tok _
theorem L4{h':Ak}{ob:HO}(h:Inv X pins I H s)(c:MP (H a))(d:DZ a s.heap h')(f:∃q,h'.get? a=Z q)(new:AY X.prog X.w (AK H a ob) h' a ob):Inv X pins I (AK H a ob) {s with heap:=h',toks:=t' }:=h.write (x:=a) (e:=a) c (.inl rfl) (λb q g z=>(d.2 b g).trans z) f new
def ES(tr:U T3):HO:=.dct (tr.map (·.1)) (DQ tr)
theorem S6{P:AJ}{w:Ai}{h':Ak}{us:U (At×Aa)}(z:tr.length<=Ax)(hd:(a==Gv)=O')(nd:(tr.map (·.1)).Nodup)(b:RA tr us)(dd:h'.DictOf (ZG P w) a us):AY P w H' h' a (ES tr):=by
 obtain⟨o,c,d,f,g,h,i,j,l⟩:=dd;exact#[by simpa using z,hd,nd,o,c,d,f,g,h,qQ b j λe k=>i e (by simpa using k)]
theorem S7{P:AJ}{w:Ai}{h':Ak}(z:tr.length<=Ax)(hd:(a==Gv)=O')(nd:(tr.map (·.1)).Nodup)(b:RT tr us)(dd:h'.DictOfH (tupleKind (ZG P w)) a us):AY P w H' h' a (ES tr):=by
 obtain⟨o,c,d,e,f,g,h,i,j⟩:=dd;refine#[by simpa using z,hd,nd,o,c,d,e,f,g,?_];rw[h];exact qT b
theorem ak(b:Bool)(j:A.units+1<Aq)(G:Inv X pins I H s)(e:H a=Z (ES tr))(g:∀t∈tr,ED X.K H t.1 t.2.1)(L:Ii k tr)(M:ED X.K H k y)(B:RelV y u)(x:RelV v r)(F:tr.length<Ax) (q:∀h' t',Inv X pins I (AK H a (ES (En tr k y v))) {s with heap:=h',toks:=t' }->DZ a s.heap h'->Q () {s with heap:=h',toks:=t' }):wpAny (Ag X.prog X.w) (bif b then A.in1 else A) (bif b then dictSet a u r else setItem (.ref a) u r) Q E s:=by
 have i:(En tr k y v).length<=Ax:=by have:=ae tr k y v;lia
 cases k with
 | «at» c=>
  cases M;obtain⟨z,hd,nd,C,f,n⟩:=Nz G #[.inl e,g] L;have o:C.length<=Ax:=Gu f ▸ z;cases b
  ·exact wpAny_setItem_pairs (knd:=ZG X.prog X.w) (hsz:=o) (Hq B) n λh' d h=>q _ _ (L4 G (e ▸ Hf) h (let⟨q,_,_,m,_⟩:=d;#[q,m]) (S6 i hd (L0 nd) (f.put x) d)) h
  ·exact wpAny_dictSet_pairs (knd:=ZG X.prog X.w) (hsz:=o) (Hq B) n λh' d h=>q _ _ (L4 G (e ▸ Hf) h (let⟨q,_,_,m,_⟩:=d;#[q,m]) (S6 i hd (L0 nd) (f.put x) d)) h
 |tup l=>
  obtain⟨p,rfl,N⟩:=M;cases(show u=B8 p from B);obtain⟨z,hd,nd,C,f,n⟩:=L1 G #[.inl e,g] L;have o:C.length<=Ax:=Gu f ▸ z;cases b
  ·exact wpAny_setItem_heap (hsz:=o) (L3 j) (Jt G N) n λh' d h=>q _ _ (L4 G (e ▸ Hf) h (let⟨q,_,_,m,_⟩:=d;#[q,m]) (S7 i hd (L0 nd) (f.put x) d)) h
  ·exact wpAny_dictSet_heap (hsz:=o) (L3 j) (Jt G N) n λh' d h=>q _ _ (L4 G (e ▸ Hf) h (let⟨q,_,_,m,_⟩:=d;#[q,m]) (S7 i hd (L0 nd) (f.put x) d)) h
end
end L2
namespace PySem
section
variable{prog:AJ}{w:Ai}{K:Type}[DecidableEq K]{knd:HeapKind prog w K}{A:Ah}{s:Ab}
theorem qV{d:Ac}{xs:U (K×Ac×Aa)}{k:K}{v:Aa}{Q:AI}(l:knd.room A)(b:knd.is s.heap k a)(r:s.heap.DictOfH knd d xs)(hsz:xs.length<=Ax)
  (t:∀p,atKey xs k=Z p->Q p.2 {s with toks:=s.toks+knd.draws k})
  (u:atKey xs k=J->∀h',h'.DictOfH knd d (storedH xs k a v)->DZ d s.heap h'->Q v {s with heap:=h',toks:=s.toks+knd.draws k}):
  wpAny (Ag prog w) A (dictSetDefault d (.ref a) v) Q E s:=by
 obtain⟨o,B,y,f,z,hd,i,h,m⟩:=r
 unfold dictSetDefault
 try with_reducible refine FH ?_
 refine Al (knd.pyHash l b ?_)
 refine Al (wpAny_dictFind_heap (s:={s with toks:=s.toks+knd.draws k}) l b f hd i h m ?_ ?_)
 ·intro c
  have n:k∉xs.map (·.1):=not_mem_keys_of_get c
  refine Al (Ja (Al (wpAny_updateDictKeys (hz:=by have e:=size_of_entries i;lia) (s:={s with toks:=s.toks+knd.draws k}) f hd (AQ (u (atKey_none_of_get c) _ #[_,_,y+1,M6 _ f (Obj.isFreed_of_dict (Obj.data_mapDictKeys hd _)),
   z.mapDictKeys _,Obj.data_mapDictKeys hd _,?_,?_,?_] (L5 ..))))))
  ·rw[storedH_new (atKey_none_of_get c)]
   simp[i,entryOfKey]
  ·rw[storedH_new (atKey_none_of_get c)]
   intro x g
   rcases Cm.mp g with g|g
   ·exact knd.keeps (h x g) f hd (L5 ..)
   ·erw[CP]at g
    subst g
    exact knd.keeps b f hd (L5 ..)
  ·rw[storedH_new (atKey_none_of_get c)]
   grind [Fw,Js,Be,Dh,CP]
 ·intro j p q
  refine Al (wpAny_dictEntries (s:={s with toks:=s.toks+knd.draws k}) f hd ?_)
  rw[entry_at i j,q]
  exact Al (Ja (AQ (t p (atKey_of_get m q))))
theorem qW{k:K}(d:Ac)(hd:(d==Gv)=O')(dflt:Aa):MeetsIn prog w (Ex.«dict.setdefault» #[[.ref d,.ref a,dflt],[]]) (λA R s=>knd.room A.in1/\∃xs,knd.is s.heap k a/\s.heap.DictOfH knd d xs/\xs.length<=Ax/\(∀p,atKey xs k=Z p->R (.ok (.ret p.2)) {s with toks:=s.toks+knd.draws k})/\(atKey xs k=J->∀h',h'.DictOfH knd d (storedH xs k a dflt)->DZ d s.heap h'->R (.ok (.ret dflt)) {s with heap:=h',toks:=s.toks+knd.draws k})):=.of_wp λA R s g=>by
  obtain⟨h,xs,b,f,i,j,l⟩:=g;refine Al ?_;refine Al<|wpAny_notOrdered_dict f.typeIs ?_;refine AQ ?_;show wpAny _ _ (if(d==Gv)=J' then _ else(dictSetDefault d (.ref a) dflt >>= _)) _ _ s
  rw[if_neg<|hd ▸ MO];exact Al<|qV h b f i (λp m=>AQ #[p.2,rfl,j p m]) λn h' c e=>AQ #[dflt,rfl,l n h' c e]
end
end PySem
namespace L2
open PySem PySem.Spec PyProof.Rows
def am(K:Am):R2:=λx y H Q=>∃a tr k v,x=.ref a/\Cw K H a tr/\Ii k tr/\ED K H k y/\CL tr k=Z v/\Q v H
def S8(K:Am)(neg:Bool):R2:=λx y H Q=>∃a tr k,y=.ref a/\Cw K H a tr/\Ii k tr/\ED K H k x/\Q (.bl (neg != (CL tr k).isSome)) H
def qX(K:Am):O5:=λo i v H Q=>∃a tr k,o=.ref a/\H a=Z (ES tr)/\(∀t∈tr,ED K H t.1 t.2.1)/\Ii k tr/\ED K H k i/\tr.length<Ax/\Q (AK H a (ES (En tr k i v)))
def qY(K:Am):V->U V->Hp->VK->Prop:=λx b H Q=>∃a tr k y z,x=.ref a/\b=[y,z]/\H a=Z (ES tr)/\(∀t∈tr,ED K H t.1 t.2.1)/\Ii k tr/\ED K H k y/\tr.length<Ax /\
 (∀v,CL tr k=Z v->Q v H)/\(CL tr k=J->Q z (AK H a (ES (En tr k y z))))
theorem Cw.typeIs{b:AR}{s:Ab}{tr:U T3}(d:Inv X b I H s)(h:Cw X.K H a tr):s.TypeIs (.ref a) "dict":=by
 obtain⟨_,_,_,o,_,_,e,c,_⟩:=h.1.ok d.hok;exact#[o,e,c.1]
section
theorem qZ(o:X.A.units+64<Aq):GF X (am X.K):=by
 rintro b slice c s f H x y v u Q B g h ⟨a,tr,k,z,rfl,hd,i,j,l,q⟩ m;cases g;refine Al ?_;refine Al<|wpAny_specialOf (hd.typeIs B) PySem.F.slot_dict_getitem.lookup ?_;have fin:wpAny (Ag X.prog X.w) X.A (subscripted slice O' (.ref a) u) (λr d=>wpAny (Ag X.prog X.w) X.A (letTemporaryGo b (.ref a) r >>= λ_=>Ay r) (EP X c f Q) X.xe d) X.xe s:=by
  rw[m];exact wpAny_operating<|qU (by lia) B hd i j h l λp t n e=>Al<|wpAny_letTemporaryGo<|AQ ⟨z,H,n,e,q⟩
 exact AQ<|Al fin
theorem ao(h:X.A.units+64<Aq):BU X (Dd .In) (S8 X.K O'):=by
 rintro b s i H x y v u Q l c d ⟨a,tr,k,rfl,hd,e,f,q⟩;cases d;exact aj O' (by lia) l hd e f c λj g=>#[.bl (CL tr k).isSome,H,g,rfl,by simpa using q]
theorem q0(h:X.A.units+64<Aq):BU X (Dd .NotIn) (S8 X.K J'):=by
 rintro b s i H x y v u Q l c d ⟨a,tr,k,rfl,hd,e,f,q⟩;cases d;exact aj J' (by lia) l hd e f c λj g=>#[.bl<|!(CL tr k).isSome,H,g,rfl,by simpa using q]
theorem ap(n:X.A.units+64<Aq):R9 X (qX X.K):=by
 rintro c s p H o i v r t u Q y d f g ⟨a,tr,k,rfl,e,b,h,j,l,q⟩;cases d;exact ak O' (by lia) y e b h j f g l λw x m _=>#[_,m,q]
theorem q5(hu:X.A.units+64<Aq):M5 X "dict.setdefault" (qY X.K):=by
 rintro L s I H x xs v i Q W rx rs ⟨a,tr,k,y,z,rfl,rfl,e,j,M,N,hl,R,T⟩
 cases rx
 obtain⟨u1,S,rfl,Y,r⟩:=rs.two
 have m:(En tr k y z).length<=Ax:=by have:=ae tr k y z;exact BR this hl
 cases k with
 | «at» b=>
  cases N
  obtain⟨t,n,nd,i,d,o⟩:=Nz W #[.inl e,j] M
  have c:=d.val b
  refine call_meetsIn aq o.typeIs PySem.F.entry_dict_setdefault (PySem.F.args_dict_setdefault_3 _ _ _) (kt_meets_setdefault (ZG X.prog X.w) a (Hq Y) n S)
   #[i,o,(show i.length<=Ax by rw[<- Gu d];exact t),λv' u=>?_,λB C g h=>?_]
  ·rw[u]at c
   cases f:CL tr (.at b)with
   |none=>rw[f]at c;exact c.elim
   |some w=>rw[f]at c;exact#[w,H,W.tok _,c,R w f]
  ·rw[B]at c
   cases f:CL tr (.at b)with
   |some w=>rw[f]at c;exact c.elim
   |none=>
    have E:∃q,C.get? a=Z q:=let⟨q,_,_,G,_⟩:=g;#[q,G]
    exact#[z,_,L4 W (e ▸ Hf) h E (S6 m n (L0 nd) (d.put r) g),r,T f]
 |tup l=>
  obtain⟨p,rfl,sq⟩:=N
  cases(show u1=B8 p from Y)
  obtain⟨t,n,nd,i,d,o⟩:=L1 W #[.inl e,j] M
  have c:=d.val l
  refine call_meetsIn aq o.typeIs PySem.F.entry_dict_setdefault (PySem.F.args_dict_setdefault_3 _ _ _) (qW (knd:=tupleKind (ZG X.prog X.w)) (k:=l) a n S)
   #[L3 (by lia),i,Jt W sq,o,(show i.length<=Ax by rw[<- Gu d];exact t),λp' P=>?_,λB C g h=>?_]
  ·rw[P]at c
   cases f:CL tr (.tup l)with
   |none=>rw[f]at c;exact c.elim
   |some w=>rw[f]at c;exact#[w,H,W.tok _,c,R w f]
  ·rw[B]at c
   cases f:CL tr (.tup l)with
   |some w=>rw[f]at c;exact c.elim
   |none=>
    have E:∃q,C.get? a=Z q:=let⟨q,_,_,G,_⟩:=g;#[q,G]
    exact#[z,_,L4 W (e ▸ Hf) h E (S7 m n (L0 nd) (d.put r) g),r,T f]
theorem Inv.big(b:Inv X pins I H s):Gv<s.heap.objs.size:=by
 exact HX (by ext)<|(b.mod.glob.keeps b.bk).lt
theorem Ij:PE X (.Dict [] [] pos) (λ_ H Q=>∀p,H p=J->Q (.ref p) (AK H p (ES []))):=λb s c H Q d h=>wpAny_Dict_empty #[.ref s.heap.objs.size,_,d.laid (a:=s.heap.objs.size) (o:=ES []) (t':=s.toks) (λ_ _ q=>Bn _ q) (Bc _) #[F8 _,beq_eq_false_iff_ne.mpr<|Bv<|BY d.big,List.nodup_nil,_,(T' []),0,B2 _ rfl,⟨rfl,rfl,rfl⟩,rfl,rfl,rfl],rfl,h _<|d.hok.fresh<|Bc _]
end
noncomputable def NA:D->O At
 |.non=>Z .non
 |.int i=>Z (.int i)
 |.str x=>Z (.str x)
 |_=>J
noncomputable def L6:U D->O (U At)
 |[]=>Z []
 |d::r=>(NA d).bind λa=>(L6 r).map (a::·)
def Ds:D->O KT
 |.tup l=>(L6 l).map KT.tup
 |d=>(NA d).map KT.at
noncomputable def aD:At->D
 |.non=>.non
 |.int i=>.int i
 |.str x=>.str x
def kD:KT->D
 |.at a=>aD a
 |.tup l=>.tup (l.map aD)
theorem ar{d:D}{a:At}(h:NA d=Z a):d=aD a:=by
 unfold NA at h;split at h<;>cases h<;>rfl
theorem au:∀{l:U D}{b:U At},L6 l=Z b->l=b.map aD
 |[],_,h=>by cases h;rfl
 |d::r,b,h=>by
  obtain⟨a,c,h⟩:=BI.mp h;obtain⟨bs,e,h⟩:=BN.mp h;cases h;rw[Be,<- ar c,<- au e]
set_option tactic.hygienic true in
theorem Ju{d:D}{k:KT}(h:Ds d=Z k):d=kD k:=by
 unfold Ds at h;split at h
 ·next l=>
  obtain⟨c,b,h⟩:=BN.mp h;cases h;rw[au b];rfl
 ·obtain⟨a,b,h⟩:=BN.mp h;cases h;rw[ar b];rfl
theorem q8(a:At):NA (aD a)=Z a:=by cases a<;>rfl
theorem aw:∀(l:U At),L6 (l.map aD)=Z l
 |[]=>rfl
 |a::l=>by rw[Be];unfold L6;rw[q8,aw l];rfl
@[simp] theorem NB(k:KT):Ds (kD k)=Z k:=by
  cases k with
  | «at» a=>cases a<;>rfl
  |tup l=>show(L6<|l.map aD).map KT.tup=_;rw[aw];rfl
@[simp] theorem ZFh:Ds .non=Z (.at .non):=rfl
@[simp] theorem ZFn(i:Int):Ds (.int i)=Z (.at (.int i)):=rfl
@[simp] theorem ZFo(x:Ae):Ds (.str x)=Z (.at (.str x)):=rfl
theorem q9(a:At):Sy (aD a)=a:=by cases a<;>rfl
theorem ra(k:KT):Na (kD k)=k:=by
 cases k with
 | «at» a=>cases a<;>rfl
 |tup l=>
  unfold kD Na;induction l<;>grind [q9]
abbrev Br:=U (KT×D)
variable{kvs:Br}
noncomputable def Zb:Br->U D
 |[]=>[]
 |p::r=>kD p.1::p.2::Zb r
noncomputable def EE:U D->O Br
 |[]=>Z []
 |k::v::r=>(Ds k).bind λa=>(EE r).map ((a,v)::·)
 |_=>J
@[simp] theorem Ik:∀kvs:Br,EE (Zb kvs)=Z kvs
  |[]=>rfl
  |p::r=>by unfold Zb EE;rw[NB,Ik r];rfl
@[simp] theorem ZFi:EE []=Z []:=rfl
theorem GQ:∀{xs:U D}{kvs:Br},EE xs=Z kvs->xs=Zb kvs
 |[],_,h=>by cases h;rfl
 |[_],_,h=>by cases h
 |k::v::r,kvs,h=>by
  obtain⟨c,a,h⟩:=BI.mp h;obtain⟨q,b,h⟩:=BN.mp h;cases h;unfold Zb;rw[<- Ju a,<- GQ b]
theorem S9:∀kvs:Br,Jk (Zb kvs)=kvs.map (·.1)
 |[]=>rfl
 |p::r=>by unfold Zb Jk;rw[ra,S9 r];rfl
noncomputable def Zt:Br->KT->O D
 |[],_=>J
 |t::r,k=>if t.1=k then Z t.2 else Zt r k
noncomputable def Fc:Br->KT->D->Br
 |[],_,_=>[]
 |t::r,k,v=>(if t.1=k then(t.1,v)else t)::Fc r k v
def Z4(kvs:Br)(k:KT)(v:D):Br:=if(Zt kvs k).isSome=J' then Fc kvs k v else kvs++[(k,v)]
noncomputable def Fd:KT->Bool
 |.at _=>J'
 |_=>O'
noncomputable def Dy(k:KT)(kvs:Br):Bool:=kvs.all λp=>Fd p.1==Fd k
section
variable{K:Am}{N:Fb}
abbrev PD(K:Am)(N:Fb)(H:Hp):Br->U T3->Prop:=Paired λp t=>p.1=t.1/\Ar K N H (kD p.1) t.2.1/\Ar K N H p.2 t.2.2
theorem ax{a:At}{v:V}(h:Ar K N H (aD a) v):v=F5 a:=by cases a<;>simpa only[aD,Ar,F5]using h
theorem ay:∀{l:U At}{vs:U V},Ad K N H (l.map aD) vs->vs=l.map F5
 |[],_,h=>by simpa only[Dh,Ad]using h
 |a::l,vs,h=>by
  obtain⟨v,r,e,b,c⟩:=h;rw[e,ax b,ay c];rfl
theorem Jv{k:KT}{v:V}(h:Ar K N H (kD k) v):ED K H k v:=by
 cases k with| «at» a=>exact ax h|tup l=>
  obtain⟨p,d,e,b,c⟩:=h;rw[ay c]at b;exact#[p,e,b]
theorem Il{k:KT}{v:V}(h:Aw K N H (kD k) v):Ar K N H (kD k) v:=by
 cases k with
 | «at» a=>cases a<;>exact h
 |tup l=>exact h
theorem NC:∀{kvs:Br}{vs:U V},Ad K N H (Zb kvs) vs->∃tr,vs=DQ tr/\PD K N H kvs tr
 |[],vs,h=>#[[],by simpa only[Zb,Ad,DQ]using h,.nil]
 |p::r,vs,h=>by
  obtain⟨v,t,e,a,b,i,c,d,f⟩:=h;obtain⟨tr,g,q⟩:=NC f;exact#[(p.1,v,b)::tr,by rw[e,c,g];rfl,.cons #[rfl,a,d] q]
theorem PD.flat{tr:U T3}(h:PD K N H kvs tr):Ad K N H (Zb kvs) (DQ tr):=by
 induction h with
 |nil=>exact Ad.nil
 |cons h _ a=>exact Ad.cons h.2.1<|Ad.cons h.2.2 a
theorem PD.fst{tr:U T3}(h:PD K N H kvs tr):kvs.map (·.1)=tr.map (·.1):=by
 induction h with
 |nil=>rfl
 |cons h _ a=>rw[Be,Be,h.1,a]
theorem PD.keys{tr:U T3}(h:PD K N H kvs tr):∀t∈tr,ED K H t.1 t.2.1:=by
 induction h with|nil=>exact λ_ h=>nomatch h|cons h _ b=>
  intro x a;rcases Bz.mp a with rfl|a
  ·rw[<- h.1];exact Jv h.2.1
  ·exact b x a
def KJ(K:Am)(N:Fb)(H:Hp):O D->O V->Prop
 |some d,Z v=>Ar K N H d v
 |none,J=>True
 |_,_=>False
theorem PD.val{tr:U T3}(h:PD K N H kvs tr)(k:KT):KJ K N H (Zt kvs k) (CL tr k):=by
 induction h with|nil=>exact Hf|cons h _ a=>
  unfold Zt CL;rw[h.1];split
  ·exact h.2.2
  ·exact a
theorem KJ.isS:∀{o:O D}{u:O V},KJ K N H o u->o.isSome=u.isSome
 |some _,Z _,_=>rfl
 |none,J,_=>rfl
 |some _,J,h=>h.elim
 |none,Z _,h=>h.elim
theorem PD.rep{k:KT}{d:D}{v:V}(hd:Ar K N H d v){tr:U T3}(h:PD K N H kvs tr):PD K N H (Fc kvs k d) (Ho tr k v):=by
 induction h with|nil=>exact .nil|cons h _ a=>
  unfold Fc Ho;rw[h.1];refine .cons ?_ a;split
  ·exact#[rfl,h.1 ▸ h.2.1,hd]
  ·exact h
theorem PD.put{tr:U T3}{k:KT}{d:D}{kv v:V}(h:PD K N H kvs tr)(a:Ar K N H (kD k) kv)(hd:Ar K N H d v):PD K N H (Z4 kvs k d) (En tr k kv v):=by
 unfold Z4 En;rw[(h.val k).isS];split
 ·exact h.rep hd
 ·exact Paired.snoc' #[rfl,a,hd] h
theorem PD.hom{k:KT}:∀{kvs:Br}{tr:U T3},PD K N H kvs tr->Dy k kvs=J'->Ii k tr
 |_,_,.nil,_=>by cases k<;>exact λ_ h=>nomatch h
 |p::kvs,t::tr,.cons ⟨g,_,_⟩ r,e=>by
  erw[Dy,LS,C4]at e;have f:=PD.hom (k:=k) r e.2;have d:=e.1;rw[g]at d;cases k with
  | «at» a=>
   intro x c;rcases Bz.mp c with rfl|c
   ·cases c:x.1 with
    | «at» b=>exact#[b,rfl]
    |tup l=>rw[c]at d;cases d
   ·exact f x c
  |tup l=>
   intro x c;rcases Bz.mp c with rfl|c
   ·cases c:x.1 with
    | «at» b=>rw[c]at d;cases d
    |tup l=>exact#[l,rfl]
   ·exact f x c
theorem Jw(h:Rd H a (.dct (Jk (Zb kvs)) vs))(hd:Ad K N H (Zb kvs) vs):∃tr,Cw K H a tr/\PD K N H kvs tr:=by
 obtain⟨tr,rfl,p⟩:=NC hd;rw[S9,p.fst]at h;exact#[tr,#[h,p.keys],p]
theorem KN{tr:U T3}(p:PD K N H kvs tr):CO K .d a (Zb kvs) (DQ tr)=ES tr:=by
 unfold CO ES;rw[S9,p.fst]
end
def DR:D->D->O D
 |.lst b .d,y=>(EE b).bind λa=>(Ds y).bind λk=>if Dy k a then Zt a k else J
 |_,_=>J
@[simp] theorem az(kvs:Br)(y:D):DR (.lst (Zb kvs) .d) y=(Ds y).bind λk=>if Dy k kvs then Zt kvs k else J:=by simp[DR]
@[simp] theorem ZEb(y:D):DR (.lst [] .d) y=(Ds y).bind λk=>J:=by simp[DR,Zt]
def DG(neg:Bool):D->D->O D
 |y,.lst b .d=>(EE b).bind λa=>(Ds y).bind λk=>if Dy k a then Z (.bl (neg != (Zt a k).isSome))else J
 |_,_=>J
@[simp] theorem PU(neg:Bool)(kvs:Br)(y:D):DG neg y (.lst (Zb kvs) .d)=(Ds y).bind λk=>if Dy k kvs then Z (.bl (neg != (Zt kvs k).isSome))else J:=by simp[DG]
@[simp] theorem ZEc(neg:Bool)(y:D):DG neg y (.lst [] .d)=(Ds y).bind λk=>Z (.bl neg):=by simp[DG,Zt,Dy]
section
variable{K:Am}{M:Fb}{e a b:Expr}{f g:AD}
set_option tactic.hygienic true in
theorem rb:Dj K (am K) DR:=by
 intro N H x y s i d Q t f g e q;unfold DR at e;split at e
 ·next u=>
  obtain⟨j,l,e⟩:=BI.mp e;cases b:Ds i with|none=>rw[b]at e;cases e|some k=>
   rw[b]at e;obtain⟨m,e⟩:=ZV e;rw[GQ l]at f;obtain⟨p,v,n,r,hd⟩:=f;obtain⟨tr,o,h⟩:=Jw r hd;rw[Ju b]at g;have a:=h.val k;rw[e]at a;cases c:CL tr k with
   |none=>rw[c]at a;exact a.elim
   |some w=>rw[c]at a;exact#[p,tr,k,w,n,o,h.hom m,Jv<|Il g,c,q w H (Aj.refl H) a]
 ·cases e
set_option tactic.hygienic true in
theorem Ta{neg:Bool}:Dj K (S8 K neg) (DG neg):=by
 intro N H x y g n d Q o b c e q;unfold DG at e;split at e
 ·next s=>
  obtain⟨h,i,e⟩:=BI.mp e;cases a:Ds g with|none=>rw[a]at e;cases e|some k=>
   rw[a]at e;obtain⟨j,e⟩:=ZV e;cases e;rw[GQ i]at c;obtain⟨p,t,l,r,hd⟩:=c;obtain⟨tr,m,f⟩:=Jw r hd;rw[Ju a]at b;refine#[p,tr,k,l,m,f.hom j,Jv<|Il b,?_];rw[<- (f.val k).isS];exact q _ H (Aj.refl H) FP
 ·cases e
theorem re(e:X.A.units+64<Aq)(c:JE X a (tP X.K M H0 f))(d:JE X b (tP X.K M H0 g))(i:LA b):JE X (.Subscript a b pos) (tD X.K M H0 (Za DR f g)):=#[have c:=c.h;have d:=d.h;Yj (qZ e) rb c d i]
theorem rf(e:X.A.units+64<Aq)(c:JE X a (tP X.K M H0 f))(d:JE X b (tP X.K M H0 g))(i:F7 .In b=O':=by with_unfolding_all rfl):JE X (.Compare a [.In] [b] pos) (tD X.K M H0 (Za (DG O') f g)):=#[have c:=c.h;have d:=d.h;Po (ao e) Ta c d i]
theorem rg(e:X.A.units+64<Aq)(c:JE X a (tP X.K M H0 f))(d:JE X b (tP X.K M H0 g))(i:F7 .In b=O':=by with_unfolding_all rfl):JT X (.Compare a [.In] [b] pos) (BH X.K M H0 λρ=>AL (Za (DG O') f g ρ)):=#[have c:=c.h;have d:=d.h;H9 (ao e) Ta c d i]
theorem rh(e:X.A.units+64<Aq)(c:JE X a (tP X.K M H0 f))(d:JE X b (tP X.K M H0 g))(i:F7 .NotIn b=O':=by with_unfolding_all rfl):JT X (.Compare a [.NotIn] [b] pos) (BH X.K M H0 λρ=>AL (Za (DG J') f g ρ)):=#[have c:=c.h;have d:=d.h;H9 (q0 e) Ta c d i]
theorem ri:JE X (.Dict [] [] pos) (EO .d K M H0 λ_=>Z []):=#[Ij.mono λf H Q a p b=>by
 obtain⟨g,c,R,e,q⟩:=a;cases e;exact Nb (xs:=[]) (vs:=[]) (fl:=.d) (Aj.refl H) b Ad.nil q]
def KO(i:Nat)(ok b:O D)(ρ:VE):DP:=match LL ρ i,ok,b with
 |some c,Z y,Z d=>match EE c,Ds y with
  |some a,Z k=>if Dy k a&&decide (a.length<Ax)then .next (ρ.set i (.own (Zb (Z4 a k d)) .d))else .fail
  |_,_=>.fail
 |_,_,_=>.fail
set_option tactic.hygienic true in
theorem rj{i:Nat}{x:Ae}{b c:AC}{j e:Expr}{fi f:AD}(T:X.A.units+64<Aq)(p:JE X j (tP X.K M H0 fi))(r:JE X e (tD X.K M H0 f))(S:NV X i x:=by exact EM) (Y:∀v,assign (.Subscript (.Name x b) j c) X.env v=(do
   let o <- Dw [v] (An (.Name x b) X.env);let s <- Dw [v,o] (An j X.env);standAt c
   Dw [v,o,s] (setItem o s v)
   release [v,o,s] []):=by intro _;rfl) (hs:swapsWithSole [.Subscript (.Name x b) j c] e pos.line X.env=Ay O':=by rfl) (m:swappedStores [.Subscript (.Name x b) j c] e X.env=Ay J:=by rfl) (h1:(FG [.Subscript (.Name x b) j c] X.env).map (·.2)=[assign (.Subscript (.Name x b) j c) X.env]:=by rfl):JS X (.Assign [.Subscript (.Name x b) j c] e pos) (tS X.K M H0 λρ=>KO i (fi ρ) (f ρ) ρ):=#[have p:=p.h;have r:=r.h;(O7 r (O6 (Ga S) p (ap T) Y) hs m h1).mono λD' I H z0=>by
 obtain⟨ρ,R,q⟩:=z0;try dsimp only at q
 unfold KO at q;split at q
 ·next xs y d E t hf=>
  split at q
  ·next u k z hk=>
   split at q
   ·next B=>
    rw[C4,decide_eq_true_eq]at B;refine#[ρ,d,R,hf,λv H1 G hv=>?_];have C:=R.st G;have ex:=GQ z;subst ex;obtain⟨a,vs,W,z1,z2,F,L⟩:=C.slot i _<|Pt E;refine⟨.ref a,(ZN W),ρ,y,C,t,λw H2 l m=>?_⟩;obtain⟨tr,dc,pd⟩:=Jw (K:=X.K) (.inl<|l _ _ F) (L.same l);obtain⟨n,rfl,g⟩:=NC<|L.same l;rw[Ju hk]at m;have N:=g.put (k:=k) (Il m) (hv.same l);obtain⟨P,Q⟩:=(C.st l).chg (fl2:=.d) (ys:=Zb<|Z4 u k d) (ws:=DQ<|En n k w v) (Pt E) (ZN W) N.flat;rw[KN N]at P Q;refine⟨a,n,k,rfl,?_,g.keys,g.hom B.1,Jv<|Il m,Gu g ▸ B.2,q _ _ P<|(Step.of_same<|G.trans l).trans Q⟩;rw[<- KN g];exact l _ _ F
   ·exact BS q
  ·exact BS q
 ·exact BS q]
end
theorem aA(k:KT)(v:D)(k':KT):∀kvs:Br,Zt (Fc kvs k v) k'=if k=k' then(Zt kvs k').map (λ_=>v)else Zt kvs k'
 |[]=>by simp[Fc,Zt]
 |t::r=>by
  have a:=aA k v k' r;grind [Fc,Zt]
theorem aB(k:KT):∀(a b:Br),Zt (a++b) k=match Zt a k with|some v=>Z v|none=>Zt b k
 |[],b=>by simp[Zt]
 |t::r,b=>by
  have c:=aB k r b;grind [Zt]
theorem Tb(kvs:Br)(k:KT)(v:D)(k':KT):Zt (Z4 kvs k v) k'=if k=k' then Z v else Zt kvs k':=by
 unfold Z4;by_cases h:(Zt kvs k).isSome=J'
 ·rw[if_pos h,aA];by_cases e:k=k'
  ·subst e;cases a:Zt kvs k with
   |none=>rw[a]at h;cases h
   |some w=>rfl
  ·rw[if_neg e,if_neg e]
 ·grind [aB,Zt]
theorem aC{k:KT}{v:D}{p:KT×D}:∀{kvs:Br},p∈Fc kvs k v->p∈kvs\/p=(k,v)
 |[],h=>nomatch h
 |t::r,h=>by
  rcases Bz.mp h with a|h
  ·grind [Bj]
  ·rcases aC h with h|h
   ·exact .inl<|BG _ h
   ·exact .inr h
theorem rk{k:KT}{v:D}{p:KT×D}(h:p∈Z4 kvs k v):p∈kvs\/p=(k,v):=by grind [Z4,aC]
theorem aE(k:KT)(v:D):∀kvs:Br,(Fc kvs k v).length=kvs.length
 |[]=>rfl
 |t::r=>by simp[Fc,aE k v r]
theorem rl(kvs:Br)(k:KT)(v:D):(Z4 kvs k v).length<=kvs.length+1:=by
 unfold Z4;split
 ·rw[aE];exact Ny (IX kvs) 1
 ·simp
theorem PV(a:At)(h:∀p∈kvs,Fd p.1=J'):Dy (.at a) kvs=J':=by
 unfold Dy;rw[Ec];intro p b;rw[h p b];rfl
theorem KP(l:U At)(h:∀p∈kvs,Fd p.1=O'):Dy (.tup l) kvs=J':=by
 unfold Dy;rw[Ec];intro p a;rw[h p a];rfl
def tX(K:Am)(M:Fb)(H0:Hp)(f:VE->O (D×VE)):TE:=λb H Q=>∃e d a,Bl K M H0 e b H/\f e=Z (d,a) /\
 ∀v c,Bl K M H0 a b c->Step M (Nf M e b) (Nf M a b) H c->Ar K (Nf M a b) c d v->Q v c
def aF(K:Am)(M:Fb)(H0:Hp)(t:VE->O (Bool×VE)):TT:=λc H Q=>∃d b a,Bl K M H0 d c H/\t d=Z (b,a) /\
 ∀e,Bl K M H0 a c e->Step M (Nf M d c) (Nf M a c) H e->Q b e
def ND(i:Nat)(c e:AD):VE->O (D×VE):=λb=>match LL b i,c b,e b with
 |some f,Z y,Z d=>match EE f,Ds y with
  |some a,Z k=>if Dy k a&&decide (a.length<Ax)then
    (match Zt a k with
    |some v=>Z (v,b)
    |none=>Z (d,b.set i (.own (Zb (Z4 a k d)) .d)))
   else J
  |_,_=>J
 |_,_,_=>J
section
variable{K:Am}{M:Fb}{e a b ek ev:Expr}{f g fk fv:AD}
set_option tactic.hygienic true in
theorem aG{i:Nat}{x:Ae}{e g c:AC}(hu:X.A.units+64<Aq)(z:JE X ek (tP X.K M H0 fk))(j:JE X ev (tD X.K M H0 fv))(hN:NV X i x:=by exact EM) (l:GA (.Name x e) "setdefault" X.env (An (.Name x e) X.env)=An (.Name x e) X.env:=by rfl) (p:((As c (Az [ek,ev] X.env)).all (λx=>!x.1)&&(GB c (GC [] X.env)).all (λx=>x.1.isSome) && decide ([ek,ev].length+([]:U Ev).length+(if([]:U Ev).isEmpty then 0 else 1)<30))=J':=by rfl) (m:(g.endLine==c.line)=J':=by rfl) (r:Az [ek,ev] X.env=(O',An ek X.env)::Az [ev] X.env:=by exact ZI rfl) (t:Az [ev] X.env=(O',An ev X.env)::Az [] X.env:=by exact ZI rfl) (B:(As c (Az [ev] X.env)).any (·.1)=O':=by rfl):JE X (.Call (.Attribute (.Name x e) "setdefault" g) [ek,ev] [] c) (tX X.K M H0 (ND i fk fv)):=#[have z:=z.h;have j:=j.h;(Ku PySem.F.plainAttrs_dict aq PySem.F.type_dict_setdefault (q5 hu) (Ga hN) (Eu z (Eu j Bk t) r) l p m r B).mono λI H Q z0=>by
  obtain⟨Y,d,ρ',R,ex,q⟩:=z0;unfold ND at ex;split at ex
  ·next xs y dv hr C E=>
   split at ex
   ·next n k G zA=>
    obtain⟨P,ex⟩:=ZV ex;rw[C4,decide_eq_true_eq]at P;have L:=GQ G;subst L;obtain⟨a,vs,e1,z1,z2,z3,z4⟩:=R.slot i _<|Pt hr;refine⟨.ref a,(ZN e1),(.inr<|.inr ⟨rfl,_,_,.inl z3⟩),Y,y,R,C,λw H1 s1 N=>⟨Y,dv,R.st s1,E,λv H2 S hv=>?_⟩⟩;have s:=s1.trans S;obtain⟨tr,rfl,o⟩:=NC<|z4.same s;rw[Ju zA]at N;have b:=o.val k;refine#[a,tr,k,w,v,rfl,rfl,?_,o.keys,o.hom P.1,Jv<|Il<|N.same S,Gu o ▸ P.2,λu T=>?_,λhn=>?_]
    ·rw[<- KN o];exact s _ _ z3
    ·rw[T]at b;cases f:Zt n k with|none=>rw[f]at b;exact b.elim|some d0=>
      rw[f]at b ex;cases ex;exact q u H2 (R.st s) (Step.of_same s) b
    ·rw[hn]at b;cases f:Zt n k with|some d0=>rw[f]at b;exact b.elim|none=>
      rw[f]at ex;cases ex;have pp:=o.put (k:=k) (Il<|N.same S) hv;obtain⟨R3,W⟩:=(R.st s).chg (fl2:=.d) (ys:=Zb<|Z4 n k d) (ws:=DQ<|En tr k w v) (Pt hr) (ZN e1) pp.flat;rw[KN pp]at R3 W;exact q v _ R3 ((Step.of_same s).trans W)<|Ar.step W d v hv
   ·cases ex
  ·cases ex]
def NE(fx:VE->O (D×VE))(g:AD):VE->O (Bool×VE):=λc=>match fx c with
 |some (d,a)=>match g a with
  |some y=>(AL (CK d y)).map λb=>(b,a)
  |none=>J
 |none=>J
set_option tactic.hygienic true in
theorem rm(n:X.A.units+64<Aq)(f:JE X a (tX X.K M H0 fx))(i:JE X b (tP X.K M H0 g)):JT X (.Compare a [.NotEq] [b] pos) (aF X.K M H0 (NE fx g)):=#[have f:=f.h;have i:=i.h;(Se (SO n) f i<|F6 _ (by ext) (by ext)).mono λo H Q r=>by
 obtain⟨s,l,c,R,ex,q⟩:=r;unfold NE at ex;split at ex
 ·next d t x=>
  split at ex
  ·next y z=>
   obtain⟨L,B,ex⟩:=BN.mp ex;cases ex;refine#[s,d,c,R,x,λv N j C E=>#[c,y,j,z,λu G e k=>?_]];exact SR (Nf M c o) G v u d y (.bl l) _ (j.st e).nh (E.p.same e) k (LI B) λw P m F=>by
    exact#[l,F,q P ((j.st e).st m)<|C.trans<|Step.of_same<|e.trans m]
  ·cases ex
 ·cases ex]
noncomputable def Jx(c:O (Bool×VE))(b d:AA):DP:=match c with
 |some (J',a)=>b a
 |some (O',a)=>d a
 |none=>.fail
theorem rn{c:Expr}{g i:U Av}{t:VE->O (Bool×VE)}{j l:AA}(b:JT X c (aF K M H0 t))(d:JB X g (tS K M H0 j))(e:JB X i (tS K M H0 l)):JS X (.If c g i pos) (tS K M H0 λρ=>Jx (t ρ) j l):=#[have b:=b.h;have d:=d.h;have e:=e.h;(O4 b d e).mono λo r H n=>by
 obtain⟨ρ,R,q⟩:=n;try dsimp only at q
 cases f:t ρ with|none=>rw[f]at q;exact BS q|some p=>
  obtain⟨k,a⟩:=p;rw[f]at q;refine#[ρ,k,a,R,f,λs m S=>?_];cases k with
  |true=>refine Ji ?_;exact#[a,m,BZ.from S q]
  |false=>refine Jj ?_;exact#[a,m,BZ.from S q]]
end
open PySem.W
section
variable(lt:Nat->Nat->Bool)
structure WO(n:Nat):Prop where
 asym:∀a b,a<n->b<n->lt a b=J'->lt b a=O'
 neg:∀a b c,a<n->b<n->c<n->lt a c=J'->lt a b=J'\/lt b c=J'
def Eo(a b:Nat):Prop:=lt b a=O'
end
section
variable{lt:Nat->Nat->Bool}{n:Nat}(W:WO lt n)
include W
theorem WO.refl{a:Nat}(b:a<n):Eo lt a a:=by
 unfold Eo;cases h:lt a a with
 |false=>rfl
 |true=>have:=W.asym a a b b h;rw[h]at this;cases this
theorem WO.trans{a b c:Nat}(f:a<n)(g:b<n)(i:c<n)(d:Eo lt a b)(e:Eo lt b c):Eo lt a c:=by
 unfold Eo at *;cases h:lt c a with|false=>rfl|true=>
  rcases W.neg c b a i g f h with z|z
  ·rw[z]at e;cases e
  ·rw[z]at d;cases d
theorem WO.of_lt{a b:Nat}(c:a<n)(d:b<n)(h:lt a b=J'):Eo lt a b:=W.asym a b c d h
end
noncomputable abbrev A8(p:Array Nat)(i:Nat):Nat:=p.getD i 0
def Hr(lt:Nat->Nat->Bool)(p:Array Nat)(k:Nat):Prop:=∀i j,i<=j->j<k->Eo lt (A8 p i) (A8 p j)
def Jy(lt:Nat->Nat->Bool)(p:Array Nat)(k:Nat):Prop:=∀i j,i<=j->j<k->Eo lt (A8 p j) (A8 p i)
def Eqv(lt:Nat->Nat->Bool)(a b:Nat):Prop:=Eo lt a b/\Eo lt b a
def Bs(n:Nat)(p:Array Nat):Prop:=p.Perm (BB n).toArray
theorem Bs.size{n:Nat}{p:Array Nat}(h:Bs n p):p.size=n:=by have:=h.size_eq;simpa using this
theorem Bs.lt{n:Nat}{p:Array Nat}(h:Bs n p){i:Nat}(c:i<n):A8 p i<n:=by
 have b:i<p.size:=Kr c h.size.symm;have:=(h.mem_iff (a:=p[i])).mp (Array.getElem_mem b);simp_all
theorem NF{p q:Array Nat}{i:Nat}(h:p[i]?=q[j]?):A8 p i=A8 q j:=by
 simp_all
theorem NG{p:Array Nat}{i:Nat}(a:j<=p.size)(k:Nat):A8 (kas_rev p i j) k=if i<=k/\k<j then A8 p (i+j-1-k)else A8 p k:=by
 have:=getElem?_mirror_all (xs:=p) (i:=i) (j:=j) a k;by_cases h:i<=k/\k<j
 ·rw[if_pos h]at this ⊢;exact NF this
 ·rw[if_neg h]at this ⊢;exact NF this
theorem aH{p:Array Nat}{k d:Nat}(b:k<p.size)(hd:d<=k)(i:Nat):A8 (bubble p k d) i=if i=k-d then A8 p k else if k-d<i/\i<=k then A8 p (i-1)else A8 p i:=by
 have:=getElem?_bubble (xs:=p) (src:=k) b d hd i;by_cases h:i=k-d
 ·rw[if_pos h]at this ⊢;exact NF this
 ·rw[if_neg h]at this ⊢;by_cases a:k-d<i/\i<=k
  ·rw[if_pos a]at this ⊢;exact NF this
  ·rw[if_neg a]at this ⊢;exact NF this
theorem Bs.rev{n:Nat}{p:Array Nat}(h:Bs n p)(i j:Nat):Bs n (kas_rev p i j):=(mirror_perm p i j _).trans h
theorem Bs.bub{n:Nat}{p:Array Nat}(h:Bs n p)(k d:Nat):Bs n (bubble p k d):=(bubble_perm p k d).trans h
section
variable{lt:Nat->Nat->Bool}{n:Nat}(W:WO lt n){cmp:Nat->Nat->(Bool->Ab->Prop)->Ab->Prop}{s:Ab}(hc:∀i j C,i<n->j<n->C (lt i j) s->cmp i j C s)
include W hc
set_option tactic.hygienic true in
theorem Tc{p:Array Nat}(h:Bs n p):∀(f m:Nat){Q:Nat->Ab->Prop},1<=m->m+f<=n->Hr lt p m->(∀g,m<=g->g<=m+f->Hr lt p g->(g=m+f\/lt (A8 p g) (A8 p (g-1))=J')->Q g s)->Dz cmp (kas_asc p f m) Q s
 |0,m,Q,o,r,k,q=>by
  rw[kas_asc,Dz]
  exact q m (Bc _) (Ny m 0) k (.inl rfl)
 |f+1,m,Q,o,r,k,q=>by
  rw[kas_asc,Dz]
  refine hc _ _ _ (h.lt (C7 r)) (h.lt (by lia)) ?_
  cases t:lt (A8 p m) (A8 p (m-1))with
  |true=>
   erw[if_true,Dz]
   exact q m (Bc _) (Ny m (f+1)) k (.inr t)
  |false=>
   erw[Ew,if_false]
   refine Tc h f (m+1) (Kw o) (by lia) (λi j l u=>?_) λg a b c d=>q g (Nat.le_of_succ_le a) (by lia) c (by rcases d with d|d;exact .inl (by lia);exact .inr d)
   rcases KQ j m with z|z
   ·exact k i j l z
   ·have e:j=m:=Td z u
    subst e
    rcases KQ i j with y|y
    ·exact W.trans (h.lt (by lia)) (h.lt (i:=j-1) (by lia)) (h.lt (C7 r)) (k i (j-1) ((PL o).mpr y) (Nat.sub_one_lt_of_lt o)) t
    ·have e:i=j:=NH l y
     subst e
     exact W.refl (h.lt (C7 r))
theorem Te{p:Array Nat}(c:Bs n p){i:Nat}(f:i<j)(g:j<=n)(e:∀k,i<=k->k<j->Eqv lt (A8 p k) (A8 p (j-1)))(k:Nat)(d:k<n):Eqv lt (A8 (kas_rev p i j) k) (A8 p k):=by
 rw[NG<|c.size ▸ g];by_cases h:i<=k/\k<j
 ·rw[if_pos h];have a:=e (i+j-1-k) (by lia) (by lia);have b:=e k h.1 h.2;exact#[W.trans (c.lt (by lia)) (c.lt (by lia)) (c.lt<|PX d) a.1 b.2,W.trans (c.lt<|PX d) (c.lt (by lia)) (c.lt (by lia)) b.1 a.2]
 ·rw[if_neg h];exact#[W.refl<|c.lt d,W.refl<|c.lt d]
theorem aI{p q:Array Nat}(c:Bs n p)(d:Bs n q){k:Nat}(b:k<=n)(f:∀i,i<n->Eqv lt (A8 q i) (A8 p i))(h:Jy lt p k):Jy lt q k:=λi j e a=>W.trans (d.lt<|BX a b) (c.lt (i:=j) (BX a b)) (d.lt (by lia)) (f j<|BX a b).1 (W.trans (c.lt<|BX a b) (c.lt (i:=i) (by lia)) (d.lt (by lia)) (h i j e a) (f i (by lia)).2)
set_option tactic.hygienic true in
theorem PY:∀(f:Nat)(p:Array Nat)(m q:Nat){Q:Array Nat×Nat×Nat->Ab->Prop},Bs n p->1<=m->m+f<=n->q+1<=m->Jy lt p m->(∀i,m-(q+1)<=i->i<m->Eqv lt (A8 p i) (A8 p (m-1))) ->
  (∀r u N,Bs n r->m<=u->u<=m+f->N+1<=u->Jy lt r u->(∀i,u-(N+1)<=i->i<u->Eqv lt (A8 r i) (A8 r (u-1)))->Q (r,u,N) s)->Dz cmp (kas_desc f p m q) Q s
 |0,p,m,q,Q,l,v,t,K,w,A,x=>by
  rw[kas_desc,Dz]
  exact x p m q l (Bc _) (Ny m 0) K w A
 |f+1,p,m,q,Q,l,v,t,K,w,A,x=>by
  rw[kas_desc,Dz]
  refine hc _ _ _ (l.lt (C7 t)) (l.lt (by lia)) ?_
  have step:∀(r:Array Nat),Bs n r->Jy lt r m->Eo lt (A8 r m) (A8 r (m-1))->Jy lt r (m+1):=λr o h M i j B Y=>by
   rcases KQ j m with z|z
   ·exact h i j B z
   ·have e:j=m:=Td z Y
    subst e
    rcases KQ i j with y|y
    ·exact W.trans (o.lt (C7 t)) (o.lt (i:=j-1) (by lia)) (o.lt (by lia)) M (h i (j-1) ((PL v).mpr y) (Nat.sub_one_lt_of_lt v))
    ·have e:i=j:=NH B y
     subst e
     exact W.refl (o.lt (C7 t))
  cases M:lt (A8 p m) (A8 p (m-1))with
  |true=>
   have C:=W.of_lt (l.lt (C7 t)) (l.lt (by lia)) M
   erw[if_true]
   have E:∀(r:Array Nat),Bs n r->∀i,m+1-(0+1)<=i->i<m+1->Eqv lt (A8 r i) (A8 r (m+1-1)):=λr o i a b=>by
    have e:i=m:=Td a b
    subst e
    exact#[W.refl (o.lt (C7 t)),W.refl (o.lt (C7 t))]
   by_cases P:q>0
   ·erw[P,if_true]
    have o:=l.rev (m-(q+1)) m
    have G:=Te W hc l (i:=m-(q+1)) (j:=m) (by lia) (Sq t) A
    have T:=aI W hc l o (k:=m) (Sq t) (λi hi=>G i hi) w
    have em:A8 (kas_rev p (m-(q+1)) m) m=A8 p m:=by rw[NG (by rw[l.size];exact Sq t),if_neg (by lia)]
    have H:Eo lt (A8 (kas_rev p (m-(q+1)) m) m) (A8 (kas_rev p (m-(q+1)) m) (m-1)):=by
     rw[em]
     exact W.trans (l.lt (C7 t)) (l.lt (by lia)) (o.lt (by lia)) C (G (m-1) (by lia)).2
    exact PY f _ (m+1) 0 o (Kw v) (by lia) (Kw v) (step _ o T H) (E _ o) λR F L a b c d e g=>x R F L a (Nat.le_of_succ_le b) (by lia) d e g
   ·erw[P,if_false]
    exact PY f _ (m+1) 0 l (Kw v) (by lia) (by lia) (step _ l w C) (E _ l) λR F L a b c d e g=>x R F L a (by lia) (by lia) d e g
  |false=>
   erw[Ew,if_false,Dz]
   refine hc _ _ _ (l.lt (by lia)) (l.lt (by lia)) ?_
   cases hd:lt (A8 p (m-1)) (A8 p m)with
   |true=>
    erw[if_true,Dz]
    exact x p m q l (Bc _) (by lia) K w A
   |false=>
    erw[Ew,if_false]
    refine PY f _ (m+1) (q+1) l (by lia) (by lia) (by lia) (step _ l w hd) (λi a b=>?_) λR F L a b c d e g=>x R F L a (by lia) (by lia) d e g
    show Eqv lt (A8 p i) (A8 p m)
    rcases KQ i m with z|z
    ·have:=A i (by lia) z
     exact#[W.trans (l.lt (by lia)) (l.lt (i:=m-1) (by lia)) (l.lt (by lia)) this.1 M,W.trans (l.lt (by lia)) (l.lt (i:=m-1) (by lia)) (l.lt (by lia)) hd this.2]
    ·have e:i=m:=by lia
     subst e
     exact#[W.refl (l.lt (by lia)),W.refl (l.lt (by lia))]
theorem aJ{p:Array Nat}{m e:Nat}{Q:Nat×Array Nat->Ab->Prop}(f:Bs n p)(h:1<=m)(o:m<=e)(r:e<=n)(k:Jy lt p m) (q:∀d g,Bs n g->1<=d->d<=e->Hr lt g d->Q (d,g) s):Dz cmp (kas_tail3 m e p) Q s:=by
 unfold kas_tail3;rw[PZ];refine Tc W hc (f.rev 0 m) (e-m) m h (by lia) (λi j l t=>?_) λd a b c _=>?_
 ·rw[NG (by rw[f.size];lia),NG (by rw[f.size];lia),if_pos (by lia),if_pos (by lia)];exact k (0+m-1-j) (0+m-1-i) (by lia) (by lia)
 ·rw[Dz];exact q d _ (f.rev 0 m) (by lia) (by lia) c
theorem ro{p:Array Nat}{m f:Nat}{Q:Nat×Array Nat->Ab->Prop}(k:Bs n p)(v:m+1<=f)(l:f<=n)(r:Jy lt p (m+1)) (q:∀h j,Bs n j->1<=h->h<=f->Hr lt j h->Q (h,j) s):Dz cmp (kas_descPart m f p) Q s:=by
 unfold kas_descPart;rw[PZ];refine PY W hc (f-(m+1)) p (m+1) 0 k (by lia) (by lia) (by lia) r (λi a b=>?_) λj h t a b c d e g=>?_
 ·have e:i=m:=by lia
  subst e;exact#[W.refl<|k.lt (by lia),W.refl<|k.lt (by lia)]
 ·by_cases o:t>0
  ·erw[o,if_true];exact aJ W hc (a.rev _ _) (by lia) (by lia) l (aI W hc a (a.rev _ _) (by lia) (λi u=>Te W hc a (by lia) (by lia) g i u) e) q
  ·erw[o,if_false];exact aJ W hc a (by lia) (by lia) l e q
theorem rp{p:Array Nat}{Q:Nat×Array Nat->Ab->Prop}(g:Bs n p)(E:1<=n)(q:∀w h,Bs n h->1<=w->w<=n->Hr lt h w->Q (w,h) s):Dz cmp (kas_count n p) Q s:=by
 unfold kas_count;rw[PZ];refine Tc W hc g (n-1) 1 (Nat.le_of_ble_eq_true rfl) (by lia) (λi j r x=>?_) λm a b c d=>?_
 ·have e:i=0:=by lia
  have H:j=0:=Nat.lt_one_iff.mp x;subst e H;exact W.refl<|g.lt<|KR E
 ·by_cases A:m=n
  ·subst A;erw[beq_self_eq_true,if_true,Dz];exact q m p g a (Bc m) c
  ·have v:lt (A8 p m) (A8 p<|m-1)=J':=by
    rcases d with d|d
    ·exact absurd (by lia) A
    ·exact d
   erw[show(m==n)=O' by simpa using A,Ew,if_false];have o:∀(h:Array Nat),Bs n h->(∀i,i<m->Eqv lt (A8 h i) (A8 h<|m-1))->lt (A8 h m) (A8 h<|m-1)=J'->Dz cmp (kas_descPart m n h) Q s:=λh f t K=>
    ro W hc f (by lia) (Bc n) (λi j r x=>by
     rcases KQ j m with z|z
     ·exact W.trans (f.lt (by lia)) (f.lt (i:=m-1) (by lia)) (f.lt (by lia)) (t j z).1 (t i<|Kx r z).2
     ·have e:j=m:=Td z x;subst e;rcases KQ i j with y|y
      ·exact W.trans (f.lt (by lia)) (f.lt (i:=j-1) (by lia)) (f.lt (by lia)) (W.of_lt (f.lt (by lia)) (f.lt (by lia)) K) (t i y).2
      ·have e:i=j:=NH r y;subst e;exact W.refl<|f.lt (by lia)) q
   by_cases B:m>1
   ·erw[B,if_true,Dz];refine hc _ _ _ (g.lt<|KR E) (g.lt (by lia)) ?_;cases F:lt (A8 p 0) (A8 p<|m-1)with
    |true=>
     exact q m p g a (by lia) c
    |false=>
     have f:=g.rev 0 m;have t:∀i,i<m->Eqv lt (A8 p i) (A8 p<|m-1):=λi u=>#[c i (m-1) ((PL a).mpr u)<|Nat.sub_one_lt_of_lt a,W.trans (g.lt (by lia)) (g.lt (i:=0) (by lia)) (g.lt (by lia)) F (c 0 i (by lia) u)];have l:=λk C=>Te W hc g (i:=0) (j:=m) (by lia) (by lia) (λk _ C=>t k C) k C;refine o _ f (λi u=>?_) ?_
     ·have G:=l (m-1) (by lia);exact#[W.trans (f.lt (by lia)) (g.lt (i:=i) (by lia)) (f.lt (by lia)) (l i (by lia)).1 (W.trans (g.lt (by lia)) (g.lt (i:=m-1) (by lia)) (f.lt (by lia)) (t i u).1 G.2),
       W.trans (f.lt (by lia)) (g.lt (i:=m-1) (by lia)) (f.lt (by lia)) G.1 (W.trans (g.lt (by lia)) (g.lt (i:=i) (by lia)) (f.lt (by lia)) (t i u).2 (l i (by lia)).2)]
     ·rw[show A8 (kas_rev p 0 m) m=A8 p m by rw[NG (by rw[g.size];lia),if_neg (by lia)]];rcases W.neg (A8 p m) (A8 (kas_rev p 0 m)<|m-1) (A8 p<|m-1) (g.lt (by lia)) (f.lt (by lia)) (g.lt (by lia)) v with z|z
      ·exact z
      ·have:=(l (m-1) (by lia)).2;unfold Eo at this;rw[z]at this;cases this
   ·have e:m=1:=by lia
    subst e;refine o p g (λi u=>?_) v;have e:i=0:=by lia
    subst e;exact#[W.refl<|g.lt (by lia),W.refl<|g.lt (by lia)]
set_option tactic.hygienic true in
theorem Tf{p:Array Nat}(c:Bs n p){k:Nat}(h:k<n)(j:Hr lt p k):∀(f l r:Nat){Q:Nat->Ab->Prop},l<=r->r<=k->r<=l+f->(∀i,i<l->Eo lt (A8 p i) (A8 p k))->(∀i,r<=i->i<k->lt (A8 p k) (A8 p i)=J') ->
  (∀m,m<=k->(∀i,i<m->Eo lt (A8 p i) (A8 p k))->(∀i,m<=i->i<k->lt (A8 p k) (A8 p i)=J')->Q m s)->Dz cmp (kas_place p k f l r) Q s
 |0,l,r,Q,v,o,w,t,u,q=>by
  rw[kas_place,Dz]
  have e:l=r:=NH v w
  subst e
  exact q l o t u
 |f+1,l,r,Q,v,o,w,t,u,q=>by
  rw[kas_place]
  by_cases d:l≥r
  ·have e:l=r:=NH v d
   subst e
   rw[if_pos d,Dz]
   exact q l o t u
  ·rw[if_neg d,Dz]
   refine hc _ _ _ (c.lt h) (c.lt (by lia)) ?_
   cases x:lt (A8 p k) (A8 p ((l+r)/2))with
   |true=>
    erw[if_true]
    refine Tf c h j f l ((l+r)/2) (by lia) (by lia) (by lia) t (λi a b=>?_) q
    have g:=j ((l+r)/2) i a b
    rcases W.neg (A8 p k) (A8 p i) (A8 p ((l+r)/2)) (c.lt h) (c.lt (HX b h)) (c.lt (by lia)) x with z|z
    ·exact z
    ·unfold Eo at g;rw[z]at g;cases g
   |false=>
    erw[Ew,if_false]
    refine Tf c h j f ((l+r)/2+1) r (by lia) o (by lia) (λi a=>?_) u q
    exact W.trans (c.lt (by lia)) (c.lt (i:=(l+r)/2) (by lia)) (c.lt h) (j i ((l+r)/2) (P0 a) (by lia)) x
set_option tactic.hygienic true in
theorem aK:∀(f:Nat)(p:Array Nat)(k:Nat){Q:Array Nat->Ab->Prop},Bs n p->k+f=n->Hr lt p k->(∀u,Bs n u->Hr lt u n->Q u s)->Dz cmp (kas_bin f p k) Q s
 |0,p,k,Q,g,w,h,q=>by
  rw[kas_bin,Dz]
  have e:k=n:=Nat.add_right_cancel w
  subst e
  exact q p g h
 |f+1,p,k,Q,g,w,h,q=>by
  rw[kas_bin,PZ]
  refine Tf W hc g (k:=k) (by lia) h k 0 k (F8 k) (Bc _) (Nat.le_add_left k 0) (λi z=>by lia) (λi a b=>by lia) λl a b c=>?_
  refine aK f _ (k+1) (g.bub _ _) (by lia) (λi j m y=>?_) q
  have o:k<p.size:=by rw[g.size];lia
  have v:k-(k-l)=l:=Nat.sub_sub_self a
  rw[aH o (Nat.sub_le k l),aH o (Nat.sub_le k l),v]
  by_cases x:i=l
  ·rw[if_pos x]
   by_cases d:j=l
   ·rw[if_pos d];exact W.refl (g.lt (by lia))
   ·rw[if_neg d,if_pos (by lia)]
    exact W.of_lt (g.lt (by lia)) (g.lt (by lia)) (c (j-1) (by lia) (by lia))
  ·rw[if_neg x]
   by_cases r:l<i/\i<=k
   ·rw[if_pos r,if_neg (by lia),if_pos (by lia)]
    exact h (i-1) (j-1) (Nat.sub_le_sub_right m 1) (by lia)
   ·rw[if_neg r]
    by_cases d:j=l
    ·rw[if_pos d];exact b i (by lia)
    ·rw[if_neg d]
     by_cases t:l<j/\j<=k
     ·rw[if_pos t];exact h i (j-1) (by lia) (by lia)
     ·rw[if_neg t];exact h i j m (by lia)
theorem rq{Q:Array Nat->Ab->Prop}(g:1<=n)(q:∀f,Bs n f->Hr lt f n->Q f s):Dz cmp (kas_sort n) Q s:=by
 unfold kas_sort;rw[PZ];refine rp W hc (p:=(BB n).toArray) (Array.Perm.refl _) g λm f a b c d=>?_;by_cases h:m<n
 ·erw[h,if_true];have e:max m 1=m:=Nat.max_eq_left b;rw[e];exact aK W hc (n-m) f m a (Nat.add_sub_of_le c) d q
 ·have e:m=n:=by lia
  subst e;erw[HJ,if_false,Dz];exact q f a d
end
section
variable{prog:AJ}{w:Ai}{A:Ah}{s:Ab}
theorem rz{l b:Ac}{a:Array Aa}{r:Bool}{n n2:Nat}{c:O Ac}{f d:Array (O Aa)}{Q:Bool->Ab->Prop}(e:s.heap.get? l=Z {cls:=.type "list",dict:=dd,data:=.seq items n,slots:=f})(g:s.heap.get? b=Z {cls:=.type "list",dict:=c,data:=.seq a n2,slots:=d})(i:Ft A.in1 s items.toList a.toList r) (j:A.units<Aq) (h:Q r s):wpAny (Ag prog w) A (oneLt' J' (.ref l) (.ref b)) Q E s:=by
 rw[oneLt'_eq];refine Al<|wpAny_cRoomFor j ?_;refine Al<|wpAny_callSpecialIfBound?_slot (T:="list") #[_,e,rfl] PySem.F.slot_list_lt (Jd PySem.F.slot_list_lt #[_,e,rfl] PySem.F.entry_list_lt (PySem.F.args_list_lt_2 _ _) (Yc l b items a n n2 dd c f d r) #[e,g,i,?_]);exact HK h
end
section
variable{s:Ab}{N:Fb}
theorem rA(S:Inv X pins I H s){prog:AJ}{w:Ai}(A:Ah)(hu:A.units+40<Aq)(b fin:Bool){Q:Bool->Ab->Prop}:∀(xs ys:U D)(a c:U V)(d f:U Aa)(i:Nat)(r:Bool),Fv (ltN 5) xs ys=Z r->Ad X.K N H xs a->Ad X.K N H ys c->Ao a d->Ao c f->fin=decide (xs.length<ys.length)->(b=O'\/i≠0\/((∀x,xs.head?=Z x->∃n,x=.int n)/\∀y,ys.head?=Z y->∃n,y=.int n))->Q r s->KatLex prog w A b fin Q (d.zip f) i s:=by
 intro xs;induction xs with
 |nil=>
  intro ys a c d f i r h m o C E t T q;erw[Ad]at m;subst m;cases C;refine kat_nil ?_;cases ys with
  |nil=>erw[Fv]at h;cases h;rw[t];exact q
  |cons y ys=>erw[Fv]at h;cases h;rw[t];simpa using q
 |cons x xs R=>
  intro ys a c d f i r h m o C E t T q;erw[Ad]at m;obtain⟨w1,t1,Y,g,G⟩:=m;subst Y;cases C with
  |cons j F=>
   cases ys with
   |nil=>
    erw[Ad]at o;subst o;cases E;erw[Fv]at h;cases h;exact kat_nil (by rw[t];simpa using q)
   |cons y ys=>
    erw[Ad]at o;obtain⟨w2,t2,e2,k,L⟩:=o;subst e2;cases E with
    |cons l M=>
     obtain⟨P,h⟩:=ZV h;rw[C4]at P;have v:=(Nu S ZS A x y _ _ _ _ (by unfold ZS;lia) P.1 P.2 g.p k.p j l).2.1;refine kat_cons ?_;split at h
     ·next e=>
      rw[e]at v;refine v prog w _ _ ?_;unfold KatGo;exact R ys _ _ _ _ (i+1) r h G L F M (by rw[t];simp) (.inr<|.inl<|Bv<|Nat.zero_ne_add_one i) q
     ·next e=>
      rw[Bool.not_eq_true]at e;rw[e]at v;refine v prog w _ _ ?_;refine kat_no ?_;by_cases B:(b&&i==0)=J'
      ·rw[B];have u:b=J'/\i=0:=by simpa using B
       rcases T with z|z|⟨z1,z2⟩
       ·rw[u.1]at z;cases z
       ·exact absurd u.2 z
       ·obtain⟨n1,rfl⟩:=z1 x rfl;obtain⟨n2,rfl⟩:=z2 y rfl;have g1:=g.p.int;have g2:=k.p.int;subst g1 g2;obtain⟨k1,rfl⟩:=j;obtain⟨k2,rfl⟩:=l;cases h;exact oneLt_int q
      ·rw[Bool.not_eq_true]at B;rw[B];exact kat_one _ _<|SW S 5 A x y _ _ _ _ r (by unfold ZS;lia) h g.p k.p j l prog w _ (PySem.W.BoolBack Q) q
def Cf(b:O Bool)(k:D):Prop:=match b with
 |some J'=>∃i r,k=.tup (.int i::r)
 |some O'=>∃f r,k=.tup (.tup f::r)
 |none=>∃r,k=.lst r
noncomputable abbrev NI:O Bool->SortKind
 |some b=>tuples' b
 |none=>oneType'
theorem Cf.tup{b:Bool}{k:D}(h:Cf (Z b) k):∃f r,k=.tup (f::r):=by
 cases b with
 |true=>obtain⟨i,r,e⟩:=h;exact#[_,_,e]
 |false=>obtain⟨i,r,e⟩:=h;exact#[_,_,e]
theorem rB(S:Inv X pins I H s){prog:AJ}{w:Ai}(A:Ah)(B:A.units+40<Aq)(b r:Bool){k1 k2:D}{t u:V}{v x:Aa}{Q:Bool->Ab->Prop}(h:ltN 6 k1 k2=Z r)(y:Cf (Z b) k1)(z:Cf (Z b) k2) (C:Ar X.K N H k1 t) (d2:Ar X.K N H k2 u) (G:RelV t v) (F:RelV u x) (q:Q r s):wpAny (Ag prog w) A (keyLt' (tuples' b) v x) Q E s:=by
 obtain⟨L,M,i⟩:=y.tup;obtain⟨P,T,j⟩:=z.tup;subst i j;obtain⟨a1,k,i,R,d⟩:=C;obtain⟨a2,l,j,Y,e⟩:=d2;subst i j;cases G;cases F;obtain⟨a,f,⟨o1,m,_,n1,n⟩,_⟩:=S.tuple R;obtain⟨c,g,⟨o2,o,_,n2,p⟩,_⟩:=S.tuple Y;refine kat_lt m n o p ?_;have:=rA S (prog:=prog) (w:=w) (N:=N) A B b (decide<|a.toArray.size<c.toArray.size) (Q:=Q) (L::M) (P::T) k l a c 0 r h d e f g (by rw[BV,BV,<- f.length,<- g.length,<- d.length,<- e.length]) (by
  cases b with|false=>exact .inl rfl|true=>
   obtain⟨i1,_,i⟩:=y;obtain⟨i2,_,j⟩:=z;grind) q
 simpa using this
theorem rC(S:Inv X pins I H s){prog:AJ}{w:Ai}(A:Ah)(T:A.units+40<Aq)(b:O Bool)(r:Bool){k1 k2:D}{o t:V}{v:Aa}{Q:Bool->Ab->Prop}(h:ltN 6 k1 k2=Z r)(x:Cf b k1)(y:Cf b k2) (z:Ar X.K N H k1 o) (d2:Ar X.K N H k2 t) (B:RelV o u) (C:RelV t v) (q:Q r s):wpAny (Ag prog w) A (keyLt' (NI b) u v) Q E s:=by
 cases b with|some b=>exact rB S A T b r h x y z d2 B C q|none=>
  obtain⟨R,a⟩:=x;obtain⟨Y,c⟩:=y;subst a c;obtain⟨a1,vs1,a,q1,d⟩:=z.p;obtain⟨a2,vs2,c,q2,e⟩:=d2.p;subst a c;cases B;cases C;obtain⟨G,f,⟨⟨cls,dd,data,sl⟩,n1,g,i,F,j⟩,_⟩:=S.list q1;obtain⟨L,k,⟨⟨M,dd2,data2,sl2⟩,n2,l,m,P,n⟩,_⟩:=S.list q2;subst i j m n;exact rz g l (by simpa using YI S 5 (SW S 5) A (by unfold ZS;lia) R Y _ _ _ _ h d e f k) (by lia) q
set_option tactic.hygienic true in
theorem rD(S:Inv X pins I H s){M:Model}(b:Bool):∀(c:U D)(kvs:U V)(us:U Aa),Ad X.K N H c kvs->Ao kvs us->(∀k∈c,Cf (Z b) k)->∃fs,KatTups s.heap us fs/\fs.length=us.length/\∀v∈fs,Looks M s.heap (typeOf v) (.type (if b then "int" else "tuple")):=by
 intro c;induction c with
 |nil=>
  intro kvs us d r _;erw[Ad]at d;subst d;cases r;exact#[[],KatTups.nil,rfl,λ_ h=>nomatch h]
 |cons k c L=>
  intro kvs us d r C;erw[Ad]at d;obtain⟨v,t,e,P,R⟩:=d;subst e;cases r with
  |cons Y rt=>
   obtain⟨fs,h1,h2,h3⟩:=L t _ R rt λk l=>C k<|BG _ l;have m:=C k Bj;obtain⟨f,g,e⟩:=m.tup;subst e;obtain⟨a,vs,e,q,dl⟩:=P;subst e;cases Y;obtain⟨its,x,⟨o,ho,hc,n,hd⟩,_⟩:=S.tuple q;obtain⟨w,vs',e,G,_⟩:=dl;subst e;cases x with
   |cons j rt1=>
    rename_i u us';refine#[u::fs,KatTups.cons ho hc hd (by simp) h1,by simp[h2],λv y=>?_];rcases Bz.mp y with e|y
    ·subst e;intro A Q E s' l F;cases b with
     |true=>
      obtain⟨i,_,e⟩:=m;cases e;have g:=G.p.int;subst g;obtain⟨t,rfl⟩:=j;exact Lz (T:="int") rfl F
     |false=>
      obtain⟨i,_,e⟩:=m;cases e;obtain⟨a2,vs2,rfl,q2,_⟩:=G;cases j;obtain⟨_,_,⟨o2,z,B,_⟩,_⟩:=S.tuple q2;exact Lz (T:="tuple") #[o2,l _ _ z,B] F
    ·exact h3 v y
theorem rE(C:Inv X pins I H s){M:Model}:∀(b:U D)(kvs:U V)(us:U Aa),Ad X.K N H b kvs->Ao kvs us->(∀k∈b,Cf J k)->∀u∈us,Looks M s.heap (typeOf u) (.type "list"):=by
 intro b;induction b with
 |nil=>
  intro kvs us d r _;erw[Ad]at d;subst d;cases r;simp_all
 |cons k b i=>
  intro kvs us d r h;erw[Ad]at d;obtain⟨v,t,e,j,l⟩:=d;subst e;cases r with
  |cons m rt=>
   intro u c;rcases Bz.mp c with e|c
   ·subst e;obtain⟨g,rfl⟩:=h k Bj;obtain⟨a,z,rfl,q,_⟩:=j.p;cases m;obtain⟨_,_,⟨o,n,w,x,_⟩,_⟩:=C.list q;intro A Q E B f y;exact Lz (T:="list") #[o,f _ _ w,x] y
   ·exact i t _ l rt (λk f=>h k<|BG _ f) u c
theorem rF(j:Inv X pins I H s){M:Model}{A:Ah}(b:O Bool)(a:U D)(kvs:U V)(us:U Aa)(d:Ad X.K N H a kvs)(r:Ao kvs us)(c:∀k∈a,Cf b k)(e:2<=us.length){Q:SortKind->Ab->Prop}(q:Q (NI b) s):wpAny M A (keyKind' us.toArray) Q E s:=by
 cases b with
 |some b=>
  obtain⟨h,f,i,g⟩:=rD j (M:=M) b a kvs us d r c;refine kat_kind f (by lia) g (by cases b<;>rfl) ?_;rw[show(Value.type (if b=J' then "int" else "tuple") != Value.type "tuple")=b by cases b<;>rfl];exact q
 |none=>exact kas_kind e (rE j a kvs us d r c) rfl rfl q
structure Off(X:Cx)(pins:AR)(a:Ac):Prop where
 nL:a≠X.env.locals
 s0:X.s₀.heap.objs.size<=a
 cl:∀x c,X.env.cells.lookup x=Z c->c≠a
 pn:∀p∈X.pn++pins,p.1≠a
 nf:a∉X.fs
theorem Inv.off(g:Inv X pins I H s)(h:s.heap.objs.size<=a):Off X pins a where
 nL:=λe=>by have b:=g.lt;rw[<- e]at b;exact absurd (BX b h)<|HJ _
 s0:=BR g.sz h;cl:=λx c e z=>by
  obtain⟨v,o,d,_⟩:=g.cell x c e;have b:=Bp d;grind
 pn:=λp f z=>by
  have b:=Bp (g.pin p f).1;grind
 nf:=g.nofs h
theorem Inv.pin1{o:Obj}(g:Inv X pins I H s)(c:H a=J)(f:Off X pins a)(e:s.heap.get? a=Z o)(d:∀v,o.data≠.cell v):Inv X (pins++[(a,o)]) I H s:=g.pins_of λp b=>by
  rcases Cm.mp b with b|b
  ·exact g.pin p<|De _ b
  ·erw[CP]at b;subst b;exact#[e,c,f.nL,f.nf,d]
theorem Inv.catch{d:U Aa}{n:Nat}(l:Inv X pins I H s)(h:H a=J)(f:Off X pins a)(e:s.heap.get? a=Z {cls:=.type "list",data:=.seq d.toArray n})(i:Ao vs d)(hz:vs.length<=Ax):Inv X pins I (AK H a (.lst vs)) s:=by
 have ne:∀b u,H b=Z u->b≠a:=λb u q z=>by rw[z,h]at q;cases q
 have:=l.step (h':=s.heap) (g':=s.gens) (d':=s.drawn) (t':=s.toks) (ch:=[a]) (H':=AK H a<|.lst vs) (λb g=>by
   have e:b=a:=by simpa using g
   subst e;exact#[.inr f.s0,f.nL,f.cl,f.pn]) (λb o _ _ _ q _=>q) (λb o _ _ _ q _=>#[o.slots,q]) (λb o g _ n=>by rw[Zn<|λz=>g (by simp[z])];exact n) (λb o _ q=>#[o,q])
  (λb j q=>Zn (ne _ _ q) ▸ q) (λb o u q=>Zn (ne _ _ q) ▸ q) (λb A q=>#[(T' []),by rw[Zn<|ne _ _ q,q];simp]) (λm k=>k) (λb u q=>by
   by_cases g:b=a
   ·subst g;rw[ZZ]at q;cases q;exact#[hz,d,n,i,e]
   ·rw[Zn g]at q;exact(l.hok b u q).stay (λc v _ r=>r) (λc r=>Zn (ne _ _ r) ▸ r) λc j r=>Zn (ne _ _ r) ▸ r) l.bare
 exact this
end
def DA(F:U Sl->O Rv)(x:D):D:=((F [.val x]).map C3).getD .non
def Co(F:U Sl->O Rv)(x y:D):Bool:=match ltN 6 (DA F x) (DA F y)with
 |some J'=>J'
 |_=>O'
theorem aL{F:U Sl->O Rv}{x y:D}{r:Bool}(h:ltN 6 (DA F x) (DA F y)=Z r):Co F x y=r:=by
 unfold Co;rw[h];cases r<;>rfl
structure Bh(F:List Sl->Option Rv)(xs:List D):Prop where
 few:xs.length<64
 tells:∀x∈xs,∃r,F [.val x]=Z r
 mode:∃b,∀x∈xs,Cf b (DA F x)
 cmp:∀x∈xs,∀y∈xs,∃r,ltN 6 (DA F x) (DA F y)=Z r
 asym:∀x∈xs,∀y∈xs,Co F x y=J'->Co F y x=O'
 neg:∀x∈xs,∀y∈xs,∀z∈xs,Co F x z=J'->Co F x y=J'\/Co F y z=J'
 anti:∀x∈xs,∀y∈xs,Co F x y=O'->Co F y x=O'->x=y
noncomputable def Im(lt:D->D->Bool)(x:D):U D->U D
 |[]=>[x]
 |y::r=>if lt x y then x::y::r else y::Im lt x r
noncomputable def ET(lt:D->D->Bool):U D->U D
 |[]=>[]
 |x::r=>Im lt x (ET lt r)
theorem Tg(lt:D->D->Bool)(x:D):∀l,(Im lt x l).Perm (x::l)
 |[]=>.refl _
 |y::r=>by
  unfold Im;split
  ·exact .refl _
  ·exact((Tg lt x r).cons y).trans<|.swap x y r
theorem P1(lt:D->D->Bool):∀l,(ET lt l).Perm l
 |[]=>.refl _
 |x::r=>(Tg lt x _).trans<|(P1 lt r).cons x
theorem aM{F:U Sl->O Rv}{xs:U D}(h:Bh F xs){x:D}(f:x∈xs):∀l:U D,(∀y∈l,y∈xs)->l.Pairwise (λa b=>Co F b a=O')->(Im (Co F) x l).Pairwise λa b=>Co F b a=O'
 |[],_,_=>by simp[Im]
 |y::r,g,j=>by
  obtain⟨k,m⟩:=List.pairwise_cons.mp j;have i:=g y Bj;unfold Im;split
  ·next d=>
   refine List.pairwise_cons.mpr #[λz c=>?_,j];rcases Bz.mp c with e|c
   ·subst e;exact h.asym x f z i d
   ·cases n:Co F z x with|false=>rfl|true=>
     rcases h.neg z (g z<|BG _ c) y i x f n with q|q
     ·rw[k z c]at q;cases q
     ·rw[h.asym x f y i d]at q;cases q
  ·next d=>
   rw[Bool.not_eq_true]at d;refine List.pairwise_cons.mpr #[λz c=>?_,aM h f r (λz c=>g z<|BG _ c) m];rcases Bz.mp ((Tg (Co F) x r).subset c)with e|c
   ·subst e;exact d
   ·exact k z c
theorem aN{F:U Sl->O Rv}{xs:U D}(h:Bh F xs):∀l:U D,(∀y∈l,y∈xs)->(ET (Co F) l).Pairwise λa b=>Co F b a=O'
 |[],_=>.nil
 |x::r,c=>aM h (c x Bj) _ (λy d=>c y<|BG _<|(P1 _ r).subset d) (aN h r λy d=>c y<|BG _ d)
def GR(F:U Sl->O Rv)(xs:U D):A2:=gd (Bh F xs) (Z (ET (Co F) xs))
theorem Bh.same{F:U Sl->O Rv}{ys:U D}(h:Bh F xs)(c:ys.Perm xs)(d:ys.Pairwise λa b=>Co F b a=O'):ys=ET (Co F) xs:=List.Perm.eq_of_pairwise (le:=λa b=>Co F b a=O') (λa b e f g i=>h.anti a (c.subset e) b ((P1 _ xs).subset f) i g) d (aN h xs λ_ j=>j) (c.trans (P1 _ xs).symm)
theorem rG{F:U Sl->O Rv}(h:Bh F xs):GR F xs=Z (ET (Co F) xs):=LP h
theorem Th{F:U Sl->O Rv}{ys:U D}(h:GR F xs=Z ys):Bh F xs/\ys=ET (Co F) xs:=by grind [GR,gd]
section
variable{s:Ab}{N:Fb}
theorem Ti{K:Am}{b:U D}{vs:U V}(h:Ad K N H b vs):∀(a:U Nat),(∀j∈a,j<b.length)->Ad K N H (a.map λj=>b.getD j .non) (a.map λj=>vs.getD j .non)
 |[],_=>Ad.nil
 |j::a,c=>by
  obtain⟨v,e,d⟩:=h.get<|BW<|c j Bj;exact Ad.cons (by simp_all)<|Ti h a λk f=>c k<|BG _ f
theorem NJ{vs:U V}{us:U Aa}(h:Ao vs us):∀(b:U Nat),Ao (b.map λj=>vs.getD j .non) (b.map λj=>us.getD j .none)
 |[]=>.nil
 |j::b=>by
  refine .cons ?_<|NJ h b;induction h generalizing j with|nil=>simp;rfl|cons a _ c=>
   cases j<;>simp_all
theorem aO(zB:Inv X pins I H s){prog:AJ}{w:Ai}(A:Ah)(hu:A.units+40<Aq){F:U Sl->O Rv}{f:U D}(h:Bh F f){kvs:U V}{us items:U Aa}
  (d:Ad X.K N H (f.map (DA F)) kvs) (r:Ao kvs us) (g:items.length=f.length) {P:PySem.Fin->Ab->Prop} {T:SortSt->Sem PySem.Fin}
  (q:∀(p:U Nat) (st:SortSt),p.Perm (BB f.length)->(p.map λj=>f.getD j .non)=ET (Co F) f->Array.map (λx=>x.2) (arrOf st)=(p.map λj=>items.getD j .none).toArray->failedOf st=J->wpAny (Ag prog w) A (T st) P E s):
  wpAny (Ag prog w) A (do
   let kind <- if items.toArray.size<2 then Ay general' else keyKind' us.toArray
   let((),s) <- (if items.toArray.size<2 then Ay ()else sortRuns').run (SortSt.mk' kind (us.toArray.zip items.toArray) (T' []) 7 J)
   T s) P E s:=by
 have l1:=d.length
 have l2:=r.length
 rw[A9]at l1
 by_cases t:items.toArray.size<2
 ·rw[if_pos t]
  erw[t,if_true]
  have u:us.length=items.length:=by lia
  rw[BV]at t
  refine Al (AQ ?_)
  refine Al ?_
  refine AQ ?_
  refine q (BB f.length) (SortSt.mk' general' (us.toArray.zip items.toArray) (T' []) 7 J) (.refl _) ?_ ?_ rfl
  ·have e:(BB f.length).map (λj=>f.getD j .non)=f:=by
    apply Jo
    intro i
    by_cases g:i<f.length
    ·simp[g]
    ·simp[g]
   rw[e]
   refine h.same (.refl _) ?_
   match f,g with
   |[],_=>exact .nil
   |[a],_=>exact List.pairwise_singleton _ _
   |a::b::c,g=>simp at g;lia
  ·show Array.map (λx=>x.2) (us.toArray.zip items.toArray)=_
   have e:(BB f.length).map (λj=>items.getD j .none)=items:=by
    rw[<- g]
    apply Jo
    intro i
    by_cases g:i<items.length
    ·simp[g]
    ·simp[g]
   rw[e,List.zip_toArray,List.map_toArray]
   congr 1
   exact List.map_snd_zip (Lv u.symm)
 ·rw[if_neg t]
  erw[t,if_false]
  rw[BV]at t
  obtain⟨b,m⟩:=h.mode
  refine Al (rF zB b (f.map (DA F)) kvs us d r (λk hk=>by
   obtain⟨x,hx,rfl⟩:=Ba.mp hk
   exact m x hx) (by lia) ?_)
  have u:us.length=items.length:=by lia
  have hr:=kas_range (us.toArray.zip items.toArray)
  rw[show(us.toArray.zip items.toArray).size=f.length by simp;lia]at hr
  have M:SortSt.mk' (NI b) (us.toArray.zip items.toArray) (T' []) 7 J=kas_st (NI b) (us.toArray.zip items.toArray) (BB f.length).toArray:=by
   unfold kas_st;rw[hr]
  refine Al ?_
  rw[M]
  have W:WO (λi j=>Co F (f.getD i .non) (f.getD j .non)) f.length:=by
   have mem:∀i,i<f.length->f.getD i .non∈f:=λi g=>by
    rw[show f.getD i .non=f[i] by simp[DH,g]];exact Gf g
   exact#[λa b y m S=>h.asym _ (mem a y) _ (mem b m) S,λa b c y m zA S=>h.neg _ (mem a y) _ (mem b m) _ (mem c zA) S]
  have zA:∀i j (C:Bool->Ab->Prop),i<f.length->j<f.length->C (Co F (f.getD i .non) (f.getD j .non)) s->kas_cmp prog w A (NI b) (us.toArray.zip items.toArray) i j C s:=λi j C n o hq=>by
   unfold kas_cmp
   rw[kat_item u,kat_item u]
   have mem:∀i,i<f.length->f.getD i .non∈f:=λi g=>by
    rw[show f.getD i .non=f[i] by simp[DH,g]];exact Gf g
   obtain⟨rr,z⟩:=h.cmp _ (mem i n) _ (mem j o)
   rw[aL z]at hq
   have B:∀i,i<f.length->∃v,Ar X.K N H (DA F (f.getD i .non)) v/\RelV v (us.getD i .none):=λi g=>by
    obtain⟨v,ev,dv⟩:=d.get (i:=i) (d:=DA F f[i]) (by simp[g])
    refine#[v,by rw[show f.getD i .non=f[i] by simp[DH,g]];exact dv,?_]
    have:=NJ r [i]
    cases this with
    |cons a _=>
     rw[<- (show kvs.getD i .non=v by simp[DH,ev])]
     exact a
   obtain⟨v1,Y,rv1⟩:=B i n
   obtain⟨v2,dv2,rv2⟩:=B j o
   exact rC zB A hu b rr z (m _ (mem i n)) (m _ (mem j o)) Y dv2 rv1 rv2 hq
  refine kas_runs (Q:=λ_ st R=>wpAny (Ag prog w) A (T st) P E R) (G:=λp R=>R=s/\Bs f.length p/\Hr (λi j=>Co F (f.getD i .non) (f.getD j .non)) p f.length) (by lia) h.few (λp st R hp y hf hg=>?_) (rq W zA (by lia) λp a b=>#[rfl,a,b])
  obtain⟨rfl,hB,hS⟩:=hg
  have l:p.toList.Perm (BB f.length):=by
   have:=hB.toList
   simpa using this
  refine q p.toList st l ?_ (kat_snds u y) hf
  refine h.same ?_ ?_
  ·have e:(BB f.length).map (λj=>f.getD j .non)=f:=by
    apply Jo
    intro i
    by_cases g:i<f.length
    ·simp[g]
    ·simp[g]
   have:=l.map λj=>f.getD j .non
   rw[e]at this
   exact this
  ·rw[List.pairwise_map,List.pairwise_iff_getElem]
   intro i j g L hij
   have:=hS i j (Nat.le_of_succ_le hij) (by simp at L;exact Kr L hp)
   unfold Eo A8 at this
   simp at g L
   simpa[Array.getD,g,L]using this
theorem rH(i:Inv X pins I H s){prog:AJ}{w:Ai}(A:Ah)(f:A.units+40<Aq){F:U Sl->O Rv}{b:U D}(h:Bh F b){kvs:U V}{us items:U Aa}
  (d:Ad X.K N H (b.map (DA F)) kvs) (r:Ao kvs us) (g:items.length=b.length) {c:Nat} {e:Aa} {P:PySem.Fin->Ab->Prop}
  (q:∀(p:U Nat) (st:SortSt),p.Perm (BB b.length)->(p.map λj=>b.getD j .non)=ET (Co F) b->Array.map (λx=>x.2) (arrOf st)=(p.map λj=>items.getD j .none).toArray->failedOf st=J->wpAny (Ag prog w) A (ksk_tail a O' c e st) P E s):
  wpAny (Ag prog w) A (ksk_end a O' items.toArray c e us.toArray) P E s:=by
 unfold ksk_end
 exact aO i A f h d r g q
end
section
variable{s:Ab}{N:Fb}
abbrev Dt(a:U Aa)(n:Nat):Obj:={cls:=.type "list",data:=.seq a.toArray n}
theorem Inv.rawset{c its':U Aa}{n:Nat}{f:Array Aa->Array Aa}(k:Inv X pins I H s)(d:H a=J)(o:Off X pins a)(e:s.heap.get? a=Z (Dt c n))(g:f c.toArray=its'.toArray):∃h,(s.heap.update a (Fq f)).get? a=Z (Dt its' h)/\Inv X pins I H {s with heap:=s.heap.update a (Fq f)}:=by
 have q:=PySem.IsL.update e f;rw[g]at q;exact#[_,q,k.turned (t':=s.toks) (λb u i j=>(LB s.heap (Fq f)<|Bv i).trans j) d o.nL (.inr o.s0) o.cl o.pn]
theorem Tj(a:U Aa)(n:Nat)(v:O Aa):(Dt a n).data≠.cell v:=nofun
theorem Off.more{b:Ac}{o:Obj}(f:Off X pins a)(h:b≠a):Off X (pins++[(b,o)]) a:=#[f.nL,f.s0,f.cl,λp c=>by
  rw[<- NK]at c;rcases Cm.mp c with c|c
  ·exact f.pn p c
  ·erw[CP]at c;subst c;exact h,f.nf]
theorem Inv.pinGet{o:Obj}(b:Inv X pins I H s)(h:(a,o)∈pins):s.heap.get? a=Z o/\H a=J:=#[(b.pin _<|De _ h).1,(b.pin _<|De _ h).2.1]
theorem rJ{prog:AJ}{w:Ai}(A:Ah){D c:Ac}{e l:Nat}{us out:U Aa}{P:PySem.Fin->Ab->Prop}{st:SortSt}(d:Inv X (pins++[(D,Dt [] e)]++[(c,Dt us l)]) I H s) (i:Off X pins D) (m:Off X pins c) (ne:D≠c) (g:us.length<=Ax) (h:Array.map (λx=>x.2) (arrOf st)=out.toArray) (n:failedOf st=J) (j:Ao vs out) (hz:vs.length<=Ax) (q:∀s',Inv X pins I (AK H D (.lst vs)) s'->P (.done (.ret .none)) s'):wpAny (Ag prog w) A (ksk_tail D O' e (.ref c) st) P E s:=by
 obtain⟨gk,o⟩:=d.pinGet (a:=c) (De _ Bj);obtain⟨p,hd⟩:=d.pinGet (a:=D) (Gw _<|De _ Bj);obtain⟨n2,u,k⟩:=d.unpinned.rawset (f:=λ_=>(T' [])) (its':=[]) o (m.more ne) gk rfl;refine Al<|NM gk rfl ?_ (by simpa using g) (by simp);refine Al<|wpAny_letGo ?_;obtain⟨b,_⟩:=k.pinGet (a:=D) (De _ Bj);refine Al<|seqEpoch_at b rfl ?_;obtain⟨n3,r,t⟩:=k.unpinned.rawset (f:=λ_=>out.toArray) (its':=out) hd i b rfl;erw[Ew,if_false,h];refine Al<|NM b rfl ?_ (by simp) (by simp;exact Kw (show out.length<=Ax by rw[<- j.length];exact hz));rw[n];erw[show(e != e)=O' by simp,Ew,if_false];exact AQ<|q _<|t.catch hd i r j hz
variable{k:Nat}{fn:Ac}{fd:B3}{F:U Sl->O Rv}
theorem rK(j:AO X.prog X.w X.K X.mg X.base Bd k fn fd ps (A4 X.K F))(h:Binds X.K fd ps [])(W:Inv X pins I H s)(A:Ah)(t:AE k A)(B:CU X.prog X.w X.K X.mg X.base A X.stack s H)(l:∀a,N a->H a≠J){x:D}{v:V}(d:Ar X.K N H x v)(C:RelV v u){r:Rv}(m:F [.val x]=Z r) {Q:AI} (q:∀i s' c H',Inv X pins I H' s'->Aj H H'->Ar X.K N H' (DA F x) c->RelV c i->Q i s'):wpAny (Ag X.prog X.w) A (call (.ref fn) [u]) Q E s:=by
 have f:A4 X.K F [v] H (λc H'=>Aj H H'/\Ar X.K N H' (DA F x) c) E0:=by
  refine#[N,[.val x],r,l,?_,m,λc H' n o=>#[n,?_]]
  ·exact#[v,[],rfl,d,rfl]
  ·have e:DA F x=C3 r:=by unfold DA;rw[m];rfl
   rw[e];cases r with|val y=>exact o|own Y p=>
    obtain⟨a,G,P,L,M,R⟩:=o;exact#[a,G,P,.of (λz=>l a z L) M,R.nw λb h=>.inl<|.inl h]
 have T:([u]:U Aa).length=ps.length:=by
  have:=j.len _ _ _ _ f;simp_all
 refine wpAny_call<|Ko (j.run A X.stack s H ⟨[u],[]⟩ [u] [v] _ E0 t B (by simpa using h s [u] W.kIn (by simpa using T)) (.cons C .nil) f) λr s' g=>?_;cases r with|error e=>exact BS g|ok p=>
  cases p with
  |ret i=>
   obtain⟨c,H',I',S,n,hd⟩:=W.after g;grind
  |next=>exact BS g
  |brk=>exact BS g
  |cont=>exact BS g
set_option tactic.hygienic true in
theorem Aj.none{H H':Hp}(h:Aj H H'){a:Ac}(e:H' a=J):H a=J:=by
 cases q:H a with
 |none=>rfl
 |some o=>rw[h a o q]at e;cases e
theorem rL(Fo:AO X.prog X.w X.K X.mg X.base Bd k fn fd ps (A4 X.K F))(hb:Binds X.K fd ps [])(A:Ah)(hr:AE k A)(hu:A.units+40<Aq)(hA:∀s H,CU X.prog X.w X.K X.mg X.base X.A X.stack s H->CU X.prog X.w X.K X.mg X.base A X.stack s H) {g h:Ac} {y e0:Nat} (zA:Inv X (pins++[(g,Dt [] y)]++[(h,Dt [] e0)]) I H s) (nh:∀a,N a->H a≠J) {items:U Aa} {xs:U V} {c:U D} (fD:Off X pins g) (B:Off X pins h) (ne:g≠h) (C:Ao xs items) (G:Ad X.K N H c xs) (ok:Bh F c) {P:PySem.Fin->Ab->Prop} (q:∀s' H' vs,Inv X pins I (AK H' g (.lst vs)) s'->Aj H H'->H' g=J->Ad X.K N H' (ET (Co F) c) vs->P (.done (.ret .none)) s'):wpAny (Ag X.prog X.w) A (ksk_rest g (.ref fn) O' items.toArray y (.ref h)) P E s:=by
 have l1:=G.length;have l2:=C.length;have few:=ok.few;have hsl:Ax=16777216:=IT;refine Al<|Ja ?_;refine Al<|wpAny_forIn_array' _ (λAB _ s'=>∃(done:U Aa) (H':Hp) (i:U Aa) (d:U V) (L:Nat),items=done++AB/\i.length=done.length/\Inv X (pins++[(g,Dt [] y)]++[(h,Dt i L)]) I H' s'/\Aj H H'/\Ao d i/\Ad X.K N H' ((c.take done.length).map<|DA F) d) _ ?_ ?_ items.toArray PUnit.unit ?_
 ·rintro u AB b s1 ⟨done,H1,i,d,L,n,hl,l,sm,M,o⟩;have S:done.length<c.length:=by
   grind
  have t:c[done.length]?=Z c[done.length]:=BW S;generalize c[done.length]=x at t;obtain⟨v,hv,dv⟩:=G.get t;have ru:RelV v u:=by
   have:=NJ C [done.length];cases this with
   |cons a _=>
    simp_all
  obtain⟨r,hF⟩:=ok.tells x<|Fn t;refine Al<|wpAny_attempt ?_;refine rK (N:=N) Fo hb l A hr (hA _ _ l.env0) (λa Q z=>nh a Q<|sm.none z) (dv.same sm) ru hF λT s2 v' H2 I2 m W Y=>?_;obtain⟨gk,hk⟩:=I2.pinGet (a:=h) (De _ Bj);obtain⟨n3,g3,I4⟩:=I2.unpinned.rawset (f:=λx=>x.push T) (its':=i++[T]) hk (B.more ne) gk (by simp);refine Al<|NM gk rfl ?_ (by simp;lia) (by simp;lia);refine AQ ?_;refine⟨done++[u],H2,i++[T],d++[v'],n3,by rw[n];simp,by simp[hl],I4.pin1 hk (B.more ne) g3<|Tj _ _,sm.trans m,M.append<|.cons Y .nil,?_⟩;have e:(c.take (done++[u]).length).map (DA F)=(c.take done.length).map (DA F)++[DA F x]:=by
   rw[Ej,Kv,List.take_succ,t];simp
  rw[e];exact(o.same m).append<|Ad.cons W Ad.nil
 ·rintro b s1 ⟨done,H1,i,d,L,n,hl,l,sm,M,o⟩;rw[DO]at n;subst n;obtain⟨gk,hk⟩:=l.pinGet (a:=h) (De _ Bj);obtain⟨gd',hd⟩:=l.pinGet (a:=g) (Gw _<|De _ Bj);refine Al<|listItems_at gk rfl ?_;rw[Nv (by lia)]at o;refine rH (N:=N) l A hu ok o M (by lia) λp st hp hs Q hf=>?_;have hpl:p.length=c.length:=by have:=hp.length_eq;simpa using this
  refine rJ A l fD B ne (by lia) Q hf (NJ C p) (by rw[A9];lia) λs' R=>?_;refine q s' H1 _ R sm hd ?_;rw[<- hs];exact Ti (G.same sm) p λj hj=>by have:=hp.subset hj;simpa using this
 ·exact#[[],H,[],[],e0,by simp,rfl,zA,Aj.refl H,.nil,Ad.nil]
theorem rM(C:AO X.prog X.w X.K X.mg X.base Bd k fn fd ps (A4 X.K F))(G:Binds X.K fd ps [])(A:Ah)(z:AE k A)(L:A.units+40<Aq)(M:∀s H,CU X.prog X.w X.K X.mg X.base X.A X.stack s H->CU X.prog X.w X.K X.mg X.base A X.stack s H) (W:Inv X pins I H s) (R:∀a,N a->H a≠J) {c:Ac} {items:U Aa} {Q:Nat} {xs:U V} {j:U D} (g:s.heap.get? c=Z (Dt items Q)) (r:H c=J) (l:Off X pins c) (t:Ao xs items) (v:Ad X.K N H j xs) (ok:Bh F j) {P:PySem.Fin->Ab->Prop} (q:∀s' H' vs,Inv X pins I (AK H' c (.lst vs)) s'->Aj H H'->H' c=J->Ad X.K N H' (ET (Co F) j) vs->P (.done (.ret .none)) s'):wpAny (Ag X.prog X.w) A (ksk_tree c (.ref fn) O') P E s:=by
 have l1:=v.length;have l2:=t.length;have few:=ok.few;have T:Ax=16777216:=IT;refine Al<|listItems_at g rfl ?_;obtain⟨n1,y,S⟩:=W.rawset (f:=λ_=>(T' [])) (its':=[]) r l g rfl;refine Al<|NM g rfl ?_ (by simp;lia) (by simp);refine Al<|seqEpoch_at y rfl ?_;refine Al<|wpAny_newTuple ?_ (by simp;lia);generalize m:({heap:=s.heap.update c<|Fq λx=>(T' []),gens:=s.gens,drawn:=s.drawn,toks:=s.toks,os:=s.os}:Ab)=d at *;have n:=S.kept (t':=d.toks) (λb u e=>Bn {cls:=.type "tuple",data:=.seq items.toArray} e);generalize p:({heap:=d.heap.push {cls:=.type "tuple",data:=.seq items.toArray},gens:=d.gens,drawn:=d.drawn,toks:=d.toks,os:=d.os}:Ab)=i at *;have h:i.heap.get? c=Z (Dt [] n1):=p ▸ (Bn {cls:=.type "tuple",data:=.seq items.toArray} (show d.heap.get? c=Z (Dt [] n1) by rw[<- m];exact y));refine Al<|wpAny_newList ?_ (by simp);have B:=n.off<|Bc i.heap.objs.size;exact FH<|rL (N:=N) C G A z L M (((n.kept (t':=i.toks) (λb u e=>Bn (Dt [] 0) e)).pin1 r l (Bn (Dt [] 0) h) (Tj _ _)).pin1 n.fresh (B.more<|BY<|Bp h) (B2 i.heap (o:=Dt [] 0) rfl) (Tj _ _)) R l B (BY<|Bp h) t v ok q
theorem rN(r:AO X.prog X.w X.K X.mg X.base Bd k fn fd ps (A4 X.K F))(j:Binds X.K fd ps [])(m:AE (k+2) X.A)
  (S:Inv X pins I H s) (t:∀a,N a->H a≠J) {xs:U V} {h:U D} (v:BJ X.K H a xs) (x:Ad X.K N H h xs) (ok:Bh F h) {Q:VK}
  (q:∀f vs H',Aj H H'->H f=J->H' f=Z (.lst vs)->Ad X.K (λb=>N b\/b=f) H' (ET (Co F) h) vs->Q (.ref f) H'):
  wpAny (Ag X.prog X.w) X.A (call (.builtin "sorted") [.ref a] [("key",.ref fn)]) (EP X pins I Q) X.xe s:=by
 obtain⟨c,p,⟨o,n,B,C,E,hd⟩,hz⟩:=S.list v
 have l2:=p.length
 refine wpAny_call (Tk plain_sorted entry_sorted ?_)
 refine AQ ?_
 show wpAny _ _ (do checkCount "sorted" 1 1 1;let y <- collect (.ref a);let l <- newList y;let _ <- Dw [l] (call (.builtin "list.sort") [l] [("key",.ref fn)]);ret l) _ _ _
 refine Al (AQ ?_)
 refine Al (wpAny_collect_seq a (T:="list") (.inl rfl) B C hd (λG L=>?_) (by simp;lia))
 have d:=S.kept (t':=s.toks) L
 refine Al (wpAny_newList ?_ (by simp;lia))
 generalize R:({heap:=G,gens:=s.gens,drawn:=s.drawn,toks:=s.toks,os:=s.os}:Ab)=i at *
 have g:=B2 i.heap (o:=Dt c 0) rfl
 refine Al (FH ?_)
 refine wpAny_call (Tk PySem.F.slot_list_sort.plain PySem.F.entry_list_sort ?_)
 refine PySem.F.slot_list_sort.check _ _ _ _ _ _ _ _ #[_,g,rfl] rfl ?_
 refine rM (N:=N) r j X.A.in1.in1 m.in1.in1 ?_ (λs H e=>e.in1.in1) (d.kept (t':=i.toks) (λb u e=>Bn (Dt c 0) e)) t g d.fresh (d.off (Bc i.heap.objs.size)) p x ok λs' H' vs P sm Y dv=>?_
 ·have:=m.un;show X.A.units+1+1+40<_;lia
 ·refine AQ ?_
  refine#[.ref _,_,P,rfl,q _ vs _ (λb u e=>?_) d.fresh ZZ ?_]
  ·rw[Zn (λz=>by rw[z,d.fresh]at e;cases e)];exact sm b u e
  ·exact Ad.step (M:=λ_=>False) #[λb u e z=>by
    rw[Zn (λz=>by rw[z,Y]at e;cases e)];exact e,λb j=>by
    grind] _ _ dv
end
section
variable{M:Fb}{k:Nat}{fn:Ac}{fd:B3}{F:U Sl->O Rv}{e:Expr}{f:AD}{x y:Ae}{p kpos:AC}
def KS(F:U Sl->O Rv)(f:AD):VE->A2:=λa=>match f a with
 |some (.lst b)=>GR F b
 |_=>J
set_option tactic.hygienic true in
theorem rO(W:AO X.prog X.w X.K X.mg X.base Bd k fn fd ps (A4 X.K F))(Y:AE (k+2) X.A)(hg:Gl X x)(hm:X.mg x=J)(hv:DY x=Z (.builtin "sorted"))(l:Gl X y)(m:X.mg y=Z (.ref fn))(hb:Binds X.K fd ps [])(n:JE X e (tP X.K M H0 f)) (hn:x≠"__name__":=by ext) (o:Cj x:=by ext) (d:Cj y:=by ext) (G:Az [e] X.env=(O',An e X.env)::Az [] X.env:=by exact ZI rfl):JE X (.Call (.Name x p) [e] [#[Z "key",.Name y p2,kpos]] pos) (tF X.K M H0 (KS F f)):=#[have n:=n.h;by
 rintro b s g H Q zA ⟨r,ys,R,i,q⟩;refine Kp<|Hc zA hg hm hv ?_ hn o;unfold KS at i;split at i
 ·next P hf=>
  obtain⟨ok,rfl⟩:=Th i;have L:=(Eu n (Bk (X:=X)) G) pos b s g H (λj c=>∃v,j=[v]/\Aj H c/\Aw X.K (Nf M r g) c (.lst P) v) zA #[r,.lst P,R,hf,λv c t d1=>#[v,rfl,t,d1]];rw[G]at L ⊢;refine callWith_builtin_kwB rfl rfl ?_;refine Al<|AV L λus t z=>?_;obtain⟨j,c,I1,r1,v,rfl,sm,a,ws,rfl,sq,dl⟩:=z;refine Al<|AQ ?_;refine FH ?_;refine Al<|AV ((mW (nm:=Z "key") (kpos:=kpos) (R6 (v:=.ref fn) (pos:=p2) l m rfl d) (mV (X:=X))) pos b t g c (λS T=>S=[.ref fn]/\T=c) I1 #[rfl,rfl]) λks s2 z=>?_;obtain⟨S,T,I2,r2,rfl,rfl⟩:=z;refine Al<|AQ ?_;refine AQ ?_;obtain⟨u,rfl,ru⟩:=E4 r1;obtain⟨u2,rfl,B⟩:=E4 r2;cases B;cases ru;exact rN (N:=Nf M r g) W hb Y I2 (R.st sm).nh sq dl ok λda j H' s' C E dv=>q da j H' (sm.trans s') (sm.none C) E dv
 ·cases i]
end
end L2
variable{kvs:L2.Br}
namespace L2
open PySem PySem.Spec PyProof.Rows
section
@[simp] theorem ZCb(xs:U D):Ys (.lst xs)=Z xs:=rfl
end
open PySem.W
theorem rP:typeLookup (.type "list") ("keys":Ae)=Ay J:=am_miss_of_fast (by kernel_rfl)
theorem rQ{prog:AJ}{w:Ai}{A:Ah}{s:Ab}{f:Array Aa}{Q:O Aa->Ab->Prop}(p:PlainL s.heap a f)(i:A.handled=J) (q:∀h' h,(∀b o,s.heap.get? b=Z o->h'.get? b=Z o)->Q J {s with heap:=h',toks:=h}):wpAny (Ag prog w) A (getAttr? (.ref a) "keys") Q E s:=by
 obtain⟨⟨c,u,v,j⟩,n,e,k,hd,l⟩:=p;subst k hd l;obtain⟨m,g,d,h,os⟩:=s;have ty:∀t,(#[m,g,d,t,os]:Ab).TypeIs (.ref a) "list":=λ_=>#[_,e,rfl];have l1:=sub_AttributeError;have x:=F.slot_list_getattribute.lookup;have y:=F.slot_list_getattribute.bind<|.ref a;have l4:=am_list_getattr_none;unfold getAttr? getAttrBy? getAttrBy;repeat(any_goals(first
  |assumption
  |exact ty _
  |((with_reducible show wpAny _ _ (call (Value.builtin "list.__getattribute__") _ _) _ _ _)
    refine Jd F.slot_list_getattribute (ty _) am_entry_list_getattribute (F.args_list_getattribute_2 _ _) (meets_getattribute_miss_list a f n j "keys" _ rP (by decide +kernel) (by decide +kernel)) #[e,i,λr z B new=>?_])
  |wp_step))
 obtain⟨C,G,ex⟩:=new.there;unfold getattributeRaised;repeat(any_goals(wp_step))
 exact q r _ new.keeps
theorem aP:entryFor table "dict.update.loop"=Z Ex.«dict.update.loop»:=entryFor_of_tree (by kernel_rfl)
theorem aQ:plainId "dict.update.loop"=J':=by decide +kernel
theorem aR{K:Am}{k:KT}{v:V}(h:ED K H k v)(s:Aj H H'):ED K H' k v:=by
 cases k with
 | «at» a=>exact h
 |tup l=>obtain⟨p,e,b⟩:=h;exact#[p,e,b.same s]
noncomputable def GS:Br->U D->O Br
 |a,[]=>Z a
 |a,.tup [y,d]::r=>match Ds y with
  |some k=>if Dy k a&&decide (a.length<Ax)then GS (Z4 a k d) r else J
  |none=>J
 |_,_=>J
theorem rR{M:Model}{A:Ah}{s:Ab}{p:Ac}{a:Array Aa}{Q:U Aa->Ab->Prop}(h:IsTup s.heap p a)(q:Q a.toList s):wpAny M A (Builtin.Dict.pairItems (.ref p)) Q E s:=by
 obtain⟨o,e,b,n,hd⟩:=h;refine Al<|Lz (T:="tuple") #[o,e,b] ?_;refine Al<|Al<|wpAny_load e ?_;rw[hd];exact AQ<|AQ q
section
variable{A:Ah}{it l:Ac}{N:Fb}{us:U Aa}
set_option tactic.hygienic true in
theorem aS(hu:A.units+1<Aq)(hA:A.in1.handled=J)(G:H a=J)(f:FJ X pins H it)(h:it≠a)(n:l≠it)(x:l≠a):∀(F:U D)(vs:U V)(ws:U Aa)(i:Nat)(s:Ab)(kvs:Br)(tr:U T3)(c:Br),
  us.drop i=ws->Ao vs ws->Ad X.K N H F vs->PD X.K N H kvs tr->Inv X pins I (AK H a (ES tr)) s->s.heap.IsListIter it l i->s.heap.IsList l us.toArray->GS kvs F=Z c ->
  (∀s' z,Inv X pins I (AK H a (ES z)) s'->PD X.K N H c z->R (.ok (.ret .none)) s') ->
  codeAny (Ag X.prog X.w) A (.builtin "dict.update.loop" #[[.ref a,.ref it,AZ (i:Int),.none],[]]) R s
 |[],vs,ws,i,s,kvs,tr,c,hd,P,Q,m,W,j,L,g,q=>by
  cases Q
  cases P
  cases g
  refine Jh aP ?_
  have T:us.toArray[i]?=J:=by
   have:=List.drop_eq_nil_iff.mp hd
   simp[this]
  refine Al (wpAny_pyNext_list_end hA j L T λh' ke=>?_)
  have M:=W.turned (t':=s.toks) (λb o S e=>ke b o S e) (Zn h ▸ f.1) f.2.1 f.2.2.2.1 f.2.2.2.2.1 f.2.2.2.2.2
  exact Al (AQ (AQ (q _ tr M m)))
 |d::F,vs,ws,i,s,kvs,tr,c,hd,P,Q,m,W,j,L,g,q=>by
  obtain⟨v,Y,rfl,d1,dn'⟩:=Q
  cases P with
  |@cons _ u _ B rv hv'=>
  unfold GS at g
  split at g
  ·cases ‹_::_=[]›
  ·next y dd r e1=>
   cases e1
   cases hk:Ds y with
   |none=>rw[hk]at g;cases g
   |some k=>
    rw[hk]at g
    obtain⟨hc,g⟩:=ZV g
    rw[C4,decide_eq_true_eq]at hc
    have ey:=Ju hk
    subst ey
    obtain⟨p,vs2,rfl,sq,kv,r2,rfl,dk,vv,r3,rfl,dv,rfl⟩:=d1
    cases rv
    have hat:us.toArray[i]?=Z (.ref p):=by
     simpa using(show(us.drop i)[0]?=Z (B8 p) by rw[hd];rfl)
    have hd':us.drop (i+1)=B:=by
     rw[<- List.tail_drop,hd];rfl
    refine Jh aP ?_
    refine Al (wpAny_pyNext_list_item j L hat λh' C sb=>?_)
    have M:=W.turned (t':=s.toks) (λb o S e=>(sb.2 b S).trans e) (Zn h ▸ f.1) f.2.1 f.2.2.2.1 f.2.2.2.2.1 f.2.2.2.2.2
    obtain⟨its,rv2,ht,_⟩:=M.tuple (sq.same (ZT G))
    obtain⟨u1,u2,rfl,r1,r2⟩:=M1 rv2
    refine Al (FH ?_)
    refine Al (wpAny_tryCatch (rR ht ?_))
    refine FH ?_
    refine ak J' hu M ZZ (λt ht=>aR (m.keys t ht) (ZT G)) (m.hom hc.1) (aR (Jv dk) (ZT G)) r1 r2 (by have:=Gu m;lia) λh2 t2 I2 E=>?_
    rw[kT]at I2
    refine AQ #[LF aQ _,?_]
    refine aS hu hA G f h n x F Y B (i+1) _ (Z4 _ k dd) (En tr k kv vv) c hd' hv' dn' (m.put dk dv) I2 ?_ ?_ g q
    ·obtain⟨o,e,hh⟩:=C
     exact#[o,(E.2 it h).trans e,hh]
    ·exact(L.at λo e=>(sb.2 l n).trans e).at λo e=>(E.2 l x).trans e
  ·cases g
theorem rT(t:X.calm=J')(hu:X.A.units+64<Aq){s:Ab}{Q:VK}(P:Inv X pins I H s){j:U D}(G:BJ X.K H l vs)(v:Ad X.K N H j vs)(L:GS [] j=Z kvs) (q:∀tr p,H p=J->PD X.K N H kvs tr->Q (.ref p) (AK H p (ES tr))):wpAny (Ag X.prog X.w) X.A (call (.type "dict") [.ref l]) (EP X pins I Q) E s:=by
 obtain⟨us,M,u,hz⟩:=P.list G;have g:l<s.heap.objs.size:=by obtain⟨o,n,e,_⟩:=u;exact Bp e
 refine callType_codes (Q₁:=λx y=>x=.ref s.heap.objs.size/\y={s with heap:=s.heap.push {cls:=.type "dict",data:=.dict (T' [])} }) F.kt_called_dict (F.kt_typeCall_dict_1 (.ref l)) F.entry_dict_init (kt_code_dict_new (.ref l) #[rfl,rfl]) ?_;rintro x y ⟨rfl,rfl⟩;have c:PlainL (s.heap.push {cls:=.type "dict",data:=.dict (T' [])}) l us.toArray:=by
  obtain⟨o,n,e,h⟩:=u;exact#[o,n,Bn _ e,h]
 refine#[#[_,B2 _ rfl,rfl],F.args_dict_init_2 _ _,?_];refine Al<|Al<|wpAny_notOrdered_dict ⟨_,B2 _ rfl,rfl⟩ ?_;refine AQ ?_;show wpAny _ _ (Builtin.Dict.updateFrom "dict.__init__" s.heap.objs.size (.ref l) [] .none) _ _ _
 refine Al<|Lz (T:="list") (by obtain⟨o,n,e,h,_⟩:=c;exact#[o,e,h]) ?_;refine Al<|rQ c (P.ok.hd t) λf B k=>?_;have m:=(P.laid (a:=s.heap.objs.size) (o:=ES []) (t':=s.toks) (λ_ _ z=>Bn _ z) (Bc _) #[F8 _,beq_eq_false_iff_ne.mpr<|Bv<|BY P.big,List.nodup_nil,_,(T' []),0,B2 _ rfl,⟨rfl,rfl,rfl⟩,rfl,rfl,rfl]).kept (h':=f) (t':=B) k;have i:PlainL f l us.toArray:=by
  obtain⟨o,n,e,h⟩:=c;exact#[o,n,k _ _ e,h]
 refine Al<|Ja ?_;refine Al<|O8 i.isList ?_;have d:s.heap.objs.size<f.objs.size:=Bp<|k _ _<|B2 _ rfl;have C:FJ X pins H f.objs.size:=m.fpOk (Bc _) (by
  have:=m.hok.fresh (a:=f.objs.size) (Bc _);rw[Zn<|Gz d]at this;exact this)
 refine AQ #[LF aQ _,?_];refine aS (A:=X.A.in1) (N:=N) (us:=us) (by show X.A.units+1+1<Aq;lia) (P.ok.hd t) (P.hok.fresh<|Bc _) C (Gz d) (BY<|HX g d) (BY g) j vs us 0 _ [] [] kvs rfl M v .nil (m.kept (h':=f.push {cls:=.type "list_iterator",data:=.fields (T' [.ref l,.int 0 0])}) (t':=B) λb o e=>Bn _ e) #[_,B2 _ rfl,rfl,rfl] ?_ L λs' r Y pd=>?_
 ·exact i.isList.push _
 ·exact#[rfl,.ref s.heap.objs.size,_,Y,rfl,q r _ (P.hok.fresh<|Bc _) pd]
end
theorem rV:DY "dict"=Z (.type "dict"):=by kernel_rfl
def Io(f:AD):VE->A2:=λa=>match f a with
 |some (.lst b)=>(GS [] b).map Zb
 |_=>J
section
variable{M:Fb}{e:Expr}{f:AD}{p:AC}
set_option tactic.hygienic true in
theorem rW(x:X.calm=J')(y:X.A.units+64<Aq)(z:Gl X "dict")(B:X.mg "dict"=J)(l:JE X e (tP X.K M H0 f))(r:Az [e] X.env=(O',An e X.env)::Az [] X.env:=by exact ZI rfl):JE X (.Call (.Name "dict" p) [e] [] pos) (EO .d X.K M H0 (Io f)):=#[have l:=l.h;by
 rintro g s i H Q W ⟨j,Y,R,c,q⟩;unfold Io at c;split at c
 ·next m C=>
  obtain⟨n,E,c⟩:=BN.mp c;cases c;refine Call_<|Hc W z B rV<|MW (AV ((Eu l (Bk (X:=X)) r) pos g s i H (λo k=>∃v,o=[v]/\Aj H k/\Aw X.K (Nf M j i) k (.lst m) v) W #[j,.lst m,R,C,λv k t G=>#[v,rfl,t,G]]) λus t F=>?_) (by rw[r]) rfl;obtain⟨o,k,L,N,v,rfl,sm,a,ws,rfl,P,dl⟩:=F;obtain⟨u,rfl,T⟩:=E4 N;cases T;refine rT x y L P dl E λtr b S w=>?_;have:=Nb (K:=X.K) (M:=M) (ρ:=j) (I:=i) (fl:=.d) (Q:=Q) (xs:=Zb n) (vs:=DQ tr) (p:=b) sm S w.flat q;rw[KN w]at this;grind
 ·cases c]
end
section
variable{K:Am}{M:Fb}
theorem rX{st:Av}:JS X st (tS K M H0 λ_=>.fail):=#[λa s b H D d ⟨c,R,q⟩=>BS q]
end
structure Gg(K:Am)(C:Ac):Prop where
 ga:findIn K (.ref C) "__getattribute__"=Z (Z (.builtin "BaseException.__getattribute__"))
 cl:findIn K (.ref C) "__class__"=Z (Z (.builtin "object.__class__"))
 gr:findIn K (.ref C) "__getattr__"=Z J
 bx:subIn K (.ref C) (.type "BaseException")=Z J'
 ob:subIn K (.ref C) (.type "object")=Z J'
 ty:typeIn K (.ref C)=Z (.type "type")
 is:∃cd,clsIn K C=Z cd
section
variable{prog:AJ}{w:Ai}{A:Ah}{h:Ak}{g:Array GenState}{d:Drawn}{t:Nat}{os:OsState}{e:Ac}{K:Am}
theorem rY(X:K.In h)(F:Gg K C)(p:E8 e C h)(c:R (.ok (.ret (.ref C))) #[h,g,d,t,os]):codeAny (Ag prog w) A (.call (.builtin "getset_descriptor.__get__") #[[.builtin "object.__class__",.ref e,.ref C],[]]) R ⟨h,g,d,t,os⟩:=by
 obtain⟨o,f,a,b,i⟩:=p;refine Tk PySem.F.slot_gs_get.plain PySem.F.entry_gs_get<|PySem.F.slot_gs_get.check _ _ _ _ _ _ _ _ PySem.F.typeOf_object_class (PySem.F.args_gs_get _ _ _) ?_;repeat(any_goals(first|assumption|(with_reducible refine P2 a ?_;rw[b])|(with_reducible refine Looks.at (show Looks (Ag prog w) h (isSubtype (.ref C)<|.type<|".".intercalate ("object.__class__".cutAt '.').dropLast) J' by rw[PySem.F.owner_object_class];exact looks_subIn X F.ob) ?_)|wp_step))
 refine#[Code.quiet_builtin _ (by decide +kernel),Jh PySem.F.entry_object_class ?_];repeat(any_goals(first|assumption|(with_reducible refine P2 a ?_;rw[b])|wp_step))
theorem rZ{a:Tok}{Q:Fin->Ab->Prop}(X:K.In h)(F:Gg K C)(p:E8 e C h)(f:Q (.done (.ret (.ref C))) #[h,g,d,t,os]):wpAny (Ag prog w) A (Ex.«object.__getattribute__» #[[.ref e,.str "__class__" a],[]]) Q E ⟨h,g,d,t,os⟩:=by
 obtain⟨o,i,b,c,j⟩:=id p;have k:=PySem.F.typeOf_object_class;have l:=PySem.F.slot_gs_get.lookup;have m:=PySem.F.slot_gs_set.lookup;repeat(any_goals(first|assumption|(with_reducible refine P2 b ?_;rw[c])|(with_reducible refine Looks.at (looks_findIn X F.cl) ?_)|wp_step))
 refine rY X F p ?_;repeat(any_goals(first|assumption|wp_step))
theorem r0{M:Model}{a:Aa}(X:K.In h)(F:Gg K C)(p:E8 e C h)(b:Q () #[h,g,d,t,os]):wpAny M A (checkBuiltinCall "BaseException.__getattribute__" #[[.ref e,a],[]]) Q E ⟨h,g,d,t,os⟩:=by
 obtain⟨o,l,c,f,m⟩:=p;have i:builtinKind "BaseException.__getattribute__"=Z .slot:=by decide +kernel
 have j:splitId "BaseException.__getattribute__"=Z ("BaseException","__getattribute__"):=by decide +kernel
 have k:Looks M h (isSubtype (.ref C)<|.type "BaseException") J':=looks_subIn X F.bx;have n:=PySem.F.args_bexc_ga (.ref e) a;erw[checkBuiltinCall,i,j];refine Al ?_;unfold isInstance;repeat(first|(with_reducible refine P2 c ?_;rw[f])|(with_reducible refine Looks.at k ?_)|wp_step)
 exact b
theorem r6{a:Tok}(X:K.In h)(F:Gg K C)(p:E8 e C h)(b:R (.ok (.ret (.ref C))) #[h,g,d,t,os]):codeAny (Ag prog w) A (.call (.builtin "BaseException.__getattribute__") #[[.ref e,.str "__class__" a],[]]) R ⟨h,g,d,t,os⟩:=Tk PySem.F.excAttr_ValueError.ga.plain PySem.F.entry_bexc_ga<|r0 X F p<|rZ X F p b
theorem r9{a:Tok}{Q:AI}(X:K.In h)(F:Gg K C)(p:E8 e C h)(f:Q (.ref C) #[h,g,d,t,os]):wpAny (Ag prog w) A (getAttrBy (.ref e) (.str "__class__" a) O') Q E ⟨h,g,d,t,os⟩:=by
 obtain⟨o,i,b,c,j⟩:=id p;have k:=PySem.F.excAttr_ValueError.ga.bind<|.ref e;repeat(any_goals(first|assumption|(with_reducible refine P2 b ?_;rw[c])|(with_reducible refine Looks.at (looks_findIn X F.ga) ?_)|(with_reducible refine Looks.at (looks_findIn X F.gr) ?_)|wp_step))
 refine r6 X F p ?_;repeat(any_goals(first|assumption|wp_step))
theorem sd{s:Ab}{Q:O Aa->Ab->Prop}(X:K.In s.heap)(F:Gg K C)(p:E8 e C s.heap)(a:Q (Z (.ref C)) {s with toks:=s.toks+1}):wpAny (Ag prog w) A (getAttr? (.ref e) "__class__") Q E s:=by
 obtain⟨h,g,d,t,os⟩:=s;repeat(any_goals(first|assumption|with_reducible apply r9 X F p|wp_step))
theorem se(F:Gg K C):KitX K (.ref e) (.ref C) (E8 e C) where
 ty:=λM h X p=>by
  obtain⟨o,l,d,f,m⟩:=p;intro A Q E s k q;exact Al<|wpAny_loadPart (k _ _ d)<|AQ<|f ▸ q
 it:=λM h X _=>by
  obtain⟨g,a⟩:=F.is;unfold clsIn at a;split at a
  ·rename_i b;intro A Q E s k q;unfold isType loadHead;exact Al<|wpAny_loadPart (k _ _<|X _ _ b)<|AQ q
  ·cases a
 ne:=λh i r j n t X c=>by
  obtain⟨g,a⟩:=F.is;refine Bool.eq_false_iff.mpr λq=>?_;obtain rfl:C=i:=Value.ref.inj<|beq_iff_eq.mp q;unfold clsIn at a;split at a
  ·rename_i b;cases((X _ _ b).symm.trans c)
  ·cases a
 ca:=λX p k=>sd X F p k
end
structure Fx(B:Ak)(l:List Env)(e:Ac)(C fl:Aa)(h:Ak):Prop where
 stay:B.StaysIn h
 new:B.get? e=J
 fun_:h.FunFrames B l
 rcd:∃oe vs,h.get? e=Z oe/\oe.cls=C/\oe.data=.fields vs/\vs[2]?=Z .none/\(vs[1]?=Z .none\/∃T oT ts,vs[1]?=Z (.ref T)/\B.get? T=J/\T≠e/\h.get? T=Z oT/\oT.data=.fields ts/\ts[3]?=Z fl)
section
variable{M:Model}{A:Ah}{s:Ab}{B:Ak}{l outer:U Env}{env:Env}{e L:Ac}{C fl:Aa}
theorem Fx.outs{h:Ak}(a:Fx B (env::outer) e C fl h):Fx B outer e C fl h:=#[a.stay,a.new,a.fun_.2.2,a.rcd]
theorem P4{h:Ak}{b x:Ac}{o a:Obj}{ws:Array Aa}(c:h.get? b=Z o)(nf:∀vs,o.data≠.fields vs)(d:h.get? x=Z a)(e:a.data=.fields ws):b≠x:=by grind
theorem aT{head:Aa}{R:Bool}{j:Obj}{vs:Array Aa}(n:A.frames=Z (env::outer))(F:env.frame=Z L)(st:B.StaysIn s.heap)(nw:B.get? e=J)(k:s.heap.FunFrames B (env::outer))
  (l:s.heap.get? e=Z j) (N:j.cls=C) (f:j.data=.fields vs) (K:vs[2]?=Z .none) (hz:1<vs.size) (q:∀h',Fx B (env::outer) e C (AZ L) h'->s.heap.UpToSlots h'->Q () {s with heap:=h' }):
  wpAny M A (do let a <- frameOf env;let pl <- entryPlaceOf L R;let b <- EntryCells.newEntry head a .none (AZ L) .none pl;setField (.ref e) 1 b) Q E s:=by
 have T:e∉(env::outer).filterMap (·.frame):=λp=>by
  obtain⟨_,o,g,z⟩:=k.mem p
  rw[l]at g;cases g;exact z vs f
 refine Al (wpAny_frameOf_fun n k F λc sg=>Al (wpAny_entryPlaceOf λv r=>?_))
 unfold EntryCells.newEntry newFields;refine Al (Jb ?_ (r.sizeOk5 _ _ _ _ _))
 have t:c.get? e=Z j:=(sg.2.1 e T).trans l
 have w:B.StaysIn c:=λb o z=>(sg.2.1 b λp=>by rw[(k.mem p).1]at z;cases z).trans (st b o z)
 generalize g:({cls:=.type "traceback",dict:=J,data:=.fields ([head,.ref L,.none,AZ L,.none]++(if v.isEmpty then CV 6 Gs else v)).toArray}:Obj)=i
 obtain⟨m,P,Y⟩:=(show ∃m,i.data=.fields m/\m[3]?=Z (AZ L) by subst g;exact#[_,rfl,by simp])
 have x:=Bn (h:=c) i t
 refine NN x f hz (q _ ?_ ?_)
 all_goals
  have G:=L7 f (·.setIfInBounds 1 (B8 c.objs.size))
  have kp:∀b o,b≠e->c.get? b=Z o->((c.push i).update e (Obj.mapFields (·.setIfInBounds 1 (B8 c.objs.size)))).get? b=Z o:=λb o z d=>by
   rw[LB _ _ (Bv z)];exact Bn _ d
 ·refine#[λb o z=>kp b o (λy=>by rw[y,nw]at z;cases z) (w b o z),nw,k.of_keeps λb o d nf=>?_,_,_,(M6 (Obj.mapFields (·.setIfInBounds 1 (B8 c.objs.size))) x (Tl G)),(Obj.cls_mapFields _ _).trans N,G,by rw[Array.getElem?_setIfInBounds_ne (by ext)];exact K,.inr #[c.objs.size,i,m,by simp[hz],w.fresh,(Gz (Bp t)),?_,P,Y]]
  ·obtain⟨H,u⟩:=sg.2.2 b o d
   exact#[_,kp b _ (P4 d nf l f) u,rfl]
  ·rw[LB _ _ (Bv (Gz (Bp t)))];exact B2 c (show i.isFreed=O' by subst g;rfl)
 ·intro b o d nf
  obtain⟨H,u⟩:=sg.2.2 b o d
  exact#[H,kp b _ (P4 d nf l f) u]
theorem aU{T:Ac}{f g:Obj}{h:Array Aa}{v:Aa}(st:B.StaysIn s.heap)(k:s.heap.FunFrames B l)(m:s.heap.get? e=Z g)(n:B.get? T=J)(ne:T≠e)(d:s.heap.get? T=Z f)(a:f.data=.fields h)(hz:3<h.size) (q:∀h',B.StaysIn h'->h'.FunFrames B l->h'.get? e=Z g->(∃i j,h'.get? T=Z i/\i.data=.fields j/\j[3]?=Z v)->s.heap.UpToSlots h'->Q () {s with heap:=h' }):wpAny M A (setField (.ref T) 3 v) Q E s:=by
 refine NN d a hz ?_;have GU:∀b,b≠T->(s.heap.update T<|Obj.mapFields (·.setIfInBounds 3 v)).get? b=s.heap.get? b:=λb z=>LB _ _<|Bv z;refine q _ (λb o z=>(GU b λy=>by rw[y,n]at z;cases z).trans (st b o z)) (k.of_keeps λb o c nf=>#[o,(GU b<|P4 c nf d a).trans c,rfl]) ((GU e<|Bv ne).trans m)
  #[_,_,M6 _ d<|Tl<|L7 a _,L7 a _,by simp[hz]] λb o c nf=>#[o.slots,(GU b<|P4 c nf d a).trans c]
theorem aV(b:A.frames=Z (env::outer))(g:env.frame=Z L)(a:Fx B (env::outer) e C .none s.heap)(q:∀h',Fx B (env::outer) e C (AZ L) h'->s.heap.UpToSlots h'->Q () {s with heap:=h' }):wpAny M A (noteFrame (.ref e) env) Q E s:=by
 obtain⟨st,nw,k,v,w,c,d,f,l,r⟩:=a;unfold noteFrame;erw[g];rcases r with r|⟨T,x,y,r,p,ne,m,n,o⟩
 ·refine Al<|D9 c f r ?_;rw[if_neg (by ext)];exact aT b g st nw k c d f l (Tn.mp r).1 q
 ·refine Al<|D9 c f r ?_;rw[if_pos (show(B8 T != Gs)=J' by simp)];refine Al<|D9 m n o ?_;rw[if_neg (show ¬ (Gs==AZ L)=J' by simp[AZ])];refine Al<|aU st k c p ne m n (Tn.mp o).1 λh' h i j _ u=>?_;exact aT (s:={s with heap:=h' }) b g h nw i j d f l (Tn.mp r).1 λd a t=>q d a (u.trans t)
theorem To(a:Fx B l e C fl s.heap)(q:∀h',Fx B l e C .none h'->s.heap.UpToSlots h'->Q () {s with heap:=h' }):wpAny M A (setFlight (.ref e) J) Q E s:=by
 obtain⟨st,nw,h,i,j,b,k,c,m,r⟩:=a;unfold setFlight;rcases r with r|⟨T,G,H,r,n,ne,o,p,t⟩
 ·refine Al<|D9 b c r ?_;rw[if_neg (by ext)];exact AQ<|q s.heap ⟨st,nw,h,i,j,b,k,c,m,.inl r⟩<|.refl _
 ·refine Al<|D9 b c r ?_;rw[if_pos (show(B8 T != Gs)=J' by simp)];exact aU st h b n ne o p (Tn.mp t).1 λh' d f g ⟨v,w,x,y,z⟩ u=>q h' #[d,nw,f,i,j,g,k,c,m,.inr #[T,v,w,r,n,ne,x,y,z]] u
theorem sf(b:A.frames=Z (env::outer))(c:env.frame=Z L)(a:Fx B (env::outer) e C .none s.heap)(q:∀h',Fx B outer e C .none h'->s.heap.UpToSlots h'->Q () {s with heap:=h' }):wpAny M A (leaving env (.ref e)) Q E s:=by
 exact Al<|aV b c a λd f g=>To (s:={s with heap:=d}) f λh i j=>q h i.outs (g.trans j)
theorem _root_.L2.AY.ob{P:AJ}{w:Ai}{H:Hp}{h:Ak}{x:Ac}{o:HO}(z:AY P w H h x o):∃ob,h.get? x=Z ob:=by
 cases o with
 |lst a=>obtain⟨_,_,_,_,q⟩:=z;exact#[_,q]
 |tup a=>obtain⟨_,_,_,ob,q,_⟩:=z;exact#[_,q]
 |dct c d=>obtain⟨_,_,_,ob,_,_,q,_⟩:=z;exact#[_,q]
 |ins D e b=>obtain⟨_,_,_,q,_⟩:=z;exact#[_,q]
 |own y=>exact z
 |xd b=>obtain⟨_,⟨_,_,_,q,_⟩,_⟩:=z;exact#[_,q]
 |rng lo g=>obtain⟨_,_,_,q⟩:=z;exact#[_,q]
 |frz ob u=>exact#[_,z.1]
 |tbl i=>exact#[_,z]
 |met f y=>exact#[_,z]
 |ext j=>exact z.2.1
def aX(P:AJ)(w:Ai)(l:U Env)(H H':Hp)(s:Ak)(e C:Ac)(h:Ak):Prop:=
 Aj H H'/\Un (Cg l) [] H H' s h/\∃B,B9 P w H' B/\(∀b o,s.get? b=Z o->H b=J->b∉Cg l->B.get? b=Z o)/\Fx B l e (.ref C) .none h
def Ip(P:AJ)(w:Ai):DF:=λouter H s E e b=>∃a C c,e=.ref a/\b.os=s.os/\AllBare b.gens/\aX P w outer H c s.heap a C b.heap/\E (.ref C) J c
def KU(Y:Cx)(b:AR)(I:St)(H:Hp)(C:Ac)(e:Aa)(s':Ab):Prop:=
 ∃a c f d,e=.ref a/\Inv Y b I c d/\Aj H c/\s'.os=d.os/\AllBare s'.gens/\aX Y.prog Y.w Y.stack c f d.heap a C s'.heap
theorem KU.from{b:AR}{d:Hp}{C:Ac}{v:Aa}(sm:Aj H d)(t:KU Y b I d C v s'):KU Y b I H C v s':=by
 obtain⟨a,e,f,g,h,i,c,r⟩:=t;exact#[a,e,f,g,h,i,sm.trans c,r]
theorem aY{fs:U Ac}{l:U Env}{m:Hp}{s q h h':Ak}{P:AJ}{w:Ai}{C:Aa}(d:Un fs [] H m s q)(p:Un (Cg l) [] m H' q h)(A:B9 P w H' B)(k:∀b o,q.get? b=Z o->m b=J->b∉Cg l->B.get? b=Z o) (E:∀b o,s.get? b=Z o->H b=J->b∈Cg l->b∈fs) (sm:Aj m H') (a:Fx B l e C fl h) (st:B.StaysIn h') (up:h.UpToSlots h'):Un fs [] H H' s h':=by
 have nx:∀b:Ac,b∉([]:U Ac):=λb=>by simp
 have t:∀b o,q.get? b=Z o->m b=J->b∈Cg l->∃r,h'.get? b=Z {o with slots:=r}:=λb o z n f=>by
  obtain⟨r,c⟩:=p.any z n<|nx b;obtain⟨_,v,g,nf⟩:=a.fun_.mem f;rw[c]at g;cases g;obtain⟨i,F⟩:=up b _ c nf;simp_all
 refine#[λb o z n f _=>?_,λb o z n f _=>?_,λb o z n _=>?_,λb o z _=>?_,λb x z=>p.tups b x<|d.tups b x z,λb o u z=>p.frzs b o u<|d.frzs b o u z,λb G z=>?_]
 ·exact st b o<|k b o (d.keep b o z n f<|nx b) (d.free b o z n<|nx b) λj=>f<|E b o z n j
 ·obtain⟨r,c⟩:=d.slot b o z n f<|nx b;by_cases j:b∈Cg l
  ·obtain⟨i,g⟩:=t b _ c (d.free b o z n<|nx b) j;exact⟨i,g⟩
  ·exact#[r,st b _<|k b _ c (d.free b o z n<|nx b) j]
 ·obtain⟨v,c⟩:=d.there b o z<|nx b;exact p.free b v c (d.free b o z n<|nx b)<|nx b
 ·obtain⟨y,c⟩:=d.there b o z<|nx b;cases f:m b with
  |none=>
   by_cases j:b∈Cg l
   ·obtain⟨i,g⟩:=t b y c f j;exact#[_,g]
   ·exact#[y,st b _<|k b _ c f j]
  |some u=>
   obtain⟨K,g⟩:=(A b u<|sm b u f).ob;exact⟨K,st b _ g⟩
 ·obtain⟨L,c⟩:=d.tbls b G z;obtain⟨M,g⟩:=p.tbls b _ c;grind [Array.append_assoc]
theorem sh{P:AJ}{w:Ai}{h:Ak}{fs:U Ac}(a:B9 P w H h)(nf:∀b∈fs,H b=J):B9 P w H (hideAll h fs):=λx o z=>(a x o z).stay (λb u c q=>hideAll_get _ q λd=>by
  grind) (λ_ q=>q) λ_ _ q=>q
theorem si{a:AR}{s:Ab}{D x:Ac}{vs:U Aa}{h':Ak}(i:Inv Y a I H s)(m:Heap.MadeExcOf s.heap h' x (.ref D) vs):KU Y a I H D (.ref x) {s with heap:=h' }:=by
 have c:(hideAll s.heap<|Cg Y.stack).get? x=J:=by
  cases q:(hideAll s.heap<|Cg Y.stack).get? x with
  |none=>rfl
  |some o=>have:=of_hideAll _ q;rw[m.new]at this;cases this
 obtain⟨f,d,g,h⟩:=m.there;exact#[x,H,H,s,rfl,i,Aj.refl H,rfl,i.bare,Aj.refl H,Un.kept m.keeps,hideAll s.heap<|Cg Y.stack,sh i.hok i.stkFree,λb o z n e=>hideAll_get _ z e,#[λb o z=>m.keeps b o<|of_hideAll _ z,c,(funFrames_hide i.stack (show ∀env∈Y.stack,∀b,env.frame=Z b->b∈Y.stack.filterMap (·.frame) by grind)).of_keeps λb o z _=>#[o,m.keeps b o z,rfl],_,_,d,rfl,rfl,rfl,.inl rfl]]
theorem sj{f:AR}{D:Ac}{v:Aa}{p:XK}(ys:Y.stack=Y.env::Y.outer)(i:Y.env.frame=Z Y.env.locals)(q:Y.ex=[])(g:Aj Y.H₀ H)(t:KU Y f I H D v s')(C:∀H',Aj Y.H₀ H'->p (.ref D) J H'):wpAny M Y.A (leaving Y.env v) (λ_ j=>Ip Y.prog Y.w Y.outer Y.H₀ Y.s₀ p v j) E s':=by
 obtain⟨x,F,H',L,rfl,K,sm,os,G,a,u,B,r,k,c⟩:=t;have h:=K.ok.frames;rw[ys]at c u k h;refine sf h i c λN s up=>#[x,D,H',rfl,os.trans K.os,G,#[(g.trans sm).trans a,?_,B,r,λb o z n d=>?_,s],C H'<|(g.trans sm).trans a]
 ·have e:=K.base;rw[q]at e;refine aY (l:=Y.env::Y.outer) e u r k (λb o z n d=>?_) a c s.stay up;rcases Bz.mp (show b∈Y.env.locals::Cg Y.outer by unfold Cg at d ⊢;rw[O1,i]at d;exact d)with y|y
  ·exact absurd (y ▸ Bp z)<|Nat.not_lt.mpr K.ok.above
  ·exact y
 ·have e:=K.base;rw[q]at e;refine k b o (e.keep b o z n d (by simp)) (e.free b o z n (by simp)) λm=>?_;rcases Bz.mp (show b∈Y.env.locals::Cg Y.outer by unfold Cg at m ⊢;rw[O1,i]at m;exact m)with y|y
  ·exact absurd (y ▸ Bp z)<|Nat.not_lt.mpr K.ok.above
  ·exact d y
end
noncomputable abbrev Cx.hand(Y:Cx)(x:Ac):Cx:={Y with A:=Y.A.mark (Z (.ref x)),calm:=O'}
section
variable{H2:Hp}{s s2:Ab}{x D G:Ac}{fl f0:Aa}{B h h':Ak}
theorem Inv.hand(a:Inv Y pins I H s)(x:Ac):Inv (Y.hand x) pins I H s:=#[#[a.ok.mod,a.ok.kind,a.ok.glob,a.ok.blt,a.ok.above,a.ok.inj,a.ok.has,a.ok.cab,(λz=>nomatch z),a.ok.frames,a.ok.stk,a.ok.exf,a.ok.bs,a.ok.bsz,a.ok.noex,a.ok.exfs,a.ok.funs,a.ok.frf],a.os,a.bare,a.base,a.loc,a.cell,a.free,a.freeC,a.pin,a.hok,a.len]
theorem Inv.back(ok:Y.Ok)(a:Inv (Y.hand x) pins I H s):Inv Y pins I H s:=#[ok,a.os,a.bare,a.base,a.loc,a.cell,a.free,a.freeC,a.pin,a.hok,a.len]
theorem aZ(R:Inv Y pins I H2 s2)(os:s'.os=s2.os)(H:AllBare s'.gens)(sm:Aj H2 H')(u:Un (Cg Y.stack) [] H2 H' s2.heap h)(l:B9 Y.prog Y.w H' B)(A:∀b o,s2.heap.get? b=Z o->H2 b=J->b∉Cg Y.stack->B.get? b=Z o) (p:Fx B Y.stack x (.ref D) f0 h) (a:Fx B Y.stack x (.ref D) fl h') (up:h.UpToSlots h'):H2 x=J/\Aj H2 (AK H' x (.ext (E8 x D)))/\Inv Y pins I (AK H' x (.ext (E8 x D))) {s' with heap:=h' }:=by
 have g:H' x=J:=by
  cases q:H' x with
  |none=>rfl
  |some o=>obtain⟨ob,z⟩:=(l x o q).ob;rw[a.new]at z;cases z
 have F:s2.heap.get? x=J:=by
  cases q:s2.heap.get? x with|none=>rfl|some o=>
   cases C:H2 x with|some L=>rw[sm x L C]at g;cases g|none=>
    by_cases E:x∈Cg Y.stack
    ·obtain⟨_,o3,i,nf⟩:=p.fun_.mem E;obtain⟨r,s,j,_,t,_⟩:=p.rcd;rw[j]at i;cases i;exact absurd t<|nf s
    ·have:=A x o q C E;rw[a.new]at this;cases this
 have d:=aY (Un.refl (fs:=Cg Y.stack)) u l A (λ_ _ _ _ z=>z) sm p a.stay up;have f:∀b o,H' b=Z o->(AK H' x<|.ext<|E8 x D) b=Z o:=λb o q=>Zn (ZU q g) ▸ q;refine#[sm.free g,λb o q=>f b o<|sm b o q,R.call' (s':={s' with heap:=h' }) (ch:=[]) os #[d.keep,d.slot,λb o z n M=>?_,d.there,λb G z=>f b _ (d.tups b G z),λb o v z=>f b _ (d.frzs b o v z),λb N z=>?_] (λb v q=>?_) H (λb z=>absurd z (by simp))]
 ·rw[Zn (λy=>by rw[y,F]at z;cases z)];exact d.free b o z n M
 ·obtain⟨m,q⟩:=d.tbls b N z;exact#[m,f b _ q]
 ·by_cases e:b=x
  ·subst e;rw[ZZ]at q;cases q;obtain⟨r,s,j,t,i,K,_⟩:=a.rcd;exact#[#[r,s,j,t,i,K],#[r,j],λh1 h2 ⟨o,Q,T,P⟩ k=>#[o,Q,k o T,P]]
  ·rw[Zn e]at q;exact(l b v q).stay (λc o _ z=>a.stay c o z) (λc z=>f c _ z) λc G z=>f c _ z
theorem Inv.gone{h:Bi}(x:Inv Y pins I H s)(k:h'.Ns Y.env.locals h)(a:DZ Y.env.locals s.heap h'):Inv Y pins (CV Y.N.length J) H {s with heap:=h',toks:=j}:=by
 have lt:∀b o,Y.s₀.heap.get? b=Z o->b≠Y.env.locals:=λb o z=>BY<|BX (Bp z) x.ok.above;refine⟨x.ok,x.os,x.bare,⟨λb o z n f e=>(a.2 b<|lt b o z).trans<|x.base.keep b o z n f e,λb o z n f e=>?_,x.base.free,λb o z e=>?_,x.base.tups,x.base.frzs,x.base.tbls⟩,⟨h,k,λi y v u g _=>?_⟩,λy c z=>?_,x.free,x.freeC,λp l=>?_,λb v q=>?_,by simp⟩
 ·obtain⟨m,q⟩:=x.base.slot b o z n f e;exact#[m,(a.2 b<|lt b o z).trans q]
 ·obtain⟨r,q⟩:=x.base.there b o z e;exact#[r,(a.2 b<|lt b o z).trans q]
 ·rw[HP]at g;split at g<;>cases g
 ·obtain⟨w,q⟩:=x.cell y c z;exact#[w,q.sameBut a<|x.cne y c z]
 ·obtain⟨z,n,ne,nf,t⟩:=x.pin p l;exact#[(a.2 p.1 ne).trans z,n,ne,nf,t]
 ·refine(x.hok b v q).stay (λc o d z=>(a.2 c λy=>?_).trans z) (λ_ z=>z) λ_ _ z=>z;rcases d with d|d
  ·rw[d]at y;rw[y,x.free]at q;cases q
  ·rw[y,x.free]at d;cases d
theorem sk{i:Nat}{l n:Ae}{np:AC}{M:Av}{a:U Av}{AB:U ExceptHandler}{v:Aa}{Q:Flow->Ab->Prop}{Q':VK}(ys:Y.stack=Y.env::Y.outer)(yf:Y.env.frame=Z Y.env.locals)(t:KU Y pins I H D v s')
  (hm:Y.mg l=Z (.ref G)) (hg:Gl Y l) (hx:exmOne Y.K (.ref D) (.ref G)=Z J') (hN:Y.N.Nodup) (hi:Y.N[i]?=Z n) (p:Y.env.scope.names.lookup n=Z .local)
  (k:∀x r m,H x=J->Aj H r->Inv (Y.hand x) pins (I.set i (Z (.ref x))) r m->r x=Z (.ext (E8 x D)) ->
   wpAny (Ag Y.prog Y.w) (Y.A.mark (Z (.ref x))) (execs (M::a) Y.env) (λf s4=>∃u vv b H',f=.ret u/\Inv (Y.hand x) pins b H' s4/\RelV vv u/\Q' vv H') (λ_ _=>False) m)
  (fin:∀u vv b H' P,Inv Y pins b H' P->RelV vv u->Q' vv H'->Q (.ret u) P) (hd:Cj l:=by ext):
  wpAny (Ag Y.prog Y.w) Y.A (noteFrame v Y.env) (λ_ s2=>wpAny (Ag Y.prog Y.w) Y.A (setFlight v J) (λ_ m=>wpAny (Ag Y.prog Y.w) Y.A (handleBy v Y.env (.ExceptHandler (Z (.Name l np)) (Z n) (M::a) pos::AB)) Q E m) E s2) E s':=by
 obtain⟨x,H2,H',s2,rfl,S,e,os,T,sm,u,B,R,kb,d⟩:=t
 have g:=S.ok.frames
 have c:=d
 rw[ys]at g c
 refine aV g yf c λh4 a4 h=>To (s:={s' with heap:=h4}) a4 λh5 o j=>?_
 rw[<- ys]at o
 obtain⟨_,sm5,I5⟩:=aZ S os T sm u R kb d o (h.trans j)
 obtain⟨oe,vs,e1,e2,e3,_⟩:=id o.rcd
 have LT:Looks (Ag Y.prog Y.w) h5 (typeOf (.ref x)) (.ref D):=λA' Q' E' s' kk q=>by
  unfold typeOf;exact Al (wpAny_loadPart (kk _ _ e1) (AQ (e2 ▸ q)))
 refine wpAny_handleBy_cons (codeAny_handlers_test ?_) (by intro q;cases q)
 refine Ki (X:=Y.hand x) (I5.hand x) hg hm ?_ hd
 refine(exm_one (K:=Y.K) I5.kIn LT hx).here ?_
 refine codeAny_handlers_suite_as (To (s:={s' with heap:=h5}) o λh6 a6 y=>?_)
 obtain⟨C,F,I6⟩:=aZ (s':=s') S os T sm u R kb d a6 ((h.trans j).trans y)
 refine R5 (X:=Y.hand x) (I6.hand x) hN hi (.inl p) (v:=.ref x) rfl (λs7 I7=>?_) (.inr p)
 refine Cs (k x _ s7 (e.free C) (e.trans F) I7 ZZ) (λf s8 hf=>?_) λ_ _ z=>z.elim
 obtain⟨uu,vv,b,H8,rfl,I8,rv,q⟩:=hf
 obtain⟨m8,n8,_⟩:=id I8.loc
 exact wpAny_nameGoes p n8 (by rw[S.ok.kind];rfl) λh9 m9 n9 L=>fin uu vv _ H8 _ ((I8.back S.ok).gone n9 L) rv q
end
def DS(Y:Cx)(a:AR)(I:St)(H:Hp)(c:Ae)(e:Aa)(s':Ab):Prop:=∃D,Bt Y.K BM c=Z (Z (.ref D))/\KU Y a I H D e s'
def Fy(Y:Cx):Prop:=∀e s,¬ Y.xe e s
theorem DS.from{a:AR}{b:Hp}{c:Ae}{v:Aa}(sm:Aj H b)(t:DS Y a I b c v s'):DS Y a I H c v s':=by
 obtain⟨D,e,t⟩:=t;exact#[D,e,t.from sm]
structure XT(Y:Cx)(K:Am)(M:Fb)(H0:Hp)(st:Av)(h:VE->Option Ae):Prop where
 h:∀pins s I H ρ c,Inv Y pins I H s->Bl K M H0 ρ I H->h ρ=Z c->wpAny (Ag Y.prog Y.w) Y.A (exec st Y.env) (λ_ _=>False) (DS Y pins I H c) s
structure XS(Y:Cx)(K:Am)(M:Fb)(H0:Hp)(st:Av)(h:VE->Option Ae):Prop where
 h:∀pins s I H ρ c,Inv Y pins I H s->Bl K M H0 ρ I H->h ρ=Z c->wpAny (Ag Y.prog Y.w) Y.A (exec st Y.env) (λ_ _=>False) (λe s'=>∃σ' H1,Aj H0 H1/\DS Y pins σ' H1 c e s') s
section
variable{K:Am}{a b:U Av}
@[simp] noncomputable def EF(t:O Bool)(a b:O Ae):O Ae:=match t with
  |some J'=>a
  |some O'=>b
  |none=>J
structure Tq(K:Am)(D:Ac):Prop where
 ex:∃nm q N bs bm hdct sn sub ab col dd k0 k1 k2 k3 k5,K.lookup D=Z (excClassObj nm q D N bs bm hdct sn sub ab col dd k0 k1 k2 k3 k5 "ValueError.__new__")/\tailIn K [.type "ValueError",.type "Exception",.type "BaseException",.type "object"] bm=J'/\nsOkIn K N=J'/\Bt K N "__init__"=Z J
end
section
variable{K:Am}{M:Fb}{x:Ac}
def so(K:Am):U V->Hp->VK->Prop:=λe H Q=>∃a C d c b,e=[.ref a,d]/\(∀u,RelV d u->u=c)/\H a=Z (.ext (E8 a C))/\Gg K C/\kitOne K (.ref C) c=Z b/\Q (.bl b) H
theorem sr:Eh Y (.builtin "isinstance") (so Y.K):=by
 rintro d s j H k l Q o r ⟨a,C,m,c,b,rfl,f,g,F,e,q⟩;obtain⟨u,v,rfl,h,i⟩:=M1 r;cases h;cases f v i;exact kia_one (se F) o.kIn (show AY Y.prog Y.w H s.heap a (.ext<|E8 a C)from o.hok a _ g).1 e (λz=>nomatch z) λn=>#[.bl b,H,o.tok _,rfl,q]
@[simp] noncomputable def FS(i:Nat)(a:U Ae)(f:Ae->Bool)(ρ:VE):O D:=match ρ[i]? with
  |some (.exc c)=>if a.contains c=J' then Z (.bl (f c))else J
  |_=>J
set_option tactic.hygienic true in
theorem a0{b:Expr}{e:V}{g:Aa}{n m:Ae}{j p:AC}(i:Nat)(v:U Ae)(f:Ae->Bool)(x:Y.K=K)(y:Y.N[i]?=Z n)(k:MQ Y.env.scope n)(A:PE Y b (tC e))(B:∀u,RelV e u->u=g) (E:∀c C,v.contains c=J'->Bt K BM c=Z (Z (.ref C))->Gg K C/\kitOne K (.ref C) g=Z (f c)) (G:Gl Y m) (X:Y.mg m=J) (P:DY m=Z (.builtin "isinstance")) (L:m≠"__name__":=by ext) (l:Cj m:=by ext) (hd:Cj n:=by ext) (o:(n==("__classdict__":Ae))=O':=by ext) (w:Az [.Name n j,b] Y.env=(O',An (.Name n j) Y.env)::Az [b] Y.env:=by exact ZI rfl) (r:Az [b] Y.env=(O',An b Y.env)::Az [] Y.env:=by exact ZI rfl) (s:(As pos (Az [b] Y.env)).any (·.1)=O':=by rfl):JE Y (.Call (.Name m p) [.Name n j,b] [] pos) (tD K M H0 (FS i v f)):=#[(XG sr G X P (Eu (WY y k hd o) (Eu A Bk r) w) L l w s).mono λI H Q h=>by
 subst x;obtain⟨ρ,d,R,z,q⟩:=h;unfold FS at z;split at z
 ·next c S=>
  obtain⟨t,z⟩:=ZV z;cases z;obtain⟨a,C,T,W,e3⟩:=R.slot i _ S;obtain⟨F,kk⟩:=E c C t W;exact#[.ref a,ZN T,a,C,e,g,f c,rfl,B,e3,F,kk,q _ H (Aj.refl H) (by erw[Ar])]
 ·cases z]
end
theorem Gi:Fy X.nox:=λ_ _ z=>z
abbrev ss:U Aa:=[.type "ValueError",.type "Exception",.type "BaseException",.type "object"]
noncomputable def FU(t c:Ae):Bool:=c==t||t=="CubeError"||t=="ValueError"
section
variable{K:Am}{D G:Ac}{b:Bool}{cd:ClassData}
theorem mk_of{nm q:Ae}{N:Ac}{bs a:U Aa}{hdct:Bool}{sn:U Ae}{sub:U Aa}{ab:Bool}{col:O Bool}{k0 k1 k2 k3 k5:O Aa} (l:K.lookup D=Z (excClassObj nm q D N bs a hdct sn sub ab col dd k0 k1 k2 k3 k5 "ValueError.__new__")) (e:excIn K D ss "ValueError.__new__"=J'):Tq K D:=by
 unfold excIn at e;rw[l]at e;change (((((_&&_)&&_)&&_)&&_)&&_)=J' at e;erw[C4,beq_iff_eq,NO]at e;exact#[nm,q,N,bs,a,hdct,sn,sub,ab,col,dd,k0,k1,k2,k3,k5,l,e.1.1.2,e.1.2,e.2]
theorem a7{t:Aa}(z:clsIn K G=Z cd)(y:typeIn K (.ref G)=Z (.type "type"))(s:subIn K t (.ref G)=Z b):kitCls K t (.ref G)=Z b:=by
 unfold kitCls;simp_all
theorem kit_ne(ne:(B8 C==B8 G)=O')(z:clsIn K G=Z cd)(y:typeIn K (.ref G)=Z (.type "type"))(s:subIn K (.ref C) (.ref G)=Z b):kitOne K (.ref C) (.ref G)=Z b:=by
 unfold kitOne;grind [a7]
theorem kit_self:kitOne K (.ref C) (.ref C)=Z J':=by
 unfold kitOne;simp_all
theorem kit_V(s:subIn K (.ref C) (.type "ValueError")=Z b):kitOne K (.ref C) (.type "ValueError")=Z b:=by
 unfold kitOne;rw[if_neg (λq=>by cases(show(B8 C=Value.type "ValueError")from beq_iff_eq.mp q))];unfold kitCls;dsimp only;rw[if_pos (by decide +kernel)];exact s
theorem exm_of(x:subIn K (.ref G) (.type "BaseException")=Z J')(z:clsIn K G=Z cd)(y:typeIn K (.ref G)=Z (.type "type"))(s:subIn K (.ref C) (.ref G)=Z J'):exmOne K (.ref C) (.ref G)=Z J':=by
 unfold exmOne;grind [a7]
end
end L2
namespace L2
open PySem PySem.Spec PyProof.Rows
def a9(i j:Int):Prop:=0<j/\j<2^100
instance (i j:Int):Decidable (a9 i j):=by unfold a9;exact inferInstance
open PySem.W
def Ed(h:Ak)(d:Ac)(es:Array HH)(ep:Nat):Prop:=∃o,h.get? d=Z o/\o.ExactDict/\o.data=.dict es ep
section
variable{prog:AJ}{w:Ai}{A:Ah}{s:Ab}{d it:Ac}{es:Array HH}{ep i:Nat}
theorem Ed.type(x:Ed s.heap d es ep):s.TypeIs (.ref d) "dict":=by
 obtain⟨o,a,b,_⟩:=x;exact#[o,a,b.1]
theorem Ed.at{h h':Ak}(x:Ed h d es ep)(k:∀o,h.get? d=Z o->h'.get? d=Z o):Ed h' d es ep:=by
 obtain⟨o,a,b⟩:=x;exact#[o,k o a,b]
theorem bc{Q:AI}(hd:(d==Gv)=O')(a:Ed s.heap d es ep) (e:Q (.ref s.heap.objs.size) {s with heap:=s.heap.push {cls:=.type "dict_keyiterator",data:=.fields (T' [.ref d,.int 0 0,.int es.size 0,.int ep 0])} }):wpAny (Ag prog w) A (pyIter (.ref d)) Q E s:=by
 have ty:=a.type;obtain⟨o,b,f,c⟩:=a;refine wpAny_pyIter_slot ty PySem.F.slot_dict_iter<|Ks PySem.F.slot_dict_iter ty PySem.F.entry_dict_iter ?_<|PySem.F.args_dict_iter_1 _;unfold Ex.«dict.__iter__» Builtin.Dict.dictSlotNone;refine Al<|Al<|wpAny_notOrdered_dict ty ?_;refine(AQ ?_:wpAny _ _ (Ay<|B8 d) _ _ s);show wpAny _ _ (Builtin.Dict.showsAll d >>= _) _ _ s
 unfold Builtin.Dict.showsAll;rw[if_neg<|hd ▸ MO];refine Al<|AQ<|Al<|wpAny_dictEntries b c<|Al<|wpAny_dictEpoch b c ?_;refine Al<|Jb<|AQ ⟨_,rfl,"dict_keyiterator",_,⟨_,B2 _ rfl,rfl⟩,PySem.F.slot_dict_keyiterator_next.lookup,?_⟩;simpa[AZ]using e
theorem P5{Q:O Aa->Ab->Prop}(g:s.heap.IsKeyIter it d i es.size ep)(r:Ed s.heap d es ep)(q:∀(c:i<es.size) h',h'.IsKeyIter it d (i+1) es.size ep->DZ it s.heap h'->Q (Z es[i].key) {s with heap:=h' }) (h:es.size<=i->A.handled=J/\∀h',Heap.ExtBut it s.heap h'->Q J {s with heap:=h' }):wpAny (Ag prog w) A (pyNext (.ref it)) Q E s:=by
 have ty:=g.typeIs;obtain⟨p,f,t,e⟩:=g;obtain⟨o,j,u,k⟩:=r;unfold pyNext;refine Al<|wpAny_attempt<|Ly (name:=I0 "__next__") ty su (Ks su ty PySem.F.entry_dict_keyiterator_next ?_<|PySem.F.args_dict_keyiterator_next_1 _);refine Al<|AQ<|Al<|Al ?_;refine Al<|be ty<|AQ ?_;refine Al<|wpAny_fieldsOf f e ?_;erw[show Builtin.Dict_items.ownsTuple "dict_keyiterator"=O' by ext,Ew,if_false];show wpAny _ _ (if(B8 d==Gs)=J' then _ else _) _ _ s
 refine Al<|AQ<|Al<|wpAny_dictEntries j k ?_;rw[if_neg (by simp)];refine Al<|AQ<|Al<|wpAny_dictEpoch j k ?_;rw[if_neg (by simp)];refine AQ ?_;by_cases c:i<es.size
 ·erw[show ¬ ((i:Int)<0)from by lia,if_false,Iq,Array.getElem?_eq_getElem c];refine Al ?_;first|refine Al (be ty<|AQ ?_)|refine Al (wpAny_typeNameOf_keyiter ty<|AQ ?_)
  refine Al<|wpAny_isOneOf_keyiter ty ?_;show wpAny _ _ (setField (.ref it) 1 (AZ<|(i:Int)+1) >>= _) _ _ s
  refine Al<|NN f e (by simp) ?_;have n:(s.heap.update it<|Obj.mapFields (·.setIfInBounds 1 (AZ<|(i:Int)+1))).IsKeyIter it d (i+1) es.size ep:=#[_,M6 _ f<|Tl<|L7 e _,(Obj.cls_mapFields ..).trans t,by rw[L7 e];simp[AZ]];exact Al<|FH<|Al<|wpAny_isOneOf_keyiter (s:={s with heap:=s.heap.update it (Obj.mapFields (·.setIfInBounds 1 (AZ ((i:Int)+1))))}) n.typeIs (AQ (AQ #[_,rfl,AQ (q c _ n (L5 ..))]))
 ·erw[show ¬ ((i:Int)<0)from by lia,if_false,Iq,Array.getElem?_eq_none<|M7 c];refine Al ?_;first|refine Al (be ty<|AQ ?_)|refine Al (wpAny_typeNameOf_keyiter ty<|AQ ?_)
  show wpAny _ _ (setField (.ref it) 0 .none >>= _) _ _ s
  refine Al<|NN f e (by simp) ?_;refine Al ?_;refine Al<|Jb ?_ (by size_fits);refine Al (m:=firstArgMember _ _) (wpAny_of_eq (a:=Gs) (by first|rfl|(erw[firstArgMember];rfl)) ?_);refine Jb ?_ (by size_fits);refine Al<|wpAny_handled ?_;rw[show A.in1.handled=J from(h<|M7 c).1];refine Al<|AQ<|wpAny_throw ?_;refine Al<|wpAny_isInstance (T:="StopIteration") (b:=J') #[_,B2 _ rfl,rfl] isSubtype_stop ?_;exact AQ<|(h<|M7 c).2 _<|(Heap.ExtBut.push (Heap.SameBut.extBut<|L5 ..) _).push _
theorem sv(n:A.handled=J)(q:Ac)(f:d≠q):Walks prog w A q [q,d] [q] es.size (λi v=>∃e,es[i]?=Z e/\v=e.key) (λi h=>h.IsKeyIter q d i es.size ep/\Ed h d es ep) where
 sub:=λb a=>by simp at a;simp[a]
 frame:=λ_ _ _ st k=>#[st.1.at λo e=>k q (by simp) o e,st.2.at λo e=>k d (by simp) o e];item:=λi s Q E l st c=>P5 st.1 st.2 (λ_ g p m=>c _ g s.toks #[es[i],Array.getElem?_eq_getElem l,rfl] #[p,st.2.at λo e=>m.extBut _ _ f e] λb o a e=>m.extBut b o (λh=>a (by simp[h])) e) λz=>absurd l<|Nat.not_lt.mpr z;done:=λs Q E st c=>P5 st.1 st.2 (λz=>absurd z<|HJ _) λ_=>#[n,λg j=>c g s.toks λb o a e=>j b o (λh=>a (by simp[h])) e];self:=λ_ _ _ _ st c=>wpAny_pyIter_keyiter st.1 c
theorem bf(lo:(d==Gv)=O'):KdlSrc prog w "dict" d d es.size (λi v=>∃e,es[i]?=Z e/\v=e.key) (λh=>Ed h d es ep) where
 type:=λ_ a=>a.type;there:=λ_ a=>by obtain⟨o,b,_⟩:=a;exact#[Bp b,Bp b]
 keep:=λ_ _ a f=>a.at λo e=>f d (.inl rfl) o e;notList:=by ext
 notTuple:=by ext
 hint:=λ_ _ _ _ a c=>kdl_hint_dict a.type c;iter:=λ_ s g a=>#[_,_,(λ_ _ c=>bc lo a c),sv g _ (by obtain⟨o,b,_⟩:=a;exact BY<|Bp b),⟨⟨_,B2 _ rfl,rfl,rfl⟩,a.at λo e=>Bn _ e⟩]
end
theorem NP{w:Ai}:∀{tr:U T3}{es:U HH},Ke w (tr.map (·.1)) (DQ tr) es->Ao (tr.map λt=>t.2.1) (es.map λe=>e.key):=by
 intro tr;induction tr with
 |nil=>
  rintro es ⟨_,e⟩;subst e;exact .nil
 |cons t r b=>
  rintro es ⟨kv,v,j,e,k,a,c,d,_,_,_,f⟩;erw[DQ,PR]at a;obtain⟨g,h,i⟩:=a;subst c g h i;exact .cons d<|b f
section
theorem bg{es:Array HH}{acc:Array Aa}(h:ItemsOf (λi v=>∃e,es[i]?=Z e/\v=e.key) acc es.size):acc.toList=es.toList.map λe=>e.key:=by
 refine Jo λi=>?_;cases a:acc[i]? with
 |some v=>
  obtain⟨e,b,c⟩:=h.2 i v a;simp_all
 |none=>
  have d:es[i]?=J:=Array.getElem?_eq_none_iff.mpr<|h.1 ▸ (show acc.size<=i by grind);grind
theorem sw(h:X.calm=J'):Eh X (.type "list") (λxs H Q=>∃a tr,xs=[.ref a]/\Cw X.K H a tr/\∀l,H l=J->Q (.ref l) (AK H l (.lst (tr.map λt=>t.2.1)))):=by
 rintro d s B H xs C Q E r ⟨a,tr,rfl,hd,q⟩;obtain⟨u,rfl,i⟩:=E4 r;cases i;obtain⟨z,j,nd,o,c,e,k,m,n,f⟩:=hd.1.ok E.hok;have g:tr.length<=Ax:=by simpa using z
 refine kdl_call (bf (es:=c) (ep:=e) j) (E.ok.hd h) #[o,k,m,n] ((show tr.length=c.size by have:=(NP f).length;simpa using this) ▸ g) λp v b x kp y A=>?_;refine#[.ref s.heap.objs.size,_,E.laid (t':=v) kp (Bc _) (show AY X.prog X.w _ p _ (.lst<|tr.map λt=>t.2.1)from#[by simpa using g,b.toList,x,bg A ▸ (NP f),by simpa using y]),rfl,q _<|E.hok.fresh<|Bc _]
end
def KV:U D->A2
 |[.lst b .d]=>(EE b).map λa=>a.map λp=>kD p.1
 |_=>J
@[simp] theorem bh(kvs:Br):KV [.lst (Zb kvs) .d]=Z (kvs.map λp=>kD p.1):=by simp[KV]
section
variable{K:Am}{N:Fb}
theorem PD.kden{tr:U T3}(h:PD K N H kvs tr):Ad K N H (kvs.map λp=>kD p.1) (tr.map λt=>t.2.1):=by
 induction h with
 |nil=>exact Ad.nil
 |cons h _ a=>exact Ad.cons h.2.1 a
set_option tactic.hygienic true in
theorem sx:Pr K (λxs H Q=>∃a tr,xs=[.ref a]/\Cw K H a tr/\∀l,H l=J->Q (.ref l) (AK H l (.lst (tr.map λt=>t.2.1)))) KV:=by
 intro N H j k xs Q m h e q;unfold KV at e;split at e
 ·next n=>
  obtain⟨c,d,e⟩:=BN.mp e;cases e;obtain⟨v,rfl,b⟩:=Paired.one' h;rw[GQ d]at b;obtain⟨p,o,rfl,r,hd⟩:=b;obtain⟨tr,f,g⟩:=Jw r hd;exact#[p,tr,rfl,f,λl i=>q _ l i g.kden]
 ·cases e
end
section
variable{prog:AJ}{w:Ai}{A:Ah}{s:Ab}{T:String}{r d:Ac}{n:Nat}{P:Nat->Aa->Prop}{OK:Ak->Prop}
theorem sy{Q:U Aa->Ab->Prop}(K:KdlSrc prog w T r d n P OK)(t:A.handled=J)(hok:OK s.heap)(u:n<=Ax) (v:∀h' g acc,(∀b o,s.heap.get? b=Z o->h'.get? b=Z o)->ItemsOf P acc n->Q acc.toList {s with heap:=h',toks:=g}):wpAny (Ag prog w) A (collect (.ref r)) Q E s:=by
 obtain⟨x,ld⟩:=K.there _ hok;refine Al<|wpAny_runValue<|Jh F.entry_proto_collect ?_;refine Al<|Jb ?_;refine AQ ⟨LF F.plain_list_iadd _,Jh F.entry_list_iadd ?_⟩;have i:∀j,(∃h' g acc l,j={s with heap:=h',toks:=g}/\(∀b o,s.heap.get? b=Z o->h'.get? b=Z o)/\h'.get? s.heap.objs.size=Z {cls:=.type "list",dict:=J,data:=.seq acc l,slots:=(T' [])}/\ItemsOf P acc n)->wpAny (Ag prog w) A (match B8 s.heap.objs.size with
   |B8 a=>do
    match(<- load a).data with
     |Data.seq y _=>Ay y.toList
     |_=>unsupported "internal:collect"
   |_=>unsupported "internal:collect") Q E j:=by
  rintro j ⟨h',g,acc,l,rfl,m,k,p⟩;exact Al<|wpAny_load k<|AQ<|v h' g acc m p
 refine Cs (kdl_extend (R:=λr j=>r=.ok (.ret<|.ref s.heap.objs.size)/\∃h' g acc l,j={s with heap:=h',toks:=g}/\(∀b o,s.heap.get? b=Z o->h'.get? b=Z o)/\h'.get? s.heap.objs.size=Z {cls:=.type "list",dict:=J,data:=.seq acc l,slots:=(T' [])}/\ItemsOf P acc n) (s:={s with heap:=s.heap.push {cls:=.type "list",data:=.seq ([]:U Aa).toArray} }) K t (K.keep _ _ hok λb _ o e=>Bn _ e) s.heap.objs.size (Gz x) (Gz ld) _ 0 (B2 _ rfl) (λh' g acc l m k p=>#[rfl,h',g,acc,l,rfl,λb o e=>m b o (BY (Bp e)) (Bn _ e),k,p]) u) (λfin j h=>?_) (λe j h=>?_)
 ·cases fin with
  |done f=>
   obtain⟨e,h⟩:=h;cases e;exact i j h
  |again c=>
   refine#[h.1,Ko h.2 λr q z=>?_];obtain⟨rfl,h⟩:=z;exact i q h
 ·exact nomatch h.1
end
end L2
namespace L2
open PySem PySem.Spec PyProof.Rows
def bi:Nat->(U Aa->Prop)->Prop
 |0,P=>P []
 |n+1,P=>∀a,bi n λl=>P (a::l)
theorem bj{n:Nat}{P:U Aa->Prop}(h:bi n P)(us:U Aa)(e:us.length=n):P us:=by
 induction us generalizing n P with
 |nil=>cases e;exact h
 |cons a r b=>cases e;exact b (h a) rfl
structure DI(K:Am)(mg:Bi)(nm:Ae)(st:Av)(ps:List Ae)(a:Ac)(fd:B3):Prop where
 m:mg nm=Z (.ref a)
 F:HV K nm nm st a fd
 b:Binds K fd ps []
theorem di{K:Am}{mg:Bi}{h:Ak}{nm:Ae}{st:Av}{i:U Ae}{m:Aa}{n e:O Ac}{j:Array (O Aa)}{f d g b ct:Aa}(X:K.In h)(G:h.Ns BM mg) (A:PySem.W.nsIn K BM nm=Z (Z (.ref a))) (l:K.lookup a=Z #[m,n,.func (IZ nm nm (Hh st) (ZH st) (Ze st) .none f d g e b ct),j]) (c:PySem.W.codeIn K b nm=J') (k:HN K (.ref a)=J') (o:∀(f d g:Aa) (e:O Ac) (b ct:Aa) (us:U Aa),us.length=i.length->bindArgs (IZ nm nm (Hh st) (ZH st) (Ze st) .none f d g e b ct) #[us,[]]=Ay (i.zip us):=by
   exact λ_ _ _ _ _ _=>bj (by(repeat intro _);rfl)):DI K mg nm st i a (IZ nm nm (Hh st) (ZH st) (Ze st) .none f d g e b ct):=#[PySem.W.mg_of X G A,X4 l c k,.all<|o f d g e b ct]
theorem KW{N P:U Ae}{a:Scope}(b:a.kind=.function:=by rfl)(c:a.isCoroutine=O':=by rfl)(d:a.isGenerator=O':=by rfl)(e:N.Nodup:=by decide +kernel)(f:N.take P.length=P:=by rfl) (g:∀x∈P,a.names.lookup x=Z .local\/a.names.lookup x=Z .cell:=by decide +kernel) (h:∀y∈a.names,y.2≠.free:=by decide +kernel):Z5 N P a:=#[b,c,d,e,f,g,h]
section
variable{K:Am}{M:Fb}{k n:Nat}{fn:Ac}{fd:B3}{x nm:Ae}{st:Av}{F:U Sl->O Rv}{e a b:Expr}{p:AC}{f g:AD}
theorem sA(G:AO X.prog X.w X.K X.mg X.base Bd k fn fd ps (A4 K F))(a:AE n X.A)(D:DI X.K X.mg x st ps fn fd)(c:JA X (e::es) (CH K M H0 fa))(d:k<=n:=by ext)(f:Gl X x:=by rfl)(hz:CA X x e es pos:=by exact Ek):JE X (.Call (.Name x p) (e::es) [] pos) (tD K M H0 (Zh F fa)):=oW G (a.mono d) f D.m D.F.kp D.b (E:=E0) HU c hz
theorem sB(G:AO X.prog X.w X.K X.mg X.base Bd k fn fd ps (A4 K F))(a:AE n X.A)(D:DI X.K X.mg x st ps fn fd)(c:JA X (e::es) (CH K M H0 fa))(d:k<=n:=by ext)(f:Gl X x:=by rfl)(hz:CA X x e es pos:=by exact Ek):JE X (.Call (.Name x p) (e::es) [] pos) (tF K M H0 (E9 F fa)):=oX G (a.mono d) f D.m D.F.kp D.b (E:=E0) HU c hz
theorem sC(i:Nat){y:Ae}{p vp:AC}(a:X.mg "len"=J)(b:NV X i y:=by exact EM)(c:Gl X "len":=by rfl)(hz:CA X "len" (.Name y vp) [] pos:=by exact Ek):JE X (.Call (.Name "len" p) [.Name y vp] [] pos) (tD X.K M H0 (Zj Zo λρ=>Zd (CZ ρ i) (Z []))):=GI Xs YL c a rfl (Pq (S3 i b) SD) (hz:=hz)
theorem sD(i:Nat){y t:Ae}{n:String}{p vp b:AC}(c:X.mg "isinstance"=J)(d:X.mg t=J)(e:DY t=Z (.type n):=by rfl)(f:t≠"__name__":=by ext)(hd:Cj t:=by ext)(g:NV X i y:=by exact EM)(h:Gl X "isinstance":=by rfl)(a:Gl X t:=by rfl)(hz:CA X "isinstance" (.Name y vp) [.Name t b] pos:=by exact Ek):JE X (.Call (.Name "isinstance" p) [.Name y vp,.Name t b] [] pos) (tD X.K M H0 (Zj EC λρ=>Zd (CZ ρ i) (Zd (C6 (Z (.ty n))) (Z [])))):=GI Y0 Y1 h c rfl (Pq (S3 i g)<|Pq (Yl<|Y2 a d e f hd) SD) (hz:=hz)
theorem sE {i j pos}:JE X (.Constant (.int i) j pos) (tP K M H0 λ_=>Z (.int i)):=Yg Yh
theorem sF(c:JE X a (tP X.K M H0 f))(d:JE X b (tP X.K M H0 g))(e:LA b:=by exact λ_ _=>rfl):JE X (.Subscript a b pos) (tD X.K M H0 (Za Ap f g)):=pZ c d e
theorem sG(i:Nat){x:Ae}(a:X.N.Nodup)(b:X.N[i]?=Z x:=by rfl)(c:Loc X.env.scope x:=by first|exact .inl rfl|exact .inr rfl)(d:X.fn x=J'\/X.env.scope.names.lookup x=Z .local:=by first|exact .inl rfl|exact .inr rfl|assumption):JG X (.Name x pos) (tG K M H0 [i] (Zc i)):=pf a b c d
theorem sH(i:Nat){x:Ae}{a:AC}(b:X.N.Nodup)(c:JE X e (tD K M H0 f))(d:X.N[i]?=Z x:=by rfl)(g:Loc X.env.scope x:=by first|exact .inl rfl|exact .inr rfl)(h:DE e (Z (.Name x a)) pos.line X.env=Ay O':=by rfl) (j:X.fn x=J'\/X.env.scope.names.lookup x=Z .local:=by first|exact .inl rfl|exact .inr rfl|assumption):JS X (.Assign [.Name x a] e pos) (tS K M H0 λρ=>Z3 i (f ρ) ρ):=pa b d g c h j
theorem sI{P:AJ}{w:Ai}{mg:Bi}{base:Ak}{N:U Ae}{g c:AA}(D:DI K mg nm st ps fn fd)(S:Z5 N ps (Ze st)) (d:∀(a:Aa) (A:Ah) (outer:U Env) (s:Ab) (H:Hp) (E:XK) (M:Fb) (H0:Hp),AE k (A.deeper (A0 nm (Ze st) s.heap.objs.size fn a))->JB (C2 Bd P w K mg base N nm (Ze st) fn a A outer s H E).nox (ZH st) (tS K M H0 c)) (e:c=g:=by rfl) (b:ps.length<=N.length:=by ext):AO P w K mg base Bd (k+1) fn fd ps (A4 K (AS ps.length N.length g)):=Yt D.F S b<|e ▸ d
end
open PySem.W
abbrev ME(X:Cx)(o:Expr)(m:Ae)(es:U Expr)(pl:Sem Bool)(a pos:AC):Prop:=An (.Call (.Attribute o m a) es [] pos) X.env=(do
 let c <- An o X.env
 standAt a.atName
 let(f,b) <- Dw [c] (getMethod c m pl)
 callWith pos f b (As pos (Az es X.env)) (GB pos (GC [] X.env)))
theorem Jz{K:Am}{c:Ae}(h:Bt K BM c=Z (Z (.ref C))):Pm K c=C:=by grind [Pm]
@[simp] noncomputable def Cr(c f:Ae):D->O D
  |.lst a (.i ns b)=>if b=c then(ns.zip a).lookup f else J
  |_=>J
section
variable{K:Am}{N:Fb}
theorem bn{f:Ae}{d:D}:∀{ns:U Ae}{xs:U D}{vs:U V},Ad K N H xs vs->(ns.zip xs).lookup f=Z d->∃v,(ns.zip vs).lookup f=Z v/\Ar K N H d v
 |[],_,_,_,e=>by simp at e
 |_::_,[],_,_,e=>by simp at e
 |n::ns,x::xs,vs,h,e=>by
  obtain⟨v,r,rfl,q,t⟩:=h;erw[Ky,List.lookup_cons]at e ⊢;cases a:f==n with
  |true=>rw[a]at e;cases e;exact#[v,rfl,q]
  |false=>rw[a]at e;exact bn t e
theorem NQ{m:Ae}:∀{ns:U Ae}{vs:U V},ns.contains m=O'->(ns.zip vs).lookup m=J
 |[],_,_=>by simp
 |_::_,[],_=>by simp
 |n::ns,v::vs,h=>by
  erw[List.contains_cons,Bool.or_eq_false_iff]at h;erw[Ky,List.lookup_cons,h.1];exact NQ h.2
@[simp] noncomputable def Hs(c m:Ae):Sl->Bool
  |.val (.lst _ (.i ns a))=>decide (a=c)&&!ns.contains m
  |.lent _ (.i ns a)=>decide (a=c)&&!ns.contains m
  |_=>O'
theorem sJ{c m:Ae}{s:Sl}{v:V}(h:Hs c m s=J')(b:Cq K N H s v):∃a d fs,v=.ref a/\Rd H a (.ins (Pm K c) d fs)/\fs.lookup m=J:=by
 unfold Hs at h;split at h
 ·erw[C4,decide_eq_true_eq,NO]at h;obtain⟨rfl,h⟩:=h;obtain⟨a,f,e,q,_⟩:=b;rcases q with⟨_,q⟩|⟨g,z,_⟩
  ·exact#[a,_,_,e,q,NQ h]
  ·cases z
 ·erw[C4,decide_eq_true_eq,NO]at h;obtain⟨rfl,h⟩:=h;obtain⟨a,f,e,_,q,_⟩:=b;exact#[a,_,_,e,q,NQ h]
 ·cases h
theorem sK{r:Rv}{v:V}(c:∀a,N a->H a≠J)(h:Nc K N H H' r v):Ar K N H' (C3 r) v:=by
 cases r with|val d=>exact h|own l m=>
  obtain⟨a,f,e,g,i,j⟩:=h;exact#[a,f,e,.of (λn=>c a n g) i,j.nw λb k=>.inl<|.inl k]
end
@[simp] def EU(c m:Ae)(F:U Sl->O Rv)(o:O Sl)(a:O (U Sl)):O Rv:=o.bind λs=>if Hs c m s=J' then a.bind λb=>F (s::b)else J
section
variable{K:Am}{M:Fb}{e:Expr}{f go:AD}{F:U Sl->O Rv}{k:Nat}{fn:Ac}{fd:B3}{c m:Ae}{E:XK}
theorem sL{f:Ae}(j:Bt X.K BM c=Z (Z (.ref C)))(k:Ei X.K C)(l:Bw X.K C f)(m:JE X o (tP X.K M H0 go))(n:GA o f X.env (An o X.env)=An o X.env:=by rfl):JE X (.Attribute o f pos) (tD X.K M H0 λρ=>(go ρ).bind (Cr c f)):=#[(Xv m.h n).mono λB H Q p=>by
   obtain⟨ρ,d,R,e,q⟩:=p;obtain⟨E,t,b⟩:=BI.mp e;unfold Cr at b;split at b
   ·split at b
    ·next g=>
     subst g;refine#[ρ,_,R,t,λv w s x=>?_];obtain⟨a,G,y,i,r⟩:=x;obtain⟨u,z,A⟩:=bn r b;erw[CO,Jz j]at i;exact#[a,C,_,_,u,y,i,k,l,z,q u w s A]
    ·cases b
   ·cases b]
theorem sM(j:Bt K BM c=Z (Z (.ref C))){r:Rv}{Q:VK}(R:Bl K M H0 ρ I H)(e:EU c m F (fo ρ) (fa ρ)=Z r)(q:∀v b H',Aj H b->Aj b H'->Nc K (Nf M ρ I) b H' r v->Q v H'):Kn C m (A4 K F) [] E (Gc K M H0 fo) (CH K M H0 fa) I H Q:=by
 obtain⟨s,k,e⟩:=BI.mp e;obtain⟨l,e⟩:=ZV e;obtain⟨g,n,o⟩:=BI.mp e;refine#[ρ,s,R,k,λv b d h=>?_];obtain⟨a,p,t,u,i,x⟩:=sJ l h;rw[Jz j]at i;exact#[a,p,t,u,i,x,ρ,g,R.st d,n,λy z f A=>#[Nf M ρ I,s::g,r,((R.st d).st f).nh,#[v,y++[],rfl,h.same f,by rw[DO];exact A],o,λw B G L=>q w z B (d.trans f) G L]]
theorem sN{Q:U V->Hp->Prop}(h:CH K M H0 (λ_=>Z []) I H Q):M3 I H Q:=by
 obtain⟨a,b,R,e,q⟩:=h;cases e;exact q [] H (Aj.refl H) rfl
theorem sO{sp:Sp}{Q:VK}(h:Kn C m sp [] E (Gc K M H0 fo) (CH K M H0 λ_=>Z []) I H Q):Kn C m sp [] E (Gc K M H0 fo) M3 I H Q:=by
 obtain⟨b,d,R,e,q⟩:=h;refine#[b,d,R,e,λv c s f=>?_];obtain⟨a,g,i,j,k,l,t⟩:=q v c s f;exact#[a,g,i,j,k,l,sN t]
theorem bo(b:Bt K BM c=Z (Z (.ref C))){Q:VK}(h:tD K M H0 (λρ=>(EU c m F (fo ρ) (fa ρ)).map C3) I H Q):Kn C m (A4 K F) [] E (Gc K M H0 fo) (CH K M H0 fa) I H Q:=by
 obtain⟨ρ,d,R,e,q⟩:=h;obtain⟨r,f,rfl⟩:=BN.mp e;exact sM b R f λv j g a i h=>q v g (a.trans i)<|sK (R.st a).nh h
section
variable(hC:Bt X.K BM c=Z (Z (.ref C)))(cl:Ei X.K C)(hm:HM X.K C m fn)(G:AO X.prog X.w X.K X.mg X.base CX k fn fd ps (A4 X.K F))(hr:AE k X.A)(hb:Binds X.K fd ps [])(hx:E6 CX X E)(ho:JE X o (Gc X.K M H0 fo))
include hC cl hm G hr hb hx ho
theorem sP(d:JA X (e::es) (CH X.K M H0 fa)) (a:Az (e::es) X.env=(O',An e X.env)::Az es X.env:=by exact ZI rfl) (b:(As pos (Az es X.env)).any (·.1)=O':=by rfl) (f:ME X o m (e::es) pl apos pos:=by rfl):JE X (.Call (.Attribute o m apos) (e::es) [] pos) (tD X.K M H0 λρ=>(EU c m F (fo ρ) (fa ρ)).map C3):=#[(Xx ho.h cl hm G hr hb .nil hx d.h a b f).mono λ_ _ _ h=>bo hC h]
theorem sQ (a:ME X o m [] pl apos pos:=by rfl):JE X (.Call (.Attribute o m apos) [] [] pos) (tD X.K M H0 λρ=>(EU c m F (fo ρ) (Z [])).map C3):=#[(Xy ho.h cl hm G hr hb .nil hx a).mono λ_ _ _ h=>sO<|bo hC h]
end
end
noncomputable def sR(H:Hp)(x:Ac):Hp:=λb=>if b=x then J else H b
structure sS(K:Am)(N:Fb)(a:Ac)(H H':Hp)(ys:List D)(b:Kd)(d:D)(v:V):Prop where
 sm:Aj (sR H a) H'
 at_:∃ws,H' a=Z (CO K b a ys ws)/\Ad K N H' ys ws
 de:Ar K N H' d v
abbrev RB:=U D×Kd×D
def bp(K:Am)(N:Fb)(a:Ac)(H:Hp):Sl->V->Prop
 |.val d,v=>Ar K N H d v
 |.lent e b,v=>∃c f,v=.ref c/\(N c/\c≠a)/\Rd H c (CO K b c e f)/\Ad K N H e f
 |_,_=>False
def sT(K:Am)(F:U Sl->Sl->U Sl->O RB):Sp:=λk H Q _=>∃N a g h d e f b i r,k=d++.ref a::e/\(∀c,N c->H c≠J)/\N a/\H a=Z (CO K b a f i)/\Ad K N H f i/\Paired (bp K N a H) g d/\Paired (bp K N a H) h e /\
 F g (.own f b (Z a)) h=Z r/\∀v j,sS K N a H j r.1 r.2.1 r.2.2 v->Q v j
section
variable{b:Kd}
theorem Ht{a b:Type}{F:a->b->Prop}{l:U a}{m:U b}(h:Paired F l m):l.length=m.length:=h.length
theorem bq{a b:Type}{F:a->b->Prop}{x:a}:∀{l:U a}{m:U b}{i:Nat},Paired F l m->l[i]?=Z x->∃y,m[i]?=Z y/\F x y
 |_,_,0,.cons h _,e=>by cases e;exact#[_,rfl,h]
 |_,_,i+1,.cons _ t,e=>by simpa using bq (i:=i) t (by simpa using e)
end
section
variable{K:Am}{F:U Sl->Sl->U Sl->O RB}{n:Nat}{fn:Ac}{fd:B3}{c m:Ae}{E:XK}
section
variable(hC:Bt X.K BM c=Z (Z (.ref C)))(cl:Ei X.K C)(hm:HM X.K C m fn)(G:AO X.prog X.w X.K X.mg X.base CX n fn fd ps (sT X.K F))(hr:AE n X.A)(hb:Binds X.K fd ps [])(hx:E6 CX X E)
include hC cl hm G hr hb hx
end
end
@[simp] noncomputable def putN(f:Ae):U Ae->U Ae
  |[]=>[f]
  |n::ns=>if n=f then n::ns else n::putN f ns
@[simp] noncomputable def DB{a:Type}(f:Ae)(y:a):U Ae->U a->U a
  |n::ns,x::b=>if n=f then y::b else x::DB f y ns b
  |_,_=>[y]
theorem br{f:Ae}{y:V}:∀{ns:U Ae}{vs:U V},ns.length=vs.length->EJ f y (ns.zip vs)=(putN f ns).zip (DB f y ns vs)
 |[],[],_=>rfl
 |n::ns,v::vs,h=>by
  erw[Ky,EJ,putN,DB];by_cases e:n=f
  ·rw[if_pos e,if_pos e,if_pos e];rfl
  ·rw[if_neg e,if_neg e,if_neg e,br (by simpa using h)];rfl
mutual
/-- no list,no instance within -/
def P6:D->Bool
 |.lst _ _=>O'
 |.tup a=>P7 a
 |.non=>J'
 |.bl _=>J'
 |.int _=>J'
 |.str _=>J'
 |.ty _=>J'
def P7:U D->Bool
 |[]=>J'
 |x::a=>P6 x&&P7 a
end
mutual
theorem Ar.free{K:Am}{N f:Fb}{H:Hp}:∀(d:D)(v:V),P6 d=J'->Ar K N H d v->Ar K f H d v
 |.non,_,_,h=>by simpa only[Ar]using h
 |.bl _,_,_,h=>by simpa only[Ar]using h
 |.int _,_,_,h=>by simpa only[Ar]using h
 |.str _,_,_,h=>by simpa only[Ar]using h
 |.ty _,_,_,h=>by simpa only[Ar]using h
 |.tup g,v,b,h=>by
  erw[P6]at b
  erw[Ar]at h ⊢
  obtain⟨a,c,e,q,r⟩:=h
  exact#[a,c,e,q,Ad.free g c b r]
 |.lst _ _,_,b,_=>by erw[P6]at b;cases b
theorem Ad.free{K:Am}{N b:Fb}{H:Hp}:∀(xs:U D)(vs:U V),P7 xs=J'->Ad K N H xs vs->Ad K b H xs vs
 |[],_,_,h=>by simpa only[Ad]using h
 |x::xs,vs,a,h=>by
  erw[P7,C4]at a
  erw[Ad]at h ⊢
  obtain⟨v,r,e,q,t⟩:=h
  exact#[v,r,e,Ar.free x v a.1 q,Ad.free xs r a.2 t]
end
open AutoSeq1 (wpAny_loadPart')
open PySem.MeetsSeq in
theorem sU(l:Ac)(items:Array Aa)(n:Nat)(x:Aa)(e:Aa->Bool)(j:Nat)(q:j<items.size)(v:e items[j]=J')(f:items.size<=Ax)(k:Nat):∀i:Nat,j-i=k->i<=j->(∀m (r:m<items.size),i<=m->m<j->e items[m]=O')->Meets (Ex.«list.remove.loop» #[[.ref l,x,AZ i],[]]) (λA R s=>s.heap.get? l=Z {cls:=.type "list",dict:=J,data:=.seq items n,slots:=(T' [])}/\(∀y,y∈items->SeqAt.EqAt A.in1 s y x (e y))/\R (.ok (.ret .none)) {s with heap:=s.heap.update l (Fq λxs=>xs.eraseIdxIfInBounds j)}):=by
 induction k with
 |zero=>
  intro i z p a prog w A R s h;obtain⟨B,g,d,C,os⟩:=s;obtain⟨c,o,h⟩:=h;have E:i=j:=by lia
  subst E;wp_walk using Ey c;rw[show items[((i:Nat):Int).toNat]?=Z items[i] by simp[q]];refine Al<|o _ (Array.getElem_mem q) prog w _ _ ?_;have t:(items.eraseIdxIfInBounds i).size<=Ax+1:=BR (size_erased items _)<|Nat.le_succ_of_le f;wp_walk using(wpAny_updateSeq c rfl (hz:=f) (_hz':=t)),Ey c;simpa using h
 |succ k G=>
  intro i z p a prog w A R s h;obtain⟨B,g,d,C,os⟩:=s;obtain⟨c,o,h⟩:=h;have b:i<items.size:=by lia
  wp_walk using Ey c;rw[show items[((i:Nat):Int).toNat]?=Z items[i] by simp[b]];refine Al<|o _ (Array.getElem_mem b) prog w _ _ ?_;rw[a i b (Bc _) (by lia)];wp_walk;exact⟨LF plain_remove_loop _,Jh entry_remove_loop (by
   exact G (i+1) (by lia) (by lia) (λm r u H=>a m r (by lia) H) prog w A R _ ⟨c,o,h⟩)⟩
open PySem.MeetsSeq in
theorem sV(l:Ac)(items:Array Aa)(n:Nat)(x:Aa)(e:Aa->Bool)(j:Nat)(k:j<items.size)(a:e items[j]=J')(b:∀m (f:m<items.size),m<j->e items[m]=O')(c:items.size<=Ax):Meets (Ex.«list.remove» #[[.ref l,x],[]]) (λA R s=>s.heap.get? l=Z {cls:=.type "list",dict:=J,data:=.seq items n,slots:=(T' [])}/\(∀y,y∈items->SeqAt.EqAt A.in1 s y x (e y))/\R (.ok (.ret .none)) {s with heap:=s.heap.update l (Fq λxs=>xs.eraseIdxIfInBounds j)}):=by
 intro prog w A R s h;obtain⟨q,g,d,r,os⟩:=s;obtain⟨i,o,h⟩:=h;wp_walk using Ey i;exact#[LF plain_remove_loop _,Jh entry_remove_loop (by
  exact sU l items n x e j k a c _ 0 rfl (F8 _) (λm f _ p=>b m f p) prog w A R _ #[i,o,h])]
def sW(K:Am):V->U V->Hp->VK->Prop:=λx c H Q=>∃l a y N d b j,x=.ref l/\c=[y]/\H l=Z (.lst a)/\Ad K N H b a/\Aw K N H d y/\AW ZS d=J'/\b.all (AW ZS)=J'/\b.findIdx? (λz=>AF z d)=Z j/\Q .non (AK H l (.lst (a.eraseIdx j)))
section
variable{K:Am}{M:Fb}{e:Expr}{f:AD}{i:Nat}{x:Ae}
theorem sX(hu:X.A.units+64<Aq):So X "list.remove" (sW X.K):=by
 rintro G s I H x vs v us Q S P T ⟨l,R,y,N,d,M,j,rfl,rfl,L,hd,Y,od,c,hj,q⟩
 cases P
 obtain⟨u,rfl,ru⟩:=T.one
 obtain⟨z,a,n,r,hl,e⟩:=S.lstM L
 obtain⟨h,i,k⟩:=List.findIdx?_eq_some_iff_getElem.mp hj
 have hln:=hd.length
 have f:∀m (o:m<a.toArray.size) (b:m<M.length),FQ X.K N H d a.toArray[m]=AF M[m] d:=λm o b=>by
  obtain⟨w,t,dw⟩:=hd.get (BW b)
  obtain⟨w',B,C⟩:=r.get t
  have:a.toArray[m]=w':=by
   rw[List.getElem_toArray];exact(BC.mp B).2
  rw[this]
  exact SS S dw.p C (Ec.mp c _ (Gf b))
 have g:j<a.toArray.size:=by rw[BV];lia
 refine Jd F.slot_list_remove #[_,e,rfl] F.entry_list_remove (F.args_list_remove_2 _ _)
  (sV l a.toArray n u (FQ X.K N H d) j g (f j g h ▸ i) (λm o E=>by rw[f m o (by lia)];simpa using k m E) (by rw[BV];lia)) #[e,λw t=>SV S (show X.A.in1.units+ZS<Aq by rw[Nt];unfold ZS;lia) od Y ru hd r c w (by simpa using t),?_]
 refine#[.non,_,S.lset (its':=a.eraseIdx j) L e ?_ (r.eraseIdx j) ?_,rfl,q]
 ·show a.toArray.eraseIdxIfInBounds j=(a.eraseIdx j).toArray
  rw[List.eraseIdxIfInBounds_toArray]
 ·have:=X1 R j
  lia
theorem Ad.erase{N:Fb}(h:Ad K N H xs vs)(j:Nat):Ad K N H (xs.eraseIdx j) (vs.eraseIdx j):=by
 rw[List.eraseIdx_eq_take_drop_succ,List.eraseIdx_eq_take_drop_succ];exact(h.take j).append<|h.drop<|j+1
end
end L2
namespace L2
open PySem PySem.Spec PyProof.Rows PySem.W
section
set_option tactic.hygienic true in
end
end L2
namespace L2
open PySem PySem.Spec PyProof.Rows
def Dk(a:Ac)(o:Obj)(u:HO)(H:Hp):Hp:=λb=>@ite _ (b=a/\H b=Z u) (Px _) (Z (.frz o u)) (H b)
def KY(a:Ac)(o:Obj)(u:HO)(H:Hp):Hp:=λb=>@ite _ (b=a/\H b=Z (.frz o u)) (Px _) (Z u) (H b)
section
variable{o:Obj}{u:HO}{b:Ac}{v:HO}
theorem KZ(h:H a=Z u):Dk a o u H a=Z (.frz o u):=if_pos #[rfl,h]
theorem Hu(h:¬ (b=a/\H b=Z u)):Dk a o u H b=H b:=if_neg h
theorem Tr(h:H a=Z (.frz o u)):KY a o u H a=Z u:=if_pos #[rfl,h]
theorem P8(h:¬ (b=a/\H b=Z (.frz o u))):KY a o u H b=H b:=if_neg h
theorem Du:Dk a o u H b=J↔H b=J:=by grind [KZ,Hu]
theorem bt(h:H b=Z v)(c:Gb v=O')(d:Gb u=J'):Dk a o u H b=Z v:=by grind [Hu]
theorem bu(h:H b=Z v)(c:∀o u,v≠.frz o u):KY a o u H b=Z v:=by grind [P8]
theorem Rd.fz(c:Gb u=J')(h:Rd H b v):Rd (Dk a o u H) b v:=by
 rcases h with h|⟨d,h⟩
 ·by_cases z:b=a/\H b=Z u
  ·obtain⟨rfl,z⟩:=z;rw[h]at z;cases z;exact .inr #[o,KZ h]
  ·exact .inl<|Hu z ▸ h
 ·exact .inr #[d,bt h rfl c]
theorem Rd.ufz(c:∀o u,v≠.frz o u)(h:Rd H b v):Rd (KY a o u H) b v:=by
 rcases h with h|⟨d,h⟩
 ·exact .inl<|bu h c
 ·by_cases z:b=a/\H b=Z (.frz o u)
  ·obtain⟨rfl,z⟩:=z;rw[h]at z;cases z;exact .inl<|Tr h
  ·exact .inr #[d,P8 z ▸ h]
theorem Aj.fz(f:Gb u=J')(s:Aj H0 H)(b:∀w,H0 a=Z w->H a=Z u->w=u):Aj (Dk a o u H0) (Dk a o u H):=by
 intro c w e;by_cases z:c=a/\H0 c=Z u
 ·obtain⟨rfl,z⟩:=z;rw[KZ z]at e;cases e;exact KZ<|s _ _ z
 ·rw[Hu z]at e;rw[Hu]
  ·exact(s _ _ e)
  ·rintro⟨rfl,d⟩;exact z ⟨rfl,by rw[e,b w e d]⟩
end
mutual
theorem Ar.rd{K:Am}{N:Fb}{H H':Hp}(k:∀b v,(∀o u,v≠HO.frz o u)->Rd H b v->Rd H' b v):∀(d:D)(v:V),Ar K N H d v->Ar K N H' d v
 |.non,_,h=>h
 |.bl _,_,h=>h
 |.int _,_,h=>h
 |.str _,_,h=>h
 |.ty _,_,h=>h
 |.tup f,v,h=>by
  erw[Ar]at h ⊢
  obtain⟨a,c,e,q,r⟩:=h
  refine#[a,c,e,?_,Ad.rd k f c r]
  rcases q with q|q
  ·exact .inl (k _ _ (λ_ _ z=>nomatch z) q)
  ·exact .inr q
 |.lst f g,v,h=>by
  erw[Ar]at h ⊢
  obtain⟨a,c,e,q,r⟩:=h
  refine#[a,c,e,?_,Ad.rd k f c r]
  rcases q with⟨n,q⟩|q
  ·exact .inl #[n,k _ _ (λ_ _ z=>by cases g<;>cases z) q]
  ·exact .inr q
theorem Ad.rd{K:Am}{N:Fb}{H H':Hp}(k:∀b v,(∀o u,v≠HO.frz o u)->Rd H b v->Rd H' b v):∀(xs:U D)(vs:U V),Ad K N H xs vs->Ad K N H' xs vs
 |[],_,h=>h
 |x::xs,vs,h=>by
  erw[Ad]at h ⊢
  obtain⟨v,r,e,q,t⟩:=h
  exact#[v,r,e,Ar.rd k x v q,Ad.rd k xs r t]
end
theorem bv(K:Am)(b:Kd)(a:Ac)(xs:U D)(vs:U V):∀o u,CO K b a xs vs≠HO.frz o u:=λ_ _ z=>by cases b<;>cases z
section
variable{K:Am}{M:Fb}{o:Obj}{u:HO}
theorem Bl.fz(m:Gb u=J')(R:Bl K M H0 ρ I H)(t:H a=Z u)(y:∀(i:Nat)(xs:U D)(b:Kd)(r:O Ac),ρ[i]?=Z (Sl.own xs b r)->I[i]?≠Z (Z (V.ref a))):Bl K M (Dk a o u H0) ρ I (Dk a o u H) where
 len:=R.len;same:=R.same.fz m λw e _=>by have:=R.same _ _ e;rw[t]at this;cases this;rfl
 mh:=λc h z=>R.mh c h<|Du.mp z;slot:=λi s e=>by
  have q:=R.slot i s e;have l:∀b v,(∀o u,v≠HO.frz o u)->Rd H b v->Rd (Dk a o u H) b v:=λb v _ h=>Rd.fz m h;cases s with
  |no=>trivial
  |val d=>obtain⟨v,e,h⟩:=q;exact#[v,e,Ar.rd l d v h]
  |own xs A r=>
   obtain⟨c,g,j,f,k,n,p⟩:=q;refine#[c,g,j,#[Du.mpr f.1,f.2],k,?_,Ad.rd l xs g p];rw[Hu,n];grind
  |lent xs A=>obtain⟨c,g,j,⟨f,k⟩,n,p⟩:=q;exact#[c,g,j,#[f,λz=>k<|Du.mp z],l _ _ (bv _ _ _ _ _) n,Ad.rd l xs g p]
  |exc c=>obtain⟨x,C,j,f,k⟩:=q;exact#[x,C,j,f,bt k rfl m]
 inj:=R.inj
end
section
variable{s:Ab}{o:Obj}{u:HO}
theorem B9.swap{P:AJ}{w:Ai}{h:Ak}{u f:HO}(x:B9 P w H h)(g:H a=Z u)(j:∀y,u≠.own y)(k:∀xs,u≠.tup xs)(ne:∀b,b≠a->H' b=H b)(d:H' a=Z f)(new:AY P w H' h a f):B9 P w H' h:=λb v e=>by
 by_cases i:b=a
 ·subst i;rw[d]at e;cases e;exact new
 ·rw[ne b i]at e;refine(x b v e).stay (λc v _ q=>q) (λc q=>?_) λc xs q=>?_
  ·rw[ne c λz=>by rw[z,g]at q;cases q;exact j _ rfl];exact q
  ·rw[ne c λz=>by rw[z,g]at q;cases q;exact k _ rfl];exact q
theorem Ts(a:Gb u=J'):(∀y,u≠.own y)/\(∀xs,u≠.tup xs)/\(∀o v,u≠.frz o v)/\∀b,u≠.tbl b:=by
 refine#[λ_ z=>?_,λ_ z=>?_,λ_ _ z=>?_,λ_ z=>?_]<;>rw[z]at a<;>cases a
theorem Inv.plain(h:Inv X pins I H s)(b:H a=Z u)(d:Gb u=J'):(∀xs,X.H₀ a≠Z (.tup xs))/\(∀o v,X.H₀ a≠Z (.frz o v))/\∀c,X.H₀ a≠Z (.tbl c):=by
 obtain⟨_,e,f,g⟩:=Ts d;refine#[λxs z=>?_,λo v z=>?_,λc z=>?_]
 ·have:=h.base.tups a xs z;rw[b]at this;cases this;exact e _ rfl
 ·have:=h.base.frzs a o v z;rw[b]at this;cases this;exact f _ _ rfl
 ·obtain⟨_,this⟩:=h.base.tbls a c z;rw[b]at this;cases this;exact g _ rfl
theorem Inv.swap{u h:HO}(r:Inv X pins I H s)(f:H a=Z u)(i:∀y,u≠.own y)(j:∀xs,u≠.tup xs)(pl:(∀xs,X.H₀ a≠Z (.tup xs))/\(∀o v,X.H₀ a≠Z (.frz o v))/\∀d,X.H₀ a≠Z (.tbl d))(ne:∀b,b≠a->H' b=H b)(g:H' a=Z h)(new:AY X.prog X.w H' s.heap a h):Inv X pins I H' s where
 ok:=r.ok;os:=r.os;bare:=r.bare;base:=#[r.base.keep,r.base.slot,λb o e n k=>by
   have:=r.base.free b o e n k;rw[ne b λz=>by rw[z,f]at this;cases this];exact this,r.base.there,
  λb xs e=>by rw[ne b λz=>pl.1 xs<|z ▸ e];exact r.base.tups b xs e,λb o v e=>by rw[ne b λz=>pl.2.1 o v<|z ▸ e];exact r.base.frzs b o v e,λb d e=>by rw[ne b λz=>pl.2.2 d<|z ▸ e];exact r.base.tbls b d e]
 loc:=r.loc;cell:=r.cell;free:=by rw[ne _ λz=>by have:=r.free;rw[z,f]at this;cases this];exact r.free
 freeC:=λx c e=>by
  have:=r.freeC x c e;grind
 pin:=λp l=>by
  obtain⟨p1,m,q⟩:=r.pin p l;grind
 hok:=r.hok.swap f i j ne g new;len:=r.len
theorem Inv.fz(e:Gb u=J')(m:Inv X pins I H s)(d:H a=Z u)(h:s.heap.get? a=Z o):Inv X pins I (Dk a o u H) s:=by
 obtain⟨f,g,j,k⟩:=Ts e;have ne:∀b,b≠a->Dk a o u H b=H b:=λb i=>Hu λz=>i z.1;refine m.swap d f g (m.plain d e) ne (KZ d) #[h,(m.hok a u d).stay (λ_ _ _ q=>q) (λc q=>?_) λc l q=>?_]
 ·rw[ne c λz=>by rw[z,d]at q;cases q;exact f _ rfl];exact q
 ·rw[ne c λz=>by rw[z,d]at q;cases q;exact g _ rfl];exact q
theorem Inv.ufz(g:Inv X pins I H s)(d:H a=Z (.frz o u))(pl:(∀xs,X.H₀ a≠Z (.tup xs))/\(∀o v,X.H₀ a≠Z (.frz o v))/\∀e,X.H₀ a≠Z (.tbl e)):Inv X pins I (KY a o u H) s:=by
 have ne:∀b,b≠a->KY a o u H b=H b:=λb f=>P8 λz=>f z.1;refine g.swap d (λ_ z=>nomatch z) (λ_ z=>nomatch z) pl ne (Tr d) ((g.hok a _ d).2.stay (λ_ _ _ q=>q) (λc q=>?_) λc xs q=>?_)
 ·rw[ne c λz=>by rw[z,d]at q;cases q];exact q
 ·rw[ne c λz=>by rw[z,d]at q;cases q];exact q
end
open PySem.W
noncomputable def P9(a:Ac)(o:Obj)(u:HO)(b:U V):It:=#[λi H=>H a=Z (.frz o u)/\i<b.length,λi H x c=>c=H/\b[i]?=Z x,λi H=>H a=Z (.frz o u)/\b.length<=i]
theorem sY{P:AJ}{w:Ai}{K:Am}{B:Expr}{it:Ac}{o:Obj}{u:HO}{es:Array HH}{ep:Nat}{p:U V}(r:o.ExactDict)(t:o.data=.dict es ep)(v:Ao p (es.toList.map λe=>e.key)):Hd P w K B (P9 a o u p) [it] it (λi h=>h.IsKeyIter it a i es.size ep):=by
 refine MV (n:="dict_keyiterator") (by ext) (λi h st=>?_) (λi h g st k=>st.at k) (λX i x s R H E Q T C S st=>?_) λ_ _ _ _ _ st h=>wpAny_pyIter_keyiter st h
 ·obtain⟨o,e,c,d⟩:=st;exact#[o,_,e,c,d]
 ·have f:=v.length;simp at f;constructor<;>intro y q
  ·obtain⟨j,l⟩:=y;obtain⟨k,G,F⟩:=v.get<|BW l;have A:i<es.size:=by lia
   exact P5 st #[o,(S.hok a _ j).1,r,t] (λ_ g m L=>q _ _ g s.toks m (λb o M e=>(L.2 b M).trans e) (by rw[show es[i].key=k by simpa[A]using G];exact F) #[rfl,BW l]) λz=>absurd A<|Nat.not_lt.mpr z
  ·obtain⟨j,l⟩:=y;exact P5 st #[o,(S.hok a _ j).1,r,t] (λz=>absurd z (by lia)) λ_=>#[C,λg N=>q g s.toks N]
abbrev D4(tr:U T3):HO:=.dct (tr.map (·.1)) (DQ tr)
section
variable{l:Expr}
def bw(K:Am)(c:TE):TI:=λd H R=>c d H λx b=>∃a tr,x=.ref a/\Cw K b a tr/\∀o,(Dk a o (D4 tr) b) a=Z (.frz o (D4 tr))->R (P9 a o (D4 tr) (tr.map λt=>t.2.1)) (Dk a o (D4 tr) b)
theorem bz{m:TE}(t:PE X l m):PI X tg l (bw X.K m):=by
 intro c s n H R M h;refine AV (t c s n H _ M h) λv f u=>?_;obtain⟨x,g,i,w,a,tr,e,hd,q⟩:=u;subst e;cases w;obtain⟨z,A,nd,o,G,F,j,p,r,B⟩:=hd.1.ok i.hok;obtain⟨k,C⟩:Inv X c n (Dk a o (D4 tr) g) f/\(Dk a o (D4 tr) g) a=Z (.frz o<|D4 tr):=by
  rcases hd.1 with d|⟨L,d⟩
  ·exact#[i.fz rfl d j,KZ d]
  ·have:=(i.hok a _ d).1;rw[j]at this;cases this;have:Dk a o (D4 tr) g=g:=funext λb=>Hu (by rintro⟨rfl,y⟩;rw[d]at y;cases y);rw[this];exact⟨i,d⟩
 refine bc A #[o,j,p,r] ?_;refine#[f.heap.objs.size,[f.heap.objs.size],_,_,_,rfl,k.kept (t':=f.toks) λb o e=>Bn _ e,sY p r<|NP B,⟨_,B2 _ rfl,rfl,rfl⟩,λb E=>?_,q o C];have e:b=f.heap.objs.size:=by simpa using E
 subst e;exact k.fpOk (Bc _)<|k.hok.fresh<|Bc _
end
def Cv(X:Cx)(Q:Hp->Prop)(H':Hp):Prop:=Q H'\/∃a o u,((∀b,X.H₀ a≠Z (.tup b))/\(∀o v,X.H₀ a≠Z (.frz o v))/\∀c,X.H₀ a≠Z (.tbl c))/\H' a=Z (.frz o u)/\Q (KY a o u H')
noncomputable def Ends.cv(X:Cx)(D:Ends):Ends:={nx:=λa=>Cv X (D.nx a),rt:=λv=>Cv X (D.rt v),bk:=λa=>Cv X (D.bk a),ct:=λa=>Cv X (D.ct a)}
theorem SP.cv{c:AR}{D:Ends}{f:Flow}{s:Ab}(h:SP X c (D.cv X) f s):SP X c D f s:=by
 have k:∀{j:St} {H:Hp} {Q:Hp->Prop},Inv X c j H s->Cv X Q H->∃i,Inv X c j i s/\Q i:=λn q=>by
  rcases q with q|⟨a,o,u,l,m,q⟩
  ·exact#[_,n,q]
  ·exact#[_,n.ufz m l,q]
 cases f with
 |next=>obtain⟨b,i,n,q⟩:=h;obtain⟨d,e,g⟩:=k n q;exact#[b,d,e,g]
 |brk=>obtain⟨b,i,n,q⟩:=h;obtain⟨d,e,g⟩:=k n q;exact#[b,d,e,g]
 |cont=>obtain⟨b,i,n,q⟩:=h;obtain⟨d,e,g⟩:=k n q;exact#[b,d,e,g]
 |ret u=>obtain⟨v,b,i,n,r,q⟩:=h;obtain⟨d,e,g⟩:=k n q;exact#[v,b,d,e,r,g]
def FV(d:D):A2:=match d with
 |.lst b .d=>(EE b).map λa=>a.map λp=>kD p.1
 |_=>J
theorem Ar.at_any{K:Am}{N b:Fb}{a:At}{v:V}(h:Ar K N H (aD a) v):Ar K b H (aD a) v:=by cases a<;>exact h
theorem Ad.at_any{K:Am}{N b:Fb}{H:Hp}:∀{l:U At}{vs:U V},Ad K N H (l.map aD) vs->Ad K b H (l.map aD) vs
 |[],_,h=>h
 |a::l,vs,h=>by
  obtain⟨v,r,e,q,t⟩:=h;exact#[v,r,e,q.at_any,Ad.at_any t]
theorem Ar.key_any{K:Am}{N b:Fb}{k:KT}{v:V}(h:Ar K N H (kD k) v):Ar K b H (kD k) v:=by
 cases k with| «at» a=>exact Ar.at_any h|tup l=>
  obtain⟨p,c,e,q,r⟩:=h;exact#[p,c,e,q,Ad.at_any r]
theorem sZ{K:Am}{M N k:Fb}{f:Hp}{o:Obj}{tr:U T3}(g:PD K k f kvs tr)(hz:Dk a o (D4 tr) f a=Z (.frz o (D4 tr))):LN K M N (Dk a o (D4 tr) f) (P9 a o (D4 tr) (tr.map λt=>t.2.1)) (kvs.map λp=>kD p.1):=λq r S i=>by
 have c:=S.kp a _ hz<|.inr<|.inr rfl;refine⟨λd hd=>?_,λe=>⟨c,by rw[<- g.kden.length];lia⟩⟩;refine#[#[c,g.kden.length ▸ ((BC.mp hd).1)],λx s y=>?_];obtain⟨rfl,l⟩:=y;refine#[Aj.refl _,?_];obtain⟨w,j,m⟩:=g.kden.get hd;rw[l]at j;cases j;rw[CW]at hd;obtain⟨p,n,hd⟩:=BN.mp hd;cases hd;exact Ar.step S _ _<|(Ar.rd (λb v _ h=>Rd.fz rfl h) _ _ m).key_any
theorem td{K:Am}{M:Fb}(R:Bl K M H0 ρ I H)(d:¬ Nf M ρ I a\/M a):∀(i:Nat)(xs:U D)(b:Kd)(e:O Ac),ρ[i]?=Z (Sl.own xs b e)->I[i]?≠Z (Z (V.ref a)):=λi xs j e f g=>by
 rcases d with d|d
 ·exact d<|.inr ⟨i,xs,j,e,f,g⟩
 ·obtain⟨c,k,h,_,l,_⟩:=R.slot i _ f;rw[g]at h;cases h;exact l d
theorem Inv.plain2{b:AR}{g:Hp}{s:Ab}{u:HO}(l:Inv X b I H s)(c:Aj H g)(d:g a=Z u)(h:Gb u=J'):(∀xs,X.H₀ a≠Z (.tup xs))/\(∀o v,X.H₀ a≠Z (.frz o v))/\∀f,X.H₀ a≠Z (.tbl f):=by
 obtain⟨_,i,j,k⟩:=Ts h;refine#[λxs z=>?_,λo v z=>?_,λf z=>?_]
 ·have y:=c _ _<|l.base.tups a xs z;rw[d]at y;cases y;exact i _ rfl
 ·have y:=c _ _<|l.base.frzs a o v z;rw[d]at y;cases y;exact j _ _ rfl
 ·obtain⟨m,e⟩:=l.base.tbls a f z;have y:=c _ _ e;rw[d]at y;cases y;exact k _ rfl
section
set_option tactic.hygienic true in
end
def tf(K:Am):V->U V->Hp->VK->Prop:=λx b H Q=>∃a tr k y,x=.ref a/\b=[y]/\Cw K H a tr/\Ii k tr/\ED K H k y/\Q ((CL tr k).getD .non) H
@[simp] def NR(x y:D):O D:=match x with
  |.lst b .d=>match EE b,Ds y with
   |some a,Z k=>if Dy k a then Z ((Zt a k).getD .non)else J
   |_,_=>J
  |_=>J
section
variable{M:Fb}{ek:Expr}{fo fk:AD}
theorem ti(E:X.A.units+64<Aq):M5 X "dict.get" (tf X.K):=by
 rintro j s G H x L v f Q M r t ⟨a,tr,k,y,rfl,rfl,hd,m,n,q⟩;cases r;obtain⟨u,rfl,o⟩:=t.one;cases k with
 | «at» b=>
  cases n;obtain⟨z,i,nd,f,g,h⟩:=Nz M hd m;have c:=g.val b;refine call_meetsIn PySem.F.slot_dict_get h.typeIs PySem.F.entry_dict_get (PySem.F.args_dict_get_2 _ _) (meets_dict_get (ZG X.prog X.w) a (Hq o) i) #[_,h.mapOf,?_];cases d:CL tr (.at b)with
  |none=>
   rw[d]at q;cases e:valueAt f b with
   |none=>exact#[.non,H,M.tok _,rfl,q]
   |some w=>rw[d,e]at c;exact c.elim
  |some w=>
   rw[d]at q;cases e:valueAt f b with
   |none=>rw[d,e]at c;exact c.elim
   |some B=>rw[d,e]at c;exact#[w,H,M.tok _,c,q]
 |tup l=>
  obtain⟨p,rfl,C⟩:=n;cases(show u=B8 p from o);obtain⟨z,i,nd,f,g,h⟩:=L1 M hd m;have c:=g.val l;refine call_meetsIn PySem.F.slot_dict_get h.typeIs PySem.F.entry_dict_get (PySem.F.args_dict_get_2 _ _) (meetsH_dict_get (tupleKind<|ZG X.prog X.w) a p i) ⟨L3 (by lia),l,f,Jt M C,h,?_⟩;cases d:CL tr (.tup l)with
  |none=>
   rw[d]at q;cases e:atKey f l with
   |none=>exact#[.non,H,M.tok _,rfl,q]
   |some w=>rw[d,e]at c;exact c.elim
  |some w=>
   rw[d]at q;cases e:atKey f l with
   |none=>rw[d,e]at c;exact c.elim
   |some B=>rw[d,e]at c;exact#[w,H,M.tok _,c,q]
set_option tactic.hygienic true in
theorem tj(G:X.A.units+64<Aq)(zA:JE X o (tP X.K M H0 fo))(P:JE X ek (tP X.K M H0 fk)) (c:GA o "get" X.env (An o X.env)=An o X.env:=by rfl) (f:((As cpos (Az [ek] X.env)).all (λx=>!x.1)&&(GB cpos (GC [] X.env)).all (λx=>x.1.isSome) && decide ([ek].length+([]:U Ev).length+(if([]:U Ev).isEmpty then 0 else 1)<30))=J':=by rfl) (e:(apos.endLine==cpos.line)=J':=by rfl) (g:Az [ek] X.env=(O',An ek X.env)::Az [] X.env:=by exact ZI rfl) (l:(As cpos (Az [] X.env)).any (·.1)=O':=by rfl):JE X (.Call (.Attribute o "get" apos) [ek] [] cpos) (tD X.K M H0 (Za NR fo fk)):=#[(Ku PySem.F.plainAttrs_dict PySem.F.slot_dict_get PySem.F.type_dict_get (ti G) zA.h (Eu P.h Bk g) c f e g l).mono λI H Q L=>by
   obtain⟨t,d,R,ex,q⟩:=L;obtain⟨x,y,N,S,ex⟩:=Yi ex;unfold NR at ex;split at ex
   ·next xs=>
    split at ex
    ·next m k n p=>
     obtain⟨T,ex⟩:=ZV ex;cases ex;have r:=GQ n;subst r;refine#[t,_,R,N,λv H1 z W=>?_];obtain⟨a,vs,rfl,B,hd⟩:=W;refine#[.inr<|.inr ⟨rfl,_,_,B⟩,t,y,R.st z,S,λw Y s C=>?_];obtain⟨tr,dc,E⟩:=Jw (B.same s)<|hd.same s;rw[Ju p]at C;have b:=E.val k;refine#[a,tr,k,w,rfl,rfl,dc,E.hom T,Jv<|Il C,q _ Y (z.trans s) ?_];cases i:Zt m k with
     |none=>
      rw[i]at b;cases j:CL tr k with
      |none=>erw[Option.getD,Ar]
      |some u=>rw[j]at b;exact b.elim
     |some d0=>
      rw[i]at b;cases j:CL tr k with
      |none=>rw[j]at b;exact b.elim
      |some u=>rw[j]at b;exact b
    ·cases ex
   ·cases ex]
end
end L2
namespace L2
open PySem PySem.Spec PyProof.Rows
structure Hv(P:AJ)(w:Ai)(i:Ac)(fp:List Ac)(n:Nat)(is:Nat->Aa->Prop)(st:Nat->Ak->Prop):Prop where
 frame:∀k h h',st k h->(∀b,b=i\/b∈fp->∀o,h.get? b=Z o->h'.get? b=Z o)->st k h'
 lt:∀k h,st k h->i<h.objs.size
 item:∀(A:Ah) (E:AI) (s:Ab) (k:Nat) (Q:AI),k<n->st k s.heap->(∀v h' tk,is k v->st (k+1) h'->DZ i s.heap h'->Q v {s with heap:=h',toks:=tk})->wpAny (Ag P w) A (bA (.ref i)) Q E s
 fin:∀(A:Ah) (E:AI) (s:Ab) (k:Nat) (Q:AI),A.handled=J->n<=k->st k s.heap->(∀h' e,Heap.ExtBut i s.heap h'->(∃o,h'.get? e=Z o/\o.cls=.type "StopIteration")->E (.ref e) {s with heap:=h' }) ->
  wpAny (Ag P w) A (bA (.ref i)) Q E s
section
variable{prog:AJ}{w:Ai}{A:Ah}{s:Ab}
theorem bB{i f:Ac}{k:Nat}{b:Array Aa}{Q:AI}(h:s.heap.IsTupleIter i f k)(n:s.heap.IsTuple f b)(q:∀v,b[k]?=Z v->∀h',h'.IsTupleIter i f (k+1)->DZ i s.heap h'->Q v {s with heap:=h' }) (j:b[k]?=J->A.handled=J/\∀h' e,Heap.ExtBut i s.heap h'->(∃o,h'.get? e=Z o/\o.cls=.type "StopIteration")->E (.ref e) {s with heap:=h' }):wpAny (Ag prog w) A (bA (.ref i)) Q E s:=by
 obtain⟨u,d,p,c⟩:=id h;obtain⟨y,r,_,z,t⟩:=n;refine Al<|Ly (name:=I0 "__next__") h.typeIs PySem.F.slot_tuple_iterator_next (Ks PySem.F.slot_tuple_iterator_next h.typeIs PySem.F.entry_tuple_iterator_next ?_<|PySem.F.args_tuple_iterator_next_1 _);show wpAny _ _ (field (.ref i) 0 >>= _) _ _ s
 refine Al<|D9 d c (x:=.ref f) rfl ?_;refine Al<|D9 d c (x:=.int k 0) rfl ?_;refine Al<|wpAny_seqItems r t ?_;erw[Iq];cases g:b[k]? with
 |some v=>
  exact Al<|NN d c (by simp)<|AQ ⟨v,rfl,AQ<|q _ g _ ⟨_,M6 _ d<|Tl<|L7 c _,(Obj.cls_mapFields ..).trans p,by rw[L7 c];simp[AZ]⟩<|L5 ..⟩
 |none=>
  refine Al<|Ja<|Al<|NN d c (by simp) ?_;refine Al ?_;refine Al<|Jb ?_ (show(0:Nat)<=Ax by ext);refine Al (m:=firstArgMember _ _) (wpAny_of_eq (a:=Gs) (by first|rfl|(unfold firstArgMember;rfl)) ?_);refine Jb ?_ (by size_fits);refine Al<|wpAny_handled ?_;first|rw[(j g).1]|rw[show A.in1.handled=J from(j g).1]
  exact Al<|AQ<|wpAny_throw<|(j g).2 _ _ ((Heap.ExtBut.push (Heap.SameBut.extBut<|L5 ..) _).push _) ⟨_,B2 _ rfl,rfl⟩
theorem tm{P:AJ}{w:Ai}{i l:Ac}{xs:U V}(d:Array Aa)(r:Ao xs d.toList):Hv P w i [l] xs.length (λk v=>∃x,xs[k]?=Z x/\RelV x v) (λk h=>h.IsListIter i l k/\h.IsList l d) where
 frame:=λk h j ⟨a,b⟩ kp=>#[a.at λo e=>kp i (.inl rfl) o e,b.at λo e=>kp l (.inr (by simp)) o e];lt:=λk h ⟨⟨o,e,_⟩,_⟩=>Bp e;item:=λA E s k Q g ⟨a,b⟩ q=>by
  obtain⟨u,t,y⟩:=r.get<|BW g;refine wpAny_nextOf_list_item a b (x:=u) (by simpa using t) λj z m=>?_;by_cases f:l=i
  ·subst f;obtain⟨o,e,c,_⟩:=a;obtain⟨C,n,p,_⟩:=b;rw[e]at n;cases n;rw[c]at p;exact absurd p (by ext)
  ·exact q _ j s.toks #[_,BW g,y] #[z,b.extBut m.extBut f] m
 fin:=λA E s k Q B g ⟨a,b⟩ q=>wpAny_nextOf_list_end B a b (Array.getElem?_eq_none (by have f:=r.length;simp at f;exact le_of_eq_of_le f.symm g)) q
theorem tp{P:AJ}{w:Ai}{i l:Ac}{xs:U V}(d:Array Aa)(r:Ao xs d.toList):Hv P w i [l] xs.length (λk v=>∃x,xs[k]?=Z x/\RelV x v) (λk h=>h.IsTupleIter i l k/\h.IsTuple l d) where
 frame:=λk h n ⟨a,b⟩ kp=>#[a.at λo e=>kp i (.inl rfl) o e,b.at λo e=>kp l (.inr (by simp)) o e];lt:=λk h ⟨⟨o,e,_⟩,_⟩=>Bp e;item:=λA E s k Q j ⟨a,b⟩ q=>by
  obtain⟨u,m,B⟩:=r.get<|BW j;have m:d[k]?=Z u:=by simpa using m
  refine bB a b (λv f n C p=>?_) λz=>by rw[m]at z;cases z
  rw[m]at f;cases f;by_cases g:l=i
  ·subst g;obtain⟨o,e,c,_⟩:=a;obtain⟨H,t,y,_⟩:=b;rw[e]at t;cases t;rw[c]at y;exact absurd y (by ext)
  ·exact q _ n s.toks #[_,BW j,B] #[C,b.at λo e=>p.extBut _ _ g e] p
 fin:=λA E s k Q G j ⟨a,b⟩ q=>bB a b (λv f=>by rw[Array.getElem?_eq_none (by have g:=r.length;simp at g;exact le_of_eq_of_le g.symm j)]at f;cases f) λ_=>#[G,q]
noncomputable def L8(x:Ae):String:=if x.cps.all (·<128)=J' then "str_ascii_iterator" else "str_iterator"
noncomputable def FW(x:Ae):U V:=x.cps.toList.map λc=>.str #[(T' [c])]
theorem tq{P:AJ}{w:Ai}{i:Ac}(x:Ae):Hv P w i [] (FW x).length (λk v=>∃y,(FW x)[k]?=Z y/\RelV y v) (λk h=>∃t,h.IsStrIter i (L8 x) x t k) where
 frame:=λk h f ⟨t,o,e,r⟩ kp=>#[t,o,kp i (.inl rfl) o e,r];lt:=λk h ⟨t,o,e,_⟩=>Bp e;item:=λA E s k Q g ⟨t,a⟩ q=>by
  have b:k<x.cps.size:=by simpa[FW]using g
  unfold L8 at a q;by_cases d:x.cps.all (·<128)=J'
  ·rw[if_pos d]at a q;exact wpAny_nextOf_ascii_item a (c:=x.cps[k]) (by simp[b]) λf j l=>q _ f (s.toks+1) #[.str #[(T' [x.cps[k]])],by simp[FW,b],_,rfl] #[t,j] l
  ·rw[if_neg d]at a q;exact wpAny_nextOf_wide_item a (c:=x.cps[k]) (by simp[b]) λf j l=>q _ f (s.toks+1) #[.str #[(T' [x.cps[k]])],by simp[FW,b],_,rfl] #[t,j] l
 fin:=λA E s k Q m g ⟨t,a⟩ q=>by
  have b:x.cps.size<=k:=by simpa[FW]using g
  unfold L8 at a;by_cases d:x.cps.all (·<128)=J'
  ·rw[if_pos d]at a;exact wpAny_nextOf_ascii_end m a (by simp[b]) q
  ·rw[if_neg d]at a;exact wpAny_nextOf_wide_end m a (by simp[b]) q
structure Ch(z tin tout ia ib:Ac)(fa fb:List Ac):Prop where
 n1:tin≠z
 n2:tout≠z
 n3:ia≠z
 n4:ib≠z
 n5:tin≠tout
 n6:tin≠ia
 n7:tin≠ib
 n8:tout≠ia
 n9:tout≠ib
 n10:ia≠ib
 fz:∀b,b∈fa\/b∈fb->b≠z/\b≠tout/\b≠ia/\b≠ib
section
variable{z tin tout ia ib:Ac}{fa fb:U Ac}{n m k:Nat}{isB:Nat->Aa->Prop}{sa sb:Nat->Ak->Prop}{a b:Aa}
theorem Ch.keepA(D:Ch z tin tout ia ib fa fb)(f:Hv prog w ia fa n isA sa){h h':Ak}(st:sa k h){c:Ac}(d:c=z\/c=tout\/c=ib)(a:DZ c h h'):sa k h':=f.frame k h h' st λx b o e=>by
  refine a.extBut x o ?_ e;rcases b with rfl|b
  ·rcases d with rfl|rfl|rfl
   ·exact D.n3
   ·exact Bv D.n8
   ·exact D.n10
  ·obtain⟨g,i,q3,j⟩:=D.fz x<|.inl b;rcases d with rfl|rfl|rfl
   ·exact g
   ·exact i
   ·exact j
theorem Ch.keepB(D:Ch z tin tout ia ib fa fb)(SB:Hv prog w ib fb n isB sb){h h':Ak}(st:sb k h){c:Ac}(d:c=z\/c=tout\/c=ia)(a:DZ c h h'):sb k h':=SB.frame k h h' st λx b o e=>by
  refine a.extBut x o ?_ e;rcases b with rfl|b
  ·rcases d with rfl|rfl|rfl
   ·exact D.n4
   ·exact Bv D.n9
   ·exact Bv D.n10
  ·obtain⟨f,g,q3,i⟩:=D.fz x<|.inr b;rcases d with rfl|rfl|rfl
   ·exact f
   ·exact g
   ·exact q3
theorem bC{Q:O Aa->Ab->Prop}(D:Ch z tin tout ia ib fa fb)(i:Hv prog w ia fa n isA sa)(SB:Hv prog w ib fb m isB sb)
  (hz:IsZip s.heap z tin tout .none) (hi:IsPair s.heap tin (.ref ia) (.ref ib)) (ho:IsPair s.heap tout a b) (ha:sa k s.heap) (hb:sb k s.heap)
  (q:k<n->k<m->∀x y h' r,isA k x->isB k y->IsZip h' z tin tout (AZ s.heap.objs.size)->IsPair h' tout x y->sa (k+1) h'->sb (k+1) h'->IsPair h' s.heap.objs.size x y->h'.objs.size=s.heap.objs.size+1 ->
   (∀c o,c≠z->c≠tout->c≠ia->c≠ib->s.heap.get? c=Z o->h'.get? c=Z o)->Q (Z (.ref s.heap.objs.size)) {s with heap:=h',toks:=r})
  (P:n<=k\/m<=k->A.handled=J/\∀h' r,(∀c o,c≠z->c≠tout->c≠ia->c≠ib->s.heap.get? c=Z o->h'.get? c=Z o)->Q J {s with heap:=h',toks:=r}):
  wpAny (Ag prog w) A (pyNext (.ref z)) Q E s:=by
 have j:n<=k\/m<=k->∀(h':Ak) (r:Nat) (e:Ac),(∀c o,c≠z->c≠tout->c≠ia->c≠ib->s.heap.get? c=Z o->h'.get? c=Z o)->(∃o,h'.get? e=Z o/\o.cls=.type "StopIteration") ->
   wpAny (Ag prog w) A (do if(<- isInstance (.ref e) (.type "StopIteration"))=J' then Ay (J:O Aa)else throw (B8 e)) Q E {s with heap:=h',toks:=r}:=λkn h' r e kp ⟨o,g,d⟩=>
  Al (wpAny_isInstance (T:="StopIteration") (b:=J') #[o,g,d] isSubtype_stop (AQ ((P kn).2 h' r kp)))
 refine Al (wpAny_attempt (Ly (name:=I0 "__next__") #[_,hz,rfl] PySem.F.slot_zip_next (Ks PySem.F.slot_zip_next #[_,hz,rfl] PySem.F.entry_zip_next ?_ (PySem.F.args_zip_next_1 _))))
 show wpAny _ _ (field (.ref z) 2 >>= _) _ _ _
 refine Al (D9 hz rfl (x:=.bool O') rfl ?_)
 refine Al (D9 hz rfl (x:=.ref tin) rfl ?_)
 refine Al (wpAny_seqItems hi rfl ?_)
 refine Al ?_
 refine Al (D9 hz rfl (x:=.none) rfl (AQ ?_))
 refine Al (Ja ?_)
 refine Al (D9 hz rfl (x:=.ref tout) rfl ?_)
 refine Al (Hw hz (by simp) λg1 M l=>?_)
 refine Al ?_
 refine Al (Al (wpAny_onRaise ?_))
 by_cases H:n<=k
 ·refine Al (i.fin A.in1 _ _ k _ (P (.inl H)).1 H (D.keepA i ha (.inl rfl) l) λg2 e R Y=>?_)
  obtain⟨oe,g,d⟩:=Y
  exact Hw (R _ _ (Bv D.n3) M) (by simp) λg3 _ f=>j (.inl H) g3 s.toks e (λc o d _ t _ x=>f.extBut _ _ d (R _ _ t (l.extBut _ _ d x))) #[oe,f.extBut _ _ (λx=>by subst x;rw[R _ _ (Bv D.n3) M]at g;cases g;simp at d) g,d]
 ·refine Al (i.item _ _ _ k _ (NS H) (D.keepA i ha (.inl rfl) l) λx g2 tk2 hx a2 u=>AQ ?_)
  have o2:IsPair g2 tout a b:=u.extBut _ _ D.n8 (l.extBut _ _ D.n2 ho)
  refine Al (wpAny_seqItems o2 rfl ?_)
  refine Al (wpAny_updateSeq_pair o2 λg3 o3 f=>?_)
  refine Al (wpAny_letGo (AQ ?_))
  refine Al (Al (wpAny_onRaise ?_))
  have S:sb k g3:=D.keepB SB (D.keepB SB (D.keepB SB hb (.inl rfl) l) (.inr (.inr rfl)) u) (.inr (.inl rfl)) f
  by_cases K:m<=k
  ·refine Al (SB.fin A.in1 _ _ k _ (P (.inr K)).1 K S λg4 e x4 Y=>?_)
   obtain⟨oe,g,d⟩:=Y
   have z4:IsZip g4 z tin tout .ellipsis:=x4 _ _ (Bv D.n4) (f.extBut _ _ (Bv D.n2) (u.extBut _ _ (Bv D.n3) M))
   exact Hw z4 (by simp) λh _ p=>j (.inr K) h tk2 e (λc o d B t L x=>p.extBut _ _ d (x4 _ _ L (f.extBut _ _ B (u.extBut _ _ t (l.extBut _ _ d x))))) #[oe,p.extBut _ _ (λx=>by subst x;rw[z4]at g;cases g;simp at d) g,d]
  ·refine Al (SB.item _ _ _ k _ (NS K) S λy g4 tk4 hy a4 C=>AQ ?_)
   refine Al (wpAny_seqItems (C.extBut _ _ D.n9 o3) rfl ?_)
   refine Al (wpAny_updateSeq_pair (C.extBut _ _ D.n9 o3) λh N p=>?_)
   have N:IsPair h tout x y:=N
   refine Al (wpAny_letGo (AQ (AQ ?_)))
   refine Al (wpAny_seqItems N rfl ?_)
   refine Al (wpAny_newTuple ?_)
   have sz:h.objs.size=s.heap.objs.size:=by rw[p.1,C.1,f.1,u.1,l.1]
   have z5:IsZip h z tin tout .ellipsis:=p.extBut _ _ (Bv D.n2) (C.extBut _ _ (Bv D.n4) (f.extBut _ _ (Bv D.n2) (u.extBut _ _ (Bv D.n3) M)))
   have kp:∀c o,c≠z->c≠tout->c≠ia->c≠ib->s.heap.get? c=Z o->h.get? c=Z o:=λc o d B t L e=>
    p.extBut _ _ B (C.extBut _ _ L (f.extBut _ _ B (u.extBut _ _ t (l.extBut _ _ d e))))
   refine Al ?_
   refine Al (Hw (Bn _ z5) (by simp) λg7 z7 b7=>?_)
   refine Hw z7 (by simp) λG z8 b8=>?_
   have up:∀c o,c≠z->h.get? c=Z o->G.get? c=Z o:=λc o d e=>b8.extBut _ _ d (b7.extBut _ _ d (Bn _ e))
   have new:IsPair G h.objs.size x y:=b8.extBut _ _ (Gz (Bp z5)) (b7.extBut _ _ (Gz (Bp z5)) (B2 _ rfl))
   have s8:G.objs.size=h.objs.size+1:=by rw[b8.1,b7.1,Lw]
   have a8:sa (k+1) G:=i.frame _ _ _ (D.keepA i (D.keepA i (D.keepA i a2 (.inr (.inl rfl)) f) (.inr (.inr rfl)) C) (.inr (.inl rfl)) p) λc v o e=>up c o (by
    rcases v with rfl|v
    ·exact D.n3
    ·exact(D.fz c (.inl v)).1) e
   have b8':sb (k+1) G:=SB.frame _ _ _ (D.keepB SB a4 (.inr (.inl rfl)) p) λc v o e=>up c o (by
    rcases v with rfl|v
    ·exact D.n4
    ·exact(D.fz c (.inr v)).1) e
   rw[sz]at z8 new s8
   refine AQ #[_,rfl,AQ ?_]
   rw[sz]
   exact q (NS H) (NS K) x y G tk4 hx hy z8 (up _ _ D.n2 N) a8 b8' new s8 λc o d B t L e=>up c o d (kp c o d B t L e)
end
end
inductive AH where
 |l (a:Ac)
 |t (a:Ac)
 |x (s:Ae)
@[reducible] noncomputable def AH.v:AH->V
  |.l a=>.ref a
  |.t a=>.ref a
  |.x s=>.str s
@[reducible] noncomputable def AH.fp:AH->U Ac
  |.l a=>[a]
  |.t a=>[a]
  |.x _=>[]
def AH.sq(K:Am)(H:Hp):AH->U V->Prop
 |.l a=>BJ K H a
 |.t a=>B0 K H a
 |.x s=>λb=>b=FW s
def AH.nm:AH->String
 |.l _=>"list_iterator"
 |.t _=>"tuple_iterator"
 |.x s=>L8 s
def AH.ok(h:Ak)(xs:U V):AH->Prop
 |.l a=>∃b:Array Aa,Ao xs b.toList/\h.IsList a b
 |.t a=>∃b:Array Aa,Ao xs b.toList/\h.IsTuple a b
 |.x s=>xs=FW s
def AH.it(h:Ak)(i:Ac)(k:Nat):AH->Prop
 |.l a=>h.IsListIter i a k
 |.t a=>h.IsTupleIter i a k
 |.x s=>∃t,h.IsStrIter i (L8 s) s t k
theorem AH.of(S:AH){c:AR}{s:Ab}{xs:U V}(d:Inv X c I H s)(h:S.sq X.K H xs):S.ok s.heap xs:=by
 cases S with
 |l a=>obtain⟨b,r,p,z⟩:=d.list h;exact#[b.toArray,r,p.isList]
 |t a=>obtain⟨b,r,p,z⟩:=d.tuple h;exact#[b.toArray,r,(show s.heap.IsTuple a b.toArray from p)]
 |x s=>exact h
theorem AH.inj(S:AH){b:AR}{s:Ab}{xs:U V}(c:Inv X b I H s)(h:S.sq X.K H xs)(h':S.sq X.K H ys):xs=ys:=by
 cases S with
 |l a=>exact c.list_inj h h'
 |t a=>exact c.tuple_inj h h'
 |x s=>exact(show xs=FW s from h).trans (show ys=FW s from h').symm
theorem AH.lt(S:AH){h:Ak}{xs:U V}(p:S.ok h xs):∀b∈S.fp,b<h.objs.size:=by
 intro b c;cases S with
 |l a=>rw[CP.mp c];obtain⟨d,_,o,e,_⟩:=p;exact Bp e
 |t a=>rw[CP.mp c];obtain⟨d,_,o,e,_⟩:=p;exact Bp e
 |x s=>cases c
theorem AH.okAt(S:AH){h h':Ak}{xs:U V}(p:S.ok h xs)(k:∀b∈S.fp,∀o,h.get? b=Z o->h'.get? b=Z o):S.ok h' xs:=by
 cases S with
 |l a=>obtain⟨c,r,q⟩:=p;exact#[c,r,Heap.IsList.at q<|k a (by simp)]
 |t a=>obtain⟨c,r,q⟩:=p;exact#[c,r,Heap.IsTuple.at q<|k a (by simp)]
 |x s=>exact p
theorem AH.itAt(S:AH){h h':Ak}{i:Ac}{n:Nat}(p:S.it h i n)(k:∀o,h.get? i=Z o->h'.get? i=Z o):S.it h' i n:=by
 cases S with
 |l a=>exact Heap.IsListIter.at p k
 |t a=>exact Heap.IsTupleIter.at p k
 |x s=>obtain⟨t,o,e,r⟩:=p;exact#[t,o,k o e,r]
theorem AH.itOb(S:AH){h:Ak}{i:Ac}{n:Nat}(p:S.it h i n):∃o,h.get? i=Z o/\∀v,o.data≠.cell v:=by
 cases S with
 |l a=>obtain⟨o,e,c,d⟩:=p;exact#[o,e,λv z=>by rw[d]at z;cases z]
 |t a=>obtain⟨o,e,c,d⟩:=p;exact#[o,e,λv z=>by rw[d]at z;cases z]
 |x s=>obtain⟨t,o,e,c,d⟩:=p;exact#[o,e,λv z=>by rw[d]at z;cases z]
theorem AH.sub(S:AH){P:AJ}{w:Ai}{i:Ac}{h:Ak}{xs:U V}(p:S.ok h xs):∃st:Nat->Ak->Prop,Hv P w i S.fp xs.length (λk v=>∃x,xs[k]?=Z x/\RelV x v) st/\(∀k,S.it h i k->st k h)/\∀k h',st k h'->S.it h' i k:=by
 cases S with
 |l a=>obtain⟨b,r,q⟩:=p;exact#[_,tm b r,λk e=>#[e,q],λk h' e=>e.1]
 |t a=>obtain⟨b,r,q⟩:=p;exact#[_,tp b r,λk e=>#[e,q],λk h' e=>e.1]
 |x s=>rw[show xs=FW s from p];exact#[_,tq s,λk e=>e,λk h' e=>e]
def AH.obj(S:AH)(u:Aa):Obj:={cls:=.type S.nm,data:=.fields (T' [u,.int 0 0])}
set_option tactic.hygienic true in
theorem AH.pyIter(S:AH){prog:AJ}{w:Ai}{A:Ah}{E:AI}{s:Ab}{xs:U V}{u:Aa}(c:RelV S.v u){Q:AI}(p:S.ok s.heap xs)
  (q:Q (.ref s.heap.objs.size) {s with heap:=s.heap.push (S.obj u)}):wpAny (Ag prog w) A (pyIter u) Q E s:=by
 cases S with
 |l a=>obtain⟨d,r,p⟩:=p;have e:u=.ref a:=c;subst e;exact O8 p q
 |t a=>obtain⟨d,r,p⟩:=p;have e:u=.ref a:=c;subst e;exact wpAny_pyIter_tuple p q
 |x x=>
  obtain⟨t,rfl⟩:=(show ∃t,u=Value.str x t from c)
  unfold AH.obj AH.nm L8 at q
  by_cases b:x.cps.all (·<128)=J'
  ·erw[b,if_true]at q;exact wpAny_pyIter_ascii b q
  ·erw[b,if_false]at q;exact wpAny_pyIter_wide (by simpa using b) q
theorem AH.new(S:AH){h:Ak}(b:RelV S.v u):S.it (h.push (S.obj u)) h.objs.size 0:=by
 cases S with
 |l a=>have e:u=.ref a:=b;subst e;exact#[_,B2 _ rfl,rfl,rfl]
 |t a=>have e:u=.ref a:=b;subst e;exact#[_,B2 _ rfl,rfl,rfl]
 |x x=>obtain⟨t,rfl⟩:=(show ∃t,u=Value.str x t from b);exact#[t,_,B2 _ rfl,rfl,rfl]
@[reducible] def NT(h:Ak)(A:AH)(u:Aa):Ak:=h.push (A.obj u)
@[reducible] def NU(h:Ak)(A B:AH)(u v:Aa):Ak:=(NT h A u).push (B.obj v)
@[reducible] def Qa(h:Ak)(A B:AH)(u v:Aa):Ak:=(NU h A B u v).push {cls:=.type "tuple",data:=.seq (T' [.ref h.objs.size,.ref (NT h A u).objs.size])}
@[reducible] def Qb(h:Ak)(A B:AH)(u v:Aa):Ak:=(Qa h A B u v).push {cls:=.type "tuple",data:=.seq (T' [.none,.none])}
@[reducible] def Ma(h:Ak)(A B:AH)(u v:Aa):Ak:=(Qb h A B u v).push {cls:=.type "zip",data:=.fields (T' [.none,.bool O',.bool O',.ref (NU h A B u v).objs.size,.ref (Qa h A B u v).objs.size])}
theorem tu(A B:AH){v:Aa}(a:RelV A.v u)(c:RelV B.v v)(xs ys:U V):Meets (Ex.«zip.__new__» #[[.type "zip",u,v],[]]) (λ_ R s=>A.ok s.heap xs/\B.ok s.heap ys/\R (.ok (.ret (.ref (Qb s.heap A B u v).objs.size))) {s with heap:=Ma s.heap A B u v}):=.of_wp λprog w j R s h=>by
  obtain⟨k,g,d,l,os⟩:=s;obtain⟨f,i,q⟩:=h;have m:=sub_zip;wp_walk using A.pyIter a f,B.pyIter c<|B.okAt i λb _ o e=>Bn _ e;exact#[_,rfl,q]
section
variable{prog:AJ}{w:Ai}{A:Ah}{s:Ab}
theorem tw{S T:AH}{xs:U V}{v:Aa}(g:RelV S.v u)(i:RelV T.v v){Q:AI}(p1:S.ok s.heap xs)(n:T.ok s.heap ys) (q:∀h',IsZip h' (s.heap.objs.size+4) (s.heap.objs.size+2) (s.heap.objs.size+3) .none->IsPair h' (s.heap.objs.size+2) (.ref s.heap.objs.size) (.ref (s.heap.objs.size+1))->IsPair h' (s.heap.objs.size+3) .none .none->S.it h' s.heap.objs.size 0->T.it h' (s.heap.objs.size+1) 0->(∀c o,s.heap.get? c=Z o->h'.get? c=Z o)->Q (.ref (s.heap.objs.size+4)) {s with heap:=h' }):wpAny (Ag prog w) A (call (.type "zip") [u,v]) Q E s:=by
 refine callType_new PySem.F.called_zip (by ext) (PySem.F.typeCall_zip_2 _ _) (PySem.F.newCall_zip_2 _ _) (λobj=>PySem.F.args_object_init_3 obj _ _) PySem.F.entry_zip_new (tu S T g i xs ys) #[p1,n,?_];have a:(NT s.heap S u).objs.size=s.heap.objs.size+1:=Lw ..;have b:(NU s.heap S T u v).objs.size=s.heap.objs.size+2:=by rw[Lw,a]
 have d:(Qa s.heap S T u v).objs.size=s.heap.objs.size+3:=by rw[Lw,b]
 have j:(Qb s.heap S T u v).objs.size=s.heap.objs.size+4:=by rw[Lw,d]
 have f:(Ma s.heap S T u v).get? (Qb s.heap S T u v).objs.size=Z _:=B2 _ rfl;have k:(Ma s.heap S T u v).get? (Qa s.heap S T u v).objs.size=Z _:=Bn _<|B2 _ rfl;have l:(Ma s.heap S T u v).get? (NU s.heap S T u v).objs.size=Z _:=Bn _<|Bn _<|B2 _ rfl;have up:∀c o,(NU s.heap S T u v).get? c=Z o->(Ma s.heap S T u v).get? c=Z o:=λc o e=>Bn _<|Bn _<|Bn _ e;have m:T.it (Ma s.heap S T u v) (NT s.heap S u).objs.size 0:=T.itAt (T.new (h:=NT s.heap S u) i) λo e=>up _ o e;rw[b,d,j]at f;rw[a,b]at l;rw[d]at k;rw[a]at m;rw[j];exact#[#[_,f,rfl],q _ f l k (S.itAt (S.new (h:=s.heap) g) λo e=>up _ o<|Bn _ e) m λc o e=>up _ _<|Bn _<|Bn _ e]
end
noncomputable def bD(K:Am)(S T:AH):It:=
 #[λi H=>∃a b x y,S.sq K H a/\T.sq K H b/\a[i]?=Z x/\b[i]?=Z y,
  λi H v c=>∃p x y,v=.ref p/\H p=J/\c=AK H p (.tup [x,y])/\(∀a,S.sq K H a->a[i]?=Z x)/\∀b,T.sq K H b->b[i]?=Z y,
  λi H=>∃a b,S.sq K H a/\T.sq K H b/\(a.length<=i\/b.length<=i)]
theorem bE{n:Nat}{S T:AH}(a:∀b∈S.fp,b<n)(c:∀b∈T.fp,b<n):Ch (n+4) (n+2) (n+3) n (n+1) S.fp T.fp where
 n1:=by(show @Ne Nat _ _;exact W.Z.off_ne n 2 4 rfl)
 n2:=by(show @Ne Nat _ _;exact W.Z.off_ne n 3 4 rfl)
 n3:=by(show @Ne Nat _ _;lia)
 n4:=by(show @Ne Nat _ _;exact W.Z.off_ne n 1 4 rfl)
 n5:=by(show @Ne Nat _ _;exact W.Z.off_ne n 2 3 rfl)
 n6:=by(show @Ne Nat _ _;lia)
 n7:=by(show @Ne Nat _ _;exact W.Z.off_ne n 2 1 rfl)
 n8:=by(show @Ne Nat _ _;lia)
 n9:=by(show @Ne Nat _ _;exact W.Z.off_ne n 3 1 rfl)
 n10:=by(show @Ne Nat _ _;exact Nat.ne_add_one n)
 fz:=λb d=>by
  grind
theorem tx{P:AJ}{w:Ai}{K:Am}{l:U Expr} {x1} (S T:AH) (n:Nat) (h1:∀b∈S.fp,b<n) (h2:∀b∈T.fp,b<n):Hd P w K (.Tuple l x1 pos) (bD K S T) [n+4,n+2,n+3,n,n+1] (n+4) (λi h=>IsZip h (n+4) (n+2) (n+3) .none/\IsPair h (n+2) (.ref n) (.ref (n+1))/\(∃a b,IsPair h (n+3) a b)/\S.it h n i/\T.it h (n+1) i) where
 mem:=by simp
 obj:=λi h z0 q f=>by
  obtain⟨z,a,⟨x,y,b⟩,c,d⟩:=z0;erw[Bz,Hn,or_false]at f;rcases f with rfl|rfl|rfl|rfl|rfl
  ·exact#[_,z,λv e=>nomatch (show Data.fields _=Data.cell v from e)]
  ·exact#[_,a,λv e=>nomatch (show Data.seq _ _=Data.cell v from e)]
  ·exact#[_,b,λv e=>nomatch (show Data.seq _ _=Data.cell v from e)]
  ·exact S.itOb c
  ·exact T.itOb d
 keep:=λi h r ⟨z,a,⟨x,y,b⟩,c,d⟩ k=>#[k _ (by simp) _ z,k _ (by simp) _ a,#[x,y,k _ (by simp) _ b],S.itAt c λo e=>k _ (by simp) o e,T.itAt d λo e=>k _ (by simp) o e];item:=by
  intro X G F L hc i g s I H E zB t #[z,a,#[u,v,b],c,d] #[xs,ys,x,y,A,B,ex,M];subst G F L;obtain⟨sa,N,R,c2⟩:=S.sub (P:=X.prog) (w:=X.w) (i:=n) (S.of zB A);obtain⟨Q,SB,zA,d2⟩:=T.sub (P:=X.prog) (w:=X.w) (i:=n+1) (T.of zB B);have l1:=(BC.mp ex).1;have l2:=(BC.mp M).1;refine bC (bE h1 h2) N SB z a b (R _ c) (zA _ d) (λ_ _ x' y' r C Y hy' z' to' c' d' new sz kp=>?_) λhl=>absurd hl (by lia);obtain⟨x2,m,ru1⟩:=Y;obtain⟨y2,p,ru2⟩:=hy';rw[ex]at m;cases m;rw[M]at p;cases p;refine#[_,rfl,wpAny_letOwnedTupleGo_zip z' λj z2 Q=>?_];have hlt:n+4<s.heap.objs.size:=Bp z;have up:∀q o,q≠n+4->r.get? q=Z o->j.get? q=Z o:=λq o f e=>Q.extBut _ _ f e;have I1:Inv X g I (AK H s.heap.objs.size<|.tup [x,y]) {s with heap:=j,toks:=C}:=by
   refine Inv.tok (s:={s with heap:=j}) ?_ C;exact zB.yielded t (λq o f e=>up q o (λz=>f (by simp[z])) (kp q o (λz=>f (by simp[z])) (λz=>f (by simp[z])) (λz=>f (by simp[z])) (λz=>f (by simp[z])) e)) (Bc _) #[show 2<=Ax by ext,[x',y'],.cons ru1<|.cons ru2 .nil,⟨_,up _ _ (by(show @Ne Nat _ _;exact Bv<|BY hlt)) new,rfl,_,rfl⟩]
  refine#[.ref s.heap.objs.size,_,I1,rfl,#[_,x,y,rfl,zB.hok.fresh<|Bc _,rfl,λzs hz=>S.inj zB hz A ▸ ex,λzs hz=>T.inj zB hz B ▸ M],#[z2,up _ _ (by(show @Ne Nat _ _;exact W.Z.off_ne n 2 4 rfl))<|kp _ _ (by(show @Ne Nat _ _;exact W.Z.off_ne n 2 4 rfl)) (by(show @Ne Nat _ _;exact W.Z.off_ne n 2 3 rfl)) (by(show @Ne Nat _ _;lia)) (by(show @Ne Nat _ _;exact W.Z.off_ne n 2 1 rfl)) a,#[x',y',up _ _ (by(show @Ne Nat _ _;exact W.Z.off_ne n 3 4 rfl)) to'],S.itAt (c2 _ _ c') λo e=>up _ o (by(show @Ne Nat _ _;lia)) e,T.itAt (d2 _ _ d') λo e=>up _ o (by(show @Ne Nat _ _;lia)) e],λq f=>?_];rw[Zn]
  ·exact(t q f).1
  ·erw[Bz,Hn,or_false]at f;rcases f with rfl|rfl|rfl|rfl|rfl<;>(show @Ne Nat _ _;lia)
 done:=by
  intro X G F L hc i g s I H E zB t #[z,a,#[u,v,b],c,d] #[xs,ys,A,B,hl];subst G F L;obtain⟨sa,N,R,c2⟩:=S.sub (P:=X.prog) (w:=X.w) (i:=n) (S.of zB A);obtain⟨Q,SB,zA,d2⟩:=T.sub (P:=X.prog) (w:=X.w) (i:=n+1) (T.of zB B);exact bC (bE h1 h2) N SB z a b (R _ c) (zA _ d) (λz1 z2=>absurd hl (by lia)) λ_=>#[zB.ok.hd hc,λr C kp=>#[rfl,Inv.tok (s:={s with heap:=r}) (zB.turnedL t λq o f e=>kp q o (λz=>f (by simp[z])) (λz=>f (by simp[z])) (λz=>f (by simp[z])) (λz=>f (by simp[z])) e) C]]
 self:=λ_ _ _ _ _ ⟨z,_⟩ q=>wpAny_pyIter_zip z q
theorem tz:DY "zip"=Z (.type "zip"):=by decide +kernel
@[simp] noncomputable def GV:D->A2
  |.lst a=>Z a
  |.tup a=>Z a
  |.str s=>Z (s.cps.toList.map λc=>.str #[(T' [c])])
  |_=>J
theorem Tt{K:Am}{M N:Fb}{d:D}{v:V}(h:Pu K M N H d v)(e:GV d=Z xs):∃(S:AH) (vs:U V),v=S.v/\Ad K N H xs vs/\∀g f,Step M N g H f->S.sq K f vs:=by
 cases d with
 |lst k m=>
  cases m with
  |d=>cases e
  |i _ _=>cases e
  |l=>
  cases e;obtain⟨a,vs,j,b,hd⟩:=h;refine#[.l a,vs,j,hd,λg f S=>?_];rcases b with⟨n,b⟩|b
  ·exact .inl<|b.step S (by rcases n with z|z;exact .inl z;exact .inr<|.inl z)
  ·exact b.sq
 |tup k=>
  cases e;obtain⟨a,vs,j,b,hd⟩:=h;exact#[.t a,vs,j,hd,λg f S=>b.step S]
 |str s=>
  cases e;refine#[.x s,FW s,h,?_,λ_ _ _=>rfl];unfold FW;generalize s.cps.toList=l;induction l with
  |nil=>exact Ad.nil
  |cons c l o=>exact Ad.cons (by erw[Ar]) o
 |_=>cases e
@[simp] def Hx(f g:AD):VE->A2:=λa=>match(f a).bind GV,(g a).bind GV with
  |some b,Z c=>Z (JC (λx y=>D.tup [x,y]) b c)
  |_,_=>J
theorem tE{K:Am}{M N:Fb}{S T:AH}{ys:U D}{us:U V}(h:Ad K N H xs us)(j:Ad K N H ys vs)(n:∀c b,Step M N c H b->S.sq K b us)(o:∀c b,Step M N c H b->T.sq K b vs):LN K M N H (bD K S T) (JC (λx y=>D.tup [x,y]) xs ys):=λc b St i=>by
 have e:=n _ _ St;have f:=o _ _ St;refine#[λd a=>?_,λa=>#[us,vs,e,f,?_]]
 ·rw[List.getElem?_zipWith]at a;cases ex:xs[i]? with|none=>rw[ex]at a;cases a|some x=>
   cases g:ys[i]? with|none=>rw[ex,g]at a;cases a|some y=>
    rw[ex,g]at a;cases a;obtain⟨u,k,q⟩:=(Ad.step St _ _ h).get ex;obtain⟨v,l,r⟩:=(Ad.step St _ _ j).get g;refine#[#[us,vs,u,v,e,f,k,l],λz C s=>?_];obtain⟨p,E,G,t,m,w,A,B⟩:=s;have:=A us e;rw[k]at this;cases this;have:=B vs f;rw[l]at this;cases this;subst t w;exact#[Yd m,LR m<|Ad.cons q<|Ad.cons r Ad.nil]
 ·have l1:=h.length;have F:=j.length;erw[List.length_zipWith]at a;lia
section
variable{M:Fb}{f g:AD}{a b:Expr}{p tpos:AC}
set_option tactic.hygienic true in
theorem tH {x1} (hg:Gl X "zip") (hm:X.mg "zip"=J) (E:JE X a (tQ X.K M H0 f)) (l:JE X b (tQ X.K M H0 g)) (Y:Az [a,b] X.env=[(O',An a X.env),(O',An b X.env)]:=by rfl) (c:Az [b] X.env=[(O',An b X.env)]:=by rfl) (G:Az [] X.env=[]:=by rfl):JI X (.Tuple elts x1 tpos) (.Call (.Name "zip" p) [a,b] [] pos) (tI X.K M H0 (Hx f g)):=#[have E:=E.h;have l:=l.h;by
 intro o s t H Q zA #[d,ds,R,e,q];unfold Hx at e;split at e
 ·next xs ys ex y=>
  cases e;cases F:f d with|none=>rw[F]at ex;cases ex|some d1=>
   cases i:g d with|none=>rw[i]at y;cases y|some d2=>
    rw[F]at ex;rw[i]at y;refine Call_<|Hc zA hg hm tz<|MW (AV ((Eu E (Eu l Bk (by rw[c,G])) (by rw[Y,c])) pos o s t H (λvs m=>∃S T u w,vs=[AH.v S,AH.v T]/\Aj H m/\Ad X.K (Nf M d t) m xs u/\Ad X.K (Nf M d t) m ys w/\(∀A n,Step M (Nf M d t) A m n->S.sq X.K n u)/\∀A n,Step M (Nf M d t) A m n->T.sq X.K n w) zA ?_) λu L ⟨vs,H1,x,r1,N⟩=>?_) (by rw[Y,c]) (by rw[c];rfl)
    ·refine#[d,d1,R,F,λv1 H1 z1 N=>#[d,d2,R.st z1,i,λv2 m P q2=>?_]];obtain⟨S,u,e1,j,B⟩:=Tt N ex;obtain⟨T,w,e2,k,C⟩:=Tt q2 y;exact#[S,T,u,w,by rw[e1,e2],z1.trans P,j.same P,k,λA n St=>B _ _<|(Step.of_same P).trans St,C]
    ·obtain⟨S,T,us',w,rfl,z,j,k,B,C⟩:=N;cases r1 with
     |cons r W=>
      cases W with
      |cons r' W=>
       cases W;have o1:=S.of x<|B _ _ Step.refl;have o2:=T.of x<|C _ _ Step.refl;refine tw r r' o1 o2 λh' a1 a2 a3 a4 a5 kp=>wpAny_pyIter_zip a1 ?_;refine#[_,_,_,_,H1,rfl,x.kept (t':=L.toks) kp,tx S T L.heap.objs.size (S.lt o1)<|T.lt o2,⟨a1,a2,⟨_,_,a3⟩,a4,a5⟩,λb l=>?_,q _ _ z<|tE j k B C];have hl:L.heap.objs.size<=b:=by
        erw[Bz,Hn,or_false]at l;rcases l with rfl|rfl|rfl|rfl|rfl<;>(show @LE.le Nat _ _ _;lia)
       exact x.fpOk hl<|x.hok.fresh hl
 ·cases e]
end
open PySem.W
structure Q4 where
 k:KT
 kv:V
 b:Ac
 z:List D
noncomputable def q3(q:Q4):T3:=(q.k,q.kv,.ref q.b)
noncomputable def qz(q:Q4):KT×U D:=(q.k,q.z)
section
set_option tactic.hygienic true in
end
structure MI(K:Am)(C:Ac)(nm qual:Ae)(st:Av)(ps:List Ae)(a:Ac)(fd:B3):Prop where
 M:HM K C nm a
 F:HV K nm qual st a fd
 b:Binds K fd ps []
theorem mi{K:Am}{nm b:Ae}{st:Av}{j:U Ae}{n:Aa}{o f:O Ac}{m:Array (O Aa)}{g e h d ct:Aa} (A:findIn K (.ref C) nm=Z (Z (.ref a))) (i:isFn K (.ref a)=J') (l:K.lookup a=Z #[n,o,.func (fnOf nm b (Hh st) (ZH st) (Ze st) .none g e h f d ct),m]) (c:codeIn K d b=J') (k:keepIn K (.ref a)=J') (p:∀(g e h:Aa) (f:O Ac) (d ct:Aa) (us:U Aa),us.length=j.length->bindArgs (fnOf nm b (Hh st) (ZH st) (Ze st) .none g e h f d ct) #[us,[]]=Ay (j.zip us):=by
   exact λ_ _ _ _ _ _=>bj (by(repeat intro _);rfl)):MI K C nm b st j a (fnOf nm b (Hh st) (ZH st) (Ze st) .none g e h f d ct):=#[#[A,i,k],X4 l c k,.all<|p g e h f d ct]
structure CI(K:Am)(mg:Bi)(c:Ae)(C:Ac):Prop where
 cof:Bt K BM c=Z (Z (.ref C))
 cl:Ei K C
 m:mg c=Z (.ref C)
 mks:makesIn K C=J'
 kp:keepIn K (.ref C)=J'
theorem ci{K:Am}{mg:Bi}{h:Ak}{c:Ae}(X:K.In h)(G:h.Ns BM mg)(A:Bt K BM c=Z (Z (.ref C)))(pg:plainGet K C Str.empty=J')(hd:hasDictIn K C=J')(po:plainOver K C=J')(sa:findIn K (.ref C) "__setattr__"=Z (Z (.builtin "object.__setattr__")))(a:makesIn K C=J')(b:keepIn K (.ref C)=J'):CI K mg c C:=#[A,#[pg,hd,po,sa],mg_of X G A,a,b]
theorem CI.mkB{K:Am}{mg:Bi}{b:Ae}{st:Av}{d:U Ae}{fd:B3}{c':Ae}(c:CI K mg c' C)(q:MI K C "__init__" b st d a fd):Mk K C a:=#[c.mks,q.M.at_,q.M.fn,c.kp]
theorem tL{K:Am}{k:Nat}{fn:Ac}{fd:B3}{b:U Ae}{nm a:Ae}{st:Av}{P:AJ}{w:Ai}{mg:Bi}{base:Ak}{N:U Ae}{g f:AA}(D:MI K C nm a st b fn fd)(S:Z5 N b (Ze st)) (h:∀(c:Aa) (A:Ah) (outer:U Env) (s:Ab) (H:Hp) (E:XK) (M:Fb) (H0:Hp),AE k (A.deeper (A0 a (Ze st) s.heap.objs.size fn c))->JB (C2 Bd P w K mg base N a (Ze st) fn c A outer s H E).nox (ZH st) (tS K M H0 f)) (e:f=g:=by rfl) (d:b.length<=N.length:=by ext):AO P w K mg base Bd (k+1) fn fd b (A4 K (AS b.length N.length g)):=Yt D.F S d<|e ▸ h
section
variable{M:Fb}{l:Expr}{f:AD}{b:D->VE->O VE}{t:VE->O Bool}{e:AD}
set_option tactic.hygienic true in
theorem bF{n:Nat}{oix:U Nat}(hw:∀j∈ws,j<n){E:AR}{s:Ab}{Q:VK}(W:Inv X E I H s)(h:tF X.K M H0 (Zk n oix (λρ=>(f ρ).bind FV) b t e) I H Q):Pk n oix (bw X.K (tQ X.K M H0 f)) (Nj X.K ws b) (Nk X.K t) (Nl X.K e) I H (λv=>Cv X (Q v)):=by
 obtain⟨ρ,N,R,g,q⟩:=h;unfold Zk at g;dsimp only at g;cases P:f ρ with|none=>rw[P]at g;cases g|some d=>
 rw[P]at g;erw[B7]at g;cases i:FV d with|none=>rw[i]at g;cases g|some ds=>
 rw[i]at g;unfold FV at i;split at i
 ·next ys=>
  cases T:EE ys with|none=>rw[T]at i;cases i|some G=>
  rw[T]at i;cases i;refine#[ρ,_,R,P,λv r C dq=>?_];rw[GQ T]at dq;obtain⟨a,u,rfl,hN,hr,dl⟩:=dq;obtain⟨tr,dc,pd⟩:=Jw hr dl;refine#[a,tr,rfl,dc,λo hz=>?_];have S:=R.st C;have fin:∀m,Bl X.K M m ρ I (Dk a o (D4 tr) r)->(∀p u A,Aj (Dk a o (D4 tr) r) A->Dk a o (D4 tr) r p=J->A p=Z (CO X.K .l p N u)->Ad X.K (λb=>Nf M ρ I b\/b=p) A N u->Cv X (Q<|.ref p) A) ->
    Sv n oix (Nj X.K ws b) (Nk X.K t) (Nl X.K e) (P9 a o (D4 tr)<|tr.map λt=>t.2.1) I (Dk a o (D4 tr) r) (λv=>Cv X<|Q v):=λm R2 q2=>by
   obtain⟨ρ',ds',R',e',k⟩:=(Nm (K:=X.K) (M:=M) (H0:=m) (f:=λ_=>Z<|G.map λ(p:KT×D)=>kD p.1) (b:=b) (t:=t) (e:=e) (oix:=oix) (k:=n) hw (wi:=tI X.K M m λ_=>Z<|G.map λ(p:KT×D)=>kD p.1) (λ_ _ _ z=>z) (I:=I) (H:=Dk a o (D4 tr) r) (Q:=λv=>Cv X<|Q v) ⟨ρ,N,R2,g,q2⟩);cases e';exact k _ _ (Aj.refl _)<|sZ pd hz
  rcases dc.1 with F|⟨o',F⟩
  ·refine fin _ (S.fz rfl F<|td S hN) λp u A sm Y L B=>?_;have hf':=sm a _<|KZ F;refine .inr ⟨a,o,D4 tr,W.plain2 C F rfl,hf',q p u _ (λc w e=>?_) (C.none<|Du.mp Y) (bu L<|bv _ _ _ _ _) (Ad.rd (λb v L h=>Rd.ufz L h) _ _ B)⟩;have e1:=C c w e;by_cases y:c=a
   ·grind [Tr]
   ·rw[P8 λx=>y x.1];exact sm c w (by rw[Hu λx=>y x.1];exact e1)
  ·have e:Dk a o (D4 tr) r=r:=funext λb=>Hu (by rintro⟨rfl,y⟩;rw[F]at y;cases y);rw[e]at fin ⊢;exact fin _ S λp u A sm Y L B=>.inl<|q p u A (C.trans sm) (C.none Y) L B
 ·cases i
variable(own outs:U Ae)(oix:U Nat)(S:HW own outs scope X.env.scope)(hox:oix.map (λj=>X.N[j]?)=outs.map Z)(hc:X.calm=J')
include S hox hc
theorem tM(k:JE X l (tQ X.K M H0 f)) (d:CB X.K X own outs scope tg ifs elt ws b t e) (m:∀j∈ws,j<own.length) (n:∀x,E2 l X.env x=Ay x:=by intro _;rfl):JE X (.ListComp elt [#[tg,l,ifs,0]] scope pos) (tF X.K M H0 (Zk own.length oix (λρ=>(f ρ).bind FV) b t e)):=#[λc s p H Q B h=>by
 refine AV (X8 own outs oix S hox hc (bz k.h) d.g d.t d.e n c s p H (λv=>Cv X<|Q v) B (bF m B h)) λu A h=>?_;obtain⟨v,q,i,r,z⟩:=h;rcases z with z|⟨a,o,u,w,y,z⟩
 ·exact#[v,q,i,r,z]
 ·exact#[v,_,i.ufz y w,r,z]]
theorem tN{i:Nat}{x:Ae}{a c:AC}(o:X.N.Nodup)(k:X.N[i]?=Z x)(p:X.env.scope.names.lookup x=Z .local)(q:JE X l (tQ X.K M H0 f)) (m:CB X.K X own outs scope tg ifs elt ws b t e) (r:∀j∈ws,j<own.length) (n:DE (.ListComp elt [#[tg,l,ifs,0]] scope pos) (Z (.Name x a)) c.line X.env=Ay J':=by rfl) (u:∀x,E2 l X.env x=Ay x:=by intro _;rfl):JS X (.Assign [.Name x a] (.ListComp elt [#[tg,l,ifs,0]] scope pos) c) (tS X.K M H0 λρ=>Z6 i (Zk own.length oix (λρ=>(f ρ).bind FV) b t e ρ) ρ):=#[λd s v H D w h=>AV (Pl own outs oix S hox hc o k p (bz q.h) m.g m.t m.e n u d s v H (D.cv X) w<|bF r w<|SG h) λ_ _ h=>SP.cv h]
end
section
variable{P:AJ}{w:Ai}{T:Type}[DecidableEq T]{hk:HeapKind P w T}{A:Ah}{s:Ab}{us:U (T×Ac×Aa)}
theorem tR(hk:HeapKind P w T)(b:(a==Gv)=O'):MeetsIn P w (Ex.«dict.__len__» #[[.ref a],[]]) (λ_ R t=>∃us,t.heap.DictOfH hk a us/\R (.ok (.ret (.int us.length t.toks))) {t with toks:=t.toks+1}):=.of_wp λA R t c=>by
 obtain⟨us,⟨o,g,h,d,_,e,f,_⟩,q⟩:=c;rw[(size_of_entries f).symm]at q;change wpAny _ _ (dictSize a >>= _) _ _ t;unfold dictSize;refine Al<|Al<|wpAny_dictEntries d e<|AQ (?_:wpAny _ _ (Builtin.Dict.pendingCount a >>= _) _ _ t);exact Al<|wpAny_pendingCount_other b<|wpAny_ret_mkInt (by rw[Nat.add_zero];exact q)
theorem tT{Q:AI}(c:(a==Gv)=O')(d:s.heap.DictOfH hk a us)(z:(us.length:Int)<2^63)(q:Q (.int us.length (s.toks+1)) {s with toks:=s.toks+1+1}):wpAny (Ag P w) A (Ex.«len» #[[.ref a],[]]) (λf t=>∃r,f=.done (.ret r)/\Q r t) E s:=by
 unfold Ex.«len»;refine Al (m:=oneArg "len" _) (AQ<|Al (m:=callSpecial? (.ref a)<|I0 "__len__") (Ly (name:=I0 "__len__") d.typeIs F.slot_dict_len (call_meetsIn F.slot_dict_len d.typeIs F.entry_dict_len (F.args_dict_len_1 _) (tR hk c) #[us,d,?_])));change wpAny _ _ _ _ _ {s with toks:=s.toks+1};refine Al<|FH<|AQ<|Al<|wpAny_letGo ?_;change wpAny _ _ (if((us.length:Nat):Int)<0 then _ else _) _ _ _;change wpAny _ _ (if((us.length:Nat):Int)≥2^63 then _ else _) _ _ _;rw[if_neg (by exact Int.not_le.mpr z:¬ ((us.length:Nat):Int)≥2^63)];exact Al<|wpAny_mkInt<|AQ ⟨_,rfl,q⟩
end
section
variable{K:Am}
theorem tU:Eh X (.builtin "len") (λxs H Q=>∃a tr,xs=[.ref a]/\Cw X.K H a tr/\(∀t∈tr,∃l,t.1=KT.tup l)/\Q (.int tr.length) H):=by
 rintro c s i H xs d Q j r ⟨a,tr,rfl,hd,e,q⟩;obtain⟨u,rfl,f⟩:=E4 r;cases f;obtain⟨z,g,nd,d,b,h⟩:=L1 j hd e;refine bG kind_len plain_len entry_len (args_len1 _)<|tT g h (by rw[<- (Gu b)];rw[IT]at z;lia) ?_;rw[<- (Gu b)];exact⟨.int _,H,j.tok _,⟨_,rfl⟩,q⟩
def Mb:Ea
 |[.lst b .d]=>(EE b).bind λa=>if a.all (λp=>!Fd p.1)then Z (.int a.length)else J
 |_=>J
set_option tactic.hygienic true in
theorem tV:FN K (λxs H Q=>∃a tr,xs=[.ref a]/\Cw K H a tr/\(∀t∈tr,∃l,t.1=KT.tup l)/\Q (.int tr.length) H) Mb:=by
 intro N H m n d Q o h e q;unfold Mb at e;split at e
 ·next xs=>
  obtain⟨c,f,e⟩:=BI.mp e;obtain⟨g,e⟩:=ZV e;cases e;obtain⟨v,rfl,b⟩:=Paired.one' h;rw[GQ f]at b;obtain⟨p,s,rfl,r,hd⟩:=b;obtain⟨tr,i,j⟩:=Jw r hd;refine#[p,tr,rfl,i,j.hom (k:=.tup []) (by simpa[Dy,Fd]using g),?_];grind [Gu,Aj.refl,Fu]
 ·cases e
end
end L2
namespace L2
open PySem PySem.Spec PyProof.Rows
section
variable{prog:AJ}{w:Ai}{A:Ah}{s:Ab}
noncomputable abbrev Tu(i:Ac):Obj:={cls:=.type "enumerate",data:=.fields (T' [.none,.bool O',.ref i,AZ 0,.none,.none])}
set_option tactic.hygienic true in
theorem tW(S:AH)(a:RelV S.v u)(xs:U V):Meets (Ex.«enumerate.__new__» #[[.type "enumerate",u],[]]) (λ_ R s=>S.ok s.heap xs/\R (.ok (.ret (.ref (s.heap.push (S.obj u)).objs.size))) {s with heap:=(s.heap.push (S.obj u)).push (Tu s.heap.objs.size)}):=.of_wp λprog w A R s h=>by
  obtain⟨b,g,d,f,os⟩:=s;obtain⟨e,q⟩:=h;have i:=sub_enumerate;wp_walk using S.pyIter a e;refine wpAny_stack_any λst=>AQ ?_;split
  ·rename_i c _ _ _ _ _;cases(c==Value.type "enumerate")
   ·wp_walk using S.pyIter a e;exact#[_,rfl,q]
   ·wp_walk using S.pyIter a e;exact#[_,rfl,q]
  ·wp_walk using S.pyIter a e;exact#[_,rfl,q]
theorem tY{S:AH}(a:RelV S.v u){xs:U V}{Q:AI}(p:S.ok s.heap xs)
  (q:∀h',IsEnum h' (s.heap.objs.size+1) s.heap.objs.size 0 .none->S.it h' s.heap.objs.size 0->(∀b o,s.heap.get? b=Z o->h'.get? b=Z o)->Q (.ref (s.heap.objs.size+1)) {s with heap:=h' }):
  wpAny (Ag prog w) A (call (.type "enumerate") [u]) Q E s:=by
 have d:(s.heap.push (S.obj u)).objs.size=s.heap.objs.size+1:=by simp
 have c:IsEnum ((s.heap.push (S.obj u)).push (Tu s.heap.objs.size)) (s.heap.objs.size+1) s.heap.objs.size 0 .none:=by
  have:=B2 (s.heap.push (S.obj u)) (o:=Tu s.heap.objs.size) rfl
  grind
 refine callType_new PySem.F.called_enumerate (by ext) (PySem.F.typeCall_enumerate_1 _) (PySem.F.newCall_enumerate_1 _) (λobj=>PySem.F.args_object_init_2 obj _) PySem.F.entry_enumerate_new (tW S a xs) #[p,?_]
 rw[d]
 exact#[#[_,c,rfl],(q _ c (S.itAt (S.new (h:=s.heap) a) λo e=>Bn _ e) λb o e=>Bn _ (Bn _ e))]
section
variable{e it:Ac}{fa:U Ac}{n k:Nat}{sa:Nat->Ak->Prop}{old:Aa}
theorem tZ{Q:O Aa->Ab->Prop}(SA:Hv prog w it fa n isA sa)(a:IsEnum s.heap e it k old)(ha:sa k s.heap)(kn:k<n)(u:e≠it)(hfe:e∉fa) (q:∀x h' t' v,isA k x->IsEnumOut h' e it ((k:Int)+1) x s.heap.objs.size->sa (k+1) h'->h'.get? s.heap.objs.size=Z {cls:=.type "tuple",data:=.seq (T' [.int k t',x])}->(∀b o,b≠e->b≠it->s.heap.get? b=Z o->h'.get? b=Z o)->Q (Z (.ref s.heap.objs.size)) {s with heap:=h',toks:=v}):wpAny (Ag prog w) A (pyNext (.ref e)) Q E s:=by
 obtain⟨i,g,d,tk,os⟩:=s;refine Al<|wpAny_attempt<|Ly (name:=I0 "__next__") #[_,a,rfl] Tv (Ks Tv #[_,a,rfl] PySem.F.entry_enumerate_next ?_<|PySem.F.args_enumerate_next_1 _);have fr:∀{h h':Ak},sa (k+1) h->(∀b o,b≠e->h.get? b=Z o->h'.get? b=Z o)->sa (k+1) h':=λst kp=>SA.frame _ _ _ st λb c o x=>kp b o (by
  grind) x
 show wpAny _ _ (field (.ref e) 2 >>= _) _ _ _
 refine Al<|D9 a rfl (x:=.ref it) rfl ?_;refine Al<|SA.item _ _ _ k _ kn ha λx y j hx a1 l=>?_;replace l:DZ it i y:=l;have B:IsEnum y e it k old:=(l.2 e u).trans a;refine Al<|D9 B rfl (x:=AZ k) rfl ?_;refine Al<|D9 B rfl (x:=.none) rfl ?_;refine Al<|wpAny_mkInt ?_;refine Al<|Hw B (by simp) λC G m=>?_;replace m:DZ e y C:=m;replace G:IsEnum C e it ((k:Int)+1) old:=G;refine Al<|Hw G (by simp) λf H p=>?_;replace p:DZ e C f:=p;replace H:IsEnum f e it ((k:Int)+1) old:=H;refine Al<|wpAny_newTuple ?_;have sz:f.objs.size=i.objs.size:=by rw[p.1,m.1,l.1]
 have r:IsEnum (f.push {cls:=.type "tuple",data:=.seq (T' [.int k j,x])}) e it ((k:Int)+1) old:=Bn _ H;have t4:(f.push {cls:=.type "tuple",data:=.seq (T' [.int k j,x])}).get? i.objs.size=Z {cls:=.type "tuple",data:=.seq (T' [.int k j,x])}:=sz ▸ B2 _ rfl;have k4:∀b o,b≠e->b≠it->i.get? b=Z o->(f.push {cls:=.type "tuple",data:=.seq (T' [.int k j,x])}).get? b=Z o:=λb o a S c=>
  Bn _<|p.extBut b o a<|m.extBut b o a<|l.extBut b o S c
 have a4:sa (k+1) (f.push {cls:=.type "tuple",data:=.seq (T' [.int k j,x])}):=fr a1 λb o c z=>Bn _<|p.extBut b o c<|m.extBut b o c z;generalize (f.push {cls:=.type "tuple",data:=.seq (T' [.int k j,x])})=h4 at r t4 k4 a4 ⊢;rw[sz];refine Al ?_;refine Al<|D9 r rfl (x:=.none) rfl (AQ ?_);refine Al<|Ja ?_;refine Al<|D9 r rfl (x:=old) rfl ?_;refine Al<|Hw r (by simp) λK L M=>?_;replace M:DZ e h4 K:=M;replace L:IsEnum K e it ((k:Int)+1) x:=L;refine Al ?_;refine Al<|Hw L (by simp) λN P T=>?_;replace T:DZ e K N:=T;replace P:IsEnumOut N e it ((k:Int)+1) x i.objs.size:=P;refine Hw P (by simp) λt R Y=>?_;replace Y:DZ e N t:=Y;replace R:IsEnumOut t e it ((k:Int)+1) x i.objs.size:=R;have up:∀b o,b≠e->h4.get? b=Z o->t.get? b=Z o:=λb o c z=>Y.extBut b o c<|T.extBut b o c<|M.extBut b o c z;refine Al<|wpAny_letGo<|AQ ⟨_,rfl,AQ<|q x t _ _ hx R (fr a4 up) (up _ _ (Gz<|Bp a) t4) λb o a S z=>up b o a<|k4 b o a S z⟩
theorem t0{Q:O Aa->Ab->Prop}(d:A.handled=J)(f:Hv prog w it fa n isA sa)(a:IsEnum s.heap e it k old)(g:sa k s.heap)(h:n<=k) (q:∀h',Heap.ExtBut it s.heap h'->Q J {s with heap:=h' }):wpAny (Ag prog w) A (pyNext (.ref e)) Q E s:=by
 refine Al<|wpAny_attempt<|Ly (name:=I0 "__next__") #[_,a,rfl] Tv (Ks Tv #[_,a,rfl] PySem.F.entry_enumerate_next ?_<|PySem.F.args_enumerate_next_1 _);show wpAny _ _ (field (.ref e) 2 >>= _) _ _ _
 refine Al<|D9 a rfl (x:=.ref it) rfl ?_;refine Al<|f.fin _ _ _ k _ (by exact d) h g λh' x i j=>?_;obtain⟨o,l,m⟩:=j;exact Al<|wpAny_isInstance (T:="StopIteration") (b:=J') #[o,l,m] isSubtype_stop (AQ<|q _ i)
theorem t3{a:U Expr} {b} {i:Int} {v:Aa} {T:Ac} (hz:IsEnumOut s.heap e it i v T) (q:∀h',IsEnum h' e it i v->DZ e s.heap h'->Q () {s with heap:=h' }):wpAny (Ag prog w) A (letOwnedTupleGo (.Tuple a b pos) (.ref e) (.ref T)) Q E s:=by
 refine Al<|wpAny_load hz ?_;show wpAny _ _ (if(["enumerate","zip","dict_itemiterator","dict_reverseitemiterator","odict_iterator","itertools.zip_longest","itertools.pairwise"].contains "enumerate"&&((T' [AZ T,.bool O',.ref it,AZ i,.none,v]):Array Aa)[0]?==Z (AZ T))=J' then _ else _) Q E s
 rw[if_pos (by simp)];exact Al<|Ja<|Hw hz (by simp) λh' z c=>q h' z c
end
end
noncomputable def bH(K:Am)(S:AH):It:=
 #[λi H=>∃a x,S.sq K H a/\a[i]?=Z x,
  λi H v b=>∃p x,v=.ref p/\H p=J/\b=AK H p (.tup [.int i,x])/\(∀a,S.sq K H a->a[i]?=Z x),
  λi H=>∃a,S.sq K H a/\a.length<=i]
theorem t6{P:AJ}{w:Ai}{K:Am}{g:U Expr} {Q} (S:AH) (n:Nat) (T:∀b∈S.fp,b<n):Hd P w K (.Tuple g Q pos) (bH K S) [n+1,n] (n+1) (λi h=>(∃f,IsEnum h (n+1) n i f)/\S.it h n i) where
 mem:=by simp
 obj:=λi h W q a=>by
  obtain⟨⟨x,z⟩,c⟩:=W;erw[Bz,Hn,or_false]at a;rcases a with rfl|rfl
  ·exact#[_,z,λv e=>nomatch (show Data.fields _=Data.cell v from e)]
  ·exact S.itOb c
 keep:=λi h m ⟨⟨x,z⟩,c⟩ k=>#[#[x,k _ (by simp) _ z],S.itAt c λo e=>k _ (by simp) o e];item:=by
  intro X t u y F i d s L H E zA p #[#[f,z],c] #[Y,x,r,ex];subst t u y;obtain⟨sa,A,B,M⟩:=S.sub (P:=X.prog) (w:=X.w) (i:=n) (S.of zA r);have hlt:n+1<s.heap.objs.size:=Bp z;refine tZ A z (B _ c) ((BC.mp ex).1) (by(show @Ne Nat _ _;lia)) (λz=>absurd (show @LT.lt Nat _ _ _ from T _ z) (by show ¬ @LT.lt Nat _ _ _;lia)) λN m t1 R C z' c' new kp=>?_;obtain⟨x2,j,G⟩:=C;rw[ex]at j;cases j;refine#[_,rfl,t3 (s:={s with heap:=m,toks:=R}) z' λl z2 sb=>?_];have up:∀q o,q≠n+1->m.get? q=Z o->l.get? q=Z o:=λq o a e=>sb.extBut _ _ a e;have I1:Inv X d L (AK H s.heap.objs.size<|.tup [.int i,x]) {s with heap:=l}:=by
   exact zA.yielded p (λq o a e=>up q o (λz=>a (by simp[z])) (kp q o (λz=>a (by simp[z])) (λz=>a (by simp[z])) e)) (Bc _) #[show 2<=Ax by ext,[.int i t1,N],.cons #[_,rfl]<|.cons G .nil,⟨_,up _ _ (by(show @Ne Nat _ _;lia)) new,rfl,_,rfl⟩]
  refine#[.ref s.heap.objs.size,_,I1.tok R,rfl,#[_,x,rfl,zA.hok.fresh<|Bc _,rfl,λzs hz=>S.inj zA hz r ▸ ex],#[#[N,?_],S.itAt (M _ _ c') λo e=>up _ o (by(show @Ne Nat _ _;lia)) e],λq a=>?_]
  ·have:((i+1:Nat):Int)=(i:Int)+1:=by lia
   exact z2
  rw[Zn]
  ·exact(p q a).1
  ·erw[Bz,Hn,or_false]at a;rcases a with rfl|rfl<;>(show @Ne Nat _ _;lia)
 done:=by
  intro X t u y F i d s L H E zA p #[#[f,z],c] #[Y,r,hl];subst t u y;obtain⟨sa,A,B,M⟩:=S.sub (P:=X.prog) (w:=X.w) (i:=n) (S.of zA r);refine t0 (zA.ok.hd F) A z (B _ c) hl λm kp=>#[rfl,zA.turnedL p λq o a e=>kp q o (λz=>a (by simp[z])) e]
 self:=λ_ _ _ _ _ ⟨⟨_,z⟩,_⟩ q=>wpAny_pyIter_enum z q
@[simp] def NX(f:AD):VE->A2:=λa=>match(f a).bind GV with
  |some b=>Z (ER 0 b)
  |none=>J
theorem t7{K:Am}{M N:Fb}{S:AH}{us:U V}(e:Ad K N H xs us)(j:∀f b,Step M N f H b->S.sq K b us):LN K M N H (bH K S) (ER 0 xs):=λf b St i=>by
 have c:=j _ _ St;refine#[λd a=>?_,λa=>#[us,c,?_]]
 ·rw[Y8]at a;obtain⟨x,ex,a⟩:=BN.mp a;cases a;obtain⟨u,g,k⟩:=(Ad.step St _ _ e).get ex;refine#[#[us,u,c,g],λz q l=>?_];obtain⟨p,r,m,h,n,o⟩:=l;have:=o us c;rw[g]at this;cases this;subst m n;exact#[Yd h,LR h<|Ad.cons (by simp[Ar])<|Ad.cons k Ad.nil]
 ·have l1:=e.length;rw[S5]at a;lia
section
variable{M:Fb}{f:AD}{a:Expr}{p tpos:AC}
set_option tactic.hygienic true in
theorem t8 {G} (F:Gl X "enumerate") (L:X.mg "enumerate"=J) (k:JE X a (tQ X.K M H0 f)) (w:Az [a] X.env=[(O',An a X.env)]:=by rfl) (l:Az [] X.env=[]:=by rfl):JI X (.Tuple elts G tpos) (.Call (.Name "enumerate" p) [a] [] pos) (tI X.K M H0 (NX f)):=#[have k:=k.h;by
 intro d s m H Q zA #[n,ds,R,e,q];unfold NX at e;split at e
 ·next N ex=>
  cases e;obtain⟨P,T,ex⟩:=BI.mp ex;refine Call_<|Hc zA F L qO<|MW (AV ((Eu k Bk (by rw[w,l])) pos d s m H (λx o=>∃S g,x=[AH.v S]/\Aj H o/\Ad X.K (Nf M n m) o N g/\(∀W y,Step M (Nf M n m) W o y->S.sq X.K y g)) zA ?_) λg t ⟨x,A,i,Y,u⟩=>?_) w rfl
  ·refine#[n,P,R,T,λv1 A z1 u=>?_];obtain⟨S,g,e1,c,j⟩:=Tt u ex;exact#[S,g,by rw[e1],z1,c,j]
  ·obtain⟨S,us',rfl,z,c,j⟩:=u;cases Y with
   |cons r rr=>
    cases rr;have B:=S.of i<|j _ _ Step.refl;refine tY r B λh' C a4 kp=>wpAny_pyIter_enum C ?_;refine#[_,_,_,_,A,rfl,i.kept (t':=t.toks) kp,t6 S t.heap.objs.size<|S.lt B,⟨⟨_,C⟩,a4⟩,λb hb=>?_,q _ _ z<|t7 c j];have E:t.heap.objs.size<=b:=by
     grind
    exact i.fpOk E<|i.hok.fresh E
 ·cases e]
end
open PySem.W
inductive IV where
 |no|val (d:D)|cel (n:Nat)|exc (c:Ae)
variable{x11 x12 x3 x4 x5 x6 x7 x8 x9:IV}
inductive Cl where
 |dead|dat (k:Kd) (xs:List D)|mix (k:Kd) (xs:List IV)
abbrev Gh:=U Cl
variable{FX:U IV->Gh->O Ae}{G':Gh}
abbrev IS:=U IV×Gh
variable{gp:IS->O Nat}{gx:IS->O (IV×Gh)}{gb:IS->O (Bool×Gh)}{gi:IS->O D}{gf:IS->O (U D)}
@[simp] noncomputable def un:IV->D
  |.val d=>d
  |_=>.non
@[simp] noncomputable def Cl.kd:Cl->O Kd
  |.dead=>J
  |.dat k _=>Z k
  |.mix k _=>Z k
def LV(φ:Nat->Ac)(G:Gh):Fb:=λa=>∃n c k,G[n]?=Z c/\c.kd=Z k/\φ n=a
def AG(K:Am)(φ:Nat->Ac)(L:Nat)(N:Fb)(H:Hp):IV->V->Prop
 |.no,_=>False
 |.val d,v=>Ar K N H d v
 |.cel n,v=>n<L/\v=.ref (φ n)
 |.exc c,v=>∃a C,v=.ref a/\Bt K BM c=Z (Z (.ref C))/\H a=Z (.ext (E8 a C))
def Tw(K:Am)(φ:Nat->Ac)(L:Nat)(N:Fb)(H:Hp)(a:Ac):Cl->Prop
 |.dead=>True
 |.dat k b=>∃c,H a=Z (CO K k a b c)/\Ad K N H b c
 |.mix k b=>∃c,H a=Z (CO K k a (b.map un) c)/\Paired (AG K φ L N H) b c
structure A7(K:Am)(φ:Nat->Ac)(G:Gh)(H:Hp):Prop where
 cell:∀n c,G[n]?=Z c->Tw K φ G.length (LV φ G) H (φ n) c
 inj:∀n m c c' k k',G[n]?=Z c->G[m]?=Z c'->c.kd=Z k->c'.kd=Z k'->φ n=φ m->n=m
structure Bb(K:Am)(φ:Nat->Ac)(s:IS)(I:St)(H:Hp):Prop where
 len:s.1.length=I.length
 g:A7 K φ s.2 H
 slot:∀(i:Nat) (x:IV),s.1[i]?=Z x->x=.no\/∃v,I[i]?.join=Z v/\AG K φ s.2.length (LV φ s.2) H x v
structure Go(φ:Nat->Ac)(G:Gh)(H:Hp)(φ':Nat->Ac)(G':Gh)(H':Hp):Prop where
 ext:∀n,n<G.length->φ' n=φ n
 len:G.length<=G'.length
 st:Step (λ_=>False) (LV φ G) (LV φ' G') H H'
section
variable{K:Am}{φ1 φ2:Nat->Ac}{G G1 G2:Gh}{H1 H2:Hp}{s:IS}
theorem Go.same(sm:Aj H H'):Go φ G H φ G H':=#[λ_ _=>rfl,Bc _,Step.of_same sm]
theorem Go.trans(a:Go φ G H φ1 G1 H1)(b:Go φ1 G1 H1 φ2 G2 H2):Go φ G H φ2 G2 H2:=#[λn h=>(b.ext n<|BX h a.len).trans<|a.ext n h,BR a.len b.len,a.st.trans b.st]
theorem AG.go(g:Go φ G H φ1 G1 H1){x:IV}{v:V}(h:AG K φ G.length (LV φ G) H x v):AG K φ1 G1.length (LV φ1 G1) H1 x v:=by
 cases x with
 |no=>exact h
 |val d=>exact Ar.step g.st d v h
 |cel n=>exact#[BX h.1 g.len,g.ext n h.1 ▸ h.2]
 |exc c=>obtain⟨a,C,e,b,f⟩:=h;exact#[a,C,e,b,g.st.kp _ _ f<|.inr<|.inr rfl]
theorem A7.same(R:A7 K φ G H)(sm:Aj H H'):A7 K φ G H':=#[λn c e=>by
 have h:=R.cell n c e;cases c with
 |dead=>trivial
 |dat k f=>obtain⟨a,b,d⟩:=h;exact#[a,sm _ _ b,d.same sm]
 |mix k f=>obtain⟨a,b,d⟩:=h;exact#[a,sm _ _ b,Paired.mapP d λ_ _ q=>AG.go (Go.same sm) q],R.inj]
theorem Bb.go(R:Bb K φ s I H)(a:A7 K φ1 G1 H1)(g:Go φ s.2 H φ1 G1 H1):Bb K φ1 (s.1,G1) I H1:=#[R.len,a,λi x e=>(R.slot i x e).imp id λ⟨v,b,c⟩=>#[v,b,c.go g]]
theorem Bb.same(R:Bb K φ s I H)(sm:Aj H H'):Bb K φ s I H':=R.go (R.g.same sm)<|Go.same sm
theorem A7.has(R:A7 K φ G H){n:Nat}{c:Cl}{k:Kd}(e:G[n]?=Z c)(a:c.kd=Z k):∃xs vs,H (φ n)=Z (CO K k (φ n) xs vs):=by
 have h:=R.cell n c e;cases c with
 |dead=>cases a
 |dat k xs=>cases a;obtain⟨vs,b,_⟩:=h;exact#[_,vs,b]
 |mix k xs=>cases a;obtain⟨vs,b,_⟩:=h;exact#[_,vs,b]
theorem A7.nh(R:A7 K φ G H)(h:LV φ G a):H a≠J:=by
 obtain⟨n,c,k,e,b,rfl⟩:=h;obtain⟨d,f,q⟩:=R.has e b;simp_all
end
@[simp] noncomputable def vk:Nat->Kd->Bool
  |0,_=>O'
  |1,.l=>O'
  |_,_=>J'
@[simp] def NY:U (O D)->A2
  |[]=>Z []
  |o::r=>Zd o (NY r)
@[simp] noncomputable def tr(m:Nat)(G:Gh):Nat->IV->O D
  |_,.val d=>Z d
  |f+1,.cel n=>match G[n]? with
   |some (.dat k a)=>if vk m k=J' then Z (.lst a k)else J
   |some (.mix k a)=>if vk m k=J' then(NY (a.map (tr m G f))).map λl=>.lst l k else J
   |_=>J
  |_,_=>J
@[simp] def DJ(m:Nat)(G:Gh):IV->Sl
  |.val d=>.val d
  |.no=>.no
  |.exc c=>.exc c
  |.cel n=>match tr m G 3 (.cel n)with
   |some d=>.val d
   |none=>match G[n]? with
    |some (.dat k a)=>if vk m k=J' then .no else .lent a k
    |_=>.no
@[simp] def vw(m:Nat)(s:IS):VE:=s.1.map (DJ m s.2)
def NW(m:Nat)(φ:Nat->Ac)(G:Gh):Fb:=λa=>∃n c k,G[n]?=Z c/\c.kd=Z k/\vk m k=O'/\φ n=a
mutual
/-- no container within of a kind that m reads as data -/
noncomputable def AX(m:Nat):D->Bool
 |.lst a k=>!vk m k&&CM m a
 |.tup a=>CM m a
 |.non=>J'
 |.bl _=>J'
 |.int _=>J'
 |.str _=>J'
 |.ty _=>J'
noncomputable def CM(m:Nat):U D->Bool
 |[]=>J'
 |x::a=>AX m x&&CM m a
end
section
variable{K:Am}{G:Gh}{s:IS}{m:Nat}{B:Fb}
theorem NW.lv(h:NW m φ G a):LV φ G a:=let⟨n,c,k,b,d,_,e⟩:=h;#[n,c,k,b,d,e]
theorem t9:∀{f:Nat}{x:IV}{d:D},tr m G f x=Z d->Na (un x)=Na d
 |f,.val d,_,h=>by erw[tr]at h;cases h;rfl
 |0,.cel n,_,h=>by erw[tr]at h;cases h
 |f+1,.cel n,d,h=>by
  unfold tr at h;split at h
  ·split at h<;>cases h;rfl
  ·obtain⟨_,h⟩:=ZV h;obtain⟨l,_,rfl⟩:=BN.mp h;rfl
  ·cases h
 |f,.no,_,h=>by erw[tr]at h;cases h
 |f,.exc _,_,h=>by erw[tr]at h;cases h
theorem bI{f:Nat}:∀{xs:U IV}{b:U D},NY (xs.map (tr m G f))=Z b->Jk (xs.map un)=Jk b
 |[],_,h=>by cases h;rfl
 |[x],_,h=>by
  obtain⟨d,r,c,a,rfl⟩:=Hi h;cases a;rfl
 |x::y::r,_,h=>by
  obtain⟨d,l,c,a,rfl⟩:=Hi h;obtain⟨g,i,j,e,rfl⟩:=Hi a;erw[Be,Jk,t9 c,bI e]
theorem ub{f:Nat}{xs:U IV}{b:U D}{k:Kd}(h:NY (xs.map (tr m G f))=Z b):CO K k a (xs.map un) vs=CO K k a b vs:=by
 cases k<;>erw[CO,bI h]
theorem A7.nnv(R:A7 K φ G H){n:Nat}{c:Cl}{k:Kd}(e:G[n]?=Z c)(a:c.kd=Z k)(i:vk m k=J'):¬ NW m φ G (φ n):=λ⟨j,b,d,f,g,l,h⟩=>by
 have:=R.inj j n b c d k f e g a h;simp_all
set_option tactic.hygienic true in
theorem bJ(R:A7 K φ G H):∀{f:Nat}{x:IV}{d:D}{v:V},tr m G f x=Z d->AG K φ G.length (LV φ G) H x v->Ar K (NW m φ G) H d v
 |f,.val d,_,v,h,q=>by erw[tr]at h;cases h;exact Ar.nw q λa i=>.inl i.lv
 |0,.cel n,_,_,h,_=>by erw[tr]at h;cases h
 |f,.no,_,_,h,_=>by erw[tr]at h;cases h
 |f,.exc _,_,_,h,_=>by erw[tr]at h;cases h
 |f+1,.cel n,d,v,h,q=>by
  obtain⟨_,rfl⟩:=q;unfold tr at h;split at h
  ·next k c e=>
   obtain⟨j,h⟩:=ZV h;cases h;obtain⟨b,g,o⟩:=R.cell n _ e;exact#[_,b,rfl,.of (R.nnv e rfl j) g,o.nw λa i=>.inl i.lv]
  ·next k c e=>
   obtain⟨j,h⟩:=ZV h;obtain⟨l,p,rfl⟩:=BN.mp h;obtain⟨b,g,o⟩:=R.cell n _ e;rw[ub p]at g;refine#[_,b,rfl,.of (R.nnv e rfl j) g,?_];have all:∀{c:U IV} {b:U V} {l:U D},Paired (AG K φ G.length (LV φ G) H) c b->NY (c.map<|tr m G f)=Z l->Ad K (NW m φ G) H l b:=by
    intro c b l h;induction h generalizing l with|nil=>intro e;cases e;exact Ad.nil|cons q t s=>
     intro e;obtain⟨d,r,u,w,rfl⟩:=Hi e;exact Ad.cons (bJ R u q)<|s w
   exact all o p
  ·cases h
theorem uc{k:Kd}{b:Ac}{ys:U D}{ws:U V}(h:CO K k a xs vs=CO K k' b ys ws):vk m k=vk m k':=by
 cases k<;>cases k'<;>first|rfl|cases h|(cases m with|zero=>rfl|succ j=>cases j<;>rfl)
mutual
theorem Ar.up(R:A7 K φ G H)(sm:Aj H H'):∀(d:D)(v:V),AX m d=J'->Ar K (λa=>NW m φ G a\/B a) H' d v->Ar K (λa=>LV φ G a\/B a) H' d v
 |.non,_,_,h=>by simpa only[Ar]using h
 |.bl _,_,_,h=>by simpa only[Ar]using h
 |.int _,_,_,h=>by simpa only[Ar]using h
 |.str _,_,_,h=>by simpa only[Ar]using h
 |.ty _,_,_,h=>by simpa only[Ar]using h
 |.tup g,v,b,h=>by
  erw[AX]at b
  erw[Ar]at h ⊢
  obtain⟨a,f,e,q,r⟩:=h
  exact#[a,f,e,q,Ad.up R sm g f b r]
 |.lst g k,v,b,h=>by
  erw[AX,C4,NO]at b
  erw[Ar]at h ⊢
  obtain⟨a,f,e,q,r⟩:=h
  refine#[a,f,e,?_,Ad.up R sm g f b.2 r]
  rcases q with⟨n,q⟩|q
  ·refine .inl #[λz=>z.elim (λ⟨j,c,l,p,s,t⟩=>n (.inl #[j,c,l,p,s,?_,t])) λz=>n (.inr z),q]
   obtain⟨u,w,z⟩:=R.has p s
   have i:=sm _ _ z
   rw[t]at i
   rcases q with q|⟨o,q⟩
   ·rw[i]at q;rw[uc (FE q)];exact b.1
   ·rw[i]at q;cases l<;>cases q
  ·exact .inr q
theorem Ad.up(R:A7 K φ G H)(sm:Aj H H'):∀(xs:U D)(vs:U V),CM m xs=J'->Ad K (λa=>NW m φ G a\/B a) H' xs vs->Ad K (λa=>LV φ G a\/B a) H' xs vs
 |[],_,_,h=>by simpa only[Ad]using h
 |x::xs,vs,b,h=>by
  erw[CM,C4]at b
  erw[Ad]at h ⊢
  obtain⟨v,r,e,q,t⟩:=h
  exact#[v,r,e,Ar.up R sm x v b.1 q,Ad.up R sm xs r b.2 t]
end
theorem bK{i:Nat}{b:Kd}{a:O Ac}:(vw m s)[i]?≠Z (Sl.own xs b a):=λh=>by
 erw[vw,CW]at h;cases e:s.1[i]? with|none=>rw[e]at h;cases h|some x=>
  rw[e]at h;unfold DJ at h;grind
theorem Tz(h:Nf (NW m φ s.2) (vw m s) I a):NW m φ s.2 a:=h.elim id λ⟨_,_,_,_,h,_⟩=>(bK h).elim
set_option tactic.hygienic true in
theorem Bb.vw(R:Bb K φ s I H):Bl K (NW m φ s.2) H (vw m s) I H:=by
 refine#[by erw[L2.vw,A9];exact R.len,Aj.refl H,λa h=>R.g.nh h.lv,λi A e=>?_,λi j p B b E _ _ a h=>(bK h).elim]
 erw[L2.vw,CW]at e
 obtain⟨x,w,e⟩:=BN.mp e
 subst e
 rcases R.slot i x w with rfl|⟨v,l,q⟩
 ·trivial
 ·cases x with
  |no=>exact q.elim
  |val d=>exact#[v,l,Ar.nw q λa f=>.inl (Tz f).lv]
  |exc c=>obtain⟨a,C,rfl,o,r⟩:=q;exact#[a,C,l,o,r]
  |cel n=>
   cases t:tr m s.2 3 (.cel n)with
   |some d=>
    have z:DJ m s.2 (.cel n)=.val d:=by unfold DJ;dsimp only;rw[t]
    rw[z];exact#[v,l,(bJ R.g t q).nw λa f=>.inl (Tz f)]
   |none=>
    obtain⟨_,rfl⟩:=q
    have z:DJ m s.2 (.cel n)=(match s.2[n]? with
     |some (.dat k p)=>if vk m k=J' then .no else .lent p k
     |_=>.no):=by unfold DJ;dsimp only;rw[t]
    rw[z]
    split
    ·next k p e=>
     split
     ·trivial
     ·next u=>
      have u:vk m k=O':=by simpa using u
      obtain⟨y,o,r⟩:=R.g.cell n _ e
      exact#[_,y,l,#[#[n,_,k,e,rfl,u,rfl],by rw[o];exact λz=>nomatch z],.inl o,r.nw λa f=>.inl (Tz f).lv]
    ·trivial
end
@[simp] def jO(m:Nat)(o:O D):O D:=o.bind λd=>if AX m d=J' then Z d else J
@[simp] def jL(m:Nat)(o:A2):A2:=o.bind λd=>if CM m d=J' then Z d else J
def jE(m:Nat)(f:AD)(s:IS):O D:=jO m (f (vw m s))
def jG(m:Nat)(f:VE->A2)(s:IS):A2:=jL m (f (vw m s))
def jT(m:Nat)(t:VE->O Bool)(s:IS):O Bool:=t (vw m s)
def tJ(K:Am)(g:IS->O D):TE:=λc H Q=>∃b s d,Bb K b s c H/\g s=Z d/\∀v a,Aj H a->Ar K (LV b s.2) a d v->Q v a
def NZ(fl:Kd)(K:Am)(g:IS->A2):TE:=λh H Q=>∃e s d,Bb K e s h H/\g s=Z d /\
 ∀a f c,Aj H c->H a=J->c a=Z (CO K fl a d f)->Ad K (λb=>LV e s.2 b\/b=a) c d f->Q (.ref a) c
def N0(K:Am)(g:IS->O Bool):TT:=λc H Q=>∃d s b,Bb K d s c H/\g s=Z b/\∀a,Aj H a->Q b a
def DT(K:Am)(g:IS->O Nat):TE:=λb H Q=>∃a s n,Bb K a s b H/\g s=Z n/\(n<s.2.length->Q (.ref (a n)) H)
def Ci(K:Am)(g:IS->O (IV×Gh)):TE:=λc H Q=>∃d s r,Bb K d s c H/\g s=Z r /\
 ∀a v b,Bb K a (s.1,r.2) c b->AG K a r.2.length (LV a r.2) b r.1 v->Go d s.2 H a r.2 b->Q v b
def EV(K:Am)(g:IS->O (U IV)):TA:=λe H Q=>∃a s c,Bb K a s e H/\g s=Z c /\
 ∀d b,Aj H b->Paired (AG K a s.2.length (LV a s.2) b) c d->Q d b
def Qc(K:Am)(g:IS->O IV):TE:=λc H Q=>∃a s x,Bb K a s c H/\g s=Z x /\
 ∀v b,Aj H b->AG K a s.2.length (LV a s.2) b x v->Q v b
section
variable{e:Expr}{f:AD}{ff:VE->A2}{t:VE->O Bool}{g:IS->O D}
theorem ud(m:Nat)(h:∀M H0,JE X e (tD X.K M H0 f)):JE X e (tJ X.K (jE m f)):=#[λb st i H Q t j=>by
 obtain⟨p,s,d,R,e,q⟩:=j;obtain⟨r,k,e⟩:=BI.mp e;split at e
 ·next l=>cases e;exact(h _ _).h b st i H Q t #[_,_,R.vw,k,λv n sm o=>q v n sm<|(Ar.up (B:=λ_=>False) R.g sm _ _ l (o.nw λa c=>.inl<|.inl<|c.resolve_right id)).nw λa c=>.inl<|.inl c]
 ·cases e]
theorem bL(m:Nat)(h:∀M H0,JE X e (EO fl X.K M H0 ff)):JE X e (NZ fl X.K (jG m ff)):=#[λc st d H Q w f=>by
 obtain⟨t,s,u,R,e,q⟩:=f;obtain⟨v,i,e⟩:=BI.mp e;split at e
 ·next j=>
  cases e;exact(h _ _).h c st d H Q w #[_,_,R.vw,i,λa k l sm n o p=>q a k l sm n o<|Ad.up R.g sm _ _ j<|p.nw λb r=>.inl<|r.imp .inl id]
 ·cases e]
theorem Qd(m:Nat)(h:∀M H0,JT X e (BH X.K M H0 t)):JT X e (N0 X.K (jT m t)):=#[λa st c H Q g d=>by
 obtain⟨f,s,b,R,e,q⟩:=d;exact(h _ _).h a st c H Q g #[_,b,R.vw,e,q]]
end
section
variable{K:Am}{G:Gh}{s:IS}
theorem Bb.put(R:Bb K φ s I H){x:IV}{v:V}(i:Nat)(h:AG K φ s.2.length (LV φ s.2) H x v):Bb K φ (s.1.set i x,s.2) (I.set i (Z v)) H:=by
 refine#[by simp[R.len],R.g,λj y e=>?_];by_cases a:i=j
 ·subst a;have b:i<s.1.length:=by have:=(BC.mp e).1;simpa using this
  rw[Gx b]at e;cases e;exact .inr #[v,by rw[Gx<|R.len ▸ b];rfl,h]
 ·rw[Et a]at e;rw[Et a];exact R.slot j y e
@[simp] noncomputable def D5(φ:Nat->Ac)(n:Nat)(a:Ac):Nat->Ac:=λj=>if j=n then a else φ j
theorem bM{c:Cl}{k:Kd}(l:c.kd=Z k){b:Ac}:LV (D5 φ G.length a) (G++[c]) b↔LV φ G b\/b=a:=by
 constructor
 ·rintro⟨n,g,h,e,d,f⟩;rw[KD]at e;split at e
  ·next i=>
   have:n≠G.length:=BY i;erw[D5,if_neg this]at f;exact .inl #[n,g,h,e,d,f]
  ·next i=>
   cases m:n-G.length with
   |zero=>
    have:n=G.length:=by lia
    erw[D5,if_pos this]at f;exact .inr f.symm
   |succ j=>rw[m]at e;cases e
 ·rintro(⟨n,g,h,e,d,f⟩|rfl)
  ·exact#[n,g,h,EL ((BC.mp e).1) ▸ e,d,by erw[D5,if_neg<|BY<|(BC.mp e).1];exact f]
  ·exact#[G.length,c,k,by rw[Hg<|Bc _,Nat.sub_self];rfl,l,by erw[D5,if_true]]
theorem Go.new(sm:Aj H H'){c:Cl}{k:Kd}(f:H a=J)(g:c.kd=Z k):Go φ G H (D5 φ G.length a) (G++[c]) H':=by
 refine#[λn d=>by erw[D5,if_neg<|BY d],by simp,λb o e _=>sm b o e,λb h=>?_];grind [bM]
theorem A7.new(R:A7 K φ G H)(sm:Aj H H'){c:Cl}{k:Kd}(l:H a=J)(v:c.kd=Z k)(L:Tw K (D5 φ G.length a) (G++[c]).length (LV (D5 φ G.length a) (G++[c])) H' a c):A7 K (D5 φ G.length a) (G++[c]) H':=by
 refine#[λn d e=>?_,λn m w x y A B C f g h=>?_]
 ·rw[KD]at e;split at e
  ·next b=>
   have q:=R.cell n d e;have z:D5 φ G.length a n=φ n:=by erw[D5,if_neg<|BY b]
   rw[z];cases d with
   |dead=>trivial
   |dat k E=>obtain⟨o,f,g⟩:=q;exact#[o,sm _ _ f,Ad.step (Go.new sm l v).st _ _ g]
   |mix k E=>obtain⟨o,f,g⟩:=q;exact#[o,sm _ _ f,Paired.mapP g λ_ _ q=>AG.go (Go.new sm l v) q]
  ·next b=>
   cases p:n-G.length with
   |zero=>
    have b:n=G.length:=by lia
    simp_all
   |succ j=>rw[p]at e;cases e
 ·have at_:∀{n:Nat} {d:Cl} {r:Kd},(G++[c])[n]?=Z d->d.kd=Z r->(n<G.length/\G[n]?=Z d/\D5 φ G.length a n≠a)\/n=G.length:=λ{n d r} e s=>by
   rw[KD]at e;split at e
   ·next b=>
    refine .inl #[b,e,?_];erw[D5,if_neg<|BY b];intro z;exact R.nh ⟨n,d,r,e,s,z⟩ l
   ·next b=>
    cases p:n-G.length with
    |zero=>exact .inr (by lia)
    |succ j=>rw[p]at e;cases e
  rcases at_ B f with⟨b,t,M⟩|b<;>rcases at_ C g with⟨i,u,F⟩|i
  ·erw[D5,if_neg<|BY b,if_neg<|BY i]at h;exact R.inj n m w x y A t u f g h
  ·exact(M (by rw[h,i];erw[D5,if_true])).elim
  ·exact(F (by rw[<- h,b];erw[D5,if_true])).elim
  ·rw[b,i]
theorem ue{n:Nat}{c c':Cl}{k:Kd}(e:G[n]?=Z c)(m:c.kd=Z k)(g:c'.kd=Z k'){b:Ac}:LV φ (G.set n c') b↔LV φ G b:=by
 constructor
 ·rintro⟨j,h,i,f,l,a⟩;by_cases d:n=j
  ·subst d;exact#[n,c,k,e,m,a]
  ·rw[Et d]at f;exact#[j,h,i,f,l,a]
 ·rintro⟨j,h,i,f,l,a⟩;by_cases d:n=j
  ·subst d;exact#[n,c',k',by rw[Gx<|(BC.mp e).1],g,a]
  ·exact#[j,h,i,by rw[Et d];exact f,l,a]
theorem A7.chg(R:A7 K φ G H){n:Nat}{c c':Cl}{k:Kd}{u:HO}(e:G[n]?=Z c)(l:c.kd=Z k)(v:c'.kd=Z k') (A:∀L N H',Go φ G H φ (G.set n c') H'->H' (φ n)=Z u->L=(G.set n c').length->N=LV φ (G.set n c')->Tw K φ L N H' (φ n) c'):A7 K φ (G.set n c') (AK H (φ n) u)/\Go φ G H φ (G.set n c') (AK H (φ n) u):=by
 have go:Go φ G H φ (G.set n c') (AK H (φ n) u):=by
  refine#[λ_ _=>rfl,by simp,λa o x z=>?_,λb B=>.inl<|(ue e l v).mp B];have ne:a≠φ n:=by
   rintro rfl;rcases z with z|z|z
   ·exact z #[n,c,k,e,l,rfl]
   ·exact z
   ·obtain⟨y,r,q⟩:=R.has e l;rw[x]at q;cases q;rw[Ye]at z;cases z
  rw[Zn ne];exact x
 refine#[#[λj f d=>?_,λj m f w s t d C g p h=>?_],go]
 ·by_cases i:n=j
  ·subst i;rw[Gx (BC.mp e).1]at d;cases d;exact A _ _ _ go ZZ rfl rfl
  ·rw[Et i]at d;have q:=R.cell j f d;cases f with
   |dead=>trivial
   |dat t y=>
    obtain⟨r,g,p⟩:=q;exact#[r,by rw[Zn λz=>i (R.inj j n _ _ _ _ d e rfl l z).symm];exact g,Ad.step go.st _ _ p]
   |mix t y=>
    obtain⟨r,g,p⟩:=q;exact#[r,by rw[Zn λz=>i (R.inj j n _ _ _ _ d e rfl l z).symm];exact g,Paired.mapP p λ_ _ q=>AG.go go q]
 ·have at_:∀{j:Nat} {f:Cl} {s:Kd},(G.set n c')[j]?=Z f->f.kd=Z s->∃w t,G[j]?=Z w/\w.kd=Z t:=λ{j f s} d g=>by
   by_cases i:n=j
   ·subst i;exact#[c,k,e,l]
   ·rw[Et i]at d;exact#[f,s,d,g]
  obtain⟨E,l1,S,F⟩:=at_ d g;obtain⟨M,P,Q,T⟩:=at_ C p;exact R.inj j m E M l1 P S Q F T h
end
@[simp] noncomputable def xD(o:O D)(s:IS):O (IV×Gh):=o.map λd=>(.val d,s.2)
@[simp] noncomputable def xF(fl:Kd)(o:A2)(s:IS):O (IV×Gh):=o.map λl=>(.val (.lst l fl),s.2)
@[simp] noncomputable def xC(fl:Kd)(o:A2)(s:IS):O (IV×Gh):=o.map λl=>(.cel s.2.length,s.2++[.dat fl l])
@[simp] noncomputable def xP(o:O Nat)(s:IS):O (IV×Gh):=o.bind λn=>if n<s.2.length then Z (.cel n,s.2)else J
@[simp] noncomputable def By(s:IS)(i:Nat):O Nat:=match s.1[i]? with
  |some (.cel n)=>Z n
  |_=>J
@[simp] noncomputable def Qe(c f:Ae)(s:IS)(o:O Nat):O Nat:=o.bind λn=>match s.2[n]? with
  |some (.mix (.i ns a) b)=>if a=c then match(ns.zip b).lookup f with
   |some (.cel j)=>Z j
   |_=>J
   else J
  |_=>J
section
variable{e:Expr}{g:IS->O D}{gf:IS->A2}{g1:IS->O IV}{ga:IS->O (U IV)}
theorem TB(h:JE X e (tJ X.K g)):JE X e (Ci X.K λs=>xD (g s) s):=#[h.h.mono λi H Q b=>by
 obtain⟨a,s,r,R,e,q⟩:=b;obtain⟨d,hd,rfl⟩:=BN.mp e;exact#[a,s,d,R,hd,λv c sm f=>q a v c (R.same sm) f<|Go.same sm]]
theorem uf(h:JE X e (NZ fl X.K gf)):JE X e (Ci X.K λs=>xF fl (gf s) s):=#[h.h.mono λp H Q d=>by
 obtain⟨c,s,r,R,e,q⟩:=d;obtain⟨l,f,rfl⟩:=BN.mp e;refine#[c,s,l,R,f,λa i j sm k m n=>q c _ j (R.same sm) ?_<|Go.same sm];exact⟨a,i,rfl,.of (λz=>R.g.nh z k) m,n.nw λb o=>.inl<|.inl o⟩]
theorem ug(h:JE X e (NZ fl X.K gf)):JE X e (Ci X.K λs=>xC fl (gf s) s):=#[h.h.mono λp H Q d=>by
 obtain⟨f,s,r,R,e,q⟩:=d;obtain⟨l,i,rfl⟩:=BN.mp e;refine#[f,s,l,R,i,λa j k sm c m n=>?_];refine q _ _ k (R.go (R.g.new sm c rfl #[j,m,n.nw λb o=>.inl<|(bM rfl).mp o]) (Go.new sm c rfl)) ⟨by simp,by erw[D5,if_true]⟩ (Go.new sm c rfl)]
theorem bN(h:JE X e (DT X.K gp)):JE X e (Ci X.K λs=>xP (gp s) s):=#[h.h.mono λf H Q c=>by
 obtain⟨a,s,r,R,e,q⟩:=c;obtain⟨n,d,e⟩:=BI.mp e;split at e
 ·next b=>cases e;exact#[a,s,n,R,d,λb=>q a _ H R #[b,rfl]<|Go.same<|Aj.refl H]
 ·cases e]
set_option tactic.hygienic true in
theorem uh{i:Nat}{x:Ae}(b:NV X i x:=by exact EM):JE X (.Name x pos) (DT X.K λs=>By s i):=#[(Ga b).mono λc H Q d=>by
 obtain⟨f,s,n,R,e,q⟩:=d;dsimp only at e;unfold By at e;split at e
 ·next j g=>
  cases e;rcases R.slot i _ g with z|⟨v,a,h,rfl⟩
  ·cases z
  ·refine#[.ref<|f n,?_,q h];cases z:c[i]? with
   |none=>rw[z]at a;cases a
   |some o=>rw[z]at a;cases a;rfl
 ·cases e]
theorem bO{K:Am}{φ:Nat->Ac}{L:Nat}{N:Fb}{H:Hp}{f:Ae}{x:IV}:∀{ns:U Ae}{xs:U IV}{vs:U V},Paired (AG K φ L N H) xs vs->(ns.zip xs).lookup f=Z x->∃v,(ns.zip vs).lookup f=Z v/\AG K φ L N H x v
 |[],_,_,_,e=>by simp at e
 |_::_,[],_,_,e=>by simp at e
 |n::ns,y::b,_,.cons q t,e=>by
  erw[Ky,List.lookup_cons]at e ⊢;cases a:f==n with
  |true=>rw[a]at e;cases e;exact#[_,rfl,q]
  |false=>rw[a]at e;exact bO t e
set_option tactic.hygienic true in
theorem ui{c f:Ae}(i:Bt X.K BM c=Z (Z (.ref C)))(l:Ei X.K C)(m:Bw X.K C f)(p:JE X o (DT X.K gp))(r:GA o f X.env (An o X.env)=An o X.env:=by rfl):JE X (.Attribute o f pos) (DT X.K λs=>Qe c f s (gp s)):=#[(Xv p.h r).mono λE H Q t=>by
 obtain⟨u,s,n,R,e,q⟩:=t;obtain⟨j,x,w⟩:=BI.mp e;split at w
 ·next ns G M y=>
  split at w
  ·next a=>
   subst a;split at w
   ·next k z=>
    cases w;refine#[u,s,j,R,x,λF=>?_];obtain⟨L,d,A⟩:=R.g.cell j _ y;obtain⟨v,B,b,rfl⟩:=bO A z;erw[CO,Jz i]at d;exact#[_,C,_,_,_,rfl,.inl d,l,m,B,q b]
   ·cases w
  ·cases w
 ·cases w]
theorem Qf(h:JE X e (tJ X.K g)):JE X e (Qc X.K λs=>(g s).map .val):=#[h.h.mono λi H Q a=>by
 obtain⟨b,s,r,R,e,q⟩:=a;obtain⟨d,hd,rfl⟩:=BN.mp e;exact#[b,s,d,R,hd,λv c sm f=>q v c sm f]]
theorem uj(h:JE X e (DT X.K gp)):JE X e (Qc X.K λs=>(gp s).map .cel):=#[h.h.mono λf H Q a=>by
 obtain⟨b,s,r,R,e,q⟩:=a;obtain⟨n,c,rfl⟩:=BN.mp e;exact#[b,s,n,R,c,λd=>q _ H (Aj.refl H) #[d,rfl]]]
theorem TC:JA X [] (EV X.K λ_=>Z []):=#[Bk.mono λb H Q a=>by
 obtain⟨c,s,d,R,e,q⟩:=a;cases e;exact q [] H (Aj.refl H) .nil]
theorem Qg(h:JE X e (Qc X.K g1))(d:JA X es (EV X.K ga))(f:Az (e::es) X.env=(O',An e X.env)::Az es X.env:=by exact ZI rfl):JA X (e::es) (EV X.K λs=>Zd (g1 s) (ga s)):=#[(Eu h.h d.h f).mono λn H Q g=>by
 obtain⟨a,s,o,R,e,q⟩:=g;obtain⟨x,r,i,j,rfl⟩:=Hi e;exact#[a,s,x,R,i,λv p b k=>#[a,s,r,R.same b,j,λt l c m=>q _ l (b.trans c)<|.cons (k.go<|Go.same c) m]]]
end
inductive RI where
 |fail|next(s:IS)|brk (s:IS)|cont (s:IS)|ret (x:IV) (G:Gh)
abbrev AN:=IS->RI
def TD(K:Am)(φ:Nat->Ac)(G:Gh)(H:Hp)(s':IS)(Q:St->Hp->Prop):Prop:=∀a b c,Bb K a s' b c->Go φ G H a s'.2 c->Q b c
def Cy(K:Am)(φ:Nat->Ac)(G:Gh)(H:Hp)(D:Ends):RI->Prop
 |.fail=>False
 |.next b=>TD K φ G H b D.nx
 |.brk b=>TD K φ G H b D.bk
 |.cont b=>TD K φ G H b D.ct
 |.ret x c=>∀a v d,A7 K a c d->AG K a c.length (LV a c) d x v->Go φ G H a c d->D.rt v d
def tK(K:Am)(g:AN):TS:=λD b H=>∃a s,Bb K a s b H/\Cy K a s.2 H D (g s)
set_option backward.eqns.nonrecursive true in
@[simp] noncomputable def Zp(a:RI)(g:AN):RI:=match a with
  |.next s=>g s
  |r=>r
@[simp] noncomputable def Dl(c:O Bool)(a b:RI):RI:=match c with
  |some J'=>a
  |some O'=>b
  |none=>.fail
@[simp] noncomputable def ZQ(i:Nat)(o:O (IV×Gh))(s:IS):RI:=match o with
  |some r=>.next (s.1.set i r.1,r.2)
  |none=>.fail
@[simp] noncomputable def C8(o:O (IV×Gh)):RI:=match o with
  |some r=>.ret r.1 r.2
  |none=>.fail
@[simp] noncomputable def D6(o:O (IV×Gh))(s:IS):RI:=match o with
  |some r=>.next (s.1,r.2)
  |none=>.fail
noncomputable def EW(i:Nat)(g:AN):U D->AN
 |[],s=>.next s
 |d::b,s=>match g (s.1.set i (.val d),s.2)with
  |.next a=>EW i g b a
  |.cont a=>EW i g b a
  |.brk a=>.next a
  |r=>r
@[simp] def Ir(i:Nat)(g:AN)(o:A2)(s:IS):RI:=match o with
  |some a=>EW i g a s
  |none=>.fail
@[simp] noncomputable def Mc:D->A2
  |.lst a .l=>Z a
  |_=>J
@[simp] def Qh:D->A2
  |.int j=>gd (-1000000000<=j/\j<1000000000) (Z (Ge 0 j.toNat))
  |_=>J
section
variable{K:Am}{φ1:Nat->Ac}{G G1:Gh}{H1:Hp}{D:Ends}{r:RI}
theorem Cy.from(g:Go φ G H φ1 G1 H1)(h:Cy K φ G H D r):Cy K φ1 G1 H1 D r:=by
 cases r with
 |fail=>exact h
 |next s=>exact λa b c R go=>h a b c R<|g.trans go
 |brk s=>exact λa b c R go=>h a b c R<|g.trans go
 |cont s=>exact λa b c R go=>h a b c R<|g.trans go
 |ret x e=>exact λa v c R d go=>h a v c R d<|g.trans go
end
section
variable{st:Av}{AB a b:U Av}{g g1 g2:AN}{gd':IS->O D}{c:Expr}{t:IS->O Bool}{e:Expr}{x:Ae}
theorem uk:JB X [] (tK X.K λs=>.next s):=#[Fm.mono λD a H ⟨b,s,R,q⟩=>q b a H R<|Go.same<|Aj.refl H]
theorem bP(d:JS X st (tK X.K g1))(e:JB X AB (tK X.K g2)):JB X (st::AB) (tK X.K λs=>Zp (g1 s) g2):=#[(W8 d.h e.h).mono λD k H f=>by
 obtain⟨g,s,R,q⟩:=f;dsimp only at q;refine#[g,s,R,?_];cases a:g1 s with
 |fail=>rw[a]at q;exact q
 |next b=>rw[a]at q;exact λc i l j go=>#[c,b,j,Cy.from go q]
 |brk b=>rw[a]at q;exact q
 |cont b=>rw[a]at q;exact q
 |ret x m=>rw[a]at q;exact q]
theorem ul:JS X st (tK X.K λ_=>.fail):=#[Gy.mono λD a H ⟨b,s,R,q⟩=>q]
theorem um(f:JT X c (N0 X.K t))(g:JB X a (tK X.K g1))(i:JB X b (tK X.K g2)):JS X (.If c a b pos) (tK X.K λs=>Dl (t s) (g1 s) (g2 s)):=#[(O4 f.h g.h i.h).mono λD l H j=>by
 obtain⟨d,s,R,q⟩:=j;dsimp only at q;cases e:t s with|none=>rw[e]at q;exact q.elim|some k=>
  rw[e]at q;refine#[d,s,k,R,e,λm sm=>?_];cases k with
  |true=>exact Ji #[d,s,R.same sm,Cy.from (Go.same sm) q]
  |false=>exact Jj #[d,s,R.same sm,Cy.from (Go.same sm) q]]
theorem bQ{i:Nat}(c:X.N.Nodup)(d:JE X e (Ci X.K gx))(f:X.N[i]?=Z x:=by rfl)(g:Loc X.env.scope x:=by first|exact .inl rfl|exact .inr rfl)(j:DE e (Z (.Name x pos')) pos.line X.env=Ay O':=by rfl)(k:X.fn x=J'\/X.env.scope.names.lookup x=Z .local:=by first|exact .inl rfl|exact .inr rfl|assumption):JS X (.Assign [.Name x pos'] e pos) (tK X.K λs=>ZQ i (gx s) s):=#[(MS c f g d.h j k).mono λD t H l=>by
 obtain⟨m,s,R,q⟩:=l;dsimp only at q;cases a:gx s with
 |none=>rw[a]at q;exact q.elim
 |some r=>rw[a]at q;exact#[m,s,r,R,a,λb v n o p go=>q b _ n (o.put i p) go]]
theorem uo(c:JE X e (Ci X.K gx)):JS X (.Return (Z e) pos) (tK X.K λs=>C8 (gx s)):=#[(O3 c.h).mono λD l H d=>by
 obtain⟨f,s,R,q⟩:=d;dsimp only at q;cases a:gx s with
 |none=>rw[a]at q;exact q.elim
 |some r=>rw[a]at q;exact#[f,s,r,R,a,λb v i j k go=>q b v i j.g k go]]
theorem uq(c:JE X e (Ci X.K gx))(d:DE e J pos.line X.env=Ay O':=by rfl):JS X (.Expr e pos) (tK X.K λs=>D6 (gx s) s):=#[(R8 c.h d).mono λD k H f=>by
 obtain⟨g,s,R,q⟩:=f;dsimp only at q;cases a:gx s with
 |none=>rw[a]at q;exact q.elim
 |some r=>rw[a]at q;exact#[g,s,r,R,a,λb v i j l go=>q b _ i j go]]
def Qi(K:Am)(f:IS->A2):TI:=λd H R=>∃b s c,Bb K b s d H/\f s=Z c/\∀e a,Aj H a->LN K (λ_=>False) (LV b s.2) a e c->R e a
theorem ur{t:Expr}(h:JE X e (tJ X.K gd')):JI X t e (Qi X.K λs=>(gd' s).bind Mc):=#[(Xd h.h).mono λG H N u=>by
 obtain⟨m,s,F,R,e,q⟩:=u;obtain⟨d,hd,e⟩:=BI.mp e;unfold Mc at e;split at e
 ·cases e;refine#[m,s,_,R,hd,λv n A B=>?_];obtain⟨a,c,C,f,o⟩:=B;have p:∀j g,Step (λ_=>False) (LV m s.2) j n g->BJ X.K g a c:=λj g S=>by
   rcases f with⟨E,f⟩|⟨L,z,f⟩
   ·exact .inl<|f.step S<|.inl E
   ·cases z;exact f.sq
  refine#[a,C,#[c,p _ _ Step.refl],q _ n A λj g S i=>?_];have b:=p _ _ S;refine#[λd k=>?_,λk=>#[c,b,by rw[k,o.length];exact Bc _]];obtain⟨w,r,l⟩:=(Ad.step S _ _ o).get k;refine#[#[c,w,b,r],λx M y=>?_];obtain⟨rfl,y⟩:=y;have:=y c b;rw[r]at this;cases this;exact#[Aj.refl _,l]
 ·cases e]
set_option tactic.hygienic true in
theorem ut{c a:Expr}{p:AC}(f:Gl X "range")(g:X.mg "range"=J)(i:JE X a (tJ X.K gd'))(k:Az [a] X.env=[(O',An a X.env)]:=by rfl)(b:Az (a::[]) X.env=(O',An a X.env)::Az [] X.env:=by exact ZI rfl):JI X c (.Call (.Name "range" p) [a] [] pos) (Qi X.K λs=>(gd' s).bind Qh):=#[(Xf f g (Qg (Qf i) TC b).h k).mono λu H v l=>by
   obtain⟨m,s,w,R,e,q⟩:=l;obtain⟨d,hd,e⟩:=BI.mp e;unfold Qh at e;split at e
   ·next j=>
    obtain⟨x,e⟩:=Py e;cases e;refine#[m,s,[.val<|.int j],R,by erw[hd,Jf,Zd,B7],λy n sm o=>?_];cases o with
    |cons r t=>
     cases t;subst r;exact#[j,rfl,by lia,by lia,q _ n sm Pw]
   ·cases e]
theorem uv{p:U Av}{f:IS->A2}{i:Nat}{Y:AC}(hp:PassesOwn (Ag X.prog X.w) X.A X.env X.xe)(hc:X.calm=J')(hi:JI X (.Name x Y) iter (Qi X.K f))(hN:X.N.Nodup)(hb:JB X p (tK X.K g)) (P:X.N[i]?=Z x:=by rfl) (hx:Loc X.env.scope x:=by first|exact .inl rfl|exact .inr rfl) (hf:X.fn x=J'\/X.env.scope.names.lookup x=Z .local:=by first|exact .inl rfl|exact .inr rfl|assumption) (hs:∀x,E2 iter X.env x=Ay x:=by intro _;rfl):JS X (.For (.Name x Y) iter p [] pos) (tK X.K λs=>Ir i g (f s) s):=#[(Xj hp hc hi.h (W9 hN P hx hf) hb.h hs).mono λD' I H z0=>by
 obtain⟨L,s,R,q⟩:=z0;dsimp only at q;cases r:f s with|none=>rw[r]at q;exact q.elim|some j=>
  rw[r]at q;refine#[L,s,j,R,r,λF Q s1 ok=>?_];refine#[λn m t u=>m=j.length-n/\n<=j.length/\∃a c,Bb X.K a c t u/\Go L s.2 Q a c.2 u/\Cy X.K a c.2 u D' (EW i g (j.drop n) c),#[j.length,by simp,F8 _,L,s,R.same s1,Go.same<|Aj.refl Q,Cy.from (Go.same s1) q],?_];rintro n m t u ⟨rfl,hle,a,c,Rn,gn,k⟩;obtain⟨T,S⟩:=ok _ _ gn.st n;by_cases l:n<j.length
  ·obtain⟨go,y⟩:=T j[n]<|BW l;rw[LC l]at k;erw[EW]at k;refine .inr ⟨go,λG B=>n+1<=j.length/\∃a c,Bb X.K a c G B/\Go L s.2 Q a c.2 B/\Cy X.K a c.2 B D' (EW i g (j.drop<|n+1) c),λG B z=>⟨j.length-(n+1),by exact Nat.sub_succ_lt_self j.length n l,rfl,z⟩,λx B yl=>?_⟩;obtain⟨s3,hd⟩:=y x B yl;have E:Go a c.2 u a c.2 B:=Go.same s3;refine#[a,(c.1.set i<|.val j[n],c.2),(Rn.same s3).put i hd,?_];cases o:g (c.1.set i<|.val j[n],c.2)with
   |fail=>rw[o]at k;exact k
   |next M=>rw[o]at k;exact λd C W R2 b=>#[l,d,M,R2,gn.trans<|E.trans b,Cy.from (E.trans b) k]
   |cont M=>rw[o]at k;exact λd C W R2 b=>#[l,d,M,R2,gn.trans<|E.trans b,Cy.from (E.trans b) k]
   |brk M=>rw[o]at k;exact λd C W R2 b=>k d C W R2<|E.trans b
   |ret x G'=>rw[o]at k;exact λd v W R2 hv b=>k d v W R2 hv<|E.trans b
  ·have e:n=j.length:=by lia
   subst e;rw[M8<|Bc _]at k;exact .inl ⟨S rfl,k a t u Rn<|Go.same<|Aj.refl u⟩]
end
abbrev FI:=U IV->Gh->O (IV×Gh)
def CN(K:Am)(F:FI):Sp:=λe H Q _=>∃b G d r,A7 K b G H/\Paired (AG K b G.length (LV b G) H) d e/\F d G=Z r /\
 ∀a v c,A7 K a r.2 c->AG K a r.2.length (LV a r.2) c r.1 v->Go b G H a r.2 c->Q v c
noncomputable def DU(a n:Nat)(g:AN):FI:=λb G=>if b.length=a then
  match g (b++CV (n-a) .no,G)with
  |.ret x c=>Z (x,c)
  |.next s=>Z (.val .non,s.2)
  |_=>J
 else J
theorem fi{a n:Nat}{g:AN}{xs:U IV}{G:Gh}{r:RI}(h:xs.length=a):g (xs++CV (n-a) .no,G)=r->DU a n g xs G=match r with
  |.ret x b=>Z (x,b)
  |.next s=>Z (.val .non,s.2)
  |_=>J:=λe=>by subst h e;exact if_pos rfl
theorem bR{K:Am}{G:Gh}{xs:U IV}(R:A7 K φ G H)(h:Paired (AG K φ G.length (LV φ G) H) xs vs)(n:Nat):Bb K φ (xs++CV n .no,G) (vs.map Z++CV n J) H:=by
 refine#[by simp[Ht h],R,λi x e=>?_];rw[KD]at e;split at e
 ·next a=>
  obtain⟨v,b,q⟩:=bq h e;exact .inr #[v,by rw[EL (by simpa[<- (Ht h)]using a),CW,b];rfl,q]
 ·rw[HP]at e;obtain⟨_,e⟩:=ZV e;cases e;exact .inl rfl
section
variable{P:AJ}{w:Ai}{K:Am}{mg:Bi}{base:Ak}{x qual nm:Ae}{st:Av}{f fn:Ac}{fd:B3}{N:U Ae}{k:Nat}{g g0:AN}
theorem bS(F:HV K x qual st f fd)(S:Z5 N ps (Ze st))(t:ps.length<=N.length) (u:∀(b:Aa) (A:Ah) (outer:U Env) (s:Ab) (H:Hp) (E:XK),AE k (A.deeper (A0 qual (Ze st) s.heap.objs.size f b))->JB (C2 Bd P w K mg base N qual (Ze st) f b A outer s H E).nox (ZH st) (tK K g)):AO P w K mg base Bd (k+1) f fd ps (CN K (DU ps.length N.length g)):=by
 refine F.ok S (λi H Q E h=>?_) (λb A outer s H i Q E y h=>?_)
 ·obtain⟨n,G,o,r,R,e,a,q⟩:=h;obtain⟨j,a⟩:=ZV a;rw[<- Ht e];exact j
 ·obtain⟨n,G,o,r,R,e,a,q⟩:=h;refine#[_,(u b A outer s H E y).h,?_];obtain⟨j,a⟩:=ZV a;rw[show FM N i=i.map Z++CV (N.length-ps.length) J by unfold FM;rw[<- Ht e,j]];refine#[n,_,bR R e<|N.length-ps.length,?_];cases d:g (o++CV (N.length-ps.length) .no,G)with
  |fail=>rw[d]at a;cases a
  |next p=>rw[d]at a;cases a;exact λc z l m go=>q c .non l m.g (by erw[AG,Ar]) go
  |brk p=>rw[d]at a;cases a
  |cont p=>rw[d]at a;cases a
  |ret x C=>rw[d]at a;cases a;exact λc v l m B go=>q c v l m B go
theorem uw(D:DI K mg nm st ps fn fd)(S:Z5 N ps (Ze st)) (c:∀(a:Aa) (A:Ah) (outer:U Env) (s:Ab) (H:Hp) (E:XK),AE k (A.deeper (A0 nm (Ze st) s.heap.objs.size fn a))->JB (C2 Bd P w K mg base N nm (Ze st) fn a A outer s H E).nox (ZH st) (tK K g0)) (e:g0=g:=by rfl) (b:ps.length<=N.length:=by ext):AO P w K mg base Bd (k+1) fn fd ps (CN K (DU ps.length N.length g)):=bS D.F S b (e ▸ c)
theorem ux(D:MI K C nm qual st ps fn fd)(S:Z5 N ps (Ze st)) (c:∀(a:Aa) (A:Ah) (outer:U Env) (s:Ab) (H:Hp) (E:XK),AE k (A.deeper (A0 qual (Ze st) s.heap.objs.size fn a))->JB (C2 Bd P w K mg base N qual (Ze st) fn a A outer s H E).nox (ZH st) (tK K g0)) (e:g0=g:=by rfl) (b:ps.length<=N.length:=by ext):AO P w K mg base Bd (k+1) fn fd ps (CN K (DU ps.length N.length g)):=bS D.F S b (e ▸ c)
end
@[simp] noncomputable def D7(F:FI)(o:O (U IV))(s:IS):O (IV×Gh):=o.bind λa=>F a s.2
@[simp] noncomputable def Dm(c m:Ae):Cl->Bool
  |.dat (.i ns a) _=>decide (a=c)&&!ns.contains m
  |.mix (.i ns a) _=>decide (a=c)&&!ns.contains m
  |_=>O'
@[simp] def DK(c m:Ae)(F:FI)(p:O Nat)(o:O (U IV))(s:IS):O (IV×Gh):=p.bind λn=>match s.2[n]? with
  |some cl=>if Dm c m cl=J'/\n<s.2.length then o.bind λa=>F (.cel n::a) s.2 else J
  |none=>J
@[simp] noncomputable def Qj(c:Ae)(F:FI)(o:O (U IV))(s:IS):O (IV×Gh):=o.bind λa=>(F (.cel s.2.length::a) (s.2++[.mix (.i [] c) []])).bind λr=>match r.1 with
  |.val .non=>Z (.cel s.2.length,r.2)
  |_=>J
@[simp] def FY(c f:Ae)(p:IS->O Nat)(o:O (IV×Gh))(s:IS):RI:=match o with
  |some r=>match p (s.1,r.2)with
   |some n=>match r.2[n]? with
    |some (.mix (.i ns b) a)=>if b=c/\ns.length=a.length/\ns.length<1000 then .next (s.1,r.2.set n (.mix (.i (putN f ns) c) (DB f r.1 ns a)))else .fail
    |_=>.fail
   |none=>.fail
  |none=>.fail
section
variable{e:Expr}{ga:IS->O (U IV)}{p:AC}{F:FI}{k n:Nat}{fn:Ac}{fd:B3}{x c m f:Ae}{E:XK}
theorem uy(G:AO X.prog X.w X.K X.mg X.base CX k fn fd ps (CN X.K F))(j:AE k X.A)(l:Gl X x)(m:X.mg x=Z (.ref fn))(n:HN X.K (.ref fn)=J')(o:Binds X.K fd ps [])(a:E6 CX X E) (t:JA X (e::es) (EV X.K ga)) (hz:CA X x e es pos:=by exact Ek):JE X (.Call (.Name x p) (e::es) [] pos) (Ci X.K λs=>D7 F (ga s) s):=#[(Pe G j l m n o .nil a t.h hz.d hz.s hz.p).mono λN H Q u=>by
 obtain⟨f,s,r,R,e,q⟩:=u;obtain⟨i,a,y⟩:=BI.mp e;exact#[f,s,i,R,a,λM L sm z=>#[f,s.2,i,r,R.g.same sm,by rw[DO];exact z,y,λb v B C c go=>q b v B (R.go C<|(Go.same sm).trans go) c<|(Go.same sm).trans go]]]
theorem TF{K:Am}{G:Gh}{cl:Cl}(b:Bt K BM c=Z (Z (.ref C)))(R:A7 K φ G H)(e:G[n]?=Z cl)(h:Dm c m cl=J'):∃d fs,H (φ n)=Z (.ins C d fs)/\fs.lookup m=J:=by
 have q:=R.cell n cl e;unfold Dm at h;split at h
 ·erw[C4,decide_eq_true_eq,NO]at h;obtain⟨rfl,h⟩:=h;obtain⟨f,a,_⟩:=q;erw[CO,Jz b]at a;exact#[_,_,a,NQ h]
 ·erw[C4,decide_eq_true_eq,NO]at h;obtain⟨rfl,h⟩:=h;obtain⟨f,a,_⟩:=q;erw[CO,Jz b]at a;exact#[_,_,a,NQ h]
 ·cases h
theorem bT(i:Bt X.K BM c=Z (Z (.ref C))){Q:VK}(h:Ci X.K (λs=>DK c m F (gp s) (ga s) s) I H Q):Kn C m (CN X.K F) [] E (DT X.K gp) (EV X.K ga) I H Q:=by
 obtain⟨a,s,r,R,e,q⟩:=h;obtain⟨n,j,e⟩:=BI.mp e;split at e
 ·next cl k=>
  obtain⟨l,e⟩:=ZV e;obtain⟨f,o,p⟩:=BI.mp e;refine#[a,s,n,R,j,λt=>?_];obtain⟨u,w,x,y⟩:=TF i R.g k l.1;refine#[a n,u,w,rfl,.inl x,y,a,s,f,R,o,λG L sm z=>#[a,s.2,.cel n::f,r,R.g.same sm,.cons #[t,rfl] (by rw[DO];exact z),p,λb v A B d go=>q b v A (R.go B<|(Go.same sm).trans go) d<|(Go.same sm).trans go]]
 ·cases e
section
variable(hC:Bt X.K BM c=Z (Z (.ref C)))(cl:Ei X.K C)(hm:HM X.K C m fn)(G:AO X.prog X.w X.K X.mg X.base CX k fn fd ps (CN X.K F))(hr:AE k X.A)(hb:Binds X.K fd ps [])(hx:E6 CX X E)(ho:JE X o (DT X.K gp))
include hC cl hm G hr hb hx ho
theorem uz(d:JA X (e::es) (EV X.K ga)) (a:Az (e::es) X.env=(O',An e X.env)::Az es X.env:=by exact ZI rfl) (b:(As pos (Az es X.env)).any (·.1)=O':=by rfl) (f:ME X o m (e::es) pl apos pos:=by rfl):JE X (.Call (.Attribute o m apos) (e::es) [] pos) (Ci X.K λs=>DK c m F (gp s) (ga s) s):=#[(Xx ho.h cl hm G hr hb .nil hx d.h a b f).mono λ_ _ _ h=>bT hC h]
theorem uA(b:ME X o m [] pl apos pos:=by rfl):JE X (.Call (.Attribute o m apos) [] [] pos) (Ci X.K λs=>DK c m F (gp s) (Z []) s):=#[(Xy ho.h cl hm G hr hb .nil hx b).mono λu H Q h=>by
 obtain⟨d,s,n,R,e,q⟩:=bT (E:=E) hC h;refine#[d,s,n,R,e,λf=>?_];obtain⟨a,g,i,j,k,l,p,v,w,R2,r,t⟩:=q f;cases r;exact#[a,g,i,j,k,l,t [] H (Aj.refl H) .nil]]
end
theorem uB(L:Bt X.K BM c=Z (Z (.ref C)))(M:Mk X.K C fn)(G:AO X.prog X.w X.K X.mg X.base CX n fn fd ps (CN X.K F))(N:AE (n+1) X.A)(S:Gl X x)(T:X.mg x=Z (.ref C))(W:Binds X.K fd ps [])(Y:E6 CX X E) (f:JA X (e::es) (EV X.K ga)) (hz:CA X x e es pos:=by exact Ek):JE X (.Call (.Name x p) (e::es) [] pos) (Ci X.K λs=>Qj c F (ga s) s):=#[(mU M G N S T W .nil Y f.h hz.d hz.s hz.p).mono λI H Q z0=>by
 obtain⟨φ,s,r,R,e,q⟩:=z0;obtain⟨u,l,e⟩:=BI.mp e;obtain⟨⟨y,G'⟩,hF,e⟩:=BI.mp e;dsimp only at e;split at e
 ·cases e;refine#[φ,s,u,R,l,λvs z B hv a k f hd m=>?_];generalize j:AK (AK z k<|.own a) a (.ins C k [])=zA;have sm:Aj z zA:=j ▸ (ZT hd).trans (ZT<|Zn (show a≠k by lia) ▸ f);refine⟨_,_,.cel s.2.length::u,_,((R.g.same B).new sm f (c:=.mix (.i [] c) []) rfl ⟨[],by rw[show zA a=Z (.ins C k []) by rw[<- j,ZZ],m];erw[CO,Jz L,Nat.add_sub_cancel];rfl,.nil⟩),.cons ⟨by simp,by erw[D5,if_true]⟩ (by rw[DO];exact Paired.mapP hv λ_ _ q=>AG.go (Go.new sm f rfl) q),hF,λo v H3 R3 t b=>?_⟩;have P:=((Go.same B).trans<|Go.new sm f rfl).trans b;exact⟨t,q o _ H3 (R.go R3 P) ⟨BX (by simp) b.len,by rw[b.ext _ (by simp)];erw[D5,if_true]⟩ P⟩
 ·cases e]
theorem uC{K:Am}{L:Nat}{N:Fb}{y:IV}{v:V}{ns:U Ae}{xs:U IV}(a:ns.length=xs.length)(h:Paired (AG K φ L N H) xs vs)(q:AG K φ L N H y v):Paired (AG K φ L N H) (DB f y ns xs) (DB f v ns vs):=by
 induction h generalizing ns with
 |nil=>cases ns with
  |nil=>exact .cons q .nil
  |cons=>cases a
 |cons h t b=>cases ns with|nil=>cases a|cons=>
   erw[DB];split
   ·exact .cons q t
   ·exact .cons h<|b (by simpa using a)
set_option tactic.hygienic true in
theorem uD(t:Bt X.K BM c=Z (Z (.ref C)))(cl:Ei X.K C)(A:Bw X.K C f)(B:JE X o (DT X.K gp))(E:JE X e (Ci X.K gx)) (G:DE e (Z (.Attribute o f pos')) pos.line X.env=Ay O':=by rfl):JS X (.Assign [.Attribute o f pos'] e pos) (tK X.K λs=>FY c f gp (gx s) s):=#[(mK B.h E.h G).mono λD W H F=>by
   obtain⟨M,s,R,q⟩:=F;unfold FY at q;dsimp only at q;split at q
   ·next r P=>
    refine#[M,s,r,R,P,λa v l j Q go=>?_];split at q
    ·next n m=>
     refine#[a,(s.1,r.2),n,j,m,λhl=>?_];split at q
     ·next ns k p w=>
      split at q
      ·next T=>
       obtain⟨rfl,x,h2⟩:=T;obtain⟨b,S,y⟩:=j.g.cell n _ w;obtain⟨R2,d⟩:=j.g.chg (u:=CO X.K (.i (putN f ns) k) (a n) ((DB f r.1 ns p).map un)<|DB f v ns b) (c':=.mix (.i (putN f ns) k)<|DB f r.1 ns p) w rfl rfl
        (λL N H' z Y hL hN=>by subst hL hN;exact#[_,Y,uC x (Paired.mapP y λ_ _ q=>AG.go z q) (AG.go z Q)])
       refine#[a n,C,a n-1,ns.zip b,rfl,(show l (a n)=Z (.ins C (a n-1)<|ns.zip b) by rw[S];erw[CO,Jz t]),cl,A,by rw[List.length_zip];lia,?_];have ew:AK l (a n) (CO X.K (.i (putN f ns) k) (a n) ((DB f r.1 ns p).map un)<|DB f v ns b)=AK l (a n) (.ins C (a n-1)<|EJ f v<|ns.zip b):=by
        rw[br<|x.trans<|Ht y];erw[CO,Jz t]
       rw[<- ew];exact q a W _ (j.go R2 d)<|go.trans d
      ·exact q.elim
     ·exact q.elim
    ·exact q.elim
   ·exact q.elim]
end
structure BO(X:Cx)(o:Expr)(m:Ae)(apos:AC)(e:Expr)(cpos:AC):Prop where
 b:GA o m X.env (An o X.env)=An o X.env
 f:((As cpos (Az [e] X.env)).all (λx=>!x.1)&&(GB cpos (GC [] X.env)).all (λx=>x.1.isSome)&&decide ([e].length+([]:List Ev).length+(if([]:List Ev).isEmpty then 0 else 1)<30))=J'
 l:(apos.endLine==cpos.line)=J'
 s:Az [e] X.env=(O',An e X.env)::Az [] X.env
 p:(As cpos (Az [] X.env)).any (·.1)=O'
theorem bU{m:Ae}{c:AC}{e:Expr}{a:AC}(b:GA o m X.env (An o X.env)=An o X.env:=by rfl) (f:((As a (Az [e] X.env)).all (λx=>!x.1)&&(GB a (GC [] X.env)).all (λx=>x.1.isSome)&&decide ([e].length+([]:U Ev).length+(if([]:U Ev).isEmpty then 0 else 1)<30))=J':=by rfl) (l:(c.endLine==a.line)=J':=by rfl) (s:Az [e] X.env=(O',An e X.env)::Az [] X.env:=by exact ZI rfl) (p:(As a (Az [] X.env)).any (·.1)=O':=by rfl):BO X o m c e a:=#[b,f,l,s,p]
@[simp] noncomputable def K1(p:O Nat)(o:O D)(s:IS):O (IV×Gh):=match p,o with
  |some n,Z d=>match s.2[n]? with
   |some (.dat .l a)=>if a.length<Ax then Z (.val .non,s.2.set n (.dat .l (a++[d])))else J
   |_=>J
  |_,_=>J
@[simp] def TH(p:O Nat)(o:O D)(s:IS):O (IV×Gh):=match p,o with
  |some n,Z d=>match s.2[n]? with
   |some (.dat .l a)=>if AW ZS d&&a.all (AW ZS)then(a.findIdx? λz=>AF z d).map λj=>(.val .non,s.2.set n (.dat .l (a.eraseIdx j)))else J
   |_=>J
  |_,_=>J
section
variable{e ei:Expr}{g:IS->O D}{tpos:AC}
theorem TJ{K:Am}{G:Gh}{n:Nat}{k:Kd}{ys:U D}{ws:U V}(R:A7 K φ G H)(e:G[n]?=Z (.dat k xs))(h:Ad K (LV φ G) H ys ws):A7 K φ (G.set n (.dat k' ys)) (AK H (φ n) (CO K k' (φ n) ys ws))/\Go φ G H φ (G.set n (.dat k' ys)) (AK H (φ n) (CO K k' (φ n) ys ws)):=R.chg e rfl rfl λL N f a b c d=>by subst c d;exact#[ws,b,Ad.step a.st _ _ h]
set_option tactic.hygienic true in
theorem uE(t:JE X o (DT X.K gp))(u:JE X e (tJ X.K g))(hz:BO X o "append" apos e cpos:=by exact bU):JE X (.Call (.Attribute o "append" apos) [e] [] cpos) (Ci X.K λs=>K1 (gp s) (g s) s):=#[(Ku SH PySem.F.slot_list_append PySem.F.type_list_append X2 t.h (Eu u.h Bk hz.s) hz.b hz.f hz.l hz.s hz.p).mono λA H Q w=>by
   obtain⟨a,s,r,R,ex,q⟩:=w;dsimp only at ex;unfold K1 at ex;split at ex
   ·next n d x hd=>
    split at ex
    ·next B c=>
     obtain⟨y,ex⟩:=ZV ex;cases ex;obtain⟨i,j,k⟩:=R.g.cell n _ c;refine#[a,s,n,R,x,λ_=>#[.inl #[rfl,i,.inl<|.inl j],a,s,d,R,hd,λv C sm z=>?_]];obtain⟨R2,m⟩:=TJ (k':=.l) (R.g.same sm) c ((k.same sm).append<|Ad.cons z Ad.nil);exact⟨a n,i,v,rfl,rfl,sm _ _ j,k.length ▸ y,q a _ _ (R.go R2<|(Go.same sm).trans m) (by erw[AG,Ar])<|(Go.same sm).trans m⟩
    ·cases ex
   ·cases ex]
set_option tactic.hygienic true in
theorem uF(w:X.A.units+64<Aq)(x:JE X o (DT X.K gp))(y:JE X e (tJ X.K g))(hz:BO X o "remove" apos e cpos:=by exact bU):JE X (.Call (.Attribute o "remove" apos) [e] [] cpos) (Ci X.K λs=>TH (gp s) (g s) s):=#[(Ku SH PySem.F.slot_list_remove PySem.F.type_list_remove (sX w) x.h (Eu y.h Bk hz.s) hz.b hz.f hz.l hz.s hz.p).mono λM H Q z=>by
   obtain⟨a,s,r,R,ex,q⟩:=z;dsimp only at ex;unfold TH at ex;split at ex
   ·next n d B hd=>
    split at ex
    ·next C i=>
     obtain⟨c,ex⟩:=ZV ex;rw[C4]at c;obtain⟨j,E,rfl⟩:=BN.mp ex;obtain⟨k,m,t⟩:=R.g.cell n _ i;refine#[a,s,n,R,B,λ_=>#[.inl #[rfl,k,.inl<|.inl m],a,s,d,R,hd,λv L sm G=>?_]];obtain⟨R2,u⟩:=TJ (k':=.l) (R.g.same sm) i ((t.same sm).erase j);exact#[a n,k,v,_,d,C,j,rfl,rfl,sm _ _ m,t.same sm,G.p,c.1,c.2,E,q a _ _ (R.go R2<|(Go.same sm).trans u) (by erw[AG,Ar])<|(Go.same sm).trans u]
    ·cases ex
   ·cases ex]
@[simp] def Qk(p:IS->O Nat)(ok b:O D)(s:IS):RI:=match p s,ok,b with
  |some n,Z y,Z d=>match s.2[n]? with
   |some (.dat .d c)=>match EE c,Ds y with
    |some a,Z k=>if Dy k a&&decide (a.length<Ax)then .next (s.1,s.2.set n (.dat .d (Zb (Z4 a k d))))else .fail
    |_,_=>.fail
   |_=>.fail
  |_,_,_=>.fail
set_option tactic.hygienic true in
theorem uG(E:X.A.units+64<Aq)(W:JE X o (DT X.K gp))(F:JE X ei (tJ X.K gi))(L:JE X e (tJ X.K g)) (M:∀v,assign (.Subscript o ei tpos) X.env v=(do
   let f <- Dw [v] (An o X.env);let j <- Dw [v,f] (An ei X.env);standAt tpos
   Dw [v,f,j] (setItem f j v)
   release [v,f,j] []):=by intro _;rfl) (N:swapsWithSole [.Subscript o ei tpos] e pos.line X.env=Ay O':=by rfl) (c:swappedStores [.Subscript o ei tpos] e X.env=Ay J:=by rfl) (P:(FG [.Subscript o ei tpos] X.env).map (·.2)=[assign (.Subscript o ei tpos) X.env]:=by rfl):JS X (.Assign [.Subscript o ei tpos] e pos) (tK X.K λs=>Qk gp (gi s) (g s) s):=#[(O7 L.h (O6 W.h F.h (ap E) M) N c P).mono λD' Q H T=>by
 obtain⟨b,s,R,q⟩:=T;unfold Qk at q;dsimp only at q;split at q
 ·next n y d S Y hd=>
  split at q
  ·next xs u=>
   split at q
   ·next kvs k l hk=>
    split at q
    ·next m=>
     rw[C4,decide_eq_true_eq]at m;refine#[b,s,d,R,hd,λv H1 i hv=>#[b,s,n,R.same i,S,λ_=>#[b,s,y,R.same i,Y,λw H2 r c=>?_]]];have ex:=GQ l;subst ex;have R2:=(R.same i).same r;obtain⟨vs,z3,z4⟩:=R2.g.cell n _ u;obtain⟨t,rfl,a⟩:=NC z4;rw[Ju hk]at c;have x:=a.put (k:=k) (Il c.p) (hv.same r);obtain⟨z,B⟩:=TJ (k':=.d) R2.g u x.flat;rw[KN x]at z B;have C:=(Go.same (φ:=b) (G:=s.2) (i.trans r)).trans B;refine#[b n,t,k,rfl,?_,a.keys,a.hom m.1,Jv<|Il c.p,Gu a ▸ m.2,q b Q _ (R.go z C) C];rw[<- KN a];exact z3
    ·exact q.elim
   ·exact q.elim
  ·exact q.elim
 ·exact q.elim]
end
theorem uH{P:AJ}{w:Ai}{K:Am}{mg:Bi}{base:Ak}{k:Nat}{f:Ac}{fd:B3}{F:FI}(G:AO P w K mg base Bd k f fd ["_law_script"] (CN K F)) (h:∀ns:U Int,ns.length<=63->∃G',F [.val (.lst (ns.map D.int))] []=Z (.val (.bl J'),G')):AO P w K mg base Bd k f fd ["_law_script"] (M9 K):=G.imp λp H Q E d=>by
  obtain⟨a,ns,e,g,i,q⟩:=d;obtain⟨G',j⟩:=h ns i;subst e;refine#[λ_=>0,[],[.val<|.lst<|ns.map D.int],_,⟨λn c e=>by simp at e,λn m c r k s e=>by simp at e⟩,.cons ?_ .nil,j,λl v o t b go=>?_]
  ·erw[AG,Ar];exact#[a,_,rfl,(LstAt.of_sq g).imp (λz=>#[λ⟨n,c,k,e,_⟩=>by simp at e,z.2]) id,Ad.ints ns]
  ·erw[AG,Ar]at b;subst b;exact q o
section
variable{s:Ab}{N:Fb}
noncomputable def GX:U Sl->O Rv
 |[.val x]=>Z (.val x)
 |_=>J
theorem K2(a:U D):a.map (DA GX)=a:=by induction a with
 |nil=>rfl
 |cons x c b=>rw[Be,b];rfl
theorem uI(W:Inv X pins I H s)(A:Ah)(M:A.units+40<Aq){items:U Aa}{R:Nat}{xs:U V}{l:U D}(g:s.heap.get? a=Z (Dt items R))(m:H a=J)(n:Off X pins a)(o:Ao xs items)(r:Ad X.K N H l xs)(ok:Bh GX l) {P:PySem.Fin->Ab->Prop} (q:∀s' vs,Inv X pins I (AK H a (.lst vs)) s'->Ad X.K N H (ET (Co GX) l) vs->P (.done (.ret .none)) s'):wpAny (Ag X.prog X.w) A (Ex.«list.sort» #[[.ref a],[]]) P E s:=by
 have l1:=r.length;have l2:=o.length;have few:=ok.few;have Q:Ax=16777216:=IT;rw[list_sort_plain];refine Al<|listItems_at g rfl ?_;obtain⟨n1,C,S⟩:=W.rawset (f:=λ_=>(T' [])) (its':=[]) m n g rfl;refine Al<|NM g rfl ?_ (by simp;lia) (by simp);refine Al<|seqEpoch_at C rfl ?_;refine Al<|wpAny_newTuple ?_ (by simp;lia);generalize t:({heap:=s.heap.update a<|Fq λx=>(T' []),gens:=s.gens,drawn:=s.drawn,toks:=s.toks,os:=s.os}:Ab)=d at *;have Y:=S.kept (t':=d.toks) (λb u e=>Bn {cls:=.type "tuple",data:=.seq items.toArray} e);generalize v:({heap:=d.heap.push {cls:=.type "tuple",data:=.seq items.toArray},gens:=d.gens,drawn:=d.drawn,toks:=d.toks,os:=d.os}:Ab)=G at *;refine Al<|wpAny_newList ?_ (by simp);have i:=Y.kept (t':=G.toks) (λb u e=>Bn (Dt [] 0) e);have B:=Bn (Dt [] 0) (show G.heap.get? a=Z (Dt [] n1) by rw[<- v];exact(Bn {cls:=.type "tuple",data:=.seq items.toArray} (show d.heap.get? a=Z (Dt [] n1) by rw[<- t];exact C)));refine FH ?_;refine aO (N:=N) (F:=GX) (kvs:=xs) (us:=items) (items:=items) (T:=λz=>do
  let k:=(arrOf z).map λy=>y.2;let h:=(<- seqEpoch a) != n1
  Builtin.List.listUpdate (.ref a) λ_=>k
  if let Z x:=failedOf z then
   rule "list.sort.comparison-raised";throw x
  if h then
   rule "list.sort.modified";raiseError "ValueError" "list modified during sort"
  ret .none) i A M ok (by rw[K2];exact r) o (by lia) λp st L hs ha hf=>?_
 have hpl:p.length=l.length:=by have:=L.length_eq;simpa using this
 refine Al<|seqEpoch_at B rfl ?_;generalize c:p.map (λj=>items.getD j .none)=out at *;obtain⟨n3,g4,I4⟩:=i.rawset (f:=λ_=>out.toArray) (its':=out) m n B rfl;rw[ha];refine Al<|NM B rfl ?_ (by simp) (by simp;exact Kw (show out.length<=Ax by rw[<- c,A9];lia));rw[hf];erw[show(n1 != n1)=O' by simp,Ew,if_false];refine AQ<|q _ _ (I4.catch m n g4 (show Ao (p.map λj=>xs.getD j .non) out by rw[<- c];exact NJ o p) (by rw[A9];lia)) ?_;rw[<- hs];exact Ti r p λj hj=>by have:=L.subset hj;simpa using this
theorem bV(p:Inv X pins I H s)(k:X.A.units+64<Aq){a:U Aa}{xs:U V}{c:U D}(f:Ao xs a)(h:Ad X.K N H c xs)(ok:Bh GX c){P:PySem.Fin->Ab->Prop}
  (q:∀d s' vs,H d=J->Inv X pins I (AK H d (.lst vs)) s'->Ad X.K N H (ET (Co GX) c) vs->wpAny (Ag X.prog X.w) X.A.in1 (B (.ref d)) P X.xe s'):
  wpAny (Ag X.prog X.w) X.A.in1 (do
   let l <- newList a
   let _ <- Dw [l] (call (.builtin "list.sort") [l])
   B l) P X.xe s:=by
 have l1:=h.length
 have m:=f.length
 have few:=ok.few
 have i:Ax=16777216:=IT
 refine Al (wpAny_newList ?_ (by lia))
 have g:=B2 s.heap (o:=Dt a 0) rfl
 refine Al (FH (Ks slot_list_sort #[_,g,rfl] entry_list_sort (uI (N:=N) (p.kept (t':=s.toks) (λb u e=>Bn (Dt a 0) e)) _ ?_ g p.fresh (p.off (Bc s.heap.objs.size)) f h ok λs' vs n j=>#[_,rfl,q _ s' vs p.fresh n j]) (args_list_sort _)))
 show X.A.units+1+1+40<_;lia
end
section
variable{M:Fb}{e:Expr}{f:AD}{x:Ae}{p:AC}
def Ql(o:O D):A2:=match o with
 |some (.lst a .l)=>GR GX a
 |some (.lst a .d)=>(EE a).bind λb=>GR GX (b.map λp=>kD p.1)
 |_=>J
set_option tactic.hygienic true in
theorem uJ(hc:X.calm=J')(hu:X.A.units+64<Aq)(hg:Gl X x)(hm:X.mg x=J)(hv:DY x=Z (.builtin "sorted"))(he:JE X e (tP X.K M H0 f)) (hn:x≠"__name__":=by ext) (G:Cj x:=by ext) (hs:Az [e] X.env=(O',An e X.env)::Az [] X.env:=by exact ZI rfl):JE X (.Call (.Name x p) [e] [] pos) (tF X.K M H0 λρ=>Ql (f ρ)):=#[by
 rintro g s r H Q W ⟨ρ,ys,R,i,q⟩;dsimp only at i;have hsl:Ax=16777216:=IT;cases L:f ρ with|none=>rw[L]at i;cases i|some d=>
 rw[L]at i;refine Kp<|Hc W hg hm hv ?_ hn G;refine PyProof.Rows.callWith_builtin1 ?_ hs rfl;refine AV ((Eu he.h (Bk (X:=X)) hs) pos g s r H (λj t=>∃v,j=[v]/\Aj H t/\Aw X.K (Nf M ρ r) t d v) W #[ρ,d,R,L,λv t P y=>#[v,rfl,P,y]]) λus P hh=>?_;obtain⟨j,t,C,r1,v,rfl,sm,y⟩:=hh;obtain⟨u,rfl,ru⟩:=E4 r1;have fin:∀k w j,t k=J->Inv X g r (AK t k<|.lst j) w->Ad X.K (Nf M ρ r) t ys j->EP X g r Q (.ref k) w:=λk w j c F E=>
  #[.ref k,_,F,rfl,q k j _ (sm.trans<|ZT c) (sm.none c) ZZ<|(E.nw λb hb=>hb.imp id λz=>by subst z;exact c).same (ZT c)]
 unfold Ql at i;split at i
 ·next xs hd=>
  cases hd;obtain⟨ok,rfl⟩:=Th i;obtain⟨a,ws,rfl,S,dl⟩:=y;cases ru;obtain⟨its,rv,⟨o,n,ho,Y,hdd,hd⟩,hz⟩:=C.list S;have l2:=rv.length;exact bG kind_sorted plain_sorted entry_sorted (args_sorted1 _)<|Al (m:=checkCount "sorted" 1 1 _) (AQ<|Al<|wpAny_collect_seq a (T:="list") (.inl rfl) ho Y hd (λh1 k1=>bV (N:=Nf M ρ r) (B:=λl=>ret l) (C.kept (t':=P.toks) k1) hu rv dl ok λk w j c F E=>AQ #[_,rfl,fin k w j c F E]) (by simp;lia))
 ·next xs hd=>
  cases hd;obtain⟨kvs,hun,i⟩:=BI.mp i;obtain⟨ok,rfl⟩:=Th i;rw[GQ hun]at y;obtain⟨a,ws,rfl,S,dl⟩:=y;cases ru;obtain⟨tr,dc,pd⟩:=Jw S dl;obtain⟨z,hs',nd,o,es,ep,e1,e2,e3,e4⟩:=dc.1.ok C.hok;have few:=ok.few;have hl:kvs.length=es.size:=by have h1:=pd.kden.length;have h2:=(NP e4).length;simp at h1 h2;lia
  refine bG kind_sorted plain_sorted entry_sorted (args_sorted1 _) ?_;refine Al (m:=checkCount "sorted" 1 1 _) (AQ ?_);refine Al<|sy (bf (es:=es) (ep:=ep) hs') (by show X.A.handled=J;exact C.ok.hd hc) #[o,e1,e2,e3] (by simp at few;lia) λh1 tk acc k1 hi=>?_;rw[bg hi];exact bV (N:=Nf M ρ r) (B:=λl=>ret l) (C.kept (t':=tk) k1) hu (NP e4) pd.kden ok λk w j c F E=>AQ #[_,rfl,fin k w j c F E]
 ·cases i]
end
mutual
theorem Iu:∀(d:D),AX 0 d=J'
 |.non=>rfl
 |.bl _=>rfl
 |.int _=>rfl
 |.str _=>rfl
 |.ty _=>rfl
 |.tup a=>by erw[AX];exact TK a
 |.lst a k=>by erw[AX,vk,Ie,Bool.true_and];exact TK a
theorem TK:∀(xs:U D),CM 0 xs=J'
 |[]=>rfl
 |x::xs=>by erw[CM,Iu x,TK xs,Md]
end
theorem Gj{m:Nat}:∀{xs:U D},(∀x∈xs,AX m x=J')->CM m xs=J'
 |[],_=>rfl
 |x::xs,h=>by erw[CM,h x Bj,Gj λy a=>h y<|BG _ a,Md]
section
variable{K:Am}{M:Fb}{e:Expr}{F:U Sl->O Rv}{k:Nat}{fn:Ac}{fd:B3}{x:Ae}{p:AC}{E:XK}
theorem uK(G:AO X.prog X.w X.K X.mg X.base CX k fn fd ps (A4 K F))(a:AE k X.A)(b:Gl X x)(c:X.mg x=Z (.ref fn))(f:HN X.K (.ref fn)=J')(g:Binds X.K fd ps [])(i:E6 CX X E) (j:JA X (e::es) (CH K M H0 fa)) (hz:CA X x e es pos:=by exact Ek):JE X (.Call (.Name x p) (e::es) [] pos) (EO .d K M H0 (Jm F fa)):=#[(Pe G a b c f g .nil i j.h hz.d hz.s hz.p).mono λ_ _ _ h=>oU h]
end
theorem uL{l:PySem.W.OpenLaw}{w:Ai}{K:Am}{mg:Bi}{f:Ac}{fd:B3}{st:Av}{n:Nat}{F:FI}(d:mg "law"=Z (.ref f))(q:DI K mg "law" st ["_law_script"] a fd) (G:∀base:Ak,AO l.prog w K mg base Bd n a fd ["_law_script"] (CN K F)) (h:∀ns:U Int,ns.length<=63->∃G',F [.val (.lst (ns.map D.int))] []=Z (.val (.bl J'),G')) (e:∀(g b i:Aa) (j:O Ac) (c ct v:Aa),bindArgs (IZ "law" "law" (Hh st) (ZH st) (Ze st) .none g b i j c ct) #[[v],[]]=Ay [(("_law_script":Ae),v)]):∃fd:B3,(∀(s:Ab) (v:Aa),BindsTo s fd #[[v],[]] [("_law_script",v)])/\∀base:Ak,K.In base->base.Ns BM mg->AO l.prog w K mg base Bd n f fd ["_law_script"] (M9 K):=by
 cases d.symm.trans q.m;obtain⟨p,r,g,b,i,j,c,ct,k,rfl,t,o⟩:=q.F.ex;exact#[_,λs v=>.of_eq<|e _ _ _ _ _ _ _,λbase _ _=>uH (G base) h]
section
set_option tactic.hygienic true in
end
structure Fe(Y:Cx)(e:Expr)(h:IS->Option Ae):Prop where
 h:∀pins s I H φ S c,Inv Y pins I H s->Bb Y.K φ S I H->h S=Z c->wpAny (Ag Y.prog Y.w) Y.A (An e Y.env) (λ_ _=>False) (DS Y pins I H c) s
structure Me(Y:Cx)(st:Av)(h:IS->Option Ae):Prop where
 h:∀pins s I H φ S c,Inv Y pins I H s->Bb Y.K φ S I H->h S=Z c->wpAny (Ag Y.prog Y.w) Y.A (exec st Y.env) (λ_ _=>False) (DS Y pins I H c) s
structure GY(Y:Cx)(b:List Av)(h:IS->Option Ae):Prop where
 h:∀pins s I H φ S c,Inv Y pins I H s->Bb Y.K φ S I H->h S=Z c->wpAny (Ag Y.prog Y.w) Y.A (execs b Y.env) (λ_ _=>False) (DS Y pins I H c) s
@[simp] noncomputable def Gk(o:O (U IV))(x:Ae):O Ae:=match o with
  |some [_]=>Z x
  |_=>J
def Ff(K:Am)(F:U IV->Gh->O Ae):Sp:=λe H Q E=>∃a G b c,A7 K a G H/\Paired (AG K a G.length (LV a G) H) b e/\F b G=Z c/\∀D d,Bt K BM c=Z (Z (.ref D))->Aj H d->E (.ref D) J d
noncomputable def Hy(a n:Nat)(h:IS->O Ae):U IV->Gh->O Ae:=λb G=>if b.length=a then h (b++CV (n-a) .no,G)else J
@[simp] def JD(c m:Ae)(F:U IV->Gh->O Ae)(p:O Nat)(o:O (U IV))(s:IS):O Ae:=p.bind λn=>match s.2[n]? with
  |some cl=>if Dm c m cl=J'/\n<s.2.length then o.bind λa=>F (.cel n::a) s.2 else J
  |none=>J
@[simp] noncomputable def TL:RI->RI
  |.ret x G=>.ret x G
  |_=>.fail
@[simp] def K3(a:U Ae)(i:Nat)(o:O Ae)(r:RI)(g:AN)(s:IS):RI:=match o with
  |none=>r
  |some c=>if a.contains c=J' then TL (g (s.1.set i (.exc c),s.2))else .fail
section
variable{e:Expr}{st:Av}{AB a b:U Av}{h h1 h2:IS->O Ae}{g gs:AN}{p np:AC}{ga:IS->O (U IV)}{x:Ae}
theorem uM:GY Y b (λ_=>J):=#[λ_ _ _ _ _ _ _ _ _ q=>nomatch q]
theorem uN(z:Me Y st h):GY Y (st::AB) h:=#[λa s b H d S c e R q=>O2<|Cs (z.h a s b H d S c e R q) (λ_ _ z=>z.elim) λ_ _ z=>z]
theorem uO{c:Expr}{t:IS->O Bool}(nx:Fy Y)(p:JT Y c (N0 Y.K t))(r:GY Y a h1)(u:GY Y AB h2):GY Y (.If c a [] pos::AB) (λs=>EF (t s) (h1 s) (h2 s)):=#[λb s f H g S n y R q=>by
 cases i:t S with|none=>rw[i]at q;cases q|some k=>
  rw[i]at q;refine O2<|wpAny_If<|Cs (p.h b s f H (λv j=>v=k/\Aj H j) y #[g,S,k,R,i,λj sm=>#[rfl,sm]]) (λd l w=>?_) λe x z=>(nx e x z).elim;obtain⟨m,o,rfl,sm⟩:=w;cases d with
  |true=>exact Cs (r.h b l f m g S n o (R.same sm) q) (λ_ _ z=>z.elim) λ_ _ z=>z.from sm
  |false=>exact wpAny_execs_nil (Cs (u.h b l f m g S n o (R.same sm) q) (λ_ _ z=>z.elim) λ_ _ z=>z.from sm)]
theorem uP{a:AC}(z:Fe Y e h)(d:DE e (Z (.Name x a)) pos.line Y.env=Ay O':=by rfl):Me Y (.Assign [.Name x a] e pos) h:=#[λb s f H g S c i R q=>wpAny_Assign_Name (Cs (z.h b s f H g S c i R q) (λ_ _ z=>z.elim) λ_ _ z=>z) d]
theorem uQ{D:Ac}(nx:Fy Y)(M:Y.calm=J')(W:Tq Y.K D)(Q:Bt Y.K BM x=Z (Z (.ref D)))(T:Gl Y x)(X:Y.mg x=Z (.ref D))(ha:JA Y (e::es) (EV Y.K ga)) (i:Cj x:=by ext) (j:Az (e::es) Y.env=(O',An e Y.env)::Az es Y.env:=by exact ZI rfl) (k:(As cpos (Az es Y.env)).any (·.1)=O':=by rfl):Me Y (.Raise (Z (.Call (.Name x np) (e::es) [] cpos)) J pos) (λs=>Gk (ga s) x):=#[λb s I H l S c zA R q=>by
 cases n:ga S with|none=>rw[n]at q;cases q|some p=>
  rw[n]at q;obtain⟨s0,rfl⟩:∃s0,p=[s0]:=by
   cases p with
   |nil=>cases q
   |cons s0 r=>cases r with
    |nil=>exact#[s0,rfl]
    |cons _ _=>cases q
  cases q;obtain⟨t,qn,N,bs,bm,a,u,sub,ab,d,w,y,A,B,C,E,l1,G,P,l4⟩:=W.ex;refine wpAny_Raise_call_subU (mN:=Y.base.nsMap N) (nm:=t) (q:=qn) (N:=N) (bs:=bs) (hdct:=a) (sn:=u) (sub:=sub) (ab:=ab) (col:=d) (dd:=w) (k0:=y) (k1:=A) (k2:=B) (k3:=C) (k5:=E) PySem.F.excBase_ValueError PySem.F.excBase_ValueError.hasB PySem.F.excBase_ValueError ((tail_of_in zA.kIn G).hasType PySem.F.excBase_ValueError.hasBase) (zA.ok.hd M) (j ▸ k) (nsMap_none_of_in zA.ok.mod.kin P l4) (Ki zA T X #[rfl,?_] i);rw[j];refine Calls.evalArgs_plain<|Cs (j ▸ ha.h cpos b s I H (λo f=>Aj H f/\Paired (AG Y.K l S.2.length (LV l S.2) f) [s0] o) zA #[l,S,[s0],R,n,λo f sm h1=>#[sm,h1]]) (λL s1 z9=>?_) λe s' z=>(nx e s' z).elim;obtain⟨o,f,g,r,sm,h1⟩:=z9;refine#[rfl,?_,g.kIn _ _ l1,?_,tail_of_in g.kIn G,λh' v m=>#[D,Q,(si g m).from sm]]
  ·show L.length<=Ax
   rw[show L.length=1 by rw[<- r.length,<- Ht h1];rfl];exact Lq<|nM (by ext)
  ·exact(Heap.Ns.of_isNs<|isNs_of_in zA.ok.mod.kin P).keeps g.bk]
theorem uR{F:U IV->Gh->O Ae}{k:Nat}{fn:Ac}{fd:B3}{L:U Ae}{c m:Ae}(nx:Fy Y)(hC:Bt Y.K BM c=Z (Z (.ref C)))(cl:Ei Y.K C)(X:HM Y.K C m fn)(G:AO Y.prog Y.w Y.K Y.mg Y.base (Ip Y.prog Y.w) k fn fd L (Ff Y.K F))(hr:AE k Y.A)(hb:Binds Y.K fd L []) (ho:JE Y o (DT Y.K gp)) (ha:JA Y (e::es) (EV Y.K ga)) (M:Az (e::es) Y.env=(O',An e Y.env)::Az es Y.env:=by exact ZI rfl) (N:(As pos (Az es Y.env)).any (·.1)=O':=by rfl) (ht:ME Y o m (e::es) pl apos pos:=by rfl):Fe Y (.Call (.Attribute o m apos) (e::es) [] pos) (λs=>JD c m F (gp s) (ga s) s):=#[λd s I H b S cc zA R q=>by
 obtain⟨n,hn,q⟩:=BI.mp q;split at q
 ·next cel hc=>
  obtain⟨hi,q⟩:=ZV q;obtain⟨W,Q,hF⟩:=BI.mp q;obtain⟨dx,fs,q1,q2⟩:=TF hC R.g hc hi.1;refine Si (pl:=pl) (Cs (ho.h d s I H (λv j=>v=.ref (b n)/\j=H) zA #[b,S,n,R,hn,λ_=>#[rfl,rfl]]) (λu s1 z9=>?_) λe E z=>(nx e E z).elim) ht;obtain⟨y,H1,I1,rx,p,t⟩:=z9;subst p t;obtain rfl:u=B8 (b n):=rx;refine Pc I1 (.inl q1) cl X q2 ?_;refine Pf (first:=[.ref<|b n]) (h₀:=Y.base) zA.ok.mod.kin X.kp (Cs (ha.h pos d s1 I H1 (λl i=>Aj H1 i/\Paired (AG Y.K b S.2.length (LV b S.2) i) W l) I1 #[b,S,W,R,Q,λl i sm h1=>#[sm,h1]]) (λx T ⟨l,i,P,r,sm,h1⟩=>#[P.kIn,?_]) λe E z=>(nx e E z).elim) M N;have sp:Ff Y.K F (.ref (b n)::l) i (λ_ _=>False) (λv _ j=>∃D,v=.ref D/\Bt Y.K BM cc=Z (Z<|.ref D)/\Aj i j):=#[b,S.2,.cel n::W,cc,R.g.same sm,.cons #[hi.2,rfl] h1,hF,λD j p t=>#[D,rfl,p,t]];have r2:Ao (.ref (b n)::l) (.ref (b n)::x):=.cons rfl r;have bd:=hb T (.ref (b n)::x) P.kIn (show((B8 (b n)::x)++[]).length=L.length by rw[DO,<- r2.length];exact G.len _ _ _ _ sp);rw[DO]at bd;refine wpAny_call<|Ko (G.run Y.A Y.stack T i ⟨.ref (b n)::x,[]⟩ (.ref (b n)::x) (.ref (b n)::l) _ _ hr P.env0 bd r2 sp) λr E B=>?_;cases r with
  |error v=>
   obtain⟨a,C',j,p,os,ba,fl,D,t,e3,e4⟩:=B;cases t;exact#[C',e3,a,i,j,T,p,P,sm,os,ba,fl]
  |ok f=>
   cases f with
   |ret u=>obtain⟨_,_,_,_,_,_,_,z⟩:=B;exact z.elim
   |next=>exact B.elim
   |brk=>exact B.elim
   |cont=>exact B.elim
 ·cases q]
theorem uS{bs:U Av}{m:IS->O Ae}{G:Ac}{l n:Ae}{F:Av}{b:U Av}{W:AC}(i:Nat)(L:U Ae)(nx:Fy Y)(ys:Y.stack=Y.env::Y.outer)(yf:Y.env.frame=Z Y.env.locals)(zx:GY Y bs m)(zb:JB Y bs (tK Y.K g)) (hm:Y.mg l=Z (.ref G)) (hg:Gl Y l) (hc:∀c D,L.contains c=J'->Bt Y.K BM c=Z (Z (.ref D))->exmOne Y.K (.ref D) (.ref G)=Z J') (hN:Y.N.Nodup) (hi:Y.N[i]?=Z n) (hl:Y.env.scope.names.lookup n=Z .local) (zs:∀(x:Ac),JB (Y.hand x) (F::b) (tK Y.K gs)) (hd:Cj l:=by ext):JS Y (.Try bs [.ExceptHandler (Z (.Name l np)) (Z n) (F::b) W] [] [] pos) (tK Y.K λs=>K3 L i (m s) (g s) gs s):=#[λd s M H D X z0=>by
 obtain⟨o,S,R,q⟩:=z0;try dsimp only at q
 cases p:m S with
 |none=>
  rw[p]at q;refine wpAny_Try_except<|Cs (zb.h d s M H D X ⟨o,S,R,q⟩) (λf P z=>?_) λe w z=>(nx e w z).elim;cases f with
  |next=>exact wpAny_execs_nil z
  |ret v=>exact z
  |brk=>exact z
  |cont=>exact z
 |some c=>
  rw[p]at q;erw[K3]at q;split at q
  ·next y=>
   refine wpAny_Try_except<|Cs (zx.h d s M H o S c X R p) (λf P z=>z.elim) λv P z=>?_;obtain⟨Q,T,t⟩:=z;cases a:gs (S.1.set i<|.exc c,S.2)with
   |ret r G'=>
    rw[a]at q;refine sk (Q':=D.rt) ys yf t hm hg (hc c Q y T) hN hi hl (λx H3 s3 hx0 sm I3 A=>?_) (λu vv j k s5 I5 B C=>#[vv,j,k,I5,B,C]) hd;refine Cs ((zs x).h d s3 _ H3 {nx:=λ_ _=>False,rt:=D.rt} I3 #[o,_,((R.same sm).put i (x:=.exc c) (v:=.ref x) #[x,Q,rfl,T,A]),?_]) (λf s4 z=>?_) λe w z=>(nx e w z).elim
    ·dsimp only;rw[a];exact λE v k R' hv go=>q E v k R' hv<|(Go.same sm).trans go
    ·cases f with
     |ret u=>obtain⟨vv,j,k,I',B,C⟩:=z;exact#[u,vv,j,k,rfl,I',B,C]
     |next=>obtain⟨_,_,_,z⟩:=z;exact z.elim
     |brk=>obtain⟨_,_,_,z⟩:=z;exact z.elim
     |cont=>obtain⟨_,_,_,z⟩:=z;exact z.elim
   |next _=>rw[a]at q;exact q.elim
   |fail=>rw[a]at q;exact q.elim
   |brk _=>rw[a]at q;exact q.elim
   |cont _=>rw[a]at q;exact q.elim
  ·exact q.elim]
set_option tactic.hygienic true in
end
noncomputable def Hz(a:Scope):U Ae:=(a.names.tail.filter λp=>match p.2 with | .local=>J'|_=>O').map (·.1)
noncomputable def TM(own a:U Ae)(b c:Scope):Bool:=decide (b.kind=.function)&&b.names.all (λx=>decide (x.2≠.cell))&&b.names.all (λx=>decide (x.2≠.free)||decide (c.names.lookup x.1=Z .cell)||decide (c.names.lookup x.1=Z .free))
 && b.names.all (λx=>decide (x.2≠.local)||decide (b.names.lookup x.1=Z .local))&&a.all (λx=>decide (b.names.lookup x=Z .free))&&decide (own++a).Nodup
theorem uT{own a:U Ae}{d b:Scope}(h:TM own a d b=J'):HW own a d b:=by
 erw[TM,C4,Ec,Bool.or_eq_true,decide_eq_true_eq]at h;obtain⟨⟨⟨⟨⟨f,g⟩,i⟩,j⟩,k⟩,l⟩:=h;exact#[f,g,λx c e=>(i x c).elim (λz=>z.elim (λz=>absurd e z) .inl) .inr,λx c e=>(j x c).elim (λz=>absurd e z) id,k,l]
structure XI(P:AJ)(w:Ai)(K:Am)(mg:Bi)(base:Ak)(X:Cx)(N:List Ae)(sc:Scope):Prop where
 p:X.prog=P
 w:X.w=w
 k:X.K=K
 m:X.mg=mg
 b:X.base=base
 n:X.N=N
 s:X.env.scope=sc
 d:N.Nodup
theorem XI.nd{P:AJ}{w:Ai}{K:Am}{mg:Bi}{base:Ak}{N:U Ae}{a:Scope}(h:XI P w K mg base X N a):X.N.Nodup:=h.n ▸ h.d
noncomputable def oN(N:U Ae)(oix:U Nat):U Ae:=oix.filterMap (N[·]?)
structure CQ(N:List Ae)(sc scope:Scope)(n:Nat)(oix:List Nat):Prop where
 S:HW (Hz scope) (oN N oix) scope sc
 l:(Hz scope).length=n
 x:oix.map (λj=>N[j]?)=(oN N oix).map Z
theorem Mf{N:U Ae}{a:Scope}{n:Nat}{oix:U Nat}(h:(TM (Hz scope) (oN N oix) scope a&&decide ((Hz scope).length=n)&&decide (oix.map (λj=>N[j]?)=(oN N oix).map Z))=J'):CQ N a scope n oix:=by
 erw[C4,decide_eq_true_eq]at h;exact#[uT h.1.1,h.1.2,h.2]
section
variable{K:Am}{M:Fb}{f:VE->A2}{fd:AD}{b:D->VE->O VE}{t:VE->O Bool}{e:AD}{spos:AC}{oix:U Nat}{n i:Nat}{N:U Ae}{x:Ae}
variable{P:AJ}{w:Ai}{K0:Am}{mg:Bi}{base:Ak}
theorem Mg{own a:U Ae}(h:XI P w K0 mg base X N sc)(d:(own++a).Nodup)(l:∀C f g i c j H',XI P w K0 mg base (Di X own a scope C f g i c) (own++a) (Di X own a scope C f g i c).env.scope->JG (Di X own a scope C f g i c) tg (tG K j H' ws b))(n:∀C f g i c j H',XI P w K0 mg base (Di X own a scope C f g i c) (own++a) (Di X own a scope C f g i c).env.scope->JF (Di X own a scope C f g i c) ifs (BH K j H' t))(o:∀C f g i c j H',XI P w K0 mg base (Di X own a scope C f g i c) (own++a) (Di X own a scope C f g i c).env.scope->JE (Di X own a scope C f g i c) elt (tD K j H' e)):CB K X own a scope tg ifs elt ws b t e:=pG (l _ _ _ _ _ _ _ #[h.p,h.w,h.k,h.m,h.b,rfl,rfl,d]) (n _ _ _ _ _ _ _ #[h.p,h.w,h.k,h.m,h.b,rfl,rfl,d])<|o _ _ _ _ _ _ _ ⟨h.p,h.w,h.k,h.m,h.b,rfl,rfl,d⟩
variable(h:XI P w K0 mg base X N sc)(q:CQ N sc scope n oix)(hc:X.calm=J')(hK:K0=K)
include h q hc hK
theorem uU(a:JI X tg iter (tI K M H0 f))(c:CB K X (Hz scope) (oN N oix) scope tg ifs elt ws b t e)(d:∀j∈ws,j<n)(g:∀x,E2 iter X.env x=Ay x:=by intro _;rfl):JE X (.ListComp elt [#[tg,iter,ifs,0]] scope pos) (tF K M H0 (Zk n oix f b t e)):=by
 obtain⟨_,_,i,_,_,rfl,rfl,_⟩:=h;obtain⟨S,rfl,x⟩:=q;grind [pH]
theorem uV(a:N[i]?=Z x)(d:sc.names.lookup x=Z .local)(g:JI X tg iter (tI K M H0 f))(k:CB K X (Hz scope) (oN N oix) scope tg ifs elt ws b t e)(l:∀j∈ws,j<n)(c:DE (.ListComp elt [#[tg,iter,ifs,0]] scope pos) (Z (.Name x pos')) spos.line X.env=Ay J':=by rfl)(m:∀x,E2 iter X.env x=Ay x:=by intro _;rfl):JS X (.Assign [.Name x pos'] (.ListComp elt [#[tg,iter,ifs,0]] scope pos) spos) (tS K M H0 λρ=>Z6 i (Zk n oix f b t e ρ) ρ):=by
 obtain⟨_,_,o,_,_,rfl,rfl,nd⟩:=h;obtain⟨S,rfl,x⟩:=q;grind [pI]
theorem uW(a:N[i]?=Z x)(d:sc.names.lookup x=Z .local)(g:JI X tg iter (tI K M H0 f))(k:CB K X (Hz scope) (oN N oix) scope tg ifs elt ws b t e)(l:∀j∈ws,j<n)(c:DE (.ListComp elt [#[tg,iter,ifs,0]] scope pos) (Z (.Name x pos')) spos.line X.env=Ay J':=by rfl)(m:∀x,E2 iter X.env x=Ay x:=by intro _;rfl):JS X (.Assign [.Name x pos'] (.ListComp elt [#[tg,iter,ifs,0]] scope pos) spos) (tS K M H0 λρ=>Z3 i (Zr (Zk n oix f b t e ρ)) ρ):=by
 obtain⟨_,_,o,_,_,rfl,rfl,nd⟩:=h;obtain⟨S,rfl,x⟩:=q;grind [pJ]
theorem uX(a:JE X iter (tQ K M H0 fd))(c:CB K X (Hz scope) (oN N oix) scope tg ifs elt ws b t e)(d:∀j∈ws,j<n)(f:∀x,E2 iter X.env x=Ay x:=by intro _;rfl):JE X (.ListComp elt [#[tg,iter,ifs,0]] scope pos) (tF K M H0 (Zk n oix (λρ=>(fd ρ).bind FV) b t e)):=by
 obtain⟨_,_,g,_,_,rfl,rfl,_⟩:=h;obtain⟨S,rfl,x⟩:=q;grind [tM]
theorem uY(a:N[i]?=Z x)(d:sc.names.lookup x=Z .local)(f:JE X iter (tQ K M H0 fd))(g:CB K X (Hz scope) (oN N oix) scope tg ifs elt ws b t e)(k:∀j∈ws,j<n)(c:DE (.ListComp elt [#[tg,iter,ifs,0]] scope pos) (Z (.Name x pos')) spos.line X.env=Ay J':=by rfl)(l:∀x,E2 iter X.env x=Ay x:=by intro _;rfl):JS X (.Assign [.Name x pos'] (.ListComp elt [#[tg,iter,ifs,0]] scope pos) spos) (tS K M H0 λρ=>Z6 i (Zk n oix (λρ=>(fd ρ).bind FV) b t e ρ) ρ):=by
 obtain⟨_,_,m,_,_,rfl,rfl,nd⟩:=h;obtain⟨S,rfl,x⟩:=q;grind [tN]
end
def All{a:Type}(p:a->Prop):U a->Prop
 |[]=>True
 |x::r=>p x/\All p r
theorem All.get{a:Type}{p:a->Prop}:∀{l:U a}(i:Nat){x:a},All p l->l[i]?=Z x->p x
 |_::_,0,_,h,e=>by cases e;exact h.1
 |_::_,i+1,_,h,e=>All.get i h.2 (by simpa using e)
 |[],_,_,_,e=>by simp at e
def DX(K:Am)(mg:Bi):Ae×Av×U Ae->Prop
 |(a,st,b)=>∃fn fd,DI K mg a st b fn fd
def MX(K:Am)(C:Ac):Ae×Ae×Av×U Ae->Prop
 |(b,a,st,c)=>∃fn fd,MI K C b a st c fn fd
section
variable(P:AJ)(w:Ai)(K:Am)(mg:Bi)(base:Ak)
def OF(k:Nat)(nm:Ae)(sp:Sp):Prop:=∃st a fn fd,DI K mg nm st a fn fd/\AO P w K mg base Bd k fn fd a sp
def OM(C:Ac)(c:DF)(k:Nat)(nm:Ae)(sp:Sp):Prop:=∃a st b fn fd,MI K C nm a st b fn fd/\AO P w K mg base c k fn fd b sp
end
section
variable{P:AJ}{w:Ai}{K:Am}{mg:Bi}{base:Ak}{nm qual:Ae}{st:Av}{k:Nat}{g:AA}{gi:AN}(N:U Ae)
theorem BL(D:DX K mg (nm,st,ps)) (l:∀(fn:Ac) (i:Aa) (A:Ah) (outer:U Env) (s:Ab) (H:Hp) (E:XK) (M:Fb) (H0:Hp),XI P w K mg base (C2 Bd P w K mg base N nm (Ze st) fn i A outer s H E).nox N (Ze st)->AE k (A.deeper (A0 nm (Ze st) s.heap.objs.size fn i))->JB (C2 Bd P w K mg base N nm (Ze st) fn i A outer s H E).nox (ZH st) (tS K M H0 g)) (S:Z5 N ps (Ze st):=by exact KW) (j:ps.length<=N.length:=by ext):OF P w K mg base (k+1) nm (A4 K (AS ps.length N.length g)):=let⟨fn,fd,D⟩:=D
 #[st,ps,fn,fd,D,sI D S (λa b c d e f g h r=>l fn a b c d e f g h #[rfl,rfl,rfl,rfl,rfl,rfl,rfl,S.nd] r) rfl j]
theorem Qm(D:MX K C (nm,qual,st,ps)) (l:∀(fn:Ac) (i:Aa) (A:Ah) (outer:U Env) (s:Ab) (H:Hp) (E:XK) (M:Fb) (H0:Hp),XI P w K mg base (C2 Bd P w K mg base N qual (Ze st) fn i A outer s H E).nox N (Ze st)->AE k (A.deeper (A0 qual (Ze st) s.heap.objs.size fn i))->JB (C2 Bd P w K mg base N qual (Ze st) fn i A outer s H E).nox (ZH st) (tS K M H0 g)) (S:Z5 N ps (Ze st):=by exact KW) (j:ps.length<=N.length:=by ext):OM P w K mg base C Bd (k+1) nm (A4 K (AS ps.length N.length g)):=let⟨fn,fd,D⟩:=D
 #[qual,st,ps,fn,fd,D,tL D S (λa b c d e f g h r=>l fn a b c d e f g h #[rfl,rfl,rfl,rfl,rfl,rfl,rfl,S.nd] r) rfl j]
theorem bW{fn:Ac}{fd:B3}(D:DI K mg nm st ps fn fd) (i:∀(g:Aa) (A:Ah) (outer:U Env) (s:Ab) (H:Hp) (E:XK),XI P w K mg base (C2 Bd P w K mg base N nm (Ze st) fn g A outer s H E).nox N (Ze st)->AE k (A.deeper (A0 nm (Ze st) s.heap.objs.size fn g))->JB (C2 Bd P w K mg base N nm (Ze st) fn g A outer s H E).nox (ZH st) (tK K gi)) (S:Z5 N ps (Ze st):=by exact KW) (h:ps.length<=N.length:=by ext):AO P w K mg base Bd (k+1) fn fd ps (CN K (DU ps.length N.length gi)):=uw D S (λa b c d e f r=>i a b c d e f #[rfl,rfl,rfl,rfl,rfl,rfl,rfl,S.nd] r) rfl h
theorem Mh(D:DX K mg (nm,st,ps)) (c:∀(fn:Ac) (a:Aa) (A:Ah) (outer:U Env) (s:Ab) (H:Hp) (E:XK),XI P w K mg base (C2 Bd P w K mg base N nm (Ze st) fn a A outer s H E).nox N (Ze st)->AE k (A.deeper (A0 nm (Ze st) s.heap.objs.size fn a))->JB (C2 Bd P w K mg base N nm (Ze st) fn a A outer s H E).nox (ZH st) (tK K gi)) (S:Z5 N ps (Ze st):=by exact KW) (b:ps.length<=N.length:=by ext):OF P w K mg base (k+1) nm (CN K (DU ps.length N.length gi)):=let⟨fn,fd,D⟩:=D
 #[st,ps,fn,fd,D,bW N D (c fn) S b]
theorem K4(D:MX K C (nm,qual,st,ps)) (i:∀(fn:Ac) (g:Aa) (A:Ah) (outer:U Env) (s:Ab) (H:Hp) (E:XK),XI P w K mg base (C2 Bd P w K mg base N qual (Ze st) fn g A outer s H E).nox N (Ze st)->AE k (A.deeper (A0 qual (Ze st) s.heap.objs.size fn g))->JB (C2 Bd P w K mg base N qual (Ze st) fn g A outer s H E).nox (ZH st) (tK K gi)) (S:Z5 N ps (Ze st):=by exact KW) (h:ps.length<=N.length:=by ext):OM P w K mg base C Bd (k+1) nm (CN K (DU ps.length N.length gi)):=let⟨fn,fd,D⟩:=D
 #[qual,st,ps,fn,fd,D,ux D S (λa b c d e f r=>i fn a b c d e f #[rfl,rfl,rfl,rfl,rfl,rfl,rfl,S.nd] r) rfl h]
end
section
variable{P:AJ}{w:Ai}{K K':Am}{mg:Bi}{base:Ak}{N:U Ae}{M:Fb}{k n:Nat}{c m x y:Ae}{F:U Sl->O Rv}{FF:FI}{e:Expr}{fe:AD}{ga:IS->O (U IV)}{p kpos:AC}(h:XI P w K mg base X N sc)(r:AE n X.A)
include h r
theorem uZ(G:OF P w K mg base k x (A4 K F))(a:K=K')(b:JA X (e::es) (CH K' M H0 fa))(c:k<=n)(d:Gl X x)(hz:CA X x e es pos):JE X (.Call (.Name x p) (e::es) [] pos) (tD K' M H0 (Zh F fa)):=by
 obtain⟨rfl,rfl,rfl,rfl,rfl,_,_,_⟩:=h;obtain⟨_,_,_,_,D,G⟩:=G;grind [sA]
theorem u0(G:OF P w K mg base k x (A4 K F))(a:K=K')(b:JA X (e::es) (CH K' M H0 fa))(c:k<=n)(d:Gl X x)(hz:CA X x e es pos):JE X (.Call (.Name x p) (e::es) [] pos) (tF K' M H0 (E9 F fa)):=by
 obtain⟨rfl,rfl,rfl,rfl,rfl,_,_,_⟩:=h;obtain⟨_,_,_,_,D,G⟩:=G;grind [sB]
theorem u3(G:OF P w K mg base k x (A4 K F))(a:K=K')(c:JA X (e::es) (CH K' M H0 fa))(f:k<=n)(g:Gl X x)(hz:CA X x e es pos):JE X (.Call (.Name x p) (e::es) [] pos) (EO .d K' M H0 (Jm F fa)):=by
 obtain⟨rfl,rfl,rfl,rfl,rfl,_,_,_⟩:=h;subst a;obtain⟨_,_,_,_,D,G⟩:=G;exact uK G (r.mono f) g D.m D.F.kp D.b (E:=E0) HU c hz
theorem u4(G:OF P w K mg base k x (CN K FF))(a:K=K')(c:JA X (e::es) (EV K' ga))(d:k<=n)(f:Gl X x)(hz:CA X x e es pos):JE X (.Call (.Name x p) (e::es) [] pos) (Ci K' λs=>D7 FF (ga s) s):=by
 obtain⟨rfl,rfl,rfl,rfl,rfl,_,_,_⟩:=h;subst a;obtain⟨_,_,_,_,D,G⟩:=G;exact uy G (r.mono d) f D.m D.F.kp D.b (E:=E0) HU c hz
theorem bX(G:OF P w K mg base k y (A4 K F))(f:mg x=J)(g:K=K')(i:JE X e (tP K' M H0 fe))(j:k+2<=n:=by ext)(l:Gl X x:=by rfl)(o:DY x=Z (.builtin "sorted"):=by rfl)(c:Gl X y:=by rfl) (q:x≠"__name__":=by ext) (d:Cj x:=by ext) (a:Cj y:=by ext) (s:Az [e] X.env=(O',An e X.env)::Az [] X.env:=by exact ZI rfl):JE X (.Call (.Name x p) [e] [#[Z "key",.Name y p2,kpos]] pos) (tF K' M H0 (KS F fe)):=by
 obtain⟨rfl,rfl,rfl,rfl,rfl,_,_,_⟩:=h;subst g;obtain⟨_,_,_,_,D,G⟩:=G;exact rO G (r.mono j) l f o c D.m D.b i q d a s
variable(cb:CI K mg c C)
include cb
theorem u5(G:OM P w K mg base C Bd k "__init__" (CN K FF))(a:K=K')(d:JA X (e::es) (EV K' ga))(f:k+1<=n:=by ext)(g:Gl X c:=by rfl)(hz:CA X c e es pos:=by exact Ek):JE X (.Call (.Name c p) (e::es) [] pos) (Ci K' λs=>Qj c FF (ga s) s):=by
 obtain⟨rfl,rfl,rfl,rfl,rfl,_,_,_⟩:=h;subst a;obtain⟨_,_,_,_,_,D,G⟩:=G;exact uB cb.cof (cb.mkB D) G (r.mono f) g cb.m D.b (E:=E0) HU d hz
theorem bY(G:OM P w K mg base C Bd k m (A4 K F))(f:K=K')(g:JE X o (Gc K' M H0 fo))(i:JA X (e::es) (CH K' M H0 fa))(j:k<=n:=by ext) (a:Az (e::es) X.env=(O',An e X.env)::Az es X.env:=by exact ZI rfl) (d:(As pos (Az es X.env)).any (·.1)=O':=by rfl) (l:ME X o m (e::es) pl apos pos:=by rfl):JE X (.Call (.Attribute o m apos) (e::es) [] pos) (tD K' M H0 λρ=>(EU c m F (fo ρ) (fa ρ)).map C3):=by
 obtain⟨rfl,rfl,rfl,rfl,rfl,_,_,_⟩:=h;subst f;obtain⟨_,_,_,_,_,D,G⟩:=G;exact sP cb.cof cb.cl D.M G (r.mono j) D.b (E:=E0) HU g i a d l
theorem bZ(G:OM P w K mg base C Bd k m (A4 K F))(a:K=K')(d:JE X o (Gc K' M H0 fo))(e:k<=n:=by ext)(f:ME X o m [] pl apos pos:=by rfl):JE X (.Call (.Attribute o m apos) [] [] pos) (tD K' M H0 λρ=>(EU c m F (fo ρ) (Z [])).map C3):=by
 obtain⟨rfl,rfl,rfl,rfl,rfl,_,_,_⟩:=h;subst a;obtain⟨_,_,_,_,_,D,G⟩:=G;exact sQ cb.cof cb.cl D.M G (r.mono e) D.b (E:=E0) HU d f
theorem N1(G:OM P w K mg base C Bd k m (CN K FF))(f:K=K')(g:JE X o (DT K' gp))(i:JA X (e::es) (EV K' ga))(j:k<=n:=by ext) (a:Az (e::es) X.env=(O',An e X.env)::Az es X.env:=by exact ZI rfl) (d:(As pos (Az es X.env)).any (·.1)=O':=by rfl) (l:ME X o m (e::es) pl apos pos:=by rfl):JE X (.Call (.Attribute o m apos) (e::es) [] pos) (Ci K' λs=>DK c m FF (gp s) (ga s) s):=by
 obtain⟨rfl,rfl,rfl,rfl,rfl,_,_,_⟩:=h;subst f;obtain⟨_,_,_,_,_,D,G⟩:=G;exact uz cb.cof cb.cl D.M G (r.mono j) D.b (E:=E0) HU g i a d l
theorem u6(G:OM P w K mg base C Bd k m (CN K FF))(a:K=K')(d:JE X o (DT K' gp))(e:k<=n:=by ext)(f:ME X o m [] pl apos pos:=by rfl):JE X (.Call (.Attribute o m apos) [] [] pos) (Ci K' λs=>DK c m FF (gp s) (Z []) s):=by
 obtain⟨rfl,rfl,rfl,rfl,rfl,_,_,_⟩:=h;subst a;obtain⟨_,_,_,_,_,D,G⟩:=G;exact uA cb.cof cb.cl D.M G (r.mono e) D.b (E:=E0) HU d f
theorem b0(nx:Fy X)(G:OM P w K mg base C (Ip P w) k m (Ff K FX))(l:K=X.K)(f:JE X o (DT X.K gp))(g:JA X (e::es) (EV X.K ga))(i:k<=n:=by ext) (a:Az (e::es) X.env=(O',An e X.env)::Az es X.env:=by exact ZI rfl) (d:(As pos (Az es X.env)).any (·.1)=O':=by rfl) (j:ME X o m (e::es) pl apos pos:=by rfl):Fe X (.Call (.Attribute o m apos) (e::es) [] pos) (λs=>JD c m FX (gp s) (ga s) s):=by
 obtain⟨rfl,rfl,rfl,rfl,rfl,_,_,_⟩:=h;obtain⟨_,_,_,_,_,D,G⟩:=G;exact uR nx cb.cof cb.cl D.M G (r.mono i) D.b f g a d j
end
section
variable{K:Am}{M:Fb}{st:Av}{g:AA}{i:Nat}{cs:U Ae}{f:Ae->Bool}{m n c:Ae}{np cp p:AC}
@[simp] def JH(i:Nat)(g:AA):AA:=λa=>g (LM i a)
theorem u7(h:JS X st (tS K M H0 g)):JS X st (tS K M H0 (JH i g)):=pc i h
theorem u8{ty:String}(k:X.mg m=J)(l:X.mg c=J)(o:∀c a,cs.contains c=J'->Bt K BM c=Z (Z (.ref a))->Gg K a/\kitOne K (.ref a) (.type ty)=Z (f c))(q:DY c=Z (.type ty):=by rfl)(r:X.K=K:=by rfl)(s:X.N[i]?=Z n:=by rfl)(b:X.env.scope.names.lookup n=Z .local:=by rfl)(d:Gl X c:=by rfl)(t:Gl X m:=by rfl)(w:DY m=Z (.builtin "isinstance"):=by rfl) (x:m≠"__name__":=by ext) (e:c≠"__name__":=by ext) (g:Cj m:=by ext) (hd:Cj n:=by ext) (h:(n==("__classdict__":Ae))=O':=by ext) (j:Cj c:=by ext):JE X (.Call (.Name m p) [.Name n np,.Name c cp] [] pos) (tD K M H0 (FS i cs f)):=a0 i cs f r s (Or.inl b) (WZ (v:=.ty ty) d l q rfl e j) (λu z=>z) o t k w x g hd h
theorem All.mem{a:Type}{p:a->Prop}{x:a}:∀{l:U a},All p l->x∈l->p x
 |_::_,h,e=>by cases e with
  |head=>exact h.1
  |tail _ e=>exact All.mem h.2 e
def XX(K:Am)(mg:Bi)(c:Ae):Prop:=∃a,mg c=Z (.ref a)/\Bt K BM c=Z (Z (.ref a))
def YY(K:Am)(l:U Ae)(c:Ae):Prop:=∃a,Bt K BM c=Z (Z (.ref a))/\Tq K a/\Gg K a/\kitOne K (.ref a) (.type "ValueError")=Z (FU "ValueError" c)/\(∃B,Bt K BM "CubeError"=Z (Z (.ref B))/\exmOne K (.ref a) (.ref B)=Z J')/\All (λb=>∃B,Bt K BM b=Z (Z (.ref B))/\kitOne K (.ref a) (.ref B)=Z (FU b c)) l
theorem u9{l:U Ae}(r:X.mg m=J)(s:All (XX K X.mg) l)(t:All (YY K l) cs)(o:l.contains c=J':=by rfl)(w:X.K=K:=by rfl)(x:X.N[i]?=Z n:=by rfl)(a:X.env.scope.names.lookup n=Z .local:=by rfl)(b:Gl X c:=by rfl)(y:Gl X m:=by rfl)(A:DY m=Z (.builtin "isinstance"):=by rfl) (B:m≠"__name__":=by ext) (d:Cj m:=by ext) (hd:Cj n:=by ext) (g:(n==("__classdict__":Ae))=O':=by ext) (j:Cj c:=by ext):JE X (.Call (.Name m p) [.Name n np,.Name c cp] [] pos) (tD K M H0 (FS i cs (FU c))):=by
 obtain⟨C,E,G⟩:=s.mem<|Mi.mp o;refine a0 i cs _ w x (Or.inl a) (R6 (v:=.ref C) b E rfl j) (λu z=>z) (λc F h e=>?_) y r A B d hd g;obtain⟨_,H,_,f,_,_,q⟩:=t.mem<|Mi.mp h;obtain⟨_,L,k⟩:=q.mem<|Mi.mp o;cases e.symm.trans H;cases G.symm.trans L;exact⟨f,k⟩
theorem va{l:U Ae}(b:All (YY K l) cs):∀c a,cs.contains c=J'->Bt K BM c=Z (Z (.ref a))->Gg K a/\kitOne K (.ref a) (.type "ValueError")=Z (FU "ValueError" c):=λc a h e=>by
 obtain⟨_,d,_,f,v,_⟩:=b.mem<|Mi.mp h;cases e.symm.trans d;exact⟨f,v⟩
theorem vb{l:U Ae}{mg:Bi}(a:XX K mg "CubeError")(b:All (YY K l) cs):∃G,mg "CubeError"=Z (.ref G)/\∀c D,cs.contains c=J'->Bt K BM c=Z (Z (.ref D))->exmOne K (.ref D) (.ref G)=Z J':=by
 obtain⟨_,d,f⟩:=a;refine#[_,d,λc D h e=>?_];obtain⟨_,g,_,_,_,⟨_,i,x⟩,_⟩:=b.mem<|Mi.mp h;cases e.symm.trans g;cases f.symm.trans i;exact x
theorem vc{l:U Ae}{e:Expr}{ga:IS->O (U IV)}(nx:Fy X)(g:X.calm=J')(h:All (XX X.K X.mg) l)(i:All (YY X.K l) cs)(j:Gl X c)(m:JA X (e::es) (EV X.K ga))(a:l.contains c=J':=by rfl)(n:cs.contains c=J':=by rfl) (b:Cj c:=by ext) (o:Az (e::es) X.env=(O',An e X.env)::Az es X.env:=by exact ZI rfl) (d:(As p (Az es X.env)).any (·.1)=O':=by rfl):Me X (.Raise (Z (.Call (.Name c np) (e::es) [] p)) J pos) (λs=>Gk (ga s) c):=by
 obtain⟨_,a,q⟩:=h.mem<|Mi.mp a;obtain⟨_,f,k,_⟩:=i.mem<|Mi.mp n;cases q.symm.trans f;exact uQ nx g k f j a m b o d
end
end L2
variable{gp:L2.IS->O Nat}{gx:L2.IS->O (L2.IV×L2.Gh)}{x11 x12 x3 x4 x5 x6 x7 x8 x9:L2.IV}{FX:U L2.IV->L2.Gh->O Ae}{G':L2.Gh}{gb:L2.IS->O (Bool×L2.Gh)}{gi:L2.IS->O L2.D}{gf:L2.IS->O (U L2.D)}
namespace L2
open PySem PySem.Spec PyProof.Rows
@[simp] theorem ZFq(a b:Int):AF (.int a) (.int b)=decide (a=b):=by erw[AF];by_cases h:a=b<;>simp[h]
@[simp] theorem ZFZ(a b:Ae):AF (.str a) (.str b)=decide (a=b):=by erw[AF];by_cases h:a=b<;>simp[h]
@[simp] theorem ZFM(a b:Bool):AF (.bl a) (.bl b)=decide (a=b):=by erw[AF];by_cases h:a=b<;>simp[h]
@[simp] theorem ZF0:AF .non .non=J':=by erw[AF]
@[simp] theorem ZFC(a:Bool)(b:Int):AF (.bl a) (.int b)=decide ((if a then 1 else 0)=b):=by erw[AF];by_cases h:(if a then 1 else 0)=b<;>simp[h]
@[simp] theorem ZFs(a:Int)(b:Bool):AF (.int a) (.bl b)=decide (a=(if b then 1 else 0)):=by erw[AF];by_cases h:a=(if b then 1 else 0)<;>simp[h]
@[simp] theorem ZFV(a:Int)(b:Ae):AF (.int a) (.str b)=O':=by erw[AF]
@[simp] theorem ZFr(a:Ae)(b:Int):AF (.str a) (.int b)=O':=by erw[AF]
@[simp] theorem ZFw(a:Bool)(b:Ae):AF (.bl a) (.str b)=O':=by erw[AF]
@[simp] theorem ZFx(a:Ae)(b:Bool):AF (.str a) (.bl b)=O':=by erw[AF]
@[simp] theorem ZFY(b:Int):AF .non (.int b)=O':=by erw[AF]
@[simp] theorem ZFA(b:Ae):AF .non (.str b)=O':=by erw[AF]
@[simp] theorem ZFO(b:Bool):AF .non (.bl b)=O':=by erw[AF]
@[simp] theorem ZFt(b:Int):AF (.int b) .non=O':=by erw[AF]
@[simp] theorem ZFz(b:Ae):AF (.str b) .non=O':=by erw[AF]
@[simp] theorem ZFB(b:Bool):AF (.bl b) .non=O':=by erw[AF]
@[simp] theorem ZFy(a b:U D):AF (.tup a) (.tup b)=CJ a b:=by erw[AF]
@[simp] theorem ZFP(a b:U D):AF (.lst a) (.lst b)=CJ a b:=by erw[AF]
@[simp] theorem ZFT(a b:U D):AF (.tup a) (.lst b)=O':=by erw[AF]
@[simp] theorem ZFu(a b:U D):AF (.lst a) (.tup b)=O':=by erw[AF]
@[simp] theorem ZFG(a:U D)(b:Int):AF (.tup a) (.int b)=O':=by erw[AF]
@[simp] theorem ZFD(a:U D)(b:Ae):AF (.tup a) (.str b)=O':=by erw[AF]
@[simp] theorem ZFF(a:U D):AF (.tup a) .non=O':=by erw[AF]
@[simp] theorem ZFL(a:U D)(b:Bool):AF (.tup a) (.bl b)=O':=by erw[AF]
@[simp] theorem ZFE(a:U D)(b:Int):AF (.int b) (.tup a)=O':=by erw[AF]
@[simp] theorem ZFI(a:U D)(b:Ae):AF (.str b) (.tup a)=O':=by erw[AF]
@[simp] theorem ZFX(a:U D):AF .non (.tup a)=O':=by erw[AF]
@[simp] theorem ZFS(a:U D)(b:Bool):AF (.bl b) (.tup a)=O':=by erw[AF]
@[simp] theorem ZFv(a:U D)(b:Int):AF (.lst a) (.int b)=O':=by erw[AF]
@[simp] theorem ZFU(a:U D)(b:Ae):AF (.lst a) (.str b)=O':=by erw[AF]
@[simp] theorem ZFR(a:U D):AF (.lst a) .non=O':=by erw[AF]
@[simp] theorem ZFW(a:U D)(b:Bool):AF (.lst a) (.bl b)=O':=by erw[AF]
@[simp] theorem ZFH(a:U D)(b:Int):AF (.int b) (.lst a)=O':=by erw[AF]
@[simp] theorem ZFN(a:U D)(b:Ae):AF (.str b) (.lst a)=O':=by erw[AF]
@[simp] theorem ZFK(a:U D):AF .non (.lst a)=O':=by erw[AF]
@[simp] theorem ZFm(a:U D)(b:Bool):AF (.bl b) (.lst a)=O':=by erw[AF]
@[simp] theorem ZEt:CJ [] []=J':=by erw[CJ]
@[simp] theorem ZEa(a b:D)(c bs:U D):CJ (a::c) (b::bs)=(AF a b&&CJ c bs):=by erw[CJ]
@[simp] theorem ZFj(b:D)(bs:U D):CJ [] (b::bs)=O':=by erw[CJ]
@[simp] theorem ZFf(b:D)(bs:U D):CJ (b::bs) []=O':=by erw[CJ]
@[simp] theorem vd:∀(a b:U Int),CJ (a.map D.int) (b.map D.int)=decide (a=b)
  |[],[]=>by simp
  |[],_::_=>by simp
  |_::_,[]=>by simp
  |x::a,y::b=>by simp[vd a b]
@[simp] theorem ZE0(n:Nat)(a:U Int):(a.map D.int).all (AW n)=J':=by
  rw[Ec];intro x b;obtain⟨i,_,rfl⟩:=Ba.mp b;cases n<;>rfl
@[simp] theorem ZFk(t n:String):LY t n=(t==n||(t=="bool"&&n=="int")):=rfl
@[simp] theorem ZD8:GP=["NoneType","bool","int","str","tuple","list"]:=rfl
@[simp] theorem Iv:ZS=12:=rfl
@[simp] theorem ZEM:Df.tysL []=Z []:=rfl
@[simp] theorem ZD9(n:String)(r:U D):Df.tysL (.ty n::r)=(Df.tysL r).map (n::·):=rfl
@[simp] theorem ZFl(ns:U Int):Hm (ns.map D.int)=Z ns:=YO ns
@[simp] theorem b3:∀(ns:U Bool),Ig (ns.map D.bl)=Z ns
  |[]=>rfl
  |n::ns=>by erw[Be,Ig,b3 ns];rfl
theorem Zw{c:Type}{b:D->VE->O VE}{e:AD}{ρ:VE}(G F:c->D):∀(xs:U c),(∀x∈xs,∃a,b (G x) ρ=Z a/\e a=Z (F x))->Z2 b (λ_=>Z J') e ρ (xs.map G)=Z (xs.map F)
 |[],_=>rfl
 |x::xs,h=>by
  obtain⟨a,d,f⟩:=h x Bj;erw[Be,Z2,d,f,Zd,B7,Zw G F xs λy g=>h y<|BG _ g]
theorem b4(lo:Int)(n:Nat):Ge lo n=(BB n).map λ(k:Nat)=>D.int (lo+(k:Int)):=rfl
@[simp] theorem Zx{a:Type}(l:U a)(h:l.length<=1000000):Zf (Z l)=Z l:=by
  have:l.length<=Ax:=BR h (by ext);simp[this]
theorem TN{a c:Type}(f:a->c)(xs:U a)(lo b:O Int):cutD (xs.map f) lo b=(cutD xs lo b).map f:=by simp_all [cutD]
theorem TQ{b:Type}(xs:U b)(k:Int)(h:0<=k):cutD xs J (Z k)=xs.take k.toNat:=by
 unfold cutD;rw[show HT.sIx xs.length 0 J=0 from rfl,show HT.sIx xs.length xs.length (Z k)=min k.toNat xs.length by erw[HT.sIx];split<;>lia,List.drop_zero,Nat.sub_zero];rcases Nat.le_total k.toNat xs.length with a|a
 ·rw[Nat.min_eq_left a]
 ·rw[Nat.min_eq_right a,List.take_length,Nv a]
theorem Qn{b:Type}(xs:U b)(k:Int)(h:0<=k):cutD xs (Z k) J=xs.drop k.toNat:=by
 unfold cutD;rw[show HT.sIx xs.length xs.length J=xs.length from rfl,show HT.sIx xs.length 0 (Z k)=min k.toNat xs.length by erw[HT.sIx];split<;>lia];rcases Nat.le_total k.toNat xs.length with a|a
 ·simp_all [Nat.min_eq_left,Nv,N2,Bc]
 ·rw[Nat.min_eq_right a,List.drop_length,List.drop_of_length_le a,List.take_nil]
theorem ve{c:Type}(xs:U c)(i j:Int)(d:0<=i)(e:0<=j):cutD xs (Z i) (Z j)=(xs.drop i.toNat).take (j.toNat-i.toNat):=by
 unfold cutD;rw[show HT.sIx xs.length 0 (Z i)=min i.toNat xs.length by erw[HT.sIx];split<;>lia,show HT.sIx xs.length xs.length (Z j)=min j.toNat xs.length by erw[HT.sIx];split<;>lia];rcases Nat.le_total i.toNat xs.length with a|a
 ·rw[Nat.min_eq_left a];rcases Nat.le_total j.toNat xs.length with b|b
  ·rw[Nat.min_eq_left b]
  ·rw[Nat.min_eq_right b,Nv<|N2 ▸ Bc _,Nv (by rw[N2];lia)]
 ·rw[Nat.min_eq_right a,List.drop_length,List.drop_of_length_le a,List.take_nil,List.take_nil]
theorem N3(j:Int)(a:0<=j)(h:j<1000000000):EQ [.int j]=Z ((BB j.toNat).map λ(k:Nat)=>D.int k):=by grind [Ge,EQ,LP]
theorem Mj(n:Nat)(h:n<1000000000):EQ [.int n]=Z ((BB n).map λ(k:Nat)=>D.int k):=by
 rw[N3 _ (JJ n)<|Int.lt_toNat.mp h,Iq]
theorem vf(i j:Int)(c:0<=i)(a:i<1000000000)(h:j<1000000000)(b : -1000000000<j):Ni [.int i,.int j]=Z ((BB (j-i).toNat).map λ(k:Nat)=>D.int (i+(k:Int))):=by
 erw[Ni];rw[LP #[by lia,by exact TR a,by exact Int.le_of_lt b,by exact TR h]];rfl
theorem vg(xs ys:U D)(h:xs.length+ys.length<=1000000):Zl (.lst xs) (.lst ys)=Z (.lst (xs++ys)):=by
 erw[Zl];rw[if_pos<|BR h (by ext)]
theorem TU(neg:Bool)(c:Nat)(z:Ae):GO neg (.str #[(T' [c])]) (.str z)=Z (.bl (if neg then !decide (c∈z.cps.toList)else decide (c∈z.cps.toList))):=by
 have h:=StrLaws.found_one z c;simp_all
@[simp] theorem HA(d:D):C3 (.val d)=d:=rfl
@[simp] theorem Gm(xs:U D)(b:Kd):C3 (.own xs b)=.lst xs b:=rfl
end L2
set_option backward.eqns.nonrecursive true
set_option tactic.hygienic true
namespace L2
open PySem PySem.Spec PyProof.Rows PySem.W
structure JL(Y:Cx)(es:List Expr)(h:IS->Option Ae):Prop where
 h:∀pos pins s I H φ S c,Inv Y pins I H s->Bb Y.K φ S I H->h S=Z c->wpAny (Ag Y.prog Y.w) Y.A (spliced (As pos (Az es Y.env))) (λ_ _=>False) (DS Y pins I H c) s
structure K5(Y:Cx)(b:List Av)(h:IS->Option Ae):Prop where
 h:∀pins s I H φ S c,Inv Y pins I H s->Bb Y.K φ S I H->h S=Z c->wpAny (Ag Y.prog Y.w) Y.A (execs b Y.env) (λ_ _=>False) (λe s'=>∃σ',DS Y pins σ' H c e s') s
@[simp] noncomputable def K6(a b:O Ae):O Ae:=match a with
  |some c=>Z c
  |none=>b
@[simp] noncomputable def TV(i:Nat)(o:O D)(h:IS->O Ae)(s:IS):O Ae:=o.bind λd=>h (s.1.set i (.val d),s.2)
@[simp] noncomputable def K7(o:O IV)(r:O Ae):O Ae:=o.bind λ_=>r
def Iw(K:Am)(g:IS->O (Bool×Gh)):TT:=λc H Q=>∃d s r,Bb K d s c H/\g s=Z r/\∀a b,Bb K a (s.1,r.2) c b->Go d s.2 H a r.2 b->Q r.1 b
@[simp] noncomputable def Fz(F:D->D->O D)(o:O (IV×Gh))(f:IS->O D)(s:IS):O (IV×Gh):=match o with
  |some (.val d,G)=>(f (s.1,G)).bind λa=>(F d a).map λb=>(.val b,G)
  |_=>J
@[simp] noncomputable def Gn(o:O (IV×Gh)):O (Bool×Gh):=match o with
  |some (.val (.bl b),G)=>Z (b,G)
  |_=>J
@[simp] noncomputable def N4(o:O (Bool×Gh)):O (Bool×Gh):=o.map λr=>(!r.1,r.2)
@[simp] noncomputable def Ml(t:O Bool)(o:O (Bool×Gh))(s:IS):O (Bool×Gh):=match t with
  |some J'=>o
  |some O'=>Z (O',s.2)
  |none=>J
@[simp] noncomputable def HB(o:O (Bool×Gh))(a c:IS->RI)(s:IS):RI:=match o with
  |some (b,G)=>if b=J' then a (s.1,G)else c (s.1,G)
  |none=>.fail
@[simp] def JM(c m:Ae)(p:O Nat)(h:O Ae)(s:IS):O Ae:=p.bind λn=>match s.2[n]? with
  |some cl=>if Dm c m cl=J' then h else J
  |none=>J
section
variable{e a b:Expr}{AB as bs:U Av}{h h1 h2:IS->O Ae}{g1 g2:IS->RI}{p:AC}{ga:IS->O (U IV)}{g:IS->O IV}{f:IS->O D}{t:IS->O Bool}{x c m:Ae}
theorem vh(z:GY Y bs h):K5 Y bs h:=#[λa s b H d S c e R q=>Cs (z.h a s b H d S c e R q) (λ_ _ z=>z) λ_ _ z=>#[b,z]]
theorem vi{i:Nat}{a:AC}(nx:Fy Y)(n:Y.N.Nodup)(o:JE Y e (tJ Y.K f))(z:K5 Y AB h)(p:Y.N[i]?=Z x:=by rfl)(r:Loc Y.env.scope x:=by first|exact .inl rfl|exact .inr rfl)(t:DE e (Z (.Name x a)) pos.line Y.env=Ay O':=by rfl)(w:Y.fn x=J'\/Y.env.scope.names.lookup x=Z .local:=by first|exact .inl rfl|exact .inr rfl|assumption):K5 Y (.Assign [.Name x a] e pos::AB) (λs=>TV i (f s) h s):=#[λb s y H k S c M R q=>by
 obtain⟨d,hd,q⟩:=BI.mp q;refine O2<|Cs (MS n p r o.h t w b s y H {nx:=λg l=>Aj H l/\Bb Y.K k (S.1.set i<|.val d,S.2) g l,rt:=λ_ _=>False} M #[k,S,d,R,hd,λv l sm A=>#[sm,(R.same sm).put i A]]) (λB C j=>?_) λe E z=>(nx e E z).elim;cases B with
 |next=>
  obtain⟨m,G,F,sm,L⟩:=j;exact Cs (z.h b C m G k _ c F L q) (λ_ _ z=>z) λ_ _ ⟨g,z⟩=>#[g,z.from sm]
 |ret u=>obtain⟨_,_,_,_,_,z⟩:=j;exact z.elim
 |brk=>obtain⟨_,_,_,z⟩:=j;exact z.elim
 |cont=>obtain⟨_,_,_,z⟩:=j;exact z.elim]
theorem vj(g:Fe Y e h1)(i:Fe Y e h2):Fe Y e (λs=>K6 (h1 s) (h2 s)):=#[λa s d H f S c k R q=>by
 cases b:h1 S with
 |some j=>rw[b]at q;cases q;exact g.h a s d H f S c k R b
 |none=>rw[b]at q;exact i.h a s d H f S c k R q]
theorem vm(z:Fe Y e h)(b:Az (e::es) Y.env=(O',An e Y.env)::Az es Y.env:=by exact ZI rfl):JL Y (e::es) h:=#[λpos a s d H f S c g R q=>by
 rw[b];show wpAny _ _ (spliced<|(O',An e Y.env)::As pos (Az es Y.env)) _ _ s
 exact Calls.spliced_cons<|Cs (z.h a s d H f S c g R q) (λ_ _ z=>z.elim) λ_ _ z=>z]
theorem vn(nx:Fy Y)(j:JE Y e (Qc Y.K g))(z:JL Y es h)(k:Az (e::es) Y.env=(O',An e Y.env)::Az es Y.env:=by exact ZI rfl):JL Y (e::es) (λs=>K7 (g s) (h s)):=#[λpos a s f H i S c p R q=>by
 obtain⟨d,hd,q⟩:=BI.mp q;rw[k];show wpAny _ _ (spliced<|(O',An e Y.env)::As pos (Az es Y.env)) _ _ s
 refine Calls.spliced_cons<|Cs (j.h a s f H (λv b=>Aj H b) p #[i,S,d,R,hd,λv b sm _=>sm]) (λu l ⟨x,b,m,o,sm⟩=>?_) λe n z=>(nx e n z).elim;exact Cs (z.h pos a l f b i S c m (R.same sm) q) (λ_ _ z=>z.elim) λ_ _ z=>z.from sm]
theorem vo{fn:Ac}(f:Gl Y x)(g:Y.mg x=Z (.ref fn))(i:keepIn Y.K (.ref fn)=J')(z:JL Y (e::es) h)(hz:CA Y x e es pos:=by exact Ek):Fe Y (.Call (.Name x p) (e::es) [] pos) h:=#[λa s j H k S c b R q=>Kp<|Ki b f g (callWith_K (h₀:=Y.base) b.ok.mod.kin i (Cs (z.h pos a s j H k S c b R q) (λ_ _ z=>z.elim) λ_ _ z=>z) hz.s hz.p) hz.d]
theorem vq{F:U IV->Gh->O Ae}{k:Nat}{fn:Ac}{fd:B3}{y:U Ae}(nx:Fy Y)(G:AO Y.prog Y.w Y.K Y.mg Y.base (Ip Y.prog Y.w) k fn fd y (Ff Y.K F))(T:AE k Y.A)(W:Gl Y x)(hm:Y.mg x=Z (.ref fn))(hk:keepIn Y.K (.ref fn)=J')(hb:Binds Y.K fd y []) (ha:JA Y (e::es) (EV Y.K ga)) (hz:CA Y x e es pos:=by exact Ek):Fe Y (.Call (.Name x p) (e::es) [] pos) (λs=>(ga s).bind λxs=>F xs s.2):=#[λb s I H l S c X R q=>by
 obtain⟨xs,B,hF⟩:=BI.mp q;refine Kp<|Ki X W hm ?_ hz.d;refine callWith_K (h₀:=Y.base) X.ok.mod.kin hk (Cs (ha.h pos b s I H (λi E=>Aj H E/\Paired (AG Y.K l S.2.length (LV l S.2) E) xs i) X #[l,S,xs,R,B,λi E sm h1=>#[sm,h1]]) (λm N ⟨i,n,o,r,sm,h1⟩=>#[o.kIn,?_]) λe P z=>(nx e P z).elim) hz.s hz.p;have sp:Ff Y.K F i n (λ_ _=>False) (λv _ t=>∃D,v=.ref D/\Bt Y.K BM c=Z (Z<|.ref D)/\Aj n t):=#[l,S.2,xs,c,R.g.same sm,h1,hF,λD t L M=>#[D,rfl,L,M]];have hl:(m++[]).length=y.length:=by rw[DO,<- r.length];exact G.len _ _ _ _ sp
 have Q:=hb N m o.kIn hl;rw[DO]at Q;refine wpAny_call<|Ko (G.run Y.A Y.stack N n ⟨m,[]⟩ m i _ _ T o.env0 Q r sp) λr P j=>?_;cases r with
 |error v=>
  obtain⟨a,C,t,L,os,ba,fl,D,M,e3,e4⟩:=j;cases M;exact#[C,e3,a,n,t,N,L,o,sm,os,ba,fl]
 |ok f=>
  cases f with
  |ret u=>obtain⟨_,_,_,_,_,_,_,z⟩:=j;exact z.elim
  |next=>exact j.elim
  |brk=>exact j.elim
  |cont=>exact j.elim]
theorem vr{fn:Ac}(nx:Fy Y)(p:Bt Y.K BM c=Z (Z (.ref C)))(cl:Ei Y.K C)(i:HM Y.K C m fn)(r:JE Y o (DT Y.K gp))(z:JL Y (e::es) h) (d:Az (e::es) Y.env=(O',An e Y.env)::Az es Y.env:=by exact ZI rfl) (f:(As pos (Az es Y.env)).any (·.1)=O':=by rfl) (t:ME Y o m (e::es) pl apos pos:=by rfl):Fe Y (.Call (.Attribute o m apos) (e::es) [] pos) (λs=>JM c m (gp s) (h s) s):=#[λa s j H b S w W R q=>by
 obtain⟨n,x,q⟩:=BI.mp q;split at q
 ·next cel A=>
  obtain⟨B,q⟩:=ZV q;obtain⟨dx,fs,E,G⟩:=TF p R.g A B;refine Si (pl:=pl) (Cs (r.h a s j H (λv l=>v=.ref (b n)/\l=H) W #[b,S,n,R,x,λ_=>#[rfl,rfl]]) (λu L M=>?_) λe N z=>(nx e N z).elim) t;obtain⟨y,F,k,Q,T,P⟩:=M;subst T P;obtain rfl:u=B8 (b n):=Q;exact Pc k (.inl E) cl i G<|Pf (first:=[.ref<|b n]) (h₀:=Y.base) W.ok.mod.kin i.kp (Cs (z.h pos a L j F b S w k R q) (λ_ _ z=>z.elim) λ_ _ z=>z) d f
 ·cases q]
theorem vt(z:Fe Y e h)(b:DE e J pos.line Y.env=Ay O':=by rfl):Me Y (.Expr e pos) h:=#[λa s d H f S c g R q=>wpAny_Expr_any (Cs (z.h a s d H f S c g R q) (λ_ _ z=>z.elim) λ_ _ z=>z) g.quiet b]
theorem vu(nx:Fy Y)(o:JT Y a (N0 Y.K t))(p:GY Y as h1)(r:GY Y bs h2):GY Y (.If a as bs pos::AB) (λs=>EF (t s) (h1 s) (h2 s)):=#[λb s c H f S n x R q=>by
 cases g:t S with|none=>rw[g]at q;cases q|some k=>
  rw[g]at q;refine O2<|wpAny_If<|Cs (o.h b s c H (λu i=>u=k/\Aj H i) x #[f,S,k,R,g,λi sm=>#[rfl,sm]]) (λd j ⟨l,m,v,sm⟩=>?_) λe w z=>(nx e w z).elim;subst v;cases d with
  |true=>exact Cs (p.h b j c l f S n m (R.same sm) q) (λ_ _ z=>z.elim) λ_ _ z=>z.from sm
  |false=>exact Cs (r.h b j c l f S n m (R.same sm) q) (λ_ _ z=>z.elim) λ_ _ z=>z.from sm]
theorem b5{r:R2}{F:D->D->O D}(o:Dj Y.K r F){Q:VK}(t:Ci Y.K (λs=>Fz F (gx s) f s) I H Q):Kl r (Ci Y.K gx) (tJ Y.K f) I H Q:=by
 obtain⟨u,s,r,R,e,q⟩:=t
 unfold Fz at e
 dsimp only at e
 split at e
 ·next d G w=>
  obtain⟨n,x,e⟩:=BI.mp e
  obtain⟨b,y,rfl⟩:=BN.mp e
  exact#[u,s,_,R,w,λc z L j k l=>#[c,(s.1,G),n,j,x,λA B sm m=>o (LV c G) B z A d n b Q (λa h=>(j.g.same sm).nh h) (Ar.same k sm).p m.p y λv C i E=>q c v C (j.same (sm.trans i)) E (l.trans (Go.same (sm.trans i)))]]
 ·cases e
theorem vz{op:CmpOp}{r:R2}{F:D->D->O D}(c:BU Y (Dd op) r)(d:Dj Y.K r F)(e:JE Y a (Ci Y.K gx))(g:JE Y b (tJ Y.K f))(i:F7 op b=O'):JE Y (.Compare a [op] [b] pos) (Ci Y.K λs=>Fz F (gx s) f s):=#[(Xn c e.h g.h i).mono λ_ _ _ z=>b5 d z]
theorem vA(c:Y.A.units+64<Aq)(d:JE Y a (Ci Y.K gx))(e:JE Y b (tJ Y.K f)):JE Y (.Compare a [.Eq] [b] pos) (Ci Y.K λs=>Fz BK (gx s) f s):=vz (SN c) SQ d e<|F6 _ (by ext) (by ext)
theorem b6{Q:Bool->Hp->Prop}(z:Iw Y.K (λs=>Gn (gx s)) I H Q):tB (Ci Y.K gx) I H Q:=by
 obtain⟨c,s,r,R,e,q⟩:=z
 unfold Gn at e
 dsimp only at e
 split at e
 ·next b G d=>cases e;exact#[c,s,_,R,d,λa v f g h go=>#[b,h,q a f g go]]
 ·cases e
theorem vB{op:CmpOp}{r:R2}{F:D->D->O D}(c:BU Y (Dd op) r)(d:Dj Y.K r F)(e:JE Y a (Ci Y.K gx))(g:JE Y b (tJ Y.K f))(i:F7 op b=O'):JT Y (.Compare a [op] [b] pos) (Iw Y.K λs=>Gn (Fz F (gx s) f s)):=#[(Se c e.h g.h i).mono λj H Q z=>b5 d<|b6 z]
theorem vD(b:JE Y e (Ci Y.K gx))(c:∀a,isTrue e Y.env a=(do let v <- a;standAt e.pos;Dw [v] (truthy v)):=by intro _;rfl):JT Y e (Iw Y.K λs=>Gn (gx s)):=#[(lg b.h c).mono λd H Q z=>b6 z]
theorem vE(h:JT Y e (Iw Y.K gb)):JT Y (.UnaryOp .Not e pos) (Iw Y.K λs=>N4 (gb s)):=#[(W7 h.h).mono λc H Q z=>by
 obtain⟨a,s,r,R,e,q⟩:=z;obtain⟨r,b,rfl⟩:=BN.mp e;exact#[a,s,r,R,b,q]]
theorem vF(h1:JT Y a (N0 Y.K t))(h2:JT Y b (Iw Y.K gb)):JT Y (.BoolOp .And [a,b] pos) (Iw Y.K λs=>Ml (t s) (gb s) s):=#[(W6 h1.h<|W5 h2.h).pt.mono λk H Q z=>by
 obtain⟨c,s,r,R,e,q⟩:=z;unfold Ml at e;dsimp only at e;split at e
 ·next d=>exact#[c,s,J',R,d,λg sm=>Ji #[c,s,r,R.same sm,e,λf i j go=>q f i j<|(Go.same sm).trans go]]
 ·next d=>cases e;exact#[c,s,O',R,d,λg sm=>Jj<|q c g (R.same sm)<|Go.same sm]
 ·cases e]
theorem vG(d:JT Y a (Iw Y.K gb))(e:JB Y as (tK Y.K g1))(f:JB Y bs (tK Y.K g2)):JS Y (.If a as bs pos) (tK Y.K λs=>HB (gb s) g1 g2 s):=#[(O4 d.h e.h f.h).mono λD l H g=>by
 obtain⟨i,s,R,q⟩:=g
 unfold HB at q
 dsimp only at q
 split at q
 ·next k m j=>
  refine#[i,s,_,R,j,λb n c go=>?_]
  cases k with
  |true=>exact Ji #[b,_,c,Cy.from go q]
  |false=>exact Jj #[b,_,c,Cy.from go q]
 ·exact q.elim]
end
theorem b9{P:AJ}{w:Ai}{K:Am}{mg:Bi}{base:Ak}{nm a:Ae}{st:Av}{fn:Ac}{fd:B3}{N d:U Ae}{k:Nat}{h:IS->O Ae}(F:HV K nm a st fn fd)(S:Z5 N d (Ze st)) (r:∀(b:Aa) (A:Ah) (outer:U Env) (s:Ab) (H:Hp) (E:XK),AE k (A.deeper (A0 a (Ze st) s.heap.objs.size fn b))->K5 (C2 Bd P w K mg base N a (Ze st) fn b A outer s H E).nox (ZH st) h):AO P w K mg base (Ip P w) (k+1) fn fd d (Ff K (Hy d.length N.length h)):=by
 obtain⟨oc,od,kV,u,pm,an,b,ct,x,rfl,y,j⟩:=F.ex;have len:∀e H Q E,Ff K (Hy d.length N.length h) e H Q E->e.length=d.length:=λe H Q E z=>by
  obtain⟨l,G,p,c,R,m,i,q⟩:=z;grind [Hy,Ht]
 refine XF y j S len λA outer s H e Q E B z=>?_;obtain⟨l,G,p,c,R,m,i,q⟩:=z;obtain⟨C,i⟩:=ZV i;have W:FM N e=e.map Z++CV (N.length-d.length) J:=by unfold FM;rw[<- Ht m,C]
 refine#[λD n f=>D={nx:=λ_ o=>Q .non o,rt:=Q}/\f=H/\Bb K l (p++CV (N.length-d.length) .no,G) n H,λg L n f D zB M=>?_,rfl,rfl,W ▸ bR R m _];obtain⟨_,rfl,X⟩:=M;refine Cs ((r b A outer s f E B).h g L n f l _ c (zB.wish _) X i) (λ_ _ z=>z.elim) λv T z=>?_;obtain⟨zA,D',e1,t⟩:=z;exact sj (Y:=(C2 Bd P w K mg base N a (Ze st) fn b A outer s f E).nox) rfl rfl rfl (Aj.refl f) t λo e2=>q D' o e1 e2
def OX(P:AJ)(w:Ai)(K:Am)(mg:Bi)(base:Ak)(k:Nat)(nm:Ae)(sp:Sp):Prop:=∃st a fn fd,DI K mg nm st a fn fd/\AO P w K mg base (Ip P w) k fn fd a sp
section
variable{P:AJ}{w:Ai}{K:Am}{mg:Bi}{base:Ak}{nm qual:Ae}{st:Av}{k:Nat}{hx:IS->O Ae}(N:U Ae)
theorem TW(D:DX K mg (nm,st,ps)) (h:∀(fn:Ac) (g:Aa) (A:Ah) (outer:U Env) (s:Ab) (H:Hp) (E:XK),XI P w K mg base (C2 Bd P w K mg base N nm (Ze st) fn g A outer s H E).nox N (Ze st)->AE k (A.deeper (A0 nm (Ze st) s.heap.objs.size fn g))->K5 (C2 Bd P w K mg base N nm (Ze st) fn g A outer s H E).nox (ZH st) hx) (S:Z5 N ps (Ze st):=by exact KW):OX P w K mg base (k+1) nm (Ff K (Hy ps.length N.length hx)):=let⟨fn,fd,D⟩:=D
 #[st,ps,fn,fd,D,b9 D.F S<|λa b c d e f r=>h fn a b c d e f #[rfl,rfl,rfl,rfl,rfl,rfl,rfl,S.nd] r]
theorem ce(D:MX K C (nm,qual,st,ps)) (h:∀(fn:Ac) (g:Aa) (A:Ah) (outer:U Env) (s:Ab) (H:Hp) (E:XK),XI P w K mg base (C2 Bd P w K mg base N qual (Ze st) fn g A outer s H E).nox N (Ze st)->AE k (A.deeper (A0 qual (Ze st) s.heap.objs.size fn g))->K5 (C2 Bd P w K mg base N qual (Ze st) fn g A outer s H E).nox (ZH st) hx) (S:Z5 N ps (Ze st):=by exact KW):OM P w K mg base C (Ip P w) (k+1) nm (Ff K (Hy ps.length N.length hx)):=let⟨fn,fd,D⟩:=D
 #[qual,st,ps,fn,fd,D,b9 D.F S<|λa b c d e f r=>h fn a b c d e f #[rfl,rfl,rfl,rfl,rfl,rfl,rfl,S.nd] r]
end
section
variable{P:AJ}{w:Ai}{K:Am}{mg:Bi}{base:Ak}{N:U Ae}{k n:Nat}{c m x:Ae}{cx:DF}{sp:Sp}{e:Expr}{ga:IS->O (U IV)}{hx:IS->O Ae}{p:AC}(h:XI P w K mg base X N sc)(r:AE n X.A)
include h
include r in
theorem TX(nx:Fy X)(G:OX P w K mg base k x (Ff K FX))(f:K=X.K)(a:JA X (e::es) (EV X.K ga))(c:k<=n:=by ext)(d:Gl X x:=by rfl)(hz:CA X x e es pos:=by exact Ek):Fe X (.Call (.Name x p) (e::es) [] pos) (λs=>(ga s).bind λxs=>FX xs s.2):=by
 obtain⟨rfl,rfl,rfl,rfl,rfl,_,_,_⟩:=h;obtain⟨_,_,_,_,D,G⟩:=G;exact vq nx G (r.mono c) d D.m D.F.kp D.b a hz
theorem TY(G:OX P w K mg base k x sp)(b:K=X.K)(z:JL X (e::es) hx)(a:Gl X x:=by rfl)(hz:CA X x e es pos:=by exact Ek):Fe X (.Call (.Name x p) (e::es) [] pos) hx:=by
 obtain⟨rfl,rfl,rfl,rfl,rfl,_,_,_⟩:=h;obtain⟨_,_,_,_,D,G⟩:=G;exact vo a D.m D.F.kp z hz
theorem vH(cb:CI K mg c C)(nx:Fy X)(G:OM P w K mg base C cx k m sp)(g:K=X.K)(d:JE X o (DT X.K gp))(z:JL X (e::es) hx) (a:Az (e::es) X.env=(O',An e X.env)::Az es X.env:=by exact ZI rfl) (b:(As pos (Az es X.env)).any (·.1)=O':=by rfl) (f:ME X o m (e::es) pl apos pos:=by rfl):Fe X (.Call (.Attribute o m apos) (e::es) [] pos) (λs=>JM c m (gp s) (hx s) s):=by
 obtain⟨rfl,rfl,rfl,rfl,rfl,_,_,_⟩:=h;obtain⟨_,_,_,_,_,D,G⟩:=G;exact vr nx cb.cof cb.cl D.M d z a b f
end
@[simp] noncomputable def HC:Cl->O (U IV)
  |.dat .l a=>Z (a.map .val)
  |.mix .l a=>Z a
  |_=>J
@[simp] noncomputable def setIt(c:Cl)(j:Nat)(x:IV):Cl:=match c,x with
  |.dat .l a,.val d=>.dat .l (a.set j d)
  |.dat .l a,x=>.mix .l ((a.map .val).set j x)
  |.mix .l a,x=>.mix .l (a.set j x)
  |c,_=>c
@[simp] def Gp(p:IS->O Nat)(fi:IS->O D)(o:O (IV×Gh))(s:IS):RI:=match o with
  |some r=>match p (s.1,r.2),fi (s.1,r.2)with
   |some n,Z (.int k)=>match r.2[n]? with
    |some c=>match HC c with
     |some a=>match CG a.length k with
      |some j=>.next (s.1,r.2.set n (setIt c j r.1))
      |none=>.fail
     |none=>.fail
    |none=>.fail
   |_,_=>.fail
  |none=>.fail
@[simp] def N5(s:IS)(p:O Nat)(o:O D):O Nat:=match p,o with
  |some n,Z (.int k)=>match s.2[n]? with
   |some (.mix .l a)=>match atI a k with
    |some (.cel j)=>Z j
    |_=>J
   |_=>J
  |_,_=>J
@[simp] def Mm:U IV->O (U D)
  |[]=>Z []
  |.val d::r=>Zd (Z d) (Mm r)
  |_=>J
@[simp] def Qo(n j:Nat)(G:Gh):O Gh:=match G[n]? with
  |some (.mix .l a)=>match a[j]? with
   |some (.cel m)=>match G[m]? with
    |some (.dat k b)=>if m=n then J else(Mm (a.set j (.val (.lst b k)))).map λc=>(G.set m .dead).set n (.dat .l c)
    |_=>J
   |_=>J
  |_=>J
@[simp] def Qp(fn a:IS->O Nat)(g:IS->RI)(s:IS):RI:=match fn s,a s with
  |some n,Z j=>match Qo n j s.2 with
   |some b=>g (s.1,b)
   |none=>.fail
  |_,_=>.fail
section
variable{K:Am}{L:Nat}{N:Fb}{G:Gh}
theorem cf:∀{xs:U D}{vs:U V},Ad K N H xs vs->Paired (AG K φ L N H) (xs.map IV.val) vs
 |[],_,h=>by erw[Ad]at h;subst h;exact .nil
 |x::xs,_,h=>by erw[Ad]at h;obtain⟨v,r,rfl,q,t⟩:=h;exact .cons q<|cf t
theorem N6{x:IV}{v:V}:∀{xs:U IV}{vs:U V}(j:Nat),Paired (AG K φ L N H) xs vs->AG K φ L N H x v->Paired (AG K φ L N H) (xs.set j x) (vs.set j v)
 |_,_,_,.nil,_=>.nil
 |_,_,0,.cons _ t,q=>.cons q t
 |_,_,j+1,.cons h t,q=>.cons h<|N6 j t q
theorem cg:∀{xs:U IV}{a:U D}{vs:U V},Mm xs=Z a->Paired (AG K φ L N H) xs vs->Ad K N H a vs
 |[],_,_,e,.nil=>by cases e;exact Ad.nil
 |.val d::r,_,_,e,.cons h t=>by
  obtain⟨x,y,b,c,rfl⟩:=Hi e;cases b;exact Ad.cons h<|cg c t
 |.no::_,_,_,e,_=>by cases e
 |.cel _::_,_,_,e,_=>by cases e
 |.exc _::_,_,_,e,_=>by cases e
theorem TZ{x:IV}:∀{xs:U IV}{vs:U V}{j:Nat},Paired (AG K φ L N H) xs vs->xs[j]?=Z x->∃v,vs[j]?=Z v/\AG K φ L N H x v
 |_,_,0,.cons h _,e=>by cases e;exact#[_,rfl,h]
 |_,_,j+1,.cons _ t,e=>by simpa using TZ (j:=j) t (by simpa using e)
theorem A7.its(R:A7 K φ G H){n:Nat}{c:Cl}{xs:U IV}(e:G[n]?=Z c)(h:HC c=Z xs):∃vs,H (φ n)=Z (.lst vs)/\Paired (AG K φ G.length (LV φ G) H) xs vs/\c.kd=Z .l:=by
 have q:=R.cell n c e;unfold HC at h;split at h
 ·cases h;obtain⟨vs,a,b⟩:=q;exact#[vs,a,cf b,rfl]
 ·cases h;obtain⟨vs,a,b⟩:=q;exact#[vs,a,b,rfl]
 ·cases h
theorem A7.setIt(R:A7 K φ G H){n j:Nat}{c:Cl}{xs:U IV}{vs:U V}{x:IV}{v:V}(e:G[n]?=Z c)(h:HC c=Z xs)(w:H (φ n)=Z (.lst vs))(o:Paired (AG K φ G.length (LV φ G) H) xs vs)(k:AG K φ G.length (LV φ G) H x v):
  A7 K φ (G.set n (setIt c j x)) (AK H (φ n) (.lst (vs.set j v)))/\Go φ G H φ (G.set n (setIt c j x)) (AK H (φ n) (.lst (vs.set j v))):=by
 unfold HC at h
 split at h
 ·next b=>
  cases h
  obtain⟨p,t,y⟩:=R.cell n _ e
  rw[w]at t
  have z:vs=p:=by simpa[CO]using t
  subst z
  cases x with
  |no=>exact k.elim
  |val d=>exact R.chg (c':=.dat .l (b.set j d)) (u:=CO K .l (φ n) (b.set j d) (vs.set j v)) e rfl rfl λL N s a f g i=>by subst g i;exact#[_,f,Ad.set j (Ad.step a.st _ _ y) (Ar.step a.st _ _ k)]
  |exc m=>exact R.chg (c':=.mix .l ((b.map .val).set j (.exc m))) (u:=CO K .l (φ n) (((b.map IV.val).set j (.exc m)).map un) (vs.set j v)) e rfl rfl λL N s a f g i=>by subst g i;exact#[_,f,N6 j (Paired.mapP o λ_ _ q=>AG.go a q) (AG.go a k)]
  |cel m=>exact R.chg (c':=.mix .l ((b.map .val).set j (.cel m))) (u:=CO K .l (φ n) (((b.map IV.val).set j (.cel m)).map un) (vs.set j v)) e rfl rfl λL N s a f g i=>by subst g i;exact#[_,f,N6 j (Paired.mapP o λ_ _ q=>AG.go a q) (AG.go a k)]
 ·next b=>
  cases h
  have A:L2.setIt (.mix .l xs) j x=.mix .l (xs.set j x):=by cases x<;>rfl
  rw[A]
  exact R.chg (c':=.mix .l (xs.set j x)) (u:=CO K .l (φ n) ((xs.set j x).map un) (vs.set j v)) e rfl rfl λL N s a f g i=>by subst g i;exact#[_,f,N6 j (Paired.mapP o λ_ _ q=>AG.go a q) (AG.go a k)]
 ·cases h
theorem A7.frz(R:A7 K φ G H){n:Nat}(h:Qo n j G=Z G'):A7 K φ G' H/\Go φ G H φ G' H:=by
 unfold Qo at h
 split at h
 ·next z A=>
  split at h
  ·next m F=>
   split at h
   ·next k L em=>
    split at h
    ·cases h
    ·next B=>
     obtain⟨d,hd,rfl⟩:=BN.mp h
     have hn:n<G.length:=(BC.mp A).1
     have hm:m<G.length:=(BC.mp em).1
     have at_:∀{i:Nat} {c:Cl},((G.set m .dead).set n (.dat .l d))[i]?=Z c->(i=n/\c=.dat .l d)\/(i=m/\c=.dead)\/(i≠m/\i≠n/\G[i]?=Z c):=λ{i c} e=>by
      grind
     have b:∀{i:Nat} {c:Cl} {y:Kd},((G.set m .dead).set n (.dat .l d))[i]?=Z c->c.kd=Z y->i≠m/\∃p t,G[i]?=Z p/\p.kd=Z t:=λ{i c y} e u=>by
      rcases at_ e with⟨rfl,rfl⟩|⟨rfl,rfl⟩|⟨f,r,C⟩
      ·exact#[Bv B,_,_,A,rfl]
      ·cases u
      ·exact#[f,_,_,C,u]
     have sub:∀a,LV φ ((G.set m .dead).set n (.dat .l d)) a->LV φ G a:=λa ⟨i,c,y,e,u,w⟩=>by
      obtain⟨_,p,t,x,s⟩:=b e u
      exact#[i,p,t,x,s,w]
     have M:¬ LV φ ((G.set m .dead).set n (.dat .l d)) (φ m):=λ⟨i,c,y,e,u,w⟩=>by
      obtain⟨ne,p,t,x,s⟩:=b e u
      exact ne (R.inj i m p _ t k x em s rfl w)
     have go:Go φ G H φ ((G.set m .dead).set n (.dat .l d)) H:=#[λ_ _=>rfl,by simp,λa o e _=>e,λa E=>.inl (sub a E)]
     refine#[#[λi c e=>?_,λi i2 c p k1 t e x f r w=>?_],go]
     ·rcases at_ e with⟨rfl,rfl⟩|⟨rfl,rfl⟩|⟨f,r,C⟩
      ·obtain⟨g,N,W⟩:=R.cell _ _ A
       obtain⟨P,Q,T⟩:=R.cell _ _ em
       obtain⟨v,hv,hl,rfl⟩:=TZ W F
       have q3:=Paired.mapP W λ_ _ q=>AG.go go q
       have:Paired (AG K φ ((G.set m .dead).set i (.dat .l d)).length (LV φ ((G.set m .dead).set i (.dat .l d))) H) (z.set j (.val (.lst L k))) (g.set j (.ref (φ m))):=N6 j q3 (by
        erw[AG,Ar]
        exact#[φ m,P,rfl,.of M Q,T.nw λa E=>.inl (sub a E)])
       have S:g.set j (.ref (φ m))=g:=by
        apply Jo
        grind
       rw[S]at this
       exact#[g,N,cg hd this]
      ·trivial
      ·have q:=R.cell i c C
       cases c with
       |dead=>trivial
       |dat k z=>obtain⟨g,f,r⟩:=q;exact#[g,f,Ad.step go.st _ _ r]
       |mix k z=>obtain⟨g,f,r⟩:=q;exact#[g,f,Paired.mapP r λ_ _ q=>AG.go go q]
     ·obtain⟨_,Y,l1,f1,g1⟩:=b e f
      obtain⟨_,d2,l2,f2,g2⟩:=b x r
      exact R.inj i i2 Y d2 l1 l2 f1 f2 g1 g2 w
   ·cases h
  ·cases h
 ·cases h
end
section
variable{e ei:Expr}{tpos:AC}{b:U Av}{g:IS->RI}
theorem vI(fn c:IS->O Nat)(h:JB X b (tK X.K g)):JB X b (tK X.K λs=>Qp fn c g s):=#[λa st d H D j e=>by
 obtain⟨f,s,R,q⟩:=e;unfold Qp at q;dsimp only at q;split at q
 ·split at q
  ·next i=>
   obtain⟨R2,go⟩:=R.g.frz i;exact h.h a st d H D j #[f,_,R.go R2 go,Cy.from go q]
  ·exact q.elim
 ·exact q.elim]
theorem vJ(z:JE X o (DT X.K gp))(A:JE X ei (tJ X.K gi))(B:JE X e (Ci X.K gx))
  (C:∀v,assign (.Subscript o ei tpos) X.env v=(do
   let b <- Dw [v] (An o X.env)
   let f <- Dw [v,b] (An ei X.env)
   standAt tpos
   Dw [v,b,f] (setItem b f v)
   release [v,b,f] []):=by intro _;rfl)
  (E:swapsWithSole [.Subscript o ei tpos] e pos.line X.env=Ay O':=by rfl) (d:swappedStores [.Subscript o ei tpos] e X.env=Ay J:=by rfl)
  (G:(FG [.Subscript o ei tpos] X.env).map (·.2)=[assign (.Subscript o ei tpos) X.env]:=by rfl):
  JS X (.Assign [.Subscript o ei tpos] e pos) (tK X.K λs=>Gp gp gi (gx s) s):=#[(O7 B.h (O6 z.h A.h XY C) E d G).mono λD' W H F=>by
 obtain⟨L,s,R,q⟩:=F
 unfold Gp at q
 dsimp only at q
 split at q
 ·next r M=>
  refine#[L,s,r,R,M,λa v H1 i N l=>?_]
  split at q
  ·next n k P Q=>
   refine#[a,(s.1,r.2),n,i,P,λ_=>#[a,(s.1,r.2),.int k,i,Q,λw H2 m d=>?_]]
   erw[Ar]at d
   subst d
   split at q
   ·next c p=>
    split at q
    ·next xs t=>
     split at q
     ·next j T=>
      have R2:=i.same m
      obtain⟨S,u,x,_⟩:=R2.g.its p t
      obtain⟨Y,g3⟩:=R2.g.setIt (j:=j) p t u x (AG.go (Go.same m) N)
      have y:=(l.trans (Go.same m)).trans g3
      exact#[a n,S,k,j,rfl,rfl,u,by rw[<- Ht x];exact T,q a W _ (R.go Y y) y]
     ·exact q.elim
    ·exact q.elim
   ·exact q.elim
  ·exact q.elim
 ·exact q.elim]
@[simp] noncomputable def K8(s:IS)(i:Nat):O D:=match s.1[i]? with
  |some (.val d)=>Z d
  |_=>J
theorem vK{i:Nat}{x:Ae}{a:AC}(l:JE X o (DT X.K gp))(p:NV X i x:=by exact EM)(r:LA (.Name x a):=by exact λ_ _=>rfl):JE X (.Subscript o (.Name x a) pos) (DT X.K λs=>N5 s (gp s) (K8 s i)):=#[(XQ Fp l.h (Ga p) r).mono λM H Q u=>by
 obtain⟨d,s,n,R,e,q⟩:=u
 dsimp only at e
 unfold N5 at e
 split at e
 ·next m k w b=>
  split at e
  ·next N y=>
   split at e
   ·next j A=>
    cases e
    refine#[d,s,m,R,w,λ_=>?_]
    unfold K8 at b
    split at b
    ·next B=>
     cases b
     rcases R.slot i _ B with z|⟨v,C,hd⟩
     ·cases z
     ·erw[AG,Ar]at hd
      subst hd
      refine#[.int k,ZN C,?_]
      obtain⟨E,G,f⟩:=R.g.cell m _ y
      obtain⟨t,P,F⟩:=BI.mp A
      obtain⟨v,c,L,rfl⟩:=TZ f F
      exact#[d m,E,k,_,rfl,rfl,.inl (.inl G),by unfold atI;rw[<- Ht f,P];exact c,q L]
    ·cases b
   ·cases e
  ·cases e
 ·cases e]
end
section
variable{K:Am}{M:Fb}{a b:Expr}{f g:AD}
theorem vL:BU X (Dd .Is) (λx y H Q=>∃j,y=.bl j/\((∃i,x=.bl i/\Q (.bl (decide (i=j))) H)\/((∃a,x=.ref a)/\Q (.bl O') H))):=by
 rintro b s e H x y v u Q f c d ⟨j,rfl,⟨i,rfl,q⟩|⟨⟨a,rfl⟩,q⟩⟩
 ·cases c;cases d;cases i<;>cases j<;>exact wpAny_of_eq (by rfl) #[.bl<|decide<|_=_,H,f,rfl,q]
 ·cases c;cases d;cases j<;>exact wpAny_of_eq (by rfl) #[.bl O',H,f,rfl,q]
noncomputable def GZ:D->D->O D
 |.bl i,.bl j=>Z (.bl (decide (i=j)))
 |.tup _,.bl _=>Z (.bl O')
 |_,_=>J
@[simp] theorem ZFp(i j:Bool):GZ (.bl i) (.bl j)=Z (.bl (decide (i=j))):=rfl
@[simp] theorem ZFJ(xs:U D)(j:Bool):GZ (.tup xs) (.bl j)=Z (.bl O'):=rfl
theorem vM:Dj K (λx y H Q=>∃j,y=.bl j/\((∃i,x=.bl i/\Q (.bl (decide (i=j))) H)\/((∃a,x=.ref a)/\Q (.bl O') H))) GZ:=by
 intro N H x y f g d Q h b c e q;unfold GZ at e;split at e
 ·cases e;exact#[_,c.bl,.inl #[_,b.bl,q _ H (Aj.refl H) FP]]
 ·cases e;obtain⟨a,_,rfl,_⟩:=b.tup;exact#[_,c.bl,.inr #[#[a,rfl],q _ H (Aj.refl H) FP]]
 ·cases e
theorem vN(c:JE X a (tP K M H0 f))(d:JE X b (tP K M H0 g)):JT X (.Compare a [.Is] [b] pos) (BH K M H0 λρ=>AL (Za GZ f g ρ)):=#[H9 vL vM c.h d.h<|F6 _ (by ext) (by ext)]
end
section
variable{K:Am}{Q:VK}{m i:Nat}{D':Ends}
theorem vO(h:NZ fl K (jG m ff) I H Q):∃M H0,EO fl K M H0 ff I H Q:=by
 obtain⟨o,s,p,R,e,q⟩:=h;obtain⟨r,c,e⟩:=BI.mp e;split at e
 ·next d=>cases e;exact#[_,_,_,_,R.vw,c,λa f i sm j k l=>q a f i sm j k<|Ad.up R.g sm _ _ d<|l.nw λb n=>.inl<|n.imp .inl id]
 ·cases e
theorem vP(h:Ci K (λs=>xF fl (gf s) s) I H Q):NZ fl K gf I H Q:=by
 obtain⟨c,s,r,R,e,q⟩:=h;obtain⟨l,d,rfl⟩:=BN.mp e;refine#[c,s,l,R,d,λa f i sm j k m=>q c _ i (R.same sm) ?_<|Go.same sm];erw[AG,Ar];exact⟨a,f,rfl,.of (λz=>R.g.nh z j) k,m.nw λb n=>.inl<|.inl n⟩
theorem vQ(h:tK K (λs=>ZQ i (gx s) s) D' I H):Ci K gx I H λx c=>Kj i x I c D'.nx:=by
 obtain⟨d,s,R,q⟩:=h;dsimp only at q;cases a:gx s with
 |none=>rw[a]at q;exact q.elim
 |some r=>rw[a]at q;exact#[d,s,r,R,a,λb v e f g go=>q b _ e (f.put i g) go]
end
section
variable{K:Am}{f:VE->A2}{b:D->VE->O VE}{t:VE->O Bool}{e:AD}{spos:AC}{oix:U Nat}{n i m:Nat}{N:U Ae}{x:Ae}{P:AJ}{w:Ai}{K0:Am}{mg:Bi}{base:Ak}
theorem vR(h:XI P w K0 mg base X N sc)(q:CQ N sc scope n oix)(o:X.calm=J')(E:K0=X.K)(c:N[i]?=Z x)(p:sc.names.lookup x=Z .local)(r:∀M H0,JI X tg iter (tI X.K M H0 f))(d:CB X.K X (Hz scope) (oN N oix) scope tg ifs elt ws b t e)(u:∀j∈ws,j<n)(k:DE (.ListComp elt [#[tg,iter,ifs,0]] scope pos) (Z (.Name x pos')) spos.line X.env=Ay J':=by rfl)(v:∀x,E2 iter X.env x=Ay x:=by intro _;rfl):JS X (.Assign [.Name x pos'] (.ListComp elt [#[tg,iter,ifs,0]] scope pos) spos) (tK X.K λs=>ZQ i (xF .l (jG m (Zk n oix f b t e) s) s) s):=by
 obtain⟨_,_,G,_,_,rfl,rfl,nd⟩:=h;obtain⟨S,rfl,y⟩:=q;exact#[λa s A H B F z=>by
  obtain⟨M,H0,C⟩:=vO<|vP<|vQ z;exact Pl _ _ oix S y o nd c p (r M H0).h d.g d.t d.e k v a s A H B F<|Nm u (λ_ _ _ z=>z) C]
end
@[simp] noncomputable def N7:D->D->O D
  |.tup [x],.int n=>if n=1 then Z (.tup [x])else if n=2 then Z (.tup [x,x])else J
  |_,_=>J
@[simp] noncomputable def cj:D->O Nat
  |.int (.ofNat n)=>Z n
  |_=>J
@[simp] def Qq(o p:O D):A2:=match o,p with
  |some (.int i),Z (.int j)=>gd (-1000000000<=i/\i<1000000000 /\ -1000000000<=j/\j<1000000000) (Z (Ge i (j-i).toNat))
  |_,_=>J
theorem vS{l a b:Expr}{p:AC}{ga k:IS->O D}(m:Gl X "range")(n:X.mg "range"=J)(o:JE X a (tJ X.K ga))(r:JE X b (tJ X.K k))(t:Az [a,b] X.env=[(O',An a X.env),(O',An b X.env)]:=by rfl)(c:Az [b] X.env=[(O',An b X.env)]:=by rfl)(d:Az (a::[b]) X.env=(O',An a X.env)::Az [b] X.env:=by exact ZI rfl)(f:Az (b::[]) X.env=(O',An b X.env)::Az [] X.env:=by exact ZI rfl):JI X l (.Call (.Name "range" p) [a,b] [] pos) (Qi X.K λs=>Qq (ga s) (k s)):=
 #[(Xg m n (Qg (Qf o) (Qg (Qf r) TC f) d).h t c).mono λC H E u=>by
   obtain⟨v,s,G,R,e,q⟩:=u
   unfold Qq at e
   dsimp only at e
   split at e
   ·next i j w x=>
    obtain⟨L,e⟩:=Py e
    cases e
    refine#[v,s,[.val (.int i),.val (.int j)],R,by erw[w,x,Jf,Zd,B7],λF y sm z=>?_]
    cases z with
    |cons A g=>
     cases g with
     |cons g B=>
      cases B
      subst A g
      exact#[i,j,rfl,#[by lia,by lia,by lia,by lia],q _ y sm Pw]
   ·cases e]
theorem vT:fillsNumberSlot (.type "tuple") "mul"=Ay O':=PySem.fillsNumberSlot_seq (id:="tuple.__mul__") (r:=Z<|.builtin "tuple.__rmul__") F.slot_tuple_mul.lookup (by decide +kernel) F.slot_tuple_rmul.lookup (by decide +kernel)
theorem vU:seqRepeat? (.type "tuple")=Ay (Z (.builtin "tuple.__mul__")):=by
 unfold seqRepeat?;rw[PySem.seqSlot_of (T:="tuple") (name:="__mul__") (id:="tuple.__mul__") F.slot_tuple_mul.lookup (by decide +kernel),PySem.seqSlot_of (T:="tuple") (name:="__rmul__") (id:="tuple.__rmul__") F.slot_tuple_rmul.lookup (by decide +kernel)];rfl
theorem vV(a:Int)(t:Tok)(l:Ac)(b:Array Aa)(n:Nat)(dd:O Ac)(c:Array (O Aa)):Meets (Ex.«int.__rmul__» #[[.int a t,.ref l],[]]) (λ_ R s=>s.heap.get? l=Z {cls:=.type "tuple",dict:=dd,data:=.seq b n,slots:=c}/\R (.ok (.ret Value.notImplemented)) s):=.of_wp λprog w A R s z=>by
  obtain⟨e,g,d,f,os⟩:=s;obtain⟨h,q⟩:=z;wp_walk;exact#[_,rfl,q]
theorem vW(l:Ac)(v:Aa)(n:Nat)(dd:O Ac)(a:Array (O Aa))(u:Tok):Meets (Ex.«tuple.__mul__» #[[.ref l,.int 1 u],[]]) (λ_ R s=>s.heap.get? l=Z {cls:=.type "tuple",dict:=dd,data:=.seq (T' [v]) n,slots:=a}/\R (.ok (.ret (B8 l))) s):=.of_wp λprog w A R s z=>by
  obtain⟨b,g,d,c,os⟩:=s;obtain⟨e,q⟩:=z;wp_walk;exact#[_,rfl,q]
theorem vX(l:Ac)(v:Aa)(n:Nat)(dd:O Ac)(a:Array (O Aa))(u:Tok):Meets (Ex.«tuple.__mul__» #[[.ref l,.int 2 u],[]]) (λ_ R s=>s.heap.get? l=Z {cls:=.type "tuple",dict:=dd,data:=.seq (T' [v]) n,slots:=a}/\R (.ok (.ret (B8 s.heap.objs.size))) {s with heap:=s.heap.push {cls:=.type "tuple",data:=.seq (T' [v,v])} }):=.of_wp λprog w A R s z=>by
  obtain⟨b,g,d,c,os⟩:=s;obtain⟨e,q⟩:=z;wp_walk;exact#[_,rfl,q]
section
variable{K:Am}{M:Fb}{a b:Expr}{f g:AD}
def ck(K:Am):R2:=λx y H Q=>∃l u,x=.ref l/\B0 K H l [u]/\((y=.int 1/\Q (.ref l) H)\/(y=.int 2/\∀p,H p=J->Q (.ref p) (AK H p (.tup [u,u]))))
theorem vY:BU X (FL .Mult) (ck X.K):=by
 intro j s L H x y v u Q R o k h;obtain⟨l,z,rfl,p,h⟩:=h;cases o;obtain⟨c,r,p1,M⟩:=R.tuple p;obtain⟨w,rfl,m⟩:∃w,c=[w]/\RelV z w:=by cases r with|cons B C=>cases C;exact#[_,rfl,B]
 obtain⟨⟨cls,d,data,f⟩,a,E,n,hd⟩:=id p1;subst E hd;have R2:∀(i:Int) (t:Tok) (g:AI),(wpAny (Ag X.prog X.w) X.A (call (.builtin "tuple.__mul__") [.ref l,.int i t]) g X.xe s)->wpAny (Ag X.prog X.w) X.A (FL .Mult (.ref l)<|.int i t) g X.xe s:=λi t g G=>by
  exact wpAny_binaryOp_repeat_ref (T:="tuple") (by ext) #[_,a,rfl] (λN=>typeIs_int N i t) vT F.fills_int_mul F.slot_int_rmul vU F.slot_int_index.lookup (Jd F.slot_int_rmul (typeIs_int s i t) F.entry_int_rmul (F.args_int_rmul_2 _ _) (vV i t l _ n d f) #[a,rfl,#[_,a,rfl],G])
 rcases h with⟨rfl,q⟩|⟨rfl,q⟩
 ·obtain⟨t,rfl⟩:=k;exact R2 1 t _<|Jd F.slot_tuple_mul ⟨_,a,rfl⟩ F.entry_tuple_mul (F.args_tuple_mul_2 _ _) (vW l w n d f t) ⟨a,⟨.ref l,H,R,rfl,q⟩⟩
 ·obtain⟨t,rfl⟩:=k;refine R2 2 t _<|Jd F.slot_tuple_mul ⟨_,a,rfl⟩ F.entry_tuple_mul (F.args_tuple_mul_2 _ _) (vX l w n d f t) ⟨a,?_⟩;refine⟨.ref s.heap.objs.size,AK H s.heap.objs.size<|.tup [z,z],R.laid (t':=s.toks) (λb u e=>Bn _ e) (Bc _) ?_,rfl,q _ R.fresh⟩;exact#[show(2:Nat)<=Ax by ext,[w,w],.cons m<|.cons m .nil,IsTup.new _ _]
theorem vZ:Dj K (ck K) N7:=by
 intro N H x y k m d Q o g a e q
 unfold N7 at e
 split at e
 ·next u n=>
  obtain⟨l,i,rfl,b,r⟩:=g.tup
  obtain⟨w,AB,rfl,c,j⟩:=(show ∃w AB,i=w::AB/\Ar K N H u w/\Ad K N H [] AB by simpa only[Ad]using r)
  obtain rfl:AB=[]:=by simpa only[Ad]using j
  refine#[l,w,rfl,b,?_]
  split at e
  ·next h=>subst h;cases e;exact .inl #[a.int,q _ H (Aj.refl H) (by erw[Ar];exact#[l,[w],rfl,b,r])]
  ·split at e
   ·next h=>subst h;cases e;exact .inr #[a.int,λp f=>q _ _ (ZT f) (LR f (Ad.cons c (Ad.cons c Ad.nil)))]
   ·cases e
 ·cases e
theorem v3(c:JE X a (tP X.K M H0 f))(d:JE X b (tP X.K M H0 g)):JE X (.BinOp a .Mult b pos) (tD X.K M H0 (Za N7 f g)):=#[KA vY vZ c.h d.h]
end
end L2
set_option tactic.hygienic false
namespace K55
open PySem PySem.Spec PyProof.Rows L2
section
set_option hygiene false in
local macro_rules | `(#[$a,*])=>do let w:Lean.Term <- a.getElems.foldrM (λx w=>if x.raw.isNatLit?.isSome then `(Zd (CZ r $x) $w)else `(Zd (C6 $x) $w)) (<- `(some []));return w
set_option hygiene false in
local macro_rules | `(#v[$a,*])=>`(λr=>#[$a,*])
local macro_rules | `(!$n:num)=>`(λr=>A5 r $n)
local macro_rules | `(~~~$n:num)=>`(λ_=>some (.int $n))
local macro_rules | `(∅)=>`(λr=>.next r)
local macro_rules | `($a >>> $b)=>`(λr=>Zg ($a r) $b)
local macro_rules | `($a <<< $b)=>`(λr=>Zp ($a r) $b)
noncomputable def CS:U Ae:=["NoLadder","NoValue","TooMuch"]
def Qr:AA:=λr=>Zg (ZA (Ct (Ez (AL ((Zj EC #v[0,Z (.ty "int")]) r)) (AL (Ct (ZW (AL ((Zj EC #v[0,Z (.ty "bool")]) r)))))))) ∅
def Z1:=AS 1 1 Qr
def Qs:AD:=λr=>Ct (D0 (AL ((Za (GO O') (!0) (λ_=>Z (.str "abcdefghijklmnopqrstuvwxyz"))) r)) (AL ((Za (GO O') (!0) (λ_=>Z (.str "0123456789"))) r)))
def K9:AA:=λr=>Zg (ZX (ZW (Z0 ((Zj EC #v[0,Z (.ty "str")]) r))) (Zg (ZA (Z (.bl O'))) ∅) (.next r)) (λr=>Zg (ZX (D0 (AL ((Za Hl (Zj Zo #v[0]) (~~~1)) r)) (AL ((Za D2 (Zj Zo #v[0]) (~~~12)) r))) (Zg (ZA (Z (.bl O'))) ∅) (.next r)) (λr=>Zg (ZA (Ct (Ez (AL ((Za (GO O') (Za Ap (!0) (~~~0)) (λ_=>Z (.str "abcdefghijklmnopqrstuvwxyz"))) r)) (AL ((Zj Fa #v[Zr ((Zk 1 [] (λr=>(B4 r 0).bind Zy) (Zc 0) (λ_=>Z J') Qs) r)]) r))))) ∅))
def Ix:=AS 1 1 K9
def cm:AA:=λr=>Zg (ZA ((Zj Zo #v[(Za Ap (!0) (~~~0)) r]) r)) ∅
def N8:=AS 1 1 cm
def T0:AA:=λr=>Zg (ZA (KC (AL ((Za Hl (!1) (Zj Zo #v[0])) r)) ((Za Ap (!0) (!1)) r) (Z .non))) ∅
def Iy:=AS 2 2 T0
def cq:AD:=(~~~0)
def cr:AA:=λr=>Zg (ZA ((Zj Em #v[Zr ((Zk 1 [] (λr=>(B4 r 0).bind Zy) (Zc 0) (λ_=>Z J') cq) r)]) r)) ∅
def N9:=AS 1 1 cr
def cu:AA:=λr=>Zg (ZA ((Zf (#[(Zj Zo #v[0]) r,(Zj PM #v[0]) r,(Zj Nw #v[0]) r,(Zj Nx #v[0]) r].bind Zm)).map D.tup)) ∅
def Qt:=AS 1 1 cu
def cw:AA:=λr=>Zg (ZA ((Zf (#[(Za Zl (Za Ap (!0) (~~~0)) (Za Ap (!1) (~~~0))) r,(Za Zl (Za Ap (!0) (~~~1)) (Za Ap (!1) (~~~1))) r,(Zj PJ #v[(Za Ap (!0) (~~~2)) r,(Za Ap (!1) (~~~2)) r]) r,(Zj Jq #v[(Za Ap (!0) (~~~3)) r,(Za Ap (!1) (~~~3)) r]) r].bind Zm)).map D.tup)) ∅
def Oa:=AS 2 2 cw
def Qu:AD:=(Za (DG O') (!1) (!0))
def T2:AA:=λr=>Zg (ZA ((Zj Fa #v[Zr ((Zk 2 [] (Hx (λr=>B4 r 0) (λr=>B4 r 1)) (Dr 2 (ZC (Zc 0) (ZC (Zc 1) Dq))) (λ_=>Z J') Qu) r)]) r)) ∅
def Qv:=AS 2 2 T2
def T4:AN:=λs=>Zp (Dl (jT 2 (λr=>AL ((Za Nn (Zj Zo #v[0]) (~~~200)) r)) s) (Zp (.fail) ∅) (.next s)) (λs=>Zp (D6 (K1 (By s 0) ((jE 0 (λr=>AU r 1)) s) s) s) ∅)
def T5:=DU 2 2 T4
def v4:AN:=λs=>Zp (Dl (jT 2 (λr=>AL ((Za (GO J') (!1) (!0)) r)) s) (Zp (.fail) ∅) (.next s)) (λs=>Zp (D6 (TH (By s 0) ((jE 0 (λr=>AU r 1)) s) s) s) ∅)
def cy:=DU 2 2 v4
def cz:AD:=λr=>Zr ((El FR #v[0]) r)
def T6:AA:=λr=>Zg (Cn ((Zk 1 [] (λr=>((A5 r 0).bind (Cr "Book" "axes")).bind Zy) (Zc 0) (λ_=>Z J') cz) r)) ∅
def T7:=AS 1 1 T6
def T8:AA:=λr=>Zg (Cn ((El FR #v[(A5 r 0).bind (Cr "Book" "standing")]) r)) ∅
def Qw:=AS 1 1 T8
def T9:AN:=λs=>Zp (FY "Book" "axes" (λs=>By s 0) (xD ((jE 1 (Za Zl (Za Zl (Ce (λr=>(A5 r 0).bind (Cr "Book" "axes")) (λ_=>Z J) (λr=>Ca (A5 r 1)) Cu) (λr=>Zr (Zf (#[AU r 2].bind Zm)))) (Ce (λr=>(A5 r 0).bind (Cr "Book" "axes")) (λr=>Ca ((Za Zl (!1) (~~~1)) r)) (λ_=>Z J) Cu))) s) s) s) ∅
def Mn:=DU 3 3 T9
def Ua:AA:=λr=>Zg (ZX (AL ((Za Hl (!1) (Zj Zo #v[0])) r)) (Zg (ZA ((Za Ap (!0) (!1)) r)) ∅) (.next r)) (λr=>Zg (ZA (Z (.int 0))) ∅)
def ZP:=AS 2 2 Ua
def Qx:AA:=λr=>Zg (Z3 2 ((Za Zs (Za Zl (Za Zl (Za Zl (Za EB (!2) (~~~45742)) (Za GK (!2) (~~~46949))) (Za EB (~~~29) (!4))) (~~~11)) (~~~2147483647)) r) r) (λr=>Zg (FO 3 ((Za GK (!2) (~~~8)) r) r) ∅)
def cA:AA:=λr=>Z3 2 ((Za Zl (Za Zs (!0) (~~~2147483549)) (~~~17)) r) r
def cB:AA:=λr=>Z6 3 (Zf ((Z []).bind Zm)) r
def cC:AA:=(EA (λr=>(#[(Za Zl (!1) (~~~2)) r].bind Zm).bind EQ) (Zc 4) Qx)
def cD:AA:=λr=>ZA ((Ce (!3) (λr=>Ca (Z (.int 2))) (λ_=>Z J) Cu) r)
def v5:AA:=λr=>.next r
def cE:=cD >>> v5
def cF:=cC >>> cE
def cG:=cB >>> cF
def cH:=cA >>> cG
def cI:AA:=cH
def ZR:=AS 2 5 cI
def Qy:AD:=(Za Ap (!1) (Za Zs (Za Zl (Za GK (!2) (Za Zl (!0) (~~~2))) (Za EB (~~~4) (!0))) (Za Ap (λr=>Zr (Zf (#[Z (.int 36),Z (.int 26)].bind Zm))) (Zj intD #v[(Za BK (!0) (~~~0)) r]))))
def cJ:AA:=λr=>ZX (AL ((Za BK (!1) (~~~0)) r)) (Zg (ZA ((Za Zl (Za Hj (Za Zs (!0) (Za D1 (~~~10) (~~~30))) (Za EB (~~~5) (Za D1 (~~~10) (~~~29)))) (!2)) r)) ∅) (.next r)
noncomputable def cK:AA:=(λr=>Z3 3 (Z (.str "abcdefghijklmnopqrstuvwxyz0123456789")) r)
def cL:AA:=λr=>Z3 4 ((Za Zl (~~~1) (Za Zs (!0) (~~~12))) r) r
def cM:AA:=λr=>Z3 5 ((Za Zs (Za GK (!0) (~~~12)) (!4)) r) r
def cN:AA:=λr=>Z6 6 ((Zk 1 [3,0] (λr=>(#[AU r 4].bind Zm).bind EQ) (Zc 0) (λ_=>Z J') Qy) r) r
def cO:AA:=λr=>PN 6 (A5 r 5) ((Za Ap (!3) (Za Zs (Za Zl (Za Zl (Za GK (!0) (Za Zl (!5) (~~~2))) (Za EB (~~~4) (!5))) (Za EB (~~~5) (!2))) (Za Ap (λr=>Zr (Zf (#[Z (.int 36),Z (.int 26)].bind Zm))) (Zj intD #v[(Za BK (!5) (~~~0)) r])))) r) r
def cP:AA:=λr=>ZA ((PP PQ (λ_=>Z (.str "")) #v[6]) r)
def v6:AA:=λr=>.next r
def cQ:=cP >>> v6
def cR:=cO >>> cQ
def cT:=cN >>> cR
def cU:=cM >>> cT
def cV:=cL >>> cU
def cX:=cK >>> cV
def cY:=cJ >>> cX
def cZ:AA:=cY
def JN:=AS 3 7 cZ
def Ub:AD:=(Za BK (!0) (!1))
def Uc:AA:=λr=>Zg (ZA ((Zf (#[Zr ((Zk 1 [0] (λr=>(#[Z (.int 8)].bind Zm).bind EQ) (Zc 0) (λ_=>Z J') Ub) r),Z (.bl J')].bind Zm)).map D.tup)) ∅
def ZJ:=AS 1 1 Uc
def Ud:AA:=λr=>Zg (ZA ((Za Ap (λr=>Zr (Zf (#[AU r 1,AU r 2,Z (.bl J'),Z .non,Z (.str "0"),Zr (Zf (#[Z (.int 0)].bind Zm)),(Zf (#[Z (.int 0)].bind Zm)).map D.tup,(Za D1 (~~~10) (~~~41)) r,Z (.str "Zz"),Z (.str "")].bind Zm))) (Za Zs (!0) (~~~10))) r)) ∅
def Ob:=AS 3 3 Ud
def c0:AA:=λr=>Z3 3 ((Za Ap (!0) (Za Zs (Za GK (!2) (~~~9)) (Zj Zo #v[0]))) r) r
def c3:AA:=λr=>Z3 4 (Zr (Zf (#[Zr ((El FR #v[1]) r),Z .non,(Za Zl (!1) (λr=>(Zf (#[Z (.str "x")].bind Zm)).map D.tup)) r,(Zf ((Z []).bind Zm)).map D.tup,(Za Zl (λr=>(Zf (#[(Za Ap (!3) (~~~0)) r].bind Zm)).map D.tup) (Ce (!1) (λr=>Ca (Z (.int 1))) (λ_=>Z J) Cu)) r,(Za Zl (λr=>(Zf (#[Z (.bl J')].bind Zm)).map D.tup) (Ce (!1) (λr=>Ca (Z (.int 1))) (λ_=>Z J) Cu)) r,(Za Zl (λr=>(Zf (#[Z (.str "New")].bind Zm)).map D.tup) (Ce (!1) (λr=>Ca (Z (.int 1))) (λ_=>Z J) Cu)) r].bind Zm))) r
def Ue:AA:=λr=>Z3 5 ((Ce (!1) (λ_=>Z J) (λr=>Ca (GN (Z (.int 1)))) Cu) r) r
def Qz:AA:=λr=>ZX (AL ((Za D2 (Zj Zo #v[1]) (~~~2)) r)) (Zg (Z3 5 ((Za Zl (Ce (!1) (λ_=>Z J) (λr=>Ca (Z (.int 2))) Cu) (Za N7 (λr=>(Zf (#[(Za D1 (~~~10) (~~~50)) r].bind Zm)).map D.tup) (Za Hj (Zj Zo #v[1]) (~~~2)))) r) r) ∅) (.next r)
def c5:AA:=λr=>Z3 4 ((Za Zl (!4) (λr=>Zr (Zf (#[AU r 5,Z (.str "line")].bind Zm)))) r) r
def c6:AA:=λr=>ZA ((Za Ap (!4) (Za Zs (!2) (~~~9))) r)
def v7:AA:=λr=>.next r
def c7:=c6 >>> v7
def c9:=c5 >>> c7
def db:=Qz >>> c9
def df:=Ue >>> db
def dg:=c3 >>> df
def dh:=c0 >>> dg
def Uf:AA:=dh
def Ug:=AS 3 6 Uf
def dj:AA:=λr=>Zg (ZA (Ct (D0 (AL ((Zh Z1 #v[0]) r)) (AL ((Zh Ix #v[0]) r))))) ∅
def Oc:=AS 1 1 dj
def dm:AA:=λr=>Zg (ZX (Jl (A5 r 0)) (Zg (ZA ((Zf (#[Z (.int 0),Z (.int 0)].bind Zm)).map D.tup)) ∅) (.next r)) (λr=>Zg (ZX (Z0 ((Zh Z1 #v[0]) r)) (Zg (ZA ((Zf (#[Z (.int 1),AU r 0].bind Zm)).map D.tup)) ∅) (.next r)) (λr=>Zg (ZA ((Zf (#[Z (.int 2),AU r 0].bind Zm)).map D.tup)) ∅))
def QA:=AS 1 1 dm
def Uh:AD:=λr=>(Zf (#[(Zh Iy #v[0,1]) r,(Zh Iy #v[0,2]) r].bind Zm)).map D.tup
def dn:AA:=λr=>Zg (Nd ((Io (λr=>Zr ((Zk 1 [1,2] (λr=>(B4 r 0).bind Zy) (Zc 0) (λ_=>Z J') Uh) r))) r)) ∅
def QB:=AS 3 3 dn
def Od:AA:=λr=>Zg (ZA (Ct (Ez (AL ((Zh Z1 #v[1]) r)) (AL ((Ih Hk Hl (~~~0) (!1) (Zj Zo #v[0])) r))))) ∅
def QC:=AS 2 2 Od
def Oe:AA:=λr=>Zg (ZA (Ct (Ez (AL ((Zh Z1 #v[1]) r)) (AL ((Ih Hk Hk (~~~0) (!1) (Zh N8 #v[0])) r))))) ∅
def Ui:=AS 2 2 Oe
def Of:AA:=λr=>Zg (ZA (Ct (Ez (AL ((Zh Z1 #v[1]) r)) (AL ((Ih Hk Hk (~~~0) (!1) (Za Hj (Zh N8 #v[0]) (~~~2))) r))))) ∅
def La:=AS 2 2 Of
def QD:AA:=λr=>Zg (FO 4 ((Za Zl (~~~1) (Za Zs (Za Ap (!1) (Za Zl (~~~2) (!5))) (Za Ap (!4) (Za Hj (!5) (~~~1))))) r) r) ∅
def Og:AA:=λr=>Zg (ZX (AL ((Za D2 (!5) (~~~0)) r)) (Zg (Z3 9 ((Za Zs (Za Ap (!1) (Za Zl (Za Zl (~~~7) (Za EB (~~~7) (!5))) (!9))) (Za Ap (!4) (!5))) r) r) ∅) (.next r)) (λr=>Zg (FO 8 ((Zh JN #v[(Za Zl (!0) (Za EB (Za Ap (!1) (~~~2)) (Za Zs (Za Ap (!1) (~~~6)) (~~~2)))) r,(Za Zs (Za Zl (Za Ap (!1) (~~~7)) (Za EB (!5) (Za Zs (Za Ap (!1) (~~~8)) (~~~2)))) (~~~2)) r,9]) r) r) ∅)
def QE:AA:=λr=>Zg (Z6 8 (Zf ((Z []).bind Zm)) r) (λr=>Zg (Z3 9 ((Za Zs (Za Zl (!7) (Za Ap (!1) (~~~2))) (!2)) r) r) (λr=>Zg ((EA (λr=>(#[AU r 3].bind Zm).bind EQ) (Zc 5) Og) r) (λr=>Zg (FO 6 ((Zj Em #v[8]) r) r) ∅)))
def dr:AA:=λr=>Z3 1 ((Zh ZR #v[0,Z (.int 40)]) r) r
def dt:AA:=λr=>Z3 2 ((Za Zl (~~~1) (Za Zs (Za Ap (!1) (~~~0)) (~~~6))) r) r
def dy:AA:=λr=>Z3 3 ((Za Ap (λr=>Zr (Zf (#[Z (.int 2),Z (.int 1),Z (.int 3),Z (.int 2),Z (.int 3),Z (.int 4),Z (.int 2),Z (.int 3)].bind Zm))) (Za Zs (Za Ap (!1) (~~~1)) (~~~8))) r) r
def dz:AA:=λr=>Z6 4 (Zf (#[AU r 2].bind Zm)) r
def dA:AA:=(EA (λr=>(#[Z (.int 1),AU r 3].bind Zm).bind Ni) (Zc 5) QD)
def dB:AA:=λr=>Z6 6 (Zf ((Z []).bind Zm)) r
def dC:AA:=(EA (λr=>(#[AU r 2].bind Zm).bind EQ) (Zc 7) QE)
def dE:AA:=λr=>Cn (Eb r 6)
def v8:AA:=λr=>.next r
def dF:=dE >>> v8
def dG:=dC >>> dF
def dH:=dB >>> dG
def dI:=dA >>> dH
def dJ:=dz >>> dI
def dK:=dy >>> dJ
def dL:=dt >>> dK
def dM:=dr >>> dL
def dN:AA:=dM
def QF:=AS 1 10 dN
def Uj:AD:=(Za Zs (Za Ap (!1) (!0)) (Za Zl (Zj Zo #v[(Za Ap (Za Ap (!2) (!0)) (~~~0)) r]) (~~~1)))
def Uk:AA:=λr=>Zg (Z3 2 ((Zh ZR #v[1,(Zj Zo #v[0]) r]) r) r) (λr=>Zg (ZA ((Zj Em #v[Zr ((Zk 1 [2,0] (λr=>(#[(Zj Zo #v[0]) r].bind Zm).bind EQ) (Zc 0) (λ_=>Z J') Uj) r)]) r)) ∅)
def QG:=AS 2 3 Uk
def QH:AD:=(Za Ap (Za Ap (Za Ap (!1) (!0)) (Za Zs (Za Ap (!2) (!0)) (Zj Zo #v[(Za Ap (!1) (!0)) r]))) (~~~0))
def Ul:AA:=λr=>Zg (Z3 2 ((Zh ZR #v[1,Z (.int 6)]) r) r) (λr=>Zg (Z3 3 ((Zj Em #v[Zr ((Zk 1 [0,2] (λr=>(#[(Zj Zo #v[0]) r].bind Zm).bind EQ) (Zc 0) (λ_=>Z J') QH) r)]) r) r) (λr=>Zg (ZA ((Zf (#[AU r 3,(Za Ap (λr=>Zr (Zf (#[(Za Hj (Za Zs (Za Ap (!2) (~~~4)) (~~~7)) (~~~3)) r,(Za Zs (!1) (Za D1 (~~~10) (~~~30))) r,(Za Hj (~~~0) (Za Zs (!1) (Za D1 (~~~10) (~~~30)))) r,(Za Zs (Za Ap (!2) (~~~4)) (~~~2)) r].bind Zm))) (Za Zs (Za Ap (!2) (~~~5)) (~~~4))) r].bind Zm)).map D.tup)) ∅))
def Um:=AS 2 4 Ul
def Uo:AD:=(Zh QA #v[0])
def dO:AA:=λr=>Zg (ZA ((Zj Em #v[Zr ((Zk 1 [] (λr=>(B4 r 0).bind Zy) (Zc 0) (λ_=>Z J') Uo) r)]) r)) ∅
def Mo:=AS 1 1 dO
def Uq:AD:=(Zh Oc #v[0])
def Mp:AA:=λr=>Zg (ZX (ZW (Z0 ((Zj EC #v[0,Z (.ty "tuple")]) r))) (Zg (ZA (Z (.bl O'))) ∅) (.next r)) (λr=>Zg (ZX (D0 (AL ((Za Hl (Zj Zo #v[0]) (~~~1)) r)) (AL ((Za D2 (Zj Zo #v[0]) (~~~4)) r))) (Zg (ZA (Z (.bl O'))) ∅) (.next r)) (λr=>Zg (ZA ((Zj Fa #v[Zr ((Zk 1 [] (λr=>(B4 r 0).bind Zy) (Zc 0) (λ_=>Z J') Uq) r)]) r)) ∅))
def JP:=AS 1 1 Mp
def Ur:AA:=λr=>Zg (ZX (ZW (Z0 ((Zh QC #v[0,1]) r))) (Zg (.fail) ∅) (.next r)) (λr=>Zg (ZA ((Za Ap (!0) (!1)) r)) ∅)
def Mq:=AS 2 2 Ur
def Us:IS->O Ae:=λs=>EF (jT 2 (λr=>ZW (Z0 ((Zh QC #v[0,1]) r))) s) (Gk (Zd (((jE 2 (λ_=>Z (.str "no such axis"))) s).map .val) (Z [])) "NoValue") (J)
def Oh:U IV->Gh->O Ae:=Hy 2 2 Us
def Ut:AD:=(Zh Ui #v[0,1])
def Uu:AA:=λr=>Zg (ZX (D0 (ZW (Z0 ((Zj EC #v[1,Z (.ty "tuple")]) r))) (AL ((Za CK (Zj Zo #v[1]) (Zj Zo #v[0])) r))) (Zg (ZA (Z (.bl O'))) ∅) (.next r)) (λr=>Zg (ZA ((Zj Fa #v[Zr ((Zk 2 [] (Hx (λr=>B4 r 0) (λr=>B4 r 1)) (Dr 2 (ZC (Zc 0) (ZC (Zc 1) Dq))) (λ_=>Z J') Ut) r)]) r)) ∅)
def Lb:=AS 2 2 Uu
def QI:AD:=(Zh QB #v[1,(Za Ap (!2) (!0)) r,(Za Ap (!3) (!0)) r])
def dP:AA:=λr=>Zg (Cn ((Zk 2 [1,2] (NX (λr=>B4 r 0)) (Dr 2 (ZC (Zc 0) (ZC (Zc 1) Dq))) (λ_=>Z J') QI) r)) ∅
def QJ:=AS 3 3 dP
def QK:AD:=(Zh QF #v[(Za Zl (Zh ZP #v[1,(Za Zl (~~~1) (!0)) r]) (Za EB (~~~1000) (!0))) r])
def QL:AD:=(Ce (!0) (λ_=>Z J) (λr=>Ca (Z (.int 3))) Cu)
def Uv:AA:=λr=>Z3 1 ((Za Ap (λr=>Zr (Zf (#[Z (.int 2),Z (.int 1),Z (.int 2),Z (.int 3),Z (.int 1),Z (.int 2),Z (.int 3),Z (.int 4)].bind Zm))) (Za Zs (Zh ZP #v[0,Z (.int 0)]) (~~~8))) r) r
def Uw:AA:=λr=>Z6 2 ((Zk 1 [0] (λr=>(#[AU r 1].bind Zm).bind EQ) (Zc 0) (λ_=>Z J') QK) r) r
def Ux:AA:=λr=>ZX (AL ((Za BK (!1) (~~~4)) r)) (Zg ((JH 2 (λr=>Z6 2 ((Zk 1 [] (λr=>(B4 r 2).bind Zy) (Zc 0) (λ_=>Z J') QL) r) r)) r) ∅) (.next r)
def Uy:AA:=λr=>Cn (Eb r 2)
def v9:AA:=λr=>.next r
def Uz:=Uy >>> v9
def UA:=Ux >>> Uz
def UB:=Uw >>> UA
def UC:=Uv >>> UB
def UD:AA:=UC
def Oi:=AS 1 3 UD
def UE:AD:=(Zh JP #v[0])
def Oj:AA:=λr=>Zg (Z3 6 ((Ce (!3) (λr=>Ca ((Za Zl (!4) (~~~1)) r)) (λ_=>Z J) Cu) r) r) (λr=>Zg (Jx (NE (ND 1 (λr=>(Zf (#[AU r 4,AU r 5].bind Zm)).map D.tup) (λr=>AU r 6)) (!6) r) (λr=>Zg (ZA (Z (.bl O'))) ∅) ∅) ∅)
def ZM:AA:=λr=>Zg (ZX (D0 (AL ((Za CK (Zj Zo #v[3]) (Zj Zo #v[(Za Ap (!0) (~~~0)) r])) r)) (AL ((Za (DG O') (Za Ap (!3) (~~~0)) (!2)) r))) (Zg (ZA (Z (.bl O'))) ∅) (.next r)) (λr=>Zg (KO 2 ((Za Ap (!3) (~~~0)) r) (Z (.bl J')) r) (λr=>Zg ((EA (NX (λr=>B4 r 3)) (Dr 2 (ZC (Zc 4) (ZC (Zc 5) Dq))) Oj) r) ∅))
def Ol:AA:=λr=>ZX (ZW (Z0 ((Zj Fa #v[Zr ((Zk 1 [] (λr=>(B4 r 0).bind Zy) (Zc 0) (λ_=>Z J') UE) r)]) r))) (Zg (ZA (Z (.bl O'))) ∅) (.next r)
def QM:AA:=λr=>GJ 1 (Z []) r
noncomputable def QN:AA:=(λr=>GJ 2 (Z []) r)
def QO:AA:=(EA (λr=>(B4 r 0).bind Zy) (Zc 3) ZM)
noncomputable def UF:AA:=(λr=>ZA (Z (.bl J')))
def wa:AA:=λr=>.next r
noncomputable def UG:=UF >>> wa
def QP:=QO >>> UG
def QQ:=QN >>> QP
def QR:=QM >>> QQ
def Om:=Ol >>> QR
def On:AA:=Om
def Zu:=AS 1 7 On
def UH:AA:=λr=>Zg (ZA ((Zf (#[(Zh Mo #v[(Za Ap (!0) (~~~0)) r]) r,(Za Ap (!0) (~~~1)) r].bind Zm)).map D.tup)) ∅
def QS:=AS 1 1 UH
def UI:AA:=λr=>Zg (ZA (Ct (Ez (AL ((Zh Lb #v[(A5 r 0).bind (Cr "Book" "axes"),1]) r)) (AL ((Za (DG O') (!1) (λr=>(A5 r 0).bind (Cr "Book" "tables"))) r))))) ∅
def UJ:=AS 2 2 UI
def dQ:AA:=λr=>Zg (ZX (ZW (Z0 ((Zj EC #v[0,Z (.ty "list")]) r))) (Zg (ZA (Z (.bl O'))) ∅) (.next r)) (λr=>Zg (ZX (D0 (AL ((Za Hl (Zj Zo #v[0]) (~~~1)) r)) (AL ((Za D2 (Zj Zo #v[0]) (~~~40)) r))) (Zg (ZA (Z (.bl O'))) ∅) (.next r)) (λr=>Zg (ZA ((Zh Zu #v[0]) r)) ∅))
def JQ:=AS 1 1 dQ
def dR:AA:=λr=>Z3 2 ((Za Zl (!0) (λr=>Zr (Zf (#[AU r 1].bind Zm)))) r) r
def dS:AA:=λr=>ZX (ZW (Z0 ((Zh Zu #v[2]) r))) (Zg (.fail) ∅) (.next r)
def dT:AA:=λr=>ZX (AL ((Za D2 (Zj Zo #v[2]) (~~~40)) r)) (Zg (.fail) ∅) (.next r)
noncomputable def dU:AA:=(λr=>ZA (AU r 2))
def wb:AA:=λr=>.next r
noncomputable def dV:=dU >>> wb
def dW:=dT >>> dV
def dX:=dS >>> dW
def dY:=dR >>> dX
def UK:AA:=dY
def UL:=AS 2 3 UK
def UM:IS->O Ae:=λs=>TV 2 ((jE 0 (Za Zl (!0) (λr=>Zr (Zf (#[AU r 1].bind Zm))))) s) (λs=>EF (jT 2 (λr=>ZW (Z0 ((Zh Zu #v[2]) r))) s) (Gk (Zd (((jE 2 (λ_=>Z (.str "the line does not go with the others"))) s).map .val) (Z [])) "NoLadder") (EF (jT 2 (λr=>AL ((Za D2 (Zj Zo #v[2]) (~~~40)) r)) s) (Gk (Zd (((jE 2 (λ_=>Z (.str "a ladder has forty lines at most"))) s).map .val) (Z [])) "TooMuch") (J))) s
def Oo:U IV->Gh->O Ae:=Hy 2 3 UM
def UN:AA:=λr=>Zg (ZX (ZW (Z0 ((EU "Book" "is_kept" UJ (CZ r 0) #[1]).map C3))) (Zg (.fail) ∅) (.next r)) (λr=>Zg (Cn ((El FR #v[(Za DR (λr=>(A5 r 0).bind (Cr "Book" "tables")) (!1)) r]) r)) ∅)
def QT:=AS 2 2 UN
def JR:AA:=λr=>Zg (ZX (D0 (ZW (Z0 (A5 r 1))) (AL ((Za CK (Za Ap (!1) (λr=>GN (Z (.int 1)))) (!2)) r))) (Zg (FO 1 (AU r 2) r) ∅) (.next r)) ∅
def UO:AA:=λr=>Zg (Z6 1 (Zf ((Z []).bind Zm)) r) (λr=>Zg ((EA (λr=>(Zr ((KS Mo (!0)) r)).bind Zy) (Zc 2) JR) r) (λr=>Zg (Cn (Eb r 1)) ∅))
def Op:=AS 1 3 UO
def QU:AD:=(Zh JQ #v[0])
def dZ:AA:=λr=>Zg (ZX (ZW (Z0 ((Zj EC #v[0,Z (.ty "list")]) r))) (Zg (ZA (Z (.bl O'))) ∅) (.next r)) (λr=>Zg (ZX (D0 (AL ((Za Hl (Zj Zo #v[0]) (~~~1)) r)) (AL ((Za D2 (Zj Zo #v[0]) (~~~4)) r))) (Zg (ZA (Z (.bl O'))) ∅) (.next r)) (λr=>Zg (ZA ((Zj Fa #v[Zr ((Zk 1 [] (λr=>(B4 r 0).bind Zy) (Zc 0) (λ_=>Z J') QU) r)]) r)) ∅))
def Oq:=AS 1 1 dZ
def UP:AN:=λs=>Zp (D6 (DK "Book" "put_ladder" Mn (By s 0) (Zd (((jE 0 (λr=>AU r 1)) s).map .val) (Zd (((jE 1 (Zh UL #v[(Zh Mq #v[(A5 r 0).bind (Cr "Book" "axes"),1]) r,2])) s).map .val) (Z []))) s) s) ∅
def Mr:=DU 3 3 UP
def Ot:IS->O Ae:=λs=>JM "Book" "put_ladder" (By s 0) (K7 (((jE 0 (λr=>AU r 1)) s).map IV.val) (K6 ((Zd (((jE 1 (λr=>(A5 r 0).bind (Cr "Book" "axes"))) s).map .val) (Zd (((jE 0 (λr=>AU r 1)) s).map .val) (Z []))).bind λa=>Oh a s.2) ((Zd (((jE 1 (Zh Mq #v[(A5 r 0).bind (Cr "Book" "axes"),1])) s).map .val) (Zd (((jE 0 (λr=>AU r 2)) s).map .val) (Z []))).bind λa=>Oo a s.2))) s
def JU:U IV->Gh->O Ae:=Hy 3 3 Ot
def d3:AD:=λr=>(Zf (#[AU r 0].bind Zm)).map D.tup
def d4:AD:=(Za Ap (!0) (~~~0))
def UQ:AA:=λr=>Zg (Cn ((Zk 1 [] (λr=>((Zh Op #v[Zr ((Zk 1 [] (λr=>(B4 r 0).bind Zy) (Zc 0) (λ_=>Z J') d3) r)]) r).bind Zy) (Zc 0) (λ_=>Z J') d4) r)) ∅
def UR:=AS 1 1 UQ
def Ou:AD:=(Za DR (!0) (!1))
def Ov:AA:=λr=>Zg (ZX (Z0 ((Zh Qv #v[0,3]) r)) (Zg (Z3 5 ((Zj Em #v[Zr ((Zk 2 [] (Hx (λr=>B4 r 0) (λr=>B4 r 3)) (Dr 2 (ZC (Zc 0) (ZC (Zc 1) Dq))) (λ_=>Z J') Ou) r)]) r) r) (λr=>Zg (KO 2 (A5 r 5) (KC (AL ((Za (DG O') (!5) (!2)) r)) ((Zh Oa #v[(Za DR (!2) (!5)) r,4]) r) (AU r 4)) r) ∅)) (.next r)) ∅
def US:AD:=λr=>(Zf (#[AU r 0,(Za DR (!1) (!0)) r].bind Zm)).map D.tup
def UT:AA:=λr=>Zg (GJ 2 (Z []) r) (λr=>Zg ((EA (λr=>(B4 r 1).bind Zy) (Dr 2 (ZC (Zc 3) (ZC (Zc 4) Dq))) Ov) r) (λr=>Zg (Cn ((Zk 1 [2] (λr=>((Zh Op #v[Zr ((El KV #v[2]) r)]) r).bind Zy) (Zc 0) (λ_=>Z J') US) r)) ∅))
def UU:=AS 2 6 UT
def UV:VE->O Bool:=λr=>AL ((Za CK (Za NR (!1) (!0)) (Za DR (!2) (!0))) r)
noncomputable def d5:AD:=(λr=>AU r 0)
def UW:VE->O Bool:=λr=>AL ((Za (DG J') (!0) (!1)) r)
noncomputable def d6:AD:=(λr=>AU r 0)
def d7:AA:=λr=>GJ 2 ((Io (!0)) r) r
def d8:AA:=λr=>GJ 3 ((Io (!1)) r) r
def d9:AA:=(JH 2 (λr=>Z6 4 ((Zk 1 [3,2] (λr=>(B4 r 2).bind FV) (Zc 0) UV d5) r) r))
def eb:AA:=(JH 3 (λr=>Cn ((E9 Op #v[(Za Zl (!4) (λr=>Zr ((Zk 1 [2] (λr=>(B4 r 3).bind FV) (Zc 0) UW d6) r))) r]) r)))
def wc:AA:=λr=>.next r
def ed:=eb >>> wc
def ee:=d9 >>> ed
def ef:=d8 >>> ee
def en:=d7 >>> ef
def UX:AA:=en
def QV:=AS 2 5 UX
def UY:VE->O Bool:=λr=>AL ((Za BK (Zh Iy #v[0,1]) (!2)) r)
def UZ:AD:=(Za Ap (!0) (~~~0))
def Ow:AA:=λr=>Zg (ZX (Ez (ZW (Jl (A5 r 2))) (ZW (Z0 ((Zh Oc #v[2]) r)))) (Zg (Cn (Zf ((Z []).bind Zm))) ∅) (.next r)) (λr=>Zg (Cn ((E9 UR #v[Zr ((Zk 1 [1,2] (λr=>(B4 r 0).bind Zy) (Zc 0) UY UZ) r)]) r)) ∅)
def QW:=AS 3 3 Ow
def U0:AD:=λr=>(Zf (#[AU r 0,(Zh Qt #v[Zr (Zf (#[AU r 1].bind Zm))]) r].bind Zm)).map D.tup
def U1:AA:=λr=>Zg (Z3 3 (Zr ((Zk 2 [] (λr=>(B4 r 1).bind Zy) (Dr 2 (ZC (Zc 0) (ZC (Zc 1) Dq))) (λ_=>Z J') U0) r)) r) (λr=>Zg (Cn ((E9 UU #v[(Zh QJ #v[0,(Zh N9 #v[0]) r,2]) r,3]) r)) ∅)
def QX:=AS 3 4 U1
def U2:AD:=λr=>(Zf (#[AU r 1,AU r 0].bind Zm)).map D.tup
def QY:AA:=λr=>Zg (LZ 2 ((Zk 1 [3] (λr=>((Zh QV #v[(Za DR (!0) (!3)) r,(Za DR (!1) (!3)) r]) r).bind Zy) (Zc 0) (λ_=>Z J') U2) r) r) ∅
def U3:AA:=λr=>Zg (Z6 2 (Zf ((Z []).bind Zm)) r) (λr=>Zg ((EA (λr=>(Zr (Ql (A5 r 0))).bind Zy) (Zc 3) QY) r) (λr=>Zg (Cn (Eb r 2)) ∅))
def U4:=AS 2 4 U3
def Ox:AA:=λr=>Zg (ZA ((Za D2 (Zj Zo #v[(Zh QW #v[0,1,2]) r]) (~~~0)) r)) ∅
def Zv:=AS 3 3 Ox
def U5:AD:=λr=>(Zf (#[AU r 0,(Zh QX #v[1,2,0]) r].bind Zm)).map D.tup
def U6:AA:=λr=>Zg (Nd ((Io (λr=>Zr ((Zk 1 [0,1] (λr=>(B4 r 2).bind Zy) (Zc 0) (λ_=>Z J') U5) r))) r)) ∅
def QZ:=AS 3 3 U6
def U7:AN:=λs=>Dl (jT 2 (λr=>ZW (Z0 ((Zh Lb #v[(A5 r 0).bind (Cr "Book" "axes"),1]) r))) s) (Zp (.fail) ∅) (.next s)
def U8:AN:=λs=>Dl (jT 2 (λr=>AL ((Za (DG J') (!1) (λr=>(A5 r 0).bind (Cr "Book" "tables"))) r)) s) (Zp (Dl (jT 2 (λr=>AL ((Za Nn (Zj Mb #v[(A5 r 0).bind (Cr "Book" "tables")]) (~~~12)) r)) s) (Zp (.fail) ∅) (.next s)) (λs=>Zp (Qk (λs=>Qe "Book" "tables" s (By s 0)) ((jE 0 (λr=>AU r 1)) s) ((jE 1 (Zh QX #v[(A5 r 0).bind (Cr "Book" "axes"),(A5 r 0).bind (Cr "Book" "standing"),1])) s) s) ∅)) (.next s)
def eo:AN:=λs=>C8 (xD ((jE 2 (Zj Zo #v[(Za DR (λr=>(A5 r 0).bind (Cr "Book" "tables")) (!1)) r])) s) s)
def wd:AN:=λs=>.next s
def U9:=eo <<< wd
def Va:=U8 <<< U9
def Vb:=U7 <<< Va
def Oy:AN:=Vb
def Oz:=DU 2 2 Oy
def Q0:AD:=(Zh Zv #v[0,Z (.int 0),1])
def Vc:AA:=λr=>Zg (ZX (D0 (ZW (Z0 ((Zj EC #v[1,Z (.ty "tuple")]) r))) (AL ((Za CK (Zj Zo #v[1]) (Zj Zo #v[0])) r))) (Zg (ZA (Z (.bl O'))) ∅) (.next r)) (λr=>Zg (ZA ((Zj Fa #v[Zr ((Zk 2 [] (Hx (λr=>B4 r 0) (λr=>B4 r 1)) (Dr 2 (ZC (Zc 0) (ZC (Zc 1) Dq))) (λ_=>Z J') Q0) r)]) r)) ∅)
def Vd:=AS 2 2 Vc
def Ve:VE->O Bool:=λr=>AL ((Za BK (Za Ap (!0) (Za Zl (!1) (~~~1))) (!2)) r)
def Vf:AD:=(Ce (!0) (λr=>Ca ((Za Zl (!1) (~~~1)) r)) (λ_=>Z J) Cu)
def Vg:AD:=λr=>KC (AL ((Za BK (Za Ap (!0) (!1)) (!2)) r)) ((Za Zl (Ce (!0) (λ_=>Z J) (λr=>Ca ((Za Zl (!1) (~~~1)) r)) Cu) (!3)) r) (AU r 0)
def et:AA:=λr=>ZX (ZW (Z0 ((Zh La #v[0,1]) r))) (Zg (.fail) ∅) (.next r)
def eu:AA:=λr=>ZX (ZW (Z0 ((Zh Zv #v[0,1,2]) r))) (Zg (.fail) ∅) (.next r)
def ez:AA:=λr=>ZX (ZW (Z0 ((Zh Zv #v[0,(Za Zl (!1) (~~~1)) r,3]) r))) (Zg (.fail) ∅) (.next r)
def eA:AA:=λr=>Z3 4 ((Za Ap (λr=>Zr ((Zk 1 [1,3] (λr=>(B4 r 0).bind Zy) (Zc 0) Ve Vf) r)) (~~~0)) r) r
def eB:AA:=λr=>Cn ((Zk 1 [1,2,4] (λr=>(B4 r 0).bind Zy) (Zc 0) (λ_=>Z J') Vg) r)
noncomputable def we:AA:=λr=>.next r
def eC:=eB >>> we
def eE:=eA >>> eC
def eF:=ez >>> eE
def eG:=eu >>> eF
def eH:=et >>> eG
def Vh:AA:=eH
def Vi:=AS 4 5 Vh
def OA:IS->O Ae:=λs=>EF (jT 2 (λr=>ZW (Z0 ((Zh La #v[0,1]) r))) s) (Gk (Zd (((jE 2 (λ_=>Z (.str "no level at which values have parents"))) s).map .val) (Z [])) "NoValue") (EF (jT 2 (λr=>ZW (Z0 ((Zh Zv #v[0,1,2]) r))) s) (Gk (Zd (((jE 2 (λ_=>Z (.str "no such value at the level"))) s).map .val) (Z [])) "NoValue") (EF (jT 2 (λr=>ZW (Z0 ((Zh Zv #v[0,(Za Zl (!1) (~~~1)) r,3]) r))) s) (Gk (Zd (((jE 2 (λ_=>Z (.str "no such parent at the level above"))) s).map .val) (Z [])) "NoValue") (J)))
def Iz:U IV->Gh->O Ae:=Hy 4 5 OA
def eI:AD:=λr=>Zr ((El FR #v[0]) r)
def eJ:AN:=λs=>Dl (jT 2 (λr=>ZW (Z0 ((Zh Oq #v[1]) r))) s) (Zp (.fail) ∅) (.next s)
def eK:AN:=λs=>FY "Book" "axes" (λs=>By s 0) (xF .l (jG 1 (Zk 1 [] (λr=>(B4 r 1).bind Zy) (Zc 0) (λ_=>Z J') eI) s) s) s
def eM:AN:=λs=>FY "Book" "standing" (λs=>By s 0) (xF .l (jG 2 (λr=>Zf ((Z []).bind Zm)) s) s) s
def eO:AN:=λs=>FY "Book" "tables" (λs=>By s 0) (xC .d (jG 1 (Jm QZ #v[(A5 r 0).bind (Cr "Book" "axes"),Zr (Zf ((Z []).bind Zm)),Zr (Zf (#[(Zh N9 #v[(A5 r 0).bind (Cr "Book" "axes")]) r].bind Zm))]) s) s) s
def eP:AN:=λs=>.next s
def eQ:=eO <<< eP
def eR:=eM <<< eQ
def eS:=eK <<< eR
def eT:=eJ <<< eS
def Q1:AN:=eT
def Vj:=DU 2 2 Q1
def eU:AN:=λs=>ZQ 1 (xP (Qe "Book" "tables" s (By s 0)) s) s
def eV:AN:=λs=>FY "Book" "tables" (λs=>By s 0) (xC .d (jG 1 (Jm QZ #v[(A5 r 0).bind (Cr "Book" "axes"),(A5 r 0).bind (Cr "Book" "standing"),Zr ((El KV #v[1]) r)]) s) s) s
def eW:AN:=λs=>C8 (xC .l (jG 2 (E9 U4 #v[1,(A5 r 0).bind (Cr "Book" "tables")]) s) s)
noncomputable def wf:AN:=λs=>.next s
def eX:=eW <<< wf
def eY:=eV <<< eX
def eZ:=eU <<< eY
def Vk:AN:=eZ
def Q2:=DU 1 2 Vk
def Vl:AA:=λr=>Zg (ZX (D0 (ZW (Z0 ((Zj EC #v[1,Z (.ty "tuple")]) r))) (AL ((Za CK (Zj Zo #v[1]) (~~~3)) r))) (Zg (ZA (Z (.bl O'))) ∅) (.next r)) (λr=>Zg (ZX (Ez (AL ((Za CK (Za Ap (!1) (~~~0)) (λ_=>Z (.str "+"))) r)) (AL ((Za CK (Za Ap (!1) (~~~0)) (λ_=>Z (.str "-"))) r))) (Zg (ZA (Z (.bl O'))) ∅) (.next r)) (λr=>Zg (ZA (Ct (Ez (AL ((Zh Vd #v[0,(Za Ap (!1) (~~~1)) r]) r)) (AL ((Zh Z1 #v[(Za Ap (!1) (~~~2)) r]) r))))) ∅))
def Q3:=AS 2 2 Vl
def Vm:AN:=λs=>Zp (D6 (DK "Book" "put_ladder" Mn (By s 0) (Zd (((jE 0 (λr=>AU r 1)) s).map .val) (Zd (((jE 1 (Zh Vi #v[(Zh Mq #v[(A5 r 0).bind (Cr "Book" "axes"),1]) r,2,3,4])) s).map .val) (Z []))) s) s) (λs=>Zp (C8 (DK "Book" "tables_renewed" Q2 (By s 0) (Z []) s)) ∅)
def Q5:=DU 5 5 Vm
def OB:IS->O Ae:=λs=>JM "Book" "put_ladder" (By s 0) (K7 (((jE 0 (λr=>AU r 1)) s).map IV.val) (K6 ((Zd (((jE 1 (λr=>(A5 r 0).bind (Cr "Book" "axes"))) s).map .val) (Zd (((jE 0 (λr=>AU r 1)) s).map .val) (Z []))).bind λa=>Oh a s.2) ((Zd (((jE 1 (Zh Mq #v[(A5 r 0).bind (Cr "Book" "axes"),1])) s).map .val) (Zd (((jE 0 (λr=>AU r 2)) s).map .val) (Zd (((jE 0 (λr=>AU r 3)) s).map .val) (Zd (((jE 0 (λr=>AU r 4)) s).map .val) (Z []))))).bind λa=>Iz a s.2))) s
def JV:U IV->Gh->O Ae:=Hy 5 5 OB
def Q6:AN:=λs=>Zp (Dl (jT 2 (λr=>ZW (Z0 ((Zh Q3 #v[0,4]) r))) s) (Zp (.fail) ∅) (.next s)) (λs=>Zp (Dl (jT 2 (λr=>AL ((Za BK (Za Ap (!4) (~~~0)) (λ_=>Z (.str "+"))) r)) s) (Zp (D6 (D7 T5 (Zd ((By s 3).map .cel) (Zd (((jE 2 (λr=>(Zf (#[(Za Ap (!4) (~~~1)) r,(Za Ap (!4) (~~~2)) r].bind Zm)).map D.tup)) s).map .val) (Z []))) s) s) ∅) (Zp (D6 (D7 cy (Zd ((By s 3).map .cel) (Zd (((jE 2 (λr=>(Zf (#[(Za Ap (!4) (~~~1)) r,(Za Ap (!4) (~~~2)) r].bind Zm)).map D.tup)) s).map .val) (Z []))) s) s) ∅)) ∅)
def fg:AN:=λs=>ZQ 3 (xC .l (jG 2 (El FR #v[1]) s) s) s
def fh:AN:=λs=>Ir 4 Q6 (((jE 0 (λr=>AU r 2)) s).bind Mc) s
def fj:AN:=λs=>C8 (xF .l (jG 2 (KS QS (!3)) s) s)
def wg:AN:=λs=>.next s
def fm:=fj <<< wg
def fq:=fh <<< fm
def ft:=fg <<< fq
def Vn:AN:=ft
def Vo:=DU 3 5 Vn
def fu:AN:=λs=>Zp (ZQ 6 (xF .l (jG 2 (λr=>Zf (#[(FS 5 CS (FU "NoValue")) r,(FS 5 CS (FU "NoLadder")) r,(FS 5 CS (FU "TooMuch")) r,(FS 5 CS (FU "NoGrain")) r].bind Zm)) s) s) s) (λs=>Zp (ZQ 6 (xD ((jE 0 (Za Zl (!6) (λr=>Zr (Zf (#[(FS 5 CS (FU "NoRow")) r,(FS 5 CS (FU "NoSuch")) r,(FS 5 CS (FU "NoPick")) r].bind Zm))))) s) s) s) (λs=>Zp (C8 (xD ((jE 0 (λr=>(Zf (#[(Za Zl (!6) (λr=>Zr (Zf (#[(FS 5 CS (FU "NoText")) r].bind Zm)))) r,(FS 5 CS (FU "ValueError")) r].bind Zm)).map D.tup)) s) s)) ∅))
def Vp:AN:=λs=>ZQ 4 (xD ((jE 2 (λ_=>Z .non)) s) s) s
def Lc:AN:=λs=>K3 CS 5 (EF (jT 2 (λr=>AL ((Za BK (!1) (~~~0)) r)) s) (JD "Book" "regroup" JV (By s 0) (Zd (((jE 0 (λr=>AU r 2)) s).map .val) (Zd (((jE 1 (Za Ap (!3) (~~~0))) s).map .val) (Zd (((jE 1 (Za Ap (!3) (~~~1))) s).map .val) (Zd (((jE 1 (Za Ap (!3) (~~~2))) s).map .val) (Z []))))) s) (JD "Book" "grow" JU (By s 0) (Zd (((jE 0 (λr=>AU r 2)) s).map .val) (Zd (((jE 1 (Za Ap (!3) (~~~0))) s).map .val) (Z []))) s)) (Zp (Dl (jT 2 (λr=>AL ((Za BK (!1) (~~~0)) r)) s) (Zp (ZQ 4 (DK "Book" "regroup" Q5 (By s 0) (Zd (((jE 0 (λr=>AU r 2)) s).map .val) (Zd (((jE 1 (Za Ap (!3) (~~~0))) s).map .val) (Zd (((jE 1 (Za Ap (!3) (~~~1))) s).map .val) (Zd (((jE 1 (Za Ap (!3) (~~~2))) s).map .val) (Z []))))) s) s) ∅) (Zp (ZQ 4 (DK "Book" "grow" Mr (By s 0) (Zd (((jE 0 (λr=>AU r 2)) s).map .val) (Zd (((jE 1 (Za Ap (!3) (~~~0))) s).map .val) (Z []))) s) s) ∅)) ∅) fu s
def Vq:AN:=λs=>Dl (jT 2 (λr=>D0 (Ez (AL ((Za BK (!1) (~~~1)) r)) (Jl (A5 r 4))) (Ez (AL ((Za BK (!1) (~~~0)) r)) (Z0 ((Zj EC #v[4,Z (.ty "list")]) r)))) s) (Zp (C8 (xD ((jE 2 (λ_=>Z (.bl J'))) s) s)) ∅) (.next s)
def wj:AN:=λs=>C8 (xD ((jE 2 (λ_=>Z (.bl O'))) s) s)
def wk:AN:=λs=>.next s
def fw:=wj <<< wk
def Vr:=Vq <<< fw
def Q7:=Lc <<< Vr
def Q8:=Vp <<< Q7
def Ms:AN:=Q8
def ZK:=DU 4 7 Ms
def Vs:AN:=λs=>Zp (FY "Book" "standing" (λs=>By s 0) (D7 Vo (Zd (((jE 1 (λr=>(A5 r 0).bind (Cr "Book" "axes"))) s).map .val) (Zd (((jE 1 (λr=>(A5 r 0).bind (Cr "Book" "standing"))) s).map .val) (Zd (((jE 0 (λr=>AU r 1)) s).map .val) (Z [])))) s) s) (λs=>Zp (C8 (DK "Book" "tables_renewed" Q2 (By s 0) (Z []) s)) ∅)
def Vt:=DU 2 2 Vs
def ZY:AN:=λs=>Zp (Dl (jT 2 (λr=>AL ((Za BK (Za Ap (!12) (!6)) (!7)) r)) s) (Zp (ZQ 12 (xD ((jE 2 (Za Zl (Ce (!12) (λ_=>Z J) (λr=>Ca ((Za Zl (!6) (~~~1)) r)) Cu) (Ce (!8) (λr=>Ca ((Za Zl (!6) (~~~1)) r)) (λ_=>Z J) Cu))) s) s) s) ∅) (.next s)) (λs=>Zp (D6 (K1 (N5 s (By s 1) (K8 s 4)) ((jE 0 (λr=>AU r 12)) s) s) s) ∅)
def Vu:AN:=λs=>ZQ 3 (xD ((jE 0 (Zh ZR #v[2,Z (.int 8)])) s) s) s
def Vv:AN:=λs=>ZQ 4 (xD ((jE 2 (Za Zs (Za Ap (!3) (~~~0)) (Zj Zo #v[1]))) s) s) s
def Vw:AN:=λs=>ZQ 5 (xD ((jE 1 (Za Ap (!1) (!4))) s) s) s
def Vx:AN:=λs=>ZQ 6 (xD ((jE 2 (Za Zs (Za Ap (!3) (~~~1)) (Zj Jq #v[Z (.int 1),(Za Hj (Zj Zo #v[(Za Ap (!5) (~~~0)) r]) (~~~1)) r]))) s) s) s
def Vy:AN:=λs=>ZQ 7 (xD ((jE 2 (Za Ap (Za Ap (!5) (Za Zs (Za Ap (!3) (~~~2)) (Zj Zo #v[5]))) (!6))) s) s) s
def Vz:AN:=λs=>ZQ 8 (xD ((jE 2 (Za Ap (!5) (Za Zs (Za Ap (!3) (~~~3)) (Zj Zo #v[5])))) s) s) s
def VA:AN:=λs=>ZQ 9 (xC .l (jG 2 (λr=>Zf (#[AU r 6,AU r 7,(Za Ap (!8) (λr=>GN (Z (.int 1)))) r].bind Zm)) s) s) s
def VB:AN:=λs=>ZQ 10 (xD ((jE 0 (Zh ZJ #v[Z (.int 0)])) s) s) s
def Mt:AN:=λs=>Dl (jT 2 (λr=>AL ((Za D2 (Zj Zo #v[(Za Ap (!5) (~~~0)) r]) (~~~1)) r)) s) (Zp (Gp (λs=>By s 9) (jE 2 (~~~2)) (xD ((jE 2 (Za Ap (!8) (Za Zl (!6) (~~~1)))) s) s) s) (λs=>Zp (ZQ 10 (xD ((jE 2 (λ_=>Z (.bl J'))) s) s) s) ∅)) (.next s)
def Z7:AN:=λs=>Dl (jT 2 (λr=>AL ((Za BK (Za Zs (Za Ap (!3) (~~~4)) (~~~2)) (~~~1)) r)) s) (Zp (ZQ 10 (xD ((jE 0 (Zh ZJ #v[Z (.int 0)])) s) s) s) (λs=>Zp (ZQ 11 (xD ((jE 2 (Za Zs (Za Ap (!3) (~~~5)) (~~~4))) s) s) s) (λs=>Zp (Dl (jT 2 (λr=>AL ((Za BK (!11) (~~~3)) r)) s) (Zp (C8 (Fz BK (D7 ZK (Zd ((By s 0).map .cel) (Zd (((jE 2 (~~~0)) s).map .val) (Zd (((jE 1 (Zh Ob #v[(Za Ap (!3) (~~~6)) r,(Zj Zo #v[1]) r,GN (Z (.int 1))])) s).map .val) (Zd ((By s 9).map .cel) (Z []))))) s) (jE 0 (λr=>AU r 10)) s)) ∅) (.next s)) (λs=>Zp (Gp (λs=>By s 9) (jE 0 (λr=>AU r 11)) (xD ((jE 0 (Zh Ob #v[(Za Ap (!3) (~~~6)) r,(Za Ap (λr=>Zr (Zf (#[(Za Hj (Zj Zo #v[(Za Ap (!5) (~~~0)) r]) (~~~1)) r,(Za D1 (~~~10) (~~~42)) r,Z .non].bind Zm))) (!11)) r,(Za Ap (λr=>Zr (Zf (#[GN (Z (.int 1)),(Za D1 (~~~10) (~~~43)) r,GN ((Za D1 (~~~10) (~~~43)) r)].bind Zm))) (!11)) r])) s) s) s) ∅)))) (.next s)
def VC:AN:=λs=>HB (Gn (Fz CK (D7 ZK (Zd ((By s 0).map .cel) (Zd (((jE 2 (~~~0)) s).map .val) (Zd (((jE 0 (λr=>AU r 4)) s).map .val) (Zd ((By s 9).map .cel) (Z []))))) s) (jE 0 (λr=>AU r 10)) s)) (λs=>Zp (C8 (xD ((jE 2 (λ_=>Z (.bl O'))) s) s)) ∅) ∅ s
def OC:AN:=λs=>Dl (jT 2 (λr=>AL ((Za GZ (!10) (λ_=>Z (.bl J'))) r)) s) (Zp (Gp (λs=>By s 1) (jE 0 (λr=>AU r 4)) (xC .l (jG 2 (λr=>Zf ((Z []).bind Zm)) s) s) s) (λs=>Zp (Ir 12 ZY (((jE 0 (λr=>AU r 5)) s).bind Mc) s) (λs=>Qp (λs=>By s 1) (λs=>(K8 s 4).bind cj) ∅ s))) (.next s)
def fy:AN:=λs=>C8 (xD ((jE 2 (λ_=>Z (.bl J'))) s) s)
def wl:AN:=λs=>.next s
def VD:=fy <<< wl
def VF:=OC <<< VD
def Q9:=VC <<< VF
def Ra:=Z7 <<< Q9
def fA:=Mt <<< Ra
def fB:=VB <<< fA
def fC:=VA <<< fB
def fE:=Vz <<< fC
def fF:=Vy <<< fE
def fG:=Vx <<< fF
def fH:=Vw <<< fG
def fI:=Vv <<< fH
def VG:=Vu <<< fI
def fJ:AN:=VG
def VH:=DU 3 13 fJ
def VI:AD:=(Za Zl (!1) (Za EB (~~~100) (!0)))
def VJ:AN:=λs=>ZQ 3 (xD ((jE 0 (Zh ZR #v[2,Z (.int 6)])) s) s) s
def VL:AN:=λs=>ZQ 4 (xD ((jE 2 (Za Zs (Za Ap (!3) (~~~0)) (Zj Zo #v[1]))) s) s) s
def VM:AN:=λs=>ZQ 5 (xD ((jE 1 (Za Ap (!1) (!4))) s) s) s
def VN:AN:=λs=>ZQ 6 (xD ((jE 2 (Za Zl (Za D1 (~~~10) (~~~45)) (Zj Zo #v[5]))) s) s) s
def VO:AN:=λs=>ZQ 7 (xD ((jE 2 (Za Zl (λr=>(Zf (#[AU r 6].bind Zm)).map D.tup) (Ce (Za Ap (!5) (Za Zs (Za Ap (!3) (~~~1)) (Zj Zo #v[5]))) (λr=>Ca (Z (.int 1))) (λ_=>Z J) Cu))) s) s) s
def Mu:AN:=λs=>Dl (jT 2 (λr=>AL ((Za BK (Za Zs (Za Ap (!3) (~~~2)) (~~~5)) (~~~0)) r)) s) (Zp (ZQ 7 (xD ((jE 2 (Zj Em #v[Zr ((Zk 1 [6] (λr=>(#[(Zj Zo #v[7]) r].bind Zm).bind EQ) (Zc 0) (λ_=>Z J') VI) r)])) s) s) s) ∅) (.next s)
def fK:AN:=λs=>ZQ 8 (xD ((jE 2 (λ_=>Z (.bl J'))) s) s) s
def OD:AN:=λs=>Dl (jT 2 (λr=>AL ((Za BK (Zj Zo #v[5]) (~~~40)) r)) s) (Zp (ZQ 8 (xD ((jE 0 (Zh ZJ #v[Z (.int 2)])) s) s) s) ∅) (.next s)
def Mv:AN:=λs=>Dl (jT 2 (λr=>Ez (AL ((Za BK (Za Zs (Za Ap (!3) (~~~3)) (~~~2)) (~~~1)) r)) (AL ((Za BK (Za Zs (Za Ap (!3) (~~~4)) (~~~4)) (~~~0)) r))) s) (Zp (C8 (Fz BK (D7 ZK (Zd ((By s 0).map .cel) (Zd (((jE 2 (~~~1)) s).map .val) (Zd (((jE 1 (Zh Ob #v[(Za Ap (!3) (~~~5)) r,(Zj Zo #v[1]) r,GN (Z (.int 1))])) s).map .val) (Zd (((jE 1 (λr=>Zr (Zf (#[AU r 7].bind Zm)))) s).map .val) (Z []))))) s) (jE 0 (Zh ZJ #v[Z (.int 0)])) s)) ∅) (.next s)
def OE:AN:=λs=>Dl (jT 2 (λr=>AL ((Za BK (Za Zs (Za Ap (!3) (~~~3)) (~~~2)) (~~~1)) r)) s) (Zp (ZQ 7 (xD ((jE 0 (Zh Ug #v[5,(Za Zl (Ce (!7) (λ_=>Z J) (λr=>Ca (Z (.int 1))) Cu) (Ce (Za Ap (!5) (~~~0)) (λr=>Ca (Z (.int 1))) (λ_=>Z J) Cu)) r,(Za Ap (!3) (~~~5)) r])) s) s) s) (λs=>Zp (ZQ 8 (xD ((jE 0 (Zh ZJ #v[Z (.int 1)])) s) s) s) ∅)) (.next s)
def VP:AN:=λs=>HB (Gn (Fz CK (D7 ZK (Zd ((By s 0).map .cel) (Zd (((jE 2 (~~~1)) s).map .val) (Zd (((jE 0 (λr=>AU r 4)) s).map .val) (Zd (((jE 1 (λr=>Zr (Zf (#[AU r 7].bind Zm)))) s).map .val) (Z []))))) s) (jE 0 (λr=>AU r 8)) s)) (λs=>Zp (C8 (xD ((jE 2 (λ_=>Z (.bl O'))) s) s)) ∅) ∅ s
def OG:AN:=λs=>Dl (jT 2 (λr=>AL ((Za GZ (!8) (λ_=>Z (.bl J'))) r)) s) (Zp (Gp (λs=>By s 1) (jE 0 (λr=>AU r 4)) (xD ((jE 0 (Za Zl (!5) (λr=>Zr (Zf (#[AU r 7].bind Zm))))) s) s) s) ∅) (.next s)
def wm:AN:=λs=>C8 (xD ((jE 2 (λ_=>Z (.bl J'))) s) s)
def wn:AN:=λs=>.next s
def Rb:=wm <<< wn
def Re:=OG <<< Rb
def OH:=VP <<< Re
def VQ:=OE <<< OH
def fL:=Mv <<< VQ
def fM:=OD <<< fL
def fN:=fK <<< fM
def fO:=Mu <<< fN
def fP:=VO <<< fO
def fQ:=VN <<< fP
def fR:=VM <<< fQ
def fS:=VL <<< fR
def VR:=VJ <<< fS
def fT:AN:=VR
def VS:=DU 3 9 fT
def fU:AD:=λr=>Zr ((El FR #v[0]) r)
def Rf:AD:=(Zh Um #v[1,(Za Zl (Za GK (Zh ZP #v[2,Z (.int 5)]) (Za Zl (!0) (~~~1))) (!0)) r])
def VT:AD:=(Za Zl (λr=>(Zf (#[Z (.str "+")].bind Zm)).map D.tup) (!0))
def fV:AN:=λs=>ZQ 5 (xD ((jE 2 (Za Zl (λr=>(Zf (#[(Za Zl (Za D1 (~~~10) (~~~45)) (!4)) r].bind Zm)).map D.tup) (Ce (Za Ap (Za Ap (!1) (~~~0)) (Za Zs (!4) (Zj Zo #v[(Za Ap (!1) (~~~0)) r]))) (λr=>Ca (Z (.int 1))) (λ_=>Z J) Cu))) s) s) s
def fW:AN:=λs=>Gp (λs=>By s 1) (jE 2 (~~~0)) (xD ((jE 1 (Za Zl (Za Ap (!1) (~~~0)) (λr=>Zr (Zf (#[AU r 5].bind Zm))))) s) s) s
def fX:AN:=λs=>D6 (DK "Book" "grow" Mr (By s 2) (Zd (((jE 2 (~~~0)) s).map .val) (Zd (((jE 0 (λr=>AU r 5)) s).map .val) (Z []))) s) s
def Rg:AN:=λs=>Zp (fV s) λs=>Zp (fW s) λs=>Zp (fX s) λs=>.next s
noncomputable def fY:AD:=(~~~0)
def VU:AN:=λs=>ZQ 9 (xD ((jE 2 (Za Zl (Zh ZP #v[0,(Za Zl (~~~7) (!4)) r]) (Za EB (~~~13) (!4)))) s) s) s
def VV:AN:=λs=>HB (Ml (jT 2 (λr=>AL ((Za BK (Za Zs (!9) (~~~2)) (~~~0)) r)) s) (N4 (Gn (D7 VH (Zd ((By s 2).map .cel) (Zd ((By s 1).map .cel) (Zd (((jE 2 (Za GK (!9) (~~~2))) s).map .val) (Z [])))) s))) s) (λs=>Zp (C8 (xD ((jE 2 (λ_=>Z (.bl O'))) s) s)) ∅) ∅ s
def VW:AN:=λs=>HB (Ml (jT 2 (λr=>AL ((Za BK (Za Zs (!9) (~~~2)) (~~~1)) r)) s) (N4 (Gn (D7 VS (Zd ((By s 2).map .cel) (Zd ((By s 1).map .cel) (Zd (((jE 2 (Za GK (!9) (~~~2))) s).map .val) (Z [])))) s))) s) (λs=>Zp (C8 (xD ((jE 2 (λ_=>Z (.bl O'))) s) s)) ∅) ∅ s
def Rh:AN:=λs=>Dl (jT 2 (λr=>D0 (AL ((Za CK (λr=>(EU "Book" "ladders" T7 (CZ r 2) (Z [])).map C3) (!1)) r)) (D0 (AL ((Za CK (λr=>(EU "Book" "rows" Qw (CZ r 2) (Z [])).map C3) (!6)) r)) (AL ((Za CK (λr=>(EU "Book" "table" QT (CZ r 2) #[7]).map C3) (!8)) r)))) s) (Zp (C8 (xD ((jE 2 (λ_=>Z (.bl O'))) s) s)) ∅) (.next s)
def OI:AN:=λs=>Zp (VU s) λs=>Zp (VV s) λs=>Zp (VW s) λs=>Zp (Rh s) λs=>.next s
def fZ:AN:=λs=>ZQ 1 (xC .l (jG 1 (E9 Oi #v[0]) s) s) s
def f4:AN:=λs=>ZQ 2 (Qj "Book" Vj (Zd (((jE 1 (λr=>Zr ((Zk 1 [] (λr=>(B4 r 1).bind Zy) (Zc 0) (λ_=>Z J') fU) r))) s).map .val) (Z [])) s) s
def f5:AN:=λs=>ZQ 3 (xF .l (jG 2 (Zk 1 [1,0] (λr=>(#[(Za Zs (Zh ZP #v[0,Z (.int 5)]) (~~~9)) r].bind Zm).bind EQ) (Zc 0) (λ_=>Z J') Rf) s) s) s
def f6:AN:=λs=>D6 (DK "Book" "pour" Vt (By s 2) (Zd (((jE 1 (λr=>Zr ((Zk 1 [] (λr=>(B4 r 3).bind Zy) (Zc 0) (λ_=>Z J') VT) r))) s).map .val) (Z [])) s) s
def f7:AN:=λs=>D6 (DK "Book" "keep" Oz (By s 2) (Zd (((jE 2 (Zh QG #v[1,(Zh ZP #v[0,Z (.int 4)]) r])) s).map .val) (Z [])) s) s
def Rj:AN:=λs=>Dl (jT 2 (λr=>AL ((Za BK (Za Zs (Zh ZP #v[0,Z (.int 6)]) (~~~6)) (~~~1)) r)) s) (Zp (Ir 4 Rg (Qq ((jE 2 (Zj Zo #v[(Za Ap (!1) (~~~0)) r])) s) ((jE 2 (~~~40)) s)) s) ∅) (.next s)
def f8:AN:=λs=>ZQ 6 (xD ((jE 1 (λr=>(EU "Book" "rows" Qw (CZ r 2) (Z [])).map C3)) s) s) s
def f9:AN:=λs=>ZQ 7 (xD ((jE 2 (Zj Em #v[Zr ((Zk 1 [] (λr=>(B4 r 1).bind Zy) (Zc 0) (λ_=>Z J') fY) r)])) s) s) s
def gc:AN:=λs=>ZQ 8 (xD ((jE 1 (λr=>(EU "Book" "table" QT (CZ r 2) #[7]).map C3)) s) s) s
def VX:AN:=λs=>Ir 4 OI (((jE 2 (Zj Jq #v[Z (.int 3),(Zj Zo #v[(Ce (!0) (λr=>Ca (Z (.int 7))) (λr=>Ca (Z (.int 19))) Cu) r]) r])) s).bind Qh) s
def wp:AN:=λs=>C8 (xD ((jE 2 (λ_=>Z (.bl J'))) s) s)
def wq:AN:=λs=>.next s
def wr:=wp <<< wq
def ge:=VX <<< wr
def gg:=gc <<< ge
def gh:=f9 <<< gg
def gj:=f8 <<< gh
def gm:=Rj <<< gj
def gq:=f7 <<< gm
def gu:=f6 <<< gq
def gv:=f5 <<< gu
def gw:=f4 <<< gv
def gy:=fZ <<< gw
def VY:AN:=gy
def gz:=DU 1 10 VY
theorem wt(m:Nat)(G:Gh)(d:D):DJ m G (.val d)=.val d:=rfl
theorem wu(m:Nat)(G:Gh):DJ m G .no=.no:=rfl
theorem wv(i:Int):AX 2 (.int i)=J':=rfl
theorem ww(x:D):Zf (Z [x])=Z [x]:=rfl
theorem wx(x y:D):Zf (Z [x,y])=Z [x,y]:=rfl
theorem wy(x y z:D):Zf (Z [x,y,z])=Z [x,y,z]:=rfl
theorem wz(i:Int):GN (Z (.int i))=Z (.int (-i)):=rfl
theorem IA(x y:Int):Zl (.int x) (.int y)=Z (.int (x+y)):=rfl
theorem gA(x y:Int):Hj (.int x) (.int y)=Z (.int (x-y)):=rfl
theorem wA:BK (.int 0) (.int 0)=Z (.bl J'):=rfl
theorem wC:BK (.int 0) (.int 1)=Z (.bl O'):=rfl
theorem wD:BK (.int 1) (.int 0)=Z (.bl O'):=rfl
theorem VZ:BK (.int 1) (.int 1)=Z (.bl J'):=rfl
end
section
local macro_rules | `(#v[$x])=>`(.val (.lst $x))
local macro_rules | `(‹$x›)=>`(.val (.int $x))
local macro_rules | `(tactic|rwa[$[$t:term],*] $[$l]?)=>`(tactic|simp only[B7,C9,C0,Db,Zd,Be,if_true,A5,Za,C6,CZ,EX,Dh,Fg,Zg,Zh,AL,vw,HA,jE,CT,jT,Gd,pk,jO,Zj,Zr,AU,HY,ZA,LW,B4,ZW,Zp,Md,Dl,Zy,Ie,ZX,decide_true,Zc,D0,By,Ez,xD,ZQ,Z3,Zm,wt,wu,Iu,wv,ww,wx,wy,wz,IA,gA,wA,wC,wD,VZ,$[$t:term],*] $[$l]?)
abbrev AT:=U (U (U At))
abbrev A3:=U (U At)
theorem Mw(s:Sl)(ns:U Int)(a:s=#v[ns.map D.int]\/s=.lent (ns.map D.int))(k:Int)(b:0<=k):ZP [s,‹k›]=Z ‹ns.getD k.toNat 0›:=by
 by_cases h:k<ns.length
 ·rcases a with rfl|rfl<;>simp[ZP,AS,Ua,h,atI,CG,b]
 ·rcases a with rfl|rfl<;>simp[ZP,AS,Ua,h,show ns.length<=k.toNat by lia]
def BQ:Ae:="abcdefghijklmnopqrstuvwxyz"
noncomputable def FA:Ae:="0123456789"
noncomputable def signs:Ae:="abcdefghijklmnopqrstuvwxyz0123456789"
theorem gB:signs.length=36:=by decide +kernel
noncomputable def Ee:D->Bool
 |.int _=>J'
 |_=>O'
def JX(c:Nat):Bool:=decide (c∈BQ.cps.toList)||decide (c∈FA.cps.toList)
def Ld:U Nat->Bool
 |[]=>O'
 |c::r=>decide (c∈BQ.cps.toList)&&(c::r).all JX&&decide ((c::r).length<=12)
def Bq:D->Bool
 |.str z=>Ld z.cps.toList
 |_=>O'
def Sm:D->Prop
 |.str z=>z.length<=100
 |.ty _=>False
 |.lst _ .d=>False
 |.lst _ (.i _ _)=>False
 |_=>True
theorem OJ(d:D)(h:Sm d):Z1 [.val d]=Z (.val (.bl (Ee d))):=by
 cases d with
 |lst a b=>cases b with
  |d=>exact h.elim
  |i _ _=>exact h.elim
  |l=>simp[Z1,AS,Qr,Ee]
 |ty n=>exact h.elim
 |_=>simp[Z1,AS,Qr,Ee]
theorem wE(c:Nat):Qs [.val (.str #[(T' [c])])]=Z (.bl (JX c)):=by
 rwa[Qs,TU,Ct];grind [JX,BQ,FA]
theorem wF(L:U Nat):Z2 (Zc 0) (λ_=>Z J') Qs [.no] (L.map λc=>D.str #[(T' [c])])=Z ((L.map JX).map D.bl):=by
 rw[Zw (λc=>D.str #[(T' [c])]) (λc=>D.bl<|JX c) L λc _=>#[[.val<|.str ⟨(T' [c])⟩],rfl,wE c]];simp
theorem wG(d:D)(h:Sm d):Ix [.val d]=Z (.val (.bl (Bq d))):=by
 cases d with
 |str z=>
  obtain⟨⟨L⟩⟩:=z;have a:L.length<=Ax:=BR h (by ext);have k:=wF L;cases L with|nil=>simp[Ix,AS,K9,Bq,Ld,F9]|cons c r=>
   erw[CT]at h a;have f:¬ ((r.length:Int)+1<1):=of_decide_eq_false rfl;by_cases e:r.length+1<=12
   ·have g:¬ ((12:Int)<(r.length:Int)+1):=by lia
    by_cases j:c∈(I0 "abcdefghijklmnopqrstuvwxyz").cps
    ·simp[Ix,AS,K9,Bq,Ld,F9,a,f,g,-GO,TU,atI,CG,k,-Be,-Cp,j,P0 e,BQ]
    ·simp[Ix,AS,K9,Bq,Ld,F9,a,f,g,-GO,TU,atI,CG,j,P0 e,BQ]
   ·simp[Ix,AS,K9,Bq,Ld,F9,a,f,show(12:Int)<(r.length:Int)+1 by lia,show ¬ r.length<=11 by lia]
 |ty n=>exact h.elim
 |lst m b=>cases b with
  |d=>exact h.elim
  |i _ _=>exact h.elim
  |l=>simp[Ix,AS,K9,Bq]
 |_=>simp[Ix,AS,K9,Bq]
theorem V0(d:D)(h:Sm d):Oc [.val d]=Z (.val (.bl (Ee d||Bq d))):=by
 have a:=OJ d h;cases b:Ee d<;>simp[b]at a ⊢<;>simp[Oc,AS,dj,a,wG d h]
def Cz(d:D):Bool:=Ee d||Bq d
def Mx:D->Prop
 |.tup a=>a.length<=1000/\∀x∈a,Sm x
 |d=>Sm d
def Dg:D->Bool
 |.tup a=>decide (1<=a.length)&&decide (a.length<=4)&&a.all Cz
 |_=>O'
theorem wH{e:AD}(a:∀d,Sm d->e [.val d]=Z (.bl (Cz d)))(xs:U D)(h:∀x∈xs,Sm x):Z2 (Zc 0) (λ_=>Z J') e [.no] xs=Z ((xs.map Cz).map D.bl):=by
 have:=Zw (b:=Zc 0) (e:=e) (ρ:=[.no]) (λd:D=>d) (λd=>D.bl<|Cz d) xs λd hd=>#[[.val d],rfl,a d<|h d hd];simp_all
theorem ZFg(xs:U D):(xs.map Cz).all id=xs.all Cz:=by rw[List.all_map];rfl
theorem wI(d:D)(h:Mx d):JP [.val d]=Z (.val (.bl (Dg d))):=by
 cases d with
 |tup a=>
  by_cases c:1<=a.length
  ·by_cases f:a.length<=4
   ·simp[JP,AS,Mp,Dg,show ¬ ((a.length:Int)<1) by lia,show ¬ ((4:Int)<(a.length:Int)) by lia,c,f,show a.length<=Ax from BR h.1 (by ext),Zq,wH (e:=Uq) (λd hd=>by have:=V0 d hd;erw[Uq,Zh,Zd,CZ,C9,B7,this,Db,C3];rfl) a h.2,-Cp]
   ·simp[JP,AS,Mp,Dg,show ¬ ((a.length:Int)<1) by lia,show(4:Int)<(a.length:Int) by lia,c,f]
  ·simp[JP,AS,Mp,Dg,show(a.length:Int)<1 by lia,c]
 |ty n=>exact h.elim
 |lst a b=>cases b with
  |d=>exact h.elim
  |i _ _=>exact h.elim
  |l=>simp[JP,AS,Mp,Dg]
 |_=>simp[JP,AS,Mp,Dg]
def Af(l:U At):D:=.tup (l.map aD)
abbrev EK:=Nat×At
noncomputable def CC{T:Type}:U (EK×T)->EK->O T
 |[],_=>J
 |e::r,k=>if e.1=k then Z e.2 else CC r k
noncomputable def Ef{T:Type}[DecidableEq T]:U (EK×T)->U (EK×T)->O (U (EK×T))
 |S,[]=>Z S
 |S,e::E=>match CC S e.1 with
  |some t=>if t=e.2 then Ef S E else J
  |none=>Ef (S++[e]) E
noncomputable def kE(k:EK):KT:=.tup [.int k.1,k.2]
noncomputable def SK{T:Type}(f:T->D)(S:U (EK×T)):Br:=S.map λe=>(kE e.1,f e.2)
theorem wJ{a b:EK}(h:kE a=kE b):a=b:=by grind [kE]
theorem V1{T:Type}(f:T->D)(k:EK):∀S:U (EK×T),Zt (SK f S) (kE k)=(CC S k).map f
 |[]=>rfl
 |e::r=>by
  have a:=V1 f k r;erw[SK,Be]at a ⊢;unfold Zt CC;grind [wJ]
theorem wL{T:Type}(f:T->D)(S:U (EK×T)):∀p∈SK f S,Fd p.1=O':=by
 intro p a;obtain⟨e,_,rfl⟩:=Ba.mp a;rfl
theorem wM{T:Type}(f:T->D)(S:U (EK×T))(e:EK×T)(h:CC S e.1=J):Z4 (SK f S) (kE e.1) (f e.2)=SK f (S++[e]):=by
 unfold Z4;grind [V1,SK]
theorem V2(a:At):Ds (aD a)=Z (.at a):=NB<|.at a
theorem OL:∀(a b:At),AF (aD a) (aD b)=decide (a=b):=by
 intro a b;cases a<;>cases b<;>simp[aD]
theorem gC:∀(a b:U At),CJ (a.map aD) (b.map aD)=decide (a=b)
 |[],[]=>by simp
 |[],_::_=>by simp
 |_::_,[]=>by simp
 |x::a,y::b=>by
  simp[OL,gC a b]
theorem ON(n:Nat)(a:At):AW n (aD a)=J':=by cases a<;>cases n<;>rfl
theorem OO(n:Nat)(l:U At):AW (n+1) (Af l)=J':=by
 show(l.map aD).all (AW n)=J'
 rw[List.all_map,Ec];exact λa _=>ON n a
theorem Rk(a b:U At):CK (Af a) (Af b)=Z (.bl (!decide (a=b))):=by
 have c:=OO 11 a;have d:=OO 11 b;simp_all [Af,gC]
theorem wN{T:Type}[DecidableEq T](f:T->D)(k:∀a b,CK (f a) (f b)=Z (.bl (!decide (a=b))))(S:U (EK×T))(n:S.length<100000)(e:EK×T)(i:Nat)(l m g:AD)(ρ:VE)(o:LL ρ i=Z (Zb (SK f S)))(p:l ρ=Z (kD (kE e.1)))(q:m ρ=Z (f e.2)) (r:∀xs,g (ρ.set i (.own xs .d))=Z (f e.2)) (h:g ρ=Z (f e.2)):NE (ND i l m) g ρ=match CC S e.1 with
   |some t=>Z (!decide (t=e.2),ρ)
   |none=>Z (O',ρ.set i<|.own (Zb<|SK f<|S++[e]) .d):=by
 have c:=V1 f e.1 S;unfold NE ND;rwa[o,p,q,Ik,NB,show Dy (kE e.1) (SK f S)=J' from KP _ (wL f S),show(SK f S).length<Ax from BX (show(SK f S).length<100000 by simpa[SK]using n) (by ext)];cases j:CC S e.1 with
 |some t=>
  rw[j]at c;erw[c,Jf,h,k]
 |none=>
  rw[j]at c;rwa[c,Option.map_none,r,k,Jf,wM f S e j]
noncomputable def DC:Nat->U At->U (EK×U At)
 |_,[]=>[]
 |i,a::r=>((i,a),r)::DC (i+1) r
theorem V3(s0 e:Sl)(l:U At)(z:l.length<=4):∀(AB pre:U At)(S:U (EK×U At))(k m h:Sl),l=pre++AB->S.length+AB.length<100000->(∃n s u v,Ef S (DC pre.length AB)=Z n/\n.length<=S.length+AB.length/\Z8 (Dr 2 (ZC (Zc 4) (ZC (Zc 5) Dq))) Oj (ER pre.length (AB.map aD)) [s0,.own (Zb (SK Af S)) .d,e,.val (Af l),k,m,h]=.next [s0,.own (Zb (SK Af n)) .d,e,.val (Af l),s,u,v]) \/(Ef S (DC pre.length AB)=J/\Z8 (Dr 2 (ZC (Zc 4) (ZC (Zc 5) Dq))) Oj (ER pre.length (AB.map aD)) [s0,.own (Zb (SK Af S)) .d,e,.val (Af l),k,m,h]=.ret (.val (.bl O')))
 |[],pre,S,k,m,h,_,_=>.inl #[S,k,m,h,rfl,by simp,rfl]
 |a::r,pre,S,k,m,h,i,B=>by
  erw[CT]at B;have o:cutD (l.map aD) (Z<|(pre.length:Int)+1) J=r.map aD:=by
   rw[TN,Qn _ _ (by lia),i];simp_all
  have w:=wN Af Rk S (by lia) ((pre.length,a),r) 1 (λc=>(Zf<|((λc=>Zd (C6<|(λc=>AU c 4) c) ((λc=>Zd (C6<|(λc=>AU c 5) c) ((λ_=>Z []) c)) c)) c).bind Zm).map D.tup) (λc=>AU c 6) (λc=>A5 c 6)
   [s0,.own (Zb<|SK Af S) .d,e,.val<|Af l,‹pre.length›,.val<|aD a,.val<|Af r] rfl (by
    simp[show 2<=Ax by ext,kE,kD,aD]) rfl (λF=>rfl) rfl
  have b:Oj [s0,.own (Zb<|SK Af S) .d,e,.val<|Af l,‹pre.length›,.val<|aD a,h] =
    Jx (match CC S ((pre.length,a):EK)with
     |some t=>Z (!decide (t=r),[s0,.own (Zb<|SK Af S) .d,e,.val<|Af l,‹pre.length›,.val<|aD a,.val<|Af r])
     |none=>Z (O',[s0,.own (Zb<|SK Af<|S++[((pre.length,a),r)]) .d,e,.val<|Af l,‹pre.length›,.val<|aD a,.val<|Af r])) (λ_=>.ret<|.val<|.bl O') (λc=>.next c):=by
   have p:Z3 6 (Ce (λc=>A5 c 3) (λc=>Ca<|Za Zl (λc=>A5 c 4) (λ_=>Z<|.int 1) c) (λ_=>Z J) Cu [s0,.own (Zb<|SK Af S) .d,e,.val<|Af l,‹pre.length›,.val<|aD a,h]) [s0,.own (Zb<|SK Af S) .d,e,.val<|Af l,‹pre.length›,.val<|aD a,h] =
     .next [s0,.own (Zb<|SK Af S) .d,e,.val<|Af l,‹pre.length›,.val<|aD a,.val<|Af r]:=by
    simp[Af,o]
   unfold Oj;rw[p];erw[Zg];rw[w];cases g:CC S ((pre.length,a):EK)with
   |none=>simp[Jx]
   |some t=>cases hd:decide (t=r)<;>simp[Jx,hd]
  have j:Dr 2 (ZC (Zc 4)<|ZC (Zc 5) Dq) (.tup [.int pre.length,aD a]) [s0,.own (Zb<|SK Af S) .d,e,.val<|Af l,k,m,h]=Z [s0,.own (Zb<|SK Af S) .d,e,.val<|Af l,‹pre.length›,.val<|aD a,h]:=rfl;rw[show ER pre.length ((a::r).map aD)=.tup [.int pre.length,aD a]::ER (pre.length+1) (r.map aD)from rfl];cases g:CC S ((pre.length,a):EK)with
  |some t=>
   rw[g]at b;by_cases q:t=r
   ·have x:=V3 s0 e l z r (pre++[a]) S ‹pre.length› (.val<|aD a) (.val<|Af r) (by rw[i];simp) (by lia);rw[show(pre++[a]).length=pre.length+1 by simp]at x;have f:Ef S (DC pre.length<|a::r)=Ef S (DC (pre.length+1) r):=by simp[DC,Ef,g,q]
    rwa[q,Jx]at b;rw[f];erw[Z8,j,b];rcases x with⟨n,C,E,G,y,A,H⟩|⟨y,A⟩
    ·exact .inl #[n,C,E,G,y,by erw[CT];lia,H]
    ·exact .inr #[y,A]
   ·have f:Ef S (DC pre.length<|a::r)=J:=by simp[DC,Ef,g,q]
    erw[q,decide_false,Ie,Jx]at b;exact .inr #[f,by erw[Z8,j,b]]
  |none=>
   have x:=V3 s0 e l z r (pre++[a]) (S++[((pre.length,a),r)]) ‹pre.length› (.val<|aD a) (.val<|Af r) (by rw[i];simp) (by simp;lia);have f:Ef S (DC pre.length<|a::r)=Ef (S++[((pre.length,a),r)]) (DC (pre.length+1) r):=by simp[DC,Ef,g]
   erw[Jx]at b;erw[Z8,j,b];grind
noncomputable def FK(F:U At):Br:=F.map λa=>(.at a,.bl J')
theorem V4(a:At):∀F:U At,Zt (FK F) (.at a)=if a∈F then Z (.bl J')else J
 |[]=>by simp[FK,Zt]
 |b::F=>by
  have c:=V4 a F;erw[FK,Be]at c ⊢;unfold Zt;grind
theorem wO(F:U At):∀p∈FK F,Fd p.1=J':=by
 intro p a;obtain⟨e,_,rfl⟩:=Ba.mp a;rfl
theorem gD(F:U At)(a:At)(h:a∉F):Z4 (FK F) (.at a) (.bl J')=FK (F++[a]):=by
 unfold Z4;grind [V4,FK]
noncomputable def Fh(n:Nat):U At->U (EK×U At)->U (U At)->Bool
 |_,_,[]=>J'
 |F,S,l::b=>match l with
  |[]=>O'
  |a::_=>if l.length=n/\a∉F then(match Ef S (DC 0 l)with
   |some c=>Fh n (F++[a]) c b
   |none=>O')else O'
theorem gE(i:D)(g:U At)(s:Ap i (.int 0)=Z (Af g)):∀(f:A3)(F:U At)(S:U (EK×U At))(t j k n:Sl),(∀l∈f,1<=l.length/\l.length<=4)->S.length+4*f.length<100000->F.length+f.length<100000->(∃ρ,Fh g.length F S f=J'/\Z8 (Zc 3) ZM (f.map Af) [.val i,.own (Zb (SK Af S)) .d,.own (Zb (FK F)) .d,t,j,k,n]=.next ρ) \/(Fh g.length F S f=O'/\Z8 (Zc 3) ZM (f.map Af) [.val i,.own (Zb (SK Af S)) .d,.own (Zb (FK F)) .d,t,j,k,n]=.ret (.val (.bl O')))
 |[],F,S,t,j,k,n,_,_,_=>.inl #[_,rfl,rfl]
 |[]::f,F,S,t,j,k,n,h,_,_=>by have:=(h [] Bj).1;simp at this
 |(a::r)::f,F,S,t,j,k,n,h,z,u=>by
  erw[CT]at z u;have A:=h (a::r) Bj;have H:F.length<Ax:=BX (show F.length<100000 by exact C7 u) (by ext);have B:=PV a<|wO F;have v:=V4 a F;have w:(FK F).length=F.length:=by simp[FK]
  have b:Zo [Af g]=Z (.int g.length):=by simp[Af]
  have c:Zo [Af<|a::r]=Z (.int ((a::r).length:Int)):=by simp[Af]
  have o:Ap (Af<|a::r) (.int 0)=Z (aD a):=by erw[Af,Ap];exact(show atI ((a::r).map aD) 0=Z (aD a) by simp[atI,CG])
  have x:GV (Af<|a::r)=Z ((a::r).map aD):=rfl;erw[Be,Z8,Zc,Fg,EX];by_cases e:(a::r).length=g.length
  ·by_cases p:a∈F
   ·rw[if_pos p]at v;refine .inr #[by simp[Fh,p],?_];have q:ZM [.val i,.own (Zb<|SK Af S) .d,.own (Zb<|FK F) .d,.val<|Af<|a::r,j,k,n]=.ret (.val<|.bl O'):=by
     simp[ZM,-Ap,-Zo,s,o,b,c,e,V2 a,B,v]
    rw[q]
   ·rw[if_neg p]at v;have y:=V3 (.val i) (.own (Zb<|FK<|F++[a]) .d) (a::r) A.2 (a::r) [] S j k n (by simp) (by erw[CT]at A ⊢;lia);erw[HY]at y;rcases y with⟨C,Q,K,L,E,G,M⟩|⟨E,G⟩
    ·have N:=gE i g s f (F++[a]) C (.val<|Af<|a::r) Q K L (λm P=>h m<|BG _ P) (by erw[CT]at A G;lia) (by simp;lia);have q:ZM [.val i,.own (Zb<|SK Af S) .d,.own (Zb<|FK F) .d,.val<|Af<|a::r,j,k,n]=.next [.val i,.own (Zb<|SK Af C) .d,.own (Zb<|FK<|F++[a]) .d,.val<|Af<|a::r,Q,K,L]:=by
      simp[ZM,-Ap,-Zo,s,o,b,c,e,V2 a,B,v,KO,w,H,gD F a p,-GV,x,M,-Be]
     rw[q,show Fh g.length F S ((a::r)::f)=Fh g.length (F++[a]) C f by erw[Fh,e,p,E,not_false_eq_true,and_self,if_true]];exact N
    ·refine .inr #[(show Fh g.length F S ((a::r)::f)=O' by erw[Fh,e,p,E,not_false_eq_true,and_self,if_true]),?_];have q:ZM [.val i,.own (Zb<|SK Af S) .d,.own (Zb<|FK F) .d,.val<|Af<|a::r,j,k,n]=.ret (.val<|.bl O'):=by
      simp[ZM,-Ap,-Zo,s,o,b,c,e,V2 a,B,v,KO,w,H,gD F a p,-GV,x,G,-Be]
     rw[q]
  ·refine .inr #[by erw[Fh,e,false_and,if_false],?_];have q:ZM [.val i,.own (Zb<|SK Af S) .d,.own (Zb<|FK F) .d,.val<|Af<|a::r,j,k,n]=.ret (.val<|.bl O'):=by
    simp[ZM,-Ap,-Zo,s,b,c,show ¬ ((r.length:Int)+1=(g.length:Int)) by erw[CT]at e;exact Nat.ToInt.of_diseq rfl rfl e]
   rw[q]
theorem wP{d:D}(h:Cz d=J'):∃a,d=aD a:=by
 cases d with
 |int i=>exact#[.int i,rfl]
 |str x=>exact#[.str x,rfl]
 |_=>simp[Cz,Ee,Bq]at h
theorem gF:∀{xs:U D},xs.all Cz=J'->∃l:U At,xs=l.map aD
 |[],_=>#[[],rfl]
 |x::xs,h=>by
  erw[LS,C4]at h;obtain⟨a,rfl⟩:=wP h.1;obtain⟨l,rfl⟩:=gF h.2;exact#[a::l,rfl]
theorem IB{d:D}(h:Dg d=J'):∃l:U At,d=Af l/\1<=l.length/\l.length<=4:=by
 cases d with
 |tup a=>
  erw[Dg,C4,decide_eq_true_eq]at h;obtain⟨l,rfl⟩:=gF h.2;exact#[l,rfl,by simpa using h.1.1,by simpa using h.1.2]
 |_=>simp[Dg]at h
theorem gG:∀{xs:U D},xs.all Dg=J'->∃a:A3,xs=a.map Af/\∀l∈a,1<=l.length/\l.length<=4
 |[],_=>#[[],rfl,λ_ h=>nomatch h]
 |x::xs,h=>by
  erw[LS,C4]at h;obtain⟨l,rfl,c⟩:=IB h.1;obtain⟨a,rfl,d⟩:=gG h.2;refine#[l::a,rfl,λm b=>?_];rcases Bz.mp b with rfl|b
  ·exact c
  ·exact d m b
def IC(a:A3):Bool:=match a with
 |[]=>J'
 |l::_=>Fh l.length [] [] a
theorem wQ{e:AD}(a:∀d,Mx d->e [.val d]=Z (.bl (Dg d)))(xs:U D)(h:∀x∈xs,Mx x):Z2 (Zc 0) (λ_=>Z J') e [.no] xs=Z ((xs.map Dg).map D.bl):=by
 have:=Zw (b:=Zc 0) (e:=e) (ρ:=[.no]) (λd:D=>d) (λd=>D.bl<|Dg d) xs λd hd=>#[[.val d],rfl,a d<|h d hd];simp_all
theorem V5(xs:U D)(h:∀x∈xs,Mx x)(hz:xs.length<=1000):(xs.all Dg=O'/\Zu [#v[xs]]=Z (.val (.bl O')))\/(xs.all Dg=J'/\∃a:A3,xs=a.map Af/\(∀l∈a,1<=l.length/\l.length<=4)/\Zu [#v[xs]]=Z (.val (.bl (IC a)))):=by
 have k:=wQ (e:=UE) (λd hd=>by have:=wI d hd;rwa[UE,this,C3]) xs h;have c:xs.length<=Ax:=BR hz (by ext);have g:(xs.map Dg).all id=xs.all Dg:=by rw[List.all_map];rfl
 have i:(xs.map Dg).all (λx=>x)=xs.all Dg:=g;cases f:xs.all Dg with
 |false=>
  refine .inl #[rfl,?_];rw[f]at g i;simp[Zu,AS,On,Om,Ol,c,Zq,k,-Cp,g]
 |true=>
  rw[f]at g i;obtain⟨a,rfl,j⟩:=gG f;refine .inr #[rfl,a,rfl,j,?_];cases a with|nil=>simp[Zu,AS,On,Om,Ol,QR,QM,QQ,QN,QP,QO,UG,UF,Z2,Ig,Z8,IC]|cons b a=>
   have p:(b::a).length<=1000:=by rw[A9]at hz;exact hz
   have o:=gE (.lst<|(b::a).map Af) b (show Ap (.lst<|(b::a).map Af) (.int 0)=Z (Af b) by simp[atI,CG]) (b::a) [] [] .no .no .no .no j (by erw[HY];lia) (by erw[HY];lia);rw[show Zb (SK Af [])=[]from rfl,show Zb (FK [])=[]from rfl]at o;rw[show IC (b::a)=Fh b.length [] [] (b::a)from rfl];generalize (b::a).map Af=G at *;rcases o with⟨q,m,n⟩|⟨m,n⟩
   ·rw[m];simp[Zu,AS,On,Om,Ol,QR,QM,QQ,QN,QP,QO,UG,UF,c,Zq,k,-Cp,g,n]
   ·rw[m];simp[Zu,AS,On,Om,Ol,QR,QM,QQ,QN,QP,QO,c,Zq,k,-Cp,g,n]
def BF{T:Type}(E:U (EK×T)):Prop:=∀k t a,(k,t)∈E->(k,a)∈E->t=a
theorem gH{T:Type}{k:EK}{t:T}:∀{S:U (EK×T)},CC S k=Z t->(k,t)∈S
 |[],h=>by cases h
 |e::r,h=>by
  unfold CC at h;by_cases a:e.1=k
  ·grind [Bj]
  ·rw[if_neg a]at h;exact BG _<|gH h
theorem V6{T:Type}{k:EK}:∀{S:U (EK×T)},CC S k=J->∀t,(k,t)∉S
 |[],_,t,h=>nomatch h
 |e::r,a,t,h=>by
  unfold CC at a;by_cases b:e.1=k
  ·rw[if_pos b]at a;cases a
  ·rw[if_neg b]at a;rcases Bz.mp h with h|h
   ·exact b (by rw[<- h])
   ·exact V6 a t h
theorem V7{T:Type}[DecidableEq T]:∀(E S:U (EK×T)),BF S->(∃m,Ef S E=Z m/\(∀e,e∈m↔e∈S++E)/\BF (S++E))\/(Ef S E=J/\¬ BF (S++E))
 |[],S,h=>.inl #[S,rfl,by simp,by simpa using h]
 |e::E,S,h=>by
  unfold Ef;cases n:CC S e.1 with
  |some t=>
   have p:=gH n;by_cases o:t=e.2
   ·have d:∀x,x∈S++e::E↔x∈S++E:=λx=>by
     grind
    have j:BF (S++e::E)↔BF (S++E):=#[λf k t l g i=>f k t l ((d _).mpr g)<|(d _).mpr i,λf k t l g i=>f k t l ((d _).mp g)<|(d _).mp i];erw[o,if_true];rcases V7 E S h with⟨m,a,b,c⟩|⟨a,b⟩
    ·exact .inl #[m,a,λx=>(b x).trans (d x).symm,j.mpr c]
    ·exact .inr #[a,λf=>b<|j.mp f]
   ·erw[o,if_false];refine .inr #[trivial,λf=>o<|f e.1 t e.2 (Gw _ p)<|De _ Bj]
  |none=>
   have q:BF (S++[e]):=λk t l g i=>by
    erw[Cm,CP]at g i;rcases g with g|g<;>rcases i with i|i
    ·exact h k t l g i
    ·have:k=e.1:=by rw[<- i]
     subst this;exact absurd g<|(V6 n) t
    ·have:k=e.1:=by rw[<- g]
     subst this;exact absurd i<|(V6 n) l
    ·have:=g.trans i.symm;injection this
   rw[show S++e::E=S++[e]++E by simp];exact V7 E (S++[e]) q
noncomputable def hd(l:U At):At:=l.headD .non
noncomputable def Le{T:Type}[DecidableEq T](C1:U At->U (EK×T))(n:Nat):U At->U (EK×T)->U (U At)->Bool
 |_,_,[]=>J'
 |F,S,l::b=>match l with
  |[]=>O'
  |a::_=>if l.length=n/\a∉F then(match Ef S (C1 l)with
   |some c=>Le C1 n (F++[a]) c b
   |none=>O')else O'
theorem gI(n:Nat):∀(b:A3)(F:U At)(S:U (EK×U At)),Fh n F S b=Le (DC 0) n F S b
 |[],_,_=>rfl
 |[]::b,_,_=>rfl
 |(a::r)::b,F,S=>by
  erw[Fh,Le];cases Ef S (DC 0<|a::r)with
  |none=>rfl
  |some c=>erw[gI n b]
theorem BF.congr{T:Type}{E d:U (EK×T)}(h:∀e,e∈E↔e∈d):BF E↔BF d:=#[λf k t a b c=>f k t a ((h _).mpr b)<|(h _).mpr c,λf k t a b c=>f k t a ((h _).mp b)<|(h _).mp c]
theorem BF.left{T:Type}{E a:U (EK×T)}(h:BF (E++a)):BF E:=λk t b c d=>h k t b (Gw _ c)<|Gw _ d
theorem gJ{T:Type}[DecidableEq T](C1:U At->U (EK×T))(n:Nat):∀(b:A3)(F:U At)(S:U (EK×T)),F.Nodup->BF S->(∀l∈b,l≠[])->(Le C1 n F S b=J'↔(∀l∈b,l.length=n)/\(F++b.map hd).Nodup/\BF (S++b.flatMap C1))
 |[],F,S,k,m,_=>by simp[Le,k,m]
 |[]::b,F,S,k,m,h=>by exact absurd rfl<|h [] Bj
 |(a::r)::b,F,S,k,m,h=>by
  rw[show S++((a::r)::b).flatMap C1=S++C1 (a::r)++b.flatMap C1 by simp,show F++((a::r)::b).map hd=F++[a]++b.map hd by simp[hd]];have q:Le C1 n F S ((a::r)::b)=if(a::r).length=n/\a∉F then(match Ef S (C1<|a::r)with
   |some o=>Le C1 n (F++[a]) o b
   |none=>O')else O':=rfl
  rw[q];by_cases f:(a::r).length=n/\a∉F
  ·have s:(F++[a]).Nodup:=by
    rw[Js];exact#[k,by simp,λx v y u=>by simp at u;subst u;rintro rfl;exact f.2 v]
   rw[if_pos f];rcases V7 (C1<|a::r) S m with⟨o,t,p,w⟩|⟨t,p⟩
   ·erw[t];rw[gJ C1 n b (F++[a]) o s ((BF.congr p).mpr w)<|λl c=>h l<|BG _ c];have g:BF (o++b.flatMap C1)↔BF (S++C1 (a::r)++b.flatMap C1):=BF.congr λe=>by
     rw[Cm,Cm,p e]
    rw[g];constructor
    ·rintro⟨i,d,j⟩;exact⟨λl c=>by rcases Bz.mp c with rfl|c;exact f.1;exact i l c,d,j⟩
    ·rintro⟨i,d,j⟩;exact⟨λl c=>i l<|BG _ c,d,j⟩
   ·erw[t];constructor
    ·intro z;cases z
    ·rintro⟨_,_,j⟩;exact absurd j.left p
  ·rw[if_neg f];constructor
   ·intro z;cases z
   ·rintro⟨i,d,_⟩;refine absurd ⟨i _ Bj,λA=>?_⟩ f;rw[Js]at d;have:=d.1;rw[Js]at this;exact this.2.2 a A a (by simp) rfl
theorem Lf:∀(l:U At)(j:Nat)(e:EK×U At),e∈DC j l↔∃m,e.1.1=j+m/\l[m]?=Z e.1.2/\e.2=l.drop (m+1)
 |[],j,e=>by simp[DC]
 |a::r,j,e=>by
  rw[DC,Bz,Lf r (j+1) e];constructor
  ·rintro(rfl|⟨m,d,b,c⟩)
   ·exact#[0,by simp,by simp,by simp]
   ·exact#[m+1,by lia,by simpa using b,by simpa using c]
  ·rintro⟨m,d,b,c⟩;cases m with
   |zero=>
    left;obtain⟨⟨i,x⟩,t⟩:=e;simp at d b c;rw[d,b,c]
   |succ m=>right;exact#[m,by lia,by simpa using b,by simpa using c]
theorem wR{T:Type}:BF ([]:U (EK×T)):=λ_ _ _ h=>by cases h
theorem Sx(x:Ae):x.length=x.cps.toList.length:=rfl
theorem wT{a:Type}{f:Nat->a}{m:Nat}(h:((BB m).map f).Nodup){k:Nat}(b:j<m)(c:k<m)(e:f j=f k):j=k:=by grind [List.nodup_iff_pairwise_ne,List.pairwise_map,Nat.lt_trichotomy,List.pairwise_iff_getElem]
def GW(W:U Nat):Prop:=(∃c r,W=c::r/\c∈BQ.cps.toList)/\W.all JX=J'
theorem GW.word{W:U Nat}(h:GW W)(a:W.length<=12):Ld W=J':=by
 obtain⟨⟨c,r,rfl,b⟩,d⟩:=h;grind [Ld]
theorem wU{z:Ae}(h:GW z.cps.toList)(a:z.cps.toList.length<=12):Cz (aD (.str z))=J'/\Sm (aD (.str z)):=by
 refine#[?_,?_]
 ·show(Ee (.str z)||Bq (.str z))=J'
  grind [Ee,Bq,GW.word]
 ·show z.length<=100
  rw[Sx];lia
theorem JY(x k:Int)(a:0<k)(b:k<1000000000):GK (.int x) (.int k)=Z (.int (x/k)):=by
 show(if MY x k then Z (D.int<|x/k)else J)=_
 rw[if_pos #[a,by lia]]
theorem Dn(x k:Int)(a:0<k):Zs (.int x) (.int k)=Z (.int (x%k)):=by
 simp_all
theorem G0{x y:Int}(h:DN x y):EB (.int x) (.int y)=Z (.int (x*y)):=by show(if DN x y then Z (D.int<|x*y)else J)=_;rw[if_pos h]
theorem JZ(a b:Int):BK (.int a) (.int b)=Z (.bl (decide (a=b))):=rfl
noncomputable def ID(x:Int)(k:Nat):Int:=(x*45742+x/46949+29*(k:Int)+11)%2147483647
theorem wV(x:Int)(k:Nat):0<=ID x k/8:=by grind [ID]
def IE(x:Int)(k:Nat):Nat->U Int
 |0=>[]
 |n+1=>(ID x k/8)::IE (ID x k) (k+1) n
theorem gK:∀(n k:Nat)(x:Int),(IE x k n).length=n
 |0,_,_=>rfl
 |n+1,k,x=>by simp[IE,gK n]
theorem gL:∀(n k:Nat)(x:Int),∀y∈IE x k n,0<=y
 |0,_,_,y,h=>by cases h
 |n+1,k,x,y,h=>by
  erw[IE,Bz]at h;rcases h with rfl|h
  ·exact wV x k
  ·exact gL n _ _ y h
theorem wX(s0 a:Sl)(k:Nat)(x:Int)(acc:U Int)(hz:acc.length<Ax):Qx [s0,a,‹x›,.own (acc.map D.int),‹k›]=.next [s0,a,‹ID x k›,.own ((acc++[ID x k/8]).map D.int),‹k›]:=by
 have b:=G0 (x:=x) (y:=45742) (by right;decide);have c:=G0 (x:=29) (y:=(k:Int)) (by left;decide);unfold ID;rwa[Qx,b,JY x 46949 (by ext) (by ext),c,Dn (x*45742+x/46949+29*(k:Int)+11) 2147483647 (by ext),JY ((x*45742+x/46949+29*(k:Int)+11)%2147483647) 8 (by ext) (by ext),FO,Eb,A9,if_pos hz,Fw]
theorem gM(s0 c:Sl):∀(n k:Nat)(x:Int)(acc:U Int)(b:Sl),acc.length+n<100000->∃d a,Z8 (Zc 4) Qx ((Fi k n).map λ(k:Nat)=>D.int k) [s0,c,‹x›,.own (acc.map D.int),b]=.next [s0,c,‹d›,.own ((acc++IE x k n).map D.int),a]
 |0,k,x,acc,b,_=>#[x,b,by simp[Z8,IE]]
 |n+1,k,x,acc,b,h=>by
  obtain⟨d,a,e⟩:=gM s0 c n (k+1) (ID x k) (acc++[ID x k/8]) ‹k› (by simp;lia);have f:acc.length<Ax:=BX (show acc.length<100000 by exact C7 h) (by ext);refine#[d,a,?_];rw[Lg,Be];rwa[Z8];grind [wX,IE]
theorem Rl(c:Int)(n:Nat)(h:n<=100):∃ws:U Int,ZR [‹c›,‹n›]=Z #v[ws.map D.int]/\ws.length=n/\∀y∈ws,0<=y:=by
 have b:EQ [.int<|(n:Int)+2]=Z ((Fi 0<|n+2).map λ(k:Nat)=>D.int k):=by
  have:=Mj (n+2) (by lia);rw[My]at this;exact this
 obtain⟨i,d,e⟩:=gM ‹c› ‹n› (n+2) 0 (c%2147483549+17) [] .no (by simp;lia);have f:=gK (n+2) 0<|c%2147483549+17;have a:=gL (n+2) 0<|c%2147483549+17;erw[D8,Dh]at e;generalize IE (c%2147483549+17) 0 (n+2)=W at *;exact#[W.drop 2,by simp[ZR,AS,cI,cH,cG,cF,cE,cA,cB,cC,cD,b,e,show cutD (W.map D.int) (Z 2) J=(W.drop 2).map D.int by rw[TN,Qn _ _<|IF 2];rfl],by simp[f],λy g=>a y<|Rm g]
theorem wY(c:Int):∃ws:U Int,ZR [‹c›,‹40›]=Z #v[ws.map D.int]/\ws.length=40/\∀y∈ws,0<=y:=Rl c 40 (by ext)
theorem Mz{xs:U Int}{i:Int}(a:0<=i)(b:i<xs.length):atI (xs.map D.int) i=Z (.int (xs.getD i.toNat 0)):=by
 rw[show i=((i.toNat:Nat):Int) by exact Int.eq_natCast_toNat.mpr a];have h:i.toNat<xs.length:=(Int.toNat_lt a).mpr b;exact ZD (by rw[CW,Iq,BW h];simp[DH,h])
theorem gN{i g:Type}{b:D->VE->O VE}{e:AD}{ρ:VE}(G:i->D)(W:g->D)(P:g->Prop):∀(xs:U i),(∀x∈xs,∃c a,P c/\b (G x) ρ=Z a/\e a=Z (W c))->∃f:U g,Z2 b (λ_=>Z J') e ρ (xs.map G)=Z (f.map W)/\f.length=xs.length/\∀c∈f,P c
 |[],_=>#[[],rfl,rfl,λ_ h=>nomatch h]
 |x::xs,h=>by
  obtain⟨c,a,o,j,k⟩:=h x Bj;obtain⟨f,l,m,p⟩:=gN G W P xs λy n=>h y<|BG _ n;refine⟨c::f,?_,by simp[m],λd hd=>?_⟩
  ·rwa[Z2,j,k,l]
  ·grind [hd]
noncomputable abbrev cS(c:Nat):D:=.str #[(T' [c])]
theorem wZ:∀a:U Nat,(Txt.join "" (a.map λc=>(#[(T' [c])]:Ae))).cps.toList=a:=by
 intro a;show(Builtin.Str.glued ""<|a.map λc=>(#[(T' [c])]:Ae)).cps.toList=a
 rw[StrLaws.glued_eq_join];induction a with|nil=>rfl|cons c a b=>
  cases a with|nil=>rfl|cons d a=>
   show((#[(T' [c])]:Ae)++("":Ae)++Str.join "" ((d::a).map λc=>(#[(T' [c])]:Ae))).cps.toList=_
   have e:∀(x y:Ae),(x++y).cps.toList=x.cps.toList++y.cps.toList:=λx y=>by
    show(x.cps++y.cps).toList=_
    simp
   have f:("":Ae).cps.toList=[]:=by decide +kernel
   simp_all
structure gO(f:Nat->At):Prop where
 inj:∀j k,j<6->k<6->f j=f k->j=k
 val:∀k,k<6->Cz (aD (f k))=J'
 sm:∀k,k<6->Sm (aD (f k))
 lt:∀k i,k<6->f k=.int i -> -10^40<i/\i<10^40
theorem Lh{x y:Int}(h:Lu x y):D1 (.int x) (.int y)=Z (.int (x^y.toNat)):=by show(if Lu x y then Z (D.int<|x^y.toNat)else J)=_;rw[if_pos h]
theorem w5(c:Int)(k:Nat):JN [‹c›,‹0›,‹k›]=Z ‹(c%10^30-5*10^29+(k:Int))›:=by
 rfl
noncomputable def sg(i:Nat):Nat:=signs.cps.toList.getD i 0
theorem w6:((BB 36).map sg).Nodup:=by decide +kernel
theorem gP:∀i∈BB 26,sg i∈BQ.cps.toList:=by decide +kernel
theorem V8:∀i∈BB 36,JX (sg i)=J':=by decide +kernel
theorem gQ(i:Nat)(h:i<36):Ap (.str "abcdefghijklmnopqrstuvwxyz0123456789") (.int i)=Z (cS (sg i)):=by
 have a:signs.cps.toList.length=36:=by rw[<- Sx];exact gB
 show(if signs.length<=Ax then(atI signs.cps.toList (i:Int)).map λc=>D.str #[(T' [c])]else J)=_
 rw[if_pos (show signs.length<=Ax by rw[gB];decide),ZD<|BW (by lia)];simp[sg,DH,a,h]
noncomputable def md(j:Nat):Int:=if j=0 then 26 else 36
theorem gR(j:Nat):Ap (.lst [.int 36,.int 26]) (.int (if decide ((j:Int)=0)=J' then 1 else 0))=Z (.int (md j)):=by
 unfold md;by_cases h:j=0
 ·subst h;rfl
 ·erw[h,Int.ofNat_ne_zero.mpr h,decide_false,if_false];rfl
theorem Ro(j:Nat):0<md j/\md j<=36:=by unfold md;split<;>decide
def FC(x:Int)(j:Nat):Nat:=(x%md j).toNat
theorem Li(x:Int)(j:Nat):FC x j<36:=by
 have:=Ro j;unfold FC;have a:=G6 x this.1;grind
theorem gT(x:Int):FC x 0<26:=by grind [FC,md]
theorem Rp(x:Int)(j:Nat):x%md j=(FC x j:Int):=by grind [Ro,md,FC]
theorem w9(x:Int)(j:Nat){a b:Nat}(c:a<6)(d:b<6)(e:FC (x+5*(a:Int)) j=FC (x+5*(b:Int)) j):a=b:=by
 have f:(x+5*(a:Int))%md j=(x+5*(b:Int))%md j:=by rw[Rp,Rp,e]
 grind [md]
theorem xa(c:Int)(j:Nat)(b:j<1000):Qy [‹j›,.val (.str "abcdefghijklmnopqrstuvwxyz0123456789"),‹c›]=Z (cS (sg (FC (c/((j:Int)+2)+4*(j:Int)) j))):=by
 have a:=G0 (x:=4) (y:=(j:Int)) (by left;decide);erw[Qy,Za,A5,C0,C9,B7,IA,JY c ((j:Int)+2) (Int.sign_eq_one_iff_pos.mp rfl) (by lia),a,JZ,C6,Db,Zd,Zj,Gd,pk,L2.intD,Zm,Zf,if_pos (show([D.int 36,.int 26]:U D).length<=Ax by ext),Zr,gR j,Dn (c/((j:Int)+2)+4*(j:Int)) (md j) (Ro j).1];rw[Rp,gQ _<|Li (c/((j:Int)+2)+4*(j:Int)) j]
def wB(c:Int)(n:Nat):U Nat:=(BB n).map λ(j:Nat)=>sg (FC (c/((j:Int)+2)+4*(j:Int)) j)
def wK(c:Int)(n a:Nat)(k:Nat):U Nat:=(wB c n).set a (sg (FC (c/((a:Int)+2)+4*(a:Int)+5*(k:Int)) a))
noncomputable def wS(L:U Nat):Ae:=Txt.join "" (L.map λc=>(#[(T' [c])]:Ae))
theorem Rq(L:U Nat):(wS L).cps.toList=L:=wZ L
theorem Rr(c:Int)(n:Nat):(wB c n).length=n:=by simp[wB]
theorem xc(c:Int)(n:Nat):∀x∈wB c n,JX x=J':=by
 intro x a;obtain⟨j,b,rfl⟩:=Ba.mp a;grind [V8,Li]
theorem xf(c:Int)(n:Nat)(h:0<n):∃x r,wB c n=x::r/\x∈BQ.cps.toList:=by
 obtain⟨m,rfl⟩:∃m,n=m+1:=#[n-1,by exact(Nat.sub_eq_iff_eq_add h).mp rfl];exact#[_,_,by rw[wB,List.range_succ_eq_map,Be],gP _<|FD.mpr<|gT _]
theorem xg(c:Int)(n a k:Nat)(h:0<n):GW (wK c n a k):=by
 obtain⟨x,r,e,f⟩:=xf c n h;have d:=xc c n;unfold wK;rw[e]at d ⊢;cases a with
 |zero=>
  refine#[#[_,r,rfl,gP _<|FD.mpr<|gT _],Ec.mpr λy b=>?_];rcases Bz.mp b with rfl|b
  ·exact V8 _<|FD.mpr<|Li _ _
  ·exact d y<|BG _ b
 |succ a=>
  refine#[#[x,r.set a _,rfl,f],Ec.mpr λy b=>?_];grind [V8,Li]
theorem xh(c:Int)(n a:Nat)(d:a<n){k:Nat}(f:j<6)(g:k<6)(e:wK c n a j=wK c n a k):j=k:=by
 unfold wK at e;have b:=congrArg (λl=>l[a]?) e;erw[Gx (show a<(wB c n).length by exact Kr d (Rr c n).symm),Option.some.injEq]at b;exact w9 _ _ f g<|wT w6 (Li _ _) (Li _ _) b
theorem gU:∀L:U Nat,(L.map λ_=>1).sum=L.length
 |[]=>rfl
 |_::L=>by rw[Be,List.sum_cons,gU L,CT];exact Nat.add_comm 1 L.length
theorem xi(c w:Int)(s:¬ w=0)(n a k:Nat)(h:1+c%12=(n:Int))(d:n<=12)(i:c/12%(n:Int)=(a:Int))(l:a<n):JN [‹c›,‹w›,‹k›]=Z (.val (.str (wS (wK c n a k)))):=by
 have q3:=Dn (c/12) (n:Int) (by lia);rw[i]at q3;have g:=Zw (b:=Zc 0) (e:=Qy) (ρ:=[.no,.val<|.str "abcdefghijklmnopqrstuvwxyz0123456789",‹c›]) (λ(j:Nat)=>D.int j) (λ(j:Nat)=>cS<|sg<|FC (c/((j:Int)+2)+4*(j:Int)) j) (BB n) λj m=>#[_,rfl,xa c j (by have:=FD.mp m;lia)];rw[show(BB n).map (λ(j:Nat)=>cS<|sg<|FC (c/((j:Int)+2)+4*(j:Int)) j)=(wB c n).map cS by rw[wB,Cp];rfl]at g;have o:=G0 (x:=4) (y:=(a:Int)) (by left;decide);have f:=G0 (x:=5) (y:=(k:Int)) (by left;decide);have p:CG ((wB c n).map cS).length (a:Int)=Z a:=by
  rw[A9,Rr];unfold CG;grind
 have q:Jr ((wK c n a k).map cS)=Z ((wK c n a k).map λc=>(#[(T' [c])]:Ae)):=by
  have:=Y6<|(wK c n a k).map λc=>(#[(T' [c])]:Ae);rw[Cp]at this;exact this
 have r:(((wK c n a k).map λc=>(#[(T' [c])]:Ae)).map (·.length)).sum+((wK c n a k).map λc=>(#[(T' [c])]:Ae)).length*("":Ae).length<=16777216:=by
  have u:(wK c n a k).length=n:=by simp[wK,Rr]
  have v:((wK c n a k).map λc=>(#[(T' [c])]:Ae)).map (·.length)=(wK c n a k).map λ_=>1:=by rw[Cp];rfl
  have z:("":Ae).length=0:=by ext
  grind [gU]
 erw[JN,AS,CT,HY,FZ,if_true,cZ,cY,cJ,Za,A5,C0,C9,B7,HZ,D8,show AL (BK (.int w)<|.int 0)=Z O' by simp_all,ZX,Zg,Lj,MA,Lk,
  cX,cK,Z3,Fg,EX,cV,cL,Dn c 12 (by ext),IA,h,cU,cM,JY c 12 (by ext) (by ext),q3,cT,cN,Zk,C6,Db,AU,Zd,Zm,Mj n (by lia),Zf,if_pos (show((BB n).map λ(k:Nat)=>D.int k).length<=Ax by rw[A9,List.length_range];exact BR d (by ext)),Zq,Be,Dh,Jp,g,Z6]
 erw[cR,cO,Za,A5,C0,C9,B7,IA,JY c ((a:Int)+2) (Int.sign_eq_one_iff_pos.mp rfl) (by lia),o,f,JZ,C6,Db,Zd,Zj,Gd,pk,L2.intD,Zm,Zf,if_pos (show([D.int 36,.int 26]:U D).length<=Ax by ext),Zr,gR a,Dn (c/((a:Int)+2)+4*(a:Int)+5*(k:Int)) (md a) (Ro a).1,PN,Eb];rw[Rp,gQ _<|Li (c/((a:Int)+2)+4*(a:Int)+5*(k:Int)) a];erw[p,Fg,EX,show((wB c n).map cS).set a (cS<|sg<|FC (c/((a:Int)+2)+4*(a:Int)+5*(k:Int)) a)=(wK c n a k).map cS by rw[wK,List.map_set],Zg,cQ,cP,PP,Zd,CZ,C0,C9,B7,Gd,pk,PQ,q,if_pos r,ZA,wS]
theorem gW(c w:Int):∃f,gO f/\∀k:Nat,k<6->JN [‹c›,‹w›,‹k›]=Z (.val (aD (f k))):=by
 by_cases m:w=0
 ·subst m;refine#[λk=>.int<|c%10^30-5*10^29+(k:Int),⟨λj k _ _ e=>by injection e with e;lia,λk _=>rfl,λk _=>trivial,λk i o e=>?_⟩,λk _=>w5 c k];injection e with e;have l:=IG c (show(10^30:Int)≠0 by ext);have t:=G6 c (show(0:Int)<10^30 by ext);lia
 ·obtain⟨n,q,b,d⟩:∃n:Nat,1+c%12=(n:Int)/\0<n/\n<=12:=#[(1+c%12).toNat,by lia,by lia,by lia];have l:=IG (c/12) (show(n:Int)≠0 by exact V9.mpr b);obtain⟨a,r,g⟩:∃a:Nat,c/12%(n:Int)=(a:Int)/\a<n:=#[(c/12%(n:Int)).toNat,by exact Eq.symm<|OP l,by exact(Int.toNat_lt l).mpr<|G6 (c/12) (show(0:Int)<(n:Int) by exact G7.mpr b)];have h:∀k,Cz (aD<|.str<|wS<|wK c n a k)=J'/\Sm (aD<|.str<|wS<|wK c n a k):=λk=>wU (by rw[Rq];exact xg c n a k b) (by rw[Rq];simp[wK,Rr];lia);refine#[λk=>.str<|wS<|wK c n a k,⟨λj k s o e=>?_,λk _=>(h k).1,λk _=>(h k).2,λk i _ e=>nomatch e⟩,λk _=>xi c w m n a k q d r g];have p:(wS<|wK c n a j).cps.toList=(wS<|wK c n a k).cps.toList:=by lia
  rw[Rq,Rq]at p;exact xh c n a g s o p
theorem gX{b:U Int}{P:Int->Prop}(h:∀z∈b,P z)(i:Nat)(a:i<b.length):P (b.getD i 0):=by
 simp_all
noncomputable abbrev XS(ws:U Int):Sl:=#v[ws.map D.int]
theorem xj(ws:U Int)(n:ws.length=40)(s0 b c d e f g:Sl)(j:Nat)(o:1<=j)(a:j<10)(l:U Int)(h:l.length=j)(hz:∀z∈l,1<=z/\z<=6):∃z,1<=z/\z<=6/\QD [s0,XS ws,b,c,.own (l.map D.int),‹j›,d,e,f,g]=.next [s0,XS ws,b,c,.own ((l++[z]).map D.int),‹j›,d,e,f,g]:=by
 have k:=Mz (xs:=ws) (i:=2+(j:Int)) (IF<|2+j) (by lia);have m:=Mz (xs:=l) (i:=(j:Int)-1) (by lia) (by lia);have p:=gX hz ((j:Int)-1).toNat (by lia);generalize l.getD ((j:Int)-1).toNat 0=y,ws.getD (2+(j:Int)).toNat 0=w at *;have q:=G6 w (show 0<y by lia);exact#[1+w%y,by exact Int.le_add_of_nonneg_right<|IG w (show y≠0 by lia),by lia,by erw[QD,Za,A5,C0,C9,B7,IA,gA,Ap,k,m,Dn w y (by lia),FO,A9,if_pos (show l.length<Ax by rw[h];exact BX a (by ext)),Zg,Fg,EX,Fw,Be,Dh]]
theorem gY(ws:U Int)(q:ws.length=40)(s0 d f g h i l:Sl):∀(n j:Nat)(x:U Int)(m:Sl),1<=j->j+n<=9->x.length=j->(∀z∈x,1<=z/\z<=6)->∃(c:U Int) (a:Sl),c.length=j+n/\(∀z∈c,1<=z/\z<=6)/\Z8 (Zc 5) QD ((Fi j n).map λ(k:Nat)=>D.int k) [s0,XS ws,d,f,.own (x.map D.int),m,g,h,i,l]=.next [s0,XS ws,d,f,.own (c.map D.int),a,g,h,i,l]
 |0,j,x,m,_,_,p,o=>#[x,m,by lia,o,rfl]
 |n+1,j,x,m,r,v,p,o=>by
  obtain⟨z,s,t,e⟩:=xj ws q s0 d f g h i l j r (by lia) x p o;obtain⟨c,a,w,u,q3⟩:=gY ws q s0 d f g h i l n (j+1) (x++[z]) ‹j› (Kw r) (by lia) (by simp[p]) (λy b=>by
   rcases Cm.mp b with b|b
   ·exact o y b
   ·erw[CP]at b;subst b;exact#[s,t])
  refine#[c,a,by lia,u,?_];rw[Lg,Be];erw[Z8,Zc,Fg,EX];rw[e];exact q3
noncomputable def C1(a:Nat->Nat->Nat)(j x:Nat):Nat:=if j=0 then x else a j x
noncomputable def DL(f:Nat->Nat->At)(a:Nat->Nat->Nat):Nat->Nat->Nat->U At
 |_,_,0=>[]
 |j,x,n+1=>f j (C1 a j x)::DL f a (j+1) (C1 a j x) n
noncomputable def CD(ws a:U Int)(j x:Nat):Nat:=(ws.getD (7+7*j+x) 0%a.getD j 0).toNat
theorem xk(ws a:U Int)(j x:Nat)(h:1<=a.getD j 0):ws.getD (7+7*j+x) 0%a.getD j 0=(CD ws a j x:Int):=by
 have:=IG (ws.getD (7+7*j+x) 0) (show a.getD j 0≠0 by exact Bv (Int.ne_of_lt h));unfold CD;exact Eq.symm<|OP this
theorem gZ(ws b:U Int)(j x:Nat)(h:1<=b.getD j 0)(a:b.getD j 0<=6):CD ws b j x<6:=by
 have:=G6 (ws.getD (7+7*j+x) 0) (show 0<b.getD j 0 by exact TR h);unfold CD;lia
noncomputable def cW(c:Int)(ws:U Int):Int:=c+ws.getD 2 0*(ws.getD 6 0%2)
noncomputable def wW(ws:U Int)(j:Nat):Int:=(ws.getD 7 0+(j:Int)*(ws.getD 8 0%2))%2
def Ll(c:Int)(ws:U Int)(f:Nat->Nat->At):Prop:=∀j,gO (f j)/\∀k:Nat,k<6->JN [‹cW c ws›,‹wW ws j›,‹k›]=Z (.val (aD (f j k)))
theorem xl(c:Int)(ws:U Int):∃f,Ll c ws f:=#[λj=>Classical.choose<|gW (cW c ws)<|wW ws j,λj=>Classical.choose_spec<|gW (cW c ws)<|wW ws j]
theorem J0(ws:U Int)(a:ws.length=40)(i:Nat)(b:i<40):atI (ws.map D.int) (i:Int)=Z (.int (ws.getD i 0)):=by
 have:=Mz (xs:=ws) (i:=(i:Int)) (JJ i) (by lia);grind
theorem xm(c:Int)(ws:U Int)(b:ws.length=40)(f:Nat->Nat->At)(r:Ll c ws f)(d e g h:Sl)(A:U Int)(hz:∀z∈A,1<=z/\z<=6)(j x:Nat)(m:j<A.length)(s:j<4)(t:x<6)(acc:U At)(u:acc.length<100):Og [‹c›,XS ws,d,e,.own (A.map D.int),‹j›,g,h,.own (acc.map aD),‹x›]=.next [‹c›,XS ws,d,e,.own (A.map D.int),‹j›,g,h,.own ((acc++[f j (C1 (CD ws A) j x)]).map aD),‹(C1 (CD ws A) j x:Int)›]:=by
 have k:=gX hz j m;have cond:AL (D2 (.int j)<|.int 0)=Z (decide<|0<(j:Int)):=rfl;have fin:∀y:Nat,y<6->(Zg (FO 8 ((Zh JN<|λa=>Zd (C6<|(Za Zl (λa=>A5 a 0) (Za EB (Za Ap (λa=>A5 a 1) (λ_=>Z<|.int 2)) (Za Zs (Za Ap (λa=>A5 a 1) (λ_=>Z<|.int 6)) (λ_=>Z<|.int 2)))) a) (Zd (C6<|(Za Zs (Za Zl (Za Ap (λa=>A5 a 1) (λ_=>Z<|.int 7)) (Za EB (λa=>A5 a 5) (Za Zs (Za Ap (λa=>A5 a 1) (λ_=>Z<|.int 8)) (λ_=>Z<|.int 2)))) (λ_=>Z<|.int 2)) a) (Zd (CZ a 9)<|some []))) [‹c›,XS ws,d,e,.own<|A.map D.int,‹j›,g,h,.own<|acc.map aD,‹y›]) [‹c›,XS ws,d,e,.own<|A.map D.int,‹j›,g,h,.own<|acc.map aD,‹y›]) (λa=>.next a))=.next [‹c›,XS ws,d,e,.own<|A.map D.int,‹j›,g,h,.own<|(acc++[f j y]).map aD,‹y›]:=λy v=>by
  have n:=(r j).2 y v;unfold cW wW at n;erw[Zh,Za,A5,CZ,C0,C9,B7,Ap,show atI (ws.map D.int) 2=Z (.int<|ws.getD 2 0)from(J0 ws b 2<|Kz rfl),show atI (ws.map D.int) 6=Z (.int<|ws.getD 6 0)from(J0 ws b 6<|Kz rfl),show atI (ws.map D.int) 7=Z (.int<|ws.getD 7 0)from(J0 ws b 7<|Kz rfl),show atI (ws.map D.int) 8=Z (.int<|ws.getD 8 0)from(J0 ws b 8<|Kz rfl),Dn (ws.getD 6 0) 2 (by ext),Dn (ws.getD 8 0) 2 (by ext),G0 (show DN (ws.getD 2 0) (ws.getD 6 0%2) by right;constructor<;>lia),G0 (show DN (j:Int) (ws.getD 8 0%2) by right;constructor<;>lia),IA,Dn (ws.getD 7 0+(j:Int)*(ws.getD 8 0%2)) 2 (by ext),C6,Db,Zd,n,C3,FO,A9,if_pos (show acc.length<Ax from BX u (by ext)),Zg,Fg,EX,Fw,Be,Dh]
 by_cases o:j=0
 ·subst o;have:=fin x t;unfold Og;erw[Za,A5,C0,C9,B7,cond]at this ⊢;exact this
 ·have l:atI (ws.map D.int) (7+7*(j:Int)+(x:Int))=Z (.int<|ws.getD (7+7*j+x) 0):=by
   rw[<- (J0 ws b (7+7*j+x) (by lia))];congr 1
  have p:=Mz (xs:=A) (i:=(j:Int)) (JJ j) (MB.mpr m);rw[Iq]at p;have q:=Dn (ws.getD (7+7*j+x) 0) (A.getD j 0) (by lia);rw[xk ws A j x k.1]at q;have w:=G0 (x:=7) (y:=(j:Int)) (by left;decide);have:=fin (CD ws A j x)<|gZ ws A j x k.1 k.2;unfold Og;rw[show C1 (CD ws A) j x=CD ws A j x from if_neg o];erw[Za,A5,C0,C9,B7,cond,show decide (0<(j:Int))=J' from decide_eq_true (by lia),ZX,w,IA,Ap,l,p,q,Z3,Zg,Fg,EX]at this ⊢;exact this
theorem Wa(ws c:U Int)(hz:∀z∈c,1<=z/\z<=6)(j x:Nat)(b:j<c.length)(a:x<6):C1 (CD ws c) j x<6:=by
 unfold C1;split
 ·exact a
 ·simp_all [gZ]
theorem g5(c:Int)(ws:U Int)(l:ws.length=40)(f:Nat->Nat->At)(m:Ll c ws f)(d e g h:Sl)(t:U Int)(hz:∀z∈t,1<=z/\z<=6):∀(n j x:Nat)(acc:U At)(i:Sl),j+n<=t.length->j+n<=4->x<6->acc.length+n<100->∃(a:Sl) (b:Sl),Z8 (Zc 5) Og ((Fi j n).map λ(k:Nat)=>D.int k) [‹c›,XS ws,d,e,.own (t.map D.int),i,g,h,.own (acc.map aD),‹x›]=.next [‹c›,XS ws,d,e,.own (t.map D.int),a,g,h,.own ((acc++DL f (CD ws t) j x n).map aD),b]
 |0,j,x,acc,i,_,_,_,_=>#[i,_,by simp[Z8,DL];rfl]
 |n+1,j,x,acc,i,o,r,p,s=>by
  obtain⟨a,b,q⟩:=g5 c ws l f m d e g h t hz n (j+1) (C1 (CD ws t) j x) (acc++[f j<|C1 (CD ws t) j x]) ‹j› (by lia) (by lia) (Wa ws t hz j x (C7 o) p) (by simp;lia);refine⟨a,b,?_⟩;rw[Lg,Be];erw[Z8,Zc,Fg,EX];rw[xm c ws l f m d e g h t hz j x (C7 o) (C7 r) p acc<|C7 s];simp only;rw[q];erw[DL,NK,List.singleton_append]
structure GL(ls:A3)(p:Nat):Prop where
 n1:1<=ls.length
 n6:ls.length<=40
 p1:1<=p
 p4:p<=4
 len:∀l∈ls,l.length=p
 val:∀l∈ls,∀a∈l,Cz (aD a)=J'/\Sm (aD a)/\∀i,a=.int i->(-10^40<i/\i<10^40)\/10^45<=i/\i<10^46
 hdn:(ls.map hd).Nodup
 fn:BF (ls.flatMap (DC 0))
theorem Wb(l:U At)(a:A3)(b:∀x∈l::a,x≠[]):IC (l::a)=J'↔(∀x∈l::a,x.length=l.length)/\((l::a).map hd).Nodup/\BF ((l::a).flatMap (DC 0)):=by
 show Fh l.length [] [] (l::a)=J'↔_
 rw[gI,gJ (DC 0) _ _ _ _ List.nodup_nil wR b,D8,D8]
theorem GL.ne{a:A3}{p:Nat}(h:GL a p):∀x∈a,x≠[]:=λx b e=>by
 have:=h.len x b;have:=h.p1;grind
theorem GL.go{a:A3}{p:Nat}(h:GL a p):IC a=J':=by
 cases a with|nil=>rfl|cons l a=>
  rw[Wb l a h.ne];exact#[λx b=>by rw[h.len x b,h.len l Bj],h.hdn,h.fn]
theorem GL.take{b:A3}{p:Nat}(h:GL b p)(n:Nat)(g:1<=n):GL (b.take n) p:=by
 have c:∀x∈b.take n,x∈b:=λx i=>Wc i;refine#[?_,?_,h.p1,h.p4,λl a=>h.len l<|c l a,λl a=>h.val l<|c l a,?_,?_]
 ·rw[IY];have:=h.n1;exact Nat.le_min_of_le_of_le g this
 ·rw[IY];have:=h.n6;lia
 ·rw[List.map_take];exact h.hdn.sublist<|List.take_sublist _ _
 ·intro k t j m o;obtain⟨l,a,e⟩:=IH.mp m;obtain⟨f,d,q⟩:=IH.mp o;exact h.fn k t j (IH.mpr #[l,c l a,e])<|IH.mpr ⟨f,c f d,q⟩
theorem OQ(f:Nat->Nat->At)(a:Nat->Nat->Nat):∀(n j x:Nat),(DL f a j x n).length=n
 |0,_,_=>rfl
 |n+1,j,x=>by simp[DL,OQ f a n]
noncomputable def J1(a:Nat->Nat->Nat)(j x:Nat):Nat->Nat
 |0=>C1 a j x
 |i+1=>J1 a (j+1) (C1 a j x) i
theorem OR(f:Nat->Nat->At)(a:Nat->Nat->Nat):∀(i n j x:Nat),i<n->(DL f a j x n)[i]?=Z (f (j+i) (J1 a j x i))/\(DL f a j x n).drop (i+1)=DL f a (j+i+1) (J1 a j x i) (n-i-1)
 |_,0,_,_,h=>by lia
 |0,n+1,j,x,_=>by simp[DL,J1]
 |i+1,n+1,j,x,h=>by
  obtain⟨b,c⟩:=OR f a i n (j+1) (C1 a j x)<|Nat.succ_lt_succ_iff.mp h;grind [DL,J1]
theorem Wd(ws c:U Int)(hz:∀z∈c,1<=z/\z<=6):∀(i j x:Nat),j+i<c.length->x<6->J1 (CD ws c) j x i<6
 |0,j,x,a,b=>Wa ws c hz j x (PX a) b
 |i+1,j,x,a,b=>Wd ws c hz i (j+1) _ (by lia)<|Wa ws c hz j x (C7 a) b
theorem xn(c:Int)(ws:U Int)(f:Nat->Nat->At)(o:Ll c ws f)(R:U Int)(hz:∀z∈R,1<=z/\z<=6)(p m:Nat)(hp:R.length=p)(p1:1<=p)(p4:p<=4)(P:1<=m)(m6:m<=6)(a:Nat->Nat)(B:∀k,k<m->a k<6)(r:∀j k,j<m->k<m->a j=a k->j=k):GL ((BB m).map λk=>DL f (CD ws R) 0 (a k) p) p:=by
 have C:∀(k i:Nat),k<m->i<p->(DL f (CD ws R) 0 (a k) p)[i]?=Z (f i<|J1 (CD ws R) 0 (a k) i)/\J1 (CD ws R) 0 (a k) i<6:=λk i s d=>by
  have:=(OR f (CD ws R) i p 0 (a k) d).1;rw[HD]at this;exact#[this,Wd ws R hz i 0 (a k) (by lia)<|B k s]
 refine#[by simpa using P,by rw[A9,List.length_range];lia,p1,p4,λl u=>?_,λl u b Y=>?_,?_,?_]
 ·obtain⟨k,_,rfl⟩:=Ba.mp u;exact OQ _ _ _ _ _
 ·obtain⟨k,s,rfl⟩:=Ba.mp u;obtain⟨i,r,e⟩:=List.mem_iff_getElem.mp Y;have d:i<p:=by rw[OQ]at r;exact r
  obtain⟨h,w⟩:=C k i (FD.mp s) d;rw[BW r,e]at h;injection h with h
  subst h;exact#[(o i).1.val _ w,(o i).1.sm _ w,λn hn=>.inl<|(o i).1.lt _ n w hn]
 ·rw[Cp];refine List.pairwise_map.mpr<|List.Pairwise.imp_of_mem (λ{x y} L M E e=>E ?_) (List.nodup_range (n:=m));have h0:∀k,hd (DL f (CD ws R) 0 (a k) p)=f 0 (a k):=λk=>by
   obtain⟨q,rfl⟩:∃q,p=q+1:=#[p-1,by exact(Nat.sub_eq_iff_eq_add p1).mp rfl];rfl
  have e:f 0 (a x)=f 0 (a y):=by grind
  exact r x y (FD.mp L) (FD.mp M)<|(o 0).1.inj _ _ (B x<|FD.mp L) (B y<|FD.mp M) e
 ·rintro⟨i,v⟩ t t' h1 h2;obtain⟨l,u,e⟩:=IH.mp h1;obtain⟨l',G,e'⟩:=IH.mp h2;obtain⟨k,s,rfl⟩:=Ba.mp u;obtain⟨N,H,rfl⟩:=Ba.mp G;obtain⟨n,K,A,Q⟩:=(Lf _ _ _).mp e;obtain⟨g,b1,S,T⟩:=(Lf _ _ _).mp e';erw[HD]at K b1 A S Q T;subst K;have F:g=i:=by lia
  subst F;have d:g<p:=by
   have:=(BC.mp A).1;rw[OQ]at this;exact this
  obtain⟨h,w⟩:=C k g (FD.mp s) d;obtain⟨g3,g4⟩:=C N g (FD.mp H) d;rw[h]at A;rw[g3]at S;rw[Q,T,(OR f (CD ws R) g p 0 (a k) d).2,(OR f (CD ws R) g p 0 (a N) d).2,(o g).1.inj _ _ w g4 (by rw[FE A,FE S])]
def Lm(b:A3):Prop:=∀l∈b,∀a∈l,∀i,a=.int i->i<10^40
theorem xo(c:Int)(ws:U Int)(f:Nat->Nat->At)(o:Ll c ws f)(A:U Int)(hz:∀z∈A,1<=z/\z<=6)(p m:Nat)(v:A.length=p)(p1:1<=p)(p4:p<=4)(w:1<=m)(x:m<=6)(a:Nat->Nat)(q:∀k,k<m->a k<6)(y:∀j k,j<m->k<m->a j=a k->j=k):Lm ((BB m).map λk=>DL f (CD ws A) 0 (a k) p):=by
 intro l r b s n t;obtain⟨k,u,rfl⟩:=Ba.mp r;obtain⟨i,d,e⟩:=List.mem_iff_getElem.mp s;have h:i<p:=by rw[OQ]at d;exact d
 obtain⟨g,_⟩:=OR f (CD ws A) i p 0 (a k) h;rw[BW d,e]at g;injection g with g
 rw[HD]at g;exact((o i).1.lt _ n (Wd ws A hz i 0 (a k) (by lia)<|q k<|FD.mp u)<|g ▸ t).2
noncomputable def aW(ws:U Int)(m k:Nat):Nat:=(((k:Int)+ws.getD 2 0)%(m:Int)).toNat
theorem We(ws:U Int)(m k:Nat)(a:0<m):((k:Int)+ws.getD 2 0)%(m:Int)=(aW ws m k:Int):=by
 have:=IG ((k:Int)+ws.getD 2 0) (show(m:Int)≠0 by exact V9.mpr a);unfold aW;exact Eq.symm<|OP this
theorem g6(ws:U Int)(m k:Nat)(a:0<m):aW ws m k<m:=by simp_all [G6,aW]
theorem xp(c:Int)(m j k:Nat)(a:m<=6)(b:j<m)(d:k<m)(e:((j:Int)+c)%(m:Int)=((k:Int)+c)%(m:Int)):j=k:=by
 have:m=1\/m=2\/m=3\/m=4\/m=5\/m=6:=by lia
 rcases this with rfl|rfl|rfl|rfl|rfl|rfl<;>lia
theorem xq(c:Int)(ws:U Int)(g:ws.length=40)(f:Nat->Nat->At)(l:Ll c ws f)(u:U Int)(hz:∀z∈u,1<=z/\z<=6)(p m k:Nat)(t:u.length=p)(p4:p<=4)(d:1<=m)(n:m<=6)(acc:A3)(o:acc.length<100)(h r s:Sl):∃a e b,QE [‹c›,XS ws,‹m›,‹p›,.own (u.map D.int),h,.own (acc.map Af),‹k›,r,s]=.next [‹c›,XS ws,‹m›,‹p›,.own (u.map D.int),a,.own ((acc++[DL f (CD ws u) 0 (aW ws m k) p]).map Af),‹k›,e,b]:=by
 have i:=Dn ((k:Int)+ws.getD 2 0) (m:Int)<|G7.mpr d;rw[We ws m k<|KR d]at i;have j:=Mj p (by lia);rw[My]at j;obtain⟨a,b,q⟩:=g5 c ws g f l ‹m› ‹p› (.own<|acc.map Af) ‹k› u hz p 0 (aW ws m k) [] h (by lia) (by lia) (BX (g6 ws m k<|KR d) n) (by simp;lia);erw[Dh,D8]at q;refine⟨a,.own<|(DL f (CD ws u) 0 (aW ws m k) p).map aD,b,?_⟩;rwa[QE,Zf,if_pos<|F8 _,Z6,Ap,show atI (ws.map D.int) 2=Z (.int<|ws.getD 2 0)from J0 ws g 2 (Kz rfl),i,EA,j,q,FO,Eb,show Em [.lst<|(DL f (CD ws u) 0 (aW ws m k) p).map aD]=Z (Af<|DL f (CD ws u) 0 (aW ws m k) p)from rfl,A9,if_pos (show acc.length<Ax from BX o (by ext)),Fw]
theorem g8(c:Int)(ws:U Int)(r:ws.length=40)(f:Nat->Nat->At)(s:Ll c ws f)(A:U Int)(hz:∀z∈A,1<=z/\z<=6)(p m:Nat)(t:A.length=p)(p4:p<=4)(u:1<=m)(v:m<=6):∀(n k:Nat)(acc:A3)(a o b d:Sl),acc.length+n<100->∃(g i j l:Sl),Z8 (Zc 7) QE ((Fi k n).map λ(k:Nat)=>D.int k) [‹c›,XS ws,‹m›,‹p›,.own (A.map D.int),a,.own (acc.map Af),o,b,d]=.next [‹c›,XS ws,‹m›,‹p›,.own (A.map D.int),g,.own ((acc++(Fi k n).map λk=>DL f (CD ws A) 0 (aW ws m k) p).map Af),i,j,l]
 |0,k,acc,a,o,b,d,_=>#[a,o,b,d,by simp[Z8]]
 |n+1,k,acc,a,o,b,d,h=>by
  obtain⟨w,x,y,e⟩:=xq c ws r f s A hz p m k t p4 u v acc (C7 h) a b d;obtain⟨g,i,j,l,q⟩:=g8 c ws r f s A hz p m t p4 u v n (k+1) (acc++[DL f (CD ws A) 0 (aW ws m k) p]) w ‹k› x y (by simp;lia);rw[Lg,Be];rwa[Z8];simp_all
theorem g9{l:U Nat}(h:l.length=8)(c:∀m∈l,1<=m/\m<=4)(x:Int):∃p:Nat,1<=p/\p<=4/\atI (l.map λm:Nat=>D.int m) (x%8)=Z (.int p):=by
 obtain⟨i,d,a⟩:∃i:Nat,x%8=(i:Int)/\i<l.length:=#[(x%8).toNat,by lia,by lia];have b:=c _<|Gf a;exact⟨_,b.1,b.2,d ▸ ZD (by simp[a])⟩
theorem xr(x:Int):∃p:Nat,1<=p/\p<=4/\atI [D.int 2,.int 1,.int 3,.int 2,.int 3,.int 4,.int 2,.int 3] (x%8)=Z (.int p):=g9 (l:=[2,1,3,2,3,4,2,3]) rfl (by ext) x
theorem xt(c:Int):∃h p,(GL h p/\Lm h)/\QF [‹c›]=Z (.own (h.map Af)):=by
 obtain⟨a,w,g,_⟩:=wY c;obtain⟨f,i⟩:=xl c a;obtain⟨m,x,b,d⟩:∃m:Nat,1+a.getD 0 0%6=(m:Int)/\1<=m/\m<=6:=#[(1+a.getD 0 0%6).toNat,by lia,by lia,by lia];obtain⟨p,p1,p4,y⟩:=xr<|a.getD 1 0;have o:=vf 1 (p:Int) (by ext) (by ext) (by lia)<|(Int.toNat_lt' p1).mp p1;have l:(BB ((p:Int)-1).toNat).map (λ(k:Nat)=>D.int<|1+(k:Int))=(Fi 1<|p-1).map λ(k:Nat)=>D.int k:=by
  simp_all [List.range'_eq_map_range,Cp]
 rw[l]at o;obtain⟨K,A,F,n,r⟩:=gY a g ‹c› ‹m› ‹p› .no .no .no .no (p-1) 1 [(m:Int)] .no (Nat.le_of_ble_eq_true rfl) (by lia) rfl (λz s=>by erw[CP]at s;subst s;lia);have t:=Mj m (by lia);rw[My]at t;obtain⟨B,C,E,G,q⟩:=g8 c a g f i K n p m (by lia) p4 b d m 0 [] A .no .no .no (by simp;lia);erw[Dh,D8]at q;refine#[(Fi 0 m).map λk=>DL f (CD a K) 0 (aW a m k) p,p,?_,?_]
 ·rw[<- My];have u:∀k,k<m->aW a m k<6:=λk _=>by have:=g6 a m k<|KR b;exact BX this d
  have v:∀j k,j<m->k<m->aW a m j=aW a m k->j=k:=λj k H L e=>xp (a.getD 2 0) m j k d H L (by rw[We a m j<|KR b,We a m k<|KR b,e]);exact⟨xn c a f i K n p m (by lia) p1 p4 b d (aW a m) u v,xo c a f i K n p m (by lia) p1 p4 b d (aW a m) u v⟩
 ·erw[Be,Dh]at r;rwa[QF,AS,FZ,dN,dM,dr,HZ,D8,w,C3,Lj,MA,Lk,dL,dt,Ap,show atI (a.map D.int) 0=Z (.int<|a.getD 0 0)from J0 a g 0 (Nat.zero_lt_succ 39),Dn (a.getD 0 0) 6 (by ext),x,dK,dy,Zf,if_pos (show(8:Nat)<=Ax by ext),show atI (a.map D.int) 1=Z (.int<|a.getD 1 0)from J0 a g 1 (Nat.one_lt_succ_succ 38),Dn (a.getD 1 0) 8 (by ext),y,dJ,dz,if_pos (show(1:Nat)<=Ax by ext),Z6,dI,dA,EA,o,r,dH,dB,Zf,if_pos<|F8 _,Z6,dG,dC,t,q,dF,dE,Eb,Cn]
abbrev LD(a:A3):D:=.lst (a.map Af)
theorem xu(ns:U Int)(k:Nat):∃a,(∃p,GL a p/\Lm a)/\QK [‹k›,#v[ns.map D.int]]=Z (LD a):=by
 have b:=G0 (x:=1000) (y:=(k:Int)) (by left;decide);obtain⟨a,p,c,d⟩:=xt<|ns.getD (1+(k:Int)).toNat 0+1000*(k:Int);refine⟨a,⟨p,c⟩,?_⟩;rwa[QK,Mw #v[ns.map D.int] ns (.inl rfl) (1+(k:Int))<|IF<|1+k,b,C3,d]
theorem xw(x:Int):∃m:Nat,1<=m/\m<=4/\atI [D.int 2,.int 1,.int 2,.int 3,.int 1,.int 2,.int 3,.int 4] (x%8)=Z (.int m):=g9 (l:=[2,1,2,3,1,2,3,4]) rfl (by ext) x
structure Cb(Ls:AT):Prop where
 n1:1<=Ls.length
 n4:Ls.length<=4
 good:∀ls∈Ls,∃p,GL ls p
theorem xx(a:A3):QL [.val (LD a)]=Z (LD (a.take 3)):=by
 have:=TQ (a.map Af) 3 (by ext);rwa[QL,Ce,Ca,Cu,this];simp_all
theorem xy(ns:U Int):∃c,(Cb c/\∀a∈c,Lm a)/\Oi [#v[ns.map D.int]]=Z (.own (c.map LD)):=by
 have t:=Mw #v[ns.map D.int] ns (.inl rfl) 0 (by ext);obtain⟨m,u,n,w⟩:=xw<|ns.getD (0:Int).toNat 0;have x:=Dn (ns.getD (0:Int).toNat 0) 8 (by ext);have y:=Mj m (by lia);obtain⟨c,z,d,o⟩:=gN (b:=Zc 0) (e:=QK) (ρ:=[.no,#v[ns.map D.int]]) (λ(k:Nat)=>D.int k) LD (λa=>∃p,GL a p/\Lm a) (BB m) λk _=>by
  obtain⟨a,⟨p,f,E⟩,G⟩:=xu ns k;exact#[a,_,#[p,f,E],rfl,G]
 rw[List.length_range]at d;have g:(8:Nat)<=Ax:=by ext
 have i:((BB m).map λ(k:Nat)=>D.int k).length<=Ax:=by rw[A9,List.length_range];exact BR n (by ext)
 have A:=Zw (b:=Zc 0) (e:=QL) (ρ:=[.no]) LD (λa=>LD<|a.take 3) c λa _=>#[_,rfl,xx a];rw[show c.map (λa=>LD<|a.take 3)=(c.map λa=>a.take 3).map LD by rw[Cp];rfl]at A;have r:=JZ (m:Int) 4;by_cases B:(m:Int)=4
 ·refine#[c.map λa=>a.take 3,#[#[by rw[A9];exact le_of_le_of_eq u d.symm,by rw[A9];exact le_of_eq_of_le d n,λa h=>?_],λa h=>?_],?_]
  ·obtain⟨s,f,rfl⟩:=Ba.mp h;obtain⟨p,j,_⟩:=o s f;exact#[p,j.take 3 (by ext)]
  ·obtain⟨s,f,rfl⟩:=Ba.mp h;obtain⟨p,_,j⟩:=o s f;exact λl H=>j l<|Wc H
  ·rw[decide_eq_true B]at r;rwa[Oi,AS,FZ,UD,UC,Uv,HZ,D8,t,C3,x,Zf,if_pos g,Ap,w,Lj,MA,Lk,UB,Uw,Zk,y,if_pos i,Zq,Jp,z,UA,Ux,r,if_pos (show(c.map LD).length<=Ax by rw[A9,d];exact BR n (by ext)),A,Uz,Uy,Cn,Eb,Z6,JH,LM]
 ·refine#[c,#[#[by exact le_of_le_of_eq u d.symm,by exact le_of_eq_of_le d n,λa h=>let⟨p,j,_⟩:=o a h;#[p,j]],λa h=>let⟨_,_,q⟩:=o a h;q],?_];rw[decide_eq_false B]at r;rwa[Oi,AS,FZ,UD,UC,Uv,HZ,D8,t,C3,x,Zf,if_pos g,Ap,w,Lj,MA,Lk,UB,Uw,Zk,y,if_pos i,Zq,Jp,z,UA,Ux,r,Uz,Uy,Cn,Eb,Z6,JH,LM]
theorem xz(xs:U D)(c:1<=xs.length)(d:xs.length<=40)(b:Bool)(a:Zu [#v[xs]]=Z (.val (.bl b))):JQ [#v[xs]]=Z (.val (.bl b)):=by
 simp[JQ,AS,dQ,show ¬ ((xs.length:Int)<1) by lia,show ¬ (40:Int)<(xs.length:Int) by lia,a]
theorem hD{l:U At}(b:1<=l.length)(c:l.length<=4)(d:∀a∈l,Cz (aD a)=J'):Dg (Af l)=J':=by grind [Af,Dg]
theorem xA{a b:U At}(h:Af a=Af b):a=b:=by
 have:=Rk a b;grind [Rk]
theorem Wf:∀{a b:A3},a.map Af=b.map Af->a=b
 |[],[],_=>rfl
 |[],_::_,h=>nomatch h
 |_::_,[],h=>nomatch h
 |x::a,y::b,h=>by
  erw[Be,PR]at h;rw[xA h.1,Wf h.2]
structure Ln(l:List At):Prop where
 l1:1<=l.length
 l4:l.length<=4
 val:∀a∈l,Cz (aD a)=J'/\Sm (aD a)
theorem Ln.sml{l:U At}(h:Ln l):Mx (Af l):=#[by rw[A9];have:=h.l4;lia,λx b=>by obtain⟨a,c,rfl⟩:=Ba.mp b;exact(h.val a c).2]
theorem xB(b:A3)(f:1<=b.length)(i:b.length<=40)(c:∀l∈b,Ln l):JQ [.val (LD b)]=Z (.val (.bl (IC b))):=by
 refine xz _ (by simpa using f) (by simpa using i) _ ?_;rcases V5 (b.map Af) (λx d=>by obtain⟨l,h,rfl⟩:=Ba.mp d;exact(c l h).sml) (by rw[A9];lia)with⟨a,_⟩|⟨_,j,e,_,g⟩
 ·have:(b.map Af).all Dg=J':=Ec.mpr λx d=>by
   obtain⟨l,h,rfl⟩:=Ba.mp d;exact hD (c l h).l1 (c l h).l4 λa k=>((c l h).val a k).1
  rw[this]at a;cases a
 ·grind [Wf]
theorem GL.ln{c:A3}{p:Nat}(h:GL c p):∀l∈c,Ln l:=λl b=>#[h.len l b ▸ h.p1,h.len l b ▸ h.p4,λa d=>#[(h.val l b a d).1,(h.val l b a d).2.1]]
theorem GL.il{a:A3}{p:Nat}(h:GL a p):JQ [.val (LD a)]=Z (.val (.bl J')):=by
 rw[xB a h.n1 (by have:=h.n6;lia) h.ln,h.go]
theorem xE{a:Type}(G:a->D)(F:a->Bool)(xs:U a)(h:∀x∈xs,JQ [.val (G x)]=Z (.val (.bl (F x)))):Z2 (Zc 0) (λ_=>Z J') QU [.no] (xs.map G)=Z ((xs.map F).map D.bl):=by
 have:=Zw (b:=Zc 0) (e:=QU) (ρ:=[.no]) G (λx=>D.bl<|F x) xs λx c=>#[[.val<|G x],rfl,by rwa[QU,h x c,C3]];simp_all
theorem xG{a:Type}(G:a->D)(F:a->Bool)(xs:U a)(c:1<=xs.length)(b:xs.length<=4)(h:∀x∈xs,JQ [.val (G x)]=Z (.val (.bl (F x)))):Oq [#v[xs.map G]]=Z (.val (.bl (xs.all F))):=by
 simp[Oq,AS,dZ,show ¬ ((xs.length:Int)<1) by lia,show ¬ (4:Int)<(xs.length:Int) by lia,show xs.length<=Ax from BR b (by ext),Zq,xE G F xs h,-Cp]
theorem Cb.al{a:AT}(h:Cb a):Oq [#v[a.map LD]]=Z (.val (.bl J')):=by
 rw[xG LD (λ_=>J') a h.n1 h.n4 λb c=>by obtain⟨p,d⟩:=h.good b c;exact d.il];simp
noncomputable abbrev J2(a:AT):D:=.tup (a.map λ_=>D.int 0)
theorem hE{a:AT}(h:Cb a):N9 [#v[a.map LD]]=Z (.val (J2 a)):=by
 rwa[N9,AS,FZ,cr,Lj,Lk,DO,Zk,Zf,if_pos (show(a.map LD).length<=Ax by rw[A9];exact BR h.n4 (by ext)),Zq,MA,Zw (b:=Zc 0) (e:=cq) (ρ:=[.no]) LD (λ_=>D.int 0) a λc _=>#[[.val<|LD c],rfl,rfl],show Em [.lst<|a.map λ_=>D.int 0]=Z (J2 a)from rfl]
structure TO{α:Type}(lt:α->α->Bool):Prop where
 asym:∀a b,lt a b=J'->lt b a=O'
 neg:∀a b c,lt a c=J'->lt a b=J'\/lt b c=J'
 anti:∀a b,lt a b=O'->lt b a=O'->a=b
noncomputable def MC{a:Type}(lt:a->a->Bool)(x:a):U a->U a
 |[]=>[x]
 |y::r=>if lt x y then x::y::r else y::MC lt x r
def ZB{a:Type}(lt:a->a->Bool):U a->U a
 |[]=>[]
 |x::r=>MC lt x (ZB lt r)
theorem hG{a:Type}(lt:a->a->Bool)(x:a):∀l,(MC lt x l).Perm (x::l)
 |[]=>.refl _
 |y::r=>by
  unfold MC;split
  ·exact .refl _
  ·exact((hG lt x r).cons y).trans<|.swap x y r
theorem ZO{a:Type}(lt:a->a->Bool):∀l,(ZB lt l).Perm l
 |[]=>.refl _
 |x::r=>(hG lt x _).trans<|(ZO lt r).cons x
theorem hH{a:Type}(f:a->D)(lt:a->a->Bool)(b:D->D->Bool)(x:a):∀l:U a,(∀y∈l,b (f x) (f y)=lt x y)->Im b (f x) (l.map f)=(MC lt x l).map f
 |[],_=>rfl
 |y::r,h=>by
  erw[Be,Im,MC,h y Bj,hH f lt b x r λz c=>h z<|BG _ c];split<;>rfl
theorem hJ{a:Type}(f:a->D)(lt:a->a->Bool)(b:D->D->Bool):∀l:U a,(∀x∈l,∀y∈l,b (f x) (f y)=lt x y)->ET b (l.map f)=(ZB lt l).map f
 |[],_=>rfl
 |x::r,h=>by
  erw[Be,ET,ZB,hJ f lt b r λy c z d=>h y (BG _ c) z<|BG _ d];grind [hH,ZO]
theorem Wg{l:Type}{F:U Sl->O Rv}(f:l->D){lt:l->l->Bool}(T:TO lt)(b:Bool)(xs:U l)(few:xs.length<64)(m:l->D)(tells:∀a∈xs,F [.val (f a)]=Z (.val (m a)))(mode:∀a∈xs,Cf b (m a))(cmp:∀a∈xs,∀c∈xs,ltN 6 (m a) (m c)=Z (lt a c)):GR F (xs.map f)=Z ((ZB lt xs).map f):=by
 have n:∀a∈xs,DA F (f a)=m a:=λa d=>by unfold DA;rw[tells a d];rfl
 have j:∀a∈xs,∀c∈xs,Co F (f a) (f c)=lt a c:=λa d c g=>aL (by rw[n a d,n c g];exact cmp a d c g)
 have ok:Bh F (xs.map f):={
  few:=by simpa using few
  tells:=λx i=>by obtain⟨a,d,rfl⟩:=Ba.mp i;exact#[_,tells a d]
  mode:=#[b,λx i=>by obtain⟨a,d,rfl⟩:=Ba.mp i;rw[n a d];exact mode a d]
  cmp:=λx i y k=>by
   grind
  asym:=λx i y k h=>by
   obtain⟨a,d,rfl⟩:=Ba.mp i
   obtain⟨c,g,rfl⟩:=Ba.mp k
   rw[j a d c g]at h;rw[j c g a d];exact T.asym a c h
  neg:=λx i y k z r h=>by
   obtain⟨a,d,rfl⟩:=Ba.mp i
   obtain⟨c,g,rfl⟩:=Ba.mp k
   obtain⟨e,o,rfl⟩:=Ba.mp r
   rw[j a d e o]at h;rw[j a d c g,j c g e o];exact T.neg a c e h
  anti:=λx i y k p q=>by
   obtain⟨a,d,rfl⟩:=Ba.mp i
   obtain⟨c,g,rfl⟩:=Ba.mp k
   rw[j a d c g]at p;rw[j c g a d]at q;rw[T.anti a c p q]}
 rw[rG ok,hJ f lt _ xs j]
noncomputable def Do{b:Type}[DecidableEq b]:O b->U b->U b
 |_,[]=>[]
 |p,a::r=>if p=Z a then Do p r else a::Do (Z a) r
theorem hQ{c:Type}[DecidableEq c]:∀(l:U c)(p:O c),l.Nodup->(∀a,p=Z a->a∉l)->Do p l=l
 |[],_,_,_=>rfl
 |a::r,p,h,d=>by
  obtain⟨f,g⟩:=IW.mp h;unfold Do;rw[if_neg<|λe=>d a e Bj,hQ r (Z a) g λb i=>by cases i;exact f]
theorem Wh{c:Type}[DecidableEq c]:∀(l:U c)(p:O c)(a:c),a∈Do p l->a∈l
 |[],_,_,h=>h
 |b::r,p,a,h=>by
  unfold Do at h;split at h
  ·exact BG _<|Wh r p a h
  ·rcases Bz.mp h with rfl|h
   ·exact Bj
   ·exact BG _<|Wh r _ a h
theorem Wi{c:Type}[DecidableEq c]:∀(l:U c)(p:O c)(a:c),a∈l->a∈Do p l\/p=Z a
 |[],_,_,h=>by cases h
 |b::r,p,a,h=>by
  unfold Do;split
  ·next e=>
   rcases Bz.mp h with rfl|h
   ·exact .inr e
   ·exact Wi r p a h
  ·rcases Bz.mp h with rfl|h
   ·exact .inl Bj
   ·rcases Wi r (Z b) a h with h|h
    ·exact .inl<|BG _ h
    ·grind [Bj]
theorem hR{b:Type}[DecidableEq b](l:U b)(a:b):a∈Do J l↔a∈l:=by grind [Wh,Wi]
noncomputable def G8:At->At->Bool
 |.non,.non=>O'
 |.non,_=>J'
 |.int i,.int j=>decide (i<j)
 |.int _,.str _=>J'
 |.str x,.str y=>decide (x.cps.toList<y.cps.toList)
 |_,_=>O'
theorem xH{x y:Ae}(h:x.cps.toList=y.cps.toList):x=y:=by
 obtain⟨⟨a⟩⟩:=x;simp_all
theorem II:TO G8:={
 asym:=λa b h=>by
  cases a<;>cases b<;>erw[G8,decide_eq_true_eq,decide_eq_false_iff_not,Ew]at h ⊢
  ·exact Int.lt_asymm h
  ·exact List.lt_asymm h
 neg:=λa b c h=>by
  cases a<;>cases c<;>erw[G8,decide_eq_true_eq,Ew]at h<;>cases b<;>erw[G8,decide_eq_true_eq,Ew,true_or,or_true,or_false]
  ·lia
  ·grind [List.lt_of_le_of_lt,List.not_lt]
 anti:=λa b d e=>by
  cases a<;>cases b<;>erw[G8,decide_eq_false_iff_not,Bool.true_eq_false]at d e
  ·rfl
  ·rw[At.int.injEq];lia
  ·rw[At.str.injEq];exact xH (List.le_antisymm (List.not_lt.mp e) (List.not_lt.mp d))}
noncomputable def BE:U At->U At->Bool
 |[],[]=>O'
 |[],_::_=>J'
 |_::_,[]=>O'
 |a::r,b::s=>if a=b then BE r s else G8 a b
theorem hT:∀a b,BE a b=J'->BE b a=O'
 |[],[],_=>rfl
 |[],_::_,_=>rfl
 |_::_,[],h=>by cases h
 |a::r,b::s,h=>by
  unfold BE at h ⊢;by_cases e:a=b
  ·subst e;erw[if_true]at h ⊢;exact hT r s h
  ·rw[if_neg e]at h;rw[if_neg<|λz=>e z.symm];exact II.asym a b h
theorem hU:∀a b c,BE a c=J'->BE a b=J'\/BE b c=J'
 |[],[],c,h=>.inr h
 |[],_::_,_,_=>.inl rfl
 |_::_,_,[],h=>by cases h
 |_::_,[],_::_,_=>.inr rfl
 |a::r,b::s,c::t,h=>by
  unfold BE at h ⊢;by_cases e:a=b
  ·subst e;by_cases d:a=c
   ·erw[d,if_true]at h ⊢;exact hU r s t h
   ·rw[if_neg d]at h;right;rw[if_neg d];exact h
  ·rw[if_neg e];by_cases d:b=c
   ·subst d;rw[if_neg e]at h;exact .inl h
   ·rw[if_neg d];by_cases f:a=c
    ·subst f;cases g:G8 a b with|true=>exact .inl rfl|false=>
      cases hd:G8 b a with
      |true=>exact .inr rfl
      |false=>exact absurd (II.anti a b g hd) e
    ·rw[if_neg f]at h;exact II.neg a b c h
theorem hW:∀a b,BE a b=O'->BE b a=O'->a=b
 |[],[],_,_=>rfl
 |[],_::_,h,_=>by cases h
 |_::_,[],_,h=>by cases h
 |a::r,b::s,c,d=>by
  unfold BE at c d;by_cases e:a=b
  ·subst e;erw[if_true]at c d;rw[hW r s c d]
  ·rw[if_neg e]at c;rw[if_neg<|λz=>e z.symm]at d;exact absurd (II.anti a b c d) e
theorem EG:TO BE:=#[hT,hU,hW]
noncomputable def Dc:At->D
 |.non=>.tup [.int 0,.int 0]
 |.int i=>.tup [.int 1,.int i]
 |.str x=>.tup [.int 2,.str x]
theorem xI(n:Nat)(a b:At):ltN (n+2) (Dc a) (Dc b)=Z (G8 a b):=by
 cases a<;>cases b<;>simp[Dc,G8]
 ·intro e;exact Int.le_of_eq e.symm
 ·intro e;subst e;simp
theorem hY(a b:At):AF (Dc a) (Dc b)=decide (a=b):=by
 cases a<;>cases b<;>simp[Dc]
theorem Rs(n:Nat)(a:At):AW (n+1) (Dc a)=J':=by cases a<;>cases n<;>rfl
theorem Wj(n:Nat):∀l m:U At,Fv (ltN (n+2)) (l.map Dc) (m.map Dc)=Z (BE l m)
 |[],[]=>rfl
 |[],_::_=>rfl
 |_::_,[]=>rfl
 |a::r,b::s=>by
  rwa[Fv,Iv,Rs 11 a,Rs 11 b,hY a b,xI n a b,Wj n r s,BE,decide_eq_true_eq];grind
theorem Rt{b:Type}[DecidableEq b]:∀(l:U b)(p:O b),(Do p l).length<=l.length
 |[],_=>Bc _
 |a::r,p=>by
  unfold Do;split
  ·exact Nat.le_succ_of_le<|Rt r p
  ·exact Nat.succ_le_succ<|Rt r _
noncomputable def mn(m y:Int):Int:=if y<m then y else m
noncomputable def mx(m y:Int):Int:=if y>m then y else m
theorem xJ(m y:Int):mn m y=min m y:=by grind [mn]
theorem xK(m y:Int):mx m y=max m y:=by grind [mx]
def cel(x:Int)(xs:U Int):D:=.tup [.int (xs.length+1:Nat),.int ((x::xs).sum),.int (xs.foldl mn x),.int (xs.foldl mx x)]
def xL(s:Sl)(ns:U Int):Prop:=s=#v[ns.map D.int]\/s=.lent (ns.map D.int)
theorem xM(s:Sl)(x:Int)(xs:U Int)(h:xL s (x::xs)):Qt [s]=Z (.val (cel x xs)):=by
 rcases h with rfl|rfl<;>(simp[Qt,AS,cu,Hm,S0,S2,cel,show(4:Nat)<=Ax by ext];exact#[rfl,rfl])
theorem xN:(4:Nat)<=Ax:=by ext
theorem hZ(a:Int):∀(ys:U Int)(b:Int),ys.foldl mn (mn a b)=mn a (ys.foldl mn b)
 |[],b=>rfl
 |y::ys,b=>by
  erw[List.foldl_cons,show mn (mn a b) y=mn a (mn b y) by erw[xJ];exact Int.min_assoc a b y,hZ a ys]
theorem h7(a:Int):∀(ys:U Int)(b:Int),ys.foldl mx (mx a b)=mx a (ys.foldl mx b)
 |[],b=>rfl
 |y::ys,b=>by
  erw[List.foldl_cons,show mx (mx a b) y=mx a (mx b y) by erw[xK];exact Int.max_assoc a b y,h7 a ys]
theorem xO:∀(a b:U Int),(a++b).sum=a.sum+b.sum
 |[],b=>by simp
 |x::a,b=>by simp[xO a b,Int.add_assoc]
theorem xQ(x y:Int)(xs ys:U Int):Oa [.val (cel x xs),.val (cel y ys)]=Z (.val (cel x (xs++y::ys))):=by
 simp[Oa,AS,cw,cel,atI,CG,xN,show(xs++y::ys).foldl mn x=mn (xs.foldl mn x) (ys.foldl mn y) by rw[List.foldl_append,List.foldl_cons,hZ],show(xs++y::ys).foldl mx x=mx (xs.foldl mx x) (ys.foldl mx y) by rw[List.foldl_append,List.foldl_cons,h7]];refine#[by lia,by exact Int.add_assoc x xs.sum<|y+ys.sum,rfl,rfl]
def EY(acc:Br)(b:U (At×D)):Br:=b.foldl (λa p=>Z4 a (.at p.1) p.2) acc
theorem Wk(a:At):Ds (aD a)=Z (.at a):=NB<|.at a
theorem h8{a:At}{v:D}(h:∀p∈kvs,Fd p.1=J'):∀p∈Z4 kvs (.at a) v,Fd p.1=J':=λp b=>by
 rcases rk b with b|rfl
 ·exact h p b
 ·rfl
theorem ie:∀(a:U (At×D))(acc:Br),(∀p∈acc,Fd p.1=J')->acc.length+a.length<=100000->GS acc (a.map λp=>.tup [aD p.1,p.2])=Z (EY acc a)
 |[],acc,_,_=>rfl
 |p::a,acc,h,b=>by
  erw[CT]at b;have c:=rl acc (.at p.1) p.2;erw[Be,GS,Wk,PV p.1 h,show acc.length<Ax from BX (show acc.length<100000 by exact C7 b) (by ext),decide_true,Md,if_true,ie a (Z4 acc (.at p.1) p.2) (h8 h) (by lia)];rfl
theorem Wl:∀(a:U (At×D))(acc:Br),(∀p∈acc,Fd p.1=J')->∀p∈EY acc a,Fd p.1=J'
 |[],_,h=>h
 |p::a,acc,h=>Wl a _<|h8 h
theorem ig{a:At}:∀(b:U (At×D))(acc:Br),a∉b.map (·.1)->Zt (EY acc b) (.at a)=Zt acc (.at a)
 |[],_,_=>rfl
 |p::b,acc,h=>by
  rw[Be,Bz,not_or]at h;show Zt (EY (Z4 acc (.at p.1) p.2) b) _=_
  rw[ig b (Z4 acc (.at p.1) p.2) h.2,Tb,if_neg<|λe=>h.1 (KT.at.inj e).symm]
theorem ii{a:At}{v:D}:∀(b:U (At×D))(acc:Br),(b.map (·.1)).Nodup->(a,v)∈b->Zt (EY acc b) (.at a)=Z v
 |p::b,acc,c,h=>by
  rw[Be,IW]at c;show Zt (EY (Z4 acc (.at p.1) p.2) b) _=_
  rcases Bz.mp h with rfl|h
  ·rw[ig b _ c.1,Tb,if_pos rfl]
  ·exact ii b _ c.2 h
theorem ij(a:At):∀(b:U (At×D))(acc:Br),(Zt (EY acc b) (.at a)).isSome=((Zt acc (.at a)).isSome||decide (a∈b.map (·.1)))
 |[],acc=>by simp[EY]
 |p::b,acc=>by
  show(Zt (EY (Z4 acc (.at p.1) p.2) b) _).isSome=_
  rw[ij a b<|Z4 acc (.at p.1) p.2,Tb];grind
theorem xR{b:U (At×D)}{a:At}{v:D}(e:(b.map (·.1)).Nodup)(h:(a,v)∈b):DR (.lst (Zb (EY [] b)) .d) (aD a)=Z v:=by
 have f:=PV (kvs:=EY [] b) a (Wl b [] λ_ h=>nomatch h);rw[az,Wk];grind [ii]
theorem xS(neg:Bool)(b:U (At×D))(a:At):DG neg (aD a) (.lst (Zb (EY [] b)) .d)=Z (.bl (neg != decide (a∈b.map (·.1)))):=by
 rw[PU,Wk];rwa[PV (kvs:=EY [] b) a (Wl b [] λ_ h=>nomatch h),ij a b []];rfl
theorem ik{a:Type}(l:U a):Fa [.lst ((l.map λ_=>J').map D.bl)]=Z (.bl J'):=by
 erw[Fa,b3,Jf];simp_all
theorem ZF{a n:Nat}{g:AA}{b:U Sl}{r:Rv}(h:b.length=a)(e:g (b++CV (n-a) .no)=.ret r):AS a n g b=Z r:=by
 unfold AS;simp_all
theorem Lo{a:Type}(x:a)(xs:U a):atI (x::xs) 0=Z x:=by
 have:(0:Int)<(xs.length:Int)+1:=Int.succ_ofNat_pos xs.length;simp[atI,CG,this]
theorem Sn{a:Type}(xs:U a)(x:a):atI (xs++[x]) (-1)=Z x:=by
 have b:(-1+((xs.length:Int)+1)).toNat=xs.length:=by lia
 have c : -((xs.length:Int)+1) <= -1:=by lia
 simp[atI,CG,b,c]
theorem xT(a:At):QA [.val (aD a)]=Z (.val (Dc a)):=by
 cases a<;>simp[QA,AS,dm,Z1,Qr,aD,Dc,show(2:Nat)<=Ax by ext]
theorem im(l:U At)(h:l.length<=1000):Mo [.val (Af l)]=Z (.val (.tup (l.map Dc))):=by
 have c:=Zw (b:=Zc 0) (e:=Uo) (ρ:=[.no]) aD Dc l λa _=>#[[.val<|aD a],rfl,by
  have:=xT a;rwa[Uo,this,C3]]
 simp[Mo,AS,dO,Af,show l.length<=Ax from BR h (by ext),Zq,c,-Cp]
theorem Ru(s0:Sl):∀(c acc:A3)(j:Sl),acc.length+c.length<100000->∃a,Z8 (Zc 2) JR (c.map Af) [s0,.own (acc.map Af),j]=.next [s0,.own ((acc++Do acc.getLast? c).map Af),a]
 |[],acc,j,_=>#[j,by simp[Z8,Do]]
 |l::c,acc,j,d=>by
  erw[CT]at d;have f:acc.length<Ax:=BX (show acc.length<100000 by exact C7 d) (by ext);have n:GN (Z<|.int 1)=Z (.int (-1)):=rfl;erw[Be,Z8,Zc,Fg,EX];rcases List.eq_nil_or_concat acc with rfl|⟨pre,x,rfl⟩
  ·obtain⟨a,e⟩:=Ru s0 c [l] (.val<|Af l) (by simp;lia);refine⟨a,?_⟩;have k:JR [s0,.own<|[].map Af,.val<|Af l]=.next [s0,.own<|[l].map Af,.val<|Af l]:=by
    simp[JR,show(0:Nat)<Ax by ext]
   exact e
  ·rw[List.concat_eq_append]at d f ⊢;have g:Ap (.lst<|(pre++[x]).map Af) (.int (-1))=Z (Af x):=by
    rw[Fw];exact Sn _ _
   have h:Z0 (Z<|.lst<|(pre++[x]).map Af)=Z J':=by simp
   have i:=Rk x l;have b:(pre++[x]).getLast?=Z x:=by simp
   by_cases m:x=l
   ·subst m;obtain⟨a,e⟩:=Ru s0 c (pre++[x]) (.val<|Af x)<|Rw d;refine⟨a,?_⟩;have k:JR [s0,.own<|(pre++[x]).map Af,.val<|Af x]=.next [s0,.own<|(pre++[x]).map Af,.val<|Af x]:=by
     erw[JR,Zg,ZX,D0,ZW,AL,Za,A5,C0,C9,B7,Db,h,n,g,i,decide_true,LW]
    rw[k,b,Do,if_pos rfl,<- b];exact e
   ·obtain⟨a,e⟩:=Ru s0 c (pre++[x]++[l]) (.val<|Af l) (by simp at d ⊢;lia);refine⟨a,?_⟩;have k:JR [s0,.own<|(pre++[x]).map Af,.val<|Af l]=.next [s0,.own<|(pre++[x]++[l]).map Af,.val<|Af l]:=by
     rw[show((pre++[x]++[l]).map Af)=(pre++[x]).map Af++[Af l] by simp];erw[JR,Zg,ZX,D0,ZW,AL,Za,A5,AU,C0,C9,B7,Db,h,n,g,i,m,decide_false,Ie,LW,FO,A9,f,if_true,Fg,EX]
    rw[k,b,Do,if_neg (by simpa using m)];rw[show(pre++[x]++[l]).getLast?=Z l by simp]at e;rw[show pre++[x]++l::Do (Z l) c=pre++[x]++[l]++Do (Z l) c by simp];exact e
theorem Wm(s:Sl)(b:A3)(f:s=#v[b.map Af]\/s=.lent (b.map Af))(g:b.length<64)(d:∀l∈b,l≠[]/\l.length<=1000):Op [s]=Z (.own ((Do J (ZB BE b)).map Af)):=by
 have c:=Wg (F:=Mo) Af EG O' b g (λl=>.tup<|l.map Dc) (λl h=>im l (d l h).2) (λl h=>by
  cases l with
  |nil=>exact absurd rfl (d [] h).1
  |cons a r=>cases a<;>exact#[_,_,rfl]) (λl _ m _=>Wj 3 l m)
 obtain⟨i,e⟩:=Ru s (ZB BE b) [] .no (by rw[(ZO BE b).length_eq];simp;lia);erw[Dh,D8,List.getLast?_nil]at e;refine ZF rfl ?_;show UO [s,.no,.no]=_
 rcases f with rfl|rfl<;>rwa[UO,Z6,EA,KS,Eb,Cn,show Zf (Z ([]:U D))=Z []from rfl,c,e]
theorem Wn(l:U At)(j:Nat)(h:l.length<=1000):Iy [.val (Af l),‹j›]=Z (.val (aD (l.getD j .non))):=by
 by_cases a:j<l.length
 ·have:Ap (Af l) (.int j)=Z (aD<|l.getD j .non):=by
   exact ZD (by simp[BW a,DH])
  simp[Iy,AS,T0,-Ap,-Zo,show Zo [Af l]=Z (.int l.length) by simp[Af],this,MB.mpr a]
 ·rw[show l.getD j .non=.non by grind];simp[Iy,AS,T0,-Ap,-Zo,show Zo [Af l]=Z (.int l.length) by simp[Af],show ¬ (j:Int)<(l.length:Int) by lia,aD]
abbrev Cc:=U At×Int×U Int
noncomputable def ZE(acc:U Cc):A3:=acc.map (·.1)
noncomputable def Dv:U Cc->U At->O (Int×U Int)
 |[],_=>J
 |e::r,k=>if e.1=k then Z e.2 else Dv r k
noncomputable def DD:U Cc->U At->Int->U Cc
 |[],k,x=>[(k,x,[])]
 |e::r,k,x=>if e.1=k then(e.1,e.2.1,e.2.2++[x])::r else e::DD r k x
noncomputable def C5(v:Int×U Int->D)(e:Cc):KT×D:=(.tup e.1,v e.2)
theorem CF{k:U At}:∀{acc:U Cc},Dv acc k=J↔k∉ZE acc
 |[]=>by simp[Dv,ZE]
 |e::r=>by
  have a:=CF (k:=k) (acc:=r);grind [Dv,ZE]
theorem MD(v:Int×U Int->D)(k:U At):∀acc:U Cc,Zt (acc.map (C5 v)) (.tup k)=(Dv acc k).map v
 |[]=>rfl
 |e::r=>by
  have a:=MD v k r;erw[Be,Zt,Dv,C5,KT.tup.injEq];grind
theorem io{k:KT}{w:D}:∀{kvs:Br},Zt kvs k=J->Fc kvs k w=kvs
 |[],_=>rfl
 |p::r,h=>by
  unfold Zt at h;by_cases e:p.1=k
  ·rw[if_pos e]at h;cases h
  ·rw[if_neg e]at h;unfold Fc;rw[if_neg e,io h]
theorem ip(v:Int×U Int->D){k:U At}{x:Int}{p:Int×U Int}:∀{acc:U Cc},(ZE acc).Nodup->Dv acc k=Z p->Fc (acc.map (C5 v)) (.tup k) (v (p.1,p.2++[x]))=(DD acc k x).map (C5 v)
 |e::r,a,h=>by
  erw[ZE,Be,IW]at a;unfold Dv at h;by_cases c:e.1=k
  ·rw[if_pos c]at h;cases h;have b:Zt (r.map<|C5 v) (.tup k)=J:=by
    rw[MD,CF.mpr<|c ▸ a.1];rfl
   rwa[Fc,DD,C5,c,io b,KT.tup.injEq]
  ·rw[if_neg c]at h;erw[Be,Fc,DD,C5,c,if_false,KT.tup.injEq];rw[ip v (x:=x) a.2 h]
theorem iq{k:U At}{x:Int}:∀{acc:U Cc},Dv acc k=J->DD acc k x=acc++[(k,x,[])]
 |[],_=>rfl
 |e::r,h=>by
  unfold Dv at h;by_cases c:e.1=k
  ·rw[if_pos c]at h;cases h
  ·rw[if_neg c]at h;unfold DD;rw[if_neg c,iq h];rfl
theorem xU(v:Int×U Int->D){k:U At}{x:Int}{p:Int×U Int}{acc:U Cc}(a:(ZE acc).Nodup)(h:Dv acc k=Z p):Z4 (acc.map (C5 v)) (.tup k) (v (p.1,p.2++[x]))=(DD acc k x).map (C5 v):=by
 unfold Z4;rw[MD,h];exact ip v a h
theorem xV(v:Int×U Int->D){k:U At}{x:Int}{acc:U Cc}(h:Dv acc k=J):Z4 (acc.map (C5 v)) (.tup k) (v (x,[]))=(DD acc k x).map (C5 v):=by
 unfold Z4;grind [MD,iq,C5]
theorem Wo(k:U At)(x:Int):∀acc:U Cc,ZE (DD acc k x)=if k∈ZE acc then ZE acc else ZE acc++[k]
 |[]=>rfl
 |e::r=>by
  have a:=Wo k x r;grind [DD,ZE]
theorem xW{k:U At}{x:Int}{acc:U Cc}(h:(ZE acc).Nodup):(ZE (DD acc k x)).Nodup:=by grind [Wo]
theorem ir(k:U At)(x:Int):∀acc:U Cc,(DD acc k x).length<=acc.length+1
 |[]=>by simp[DD]
 |e::r=>by
  have:=ir k x r;unfold DD;split<;>simp<;>lia
theorem xX{k k':U At}{x:Int}{acc:U Cc}(h:k'∈ZE (DD acc k x)):k'=k\/k'∈ZE acc:=by grind [Wo]
noncomputable def MF:U Cc->Nat
 |[]=>0
 |e::r=>e.2.2.length+1+MF r
theorem iu(k:U At)(x:Int):∀acc:U Cc,MF (DD acc k x)=MF acc+1
 |[]=>rfl
 |e::r=>by
  have:=iu k x r;unfold DD;split<;>simp[MF]<;>lia
theorem iv(v:Int×U Int->D)(k:U At)(acc:U Cc):Dy (.tup k) (acc.map (C5 v))=J':=KP k λp a=>by
 obtain⟨e,_,rfl⟩:=Ba.mp a;rfl
theorem HE(l:U At):Ds (Af l)=Z (.tup l):=NB<|.tup l
abbrev vC(p:Int×U Int):D:=cel p.1 p.2
abbrev Ha(v:Int×U Int->D)(acc:U Cc):Sl:=.own (Zb (acc.map (C5 v))) .d
def Zi(r:U At×Int):D:=.tup [Af r.1,.int r.2]
def Ep(a:U (U At×Int))(acc:U Cc):U Cc:=a.foldl (λacc r=>DD acc r.1 r.2) acc
structure Bu(acc:List Cc)(n m:Nat):Prop where
 nd:(ZE acc).Nodup
 len:acc.length<=m
 sz:MF acc<=m
 kl:∀k∈ZE acc,k.length=n
theorem Bu.add{acc:U Cc}{n m:Nat}(h:Bu acc n m){k:U At}(b:k.length=n)(x:Int):Bu (DD acc k x) n (m+1):=#[xW h.nd,by have:=ir k x acc;have:=h.len;lia,by rw[iu];have:=h.sz;exact Nat.add_le_add_right this 1,λd a=>by
  rcases xX a with rfl|c
  ·exact b
  ·exact h.kl _ c]
theorem Bu.nil(n:Nat):Bu [] n 0:=#[by simp[ZE],by simp,by simp[MF],λk a=>nomatch a]
theorem Bu.tab:∀(a:U (U At×Int)){acc:U Cc}{n m:Nat},Bu acc n m->(∀r∈a,r.1.length=n)->Bu (Ep a acc) n (m+a.length)
 |[],_,_,_,h,_=>h
 |r::a,acc,n,m,h,b=>by
  have:=Bu.tab a (h.add (b r Bj) r.2) λq c=>b q<|BG _ c;rw[CT,show m+(a.length+1)=m+1+a.length by exact Eq.symm (Nat.succ_add_eq_add_succ m a.length)];exact this
def Er(acc:U Cc):U D:=(ZB BE (ZE acc)).map λk=>.tup [Af k,vC ((Dv acc k).getD (0,[]))]
theorem xY{acc:U Cc}{k:U At}(h:k∈ZB BE (ZE acc)):∃p,Dv acc k=Z p:=by
 cases a:Dv acc k with
 |some p=>exact#[p,rfl]
 |none=>exact absurd ((ZO BE<|ZE acc).mem_iff.mp h)<|CF.mp a
theorem xZ(v:Int×U Int->D)(acc:U Cc):((acc.map (C5 v)).map λp=>kD p.1)=(ZE acc).map Af:=by
 unfold ZE;rw[Cp,Cp];rfl
theorem iw(v:Int×U Int->D){acc:U Cc}{k:U At}{p:Int×U Int}(h:Dv acc k=Z p):DR (.lst (Zb (acc.map (C5 v))) .d) (Af k)=Z (v p):=by simp_all [HE,iv,MD]
abbrev LG:=U (U (U At)×Nat)
def Fj(q:U (U At)×Nat)(a:At):At:=((q.1.find? λl=>decide (hd l=a)).getD []).getD q.2 .non
def Es:LG->U At->U At
 |q::Q,a::s=>Fj q a::Es Q s
 |_,_=>[]
def IJ(q:U (U At)×Nat):U (At×D):=q.1.map λl=>(hd l,aD (l.getD q.2 .non))
def Dp(q:U (U At)×Nat):D:=.lst (Zb (EY [] (IJ q))) .d
noncomputable abbrev Bf(g:U Nat):D:=.tup (g.map λ(j:Nat)=>D.int j)
inductive A1:List (A3)->List At->Prop where
 |nil:A1 [] []
 |cons {ls Ls a as}:a∈ls.map hd->A1 Ls as->A1 (ls::Ls) (a::as)
theorem A1.len{a:AT}{s:U At}(h:A1 a s):s.length=a.length:=by
 induction h<;>grind
theorem Rx:∀{Q:LG}{s:U At},s.length=Q.length->(Es Q s).length=Q.length
 |[],_,h=>by cases(No.mp h);rfl
 |q::Q,a::s,h=>by erw[Es,CT];rw[Rx (by simpa using h)]
 |_::_,[],h=>by simp at h
theorem x0(q:U (U At)×Nat)(h:∀l∈q.1,Ln l)(i:q.1.length<=1000):QB [.val (LD q.1),‹0›,‹q.2›]=Z (.own (Zb (EY [] (IJ q))) .d):=by
 obtain⟨a,j⟩:=q;have k:=Zw (b:=Zc 0) (e:=Uh) (ρ:=[.no,‹0›,‹j›]) Af (λl=>D.tup [aD<|hd l,aD<|l.getD j .non]) a λl g=>#[[.val<|Af l,‹0›,‹j›],rfl,by
  have c:=Wn l j (by have:=(h l g).l4;lia);rwa[Uh,show Iy [.val<|Af l,‹0›]=Z (.val<|aD<|hd l)from(show l.getD 0 .non=hd l by cases l<;>rfl) ▸ Wn l 0 (by have:=(h l g).l4;lia),c,C3,Zf,FZ,if_pos (show(2:Nat)<=Ax by ext)]]
 have f:=ie (IJ (a,j)) [] (λ_ h=>nomatch h) (by simp[IJ];lia);unfold IJ at f;rw[Cp]at f;unfold IJ;rwa[QB,AS,FZ,dn,Lj,Lk,DO,Io,Zk,Zf,if_pos (show(a.map Af).length<=Ax by rw[A9];exact BR i (by ext)),Zq,MA,HZ,D8,Jp,k,show GS [] (a.map λl=>D.tup [aD<|hd l,aD<|l.getD j .non])=Z (EY []<|a.map λl=>(hd l,aD<|l.getD j .non))from f,Nd]
theorem ya(n k:Nat)(a:k<n)(L:AT)(b:L.length=n):atI (L.map λ_=>D.int 0) (k:Int)=Z (.int 0):=ZD (by rw[CW,BW<|Kr a b.symm];rfl)
theorem ix(L:AT)(g:U Nat):∀(Q:LG)(k:Nat),(∀q∈Q,∃p,GL q.1 p)->k+Q.length<=L.length->(∀i q,Q[i]?=Z q->g[k+i]?=Z q.2)->Z2 (Dr 2 (ZC (Zc 0) (ZC (Zc 1) Dq))) (λ_=>Z J') QI [.no,.no,.val (J2 L),.val (Bf g)] (ER k (Q.map λq=>LD q.1))=Z (Q.map Dp)
 |[],k,_,_,_=>rfl
 |q::Q,k,h,c,d=>by
  erw[CT]at c;have n:=ix L g Q (k+1) (λl b=>h l<|BG _ b) (by lia) λi f e=>by
   have:=d (i+1) f (by simpa using e);grind
  obtain⟨p,a⟩:=h q Bj;have b:=x0 q a.ln (by have:=a.n6;lia);have m:atI (g.map λ(j:Nat)=>D.int j) (k:Int)=Z (.int q.2):=ZD (by rw[CW,show g[k]?=Z q.2 from d 0 q rfl];rfl);have o:QI [‹k›,.val<|LD q.1,.val<|J2 L,.val<|Bf g]=Z (Dp q):=by
   rwa[QI,Ap,ya L.length k (C7 c) L rfl,m,b,C3,Dp]
  rw[Be,ER,Z2];simp_all
noncomputable abbrev qs(L:AT)(g:U Nat):LG:=L.zip g
theorem iy{L:AT}{g:U Nat}(h:g.length=L.length):(qs L g).map (·.1)=L:=List.map_fst_zip<|Lv h.symm
theorem yb{L:AT}{g:U Nat}(h:g.length=L.length):(qs L g).map (λq=>LD q.1)=L.map LD:=by
 have:(qs L g).map (λq=>LD q.1)=((qs L g).map (·.1)).map LD:=by rw[Cp];rfl
 grind [iy]
theorem iz{L:AT}{g:U Nat}{q:U (U At)×Nat}(h:q∈qs L g):q.1∈L:=(M4 h).1
theorem yc{L:AT}(h:Cb L){g:U Nat}(a:g.length=L.length):QJ [#v[L.map LD],.val (J2 L),.val (Bf g)]=Z (.own ((qs L g).map Dp)):=by
 have hd:=ix L g (qs L g) 0 (λq b=>h.good q.1<|iz b) (by simp;exact Nat.min_le_left (IX L) g.length) λi q e=>by
  grind
 rw[yb a]at hd;rwa[QJ,AS,FZ,dP,Lj,Lk,DO,Zk,NX,show GV (.lst<|L.map LD)=Z (L.map LD)from rfl,Zf,if_pos (show(ER 0<|L.map LD).length<=Ax by rw[S5,A9];exact BR h.n4 (by ext)),Zq,MA,HZ,D8,Jp,hd,Cn]
theorem ye{q:U (U At)×Nat}(h:(q.1.map hd).Nodup):((IJ q).map (·.1)).Nodup:=by grind [IJ]
theorem yg{q:U (U At)×Nat}{a:At}(h:a∈q.1.map hd):DG O' (aD a) (Dp q)=Z (.bl J'):=by grind [Dp,xS,IJ]
theorem iA:∀{a:A3}{l:U At},(a.map hd).Nodup->l∈a->a.find? (λx=>decide (hd x=hd l))=Z l
 |x::a,l,c,b=>by
  erw[Be,IW]at c;rcases Bz.mp b with rfl|b
  ·rw[List.find?_cons_of_pos (by simp)]
  ·rw[List.find?_cons_of_neg (by
    erw[decide_eq_true_eq];intro z;exact c.1<|z ▸ Ry b)]
   exact iA c.2 b
theorem yh{q:U (U At)×Nat}(a:(q.1.map hd).Nodup){l:U At}(h:l∈q.1):Fj q (hd l)=l.getD q.2 .non:=by simp_all [Fj,iA]
theorem yi{q:U (U At)×Nat}(b:(q.1.map hd).Nodup){a:At}(h:a∈q.1.map hd):DR (Dp q) (aD a)=Z (aD (Fj q a)):=by
 obtain⟨l,c,rfl⟩:=Ba.mp h;rw[yh b c];exact xR (ye b)<|Ba.mpr ⟨l,c,rfl⟩
theorem iB:∀{Q:LG}{s:U At},A1 (Q.map (·.1)) s->Z2 (Dr 2 (ZC (Zc 0) (ZC (Zc 1) Dq))) (λ_=>Z J') Qu [.no,.no] (JC (λx y=>D.tup [x,y]) (Q.map Dp) (s.map aD))=Z ((Q.map λ_=>J').map D.bl)
 |[],_,h=>by cases h;rfl
 |q::Q,_,h=>by
  cases h with
  |@cons _ _ a e b c=>
  have d:Qu [.val<|Dp q,.val<|aD a]=Z (.bl J'):=by
   have:=yg b;rwa[Qu,this]
  rwa[List.zipWith_cons_cons,Z2,Dr,ZC,Dq,d,iB c]
theorem iC:∀{Q:LG}{s:U At},(∀q∈Q,(q.1.map hd).Nodup)->A1 (Q.map (·.1)) s->Z2 (Dr 2 (ZC (Zc 0) (ZC (Zc 1) Dq))) (λ_=>Z J') Ou [.no,.no] (JC (λx y=>D.tup [x,y]) (Q.map Dp) (s.map aD))=Z ((Es Q s).map aD)
 |[],_,_,h=>by cases h;rfl
 |q::Q,_,b,h=>by
  cases h with
  |@cons _ _ a g c d=>
  have e:Ou [.val<|Dp q,.val<|aD a]=Z (aD<|Fj q a):=by
   have:=yi (b q Bj) c;rwa[Ou,this]
  rwa[List.zipWith_cons_cons,Z2,Dr,ZC,Dq,e,iC (λq f=>b q<|BG _ f) d,Es]
theorem yj{Q:LG}{s:U At}(a:A1 (Q.map (·.1)) s)(hz:Q.length<=4):Qv [#v[Q.map Dp],.val (Af s)]=Z (.val (.bl J')):=by
 have b:=iB a;have c:=ik Q;have d:=Zx (JC (λx y=>D.tup [x,y]) (Q.map Dp) (s.map aD)) (by simp;lia);refine ZF rfl ?_;unfold Af;generalize (Q.map λ_=>J').map D.bl=B,s.map aD=S,Q.map Dp=L at *;show T2 [#v[L],.val<|.tup S]=_
 rwa[T2,Zk,Hx,GV,show Zq 2 [] [#v[L],.val<|.tup S]=[.no,.no]from rfl,d,b,c]
def J3(r:U At×Int):D:=.tup [Af r.1,cel r.2 []]
theorem yk{Q:LG}{s:U At}(h:∀q∈Q,(q.1.map hd).Nodup)(u:A1 (Q.map (·.1)) s)(hz:Q.length<=4)(b j:Sl)(x:Int){acc:U Cc}{n m:Nat}(A:Bu acc n m)(B:m<1000):Ov [#v[Q.map Dp],b,Ha vC acc,.val (Af s),.val (cel x []),j]=.next [#v[Q.map Dp],b,Ha vC (DD acc (Es Q s) x),.val (Af s),.val (cel x []),.val (Af (Es Q s))]:=by
 have l:=yj u hz;have F:=iC h u;have M:=Zx (JC (λx y=>D.tup [x,y]) (Q.map Dp) (s.map aD)) (by simp;lia);have C:∀x y z w,Zj Em (λa=>Zd (C6<|Zr<|(Zk 2 [] (Hx (λa=>B4 a 0) (λa=>B4 a 3)) (Dr 2<|ZC (Zc 0)<|ZC (Zc 1) Dq) (λ_=>Z J') Ou) a) (Z [])) [#v[Q.map Dp],x,y,.val<|Af s,z,w]=Z (Af<|Es Q s):=by
  simp_all [Af,Dp,B7,Db]
 generalize Q.map Dp=L,Es Q s=k at *;have e:=iv vC k acc;have f:(acc.map<|C5 vC).length<Ax:=by rw[A9];exact Kx A.len<|BX B (by ext)
 have o:=Ik<|acc.map<|C5 vC;have g:DG O' (Af k) (.lst (Zb<|acc.map<|C5 vC) .d)=Z (.bl (Dv acc k).isSome):=by
  rw[PU,HE k];show(if Dy (.tup k) (acc.map<|C5 vC)=J' then _ else _)=_
  rw[if_pos e,MD vC k acc,Option.isSome_map];cases(Dv acc k).isSome<;>rfl
 have c:∀d,KC (Z (Dv acc k).isSome) ((Zh Oa<|λa=>Zd (C6<|(Za DR (λa=>A5 a 2) (λa=>A5 a 5)) a) (Zd (CZ a 4)<|some [])) [#v[L],b,Ha vC acc,.val<|Af s,.val<|cel x [],.val<|Af k]) (Z<|cel x [])=Z d->Z4 (acc.map<|C5 vC) (.tup k) d=(DD acc k x).map (C5 vC)->Ov [#v[L],b,Ha vC acc,.val<|Af s,.val<|cel x [],j]=.next [#v[L],b,Ha vC<|DD acc k x,.val<|Af s,.val<|cel x [],.val<|Af k]:=by
  intro d E G;unfold Ha at *;have r:=C b (.own (Zb<|acc.map<|C5 vC) .d) (.val<|cel x []) j;generalize acc.map (C5 vC)=t at *;unfold Ov;have H:Z0 ((Zh Qv<|λa=>Zd (CZ a 0)<|Zd (CZ a 3)<|some []) [#v[L],b,.own (Zb t) .d,.val<|Af s,.val<|cel x [],j])=Z J':=by
   rwa[l,Z0]
  erw[H,ZX,Zg,r,Z3,Fg,EX];have K:Za (DG O') (λa=>A5 a 5) (λa=>A5 a 2) [#v[L],b,.own (Zb t) .d,.val<|Af s,.val<|cel x [],.val<|Af k]=Z (.bl (Dv acc k).isSome):=by
   rwa[g]
  rw[K,show AU [#v[L],b,.own (Zb t) .d,.val<|Af s,.val<|cel x [],.val<|Af k] 4=Z (cel x [])from rfl];erw[AL];rw[E];rwa[KO,LL,o,HE k,e,G,Bool.true_and,decide_eq_true f]
 cases i:Dv acc k with
 |none=>
  rw[i]at c;exact c (vC (x,[])) rfl<|xV vC i
 |some p=>
  rw[i]at c;refine c (vC (p.1,p.2++[x])) ?_<|xU vC A.nd i;unfold Ha;rwa[KC,Option.isSome,iw vC i,xQ p.1 x p.2 []]
def F0(Q:LG)(a:U (U At×Int)):U (U At×Int):=a.map λr=>(Es Q r.1,r.2)
theorem iD{Q:LG}(h:∀q∈Q,(q.1.map hd).Nodup)(hz:Q.length<=4)(f:Sl):∀(d:U (U At×Int))(acc:U Cc)(m:Nat)(g i e:Sl),(∀r∈d,A1 (Q.map (·.1)) r.1)->Bu acc Q.length m->m+d.length<1000->∃j k l,Z8 (Dr 2 (ZC (Zc 3) (ZC (Zc 4) Dq))) Ov (d.map J3) [#v[Q.map Dp],f,Ha vC acc,g,i,e]=.next [#v[Q.map Dp],f,Ha vC (Ep (F0 Q d) acc),j,k,l]
 |[],acc,m,g,i,e,_,n,_=>#[g,i,e,rfl]
 |r::d,acc,m,g,i,e,o,n,p=>by
  erw[CT]at p;obtain⟨a,b,c,s⟩:=iD h hz f d (DD acc (Es Q r.1) r.2) (m+1) (.val<|Af r.1) (.val<|cel r.2 []) (.val<|Af<|Es Q r.1) (λq t=>o q<|BG _ t) (n.add (Rx (by simpa using(o r Bj).len)) r.2) (by lia);refine⟨a,b,c,?_⟩;rwa[J3,Z8,Dr,ZC,Dq];rw[yk h (o r Bj) hz f e r.2 n<|C7 p];exact s
theorem ym{Q:LG}(h:∀q∈Q,(q.1.map hd).Nodup)(E:0<Q.length)(hz:Q.length<=4)(f:U (U At×Int))(m:∀r∈f,A1 (Q.map (·.1)) r.1)(n:f.length<64):UU [#v[Q.map Dp],#v[f.map J3]]=Z (.own (Er (Ep (F0 Q f) []))):=by
 have ok:=Bu.tab (F0 Q f) (Bu.nil Q.length) λr h=>by
  obtain⟨u,w,rfl⟩:=Ba.mp h;exact Rx (by simpa using(m u w).len)
 have la:(F0 Q f).length=f.length:=A9 _;obtain⟨a,b,c,e⟩:=iD h hz #v[f.map J3] f [] 0 .no .no .no m (Bu.nil _) (by lia);generalize Ep (F0 Q f) []=g at *;have j:(ZE g).length<64:=by unfold ZE;rw[A9];have:=ok.len;lia
 have o:=Wm #v[(ZE g).map Af] (ZE g) (.inl rfl) j λl n=>by
  have:=ok.kl l n;exact#[λz=>by rw[z]at this;simp at this;lia,by lia]
 rw[hQ _ _ ((ZO BE _).nodup_iff.mpr ok.nd) (λ_ e=>by cases e),<- xZ vC]at o;have A:=Zw (b:=Zc 0) (e:=US) (ρ:=[.no,.lent (Zb<|g.map<|C5 vC) .d]) Af (λk=>.tup [Af k,vC<|(Dv g k).getD (0,[])]) (ZB BE<|ZE g) λk B=>#[[.val<|Af k,.lent (Zb<|g.map<|C5 vC) .d],rfl,by
  obtain⟨p,s⟩:=xY B;rw[s];rwa[US,iw vC s,Option.getD]]
 have C:=Zx ((ZB BE<|ZE g).map Af) (by rw[A9,(ZO _ _).length_eq];lia);have i:=bh<|g.map<|C5 vC;rw[show Ha vC []=.own [] .d from rfl]at e;unfold Ha at e;unfold Er;refine ZF rfl ?_;generalize Q.map Dp=L,f.map J3=R,g.map (C5 vC)=t,(ZB BE<|ZE g).map Af=W,(ZB BE<|ZE g).map (λk=>D.tup [Af k,vC<|(Dv g k).getD (0,[])])=T at *;show UT [#v[L],#v[R],.no,.no,.no,.no]=_
 rwa[UT,GJ,EA,Cn,Zk,show ∀x y z,Zq 1 [2] [#v[L],#v[R],.own (Zb t) .d,x,y,z]=[.no,.lent (Zb t) .d]from λ_ _ _=>rfl,El,e,i,o,Gm,C,A]
theorem Cb.hdn{L:AT}(h:Cb L):∀a∈L,(a.map hd).Nodup:=λa b=>by obtain⟨p,c⟩:=h.good a b;exact c.hdn
abbrev Z9(L:AT)(g:U Nat)(a:U (U At×Int)):U D:=Er (Ep (F0 (qs L g) a) [])
theorem iE{c:AT}(h:Cb c){g:U Nat}(d:g.length=c.length)(a:U (U At×Int))(f:∀r∈a,A1 c r.1)(i:a.length<64):QX [#v[c.map LD],#v[a.map Zi],.val (Bf g)]=Z (.own (Z9 c g a)):=by
 have n1:=h.n1;have n4:=h.n4;have j:=ym (Q:=qs c g) (λq k=>h.hdn q.1<|iz k) (by simp;lia) (by simp;lia) a (by rw[iy d];exact f) i;have l:=hE h;have m:=yc h d;have n:=Zw (b:=Dr 2<|ZC (Zc 0)<|ZC (Zc 1) Dq) (e:=U0) (ρ:=[.no,.no]) Zi J3 a λr _=>#[[.val<|Af r.1,‹r.2›],rfl,by
  rwa[U0,xM #v[[.int r.2]] r.2 []<|.inl rfl,J3]]
 have o:=Zx (a.map Zi) (by rw[A9];lia);unfold Z9;generalize c.map LD=L,J2 c=p,Bf g=Y,(qs c g).map Dp=W,a.map J3=C,a.map Zi=R,Er (Ep (F0 (qs c g) a) [])=T at *;refine ZF rfl ?_;show U1 [#v[L],#v[R],.val Y,.no]=_
 rwa[U1,Cn,Zk,show Zq 2 [] [#v[L],#v[R],.val Y,.no]=[.no,.no]from rfl,E9,o,n,l,m,Gm,j,LK]
theorem Rz{a:Type}[DecidableEq a]:∀(l A:U a),l.Nodup->(∀x∈l,x∈A)->l.length<=A.length
 |[],_,_,_=>F8 _
 |x::l,A,h,c=>by
  obtain⟨d,f⟩:=IW.mp h;have g:=Rz l (A.erase x) f λy b=>(List.mem_erase_of_ne (show y≠x from λe=>d<|e ▸ b)).mpr (c y<|BG _ b);grind
theorem OS{c:Type}{b:D->VE->O VE}{t:VE->O Bool}{e:AD}{ρ:VE}(G F:c->D)(p:c->Bool):∀xs:U c,(∀x∈xs,∃a,b (G x) ρ=Z a/\t a=Z (p x)/\e a=Z (F x))->Z2 b t e ρ (xs.map G)=Z ((xs.filter p).map F)
 |[],_=>rfl
 |x::xs,h=>by
  obtain⟨a,g,i,j⟩:=h x Bj;have d:=OS G F p xs λy k=>h y<|BG _ k;erw[Be,Z2,g,i];cases f:p x with
  |true=>rwa[j,d,List.filter_cons,f]
  |false=>erw[d,List.filter_cons,f,Ew,if_false]
abbrev KE:=U At×D
def Gq(e:KE):D:=.tup [Af e.1,e.2]
noncomputable def B1(es:U KE):Br:=es.map λe=>(.tup e.1,e.2)
theorem RC(es:U KE):∀p∈B1 es,Fd p.1=O':=λp a=>by
 obtain⟨e,_,rfl⟩:=Ba.mp a;rfl
theorem RD:∀(es:U KE)(k:U At),(Zt (B1 es) (.tup k)).isSome=decide (k∈es.map (·.1))
 |[],k=>rfl
 |e::r,k=>by
  have a:=RD r k;erw[B1,Be,Zt,KT.tup.injEq]at a ⊢;grind
theorem iF{es:U KE}(h:∀e∈es,AW 12 e.2=J'){k:U At}{d:D}(e:Zt (B1 es) (.tup k)=Z d):AW 12 d=J':=by
 induction es with|nil=>cases e|cons x r a=>
  erw[B1,Be,Zt,KT.tup.injEq]at e;by_cases c:x.1=k
  ·grind [Bj]
  ·rw[if_neg c]at e;exact a (λy b=>h y<|BG _ b) e
theorem RE:∀(es a:U KE),((a++es).map (·.1)).Nodup->a.length+es.length<=100000->GS (B1 a) (es.map Gq)=Z (B1 (a++es))
 |[],a,_,_=>by rw[DO];rfl
 |e::r,a,c,b=>by
  erw[CT]at b;have d:(B1 a).length<Ax:=by
   unfold B1;rw[A9];exact BX (show a.length<100000 by exact C7 b) (by ext)
  have h:Zt (B1 a) (.tup e.1)=J:=by
   have:=RD a e.1;have f:e.1∉a.map (·.1):=λf=>by
    grind
   simp_all
  have g:Z4 (B1 a) (.tup e.1) e.2=B1 (a++[e]):=by
   unfold Z4;grind [B1]
  have i:=RE r (a++[e]) (by rw[NK];exact c) (by simp;lia);rwa[Gq,GS,HE e.1,KP e.1<|RC a,d,g];simp_all
theorem iG(es:U KE):((B1 es).map λp=>kD p.1)=(es.map (·.1)).map Af:=by
 unfold B1;rw[Cp,Cp];rfl
theorem yn(c f:U KE)(n1:(c.map (·.1)).Nodup)(n2:(f.map (·.1)).Nodup)(N:∀e∈c,AW 12 e.2=J')(K:∀e∈f,AW 12 e.2=J')(A:A3)(F:∀e∈c,e.1∈A)(L:∀e∈f,e.1∈A)(M:A.length<64)(g:∀k∈A,k≠[]/\k.length<=1000):∃ys:A3,QV [#v[c.map Gq],#v[f.map Gq]]=Z (.own (ys.map Af))/\ys.length<64:=by
 have Q:=Rz _ A n1 λk g=>by obtain⟨e,m,rfl⟩:=Ba.mp g;exact F e m
 have T:=Rz _ A n2 λk g=>by obtain⟨e,m,rfl⟩:=Ba.mp g;exact L e m
 rw[A9]at Q T;have w:=RE c [] (by simpa using n1) (by simp;lia);have y:=RE f [] (by simpa using n2) (by simp;lia);rw[D8]at w y;let p:U At->Bool:=λk=>!AF ((Zt (B1 f)<|.tup k).getD .non) ((Zt (B1 c)<|.tup k).getD .non);let r:U At->Bool:=λk=>!decide (k∈c.map (·.1));have P:=OS (b:=Zc 0) (t:=UV) (e:=d5) (ρ:=[.no,.lent (Zb<|B1 f) .d,.val<|.lst (Zb<|B1 c) .d]) Af Af p (c.map (·.1)) λk g=>#[[.val<|Af k,.lent (Zb<|B1 f) .d,.val<|.lst (Zb<|B1 c) .d],rfl,by
  have s:Dy (.tup k) (B1 f)=J':=KP k<|RC f;obtain⟨d,hd⟩:=Option.isSome_iff_exists.mp (show(Zt (B1 c)<|.tup k).isSome=J' by rw[RD c,decide_eq_true g]);have z:=(λk d=>iF N (k:=k) (d:=d)) k d hd;have B:AW 12 ((Zt (B1 f)<|.tup k).getD .non)=J':=by
   cases hh:Zt (B1 f) (.tup k)with
   |none=>rfl
   |some x=>exact(λk d=>iF K (k:=k) (d:=d)) k x hh
  have C:NR (.lst (Zb<|B1 f) .d) (Af k)=Z ((Zt (B1 f)<|.tup k).getD .non):=by
   erw[NR,Ik,HE k,s,if_true]
  have e2:DR (.lst (Zb<|B1 c) .d) (Af k)=Z d:=by
   rw[az,HE k];rwa[KP k<|RC c,hd]
  rw[show p k=!AF ((Zt (B1 f)<|.tup k).getD .non) d by show(!AF _ ((Zt (B1 c)<|.tup k).getD .non))=_;rw[hd];rfl];refine#[?_,rfl];rwa[UV,C,e2,CK,Iv,z,B]]
 have c2:=OS (b:=Zc 0) (t:=UW) (e:=d6) (ρ:=[.no,.val<|.lst (Zb<|B1 c) .d]) Af Af r (f.map (·.1)) λk g=>#[[.val<|Af k,.val<|.lst (Zb<|B1 c) .d],rfl,by
  refine#[?_,rfl];have C:DG J' (Af k) (.lst (Zb<|B1 c) .d)=Z (.bl<|r k):=by
   rw[PU,HE k];rwa[KP k<|RC c,RD c];rw[Bool.true_bne]
  rwa[UW,C]]
 have q:((c.map (·.1)).filter p++(f.map (·.1)).filter r).Nodup:=Js.mpr #[n1.sublist List.filter_sublist,n2.sublist List.filter_sublist,λa E b hb e=>by
  subst e;have s:=(Kh.mp hb).2;erw[r,decide_eq_true<|(Kh.mp E).1]at s;cases s]
 have i:∀k∈(c.map (·.1)).filter p++(f.map (·.1)).filter r,k∈A:=λk g=>by
  rcases Cm.mp g with h|h
  ·exact(show ∀k∈c.map (·.1),k∈A from λk g=>by obtain⟨e,m,rfl⟩:=Ba.mp g;exact F e m) k (Kh.mp h).1
  ·exact(show ∀k∈f.map (·.1),k∈A from λk g=>by obtain⟨e,m,rfl⟩:=Ba.mp g;exact L e m) k (Kh.mp h).1
 have j:=Rz _ A q i;have l1:((c.map (·.1)).filter p).length<=c.length:=BR (List.length_filter_le _ _) (by rw[A9];exact Bc _);have l2:((f.map (·.1)).filter r).length<=f.length:=BR (List.length_filter_le _ _) (by rw[A9];exact Bc _);generalize (f.map (·.1)).filter r=o,(c.map (·.1)).filter p=n at *;have hi:=Wm #v[(n++o).map Af] (n++o) (.inl rfl) (Kx j M) λl hl=>g l<|i l hl;refine⟨Do J<|ZB BE<|n++o,?_,Kx (Rt _ _) (by rw[(ZO BE _).length_eq];exact Kx j M)⟩;generalize Do J (ZB BE<|n++o)=R at *;have E:Zl (.lst<|n.map Af) (.lst<|o.map Af)=Z (.lst<|(n++o).map Af):=by
  rw[vg _ _ (by simp;lia),Fw]
 have s1:=Zx ((c.map (·.1)).map Af) (by simp;lia);have s2:=Zx ((f.map (·.1)).map Af) (by simp;lia);have z:FV (.lst (Zb<|B1 c) .d)=Z ((c.map (·.1)).map Af):=by erw[FV,Ik,Db,iG c]
 have B:FV (.lst (Zb<|B1 f) .d)=Z ((f.map (·.1)).map Af):=by erw[FV,Ik,Db,iG f]
 rw[show B1 []=[]from rfl]at w y;generalize f.map Gq=G,c.map Gq=H,B1 f=S,B1 c=u,(f.map (·.1)).map Af=W2,(c.map (·.1)).map Af=W1 at *;refine ZF rfl ?_;show UX [#v[H],#v[G],.no,.no,.no]=_
 rwa[UX,en,ef,ee,ed,d7,Io,w,GJ,d8,y,d9,JH,LM,Zk,show Zq 1 [3,2] [#v[H],#v[G],.val<|.lst (Zb u) .d,.own (Zb S) .d,.no]=[.no,.lent (Zb S) .d,.val<|.lst (Zb u) .d]from rfl,z,s1,P,Z6,eb,show Zq 1 [2] [#v[H],#v[G],.val<|.lst (Zb u) .d,.val<|.lst (Zb S) .d,.own<|n.map Af]=[.no,.val<|.lst (Zb u) .d]from rfl,B,s2,c2,E,E9,hi,LK,Cn]
def Lp(acc:U Cc):U KE:=(ZB BE (ZE acc)).map λk=>(k,vC ((Dv acc k).getD (0,[])))
theorem iH(acc:U Cc):Er acc=(Lp acc).map Gq:=by
 unfold Er Lp;rw[Cp];rfl
theorem RF(acc:U Cc):(Lp acc).map (·.1)=ZB BE (ZE acc):=by
 unfold Lp;rw[Cp];exact List.map_id _
theorem iI(acc:U Cc):∀e∈Lp acc,AW 12 e.2=J':=λe a=>by
 obtain⟨k,_,rfl⟩:=Ba.mp a;rfl
theorem yo(c:U At)(f:c.length<64):∃g:U D,UR [#v[c.map aD]]=Z (.own g)/\(0<g.length↔c≠[])/\g.length<64:=by
 have j:=Zw (b:=Zc 0) (e:=d3) (ρ:=[.no]) aD (λa=>Af [a]) c λa _=>#[[.val<|aD a],rfl,by
  rfl]
 rw[show c.map (λa=>Af [a])=(c.map λa=>[a]).map Af by rw[Cp];rfl]at j;have n:=Wm #v[(c.map λa=>[a]).map Af] (c.map λa=>[a]) (.inl rfl) (by simpa using f) λl f=>by
  obtain⟨a,_,rfl⟩:=Ba.mp f;exact#[by simp,by simp]
 have o:∀k∈Do J (ZB BE<|c.map λa=>[a]),∃a,k=[a]:=λk h=>by
  have:=(ZO BE _).mem_iff.mp<|(hR _ k).mp h;obtain⟨a,_,rfl⟩:=Ba.mp this;exact#[a,rfl]
 have d:0<(Do J<|ZB BE<|c.map λa=>[a]).length↔c≠[]:=by
  cases c with
  |nil=>simp[ZB,Do]
  |cons a r=>exact#[λ_=>by simp,λ_=>List.length_pos_of_mem<|(hR _ [a]).mpr<|(ZO BE _).mem_iff.mpr<|Ba.mpr ⟨a,Bj,rfl⟩]
 have i:(Do J<|ZB BE<|c.map λa=>[a]).length<64:=Kx (Rt _ _) (by rw[(ZO BE _).length_eq,A9];exact f);generalize Do J (ZB BE<|c.map λa=>[a])=m at *;have p:=Zw (b:=Zc 0) (e:=d4) (ρ:=[.no]) Af (λk=>aD<|hd k) m λk h=>#[[.val<|Af k],rfl,by
  obtain⟨a,rfl⟩:=o k h;rfl]
 have q:=Zx (c.map aD) (by simp;lia);have s:=Zx (m.map Af) (by simp;lia);refine#[m.map λk=>aD<|hd k,?_,by simpa using d,by simpa using i];generalize c.map aD=M,(c.map λa=>[a]).map Af=V,m.map Af=W,(m.map λk=>aD<|hd k)=Y at *;refine ZF rfl ?_;show UQ [#v[M]]=_
 rwa[UQ,Zk,show Zq 1 [] [#v[M]]=[.no]from rfl,q,j,n,Gm,s,p,Cn]
theorem yp{l:U At}(h:Ln l)(j:Nat):Iy [.val (Af l),‹j›]=Z (.val (aD (l.getD j .non))):=Wn l j (by have:=h.l4;lia)
theorem Wp{l:U At}(h:Ln l):Ap (Af l) (.int 0)=Z (aD (hd l)):=by
 have b:=h.l1;cases l with
 |nil=>simp at b
 |cons a r=>exact Lo (aD a)<|r.map aD
theorem iJ{l:U At}(h:Ln l):hd l∈l:=by
 have b:=h.l1;cases l with
 |nil=>simp at b
 |cons a r=>exact Bj
theorem J4{c:A3}{p:Nat}(f:GL c p)(j:Nat)(a:At)(d:Sm (aD a)/\(Cz (aD a)=J'\/a=.non)):Zv [.val (LD c),‹j›,.val (aD a)]=Z (.val (.bl (decide (∃l∈c,l.getD j .non=a)))):=by
 have n:=OS (b:=Zc 0) (t:=UY) (e:=UZ) (ρ:=[.no,‹j›,.val<|aD a]) Af (λl=>aD<|hd l) (λl=>decide<|l.getD j .non=a) c λl o=>#[[.val<|Af l,‹j›,.val<|aD a],rfl,by
  refine#[?_,?_]
  ·rwa[UY,yp (f.ln l o) j,BK,Iv,ON,OL]
  ·rwa[UZ,Wp<|f.ln l o]]
 rw[show(c.filter λl=>decide<|l.getD j .non=a).map (λl=>aD<|hd l)=((c.filter λl=>decide<|l.getD j .non=a).map hd).map aD by rw[Cp];rfl]at n;obtain⟨g,q,i,r⟩:=yo ((c.filter λl=>decide<|l.getD j .non=a).map hd) (by
  rw[A9];have:=List.length_filter_le (λl=>decide<|l.getD j .non=a) c;have:=f.n6;lia)
 have k:(c.filter λl=>decide<|l.getD j .non=a).map hd≠[]↔∃l∈c,l.getD j .non=a:=by
  simp
 rw[k]at i;have s:=Zx (c.map Af) (by rw[A9];have:=f.n6;lia);have u:QW [.val<|LD c,‹j›,.val<|aD a]=Z (.own g):=by
  refine ZF rfl ?_;show Ow [.val<|LD c,‹j›,.val<|aD a]=_
  have m:Ez (ZW<|Jl<|some<|aD a) (Z<|!(Ee (aD a)||Bq (aD a)))=Z O':=by
   rcases d.2 with h|rfl
   ·rw[show(Ee (aD a)||Bq (aD a))=J' from h];cases a<;>rfl
   ·rfl
  rwa[Ow,V0 (aD a) d.1,show Z0 (Z<|.bl<|Ee (aD a)||Bq (aD a))=Z (Ee (aD a)||Bq (aD a))from rfl]at *;rwa[m,E9,Zk,show Zq 1 [1,2] [.val<|LD c,‹j›,.val<|aD a]=[.no,‹j›,.val<|aD a]from rfl,s,n,q,LK,Cn]
 refine ZF rfl ?_;show Ox [.val<|LD c,‹j›,.val<|aD a]=_
 rwa[Ox,u,Gm,show Zo [.lst g]=Z (.int g.length)from rfl,D2,i2,show decide ((0:Int)<(g.length:Int))=decide (∃l∈c,l.getD j .non=a)from decide_eq_decide.mpr #[λh=>i.mp<|G7.mp h,λh=>by have:=i.mpr h;exact G7.mpr this]]
theorem MG(L x d:D)(b:Sm d)(c:Cz d=O')(e:d≠.non):Zv [.val L,.val x,.val d]=Z (.val (.bl O')):=by
 have a:=V0 d b;rw[show(Ee d||Bq d)=O' from c]at a;have f:QW [.val L,.val x,.val d]=Z (.own []):=by
  refine ZF rfl ?_;show Ow [.val L,.val x,.val d]=_
  rwa[Ow,a,Jl,show isN d=O' by cases d<;>first|rfl|exact absurd rfl e,Zf,Cn];rfl
 refine ZF rfl ?_;show Ox [.val L,.val x,.val d]=_
 rwa[Ox,f,Gm,D2,i2];rfl
theorem yq{e:A3}{p:Nat}(f:GL e p){a:At}(g:a∈e.map hd):Zv [.val (LD e),‹0›,.val (aD a)]=Z (.val (.bl J')):=by
 obtain⟨c,b,rfl⟩:=Ba.mp g;have d:=f.val c b (hd c)<|iJ<|f.ln c b;have:=J4 f 0 (hd c) #[d.2.1,.inl d.1];rw[decide_eq_true #[c,b,by cases c<;>rfl]]at this;exact this
theorem yr{L:AT}{s:U At}(h:∀b∈L,∃p,GL b p)(c:A1 L s):Z2 (Dr 2 (ZC (Zc 0) (ZC (Zc 1) Dq))) (λ_=>Z J') Q0 [.no,.no] (JC (λx y=>D.tup [x,y]) (L.map LD) (s.map aD))=Z ((L.map λ_=>J').map D.bl):=by
 induction c with|nil=>rfl|@cons b j a k d l e=>
  obtain⟨p,f⟩:=h b Bj;have g:Q0 [.val<|LD b,.val<|aD a]=Z (.bl J'):=by
   have:=yq f d;rwa[Q0,this]
  rwa[List.zipWith_cons_cons,Z2,Dr,ZC,Dq,g,e λb i=>h b<|BG _ i]
theorem yt{L:AT}(h:Cb L){s:U At}(c:A1 L s):Vd [#v[L.map LD],.val (Af s)]=Z (.val (.bl J')):=by
 have d:=yr h.good c;have e:=ik L;have i:=h.n4;have f:=Zx (JC (λx y=>D.tup [x,y]) (L.map LD) (s.map aD)) (by simp;lia);have i1:EC [.tup<|s.map aD,.ty "tuple"]=Z (.bl J'):=rfl;have l1:Zo [.tup<|s.map aD]=Z (.int ((s.map aD).length:Int)):=rfl;have g:Zo [.lst<|L.map LD]=Z (.int ((L.map LD).length:Int)):=rfl;have a:CK (.int ((s.map aD).length:Int)) (.int ((L.map LD).length:Int))=Z (.bl O'):=by rw[show(s.map aD).length=(L.map LD).length by simp[c.len]];simp
 refine ZF rfl ?_;unfold Af;generalize (L.map λ_=>J').map D.bl=B,s.map aD=S,(L.map LD)=j at *;show Vc [#v[j],.val<|.tup S]=_
 rwa[Vc,i1,show ∀b,Z0 (Z<|.bl b)=Z b from λ_=>rfl,l1,g,a,Zk,Hx,GV,show Zq 2 [] [#v[j],.val<|.tup S]=[.no,.no]from rfl,f,d,e]
abbrev Row:=U At×Int
abbrev iK:=Bool×Row
noncomputable def IK(b:Bool):D:=if b then .str "+" else .str "-"
def J5(c:iK):D:=.tup [IK c.1,Af c.2.1,.int c.2.2]
theorem yu:¬ ("+":Ae)="-":=by decide +kernel
theorem iL:¬ ("-":Ae)="+":=by decide +kernel
theorem yv(b:Bool):CK (IK b) (.str "+")=Z (.bl (!b)):=by cases b<;>simp[IK,iL]
theorem yw(b:Bool):CK (IK b) (.str "-")=Z (.bl b):=by cases b<;>simp[IK,yu]
theorem yx(b:Bool):BK (IK b) (.str "+")=Z (.bl b):=by cases b<;>simp[IK,iL]
theorem yy{L:AT}(h:Cb L)(c:iK)(f:A1 L c.2.1):Q3 [#v[L.map LD],.val (J5 c)]=Z (.val (.bl J')):=by
 have g:=yt h f;have a:=OJ (.int c.2.2) trivial;have i1:EC [J5 c,.ty "tuple"]=Z (.bl J'):=rfl;have l1:Zo [J5 c]=Z (.int 3):=rfl;have i:Ap (J5 c) (.int 0)=Z (IK c.1):=rfl;have d:Ap (J5 c) (.int 1)=Z (Af c.2.1):=rfl;have e:Ap (J5 c) (.int 2)=Z (.int c.2.2):=rfl;rw[show Ee (.int c.2.2)=J' from rfl]at a;generalize J5 c=C,L.map LD=j at *;refine ZF rfl ?_;show Vl [#v[j],.val C]=_
 unfold Vl;rwa[i1,show ∀b,Z0 (Z<|.bl b)=Z b from λ_=>rfl,l1,show CK (.int 3) (.int 3)=Z (.bl O')from rfl,i,d,e,yv,yw];cases c.1<;>rwa[d,e,g,a,Ct]
def B5(r s:Row):Bool:=if r.1=s.1 then decide (r.2<s.2)else BE r.1 s.1
theorem yz:TO B5:={
 asym:=λa b h=>by
  unfold B5 at h ⊢
  by_cases e:a.1=b.1
  ·rw[if_pos e]at h;rw[if_pos e.symm];simp at h ⊢;exact Int.le_of_lt h
  ·rw[if_neg e]at h;rw[if_neg (λz=>e z.symm)];exact EG.asym _ _ h
 neg:=λa b c h=>by
  unfold B5 at h ⊢
  by_cases i:a.1=b.1
  ·rw[if_pos i]
   by_cases f:b.1=c.1
   ·rw[if_pos f];rw[if_pos (i.trans f)]at h;simp at h ⊢;lia
   ·rw[if_neg f];rw[if_neg (λz=>f (i.symm.trans z)),i]at h;exact .inr h
  ·rw[if_neg i]
   by_cases f:b.1=c.1
   ·rw[if_neg (λz=>i (z.trans f.symm)),<- f]at h;exact .inl h
   ·rw[if_neg f]
    by_cases j:a.1=c.1
    ·cases g:BE a.1 b.1 with
     |true=>exact .inl rfl
     |false=>
      cases d:BE b.1 a.1 with
      |true=>rw[j]at d;exact .inr d
      |false=>exact absurd (EG.anti _ _ g d) i
    ·rw[if_neg j]at h;exact EG.neg _ _ _ h
 anti:=λa b g d=>by
  unfold B5 at g d
  by_cases e:a.1=b.1
  ·rw[if_pos e]at g;rw[if_pos e.symm]at d
   simp at g d
   exact Prod.ext e (Int.le_antisymm d g)
  ·rw[if_neg e]at g;rw[if_neg (λz=>e z.symm)]at d;exact absurd (EG.anti _ _ g d) e}
def OT(r:Row):D:=.tup [.tup (r.1.map Dc),.int r.2]
theorem yA(r:Row)(h:r.1.length<=1000):QS [.val (Zi r)]=Z (.val (OT r)):=by
 refine ZF rfl ?_;show UH [.val<|Zi r]=_
 unfold OT;rwa[UH,show Ap (Zi r) (.int 0)=Z (Af r.1)from rfl,show Ap (Zi r) (.int 1)=Z (.int r.2)from rfl,im r.1 h]
theorem iM:∀a b:U At,CJ (a.map Dc) (b.map Dc)=decide (a=b)
 |[],[]=>by simp
 |[],_::_=>by simp
 |_::_,[]=>by simp
 |x::a,y::b=>by
  simp[hY,iM a b]
theorem yB(r s:Row):ltN 6 (OT r) (OT s)=Z (B5 r s):=by
 have c:AW 12 (.tup<|r.1.map Dc)=J':=by
  show(r.1.map Dc).all (AW 11)=J'
  grind [Rs]
 have d:AW 12 (.tup<|s.1.map Dc)=J':=by
  show(s.1.map Dc).all (AW 11)=J'
  rw[List.all_map,Ec];exact λa _=>Rs 10 a
 have f:AF (.tup<|r.1.map Dc) (.tup<|s.1.map Dc)=decide (r.1=s.1):=by
  rw[<- iM];erw[AF]
 show Fv (ltN 5) [.tup<|r.1.map Dc,.int r.2] [.tup<|s.1.map Dc,.int s.2]=_
 unfold B5;rwa[Fv,Iv,c,d,f,show ltN 5 (.tup<|r.1.map Dc) (.tup<|s.1.map Dc)=Z (BE r.1 s.1)from(Wj 2 r.1 s.1),decide_eq_true_eq,AW];by_cases e:r.1=s.1
 ·rw[if_pos e,if_pos e];by_cases b:r.2=s.2
  ·simp[b]
  ·simp[b]
 ·rw[if_neg e,if_neg e]
theorem yC(rs:U Row)(a:rs.length<64)(b:∀r∈rs,r.1.length<=1000):GR QS (rs.map Zi)=Z ((ZB B5 rs).map Zi):=Wg Zi yz O' rs a OT (λr h=>yA r<|b r h) (λr _=>#[_,_,rfl]) (λr _ s _=>yB r s)
theorem iN(L:AT)(h:∀a∈L,∃p,GL a p)(ws:U Int)(l:L.length<=ws.length):∀(b pre:AT),L=pre++b->∃s,A1 b s/\Z2 (Zc 0) (λ_=>Z J') QH [.no,#v[L.map LD],#v[ws.map D.int]] ((Fi pre.length b.length).map λk:Nat=>D.int k)=Z (s.map aD)
 |[],pre,_=>#[[],.nil,rfl]
 |a::b,pre,e=>by
  obtain⟨s,m,g⟩:=iN L h ws l b (pre++[a]) (by rw[e];simp);rw[Ej]at g;obtain⟨p,f⟩:=h a (by rw[e];simp);have d:pre.length<ws.length:=by
   have:L.length=pre.length+(b.length+1):=by rw[e];simp
   lia
  have n:Ap (.lst<|L.map LD) (.int pre.length)=Z (LD a):=ZD (by rw[e];simp);have o:Ap (.lst<|ws.map D.int) (.int pre.length)=Z (.int<|ws.getD pre.length 0):=ZD (by rw[CW,BW d];simp[DH,d]);generalize ws.getD pre.length 0=x at *;have q:Zo [LD a]=Z (.int a.length):=by simp
  have r:=Dn x (a.length:Int)<|G7.mpr f.n1;have t:=IG x (show(a.length:Int)≠0 by exact Bv (Int.ne_of_lt<|G7.mpr f.n1));have i:=G6 x<|G7.mpr f.n1;generalize x%(a.length:Int)=j at *;obtain⟨c,rfl⟩:∃c:Nat,j=(c:Int):=#[j.toNat,by exact Int.eq_natCast_toNat.mpr t];have u:Ap (LD a) (.int c)=Z (Af a[c]):=ZD (by rw[CW,BW<|MB.mp i];rfl);refine⟨hd a[c]::s,.cons (Ry<|Gf<|MB.mp i) m,?_⟩;have w:QH [‹pre.length›,#v[L.map LD],#v[ws.map D.int]]=Z (aD<|hd a[c]):=by
   generalize LD a=B,ws.map D.int=W,L.map LD=y at *;rwa[QH,n,o,q,r,u,Wp<|f.ln _<|Gf<|MB.mp i]
  erw[CT,Lg,Be,Z2,Zc,EX,w];erw[CT,HY]at g ⊢;rw[g];rfl
theorem yD{L:AT}(h:Cb L)(c:Int):∃r:Row,A1 L r.1/\Um [#v[L.map LD],‹c›]=Z (.val (Zi r)):=by
 obtain⟨e,t,H,_⟩:=Rl c 6<|Nat.le_of_ble_eq_true rfl;have Q:=h.n4;obtain⟨s,m,o⟩:=iN L h.good e (by lia) L [] rfl;rw[show(Fi ([]:AT).length L.length)=BB L.length by rw[My];rfl]at o;have f:Zo [.lst<|L.map LD]=Z (.int L.length):=by simp
 have p:=N3 (L.length:Int) (JJ<|IX L) (by lia);rw[Iq]at p;have u:=Zx ((BB L.length).map λk:Nat=>D.int k) (by simp;lia);have w:Em [.lst<|s.map aD]=Z (Af s):=rfl;have x:Ap (.lst<|e.map D.int) (.int 4)=Z (.int<|e.getD 4 0):=Mz (IF 4) (by lia);have y:Ap (.lst<|e.map D.int) (.int 5)=Z (.int<|e.getD 5 0):=Mz (IF 5) (by lia);generalize e.getD 5 0=i,e.getD 4 0=l at *;have z:=Dn l 7 (by ext);have A:=Dn l 2 (by ext);have n:=Dn c (10^30) (by ext);have B:=Dn i 4 (by ext);have F:=IG i (show(4:Int)≠0 by ext);have M:=G6 i (show(0:Int)<4 by ext);generalize c%10^30=g,l%2=C,l%7=E,i%4=j at *;obtain⟨v,G⟩:∃v,Ap (.lst [.int<|E-3,.int g,.int<|0-g,.int C]) (.int j)=Z (.int v):=by
  rcases(show j=0\/j=1\/j=2\/j=3 by lia)with q|q|q|q<;>rw[q]
  ·exact#[_,rfl]
  ·exact#[_,rfl]
  ·exact#[_,rfl]
  ·exact#[_,rfl]
 refine#[(s,v),m,?_];show _=Z (Rv.val<|.tup [Af s,.int v])
 generalize L.map LD=P,e.map D.int=W,(BB L.length).map (λk:Nat=>D.int k)=N,Af s=S,s.map aD=K at *;refine ZF rfl ?_;show Ul [#v[P],‹c›,.no,.no]=_
 rwa[Ul,show ZR [‹c›,‹6›]=Z #v[W]from t,Zk,show Zq 1 [0,2] [#v[P],‹c›,#v[W],.no]=[.no,#v[P],#v[W]]from rfl,f,p,u,o,w,x,y,show D1 (.int 10) (.int 30)=Z (.int<|10^30)from Lh (by ext),z,A,n,B,show ∀a b c d:D,Zf (Z [a,b,c,d])=Z [a,b,c,d]from λ_ _ _ _=>Zx _ (by simp),G]
noncomputable abbrev wh(a:A3):Nat:=(a.headD []).length
noncomputable def HF(p:Nat):D->Bool
 |.int i=>decide (0<=i)&&decide (i<=(p:Int))
 |_=>O'
theorem GL.wh{a:A3}{p:Nat}(h:GL a p):wh a=p:=by
 have b:=h.n1
 cases a with
 |nil=>simp at b
 |cons l r=>exact h.len l Bj
theorem iO{a:A3}{p:Nat}(h:GL a p):N8 [.val (LD a)]=Z ‹(wh a:Int)›:=by
 have c:=h.n1;cases a with|nil=>simp at c|cons l a=>
  have b:Zo [Af l]=Z (.int ((l.map aD).length:Int)):=rfl;rw[A9]at b;simp only[N8,AS,CT,HY,FZ,if_true,cm,Lj,Lk,DO,Zj,Za,A5,C9,B7,Ap,show atI ((l::a).map Af) 0=Z (Af l)from ZD (j:=0) rfl,C6,Db,Zd,Gd,pk,b,ZA,Zg];rfl
theorem yE{a:A3}{p:Nat}(h:GL a p)(d:D)(hd:Sm d):Ui [.val (LD a),.val d]=Z (.val (.bl (HF (wh a) d))):=by
 have b:=OJ d hd;have c:=iO h;generalize (wh a)=n at *;cases d with
 |int i=>
  rw[show Ee (.int i)=J' from rfl]at b;refine ZF rfl ?_;show Oe [.val<|LD a,‹i›]=_
  unfold HF;rwa[Oe,b,Ih,show Hk (.int 0) (.int i)=Z (.bl<|decide<|0<=i)from rfl];cases decide (0<=i)with
  |true=>rwa[c,show Hk (.int i) (.int n)=Z (.bl<|decide<|i<=(n:Int))from rfl,Ct,Bool.true_and]
  |false=>rwa[Ct,Bool.false_and]
 |_=>
  refine ZF rfl ?_;show Oe [.val<|LD a,.val _]=_
  rwa[Oe,show Z1 [.val _]=Z (.val<|.bl O')from b,Ct,HF]
noncomputable abbrev RG(L:AT)(a:U D):Bool:=((L.zip a).map λq=>HF (wh q.1) q.2).all id
theorem yF(bs:U Bool):Ig (bs.map D.bl)=Z bs:=by
 simp_all
theorem iP:∀(L:AT)(b:U D),JC (λx y=>D.tup [x,y]) (L.map LD) b=(L.zip b).map λq=>D.tup [LD q.1,q.2]
 |[],_=>by simp
 |_::_,[]=>by simp
 |a::L,z::b=>by simp[iP L b]
theorem yG{L:AT}(h:Cb L)(a:U D)(hz:∀z∈a,Sm z)(i:a.length=L.length):Lb [#v[L.map LD],.val (.tup a)]=Z (.val (.bl (RG L a))):=by
 have m:=h.n4;have c:=Zw (b:=Dr 2<|ZC (Zc 0)<|ZC (Zc 1) Dq) (e:=Ut) (ρ:=[.no,.no]) (λq:U (U At)×D=>D.tup [LD q.1,q.2]) (λq=>D.bl<|HF (wh q.1) q.2) (L.zip a) λq f=>#[[.val<|LD q.1,.val q.2],rfl,by
  obtain⟨p,j⟩:=h.good q.1 (M4 f).1;have:=yE j q.2<|hz _ (M4 f).2;rwa[Ut,this]]
 rw[show(L.zip a).map (λq=>D.bl<|HF (wh q.1) q.2)=((L.zip a).map λq=>HF (wh q.1) q.2).map D.bl by rw[Cp];rfl]at c;have k:Fa [.lst<|((L.zip a).map λq=>HF (wh q.1) q.2).map D.bl]=Z (.bl<|RG L a):=by
  erw[Fa,yF,Db]
 have g:=Zx ((L.zip a).map λq=>D.tup [LD q.1,q.2]) (by simp;lia);have l:Zo [.lst<|L.map LD]=Z (.int ((L.map LD).length:Int)):=rfl;have d:CK (.int a.length) (.int ((L.map LD).length:Int))=Z (.bl O'):=by rw[i,A9];simp
 rw[<- (iP L a)]at c g;generalize L.map LD=W,((L.zip a).map λq=>HF (wh q.1) q.2).map D.bl=o at *;refine ZF rfl ?_;show Uu [#v[W],.val<|.tup a]=_
 rwa[Uu,show EC [.tup a,.ty "tuple"]=Z (.bl J')from rfl,show ∀b,Z0 (Z<|.bl b)=Z b from λ_=>rfl,show Zo [.tup a]=Z (.int a.length)from rfl,l,d,Zk,Hx,GV,show Zq 2 [] [#v[W],.val<|.tup a]=[.no,.no]from rfl,g,c,k]
def Gr(L:AT)(g:U Nat):Prop:=g.length=L.length/\∀q∈L.zip g,q.2<=wh q.1
theorem iQ:∀{L:AT}{g:U Nat},(∀q∈L.zip g,q.2<=wh q.1)->RG L (g.map λj:Nat=>D.int j)=J'
 |[],_,_=>by simp
 |_::_,[],_=>by simp
 |b::L,j::g,h=>by
  have c:=iQ (L:=L) (g:=g) λq a=>h q<|BG _ a;simp_all [HF,wh,RG,Int.ofNat_le]
theorem RH{L:AT}(h:Cb L){g:U Nat}(a:Gr L g):Lb [#v[L.map LD],.val (Bf g)]=Z (.val (.bl J')):=by
 have:=yG h (g.map λj:Nat=>D.int j) (λz b=>by obtain⟨j,_,rfl⟩:=Ba.mp b;trivial) (by rw[A9];exact a.1);rw[iQ a.2]at this;grind
noncomputable abbrev gk(g:U Nat):U At:=g.map λj:Nat=>At.int j
theorem J6(g:U Nat):Af (gk g)=Bf g:=by unfold Af gk;rw[Cp];rfl
theorem RJ:∀{g g':U Nat},gk g=gk g'->g=g'
 |[],[],_=>rfl
 |[],_::_,h=>by simp at h
 |_::_,[],h=>by simp at h
 |a::g,b::g',h=>by
  erw[gk,Be,PR,At.int.injEq]at h;rw[RJ (g:=g) (g':=g') h.2,Int.ofNat.inj h.1]
abbrev AM(L:AT)(rs:U Row)(gs:U (U Nat)):Br:=gs.map λg=>(.tup (gk g),.lst (Z9 L g rs))
section
variable(L:AT)(rs:U Row)
theorem Wq(k:U At)(gs:U (U Nat)):Dy (.tup k) (AM L rs gs)=J':=KP k λp a=>by
 obtain⟨g,_,rfl⟩:=Ba.mp a;rfl
theorem RK:∀(gs:U (U Nat))(g:U Nat),Zt (AM L rs gs) (.tup (gk g))=if g∈gs then Z (.lst (Z9 L g rs))else J
 |[],g=>by simp[Zt]
 |x::gs,g=>by
  have a:=RK gs g
  erw[Be,Zt,KT.tup.injEq]
  by_cases e:x=g
  ·subst e;simp
  ·rw[if_neg (λz=>e (RJ z)),a]
   simp[Bv e]
theorem Wr(neg:Bool)(gs:U (U Nat))(g:U Nat):DG neg (Bf g) (.lst (Zb (AM L rs gs)) .d)=Z (.bl (neg != decide (g∈gs))):=by
 have hok:=HE<|gk g;rw[J6]at hok;rw[PU,hok];show(if Dy (.tup<|gk g) (AM L rs gs)=J' then _ else _)=_
 rw[if_pos<|Wq L rs _ gs,RK];grind
theorem RL{g:U Nat}(h:g∈gs):DR (.lst (Zb (AM L rs gs)) .d) (Bf g)=Z (.lst (Z9 L g rs)):=by
 have hok:=HE<|gk g;simp_all [J6,gk,AM,Wq,RK]
theorem yH(gs:U (U Nat)):Mb [.lst (Zb (AM L rs gs)) .d]=Z (.int gs.length):=by
 have:(AM L rs gs).all (λp=>!Fd p.1)=J':=by rw[List.all_map,Ec];exact λe _=>rfl
 rwa[Mb,Ik,this,A9]
theorem yI{g:U Nat}(h:g∉gs):Z4 (AM L rs gs) (.tup (gk g)) (.lst (Z9 L g rs))=AM L rs (gs++[g]):=by
 unfold Z4;grind [RK]
theorem iR(gs:U (U Nat)):((AM L rs gs).map λp=>kD p.1)=gs.map Bf:=by
 rw[Cp];exact OU λg _=>J6 g
end
noncomputable abbrev Eg:U Ae:=["axes","standing","tables"]
abbrev kB:Kd:=.i Eg "Book"
abbrev Bo(L:AT)(R:U D)(t:Nat):Cl:=.mix kB [#v[L.map LD],#v[R],.cel t]
abbrev BD(L:AT)(R T:U D):D:=.lst [.lst (L.map LD),.lst R,.lst T .d] kB
theorem yJ:(("tables":Ae)=="axes")=O':=by decide +kernel
theorem yK:(("tables":Ae)=="standing")=O':=by decide +kernel
section
variable{L:AT}{R T:U D}{G:Gh}{b t:Nat}
theorem F1:Cr "Book" "axes" (BD L R T)=Z (.lst (L.map LD)):=rfl
theorem RM:Cr "Book" "standing" (BD L R T)=Z (.lst R):=rfl
theorem MH:Cr "Book" "tables" (BD L R T)=Z (.lst T .d):=rfl
theorem J7(m:Nat)(a:m≠0)(c:G[b]?=Z (Bo L R t))(e:G[t]?=Z (.dat .d T)):DJ m G (.cel b)=.val (BD L R T):=by
 simp_all
theorem ZFQ(a:G[b]?=Z (Bo L R t)):DJ 0 G (.cel b)=.no:=by
 simp_all
theorem iS{xs:U IV}(a:G[b]?=Z (Bo L R t)):Qe "Book" "tables" (xs,G) (Z b)=Z t:=by simp_all [List.lookup,yJ,yK]
end
theorem Bm{d:A3}:BF (d.flatMap (DC 0))↔∀l∈d,∀c∈d,∀m a,l[m]?=Z a->c[m]?=Z a->l.drop (m+1)=c.drop (m+1):=by
 constructor
 ·intro h l f c b m a e g;exact h (m,a) _ _ (IH.mpr #[l,f,(Lf _ _ _).mpr #[m,(HD m).symm,e,rfl]])<|IH.mpr ⟨c,b,(Lf _ _ _).mpr ⟨m,(HD m).symm,g,rfl⟩⟩
 ·rintro h ⟨m,a⟩ t u r s;obtain⟨l,f,e⟩:=IH.mp r;obtain⟨c,b,g⟩:=IH.mp s;obtain⟨n,i,j,k⟩:=(Lf _ _ _).mp e;obtain⟨v,o,p,q⟩:=(Lf _ _ _).mp g;erw[HD]at i o j p k q;subst i;subst o;exact k.trans<|(h l f c b _ _ j p).trans q.symm
noncomputable abbrev DM(n:Nat)(v:At)(q l:U At):U At:=if l.getD n .non=v then l.take (n+1)++q.drop (n+1)else l
noncomputable def rgp(a:A3)(n:Nat)(v:At)(q:U At):A3:=a.map (DM n v q)
theorem Ws{p n m:Nat}{v:At}{q l:U At}(b:l.length=p)(c:n+1<p)(a:m<=n):(DM n v q l)[m]?=l[m]?:=by
 unfold DM;split
 ·rw[EL (by rw[IY];lia),XE<|Nat.lt_succ_of_le a]
 ·rfl
theorem OV{p n m:Nat}{v:At}{q l:U At}(b:l.length=p)(c:n+1<p)(a:n<m):(DM n v q l)[m]?=(if l.getD n .non=v then q else l)[m]?/\(DM n v q l).drop (m+1)=(if l.getD n .non=v then q else l).drop (m+1):=by
 split
 ·have e:(l.take<|n+1).length=n+1:=by rw[IY];lia
  constructor
  ·rw[Hg<|le_of_eq_of_le e a,e,Jg];congr 1;exact Nat.add_sub_of_le a
  ·rw[List.drop_append,e,M8 (by lia),List.drop_drop,D8];congr 1;lia
 ·exact#[rfl,rfl]
theorem yL{p n:Nat}{v:At}{q l:U At}(a:l.length=p)(b:q.length=p)(c:n+1<p):(DM n v q l).length=p:=by
 unfold DM;split
 ·rw[Ej,IY,N2];lia
 ·exact a
theorem yM{n:Nat}{v:At}{q l:U At}(b:1<=l.length):hd (DM n v q l)=hd l:=by
 unfold DM;split
 ·cases l with
  |nil=>simp at b
  |cons a r=>rfl
 ·rfl
theorem Wt{a:A3}{n:Nat}{v:At}{q:U At}(h:∀l∈a,1<=l.length):(rgp a n v q).map hd=a.map hd:=by
 rw[rgp,Cp];exact OU λl b=>yM<|h l b
theorem GL.rgp{o:A3}{p n:Nat}(h:GL o p)(e:n+1<p)(v:At){q:U At}(w:q∈o):GL (rgp o n v q) p:=by
 have F:=Bm.mp h.fn
 have s:∀l∈o,(if l.getD n .non=v then q else l)∈o:=λl f=>by split<;>assumption
 refine#[by simpa[K55.rgp]using h.n1,by simpa[K55.rgp]using h.n6,h.p1,h.p4,λx g=>?_,λx g a c=>?_,?_,?_]
 ·obtain⟨l,f,rfl⟩:=Ba.mp g
  exact yL (h.len l f) (h.len q w) e
 ·obtain⟨l,f,rfl⟩:=Ba.mp g
  unfold DM at c
  split at c
  ·rcases Cm.mp c with c|c
   ·exact h.val l f a (Wc c)
   ·exact h.val q w a (Rm c)
  ·exact h.val l f a c
 ·rw[Wt λl f=>by rw[h.len l f];exact h.p1];exact h.hdn
 ·refine Bm.mpr λy z A B m a r t=>?_
  obtain⟨l1,j,rfl⟩:=Ba.mp z
  obtain⟨i,k,rfl⟩:=Ba.mp B
  by_cases b:m<=n
  ·rw[Ws (h.len l1 j) e b]at r
   rw[Ws (h.len i k) e b]at t
   have d:=F l1 j i k m a r t
   have C:l1.getD n .non=i.getD n .non:=by
    rcases KQ m n with E|u
    ·have:=congrArg (λl=>l[n-(m+1)]?) d
     erw[Jg]at this
     rw[show m+1+(n-(m+1))=n by lia]at this
     erw[DH,this]
    ·obtain rfl:m=n:=NH b u
     erw[DH,r,t]
   unfold DM
   rw[C]
   split
   ·rw[List.drop_append_of_le_length (by rw[IY,h.len l1 j];lia),List.drop_append_of_le_length (by rw[IY,h.len i k];lia),List.drop_take,List.drop_take,d]
   ·exact d
  ·have b:n<m:=NS b
   rw[(OV (h.len l1 j) e b).1]at r
   rw[(OV (h.len i k) e b).1]at t
   rw[(OV (h.len l1 j) e b).2,(OV (h.len i k) e b).2]
   exact F _ (s l1 j) _ (s i k) m a r t
def Up(a:A3):Prop:=∀l∈a,∀(j:Nat)(i:Int),l[j]?=Z (.int i)->i<10^45+(a.length:Int)+100*(j:Int)
theorem Lm.up{a:A3}(h:Lm a):Up a:=λl b j i e=>by
 have:=h l b _ (Fn e) i rfl;lia
theorem Up.rgp{a:A3}{p n:Nat}(u:Up a)(h:GL a p)(d:n+1<p)(v:At){q:U At}(g:q∈a):Up (rgp a n v q):=λk c j i e=>by
 obtain⟨l,b,rfl⟩:=Ba.mp c
 rw[K55.rgp,A9]
 by_cases f:j<=n
 ·rw[Ws (h.len l b) d f]at e;exact u l b j i e
 ·rw[(OV (h.len l b) d (NS f)).1]at e
  split at e
  ·exact u q g j i e
  ·exact u l b j i e
theorem GL.app{g:A3}{p:Nat}(h:GL g p)(n:g.length<40){l:U At}(t:l.length=p)(u:∀a∈l,Cz (aD a)=J'/\Sm (aD a)/\∀i,a=.int i->(-10^40<i/\i<10^40)\/10^45<=i/\i<10^46)(v:hd l∉g.map hd) (o:∀q∈g,∀m a,l[m]?=Z a->q[m]?=Z a->l.drop (m+1)=q.drop (m+1)):GL (g++[l]) p:=by
 refine#[by simp,by simp;exact P0 n,h.p1,h.p4,λx c=>?_,λx c=>?_,?_,?_]
 ·rcases Cm.mp c with c|c
  ·exact h.len x c
  ·rw[CP.mp c];exact t
 ·rcases Cm.mp c with c|c
  ·exact h.val x c
  ·rw[CP.mp c];exact u
 ·rw[Fw,Js];exact#[h.hdn,by simp,λa w b r e=>v (by simp at r;rw[<- r,<- e];exact w)]
 ·refine Bm.mpr λl1 d s f m a j k=>?_;rcases Cm.mp d with d|d<;>rcases Cm.mp f with f|f
  ·exact(Bm.mp h.fn) l1 d s f m a j k
  ·rw[CP.mp f]at k ⊢;exact(o l1 d m a k j).symm
  ·rw[CP.mp d]at j ⊢;exact o s f m a j k
  ·rw[CP.mp d,CP.mp f]
theorem Up.app{b:A3}(u:Up b){l:U At}(h:∀(j:Nat)(i:Int),l[j]?=Z (.int i)->i<10^45+(b.length:Int)+1+100*(j:Int)):Up (b++[l]):=λx a j i e=>by
 rw[Ej,Kv];rcases Cm.mp a with a|a
 ·have:=u x a j i e;lia
 ·rw[CP.mp a]at e;have:=h j i e;exact TR<|h j i e
theorem F2(b:Bool):Z0 (Z (.bl b))=Z b:=rfl
noncomputable def F3(n:Nat):D->Bool
 |.int i=>decide (0<=i)&&decide (i<(n:Int))
 |_=>O'
theorem iT(L:U D)(d:D)(hd:Sm d):QC [#v[L],.val d]=Z (.val (.bl (F3 L.length d))):=by
 have a:=OJ d hd;cases d with
 |int i=>
  rw[show Ee (.int i)=J' from rfl]at a;refine ZF rfl ?_;show Od [#v[L],‹i›]=_
  unfold F3;rwa[Od,a,Ih,show Hk (.int 0) (.int i)=Z (.bl<|decide<|0<=i)from rfl];cases decide (0<=i)with
  |true=>rwa[show Zo [.lst L]=Z (.int L.length)from rfl,show Hl (.int i) (.int L.length)=Z (.bl<|decide<|i<(L.length:Int))from rfl,Ct,Bool.true_and]
  |false=>rwa[Ct,Bool.false_and]
 |_=>
  refine ZF rfl ?_;show Od [#v[L],.val _]=_
  rwa[Od,show Z1 [.val _]=Z (.val<|.bl O')from a,Ct,F3]
theorem Wu{n k:Nat}(h:k<n):F3 n (.int k)=J':=by
 unfold F3;simp;exact PX h
theorem RN(L:U D)(k:Nat){d:D}(h:L[k]?=Z d):Mq [#v[L],‹k›]=Z (.val d):=by
 have a:=iT L (.int k) trivial;rw[Wu<|(BC.mp h).1]at a;refine ZF rfl ?_;show Ur [#v[L],‹k›]=_
 rwa[Ur,a,F2,show Ap (.lst L) (.int k)=Z d from ZD h]
theorem RO(L:U D)(d:D)(hd:Sm d)(G:Gh):Oh [#v[L],.val d] G=if F3 L.length d=J' then J else Z ("NoValue":Ae):=by
 rw[show Oh [#v[L],.val d] G=Us ([#v[L],.val d],G)from rfl];erw[Us,show vw 2 ([#v[L],.val d],G)=[#v[L],.val d]from rfl,Zh,Zd,CZ,C0,C9,B7,Db,iT L d hd,HA,F2,ZW,jT,EF,jE,jO,Gk];cases F3 L.length d<;>rfl
noncomputable def Fk(p:Nat):D->Bool
 |.int i=>decide (0<=i)&&decide (i<=(p:Int)-2)
 |_=>O'
theorem OW{a:A3}{p:Nat}(h:GL a p)(d:D)(hd:Sm d):La [.val (LD a),.val d]=Z (.val (.bl (Fk p d))):=by
 have b:=OJ d hd;have c:=iO h;rw[h.wh]at c;cases d with
 |int i=>
  rw[show Ee (.int i)=J' from rfl]at b;refine ZF rfl ?_;show Of [.val<|LD a,‹i›]=_
  unfold Fk;rwa[Of,b,Ih,show Hk (.int 0) (.int i)=Z (.bl<|decide<|0<=i)from rfl];cases decide (0<=i)with
  |true=>rwa[c,show Hk (.int i) (.int<|(p:Int)-2)=Z (.bl<|decide<|i<=(p:Int)-2)from rfl,Ct,Bool.true_and]
  |false=>rwa[Ct,Bool.false_and]
 |_=>
  refine ZF rfl ?_;show Of [.val<|LD a,.val _]=_
  rwa[Of,show Z1 [.val _]=Z (.val<|.bl O')from b,Ct,Fk]
theorem RP{p n:Nat}(h:n+1<p):Fk p (.int n)=J':=by
 unfold Fk;simp;lia
section
variable{A d0 d1 d2:D}{G:Gh}
theorem Wv{i:Int}{a b2:Bool}(b:La [.val A,‹i›]=Z (.val (.bl J')))(c:Zv [.val A,‹i›,.val d1]=Z (.val (.bl a)))(d:a=J'->Zv [.val A,‹i+1›,.val d2]=Z (.val (.bl b2))):Iz [.val A,‹i›,.val d1,.val d2] G=if(a&&b2)=J' then J else Z ("NoValue":Ae):=by
 rw[show Iz [.val A,‹i›,.val d1,.val d2] G=OA ([.val A,‹i›,.val d1,.val d2,.no],G)from rfl];erw[OA,show vw 2 ([.val A,‹i›,.val d1,.val d2,.no],G)=[.val A,‹i›,.val d1,.val d2,.no]from rfl,Zh,Zd,CZ,A5,C6,Za,C0,C9,B7,Db,b,c,IA i 1,HA,F2,ZW,jT,EF,jE,jO,Gk,LW];cases a with
 |false=>rfl
 |true=>rw[d rfl];cases b2<;>rfl
theorem RQ(a:La [.val A,.val d0]=Z (.val (.bl O'))):Iz [.val A,.val d0,.val d1,.val d2] G=Z ("NoValue":Ae):=by
 rw[show Iz [.val A,.val d0,.val d1,.val d2] G=OA ([.val A,.val d0,.val d1,.val d2,.no],G)from rfl];erw[OA,show vw 2 ([.val A,.val d0,.val d1,.val d2,.no],G)=[.val A,.val d0,.val d1,.val d2,.no]from rfl,Zh,Zd,CZ,C0,C9,B7,Db,a,HA,F2,ZW,jT,EF,jE,jO,show AX 2 (.str "no level at which values have parents")=J' from rfl,if_true,Gk,Ie]
end
theorem MJ{l:U At}(h:j<l.length):Ap (Af l) (.int j)=Z (aD (l.getD j .non)):=by
 exact ZD (show(l.map aD)[j]?=Z (aD<|l.getD j .non) by simp[DH,h])
theorem Ww(l:U At)(n:Nat):Cu (Af l) (Z ((n:Int)+1)) J=Z (Af (l.drop (n+1))):=by
 show Z (D.tup<|cutD (l.map aD) (Z<|(n:Int)+1) J)=_
 rw[Qn _ _ (by lia),<- List.map_drop,show((n:Int)+1).toNat=n+1 by exact iU];rfl
theorem RS(l:U At)(n:Nat):Cu (Af l) J (Z ((n:Int)+1))=Z (Af (l.take (n+1))):=by
 show Z (D.tup<|cutD (l.map aD) J<|some<|(n:Int)+1)=_
 rw[TQ _ _ (by lia),<- List.map_take,show((n:Int)+1).toNat=n+1 by exact iU];rfl
theorem IL(a b:U At)(h:a.length+b.length<=1000):Zl (Af a) (Af b)=Z (Af (a++b)):=by
 show(if(a.map aD).length+(b.map aD).length<=Ax then Z (D.tup<|a.map aD++b.map aD)else J)=_
 rw[if_pos (show(a.map aD).length+(b.map aD).length<=Ax by simp;exact BR h (by ext)),<- Fw];rfl
theorem yN{a:A3}{p n:Nat}(h:GL a p)(k:n+1<p){l q:U At}(u:l∈a)(f:q∈a):Vi [.val (LD a),‹n›,.val (aD (l.getD n .non)),.val (aD (q.getD (n+1) .non))]=Z (.own ((rgp a n (l.getD n .non) q).map Af)):=by
 have y:=OW h (.int n) trivial;rw[RP k]at y;have z:∀(x:U At) (j:Nat),x∈a->j<p->Sm (aD<|x.getD j .non)/\(Cz (aD<|x.getD j .non)=J'\/x.getD j .non=.non):=λx j d P=>by
  have A:x.getD j .non∈x:=by simp[DH,show j<x.length by rw[h.len x d];exact P]
  exact#[(h.val x d _ A).2.1,.inl (h.val x d _ A).1]
 have B:=J4 h n _<|z l n u<|Rw k;rw[decide_eq_true ⟨l,u,rfl⟩]at B;have C:=J4 h (n+1) _<|z q (n+1) f k;rw[decide_eq_true ⟨q,f,rfl⟩]at C;generalize K:l.getD n .non=v at *;generalize E:q.getD (n+1) .non=w at *;have lt:∀x∈a,n+1<x.length:=λx d=>h.len x d ▸ k;have m:=OS (b:=Zc 0) (t:=Ve) (e:=Vf) (ρ:=[.no,‹n›,.val<|aD w]) Af (λx=>Af<|x.drop<|n+1) (λx=>decide<|x.getD (n+1) .non=w) a λx d=>#[[.val<|Af x,‹n›,.val<|aD w],rfl,by
  have i1:Ap (Af x) (.int<|(n:Int)+1)=Z (aD<|x.getD (n+1) .non):=MJ<|lt x d;have i2:=Ww x n;refine#[?_,?_]
  ·rwa[Ve,i1,BK,Iv,ON,OL]
  ·rwa[Vf,Ce,Ca,i2]]
 have same:∀x∈a,x.getD (n+1) .non=w->x.drop (n+1)=q.drop (n+1):=λx d e=>by
  have g:x[n+1]?=Z w:=by rw[<- e];simp[DH,lt x d]
  have i:q[n+1]?=Z w:=by rw[<- E];simp[DH,lt q f]
  rw[LC<|lt x d,LC<|lt q f,(Bm.mp h.fn) x d q f (n+1) w g i];congr 1;rw[BW<|lt x d]at g;rw[BW<|lt q f]at i;exact FE<|g.trans i.symm
 obtain⟨r,o⟩:∃r,a.filter (λx=>decide<|x.getD (n+1) .non=w)=r:=#[_,rfl];have L:∀x∈r,x.drop (n+1)=q.drop (n+1):=λx d=>by
  rw[<- o]at d;obtain⟨N,F⟩:=Kh.mp d;exact same x N<|of_decide_eq_true F
 have Q:q∈r:=o ▸ Kh.mpr #[f,decide_eq_true E];rw[o]at m;have T:Ap (.lst<|r.map λx=>Af<|x.drop<|n+1) (.int 0)=Z (Af<|q.drop<|n+1):=by
  cases r with
  |nil=>cases Q
  |cons x t=>rw[Be,L x Bj];exact Lo _ _
 have s:=Zw (b:=Zc 0) (e:=Vg) (ρ:=[.no,‹n›,.val<|aD v,.val<|Af<|q.drop<|n+1]) Af (λx=>Af<|DM n v q x) a λx d=>#[[.val<|Af x,‹n›,.val<|aD v,.val<|Af<|q.drop<|n+1],rfl,by
  have i3:=IL (x.take<|n+1) (q.drop<|n+1) (by have:=h.len x d;have:=h.len q f;have:=h.p4;simp;lia);unfold DM;rwa[Vg,MJ<|Rw<|lt x d,BK,Iv,ON,OL,KC];by_cases c:x.getD n .non=v
  ·rw[decide_eq_true c,if_pos c];rwa[Ce,Ca,RS x n,i3]
  ·rw[decide_eq_false c,if_neg c]]
 have G:=Zx (a.map Af) (by rw[A9];have:=h.n6;lia);rw[show a.map (λx=>Af<|DM n v q x)=(rgp a n v q).map Af by rw[rgp,Cp];rfl]at s;have H:La [#v[a.map Af],‹n›]=Z (.val<|.bl J'):=y;have g:Zv [#v[a.map Af],‹n›,.val<|aD v]=Z (.val<|.bl J'):=B;have i:Zv [#v[a.map Af],‹(n:Int)+1›,.val<|aD w]=Z (.val<|.bl J'):=C;refine ZF rfl ?_;show Vh [#v[a.map Af],‹n›,.val<|aD v,.val<|aD w,.no]=_
 generalize a.map Af=M at H g i G m s ⊢;rwa[Vh,eH,et,H,F2,eG,eu,g,eF,ez,i,eE,eA,Zk,show Zq 1 [1,3] [#v[M],‹n›,.val<|aD v,.val<|aD w,.no]=[.no,‹n›,.val<|aD w]from rfl,G,m,T,eC,eB,show Zq 1 [1,2,4] [#v[M],‹n›,.val<|aD v,.val<|aD w,.val<|Af<|q.drop<|n+1]=[.no,‹n›,.val<|aD v,.val<|Af<|q.drop<|n+1]from rfl,s,Cn]
section
variable{M:U D}{d:D}{G:Gh}
theorem iV(a:M.length<1000):Za Zl (λρ=>A5 ρ 0) (λρ=>Zr (Zf ((Zd (C6 (AU ρ 1)) (Z [])).bind Zm))) [#v[M],.val d,.no]=Z (.lst (M++[d])):=by
 have b:Zl (.lst M) (.lst [d])=Z (.lst<|M++[d]):=by
  show(if M.length+[d].length<=Ax then Z (D.lst<|M++[d])else J)=_
  rw[if_pos (show M.length+[d].length<=Ax from BR (show M.length+1<=1000 from a) (by ext))]
 erw[Za,A5,AU,C6,Zd,Zm,C0,C9,B7,Db,show Zf (Z [d])=Z [d]from Zx _ (by simp),Zr,b]
theorem yO(e:M.length<1000){b:Bool}(f:Zu [#v[M++[d]]]=Z (.val (.bl b))):Oo [#v[M],.val d] G=if b=J' then if 40<M.length+1 then Z ("TooMuch":Ae)else J else Z ("NoLadder":Ae):=by
 have v:vw 0 ([#v[M],.val d,.no],G)=[#v[M],.val d,.no]:=rfl;have g:vw 2 (([#v[M],.val d,.no]:U IV).set 2<|IV.val<|.lst<|M++[d],G)=[#v[M],.val d,#v[M++[d]]]:=rfl;have h:Zo [.lst<|M++[d]]=Z (.int (((M++[d]).length:Nat):Int)):=rfl;have i:D2 (.int (((M++[d]).length:Nat):Int)) (.int 40)=Z (.bl<|decide<|40<M.length+1):=by
  show Z (D.bl<|decide<|(40:Int)<((M++[d]).length:Int))=_
  congr 2;rw[decide_eq_decide,Ej,Kv];lia
 rw[show Oo [#v[M],.val d] G=UM ([#v[M],.val d,.no],G)from rfl];have ga:=iV (d:=d) e;rw[UM];have j:jE 0 (Za Zl (λa=>A5 a 0) (λa=>Zr<|Zf<|(Zd (C6<|AU a 1)<|some []).bind Zm)) ([#v[M],.val d,.no],G)=Z (.lst<|M++[d]):=by
  unfold jE;rw[v,ga];erw[jO,Option.bind_some,Iu,if_true]
 unfold TV;rw[j,Option.bind_some];erw[Zh,Zj,Zd,CZ,Za,C0,C9,B7,Db,f,HA,F2,ZW,jT,EF,jE,jO,show AX 2 (.str "a ladder has forty lines at most")=J' from rfl,g,Gk,Gd,pk,h,i,AL];cases b with
 |false=>rfl
 |true=>by_cases c:40<M.length+1<;>simp[c]
theorem yP(e:M.length+1<=40)(a:Zu [#v[M++[d]]]=Z (.val (.bl J'))):UL [#v[M],.val d]=Z (.val (.lst (M++[d]))):=by
 have b:Zo [.lst<|M++[d]]=Z (.int (((M++[d]).length:Nat):Int)):=rfl;have c:D2 (.int (((M++[d]).length:Nat):Int)) (.int 40)=Z (.bl O'):=by
  show Z (D.bl<|decide<|(40:Int)<((M++[d]).length:Int))=_
  rw[decide_eq_false (by rw[Ej,Kv];lia)]
 refine ZF rfl ?_;show UK [#v[M],.val d,.no]=_
 rw[UK,dY,dR,iV (M:=M) (d:=d) (by lia)];rwa[dX,dS,a,F2,dW,dT,b,c,dV,dU]
end
theorem iW(b:A3)(hz:b.length<=1000)(d:∀l∈b,Ln l):Zu [#v[b.map Af]]=Z (.val (.bl (IC b))):=by
 have c:(b.map Af).all Dg=J':=Ec.mpr λx f=>by
  obtain⟨l,h,rfl⟩:=Ba.mp f;exact hD (d l h).l1 (d l h).l4 λa g=>((d l h).val a g).1
 rcases V5 (b.map Af) (λx f=>by obtain⟨l,h,rfl⟩:=Ba.mp f;exact(d l h).sml) (by simpa using hz)with⟨h,_⟩|⟨_,i,e,_,q⟩
 ·rw[c]at h;cases h
 ·rw[q,<- Wf e]
structure NL(ls:A3)(p:Nat)(l:List At):Prop where
 len:l.length=p
 val:∀a∈l,Cz (aD a)=J'/\Sm (aD a)/\∀i,a=.int i->(-10^40<i/\i<10^40)\/10^45<=i/\i<10^46
 hdn:hd l∉ls.map hd
 fn:∀l'∈ls,∀m a,l[m]?=Z a->l'[m]?=Z a->l.drop (m+1)=l'.drop (m+1)
theorem GL.goes{g:A3}{p:Nat}(h:GL g p){l:U At}(n:NL g p l):Zu [#v[g.map Af++[Af l]]]=Z (.val (.bl J')):=by
 have e:g.map Af++[Af l]=(g++[l]).map Af:=by simp
 have k:Ln l:=#[n.len ▸ h.p1,n.len ▸ h.p4,λa q=>#[(n.val a q).1,(n.val a q).2.1]];have y:IC (g++[l])=J':=by
  have f:=h.n1;cases d:g with|nil=>rw[d]at f;simp at f|cons j r=>
   refine(Wb j (r++[l]) λx c=>?_).mpr #[λx c=>?_,?_,?_]
   ·rcases Cm.mp (show x∈(j::r)++[l]from c)with c|c
    ·exact h.ne x<|d ▸ c
    ·rw[CP.mp c];have:=k.l1;intro e;rw[e]at this;simp at this
   ·have o:=h.len j<|d ▸ Bj;rcases Cm.mp (show x∈(j::r)++[l]from c)with c|c
    ·rw[h.len x<|d ▸ c,o]
    ·rw[CP.mp c,n.len,o]
   ·show(((j::r)++[l]).map hd).Nodup
    rw[<- d,Fw,Js];exact#[h.hdn,by simp,λa q b u e=>n.hdn (by simp at u;rw[<- u,<- e];exact q)]
   ·show BF<|((j::r)++[l]).flatMap<|DC 0
    rw[<- d];refine Bm.mpr λl1 f w i m a s t=>?_;rcases Cm.mp f with f|f<;>rcases Cm.mp i with i|i
    ·exact(Bm.mp h.fn) l1 f w i m a s t
    ·rw[CP.mp i]at t ⊢;exact(n.fn l1 f m a t s).symm
    ·rw[CP.mp f]at s ⊢;exact n.fn w i m a s t
    ·rw[CP.mp f,CP.mp i]
 rw[e,iW _ (by simp;have:=h.n6;lia) λx c=>?_,y];rcases Cm.mp c with c|c
 ·exact h.ln x c
 ·rw[CP.mp c];exact k
theorem iX:Eg.contains "table"=O':=by decide +kernel
theorem yQ:Eg.contains "keep"=O':=by decide +kernel
theorem yR{L:AT}{R T:U D}:Hs "Book" "is_kept" (.val (BD L R T))=J':=rfl
section
variable{L:AT}{R T:U D}{G:Gh}{b t:Nat}{rs:U Row}{g:U Nat}{x:D}
theorem yS(b:Lb [#v[L.map LD],.val (Bf g)]=Z (.val (.bl J'))):UJ [.val (BD L R (Zb (AM L rs gs))),.val (Bf g)]=Z (.val (.bl (decide (g∈gs)))):=by
 have l1:=F1 (L:=L) (R:=R) (T:=Zb<|AM L rs gs);have c:=MH (L:=L) (R:=R) (T:=Zb<|AM L rs gs);have a:=Wr L rs O' gs g;refine ZF rfl ?_;generalize Bf g=e,D.lst (Zb<|AM L rs gs) .d=TT,BD L R (Zb<|AM L rs gs)=B at *;show UI [.val B,.val e]=_
 rw[Bool.false_bne]at a;rwa[UI,l1,c,b,a,Ct]
theorem iY(c:Lb [#v[L.map LD],.val (Bf g)]=Z (.val (.bl J')))(a:g∈gs):QT [.val (BD L R (Zb (AM L rs gs))),.val (Bf g)]=Z (.own (Z9 L g rs)):=by
 have b:=yS (R:=R) (rs:=rs) (gs:=gs) c;rw[decide_eq_true a]at b;have e:=MH (L:=L) (R:=R) (T:=Zb<|AM L rs gs);have hd:=RL L rs a;have f:Hs "Book" "is_kept" (.val<|BD L R<|Zb<|AM L rs gs)=J':=yR;refine ZF rfl ?_;generalize Z9 L g rs=Y,Bf g=h,D.lst (Zb<|AM L rs gs) .d=TT,BD L R (Zb<|AM L rs gs)=B at *;show UN [.val B,.val h]=_
 rwa[UN,EU,El,f,b,F2,e,hd,show FR [.lst Y]=Z Y from rfl,Cn]
variable(h0:G[b]?=Z (Bo L R t))(ht:G[t]?=Z (.dat .d T))
include h0 ht
theorem iZ:vw 2 ([.cel b,.val x],G)=[.val (BD L R T),.val x]:=by simp_all [Be,Dh]
theorem ZF2:vw 1 ([.cel b,.val x],G)=[.val (BD L R T),.val x]:=by simp_all [Be,Dh]
theorem ZF1:vw 0 ([.cel b,.val x],G)=[.no,.val x]:=by simp_all [Be,Dh]
end
theorem yT{L:AT}{g:U Nat}(e:g.length=L.length){a:U Row}(b:∀r∈a,A1 L r.1):∀r∈F0 (qs L g) a,r.1.length=L.length:=λr h=>by
 obtain⟨c,d,rfl⟩:=Ba.mp h;have:=(b c d).len;simp_all [qs,Rx]
abbrev IM(L:AT)(g:U Nat)(a:U Row):U Cc:=Ep (F0 (qs L g) a) []
theorem i7{L:AT}{g:U Nat}(b:g.length=L.length){a:U Row}(c:∀r∈a,A1 L r.1):Bu (IM L g a) L.length a.length:=by
 have:=Bu.tab (F0 (qs L g) a) (Bu.nil L.length)<|yT b c;rw[HD,show(F0 (qs L g) a).length=a.length from A9 _]at this;grind
theorem DV(m:Nat)(k:U At):AX m (Af k)=J':=by
 exact Gj λd hd=>by obtain⟨a,_,rfl⟩:=Ba.mp hd;cases a<;>rfl
noncomputable abbrev zg(L:AT):U Nat:=L.map λ_=>0
theorem i8(L:AT):J2 L=Bf (zg L):=by
 simp_all
theorem ZL{G:Gh}{b t:Nat}{c:Cl}(a:b≠t):(G.set t c)[b]?=G[b]?:=Et<|Bv a
theorem DW{G:Gh}{t:Nat}{c d:Cl}(h:G[t]?=Z d):(G.set t c)[t]?=Z c:=Gx (BC.mp h).1
theorem Wx(L:AT)(g:U Nat)(rs:U Row):AX 1 (.lst (Z9 L g rs))=J':=by
 exact Gj λd hd=>by
  obtain⟨k,_,rfl⟩:=Ba.mp hd;have:∀k:U At,AX 1 (Af k)=J':=λk=>by
   exact Gj λd hd=>by obtain⟨a,_,rfl⟩:=Ba.mp hd;cases a<;>rfl
  show(AX 1 (Af k)&&(AX 1 (vC _)&&J'))=J'
  rw[this];rfl
section
variable{L:AT}{G:Gh}{b t:Nat}{rs:U Row}{g:U Nat}
variable(h:Cb L)(hg:Gr L g)(h0:G[b]?=Z (Bo L (rs.map Zi) t))(ht:G[t]?=Z (.dat .d (Zb (AM L rs gs))))
include h hg h0 ht
theorem i9{gs':U (U Nat)}(h0:G'[b]?=Z (Bo L (rs.map Zi) t))(ht:G'[t]?=Z (.dat .d (Zb (AM L rs gs'))))(a:g∈gs'):U9 ([.cel b,.val (Bf g)],G')=.ret ‹((Z9 L g rs).length:Int)› G':=by
 have c:=MH (L:=L) (R:=rs.map Zi) (T:=Zb<|AM L rs gs');have hd:=RL L rs a;have v:=iZ (x:=Bf g) h0 ht;generalize Z9 L g rs=Y,Bf g=e,D.lst (Zb<|AM L rs gs') .d=TT,BD L (rs.map Zi) (Zb<|AM L rs gs')=B at *;erw[U9,eo,v,Zj,Za,Zd,A5,C0,C9,B7,Db,C6,c,hd,Gd,pk,show Zo [.lst Y]=Z (.int Y.length)from rfl,jE,jO,show ∀i,AX 2 (.int i)=J' from λ_=>rfl,if_true,xD,C8,Zp]
theorem yU(a:g∈gs):Oz [.cel b,.val (Bf g)] G=Z (‹((Z9 L g rs).length:Int)›,G):=by
 have f:=RH h hg;have i:=i9 h hg h0 ht h0 ht a;have l1:=F1 (L:=L) (R:=rs.map Zi) (T:=Zb<|AM L rs gs);have j:=MH (L:=L) (R:=rs.map Zi) (T:=Zb<|AM L rs gs);have c:=Wr L rs J' gs g;rw[decide_eq_true a]at c;have v:=iZ (x:=Bf g) h0 ht;generalize Bf g=k,D.lst (Zb<|AM L rs gs) .d=TT,BD L (rs.map Zi) (Zb<|AM L rs gs)=B at *;have e:Oy ([.cel b,.val k],G)=.ret ‹((Z9 L g rs).length:Int)› G:=by
  erw[Oy,Vb,Va,U7,v,Zh,Zd,CZ,A5,C0,C9,B7,Db,C6,l1,f,HA,F2,ZW,LW,jT,Dl,U8,Za,j,c,AL,bne_self_eq_false,Zp,i]
 exact F4 (fi rfl e) rfl
theorem yV(p:∀r∈rs,A1 L r.1)(q:rs.length<64)(j:b≠t)(o:g∉gs)(s:gs.length<12):Oz [.cel b,.val (Bf g)] G=Z (‹((Z9 L g rs).length:Int)›,G.set t (.dat .d (Zb (AM L rs (gs++[g]))))):=by
 have u:=RH h hg;have a:=i9 (gs':=gs++[g]) (G':=G.set t<|.dat .d<|Zb<|AM L rs<|gs++[g]) h hg h0 ht (by rw[ZL j];exact h0) (DW ht) (by simp);have l1:=F1 (L:=L) (R:=rs.map Zi) (T:=Zb<|AM L rs gs);have w:=MH (L:=L) (R:=rs.map Zi) (T:=Zb<|AM L rs gs);have x:=RM (L:=L) (R:=rs.map Zi) (T:=Zb<|AM L rs gs);have y:DG J' (Bf g) (.lst (Zb<|AM L rs gs) .d)=Z (.bl J'):=by rw[Wr,decide_eq_false o];rfl
 have z:=yH L rs gs;have c:=yI L rs o;have k:=Ik<|AM L rs gs;have hok:=HE<|gk g;rw[J6]at hok;have l:=Wq L rs (gk g) gs;have f:(AM L rs gs).length<Ax:=by rw[A9];exact BX (show gs.length<1000 by lia) (by ext)
 have i:=iE h hg.1 rs p q;have m:=iS (xs:=[.cel b,.val<|Bf g]) h0;have A:Nn (.int gs.length) (.int 12)=Z (.bl O'):=by
  show Z (D.bl<|decide<|(12:Int)<=(gs.length:Int))=_
  rw[decide_eq_false (by lia)]
 have C:=Wx L g rs;have E:=J7 2 (by ext) h0 ht;have H:=J7 1 (by ext) h0 ht;generalize AM L rs (gs++[g])=n at *;generalize Bf g=v,Z9 L g rs=Y,rs.map Zi=R,AM L rs gs=M,BD L (rs.map Zi) (Zb<|AM L rs gs)=B at *;suffices e:Oy ([.cel b,.val v],G)=.ret ‹Y.length› (G.set t<|.dat .d<|Zb n)from F4 (fi rfl e) rfl
 rwa[Oy,Vb,U7,E,l1,u,F2,Va,U8,H,w,x,y,z,A,i,Gm,C,m,Qk,ht,k,hok,l,f,c,a]
end
def J8(a b:U Nat):Bool:=BE (gk a) (gk b)
theorem yW:TO J8:=#[λa b h=>EG.asym _ _ h,λa b c h=>EG.neg _ _ _ h,λa b d e=>RJ<|EG.anti _ _ d e]
noncomputable abbrev Wy(g:U Nat):U D:=g.map λj:Nat=>D.int j
theorem ja(n:Nat):∀a b:U Nat,Fv (ltN n) (Wy a) (Wy b)=Z (J8 a b)
 |[],[]=>rfl
 |[],_::_=>rfl
 |_::_,[]=>rfl
 |i::a,j::b=>by
  have d:=ja n a b;unfold J8 at d ⊢;rwa[Wy,gk,Fv,BE,AW,Iv]at d ⊢;by_cases c:i=j
  ·subst c;erw[AF,beq_self_eq_true,if_true,d]
  ·have e:¬ (i:Int)=(j:Int):=Nat.ToInt.of_diseq rfl rfl c;simp_all [G8]
theorem yX(h:gs.length<64)(c:∀g∈gs,g≠[]):GR GX (gs.map Bf)=Z ((ZB J8 gs).map Bf):=Wg Bf yW J' gs h Bf (λ_ _=>rfl) (λg d=>by
  cases g with
  |nil=>exact absurd rfl<|c _ d
  |cons a r=>exact#[_,_,rfl]) λa _ b _=>ja 5 a b
theorem J9(a:A3):AX 1 (LD a)=J':=by
 show(!vk 1 .l&&CM 1 (a.map Af))=J'
 rw[Gj λd hd=>by obtain⟨l,_,rfl⟩:=Ba.mp hd;exact DV 1 l];rfl
theorem IN(L:AT):CM 1 (L.map LD)=J':=Gj λd hd=>by obtain⟨l,_,rfl⟩:=Ba.mp hd;exact J9 l
theorem Wz(L:AT)(rs:U Row):∀gs:U (U Nat),CM 1 (Zb (AM L rs gs))=J'
 |[]=>rfl
 |g::gs=>by
  show(AX 1 (Af<|gk g)&&(AX 1 (.lst<|Z9 L g rs)&&CM 1 (Zb<|AM L rs gs)))=J'
  rw[DV,Wx,Wz L rs gs];rfl
theorem jb{L:AT}(h:Cb L)(rs:U Row)(j:∀r∈rs,A1 L r.1)(k:rs.length<64)(gs:U (U Nat))(l:gs.Nodup)(m:∀g∈gs,g.length=L.length)(n:gs.length<=12):QZ [#v[L.map LD],#v[rs.map Zi],#v[gs.map Bf]]=Z (.own (Zb (AM L rs gs)) .d):=by
 have f:=Zw (b:=Zc 0) (e:=U5) (ρ:=[.no,#v[L.map LD],#v[rs.map Zi]]) Bf (λg=>Gq (gk g,.lst<|Z9 L g rs)) gs λg o=>#[[.val<|Bf g,#v[L.map LD],#v[rs.map Zi]],rfl,by
  have p:=iE h (m g o) rs j k;show _=Z (D.tup [Af<|gk g,.lst<|Z9 L g rs])
  rw[J6];rwa[U5,p,Gm]]
 rw[show gs.map (λg=>Gq (gk g,.lst<|Z9 L g rs))=(gs.map λg=>((gk g,.lst<|Z9 L g rs):KE)).map Gq by rw[Cp];rfl]at f;have i:=RE (gs.map λg=>((gk g,.lst<|Z9 L g rs):KE)) [] (by
  rw[D8,Cp];exact List.pairwise_map.mpr<|l.imp λa e=>a<|RJ e) (by simp;lia)
 rw[D8,show B1 (gs.map λg=>((gk g,.lst<|Z9 L g rs):KE))=AM L rs gs by unfold B1;rw[Cp];rfl]at i;have q:=Zx (gs.map Bf) (by simp;lia);have c:GS [] ((gs.map λg=>((gk g,.lst<|Z9 L g rs):KE)).map Gq)=Z (AM L rs gs):=i;generalize L.map LD=W,rs.map Zi=R,gs.map Bf=s,(gs.map λg=>((gk g,.lst<|Z9 L g rs):KE)).map Gq=Y,AM L rs gs=t at *;refine ZF rfl ?_;show U6 [#v[W],#v[R],#v[s]]=_
 rwa[U6,Io,Zk,q,show Zq 1 [0,1] [#v[W],#v[R],#v[s]]=[.no,#v[W],#v[R]]from rfl,f,c,Nd]
section
variable{L L':AT}{rs rs':U Row}(h:Cb L)(h':Cb L')(hL:L.length=L'.length)(hr:∀r∈rs,A1 L r.1)(hr':∀r∈rs',A1 L' r.1)(hl:rs.length+rs'.length<64)(hg:∀g∈gs,g.length=L.length)
include h h' hL hr hr' hl
theorem yY{g:U Nat}(hg:g.length=L.length):∃f:U (U At),QV [#v[Z9 L g rs],#v[Z9 L' g rs']]=Z (.own (f.map Af))/\f.length<64:=by
 have j:=h.n4
 have i:=h.n1
 have ok:=i7 hg hr
 have a:=i7 (hg.trans hL) hr'
 have p:=ZO BE (ZE (IM L g rs))
 have c:=ZO BE (ZE (IM L' g rs'))
 have l1:(ZE (IM L g rs)).length<=rs.length:=by unfold ZE;rw[A9];exact ok.len
 have l:(ZE (IM L' g rs')).length<=rs'.length:=by unfold ZE;rw[A9];exact a.len
 have:=yn (Lp (IM L g rs)) (Lp (IM L' g rs')) (by rw[RF];exact p.nodup_iff.mpr ok.nd) (by rw[RF];exact c.nodup_iff.mpr a.nd) (iI _) (iI _) (ZB BE (ZE (IM L g rs))++ZB BE (ZE (IM L' g rs')))
  (λe d=>Gw _ (by rw[<- RF];exact Ry d)) (λe d=>De _ (by rw[<- RF];exact Ry d)) (by rw[Ej,p.length_eq,c.length_eq];lia) λk b=>by
   have:k.length=L.length:=by
    rcases Cm.mp b with b|b
    ·exact ok.kl k (p.mem_iff.mp b)
    ·rw[a.kl k (c.mem_iff.mp b),hL]
   exact#[λz=>by rw[z]at this;simp at this;lia,by lia]
 rw[<- iH,<- iH]at this
 exact this
include hg
theorem yZ:∀(j:U (U Nat))(acc:U D)(l:Sl),(∀g∈j,g∈gs)->acc.length+64*j.length<=1000->(∀d∈acc,AX 2 d=J')->∃ys f,Z8 (Zc 3) QY (j.map Bf) [.val (.lst (Zb (AM L rs gs)) .d),.val (.lst (Zb (AM L' rs' gs)) .d),.own acc,l]=.next [.val (.lst (Zb (AM L rs gs)) .d),.val (.lst (Zb (AM L' rs' gs)) .d),.own ys,f]/\∀d∈ys,AX 2 d=J':=by
 intro j;induction j with|nil=>exact λacc l _ _ m=>#[acc,l,rfl,m]|cons g j q=>
  intro acc l p r m;have i:=p g Bj;obtain⟨a,e,E⟩:=yY h h' hL hr hr' hl<|hg g i;have s:=RL L rs i;have t:=RL L' rs' i;have u:=Zw (b:=Zc 0) (e:=U2) (ρ:=[.no,.val<|Bf g]) Af (λk=>D.tup [Bf g,Af k]) a λk _=>#[[.val<|Af k,.val<|Bf g],rfl,by
   rwa[U2]]
  have v:=Zx (a.map Af) (by simp;lia);have w:∀d∈(a.map λk=>D.tup [Bf g,Af k]),AX 2 d=J':=λd hd=>by
   obtain⟨k,_,rfl⟩:=Ba.mp hd;show(AX 2 (Bf g)&&(AX 2 (Af k)&&J'))=J'
   rw[<- J6,DV,DV];rfl
  have c:(a.map λk=>D.tup [Bf g,Af k]).length=a.length:=by simp
  rw[CT]at r;have n:acc.length+(a.map λk=>D.tup [Bf g,Af k]).length<=Ax:=BR (show _<=1000 by rw[c];lia) (by ext);have y:QY [.val<|.lst (Zb<|AM L rs gs) .d,.val<|.lst (Zb<|AM L' rs' gs) .d,.own acc,.val<|Bf g]=.next [.val<|.lst (Zb<|AM L rs gs) .d,.val<|.lst (Zb<|AM L' rs' gs) .d,.own<|acc++a.map λk=>D.tup [Bf g,Af k],.val<|Bf g]:=by
   generalize Bf g=F,D.lst (Zb<|AM L' rs' gs) .d=z,D.lst (Zb<|AM L rs gs) .d=A,Z9 L g rs=H,Z9 L' g rs'=G,(a.map λk=>D.tup [Bf g,Af k])=Y at *;erw[QY,Zk,show Zq 1 [3] [.val A,.val z,.own acc,.val F]=[.no,.val F]from rfl,Zh,Za,A5,C0,C9,B7,s,t,C6,Db,Zd,e,Gm,Zy,v,u,LZ,Eb,if_pos n,Fg,EX,Zg]
  obtain⟨ys,f,B,o⟩:=q (acc++a.map λk=>D.tup [Bf g,Af k]) (.val<|Bf g) (λx C=>p x<|BG _ C) (by rw[Ej,c];lia) (λd hd=>by
   rcases Cm.mp hd with hd|hd
   ·exact m d hd
   ·exact w d hd)
  refine#[ys,f,?_,o];rw[Be];erw[Z8,show Zc 3 (Bf g) [.val<|.lst (Zb<|AM L rs gs) .d,.val<|.lst (Zb<|AM L' rs' gs) .d,.own acc,l]=Z [.val<|.lst (Zb<|AM L rs gs) .d,.val<|.lst (Zb<|AM L' rs' gs) .d,.own acc,.val<|Bf g]from rfl,y,B]
theorem y0(c:gs.length<=12):∃ys:U D,U4 [.val (.lst (Zb (AM L rs gs)) .d),.val (.lst (Zb (AM L' rs' gs)) .d)]=Z (.own ys)/\CM 2 ys=J':=by
 have f:=h.n1;have i:Ql (Z<|.lst (Zb<|AM L rs gs) .d)=Z ((ZB J8 gs).map Bf):=by
  show(EE<|Zb<|AM L rs gs).bind (λa=>GR GX<|a.map λp=>kD p.1)=_
  rw[Ik];show GR GX ((AM L rs gs).map λp=>kD p.1)=_
  rw[iR];exact yX (by lia) λg b z=>by have:=hg g b;rw[z]at this;simp at this;lia
 obtain⟨ys,j,e,k⟩:=yZ h h' hL hr hr' hl hg (ZB J8 gs) [] .no (λg b=>(ZO J8 _).mem_iff.mp b) (by rw[(ZO J8 _).length_eq];simp;lia) (λ_ h=>nomatch h);refine#[ys,?_,Gj k];generalize D.lst (Zb<|AM L rs gs) .d=l,D.lst (Zb<|AM L' rs' gs) .d=m at *;refine ZF rfl ?_;show U3 [.val l,.val m,.no,.no]=_
 rwa[U3,show Zf (Z ([]:U D))=Z []from rfl,Z6,EA,i,e,Eb,Cn]
end
theorem jc{G:Gh}{q m:Nat}(a:m≠0)(h:G[q]?=Z (.dat .d xs)):DJ m G (.cel q)=.val (.lst xs .d):=by
 simp_all
theorem HG{G:Gh}{n:Nat}{c d:Cl}(h:G[n]?=Z c):(G++[d])[n]?=Z c:=by
 rw[EL (BC.mp h).1];exact h
theorem jd{L a:AT}(h:Cb L)(h':Cb a)(s:L.length=a.length){rs rs':U Row}(A:∀r∈rs,A1 L r.1)(c:∀r∈rs',A1 a r.1)(u:rs.length+rs'.length<64)(B:gs.Nodup)(v:∀g∈gs,g.length=L.length)(f:gs.length<=12){G:Gh}{b t:Nat}(i:G[b]?=Z (Bo a (rs'.map Zi) t))(k:G[t]?=Z (.dat .d (Zb (AM L rs gs))))(n:b≠t):∃ys:U D,Q2 [.cel b] G=Z (.cel (G.length+1),G.set b (Bo a (rs'.map Zi) G.length)++[.dat .d (Zb (AM a rs' gs)),.dat .l ys]):=by
 obtain⟨ys,e,C⟩:=y0 h h' s A c u v f;refine#[ys,?_];have o:=jb h' rs' c (RU u) gs B (λg E=>(v g E).trans s) f;have H:=Wz a rs' gs;have p:KV [.lst (Zb<|AM L rs gs) .d]=Z (gs.map Bf):=by rw[bh,iR]
 generalize M:rs'.map Zi=R at *;generalize Zb (AM a rs' gs)=j,Zb (AM L rs gs)=m at *;have q:(G.set b (Bo a R G.length)++[Cl.dat .d j])[G.length]?=Z (.dat .d j):=by
  rw[Hg (by simp)];simp
 have K:DJ 2 (G.set b (Bo a R G.length)++[Cl.dat .d j]) (.cel t)=.val (.lst m .d):=jc (by ext)<|HG (by rw[ZL<|Bv n];exact k);suffices F:Vk ([.cel b,.no],G)=.ret (.cel<|G.length+1) (G.set b (Bo a R G.length)++[.dat .d j,.dat .l ys])from F4 (fi rfl F) rfl
 rwa[Vk,eZ,eU,iS i,xP,Option.bind_some,if_pos (BC.mp k).1,eY,eV,J7 1 (by ext) i k,show DJ 1 G (.cel t)=.val (.lst m .d)from jc (by ext) k,Jm,El,F1 (L:=a) (R:=R) (T:=m),RM (L:=a) (R:=R) (T:=m),p,o,SF,jG,jL,H,xC,FY,HG i,true_and,show(3:Nat)<1000 by ext,show L2.putN "tables" Eg=Eg by decide +kernel,show ∀x y w z:IV,DB "tables" z Eg [x,y,w]=[x,y,z]from λx y w z=>by erw[DB,if_neg (show ¬ ("axes":Ae)="tables" by decide +kernel),if_neg (show ¬ ("standing":Ae)="tables" by decide +kernel),if_true],List.set_append_left _ _ (BC.mp i).1,eX,eW,J7 2 (by ext) (HG<|DW i) q,K,E9,MH (L:=a) (R:=R) (T:=j),e,LK,C,C8,Ej,HR,NK,HZ,D8]
theorem y3:Eg.contains "put_ladder"=O':=by decide +kernel
theorem je:Eg.contains "tables_renewed"=O':=by decide +kernel
theorem y6{L:AT}{k:Nat}(b:k<L.length)(a:A3):((L.map LD).take k++[LD a])++(L.map LD).drop (k+1)=(L.set k a).map LD:=by
 rw[List.map_set,List.set_eq_take_append_cons_drop,if_pos (by simpa using b)];simp
section
variable{L:AT}{R T:U D}{G:Gh}{b t k:Nat}(hb:G[b]?=Z (Bo L R t))(ht:G[t]?=Z (.dat .d T))
include hb ht
theorem y7(m:Nat)(a:m≠0):DJ m G (.cel b)=.val (BD L R T):=J7 m a hb ht
theorem jf(d:k<L.length)(p:L.length<=4)(a:A3):Mn [.cel b,‹k›,.val (LD a)] G=Z (.val .non,G.set b (Bo (L.set k a) R t)):=by
 have e:=y7 hb ht 1 (by ext);have f:=F1 (L:=L) (R:=R) (T:=T);have g:cutD (L.map LD) J (Z (k:Int))=(L.map LD).take k:=TQ _ _<|JJ k;have h:cutD (L.map LD) (Z<|(k:Int)+1) J=(L.map LD).drop (k+1):=by rw[Qn _ _ (by lia),show((k:Int)+1).toNat=k+1 by exact iU]
 have i:=y6 d a;have j:AX 1 (.lst<|(L.set k a).map LD)=J':=by
  show(!vk 1 .l&&CM 1 ((L.set k a).map LD))=J'
  rw[IN];rfl
 have m:Zl (.lst<|(L.map LD).take k) (.lst [LD a])=Z (.lst<|(L.map LD).take k++[LD a]):=by erw[Zl,if_pos (show((L.map LD).take k).length+[LD a].length<=Ax from BR (show _<=10 by simp;lia) (by ext))]
 have n:Zl (.lst<|(L.map LD).take k++[LD a]) (.lst<|(L.map LD).drop<|k+1)=Z (.lst<|(L.set k a).map LD):=by erw[Zl,if_pos (show((L.map LD).take k++[LD a]).length+((L.map LD).drop<|k+1).length<=Ax from BR (show _<=10 by simp;lia) (by ext)),i]
 have c:G[b]?=Z (.mix kB [#v[L.map LD],#v[R],.cel t]):=hb;show _=Z (IV.val .non,G.set b<|.mix kB [#v[(L.set k a).map LD],#v[R],.cel t])
 generalize LD a=X,L.map LD=q,(L.set k a).map LD=Y,(L.map LD).take k=r,(L.map LD).drop (k+1)=s at *;have o:T9 ([.cel b,‹k›,.val X],G)=.next ([.cel b,‹k›,.val X],G.set b<|.mix kB [#v[Y],#v[R],.cel t]):=by
  rwa[T9,e,f,Ce,Ca,Cu,g,h,m,n,j,FY,c,true_and,show(3:Nat)<1000 by ext,show L2.putN "axes" Eg=Eg by decide +kernel,show ∀x y w z:IV,DB "axes" z Eg [x,y,w]=[z,y,w]from λx y w z=>by erw[DB,if_true]]
 exact F4 (fi rfl o) rfl
theorem WA(m:Nat)(a:m≠0)(x y z u:D):vw m ([.cel b,.val x,.val y,.val z,.val u],G)=[.val (BD L R T),.val x,.val y,.val z,.val u]:=by
 simp_all
theorem WB(x y z u:D):vw 0 ([.cel b,.val x,.val y,.val z,.val u],G)=[.no,.val x,.val y,.val z,.val u]:=by
 simp_all
theorem MK:Dm "Book" "put_ladder" (Bo L R t)=J':=by rwa[Dm,y3]
theorem y8{d x y z:D}(hd:Sm d)(c:F3 L.length d=O'):JV [.cel b,.val d,.val x,.val y,.val z] G=Z ("NoValue":Ae):=by
 have e:AX 1 (.lst<|L.map LD)=J':=by
  show(!vk 1 .l&&CM 1 (L.map LD))=J'
  rw[IN];rfl
 have a:=RO (L.map LD) d hd G;rw[A9,c]at a;rw[show JV [.cel b,.val d,.val x,.val y,.val z] G=OB ([.cel b,.val d,.val x,.val y,.val z],G)from rfl];simp only[OB,JM,K7,show By (([.cel b,.val d,.val x,.val y,.val z]:U IV),G) 0=Z b from rfl,hb,MK hb ht,if_true,jE,WA hb ht 1 (by ext) d x y z,WB hb ht d x y z,AU,A5,C0,C9,B7,F1 (L:=L) (R:=R) (T:=T),jO,Iu,e,Db,Zd,a,K6,Ew,if_false]
theorem jg{a:A3}(c:L[k]?=Z a){x y z:D}:JV [.cel b,‹k›,.val x,.val y,.val z] G=Iz [.val (LD a),.val x,.val y,.val z] G:=by
 have f:AX 1 (.lst<|L.map LD)=J':=by
  show(!vk 1 .l&&CM 1 (L.map LD))=J'
  rw[IN];rfl
 have g:=J9 a;have e:=RO (L.map LD) (.int k) trivial G;rw[A9,Wu<|(BC.mp c).1]at e;have h:=RN (L.map LD) k (d:=LD a) (by rw[CW,c];rfl);rw[show JV [.cel b,‹k›,.val x,.val y,.val z] G=OB ([.cel b,‹k›,.val x,.val y,.val z],G)from rfl];simp only[OB,JM,K7,show By (([.cel b,‹k›,.val x,.val y,.val z]:U IV),G) 0=Z b from rfl,hb,MK hb ht,if_true,jE,WA hb ht 1 (by ext) (.int k) x y z,WB hb ht (.int k) x y z,AU,A5,CZ,C0,C9,B7,F1 (L:=L) (R:=R) (T:=T),jO,Iu,f,g,Db,Zd,C6,Zh,h,HA,e,K6]
end
theorem Cb.set{L:AT}(h:Cb L)(k:Nat){b:A3}{p:Nat}(c:GL b p):Cb (L.set k b):=#[by simpa using h.n1,by simpa using h.n4,λx a=>by
 rcases WC a with a|rfl
 ·exact h.good x a
 ·exact#[p,c]]
theorem A1.set{b c:A3}(d:∀a∈c.map hd,a∈b.map hd):∀{L:AT}{s:U At}{k:Nat},A1 L s->L[k]?=Z c->A1 (L.set k b) s
 |_,_,_,.nil,_=>.nil
 |_,_,0,.cons h t,e=>by cases e;exact .cons (d _ h) t
 |_,_,k+1,.cons h t,e=>.cons h<|A1.set d t (by simpa using e)
section
variable{L:AT}{G:Gh}{b t k n p:Nat}{rs:U Row}(h:Cb L)(hb:G[b]?=Z (Bo L (rs.map Zi) t))(ht:G[t]?=Z (.dat .d (Zb (AM L rs gs))))(hbt:b≠t)(hr:∀r∈rs,A1 L r.1)(hl:rs.length<=20)(hn:gs.Nodup)(hgs:∀g∈gs,g.length=L.length)(h12:gs.length<=12){ls:A3}(hL:L[k]?=Z ls)(hg:GL ls p)
include h hb ht hbt hr hl hn hgs h12 hL hg
theorem y9(f:n+1<p){l q:U At}(i:l∈ls)(m:q∈ls){v:At}(s:l.getD n .non=v):∃ys:U D,Q5 [.cel b,‹k›,‹n›,.val (aD v),.val (aD (q.getD (n+1) .non))] G = Z (.cel (G.length+1),G.set b (Bo (L.set k (rgp ls n v q)) (rs.map Zi) G.length)++[.dat .d (Zb (AM (L.set k (rgp ls n v q)) rs gs)),.dat .l ys]):=by
 have g:=yN hg f i m;rw[s]at g;obtain⟨ys,e⟩:=jd h (h.set k<|hg.rgp f v m) (by simp) hr (λr i=>(hr r i).set (λa u=>by rw[Wt λl hl=>hg.len l hl ▸ hg.p1];exact u) hL) (by lia) hn hgs h12 (G:=G.set b<|Bo (L.set k<|rgp ls n v q) (rs.map Zi) t) (DW hb) (by rw[ZL<|Bv hbt];exact ht) hbt;rw[HR,List.set_set]at e;refine⟨ys,?_⟩;have w:=WA hb ht 1 (by ext) (.int k) (.int n) (aD v)<|aD<|q.getD (n+1) .non;have x:=WB hb ht (.int k) (.int n) (aD v)<|aD<|q.getD (n+1) .non;have y:=F1 (L:=L) (R:=rs.map Zi) (T:=Zb<|AM L rs gs);have z:=RN (L.map LD) k (d:=LD ls) (by rw[CW,hL];rfl);have B:AX 1 (.lst<|(rgp ls n v q).map Af)=J':=J9 _;have o:=(BC.mp hb).1;have j:Mn [.cel b,‹k›,#v[(rgp ls n v q).map Af]] G=Z (.val .non,G.set b<|Bo (L.set k<|rgp ls n v q) (rs.map Zi) t):=(jf hb ht ((BC.mp hL).1) h.n4<|rgp ls n v q);generalize aD (q.getD (n+1) .non)=W,(rgp ls n v q).map Af=Y,LD ls=A,aD v=V at *;have C:Vm ([.cel b,‹k›,‹n›,.val V,.val W],G)=.ret (.cel<|G.length+1) (G.set b (Bo (L.set k<|rgp ls n v q) (rs.map Zi) G.length)++[.dat .d<|Zb<|AM (L.set k<|rgp ls n v q) rs gs,.dat .l ys]):=by
  simp only[Vm,DK,show ∀E:Gh,By (([.cel b,‹k›,‹n›,.val V,.val W]:U IV),E) 0=Z b from λ_=>rfl,hb,MK hb ht,o,and_self,if_true,jE,w,x,AU,A5,CZ,C0,C9,B7,y,jO,Iu,B,Db,Zd,C6,Zh,z,HA,g,Gm,j,D6,Zp,DW (c:=Bo (L.set k<|rgp ls n v q) (rs.map Zi) t) hb,show Dm "Book" "tables_renewed" (Bo (L.set k<|rgp ls n v q) (rs.map Zi) t)=J' by rwa[Dm,je],show b<(G.set b<|Bo (L.set k<|rgp ls n v q) (rs.map Zi) t).length by rw[HR];exact o,e,C8]
 exact F4 (fi rfl C) rfl
end
section
variable{L:AT}{R T:U D}{G:Gh}{b t k:Nat}(hb:G[b]?=Z (Bo L R t))(ht:G[t]?=Z (.dat .d T))
include hb ht
theorem WD(m:Nat)(a:m≠0)(x y:D):vw m ([.cel b,.val x,.val y],G)=[.val (BD L R T),.val x,.val y]:=by
 simp_all
theorem WE(x y:D):vw 0 ([.cel b,.val x,.val y],G)=[.no,.val x,.val y]:=by
 simp_all
theorem za{d x:D}(hd:Sm d)(c:F3 L.length d=O'):JU [.cel b,.val d,.val x] G=Z ("NoValue":Ae):=by
 have e:AX 1 (.lst<|L.map LD)=J':=by
  show(!vk 1 .l&&CM 1 (L.map LD))=J'
  rw[IN];rfl
 have a:=RO (L.map LD) d hd G;rw[A9,c]at a;rw[show JU [.cel b,.val d,.val x] G=Ot ([.cel b,.val d,.val x],G)from rfl];simp only[Ot,JM,K7,show By (([.cel b,.val d,.val x]:U IV),G) 0=Z b from rfl,hb,MK hb ht,if_true,jE,WD hb ht 1 (by ext) d x,WE hb ht d x,AU,A5,C0,C9,B7,F1 (L:=L) (R:=R) (T:=T),jO,Iu,e,Db,Zd,a,K6,Ew,if_false]
theorem zc{a:A3}(c:L[k]?=Z a){x:D}:JU [.cel b,‹k›,.val x] G=Oo [.val (LD a),.val x] G:=by
 have f:AX 1 (.lst<|L.map LD)=J':=by
  show(!vk 1 .l&&CM 1 (L.map LD))=J'
  rw[IN];rfl
 have g:=J9 a;have e:=RO (L.map LD) (.int k) trivial G;rw[A9,Wu<|(BC.mp c).1]at e;have h:=RN (L.map LD) k (d:=LD a) (by rw[CW,c];rfl);rw[show JU [.cel b,‹k›,.val x] G=Ot ([.cel b,‹k›,.val x],G)from rfl];simp only[Ot,JM,K7,show By (([.cel b,‹k›,.val x]:U IV),G) 0=Z b from rfl,hb,MK hb ht,if_true,jE,WD hb ht 1 (by ext) (.int k) x,WE hb ht (.int k) x,AU,A5,CZ,C0,C9,B7,F1 (L:=L) (R:=R) (T:=T),jO,Iu,f,g,Db,Zd,C6,Zh,h,HA,e,K6]
theorem jh(h:Cb L){a:A3}{p:Nat}(e:L[k]?=Z a)(f:GL a p)(c:a.length<40){l:U At}(n:NL a p l):Mr [.cel b,‹k›,.val (Af l)] G=Z (.val .non,G.set b (Bo (L.set k (a++[l])) R t)):=by
 have g:=yP (M:=a.map Af) (d:=Af l) (by simp;exact P0 c) (f.goes n);have i:Mn [.cel b,‹k›,#v[a.map Af++[Af l]]] G=Z (.val .non,G.set b<|Bo (L.set k<|a++[l]) R t):=by
  have:=jf hb ht ((BC.mp e).1) h.n4<|a++[l];rw[show LD (a++[l])=.lst (a.map Af++[Af l]) by simp[LD]]at this;exact this
 have j:=WD hb ht 1 (by ext) (.int k)<|Af l;have m:=WE hb ht (.int k)<|Af l;have o:=F1 (L:=L) (R:=R) (T:=T);have q:=RN (L.map LD) k (d:=.lst<|a.map Af) (by rw[CW,e];rfl);have r:AX 1 (.lst<|a.map Af++[Af l])=J':=by
  have:=J9<|a++[l];rw[show LD (a++[l])=.lst (a.map Af++[Af l]) by simp[LD]]at this;exact this
 generalize a.map Af++[Af l]=Y,a.map Af=M,Af l=X,BD L R T=B at *;have s:UP ([.cel b,‹k›,.val X],G)=.next ([.cel b,‹k›,.val X],G.set b<|Bo (L.set k<|a++[l]) R t):=by
  erw[UP,DK,show By (([.cel b,‹k›,.val X]:U IV),G) 0=Z b from rfl,hb,MK hb ht,(BC.mp hb).1,and_self,if_true,jE,j,m,AU,A5,CZ,C0,C9,B7,o,jO,Iu,r,Db,Zd,C6,Zh,q,HA,g,i,D6,Zp]
 exact F4 (fi rfl s) rfl
end
theorem zd{b:A3}{l:U At}{a:At}(h:a∈b.map hd):Fj (b++[l],j) a=Fj (b,j) a:=by
 obtain⟨x,c,rfl⟩:=Ba.mp h;unfold Fj;rw[List.find?_append];cases d:b.find? (λy=>decide<|hd y=hd x)with
 |none=>exact absurd (List.find?_eq_none.mp d x c) (by simp)
 |some y=>rfl
theorem ji{a:A3}{l:U At}:∀{L:AT}{g:U Nat}{s:U At}{k:Nat},A1 L s->L[k]?=Z a->Es (qs (L.set k (a++[l])) g) s=Es (qs L g) s
 |_,_,_,_,.nil,_=>rfl
 |_,[],_,0,.cons _ _,_=>rfl
 |_,[],_,_+1,.cons _ _,_=>rfl
 |_,j::g,_,0,.cons h t,e=>by
  cases e;show Fj (a++[l],j) _::_=Fj (a,j) _::_
  rw[zd h]
 |_,j::g,_,k+1,.cons h t,e=>by
  show Fj _ _::Es (qs _ g) _=Fj _ _::Es (qs _ g) _
  rw[ji t (by simpa using e)]
theorem ze{a:A3}{l:U At}{L:AT}{k:Nat}(b:L[k]?=Z a){rs:U Row}(c:∀r∈rs,A1 L r.1)(g:U Nat):Z9 (L.set k (a++[l])) g rs=Z9 L g rs:=by
 unfold Z9 F0;rw[OU λr d=>by rw[ji (c r d) b]]
theorem jj{a:A3}{l:U At}{L:AT}{k:Nat}(b:L[k]?=Z a){rs:U Row}(c:∀r∈rs,A1 L r.1)(gs:U (U Nat)):AM (L.set k (a++[l])) rs gs=AM L rs gs:=by
 exact OU λg _=>by rw[ze b c]
theorem zf{b:A3}{a:At}(h:a∈b.map hd):Fj (b,0) a=a:=by
 obtain⟨x,d,rfl⟩:=Ba.mp h;unfold Fj;cases c:b.find? (λy=>decide<|hd y=hd x)with
 |none=>exact absurd (List.find?_eq_none.mp c x d) (by simp)
 |some y=>
  have:=List.find?_some c;rw[decide_eq_true_eq]at this;rw[<- this];cases y<;>rfl
theorem jl:∀{L:AT}{s:U At},A1 L s->Es (qs L (zg L)) s=s
 |_,_,.nil=>rfl
 |_,_,.cons h t=>by
  show Fj (_,0) _::Es (qs _<|zg _) _=_
  rw[zf h,jl t]
theorem jm{L:AT}{rs:U Row}(a:∀r∈rs,A1 L r.1):Z9 L (zg L) rs=Er (Ep rs []):=by
 unfold Z9 F0;rw[OU (g:=id) λr b=>by rw[jl<|a r b];rfl,List.map_id]
noncomputable def B6(k:Nat):D:=.tup [.lst ((BB 8).map λj=>.bl (decide (j=k))),.bl J']
theorem ML(k:Nat):ZJ [‹k›]=Z (.val (B6 k)):=by
 have c:=Zw (b:=Zc 0) (e:=Ub) (ρ:=[.no,‹k›]) (λj:Nat=>D.int j) (λj=>D.bl<|decide<|j=k) (BB 8) λj _=>#[[‹j›,‹k›],rfl,by
  have:BK (.int j) (.int k)=Z (.bl<|decide<|j=k):=by
   simp;exact Int.ofNat_inj
  rwa[Ub,this]]
 have a:=N3 8 (IF 8) (by lia);rw[show(8:Int).toNat=8 from rfl]at a;unfold B6;refine ZF rfl ?_;show Uc [‹k›]=_
 rwa[Uc,Zk,show Zq 1 [0] [‹k›]=[.no,‹k›]from rfl,a,Zx ((BB 8).map λk:Nat=>D.int k) (by simp),c]
theorem MM(k:Nat):AW 12 (B6 k)=J':=rfl
theorem jn(k:Nat):BK (B6 k) (B6 k)=Z (.bl J'):=by
 have:AF (B6 k) (B6 k)=J':=Np 12 _<|MM k;simp_all [MM,Md]
theorem Hb{G:Gh}{q:Nat}(h:G[q]?=Z (.dat .l xs)):DJ 2 G (.cel q)=#v[xs]:=by
 simp_all
theorem Ka{G:Gh}{q:Nat}(h:G[q]?=Z (.dat .l xs)):DJ 1 G (.cel q)=.lent xs:=by
 simp_all
theorem jo:Eg.contains "regroup"=O':=by decide +kernel
theorem WF:Eg.contains "grow"=O':=by decide +kernel
def jq(k:Nat)(c:Ae):Prop:=(k=0/\c="NoValue")\/(k=1/\c="NoLadder")\/(k=2/\c="TooMuch")
section
variable{G:Gh}{b q t:Nat}{w:Int}{a x y z:D}{T:IV}{L:AT}{R:U D}
theorem jr(k:Nat)(c:Ae)(d:jq k c):fu ([.cel b,‹w›,.val a,T,.val .non,.exc c,.no],G)=.ret (.val (B6 k)) G:=by
 rcases d with⟨rfl,rfl⟩|⟨rfl,rfl⟩|⟨rfl,rfl⟩<;>rfl
theorem js{k:Nat}(e:Lc ([.cel b,‹w›,.val a,T,.val .non,.no,.no],G)=.ret (.val (B6 k)) G):ZK [.cel b,‹w›,.val a,T] G=Z (.val (B6 k),G):=by
 have c:Ms ([.cel b,‹w›,.val a,T,.no,.no,.no],G)=.ret (.val<|B6 k) G:=by
  erw[Ms,Q8,Q7,show Vp ([.cel b,‹w›,.val a,T,.no,.no,.no],G)=.next ([.cel b,‹w›,.val a,T,.val .non,.no,.no],G)from rfl,e,Zp]
 exact F4 (fi rfl c) rfl
theorem jt{f:IV}(e:Lc ([.cel b,‹w›,.val a,T,.val .non,.no,.no],G)=.next ([.cel b,‹w›,.val a,T,f,.no,.no],G'))(c:Vq ([.cel b,‹w›,.val a,T,f,.no,.no],G')=.ret (.val (.bl J')) G'):ZK [.cel b,‹w›,.val a,T] G=Z (.val (.bl J'),G'):=by
 have c:Ms ([.cel b,‹w›,.val a,T,.no,.no,.no],G)=.ret (.val<|.bl J') G':=by
  erw[Ms,Q8,Q7,Vr,show Vp ([.cel b,‹w›,.val a,T,.no,.no,.no],G)=.next ([.cel b,‹w›,.val a,T,.val .non,.no,.no],G)from rfl,e,c,Zp]
 exact F4 (fi rfl c) rfl
variable(hb:G[b]?=Z (Bo L R t))
include hb
theorem WG{k:Nat}{c:Ae}(d:jq k c)(e:AX 1 x=J')(f:JU [.cel b,.val a,.val x] G=Z c):ZK [.cel b,‹1›,.val a,#v[[x]]] G=Z (.val (B6 k),G):=by
 refine js ?_;rwa[Lc,EF,JD,hb,show Dm "Book" "grow" (Bo L R t)=J'/\b<G.length from#[by rwa[Dm,WF],(BC.mp hb).1],and_self,show Ap (.lst [x]) (.int 0)=Z x from Lo x [],e,f,K3,show CS.contains c=J' by rcases d with⟨_,rfl⟩|⟨_,rfl⟩|⟨_,rfl⟩<;>decide +kernel,jr (G:=G) (b:=b) (w:=1) (a:=a) (T:=#v[[x]]) k c d,TL]
theorem zh(c:AX 1 x=J')(d:JU [.cel b,.val a,.val x] G=J)(e:Mr [.cel b,.val a,.val x] G=Z (.val .non,G')):ZK [.cel b,‹1›,.val a,#v[[x]]] G=Z (.val (.bl J'),G'):=by
 refine jt (f:=.val .non) ?_ ?_
 ·rwa[Lc,EF,JD,DK,hb,show Dm "Book" "grow" (Bo L R t)=J'/\b<G.length from#[by rwa[Dm,WF],(BC.mp hb).1],and_self,show Ap (.lst [x]) (.int 0)=Z x from Lo x [],c,d,K3,e]
 ·rfl
variable(hq:G[q]?=Z (.dat .l [x,y,z]))
include hq
theorem ju(c:AX 1 x=J')(d:AX 1 y=J')(fz:AX 1 z=J')(e:JV [.cel b,.val a,.val x,.val y,.val z] G=Z ("NoValue":Ae)):ZK [.cel b,‹0›,.val a,.cel q] G=Z (.val (B6 0),G):=by
 refine js ?_;rwa[Lc,Ka hq,EF,JD,hb,show Dm "Book" "regroup" (Bo L R t)=J'/\b<G.length from#[by rwa[Dm,jo],(BC.mp hb).1],and_self,show Ap (.lst [x,y,z]) (.int 0)=Z x from Lo x _,show Ap (.lst [x,y,z]) (.int 1)=Z y from ZD (j:=1) rfl,show Ap (.lst [x,y,z]) (.int 2)=Z z from ZD (j:=2) rfl,c,d,fz,e,K3,show CS.contains "NoValue"=J' by decide +kernel,jr (G:=G) (b:=b) (w:=0) (a:=a) (T:=.cel q) 0 "NoValue" (.inl #[rfl,rfl]),TL]
theorem zi(c:AX 1 x=J')(d:AX 1 y=J')(fz:AX 1 z=J')(e:JV [.cel b,.val a,.val x,.val y,.val z] G=J){ys:U D}(g:Q5 [.cel b,.val a,.val x,.val y,.val z] G=Z (.cel j,G'))(h:G'[j]?=Z (.dat .l ys)):ZK [.cel b,‹0›,.val a,.cel q] G=Z (.val (.bl J'),G'):=by
 refine jt (f:=.cel j) ?_ ?_
 ·rwa[Lc,Ka hq,EF,JD,DK,hb,show Dm "Book" "regroup" (Bo L R t)=J'/\b<G.length from#[by rwa[Dm,jo],(BC.mp hb).1],and_self,show Ap (.lst [x,y,z]) (.int 0)=Z x from Lo x _,show Ap (.lst [x,y,z]) (.int 1)=Z y from ZD (j:=1) rfl,show Ap (.lst [x,y,z]) (.int 2)=Z z from ZD (j:=2) rfl,c,d,fz,e,K3,g]
 ·rwa[Vq,Hb h,F2,Jl,C8];rfl
end
theorem jv(xs:U D){n:Nat}(g:xs.length=n)(a:0<n)(c:Int):∃d∈xs,atI xs (c%(n:Int))=Z d:=by
 have e:=IG c (show(n:Int)≠0 by exact V9.mpr a);have h:=G6 c (show(0:Int)<(n:Int) by exact G7.mpr a);obtain⟨j,f⟩:∃j:Nat,c%(n:Int)=(j:Int):=#[(c%(n:Int)).toNat,by exact Eq.symm<|OP e];have b:j<xs.length:=by lia
 exact#[xs[j],Gf b,f ▸ ZD (BW b)]
noncomputable abbrev Fl(a b:D):U D:=[a,b,.bl J',.non,.str "0",.lst [.int 0],.tup [.int 0],.int (10^41),.str "Zz",.str ""]
theorem WH(c:Int)(a b:D):∃d∈Fl a b,Ob [‹c›,.val a,.val b]=Z (.val d):=by
 obtain⟨d,hd,e⟩:=jv (Fl a b) (n:=10) rfl (by ext) c;refine#[d,hd,?_];refine ZF rfl ?_;show Ud [‹c›,.val a,.val b]=_
 simp only[Ud,Za,A5,AU,C6,Zd,Zr,C0,C9,B7,Db,show Zm [Sl.val<|D.int 0]=Z [D.int 0]from rfl,show Zf (Z [D.int 0])=Z [D.int 0]from Zx _ (by simp),show D1 (.int 10) (.int 41)=Z (.int<|10^41)from(Lh (x:=10) (y:=41) #[by ext,by ext,by ext]),show ∀x:D,Zm [.val a,.val b,.val<|.bl J',.val .non,.val<|.str "0",.val<|.lst [.int 0],.val<|.tup [.int 0],.val x,.val<|.str "Zz",.val<|.str ""]=Z [a,b,.bl J',.non,.str "0",.lst [.int 0],.tup [.int 0],x,.str "Zz",.str ""]from λ_=>rfl,show Zf (Z<|Fl a b)=Z (Fl a b)from Zx _ (by simp),Dn c 10 (by ext),show Ap (.lst<|Fl a b) (.int<|c%10)=Z d from e,ZA,Zg]
theorem RV{a b d:D}(c:Sm a)(e:Sm b)(h:d∈Fl a b):Sm d/\(AX 1 a=J'->AX 1 b=J'->AX 1 d=J'):=by
 erw[Fl,Bz,Hn,or_false]at h;rcases h with rfl|rfl|rfl|rfl|rfl|rfl|rfl|rfl|rfl|rfl
 ·exact#[c,λh _=>h]
 ·exact#[e,λ_ h=>h]
 all_goals exact#[by first|trivial|(show(F9 _)<=100;decide +kernel),λ_ _=>rfl]
theorem jw{n:Nat}(a:n<=4){d:D}(h:d∈Fl (.int n) (.int (-1))):F3 n d=O':=by
 erw[Fl,Bz,Hn,or_false]at h;rcases h with rfl|rfl|rfl|rfl|rfl|rfl|rfl|rfl|rfl|rfl
 ·simp[F3]
 ·simp[F3]
 all_goals first|rfl|(simp[F3];lia)
theorem zj{p:Nat}(a:p<=4){d:D}(h:d∈Fl (.int ((p:Int)-1)) (.int (-1))):Fk p d=O':=by
 erw[Fl,Bz,Hn,or_false]at h;rcases h with rfl|rfl|rfl|rfl|rfl|rfl|rfl|rfl|rfl|rfl
 ·simp[Fk]
 ·simp[Fk]
 all_goals first|rfl|(simp[Fk];lia)
theorem RW{b:A3}{p:Nat}(a:GL b p)(j:Nat)(d:j<p){i:Int}(f:¬ (-10^40<i/\i<10^40))(g:i<10^45):Zv [.val (LD b),‹j›,‹i›]=Z (.val (.bl O')):=by
 have:=J4 a j (.int i) #[trivial,.inl rfl];rw[decide_eq_false]at this
 ·exact this
 ·rintro⟨l,c,e⟩;rcases(a.val l c _ (show l.getD j .non∈l by simp[DH,show j<l.length by rw[a.len l c];exact d])).2.2 i e with h|h
  ·exact f h
  ·exact absurd h.1<|Int.not_le.mpr g
theorem jx{b:A3}{p:Nat}(a:GL b p)(j:Nat)(f:j<p):Zv [.val (LD b),‹j›,.val .non]=Z (.val (.bl O')):=by
 have:=J4 a j .non #[trivial,.inr rfl];rw[decide_eq_false]at this
 ·exact this
 ·rintro⟨l,c,e⟩;have d:l.getD j .non∈l:=by simp[DH,show j<l.length by rw[a.len l c];exact f]
  rw[e]at d;have:=(a.val l c _ d).1;exact absurd this (by ext)
theorem jy{c:A3}{p:Nat}(e:GL c p)(j:Nat)(f:j<p){a b d:D}(g:Zv [.val (LD c),‹j›,.val a]=Z (.val (.bl O')))(i:Zv [.val (LD c),‹j›,.val b]=Z (.val (.bl O')))(h:d∈Fl a b):Zv [.val (LD c),‹j›,.val d]=Z (.val (.bl O')):=by
 erw[Fl,Bz,Hn,or_false]at h;rcases h with rfl|rfl|rfl|rfl|rfl|rfl|rfl|rfl|rfl|rfl
 ·exact g
 ·exact i
 ·exact MG _ _ _ trivial rfl (by simp)
 ·exact jx e j f
 ·exact MG _ _ _ (by show(F9 _)<=100;decide +kernel) (by decide +kernel) (by simp)
 ·exact MG _ _ _ trivial rfl (by simp)
 ·exact MG _ _ _ trivial rfl (by simp)
 ·exact RW e j f (of_decide_eq_false rfl) (by lia)
 ·exact MG _ _ _ (by show(F9 _)<=100;decide +kernel) (by decide +kernel) (by simp)
 ·exact MG _ _ _ (by show(F9 _)<=100;decide +kernel) (by decide +kernel) (by simp)
theorem IP(x:Int){n:Nat}(h:0<n):∃k:Nat,k<n/\Zs (.int x) (.int n)=Z (.int k):=by
 have a:=IG x (show(n:Int)≠0 by exact V9.mpr h);have b:=G6 x (show(0:Int)<(n:Int) by exact G7.mpr h);refine#[(x%(n:Int)).toNat,by exact(Int.toNat_lt a).mpr b,?_];rw[Dn x n<|G7.mpr h];congr 2;exact Eq.symm<|OP a
theorem EZ(m:Nat)(a:At):AX m (aD a)=J':=by cases a<;>rfl
structure St(n:Nat)(V:D)(w:Nat->Int):Prop where
 i0:Ap V (.int 0)=Z (.int (w 0))
 i1:Ap V (.int 1)=Z (.int (w 1))
 i2:Ap V (.int 2)=Z (.int (w 2))
 i3:Ap V (.int 3)=Z (.int (w 3))
 i4:Ap V (.int 4)=Z (.int (w 4))
 i5:Ap V (.int 5)=Z (.int (w 5))
 i6:6<n->Ap V (.int 6)=Z (.int (w 6))
theorem jz(c:Int){n:Nat}(h:5<n)(f:n<9):∃V w,St n V w/\ZR [‹c›,‹n›]=Z (.val V):=by
 obtain⟨a,e,b,_⟩:=Rl c n (by lia);have i:∀k:Nat,k<n->Ap (.lst<|a.map D.int) (.int k)=Z (.int<|a.getD k 0):=λk d=>ZD (by simp[DH,BW (show k<a.length by exact Kr d b.symm)]);exact#[_,λk=>a.getD k 0,#[i 0<|KR h,i 1<|RU h,i 2<|RU h,i 3<|RU h,i 4<|RU h,i 5 h,i 6],e]
theorem RX(L:AT):Zo [.lst (L.map LD)]=Z (.int L.length):=by simp
theorem jA{L:AT}{k:Nat}{a:A3}(h:L[k]?=Z a):Ap (.lst (L.map LD)) (.int k)=Z (LD a):=ZD (by rw[CW,h];rfl)
noncomputable abbrev rS(b a:Nat)(c:Int)(x3 x4 x5 x6 x7 x8 x9 x10 x11 x12:IV):U IV:=[.cel b,.cel a,‹c›,x3,x4,x5,x6,x7,x8,x9,x10,x11,x12]
section
variable{G:Gh}{b a:Nat}{c:Int}{L:AT}{ls:A3}{p k n:Nat}{V:D}{w:Nat->Int}{x10:IV}
theorem zk(c:Int):∃V w,St 8 V w/\∀G b a x3 x4 x5 x6 x7 x8 x9 x10 x11 x12,Vu (rS b a c x3 x4 x5 x6 x7 x8 x9 x10 x11 x12,G)=.next (rS b a c (.val V) x4 x5 x6 x7 x8 x9 x10 x11 x12,G):=by
 obtain⟨V,w,h,e⟩:=jz c (n:=8) (by ext) (by ext);exact#[V,w,h,by intros;rwa[Vu,show ZR [‹c›,‹8›]=_ from e]]
variable(hV:St 8 V w)
include hV
theorem zl(h:Cb L)(d:G[a]?=Z (.dat .l (L.map LD))):∃k,k<L.length/\∀b c x4 x5 x6 x7 x8 x9 x10 x11 x12,Vv (rS b a c (.val V) x4 x5 x6 x7 x8 x9 x10 x11 x12,G)=.next (rS b a c (.val V) ‹k› x5 x6 x7 x8 x9 x10 x11 x12,G):=by
 obtain⟨k,f,e⟩:=IP (w 0) h.n1;exact#[k,f,by intros;rwa[Vv,Hb d,hV.i0,RX,e]]
omit hV in
theorem zm(d:G[a]?=Z (.dat .l (L.map LD)))(e:L[k]?=Z ls):Vw (rS b a c x3 ‹k› x5 x6 x7 x8 x9 x10 x11 x12,G)=.next (rS b a c x3 ‹k› (.val (LD ls)) x6 x7 x8 x9 x10 x11 x12,G):=by
 have i:=jA e;have f:=J9 ls;rwa[Vw,Ka d,i,f]
omit hV in
theorem OY(b:GL ls p):∃a∈ls,Ap (LD ls) (.int 0)=Z (Af a)/\Zo [Af a]=Z (.int p):=by
 have c:=b.n1;cases ls with
 |nil=>simp at c
 |cons a r=>exact#[a,Bj,Lo _ _,by show Z (D.int ((a.map aD).length:Int))=_;rw[A9,b.len a Bj]]
theorem zn(d:GL ls p):∃n:Nat,n<p/\(1<p->n+1<p)/\∀G b a c x4 x6 x7 x8 x9 x10 x11 x12,Vx (rS b a c (.val V) x4 (.val (LD ls)) x6 x7 x8 x9 x10 x11 x12,G)=.next (rS b a c (.val V) x4 (.val (LD ls)) ‹n› x7 x8 x9 x10 x11 x12,G):=by
 obtain⟨r,_,j,k⟩:=OY d;obtain⟨m,l,o,f,q⟩:∃m:Nat,0<m/\m<=p/\(1<p->m+1<=p)/\Jq [.int 1,.int<|(p:Int)-1]=Z (.int m):=by
  have:=d.p1;by_cases g:(p:Int)-1>1
  ·exact#[p-1,by lia,by exact Nat.sub_le p 1,λ_=>by lia,by show Z (D.int<|if(p:Int)-1>1 then(p:Int)-1 else 1)=_;rw[if_pos g];congr 2;lia]
  ·exact#[1,by exact Nat.one_pos,by exact Nat.one_le_of_lt this,λ_=>by lia,by show Z (D.int<|if(p:Int)-1>1 then(p:Int)-1 else 1)=_;rw[if_neg g];rfl]
 obtain⟨n,i,e⟩:=IP (w 1) l;refine#[n,by exact BX i o,λh=>by have:=f h;exact Kx i<|f h,?_];intros;rwa[Vx,hV.i1,j,k,q,e]
omit hV in
theorem WI(b:GL ls p)(i:Int):∃l∈ls,∃j:Nat,Zs (.int i) (.int ls.length)=Z (.int j)/\Ap (LD ls) (.int j)=Z (Af l):=by
 obtain⟨j,a,e⟩:=IP i (show 0<ls.length from b.n1);exact#[ls[j],Gf a,j,e,ZD (by rw[CW,BW a];rfl)]
omit hV in
theorem Kb(ls:A3):Zo [LD ls]=Z (.int ls.length):=by show Z (D.int ((ls.map Af).length:Int))=_;rw[A9]
theorem zo(e:GL ls p)(h:n<p):∃l∈ls,∀G b a c x4 x7 x8 x9 x10 x11 x12,Vy (rS b a c (.val V) x4 (.val (LD ls)) ‹n› x7 x8 x9 x10 x11 x12,G)=.next (rS b a c (.val V) x4 (.val (LD ls)) ‹n› (.val (aD (l.getD n .non))) x8 x9 x10 x11 x12,G):=by
 obtain⟨l,g,i,k,m⟩:=WI e (w 2)
 refine#[l,g,?_]
 have d:=Kb ls
 have i3:=MJ (l:=l) (j:=n) (e.len l g ▸ h)
 have f:=EZ 2 (l.getD n .non)
 intros
 rwa[Vy,hV.i2,d,k,m,i3,f]
theorem zp(e:GL ls p):∃q∈ls,∀G b a c x4 x6 x7 x8 x9 x10 x11 x12,Vz (rS b a c (.val V) x4 (.val (LD ls)) x6 x7 x8 x9 x10 x11 x12,G)=.next (rS b a c (.val V) x4 (.val (LD ls)) x6 x7 (.val (Af q)) x9 x10 x11 x12,G):=by
 obtain⟨l,g,i,h,j⟩:=WI e<|w 3;refine⟨l,g,?_⟩;have d:=Kb ls;have f:=DV 2 l;intros;rwa[Vz,hV.i3,d,h,j,f]
omit hV
theorem zq{q:U At}(h:1<=q.length):∃z∈q,Ap (Af q) (.int (-1))=Z (aD z):=by
 have a:q≠[]:=λe=>by rw[e]at h;simp at h
 refine#[q.getLast a,List.getLast_mem a,?_]
 have e:q.map aD=(q.dropLast).map aD++[aD (q.getLast a)]:=by
  conv=>lhs;rw[<- List.dropLast_concat_getLast a]
  simp
 show atI (q.map aD) (-1)=_
 rw[e];exact Sn _ _
theorem zr{q:U At}(d:1<=q.length):∃z∈q,∀G b a c x3 x4 x5 n v x9 x10 x11 x12,VA (rS b a c x3 x4 x5 ‹n› (.val (aD v)) (.val (Af q)) x9 x10 x11 x12,G)=.next (rS b a c x3 x4 x5 ‹n› (.val (aD v)) (.val (Af q)) (.cel G.length) x10 x11 x12,G++[.dat .l [.int n,aD v,aD z]]):=by
 obtain⟨z,g,e⟩:=zq d;refine#[z,g,λG b a c x3 x4 x5 n v x9 x10 x11 x12=>?_];have f:CM 2 [.int n,aD v,aD z]=J':=by show(AX 2 (.int n)&&(AX 2 (aD v)&&(AX 2 (aD z)&&J')))=J';rw[EZ,EZ];rfl
 rwa[VA,e,jG,jL,f,xC]
theorem zt:VB (rS b a c x3 x4 x5 x6 x7 x8 x9 x10 x11 x12,G)=.next (rS b a c x3 x4 x5 x6 x7 x8 x9 (.val (B6 0)) x11 x12,G):=by
 rwa[VB,show ZJ [‹0›]=Z (.val<|B6 0)from ML 0]
end
theorem WJ(x:Int):Zs (.int x) (.int 2)=Z (.int 0)\/Zs (.int x) (.int 2)=Z (.int 1):=by
 obtain⟨k,a,e⟩:=IP x (n:=2) (by ext);rcases Nat.lt_succ_iff_lt_or_eq.mp a with h|h
 ·left;rw[show k=0 by exact Nat.lt_one_iff.mp h]at e;exact e
 ·right;rw[h]at e;exact e
section
variable{G:Gh}{b a h:Nat}{c:Int}{L:AT}{ls:A3}{p k n:Nat}{V:D}{w:Nat->Int}{x10:IV}{x y z:D}
theorem zu(d:GL ls p)(o:1<p){q:U At}(e:q∈ls)(g:n+1<p)(i:G[h]?=Z (.dat .l [x,y,z])):Mt (rS b a c x3 x4 (.val (LD ls)) ‹n› x7 (.val (Af q)) (.cel h) x10 x11 x12,G)=.next (rS b a c x3 x4 (.val (LD ls)) ‹n› x7 (.val (Af q)) (.cel h) (.val (.bl J')) x11 x12,G.set h (.dat .l [x,y,aD (q.getD (n+1) .non)])):=by
 obtain⟨r,_,k,m⟩:=OY d;have i1:Ap (Af q) (.int<|(n:Int)+1)=Z (aD<|q.getD (n+1) .non):=MJ (l:=q) (j:=n+1) (d.len q e ▸ g);have f:=EZ 2<|q.getD (n+1) .non;rwa[Mt,k,m,show D2 (.int p) (.int 1)=Z (.bl J') by show Z (D.bl<|decide<|(1:Int)<(p:Int))=_;rw[decide_eq_true (by lia)],i1,f,Gp,i,HC,A9,FZ,show CG 3 2=Z 2 from rfl,setIt,show AX 2 (.bl J')=J' from rfl]
theorem zv(d:GL ls p)(g:¬ 1<p):Mt (rS b a c x3 x4 (.val (LD ls)) x6 x7 x8 x9 x10 x11 x12,G)=.next (rS b a c x3 x4 (.val (LD ls)) x6 x7 x8 x9 x10 x11 x12,G):=by
 obtain⟨h,_,e,f⟩:=OY d;rwa[Mt,e,f,show D2 (.int p) (.int 1)=Z (.bl O') by show Z (D.bl<|decide<|(1:Int)<(p:Int))=_;rw[decide_eq_false (by lia)]]
variable(hV:St 8 V w)
include hV
theorem zw(d:Zs (.int (w 4)) (.int 2)=Z (.int 0)):Z7 (rS b a c (.val V) x4 x5 x6 x7 x8 x9 x10 x11 x12,G)=.next (rS b a c (.val V) x4 x5 x6 x7 x8 x9 x10 x11 x12,G):=by
 rwa[Z7,hV.i4,d]
variable(h0:Zs (.int (w 4)) (.int 2)=Z (.int 1))(hh:G[h]?=Z (.dat .l [x,y,z]))
include h0 hh
variable{R T:U D}{t:Nat}
theorem zy(g:G[b]?=Z (Bo L R t))(i:G[t]?=Z (.dat .d T))(e:Cb L)(f:G[a]?=Z (.dat .l (L.map LD)))(j:AX 1 x=J')(k:AX 1 y=J')(fz:AX 1 z=J')(m:Zs (.int (w 5)) (.int 4)=Z (.int 3)):Z7 (rS b a c (.val V) x4 x5 x6 x7 x8 (.cel h) x10 x11 x12,G)=.ret (.val (.bl J')) G:=by
 have n:ZJ [‹0›]=Z (.val<|B6 0):=ML 0;obtain⟨d,hd,o⟩:=WH (w 6) (.int L.length)<|.int (-1);have sm:=RV (a:=.int L.length) (b:=.int (-1)) trivial trivial hd;have p:=ju (a:=d) g hh j k fz (y8 g i (x:=x) (y:=y) (z:=z) sm.1 (jw e.n4 hd));have q:=jn 0;rwa[Z7,Ka f,hV.i4,h0,n,hV.i5,m,show BK (.int 3) (.int 3)=Z (.bl J')from rfl,hV.i6 (by ext),RX,o,sm.2 rfl rfl,D7,p,Fz,q,C8]
omit h0 hh hV
noncomputable def HI(p j:Nat):D:=[D.int ((p:Int)-1),.int (10^42),.non].getD j .non
noncomputable def LO(j:Nat):D:=[D.int (-1),.int (10^43),.int (-10^43)].getD j .non
theorem jB(a:j<3)(A B C:D):Ap (.lst [A,B,C]) (.int j)=Z ([A,B,C].getD j .non):=ZD (by simp[DH,BW (show j<[A,B,C].length from a)])
include h0 hh hV
theorem zz(i:GL ls p)(g:j<3)(k:Zs (.int (w 5)) (.int 4)=Z (.int j)):∃d∈Fl (HI p j) (LO j),∀b a c x4 x6 x7 x8 x10 x11 x12,Z7 (rS b a c (.val V) x4 (.val (LD ls)) x6 x7 x8 (.cel h) x10 x11 x12,G)=.next (rS b a c (.val V) x4 (.val (LD ls)) x6 x7 x8 (.cel h) (.val (B6 0)) ‹j› x12,G.set h (.dat .l ([x,y,z].set j d))):=by
 obtain⟨u,_,m,n⟩:=OY i;have o:ZJ [‹0›]=Z (.val<|B6 0):=ML 0;obtain⟨d,hd,q⟩:=WH (w 6) (HI p j)<|LO j;refine⟨d,hd,?_⟩;have e:D1 (.int 10) (.int 42)=Z (.int<|10^42):=Lh (x:=10) (y:=42) #[by ext,by ext,by ext];have f:D1 (.int 10) (.int 43)=Z (.int<|10^43):=Lh (x:=10) (y:=43) #[by ext,by ext,by ext];have r:Ap (.lst [.int<|(p:Int)-1,.int<|10^42,.non]) (.int j)=Z (HI p j):=jB g _ _ _;have s:Ap (.lst [.int (-1),.int<|10^43,.int (-10^43)]) (.int j)=Z (LO j):=jB g _ _ _;have t:CG 3 (j:Int)=Z j:=by
  rcases(show j=0\/j=1\/j=2 by lia)with rfl|rfl|rfl<;>rfl
 intros;rwa[Z7,hV.i4,h0,o,hV.i5,k,show BK (.int j) (.int 3)=Z (.bl O') by rw[JZ,decide_eq_false (by lia)],hV.i6 (by ext),m,n,e,f,r,s,q,Gp,hh,HC,A9,FZ,t,setIt]
omit h0 hh hV
theorem jC{d e:D}(f:ZK [.cel b,‹0›,.val d,.cel h] G=Z (.val e,G'))(g:CK e e=Z (.bl O')):VC (rS b a c x3 (.val d) x5 x6 x7 x8 (.cel h) (.val e) x11 x12,G)=.next (rS b a c x3 (.val d) x5 x6 x7 x8 (.cel h) (.val e) x11 x12,G'):=by
 rwa[VC,D7,f,Fz,g,Gn,HB];rfl
theorem zA:OC (rS b a c x3 x4 x5 x6 x7 x8 x9 (.val (B6 0)) x11 x12,G)=.next (rS b a c x3 x4 x5 x6 x7 x8 x9 (.val (B6 0)) x11 x12,G):=by
 have i:GZ (B6 0) (.bl J')=Z (.bl O'):=rfl;rwa[OC,i]
theorem jD:fy (rS b a c x3 x4 x5 x6 x7 x8 x9 x10 x11 x12,G)=.ret (.val (.bl J')) G:=rfl
end
theorem jF{G:Gh}{n:Nat}{c:Cl}(h:G[n]?=Z c):G.set n c=G:=by
 apply Jo;intro i;by_cases e:n=i
 ·subst e;rw[DW h,h]
 ·rw[Et e]
section
variable{G:Gh}{b a:Nat}{c:Int}{p k n:Nat}{x10:IV}{v:At}{q:U At}{xs:U IV}
theorem zB(e:G[a]?=Z (.mix .l xs))(f:xs[k]?=Z (.cel j)){acc:U D}(g:G[j]?=Z (.dat .l acc))(m:acc.length<100){l:U At}(h:n+1<l.length)(p:l.length<=4)(o:q.length<=4):ZY (rS b a c x3 ‹k› x5 ‹n› (.val (aD v)) (.val (Af q)) x9 x10 x11 (.val (Af l)),G)=.next (rS b a c x3 ‹k› x5 ‹n› (.val (aD v)) (.val (Af q)) x9 x10 x11 (.val (Af (DM n v q l))),G.set j (.dat .l (acc++[Af (DM n v q l)]))):=by
 have eq:BK (aD<|l.getD n .non) (aD v)=Z (.bl<|decide<|l.getD n .non=v):=by
  erw[BK,Iv,ON,Md,if_true,OL]
 have ad:=IL (l.take<|n+1) (q.drop<|n+1) (by simp;lia);have i:acc.length<Ax:=BX m (by ext);unfold DM;by_cases d:l.getD n .non=v
 ·rw[decide_eq_true d]at eq;rw[if_pos d];rwa[ZY,(MJ<|Rw h),eq,Ce,Ca,RS l n,Ww q n,ad,DV 2,K8,N5,e,ZD f,K1,g,if_pos i,D6]
 ·rw[decide_eq_false d]at eq;rw[if_neg d];rwa[ZY,(MJ<|Rw h),eq,K8,N5,e,ZD f,K1,g,if_pos i,D6]
theorem zC(i:xs[k]?=Z (.cel j))(m:a≠j)(o:q.length<=4):∀(f:A3)(acc:U D)(G:Gh)(x12:IV),(∀l∈f,n+1<l.length/\l.length<=4)->acc.length+f.length<100->G[a]?=Z (.mix .l xs)->G[j]?=Z (.dat .l acc)->∃d,EW 12 ZY (f.map Af) (rS b a c x3 ‹k› x5 ‹n› (.val (aD v)) (.val (Af q)) x9 x10 x11 x12,G)=.next (rS b a c x3 ‹k› x5 ‹n› (.val (aD v)) (.val (Af q)) x9 x10 x11 d,G.set j (.dat .l (acc++(f.map (DM n v q)).map Af))):=by
 intro f;induction f with|nil=>exact λacc G x12 _ _ _ h=>#[x12,by erw[Dh,DO,jF h,EW]]|cons l f u=>
  intro acc G x12 p s t h;rw[CT]at s;obtain⟨d,e⟩:=u (acc++[Af<|DM n v q l]) (G.set j<|.dat .l<|acc++[Af<|DM n v q l]) (.val<|Af<|DM n v q l) (λx i=>p x<|BG _ i) (by rw[Ej,Kv];lia) (by rw[ZL m];exact t) (DW h);refine⟨d,?_⟩;rw[List.set_set,NK]at e;show(match ZY (rS b a c x3 ‹k› x5 ‹n› (.val<|aD v) (.val<|Af q) x9 x10 x11 (.val<|Af l),G)with
   |.next g=>EW 12 ZY (f.map Af) g
   |.cont g=>EW 12 ZY (f.map Af) g
   |.brk g=>.next g
   |r=>r)=_
  rw[zB (b:=b) (c:=c) (x3:=x3) (x5:=x5) (x9:=x9) (x10:=x10) (x11:=x11) (v:=v) t i h (C7 s) (p l Bj).1 (p l Bj).2 o];exact e
end
theorem jH:∀xs:U D,Mm (xs.map IV.val)=Z xs
 |[]=>rfl
 |x::xs=>by show Zd (Z x) (Mm<|xs.map IV.val)=_;rw[jH xs];rfl
section
variable{G:Gh}{b a:Nat}{c:Int}{L:AT}{ls:A3}{p k n:Nat}{v:At}{q:U At}
theorem zD(g:G[a]?=Z (.dat .l (L.map LD)))(y:L[k]?=Z ls)(h:GL ls p)(z:n+1<p)(A:q∈ls)(C:L.length<=4):∃f G',OC (rS b a c x3 ‹k› (.val (LD ls)) ‹n› (.val (aD v)) (.val (Af q)) x9 (.val (.bl J')) x11 x12,G)=.next (rS b a c x3 ‹k› (.val (LD ls)) ‹n› (.val (aD v)) (.val (Af q)) x9 (.val (.bl J')) x11 f,G')/\G'[a]?=Z (.dat .l ((L.set k (rgp ls n v q)).map LD))/\∀i,i≠a->i<G.length->G'[i]?=G[i]?:=by
 have w:=(BC.mp y).1;have la:=(BC.mp g).1;obtain⟨j,r⟩:∃j,G.length=j:=#[_,rfl];have d:a≠j:=by lia
 have m:(((L.map LD).map IV.val).set k<|.cel j)[k]?=Z (.cel j):=Gx (by simpa using w);have st:setIt (.dat .l<|L.map LD) k (.cel j)=.mix .l (((L.map LD).map IV.val).set k<|.cel j):=rfl;have B:∀Y,Mm ((((L.map LD).map IV.val).set k<|.cel j).set k<|.val<|.lst Y)=Z ((L.map LD).set k<|.lst Y):=λY=>by rw[List.set_set,<- List.map_set,jH]
 generalize ((L.map LD).map IV.val).set k (.cel j)=X at *;have ga:((G++[Cl.dat .l []]).set a<|.mix .l X)[a]?=Z (.mix .l X):=DW<|HG g;have x:((G++[Cl.dat .l []]).set a<|.mix .l X)[j]?=Z (.dat .l []):=by
  rw[ZL<|Bv d,Hg<|Lv r,r];simp
 have GU:∀i,i≠a->i<G.length->((G++[Cl.dat .l []]).set a<|.mix .l X)[i]?=G[i]?:=λi o s=>by
  rw[ZL o,EL s]
 generalize t:(G++[Cl.dat .l []]).set a (.mix .l X)=u at *;obtain⟨f,e⟩:=zC (b:=b) (c:=c) (x3:=x3) (x5:=.val<|LD ls) (x9:=x9) (x10:=.val<|.bl J') (x11:=x11) (n:=n) (v:=v) m d (h.len q A ▸ h.p4) ls [] u x12 (λl E=>h.len l E ▸ #[z,h.p4]) (by have:=h.n6;simp;lia) ga x;rw[D8]at e;generalize H:(ls.map<|DM n v q).map Af=Y at *;refine#[f,((u.set j<|.dat .l Y).set j .dead).set a<|.dat .l<|(L.map LD).set k<|.lst Y,?_,?_,λi o s=>?_]
 ·have F:CG ((L.map LD).map IV.val).length (k:Int)=Z k:=by
   erw[CG,A9];rw[if_pos<|JJ k,if_pos<|MB.mpr w];rfl
  rwa[OC,show GZ (.bl J') (.bl J')=Z (.bl J')from rfl,show Zf (Z ([]:U D))=Z []from rfl,jG,jL,show CM 2 []=J' from rfl,xC,r,Gp,HG g,show HC (.dat .l<|L.map LD)=Z ((L.map LD).map IV.val)from rfl,F,st,t,Ir,show Mc (LD ls)=Z (ls.map Af)from rfl,e,Qp,K8,show cj (.int k)=Z k from rfl,Qo,show(u.set j<|.dat .l Y)[a]?=Z (.mix .l X) by rw[ZL d];exact ga,m,DW x,if_neg<|Bv d,B]
 ·rw[DW (show _=Z (Cl.mix .l X) by rw[ZL d,ZL d];exact ga),List.map_set,<- H];rfl
 ·rw[ZL o,ZL (by lia),ZL (by lia)];exact GU i o s
end
structure ST(rs:List Row)(gs:List (List Nat))(b a:Nat)(L:AT)(G:Gh):Prop where
 gl:Cb L
 up:∀ls∈L,Up ls
 sp:∀r∈rs,A1 L r.1
 gn:∀g∈gs,g.length=L.length
 la:G[a]?=Z (.dat .l (L.map LD))
 bk:∃t,G[b]?=Z (Bo L (rs.map Zi) t)/\G[t]?=Z (.dat .d (Zb (AM L rs gs)))/\b≠t/\a≠t
 ab:a≠b
theorem ST.ext{rs:U Row}{b a:Nat}{L:AT}{G:Gh}(s:ST rs gs b a L G)(h:∀i,i<G.length->G'[i]?=G[i]?):ST rs gs b a L G':=by
 obtain⟨t,d,f,g,j⟩:=s.bk;have z:∀{i:Nat} {c:Cl},G[i]?=Z c->G'[i]?=Z c:=λ{i c} e=>h i (BC.mp e).1 ▸ e;exact#[s.gl,s.up,s.sp,s.gn,z s.la,#[t,z d,z f,g,j],s.ab]
section
variable{G:Gh}{b a h t:Nat}{c:Int}{L:AT}{R T:U D}{ls:A3}{p k n:Nat}{x y z:D}
theorem jI(e:G[b]?=Z (Bo L R t))(g:G[t]?=Z (.dat .d T))(i:L[k]?=Z ls)(j:G[h]?=Z (.dat .l [x,y,z]))(m:AX 1 x=J')(n:AX 1 y=J')(fz:AX 1 z=J')(o:Iz [.val (LD ls),.val x,.val y,.val z] G=Z ("NoValue":Ae)):Q9 (rS b a c x3 ‹k› x5 x6 x7 x8 (.cel h) (.val (B6 0)) x11 x12,G)=.ret (.val (.bl J')) G:=by
 have f:=jg e g i (x:=x) (y:=y) (z:=z);rw[o]at f;have p:CK (B6 0) (B6 0)=Z (.bl O'):=by
  have:=Np 12 _<|MM 0;simp_all [MM]
 erw[Q9,VF,VD,jC (ju e j m n fz f) p,zA,jD,Zp]
theorem zE(b:GL ls p){v:At}{l q:U At}(o:l∈ls)(u:l.getD n .non=v)(E:q∈ls)(k:n<p)(c:1<p->n+1<p){z:At}(hz:1<p->z=q.getD (n+1) .non)(r:j<3){d:D}(hd:d∈Fl (HI p j) (LO j)):∃x y w:D,([D.int n,aD v,aD z].set j d)=[x,y,w]/\AX 1 x=J'/\AX 1 y=J'/\AX 1 w=J'/\Iz [.val (LD ls),.val x,.val y,.val w] G=Z ("NoValue":Ae):=by
 have A:∀(x:U At) (j:Nat),x∈ls->j<p->Sm (aD<|x.getD j .non)/\(Cz (aD<|x.getD j .non)=J'\/x.getD j .non=.non):=λx j m r=>by
  have s:x.getD j .non∈x:=by simp[DH,show j<x.length by rw[b.len x m];exact r]
  exact#[(b.val x m _ s).2.1,.inl (b.val x m _ s).1]
 have a:=OW b (.int n) trivial;have fd:Sm (HI p j)->Sm (LO j)->AX 1 (HI p j)=J'->AX 1 (LO j)=J'->Sm d/\AX 1 d=J':=λe t B C=>#[(RV e t hd).1,(RV e t hd).2 B C];rcases(show j=0\/j=1\/j=2 by lia)with rfl|rfl|rfl
 ·obtain⟨sm,f⟩:=fd trivial trivial rfl rfl;have:=OW b d sm;rw[zj b.p4 hd]at this;exact#[d,aD v,aD z,rfl,f,EZ 1 v,EZ 1 z,RQ this]
 ·obtain⟨sm,f⟩:=fd trivial trivial rfl rfl;refine#[.int n,d,aD z,rfl,rfl,f,EZ 1 z,?_];by_cases g:1<p
  ·rw[RP<|c g]at a;have e:=jy b n k (RW b n k (i:=10^42) (of_decide_eq_false rfl) (by lia)) (RW b n k (i:=10^43) (of_decide_eq_false rfl) (by lia)) hd;have:=Wv (G:=G) (d2:=aD z) (b2:=J') a e (λh=>nomatch h);exact this
  ·rw[show Fk p (.int n)=O' by simp[Fk];lia]at a;exact RQ a
 ·obtain⟨sm,f⟩:=fd trivial trivial rfl rfl;refine#[.int n,aD v,d,rfl,rfl,EZ 1 v,f,?_];by_cases g:1<p
  ·rw[RP<|c g]at a;have e:=J4 b n _<|A l n o k;rw[decide_eq_true ⟨l,o,rfl⟩,u]at e;have:=Wv (G:=G) a e (λ_=>(jy b (n+1) (c g) (jx b (n+1)<|c g) (RW b (n+1) (c g) (i := -10^43) (of_decide_eq_false rfl) (by lia)) hd));exact this
  ·rw[show Fk p (.int n)=O' by simp[Fk];lia]at a;exact RQ a
end
theorem zF{G:Gh}{c:Cl}:(G++[c])[G.length]?=Z c:=by simp
theorem zG{rs:U Row}{b a:Nat}{L:AT}{G:Gh}(s:ST rs gs b a L G)(hl:rs.length<=20)(hn:gs.Nodup)(h12:gs.length<=12)(c:Int):∃T G',VH [.cel b,.cel a,‹c›] G=Z (.val (.bl J'),G')/\ST rs gs b a T G'/\T.length=L.length:=by
 obtain⟨t,hb,ht,hbt,hat⟩:=s.bk;suffices h:∃T G',VG (rS b a c .no .no .no .no .no .no .no .no .no .no,G)=.ret (.val<|.bl J') G'/\ST rs gs b a T G'/\T.length=L.length by
  obtain⟨T,G',e,r⟩:=h;exact#[T,G',F4 (fi rfl (show fJ (rS b a c .no .no .no .no .no .no .no .no .no .no,G)=_ from e)) rfl,r]
 obtain⟨V,w,P,e0⟩:=zk c;obtain⟨k,hk,e1⟩:=zl P s.gl s.la;obtain⟨H,N⟩:∃H,L[k]?=Z H:=#[_,BW hk];obtain⟨p,f⟩:=s.gl.good H<|Fn N;obtain⟨n,Y,A,e3⟩:=zn P f;obtain⟨l,K,e4⟩:=zo P f Y;obtain⟨v,hv⟩:∃v,l.getD n .non=v:=#[_,rfl];rw[hv]at e4;obtain⟨q,Q,e5⟩:=zp P f;obtain⟨z,hz,e6⟩:=zr (q:=q) (f.len q Q ▸ f.p1);erw[VG,e0,Zp,fI,e1,fH,zm s.la N,fG,e3,fF,e4,fE,e5,fC,e6,fB,zt];obtain⟨h,hh⟩:∃h,G.length=h:=#[_,rfl];obtain⟨u,du,m,hwq,hdu,R,ext,e8⟩:∃(u:At) (du:D) (m:Gh),(1<p->u=q.getD (n+1) .non)/\((1<p/\du=.bl J')\/(¬ 1<p/\du=B6 0))/\m[h]?=Z (.dat .l [.int n,aD v,aD u])/\(∀i,i<G.length->m[i]?=G[i]?) /\
   Mt (rS b a c (.val V) ‹k› (.val<|LD H) ‹n› (.val<|aD v) (.val<|Af q) (.cel h) (.val<|B6 0) .no .no,G++[.dat .l [.int n,aD v,aD z]])=.next (rS b a c (.val V) ‹k› (.val<|LD H) ‹n› (.val<|aD v) (.val<|Af q) (.cel h) (.val du) .no .no,m):=by
  have g1:(G++[Cl.dat .l [.int n,aD v,aD z]])[h]?=Z (.dat .l [.int n,aD v,aD z]):=hh ▸ zF;by_cases C:1<p
  ·exact#[q.getD (n+1) .non,.bl J',_,λ_=>rfl,.inl #[C,rfl],DW g1,λi hi=>by rw[ZL (by lia),EL hi],zu f C Q (A C) g1]
  ·exact#[z,B6 0,_,λh=>absurd h C,.inr #[C,rfl],g1,λi hi=>by rw[EL hi],zv f C]
 rw[hh];erw[fA,e8,Zp];have s2:=s.ext ext;have B:m[b]?=Z (Bo L (rs.map Zi) t):=ext b ((BC.mp hb).1) ▸ hb;have F:m[t]?=Z (.dat .d<|Zb<|AM L rs gs):=ext t ((BC.mp ht).1) ▸ ht;rcases WJ (w 4)with m4|m4
 ·erw[Ra,zw P m4,Zp];rcases hdu with⟨C,rfl⟩|⟨C,rfl⟩
  ·-- it is done
   have M:=OW f (.int n) trivial;rw[RP<|A C]at M;have vl:∀(x:U At) (j:Nat),x∈H->j<p->Sm (aD<|x.getD j .non)/\(Cz (aD<|x.getD j .non)=J'\/x.getD j .non=.non):=λx j hx hj=>by
    have hm:x.getD j .non∈x:=by simp[DH,show j<x.length by rw[f.len x hx];exact hj]
    exact#[(f.val x hx _ hm).2.1,.inl (f.val x hx _ hm).1]
   have h1:=J4 f n _<|vl l n K Y;rw[decide_eq_true ⟨l,K,rfl⟩,hv]at h1;have h2:=J4 f (n+1) _<|vl q (n+1) Q<|A C;rw[decide_eq_true ⟨q,Q,rfl⟩]at h2;have hX:=jg B F N (x:=.int n) (y:=aD v) (z:=aD<|q.getD (n+1) .non);rw[Wv M h1<|λ_=>h2]at hX;obtain⟨ys,hF⟩:=y9 s.gl B F hbt s.sp hl hn s.gn h12 N f (A C) K Q hv;rw[<- hwq C]at hX hF;obtain⟨G3,E⟩:∃G3,m.set b (Bo (L.set k<|rgp H n v q) (rs.map Zi) m.length)++[Cl.dat .d<|Zb<|AM (L.set k<|rgp H n v q) rs gs,.dat .l ys]=G3:=#[_,rfl];rw[E]at hF;have l2:m.length+2=G3.length:=by rw[<- E];simp
   have lb2:=(BC.mp B).1;have gt:G3[m.length]?=Z (.dat .d<|Zb<|AM (L.set k<|rgp H n v q) rs gs):=by rw[<- E,Hg (by simp)];simp
   have ga:G3[a]?=Z (.dat .l<|L.map LD):=by rw[<- E,EL (by simpa using((BC.mp s2.la).1)),ZL s.ab];exact s2.la
   obtain⟨x12',G4,VZ,h4a,h4⟩:=zD (b:=b) (c:=c) (x3:=(.val V)) (x9:=.cel h) (x11:=.no) (x12:=.no) (v:=v) ga N f (A C) Q s.gl.n4;refine#[L.set k<|rgp H n v q,G4,?_,⟨s.gl.set k<|f.rgp (A C) v Q,λx hx=>?_,λr hr=>(s.sp r hr).set (λa ha=>by rw[Wt λl hl=>f.len l hl ▸ f.p1];exact ha) N,λg hm=>by rw[HR];exact s.gn g hm,h4a,⟨m.length,?_,?_,by exact BY lb2,by lia⟩,s.ab⟩,by simp]
   ·simp only[Q9,VF,VD,jC (zi B R rfl (EZ 1 v) (EZ 1 u) hX hF (show G3[m.length+1]?=Z (.dat .l ys) by rw[<- E,Hg (by simp)];simp)) rfl,VZ,jD,Zp]
   ·rcases WC hx with hx|rfl
    ·exact s.up x hx
    ·exact(s.up H<|Fn N).rgp f (A C) v Q
   ·rw[h4 b (Bv s.ab) (by lia)];exact(show G3[b]?=Z (Bo (L.set k<|rgp H n v q) (rs.map Zi) m.length) by rw[<- E,EL (by simpa using lb2)];exact DW B)
   ·rw[h4 m.length (by lia)<|place_lt gt];exact gt
  ·-- a ladder of one place: refused
   have M:=OW f (.int n) trivial;rw[show Fk p (.int n)=O' by simp[Fk];lia]at M;exact#[L,m,jI B F N R rfl (EZ 1 v) (EZ 1 u)<|RQ M,s2,rfl]
 ·obtain⟨j,hj,h5⟩:=IP (w 5) (n:=4) (by ext);by_cases j3:j=3
  ·subst j3;exact#[L,m,by erw[Ra,zy P m4 R B F s.gl s2.la rfl (EZ 1 v) (EZ 1 u) h5,Zp],s2,rfl]
  ·have hj:j<3:=by lia
   obtain⟨d,hd,e9⟩:=zz P m4 R f hj h5;obtain⟨x,y,o,e,f1,f2,f3,hX⟩:=zE (G:=m.set h<|.dat .l<|[D.int n,aD v,aD u].set j d) f K hv Q Y A hwq hj hd;refine⟨L,m.set h<|.dat .l<|[D.int n,aD v,aD u].set j d,?_,s.ext λi hi=>by rw[ZL (by lia)];exact ext i hi,rfl⟩;erw[Ra,e9,Zp];exact jI (ZL (show b≠h by lia) ▸ B) (ZL (show t≠h by lia) ▸ F) N (by rw[DW R,e]) f1 f2 f3 hX
section
variable{ls:A3}{p:Nat}(hg:GL ls p)
include hg
theorem Kc{d:D}(b:Mx d)(c:Dg d=O'):Zu [#v[ls.map Af++[d]]]=Z (.val (.bl O')):=by
 rcases V5 (ls.map Af++[d]) (λx a=>by
  rcases Cm.mp a with a|a
  ·obtain⟨l,h,rfl⟩:=Ba.mp a;exact(hg.ln l h).sml
  ·rw[CP.mp a];exact b) (by have:=hg.n6;simp;lia)with⟨_,h⟩|⟨h,_⟩
 ·exact h
 ·rw[List.all_append]at h;simp[c]at h
theorem RY{l:U At}(i:Ln l)(n:¬ (l.length=p/\hd l∉ls.map hd/\∀f∈ls,∀m a,l[m]?=Z a->f[m]?=Z a->l.drop (m+1)=f.drop (m+1))):Zu [#v[ls.map Af++[Af l]]]=Z (.val (.bl O')):=by
 have e:ls.map Af++[Af l]=(ls++[l]).map Af:=by simp
 rw[e,iW _ (by simp;have:=hg.n6;lia) λx b=>?_]
 ·cases j:IC (ls++[l])with
  |false=>rfl
  |true=>
   refine absurd ?_ n;have k:=hg.n1;cases c:ls with|nil=>rw[c]at k;simp at k|cons d r=>
    rw[c]at j;have ne:∀x∈d::(r++[l]),x≠[]:=λx b=>by
     rcases Cm.mp (show x∈(d::r)++[l]from b)with b|b
     ·exact hg.ne x<|c ▸ b
     ·rw[CP.mp b];have:=i.l1;intro e;rw[e]at this;simp at this
    obtain⟨o,g,q⟩:=(Wb d (r++[l]) ne).mp j;have g:(((d::r)++[l]).map hd).Nodup:=g;refine#[?_,?_,λf h m a s t=>(Bm.mp (show BF (((d::r)++[l]).flatMap<|DC 0)from q)) l (by simp) f (Gw _ h) m a s t]
    ·rw[o l (by simp),hg.len d<|c ▸ Bj]
    ·rw[Fw,Js]at g;exact λu=>g.2.2 _ u (hd l) (by simp) rfl
 ·rcases Cm.mp b with b|b
  ·exact hg.ln x b
  ·rw[CP.mp b];exact i
end
noncomputable abbrev GU(l:U At):U At:=if 2<l.length then l.take 2++CV (l.length-2) (.int (10^50))else l.dropLast
abbrev MN(l a:U At):U D:=[.lst (l.map aD),.non,Af (l++[.str "x"]),Af [],Af (hd a::l.drop 1),.tup (.bl J'::(l.drop 1).map aD),Af (.str "New"::l.drop 1),Af (GU l),.str "line"]
theorem zH(l:U At)(h:1<=l.length):Cu (Af l) J (Z (-1))=Z (Af l.dropLast):=by
 show Z (D.tup<|cutD (l.map aD) J<|some (-1))=_
 unfold L2.cutD;rw[show HT.sIx (l.map aD).length (l.map aD).length (Z (-1))=l.length-1 by erw[HT.sIx,A9];split<;>lia,show HT.sIx (l.map aD).length 0 J=0 from rfl,List.drop_zero,Nat.sub_zero,<- List.map_take,List.dropLast_eq_take];rfl
theorem RZ(l:U At):Cu (Af l) (Z 1) J=Z (Af (l.drop 1)):=Ww l 0
theorem zI(l:U At):Cu (Af l) J (Z 2)=Z (Af (l.take 2)):=RS l 1
theorem zJ{k:A3}{p:Nat}(z:GL k p){l:U At}(C:1<=l.length)(T:l.length<=4)(c:Int):∃j∈k,∃d∈MN l j,Ug [.val (LD k),.val (Af l),‹c›]=Z (.val d):=by
 obtain⟨i,A,E⟩:=IP (c/9) (show 0<k.length from z.n1);have s:Ap (LD k) (.int i)=Z (Af k[i]):=ZD (by rw[CW,BW A];rfl);have m:=Gf A;obtain⟨j,G⟩:∃j,k[i]=j:=#[_,rfl];rw[G]at s m;obtain⟨d,v,H⟩:=jv (MN l j) (n:=9) rfl (by ext) c;refine#[j,m,d,v,?_];have B:Zo [Af l]=Z (.int l.length):=by show Z (D.int ((l.map aD).length:Int))=_;rw[A9]
 have P:Zl (Af l) (.tup [.str "x"])=Z (Af<|l++[.str "x"]):=IL l [.str "x"] (by simp;lia);have F:Zl (.tup [aD<|hd j]) (Af<|l.drop 1)=Z (Af<|hd j::l.drop 1):=IL [hd j] (l.drop 1) (by simp;lia);have L:Zl (.tup [.str "New"]) (Af<|l.drop 1)=Z (Af<|.str "New"::l.drop 1):=IL [.str "New"] (l.drop 1) (by simp;lia);have M:Zl (.tup [.bl J']) (Af<|l.drop 1)=Z (.tup<|.bl J'::(l.drop 1).map aD):=by
  show(if [D.bl J'].length+((l.drop 1).map aD).length<=Ax then Z (D.tup<|[D.bl J']++(l.drop 1).map aD)else J)=_
  rw[if_pos<|BR (show _<=10 by simp;lia) (by ext)];rfl
 have t:D2 (.int l.length) (.int 2)=Z (.bl<|decide<|2<l.length):=by
  show Z (D.bl<|decide<|(2:Int)<(l.length:Int))=_
  congr 2;rw[decide_eq_decide];lia
 have o:Ap (.lst<|MN l j) (.int<|c%9)=Z d:=H;have N:∀q r:Sl,Qz [.val<|LD k,.val<|Af l,‹c›,q,r,.val<|Af l.dropLast]=.next [.val<|LD k,.val<|Af l,‹c›,q,r,.val<|Af<|GU l]:=λq r=>by
  unfold GU;by_cases u:2<l.length
  ·rw[decide_eq_true u]at t;rw[if_pos u];have mt:N7 (.tup [.int<|10^50]) (.int<|(l.length:Int)-2)=Z (Af<|CV (l.length-2)<|.int<|10^50):=by
    rcases(show l.length=3\/l.length=4 by lia)with h|h<;>rw[h]<;>rfl
   have w:=IL (l.take 2) (CV (l.length-2)<|.int<|10^50) (by simp;lia);rwa[Qz,B,t,Ce,Ca,(zI l),(show D1 (.int 10) (.int 50)=Z (.int<|10^50)from Lh (x:=10) (y:=50) #[by ext,by ext,by ext]),mt,w]
  ·rw[decide_eq_false u]at t;rw[if_neg u];rwa[Qz,B,t]
 refine ZF rfl ?_;show Uf [.val<|LD k,.val<|Af l,‹c›,.no,.no,.no]=_
 have K:∀a b c d e f g h i:D,Zl (.lst [a,b,c,d,e,f,g]) (.lst [h,i])=Z (.lst [a,b,c,d,e,f,g,h,i]):=λ_ _ _ _ _ _ _ _ _=>by
  show(if 7+2<=Ax then Z (D.lst _)else J)=_
  rw[if_pos (by ext)];rfl
 unfold MN at o;rw[<- (show(D.tup [])=Af []from rfl)]at o;have Q:∀q r:Sl,Ue [.val<|LD k,.val<|Af l,‹c›,q,r,.no]=.next [.val<|LD k,.val<|Af l,‹c›,q,r,.val<|Af l.dropLast]:=λq r=>by
  rwa[Ue,Ce,Ca,(zH l C)]
 rwa[Uf,dh,c0,JY c 9 (by ext) (by ext),(Kb k),E,s,dg,c3,El,(show FR [Af l]=Z (l.map aD)from rfl),P,Ce,Ca,(RZ l),(Wp<|z.ln j m),F,M,L,show Zf (Z ([]:U D))=Z []from rfl,show ∀a b c d e f g:D,Zf (Z [a,b,c,d,e,f,g])=Z [a,b,c,d,e,f,g]from λ_ _ _ _ _ _ _=>Zx _ (by simp),df,Q,db,N,c9,c5,K,c7,c6,Dn c 9 (by ext),o]
theorem zK{n:A3}{p:Nat}(c:GL n p){e:U At}(g:e∈n){N:Int}{l:U At}(w:l=.int N::e.drop 1){f:U At}(y:f∈n){d:D}(o:d∈MN l f):Zu [#v[n.map Af++[d]]]=Z (.val (.bl O'))/\AX 1 d=J':=by
 have C:=c.p1;have z:=c.p4;have H:=c.len e g;have q:l.length=p:=by rw[w,CT,N2];lia
 have r:∀a∈e,Cz (aD a)=J'/\Sm (aD a):=λa b=>#[(c.val e g a b).1,(c.val e g a b).2.1];have j:∀a∈l.drop 1,Cz (aD a)=J'/\Sm (aD a):=λa b=>r a<|Rm<|(show l.drop 1=e.drop 1 by rw[w];rfl) ▸ b;have m:∀a∈l,Cz (aD a)=J'/\Sm (aD a):=λa b=>by
  rw[w]at b;rcases Bz.mp b with rfl|b
  ·exact#[rfl,trivial]
  ·exact r a<|Rm b
 erw[MN,Bz,Hn,or_false]at o;rcases o with rfl|rfl|rfl|rfl|rfl|rfl|rfl|rfl|rfl
 ·exact#[Kc c trivial rfl,by
   show(!vk 1 .l&&CM 1 (l.map aD))=J'
   rw[Gj λd hd=>by obtain⟨a,_,rfl⟩:=Ba.mp hd;exact EZ 1 a];rfl]
 ·exact#[Kc c trivial rfl,rfl]
 ·refine#[?_,(DV 1) _];have i:Cz (aD<|.str "x")=J'/\Sm (aD<|.str "x"):=#[by decide +kernel,by show F9 _<=100;decide +kernel];have s:∀a∈l++[At.str "x"],Cz (aD a)=J'/\Sm (aD a):=λa b=>by
   rcases Cm.mp b with b|b
   ·exact m a b
   ·rw[CP.mp b];exact i
  by_cases K:p=4
  ·refine Kc c #[by simp;lia,λx i=>by obtain⟨a,b,rfl⟩:=Ba.mp i;exact(s a b).2] ?_;show(decide (1<=((l++[At.str "x"]).map aD).length)&&decide (((l++[At.str "x"]).map aD).length<=4)&&_)=O'
   rw[decide_eq_false (p:=((l++[At.str "x"]).map aD).length<=4) (by simp;lia)];simp
  ·exact RY c #[by simp,by simp;lia,s] λh=>by have:=h.1;simp at this;lia
 ·exact#[Kc c #[by simp,λ_ h=>nomatch h] rfl,rfl]
 ·refine#[RY c #[by simp,by simp;exact le_of_eq_of_le q z,λa b=>?_] λh=>h.2.1 (show hd f∈n.map hd from Ry y),(DV 1) _];rcases Bz.mp b with rfl|b
  ·have:=c.val f y (hd f)<|iJ<|c.ln f y;exact⟨this.1,this.2.1⟩
  ·exact j a b
 ·refine#[Kc c #[by simp;lia,λx i=>?_] ?_,?_]
  ·rcases Bz.mp i with rfl|i
   ·trivial
   ·obtain⟨a,b,rfl⟩:=Ba.mp i;exact(j a b).2
  ·simp[Dg,Cz,Ee,Bq]
  ·exact Gj λd hd=>by
    rcases Bz.mp hd with rfl|hd
    ·rfl
    ·obtain⟨a,_,rfl⟩:=Ba.mp hd;exact EZ 1 a
 ·refine#[Kc c #[by simp;lia,λx i=>?_] ?_,(DV 1) _]
  ·obtain⟨a,b,rfl⟩:=Ba.mp i;rcases Bz.mp b with rfl|b
   ·show F9 _<=100;decide +kernel
   ·exact(j a b).2
  ·have:Cz (aD<|.str "New")=O':=by decide +kernel
   show(_&&(Cz (aD<|.str "New")&&_))=O'
   rw[this];simp
 ·refine#[?_,(DV 1) _];unfold GU;split
  ·next B=>
   have E:∀a∈l.take 2++CV (l.length-2) (At.int<|10^50),Cz (aD a)=J'/\Sm (aD a):=λa b=>by
    rcases Cm.mp b with b|b
    ·exact m a<|Wc b
    ·rw[(List.mem_replicate.mp b).2];exact#[rfl,trivial]
   refine RY c #[by simp;lia,by simp;lia,E] λh=>?_;have t:1<e.length:=by lia
   have G:(l.take 2++CV (l.length-2) (At.int<|10^50))[1]?=Z e[1]:=by
    rw[EL (by simp;lia),XE (by ext),w,C0,Jg];exact BW t
   have A:=congrArg (λk=>k[0]?) (h.2.2 e g 1 e[1] G<|BW t);have u:2<e.length:=by lia
   erw[Jg]at A;rw[Hg (by simp;exact Nat.min_le_left 2 l.length),IY,BW (show 2+0<e.length from u),show 2+0-min 2 l.length=0 by lia,HP,if_pos<|Nat.zero_lt_sub_of_lt B]at A;have:=(c.val e g _<|Gf u).2.2 (10^50) (FE A).symm;lia
  ·next B=>
   by_cases F:p=1
   ·have:l.dropLast=[]:=by
     have:l.dropLast.length=0:=by rw[WK];lia
     exact No.mp this
    rw[this];exact Kc c #[by simp,λ_ h=>nomatch h] rfl
   ·exact RY c #[by rw[WK];lia,by rw[WK];lia,λa b=>m a<|(List.dropLast_sublist l).mem b] λh=>by have:=h.1;rw[WK]at this;lia
 ·exact#[Kc c (by show F9 _<=100;decide +kernel) rfl,rfl]
noncomputable abbrev gS(b a:Nat)(c:Int)(x3 x4 x5 x6 x7 x8:IV):U IV:=[.cel b,.cel a,‹c›,x3,x4,x5,x6,x7,x8]
noncomputable def E1(N:Int)(p:Nat):U At:=(BB p).map λj:Nat=>.int (N+100*(j:Int))
section
variable{G:Gh}{b a:Nat}{c:Int}{L:AT}{ls:A3}{p k:Nat}{V:D}{w:Nat->Int}{N:Int}
theorem zL(c:Int):∃V w,St 6 V w/\∀G b a x3 x4 x5 x6 x7 x8,VJ (gS b a c x3 x4 x5 x6 x7 x8,G)=.next (gS b a c (.val V) x4 x5 x6 x7 x8,G):=by
 obtain⟨V,w,h,e⟩:=jz c (n:=6) (by ext) (by ext);exact#[V,w,h,by intros;rwa[VJ,show ZR [‹c›,‹6›]=_ from e]]
theorem zM(f:St 6 V w)(h:Cb L)(d:G[a]?=Z (.dat .l (L.map LD))):∃k,k<L.length/\∀b c x4 x5 x6 x7 x8,VL (gS b a c (.val V) x4 x5 x6 x7 x8,G)=.next (gS b a c (.val V) ‹k› x5 x6 x7 x8,G):=by
 obtain⟨k,g,e⟩:=IP (w 0) h.n1;exact#[k,g,by intros;rwa[VL,Hb d,f.i0,RX,e]]
theorem zN(d:G[a]?=Z (.dat .l (L.map LD)))(e:L[k]?=Z ls):VM (gS b a c x3 ‹k› x5 x6 x7 x8,G)=.next (gS b a c x3 ‹k› (.val (LD ls)) x6 x7 x8,G):=by
 have i:=jA e;have f:=J9 ls;rwa[VM,Ka d,i,f]
theorem zO:VN (gS b a c x3 x4 (.val (LD ls)) x6 x7 x8,G)=.next (gS b a c x3 x4 (.val (LD ls)) ‹10^45+(ls.length:Int)› x7 x8,G):=by
 have d:D1 (.int 10) (.int 45)=Z (.int<|10^45):=Lh (x:=10) (y:=45) #[by ext,by ext,by ext];have e:=Kb ls;rwa[VN,d,e]
theorem zP(h:St 6 V w)(d:GL ls p):∃l∈ls,∀G b a c x4 N x7 x8,VO (gS b a c (.val V) x4 (.val (LD ls)) ‹N› x7 x8,G)=.next (gS b a c (.val V) x4 (.val (LD ls)) ‹N› (.val (Af (.int N::l.drop 1))) x8,G):=by
 obtain⟨l,g,i,e,i2⟩:=WI d<|w 1;refine⟨l,g,λG b a c x4 N x7 x8=>?_⟩;have m:=d.len l g;have n:=d.p4;have j:=Kb ls;have k:=RZ l;have ad:Zl (.tup [.int N]) (Af<|l.drop 1)=Z (Af<|.int N::l.drop 1):=IL [.int N] (l.drop 1) (by simp;lia);have f:=DV 2<|.int N::l.drop 1;rwa[VO,h.i1,j,e,i2,Ce,Ca,k,ad,f]
theorem zQ{l:U At}(k:l.length=p)(u:p<=4)(g:St 6 V w):Mu (gS b a c (.val V) x4 x5 ‹N› (.val (Af l)) x8,G)=.next (gS b a c (.val V) x4 x5 ‹N› (.val (Af l)) x8,G)\/Mu (gS b a c (.val V) x4 x5 ‹N› (.val (Af l)) x8,G)=.next (gS b a c (.val V) x4 x5 ‹N› (.val (Af (E1 N p))) x8,G):=by
 obtain⟨m,v,e⟩:=IP (w 2) (n:=5) (by ext);have h:Zs (.int<|w 2) (.int 5)=Z (.int m):=e;have eq:=JZ (m:Int) 0;by_cases i:(m:Int)=0
 ·right;rw[decide_eq_true i]at eq;have o:Zo [Af l]=Z (.int p):=by show Z (D.int ((l.map aD).length:Int))=_;rw[A9,k]
  have q:=Zw (b:=Zc 0) (e:=VI) (ρ:=[.no,‹N›]) (λ(j:Nat)=>D.int j) (λj=>D.int<|N+100*(j:Int)) (BB p) λj _=>#[[‹j›,‹N›],rfl,by
   have r:=G0 (x:=100) (y:=(j:Int)) (by left;decide);rwa[VI,r]]
  have s:=Zx ((BB p).map λ(j:Nat)=>D.int j) (by simp;lia);have t:Em [.lst ((BB p).map λj:Nat=>D.int<|N+100*(j:Int))]=Z (Af<|E1 N p):=by
   have:(E1 N p).map aD=(BB p).map λj:Nat=>D.int (N+100*(j:Int)):=by unfold E1;rw[Cp];rfl
   show Z (D.tup _)=Z (D.tup<|(E1 N p).map aD)
   rw[this]
  have f:=DV 2<|E1 N p;have d:∀A B C E F H:Sl,Zq 1 [6] [A,B,C,E,F,H,‹N›,.val<|Af l,DJ 2 G x8]=[.no,‹N›]:=λ_ _ _ _ _ _=>rfl;rwa[Mu,g.i2,h,eq,Zk,o,Mj p (by lia),s,d,q,t,f]
 ·left;rw[decide_eq_false i]at eq;rwa[Mu,g.i2,h,eq]
theorem zR(g:GL ls p):OD (gS b a c x3 x4 (.val (LD ls)) x6 x7 x8,G)=if ls.length=40 then .next (gS b a c x3 x4 (.val (LD ls)) x6 x7 (.val (B6 2)),G)else .next (gS b a c x3 x4 (.val (LD ls)) x6 x7 x8,G):=by
 have d:=Kb ls;have eq:=JZ (ls.length:Int) 40;have e:ZJ [‹2›]=Z (.val<|B6 2):=ML 2;by_cases f:ls.length=40
 ·rw[decide_eq_true (by lia)]at eq;rw[if_pos f];rwa[OD,d,eq,e]
 ·rw[decide_eq_false (by lia)]at eq;rw[if_neg f];rwa[OD,d,eq]
end
theorem WL{l:U At}(h:1<=l.length):l[0]?=Z (hd l):=by
 cases l with
 |nil=>simp at h
 |cons a r=>rfl
theorem jJ{c:A3}{p:Nat}(g:GL c p)(u:Up c){l:U At}(k:l∈c):NL c p (.int (10^45+(c.length:Int))::l.drop 1)/\∀(j:Nat)(i:Int),(At.int (10^45+(c.length:Int))::l.drop 1)[j]?=Z (.int i)->i<10^45+(c.length:Int)+1+100*(j:Int):=by
 have n:=g.p1;have e:=g.len l k;have h:∀f∈c,f[0]?≠Z (.int<|10^45+(c.length:Int)):=λf b z=>by have:=u f b 0 _ z;lia
 refine#[#[by rw[CT,N2];lia,λa o=>?_,λs=>?_,λf b m a q r=>?_],λj i z=>?_]
 ·rcases Bz.mp o with rfl|o
  ·refine#[rfl,trivial,λi z=>.inr ?_];have:=g.n6;cases z;lia
  ·exact g.val l k a<|Rm o
 ·obtain⟨f,b,z⟩:=Ba.mp s;exact h f b (by rw[WL<|g.len f b ▸ n,z];rfl)
 ·cases m with|zero=>cases q;exact absurd r<|h f b|succ m=>
   rw[C0,Jg]at q;have d:=(Bm.mp g.fn) l k f b (m+1) a (by rw[Nat.add_comm];exact q) r;rw[List.drop_succ_cons,List.drop_drop,<- d];congr 1;exact Nat.add_comm 1<|m+1
 ·cases j with|zero=>cases z;lia|succ j=>
   rw[C0,Jg]at z;have:=u l k (1+j) i z;lia
theorem zS{c:A3}{p:Nat}(g:GL c p)(u:Up c):NL c p (E1 (10^45+(c.length:Int)) p)/\∀(j:Nat)(i:Int),(E1 (10^45+(c.length:Int)) p)[j]?=Z (.int i)->i<10^45+(c.length:Int)+1+100*(j:Int):=by
 have q:=g.p4;have n:∀(m:Nat) (a:At),(E1 (10^45+(c.length:Int)) p)[m]?=Z a->m<p/\a=.int (10^45+(c.length:Int)+100*(m:Int)):=λm a e=>by
  unfold E1 at e;rw[CW]at e;obtain⟨j,r,rfl⟩:=BN.mp e;obtain⟨h,o⟩:=BC.mp r;rw[List.getElem_range]at o;subst o;exact#[by simpa using h,rfl]
 have k:∀d∈c,∀m:Nat,d[m]?≠Z (.int<|10^45+(c.length:Int)+100*(m:Int)):=λd b m z=>by have:=u d b m _ z;lia
 have f:(E1 (10^45+(c.length:Int)) p).length=p:=by unfold E1;simp
 refine#[#[f,λa s=>?_,λt=>?_,λd b m a v w=>?_],λj i z=>?_]
 ·obtain⟨m,h,o⟩:=List.mem_iff_getElem.mp s;obtain⟨y,rfl⟩:=n m a (by rw[BW h,o]);refine#[rfl,trivial,λi z=>.inr ?_];have:=g.n6;cases z;lia
 ·obtain⟨d,b,z⟩:=Ba.mp t;have x:=WL (l:=E1 (10^45+(c.length:Int)) p) (f ▸ g.p1);obtain⟨_,h⟩:=n 0 _ x;exact k d b 0 (by rw[WL<|g.len d b ▸ g.p1,z,h])
 ·obtain⟨_,rfl⟩:=n m a v;exact absurd w<|k d b m
 ·obtain⟨_,e⟩:=n j _ z;cases e;lia
section
variable{G:Gh}{b a t:Nat}{c:Int}{L:AT}{R T:U D}{ls:A3}{p k:Nat}{V:D}{w:Nat->Int}
theorem jK(d:St 6 V w)(h:Zs (.int (w 3)) (.int 2)=Z (.int 0)\/∃m:Nat,m≠0/\Zs (.int (w 3)) (.int 2)=Z (.int 1)/\Zs (.int (w 4)) (.int 4)=Z (.int m)):Mv (gS b a c (.val V) x4 x5 x6 x7 x8,G)=.next (gS b a c (.val V) x4 x5 x6 x7 x8,G):=by
 rcases h with h|⟨m,e,h,f⟩
 ·rwa[Mv,d.i3,h]
 ·have eq:=JZ (m:Int) 0;rw[decide_eq_false<|Int.ofNat_ne_zero.mpr e]at eq;rwa[Mv,d.i3,h,d.i4,f,eq]
theorem zT(i:G[b]?=Z (Bo L R t))(j:G[t]?=Z (.dat .d T))(e:Cb L)(f:G[a]?=Z (.dat .l (L.map LD))){l:U At}(g:St 6 V w)(h:Zs (.int (w 3)) (.int 2)=Z (.int 1))(m:Zs (.int (w 4)) (.int 4)=Z (.int 0)):Mv (gS b a c (.val V) x4 x5 x6 (.val (Af l)) x8,G)=.ret (.val (.bl J')) G:=by
 have n:ZJ [‹0›]=Z (.val<|B6 0):=ML 0;obtain⟨d,hd,o⟩:=WH (w 5) (.int L.length)<|.int (-1);have sm:=RV (a:=.int L.length) (b:=.int (-1)) trivial trivial hd;have p:=WG (a:=d) i (k:=0) (.inl #[rfl,rfl]) (DV 1 l) (za i j (x:=Af l) sm.1 (jw e.n4 hd));have q:=jn 0;have r:AX 1 (.lst [Af l])=J':=by show(!vk 1 .l&&(AX 1 (Af l)&&J'))=J';rw[DV 1 l];rfl
 rwa[Mv,Ka f,g.i3,h,g.i4,m,g.i5,RX,o,sm.2 rfl rfl,r,D7,p,n,Fz,q,C8]
theorem zU(d:St 6 V w)(h:Zs (.int (w 3)) (.int 2)=Z (.int 0)):OE (gS b a c (.val V) x4 x5 x6 x7 x8,G)=.next (gS b a c (.val V) x4 x5 x6 x7 x8,G):=by
 rwa[OE,d.i3,h]
theorem zV(f:GL ls p)(j:St 6 V w)(h:Zs (.int (w 3)) (.int 2)=Z (.int 1)){N:Int}{l:U At}(k:l=.int N::l.drop 1):∃d,Zu [#v[ls.map Af++[d]]]=Z (.val (.bl O'))/\AX 1 d=J'/\OE (gS b a c (.val V) x4 (.val (LD ls)) x6 (.val (Af l)) x8,G)=.next (gS b a c (.val V) x4 (.val (LD ls)) x6 (.val d) (.val (B6 1)),G):=by
 obtain⟨e,g,m,_⟩:=OY f;have n:=f.len e g;have i:=f.p4;obtain⟨o,q,d,hd,r⟩:=zJ f (l:=.int N::e.drop 1) (by simp) (by simp;exact le_of_eq_of_le n i) (w 5);obtain⟨s,t⟩:=zK f g rfl q hd;refine#[d,s,t,?_];have u:ZJ [‹1›]=Z (.val<|B6 1):=ML 1;have x:Cu (Af l) J (Z 1)=Z (Af [.int N]):=k ▸ RS _ 0;have y:=RZ e;have ad:Zl (Af [.int N]) (Af<|e.drop 1)=Z (Af<|.int N::e.drop 1):=IL [.int N] (e.drop 1) (by simp;lia);rwa[OE,j.i3,h,Ce,Ca,x,m,y,ad,j.i5,r,u]
theorem WM{d e x:D}(f:AX 1 x=J')(g:ZK [.cel b,‹1›,.val d,#v[[x]]] G=Z (.val e,G'))(h:CK e e=Z (.bl O')):VP (gS b a c x3 (.val d) x5 x6 (.val x) (.val e),G)=.next (gS b a c x3 (.val d) x5 x6 (.val x) (.val e),G'):=by
 rwa[VP,show AX 1 (.lst [x])=J' by show(!vk 1 .l&&(AX 1 x&&J'))=J';rw[f];rfl,D7,g,Fz,h,Gn,HB];rfl
theorem jM(j:Nat):OG (gS b a c x3 x4 x5 x6 x7 (.val (B6 j)),G)=.next (gS b a c x3 x4 x5 x6 x7 (.val (B6 j)),G):=by
 have i:GZ (B6 j) (.bl J')=Z (.bl O'):=rfl;rwa[OG,i]
theorem zW(d:G[a]?=Z (.dat .l (L.map LD)))(e:k<L.length)(f:ls.length<=40){l:U At}:OG (gS b a c x3 ‹k› (.val (LD ls)) x6 (.val (Af l)) (.val (.bl J')),G)=.next (gS b a c x3 ‹k› (.val (LD ls)) x6 (.val (Af l)) (.val (.bl J')),G.set a (.dat .l ((L.set k (ls++[l])).map LD))):=by
 have ad:Zl (LD ls) (.lst [Af l])=Z (LD<|ls++[l]):=by
  show(if(ls.map Af).length+[Af l].length<=Ax then Z (D.lst<|ls.map Af++[Af l])else J)=_
  rw[if_pos<|BR (show _<=100 by simp;lia) (by ext)];simp[LD]
 have g:CG ((L.map LD).map IV.val).length (k:Int)=Z k:=by
  erw[CG,A9];rw[if_pos<|JJ k,if_pos<|MB.mpr e];rfl
 rw[List.map_set];rwa[OG,show GZ (.bl J') (.bl J')=Z (.bl J')from rfl,ad,Gp,d,show HC (.dat .l<|L.map LD)=Z ((L.map LD).map IV.val)from rfl,g,show ∀A:D,setIt (.dat .l<|L.map LD) k (.val A)=.dat .l ((L.map LD).set k A)from λ_=>rfl]
end
theorem zX{N:Int}{p:Nat}(a:1<=p):E1 N p=.int N::(E1 N p).drop 1:=by
 obtain⟨q,rfl⟩:∃q,p=q+1:=#[p-1,by exact(Nat.sub_eq_iff_eq_add a).mp rfl];unfold E1;rw[List.range_succ_eq_map,Be];simp
theorem jN(j:Nat):CK (B6 j) (B6 j)=Z (.bl O'):=by
 have:=Np 12 _<|MM j;simp_all [MM]
theorem zY{rs:U Row}{b a:Nat}{L:AT}{G:Gh}(s:ST rs gs b a L G)(c:Int):∃z G',VS [.cel b,.cel a,‹c›] G=Z (.val (.bl J'),G')/\ST rs gs b a z G'/\z.length=L.length:=by
 obtain⟨t,H,Y,Q,T⟩:=s.bk;suffices h:∃z G',VR (gS b a c .no .no .no .no .no .no,G)=.ret (.val<|.bl J') G'/\ST rs gs b a z G'/\z.length=L.length by
  obtain⟨z,G',e,r⟩:=h;exact#[z,G',F4 (fi rfl (show fT (gS b a c .no .no .no .no .no .no,G)=_ from e)) rfl,r]
 obtain⟨V,w,E,e0⟩:=zL c;obtain⟨k,hk,e1⟩:=zM E s.gl s.la;obtain⟨f,R⟩:∃f,L[k]?=Z f:=#[_,BW hk];obtain⟨p,q⟩:=s.gl.good f<|Fn R;have u:=s.up f<|Fn R;obtain⟨l0,hl0,e4⟩:=zP E q;have A:=jJ q u hl0;have B:=zS q u;have ua:=λl=>u.app (l:=l);obtain⟨N,hN⟩:∃N:Int,10^45+(f.length:Int)=N:=#[_,rfl];rw[hN]at A B ua;obtain⟨l,o,hup,F,e5⟩:∃l,NL f p l/\(∀(j:Nat) (i:Int),l[j]?=Z (.int i)->i<N+1+100*(j:Int))/\l=.int N::l.drop 1/\Mu (gS b a c (.val V) ‹k› (.val<|LD f) ‹N› (.val<|Af<|.int N::l0.drop 1) .no,G)=.next (gS b a c (.val V) ‹k› (.val<|LD f) ‹N› (.val<|Af l) .no,G):=(zQ A.1.len q.p4 E).elim (λe=>#[_,A.1,A.2,rfl,e]) λe=>#[_,B.1,B.2,zX q.p1,e];obtain⟨y,y1,y2,e7⟩:∃y:IV,(f.length=40->y=.val (B6 2))/\(f.length≠40->y=.val (.bl J'))/\OD (gS b a c (.val V) ‹k› (.val<|LD f) ‹N› (.val<|Af l) (.val<|.bl J'),G)=.next (gS b a c (.val V) ‹k› (.val<|LD f) ‹N› (.val<|Af l) y,G):=by
  rw[zR q];by_cases C:f.length=40
  ·exact#[_,λ_=>rfl,λh=>absurd C h,if_pos C]
  ·exact#[_,λh=>absurd h C,λ_=>rfl,if_neg C]
 rwa[VR,e0,fS,e1,fR,zN s.la R,fQ,zO,hN,fP,e4,fO,e5,fN,fK,show AX 2 (.bl J')=J' from rfl,fM,e7,fL];have v:=λx=>zc H Y R (x:=x);have n6:=q.n6;have fl:=DV 1 l;have P:∀{d b'},_->_:=λ{d b'}=>yO (M:=f.map Af) (d:=d) (G:=G) (b:=b') (by rw[A9];lia);have good:∃z G',OH (gS b a c (.val V) ‹k› (.val<|LD f) ‹N› (.val<|Af l) y,G)=.ret (.val<|.bl J') G'/\ST rs gs b a z G'/\z.length=L.length:=by
  have P:=P<|q.goes o;rw[if_pos rfl,A9]at P;have v:=v<|Af l;rw[show LD f=.lst (f.map Af)from rfl,P]at v;by_cases C:f.length=40
  ·rw[if_pos (by lia)]at v;rw[y1 C];refine#[L,G,?_,s,rfl];simp only[OH,Re,Rb,WM fl (WG (a:=.int k) H (k:=2) (.inr<|.inr ⟨rfl,rfl⟩) fl v) (jN 2),jM,Zp];rfl
  ·rw[if_neg (by lia)]at v;rw[y2 C];have ga:(G.set b<|Bo (L.set k<|f++[l]) (rs.map Zi) t)[a]?=Z (.dat .l<|L.map LD):=by rw[ZL s.ab];exact s.la
   refine#[L.set k<|f++[l],(G.set b<|Bo (L.set k<|f++[l]) (rs.map Zi) t).set a<|.dat .l<|(L.set k<|f++[l]).map LD,?_,⟨s.gl.set k<|q.app (Nat.lt_of_le_of_ne n6 C) o.len o.val o.hdn o.fn,λx hx=>?_,λr hr=>(s.sp r hr).set (λa ha=>Fw ▸ Gw _ ha) R,λg hm=>by rw[HR];exact s.gn g hm,DW ga,⟨t,?_,?_,Q,T⟩,s.ab⟩,by simp]
   ·simp only[OH,Re,Rb,WM fl (zh (a:=.int k) H fl v (jh H Y s.gl R q (Nat.lt_of_le_of_ne n6 C) o)) rfl,zW ga hk n6,Zp];rfl
   ·rcases WC hx with hx|rfl
    ·exact s.up x hx
    ·exact ua _ hup
   ·rw[ZL<|Bv s.ab];exact DW H
   ·rw[ZL<|Bv T,ZL<|Bv Q,jj R s.sp];exact Y
 rcases WJ (w 3)with K|K
 ·rwa[jK E<|.inl K,VQ,zU E K];exact good
 ·obtain⟨m,hm,e⟩:=IP (w 4) (n:=4) (by ext);by_cases m0:m=0
  ·subst m0;refine#[L,G,?_,s,rfl];rwa[zT H Y s.gl s.la E K e]
  ·obtain⟨d,g1,g2,e9⟩:=zV (G:=G) (b:=b) (a:=a) (c:=c) (x4:=‹k›) (x6:=‹N›) (x8:=y) q E K F;rwa[jK E<|.inr ⟨m,m0,K,e⟩,VQ,e9];have v:=v d;rw[show LD f=.lst (f.map Af)from rfl,P g1]at v;refine#[L,G,?_,s,rfl];simp only[OH,Re,Rb,WM g2 (WG (a:=.int k) H (k:=1) (.inr<|.inl ⟨rfl,rfl⟩) g2 v) (jN 1),jM,Zp];rfl
theorem zZ(rs:U Row)(r:Row)(d:rs.length<100){G:Gh}{n:Nat}(h:G[n]?=Z (.dat .l (rs.map Zi))):T5 [.cel n,.val (Zi r)] G=Z (.val .non,G.set n (.dat .l ((rs++[r]).map Zi))):=by
 have b:Nn (.int ((rs.map Zi).length:Int)) (.int 200)=Z (.bl O'):=by
  show Z (D.bl<|decide<|(200:Int)<=((rs.map Zi).length:Int))=_
  grind [A9]
 have c:(rs.map Zi).length<Ax:=by rw[A9];exact BX (show rs.length<1000 by lia) (by ext)
 have a:Zo [.lst<|rs.map Zi]=Z (.int ((rs.map Zi).length:Int)):=rfl;rw[Fw,Be,Dh];generalize rs.map Zi=R,Zi r=f at *;have e:T4 ([.cel n,.val f],G)=.next ([.cel n,.val f],G.set n<|.dat .l<|R++[f]):=by
  rwa[T4,Hb h,a,b,K1,h,if_pos c,D6]
 exact F4 (fi rfl e) rfl
theorem jP(r:Row):AX 2 (Zi r)=J':=by
 show(AX 2 (Af r.1)&&(AX 2 (.int r.2)&&J'))=J'
 rw[DV];rfl
theorem jQ(rs:U Row):CM 2 (rs.map Zi)=J':=Gj λd hd=>by obtain⟨r,_,rfl⟩:=Ba.mp hd;exact jP r
def EH(r:Row):D:=J5 (J',r)
theorem z6{L:AT}(h:Cb L)(a b:IV)(rs:U Row)(c:rs.length<100)(r:Row)(d:A1 L r.1){G:Gh}{n:Nat}(e:G[n]?=Z (.dat .l (rs.map Zi))):Q6 ([#v[L.map LD],a,b,.cel n,.val (EH r)],G)=.next ([#v[L.map LD],a,b,.cel n,.val (EH r)],G.set n (.dat .l ((rs++[r]).map Zi))):=by
 unfold Q6;rwa[show Q3 [#v[L.map LD],.val<|EH r]=Z (.val<|.bl J')from yy h (J',r) d,F2,show Ap (EH r) (.int 0)=Z (IK J')from rfl,show Ap (EH r) (.int 1)=Z (Af r.1)from rfl,show Ap (EH r) (.int 2)=Z (.int r.2)from rfl,yx J',show D.tup [Af r.1,.int r.2]=Zi r from rfl,jP r,D7,zZ rs r c e,D6]
theorem jR{L:AT}(h:Cb L)(c d:IV){n:Nat}:∀(a rs:U Row)(e:IV)(G:Gh),rs.length+a.length<100->(∀r∈a,A1 L r.1)->G[n]?=Z (.dat .l (rs.map Zi))->∃b,EW 4 Q6 (a.map EH) ([#v[L.map LD],c,d,.cel n,e],G)=.next ([#v[L.map LD],c,d,.cel n,b],G.set n (.dat .l ((rs++a).map Zi)))
 |[],rs,e,G,_,_,f=>#[e,by rw[DO,jF f];rfl]
 |r::a,rs,e,G,g,i,f=>by
  erw[CT]at g;obtain⟨b,j⟩:=jR h c d a (rs++[r]) (.val<|EH r) (G.set n<|.dat .l<|(rs++[r]).map Zi) (by simp;lia) (λq k=>i q<|BG _ k) (DW f);refine⟨b,?_⟩;rw[List.set_set,NK]at j;erw[Be,EW,Fg,EX,z6 h c d rs (C7 g) r (i r Bj) f];exact j
theorem ZvB{L:AT}(h:Cb L)(a:U Row)(d:a.length<64)(c:∀r∈a,A1 L r.1)(G:Gh):Vo [#v[L.map LD],#v[[]],#v[a.map EH]] G=Z (#v[(ZB B5 a).map Zi],G++[.dat .l (a.map Zi)]):=by
 obtain⟨k,e⟩:=jR h #v[[]] #v[a.map EH] (n:=G.length) a [] .no (G++[.dat .l []]) (by simp;lia) c (show(G++[Cl.dat .l []])[G.length]?=Z (.dat .l<|([]:U Row).map Zi) by simp);rw[D8,show(G++[Cl.dat .l []]).set G.length (.dat .l<|a.map Zi)=G++[.dat .l<|a.map Zi] by simp]at e;have m:=h.n4;have f:=yC a d λr g=>by have:=(c r g).len;lia
 have b:DJ 2 (G++[.dat .l<|a.map Zi]) (.cel G.length)=#v[a.map Zi]:=Hb (by simp);have i:=jQ<|ZB B5 a;generalize L.map LD=o,a.map EH=C,a.map Zi=W,(ZB B5 a).map Zi=Y at *;suffices j:Vn ([#v[o],#v[[]],#v[C],.no,.no],G)=.ret #v[Y] (G++[.dat .l W])from F4 (fi rfl j) rfl
 rwa[Vn,ft,fg,El,show FR [.lst []]=Z []from rfl,jG,jL,show CM 2 []=J' from rfl,xC,fq,fh,Mc,Ir,e,fm,fj,b,KS,f,i,xF,C8]
theorem ZzG{L:AT}(h:Cb L)(W:Cl):Vj [.cel 1,#v[L.map LD]] [W,.mix (.i [] "Book") []]=Z (.val .non,[W,Bo L [] 2,.dat .d (Zb (AM L [] [zg L]))]):=by
 have g:=h.al;have j:=hE h;have f:=jb h [] (λ_ h=>nomatch h) (by ext) [zg L] (by simp) (by simp) (by simp);rw[Dh,Be,Dh,<- i8]at f;have k:=Zw (b:=Zc 0) (e:=eI) (ρ:=[.no]) LD LD L λl _=>#[[.val<|LD l],rfl,rfl];have m:=Zx (L.map LD) (by have:=h.n4;simp;lia);have n:=IN L;have o:=Wz L [] [zg L];have p:Cr "Book" "axes" (.lst [.lst<|L.map LD,.lst []]<|.i ["axes","standing"] "Book")=Z (.lst<|L.map LD):=rfl;generalize Zb (AM L [] [zg L])=TT at *;generalize c:L.map LD=a at *;suffices e:Q1 ([.cel 1,#v[a]],[W,.mix (.i [] "Book") []])=.next ([.cel 1,#v[a]],[W,.mix kB [#v[a],#v[[]],.cel 2],.dat .d TT])from by
  show(match Q1 ([.cel 1,#v[a]],[W,.mix (.i [] "Book") []])with | .ret x q=>Z (x,q) | .next s=>Z (.val .non,s.2)|_=>J)=_
  rw[e,<- c]
 rwa[Q1,eT,eJ,g,F2,eS,eK,Zk,show ∀V:Sl,Zq 1 [] [V,#v[a]]=[.no]from λ_=>rfl,m,k,jG,jL,n,xF,FY,and_self,true_and,putN,DB,show(0:Nat)<1000 by ext];rwa[eR,eM,show Zf (Z ([]:U D))=Z []from rfl,jG,jL,show CM 2 []=J' from rfl,xF,FY,HD,true_and,show(1:Nat)<1000 by ext,show L2.putN "standing" ["axes"]=(["axes","standing"]:U Ae) by decide +kernel,show ∀x y:IV,DB "standing" y ["axes"] [x]=[x,y]from λx y=>by erw[DB,if_neg (show ¬ ("axes":Ae)="standing" by decide +kernel)],eQ,eO,show DJ 1 [W,.mix (.i ["axes","standing"] "Book") [#v[a],#v[[]]]] (.cel 1)=.val (.lst [.lst a,.lst []]<|.i ["axes","standing"] "Book")from rfl,Jm,p,j,f,SF,o,xC,HZ,D8,FZ,show(2:Nat)<1000 by ext,show L2.putN "tables" ["axes","standing"]=(["axes","standing","tables"]:U Ae) by decide +kernel,show ∀x y z:IV,DB "tables" z ["axes","standing"] [x,y]=[x,y,z]from λx y z=>by erw[DB,if_neg (show ¬ ("axes":Ae)="tables" by decide +kernel),if_neg (show ¬ ("standing":Ae)="tables" by decide +kernel)],eP]
theorem ZAw:Eg.contains "pour"=O':=by decide +kernel
theorem Zzr{L:AT}(h:Cb L)(a:U Row)(m:∀r∈a,A1 L r.1)(n:a.length<64){G:Gh}{b t:Nat}(c:G[b]?=Z (Bo L [] t))(o:G[t]?=Z (.dat .d (Zb (AM L [] [zg L]))))(f:b≠t):∃j t' G',Vt [.cel b,#v[a.map EH]] G=Z (.cel j,G')/\G'[b]?=Z (Bo L ((ZB B5 a).map Zi) t')/\G'[t']?=Z (.dat .d (Zb (AM L (ZB B5 a) [zg L])))/\G.length<=t'/\∀i,i≠b->i<G.length->G'[i]?=G[i]?:=by
 have u:=ZvB h a n m G;have p:=(BC.mp c).1;obtain⟨q,e⟩:=jd h h rfl (rs:=[]) (rs':=ZB B5 a) (λ_ h=>nomatch h) (λr B=>m r<|(ZO B5 _).mem_iff.mp B) (by rw[(ZO B5 _).length_eq];simpa using n) (gs:=[zg L]) (by simp) (by simp) (by simp) (DW<|HG c) (show((G++[Cl.dat .l<|a.map Zi]).set b<|Bo L ((ZB B5 a).map Zi) t)[t]?=Z (.dat .d<|Zb<|AM L [] [zg L]) by rw[ZL<|Bv f];exact HG o) f;rw[List.set_set]at e;have s:((G++[Cl.dat .l<|a.map Zi]).set b<|Bo L ((ZB B5 a).map Zi) t).length=G.length+1:=by simp
 rw[s]at e;refine#[G.length+1+1,G.length+1,(G++[Cl.dat .l<|a.map Zi]).set b (Bo L ((ZB B5 a).map Zi)<|G.length+1)++[Cl.dat .d<|Zb<|AM L (ZB B5 a) [zg L],.dat .l q],?_,?_,?_,by exact Ny (IX G) 1,λi k g=>?_]
 ·have E:AX 1 (.lst<|L.map LD)=J':=by
   show(!vk 1 .l&&CM 1 (L.map LD))=J'
   rw[IN];rfl
  have H:=F1 (L:=L) (R:=[]) (T:=Zb<|AM L [] [zg L]);have K:=RM (L:=L) (R:=[]) (T:=Zb<|AM L [] [zg L]);have A:DJ 1 G (.cel b)=.val (BD L []<|Zb<|AM L [] [zg L]):=J7 1 (by ext) c o;have k:Dm "Book" "tables_renewed" (Bo L ((ZB B5 a).map Zi) t)=J':=by rwa[Dm,je]
  generalize a.map EH=C,(G++[Cl.dat .l<|a.map Zi]).set b (Bo L ((ZB B5 a).map Zi)<|G.length+1)++[Cl.dat .d<|Zb<|AM L (ZB B5 a) [zg L],.dat .l q]=M,BD L [] (Zb<|AM L [] [zg L])=F at *;suffices N:Vs ([.cel b,#v[C]],G)=.ret (.cel<|G.length+1+1) M from F4 (fi rfl N) rfl
  rwa[Vs,A,H,K,E,show AX 1 (.lst [])=J' from rfl,D7,u,FY,HG c,HD,FZ,true_and,show(3:Nat)<1000 by ext,and_self,show L2.putN "standing" Eg=Eg by decide +kernel,show ∀x y w z:IV,DB "standing" z Eg [x,y,w]=[x,z,w]from λx y w z=>by erw[DB,if_neg (show ¬ ("axes":Ae)="standing" by decide +kernel),if_true],DK,DW<|HG c,k,show b<((G++[Cl.dat .l<|a.map Zi]).set b<|Bo L ((ZB B5 a).map Zi) t).length by rw[s];exact Nat.lt_add_right 1 p,e,C8]
 ·rw[EL (by simp;exact Nat.lt_add_right 1 p)];exact DW<|HG c
 ·rw[Hg (by simp)];simp
 ·rw[EL (by simp;exact Nat.lt_add_right 1 g),ZL k,EL g]
theorem ZDF(L:AT):AW 12 (.lst (L.map LD))=J':=by
 show(L.map LD).all (AW 11)=J'
 rw[Ec];intro d hd;obtain⟨a,_,rfl⟩:=Ba.mp hd;show(a.map Af).all (AW 10)=J'
 rw[Ec];intro d hd;obtain⟨l,_,rfl⟩:=Ba.mp hd;exact OO 9 l
theorem ZyZ(rs:U Row):AW 12 (.lst (rs.map Zi))=J':=by
 show(rs.map Zi).all (AW 11)=J'
 rw[Ec];intro d hd;obtain⟨r,_,rfl⟩:=Ba.mp hd;show(AW 10 (Af r.1)&&(AW 10 (.int r.2)&&J'))=J'
 rw[OO];rfl
theorem ZCN(acc:U Cc):AW 12 (.lst (Er acc))=J':=by
 show(Er acc).all (AW 11)=J'
 rw[Ec];intro d hd;obtain⟨k,_,rfl⟩:=Ba.mp hd;show(AW 10 (Af k)&&(AW 10 (vC _)&&J'))=J'
 rw[OO];rfl
theorem WN{d:D}(h:AW 12 d=J'):CK d d=Z (.bl O'):=by
 have:=Np 12 _ h;erw[CK,Iv,h,this,Md,if_true,LW]
theorem Zs5:Eg.contains "ladders"=O':=by decide +kernel
theorem jS:Eg.contains "rows"=O':=by decide +kernel
section
variable{L:AT}{R T:U D}
theorem ZqI(f:L.length<=4):T7 [.val (BD L R T)]=Z (.own (L.map LD)):=by
 have a:=Zw (b:=Zc 0) (e:=cz) (ρ:=[.no]) LD LD L λc _=>#[[.val<|LD c],rfl,rfl];have l1:=F1 (L:=L) (R:=R) (T:=T);have d:=Zx (L.map LD) (by simp;lia);refine ZF rfl ?_;generalize BD L R T=B,L.map LD=W at *;show T6 [.val B]=_
 rwa[T6,Zk,show Zq 1 [] [Sl.val B]=[.no]from rfl,l1,d,a,Cn]
theorem jU:Qw [.val (BD L R T)]=Z (.own R):=by
 have l1:=RM (L:=L) (R:=R) (T:=T);refine ZF rfl ?_;generalize BD L R T=B at *;show T8 [.val B]=_
 rwa[T8,El,l1,show FR [.lst R]=Z R from rfl,Cn]
end
noncomputable abbrev lS(S:U D)(x3 x4 x5 x6 x7 x8 x9:IV):U IV:=[#v[S],.cel 0,.cel 1,x3,x4,x5,x6,x7,x8,x9]
theorem Gr.of{L:AT}{g:U Nat}(a:g.length=L.length)(h:∀k (b:k<L.length) (c:k<g.length),g[k]<=wh L[k]):Gr L g:=#[a,λq d=>by
 grind [List.getElem_of_mem]]
theorem ZwB{L:AT}(h:Cb L)(c:Int):∃g,Gr L g/\QG [#v[L.map LD],‹c›]=Z (.val (Bf g)):=by
 have C:=h.n4;obtain⟨a,e,m,E⟩:=Rl c L.length (by lia);let g:U Nat:=(BB L.length).map λk=>(a.getD k 0%((wh (L.getD k [])+1:Nat):Int)).toNat;refine#[g,Gr.of (show g.length=L.length by simp[g]) λk o G=>?_,?_]
 ·have H:=G6 (a.getD k 0) (show(0:Int)<((wh L[k]+1:Nat):Int) by exact Int.ofNat_succ_pos (wh L[k]));rw[List.getElem_map,List.getElem_range,show L.getD k []=L[k] by simp[DH,o]];lia
 ·have q:=Zw (b:=Zc 0) (e:=Uj) (ρ:=[.no,#v[a.map D.int],#v[L.map LD]]) (λk:Nat=>D.int k) (λk=>D.int (((a.getD k 0%((wh (L.getD k [])+1:Nat):Int)).toNat:Nat):Int)) (BB L.length) λk s=>#[[‹k›,#v[a.map D.int],#v[L.map LD]],rfl,by
   have d:=FD.mp s;obtain⟨p,t⟩:=h.good L[k]<|Gf d;have u:Ap (.lst<|L.map LD) (.int k)=Z (LD L[k]):=ZD (by rw[CW,BW d];rfl);have w:Ap (.lst<|a.map D.int) (.int k)=Z (.int a[k]):=ZD (by rw[CW,BW<|Kr d m.symm];rfl);have n1:=t.n1;have i:∃l,Ap (LD L[k]) (.int 0)=Z (Af l)/\l.length=wh L[k]:=by
    generalize L[k]=x at *;cases x with
    |nil=>simp at n1
    |cons l r=>exact#[l,ZD (j:=0) rfl,rfl]
   obtain⟨l,i,y⟩:=i;have z:Zs (.int a[k]) (.int ((wh L[k]+1:Nat):Int))=Z (.int<|a[k]%((wh L[k]+1:Nat):Int)):=by
    simp_all [wh]
   rw[show L.getD k []=L[k] by simp[DH,d],show a.getD k 0=a[k] by simp[DH,Kr d m.symm],OP<|IG _ (by lia)];rwa[Uj,u,w,i,show Zo [Af l]=Z (.int (wh L[k]:Int)) by rw[<- y];simp[Af],show Zl (.int (wh L[k]:Int)) (.int 1)=Z (.int ((wh L[k]+1:Nat):Int))from rfl,z]]
  have n:=N3 (L.length:Int) (JJ<|IX L) (by lia);rw[Iq]at n;have A:=Zx ((BB L.length).map λk:Nat=>D.int k) (by simp;lia);have f:Zo [.lst<|L.map LD]=Z (.int L.length):=by simp
  have B:g.map (λj:Nat=>D.int j)=(BB L.length).map λk=>D.int (((a.getD k 0%((wh (L.getD k [])+1:Nat):Int)).toNat:Nat):Int):=by
   rw[Cp];rfl
  show QG _=Z (.val<|.tup (g.map λj:Nat=>D.int j))
  rw[B];generalize ((BB L.length).map λk=>D.int (((a.getD k 0%((wh (L.getD k [])+1:Nat):Int)).toNat:Nat):Int))=Y at *;generalize a.map D.int=S,L.map LD=W,(BB L.length).map (λk:Nat=>D.int k)=F at *;refine ZF rfl ?_;show Uk [#v[W],‹c›,.no]=_
  rwa[Uk,f,e,Zk,show Zq 1 [2,0] [#v[W],‹c›,#v[S]]=[.no,#v[S],#v[W]]from rfl,n,A,q,show Em [.lst Y]=Z (.tup Y)from rfl]
theorem Gr.zero(L:AT):Gr L (zg L):=Gr.of (by simp) λk a b=>by simp
section
variable{rs:U Row}{L:AT}{G:Gh}
theorem Zz5(s:ST rs gs 1 0 L G)(hz:zg L∈gs)(S:U D):Rh (lS S x3 x4 x5 #v[rs.map Zi] (.val (Bf (zg L))) #v[Er (Ep rs [])] x9,G)=.next (lS S x3 x4 x5 #v[rs.map Zi] (.val (Bf (zg L))) #v[Er (Ep rs [])] x9,G):=by
 obtain⟨t,b,c,d,e⟩:=s.bk;have a:=iY (R:=rs.map Zi) (rs:=rs) (gs:=gs) (RH s.gl<|Gr.zero L) hz;rw[jm s.sp]at a;rwa[Rh,J7 2 (by ext) b c,(Hb s.la),EU,Hs,Zs5,jS,iX,(ZqI (R:=rs.map Zi) (T:=Zb<|AM L rs gs) s.gl.n4),(jU (L:=L) (R:=rs.map Zi) (T:=Zb<|AM L rs gs)),a,Gm,(WN<|ZDF L),(WN<|ZyZ rs),(WN<|ZCN<|Ep rs [])]
end
theorem OZ{L a:AT}(h:a.length=L.length):zg a=zg L:=by
 show a.map (λ_=>0)=L.map (λ_=>0)
 rw[List.map_const',List.map_const',h]
section
variable{rs:U Row}{L:AT}{G:Gh}{ns:U Int}
theorem Zy4(s:ST rs gs 1 0 L G)(hz:zg L∈gs)(n:rs.length<=20)(o:gs.Nodup)(f:gs.length<=12)(k:Nat)(q:k<1000):∃p a G',OI (lS (ns.map D.int) x3 ‹k› x5 #v[rs.map Zi] (.val (Bf (zg L))) #v[Er (Ep rs [])] x9,G)=.next (lS (ns.map D.int) x3 ‹k› x5 #v[rs.map Zi] (.val (Bf (zg L))) #v[Er (Ep rs [])] p,G')/\ST rs gs 1 0 a G'/\a.length=L.length:=by
 have h:=Mw #v[ns.map D.int] ns (.inl rfl) (7+(k:Int))<|IF<|7+k;generalize ns.getD (7+(k:Int)).toNat 0=c at *;have i:=IA c<|13*(k:Int);generalize r:c+13*(k:Int)=C at *;have j:=JY C 2 (by ext) (by ext);have l:EB (.int 13) (.int k)=Z (.int<|13*(k:Int)):=G0<|.inl (by ext);have m:∀{a G'},ST rs gs 1 0 a G'->a.length=L.length->Rh (lS (ns.map D.int) x3 ‹k› x5 #v[rs.map Zi] (.val<|Bf<|zg L) #v[Er<|Ep rs []] ‹C›,G')=.next _:=λd b=>by
  rw[<- OZ b]at hz ⊢;exact Zz5 d hz _
 rcases WJ C with g|g
 ·obtain⟨a,G',e,d,b⟩:=zG s n o f<|C/2;refine⟨‹C›,a,G',?_,d,b⟩;rwa[OI,VU,h,l,i,VV,g,j,D7,e,Gn,N4,Ml,HB,VW,Ew,if_false,m d b,OZ b]
 ·obtain⟨a,G',e,d,b⟩:=zY s<|C/2;refine⟨‹C›,a,G',?_,d,b⟩;rwa[OI,VU,h,l,i,VV,g,j,D7,e,Gn,N4,Ml,HB,VW,Ew,if_false,m d b,OZ b]
end
section
variable{rs:U Row}{L:AT}{ls:A3}{G:Gh}{S:U D}
theorem Zz7(s:ST rs gs 1 0 L G)(e:L[0]?=Z ls)(i:ls.length<40):∃l G',Rg (lS S x3 ‹ls.length› x5 x6 x7 x8 x9,G)=.next (lS S x3 ‹ls.length› (.val (Af l)) x6 x7 x8 x9,G')/\ST rs gs 1 0 (L.set 0 (ls++[l])) G':=by
 obtain⟨t,z,B,k,m⟩:=s.bk;obtain⟨p,h⟩:=s.gl.good ls<|Fn e;have u:=s.up ls<|Fn e;have n1:=h.n1;have K:=h.p4;have C:0<L.length:=(BC.mp e).1;obtain⟨c,f⟩:∃c,ls[0]?=Z c:=#[_,BW n1];have Q:=h.len _<|Fn f;obtain⟨b,n⟩:=jJ h u<|Fn f;have i0:Ap (LD ls) (.int 0)=Z (Af c):=ZD (j:=0) (by rw[CW,f];rfl);have E:Ap (.lst<|L.map LD) (.int 0)=Z (LD ls):=ZD (j:=0) (by rw[CW,e];rfl);have md:Zs (.int ls.length) (.int ls.length)=Z (.int 0):=by
  rw[Dn _ _<|G7.mpr n1,Int.emod_self]
 have ad:Zl (.tup [.int<|10^45+(ls.length:Int)]) (Af<|c.drop 1)=Z (Af<|.int (10^45+(ls.length:Int))::c.drop 1):=IL [.int<|10^45+(ls.length:Int)] (c.drop 1) (by simp;lia);generalize H:(At.int (10^45+(ls.length:Int))::c.drop 1)=l at *;have o:Zl (LD ls) (.lst [Af l])=Z (LD<|ls++[l]):=by
  show(if(ls.map Af).length+[Af l].length<=Ax then Z (D.lst<|ls.map Af++[Af l])else J)=_
  rw[if_pos<|BR (show _<=100 by simp;lia) (by ext)];simp[LD]
 have P:CG ((L.map LD).map IV.val).length 0=Z 0:=by
  erw[CG,A9];rw[if_pos<|IF 0,if_pos<|G7.mpr C];rfl
 have ga:(G.set 0<|.dat .l<|(L.set 0<|ls++[l]).map LD)[1]?=Z (Bo L (rs.map Zi) t):=by rw[ZL<|Bv s.ab];exact z
 have v:(G.set 0<|.dat .l<|(L.set 0<|ls++[l]).map LD)[t]?=Z (.dat .d<|Zb<|AM L rs gs):=by rw[ZL<|Bv m];exact B
 have w:Mr [.cel 1,‹0›,.val<|Af l] _=_:=jh ga v s.gl e h i b;refine#[l,(G.set 0<|.dat .l<|(L.set 0<|ls++[l]).map LD).set 1<|Bo (L.set 0<|ls++[l]) (rs.map Zi) t,?_,⟨s.gl.set 0<|h.app (PX i) b.len b.val b.hdn b.fn,λx q=>?_,λr F=>(s.sp r F).set (λa M=>Fw ▸ Gw _ M) e,λg N=>by rw[HR];exact s.gn g N,?_,⟨t,DW ga,?_,k,m⟩,s.ab⟩]
 ·generalize (G.set 0<|.dat .l<|(L.set 0<|ls++[l]).map LD).set 1 (Bo (L.set 0<|ls++[l]) (rs.map Zi) t)=T at *;rw[List.map_set]at ga w;rwa[Rg,fV,Hb s.la,(show D1 (.int 10) (.int 45)=Z (.int<|10^45)from Lh (x:=10) (y:=45) #[by ext,by ext,by ext]),E,Kb ls,md,i0,Ce,Ca,RZ c,ad,DV 2 l,fW,Ka s.la,o,J9<|ls++[l],Gp,s.la,show HC (.dat .l<|L.map LD)=Z ((L.map LD).map IV.val)from rfl,P,show ∀A:D,setIt (.dat .l<|L.map LD) 0 (.val A)=.dat .l ((L.map LD).set 0 A)from λ_=>rfl,fX,DK,ga,show Dm "Book" "grow" (Bo L (rs.map Zi) t)=J' by rwa[Dm,WF],(BC.mp ga).1,and_self,w,D6]
 ·rcases WC q with q|rfl
  ·exact s.up x q
  ·exact(u.app n)
 ·rw[ZL (by ext)];exact DW s.la
 ·rw[ZL<|Bv k,jj e s.sp];exact v
end
section
variable{rs:U Row}
theorem jV{S:U D}{x3 x6 x7 x8 x9:IV}:∀(n:Nat)(L:AT)(a:A3)(G:Gh)(x4 x5:IV),ST rs gs 1 0 L G->L[0]?=Z a->a.length+n<=40->∃c d b G',EW 4 Rg ((Fi a.length n).map λk:Nat=>D.int k) (lS S x3 x4 x5 x6 x7 x8 x9,G)=.next (lS S x3 c d x6 x7 x8 x9,G')/\ST rs gs 1 0 b G'/\b.length=L.length
 |0,L,a,G,x4,x5,s,e,f=>#[x4,x5,L,G,rfl,s,rfl]
 |n+1,L,a,G,x4,x5,s,e,f=>by
  obtain⟨l,h,i,j⟩:=Zz7 (S:=S) (x3:=x3) (x5:=x5) (x6:=x6) (x7:=x7) (x8:=x8) (x9:=x9) s e (C7 f);obtain⟨c,d,b,G',g,m,o⟩:=jV (S:=S) (x3:=x3) (x6:=x6) (x7:=x7) (x8:=x8) (x9:=x9) n (L.set 0<|a++[l]) (a++[l]) h ‹a.length› (.val<|Af l) j (Gx<|(BC.mp e).1) (by simp;lia);rw[Ej,Kv]at g;refine⟨c,d,b,G',?_,m,by rw[o,HR]⟩;erw[Lg,Be,EW,Fg,EX,i];exact g
theorem ZEd{ns:U Int}{L:AT}{G:Gh}(s:ST rs gs 1 0 L G):∃d f b G',Rj (lS (ns.map D.int) x3 .no .no x6 x7 x8 x9,G)=.next (lS (ns.map D.int) x3 d f x6 x7 x8 x9,G')/\ST rs gs 1 0 b G'/\b.length=L.length:=by
 have h:=Mw #v[ns.map D.int] ns (.inl rfl) 6 (by ext);generalize ns.getD (6:Int).toNat 0=c at *;have i:=Dn c 6 (by ext);have eq:=JZ (c%6) 1;by_cases l:c%6=1
 ·rw[decide_eq_true l]at eq;obtain⟨a,g⟩:∃a,L[0]?=Z a:=#[_,BW s.gl.n1];obtain⟨p,m⟩:=s.gl.good a<|Fn g;have n6:=m.n6;obtain⟨d,f,b,G',e,n,o⟩:=jV (S:=ns.map D.int) (x3:=x3) (x6:=x6) (x7:=x7) (x8:=x8) (x9:=x9) (40-a.length) L a G .no .no s g (by lia);refine#[d,f,b,G',?_,n,o];have q:=Hb s.la;have r:Ap (.lst<|L.map LD) (.int 0)=Z (LD a):=ZD (j:=0) (by rw[CW,g];rfl);have t:=Kb a;have u:Qq (Z<|.int a.length) (Z<|.int 40)=Z ((Fi a.length<|40-a.length).map λk:Nat=>D.int k):=by
   show gd (-1000000000<=(a.length:Int)/\(a.length:Int)<1000000000 /\ -1000000000<=(40:Int)/\(40:Int)<1000000000) (Z<|Ge (a.length:Int) (40-(a.length:Int)).toNat)=_
   rw[LP (by lia),b4,show(40-(a.length:Int)).toNat=40-a.length by lia,List.range'_eq_map_range,Cp];congr 1
  rwa[Rj,q,h,i,eq,r,t,u,Ir,e]
 ·rw[decide_eq_false l]at eq;refine#[.no,.no,L,G,?_,s,rfl];rwa[Rj,h,i,eq]
theorem jW{ns:U Int}{x3 x5:IV}(f:rs.length<=20)(g:gs.Nodup)(b:gs.length<=12){z:U Nat}(hz:z∈gs):∀(n k:Nat)(L:AT)(G:Gh)(x4 x9:IV),k+n<=1000->zg L=z->ST rs gs 1 0 L G->∃c d e G',EW 4 OI ((Fi k n).map λk:Nat=>D.int k) (lS (ns.map D.int) x3 x4 x5 #v[rs.map Zi] (.val (Bf z)) #v[Er (Ep rs [])] x9,G)=.next (lS (ns.map D.int) x3 c x5 #v[rs.map Zi] (.val (Bf z)) #v[Er (Ep rs [])] d,G')/\ST rs gs 1 0 e G'
 |0,k,L,G,x4,x9,_,_,s=>#[x4,x9,L,G,rfl,s]
 |n+1,k,L,G,x4,x9,i,a,s=>by
  obtain⟨j,l,m,h,o,p⟩:=Zy4 (ns:=ns) (x3:=x3) (x5:=x5) (x9:=x9) s (a ▸ hz) f g b k (C7 i);rw[a]at h;obtain⟨c,d,e,G',q,r⟩:=jW (ns:=ns) (x3:=x3) (x5:=x5) f g b hz n (k+1) l m ‹k› j (by lia) (OZ p ▸ a) o;refine#[c,d,e,G',?_,r];erw[Lg,Be,EW,Fg,EX,h];exact q
theorem ZE9{ns:U Int}{L:AT}{G:Gh}(s:ST rs gs 1 0 L G)(j:rs.length<=20)(l:gs.Nodup)(b:gs.length<=12)(hz:zg L∈gs):∃d f g G',VX (lS (ns.map D.int) x3 x4 x5 #v[rs.map Zi] (.val (Bf (zg L))) #v[Er (Ep rs [])] .no,G)=.next (lS (ns.map D.int) x3 d x5 #v[rs.map Zi] (.val (Bf (zg L))) #v[Er (Ep rs [])] f,G')/\ST rs gs 1 0 g G':=by
 have a:Cu (.lst<|ns.map D.int) (Z 7) (Z 19)=Z (.lst<|((ns.drop 7).take 12).map D.int):=by
  show Z (D.lst<|cutD (ns.map D.int) (Z 7)<|some 19)=_
  rw[TN,ve _ _ _ (IF 7)<|IF 19];rfl
 have n:((ns.drop 7).take 12).length<=12:=by simp;exact Nat.min_le_left 12<|ns.length-7
 have h:Zo [.lst<|((ns.drop 7).take 12).map D.int]=Z (.int (((ns.drop 7).take 12).length:Int)):=by
  show Z (D.int ((((ns.drop 7).take 12).map D.int).length:Int))=_
  rw[A9]
 generalize ((ns.drop 7).take 12).map D.int=r,((ns.drop 7).take 12).length=m at *;obtain⟨N,o,p⟩:∃N:Nat,Jq [.int 3,.int m]=Z (.int N)/\N<=20:=by
  refine#[if m>3 then m else 3,?_,by split<;>lia];show Z (D.int<|if(m:Int)>3 then(m:Int)else 3)=_
  by_cases c:m>3
  ·rw[if_pos c,if_pos (by lia)]
  ·rw[if_neg c,if_neg (by lia)];rfl
 have i:Qh (.int N)=Z ((Fi 0 N).map λk:Nat=>D.int k):=by
  show gd (-1000000000<=(N:Int)/\(N:Int)<1000000000) (Z<|Ge 0 (N:Int).toNat)=_
  rw[LP (by lia),Iq,b4,My];congr 1;exact OU λk _=>by rw[Int.zero_add]
 obtain⟨d,f,g,G',e,q⟩:=jW (ns:=ns) (x3:=x3) (x5:=x5) j l b hz N 0 L G x4 .no (by lia) rfl s;refine#[d,f,g,G',?_,q];rwa[VX,Ce,show Ca (Z<|.int 7)=Z (Z 7)from rfl,show Ca (Z<|.int 19)=Z (Z 19)from rfl,a,h,o,i,Ir,e]
end
theorem jX{L:AT}(h:Cb L)(ns:U Int)(c:Int)(b:ZP [#v[ns.map D.int],‹5›]=Z ‹c›):∀n k:Nat,k+n<=100->∃a:U Row,a.length=n/\(∀r∈a,A1 L r.1)/\Z2 (Zc 0) (λ_=>Z J') Rf [.no,#v[L.map LD],#v[ns.map D.int]] ((Fi k n).map λk:Nat=>D.int k)=Z (a.map Zi)
 |0,k,_=>#[[],rfl,λ_ h=>(nomatch h),rfl]
 |n+1,k,i=>by
  obtain⟨a,d,j,f⟩:=jX h ns c b n (k+1) (by lia);obtain⟨r,l,e⟩:=yD h<|c/((k:Int)+1)+(k:Int);refine⟨r::a,by simp[d],λq m=>?_,?_⟩
  ·grind [Bz]
  ·have g:Rf [‹k›,#v[L.map LD],#v[ns.map D.int]]=Z (Zi r):=by
    rwa[Rf,b,JY c ((k:Int)+1) (Int.succ_ofNat_pos k) (by lia),e]
   rwa[Lg,Z2,g,f]
theorem ZzO(r:Row):Zl (.tup [.str "+"]) (Zi r)=Z (EH r):=by
 rfl
theorem Zzt(a:U Row):AX 1 (.lst (a.map EH))=J':=by
 show(!vk 1 .l&&CM 1 (a.map EH))=J'
 rw[Gj λd hd=>by
  obtain⟨r,_,rfl⟩:=Ba.mp hd;show(AX 1 (.str "+")&&(AX 1 (Af r.1)&&(AX 1 (.int r.2)&&J')))=J'
  rw[DV];rfl];rfl
theorem Zur(rs:U Row):AX 1 (.lst (rs.map Zi))=J':=by
 show(!vk 1 .l&&CM 1 (rs.map Zi))=J'
 rw[Gj λd hd=>by
  obtain⟨r,_,rfl⟩:=Ba.mp hd;show(AX 1 (Af r.1)&&(AX 1 (.int r.2)&&J'))=J'
  rw[DV];rfl];rfl
theorem Zzq{rs:U Row}{L:AT}{G:Gh}(s:ST rs [zg L] 1 0 L G)(j:rs.length<=20){g:U Nat}(f:Gr L g):∃n gs G',Oz [.cel 1,.val (Bf g)] G=Z (‹n›,G')/\ST rs gs 1 0 L G'/\gs.Nodup/\gs.length<=12/\zg L∈gs:=by
 obtain⟨t,h,i,a,c⟩:=s.bk;by_cases d:g∈[zg L]
 ·exact#[_,_,_,yU s.gl f h i d,s,by simp,by simp,by simp]
 ·refine#[_,[zg L]++[g],_,yV s.gl f h i s.sp (by lia) a d (by simp),#[s.gl,s.up,s.sp,λx b=>?_,?_,#[t,?_,DW i,a,c],s.ab],?_,by simp,by simp]
  ·rcases Cm.mp b with b|b
   ·exact s.gn x b
   ·rw[CP]at b;subst b;exact f.1
  ·rw[ZL c];exact s.la
  ·rw[ZL a];exact h
  ·simp at d ⊢;exact λe=>d e.symm
theorem ZvP(ns:U Int):∃G',gz [.val (.lst (ns.map D.int))] []=Z (.val (.bl J'),G'):=by
 obtain⟨L,⟨h,h0⟩,eL⟩:=xy ns;have h4:=h.n4;have K:=Mw #v[ns.map D.int] ns (.inl rfl) 5 (by ext);generalize ns.getD (5:Int).toNat 0=c at *;have y:=Mw #v[ns.map D.int] ns (.inl rfl) 4 (by ext);generalize ns.getD (4:Int).toNat 0=c4 at *;obtain⟨g,hg,eg⟩:=ZwB h c4;have Q:=Dn c 9 (by ext);have j1:=G6 c (show(0:Int)<9 by ext);obtain⟨n,z⟩:∃n:Nat,c%9=n:=#[(c%9).toNat,by lia];rw[z]at Q j1;obtain⟨a,hrl,P,er⟩:=jX h ns c K n 0 (by lia);have Y:(ZB B5 a).length<=20:=by rw[(ZO B5 a).length_eq];lia
 have ei:=ZzG h<|.dat .l<|L.map LD;obtain⟨j,t,G3,ep,i,A,q,ho⟩:=Zzr h a P (by lia) (G:=[.dat .l<|L.map LD,Bo L [] 2,.dat .d<|Zb<|AM L [] [zg L]]) (b:=1) (t:=2) rfl rfl (by ext);have hlt':3<=t:=q;have s3:ST (ZB B5 a) [zg L] 1 0 L G3:=#[h,λs o=>(h0 s o).up,λr o=>P r<|(ZO B5 a).mem_iff.mp o,λg o=>by rw[CP]at o;subst o;simp,(ho 0 (by ext) (by simp)).trans rfl,#[t,i,A,by lia,by exact Bv<|Nat.ne_zero_of_lt q],by ext];obtain⟨kn,u,G4,ek,s4,B,C,E⟩:=Zzq s3 Y hg;obtain⟨y4,y5,f,G5,e5,p,H⟩:=ZEd (ns:=ns) (x3:=#v[a.map Zi]) (x6:=.no) (x7:=.no) (x8:=.no) (x9:=.no) s4;rw[<- OZ H]at E;obtain⟨z4,z9,L9,G9,e9,s9⟩:=ZE9 (ns:=ns) (x3:=#v[a.map Zi]) (x4:=y4) (x5:=y5) p Y B C E;refine#[G9,?_];have S:AX 1 (.lst<|L.map LD)=J':=by
  show(!vk 1 .l&&CM 1 (L.map LD))=J'
  rw[IN L];rfl
 have qL:=Zx (L.map LD) (by simp;lia);have F:=Zw (b:=Zc 0) (e:=VT) (ρ:=[.no]) Zi EH a λr _=>#[[.val<|Zi r],rfl,by
  have:=ZzO r;rwa[VT,this]]
 have qR:=Zx (a.map Zi) (by simp;lia);have w:=N3 (n:Int) (JJ n) (by lia);rw[Iq,My]at w;have qN:=Zx ((Fi 0 n).map λk:Nat=>D.int k) (by simp;lia);obtain⟨t5,M,N,_,_⟩:=p.bk;have ql:=Zx (f.map LD) (by have:=p.gl.n4;simp;lia);have x:=J7 1 (by ext) M N;have ht:Em [.lst<|f.map λ_=>D.int 0]=Z (J2 f):=rfl;rw[i8]at ht;have e3:=iY (R:=(ZB B5 a).map Zi) (rs:=ZB B5 a) (gs:=u) (RH p.gl<|Gr.zero f) E;have f1:=Wx f (zg f)<|ZB B5 a;rw[jm p.sp]at e3 f1;have m:∀(xs:U Sl),Zq 1 [] xs=[.no]:=λ_=>rfl;generalize Zb (AM L [] [zg L])=T1 at *;suffices e:VY ([#v[ns.map D.int],.no,.no,.no,.no,.no,.no,.no,.no,.no],[])=.ret (.val<|.bl J') G9 from F4 (fi rfl e) rfl
 rwa[VY,gy,fZ,E9,eL,LK,jG,jL,IN L,xC,gw,f4,show DJ 1 [Cl.dat .l<|L.map LD] (.cel 0)=.lent (L.map LD)from Ka rfl,Zk,m,qL,Zw (b:=Zc 0) (e:=fU) (ρ:=[.no]) LD LD L λs _=>#[[.val<|LD s],rfl,rfl],S,Qj,HZ,D8,HD,ei,gv,f5,show DJ 2 [Cl.dat .l<|L.map LD,Bo L [] 2,.dat .d T1] (.cel 0)=#v[L.map LD]from Hb rfl,Zk,show ∀V:Sl,Zq 1 [1,0] [#v[ns.map D.int],#v[L.map LD],V,.no,.no,.no,.no,.no,.no,.no]=[.no,#v[L.map LD],#v[ns.map D.int]]from λ_=>rfl,K,Q,w,qN,er,jG,jL,jQ a,xF,gu,f6,Zk,m,qR,F,(Zzt a),DK,show Dm "Book" "pour" (Bo L [] 2)=J' by rwa[Dm,ZAw],HD,FZ,show(1:Nat)<3 by ext,and_self,ep,D6,gq,f7,Hb s3.la,y,eg,(show AX 2 (Bf g)=J' by rw[<- J6];exact DV 2 _),DK,i,show Dm "Book" "keep" (Bo L ((ZB B5 a).map Zi) t)=J' by rwa[Dm,yQ],(BC.mp i).1,and_self,ek,D6,gm,e5,gj,f8,x,EU,show Hs "Book" "rows" (.val<|BD f ((ZB B5 a).map Zi)<|Zb<|AM f (ZB B5 a) u)=J' by rwa[Hs,jS],(jU (L:=f) (R:=(ZB B5 a).map Zi) (T:=Zb<|AM f (ZB B5 a) u)),Gm,Zur<|ZB B5 a,gh,f9,Hb p.la,Zk,m,ql,Zw (b:=Zc 0) (e:=fY) (ρ:=[.no]) LD (λ_=>D.int 0) f λs _=>#[[.val<|LD s],rfl,rfl],ht,(show AX 2 (Bf<|zg f)=J' by rw[<- J6];exact DV 2 _),gg,gc,x,EU,show Hs "Book" "table" (.val<|BD f ((ZB B5 a).map Zi)<|Zb<|AM f (ZB B5 a) u)=J' by rwa[Hs,iX],e3,Gm,f1,ge,e9];rfl
end
variable{acc:U Cc}{ls:A3}
set_option tactic.hygienic true
noncomputable def Bg(i:Nat):Av:=PySem.Challenge.pw_cubebook_k55_regrouped_and_grown.main.body.getD i (.Pass #[0,0,0,0])
noncomputable abbrev jY:U Ae:=["ladder","level","other"]
noncomputable abbrev jZ:U Ae:=["ladder","level","value"]
noncomputable abbrev j0:U Ae:=["ladder","level","thing"]
noncomputable abbrev j2:U Ae:=["ladders","thing"]
noncomputable abbrev WP:U Ae:=["ladders","axis"]
noncomputable abbrev j4:U Ae:=["ladder","thing"]
abbrev j5:U Ae:=["ladders","thing"]
noncomputable abbrev j6:U Ae:=["ladders","grain","to"]
noncomputable abbrev j7:U Ae:=["ladders","rows","grain"]
abbrev j8:U Ae:=["ladders","thing"]
abbrev j9:U Ae:=["ladders","thing"]
abbrev ka:U Ae:=["standing","row"]
noncomputable abbrev kc:U Ae:=["standing","row"]
noncomputable abbrev kf:U Ae:=["ladders","rows","changes"]
noncomputable abbrev kg:U Ae:=["ladders","rows","grains"]
abbrev kh:U Ae:=["ahead","behind"]
noncomputable abbrev ki:U Ae:=["ahead","behind"]
noncomputable abbrev kj:U Ae:=["ladder","level"]
noncomputable abbrev WQ:U Ae:=["ladder","level","value","parent"]
noncomputable abbrev WR:U Ae:=["ladder","line"]
noncomputable abbrev km:U Ae:=["self","ladders"]
noncomputable abbrev ko:U Ae:=["self","changes"]
noncomputable abbrev WS:U Ae:=["self","axis","level","value","parent"]
noncomputable abbrev WT:U Ae:=["self","axis","line"]
noncomputable abbrev kq:U Ae:=["self","axis","ladder"]
noncomputable abbrev kr:U Ae:=["_law_script","_law_k"]
noncomputable abbrev kt:U Ae:=["_law_cell_here","_law_many"]
noncomputable abbrev ku:U Ae:=["_law_cell_here","_law_way","_law_k"]
noncomputable abbrev kw:U Ae:=["_law_cell_here"]
noncomputable abbrev kx:U Ae:=["_law_ladders_here","_law_cell_here"]
abbrev ky:U Ae:=["_law_ladders_here","_law_cell_here"]
noncomputable abbrev kz:U Ae:=["_law_book","_law_word","_law_axis","_law_things"]
noncomputable abbrev kA:U Ae:=["_law_cell_here","_law_high","_law_low"]
noncomputable abbrev kC:U Ae:=["_law_book","_law_ladders_here","_law_cell_here"]
noncomputable abbrev kF:U Ae:=["_law_ladder_here","_law_line","_law_cell_here"]
noncomputable abbrev kG:U Ae:=["_law_book","_law_ladders_here","_law_cell_here"]
noncomputable abbrev fe(a:Ae)(s:Av)(p:U Ae):Ae×Av×U Ae:=(a,s,p)
noncomputable abbrev me(a b:Ae)(s:Av)(p:U Ae):Ae×Ae×Av×U Ae:=(a,b,s,p)
def FT:U (Ae×Av×U Ae):=[fe "is_whole" (Bg 5) ["thing"],fe "is_word" (Bg 6) ["thing"],fe "is_value" (Bg 7) ["thing"],fe "value_rank" (Bg 9) ["thing"],fe "key_rank" (Bg 10) ["key"],fe "in_order" (Bg 11) ["keys"],fe "is_line" (Bg 15) ["thing"],fe "go_together" (Bg 16) ["lines"],fe "is_ladder" (Bg 17) ["thing"],fe "whole_of" (Bg 18) ["ladder"],fe "line_at" (Bg 19) ["line","level"],fe "values_in_order" (Bg 20) ["values"],fe "lifts" (Bg 21) jY,fe "beneath" (Bg 22) jZ,fe "is_value_at" (Bg 23) j0,fe "is_axis" (Bg 35) j2,fe "ladder_on" (Bg 36) WP,fe "is_level" (Bg 37) j4,fe "is_grain" (Bg 38) j5,fe "finest" (Bg 39) ["ladders"],fe "cell_of" (Bg 41) ["amounts"],fe "merged" (Bg 42) ["one","other"],fe "ways_up" (Bg 44) j6,fe "goes_along" (Bg 45) ["ways","key"],fe "merged_along" (Bg 46) ["ways","table"],fe "table_of" (Bg 47) j7,fe "is_finest_key" (Bg 50) j8,fe "is_change" (Bg 51) j9,fe "row_rank" (Bg 52) ["row"],fe "put_in" (Bg 53) ka,fe "take_out" (Bg 54) kc,fe "poured" (Bg 55) kf,fe "tables_at" (Bg 56) kg,fe "keys_changed" (Bg 57) kh,fe "cells_changed" (Bg 58) ki,fe "has_parents" (Bg 60) kj,fe "regrouped" (Bg 61) WQ,fe "grown" (Bg 62) WR,fe "are_ladders" (Bg 66) ["thing"],fe "_law_cell_at" (Bg 69) kr,fe "_law_stream" (Bg 70) kt,fe "_law_named" (Bg 71) ku,fe "_law_ladder" (Bg 72) kw,fe "_law_ladders" (Bg 73) ["_law_script"],fe "_law_grain" (Bg 76) kx,fe "_law_row" (Bg 77) ky,fe "_law_outcome" (Bg 80) kz,fe "_law_refusal" (Bg 81) ["_law_k"],fe "_law_odd" (Bg 82) kA,fe "_law_regrouped" (Bg 83) kC,fe "_law_line_odd" (Bg 84) kF,fe "_law_grew" (Bg 85) kG,fe "law" (Bg 86) ["_law_script"]]
def MT:U (Ae×Ae×Av×U Ae):=[me "__init__" "Book.__init__" (GG (Bg 67) 0) km,me "ladders" "Book.ladders" (GG (Bg 67) 1) ["self"],me "rows" "Book.rows" (GG (Bg 67) 2) ["self"],me "pour" "Book.pour" (GG (Bg 67) 4) ko,me "keep" "Book.keep" (GG (Bg 67) 5) ["self","grain"],me "regroup" "Book.regroup" (GG (Bg 67) 7) WS,me "grow" "Book.grow" (GG (Bg 67) 8) WT,me "table" "Book.table" (GG (Bg 67) 9) ["self","grain"],me "is_kept" "Book.is_kept" (GG (Bg 67) 12) ["self","thing"],me "put_ladder" "Book.put_ladder" (GG (Bg 67) 13) kq,me "tables_renewed" "Book.tables_renewed" (GG (Bg 67) 14) ["self"]]
noncomputable abbrev XT:U Ae:=["NoGrain","NoLadder","NoPick","NoRow","NoSuch","NoText","NoValue","TooMuch"]
structure Tx(K:Am)(mg:Bi)(d:Ac):Prop where
 cb:CI K mg "Book" d
 na_axes:Bw K d "axes"
 na_standing:Bw K d "standing"
 na_tables:Bw K d "tables"
 f:All (DX K mg) FT
 m:All (MX K d) MT
 n:All (λx=>mg x=J) ["ValueError","all","bool","dict","enumerate","int","isinstance","len","list","max","min","range","sorted","str","sum","tuple","zip"]
 g:All (λx=>∃u,mg x.1=Z u/\RelV x.2 u) [("FIGURES",(.str "0123456789")),("LETTERS",(.str "abcdefghijklmnopqrstuvwxyz")),("LONGEST_LINE",(.int 4)),("LONGEST_WORD",(.int 12)),("MOST_LADDERS",(.int 4)),("MOST_LINES",(.int 40)),("MOST_ROWS",(.int 200)),("MOST_TABLES",(.int 12))]
 z:XX K mg "CubeError"
 x:All (XX K mg) XT
 y:All (YY K XT) CS
section
variable{P:AJ}{w:Ai}{K:Am}{mg:Bi}{base:Ak}{d:Ac}(T:Tx K mg d)
include T
set_option hygiene false in
local macro_rules | `(tactic|exists $a,$b,*)=>do let c <- b.getElems.mapM λx=>`(tactic|with_reducible refine $a h r ($x T) ?_ ?_ ?_ ?_ ?_);`(tactic|first $[| $c:tactic]*)
local macro_rules | `(tactic|exists $t)=>`(tactic|with_reducible show JE _ _ (tD _ _ _ (Zj $t _)))
local macro_rules | `(mutual $c* end)=>return Lean.mkNullNode (<- c[1:].toArray.mapM (·.raw.replaceM λ| `(tactic|trivial)=>return c[0]!.raw.find? (·.isOfKind ``Lean.Parser.Tactic.paren)|_=>return none))
mutual
example:=by(intros;rename_i h r;repeat' first
 |(refine(?_:JT _ _ (Iw _ _));first|refine vB (SO r.units) SR ?_ ?_ (F6 _ (by ext) (by ext))|refine vF (Qd _ λ_ _=>?_) ?_|refine vE ?_|refine vD ?_)
 |(refine(?_:JE _ (.Compare _ _ _ _) (Ci _ (λs=>Fz _ _ _ s)));first|refine vA r.units ?_ ?_)
 |(refine(?_:K5 _ _ _);first|refine vi Gi h.nd ?_ ?_|refine vh ?_)
 |(refine(?_:JL _ _ _);first|with_reducible refine vn Gi ?_ ?_|refine vm ?_)
 |(refine(?_:JB _ _ _);first|with_reducible refine vI _ _ ?_|exact oZ|with_reducible refine Yp ?_ ?_|refine Yp ?_ ?_|exact uk|with_reducible refine bP ?_ ?_|refine bP ?_ ?_)
 |(refine(?_:JA _ _ _);first|exact SD|refine Pq ?_ ?_|exact TC|refine Qg ?_ ?_)
 |(refine(?_:JE _ _ (Gc _ _ _ _));first|exact S3 _|refine Yl ?_)
 |(refine(?_:JE _ _ (tP _ _ _ _));first|exact qq _|exact sE|refine Yg ?_)
 |(refine(?_:JE _ _ (tQ _ _ _ _));first|exact qr _|refine pj ?_)
 |(refine(?_:JE _ _ (DT _ _));first|exact uh|refine ui T.cb.cof T.cb.cl (by first|exact T.na_axes|exact T.na_standing|exact T.na_tables) ?_|refine vK ?_)
 |(refine(?_:JE _ _ (tJ _ _));first|refine ud _ λ_ _=>?_)
 |(refine(?_:JS _ _ (tS _ _ _ (JH _ _)));first|refine u7 ?_)
 |(refine(?_:JS _ (.Return _ _) _);first|refine o0 ?_|exact qt _|refine o5 ?_|refine o4 ?_|refine uo ?_)
 |(refine(?_:JS _ (.If _ _ _ _) _);first|refine o7 ?_ ?_ ?_|refine rn ?_ ?_ ?_|refine um (Qd _ λ_ _=>?_) ?_ ?_|refine vG ?_ ?_ ?_)
 |(refine(?_:JS _ (.Assign [.Name _ _] (.ListComp _ _ _ _) _) _);first|refine' uY h (Mf (by decide +kernel)) rfl rfl rfl rfl ?_ (Mg h (by decide +kernel) (λ_ _ _ _ _ _ _ h=>?_) (λ_ _ _ _ _ _ _ h=>?_) (λ_ _ _ _ _ _ _ h=>?_)) ?_|refine' uV h (Mf (by decide +kernel)) rfl rfl rfl rfl ?_ (Mg h (by decide +kernel) (λ_ _ _ _ _ _ _ h=>?_) (λ_ _ _ _ _ _ _ h=>?_) (λ_ _ _ _ _ _ _ h=>?_)) ?_|refine' uW h (Mf (by decide +kernel)) rfl rfl rfl rfl ?_ (Mg h (by decide +kernel) (λ_ _ _ _ _ _ _ h=>?_) (λ_ _ _ _ _ _ _ h=>?_) (λ_ _ _ _ _ _ _ h=>?_)) ?_|refine' vR h (Mf (by decide +kernel)) rfl rfl rfl rfl (λ_ _=>?_) (Mg h (by decide +kernel) (λ_ _ _ _ _ _ _ h=>?_) (λ_ _ _ _ _ _ _ h=>?_) (λ_ _ _ _ _ _ _ h=>?_)) ?_|refine bQ h.nd ?_)
 |(refine(?_:JS _ (.Assign [.Name _ _] _ _) _);first|refine sH _ h.nd ?_|refine pb h.nd rfl (by first|exact Or.inl rfl|exact Or.inr rfl) ?_|refine o9 h.nd rfl (by first|exact Or.inl rfl|exact Or.inr rfl) ?_|refine bQ h.nd ?_)
 |(refine(?_:JS _ (.Assign [.Attribute _ _ _] _ _) _);first|refine uD T.cb.cof T.cb.cl (by first|exact T.na_axes|exact T.na_standing|exact T.na_tables) ?_ ?_)
 |(refine(?_:JS _ (.Assign _ _ _) _);first|refine qI ?_ ?_|refine rj r.units ?_ ?_|refine uG r.units ?_ ?_ ?_|refine vJ ?_ ?_ ?_)
 |(refine(?_:JS _ (.For _ _ _ _ _) _);first|refine' pi PassesOwn.never rfl ?_ ?_ ?_|refine uv PassesOwn.never rfl ?_ h.nd ?_)
 |(refine(?_:JS _ (.Expr _ _) _);first|refine pe EM ?_|refine qH ?_|refine uq ?_)
 |(refine(?_:JS _ _ _);first|exact rX|exact ul|(obtain⟨_,q1,q2⟩:=vb T.z T.y;refine uS _ CS Gi rfl rfl ?_ ?_ q1 (by rfl) q2 h.nd rfl rfl (λ_=>?_)))
 |(refine(?_:JT _ (.Compare _ _ _ _) _);first|refine qx r.units ?_ ?_|refine qy r.units ?_ ?_|refine qA r.units ?_ ?_|refine qB r.units ?_ ?_|refine qC r.units ?_ ?_|refine qD r.units ?_ ?_|refine rh r.units ?_ ?_|refine rg r.units ?_ ?_|refine oJ ?_|refine oK ?_|refine rm r.units ?_ ?_|refine vN ?_ ?_)
 |(refine(?_:JT _ (.UnaryOp _ _ _) _);first|refine ov ?_)
 |(refine(?_:JT _ (.BoolOp _ _ _) _);first|refine Y4 ?_)
 |(refine(?_:JT _ _ _);first|refine qF ?_|refine Y4 ?_)
 |(refine(?_:JW _ _ _);first|refine oD ?_ ?_|refine oz ?_|refine oC ?_ ?_|refine ow ?_)
 |(refine(?_:JI _ _ _ _);first|refine pz (by rfl) (T.n.get 11 rfl) ?_|refine pA (by rfl) (T.n.get 11 rfl) ?_|refine tH (by rfl) (T.n.get 16 rfl) ?_ ?_|refine t8 (by rfl) (T.n.get 4 rfl) ?_|refine qG ?_|refine ur ?_|refine ut (by rfl) (T.n.get 11 rfl) ?_|refine vS (by rfl) (T.n.get 11 rfl) ?_ ?_)
 |(refine(?_:JG _ _ _);first|exact sG _ h.nd|refine' pD rfl ?_)
 |(refine(?_:JK _ _ _);first|exact pB|refine' pC ?_ ?_)
 |(refine(?_:JF _ _ _);first|exact pE|refine pF ?_)
 |(refine(?_:JE _ (.Name _ _) _);first|exact qp _|exact qo (by rfl) (by first|exact T.g.get 0 rfl|exact T.g.get 1 rfl|exact T.g.get 2 rfl|exact T.g.get 3 rfl|exact T.g.get 4 rfl|exact T.g.get 5 rfl|exact T.g.get 6 rfl|exact T.g.get 7 rfl) (λ_ _=>by erw[Ar])|exact Y2 (by rfl) (T.n.get 15 rfl) (by rfl)|refine bN ?_|refine TB ?_)
 |(refine(?_:JE _ (.Constant _ _ _) _);first|exact Yh|exact ot|exact on|exact oq|refine TB ?_)
 |(refine(?_:JE _ (.ListComp _ _ _ _) (EO _ _ _ _ _));first|refine' uX h (Mf (by decide +kernel)) rfl rfl ?_ (Mg h (by decide +kernel) (λ_ _ _ _ _ _ _ h=>?_) (λ_ _ _ _ _ _ _ h=>?_) (λ_ _ _ _ _ _ _ h=>?_)) ?_|refine' uU h (Mf (by decide +kernel)) rfl rfl ?_ (Mg h (by decide +kernel) (λ_ _ _ _ _ _ _ h=>?_) (λ_ _ _ _ _ _ _ h=>?_) (λ_ _ _ _ _ _ _ h=>?_)) ?_)
 |(refine(?_:JE _ (.Subscript _ _ _) _);first|refine sF ?_ ?_|refine re r.units ?_ ?_ (λ_ _=>rfl)|refine p7 ?_ ?_ ?_)
 |(refine(?_:JO _ _ _);first|refine p5 ?_|exact p0)
 |(refine(?_:JE _ (.BinOp _ _ _ _) _);first|refine pW ?_ ?_|refine pQ ?_ ?_|refine pO ?_ ?_|refine pP ?_ ?_|refine pN ?_ ?_|refine pR ?_ ?_|refine v3 ?_ ?_)
 |(refine(?_:JE _ (.UnaryOp _ _ _) _);first|refine pS ?_|refine oE ?_)
 |(refine(?_:JE _ (.BoolOp _ _ _) _);first|refine oG ?_ ?_|refine oH ?_ ?_|refine oF ?_)
 |(refine(?_:JE _ (.Compare _ _ _ _) _);first|refine qu r.units ?_ ?_|refine qw r.units ?_ ?_|refine qv r.units ?_ ?_|refine rf r.units ?_ ?_|refine Y3 Sd Sd (LQ _) (LQ _) ?_ ?_ ?_|refine Y3 Sd (YJ r.units) (LQ _) YK ?_ ?_ ?_)
 |(refine(?_:JE _ (.Tuple _ _ _) _);first|refine oR ?_)
 |(refine(?_:JE _ (.List _ _) (EO _ _ _ _ _));first|refine oQ ?_)
 |(refine(?_:JE _ (.Dict _ _ _) _);first|exact ri)
 |(refine(?_:JE _ (.IfExp _ _ _ _) _);first|refine oI ?_ ?_ ?_)
 |(refine(?_:JE _ (.Attribute _ _ _) _);first|refine sL T.cb.cof T.cb.cl (by first|exact T.na_axes|exact T.na_standing|exact T.na_tables) ?_|refine bN ?_)
 |(refine(?_:JE _ (.Call (.Name _ _) _ [] _) (tD _ _ _ (Zh _ _)));first|exists uZ,ZqN,Ztb,ZqL,ZsC,Zul,Ztc,Zvy,ZnQ,ZmB,Zn0,Zqc,ZmX,ZsW,ZlF,ZqK,ZnZ,ZwF,ZsP,Zqz,ZmY,ZnW,ZoK,Zs4,kH,ZsY,Zpx,Zqy,Zs1,Zmd,ZpQ,Zw4,kI,Zmp,Zl4,ZsZ,ZqG,ZmR,ZkL,Zqp,ZpR)
 |(refine(?_:JE _ (.Call (.Name _ _) _ [] _) (EO .l _ _ _ (E9 _ _)));first|exists u0,Zmi,kI,Zjn,ZlI,Zk3)
 |(refine(?_:JE _ (.Call (.Name _ _) _ [] _) (EO .d _ _ _ (Jm _ _)));first|exists u3,ZoA)
 |(refine(?_:JE _ (.Call (.Name _ _) _ [] _) (Ci _ (λs=>D7 _ (_) s)));first|exists u4,Zuy,ZqA,Zup,ZmG,Zku,ZqC)
 |(refine(?_:JE _ (.Call (.Name _ _) _ [] _) _);first|exact sC _ (T.n.get 7 rfl)|exact sD _ (T.n.get 6 rfl) (by first|exact(T.n.get 5 rfl)|exact(T.n.get 2 rfl)|exact(T.n.get 15 rfl)|exact(T.n.get 8 rfl)|exact(T.n.get 13 rfl))|(exists Zo;refine GI Xs YL (by rfl) (T.n.get 7 rfl) (by rfl) ?_)|(exists Mb;refine GI tU tV (by rfl) (T.n.get 7 rfl) (by rfl) ?_)|(exists Fa;refine GI (nX (b:=J') rfl) (qc (b:=J')) (by rfl) (T.n.get 1 rfl) (by rfl) ?_)|(exists PM;refine GI (qg rfl) qj (by rfl) (T.n.get 14 rfl) (by rfl) ?_)|(exists Nw;refine GI (YP (b:=J') rfl) (YS (b:=J')) (by rfl) (T.n.get 10 rfl) (by rfl) ?_)|(exists Nx;refine GI (YP (b:=O') rfl) (YS (b:=O')) (by rfl) (T.n.get 9 rfl) (by rfl) ?_)|(exists PJ;refine GI (mv rfl) qe (by rfl) (T.n.get 10 rfl) (by rfl) ?_)|(exists Jq;refine GI (mu rfl) qd (by rfl) (T.n.get 9 rfl) (by rfl) ?_)|(exists EC;refine GI Y0 Y1 (by rfl) (T.n.get 6 rfl) (by rfl) ?_)|(exists Em;refine Yn ny qa (by rfl) (T.n.get 15 rfl) (by rfl) ?_)|(exists intD;refine Yn mw qf (by rfl) (T.n.get 5 rfl) (by rfl) ?_)|refine Yo nv p9 (by rfl) (T.n.get 8 rfl) (by rfl) ?_|refine Yo (sw rfl) sx (by rfl) (T.n.get 8 rfl) (by rfl) ?_|refine rW rfl r.units (by rfl) (T.n.get 3 rfl) ?_|refine uJ rfl r.units (by rfl) (T.n.get 12 rfl) (by rfl) ?_|exact u9 (T.n.get 6 rfl) T.x T.y|exact u8 (T.n.get 6 rfl) (T.n.get 0 rfl) (va T.y)|refine u5 h r T.cb (Zo4 T) rfl ?_)
 |(refine(?_:JE _ (.Call (.Name _ _) _ _ _) _);first|refine bX h r (kH T) (T.n.get 12 rfl) rfl ?_|refine bX h r (Zqx T) (T.n.get 12 rfl) rfl ?_)
 |(refine(?_:JE _ (.Call (.Attribute _ _ _) _ _ _) _);first|refine bZ h r T.cb (ZlY T) rfl ?_|refine bZ h r T.cb (Zp0 T) rfl ?_|refine N1 h r T.cb (kJ T) rfl ?_ ?_|refine bY h r T.cb (Zlb T) rfl ?_ ?_|refine bY h r T.cb (ZnN T) rfl ?_ ?_|refine N1 h r T.cb (Zph T) rfl ?_ ?_|refine N1 h r T.cb (Zp1 T) rfl ?_ ?_|refine u6 h r T.cb (ZgQ T) rfl ?_|refine N1 h r T.cb (Zl2 T) rfl ?_ ?_|refine N1 h r T.cb (ZoC T) rfl ?_ ?_|refine qJ PySem.F.plainAttrs_str PySem.F.slot_str_join PySem.F.type_str_join nV qM ?_ ?_|refine tj r.units ?_ ?_|refine uE ?_ ?_|refine uF r.units ?_ ?_|refine aG r.units ?_ ?_)
 |(refine(?_:JE _ _ (Ci _ _));first|refine TB ?_|refine uf (bL _ λ_ _=>?_)|refine ug (bL _ λ_ _=>?_))
 |(refine(?_:JE _ _ (tD _ _ _ _));first|refine oi ?_)
 |refine uj ?_
 |refine Qf ?_
 |refine aG r.units ?_ ?_
 |(refine(?_:GY _ _ _);first|exact uM|refine uO Gi (Qd _ λ_ _=>?_) ?_ ?_|refine vu Gi (Qd _ λ_ _=>?_) ?_ ?_|refine uN ?_)
 |(refine(?_:Me _ _ _);first|refine uP ?_|refine vc Gi rfl T.x T.y (by rfl) ?_|refine vt ?_)
 |(refine(?_:Fe _ _ _);first|with_reducible refine vj ?_ ?_|refine b0 h r T.cb Gi (Zn5 T) rfl ?_ ?_|refine b0 h r T.cb Gi (ZkE T) rfl ?_ ?_|refine vH h T.cb Gi (kJ T) rfl ?_ ?_|refine TX h r Gi (kK T) rfl ?_|refine TX h r Gi (kL T) rfl ?_|refine TX h r Gi (kM T) rfl ?_|refine TY h (kK T) rfl ?_|refine TY h (kL T) rfl ?_|refine TY h (kM T) rfl ?_)
 |rfl
 |exact Ek
 |decide)
theorem ZqN:OF P w K mg base 1 "is_whole" (A4 K Z1):=BL ["thing"] (T.f.get 0 rfl) (by trivial)
theorem Ztb:OF P w K mg base 1 "is_word" (A4 K Ix):=BL ["thing"] (T.f.get 1 rfl) (by trivial)
theorem ZqL:OF P w K mg base 1 "whole_of" (A4 K N8):=BL ["ladder"] (T.f.get 9 rfl) (by trivial)
theorem ZsC:OF P w K mg base 1 "line_at" (A4 K Iy):=BL ["line","level"] (T.f.get 10 rfl) (by trivial)
theorem Zul:OF P w K mg base 1 "finest" (A4 K N9):=BL ["ladders"] (T.f.get 19 rfl) (by trivial)
theorem Ztc:OF P w K mg base 1 "cell_of" (A4 K Qt):=BL ["amounts"] (T.f.get 20 rfl) (by trivial)
theorem Zvy:OF P w K mg base 1 "merged" (A4 K Oa):=BL ["one","other"] (T.f.get 21 rfl) (by trivial)
theorem ZnQ:OF P w K mg base 1 "goes_along" (A4 K Qv):=BL ["ways","key"] (T.f.get 23 rfl) (by trivial)
theorem Zuy:OF P w K mg base 1 "put_in" (CN K T5):=Mh ka (T.f.get 29 rfl) (by trivial)
theorem ZqA:OF P w K mg base 1 "take_out" (CN K cy):=Mh kc (T.f.get 30 rfl) (by trivial)
theorem ZlY:OM P w K mg base d Bd 1 "ladders" (A4 K T7):=Qm ["self"] (T.m.get 1 rfl) (by trivial)
theorem Zp0:OM P w K mg base d Bd 1 "rows" (A4 K Qw):=Qm ["self"] (T.m.get 2 rfl) (by trivial)
theorem kJ:OM P w K mg base d Bd 1 "put_ladder" (CN K Mn):=K4 kq (T.m.get 9 rfl) (by trivial)
theorem ZmB:OF P w K mg base 1 "_law_cell_at" (A4 K ZP):=BL kr (T.f.get 39 rfl) (by trivial)
theorem Zn0:OF P w K mg base 1 "_law_stream" (A4 K ZR):=BL (kt.append ["_law_number","_law_found","_law_k"]) (T.f.get 40 rfl) (by trivial)
theorem Zqc:OF P w K mg base 1 "_law_named" (A4 K JN):=BL (ku.append ["_law_signs","_law_size","_law_at","_law_word"]) (T.f.get 41 rfl) (by trivial)
theorem ZmX:OF P w K mg base 1 "_law_refusal" (A4 K ZJ):=BL ["_law_k"] (T.f.get 47 rfl) (by trivial)
theorem ZsW:OF P w K mg base 1 "_law_odd" (A4 K Ob):=BL kA (T.f.get 48 rfl) (by trivial)
theorem ZlF:OF P w K mg base 1 "_law_line_odd" (A4 K Ug):=BL (kF.append ["_law_old","_law_some","_law_other"]) (T.f.get 50 rfl) (by trivial)
theorem ZqK:OF P w K mg base 2 "is_value" (A4 K Oc):=BL ["thing"] (T.f.get 2 rfl) (by trivial)
theorem ZnZ:OF P w K mg base 2 "value_rank" (A4 K QA):=BL ["thing"] (T.f.get 3 rfl) (by trivial)
theorem ZwF:OF P w K mg base 2 "lifts" (A4 K QB):=BL jY (T.f.get 12 rfl) (by trivial)
theorem ZsP:OF P w K mg base 2 "is_axis" (A4 K QC):=BL j2 (T.f.get 15 rfl) (by trivial)
theorem Zqz:OF P w K mg base 2 "is_level" (A4 K Ui):=BL j4 (T.f.get 17 rfl) (by trivial)
theorem ZmY:OF P w K mg base 2 "has_parents" (A4 K La):=BL kj (T.f.get 35 rfl) (by trivial)
theorem ZnW:OF P w K mg base 2 "_law_ladder" (A4 K QF):=BL (kw.append ["_law_xs","_law_many","_law_places","_law_sizes","_law_j","_law_lines","_law_k","_law_line","_law_at"]) (T.f.get 42 rfl) (by trivial)
theorem ZoK:OF P w K mg base 2 "_law_grain" (A4 K QG):=BL (kx.append ["_law_xs"]) (T.f.get 44 rfl) (by trivial)
theorem Zs4:OF P w K mg base 2 "_law_row" (A4 K Um):=BL (ky.append ["_law_xs","_law_key"]) (T.f.get 45 rfl) (by trivial)
theorem kH:OF P w K mg base 3 "key_rank" (A4 K Mo):=BL ["key"] (T.f.get 4 rfl) (by trivial)
theorem ZsY:OF P w K mg base 3 "is_line" (A4 K JP):=BL ["thing"] (T.f.get 6 rfl) (by trivial)
theorem Zpx:OF P w K mg base 3 "ladder_on" (A4 K Mq):=BL WP (T.f.get 16 rfl) (by trivial)
theorem kK:OX P w K mg base 3 "ladder_on" (Ff K Oh):=TW WP (T.f.get 16 rfl) (by trivial)
theorem Zqy:OF P w K mg base 3 "is_grain" (A4 K Lb):=BL j5 (T.f.get 18 rfl) (by trivial)
theorem Zs1:OF P w K mg base 3 "ways_up" (A4 K QJ):=BL j6 (T.f.get 22 rfl) (by trivial)
theorem Zmi:OF P w K mg base 3 "_law_ladders" (A4 K Oi):=BL ["_law_script","_law_many","_law_ladders_here"] (T.f.get 43 rfl) (by trivial)
theorem Zmd:OF P w K mg base 4 "go_together" (A4 K Zu):=BL ["lines","seen","finest_seen","line","level","value","later"] (T.f.get 7 rfl) (by trivial)
theorem Zqx:OF P w K mg base 4 "row_rank" (A4 K QS):=BL ["row"] (T.f.get 28 rfl) (by trivial)
theorem Zlb:OM P w K mg base d Bd 4 "is_kept" (A4 K UJ):=Qm ["self","thing"] (T.m.get 8 rfl) (by trivial)
theorem ZpQ:OF P w K mg base 5 "is_ladder" (A4 K JQ):=BL ["thing"] (T.f.get 8 rfl) (by trivial)
theorem Zw4:OF P w K mg base 5 "grown" (A4 K UL):=BL (WR.append ["lines"]) (T.f.get 37 rfl) (by trivial)
theorem kL:OX P w K mg base 5 "grown" (Ff K Oo):=TW (WR.append ["lines"]) (T.f.get 37 rfl) (by trivial)
theorem ZnN:OM P w K mg base d Bd 5 "table" (A4 K QT):=Qm ["self","grain"] (T.m.get 7 rfl) (by trivial)
theorem kI:OF P w K mg base 6 "in_order" (A4 K Op):=BL ["keys","told","key"] (T.f.get 5 rfl) (by trivial)
theorem Zmp:OF P w K mg base 6 "are_ladders" (A4 K Oq):=BL ["thing"] (T.f.get 38 rfl) (by trivial)
theorem Zph:OM P w K mg base d Bd 6 "grow" (CN K Mr):=K4 WT (T.m.get 6 rfl) (by trivial)
theorem Zn5:OM P w K mg base d (Ip P w) 6 "grow" (Ff K JU):=ce WT (T.m.get 6 rfl) (by trivial)
theorem Zjn:OF P w K mg base 7 "values_in_order" (A4 K UR):=BL ["values"] (T.f.get 11 rfl) (by trivial)
theorem ZlI:OF P w K mg base 7 "merged_along" (A4 K UU):=BL ["ways","table","cells","key","cell","there"] (T.f.get 24 rfl) (by trivial)
theorem Zl4:OF P w K mg base 7 "keys_changed" (A4 K QV):=BL (kh.append ["cells_ahead","cells_behind","keys"]) (T.f.get 33 rfl) (by trivial)
theorem ZsZ:OF P w K mg base 8 "beneath" (A4 K QW):=BL jZ (T.f.get 13 rfl) (by trivial)
theorem ZqG:OF P w K mg base 8 "table_of" (A4 K QX):=BL (j7.append ["single"]) (T.f.get 25 rfl) (by trivial)
theorem Zk3:OF P w K mg base 8 "cells_changed" (A4 K U4):=BL (ki.append ["changed","grain"]) (T.f.get 34 rfl) (by trivial)
theorem ZmR:OF P w K mg base 9 "is_value_at" (A4 K Zv):=BL j0 (T.f.get 14 rfl) (by trivial)
theorem ZoA:OF P w K mg base 9 "tables_at" (A4 K QZ):=BL kg (T.f.get 32 rfl) (by trivial)
theorem Zp1:OM P w K mg base d Bd 9 "keep" (CN K Oz):=K4 ["self","grain"] (T.m.get 4 rfl) (by trivial)
theorem ZkL:OF P w K mg base 10 "is_finest_key" (A4 K Vd):=BL j8 (T.f.get 26 rfl) (by trivial)
theorem Zqp:OF P w K mg base 10 "regrouped" (A4 K Vi):=BL (WQ.append ["rest"]) (T.f.get 36 rfl) (by trivial)
theorem kM:OX P w K mg base 10 "regrouped" (Ff K Iz):=TW (WQ.append ["rest"]) (T.f.get 36 rfl) (by trivial)
theorem Zo4:OM P w K mg base d Bd 10 "__init__" (CN K Vj):=K4 km (T.m.get 0 rfl) (by trivial)
theorem ZgQ:OM P w K mg base d Bd 10 "tables_renewed" (CN K Q2):=K4 ["self","ahead"] (T.m.get 10 rfl) (by trivial)
theorem ZpR:OF P w K mg base 11 "is_change" (A4 K Q3):=BL j9 (T.f.get 27 rfl) (by trivial)
theorem Zl2:OM P w K mg base d Bd 11 "regroup" (CN K Q5):=K4 WS (T.m.get 5 rfl) (by trivial)
theorem ZkE:OM P w K mg base d (Ip P w) 11 "regroup" (Ff K JV):=ce WS (T.m.get 5 rfl) (by trivial)
theorem Zup:OF P w K mg base 12 "poured" (CN K Vo):=Mh (kf.append ["standing","change"]) (T.f.get 31 rfl) (by trivial)
theorem ZmG:OF P w K mg base 12 "_law_outcome" (CN K ZK):=Mh (kz.append ["_law_found","e","_law_kinds"]) (T.f.get 46 rfl) (by delta Ms Q8 Q7 Vr fw;trivial)
theorem ZoC:OM P w K mg base d Bd 13 "pour" (CN K Vt):=K4 ko (T.m.get 3 rfl) (by trivial)
theorem Zku:OF P w K mg base 13 "_law_regrouped" (CN K VH):=Mh (kC.append ["_law_xs","_law_axis","_law_ladder_here","_law_level","_law_value","_law_line","_law_things","_law_due","_law_at","_law_one"]) (T.f.get 49 rfl) (by trivial)
theorem ZqC:OF P w K mg base 13 "_law_grew" (CN K VS):=Mh (kG.append ["_law_xs","_law_axis","_law_ladder_here","_law_new","_law_line","_law_due"]) (T.f.get 51 rfl) (by trivial)
theorem ZBo{fn:Ac}{fd:B3}(D:DI K mg "law" (Bg 86) ["_law_script"] fn fd):AO P w K mg base Bd 14 fn fd ["_law_script"] (CN K gz):=bW ["_law_script","_law_ladders_here","_law_book","_law_rows","_law_k","_law_line","_law_ahead","_law_low","_law_first","_law_cell_here"] D (by trivial)
end
end
theorem fin{l:PySem.W.OpenLaw}{w:Ai}{K:Am}{h:Ak}{mg:Bi}{b:Ac}(_:K.In h)(a:mg "law"=Z (.ref b)):(∃d,Tx K mg d)->∃fd:B3,(∀(s:Ab)(v:Aa),BindsTo s fd #[[v],[]] [("_law_script",v)])/\∀base:Ak,K.In base->base.Ns BM mg->AO l.prog w K mg base Bd 14 b fd ["_law_script"] (M9 K):=λ⟨_,T⟩=>let⟨_,_,D⟩:=T.f.get 52 rfl;uL a D (λ_=>ZBo T D) (λns _=>ZvP ns) λ_ _ _ _ _ _ _=>rfl
theorem walk{l:PySem.W.OpenLaw}{q:AJ}{b:U Ae}{i:(Bi)->Ak->Prop}{e:Ai->Ak->Prop}{d:DefRec}{K:Params->Am}(j:l.most=Z 63)(c:d.params.defaults=[]) (m:∀(w:Ai) (h:Ak),e w h->(K w.params).In h) (F:∀(w:Ai) (mg:Bi) (g:Ac) (h:Ak),(K w.params).In h->h.Ns BM mg->mg d.name=Z (.ref g)->∃fd:B3,(∀(s:Ab) (u:Aa),BindsTo s fd #[[u],[]] [("_law_script",u)])/\∀base:Ak,(K w.params).In base->base.Ns BM mg->AO l.prog w (K w.params) mg base Bd 14 g fd ["_law_script"] (M9 (K w.params))):PySem.W.WalkO q b i e l.row.toRowW d [] (λf vs=>PySem.call f vs):=L2.walk_of (n:=63) (k:=14) (x:="_law_script") (CX:=λ_=>Bd) (sp:=λw=>M9<|K w.params) j (by ext) c ⟨rfl,by ext,by ext⟩ m F (λ_ _ a ns o _ p=>#[a,ns,rfl,p,o,λ_=>rfl]) λ_ _ _ _ _ z=>z
end K55
variable{acc:U K55.Cc}{ls:K55.A3}
end
structure PySem.W.Fast:Prop where(tw9504607546499280756 tw9413504592423177773 tw536567480747048445 tw12878381040812915951 tw14919155464094495378 tw2834555686329000872 tw10548116714622286718 tw303567758910987090 tw7095958878061454667 tw11358857696475472313 tw6930474750016001190 tw1165806541249660984 tw16476912063277888479 tw10220071156793478414 tw4153384229148343902 tw14841444043895141357 tw10276640471145445242 tw10870532653962514718 tw17914490961284629271 tw15025540928014076147 tw1038463676610587547 tw2895523275243068795 tw6626398401782360014 tw5616945667559670726 tw1673964295244043983 tw6912261171741309006 tw14574631059025814508 tw13906304464686931290 tw17980284210167620093 tw13199766076487731444 tw17436378272606493080 tw10253864944155809186 tw2051501857140265801 tw8317110841746488379 tw11331889336314488494 tw15686588479061838425 tw14848454924812912869 tw2649449908378171074 tw12740959855064416056 tw3298204356202254475 tw13116316252833145761 tw14956893515030921137 tw13528132530743304482 tw9751094153671783053 tw14338082812575877586 tw13412392253353682668 tw17397652389230126632 tw3209860005023252812 tw3618571717168577540 tw6245186752576332697 tw17339347455467982599 tw6414567301827061991 tw9167802901115308121 tw722775762635753145 tw2985253914473842393 tw14313175971434488818 tw16675234036519392945 tw12226192276625887264 tw15534589697337993883 tw58307932310487622 tw1376660787326751262 tw415514036003963014 tw14670091315054260209 tw5726922213252725456 tw13851333070919820463 tw4439736350833306120 tw4976858418321292054 tw10464966057600021132 tw14637354605220153537 tw11108470756473721026 tw10044754139748251773 tw6838462185013008263 tw13895849431406941599 tw10219419695918529394 tw12482644238469730617 tw11702988630738003184 tw16445470391151989391 tw4876866433590923160 tw18370209702492011795 tw12459469919123061084 tw4933835928266578156 tw2977411569697347571 tw16139523176431635377 tw6967220495624891986 tw14256414930872006735 tw12661674602221149359 tw347339432103120237 tw11101159658081581161 tw12428664631042232516 tw6883393997263869601 tw9948333647918332568 tw2668545102074950684 tw3745184503962278154 tw659640043178040525 tw14097958342818045014 tw4813391124542378436 tw13996131432958230609 tw18132378774254486517 tw16373711339201077459 tw18310013234165342988 tw6299161957024076690 tw5576560040531346782 tw732018139086557204 tw1617851382781078614 tw6993885938887052698 tw599991961856674235 tw11124885662539519276 tw10611734883267310170 tw11993769720684145037 tw9753407184478339617 tw14670889228756154738 tw13622833324421936904 tw18390845965991917105 tw3770796661412837951 tw6367834078489688492 tw16522153245852392609 tw8137054784570748054 tw13368048123354975414 tw6248410953945818696 tw5204527386858599717 tw7683672222809153080 tw14085384362679127335 tw9574971298025306914 tw6517017143770090525 tw13296391150017050670 tw17963412873002304822 tw16158456948928918653 tw11596114672288477229 tw8059015283003492973 tw8871788496322251596 tw13606733777913649961 tw3208464502091446171 tw17201565667619058886 tw10941152806656355843 tw15965454030995132189 tw8057819993603077401 tw10573543109690411910 tw4949051402101319995 tw13668035133251322029 tw17389092800766373577 tw16734676610761454408 tw12658580904424823229 tw1903610256673929985 tw36311079793223969 tw572669277658019051 tw6462804143727700805 tw17393779189611657432 tw923139687481532053 tw2701928097806662968 tw8661900535896956964 tw10729250804567726600 tw11856824643258234809 tw7489553065905390778 tw15835426349792610196 tw5209789211284472034 tw13808745053761608319 tw2889900217517025810 tw5475879921503392325 tw1707701211683128081 tw5221438215291564452 tw12082468263388562525 tw10243191178446541312 tw14408766414596454816 tw8790889479479686883 tw11891855785096341819 tw8512511689228489281 tw7330395594435533112 tw515629110922738395 tw17302887417951792207 tw6278890672701942758 tw6422107682787381638 tw8124810399491353329 tw2122697841801698303 tw1003826522874110210 tw18443798912965974153 tw16151324091595654757 tw14259737810629820226 tw11441687016559017855 tw7194404674507147009 tw7733306488354451632 tw8756786133741445293 tw17840202575830477696 tw4175482680764415442 tw9623878010280388687 tw18236750989205834941 tw17356905976976005755 tw3083500078778070878 tw17741169716003267325 tw6892278713355374721 tw16241877763098717340 tw7830887734641280847 tw7478461993496787311 tw12943449069662746831 tw15409718480572317944 tw10256830705489648798 tw12826675677348948171 tw11004271084338218966 tw12225908262468427611 tw8053927486598569184 tw682736766820072973 tw15220343649453899931 tw4834306736280956608 tw1266499959150151988 tw2903786864879672838 tw8851293072760643152 tw6548641917799531283 tw1790246636834897472 tw18143107789861823680 tw9351932712430367333 tw6705852370954515756 tw7121493400200870576 tw5452698190400902282 tw933688541426705103 tw12922243211382064225 tw11530452337767305802 tw5289856165676697452 tw13824342551455225637 tw10182179622934521885 tw9646247833725114038 tw5277785654069811381 tw2036266823040779261 tw15018754670486271037 tw10031575797531713214 tw16942787397195755387 tw7562507589820103314 tw5868557840565090534 tw3192885711393273163 tw2529109682535611411 tw13598735640959147970 tw13064834229659196761 tw12338063509456975882 tw12111348238982977304 tw7420338024305384973 tw1116344730072346598 tw13892226883847968008 tw7497865617272389656 tw10147296761839951465 tw728067598402310956 tw16964742536025192333 tw8298725756807440758 tw10031584337854332227 tw17489882661693574620 tw7260142419010442731 tw17128798811091219907 tw14614811521961324648 tw10858855247994833757 tw7861898845411036483 tw5314694182922848999 tw4360312024224160361 tw3666618369299504997 tw13271071049846073771 tw17091949752767391011 tw16344481383402631731 tw15882462572573193824 tw4822258889355219215 tw8023034532874128060 tw13578738806294531408 tw13014070176014537801 tw4947198849933553552 tw3770695267025093031 tw17605889371841491928 tw18435691143768313671 tw12612609619417813044 tw11914668888758217805 tw12438352389596343013 tw17737916573225663885 tw12737246583826315155 tw9002691090141024762 tw7348709857769072552 tw6514684278586529385 tw16661354769661971414 tw4792260101492844223 tw14212096234056137585 tw8041035375095958163 tw7615440473950565226 tw6125259089416992049 tw3614377275201323741 tw3201622869888069946 tw16036140298277873176 tw14917711792761775303 tw10415433155806357256 tw597730427458133429 tw11013289329573434228 tw11223246274802802007 tw273646586789657565 tw9453369652895024898 tw3807782521577696591 tw14047377152069492767 tw13987584770213597814 tw16646673263722374629 tw9299820363396174484 tw5757965292079771907 tw14582390681228264702 tw10423351070654976028 tw10334717690475362700 tw9902874449478876615 tw7913701934975549017 tw5565593841766977995 tw2764167869414602181 tw2699782431103417200 tw13555098782074663366 tw9122699958873174411 tw9511593489456817178 tw8904172918628826525 tw2753364524440357162 tw1498902047101009208 tw619142398948914111 tw7396494438530748460 tw402658883037759838 tw3936276945830905005 tw13254321858471762694 tw8519481140112288688 tw13927230133727504301 tw13054469097599118399 tw8948550228031634438 tw547837570475016520 tw4138258907790548213 tw16354696780228264187 tw14468174097493866803 tw8029723612481617741 tw6081421047799937411 tw14553877688917550640 tw10571714463735371981 tw597324657332357910 tw9368750455378420784 tw18348358691222424960 tw17838179426822867956 tw17064368737493060395 tw17190429135610231815 tw1072708813724020532 tw15501825948312143083 tw13158371478275621641 tw18405917128011428989 tw14962187808717681393 tw2794931646006636961 tw2502933079488177039 tw17596249684501767326 tw9789967977684150698 tw16345587755243389061 tw12278147769785349123 tw11696462600491860992 tw15681428185455571883 tw14368211563673136554 tw660374068984819212 tw10711058941460596563 tw6686463792132867884 tw3747150984792850667 tw14164787007648292413 tw11599523018440689912 tw4143843751267483775 tw11080964731661706094 tw11218130797217275057 tw8545019464916637464 tw14545178849278564147 tw16538055447492713696 tw3987671452101404659 tw6995542056213214149 tw1862300827452439446 tw17790533969610281377 tw16993908876867236581 tw16738849955026782626 tw12747794390135816607 tw8910075121816482198 tw10463045161590481056 tw6376277514206892863 tw5262506793063405287 tw3712997623930542489 tw4816254683931437127 tw15262234270436343896 tw6515621221390242449 tw14890855740439085327 tw16201653501719690101 tw7297446383880781571 tw11751105287345928663 tw16947221627937907170 tw9225381151457040373 tw1677621015419377046 tw14381550076295795783 tw8481814692093090424 tw12605534087882396698 tw17643713428064688489 tw15847824217862237961 tw11917211490800223783 tw8682782104338172750 tw5053795579936028471 tw9557012622056179368 tw7437883634310479205 tw5523425617810918990 tw4848067483024630562 tw15784251805997719247 tw14132592091063165817 tw13963532332203218303 tw11750003707059041753 tw8615310017806990366 tw7075085595073304370 tw6405413807739146122 tw3823660797271044962 tw181914758075384633 tw17871109576523140504 tw16589562679167917922 tw1523800007080259944 tw1233753978093413943 tw11912555868250078087 tw5810099068975042713 tw18005615017076357290 tw12588874687723805508:True)
open PySem PySem.W PyProof.Rows
set_option maxRecDepth 100000 in
set_option maxHeartbeats 0 in
theorem PySem.Challenge.cw_cubebook_k55_regrouped_and_grown_holds : PySem.Challenge.rw_cubebook_k55_regrouped_and_grown.Holds := by
 w_on;o_law;k_head;(case hw=>w_witness2)
 k_fill
 refine K55.walk (l:=PySem.Challenge.rw_cubebook_k55_regrouped_and_grown) rfl rfl (fun w h Y=>PySem.W.kIn_of Y) ?F
 case F =>
  intro w mg fa h KX G hmg
  open L2 in refine' K55.fin KX hmg ⟨_,⟨L2.ci KX G ?_ ?_ ?_ ?_ ?_ ?_ ?_,?_,?_,?_,?_,?_,?_,?_,⟨_,mg_of KX G ?_,?_⟩,?_,?_⟩⟩
  open L2 in repeat (any_goals (show L2.All _ _;first | exact True.intro | refine' ⟨⟨_,_,L2.di KX G ?_ ?_ ?_ ?_⟩,?_⟩ | refine' ⟨⟨_,_,L2.mi ?_ ?_ ?_ ?_ ?_⟩,?_⟩ | refine' ⟨mg_none_of KX G ?_,?_⟩ | refine' ⟨⟨_,mg_of KX G ?_,⟨_,rfl⟩⟩,?_⟩ | refine' ⟨⟨_,mg_of KX G ?_,?_⟩,?_⟩ | refine' ⟨⟨_,?_,L2.mk_of ?_ ?_,⟨?_,?_,?_,?_,?_,?_,⟨_,?_⟩⟩,L2.kit_V ?_,⟨_,?_,L2.exm_of ?_ ?_ ?_ ?_⟩,?_⟩,?_⟩ | refine' ⟨⟨_,?_,?_⟩,?_⟩))
  all_goals try (show (_:Prop);first | k_is | rfl | k_exc | exact L2.kit_self | (refine' L2.kit_ne ?_ ?_ ?_ ?_<;>first | k_is | rfl))
#print axioms PySem.Challenge.cw_cubebook_k55_regrouped_and_grown_holds
