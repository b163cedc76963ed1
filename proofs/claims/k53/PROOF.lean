import PyProof.Rows.All
import Wide.All
import OpenK.AllK
import Wide.FinOn
import Lean
import PyProof.EqAt
import PyProof.EqKinds
import PyProof.TupleCall
import PyProof.TupleKey
import PyProof.DictRoadsH
import Wide.Seal
import PyProof.NeKinds
import PyProof.ZipIter
import PyProof.EnumMake
import PyProof.Rows.TupTab
import KE.KDictLaws
import PyProof.AutoListH
import PyProof.AttrMissHeap
import KE.KDictOf
import KE.KIntText
import PyProof.StrBlockL
import PyProof.StrLawsChain
import PyProof.FString
import PyProof.Rows.FStr
import OpenK.KOwn
import KE.KIsAll
import KE.KDictList
import PyProof.Draws
import PySem.Challenge.RW_cubebook_k53_changes_told
open PySem.W renaming Frag→Ap,keepIn→IB,findIn→Jr,instObj→Kq,fnOf→Jt,emptyDict→Nv
open PySem renaming wpAny_bind→Ao,sizeLine→AB,Spec→Qah,wpAny_pure→AW,starEach→AK,Program→AL,foldedSetIterable→EF,mainGlobals→C4,wpAny_loadPart'→EU,FuncData→Cr,attributeBase→E8,compareOp→Dz,bootBuiltins→E4,swapsWith→DW,wpAny_setField_rec→Ik,wpAny_holding→Gi,Keyword→DA,keywordEach→FR,wpAny_field→FU,wpAny_callSpecial?_slot→LR,behindInMarks→Hf,holding→DY,wpAny_truthy_bool→Jq,mem_of_lookup→KA,wpAny_rule→FV,assignEach→Gg,wpAny_newObj_type→KG,wpAny_call_entry→KD,tupleKind_room_in1→Mp,sizeLine_eq→HN,sysModules→Hd,backToKw→FQ,codeAny_builtin→KO,wpAny_Call_Name_kw→Nw,wpAny_passesOwn→LJ,binaryOp→Hh,NameKind→Hj,wpAny_getItem_str_slice→SU,plainId_quiet→L1,DictEntry→Ix,wpAny_typeNameOfWhole_keyiter→bE,wpAny_pyIter_list→Pl,wpAny_typeOf→LU,wpAny_attempt→On
open List renaming mem_cons_of_mem→Bg,mem_cons_self→Ba,map_cons→AU,length_map→Bn,getElem?_eq_getElem→Ch,getElem?_eq_some_iff→Cm,mem_map→Bi,size_toArray→B3,mem_cons→Bp,mem_singleton→Cw,length_cons→Ck,range→Bt,mem_append_right→De,getElem?_map→CF,mem_append→Cj,getElem?_append_left→D9,getElem?_set_ne→Dy,append_assoc→C8,getElem?_append_right→Fp,map_map→CC,getElem?_set_self→ER,length_append→Ea,getElem?_cons_succ→FD,all_eq_true→DK,getElem?_cons_zero→FK,map_nil→CW,map_append→DM,nil_append→DU,append_nil→D1,mem_map_of_mem→Fh,replicate→Es,drop_eq_getElem_cons→HV,mem_range→ED,take_of_length_le→Hu,range'→DT,set_cons_zero→GB,cons_append→F3,getElem_mem→F7,set_cons_succ→GZ,take_append_drop→IU,nodup_cons→Gk,getD→DP,extract→Fd,pairwise_append→IR,mem_filter→GH,perm_append_comm→J2,getElem?_replicate→KC,range_eq_range'→Kg,ext_getElem?→IG,length_nil→HU,pairwise_singleton→My,mem_append_left→Ks,getElem?_append→KU,range'_succ→Ji,zipWith→GV,drop_eq_nil_of_le→L0,nodup_append→JV,replicate_zero→Lz,length_replicate→LP,length_singleton→LX,zip_cons_cons→KJ,mem_of_getElem?→LO,length_eq_zero_iff→NP,length_set→Jw,replicate_succ→M5,length_take→Kz,getElem?_drop→LZ,foldl_cons→Lc,zipWith_cons_cons→RQ,pairwise_cons→Oo,length_filter_le→RX,pairwise_iff_getElem→TU,not_mem_nil→NZ,of_mem_zip→Nx,length→Ky,drop_zero→NR,filter_sublist→WJ,getElem?_take_of_lt→XO
open PySem.Heap renaming get?_push_of_some→By,get?_push_size→Cg,lt_size→BK,SameBut→Eo,size_push→LN,get?_update_other→SJ,get?_update_self→SH
open Nat renaming le_refl→A4,lt_of_lt_of_le→B7,le_trans→Bu,ne_of_lt→Ca,zero_lt_of_lt→D7,lt_of_add_right_lt→FA,lt_of_succ_lt→Fe,sub_one_lt_of_lt→GP,lt_of_le_of_lt→Gs,lt_or_ge→Ew,le_of_not_lt→Gm,zero_le→ET,lt_of_le_of_ne→Ig,le_add_right→Hw,eq_of_le_of_lt_succ→Lb,le_of_lt→FP,lt_of_sub_eq_succ→KN,lt_of_lt_of_eq→Js,add_le_add_iff_left→Mz,le_sub_one_of_lt→La,reduceAdd→HH,one_le_iff_ne_zero→MB,le_of_succ_le→J1,sub_one_lt_of_le→MA,le_add_right_of_le→Ny,lt_irrefl→Iy,lt_of_not_le→K8,ne_of_gt→IA,zero_add→IX,lt_trans→Jz,add_lt_of_lt_sub'→P9,le_antisymm→MC,reduceSub→Ly,add_sub_of_le→NA,le_of_lt_succ→Oc,le_succ_of_le→Og,le_of_eq→LM,le_of_ble_eq_true→TH
open Option renaming map_eq_some_iff→B8,bind_eq_some_iff→Cc,bind→Df,map→El,map_some→Nz
open PyProof.Rows renaming wpS_bind→AY,wpS_pure→Bd,callWith_type1→Nq,pendingOf→Gu,SortKind→Gb,wpS_forRange→K9,failedOf→Hy,setPending→J7,listUpdate_at→Oq
open False renaming elim→BL
open Ne renaming symm→Bz
open Bool renaming and_eq_true→DC,false_eq_true→Fs,and_self→HG,false_ne_true→LF,not_false→JQ,not_true→KZ,not_eq_true→PX
open Array renaming toList_push→EK,toList_extract→Ie,toList_append→IT,size_map→Ih,length_toList→Kt,toList_inj→J3,getElem?_toList→NI,getD→IP,toList_reverse→Qe,getElem?_eq_getElem→bq
open Option.some renaming inj→EE,injEq→PM
open Int renaming toNat_natCast→GR,emod_lt_of_pos→Jj,emod_nonneg→Iu,natCast_nonneg→Lk,toNat_of_nonneg→MW,natCast_pos→M6,zero_le_ofNat→Ry,ofNat_lt→M8,lt_of_not_ge→Pu,toNat_natCast_add_one→h6
open PySem.Value renaming ref→Dx
open ForInStep renaming yield→GI,done→J5
open Break.runK renaming match_1→IQ
open PySem.F renaming plainAttrs_list→Mb,slot_dict_setdefault→Tw,slot_enumerate_next→Ui,slot_list_append→Yx,type_list_append→Yy,args_tuple_add_2→YE,entry_tuple_add→YD,plainAttrs_dict→aQ,slot_dict_keyiterator_next→tm
open PySem.Paired renaming length→Hc
open PySem.Obj renaming mapSeq→FY,data_mapFields→T9
open Classical renaming byContradiction→ND,propDecidable→PN
open PySem.Builtin.Str renaming occurrences→Nt
open PySem.Heap.SameBut renaming update→Mr
open PySem.NameKind renaming free→Jy
open True renaming intro→HP
open PySem.Str renaming ofString→Ju
open List.Perm renaming append_left→Qd
open Eq renaming trans→G9
open PySem.Builtin.Slice renaming slicePlaces→SF,sliceAdjust→XR
open LawfulBEq renaming eq_of_beq→Ii
open PySem.Builtin.SmallTypes renaming nextOf→bR
open PySem.Calls renaming call_function_entry→b0
open PySem.PassesOwn renaming never→Sh
open PySem renaming Value→Aa,Shared→Ab,Addr→Ac,model→Ae,Str→Af,Around→Ag,World→Aj,Heap→Am,eval→Ar,cLine→Av,Builtin→Aw,Pos→AC,backTo→AE,Stmt→AG,rawInt→Bx,call_meets→BY,sliceBounds→B4
open PyProof.Rows renaming SortSt→Ah,Keyed→An,envOfC→Bk,elem'→BB
open Pure renaming pure→Al
open Option renaming some→Z,none→J
open Bool renaming true→J',false→O'
abbrev U:=@List
abbrev O:=@Option
set_option Elab.async false
set_option linter.all false
set_option backward.eqns.nonrecursive false
set_option tactic.hygienic false
set_option maxHeartbeats 4000000
set_option maxRecDepth 100000
abbrev AR:=PySem.Value->PySem.Shared->Prop
abbrev DV(x:PySem.Str):Prop:=(x==("__debug__":PySem.Str))=O'
abbrev A0:=U (PySem.Addr×PySem.Obj)
abbrev BC:=PySem.Str->O PySem.Value
theorem Z7{b:Type}{c:Prop}[Decidable c]{a:O b}{r:b}(h:(if c then a else J)=Z r):c/\a=Z r:=by
 split at h
 ·exact⟨‹_›,h⟩
 ·cases h
noncomputable section
set_option bootstrap.genMatcherCode false
set_option genSizeOf false
set_option genSizeOfSpec false
set_option compiler.extract_closed false
set_option bootstrap.genMatcherCode false
set_option genSizeOf false
set_option genSizeOfSpec false
open List renaming toArray->T'
local macro_rules|`(#[$a,*])=>`(⟨$a,*⟩)
local macro_rules|`(tactic|erw[$[$t:term],*]$[$l]?)=>`(tactic|simp only[$[$t:term],*]$[$l]?)
local macro_rules|`(tactic|ext)=>`(tactic|decide)
local macro_rules|`(tactic|let$d:letDecl)=>`(tactic|have$d:letDecl)
theorem zX1{A}{p:A->Prop}{G:Prop}(h:∃a,p a)(k:∀a,p a->G):G:=by obtain⟨a,h⟩:=h;exact k _ h
theorem zX2{A B}{p:A->B->Prop}{G:Prop}(h:∃a b,p a b)(k:∀a b,p a b->G):G:=by obtain⟨a,b,h⟩:=h;exact k _ _ h
theorem zX3{A B C}{p:A->B->C->Prop}{G:Prop}(h:∃a b c,p a b c)(k:∀a b c,p a b c->G):G:=by obtain⟨a,b,c,h⟩:=h;exact k _ _ _ h
theorem zX4{A B C D}{p:A->B->C->D->Prop}{G:Prop}(h:∃a b c d,p a b c d)(k:∀a b c d,p a b c d->G):G:=by obtain⟨a,b,c,d,h⟩:=h;exact k _ _ _ _ h
theorem zX5{A B C D E}{p:A->B->C->D->E->Prop}{G:Prop}(h:∃a b c d e,p a b c d e)(k:∀a b c d e,p a b c d e->G):G:=by obtain⟨a,b,c,d,e,h⟩:=h;exact k _ _ _ _ _ h
theorem zX6{A B C D E F}{p:A->B->C->D->E->F->Prop}{G:Prop}(h:∃a b c d e f,p a b c d e f)(k:∀a b c d e f,p a b c d e f->G):G:=by obtain⟨a,b,c,d,e,f,h⟩:=h;exact k _ _ _ _ _ _ h
theorem zX7{A B C D E F I}{p:A->B->C->D->E->F->I->Prop}{G:Prop}(h:∃a b c d e f i,p a b c d e f i)(k:∀a b c d e f i,p a b c d e f i->G):G:=by obtain⟨a,b,c,d,e,f,i,h⟩:=h;exact k _ _ _ _ _ _ _ h
theorem zN2{a b G:Prop}(h:a∧b)(k:a->b->G):G:=k h.1 h.2
theorem zN3{a b c G:Prop}(h:a∧b∧c)(k:a->b->c->G):G:=k h.1 h.2.1 h.2.2
theorem zN4{a b c d G:Prop}(h:a∧b∧c∧d)(k:a->b->c->d->G):G:=k h.1 h.2.1 h.2.2.1 h.2.2.2
theorem zN5{a b c d e G:Prop}(h:a∧b∧c∧d∧e)(k:a->b->c->d->e->G):G:=k h.1 h.2.1 h.2.2.1 h.2.2.2.1 h.2.2.2.2
theorem zN6{a b c d e f G:Prop}(h:a∧b∧c∧d∧e∧f)(k:a->b->c->d->e->f->G):G:=k h.1 h.2.1 h.2.2.1 h.2.2.2.1 h.2.2.2.2.1 h.2.2.2.2.2
theorem zN7{a b c d e f i G:Prop}(h:a∧b∧c∧d∧e∧f∧i)(k:a->b->c->d->e->f->i->G):G:=k h.1 h.2.1 h.2.2.1 h.2.2.2.1 h.2.2.2.2.1 h.2.2.2.2.2.1 h.2.2.2.2.2.2
theorem zN8{a b c d e f i j G:Prop}(h:a∧b∧c∧d∧e∧f∧i∧j)(k:a->b->c->d->e->f->i->j->G):G:=k h.1 h.2.1 h.2.2.1 h.2.2.2.1 h.2.2.2.2.1 h.2.2.2.2.2.1 h.2.2.2.2.2.2.1 h.2.2.2.2.2.2.2
theorem zN9{a b c d e f i j l G:Prop}(h:a∧b∧c∧d∧e∧f∧i∧j∧l)(k:a->b->c->d->e->f->i->j->l->G):G:=k h.1 h.2.1 h.2.2.1 h.2.2.2.1 h.2.2.2.2.1 h.2.2.2.2.2.1 h.2.2.2.2.2.2.1 h.2.2.2.2.2.2.2.1 h.2.2.2.2.2.2.2.2
open Lean Parser Tactic in def dZ(n:Nat)(xs:Array Term)(e:Term)(fs:Array (TSyntax `tactic)):Nat->TSyntax `tactic->MacroM (TSyntax `tactic)|0,a=>return a|k+1,a=>do let m:=n-1-k;let f:=λ(s:String)(i:Nat)=>mkIdent (.mkSimple (s++toString i));let z:=mkIdent `zZ;let y←`(λ $(xs.extract m n)* =>?_);let t←(if m=0 then `($(f "zN" n) ($e :) $y) else if k=0 then `($(f "zX" m) ($e :) λ $xs* =>?_) else `($(f "zX" m) ($e :) λ $(xs.extract 0 m)* $z=>$(f "zN" (k+1)) $z $y));let b←dZ n xs e fs k a;let c←`(tactic|try clear $z);`(tactic|first|(refine $t;$c;$[$fs]*)|$b:tactic)
local macro_rules|`(tactic|let($a,$b,*):=$e)=>do let cs:=(Array.mk [a])++b.getElems;let (xs,fs)←cs.foldlM (λ (xs,fs) c=>do let z:=Lean.mkIdent (.mkSimple (toString e.1.getId++"z"++toString xs.size));match c with|`(rfl)=>return (xs.push z.1,fs.push (←`(tactic|subst $z)))|`(($a,$b,*))=>return (xs.push z.1,fs.push (←`(tactic|let($a,$b,*):=$z)))|_=>return (xs.push c.1,fs)) ((Array.mk []:Array Lean.Syntax),(Array.mk []:Array (Lean.TSyntax `tactic)));let ps←xs.mapM λx=>if x.isIdent then`(Lean.Parser.Tactic.rcasesPatLo|$(⟨x⟩):ident)else`(Lean.Parser.Tactic.rcasesPatLo|_);let r←`(tactic|(obtain⟨$ps,*⟩:=$e;$[$fs]*));if (e.1.find? λs=>s.isOfKind ``Lean.Parser.Term.syntheticHole).isSome||e.1.isIdent&&cs.any λc=>(c.1.find? λs=>s.getId==e.1.getId).isSome then return r else let d←`(tactic|try clear $(⟨if e.1.isIdent then e else Lean.mkIdent `zZ⟩));dZ cs.size (xs.map (⟨·⟩)) e ((Array.mk [d])++fs) cs.size r
local macro_rules|`(∅)=>`(by lia)
local macro_rules|`(tactic|apply$e)=>if e.raw.isOfKind ``Lean.Parser.Term.paren then Lean.Macro.throwUnsupported else`(tactic|refine $e)
local macro_rules|`(tactic|show$e)=>`(tactic|exact $e)
local macro_rules|`(tactic|exists$e)=>`(tactic|simpa using $e)
local macro_rules|`(tactic|symm)=>`(tactic|decide +kernel)
local macro_rules|`(command|open J in$c)=>`(command|set_option tactic.hygienic true in $c)
local macro_rules(kind:=Lean.Parser.Command.declaration)|x=>if(x[1].isOfKind ``Lean.Parser.Command.definition||x[1].isOfKind ``Lean.Parser.Command.abbrev)&&x[0][4].isNone&&(x[0][1].find? (·.isOfKind ``Lean.Parser.Attr.macro)).isNone then return x.setArg 0 (x[0].setArg 4 (Lean.mkNullNode (Array.mk [Lean.mkNode ``Lean.Parser.Command.noncomputable (Array.mk [Lean.mkAtom "noncomputable"])])))else Lean.Macro.throwUnsupported
variable{C a:Ac}{apos cpos p2 pos pos':AC}{gs:U (U Nat)}{E:AR}{elts es ifs:U PySem.Expr}{u:Aa}{Q:Unit->Ab->Prop}{j t' y:Nat}{φ:Nat->Ac}{ek elt ev iter o tg:PySem.Expr}{ws:U Nat}{pins:A0}{ps:U Af}{sc scope:PySem.Scope}{pl:PySem.Sem Bool}{R:PySem.Result->Ab->Prop}{g':Array PySem.GenState}{items:Array Aa}{κ:Gb}{RR:Aa->Ac->PySem.Result->Ab->Prop}{isA:Nat->Aa->Prop}{ch:U Ac}{left:Bool}{B:Aa->PySem.Sem PySem.Fin}{d':PySem.Drawn}{tn:Nat->Am->Prop}
namespace Internal
open PySem PySem.Spec PyProof.Rows
inductive V where
 |non|bl (b:Bool)|int (i:Int)|str (x:Af)|ref (a:Ac)|ty (n:String)
 deriving DecidableEq
variable{vs ys:U V}
def RelV:V->Aa->Prop
 |.non,u=>u=Value.none
 |.bl b,u=>u=Value.bool b
 |.int i,u=>∃t,u=Value.int i t
 |.str x,u=>∃t,u=Value.str x t
 |.ref a,u=>u=Dx a
 |.ty n,u=>u=Value.type n
abbrev Aq:U V->U Aa->Prop:=Paired RelV
theorem Aq.length{xs:U V}{us:U Aa}(r:Aq xs us):xs.length=us.length:=Hc r
theorem Aq.get:∀{xs:U V}{us:U Aa}{i:Nat}{x:V},Aq xs us->xs[i]?=Z x->∃u,us[i]?=Z u/\RelV x u
 |_,_,_,_,.nil,e=>by simp at e
 |_,_,0,_,.cons r _,e=>by simp at e;subst e;show#[_,rfl,r]
 |_,_,i+1,x,.cons _ t,e=>by
  let(u,a,b):=Aq.get (i:=i) (x:=x) t (by exists e);show#[u,by simpa using a,b]
theorem Aq.set{x:V}{u:Aa}(r:RelV x u):∀{xs:U V}{us:U Aa}(i:Nat),Aq xs us->Aq (xs.set i x) (us.set i u)
 |_,_,_,.nil=>.nil
 |_,_,0,.cons _ t=>.cons r t
 |_,_,i+1,.cons q t=>.cons q<|Aq.set r i t
theorem Aq.append{xs:U V}{us ws:U Aa}(h:Aq xs us)(s:Aq ys ws):Aq (xs++ys) (us++ws):=by
 induction h with
 |nil=>show s
 |cons r _ a=>show .cons r a
theorem Aq.take:∀{xs:U V}{us:U Aa}(n:Nat),Aq xs us->Aq (xs.take n) (us.take n)
 |_,_,0,_=>.nil
 |_,_,_+1,.nil=>.nil
 |_,_,n+1,.cons r t=>.cons r<|Aq.take n t
theorem Aq.drop:∀{xs:U V}{us:U Aa}(n:Nat),Aq xs us->Aq (xs.drop n) (us.drop n)
 |_,_,0,r=>r
 |_,_,_+1,.nil=>.nil
 |_,_,n+1,.cons _ t=>Aq.drop n t
def Cu:O V->O Aa->Prop
 |some v,Z u=>RelV v u
 |none,J=>True
 |_,_=>False
inductive At where
 |non|int (i:Int)|str (x:Af)
 deriving DecidableEq
variable{us:U (U At×Ac×Aa)}
def Jo:At->Aa->Bool
 |.non,.none=>J'
 |.int k,v=>Value.isInt k v
 |.str x,v=>Value.isStrOf x v
 |_,_=>O'
def Sj(w:Aj):At->Int
 |.non=>reduceHash 4238894112
 |.int k=>hashInt k
 |.str x=>hashStr w x
theorem Jp:∀{k:At}{v:Aa},Jo k v=J'->(k=.non/\v=.none)\/(∃i t,k=.int i/\v=Value.int i t)\/(∃x t,k=.str x/\v=Value.str x t)
 |.non,v,h=>by cases v<;>first|show .inl ⟨rfl,rfl⟩|show absurd h LF
 |.int i,v,h=>by let(t,e):=Value.isInt_shape (k:=i) (v:=v) h;show .inr<|.inl ⟨i,t,rfl,e⟩
 |.str x,v,h=>by let(t,e):=Value.isStrOf_shape (x:=x) (v:=v) h;show .inr<|.inr ⟨x,t,rfl,e⟩
theorem kR(i:Int)(t:Tok):Jo (.int i) (.int i t)=J':=by simp[Jo,Value.isInt]
theorem kS(x:Af)(t:Tok):Jo (.str x) (.str x t)=J':=by simp[Jo,Value.isStrOf]
theorem kT{prog:AL}{w:Aj}{A:Ag}{s:Ab}{Q:Int->Ab->Prop}(h:Q (reduceHash 4238894112) {s with toks:=s.toks+1}):wpAny (Ae prog w) A (PySem.pyHash .none) Q E s:=PySem.W.pyHash_slot (T:="NoneType") rfl F.slot_NoneType_hash F.entry_NoneType_hash (F.args_NoneType_hash_1 _) (beq_builtin_none _) (.inl rfl) (Ao<|AW<|Ao<|wpAny_mkInt<|AW ⟨_,_,rfl,h⟩)
theorem kU(a b:Int):decide ((At.int a)=.int b)=(a==b):=by
 grind
theorem kW(a b:Af):decide ((At.str a)=.str b)=decide (a=b):=by
 simp_all
def ZI(prog:AL)(w:Aj):PySem.KeyKind prog w At where
 is:=Jo
 hash:=Sj w
 inj:=λv a b d f=>by
  rcases Jp d with⟨rfl,rfl⟩|⟨i,t,rfl,rfl⟩|⟨x,t,rfl,rfl⟩<;>rcases Jp f with⟨rfl,e⟩|⟨j,u,rfl,e⟩|⟨y,u,rfl,e⟩ <;>
   first|rfl|(cases e;done)|(cases e;rfl)
 byValue:=λk v h=>by
  rcases Jp h with⟨rfl,rfl⟩|⟨i,t,rfl,rfl⟩|⟨x,t,rfl,rfl⟩<;>rfl
 pyHash:=λc h=>by
  rcases Jp c with⟨rfl,rfl⟩|⟨i,t,rfl,rfl⟩|⟨x,t,rfl,rfl⟩
  .show kT h
  .show wpAny_pyHash_int h
  .show wpAny_pyHash_str h
 eqBool:=λg c h=>by
  rcases Jp g with⟨rfl,rfl⟩|⟨i,t,rfl,rfl⟩|⟨x,t,rfl,rfl⟩<;>rcases Jp c with⟨rfl,rfl⟩|⟨j,u,rfl,rfl⟩|⟨y,u,rfl,rfl⟩
  .show SeqAt.EqAt.same Value.none _ _ _ _ h
  .show SeqAt.EqAt.none_int j u _ _ _ _ h
  .show SeqAt.EqAt.none_str y u _ _ _ _ h
  .show SeqAt.EqAt.int_none i t _ _ _ _ h
  .rw[kU]at h;show wpAny_eqBool_int h
  .show SeqAt.EqAt.int_str i t y u _ _ _ _ h
  .show SeqAt.EqAt.str_none x t _ _ _ _ h
  .show SeqAt.EqAt.str_int x t j u _ _ _ _ h
  .rw[kW]at h;show wpAny_eqBool_str h
 «strs»:=λk x t v h=>by
  rcases Jp h with⟨rfl,e⟩|⟨i,u,rfl,e⟩|⟨y,u,rfl,e⟩
  .show nomatch e
  .show nomatch e
  .injection e with l _
   subst l
   cases v<;>rfl
inductive KT where
 |at(a:At)|tup (l:List At)
 deriving DecidableEq
def KT.hash(w:Aj):KT->Int
 |.at a=>Sj w a
 |.tup l=>reduceHash (Builtin.Tuple.tupleHashOf (l.map (Sj w)))
def Fk:At->V
 |.non=>.non
 |.int i=>.int i
 |.str x=>.str x
def kX:KT->V->Prop
 |.at a,v=>v=Fk a
 |.tup _,v=>∃p,v=.ref p
def Kp(w:Aj):U KT->U V->U Ix->Prop
 |[],a,b=>a=[]/\b=[]
 |k::c,a,b=>∃kv v r e t,a=kv::v::r/\b=e::t/\RelV kv e.key/\RelV v e.val/\e.hash=k.hash w/\kX k kv/\Kp w c r t
inductive HO where
 |lst (xs:List V)
 |tup (xs:List V)
 |dct (ks:List KT) (vs:List V)
 |ins (C dx:Ac) (fs:List (Af×V))
 |own (x:Ac)
 |xd (fs:List (Af×V))
 |met (f x:Ac)
 |rng (lo hi:Int)
 |frz (o:Obj) (u:HO)
 |tbl (ps:Array Aa)
 |ext (φ:Am->Prop)
abbrev Hp:=Ac->O HO
variable{H' H0:Hp}
def AI(H:Hp)(a:Ac)(o:HO):Hp:=λb=>if b=a then Z o else H b
theorem ZN{H:Hp}{o:HO}:AI H a o a=Z o:=by grind [AI]
theorem Zl{H:Hp}{b:Ac}{o:HO}(h:b≠a):AI H a o b=H b:=by grind [AI]
theorem kY{H:Hp}{o u:HO}:AI (AI H a o) a u=AI H a u:=by grind [AI]
theorem Z2{H:Hp}{b:Ac}{o:HO}(h:H a=Z o)(h':H b=J):a≠b:=by
 grind
section
variable(P:AL)(w:Aj)
def A9(P:AL)(w:Aj)(H:Hp)(h:Am)(a:Ac):HO->Prop
 |.lst d=>d.length<=AB/\∃(b:U Aa) (n:Nat),Aq d b/\h.get? a=Z {cls:=.type "list",data:=.seq b.toArray n}
 |.tup d=>d.length<=AB/\∃b:U Aa,Aq d b/\IsTup h a b.toArray
 |.dct i p=>i.length<=AB/\(a==Hd)=O'/\i.Nodup/\∃o k q,h.get? a=Z o/\o.ExactDict/\o.data=.dict k q/\Kp w i p k.toList
 |.ins C g e=>H g=Z (.own a)/\e.length<=1000/\g≠a/\h.get? a=Z (Kq C g) /\
   ∃c,h.Ns1 g c/\(∀f,Cu (e.lookup f) (c f))/\PySem.Within c (e.map (·.1))
 |.own _=>∃o,h.get? a=Z o
 |.xd e=>∃c,h.Ns1 a c/\∀f,Cu (e.lookup f) (c f)
 |.rng lo r=>∃t u v,h.get? a=Z {cls:=.type "range",data:=.fields (T' [.int lo t,.int r u,.int 1 v])}
 |.frz o u=>h.get? a=Z o/\A9 P w H h a u
 |.tbl s=>h.get? a=Z {cls:=.none,data:=.fields s}
 |.met f x=>h.get? a=Z (PySem.W.methodObj (.ref f) (.ref x))
 |.ext j=>j h/\(∃o,h.get? a=Z o)/\∀l m:Am,j l->(∀o,l.get? a=Z o->m.get? a=Z o)->j m
def CD(H:Hp)(h:Am):Prop:=∀a o,H a=Z o->A9 P w H h a o
end
section
variable{P:AL}{w:Aj}{H:Hp}{h h':Am}{o:HO}
theorem A9.lt(x:A9 P w H h a o):a<h.objs.size:=by
 cases o with
 |lst b=>let(_,_,_,_,e):=x;show BK e
 |tup b=>let(_,_,_,p):=x;show p.lt
 |dct d g=>let(_,_,_,o,_,_,e,_):=x;show BK e
 |ins C i c=>let(_,_,_,e,_):=x;show BK e
 |own y=>let(_,e):=x;show BK e
 |xd c=>let(_,(_,_,_,e,_),_):=x;show BK e
 |rng lo j=>let(_,_,_,e):=x;show BK e
 |frz k u=>let(e,_):=x;show BK e
 |tbl l=>show BK (show h.get? a=Z _ from x)
 |met f y=>show BK (show h.get? a=Z _ from x)
 |ext m=>let(_,(_,e),_):=x;show BK e
theorem Paired.mapP{e g:Type}{F G:e->g->Prop}{c:U e}{d:U g}(h:Paired F c d)(f:∀a b,F a b->G a b):Paired G c d:=by
 induction h with
 |nil=>show .nil
 |cons r _ i=>show .cons (f _ _ r) i
theorem A9.stay(x:A9 P w H h a o)(k:∀b u,(b=a\/H b=Z (.own a))->h.get? b=Z u->h'.get? b=Z u) (B:∀b,H b=Z (.own a)->H' b=Z (.own a)) (F:∀b xs,H b=Z (.tup xs)->H' b=Z (.tup xs)):A9 P w H' h' a o:=by
 induction o with
 |lst xs=>let(z,g,n,r,e):=x;show#[z,g,n,r,k _ _ (.inl rfl) e]
 |tup xs=>let(z,g,r,i,e,c):=x;show#[z,g,r,i,k _ _ (.inl rfl) e,c]
 |dct L M=>let(z,y,n,i,j,l,e,c):=x;show#[z,y,n,i,j,l,k _ _ (.inl rfl) e,c]
 |ins C N E=>
  let(d,z,ne,e,m,(s,j,l,G,c),r):=x;show#[B _ d,z,ne,k _ _ (.inl rfl) e,m,#[s,j,l,k _ _ (.inr d) G,c],r]
 |own y=>let(i,e):=x;show#[i,k _ _ (.inl rfl) e]
 |xd E=>let(m,(s,j,l,e,c),r):=x;show#[m,#[s,j,l,k _ _ (.inl rfl) e,c],r]
 |rng lo K=>let(t,u,v,e):=x;show#[t,u,v,k _ _ (.inl rfl) e]
 |frz i u R=>let(e,q):=x;show#[k _ _ (.inl rfl) e,R q]
 |tbl A=>
  let e:h.get? a=Z {cls:=.none,data:=.fields A}:=x;change h'.get? a=Z {cls:=.none,data:=.fields A}
  grind
 |met f y=>
  let e:h.get? a=Z (PySem.W.methodObj (.ref f)<|.ref y):=x;change h'.get? a=Z (PySem.W.methodObj (.ref f)<|.ref y)
  simp_all
 |ext Q=>let(p,(o,e),st):=x;show#[st _ _ p λo q=>k _ _ (.inl rfl) q,#[o,k _ _ (.inl rfl) e],st]
theorem CD.lt(x:CD P w H h)(e:H a=Z o):a<h.objs.size:=(x a o e).lt
theorem CD.fresh(x:CD P w H h)(e:h.objs.size<=a):H a=J:=by
 cases q:H a with
 |none=>rfl
 |some u=>show absurd (B7 (x.lt q) e)<|Iy _
theorem CD.kept(x:CD P w H h)(k:∀b u,h.get? b=Z u->h'.get? b=Z u):CD P w H h':=λa o e=>(x a o e).stay (λb u _ q=>k b u q) (λ_ q=>q) λ_ _ q=>q
theorem CD.laid(x:CD P w H h)(k:∀b u,h.get? b=Z u->h'.get? b=Z u)(d:h.objs.size<=a)(new:A9 P w (AI H a o) h' a o):CD P w (AI H a o) h':=λb u e=>by
 by_cases f:b=a
 .subst f;rw[ZN]at e;cases e;show new
 .rw[Zl f]at e;show(x b u e).stay (λc v _ q=>k c v q) (λc q=>Zl (Z2 q<|x.fresh d) ▸ q) λc g q=>Zl (Z2 q<|x.fresh d) ▸ q
end
def Rd(H:Hp)(a:Ac)(u:HO):Prop:=H a=Z u\/∃o,H a=Z (.frz o u)
theorem Rd.ok{P:AL}{w:Aj}{H:Hp}{h:Am}{u:HO}(r:Rd H a u)(x:CD P w H h):A9 P w H h a u:=by
 rcases r with r|⟨o,r⟩
 .show x a u r
 .let(_,q):=x a _ r;show q
def Nl:O HO->Prop
 |some (.lst _)=>True
 |some (.dct _ _)=>True
 |some (.ins _ _ _)=>True
 |some (.ext _)=>True
 |_=>False
section
variable{P:AL}{w:Aj}{H:Hp}{h h':Am}{x e:Ac}{o':HO}
theorem CD.write(ok:CD P w H h)(d:Nl (H x))(j:e=x\/H e=Z (.own x))(k:∀b u,b≠e->h.get? b=Z u->h'.get? b=Z u)(i:∃u,h'.get? e=Z u) (new:A9 P w (AI H x o') h' x o'):CD P w (AI H x o') h':=λb u q=>by
 by_cases f:b=x
 .subst f;rw[ZN]at q;cases q;show new
 .rw[Zl f]at q;by_cases a:b=e
  .let l:H b=Z (.own x):=by
    rcases j with z|z
    .show absurd (a.trans z) f
    .rw[a];show z
   rw[q]at l;cases l;let(v,n):=i;show#[v,a ▸ n]
  .refine(ok b u q).stay (λc v g r=>k c v ?_ r) (λc r=>by rw[Zl<|(λc y r z=>by subst z;rw[r]at d;show d) c b r];show r) λc m r=>by rw[Zl<|(λc m r z=>by subst z;rw[r]at d;show d) c m r];show r
   rcases g with rfl|g
   .show a
   .rintro rfl;rcases j with z|z
    .show(λc y r z=>by subst z;rw[r]at d;show d) c b g z
    .rw[g]at z;cases z;show f rfl
end
structure Un(fs ex:List Ac)(H H':Hp)(h h':Am):Prop where
 keep:∀b o,h.get? b=Z o->H b=J->b∉fs->b∉ex->h'.get? b=Z o
 slot:∀b o,h.get? b=Z o->H b=J->b∈fs->b∉ex->∃sl,h'.get? b=Z {o with slots:=sl}
 free:∀b o,h.get? b=Z o->H b=J->b∉ex->H' b=J
 there:∀b o,h.get? b=Z o->b∉ex->∃o',h'.get? b=Z o'
 tups:∀b xs,H b=Z (.tup xs)->H' b=Z (.tup xs)
 frzs:∀b o u,H b=Z (.frz o u)->H' b=Z (.frz o u)
 tbls:∀b ps,H b=Z (.tbl ps)->∃more,H' b=Z (.tbl (ps++more))
section
variable{fs ex:U Ac}{H H1:Hp}{h h1 h':Am}{x e:Ac}{o:HO}
theorem Un.any(u:Un fs ex H H1 h h1){b:Ac}{a:Obj}(q:h.get? b=Z a)(n:H b=J)(c:b∉ex):∃e,h1.get? b=Z {a with slots:=e}:=by
 by_cases d:b∈fs
 .show u.slot b a q n d c
 .show#[a.slots,u.keep b a q n d c]
theorem Un.kept(k:∀b u,h.get? b=Z u->h'.get? b=Z u):Un fs ex H H h h':=#[λb a q _ _ _=>k b a q,λb a q _ _ _=>#[a.slots,k b a q],λ_ _ _ n _=>n,λb a q _=>#[a,k b a q],λ_ _ q=>q,λ_ _ _ q=>q,λ_ c q=>#[(T' []),by rw[q];simp]]
theorem Un.refl:Un fs ex H H h h:=by grind [Un.kept]
theorem Un.laid(k:∀b u,h.get? b=Z u->h'.get? b=Z u)(d:h.objs.size<=a)(c:H a=J):Un fs ex H (AI H a o) h h' where
 keep:=λb u q _ _ _=>k b u q;slot:=λb u q _ _ _=>#[u.slots,k b u q];free:=λb u q n _=>Zl (Ca<|B7 (BK q) d) ▸ n;there:=λb u q _=>#[u,k b u q];tups:=λb e q=>Zl (Z2 q c) ▸ q;frzs:=λb u e q=>Zl (Z2 q c) ▸ q;tbls:=λb f q=>#[(T' []),by rw[Zl<|Z2 q c,q];simp]
theorem Un.write(a:Nl (H x))(l:e=x\/H e=Z (.own x))(k:∀b u,b≠e->h.get? b=Z u->h'.get? b=Z u)(f:∃u,h'.get? e=Z u):Un fs ex H (AI H x o) h h':=by
 let g:∀b,H b=J->b≠x:=λb n z=>by subst z;rw[n]at a;show a
 let d:∀b,H b=J->b≠e:=λb n z=>by
  simp_all
 let c:∀b u,H b=Z u->¬ Nl (Z u)->b≠x:=λb u q i z=>by subst z;rw[q]at a;show i a
 apply#[λb u q n _ _=>k b u (d b n) q,λb u q n _ _=>#[u.slots,k b u (d b n) q],λb u q n _=>Zl (g b n) ▸ n,λb u q _=>?_,
  λb j q=>Zl (c b _ q λz=>z) ▸ q,λb u j q=>Zl (c b _ q λz=>z) ▸ q,λb m q=>#[(T' []),by rw[Zl<|c b _ q λz=>z,q];simp]]
 grind
end
def Pd(h:Am)(H:Hp):U Ac:=(Bt h.objs.size).filter λa=>(H a).isSome
def Kr(h:Am)(H:Hp):Am:=PySem.W.hideAll h (Pd h H)
theorem kZ(h:Am)(H:Hp):(Kr h H).objs.size=h.objs.size:=PySem.W.hideAll_size _ _
theorem W6{h:Am}{H:Hp}{b:Ac}{o:Obj}(e:h.get? b=Z o)(n:H b=J):(Kr h H).get? b=Z o:=PySem.W.hideAll_get _ e λa=>by
  let q:(H b).isSome=J':=(GH.mp a).2;simp_all
theorem k6{h:Am}{H:Hp}{b:Ac}{o:Obj}(e:(Kr h H).get? b=Z o):h.get? b=Z o/\H b=J:=by
 apply#[(PySem.W.of_hideAll (Pd h H) e),?_];cases q:H b with|none=>rfl|some x=>
  let z:(Kr h H).get? b=J:=PySem.W.hideAll_none (Pd h H)<|GH.mpr ⟨ED.mpr<|BK<|PySem.W.of_hideAll (Pd h H) e,by simp[q]⟩;simp_all
def k7(g h:Am)(L:Ac):A0:=(Bt h.objs.size).filterMap λa=>if a=L\/(g.get? a).isSome=J' then J else(h.get? a).map λo=>(a,o)
def AX(g h:Am)(L d:Ac):A0:=(k7 g h L).filter λp=>decide (p.1≠d)
structure Mod(K:Ap)(mg:BC)(base:Am):Prop where
 kin:K.In base
 glob:base.Ns C4 mg
 blt:∃mb,base.Ns builtinsNs mb/\∀x:Af,x≠"__name__"->mb x=E4 x
 nolimit:base.NoLimit
set_option genInjectivity false in
structure Cx where
 prog:AL
 w:Aj
 K:Ap
 mg:BC
 base:Am
 A:Ag
 N:List Af
 s₀:Ab
 H₀:Hp
 env:Env
 outer:List Env
 stack:List Env
 ex:List Ac
 fn:Af->Bool
 calm:Bool
 pn:A0
 xe:AR
variable{X Y:Cx}
def EQ(l:U Env):U Ac:=l.filterMap (·.frame)
abbrev Cx.fs(X:Cx):U Ac:=EQ X.outer
def Pe(a:Scope)(x:Af):Prop:=a.names.lookup x=Z .local\/a.names.lookup x=Z .cell\/a.names.lookup x=Z .free
def Loc(a:Scope)(x:Af):Prop:=a.names.lookup x=Z .local\/a.names.lookup x=Z .cell
def k8(env:Env)(h:Am)(m:BC)(x:Af)(u:Aa):Prop:=
 (env.kindOf x=Z .local/\m x=Z u)\/((env.kindOf x=Z .cell\/env.kindOf x=Z .free)/\∃c,env.cells.lookup x=Z c/\h.IsCell c (Z u))
structure Cx.Ok(X:Cx):Prop where
 mod:Mod X.K X.mg X.base
 kind:X.env.scope.kind=.function
 glob:X.env.globals=C4
 blt:X.env.builtins=builtinsNs
 above:X.s₀.heap.objs.size<=X.env.locals
 inj:∀x y c,X.env.cells.lookup x=Z c->X.env.cells.lookup y=Z c->x=y
 has:∀x,(X.env.kindOf x=Z .cell\/X.env.kindOf x=Z .free)->∃c,X.env.cells.lookup x=Z c
 cab:∀x c,X.fn x=J'->X.env.cells.lookup x=Z c->X.s₀.heap.objs.size<=c
 hd:X.calm=J'->X.A.handled=J
 frames:X.A.frames=Z X.stack
 stk:X.stack=X.outer\/(X.stack=X.env::X.outer/\X.env.frame=Z X.env.locals)
 exf:∀b∈X.ex,b≠X.env.locals/\∀x c,X.env.cells.lookup x=Z c->c≠b
 bs:∀b o,X.base.get? b=Z o->X.s₀.heap.get? b=Z o/\X.H₀ b=J
 bsz:X.base.objs.size<=X.s₀.heap.objs.size
 noex:∀b o,X.base.get? b=Z o->b∉X.ex
 exfs:∀b∈X.ex,b∉X.fs
 funs:X.s₀.heap.FunFrames X.base X.outer
 frf:∀b∈X.fs,X.H₀ b=J
structure Inv(X:Cx)(pins:A0)(I:List (Option V))(H:Hp)(s:Ab):Prop where
 ok:X.Ok
 os:s.os=X.s₀.os
 bare:AllBare s.gens
 base:Un X.fs X.ex X.H₀ H X.s₀.heap s.heap
 loc:∃m,s.heap.Ns X.env.locals m/\∀(i:Nat) (x:Af) (v:V),X.N[i]?=Z x->I[i]?=Z (Z v)->Pe X.env.scope x->∃u,RelV v u/\k8 X.env s.heap m x u
 cell:∀x c,X.env.cells.lookup x=Z c->∃v,s.heap.IsCell c v
 free:H X.env.locals=J
 freeC:∀x c,X.env.cells.lookup x=Z c->H c=J
 pin:∀p∈X.pn++pins,s.heap.get? p.1=Z p.2/\H p.1=J/\p.1≠X.env.locals/\p.1∉X.fs/\∀v,p.2.data≠.cell v
 hok:CD X.prog X.w H s.heap
 len:I.length=X.N.length
section
variable{I:U (O V)}{H:Hp}{s:Ab}{h':Am}
theorem Cx.Ok.nofr(ok:X.Ok){b:Ac}{o:Obj}(e:X.base.get? b=Z o):b∉X.fs:=λa=>by
 have:=(ok.funs.mem a).1;simp_all
theorem Inv.bs(a:Inv X pins I H s):∀b o,X.base.get? b=Z o->s.heap.get? b=Z o/\H b=J:=λb o e=>#[a.base.keep b o (a.ok.bs b o e).1 (a.ok.bs b o e).2 (a.ok.nofr e)<|a.ok.noex b o e,a.base.free b o (a.ok.bs b o e).1 (a.ok.bs b o e).2<|a.ok.noex b o e]
theorem Inv.bk(a:Inv X pins I H s):∀b o,X.base.get? b=Z o->s.heap.get? b=Z o:=λb o e=>(a.bs b o e).1
theorem Inv.mod(a:Inv X pins I H s):Mod X.K X.mg X.base:=a.ok.mod
theorem Inv.kIn(a:Inv X pins I H s):X.K.In s.heap:=a.ok.mod.kin.keeps a.bk
theorem Inv.lt(b:Inv X pins I H s):X.env.locals<s.heap.objs.size:=let⟨_,a,_⟩:=b.loc;a.lt
theorem Inv.sz(a:Inv X pins I H s):X.s₀.heap.objs.size<=s.heap.objs.size:=Bu a.ok.above<|FP a.lt
theorem Inv.nofs(d:Inv X pins I H s)(h:s.heap.objs.size<=a):a∉X.fs:=λb=>by
 let(_,o,c,_):=d.ok.funs.mem b;show absurd (B7 (BK c)<|Bu d.sz h)<|Iy _
theorem Inv.cne(i:Inv X pins I H s):∀x c,X.env.cells.lookup x=Z c->c≠X.env.locals:=λx c e z=>by
 let(v,o,d,hd):=i.cell x c e;let(m,(f,g,h,a,b,_),_):=i.loc;simp_all
theorem Inv.funs(n:Inv X pins I H s):s.heap.FunFrames X.base X.outer:=by
 let all:∀(l:U Env),(∀b∈EQ l,b∈X.fs)->X.s₀.heap.FunFrames X.base l->s.heap.FunFrames X.base l:=by
  intro l;induction l with|nil=>intro _ _;trivial|cons env r g=>
   intro f zQ;let(h,(L,o,a,i,j,hd),k):=zQ;let c:L∈X.fs:=f L (by unfold EQ;rw[List.filterMap_cons,a];show Ba);let(m,e):=n.base.slot L o j (n.ok.frf L c) c λz=>n.ok.exfs L z c;show#[h,#[L,_,a,i,e,hd],g (λb d=>f b (by unfold EQ;rw[List.filterMap_cons,a];show Bg _ d)) k]
 show all X.outer (λ_ d=>d) n.ok.funs
theorem Inv.stack(c:Inv X pins I H s):s.heap.FunFrames X.base X.stack:=by
 rcases c.ok.stk with e|⟨e,a⟩
 .rw[e];show c.funs
 .rw[e];let(m,b,_):=c.loc;show .cons (by rw[c.ok.kind];decide) a b (Heap.get?_none_of_le<|Bu c.ok.bsz c.ok.above) c.funs
theorem Inv.stkSub(d:Inv X pins I H s):∀b∈EQ X.stack,b∈X.env.locals::X.fs:=λb a=>by
 rcases d.ok.stk with e|⟨e,c⟩
 .rw[e]at a;show Bg _ a
 .rw[e]at a;unfold EQ at a;rw[List.filterMap_cons,c]at a;show a
theorem Inv.stkFree(d:Inv X pins I H s):∀b∈EQ X.stack,H b=J:=λb a=>by
 rcases Bp.mp (d.stkSub b a)with e|a
 .rw[e];show d.free
 .let(_,o,c,_):=d.ok.funs.mem a;show d.base.free b o c (d.ok.frf b a) λz=>d.ok.exfs b z a
theorem Inv.step(R:Inv X pins I H s) (f:∀b∈ch,(b∈X.ex\/X.s₀.heap.objs.size<=b)/\b≠X.env.locals/\(∀x c,X.env.cells.lookup x=Z c->c≠b)/\∀p∈X.pn++pins,p.1≠b) (keep:∀b o,b≠X.env.locals->b∉X.fs->b∉ch->s.heap.get? b=Z o->H b=J->h'.get? b=Z o) (slot:∀b o,b≠X.env.locals->b∈X.fs->b∉ch->s.heap.get? b=Z o->H b=J->∃F,h'.get? b=Z {o with slots:=F}) (free:∀b o,b∉ch->s.heap.get? b=Z o->H b=J->H' b=J) (there:∀b o,b∉ch->s.heap.get? b=Z o->∃B,h'.get? b=Z B) (tups:∀b xs,H b=Z (.tup xs)->H' b=Z (.tup xs)) (frzs:∀b o u,H b=Z (.frz o u)->H' b=Z (.frz o u)) (tbls:∀b G,H b=Z (.tbl G)->∃C,H' b=Z (.tbl (G++C))) (ns:∀m,s.heap.Ns X.env.locals m->h'.Ns X.env.locals m) (hok:CD X.prog X.w H' h') (K:AllBare g'):Inv X pins I H' {s with heap:=h',gens:=g',drawn:=d',toks:=t' }:=by
 let j:∀b o,X.s₀.heap.get? b=Z o->b∉X.ex->b∉ch:=λb o e a y=>by
  rcases(f b y).1 with z|z
  .show a z
  .show absurd (B7 (BK e) z)<|Iy _
 let g:∀x c,X.env.cells.lookup x=Z c->∀v,s.heap.IsCell c v->h'.IsCell c v:=λx c e v ⟨o,A,hd⟩=>by
  let h:c∉ch:=λz=>(f c z).2.2.1 x c e rfl;by_cases M:c∈X.fs
  .let(F,q):=slot c o (R.cne x c e) M h A<|R.freeC x c e;show⟨_,q,hd⟩
  .show#[o,keep c o (R.cne x c e) M h A<|R.freeC x c e,hd]
 apply#[R.ok,R.os,K,#[λb o e n y a=>?_,λb o e n y a=>?_,λb o e n a=>?_,λb o e a=>?_,λb xs e=>tups b xs<|R.base.tups b xs e,λb o xs e=>frzs b o xs<|R.base.frzs b o xs e,λb G e=>?_],?_,λx c e=>?_,?_,λx c e=>?_,λp N=>?_,hok,R.len]
 .show keep b o ((λb o e=>Ca<|B7 (BK e) R.ok.above) b o e) y (j b o e a) (R.base.keep b o e n y a) (R.base.free b o e n a)
 .let(F,t):=R.base.slot b o e n y a;let(L,E):=slot b _ ((λb o e=>Ca<|B7 (BK e) R.ok.above) b o e) y (j b o e a) t (R.base.free b o e n a);show⟨L,E⟩
 .let(B,t):=R.base.there b o e a;show free b B (j b o e a) t<|R.base.free b o e n a
 .let(B,t):=R.base.there b o e a;show there b B (j b o e a) t
 .let(m1,t):=R.base.tbls b G e;let(m2,E):=tbls b _ t;show#[m1++m2,by rw[E,Array.append_assoc]]
 .let(m,Q,T):=R.loc;apply#[m,ns m Q,λi x v t E P=>?_];let(u,r,l):=T i x v t E P;apply#[u,r,?_];rcases l with l|⟨k,c,e,z⟩
  .show .inl l
  .show .inr #[k,c,e,g x c e _ z]
 .let(v,z):=R.cell x c e;show#[v,g x c e v z]
 .let(m,(o,_,_,A,_),_):=R.loc;show free _ o (λz=>(f _ z).2.1 rfl) A R.free
 .let(v,o,A,hd):=R.cell x c e;show free c o (λz=>(f c z).2.2.1 x c e rfl) A (R.freeC x c e)
 .let(e,n,ne,nf,d):=R.pin p N;let h:p.1∉ch:=λz=>(f p.1 z).2.2.2 p N rfl;show#[keep p.1 p.2 ne nf h e n,free p.1 p.2 h e n,ne,nf,d]
theorem Inv.un(q:Inv X pins I H s)(u:Un X.fs [] H H' s.heap h')(hok:CD X.prog X.w H' h'):Inv X pins I H' {s with heap:=h',toks:=t' }:=by
 let(m,(o,k,l,g,r),_):=id q.loc;let(p,h):=u.any g q.free (by simp);show q.step (g':=s.gens) (d':=s.drawn) (ch:=[]) (λ_ z=>nomatch z) (λb o _ c _ e n=>u.keep b o e n c (by simp)) (λb o _ c _ e n=>u.slot b o e n c (by simp)) (λb o _ e n=>u.free b o e n (by simp)) (λb o _ e=>u.there b o e (by simp)) u.tups u.frzs u.tbls (λx i=>by
  let(y,d,f,a,j):=i;rw[g]at a;cases a;show#[_,d,f,h,j]) hok q.bare
theorem Inv.call(E:Inv X pins I H s)(u:Un (EQ X.stack) ch H H' s.heap h')(hok:CD X.prog X.w H' h')(k:AllBare g') (d:∀b∈ch,(b∈X.ex\/X.s₀.heap.objs.size<=b)/\b≠X.env.locals/\(∀x c,X.env.cells.lookup x=Z c->c≠b)/\∀p∈X.pn++pins,p.1≠b):Inv X pins I H' {s with heap:=h',gens:=g',drawn:=d',toks:=t' }:=by
 let(m,(o,v,y,j,r),_):=id E.loc;let(A,g):=u.any j E.free λz=>(d _ z).2.1 rfl;show E.step (ch:=ch) d (λb o g l a e n=>u.keep b o e n (λz=>(Bp.mp<|E.stkSub b z).elim g l) a) (λb o _ _ a e n=>u.any e n a) (λb o a e n=>u.free b o e n a) (λb o a e=>u.there b o e a) u.tups u.frzs u.tbls (λB q=>by
  let(C,h,i,f,t):=q;rw[j]at f;cases f;show#[_,h,i,g,t]) hok k
theorem Inv.turned{it:Ac}(B:Inv X pins I H s)(k:∀b o,b≠it->s.heap.get? b=Z o->h'.get? b=Z o)(g:H it=J)(f:it≠X.env.locals) (h:it∈X.ex\/X.s₀.heap.objs.size<=it) (i:∀x c,X.env.cells.lookup x=Z c->c≠it) (j:∀p∈X.pn++pins,p.1≠it):Inv X pins I H {s with heap:=h',toks:=t' }:=by
 let d:∀b u,H b=Z u->b≠it:=λb u e z=>by rw[z,g]at e;cases e
 apply B.step (g':=s.gens) (d':=s.drawn) (ch:=[it]) (λb l=>?_) (λb o _ _ a e _=>k b o (λz=>a (by simp[z])) e) (λb o _ _ a e _=>#[o.slots,k b o (λz=>a (by simp[z])) e]) (λ_ _ _ _ n=>n)
  (λb o a e=>#[o,k b o (λz=>a (by simp[z])) e]) (λ_ _ e=>e) (λ_ _ _ e=>e) (λb G e=>#[(T' []),by rw[e];simp]) (λm t=>?_) (λb u e=>?_) B.bare
 .let e:b=it:=by exists l
  subst e;show#[h,f,i,j]
 .let(o,w,y,A,r):=t;show#[o,w,y,k _ o (Bz f) A,r]
 .refine(B.hok b u e).stay (λc v a q=>k c v ?_ q) (λ_ q=>q) λ_ _ q=>q;rcases a with z|z
  .rw[z];show d b u e
  .show d c _ z
theorem Inv.tok(a:Inv X pins I H s)(t:Nat):Inv X pins I H {s with toks:=t}:=a.un (h':=s.heap) (t':=t) Un.refl a.hok
theorem Inv.kept(a:Inv X pins I H s)(k:∀b u,s.heap.get? b=Z u->h'.get? b=Z u):Inv X pins I H {s with heap:=h',toks:=t' }:=a.un (Un.kept k) (a.hok.kept k)
theorem Inv.laid{o:HO}(d:Inv X pins I H s)(k:∀b u,s.heap.get? b=Z u->h'.get? b=Z u)(c:s.heap.objs.size<=a)(new:A9 X.prog X.w (AI H a o) h' a o):Inv X pins I (AI H a o) {s with heap:=h',toks:=t' }:=d.un (Un.laid k c (d.hok.fresh c)) (d.hok.laid k c new)
theorem Inv.write{x e:Ac}{o:HO}(f:Inv X pins I H s)(c:Nl (H x))(d:e=x\/H e=Z (.own x))(k:∀b u,b≠e->s.heap.get? b=Z u->h'.get? b=Z u)(a:∃u,h'.get? e=Z u) (new:A9 X.prog X.w (AI H x o) h' x o):Inv X pins I (AI H x o) {s with heap:=h',toks:=t' }:=f.un (Un.write c d k a) (f.hok.write c d k a new)
theorem Inv.weak{a:U (O V)}(h:Inv X pins I H s)(c:a.length=I.length)(w:∀(i:Nat) v,a[i]?=Z (Z v)->I[i]?=Z (Z v)):Inv X pins a H s:=#[h.ok,h.os,h.bare,h.base,let⟨m,d,b⟩:=h.loc;#[m,d,λi x v e f g=>b i x v e (w i v f) g],h.cell,h.free,h.freeC,h.pin,h.hok,c.trans h.len]
theorem Inv.pins_of{a:A0}(c:Inv X pins I H s)(h:∀p∈a,s.heap.get? p.1=Z p.2/\H p.1=J/\p.1≠X.env.locals/\p.1∉X.fs/\∀v,p.2.data≠.cell v):Inv X a I H s:=#[c.ok,c.os,c.bare,c.base,c.loc,c.cell,c.free,c.freeC,λp b=>(Cj.mp b).elim (λz=>c.pin p<|Ks _ z) (h p),c.hok,c.len]
theorem W7{N:U Af}(c:N.Nodup){i:Nat}{x:Af}(a:N[i]?=Z x)(b:N[j]?=Z x):i=j:=by
 let(f,d):=Cm.mp a;let(g,e):=Cm.mp b;show(List.getElem_inj c).mp<|d.trans e.symm
theorem W8{M:Model}{A:Ag}{i:Nat}{x:Af}{v:V}(R:Inv X pins I H s)(hN:X.N.Nodup)(P:X.N[i]?=Z x)(t:Loc X.env.scope x)(r:RelV v u) (h:∀s',Inv X pins (I.set i (Z v)) H s'->(∃a,Eo a s.heap s'.heap/\(a=X.env.locals\/X.env.cells.lookup x=Z a))->Q () s') (hf:X.fn x=J'\/X.env.scope.names.lookup x=Z .local:=by first|show .inl rfl|show .inr rfl|assumption):wpAny M A (storeName X.env x u) Q E s:=by
 let(m,hn,hl):=id R.loc;let G:i<I.length:=R.len ▸ (Cm.mp P).1;let g:∀{a:Ac} {h':Am},(∃o,s.heap.get? a=Z o/\H a=J)->Eo a s.heap h'->CD X.prog X.w H h':=λ{a h'} ha f b ob e=>by
  let(_,_,hfree):=ha;refine(R.hok b ob e).stay (λc w' B q=>(f.2 c ?_).trans q) (λ_ q=>q) λ_ _ q=>q;grind
 rcases t with F|F
 .apply wpAny_storeName_local F hn (λh' hn' f=>?_) (show(X.env.scope.kind==.class||(X.env.scope.kind==.module&&X.env.locals != X.env.globals))=O' by rw[R.ok.kind];rfl);let(oL,_,_,hoL,_):=id hn;apply h _ #[R.ok,R.os,R.bare,#[λb o e n L t=>?_,λb o e n L t=>?_,R.base.free,λb o e t=>?_,R.base.tups,R.base.frzs,R.base.tbls],#[_,hn',λj y v' l C e3=>?_],λy c e=>?_,R.free,R.freeC,λp hp=>?_,g #[oL,hoL,R.free] f,by exists R.len] #[_,f,.inl rfl]
  .show(f.2 b<|Ca<|B7 (BK e) R.ok.above).trans<|R.base.keep b o e n L t
  .let(sl,l):=R.base.slot b o e n L t;show#[sl,(f.2 b<|Ca<|B7 (BK e) R.ok.above).trans l]
  .let(o',l):=R.base.there b o e t;show#[o',(f.2 b<|Ca<|B7 (BK e) R.ok.above).trans l]
  .by_cases K:j=i
   .subst K;rw[P]at l;cases l;rw[ER G]at C;cases C;show#[u,r,.inl #[F,by simp]]
   .rw[Dy<|Bz K]at C;let(u',r',q):=hl j y v' l C e3;apply#[u',r',?_];rcases q with⟨k,e⟩|⟨k,c,e,z⟩
    .apply .inl #[k,?_];have:y≠x:=λe=>K<|W7 hN l<|e ▸ P;simp[this,e]
    .show .inr #[k,c,e,z.sameBut f<|R.cne y c e]
  .let(w',z):=R.cell y c e;show#[w',z.sameBut f<|R.cne y c e]
  .let(e,n,ne,nf,d):=R.pin p hp;show#[(f.2 p.1 ne).trans e,n,ne,nf,d]
 .let T:X.fn x=J':=by
   rcases hf with z|z
   .show z
   .rw[z]at F;cases F
  let(c,B):=R.ok.has x<|.inl F;let(w',z):=R.cell x c B;apply wpAny_storeName_cell R.ok.kind F B z<|λh' Y f=>?_;let(oc,hoc,hocd):=id z;apply h {s with heap:=h' } #[R.ok,R.os,R.bare,#[λb o e n L t=>?_,λb o e n L t=>?_,R.base.free,λb o e t=>?_,R.base.tups,R.base.frzs,R.base.tbls],#[m,hn.sameBut f (Bz (R.cne x c B)),λj y v' l C e3=>?_],λy c' e=>?_,R.free,R.freeC,λp hp=>?_,g #[oc,hoc,R.freeC x c B] f,by exists R.len] #[c,f,.inr B]
  .show(f.2 b<|Ca<|B7 (BK e)<|R.ok.cab x c T B).trans<|R.base.keep b o e n L t
  .let(sl,l):=R.base.slot b o e n L t;show#[sl,(f.2 b<|Ca<|B7 (BK e)<|R.ok.cab x c T B).trans l]
  .let(o',l):=R.base.there b o e t;show#[o',(f.2 b<|Ca<|B7 (BK e)<|R.ok.cab x c T B).trans l]
  .by_cases K:j=i
   .subst K;rw[P]at l;cases l;rw[ER G]at C;cases C;show#[u,r,.inr #[.inl F,c,B,Y]]
   .rw[Dy<|Bz K]at C;let(u',r',q):=hl j y v' l C e3;apply#[u',r',?_];rcases q with q|⟨k,c',e,z'⟩
    .show .inl q
    .apply .inr #[k,c',e,z'.sameBut f ?_];rintro rfl;show K<|W7 hN l<|R.ok.inj _ _ _ e B ▸ P
  .by_cases hcc:c'=c
   .subst hcc;show#[_,Y]
   .let(w2,z2):=R.cell y c' e;show#[w2,z2.sameBut f hcc]
  .let(e,n,ne,nf,d):=R.pin p hp;apply#[(f.2 p.1 ?_).trans e,n,ne,nf,d];grind
theorem W9{M:Model}{A:Ag}{i:Nat}{x:Af}{v:V}(g:Inv X pins I H s)(b:X.N.Nodup)(c:X.N[i]?=Z x)(d:Loc X.env.scope x)(r:RelV v u) (h:∀a,Inv X pins (I.set i (Z v)) H a->Q () a) (e:X.fn x=J'\/X.env.scope.names.lookup x=Z .local:=by first|show .inl rfl|show .inr rfl|assumption):wpAny M A (storeName X.env x u) Q E s:=W8 g b c d r (λa f _=>h a f) e
theorem Inv.call'{a:Ab}(k:Inv X pins I H s)(h:a.os=s.os)(u:Un (EQ X.stack) ch H H' s.heap a.heap)(hok:CD X.prog X.w H' a.heap)(i:AllBare a.gens) (d:∀b∈ch,(b∈X.ex\/X.s₀.heap.objs.size<=b)/\b≠X.env.locals/\(∀x c,X.env.cells.lookup x=Z c->c≠b)/\∀p∈X.pn++pins,p.1≠b):Inv X pins I H' a:=by
 let(h',e,f,g,j):=a;subst h;show k.call (g':=e) (t':=g) (d':=f) u hok i d
end
abbrev XK:=Aa->O Ac->Hp->Prop
abbrev St:=U (O V)
variable{I:St}
abbrev VK:=V->Hp->Prop
abbrev TE:=St->Hp->VK->Prop
variable{ta tb te:TE}
abbrev TT:=St->Hp->(Bool->Hp->Prop)->Prop
abbrev TA:=St->Hp->(U V->Hp->Prop)->Prop
structure Ends where
 nx:St->Hp->Prop
 rt:VK
 bk:St->Hp->Prop:=λ_ _=>False
 ct:St->Hp->Prop:=λ_ _=>False
variable{D':Ends}
abbrev TS:=Ends->St->Hp->Prop
def EP(X:Cx)(a:A0)(I:St)(Q:VK)(u:Aa)(c:Ab):Prop:=∃v b,Inv X a I b c/\RelV v u/\Q v b
def TP(X:Cx)(a:A0)(I:St)(Q:Bool->Hp->Prop)(b:Bool)(d:Ab):Prop:=∃c,Inv X a I c d/\Q b c
def AP(X:Cx)(a:A0)(I:St)(Q:U V->Hp->Prop)(us:U Aa)(d:Ab):Prop:=∃b c,Inv X a I c d/\Aq b us/\Q b c
def SP(X:Cx)(b:A0)(D:Ends)(f:Flow)(d:Ab):Prop:=
 match f with
 |.next=>∃a c,Inv X b a c d/\D.nx a c
 |.brk=>∃a c,Inv X b a c d/\D.bk a c
 |.cont=>∃a c,Inv X b a c d/\D.ct a c
 |.ret u=>∃v a c,Inv X b a c d/\RelV v u/\D.rt v c
def PE(X:Cx)(e:Expr)(t:TE):Prop:=
 ∀(a:A0) (s:Ab) (b:St) (H:Hp) (Q:VK),Inv X a b H s->t b H Q->wpAny (Ae X.prog X.w) X.A (Ar e X.env) (EP X a b Q) X.xe s
def PT(X:Cx)(e:Expr)(t:TT):Prop:=
 ∀(a:A0) (s:Ab) (b:St) (H:Hp) (Q:Bool->Hp->Prop),Inv X a b H s->t b H Q->wpAny (Ae X.prog X.w) X.A (isTrue e X.env (Ar e X.env)) (TP X a b Q) X.xe s
def PW(X:Cx)(e:Expr)(t:TT):Prop:=
 ∀(b:Sem Aa) (a:A0) (s:Ab) (c:St) (H:Hp) (Q:Bool->Hp->Prop),Inv X a c H s->t c H Q->wpAny (Ae X.prog X.w) X.A (isTrue e X.env b) (TP X a c Q) X.xe s
theorem PW.pt{e:Expr}{t:TT}(h:PW X e t):PT X e t:=h _
def PA(X:Cx)(es:U Expr)(t:TA):Prop:=
 ∀(b:AC) (a:A0) (s:Ab) (c:St) (H:Hp) (Q:U V->Hp->Prop),Inv X a c H s->t c H Q->wpAny (Ae X.prog X.w) X.A (spliced (AE b (AK es X.env))) (AP X a c Q) X.xe s
def PS(X:Cx)(st:AG)(t:TS):Prop:=
 ∀(a:A0) (s:Ab) (b:St) (H:Hp) (D:Ends),Inv X a b H s->t D b H->wpAny (Ae X.prog X.w) X.A (exec st X.env) (SP X a D) X.xe s
def Ep(X:Cx)(st:U AG)(t:TS):Prop:=
 ∀(a:A0) (s:Ab) (b:St) (H:Hp) (D:Ends),Inv X a b H s->t D b H->wpAny (Ae X.prog X.w) X.A (execs st X.env) (SP X a D) X.xe s
theorem AZ{b:Type}{t:Sem b}{Q c:b->Ab->Prop}{M:Model}{A:Ag}{s:Ab}(h:wpAny M A t Q E s)(d:∀a s,Q a s->c a s):wpAny M A t c E s:=wpAny_mono h d λ_ _ x=>x
section
def Xa(i:Nat):TE:=λa H Q=>∃v,a[i]?=Z (Z v)/\Q v H
def tC(v:V):TE:=λ_ H Q=>Q v H
theorem k9{i:Nat}{x:Af}(j:X.N[i]?=Z x)(k:Pe X.env.scope x)(hd:DV x:=by ext)(d:(x==("__classdict__":Af))=O':=by ext):PE X (.Name x pos) (Xa i):=by
 intro f s q H Q t h;let(v,e,h):=h;let(m,n,o):=t.loc;let(u,r,l):=o i x v j e k;rcases l with⟨b,p⟩|⟨b,c,g,a⟩
 .show wpAny_Name (wpAny_loadName_local t.ok.kind b n p #[v,H,t,r,h]) hd
 .rcases b with b|b
  .show wpAny_Name (wpAny_loadName_cell t.ok.kind b g a #[v,H,t,r,h]) hd
  .show wpAny_Name (wpAny_loadName_free t.ok.kind b g a #[v,H,t,r,h] d) hd
theorem lc {i j pos}:PE X (.Constant (.int i) j pos) (tC (.int i)):=λ_ _ _ H _ a h=>wpAny_Constant_int #[.int i,H,a.tok _,#[_,rfl],h]
theorem lf {b j pos}:PE X (.Constant (.bool b) j pos) (tC (.bl b)):=λ_ _ _ H _ a h=>Constant_bool #[.bl b,H,a,rfl,h]
theorem lg {j pos}:PE X (.Constant .none j pos) (tC .non):=λ_ _ _ H _ a h=>Constant_none #[.non,H,a,rfl,h]
theorem lh {x j pos}:PE X (.Constant (.str x) j pos) (tC (.str x)):=λ_ _ _ H _ a h=>Calls.Constant_str #[.str x,H,a.tok _,#[_,rfl],h]
def Gl(X:Cx)(x:Af):Prop:=X.env.kindOf x=Z .globalImplicit
theorem Sk{a:A0}{s:Ab}{H:Hp}{x:Af}{Q:AR}(d:Inv X a I H s)(b:Gl X x)(c:X.mg x=Z u)(h:Q u s) (hd:DV x:=by ext):wpAny (Ae X.prog X.w) X.A (Ar (.Name x pos) X.env) Q E s:=Calls.Name_function_global d.ok.kind b (Calls.loadGlobal_global (d.ok.glob ▸ d.mod.glob.keeps d.bk) c h) hd
theorem HK{a:A0}{s:Ab}{H:Hp}{x:Af}{Q:AR}(i:Inv X a I H s)(b:Gl X x)(c:X.mg x=J)(d:E4 x=Z u)(h:Q u s) (e:x≠"__name__":=by ext) (hd:DV x:=by ext):wpAny (Ae X.prog X.w) X.A (Ar (.Name x pos) X.env) Q E s:=by
 let(mb,f,g):=i.mod.blt;show Calls.Name_function_global i.ok.kind b (Calls.loadGlobal_builtin (i.ok.glob ▸ i.mod.glob.keeps i.bk) c (i.ok.blt ▸ f.keeps i.bk) ((g x e).trans d) h) hd
theorem Xb{x:Af}{v:V}(a:Gl X x)(b:X.mg x=Z u)(r:RelV v u)(hd:DV x:=by ext):PE X (.Name x pos) (tC v):=λ_ _ _ H _ c h=>Sk c a b #[v,H,c,r,h] hd
theorem li{x:Af}{v:V}(a:Gl X x)(b:X.mg x=J)(c:E4 x=Z u)(r:RelV v u)(d:x≠"__name__":=by ext)(hd:DV x:=by ext):PE X (.Name x pos) (tC v):=λ_ _ _ H _ e h=>HK e a b c #[v,H,e,r,h] d hd
variable{a b:Expr}
def PC(X:Cx)(op:CmpOp)(a b:Expr)(t:TE):Prop:=
 ∀(c:A0) (s:Ab) (f:St) (H:Hp) (Q:VK),Inv X c f H s->t f H Q ->
  wpAny (Ae X.prog X.w) X.A (Ar a X.env) (λv d=>wpAny (Ae X.prog X.w) X.A (Ar b X.env) (λu e=>wpAny (Ae X.prog X.w) X.A (Dz op v u) (EP X c f Q) X.xe e) X.xe d) X.xe s
theorem He(b:Expr){op:CmpOp}(h:op≠.In)(a:op≠.NotIn):Hf op b=O':=by
 cases b with
 |Set _ k _=>
  show(k==0&&(op==.In||op==.NotIn)&&_)=O'
  rw[beq_false_of_ne h,beq_false_of_ne a];simp
 |_=>rfl
def lj(ta:TE):TE:=λa H Q=>ta a H λx b=>Q (.bl (decide (x=.non))) b
def lm(ta:TE):TE:=λa H Q=>ta a H λx b=>Q (.bl (!decide (x=.non))) b
theorem RelV.none_iff{x:V}{v:Aa}(r:RelV x v):(v==Value.none)=decide (x=.non):=by
 cases x with
 |non=>cases r;rfl
 |bl _=>cases r;rfl
 |int _=>let(t,rfl):=r;rfl
 |str _=>let(t,rfl):=r;rfl
 |ref _=>cases r;rfl
 |ty _=>cases r;rfl
theorem Xc {j b} (d:PE X a ta):PC X .Is a (.Constant .none j b) (lj ta):=by
 intro c s e H Q n h;apply AZ (d c s e H _ n h) λv m f=>?_;let(x,g,i,k,l):=f;show Constant_none<|is_none_gen ⟨.bl _,g,i,by rw[k.none_iff];rfl,l⟩
theorem Xd {j b} (d:PE X a ta):PC X .IsNot a (.Constant .none j b) (lm ta):=by
 intro c s e H Q n h;apply AZ (d c s e H _ n h) λv m f=>?_;let(x,g,i,k,l):=f;show Constant_none<|isnot_none_gen ⟨.bl _,g,i,by rw[k.none_iff];rfl,l⟩
def tB(t:TE):TT:=λa H Q=>t a H λx b=>∃c,x=.bl c/\Q c b
theorem Xe{op:CmpOp}{t:TE}(h:PC X op a b t)(d:Hf op b=O':=by first|show He _ (by ext) (by ext)|rfl):PE X (.Compare a [op] [b] pos) t:=λc s e H Q g f=>wpAny_Compare1 (h c s e H Q g f) d
theorem Xf{op:CmpOp}{t:TE}(h:PC X op a b t)(f:Hf op b=O':=by first|show He _ (by ext) (by ext)|rfl):PT X (.Compare a [op] [b] pos) (tB t):=by
 intro e s g H Q w i;apply wpAny_isTrue_Compare1 (AZ (h e s g H _ w i) λv o f=>AZ f λu p j=>AZ j λc r k=>?_) f;let(x,l,m,n,d,rfl,q):=k;cases n;show Jq #[l,m,q]
variable{tA BX:TT}{AX:U Expr}
def Xg(t u:TT):TT:=λa H Q=>t a H λc b=>if c=J' then u a b Q else Q O' b
def Xh(t u:TT):TT:=λa H Q=>t a H λc b=>if c=J' then Q J' b else u a b Q
def lu(t:TT):TT:=λa H Q=>t a H λc b=>Q (!c) b
theorem lw(d:PT X a tA):PW X (.BoolOp .And [a] pos) tA:=by
 intro wh b s f H Q i h;apply isTrue_and<|AZ (d b s f H Q i h) λc g e=>?_;cases c with
 |true=>show isTrue_and_nil e
 |false=>show e
theorem lx(d:PT X a tA):PW X (.BoolOp .Or [a] pos) tA:=by
 intro wh b s f H Q i h;apply isTrue_or<|AZ (d b s f H Q i h) λc g e=>?_;cases c with
 |false=>show isTrue_or_nil e
 |true=>show e
theorem ly(j:PT X a tA)(k:PW X (.BoolOp .And (b::AX) pos) BX):PW X (.BoolOp .And (a::b::AX) pos) (Xg tA BX):=by
 intro wh d s e H Q m h;apply isTrue_and<|AZ (j d s e H _ m h) λc l ⟨f,g,i⟩=>?_;cases c with
 |true=>show k wh d l e f Q g i
 |false=>show#[f,g,i]
theorem lz(j:PT X a tA)(k:PW X (.BoolOp .Or (b::AX) pos) BX):PW X (.BoolOp .Or (a::b::AX) pos) (Xh tA BX):=by
 intro wh d s e H Q m h;apply isTrue_or<|AZ (j d s e H _ m h) λc l ⟨f,g,i⟩=>?_;cases c with
 |true=>show#[f,g,i]
 |false=>show k wh d l e f Q g i
theorem lA(d:PT X a tA):PT X (.UnaryOp .Not a pos) (lu tA):=by
 intro b s e H Q g h;show isTrue_not<|d b s e H (λc f=>Q (!c) f) g h
def lB(ta tb:TE):TE:=λa H Q=>ta a H λx b=>∃c,x=.bl c/\if c=J' then tb a b Q else Q (.bl O') b
def lC(ta tb:TE):TE:=λa H Q=>ta a H λx b=>∃c,x=.bl c/\if c=J' then Q (.bl J') b else tb a b Q
def lD(ta:TE):TE:=λa H Q=>ta a H λx b=>∃c,x=.bl c/\Q (.bl (!c)) b
theorem lE {op} {t:TE} (h:PE X a t):PE X (.BoolOp op [a] pos) t:=λb s c H Q e d=>BoolOp_one<|h b s c H Q e d
theorem lF(j:PE X a ta)(k:PE X (.BoolOp .And (b::AX) pos) tb):PE X (.BoolOp .And (a::b::AX) pos) (lB ta tb):=by
 intro d s f H Q o h;apply BoolOp_and<|AZ (j d s f H _ o h) λv l m=>?_;let(x,g,i,n,e):=m;let(c,rfl,e):=e;cases n;apply Jq ?_;cases c with
 |true=>show k d l f g Q i e
 |false=>show#[.bl O',g,i,rfl,e]
theorem lG(j:PE X a ta)(k:PE X (.BoolOp .Or (b::AX) pos) tb):PE X (.BoolOp .Or (a::b::AX) pos) (lC ta tb):=by
 intro d s f H Q o h;apply BoolOp_or<|AZ (j d s f H _ o h) λv l m=>?_;let(x,g,i,n,e):=m;let(c,rfl,e):=e;cases n;apply Jq ?_;cases c with
 |false=>show k d l f g Q i e
 |true=>show#[.bl J',g,i,rfl,e]
theorem lH(e:PE X a ta):PE X (.UnaryOp .Not a pos) (lD ta):=by
 intro b s f H Q m h;apply UnaryOp_<|AZ (e b s f H _ m h) λv l g=>?_;let(x,i,j,k,d):=g;let(c,rfl,d):=d;cases k;show not_of<|Jq ⟨.bl<|!c,i,j,rfl,d⟩
def lI(t:TT)(ta tb:TE):TE:=λa H Q=>t a H λc b=>if c=J' then ta a b Q else tb a b Q
theorem lJ{c:Expr}(l:PT X c tA)(m:PE X a ta)(n:PE X b tb):PE X (.IfExp c a b pos) (lI tA ta tb):=by
 intro e s f H Q o h;apply wpAny_IfExp<|AZ (l e s f H _ o h) λd g ⟨i,j,k⟩=>?_;cases d with
 |true=>show m e g f i Q j k
 |false=>show n e g f i Q j k
end
def BZ(K:Ap)(H:Hp)(a:Ac)(xs:U V):Prop:=
 Rd H a (.lst xs) \/
  ∃(o:Obj) (b:Array Aa) (n:Nat),K.lookup a=Z o/\o.cls=.type "list"/\o.dict=J/\o.data=.seq b n/\b.size<=AB/\Aq xs b.toList
def Cb(K:Ap)(H:Hp)(a:Ac)(xs:U V):Prop:=
 Rd H a (.tup xs) \/
  ∃(o:Obj) (b:Array Aa) (n:Nat),K.lookup a=Z o/\o.cls=.type "tuple"/\o.data=.seq b n/\b.size<=AB/\Aq xs b.toList
def lK:Aa->O V
 |.none=>Z .non
 |.bool b=>Z (.bl b)
 |.int i _=>Z (.int i)
 |.str x _=>Z (.str x)
 |.ref a=>Z (.ref a)
 |.type n=>Z (.ty n)
 |_=>J
theorem RelV.abs{x:V}(r:RelV x u):lK u=Z x:=by
 cases x with
 |non=>cases r;rfl
 |bl _=>cases r;rfl
 |int _=>let(t,rfl):=r;rfl
 |str _=>let(t,rfl):=r;rfl
 |ref _=>cases r;rfl
 |ty _=>cases r;rfl
theorem RelV.inj{x y:V}(r:RelV x u)(q:RelV y u):x=y:=EE<|r.abs.symm.trans q.abs
theorem Aq.inj{xs:U V}{us:U Aa}(h:Aq xs us)(g:Aq ys us):xs=ys:=by
 induction h generalizing ys with|nil=>cases g;rfl|cons r _ a=>
  cases g with
  |cons q t=>rw[r.inj q,a t]
section
variable{H:Hp}{s:Ab}{xs:U V}
theorem Cb.of{K:Ap}(h:H a=Z (.tup xs)):Cb K H a xs:=.inl<|.inl h
theorem Inv.list(i:Inv X pins I H s)(h:BZ X.K H a xs):∃b:U Aa,Aq xs b/\PlainL s.heap a b.toArray/\xs.length<=AB:=by
 rcases h with h|⟨o,b,n,c,d,hd,f,g,r⟩
 .let(z,b,n,r,e):=h.ok i.hok;show#[b,r,#[_,n,e,rfl,rfl,rfl],z]
 .apply#[b.toList,r,#[o,n,i.kIn a o c,d,hd,by exists f],?_];let e:=r.length;erw[Kt]at e;lia
theorem Inv.tuple(i:Inv X pins I H s)(h:Cb X.K H a xs):∃b:U Aa,Aq xs b/\IsTup s.heap a b.toArray/\xs.length<=AB:=by
 rcases h with h|⟨o,b,n,c,d,f,g,r⟩
 .let(z,b,r,p):=h.ok i.hok;show#[b,r,p,z]
 .apply#[b.toList,r,#[o,i.kIn a o c,d,n,by exists f],?_];let e:=r.length;erw[Kt]at e;lia
theorem Inv.list_inj(m:Inv X pins I H s)(h:BZ X.K H a xs)(h':BZ X.K H a ys):xs=ys:=by
 let(c,r,(o,n,e,_,_,d),_):=m.list h;let(b,i,(k,l,f,_,_,g),_):=m.list h';rw[e]at f;cases f;rw[d]at g;injection g with j _
 have:c=b:=by exists congrArg Array.toList j
 subst this;show r.inj i
theorem Inv.tuple_inj(m:Inv X pins I H s)(h:Cb X.K H a xs)(h':Cb X.K H a ys):xs=ys:=by
 let(c,r,(o,e,_,n,d),_):=m.tuple h;let(b,i,(k,f,_,l,g),_):=m.tuple h';rw[e]at f;cases f;rw[d]at g;injection g with j _
 have:c=b:=by exists congrArg Array.toList j
 subst this;show r.inj i
end
abbrev Cx.wish(X:Cx)(E:AR):Cx:={X with xe:=E}
abbrev Cx.nox(X:Cx):Cx:=X.wish λ_ _=>False
theorem Cx.Ok.wish(ok:X.Ok)(E:AR):(X.wish E).Ok:=#[ok.mod,ok.kind,ok.glob,ok.blt,ok.above,ok.inj,ok.has,ok.cab,ok.hd,ok.frames,ok.stk,ok.exf,ok.bs,ok.bsz,ok.noex,ok.exfs,ok.funs,ok.frf]
theorem Cx.Ok.unwish(ok:(X.wish E).Ok):X.Ok:=#[ok.mod,ok.kind,ok.glob,ok.blt,ok.above,ok.inj,ok.has,ok.cab,ok.hd,ok.frames,ok.stk,ok.exf,ok.bs,ok.bsz,ok.noex,ok.exfs,ok.funs,ok.frf]
section
variable{H:Hp}{s:Ab}
theorem Inv.wish(a:Inv X pins I H s)(E:AR):Inv (X.wish E) pins I H s:=#[a.ok.wish E,a.os,a.bare,a.base,a.loc,a.cell,a.free,a.freeC,a.pin,a.hok,a.len]
theorem Inv.unwish(a:Inv (X.wish E) pins I H s):Inv X pins I H s:=#[a.ok.unwish,a.os,a.bare,a.base,a.loc,a.cell,a.free,a.freeC,a.pin,a.hok,a.len]
theorem SP.unwish{D:Ends}{f:Flow}{c:Ab}(h:SP (X.wish E) pins D f c):SP X pins D f c:=by
 cases f with
 |next=>let(a,b,d,q):=h;show#[a,b,d.unwish,q]
 |brk=>let(a,b,d,q):=h;show#[a,b,d.unwish,q]
 |cont=>let(a,b,d,q):=h;show#[a,b,d.unwish,q]
 |ret u=>let(v,a,b,d,r,q):=h;show#[v,a,b,d.unwish,r,q]
theorem Ep.nox{st:U AG}{t:TS}(h:Ep X.nox st t):Ep X st t:=λpins s I H D b a=>wpAny_mono (h pins s I H D (b.wish _) a) (λ_ _ q=>q.unwish) λ_ _ z=>BL z
end
section
variable{st:AG}{AX:U AG}{t u:TS}{e:Expr}
def lL:TS:=λD a H=>D.nx a H
def lM(t u:TS):TS:=λD a H=>t {D with nx:=u D} a H
theorem Er:Ep X [] lL:=λ_ _ a H _ b h=>wpAny_execs_nil #[a,H,b,h]
theorem So(c:PS X st t)(d:Ep X AX u):Ep X (st::AX) (lM t u):=by
 intro a s e H D k h;apply wpAny_execs_cons<|AZ (c a s e H {D with nx:=u D} k h) λf g q=>?_;cases f with
 |next=>
  let(b,i,j,q):=q;show d a g b i D j q
 |ret v=>show q
 |brk=>show q
 |cont=>show q
theorem Inv.quiet{a:A0}{H:Hp}{s:Ab}(b:Inv X a I H s):interactive X.env=O':=by simp[interactive,b.ok.kind]
def lN(te:TE):TS:=λD a H=>te a H λ_ b=>D.nx a b
theorem Nm(c:PE X e te)(d:DW e J pos.line X.env=Al O':=by rfl):PS X (.Expr e pos) (lN te):=by
 intro a s b H D l h;show wpAny_Expr_any (AZ (c a s b H _ l h) λv j ⟨x,f,g,k,i⟩=>#[b,f,g,i]) l.quiet d
def lO(te:TE):TS:=λD a H=>te a H D.rt
theorem Pf(c:PE X e te):PS X (.Return (Z e) pos) (lO te):=by
 intro a s b H D k h;show wpAny_Return_some<|AZ (c a s b H _ k h) λv j ⟨x,d,f,g,i⟩=>#[x,b,d,f,g,i]
def lP(c:TT)(t u:TS):TS:=λD a H=>c a H λb d=>if b=J' then t D a d else u D a d
theorem Sq{c:Expr}{a b:U AG}{g:TT}(m:PT X c g)(n:Ep X a t)(o:Ep X b u):PS X (.If c a b pos) (lP g t u):=by
 intro e s f H D p h;apply wpAny_If<|AZ (m e s f H _ p h) λd i ⟨j,k,l⟩=>?_;cases d with
 |true=>show n e i f j D k l
 |false=>show o e i f j D k l
def lQ:TS:=λ_ _ _=>False
theorem Hg:PS X st lQ:=λ_ _ _ _ _ _ h=>h.elim
end
abbrev TG:=V->St->Hp->(St->Hp->Prop)->Prop
abbrev Iz:=U V->St->Hp->(St->Hp->Prop)->Prop
def PG(X:Cx)(a:Expr)(t:TG):Prop:=
 ∀(b:A0) (s:Ab) (d:St) (H:Hp) (v:V) (u:Aa) (Q:St->Hp->Prop),Inv X b d H s->RelV v u->t v d H Q ->
  wpAny (Ae X.prog X.w) X.A (assign a X.env u) (λ_ f=>∃c e,Inv X b c e f/\Q c e) X.xe s
def Nn(X:Cx)(g:U Expr)(t:Iz):Prop:=
 ∀(a:A0) (s:Ab) (c:St) (H:Hp) (d:U V) (e:U Aa) (Q:St->Hp->Prop),Inv X a c H s->Aq d e->t d c H Q ->
  wpAny (Ae X.prog X.w) X.A (assignInOrder ((Gg g X.env).map (·.2)) e) (λ_ h=>∃b f,Inv X a b f h/\Q b f) X.xe s
abbrev Pg:=V->V->V->Hp->(Hp->Prop)->Prop
def Sr(X:Cx)(t:Pg):Prop:=
 ∀(a:A0) (s:Ab) (b:St) (H:Hp) (o i v:V) (c d u:Aa) (Q:Hp->Prop),Inv X a b H s->RelV o c->RelV i d->RelV v u->t o i v H Q ->
  wpAny (Ae X.prog X.w) X.A (setItem c d u) (λ_ f=>∃e,Inv X a b e f/\Q e) X.xe s
section
def Ku(i:Nat):TG:=λv a H Q=>Q (a.set i (Z v)) H
theorem Xi{i:Nat}{x:Af}(b:X.N.Nodup)(c:X.N[i]?=Z x)(d:Loc X.env.scope x)(e:X.fn x=J'\/X.env.scope.names.lookup x=Z .local:=by first|show .inl rfl|show .inr rfl|assumption):PG X (.Name x pos) (Ku i):=by
 intro a s g H v u Q k r h;show wpAny_assign_Name<|W9 k b c d r (λj f=>#[_,H,f,h]) e
def lR:Iz:=λa b H Q=>a=[]/\Q b H
def lT(t:TG)(u:Iz):Iz:=λb c H Q=>∃v r,b=v::r/\t v c H λa d=>u r a d Q
theorem lU:Nn X [] lR:=by
 intro a s b H c d Q e r h;let(rfl,h):=h;cases r;show assignInOrder_nil #[b,H,e,h]
theorem lV{e:Expr}{t:TG}{u:Iz}(c:PG X e t)(d:Nn X es u) (f:(Gg (e::es) X.env).map (·.2)=assign e X.env::(Gg es X.env).map (·.2):=by rfl):Nn X (e::es) (lT t u):=by
 intro a s g H o p Q w r h;let(v,q,rfl,h):=h;cases r with
 |cons r i=>
  rw[f];apply assignInOrder_cons<|AZ (c a s g H _ _ _ w r h) λ_ j k=>?_;let(b,l,m,n):=k;show d a j b l _ _ Q m i n
def lW(K:Ap)(n:Nat)(t:Iz):TG:=λv c H Q=>∃a b,v=.ref a/\Cb K H a b/\b.length=n/\t b c H Q
theorem lX{k:Nat}{t:Iz}{n:Nat}(i:X.calm=J')(h:Nn X es t) (j:(Gg es X.env).length=n:=by rfl) (d:(Gg es X.env).findIdx? (·.1)=J:=by rfl):PG X (.Tuple es k pos) (lW X.K n t):=by
 intro c s l H v u Q B r f;let(a,m,rfl,p,q,f):=f;cases r;let(w,g,x,z):=B.tuple p;show assign_Tuple_tuple (B.ok.hd i) x (by simp[j,<- q,g.length]) d λA y=>h c _ l H m _ Q (B.kept (t':=s.toks) λb o e=>y b o (Ca<|BK e) e) (by exists g) f
def lY(b c:TE)(t:Pg):TG:=λv a H Q=>b a H λo d=>c a d λi e=>t o i v e λf=>Q a f
theorem Ph{i:Expr}{f g:TE}{t:Pg}(j:PE X o f)(k:PE X i g)(l:Sr X t) (L:∀v,assign (.Subscript o i pos) X.env v=(do
   let b <- DY [v] (Ar o X.env);let c <- DY [v,b] (Ar i X.env);standAt pos
   DY [v,b,c] (setItem b c v)
   release [v,b,c] []):=by intro _;rfl):PG X (.Subscript o i pos) (lY f g t):=by
 intro a s d H v u Q K r h;apply Ao<|Gi<|AZ (j a s d H _ K h) λb m e=>?_;let(x,n,p,q,w):=e;apply Ao<|Gi<|AZ (k a m d n _ p w) λc z e=>?_;let(y,A,B,C,E):=e;show Ao<|wpAny_standAt<|Ao<|Gi<|AZ (l a z d A x y v b c u _ B q C r E) λ_ M ⟨G,F,q3⟩=>wpAny_release #[d,G,F,q3]
def LH(b:TE)(g:TG):TS:=λD a H=>b a H λx c=>g x a c D.nx
theorem Pj{b e:Expr}{c:TE}{g:TG}(f:PE X e c)(i:PG X b g)(j:swapsWithSole [b] e pos.line X.env=Al O':=by rfl)(k:swappedStores [b] e X.env=Al J:=by rfl) (l:(Gg [b] X.env).map (·.2)=[assign b X.env]:=by rfl):PS X (.Assign [b] e pos) (LH c g):=by
 intro a s d H D w h;apply wpAny_Assign_stores (AZ (f a s d H _ w h) λv m n=>?_) j k;let(x,o,p,r,t):=n;rw[l];show AZ (i a m d o x v _ p r t) λ_ u q=>q
theorem Pk{i:Nat}{x:Af}{e:Expr}{c:TE}{a:AC}(d:X.N.Nodup)(f:X.N[i]?=Z x)(g:Loc X.env.scope x)(j:PE X e c)(k:DW e (Z (.Name x a)) pos.line X.env=Al O':=by rfl)(l:X.fn x=J'\/X.env.scope.names.lookup x=Z .local:=by first|show .inl rfl|show .inr rfl|assumption):PS X (.Assign [.Name x a] e pos) (LH c (Ku i)):=by
 intro b s m H D z h;apply wpAny_Assign_Name (AZ (j b s m H _ z h) λv u n=>?_) k;let(y,o,p,q,r):=n;show W9 p d f g q (λw t=>#[_,o,t,r]) l
end
structure It where
 go:Nat->Hp->Prop
 yld:Nat->Hp->V->Hp->Prop
 stop:Nat->Hp->Prop
def Gj(X:Cx)(a:A0)(H:Hp)(b:Ac):Prop:=
 H b=J/\b≠X.env.locals/\b∉X.fs/\(b∈X.ex\/X.s₀.heap.objs.size<=b)/\(∀x c,X.env.cells.lookup x=Z c->c≠b)/\∀p∈X.pn++a,p.1≠b
theorem Inv.fpOk{a:A0}{H:Hp}{s:Ab}{b:Ac}(h:Inv X a I H s)(d:s.heap.objs.size<=b)(f:H' b=J):Gj X a H' b:=by
 apply#[f,IA<|B7 h.lt d,h.nofs d,.inr<|Bu h.sz d,λx c e z=>?_,λp g z=>?_]
 .let(v,q):=h.cell x c e;show absurd (B7 q.lt<|z ▸ d)<|Iy _
 .show absurd (B7 (BK (h.pin p g).1)<|z ▸ d)<|Iy _
structure HL(P:AL)(w:Aj)(K:Ap)(tg:Expr)(a:It)(fp:List Ac)(it:Ac)(tn:Nat->Am->Prop):Prop where
 mem:it∈fp
 obj:∀i h,tn i h->∀b∈fp,∃o,h.get? b=Z o/\∀v,o.data≠.cell v
 keep:∀i h h',tn i h->(∀b∈fp,∀o,h.get? b=Z o->h'.get? b=Z o)->tn i h'
 item:∀(X:Cx),X.prog=P->X.w=w->X.K=K->X.calm=J'->∀(i:Nat) (pins:A0) (s:Ab) (I:St) (H:Hp) (E:AR),Inv X pins I H s->(∀b∈fp,Gj X pins H b)->tn i s.heap->a.go i H ->
  wpAny (Ae P w) X.A (pyNext (.ref it)) (λr s1=>∃u,r=Z u /\
   wpAny (Ae P w) X.A (letOwnedTupleGo tg (.ref it) u) (λ_ s2=>∃x H',Inv X pins I H' s2/\RelV x u/\a.yld i H x H'/\tn (i+1) s2.heap/\∀b∈fp,H' b=J) E s1) E s
 done:∀(X:Cx),X.prog=P->X.w=w->X.K=K->X.calm=J'->∀(i:Nat) (pins:A0) (s:Ab) (I:St) (H:Hp) (E:AR),Inv X pins I H s->(∀b∈fp,Gj X pins H b)->tn i s.heap->a.stop i H ->
  wpAny (Ae P w) X.A (pyNext (.ref it)) (λr s1=>r=J/\Inv X pins I H s1) E s
 self:∀(A:Ag) (i:Nat) (s:Ab) (Q:AR) (E:AR),tn i s.heap->Q (.ref it) s->wpAny (Ae P w) A (pyIter (.ref it)) Q E s
abbrev TI:=St->Hp->(It->Hp->Prop)->Prop
variable{wi:TI}
def Xj(X:Cx)(a:A0)(I:St)(h:Expr)(R:It->Hp->Prop)(c:Aa)(s2:Ab):Prop:=
 ∃(e:Ac) (f:U Ac) (g:Nat->Am->Prop) (i:It) (d:Hp),c=.ref e/\Inv X a I d s2/\HL X.prog X.w X.K h i f e g/\g 0 s2.heap/\(∀b∈f,Gj X a d b)/\R i d
def PI(X:Cx)(c iter:Expr)(wi:TI):Prop:=
 ∀(a:A0) (s:Ab) (b:St) (H:Hp) (R:It->Hp->Prop),Inv X a b H s->wi b H R ->
  wpAny (Ae X.prog X.w) X.A (Ar iter X.env) (λv d=>wpAny (Ae X.prog X.w) X.A (pyIter v) (Xj X a b c R) X.xe d) X.xe s
theorem lZ{M:Model}{A:Ag}{s:Ab}{b:Expr}{it:Ac}{o:Obj}{n:String}{vs:Array Aa}(c:s.heap.get? it=Z o)(d:o.cls=.type n)(hd:o.data=.fields vs) (e:["enumerate","zip","dict_itemiterator","dict_reverseitemiterator","odict_iterator","itertools.zip_longest","itertools.pairwise"].contains n=O') (a:Q () s):wpAny M A (letOwnedTupleGo b (.ref it) u) Q E s:=by
 cases b<;>first
  |show AW a
  |(cases u<;>first
    |show AW a
    |(apply Ao (wpAny_load c ?_)
      rw[d,hd];change wpAny M A (if(["enumerate","zip","dict_itemiterator","dict_reverseitemiterator","odict_iterator","itertools.zip_longest","itertools.pairwise"].contains n&&vs[0]?==Z (Bx _))=J' then _ else _) Q E s
      rw[if_neg (by intro h;rw[e,Bool.false_and]at h;cases h)];show AW a))
def Xk(K:Ap)(a:Ac):It:=
 #[λi H=>∃b x,BZ K H a b/\b[i]?=Z x,λi H x c=>c=H/\∀b,BZ K H a b->b[i]?=Z x,λi H=>∃b,BZ K H a b/\b.length<=i]
def Xl(K:Ap)(a:Ac):It:=
 #[λi H=>∃b x,Cb K H a b/\b[i]?=Z x,λi H x c=>c=H/\∀b,Cb K H a b->b[i]?=Z x,λi H=>∃b,Cb K H a b/\b.length<=i]
def No(lo:Int)(n:Nat):It:=#[λi _=>i<n,λi H x a=>a=H/\x=.int (lo+i),λi _=>n<=i]
theorem Np{P:AL}{w:Aj}{K:Ap}{T:Expr}{F:It}{it:Ac}{f:Nat->Am->Prop}{n:String}(S:["enumerate","zip","dict_itemiterator","dict_reverseitemiterator","odict_iterator","itertools.zip_longest","itertools.pairwise"].contains n=O') (N:∀i h,f i h->∃o m,h.get? it=Z o/\o.cls=.type n/\o.data=.fields m) (kp:∀i h h',f i h->(∀o,h.get? it=Z o->h'.get? it=Z o)->f i h') (R:∀(X:Cx) (i:Nat) (a:A0) (s:Ab) (I:St) (H:Hp) (E:AR) (Q:O Aa->Ab->Prop),X.K=K->X.A.handled=J->Inv X a I H s->f i s.heap->(F.go i H->(∀u x h' g,f (i+1) h'->(∀b o,b≠it->s.heap.get? b=Z o->h'.get? b=Z o)->RelV x u->F.yld i H x H->Q (Z u) {s with heap:=h',toks:=g})->wpAny (Ae P w) X.A (pyNext (.ref it)) Q E s)/\(F.stop i H->(∀h' g,(∀b o,b≠it->s.heap.get? b=Z o->h'.get? b=Z o)->Q J {s with heap:=h',toks:=g})->wpAny (Ae P w) X.A (pyNext (.ref it)) Q E s)) (Y:∀(A:Ag) (i:Nat) (s:Ab) (Q:AR) (E:AR),f i s.heap->Q (.ref it) s->wpAny (Ae P w) A (pyIter (.ref it)) Q E s):HL P w K T F [it] it f where
 mem:=by simp
 obj:=λi h st b p=>by
  let(o,m,e,_,d):=N i h st;rw[Cw.mp p];show#[o,e,λv z=>by rw[d]at z;cases z]
 keep:=λi h h' st k=>kp i h h' st<|k it (by simp);item:=by
  intro X hP hw q r i a s I H E W l st t;let(B,C,f2,G,L,M):=l it (by simp);refine(R X i a s I H E _ q (W.ok.hd r) W st).1 t λu x h' g j k ru y=>?_;let(o,m,e,c,d):=N _ _ j;show#[u,rfl,lZ (s:={s with heap:=h',toks:=g}) e c d S #[x,H,W.turned k B C G L M,ru,y,j,λb p=>(l b p).1]]
 done:=by
  intro X hP hw q r i a s I H E W l st t;let(B,C,f2,G,L,M):=l it (by simp);show(R X i a s I H E _ q (W.ok.hd r) W st).2 t λh' g k=>#[rfl,W.turned k B C G L M]
 self:=Y
theorem l3{P:AL}{w:Aj}{K:Ap}{y:Expr}(a it:Ac):HL P w K y (Xk K a) [it] it (λi h=>h.IsListIter it a i):=by
 apply Np (n:="list_iterator") (by ext) (λi h st=>?_) (λi h f st k=>st.at k) (λX i t s R H E Q z A W st=>?_) λ_ _ _ _ _ st h=>wpAny_pyIter_listiter st h
 .let(o,e,c,d):=st;show#[o,_,e,c,d]
 .subst z;constructor<;>intro v q
  .let(B,x,g,j):=v;let(l,m,p,C):=W.list g;let(u,G,F):=m.get j;show wpAny_pyNext_list_item st p.isList (x:=u) (by exists G) λf r sb=>q u x f s.toks r (λb o L e=>(sb.2 b L).trans e) F #[rfl,λT M=>W.list_inj M g ▸ j]
  .let(B,g,j):=v;let(l,m,p,C):=W.list g;let S:=m.length;show wpAny_pyNext_list_end A st p.isList (by simp;lia) λf N=>q f s.toks N
theorem l5{P:AL}{w:Aj}{K:Ap}{y:Expr}(a it:Ac):HL P w K y (Xl K a) [it] it (λi h=>h.IsTupleIter it a i):=by
 apply Np (n:="tuple_iterator") (by ext) (λi h st=>?_) (λi h g st k=>st.at k) (λX i t s R H E Q z A W st=>?_) λ_ _ _ _ _ st h=>wpAny_pyIter_tupleiter st h
 .let(o,e,c,d):=st;show#[o,_,e,c,d]
 .subst z;constructor<;>intro v q
  .let(B,x,j,l):=v;let(f,m,p,C):=W.tuple j;let(u,G,F):=m.get l;show wpAny_pyNext_tuple_item st (show s.heap.IsTuple a f.toArray from p) (x:=u) (by exists G) λg r sb=>q u x g s.toks r (λb o L e=>(sb.2 b L).trans e) F #[rfl,λT M=>W.tuple_inj M j ▸ l]
  .let(B,j,l):=v;let(f,m,p,C):=W.tuple j;let S:=m.length;show wpAny_pyNext_tuple_end A st (show s.heap.IsTuple a f.toArray from p) (by simp;lia) λg N=>q g s.toks N
theorem l6{P:AL}{w:Aj}{K:Ap}{j:Expr}(it:Ac)(lo:Int)(n:Nat):HL P w K j (No lo n) [it] it (λi h=>IsRangeIter h it (lo+(i:Nat)*1) ((n:Int)-(i:Nat)) 1):=by
 apply Np (n:="range_iterator") (by ext) (λi h st=>#[_,_,st,rfl,rfl]) (λi h a st k=>k _ st) (λX i d s x H E Q y f z st=>?_) λ_ _ _ _ _ st h=>wpAny_pyIter_rangeiter st h;constructor<;>intro g q
 .refine(Walks.range f it lo 1 n).item i s _ _ g st λv a l m c p=>?_;let(t,rfl):=m;show q _ (.int<|lo+i) a l c (λb o r e=>p b o (by exists r) e) #[t,by simp] #[rfl,rfl]
 .show wpAny_pyNext_range_end f st (by have:n<=i:=g;lia) λa u=>q a s.toks u
section
def l7(K:Ap)(tl:TE):TI:=λc H R=>tl c H λx b=>∃a,x=.ref a/\(∃d,BZ K b a d)/\R (Xk K a) b
def l8(K:Ap)(tl:TE):TI:=λc H R=>tl c H λx b=>∃a,x=.ref a/\(∃d,Cb K b a d)/\R (Xl K a) b
theorem Xm{l:Expr}{tl:TE}(g:PE X l tl):PI X tg l (l7 X.K tl):=by
 intro c s i H R z h;apply AZ (g c s i H _ z h) λv d j=>?_;let(x,k,f,m,a,e,(u,n),q):=j;subst e;cases m;let(r,w,p,y):=f.list n;apply Pl p.isList ?_;apply#[d.heap.objs.size,[d.heap.objs.size],_,_,k,rfl,f.kept (t':=d.toks) λb o e=>By _ e,l3 a _,#[_,Cg _ rfl,rfl,rfl],λb t=>?_,q];let e:b=d.heap.objs.size:=by exists t
 subst e;show f.fpOk (A4 _)<|f.hok.fresh<|A4 _
theorem l9{l:Expr}{tl:TE}(i:PE X l tl):PI X tg l (l8 X.K tl):=by
 intro c s j H R z h;apply AZ (i c s j H _ z h) λv d k=>?_;let(x,m,f,n,a,e,(u,r),q):=k;subst e;cases n;let(g,w,p,y):=f.tuple r;apply wpAny_pyIter_tuple (show d.heap.IsTuple a g.toArray from p) ?_;apply#[d.heap.objs.size,[d.heap.objs.size],_,_,m,rfl,f.kept (t':=d.toks) λb o e=>By _ e,l5 a _,#[_,Cg _ rfl,rfl,rfl],λb t=>?_,q];let e:b=d.heap.objs.size:=by exists t
 subst e;show f.fpOk (A4 _)<|f.hok.fresh<|A4 _
theorem Xn{a:A0}{H:Hp}{s:Ab}{R:It->Hp->Prop}{lo c:Int}{t u v:Tok}{d:Nat}(l:Inv X a I H s)(g : -(2^62)<=lo)(h:lo<2^62)(i : -(2^62)<=c)(j:c<2^62) (q:R (No lo (c-lo).toNat) H):wpAny (Ae X.prog X.w) X.A (pyIter (.ref s.heap.objs.size)) (Xj X a I tg R) E {s with heap:=s.heap.push {cls:=.type "range",data:=.fields (T' [.int lo t,.int c u,.int 1 v])},toks:=d}:=by
 apply wpAny_pyIter_range (IsRange.new ..) (small_one g h i j) ?_;let f:Inv X a I H {s with heap:=s.heap.push {cls:=.type "range",data:=.fields (T' [.int lo t,.int c u,.int 1 v])},toks:=d}:=l.kept λb o e=>By _ e;apply#[(s.heap.push {cls:=.type "range",data:=.fields (T' [.int lo t,.int c u,.int 1 v])}).objs.size,[(s.heap.push {cls:=.type "range",data:=.fields (T' [.int lo t,.int c u,.int 1 v])}).objs.size],_,_,H,rfl,
  f.kept (t':=d) λb o e=>By _ e,l6 _ lo (c-lo).toNat,?_,λb k=>?_,q]
 .rw[show lo+((0:Nat):Int)*1=lo by simp,show(((c-lo).toNat:Nat):Int)-((0:Nat):Int)=Builtin.Range.rangeSize lo c 1 by rw[rangeSize_one];split<;>lia];show Cg _ rfl
 .let e:b=(s.heap.push {cls:=.type "range",data:=.fields (T' [.int lo t,.int c u,.int 1 v])}).objs.size:=by exists k
  subst e;show f.fpOk (A4 _)<|f.hok.fresh<|A4 _
def mf(a:TA):TI:=λb H R=>a b H λc d=>∃j:Int,c=[.int j] /\ -(2^62)<=j/\j<2^62/\R (No 0 j.toNat) d
def mj(a:TA):TI:=λb H R=>a b H λc d=>∃i j:Int,c=[.int i,.int j]/\(-(2^62)<=i/\i<2^62 /\ -(2^62)<=j/\j<2^62)/\R (No i (j-i).toNat) d
theorem Xo{a:Expr}{d:TA}{p:AC}(e:Gl X "range")(f:X.mg "range"=J)(g:PA X [a] d)(i:AK [a] X.env=[(O',Ar a X.env)]:=by rfl):PI X tg (.Call (.Name "range" p) [a] [] pos) (mf d):=by
 intro b s k H R z h;apply Call_<|HK z e f boot_range<|Nq (AZ (g pos b s k H _ z h) λv w l=>?_) i rfl;let(x,y,m,n,c):=l;let(j,rfl,c,o,q):=c;cases n with
 |cons r u=>
  cases u;let(t,rfl):=r;show call_range_1<|Xn m (Int.neg_ofNat_le_ofNat (2^62) 0) (W.kbt_pos 62) c o (by exists q)
theorem mk{a b:Expr}{g:TA}{p:AC}(k:Gl X "range")(l:X.mg "range"=J)(m:PA X [a,b] g)(n:AK [a,b] X.env=[(O',Ar a X.env),(O',Ar b X.env)]:=by rfl)(c:AK [b] X.env=[(O',Ar b X.env)]:=by rfl):PI X tg (.Call (.Name "range" p) [a,b] [] pos) (mj g):=by
 intro d s o H R F h;apply Call_<|HK F k l boot_range<|Nq (AZ (m pos d s o H _ F h) λA B u=>?_) (by rw[n,c]) (by rw[c];rfl);let(C,E,v,w,e):=u;let(i,j,rfl,(e,x,q3,y),q):=e;cases w with
 |cons r f=>
  cases f with
  |cons z f=>
   cases f;let(t,rfl):=r;let(G,rfl):=z;show call_range_2<|Xn v e x q3 y q
def Xp(wi:TI)(g:TG)(tb:TS):TS:=λD a H=>wi a H λj f=>∃W:Nat->Nat->St->Hp->Prop,(∃m,W 0 m a f)/\∀i m a H,W i m a H ->
 (j.stop i H/\D.nx a H)\/(j.go i H/\∃N:St->Hp->Prop,(∀b c,N b c->∃e,e<m/\W (i+1) e b c)/\∀x c,j.yld i H x c->g x a c λd h=>tb {D with nx:=N,ct:=N,bk:=D.nx} d h)
def Kv(a:U Ac)(h:Am):A0:=a.filterMap λb=>(h.get? b).map λo=>(b,o)
theorem Pm{a:U Ac}{h:Am}{b:Ac}{o:Obj}(c:b∈a)(e:h.get? b=Z o):(b,o)∈Kv a h:=List.mem_filterMap.mpr #[b,c,by rw[e];rfl]
theorem Xq{a:U Ac}{h:Am}{p:Ac×Obj}(c:p∈Kv a h):p.1∈a/\h.get? p.1=Z p.2:=by
 let(b,d,e):=List.mem_filterMap.mp c;let(o,q,e):=B8.mp e;grind
theorem Inv.pinned{a:A0}{H:Hp}{s:Ab}{c:U Ac}(l:Inv X a I H s)(d:∀b∈c,Gj X a H b)(h:∀b∈c,∃o,s.heap.get? b=Z o/\∀v,o.data≠.cell v):Inv X (a++Kv c s.heap) I H s:=l.pins_of λp f=>(Cj.mp f).elim (λz=>l.pin p<|De _ z) λz=>by
  let(g,e):=Xq z;let(i,j,k,_):=d p.1 g;grind
theorem Inv.unpinned{a pl:A0}{H:Hp}{s:Ab}(c:Inv X (a++pl) I H s):Inv X a I H s:=c.pins_of λp b=>c.pin p<|De _<|Ks _ b
theorem Pn{z:U AG}{g:TG}{tb:TS}(E:PassesOwn (Ae X.prog X.w) X.A X.env X.xe)(hc:X.calm=J')(hi:PI X tg iter wi)(hg:PG X tg g)(j:Ep X z tb) (hs:∀x,EF iter X.env x=Al x:=by intro _;rfl):PS X (.For tg iter z [] pos) (Xp wi g tb):=by
 intro a s I H D R h;apply wpAny_For (AZ (hi a s I H _ R h) λv s1 h1=>AZ h1 λitv s2 h2=>?_) hs;let(it,G,tn,F,H2,e,I2,T,Q,f2,W,(m0,w0),turn):=h2;subst e;let k:∀{y:Hp},(∀b∈G,y b=J)->∀b∈G,Gj X a y b:=λhn b j=>#[hn b j,(f2 b j).2];apply codeAny_forLoop_any (λn s'=>∃i l y,Inv X a l y s'/\tn i s'.heap/\(∀b∈G,y b=J)/\W i n l y) ?_ m0 #[0,I,H2,I2,Q,λb j=>(f2 b j).1,w0];intro n s3 zQ;let(i,p,K,I3,L,M,w3):=zQ;rcases turn i n p K w3 with⟨stop,qn⟩|⟨go,N,hN,step⟩
 .apply LJ E<|AZ (T.done X rfl rfl rfl hc i a s3 p K X.xe I3 (k M) L stop) λr s4 ⟨P,I4⟩=>?_;subst P;show wpAny_execs_nil #[p,K,I4,qn]
 .apply LJ E<|AZ (T.item X rfl rfl rfl hc i a s3 p K X.xe I3 (k M) L go) λr s4 ⟨u,P,h4⟩=>?_;subst P;apply LJ E<|AZ h4 λ_ s5 Y=>?_;let(x,H5,I5,r5,y5,C,fr5):=Y;apply LJ E<|AZ (hg _ s5 p H5 x u _ (I5.pinned (k fr5)<|T.obj _ _ C) r5<|step x H5 y5) λ_ s6 Y=>?_;let(σ6,H6,I6,q6):=Y;apply LJ E<|AZ (j _ s6 σ6 H6 _ I6 q6) λf s7 B=>?_;let again:∀{c:St} {q:Hp},Inv X (a++Kv G s5.heap) c q s7->N c q->∃m,m<n/\∃i l y,Inv X a l y s7/\tn i s7.heap/\(∀b∈G,y b=J)/\W i m l y:=λ{c q} t n7=>by
   let(m',hm,w7):=hN c q n7;apply#[m',hm,i+1,c,q,t.unpinned,T.keep _ _ _ C λb j o e=>(t.pin (b,o)<|De _<|De _<|Pm j e).1,λb j=>?_,w7];let(o,e,d):=T.obj _ _ C b j;show(t.pin (b,o)<|De _<|De _<|Pm j e).2.1
  cases f with
  |next=>let(c,q,t,n7):=B;show again t n7
  |cont=>let(c,q,t,n7):=B;show again t n7
  |brk=>let(c,q,t,B):=B;show#[c,q,t.unpinned,B]
  |ret v=>let(x7,c,q,t,r7,B):=B;show#[x7,c,q,t.unpinned,r7,B]
end
abbrev R2:=V->V->Hp->VK->Prop
def Cd(X:Cx)(f:Aa->Aa->Sem Aa)(r:R2):Prop:=
 ∀(a:A0) (s:Ab) (b:St) (H:Hp) (x y:V) (v u:Aa) (Q:VK),Inv X a b H s->RelV x v->RelV y u->r x y H Q ->
  wpAny (Ae X.prog X.w) X.A (f v u) (EP X a b Q) X.xe s
def Ss(X:Cx)(f:Aa->Sem Aa)(r:V->Hp->VK->Prop):Prop:=
 ∀(a:A0) (s:Ab) (b:St) (H:Hp) (x:V) (v:Aa) (Q:VK),Inv X a b H s->RelV x v->r x H Q ->
  wpAny (Ae X.prog X.w) X.A (f v) (EP X a b Q) X.xe s
def ES(X:Cx)(f:Aa)(r:U V->Hp->VK->Prop):Prop:=
 ∀(a:A0) (s:Ab) (b:St) (H:Hp) (c:U V) (d:U Aa) (Q:VK),Inv X a b H s->Aq c d->r c H Q ->
  wpAny (Ae X.prog X.w) X.A (call f d) (EP X a b Q) X.xe s
def ml(X:Cx)(r:V->Hp->(Bool->Hp->Prop)->Prop):Prop:=
 ∀(a:A0) (s:Ab) (b:St) (H:Hp) (x:V) (v:Aa) (Q:Bool->Hp->Prop),Inv X a b H s->RelV x v->r x H Q ->
  wpAny (Ae X.prog X.w) X.A (truthy v) (TP X a b Q) X.xe s
def LK(r:R2)(b tb:TE):TE:=λa H Q=>b a H λx c=>tb a c λy d=>r x y d Q
def mm(r:V->Hp->VK->Prop)(a:TE):TE:=λb H Q=>a b H λx c=>r x c Q
def rI(C:Int->Int->Prop)(g:Int->Int->V):R2:=λx y H Q=>∃i j,x=.int i/\y=.int j/\C i j/\Q (g i j) H
def HM(g:Int->Int->V):R2:=λx y H Q=>∃i j,x=.int i/\y=.int j/\Q (g i j) H
def rU(g:Int->V):V->Hp->VK->Prop:=λx H Q=>∃i,x=.int i/\Q (g i) H
section
variable{a b c:Expr}
theorem Su(k:PE X a ta)(l:PE X b tb){c:A0}{s:Ab}{H:Hp}{R:V->V->Hp->Prop}(B:Inv X c I H s)
  (h:ta I H λx i=>tb I i λy d=>R x y d) {Q:AR} {f:Aa->Aa->Sem Aa}
  (m:∀v u s2 x y d,Inv X c I d s2->RelV x v->RelV y u->R x y d->wpAny (Ae X.prog X.w) X.A (f v u) Q X.xe s2):
  wpAny (Ae X.prog X.w) X.A (Ar a X.env) (λv e=>wpAny (Ae X.prog X.w) X.A (Ar b X.env) (λu g=>wpAny (Ae X.prog X.w) X.A (f v u) Q X.xe g) X.xe e) X.xe s:=by
 apply AZ (k c s I H _ B h) λv n j=>?_
 let(x,i,o,p,q):=j
 apply AZ (l c n I i _ o q) λu s2 j=>?_
 let(y,d,r,t,z):=j
 show m v u s2 x y d r p t z
theorem mo{op:Operator}{r:R2}(d:Cd X (Hh op) r)(e:PE X a ta)(f:PE X b tb):PE X (.BinOp a op b pos) (LK r ta tb):=by
 intro c s g H Q n h;show wpAny_BinOp<|Su e f n h λv u i x y j k l m q=>d c i g j x y v u Q k l m q
theorem mq{op:UnaryOp}{r:V->Hp->VK->Prop}(d:Ss X (unaryOp op) r)(e:PE X a ta):PE X (.UnaryOp op a pos) (mm r ta):=by
 intro b s c H Q l h;show UnaryOp_<|AZ (e b s c H _ l h) λv f ⟨x,g,i,j,k⟩=>d b f c g x v Q i j k
theorem Po{f:Aa->Aa->Sem Aa}{C:Int->Int->Prop}{g:Int->Int->Int} (rule:∀(i j:Int) (t u:Tok) (s:Ab) (Q:AR) (E:AR),C i j->Q (.int (g i j) s.toks) {s with toks:=s.toks+1}->wpAny (Ae X.prog X.w) X.A (f (.int i t) (.int j u)) Q E s):Cd X f (rI C λi j=>.int (g i j)):=by
 intro a s h H x y v u Q k b c zQ;let(i,j,rfl,rfl,d,q):=zQ;let(t,rfl):=b;let(e,rfl):=c;show rule i j t e s _ _ d #[.int<|g i j,H,k.tok _,⟨_,rfl⟩,q]
theorem Xr{f:Aa->Aa->Sem Aa}{g:Int->Int->Int} (rule:∀(i j:Int) (t u:Tok) (s:Ab) (Q:AR) (E:AR),Q (.int (g i j) s.toks) {s with toks:=s.toks+1}->wpAny (Ae X.prog X.w) X.A (f (.int i t) (.int j u)) Q E s):Cd X f (HM λi j=>.int (g i j)):=by
 intro a s e H x y v u Q h b c zQ;let(i,j,rfl,rfl,q):=zQ;let(t,rfl):=b;let(d,rfl):=c;show rule i j t d s _ _ #[.int<|g i j,H,h.tok _,⟨_,rfl⟩,q]
theorem Sv{f:Aa->Aa->Sem Aa}{g:Int->Int->Bool} (rule:∀(i j:Int) (t u:Tok) (s:Ab) (Q:AR) (E:AR),Q (.bool (g i j)) s->wpAny (Ae X.prog X.w) X.A (f (.int i t) (.int j u)) Q E s):Cd X f (HM λi j=>.bl (g i j)):=by
 intro a s e H x y v u Q h b c zQ;let(i,j,rfl,rfl,q):=zQ;let(t,rfl):=b;let(d,rfl):=c;show rule i j t d s _ _ #[.bl<|g i j,H,h,rfl,q]
def Nr(i j:Int):Prop:=0<j/\j<1073741824
def LL(i j:Int):Prop:=0<=j/\j<=1000000/\i.natAbs<2^64
def DZ(i j:Int):Prop:=(-(2^64)<i/\i<2^64)\/(-(2^64)<j/\j<2^64)
theorem DZ.ok{i j:Int}(h:DZ i j):IntMulOk i j:=by
 rcases h with⟨a,b⟩|⟨a,b⟩
 .show .of_left<|intBits_le_64 a b
 .show .of_right<|intBits_le_64 a b
theorem Kw:Cd X (Hh .Add) (HM λi j=>.int (i+j)):=Xr λ_ _ _ _ _ _ _ q=>add_int q
theorem mr:Cd X (Hh .Sub) (HM λi j=>.int (i-j)):=Xr λ_ _ _ _ _ _ _ q=>sub_int q
theorem ms:Cd X (Hh .Mult) (rI DZ λi j=>.int (i*j)):=Po λ_ _ _ _ _ _ _ a q=>mul_int q a.ok
theorem mv:Cd X (Hh .FloorDiv) (rI Nr λi j=>.int (i/j)):=Po λi j _ _ _ _ _ a q=>by
 let b:(0:Int)<j:=a.1;let c:j<1073741824:=a.2;show floordiv_int (Bz<|Int.ne_of_lt b) (Int.fdiv_eq_ediv_of_nonneg i (Int.le_of_lt b) ▸ q)<|.inl<|PyProof.noPylong_small ∅
theorem mw:Cd X (Hh .Mod) (rI (λ_ j=>0<j) λi j=>.int (i%j)):=Po λi j _ _ _ _ _ a q=>by
 show mod_int' ∅ (by rw[Int.fmod_eq_emod_of_nonneg i ∅];show q)
theorem my:Cd X (Hh .Pow) (rI LL λi j=>.int (i^j.toNat)):=Po λ_ _ _ _ _ _ _ a q=>pow_int_small a.1 a.2.1 a.2.2 q
theorem mB{f:Aa->Sem Aa}{g:Int->Int} (rule:∀(i:Int) (t:Tok) (s:Ab) (Q:AR) (E:AR),Q (.int (g i) s.toks) {s with toks:=s.toks+1}->wpAny (Ae X.prog X.w) X.A (f (.int i t)) Q E s):Ss X f (rU λi=>.int (g i)):=by
 intro a s c H x v Q d b zQ;let(i,rfl,q):=zQ;let(t,rfl):=b;show rule i t s _ _ #[.int<|g i,H,d.tok _,⟨_,rfl⟩,q]
theorem mC:Ss X (unaryOp .USub) (rU λi=>.int (-i)):=mB λ_ _ _ _ _ q=>neg_int q
end
section
variable{a b c:Expr}{tc:TE}
theorem Xs{a:A0}{H:Hp}{s:Ab}{Q:VK}{k k':Bool}(b:Inv X a I H s)(q:Q (.bl k) H)(e:k=k'):EP X a I Q (.bool k') s:=by
 subst e;show#[.bl k,H,b,rfl,q]
theorem Sw:Cd X (Dz .LtE) (HM λi j=>.bl (decide (i<=j))):=Sv λ_ _ _ _ _ _ _ q=>le_int q
theorem Xt:Cd X (Dz .Gt) (HM λi j=>.bl (decide (j<i))):=Sv λ_ _ _ _ _ _ _ q=>gt_int q
theorem mD:Cd X (Dz .GtE) (HM λi j=>.bl (decide (j<=i))):=Sv λ_ _ _ _ _ _ _ q=>ge_int q
theorem mE:Cd X (Dz .In) (λx y H Q=>∃i j,x=.str i/\y=.str j/\Q (.bl (!(Nt j i 0 j.length 1).isEmpty)) H):=by
 intro a s d H x y v u Q f b c zQ;let(i,j,rfl,rfl,q):=zQ;let(t,rfl):=b;let(e,rfl):=c;show in_str<|Xs f q rfl
theorem mF:Cd X (Dz .NotIn) (λx y H Q=>∃i j,x=.str i/\y=.str j/\Q (.bl (!(!(Nt j i 0 j.length 1).isEmpty))) H):=by
 intro a s d H x y v u Q f b c zQ;let(i,j,rfl,rfl,q):=zQ;let(t,rfl):=b;let(e,rfl):=c;show notIn_str<|Xs f q rfl
theorem Cd.or{f:Aa->Aa->Sem Aa}{r b:R2}(h:Cd X f r)(h':Cd X f b):Cd X f (λx y H Q=>r x y H Q\/b x y H Q):=by
 intro a s c H x y v u Q g d e q;rcases q with q|q
 .show h a s c H x y v u Q g d e q
 .show h' a s c H x y v u Q g d e q
theorem mG{op:CmpOp}{r:R2}(d:Cd X (Dz op) r)(e:PE X a ta)(f:PE X b tb)(g:Hf op b=O'):PE X (.Compare a [op] [b] pos) (LK r ta tb):=by
 intro c s i H Q o h;show wpAny_Compare1 (Su e f o h λv u j x y k l m n q=>d c j i k x y v u Q l m n q) g
def mH(t:TE):TT:=λa H Q=>t a H λx b=>∃k,x=.bl k/\Q k b
theorem Xu{op:CmpOp}{r:R2}(g:Cd X (Dz op) r)(i:PE X a ta)(j:PE X b tb)(l:Hf op b=O'):PT X (.Compare a [op] [b] pos) (mH (LK r ta tb)):=by
 intro d s f H Q K h;apply wpAny_isTrue_Compare1 (AZ (i d s f H _ K h) λv m ⟨x,n,o,p,q⟩=>AZ (j d m f n _ o q) λu t ⟨y,w,A,B,C⟩=>
  AZ (g d t f w x y v u _ A p B C) λc L ⟨z,E,G,F,k,e,q3⟩=>?_) l
 subst e;cases F;show Jq #[E,G,q3]
def Xv(r c:R2)(ta tb tc:TE):TE:=λa H Q=>ta a H λx d=>tb a d λy e=>r x y e λz b=>∃k,z=.bl k /\
 (if k=J' then tc a b λf g=>c y f g Q else Q (.bl O') b)
theorem mI{op g:CmpOp}{r l:R2}(p:Cd X (Dz op) r)(j:Cd X (Dz g) l)(q:PE X a ta)(t:PE X b tb)(w:PE X c tc) (A:lastMarks [op,g] [b,c]=O':=by with_unfolding_all rfl):PE X (.Compare a [op,g] [b,c] pos) (Xv r l ta tb tc):=by
 intro f s i H Q R h;apply Compare_chain (AZ (q f s i H _ R h) λv B ⟨x,C,E,G,F⟩=>chain_link (AZ (t f B i C _ E F) λu L ⟨y,M,N,m,K⟩=>
  AZ (p f L i M x y v u _ N G m K) λd T ⟨z,n,o,P,k,e,q3⟩=>?_)) A
 subst e;cases P;apply Jq ?_;cases k with
 |false=>show ite_ff #[.bl O',n,o,rfl,q3]
 |true=>show ite_tt<|chain_last<|AZ (w f T i n _ o q3) λY s4 ⟨z',H4,I4,r4,q4⟩=>j f s4 i H4 y z' u Y Q I4 m r4 q4
def Xw(K:Ap)(x:V)(H:Hp)(k:Bool):Prop:=
 match x with
 |.non=>k=O'
 |.bl b=>k=b
 |.int i=>k=(i != 0)
 |.str y=>y.length<=AB/\k=((y.length:Int) != 0)
 |.ref p=>(∃a,BZ K H p a/\k=!a.isEmpty)\/(∃a,Cb K H p a/\k=!a.isEmpty)
 |_=>False
theorem Xx{xs:U V}{a:U Aa}(r:Aq xs a):(!a.toArray.isEmpty)=!xs.isEmpty:=by
 cases r<;>simp
theorem Nu:(AB:Nat)<2^63:=by rw[HN];decide
theorem mJ:ml X (λx H Q=>∃k,Xw X.K x H k/\Q k H):=by
 intro h s m H x v Q u a zQ;let(k,e,q):=zQ;let n:=Nu;cases x with
 |non=>
  cases a;subst e;show truthy_none #[H,u,q]
 |bl b=>
  cases a;let e:k=b:=e;subst e;show Jq #[H,u,q]
 |int i=>
  let(t,rfl):=a;subst e;show PySem.P.truthy_int #[H,u,q]
 |str y=>
  let(t,rfl):=a;obtain⟨o,e⟩:y.length<=AB/\k=((y.length:Int) != 0):=e;subst e;show PySem.P.truthy_str ∅ #[H,u.tok _,q]
 |ref p=>
  cases a;rcases e with⟨j,d,e⟩|⟨j,d,e⟩
  .subst e;let(f,r,g,l):=u.list d;let c:=r.length;show wpAny_truthy_list g.isList (by erw[B3];lia) #[H,u.tok _,Xx r ▸ q]
  .subst e;let(f,r,g,l):=u.tuple d;let c:=r.length;show truthy_tuple g (by erw[B3];lia) #[H,u.tok _,Xx r ▸ q]
 |_=>show(show False from e).elim
theorem mK(d:PE X a ta)(e:∀b,isTrue a X.env b=(do let v <- b;standAt a.pos;DY [v] (truthy v))):PT X a (λI H Q=>ta I H λx H'=>∃k,Xw X.K x H' k/\Q k H'):=by
 intro c s I H Q m h;show isTrue_plain (AZ (d c s I H _ m h) λv f ⟨x,g,i,j,l⟩=>mJ c f I g x v Q i j l) (e _)
theorem Fl:Cd X (Hh .Add) (λx y H Q=>∃i j,x=.str i/\y=.str j/\i.length+j.length<=AB/\Q (.str (i++j)) H):=by
 intro a s f H x y v u Q h b c zQ;let(i,j,rfl,rfl,d,q):=zQ;let(t,rfl):=b;let(e,rfl):=c;show add_str (λe g=>#[.str<|i++j,H,h.tok _,⟨_,rfl⟩,q]) d
theorem E5{x:V}{us:U Aa}(r:Aq [x] us):∃u,us=[u]/\RelV x u:=by
 cases r with
 |cons a b=>cases b;show#[_,rfl,a]
theorem Pp{x y:V}{us:U Aa}(r:Aq [x,y] us):∃u a,us=[u,a]/\RelV x u/\RelV y a:=by
 cases r with
 |cons b c=>
  cases c with
  |cons d e=>cases e;show#[_,_,rfl,b,d]
theorem mL(c:X.calm=J'):ES X (.builtin "max") (λxs H Q=>∃i j,xs=[.int i,.int j]/\Q (.int (if j>i then j else i)) H):=by
 intro b s d H xs e Q m r zQ;let(i,j,rfl,q):=zQ;let(u,f,rfl,(t,rfl),(g,rfl)):=Pp r;apply max_two_ints (m.ok.hd c) λh l k=>#[_,H,m.kept k,?_,q];by_cases a:j>i
 .rw[if_pos a,if_pos a];show#[_,rfl]
 .rw[if_neg a,if_neg a];show#[_,rfl]
theorem mM(c:X.calm=J'):ES X (.builtin "min") (λxs H Q=>∃i j,xs=[.int i,.int j]/\Q (.int (if j<i then j else i)) H):=by
 intro b s d H xs e Q m r zQ;let(i,j,rfl,q):=zQ;let(u,f,rfl,(t,rfl),(g,rfl)):=Pp r;apply min_two_ints (m.ok.hd c) λh l k=>#[_,H,m.kept k,?_,q];by_cases a:j<i
 .rw[if_pos a,if_pos a];show#[_,rfl]
 .rw[if_neg a,if_neg a];show#[_,rfl]
theorem mN:ES X (.type "int") (λxs H Q=>(∃i,xs=[.int i]/\Q (.int i) H)\/∃k,xs=[.bl k]/\Q (.int (if k then 1 else 0)) H):=by
 intro a s c H xs d Q e r h;rcases h with⟨i,rfl,q⟩|⟨k,rfl,q⟩
 .let(u,rfl,t,rfl):=E5 r;show call_int_int #[.int i,H,e,#[_,rfl],q]
 .let(u,rfl,b):=E5 r;cases b;show call_int_bool #[.int<|if k then 1 else 0,H,e.tok _,⟨_,rfl⟩,q]
def Xy(K:Ap)(x:V)(H:Hp)(n:Nat):Prop:=
 match x with
 |.str y=>y.length<=AB/\n=y.length
 |.ref p=>(∃a,BZ K H p a/\n=a.length)\/∃a,Cb K H p a/\n=a.length
 |_=>False
theorem Xz:ES X (.builtin "len") (λxs H Q=>∃x n,xs=[x]/\Xy X.K x H n/\Q (.int n) H):=by
 intro g s j H xs k Q o r zQ;let(x,n,rfl,e,q):=zQ;let(u,rfl,h):=E5 r;let l:AB=16777216:=HN;cases x with
 |str y=>
  let(t,rfl):=h;obtain⟨m,rfl⟩:y.length<=AB/\n=y.length:=e;show len_str ∅ #[.int _,H,o.tok _,#[_,rfl],q]
 |ref p=>
  cases h;rcases e with⟨xs,b,e⟩|⟨xs,b,e⟩
  .subst e;let(c,d,f,i):=o.list b;let a:=d.length;show Calls.call_len_list f.isList (by erw[B3];lia) #[.int xs.length,H,o.tok _,#[_,by erw[B3];rw[a]],q]
  .subst e;let(c,d,f,i):=o.tuple b;let a:=d.length;show len_tuple f (by erw[B3];lia) #[.int xs.length,H,o.tok _,#[_,by erw[B3];rw[a]],q]
 |_=>show(show False from e).elim
end
structure Fm(h:Am)(x dx C:Ac)(mA:BC):Prop where
 obj:h.get? x=Z (Kq C dx)
 ns:h.Ns1 dx mA
 ne:dx≠x
open J in
theorem mO{h:Am}{c:Ac}{d:BC}(n:h.Ns1 c d):∃f,h.get? c=Z f/\∀name,PySem.W.lookIn name f=Z (d name):=by
 let(o,g,m,i,hd,j,_,k):=n;apply#[o,i,λname=>?_];let e:=k name;unfold nsFind findBy at e;rw[<- Array.find?_toList]at e;unfold PySem.W.lookIn;rw[hd];dsimp only;split
 .rename_i y q;rw[q]at e;show congrArg Z e
 .rename_i q;rw[q]at e;let a:g.toList.any (·.refKey)=O':=by
   rw[List.any_eq_false];intro y l;let(z,t,b):=j y<|Array.mem_toList_iff.mp l;simp[DictEntry.refKey,b]
  rw[if_neg (show ¬ g.toList.any (·.refKey)=J' by rw[a];show LF)];show congrArg Z e
theorem Fm.look{h:Am}{x b:Ac}{c:BC}(f:Fm h x b C c):∃a,PySem.W.InstAt h x (Kq C b) C (Z a)/\∀name,PySem.W.lookIn name a=Z (c name):=let⟨a,d,e⟩:=mO f.ns
 #[a,#[f.obj,rfl,rfl,d],e]
section
variable{prog:AL}{w:Aj}{A:Ag}{s:Ab}{K:Ap}{x dx f:Ac}{mA:BC}{name:Af}{v:Aa}
theorem mP{a:Bool}{Q:AR}(X:K.In s.heap)(k:Fm s.heap x dx C mA)(c:PySem.W.plainGet K C name=J')(d:PySem.W.hasDictIn K C=J')
  (e:Jr K (.ref C) name=Z J) (f:mA name=Z v) (b:PySem.W.handedIn v=J') (h:Q v {s with toks:=s.toks+1}):
  wpAny (Ae prog w) A (getAttr (.ref x) name a) Q E s:=by
 let(i,j,g):=k.look
 show PySem.W.get_value X j (PySem.W.plainGet_of c).1 (PySem.W.findObj_own d e rfl (by rw[g,f])) b h
theorem mQ{Q:Aa×U Aa->Ab->Prop}(X:K.In s.heap)(j:Fm s.heap x dx C mA)(a:PySem.W.plainGet K C name=J')
  (b:Jr K (.ref C) name=Z (Z (.ref f))) (c:PySem.W.isFn K (.ref f)=J') (d:mA name=J) (h:Q (.ref f,[.ref x]) s):
  wpAny (Ae prog w) A (getMethod (.ref x) name pl) Q E s:=by
 let(e,i,g):=j.look
 show PySem.W.method_fn X i (PySem.W.plainGet_of a).1 (PySem.W.plainGet_of a).2 b (beq_iff_eq.mp c) (by show(PySem.W.lookIn name e).map (·.isSome)=Z O';rw[g,d];rfl) h
theorem mR{ns:U Af}(X:K.In s.heap)(G:Fm s.heap x dx C mA)
  (j:Jr K (.ref C) "__setattr__"=Z (Z (.builtin "object.__setattr__"))) (k:PySem.W.plainOver K C=J') (l:PySem.W.takerIn K C name=Z J) (m:PySem.W.hasDictIn K C=J')
  (n:PySem.Within mA ns) (hsz:ns.length<=AB)
  (h:∀h',Fm h' x dx C (λy=>if y=name then Z v else mA y)->Eo dx s.heap h'->Q () {s with heap:=h',toks:=s.toks+2}):
  wpAny (Ae prog w) A (setAttr (.ref x) name v) Q E s:=by
 let(t,F,u):=G.look
 apply PySem.W.set_plain X F j (PySem.W.osa_open (s:={s with toks:=s.toks+1}) (r:=J) X F k l λb=>?_)
 let(z,o,e):=PySem.W.any_some m
 apply Ao (AW (Ao (Ao (wpAny_loadPart G.obj (Ao (PySem.W.Looks.here (s:={s with toks:=s.toks+1}) (PySem.W.looks_clsIn X o) ?_))))))
 rw[e]
 apply AW (a:=Z dx) (Ao (AW (Ao ?_)))
 apply wpAny_nsSet1 (s:={s with toks:=s.toks+1}) G.ns λh' c d=>?_
 let(B,p,q,f,g,i):=c.count (PySem.Within.cons name v n)
 show Ao (wpAny_lookBehind f (g ▸ pastItsLine_dict (Bu i (Ck ▸ Nat.add_le_add_right hsz 1))) (AW (h _ #[(d.2 _ (Bz G.ne)).trans G.obj,c,G.ne] d)))
theorem mT{vs:U Aa}{a:U (Af×Aa)}(X:K.In s.heap)(b:PySem.W.makesIn K C=J') (c:Jr K (.ref C) "__init__"=Z (Z (.ref f))) (e:PySem.W.typeIn K (.ref f)=Z (.type "function")) (h:codeAny (Ae prog w) (A.under (.builtin "type.__call__" #[.ref C::vs,a])) (.call (.ref f) #[.ref (s.heap.objs.size+1)::vs,a]) (PySem.W.InitBack (s.heap.objs.size+1) R) {s with heap:=(s.heap.push Nv).push (Kq C s.heap.objs.size)}):codeAny (Ae prog w) A (.call (.ref C) #[vs,a]) R s:=by
 let(i,g,d,t,os):=s;show PySem.W.make_core (PySem.W.makes_of X b) (PySem.W.looks_findIn X c) (λself=>PySem.W.bind_fn X self e) (.inl rfl) h
end
def E6(f:Af)(v:V):U (Af×V)->U (Af×V)
 |[]=>[(f,v)]
 |(g,x)::r=>if g=f then(g,v)::r else(g,x)::E6 f v r
theorem XA(f g:Af)(v:V):∀a:U (Af×V),(E6 f v a).lookup g=if g=f then Z v else a.lookup g
 |[]=>by
  change List.lookup g [(f,v)]=_
  grind
 |(k,x)::r=>by
  let b:=XA f g v r;grind [E6]
theorem Sx(f:Af)(v:V):∀a:U (Af×V),f∈(E6 f v a).map (·.1)/\∀g,g∈a.map (·.1)->g∈(E6 f v a).map (·.1)
 |[]=>#[by simp[E6],λg h=>by simp at h]
 |(k,x)::r=>by
  let(b,i2):=Sx f v r;grind [E6]
theorem XB(f:Af)(v:V):∀a:U (Af×V),(E6 f v a).length<=a.length+1
 |[]=>by simp[E6]
 |(k,x)::r=>by
  let b:=XB f v r;grind [E6]
theorem Cu.some_of{v:V}{o:O Aa}(r:Cu (Z v) o):∃u,o=Z u/\RelV v u:=by
 cases o with
 |none=>show(show False from r).elim
 |some u=>show#[u,rfl,r]
theorem Cu.none_of{o:O Aa}(r:Cu J o):o=J:=by
 cases o with
 |none=>rfl
 |some u=>show(show False from r).elim
theorem mU{v:V}(r:RelV v u):PySem.W.handedIn u=J':=by
 cases v with
 |non=>cases(show u=Value.none from r);rfl
 |bl b=>cases(show u=Value.bool b from r);rfl
 |int i=>let(t,e):=(show ∃t,u=Value.int i t from r);cases e;rfl
 |str x=>let(t,e):=(show ∃t,u=Value.str x t from r);cases e;rfl
 |ref a=>cases(show u=Dx a from r);rfl
 |ty n=>cases(show u=Value.type n from r);rfl
section
variable{P:AL}{w:Aj}{H:Hp}{h:Am}{dx:Ac}{fs:U (Af×V)}
theorem Sy(hok:CD P w H h)(e:Rd H a (.ins C dx fs)):∃b,Fm h a dx C b/\(∀f,Cu (fs.lookup f) (b f))/\PySem.Within b (fs.map (·.1))/\fs.length<=1000/\H dx=Z (.own a):=by
 let(d,z,ne,c,b,n,r,q):=(show A9 P w H h a (.ins C dx fs)from e.ok hok);show#[b,#[c,n,ne],r,q,z,d]
end
structure E7(K:Ap)(C:Ac):Prop where
 pg:PySem.W.plainGet K C Str.empty=J'
 hd:PySem.W.hasDictIn K C=J'
 po:PySem.W.plainOver K C=J'
 sa:Jr K (.ref C) "__setattr__"=Z (Z (.builtin "object.__setattr__"))
theorem E7.get{K:Ap}(c:E7 K C)(f:Af):PySem.W.plainGet K C f=J':=c.pg
def BM(K:Ap)(C:Ac)(f:Af):Prop:=Jr K (.ref C) f=Z J
theorem BM.taker{K:Ap}{f:Af}(n:BM K C f):PySem.W.takerIn K C f=Z J:=by
 unfold PySem.W.takerIn;rw[show Jr K (.ref C) f=Z J from n];rfl
structure Kx(K:Ap)(C:Ac)(m:Af)(f:Ac):Prop where
 at_:Jr K (.ref C) m=Z (Z (.ref f))
 fn:PySem.W.isFn K (.ref f)=J'
 kp:IB K (.ref f)=J'
section
variable{H:Hp}{s:Ab}{dx:Ac}{fs:U (Af×V)}{f:Af}{v:V}{A:Ag}
theorem mV{b:Bool}{Q:AR}(m:Inv X pins I H s)(e:Rd H a (.ins C dx fs))(c:E7 X.K C)(n:BM X.K C f)(l:fs.lookup f=Z v) (h:∀u d,Inv X pins I H d->RelV v u->Q u d):wpAny (Ae X.prog X.w) A (getAttr (.ref a) f b) Q E s:=by
 let(i,k,r,_,_,_):=Sy m.hok e;let(u,j,g):=Cu.some_of (v:=v) (o:=i f) (l ▸ r f);show mP m.kIn k (c.get f) c.hd n j (mU g)<|h u _ (m.tok _) g
theorem XC{m:Af}{g:Ac}{Q:Aa×U Aa->Ab->Prop}(f:Inv X pins I H s)(e:Rd H a (.ins C dx fs))(c:E7 X.K C)(k:Kx X.K C m g)(l:fs.lookup m=J) (h:Q (.ref g,[.ref a]) s):wpAny (Ae X.prog X.w) A (getMethod (.ref a) m pl) Q E s:=by
 let(b,d,r,_,_,_):=Sy f.hok e;show mQ f.kIn d (c.get m) k.at_ k.fn (show b m=J by grind [Cu.none_of]) h
theorem mW{y:V}(L:Inv X pins I H s)(e:H a=Z (.ins C dx fs))(c:E7 X.K C)(n:BM X.K C f)(G:fs.length<1000)(m:RelV y u) (h:∀i,Inv X pins I (AI H a (.ins C dx (E6 f y fs))) i->Q () i):wpAny (Ae X.prog X.w) A (setAttr (.ref a) f u) Q E s:=by
 let(j,F,r,k,_,l):=Sy L.hok<|.inl e;apply mR L.kIn F c.sa c.po n.taker c.hd k (show(fs.map (·.1)).length<=AB by rw[Bn,HN];lia) λp d sb=>h _ ?_;let hd:∃o,p.get? dx=Z o:=let⟨o,_,_,t,_⟩:=d.ns;#[o,t];apply L.write (x:=a) (e:=dx) (e ▸ HP) (.inr l) (λb q v z=>(sb.2 b v).trans z) hd ?_;apply#[Zl F.ne ▸ l,?_,F.ne,d.obj,_,d.ns,λg=>?_,λg B=>?_]
 .have:=XB f y fs;lia
 .change Cu ((E6 f y fs).lookup g)<|if g=f then Z u else j g
  rw[XA];by_cases q:g=f
  .rw[if_pos q,if_pos q];show m
  .rw[if_neg q,if_neg q];show r g
 .by_cases q:g=f
  .rw[q];show(Sx f y fs).1
  .refine(Sx f y fs).2 g<|k g λz=>B ?_;show(if g=f then Z u else j g)=J
   rw[if_neg q];show z
theorem Inv.made(d:Inv X pins I H s):Inv X pins I (AI (AI H s.heap.objs.size (.own (s.heap.objs.size+1))) (s.heap.objs.size+1) (.ins C s.heap.objs.size [])) {s with heap:=(s.heap.push Nv).push (Kq C s.heap.objs.size)}:=by
 let c:((s.heap.push Nv).push<|Kq C s.heap.objs.size).get? (s.heap.objs.size+1)=Z (Kq C s.heap.objs.size):=by
  have:=Cg (s.heap.push Nv) (o:=Kq C s.heap.objs.size) rfl;simp_all
 refine(d.laid (a:=s.heap.objs.size) (o:=.own<|s.heap.objs.size+1) (h':=s.heap.push Nv) (t':=s.toks) (λb u q=>By _ q) (A4 _) #[_,(Cg s.heap rfl)]).laid (a:=s.heap.objs.size+1) (o:=.ins C s.heap.objs.size []) (t':=s.toks) (λb u q=>By _ q) (LM<|LN _ _) ?_;apply⟨by rw[Zl<|Nat.ne_add_one s.heap.objs.size,ZN],ET _,(Nat.ne_add_one s.heap.objs.size),c,λ_=>J,(Heap.Ns1.of_empty ⟨Nv,(T' []),_,(Cg s.heap rfl),rfl,(λe f=>absurd f (by simp)),λ_=>rfl⟩).at λo q=>By _ q,λ_=>HP,λy g=>absurd rfl g⟩
theorem mX{prog:AL}{w:Aj}{env:Env}{e:Expr}{f:Af}{s:Ab}{Q:AR}(b:E8 e f env (Ar e env)=Ar e env) (h:wpAny (Ae prog w) A (Ar e env) (λo a=>wpAny (Ae prog w) A (getAttr o f J') Q E a) E s):wpAny (Ae prog w) A (Ar (.Attribute e f pos) env) Q E s:=Attribute_any_ h (by rw[arm_eval_Attribute,b])
end
def mY(K:Ap)(d:TE)(f:Af):TE:=λe H Q=>d e H λx b=>∃a C g c v,x=.ref a/\Rd b a (.ins C g c)/\E7 K C/\BM K C f/\c.lookup f=Z v/\Q v b
def mZ(K:Ap)(g h:TE)(f:Af):TS:=λD b H=>h b H λy i=>g b i λx d=>∃a C e c,x=.ref a/\d a=Z (.ins C e c)/\E7 K C/\BM K C f/\c.length<1000 /\
 D.nx b (AI d a (.ins C e (E6 f y c)))
section
variable{e value:Expr}{f:Af}{tv:TE}
theorem XD(d:PE X e ta)(g:E8 e f X.env (Ar e X.env)=Ar e X.env):PE X (.Attribute e f pos) (mY X.K ta f):=by
 intro b s i H Q E h;apply mX g<|AZ (d b s i H _ E h) λu w j=>?_;let(x,k,m,o,a,C,y,z,v,rfl,p,c,n,l,q):=j;obtain rfl:u=Dx a:=o;show mV m p c n l λA B r t=>#[v,k,r,t,q]
theorem m5(e:PE X o ta)(g:PE X value tv)(i:DW value (Z (.Attribute o f pos')) pos.line X.env=Al O'):PS X (.Assign [.Attribute o f pos'] value pos) (mZ X.K ta tv f):=by
 intro b s d H D N h;apply plainObj_wpAny_Assign_Attribute (AZ (g b s d H _ N h) λu j ⟨y,k,m,p,q⟩=>AZ (e b j d k _ m q) λr E t=>?_) i;let(x,G,v,w,a,C,F,L,rfl,z,c,n,l,A):=t;obtain rfl:r=Dx a:=w;show mW v z c n l p λM B=>#[d,_,B,A]
end
structure AM(k:Nat)(A:Ag):Prop where
 hd:A.handled=J
 dp:A.depth+3*k+5<recursionLimit
 un:A.units+16*k+200<Av
theorem AM.mono{k:Nat}{A:Ag}(r:AM k A)(h:j<=k):AM j A:=#[r.hd,by have:=r.dp;lia,by have:=r.un;lia]
theorem AM.deeper{k:Nat}{A:Ag}(r:AM (k+1) A)(env:Env):AM k (A.deeper env):=#[r.hd,by have:=r.dp;change A.depth+1+3*k+5<_;lia,by have:=r.un;change A.units+3+16*k+200<_;lia]
theorem AM.in1{k:Nat}{A:Ag}(r:AM (k+1) A):AM k A.in1:=#[r.hd,by have:=r.dp;change A.depth+3*k+5<_;lia,by have:=r.un;change A.units+1+16*k+200<_;lia]
theorem m7{A:Ag}{us:U Aa}{a:U (Af×Aa)}:(A.under (.builtin "type.__call__" #[.ref C::us,a])).depth=A.depth+1:=by
 rfl
theorem m8{A:Ag}{us:U Aa}{a:U (Af×Aa)}:(A.under (.builtin "type.__call__" #[.ref C::us,a])).units=A.units+1:=by
 rfl
theorem AM.make{k:Nat}{A:Ag}(r:AM (k+1) A)(C:Ac)(us:U Aa)(a:U (Af×Aa)):AM k (A.under (.builtin "type.__call__" #[.ref C::us,a])):=#[r.hd,by have:=r.dp;rw[m7];lia,by have:=r.un;rw[m8];lia]
theorem AM.depth{k:Nat}{A:Ag}(r:AM k A):A.depth<recursionLimit:=by have:=r.dp;lia
theorem AM.units{k:Nat}{A:Ag}(r:AM k A):A.units+64<Av:=by have:=r.un;lia
def Sz:TA:=λ_ H Q=>Q [] H
def XE(b:TE)(tr:TA):TA:=λa H Q=>b a H λx c=>tr a c λd e=>Q (x::d) e
section
variable{e:Expr}{t:TA}
theorem Bf:PA X [] Sz:=λ_ _ _ _ H Q a h=>Calls.spliced_nil #[[],H,a,.nil,h]
theorem Z4(c:PE X e te)(d:PA X es t)(f:AK (e::es) X.env=(O',Ar e X.env)::AK es X.env:=by rfl):PA X (e::es) (XE te t):=by
 intro pos a s b H Q w h;rw[f];change wpAny _ _ (spliced<|(O',Ar e X.env)::AE pos (AK es X.env)) _ _ s
 show Calls.spliced_cons<|AZ (c a s b H _ w h) λu g ⟨x,i,j,k,l⟩=>AZ (d pos a g b i _ j l) λr v ⟨m,n,o,p,q⟩=>#[x::m,n,o,.cons k p,q]
def m9(t:TA):TE:=λc H Q=>t c H λa b=>a.length<=AB/\∀p,b p=J->Q (.ref p) (AI b p (.tup a))
def ng(t:TA):TE:=λc H Q=>t c H λa b=>a.length<=AB/\∀p,b p=J->Q (.ref p) (AI b p (.lst a))
theorem ni {f} (h:PA X es t):PE X (.Tuple es f pos) (m9 t):=by
 intro a s g H Q m i;apply wpAny_Tuple_spliced<|AZ (h pos a s g H _ m i) λj c ⟨k,l,d,r,z,q⟩=>#[r.length ▸ z,?_];apply#[.ref c.heap.objs.size,AI l c.heap.objs.size<|.tup k,d.laid (t':=c.toks) (λb u e=>By _ e) (A4 _) ?_,rfl,q _<|d.hok.fresh<|A4 _];show⟨z,j,r,⟨_,Cg _ rfl,rfl,_,rfl⟩⟩
theorem XF(h:PA X es t):PE X (.List es pos) (ng t):=by
 intro a s f H Q l g;apply wpAny_List_spliced<|AZ (h pos a s f H _ l g) λi c ⟨j,k,d,r,z,q⟩=>#[r.length ▸ z,?_];apply#[.ref c.heap.objs.size,AI k c.heap.objs.size<|.lst j,d.laid (t':=c.toks) (λb u e=>By _ e) (A4 _) ?_,rfl,q _<|d.hok.fresh<|A4 _];show⟨z,i,0,r,Cg _ rfl⟩
end
abbrev Sp:=U V->Hp->VK->XK->Prop
abbrev D0:=U Env->Hp->Ab->XK->AR
variable{CX:D0}
structure CV(P:AL)(w:Aj)(K:Ap)(mg:BC)(base:Am)(A:Ag)(outer:List Env)(s:Ab)(H:Hp):Prop where
 frames:A.frames=Z outer
 mod:Mod K mg base
 bs:∀b o,base.get? b=Z o->s.heap.get? b=Z o/\H b=J
 bsz:base.objs.size<=s.heap.objs.size
 funs:s.heap.FunFrames base outer
 frf:∀b∈EQ outer,H b=J
 hok:CD P w H s.heap
 bare:AllBare s.gens
def CE(outer:U Env)(P:AL)(w:Aj)(H:Hp)(s:Ab)(Q:VK)(u:Aa)(a:Ab):Prop:=
 ∃v b,a.os=s.os/\AllBare a.gens/\Un (EQ outer) [] H b s.heap a.heap/\CD P w b a.heap/\RelV v u/\Q v b
def CR(CX:D0)(outer:U Env)(P:AL)(w:Aj)(H:Hp)(s:Ab)(Q:VK)(E:XK)(r:Result)(a:Ab):Prop:=
 match r with
 |.ok (.ret u)=>CE outer P w H s Q u a
 |.ok _=>False
 |.error e=>CX outer H s E e a
structure A3(P:AL)(w:Aj)(K:Ap)(mg:BC)(base:Am)(CX:D0)(k:Nat)(f:Ac)(fd:Cr)(ps:List Af)(sp:Sp):Prop where
 len:∀vs H Q E,sp vs H Q E->vs.length=ps.length
 run:∀(A:Ag) (outer:List Env) (s:Ab) (H:Hp) (args:Args) (us:List Aa) (vs:List V) (Q:VK) (E:XK),AM k A->CV P w K mg base A outer s H->BindsTo s fd args (ps.zip us)->Aq vs us->sp vs H Q E ->
  codeAny (Ae P w) A (.call (.ref f) args) (CR CX outer P w H s Q E) s
theorem A3.imp{P:AL}{w:Aj}{K:Ap}{mg:BC}{base:Am}{k:Nat}{f:Ac}{fd:Cr}{b:U Af}{sp a:Sp}(F:A3 P w K mg base CX k f fd b sp) (h:∀vs H Q E,a vs H Q E->sp vs H Q E):A3 P w K mg base CX k f fd b a:=#[λvs H Q E q=>F.len vs H Q E<|h _ _ _ _ q,λA outer s H args c vs Q E d e g i j=>F.run A outer s H args c vs Q E d e g i<|h _ _ _ _ j]
theorem CV.make{P:AL}{w:Aj}{K:Ap}{mg:BC}{base:Am}{A:Ag}{outer:U Env}{s:Ab}{H:Hp}(e:CV P w K mg base A outer s H)(C:Ac)(us:U Aa)(a:U (Af×Aa)):CV P w K mg base (A.under (.builtin "type.__call__" #[.ref C::us,a])) outer s H:=#[by(simpa[Around.under,Code.envs,Code.isFrame,pushEnvs]using e.frames),e.mod,e.bs,e.bsz,e.funs,e.frf,e.hok,e.bare]
theorem CV.in1{P:AL}{w:Aj}{K:Ap}{mg:BC}{base:Am}{A:Ag}{outer:U Env}{s:Ab}{H:Hp}(e:CV P w K mg base A outer s H):CV P w K mg base A.in1 outer s H:=#[e.frames,e.mod,e.bs,e.bsz,e.funs,e.frf,e.hok,e.bare]
section
variable{H:Hp}{s s':Ab}
theorem Inv.env0(a:Inv X pins I H s):CV X.prog X.w X.K X.mg X.base X.A X.stack s H:=#[a.ok.frames,a.ok.mod,a.bs,Bu a.ok.bsz a.sz,a.stack,a.stkFree,a.hok,a.bare]
theorem Inv.after{Q:VK}(f:Inv X pins I H s)(h:CE X.stack X.prog X.w H s Q u s'):EP X pins I Q u s':=by
 let(v,c,os,bare,un,hok,r,q):=h;let(e,g,d,t,a):=s';obtain rfl:a=s.os:=os;show#[v,c,f.call (h':=e) (g':=g) (d':=d) (t':=t) (ch:=[]) un hok bare (λb z=>absurd z (by simp)),r,q]
end
def Pq(sp:Sp)(a:U V)(E:XK)(t:TA):TE:=λb H Q=>t b H λc d=>sp (c++a) d Q E
def SD(C:Ac)(m:Af)(sp:Sp)(b:U V)(E:XK)(f:TE)(t:TA):TE:=λc H Q=>f c H λx d=>∃a g e,x=.ref a/\Rd d a (.ins C g e)/\e.lookup m=J /\
 t c d λh i=>sp (x::(h++b)) i Q E
def nj(C:Ac)(sp:Sp)(b:U V)(E:XK)(t:TA):TE:=λd H Q=>t d H λe c=>∀x a,c x=J->c a=J->x=a+1 ->
 sp (.ref x::(e++b)) (AI (AI c a (.own x)) x (.ins C a [])) (λv f=>v=.non/\Q (.ref x) f) E
def Binds(K:Ap)(fd:Cr)(b:U Af)(c:U Aa):Prop:=
 ∀(s:Ab) (a:U Aa),K.In s.heap->(a++c).length=b.length->BindsTo s fd #[a,[]] (b.zip (a++c))
theorem Binds.all{K:Ap}{fd:Cr}{a:U Af}(h:∀us:U Aa,us.length=a.length->bindArgs fd #[us,[]]=Al (a.zip us)):Binds K fd a []:=λs us _ b=>by
 rw[D1]at b ⊢;show .of_eq<|h us b
def Fn(CX:D0)(X:Cx)(E:XK):Prop:=∀(a:A0)(c:St)(H:Hp)(s:Ab)(e:Aa)(b:Ab),Inv X a c H s->CX X.stack H s E e b->X.xe e b
section
variable{k:Nat}{f:Ac}{fd:Cr}{sp:Sp}{dvs:U V}{ds:U Aa}{E:XK}{x m:Af}{p:AC}{e:Expr}{t:TA}
theorem SE{a:A0}{H:Hp}{s:Ab}{Q:VK}{us:U Aa}(F:A3 X.prog X.w X.K X.mg X.base CX k f fd ps sp)(c:AM k X.A)(d:Binds X.K fd ps ds)(hd:Aq dvs ds)(g:Fn CX X E) (l:Inv X a I H s) (r:Aq vs us) (h:sp (vs++dvs) H Q E):wpAny (Ae X.prog X.w) X.A (call (.ref f) us) (EP X a I Q) X.xe s:=by
 apply wpAny_call<|codeAny_mono (F.run X.A X.stack s H ⟨us,[]⟩ (us++ds) (vs++dvs) Q E c l.env0 (d s us l.kIn (show(us++ds).length=ps.length by rw[<- (r.append hd).length];show F.len _ _ _ _ h)) (r.append hd) h) λr i b=>?_;cases r with|error e=>show g a I H s e i l b|ok j=>
  cases j with
  |ret u=>show l.after b
  |next=>show BL b
  |brk=>show BL b
  |cont=>show BL b
theorem Pr(F:A3 X.prog X.w X.K X.mg X.base CX k f fd ps sp)(i:AM k X.A)(j:Gl X x)(l:X.mg x=Z (.ref f))(m:IB X.K (.ref f)=J')(n:Binds X.K fd ps ds)(hd:Aq dvs ds)(o:Fn CX X E) (u:PA X (e::es) t) (b:DV x:=by ext) (v:AK (e::es) X.env=(O',Ar e X.env)::AK es X.env:=by rfl) (c:(AE pos (AK es X.env)).any (·.1)=O':=by rfl):PE X (.Call (.Name x p) (e::es) [] pos) (Pq sp dvs E t):=by
 intro a s y H Q d h;show Nw<|Sk d j l (PySem.W.callWith_K (h₀:=X.base) d.ok.mod.kin m (AZ (u pos a s y H _ d h) λz B ⟨C,G,g,r,q⟩=>#[g.kIn,SE F i n hd o g r q]) v c) b
theorem nk(y:PE X o ta)(c:E7 X.K C)(j:Kx X.K C m f)(F:A3 X.prog X.w X.K X.mg X.base CX k f fd ps sp)(L:AM k X.A)(M:Binds X.K fd ps ds)(hd:Aq dvs ds)(N:Fn CX X E)(P:PA X (e::es) t) (d:AK (e::es) X.env=(O',Ar e X.env)::AK es X.env:=by rfl) (g:(AE pos (AK es X.env)).any (·.1)=O':=by rfl) (T:Ar (.Call (.Attribute o m apos) (e::es) [] pos) X.env=(do
   let n <- Ar o X.env;standAt apos.atName;let(f,i) <- DY [n] (getMethod n m pl);callWith pos f i (AE pos (AK (e::es) X.env)) (FQ pos (FR [] X.env))):=by rfl):PE X (.Call (.Attribute o m apos) (e::es) [] pos) (SD C m sp dvs E ta t):=by
 intro b s p H Q S h;apply PySem.W.methodCall_KW (pl:=pl) (AZ (y b s p H _ S h) λu R Y=>?_) T;let(x,H1,v,rx,a,dx,fs,rfl,ea,l,q):=Y;obtain rfl:u=Dx a:=rx;show XC v ea c j l<|PySem.W.callWith_K (first:=[.ref a]) (h₀:=X.base) S.ok.mod.kin j.kp (AZ (P pos b R p H1 _ v q) λz s2 ⟨B,H2,G,r,q2⟩=>#[G.kIn,SE (us:=.ref a::z) (vs:=.ref a::B) F L M hd N G (.cons rfl r) q2]) d g
theorem nl(j:PE X o ta)(c:E7 X.K C)(g:Kx X.K C m f)(F:A3 X.prog X.w X.K X.mg X.base CX k f fd ps sp)(n:AM k X.A)(p:Binds X.K fd ps ds)(hd:Aq dvs ds)(r:Fn CX X E) (t:Ar (.Call (.Attribute o m apos) [] [] pos) X.env=(do
   let i <- Ar o X.env;standAt apos.atName;let(f,d) <- DY [i] (getMethod i m pl);callWith pos f d (AE pos (AK [] X.env)) (FQ pos (FR [] X.env))):=by rfl):PE X (.Call (.Attribute o m apos) [] [] pos) (SD C m sp dvs E ta Sz):=by
 intro b s v H Q P h;apply PySem.W.methodCall_KW (pl:=pl) (AZ (j b s v H _ P h) λu G y=>?_) t;let(x,N,e,z,a,L,M,rfl,B,l,q):=y;obtain rfl:u=Dx a:=z;show XC e B c g l<|PySem.W.callWith_K0 (first:=[.ref a]) e.kIn g.kp (SE (us:=[.ref a]) (vs:=[.ref a]) F n p hd r e (.cons rfl .nil) q)
structure Mk(K:Ap)(C f:Ac):Prop where
 makes:PySem.W.makesIn K C=J'
 init:Jr K (.ref C) "__init__"=Z (Z (.ref f))
 fn:PySem.W.isFn K (.ref f)=J'
 kp:IB K (.ref C)=J'
theorem nq{a:A0}{H:Hp}{s:Ab}{Q:VK}{us:U Aa}(M:Mk X.K C f)(F:A3 X.prog X.w X.K X.mg X.base CX k f fd ps sp)(j:AM (k+1) X.A)(l:Binds X.K fd ps ds)(hd:Aq dvs ds)
  (m:Fn CX X E) (B:Inv X a I H s) (r:Aq vs us)
  (h:∀x c,H x=J->H c=J->x=c+1->sp (.ref x::(vs++dvs)) (AI (AI H c (.own x)) x (.ins C c [])) (λv n=>v=.non/\Q (.ref x) n) E):
  wpAny (Ae X.prog X.w) X.A (call (.ref C) us) (EP X a I Q) X.xe s:=by
 let g:=h (s.heap.objs.size+1) s.heap.objs.size (B.hok.fresh (Nat.le_succ _)) (B.hok.fresh (A4 _)) rfl
 let d:=Inv.made (C:=C) B
 let i:Aq (V.ref (s.heap.objs.size+1)::(vs++dvs)) (Dx (s.heap.objs.size+1)::(us++ds)):=.cons rfl (r.append hd)
 let o:(Dx (s.heap.objs.size+1)::us++ds).length=ps.length:=by
  let e:=i.length
  rw[F.len _ _ _ _ g]at e
  show e.symm
 apply wpAny_call (mT (f:=f) B.kIn M.makes M.init (beq_iff_eq.mp M.fn) (codeAny_mono (F.run _ X.stack _ _ #[Dx (s.heap.objs.size+1)::us,[]] (Dx (s.heap.objs.size+1)::(us++ds)) _ _ E (j.make C us [])
  (d.env0.make C us []) (l _ (Dx (s.heap.objs.size+1)::us) d.kIn o) i g) λr p b=>?_))
 cases r with
 |error e=>show m a I _ _ e p d b
 |ok q=>
  cases q with
  |ret u=>
   let(v,t,y,z,rfl,q3):=d.after b
   show#[z,#[V.ref (s.heap.objs.size+1),t,y,rfl,q3]]
  |next=>show BL b
  |brk=>show BL b
  |cont=>show BL b
theorem nr(M:Mk X.K C f)(F:A3 X.prog X.w X.K X.mg X.base CX k f fd ps sp)(i:AM (k+1) X.A)(j:Gl X x)(l:X.mg x=Z (.ref C))(m:Binds X.K fd ps ds)(hd:Aq dvs ds)(n:Fn CX X E) (o:PA X (e::es) t) (b:DV x:=by ext) (u:AK (e::es) X.env=(O',Ar e X.env)::AK es X.env:=by rfl) (c:(AE pos (AK es X.env)).any (·.1)=O':=by rfl):PE X (.Call (.Name x p) (e::es) [] pos) (nj C sp dvs E t):=by
 intro a s v H Q d h;show Nw<|Sk d j l (PySem.W.callWith_K (h₀:=X.base) d.ok.mod.kin M.kp (AZ (o pos a s v H _ d h) λy z ⟨B,G,g,r,q⟩=>#[g.kIn,nq M F i m hd n g r q]) u c) b
end
def PK(X:Cx)(b:U DA)(t:TA):Prop:=
 ∀(c:AC) (a:A0) (s:Ab) (d:St) (H:Hp) (Q:U V->Hp->Prop),Inv X a d H s->t d H Q->wpAny (Ae X.prog X.w) X.A (evalAll ((FQ c (FR b X.env)).map (·.2))) (AP X a d Q) X.xe s
section
variable{k:Nat}{f:Ac}{x m:Af}{p kpos:AC}{e:Expr}{kws:U DA}{t:TA}{nm:O Af}
theorem nt:PK X [] Sz:=λ_ _ _ _ H Q a h=>wpAny_evalAll_nil #[[],H,a,.nil,h]
theorem nu(c:PE X e te)(d:PK X kws t):PK X (#[nm,e,kpos]::kws) (XE te t):=by
 intro pos a s b H Q v h;show wpAny_evalAll_cons<|Ao<|AZ (c a s b H _ v h) λu f ⟨x,g,i,j,k⟩=>Ao<|wpAny_standAt<|AW<|AZ (d pos a f b g _ i k) λq r ⟨l,m,n,o,p⟩=>#[x::l,m,n,.cons j o,p]
end
structure FS(N P:List Af)(sc:Scope):Prop where
 kind:sc.kind=.function
 co:sc.isCoroutine=O'
 gen:sc.isGenerator=O'
 nd:N.Nodup
 pre:N.take P.length=P
 par:∀x∈P,sc.names.lookup x=Z .local\/sc.names.lookup x=Z .cell
 nofree:∀y∈sc.names,y.2≠.free
theorem XG{kindOf:Af->O Hj}{x:Af}:∀{a:U (Af×Aa)}{m:BC},(∀v,(x,v)∉a)->bindL kindOf a m x=m x
 |[],_,_=>rfl
 |(n,v)::r,m,h=>by
  unfold bindL;rw[XG λw b=>h w<|Bg _ b];split
  .grind [Ba]
  .rfl
theorem XH{kindOf:Af->O Hj}{x:Af}:∀{a:U (Af×Aa)}{m:BC},(∀v,(x,v)∉a)->bindC kindOf a m x=m x
 |[],_,_=>rfl
 |(n,v)::r,m,h=>by
  unfold bindC;rw[XH λw b=>h w<|Bg _ b];split
  .rfl
  .grind [Ba]
theorem XJ{kindOf:Af->O Hj}{x:Af}{v:Aa}:∀{P:U Af}{vs:U Aa}{i:Nat}{m:BC},P.Nodup->P[i]?=Z x->vs[i]?=Z v->kindOf x=Z .local->bindL kindOf (P.zip vs) m x=Z v
 |[],_,_,_,_,h,_,_=>by simp at h
 |_::_,[],_,_,_,_,h,_=>by simp at h
 |p::P,w::vs,0,m,nd,a,b,c=>by
  simp at a b;subst a;subst b;change bindL kindOf ((p,w)::P.zip vs) m p=_
  unfold bindL;rw[XG λv d=>(Gk.mp nd).1 (Nx d).1,if_pos c];simp
 |p::P,w::vs,i+1,m,nd,a,b,c=>by
  unfold bindL;show XJ (i:=i) (Gk.mp nd).2 (by exists a) (by exists b) c
theorem XM{kindOf:Af->O Hj}{x:Af}{v:Aa}:∀{P:U Af}{vs:U Aa}{i:Nat}{m:BC},P.Nodup->P[i]?=Z x->vs[i]?=Z v->kindOf x≠Z .local->bindC kindOf (P.zip vs) m x=Z v
 |[],_,_,_,_,h,_,_=>by simp at h
 |_::_,[],_,_,_,_,h,_=>by simp at h
 |p::P,w::vs,0,m,nd,a,b,c=>by
  simp at a b;subst a;subst b;change bindC kindOf ((p,w)::P.zip vs) m p=_
  unfold bindC;rw[XH λv d=>(Gk.mp nd).1 (Nx d).1,if_neg c];simp
 |p::P,w::vs,i+1,m,nd,a,b,c=>by
  unfold bindC;show XM (i:=i) (Gk.mp nd).2 (by exists a) (by exists b) c
def Hk(N:U Af)(vs:U V):St:=vs.map Z++Es (N.length-vs.length) J
def Et(CX:D0)(P:AL)(w:Aj)(K:Ap)(mg:BC)(base:Am)(N:U Af)(a:Af)(scope:Scope)(f:Ac)(c:Aa)(A:Ag)(outer:U Env)(s:Ab)(H:Hp)(E:XK):Cx where
 prog:=P
 w:=w
 K:=K
 mg:=mg
 base:=base
 A:=A.deeper (Bk a scope s.heap.objs.size f c)
 N:=N
 s₀:=s
 H₀:=H
 env:=Bk a scope s.heap.objs.size f c
 outer:=outer
 stack:=Bk a scope s.heap.objs.size f c::outer
 ex:=[]
 calm:=J'
 fn:=λ_=>J'
 pn:=[]
 xe:=λe d=>wpAny (Ae P w) (A.deeper (Bk a scope s.heap.objs.size f c)) (leaving (Bk a scope s.heap.objs.size f c) e) (λ_ b=>CX outer H s E e b) (λg b=>CX outer H s E g b) d
theorem XN{a:Scope}{n:Nat}{x:Af}(h:a.names.lookup x=Z .cell):∃c,(cellsFrom n a.names []).lookup x=Z c:=by
 let q:=PySem.W.cellsFrom_some a.names n []<|.inl h;grind [Option.isSome_iff_exists]
theorem nv{P:AL}{w:Aj}{K:Ap}{mg:BC}{base:Am}{N l:U Af}{d:Af}{f:Ac}{G:Aa}{A:Ag}{outer:U Env}{s s1:Ab}{H:Hp}{E:XK}{us:U Aa} (S:FS N l scope) (hd:A.handled=J) (j:CV P w K mg base A outer s H) (M:vs.length=l.length) (r:Aq vs us) (x:InCallC s s.heap.objs.size (bindL (Bk d scope s.heap.objs.size f G).kindOf (l.zip us) λ_=>J) (cellsFrom (s.heap.objs.size+1) scope.names []) (bindC (Bk d scope s.heap.objs.size f G).kindOf (l.zip us) λ_=>J) s1):Inv (Et CX P w K mg base N d scope f G A outer s H E) [] (Hk N vs) H s1:=by
 let R:l.length<=N.length:=by have:=congrArg Ky S.pre;rw[Kz]at this;lia
 let(X,W,rfl,F):=x.done;let m:∀b:Ac,b∉(Et CX P w K mg base N d scope f G A outer s H E).ex:=λb z=>absurd (show b∈([]:U Ac)from z) (by simp);apply#[#[j.mod,S.kind,rfl,rfl,A4 _,λy z c X g=>?_,λy o=>?_,λy c _ h=>?_,λ_=>hd,Around.frames_deeper j.frames,.inr #[rfl,rfl],λb z=>absurd z<|m b,j.bs,j.bsz,λb _ _=>m b,λb z=>absurd z<|m b,j.funs,j.frf],
  rfl,j.bare,Un.kept F,#[_,x.toInCall.ns,λi y v X g Y=>?_],λy c h=>#[_,x.cell y c h],j.hok.fresh<|A4 _,λy c h=>?_,λp t=>absurd (show p∈([]:A0)from t) (by simp),j.hok.kept F,?_]
 .show name_of_addr x.apart (KA X)<|KA g
 .rcases o with o|o
  .show XN o
  .show absurd rfl<|S.nofree _<|KA o
 .show FP<|x.above y c<|KA h
 .let B:i<vs.length:=by
   unfold Hk at g;by_cases B:i<vs.length
   .show B
   .rw[Fp (by exists B),KC]at g;split at g<;>cases g
  let Q:vs[i]?=Z v:=by
   unfold Hk at g;rw[D9 (by exists B),CF]at g;cases e:vs[i]? with
   |none=>rw[e]at g;cases g
   |some a=>rw[e]at g;cases g;rfl
  let(u,L,T):=r.get Q;let t:l[i]?=Z y:=by
   rw[<- S.pre,XO<|Js B M];show X
  let C:l.Nodup:=S.pre ▸ S.nd.sublist (List.take_sublist _ _);apply#[u,T,?_];rcases S.par y (LO t)with k|k
  .show .inl #[k,XJ C t L k]
  .let(c,e):=XN (n:=s.heap.objs.size+1) k;apply .inr #[.inl k,c,e,?_];let q:=x.cell y c e;rw[XM C t L (by change scope.names.lookup y≠_;rw[k];decide)]at q;show q
 .show j.hok.fresh<|FP<|x.above y c<|KA h
 .unfold Hk;change _=N.length
  rw[Ea,Bn,LP];lia
theorem ny{P:AL}{w:Aj}{K:Ap}{mg:BC}{base:Am}{k:Nat}{f:Ac}{name a:Af}{c:Arguments}{g:U AG}{R T m pm d ct oc:Aa}{X od:O Ac} {C:Array (O Aa)} {N B:U Af} {sp:Sp} (lk:K.lookup f=Z #[oc,od,.func (Jt name a c g scope R T m pm X d ct),C]) (G:PySem.W.codeIn K d a=J') (S:FS N B scope) (len:∀vs H Q E,sp vs H Q E->vs.length=B.length) (i:∀(A:Ag) (outer:U Env) (s:Ab) (H:Hp) (vs:U V) (Q:VK) (E:XK),AM k (A.deeper (Bk a scope s.heap.objs.size f d))->sp vs H Q E->∃t,Ep (Et CX P w K mg base N a scope f d A outer s H E) g t/\t {nx:=λ_ H'=>Q .non H',rt:=Q} (Hk N vs) H):A3 P w K mg base CX (k+1) f (Jt name a c g scope R T m pm X d ct) B sp:=by
 apply#[len,λA outer s H args us vs Q E zA p hb r z=>?_];let Y:K.In s.heap:=p.mod.kin.keeps λb o e=>(p.bs b o e).1;let j:∀y∈B.zip us,scope.names.lookup y.1=Z .local\/(scope.names.lookup y.1=Z .cell/\((cellsFrom (s.heap.objs.size+1) scope.names []).lookup y.1).isSome=J'):=λ⟨n,v⟩ hy=>by
  rcases S.par n (Nx hy).1 with q|q
  .show .inl q
  .show .inr #[q,PySem.W.cellsFrom_some _ _ _<|.inl q]
 apply codeAny_call_function zA.depth (Y _ _ lk) rfl S.co S.gen rfl (PySem.W.codeRec_of Y G)<|hb _ _ _ _ ?_;apply wpAny_newFunctionEnv_cells S.kind j λenv he s1 x=>?_;subst he;apply#[(p.mod.nolimit.keeps λb o e=>(p.bs b o e).1).keeps x.toInCall.keep,codeAny_func ?_];let(t,ht,hq):=i A outer s H vs Q E (zA.deeper _) z;apply wpAny_mono (ht [] s1 (Hk N vs) H _ (nv S zA.hd p (len _ _ _ _ z) r x) hq) (λfl L l=>?_) λe L l=>l;let fin:∀{h:St} {H':Hp} {v:V} {u:Aa},Inv (Et CX P w K mg base N a scope f d A outer s H E) [] h H' L->RelV v u->Q v H'->CE outer P w H s Q u L:=
  λ{h H' v u} F M q=>#[v,H',F.os,F.bare,F.base,F.hok,M,q]
 cases fl with
 |ret u=>
  let(v,h,H',F,M,q):=l;show fin F M q
 |next=>
  let(h,H',F,q):=l;show fin (v:=V.non) (u:=Value.none) F rfl q
 |brk=>
  let(_,_,_,q):=l;show BL q
 |cont=>
  let(_,_,_,q):=l;show BL q
section
variable{x:Af}{p:AC}{e:Expr}{t:TA}{id T:String}{r:U V->Hp->VK->Prop}
def Ps(r:U V->Hp->VK->Prop)(t:TA):TE:=λa H Q=>t a H λb c=>r b c Q
theorem nz(f:ES X (.builtin id) r)(g:Gl X x)(i:X.mg x=J)(j:E4 x=Z (.builtin id))(k:PA X (e::es) t)(l:x≠"__name__":=by ext)(b:DV x:=by ext) (m:AK (e::es) X.env=(O',Ar e X.env)::AK es X.env:=by rfl) (c:(AE pos (AK es X.env)).any (·.1)=O':=by rfl):PE X (.Call (.Name x p) (e::es) [] pos) (Ps r t):=by
 intro a s d H Q z h;show Nw<|HK z g i j (PyProof.Rows.callWith_builtin1 (AZ (k pos a s d H _ z h) λn o ⟨q,u,v,w,y⟩=>f a o d u q n Q v w y) m c) l b
theorem XP(f:ES X (.type T) r)(g:Gl X x)(i:X.mg x=J)(j:E4 x=Z (.type T))(k:PA X (e::es) t)(l:x≠"__name__":=by ext)(b:DV x:=by ext) (m:AK (e::es) X.env=(O',Ar e X.env)::AK es X.env:=by rfl) (c:(AE pos (AK es X.env)).any (·.1)=O':=by rfl):PE X (.Call (.Name x p) (e::es) [] pos) (Ps r t):=by
 intro a s d H Q z h;show Nw<|HK z g i j (Nq (AZ (k pos a s d H _ z h) λn o ⟨q,u,v,w,y⟩=>f a o d u q n Q v w y) m c) l b
end
end Internal
variable{X Y:Internal.Cx}{I:Internal.St}{H' H0:Internal.Hp}{vs ys:U Internal.V}{us:U (U Internal.At×Ac×Aa)}{CX:Internal.D0}{D':Internal.Ends}{ta tb te:Internal.TE}{wi:Internal.TI}
namespace HT
open PySem PyProof.Rows
theorem rcLt_int(A:Ag)(s:Ab)(a:Int)(t:Tok)(c:Int)(u:Tok)(prog:AL)(w:Aj)(E:AR)(Q:AR)(h:Q (.bool (decide (a<c))) s):wpAny (Ae prog w) A (richCompare .Lt (.int a t) (.int c u)) Q E s:=(PyProof.Rows.lt_int h:wpAny (Ae prog w) A (Dz .Lt (.int a t)<|.int c u) Q E s)
section
variable{prog:AL}{w:Aj}{A:Ag}{s:Ab}
def sIx(n d:Nat):O Int->Nat
 |none=>d
 |some v=>if v<0 then(v+(n:Int)).toNat else min v.toNat n
theorem XQ(v:Int)(n d:Nat):(if v<0 then max (v+(n:Int)) 0 else min v (n:Int))=((sIx n d (Z v):Nat):Int):=by
 show(if v<0 then max (v+(n:Int)) 0 else min v (n:Int))=(((if v<0 then(v+(n:Int)).toNat else min v.toNat n):Nat):Int)
 grind
theorem nA(lo a:O Int)(n:Nat):XR lo a 1 (n:Int)=(((sIx n 0 lo:Nat):Int),((sIx n n a:Nat):Int)):=by
 unfold XR;apply Prod.ext ?_ ?_
 .cases lo with
  |none=>rfl
  |some v=>show XQ v n 0
 .cases a with
  |none=>rfl
  |some v=>show XQ v n n
theorem nB(i j:Nat):SF (i:Int) (j:Int) 1=j-i:=by
 unfold SF;grind
theorem XT{v:Aa}{o:O Int}{Q:O Int->Ab->Prop}(p:IsPart v o)(h:Q o s):wpAny (Ae prog w) A (Builtin.Slice.slicePartIndex v) Q E s:=by
 cases p with
 |none=>show slicePart_none h
 |int i t=>show slicePart_int h
theorem nC{f:Ac}{d e:Aa}{lo a:O Int}{n:Nat}{Q:Int×Int×Nat->Ab->Prop}(g:s.heap.IsSliceOf f d e .none)(pl:IsPart d lo)(i:IsPart e a) (h:Q (((sIx n 0 lo:Nat):Int),1,sIx n n a-sIx n 0 lo) s):wpAny (Ae prog w) A (Builtin.Slice.sliceApplied (.ref f) (Al (n:Int))) Q E s:=by
 let(os,b,j,c):=id g;apply Ao<|Ao<|FU b c (x:=d) rfl (Ao<|FU b c (x:=e) rfl (Ao<|FU b c (x:=.none) rfl (AW ?_)));apply Ao<|slicePart_none ?_;apply Ao<|XT pl<|Ao<|XT i<|Ao<|AW ?_;change wpAny _ _ (match XR lo a 1 (n:Int)with|(lo,a)=>Al (lo,(1:Int),SF lo a 1)) _ _ s
 rw[nA lo a n];change wpAny _ _ (Al (((sIx n 0 lo:Nat):Int),(1:Int),SF ((sIx n 0 lo:Nat):Int) ((sIx n n a:Nat):Int) 1)) _ _ s
 rw[nB];show AW h
theorem nE(xs:Array Aa)(i k:Nat):((Bt k).filterMap λ(m:Nat)=>xs[((i:Int)+(m:Int)*1).toNat]?).toArray=((xs.toList.drop i).take k).toArray:=by
 let e:(λ(m:Nat)=>xs[((i:Int)+(m:Int)*1).toNat]?)=λm=>xs[i+m]?:=by
  grind
 have:=pick_run xs i k;let a:((λx=>xs[x]?)∘λx=>i+x)=λm=>xs[i+m]?:=rfl;simp_all
theorem getItem_tuple_cut{t g:Ac}{i j:Aa}{lo a:O Int}{Q:AR}(b:IsTup s.heap t items)(k:s.heap.IsSliceOf g i j .none)(pl:IsPart i lo)(o:IsPart j a) (p:sIx items.size 0 lo=0/\sIx items.size items.size a=items.size->Q (.ref t) s) (h:¬ (sIx items.size 0 lo=0/\sIx items.size items.size a=items.size)->Q (.ref s.heap.objs.size) {s with heap:=s.heap.push {cls:=.type "tuple",data:=.seq ((items.toList.drop (sIx items.size 0 lo)).take (sIx items.size items.size a-sIx items.size 0 lo)).toArray} }) (hsz:items.size<=AB):wpAny (Ae prog w) A (getItem (.ref t) (.ref g)) Q E s:=by
 let(os,d,e,q):=id k;unfold getItem;try with_reducible apply Gi ?_
 apply Ao<|wpAny_sequenceKey b.typeIs (by ext) ?_;apply Ao (LR (name:=Ju "__getitem__") b.typeIs PyProof.Rows.slot_tuple_getitem
  (KD PyProof.Rows.slot_tuple_getitem b.typeIs entry_tuple_getitem ?_<|args_tuple_getitem _ _))
 change wpAny _ _ (Builtin.Tuple.tupleItemsOf (.ref t) >>= _) _ _ s
 apply Ao<|tupleItemsOf_ b ?_;apply Ao<|LU ⟨os,d,e⟩ ?_;apply Ao<|nC k pl o ?_;change wpAny _ _ (if(((sIx items.size 0 lo:Nat):Int)==0&&(1:Int)==1&&(sIx items.size items.size a-sIx items.size 0 lo)==items.size)=J' then _ else _) _ _ s
 by_cases n:sIx items.size 0 lo=0/\sIx items.size items.size a=items.size
 .let c:((((sIx items.size 0 lo:Nat):Int)==0&&(1:Int)==1&&(sIx items.size items.size a-sIx items.size 0 lo)==items.size)=J'):=by
   simp_all
  rw[if_pos c];show Ao<|Ao<|LU b.typeIs<|AW<|Ao<|FV<|AW ⟨_,rfl,AW<|p n⟩
 .let f:¬ ((((sIx items.size 0 lo:Nat):Int)==0&&(1:Int)==1&&(sIx items.size items.size a-sIx items.size 0 lo)==items.size)=J'):=by
   simp_all
  rw[if_neg f,nE];show Ao (m:=Builtin.Tuple.tupleExact _) (KG (AW #[_,rfl,AW<|h n])<|Bu ((List.take_sublist _ _).trans<|List.drop_sublist _ _).length_le hsz)
end
end HT
namespace Internal
open PySem PySem.Spec PyProof.Rows
abbrev TO:=St->Hp->(O Int->Hp->Prop)->Prop
def PO(X:Cx)(e:O Expr)(t:TO):Prop:=
 ∀(a:A0) (s:Ab) (b:St) (H:Hp) (Q:O Int->Hp->Prop),Inv X a b H s->t b H Q ->
  wpAny (Ae X.prog X.w) X.A (evalPart e X.env) (λu d=>∃o c,Inv X a b c d/\IsPart u o/\Q o c) X.xe s
def nG:TO:=λ_ H Q=>Q J H
def nH(t:TE):TO:=λa H Q=>t a H λx b=>∃i,x=.int i/\Q (Z i) b
theorem Pt{ns:U Int}:∀{us:U Aa},Aq (ns.map V.int) us->IntsAre us ns:=by
 induction ns with|nil=>intro us r;rw[CW]at r;cases r;show .nil|cons n ns a=>
  intro us r;cases r with
  |cons b c=>
   let(t,rfl):=b;show .cons n t<|a c
section
variable{e:Expr}{lo hi:O Expr}{tl th:TO}
theorem nI:PO X J nG:=by
 intro a s b H Q c h;show AW #[J,H,c,.none,h]
theorem nJ(h:PE X e te):PO X (Z e) (nH te):=by
 intro a s b H Q l c;apply AZ (h a s b H _ l c) λu k d=>?_;let(x,f,g,j,i,rfl,q):=d;let(t,rfl):=j;show#[Z i,f,g,.int i t,q]
def Jv(X:Cx)(r:V->O Int->O Int->Hp->VK->Prop):Prop:=
 ∀(a:A0) (s:Ab) (b:St) (H:Hp) (x:V) (v c d:Aa) (lo hi:O Int) (e:Ac) (Q:VK),Inv X a b H s->RelV x v->s.heap.IsSliceOf e c d .none->IsPart c lo->IsPart d hi->r x lo hi H Q ->
  ∃T id,typeLookup (.type T) "__getitem__"=Al (Z (.builtin id))/\s.TypeIs v T/\wpAny (Ae X.prog X.w) X.A (getItem v (.ref e)) (EP X a b Q) X.xe s
theorem Jv.or{r b:V->O Int->O Int->Hp->VK->Prop}(h:Jv X r)(h':Jv X b):Jv X (λx lo hi H Q=>r x lo hi H Q\/b x lo hi H Q):=by
 intro a s c H x v d e lo hi f Q l g i j k q;rcases q with q|q
 .show h a s c H x v d e lo hi f Q l g i j k q
 .show h' a s c H x v d e lo hi f Q l g i j k q
def nK(r:V->O Int->O Int->Hp->VK->Prop)(te:TE)(tl th:TO):TE:=λa H Q=>te a H λx b=>tl a b λl c=>th a c λu d=>r x l u d Q
theorem nM{r:V->O Int->O Int->Hp->VK->Prop}(j:Jv X r)(k:PE X e te)(m:PO X lo tl)(n:PO X hi th):PE X (.Subscript e (.Slice lo hi J p2) pos) (nK r te tl th):=by
 intro a s d H Q P h;apply Subscript_<|AZ (k a s d H _ P h) λv o f=>?_;let(x,p,t,w,y):=f;apply wpAny_Slice<|AZ (m a o d p _ t y) λg z ⟨l,A,B,C,E⟩=>AZ (n a z d A _ B E) λi c f=>?_;let(u,G,F,L,q3):=f;apply AW ?_;let(T,id,M,N,K):=j a {c with heap:=c.heap.push {cls:=.type "slice",data:=.fields (T' [g,i,.none])} } d G x v g i l u c.heap.objs.size Q (F.kept (t':=c.toks) λb ob q=>By _ q) w (Heap.IsSliceOf.new ..) C L q3;show tail_any (ops:=[.ref c.heap.objs.size,v]) N M K (by with_unfolding_all rfl)
def IC(xs:U V)(lo hi:O Int):U V:=(xs.drop (HT.sIx xs.length 0 lo)).take (HT.sIx xs.length xs.length hi-HT.sIx xs.length 0 lo)
theorem XU(xs:U V)(lo hi:O Int):(IC xs lo hi).length<=xs.length:=((List.take_sublist _ _).trans<|List.drop_sublist _ _).length_le
end
def Eb(n:Nat)(i:Int):O Nat:=if 0<=i then(if i<n then Z i.toNat else J)else if -(n:Int)<=i then Z (i+n).toNat else J
def atI{a:Type}(xs:U a)(i:Int):O a:=(Eb xs.length i).bind λj=>xs[j]?
theorem XV{n:Nat}{i:Int}(h:Eb n i=Z j):seqIndex? i n=Z j/\j<n /\ -(n:Int)<=i/\i<n:=by
 unfold Eb at h;by_cases b:0<=i
 .rw[if_pos b]at h;by_cases a:i<n
  .rw[if_pos a]at h;show#[by rw[seqIndex_of b a,EE h],∅,∅,a]
  .rw[if_neg a]at h;cases h
 .rw[if_neg b]at h;by_cases a : -(n:Int)<=i
  .rw[if_pos a]at h;show#[by rw[seqIndex_neg (Pu b) a,EE h],∅,a,∅]
  .rw[if_neg a]at h;cases h
theorem SG{a:Type}{xs:U a}{i:Int}{v:a}(h:atI xs i=Z v):∃j,seqIndex? i xs.length=Z j/\xs[j]?=Z v/\j<xs.length /\ -(xs.length:Int)<=i/\i<xs.length:=by
 unfold atI at h;cases e:Eb xs.length i with|none=>rw[e]at h;cases h|some j=>
  rw[e]at h;let(b,c,d,f):=XV e;show#[j,b,h,c,d,f]
theorem Zz{a:Type}{xs:U a}{v:a}(h:xs[j]?=Z v):atI xs (j:Int)=Z v:=by
 let b:j<xs.length:=(Cm.mp h).1;let e:Eb xs.length (j:Int)=Z j:=by
  unfold Eb;rw[if_pos ∅,if_pos ∅];simp
 unfold atI;rw[e];show h
def LW(b:Expr):Prop:=∀o i,subscripted b O' o i=operate [o,i] (getItem o i)
def Hl(X:Cx)(r:R2):Prop:=
 ∀(b slice:Expr) (a:A0) (s:Ab) (c:St) (H:Hp) (x y:V) (v u:Aa) (Q:VK),Inv X a c H s->RelV x v->RelV y u->r x y H Q ->
  subscripted slice O' v u=operate [v,u] (getItem v u)->wpAny (Ae X.prog X.w) X.A (subscriptTail b slice v u) (EP X a c Q) X.xe s
def ID(X:Cx)(id:String)(r:V->U V->Hp->VK->Prop):Prop:=
 ∀(a:A0) (s:Ab) (b:St) (H:Hp) (x:V) (c:U V) (v:Aa) (d:U Aa) (Q:VK),Inv X a b H s->RelV x v->Aq c d->r x c H Q ->
  wpAny (Ae X.prog X.w) X.A (call (.builtin id) (v::d)) (EP X a b Q) X.xe s
section
variable{a b:Expr}
theorem Hl.or{r c:R2}(h:Hl X r)(h':Hl X c):Hl X (λx y H Q=>r x y H Q\/c x y H Q):=by
 intro a slice b s d H x y v u Q i e f q g;rcases q with q|q
 .show h a slice b s d H x y v u Q i e f q g
 .show h' a slice b s d H x y v u Q i e f q g
theorem XW{r:R2}(d:Hl X r)(e:PE X a ta)(f:PE X b tb)(g:LW b):PE X (.Subscript a b pos) (LK r ta tb):=by
 intro c s i H Q o h;show Subscript_<|Su e f o h λv u j x y k l m n q=>d a b c j i k x y v u Q l m n q<|g _ _
def XX(K:Ap):R2:=λx y H Q=>∃p a i v,x=.ref p/\y=.int i/\BZ K H p a/\atI a i=Z v/\Q v H
def XY(K:Ap):R2:=λx y H Q=>∃p a i v,x=.ref p/\y=.int i/\Cb K H p a/\atI a i=Z v/\Q v H
def XZ:R2:=λx y H Q=>∃z i c,x=.str z/\y=.int i/\z.length<=AB/\atI z.cps.toList i=Z c/\Q (.str #[(T' [c])]) H
theorem FW:Hl X (XX X.K):=by
 rintro e slice a s m H x y v u Q R n o ⟨p,M,i,z,rfl,rfl,A,B,q⟩ k;cases n;let(t,rfl):=o;let(f,r,g,N):=R.list A;let(j,c,C,P,E,G):=SG B;let(w,l,b):=r.get C;let F:=r.length;let T:=Nu;by_cases d:0<=i
 .let h:i.toNat=j:=by
   rw[seqIndex_of d G]at c;show EE c
  show item_listR g.isList d ∅ (by rw[h];exists l) #[z,H,R,b,q] k
 .let h:(i+(f.toArray.size:Int)).toNat=j:=by
   rw[seqIndex_neg (Pu d) E]at c;rw[B3,<- F];show EE c
  show subscriptTail_builtinR (x:=w) g.isList.typeIs slot_list_getitem.lookup
   (wpAny_getItem_list_neg (Q:=λr L=>r=w/\EP X a m Q r L) g.isList (Pu d) (by rw[B3]<;>lia) ∅ (by rw[h];exists l) #[rfl,#[z,H,R,b,q]]) k
theorem KH:Hl X (XY X.K):=by
 rintro b slice a s e H x y v u Q N f g ⟨p,C,i,z,rfl,rfl,h,k,q⟩ l;cases f;let(t,rfl):=g;let(m,r,d,E):=N.tuple h;let(j,n,o,G,F,L):=SG k;let(w,A,c):=r.get o;let M:=Nu;show subscriptTail_builtinR (x:=w) d.typeIs slot_tuple_getitem.lookup
  (getItem_tuple (j:=j) (Q:=λr B=>r=w/\EP X a e Q r B) d ∅ ∅ (by rw[B3,<- r.length];show n) (by exists A) #[rfl,#[z,H,N,c,q]]) l
theorem nN:Hl X XZ:=by
 rintro a slice b s n H x y v u Q A e f ⟨z,i,c,rfl,rfl,o,g,q⟩ h;let(t,rfl):=e;let(p,rfl):=f;let(j,d,k,r,l,m):=SG g;rw[show z.cps.toList.length=z.length by simp[Str.length]]at d l m;let w:=Nu;show tail_any (typeIs_str s z t) slot_str_getitem.lookup (getItem_str (c:=c) (by
  grind) (by rw[d];exists k) #[.str #[(T' [c])],H,A.tok _,#[_,rfl],q]) h
def X0(K:Ap):R2:=λx y H Q=>XX K x y H Q\/XY K x y H Q\/XZ x y H Q
theorem nO:Hl X (X0 X.K):=FW.or<|KH.or nN
theorem nP(a:U Aa)(n j:Nat)(u:Aa):FY (·.setIfInBounds j u) {cls:=.type "list",data:=.seq a.toArray n}={cls:=.type "list",data:=.seq (a.set j u).toArray n}:=by
 simp[FY]
theorem Inv.lst{b:A0}{H:Hp}{s:Ab}{p:Ac}{xs:U V}(c:Inv X b I H s)(h:H p=Z (.lst xs)):∃(a:U Aa) (n:Nat),Aq xs a/\s.heap.get? p=Z {cls:=.type "list",data:=.seq a.toArray n}/\xs.length<=AB:=by
 let(z,a,n,r,e):=c.hok p _ h;show#[a,n,r,e,z]
theorem Inv.lstUpd{a:A0}{H:Hp}{s:Ab}{p:Ac}{xs:U V}{c its':U Aa}{n d:Nat}{f:Obj->Obj}(k:Inv X a I H s)(h:H p=Z (.lst xs)) (i:s.heap.get? p=Z {cls:=.type "list",data:=.seq c.toArray n}) (g:f {cls:=.type "list",data:=.seq c.toArray n}={cls:=.type "list",data:=.seq its'.toArray d}) (r:Aq ys its') (hz:ys.length<=AB) (t:Nat):Inv X a I (AI H p (.lst ys)) {s with heap:=s.heap.update p f,toks:=t}:=by
 let e:(s.heap.update p f).get? p=Z {cls:=.type "list",data:=.seq its'.toArray d}:=by
  rw[SH f i (by rw[g]<;>rfl),g]
 apply k.write (x:=p) (e:=p) (by rw[h];trivial) (.inl rfl) (λb u j q=>(SJ _ _<|Bz j).trans q) ⟨_,e⟩ ?_;show⟨hz,its',d,r,e⟩
def nQ:V->V->V->Hp->(Hp->Prop)->Prop:=λo i v H Q=>∃p a k j,o=.ref p/\i=.int k/\H p=Z (.lst a)/\Eb a.length k=Z j/\Q (AI H p (.lst (a.set j v)))
theorem X1:Sr X nQ:=by
 intro a s w H o i v E G u Q K x y z zQ;let(p,A,k,j,rfl,rfl,g,B,q):=zQ;cases x;let(t,rfl):=y;let(b,n,r,e,C):=K.lst g;let(c,F,h,l):=XV B;let L:=Nu;let m:Inv X a w (AI H p<|.lst<|A.set j v) {s with heap:=s.heap.update p (FY (·.setIfInBounds j u))}:=
  K.lstUpd g e (nP b n j u) (r.set z j) (by rw[Jw];show C) s.toks
 by_cases d:0<=k
 .let f:k.toNat=j:=by
   rw[seqIndex_of d l]at c;show EE c
  show PySem.W.ki_setAt e d ∅ (by rw[B3,<- r.length];show l)<|f ▸ ⟨_,m,q⟩
 .let f:(k+(b.toArray.size:Int)).toNat=j:=by
   rw[seqIndex_neg (Pu d) h]at c;rw[B3,<- r.length];show EE c
  show PySem.W.ki_setBack e (Pu d) (by rw[B3,<- r.length];show h) ∅<|f ▸ ⟨_,m,q⟩
theorem nR(lo a:O Int)(n:Nat):(B4 lo a J n).1=((HT.sIx n 0 lo:Nat):Int)/\(B4 lo a J n).2.1=((HT.sIx n n a:Nat):Int)/\(B4 lo a J n).2.2=1:=by
 apply#[?_,?_,rfl]
 .cases lo with|none=>simp[B4,HT.sIx]|some i=>
   erw[B4,HT.sIx,Option.getD_none,show(1:Int)>0 by ext,if_true];grind
 .cases a with|none=>simp[B4,HT.sIx]|some i=>
   erw[B4,HT.sIx,Option.getD_none,show(1:Int)>0 by ext,if_true];grind
theorem nS(a:U Aa)(lo b:O Int):slicePick a.toArray lo b J=((a.drop (HT.sIx a.length 0 lo)).take (HT.sIx a.length a.length b-HT.sIx a.length 0 lo)).toArray:=by
 let(c,d,e):=nR lo b a.toArray.size;unfold slicePick;rw[c,d,e];erw[sliceRange_one,pick_run,B3]<;>rfl
def nT(K:Ap):V->O Int->O Int->Hp->VK->Prop:=λx lo c H Q=>∃a b,x=.ref a/\BZ K H a b/\∀p,H p=J->Q (.ref p) (AI H p (.lst (IC b lo c)))
theorem IE:Jv X (nT X.K):=by
 intro f s p H x v t u lo e w Q y h i j k zQ;let(a,c,rfl,l,q):=zQ;cases h;let(m,r,g,n):=y.list l;let d:=r.length;apply#["list",_,slot_list_getitem.lookup,g.isList.typeIs,?_];apply wpAny_getItem_list_slice g.isList i j k .none (by simp) ?_ (by rw[B3]<;>lia);rw[nS,<- d];apply#[.ref s.heap.objs.size,_,y.laid (t':=s.toks) (o:=.lst<|IC c lo e) (λb z q=>By _ q) (A4 _) ?_,rfl,q _<|y.hok.fresh<|A4 _];show⟨Bu (XU c lo e) n,_,0,(r.drop<|HT.sIx c.length 0 lo).take<|HT.sIx c.length c.length e-HT.sIx c.length 0 lo,Cg _ rfl⟩
def X2:V->Bool
 |.non=>J'
 |.bl _=>J'
 |.int _=>J'
 |.str _=>J'
 |_=>O'
def nU:V->V->Bool
 |.non,.non=>J'
 |.bl a,.bl b=>a==b
 |.bl a,.int b=>(if a then 1 else 0)==b
 |.int a,.bl b=>a==(if b then 1 else 0)
 |.int a,.int b=>a==b
 |.str a,.str b=>a==b
 |_,_=>O'
theorem nV:ES X (.type "list") (λxs H Q=>∃p ys,xs=[.ref p]/\(BZ X.K H p ys\/Cb X.K H p ys)/\∀l,H l=J->Q (.ref l) (AI H l (.lst ys))):=by
 intro g s v H xs z Q A r zQ;let(p,ys,rfl,h,q):=zQ;let(u,rfl,x):=E5 r;cases x;let fin:∀(a:U Aa),Aq ys a->ys.length<=AB->∀(c:Am) (d:Nat),(∀b t,s.heap.get? b=Z t->c.get? b=Z t) ->
   c.get? s.heap.objs.size=Z {cls:=.type "list",dict:=J,data:=.seq a.toArray d,slots:=(T' [])}->EP X g v Q (.ref s.heap.objs.size) {s with heap:=c}:=λa f i c d kp e=>
  #[.ref s.heap.objs.size,_,A.laid (t':=s.toks) kp (A4 _) (show A9 X.prog X.w _ c _ (.lst ys)from#[i,a,d,f,e]),rfl,q _<|A.hok.fresh<|A4 _]
 rcases h with h|h
 .let(a,f,y,i):=A.list h;let j:=f.length;let(o,k,m,n,hd):=y.isList;show call_list_seq p (.inl rfl) k m hd (λc d kp e=>fin a f i c d kp e) (by erw[B3]<;>lia)
 .let(a,f,(o,k,m,n,hd),i):=A.tuple h;let j:=f.length;show call_list_seq p (.inr rfl) k m hd (λc d kp e=>fin a f i c d kp e) (by erw[B3]<;>lia)
theorem nW:ES X (.type "tuple") (λxs H Q=>∃p ys,xs=[.ref p]/\((BZ X.K H p ys/\∀l,H l=J->Q (.ref l) (AI H l (.tup ys)))\/(Cb X.K H p ys/\Q (.ref p) H))):=by
 intro g s t H xs v Q k r h;let(p,ys,rfl,h):=h;let(u,rfl,m):=E5 r;cases m;rcases h with⟨c,q⟩|⟨c,q⟩
 .let(a,d,f,i):=k.list c;let j:=d.length;show call_tuple_list f.isList (λn kp=>#[.ref n.objs.size,_,((k.kept (t':=s.toks) kp).laid (t':=s.toks) (λb o e=>By _ e) (A4 _) (show A9 X.prog X.w _ _ _ (.tup ys)from#[i,a,d,IsTup.new _ _])),rfl,q _<|(k.kept (t':=s.toks) kp).hok.fresh (A4 _)]) (by erw[B3]<;>lia)
 .let(a,d,f,i):=k.tuple c;show call_tuple_same f #[.ref p,H,k,rfl,q]
def Pw(K:Ap)(T:String)(x:V)(H:Hp):Prop:=match x with
 |.str _=>T="str"
 |.int _=>T="int"
 |.ref p=>(T="list"/\∃a,BZ K H p a)\/(T="tuple"/\∃o,K.lookup p=Z o/\o.cls=.type "tuple"/\o.dict=J) \/
   (T="dict"/\(∃b c,Rd H p (.dct b c)))
 |_=>False
theorem X3{b:A0}{H:Hp}{s:Ab}{T:String}{x:V}{v:Aa}(q:Inv X b I H s)(r:RelV x v)(ty:Pw X.K T x H):s.TypeIs v T/\∀a,v=.ref a->∃f,s.heap.get? a=Z f/\f.dict=J:=by
 cases x with
 |str z=>
  let(t,rfl):=r;cases(show T="str" from ty);show#[typeIs_str s z t,λ_ e=>nomatch e]
 |int i=>
  let(t,rfl):=r;cases(show T="int" from ty);show#[typeIs_int s i t,λ_ e=>nomatch e]
 |ref p=>
  cases r;rcases ty with⟨rfl,m,h⟩|⟨rfl,o,d,j,hd⟩|⟨rfl,_,_,d⟩
  .let(k,_,g,_):=q.list h;apply#[g.isList.typeIs,λa e=>?_];cases e;let(o,n,e,c,hd,_):=g;show#[o,e,hd]
  .apply#[#[o,q.kIn p o d,j],λa e=>?_];cases e;show#[o,q.kIn _ o d,hd]
  .let(_,_,_,o,_,_,e,ex,_):=d.ok q.hok;apply#[#[o,e,ex.1],λa l=>?_];cases l;show#[o,e,ex.2.1]
 |_=>show BL ty
def nX(K:Ap)(T:String)(r:V->U V->Hp->VK->Prop)(c:TE)(t:TA):TE:=λa H Q=>c a H λx b=>Pw K T x b/\t a b λd e=>r x d e Q
variable{e:Expr}{to:TE}{t:TA}{name:Af}{T id:String}{r:V->U V->Hp->VK->Prop}
theorem HR(m:PlainAttrs T)(slot:Slot T name id)(g:typeOf (.builtin id)=Al (.type "method_descriptor"))(n:ID X id r)(p:PE X o to)(q:PA X (e::es) t) (c:E8 o name X.env (Ar o X.env)=Ar o X.env:=by rfl) (f:((AE cpos (AK (e::es) X.env)).all (λx=>!x.1)&&(FQ cpos (FR [] X.env)).all (λx=>x.1.isSome) && decide ((e::es).length+([]:U DA).length+(if([]:U DA).isEmpty then 0 else 1)<30))=J':=by rfl) (d:(apos.endLine==cpos.line)=J':=by rfl) (u:AK (e::es) X.env=(O',Ar e X.env)::AK es X.env:=by rfl) (b:(AE cpos (AK es X.env)).any (·.1)=O':=by rfl):PE X (.Call (.Attribute o name apos) (e::es) [] cpos) (nX X.K T r to t):=by
 intro a s i H Q R h;apply wpAny_Call_method_late c f d rfl<|AZ (p a s i H _ R h) λv w y=>?_;let(x,z,j,k,ty,A):=y;let(B,C):=X3 j k ty;apply#[T,id,m,slot,g,B,C,?_];let l:=q cpos a w i z _ j A;rw[u]at l ⊢;show Calls.callWith_builtin (by show(O'||(AE cpos<|AK es X.env).any (·.1))=O';rw[b]<;>rfl)<|Calls.evalArgs_plain<|AZ l λE G ⟨F,L,M,N,P⟩=>n a G i L x F v E Q M k N P
end
def SK(X:Cx)(id:String)(r:V->U V->Hp->VK->Prop):Prop:=
 ∀(a:A0) (s:Ab) (b:St) (H:Hp) (x:V) (c:U V) (v:Aa) (d:U Aa) (Q:VK),Inv X a b H s->RelV x v->Aq c d->r x c H Q ->
  wpAny (Ae X.prog X.w) X.A (call (.builtin id) (v::d)) (EP X a b Q) X.xe s
theorem Aq.one{x:V}{us:U Aa}(h:Aq [x] us):∃u,us=[u]/\RelV x u:=by
 cases h with
 |cons r t=>cases t;show#[_,rfl,r]
theorem Aq.two{x y:V}{us:U Aa}(h:Aq [x,y] us):∃u v,us=[u,v]/\RelV x u/\RelV y v:=by
 cases h with
 |cons r t=>
  cases t with
  |cons q t=>cases t;show#[_,_,rfl,r,q]
theorem Aq.eraseIdx:∀{xs:U V}{us:U Aa}(i:Nat),Aq xs us->Aq (xs.eraseIdx i) (us.eraseIdx i)
 |_,_,_,.nil=>.nil
 |_,_,0,.cons _ t=>t
 |_,_,i+1,.cons r t=>.cons r<|Aq.eraseIdx i t
theorem X4{a:Type}:∀(l:U a)(i:Nat),(l.eraseIdx i).length<=l.length
 |[],_=>A4 _
 |_::_,0=>Nat.le_succ _
 |_::r,i+1=>Nat.succ_le_succ<|X4 r i
section
variable{H:Hp}{s:Ab}{l b:Ac}{xs:U V}
theorem Inv.lset{a its':U Aa}{n:Nat}{f:Array Aa->Array Aa}(j:Inv X pins I H s)(b:H l=Z (.lst xs)) (e:s.heap.get? l=Z {cls:=.type "list",data:=.seq a.toArray n}) (c:f a.toArray=its'.toArray) (d:Aq ys its') (hz:ys.length<=AB):Inv X pins I (AI H l (.lst ys)) {s with heap:=s.heap.update l (FY f),toks:=t' }:=by
 let q:=PySem.IsL.update e f;rw[c]at q;apply j.write (x:=l) (e:=l) (b ▸ trivial) (.inl rfl) (λi u g h=>(SJ s.heap (FY f)<|Bz g).trans h) ⟨_,q⟩ ?_;show⟨hz,its',_,d,q⟩
theorem Inv.lnew{a:U Aa}(c:Inv X pins I H s)(b:Aq ys a)(hz:ys.length<=AB):Inv X pins I (AI H s.heap.objs.size (.lst ys)) {s with heap:=s.heap.push {cls:=.type "list",data:=.seq a.toArray},toks:=t' }:=c.laid (λ_ _ q=>By _ q) (A4 _) #[hz,a,0,b,Cg _ rfl]
theorem Inv.fresh(a:Inv X pins I H s):H s.heap.objs.size=J:=a.hok.fresh<|A4 _
theorem Inv.lstM(c:Inv X pins I H s)(b:H l=Z (.lst xs)):xs.length<=AB/\∃(a:U Aa)(n:Nat),Aq xs a/\xs.length=a.length/\s.heap.get? l=Z {cls:=.type "list",data:=.seq a.toArray n}:=by
 let(z,a,n,r,e):=c.hok l _ b;show#[z,a,n,r,r.length,e]
theorem nY{n:Nat}(h:n<=AB):Builtin.List.listTooLong n=O':=by
 show decide_eq_false<|Nat.not_lt.mpr h
end
section
def nZ:V->U V->Hp->VK->Prop:=λx b H Q=>∃l a y,x=.ref l/\b=[y]/\H l=Z (.lst a)/\a.length<AB/\Q .non (AI H l (.lst (a++[y])))
theorem SM:SK X "list.append" nZ:=by
 intro b s i H x j v k Q d f g zQ;let(l,m,y,rfl,rfl,c,o,q):=zQ;cases f;let(u,rfl,h):=g.one;let(z,a,n,r,p,e):=d.lstM c;apply BY F.slot_list_append #[_,e,rfl] F.entry_list_append (F.args_list_append_2 _ _) (PySem.list_append l a.toArray n u (by rw[B3];lia)) #[e,?_];apply#[.non,_,d.lset (its':=a++[u]) c e (by simp) (r.append<|.cons h .nil) ?_,rfl,q];rw[Ea,LX];lia
def n0:V->U V->Hp->VK->Prop:=λx d H Q=>∃l b a c,x=.ref l/\d=[.ref b]/\H l=Z (.lst a)/\H b=Z (.lst c)/\a.length+c.length<=AB/\Q .non (AI H l (.lst (a++c)))
theorem og:SK X "list.extend" n0:=by
 intro g s A H x B v C Q K j k zQ;let(l,b,E,G,rfl,rfl,h,m,o,q):=zQ
 cases j
 let(u,rfl,p):=k.one
 cases p
 let(z,c,n,r,i,e):=K.lstM h
 let(L,a,n2,t,w,y):=K.lstM m
 let d:c.toArray.size+a.toArray.size<=AB:=by rw[B3,B3];lia
 let f:¬ (!c.toArray.isEmpty&&Builtin.List.listTooLong (c.toArray.size+a.toArray.size))=J':=by
  rw[nY d,Bool.and_false]
  show LF
 apply BY F.slot_list_extend #[_,e,rfl] F.entry_list_extend (F.args_list_extend_2 _ _)
  (AutoSeq1.list_extend_list_list_0 l c.toArray n b a.toArray n2 f (B3 ▸ Nat.le_of_add_right_le d) (Ny d)) #[e,y,?_]
 apply#[.non,_,K.lset (its':=c++a) h e (by simp) (r.append t) ?_,rfl,q]
 rw[Ea]
 show W.kdl_size o
end
section
set_option maxRecDepth 100000 in
end
end Internal
namespace Att
open PySem PySem.W PySem.Calls PyProof.Rows
theorem oh{P:Params}{h:Am}:∀(ns:U Int)(vs:U Aa),WellAll P h vs (ns.map WData.int)->IntsAre vs ns:=by
 intro ns;induction ns with
 |nil=>
  intro vs w;cases w;show .nil
 |cons n ns c=>
  intro vs w;cases w with
  |cons a b=>
   cases a;show .cons _ _<|c _ b
theorem oi{l:OpenLaw}{n:Nat}(s:l.most=Z n){P:Params}{h:Am}{args:U WData}{Zt:U Aa} (b:l.row.toRowW.claim.pre args=J') (f:WellAll P h Zt args):∃a vs ns,Zt=[Dx a]/\args=[WData.list (ns.map WData.int)]/\h.get? a=Z {cls:=.type "list",data:=.seq vs.toArray}/\IntsAre vs ns/\ns.length<=n:=by
 let i:l.pre.holds [] {args:=args}=J':=(pre_splitW b).2;let(d,r,rfl,j,k):=hasAllW_cons<|(pre_splitW b).1;obtain rfl:=hasAllW_nil k;let(t,rfl,m):=hasW_list j;let(ns,rfl):=items_int m;let c:ns.length<=n:=by
  let g:(WTm.not<|.lt (.lit<|.int n)<|.len<|.arg 0).holds [] {args:=[.list<|ns.map .int]}=J':=by
   let g:=(holds_andW i).1;grind
  let u:=condW_of g<|w_not<|w_lt w_lit<|w_len_list<|w_arg rfl;simp_all
 cases f with
 |cons o p=>
  cases p;cases o with
  |list q e=>show#[_,_,ns,rfl,rfl,q,oh ns _ e,c]
theorem oj(l:OpenLaw)(args:U WData):l.row.toRowW.claim.post args (.bool J') args=J':=postW_of (r:=l.row.toRowW) (X:=(J'==J')) (show WShape.has [] (.bool J') .bool=J' by rfl) (show(WTm.eq .res<|.lit<|.bool J').value [] {args:=args,res:=Z<|.bool J',after:=args}=Z (.bool<|true==J')from w_eq_bool (w_res rfl) w_lit) rfl
theorem attach_call{l:OpenLaw}{n:Nat}{q:AL}{c:U Af}{x:(BC)->Am->Prop}{y:Aj->Am->Prop}{d:DefRec}
  (B:l.most=Z n) (s:d.params.defaults=[])
  (call:∀(w:Aj) (s₀ b:Ab) (mg mb:BC) (h:Ac) (o:Obj) (pm m e:Aa) (a:Ac) (vs:U Aa) (ns:U Int),
   Ground q c [] x w s₀ mg mb b.heap->y w b.heap ->
   b.heap.get? h=Z o->o.data=.func (docDef d.name d.params d.body d.scope pm m e)->b.heap.CodeRec m d.name->mg d.name=Z (.ref h) ->
   b.heap.get? a=Z {cls:=.type "list",data:=.seq vs.toArray}->IntsAre vs ns->ns.length<=n->b.gens=(T' []) ->
   codeAny (Ae l.prog w) callerA (.call (.ref h) #[[.ref a],[]]) (λr p=>r=.ok (.ret (.bool J'))/\OldK b.heap p.heap/\p.os=b.os/\AllBare p.gens) b):
  WalkO q c x y l.row.toRowW d [] (λf vs=>PySem.call f vs):=by
 intro w s₀ b mg mb G Y h o pm m e C E H hd t z u R args Zt P i A F v L
 obtain rfl:C=.none:=Dflts.none z s
 obtain rfl:E=.none:=Dflts.noKw z
 let(a,vs,ns,rfl,rfl,j,g,k):=oi B i v
 apply enter_call (codeAny_mono (call w s₀ b mg mb h o pm m e a vs ns G Y H (fd_plain hd) t u j g k R) λr p M=>?_)
 let(rfl,N,K,Q):=M
 show#[.inl #[.bool J',.bool J',[],rfl,λ_=>rfl,.bool J',oj l _,λ_=>#[List.Pairwise.nil,λ_ T=>(nomatch T)]],N,K,Q]
end Att
namespace Internal
open PySem PySem.Spec PyProof.Rows
theorem X5{vs:U Aa}{ns:U Int}(h:IntsAre vs ns):Aq (ns.map V.int) vs:=by
 induction h with
 |nil=>show .nil
 |cons n t _ a=>show .cons #[t,rfl] a
def SN(H:Hp):Prop:=∀b,H b=J\/∃o a,H b=Z (.frz o (.lst a))
theorem ol{P:AL}{w:Aj}{K:Ap}{mg mb:BC}{k:Nat}{fd:Cr}{x:Af}{sp:Sp}{c:Ab}{vs:U Aa}{ns:U Int}
  (S:K.In c.heap) (l:c.heap.Ns C4 mg) (f:c.heap.Ns builtinsNs mb) (E:∀x:Af,x≠"__name__"->mb x=E4 x) (p:c.heap.NoLimit) (Y:c.gens=(T' []))
  (G:c.heap.get? a=Z {cls:=.type "list",data:=.seq vs.toArray}) (X:IntsAre vs ns) (Q:ns.length<=AB) (hr:AM k callerA)
  (F:∀base:Am,K.In base->base.Ns C4 mg->A3 P w K mg base CX k C fd [x] sp) (j:∀(s:Ab) (u:Aa),BindsTo s fd #[[u],[]] [(x,u)])
  (R:∀H:Hp,SN H->BZ K H a (ns.map V.int)->sp [.ref a] H (λv _=>v=.bl J') λ_ _ _=>False)
  (L:∀H e g,CX [] H c (λ_ _ _=>False) e g->False):
  codeAny (Ae P w) callerA (.call (.ref C) #[[.ref a],[]]) (λr g=>r=.ok (.ret (.bool J'))/\OldK c.heap g.heap/\g.os=c.os/\AllBare g.gens) c:=by
 let core:∀H:Hp,SN H->BZ K H a (ns.map V.int)->CD P w H c.heap->(∀b,H b≠J->b=a)->(H a≠J->K.lookup a=J) ->
   codeAny (Ae P w) callerA (.call (.ref C) #[[.ref a],[]]) (λr g=>r=.ok (.ret (.bool J'))/\OldK c.heap g.heap/\g.os=c.os/\AllBare g.gens) c:=by
  intro H T hS hok hA hK
  let M:∀{b:Ac} {o:Obj} {A:Array Ix} {B:Nat},c.heap.get? b=Z o->o.data=.dict A B->H b=J:=λ{b o A B} e d=>by
   grind
  let i:∀{b:Ac} {m:BC},c.heap.Ns b m->(Kr c.heap H).Ns b m:=λ{b m} ⟨o,A,B,e,d,r⟩=>#[o,A,B,(λe n=>W6 e n) e (M e d),d,r]
  let t:K.In (Kr c.heap H):=λb o e=>(λe n=>W6 e n) (S b o e) (by
   cases q:H b with
   |none=>rfl
   |some u=>
    let e':b=a:=hA b (by rw[q];simp)
    subst e'
    rw[hK (by rw[q];simp)]at e;cases e)
  let hM:Mod K mg (Kr c.heap H):=#[t,i l,#[mb,i f,E],let⟨mc,h1,h2⟩:=p;#[mc,i h1,h2]]
  apply codeAny_mono ((F _ t (i l)).run callerA [] c H #[[.ref a],[]] [.ref a] [.ref a] _ _ hr #[rfl,hM,λb o e=>k6 e,LM (kZ _ _),trivial,λb f=>absurd (show b∈([]:U Ac)from f) (by simp),hok,.of_eq Y] (j c (.ref a)) (.cons rfl .nil) (R H T hS)) λr g h=>?_
  cases r with
  |error e=>show(L H e g h).elim
  |ok fl=>
   cases fl with
   |next=>show BL h
   |brk=>show BL h
   |cont=>show BL h
   |ret u=>
    let(v,H',os,bare,un,y,r',q):=h
    subst q
    obtain rfl:u=Value.bool J':=r'
    apply#[rfl,OldK.of_keep λb o e=>?_,os,bare]
    cases q:H b with
    |none=>show un.keep b o e q (by intro z;show absurd (show b∈([]:U Ac)from z) (by simp)) (by simp)
    |some u=>
     rcases T b with z|⟨ob,xs,z⟩
     .rw[q]at z;cases z
     .let(W,_):=hok b _ z
      let(e2,_):=y b _ (un.frzs b ob _ z)
      rw[e]at W;cases W
      show e2
 cases N:K.lookup a with
 |some o=>
  let e:=S a o N
  rw[G]at e
  cases e
  apply core (λ_=>J) (λ_=>.inl rfl) (.inr #[_,vs.toArray,_,N,rfl,rfl,rfl,by rw[B3,X.length];show Q,by simpa using(X5 X)]) (λb u z=>by have z':(J:O HO)=Z u:=z;cases z') (λb z=>absurd rfl z) λz=>absurd rfl z
 |none=>
  apply core (λb=>if b=a then Z (.frz {cls:=.type "list",data:=.seq vs.toArray} (.lst (ns.map V.int)))else J) (λb=>?_) (.inl (.inr #[{cls:=.type "list",data:=.seq vs.toArray},if_pos rfl])) (λb u z=>?_) (λb z=>?_) λ_=>N
  .by_cases f:b=a
   .show .inr #[_,_,if_pos f]
   .show .inl (if_neg f)
  .by_cases f:b=a
   .cases((if_pos f).symm.trans z)
    subst f
    show#[G,by rw[Bn];show Q,vs,_,(X5 X),G]
   .cases((if_neg f).symm.trans z)
  .by_cases f:b=a
   .show f
   .show absurd (if_neg f) z
theorem walk_of{l:PySem.W.OpenLaw}{n k:Nat}{q:AL}{i:U Af}{P:(BC)->Am->Prop}{E:Aj->Am->Prop}{d:DefRec}{K:Params->Ap}{CX:Aj->D0}{sp:Aj->Sp}{x:Af} (L:l.most=Z n) (t:n<=AB) (y:d.params.defaults=[]) (M:AM k callerA) (N:∀(w:Aj) (h:Am),E w h->(K w.params).In h) (F:∀(w:Aj) (mg:BC) (r:Ac) (h:Am),(K w.params).In h->h.Ns C4 mg->mg d.name=Z (.ref r)->∃fd:Cr,(∀(s:Ab) (u:Aa),BindsTo s fd #[[u],[]] [(x,u)])/\∀base:Am,(K w.params).In base->base.Ns C4 mg->A3 l.prog w (K w.params) mg base (CX w) k r fd [x] (sp w)) (z:∀(w:Aj) (H:Hp) (a:Ac) (ns:U Int),ns.length<=n->SN H->BZ (K w.params) H a (ns.map V.int)->sp w [.ref a] H (λv _=>v=.bl J') λ_ _ _=>False) (A:∀(w:Aj) (H:Hp) (s:Ab) (e:Aa) (B:Ab),CX w [] H s (λ_ _ _=>False) e B->False):PySem.W.WalkO q i P E l.row.toRowW d [] (λf vs=>PySem.call f vs):=by
 apply Att.attach_call L y λw s₀ m mg mb r o pm cd R a vs ns G Y ho hd Q C p j c S=>?_;let X:=N w _ Y;let(fd,hb,hF):=F w mg r _ X G.T.g C;show ol X G.T.g G.T.b G.T.builtins G.T.nolimit S p j (Bu c t) M hF hb (λH hO hS=>z w H a ns c hO hS) λH e B=>A w H m e B
def LY(s:AG)(j:Nat):AG:=match s with
 |.ClassDef _ _ _ a _ _ _ _ _ _ _=>a.getD j (.Pass #[0,0,0,0])
 |_=>.Pass #[0,0,0,0]
def HS(s:AG):Arguments:=match s with
 |.FunctionDef _ a _ _ _ _ _ _ _ _=>a
 |_=>{posonlyargs:=[],args:=[],vararg:=J,kwonlyargs:=[],kw_defaults:=[],kwarg:=J,defaults:=[]}
def ZX(s:AG):U AG:=match s with
 |.FunctionDef _ _ b _ _ _ _ _ _ _=>b
 |_=>[]
def Zj(s:AG):Scope:=match s with
 |.FunctionDef _ _ _ _ _ _ a _ _ _=>a
 |_=>{kind:=.function,names:=[],isGenerator:=O',isCoroutine:=O'}
abbrev BQ:D0:=λ_ _ _ _ _ _=>False
abbrev E0:XK:=λ_ _ _=>False
theorem KI:Fn BQ X E0:=λ_ _ _ _ _ _ _ h=>h.elim
structure Jx(K:Ap)(x qual:Af)(st:AG)(f:Ac)(fd:Cr):Prop where
 ex:∃(oc:Aa) (od:Option Ac) (kV doc pm:Aa) (an:Option Ac) (cdv ct:Aa) (osl:Array (Option Aa)),
  fd=Jt x qual (HS st) (ZX st) (Zj st) .none kV doc pm an cdv ct/\K.lookup f=Z #[oc,od,.func fd,osl]/\PySem.W.codeIn K cdv qual=J'
 kp:IB K (.ref f)=J'
section
variable{P:AL}{w:Aj}{K:Ap}{mg:BC}{base:Am}
theorem Jx.ok{x a:Af}{st:AG}{f:Ac}{fd:Cr}{N d:U Af}{k:Nat}{sp:Sp}(F:Jx K x a st f fd)(S:FS N d (Zj st))(len:∀vs H Q E,sp vs H Q E->vs.length=d.length) (c:∀(b:Aa) (A:Ag) (outer:U Env) (s:Ab) (H:Hp) (vs:U V) (Q:VK) (E:XK),AM k (A.deeper (Bk a (Zj st) s.heap.objs.size f b))->sp vs H Q E->∃t,Ep (Et BQ P w K mg base N a (Zj st) f b A outer s H E).nox (ZX st) t/\t {nx:=λ_ H'=>Q .non H',rt:=Q} (Hk N vs) H):A3 P w K mg base BQ (k+1) f fd d sp:=by
 let(m,n,o,i,pm,p,b,ct,j,rfl,lk,e):=F.ex;apply ny lk e S len λA outer s H vs Q E l g=>?_;let(t,h,q):=c b A outer s H vs Q E l g;show#[t,h.nox,q]
theorem X6{x a:Af}{st:AG}{f:Ac}{i:Aa}{j g:O Ac}{e:Array (O Aa)}{h d pm b ct:Aa}(l:K.lookup f=Z #[i,j,.func (Jt x a (HS st) (ZX st) (Zj st) .none h d pm g b ct),e]) (c:PySem.W.codeIn K b a=J') (k:IB K (.ref f)=J'):Jx K x a st f (Jt x a (HS st) (ZX st) (Zj st) .none h d pm g b ct):=#[#[i,j,h,d,pm,g,b,ct,e,rfl,l,c],k]
end
def Ak(H H':Hp):Prop:=∀b o,H b=Z o->H' b=Z o
theorem Ak.refl(H:Hp):Ak H H:=λ_ _ h=>h
theorem Ak.trans{H d e:Hp}(a:Ak H d)(b:Ak d e):Ak H e:=λc o h=>b c o<|a c o h
theorem Ak.free{H:Hp}(e:Ak H H'){l:Ac}(h:H' l=Option.none):H l=Option.none:=by
 cases q:H l with|none=>rfl|some o=>
  rw[e l o q]at h;cases h
theorem Ak.seq{K:Ap}{H:Hp}{xs:U V}(e:Ak H H')(h:BZ K H a xs):BZ K H' a xs:=by
 rcases h with(h|⟨o,h⟩)|h
 .show .inl<|.inl<|e _ _ h
 .show .inl<|.inr ⟨o,e _ _ h⟩
 .show .inr h
structure NV(X:Cx)(i:Nat)(x:Af):Prop where
 n:X.N[i]?=Z x
 v:Pe X.env.scope x
 d:DV x
 c:(x==("__classdict__":Af))=O'
theorem Ec{i:Nat}{x:Af}(n:X.N[i]?=Z x:=by rfl)(v:Pe X.env.scope x:=by first|show Or.inl rfl|show Or.inr (Or.inl rfl)|show Or.inr (Or.inr rfl))(d:DV x:=by ext)(c:(x==("__classdict__":Af))=O':=by ext):NV X i x:=#[n,v,d,c]
theorem FZ{i:Nat}{x:Af}(h:NV X i x):PE X (.Name x pos) (Xa i):=k9 h.n h.v h.d h.c
def Fq(env:Env):U (Af×Hj)->U (Af×Ac)->U (Af×Ac)
 |[],a=>a
 |(n,k)::r,a=>if k=Jy then Fq env r ((n,(env.cells.lookup n).getD 0)::a)else Fq env r a
theorem X7{env:Env}(h:∀x∈scope.names,x.2=.free->∃c,env.cells.lookup x.1=Z c):closureFor scope env=Al (Fq env scope.names []):=by
 let all:∀(l:U (Af×Hj)) (b:U (Af×Ac)),(∀x∈l,x.2=.free->∃c,env.cells.lookup x.1=Z c) ->
   (forIn l b (λ(x:Af×Hj) (b:U (Af×Ac))=>if(x.2==Jy)=J' then(do let a <- cellOf env x.1;Al<|GI<|(x.1,a)::b)else Al (GI b)):Sem (U<|Af×Ac))=Al (Fq env l b):=by
  intro l;induction l with|nil=>intro b _;rfl|cons x l i=>
   intro b e;let(n,k):=x;rw[List.forIn_cons];let f:=λb=>i b<|λy j=>e y<|Bg _ j;by_cases d:k=.free
   .subst d;let(c,g):=e (n,.free) Ba rfl;erw[beq_self_eq_true,if_true,show cellOf env n=Al c by unfold cellOf;erw[g],pure_bind,f,Fq,g,Option.getD_some]
   .erw[show(k==Jy)=O' by simpa using d,Fs,if_false,pure_bind,f,Fq,d]
 have:=all scope.names [] h;erw[closureFor];rw[<- bind_pure (Al (Fq env scope.names []):Sem _),<- this]
theorem SO{env:Env}:∀(l:U (Af×Hj))(cs:U (Af×Ac)),(∀x∈l,x.2=.free->∃c,env.cells.lookup x.1=Z c)->(∀p∈cs,env.cells.lookup p.1=Z p.2)->∀p∈Fq env l cs,env.cells.lookup p.1=Z p.2
 |[],cs,_,h=>h
 |(n,k)::r,cs,a,h=>by
  by_cases d:k=.free
  .subst d;let(c,e):=a (n,.free) Ba rfl;apply SO r _ (λy b=>a y<|Bg _ b) λp f=>?_;grind [Bp,Option.getD_some]
  .erw[Fq,d,if_false];show SO r cs (λy b=>a y<|Bg _ b) h
theorem SQ{env:Env}:∀(l:U (Af×Hj))(cs:U (Af×Ac))(x:Af),((x,Jy)∈l\/∃c,(x,c)∈cs)->∃c,(x,c)∈Fq env l cs
 |[],cs,x,h=>by
  rcases h with h|h
  .cases h
  .show h
 |(n,k)::r,cs,x,h=>by
  by_cases a:k=.free
  .subst a;apply SQ r _ x ?_;grind [Bp,Ba,Bg]
  .erw[Fq,a,if_false];apply SQ r cs x ?_;rcases h with h|h
   .rcases Bp.mp h with e|h
    .cases e;show absurd rfl a
    .show .inl h
   .show .inr h
theorem X8{a:Type}:∀{l:U (Af×a)}{x:Af}{c:a},(x,c)∈l->∃d,l.lookup x=Z d
 |[],_,_,h=>by cases h
 |(n,b)::r,x,c,h=>by
  rw[List.lookup_cons];cases e:x==n with|true=>show#[b,rfl]|false=>
   rcases Bp.mp h with z|h
   .cases z;simp at e
   .show X8 h
structure IF(own outs:List Af)(sc osc:Scope):Prop where
 kind:sc.kind=.function
 nocell:∀x∈sc.names,x.2≠.cell
 free:∀x∈sc.names,x.2=.free->osc.names.lookup x.1=Z .cell\/osc.names.lookup x.1=Z .free
 loc:∀x∈sc.names,x.2=.local->sc.names.lookup x.1=Z .local
 out:∀x∈outs,sc.names.lookup x=Z .free
 nd:(own++outs).Nodup
theorem CY{env:Env}:∀{names:U (Af×Hj)}{x:Af},names.lookup x=Z .free->((names.map λ(n,k)=>if(k==Jy&&env.scope.kind==.function&&env.kindOf n==Z .cell)then(n,NameKind.cell)else(n,k)).lookup x=Z .cell \/(names.map λ(n,k)=>if(k==Jy&&env.scope.kind==.function&&env.kindOf n==Z .cell)then(n,NameKind.cell)else(n,k)).lookup x=Z .free)
 |[],_,h=>by simp at h
 |(n,k)::r,x,h=>by
  let a:=@CY env r x;grind
theorem Cn{env:Env}:∀{names:U (Af×Hj)}{x:Af}{k:Hj},k=.cell\/k=.free->(∀y∈names,y.2≠.cell)->(names.map λ(n,k)=>if(k==Jy&&env.scope.kind==.function&&env.kindOf n==Z .cell)then(n,NameKind.cell)else(n,k)).lookup x=Z k->(x,Jy)∈names
 |[],_,_,_,_,h=>by simp at h
 |(n,j)::r,x,k,a,b,h=>by
  let d:=@Cn env r x k a λy c=>b y<|Bg _ c;grind
def Do(X:Cx)(own a:U Af)(scope:Scope)(C:Ac)(s2:Ab)(c:Hp)(d:U Ac)(b:A0):Cx where
 prog:=X.prog
 w:=X.w
 K:=X.K
 mg:=X.mg
 base:=X.base
 A:=X.A
 N:=own++a
 s₀:=s2
 H₀:=c
 env:=compEnvC scope (Fq X.env scope.names []) C X.env
 outer:=X.stack
 stack:=X.stack
 ex:=d
 fn:=λ_=>O'
 calm:=X.calm
 pn:=X.pn++b
 xe:=λ_ _=>False
def Hm(X:Cx)(b:U Expr)(e:TT):Prop:=
 ∀(a:A0) (s:Ab) (d:St) (H:Hp) (Q:Bool->Hp->Prop),Inv X a d H s->e d H Q ->
  wpAny (Ae X.prog X.w) X.A (forIn b J' λc r=>if r=J' then do let ok <- isTrue c X.env (Ar c X.env);Al (GI ok)else Al (GI r)) (TP X a d Q) X.xe s
def om:TT:=λ_ H Q=>Q J' H
theorem on:Hm X [] om:=λ_ _ _ H _ a h=>wpAny_tests_nil #[H,a,h]
theorem oq{c:Expr}{b:TT}(h:PT X c b):Hm X [c] b:=λa s d H Q e q=>wpAny_tests_one<|h a s d H Q e q
def E9(k:Nat)(oix:U Nat)(I:St):St:=Es k J++oix.map λj=>(I[j]?).join
def SR(k:Nat)(oix:U Nat)(g:TG)(l:TT)(m:TE)(r:It)(I:St)(H:Hp)(Q:VK):Prop:=
 ∃(n:Nat) (W:Nat->U V->Hp->Prop),W 0 [] H/\∀i c d,W i c d ->
  (r.stop i d/\c.length<=AB/\∀p,d p=J->Q (.ref p) (AI d p (.lst c))) \/
  (r.go i d/\i<n/\c.length<AB/\∃N:U V->Hp->Prop,(∀e f,N e f->W (i+1) e f)/\∀x h,r.yld i d x h->g x (E9 k oix I) h λa o=>a.drop k=(E9 k oix I).drop k /\
   l a o λb j=>if b=J' then m a j λy q=>N (c++[y]) q else N c j)
def Px(k:Nat)(oix:U Nat)(wi:TI)(g:TG)(b:TT)(c:TE):TE:=λa H Q=>wi a H λe d=>SR k oix g b c e a d Q
def F0(a:U Aa)(n:Nat):Obj:={cls:=.type "list",data:=.seq a.toArray n}
theorem CD.track{P:AL}{w:Aj}{H:Hp}{h:Am}{o:HO}(x:CD P w H h)(d:H a=J)(new:A9 P w (AI H a o) h a o):CD P w (AI H a o) h:=λb u e=>by
 by_cases f:b=a
 .grind [ZN]
 .rw[Zl f]at e;show(x b u e).stay (λc v _ q=>q) (λc q=>Zl (Z2 q d) ▸ q) λc g q=>Zl (Z2 q d) ▸ q
theorem X9{a:A0}{R:Hp}{s2:Ab}{P:It}{L:U Ac}{it:Ac}
  {own H:U Af} {oix:U Nat} {g:TG} {tt:TT} {Q:VK}
  (S:IF own H scope X.env.scope) (hox:oix.map (λj=>X.N[j]?)=H.map Z) (hc:X.calm=J')
  (hg:∀C s2 R L a,PG (Do X own H scope C s2 R L a) tg g)
  (ht:∀C s2 R L a,Hm (Do X own H scope C s2 R L a) ifs tt)
  (he:∀C s2 R L a,PE (Do X own H scope C s2 R L a) elt te)
  (t:Inv X a I R s2) (T:HL X.prog X.w X.K tg P L it tn) (st:tn 0 s2.heap) (f2:∀b∈L,Gj X a R b)
  (h:SR own.length oix g tt te P I R Q)
  (hRR:∀(C:Ac) (s':Ab) (m:BC) (H':Hp),s'.heap.Ns C m->Inv X a I H' s'->H' C=J->C≠X.env.locals->X.s₀.heap.objs.size<=C ->
   (∀x c,X.env.cells.lookup x=Z c->c≠C)->(∀p∈X.pn++a,p.1≠C)->Q (.ref s2.heap.objs.size) H'->RR (.ref s2.heap.objs.size) C (.ok .next) s'):
  wpAny (Ae X.prog X.w) X.A (newList []) (λacc s₃=>wpAny (Ae X.prog X.w) X.A (newFunctionEnv scope X.env.globals (Fq X.env scope.names []) [] X.env.qual J .none (Z X.env)) (λcenv s₄=>
   codeAny (Ae X.prog X.w) X.A (.compStart (.ListComp elt [#[tg,iter,ifs,0]] scope pos) 0 (.ref it) acc {cenv with scope:=relabel scope X.env}) (RR acc cenv.locals) s₄) E s₃) E s2:=by
 let(n,W,w0,turn):=h
 apply KG (wpAny_newFunctionEnv S.nocell (by intro y hy;simp at hy) (λh₁ M zB=>?_) S.kind)
 generalize hP:s2.heap.push {cls:=.type "list",dict:=J,data:=.seq ([]:U Aa).toArray}=s at M zB ⊢
 let hC:s.objs.size=s2.heap.objs.size+1:=by rw[<- hP,LN]
 generalize hCC:s.objs.size=C at M zB hC ⊢
 let hDC:s2.heap.objs.size≠C:=hC ▸ Ca (Nat.lt_succ_self _)
 let G:s2.heap.objs.size<C:=hC ▸ Nat.lt_succ_self _
 let old:∀b o,s2.heap.get? b=Z o->h₁.get? b=Z o:=λb o e=>
  zB.extBut b o (Ca (Jz (BK e) G)) (By _ (hP ▸ By _ e))
 let zA:∀x c,(Fq X.env scope.names []).lookup x=Z c->X.env.cells.lookup x=Z c:=λx c e=>
  SO scope.names [] (λx hx hf=>t.ok.has x.1 (S.free x hx hf)) (λp s=>by cases s) (x,c) (KA e)
 let clHas:∀x,(x,Jy)∈scope.names->∃c,(Fq X.env scope.names []).lookup x=Z c:=λx hx=>by
  let(c,hc):=SQ (env:=X.env) scope.names [] x (.inl hx)
  show X8 hc
 let fpLt:∀b∈L,b<s2.heap.objs.size:=λb B=>by
  let(o,e,_):=T.obj 0 _ st b B
  show BK e
 let cLt:∀x c,X.env.cells.lookup x=Z c->c<s2.heap.objs.size:=λx c e=>by
  let(v,q):=t.cell x c e
  show q.lt
 let fpStk:∀b∈L,b∉EQ X.stack:=λb B z=>by
  rcases Bp.mp (t.stkSub b z)with e|z
  .show(f2 b B).2.1 e
  .show(f2 b B).2.2.1 z
 let pinLt:∀p∈X.pn++a,p.1<s2.heap.objs.size:=λp s=>BK (t.pin p s).1
 let pinStk:∀p∈X.pn++a,p.1∉EQ X.stack:=λp s z=>by
  rcases Bp.mp (t.stkSub _ z)with e|z
  .show(t.pin p s).2.2.1 e
  .show(t.pin p s).2.2.2.1 z
 let fsLt:∀b∈EQ X.stack,b<s2.heap.objs.size:=λb B=>by
  let(_,o,ho,_):=t.stack.mem B
  show BK ho
 letI Y:Cx:=Do X own H scope C s2 R L a
 let okY:Y.Ok:={
  mod:=t.ok.mod
  kind:=S.kind
  glob:=t.ok.glob
  blt:=t.ok.blt
  above:=FP G
  inj:=λx y c h1 h2=>t.ok.inj x y c (zA x c h1) (zA y c h2)
  has:=λx hx=>by
   apply clHas x ?_
   rcases hx with hx|hx
   .show Cn (env:=X.env) (.inl rfl) S.nocell hx
   .show Cn (env:=X.env) (.inr rfl) S.nocell hx
  cab:=λx c hf _=>absurd (show O'=J' from hf) LF
  hd:=t.ok.hd
  frames:=t.ok.frames
  stk:=.inl rfl
  exf:=λb B=>#[Ca (Jz (fpLt b B) G),λx c e=>(f2 b B).2.2.2.2.1 x c (zA x c e)]
  bs:=t.bs
  bsz:=Bu t.ok.bsz t.sz
  noex:=λb o e B=>by
   rcases(f2 b B).2.2.2.1 with z|z
   .show t.ok.noex b o e z
   .show absurd (B7 (BK e) (Bu t.ok.bsz z)) (Iy _)
  exfs:=fpStk
  funs:=t.stack
  frf:=t.stkFree}
 let lenS:(E9 own.length oix I).length=Y.N.length:=by
  let e:=congrArg Ky hox
  erw[Bn]at e
  show(Es own.length J++oix.map _).length=(own++H).length
  rw[Ea,Ea,LP,Bn,e]
 let I4:Inv Y [(s2.heap.objs.size,F0 [] 0)] (E9 own.length oix I) R {s2 with heap:=h₁}:={
  ok:=okY
  os:=rfl
  bare:=t.bare
  base:=Un.kept old
  loc:=by
   apply#[_,M,λi x v e1 e2 e3=>?_]
   let hi:own.length<=i:=by
    apply(Gm)
    intro hlt
    unfold E9 at e2
    rw[D9 (LP ▸ hlt),KC,if_pos hlt]at e2
    cases e2
   unfold E9 at e2
   rw[Fp (LP ▸ hi),LP,CF]at e2
   let e1':H[i-own.length]?=Z x:=by
    let e1:(own++H)[i]?=Z x:=e1
    rwa[Fp hi]at e1
   cases ej:oix[i-own.length]? with
   |none=>rw[ej]at e2;cases e2
   |some j=>
    rw[ej]at e2
    let e2':(I[j]?).join=Z v:=EE e2
    let e2'':I[j]?=Z (Z v):=by
     cases eI:I[j]? with
     |none=>rw[eI]at e2';cases e2'
     |some z=>rw[eI]at e2';show congrArg Z e2'
    let eN:X.N[j]?=Z x:=by
     let q:=congrArg (λl=>l[i-own.length]?) hox
     erw[CF,ej,e1',Nz]at q
     show EE q
    let hfree:scope.names.lookup x=Z .free:=S.out x (LO e1')
    let hk:X.env.scope.names.lookup x=Z .cell\/X.env.scope.names.lookup x=Z .free:=S.free (x,.free) (KA hfree) rfl
    let(m,hn,hl):=t.loc
    let(u,r,l):=hl j x v eN e2'' (by rcases hk with hk|hk;show .inr (.inl hk);show .inr (.inr hk))
    apply#[u,r,.inr #[CY (env:=X.env) hfree,?_]]
    let(c,ec):=clHas x (KA hfree)
    apply#[c,ec,?_]
    rcases l with⟨k,_⟩|⟨_,c',e',o,ho,hd⟩
    .rcases hk with hk|hk
     .show absurd (k.symm.trans hk) (by ext)
     .show absurd (k.symm.trans hk) (by ext)
    .rw[zA x c ec]at e'
     cases e'
     show#[o,old _ _ ho,hd]
  cell:=λx c e=>by
   let(v,o,ho,hd):=t.cell x c (zA x c e)
   show#[v,o,old _ _ ho,hd]
  free:=t.hok.fresh (FP G)
  freeC:=λx c e=>t.freeC x c (zA x c e)
  pin:=λp s=>by
   rcases Cj.mp s with s|s
   .let(e,n,_,_,d):=t.pin p s
    show#[old _ _ e,n,Ca (Jz (pinLt p s) G),pinStk p s,d]
   .let e:p=(s2.heap.objs.size,F0 [] 0):=by exists s
    subst e
    apply#[(zB.extBut _ _ hDC (By _ (hP ▸ Cg _ rfl))),t.hok.fresh (A4 _),hDC,λz=>absurd (fsLt _ z) (Iy _),λv z=>?_]
    cases z
  hok:=t.hok.kept old
  len:=lenS}
 let fpY:∀{H':Hp} {f:U Aa} {k:Nat},(∀b∈L,H' b=J)->∀b∈L,Gj Y [(s2.heap.objs.size,F0 f k)] H' b:=λ{H' f k} hn b B=>by
  apply#[hn b B,Ca (Jz (fpLt b B) G),fpStk b B,.inl B,λx c e=>(f2 b B).2.2.2.2.1 x c (zA x c e),λp s=>?_]
  rcases Cj.mp s with s|s
  .show(f2 b B).2.2.2.2.2 p s
  .let e:p=(s2.heap.objs.size,F0 f k):=by exists s
   subst e
   show IA (fpLt b B)
 let fin:∀(i:Nat) (ys:U V) (f:U Aa) (k:Nat) (H':Hp) (s':Ab),Inv Y [(s2.heap.objs.size,F0 f k)] (E9 own.length oix I) H' s'->Aq ys f->ys.length<=AB ->
   Q (.ref s2.heap.objs.size) (AI H' s2.heap.objs.size (.lst ys))->RR (.ref s2.heap.objs.size) C (.ok .next) s':=λi ys f k H' s' I' rv hz q=>by
  let(m,hn,_):=I'.loc
  let(eD,nD,_):=I'.pin (s2.heap.objs.size,F0 f k) (De _ (by simp))
  let neH:∀b o,R b=Z o->b≠s2.heap.objs.size:=λb o e=>Ca (t.hok.lt e)
  let un':Un (EQ X.stack) L R (AI H' s2.heap.objs.size (.lst ys)) s2.heap s'.heap:=
   #[I'.base.keep,I'.base.slot,λb o e n hx=>Zl ((λb o e=>Ca (BK e)) b o e) ▸ I'.base.free b o e n hx,I'.base.there,λb xs e=>Zl (neH b _ e) ▸ I'.base.tups b xs e,
    λb o u e=>Zl (neH b _ e) ▸ I'.base.frzs b o u e,λb ps e=>Zl (neH b _ e) ▸ I'.base.tbls b ps e]
  apply hRR C s' m _ hn (t.call' (ch:=L) I'.os un' (CD.track I'.hok nD #[hz,f,k,rv,eD]) I'.bare λb B=>#[(f2 b B).2.2.2.1,(f2 b B).2.1,(f2 b B).2.2.2.2.1,(f2 b B).2.2.2.2.2]) ?_ ?_ ?_ ?_ ?_ q
  .rw[Zl (Bz hDC)];show I'.free
  .show IA (Jz t.lt G)
  .show Bu t.sz (FP G)
  .show λx c e=>Ca (Jz (cLt x c e) G)
  .show λp s=>Ca (Jz (pinLt p s) G)
 let loop:codeAny (Ae X.prog X.w) X.A (.compLoop (.ListComp elt [#[tg,iter,ifs,0]] scope pos) 0 (.ref it) (.ref s2.heap.objs.size) Y.env) (RR (.ref s2.heap.objs.size) C) {s2 with heap:=h₁}:=by
  apply codeAny_loop rfl (λk s'=>∃(i:Nat) (ys:U V) (f:U Aa) (c:Nat) (H':Hp),Inv Y [(s2.heap.objs.size,F0 f c)] (E9 own.length oix I) H' s'/\Aq ys f/\tn i s'.heap/\(∀b∈L,H' b=J)/\W i ys H'/\k=n-i) (λk s' hI=>?_) n
   #[0,[],[],0,R,I4,.nil,T.keep 0 _ _ st λb _ o e=>old b o e,λb B=>(f2 b B).1,w0,rfl]
  apply wpAny_noted ?_
  let(i,ys,f,c,H',I',rv,st',fr',w',ek):=hI
  rcases turn i ys H' w' with⟨stop,hz,q⟩|⟨go,hin,hz,N,hN,step⟩
  .apply Ao (wpAny_standAt (Ao (AZ (T.done Y rfl rfl rfl hc i _ s' _ H' _ I' (fpY fr') st' stop) λr s1 ⟨hr,I1⟩=>?_)))
   subst hr
   let(_,nD,_):=I1.pin (s2.heap.objs.size,F0 f c) (De _ (by simp))
   show AW (fin i ys f c H' s1 I1 rv hz (q _ nD))
  .apply Ao (wpAny_standAt (Ao (AZ (T.item Y rfl rfl rfl hc i _ s' _ H' _ I' (fpY fr') st' go) λr s1 ⟨u,hr,h1⟩=>?_)))
   subst hr
   apply Ao (AZ h1 λ_ s5 z9=>?_)
   let(x,H5,I5,r5,y5,st5,fr5):=z9
   apply Ao (wpAny_noRaise (AZ (hg C s2 R L a _ s5 _ H5 x u _ (I5.pinned (fpY fr5) (T.obj _ _ st5)) r5 (step x H5 y5)) λ_ s6 z9=>?_))
   let(σ6,H6,I6,dr6,q6):=z9
   apply Ao (wpAny_noRaise (AZ (ht C s2 R L a _ s6 σ6 H6 _ I6 q6) λok s7 ⟨H7,I7,q7⟩=>?_))
   let back:∀{H8:Hp} {s8:Ab} {its8:U Aa} {c8:Nat},Inv Y ([(s2.heap.objs.size,F0 its8 c8)]++Kv L s5.heap) σ6 H8 s8 ->
     Inv Y [(s2.heap.objs.size,F0 its8 c8)] (E9 own.length oix I) H8 s8/\tn (i+1) s8.heap/\∀b∈L,H8 b=J:=λ{H8 s8 its8 c8} I8=>by
    apply#[I8.unpinned.weak ?_ λj v e=>?_,T.keep _ _ _ st5 λb B o e=>(I8.pin (b,o) (De _ (De _ (Pm B e)))).1,λb B=>?_]
    .show lenS.trans I8.len.symm
    .let hj:own.length<=j:=by
      apply(Gm)
      intro hlt
      unfold E9 at e
      rw[D9 (LP ▸ hlt),KC,if_pos hlt]at e
      cases e
     let e':=congrArg (λl=>l[j-own.length]?) dr6
     erw[LZ]at e'
     rw[show own.length+(j-own.length)=j by show NA hj]at e'
     show e'.trans e
    .let(o,e,d):=T.obj _ _ st5 b B
     show(I8.pin (b,o) (De _ (De _ (Pm B e)))).2.1
   cases ok with
   |false=>
    let(I8,st8,fr8):=back I7
    show AW #[rfl,n-(i+1),∅,i+1,ys,f,c,H7,I8,rv,st8,fr8,hN _ _ q7,rfl]
   |true=>
    apply Ao (Ao (wpAny_noRaise (AZ (he C s2 R L a _ s7 σ6 H7 _ I7 q7) λy s8 z9=>?_)))
    let(z,H8,I8,r8,w8):=z9
    let(eD,nD,neL,nF,dD):=I8.pin (s2.heap.objs.size,F0 f c) (De _ (Ks _ (by simp)))
    let hl:=rv.length
    apply Ao (BY F.slot_list_append #[_,eD,rfl] F.entry_list_append (F.args_list_append_2 _ _) (PySem.list_append _ f.toArray c y (by rw[B3];lia)) #[eD,?_])
    obtain⟨n',q⟩:∃n',(s8.heap.update s2.heap.objs.size (FY (·.push y))).get? s2.heap.objs.size=Z (F0 (f++[y]) n'):=by
     let q:=PySem.IsL.update eD (·.push y)
     rw[show f.toArray.push y=(f++[y]).toArray by simp]at q
     show#[_,q]
    let I9:Inv Y (Kv L s5.heap) σ6 H8 {s8 with heap:=s8.heap.update s2.heap.objs.size (FY (·.push y))}:=
     (I8.pins_of λp s=>I8.pin p (De _ (De _ s))).turned (t':=s8.toks) (it:=s2.heap.objs.size) (λb o B e=>(SJ _ _ (Bz B)).trans e) nD hDC (.inr (A4 _))
      (λx c' e=>Ca (cLt x c' (zA x c' e))) λp s=>by
       rcases Cj.mp s with s|s
       .show Ca (pinLt p s)
       .show Ca (fpLt _ (Xq s).1)
    let I10:Inv Y ([(s2.heap.objs.size,F0 (f++[y]) n')]++Kv L s5.heap) σ6 H8 {s8 with heap:=s8.heap.update s2.heap.objs.size (FY (·.push y))}:=I9.pins_of λp s=>by
     rcases Cj.mp s with s|s
     .let e:p=(s2.heap.objs.size,F0 (f++[y]) n'):=by exists s
      subst e
      show#[q,nD,neL,nF,λv z=>by
       cases z]
     .show I9.pin p (De _ s)
    let(I11,st11,fr11):=back I10
    show AW (AW #[rfl,n-(i+1),∅,i+1,ys++[z],f++[y],_,H8,I11,rv.append (.cons r8 .nil),st11,fr11,hN _ _ w8,rfl])
 show codeAny_compStart_list loop (T.self _ 0 _ _ _ (T.keep 0 _ _ st λb _ o e=>old b o e) loop)
section
variable{oix:U Nat}{g:TG}{tt:TT}
theorem Ya(own c:U Af)(oix:U Nat)(S:IF own c scope X.env.scope)(r:oix.map (λj=>X.N[j]?)=c.map Z)(G:X.calm=J')(L:PI X tg iter wi) (M:∀C s2 i k a,PG (Do X own c scope C s2 i k a) tg g) (K:∀C s2 i k a,Hm (Do X own c scope C s2 i k a) ifs tt) (P:∀C s2 i k a,PE (Do X own c scope C s2 i k a) elt te) (Y:∀x,EF iter X.env x=Al x:=by intro _;rfl):PE X (.ListComp elt [#[tg,iter,ifs,0]] scope pos) (Px own.length oix wi g tt te):=by
 intro a s y H Q R h;rw[eval_ListComp];apply wpAny_comprehension_free (use:=J) rfl Y (X7 λx hx hf=>R.ok.has x.1<|S.free x hx hf) S.kind S.loc (AZ (L a s y H _ R h) λxv z l=>AZ l λitv B n=>?_);let(it,k,tn,F,i,e,I2,T,t,f2,d):=n;subst e;apply X9 (RR:=λu C=>compPost (Ae X.prog X.w) X.A X.xe J (EP X a y Q) u C) S r G M K P I2 T t f2 d ?_;intro C s' m H' hn I' hC hL h0 f p q;show#[m,hn,λE v=>#[.ref _,H',I'.turned (h':=E) (t':=s'.toks) (it:=C) (λb o hb e=>v.extBut b o hb e) hC hL (.inr h0) f p,rfl,q]]
theorem Py(own d:U Af)(oix:U Nat){i:Nat}{x:Af}{f k:AC}(S:IF own d scope X.env.scope)(L:oix.map (λj=>X.N[j]?)=d.map Z)(hc:X.calm=J') (hN:X.N.Nodup) (M:X.N[i]?=Z x) (hx:X.env.scope.names.lookup x=Z .local) (hi:PI X tg iter wi) (hg:∀C s2 r t c,PG (Do X own d scope C s2 r t c) tg g) (ht:∀C s2 r t c,Hm (Do X own d scope C s2 r t c) ifs tt) (he:∀C s2 r t c,PE (Do X own d scope C s2 r t c) elt te) (K:DW (.ListComp elt [#[tg,iter,ifs,0]] scope pos) (Z (.Name x f)) k.line X.env=Al J':=by rfl) (hs:∀x,EF iter X.env x=Al x:=by intro _;rfl):PS X (.Assign [.Name x f] (.ListComp elt [#[tg,iter,ifs,0]] scope pos) k) (LH (Px own.length oix wi g tt te) (Ku i)):=by
 intro c s I H D R h;rw[exec_Assign_Name_used _ _ _ _ K];apply Ao<|wpAny_standAt<|Ao ?_;apply Ao (wpAny_mono (wpAny_comprehension_free (use:=Z<|assign (.Name x f) X.env) (Q:=λ_ u=>SP X c D .next u) rfl hs (X7 λy hy hf=>R.ok.has y.1<|S.free y hy hf) S.kind S.loc
  (AZ (hi c s I H _ R h) λxv s₁ z=>AZ z λitv B E=>?_)) (λ_ u hq=>AW<|AW hq) λ_ _ e=>e)
 let(it,t,tn,F,r,e,I2,T,P,f2,l):=E;subst e;apply X9 (RR:=λY C=>compPost (Ae X.prog X.w) X.A X.xe (Z<|assign (.Name x f) X.env) (λ_ u=>SP X c D .next u) Y C) S L hc hg ht he I2 T P f2 l ?_;intro C u m H' hn I' hC hL h0 n G q;apply wpAny_assign_Name<|W8 (v:=.ref B.heap.objs.size) I' hN M (.inl hx) rfl (λs'' I'' p=>?_) (.inr hx);let(a,p,ha):=p;let hCa:C≠a:=by
  grind
 show#[m,hn.sameBut p hCa,λh' hs'=>#[_,H',I''.turned (h':=h') (t':=s''.toks) (it:=C) (λb o hb e=>hs'.extBut b o hb e) hC hL (.inr h0) n G,q]]
end
def Yb(x:Af):It:=#[λi _=>i<x.cps.size,λi H v a=>a=H/\∃c,x.cps[i]?=Z c/\v=.str #[(T' [c])],λi _=>x.cps.size<=i]
theorem Yc{P:AL}{w:Aj}{K:Ap}{u:Expr}{b:Bool}(it:Ac)(x:Af)(t:Tok):HL P w K u (Yb x) [it] it (λi h=>h.IsStrIter it (bif b then "str_ascii_iterator" else "str_iterator") x t i):=by
 apply Np (n:=bif b then "str_ascii_iterator" else "str_iterator") (by cases b<;>decide) (λi h st=>?_) (λi h g st k=>?_) (λX i m s y H E Q z p A st=>?_) λ_ _ _ _ _ st h=>by
  cases b
  .show wpAny_pyIter_striter_wide st h
  .show wpAny_pyIter_striter_ascii st h
 .let(o,e,c,d):=st;show#[o,_,e,c,d]
 .let(o,e,r):=st;show#[o,k o e,r]
 .constructor<;>intro a q
  .let a:i<x.cps.size:=a;let f:=λt g j (sb:Eo it s.heap g)=>q (.str #[(T' [x.cps[i]])] t) (.str #[(T' [x.cps[i]])]) g (s.toks+1) j (λb o v e=>(sb.2 b v).trans e) #[_,rfl] #[rfl,_,by simp[a],rfl];cases b
   .show wpAny_pyNext_wide_item st (c:=x.cps[i]) (by simp[a]) (f _)
   .show wpAny_pyNext_ascii_item st (c:=x.cps[i]) (by simp[a]) (f _)
  .let a:x.cps.size<=i:=a;cases b
   .show wpAny_pyNext_wide_end p st (by simp[a]) λg l=>q g s.toks l
   .show wpAny_pyNext_ascii_end p st (by simp[a]) λg l=>q g s.toks l
section
def ot(tl:TE):TI:=λa H R=>tl a H λv b=>∃x,v=.str x/\R (Yb x) b
theorem ou{l:Expr}{tl:TE}(j:PE X l tl):PI X tg l (ot tl):=by
 intro a s k H R r h;apply AZ (j a s k H _ r h) λv c m=>?_;let(y,f,d,n,x,e,q):=m;subst e;let(t,rfl):=n;let g:∀{o:Obj} (b:Ac),b∈[c.heap.objs.size]->Gj X a f b:=λ{o} b p=>by
  let e:b=c.heap.objs.size:=by exists p
  subst e;show d.fpOk (A4 _)<|d.hok.fresh<|A4 _
 cases i:x.cps.all (·<128)
 .show wpAny_pyIter_wide i #[c.heap.objs.size,[c.heap.objs.size],_,_,f,rfl,d.kept (t':=c.toks) λb o e=>By _ e,Yc (b:=O') _ x t,#[_,Cg _ rfl,rfl,rfl],g (o:=default),q]
 .show wpAny_pyIter_ascii i #[c.heap.objs.size,[c.heap.objs.size],_,_,f,rfl,d.kept (t':=c.toks) λb o e=>By _ e,Yc (b:=J') _ x t,#[_,Cg _ rfl,rfl,rfl],g (o:=default),q]
end
section
def ov:V->O Int->O Int->Hp->VK->Prop:=λx lo a H Q=>∃z,x=.str z/\z.length<=AB/\Q (.str (Txt.slice z lo a)) H
theorem ow:Jv X ov:=by
 intro e s n H x v o p lo r w Q y h a m f zQ;let(z,rfl,b,q):=zQ;let(t,rfl):=h;apply#["str",_,PySem.F.slot_str_getitem.lookup,typeIs_str s z t,?_];cases m with
 |none=>
  cases f with
  |none=>show SU (l:=J) (u:=J) (st:=J) a rfl (post_val_or_str #[Bu (Txt.slice_le z _ _) b,λc k=>#[.str<|Txt.slice z J J,H,y.tok _,⟨_,rfl⟩,q]])
  |int j d=>show SU (l:=J) (u:=Z (j,d)) (st:=J) a rfl (post_val_or_str #[Bu (Txt.slice_le z _ _) b,λc k=>#[.str<|Txt.slice z J<|some j,H,y.tok _,⟨_,rfl⟩,q]])
 |int i g=>
  cases f with
  |none=>show SU (l:=Z (i,g)) (u:=J) (st:=J) a rfl (post_val_or_str #[Bu (Txt.slice_le z _ _) b,λc k=>#[.str<|Txt.slice z (Z i) J,H,y.tok _,⟨_,rfl⟩,q]])
  |int j d=>show SU (l:=Z (i,g)) (u:=Z (j,d)) (st:=J) a rfl (post_val_or_str #[Bu (Txt.slice_le z _ _) b,λc k=>#[.str<|Txt.slice z (Z i)<|some j,H,y.tok _,⟨_,rfl⟩,q]])
def Yd:V->U V->Hp->VK->Prop:=λx a H Q=>∃z y,x=.str z/\a=[.str y]/\Q (.int (Txt.find z y)) H
theorem oz:ID X "str.find" Yd:=by
 intro a s d H x e v f Q i b c h;let(z,y,rfl,rfl,q):=h;let(t,rfl):=b;let(u,rfl,g,rfl):=E5 c;show SC.find #[.int _,H,i.tok _,#[_,rfl],q]
theorem oA{a:U Af}:∀{us:U Aa},Aq (a.map V.str) us->StrsAre us a:=by
 induction a with|nil=>intro us r;rw[CW]at r;cases r;show .nil|cons n ns b=>
  intro us r;rw[AU]at r;cases r with
  |cons c d=>
   let(t,rfl):=c;show .cons n t<|b d
def Ye(K:Ap):V->U V->Hp->VK->Prop:=λx c H Q=>∃z a b,x=.str z/\c=[.ref a]/\BZ K H a (b.map V.str)/\(b.map (·.length)).sum+b.length*z.length<=16777216/\Q (.str (Txt.join z b)) H
theorem oB:ID X "str.join" (Ye X.K):=by
 intro d s l H x m v n Q c e f zQ;let(z,a,o,rfl,rfl,g,h,q):=zQ;let(t,rfl):=e;let(u,rfl,i):=E5 f;cases i;let(b,r,j,_):=c.list g;show join_list (items:=b.toArray) j.isList (oA r) h λp k=>#[.str _,H,c.tok _,#[_,rfl],q]
end
theorem oC{bs:U Bool}:∀{us:U Aa},Aq (bs.map V.bl) us->LSm.BoolsAre us bs:=by
 induction bs with|nil=>intro us r;rw[CW]at r;cases r;show .nil|cons n ns a=>
  intro us r;rw[AU]at r;cases r with
  |cons b c=>
   subst b;show .cons n<|a c
section
theorem Yf{b:Bool}(l:X.calm=J'):ES X (.builtin (bif b then "all" else "any")) (λxs H Q=>∃(a:Ac)(bs:U Bool),xs=[.ref a]/\BZ X.K H a (bs.map V.bl)/\Q (.bl (bif b then bs.all id else bs.any id)) H):=by
 intro g s w H xs x Q F r zQ;let(a,bs,rfl,m,q):=zQ;let(u,rfl,n):=E5 r;cases n;let(c,o,d,y):=F.list m;let h:=oC o;obtain⟨f,j⟩:∃f:Nat->Bool,f=λi=>(bs[i]?).getD b:=#[_,rfl];cases b;all_goals
  first|apply call_all_walk (Pl d.isList ?_)|apply call_any_walk (Pl d.isList ?_)
  apply#[s.heap.objs.size,[s.heap.objs.size,a],[s.heap.objs.size],c.toArray.size,_,_,f,rfl,Walks.list (A:=X.A.in1) (F.ok.hd l) _ a (Ca (show a<s.heap.objs.size by let(_,e,_):=d.isList;show BK e)) c.toArray,
   #[#[_,Cg _ rfl,rfl,rfl],d.isList.push _],λi v z B C p k=>?_,λE G t=>#[.bl _,H,F.kept<|LSm.kept_iter t,rfl,?_]]
  .let(b,e,rfl):=h.get i v (by exists p);erw[j,e,Option.getD_some]at k;show Jq k
  .rw[show c.toArray.size=bs.length by rw[B3,h.length],j];first|rw[LSm.range_all bs]|rw[LSm.range_any bs]
   show q
end
section
open PySem.SeqAt
inductive F1(A:Ag)(s:Ab):List Aa->List Aa->Bool->Prop where
 |nn:F1 A s [] [] O'
 |nc {w ws}:F1 A s [] (w::ws) J'
 |cn {v vs}:F1 A s (v::vs) [] O'
 |eq {v w vs ws b}:EqAt A s v w J'->F1 A s vs ws b->F1 A s (v::vs) (w::ws) b
 |ne {v w vs ws b}:EqAt A s v w O'->(∀(prog:AL) (wo:Aj) (E Q:AR),Q (.bool b) s->wpAny (Ae prog wo) A (richCompare .Lt v w) Q E s)->F1 A s (v::vs) (w::ws) b
end
section
open PySem.SeqAt
open PySem.AutoSeq1 (wpAny_loadPart')
open PySem.MeetsSeq PySem.MeetsSeq2 PySem.MeetsSeq3
theorem oD(l b:Ac)(items a:Array Aa)(n n2:Nat)(H p:O Ac)(P q:Array (O Aa))(r:Bool):Meets (Aw.«tuple.__lt__» #[[.ref l,.ref b],[]]) (λA R s=>s.heap.get? l=Z {cls:=.type "tuple",dict:=H,data:=.seq items n,slots:=P}/\s.heap.get? b=Z {cls:=.type "tuple",dict:=p,data:=.seq a n2,slots:=q}/\F1 A.in1 s items.toList a.toList r/\R (.ok (.ret (.bool r))) s):=.of_wp λprog w A R s h=>by
  let(E,g,d,G,os):=s;let(F,L,t,h):=h;let N:=AutoSeq1.sub_tuple_tuple;wp_walk using EU F,EU L,wpAny_forIn_list _ (λAX b u=>b.1=J/\u=#[E,g,d,G,os]/\∃(m o:U Aa),AX=m.zip o /\
   F1 A.in1 #[E,g,d,G,os] m o r/\m.length+a.size=o.length+items.size) _
  case turn=>
   rintro⟨y,x⟩ AX b u ⟨j,rfl,m,o,e,f,c⟩;cases f with
   |nn=>rw[List.zip_nil_left]at e;cases e
   |nc=>rw[List.zip_nil_left]at e;cases e
   |cn=>rw[List.zip_nil_right]at e;cases e
   |eq v z=>
    rw[KJ]at e;injection e with k i
    injection k with B C
    subst B C;erw[Ck]at c;apply Ao<|v prog w _ _ ?_;wp_walk;show⟨rfl,rfl,_,_,i,z,∅⟩
   |ne v z=>
    rw[KJ]at e;injection e with k i
    injection k with B C
    subst B C;apply Ao<|v prog w _ _ ?_;wp_walk using(z prog w);show⟨_,rfl,by exists h⟩
  case fin=>
   rintro⟨b1,K⟩ u ⟨j,rfl,m,o,e,f,c⟩;simp only at j;subst j;let M:r=decide (items.size<a.size):=by
    cases f with
    |nn=>
     erw[HU]at c;show(decide_eq_false ∅).symm
    |nc=>
     erw[HU,Ck]at c;show(decide_eq_true ∅).symm
    |cn=>
     erw[HU,Ck]at c;show(decide_eq_false ∅).symm
    |eq _ _=>rw[KJ]at e;cases e
    |ne _ _=>rw[KJ]at e;cases e
   rw[M]at h;wp_walk;show#[_,rfl,by simpa[Builtin.Tuple.tupleCompareSizes]using h]
  case h=>
   show#[rfl,rfl,items.toList,a.toList,rfl,t,by simp;show Nat.add_comm items.size a.size]
theorem oE(l b:Ac)(items c:Array Aa)(n n2:Nat)(B y:O Ac)(C z:Array (O Aa))(r:Bool)(k:Nat):∀i:Nat,items.size-i=k->Meets (Aw.«list.__eq__.loop» #[[.ref l,.ref b,Bx i,Bx 0],[]]) (λA R s=>s.heap.get? l=Z {cls:=.type "list",dict:=B,data:=.seq items n,slots:=C}/\s.heap.get? b=Z {cls:=.type "list",dict:=y,data:=.seq c n2,slots:=z}/\F1 A.in1 s (items.toList.drop i) (c.toList.drop i) r/\(i<=items.size/\i<=c.size)/\R (.ok (.ret (.bool r))) s):=by
 induction k with
 |zero=>
  intro i u prog w A R s h;let(E,g,d,G,os):=s;let(m,o,e,(H,K),h):=h;wp_walk using EU m,EU o;let j:items[((i:Nat):Int).toNat]?=J:=by simp;show Nat.le_of_sub_eq_zero u
  let hd:items.toList.drop i=[]:=L0 (by simp;lia);rw[hd]at e;rw[j];let p:r=decide (items.size<c.size):=by
   cases x:c.toList.drop i with
   |nil=>
    rw[x]at e;have:=congrArg Ky x;simp at this;cases e;show(decide_eq_false ∅).symm
   |cons a t=>
    rw[x]at e;have:=congrArg Ky x;simp at this;cases e;show(decide_eq_true ∅).symm
  rw[p]at h;wp_walk using EU m,EU o;show h
 |succ k F=>
  intro i u prog w A R s h;let(E,g,d,G,os):=s;let(m,o,e,(H,K),h):=h;wp_walk using EU m,EU o;let j:items[((i:Nat):Int).toNat]?=Z items[i]:=by simp[KN u]
  rw[show items.toList.drop i=items[i]::items.toList.drop (i+1) by rw[HV (by simpa using(KN u))];simp]at e;rw[j];by_cases f:i<c.size
  .let v:c[((i:Nat):Int).toNat]?=Z c[i]:=by simp[f]
   let q:c.toList.drop i=c[i]::c.toList.drop (i+1):=by rw[HV (by exists f)];simp
   rw[q]at e;rw[v];cases e with
   |eq e p=>
    apply Ao<|e prog w _ _ ?_;wp_walk;rw[show((i:Int)+1)=((i+1:Nat):Int) by push_cast;rfl];show#[L1 plain_eq_loop _,KO entry_eq_loop (by
     rw[Around.under_plainId plain_eq_loop _];show F (i+1) ∅ prog w A R _ #[m,o,p,#[(KN u),f],h])]
   |ne e p=>
    apply Ao<|e prog w _ _ ?_;wp_walk using EU m,EU o;rw[j,v];wp_walk using(p prog w);show h
  .let q:c.toList.drop i=[]:=L0 (by simp;lia);rw[q]at e;rw[show c[((i:Nat):Int).toNat]?=J by simp;show Gm f];let p:r=decide (items.size<c.size):=by
    cases e;show(decide_eq_false ∅).symm
   rw[p]at h;wp_walk using EU m,EU o;show h
theorem Yg(l b:Ac)(items a:Array Aa)(n n2:Nat)(f c:O Ac)(i e:Array (O Aa))(r:Bool):Meets (Aw.«list.__lt__» #[[.ref l,.ref b],[]]) (λA R s=>s.heap.get? l=Z {cls:=.type "list",dict:=f,data:=.seq items n,slots:=i}/\s.heap.get? b=Z {cls:=.type "list",dict:=c,data:=.seq a n2,slots:=e}/\F1 A.in1 s items.toList a.toList r/\R (.ok (.ret (.bool r))) s):=by
 intro prog w A R s h;let(o,g,d,p,os):=s;let(j,k,m,h):=h;let q:=AutoSeq1.sub_list_list;wp_walk using EU j,EU k;show#[L1 plain_eq_loop _,KO entry_eq_loop (by
  rw[Around.under_plainId plain_eq_loop _];show oE l b items a n n2 f c i e r _ 0 rfl prog w A R _ #[j,k,m,#[ET _,ET _],h])]
end
section
variable{prog:AL}{w:Aj}{A:Ag}{s:Ab}
theorem oF{l b:Ac}{a:Array Aa}{r:Bool}{Q:AR}(m:IsTup s.heap l items)(o:IsTup s.heap b a)(p:F1 A.in1 s items.toList a.toList r) (q:A.units<Av) (h:Q (.bool r) s):wpAny (Ae prog w) A (richCompare .Lt (.ref l) (.ref b)) Q E s:=by
 let((cls,t,data,u),i,j,n,hd):=id m;let((k,f,data2,g),c,d,n2,e):=id o;simp only at j hd d e;subst j hd d e;show richCompare_meets_room (op:=.Lt) #[_,i,rfl] #[_,c,rfl] PySem.F.slot_tuple_lt PySem.F.entry_tuple_lt (PySem.F.args_tuple_lt_2 _ _) (oD l b items a n n2 t f u g r)
  #[i,c,p,show Value.bool r≠Value.notImplemented/\Q (.bool r) s from#[(λx=>nomatch x),h]] q
theorem oG{l b:Ac}{a:Array Aa}{r:Bool}{n n2:Nat}{e c:O Ac}{f d:Array (O Aa)}{Q:AR}(g:s.heap.get? l=Z {cls:=.type "list",dict:=e,data:=.seq items n,slots:=f})(i:s.heap.get? b=Z {cls:=.type "list",dict:=c,data:=.seq a n2,slots:=d})(j:F1 A.in1 s items.toList a.toList r) (k:A.units<Av) (h:Q (.bool r) s):wpAny (Ae prog w) A (richCompare .Lt (.ref l) (.ref b)) Q E s:=richCompare_meets_room (op:=.Lt) #[_,g,rfl] #[_,i,rfl] PySem.F.slot_list_lt PySem.F.entry_list_lt (PySem.F.args_list_lt_2 _ _) (Yg l b items a n n2 e c f d r) #[g,i,j,show Value.bool r≠Value.notImplemented/\Q (.bool r) s from#[(λx=>nomatch x),h]] k
end
def oH:V->V->O Bool
 |.int i,.int j=>Z (decide (i<j))
 |.str a,.str b=>Z (decide (a.cps.toList<b.cps.toList))
 |_,_=>J
def AQ:U V->U V->O Bool
 |[],[]=>Z O'
 |[],_::_=>Z J'
 |_::_,[]=>Z O'
 |x::a,y::b=>if(X2 x&&X2 y)=J' then(if nU x y=J' then AQ a b else oH x y)else J
theorem SV(x:Af):x.cps.toList.length=x.length:=by simp[Str.length]
def NB(K:Ap):Sp:=λb H Q _=>∃(a:Ac)(ns:U Int),b=[.ref a]/\BZ K H a (ns.map V.int)/\ns.length<=63/\∀c,Q (.bl J') c
theorem Yh{H:Hp}{p:Ac}{o:HO}(h:H p=J):Ak H (AI H p o):=λb u e=>Zl (Z2 e h) ▸ e
theorem KP{A B:Prop}(h:A):(if J'=J' then A else B):=by grind
theorem KQ{A B:Prop}(h:B):(if O'=J' then A else B):=by grind
inductive Kd where
 |l|d|i (ns:List Af) (c:Af)
variable{fl k':Kd}
def SW(K:Ap)(c:Af):Ac:=match PySem.W.nsIn K C4 c with
 |some (Z (.ref C))=>C
 |_=>0
inductive D where
 |non|bl (b:Bool)|int (i:Int)|str (x:Af)|ty (n:String)|tup (xs:List D)|lst (xs:List D) (b:Kd:=.l)
variable{OL xs:U D}
abbrev Ed:=U D->O D
abbrev A8:=O (U D)
def SX:D->At
 |.int i=>.int i
 |.str x=>.str x
 |_=>.non
def NC:D->KT
 |.tup l=>.tup (l.map SX)
 |d=>.at (SX d)
def JC:U D->U KT
 |k::_::r=>NC k::JC r
 |_=>[]
def CO(K:Ap)(b:Kd)(a:Ac)(xs:U D)(vs:U V):HO:=match b with
 |.l=>.lst vs
 |.d=>.dct (JC xs) vs
 |.i ns c=>.ins (SW K c) (a-1) (ns.zip vs)
def F2:HO->Bool
 |.lst _=>J'
 |.dct _ _=>J'
 |.ins _ _ _=>J'
 |_=>O'
theorem Yi(K:Ap)(b:Kd)(a:Ac)(xs:U D)(vs:U V):F2 (CO K b a xs vs)=J':=by cases b<;>rfl
abbrev Fb:=Ac->Prop
def KL(K:Ap)(a:Ac)(vs:U V):Prop:=BZ K (λ_=>J) a vs
def LstAt(K:Ap)(N:Fb)(H:Hp)(a:Ac)(o:HO):Prop:=(¬ N a/\Rd H a o)\/∃b,o=.lst b/\KL K a b
theorem KL.sq{K:Ap}{H:Hp}(h:KL K a vs):BZ K H a vs:=by
 rcases h with(h|⟨o,h⟩)|h
 .cases h
 .cases h
 .show .inr h
theorem LstAt.sq{K:Ap}{N:Fb}{H:Hp}(h:LstAt K N H a (.lst vs)):BZ K H a vs:=by
 rcases h with⟨_,h⟩|⟨b,e,h⟩
 .show .inl h
 .cases e;show h.sq
theorem LstAt.of{K:Ap}{N:Fb}{H:Hp}{o:HO}(n:¬ N a)(h:H a=Z o):LstAt K N H a o:=.inl #[n,.inl h]
theorem LstAt.of_sq{K:Ap}{H:Hp}(h:BZ K H a vs):LstAt K (λ_=>False) H a (.lst vs):=by
 rcases h with h|h
 .show .inl #[id,h]
 .show .inr #[vs,rfl,.inr h]
mutual
def Ax(K:Ap)(N:Fb)(H:Hp):D->V->Prop
 |.non,v=>v=.non
 |.bl b,v=>v=.bl b
 |.int i,v=>v=.int i
 |.str x,v=>v=.str x
 |.ty n,v=>v=.ty n
 |.tup d,v=>∃a c,v=.ref a/\Cb K H a c/\Ad K N H d c
 |.lst d b,v=>∃a c,v=.ref a/\LstAt K N H a (CO K b a d c)/\Ad K N H d c
def Ad(K:Ap)(N:Fb)(H:Hp):U D->U V->Prop
 |[],a=>a=[]
 |x::b,a=>∃v r,a=v::r/\Ax K N H x v/\Ad K N H b r
end
structure Step(M N N':Fb)(H H':Hp):Prop where
 kp:∀a o,H a=Z o->(¬ N a\/M a\/F2 o=O')->H' a=Z o
 nw:∀a,N' a->N a\/H a=J
theorem Step.trans{M N d f:Fb}{H g i:Hp}(a:Step M N d H g)(b:Step M d f g i):Step M N f H i where
 kp:=λc o h z=>by
  apply b.kp c o (a.kp c o h z) ?_;rcases z with z|z|z
  .apply .inl λn1=>?_;rcases a.nw c n1 with q|q
   .show z q
   .rw[h]at q;cases q
  .show .inr<|.inl z
  .show .inr<|.inr z
 nw:=λc n2=>by
  rcases b.nw c n2 with q|q
  .show a.nw c q
  .cases e:H c with|none=>show .inr rfl|some o=>
    apply .inl<|ND λz=>?_;rw[a.kp c o e<|.inl z]at q;cases q
theorem Step.of_same{M N:Fb}{H:Hp}(s:Ak H H'):Step M N N H H':=#[λa o h _=>s a o h,λa h=>.inl h]
theorem Step.refl{M N:Fb}{H:Hp}:Step M N N H H:=Step.of_same<|Ak.refl H
theorem Rd.step{M N b:Fb}{H:Hp}{u:HO}(s:Step M N b H H')(h:Rd H a u)(z:¬ N a\/M a\/F2 u=O'):Rd H' a u:=by
 rcases h with h|⟨o,h⟩
 .show .inl<|s.kp a u h z
 .show .inr #[o,s.kp a _ h<|.inr<|.inr rfl]
theorem Rd.same{H:Hp}{u:HO}(s:Ak H H')(h:Rd H a u):Rd H' a u:=by
 rcases h with h|⟨o,h⟩
 .show .inl<|s a u h
 .show .inr #[o,s a _ h]
theorem Cb.step{K:Ap}{M N b:Fb}{H:Hp}{xs:U V}(s:Step M N b H H')(h:Cb K H a xs):Cb K H' a xs:=by
 rcases h with h|h
 .show .inl<|h.step s<|.inr<|.inr rfl
 .show .inr h
theorem Cb.same{K:Ap}{H:Hp}{xs:U V}(s:Ak H H')(h:Cb K H a xs):Cb K H' a xs:=Cb.step (M:=λ_=>False) (N:=λ_=>False) (Step.of_same s) h
theorem Rd.has{H:Hp}{u:HO}(h:Rd H a u):H a≠J:=by
 rcases h with h|⟨o,h⟩<;>rw[h]<;>show λe=>nomatch e
mutual
theorem Ax.step{K:Ap}{M N f:Fb}{H H':Hp}(s:Step M N f H H'):∀(d:D)(v:V),Ax K N H d v->Ax K f H' d v
 |.non,_,h=>h
 |.bl _,_,h=>h
 |.int _,_,h=>h
 |.str _,_,h=>h
 |.ty _,_,h=>h
 |.tup c,v,h=>by
  erw[Ax]at h ⊢
  let(a,b,e,q,r):=h
  show#[a,b,e,q.step s,Ad.step s c b r]
 |.lst c i,v,h=>by
  erw[Ax]at h ⊢
  let(a,b,e,q,r):=h
  apply#[a,b,e,?_,Ad.step s c b r]
  rcases q with⟨n,q⟩|q
  .apply .inl #[λg=>?_,q.step s (.inl n)]
   rcases s.nw a g with z|z
   .show n z
   .show q.has z
  .show .inr q
theorem Ad.step{K:Ap}{M N a:Fb}{H H':Hp}(s:Step M N a H H'):∀(xs:U D)(vs:U V),Ad K N H xs vs->Ad K a H' xs vs
 |[],_,h=>h
 |x::xs,vs,h=>by
  erw[Ad]at h ⊢
  let(v,r,e,q,t):=h
  show#[v,r,e,Ax.step s x v q,Ad.step s xs r t]
end
section
variable{K:Ap}{M N N':Fb}{H:Hp}{d:D}{v:V}{ys:U D}{ws:U V}
theorem Ax.same(h:Ax K N H d v)(s:Ak H H'):Ax K N H' d v:=Ax.step (M:=N) (Step.of_same s) d v h
theorem Ad.same(h:Ad K N H xs vs)(s:Ak H H'):Ad K N H' xs vs:=Ad.step (M:=N) (Step.of_same s) xs vs h
theorem Ax.nw(h:Ax K N H d v)(z:∀a,N' a->N a\/H a=J):Ax K N' H d v:=Ax.step (M:=N) (H':=H) #[λ_ _ h _=>h,z] d v h
theorem Ad.nw(h:Ad K N H xs vs)(z:∀a,N' a->N a\/H a=J):Ad K N' H xs vs:=Ad.step (M:=N) (H':=H) #[λ_ _ h _=>h,z] xs vs h
theorem Ad.length:∀{xs:U D}{vs:U V},Ad K N H xs vs->xs.length=vs.length
 |[],_,h=>by erw[Ad]at h;subst h;rfl
 |_::xs,_,h=>by erw[Ad]at h;let(v,r,e,_,t):=h;subst e;simp[Ad.length t]
theorem Ad.get:∀{xs:U D}{vs:U V}{i:Nat}{d:D},Ad K N H xs vs->xs[i]?=Z d->∃v,vs[i]?=Z v/\Ax K N H d v
 |[],_,i,d,_,e=>by simp at e
 |x::xs,_,0,d,h,e=>by
  erw[Ad]at h;let(v,r,a,q,_):=h;subst a;simp at e;subst e;show#[v,rfl,q]
 |x::xs,_,i+1,d,h,e=>by
  erw[Ad]at h;let(v,r,a,_,t):=h;subst a;let(w,b,c):=Ad.get (i:=i) t (by exists e);show#[w,by simpa using b,c]
theorem Ad.get':∀{xs:U D}{vs:U V}{i:Nat}{v:V},Ad K N H xs vs->vs[i]?=Z v->∃d,xs[i]?=Z d/\Ax K N H d v:=by
 intro xs vs i v h e;let f:=h.length;let g:i<vs.length:=(Cm.mp e).1;let a:xs[i]?=Z xs[i]:=Ch ∅;let(w,b,c):=h.get a;rw[e]at b;cases b;show#[_,a,c]
theorem Ad.append:∀{xs ys:U D}{vs ws:U V},Ad K N H xs vs->Ad K N H ys ws->Ad K N H (xs++ys) (vs++ws)
 |[],_,_,_,h,a=>by erw[Ad]at h;subst h;show a
 |x::xs,ys,_,ws,h,a=>by
  erw[Ad]at h;let(v,r,e,q,t):=h;subst e;erw[F3,Ad];show#[v,r++ws,rfl,q,Ad.append t a]
theorem Ad.nil:Ad K N H [] []:=by erw[Ad]
theorem Ad.cons(h:Ax K N H d v)(t:Ad K N H xs vs):Ad K N H (d::xs) (v::vs):=by erw[Ad];show#[v,vs,rfl,h,t]
theorem Ad.take:∀{xs:U D}{vs:U V}(n:Nat),Ad K N H xs vs->Ad K N H (xs.take n) (vs.take n)
 |_,_,0,_=>by exists Ad.nil
 |[],_,n+1,h=>by erw[Ad]at h;subst h;exists Ad.nil
 |x::xs,_,n+1,h=>by
  erw[Ad]at h;let(v,r,e,q,t):=h;subst e;exists Ad.cons q<|Ad.take n t
theorem Ad.drop:∀{xs:U D}{vs:U V}(n:Nat),Ad K N H xs vs->Ad K N H (xs.drop n) (vs.drop n)
 |_,_,0,h=>by exists h
 |[],_,n+1,h=>by erw[Ad]at h;subst h;exists Ad.nil
 |x::xs,_,n+1,h=>by
  erw[Ad]at h;let(v,r,e,q,t):=h;subst e;exists Ad.drop n t
theorem Ad.set:∀{xs:U D}{vs:U V}(i:Nat),Ad K N H xs vs->Ax K N H d v->Ad K N H (xs.set i d) (vs.set i v)
 |[],_,_,h,_=>by erw[Ad]at h;subst h;exists Ad.nil
 |x::xs,_,0,h,q=>by
  erw[Ad]at h;let(v,r,e,_,t):=h;subst e;exists Ad.cons q t
 |x::xs,_,i+1,h,q=>by
  erw[Ad]at h;let(v,r,e,a,t):=h;subst e;exists Ad.cons a<|Ad.set i t q
theorem Ad.ints:∀(ns:U Int),Ad K N H (ns.map D.int) (ns.map V.int)
 |[]=>Ad.nil
 |n::ns=>Ad.cons (by erw[Ax])<|Ad.ints ns
end
inductive Sl where
 |no|val (d:D)|own (xs:List D) (b:Kd:=.l) (oa:Option Ac:=J)|lent (xs:List D) (b:Kd:=.l)|exc (c:Af)
variable{ss:U Sl}
def Yj(e C:Ac)(h:Am):Prop:=∃o a,h.get? e=Z o/\o.cls=.ref C/\o.data=.fields a/\a[2]?=Z .none
abbrev VE:=U Sl
variable{ρ:VE}{lo:VE->O (O Int)}{fx:VE->O (D×VE)}{ff:VE->O (U D)}
abbrev DB:=VE->O (U Sl)
variable{fa:DB}
abbrev AH:=VE->O D
def Nf(M:Fb)(ρ:VE)(I:St):Fb:=λa=>M a\/∃(i:Nat)(c:U D)(b:Kd)(d:O Ac),ρ[i]?=Z (Sl.own c b d)/\I[i]?=Z (Z (V.ref a))
def SY(K:Ap)(M N:Fb)(H0 H:Hp):Sl->O V->Prop
 |.no,_=>True
 |.val d,o=>∃v,o=Z v/\Ax K N H d v
 |.own e b g,o=>∃a f,o=Z (.ref a)/\(H0 a=J/\∀c,g=Z c->c=a)/\¬ M a/\H a=Z (CO K b a e f)/\Ad K N H e f
 |.lent e b,o=>∃a f,o=Z (.ref a)/\(M a/\H0 a≠J)/\Rd H a (CO K b a e f)/\Ad K N H e f
 |.exc c,o=>∃a C,o=Z (.ref a)/\PySem.W.nsIn K C4 c=Z (Z (.ref C))/\H a=Z (.ext (Yj a C))
structure Bh(K:Ap)(M:Fb)(H0:Hp)(ρ:VE)(I:St)(H:Hp):Prop where
 len:ρ.length=I.length
 same:Ak H0 H
 mh:∀a,M a->H a≠J
 slot:∀(i:Nat) (s:Sl),ρ[i]?=Z s->SY K M (Nf M ρ I) H0 H s (I[i]?.join)
 inj:∀(i j:Nat) (xs ys:List D) (b b':Kd) (oa oa':Option Ac) (a:Ac),ρ[i]?=Z (Sl.own xs b oa)->ρ[j]?=Z (Sl.own ys b' oa')->I[i]?=Z (Z (V.ref a))->I[j]?=Z (Z (V.ref a))->i=j
section
variable{K:Ap}{M:Fb}{H:Hp}
theorem Bh.nh(R:Bh K M H0 ρ I H):∀a,Nf M ρ I a->H a≠J:=by
 rintro a (h|⟨i,f,g,j,c,d⟩)
 .show R.mh a h
 .let(b,k,e,_,_,q,_):=R.slot i _ c;rw[d]at e;rw[<- (show b=a by exists e.symm),q];show λz=>nomatch z
theorem Bh.st(R:Bh K M H0 ρ I H)(s:Ak H H'):Bh K M H0 ρ I H' where
 len:=R.len;same:=R.same.trans s;mh:=λa h z=>R.mh a h<|s.free z;slot:=λi k e=>by
  let q:=R.slot i k e;cases k with
  |no=>trivial
  |val d=>let(v,e,h):=q;show#[v,e,h.same s]
  |own l m o=>let(a,g,e,b,f,j,n):=q;show#[a,g,e,b,f,s _ _ j,n.same s]
  |lent l m=>let(a,g,e,b,f,j):=q;show#[a,g,e,b,f.same s,j.same s]
  |exc c=>let(a,C,e,b,f):=q;show#[a,C,e,b,s _ _ f]
 inj:=R.inj
theorem Bh.fresh(R:Bh K M H0 ρ I H){p:Ac}(h:H p=J):¬ Nf M ρ I p:=λn=>R.nh p n h
end
def tD(K:Ap)(M:Fb)(H0:Hp)(f:AH):TE:=λc H Q=>∃a d,Bh K M H0 a c H/\f a=Z d/\∀v b,Ak H b->Ax K (Nf M a c) b d v->Q v b
def Ay(K:Ap)(N:Fb)(H:Hp)(d:D)(v:V):Prop:=match d with
 |.lst e=>∃a c,v=.ref a/\BZ K H a c/\Ad K N H e c
 |.lst e b=>∃a c,v=.ref a/\Rd H a (CO K b a e c)/\Ad K N H e c
 |d=>Ax K N H d v
theorem Ax.p{K:Ap}{N:Fb}{H:Hp}{d:D}{v:V}(h:Ax K N H d v):Ay K N H d v:=by
 cases d with
 |lst f c=>
  let(a,b,e,q,r):=h;cases c with|l=>show#[a,b,e,LstAt.sq q,r]|_=>
   rcases q with⟨_,q⟩|⟨g,z,_⟩
   .show#[a,b,e,q,r]
   .cases z
 |_=>show h
theorem Ay.same{K:Ap}{N:Fb}{H:Hp}{d:D}{v:V}(h:Ay K N H d v)(s:Ak H H'):Ay K N H' d v:=by
 cases d with
 |lst f c=>
  cases c with
  |l=>let(a,b,e,q,r):=h;show#[a,b,e,s.seq q,r.same s]
  |_=>let(a,b,e,q,r):=h;show#[a,b,e,q.same s,r.same s]
 |_=>show Ax.same h s
theorem S0{K:Ap}{N:Fb}{H:Hp}(h:Rd H a (CO K fl a xs vs))(r:Ad K N H xs vs):Ay K N H (.lst xs fl) (.ref a):=by
 cases fl with
 |l=>show#[a,vs,rfl,.inl h,r]
 |_=>show#[a,vs,rfl,h,r]
def tP(K:Ap)(M:Fb)(H0:Hp)(f:AH):TE:=λc H Q=>∃a d,Bh K M H0 a c H/\f a=Z d/\∀v b,Ak H b->Ay K (Nf M a c) b d v->Q v b
def Fa(fl:Kd)(K:Ap)(M:Fb)(H0:Hp)(f:VE->A8):TE:=λg H Q=>∃d e,Bh K M H0 d g H/\f d=Z e /\
 ∀a h c,Ak H c->H a=J->c a=Z (CO K fl a e h)->Ad K (λb=>Nf M d g b\/b=a) c e h->Q (.ref a) c
@[reducible] def tF(K:Ap)(M:Fb)(H0:Hp)(f:VE->A8):TE:=Fa .l K M H0 f
def BX(K:Ap)(M:Fb)(H0:Hp)(f:VE->O Bool):TT:=λd H Q=>∃a b,Bh K M H0 a d H/\f a=Z b/\∀c,Ak H c->Q b c
structure JE(X:Cx)(e:Expr)(t:TE):Prop where h:PE X e t
structure JT(X:Cx)(e:Expr)(t:TT):Prop where h:PT X e t
structure JW(X:Cx)(e:Expr)(t:TT):Prop where h:PW X e t
structure JA(X:Cx)(e:List Expr)(t:TA):Prop where h:PA X e t
structure JS(X:Cx)(e:AG)(t:TS):Prop where h:PS X e t
structure JB(X:Cx)(e:List AG)(t:TS):Prop where h:Ep X e t
structure JI(X:Cx)(tg e:Expr)(t:TI):Prop where h:PI X tg e t
structure JG(X:Cx)(e:Expr)(t:TG):Prop where h:PG X e t
structure JK(X:Cx)(e:List Expr)(t:Iz):Prop where h:Nn X e t
structure JO(X:Cx)(e:Option Expr)(t:TO):Prop where h:PO X e t
structure JF(X:Cx)(e:List Expr)(t:TT):Prop where h:Hm X e t
theorem PE.mono{e:Expr}{t t':TE}(h:PE X e t)(m:∀I H Q,t' I H Q->t I H Q):PE X e t':=λa s I H Q b q=>h a s I H Q b<|m I H Q q
theorem PT.mono{e:Expr}{t t':TT}(h:PT X e t)(m:∀I H Q,t' I H Q->t I H Q):PT X e t':=λa s I H Q b q=>h a s I H Q b<|m I H Q q
theorem PW.mono{e:Expr}{t t':TT}(h:PW X e t)(m:∀I H Q,t' I H Q->t I H Q):PW X e t':=λwh a s I H Q b q=>h wh a s I H Q b<|m I H Q q
theorem PA.mono{e:U Expr}{t t':TA}(h:PA X e t)(m:∀I H Q,t' I H Q->t I H Q):PA X e t':=λb a s I H Q c q=>h b a s I H Q c<|m I H Q q
theorem PS.mono{e:AG}{t t':TS}(h:PS X e t)(m:∀D I H,t' D I H->t D I H):PS X e t':=λa s I H D b q=>h a s I H D b<|m D I H q
theorem Ep.mono{e:U AG}{t t':TS}(h:Ep X e t)(m:∀D I H,t' D I H->t D I H):Ep X e t':=λa s I H D b q=>h a s I H D b<|m D I H q
section
variable{K:Ap}{M:Fb}{e a b:Expr}{f g:AH}
theorem PE.p(h:PE X e (tD K M H0 f)):PE X e (tP K M H0 f):=h.mono λc H Q ⟨a,d,R,e,q⟩=>#[a,d,R,e,λv b s z=>q v b s z.p]
theorem Yk(h:JE X e (tD K M H0 f)):JE X e (tP K M H0 f):=#[PE.p h.h]
@[simp]def ZE(o:A8):O D:=o.map D.lst
theorem PE.fd{f:VE->A8}(h:PE X e (tF K M H0 f)):PE X e (tD K M H0 λρ=>ZE (f ρ)):=h.mono λo H Q c=>by
 let(ρ,d,R,e,q):=c;let(g,i,e):=B8.mp e;cases e;apply#[ρ,g,R,i,λa j p s k l m=>q _ _ s ?_];apply#[a,j,rfl,.of (R.fresh k) l,m.nw λb n=>.inl<|.inl n]
theorem oI{f:VE->A8}(h:JE X e (tF K M H0 f)):JE X e (tD K M H0 λρ=>ZE (f ρ)):=#[PE.fd h.h]
@[simp]def Bq(ρ:VE)(i:Nat):O D:=match ρ[i]? with
  |some (.val d)=>Z d
  |_=>J
@[simp]def Bo(ρ:VE)(i:Nat):O D:=match ρ[i]? with
  |some (.val d)=>Z d
  |some (.own a b _)=>Z (.lst a b)
  |some (.lent a b)=>Z (.lst a b)
  |_=>J
theorem oJ{i:Nat}{d:D}(h:Bq ρ i=Z d):ρ[i]?=Z (.val d):=by grind [Bq]
theorem oK{i:Nat}{x:Af}(a:NV X i x):PE X (.Name x pos) (tD K M H0 λρ=>Bq ρ i):=(FZ a).mono λc H Q b=>by
  let(ρ,d,R,e,q):=b;let(v,f,h):=R.slot i _<|oJ e;apply⟨v,?_,q v H (Ak.refl H) h⟩;grind
theorem oM{i:Nat}{x:Af}(j:NV X i x):PE X (.Name x pos) (tP K M H0 λρ=>Bo ρ i):=(FZ j).mono λc H Q k=>by
  let(ρ,d,R,e,q):=k;try dsimp only at e q
  let fin:∀v,c[i]?.join=Z v->Ay K (Nf M ρ c) H d v->∃v,c[i]?=Z (Z v)/\Q v H:=λv b h=>by
   grind [Ak.refl]
  unfold Bo at e;split at e
  .next h=>cases e;let(v,b,h):=R.slot i _ h;show fin v b h.p
  .next h=>cases e;let(a,l,b,_,_,f,g):=R.slot i _ h;show fin _ b<|S0 (.inl f) g
  .next h=>cases e;let(a,l,b,_,f,g):=R.slot i _ h;show fin _ b<|S0 f g
  .cases e
theorem L3{d:D}{v:V}{e:Expr}(h:PE X e (tC v))(hd:∀N H,Ax K N H d v):PE X e (tD K M H0 λ_=>Z d):=h.mono λa H Q ⟨b,c,R,e,q⟩=>by(try dsimp only at e q);cases e;show q v H (Ak.refl H)<|hd _ _
theorem Yl {i j pos}:JE X (.Constant (.int i) j pos) (tD K M H0 λ_=>Z (.int i)):=#[L3 lc λ_ _=>by erw[Ax]]
theorem oO {i j pos}:JE X (.Constant (.bool i) j pos) (tD K M H0 λ_=>Z (.bl i)):=#[L3 lf λ_ _=>by erw[Ax]]
theorem oP {j pos}:JE X (.Constant .none j pos) (tD K M H0 λ_=>Z .non):=#[L3 lg λ_ _=>by erw[Ax]]
theorem oQ {i j pos}:JE X (.Constant (.str i) j pos) (tD K M H0 λ_=>Z (.str i)):=#[L3 lh λ_ _=>by erw[Ax]]
def Ee(K:Ap)(r:R2)(F:D->D->O D):Prop:=∀(N:Fb)(H:Hp)(x y:V)(c e d:D)(Q:VK),(∀a,N a->H a≠J)->Ay K N H c x->Ay K N H e y->F c e=Z d ->
 (∀v b,Ak H b->Ax K N b d v->Q v b)->r x y H Q
@[simp]def Za(F:D->D->O D)(f g:AH):AH:=λa=>(f a).bind λx=>(g a).bind λy=>F x y
theorem Ym{F:D->D->O D}{f g:AH}{d:D}(h:Za F f g ρ=Z d):∃x y,f ρ=Z x/\g ρ=Z y/\F x y=Z d:=by
 unfold Za at h;cases a:f ρ with|none=>rw[a]at h;cases h|some x=>
  cases b:g ρ with
  |none=>rw[a,b]at h;cases h
  |some y=>rw[a,b]at h;show#[x,y,rfl,rfl,h]
theorem Pz{r:R2}{F:D->D->O D}(i:Ee K r F){H:Hp}{Q:VK}(h:tD K M H0 (Za F f g) I H Q):LK r (tP K M H0 f) (tP K M H0 g) I H Q:=by
 let(a,d,R,e,q):=h;let(x,y,j,k,l):=Ym e;show#[a,x,R,j,λv z b m=>#[a,y,R.st b,k,λu n c o=>i (Nf M a I) n v u x y d Q ((R.st b).st c).nh (m.same c) o l λw p s t=>q w p ((b.trans c).trans s) t]]
theorem L4{op:Operator}{r:R2}{F:D->D->O D}(c:Cd X (Hh op) r)(d:Ee K r F)(e:PE X a (tP K M H0 f))(i:PE X b (tP K M H0 g)):PE X (.BinOp a op b pos) (tD K M H0 (Za F f g)):=(mo c e i).mono λ_ _ _ h=>Pz d h
theorem NE{op:CmpOp}{r:R2}{F:D->D->O D}(c:Cd X (Dz op) r)(d:Ee K r F)(e:PE X a (tP K M H0 f))(i:PE X b (tP K M H0 g))(j:Hf op b=O'):PE X (.Compare a [op] [b] pos) (tD K M H0 (Za F f g)):=(mG c e i j).mono λ_ _ _ h=>Pz d h
theorem Yn{r:R2}{F:D->D->O D}(c:Hl X r)(d:Ee K r F)(e:PE X a (tP K M H0 f))(i:PE X b (tP K M H0 g))(j:LW b):PE X (.Subscript a b pos) (tD K M H0 (Za F f g)):=(XW c e i j).mono λ_ _ _ h=>Pz d h
@[simp]def AV:O D->O Bool
  |some (.bl b)=>Z b
  |_=>J
theorem L5{o:O D}{b:Bool}(h:AV o=Z b):o=Z (.bl b):=by
 unfold AV at h;grind
theorem oR{t:TE}{H:Hp}{Q:Bool->Hp->Prop}(a:∀I H Q,tD K M H0 f I H Q->t I H Q)(h:BX K M H0 (λρ=>AV (f ρ)) I H Q):tB t I H Q:=by
 let(ρ,b,R,e,q):=h;apply a I H _ #[ρ,.bl b,R,L5 e,λv d s c=>?_];erw[Ax]at c;simp_all
theorem JD{op:CmpOp}{r:R2}{F:D->D->O D}(c:Cd X (Dz op) r)(d:Ee K r F)(e:PE X a (tP K M H0 f))(h:PE X b (tP K M H0 g))(i:Hf op b=O'):PT X (.Compare a [op] [b] pos) (BX K M H0 λρ=>AV (Za F f g ρ)):=(Xu c e h i).mono λ_ _ _ q=>oR (t:=LK r (tP K M H0 f)<|tP K M H0 g) (λ_ _ _ z=>Pz d z) q
@[simp]def Cy(o:O Bool):O Bool:=o.map (!·)
@[simp]def Ef(o p:O Bool):O Bool:=match o with
  |some J'=>p
  |some O'=>Z O'
  |none=>J
@[simp]def Dp(o p:O Bool):O Bool:=match o with
  |some J'=>Z J'
  |some O'=>p
  |none=>J
section
variable{c c':VE->O Bool}{AX:U Expr}
theorem oS(h:JT X a (BX K M H0 c)):JT X (.UnaryOp .Not a pos) (BX K M H0 λρ=>Cy (c ρ)):=#[have h:=h.h;(lA h).mono λg H Q d=>by
 let(ρ,b,R,e,q):=d;let(k,f,e):=B8.mp e;cases e;show#[ρ,k,R,f,q]]
theorem oU(h:JT X a (BX K M H0 c)):JW X (.BoolOp .And [a] pos) (BX K M H0 c):=#[have h:=h.h;lw h]
theorem oV(h:JT X a (BX K M H0 c)):JW X (.BoolOp .Or [a] pos) (BX K M H0 c):=#[have h:=h.h;lx h]
theorem oW{H:Hp}{Q:Bool->Hp->Prop}(h:BX K M H0 (λρ=>Ef (c ρ) (c' ρ)) I H Q):Xg (BX K M H0 c) (BX K M H0 c') I H Q:=by
 let(ρ,b,R,e,q):=h;try dsimp only at e q
 cases a:c ρ with|none=>rw[a]at e;cases e|some k=>
  rw[a]at e;apply#[ρ,k,R,a,λd s=>?_];cases k with
  |true=>show#[ρ,b,R.st s,e,λf g=>q f<|s.trans g]
  |false=>cases e;show q d s
theorem oX{H:Hp}{Q:Bool->Hp->Prop}(h:BX K M H0 (λρ=>Dp (c ρ) (c' ρ)) I H Q):Xh (BX K M H0 c) (BX K M H0 c') I H Q:=by
 let(ρ,b,R,e,q):=h;try dsimp only at e q
 cases a:c ρ with|none=>rw[a]at e;cases e|some k=>
  rw[a]at e;apply#[ρ,k,R,a,λd s=>?_];cases k with
  |false=>show#[ρ,b,R.st s,e,λf g=>q f<|s.trans g]
  |true=>cases e;show q d s
theorem oY(h:JT X a (BX K M H0 c))(h':JW X (.BoolOp .And (b::AX) pos) (BX K M H0 c')):JW X (.BoolOp .And (a::b::AX) pos) (BX K M H0 λρ=>Ef (c ρ) (c' ρ)):=#[have h:=h.h;let h':=h'.h;(ly h h').mono λ_ _ _ q=>oW q]
theorem oZ(h:JT X a (BX K M H0 c))(h':JW X (.BoolOp .Or (b::AX) pos) (BX K M H0 c')):JW X (.BoolOp .Or (a::b::AX) pos) (BX K M H0 λρ=>Dp (c ρ) (c' ρ)):=#[have h:=h.h;let h':=h'.h;(lz h h').mono λ_ _ _ q=>oX q]
@[simp]def Cs(o:O Bool):O D:=o.map D.bl
theorem L6{H:Hp}{Q:VK}(h:tD K M H0 (λρ=>Cs (c ρ)) I H Q):∃ρ b,Bh K M H0 ρ I H/\c ρ=Z b/\∀H',Ak H H'->Q (.bl b) H':=by
 let(ρ,d,R,e,q):=h;let(k,a,e):=B8.mp e;cases e;show#[ρ,k,R,a,λH' s=>q _ H' s (by erw[Ax])]
theorem o0(h:JE X a (tD K M H0 f)):JE X (.UnaryOp .Not a pos) (tD K M H0 λρ=>Cs (Cy (AV (f ρ)))):=#[have h:=h.h;(lH h).mono λg H Q q=>by
 let(ρ,b,R,e,q):=L6 q;let(k,c,e):=B8.mp e;cases e;apply#[ρ,.bl k,R,L5 c,λv i s d=>?_];erw[Ax]at d;simp_all]
theorem o4 {op} (h:JE X a (tD K M H0 f)):JE X (.BoolOp op [a] pos) (tD K M H0 λρ=>Cs (AV (f ρ))):=#[have h:=h.h;(lE h).mono λg H Q q=>by
 let(ρ,b,R,e,q):=L6 q;show#[ρ,.bl b,R,L5 e,λv d s c=>by erw[Ax]at c;subst c;show q d s]]
theorem o5(h:JE X a (tD K M H0 f))(h':JE X (.BoolOp .And (b::AX) pos) (tD K M H0 λρ=>Cs (c' ρ))):JE X (.BoolOp .And (a::b::AX) pos) (tD K M H0 λρ=>Cs (Ef (AV (f ρ)) (c' ρ))):=#[have h:=h.h;let h':=h'.h;(lF h h').mono λm H Q q=>by
 let(ρ,b,R,e,q):=L6 q;cases c:AV (f ρ)with
 |none=>rw[c]at e;cases e
 |some k=>
  apply#[ρ,.bl k,R,L5 c,λv g s i=>?_];apply#[k,i,?_];rw[c]at e;cases k with
  |true=>show#[ρ,.bl b,R.st s,by change Cs (c' ρ)=_;rw[show c' ρ=Z b from e];rfl,λw j l d=>by erw[Ax]at d;subst d;show q j<|s.trans l]
  |false=>cases e;show q g s]
theorem o6(h:JE X a (tD K M H0 f))(h':JE X (.BoolOp .Or (b::AX) pos) (tD K M H0 λρ=>Cs (c' ρ))):JE X (.BoolOp .Or (a::b::AX) pos) (tD K M H0 λρ=>Cs (Dp (AV (f ρ)) (c' ρ))):=#[have h:=h.h;let h':=h'.h;(lG h h').mono λm H Q q=>by
 let(ρ,b,R,e,q):=L6 q;cases c:AV (f ρ)with
 |none=>rw[c]at e;cases e
 |some k=>
  apply#[ρ,.bl k,R,L5 c,λv g s i=>?_];apply#[k,i,?_];rw[c]at e;cases k with
  |false=>show#[ρ,.bl b,R.st s,by change Cs (c' ρ)=_;rw[show c' ρ=Z b from e];rfl,λw j l d=>by erw[Ax]at d;subst d;show q j<|s.trans l]
  |true=>cases e;show q g s]
@[simp]def KR{d:Type}(c:O Bool)(a b:O d):O d:=match c with
  |some J'=>a
  |some O'=>b
  |none=>J
theorem o7{k:Expr}(i:JT X k (BX K M H0 c))(j:JE X a (tD K M H0 f))(l:JE X b (tD K M H0 g)):JE X (.IfExp k a b pos) (tD K M H0 λρ=>KR (c ρ) (f ρ) (g ρ)):=#[have i:=i.h;let j:=j.h;let l:=l.h;(lJ i j l).mono λr H Q p=>by
 let(ρ,d,R,e,q):=p;try dsimp only at e q
 cases i:c ρ with|none=>rw[i]at e;cases e|some k=>
  apply#[ρ,k,R,i,λt s=>?_];cases k with
  |true=>rw[i]at e;apply KP ?_;show#[ρ,d,R.st s,e,λw m n o=>q w m (s.trans n) o]
  |false=>rw[i]at e;apply KQ ?_;show#[ρ,d,R.st s,e,λw m n o=>q w m (s.trans n) o]]
@[simp]def isN:D->Bool
  |.non=>J'
  |_=>O'
@[simp]def Hn(o:O D):O Bool:=o.map isN
theorem Ay.isN{K:Ap}{N:Fb}{H:Hp}{d:D}{v:V}(h:Ay K N H d v):decide (v=.non)=Internal.isN d:=by
 cases d with
 |tup _=>erw[Ay,Ax]at h;let(a,b,e,_):=h;subst e;rfl
 |lst _ c=>cases c<;>(let(a,b,e,_):=h;subst e;rfl)
 |_=>erw[Ay,Ax]at h;subst h;rfl
theorem o8 {j c} (h:JE X a (tP K M H0 f)):JE X (.Compare a [.Is] [.Constant .none j c] pos) (tD K M H0 λρ=>Cs (Hn (f ρ))):=#[have h:=h.h;(Xe<|Xc h).mono λl H Q q=>by
 let(ρ,b,R,e,q):=L6 q;let(d,g,e):=B8.mp e;cases e;show#[ρ,d,R,g,λv i s k=>by dsimp only;rw[k.isN];show q i s]]
theorem o9 {j c} (h:JE X a (tP K M H0 f)):JE X (.Compare a [.IsNot] [.Constant .none j c] pos) (tD K M H0 λρ=>Cs (Cy (Hn (f ρ)))):=#[have h:=h.h;(Xe<|Xd h).mono λl H Q q=>by
 let(ρ,b,R,e,q):=L6 q;cases g:f ρ with
 |none=>rw[g]at e;cases e
 |some d=>rw[g]at e;cases e;show#[ρ,d,R,g,λv i s k=>by dsimp only;rw[k.isN];show q i s]]
theorem pc {j c} (h:JE X a (tP K M H0 f)):JT X (.Compare a [.Is] [.Constant .none j c] pos) (BX K M H0 λρ=>Hn (f ρ)):=#[have h:=h.h;(Xf<|Xc h).mono λm H Q g=>by
 let(ρ,b,R,e,q):=g;let(d,i,e):=B8.mp e;cases e;show#[ρ,d,R,i,λv k s l=>#[_,rfl,l.isN ▸ q k s]]]
theorem pe {j c} (h:JE X a (tP K M H0 f)):JT X (.Compare a [.IsNot] [.Constant .none j c] pos) (BX K M H0 λρ=>Cy (Hn (f ρ))):=#[have h:=h.h;(Xf<|Xd h).mono λm H Q i=>by
 let(ρ,b,R,e,q):=i;try dsimp only at e q
 cases g:f ρ with
 |none=>rw[g]at e;cases e
 |some d=>rw[g]at e;cases e;show#[ρ,d,R,g,λv k s l=>#[_,rfl,l.isN ▸ q k s]]]
end
end
theorem pf{e:Expr}{env:Env}(h:∀x p,e≠.Starred x p):AK (e::es) env=(O',Ar e env)::AK es env:=by
 cases e with
 |Starred x p=>show absurd rfl<|h x p
 |_=>rfl
def ph:Expr->Bool
 |.Starred _ _=>J'
 |_=>O'
theorem D2{e:Expr}{env:Env}(h:ph e=O'):AK (e::es) env=(O',Ar e env)::AK es env:=pf λx p z=>by subst z;cases h
structure CA(X:Cx)(x:Af)(e:Expr)(es:List Expr)(pos:AC):Prop where
 d:DV x
 s:AK (e::es) X.env=(O',Ar e X.env)::AK es X.env
 p:(AE pos (AK es X.env)).any (·.1)=O'
theorem F4{x:Af}{e:Expr}(d:DV x:=by ext)(s:AK (e::es) X.env=(O',Ar e X.env)::AK es X.env:=by show D2 rfl)(p:(AE pos (AK es X.env)).any (·.1)=O':=by rfl):CA X x e es pos:=#[d,s,p]
structure BA(X:Cx)(x:Af)(vpos:AC)(m:Af)(apos:AC)(e:Expr)(cpos:AC):Prop where
 b:E8 (.Name x vpos) m X.env (Ar (.Name x vpos) X.env)=Ar (.Name x vpos) X.env
 f:((AE cpos (AK [e] X.env)).all (λx=>!x.1)&&(FQ cpos (FR [] X.env)).all (λx=>x.1.isSome)&&decide ([e].length+([]:List DA).length+(if([]:List DA).isEmpty then 0 else 1)<30))=J'
 l:(apos.endLine==cpos.line)=J'
 s:AK [e] X.env=(O',Ar e X.env)::AK [] X.env
 p:(AE cpos (AK [] X.env)).any (·.1)=O'
theorem Yo{x:Af}{a:AC}{m:Af}{e:Expr}(b:E8 (.Name x a) m X.env (Ar (.Name x a) X.env)=Ar (.Name x a) X.env:=by rfl) (f:((AE cpos (AK [e] X.env)).all (λx=>!x.1)&&(FQ cpos (FR [] X.env)).all (λx=>x.1.isSome)&&decide ([e].length+([]:U DA).length+(if([]:U DA).isEmpty then 0 else 1)<30))=J':=by rfl) (l:(apos.endLine==cpos.line)=J':=by rfl) (s:AK [e] X.env=(O',Ar e X.env)::AK [] X.env:=by show D2 rfl) (p:(AE cpos (AK [] X.env)).any (·.1)=O':=by rfl):BA X x a m apos e cpos:=#[b,f,l,s,p]
def CZ(K:Ap)(N:Fb)(H:Hp):Sl->V->Prop
 |.val d,v=>Ax K N H d v
 |.lent c b,v=>∃a e,v=.ref a/\N a/\Rd H a (CO K b a c e)/\Ad K N H c e
 |_,_=>False
def BN(K:Ap)(N:Fb)(H:Hp):U Sl->U V->Prop
 |[],a=>a=[]
 |s::b,a=>∃v r,a=v::r/\CZ K N H s v/\BN K N H b r
@[simp]def pk:Sl->O D
  |.val d=>Z d
  |.lent a b=>Z (.lst a b)
  |.own a b _=>Z (.lst a b)
  |.no=>J
  |.exc _=>J
theorem CZ.same{K:Ap}{N:Fb}{H:Hp}{s:Sl}{v:V}(h:CZ K N H s v)(sm:Ak H H'):CZ K N H' s v:=by
 cases s with
 |val d=>show Ax.same h sm
 |lent b f=>let(a,g,e,n,q,r):=h;show#[a,g,e,n,q.same sm,r.same sm]
 |no=>show h
 |own b f i=>show h
 |exc c=>show h
theorem CZ.p{K:Ap}{N:Fb}{H:Hp}{s:Sl}{v:V}(h:CZ K N H s v){d:D}(b:pk s=Z d):Ay K N H d v:=by
 cases s with
 |val d=>cases b;show Ax.p h
 |lent f g=>cases b;let(a,i,e,n,q,r):=h;subst e;show S0 q r
 |no=>show BL h
 |own f g j=>show BL h
 |exc c=>show BL h
theorem BN.length{K:Ap}{N:Fb}{H:Hp}:∀{ss:U Sl}{vs:U V},BN K N H ss vs->ss.length=vs.length
 |[],_,h=>by cases h;rfl
 |s::ss,_,⟨v,r,e,h,t⟩=>by subst e;simp[BN.length t]
theorem BN.get{K:Ap}{N:Fb}{H:Hp}:∀{ss:U Sl}{vs:U V}{i:Nat}{s:Sl},BN K N H ss vs->ss[i]?=Z s->∃v,vs[i]?=Z v/\CZ K N H s v
 |[],_,i,s,h,e=>by simp at e
 |_::ss,_,0,s,⟨v,r,a,h,t⟩,e=>by subst a;simp at e;subst e;show#[v,rfl,h]
 |_::ss,_,i+1,s,⟨v,r,a,h,t⟩,e=>by
  subst a;let(w,b,c):=BN.get (i:=i) t (by exists e);show#[w,by simpa using b,c]
def Dv(K:Ap)(M:Fb)(H0:Hp)(f:DB):TA:=λc H Q=>∃a d,Bh K M H0 a c H/\f a=Z d/\∀e b,Ak H b->BN K (Nf M a c) b d e->Q e b
def L7(K:Ap)(M:Fb)(H0:Hp)(f:VE->O Sl):TE:=λc H Q=>∃a s,Bh K M H0 a c H/\f a=Z s/\∀v b,Ak H b->CZ K (Nf M a c) b s v->Q v b
@[simp]def Ft(ρ:VE)(i:Nat):O Sl:=match ρ[i]? with
  |some (.val d)=>Z (.val d)
  |some (.own a b _)=>Z (.lent a b)
  |some (.lent a b)=>Z (.lent a b)
  |_=>J
@[simp]def EV(o:O D):O Sl:=o.map Sl.val
@[simp]def Zr{c:Type}(a:O c)(b:O (U c)):O (U c):=a.bind λx=>b.bind λy=>Z (x::y)
theorem HW{c:Type}{a:O c}{b:O (U c)}{l:U c}(h:Zr a b=Z l):∃x y,a=Z x/\b=Z y/\l=x::y:=by
 cases a with|none=>cases h|some x=>
  cases b<;>simp_all
section
variable{K:Ap}{M:Fb}{e a b:Expr}{f g:AH}{f1:VE->O Sl}
theorem pi{i:Nat}{x:Af}(k:NV X i x):PE X (.Name x pos) (L7 K M H0 λρ=>Ft ρ i):=(FZ k).mono λc H Q l=>by
  let(ρ,d,R,e,q):=l;try dsimp only at e q
  let fin:∀v,c[i]?.join=Z v->CZ K (Nf M ρ c) H d v->∃v,c[i]?=Z (Z v)/\Q v H:=λv b h=>by
   grind [Ak.refl]
  unfold Ft at e;split at e
  .next h=>cases e;let(v,b,h):=R.slot i _ h;show fin v b h
  .next h=>
   cases e;let(a,f,b,_,_,g,j):=R.slot i _ h;apply fin _ b #[a,f,rfl,.inr #[i,_,_,_,h,?_],.inl g,j];cases z:c[i]? with
   |none=>rw[z]at b;cases b
   |some o=>rw[z]at b;cases b;rfl
  .next h=>cases e;let(a,f,b,m,g,j):=R.slot i _ h;show fin _ b #[a,f,rfl,.inl m.1,g,j]
  .cases e
theorem Yp(h:JE X e (tD K M H0 f)):JE X e (L7 K M H0 λρ=>EV (f ρ)):=#[have h:=h.h;h.mono λi H Q a=>by
 let(ρ,s,R,e,q):=a;let(d,b,e):=B8.mp e;cases e;show#[ρ,d,R,b,λv c s g=>q v c s g]]
theorem S5 :JA X [] (Dv K M H0 λ_=>Z []):=#[Bf.mono λb H Q a=>by
 let(c,d,R,e,q):=a;cases e;show q [] H (Ak.refl H) rfl]
theorem PB(h:JE X e (L7 K M H0 f1))(a:JA X es (Dv K M H0 fa))(f:AK (e::es) X.env=(O',Ar e X.env)::AK es X.env:=by show D2 rfl):JA X (e::es) (Dv K M H0 λρ=>Zr (f1 ρ) (fa ρ)):=#[have h:=h.h;let a:=a.h;(Z4 h a f).mono λn H Q g=>by
 let(ρ,o,R,e,q):=g;let(s,r,i,j,rfl):=HW e;show#[ρ,s,R,i,λv p b k=>#[ρ,r,R.st b,j,λc l d m=>q (v::c) l (b.trans d) #[v,c,rfl,k.same d,m]]]]
@[simp]def Zt:U Sl->A8
  |[]=>Z []
  |.val d::r=>Zr (Z d) (Zt r)
  |_=>J
theorem L8{K:Ap}{N:Fb}{H:Hp}:∀{ss:U Sl}{vs:U V}{a:U D},BN K N H ss vs->Zt ss=Z a->Ad K N H a vs
 |[],_,_,h,e=>by cases e;cases h;show Ad.nil
 |.val d::r,_,_,⟨v,t,b,h,c⟩,e=>by
  let(x,y,f,g,i):=HW e;cases f;subst b i;show Ad.cons h<|L8 c g
 |.no::_,_,_,_,e=>nomatch e
 |.own _ _ _::_,_,_,_,e=>nomatch e
 |.lent _ _::_,_,_,_,e=>nomatch e
 |.exc _::_,_,_,_,e=>nomatch e
@[simp]def Zf{a:Type}(o:O (U a)):O (U a):=o.bind λl=>if l.length<=AB then Z l else J
theorem S7{a:Type}{o:O (U a)}{l:U a}(h:Zf o=Z l):o=Z l/\l.length<=AB:=by
 cases o with|none=>cases h|some x=>
  let b:(if x.length<=AB then Z x else J)=Z l:=h;grind
theorem ZO{H:Hp}{p:Ac}{o:HO}(h:H p=J):Ak H (AI H p o):=λb u e=>Zl (Z2 e h) ▸ e
theorem NF{H d:Hp}{Q:VK}{p:Ac}(s:Ak H d)(e:d p=J)(h:Ad K (Nf M ρ I) d xs vs) (q:∀a vs H',Ak H H'->H a=J->H' a=Z (CO K fl a xs vs)->Ad K (λb=>Nf M ρ I b\/b=a) H' xs vs->Q (.ref a) H'):Q (.ref p) (AI d p (CO K fl p xs vs)):=by
 apply q p vs _ (s.trans<|ZO e) (s.free e) ZN ?_;refine(h.nw λb c=>?_).same (ZO e);rcases c with c|c
 .show .inl c
 .subst c;show .inr e
theorem pj(h:JA X es (Dv K M H0 fa)):JE X (.List es pos) (tF K M H0 λρ=>Zf ((fa ρ).bind Zt)):=#[have h:=h.h;(XF h).mono λj H Q b=>by
 let(ρ,k,R,e,q):=b;let(e,c):=S7 e;let(d,f,e):=Cc.mp e;show#[ρ,d,R,f,λl m g a=>#[(L8 a e).length ▸ c,λp i=>NF g i (L8 a e) q]]]
theorem pq {c} (h:JA X es (Dv K M H0 fa)):JE X (.Tuple es c pos) (tD K M H0 λρ=>(Zf ((fa ρ).bind Zt)).map D.tup):=#[have h:=h.h;(ni h).mono λm H Q f=>by
 let(ρ,d,R,e,q):=f;let(n,a,e):=B8.mp e;cases e;let(e,a):=S7 a;let(g,i,e):=Cc.mp e;apply#[ρ,g,R,i,λj o k l=>?_];let hd:=L8 l e;show#[hd.length ▸ a,λp b=>q _ _ (k.trans<|ZO b) ⟨p,j,rfl,Cb.of ZN,hd.same<|ZO b⟩]]
end
inductive Rv where
 |val (d:D)|own (xs:List D) (b:Kd:=.l)
def Fu(K:Ap)(N:Fb)(H0 H':Hp):Rv->V->Prop
 |.val d,v=>Ax K N H' d v
 |.own c b,v=>∃a e,v=.ref a/\H0 a=J/\H' a=Z (CO K b a c e)/\Ad K (λb=>N b\/b=a) H' c e
def Bb(K:Ap)(F:U Sl->O Rv):Sp:=λd H Q _=>∃N c r,(∀a,N a->H a≠J)/\BN K N H c d/\F c=Z r/\∀v b,Ak H b->Fu K N H b r v->Q v b
@[simp]def Fv:Rv->D
  |.val d=>d
  |.own a b=>.lst a b
@[simp]def L9:Rv->A8
  |.own a=>Z a
  |_=>J
@[simp]def Ta:Rv->A8
  |.own a .d=>Z a
  |_=>J
section
variable{K:Ap}{M:Fb}{e:Expr}{F:U Sl->O Rv}{k:Nat}{fn:Ac}{fd:Cr}{x:Af}{p:AC}{E:XK}
@[simp]def Zi(F:U Sl->O Rv)(fa:DB):AH:=λa=>(fa a).bind λb=>(F b).map Fv
@[simp]def Fw(F:U Sl->O Rv)(fa:DB):VE->A8:=λa=>(fa a).bind λb=>(F b).bind L9
theorem pu{H:Hp}{Q:VK}(h:tD K M H0 (Zi F fa) I H Q):Pq (Bb K F) [] E (Dv K M H0 fa) I H Q:=by
 let(f,d,R,e,q):=h;let(g,j,e):=Cc.mp e;let(r,k,e):=B8.mp e;cases e;apply#[f,g,R,j,λx y c l=>#[Nf M f I,g,r,(R.st c).nh,by rw[D1];show l,k,λv m n i=>q v m (c.trans n) ?_]];cases r with|val d=>show i|own A B=>
  let(a,o,p,s,t,u):=i;show#[a,o,p,.of (λz=>(R.st c).fresh s z) t,u.nw λb w=>.inl<|.inl w]
@[simp]def JH(F:U Sl->O Rv)(fa:DB):VE->A8:=λa=>(fa a).bind λb=>(F b).bind Ta
theorem pv{H:Hp}{Q:VK}(h:Fa .d K M H0 (JH F fa) I H Q):Pq (Bb K F) [] E (Dv K M H0 fa) I H Q:=by
 let(g,d,R,e,q):=h;let(b,j,e):=Cc.mp e;cases c:F b with|none=>erw[Df,c]at e;cases e|some r=>
  erw[Df,c]at e;cases r with|val d=>cases e|own x k=>
   cases k with
   |l=>cases e
   |i _ _=>cases e
   |d=>
    cases e;apply#[g,b,R,j,λy z f m=>#[Nf M g I,b,_,(R.st f).nh,by rw[D1];show m,c,λv n o p=>?_]];let(a,s,rfl,t,u,w):=p;show q a s n (f.trans o) (f.free t) u w
theorem px{H:Hp}{Q:VK}(h:tF K M H0 (Fw F fa) I H Q):Pq (Bb K F) [] E (Dv K M H0 fa) I H Q:=by
 let(g,d,R,e,q):=h;let(b,j,e):=Cc.mp e;cases c:F b with|none=>erw[Df,c]at e;cases e|some r=>
  erw[Df,c]at e;cases r with|val d=>cases e|own x k=>
   cases k with
   |d=>cases e
   |i _ _=>cases e
   |l=>
    cases e;apply#[g,b,R,j,λy z f m=>#[Nf M g I,b,_,(R.st f).nh,by rw[D1];show m,c,λv n o p=>?_]];let(a,s,rfl,t,u,w):=p;show q a s n (f.trans o) (f.free t) u w
theorem py(G:A3 X.prog X.w X.K X.mg X.base CX k fn fd ps (Bb K F))(b:AM k X.A)(c:Gl X x)(f:X.mg x=Z (.ref fn))(g:IB X.K (.ref fn)=J')(i:Binds X.K fd ps [])(j:Fn CX X E)(a:JA X (e::es) (Dv K M H0 fa))(hz:CA X x e es pos:=by show F4):JE X (.Call (.Name x p) (e::es) [] pos) (tD K M H0 (Zi F fa)):=#[have a:=a.h;(Pr G b c f g i .nil j a hz.d hz.s hz.p).mono λ_ _ _ h=>pu h]
theorem pz(G:A3 X.prog X.w X.K X.mg X.base CX k fn fd ps (Bb K F))(b:AM k X.A)(c:Gl X x)(f:X.mg x=Z (.ref fn))(g:IB X.K (.ref fn)=J')(i:Binds X.K fd ps [])(j:Fn CX X E)(a:JA X (e::es) (Dv K M H0 fa))(hz:CA X x e es pos:=by show F4):JE X (.Call (.Name x p) (e::es) [] pos) (tF K M H0 (Fw F fa)):=#[have a:=a.h;(Pr G b c f g i .nil j a hz.d hz.s hz.p).mono λ_ _ _ h=>px h]
end
def Gn(K:Ap)(r:U V->Hp->VK->Prop)(F:Ed):Prop:=∀(N:Fb)(H:Hp)(c:U V)(e:U D)(d:D)(Q:VK),(∀a,N a->H a≠J)->Paired (Ay K N H) e c->F e=Z d ->
 (∀v b,Ak H b->Ax K N b d v->Q v b)->r c H Q
def PF(K:Ap)(r:U V->Hp->VK->Prop)(F:U D->A8):Prop:=∀(N:Fb)(H:Hp)(b:U V)(c:U D)(d:U D)(Q:VK),(∀a,N a->H a≠J)->Paired (Ay K N H) c b->F c=Z d ->
 (∀e p,H p=J->Ad K N H d e->Q (.ref p) (AI H p (.lst e)))->r b H Q
@[simp]def Ho:U Sl->A8
  |[]=>Z []
  |s::r=>Zr (pk s) (Ho r)
theorem PH{K:Ap}{N:Fb}{H:Hp}:∀{ss:U Sl}{vs:U V}{a:U D},BN K N H ss vs->Ho ss=Z a->Paired (Ay K N H) a vs
 |[],_,_,h,e=>by cases e;cases h;show .nil
 |s::r,_,_,⟨v,t,b,h,c⟩,e=>by
  let(x,y,d,f,g):=HW e;subst b g;show .cons (h.p d)<|PH c f
section
variable{K:Ap}{M:Fb}{e:Expr}{x:Af}{p:AC}{r:U V->Hp->VK->Prop}{F:Ed}{G:U D->A8}{id:String}
@[simp]def Zk(F:Ed)(fa:DB):AH:=λa=>((fa a).bind Ho).bind F
@[simp]def F5(F:U D->A8)(fa:DB):VE->A8:=λa=>((fa a).bind Ho).bind F
theorem Yq(f:Gn K r F){H:Hp}{Q:VK}(h:tD K M H0 (Zk F fa) I H Q):Ps r (Dv K M H0 fa) I H Q:=by
 let(a,d,R,e,q):=h;unfold Zk at e;cases b:fa a with|none=>rw[b]at e;cases e|some g=>
  rw[b]at e;let(i,j,e):=Cc.mp e;show#[a,g,R,b,λk l c m=>f (Nf M a I) l k i d Q (R.st c).nh (PH m j) e λv n s o=>q v n (c.trans s) o]
theorem pA(g:PF K r G){H:Hp}{Q:VK}(h:tF K M H0 (F5 G fa) I H Q):Ps r (Dv K M H0 fa) I H Q:=by
 let(a,d,R,e,q):=h;unfold F5 at e;cases b:fa a with|none=>rw[b]at e;cases e|some i=>
  rw[b]at e;let(j,c,e):=Cc.mp e;show#[a,i,R,b,λk l f m=>g (Nf M a I) l k j d Q (R.st f).nh (PH m c) e λo p c n=>NF f c n q]
theorem GJ(b:ES X (.builtin id) r)(c:Gn K r F)(f:Gl X x)(g:X.mg x=J)(i:E4 x=Z (.builtin id))(a:JA X (e::es) (Dv K M H0 fa))(j:x≠"__name__":=by ext)(hz:CA X x e es pos:=by show F4):JE X (.Call (.Name x p) (e::es) [] pos) (tD K M H0 (Zk F fa)):=#[have a:=a.h;(nz b f g i a j hz.d hz.s hz.p).mono λ_ _ _ h=>Yq c h]
theorem Yr(b:ES X (.type id) r)(c:Gn K r F)(f:Gl X x)(g:X.mg x=J)(i:E4 x=Z (.type id))(a:JA X (e::es) (Dv K M H0 fa))(j:x≠"__name__":=by ext)(hz:CA X x e es pos:=by show F4):JE X (.Call (.Name x p) (e::es) [] pos) (tD K M H0 (Zk F fa)):=#[have a:=a.h;(XP b f g i a j hz.d hz.s hz.p).mono λ_ _ _ h=>Yq c h]
theorem Ys(b:ES X (.type id) r)(c:PF K r G)(f:Gl X x)(g:X.mg x=J)(i:E4 x=Z (.type id))(a:JA X (e::es) (Dv K M H0 fa))(j:x≠"__name__":=by ext)(hz:CA X x e es pos:=by show F4):JE X (.Call (.Name x p) (e::es) [] pos) (tF K M H0 (F5 G fa)):=#[have a:=a.h;(XP b f g i a j hz.d hz.s hz.p).mono λ_ _ _ h=>pA c h]
end
inductive Dg where
 |fail|next(ρ:VE)|brk (ρ:VE)|cont (ρ:VE)|ret (r:Rv)
abbrev AA:=VE->Dg
def Hq(K:Ap)(M:Fb)(H0:Hp)(ρ:VE)(I:St)(H:Hp)(b:VE)(Q:St->Hp->Prop):Prop:=∀a c,Bh K M H0 b a c->Step M (Nf M ρ I) (Nf M b a) H c->Q a c
def A6(K:Ap)(M:Fb)(H0:Hp)(ρ:VE)(I:St)(H:Hp)(D:Ends):Dg->Prop
 |.fail=>False
 |.next a=>Hq K M H0 ρ I H a D.nx
 |.brk a=>Hq K M H0 ρ I H a D.bk
 |.cont a=>Hq K M H0 ρ I H a D.ct
 |.ret r=>∀v b,Ak H0 b->Fu K M H0 b r v->D.rt v b
def tS(K:Ap)(M:Fb)(H0:Hp)(g:AA):TS:=λD b H=>∃a,Bh K M H0 a b H/\A6 K M H0 a b H D (g a)
@[simp]def Ze(a:Dg)(g:AA):Dg:=match a with
  |.next b=>g b
  |r=>r
theorem Hq.from{K:Ap}{M:Fb}{a b:VE}{c:St}{H e:Hp}{Q:St->Hp->Prop}(s:Step M (Nf M ρ I) (Nf M a c) H e)(h:Hq K M H0 ρ I H b Q):Hq K M H0 a c e b Q:=λd f R g=>h d f R<|s.trans g
theorem A6.from{K:Ap}{M:Fb}{a:VE}{b:St}{H d:Hp}{D:Ends}{r:Dg}(s:Step M (Nf M ρ I) (Nf M a b) H d)(h:A6 K M H0 ρ I H D r):A6 K M H0 a b d D r:=by
 cases r with
 |fail=>show h
 |next c=>show Hq.from s h
 |brk c=>show Hq.from s h
 |cont c=>show Hq.from s h
 |ret r=>show h
section
variable{K:Ap}{M:Fb}{st:AG}{AX:U AG}{g g1 g2:AA}{e:Expr}{f:AH}
theorem pB :JB X [] (tS K M H0 λρ=>.next ρ):=#[Er.mono λD a H ⟨ρ,R,q⟩=>q a H R Step.refl]
theorem Yt(c:JS X st (tS K M H0 g1))(d:JB X AX (tS K M H0 g2)):JB X (st::AX) (tS K M H0 λρ=>Ze (g1 ρ) g2):=#[have c:=c.h;let d:=d.h;(So c d).mono λD j H e=>by
 let(ρ,R,q):=e;try dsimp only at q
 apply#[ρ,R,?_];cases b:g1 ρ with
 |fail=>rw[b]at q;show q
 |next a=>rw[b]at q;show λf k g i=>#[a,g,q.from i]
 |brk a=>rw[b]at q;show q
 |cont a=>rw[b]at q;show q
 |ret r=>rw[b]at q;show q]
@[simp]def Zx(o:O D):Dg:=match o with
  |some d=>.ret (.val d)
  |none=>.fail
theorem pC(h:JE X e (tD K M H0 f)):JS X (.Return (Z e) pos) (tS K M H0 λρ=>Zx (f ρ)):=#[have h:=h.h;(Pf h).mono λD k H c=>by
 let(ρ,R,q):=c;try dsimp only at q
 cases b:f ρ with|none=>rw[b]at q;show BL q|some d=>
  rw[b]at q;show#[ρ,d,R,b,λv g s i=>q v g (R.same.trans s)<|i.nw λa j=>.inl<|.inl j]]
@[simp]def Dh(o:A8):Dg:=match o with
  |some a=>.ret (.own a)
  |none=>.fail
@[simp]def JJ(o:A8):Dg:=match o with
  |some a=>.ret (.own a .d)
  |none=>.fail
theorem Yu{k:Kd}{f:VE->A8}{r:A8->Dg}(g:r J=.fail)(i:∀xs,r (Z xs)=.ret (.own xs k))(h:PE X e (Fa k K M H0 f)):PS X (.Return (Z e) pos) (tS K M H0 λρ=>r (f ρ)):=(Pf h).mono λD t H j=>by
 let(ρ,R,q):=j;try dsimp only at q
 cases d:f ρ with|none=>rw[d,g]at q;show BL q|some xs=>
  rw[d,i]at q;show#[ρ,xs,R,d,λa l m s n o p=>q (.ref a) m (R.same.trans s) #[a,l,rfl,R.same.free n,o,p.nw λb c=>by
   rcases c with c|c
   .show .inl<|.inl<|.inl c
   .show .inl<|.inr c]]
theorem pD{f:VE->A8}(h:JE X e (Fa .d K M H0 f)):JS X (.Return (Z e) pos) (tS K M H0 λρ=>JJ (f ρ)):=#[Yu rfl (λ_=>rfl) h.h]
theorem pE{f:VE->A8}(h:JE X e (tF K M H0 f)):JS X (.Return (Z e) pos) (tS K M H0 λρ=>Dh (f ρ)):=#[Yu rfl (λ_=>rfl) h.h]
@[simp]def D3(ρ:VE)(i:Nat):A8:=match ρ[i]? with
  |some (.own a)=>Z a
  |_=>J
theorem Ma{i:Nat}(h:D3 ρ i=Z xs):ρ[i]?=Z (.own xs):=by grind [D3]
@[simp]def GK(ρ:VE)(i:Nat):A8:=match ρ[i]? with
  |some (.own a .d)=>Z a
  |_=>J
theorem NG{i:Nat}(h:GK ρ i=Z xs):ρ[i]?=Z (.own xs .d):=by grind [GK]
theorem ZJ{i:Nat}{v:V}(a:I[i]?.join=Z v):I[i]?=Z (Z v):=by
 grind
theorem Yv{k:Kd}{f:VE->Nat->A8}{r:A8->Dg}(j:r J=.fail)(l:∀xs,r (Z xs)=.ret (.own xs k))(g:∀{ρ i xs},f ρ i=Z xs->ρ[i]?=Z (.own xs k)){i:Nat}{x:Af}{c:AC}(m:NV X i x):PS X (.Return (Z (.Name x c)) pos) (tS K M H0 λρ=>r (f ρ i)):=(Pf<|FZ m).mono λD u H n=>by
 let(ρ,R,q):=n;try dsimp only at q
 cases e:f ρ i with|none=>rw[e,j]at q;show BL q|some xs=>
  rw[e,l]at q;let(a,o,h,(p,_),v,s,t):=R.slot i _<|g e;apply⟨.ref a,ZJ h,q (.ref a) H R.same ⟨a,o,rfl,p,s,t.nw λb d=>.inl ?_⟩⟩;rcases d with d|d
  .show .inl d
  .subst d;show .inr #[i,xs,_,_,g e,ZJ h]
@[simp]def ZM(c:O Bool)(a b:Dg):Dg:=match c with
  |some J'=>a
  |some O'=>b
  |none=>.fail
theorem pF{c:Expr}{a b:U AG}{t:VE->O Bool}(d:JT X c (BX K M H0 t))(e:JB X a (tS K M H0 g1))(f:JB X b (tS K M H0 g2)):JS X (.If c a b pos) (tS K M H0 λρ=>ZM (t ρ) (g1 ρ) (g2 ρ)):=#[have d:=d.h;let e:=e.h;let f:=f.h;(Sq d e f).mono λD j H i=>by
 let(ρ,R,q):=i;try dsimp only at q
 cases g:t ρ with|none=>rw[g]at q;show BL q|some k=>
  rw[g]at q;apply#[ρ,k,R,g,λl s=>?_];cases k with
  |true=>apply KP ?_;show#[ρ,R.st s,A6.from (Step.of_same s) q]
  |false=>apply KQ ?_;show#[ρ,R.st s,A6.from (Step.of_same s) q]]
theorem JL{a:Type}{l:U a}{i:Nat}{x y:a}(h:(l.set i x)[i]?=Z y):i<l.length/\x=y:=by
 grind
theorem NH{M:Fb}{i:Nat}{s:Sl}{v:V}{b:Ac}(f:ρ.length=I.length)(h:Nf M (ρ.set i s) (I.set i (Z v)) b):Nf M ρ I b\/∃xs fl a,s=.own xs fl a/\v=.ref b:=by
 rcases h with h|⟨j,xs,fl,a,c,d⟩
 .show .inl<|.inl h
 .by_cases e:i=j
  .subst e;cases((JL c).2);cases((JL d).2);show .inr #[xs,fl,a,rfl,rfl]
  .rw[Dy e]at c d;show .inl<|.inr ⟨j,xs,fl,a,c,d⟩
theorem Bh.put{H:Hp}{i:Nat}{s:Sl}{v:V}(R:Bh K M H0 ρ I H)(S:Step M (Nf M ρ I) (Nf M (ρ.set i s) (I.set i (Z v))) H H')(sm:Ak H0 H') (E:∀j a vs xs fl m,j≠i->ρ[j]?=Z (.own xs fl m)->I[j]?=Z (Z (.ref a))->H a=Z (CO K fl a xs vs)->H' a=Z (CO K fl a xs vs)) (G:i<ρ.length->SY K M (Nf M (ρ.set i s) (I.set i (Z v))) H0 H' s (Z v)) (n:∀xs fl m a j ys b f,s=.own xs fl m->v=.ref a->j≠i->ρ[j]?=Z (.own ys b f)->I[j]?≠Z (Z (.ref a))):Bh K M H0 (ρ.set i s) (I.set i (Z v)) H' where
 len:=by rw[Jw,Jw];show R.len
 same:=sm;mh:=λa h z=>by
  cases e:H a with
  |none=>show R.mh a h e
  |some o=>rw[S.kp a o e<|.inr<|.inl h]at z;cases z
 slot:=λj A e=>by
  by_cases t:i=j
  .subst t;let(B,e):=JL e;subst e;rw[ER<|R.len ▸ B];show G B
  .rw[Dy t]at e ⊢;let q:=R.slot j A e;cases A with
   |no=>trivial
   |val d=>let(u,p,h):=q;show#[u,p,Ax.step S d u h]
   |own xs fl m=>let(a,vs,p,g,l,r,w):=q;show#[a,vs,p,g,l,E j a vs xs fl m (Bz t) e (ZJ p) r,Ad.step S xs vs w]
   |lent xs fl=>let(a,vs,p,g,l,r):=q;show#[a,vs,p,g,l.step S<|.inr<|.inl g.1,Ad.step S xs vs r]
   |exc c=>let(a,C,p,g,l):=q;show#[a,C,p,g,S.kp _ _ l<|.inr<|.inr rfl]
 inj:=λj k xs ys fl b m f a g l r w=>by
  by_cases y:i=j
  .by_cases x:i=k
   .rw[<- y,x]
   .subst y;rw[Dy x]at l w;cases((JL g).2);cases((JL r).2);show absurd w<|n xs fl m a k ys b f rfl rfl (Bz x) l
  .rw[Dy y]at g r;by_cases x:i=k
   .subst x;cases((JL l).2);cases((JL w).2);show absurd r<|n ys b f a j xs fl m rfl rfl (Bz y) g
   .rw[Dy x]at l w;show R.inj j k xs ys fl b m f a g l r w
theorem Bh.setV{H:Hp}{i:Nat}{d:D}{v:V}(R:Bh K M H0 ρ I H)(s:Ak H H')(h:Ax K (Nf M ρ I) H' d v):Bh K M H0 (ρ.set i (.val d)) (I.set i (Z v)) H'/\Step M (Nf M ρ I) (Nf M (ρ.set i (.val d)) (I.set i (Z v))) H H':=by
 let S:Step M (Nf M ρ I) (Nf M (ρ.set i<|.val d)<|I.set i<|some v) H H':=#[λa o e _=>s a o e,λb c=>by
  rcases NH R.len c with q|⟨f,_,_,e,_⟩
  .show .inl q
  .cases e]
 apply#[R.put S (R.same.trans s) (λj a l f g _ _ _ _ e=>s _ _ e) (λ_=>#[v,rfl,h.nw λb c=>?_]) (λf g _ a j m k _ e=>nomatch e),S];rcases NH R.len c with q|⟨f,_,_,e,_⟩
 .show .inl q
 .cases e
theorem Bh.setO{H:Hp}{i:Nat}(R:Bh K M H0 ρ I H)(s:Ak H H')(d:H a=J)(l:H' a=Z (CO K fl a xs vs))(h:Ad K (λb=>Nf M ρ I b\/b=a) H' xs vs):Bh K M H0 (ρ.set i (.own xs fl)) (I.set i (Z (.ref a))) H'/\Step M (Nf M ρ I) (Nf M (ρ.set i (.own xs fl)) (I.set i (Z (.ref a)))) H H':=by
 let nf:∀b,Nf M (ρ.set i<|.own xs fl) (I.set i<|some<|.ref a) b->Nf M ρ I b\/b=a:=λb c=>by
  rcases NH R.len c with q|⟨xs,fl,_,e,f⟩
  .show .inl q
  .cases f;show .inr rfl
 let S:Step M (Nf M ρ I) (Nf M (ρ.set i<|.own xs fl)<|I.set i<|some<|.ref a) H H':=#[λa o e _=>s a o e,λb c=>by
  grind]
 apply#[R.put S (R.same.trans s) (λj a vs xs fl _ _ _ _ e=>s _ _ e) (λ_=>#[a,vs,rfl,#[R.same.free d,λ_ z=>nomatch z],λm=>R.fresh d<|.inl m,l,h.nw λb c=>.inl<|nf b c]) (λn p _ v j r g k e f w t u=>?_),S];cases f;show R.fresh d<|.inr ⟨j,r,g,k,t,u⟩
theorem Bh.chg{fl2:Kd}{c:O Ac}{H:Hp}{i:Nat}{ys:U D}{ws:U V}(R:Bh K M H0 ρ I H)(m:ρ[i]?=Z (.own xs fl c))(g:I[i]?=Z (Z (.ref a)))(h:Ad K (Nf M ρ I) H ys ws):Bh K M H0 (ρ.set i (.own ys fl2 c)) I (AI H a (CO K fl2 a ys ws))/\Step M (Nf M ρ I) (Nf M (ρ.set i (.own ys fl2 c)) I) H (AI H a (CO K fl2 a ys ws)):=by
 let(B,L,w,(x,C),y,E,N):=R.slot i _ m;rw[g]at w;let G:a=B:=by exists w
 subst G;let n:I.set i (Z<|.ref a)=I:=by
  apply(IG);intro j;by_cases e:i=j
  .subst e;rw[ER (Cm.mp g).1,g]
  .rw[Dy e]
 let A:Nf M ρ I a:=.inr #[i,xs,fl,c,m,g];let nf:∀b,Nf M (ρ.set i<|.own ys fl2 c) (I.set i<|some<|.ref a) b->Nf M ρ I b:=λb p=>by
  rcases NH R.len p with q|⟨xs,_,_,e,r⟩
  .show q
  .cases r;show A
 let S:Step M (Nf M ρ I) (Nf M (ρ.set i<|.own ys fl2 c)<|I.set i<|some<|.ref a) H (AI H a<|CO K fl2 a ys ws):=#[λb o e z=>by
   let ne:b≠a:=by
    rintro rfl;rcases z with z|z|z
    .show z A
    .show y z
    .rw[E]at e;cases e;rw[Yi]at z;cases z
   rw[Zl ne];show e,λb p=>.inl<|nf b p]
 let k:Bh K M H0 (ρ.set i<|.own ys fl2 c) (I.set i<|some<|.ref a) (AI H a<|CO K fl2 a ys ws):=by
  apply R.put S (λb o e=>?_) (λj b P l d f s t u Q=>?_) (λ_=>#[a,ws,rfl,#[x,C],y,ZN,Ad.step S ys ws h]) (λl F _ b j v d f e r s t u=>?_)
  .let ne:b≠a:=by
    rintro rfl;rw[x]at e;cases e
   rw[Zl ne];show R.same b o e
  .let ne:b≠a:=by
    rintro rfl;show s<|R.inj j i l xs d fl f c b t m u g
   rw[Zl ne];show Q
  .cases r;show s<|R.inj j i v xs d fl f c _ t m u g
 rw[n]at k S;show#[k,S]
theorem Bh.frz{o:O Ac}{H:Hp}{i:Nat}(R:Bh K M H0 ρ I H)(l:ρ[i]?=Z (.own xs fl o)):Bh K M H0 (ρ.set i (.val (.lst xs fl))) I H/\Step M (Nf M ρ I) (Nf M (ρ.set i (.val (.lst xs fl))) I) H H:=by
 let(a,m,p,z,r,s,t):=R.slot i _ l;let d:I.set i (Z<|.ref a)=I:=by
  apply(IG);grind
 let nf:∀b,Nf M (ρ.set i<|.val<|.lst xs fl) (I.set i<|some<|.ref a) b->Nf M ρ I b:=λb f=>by
  rcases NH R.len f with q|⟨xs,_,_,e,A⟩
  .show q
  .cases e
 let g:¬ Nf M (ρ.set i<|.val<|.lst xs fl) (I.set i<|some<|.ref a) a:=by
  rintro(h|⟨j,u,v,w,k,n⟩)
  .show r h
  .by_cases e:i=j
   .subst e;cases((JL k).2)
   .rw[Dy e]at k n;show e<|R.inj i j xs u _ _ _ _ a l k (ZJ p) n
 let S:Step M (Nf M ρ I) (Nf M (ρ.set i<|.val<|.lst xs fl)<|I.set i<|some<|.ref a) H H:=#[λ_ _ e _=>e,λb f=>.inl<|nf b f];let c:Bh K M H0 (ρ.set i<|.val<|.lst xs fl) (I.set i<|some<|.ref a) H:=by
  show R.put S R.same (λ_ _ _ _ _ _ _ _ _ h=>h) (λ_=>#[.ref a,rfl,#[a,m,rfl,.of g s,Ad.step S xs m t]]) (λx _ _ b j y _ _ e=>nomatch e)
 rw[d]at c S;show#[c,S]
@[simp]def Z5(i:Nat)(o:O D)(ρ:VE):Dg:=match o with
  |some d=>.next (ρ.set i (.val d))
  |none=>.fail
@[simp]def Z0(i:Nat)(o:A8)(ρ:VE):Dg:=match o with
  |some a=>.next (ρ.set i (.own a))
  |none=>.fail
@[simp]def F6(i:Nat)(o:A8)(ρ:VE):Dg:=match o with
  |some a=>.next (ρ.set i (.own a .d))
  |none=>.fail
theorem pG{f:VE->A8}{i:Nat}{H:Hp}(h:tS K M H0 (λρ=>F6 i (f ρ) ρ) D' I H):LH (Fa .d K M H0 f) (Ku i) D' I H:=by
 let(ρ,R,q):=h;cases b:f ρ with|none=>erw[b,F6]at q;show BL q|some d=>
  erw[b,F6]at q;apply#[ρ,d,R,b,λa l m s c e g=>?_];let(j,k):=R.setO (i:=i) s c e g;show q _ _ j k
theorem pH{f:VE->A8}{i:Nat}{x:Af}{a:AC}(c:X.N.Nodup)(g:X.N[i]?=Z x)(j:Loc X.env.scope x)(b:JE X e (Fa .d K M H0 f))(k:DW e (Z (.Name x a)) pos.line X.env=Al O':=by rfl)(l:X.fn x=J'\/X.env.scope.names.lookup x=Z .local:=by first|show .inl rfl|show .inr rfl|assumption):JS X (.Assign [.Name x a] e pos) (tS K M H0 λρ=>F6 i (f ρ) ρ):=#[have b:=b.h;(Pk c g j b k l).mono λ_ _ _ q=>pG q]
theorem Yw{i:Nat}{H:Hp}(h:tS K M H0 (λρ=>Z5 i (f ρ) ρ) D' I H):LH (tD K M H0 f) (Ku i) D' I H:=by
 let(ρ,R,q):=h;cases a:f ρ with|none=>erw[a,Z5]at q;show BL q|some d=>
  erw[a,Z5]at q;apply#[ρ,d,R,a,λv g s b=>?_];let(c,e):=R.setV (i:=i) s b;show q _ _ c e
theorem Tb{f:VE->A8}{i:Nat}{H:Hp}(h:tS K M H0 (λρ=>Z0 i (f ρ) ρ) D' I H):LH (tF K M H0 f) (Ku i) D' I H:=by
 let(ρ,R,q):=h;cases b:f ρ with|none=>erw[b,Z0]at q;show BL q|some d=>
  erw[b,Z0]at q;apply#[ρ,d,R,b,λa l m s c e g=>?_];let(j,k):=R.setO (i:=i) s c e g;show q _ _ j k
theorem pI{i:Nat}{x:Af}{a:AC}(c:X.N.Nodup)(d:X.N[i]?=Z x)(g:Loc X.env.scope x)(b:JE X e (tD K M H0 f))(j:DW e (Z (.Name x a)) pos.line X.env=Al O':=by rfl)(k:X.fn x=J'\/X.env.scope.names.lookup x=Z .local:=by first|show .inl rfl|show .inr rfl|assumption):JS X (.Assign [.Name x a] e pos) (tS K M H0 λρ=>Z5 i (f ρ) ρ):=#[have b:=b.h;(Pk c d g b j k).mono λ_ _ _ q=>Yw q]
theorem pJ{f:VE->A8}{i:Nat}{x:Af}{a:AC}(c:X.N.Nodup)(d:X.N[i]?=Z x)(g:Loc X.env.scope x)(b:JE X e (tF K M H0 f))(j:DW e (Z (.Name x a)) pos.line X.env=Al O':=by rfl)(k:X.fn x=J'\/X.env.scope.names.lookup x=Z .local:=by first|show .inl rfl|show .inr rfl|assumption):JS X (.Assign [.Name x a] e pos) (tS K M H0 λρ=>Z0 i (f ρ) ρ):=#[have b:=b.h;(Pk c d g b j k).mono λ_ _ _ q=>Tb q]
@[simp]def JM(i:Nat)(ρ:VE):VE:=match ρ[i]? with
  |some (.own a b _)=>ρ.set i (.val (.lst a b))
  |_=>ρ
open J in
theorem pK(i:Nat)(h:JS X st (tS K M H0 g)):JS X st (tS K M H0 λρ=>g (JM i ρ)):=#[have h:=h.h;h.mono λe f H a=>by
 let(ρ,R,q):=a;try dsimp only at q
 unfold JM at q;split at q
 .next j b=>
  let(c,d):=R.frz b;show#[_,c,q.from d]
 .show#[ρ,R,q]]
@[simp]def Gp(i:Nat)(o:O D)(ρ:VE):Dg:=match ρ[i]?,o with
  |some (.own a .l b),Z d=>if a.length<AB then .next (ρ.set i (.own (a++[d]) .l b))else .fail
  |_,_=>.fail
open J in
theorem pL{i:Nat}{x:Af}{c:AC}(r:NV X i x)(g:JE X e (tD K M H0 f))(t:DW (.Call (.Attribute (.Name x c) "append" apos) [e] [] cpos) J pos.line X.env=Al O':=by rfl)(hz:BA X x c "append" apos e cpos:=by show Yo):JS X (.Expr (.Call (.Attribute (.Name x c) "append" apos) [e] [] cpos) pos) (tS K M H0 λρ=>Gp i (f ρ) ρ):=#[have g:=g.h;(Nm (HR Mb Yx Yy SM (FZ r) (Z4 g Bf hz.s) hz.b hz.f hz.l hz.s hz.p) t).mono λC E H u=>by
  let(ρ,R,q):=u;try dsimp only at q
  unfold Gp at q;split at q
  .next w G d k y=>
   split at q
   .next hz=>
    let(a,j,m,F,B,n,o):=R.slot i _ k;apply#[.ref a,(ZJ m),.inl #[rfl,j,.inl<|.inl n],ρ,d,R,y,λv L s z=>?_];let(R2,A):=(R.st s).chg (ys:=w++[d]) (ws:=j++[v]) (fl2:=.l) k (ZJ m) ((o.same s).append<|Ad.cons z Ad.nil);show⟨a,j,v,rfl,rfl,s _ _ n,o.length ▸ hz,q _ _ R2<|(Step.of_same s).trans A⟩
   .show BL q
  .show BL q]
end
def Mc(K:Ap)(M N:Fb)(f:Hp)(g:It)(c:U D):Prop:=∀e a,Step M N e f a->∀i,(∀d,c[i]?=Z d->g.go i a/\∀x b,g.yld i a x b->Ak a b/\Ax K e b d x)/\(i=c.length->g.stop i a)
def tI(K:Ap)(M:Fb)(H0:Hp)(f:VE->A8):TI:=λc H R=>∃a d,Bh K M H0 a c H/\f a=Z d/\∀e b,Ak H b->Mc K M (Nf M a c) b e d->R e b
def tG(K:Ap)(M:Fb)(H0:Hp)(ws:U Nat)(b:D->VE->O VE):TG:=λv e H Q=>∃f d c,Bh K M H0 f e H/\Ax K (Nf M f e) H d v/\b d f=Z c/\∀a ,Bh K M H0 c a H->Step M (Nf M f e) (Nf M c a) H H->(∀j,j∉ws->a[j]?=e[j]?)->Q a H
@[simp]def Zc(i:Nat)(d:D)(ρ:VE):O VE:=Z (ρ.set i (.val d))
def ZK(b:D->VE->O VE)(g:AA):U D->AA
 |[],c=>.next c
 |d::f,c=>match b d c with
  |none=>.fail
  |some e=>match g e with
   |.next a=>ZK b g f a
   |.cont a=>ZK b g f a
   |.brk a=>.next a
   |r=>r
@[simp]def ZU(f:VE->A8)(b:D->VE->O VE)(g:AA):AA:=λa=>match f a with
  |some c=>ZK b g c a
  |none=>.fail
section
variable{K:Ap}{M:Fb}{e:Expr}{f:VE->A8}{b:D->VE->O VE}{g:AA}{body:U AG}
theorem pM{i:Nat}{x:Af}(b:X.N.Nodup)(c:X.N[i]?=Z x)(f:Loc X.env.scope x)(g:X.fn x=J'\/X.env.scope.names.lookup x=Z .local:=by first|show .inl rfl|show .inr rfl|assumption):JG X (.Name x pos) (tG K M H0 [i] (Zc i)):=#[by
 intro a s h H v u Q p r #[o,d,k,R,hd,e,q];cases e;let(l,m):=R.setV (i:=i) (Ak.refl H) hd;show Xi b c f g a s h H v u Q p r (q _ l m λj n=>by rw[Dy<|λe=>n (by rw[e];simp)])]
theorem Yz{H:Hp}{tg':TG}{tb:TS}(hi:∀I H R,tI K M H0 f I H R->wi I H R)(hg:∀v I H Q,tG K M H0 ws b v I H Q->tg' v I H Q)(hb:∀D I H,tS K M H0 g D I H->tb D I H) (h:tS K M H0 (ZU f b g) D' I H):Xp wi tg' tb D' I H:=by
 let(B,R,q):=h;unfold ZU at q;cases C:f B with|none=>rw[C]at q;show BL q|some d=>
  rw[C]at q;apply hi _ _ _ #[B,d,R,C,λF P T ok=>?_];apply#[λi m e A=>m=d.length-i/\i<=d.length/\∃a,Bh K M H0 a e A/\Step M (Nf M B I) (Nf M a e) P A/\A6 K M H0 a e A D' (ZK b g (d.drop i) a),#[d.length,by simp,ET _,B,R.st T,Step.refl,?_],?_]
  .show A6.from (Step.of_same T) q
  .intro i m e A zQ;let(rfl,hle,a,S,E,c):=zQ;let(G,W):=ok _ _ E i;by_cases l:i<d.length
   .let(go,y):=G d[i]<|Ch l;rw[HV l]at c;erw[ZK]at c;apply .inr ⟨go,λn s=>i+1<=d.length/\∃a,Bh K M H0 a n s/\Step M (Nf M B I) (Nf M a n) P s/\A6 K M H0 a n s D' (ZK b g (d.drop<|i+1) a),λn s z=>⟨d.length-(i+1),∅,rfl,z⟩,λx s yl=>?_⟩;let(Y,hd):=y x s yl;cases t:b d[i] a with|none=>rw[t]at c;show BL c|some o=>
     rw[t]at c;simp only at c;apply hg _ _ _ _ #[a,d[i],o,S.st Y,hd,t,λL R1 S1 _=>hb _ _ _ #[o,R1,?_]];let j:Step M (Nf M a e) (Nf M o L) A s:=(Step.of_same Y).trans S1;cases k:g o with
     |fail=>rw[k]at c;show c
     |next p=>rw[k]at c;show λu N R2 w=>#[l,p,R2,E.trans<|j.trans w,A6.from (j.trans w) c]
     |cont p=>rw[k]at c;show λu N R2 w=>#[l,p,R2,E.trans<|j.trans w,A6.from (j.trans w) c]
     |brk p=>rw[k]at c;show λu N R2 w=>c u N R2<|j.trans w
     |ret r=>rw[k]at c;show c
   .rw[L0 ∅]at c;show .inl #[W (show i=d.length by lia),c e A S Step.refl]
theorem pN(e:PassesOwn (Ae X.prog X.w) X.A X.env X.xe)(i:X.calm=J')(a:JI X tg iter (tI K M H0 f))(c:JG X tg (tG K M H0 ws b))(d:JB X body (tS K M H0 g))(j:∀x,EF iter X.env x=Al x:=by intro _;rfl):JS X (.For tg iter body [] pos) (tS K M H0 (ZU f b g)):=#[have a:=a.h;let c:=c.h;let d:=d.h;(Pn e i a c d j).mono λ_ _ _ q=>Yz (λ_ _ _ z=>z) (λ_ _ _ _ z=>z) (λ_ _ _ z=>z) q]
theorem PI.mono{a:TI}(h:PI X tg iter wi)(m:∀I H R,a I H R->wi I H R):PI X tg iter a:=λb s I H R c q=>h b s I H R c<|m I H R q
def PJ(K:Ap)(M N:Fb)(H:Hp)(d:D)(v:V):Prop:=match d with
 |.lst e=>∃a c,v=.ref a/\(((¬ N a\/M a)/\Rd H a (.lst c))\/KL K a c)/\Ad K N H e c
 |.lst e b=>∃a c,v=.ref a/\(¬ N a\/M a)/\Rd H a (CO K b a e c)/\Ad K N H e c
 |d=>Ax K N H d v
def tQ(K:Ap)(M:Fb)(H0:Hp)(f:AH):TE:=λc H Q=>∃a d,Bh K M H0 a c H/\f a=Z d/\∀v b,Ak H b->PJ K M (Nf M a c) b d v->Q v b
theorem Ax.q{M N:Fb}{H:Hp}{d:D}{v:V}(h:Ax K N H d v):PJ K M N H d v:=by
 cases d with
 |lst g c=>
  let(a,b,e,q,r):=h;cases c with
  |l=>
   apply#[a,b,e,?_,r];rcases q with⟨n,q⟩|⟨f,z,q⟩
   .show .inl #[.inl n,q]
   .cases z;show .inr q
  |_=>
   rcases q with⟨n,q⟩|⟨f,z,_⟩
   .show#[a,b,e,.inl n,q,r]
   .cases z
 |_=>show h
theorem PE.q{f:AH}(h:PE X e (tD K M H0 f)):PE X e (tQ K M H0 f):=h.mono λc H Q ⟨a,d,R,e,q⟩=>#[a,d,R,e,λv b s z=>q v b s z.q]
theorem pO{f:AH}(h:JE X e (tD K M H0 f)):JE X e (tQ K M H0 f):=#[PE.q h.h]
theorem pP{M N:Fb}{H:Hp}(m:M a)(h:Rd H a (CO K fl a xs vs))(r:Ad K N H xs vs):PJ K M N H (.lst xs fl) (.ref a):=by
 cases fl with
 |l=>show#[a,vs,rfl,.inl #[.inr m,h],r]
 |_=>show#[a,vs,rfl,.inr m,h,r]
@[simp]def BR(ρ:VE)(i:Nat):O D:=match ρ[i]? with
  |some (.val d)=>Z d
  |some (.lent a b)=>Z (.lst a b)
  |_=>J
theorem pQ{i:Nat}{x:Af}(c:NV X i x):PE X (.Name x pos) (tQ K M H0 λρ=>BR ρ i):=(FZ c).mono λl H Q f=>by
  let(ρ,d,R,e,q):=f;try dsimp only at e q
  unfold BR at e;split at e
  .next h=>cases e;let(v,b,h):=R.slot i _ h;show#[v,ZJ b,q v H (Ak.refl H) h.q]
  .next h=>cases e;let(a,m,b,g,j,k):=R.slot i _ h;show#[_,ZJ b,q _ H (Ak.refl H)<|pP g.1 j k]
  .cases e
def YA:D->A8
 |.lst a=>Z a
 |_=>J
def pR:D->A8
 |.tup a=>Z a
 |_=>J
def pS:D->A8
 |.str x=>Z (x.cps.toList.map λc=>D.str #[(T' [c])])
 |_=>J
theorem pT{l:Expr}{f:AH}(h:PE X l (tQ X.K M H0 f)):PI X tg l (tI X.K M H0 λρ=>(f ρ).bind YA):=(Xm h).mono λs H P t=>by
 let(ρ,F,R,e,q):=t;let(d,u,e):=Cc.mp e;cases d with
 |lst L A=>
  cases A with
  |d=>cases e
  |i _ _=>cases e
  |l=>
  cases e;apply#[ρ,.lst _,R,u,λv o B C=>?_];let(a,c,E,g,hd):=C;let p:∀k j,Step M (Nf M ρ s) k o j->BZ X.K j a c:=λk j S=>by
   rcases g with⟨G,g⟩|g
   .show .inl<|g.step S (by rcases G with z|z;show .inl z;show .inr<|.inl z)
   .show g.sq
  apply#[a,E,#[c,p _ _ Step.refl],q _ o B λk j S i=>?_];let b:=p _ _ S;apply#[λd m=>?_,λm=>#[c,b,by rw[m,hd.length];show A4 _]];let(w,r,n):=(Ad.step S _ _ hd).get m;apply#[#[c,w,b,r],λx N y=>?_];let(rfl,y):=y;have:=y c b;rw[r]at this;cases this;show#[Ak.refl _,n]
 |_=>cases e
theorem pU{l:Expr}{f:AH}(h:PE X l (tQ X.K M H0 f)):PI X tg l (tI X.K M H0 λρ=>(f ρ).bind pR):=(l9 h).mono λt H u m=>by
 let(ρ,z,R,e,q):=m;let(d,n,e):=Cc.mp e;cases d with
 |tup A=>
  cases e;apply#[ρ,.tup _,R,n,λv o p r=>?_];let(a,b,s,c,hd):=r;apply#[a,s,#[b,c],q _ o p λB C S i=>?_];apply#[λd g=>?_,λg=>#[b,(c.step S),by rw[g,hd.length];show A4 _]];let(w,k,j):=(Ad.step S _ _ hd).get g;apply#[#[b,w,(c.step S),k],λx E y=>?_];let(rfl,y):=y;have:=y b<|c.step S;rw[k]at this;cases this;show⟨Ak.refl _,j⟩
 |_=>cases e
theorem pV{l:Expr}{f:AH}(h:PE X l (tQ K M H0 f)):PI X tg l (tI K M H0 λρ=>(f ρ).bind pS):=(ou h).mono λs H t j=>by
 let(ρ,u,R,e,q):=j;let(d,k,e):=Cc.mp e;cases d with
 |str x=>
  cases e;apply#[ρ,.str x,R,k,λv m n o=>?_];apply#[x,o,q _ m n λw z S i=>#[λd a=>?_,λa=>?_]]
  .rw[CF]at a;let(c,g,a):=B8.mp a;cases a;let p:i<x.cps.size:=by
    have:=(Cm.mp g).1;exists this
   apply#[p,λv A y=>?_];let(r,B,b,y):=y;subst r y;rw[<- NI,g]at b;cases b;show#[Ak.refl _,by erw[Ax]]
  .have:i=x.cps.size:=by exists a
   show LM this.symm
 |_=>cases e
def GN(lo:Int)(n:Nat):U D:=(Bt n).map (λ(k:Nat)=>D.int (lo+(k:Int)))
theorem Tc{M N:Fb}{c:Hp}{lo:Int}{n:Nat}:Mc K M N c (No lo n) (GN lo n):=λg h S i=>by
 apply#[λd a=>?_,λa=>?_]
 .let b:i<n:=by
   have:=(Cm.mp a).1;simpa[GN]using this
  let e:d=D.int (lo+i):=by
   erw[GN,CF,List.getElem?_range b,Nz,PM]at a;show a.symm
  subst e;apply#[b,λx j y=>?_];let(f,y):=y;subst f y;show#[Ak.refl _,by erw[Ax]]
 .have:i=n:=by simpa[GN]using a
  show LM this.symm
def gd{a:Type}(p:Prop)(o:O a):O a:=@ite _ p (PN p) o J
theorem KS{a:Type}{p:Prop}{o:O a}(h:p):gd p o=o:=by grind [gd]
theorem PP{a:Type}{p:Prop}{o:O a}{x:a}(h:gd p o=Z x):p/\o=Z x:=by grind [KS,gd]
def EW:U D->A8
 |[.int j]=>gd (-1000000000<=j/\j<1000000000) (Z (GN 0 j.toNat))
 |_=>J
def NJ:U D->A8
 |[.int i,.int j]=>gd (-1000000000<=i/\i<1000000000 /\ -1000000000<=j/\j<1000000000) (Z (GN i (j-i).toNat))
 |_=>J
open J in
theorem pW{a:Expr}{b:DB}{p:AC}(f:Gl X "range")(g:X.mg "range"=J)(c:JA X [a] (Dv K M H0 b))(i:AK [a] X.env=[(O',Ar a X.env)]:=by rfl):JI X tg (.Call (.Name "range" p) [a] [] pos) (tI K M H0 λρ=>((b ρ).bind Zt).bind EW):=#[have c:=c.h;(Xo f g c i).mono λy H z k=>by
  let(ρ,A,R,e,q):=k;try dsimp only at e q
  cases d:b ρ with|none=>rw[d]at e;cases e|some m=>
   rw[d]at e;let(l,n,e):=Cc.mp e;unfold EW at e;split at e
   .next j=>
    let(B,e):=PP e;cases e;apply#[ρ,m,R,d,λC o s t=>?_];let(v,r,u,w,x):=(L8 t n);subst u w x;show#[j,rfl,∅,∅,q _ o s Tc]
   .cases e]
open J in
theorem pX{a b:Expr}{c:DB}{p:AC}(k:Gl X "range")(m:X.mg "range"=J)(d:JA X [a,b] (Dv K M H0 c))(n:AK [a,b] X.env=[(O',Ar a X.env),(O',Ar b X.env)]:=by rfl)(f:AK [b] X.env=[(O',Ar b X.env)]:=by rfl):JI X tg (.Call (.Name "range" p) [a,b] [] pos) (tI K M H0 λρ=>((c ρ).bind Zt).bind NJ):=#[have d:=d.h;(mk k m d n f).mono λE H G o=>by
  let(ρ,Q,R,e,q):=o;try dsimp only at e q
  cases g:c ρ with|none=>rw[g]at e;cases e|some s=>
   rw[g]at e;let(l,t,e):=Cc.mp e;unfold NJ at e;split at e
   .next i j=>
    let(F,e):=PP e;cases e;apply#[ρ,s,R,g,λL u w x=>?_];let(v,r,y,z,N,P,A,B,C):=(L8 x t);subst z B C A y;show#[i,j,rfl,#[∅,∅,∅,∅],q _ u w Tc]
   .cases e]
end
def PQ(K:Ap)(M:Fb)(H0:Hp)(ws:U Nat)(b:U D->VE->O VE):Iz:=λg d H Q=>∃e f c,Bh K M H0 e d H/\Ad K (Nf M e d) H f g/\b f e=Z c/\∀a ,Bh K M H0 c a H->Step M (Nf M e d) (Nf M c a) H H->(∀j,j∉ws->a[j]?=d[j]?)->Q a H
@[simp]def Z8:U D->VE->O VE
  |[],a=>Z a
  |_,_=>J
@[simp]def Zq(b:D->VE->O VE)(c:U D->VE->O VE):U D->VE->O VE
  |d::r,a=>(b d a).bind (c r)
  |_,_=>J
@[simp]def Z6(n:Nat)(b:U D->VE->O VE):D->VE->O VE
  |.tup a,c=>if a.length=n then b a c else J
  |_,_=>J
section
variable{K:Ap}{M:Fb}{e:Expr}{ws':U Nat}{b:D->VE->O VE}{c:U D->VE->O VE}
theorem pY :JK X [] (PQ K M H0 [] Z8):=#[by
 intro a s b H c d Q i r #[h,f,g,R,hd,e,q];cases f with
 |nil=>
  cases e;show lU a s b H c d Q i r #[hd,q b R Step.refl λ_ _=>rfl]
 |cons=>cases e]
theorem pZ(g:JG X e (tG K M H0 ws b))(i:JK X es (PQ K M H0 ws' c))(p:(Gg (e::es) X.env).map (·.2)=assign e X.env::(Gg es X.env).map (·.2):=by rfl):JK X (e::es) (PQ K M H0 (ws++ws') (Zq b c)):=#[have g:=g.h;let i:=i.h;by
 intro a s t H L u Q N r #[w,k,l,R,hd,e,q];cases k with|nil=>cases e|cons d k=>
  let(v,x,rfl,y,z):=hd;let(f,A,e):=Cc.mp e;apply lV g i p a s t H _ u Q N r #[v,x,rfl,w,d,f,R,y,A,λB C o E=>#[f,k,l,C,Ad.step o _ _ z,e,λm R2 G F=>q m R2 (o.trans G) λj n=>?_]];rw[Cj,not_or]at n;rw[F j n.2,E j n.1]]
theorem p0{k n:Nat}(i:X.calm=J')(h:JK X es (PQ X.K M H0 ws c))(j:(Gg es X.env).length=n:=by rfl)(f:(Gg es X.env).findIdx? (·.1)=J:=by rfl):JG X (.Tuple es k pos) (tG X.K M H0 ws (Z6 n c)):=#[have h:=h.h;by
 intro b s l H v u Q y r #[m,d,g,R,hd,e,q];cases d with
 |tup o=>
  let(p,e):=Z7 e;let(a,t,w,x,hd):=hd;show lX i h j f b s l H v u Q y r #[a,t,w,x,hd.length ▸ p,m,o,g,R,hd,e,q]
 |_=>cases e]
end
@[simp]def JN:O Sl->Sl
  |some (.val d)=>.val d
  |some (.own a b _)=>.lent a b
  |some (.lent a b)=>.lent a b
  |_=>.no
@[simp]def Zv(k:Nat)(oix:U Nat)(ρ:VE):VE:=Es k .no++oix.map λj=>JN ρ[j]?
def Di(b:D->VE->O VE)(t:VE->O Bool)(e:AH)(ρ:VE):U D->A8
 |[]=>Z []
 |d::c=>match b d ρ with
  |none=>J
  |some a=>match t a with
   |some J'=>Zr (e a) (Di b t e ρ c)
   |some O'=>Di b t e ρ c
   |none=>J
@[simp]def Zh(k:Nat)(oix:U Nat)(f:VE->A8)(b:D->VE->O VE)(t:VE->O Bool)(e:AH):VE->A8:=λa=>(Zf (f a)).bind (Di b t e (Zv k oix a))
section
variable{K:Ap}{M:Fb}{f:VE->A8}{b:D->VE->O VE}{t:VE->O Bool}{e:AH}{k:Nat}{oix:U Nat}
open J in
theorem Bh.comp{H:Hp}(R:Bh K M H0 ρ I H)(k:Nat)(oix:U Nat):Bh K (Nf M ρ I) H (Zv k oix ρ) (E9 k oix I) H/\∀a,Nf (Nf M ρ I) (Zv k oix ρ) (E9 k oix I) a->Nf M ρ I a:=by
 let b:∀(j:Nat) (c:U D) (e:Kd) (f:O Ac),(Zv k oix ρ)[j]?≠Z (Sl.own c e f):=λj c e f h=>by
  unfold Zv at h;rw[KU]at h;split at h
  .rw[KC]at h;split at h<;>cases h
  .rw[CF]at h;cases l:oix[j-(Es k Sl.no).length]? with|none=>rw[l]at h;cases h|some o=>
    rw[l]at h;erw[Nz,PM]at h;unfold JN at h;split at h<;>cases h
 let nf:∀a,Nf (Nf M ρ I) (Zv k oix ρ) (E9 k oix I) a->Nf M ρ I a:=λa h=>by
  rcases h with h|⟨j,c,e,f,h,_⟩
  .show h
  .show absurd h<|b j c e f
 apply#[#[by simp[Zv,E9],Ak.refl H,R.nh,λj s h=>?_,λi j c B e w f x a h=>absurd h<|b i c e f],nf];unfold Zv at h;rw[KU]at h;split at h
 .rw[KC]at h;let(_,h):=Z7 h;cases h;trivial
 .next y=>
  rw[CF]at h;let p:(E9 k oix I)[j]?=(oix[j-k]?).map λi=>(I[i]?).join:=by
   unfold E9;grind
  rw[p];erw[LP]at h;cases l:oix[j-k]? with|none=>rw[l]at h;cases h|some o=>
   rw[l]at h;erw[Nz,PM]at h;unfold JN at h;split at h
   .next d hd=>subst h;let(v,g,q):=R.slot o _ hd;show#[v,g,q.nw λa m=>.inl<|nf a m]
   .next c e f hd=>
    subst h;let(a,r,g,t,u,n,A):=R.slot o _ hd;show#[a,r,g,#[.inr #[o,c,e,f,hd,ZJ g],λz=>by rw[n]at z;cases z],.inl n,A.nw λa m=>.inl<|nf a m]
   .next c hd=>
    subst h;let(a,r,g,t,u,n):=R.slot o _ hd;show#[a,r,g,#[.inl t.1,R.mh a t.1],u,n.nw λa m=>.inl<|nf a m]
   .subst h;trivial
def NK(K:Ap)(ws:U Nat)(b:D->VE->O VE):TG:=λv a H Q=>∃M H0,tG K M H0 ws b v a H Q
def NL(K:Ap)(t:VE->O Bool):TT:=λa H Q=>∃M H0,BX K M H0 t a H Q
def NM(K:Ap)(e:AH):TE:=λa H Q=>∃M H0,tD K M H0 e a H Q
theorem NN(hw:∀j∈ws,j<k)(hi:∀I H R,tI K M H0 f I H R->wi I H R){H:Hp}{Q:VK}(h:tF K M H0 (Zh k oix f b t e) I H Q):Px k oix wi (NK K ws b) (NL K t) (NM K e) I H Q:=by
 let(l,G,R,ex,q):=h;let(m,W,ex):=Cc.mp ex;let(W,hz):=S7 W;apply hi _ _ _ #[l,m,R,W,λF H1 s1 ok=>?_];apply#[m.length,λi L B=>i<=m.length/\L.length<=i/\Ak H1 B/\∃c AX,Ad K (Nf M l I) B c L/\Di b t e (Zv k oix l) (m.drop i)=Z AX/\c++AX=G,#[ET _,A4 _,Ak.refl _,[],G,Ad.nil,ex,rfl],?_];intro i L B zQ;let(hle,hy,u,c,AX,g,d,C):=zQ;let(N,P):=ok _ B (Step.of_same u) i;by_cases n:i<m.length
 .let(go,y):=N m[i]<|Ch n;rw[HV n]at d;erw[Di]at d;apply .inr ⟨go,n,∅,λr T=>r.length<=i+1/\Ak H1 T/\∃c AX,Ad K (Nf M l I) T c r/\Di b t e (Zv k oix l) (m.drop<|i+1)=Z AX/\c++AX=G,λr T z=>⟨n,z⟩,λx E yl=>?_⟩;let(w,hd):=y x E yl;let(Rc,nf):=(((R.st s1).st u).st w).comp k oix;cases S:b m[i] (Zv k oix l)with
  |none=>rw[S]at d;cases d
  |some o=>
   rw[S]at d;simp only at d;apply#[Nf M l I,E,Zv k oix l,m[i],o,Rc,hd.nw λa Y=>.inl<|nf a Y,S,λσ4 R4 S4 w4=>#[?_,?_]]
   .apply(IG);intro j;rw[LZ,LZ];show w4 _ λhj=>absurd (hw _ hj) ∅
   .cases ht:t o with|none=>rw[ht]at d;cases d|some bb=>
     rw[ht]at d;apply#[Nf M l I,E,o,bb,R4,ht,λH5 A=>?_];cases bb with
     |true=>
      let(yd,s,e1,e2,e3):=HW d;apply KP ?_;apply#[Nf M l I,E,o,yd,R4.st A,e1,λv H6 s6 hv=>#[?_,((u.trans w).trans A).trans s6,c++[yd],s,(g.same<|(w.trans A).trans s6).append<|Ad.cons (hv.nw λa Y=>.inl<|.inl Y) Ad.nil,e2,?_]]
      .erw[Ea,LX];lia
      .subst e3;rw[<- C];simp
     |false=>
      show KQ #[∅,(u.trans w).trans A,c,AX,g.same<|w.trans A,d,C]
 .rw[L0 ∅]at d;cases d;rw[D1]at C;subst C;show .inl #[P (show i=m.length by lia),∅,λp hp=>NF (s1.trans u) hp g q]
theorem PG.all(h:∀M H0,PG Y tg (tG K M H0 ws b)):PG Y tg (NK K ws b):=λa s c H v u Q d r ⟨M,H0,z⟩=>h M H0 a s c H v u Q d r z
theorem Hm.all(h:∀M H0,Hm Y ifs (BX K M H0 t)):Hm Y ifs (NL K t):=λa s b H Q c ⟨M,H0,z⟩=>h M H0 a s b H Q c z
theorem PE.all(h:∀M H0,PE Y elt (tD K M H0 e)):PE Y elt (NM K e):=λa s b H Q c ⟨M,H0,z⟩=>h M H0 a s b H Q c z
theorem p5:JF Y [] (BX K M H0 λ_=>Z J'):=#[λa s c H Q f ⟨d,b,R,e,q⟩=>on a s c H Q f (by cases e;show q H<|Ak.refl H)]
theorem p7{c:Expr}(h:JT Y c (BX K M H0 t)):JF Y [c] (BX K M H0 t):=#[have h:=h.h;oq h]
structure CB(K:Ap)(X:Cx)(own outs:List Af)(scope:Scope)(tg:Expr)(ifs:List Expr)(elt:Expr)(ws:List Nat)(b:D->VE->Option VE)(t:VE->Option Bool)(e:AH):Prop where
 g:∀C s2 H2 fp pins,PG (Do X own outs scope C s2 H2 fp pins) tg (NK K ws b)
 t:∀C s2 H2 fp pins,Hm (Do X own outs scope C s2 H2 fp pins) ifs (NL K t)
 e:∀C s2 H2 fp pins,PE (Do X own outs scope C s2 H2 fp pins) elt (NM K e)
theorem p8{own c:U Af}(i:∀{C s2 d f a g H'},JG (Do X own c scope C s2 d f a) tg (tG K g H' ws b))(j:∀{C s2 d f a g H'},JF (Do X own c scope C s2 d f a) ifs (BX K g H' t))(k:∀{C s2 d f a g H'},JE (Do X own c scope C s2 d f a) elt (tD K g H' e)):CB K X own c scope tg ifs elt ws b t e:=#[λ_ _ _ _ _=>PG.all λ_ _=>i.h,λ_ _ _ _ _=>Hm.all λ_ _=>j.h,λ_ _ _ _ _=>PE.all λ_ _=>k.h]
theorem p9(own a:U Af)(oix:U Nat)(S:IF own a scope X.env.scope)(c:oix.map (λj=>X.N[j]?)=a.map Z)(i:X.calm=J')(k:JI X tg iter (tI K M H0 f))(d:CB K X own a scope tg ifs elt ws b t e)(l:∀j∈ws,j<own.length)(m:∀x,EF iter X.env x=Al x:=by intro _;rfl):JE X (.ListComp elt [#[tg,iter,ifs,0]] scope pos) (tF K M H0 (Zh own.length oix f b t e)):=#[(Ya own a oix S c i k.h d.g d.t d.e m).mono λ_ _ _ z=>NN l (λ_ _ _ z=>z) z]
theorem qa(own a:U Af)(oix:U Nat){i:Nat}{x:Af}{c d:AC}(S:IF own a scope X.env.scope)(k:oix.map (λj=>X.N[j]?)=a.map Z)(o:X.calm=J')(p:X.N.Nodup)(l:X.N[i]?=Z x)(q:X.env.scope.names.lookup x=Z .local)(r:JI X tg iter (tI K M H0 f))(m:CB K X own a scope tg ifs elt ws b t e)(s:∀j∈ws,j<own.length)(n:DW (.ListComp elt [#[tg,iter,ifs,0]] scope pos) (Z (.Name x c)) d.line X.env=Al J':=by rfl)(u:∀x,EF iter X.env x=Al x:=by intro _;rfl):JS X (.Assign [.Name x c] (.ListComp elt [#[tg,iter,ifs,0]] scope pos) d) (tS K M H0 λρ=>Z0 i (Zh own.length oix f b t e ρ) ρ):=#[(Py own a oix S k o p l q r.h m.g m.t m.e n u).mono λv w H z=>NN s (λ_ _ _ z=>z) (Tb z)]
theorem qb(own c:U Af)(oix:U Nat){i:Nat}{x:Af}{k l:AC}(S:IF own c scope X.env.scope)(n:oix.map (λj=>X.N[j]?)=c.map Z)(u:X.calm=J')(v:X.N.Nodup)(o:X.N[i]?=Z x)(w:X.env.scope.names.lookup x=Z .local)(y:JI X tg iter (tI K M H0 f))(m:CB K X own c scope tg ifs elt ws b t e)(A:∀j∈ws,j<own.length)(p:DW (.ListComp elt [#[tg,iter,ifs,0]] scope pos) (Z (.Name x k)) l.line X.env=Al J':=by rfl)(B:∀x,EF iter X.env x=Al x:=by intro _;rfl):JS X (.Assign [.Name x k] (.ListComp elt [#[tg,iter,ifs,0]] scope pos) l) (tS K M H0 λρ=>Z5 i (ZE (Zh own.length oix f b t e ρ)) ρ):=#[(Py own c oix S n u v o w y.h m.g m.t m.e p B).mono λP Q H z=>by
   let(ρ,d,R,r,q):=(Yw z);let(C,E,r):=B8.mp r;cases r;show NN A (λ_ _ _ z=>z) #[ρ,C,R,E,λa G T s W F L=>q _ _ s #[a,G,rfl,.of (R.fresh W) F,L.nw λb m=>.inl<|.inl m]]]
end
def A7(a n:Nat)(g:AA):U Sl->O Rv:=λb=>if b.length=a then
  match g (b++Es (n-a) .no)with
  |.ret r=>Z r
  |.next _=>Z (.val .non)
  |_=>J
 else J
theorem qc{K:Ap}{N:Fb}{H:Hp}(m:∀a,N a->H a≠J)(h:BN K N H ss vs)(n:Nat):Bh K N H (ss++Es n .no) (vs.map Z++Es n J) H:=by
 let b:∀(j:Nat) (f:U D) (g:Kd) (k:O Ac),(ss++Es n Sl.no)[j]?≠Z (Sl.own f g k):=λj f g k e=>by
  rw[KU]at e;split at e
  .let(v,_,q):=h.get e;show q
  .rw[KC]at e;split at e<;>cases e
 let nf:∀a,Nf N (ss++Es n Sl.no) (vs.map Z++Es n J) a->N a:=λa z=>by
  rcases z with z|⟨j,f,g,k,z,_⟩
  .show z
  .show absurd z<|b j f g k
 apply#[by simp[h.length],Ak.refl H,m,λj s e=>?_,λi j f B g p k r a z=>absurd z<|b i f g k];rw[KU]at e;split at e
 .next t=>
  let(v,u,q):=h.get e;rw[D9 (by simpa[<- h.length]using t),CF,u];cases s with
  |val d=>show#[v,rfl,Ax.nw q λa l=>.inl<|nf a l]
  |lent f g=>let(a,w,x,o,y,A):=q;show#[a,w,by rw[x];rfl,#[o,m a o],y,A.nw λa l=>.inl<|nf a l]
  |no=>trivial
  |own f g k=>show BL q
  |exc c=>show BL q
 .rw[KC]at e;let(_,e):=Z7 e;cases e;trivial
theorem qd{P:AL}{w:Aj}{K:Ap}{mg:BC}{base:Am}{x b:Af}{st:AG}{f:Ac}{fd:Cr}{N d:U Af}{k:Nat}{g:AA}(F:Jx K x b st f fd)(S:FS N d (Zj st))(u:d.length<=N.length) (y:∀(c:Aa) (A:Ag) (outer:U Env) (s:Ab) (H:Hp) (E:XK) (M:Fb) (H0:Hp),AM k (A.deeper (Bk b (Zj st) s.heap.objs.size f c))->Ep (Et BQ P w K mg base N b (Zj st) f c A outer s H E).nox (ZX st) (tS K M H0 g)):A3 P w K mg base BQ (k+1) f fd d (Bb K (A7 d.length N.length g)):=by
 apply F.ok S (λl H Q E h=>?_) (λc A outer s H l Q E z h=>?_)
 .let(o,p,r,t,j,a,q):=h;let(m,a):=Z7 a;rw[<- j.length];show m
 .let(o,p,r,t,j,a,q):=h;apply#[_,y c A outer s H E o H z,?_];let(m,a):=Z7 a;rw[show Hk N l=l.map Z++Es (N.length-d.length) J by unfold Hk;rw[<- j.length,m]];apply#[_,qc t j<|N.length-d.length,?_];cases e:g (p++Es (N.length-d.length) .no)with
  |fail=>rw[e]at a;cases a
  |next i=>rw[e]at a;cases a;show λB n C R=>q .non n C.same (by erw[Fu,Ax])
  |brk i=>rw[e]at a;cases a
  |cont i=>rw[e]at a;cases a
  |ret L=>rw[e]at a;cases a;show λv n s G=>q v n s G
theorem qe{P:AL}{w:Aj}{K:Ap}{mg:BC}{base:Am}{x a:Af}{st:AG}{f:Ac}{fd:Cr}{N c:U Af}{k:Nat}{g:AA}(F:Jx K x a st f fd)(S:FS N c (Zj st))(d:c.length<=N.length) (e:∀(b:Aa) (A:Ag) (outer:U Env) (s:Ab) (H:Hp) (E:XK) (M:Fb) (H0:Hp),AM k (A.deeper (Bk a (Zj st) s.heap.objs.size f b))->JB (Et BQ P w K mg base N a (Zj st) f b A outer s H E).nox (ZX st) (tS K M H0 g)):A3 P w K mg base BQ (k+1) f fd c (Bb K (A7 c.length N.length g)):=qd F S d λb A outer s H E M H0 i=>(e b A outer s H E M H0 i).h
section
variable{K:Ap}
@[simp]def i2(g:Int->Int->O D):D->D->O D
  |.int i,.int j=>g i j
  |_,_=>J
theorem Td{g:Int->Int->O D}{x y d:D}(h:i2 g x y=Z d):∃i j,x=.int i/\y=.int j/\g i j=Z d:=by
 unfold i2 at h;grind
theorem Ay.int{N:Fb}{H:Hp}{i:Int}{v:V}(h:Ay K N H (.int i) v):v=.int i:=by simpa only[Ay,Ax]using h
theorem Ay.str{N:Fb}{H:Hp}{i:Af}{v:V}(h:Ay K N H (.str i) v):v=.str i:=by simpa only[Ay,Ax]using h
theorem Ay.bl{N:Fb}{H:Hp}{i:Bool}{v:V}(h:Ay K N H (.bl i) v):v=.bl i:=by simpa only[Ay,Ax]using h
theorem Ay.non{N:Fb}{H:Hp}{v:V}(h:Ay K N H .non v):v=.non:=by simpa only[Ay,Ax]using h
theorem Ay.ty{N:Fb}{H:Hp}{i:String}{v:V}(h:Ay K N H (.ty i) v):v=.ty i:=by simpa only[Ay,Ax]using h
theorem Ay.tup{N:Fb}{H:Hp}{v:V}(h:Ay K N H (.tup xs) v):∃a vs,v=.ref a/\Cb K H a vs/\Ad K N H xs vs:=by simpa only[Ay,Ax]using h
theorem Fx{N:Fb}{H:Hp}{i:Int}:Ax K N H (.int i) (.int i):=by erw[Ax]
theorem Hr{N:Fb}{H:Hp}{i:Bool}:Ax K N H (.bl i) (.bl i):=by erw[Ax]
theorem PR{N:Fb}{H:Hp}{i:Af}:Ax K N H (.str i) (.str i):=by erw[Ax]
theorem qf(g:Int->Int->Int):Ee K (HM λi j=>.int (g i j)) (i2 λi j=>Z (.int (g i j))):=by
 intro N H x y c f d Q h a b e q;let(i,j,rfl,rfl,e):=Td e;cases e;show#[i,j,a.int,b.int,q _ H (Ak.refl H) Fx]
theorem Md(g:Int->Int->Bool):Ee K (HM λi j=>.bl (g i j)) (i2 λi j=>Z (.bl (g i j))):=by
 intro N H x y c f d Q h a b e q;let(i,j,rfl,rfl,e):=Td e;cases e;show#[i,j,a.int,b.int,q _ H (Ak.refl H) Hr]
theorem PU{C:Int->Int->Prop}[∀i j,Decidable (C i j)](g:Int->Int->Int):Ee K (rI C λi j=>.int (g i j)) (i2 λi j=>if C i j then Z (.int (g i j))else J):=by
 intro N H x y h k d Q l b c e q;let(i,j,rfl,rfl,a):=Td e;split at a
 .next f=>cases a;show#[i,j,b.int,c.int,f,q _ H (Ak.refl H) Fx]
 .cases a
instance (i j:Int):Decidable (Nr i j):=by unfold Nr;show inferInstance
instance (i j:Int):Decidable (DZ i j):=by unfold DZ;show inferInstance
instance (i j:Int):Decidable (LL i j):=by unfold LL;show inferInstance
@[simp]def JP:D->D->O D:=i2 λi j=>Z (.int (i-j))
@[simp]def Fy:D->D->O D:=i2 λi j=>if DZ i j then Z (.int (i*j))else J
@[simp]def Gq:D->D->O D:=i2 λi j=>if Nr i j then Z (.int (i/j))else J
@[simp]def ZQ:D->D->O D:=i2 λi j=>if 0<j then Z (.int (i%j))else J
@[simp]def KV:D->D->O D:=i2 λi j=>if LL i j then Z (.int (i^j.toNat))else J
@[simp]def HX:D->D->O D:=i2 λi j=>Z (.bl (decide (i<=j)))
@[simp]def EX:D->D->O D:=i2 λi j=>Z (.bl (decide (j<i)))
@[simp]def NO:D->D->O D:=i2 λi j=>Z (.bl (decide (j<=i)))
section
variable{M:Fb}{a b:Expr}{f g:AH}
theorem qg(c:JE X a (tP K M H0 f))(d:JE X b (tP K M H0 g)):JE X (.BinOp a .Sub b pos) (tD K M H0 (Za JP f g)):=#[have c:=c.h;let d:=d.h;L4 mr (qf _) c d]
theorem qh(c:JE X a (tP K M H0 f))(d:JE X b (tP K M H0 g)):JE X (.BinOp a .Mult b pos) (tD K M H0 (Za Fy f g)):=#[have c:=c.h;let d:=d.h;L4 ms (PU _) c d]
theorem qi(c:JE X a (tP K M H0 f))(d:JE X b (tP K M H0 g)):JE X (.BinOp a .FloorDiv b pos) (tD K M H0 (Za Gq f g)):=#[have c:=c.h;let d:=d.h;L4 mv (PU _) c d]
theorem qk(c:JE X a (tP K M H0 f))(d:JE X b (tP K M H0 g)):JE X (.BinOp a .Mod b pos) (tD K M H0 (Za ZQ f g)):=#[have c:=c.h;let d:=d.h;L4 mw (PU _) c d]
theorem ql(c:JE X a (tP K M H0 f))(d:JE X b (tP K M H0 g)):JE X (.BinOp a .Pow b pos) (tD K M H0 (Za KV f g)):=#[have c:=c.h;let d:=d.h;L4 my (PU _) c d]
@[simp]def Me:O D->O D
  |some (.int i)=>Z (.int (-i))
  |_=>J
open J in
theorem qm(b:JE X a (tP K M H0 f)):JE X (.UnaryOp .USub a pos) (tD K M H0 λρ=>Me (f ρ)):=#[have b:=b.h;(mq mC b).mono λl H Q c=>by
 let(ρ,d,R,e,q):=c;try dsimp only at e q
 unfold Me at e;split at e
 .next i g=>cases e;show#[ρ,.int i,R,g,λv j s k=>#[i,k.int,q _ j s Fx]]
 .cases e]
end
end
section
def YB(K:Ap):R2:=λx y H Q=>∃l b a c,x=.ref l/\y=.ref b/\BZ K H l a/\BZ K H b c/\a.length+c.length<=AB/\∀p,H p=J->Q (.ref p) (AI H p (.lst (a++c)))
theorem IH:Cd X (Hh .Add) (YB X.K):=by
 intro i s P H x y v u Q S o p zQ;let(l,b,L,M,rfl,rfl,t,w,z,q):=zQ;cases o;cases p;let(c,r,p1,N):=S.list t;let(a,j,A,R):=S.list w;let T:=r.length;let B:=j.length;let((cls,C,data,E),k,G,n,hd):=p1.isList;let((m,e,data2,f),d,g,n2,h):=A.isList;subst G hd g h;apply concat_meets #[_,k,rfl] #[_,d,rfl] noFill_list_add seq_list_add PySem.F.slot_list_add PySem.F.entry_list_add (PySem.F.args_list_add_2 _ _) (list_addW l b c.toArray a.toArray n n2 C e E f (by rw[B3,B3];lia)) #[k,d,?_];rw[show c.toArray++a.toArray=(c++a).toArray by simp];show#[.ref _,_,S.lnew (t':=s.toks) (r.append j) (Ea ▸ W.kdl_size z),rfl,q _ S.fresh]
def YC(K:Ap):R2:=λx y H Q=>∃l b a c,x=.ref l/\y=.ref b/\Cb K H l a/\Cb K H b c/\a.length+c.length<=AB /\
 (a=[]->Q (.ref b) H)/\(c=[]->Q (.ref l) H)/\∀p,H p=J->Q (.ref p) (AI H p (.tup (a++c)))
theorem qo:Cd X (Hh .Add) (YC X.K):=by
 intro B s I H x y v u Q zA M N zQ;let(l,b,C,E,rfl,rfl,R,T,S,Y,qz,q):=zQ;cases M;cases N;let(c,r,p1,z1):=zA.tuple R;let(a,G,p2,z2):=zA.tuple T;let P:=r.length;let j:=G.length;let((cls,m,data,o),i,hc,n,hd):=id p1;let((L,f,data2,g),d,p,n2,t):=id p2;subst hc hd p t;by_cases w:C=[]
 .let k:c.toArray.isEmpty=J':=by
   subst w;have:c=[]:=NP.mp P.symm;subst this;rfl
  show concat_meets #[_,i,rfl] #[_,d,rfl] noFill_tuple_add seq_tuple_add PySem.F.slot_tuple_add YD (YE _ _) (tuple_addW0 l b c.toArray a.toArray n n2 m f o g k) #[i,d,#[.ref b,H,zA,rfl,Y w]]
 .let k:¬ c.toArray.isEmpty=J':=by
   intro z;have:c=[]:=by exists z
   subst this;show w<|NP.mp P
  by_cases A:E=[]
  .let h:a.toArray.isEmpty=J':=by
    subst A;have:a=[]:=NP.mp j.symm;subst this;rfl
   show concat_meets #[_,i,rfl] #[_,d,rfl] noFill_tuple_add seq_tuple_add PySem.F.slot_tuple_add YD (YE _ _) (tuple_addW1 l b c.toArray a.toArray n n2 m f o g k h) #[i,d,#[.ref l,H,zA,rfl,qz A]]
  .let h:¬ a.toArray.isEmpty=J':=by
    intro z;have:a=[]:=by exists z
    subst this;show A<|NP.mp j
   let e:c.toArray++a.toArray=(c++a).toArray:=by simp
   apply concat_meets #[_,i,rfl] #[_,d,rfl] noFill_tuple_add seq_tuple_add PySem.F.slot_tuple_add YD (YE _ _) (tuple_addW2 l b c.toArray a.toArray n n2 m f o g k h (by rw[B3,B3];lia)) #[i,d,?_];rw[e];apply#[.ref s.heap.objs.size,AI H s.heap.objs.size<|.tup<|C++E,zA.laid (t':=s.toks) (λb u e=>By _ e) (A4 _) ?_,rfl,q _ zA.fresh];show#[Ea ▸ W.kdl_size S,c++a,r.append G,IsTup.new _ _]
end
@[simp]def Zo:D->D->O D
  |.int i,.int j=>Z (.int (i+j))
  |.str x,.str y=>if x.length+y.length<=AB then Z (.str (x++y))else J
  |.lst a,.lst b=>if a.length+b.length<=AB then Z (.lst (a++b))else J
  |.tup a,.tup b=>if a.length+b.length<=AB then Z (.tup (a++b))else J
  |_,_=>J
def YF(K:Ap):R2:=λx y H Q=>HM (λi j=>.int (i+j)) x y H Q\/(∃i j,x=.str i/\y=.str j/\i.length+j.length<=AB/\Q (.str (i++j)) H)\/YB K x y H Q\/YC K x y H Q
theorem qp:Cd X (Hh .Add) (YF X.K):=Kw.or<|Fl.or<|IH.or qo
theorem YG{K:Ap}{N:Fb}{H:Hp}{p:Ac}(c:∀a,N a->H a≠J)(b:H p=J)(h:Ad K N H xs vs):Ax K N (AI H p (.lst vs)) (.lst xs) (.ref p):=by
 show#[p,vs,rfl,.of (λz=>c p z b) ZN,h.same<|ZO b]
theorem NQ{K:Ap}{N:Fb}{H:Hp}{p:Ac}(a:H p=J)(h:Ad K N H xs vs):Ax K N (AI H p (.tup vs)) (.tup xs) (.ref p):=by
 show#[p,vs,rfl,Cb.of ZN,h.same<|ZO a]
theorem qq{K:Ap}:Ee K (YF K) Zo:=by
 intro N H x y t u d Q s k l e q;unfold Zo at e;split at e
 .cases e;show .inl #[_,_,k.int,l.int,q _ H (Ak.refl H) Fx]
 .let(g,e):=Z7 e;cases e;show .inr<|.inl ⟨_,_,k.str,l.str,g,q _ H (Ak.refl H) PR⟩
 .let(g,e):=Z7 e;cases e;let(a,h,o,m,c):=k;let(b,i,r,n,f):=l;show .inr<|.inr<|.inl ⟨a,b,h,i,o,r,m,n,by rw[<- c.length,<- f.length];show g,λp j=>q _ _ (ZO j)<|YG s j<|c.append f⟩
 .let(g,e):=Z7 e;cases e;let(a,h,o,m,c):=k.tup;let(b,i,r,n,f):=l.tup;apply .inr<|.inr<|.inr ⟨a,b,h,i,o,r,m,n,by rw[<- c.length,<- f.length];show g,λz=>?_,λz=>?_,λp j=>q _ _ (ZO j)<|NQ j<|c.append f⟩
  .show q _ H (Ak.refl H) #[b,h++i,rfl,z ▸ n,c.append f]
  .show q _ H (Ak.refl H) #[a,h++i,rfl,by rw[z,D1];show m,c.append f]
 .cases e
theorem qr{M:Fb}{a b:Expr}{f g:AH}(c:JE X a (tP X.K M H0 f))(d:JE X b (tP X.K M H0 g)):JE X (.BinOp a .Add b pos) (tD X.K M H0 (Za Zo f g)):=#[have c:=c.h;let d:=d.h;L4 qp qq c d]
def qt(K:Ap):V->O Int->O Int->Hp->VK->Prop:=λx lo c H Q=>∃a b,x=.ref a/\Cb K H a b/\(IC b lo c=b->Q (.ref a) H)/\∀p,H p=J->Q (.ref p) (AI H p (.tup (IC b lo c)))
theorem II:Jv X (qt X.K):=by
 intro h s u H x v w y lo e z Q A k l m n zQ;let(a,d,rfl,p,t,q):=zQ;cases k;let(f,r,i,j):=A.tuple p;let c:f.toArray.size=d.length:=B3 ▸ r.length.symm;apply#["tuple",_,PyProof.Rows.slot_tuple_getitem.lookup,i.typeIs,HT.getItem_tuple_cut i l m n (λg=>#[.ref a,H,A,rfl,t ?_]) (λ_=>?_) (c ▸ j)]
 .rw[c]at g;unfold IC;rw[g.1,g.2,NR,Nat.sub_zero,List.take_length]
 .rw[c];apply#[.ref s.heap.objs.size,_,A.laid (t':=s.toks) (o:=.tup<|IC d lo e) (λb B q=>By _ q) (A4 _) ?_,rfl,q _<|A.hok.fresh<|A4 _];show⟨Bu (XU d lo e) j,_,(r.drop<|HT.sIx d.length 0 lo).take<|HT.sIx d.length d.length e-HT.sIx d.length 0 lo,IsTup.new _ _⟩
@[simp]def Au:D->D->O D
  |.lst a,.int i=>atI a i
  |.tup a,.int i=>atI a i
  |.str x,.int i=>if x.length<=AB then(atI x.cps.toList i).map λc=>.str #[(T' [c])]else J
  |_,_=>J
theorem Ad.atI{K:Ap}{N:Fb}{H:Hp}{i:Int}{d:D}(h:Ad K N H xs vs)(e:Internal.atI xs i=Z d):∃v,Internal.atI vs i=Z v/\Ax K N H d v:=by
 unfold Internal.atI at e ⊢;rw[<- h.length];cases a:Eb xs.length i with
 |none=>rw[a]at e;cases e
 |some j=>rw[a]at e;show h.get e
open J in
theorem qu{K:Ap}:Ee K (X0 K) Au:=by
 intro N H x y p r d Q s b f e q;unfold Au at e;split at e
 .let(a,g,h,j,k):=b;let(v,l,m):=k.atI e;show .inl #[a,g,_,v,h,f.int,j,l,q v H (Ak.refl H) m]
 .let(a,g,h,j,k):=b.tup;let(v,l,m):=k.atI e;show .inr<|.inl ⟨a,g,_,v,h,f.int,j,l,q v H (Ak.refl H) m⟩
 .split at e
  .next z i n=>
   let(c,o,e):=B8.mp e;cases e;show .inr<|.inr ⟨z,i,c,b.str,f.int,n,o,q _ H (Ak.refl H) PR⟩
  .cases e
 .cases e
section
variable{K:Ap}{M:Fb}{a b e:Expr}{f g:AH}
theorem qv(c:JE X a (tP X.K M H0 f))(d:JE X b (tP X.K M H0 g))(e:LW b):JE X (.Subscript a b pos) (tD X.K M H0 (Za Au f g)):=#[have c:=c.h;let d:=d.h;Yn nO qu c d e]
def tO(K:Ap)(M:Fb)(H0:Hp)(o:VE->O (O Int)):TO:=λc H Q=>∃a i,Bh K M H0 a c H/\o a=Z i/\∀b,Ak H b->Q i b
@[simp]def EG:O D->O (O Int)
  |some (.int i)=>Z (Z i)
  |_=>J
theorem PO.mono{e:O Expr}{t t':TO}(h:PO X e t)(m:∀I H Q,t' I H Q->t I H Q):PO X e t':=by
 intro a s I H Q b q;show h a s I H Q b<|m I H Q q
theorem qw :JO X J (tO K M H0 λ_=>Z J):=#[PO.mono nI λa H Q ⟨b,i,R,e,q⟩=>by(try dsimp only at e q);cases e;show q H<|Ak.refl H]
open J in
theorem qx(h:JE X e (tP K M H0 f)):JO X (Z e) (tO K M H0 λρ=>EG (f ρ)):=#[have h:=h.h;PO.mono (nJ h) λg H Q a=>by
 let(ρ,i,R,e,q):=a;try dsimp only at e q
 unfold EG at e;split at e
 .next j b=>cases e;show#[ρ,.int j,R,b,λv c s d=>#[j,d.int,q c s]]
 .cases e]
def Fc{a:Type}(xs:U a)(lo b:O Int):U a:=(xs.drop (HT.sIx xs.length 0 lo)).take (HT.sIx xs.length xs.length b-HT.sIx xs.length 0 lo)
@[simp]def Fz(x:D)(lo a:O Int):O D:=match x with
  |.lst b=>Z (.lst (Fc b lo a))
  |.tup b=>Z (.tup (Fc b lo a))
  |.str x=>if x.length<=AB then Z (.str (Txt.slice x lo a))else J
  |_=>J
theorem Ad.cut{K:Ap}{N:Fb}{H:Hp}(h:Ad K N H xs vs)(lo a:O Int):Ad K N H (Fc xs lo a) (IC vs lo a):=by
 unfold Fc IC;rw[h.length];show(h.drop _).take _
@[simp]def Eu{b:Type}(f:AH)(lo c:VE->O (O Int))(F:D->O Int->O Int->O b):VE->O b:=λa=>(f a).bind λx=>(lo a).bind λl=>(c a).bind λh=>F x l h
theorem qy{e:Type}{f:AH}{b:VE->O (O Int)}{F:D->O Int->O Int->O e}{d:e}(h:Eu f lo b F ρ=Z d):∃x l u,f ρ=Z x/\lo ρ=Z l/\b ρ=Z u/\F x l u=Z d:=by
 unfold Eu at h;cases a:f ρ with|none=>rw[a]at h;cases h|some x=>
  cases c:lo ρ with|none=>rw[a,c]at h;cases h|some l=>
   cases g:b ρ with
   |none=>rw[a,c,g]at h;cases h
   |some u=>rw[a,c,g]at h;show#[x,l,u,rfl,rfl,rfl,h]
theorem qA{A B:O Expr}{C:VE->O (O Int)}(m:JE X e (tP X.K M H0 f))(n:JO X A (tO X.K M H0 lo))(o:JO X B (tO X.K M H0 C)):JE X (.Subscript e (.Slice A B J p2) pos) (tD X.K M H0 (Eu f lo C Fz)):=#[have m:=m.h;let n:=n.h;let o:=o.h;(nM (IE.or<|II.or ow) m n o).mono λP H Q G=>by
 let(r,d,R,ex,q):=G;let(x,l,u,W,F,L,b):=qy ex;apply#[r,x,R,W,λv T t c=>#[r,l,R.st t,F,λS w=>#[r,u,(R.st t).st w,L,λY E=>?_]]];let c:=(c.same w).same E;let s:=(t.trans w).trans E;unfold Fz at b;split at b
 .cases b;let(a,i,y,j,k):=c;show .inl #[a,i,y,j,λp g=>q _ _ (s.trans<|ZO g)<|YG (R.st s).nh g<|k.cut l u]
 .cases b;let(a,i,y,j,k):=c.tup;show .inr<|.inl ⟨a,i,y,j,λz=>q _ _ s ⟨a,i,rfl,j,z ▸ k.cut l u⟩,λp g=>q _ _ (s.trans<|ZO g)<|NQ g<|k.cut l u⟩
 .let(N,b):=Z7 b;cases b;show .inr<|.inr ⟨_,c.str,N,q _ _ s PR⟩
 .cases b]
end
mutual
def AS:D->D->Bool
 |.non,.non=>J'
 |.bl a,.bl b=>a==b
 |.bl a,.int b=>(if a then 1 else 0)==b
 |.int a,.bl b=>a==(if b then 1 else 0)
 |.int a,.int b=>a==b
 |.str a,.str b=>a==b
 |.tup c,.tup d=>CU c d
 |.lst c,.lst d=>CU c d
 |_,_=>O'
def CU:U D->U D->Bool
 |[],[]=>J'
 |x::a,y::b=>AS x y&&CU a b
 |_,_=>O'
end
@[simp]def A1:Nat->D->Bool
  |_,.non=>J'
  |_,.bl _=>J'
  |_,.int _=>J'
  |_,.str _=>J'
  |n+1,.tup a=>a.all (A1 n)
  |n+1,.lst a=>a.all (A1 n)
  |_,_=>O'
mutual
theorem Te:∀(n:Nat)(d:D),A1 n d=J'->AS d d=J'
 |_,.non,_=>id rfl
 |_,.bl _,_=>beq_self_eq_true _
 |_,.int _,_=>beq_self_eq_true _
 |_,.str _,_=>beq_self_eq_true _
 |0,.ty _,h=>by simp[A1]at h
 |_+1,.ty _,h=>by simp[A1]at h
 |0,.tup a,h=>by simp[A1]at h
 |0,.lst a _,h=>by simp[A1]at h
 |n+1,.tup a,h=>NS n a h
 |n+1,.lst a .l,h=>NS n a h
 |n+1,.lst a .d,h=>by simp[A1]at h
 |n+1,.lst a (.i _ _),h=>by simp[A1]at h
theorem NS:∀(n:Nat)(xs:U D),xs.all (A1 n)=J'->CU xs xs=J'
 |_,[],_=>id rfl
 |n,x::xs,h=>by
  erw[List.all_cons,DC]at h
  show(DC _ _).mpr ⟨Te n x h.1,NS n xs h.2⟩
end
theorem Tf:∀{xs ys:U D},xs.length≠ys.length->CU xs ys=O'
 |[],[],h=>absurd rfl h
 |[],_::_,_=>id rfl
 |_::_,[],_=>id rfl
 |x::xs,y::ys,h=>by
  change(_&&_)=_;rw[Tf (xs:=xs) (ys:=ys) (by exists h),Bool.and_false]
theorem Tg:∀{xs ys:U D},xs.length=ys.length->CU xs ys=(Bt xs.length).all λj=>AS (xs.getD j .non) (ys.getD j .non)
 |[],[],_=>by simp[CU]
 |[],_::_,h=>by simp at h
 |_::_,[],h=>by simp at h
 |x::xs,y::ys,h=>by
  simp only[CU,Ck,List.range_succ_eq_map,List.all_cons,List.getD_cons_zero,List.all_map,Tg (xs:=xs) (ys:=ys) (by exists h)];rfl
section
variable{H:Hp}{s:Ab}
theorem Inv.apart(k:Inv X pins I H s){xs:U V}(h:BZ X.K H a xs)(h':Cb X.K H a ys):False:=by
 let(d,r,(o,n,e,c,_),_):=k.list h;let(b,f,(g,i,j,_),_):=k.tuple h';simp_all
theorem Inv.apartDL(l:Inv X pins I H s){d:U KT}{xs:U V}(h:Rd H a (.dct d xs))(h':BZ X.K H a ys):False:=by
 let(_,_,_,o,_,_,e,c,_):=h.ok l.hok;let(b,f,(g,i,j,k,_),_):=l.list h';simp_all
theorem Inv.apartDT(k:Inv X pins I H s){d:U KT}{xs:U V}(h:Rd H a (.dct d xs))(h':Cb X.K H a ys):False:=by
 let(_,_,_,o,_,_,e,c,_):=h.ok k.hok;let(b,f,(g,i,j,_),_):=k.tuple h';simp_all
theorem Inv.apartIL(l:Inv X pins I H s){b:Ac}{c:U (Af×V)}(h:Rd H a (.ins C b c))(h':BZ X.K H a ys):False:=by
 let(_,_,_,e,_):=(show A9 X.prog X.w H s.heap a (.ins C b c)from h.ok l.hok);let(d,f,(g,i,j,k,_),_):=l.list h';simp_all
theorem Inv.apartIT(k:Inv X pins I H s){b:Ac}{c:U (Af×V)}(h:Rd H a (.ins C b c))(h':Cb X.K H a ys):False:=by
 let(_,_,_,e,_):=(show A9 X.prog X.w H s.heap a (.ins C b c)from h.ok k.hok);let(d,f,(g,i,j,_),_):=k.tuple h';simp_all
def KW:D->O V
 |.non=>Z .non
 |.bl b=>Z (.bl b)
 |.int i=>Z (.int i)
 |.str x=>Z (.str x)
 |.ty n=>Z (.ty n)
 |_=>J
theorem qB{d d':D}{w:V}(h:KW d=Z w)(h':KW d'=Z w):d=d':=by
 cases d<;>cases h<;>cases d'<;>cases h'<;>rfl
theorem Ay.av{K:Ap}{N:Fb}{d:D}{v:V}(h:Ay K N H d v):match KW d with
  |some w=>v=w
  |none=>∃a,v=.ref a:=by
 cases d with
 |lst b c=>cases c<;>(let(a,_,e,_):=h;show#[a,e])
 |tup b=>let(a,_,e,_):=h.tup;show#[a,e]
 |non=>show h.non
 |bl _=>show h.bl
 |int _=>show h.int
 |str _=>show h.str
 |ty _=>show h.ty
theorem Ay.at{K:Ap}{N c:Fb}{d d':D}{v w:V}(e:KW d=Z w)(h:Ay K N H d v)(h':Ay K c H d' v):d=d':=by
 let h:=h.av;let h':=h'.av;rw[e]at h;subst h;cases b:KW d' with
 |some u=>rw[b]at h';subst h';show qB e b
 |none=>rw[b]at h';let(a,z):=h';subst z;cases d<;>cases e
theorem Ay.at'{K:Ap}{N:Fb}{d':D}(h':Ay K N H d' (.ref a)):KW d'=J:=by
 let h:=h'.av;cases e:KW d' with
 |none=>rfl
 |some w=>rw[e]at h;subst h;cases d'<;>cases e
mutual
/-- what an address denotes is one thing -/
theorem YH(w:Inv X pins I H s){N u:Fb}:∀(n:Nat)(d d':D)(v:V),A1 n d=J'->Ay X.K N H d v->Ay X.K u H d' v->d=d'
 |_,.non,d',v,_,h,c=>Ay.at rfl h c
 |_,.bl _,d',v,_,h,c=>Ay.at rfl h c
 |_,.int _,d',v,_,h,c=>Ay.at rfl h c
 |_,.str _,d',v,_,h,c=>Ay.at rfl h c
 |_,.ty _,d',v,_,h,c=>Ay.at rfl h c
 |0,.tup g,d',v,o,h,c=>by simp[A1]at o
 |0,.lst g _,d',v,o,h,c=>by simp[A1]at o
 |n+1,.tup g,d',v,o,h,c=>by
  let(a,p,e,q,r):=h.tup
  subst e
  let z:=c.at'
  cases d' with
  |tup m=>
   let(b,j,e,f,k):=c.tup
   cases e
   have:=w.tuple_inj q f
   subst this
   rw[NT w n g m p o r k]
  |lst _ t=>
   cases t with
   |l=>let(b,j,e,f,_):=c;cases e;show(w.apart f q).elim
   |d=>let(b,j,e,f,_):=c;cases e;show(w.apartDT f q).elim
   |i=>let(b,j,e,f,_):=c;cases e;show(w.apartIT f q).elim
  |_=>cases z
 |n+1,.lst g .d,d',v,o,h,c=>by simp[A1]at o
 |n+1,.lst g (.i _ _),d',v,o,h,c=>by simp[A1]at o
 |n+1,.lst g .l,d',v,o,h,c=>by
  let(a,p,e,q,r):=h
  subst e
  let z:=c.at'
  cases d' with
  |tup m=>let(b,j,e,f,k):=c.tup;cases e;show(w.apart q f).elim
  |lst m t=>
   cases t with
   |d=>let(b,j,e,f,k):=c;cases e;show(w.apartDL f q).elim
   |i=>let(b,j,e,f,k):=c;cases e;show(w.apartIL f q).elim
   |l=>
    let(b,j,e,f,k):=c
    cases e
    have:=w.list_inj q f
    subst this
    rw[NT w n g m p o r k]
  |_=>cases z
theorem NT(i:Inv X pins I H s){N b:Fb}:∀(n:Nat)(xs ys:U D)(vs:U V),xs.all (A1 n)=J'->Ad X.K N H xs vs->Ad X.K b H ys vs->xs=ys
 |_,[],ys,vs,_,h,a=>by
  erw[Ad]at h;subst h
  cases ys with
  |nil=>rfl
  |cons y ys=>erw[Ad]at a;let(_,_,e,_):=a;cases e
 |n,x::xs,ys,vs,o,h,a=>by
  erw[List.all_cons,DC]at o
  erw[Ad]at h
  let(v,r,e,q,t):=h
  subst e
  cases ys with
  |nil=>erw[Ad]at a;cases a
  |cons y ys=>
   erw[Ad]at a
   let(f,g,e,c,d):=a
   cases e
   rw[YH i n x y v o.1 q.p c.p,NT i n xs ys r o.2 t d]
end
open SeqAt
theorem Eg{a:Type}{xs:U a}{d e:a}(h:xs[j]?=Z e):xs.getD j d=e:=by simp[List.getD_eq_getElem?_getD,h]
theorem YI{a:U Aa}(b:j<a.toArray.size)(e:a[j]?=Z u):a.toArray[j]=u:=by
 let(_,e):=Cm.mp e;exists e
def KY(A:Ag)(s:Ab)(u v:Aa)(b:Bool):Prop:=RcAt A s u v b/\EqAt A s u v b/\RcNeAt A s u v (!b)
theorem NU(A:Ag):A.in1.units=A.units+1:=rfl
theorem Mf{N:Fb}{x:D}{v:V}(h:Ay X.K N H x v)(r:RelV v u)(o:A1 0 x=J'):(x=.non/\u=.none)\/(∃b,x=.bl b/\u=.bool b)\/(∃i t,x=.int i/\u=.int i t)\/∃c t,x=.str c/\u=.str c t:=by
 cases x with
 |non=>cases h.non;show .inl #[rfl,r]
 |bl b=>cases h.bl;show .inr<|.inl ⟨b,rfl,r⟩
 |int i=>cases h.int;let(t,r):=r;show .inr<|.inr<|.inl ⟨i,t,rfl,r⟩
 |str c=>cases h.str;let(t,r):=r;show .inr<|.inr<|.inr ⟨c,t,rfl,r⟩
 |_=>simp[A1]at o
theorem YJ(q:Inv X pins I H s){N:Fb}(A:Ag)(x y:D)(a d:V)(u v:Aa)(m:A.units+0<Av)(e:A1 0 x=J')(f:A1 0 y=J')(g:Ay X.K N H x a)(h:Ay X.K N H y d)(j:RelV a u)(k:RelV d v):KY A s u v (AS x y):=by
 rcases Mf g j e with⟨rfl,rfl⟩|⟨b,rfl,rfl⟩|⟨i,t,rfl,rfl⟩|⟨c,t,rfl,rfl⟩<;>rcases Mf h k f with⟨rfl,rfl⟩|⟨n,rfl,rfl⟩|⟨o,l,rfl,rfl⟩|⟨p,l,rfl,rfl⟩
 .show#[.none_none,.same _,.none_none]
 .show#[.none_bool _,.none_bool _,.none_bool _]
 .show#[.none_int _ _,.none_int _ _,.none_int _ _]
 .show#[.none_str _ _,.none_str _ _,.none_str _ _]
 .show#[.bool_none _,.bool_none _,.bool_none _]
 .show#[.bool_bool _ _,.bool_bool _ _,.bool_bool _ _]
 .show#[.bool_int _ _ _,.bool_int _ _ _,.bool_int _ _ _]
 .show#[.bool_str _ _ _,.bool_str _ _ _,.bool_str _ _ _]
 .show#[.int_none _ _,.int_none _ _,.int_none _ _]
 .show#[.int_bool _ _ _,.int_bool _ _ _,.int_bool _ _ _]
 .show#[.int_int _ _ _ _,.int_int _ _ _ _,.int_int _ _ _ _]
 .show#[.int_str _ _ _ _,.int_str _ _ _ _,.int_str _ _ _ _]
 .show#[.str_none _ _,.str_none _ _,.str_none _ _]
 .show#[.str_bool _ _ _,.str_bool _ _ _,.str_bool _ _ _]
 .show#[.str_int _ _ _ _,.str_int _ _ _ _,.str_int _ _ _ _]
 .show#[.str_str _ _ _ _,.str_str _ _ _ _,.str_str _ _ _ _]
theorem NX(S:Inv X pins I H s){N:Fb}:∀(n:Nat)(A:Ag)(x y:D)(vx vy:V)(u v:Aa),A.units+n<Av->A1 n x=J'->A1 n y=J'->Ay X.K N H x vx->Ay X.K N H y vy->RelV vx u->RelV vy v->KY A s u v (AS x y):=by
 intro n;induction n with|zero=>show YJ S|succ n ih=>
  intro A x y vx vy u v hu ox oy hx hy rx ry;let h:A.units<Av:=FA hu;let P:∀{g k:U D} {B ws:U V} {m F:U Aa},g.all (A1 n)=J'->k.all (A1 n)=J'->Ad X.K N H g B->Ad X.K N H k ws->Aq B m->Aq ws F->m.length=g.length/\F.length=k.length/\∀j (h1:j<m.toArray.size) (h2:j<F.toArray.size),EqAt A.in1 s m.toArray[j] F.toArray[j] (AS (g.getD j .non)<|k.getD j .non):=λox oy Q T Y r2=>by
   let l1:=Q.length.trans Y.length;let l2:=T.length.trans r2.length;apply#[l1.symm,l2.symm,λj h1 h2=>?_];let C:=h1;let G:=h2;rw[B3]at C G;rw[<- l1]at C;rw[<- l2]at G;let(w1,hw1,dw1):=Q.get<|Ch C;let(w2,hw2,dw2):=T.get<|Ch G;let(u1,hu1,ru1):=Y.get hw1;let(u2,hu2,ru2):=r2.get hw2;rw[YI h1 hu1,YI h2 hu2,Eg<|Ch C,Eg<|Ch G];show(ih A.in1 _ _ _ _ _ _ (by rw[NU];lia) (DK.mp ox _<|F7 C) (DK.mp oy _<|F7 G) dw1.p dw2.p ru1 ru2).2.1
  let con:∀{x:D} {v:V} {u:Aa},A1 (n+1) x=J'->Ay X.K N H x v->RelV v u->A1 0 x=J'\/(∃g a B m,x=.tup g/\u=.ref a/\g.all (A1 n)=J'/\Cb X.K H a B/\Ad X.K N H g B/\Aq B m/\s.heap.IsTuple a m.toArray)\/∃g a B m,x=.lst g/\u=.ref a/\g.all (A1 n)=J'/\BZ X.K H a B/\Ad X.K N H g B/\Aq B m/\s.heap.IsList a m.toArray:=λ{x v u} o h r=>by
   cases x with
   |tup g=>let(a,B,rfl,q,d):=h.tup;let(m,z,p,_):=S.tuple q;show .inr<|.inl ⟨g,a,B,m,rfl,r,o,q,d,z,p⟩
   |lst g f=>
    cases f with
    |l=>let(a,B,rfl,q,d):=h;let(m,z,p,_):=S.list q;show .inr<|.inr ⟨g,a,B,m,rfl,r,o,q,d,z,p.isList⟩
    |_=>simp[A1]at o
   |ty _=>simp[A1]at o
   |_=>show .inl rfl
  rcases con ox hx rx with L|⟨g,a1,B,m,rfl,rfl,L,q1,Q,Y,p1⟩|⟨g,a1,B,m,rfl,rfl,L,q1,Q,Y,p1⟩<;>rcases con oy hy ry with M|⟨k,a2,ws,F,rfl,rfl,M,q2,T,r2,w⟩|⟨k,a2,ws,F,rfl,rfl,M,q2,T,r2,w⟩
  .show YJ S A x y vx vy u v h L M hx hy rx ry
  .rcases Mf hx rx L with⟨rfl,rfl⟩|⟨b,rfl,rfl⟩|⟨i,t,rfl,rfl⟩|⟨c,t,rfl,rfl⟩<;>apply⟨?_,?_,?_⟩<;>first|show .none_tuple w h|show .bool_tuple _ w h|show .int_tuple _ _ w h|show .str_tuple _ _ w h
  .rcases Mf hx rx L with⟨rfl,rfl⟩|⟨b,rfl,rfl⟩|⟨i,t,rfl,rfl⟩|⟨c,t,rfl,rfl⟩<;>apply⟨?_,?_,?_⟩<;>first|show .none_list w h|show .bool_list _ w h|show .int_list _ _ w h|show .str_list _ _ w h
  .rcases Mf hy ry M with⟨rfl,rfl⟩|⟨b,rfl,rfl⟩|⟨i,t,rfl,rfl⟩|⟨c,t,rfl,rfl⟩<;>apply⟨?_,?_,?_⟩<;>first|show .tuple_none p1 h|show .tuple_bool _ p1 h|show .tuple_int _ _ p1 h|show .tuple_str _ _ p1 h
  .let(l1,l2,E):=P L M Q T Y r2;let k1:=RcAt.tuples (e:=λj=>AS (g.getD j .non)<|k.getD j .non) p1 w h E;let k2:=RcNeAt.tuples (e:=λj=>AS (g.getD j .non)<|k.getD j .non) p1 w h E;let e:((Bt<|min m.toArray.size F.toArray.size).all (λj=>AS (g.getD j .non)<|k.getD j .non)&&m.toArray.size==F.toArray.size)=CU g k:=by
    rw[B3,B3,l1,l2];by_cases R:g.length=k.length
    .rw[Tg R,R,Nat.min_self];simp
    .rw[Tf R,show(g.length==k.length)=O' by simp;show W.neN R,Bool.and_false]
   rw[e]at k1 k2;change KY _ _ _ _ (CU g k);apply#[k1,?_,k2];by_cases ea:a1=a2
   .subst ea;cases S.tuple_inj q1 q2;rw[NT S n g k _ L Q T,NS n k M];show .same _
   .show .of_refs ea k1
  .apply#[?_,?_,?_]<;>show .tuple_list p1 w h
  .rcases Mf hy ry M with⟨rfl,rfl⟩|⟨b,rfl,rfl⟩|⟨i,t,rfl,rfl⟩|⟨c,t,rfl,rfl⟩<;>apply⟨?_,?_,?_⟩<;>first|show .list_none p1 h|show .list_bool _ p1 h|show .list_int _ _ p1 h|show .list_str _ _ p1 h
  .apply#[?_,?_,?_]<;>show .list_tuple p1 w h
  .let(l1,l2,E):=P L M Q T Y r2;change KY _ _ _ _ (CU g k);let rc:RcAt A s (.ref a1) (.ref a2) (CU g k)/\RcNeAt A s (.ref a1) (.ref a2) (!CU g k):=by
    by_cases R:g.length=k.length
    .let hs:m.toArray.size=F.toArray.size:=by rw[B3,B3,l1,l2,R]
     let k1:=RcAt.lists (e:=λj=>AS (g.getD j .non)<|k.getD j .non) p1 w hs h E;let k2:=RcNeAt.lists (e:=λj=>AS (g.getD j .non)<|k.getD j .non) p1 w hs h E;rw[B3,l1,<- Tg R]at k1 k2;show⟨k1,k2⟩
    .rw[Tf R];let hne:(m.toArray.size != F.toArray.size)=J':=by rw[B3,B3];simp;lia
     show#[.lists_lengths p1 w hne h,.lists_lengths p1 w hne h]
   apply#[rc.1,?_,rc.2];by_cases ea:a1=a2
   .subst ea;cases S.list_inj q1 q2;rw[NT S n g k _ L Q T,NS n k M];show .same _
   .show .of_refs ea rc.1
end
def ZT:Nat:=12
@[simp]def CG(x y:D):O D:=if A1 ZT x&&A1 ZT y then Z (.bl (AS x y))else J
@[simp]def Co(x y:D):O D:=if A1 ZT x&&A1 ZT y then Z (.bl (!AS x y))else J
def PV(K:Ap)(neg:Bool):R2:=λx y H Q=>∃N a b,Ay K N H a x/\Ay K N H b y/\A1 ZT a=J'/\A1 ZT b=J'/\Q (.bl (if neg then !AS a b else AS a b)) H
section
variable{K:Ap}{M:Fb}{a b:Expr}{f g:AH}
theorem YK(j:X.A.units+64<Av):Cd X (Dz .Eq) (PV X.K O'):=by
 intro a s k H x y v u Q l b c zQ;let(N,d,e,f,g,h,i,q):=zQ;show(NX l ZT X.A d e x y v u (by unfold ZT;lia) h i f g b c).1 X.prog X.w X.xe _ #[.bl _,H,l,rfl,q]
theorem YL(j:X.A.units+64<Av):Cd X (Dz .NotEq) (PV X.K J'):=by
 intro a s k H x y v u Q l b c zQ;let(N,d,e,f,g,h,i,q):=zQ;show(NX l ZT X.A d e x y v u (by unfold ZT;lia) h i f g b c).2.2 X.prog X.w X.xe _ #[.bl _,H,l,rfl,q]
theorem YM:Ee K (PV K O') CG:=by
 intro N H x y b c d Q h f g e q;let(a,e):=Z7 e;rw[DC]at a;cases e;show#[N,b,c,f,g,a.1,a.2,q _ H (Ak.refl H) Hr]
theorem YN:Ee K (PV K J') Co:=by
 intro N H x y b c d Q h f g e q;let(a,e):=Z7 e;rw[DC]at a;cases e;show#[N,b,c,f,g,a.1,a.2,q _ H (Ak.refl H) Hr]
def Hs(x:D)(ys:U D):Bool:=ys.any λy=>AS y x
@[simp]def EH(neg:Bool)(x y:D):O D:=match y with
  |.lst a=>if A1 ZT x&&a.all (A1 ZT)then Z (.bl (if neg then !Hs x a else Hs x a))else J
  |.tup a=>if A1 ZT x&&a.all (A1 ZT)then Z (.bl (if neg then !Hs x a else Hs x a))else J
  |.str z=>match x with
   |.str w=>Z (.bl (if neg then !(!(Nt z w 0 z.length 1).isEmpty)else !(Nt z w 0 z.length 1).isEmpty))
   |_=>J
  |_=>J
def YO(K:Ap)(neg:Bool):R2:=λx y H Q=>∃N a b c p,Ay K N H a x/\y=.ref p/\(BZ K H p c\/Cb K H p c)/\Ad K N H b c/\A1 ZT a=J'/\b.all (A1 ZT)=J'/\Q (.bl (if neg then !Hs a b else Hs a b)) H
open Classical in
def Gr(K:Ap)(N:Fb)(H:Hp)(x:D)(u:Aa):Bool:=decide (∃d w,Ay K N H d w/\RelV w u/\AS d x=J')
theorem Th{a:A0}{H:Hp}{s:Ab}(j:Inv X a I H s){N:Fb}{x d:D}{w:V}(hd:Ay X.K N H d w)(r:RelV w u){n:Nat}(c:A1 n d=J'):Gr X.K N H x u=AS d x:=by
 classical
 cases e:AS d x with
 |true=>show @decide_eq_true _ (PN _) #[d,w,hd,r,e]
 |false=>
  apply @decide_eq_false _ (PN _) ?_
  intro zQ;let(f,h,b,g,i):=zQ
  have:=g.inj r
  subst this
  have:=YH j n d f _ c hd b
  simp_all
theorem Ti{a:A0}{I:St}{H:Hp}{s:Ab}(f:Inv X a I H s){N:Fb}{x:D}:∀{ys:U D}{vs:U V}{us:U Aa},Ad X.K N H ys vs->Aq vs us->ys.all (A1 ZT)=J'->us.any (Gr X.K N H x)=Hs x ys
 |[],_,_,h,r,_=>by erw[Ad]at h;subst h;cases r;rfl
 |y::ys,_,_,h,r,o=>by
  erw[List.all_cons,DC]at o;let(v,t,rfl,b,c):=h;cases r with
  |cons d e=>
   rw[List.any_cons,Th f b.p d o.1,Ti f c e o.2];rfl
theorem Tj{a:A0}{H:Hp}{s:Ab}(z:Inv X a I H s){N:Fb}{A:Ag}{x:D}{c:V}{v:Aa}(l:A.units+ZT<Av)(m:A1 ZT x=J')(n:Ay X.K N H x c)(o:RelV c v){ys:U D}{us:U Aa}(h:Ad X.K N H ys vs)(r:Aq vs us)(d:ys.all (A1 ZT)=J'):∀u∈us,SeqAt.EqAt A s u v (Gr X.K N H x u):=by
 intro u b;let(j,q):=List.getElem?_of_mem b;let t:=r.length;let e:=Ch (show j<vs.length by grind);let(w,f,g):=r.get e;rw[q]at f;cases f;let(y,i,k):=h.get' e;rw[Th z k.p g<|DK.mp d y<|LO i];show(NX z ZT A y x _ _ _ _ l (DK.mp d y<|LO i) m k.p n g o).2.1
theorem YP(b:Bool)(t:X.A.units+64<Av):Cd X (Dz (bif b then .NotIn else .In)) (YO X.K b):=by
 intro j s z H x y v u Q E k n zQ;let(N,c,B,C,p,l,rfl,d,hd,m,h,q):=zQ;cases n;let e:X.A.in1.units+ZT<Av:=by rw[NU];unfold ZT;lia
 rcases d with d|d
 .let(a,r,g,o):=E.list d;let f:∀w∈a.toArray,_:=λw i=>Tj E e m l k hd r h w (by exists i);cases b;all_goals
   first|apply SeqAt.in_listAt (Gr X.K N H c) g.isList f ⟨.bl _,H,E,rfl,?_⟩|apply SeqAt.notIn_listAt (Gr X.K N H c) g.isList f ⟨.bl _,H,E,rfl,?_⟩
   rw[show a.toArray.any (Gr X.K N H c)=a.any (Gr X.K N H c) by simp,Ti E hd r h];show q
 .let(a,r,g,o):=E.tuple d;let f:∀w∈a.toArray,_:=λw i=>Tj E e m l k hd r h w (by exists i);cases b;all_goals
   first|apply SeqAt.in_tupleAt (Gr X.K N H c) g f ⟨.bl _,H,E,rfl,?_⟩|apply SeqAt.notIn_tupleAt (Gr X.K N H c) g f ⟨.bl _,H,E,rfl,?_⟩
   rw[show a.toArray.any (Gr X.K N H c)=a.any (Gr X.K N H c) by simp,Ti E hd r h];show q
theorem YQ(b:Bool):Ee K (λx y H Q=>YO K b x y H Q\/∃i j,x=.str i/\y=.str j/\Q (.bl (if b then !(!(Nt j i 0 j.length 1).isEmpty)else !(Nt j i 0 j.length 1).isEmpty)) H) (EH b):=by
 intro N H x y n o d Q p f g e q;unfold EH at e;split at e
 .let(c,e):=Z7 e;rw[DC]at c;cases e;let(a,h,k,l,m):=g;show .inl #[N,n,_,h,a,f,k,.inl l,m,c.1,c.2,q _ H (Ak.refl H) Hr]
 .let(c,e):=Z7 e;rw[DC]at c;cases e;let(a,h,k,l,m):=g.tup;show .inl #[N,n,_,h,a,f,k,.inr l,m,c.1,c.2,q _ H (Ak.refl H) Hr]
 .split at e
  .cases e;show .inr #[_,_,f.str,g.str,q _ H (Ak.refl H) Hr]
  .cases e
 .cases e
@[simp]def F8(lt:D->D->O Bool):U D->U D->O Bool
  |[],[]=>Z O'
  |[],_::_=>Z J'
  |_::_,[]=>Z O'
  |x::a,y::b=>if A1 ZT x&&A1 ZT y then(if AS x y then F8 lt a b else lt x y)else J
@[simp]def ltN:Nat->D->D->O Bool
  |_,.int i,.int j=>Z (decide (i<j))
  |_,.str a,.str b=>Z (decide (a.cps.toList<b.cps.toList))
  |n+1,.tup c,.tup d=>F8 (ltN n) c d
  |n+1,.lst c .l,.lst d .l=>F8 (ltN n) c d
  |_,_,_=>J
@[simp]def Dj(x y:D):O D:=(ltN 6 x y).map D.bl
def YR(K:Ap):R2:=λx y H Q=>∃N a c b,Ay K N H a x/\Ay K N H c y/\ltN 6 a c=Z b/\Q (.bl b) H
abbrev YS(X:Cx)(N:Fb)(H:Hp)(s:Ab)(n:Nat):Prop:=∀(A:Ag)(x y:D)(a c:V)(u v:Aa)(b:Bool),A.units+n+ZT<Av->ltN n x y=Z b->Ay X.K N H x a->Ay X.K N H y c->RelV a u->RelV c v ->
  ∀(prog:AL) (d:Aj) (E Q:AR),Q (.bool b) s->wpAny (Ae prog d) A (richCompare .Lt u v) Q E s
theorem YT{i:A0}{H:Hp}{s:Ab}(S:Inv X i I H s){N:Fb}(n:Nat)(M:YS X N H s n)(A:Ag)(Y:A.units+n+1+ZT<Av){b:Bool}:∀(xs ys:U D)(a c:U V)(d f:U Aa),F8 (ltN n) xs ys=Z b->Ad X.K N H xs a->Ad X.K N H ys c->Aq a d->Aq c f->F1 A.in1 s d f b:=by
 intro xs;induction xs with
 |nil=>
  intro ys a c d f h j g v k;erw[Ad]at j;subst j;cases v;cases ys with
  |nil=>erw[Ad]at g;subst g;cases k;cases h;show .nn
  |cons y ys=>erw[Ad]at g;let(w,t,e,_,_):=g;subst e;cases k;cases h;show .nc
 |cons x xs z=>
  intro ys a c d f h j g v k;erw[Ad]at j;let(w1,t1,P,l,B):=j;subst P;cases v with
  |cons m C=>
   cases ys with|nil=>erw[Ad]at g;subst g;cases k;cases h;show .cn|cons y ys=>
    erw[Ad]at g;let(w2,t2,T,o,G):=g;subst T;cases k with
    |cons r F=>
     let(L,h):=Z7 h;rw[DC]at L;let u:=(NX S ZT A.in1 x y _ _ _ _ (by rw[NU];lia) L.1 L.2 l.p o.p m r).2.1;split at h
     .next e=>rw[e]at u;show .eq u<|z ys _ _ _ _ h B G C F
     .next e=>
      rw[PX]at e;rw[e]at u;show .ne u λprog R E Q q=>M A.in1 x y _ _ _ _ b (by rw[NU];lia) h l.p o.p m r prog R E Q q
open J in
theorem Tk{g:A0}{H:Hp}{s:Ab}(R:Inv X g I H s){N:Fb}(n:Nat):YS X N H s n:=by
 induction n with
 |zero=>
  intro A x y vx vy u v b hu h e f a c prog i E Q q;unfold ltN at h;split at h
  .cases h;rw[e.int]at a;rw[f.int]at c;let(t,rfl):=a;let(l,rfl):=c;show HT.rcLt_int A s _ _ _ _ prog i E Q q
  .cases h;rw[e.str]at a;rw[f.str]at c;let(t,rfl):=a;let(l,rfl):=c;show(PyProof.Rows.lt_str q:wpAny (Ae prog i) A (Dz .Lt _ _) Q E s)
  .next o=>cases o
  .next o=>cases o
  .cases h
 |succ n ih=>
  intro A x y vx vy u v b hu h e f a c prog i E Q q;let d:=YT (N:=N) R n ih A ∅ (b:=b);unfold ltN at h;split at h
  .cases h;rw[e.int]at a;rw[f.int]at c;let(t,rfl):=a;let(l,rfl):=c;show HT.rcLt_int A s _ _ _ _ prog i E Q q
  .cases h;rw[e.str]at a;rw[f.str]at c;let(t,rfl):=a;let(l,rfl):=c;show(PyProof.Rows.lt_str q:wpAny (Ae prog i) A (Dz .Lt _ _) Q E s)
  .next m p r w=>
   cases w;let(a1,z,B,C,G):=e.tup;let(a2,F,L,M,K):=f.tup;subst B L;cases a;cases c;let(j,T,p1,_):=R.tuple C;let(k,P,p2,_):=R.tuple M;show oF p1 p2 (by exists d p r _ _ _ _ h G K T P) ∅ q
  .next m p r w=>
   cases w;let(a1,z,B,C,G):=e;let(a2,F,L,M,K):=f;subst B L;cases a;cases c;let(j,T,((cls,dd,data,sl),n1,Y,hc1,hdd1,hd1),_):=R.list C;let(k,P,((cls2,dd2,data2,sl2),n2,ho2,hc2,hdd2,hd2),_):=R.list M;subst hc1 hd1 hc2 hd2;show oG Y ho2 (by exists d p r _ _ _ _ h G K T P) ∅ q
  .cases h
theorem Tl(j:X.A.units+64<Av):Cd X (Dz .Lt) (YR X.K):=by
 intro a s k H x y v u Q l c d zQ;let(N,e,f,b,g,h,i,q):=zQ;show Tk l 6 X.A e f x y v u b (by unfold ZT;lia) i g h c d X.prog X.w X.xe _ #[.bl b,H,l,rfl,q]
theorem Tn:Ee K (YR K) Dj:=by
 intro N H x y a c d Q i f g e q;let(b,h,e):=B8.mp e;cases e;show#[N,a,c,b,f,g,h,q _ H (Ak.refl H) Hr]
end
section
variable{K:Ap}{N:Fb}{H:Hp}
theorem Paired.one'{a b:Type}{F:a->b->Prop}{x:a}{vs:U b}(h:Paired F [x] vs):∃v,vs=[v]/\F x v:=by
 cases h with
 |cons r t=>cases t;show#[_,rfl,r]
theorem Paired.two'{a b:Type}{F:a->b->Prop}{x y:a}{vs:U b}(h:Paired F [x,y] vs):∃v w,vs=[v,w]/\F x v/\F y w:=by
 cases h with
 |cons r t=>
  let(w,e,q):=Paired.one' t;grind
@[simp]def Zp:Ed
  |[.lst a]=>Z (.int a.length)
  |[.tup a]=>Z (.int a.length)
  |[.str x]=>if x.length<=AB then Z (.int x.length)else J
  |_=>J
theorem YU:Gn K (λxs H Q=>∃x n,xs=[x]/\Xy K x H n/\Q (.int n) H) Zp:=by
 intro N H j k d Q l h e q;unfold Zp at e;split at e
 .cases e;let(v,rfl,b):=Paired.one' h;let(a,c,rfl,f,g):=b;show#[.ref a,_,rfl,.inl #[c,f,rfl],g.length ▸ q _ H (Ak.refl H) Fx]
 .cases e;let(v,rfl,b):=Paired.one' h;let(a,c,rfl,f,g):=b.tup;show#[.ref a,_,rfl,.inr #[c,f,rfl],g.length ▸ q _ H (Ak.refl H) Fx]
 .let(i,e):=Z7 e;cases e;let(v,rfl,b):=Paired.one' h;show#[v,_,rfl,b.str ▸ #[i,rfl],q _ H (Ak.refl H) Fx]
 .cases e
@[simp]def Mg:U D->A8
  |[.lst a]=>Z a
  |[.tup a]=>Z a
  |_=>J
theorem qC:PF K (λxs H Q=>∃p ys,xs=[.ref p]/\(BZ K H p ys\/Cb K H p ys)/\∀l,H l=J->Q (.ref l) (AI H l (.lst ys))) Mg:=by
 intro N H i j xs Q k h e q;unfold Mg at e;split at e
 .cases e;let(v,rfl,c):=Paired.one' h;let(a,b,rfl,d,f):=c;show#[a,b,rfl,.inl d,λl g=>q b l g f]
 .cases e;let(v,rfl,c):=Paired.one' h;let(a,b,rfl,d,f):=c.tup;show#[a,b,rfl,.inr d,λl g=>q b l g f]
 .cases e
@[simp]def EI:Ed
  |[.lst a]=>Z (.tup a)
  |[.tup a]=>Z (.tup a)
  |_=>J
theorem qD:Gn K (λxs H Q=>∃p ys,xs=[.ref p]/\((BZ K H p ys/\∀l,H l=J->Q (.ref l) (AI H l (.tup ys)))\/(Cb K H p ys/\Q (.ref p) H))) EI:=by
 intro N H j k d Q m h e q;unfold EI at e;split at e
 .cases e;let(v,rfl,f):=Paired.one' h;let(a,b,rfl,c,g):=f;show#[a,b,rfl,.inl #[c,λl i=>q _ _ (ZO i)<|NQ i g]]
 .cases e;let(v,rfl,f):=Paired.one' h;let(a,b,rfl,c,g):=f.tup;show#[a,b,rfl,.inr #[c,q _ _ (Ak.refl H) (by erw[Ax];show#[a,b,rfl,c,g])]]
 .cases e
def JR:U D->O (U Bool)
 |[]=>Z []
 |.bl b::r=>(JR r).map (b::·)
 |_=>J
theorem qE{bs:U Bool}(h:JR xs=Z bs):xs=bs.map D.bl:=by
 induction xs generalizing bs with
 |nil=>cases h;rfl
 |cons x r a=>cases x<;>first|cases h;done|(erw[JR,B8]at h;let(_,e,rfl):=h;rw[a e];rfl)
theorem YV:∀{bs:U Bool}{vs:U V},Ad K N H (bs.map D.bl) vs->vs=bs.map V.bl
 |[],_,h=>by simpa only[CW,Ad]using h
 |b::bs,_,h=>by
  let(v,r,e,a,t):=h;subst e a;rw[YV t];rfl
@[simp]def FC:Ed
  |[.lst a]=>(JR a).map λbs=>.bl (bs.all id)
  |_=>J
@[simp]def K1:Ed
  |[.lst a]=>(JR a).map λbs=>.bl (bs.any id)
  |_=>J
open J in
theorem YW{b:Bool}:Gn K (λxs H Q=>∃(a:Ac)(bs:U Bool),xs=[.ref a]/\BZ K H a (bs.map V.bl)/\Q (.bl (bif b then bs.all id else bs.any id)) H) (bif b then FC else K1):=by
 intro N H i j d Q k h e q;cases b;all_goals
  first|change FC _=_ at e;unfold FC at e|change K1 _=_ at e;unfold K1 at e
  split at e
  .next xs=>
   let(bs,g,rfl):=B8.mp e;let(v,rfl,a,l,rfl,c,f):=Paired.one' h;rw[qE g]at f;rw[YV f]at c;show#[a,bs,rfl,c,q _ H (Ak.refl H) Hr]
  .cases e
@[simp]def PY:Ed
  |[.int i,.int j]=>Z (.int (if j>i then j else i))
  |_=>J
@[simp]def PZ:Ed
  |[.int i,.int j]=>Z (.int (if j<i then j else i))
  |_=>J
theorem qF:Gn K (λxs H Q=>∃i j,xs=[.int i,.int j]/\Q (.int (if j>i then j else i)) H) PY:=by
 intro N H c f d Q g h e q;unfold PY at e;split at e
 .cases e;let(v,w,rfl,a,b):=Paired.two' h;show#[_,_,by rw[a.int,b.int],q _ H (Ak.refl H) Fx]
 .cases e
theorem qH:Gn K (λxs H Q=>∃i j,xs=[.int i,.int j]/\Q (.int (if j<i then j else i)) H) PZ:=by
 intro N H c f d Q g h e q;unfold PZ at e;split at e
 .cases e;let(v,w,rfl,a,b):=Paired.two' h;show#[_,_,by rw[a.int,b.int],q _ H (Ak.refl H) Fx]
 .cases e
@[simp]def intD:Ed
  |[.int i]=>Z (.int i)
  |[.bl k]=>Z (.int (if k then 1 else 0))
  |_=>J
theorem qI:Gn K (λxs H Q=>(∃i,xs=[.int i]/\Q (.int i) H)\/∃k,xs=[.bl k]/\Q (.int (if k then 1 else 0)) H) intD:=by
 intro N H b c d Q f h e q;unfold intD at e;split at e
 .cases e;let(v,rfl,a):=Paired.one' h;show .inl #[_,by rw[a.int],q _ H (Ak.refl H) Fx]
 .cases e;let(v,rfl,a):=Paired.one' h;show .inr #[_,by rw[a.bl],q _ H (Ak.refl H) Fx]
 .cases e
def Ht:U D->O (U Int)
 |[]=>Z []
 |.int b::r=>(Ht r).map (b::·)
 |_=>J
theorem YX{bs:U Int}(h:Ht xs=Z bs):xs=bs.map D.int:=by
 induction xs generalizing bs with
 |nil=>cases h;rfl
 |cons x r a=>cases x<;>first|cases h;done|(erw[Ht,B8]at h;let(_,e,rfl):=h;rw[a e];rfl)
theorem To:∀(ns:U Int),Ht (ns.map D.int)=Z ns
 |[]=>rfl
 |n::ns=>by erw[AU,Ht,To ns];rfl
theorem Tp:∀{bs:U Int}{vs:U V},Ad K N H (bs.map D.int) vs->vs=bs.map V.int
 |[],_,h=>by simpa only[CW,Ad]using h
 |b::bs,_,h=>by
  let(v,r,e,a,t):=h;subst e a;rw[Tp t];rfl
end
section
theorem qJ(g:X.calm=J'):ES X (.builtin "sum") (λxs H Q=>∃(a:Ac)(ns:U Int),xs=[.ref a]/\BZ X.K H a (ns.map V.int)/\Q (.int ns.sum) H):=by
 intro d s o H xs t Q x r zQ;let(a,ns,rfl,h,q):=zQ;let(u,rfl,i):=E5 r;cases i;let(b,e,p,v):=x.list h;let(c,f):=(Pt e).allInts.items;apply sum_intListG (x.ok.hd g) (f ▸ p.isList) λw j k l=>?_;let m:ns=c.toList.map (·.1):=by
  rw[<- nums_intItems,<- f];show(show numsOf b.toArray.toList=ns from(Pt e).numsOf).symm
 let n:preSum (numAt c) c.size=ns.sum:=by
  rw[preSum_eq,Hu (by simp),m]
 rw[n];show#[.int ns.sum,H,x.kept (t':=j) l,#[_,rfl],q]
theorem YY{b:Bool}(h:X.calm=J'):ES X (.builtin (bif b then "min" else "max")) (λxs H Q=>∃(a:Ac)(ns:U Int),xs=[.ref a]/\BZ X.K H a (ns.map V.int)/\0<ns.length/\∀m,m∈ns->(∀a,a∈ns->bif b then m<=a else a<=m)->Q (.int m) H):=by
 intro i s G H xs F Q M r zQ;let(a,ns,rfl,x,y,q):=zQ;let(u,rfl,z):=E5 r;cases z;let(A,k,p,L):=M.list x;let(d,e):=(Pt k).allInts.items;let f:ns=d.toList.map (·.1):=by rw[<- (Pt k).numsOf,<- nums_intItems,<- e]
 let c:0<d.size:=by
  grind
 cases b;all_goals
  first|apply min_intList (M.ok.hd h) (e ▸ p.isList) c λv B l n o=>?_|apply max_intList (M.ok.hd h) (e ▸ p.isList) c λv B l n o=>?_
  let(t,rfl):=intItems_at n;let C:=argBest_lt (numAt d)<|d.size-1;let E:=argBest_gt (numAt d)<|d.size-1;apply⟨.int _,H,M.kept (t':=l) o,⟨t,rfl⟩,q _ ?_ λb w=>?_⟩
  .rw[f,numAt_eq];show getD_mem (by rw[Bn,Kt];lia)
  .rw[f]at w;let(j,g,rfl):=mem_getD w;rw[Bn,Kt]at g;rw[<- numAt_eq];first|show C.2 j ((Nat.le_sub_one_iff_lt c).mpr g)|show E.2 j ((Nat.le_sub_one_iff_lt c).mpr g)
end
def P0:U Int->O Int
 |[]=>J
 |x::a=>Z (a.foldl (λm y=>if y<m then y else m) x)
def P1:U Int->O Int
 |[]=>J
 |x::a=>Z (a.foldl (λm y=>if y>m then y else m) x)
theorem YZ:∀(xs:U Int)(x:Int),(xs.foldl (λm y=>if y<m then y else m) x)∈x::xs/\∀a∈x::xs,(xs.foldl (λm y=>if y<m then y else m) x)<=a
 |[],x=>by simp
 |y::b,x=>by
  let(c,d):=YZ b<|if y<x then y else x;grind [Ba]
theorem Y0:∀(xs:U Int)(x:Int),(xs.foldl (λm y=>if y>m then y else m) x)∈x::xs/\∀a∈x::xs,a<=(xs.foldl (λm y=>if y>m then y else m) x)
 |[],x=>by simp
 |y::b,x=>by
  let(c,d):=Y0 b<|if y>x then y else x;grind [Ba]
theorem qK{ns:U Int}{m k:Int}(h:P0 ns=Z k)(b:m∈ns)(c:∀a,a∈ns->m<=a):m=k:=by
 cases ns with|nil=>cases h|cons x d=>
  cases h;grind [YZ]
theorem qM{ns:U Int}{m k:Int}(h:P1 ns=Z k)(b:m∈ns)(c:∀a,a∈ns->a<=m):m=k:=by
 cases ns with|nil=>cases h|cons x d=>
  cases h;grind [Y0]
section
variable{K:Ap}
@[simp]def NY:Ed
  |[.lst a]=>(Ht a).map λns=>.int ns.sum
  |_=>J
@[simp]def Mh:Ed
  |[.lst a]=>((Ht a).bind P0).map D.int
  |_=>J
@[simp]def Mi:Ed
  |[.lst a]=>((Ht a).bind P1).map D.int
  |_=>J
open J in
theorem qO:Gn K (λxs H Q=>∃(a:Ac)(ns:U Int),xs=[.ref a]/\BZ K H a (ns.map V.int)/\Q (.int ns.sum) H) NY:=by
 intro N H g i d Q j h e q;unfold NY at e;split at e
 .next xs=>
  let(bs,f,rfl):=B8.mp e;let(v,rfl,a,k,rfl,b,c):=Paired.one' h;rw[YX f]at c;rw[Tp c]at b;show#[a,bs,rfl,b,q _ H (Ak.refl H) Fx]
 .cases e
open J in
theorem Y1{b:Bool}:Gn K (λxs H Q=>∃(a:Ac)(ns:U Int),xs=[.ref a]/\BZ K H a (ns.map V.int)/\0<ns.length/\∀m,m∈ns->(∀a,a∈ns->bif b then m<=a else a<=m)->Q (.int m) H) (bif b then Mh else Mi):=by
 intro N H o p d Q r h e q;cases b;all_goals
  first|change Mh _=_ at e;unfold Mh at e|change Mi _=_ at e;unfold Mi at e
  split at e
  .next xs=>
   let(k,l,rfl):=B8.mp e;let(bs,n,c):=Cc.mp l;let(v,rfl,a,s,rfl,f,g):=Paired.one' h;rw[YX n]at g;rw[Tp g]at f;apply#[a,bs,rfl,f,?_,λm i j=>?_]
   .cases bs with
    |nil=>cases c
    |cons=>simp
   .first|rw[qK c i j]|rw[qM c i j]
    show q _ H (Ak.refl H) Fx
  .cases e
@[simp]def Mj:D->O String
  |.non=>Z "NoneType"
  |.bl _=>Z "bool"
  |.int _=>Z "int"
  |.str _=>Z "str"
  |.tup _=>Z "tuple"
  |.lst _=>Z "list"
  |.lst _ .d=>J
  |.lst _ (.i _ _)=>J
  |.ty _=>J
def Ml(t n:String):Bool:=t==n||(t=="bool"&&n=="int")
end
def Hv:U String:=["NoneType","bool","int","str","tuple","list"]
theorem Y2(K:Ap):∀t∈Hv,∀n∈Hv,PySem.W.kitOne K (.type t) (.type n)=Z (Ml t n):=by
 intro t a n b;erw[Hv,Bp,NZ,or_false]at a b;rcases a with rfl|rfl|rfl|rfl|rfl|rfl<;>rcases b with rfl|rfl|rfl|rfl|rfl|rfl<;>with_unfolding_all rfl
theorem Y3(K:Ap){t:String}(a:t∈Hv):∀(ns:U String),(∀n∈ns,n∈Hv)->PySem.W.kitAny K (.type t) (ns.map Value.type)=Z (ns.any λn=>Ml t n)
 |[],_=>rfl
 |n::ns,h=>by
  erw[AU,PySem.W.kitAny,Y2 K t a n<|h n Ba,Y3 K a ns λm b=>h m<|Bg _ b,List.any_cons];cases Ml t n<;>rfl
theorem Y4{d:D}{t:String}(h:Mj d=Z t):t∈Hv:=by
 cases d with
 |lst b a=>cases a<;>simp[Mj]at h;subst h;simp[Hv]
 |_=>simp[Mj]at h<;>subst h<;>simp[Hv]
section
variable{K:Ap}
theorem qP{h:A0}{H:Hp}{s:Ab}(A:Inv X h I H s){N:Fb}{d:D}{x:V}{t:String}(g:Ay X.K N H d x)(c:RelV x u)(f:Mj d=Z t):∃p:Am->Prop,PySem.W.KitX X.K u (.type t) p/\p s.heap/\u≠.builtin "__main__.__loader__#opaque":=by
 cases d with
 |non=>cases f;rw[g.non]at c;cases c;show#[_,PySem.W.kitx_none,trivial,λz=>nomatch z]
 |bl b=>cases f;rw[g.bl]at c;cases c;show#[_,PySem.W.kitx_bool,trivial,λz=>nomatch z]
 |int b=>cases f;rw[g.int]at c;let(t,rfl):=c;show#[_,PySem.W.kitx_int,trivial,λz=>nomatch z]
 |str b=>cases f;rw[g.str]at c;let(t,rfl):=c;show#[_,PySem.W.kitx_str,trivial,λz=>nomatch z]
 |ty n=>cases f
 |tup v=>
  cases f;let(a,w,e,q,r):=g.tup;subst e;cases c;let(j,_,(o,k,m,_),_):=A.tuple q;show#[_,PySem.W.kitx_tuple,#[o,k,m],λz=>nomatch z]
 |lst v y=>
  cases y with
  |d=>cases f
  |i _ _=>cases f
  |l=>
  cases f;let(a,w,e,q,r):=g;subst e;cases c;let(j,_,(o,n,k,m,_),_):=A.list q;show#[_,PySem.W.kitx_list,#[o,k,m],λz=>nomatch z]
@[simp]def Dk:D->O (U String)
  |.ty n=>Z [n]
  |.tup a=>tysL a
  |_=>J
where tysL:U D->O (U String)
 |[]=>Z []
 |.ty n::r=>(tysL r).map (n::·)
 |_=>J
theorem qQ{ns:U String}(h:Dk.tysL xs=Z ns):xs=ns.map D.ty:=by
 induction xs generalizing ns with
 |nil=>cases h;rfl
 |cons x r a=>cases x<;>first|cases h;done|(erw[Dk.tysL,B8]at h;let(_,e,rfl):=h;rw[a e];rfl)
@[simp]def CJ:Ed
  |[x,c]=>(Dk c).bind λns=>if(∀n∈ns,n∈Hv)then(Mj x).map λt=>.bl (ns.any λn=>Ml t n)else J
  |_=>J
def Y5(K:Ap):U V->Hp->VK->Prop:=λa H Q=>∃N d c x y ns t,a=[x,y]/\Ay K N H d x/\Ay K N H c y/\Dk c=Z ns/\(∀n∈ns,n∈Hv)/\Mj d=Z t/\Q (.bl (ns.any λn=>Ml t n)) H
theorem Y6{N:Fb}{H:Hp}:∀{ns:U String}{vs:U V},Ad K N H (ns.map D.ty) vs->vs=ns.map V.ty
 |[],_,h=>by simpa only[CW,Ad]using h
 |b::bs,_,h=>by
  let(v,r,e,a,t):=h;subst e a;rw[Y6 t];rfl
theorem Y7:∀{ns:U String}{us:U Aa},Aq (ns.map V.ty) us->us=ns.map Value.type
 |[],_,r=>by cases r;rfl
 |n::ns,_,r=>by
  cases r with
  |cons a b=>cases a;rw[Y7 b];rfl
theorem Y8:ES X (.builtin "isinstance") (Y5 X.K):=by
 intro k s L H m M Q zA r zQ;let(N,d,c,x,y,ns,t,rfl,o,l,b,f,h,q):=zQ;let(u,P,rfl,v,i):=Pp r;let(T,S,p,g):=qP zA o v h;cases c with
 |ty n=>
  cases b;rw[l.ty]at i;cases i;show PySem.W.kia_one S zA.kIn p (Y2 X.K t (Y4 h) n<|f n (by simp)) g λj=>#[.bl _,H,zA.tok j,rfl,by exists q]
 |tup m=>
  let e:=qQ b;subst e;let(a,R,e,w,dl):=l.tup;subst e;cases i;let(z,A,((cls,Y,data,sl),B,C,n,E),_):=zA.tuple w;subst C E;let G:=Y6 dl;subst G;let F:=Y7 A;subst F;show PySem.W.kia_tup S zA.kIn p B (Y3 X.K (Y4 h) ns f) g λj=>#[.bl _,H,zA.tok j,rfl,q]
 |non=>cases b
 |bl _=>cases b
 |int _=>cases b
 |str _=>cases b
 |lst _=>cases b
open J in
theorem Y9:Gn K (Y5 K) CJ:=by
 intro N H j k d Q l h e q;unfold CJ at e;split at e
 .next x c=>
  cases a:Dk c with|none=>rw[a]at e;cases e|some ns=>
   rw[a]at e;let(b,e):=Z7 e;let(t,f,e):=B8.mp e;cases e;let(v,w,rfl,g,i):=Paired.two' h;show#[N,x,c,v,w,ns,t,rfl,g,i,a,b,f,q _ H (Ak.refl H) Hr]
 .cases e
theorem ac{M:Fb}{x:Af}{n:String}(a:Gl X x)(b:X.mg x=J)(c:E4 x=Z (.type n))(d:x≠"__name__":=by ext)(hd:DV x:=by ext):JE X (.Name x pos) (tD K M H0 λ_=>Z (.ty n)):=#[L3 (li a b c (v:=.ty n) rfl d hd) λ_ _=>by erw[Ax]]
theorem qS{M:Fb}{x:Af}{v:V}{d:D}(b:Gl X x)(h:∃u,X.mg x=Z u/\RelV v u)(hd:∀N H,Ax K N H d v)(a:DV x:=by ext):JE X (.Name x pos) (tD K M H0 λ_=>Z d):=#[by
 let(u,c,r):=h;show L3 (Xb b c r a) hd]
end
section
variable{K:Ap}{M:Fb}{a b c e:Expr}{f g h:AH}
theorem vv(i:Nat){x:Af}(a:NV X i x:=by show Ec):PE X (.Name x pos) (tD K M H0 λρ=>Bq ρ i):=oK a
theorem qT(i:Nat){x:Af}(a:NV X i x:=by show Ec):JE X (.Name x pos) (tD K M H0 λρ=>Bq ρ i):=#[vv i a]
theorem vp(i:Nat){x:Af}(a:NV X i x:=by show Ec):PE X (.Name x pos) (tP K M H0 λρ=>Bo ρ i):=oM a
theorem qU(i:Nat){x:Af}(a:NV X i x:=by show Ec):JE X (.Name x pos) (tP K M H0 λρ=>Bo ρ i):=#[vp i a]
theorem vq(i:Nat){x:Af}(a:NV X i x:=by show Ec):PE X (.Name x pos) (tQ K M H0 λρ=>BR ρ i):=pQ a
theorem qV(i:Nat){x:Af}(a:NV X i x:=by show Ec):JE X (.Name x pos) (tQ K M H0 λρ=>BR ρ i):=#[vq i a]
theorem Tq(i:Nat){x:Af}(a:NV X i x:=by show Ec):JE X (.Name x pos) (L7 K M H0 λρ=>Ft ρ i):=#[pi a]
theorem qW(i:Nat){x:Af}{a:AC}(b:NV X i x:=by show Ec):JS X (.Return (Z (.Name x a)) pos) (tS K M H0 λρ=>Dh (D3 ρ i)):=#[Yv rfl (λ_=>rfl) Ma b]
theorem qX(e:X.A.units+64<Av)(c:JE X a (tP X.K M H0 f))(d:JE X b (tP X.K M H0 g)):JE X (.Compare a [.Eq] [b] pos) (tD X.K M H0 (Za CG f g)):=#[have c:=c.h;let d:=d.h;NE (YK e) YM c d<|He _ (by ext) (by ext)]
theorem qY(e:X.A.units+64<Av)(c:JE X a (tP X.K M H0 f))(d:JE X b (tP X.K M H0 g)):JE X (.Compare a [.Lt] [b] pos) (tD X.K M H0 (Za Dj f g)):=#[have c:=c.h;let d:=d.h;NE (Tl e) Tn c d<|He _ (by ext) (by ext)]
theorem qZ(e:X.A.units+64<Av)(c:JE X a (tP X.K M H0 f))(d:JE X b (tP X.K M H0 g)):JE X (.Compare a [.Gt] [b] pos) (tD X.K M H0 (Za EX f g)):=#[have c:=c.h;let d:=d.h;NE Xt (Md _) c d<|He _ (by ext) (by ext)]
theorem q0(e:X.A.units+64<Av)(c:JE X a (tP X.K M H0 f))(d:JE X b (tP X.K M H0 g))(i:Hf .In b=O':=by with_unfolding_all rfl):JE X (.Compare a [.In] [b] pos) (tD X.K M H0 (Za (EH O') f g)):=#[have c:=c.h;let d:=d.h;NE ((YP O' e).or mE) (YQ O') c d i]
theorem q5(e:X.A.units+64<Av)(c:JE X a (tP X.K M H0 f))(d:JE X b (tP X.K M H0 g)):JT X (.Compare a [.Eq] [b] pos) (BX X.K M H0 λρ=>AV (Za CG f g ρ)):=#[have c:=c.h;let d:=d.h;JD (YK e) YM c d<|He _ (by ext) (by ext)]
theorem q8(e:X.A.units+64<Av)(c:JE X a (tP X.K M H0 f))(d:JE X b (tP X.K M H0 g)):JT X (.Compare a [.NotEq] [b] pos) (BX X.K M H0 λρ=>AV (Za Co f g ρ)):=#[have c:=c.h;let d:=d.h;JD (YL e) YN c d<|He _ (by ext) (by ext)]
theorem q9(e:X.A.units+64<Av)(c:JE X a (tP X.K M H0 f))(d:JE X b (tP X.K M H0 g)):JT X (.Compare a [.Lt] [b] pos) (BX X.K M H0 λρ=>AV (Za Dj f g ρ)):=#[have c:=c.h;let d:=d.h;JD (Tl e) Tn c d<|He _ (by ext) (by ext)]
theorem ra(e:X.A.units+64<Av)(c:JE X a (tP X.K M H0 f))(d:JE X b (tP X.K M H0 g)):JT X (.Compare a [.Gt] [b] pos) (BX X.K M H0 λρ=>AV (Za EX f g ρ)):=#[have c:=c.h;let d:=d.h;JD Xt (Md _) c d<|He _ (by ext) (by ext)]
theorem rb(e:X.A.units+64<Av)(c:JE X a (tP X.K M H0 f))(d:JE X b (tP X.K M H0 g)):JT X (.Compare a [.GtE] [b] pos) (BX X.K M H0 λρ=>AV (Za NO f g ρ)):=#[have c:=c.h;let d:=d.h;JD mD (Md _) c d<|He _ (by ext) (by ext)]
theorem re(e:X.A.units+64<Av)(c:JE X a (tP X.K M H0 f))(d:JE X b (tP X.K M H0 g))(i:Hf .NotIn b=O':=by with_unfolding_all rfl):JT X (.Compare a [.NotIn] [b] pos) (BX X.K M H0 λρ=>AV (Za (EH J') f g ρ)):=#[have c:=c.h;let d:=d.h;JD ((YP J' e).or mF) (YQ J') c d i]
@[simp]def IJ(F b:D->D->O D)(f g h:AH):AH:=λa=>(f a).bind λx=>(g a).bind λy=>match F x y with
  |some (.bl J')=>(h a).bind λz=>b y z
  |some (.bl O')=>Z (.bl O')
  |_=>J
theorem rf{r s:R2}{F t:D->D->O D}(A:Ee K r F)(k:Ee K s t){H:Hp}{Q:VK}(q:tD K M H0 (IJ F t f g h) I H Q):Xv r s (tP K M H0 f) (tP K M H0 g) (tP K M H0 h) I H Q:=by
 let(b,d,R,e,q):=q;unfold IJ at e;cases i:f b with|none=>rw[i]at e;cases e|some x=>
  cases l:g b with|none=>rw[i,l]at e;cases e|some y=>
   rw[i,l]at e;erw[Df]at e;apply#[b,x,R,i,λv Y j B=>#[b,y,R.st j,l,λu C c m=>?_]];let R2:=(R.st j).st c;split at e
   .next n=>
    let(z,G,e):=Cc.mp e;show A _ C v u x y _ _ R2.nh (B.same c) m n λw E a o=>#[J',by simpa only[Ax]using o,KP #[b,z,R2.st a,G,λX P p L=>k _ P u X y z d Q (((R2.st a).st p)).nh ((m.same a).same p) L e λN S T W=>q N S ((((j.trans c).trans a).trans p).trans T) W]]
   .next n=>
    cases e;show A _ C v u x y _ _ R2.nh (B.same c) m n λw E a o=>#[O',by simpa only[Ax]using o,KQ<|q _ E ((j.trans c).trans a) Hr]
   .cases e
theorem ae{op d:CmpOp}{r m:R2}{F n:D->D->O D}(o:Cd X (Dz op) r)(e:Cd X (Dz d) m)(p:Ee K r F)(i:Ee K m n)(j:JE X a (tP K M H0 f))(k:JE X b (tP K M H0 g))(l:JE X c (tP K M H0 h))(s:lastMarks [op,d] [b,c]=O':=by with_unfolding_all rfl):JE X (.Compare a [op,d] [b,c] pos) (tD K M H0 (IJ F n f g h)):=#[have j:=j.h;let k:=k.h;let l:=l.h;(mI o e j k l s).mono λ_ _ _ q=>rf p i q]
@[simp]def ZV:O D->O Bool
  |some .non=>Z O'
  |some (.bl b)=>Z b
  |some (.int i)=>Z (i != 0)
  |some (.str y)=>if y.length<=AB then Z ((y.length:Int) != 0)else J
  |some (.lst a)=>Z (!a.isEmpty)
  |some (.tup a)=>Z (!a.isEmpty)
  |_=>J
theorem Ad.isEmpty{N:Fb}{H:Hp}(h:Ad K N H xs vs):vs.isEmpty=xs.isEmpty:=by
 cases xs with
 |nil=>erw[Ad]at h;subst h;rfl
 |cons x xs=>erw[Ad]at h;let(_,_,e,_):=h;subst e;rfl
theorem rg(i:JE X a (tP X.K M H0 f))(n:∀b,isTrue a X.env b=(do let v <- b;standAt a.pos;DY [v] (truthy v)):=by intro _;rfl):JT X a (BX X.K M H0 λρ=>ZV (f ρ)):=#[have i:=i.h;(mK i n).mono λt H Q o=>by
  let(ρ,k,R,e,q):=o;try dsimp only at e q
  unfold ZV at e;split at e
  .next c=>cases e;show#[ρ,_,R,c,λv d s g=>#[_,by rw[g.non];rfl,q d s]]
  .next c=>cases e;show#[ρ,_,R,c,λv d s g=>#[_,by rw[g.bl];rfl,q d s]]
  .next c=>cases e;show#[ρ,_,R,c,λv d s g=>#[_,by rw[g.int];rfl,q d s]]
  .next c=>
   let(r,e):=Z7 e;cases e;show#[ρ,_,R,c,λv d s g=>#[_,g.str ▸ #[r,rfl],q d s]]
  .next c=>
   cases e;apply#[ρ,_,R,c,λv d s g=>#[_,?_,q d s]];let(p,j,rfl,l,m):=g;show .inl #[j,l,by rw[m.isEmpty]]
  .next c=>
   cases e;apply#[ρ,_,R,c,λv d s g=>#[_,?_,q d s]];let(p,j,rfl,l,m):=g.tup;show .inr #[j,l,by rw[m.isEmpty]]
  .cases e]
@[simp]def Zs:D->A8
  |.lst a=>Z a
  |.tup a=>Z a
  |.str x=>Z (x.cps.toList.map λc=>D.str #[(T' [c])])
  |_=>J
theorem rh{l:Expr}(b:JE X l (tQ X.K M H0 f)):JI X tg l (tI X.K M H0 λρ=>(f ρ).bind Zs):=#[have b:=b.h;λa s c H g p m=>by
 let(ρ,j,R,e,q):=m;let(d,k,e):=Cc.mp e;cases d with
 |lst n o=>
  cases o with
  |d=>cases e
  |i _ _=>cases e
  |l=>show pT b a s c H g p #[ρ,j,R,by dsimp only;rw[k];show e,q]
 |tup n=>show pU b a s c H g p #[ρ,j,R,by dsimp only;rw[k];show e,q]
 |str x=>show pV b a s c H g p #[ρ,j,R,by dsimp only;rw[k];show e,q]
 |_=>cases e]
@[simp]def Mm(i:Nat)(o:A8)(ρ:VE):Dg:=match D3 ρ i,o with
  |some a,Z b=>if a.length+b.length<=AB then .next (ρ.set i (.own (a++b)))else .fail
  |_,_=>.fail
theorem ri{fl:VE->A8}{i:Nat}{x:Af}{c:AC}(g:JE X e (tF K M H0 fl))(y:NV X i x:=by show Ec)(z:DW (.Call (.Attribute (.Name x c) "extend" apos) [e] [] cpos) J pos.line X.env=Al O':=by rfl)(hz:BA X x c "extend" apos e cpos:=by show Yo):JS X (.Expr (.Call (.Attribute (.Name x c) "extend" apos) [e] [] cpos) pos) (tS K M H0 λρ=>Mm i (fl ρ) ρ):=#[have g:=g.h;(Nm (HR Mb PySem.F.slot_list_extend PySem.F.type_list_extend og (FZ y) (Z4 g Bf hz.s) hz.b hz.f hz.l hz.s hz.p) z).mono λG Q H A=>by
  let(ρ,R,q):=A;cases d:D3 ρ i with|none=>erw[d,Mm]at q;show BL q|some B=>
   cases j:fl ρ with|none=>erw[d,j,Mm]at q;show BL q|some k=>
    erw[d,j,Mm]at q;split at q
    .next hz=>
     let(a,m,t,P,L,u,v):=R.slot i _<|Ma d;apply⟨.ref a,(ZJ t),.inl ⟨rfl,m,.inl<|.inl u⟩,ρ,k,R,j,λp n N s C o w=>?_⟩;let(R2,E):=(R.st s).chg (ys:=B++k) (ws:=m++n) (Ma d) (ZJ t) ((v.same s).append<|w.nw λb r=>.inl<|.inl r);show⟨a,p,m,n,rfl,rfl,s _ _ u,o,by rw[<- v.length,<- (w.nw λb r=>.inl<|.inl r).length];show hz,q _ _ R2<|(Step.of_same s).trans E⟩
    .show BL q]
end
end Internal
variable{OL xs:U Internal.D}{ρ:Internal.VE}{fl k':Internal.Kd}{fa:Internal.DB}{lo:Internal.VE->O (O Int)}{fx:Internal.VE->O (Internal.D×Internal.VE)}{ss:U Internal.Sl}{ff:Internal.VE->O (U Internal.D)}
namespace Internal
theorem af{e:PySem.Expr}{t:TT}(h:JW X e t):JT X e t:=#[h.h.pt]
open PyProof.Rows PySem PySem.Spec
section
variable{K:Ap}
def P2(i:Nat)(b c:O D)(ρ:VE):Dg:=match D3 ρ i,b,c with
 |some a,Z (.int k),Z d=>match Eb a.length k with
  |some j=>.next (ρ.set i (.own (a.set j d)))
  |none=>.fail
 |_,_,_=>.fail
open J in
theorem rj{M:Fb}{i:Nat}{x:Af}{b c:AC}{g e:Expr}{fi f:AH}(n:JE X g (tP K M H0 fi))(o:JE X e (tD K M H0 f))(C:NV X i x:=by show Ec) (E:∀v,assign (.Subscript (.Name x b) g c) X.env v=(do
   let m <- DY [v] (Ar (.Name x b) X.env);let p <- DY [v,m] (Ar g X.env);standAt c
   DY [v,m,p] (setItem m p v)
   release [v,m,p] []):=by intro _;rfl) (G:swapsWithSole [.Subscript (.Name x b) g c] e pos.line X.env=Al O':=by rfl) (r:swappedStores [.Subscript (.Name x b) g c] e X.env=Al J:=by rfl) (W:(Gg [.Subscript (.Name x b) g c] X.env).map (·.2)=[assign (.Subscript (.Name x b) g c) X.env]:=by rfl):JS X (.Assign [.Subscript (.Name x b) g c] e pos) (tS K M H0 λρ=>P2 i (fi ρ) (f ρ) ρ):=#[have n:=n.h;let o:=o.h;(Pj o (Ph (FZ C) n X1 E) G r W).mono λD' I H F=>by
 let(ρ,R,q):=F;try dsimp only at q
 unfold P2 at q;split at q
 .next L k d u s N=>
  split at q
  .next j P=>
   apply#[ρ,d,R,N,λv H1 y Q=>?_];let t:=R.st y;let(a,z,A,z1,z2,T,B):=t.slot i _<|Ma u;apply⟨.ref a,(ZJ A),ρ,.int k,t,s,λw H2 l r=>?_⟩;let(S,Y):=(t.st l).chg (ys:=L.set j d) (ws:=z.set j v) (Ma u) (ZJ A) (Ad.set j (B.same l)<|Q.same l);show⟨a,z,k,j,rfl,r.int,l _ _ T,B.length ▸ P,q _ _ S<|(Step.of_same<|y.trans l).trans Y⟩
  .show BL q
 .show BL q]
def Tr(K:Ap)(r:V->U V->Hp->VK->Prop)(F:Af->Ed):Prop:=∀(N:Fb)(H:Hp)(z:Af)(c:U V)(e:U D)(d:D)(Q:VK),(∀a,N a->H a≠J)->Paired (Ay K N H) e c->F z e=Z d ->
 (∀v b,Ak H b->Ax K N b d v->Q v b)->r (.str z) c H Q
@[simp]def K2(F:Af->Ed)(f:AH)(b:DB):AH:=λa=>match f a with
  |some (.str z)=>((b a).bind Ho).bind (F z)
  |_=>J
section
variable{M:Fb}{e:Expr}{f:AH}{name:Af}{id:String}{r:V->U V->Hp->VK->Prop}{F:Af->Ed}
open J in
theorem ag(s:PlainAttrs "str")(slot:Slot "str" name id)(i:typeOf (.builtin id)=Al (.type "method_descriptor"))(t:ID X id r)(u:Tr X.K r F)(j:JE X o (tP X.K M H0 f))(k:JA X (e::es) (Dv X.K M H0 fa))(b:E8 o name X.env (Ar o X.env)=Ar o X.env:=by rfl) (g:((AE cpos (AK (e::es) X.env)).all (λx=>!x.1)&&(FQ cpos (FR [] X.env)).all (λx=>x.1.isSome) && decide ((e::es).length+([]:U DA).length+(if([]:U DA).isEmpty then 0 else 1)<30))=J':=by rfl) (c:(apos.endLine==cpos.line)=J':=by rfl) (y:AK (e::es) X.env=(O',Ar e X.env)::AK es X.env:=by show D2 rfl) (a:(AE cpos (AK es X.env)).any (·.1)=O':=by rfl):JE X (.Call (.Attribute o name apos) (e::es) [] cpos) (tD X.K M H0 (K2 F f fa)):=#[have j:=j.h;let k:=k.h;(HR s slot i t j k b g c y a).mono λY H Q A=>by
 let(l,d,R,ex,q):=A;unfold K2 at ex;split at ex
 .next z B=>
  cases m:fa l with|none=>rw[m]at ex;cases ex|some C=>
   rw[m]at ex;let(E,G,ex):=Cc.mp ex;apply#[l,.str z,R,B,λv H1 n zA=>?_];rw[zA.str];show#[rfl,l,C,R.st n,m,λP L p N=>u _ L z P E d Q ((R.st n).st p).nh (PH N G) ex λw S T W=>q w S ((n.trans p).trans T) W]
 .cases ex]
end
def JU:U D->O (U Af)
 |[]=>Z []
 |.str b::r=>(JU r).map (b::·)
 |_=>J
theorem rk{bs:U Af}(h:JU xs=Z bs):xs=bs.map D.str:=by
 induction xs generalizing bs with
 |nil=>cases h;rfl
 |cons x r a=>cases x<;>first|cases h;done|(erw[JU,B8]at h;let(_,e,rfl):=h;rw[a e];rfl)
@[simp]theorem ah:∀(ns:U Af),JU (ns.map D.str)=Z ns
  |[]=>rfl
  |n::ns=>by erw[AU,JU,ah ns];rfl
theorem ai{N:Fb}{H:Hp}:∀{bs:U Af}{vs:U V},Ad K N H (bs.map D.str) vs->vs=bs.map V.str
 |[],_,h=>by simpa only[CW,Ad]using h
 |b::bs,_,h=>by
  let(v,r,e,a,t):=h;subst e a;rw[ai t];rfl
@[simp]def P4(z:Af):Ed
  |[.lst b]=>(JU b).bind λa=>if(a.map (·.length)).sum+a.length*z.length<=16777216 then Z (.str (Txt.join z a))else J
  |_=>J
open J in
theorem rl:Tr K (Ye K) P4:=by
 intro N H z k l d Q m h e q;unfold P4 at e;split at e
 .next g=>
  cases b:JU g with|none=>rw[b]at e;cases e|some i=>
   rw[b]at e;let(j,e):=Z7 e;cases e;let(v,rfl,a,n,rfl,c,f):=Paired.one' h;rw[rk b]at f;rw[ai f]at c;show#[z,a,i,rfl,rfl,c,j,q _ H (Ak.refl H) PR]
 .cases e
@[simp]def N0(z:Af):Ed
  |[.str y]=>Z (.int (Txt.find z y))
  |_=>J
open J in
theorem rm:Tr K Yd N0:=by
 intro N H z b c d Q f h e q;unfold N0 at e;split at e
 .next y=>
  cases e;let(v,rfl,a):=Paired.one' h;show#[z,y,rfl,by rw[a.str],q _ H (Ak.refl H) Fx]
 .cases e
end
section
variable{H:Hp}{s:Ab}{h':Am}
theorem Inv.turnedL{f:U Ac}(A:Inv X pins I H s)(g:∀b∈f,Gj X pins H b)(k:∀b o,b∉f->s.heap.get? b=Z o->h'.get? b=Z o):Inv X pins I H {s with heap:=h' }:=by
 let d:∀b u,H b=Z u->b∉f:=λb u e z=>by rw[(g b z).1]at e;cases e
 apply A.step (g':=s.gens) (d':=s.drawn) (t':=s.toks) (ch:=f) (λb h=>?_) (λb o _ _ a e _=>k b o a e) (λb o _ _ a e _=>#[o.slots,k b o a e]) (λ_ _ _ _ n=>n)
  (λb o a e=>#[o,k b o a e]) (λ_ _ e=>e) (λ_ _ _ e=>e) (λb G e=>#[(T' []),by rw[e];simp]) (λm i=>?_) (λb u e=>?_) A.bare
 .let(_,j,_,l,p,t):=g b h;show#[l,j,p,t]
 .let(o,w,x,y,r):=i;show#[o,w,x,k _ o (λz=>(g _ z).2.1 rfl) y,r]
 .refine(A.hok b u e).stay (λc v a q=>k c v ?_ q) (λ_ q=>q) λ_ _ q=>q;rcases a with z|z
  .rw[z];show d b u e
  .show d c _ z
theorem Inv.yielded{g:U Ac}{p:Ac}(K:Inv X pins I H s)(i:∀b∈g,Gj X pins H b)(k:∀b o,b∉g->s.heap.get? b=Z o->h'.get? b=Z o)(j:s.heap.objs.size<=p) (new:A9 X.prog X.w (AI H p (.tup vs)) h' p (.tup vs)):Inv X pins I (AI H p (.tup vs)) {s with heap:=h' }:=by
 let d:∀b u,H b=Z u->b∉g:=λb u e z=>by rw[(i b z).1]at e;cases e
 let f:H p=J:=K.hok.fresh j;apply K.step (g':=s.gens) (d':=s.drawn) (t':=s.toks) (ch:=g) (λb h=>?_) (λb o _ _ a e _=>k b o a e) (λb o _ _ a e _=>#[o.slots,k b o a e]) (λb o _ e n=>?_)
  (λb o a e=>#[o,k b o a e]) (λb l e=>?_) (λb o u e=>?_) (λb F e=>#[(T' []),?_]) (λm t=>?_) (λb u e=>?_) K.bare
 .let(_,x,_,y,A,B):=i b h;show#[y,x,A,B]
 .rw[Zl<|Ca<|B7 (BK e) j];show n
 .rw[Zl<|Z2 e f];show e
 .rw[Zl<|Z2 e f];show e
 .rw[Zl<|Z2 e f,e];simp
 .let(o,C,E,G,r):=t;show#[o,C,E,k _ o (λz=>(i _ z).2.1 rfl) G,r]
 .by_cases h:b=p
  .subst h;rw[ZN]at e;cases e;show new
  .rw[Zl h]at e;refine(K.hok b u e).stay (λc v a q=>k c v ?_ q) (λc q=>Zl (Z2 q f) ▸ q) λc l q=>Zl (Z2 q f) ▸ q;rcases a with z|z
   .rw[z];show d b u e
   .show d c _ z
end
theorem rn:E4 "enumerate"=Z (.type "enumerate"):=by symm
def F9:Nat->U D->U D
 |_,[]=>[]
 |k,d::a=>.tup [.int k,d]::F9 (k+1) a
theorem Ts:∀(xs:U D)(k:Nat),(F9 k xs).length=xs.length
 |[],_=>rfl
 |_::xs,k=>by simp[F9,Ts xs]
theorem aj:∀(xs:U D)(k i:Nat),(F9 k xs)[i]?=(xs[i]?).map λd=>D.tup [.int ((k+i:Nat):Int),d]
 |[],_,_=>by simp[F9]
 |x::xs,k,0=>by simp[F9]
 |x::xs,k,i+1=>by
  erw[F9,FD,aj xs];rw[show k+1+i=k+(i+1) by lia]
abbrev T3:=KT×V×V
def DL:U T3->U V
 |[]=>[]
 |t::r=>t.2.1::t.2.2::DL r
def Z9:U T3->KT->O V
 |[],_=>J
 |t::r,k=>if t.1=k then Z t.2.2 else Z9 r k
def HY:U T3->KT->V->U T3
 |[],_,_=>[]
 |t::r,k,v=>(if t.1=k then(t.1,t.2.1,v)else t)::HY r k v
def Eh(tr:U T3)(k:KT)(kv v:V):U T3:=if(Z9 tr k).isSome=J' then HY tr k v else tr++[(k,kv,v)]
theorem ak(k:KT)(v:V):∀tr:U T3,(HY tr k v).map (·.1)=tr.map (·.1)
 |[]=>rfl
 |t::r=>by
  erw[HY,AU,ak k v r];split<;>rfl
theorem am{k:KT}:∀{tr:U T3},Z9 tr k=J->k∉tr.map (·.1)
 |[],_=>by simp
 |t::r,h=>by
  unfold Z9 at h;split at h
  .cases h
  .next e=>
   erw[AU,Bp,not_or];show#[λz=>e z.symm,am h]
theorem Mn{tr:U T3}{k:KT}{kv v:V}(h:(tr.map (·.1)).Nodup):((Eh tr k kv v).map (·.1)).Nodup:=by
 unfold Eh;split
 .rw[ak];show h
 .next e=>
  rw[DM,JV];apply#[h,by simp,λa c b d=>?_];let f:Z9 tr k=J:=by
   simp_all
  grind [am]
theorem ao(k:KT)(v:V):∀tr:U T3,(HY tr k v).length=tr.length
 |[]=>rfl
 |t::r=>by simp[HY,ao k v r]
theorem ap(tr:U T3)(k:KT)(kv v:V):(Eh tr k kv v).length<=tr.length+1:=by
 unfold Eh;split
 .rw[ao];show Hw tr.length 1
 .simp
theorem HZ{a:At}(h:RelV (Fk a) u):Jo a u=J':=by
 cases a with
 |non=>cases h;rfl
 |int i=>let(t,rfl):=h;show kR i t
 |str x=>let(t,rfl):=h;show kS x t
theorem ro{a:At}(h:Jo a u=J'):RelV (Fk a) u:=by
 rcases Jp h with⟨rfl,rfl⟩|⟨i,t,rfl,rfl⟩|⟨x,t,rfl,rfl⟩
 .rfl
 .show#[t,rfl]
 .show#[t,rfl]
abbrev RA:U T3->U (At×Aa)->Prop:=Paired λt u=>t.1=.at u.1/\t.2.1=Fk u.1/\RelV t.2.2 u.2
theorem aq{P:AL}{w:Aj}:∀{tr:U T3}{es:U Ix},Kp w (tr.map (·.1)) (DL tr) es->(∀t∈tr,∃a,t.1=KT.at a)->∃us,RA tr us/\Pairs (ZI P w) es us/\∀e∈es,∃k,(ZI P w).is k e.key=J'/\e.hash=(ZI P w).hash k
 |[],es,h,_=>by
  let(_,rfl):=h;show#[[],.nil,.nil,λ_ z=>nomatch z]
 |t::r,es,h,l=>by
  let(kv,v,q,e,n,c,o,f,p,g,d,s):=h;let(a,m):=l t Ba;erw[DL,List.cons.injEq]at c;let(c,i,b):=c;subst c i o b;dsimp only at g d;rw[m]at g d;let(us,u,x,y):=aq (P:=P) s λt A=>l t<|Bg _ A;rw[d]at f;apply⟨(a,e.val)::us,.cons ⟨m,d,p⟩ u,.cons (HZ f) rfl x,λB j=>?_⟩;rcases Bp.mp j with rfl|j
  .show#[a,HZ f,g]
  .show y B j
theorem rp{P:AL}{w:Aj}{tr:U T3}{us:U (At×Aa)}{es:U Ix}(h:RA tr us)(g:Pairs (ZI P w) es us)(a:∀e∈es,∃k,(ZI P w).is k e.key=J'/\e.hash=(ZI P w).hash k):Kp w (tr.map (·.1)) (DL tr) es:=by
 induction h generalizing es with|nil=>cases g;show#[rfl,rfl]|@cons t _ r _ h _ d=>
  let(b,c,f):=h;cases g with
  |@cons e _ es _ p1 i j=>
   apply#[t.2.1,t.2.2,DL r,e,es,rfl,rfl,?_,?_,?_,?_,d j λe l=>a e<|Bg _ l]
   .rw[c];show ro p1
   .rw[i];show f
   .let(k,m,n):=a e Ba;have:=(ZI P w).inj _ _ _ m p1;subst this;dsimp only;rw[b];show n
   .dsimp only;rw[b];show c
theorem RA.val{tr:U T3}{us:U (At×Aa)}(h:RA tr us)(a:At):Cu (Z9 tr (.at a)) (valueAt us a):=by
 induction h with|nil=>show HP|@cons t u _ _ h _ b=>
  unfold Z9 valueAt;rw[h.1,List.find?_cons];by_cases e:u.1=a
  .rw[if_pos (by rw[e])];erw[e,decide_true];show h.2.2
  .rw[if_neg<|λz=>e<|KT.at.inj z];erw[e,decide_false];show b
theorem Cu.isS:∀{o:O V}{u:O Aa},Cu o u->o.isSome=u.isSome
 |some _,Z _,_=>rfl
 |none,J,_=>rfl
 |some _,J,h=>h.elim
 |none,Z _,h=>h.elim
theorem RA.rep{a:At}{v:V}(d:RelV v u){tr:U T3}{us:U (At×Aa)}(h:RA tr us):RA (HY tr (.at a) v) (us.map λkv=>if kv.1=a then(kv.1,u)else kv):=by
 induction h with|nil=>show .nil|@cons t w _ _ h _ f=>
  apply .cons ?_ f;let(b,c,g):=h;dsimp only;by_cases e:w.1=a
  .rw[if_pos e,if_pos<|b.trans<|congrArg _ e];show⟨b,c,d⟩
  .rw[if_neg e,if_neg λz=>e<|KT.at.inj<|b.symm.trans z];show⟨b,c,g⟩
theorem Paired.snoc'{a b:Type}{F:a->b->Prop}{x:a}{y:b}(h:F x y){l:U a}{m:U b}(t:Paired F l m):Paired F (l++[x]) (m++[y]):=t.snoc h
theorem rq{us:U (At×Aa)}{a:At}:(us.any λkv=>decide (kv.1=a))=(valueAt us a).isSome:=by
 unfold valueAt;grind
theorem RA.put{tr:U T3}{us:U (At×Aa)}{a:At}{v:V}(h:RA tr us)(b:RelV v u):RA (Eh tr (.at a) (Fk a) v) (stored us a u):=by
 unfold Eh stored;rw[rq,(h.val a).isS];by_cases e:(valueAt us a).isSome=J'
 .rw[if_pos e,if_pos e];show h.rep b
 .rw[if_neg e,if_neg e];show Paired.snoc' #[rfl,rfl,b] h
theorem RA.fst{tr:U T3}{us:U (At×Aa)}(h:RA tr us):tr.map (·.1)=(us.map (·.1)).map KT.at:=by
 induction h with
 |nil=>rfl
 |cons h _ a=>rw[AU,AU,AU,h.1,a]
abbrev RT:U T3->U (U At×Ac×Aa)->Prop:=Paired λt u=>t.1=.tup u.1/\t.2.1=.ref u.2.1/\RelV t.2.2 u.2.2
theorem ar{P:AL}{w:Aj}:∀{tr:U T3}{es:U Ix},Kp w (tr.map (·.1)) (DL tr) es->(∀t∈tr,∃l,t.1=KT.tup l)->∃us,RT tr us/\es=us.map (entryOfKey (tupleKind (ZI P w)))
 |[],es,h,_=>by
  let(_,rfl):=h;show#[[],.nil,rfl]
 |t::r,es,h,f=>by
  let(kv,v,q,(k,m,n),o,b,s,g,u,c,d,x):=h;let(l,i):=f t Ba;erw[DL,List.cons.injEq]at b;let(b,e,a):=b;subst b e s a;dsimp only at c d;rw[i]at c d;let(us,y,z):=ar (P:=P) x λt A=>f t<|Bg _ A;let(p,j):=(d:∃p,t.2.1=.ref p);rw[j]at g;cases(g:m=Dx p);apply#[(l,p,n)::us,.cons #[i,j,u] y,?_];rw[AU,<- z];have:k=(KT.tup l).hash w:=c;rw[this];rfl
theorem rz{P:AL}{w:Aj}{tr:U T3}(h:RT tr us):Kp w (tr.map (·.1)) (DL tr) (us.map (entryOfKey (tupleKind (ZI P w)))):=by
 induction h with|nil=>show#[rfl,rfl]|@cons t _ r _ h _ a=>
  apply#[t.2.1,t.2.2,DL r,_,_,rfl,rfl,?_,h.2.2,?_,?_,a]
  .rw[h.2.1];rfl
  .dsimp only;rw[h.1];rfl
  .dsimp only;rw[h.1];show#[_,h.2.1]
theorem RT.val{tr:U T3}(h:RT tr us)(l:U At):Cu (Z9 tr (.tup l)) ((atKey us l).map (·.2)):=by
 induction h with|nil=>show HP|@cons t u _ _ h _ a=>
  unfold Z9 atKey;rw[h.1,List.find?_cons];by_cases e:u.1=l
  .rw[if_pos (by rw[e])];erw[e,decide_true];show h.2.2
  .rw[if_neg<|λz=>e<|KT.tup.inj z];erw[e,decide_false];show a
theorem RT.rep{l:U At}{v:V}(c:RelV v u){tr:U T3}(h:RT tr us):RT (HY tr (.tup l) v) (us.map (putAt l u)):=by
 induction h with|nil=>show .nil|@cons t w _ _ h _ d=>
  apply .cons ?_ d;let(a,b,f):=h;unfold putAt;by_cases e:w.1=l
  .rw[if_pos e,if_pos<|a.trans<|congrArg _ e];show⟨a,b,c⟩
  .rw[if_neg e,if_neg λz=>e<|KT.tup.inj<|a.symm.trans z];show⟨a,b,f⟩
theorem RT.put{tr:U T3}{l:U At}{p:Ac}{v:V}(h:RT tr us)(a:RelV v u):RT (Eh tr (.tup l) (.ref p) v) (storedH us l p u):=by
 unfold Eh storedH;let b:=(h.val l).isS;rw[Option.isSome_map]at b;rw[b];by_cases e:(atKey us l).isSome=J'
 .rw[if_pos e,if_pos e];show h.rep a
 .rw[if_neg e,if_neg e];show Paired.snoc' #[rfl,rfl,a] h
theorem RT.fst{tr:U T3}(h:RT tr us):tr.map (·.1)=(us.map (·.1)).map KT.tup:=by
 induction h with
 |nil=>rfl
 |cons h _ a=>rw[AU,AU,AU,h.1,a]
theorem au{c d:Type}{f:c->d}(e:∀a b,f a=f b->a=b):∀{l:U c},(l.map f).Nodup->l.Nodup
 |[],_=>List.nodup_nil
 |a::l,h=>by
  grind
def BV(K:Ap)(H:Hp):KT->V->Prop
 |.at a,v=>v=Fk a
 |.tup l,v=>∃p,v=.ref p/\Cb K H p (l.map Fk)
theorem aw{P:AL}{w:Aj}:∀{a:U At}{us:U Aa},Aq (a.map Fk) us->ItemsAre (ZI P w) a us
 |[],_,r=>by rw[CW]at r;cases r;show .nil
 |k::a,_,r=>by
  cases r with
  |cons h t=>show .cons (HZ h)<|aw t
def H9:KT->U T3->Prop
 |.at _,tr=>∀t∈tr,∃a,t.1=KT.at a
 |.tup _,tr=>∀t∈tr,∃l,t.1=KT.tup l
def CL(K:Ap)(H:Hp)(a:Ac)(tr:U T3):Prop:=Rd H a (.dct (tr.map (·.1)) (DL tr))/\∀t∈tr,BV K H t.1 t.2.1
section
variable{H:Hp}{s:Ab}{p:Ac}{y v:V}{r:Aa}{o:O V}{A:Ag}{tr:U T3}{k:KT}
theorem JX{l:U At}(e:Inv X pins I H s)(h:Cb X.K H p (l.map Fk)):(tupleKind (ZI X.prog X.w)).is s.heap l p:=by
 let(a,r,(o,b,c,n,d),_):=e.tuple h;show#[o,a.toArray,n,b,c,d,by exists aw r]
theorem N1(q:Inv X pins I H s)(h:CL X.K H a tr)(c:∀t∈tr,∃a,t.1=KT.at a):tr.length<=AB/\(a==Hd)=O'/\(tr.map (·.1)).Nodup/\∃us,RA tr us/\s.heap.DictOf (ZI X.prog X.w) a us:=by
 let(z,d,nd,o,f,g,i,j,k,l):=h.1.ok q.hok;let(us,b,m,n):=aq (P:=X.prog) l c;apply#[by simpa using z,d,nd,us,b,o,f,g,i,j,k,λe p=>n e (by exists p),m,?_];rw[b.fst]at nd;show au (λ_ _ z=>KT.at.inj z) nd
theorem Mo(L:Inv X pins I H s)(h:CL X.K H a tr)(j:∀t∈tr,∃l,t.1=KT.tup l):tr.length<=AB/\(a==Hd)=O'/\(tr.map (·.1)).Nodup/\∃us,RT tr us/\s.heap.DictOfH (tupleKind (ZI X.prog X.w)) a us:=by
 let(z,k,nd,o,n,d,r,v,y,A):=h.1.ok L.hok;let(us,f,B):=ar (P:=X.prog) A j;let c:=nd;rw[f.fst]at c;apply#[by simpa using z,k,nd,us,f,o,n,d,r,v,y,B,λx b=>?_,au (λ_ _ z=>KT.tup.inj z) c];let all:∀{l:U T3} {m:U (U At×Ac×Aa)},RT l m->(∀t∈l,BV X.K H t.1 t.2.1)->∀x∈m,(tupleKind<|ZI X.prog X.w).is s.heap x.1 x.2.1:=by
  intro l m q;induction q with|nil=>intro _ x b;show nomatch b|@cons t u F us g tl C=>
   intro i x b;rcases Bp.mp b with e|b
   .subst e;have:=i t Ba;rw[g.1,g.2.1]at this;let(p,d,E):=this;cases d;show JX L E
   .show C (λt G=>i t<|Bg _ G) x b
 show all f h.2 x b
theorem Cu.to:∀{v:V}{o:O Aa},Cu (Z v) o->∃w,o=Z w/\RelV v w
 |_,Z w,h=>#[w,rfl,h]
 |_,J,h=>h.elim
theorem rA{Q:AR}(t:A.units+1<Av)(F:Inv X pins I H s)(h:CL X.K H a tr)(j:H9 k tr)(m:BV X.K H k y)(n:RelV y u)(o:Z9 tr k=Z v)(q:∀d r,Inv X pins I H r->RelV v d->Q d r):wpAny (Ae X.prog X.w) A (getItem (.ref a) u) Q E s:=by
 cases k with
 | «at» b=>
  cases m;let(z,hd,nd,x,rel,f):=N1 F h j;let e:=rel.val b;rw[o]at e;let(d,g,c):=e.to;show wpAny_getItem_of (knd:=ZI X.prog X.w) (HZ n) f.mapOf g (q d _ (F.tok _) c)
 |tup l=>
  let(p,rfl,C):=m;cases(show u=Dx p from n);let(z,hd,nd,x,rel,f):=Mo F h j;let e:=rel.val l;rw[o]at e;let(d,g,c):=e.to;let(B,G,i):=B8.mp g;apply wpAny_getItem_heap (Mp t) (JX F C) f G ?_;rw[i];show q d _ (F.tok _) c
theorem ax(c:Bool){Q:AR}(g:A.units+1<Av)(f:Inv X pins I H s)(h:CL X.K H a tr)(i:H9 k tr)(j:BV X.K H k y)(e:RelV y u)(q:∀m,Inv X pins I H m->Q (.bool (bif c then !(Z9 tr k).isSome else(Z9 tr k).isSome)) m):wpAny (Ae X.prog X.w) A (Dz (bif c then .NotIn else .In) u (.ref a)) Q E s:=by
 cases k with
 | «at» b=>
  cases j;let(z,hd,nd,o,rel,d):=N1 f h i;rw[(rel.val b).isS]at q;cases c
  .show wpAny_in_of (knd:=ZI X.prog X.w) (HZ e) hd d.mapOf (q _<|f.tok _)
  .show wpAny_notIn_of (knd:=ZI X.prog X.w) (HZ e) hd d.mapOf (q _<|f.tok _)
 |tup l=>
  let(p,rfl,n):=j;cases(show u=Dx p from e);let(z,hd,nd,o,rel,d):=Mo f h i;rw[(rel.val l).isS,Option.isSome_map]at q;cases c
  .show wpAny_in_heap (Mp g) (JX f n) hd d<|q _<|f.tok _
  .show wpAny_notIn_heap (Mp g) (JX f n) hd d<|q _<|f.tok _
theorem Mq{h':Am}{c:HO}(i:Inv X pins I H s)(d:Nl (H a))(f:Eo a s.heap h')(g:∃q,h'.get? a=Z q)(new:A9 X.prog X.w (AI H a c) h' a c):Inv X pins I (AI H a c) {s with heap:=h',toks:=t' }:=i.write (x:=a) (e:=a) d (.inl rfl) (λb q h z=>(f.2 b h).trans z) g new
def D4(tr:U T3):HO:=.dct (tr.map (·.1)) (DL tr)
theorem Tt{P:AL}{w:Aj}{h':Am}{us:U (At×Aa)}(z:tr.length<=AB)(hd:(a==Hd)=O')(nd:(tr.map (·.1)).Nodup)(rel:RA tr us)(b:h'.DictOf (ZI P w) a us):A9 P w H' h' a (D4 tr):=by
 let(o,c,d,f,g,h,i,j,l):=b;show#[by simpa using z,hd,nd,o,c,d,f,g,h,rp rel j λe k=>i e (by exists k)]
theorem Tu{P:AL}{w:Aj}{h':Am}(z:tr.length<=AB)(hd:(a==Hd)=O')(nd:(tr.map (·.1)).Nodup)(rel:RT tr us)(b:h'.DictOfH (tupleKind (ZI P w)) a us):A9 P w H' h' a (D4 tr):=by
 let(o,c,d,e,f,g,h,i,j):=b;apply#[by simpa using z,hd,nd,o,c,d,e,f,g,?_];rw[h];show rz rel
theorem ay(b:Bool)(G:A.units+1<Av)(C:Inv X pins I H s)(e:H a=Z (D4 tr))(f:∀t∈tr,BV X.K H t.1 t.2.1)(i:H9 k tr)(L:BV X.K H k y)(x:RelV y u)(o:RelV v r)(N:tr.length<AB) (q:∀h' t',Inv X pins I (AI H a (D4 (Eh tr k y v))) {s with heap:=h',toks:=t' }->Eo a s.heap h'->Q () {s with heap:=h',toks:=t' }):wpAny (Ae X.prog X.w) (bif b then A.in1 else A) (bif b then dictSet a u r else setItem (.ref a) u r) Q E s:=by
 let h:(Eh tr k y v).length<=AB:=by have:=ap tr k y v;lia
 cases k with
 | «at» c=>
  cases L;let(z,hd,nd,B,rel,m):=N1 C #[.inl e,f] i;let n:B.length<=AB:=Hc rel ▸ z;cases b
  .show wpAny_setItem_pairs (knd:=ZI X.prog X.w) (hsz:=n) (HZ x) m λh' d g=>q _ _ (Mq C (e ▸ HP) g (let⟨q,_,_,j,_⟩:=d;#[q,j]) (Tt h hd (Mn nd) (rel.put o) d)) g
  .show wpAny_dictSet_pairs (knd:=ZI X.prog X.w) (hsz:=n) (HZ x) m λh' d g=>q _ _ (Mq C (e ▸ HP) g (let⟨q,_,_,j,_⟩:=d;#[q,j]) (Tt h hd (Mn nd) (rel.put o) d)) g
 |tup l=>
  let(p,rfl,M):=L;cases(show u=Dx p from x);let(z,hd,nd,B,rel,m):=Mo C #[.inl e,f] i;let n:B.length<=AB:=Hc rel ▸ z;cases b
  .show wpAny_setItem_heap (hsz:=n) (Mp G) (JX C M) m λh' d g=>q _ _ (Mq C (e ▸ HP) g (let⟨q,_,_,j,_⟩:=d;#[q,j]) (Tu h hd (Mn nd) (rel.put o) d)) g
  .show wpAny_dictSet_heap (hsz:=n) (Mp G) (JX C M) m λh' d g=>q _ _ (Mq C (e ▸ HP) g (let⟨q,_,_,j,_⟩:=d;#[q,j]) (Tu h hd (Mn nd) (rel.put o) d)) g
end
end Internal
namespace PySem
section
variable{prog:AL}{w:Aj}{K:Type}[DecidableEq K]{knd:HeapKind prog w K}{A:Ag}{s:Ab}
theorem rB{d:Ac}{xs:U (K×Ac×Aa)}{k:K}{v:Aa}{Q:AR}(l:knd.room A)(b:knd.is s.heap k a)(r:s.heap.DictOfH knd d xs)(hsz:xs.length<=AB)
  (t:∀p,atKey xs k=Z p->Q p.2 {s with toks:=s.toks+knd.draws k})
  (u:atKey xs k=J->∀h',h'.DictOfH knd d (storedH xs k a v)->Eo d s.heap h'->Q v {s with heap:=h',toks:=s.toks+knd.draws k}):
  wpAny (Ae prog w) A (dictSetDefault d (.ref a) v) Q E s:=by
 let(o,B,y,f,z,hd,i,h,m):=r
 unfold dictSetDefault
 try with_reducible apply Gi ?_
 apply Ao (knd.pyHash l b ?_)
 apply Ao (wpAny_dictFind_heap (s:={s with toks:=s.toks+knd.draws k}) l b f hd i h m ?_ ?_)
 .intro c
  let n:k∉xs.map (·.1):=not_mem_keys_of_get c
  apply Ao (FV (Ao (wpAny_updateDictKeys (hz:=by have e:=size_of_entries i;lia) (s:={s with toks:=s.toks+knd.draws k}) f hd (AW (u (atKey_none_of_get c) _ #[_,_,y+1,SH _ f (Obj.isFreed_of_dict (Obj.data_mapDictKeys hd _)),
   z.mapDictKeys _,Obj.data_mapDictKeys hd _,?_,?_,?_] (Mr ..))))))
  .rw[storedH_new (atKey_none_of_get c)]
   simp[i,entryOfKey]
  .rw[storedH_new (atKey_none_of_get c)]
   intro x g
   rcases Cj.mp g with g|g
   .show knd.keeps (h x g) f hd (Mr ..)
   .erw[Cw]at g
    subst g
    show knd.keeps b f hd (Mr ..)
  .rw[storedH_new (atKey_none_of_get c)]
   grind [DM,JV,AU,CW,Cw]
 .intro j p q
  apply Ao (wpAny_dictEntries (s:={s with toks:=s.toks+knd.draws k}) f hd ?_)
  rw[entry_at i j,q]
  show Ao (FV (AW (t p (atKey_of_get m q))))
theorem rC{k:K}(d:Ac)(hd:(d==Hd)=O')(dflt:Aa):
  MeetsIn prog w (Aw.«dict.setdefault» #[[.ref d,.ref a,dflt],[]]) (λA R s=>knd.room A.in1/\∃xs,knd.is s.heap k a/\s.heap.DictOfH knd d xs/\xs.length<=AB /\
   (∀p,atKey xs k=Z p->R (.ok (.ret p.2)) {s with toks:=s.toks+knd.draws k}) /\
   (atKey xs k=J->∀h',h'.DictOfH knd d (storedH xs k a dflt)->Eo d s.heap h'->R (.ok (.ret dflt)) {s with heap:=h',toks:=s.toks+knd.draws k})):=
 .of_wp λA R s g=>by
  let(h,xs,b,f,i,j,l):=g
  apply Ao ?_
  apply Ao (wpAny_notOrdered_dict f.typeIs ?_)
  apply AW ?_
  change wpAny _ _ (if(d==Hd)=J' then _ else(dictSetDefault d (.ref a) dflt >>= _)) _ _ s
  rw[if_neg (hd ▸ LF)]
  show Ao (rB h b f i (λp m=>AW #[p.2,rfl,j p m]) λn h' c e=>AW #[dflt,rfl,l n h' c e])
end
end PySem
namespace Internal
open PySem PySem.Spec PyProof.Rows
def az(K:Ap):R2:=λx y H Q=>∃a tr k v,x=.ref a/\CL K H a tr/\H9 k tr/\BV K H k y/\Z9 tr k=Z v/\Q v H
def Tv(K:Ap)(neg:Bool):R2:=λx y H Q=>∃a tr k,y=.ref a/\CL K H a tr/\H9 k tr/\BV K H k x/\Q (.bl (neg != (Z9 tr k).isSome)) H
def rD(K:Ap):Pg:=λo i v H Q=>∃a tr k,o=.ref a/\H a=Z (D4 tr)/\(∀t∈tr,BV K H t.1 t.2.1)/\H9 k tr/\BV K H k i/\tr.length<AB/\Q (AI H a (D4 (Eh tr k i v)))
def rE(K:Ap):V->U V->Hp->VK->Prop:=λx b H Q=>∃a tr k y z,x=.ref a/\b=[y,z]/\H a=Z (D4 tr)/\(∀t∈tr,BV K H t.1 t.2.1)/\H9 k tr/\BV K H k y/\tr.length<AB /\
 (∀v,Z9 tr k=Z v->Q v H)/\(Z9 tr k=J->Q z (AI H a (D4 (Eh tr k y z))))
theorem CL.typeIs{b:A0}{H:Hp}{s:Ab}{tr:U T3}(d:Inv X b I H s)(h:CL X.K H a tr):s.TypeIs (.ref a) "dict":=by
 let(_,_,_,o,_,_,e,c,_):=h.1.ok d.hok;show#[o,e,c.1]
section
theorem rF(o:X.A.units+64<Av):Hl X (az X.K):=by
 rintro b slice c s f H x y v u Q B g h ⟨a,tr,k,z,rfl,hd,i,j,l,q⟩ m;cases g;apply Ao ?_;apply Ao<|wpAny_specialOf (hd.typeIs B) PySem.F.slot_dict_getitem.lookup ?_;let fin:wpAny (Ae X.prog X.w) X.A (subscripted slice O' (.ref a) u) (λr d=>wpAny (Ae X.prog X.w) X.A (letTemporaryGo b (.ref a) r >>= λ_=>Al r) (EP X c f Q) X.xe d) X.xe s:=by
  rw[m];show wpAny_operating<|rA ∅ B hd i j h l λp t n e=>Ao<|wpAny_letTemporaryGo<|AW ⟨z,H,n,e,q⟩
 show AW<|Ao fin
theorem aA(h:X.A.units+64<Av):Cd X (Dz .In) (Tv X.K O'):=by
 intro b s i H x y v u Q l c d zQ;let(a,tr,k,rfl,hd,e,f,q):=zQ;cases d;show ax O' ∅ l hd e f c λj g=>#[.bl (Z9 tr k).isSome,H,g,rfl,by exists q]
theorem rG(h:X.A.units+64<Av):Cd X (Dz .NotIn) (Tv X.K J'):=by
 intro b s i H x y v u Q l c d zQ;let(a,tr,k,rfl,hd,e,f,q):=zQ;cases d;show ax J' ∅ l hd e f c λj g=>#[.bl<|!(Z9 tr k).isSome,H,g,rfl,by exists q]
theorem aB(n:X.A.units+64<Av):Sr X (rD X.K):=by
 intro c s p H o i v r t u Q y d f g zQ;let(a,tr,k,rfl,e,b,h,j,l,q):=zQ;cases d;show ay O' ∅ y e b h j f g l λw x m _=>#[_,m,q]
theorem aC(hu:X.A.units+64<Av):ID X "dict.setdefault" (rE X.K):=by
 intro P s I H x xs v h Q W Y rs zQ;let(a,tr,k,y,z,rfl,rfl,e,i,L,M,hl,N,R):=zQ
 cases Y
 let(u1,T,rfl,S,o):=rs.two
 let j:(Eh tr k y z).length<=AB:=by have:=ap tr k y z;show Bu this hl
 cases k with
 | «at» b=>
  cases M
  let(r,m,nd,h,rel,n):=N1 W #[.inl e,i] L
  let c:=rel.val b
  apply call_meetsIn Tw n.typeIs PySem.F.entry_dict_setdefault (PySem.F.args_dict_setdefault_3 _ _ _) (kt_meets_setdefault (ZI X.prog X.w) a (HZ S) m T)
   #[h,n,(show h.length<=AB by rw[<- Hc rel];show r),λv' t=>?_,λu B f g=>?_]
  .rw[t]at c
   cases d:Z9 tr (.at b)with
   |none=>rw[d]at c;show c.elim
   |some w=>rw[d]at c;show#[w,H,W.tok _,c,N w d]
  .rw[u]at c
   cases d:Z9 tr (.at b)with
   |some w=>rw[d]at c;show c.elim
   |none=>
    let C:∃q,B.get? a=Z q:=let⟨q,_,_,E,_⟩:=f;#[q,E]
    show#[z,_,Mq W (e ▸ HP) g C (Tt j m (Mn nd) (rel.put o) f),o,R d]
 |tup l=>
  let(p,rfl,sq):=M
  cases(show u1=Dx p from S)
  let(r,m,nd,h,rel,n):=Mo W #[.inl e,i] L
  let c:=rel.val l
  apply call_meetsIn Tw n.typeIs PySem.F.entry_dict_setdefault (PySem.F.args_dict_setdefault_3 _ _ _) (rC (knd:=tupleKind (ZI X.prog X.w)) (k:=l) a m T)
   #[Mp ∅,h,JX W sq,n,(show h.length<=AB by rw[<- Hc rel];show r),λp' G=>?_,λu B f g=>?_]
  .rw[G]at c
   cases d:Z9 tr (.tup l)with
   |none=>rw[d]at c;show c.elim
   |some w=>rw[d]at c;show#[w,H,W.tok _,c,N w d]
  .rw[u]at c
   cases d:Z9 tr (.tup l)with
   |some w=>rw[d]at c;show c.elim
   |none=>
    let C:∃q,B.get? a=Z q:=let⟨q,_,_,E,_⟩:=f;#[q,E]
    show#[z,_,Mq W (e ▸ HP) g C (Tu j m (Mn nd) (rel.put o) f),o,R d]
theorem Inv.big(b:Inv X pins I H s):Hd<s.heap.objs.size:=by
 show Jz (by ext)<|(b.mod.glob.keeps b.bk).lt
theorem IK:PE X (.Dict [] [] pos) (λ_ H Q=>∀p,H p=J->Q (.ref p) (AI H p (D4 []))):=λb s c H Q d h=>wpAny_Dict_empty #[.ref s.heap.objs.size,_,d.laid (a:=s.heap.objs.size) (o:=D4 []) (t':=s.toks) (λ_ _ q=>By _ q) (A4 _) #[ET _,beq_eq_false_iff_ne.mpr<|Bz<|Ca d.big,List.nodup_nil,_,(T' []),0,Cg _ rfl,⟨rfl,rfl,rfl⟩,rfl,rfl,rfl],rfl,h _<|d.hok.fresh<|A4 _]
end
def N2:D->O At
 |.non=>Z .non
 |.int i=>Z (.int i)
 |.str x=>Z (.str x)
 |_=>J
def Ms:U D->O (U At)
 |[]=>Z []
 |d::r=>(N2 d).bind λa=>(Ms r).map (a::·)
def Dl:D->O KT
 |.tup l=>(Ms l).map KT.tup
 |d=>(N2 d).map KT.at
def aD:At->D
 |.non=>.non
 |.int i=>.int i
 |.str x=>.str x
def kD:KT->D
 |.at a=>aD a
 |.tup l=>.tup (l.map aD)
theorem aE{d:D}{a:At}(h:N2 d=Z a):d=aD a:=by
 unfold N2 at h;split at h<;>cases h<;>rfl
theorem aF:∀{l:U D}{b:U At},Ms l=Z b->l=b.map aD
 |[],_,h=>by cases h;rfl
 |d::r,b,h=>by
  let(a,c,h):=Cc.mp h;let(bs,e,h):=B8.mp h;cases h;rw[AU,<- aE c,<- aF e]
open J in
theorem IL{d:D}{k:KT}(h:Dl d=Z k):d=kD k:=by
 unfold Dl at h;split at h
 .next l=>
  let(c,b,h):=B8.mp h;cases h;rw[aF b];rfl
 .let(a,b,h):=B8.mp h;cases h;rw[aE b];rfl
theorem rH(a:At):N2 (aD a)=Z a:=by cases a<;>rfl
theorem aG:∀(l:U At),Ms (l.map aD)=Z l
 |[]=>rfl
 |a::l=>by rw[AU];unfold Ms;rw[rH,aG l];rfl
@[simp]theorem N3(k:KT):Dl (kD k)=Z k:=by
  cases k with
  | «at» a=>cases a<;>rfl
  |tup l=>show(Ms<|l.map aD).map KT.tup=_;rw[aG];rfl
@[simp]theorem ZDV:Dl .non=Z (.at .non):=rfl
@[simp]theorem ZDU(i:Int):Dl (.int i)=Z (.at (.int i)):=rfl
@[simp]theorem ZDW(x:Af):Dl (.str x)=Z (.at (.str x)):=rfl
theorem rJ(a:At):SX (aD a)=a:=by cases a<;>rfl
theorem rK(k:KT):NC (kD k)=k:=by
 cases k with
 | «at» a=>cases a<;>rfl
 |tup l=>
  unfold kD NC;induction l<;>grind [rJ]
abbrev Bv:=U (KT×D)
variable{kvs:Bv}
def Zb:Bv->U D
 |[]=>[]
 |p::r=>kD p.1::p.2::Zb r
def EJ:U D->O Bv
 |[]=>Z []
 |k::v::r=>(Dl k).bind λa=>(EJ r).map ((a,v)::·)
 |_=>J
@[simp]theorem Ga:∀kvs:Bv,EJ (Zb kvs)=Z kvs
  |[]=>rfl
  |p::r=>by unfold Zb EJ;rw[N3,Ga r];rfl
@[simp]theorem ZDR:EJ []=Z []:=rfl
theorem GO:∀{xs:U D}{kvs:Bv},EJ xs=Z kvs->xs=Zb kvs
 |[],_,h=>by cases h;rfl
 |[_],_,h=>by cases h
 |k::v::r,kvs,h=>by
  let(c,a,h):=Cc.mp h;let(q,b,h):=B8.mp h;cases h;unfold Zb;rw[<- IL a,<- GO b]
theorem Tz:∀kvs:Bv,JC (Zb kvs)=kvs.map (·.1)
 |[]=>rfl
 |p::r=>by unfold Zb JC;rw[rK,Tz r];rfl
def Zu:Bv->KT->O D
 |[],_=>J
 |t::r,k=>if t.1=k then Z t.2 else Zu r k
def FE:Bv->KT->D->Bv
 |[],_,_=>[]
 |t::r,k,v=>(if t.1=k then(t.1,v)else t)::FE r k v
def ZW(kvs:Bv)(k:KT)(v:D):Bv:=if(Zu kvs k).isSome=J' then FE kvs k v else kvs++[(k,v)]
def Ev:KT->Bool
 |.at _=>J'
 |_=>O'
def DN(k:KT)(kvs:Bv):Bool:=kvs.all λp=>Ev p.1==Ev k
section
variable{K:Ap}{N:Fb}{H:Hp}
abbrev PD(K:Ap)(N:Fb)(H:Hp):Bv->U T3->Prop:=Paired λp t=>p.1=t.1/\Ax K N H (kD p.1) t.2.1/\Ax K N H p.2 t.2.2
theorem aH{a:At}{v:V}(h:Ax K N H (aD a) v):v=Fk a:=by cases a<;>simpa only[aD,Ax,Fk]using h
theorem aI:∀{l:U At}{vs:U V},Ad K N H (l.map aD) vs->vs=l.map Fk
 |[],_,h=>by simpa only[CW,Ad]using h
 |a::l,vs,h=>by
  let(v,r,e,b,c):=h;rw[e,aH b,aI c];rfl
theorem Ia{k:KT}{v:V}(h:Ax K N H (kD k) v):BV K H k v:=by
 cases k with| «at» a=>show aH h|tup l=>
  let(p,d,e,b,c):=h;rw[aI c]at b;show#[p,e,b]
theorem Hx{k:KT}{v:V}(h:Ay K N H (kD k) v):Ax K N H (kD k) v:=by
 cases k with
 | «at» a=>cases a<;>show h
 |tup l=>show h
theorem N4:∀{kvs:Bv}{vs:U V},Ad K N H (Zb kvs) vs->∃tr,vs=DL tr/\PD K N H kvs tr
 |[],vs,h=>#[[],by simpa only[Zb,Ad,DL]using h,.nil]
 |p::r,vs,h=>by
  let(v,t,e,a,b,i,c,d,f):=h;let(tr,g,q):=N4 f;show#[(p.1,v,b)::tr,by rw[e,c,g];rfl,.cons #[rfl,a,d] q]
theorem PD.flat{tr:U T3}(h:PD K N H kvs tr):Ad K N H (Zb kvs) (DL tr):=by
 induction h with
 |nil=>show Ad.nil
 |cons h _ a=>show Ad.cons h.2.1<|Ad.cons h.2.2 a
theorem PD.fst{tr:U T3}(h:PD K N H kvs tr):kvs.map (·.1)=tr.map (·.1):=by
 induction h with
 |nil=>rfl
 |cons h _ a=>rw[AU,AU,h.1,a]
theorem PD.keys{tr:U T3}(h:PD K N H kvs tr):∀t∈tr,BV K H t.1 t.2.1:=by
 induction h with|nil=>show λ_ h=>nomatch h|cons h _ b=>
  intro x a;rcases Bp.mp a with rfl|a
  .rw[<- h.1];show Ia h.2.1
  .show b x a
def K4(K:Ap)(N:Fb)(H:Hp):O D->O V->Prop
 |some d,Z v=>Ax K N H d v
 |none,J=>True
 |_,_=>False
theorem PD.val{tr:U T3}(h:PD K N H kvs tr)(k:KT):K4 K N H (Zu kvs k) (Z9 tr k):=by
 induction h with|nil=>show HP|cons h _ a=>
  unfold Zu Z9;rw[h.1];split
  .show h.2.2
  .show a
theorem K4.isS:∀{o:O D}{u:O V},K4 K N H o u->o.isSome=u.isSome
 |some _,Z _,_=>rfl
 |none,J,_=>rfl
 |some _,J,h=>h.elim
 |none,Z _,h=>h.elim
theorem PD.rep{k:KT}{d:D}{v:V}(hd:Ax K N H d v){tr:U T3}(h:PD K N H kvs tr):PD K N H (FE kvs k d) (HY tr k v):=by
 induction h with|nil=>show .nil|cons h _ a=>
  unfold FE HY;rw[h.1];apply .cons ?_ a;split
  .show#[rfl,h.1 ▸ h.2.1,hd]
  .show h
theorem PD.put{tr:U T3}{k:KT}{d:D}{kv v:V}(h:PD K N H kvs tr)(a:Ax K N H (kD k) kv)(hd:Ax K N H d v):PD K N H (ZW kvs k d) (Eh tr k kv v):=by
 unfold ZW Eh;rw[(h.val k).isS];split
 .show h.rep hd
 .show Paired.snoc' #[rfl,a,hd] h
theorem PD.hom{k:KT}:∀{kvs:Bv}{tr:U T3},PD K N H kvs tr->DN k kvs=J'->H9 k tr
 |_,_,.nil,_=>by cases k<;>show λ_ h=>nomatch h
 |p::kvs,t::tr,.cons ⟨g,_,_⟩ r,e=>by
  erw[DN,List.all_cons,DC]at e;let f:=PD.hom (k:=k) r e.2;let d:=e.1;rw[g]at d;cases k with
  | «at» a=>
   intro x c;rcases Bp.mp c with rfl|c
   .cases c:x.1 with
    | «at» b=>show#[b,rfl]
    |tup l=>rw[c]at d;cases d
   .show f x c
  |tup l=>
   intro x c;rcases Bp.mp c with rfl|c
   .cases c:x.1 with
    | «at» b=>rw[c]at d;cases d
    |tup l=>show#[l,rfl]
   .show f x c
theorem IM(h:Rd H a (.dct (JC (Zb kvs)) vs))(hd:Ad K N H (Zb kvs) vs):∃tr,CL K H a tr/\PD K N H kvs tr:=by
 let(tr,rfl,p):=N4 hd;rw[Tz,p.fst]at h;show#[tr,#[h,p.keys],p]
theorem JY{tr:U T3}(p:PD K N H kvs tr):CO K .d a (Zb kvs) (DL tr)=D4 tr:=by
 unfold CO D4;rw[Tz,p.fst]
end
def D5:D->D->O D
 |.lst b .d,y=>(EJ b).bind λa=>(Dl y).bind λk=>if DN k a then Zu a k else J
 |_,_=>J
@[simp]theorem aJ(kvs:Bv)(y:D):D5 (.lst (Zb kvs) .d) y=(Dl y).bind λk=>if DN k kvs then Zu kvs k else J:=by simp[D5]
@[simp]theorem ZCT(y:D):D5 (.lst [] .d) y=(Dl y).bind λk=>J:=by simp[D5,Zu]
def DO(neg:Bool):D->D->O D
 |y,.lst b .d=>(EJ b).bind λa=>(Dl y).bind λk=>if DN k a then Z (.bl (neg != (Zu a k).isSome))else J
 |_,_=>J
@[simp]theorem N5(neg:Bool)(kvs:Bv)(y:D):DO neg y (.lst (Zb kvs) .d)=(Dl y).bind λk=>if DN k kvs then Z (.bl (neg != (Zu kvs k).isSome))else J:=by simp[DO]
@[simp]theorem ZC5(neg:Bool)(y:D):DO neg y (.lst [] .d)=(Dl y).bind λk=>Z (.bl neg):=by simp[DO,Zu,DN]
section
variable{K:Ap}{M:Fb}{e a b:Expr}{f g:AH}
open J in
theorem rL:Ee K (az K) D5:=by
 intro N H x y s i d Q t f g e q;unfold D5 at e;split at e
 .next u=>
  let(j,l,e):=Cc.mp e;cases b:Dl i with|none=>rw[b]at e;cases e|some k=>
   rw[b]at e;let(m,e):=Z7 e;rw[GO l]at f;let(p,v,n,r,hd):=f;let(tr,o,h):=IM r hd;rw[IL b]at g;let a:=h.val k;rw[e]at a;cases c:Z9 tr k with
   |none=>rw[c]at a;show a.elim
   |some w=>rw[c]at a;show#[p,tr,k,w,n,o,h.hom m,Ia<|Hx g,c,q w H (Ak.refl H) a]
 .cases e
open J in
theorem TB{neg:Bool}:Ee K (Tv K neg) (DO neg):=by
 intro N H x y g n d Q o b c e q;unfold DO at e;split at e
 .next s=>
  let(h,i,e):=Cc.mp e;cases a:Dl g with|none=>rw[a]at e;cases e|some k=>
   rw[a]at e;let(j,e):=Z7 e;cases e;rw[GO i]at c;let(p,t,l,r,hd):=c;let(tr,m,f):=IM r hd;rw[IL a]at b;apply#[p,tr,k,l,m,f.hom j,Ia<|Hx b,?_];rw[<- (f.val k).isS];show q _ H (Ak.refl H) Hr
 .cases e
theorem rM(e:X.A.units+64<Av)(c:JE X a (tP X.K M H0 f))(d:JE X b (tP X.K M H0 g))(i:LW b):JE X (.Subscript a b pos) (tD X.K M H0 (Za D5 f g)):=#[have c:=c.h;let d:=d.h;Yn (rF e) rL c d i]
theorem rN(e:X.A.units+64<Av)(c:JE X a (tP X.K M H0 f))(d:JE X b (tP X.K M H0 g))(i:Hf .In b=O':=by with_unfolding_all rfl):JE X (.Compare a [.In] [b] pos) (tD X.K M H0 (Za (DO O') f g)):=#[have c:=c.h;let d:=d.h;NE (aA e) TB c d i]
theorem rO(e:X.A.units+64<Av)(c:JE X a (tP X.K M H0 f))(d:JE X b (tP X.K M H0 g))(i:Hf .In b=O':=by with_unfolding_all rfl):JT X (.Compare a [.In] [b] pos) (BX X.K M H0 λρ=>AV (Za (DO O') f g ρ)):=#[have c:=c.h;let d:=d.h;JD (aA e) TB c d i]
theorem rP(e:X.A.units+64<Av)(c:JE X a (tP X.K M H0 f))(d:JE X b (tP X.K M H0 g))(i:Hf .NotIn b=O':=by with_unfolding_all rfl):JT X (.Compare a [.NotIn] [b] pos) (BX X.K M H0 λρ=>AV (Za (DO J') f g ρ)):=#[have c:=c.h;let d:=d.h;JD (rG e) TB c d i]
theorem rQ:JE X (.Dict [] [] pos) (Fa .d K M H0 λ_=>Z []):=#[IK.mono λf H Q a p b=>by
 let(g,c,R,e,q):=a;cases e;show NF (xs:=[]) (vs:=[]) (fl:=.d) (Ak.refl H) b Ad.nil q]
def JZ(i:Nat)(ok b:O D)(ρ:VE):Dg:=match GK ρ i,ok,b with
 |some c,Z y,Z d=>match EJ c,Dl y with
  |some a,Z k=>if DN k a&&decide (a.length<AB)then .next (ρ.set i (.own (Zb (ZW a k d)) .d))else .fail
  |_,_=>.fail
 |_,_,_=>.fail
open J in
theorem rR{i:Nat}{x:Af}{b c:AC}{j e:Expr}{fi f:AH}(T:X.A.units+64<Av)(p:JE X j (tP X.K M H0 fi))(r:JE X e (tD X.K M H0 f))(S:NV X i x:=by show Ec) (Y:∀v,assign (.Subscript (.Name x b) j c) X.env v=(do
   let o <- DY [v] (Ar (.Name x b) X.env);let s <- DY [v,o] (Ar j X.env);standAt c
   DY [v,o,s] (setItem o s v)
   release [v,o,s] []):=by intro _;rfl) (hs:swapsWithSole [.Subscript (.Name x b) j c] e pos.line X.env=Al O':=by rfl) (m:swappedStores [.Subscript (.Name x b) j c] e X.env=Al J:=by rfl) (h1:(Gg [.Subscript (.Name x b) j c] X.env).map (·.2)=[assign (.Subscript (.Name x b) j c) X.env]:=by rfl):JS X (.Assign [.Subscript (.Name x b) j c] e pos) (tS X.K M H0 λρ=>JZ i (fi ρ) (f ρ) ρ):=#[have p:=p.h;let r:=r.h;(Pj r (Ph (FZ S) p (aB T) Y) hs m h1).mono λD' I H z0=>by
 let(ρ,R,q):=z0;try dsimp only at q
 unfold JZ at q;split at q
 .next xs y d E t hf=>
  split at q
  .next u k z hk=>
   split at q
   .next B=>
    rw[DC,decide_eq_true_eq]at B;apply#[ρ,d,R,hf,λv H1 G hv=>?_];let C:=R.st G;let ex:=GO z;subst ex;let(a,vs,W,z1,z2,F,L):=C.slot i _<|NG E;apply⟨.ref a,(ZJ W),ρ,y,C,t,λw H2 l m=>?_⟩;let(tr,dc,pd):=IM (K:=X.K) (.inl<|l _ _ F) (L.same l);let(n,rfl,g):=N4<|L.same l;rw[IL hk]at m;let N:=g.put (k:=k) (Hx m) (hv.same l);let(P,Q):=(C.st l).chg (fl2:=.d) (ys:=Zb<|ZW u k d) (ws:=DL<|Eh n k w v) (NG E) (ZJ W) N.flat;rw[JY N]at P Q;apply⟨a,n,k,rfl,?_,g.keys,g.hom B.1,Ia<|Hx m,Hc g ▸ B.2,q _ _ P<|(Step.of_same<|G.trans l).trans Q⟩;rw[<- JY g];show l _ _ F
   .show BL q
  .show BL q
 .show BL q]
end
theorem aK(k:KT)(v:D)(k':KT):∀kvs:Bv,Zu (FE kvs k v) k'=if k=k' then(Zu kvs k').map (λ_=>v)else Zu kvs k'
 |[]=>by simp[FE,Zu]
 |t::r=>by
  let a:=aK k v k' r;grind [FE,Zu]
theorem aL(k:KT):∀(a b:Bv),Zu (a++b) k=match Zu a k with|some v=>Z v|none=>Zu b k
 |[],b=>by simp[Zu]
 |t::r,b=>by
  let c:=aL k r b;grind [Zu]
theorem N6(kvs:Bv)(k:KT)(v:D)(k':KT):Zu (ZW kvs k v) k'=if k=k' then Z v else Zu kvs k':=by
 unfold ZW;by_cases h:(Zu kvs k).isSome=J'
 .rw[if_pos h,aK];by_cases e:k=k'
  .subst e;cases a:Zu kvs k with
   |none=>rw[a]at h;cases h
   |some w=>rfl
  .rw[if_neg e,if_neg e]
 .grind [aL,Zu]
theorem aM{k:KT}{v:D}{p:KT×D}:∀{kvs:Bv},p∈FE kvs k v->p∈kvs\/p=(k,v)
 |[],h=>nomatch h
 |t::r,h=>by
  rcases Bp.mp h with a|h
  .grind [Ba]
  .rcases aM h with h|h
   .show .inl<|Bg _ h
   .show .inr h
theorem TC{k:KT}{v:D}{p:KT×D}(h:p∈ZW kvs k v):p∈kvs\/p=(k,v):=by grind [ZW,aM]
theorem aN(k:KT)(v:D):∀kvs:Bv,(FE kvs k v).length=kvs.length
 |[]=>rfl
 |t::r=>by simp[FE,aN k v r]
theorem TD(kvs:Bv)(k:KT)(v:D):(ZW kvs k v).length<=kvs.length+1:=by
 unfold ZW;split
 .rw[aN];show Hw (Ky kvs) 1
 .simp
theorem P5(a:At)(h:∀p∈kvs,Ev p.1=J'):DN (.at a) kvs=J':=by
 unfold DN;rw[DK];intro p b;rw[h p b];rfl
theorem K5(l:U At)(h:∀p∈kvs,Ev p.1=O'):DN (.tup l) kvs=J':=by
 unfold DN;rw[DK];intro p a;rw[h p a];rfl
def tX(K:Ap)(M:Fb)(H0:Hp)(f:VE->O (D×VE)):TE:=λb H Q=>∃e d a,Bh K M H0 e b H/\f e=Z (d,a) /\
 ∀v c,Bh K M H0 a b c->Step M (Nf M e b) (Nf M a b) H c->Ax K (Nf M a b) c d v->Q v c
def aO(K:Ap)(M:Fb)(H0:Hp)(t:VE->O (Bool×VE)):TT:=λc H Q=>∃d b a,Bh K M H0 d c H/\t d=Z (b,a) /\
 ∀e,Bh K M H0 a c e->Step M (Nf M d c) (Nf M a c) H e->Q b e
def N7(i:Nat)(c e:AH):VE->O (D×VE):=λb=>match GK b i,c b,e b with
 |some f,Z y,Z d=>match EJ f,Dl y with
  |some a,Z k=>if DN k a&&decide (a.length<AB)then
    (match Zu a k with
    |some v=>Z (v,b)
    |none=>Z (d,b.set i (.own (Zb (ZW a k d)) .d)))
   else J
  |_,_=>J
 |_,_,_=>J
section
variable{K:Ap}{M:Fb}{e a b:Expr}{f g fk fv:AH}
open J in
theorem aP{i:Nat}{x:Af}{c:AC}(hu:X.A.units+64<Av)(r:JE X ek (tP X.K M H0 fk))(f:JE X ev (tD X.K M H0 fv))(hN:NV X i x:=by show Ec) (g:E8 (.Name x c) "setdefault" X.env (Ar (.Name x c) X.env)=Ar (.Name x c) X.env:=by rfl) (n:((AE cpos (AK [ek,ev] X.env)).all (λx=>!x.1)&&(FQ cpos (FR [] X.env)).all (λx=>x.1.isSome) && decide ([ek,ev].length+([]:U DA).length+(if([]:U DA).isEmpty then 0 else 1)<30))=J':=by rfl) (j:(apos.endLine==cpos.line)=J':=by rfl) (o:AK [ek,ev] X.env=(O',Ar ek X.env)::AK [ev] X.env:=by show D2 rfl) (p:AK [ev] X.env=(O',Ar ev X.env)::AK [] X.env:=by show D2 rfl) (t:(AE cpos (AK [ev] X.env)).any (·.1)=O':=by rfl):JE X (.Call (.Attribute (.Name x c) "setdefault" apos) [ek,ev] [] cpos) (tX X.K M H0 (N7 i fk fv)):=#[have r:=r.h;let f:=f.h;(HR aQ Tw PySem.F.type_dict_setdefault (aC hu) (FZ hN) (Z4 r (Z4 f Bf p) o) g n j o t).mono λI H Q z0=>by
  let(T,d,ρ',R,ex,q):=z0;unfold N7 at ex;split at ex
  .next xs y dv W z B=>
   split at ex
   .next l k C E=>
    let(G,ex):=Z7 ex;rw[DC,decide_eq_true_eq]at G;let zA:=GO C;subst zA;let(a,vs,Y,z1,z2,z3,z4):=R.slot i _<|NG W;apply⟨.ref a,(ZJ Y),(.inr<|.inr ⟨rfl,_,_,.inl z3⟩),T,y,R,z,λw H1 s1 P=>⟨T,dv,R.st s1,B,λv H2 L hv=>?_⟩⟩;let s:=s1.trans L;let(tr,rfl,m):=N4<|z4.same s;rw[IL E]at P;let b:=m.val k;apply#[a,tr,k,w,v,rfl,rfl,?_,m.keys,m.hom G.1,Ia<|Hx<|P.same L,Hc m ▸ G.2,λu N=>?_,λhn=>?_]
    .rw[<- JY m];show s _ _ z3
    .rw[N]at b;cases e:Zu l k with|none=>rw[e]at b;show b.elim|some d0=>
      rw[e]at b ex;cases ex;show q u H2 (R.st s) (Step.of_same s) b
    .rw[hn]at b;cases e:Zu l k with|some d0=>rw[e]at b;show b.elim|none=>
      rw[e]at ex;cases ex;let pp:=m.put (k:=k) (Hx<|P.same L) hv;let(R3,S):=(R.st s).chg (fl2:=.d) (ys:=Zb<|ZW l k d) (ws:=DL<|Eh tr k w v) (NG W) (ZJ Y) pp.flat;rw[JY pp]at R3 S;show q v _ R3 ((Step.of_same s).trans S)<|Ax.step S d v hv
   .cases ex
  .cases ex]
def N8(fx:VE->O (D×VE))(g:AH):VE->O (Bool×VE):=λc=>match fx c with
 |some (d,a)=>match g a with
  |some y=>(AV (Co d y)).map λb=>(b,a)
  |none=>J
 |none=>J
open J in
theorem rS(n:X.A.units+64<Av)(f:JE X a (tX X.K M H0 fx))(i:JE X b (tP X.K M H0 g)):JT X (.Compare a [.NotEq] [b] pos) (aO X.K M H0 (N8 fx g)):=#[have f:=f.h;let i:=i.h;(Xu (YL n) f i<|He _ (by ext) (by ext)).mono λo H Q r=>by
 let(s,l,c,R,ex,q):=r;unfold N8 at ex;split at ex
 .next d t x=>
  split at ex
  .next y z=>
   let(L,B,ex):=B8.mp ex;cases ex;apply#[s,d,c,R,x,λv N j C E=>#[c,y,j,z,λu G e k=>?_]];show YN (Nf M c o) G v u d y (.bl l) _ (j.st e).nh (E.p.same e) k (L5 B) λw P m F=>by
    show#[l,F,q P ((j.st e).st m)<|C.trans<|Step.of_same<|e.trans m]
  .cases ex
 .cases ex]
def P6(c:O (Bool×VE))(b d:AA):Dg:=match c with
 |some (J',a)=>b a
 |some (O',a)=>d a
 |none=>.fail
theorem rT{c:Expr}{s1 s2:U AG}{t:VE->O (Bool×VE)}{g i:AA}(b:JT X c (aO K M H0 t))(d:JB X s1 (tS K M H0 g))(e:JB X s2 (tS K M H0 i)):JS X (.If c s1 s2 pos) (tS K M H0 λρ=>P6 (t ρ) g i):=#[have b:=b.h;let d:=d.h;let e:=e.h;(Sq b d e).mono λm n H l=>by
 let(ρ,R,q):=l;try dsimp only at q
 cases f:t ρ with|none=>rw[f]at q;show BL q|some p=>
  let(k,a):=p;rw[f]at q;apply#[ρ,k,a,R,f,λo j S=>?_];cases k with
  |true=>apply KP ?_;show#[a,j,A6.from S q]
  |false=>apply KQ ?_;show#[a,j,A6.from S q]]
end
open PySem.W
section
variable(lt:Nat->Nat->Bool)
structure WO(n:Nat):Prop where
 asym:∀a b,a<n->b<n->lt a b=J'->lt b a=O'
 neg:∀a b c,a<n->b<n->c<n->lt a c=J'->lt a b=J'\/lt b c=J'
def N9(a b:Nat):Prop:=lt b a=O'
end
section
variable{lt:Nat->Nat->Bool}{n:Nat}(W:WO lt n)
include W
theorem WO.refl{a:Nat}(b:a<n):N9 lt a a:=by
 unfold N9;cases h:lt a a with
 |false=>rfl
 |true=>have:=W.asym a a b b h;rw[h]at this;cases this
end
abbrev As(p:Array Nat)(i:Nat):Nat:=p.getD i 0
def rV(lt:Nat->Nat->Bool)(p:Array Nat)(k:Nat):Prop:=∀i j,i<=j->j<k->N9 lt (As p i) (As p j)
def Bs(n:Nat)(p:Array Nat):Prop:=p.Perm (Bt n).toArray
theorem Bs.size{n:Nat}{p:Array Nat}(h:Bs n p):p.size=n:=by have:=h.size_eq;exists this
theorem Bs.lt{n:Nat}{p:Array Nat}(h:Bs n p){i:Nat}(c:i<n):As p i<n:=by
 let b:i<p.size:=Js c h.size.symm;have:=(h.mem_iff (a:=p[i])).mp (Array.getElem_mem b);simp_all
theorem IN{p q:Array Nat}{i:Nat}(h:p[i]?=q[j]?):As p i=As q j:=by
 simp_all
theorem K6{p:Array Nat}{i:Nat}(a:j<=p.size)(k:Nat):As (kas_rev p i j) k=if i<=k/\k<j then As p (i+j-1-k)else As p k:=by
 have:=getElem?_mirror_all (xs:=p) (i:=i) (j:=j) a k;by_cases h:i<=k/\k<j
 .rw[if_pos h]at this ⊢;show IN this
 .rw[if_neg h]at this ⊢;show IN this
theorem TF{p:Array Nat}{k d:Nat}(b:k<p.size)(hd:d<=k)(i:Nat):As (bubble p k d) i=if i=k-d then As p k else if k-d<i/\i<=k then As p (i-1)else As p i:=by
 have:=getElem?_bubble (xs:=p) (src:=k) b d hd i;by_cases h:i=k-d
 .rw[if_pos h]at this ⊢;show IN this
 .rw[if_neg h]at this ⊢;by_cases a:k-d<i/\i<=k
  .rw[if_pos a]at this ⊢;show IN this
  .rw[if_neg a]at this ⊢;show IN this
theorem Bs.rev{n:Nat}{p:Array Nat}(h:Bs n p)(i j:Nat):Bs n (kas_rev p i j):=(mirror_perm p i j _).trans h
theorem Bs.bub{n:Nat}{p:Array Nat}(h:Bs n p)(k d:Nat):Bs n (bubble p k d):=(bubble_perm p k d).trans h
section
variable{lt:Nat->Nat->Bool}{n:Nat}(W:WO lt n){cmp:Nat->Nat->(Bool->Ab->Prop)->Ab->Prop}{s:Ab}(hc:∀i j C,i<n->j<n->C (lt i j) s->cmp i j C s)
include W hc
open J in
open J in
open J in
open J in
end
section
variable{prog:AL}{w:Aj}{A:Ag}{s:Ab}
theorem rW{l b:Ac}{a:Array Aa}{r:Bool}{n n2:Nat}{f c:O Ac}{g d:Array (O Aa)}{Q:Bool->Ab->Prop}(e:s.heap.get? l=Z {cls:=.type "list",dict:=f,data:=.seq items n,slots:=g})(i:s.heap.get? b=Z {cls:=.type "list",dict:=c,data:=.seq a n2,slots:=d})(j:F1 A.in1 s items.toList a.toList r) (k:A.units<Av) (h:Q r s):wpAny (Ae prog w) A (oneLt' J' (.ref l) (.ref b)) Q E s:=by
 rw[oneLt'_eq];apply Ao<|wpAny_cRoomFor k ?_;apply Ao<|wpAny_callSpecialIfBound?_slot (T:="list") #[_,e,rfl] PySem.F.slot_list_lt (BY PySem.F.slot_list_lt #[_,e,rfl] PySem.F.entry_list_lt (PySem.F.args_list_lt_2 _ _) (Yg l b items a n n2 f c g d r) #[e,i,j,?_]);show Jq h
end
section
variable{H:Hp}{s:Ab}{N:Fb}
theorem rX(S:Inv X pins I H s){prog:AL}{w:Aj}(A:Ag)(hu:A.units+40<Av)(b fin:Bool){Q:Bool->Ab->Prop}:∀(xs ys:U D)(a c:U V)(d f:U Aa)(i:Nat)(r:Bool),F8 (ltN 5) xs ys=Z r->Ad X.K N H xs a->Ad X.K N H ys c->Aq a d->Aq c f->fin=decide (xs.length<ys.length)->(b=O'\/i≠0\/((∀x,xs.head?=Z x->∃n,x=.int n)/\∀y,ys.head?=Z y->∃n,y=.int n))->Q r s->KatLex prog w A b fin Q (d.zip f) i s:=by
 intro xs;induction xs with
 |nil=>
  intro ys a c d f i r h m o C E t T q;erw[Ad]at m;subst m;cases C;apply kat_nil ?_;cases ys with
  |nil=>erw[F8]at h;cases h;rw[t];show q
  |cons y ys=>erw[F8]at h;cases h;rw[t];exists q
 |cons x xs R=>
  intro ys a c d f i r h m o C E t T q;erw[Ad]at m;let(w1,t1,Y,g,G):=m;subst Y;cases C with
  |cons j F=>
   cases ys with
   |nil=>
    erw[Ad]at o;subst o;cases E;erw[F8]at h;cases h;show kat_nil (by rw[t];exists q)
   |cons y ys=>
    erw[Ad]at o;let(w2,t2,e2,k,L):=o;subst e2;cases E with
    |cons l M=>
     let(P,h):=Z7 h;rw[DC]at P;let v:=(NX S ZT A x y _ _ _ _ (by unfold ZT;lia) P.1 P.2 g.p k.p j l).2.1;apply kat_cons ?_;split at h
     .next e=>
      rw[e]at v;apply v prog w _ _ ?_;unfold KatGo;show R ys _ _ _ _ (i+1) r h G L F M (by rw[t];simp) (.inr<|.inl<|Bz<|Nat.zero_ne_add_one i) q
     .next e=>
      rw[PX]at e;rw[e]at v;apply v prog w _ _ ?_;apply kat_no ?_;by_cases B:(b&&i==0)=J'
      .rw[B];let u:b=J'/\i=0:=by exists B
       rcases T with z|z|⟨z1,z2⟩
       .rw[u.1]at z;cases z
       .show absurd u.2 z
       .let(n1,rfl):=z1 x rfl;let(n2,rfl):=z2 y rfl;let g1:=g.p.int;let g2:=k.p.int;subst g1 g2;let(k1,rfl):=j;let(k2,rfl):=l;cases h;show oneLt_int q
      .rw[PX]at B;rw[B];show kat_one _ _<|Tk S 5 A x y _ _ _ _ r (by unfold ZT;lia) h g.p k.p j l prog w _ (PySem.W.BoolBack Q) q
def Cp(b:O Bool)(k:D):Prop:=match b with
 |some J'=>∃i r,k=.tup (.int i::r)
 |some O'=>∃f r,k=.tup (.tup f::r)
 |none=>∃r,k=.lst r
abbrev Oa:O Bool->Gb
 |some b=>tuples' b
 |none=>oneType'
theorem Cp.tup{b:Bool}{k:D}(h:Cp (Z b) k):∃f r,k=.tup (f::r):=by
 cases b with
 |true=>let(i,r,e):=h;show#[_,_,e]
 |false=>let(i,r,e):=h;show#[_,_,e]
theorem rY(S:Inv X pins I H s){prog:AL}{w:Aj}(A:Ag)(B:A.units+40<Av)(b r:Bool){k l:D}{v x:V}{y z:Aa}{Q:Bool->Ab->Prop}(h:ltN 6 k l=Z r)(m1:Cp (Z b) k)(m2:Cp (Z b) l) (C:Ax X.K N H k v) (G:Ax X.K N H l x) (F:RelV v y) (L:RelV x z) (q:Q r s):wpAny (Ae prog w) A (keyLt' (tuples' b) y z) Q E s:=by
 let(M,P,i):=m1.tup;let(T,R,j):=m2.tup;subst i j;let(a1,m,i,Y,d):=C;let(a2,n,j,q2,e):=G;subst i j;cases F;cases L;let(a,f,(o1,o,_,n1,p),_):=S.tuple Y;let(c,g,(o2,t,_,n2,u),_):=S.tuple q2;apply kat_lt o p t u ?_;have:=rX S (prog:=prog) (w:=w) (N:=N) A B b (decide<|a.toArray.size<c.toArray.size) (Q:=Q) (M::P) (T::R) m n a c 0 r h d e f g (by rw[B3,B3,<- f.length,<- g.length,<- d.length,<- e.length]) (by
  cases b with|false=>show .inl rfl|true=>
   let(i1,_,i):=m1;let(i2,_,j):=m2;grind) q
 exists this
theorem rZ(S:Inv X pins I H s){prog:AL}{w:Aj}(A:Ag)(R:A.units+40<Av)(b:O Bool)(r:Bool){a c:D}{u v:V}{x y:Aa}{Q:Bool->Ab->Prop}(h:ltN 6 a c=Z r)(m1:Cp b a)(m2:Cp b c) (z:Ax X.K N H a u) (B:Ax X.K N H c v) (C:RelV u x) (G:RelV v y) (q:Q r s):wpAny (Ae prog w) A (keyLt' (Oa b) x y) Q E s:=by
 cases b with|some b=>show rY S A R b r h m1 m2 z B C G q|none=>
  let(Y,d):=m1;let(g2,e):=m2;subst d e;let(a1,vs1,d,q1,f):=z.p;let(a2,vs2,e,q2,g):=B.p;subst d e;cases C;cases G;let(F,i,((cls,dd,data,sl),n1,j,k,L,l),_):=S.list q1;let(M,m,((P,dd2,data2,sl2),n2,n,o,T,t),_):=S.list q2;subst k l o t;show rW j n (by exists YT S 5 (Tk S 5) A (by unfold ZT;lia) Y g2 _ _ _ _ h f g i m) ∅ q
open J in
theorem r0(S:Inv X pins I H s){M:Model}(b:Bool):∀(c:U D)(kvs:U V)(us:U Aa),Ad X.K N H c kvs->Aq kvs us->(∀k∈c,Cp (Z b) k)->∃j,KatTups s.heap us j/\j.length=us.length/\∀v∈j,Looks M s.heap (typeOf v) (.type (if b then "int" else "tuple")):=by
 intro c;induction c with
 |nil=>
  intro kvs us d r _;erw[Ad]at d;subst d;cases r;show#[[],KatTups.nil,rfl,λ_ h=>nomatch h]
 |cons k c P=>
  intro kvs us d r G;erw[Ad]at d;let(v,t,e,R,Y):=d;subst e;cases r with
  |cons rv rt=>
   let(j,h1,h2,h3):=P t _ Y rt λk x=>G k<|Bg _ x;let m:=G k Ba;let(f,g,e):=m.tup;subst e;let(a,vs,e,q,dl):=R;subst e;cases rv;let(its,y,(o,ho,hc,n,hd),_):=S.tuple q;let(w,vs',e,F,_):=dl;subst e;cases y with
   |cons l rt1=>
    rename_i u us';apply#[u::j,KatTups.cons ho hc hd (by simp) h1,by simp[h2],λv z=>?_];rcases Bp.mp z with e|z
    .subst e;intro A Q E s' x L;cases b with
     |true=>
      let(i,_,e):=m;cases e;let g:=F.p.int;subst g;let(t,rfl):=l;show LU (T:="int") rfl L
     |false=>
      let(i,_,e):=m;cases e;let(a2,vs2,rfl,q2,_):=F;cases l;let(_,_,(o2,B,C,_),_):=S.tuple q2;show LU (T:="tuple") #[o2,x _ _ B,C] L
    .show h3 v z
theorem r9(C:Inv X pins I H s){M:Model}:∀(b:U D)(kvs:U V)(us:U Aa),Ad X.K N H b kvs->Aq kvs us->(∀k∈b,Cp J k)->∀u∈us,Looks M s.heap (typeOf u) (.type "list"):=by
 intro b;induction b with
 |nil=>
  intro kvs us d r _;erw[Ad]at d;subst d;cases r;simp_all
 |cons k b i=>
  intro kvs us d r h;erw[Ad]at d;let(v,t,e,j,l):=d;subst e;cases r with
  |cons m rt=>
   intro u c;rcases Bp.mp c with e|c
   .subst e;let(g,rfl):=h k Ba;let(a,z,rfl,q,_):=j.p;cases m;let(_,_,(o,n,w,x,_),_):=C.list q;intro A Q E B f y;show LU (T:="list") #[o,f _ _ w,x] y
   .show i t _ l rt (λk f=>h k<|Bg _ f) u c
theorem sd(j:Inv X pins I H s){M:Model}{A:Ag}(b:O Bool)(a:U D)(kvs:U V)(us:U Aa)(d:Ad X.K N H a kvs)(r:Aq kvs us)(c:∀k∈a,Cp b k)(e:2<=us.length){Q:Gb->Ab->Prop}(q:Q (Oa b) s):wpAny M A (keyKind' us.toArray) Q E s:=by
 cases b with
 |some b=>
  let(h,f,i,g):=r0 j (M:=M) b a kvs us d r c;apply kat_kind f ∅ g (by cases b<;>rfl) ?_;rw[show(Value.type (if b=J' then "int" else "tuple") != Value.type "tuple")=b by cases b<;>rfl];show q
 |none=>show kas_kind e (r9 j a kvs us d r c) rfl rfl q
structure Off(X:Cx)(pins:A0)(a:Ac):Prop where
 nL:a≠X.env.locals
 s0:X.s₀.heap.objs.size<=a
 cl:∀x c,X.env.cells.lookup x=Z c->c≠a
 pn:∀p∈X.pn++pins,p.1≠a
 nf:a∉X.fs
theorem Inv.off(g:Inv X pins I H s)(h:s.heap.objs.size<=a):Off X pins a where
 nL:=λe=>by have b:=g.lt;rw[<- e]at b;show absurd (B7 b h)<|Iy _
 s0:=Bu g.sz h;cl:=λx c e z=>by
  let(v,o,d,_):=g.cell x c e;let b:=BK d;grind
 pn:=λp f z=>by
  let b:=BK (g.pin p f).1;grind
 nf:=g.nofs h
theorem Inv.pin1{o:Obj}(g:Inv X pins I H s)(c:H a=J)(f:Off X pins a)(e:s.heap.get? a=Z o)(d:∀v,o.data≠.cell v):Inv X (pins++[(a,o)]) I H s:=g.pins_of λp b=>by
  rcases Cj.mp b with b|b
  .show g.pin p<|De _ b
  .erw[Cw]at b;subst b;show#[e,c,f.nL,f.nf,d]
theorem Inv.catch{d:U Aa}{n:Nat}(l:Inv X pins I H s)(h:H a=J)(f:Off X pins a)(e:s.heap.get? a=Z {cls:=.type "list",data:=.seq d.toArray n})(i:Aq vs d)(hz:vs.length<=AB):Inv X pins I (AI H a (.lst vs)) s:=by
 let ne:∀b u,H b=Z u->b≠a:=λb u q z=>by rw[z,h]at q;cases q
 have:=l.step (h':=s.heap) (g':=s.gens) (d':=s.drawn) (t':=s.toks) (ch:=[a]) (H':=AI H a<|.lst vs) (λb g=>by
   let e:b=a:=by exists g
   subst e;show#[.inr f.s0,f.nL,f.cl,f.pn]) (λb o _ _ _ q _=>q) (λb o _ _ _ q _=>#[o.slots,q]) (λb o g _ n=>by rw[Zl<|λz=>g (by simp[z])];show n) (λb o _ q=>#[o,q])
  (λb j q=>Zl (ne _ _ q) ▸ q) (λb o u q=>Zl (ne _ _ q) ▸ q) (λb A q=>#[(T' []),by rw[Zl<|ne _ _ q,q];simp]) (λm k=>k) (λb u q=>by
   by_cases g:b=a
   .subst g;rw[ZN]at q;cases q;show#[hz,d,n,i,e]
   .rw[Zl g]at q;show(l.hok b u q).stay (λc v _ r=>r) (λc r=>Zl (ne _ _ r) ▸ r) λc j r=>Zl (ne _ _ r) ▸ r) l.bare
 show this
end
def DD(F:U Sl->O Rv)(x:D):D:=((F [.val x]).map Fv).getD .non
def CK(F:U Sl->O Rv)(x y:D):Bool:=match ltN 6 (DD F x) (DD F y)with
 |some J'=>J'
 |_=>O'
theorem aR{F:U Sl->O Rv}{x y:D}{r:Bool}(h:ltN 6 (DD F x) (DD F y)=Z r):CK F x y=r:=by
 unfold CK;rw[h];cases r<;>rfl
def J0:Bool->An->Array An->Nat->Nat->Nat->StateT Ah Sem (O Nat):=sortPriv% PySem.Builtin.gallop
def Ob(left:Bool)(a:An)(arr:Array An)(base i:Nat):StateT Ah Sem (O Bool):=do
 let x <- BB arr (base+i)
 if left then lt' x a else return(<- lt' a x).map (!·)
def P7(left:Bool)(c:An)(arr:Array An)(base n lo a:Nat):StateT Ah Sem (O Nat):=do
 let mut lo:=lo
 let mut a:=a
 for _ in [0:n]do
  if lo≥a then break
  let m:=lo+(a-lo)/2
  let Z b <- Ob left c arr base m|return J
  if b then lo:=m+1 else a:=m
 return Z a
theorem se(left:Bool)(d:An)(arr:Array An)(base n hint:Nat):J0 left d arr base n hint=(do
 let mut a:=0
 let mut c:=1
 let Z right <- Ob left d arr base hint|return J
 if right then
  let b:=n-hint
  for _ in [0:n]do
   if c≥b then break
   let Z f <- Ob left d arr base (hint+c)|return J
   if !f then break
   a:=c
   c:=2*c+1
  P7 left d arr base n (hint+a+1) (hint+min c b)
 else
  let b:=hint+1
  for _ in [0:n]do
   if c≥b then break
   let Z e <- Ob left d arr base (hint-c)|return J
   if e then break
   a:=c
   c:=2*c+1
  P7 left d arr base n (hint+1-min c b) (hint-a)):=rfl
def Lo(n:Nat)(p:Array Nat):Prop:=∀i,i<p.size->As p i<n
section
variable{prog:AL}{w:Aj}{A:Ag}{E:Aa->Ab->Prop}{s:Ab}{item:Nat->An}{r:Nat->Nat}{n:Nat}
def K7(prog:AL)(w:Aj)(A:Ag)(E:Aa->Ab->Prop)(s:Ab)(κ:Gb)(item:Nat->An)(r:Nat->Nat)(n:Nat):Prop:=
 ∀(i j:Nat),i<n->j<n->∀(Q:O Bool->Ah->Prop) (st:Ah),kindOf st=κ->Q (Z (decide (r i<r j))) st->wpS (Ae prog w) A E s (lt' (item i) (item j)) Q st
theorem ZS{p:Array Nat}{i:Nat}(a:i<p.size){Q:An->Ah->Prop}{st:Ah}(h:Q (item (As p i)) st):wpS (Ae prog w) A E s (BB (p.map item) i) Q st:=by
 rw[elem'_eq];let e:(p.map item)[i]?=Z (item<|As p i):=by
  let e:As p i=p[i]:=by simp[As,IP,a]
  rw[e];simp[a]
 rw[e];show Bd h
variable(H:K7 prog w A E s κ item r n)
include H
theorem P8{k:Nat}{p:Array Nat}{base i:Nat}(b:k<n)(c:Lo n p)(a:base+i<p.size){Q:O Bool->Ah->Prop}{st:Ah}(d:kindOf st=κ) (h:Q (Z (decide (r (As p (base+i))<if left then r k else r k+1))) st):wpS (Ae prog w) A E s (Ob left (item k) (p.map item) base i) Q st:=by
 apply AY<|ZS a ?_;cases left with|true=>show H _ _ (c _ a) b _ _ d h|false=>
  apply AY<|H _ _ b (c _ a) _ _ d<|Bd ?_;let e:(Z<|decide<|r k<r (As p<|base+i)).map (!·)=Z (decide<|r (As p<|base+i)<r k+1):=by
   congr 1;by_cases h:r k<r (As p<|base+i)
   .rw[decide_eq_true h,decide_eq_false<|Nat.not_lt.mpr h];rfl
   .rw[decide_eq_false h,decide_eq_true<|K8 h];rfl
  rw[e];show h
theorem aS{k:Nat}{p:Array Nat}{base m lo e:Nat}(F:k<n)(L:Lo n p)(Y:base+m<=p.size)(C:∀i j,i<=j->j<m->r (As p (base+i))<=r (As p (base+j))) {c:Nat} (M:c=if left then r k else r k+1) (G:lo<=e) (q:e<=m) (N:∀i,i<lo->r (As p (base+i))<c) (K:∀i,e<=i->i<m->¬ r (As p (base+i))<c) {Q:O Nat->Ah->Prop} {st:Ah} (T:kindOf st=κ) (h:∀t,t<=m->(∀i,i<t->r (As p (base+i))<c)->(∀i,t<=i->i<m->¬ r (As p (base+i))<c)->Q (Z t) st):wpS (Ae prog w) A E s (P7 left (item k) (p.map item) base m lo e) Q st:=by
 unfold P7;dsimp only;apply AY (wpS_mono (K9 (λx b d=>d=st/\∃l u,b=(J,l,u)/\l<=u/\u<=m/\u+x<=m+l/\(∀i,i<l->r (As p<|base+i)<c)/\(∀i,u<=i->i<m->¬ r (As p<|base+i)<c))
  (Q:=λb d=>d=st/\∃l u,b=(J,l,u)/\u<=m/\(∀i,i<u->r (As p<|base+i)<c)/\(∀i,u<=i->i<m->¬ r (As p<|base+i)<c)) ?_ ?_ ⟨rfl,lo,e,rfl,G,q,by show Ny q,N,K⟩) ?_)
 .intro x b d _ hx zQ;let(rfl,l,u,rfl,a1,g,R,f,o):=zQ;dsimp only;by_cases z:l≥u
  .rw[if_pos z];show Bd #[rfl,l,u,rfl,g,λi e=>f i<|B7 e z,o]
  .rw[if_neg z];let P:l<=l+(u-l)/2:=Hw _ _;let B:l+(u-l)/2<u:=by clear R;lia
   generalize l+(u-l)/2=v at P B ⊢;apply AY<|P8 H F L ∅ T ?_;rw[<- M];by_cases y:r (As p<|base+v)<c
   .erw[y,decide_true,if_true];show Bd #[rfl,_,_,rfl,by show Nat.succ_le_of_lt B,∅,∅,λi e=>Gs (C i v (Oc e)<|B7 B g) y,o]
   .erw[y,decide_false,Fs,if_false];show Bd #[rfl,_,_,rfl,by show Gm λa=>y<|f v a,∅,∅,f,λi G q=>by have:=C v i ∅<|Nat.lt_of_succ_le q;lia]
 .intro b d zQ;let(rfl,l,u,rfl,a1,g,R,f,o):=zQ;show⟨rfl,l,u,rfl,g,λi e=>f i ∅,o⟩
 .intro b d zQ;let(rfl,l,u,rfl,g,f,o):=zQ;show Bd<|h u g f o
theorem Mt{k:Nat}{p:Array Nat}{base m hint:Nat}(v:k<n)(y:Lo n p)(P:base+m<=p.size)(F:hint<m)(q:∀i j,i<=j->j<m->r (As p (base+i))<=r (As p (base+j)))
  {Q:O Nat->Ah->Prop} {st:Ah} (z:kindOf st=κ)
  (h:∀t,t<=m->(∀i,i<t->r (As p (base+i))<if left then r k else r k+1)->(∀i,t<=i->i<m->¬ r (As p (base+i))<if left then r k else r k+1)->Q (Z t) st):wpS (Ae prog w) A E s (J0 left (item k) (p.map item) base m hint) Q st:=by
 rw[se]
 obtain⟨c,u⟩:∃c,c=if left then r k else r k+1:=#[_,rfl]
 rw[<- u]at h
 apply AY (P8 H v y ∅ z ?_)
 rw[<- u]
 by_cases B:r (As p (base+hint))<c
 .erw[B,decide_true,if_true]
  apply AY (wpS_mono (K9 (λx b a=>a=st/\∃l o,b=(J,l,o)/\l<o/\l<m-hint/\x+1<=o/\r (As p (base+(hint+l)))<c)
   (Q:=λb a=>a=st/\∃l o,b=(J,l,o)/\l<o/\l<m-hint/\r (As p (base+(hint+l)))<c/\(o<m-hint->¬ r (As p (base+(hint+o)))<c)) ?_ ?_ #[rfl,0,1,rfl,by show Nat.one_pos,by show Nat.zero_lt_sub_of_lt F,by show TH rfl,B]) ?_)
  .intro x b a _ N zQ;let(rfl,l,o,rfl,a1,d,C,e):=zQ
   by_cases g:o≥m-hint
   .rw[if_pos g]
    show Bd #[rfl,l,o,rfl,a1,d,e,λh=>∅]
   .rw[if_neg g]
    apply AY (P8 H v y ∅ z ?_)
    rw[<- u]
    by_cases f:r (As p (base+(hint+o)))<c
    .erw[f,decide_true,KZ,Fs,if_false]
     show Bd #[rfl,_,_,rfl,∅,by show K8 g,∅,f]
    .erw[f,decide_false,JQ,if_true]
     show Bd #[rfl,l,o,rfl,a1,d,e,λ_=>f]
  .intro b a zQ;let(rfl,l,o,rfl,a1,d,C,e):=zQ
   show#[rfl,l,o,rfl,a1,d,e,λh=>∅]
  .intro b a zQ;let(rfl,l,o,rfl,a1,d,e,L):=zQ
   apply aS H v y P q u ∅ ∅ (λi M=>Gs (q i (hint+l) (Oc M) (P9 d)) e) (λi K G=>?_) z h
   have:=q (hint+o) i ∅ G
   lia
 .erw[B,decide_false,Fs,if_false]
  apply AY (wpS_mono (K9 (λx b a=>a=st/\∃l o,b=(J,l,o)/\l<o/\l<hint+1/\x+1<=o/\¬ r (As p (base+(hint-l)))<c)
   (Q:=λb a=>a=st/\∃l o,b=(J,l,o)/\l<o/\l<hint+1/\¬ r (As p (base+(hint-l)))<c/\(o<hint+1->r (As p (base+(hint-o)))<c)) ?_ ?_ #[rfl,0,1,rfl,by show Nat.one_pos,by show Nat.zero_lt_succ hint,by show TH rfl,B]) ?_)
  .intro x b a _ N zQ;let(rfl,l,o,rfl,a1,d,C,e):=zQ
   by_cases g:o≥hint+1
   .rw[if_pos g]
    show Bd #[rfl,l,o,rfl,a1,d,e,λh=>∅]
   .rw[if_neg g]
    apply AY (P8 H v y ∅ z ?_)
    rw[<- u]
    by_cases f:r (As p (base+(hint-o)))<c
    .erw[f,decide_true,if_true]
     show Bd #[rfl,l,o,rfl,a1,d,e,λ_=>f]
    .erw[f,decide_false,Fs,if_false]
     show Bd #[rfl,_,_,rfl,∅,by show K8 g,∅,f]
  .intro b a zQ;let(rfl,l,o,rfl,a1,d,C,e):=zQ
   show#[rfl,l,o,rfl,a1,d,e,λh=>∅]
  .intro b a zQ;let(rfl,l,o,rfl,a1,d,e,L):=zQ
   apply aS H v y P q u ∅ ∅ (λi M=>?_) (λi K G=>?_) z h
   .show Gs (q i (hint-o) ∅ (Nat.sub_lt_of_lt F)) (L (show o<hint+1 by lia))
   .have:=q (hint-l) i ∅ G
    lia
end
def TJ:Array An->Array An->StateT Ah Sem (Array An):=sortPriv% PySem.Builtin.mergeLo
def TK:Array An->Array An->StateT Ah Sem (Array An):=sortPriv% PySem.Builtin.mergeHi
def Od(g:Nat):StateT Ah Sem Unit:=modify λst=>SortSt.mk' (kindOf st) (arrOf st) (Gu st) g (Hy st)
def Ib(a b out:Array An)(c d:Nat):=out++a.extract c a.size++b.extract d b.size
def Mu(a b out:Array An)(c d:Nat):=out++b.extract d b.size++a.extract c a.size
def Ic(a b out:Array An)(c d:Nat):=a.extract 0 c++b.extract 0 d++out.reverse
def Mv(a b out:Array An)(c d:Nat):=b.extract 0 d++a.extract 0 c++out.reverse
abbrev Oe:=O (Array An)×Array An×Nat×Nat×Nat×Nat×Nat
abbrev TL:=O (Array An)×Array An×Nat×Nat×Nat×Nat
abbrev Of:=O (Array An)×Array An×Nat×Nat×Nat
def TM(a b:Array An)(mg d e:Nat)(out:Array An)(c f:Nat):StateT Ah Sem (ForInStep Oe):=do
 let out:=out.push (<- BB a c)
 if c+1+1==a.size then Al (.done (Z (Mu a b out (c+1) f),out,c+1,f,mg,d,e))
 else if d<7&&e<7 then Al (.done (J,out,c+1,f,mg,d,e))else Al (.yield (J,out,c+1,f,mg,d,e))
def TN(a b:Array An)(mg e f:Nat)(out:Array An)(d c:Nat):StateT Ah Sem (ForInStep Oe):=do
 let out:=out.push (<- BB b c)
 if c+1==b.size then Al (.done (Z (Ib a b out d (c+1)),out,d,c+1,mg,e,f))else
  match <- J0 J' (<- BB a d) b (c+1) (b.size-(c+1)) 0 with
  |some k=>
   if k>0 then
    let out:=out++b.extract (c+1) (c+1+k)
    if c+1+k==b.size then Al (.done (Z (Ib a b out d (c+1+k)),out,d,c+1+k,mg,e,k))else TM a b mg e k out d (c+1+k)
   else TM a b mg e k out d (c+1)
  |_=>Al (.done (Z (Ib a b out d (c+1)),out,d,c+1,mg,e,f))
def Qa(a b:Array An)(mg f e:Nat)(out:Array An)(c d:Nat):StateT Ah Sem (ForInStep Oe):=do
 Od mg
 match <- J0 O' (<- BB b d) a c (a.size-c) 0 with
 |some k=>
  if k>0 then
   let out:=out++a.extract c (c+k)
   if c+k+1==a.size then Al (.done (Z (Mu a b out (c+k) d),out,c+k,d,mg,k,e))
   else if c+k==a.size then Al (.done (Z (Ib a b out (c+k) d),out,c+k,d,mg,k,e))
   else TN a b mg k e out (c+k) d
  else TN a b mg k e out c d
 |_=>Al (.done (Z (Ib a b out c d),out,c,d,mg,f,e))
def aT(a b:Array An)(mg:Nat):TL->StateT Ah Sem (ForInStep TL):=λs=>do
 let out:=s.2.1
 let c:=s.2.2.1
 let d:=s.2.2.2.1
 match <- lt' (<- BB b d) (<- BB a c)with
 |some w=>
  if w then
   let out:=out.push (<- BB b d)
   if d+1==b.size then Al (.done (Z (Ib a b out c (d+1)),out,c,d+1,0,s.2.2.2.2.2+1))else
    if s.2.2.2.2.2+1≥mg then Al (.done (J,out,c,d+1,0,s.2.2.2.2.2+1))else Al (.yield (J,out,c,d+1,0,s.2.2.2.2.2+1))
  else
   let out:=out.push (<- BB a c)
   if c+1+1==a.size then Al (.done (Z (Mu a b out (c+1) d),out,c+1,d,s.2.2.2.2.1+1,0))else
    if s.2.2.2.2.1+1≥mg then Al (.done (J,out,c+1,d,s.2.2.2.2.1+1,0))else Al (.yield (J,out,c+1,d,s.2.2.2.2.1+1,0))
 |_=>Al (.done (Z (Ib a b out c d),out,c,d,s.2.2.2.2.1,s.2.2.2.2.2))
def sf(a b:Array An):Oe->StateT Ah Sem (ForInStep Oe):=λs=>
 if s.2.2.2.2.1>1 then Qa a b (s.2.2.2.2.1-1) s.2.2.2.2.2.1 s.2.2.2.2.2.2 s.2.1 s.2.2.1 s.2.2.2.1 else Qa a b s.2.2.2.2.1 s.2.2.2.2.2.1 s.2.2.2.2.2.2 s.2.1 s.2.2.1 s.2.2.2.1
def aU(a b:Array An):Of->StateT Ah Sem (ForInStep Of):=λs=>do
 let t <- forIn [0:a.size+b.size] (J,s.2.1,s.2.2.1,s.2.2.2.1,0,0) λ_=>aT a b s.2.2.2.2
 IQ (λ_=>StateT Ah Sem (ForInStep Of)) t.1 (λr=>Al (.done (Z r,t.2.1,t.2.2.1,t.2.2.2.1,s.2.2.2.2))) λ_=>do
  rule "list.sort.gallop"
  let t <- forIn [0:a.size+b.size] (J,t.2.1,t.2.2.1,t.2.2.2.1,s.2.2.2.2+1,t.2.2.2.2.1,t.2.2.2.2.2) λ_=>sf a b
  IQ (λ_=>StateT Ah Sem (ForInStep Of)) t.1 (λr=>Al (.done (Z r,t.2.1,t.2.2.1,t.2.2.2.1,t.2.2.2.2.1))) λ_=>do
   Od (t.2.2.2.2.1+1);Al (.yield (J,t.2.1,t.2.2.1,t.2.2.2.1,t.2.2.2.2.1+1))
theorem sh(a b:Array An):TJ a b=(do
 rule "list.sort.merge-lo";let out:=((T' [<- BB b 0]):Array An);if 1==b.size then Al (Ib a b out 0 1)else
  if 0+1==a.size then Al (Mu a b out 0 1)else do
   let t <- forIn [0:a.size+b.size] (J,out,0,1,gallopOf (<- get)) λ_=>aU a b
   IQ (λ_=>StateT Ah Sem (Array An)) t.1 Al λ_=>unsupported "internal:list.sort.merge-bound"):=rfl
theorem Zn{M:Model}{A:Ag}{E:Aa->Ab->Prop}{s:Ab}{I a:Type}{c:Prop}[Decidable c]{m1 m2:StateT I Sem a}{Q:a->I->Prop}{st:I}(b:c->wpS M A E s m1 Q st)(d:¬ c->wpS M A E s m2 Q st):wpS M A E s (if c then m1 else m2) Q st:=by
 by_cases h:c
 .rw[if_pos h];show b h
 .rw[if_neg h];show d h
abbrev FG(st:Ah)(g:Nat):Ah:=SortSt.mk' (kindOf st) (arrOf st) (Gu st) g (Hy st)
section
variable{prog:AL}{w:Aj}{A:Ag}{E:Aa->Ab->Prop}{s:Ab}{item:Nat->An}{r:Nat->Nat}{n:Nat}
theorem Qb{g:Nat}{Q:Unit->Ah->Prop}{st:Ah}(h:Q () (FG st g)):wpS (Ae prog w) A E s (Od g) Q st:=wpS_modify h
structure Dq(r:Nat->Nat)(n:Nat)(pa pb:Array Nat):Prop where
 la:Lo n pa
 lb:Lo n pb
 sa:∀i j,i<=j->j<pa.size->r (As pa i)<=r (As pa j)
 sb:∀i j,i<=j->j<pb.size->r (As pb i)<=r (As pb j)
 a1:1<=pa.size
 b1:1<=pb.size
 fst:∀i,i<pa.size->r (As pb 0)<r (As pa i)
 lst:∀i,i<pb.size->r (As pb i)<r (As pa (pa.size-1))
structure D6(r:Nat->Nat)(pa pb pm:Array Nat):Prop where
 perm:pm.toList.Perm (pa.toList++pb.toList)
 so:pm.toList.Pairwise λx y=>r x<=r y
structure Dr(r:Nat->Nat)(pa pb po:Array Nat)(ia ib:Nat):Prop where
 perm:po.toList.Perm (pa.toList.take ia++pb.toList.take ib)
 so:po.toList.Pairwise λx y=>r x<=r y
 ma:∀x∈po.toList,ia<pa.size->r x<=r (As pa ia)
 mb:∀x∈po.toList,ib<pb.size->r x<=r (As pb ib)
theorem TQ{p:Array Nat}{i:Nat}(a:i<p.size):p.toList[i]?=Z (As p i):=by
 rw[show As p i=p[i] by simp[As,IP,a]];simp[a]
theorem TR{p:Array Nat}{i:Nat}(a:i<p.size):p.toList.take (i+1)=p.toList.take i++[As p i]:=by
 rw[List.take_add_one,TQ a];rfl
theorem Qc{p:Array Nat}{i:Nat}(a:i<p.size):p.toList.drop i=As p i::p.toList.drop (i+1):=by
 rw[HV (by exists a),show As p i=p.toList[i]'(by exists a) by simp[As,IP,a]]
theorem Mw{p:Array Nat}(h:∀i j,i<=j->j<p.size->r (As p i)<=r (As p j)):p.toList.Pairwise λx y=>r x<=r y:=by
 rw[TU];intro i j c a b;have:=h i j (J1 b) (by exists a);rw[show As p i=p.toList[i] by simp at c;simp[As,IP,c],show As p j=p.toList[j] by simp at a;simp[As,IP,a]]at this;show this
theorem Mx{p:Array Nat}{k x:Nat}(h:x∈p.toList.drop k):∃i,k<=i/\i<p.size/\x=As p i:=by
 let(i,a,rfl):=List.mem_iff_getElem.mp h;simp at a;apply#[k+i,by show Hw k i,by show P9 a,?_];simp[As,IP,show k+i<p.size by show P9 a]
variable{pa pb po:Array Nat}{ia ib:Nat}
theorem Dr.stepB(P:Dq r n pa pb)(f:Dr r pa pb po ia ib)(d:ia<pa.size)(b:ib<pb.size)(h:r (As pb ib)<=r (As pa ia)):Dr r pa pb (po.push (As pb ib)) ia (ib+1):=by
 apply#[?_,?_,λx a _=>?_,λx a c=>?_]
 .rw[TR b,EK,<- C8];show f.perm.append_right _
 .rw[EK,IR];show#[f.so,My _ _,λx a y e=>by rw[Cw.mp e];show f.mb x a b]
 .rw[EK,Cj,Cw]at a;rcases a with a|rfl
  .show f.ma x a d
  .show h
 .rw[EK,Cj,Cw]at a;rcases a with a|rfl
  .show Bu (f.mb x a b)<|P.sb _ _ (Hw ib 1) c
  .show P.sb _ _ (Hw ib 1) c
theorem Dr.stepA(P:Dq r n pa pb)(f:Dr r pa pb po ia ib)(b:ia<pa.size)(d:ib<pb.size)(h:r (As pa ia)<=r (As pb ib)):Dr r pa pb (po.push (As pa ia)) (ia+1) ib:=by
 apply#[?_,?_,λx a c=>?_,λx a _=>?_]
 .rw[TR b,EK,C8];refine(f.perm.append_right _).trans ?_;rw[C8];show Qd _ J2
 .rw[EK,IR];show#[f.so,My _ _,λx a y e=>by rw[Cw.mp e];show f.ma x a b]
 .rw[EK,Cj,Cw]at a;rcases a with a|rfl
  .show Bu (f.ma x a b)<|P.sa _ _ (Hw ia 1) c
  .show P.sa _ _ (Hw ia 1) c
 .rw[EK,Cj,Cw]at a;rcases a with a|rfl
  .show f.mb x a d
  .show h
theorem aV{p q:Array Nat}{i k:Nat}(h:i+k<q.size):p++q.extract i (i+(k+1))=(p++q.extract i (i+k)).push (As q (i+k)):=by
 apply(J3.mp);erw[IT,EK,Ie,Fd,C8];congr 1;rw[show i+(k+1)-i=k+1 by show Nat.add_sub_self_left i (k+1),show i+k-i=k by show Nat.add_sub_self_left i k,List.take_add_one,LZ,TQ h];rfl
theorem Dr.blockA(P:Dq r n pa pb):∀(k:Nat){po:Array Nat},Dr r pa pb po ia ib->ia+k<=pa.size->ib<pb.size->(∀i,i<k->r (As pa (ia+i))<=r (As pb ib))->Dr r pa pb (po++pa.extract ia (ia+k)) (ia+k) ib
 |0,po,e,_,_,_=>by
  rw[show po++pa.extract ia (ia+0)=po by simp<;>show Nat.min_le_left ia pa.size];show e
 |k+1,po,e,c,a,b=>by
  rw[aV ∅];show(Dr.blockA P k e (J1 c) a λi d=>b i<|Nat.lt_add_right 1 d).stepA P ∅ a (b k<|Nat.lt_add_one k)
theorem Dr.blockB(P:Dq r n pa pb):∀(k:Nat){po:Array Nat},Dr r pa pb po ia ib->ib+k<=pb.size->ia<pa.size->(∀i,i<k->r (As pb (ib+i))<=r (As pa ia))->Dr r pa pb (po++pb.extract ib (ib+k)) ia (ib+k)
 |0,po,e,_,_,_=>by
  rw[show po++pb.extract ib (ib+0)=po by simp<;>show Nat.min_le_left ib pb.size];show e
 |k+1,po,e,c,a,b=>by
  rw[aV ∅];show(Dr.blockB P k e (J1 c) a λi d=>b i<|Nat.lt_add_right 1 d).stepB P a ∅ (b k<|Nat.lt_add_one k)
theorem Dr.done(P:Dq r n pa pb)(e:Dr r pa pb po ia ib)(h:ib=pb.size):∃pm:Array Nat,Ib (pa.map item) (pb.map item) (po.map item) ia ib=pm.map item/\D6 r pa pb pm:=by
 subst h;apply#[po++pa.extract ia pa.size,?_,?_,?_]
 .apply(J3.mp);simp[Ib,Fd]
 .let h:=e.perm.append_right<|pa.toList.drop ia;rw[Hu (l:=pb.toList) (by simp),C8]at h;erw[IT,Ie,Fd];rw[Hu (by simp)];apply h.trans<|(Qd _ J2).trans ?_;rw[<- C8,IU _ _]
 .erw[IT,Ie,Fd];rw[Hu (by simp),IR];apply#[e.so,(Mw P.sa).drop,λx c y d=>?_];let(i,a,b,rfl):=Mx d;show Bu (e.ma x c<|Gs a b)<|P.sa _ _ a b
theorem Dr.last(P:Dq r n pa pb)(g:Dr r pa pb po ia ib)(h:ia+1=pa.size):∃pm:Array Nat,Mu (pa.map item) (pb.map item) (po.map item) ia ib=pm.map item/\D6 r pa pb pm:=by
 apply#[po++pb.extract ib pb.size++pa.extract ia pa.size,?_,?_,?_]
 .apply(J3.mp);simp[Mu,Fd]
 .let h:=(g.perm.append_right<|pb.toList.drop ib).append_right<|pa.toList.drop ia;erw[IT,Ie,Fd];rw[Hu (l:=List.drop ib _) (by simp),Hu (l:=List.drop ia _) (by simp)];apply h.trans ?_;rw[C8<|pa.toList.take ia,IU _ _,C8];refine(Qd _ J2).trans ?_;rw[<- C8,IU _ _]
 .erw[IT,Ie,Fd];rw[Hu (l:=List.drop ib _) (by simp),Hu (l:=List.drop ia _) (by simp),IR,IR];apply#[#[g.so,(Mw P.sb).drop,λx a y c=>?_],(Mw P.sa).drop,λx a y c=>?_]
  .let(i,d,b,rfl):=Mx c;show Bu (g.mb x a<|Gs d b)<|P.sb _ _ d b
  .let(i,d,b,rfl):=Mx c;have:i=ia:=∅
   subst this;rcases Cj.mp a with a|a
   .show g.ma x a b
   .let(j,f,e,rfl):=Mx a;have:=P.lst j e;rw[<- h]at this;show FP this
end
def FB{a I:Type}(Q d:a->I->Prop)(c:ForInStep a):I->Prop:=match c with | .done b=>Q b | .yield b=>d b
theorem IW{prog:AL}{w:Aj}{A:Ag}{E:Aa->Ab->Prop}{s:Ab}{a:Type}{b:Nat}{f:Nat->a->StateT Ah Sem (ForInStep a)}(k:Nat->a->Ah->Prop)(Q:a->Ah->Prop){R:a->Ah->Prop}(d:∀i c st,i<b->k i c st->wpS (Ae prog w) A E s (f i c) (FB Q (k (i+1))) st)(e:∀c st,k b c st->Q c st){c:a}{st:Ah}(h:k 0 c st)(g:∀c st,Q c st->R c st):wpS (Ae prog w) A E s (forIn [0:b] c f) R st:=wpS_mono (K9 k (λi c st _ j h=>wpS_mono (d i c st j h) λc _ h=>by cases c<;>show h) (λc st h=>e c st (by rwa[Nat.zero_max]at h)) h) g
theorem J4{p:Array Nat}{i:Nat}:(p.map item).push (item i)=(p.push i).map item:=by simp
theorem aX{p q:Array Nat}{i:Nat}:p.map item++(q.map item).extract i j=(p++q.extract i j).map item:=by simp
section
variable(r:Nat->Nat)(item:Nat->An)(pa pb:Array Nat)(S:Ah)
def MQ{a:Type}(b:O (Array An)×a)(st:Ah):Prop:=∃g pm,st=FG S g/\b.1=Z (pm.map item)/\D6 r pa pb pm
def LI{e:Type}(x:Nat)(b:O (Array An)×Array An×Nat×Nat×e)(st:Ah):Prop:=∃g po a d c,st=FG S g/\b=(J,po.map item,a,d,c)/\Dr r pa pb po a d/\a+1<pa.size/\d<pb.size/\x<=a+d
def LQ{a:Type}(x:Nat)(b:O (Array An)×Array An×Nat×Nat×a)(st:Ah):Prop:=LI r item pa pb S x b st\/MQ r item pa pb S b st
end
section
variable{prog:AL}{w:Aj}{A:Ag}{E:Aa->Ab->Prop}{s:Ab}{item:Nat->An}{r:Nat->Nat}{n:Nat}{pa pb:Array Nat}
theorem aY(P:Dq r n pa pb){st:Ah}{x g mg f i a b:Nat}{po:Array Nat}(l:Dr r pa pb po a b)(c:a+1<pa.size)(i2:b<pb.size)(j:x+1+(y+1)<=a+1+b)(h:r (As pa a)<=r (As pb b)):wpS (Ae prog w) A E s (TM (pa.map item) (pb.map item) mg f i (po.map item) a b) (FB (LQ r item pa pb st (x+2)) (LI r item pa pb st (x+1+(y+1)))) (FG st g):=by
 let k:=l.stepA P (Fe c) i2 h;apply AY<|ZS (Fe c) ?_;dsimp only;rw[J4];apply Zn (λq=>?_) λq=>?_
 .let(pm,e,R):=k.last (item:=item) P (by exists q);rw[e];show Bd<|.inr ⟨g,pm,rfl,rfl,R⟩
 let d:a+1+1≠pa.size:=by exists q
 show Zn (λq=>Bd<|.inl ⟨g,_,_,_,_,rfl,rfl,k,by show Ig c d,i2,∅⟩) λq=>Bd #[g,_,_,_,_,rfl,rfl,k,by show Ig c d,i2,by show Nat.succ_le_of_lt j]
variable(H:K7 prog w A E s κ item r n)
include H
theorem aZ(P:Dq r n pa pb){st:Ah}(p:kindOf st=κ){x g mg t u b a:Nat}{po:Array Nat}(K:Dr r pa pb po b a)(c:b+1<pa.size)(i2:a<pb.size)(G:x+1+y<=b+a)(h:r (As pb a)<=r (As pa b)):wpS (Ae prog w) A E s (TN (pa.map item) (pb.map item) mg t u (po.map item) b a) (FB (LQ r item pa pb st (x+2)) (LI r item pa pb st (x+1+(y+1)))) (FG st g):=by
 let v:(pb.map item).size=pb.size:=Ih;let F:=K.stepB P (Fe c) i2 h;apply AY<|ZS i2 ?_;dsimp only;rw[J4,v];apply Zn (λq=>?_) λq=>?_
 .let(pm,e,R):=F.done (item:=item) P (by exists q);rw[e];show Bd<|.inr ⟨g,pm,rfl,rfl,R⟩
 let f:a+1≠pb.size:=by exists q
 apply AY<|ZS (Fe c)<|AY<|Mt H (P.la _<|Fe c) P.lb ∅ ∅ (λi j z B=>P.sb _ _ (Mz.mpr z)<|P9 B) p λk l1 l m=>?_;erw[if_true]at l m;let o:=Dr.blockB P k F ((Nat.le_sub_iff_add_le' i2).mp l1) (Fe c) λi C=>FP<|l i C;let d:a+1+k<pb.size->r (As pa b)<=r (As pb<|a+1+k):=λ_=>by
  have:=m k (A4 _) ∅;show Gm this
 apply Zn (λq=>?_) λq=>?_
 .rw[aX];apply Zn (λq=>?_) λq=>?_
  .let(pm,e,R):=o.done (item:=item) P (by exists q);rw[e];show Bd<|.inr ⟨g,pm,rfl,rfl,R⟩
  let f:a+1+k≠pb.size:=by exists q
  show aY P o c ∅ ∅<|d ∅
 .let e:k=0:=Nat.eq_zero_of_not_pos q;subst e;show aY P F c (Ig i2 f) ∅<|d<|Ig i2 f
theorem a0(P:Dq r n pa pb){st:Ah}(l:kindOf st=κ){x g mg u v a b:Nat}{po:Array Nat}(K:Dr r pa pb po a b)(B:a+1<pa.size)(i2:b<pb.size)(C:x+1+y<=a+b):wpS (Ae prog w) A E s (Qa (pa.map item) (pb.map item) mg u v (po.map item) a b) (FB (LQ r item pa pb st (x+2)) (LI r item pa pb st (x+1+(y+1)))) (FG st g):=by
 unfold Qa;rw[Ih];apply AY<|Qb<|AY<|ZS i2<|AY<|Mt H (P.lb _ i2) P.la ∅ ∅ (λi j m o=>P.sa _ _ (Mz.mpr m)<|P9 o) l λk G d p=>?_;erw[Fs,if_false]at d p;let f:a+k+1<=pa.size:=by
  rcases Ew (a+k) pa.size with h|h
  .show Nat.succ_le_of_lt h
  .let m:=d (pa.size-1-a) ∅;let o:=P.lst b i2;rw[show a+(pa.size-1-a)=pa.size-1 by lia]at m;lia
 let F:=Dr.blockA P k K (J1 f) i2 λi t=>by have:=d i t;show Oc<|d i t
 let c:a+k<pa.size->r (As pb b)<=r (As pa<|a+k):=λ_=>by
  have:=p k (A4 _)<|Nat.lt_sub_iff_add_lt'.mpr f;lia
 apply Zn (λq=>?_) λq=>?_
 .dsimp only;rw[aX];apply Zn (λq=>?_) λq=>?_
  .let(pm,e,R):=F.last (item:=item) P (by exists q);rw[e];show Bd<|.inr ⟨mg,pm,rfl,rfl,R⟩
  let z:a+k+1≠pa.size:=by exists q
  apply Zn (λq=>?_) λq=>aZ H P l F (Ig f z) i2 ∅<|c ∅;have:a+k=pa.size:=by exists q
  lia
 .let e:k=0:=Nat.eq_zero_of_not_pos q;subst e;show aZ H P l K ∅ i2 ∅<|c<|Nat.add_lt_of_lt_sub f
theorem si(P:Dq r n pa pb){S:Ah}(i:kindOf S=κ){x mg:Nat}{b:TL}{st:Ah}(h:LI r item pa pb S (x+1) b st):wpS (Ae prog w) A E s (aT (pa.map item) (pb.map item) mg b) (FB (LQ r item pa pb S (x+1)) (LI r item pa pb S (x+1))) st:=by
 let(g,po,j,k,c,rfl,rfl,m,a,i2,f):=h;apply AY<|ZS i2<|AY<|ZS (Fe a)<|AY<|H _ _ (P.lb _ i2) (P.la _<|Fe a) _ _ i ?_;apply Zn (λq=>?_) λq=>?_
 .let l:=m.stepB P (Fe a) i2<|FP<|of_decide_eq_true q;apply AY<|ZS i2 ?_;dsimp only;rw[J4];apply Zn (λq=>?_) λq=>?_
  .let(pm,e,R):=l.done (item:=item) P (by exists q);rw[e];show Bd<|.inr ⟨g,pm,rfl,rfl,R⟩
  let d:k+1≠pb.size:=by exists q
  show Zn (λq=>Bd<|.inl ⟨g,_,_,_,_,rfl,rfl,l,a,by show Ig i2 d,by show Og f⟩) λq=>Bd #[g,_,_,_,_,rfl,rfl,l,a,by show Ig i2 d,by show Og f]
 .let l:=m.stepA P (Fe a) i2<|Gm λh=>q<|decide_eq_true h;apply AY<|ZS (Fe a) ?_;dsimp only;rw[J4];apply Zn (λq=>?_) λq=>?_
  .let(pm,e,R):=l.last (item:=item) P (by exists q);rw[e];show Bd<|.inr ⟨g,pm,rfl,rfl,R⟩
  let d:j+1+1≠pa.size:=by exists q
  show Zn (λq=>Bd<|.inl ⟨g,_,_,_,_,rfl,rfl,l,by show Ig a d,i2,∅⟩) λq=>Bd #[g,_,_,_,_,rfl,rfl,l,by show Ig a d,i2,∅]
theorem sj(P:Dq r n pa pb){S:Ah}(k:kindOf S=κ){x:Nat}{b:Of}{st:Ah}(h:LI r item pa pb S (x+1) b st):wpS (Ae prog w) A E s (aU (pa.map item) (pb.map item) b) (FB (MQ r item pa pb S) (LI r item pa pb S (x+1+1))) st:=by
 let(g,po,f,j,mg,rfl,rfl,l,a,i2,d):=h;apply AY<|IW (λ_=>LI r item pa pb S<|x+1) (LQ r item pa pb S<|x+1) (λi c st _ h=>si H P k h) (λc st h=>.inl h) #[g,po,f,j,_,rfl,rfl,l,a,i2,d] λb st h=>?_;clear l a i2 d;rcases h with⟨g,po,f,j,c,rfl,rfl,l,a,i2,d⟩|⟨g,pm,rfl,e,R⟩
 .apply AY<|wpS_lift<|FV ⟨rfl,AY<|IW (λy=>LI r item pa pb S<|x+1+y) (LQ r item pa pb S<|x+2) (λi c st _ h=>?_) (λc st h=>?_) ⟨g,po,f,j,_,rfl,rfl,l,a,i2,d⟩ λb st h=>?_⟩;all_goals clear l a i2 d
  .let(g,po,f,j,c,rfl,rfl,l,a,i2,d):=h;show Zn (λ_=>a0 H P k l a i2 d) λ_=>a0 H P k l a i2 d
  .let(g,po,f,j,c,rfl,rfl,l,a,i2,d):=h;rw[Ih,Ih]at d;show .inl #[g,_,_,_,_,rfl,rfl,l,a,i2,∅]
  .rcases h with⟨g,po,f,j,c,rfl,rfl,l,a,i2,d⟩|⟨g,pm,rfl,e,R⟩
   .show AY<|Qb<|Bd ⟨_,_,_,_,_,rfl,rfl,l,a,i2,d⟩
   .rw[e];show Bd #[g,pm,rfl,rfl,R]
 .rw[e];show Bd #[g,pm,rfl,rfl,R]
theorem sk(P:Dq r n pa pb){Q:Array An->Ah->Prop}{st:Ah}(l:kindOf st=κ)(h:∀pm g,D6 r pa pb pm->Q (pm.map item) (FG st g)):wpS (Ae prog w) A E s (TJ (pa.map item) (pb.map item)) Q st:=by
 let a1:=P.a1;let b1:=P.b1;let m:(pa.map item).size=pa.size:=Ih;let o:(pb.map item).size=pb.size:=Ih;rw[sh,m,o];apply AY<|wpS_lift<|FV ⟨rfl,AY<|ZS (D7 b1) ?_⟩;let p:((T' [item<|As pb 0]):Array An)=((T' [As pb 0]):Array Nat).map item:=by simp
 dsimp only;rw[p];let a:Dr r pa pb (T' [As pb 0]) 0 1:=by
  apply#[?_,My _ _,λx d f=>?_,λx d f=>?_]
  .rw[TR<|D7 b1];simp
  .rw[Cw.mp d];show FP<|P.fst _ f
  .rw[Cw.mp d];show P.sb _ _ (ET 1) f
 apply Zn (λq=>?_) λt=>?_
 .let(pm,e,R):=a.done (item:=item) P (by exists q);rw[e];show Bd<|h pm (gallopOf st) R
 let j:1≠pb.size:=by exists t
 apply Zn (λq=>?_) λu=>?_
 .let(pm,e,R):=a.last (item:=item) P (by exists q);rw[e];show Bd<|h pm (gallopOf st) R
 let k:1≠pa.size:=by exists u
 apply AY<|wpS_get<|AY<|IW (λx=>LI r item pa pb st<|x+1) (MQ r item pa pb st) (λi c st _ h=>sj H P l h) (λc st h=>?_) #[gallopOf st,_,0,1,_,rfl,rfl,a,by show Ig a1 k,by show Ig b1 j,by show Nat.le_add_left (0+1) 0] λb v y=>?_
 .let(g,po,z,B,mg,rfl,rfl,F,C,i2,G):=h;lia
 .let(g,pm,rfl,e,R):=y;rw[e];show Bd<|h pm g R
end
abbrev Oh:=O (Array An)×Nat×Nat×Array An×Nat×Nat×Nat
def TV(a b:Array An)(mg d e:Nat)(c f:Nat)(out:Array An):StateT Ah Sem (ForInStep Oh):=do
 let out:=out.push (<- BB a (c-1))
 if c-1==0 then Al (.done (Z (Ic a b out (c-1) f),c-1,f,out,mg,d,e))
 else if d<7&&e<7 then Al (.done (J,c-1,f,out,mg,d,e))else Al (.yield (J,c-1,f,out,mg,d,e))
def TW(a b:Array An)(mg e f:Nat)(d c:Nat)(out:Array An):StateT Ah Sem (ForInStep Oh):=do
 let out:=out.push (<- BB b (c-1))
 if c-1==1 then Al (.done (Z (Mv a b out d (c-1)),d,c-1,out,mg,e,f))else
  match <- J0 J' (<- BB a (d-1)) b 0 (c-1) (c-1-1)with
  |some at_=>
   if c-1-at_>0 then
    let out:=out++(b.extract at_ (c-1)).reverse
    if at_==1 then Al (.done (Z (Mv a b out d at_),d,at_,out,mg,e,c-1-at_))
    else if at_==0 then Al (.done (Z (Ic a b out d at_),d,at_,out,mg,e,c-1-at_))
    else TV a b mg e (c-1-at_) d at_ out
   else TV a b mg e (c-1-at_) d (c-1) out
  |_=>Al (.done (Z (Ic a b out d (c-1)),d,c-1,out,mg,e,f))
def TX(a b:Array An)(mg f e:Nat)(c d:Nat)(out:Array An):StateT Ah Sem (ForInStep Oh):=do
 Od mg
 match <- J0 O' (<- BB b (d-1)) a 0 c (c-1)with
 |some at_=>
  if c-at_>0 then
   let out:=out++(a.extract at_ c).reverse
   if at_==0 then Al (.done (Z (Ic a b out at_ d),at_,d,out,mg,c-at_,e))
   else TW a b mg (c-at_) e at_ d out
  else TW a b mg (c-at_) e c d out
 |_=>Al (.done (Z (Ic a b out c d),c,d,out,mg,f,e))
abbrev TY:=O (Array An)×Nat×Nat×Array An×Nat×Nat
abbrev Oi:=O (Array An)×Nat×Nat×Array An×Nat
def a6(a b:Array An)(mg:Nat):TY->StateT Ah Sem (ForInStep TY):=λs=>do
 let c:=s.2.1
 let d:=s.2.2.1
 match <- lt' (<- BB b (d-1)) (<- BB a (c-1))with
 |some w=>
  if w then
   let out:=s.2.2.2.1.push (<- BB a (c-1))
   if c-1==0 then Al (.done (Z (Ic a b out (c-1) d),c-1,d,out,s.2.2.2.2.1+1,0))else
    if s.2.2.2.2.1+1≥mg then Al (.done (J,c-1,d,out,s.2.2.2.2.1+1,0))else Al (.yield (J,c-1,d,out,s.2.2.2.2.1+1,0))
  else
   let out:=s.2.2.2.1.push (<- BB b (d-1))
   if d-1==1 then Al (.done (Z (Mv a b out c (d-1)),c,d-1,out,0,s.2.2.2.2.2+1))else
    if s.2.2.2.2.2+1≥mg then Al (.done (J,c,d-1,out,0,s.2.2.2.2.2+1))else Al (.yield (J,c,d-1,out,0,s.2.2.2.2.2+1))
 |_=>Al (.done (Z (Ic a b s.2.2.2.1 c d),s.2))
def sr(a b:Array An):Oh->StateT Ah Sem (ForInStep Oh):=λs=>
 if s.2.2.2.2.1>1 then TX a b (s.2.2.2.2.1-1) s.2.2.2.2.2.1 s.2.2.2.2.2.2 s.2.1 s.2.2.1 s.2.2.2.1 else TX a b s.2.2.2.2.1 s.2.2.2.2.2.1 s.2.2.2.2.2.2 s.2.1 s.2.2.1 s.2.2.2.1
def a7(a b:Array An):Oi->StateT Ah Sem (ForInStep Oi):=λs=>do
 let t <- forIn [0:a.size+b.size] (J,s.2.1,s.2.2.1,s.2.2.2.1,0,0) λ_=>a6 a b s.2.2.2.2
 IQ (λ_=>StateT Ah Sem (ForInStep Oi)) t.1 (λr=>Al (.done (Z r,t.2.1,t.2.2.1,t.2.2.2.1,s.2.2.2.2))) λ_=>do
  rule "list.sort.gallop"
  let t <- forIn [0:a.size+b.size] (J,t.2.1,t.2.2.1,t.2.2.2.1,s.2.2.2.2+1,t.2.2.2.2.1,t.2.2.2.2.2) λ_=>sr a b
  IQ (λ_=>StateT Ah Sem (ForInStep Oi)) t.1 (λr=>Al (.done (Z r,t.2.1,t.2.2.1,t.2.2.2.1,t.2.2.2.2.1))) λ_=>do
   Od (t.2.2.2.2.1+1);Al (.yield (J,t.2.1,t.2.2.1,t.2.2.2.1,t.2.2.2.2.1+1))
theorem su(a b:Array An):TK a b=(do
 rule "list.sort.merge-hi";let out:=((T' [<- BB a (a.size-1)]):Array An);if a.size-1==0 then Al (Ic a b out (a.size-1) b.size)else
  if b.size==1 then Al (Mv a b out (a.size-1) b.size)else do
   let t <- forIn [0:a.size+b.size] (J,a.size-1,b.size,out,gallopOf (<- get)) λ_=>a7 a b
   IQ (λ_=>StateT Ah Sem (Array An)) t.1 Al λ_=>unsupported "internal:list.sort.merge-bound"):=rfl
section
variable{item:Nat->An}{r:Nat->Nat}{n:Nat}{pa pb po:Array Nat}{na nb:Nat}
structure Ds(r:Nat->Nat)(pa pb po:Array Nat)(na nb:Nat):Prop where
 perm:po.toList.Perm (pa.toList.drop na++pb.toList.drop nb)
 so:po.toList.Pairwise λx y=>r y<=r x
 ma:∀x∈po.toList,0<na->r (As pa (na-1))<=r x
 mb:∀x∈po.toList,0<nb->r (As pb (nb-1))<=r x
 la:na<=pa.size
 lb:nb<=pb.size
theorem Ds.stepA(P:Dq r n pa pb)(f:Ds r pa pb po na nb)(b:0<na)(c:0<nb)(h:r (As pb (nb-1))<=r (As pa (na-1))):Ds r pa pb (po.push (As pa (na-1))) (na-1) nb:=by
 let la:=f.la;apply#[?_,?_,λx a e=>?_,λx a _=>?_,∅,f.lb]
 .rw[Qc (i:=na-1) ∅,show na-1+1=na by lia,EK,F3];show J2.trans<|f.perm.cons _
 .rw[EK,IR];show#[f.so,My _ _,λx a y d=>by rw[Cw.mp d];show f.ma x a b]
 .rw[EK,Cj,Cw]at a;rcases a with a|rfl
  .show Bu (P.sa _ _ ∅ ∅)<|f.ma x a b
  .show P.sa _ _ ∅ ∅
 .rw[EK,Cj,Cw]at a;rcases a with a|rfl
  .show f.mb x a c
  .show h
theorem Ds.stepB(P:Dq r n pa pb)(f:Ds r pa pb po na nb)(c:0<na)(b:0<nb)(h:r (As pa (na-1))<=r (As pb (nb-1))):Ds r pa pb (po.push (As pb (nb-1))) na (nb-1):=by
 let lb:=f.lb;apply#[?_,?_,λx a _=>?_,λx a e=>?_,f.la,∅]
 .rw[Qc (i:=nb-1) ∅,show nb-1+1=nb by lia,EK];show J2.trans<|(f.perm.cons _).trans List.perm_middle.symm
 .rw[EK,IR];show#[f.so,My _ _,λx a y d=>by rw[Cw.mp d];show f.mb x a b]
 .rw[EK,Cj,Cw]at a;rcases a with a|rfl
  .show f.ma x a c
  .show h
 .rw[EK,Cj,Cw]at a;rcases a with a|rfl
  .show Bu (P.sb _ _ ∅ ∅)<|f.mb x a b
  .show P.sb _ _ ∅ ∅
theorem a9{p q:Array Nat}{i:Nat}(h:i<j)(a:j<=q.size):p++(q.extract i j).reverse=(p++(q.extract (i+1) j).reverse).push (As q i):=by
 apply(J3.mp);erw[IT,EK,Ie,Qe,Fd,C8];congr 1;rw[Qc (i:=i) (B7 h a),show j-i=(j-(i+1))+1 by lia,List.take_succ_cons,List.reverse_cons]
theorem Ds.blockA(P:Dq r n pa pb):∀(k at_:Nat){po:Array Nat},Ds r pa pb po na nb->at_+k=na->0<nb->(∀i,at_<=i->i<na->r (As pb (nb-1))<=r (As pa i))->Ds r pa pb (po++(pa.extract at_ na).reverse) at_ nb
 |0,at_,po,g,e,_,_=>by
  let f:po++(pa.extract at_ na).reverse=po:=by
   apply(J3.mp);simp[Fd];lia
  rw[f,show at_=na by show Nat.add_right_cancel e];show g
 |k+1,at_,po,g,e,c,d=>by
  rw[a9 ∅ g.la];have:=(Ds.blockA P k (at_+1) g ∅ c λi a b=>d i (J1 a) b).stepA P (Nat.zero_lt_succ at_) c (d _ (A4 at_) ∅);show this
theorem Ds.blockB(P:Dq r n pa pb):∀(k at_:Nat){po:Array Nat},Ds r pa pb po na nb->at_+k=nb->0<na->(∀i,at_<=i->i<nb->r (As pa (na-1))<=r (As pb i))->Ds r pa pb (po++(pb.extract at_ nb).reverse) na at_
 |0,at_,po,g,e,_,_=>by
  let f:po++(pb.extract at_ nb).reverse=po:=by
   apply(J3.mp);simp[Fd];lia
  rw[f,show at_=nb by show Nat.add_right_cancel e];show g
 |k+1,at_,po,g,e,c,d=>by
  rw[a9 ∅ g.lb];have:=(Ds.blockB P k (at_+1) g ∅ c λi a b=>d i (J1 a) b).stepB P c (Nat.zero_lt_succ at_) (d _ (A4 at_) ∅);show this
theorem Oj{p:Array Nat}{k x:Nat}(h:x∈p.toList.take k):∃i,i<k/\i<p.size/\x=As p i:=by
 let(i,a,rfl):=List.mem_iff_getElem.mp h;simp at a;apply#[i,∅,∅,?_];simp[As,IP,show i<p.size by lia]
theorem ba{l:U Nat}(h:l.Pairwise λx y=>r y<=r x):l.reverse.Pairwise λx y=>r x<=r y:=List.pairwise_reverse.mpr h
theorem Ds.done(P:Dq r n pa pb)(e:Ds r pa pb po na nb)(h:na=0):∃pm:Array Nat,Ic (pa.map item) (pb.map item) (po.map item) na nb=pm.map item/\D6 r pa pb pm:=by
 subst h;let lb:=e.lb;apply#[pb.extract 0 nb++po.reverse,?_,?_,?_]
 .apply(J3.mp);simp[Ic,Fd]
 .erw[IT,Ie,Qe,Fd,NR,Nat.sub_zero];let h:=(List.reverse_perm po.toList).trans e.perm;refine(h.append_left _).trans ?_;apply J2.trans ?_;rw[C8];apply Qd _ ?_;apply J2.trans ?_;rw[IU]
 .erw[IT,Ie,Qe,Fd,NR,Nat.sub_zero];rw[IR];apply#[(Mw P.sb).take,ba e.so,λx b y c=>?_];let(i,a,d,rfl):=Oj b;show Bu (P.sb i (nb-1) (La a) ∅)<|e.mb y (List.mem_reverse.mp c)<|D7 a
theorem Ds.fst(P:Dq r n pa pb)(g:Ds r pa pb po na nb)(h:nb=1):∃pm:Array Nat,Mv (pa.map item) (pb.map item) (po.map item) na nb=pm.map item/\D6 r pa pb pm:=by
 subst h;let la:=g.la;apply#[pb.extract 0 1++pa.extract 0 na++po.reverse,?_,?_,?_]
 .apply(J3.mp);simp[Mv,Fd]
 .erw[IT,Ie,Qe,Fd,NR,Nat.sub_zero];refine(((List.reverse_perm po.toList).trans g.perm).append_left _).trans ?_;rw[C8,<- C8 (pa.toList.take na),IU];apply J2.trans ?_;rw[C8];apply Qd _ ?_;apply J2.trans ?_;rw[IU]
 .erw[IT,Ie,Qe,Fd,NR,Nat.sub_zero];rw[IR,IR];apply#[#[(Mw P.sb).take,(Mw P.sa).take,λx a y c=>?_],ba g.so,λx a y c=>?_]
  .let(i,b,d,rfl):=Oj a;let(j,f,e,rfl):=Oj c;have:i=0:=Nat.lt_one_iff.mp b;subst this;show FP<|P.fst _ e
  .rcases Cj.mp a with a|a
   .let(i,b,d,rfl):=Oj a;show Bu (P.sb i (1-1) (La b)<|Nat.lt_of_add_left_lt d)<|g.mb y (List.mem_reverse.mp c) Nat.one_pos
   .let(i,b,d,rfl):=Oj a;show Bu (P.sa i (na-1) (La b) ∅)<|g.ma y (List.mem_reverse.mp c)<|D7 b
theorem bc{p q:Array Nat}{i:Nat}:p.map item++((q.map item).extract i j).reverse=(p++(q.extract i j).reverse).map item:=by simp
end
section
variable(r:Nat->Nat)(item:Nat->An)(pa pb:Array Nat)(S:Ah)
def HI{e:Type}(x:Nat)(b:O (Array An)×Nat×Nat×Array An×e)(st:Ah):Prop:=∃g a d po c,st=FG S g/\b=(J,a,d,po.map item,c)/\Ds r pa pb po a d/\1<=a/\2<=d/\x+a+d<=pa.size+pb.size
def HQ{a:Type}(x:Nat)(b:O (Array An)×Nat×Nat×Array An×a)(st:Ah):Prop:=HI r item pa pb S x b st\/MQ r item pa pb S b st
end
section
variable{prog:AL}{w:Aj}{A:Ag}{E:Aa->Ab->Prop}{s:Ab}{item:Nat->An}{r:Nat->Nat}{n:Nat}{pa pb:Array Nat}
variable{po:Array Nat}{na nb:Nat}
theorem bd(P:Dq r n pa pb){st:Ah}{x g mg c d:Nat}(j:Ds r pa pb po na nb)(a:1<=na)(i2:2<=nb)(f:x+1+y+na+nb<=pa.size+pb.size)(h:r (As pb (nb-1))<=r (As pa (na-1))):wpS (Ae prog w) A E s (TV (pa.map item) (pb.map item) mg c d na nb (po.map item)) (FB (HQ r item pa pb st (x+2)) (HI r item pa pb st (x+1+(y+1)))) (FG st g):=by
 let la:=j.la;let i:=j.stepA P (D7 a) (D7 i2) h;apply AY<|ZS (MA a la) ?_;dsimp only;rw[J4];apply Zn (λq=>?_) λq=>?_
 .let(pm,e,R):=i.done (item:=item) P (Ii q);rw[e];show Bd<|.inr ⟨g,pm,rfl,rfl,R⟩
 let b:na-1≠0:=λh=>q (by rw[h];rfl);show Zn (λq=>Bd<|.inl ⟨g,_,_,_,_,rfl,rfl,i,by show MB.mpr b,i2,∅⟩) λq=>Bd #[g,_,_,_,_,rfl,rfl,i,by show MB.mpr b,i2,∅]
variable(H:K7 prog w A E s κ item r n)
include H
theorem be(P:Dq r n pa pb){st:Ah}(t:kindOf st=κ){x g mg u v:Nat}(G:Ds r pa pb po na nb)(c:1<=na)(i2:2<=nb)(C:x+1+y+na+nb<=pa.size+pb.size)(h:r (As pa (na-1))<=r (As pb (nb-1))):wpS (Ae prog w) A E s (TW (pa.map item) (pb.map item) mg u v na nb (po.map item)) (FB (HQ r item pa pb st (x+2)) (HI r item pa pb st (x+1+(y+1)))) (FG st g):=by
 let la:=G.la;let lb:=G.lb;let F:=G.stepB P (D7 c) (D7 i2) h;apply AY<|ZS ∅ ?_;dsimp only;rw[J4];apply Zn (λq=>?_) λq=>?_
 .let(pm,e,R):=F.fst (item:=item) P (Ii q);rw[e];show Bd<|.inr ⟨g,pm,rfl,rfl,R⟩
 let z:nb-1≠1:=λh=>q (by rw[h];rfl);apply AY<|ZS (MA c la)<|AY<|Mt H (P.la _<|MA c la) P.lb ∅ ∅ (λi j l m=>P.sb _ _ (Mz.mpr l) ∅) t λk l1 o f=>?_;erw[if_true,IX]at o f;let B:1<=k:=by
  rcases Ew 0 k with h|h
  .show h
  .let l:=f 0 ∅<|Nat.zero_lt_sub_of_lt i2;let m:=P.fst (na-1)<|MA c la;show MB.mpr λa=>l m
 let p:=Ds.blockB P (nb-1-k) k F (NA l1) (D7 c) λi a b=>by have:=f i a b;show Gm<|f i a b
 let d:r (As pb<|k-1)<=r (As pa<|na-1):=FP<|o (k-1)<|GP B;apply Zn (λq=>?_) λq=>?_
 .rw[bc];apply Zn (λq=>?_) λq=>?_
  .let(pm,e,R):=p.fst (item:=item) P (Ii q);rw[e];show Bd<|.inr ⟨g,pm,rfl,rfl,R⟩
  let z:k≠1:=λh=>q (by rw[h];rfl);apply Zn (λq=>?_) λq=>bd P p c ∅ ∅ d;have:=Ii q;lia
 .let e:k=nb-1:=∅
  subst e;show bd P F c ∅ ∅ d
theorem bf(P:Dq r n pa pb){st:Ah}(d:kindOf st=κ){x g mg p t:Nat}(F:Ds r pa pb po na nb)(f:1<=na)(i2:2<=nb)(z:x+1+y+na+nb<=pa.size+pb.size):wpS (Ae prog w) A E s (TX (pa.map item) (pb.map item) mg p t na nb (po.map item)) (FB (HQ r item pa pb st (x+2)) (HI r item pa pb st (x+1+(y+1)))) (FG st g):=by
 let la:=F.la;let lb:=F.lb;apply AY<|Qb<|AY<|ZS ∅<|AY<|Mt H (P.lb _ ∅) P.la ∅ (GP f) (λi j u B=>P.sa _ _ (Mz.mpr u) ∅) d λk v l m=>?_;erw[Fs,if_false,IX]at l m;let C:=Ds.blockA P (na-k) k F (NA v) (D7 i2) λi a b=>by have:=m i a b;lia
 let c:0<k->r (As pa<|k-1)<=r (As pb<|nb-1):=λ_=>by
  have:=l (k-1) ∅;show Oc this
 apply Zn (λq=>?_) λq=>?_
 .dsimp only;rw[bc];apply Zn (λq=>?_) λq=>?_
  .let(pm,e,R):=C.done (item:=item) P (Ii q);rw[e];show Bd<|.inr ⟨mg,pm,rfl,rfl,R⟩
  let o:k≠0:=λh=>q (by rw[h];rfl);show be H P d C (MB.mpr o) i2 ∅<|c<|Nat.zero_lt_of_ne_zero o
 .let e:k=na:=∅
  subst e;show be H P d F (Nat.one_le_of_lt f) i2 ∅<|c<|D7 f
theorem sv(P:Dq r n pa pb){S:Ah}(f:kindOf S=κ){x mg:Nat}{b:TY}{st:Ah}(h:HI r item pa pb S (x+1) b st):wpS (Ae prog w) A E s (a6 (pa.map item) (pb.map item) mg b) (FB (HQ r item pa pb S (x+1)) (HI r item pa pb S (x+1))) st:=by
 let(g,na,nb,po,c,rfl,rfl,k,a,i2,i):=h;let la:=k.la;let lb:=k.lb;apply AY<|ZS ∅<|AY<|ZS (MA a la)<|AY<|H _ _ (P.lb _ ∅) (P.la _<|MA a la) _ _ f ?_;apply Zn (λq=>?_) λq=>?_
 .let j:=k.stepA P (D7 a) (D7 i2)<|FP<|of_decide_eq_true q;apply AY<|ZS (MA a la) ?_;dsimp only;rw[J4];apply Zn (λq=>?_) λq=>?_
  .let(pm,e,R):=j.done (item:=item) P (Ii q);rw[e];show Bd<|.inr ⟨g,pm,rfl,rfl,R⟩
  let d:na-1≠0:=λh=>q (by rw[h];rfl);show Zn (λq=>Bd<|.inl ⟨g,_,_,_,_,rfl,rfl,j,by show MB.mpr d,i2,∅⟩) λq=>Bd #[g,_,_,_,_,rfl,rfl,j,by show MB.mpr d,i2,∅]
 .let j:=k.stepB P (D7 a) (D7 i2)<|Gm λh=>q<|decide_eq_true h;apply AY<|ZS ∅ ?_;dsimp only;rw[J4];apply Zn (λq=>?_) λq=>?_
  .let(pm,e,R):=j.fst (item:=item) P (Ii q);rw[e];show Bd<|.inr ⟨g,pm,rfl,rfl,R⟩
  let d:nb-1≠1:=λh=>q (by rw[h];rfl);show Zn (λq=>Bd<|.inl ⟨g,_,_,_,_,rfl,rfl,j,a,∅,∅⟩) λq=>Bd #[g,_,_,_,_,rfl,rfl,j,a,∅,∅]
theorem sw(P:Dq r n pa pb){S:Ah}(f:kindOf S=κ){x:Nat}{b:Oi}{st:Ah}(h:HI r item pa pb S (x+1) b st):wpS (Ae prog w) A E s (a7 (pa.map item) (pb.map item) b) (FB (MQ r item pa pb S) (HI r item pa pb S (x+1+1))) st:=by
 let(g,na,nb,po,mg,rfl,rfl,j,a,i2,d):=h;apply AY<|IW (λ_=>HI r item pa pb S<|x+1) (HQ r item pa pb S<|x+1) (λi c st _ h=>sv H P f h) (λc st h=>.inl h) #[g,na,nb,po,_,rfl,rfl,j,a,i2,d] λb st h=>?_;clear j a i2 d;rcases h with⟨g,na,nb,po,c,rfl,rfl,j,a,i2,d⟩|⟨g,pm,rfl,e,R⟩
 .apply AY<|wpS_lift<|FV ⟨rfl,AY<|IW (λy=>HI r item pa pb S<|x+1+y) (HQ r item pa pb S<|x+2) (λi c st _ h=>?_) (λc st h=>?_) ⟨g,na,nb,po,_,rfl,rfl,j,a,i2,d⟩ λb st h=>?_⟩;all_goals clear j a i2 d
  .let(g,na,nb,po,c,rfl,rfl,j,a,i2,d):=h;show Zn (λ_=>bf H P f j a i2 d) λ_=>bf H P f j a i2 d
  .let(g,na,nb,po,c,rfl,rfl,j,a,i2,d):=h;rw[Ih,Ih]at d;show .inl #[g,_,_,_,_,rfl,rfl,j,a,i2,∅]
  .rcases h with⟨g,na,nb,po,c,rfl,rfl,j,a,i2,d⟩|⟨g,pm,rfl,e,R⟩
   .show AY<|Qb<|Bd ⟨_,_,_,_,_,rfl,rfl,j,a,i2,d⟩
   .rw[e];show Bd #[g,pm,rfl,rfl,R]
 .rw[e];show Bd #[g,pm,rfl,rfl,R]
theorem sx(P:Dq r n pa pb){Q:Array An->Ah->Prop}{st:Ah}(j:kindOf st=κ)(h:∀pm g,D6 r pa pb pm->Q (pm.map item) (FG st g)):wpS (Ae prog w) A E s (TK (pa.map item) (pb.map item)) Q st:=by
 let a1:=P.a1;let b1:=P.b1;let k:(pa.map item).size=pa.size:=Ih;let l:(pb.map item).size=pb.size:=Ih;rw[su,k,l];apply AY<|wpS_lift<|FV ⟨rfl,AY<|ZS (GP a1) ?_⟩;let m:((T' [item<|As pa<|pa.size-1]):Array An)=((T' [As pa<|pa.size-1]):Array Nat).map item:=by simp
 dsimp only;rw[m];let a:Ds r pa pb (T' [As pa<|pa.size-1]) (pa.size-1) pb.size:=by
  apply#[?_,My _ _,λx d o=>?_,λx d o=>?_,by show Nat.sub_le pa.size 1,A4 _]
  .rw[Qc<|GP a1,show pa.size-1+1=pa.size by show Nat.sub_add_cancel a1,List.drop_of_length_le (by simp),List.drop_of_length_le (by simp)];simp
  .rw[Cw.mp d];show P.sa _ _ (Nat.sub_le_succ_sub (pa.size-1) 1)<|GP a1
  .rw[Cw.mp d];show FP<|P.lst _<|GP b1
 apply Zn (λq=>?_) λp=>?_
 .let(pm,e,R):=a.done (item:=item) P (Ii q);rw[e];show Bd<|h pm (gallopOf st) R
 let f:pa.size-1≠0:=λh=>p (by rw[h];rfl);apply Zn (λq=>?_) λt=>?_
 .let(pm,e,R):=a.fst (item:=item) P (Ii q);rw[e];show Bd<|h pm (gallopOf st) R
 let u:pb.size≠1:=λh=>t (by rw[h];rfl);apply AY<|wpS_get<|AY<|IW (λx=>HI r item pa pb st<|x+1) (MQ r item pa pb st) (λi c st _ h=>sw H P j h) (λc st h=>?_) #[gallopOf st,_,_,_,_,rfl,rfl,a,by show MB.mpr f,∅,∅] λb v y=>?_
 .let(g,na,nb,po,mg,rfl,rfl,C,z,i2,B):=h;lia
 .let(g,pm,rfl,e,R):=y;rw[e];show Bd<|h pm g R
end
def TZ(lo a d:Nat):StateT Ah Sem AscSt:=
 forIn [a:d] ((J,a):AscSt) λ_ b=>do
  let e <- ltAt' (lo+b.snd) (lo+b.snd-1)
  match e with
  |some c=>if c=J' then Al (J5 (J,b.snd))else Al (GI (J,b.snd+1))
  |_=>Al (J5 (Z J,b.snd))
def T0(lo n a:Nat):StateT Ah Sem (O Nat):=do
 reverseSlice' lo (lo+n)
 let b <- TZ lo n a
 IQ (λ_=>StateT Ah Sem (O Nat)) b.fst Al λ_=>Al (Z b.snd)
def bg(lo n e:Nat):StateT Ah Sem DescSt:=
 forIn [n:e] ((J,n,0):DescSt) λ_ a=>do
  let d <- ltAt' (lo+a.snd.fst) (lo+a.snd.fst-1)
  match d with
  |some b=>
   if b=J' then
    if a.snd.snd>0 then do
     reverseSlice' (lo+a.snd.fst-(a.snd.snd+1)) (lo+a.snd.fst)
     Al (GI (J,a.snd.fst+1,0))
    else Al (GI (J,a.snd.fst+1,0))
   else do
    let d <- ltAt' (lo+a.snd.fst-1) (lo+a.snd.fst)
    match d with
    |some c=>
     if c=J' then Al (J5 (J,a.snd.fst,a.snd.snd))
     else Al (GI (J,a.snd.fst+1,a.snd.snd+1))
    |_=>Al (J5 (Z J,a.snd.fst,a.snd.snd))
  |_=>Al (J5 (Z J,a.snd.fst,a.snd.snd))
def T2(lo n b:Nat):StateT Ah Sem (O Nat):=do
 liftM (rule "list.sort.descending-run")
 let a <- bg lo (n+1) b
 IQ (λ_=>StateT Ah Sem (O Nat)) a.fst Al λ_=>
  if a.snd.snd>0 then do
   reverseSlice' (lo+a.snd.fst-(a.snd.snd+1)) (lo+a.snd.fst)
   T0 lo a.snd.fst b
  else T0 lo a.snd.fst b
theorem sA(lo b:Nat):countRun' lo b=(do
  let a <- TZ lo 1 b
  IQ (λ_=>StateT Ah Sem (O Nat)) a.fst Al λ_=>
   if(a.snd==b)=J' then Al (Z a.snd)
   else if a.snd>1 then do
    let d <- ltAt' lo (lo+a.snd-1);match d with
    |some c=>if c=J' then Al (Z a.snd)else do
      reverseSlice' lo (lo+a.snd)
      T2 lo a.snd b
    |_=>Al J
   else T2 lo a.snd b):=rfl
abbrev Dm(item:Nat->An)(st:Ah)(p:Array Nat):Ah:=setArr st (p.map item)
def EL(r:Nat->Nat)(p:Array Nat)(a b:Nat):Prop:=∀i j,a<=i->i<=j->j<b->r (As p i)<=r (As p j)
def Ol(r:Nat->Nat)(p:Array Nat)(a b:Nat):Prop:=∀i j,a<=i->i<=j->j<b->r (As p j)<=r (As p i)
def J6(p a:Array Nat)(lo:Nat):Prop:=∀i,i<lo->As a i=As p i
section
variable{prog:AL}{w:Aj}{A:Ag}{E:Aa->Ab->Prop}{s:Ab}{item:Nat->An}{r:Nat->Nat}{n:Nat}{p:Array Nat}{st:Ah}{lo nrem:Nat}
theorem Qf{i:Nat}{Q:Unit->Ah->Prop}(h:Q () (Dm item st (kas_rev p i j))):wpS (Ae prog w) A E s (reverseSlice' i j) Q (Dm item st p):=by
 apply wpS_reverse ?_;rw[show mirror (p.map item) i j ((j-i)/2)=(kas_rev p i j).map item from kas_swaps_map item (λk=>i+k) (λk=>j-1-k) _ p];show h
theorem T4{i c:Nat}(b:j<=p.size)(h:∀k,i<=k->k<j->r (As p k)=c)(k:Nat):r (As (kas_rev p i j) k)=r (As p k):=by
 rw[K6 b];by_cases a:i<=k/\k<j
 .rw[if_pos a,h k a.1 a.2,h _ ∅ ∅]
 .rw[if_neg a]
variable(H:K7 prog w A E s κ item r n)
include H
theorem Om{i:Nat}{Q:O Bool->Ah->Prop}(a:Bs n p)(b:i<n)(c:j<n)(d:kindOf st=κ)(h:Q (Z (decide (r (As p i)<r (As p j)))) (Dm item st p)):wpS (Ae prog w) A E s (ltAt' i j) Q (Dm item st p):=by
 apply AY<|wpS_get ?_;apply AY<|ZS (by rw[a.size];show b)<|AY<|ZS (by rw[a.size];show c) ?_;show H _ _ (a.lt b) (a.lt c) _ _ d h
theorem bh{a:Nat}(o:Bs n p)(v:1<=a)(l:a<=nrem)(y:lo+nrem<=n)(t:kindOf st=κ)(d:EL r p lo (lo+a)){Q:AscSt->Ah->Prop} (h:∀m,a<=m->m<=nrem->EL r p lo (lo+m)->(m=nrem\/r (As p (lo+m))<r (As p (lo+m-1)))->Q (J,m) (Dm item st p)):wpS (Ae prog w) A E s (TZ lo a nrem) Q (Dm item st p):=by
 apply K9 (λx b e=>e=Dm item st p/\b=(J,x)/\EL r p lo (lo+x)) ?_ ?_ #[rfl,rfl,d]
 .intro x b e g u zQ;let(rfl,rfl,d):=zQ;apply AY<|Om H o ∅ ∅ t ?_;apply Zn (λq=>?_) λq=>?_
  .show Bd<|h x g (J1 u) d<|.inr<|of_decide_eq_true q
  .apply Bd #[rfl,rfl,λi j a b c=>?_];rcases Ew j (lo+x)with k|k
   .show d i j a b k
   .have:j=lo+x:=Lb k c;subst this;rcases Ew i (lo+x)with f|f
    .have:=d i (lo+x-1) a (La f)<|GP f;lia
    .have:i=lo+x:=Eq.symm<|MC f b;subst this;show A4 _
 .intro b e zQ;let(rfl,rfl,d):=zQ;rw[show max a nrem=nrem by show Nat.max_eq_right l]at d ⊢;show h nrem l (A4 _) d<|.inl rfl
theorem bi{m:Nat}(e:Bs n p)(f:1<=m)(g:m<=nrem)(k:lo+nrem<=n)(l:kindOf st=κ)(hd:Ol r p lo (lo+m)){Q:O Nat->Ah->Prop}
  (h:∀m d,1<=m->m<=nrem->Bs n d->J6 p d lo->EL r d lo (lo+m)->Q (Z m) (Dm item st d)):wpS (Ae prog w) A E s (T0 lo m nrem) Q (Dm item st p):=by
 apply AY (Qf ?_)
 let z:=e.size
 apply AY (bh H (e.rev lo (lo+m)) f g k l (λi j a b c=>?_) λo a b c _=>?_)
 .rw[K6 ∅,K6 ∅,if_pos ∅,if_pos ∅]
  show hd _ _ ∅ (Nat.sub_le_sub_left b (lo+(lo+m)-1)) ∅
 .show Bd (h o _ (Bu f a) b (e.rev _ _) (λi q=>by rw[K6 ∅,if_neg ∅]) c)
theorem sB{m:Nat}(K:Bs n p)(F:1<=m)(C:m<=nrem)(M:lo+nrem<=n)(G:kindOf st=κ)(hd:Ol r p lo (lo+m)){Q:DescSt->Ah->Prop}
  (h:∀o q f,m<=o->o<=nrem->Bs n f->J6 p f lo->Ol r f lo (lo+o)->q+1<=o->(∀i,lo+o-(q+1)<=i->i<lo+o->r (As f i)=r (As f (lo+o-1)))->Q (J,o,q) (Dm item st f)):
  wpS (Ae prog w) A E s (bg lo m nrem) Q (Dm item st p):=by
 apply K9 (λx b t=>∃q f,t=Dm item st f/\b=(J,x,q)/\Bs n f/\J6 p f lo/\Ol r f lo (lo+x)/\q+1<=x/\∀i,lo+x-(q+1)<=i->i<lo+x->r (As f i)=r (As f (lo+x-1))) ?_ ?_
  #[0,p,rfl,rfl,K,λ_ _=>rfl,hd,F,λi a b=>by rw[show i=lo+m-1 by lia]]
 .intro x b t z L zQ;let(q,f,rfl,rfl,k,u,hd,y,v):=zQ
  apply AY (Om H k ∅ ∅ G ?_)
  apply Zn (λc=>?_) λc=>?_
  .apply Zn (λB=>?_) λB=>?_
   .apply AY (Qf (Bd ?_))
    let e:=T4 (p:=f) (r:=r) (i:=lo+x-(q+1)) (j:=lo+x) ∅ v
    apply#[0,_,rfl,rfl,k.rev _ _,λi g=>?_,λi j a b d=>?_,by show Nat.le_add_left (0+1) x,λi a b=>by rw[show i=lo+(x+1)-1 by show Lb a b]]
    .rw[K6 ∅,if_neg ∅];show u i g
    .rw[e,e]
     rcases Ew j (lo+x)with l|l
     .show hd i j a b l
     .have:j=lo+x:=Lb l d
      subst this
      rcases Ew i (lo+x)with g|g
      .have:=hd i (lo+x-1) a (La g) (GP g);lia
      .have:i=lo+x:=Eq.symm (MC g b)
       subst this;show A4 _
   .apply Bd #[0,_,rfl,rfl,k,u,λi j a b d=>?_,by show Nat.le_add_left (0+1) x,λi a b=>by rw[show i=lo+(x+1)-1 by show Lb a b]]
    rcases Ew j (lo+x)with l|l
    .show hd i j a b l
    .have:j=lo+x:=Lb l d
     subst this
     rcases Ew i (lo+x)with g|g
     .have:=hd i (lo+x-1) a (La g) (GP g);lia
     .have:i=lo+x:=Eq.symm (MC g b)
      subst this;show A4 _
  .apply AY (Om H k ∅ ∅ G ?_)
   apply Zn (λB=>?_) λB=>?_
   .show Bd (h x q f z (J1 L) k u hd y v)
   .apply Bd #[q+1,_,rfl,rfl,k,u,λi j a b d=>?_,by show Nat.add_le_add_right y 1,λi a b=>?_]
    .rcases Ew j (lo+x)with l|l
     .show hd i j a b l
     .have:j=lo+x:=Lb l d
      subst this
      rcases Ew i (lo+x)with g|g
      .have:=hd i (lo+x-1) a (La g) (GP g);lia
      .have:i=lo+x:=Eq.symm (MC g b)
       subst this;show A4 _
    .rw[show lo+(x+1)-1=lo+x by show Nat.add_succ_sub_one lo x]
     rcases Ew i (lo+x)with g|g
     .rw[show r (As f (lo+x))=r (As f (lo+x-1)) by lia];show v i ∅ g
     .rw[show i=lo+x by show Lb g b]
 .intro b t zQ;let(q,f,rfl,rfl,k,u,hd,y,v):=zQ
  rw[show max m nrem=nrem by show Nat.max_eq_right C]at hd y v ⊢
  show h nrem q f C (A4 _) k u hd y v
theorem bj{m:Nat}(F:Bs n p)(L:m+1<=nrem)(u:lo+nrem<=n)(v:kindOf st=κ)(hd:Ol r p lo (lo+(m+1))){Q:O Nat->Ah->Prop}
  (h:∀m l,1<=m->m<=nrem->Bs n l->J6 p l lo->EL r l lo (lo+m)->Q (Z m) (Dm item st l)):wpS (Ae prog w) A E s (T2 lo m nrem) Q (Dm item st p):=by
 apply AY (wpS_lift (FV #[rfl,?_]))
 apply AY (sB H F (Nat.le_add_left 1 m) L u v hd λK q l a b c d e f g=>?_)
 let z:=c.size
 apply Zn (λk=>?_) λk=>?_
 .apply AY (Qf ?_)
  let o:=T4 (p:=l) (r:=r) (i:=lo+K-(q+1)) (j:=lo+K) ∅ g
  apply bi H (c.rev _ _) (Nat.one_le_of_lt a) b u v (λi j a b d=>by rw[o,o];show e i j a b d) λm2 x y B C G o=>h m2 x y B C (λi t=>?_) o
  rw[G i t,K6 ∅,if_neg ∅];show d i t
 .show bi H c (Nat.one_le_of_lt a) b u v e λm2 x y B C G o=>h m2 x y B C (λi t=>by rw[G i t];show d i t) o
theorem sC(f:Bs n p)(B:1<=nrem)(y:lo+nrem<=n)(o:kindOf st=κ){Q:O Nat->Ah->Prop} (h:∀m t,1<=m->m<=nrem->Bs n t->J6 p t lo->EL r t lo (lo+m)->Q (Z m) (Dm item st t)):wpS (Ae prog w) A E s (countRun' lo nrem) Q (Dm item st p):=by
 rw[sA];apply AY<|bh H f (A4 1) B y o (λi j a b c=>by rw[show i=j by lia];show A4 _) λm a b c d=>?_;apply Zn (λq=>?_) λq=>?_
 .show Bd<|h m p a b f (λ_ _=>rfl) c
 let q:m≠nrem:=λe=>q (by rw[e];show beq_self_eq_true _);apply Zn (λk=>?_) λk=>?_
 .apply AY<|Om H f ∅ ∅ o ?_;apply Zn (λu=>?_) λu=>?_
  .show Bd<|h m p a b f (λ_ _=>rfl) c
  let eq:∀i,lo<=i->i<lo+m->r (As p i)=r (As p lo):=λi a1 b1=>by
   let M:=c lo i (A4 _) a1 b1;let N:=c i (lo+m-1) a1 (La b1)<|GP b1;lia
  let v:=T4 (p:=p) (r:=r) (i:=lo) (j:=lo+m) ∅ eq;apply AY<|Qf<|bj H (f.rev _ _) ∅ y o (λi j a b g=>?_) λm2 C G K F L v=>h m2 C G K F (λi l=>?_) v
  .rw[v,v];rcases Ew j (lo+m)with x|x
   .rw[eq i a<|Gs b x,eq j (Bu a b) x];show A4 _
   .have:j=lo+m:=Lb x g;subst this;rcases Ew i (lo+m)with l|l
    .rw[eq i a l];rw[eq (lo+m-1) ∅<|GP l]at d;lia
    .rw[show i=lo+m by show Eq.symm (MC l b)];show A4 _
  .rw[L i l,K6 ∅,if_neg ∅]
 .apply bj H f ∅ y o (λi j a b g=>?_) h;have:m=1:=∅
  subst this;rcases Ew i j with z|z
  .rw[show i=lo by lia,show j=lo+1 by lia];rw[show lo+1-1=lo by show Nat.add_sub_self_right lo 1]at d;lia
  .rw[show i=j by lia];show A4 _
theorem sD{m ok:Nat}(N:Bs n p)(F:1<=ok)(K:ok<=m)(h3:lo+m<=n)(T:kindOf st=κ)(P:EL r p lo (lo+ok)){Q:Bool->Ah->Prop}
  (h:∀d,Bs n d->J6 p d lo->EL r d lo (lo+m)->Q J' (Dm item st d)):wpS (Ae prog w) A E s (binarySort' lo m ok) Q (Dm item st p):=by
 rw[binarySort'_eq]
 let Y:max ok 1=ok:=Nat.max_eq_left F
 rw[Y]
 apply AY (wpS_mono (K9 (λk b f=>b=(J,())/\∃d,f=Dm item st d/\Bs n d/\J6 p d lo/\EL r d lo (lo+k))
  (Q:=λb f=>b=(J,())/\∃d,f=Dm item st d/\Bs n d/\J6 p d lo/\EL r d lo (lo+m)) ?_ ?_ #[rfl,p,rfl,N,λ_ _=>rfl,P]) ?_)
 .intro k b f hak hkm zQ;let(rfl,d,rfl,o,B,g):=zQ
  let z:=o.size
  apply AY (wpS_mono (K9 (λx b f=>f=Dm item st d/\∃l u,b=(J,l,u)/\l<=u/\u<=k/\u+x<=k+l /\
    (∀i,i<l->r (As d (lo+i))<=r (As d (lo+k)))/\(∀i,u<=i->i<k->r (As d (lo+k))<r (As d (lo+i))))
   (Q:=λb f=>f=Dm item st d/\∃l u,b=(J,l,u)/\l<=k /\
    (∀i,i<l->r (As d (lo+i))<=r (As d (lo+k)))/\(∀i,l<=i->i<k->r (As d (lo+k))<r (As d (lo+i)))) ?_ ?_ #[rfl,0,k,rfl,by show ET k,by show A4 k,by show Hw (k+0) 0,λi L=>∅,λi F K=>∅]) ?_)
  .intro x b f _ hx zQ;let(rfl,l,u,rfl,C,G,R,t,y):=zQ
   dsimp only
   apply Zn (λq=>?_) λq=>?_
   .show Bd #[rfl,l,u,rfl,by show Bu C G,t,λi a b=>y i (Bu q a) b]
   .let v1:l<=(l+u)/2:=by clear R;lia
    let M:(l+u)/2<u:=by clear R;lia
    generalize (l+u)/2=v at v1 M ⊢
    apply AY (Om H o ∅ ∅ T ?_)
    dsimp only
    apply Zn (λq=>?_) λq=>?_
    .let q:=of_decide_eq_true q
     show Bd #[rfl,_,_,rfl,∅,∅,∅,t,λi a b=>B7 q (g _ _ (Hw lo v) (Mz.mpr a) (Nat.add_lt_add_left b lo))]
    .let q:¬ r (As d (lo+k))<r (As d (lo+v)):=λh=>q (decide_eq_true h)
     show Bd #[rfl,_,_,rfl,by show Nat.succ_le_of_lt M,∅,∅,λi a=>Bu (g (lo+i) (lo+v) (Hw lo i) ∅ ∅) (Gm q),y]
  .intro b f zQ;let(rfl,l,u,rfl,C,G,R,t,y):=zQ
   show#[rfl,l,u,rfl,by show Bu C G,t,λi a b=>y i ∅ b]
  .intro b f zQ;let(rfl,l,u,rfl,C,t,y):=zQ
   change wpS _ _ _ _ (do moveDown' (lo+k) (lo+l);Al (GI (J,()))) _ _
   rw[moveDown'_eq]
   apply AY (wpS_modify (Bd #[rfl,bubble d (lo+k) (k-l),?_,o.bub _ _,λi L=>?_,λi j a b c=>?_]))
   .let e:bubble (d.map item) (lo+k) (k-l)=(bubble d (lo+k) (k-l)).map item:=kas_swaps_map item (λi=>lo+k-i) (λi=>lo+k-i-1) _ d
    change setArr st (bubble (d.map item) (lo+k) (lo+k-(lo+l)))=_
    rw[show lo+k-(lo+l)=k-l by show Nat.add_sub_add_left lo k l,e]
   .rw[TF ∅ ∅,if_neg ∅,if_neg ∅];show B i L
   .rw[TF ∅ ∅,TF ∅ ∅,show lo+k-(k-l)=lo+l by lia]
    let d4:∀i,lo<=i->i<lo+l->r (As d i)<=r (As d (lo+k)):=λi a b=>by have:=t (i-lo) (Nat.sub_lt_left_of_lt_add a b);rwa[show lo+(i-lo)=i by show NA a]at this
    let d5:∀i,lo+l<=i->i<lo+k->r (As d (lo+k))<r (As d i):=λi a b=>by have:=y (i-lo) (Nat.le_sub_of_add_le' a) ∅;rwa[show lo+(i-lo)=i by lia]at this
    repeat' split
    all_goals first
     |(exfalso;lia)
     |show A4 _
     |show d4 _ ∅ ∅
     |show FP (d5 _ ∅ ∅)
     |show g _ _ ∅ ∅ ∅
 .intro b f zQ;let(rfl,d,rfl,o,B,g):=zQ
  let e:max ok m=m:=∅
  rw[e]at g
  show#[rfl,d,rfl,o,B,g]
 .intro b f zQ;let(rfl,d,rfl,o,B,g):=zQ
  show Bd (h d o B g)
end
theorem sE(i:Nat):mergeAt' i=(do
 let s <- get
 let(Z (sa,b,c),Z (sb,d,_)):=((Gu s)[i]?,(Gu s)[i+1]?)|unsupported "internal:list.sort.pending"
 set (J7 s (((Gu s).setIfInBounds i (sa,b+d,c)).eraseIdxIfInBounds (i+1)))
 let Z k <- J0 O' (<- BB (arrOf s) sb) (arrOf s) sa b 0|return O'
 let(sa,b):=(sa+k,b-k)
 if b==0 then return J'
 let Z d <- J0 J' (<- BB (arrOf s) (sa+b-1)) (arrOf s) sb d (d-1)|return O'
 if d==0 then return J'
 let x:=(arrOf s).extract sa sb
 let y:=(arrOf s).extract sb (sb+d)
 let merged <- if b<=d then TJ x y else TK x y
 modify λs=>setArr s (merged.toList.zipIdx.foldl (λa (p,j)=>a.setIfInBounds (sa+j) p) (arrOf s))
 return(Hy (<- get)).isNone):=rfl
def AT(r:Nat->Nat)(p:Array Nat):U (Nat×Nat×Nat)->Nat->Nat->Prop
 |[],a,b=>a=b
 |x::l,a,b=>x.1=a/\1<=x.2.1/\EL r p a (a+x.2.1)/\AT r p l (a+x.2.1) b
section
variable{r:Nat->Nat}{p p':Array Nat}
theorem AT.le:∀{l:U (Nat×Nat×Nat)}{a b:Nat},AT r p l a b->a+l.length<=b
 |[],a,b,h=>by rw[show a=b from h];show A4 _
 |x::l,a,b,h=>by have:=AT.le h.2.2.2;have:=h.2.1;erw[Ck];lia
theorem AT.same:∀{l:U (Nat×Nat×Nat)}{a b:Nat},AT r p l a b->(∀i,a<=i->i<b->As p' i=As p i)->AT r p' l a b
 |[],a,b,h,_=>h
 |x::l,a,b,h,e=>#[h.1,h.2.1,λi j c d f=>by
   have:=AT.le h.2.2.2;rw[e i ∅ ∅,e j (Bu c d) ∅];show h.2.2.1 i j c d f,AT.same h.2.2.2 λi c d=>e i (Nat.le_of_add_right_le c) d]
theorem AT.app:∀{l c:U (Nat×Nat×Nat)}{a b:Nat},AT r p (l++c) a b->∃m,AT r p l a m/\AT r p c m b
 |[],c,a,b,h=>#[a,rfl,h]
 |x::l,c,a,b,h=>by
  let(m,d,e):=AT.app h.2.2.2;show#[m,#[h.1,h.2.1,h.2.2.1,d],e]
theorem AT.join:∀{l c:U (Nat×Nat×Nat)}{a m b:Nat},AT r p l a m->AT r p c m b->AT r p (l++c) a b
 |[],c,a,m,b,h,d=>by rw[show a=m from h];show d
 |x::l,c,a,m,b,h,d=>#[h.1,h.2.1,h.2.2.1,AT.join h.2.2.2 d]
theorem AT.modify(f:Nat×Nat×Nat->Nat×Nat×Nat)(c:∀x,(f x).1=x.1/\(f x).2.1=x.2.1):∀{l:U (Nat×Nat×Nat)}{a b:Nat}(k:Nat),AT r p l a b->AT r p (l.modify k f) a b
 |[],a,b,k,h=>by cases k<;>show h
 |x::l,a,b,0,h=>by
  show(f x).1=a/\1<=(f x).2.1/\EL r p a (a+(f x).2.1)/\AT r p l (a+(f x).2.1) b
  rw[(c x).1,(c x).2];show h
 |x::l,a,b,k+1,h=>#[h.1,h.2.1,h.2.2.1,AT.modify f c k h.2.2.2]
end
theorem bn{b:Type}(o:Nat):∀(l:U b)(k:Nat)(a:Array b),o+k+l.length<=a.size->((l.zipIdx k).foldl (λa (x:b×Nat)=>a.setIfInBounds (o+x.2) x.1) a).toList=a.toList.take (o+k)++l++a.toList.drop (o+k+l.length)
 |[],k,a,h=>by simp
 |x::l,k,a,h=>by
  erw[Ck]at h;rw[List.zipIdx_cons,Lc,bn o l (k+1) _ (by erw[Array.size_setIfInBounds];lia)];erw[Array.toList_setIfInBounds];rw[List.drop_set_of_lt ∅,show o+(k+1)+l.length=o+k+(x::l).length by erw[Ck];show Nat.succ_add_eq_add_succ (o.add k) l.length];congr 1;rw[show o+(k+1)=o+k+1 by show Eq.symm (Nat.add_assoc o k 1),List.take_add_one,List.take_set_of_le<|A4 _,ER (by simp;show FA h)];simp
theorem sF{M:Model}{A:Ag}{E:Aa->Ab->Prop}{s:Ab}{I:Type}{x:I}{Q:PUnit->I->Prop}{st:I}(h:Q ⟨⟩ x):wpS M A E s (set x:StateT I Sem PUnit) Q st:=by
 unfold wpS;rw[StateT.run_set];show AW #[rfl,h]
theorem GQ{p:Array Nat}{a b i:Nat}(h:i<b-a)(c:b<=p.size):As (p.extract a b) i=As p (a+i):=by
 apply(IN);rw[Array.getElem?_extract];rw[if_pos ∅]
theorem sG{p pm:Array Nat}{a e:Nat}(d:e<=p.size)(f:a<=e)(hz:pm.size=e-a)(i:Nat):As (p.toList.take a++pm.toList++p.toList.drop e).toArray i=if i<a then As p i else if i<e then As pm (i-a)else As p i:=by
 by_cases b:i<a
 .rw[if_pos b];apply(IN);rw[List.getElem?_toArray,C8,D9 (by simp;lia),XO b,NI]
 .rw[if_neg b];by_cases c:i<e
  .rw[if_pos c];apply(IN);rw[List.getElem?_toArray,C8,Fp (by simp;lia),D9 (by simp;lia),NI];congr 1;simp;lia
  .rw[if_neg c];apply(IN);rw[List.getElem?_toArray,Fp (by simp;lia),LZ,NI];congr 1;simp;lia
structure SI(κ:Gb)(item:Nat->An)(st:Ah)(p:Array Nat)(pend:Array (Nat×Nat×Nat)):Prop where
 kind:kindOf st=κ
 arr:arrOf st=p.map item
 pend:Gu st=pend
 ok:Hy st=J
section
variable{prog:AL}{w:Aj}{A:Ag}{E:Aa->Ab->Prop}{s:Ab}{item:Nat->An}{r:Nat->Nat}{n:Nat}{p:Array Nat}{st:Ah}{pend:Array (Nat×Nat×Nat)}
theorem D6.srt{d e pm:Array Nat}(R:D6 r d e pm):∀i j,i<=j->j<pm.size->r (As pm i)<=r (As pm j):=by
 intro i j a b;rcases Ew i j with h|h
 .have:=TU.mp R.so i j (by simp;show Gs a b) (by exists b) h;let c:i<pm.size:=Gs a b;rw[show As pm i=pm.toList[i]'(by exists c) by simp[As,IP,c],show As pm j=pm.toList[j]'(by exists b) by simp[As,IP,b]];show this
 .rw[show i=j by show MC a h];show A4 _
variable(H:K7 prog w A E s κ item r n)
include H
set_option maxHeartbeats 4000000 in
theorem bo{i z:Nat}(S:SI κ item st p pend)(M:Bs n p)(R:AT r p pend.toList 0 z)(hi':i+1<pend.size)(hn:z<=n){Q:Bool->Ah->Prop}
  (h:∀C o l,SI κ item C o l->Bs n o->AT r o l.toList 0 z->l.size+1=pend.size->(∀j,z<=j->As o j=As p j)->Q J' C):wpS (Ae prog w) A E s (mergeAt' i) Q st:=by
 rw[sE]
 apply AY (wpS_get ?_)
 obtain⟨pre,x,y,G,e,el⟩:∃pre x y G,pend.toList=pre++x::y::G/\pre.length=i:=by
  apply#[pend.toList.take i,pend.toList[i]'(by simp;show Fe hi'),pend.toList[i+1]'(by simp;lia),pend.toList.drop (i+2),?_,by simp;lia]
  rw[<- HV,<- HV,IU]
 let(sa,f,pw):=x
 let(sb,F,q):=y
 rw[S.pend,show pend[i]?=Z (sa,f,pw) by rw[<- NI,e];simp[<- el],show pend[i+1]?=Z (sb,F,q) by rw[<- NI,e];simp[<- el]]
 dsimp only
 obtain⟨l,hpe⟩:∃x,x=((pend.setIfInBounds i (sa,f+F,pw)).eraseIdxIfInBounds (i+1)):=#[_,rfl]
 let e':l.toList=pre++(sa,f+F,pw)::G:=by
  rw[hpe]
  simp only[Array.toList_eraseIdxIfInBounds,Array.toList_setIfInBounds,e,<- el]
  simp[List.eraseIdx_append_of_length_le]
 let sz:l.size+1=pend.size:=by
  rw[show l.size=l.toList.length by simp,show pend.size=pend.toList.length by simp,e',e];simp;lia
 rw[<- hpe]
 apply AY (sF ?_)
 rw[S.arr]
 let zp:=M.size
 rw[e]at R
 let(m,R1,R2):=R.app
 let(c1,c2,Y,d1,d2,K,R3):=R2
 subst c1
 subst d1
 let le3:=R3.le
 let S1:SI κ item (J7 st l) p l:=#[S.kind,S.arr,rfl,S.ok]
 let fin:∀C o,SI κ item C o l->Bs n o->EL r o sa (sa+(f+F))->(∀j,j<sa->As o j=As p j)->(∀j,sa+f+F<=j->As o j=As p j)->Q J' C:=λC o S' B so b1 b2=>by
  apply h C o l S' B ?_ sz λj L=>b2 j ∅
  rw[e']
  refine(R1.same λj _ b=>b1 j b).join #[rfl,by dsimp only;show Ny c2,so,?_]
  rw[show sa+(f+F)=sa+f+F by show Eq.symm (Nat.add_assoc sa f F)]
  show R3.same λj a _=>b2 j a
 let hlo:Lo n p:=λi z=>M.lt (Js z zp)
 apply AY (ZS ∅ ?_)
 apply AY (Mt H (M.lt ∅) hlo ∅ (D7 c2) (λi j a b=>Y _ _ (Hw (sa,f,pw).fst i) (Mz.mpr a) (Nat.add_lt_add_left b sa)) S1.kind λk k1 k2 k3=>?_)
 apply Zn (λu=>?_) λu=>?_
 .let u:f-k=0:=Ii u
  apply Bd (fin _ p S1 M (λi j a b c=>?_) (λ_ _=>rfl) λ_ _=>rfl)
  rcases Ew j (sa+f)with L|L
  .show Y i j a b L
  .rcases Ew i (sa+f)with z|z
   .let T:=k2 (i-sa) ∅
    rw[show sa+(i-sa)=i by show NA a]at T
    let x2:=K (sa+f) j (A4 _) L ∅
    lia
   .show K i j z b ∅
 let hf:∀i,sa+k<=i->i<sa+f->r (As p (sa+f))<r (As p i):=λi a b=>by
  have:=k3 (i-sa) (Nat.le_sub_of_add_le' a) ∅
  rw[show sa+(i-sa)=i by lia]at this
  lia
 rw[show sa+k+(f-k)-1=sa+f-1 by lia]
 apply AY (ZS ∅ ?_)
 apply AY (Mt H (M.lt ∅) hlo ∅ (GP d2) (λi j a b=>K _ _ ∅ (Mz.mpr a) ∅) S1.kind λt t1 t2 t3=>?_)
 apply Zn (λv=>?_) λv=>?_
 .let v:t=0:=Ii v
  let T:=t3 0 (Nat.le_zero.mpr v) (D7 d2)
  let x2:=hf (sa+f-1) ∅ ∅
  show absurd x2 T
 rw[show(p.map item).extract (sa+k) (sa+f)=(p.extract (sa+k) (sa+f)).map item by simp,show(p.map item).extract (sa+f) (sa+f+t)=(p.extract (sa+f) (sa+f+t)).map item by simp]
 let za:(p.extract (sa+k) (sa+f)).size=f-k:=by simp;lia
 let zb:(p.extract (sa+f) (sa+f+t)).size=t:=by simp;lia
 let P:Dq r n (p.extract (sa+k) (sa+f)) (p.extract (sa+f) (sa+f+t)):=by
  apply#[λi z=>?_,λi z=>?_,λi j a b=>?_,λi j a b=>?_,∅,∅,λi z=>?_,λi z=>?_]
  .rw[GQ ∅ ∅];show M.lt ∅
  .rw[GQ ∅ ∅];show M.lt ∅
  .rw[GQ ∅ ∅,GQ ∅ ∅];show Y _ _ ∅ ∅ ∅
  .rw[GQ ∅ ∅,GQ ∅ ∅];show K _ _ ∅ ∅ ∅
  .rw[GQ ∅ ∅,GQ ∅ ∅];show hf _ ∅ ∅
  .rw[GQ ∅ ∅,GQ ∅ ∅,za]
   have:=t2 i ∅
   rw[show sa+k+(f-k-1)=sa+f-1 by lia];show this
 let cont:∀pm g,D6 r (p.extract (sa+k) (sa+f)) (p.extract (sa+f) (sa+f+t)) pm->wpS (Ae prog w) A E s (do
   modify λs=>setArr s ((pm.map item).toList.zipIdx.foldl (λa (x:An×Nat)=>a.setIfInBounds (sa+k+x.2) x.1) (arrOf s))
   return(Hy (<- get)).isNone) Q (FG (J7 st l) g):=by
  intro pm g N
  let zm:pm.size=f-k+t:=by
   have:=N.perm.length_eq
   rw[Ea,Kt,Kt,Kt,za,zb]at this
   show this
  apply AY (wpS_modify (AY (wpS_get (Bd ?_))))
  obtain⟨o,W⟩:∃o,o=(p.toList.take (sa+k)++pm.toList++p.toList.drop (sa+f+t)).toArray:=#[_,rfl]
  let ea:(pm.map item).toList.zipIdx.foldl (λa (x:An×Nat)=>a.setIfInBounds (sa+k+x.2) x.1) (p.map item)=o.map item:=by
   apply(J3.mp)
   rw[bn (sa+k) _ 0 _ (by simp;lia),W]
   erw[Array.toList_map,Bn,Kt,DM,List.map_take,List.map_drop,Nat.add_zero,Array.toList_map]
   rw[zm,show sa+k+(f-k+t)=sa+f+t by lia]
  let X:=λi=>sG (p:=p) (pm:=pm) (a:=sa+k) (e:=sa+f+t) ∅ ∅ ∅ i
  rw[<- W]at X
  let inm:∀i,i<pm.size->∃j,sa+k<=j/\j<sa+f+t/\As pm i=As p j:=λi z=>by
   let m2:=N.perm.mem_iff.mp (LO (TQ z))
   rcases Cj.mp m2 with m3|m3
   .let(j,a,b,c):=Mx (k:=0) (p:=p.extract (sa+k) (sa+f)) m3
    rw[GQ ∅ ∅]at c
    show#[sa+k+j,∅,∅,c]
   .let(j,a,b,c):=Mx (k:=0) (p:=p.extract (sa+f) (sa+f+t)) m3
    rw[GQ ∅ ∅]at c
    show#[sa+f+j,∅,∅,c]
  let B:Bs n o:=by
   apply Array.Perm.trans ?_ M
   rw[Array.perm_iff_toList_perm,W]
   let m2:(p.extract (sa+k) (sa+f)).toList++(p.extract (sa+f) (sa+f+t)).toList++p.toList.drop (sa+f+t)=p.toList.drop (sa+k):=by
    erw[Ie,Fd]
    let q1:p.toList.drop (sa+f)=(p.toList.drop (sa+f)).take (sa+f+t-(sa+f))++p.toList.drop (sa+f+t):=by
     have:=(IU (sa+f+t-(sa+f)) (p.toList.drop (sa+f))).symm
     rw[List.drop_drop,show sa+f+(sa+f+t-(sa+f))=sa+f+t by lia]at this
     show this
    let q2:p.toList.drop (sa+k)=(p.toList.drop (sa+k)).take (sa+f-(sa+k))++p.toList.drop (sa+f):=by
     have:=(IU (sa+f-(sa+k)) (p.toList.drop (sa+k))).symm
     rw[List.drop_drop,show sa+k+(sa+f-(sa+k))=sa+f by lia]at this
     show this
    rw[C8,<- q1,<- q2]
   rw[C8]
   refine((N.perm.append_right _).append_left _).trans ?_
   rw[m2,IU]
  let S2:SI κ item (setArr (FG (J7 st l) g) (o.map item)) o l:=#[S.kind,rfl,rfl,S.ok]
  let res:=fin _ o S2 B (λi j a b c=>?_) (λj L=>by rw[X,if_pos ∅]) (λj L=>by rw[X,if_neg ∅,if_neg ∅])
  .rw[S.arr,ea,show(Hy (setArr (FG (J7 st l) g) (o.map item))).isNone=J' by rw[S2.ok];rfl]
   show res
  .let lo1:∀i j,sa<=i->i<sa+k->sa+k<=j->j<sa+f+F->r (As p i)<=r (As p j):=λi j a b c d=>by
    rcases Ew j (sa+f)with L|L
    .show Y i j a ∅ L
    .let T:=k2 (i-sa) ∅
     rw[show sa+(i-sa)=i by lia]at T
     let x2:=K (sa+f) j (A4 _) L ∅
     lia
   let hi1:∀i j,sa+k<=i->i<sa+f+t->sa+f+t<=j->j<sa+f+F->r (As p i)<=r (As p j):=λi j a b c d=>by
    rcases Ew i (sa+f)with z|z
    .let T:=t3 (j-(sa+f)) ∅ ∅
     rw[show sa+f+(j-(sa+f))=j by lia]at T
     let x2:=Y i (sa+f-1) ∅ ∅ ∅
     lia
    .show K i j z ∅ ∅
   rw[X,X]
   by_cases i1:i<sa+k
   .rw[if_pos i1]
    by_cases j1:j<sa+k
    .rw[if_pos j1];show Y i j a b ∅
    .rw[if_neg j1]
     by_cases j2:j<sa+f+t
     .rw[if_pos j2]
      let(v,v1,v2,v3):=inm (j-(sa+k)) ∅
      rw[v3];show lo1 i v a i1 v1 ∅
     .rw[if_neg j2];show lo1 i j a i1 ∅ ∅
   .rw[if_neg i1]
    rw[if_neg (c:=j<sa+k) ∅]
    by_cases i2:i<sa+f+t
    .rw[if_pos i2]
     by_cases j2:j<sa+f+t
     .rw[if_pos j2];show N.srt _ _ ∅ ∅
     .rw[if_neg j2]
      let(v,v1,v2,v3):=inm (i-(sa+k)) ∅
      rw[v3];show hi1 v j v1 v2 ∅ ∅
    .rw[if_neg i2,if_neg ∅]
     show K i j ∅ b ∅
 apply Zn (λ_=>?_) λ_=>?_
 .show AY (sk H P S1.kind λpm g N=>cont pm g N)
 .show AY (sx H P S1.kind λpm g N=>cont pm g N)
end
def sH(n lo m:Nat):StateT Ah Sem (ForInStep (O Unit×Nat)):=do
 match(Gu (<- get)).back? with
 |some (b,n1,_)=>
  let s <- forIn [:n] ((J,()):O Unit×Unit) λ_ _=>do
   let p:=Gu (<- get)
   match if p.size>1 then p[p.size-2]? else J with
   |some (_,_,a)=>
    if a<=power' n (2*b+n1) (2*b+n1+n1+m) n then Al (J5 (J,()))
    else do
     if !(<- mergeAt' (p.size-2))then Al (J5 (Z (),()))else Al (GI (J,()))
   |_=>Al (J5 (J,()))
  IQ (λ_=>StateT Ah Sem (ForInStep (O Unit×Nat))) s.fst (λr=>Al (J5 (Z r,lo))) λ_=>do
   modify λs=>J7 s ((Gu s).modify ((Gu s).size-1) λx=>(x.1,x.2.1,power' n (2*b+n1) (2*b+n1+n1+m) n))
   modify λs=>J7 s ((Gu s).push (lo,m,0))
   Al (GI (J,lo+m))
 |_=>do
  modify λs=>J7 s ((Gu s).push (lo,m,0))
  Al (GI (J,lo+m))
def MD(a:Gb)(item:Nat->An)(r:Nat->Nat)(n x:Nat)(b:O Unit×Nat)(st:Ah):Prop:=∃lo p pend,b=(J,lo)/\SI a item st p pend/\Bs n p/\AT r p pend.toList 0 lo/\lo<=n/\x<=lo
def Qg(a:Gb)(item:Nat->An)(r:Nat->Nat)(n lo:Nat)(P:Array Nat->Nat->Prop)(b:O Unit×Unit)(st:Ah):Prop:=∃p pend,b=(J,())/\SI a item st p pend/\Bs n p/\AT r p pend.toList 0 lo/\P p pend.size
section
variable{prog:AL}{w:Aj}{A:Ag}{E:Aa->Ab->Prop}{s:Ab}{item:Nat->An}{r:Nat->Nat}{n:Nat}{p:Array Nat}{st:Ah}{pend:Array (Nat×Nat×Nat)}
variable(H:K7 prog w A E s κ item r n)
include H
theorem bp{lo m x:Nat}(v:SI κ item st p pend)(q:Bs n p)(z:AT r p pend.toList 0 lo)(m1:1<=m)(m2:lo+m<=n)(s3:EL r p lo (lo+m))(N:x<=lo):wpS (Ae prog w) A E s (sH n lo m) (FB (MD κ item r n n) (MD κ item r n (x+1))) st:=by
 let B:∀(g:Ah) (p4:Array Nat) (d:Array (Nat×Nat×Nat)),SI κ item g p4 d->Bs n p4->AT r p4 d.toList 0 lo->EL r p4 lo (lo+m)->wpS (Ae prog w) A E s (do
   modify λs=>J7 s<|(Gu s).push (lo,m,0)
   Al<|GI (J,lo+m)) (FB (MD κ item r n n)<|MD κ item r n<|x+1) g:=by
  intro g p4 d f e k l;apply AY<|wpS_modify<|Bd ⟨lo+m,p4,d.push (lo,m,0),rfl,⟨f.kind,f.arr,?_,f.ok⟩,e,?_,m2,∅⟩
  .show(Gu g).push _=_;rw[f.pend]
  .rw[EK];show k.join #[rfl,m1,l,rfl]
 apply AY<|wpS_get ?_;split
 .apply AY<|IW (λ_=>Qg κ item r n lo λp _=>EL r p lo<|lo+m) (Qg κ item r n lo λp _=>EL r p lo<|lo+m) (λy b t K h=>?_) (λ_ _ h=>h) #[p,pend,rfl,v,q,z,s3] λb t h=>?_
  .let(p4,d,rfl,f,e,k,l):=h;apply AY<|wpS_get ?_;rw[f.pend];dsimp only;by_cases C:d.size>1
   .rw[if_pos C,bq ∅];apply Zn (λ_=>?_) λ_=>?_
    .show Bd #[p4,d,rfl,f,e,k,l]
    .apply AY<|bo H f e k ∅ ∅ λP F o L u M Q G=>?_;apply Bd #[F,o,rfl,L,u,M,λi j a b c=>?_];rw[G i a,G j ∅];show l i j a b c
   .rw[if_neg C];show Bd #[p4,d,rfl,f,e,k,l]
  .let(p4,d,rfl,f,e,k,l):=h;apply AY<|wpS_modify<|B _ p4 _ ⟨f.kind,f.arr,rfl,f.ok⟩ e ?_ l;rw[f.pend,Array.toList_modify];apply AT.modify _ ?_ _ k;show λx=>#[rfl,rfl]
 .show B _ p pend v q z s3
theorem sI(S:SI κ item st p (T' []))(N:Bs n p)(h2:2<=n){Q:Unit->Ah->Prop}(h:∀d l,Bs n l->EL r l 0 n->arrOf d=l.map item->Hy d=J->Q () d):wpS (Ae prog w) A E s sortRuns' Q st:=by
 rw[sortRuns'_eq];apply AY<|wpS_get ?_;rw[show(arrOf st).size=n by rw[S.arr,Ih,N.size]];apply AY<|IW (MD κ item r n) (MD κ item r n n) (λx b d hx h=>?_) (λ_ _ h=>h) #[0,p,(T' []),rfl,S,N,rfl,∅,∅] λb d B=>?_
 .let(lo,l,pend,rfl,g,k,R,l1,C):=h;apply Zn (λq=>Bd #[lo,l,pend,rfl,g,k,R,l1,q]) λq=>?_;rw[show d=Dm item d l by rw[Dm,setArr,<- g.arr]];apply AY<|sC H k ∅ ∅ g.kind λm G m1 m2 v P K=>?_;let R2:AT r G pend.toList 0 lo:=R.same λi _ W=>P i W;apply Zn (λc=>?_) λc=>?_
  .apply AY<|wpS_lift<|FV ⟨rfl,?_⟩;apply AY<|sD H v m1 ∅ ∅ g.kind K λY F b3 s3=>?_;show bp (x:=x) H (st:=Dm item d Y) #[g.kind,rfl,g.pend,g.ok] F (R2.same λi _ W=>b3 i W) ∅ ∅ s3 C
  .show bp (x:=x) H (show SI κ item (Dm item d G) G pend from#[g.kind,rfl,g.pend,g.ok]) v R2 m1 ∅ K C
 .let(lo,l,pend,rfl,g,k,R,l1,C):=B;let e:lo=n:=∅
  subst e;apply AY<|IW (λy=>Qg κ item r lo lo λ_ z=>z<=1\/z+y<=lo) (Qg κ item r lo lo λ_ z=>z<=1) (λy b t hy h=>?_) (λb t h=>?_) #[l,pend,rfl,g,k,R,.inr (by have:=R.le;simp at this;lia)] λb t B=>?_
  .let(p4,a,rfl,o,f,j,L):=h;apply AY<|wpS_get ?_;rw[o.pend];apply Zn (λc=>Bd #[p4,a,rfl,o,f,j,c]) λc=>AY<|bo H o f j ?_ (A4 _) λst6 p6 u S6 M R6 z6 b6=>Bd #[p6,u,rfl,S6,M,R6,∅];repeat' split;all_goals lia
  .let(p4,a,rfl,o,f,j,L):=h;show#[p4,a,rfl,o,f,j,∅]
  .let(p4,a,rfl,o,f,j,L):=B;apply Bd<|h t p4 f ?_ o.arr o.ok;match T:a.toList,(show a.toList.length<=1 by exists L)with
   |[],_=>rw[T]at j;have:0=lo:=j;lia
   |[x],_=>
    rw[T]at j;have:=j.2.2.1;rw[j.2.2.2]at this;show this
end
theorem br{b:Type}{p q:b->Bool}:∀{l:U b},(∀x∈l,p x=J'->q x=J')->∀{a:b},a∈l->q a=J'->p a=O'->l.countP p<l.countP q
 |x::l,h,a,c,f,g=>by
  let i:l.countP p<=l.countP q:=List.countP_mono_left λy d=>h y<|Bg _ d;rw[List.countP_cons,List.countP_cons];rcases Bp.mp c with rfl|c
  .rw[f,g];simp;show Nat.lt_succ_of_le i
  .have:=br (λy d=>h y<|Bg _ d) c f g;cases e:p x with
   |false=>simp;split<;>lia
   |true=>rw[h x (Ba ..) e];simp;show this
theorem bt{lt:Nat->Nat->Bool}{n:Nat}(W:WO lt n){i:Nat}(a:i<n)(c:j<n):decide ((Bt n).countP (λk=>lt k i)<(Bt n).countP (λk=>lt k j))=lt i j:=by
 cases h:lt i j with
 |true=>
  apply(decide_eq_true);apply br (λk b d=>?_) (ED.mpr a) h ?_
  .let b:=ED.mp b;rcases W.neg k j i b c a d with z|z
   .show z
   .have:=W.asym i j a c h;rw[z]at this;cases this
  .show W.refl a
 |false=>
  apply(decide_eq_false);have:(Bt n).countP (λk=>lt k j)<=(Bt n).countP (λk=>lt k i):=List.countP_mono_left λk b e=>by
   rcases W.neg k i j (ED.mp b) a c e with z|z
   .show z
   .rw[z]at h;cases h
  show Nat.not_lt.mpr this
theorem sJ{prog:AL}{w:Aj}{A:Ag}{E:Aa->Ab->Prop}{s:Ab}{g:Gb}{it:Array An}{n:Nat}{lt:Nat->Nat->Bool}(W:WO lt n)(t:2<=n) (u:∀i j (C:Bool->Ab->Prop),i<n->j<n->C (lt i j) s->kas_cmp prog w A g it i j C s) {Q:Unit->Ah->Ab->Prop} (v:∀(p:Array Nat) (st:Ah),Bs n p->rV lt p n->arrOf st=p.map (kas_item it)->Hy st=J->Q () st s):kasC (Ae prog w) A E sortRuns' Q (kas_st g it (List.toArray (Bt n))) s:=by
 let H:K7 prog w A E s g (kas_item it) (λi=>(Bt n).countP<|λk=>lt k i) n:=by
  intro i j q c Q st x h;rw[bt W q c]at h;rw[lt'_eq];apply AY<|wpS_get ?_;rw[x];apply AY<|wpS_lift<|On ?_;show wpAny_mono (u i j (λb l=>l=s/\b=lt i j) q c #[rfl,rfl]) (λb l m=>by let(rfl,rfl):=m;show#[rfl,Bd h]) λ_ _ e=>e.elim
 let d:=sI H (st:=kas_st g it<|List.toArray<|Bt n) (p:=(Bt n).toArray) #[rfl,rfl,rfl,rfl] (Array.Perm.refl _) t (Q:=λ_ a=>Q () a s) (λa y o z B G=>v y a o (λi j f c=>?_) B G)
 .show wpAny_mono d (λr l m=>by let(rfl,h):=m;show h) λ_ _ e=>e
 .have:=z i j (ET _) f c;unfold N9;rw[<- (bt W (o.lt c)<|o.lt (i:=i) (Gs f c))];show decide_eq_false<|Nat.not_lt.mpr this
structure Bl(F:List Sl->Option Rv)(xs:List D):Prop where
 few:xs.length<1000
 tells:∀x∈xs,∃r,F [.val x]=Z r
 mode:∃b,∀x∈xs,Cp b (DD F x)
 cmp:∀x∈xs,∀y∈xs,∃r,ltN 6 (DD F x) (DD F y)=Z r
 asym:∀x∈xs,∀y∈xs,CK F x y=J'->CK F y x=O'
 neg:∀x∈xs,∀y∈xs,∀z∈xs,CK F x z=J'->CK F x y=J'\/CK F y z=J'
 anti:∀x∈xs,∀y∈xs,CK F x y=O'->CK F y x=O'->x=y
def IY(lt:D->D->Bool)(x:D):U D->U D
 |[]=>[x]
 |y::r=>if lt x y then x::y::r else y::IY lt x r
def Ff(lt:D->D->Bool):U D->U D
 |[]=>[]
 |x::r=>IY lt x (Ff lt r)
theorem T5(lt:D->D->Bool)(x:D):∀l,(IY lt x l).Perm (x::l)
 |[]=>.refl _
 |y::r=>by
  unfold IY;split
  .show .refl _
  .show((T5 lt x r).cons y).trans<|.swap x y r
theorem Qh(lt:D->D->Bool):∀l,(Ff lt l).Perm l
 |[]=>.refl _
 |x::r=>(T5 lt x _).trans<|(Qh lt r).cons x
theorem bu{F:U Sl->O Rv}{xs:U D}(h:Bl F xs){x:D}(f:x∈xs):∀l:U D,(∀y∈l,y∈xs)->l.Pairwise (λa b=>CK F b a=O')->(IY (CK F) x l).Pairwise λa b=>CK F b a=O'
 |[],_,_=>by simp[IY]
 |y::r,g,j=>by
  let(k,m):=Oo.mp j;let i:=g y Ba;unfold IY;split
  .next d=>
   apply Oo.mpr #[λz c=>?_,j];rcases Bp.mp c with e|c
   .subst e;show h.asym x f z i d
   .cases n:CK F z x with|false=>rfl|true=>
     rcases h.neg z (g z<|Bg _ c) y i x f n with q|q
     .rw[k z c]at q;cases q
     .rw[h.asym x f y i d]at q;cases q
  .next d=>
   rw[PX]at d;apply Oo.mpr #[λz c=>?_,bu h f r (λz c=>g z<|Bg _ c) m];rcases Bp.mp ((T5 (CK F) x r).subset c)with e|c
   .subst e;show d
   .show k z c
theorem bv{F:U Sl->O Rv}{xs:U D}(h:Bl F xs):∀l:U D,(∀y∈l,y∈xs)->(Ff (CK F) l).Pairwise λa b=>CK F b a=O'
 |[],_=>.nil
 |x::r,c=>bu h (c x Ba) _ (λy d=>c y<|Bg _<|(Qh _ r).subset d) (bv h r λy d=>c y<|Bg _ d)
def Hz(F:U Sl->O Rv)(xs:U D):A8:=gd (Bl F xs) (Z (Ff (CK F) xs))
theorem Bl.same{F:U Sl->O Rv}{ys:U D}(h:Bl F xs)(c:ys.Perm xs)(d:ys.Pairwise λa b=>CK F b a=O'):ys=Ff (CK F) xs:=List.Perm.eq_of_pairwise (le:=λa b=>CK F b a=O') (λa b e f g i=>h.anti a (c.subset e) b ((Qh _ xs).subset f) i g) d (bv h xs λ_ j=>j) (c.trans (Qh _ xs).symm)
theorem sK{F:U Sl->O Rv}(h:Bl F xs):Hz F xs=Z (Ff (CK F) xs):=KS h
theorem T6{F:U Sl->O Rv}{ys:U D}(h:Hz F xs=Z ys):Bl F xs/\ys=Ff (CK F) xs:=by grind [Hz,gd]
section
variable{H:Hp}{s:Ab}{N:Fb}
theorem T7{K:Ap}{b:U D}{vs:U V}(h:Ad K N H b vs):∀(a:U Nat),(∀j∈a,j<b.length)->Ad K N H (a.map λj=>b.getD j .non) (a.map λj=>vs.getD j .non)
 |[],_=>Ad.nil
 |j::a,c=>by
  let(v,e,d):=h.get<|Ch<|c j Ba;show Ad.cons (by simp_all)<|T7 h a λk f=>c k<|Bg _ f
theorem Op{vs:U V}{us:U Aa}(h:Aq vs us):∀(b:U Nat),Aq (b.map λj=>vs.getD j .non) (b.map λj=>us.getD j .none)
 |[]=>.nil
 |j::b=>by
  apply .cons ?_<|Op h b;induction h generalizing j with|nil=>simp;rfl|cons a _ c=>
   cases j<;>simp_all
theorem bw(zB:Inv X pins I H s){prog:AL}{w:Aj}(A:Ag)(hu:A.units+40<Av){F:U Sl->O Rv}{f:U D}(h:Bl F f){kvs:U V}{us items:U Aa}
  (d:Ad X.K N H (f.map (DD F)) kvs) (r:Aq kvs us) (g:items.length=f.length) {P:PySem.Fin->Ab->Prop} {T:Ah->Sem PySem.Fin}
  (q:∀(p:U Nat) (st:Ah),p.Perm (Bt f.length)->(p.map λj=>f.getD j .non)=Ff (CK F) f->Array.map (λx=>x.2) (arrOf st)=(p.map λj=>items.getD j .none).toArray->Hy st=J->wpAny (Ae prog w) A (T st) P E s):
  wpAny (Ae prog w) A (do
   let kind <- if items.toArray.size<2 then Al general' else keyKind' us.toArray
   let((),s) <- (if items.toArray.size<2 then Al ()else sortRuns').run (SortSt.mk' kind (us.toArray.zip items.toArray) (T' []) 7 J)
   T s) P E s:=by
 let l1:=d.length
 let l2:=r.length
 rw[Bn]at l1
 by_cases t:items.toArray.size<2
 .rw[if_pos t]
  erw[t,if_true]
  let u:us.length=items.length:=∅
  rw[B3]at t
  apply Ao (AW ?_)
  apply Ao ?_
  apply AW ?_
  apply q (Bt f.length) (SortSt.mk' general' (us.toArray.zip items.toArray) (T' []) 7 J) (.refl _) ?_ ?_ rfl
  .let e:(Bt f.length).map (λj=>f.getD j .non)=f:=by
    apply(IG)
    intro i
    by_cases g:i<f.length
    .simp[g]
    .simp[g]
   rw[e]
   apply h.same (.refl _) ?_
   match f,g with
   |[],_=>show .nil
   |[a],_=>show My _ _
   |a::b::c,g=>simp at g;lia
  .change Array.map (λx=>x.2) (us.toArray.zip items.toArray)=_
   let e:(Bt f.length).map (λj=>items.getD j .none)=items:=by
    rw[<- g]
    apply(IG)
    intro i
    by_cases g:i<items.length
    .simp[g]
    .simp[g]
   rw[e,List.zip_toArray,List.map_toArray]
   congr 1
   show List.map_snd_zip (LM u.symm)
 .rw[if_neg t]
  erw[t,if_false]
  rw[B3]at t
  let(b,m):=h.mode
  apply Ao (sd zB b (f.map (DD F)) kvs us d r (λk hk=>by
   let(x,hx,rfl):=Bi.mp hk
   show m x hx) ∅ ?_)
  let u:us.length=items.length:=∅
  let hr:=kas_range (us.toArray.zip items.toArray)
  rw[show(us.toArray.zip items.toArray).size=f.length by simp;lia]at hr
  let R:SortSt.mk' (Oa b) (us.toArray.zip items.toArray) (T' []) 7 J=kas_st (Oa b) (us.toArray.zip items.toArray) (Bt f.length).toArray:=by
   unfold kas_st;rw[hr]
  apply Ao ?_
  rw[R]
  let W:WO (λi j=>CK F (f.getD i .non) (f.getD j .non)) f.length:=by
   let mem:∀i,i<f.length->f.getD i .non∈f:=λi g=>by
    rw[show f.getD i .non=f[i] by simp[DP,g]];show F7 g
   show#[λa b y m L=>h.asym _ (mem a y) _ (mem b m) L,λa b c y m M L=>h.neg _ (mem a y) _ (mem b m) _ (mem c M) L]
  let M:∀i j (C:Bool->Ab->Prop),i<f.length->j<f.length->C (CK F (f.getD i .non) (f.getD j .non)) s->kas_cmp prog w A (Oa b) (us.toArray.zip items.toArray) i j C s:=λi j C n o hq=>by
   unfold kas_cmp
   rw[kat_item u,kat_item u]
   let mem:∀i,i<f.length->f.getD i .non∈f:=λi g=>by
    rw[show f.getD i .non=f[i] by simp[DP,g]];show F7 g
   let(rr,z):=h.cmp _ (mem i n) _ (mem j o)
   rw[aR z]at hq
   let B:∀i,i<f.length->∃v,Ax X.K N H (DD F (f.getD i .non)) v/\RelV v (us.getD i .none):=λi g=>by
    let(v,ev,dv):=d.get (i:=i) (d:=DD F f[i]) (by simp[g])
    apply#[v,by rw[show f.getD i .non=f[i] by simp[DP,g]];show dv,?_]
    have:=Op r [i]
    cases this with
    |cons a _=>
     rw[<- (show kvs.getD i .non=v by simp[DP,ev])]
     show a
   let(v1,S,zA):=B i n
   let(v2,Y,rv2):=B j o
   show rZ zB A hu b rr z (m _ (mem i n)) (m _ (mem j o)) S Y zA rv2 hq
  apply sJ (Q:=λ_ st s'=>wpAny (Ae prog w) A (T st) P E s') W ∅ M λp st hB hS y hf=>?_
  let hp:p.size=f.length:=by exists hB.toList.length_eq
  let l:p.toList.Perm (Bt f.length):=by
   have:=hB.toList
   exists this
  apply q p.toList st l ?_ (kat_snds u y) hf
  apply h.same ?_ ?_
  .let e:(Bt f.length).map (λj=>f.getD j .non)=f:=by
    apply(IG)
    intro i
    by_cases g:i<f.length
    .simp[g]
    .simp[g]
   have:=l.map λj=>f.getD j .non
   rw[e]at this
   show this
  .rw[List.pairwise_map,TU]
   intro i j g G hij
   have:=hS i j (J1 hij) (by simp at G;show Js G hp)
   unfold N9 As at this
   simp at g G
   simpa[IP,g,G]using this
theorem sL(i:Inv X pins I H s){prog:AL}{w:Aj}(A:Ag)(f:A.units+40<Av){F:U Sl->O Rv}{b:U D}(h:Bl F b){kvs:U V}{us items:U Aa}
  (d:Ad X.K N H (b.map (DD F)) kvs) (r:Aq kvs us) (g:items.length=b.length) {c:Nat} {e:Aa} {P:PySem.Fin->Ab->Prop}
  (q:∀(p:U Nat) (st:Ah),p.Perm (Bt b.length)->(p.map λj=>b.getD j .non)=Ff (CK F) b->Array.map (λx=>x.2) (arrOf st)=(p.map λj=>items.getD j .none).toArray->Hy st=J->wpAny (Ae prog w) A (ksk_tail a O' c e st) P E s):
  wpAny (Ae prog w) A (ksk_end a O' items.toArray c e us.toArray) P E s:=by
 unfold ksk_end
 show bw i A f h d r g q
end
section
variable{H:Hp}{s:Ab}{N:Fb}
abbrev Dw(a:U Aa)(n:Nat):Obj:={cls:=.type "list",data:=.seq a.toArray n}
theorem Inv.rawset{c its':U Aa}{n:Nat}{f:Array Aa->Array Aa}(k:Inv X pins I H s)(d:H a=J)(o:Off X pins a)(e:s.heap.get? a=Z (Dw c n))(g:f c.toArray=its'.toArray):∃h,(s.heap.update a (FY f)).get? a=Z (Dw its' h)/\Inv X pins I H {s with heap:=s.heap.update a (FY f)}:=by
 let q:=PySem.IsL.update e f;rw[g]at q;show#[_,q,k.turned (t':=s.toks) (λb u i j=>(SJ s.heap (FY f)<|Bz i).trans j) d o.nL (.inr o.s0) o.cl o.pn]
theorem T8(a:U Aa)(n:Nat)(v:O Aa):(Dw a n).data≠.cell v:=nofun
theorem Off.more{b:Ac}{o:Obj}(f:Off X pins a)(h:b≠a):Off X (pins++[(b,o)]) a:=#[f.nL,f.s0,f.cl,λp c=>by
  rw[<- C8]at c;rcases Cj.mp c with c|c
  .show f.pn p c
  .erw[Cw]at c;subst c;show h,f.nf]
theorem Inv.pinGet{o:Obj}(b:Inv X pins I H s)(h:(a,o)∈pins):s.heap.get? a=Z o/\H a=J:=#[(b.pin _<|De _ h).1,(b.pin _<|De _ h).2.1]
theorem sM{prog:AL}{w:Aj}(A:Ag){D c:Ac}{e m:Nat}{us out:U Aa}{P:PySem.Fin->Ab->Prop}{st:Ah}(d:Inv X (pins++[(D,Dw [] e)]++[(c,Dw us m)]) I H s) (i:Off X pins D) (n:Off X pins c) (ne:D≠c) (g:us.length<=AB) (h:Array.map (λx=>x.2) (arrOf st)=out.toArray) (o:Hy st=J) (j:Aq vs out) (hz:vs.length<=AB) (q:∀k,Inv X pins I (AI H D (.lst vs)) k->P (.done (.ret .none)) k):wpAny (Ae prog w) A (ksk_tail D O' e (.ref c) st) P E s:=by
 let(gk,p):=d.pinGet (a:=c) (De _ Ba);let(r,hd):=d.pinGet (a:=D) (Ks _<|De _ Ba);let(n2,v,l):=d.unpinned.rawset (f:=λ_=>(T' [])) (its':=[]) p (n.more ne) gk rfl;apply Ao<|Oq gk rfl ?_ (by exists g) (by simp);apply Ao<|wpAny_letGo ?_;let(b,_):=l.pinGet (a:=D) (De _ Ba);apply Ao<|seqEpoch_at b rfl ?_;let(n3,t,u):=l.unpinned.rawset (f:=λ_=>out.toArray) (its':=out) hd i b rfl;erw[Fs,if_false,h];apply Ao<|Oq b rfl ?_ (by simp) (by simp;show Ny (show out.length<=AB by rw[<- j.length];show hz));rw[o];erw[show(e != e)=O' by simp,Fs,if_false];show AW<|q _<|u.catch hd i t j hz
variable{k:Nat}{fn:Ac}{fd:Cr}{F:U Sl->O Rv}
theorem sN(j:A3 X.prog X.w X.K X.mg X.base BQ k fn fd ps (Bb X.K F))(h:Binds X.K fd ps [])(W:Inv X pins I H s)(A:Ag)(t:AM k A)(B:CV X.prog X.w X.K X.mg X.base A X.stack s H)(l:∀a,N a->H a≠J){x:D}{v:V}(d:Ax X.K N H x v)(C:RelV v u){r:Rv}(m:F [.val x]=Z r) {Q:AR} (q:∀u' i c H',Inv X pins I H' i->Ak H H'->Ax X.K N H' (DD F x) c->RelV c u'->Q u' i):wpAny (Ae X.prog X.w) A (call (.ref fn) [u]) Q E s:=by
 let f:Bb X.K F [v] H (λc H'=>Ak H H'/\Ax X.K N H' (DD F x) c) E0:=by
  apply#[N,[.val x],r,l,?_,m,λc H' n o=>#[n,?_]]
  .show#[v,[],rfl,d,rfl]
  .let e:DD F x=Fv r:=by unfold DD;rw[m];rfl
   rw[e];cases r with|val y=>show o|own Y p=>
    let(a,G,P,L,M,R):=o;show#[a,G,P,.of (λz=>l a z L) M,R.nw λb h=>.inl<|.inl h]
 let T:([u]:U Aa).length=ps.length:=by
  have:=j.len _ _ _ _ f;simp_all
 apply wpAny_call<|codeAny_mono (j.run A X.stack s H ⟨[u],[]⟩ [u] [v] _ E0 t B (by exists h s [u] W.kIn (by exists T)) (.cons C .nil) f) λr i g=>?_;cases r with|error e=>show BL g|ok p=>
  cases p with
  |ret u'=>
   let(c,H',I',S,n,hd):=W.after g;grind
  |next=>show BL g
  |brk=>show BL g
  |cont=>show BL g
open J in
theorem Ak.none{H H':Hp}(h:Ak H H'){a:Ac}(e:H' a=J):H a=J:=by
 cases q:H a with
 |none=>rfl
 |some o=>rw[h a o q]at e;cases e
theorem sO(Fo:A3 X.prog X.w X.K X.mg X.base BQ k fn fd ps (Bb X.K F))(hb:Binds X.K fd ps [])(A:Ag)(hr:AM k A)(hu:A.units+40<Av)(hA:∀s H,CV X.prog X.w X.K X.mg X.base X.A X.stack s H->CV X.prog X.w X.K X.mg X.base A X.stack s H)
  {g h:Ac} {B e0:Nat} (zA:Inv X (pins++[(g,Dw [] B)]++[(h,Dw [] e0)]) I H s) (nh:∀a,N a->H a≠J) {items:U Aa} {xs:U V} {c:U D} (fD:Off X pins g) (C:Off X pins h) (ne:g≠h) (G:Aq xs items) (L:Ad X.K N H c xs) (ok:Bl F c) {P:PySem.Fin->Ab->Prop} (q:∀m H' vs,Inv X pins I (AI H' g (.lst vs)) m->Ak H H'->H' g=J->Ad X.K N H' (Ff (CK F) c) vs->P (.done (.ret .none)) m):
  wpAny (Ae X.prog X.w) A (ksk_rest g (.ref fn) O' items.toArray B (.ref h)) P E s:=by
 let l1:=L.length
 let l2:=G.length
 let few:=ok.few
 let hsl:AB=16777216:=HN
 apply Ao (FV ?_)
 apply Ao (wpAny_forIn_array' _ (λAX _ m=>∃(done:U Aa) (H':Hp) (i:U Aa) (d:U V) (M:Nat),items=done++AX/\i.length=done.length/\Inv X (pins++[(g,Dw [] B)]++[(h,Dw i M)]) I H' m/\Ak H H'/\Aq d i/\Ad X.K N H' ((c.take done.length).map (DD F)) d) _ ?_ ?_ items.toArray PUnit.unit ?_)
 .intro u AX b s1 zQ;let(done,H1,i,d,M,o,hl,l,sm,S,t):=zQ
  let Q:done.length<c.length:=by
   grind
  let y:c[done.length]?=Z c[done.length]:=Ch Q
  generalize c[done.length]=x at y
  let(v,hv,dv):=L.get y
  let ru:RelV v u:=by
   have:=Op G [done.length]
   cases this with
   |cons a _=>
    simp_all
  let(r,hF):=ok.tells x (LO y)
  apply Ao (On ?_)
  apply sN (N:=N) Fo hb l A hr (hA _ _ l.env0) (λa T z=>nh a T (sm.none z)) (dv.same sm) ru hF λW s2 v' H2 I2 n Y rv2=>?_
  let(gk,hk):=I2.pinGet (a:=h) (De _ Ba)
  let(n3,g3,I4):=I2.unpinned.rawset (f:=λx=>x.push W) (its':=i++[W]) hk (C.more ne) gk (by simp)
  apply Ao (Oq gk rfl ?_ (by simp;lia) (by simp;lia))
  apply AW ?_
  apply#[done++[u],H2,i++[W],d++[v'],n3,by rw[o];simp,by simp[hl],I4.pin1 hk (C.more ne) g3 (T8 _ _),sm.trans n,S.append (.cons rv2 .nil),?_]
  let e:(c.take (done++[u]).length).map (DD F)=(c.take done.length).map (DD F)++[DD F x]:=by
   rw[Ea,LX,List.take_succ,y]
   simp
  rw[e]
  show(t.same n).append (Ad.cons Y Ad.nil)
 .intro b s1 zQ;let(done,H1,i,d,M,o,hl,l,sm,S,t):=zQ
  rw[D1]at o
  subst o
  let(gk,hk):=l.pinGet (a:=h) (De _ Ba)
  let(gd',hd):=l.pinGet (a:=g) (Ks _ (De _ Ba))
  apply Ao (listItems_at gk rfl ?_)
  rw[Hu ∅]at t
  apply sL (N:=N) l A hu ok t S ∅ λp st hp hs T hf=>?_
  let hpl:p.length=c.length:=by have:=hp.length_eq;exists this
  apply sM A l fD C ne ∅ T hf (Op G p) (by rw[Bn];lia) λm R=>?_
  apply q m H1 _ R sm hd ?_
  rw[<- hs]
  show T7 (L.same sm) p λj hj=>by have:=hp.subset hj;exists this
 .show#[[],H,[],[],e0,by simp,rfl,zA,Ak.refl H,.nil,Ad.nil]
theorem sP(G:A3 X.prog X.w X.K X.mg X.base BQ k fn fd ps (Bb X.K F))(B:Binds X.K fd ps [])(A:Ag)(L:AM k A)(M:A.units+40<Av)(R:∀s H,CV X.prog X.w X.K X.mg X.base X.A X.stack s H->CV X.prog X.w X.K X.mg X.base A X.stack s H) (W:Inv X pins I H s) (Q:∀a,N a->H a≠J) {c:Ac} {items:U Aa} {T:Nat} {xs:U V} {j:U D} (g:s.heap.get? c=Z (Dw items T)) (r:H c=J) (l:Off X pins c) (t:Aq xs items) (v:Ad X.K N H j xs) (ok:Bl F j) {P:PySem.Fin->Ab->Prop} (q:∀y H' vs,Inv X pins I (AI H' c (.lst vs)) y->Ak H H'->H' c=J->Ad X.K N H' (Ff (CK F) j) vs->P (.done (.ret .none)) y):wpAny (Ae X.prog X.w) A (ksk_tree c (.ref fn) O') P E s:=by
 let l1:=v.length;let l2:=t.length;let few:=ok.few;let S:AB=16777216:=HN;apply Ao<|listItems_at g rfl ?_;let(n1,z,Y):=W.rawset (f:=λ_=>(T' [])) (its':=[]) r l g rfl;apply Ao<|Oq g rfl ?_ (by simp;lia) (by simp);apply Ao<|seqEpoch_at z rfl ?_;apply Ao<|wpAny_newTuple ?_ (by simp;lia);generalize m:({heap:=s.heap.update c<|FY λx=>(T' []),gens:=s.gens,drawn:=s.drawn,toks:=s.toks,os:=s.os}:Ab)=d at *;let n:=Y.kept (t':=d.toks) (λb u e=>By {cls:=.type "tuple",data:=.seq items.toArray} e);generalize p:({heap:=d.heap.push {cls:=.type "tuple",data:=.seq items.toArray},gens:=d.gens,drawn:=d.drawn,toks:=d.toks,os:=d.os}:Ab)=i at *;let h:i.heap.get? c=Z (Dw [] n1):=p ▸ (By {cls:=.type "tuple",data:=.seq items.toArray} (show d.heap.get? c=Z (Dw [] n1) by rw[<- m];show z));apply Ao<|wpAny_newList ?_ (by simp);let C:=n.off<|A4 i.heap.objs.size;show Gi<|sO (N:=N) G B A L M R (((n.kept (t':=i.toks) (λb u e=>By (Dw [] 0) e)).pin1 r l (By (Dw [] 0) h) (T8 _ _)).pin1 n.fresh (C.more<|Ca<|BK h) (Cg i.heap (o:=Dw [] 0) rfl) (T8 _ _)) Q l C (Ca<|BK h) t v ok q
theorem sQ(r:A3 X.prog X.w X.K X.mg X.base BQ k fn fd ps (Bb X.K F))(j:Binds X.K fd ps [])(m:AM (k+2) X.A)
  (S:Inv X pins I H s) (t:∀a,N a->H a≠J) {xs:U V} {h:U D} (v:BZ X.K H a xs) (x:Ad X.K N H h xs) (ok:Bl F h) {Q:VK}
  (q:∀f vs H',Ak H H'->H f=J->H' f=Z (.lst vs)->Ad X.K (λb=>N b\/b=f) H' (Ff (CK F) h) vs->Q (.ref f) H'):
  wpAny (Ae X.prog X.w) X.A (call (.builtin "sorted") [.ref a] [("key",.ref fn)]) (EP X pins I Q) X.xe s:=by
 let(c,p,(o,n,B,C,E,hd),hz):=S.list v
 let l2:=p.length
 apply wpAny_call (codeAny_call_builtin plain_sorted entry_sorted ?_)
 apply AW ?_
 change wpAny _ _ (do checkCount "sorted" 1 1 1;let y <- collect (.ref a);let l <- newList y;let _ <- DY [l] (call (.builtin "list.sort") [l] [("key",.ref fn)]);ret l) _ _ _
 apply Ao (AW ?_)
 apply Ao (wpAny_collect_seq a (T:="list") (.inl rfl) B C hd (λG L=>?_) (by simp;lia))
 let d:=S.kept (t':=s.toks) L
 apply Ao (wpAny_newList ?_ (by simp;lia))
 generalize R:({heap:=G,gens:=s.gens,drawn:=s.drawn,toks:=s.toks,os:=s.os}:Ab)=i at *
 let g:=Cg i.heap (o:=Dw c 0) rfl
 apply Ao (Gi ?_)
 apply wpAny_call (codeAny_call_builtin PySem.F.slot_list_sort.plain PySem.F.entry_list_sort ?_)
 apply PySem.F.slot_list_sort.check _ _ _ _ _ _ _ _ #[_,g,rfl] rfl ?_
 apply sP (N:=N) r j X.A.in1.in1 m.in1.in1 ?_ (λs H e=>e.in1.in1) (d.kept (t':=i.toks) (λb u e=>By (Dw c 0) e)) t g d.fresh (d.off (A4 i.heap.objs.size)) p x ok λs' H' vs P sm Y dv=>?_
 .have:=m.un;change X.A.units+1+1+40<_;lia
 .apply AW ?_
  apply#[.ref _,_,P,rfl,q _ vs _ (λb u e=>?_) d.fresh ZN ?_]
  .rw[Zl (λz=>by rw[z,d.fresh]at e;cases e)];show sm b u e
  .show Ad.step (M:=λ_=>False) #[λb u e z=>by
    rw[Zl (λz=>by rw[z,Y]at e;cases e)];show e,λb j=>by
    grind] _ _ dv
end
section
variable{M:Fb}{k:Nat}{fn:Ac}{fd:Cr}{F:U Sl->O Rv}{e:Expr}{f:AH}{x y:Af}{p kpos:AC}
def Ld(F:U Sl->O Rv)(f:AH):VE->A8:=λa=>match f a with
 |some (.lst b)=>Hz F b
 |_=>J
open J in
theorem sR(W:A3 X.prog X.w X.K X.mg X.base BQ k fn fd ps (Bb X.K F))(Y:AM (k+2) X.A)(hg:Gl X x)(hm:X.mg x=J)(hv:E4 x=Z (.builtin "sorted"))(l:Gl X y)(m:X.mg y=Z (.ref fn))(hb:Binds X.K fd ps [])(n:JE X e (tP X.K M H0 f)) (hn:x≠"__name__":=by ext) (o:DV x:=by ext) (d:DV y:=by ext) (G:AK [e] X.env=(O',Ar e X.env)::AK [] X.env:=by show D2 rfl):JE X (.Call (.Name x p) [e] [#[Z "key",.Name y p2,kpos]] pos) (tF X.K M H0 (Ld F f)):=#[have n:=n.h;by
 intro b s g H Q zA zQ;let(r,ys,R,i,q):=zQ;apply Nw<|HK zA hg hm hv ?_ hn o;unfold Ld at i;split at i
 .next P hf=>
  let(ok,rfl):=T6 i;let L:=(Z4 n (Bf (X:=X)) G) pos b s g H (λj c=>∃v,j=[v]/\Ak H c/\Ay X.K (Nf M r g) c (.lst P) v) zA #[r,.lst P,R,hf,λv c t d1=>#[v,rfl,t,d1]];rw[G]at L ⊢;apply callWith_builtin_kwB rfl rfl ?_;apply Ao<|AZ L λus t z=>?_;let(j,c,I1,r1,v,rfl,sm,a,ws,rfl,sq,dl):=z;apply Ao<|AW ?_;apply Gi ?_;apply Ao<|AZ ((nu (nm:=Z "key") (kpos:=kpos) (Xb (v:=.ref fn) (pos:=p2) l m rfl d) (nt (X:=X))) pos b t g c (λS T=>S=[.ref fn]/\T=c) I1 #[rfl,rfl]) λks s2 z=>?_;let(S,T,I2,r2,rfl,rfl):=z;apply Ao<|AW ?_;apply AW ?_;let(u,rfl,ru):=E5 r1;let(u2,rfl,B):=E5 r2;cases B;cases ru;show sQ (N:=Nf M r g) W hb Y I2 (R.st sm).nh sq dl ok λda j H' s' C E dv=>q da j H' (sm.trans s') (sm.none C) E dv
 .cases i]
end
end Internal
variable{kvs:Internal.Bv}
namespace Internal
open PySem PySem.Spec PyProof.Rows
section
@[simp]theorem ZAE(xs:U D):YA (.lst xs)=Z xs:=rfl
end
open PySem.W
theorem sS:typeLookup (.type "list") ("keys":Af)=Al J:=am_miss_of_fast (by kernel_rfl)
theorem sT{prog:AL}{w:Aj}{A:Ag}{s:Ab}{f:Array Aa}{Q:O Aa->Ab->Prop}(p:PlainL s.heap a f)(i:A.handled=J) (q:∀h' h,(∀b o,s.heap.get? b=Z o->h'.get? b=Z o)->Q J {s with heap:=h',toks:=h}):wpAny (Ae prog w) A (getAttr? (.ref a) "keys") Q E s:=by
 let((c,u,v,j),n,e,k,hd,l):=p;subst k hd l;let(m,g,d,h,os):=s;let ty:∀t,(#[m,g,d,t,os]:Ab).TypeIs (.ref a) "list":=λ_=>#[_,e,rfl];let l1:=sub_AttributeError;let x:=F.slot_list_getattribute.lookup;let y:=F.slot_list_getattribute.bind<|.ref a;let l4:=am_list_getattr_none;unfold getAttr? getAttrBy? getAttrBy;repeat(any_goals(first
  |assumption
  |show ty _
  |((with_reducible show wpAny _ _ (call (Value.builtin "list.__getattribute__") _ _) _ _ _)
    apply BY F.slot_list_getattribute (ty _) am_entry_list_getattribute (F.args_list_getattribute_2 _ _) (meets_getattribute_miss_list a f n j "keys" _ sS (by symm) (by symm)) #[e,i,λr z B new=>?_])
  |wp_step))
 let(C,G,ex):=new.there;unfold getattributeRaised;repeat(any_goals(wp_step))
 show q r _ new.keeps
theorem bx:entryFor table "dict.update.loop"=Z Aw.«dict.update.loop»:=entryFor_of_tree (by kernel_rfl)
theorem bz:plainId "dict.update.loop"=J':=by symm
theorem bA{K:Ap}{H:Hp}{k:KT}{v:V}(h:BV K H k v)(s:Ak H H'):BV K H' k v:=by
 cases k with
 | «at» a=>show h
 |tup l=>let(p,e,b):=h;show#[p,e,b.same s]
def HA:Bv->U D->O Bv
 |a,[]=>Z a
 |a,.tup [y,d]::r=>match Dl y with
  |some k=>if DN k a&&decide (a.length<AB)then HA (ZW a k d) r else J
  |none=>J
 |_,_=>J
theorem sU{M:Model}{A:Ag}{s:Ab}{p:Ac}{a:Array Aa}{Q:U Aa->Ab->Prop}(h:IsTup s.heap p a)(q:Q a.toList s):wpAny M A (Builtin.Dict.pairItems (.ref p)) Q E s:=by
 let(o,e,b,n,hd):=h;apply Ao<|LU (T:="tuple") #[o,e,b] ?_;apply Ao<|Ao<|wpAny_load e ?_;rw[hd];show AW<|AW q
section
variable{H:Hp}{A:Ag}{it l:Ac}{N:Fb}{us:U Aa}
open J in
theorem bB(hu:A.units+1<Av)(hA:A.in1.handled=J)(G:H a=J)(f:Gj X pins H it)(h:it≠a)(n:l≠it)(x:l≠a):∀(F:U D)(vs:U V)(ws:U Aa)(i:Nat)(s:Ab)(kvs:Bv)(tr:U T3)(c:Bv),
  us.drop i=ws->Aq vs ws->Ad X.K N H F vs->PD X.K N H kvs tr->Inv X pins I (AI H a (D4 tr)) s->s.heap.IsListIter it l i->s.heap.IsList l us.toArray->HA kvs F=Z c ->
  (∀s' z,Inv X pins I (AI H a (D4 z)) s'->PD X.K N H c z->R (.ok (.ret .none)) s') ->
  codeAny (Ae X.prog X.w) A (.builtin "dict.update.loop" #[[.ref a,.ref it,Bx (i:Int),.none],[]]) R s
 |[],vs,ws,i,s,kvs,tr,c,hd,P,Q,m,W,j,L,g,q=>by
  cases Q
  cases P
  cases g
  apply KO bx ?_
  let T:us.toArray[i]?=J:=by
   have:=List.drop_eq_nil_iff.mp hd
   simp[this]
  apply Ao (wpAny_pyNext_list_end hA j L T λh' ke=>?_)
  let M:=W.turned (t':=s.toks) (λb o S e=>ke b o S e) (Zl h ▸ f.1) f.2.1 f.2.2.2.1 f.2.2.2.2.1 f.2.2.2.2.2
  show Ao (AW (AW (q _ tr M m)))
 |d::F,vs,ws,i,s,kvs,tr,c,hd,P,Q,m,W,j,L,g,q=>by
  let(v,Y,rfl,d1,dn'):=Q
  cases P with
  |@cons _ u _ B rv hv'=>
  unfold HA at g
  split at g
  .cases ‹_::_=[]›
  .next y dd r e1=>
   cases e1
   cases hk:Dl y with
   |none=>rw[hk]at g;cases g
   |some k=>
    rw[hk]at g
    let(hc,g):=Z7 g
    rw[DC,decide_eq_true_eq]at hc
    let ey:=IL hk
    subst ey
    let(p,vs2,rfl,sq,kv,r2,rfl,dk,vv,r3,rfl,dv,rfl):=d1
    cases rv
    let hat:us.toArray[i]?=Z (.ref p):=by
     simpa using(show(us.drop i)[0]?=Z (Dx p) by rw[hd];rfl)
    let hd':us.drop (i+1)=B:=by
     rw[<- List.tail_drop,hd];rfl
    apply KO bx ?_
    apply Ao (wpAny_pyNext_list_item j L hat λh' C sb=>?_)
    let M:=W.turned (t':=s.toks) (λb o S e=>(sb.2 b S).trans e) (Zl h ▸ f.1) f.2.1 f.2.2.2.1 f.2.2.2.2.1 f.2.2.2.2.2
    let(its,rv2,ht,_):=M.tuple (sq.same (ZO G))
    let(u1,u2,rfl,r1,r2):=Pp rv2
    apply Ao (Gi ?_)
    apply Ao (wpAny_tryCatch (sU ht ?_))
    apply Gi ?_
    apply ay J' hu M ZN (λt ht=>bA (m.keys t ht) (ZO G)) (m.hom hc.1) (bA (Ia dk) (ZO G)) r1 r2 (by have:=Hc m;lia) λh2 t2 I2 E=>?_
    rw[kY]at I2
    apply AW #[L1 bz _,?_]
    apply bB hu hA G f h n x F Y B (i+1) _ (ZW _ k dd) (Eh tr k kv vv) c hd' hv' dn' (m.put dk dv) I2 ?_ ?_ g q
    .let(o,e,hh):=C
     show#[o,(E.2 it h).trans e,hh]
    .show(L.at λo e=>(sb.2 l n).trans e).at λo e=>(E.2 l x).trans e
  .cases g
theorem sV(t:X.calm=J')(hu:X.A.units+64<Av){s:Ab}{Q:VK}(P:Inv X pins I H s){j:U D}(G:BZ X.K H l vs)(v:Ad X.K N H j vs)(L:HA [] j=Z kvs) (q:∀tr p,H p=J->PD X.K N H kvs tr->Q (.ref p) (AI H p (D4 tr))):wpAny (Ae X.prog X.w) X.A (call (.type "dict") [.ref l]) (EP X pins I Q) E s:=by
 let(us,M,u,hz):=P.list G;let g:l<s.heap.objs.size:=by let(o,n,e,_):=u;show BK e
 apply callType_codes (Q₁:=λx y=>x=.ref s.heap.objs.size/\y={s with heap:=s.heap.push {cls:=.type "dict",data:=.dict (T' [])} }) F.kt_called_dict (F.kt_typeCall_dict_1 (.ref l)) F.entry_dict_init (kt_code_dict_new (.ref l) #[rfl,rfl]) ?_;intro x y zQ;let(rfl,rfl):=zQ;let c:PlainL (s.heap.push {cls:=.type "dict",data:=.dict (T' [])}) l us.toArray:=by
  let(o,n,e,h):=u;show#[o,n,By _ e,h]
 apply#[#[_,Cg _ rfl,rfl],F.args_dict_init_2 _ _,?_];apply Ao<|Ao<|wpAny_notOrdered_dict ⟨_,Cg _ rfl,rfl⟩ ?_;apply AW ?_;change wpAny _ _ (Builtin.Dict.updateFrom "dict.__init__" s.heap.objs.size (.ref l) [] .none) _ _ _
 apply Ao<|LU (T:="list") (by let(o,n,e,h,_):=c;show#[o,e,h]) ?_;apply Ao<|sT c (P.ok.hd t) λf B k=>?_;let m:=(P.laid (a:=s.heap.objs.size) (o:=D4 []) (t':=s.toks) (λ_ _ z=>By _ z) (A4 _) #[ET _,beq_eq_false_iff_ne.mpr<|Bz<|Ca P.big,List.nodup_nil,_,(T' []),0,Cg _ rfl,⟨rfl,rfl,rfl⟩,rfl,rfl,rfl]).kept (h':=f) (t':=B) k;let i:PlainL f l us.toArray:=by
  let(o,n,e,h):=c;show#[o,n,k _ _ e,h]
 apply Ao<|FV ?_;apply Ao<|Pl i.isList ?_;let d:s.heap.objs.size<f.objs.size:=BK<|k _ _<|Cg _ rfl;let C:Gj X pins H f.objs.size:=m.fpOk (A4 _) (by
  have:=m.hok.fresh (a:=f.objs.size) (A4 _);rw[Zl<|IA d]at this;show this)
 apply AW #[L1 bz _,?_];apply bB (A:=X.A.in1) (N:=N) (us:=us) (by change X.A.units+1+1<Av;lia) (P.ok.hd t) (P.hok.fresh<|A4 _) C (IA d) (Ca<|Jz g d) (Ca g) j vs us 0 _ [] [] kvs rfl M v .nil (m.kept (h':=f.push {cls:=.type "list_iterator",data:=.fields (T' [.ref l,.int 0 0])}) (t':=B) λb o e=>By _ e) #[_,Cg _ rfl,rfl,rfl] ?_ L λs' r Y pd=>?_
 .show i.isList.push _
 .show#[rfl,.ref s.heap.objs.size,_,Y,rfl,q r _ (P.hok.fresh<|A4 _) pd]
end
theorem sW:E4 "dict"=Z (.type "dict"):=by kernel_rfl
def IZ(f:AH):VE->A8:=λa=>match f a with
 |some (.lst b)=>(HA [] b).map Zb
 |_=>J
section
variable{M:Fb}{e:Expr}{f:AH}{p:AC}
open J in
theorem sX(x:X.calm=J')(y:X.A.units+64<Av)(z:Gl X "dict")(B:X.mg "dict"=J)(l:JE X e (tP X.K M H0 f))(r:AK [e] X.env=(O',Ar e X.env)::AK [] X.env:=by show D2 rfl):JE X (.Call (.Name "dict" p) [e] [] pos) (Fa .d X.K M H0 (IZ f)):=#[have l:=l.h;by
 intro g s i H Q W zQ;let(j,Y,R,c,q):=zQ;unfold IZ at c;split at c
 .next m C=>
  let(n,E,c):=B8.mp c;cases c;apply Call_<|HK W z B sW<|Nq (AZ ((Z4 l (Bf (X:=X)) r) pos g s i H (λo k=>∃v,o=[v]/\Ak H k/\Ay X.K (Nf M j i) k (.lst m) v) W #[j,.lst m,R,C,λv k t G=>#[v,rfl,t,G]]) λus t F=>?_) (by rw[r]) rfl;let(o,k,L,N,v,rfl,sm,a,ws,rfl,P,dl):=F;let(u,rfl,T):=E5 N;cases T;apply sV x y L P dl E λtr b S w=>?_;have:=NF (K:=X.K) (M:=M) (ρ:=j) (I:=i) (fl:=.d) (Q:=Q) (xs:=Zb n) (vs:=DL tr) (p:=b) sm S w.flat q;rw[JY w]at this;grind
 .cases c]
theorem sY{K:Ap}(i:Nat){x:Af}{a:AC}(b:NV X i x:=by show Ec):JS X (.Return (Z (.Name x a)) pos) (tS K M H0 λρ=>JJ (GK ρ i)):=#[Yv rfl (λ_=>rfl) NG b]
end
section
variable{K:Ap}{M:Fb}
theorem sZ{st:AG}:JS X st (tS K M H0 λ_=>.fail):=#[λa s b H D d ⟨c,R,q⟩=>BL q]
end
structure s9(B:Am)(l:List Env)(e:Ac)(C fl:Aa)(h:Am):Prop where
 stay:B.StaysIn h
 new:B.get? e=J
 fun_:h.FunFrames B l
 rcd:∃oe vs,h.get? e=Z oe/\oe.cls=C/\oe.data=.fields vs/\vs[2]?=Z .none/\(vs[1]?=Z .none\/∃T oT ts,vs[1]?=Z (.ref T)/\B.get? T=J/\T≠e/\h.get? T=Z oT/\oT.data=.fields ts/\ts[3]?=Z fl)
section
variable{s:Ab}{B:Am}{l:U Env}{e:Ac}{C:Aa}
def td(P:AL)(w:Aj)(l:U Env)(H H':Hp)(s:Am)(e C:Ac)(h:Am):Prop:=
 Ak H H'/\Un (EQ l) [] H H' s h/\∃B,CD P w H' B/\(∀b o,s.get? b=Z o->H b=J->b∉EQ l->B.get? b=Z o)/\s9 B l e (.ref C) .none h
def tf(Y:Cx)(b:A0)(I:St)(H:Hp)(C:Ac)(e:Aa)(c:Ab):Prop:=
 ∃a d g f,e=.ref a/\Inv Y b I d f/\Ak H d/\c.os=f.os/\AllBare c.gens/\td Y.prog Y.w Y.stack d g f.heap a C c.heap
end
def ti(Y:Cx)(a:A0)(I:St)(H:Hp)(c:Af)(e:Aa)(b:Ab):Prop:=∃D,nsIn Y.K C4 c=Z (Z (.ref D))/\tf Y a I H D e b
structure XS(Y:Cx)(K:Ap)(M:Fb)(H0:Hp)(st:AG)(h:VE->Option Af):Prop where
 h:∀pins s I H ρ c,Inv Y pins I H s->Bh K M H0 ρ I H->h ρ=Z c->wpAny (Ae Y.prog Y.w) Y.A (exec st Y.env) (λ_ _=>False) (λe s'=>∃σ' H1,Ak H0 H1/\ti Y pins σ' H1 c e s') s
section
variable{K:Ap}
structure XMk(K:Ap)(D:Ac):Prop where
 ex:∃nm q N bs bm hdct sn sub ab col dd k0 k1 k2 k3 k5,K.lookup D=Z (excClassObj nm q D N bs bm hdct sn sub ab col dd k0 k1 k2 k3 k5 "ValueError.__new__")/\tailIn K [.type "ValueError",.type "Exception",.type "BaseException",.type "object"] bm=J'/\nsOkIn K N=J'/\nsIn K N "__init__"=Z J
end
section
open J in
end
abbrev bmV:U Aa:=[.type "ValueError",.type "Exception",.type "BaseException",.type "object"]
end Internal
namespace Internal
open PySem PySem.Spec PyProof.Rows
def bC(i j:Int):Prop:=0<j/\j<2^100
instance (i j:Int):Decidable (bC i j):=by unfold bC;show inferInstance
open PySem.W
def Ex(h:Am)(d:Ac)(es:Array Ix)(ep:Nat):Prop:=∃o,h.get? d=Z o/\o.ExactDict/\o.data=.dict es ep
section
variable{prog:AL}{w:Aj}{A:Ag}{s:Ab}{d it:Ac}{es:Array Ix}{ep i:Nat}
theorem Ex.type(x:Ex s.heap d es ep):s.TypeIs (.ref d) "dict":=by
 let(o,a,b,_):=x;show#[o,a,b.1]
theorem Ex.at{h h':Am}(x:Ex h d es ep)(k:∀o,h.get? d=Z o->h'.get? d=Z o):Ex h' d es ep:=by
 let(o,a,b):=x;show#[o,k o a,b]
theorem bD{Q:AR}(hd:(d==Hd)=O')(a:Ex s.heap d es ep) (e:Q (.ref s.heap.objs.size) {s with heap:=s.heap.push {cls:=.type "dict_keyiterator",data:=.fields (T' [.ref d,.int 0 0,.int es.size 0,.int ep 0])} }):wpAny (Ae prog w) A (pyIter (.ref d)) Q E s:=by
 let ty:=a.type;let(o,b,f,c):=a;apply wpAny_pyIter_slot ty PySem.F.slot_dict_iter<|KD PySem.F.slot_dict_iter ty PySem.F.entry_dict_iter ?_<|PySem.F.args_dict_iter_1 _;unfold Aw.«dict.__iter__» Builtin.Dict.dictSlotNone;apply Ao<|Ao<|wpAny_notOrdered_dict ty ?_;refine(AW ?_:wpAny _ _ (Al<|Dx d) _ _ s);change wpAny _ _ (Builtin.Dict.showsAll d >>= _) _ _ s
 unfold Builtin.Dict.showsAll;rw[if_neg<|hd ▸ LF];apply Ao<|AW<|Ao<|wpAny_dictEntries b c<|Ao<|wpAny_dictEpoch b c ?_;apply Ao<|KG<|AW ⟨_,rfl,"dict_keyiterator",_,⟨_,Cg _ rfl,rfl⟩,PySem.F.slot_dict_keyiterator_next.lookup,?_⟩;simpa[Bx]using e
theorem Qi{Q:O Aa->Ab->Prop}(g:s.heap.IsKeyIter it d i es.size ep)(r:Ex s.heap d es ep)(q:∀(c:i<es.size) h',h'.IsKeyIter it d (i+1) es.size ep->Eo it s.heap h'->Q (Z es[i].key) {s with heap:=h' }) (h:es.size<=i->A.handled=J/\∀h',Heap.ExtBut it s.heap h'->Q J {s with heap:=h' }):wpAny (Ae prog w) A (pyNext (.ref it)) Q E s:=by
 let ty:=g.typeIs;let(p,f,t,e):=g;let(o,j,u,k):=r;unfold pyNext;apply Ao<|On<|LR (name:=Ju "__next__") ty tm (KD tm ty PySem.F.entry_dict_keyiterator_next ?_<|PySem.F.args_dict_keyiterator_next_1 _);apply Ao<|AW<|Ao<|Ao ?_;apply Ao<|bE ty<|AW ?_;apply Ao<|wpAny_fieldsOf f e ?_;erw[show Builtin.Dict_items.ownsTuple "dict_keyiterator"=O' by ext,Fs,if_false];change wpAny _ _ (if(Dx d==Value.none)=J' then _ else _) _ _ s
 apply Ao<|AW<|Ao<|wpAny_dictEntries j k ?_;rw[if_neg (by simp)];apply Ao<|AW<|Ao<|wpAny_dictEpoch j k ?_;rw[if_neg (by simp)];apply AW ?_;by_cases c:i<es.size
 .erw[show ¬ ((i:Int)<0)from ∅,if_false,GR,bq c];apply Ao ?_;first|apply Ao (bE ty<|AW ?_)|apply Ao (wpAny_typeNameOf_keyiter ty<|AW ?_)
  apply Ao<|wpAny_isOneOf_keyiter ty ?_;change wpAny _ _ (setField (.ref it) 1 (Bx<|(i:Int)+1) >>= _) _ _ s
  apply Ao<|wpAny_setField f e (by simp) ?_;let n:(s.heap.update it<|Obj.mapFields (·.setIfInBounds 1 (Bx<|(i:Int)+1))).IsKeyIter it d (i+1) es.size ep:=#[_,SH _ f<|Obj.isFreed_of_fields<|T9 e _,(Obj.cls_mapFields ..).trans t,by rw[T9 e];simp[Bx]];show Ao<|Gi<|Ao<|wpAny_isOneOf_keyiter (s:={s with heap:=s.heap.update it (Obj.mapFields (·.setIfInBounds 1 (Bx ((i:Int)+1))))}) n.typeIs (AW (AW #[_,rfl,AW (q c _ n (Mr ..))]))
 .erw[show ¬ ((i:Int)<0)from ∅,if_false,GR,Array.getElem?_eq_none<|Gm c];apply Ao ?_;first|apply Ao (bE ty<|AW ?_)|apply Ao (wpAny_typeNameOf_keyiter ty<|AW ?_)
  change wpAny _ _ (setField (.ref it) 0 .none >>= _) _ _ s
  apply Ao<|wpAny_setField f e (by simp) ?_;apply Ao ?_;apply Ao<|KG ?_ (by size_fits);apply Ao (m:=firstArgMember _ _) (wpAny_of_eq (a:=Value.none) (by first|rfl|(erw[firstArgMember];rfl)) ?_);apply KG ?_ (by size_fits);apply Ao<|wpAny_handled ?_;rw[show A.in1.handled=J from(h<|Gm c).1];apply Ao<|AW<|wpAny_throw ?_;apply Ao<|wpAny_isInstance (T:="StopIteration") (b:=J') #[_,Cg _ rfl,rfl] isSubtype_stop ?_;show AW<|(h<|Gm c).2 _<|(Heap.ExtBut.push (Heap.SameBut.extBut<|Mr ..) _).push _
theorem tu(m:A.handled=J)(p:Ac)(f:d≠p):Walks prog w A p [p,d] [p] es.size (λi v=>∃e,es[i]?=Z e/\v=e.key) (λi h=>h.IsKeyIter p d i es.size ep/\Ex h d es ep) where
 sub:=λb a=>by simp at a;simp[a]
 frame:=λ_ _ _ st k=>#[st.1.at λo e=>k p (by simp) o e,st.2.at λo e=>k d (by simp) o e];item:=λi s Q E l st c=>Qi st.1 st.2 (λ_ g n sb=>c _ g s.toks #[es[i],bq l,rfl] #[n,st.2.at λo e=>sb.extBut _ _ f e] λb o a e=>sb.extBut b o (λh=>a (by simp[h])) e) λz=>absurd l<|Nat.not_lt.mpr z;done:=λs Q E st c=>Qi st.1 st.2 (λz=>absurd z<|Iy _) λ_=>#[m,λg j=>c g s.toks λb o a e=>j b o (λh=>a (by simp[h])) e];self:=λ_ _ _ _ st c=>wpAny_pyIter_keyiter st.1 c
theorem bF(lo:(d==Hd)=O'):KdlSrc prog w "dict" d d es.size (λi v=>∃e,es[i]?=Z e/\v=e.key) (λh=>Ex h d es ep) where
 type:=λ_ a=>a.type;there:=λ_ a=>by let(o,b,_):=a;show#[BK b,BK b]
 keep:=λ_ _ a f=>a.at λo e=>f d (.inl rfl) o e;notList:=by ext
 notTuple:=by ext
 hint:=λ_ _ _ _ a c=>kdl_hint_dict a.type c;iter:=λ_ s g a=>#[_,_,(λ_ _ c=>bD lo a c),tu g _ (by let(o,b,_):=a;show Ca<|BK b),⟨⟨_,Cg _ rfl,rfl,rfl⟩,a.at λo e=>By _ e⟩]
end
theorem Ot{w:Aj}:∀{tr:U T3}{es:U Ix},Kp w (tr.map (·.1)) (DL tr) es->Aq (tr.map λt=>t.2.1) (es.map λe=>e.key):=by
 intro tr;induction tr with
 |nil=>
  intro es zQ;let(_,e):=zQ;subst e;show .nil
 |cons t r b=>
  intro es zQ;let(kv,v,j,e,k,a,c,d,_,_,_,f):=zQ;erw[DL,List.cons.injEq]at a;let(g,h,i):=a;subst c g h i;show .cons d<|b f
section
theorem bG{es:Array Ix}{acc:Array Aa}(h:ItemsOf (λi v=>∃e,es[i]?=Z e/\v=e.key) acc es.size):acc.toList=es.toList.map λe=>e.key:=by
 apply IG λi=>?_;cases a:acc[i]? with
 |some v=>
  let(e,b,c):=h.2 i v a;simp_all
 |none=>
  let d:es[i]?=J:=Array.getElem?_eq_none_iff.mpr<|h.1 ▸ (show acc.size<=i by grind);grind
theorem tw(h:X.calm=J'):ES X (.type "list") (λxs H Q=>∃a tr,xs=[.ref a]/\CL X.K H a tr/\∀l,H l=J->Q (.ref l) (AI H l (.lst (tr.map λt=>t.2.1)))):=by
 intro d s B H xs C Q E r zQ;let(a,tr,rfl,hd,q):=zQ;let(u,rfl,i):=E5 r;cases i;let(z,j,nd,o,c,e,k,m,n,f):=hd.1.ok E.hok;let g:tr.length<=AB:=by exists z
 apply kdl_call (bF (es:=c) (ep:=e) j) (E.ok.hd h) #[o,k,m,n] ((show tr.length=c.size by have:=(Ot f).length;exists this) ▸ g) λp v b x kp y A=>?_;apply#[.ref s.heap.objs.size,_,E.laid (t':=v) kp (A4 _) (show A9 X.prog X.w _ p _ (.lst<|tr.map λt=>t.2.1)from#[by simpa using g,b.toList,x,bG A ▸ (Ot f),by exists y]),rfl,q _<|E.hok.fresh<|A4 _]
end
def HB:U D->A8
 |[.lst b .d]=>(EJ b).map λa=>a.map λp=>kD p.1
 |_=>J
@[simp]theorem Qj(kvs:Bv):HB [.lst (Zb kvs) .d]=Z (kvs.map λp=>kD p.1):=by simp[HB]
section
variable{K:Ap}{N:Fb}{H:Hp}
theorem PD.kden{tr:U T3}(h:PD K N H kvs tr):Ad K N H (kvs.map λp=>kD p.1) (tr.map λt=>t.2.1):=by
 induction h with
 |nil=>show Ad.nil
 |cons h _ a=>show Ad.cons h.2.1 a
open J in
theorem tx:PF K (λxs H Q=>∃a tr,xs=[.ref a]/\CL K H a tr/\∀l,H l=J->Q (.ref l) (AI H l (.lst (tr.map λt=>t.2.1)))) HB:=by
 intro N H j k xs Q m h e q;unfold HB at e;split at e
 .next n=>
  let(c,d,e):=B8.mp e;cases e;let(v,rfl,b):=Paired.one' h;rw[GO d]at b;let(p,o,rfl,r,hd):=b;let(tr,f,g):=IM r hd;show#[p,tr,rfl,f,λl i=>q _ l i g.kden]
 .cases e
end
section
variable{prog:AL}{w:Aj}{A:Ag}{s:Ab}{T:String}{r d:Ac}{n:Nat}{P:Nat->Aa->Prop}{OK:Am->Prop}
theorem tz{Q:U Aa->Ab->Prop}(K:KdlSrc prog w T r d n P OK)(t:A.handled=J)(hok:OK s.heap)(u:n<=AB) (v:∀h' g acc,(∀b o,s.heap.get? b=Z o->h'.get? b=Z o)->ItemsOf P acc n->Q acc.toList {s with heap:=h',toks:=g}):wpAny (Ae prog w) A (collect (.ref r)) Q E s:=by
 let(lr,ld):=K.there _ hok;apply Ao<|wpAny_runValue<|KO F.entry_proto_collect ?_;apply Ao<|KG ?_;apply AW ⟨L1 F.plain_list_iadd _,KO F.entry_list_iadd ?_⟩;let i:∀j,(∃h' g acc l,j={s with heap:=h',toks:=g}/\(∀b o,s.heap.get? b=Z o->h'.get? b=Z o)/\h'.get? s.heap.objs.size=Z {cls:=.type "list",dict:=J,data:=.seq acc l,slots:=(T' [])}/\ItemsOf P acc n)->wpAny (Ae prog w) A (match Dx s.heap.objs.size with
   |Dx a=>do
    match(<- load a).data with
     |Data.seq x _=>Al x.toList
     |_=>unsupported "internal:collect"
   |_=>unsupported "internal:collect") Q E j:=by
  intro j zQ;let(h',g,acc,l,rfl,m,k,p):=zQ;show Ao<|wpAny_load k<|AW<|v h' g acc m p
 apply wpAny_mono (kdl_extend (R:=λr j=>r=.ok (.ret<|.ref s.heap.objs.size)/\∃h' g acc l,j={s with heap:=h',toks:=g}/\(∀b o,s.heap.get? b=Z o->h'.get? b=Z o)/\h'.get? s.heap.objs.size=Z {cls:=.type "list",dict:=J,data:=.seq acc l,slots:=(T' [])}/\ItemsOf P acc n) (s:={s with heap:=s.heap.push {cls:=.type "list",data:=.seq ([]:U Aa).toArray} }) K t (K.keep _ _ hok λb _ o e=>By _ e) s.heap.objs.size (IA lr) (IA ld) _ 0 (Cg _ rfl) (λh' g acc l m k p=>#[rfl,h',g,acc,l,rfl,λb o e=>m b o (Ca (BK e)) (By _ e),k,p]) u) (λfin j h=>?_) (λe j h=>?_)
 .cases fin with
  |done f=>
   let(e,h):=h;cases e;show i j h
  |again c=>
   apply#[h.1,codeAny_mono h.2 λr q y=>?_];let(rfl,h):=y;show i q h
 .show nomatch h.1
end
end Internal
namespace Internal
open PySem PySem.Spec PyProof.Rows
def bH:Nat->(U Aa->Prop)->Prop
 |0,P=>P []
 |n+1,P=>∀a,bH n λl=>P (a::l)
theorem bI{n:Nat}{P:U Aa->Prop}(h:bH n P)(us:U Aa)(e:us.length=n):P us:=by
 induction us generalizing n P with
 |nil=>cases e;show h
 |cons a r b=>cases e;show b (h a) rfl
structure DI(K:Ap)(mg:BC)(nm:Af)(st:AG)(ps:List Af)(a:Ac)(fd:Cr):Prop where
 m:mg nm=Z (.ref a)
 F:Jx K nm nm st a fd
 b:Binds K fd ps []
theorem di{K:Ap}{mg:BC}{h:Am}{nm:Af}{st:AG}{g:U Af}{j:Aa}{m e:O Ac}{i:Array (O Aa)}{f d pm b ct:Aa}(X:K.In h)(G:h.Ns C4 mg) (A:PySem.W.nsIn K C4 nm=Z (Z (.ref a))) (l:K.lookup a=Z #[j,m,.func (Jt nm nm (HS st) (ZX st) (Zj st) .none f d pm e b ct),i]) (c:PySem.W.codeIn K b nm=J') (k:IB K (.ref a)=J') (n:∀(f d pm:Aa) (e:O Ac) (b ct:Aa) (us:U Aa),us.length=g.length->bindArgs (Jt nm nm (HS st) (ZX st) (Zj st) .none f d pm e b ct) #[us,[]]=Al (g.zip us):=by
   exact λ_ _ _ _ _ _=>bI (by(repeat intro _);rfl)):DI K mg nm st g a (Jt nm nm (HS st) (ZX st) (Zj st) .none f d pm e b ct):=#[PySem.W.mg_of X G A,X6 l c k,.all<|n f d pm e b ct]
theorem Qk{N P:U Af}{a:Scope}(b:a.kind=.function:=by rfl)(c:a.isCoroutine=O':=by rfl)(d:a.isGenerator=O':=by rfl)(e:N.Nodup:=by symm)(f:N.take P.length=P:=by rfl) (g:∀x∈P,a.names.lookup x=Z .local\/a.names.lookup x=Z .cell:=by symm) (h:∀y∈a.names,y.2≠.free:=by symm):FS N P a:=#[b,c,d,e,f,g,h]
section
variable{K:Ap}{M:Fb}{k n:Nat}{fn:Ac}{fd:Cr}{x nm:Af}{st:AG}{F:U Sl->O Rv}{e a b:Expr}{p:AC}{f g:AH}
theorem tE(G:A3 X.prog X.w X.K X.mg X.base BQ k fn fd ps (Bb K F))(a:AM n X.A)(D:DI X.K X.mg x st ps fn fd)(c:JA X (e::es) (Dv K M H0 fa))(d:k<=n:=by ext)(f:Gl X x:=by rfl)(hz:CA X x e es pos:=by show F4):JE X (.Call (.Name x p) (e::es) [] pos) (tD K M H0 (Zi F fa)):=py G (a.mono d) f D.m D.F.kp D.b (E:=E0) KI c hz
theorem tH(G:A3 X.prog X.w X.K X.mg X.base BQ k fn fd ps (Bb K F))(a:AM n X.A)(D:DI X.K X.mg x st ps fn fd)(c:JA X (e::es) (Dv K M H0 fa))(d:k<=n:=by ext)(f:Gl X x:=by rfl)(hz:CA X x e es pos:=by show F4):JE X (.Call (.Name x p) (e::es) [] pos) (tF K M H0 (Fw F fa)):=pz G (a.mono d) f D.m D.F.kp D.b (E:=E0) KI c hz
theorem tL(i:Nat){y:Af}{p vp:AC}(a:X.mg "len"=J)(b:NV X i y:=by show Ec)(c:Gl X "len":=by rfl)(hz:CA X "len" (.Name y vp) [] pos:=by show F4):JE X (.Call (.Name "len" p) [.Name y vp] [] pos) (tD X.K M H0 (Zk Zp λρ=>Zr (Ft ρ i) (Z []))):=GJ Xz YU c a rfl (PB (Tq i b) S5) (hz:=hz)
theorem tM(i:Nat){y t:Af}{n:String}{p vp tp:AC}(b:X.mg "isinstance"=J)(c:X.mg t=J)(d:E4 t=Z (.type n):=by rfl)(e:t≠"__name__":=by ext)(hd:DV t:=by ext)(f:NV X i y:=by show Ec)(g:Gl X "isinstance":=by rfl)(a:Gl X t:=by rfl)(hz:CA X "isinstance" (.Name y vp) [.Name t tp] pos:=by show F4):JE X (.Call (.Name "isinstance" p) [.Name y vp,.Name t tp] [] pos) (tD X.K M H0 (Zk CJ λρ=>Zr (Ft ρ i) (Zr (EV (Z (.ty n))) (Z [])))):=GJ Y8 Y9 g b rfl (PB (Tq i f)<|PB (Yp<|ac a c d e hd) S5) (hz:=hz)
theorem tN {i j pos}:JE X (.Constant (.int i) j pos) (tP K M H0 λ_=>Z (.int i)):=Yk Yl
theorem tR(c:JE X a (tP X.K M H0 f))(d:JE X b (tP X.K M H0 g))(e:LW b:=by show λ_ _=>rfl):JE X (.Subscript a b pos) (tD X.K M H0 (Za Au f g)):=qv c d e
theorem tT(i:Nat){x:Af}(a:X.N.Nodup)(b:X.N[i]?=Z x:=by rfl)(c:Loc X.env.scope x:=by first|show .inl rfl|show .inr rfl)(d:X.fn x=J'\/X.env.scope.names.lookup x=Z .local:=by first|show .inl rfl|show .inr rfl|assumption):JG X (.Name x pos) (tG K M H0 [i] (Zc i)):=pM a b c d
theorem tU(i:Nat){x:Af}{a:AC}(b:X.N.Nodup)(c:JE X e (tD K M H0 f))(d:X.N[i]?=Z x:=by rfl)(g:Loc X.env.scope x:=by first|show .inl rfl|show .inr rfl)(h:DW e (Z (.Name x a)) pos.line X.env=Al O':=by rfl) (j:X.fn x=J'\/X.env.scope.names.lookup x=Z .local:=by first|show .inl rfl|show .inr rfl|assumption):JS X (.Assign [.Name x a] e pos) (tS K M H0 λρ=>Z5 i (f ρ) ρ):=pI b d g c h j
theorem tV{P:AL}{w:Aj}{mg:BC}{base:Am}{N:U Af}{g c:AA}(D:DI K mg nm st ps fn fd)(S:FS N ps (Zj st)) (d:∀(a:Aa) (A:Ag) (outer:U Env) (s:Ab) (H:Hp) (E:XK) (M:Fb) (H0:Hp),AM k (A.deeper (Bk nm (Zj st) s.heap.objs.size fn a))->JB (Et BQ P w K mg base N nm (Zj st) fn a A outer s H E).nox (ZX st) (tS K M H0 c)) (e:c=g:=by rfl) (b:ps.length<=N.length:=by ext):A3 P w K mg base BQ (k+1) fn fd ps (Bb K (A7 ps.length N.length g)):=qe D.F S b<|e ▸ d
end
open PySem.W
abbrev ME(X:Cx)(o:Expr)(m:Af)(es:U Expr)(pl:Sem Bool)(apos pos:AC):Prop:=Ar (.Call (.Attribute o m apos) es [] pos) X.env=(do
 let b <- Ar o X.env
 standAt apos.atName
 let(f,a) <- DY [b] (getMethod b m pl)
 callWith pos f a (AE pos (AK es X.env)) (FQ pos (FR [] X.env)))
theorem Le{K:Ap}{c:Af}(h:nsIn K C4 c=Z (Z (.ref C))):SW K c=C:=by grind [SW]
@[simp]def DQ(c f:Af):D->O D
  |.lst a (.i ns b)=>if b=c then(ns.zip a).lookup f else J
  |_=>J
section
variable{K:Ap}{N:Fb}{H:Hp}
theorem bJ{f:Af}{d:D}:∀{ns:U Af}{xs:U D}{vs:U V},Ad K N H xs vs->(ns.zip xs).lookup f=Z d->∃v,(ns.zip vs).lookup f=Z v/\Ax K N H d v
 |[],_,_,_,e=>by simp at e
 |_::_,[],_,_,e=>by simp at e
 |n::ns,x::xs,vs,h,e=>by
  let(v,r,rfl,q,t):=h;erw[KJ,List.lookup_cons]at e ⊢;cases a:f==n with
  |true=>rw[a]at e;cases e;show#[v,rfl,q]
  |false=>rw[a]at e;show bJ t e
theorem Ua{m:Af}:∀{ns:U Af}{vs:U V},ns.contains m=O'->(ns.zip vs).lookup m=J
 |[],_,_=>by simp
 |_::_,[],_=>by simp
 |n::ns,v::vs,h=>by
  erw[List.contains_cons,Bool.or_eq_false_iff]at h;erw[KJ,List.lookup_cons,h.1];show Ua h.2
end
section
variable{K:Ap}{M:Fb}{e:Expr}{f go:AH}{fo:VE->O Sl}{F:U Sl->O Rv}{k:Nat}{fn:Ac}{fd:Cr}{c m:Af}{E:XK}
theorem tW{f:Af}(j:nsIn X.K C4 c=Z (Z (.ref C)))(k:E7 X.K C)(l:BM X.K C f)(m:JE X o (tP X.K M H0 go))(n:E8 o f X.env (Ar o X.env)=Ar o X.env:=by rfl):JE X (.Attribute o f pos) (tD X.K M H0 λρ=>(go ρ).bind (DQ c f)):=#[(XD m.h n).mono λB H Q p=>by
   let(ρ,d,R,e,q):=p;let(E,t,b):=Cc.mp e;unfold DQ at b;split at b
   .split at b
    .next g=>
     subst g;apply#[ρ,_,R,t,λv w s x=>?_];let(a,G,y,i,r):=x;let(u,z,A):=bJ r b;erw[CO,Le j]at i;show#[a,C,_,_,u,y,i,k,l,z,q u w s A]
    .cases b
   .cases b]
section
variable(hC:nsIn X.K C4 c=Z (Z (.ref C)))(cl:E7 X.K C)(hm:Kx X.K C m fn)(G:A3 X.prog X.w X.K X.mg X.base CX k fn fd ps (Bb X.K F))(hr:AM k X.A)(hb:Binds X.K fd ps [])(hx:Fn CX X E)(ho:JE X o (L7 X.K M H0 fo))
include hC cl hm G hr hb hx ho
end
end
def tY(H:Hp)(x:Ac):Hp:=λb=>if b=x then J else H b
structure tZ(K:Ap)(N:Fb)(a:Ac)(H H':Hp)(ys:List D)(b:Kd)(d:D)(v:V):Prop where
 sm:Ak (tY H a) H'
 at_:∃ws,H' a=Z (CO K b a ys ws)/\Ad K N H' ys ws
 de:Ax K N H' d v
abbrev RB:=U D×Kd×D
def bK(K:Ap)(N:Fb)(a:Ac)(H:Hp):Sl->V->Prop
 |.val d,v=>Ax K N H d v
 |.lent e b,v=>∃c f,v=.ref c/\(N c/\c≠a)/\Rd H c (CO K b c e f)/\Ad K N H e f
 |_,_=>False
def t0(K:Ap)(F:U Sl->Sl->U Sl->O RB):Sp:=λk H Q _=>∃N a g h d e f b i r,k=d++.ref a::e/\(∀c,N c->H c≠J)/\N a/\H a=Z (CO K b a f i)/\Ad K N H f i/\Paired (bK K N a H) g d/\Paired (bK K N a H) h e /\
 F g (.own f b (Z a)) h=Z r/\∀v j,tZ K N a H j r.1 r.2.1 r.2.2 v->Q v j
section
variable{b:Kd}
theorem Lf{a b:Type}{F:a->b->Prop}{l:U a}{m:U b}(h:Paired F l m):l.length=m.length:=h.length
theorem bL{a b:Type}{F:a->b->Prop}{x:a}:∀{l:U a}{m:U b}{i:Nat},Paired F l m->l[i]?=Z x->∃y,m[i]?=Z y/\F x y
 |_,_,0,.cons h _,e=>by cases e;show#[_,rfl,h]
 |_,_,i+1,.cons _ t,e=>by exists bL (i:=i) t (by exists e)
end
section
variable{K:Ap}{F:U Sl->Sl->U Sl->O RB}{n:Nat}{fn:Ac}{fd:Cr}{c m:Af}{E:XK}
section
variable(hC:nsIn X.K C4 c=Z (Z (.ref C)))(cl:E7 X.K C)(hm:Kx X.K C m fn)(G:A3 X.prog X.w X.K X.mg X.base CX n fn fd ps (t0 X.K F))(hr:AM n X.A)(hb:Binds X.K fd ps [])(hx:Fn CX X E)
include hC cl hm G hr hb hx
end
end
@[simp]def putN(f:Af):U Af->U Af
  |[]=>[f]
  |n::ns=>if n=f then n::ns else n::putN f ns
@[simp]def DE{a:Type}(f:Af)(y:a):U Af->U a->U a
  |n::ns,x::b=>if n=f then y::b else x::DE f y ns b
  |_,_=>[y]
theorem bM{f:Af}{y:V}:∀{ns:U Af}{vs:U V},ns.length=vs.length->E6 f y (ns.zip vs)=(putN f ns).zip (DE f y ns vs)
 |[],[],_=>rfl
 |n::ns,v::vs,h=>by
  erw[KJ,E6,putN,DE];by_cases e:n=f
  .rw[if_pos e,if_pos e,if_pos e];rfl
  .rw[if_neg e,if_neg e,if_neg e,bM (by exists h)];rfl
def M3(M:Fb)(a:Ac)(bs:U Ac):Fb:=λx=>M x\/x=a\/x∈bs
@[simp]def t5:Sl->Bool
  |_=>O'
@[simp]def MF(ρ:VE):Bool:=ρ.all λs=>!t5 s
open AutoSeq1 (wpAny_loadPart')
open PySem.MeetsSeq in
theorem t6(l:Ac)(items:Array Aa)(n:Nat)(x:Aa)(e:Aa->Bool)(j:Nat)(q:j<items.size)(v:e items[j]=J')(f:items.size<=AB)(k:Nat):∀i:Nat,j-i=k->i<=j->(∀m (r:m<items.size),i<=m->m<j->e items[m]=O')->Meets (Aw.«list.remove.loop» #[[.ref l,x,Bx i],[]]) (λA R s=>s.heap.get? l=Z {cls:=.type "list",dict:=J,data:=.seq items n,slots:=(T' [])}/\(∀y,y∈items->SeqAt.EqAt A.in1 s y x (e y))/\R (.ok (.ret .none)) {s with heap:=s.heap.update l (FY λxs=>xs.eraseIdxIfInBounds j)}):=by
 induction k with
 |zero=>
  intro i z p a prog w A R s h;let(B,g,d,C,os):=s;let(c,o,h):=h;let E:i=j:=∅
  subst E;wp_walk using EU c;rw[show items[((i:Nat):Int).toNat]?=Z items[i] by simp[q]];apply Ao<|o _ (Array.getElem_mem q) prog w _ _ ?_;let t:(items.eraseIdxIfInBounds i).size<=AB+1:=Bu (size_erased items _)<|Og f;wp_walk using(wpAny_updateSeq c rfl (hz:=f) (_hz':=t)),EU c;exists h
 |succ k G=>
  intro i z p a prog w A R s h;let(B,g,d,C,os):=s;let(c,o,h):=h;let b:i<items.size:=∅
  wp_walk using EU c;rw[show items[((i:Nat):Int).toNat]?=Z items[i] by simp[b]];apply Ao<|o _ (Array.getElem_mem b) prog w _ _ ?_;rw[a i b (A4 _) ∅];wp_walk;show⟨L1 plain_remove_loop _,KO entry_remove_loop (by
   show G (i+1) ∅ ∅ (λm r u H=>a m r ∅ H) prog w A R _ ⟨c,o,h⟩)⟩
open PySem.MeetsSeq in
theorem t7(l:Ac)(items:Array Aa)(n:Nat)(x:Aa)(e:Aa->Bool)(j:Nat)(k:j<items.size)(a:e items[j]=J')(b:∀m (f:m<items.size),m<j->e items[m]=O')(c:items.size<=AB):Meets (Aw.«list.remove» #[[.ref l,x],[]]) (λA R s=>s.heap.get? l=Z {cls:=.type "list",dict:=J,data:=.seq items n,slots:=(T' [])}/\(∀y,y∈items->SeqAt.EqAt A.in1 s y x (e y))/\R (.ok (.ret .none)) {s with heap:=s.heap.update l (FY λxs=>xs.eraseIdxIfInBounds j)}):=by
 intro prog w A R s h;let(q,g,d,r,os):=s;let(i,o,h):=h;wp_walk using EU i;show#[L1 plain_remove_loop _,KO entry_remove_loop (by
  show t6 l items n x e j k a c _ 0 rfl (ET _) (λm f _ p=>b m f p) prog w A R _ #[i,o,h])]
def t8(K:Ap):V->U V->Hp->VK->Prop:=λx c H Q=>∃l a y N d b j,x=.ref l/\c=[y]/\H l=Z (.lst a)/\Ad K N H b a/\Ay K N H d y/\A1 ZT d=J'/\b.all (A1 ZT)=J'/\b.findIdx? (λz=>AS z d)=Z j/\Q .non (AI H l (.lst (a.eraseIdx j)))
section
variable{K:Ap}{M:Fb}{e:Expr}{f:AH}{i:Nat}{x:Af}
theorem t9(hu:X.A.units+64<Av):SK X "list.remove" (t8 X.K):=by
 intro G s I H x vs v us Q S P T zQ;let(l,R,y,N,d,M,j,rfl,rfl,L,hd,Y,od,c,hj,q):=zQ
 cases P
 let(u,rfl,ru):=T.one
 let(z,a,n,r,hl,e):=S.lstM L
 let(h,i,k):=List.findIdx?_eq_some_iff_getElem.mp hj
 let hln:=hd.length
 let f:∀m (o:m<a.toArray.size) (b:m<M.length),Gr X.K N H d a.toArray[m]=AS M[m] d:=λm o b=>by
  let(w,t,dw):=hd.get (Ch b)
  let(w',B,C):=r.get t
  have:a.toArray[m]=w':=by
   rw[List.getElem_toArray];show(Cm.mp B).2
  rw[this]
  show Th S dw.p C (DK.mp c _ (F7 b))
 let g:j<a.toArray.size:=by rw[B3];lia
 apply BY F.slot_list_remove #[_,e,rfl] F.entry_list_remove (F.args_list_remove_2 _ _)
  (t7 l a.toArray n u (Gr X.K N H d) j g (f j g h ▸ i) (λm o E=>by rw[f m o ∅];exists k m E) (by rw[B3];lia)) #[e,λw t=>Tj S (show X.A.in1.units+ZT<Av by rw[NU];unfold ZT;lia) od Y ru hd r c w (by exists t),?_]
 apply#[.non,_,S.lset (its':=a.eraseIdx j) L e ?_ (r.eraseIdx j) ?_,rfl,q]
 .change a.toArray.eraseIdxIfInBounds j=(a.eraseIdx j).toArray
  rw[List.eraseIdxIfInBounds_toArray]
 .have:=X4 R j
  lia
theorem Ad.erase{N:Fb}{H:Hp}(h:Ad K N H xs vs)(j:Nat):Ad K N H (xs.eraseIdx j) (vs.eraseIdx j):=by
 rw[List.eraseIdx_eq_take_drop_succ,List.eraseIdx_eq_take_drop_succ];show(h.take j).append<|h.drop<|j+1
end
end Internal
namespace Internal
open PySem PySem.Spec PyProof.Rows PySem.W
section
open J in
end
end Internal
namespace Internal
open PySem PySem.Spec PyProof.Rows
def Ce(a:Ac)(o:Obj)(u:HO)(H:Hp):Hp:=λb=>@ite _ (b=a/\H b=Z u) (PN _) (Z (.frz o u)) (H b)
def HC(a:Ac)(o:Obj)(u:HO)(H:Hp):Hp:=λb=>@ite _ (b=a/\H b=Z (.frz o u)) (PN _) (Z u) (H b)
section
variable{o:Obj}{u:HO}{H:Hp}{b:Ac}{v:HO}
theorem I0(h:H a=Z u):Ce a o u H a=Z (.frz o u):=if_pos #[rfl,h]
theorem FH(h:¬ (b=a/\H b=Z u)):Ce a o u H b=H b:=if_neg h
theorem Lg(h:H a=Z (.frz o u)):HC a o u H a=Z u:=if_pos #[rfl,h]
theorem J8(h:¬ (b=a/\H b=Z (.frz o u))):HC a o u H b=H b:=if_neg h
theorem B6:Ce a o u H b=J↔H b=J:=by grind [I0,FH]
theorem HD:HC a o u H b=J↔H b=J:=by
 by_cases h:b=a/\H b=Z (.frz o u)
 .let(rfl,h):=h;rw[Lg h,h];show#[λz=>(nomatch z),λz=>(nomatch z)]
 .rw[J8 h]
theorem bN(h:H b=Z v)(c:F2 v=O')(d:F2 u=J'):Ce a o u H b=Z v:=by grind [FH]
theorem Ou(h:H b=Z v)(c:∀o u,v≠.frz o u):HC a o u H b=Z v:=by grind [J8]
theorem Rd.fz(c:F2 u=J')(h:Rd H b v):Rd (Ce a o u H) b v:=by
 rcases h with h|⟨d,h⟩
 .by_cases z:b=a/\H b=Z u
  .let(rfl,z):=z;rw[h]at z;cases z;show .inr #[o,I0 h]
  .show .inl<|FH z ▸ h
 .show .inr #[d,bN h rfl c]
theorem Rd.ufz(c:∀o u,v≠.frz o u)(h:Rd H b v):Rd (HC a o u H) b v:=by
 rcases h with h|⟨d,h⟩
 .show .inl<|Ou h c
 .by_cases z:b=a/\H b=Z (.frz o u)
  .let(rfl,z):=z;rw[h]at z;cases z;show .inl<|Lg h
  .show .inr #[d,J8 z ▸ h]
theorem Ak.fz(f:F2 u=J')(s:Ak H0 H)(b:∀w,H0 a=Z w->H a=Z u->w=u):Ak (Ce a o u H0) (Ce a o u H):=by
 intro c w e;by_cases z:c=a/\H0 c=Z u
 .let(rfl,z):=z;rw[I0 z]at e;cases e;show I0<|s _ _ z
 .rw[FH z]at e;rw[FH]
  .show(s _ _ e)
  .intro zQ;let(rfl,d):=zQ;show z ⟨rfl,by rw[e,b w e d]⟩
end
mutual
theorem Ax.rd{K:Ap}{N:Fb}{H H':Hp}(k:∀b v,(∀o u,v≠HO.frz o u)->Rd H b v->Rd H' b v):∀(d:D)(v:V),Ax K N H d v->Ax K N H' d v
 |.non,_,h=>h
 |.bl _,_,h=>h
 |.int _,_,h=>h
 |.str _,_,h=>h
 |.ty _,_,h=>h
 |.tup f,v,h=>by
  erw[Ax]at h ⊢
  let(a,c,e,q,r):=h
  apply#[a,c,e,?_,Ad.rd k f c r]
  rcases q with q|q
  .show .inl (k _ _ (λ_ _ z=>nomatch z) q)
  .show .inr q
 |.lst f g,v,h=>by
  erw[Ax]at h ⊢
  let(a,c,e,q,r):=h
  apply#[a,c,e,?_,Ad.rd k f c r]
  rcases q with⟨n,q⟩|q
  .show .inl #[n,k _ _ (λ_ _ z=>by cases g<;>cases z) q]
  .show .inr q
theorem Ad.rd{K:Ap}{N:Fb}{H H':Hp}(k:∀b v,(∀o u,v≠HO.frz o u)->Rd H b v->Rd H' b v):∀(xs:U D)(vs:U V),Ad K N H xs vs->Ad K N H' xs vs
 |[],_,h=>h
 |x::xs,vs,h=>by
  erw[Ad]at h ⊢
  let(v,r,e,q,t):=h
  show#[v,r,e,Ax.rd k x v q,Ad.rd k xs r t]
end
theorem Ov(K:Ap)(b:Kd)(a:Ac)(xs:U D)(vs:U V):∀o u,CO K b a xs vs≠HO.frz o u:=λ_ _ z=>by cases b<;>cases z
section
variable{K:Ap}{M N N':Fb}{o:Obj}{u:HO}{H:Hp}
theorem Bh.fz(m:F2 u=J')(R:Bh K M H0 ρ I H)(t:H a=Z u)(y:∀(i:Nat)(xs:U D)(b:Kd)(r:O Ac),ρ[i]?=Z (Sl.own xs b r)->I[i]?≠Z (Z (V.ref a))):Bh K M (Ce a o u H0) ρ I (Ce a o u H) where
 len:=R.len;same:=R.same.fz m λw e _=>by have:=R.same _ _ e;rw[t]at this;cases this;rfl
 mh:=λc h z=>R.mh c h<|B6.mp z;slot:=λi s e=>by
  let q:=R.slot i s e;let l:∀b v,(∀o u,v≠HO.frz o u)->Rd H b v->Rd (Ce a o u H) b v:=λb v _ h=>Rd.fz m h;cases s with
  |no=>trivial
  |val d=>let(v,e,h):=q;show#[v,e,Ax.rd l d v h]
  |own xs A r=>
   let(c,g,j,f,k,n,p):=q;apply#[c,g,j,#[B6.mpr f.1,f.2],k,?_,Ad.rd l xs g p];rw[FH,n];grind
  |lent xs A=>let(c,g,j,(f,k),n,p):=q;show#[c,g,j,#[f,λz=>k<|B6.mp z],l _ _ (Ov _ _ _ _ _) n,Ad.rd l xs g p]
  |exc c=>let(x,C,j,f,k):=q;show#[x,C,j,f,bN k rfl m]
 inj:=R.inj
theorem Bh.ufz(R:Bh K M (Ce a o u H0) ρ I H')(s:H' a=Z (.frz o u))(t:∀w,H0 a=Z w->w=u):Bh K M H0 ρ I (HC a o u H') where
 len:=R.len;same:=λc w e=>by
  by_cases z:c=a
  .subst z;have:=t w e;subst this;show Lg s
  .let f:=R.same c w (by rw[FH λy=>z y.1];show e);rw[J8 λy=>z y.1];show f
 mh:=λc h z=>R.mh c h<|HD.mp z;slot:=λi r e=>by
  let q:=R.slot i r e;cases r with
  |no=>trivial
  |val d=>let(v,e,h):=q;show#[v,e,Ax.rd (λb v g h=>Rd.ufz g h) d v h]
  |own m A B=>let(c,j,k,f,l,n,p):=q;show#[c,j,k,#[B6.mp f.1,f.2],l,Ou n<|Ov _ _ _ _ _,Ad.rd (λb v g h=>Rd.ufz g h) m j p]
  |lent m A=>let(c,j,k,(f,l),n,p):=q;show#[c,j,k,#[f,λz=>l<|B6.mpr z],(λb v g h=>Rd.ufz g h) _ _ (Ov _ _ _ _ _) n,Ad.rd (λb v g h=>Rd.ufz g h) m j p]
  |exc c=>let(x,C,k,f,l):=q;show#[x,C,k,f,Ou l λ_ _ z=>nomatch z]
 inj:=R.inj
theorem Step.ufz(s:Step M N N' (Ce a o u H) H')(b:H a=Z u):Step M N N' H (HC a o u H')/\H' a=Z (.frz o u):=by
 let d:=s.kp a _ (I0 b)<|.inr<|.inr rfl;apply⟨⟨λc w e z=>?_,λc n=>(s.nw c n).imp id B6.mp⟩,d⟩;by_cases y:c=a
 .subst y;rw[b]at e;cases e;show Lg d
 .have:=s.kp c w (by rw[FH λx=>y x.1];show e) z;rw[J8 λx=>y x.1];show this
theorem Fu.ufz{r:Rv}{v:V}(h:Fu K M (Ce a o u H0) H' r v):Fu K M H0 (HC a o u H') r v:=by
 cases r with
 |val d=>show Ax.rd (λb v f h=>Rd.ufz f h) d v h
 |own i m=>let(c,g,e,j,k,l):=h;show#[c,g,e,B6.mp j,Ou k<|Ov _ _ _ _ _,Ad.rd (λb v f h=>Rd.ufz f h) i g l]
end
section
variable{H:Hp}{s:Ab}{o:Obj}{u:HO}
theorem CD.swap{P:AL}{w:Aj}{h:Am}{H:Hp}{u u':HO}(x:CD P w H h)(f:H a=Z u)(i:∀y,u≠.own y)(j:∀xs,u≠.tup xs)(ne:∀b,b≠a->H' b=H b)(d:H' a=Z u')(new:A9 P w H' h a u'):CD P w H' h:=λb v e=>by
 by_cases g:b=a
 .subst g;rw[d]at e;cases e;show new
 .rw[ne b g]at e;refine(x b v e).stay (λc v _ q=>q) (λc q=>?_) λc xs q=>?_
  .rw[ne c λz=>by rw[z,f]at q;cases q;show i _ rfl];show q
  .rw[ne c λz=>by rw[z,f]at q;cases q;show j _ rfl];show q
theorem Ub(a:F2 u=J'):(∀y,u≠.own y)/\(∀xs,u≠.tup xs)/\(∀o v,u≠.frz o v)/\∀b,u≠.tbl b:=by
 apply#[λ_ z=>?_,λ_ z=>?_,λ_ _ z=>?_,λ_ z=>?_]<;>rw[z]at a<;>cases a
theorem Inv.plain(h:Inv X pins I H s)(b:H a=Z u)(d:F2 u=J'):(∀xs,X.H₀ a≠Z (.tup xs))/\(∀o v,X.H₀ a≠Z (.frz o v))/\∀c,X.H₀ a≠Z (.tbl c):=by
 let(_,e,f,g):=Ub d;apply#[λxs z=>?_,λo v z=>?_,λc z=>?_]
 .have:=h.base.tups a xs z;rw[b]at this;cases this;show e _ rfl
 .have:=h.base.frzs a o v z;rw[b]at this;cases this;show f _ _ rfl
 .let(_,this):=h.base.tbls a c z;rw[b]at this;cases this;show g _ rfl
theorem Inv.swap{u u':HO}(q:Inv X pins I H s)(f:H a=Z u)(h:∀y,u≠.own y)(i:∀xs,u≠.tup xs)(pl:(∀xs,X.H₀ a≠Z (.tup xs))/\(∀o v,X.H₀ a≠Z (.frz o v))/\∀d,X.H₀ a≠Z (.tbl d))(ne:∀b,b≠a->H' b=H b)(g:H' a=Z u')(new:A9 X.prog X.w H' s.heap a u'):Inv X pins I H' s where
 ok:=q.ok;os:=q.os;bare:=q.bare;base:=#[q.base.keep,q.base.slot,λb o e n j=>by
   have:=q.base.free b o e n j;rw[ne b λz=>by rw[z,f]at this;cases this];show this,q.base.there,
  λb xs e=>by rw[ne b λz=>pl.1 xs<|z ▸ e];show q.base.tups b xs e,λb o v e=>by rw[ne b λz=>pl.2.1 o v<|z ▸ e];show q.base.frzs b o v e,λb d e=>by rw[ne b λz=>pl.2.2 d<|z ▸ e];show q.base.tbls b d e]
 loc:=q.loc;cell:=q.cell;free:=by rw[ne _ λz=>by have:=q.free;rw[z,f]at this;cases this];show q.free
 freeC:=λx c e=>by
  have:=q.freeC x c e;grind
 pin:=λp k=>by
  let(p1,l,m):=q.pin p k;grind
 hok:=q.hok.swap f h i ne g new;len:=q.len
theorem Inv.fz(e:F2 u=J')(m:Inv X pins I H s)(d:H a=Z u)(h:s.heap.get? a=Z o):Inv X pins I (Ce a o u H) s:=by
 let(f,g,j,k):=Ub e;let ne:∀b,b≠a->Ce a o u H b=H b:=λb i=>FH λz=>i z.1;apply m.swap d f g (m.plain d e) ne (I0 d) #[h,(m.hok a u d).stay (λ_ _ _ q=>q) (λc q=>?_) λc l q=>?_]
 .rw[ne c λz=>by rw[z,d]at q;cases q;show f _ rfl];show q
 .rw[ne c λz=>by rw[z,d]at q;cases q;show g _ rfl];show q
theorem Inv.ufz(g:Inv X pins I H s)(d:H a=Z (.frz o u))(pl:(∀xs,X.H₀ a≠Z (.tup xs))/\(∀o v,X.H₀ a≠Z (.frz o v))/\∀e,X.H₀ a≠Z (.tbl e)):Inv X pins I (HC a o u H) s:=by
 let ne:∀b,b≠a->HC a o u H b=H b:=λb f=>J8 λz=>f z.1;apply g.swap d (λ_ z=>nomatch z) (λ_ z=>nomatch z) pl ne (Lg d) ((g.hok a _ d).2.stay (λ_ _ _ q=>q) (λc q=>?_) λc xs q=>?_)
 .rw[ne c λz=>by rw[z,d]at q;cases q];show q
 .rw[ne c λz=>by rw[z,d]at q;cases q];show q
end
open PySem.W
def Lh(a:Ac)(o:Obj)(u:HO)(b:U V):It:=#[λi H=>H a=Z (.frz o u)/\i<b.length,λi H x c=>c=H/\b[i]?=Z x,λi H=>H a=Z (.frz o u)/\b.length<=i]
theorem ua{P:AL}{w:Aj}{K:Ap}{B:Expr}{it:Ac}{o:Obj}{u:HO}{es:Array Ix}{ep:Nat}{p:U V}(r:o.ExactDict)(t:o.data=.dict es ep)(v:Aq p (es.toList.map λe=>e.key)):HL P w K B (Lh a o u p) [it] it (λi h=>h.IsKeyIter it a i es.size ep):=by
 apply Np (n:="dict_keyiterator") (by ext) (λi h st=>?_) (λi h g st k=>st.at k) (λX i x s N H E Q R C S st=>?_) λ_ _ _ _ _ st h=>wpAny_pyIter_keyiter st h
 .let(o,e,c,d):=st;show#[o,_,e,c,d]
 .let f:=v.length;simp at f;constructor<;>intro y q
  .let(j,l):=y;let(k,G,F):=v.get<|Ch l;let A:i<es.size:=∅
   show Qi st #[o,(S.hok a _ j).1,r,t] (λ_ g m sb=>q _ _ g s.toks m (λb o L e=>(sb.2 b L).trans e) (by rw[show es[i].key=k by simpa[A]using G];show F) #[rfl,Ch l]) λz=>absurd A<|Nat.not_lt.mpr z
  .let(j,l):=y;show Qi st #[o,(S.hok a _ j).1,r,t] (λz=>absurd z ∅) λ_=>#[C,λg M=>q g s.toks M]
abbrev C5(tr:U T3):HO:=.dct (tr.map (·.1)) (DL tr)
section
variable{l:Expr}
def bO(K:Ap)(tl:TE):TI:=λc H R=>tl c H λx b=>∃a tr,x=.ref a/\CL K b a tr/\∀o,(Ce a o (C5 tr) b) a=Z (.frz o (C5 tr))->R (Lh a o (C5 tr) (tr.map λt=>t.2.1)) (Ce a o (C5 tr) b)
theorem Uc{tl:TE}(r:PE X l tl):PI X tg l (bO X.K tl):=by
 intro c s m H R L h;apply AZ (r c s m H _ L h) λv f t=>?_;let(x,g,i,u,a,tr,e,hd,q):=t;subst e;cases u;let(z,w,nd,o,E,G,j,n,p,A):=hd.1.ok i.hok;obtain⟨k,B⟩:Inv X c m (Ce a o (C5 tr) g) f/\(Ce a o (C5 tr) g) a=Z (.frz o<|C5 tr):=by
  rcases hd.1 with d|⟨F,d⟩
  .show#[i.fz rfl d j,I0 d]
  .have:=(i.hok a _ d).1;rw[j]at this;cases this;have:Ce a o (C5 tr) g=g:=funext λb=>FH (by rintro⟨rfl,y⟩;rw[d]at y;cases y);rw[this];show⟨i,d⟩
 apply bD w #[o,j,n,p] ?_;apply#[f.heap.objs.size,[f.heap.objs.size],_,_,_,rfl,k.kept (t':=f.toks) λb o e=>By _ e,ua n p<|Ot A,⟨_,Cg _ rfl,rfl,rfl⟩,λb C=>?_,q o B];let e:b=f.heap.objs.size:=by exists C
 subst e;show k.fpOk (A4 _)<|k.hok.fresh<|A4 _
end
def Cv(X:Cx)(Q:Hp->Prop)(H':Hp):Prop:=Q H'\/∃a o u,((∀b,X.H₀ a≠Z (.tup b))/\(∀o v,X.H₀ a≠Z (.frz o v))/\∀c,X.H₀ a≠Z (.tbl c))/\H' a=Z (.frz o u)/\Q (HC a o u H')
def Ends.cv(X:Cx)(D:Ends):Ends:={nx:=λa=>Cv X (D.nx a),rt:=λv=>Cv X (D.rt v),bk:=λa=>Cv X (D.bk a),ct:=λa=>Cv X (D.ct a)}
theorem SP.cv{c:A0}{D:Ends}{f:Flow}{s:Ab}(h:SP X c (D.cv X) f s):SP X c D f s:=by
 let k:∀{j:St} {H:Hp} {Q:Hp->Prop},Inv X c j H s->Cv X Q H->∃i,Inv X c j i s/\Q i:=λn q=>by
  rcases q with q|⟨a,o,u,l,m,q⟩
  .show#[_,n,q]
  .show#[_,n.ufz m l,q]
 cases f with
 |next=>let(b,i,n,q):=h;let(d,e,g):=k n q;show#[b,d,e,g]
 |brk=>let(b,i,n,q):=h;let(d,e,g):=k n q;show#[b,d,e,g]
 |cont=>let(b,i,n,q):=h;let(d,e,g):=k n q;show#[b,d,e,g]
 |ret u=>let(v,b,i,n,r,q):=h;let(d,e,g):=k n q;show#[v,b,d,e,r,g]
section
variable{K:Ap}{M:Fb}{H:Hp}{D:Ends}{r:Dg}{o:Obj}{u:HO}
theorem A6.cv(h:A6 K M H0 ρ I H D r):A6 K M H0 ρ I H (D.cv X) r:=by
 cases r with
 |fail=>show h
 |next c=>show λa b R S=>.inl<|h a b R S
 |brk c=>show λa b R S=>.inl<|h a b R S
 |cont c=>show λa b R S=>.inl<|h a b R S
 |ret r=>show λv b s q=>.inl<|h v b s q
theorem A6.fz(m:F2 u=J')(h:A6 K M H0 ρ I H D r)(i:H a=Z u)(j:∀w,H0 a=Z w->w=u)(pl:(∀xs,X.H₀ a≠Z (.tup xs))/\(∀o v,X.H₀ a≠Z (.frz o v))/\∀k,X.H₀ a≠Z (.tbl k)):A6 K M (Ce a o u H0) ρ I (Ce a o u H) (D.cv X) r:=by
 let nx:∀(c:VE) (Q:St->Hp->Prop),Hq K M H0 ρ I H c Q->Hq K M (Ce a o u H0) ρ I (Ce a o u H) c (λI=>Cv X<|Q I):=λc Q h f g R S=>by
  let(l,d):=S.ufz i;show .inr #[a,o,u,pl,d,h f _ (R.ufz d j) l]
 cases r with
 |fail=>show h
 |next c=>show nx _ _ h
 |brk c=>show nx _ _ h
 |cont c=>show nx _ _ h
 |ret r=>
  intro v g s q;by_cases z:H0 a=Z u
  .let d:=s a _<|I0 z;apply .inr ⟨a,o,u,pl,d,h v _ (λb w e=>?_) (Fu.ufz q)⟩;by_cases y:b=a
   .grind [Lg]
   .rw[J8 λx=>y x.1];show s b w (by rw[FH λx=>y x.1];show e)
  .let e:Ce a o u H0=H0:=funext λb=>FH (by rintro⟨rfl,y⟩;show z y);rw[e]at s q;show .inl<|h v g s q
end
def Ei(d:D):A8:=match d with
 |.lst b .d=>(EJ b).map λa=>a.map λp=>kD p.1
 |_=>J
theorem Ax.at_any{K:Ap}{N b:Fb}{H:Hp}{a:At}{v:V}(h:Ax K N H (aD a) v):Ax K b H (aD a) v:=by cases a<;>show h
theorem Ad.at_any{K:Ap}{N b:Fb}{H:Hp}:∀{l:U At}{vs:U V},Ad K N H (l.map aD) vs->Ad K b H (l.map aD) vs
 |[],_,h=>h
 |a::l,vs,h=>by
  let(v,r,e,q,t):=h;show#[v,r,e,q.at_any,Ad.at_any t]
theorem Ax.key_any{K:Ap}{N b:Fb}{H:Hp}{k:KT}{v:V}(h:Ax K N H (kD k) v):Ax K b H (kD k) v:=by
 cases k with| «at» a=>show Ax.at_any h|tup l=>
  let(p,c,e,q,r):=h;show#[p,c,e,q,Ad.at_any r]
theorem bP{K:Ap}{M N k:Fb}{f:Hp}{o:Obj}{tr:U T3}(g:PD K k f kvs tr)(hz:Ce a o (C5 tr) f a=Z (.frz o (C5 tr))):Mc K M N (Ce a o (C5 tr) f) (Lh a o (C5 tr) (tr.map λt=>t.2.1)) (kvs.map λp=>kD p.1):=λq r S i=>by
 let c:=S.kp a _ hz<|.inr<|.inr rfl;apply⟨λd hd=>?_,λe=>⟨c,by rw[<- g.kden.length];lia⟩⟩;apply#[#[c,g.kden.length ▸ ((Cm.mp hd).1)],λx s y=>?_];let(rfl,l):=y;apply#[Ak.refl _,?_];let(w,j,m):=g.kden.get hd;rw[l]at j;cases j;rw[CF]at hd;let(p,n,hd):=B8.mp hd;cases hd;show Ax.step S _ _<|(Ax.rd (λb v _ h=>Rd.fz rfl h) _ _ m).key_any
theorem bQ{K:Ap}{M:Fb}{H:Hp}(R:Bh K M H0 ρ I H)(d:¬ Nf M ρ I a\/M a):∀(i:Nat)(xs:U D)(b:Kd)(e:O Ac),ρ[i]?=Z (Sl.own xs b e)->I[i]?≠Z (Z (V.ref a)):=λi xs j e f g=>by
 rcases d with d|d
 .show d<|.inr ⟨i,xs,j,e,f,g⟩
 .let(c,k,h,_,l,_):=R.slot i _ f;rw[g]at h;cases h;show l d
theorem Inv.plain2{b:A0}{H f:Hp}{s:Ab}{u:HO}(k:Inv X b I H s)(s1:Ak H f)(c:f a=Z u)(g:F2 u=J'):(∀xs,X.H₀ a≠Z (.tup xs))/\(∀o v,X.H₀ a≠Z (.frz o v))/\∀d,X.H₀ a≠Z (.tbl d):=by
 let(_,h,i,j):=Ub g;apply#[λxs z=>?_,λo v z=>?_,λd z=>?_]
 .let y:=s1 _ _<|k.base.tups a xs z;rw[c]at y;cases y;show h _ rfl
 .let y:=s1 _ _<|k.base.frzs a o v z;rw[c]at y;cases y;show i _ _ rfl
 .let(m,e):=k.base.tbls a d z;let y:=s1 _ _ e;rw[c]at y;cases y;show j _ rfl
section
variable{M:Fb}{l:Expr}{body:U AG}{f:AH}{b:D->VE->O VE}{g:AA}
open J in
theorem ub(hp:PassesOwn (Ae X.prog X.w) X.A X.env X.xe)(hc:X.calm=J')(hl:PE X l (tQ X.K M H0 f))(hg:∀H0,PG X tg (tG X.K M H0 ws b))(hb:∀H0,Ep X body (tS X.K M H0 g)) (hs:∀x,EF l X.env x=Al x:=by intro _;rfl):PS X (.For tg l body [] pos) (tS X.K M H0 (ZU (λρ=>(f ρ).bind Ei) b g)):=by
 intro j s c H zA zB #[ρ,R,q];unfold ZU at q;dsimp only at q;cases S:f ρ with|none=>rw[S]at q;show BL q|some d=>
 rw[S]at q;erw[Df]at q;cases B:Ei d with|none=>rw[B]at q;show BL q|some ds=>
 rw[B]at q;unfold Ei at B;split at B
 .next xs=>
  cases Y:EJ xs with|none=>rw[Y]at B;cases B|some C=>
  rw[Y]at B;cases B;apply AZ (Pn hp hc (Uc hl) (show PG X tg (λv c H Q=>∃H0,tG X.K M H0 ws b v c H Q)from λj s c H v u Q zB r ⟨H0,h⟩=>hg H0 j s c H v u Q zB r h) (show Ep X body (λD c H=>∃H0,tS X.K M H0 g D c H)from λj s c H D zB ⟨H0,h⟩=>hb H0 j s c H D zB h) hs j s c H (zA.cv X) zB ?_) λfl s' h=>h.cv;apply#[ρ,_,R,S,λv E P dq=>?_];rw[GO Y]at dq;let(a,vs,rfl,hN,hr,dl):=dq;let(tr,dc,pd):=IM hr dl;apply#[a,tr,rfl,dc,λo hz=>?_];let T:=R.st P;let fin:∀n,Bh X.K M n ρ c (Ce a o (C5 tr) E)->A6 X.K M n ρ c (Ce a o (C5 tr) E) (zA.cv X) (ZK b g (C.map λp=>kD p.1) ρ) ->
    ∃W:Nat->Nat->St->Hp->Prop,(∃m,W 0 m c<|Ce a o (C5 tr) E)/\∀i m c H,W i m c H->((Lh a o (C5 tr)<|tr.map λt=>t.2.1).stop i H/\(zA.cv X).nx c H)\/((Lh a o (C5 tr)<|tr.map λt=>t.2.1).go i H/\∃N:St->Hp->Prop,(∀F L,N F L->∃m',m'<m/\W (i+1) m' F L)/\∀x L,(Lh a o (C5 tr)<|tr.map λt=>t.2.1).yld i H x L->(∃H0,tG X.K M H0 ws b x c L λσ2 H2=>∃H0,tS X.K M H0 g {zA.cv X with nx:=N,ct:=N,bk:=(zA.cv X).nx} σ2 H2)):=λn R2 q2=>by
   let core:=Yz (K:=X.K) (M:=M) (H0:=n) (f:=λ_=>Z<|C.map λ(p:KT×D)=>kD p.1) (b:=b) (g:=g) (ws:=ws) (D':=zA.cv X) (I:=c) (H:=Ce a o (C5 tr) E) (wi:=tI X.K M n λ_=>Z<|C.map λ(p:KT×D)=>kD p.1)
    (tg':=λv c H Q=>∃H0,tG X.K M H0 ws b v c H Q) (tb:=λD c H=>∃H0,tS X.K M H0 g D c H) (λ_ _ _ z=>z) (λ_ _ _ _ z=>#[n,z]) (λ_ _ _ z=>#[n,z]) #[ρ,R2,q2]
   let(ρ',ds',R',e',k):=core;cases e';show k _ _ (Ak.refl _)<|(λN=>bP (M:=M) (N:=N) pd hz) _
  rcases dc.1 with G|⟨o',G⟩
  .show fin _ (T.fz rfl G<|bQ T hN)<|A6.fz rfl (A6.from (Step.of_same P) q) G (λw e=>by have y:=T.same _ _ e;rw[G]at y;cases y;rfl) (zB.plain2 P G rfl)
  .let e:Ce a o (C5 tr) E=E:=funext λb=>FH (by rintro⟨rfl,y⟩;rw[G]at y;cases y);rw[e]at fin ⊢;show fin _ T (A6.from (Step.of_same P) q).cv
 .cases B
theorem ud(a:PassesOwn (Ae X.prog X.w) X.A X.env X.xe)(c:X.calm=J')(d:JE X l (tQ X.K M H0 f))(e:∀H0,JG X tg (tG X.K M H0 ws b))(i:∀H0,JB X body (tS X.K M H0 g)) (j:∀x,EF l X.env x=Al x:=by intro _;rfl):JS X (.For tg l body [] pos) (tS X.K M H0 (ZU (λρ=>(f ρ).bind Ei) b g)):=#[ub a c d.h (λH0=>(e H0).h) (λH0=>(i H0).h) j]
end
def ue(K:Ap):V->U V->Hp->VK->Prop:=λx b H Q=>∃a tr k y,x=.ref a/\b=[y]/\CL K H a tr/\H9 k tr/\BV K H k y/\Q ((Z9 tr k).getD .non) H
@[simp]def Ja(x y:D):O D:=match x with
  |.lst b .d=>match EJ b,Dl y with
   |some a,Z k=>if DN k a then Z ((Zu a k).getD .non)else J
   |_,_=>J
  |_=>J
section
variable{M:Fb}{fo fk:AH}
theorem uf(C:X.A.units+64<Av):ID X "dict.get" (ue X.K):=by
 intro i s E H x G v f Q L o r zQ;let(a,tr,k,y,rfl,rfl,hd,j,m,q):=zQ;cases o;let(t,rfl,n):=r.one;cases k with
 | «at» b=>
  cases m;let(u,h,nd,f,rel,g):=N1 L hd j;let c:=rel.val b;apply call_meetsIn PySem.F.slot_dict_get g.typeIs PySem.F.entry_dict_get (PySem.F.args_dict_get_2 _ _) (meets_dict_get (ZI X.prog X.w) a (HZ n) h) #[_,g.mapOf,?_];cases d:Z9 tr (.at b)with
  |none=>
   rw[d]at q;cases e:valueAt f b with
   |none=>show#[.non,H,L.tok _,rfl,q]
   |some w=>rw[d,e]at c;show c.elim
  |some w=>
   rw[d]at q;cases e:valueAt f b with
   |none=>rw[d,e]at c;show c.elim
   |some z=>rw[d,e]at c;show#[w,H,L.tok _,c,q]
 |tup l=>
  let(p,rfl,B):=m;cases(show t=Dx p from n);let(u,h,nd,f,rel,g):=Mo L hd j;let c:=rel.val l;apply call_meetsIn PySem.F.slot_dict_get g.typeIs PySem.F.entry_dict_get (PySem.F.args_dict_get_2 _ _) (meetsH_dict_get (tupleKind<|ZI X.prog X.w) a p h) ⟨Mp ∅,l,f,JX L B,g,?_⟩;cases d:Z9 tr (.tup l)with
  |none=>
   rw[d]at q;cases e:atKey f l with
   |none=>show#[.non,H,L.tok _,rfl,q]
   |some w=>rw[d,e]at c;show c.elim
  |some w=>
   rw[d]at q;cases e:atKey f l with
   |none=>rw[d,e]at c;show c.elim
   |some z=>rw[d,e]at c;show#[w,H,L.tok _,c,q]
open J in
theorem ug(G:X.A.units+64<Av)(zA:JE X o (tP X.K M H0 fo))(P:JE X ek (tP X.K M H0 fk)) (c:E8 o "get" X.env (Ar o X.env)=Ar o X.env:=by rfl) (f:((AE cpos (AK [ek] X.env)).all (λx=>!x.1)&&(FQ cpos (FR [] X.env)).all (λx=>x.1.isSome) && decide ([ek].length+([]:U DA).length+(if([]:U DA).isEmpty then 0 else 1)<30))=J':=by rfl) (e:(apos.endLine==cpos.line)=J':=by rfl) (g:AK [ek] X.env=(O',Ar ek X.env)::AK [] X.env:=by show D2 rfl) (l:(AE cpos (AK [] X.env)).any (·.1)=O':=by rfl):JE X (.Call (.Attribute o "get" apos) [ek] [] cpos) (tD X.K M H0 (Za Ja fo fk)):=#[(HR aQ PySem.F.slot_dict_get PySem.F.type_dict_get (uf G) zA.h (Z4 P.h Bf g) c f e g l).mono λI H Q L=>by
   let(t,d,R,ex,q):=L;let(x,y,N,S,ex):=Ym ex;unfold Ja at ex;split at ex
   .next xs=>
    split at ex
    .next m k n p=>
     let(T,ex):=Z7 ex;cases ex;let r:=GO n;subst r;apply#[t,_,R,N,λv H1 z W=>?_];let(a,vs,rfl,B,hd):=W;apply#[.inr<|.inr ⟨rfl,_,_,B⟩,t,y,R.st z,S,λw Y s C=>?_];let(tr,dc,E):=IM (B.same s)<|hd.same s;rw[IL p]at C;let b:=E.val k;apply#[a,tr,k,w,rfl,rfl,dc,E.hom T,Ia<|Hx C,q _ Y (z.trans s) ?_];cases i:Zu m k with
     |none=>
      rw[i]at b;cases j:Z9 tr k with
      |none=>erw[Option.getD,Ax]
      |some u=>rw[j]at b;show b.elim
     |some d0=>
      rw[i]at b;cases j:Z9 tr k with
      |none=>rw[j]at b;show b.elim
      |some u=>rw[j]at b;show b
    .cases ex
   .cases ex]
end
end Internal
namespace Internal
open PySem PySem.Spec PyProof.Rows
structure Ij(P:AL)(w:Aj)(i:Ac)(fp:List Ac)(n:Nat)(is:Nat->Aa->Prop)(st:Nat->Am->Prop):Prop where
 frame:∀k h h',st k h->(∀b,b=i\/b∈fp->∀o,h.get? b=Z o->h'.get? b=Z o)->st k h'
 lt:∀k h,st k h->i<h.objs.size
 item:∀(A:Ag) (E:AR) (s:Ab) (k:Nat) (Q:AR),k<n->st k s.heap->(∀v h' tk,is k v->st (k+1) h'->Eo i s.heap h'->Q v {s with heap:=h',toks:=tk})->wpAny (Ae P w) A (bR (.ref i)) Q E s
 fin:∀(A:Ag) (E:AR) (s:Ab) (k:Nat) (Q:AR),A.handled=J->n<=k->st k s.heap->(∀h' e,Heap.ExtBut i s.heap h'->(∃o,h'.get? e=Z o/\o.cls=.type "StopIteration")->E (.ref e) {s with heap:=h' }) ->
  wpAny (Ae P w) A (bR (.ref i)) Q E s
section
variable{prog:AL}{w:Aj}{A:Ag}{s:Ab}
theorem bS{i f:Ac}{k:Nat}{b:Array Aa}{Q:AR}(h:s.heap.IsTupleIter i f k)(n:s.heap.IsTuple f b)(q:∀v,b[k]?=Z v->∀h',h'.IsTupleIter i f (k+1)->Eo i s.heap h'->Q v {s with heap:=h' }) (j:b[k]?=J->A.handled=J/\∀h' e,Heap.ExtBut i s.heap h'->(∃o,h'.get? e=Z o/\o.cls=.type "StopIteration")->E (.ref e) {s with heap:=h' }):wpAny (Ae prog w) A (bR (.ref i)) Q E s:=by
 let(u,d,p,c):=id h;let(y,r,_,m1,t):=n;apply Ao<|LR (name:=Ju "__next__") h.typeIs PySem.F.slot_tuple_iterator_next (KD PySem.F.slot_tuple_iterator_next h.typeIs PySem.F.entry_tuple_iterator_next ?_<|PySem.F.args_tuple_iterator_next_1 _);change wpAny _ _ (field (.ref i) 0 >>= _) _ _ s
 apply Ao<|FU d c (x:=.ref f) rfl ?_;apply Ao<|FU d c (x:=.int k 0) rfl ?_;apply Ao<|wpAny_seqItems r t ?_;erw[GR];cases g:b[k]? with
 |some v=>
  show Ao<|wpAny_setField d c (by simp)<|AW ⟨v,rfl,AW<|q _ g _ ⟨_,SH _ d<|Obj.isFreed_of_fields<|T9 c _,(Obj.cls_mapFields ..).trans p,by rw[T9 c];simp[Bx]⟩<|Mr ..⟩
 |none=>
  apply Ao<|FV<|Ao<|wpAny_setField d c (by simp) ?_;apply Ao ?_;apply Ao<|KG ?_ (show(0:Nat)<=AB by ext);apply Ao (m:=firstArgMember _ _) (wpAny_of_eq (a:=Value.none) (by first|rfl|(unfold firstArgMember;rfl)) ?_);apply KG ?_ (by size_fits);apply Ao<|wpAny_handled ?_;first|rw[(j g).1]|rw[show A.in1.handled=J from(j g).1]
  show Ao<|AW<|wpAny_throw<|(j g).2 _ _ ((Heap.ExtBut.push (Heap.SameBut.extBut<|Mr ..) _).push _) ⟨_,Cg _ rfl,rfl⟩
theorem uh{P:AL}{w:Aj}{i l:Ac}{xs:U V}(d:Array Aa)(r:Aq xs d.toList):Ij P w i [l] xs.length (λk v=>∃x,xs[k]?=Z x/\RelV x v) (λk h=>h.IsListIter i l k/\h.IsList l d) where
 frame:=λk h j ⟨a,b⟩ kp=>#[a.at λo e=>kp i (.inl rfl) o e,b.at λo e=>kp l (.inr (by simp)) o e];lt:=λk h ⟨⟨o,e,_⟩,_⟩=>BK e;item:=λA E s k Q g ⟨a,b⟩ q=>by
  let(u,p,t):=r.get<|Ch g;apply wpAny_nextOf_list_item a b (x:=u) (by exists p) λj y sb=>?_;by_cases f:l=i
  .subst f;let(o,e,c,_):=a;let(B,m,n,_):=b;rw[e]at m;cases m;rw[c]at n;show absurd n (by ext)
  .show q _ j s.toks #[_,Ch g,t] #[y,b.extBut sb.extBut f] sb
 fin:=λA E s k Q z g ⟨a,b⟩ q=>wpAny_nextOf_list_end z a b (Array.getElem?_eq_none (by have f:=r.length;simp at f;show le_of_eq_of_le f.symm g)) q
theorem ui{P:AL}{w:Aj}{i l:Ac}{xs:U V}(d:Array Aa)(r:Aq xs d.toList):Ij P w i [l] xs.length (λk v=>∃x,xs[k]?=Z x/\RelV x v) (λk h=>h.IsTupleIter i l k/\h.IsTuple l d) where
 frame:=λk h n ⟨a,b⟩ kp=>#[a.at λo e=>kp i (.inl rfl) o e,b.at λo e=>kp l (.inr (by simp)) o e];lt:=λk h ⟨⟨o,e,_⟩,_⟩=>BK e;item:=λA E s k Q j ⟨a,b⟩ q=>by
  let(u,m,y):=r.get<|Ch j;let m:d[k]?=Z u:=by exists m
  apply bS a b (λv f n B sb=>?_) λz=>by rw[m]at z;cases z
  rw[m]at f;cases f;by_cases g:l=i
  .subst g;let(o,e,c,_):=a;let(G,p,t,_):=b;rw[e]at p;cases p;rw[c]at t;show absurd t (by ext)
  .show q _ n s.toks #[_,Ch j,y] #[B,b.at λo e=>sb.extBut _ _ g e] sb
 fin:=λA E s k Q C j ⟨a,b⟩ q=>bS a b (λv f=>by rw[Array.getElem?_eq_none (by have g:=r.length;simp at g;show le_of_eq_of_le g.symm j)]at f;cases f) λ_=>#[C,q]
def MG(x:Af):String:=if x.cps.all (·<128)=J' then "str_ascii_iterator" else "str_iterator"
def Gv(x:Af):U V:=x.cps.toList.map λc=>.str #[(T' [c])]
theorem uj{P:AL}{w:Aj}{i:Ac}(x:Af):Ij P w i [] (Gv x).length (λk v=>∃y,(Gv x)[k]?=Z y/\RelV y v) (λk h=>∃t,h.IsStrIter i (MG x) x t k) where
 frame:=λk h f ⟨t,o,e,r⟩ kp=>#[t,o,kp i (.inl rfl) o e,r];lt:=λk h ⟨t,o,e,_⟩=>BK e;item:=λA E s k Q g ⟨t,a⟩ q=>by
  let b:k<x.cps.size:=by simpa[Gv]using g
  unfold MG at a q;by_cases d:x.cps.all (·<128)=J'
  .rw[if_pos d]at a q;show wpAny_nextOf_ascii_item a (c:=x.cps[k]) (by simp[b]) λf j sb=>q _ f (s.toks+1) #[.str #[(T' [x.cps[k]])],by simp[Gv,b],_,rfl] #[t,j] sb
  .rw[if_neg d]at a q;show wpAny_nextOf_wide_item a (c:=x.cps[k]) (by simp[b]) λf j sb=>q _ f (s.toks+1) #[.str #[(T' [x.cps[k]])],by simp[Gv,b],_,rfl] #[t,j] sb
 fin:=λA E s k Q l g ⟨t,a⟩ q=>by
  let b:x.cps.size<=k:=by simpa[Gv]using g
  unfold MG at a;by_cases d:x.cps.all (·<128)=J'
  .rw[if_pos d]at a;show wpAny_nextOf_ascii_end l a (by simp[b]) q
  .rw[if_neg d]at a;show wpAny_nextOf_wide_end l a (by simp[b]) q
structure Ct(z tin tout ia ib:Ac)(fa fb:List Ac):Prop where
 n1:tin≠z
 n2:tout≠z
 n3:ia≠z
 n4:ib≠z
 n5:tin≠tout
 n6:tin≠ia
 n7:tin≠ib
 n8:tout≠ia
 n9:tout≠ib
 n10:ia≠ib
 fz:∀b,b∈fa\/b∈fb->b≠z/\b≠tout/\b≠ia/\b≠ib
section
variable{z tin tout ia ib:Ac}{fa fb:U Ac}{n m k:Nat}{isB:Nat->Aa->Prop}{sa sb:Nat->Am->Prop}{a b:Aa}
theorem Ct.keepA(D:Ct z tin tout ia ib fa fb)(f:Ij prog w ia fa n isA sa){h h':Am}(st:sa k h){c:Ac}(d:c=z\/c=tout\/c=ib)(a:Eo c h h'):sa k h':=f.frame k h h' st λx b o e=>by
  apply a.extBut x o ?_ e;rcases b with rfl|b
  .rcases d with rfl|rfl|rfl
   .show D.n3
   .show Bz D.n8
   .show D.n10
  .let(g,i,q3,j):=D.fz x<|.inl b;rcases d with rfl|rfl|rfl
   .show g
   .show i
   .show j
theorem Ct.keepB(D:Ct z tin tout ia ib fa fb)(SB:Ij prog w ib fb n isB sb){h h':Am}(st:sb k h){c:Ac}(d:c=z\/c=tout\/c=ia)(a:Eo c h h'):sb k h':=SB.frame k h h' st λx b o e=>by
  apply a.extBut x o ?_ e;rcases b with rfl|b
  .rcases d with rfl|rfl|rfl
   .show D.n4
   .show Bz D.n9
   .show Bz D.n10
  .let(f,g,q3,i):=D.fz x<|.inr b;rcases d with rfl|rfl|rfl
   .show f
   .show g
   .show q3
theorem bT{Q:O Aa->Ab->Prop}(D:Ct z tin tout ia ib fa fb)(i:Ij prog w ia fa n isA sa)(SB:Ij prog w ib fb m isB sb)
  (hz:IsZip s.heap z tin tout .none) (hi:IsPair s.heap tin (.ref ia) (.ref ib)) (ho:IsPair s.heap tout a b) (ha:sa k s.heap) (hb:sb k s.heap)
  (q:k<n->k<m->∀x y h' p,isA k x->isB k y->IsZip h' z tin tout (Bx s.heap.objs.size)->IsPair h' tout x y->sa (k+1) h'->sb (k+1) h'->IsPair h' s.heap.objs.size x y->h'.objs.size=s.heap.objs.size+1 ->
   (∀c o,c≠z->c≠tout->c≠ia->c≠ib->s.heap.get? c=Z o->h'.get? c=Z o)->Q (Z (.ref s.heap.objs.size)) {s with heap:=h',toks:=p})
  (P:n<=k\/m<=k->A.handled=J/\∀h' p,(∀c o,c≠z->c≠tout->c≠ia->c≠ib->s.heap.get? c=Z o->h'.get? c=Z o)->Q J {s with heap:=h',toks:=p}):
  wpAny (Ae prog w) A (pyNext (.ref z)) Q E s:=by
 let j:n<=k\/m<=k->∀(h':Am) (p:Nat) (e:Ac),(∀c o,c≠z->c≠tout->c≠ia->c≠ib->s.heap.get? c=Z o->h'.get? c=Z o)->(∃o,h'.get? e=Z o/\o.cls=.type "StopIteration") ->
   wpAny (Ae prog w) A (do if(<- isInstance (.ref e) (.type "StopIteration"))=J' then Al (J:O Aa)else throw (Dx e)) Q E {s with heap:=h',toks:=p}:=λkn h' p e kp ⟨o,g,d⟩=>
  Ao (wpAny_isInstance (T:="StopIteration") (b:=J') #[o,g,d] isSubtype_stop (AW ((P kn).2 h' p kp)))
 apply Ao (On (LR (name:=Ju "__next__") #[_,hz,rfl] PySem.F.slot_zip_next (KD PySem.F.slot_zip_next #[_,hz,rfl] PySem.F.entry_zip_next ?_ (PySem.F.args_zip_next_1 _))))
 change wpAny _ _ (field (.ref z) 2 >>= _) _ _ _
 apply Ao (FU hz rfl (x:=.bool O') rfl ?_)
 apply Ao (FU hz rfl (x:=.ref tin) rfl ?_)
 apply Ao (wpAny_seqItems hi rfl ?_)
 apply Ao ?_
 apply Ao (FU hz rfl (x:=.none) rfl (AW ?_))
 apply Ao (FV ?_)
 apply Ao (FU hz rfl (x:=.ref tout) rfl ?_)
 apply Ao (Ik hz (by simp) λg1 L b1=>?_)
 apply Ao ?_
 apply Ao (Ao (wpAny_onRaise ?_))
 by_cases G:n<=k
 .apply Ao (i.fin A.in1 _ _ k _ (P (.inl G)).1 G (D.keepA i ha (.inl rfl) b1) λg2 e R Y=>?_)
  let(oe,g,d):=Y
  show Ik (R _ _ (Bz D.n3) L) (by simp) λg3 _ f=>j (.inl G) g3 s.toks e (λc o d _ r _ x=>f.extBut _ _ d (R _ _ r (b1.extBut _ _ d x))) #[oe,f.extBut _ _ (λx=>by subst x;rw[R _ _ (Bz D.n3) L]at g;cases g;simp at d) g,d]
 .apply Ao (i.item _ _ _ k _ (K8 G) (D.keepA i ha (.inl rfl) b1) λx g2 tk2 hx a2 t=>AW ?_)
  let o2:IsPair g2 tout a b:=t.extBut _ _ D.n8 (b1.extBut _ _ D.n2 ho)
  apply Ao (wpAny_seqItems o2 rfl ?_)
  apply Ao (wpAny_updateSeq_pair o2 λg3 o3 f=>?_)
  apply Ao (wpAny_letGo (AW ?_))
  apply Ao (Ao (wpAny_onRaise ?_))
  let H:sb k g3:=D.keepB SB (D.keepB SB (D.keepB SB hb (.inl rfl) b1) (.inr (.inr rfl)) t) (.inr (.inl rfl)) f
  by_cases S:m<=k
  .apply Ao (SB.fin A.in1 _ _ k _ (P (.inr S)).1 S H λg4 e x4 Y=>?_)
   let(oe,g,d):=Y
   let z4:IsZip g4 z tin tout .ellipsis:=x4 _ _ (Bz D.n4) (f.extBut _ _ (Bz D.n2) (t.extBut _ _ (Bz D.n3) L))
   show Ik z4 (by simp) λh _ l=>j (.inr S) h tk2 e (λc o d v r K x=>l.extBut _ _ d (x4 _ _ K (f.extBut _ _ v (t.extBut _ _ r (b1.extBut _ _ d x))))) #[oe,l.extBut _ _ (λx=>by subst x;rw[z4]at g;cases g;simp at d) g,d]
  .apply Ao (SB.item _ _ _ k _ (K8 S) H λy g4 tk4 hy a4 B=>AW ?_)
   apply Ao (wpAny_seqItems (B.extBut _ _ D.n9 o3) rfl ?_)
   apply Ao (wpAny_updateSeq_pair (B.extBut _ _ D.n9 o3) λh M l=>?_)
   let M:IsPair h tout x y:=M
   apply Ao (wpAny_letGo (AW (AW ?_)))
   apply Ao (wpAny_seqItems M rfl ?_)
   apply Ao (wpAny_newTuple ?_)
   let sz:h.objs.size=s.heap.objs.size:=by rw[l.1,B.1,f.1,t.1,b1.1]
   let z5:IsZip h z tin tout .ellipsis:=l.extBut _ _ (Bz D.n2) (B.extBut _ _ (Bz D.n4) (f.extBut _ _ (Bz D.n2) (t.extBut _ _ (Bz D.n3) L)))
   let kp:∀c o,c≠z->c≠tout->c≠ia->c≠ib->s.heap.get? c=Z o->h.get? c=Z o:=λc o d v r K e=>
    l.extBut _ _ v (B.extBut _ _ K (f.extBut _ _ v (t.extBut _ _ r (b1.extBut _ _ d e))))
   apply Ao ?_
   apply Ao (Ik (By _ z5) (by simp) λg7 z7 b7=>?_)
   apply Ik z7 (by simp) λC z8 b8=>?_
   let N:∀c o,c≠z->h.get? c=Z o->C.get? c=Z o:=λc o d e=>b8.extBut _ _ d (b7.extBut _ _ d (By _ e))
   let new:IsPair C h.objs.size x y:=b8.extBut _ _ (IA (BK z5)) (b7.extBut _ _ (IA (BK z5)) (Cg _ rfl))
   let s8:C.objs.size=h.objs.size+1:=by rw[b8.1,b7.1,LN]
   let a8:sa (k+1) C:=i.frame _ _ _ (D.keepA i (D.keepA i (D.keepA i a2 (.inr (.inl rfl)) f) (.inr (.inr rfl)) B) (.inr (.inl rfl)) l) λc u o e=>N c o (by
    rcases u with rfl|u
    .show D.n3
    .show(D.fz c (.inl u)).1) e
   let b8':sb (k+1) C:=SB.frame _ _ _ (D.keepB SB a4 (.inr (.inl rfl)) l) λc u o e=>N c o (by
    rcases u with rfl|u
    .show D.n4
    .show(D.fz c (.inr u)).1) e
   rw[sz]at z8 new s8
   apply AW #[_,rfl,AW ?_]
   rw[sz]
   show q (K8 G) (K8 S) x y C tk4 hx hy z8 (N _ _ D.n2 M) a8 b8' new s8 λc o d v r K e=>N c o d (kp c o d v r K e)
end
end
inductive AN where
 |l (a:Ac)
 |t (a:Ac)
 |x (s:Af)
@[reducible] def AN.v:AN->V
  |.l a=>.ref a
  |.t a=>.ref a
  |.x s=>.str s
@[reducible] def AN.fp:AN->U Ac
  |.l a=>[a]
  |.t a=>[a]
  |.x _=>[]
def AN.sq(K:Ap)(H:Hp):AN->U V->Prop
 |.l a=>BZ K H a
 |.t a=>Cb K H a
 |.x s=>λb=>b=Gv s
def AN.nm:AN->String
 |.l _=>"list_iterator"
 |.t _=>"tuple_iterator"
 |.x s=>MG s
def AN.ok(h:Am)(xs:U V):AN->Prop
 |.l a=>∃b:Array Aa,Aq xs b.toList/\h.IsList a b
 |.t a=>∃b:Array Aa,Aq xs b.toList/\h.IsTuple a b
 |.x s=>xs=Gv s
def AN.it(h:Am)(i:Ac)(k:Nat):AN->Prop
 |.l a=>h.IsListIter i a k
 |.t a=>h.IsTupleIter i a k
 |.x s=>∃t,h.IsStrIter i (MG s) s t k
theorem AN.of(S:AN){c:A0}{H:Hp}{s:Ab}{xs:U V}(d:Inv X c I H s)(h:S.sq X.K H xs):S.ok s.heap xs:=by
 cases S with
 |l a=>let(b,r,p,z):=d.list h;show#[b.toArray,r,p.isList]
 |t a=>let(b,r,p,z):=d.tuple h;show#[b.toArray,r,(show s.heap.IsTuple a b.toArray from p)]
 |x s=>show h
theorem AN.inj(S:AN){b:A0}{H:Hp}{s:Ab}{xs:U V}(c:Inv X b I H s)(h:S.sq X.K H xs)(h':S.sq X.K H ys):xs=ys:=by
 cases S with
 |l a=>show c.list_inj h h'
 |t a=>show c.tuple_inj h h'
 |x s=>show(show xs=Gv s from h).trans (show ys=Gv s from h').symm
theorem AN.lt(S:AN){h:Am}{xs:U V}(p:S.ok h xs):∀b∈S.fp,b<h.objs.size:=by
 intro b c;cases S with
 |l a=>rw[Cw.mp c];let(d,_,o,e,_):=p;show BK e
 |t a=>rw[Cw.mp c];let(d,_,o,e,_):=p;show BK e
 |x s=>cases c
theorem AN.okAt(S:AN){h h':Am}{xs:U V}(p:S.ok h xs)(k:∀b∈S.fp,∀o,h.get? b=Z o->h'.get? b=Z o):S.ok h' xs:=by
 cases S with
 |l a=>let(c,r,q):=p;show#[c,r,Heap.IsList.at q<|k a (by simp)]
 |t a=>let(c,r,q):=p;show#[c,r,Heap.IsTuple.at q<|k a (by simp)]
 |x s=>show p
theorem AN.itAt(S:AN){h h':Am}{i:Ac}{n:Nat}(p:S.it h i n)(k:∀o,h.get? i=Z o->h'.get? i=Z o):S.it h' i n:=by
 cases S with
 |l a=>show Heap.IsListIter.at p k
 |t a=>show Heap.IsTupleIter.at p k
 |x s=>let(t,o,e,r):=p;show#[t,o,k o e,r]
theorem AN.itOb(S:AN){h:Am}{i:Ac}{n:Nat}(p:S.it h i n):∃o,h.get? i=Z o/\∀v,o.data≠.cell v:=by
 cases S with
 |l a=>let(o,e,c,d):=p;show#[o,e,λv z=>by rw[d]at z;cases z]
 |t a=>let(o,e,c,d):=p;show#[o,e,λv z=>by rw[d]at z;cases z]
 |x s=>let(t,o,e,c,d):=p;show#[o,e,λv z=>by rw[d]at z;cases z]
theorem AN.sub(S:AN){P:AL}{w:Aj}{i:Ac}{h:Am}{xs:U V}(p:S.ok h xs):∃st:Nat->Am->Prop,Ij P w i S.fp xs.length (λk v=>∃x,xs[k]?=Z x/\RelV x v) st/\(∀k,S.it h i k->st k h)/\∀k h',st k h'->S.it h' i k:=by
 cases S with
 |l a=>let(b,r,q):=p;show#[_,uh b r,λk e=>#[e,q],λk h' e=>e.1]
 |t a=>let(b,r,q):=p;show#[_,ui b r,λk e=>#[e,q],λk h' e=>e.1]
 |x s=>rw[show xs=Gv s from p];show#[_,uj s,λk e=>e,λk h' e=>e]
def AN.obj(S:AN)(u:Aa):Obj:={cls:=.type S.nm,data:=.fields (T' [u,.int 0 0])}
open J in
theorem AN.pyIter(S:AN){prog:AL}{w:Aj}{A:Ag}{E:AR}{s:Ab}{xs:U V}{u:Aa}(c:RelV S.v u){Q:AR}(p:S.ok s.heap xs) (q:Q (.ref s.heap.objs.size) {s with heap:=s.heap.push (S.obj u)}):wpAny (Ae prog w) A (pyIter u) Q E s:=by
 cases S with
 |l a=>let(d,r,p):=p;let e:u=.ref a:=c;subst e;show Pl p q
 |t a=>let(d,r,p):=p;let e:u=.ref a:=c;subst e;show wpAny_pyIter_tuple p q
 |x x=>
  let(t,rfl):=(show ∃t,u=Value.str x t from c);unfold AN.obj AN.nm MG at q;by_cases b:x.cps.all (·<128)=J'
  .erw[b,if_true]at q;show wpAny_pyIter_ascii b q
  .erw[b,if_false]at q;show wpAny_pyIter_wide (by exists b) q
theorem AN.new(S:AN){h:Am}(b:RelV S.v u):S.it (h.push (S.obj u)) h.objs.size 0:=by
 cases S with
 |l a=>have e:u=.ref a:=b;subst e;show#[_,Cg _ rfl,rfl,rfl]
 |t a=>have e:u=.ref a:=b;subst e;show#[_,Cg _ rfl,rfl,rfl]
 |x x=>let(t,rfl):=(show ∃t,u=Value.str x t from b);show#[t,_,Cg _ rfl,rfl,rfl]
@[reducible] def Ow(h:Am)(A:AN)(u:Aa):Am:=h.push (A.obj u)
@[reducible] def Ox(h:Am)(A B:AN)(u v:Aa):Am:=(Ow h A u).push (B.obj v)
@[reducible] def Ql(h:Am)(A B:AN)(u v:Aa):Am:=(Ox h A B u v).push {cls:=.type "tuple",data:=.seq (T' [.ref h.objs.size,.ref (Ow h A u).objs.size])}
@[reducible] def Qm(h:Am)(A B:AN)(u v:Aa):Am:=(Ql h A B u v).push {cls:=.type "tuple",data:=.seq (T' [.none,.none])}
@[reducible] def MH(h:Am)(A B:AN)(u v:Aa):Am:=(Qm h A B u v).push {cls:=.type "zip",data:=.fields (T' [.none,.bool O',.bool O',.ref (Ox h A B u v).objs.size,.ref (Ql h A B u v).objs.size])}
theorem uk(A B:AN){v:Aa}(a:RelV A.v u)(c:RelV B.v v)(xs ys:U V):Meets (Aw.«zip.__new__» #[[.type "zip",u,v],[]]) (λ_ R s=>A.ok s.heap xs/\B.ok s.heap ys/\R (.ok (.ret (.ref (Qm s.heap A B u v).objs.size))) {s with heap:=MH s.heap A B u v}):=.of_wp λprog w j R s h=>by
  let(k,g,d,l,os):=s;let(f,i,q):=h;let m:=sub_zip;wp_walk using A.pyIter a f,B.pyIter c<|B.okAt i λb _ o e=>By _ e;show#[_,rfl,q]
section
variable{prog:AL}{w:Aj}{A:Ag}{s:Ab}
theorem ul{S T:AN}{xs:U V}{v:Aa}(i:RelV S.v u)(j:RelV T.v v){Q:AR}(p1:S.ok s.heap xs)(p:T.ok s.heap ys) (q:∀h',IsZip h' (s.heap.objs.size+4) (s.heap.objs.size+2) (s.heap.objs.size+3) .none->IsPair h' (s.heap.objs.size+2) (.ref s.heap.objs.size) (.ref (s.heap.objs.size+1))->IsPair h' (s.heap.objs.size+3) .none .none->S.it h' s.heap.objs.size 0->T.it h' (s.heap.objs.size+1) 0->(∀c o,s.heap.get? c=Z o->h'.get? c=Z o)->Q (.ref (s.heap.objs.size+4)) {s with heap:=h' }):wpAny (Ae prog w) A (call (.type "zip") [u,v]) Q E s:=by
 apply callType_new PySem.F.called_zip (by ext) (PySem.F.typeCall_zip_2 _ _) (PySem.F.newCall_zip_2 _ _) (λobj=>PySem.F.args_object_init_3 obj _ _) PySem.F.entry_zip_new (uk S T i j xs ys) #[p1,p,?_];let a:(Ow s.heap S u).objs.size=s.heap.objs.size+1:=LN ..;let b:(Ox s.heap S T u v).objs.size=s.heap.objs.size+2:=by rw[LN,a]
 let d:(Ql s.heap S T u v).objs.size=s.heap.objs.size+3:=by rw[LN,b]
 let k:(Qm s.heap S T u v).objs.size=s.heap.objs.size+4:=by rw[LN,d]
 let f:(MH s.heap S T u v).get? (Qm s.heap S T u v).objs.size=Z _:=Cg _ rfl;let l:(MH s.heap S T u v).get? (Ql s.heap S T u v).objs.size=Z _:=By _<|Cg _ rfl;let m:(MH s.heap S T u v).get? (Ox s.heap S T u v).objs.size=Z _:=By _<|By _<|Cg _ rfl;let g:∀c o,(Ox s.heap S T u v).get? c=Z o->(MH s.heap S T u v).get? c=Z o:=λc o e=>By _<|By _<|By _ e;let n:T.it (MH s.heap S T u v) (Ow s.heap S u).objs.size 0:=T.itAt (T.new (h:=Ow s.heap S u) j) λo e=>g _ o e;rw[b,d,k]at f;rw[a,b]at m;rw[d]at l;rw[a]at n;rw[k];show#[#[_,f,rfl],q _ f m l (S.itAt (S.new (h:=s.heap) i) λo e=>g _ o<|By _ e) n λc o e=>g _ _<|By _<|By _ e]
end
def bU(K:Ap)(S T:AN):It:=
 #[λi H=>∃a b x y,S.sq K H a/\T.sq K H b/\a[i]?=Z x/\b[i]?=Z y,
  λi H v c=>∃p x y,v=.ref p/\H p=J/\c=AI H p (.tup [x,y])/\(∀a,S.sq K H a->a[i]?=Z x)/\∀b,T.sq K H b->b[i]?=Z y,
  λi H=>∃a b,S.sq K H a/\T.sq K H b/\(a.length<=i\/b.length<=i)]
theorem bV{n:Nat}{S T:AN}(a:∀b∈S.fp,b<n)(c:∀b∈T.fp,b<n):Ct (n+4) (n+2) (n+3) n (n+1) S.fp T.fp where
 n1:=by(show @Ne Nat _ _;show W.Z.off_ne n 2 4 rfl)
 n2:=by(show @Ne Nat _ _;show W.Z.off_ne n 3 4 rfl)
 n3:=by(show @Ne Nat _ _;lia)
 n4:=by(show @Ne Nat _ _;show W.Z.off_ne n 1 4 rfl)
 n5:=by(show @Ne Nat _ _;show W.Z.off_ne n 2 3 rfl)
 n6:=by(show @Ne Nat _ _;lia)
 n7:=by(show @Ne Nat _ _;show W.Z.off_ne n 2 1 rfl)
 n8:=by(show @Ne Nat _ _;lia)
 n9:=by(show @Ne Nat _ _;show W.Z.off_ne n 3 1 rfl)
 n10:=by(show @Ne Nat _ _;show Nat.ne_add_one n)
 fz:=λb d=>by
  grind
theorem um{P:AL}{w:Aj}{K:Ap}{m:U Expr} {x1} (S T:AN) (n:Nat) (h1:∀b∈S.fp,b<n) (h2:∀b∈T.fp,b<n):
  HL P w K (.Tuple m x1 pos) (bU K S T) [n+4,n+2,n+3,n,n+1] (n+4) (λi h=>IsZip h (n+4) (n+2) (n+3) .none/\IsPair h (n+2) (.ref n) (.ref (n+1))/\(∃a b,IsPair h (n+3) a b)/\S.it h n i/\T.it h (n+1) i) where
 mem:=by simp
 obj:=λi h z0 q f=>by
  let(z,a,(x,y,b),c,d):=z0
  erw[Bp,NZ,or_false]at f
  rcases f with rfl|rfl|rfl|rfl|rfl
  .show#[_,z,λv e=>nomatch (show Data.fields _=Data.cell v from e)]
  .show#[_,a,λv e=>nomatch (show Data.seq _ _=Data.cell v from e)]
  .show#[_,b,λv e=>nomatch (show Data.seq _ _=Data.cell v from e)]
  .show S.itOb c
  .show T.itOb d
 keep:=λi h t ⟨z,a,⟨x,y,b⟩,c,d⟩ k=>#[k _ (by simp) _ z,k _ (by simp) _ a,#[x,y,k _ (by simp) _ b],S.itAt c λo e=>k _ (by simp) o e,T.itAt d λo e=>k _ (by simp) o e]
 item:=by
  intro X F L M hc i g s I H E zB A #[z,a,#[u,v,b],c,d] #[xs,ys,x,y,B,C,ex,N]
  subst F L M
  let(sa,R,Q,c2):=S.sub (P:=X.prog) (w:=X.w) (i:=n) (S.of zB B)
  let(sb,SB,zA,d2):=T.sub (P:=X.prog) (w:=X.w) (i:=n+1) (T.of zB C)
  let l1:=(Cm.mp ex).1
  let l2:=(Cm.mp N).1
  apply bT (bV h1 h2) R SB z a b (Q _ c) (zA _ d) (λ_ _ x' y' t G Y hy' z' to' c' d' new sz kp=>?_) λhl=>absurd hl ∅
  let(x2,p,ru1):=Y
  let(y2,r,ru2):=hy'
  rw[ex]at p;cases p
  rw[N]at r;cases r
  apply#[_,rfl,wpAny_letOwnedTupleGo_zip z' λj z2 sb=>?_]
  let hlt:n+4<s.heap.objs.size:=BK z
  let l:∀q o,q≠n+4->t.get? q=Z o->j.get? q=Z o:=λq o f e=>sb.extBut _ _ f e
  let I1:Inv X g I (AI H s.heap.objs.size (.tup [x,y])) {s with heap:=j,toks:=G}:=by
   apply Inv.tok (s:={s with heap:=j}) ?_ G
   show zB.yielded A (λq o f e=>l q o (λz=>f (by simp[z])) (kp q o (λz=>f (by simp[z])) (λz=>f (by simp[z])) (λz=>f (by simp[z])) (λz=>f (by simp[z])) e)) (A4 _) #[show 2<=AB by ext,[x',y'],.cons ru1 (.cons ru2 .nil),#[_,l _ _ (by(show @Ne Nat _ _;show Bz (Ca hlt))) new,rfl,_,rfl]]
  apply#[.ref s.heap.objs.size,_,I1,rfl,#[_,x,y,rfl,zB.hok.fresh (A4 _),rfl,λzs hz=>S.inj zB hz B ▸ ex,λzs hz=>T.inj zB hz C ▸ N],#[z2,l _ _ (by(show @Ne Nat _ _;show W.Z.off_ne n 2 4 rfl)) (kp _ _ (by(show @Ne Nat _ _;show W.Z.off_ne n 2 4 rfl)) (by(show @Ne Nat _ _;show W.Z.off_ne n 2 3 rfl)) (by(show @Ne Nat _ _;lia)) (by(show @Ne Nat _ _;show W.Z.off_ne n 2 1 rfl)) a),#[x',y',l _ _ (by(show @Ne Nat _ _;show W.Z.off_ne n 3 4 rfl)) to'],S.itAt (c2 _ _ c') λo e=>l _ o (by(show @Ne Nat _ _;lia)) e,T.itAt (d2 _ _ d') λo e=>l _ o (by(show @Ne Nat _ _;lia)) e],λq f=>?_]
  rw[Zl]
  .show(A q f).1
  .erw[Bp,NZ,or_false]at f
   rcases f with rfl|rfl|rfl|rfl|rfl<;>(show @Ne Nat _ _;lia)
 done:=by
  intro X F L M hc i g s I H E zB A #[z,a,#[u,v,b],c,d] #[xs,ys,B,C,hl]
  subst F L M
  let(sa,R,Q,c2):=S.sub (P:=X.prog) (w:=X.w) (i:=n) (S.of zB B)
  let(sb,SB,zA,d2):=T.sub (P:=X.prog) (w:=X.w) (i:=n+1) (T.of zB C)
  show bT (bV h1 h2) R SB z a b (Q _ c) (zA _ d) (λz1 z2=>absurd hl ∅) λ_=>#[zB.ok.hd hc,λt G kp=>#[rfl,Inv.tok (s:={s with heap:=t}) (zB.turnedL A λq o f e=>kp q o (λz=>f (by simp[z])) (λz=>f (by simp[z])) (λz=>f (by simp[z])) (λz=>f (by simp[z])) e) G]]
 self:=λ_ _ _ _ _ ⟨z,_⟩ q=>wpAny_pyIter_zip z q
theorem uo:E4 "zip"=Z (.type "zip"):=by symm
@[simp]def GU:D->A8
  |.lst a=>Z a
  |.tup a=>Z a
  |.str s=>Z (s.cps.toList.map λc=>.str #[(T' [c])])
  |_=>J
theorem Ud{K:Ap}{M N:Fb}{H:Hp}{d:D}{v:V}(h:PJ K M N H d v)(e:GU d=Z xs):∃(S:AN) (vs:U V),v=S.v/\Ad K N H xs vs/\∀g f,Step M N g H f->S.sq K f vs:=by
 cases d with
 |lst k m=>
  cases m with
  |d=>cases e
  |i _ _=>cases e
  |l=>
  cases e;let(a,vs,j,b,hd):=h;apply#[.l a,vs,j,hd,λg f S=>?_];rcases b with⟨n,b⟩|b
  .show .inl<|b.step S (by rcases n with z|z;show .inl z;show .inr<|.inl z)
  .show b.sq
 |tup k=>
  cases e;let(a,vs,j,b,hd):=h;show#[.t a,vs,j,hd,λg f S=>b.step S]
 |str s=>
  cases e;apply#[.x s,Gv s,h,?_,λ_ _ _=>rfl];unfold Gv;generalize s.cps.toList=l;induction l with
  |nil=>show Ad.nil
  |cons c l o=>show Ad.cons (by erw[Ax]) o
 |_=>cases e
@[simp]def Fg(f g:AH):VE->A8:=λa=>match(f a).bind GU,(g a).bind GU with
  |some b,Z c=>Z (GV (λx y=>D.tup [x,y]) b c)
  |_,_=>J
theorem uq{K:Ap}{M N:Fb}{H:Hp}{S T:AN}{ys:U D}{us:U V}(h:Ad K N H xs us)(j:Ad K N H ys vs)(n:∀c b,Step M N c H b->S.sq K b us)(o:∀c b,Step M N c H b->T.sq K b vs):Mc K M N H (bU K S T) (GV (λx y=>D.tup [x,y]) xs ys):=λc b St i=>by
 let e:=n _ _ St;let f:=o _ _ St;apply#[λd a=>?_,λa=>#[us,vs,e,f,?_]]
 .rw[List.getElem?_zipWith]at a;cases ex:xs[i]? with|none=>rw[ex]at a;cases a|some x=>
   cases g:ys[i]? with|none=>rw[ex,g]at a;cases a|some y=>
    rw[ex,g]at a;cases a;let(u,k,q):=(Ad.step St _ _ h).get ex;let(v,l,r):=(Ad.step St _ _ j).get g;apply#[#[us,vs,u,v,e,f,k,l],λz C s=>?_];let(p,E,G,t,m,w,A,B):=s;have:=A us e;rw[k]at this;cases this;have:=B vs f;rw[l]at this;cases this;subst t w;show#[Yh m,NQ m<|Ad.cons q<|Ad.cons r Ad.nil]
 .let l1:=h.length;let F:=j.length;erw[List.length_zipWith]at a;lia
section
variable{M:Fb}{f g:AH}{a b:Expr}{p tpos:AC}
open J in
theorem ur {x1} (hg:Gl X "zip") (hm:X.mg "zip"=J) (E:JE X a (tQ X.K M H0 f)) (l:JE X b (tQ X.K M H0 g)) (Y:AK [a,b] X.env=[(O',Ar a X.env),(O',Ar b X.env)]:=by rfl) (c:AK [b] X.env=[(O',Ar b X.env)]:=by rfl) (G:AK [] X.env=[]:=by rfl):JI X (.Tuple elts x1 tpos) (.Call (.Name "zip" p) [a,b] [] pos) (tI X.K M H0 (Fg f g)):=#[have E:=E.h;let l:=l.h;by
 intro o s t H Q zA #[d,ds,R,e,q];unfold Fg at e;split at e
 .next xs ys ex y=>
  cases e;cases F:f d with|none=>rw[F]at ex;cases ex|some d1=>
   cases i:g d with|none=>rw[i]at y;cases y|some d2=>
    rw[F]at ex;rw[i]at y;apply Call_<|HK zA hg hm uo<|Nq (AZ ((Z4 E (Z4 l Bf (by rw[c,G])) (by rw[Y,c])) pos o s t H (λvs m=>∃S T u w,vs=[AN.v S,AN.v T]/\Ak H m/\Ad X.K (Nf M d t) m xs u/\Ad X.K (Nf M d t) m ys w/\(∀A n,Step M (Nf M d t) A m n->S.sq X.K n u)/\∀A n,Step M (Nf M d t) A m n->T.sq X.K n w) zA ?_) λu L ⟨vs,H1,x,r1,N⟩=>?_) (by rw[Y,c]) (by rw[c];rfl)
    .apply#[d,d1,R,F,λv1 H1 z1 N=>#[d,d2,R.st z1,i,λv2 m P q2=>?_]];let(S,u,e1,j,B):=Ud N ex;let(T,w,e2,k,C):=Ud q2 y;show#[S,T,u,w,by rw[e1,e2],z1.trans P,j.same P,k,λA n St=>B _ _<|(Step.of_same P).trans St,C]
    .let(S,T,us',w,rfl,z,j,k,B,C):=N;cases r1 with
     |cons r W=>
      cases W with
      |cons r' W=>
       cases W;let o1:=S.of x<|B _ _ Step.refl;let o2:=T.of x<|C _ _ Step.refl;apply ul r r' o1 o2 λh' a1 a2 a3 a4 a5 kp=>wpAny_pyIter_zip a1 ?_;apply#[_,_,_,_,H1,rfl,x.kept (t':=L.toks) kp,um S T L.heap.objs.size (S.lt o1)<|T.lt o2,⟨a1,a2,⟨_,_,a3⟩,a4,a5⟩,λb l=>?_,q _ _ z<|uq j k B C];let hl:L.heap.objs.size<=b:=by
        erw[Bp,NZ,or_false]at l;rcases l with rfl|rfl|rfl|rfl|rfl<;>(show @LE.le Nat _ _ _;lia)
       show x.fpOk hl<|x.hok.fresh hl
 .cases e]
end
open PySem.W
abbrev ZL:=U (KT×U D)
def Gw:ZL->KT->D->ZL
 |[],k,d=>[(k,[d])]
 |t::r,k,d=>if t.1=k then(t.1,t.2++[d])::r else t::Gw r k d
def Jb(a:ZL):Bv:=a.map λz=>(z.1,.lst z.2)
def Ue(k:KT)(a:ZL):Bool:=a.all λz=>Ev z.1==Ev k
def Qn(b c:AH)(ρ:VE)(a:ZL):O ZL:=match b ρ,c ρ with
 |some y,Z d=>match Dl y with
  |some k=>if Ue k a=J' then gd (a.length<AB/\∀z∈a,z.2.length<AB) (Z (Gw a k d))else J
  |none=>J
 |_,_=>J
def Jc(k:Nat)(b:D->VE->O VE)(g h:AH):U D->VE->ZL->O (VE×ZL)
 |[],c,e=>Z (c,e)
 |d::i,c,e=>match b d c with
  |some a=>match a[k]?,MF a with
   |some .no,J'=>(Qn g h a e).bind λf=>Jc k b g h i a f
   |_,_=>J
  |none=>J
def Qo(k:Nat)(f:VE->A8)(b:D->VE->O VE)(a c:AH)(ρ:VE):Dg:=match ρ[k]?,f ρ with
 |some (.own [] .d J),Z e=>if MF ρ=J' then(match Jc k b a c e (ρ.set k .no) []with
  |some p=>.next (p.1.set k (.own (Zb (Jb p.2)) .d))
  |none=>.fail)else .fail
 |_,_=>.fail
structure Q4 where
 k:KT
 kv:V
 b:Ac
 z:List D
def q3(q:Q4):T3:=(q.k,q.kv,.ref q.b)
def qz(q:Q4):KT×U D:=(q.k,q.z)
def GX:U Q4->KT->D->U Q4
 |[],_,_=>[]
 |q::r,k,d=>if q.k=k then{q with z:=q.z++[d]}::r else q::GX r k d
theorem bW(k:KT)(d:D):∀qs:U Q4,(GX qs k d).map Q4.b=qs.map Q4.b/\(GX qs k d).map Q4.k=qs.map Q4.k/\(GX qs k d).map q3=qs.map q3
 |[]=>#[rfl,rfl,rfl]
 |q::r=>by
  let(a,c,e):=bW k d r;unfold GX;split
  .show#[rfl,rfl,rfl]
  .erw[AU,a,c,e];show#[trivial,trivial,trivial]
theorem Uf{k:KT}{d:D}:∀{qs:U Q4},k∈qs.map Q4.k->(GX qs k d).map qz=Gw (qs.map qz) k d
 |[],h=>nomatch h
 |q::r,h=>by
  unfold GX;split
  .grind [Gw,qz]
  .next e=>
   have:k∈r.map Q4.k:=by
    grind
   erw[AU,Gw];rw[Uf this,if_neg (show ¬ (qz q).1=k from e)]
theorem bX{k:KT}{d:D}:∀{qs:U Q4},k∉qs.map Q4.k->Gw (qs.map qz) k d=qs.map qz++[(k,[d])]
 |[],_=>rfl
 |q::r,h=>by
  erw[AU,Bp,not_or]at h;erw[AU,Gw,F3];rw[if_neg (show ¬ (qz q).1=k from λz=>h.1 z.symm),bX h.2]
theorem bY{k:KT}{d:D}:∀{qs:U Q4},(qs.map Q4.k).Nodup->∀c∈GX qs k d,(c∈qs/\c.k≠k)\/∃q∈qs,q.k=k/\c={q with z:=q.z++[d]}
 |[],_,_,h=>nomatch h
 |q::r,nd,c,h=>by
  erw[AU,Gk]at nd;unfold GX at h;split at h
  .next e=>
   rcases Bp.mp h with z|z
   .show .inr #[q,Ba,e,z]
   .show .inl #[Bg _ z,λf=>nd.1 (by rw[e,<- f];show Fh z)]
  .next e=>
   rcases Bp.mp h with z|z
   .rw[z];show .inl #[Ba,e]
   .rcases bY nd.2 c z with⟨a,b⟩|⟨g,a,b⟩
    .show .inl #[Bg _ a,b]
    .show .inr #[g,Bg _ a,b]
theorem DF{k:KT}:∀{qs:U Q4},(∀v,Z9 (qs.map q3) k=Z v->∃q∈qs,q.k=k/\v=.ref q.b)/\(Z9 (qs.map q3) k=J->k∉qs.map Q4.k)
 |[]=>#[λ_ h=>(nomatch h),λ_ h=>nomatch h]
 |q::r=>by
  let(c,i2):=DF (k:=k) (qs:=r);erw[AU,Z9];apply#[λv h=>?_,λh=>?_]
  .split at h
   .next e=>cases h;show#[q,Ba,e,rfl]
   .let(d,a,b):=c v h;show#[d,Bg _ a,b]
  .split at h
   .cases h
   .next e=>show λz=>(Bp.mp z).elim (λz=>e z.symm) (i2 h)
theorem BV.step{K:Ap}{M N b:Fb}{H:Hp}(S:Step M N b H H'){k:KT}{v:V}(h:BV K H k v):BV K H' k v:=by
 cases k with
 | «at» a=>show h
 |tup l=>let(p,e,q):=h;show#[p,e,q.step S]
theorem ut{K:Ap}{N:Fb}{H:Hp}{k:KT}{v:V}(h:BV K H k v):Ax K N H (kD k) v:=by
 let at_:∀(a:At),Ax K N H (aD a) (Fk a):=λa=>by cases a<;>erw[aD,Fk,Ax]
 cases k with| «at» a=>rw[show v=Fk a from h];show at_ a|tup l=>
  let(p,e,q):=h;apply#[p,_,e,q,?_];clear q;induction l with
  |nil=>show Ad.nil
  |cons a l b=>show Ad.cons (at_ a) b
theorem Ug{d g:Type}{f:d->g}:∀{l:U d},(l.map f).Nodup->∀{x y:d},x∈l->y∈l->f x=f y->x=y
 |[],_,_,_,h,_,_=>nomatch h
 |c::l,nd,x,y,i,j,e=>by
  erw[AU,Gk]at nd;rcases Bp.mp i with a|a<;>rcases Bp.mp j with b|b
  .rw[a,b]
  .rw[a]at e;show absurd (e ▸ Fh b) nd.1
  .rw[b]at e;show absurd (e ▸ Fh a) nd.1
  .show Ug nd.2 a b e
structure BE(K:Ap)(M:Fb)(H0:Hp)(k:Nat)(a:Ac)(ρ:VE)(qs:List Q4)(I:St)(H:Hp):Prop where
 rel:Bh K (M3 M a (qs.map Q4.b)) H0 ρ I H
 pin:ρ[k]?=Z .no/\I[k]?=Z (Z (.ref a))
 out:H a=Z (D4 (qs.map q3))
 ins:∀q∈qs,BV K H q.k q.kv/\∃vs,H q.b=Z (.lst vs)/\Ad K (Nf (M3 M a (qs.map Q4.b)) ρ I) H q.z vs
 nd:(qs.map Q4.b).Nodup
 ne:a∉qs.map Q4.b
 kn:(qs.map Q4.k).Nodup
 fr:∀y,y=a\/y∈qs.map Q4.b->H0 y=J/\¬ M y
 dp:MF ρ=J'
section
variable{K:Ap}{M:Fb}{H:Hp}{k:Nat}{ρ':VE}{qs:U Q4}{σ':St}
theorem BE.over(R:BE K M H0 k a ρ qs I H)(d:Bh K (M3 M a (qs.map Q4.b)) H0 ρ' σ' H')(S:Step (M3 M a (qs.map Q4.b)) (Nf (M3 M a (qs.map Q4.b)) ρ I) (Nf (M3 M a (qs.map Q4.b)) ρ' σ') H H')(p:ρ'[k]?=Z .no/\σ'[k]?=Z (Z (.ref a)))(dp:MF ρ'=J'):BE K M H0 k a ρ' qs σ' H':=#[d,p,S.kp _ _ R.out<|.inr<|.inl<|.inr<|.inl rfl,λq c=>by
  let(e,f,g,h):=R.ins q c;show#[e.step S,f,S.kp _ _ g<|.inr<|.inl<|.inr<|.inr<|Fh c,Ad.step S _ _ h],R.nd,R.ne,R.kn,R.fr,dp]
theorem BE.st(R:BE K M H0 k a ρ qs I H)(s:Ak H H'):BE K M H0 k a ρ qs I H':=R.over (R.rel.st s) (Step.of_same s) R.pin R.dp
theorem BE.chg{c:Ac}{u u':HO}(R:BE K M H0 k a ρ qs I H)(l:c=a\/c∈qs.map Q4.b)(t:H c=Z u)(v:F2 u=J'):Bh K (M3 M a (qs.map Q4.b)) H0 ρ I (AI H c u')/\Step M (Nf (M3 M a (qs.map Q4.b)) ρ I) (Nf (M3 M a (qs.map Q4.b)) ρ I) H (AI H c u'):=by
 let(r,A):=R.fr c l;let S:Step (λy=>M3 M a (qs.map Q4.b) y/\y≠c) (Nf (M3 M a<|qs.map Q4.b) ρ I) (Nf (M3 M a<|qs.map Q4.b) ρ I) H (AI H c u'):=#[λd o e z=>by
  by_cases hd:d=c
  .subst hd;rcases z with z|z|z
   .show absurd (.inl<|.inr l) z
   .show absurd rfl z.2
   .rw[t]at e;cases e;rw[v]at z;cases z
  .rw[Zl hd];show e,λ_ h=>.inl h]
 apply#[#[R.rel.len,λd o e=>?_,λd h=>?_,λj s e=>?_,R.rel.inj],#[λd o e z=>S.kp d o e<|z.imp id<|Or.imp (λm=>#[.inl m,λw=>A<|w ▸ m]) id,S.nw]]
 .have:d≠c:=λz=>by rw[z,r]at e;cases e
  rw[Zl this];show R.rel.same d o e
 .by_cases hd:d=c
  .rw[hd,ZN];show λz=>nomatch z
  .rw[Zl hd];show R.rel.mh d h
 .let q:=R.rel.slot j s e;cases s with
  |no=>trivial
  |val d=>let(w,g,f):=q;show#[w,g,Ax.step S _ _ f]
  |own B E F=>
   let(d,n,g,f,i,p,G):=q;have:d≠c:=λz=>i<|z ▸ .inr l;show⟨d,n,g,f,i,by rw[Zl this];show p,Ad.step S _ _ G⟩
  |lent B E=>
   let(d,n,g,f,i,p):=q;have:d≠c:=λz=>f.2 (by rw[z];show r);show#[d,n,g,f,i.step S<|.inr<|.inl ⟨f.1,this⟩,Ad.step S _ _ p]
  |exc d=>let(x,C,g,f,i):=q;show#[x,C,g,f,S.kp _ _ i<|.inr<|.inr rfl]
theorem BE.app{q:Q4}{d:D}{v:V}(R:BE K M H0 k a ρ qs I H)(f:q∈qs)(m:H q.b=Z (.lst vs))(hd:Ax K (Nf (M3 M a (qs.map Q4.b)) ρ I) H d v):BE K M H0 k a ρ (GX qs q.k d) I (AI H q.b (.lst (vs++[v])))/\Step M (Nf (M3 M a (qs.map Q4.b)) ρ I) (Nf (M3 M a ((GX qs q.k d).map Q4.b)) ρ I) H (AI H q.b (.lst (vs++[v]))):=by
 let(b1,p,r):=bW q.k d qs;let(s,c):=R.chg (u':=.lst<|vs++[v]) (.inr<|Fh f) m rfl;rw[b1];apply⟨⟨by rw[b1];show s,R.pin,by rw[r,Zl (show a≠q.b from λe=>R.ne<|e ▸ (Fh f))];show R.out,λg i=>?_,by rw[b1];show R.nd,by rw[b1];show R.ne,by rw[p];show R.kn,by rw[b1];show R.fr,R.dp⟩,c⟩;rw[b1];rcases bY R.kn g i with⟨m1,m2⟩|⟨n,m1,m2,t⟩
 .let(j,o,h,l):=R.ins g m1;have:g.b≠q.b:=λe=>m2 (by rw[Ug R.nd m1 f e]);show#[j.step c,o,by rw[Zl this];show h,Ad.step c _ _ l]
 .let u:=(λg i e=>Ug R.kn i f e) n m1 m2;subst u t;let(j,o,h,l):=R.ins n m1;rw[m]at h;cases h;show#[j.step c,_,ZN,Ad.step c _ _<|l.append<|Ad.cons hd Ad.nil]
theorem BE.new{g:KT}{w:V}{p:Ac}(R:BE K M H0 k a ρ qs I H)(n:H p=J)(hk:BV K H g w)(hn:g∉qs.map Q4.k):BE K M H0 k a ρ (qs++[(#[g,w,p,[]]:Q4)]) I (AI (AI H p (.lst [])) a (D4 (qs.map q3++[(g,w,.ref p)])))/\Step M (Nf (M3 M a (qs.map Q4.b)) ρ I) (Nf (M3 M a ((qs++[(#[g,w,p,[]]:Q4)]).map Q4.b)) ρ I) H (AI (AI H p (.lst [])) a (D4 (qs.map q3++[(g,w,.ref p)]))):=by
 let G:p≠a:=λe=>by rw[e,R.out]at n;cases n
 let L:p∉qs.map Q4.b:=λh=>by
  let(q,hq,e):=Bi.mp h;let(_,vs,f,_):=R.ins q hq;grind
 let A:Ak H (AI H p<|.lst []):=ZO n;let S:=R.st A;let(r,S1):=S.chg (u':=D4<|qs.map q3++[(g,w,.ref p)]) (.inl rfl) S.out rfl;generalize B:AI (AI H p<|.lst []) a (D4<|qs.map q3++[(g,w,.ref p)])=Y at *;let ep:Y p=Z (.lst []):=by rw[<- B,Zl G,ZN]
 let mb:(qs++[(#[g,w,p,[]]:Q4)]).map Q4.b=qs.map Q4.b++[p]:=by simp
 let nf:∀y,Nf (M3 M a<|qs.map Q4.b++[p]) ρ I y->Nf (M3 M a<|qs.map Q4.b) ρ I y\/y=p:=by
  rintro y ((h|h|h)|h)
  .show .inl<|.inl<|.inl h
  .show .inl<|.inl<|.inr<|.inl h
  .rcases Cj.mp h with h|h
   .show .inl<|.inl<|.inr<|.inr h
   .show .inr<|Cw.mp h
  .show .inl<|.inr h
 let t:Step M (Nf (M3 M a<|qs.map Q4.b) ρ I) (Nf (M3 M a<|qs.map Q4.b++[p]) ρ I) H Y:=#[λc o e z=>S1.kp c o (A c o e) z,λy h=>(nf y h).imp id λ(z:y=p)=>by rw[z];show n];rw[mb];apply#[#[?_,R.pin,?_,λq' C=>?_,?_,?_,?_,λy l=>?_,R.dp],t]
 .rw[mb];apply#[r.len,r.same,λy l=>?_,λj s e=>?_,r.inj]
  .rcases l with h|h|h
   .show r.mh y<|.inl h
   .show r.mh y<|.inr<|.inl h
   .rcases Cj.mp h with h|h
    .show r.mh y<|.inr<|.inr h
    .rw[Cw.mp h,ep];show λz=>nomatch z
  .let N:=R.rel.slot j s e;let q:=r.slot j s e;cases s with
   |no=>trivial
   |val d=>let(w,E,i):=N;show#[w,E,Ax.step t _ _ i]
   |own xs fl oo=>
    let(c,W,E,i,f,u,h4):=N;let(F,P,v,_,Q,h3',_):=q;let ec:F=c:=by rw[E]at v;exists v.symm
    subst ec;apply#[F,W,E,i,λz=>?_,?_,Ad.step t _ _ h4]
    .rcases z with z|z|z
     .show f<|.inl z
     .show f<|.inr<|.inl z
     .rcases Cj.mp z with z|z
      .show f<|.inr<|.inr z
      .rw[Cw.mp z,n]at u;cases u
    .let n1:F≠a:=λz=>f<|.inr<|.inl z;rw[<- B,Zl n1];show A _ _ u
   |lent xs fl=>
    let(c,W,E,i,f,u):=N;let(F,P,v,_,Q,_):=q;apply#[c,W,E,#[i.1.imp id<|Or.imp id λh=>Ks _ h,i.2],?_,Ad.step t _ _ u];let n1:c≠a:=λz=>i.2 (by rw[z];show(R.fr a<|.inl rfl).1);rcases f with f|⟨o,f⟩
    .show .inl (by rw[<- B,Zl n1];show A _ _ f)
    .show .inr #[o,by rw[<- B,Zl n1];show A _ _ f]
   |exc c=>show q
 .rw[<- B,ZN];simp[q3]
 .rw[mb];rcases Cj.mp C with C|C
  .let(i,W,f,u):=R.ins q' C;show#[i.step t,W,by rw[<- B,Zl (show q'.b≠a from λe=>R.ne<|e ▸ Fh C)];show A _ _ f,Ad.step t _ _ u]
  .rw[Cw.mp C];show#[hk.step t,[],ep,Ad.nil]
 .rw[mb];show JV.mpr #[R.nd,by simp,λx T y l=>by rw[Cw.mp l];show λz=>L<|z ▸ T]
 .rw[mb];intro h;rcases Cj.mp h with h|h
  .show R.ne h
  .show G (Cw.mp h).symm
 .have:(qs++[(#[g,w,p,[]]:Q4)]).map Q4.k=qs.map Q4.k++[g]:=by simp
  rw[this];show JV.mpr #[R.kn,by simp,λx T y l=>by rw[Cw.mp l];show λz=>hn<|z ▸ T]
 .rw[mb]at l;rcases l with h|h
  .show R.fr y<|.inl h
  .rcases Cj.mp h with h|h
   .show R.fr y<|.inr h
   .rw[Cw.mp h];show#[R.rel.same.free n,λm=>(R.rel.fresh n)<|.inl<|.inl m]
end
section
variable{K:Ap}{M:Fb}{H:Hp}{k:Nat}{qs:U Q4}
theorem BE.open(R:Bh K M H0 ρ I H)(n:ρ[k]?=Z (.own [] .d J))(o:I[k]?=Z (Z (.ref a)))(dp:MF ρ=J'):BE K M H0 k a (ρ.set k .no) [] I H/\Nf (M3 M a []) (ρ.set k .no) I=Nf M ρ I:=by
 let(G,vs,l,(W,_),F,C,L):=R.slot k _ n;rw[o]at l;let N:a=G:=by exists l
 subst N;subst L;let t:∀{i b f g},(ρ.set k .no)[i]?=Z (Sl.own b f g)->ρ[i]?=Z (Sl.own b f g)/\i≠k:=λ{i b f g} z=>by
  grind
 let E:Nf (M3 M a []) (ρ.set k .no) I=Nf M ρ I:=by
  funext y;apply propext #[?_,?_]
  .rintro((h|h|h)|⟨i,b,f,g,p,m⟩)
   .show .inl h
   .show .inr #[k,[],.d,J,n,by rw[h];show o]
   .cases h
   .show .inr #[i,b,f,g,(t p).1,m]
  .rintro(h|⟨i,b,f,g,p,m⟩)
   .show .inl<|.inl h
   .by_cases e:k=i
    .subst e;rw[o]at m;cases m;show .inl<|.inr<|.inl rfl
    .show .inr #[i,b,f,g,by rw[Dy e];show p,m]
 apply#[#[#[by rw[Jw];show R.len,R.same,λy u=>?_,λj s e=>?_,λi j b P f v g w c p m Q T=>R.inj i j b P f v g w c (t p).1 (t m).1 Q T],#[ER<|(Cm.mp n).1,o],C,λq h=>(nomatch h),.nil,λh=>(nomatch h),.nil,λy u=>?_,?_],E]
 .rcases u with h|h|h
  .show R.mh y h
  .rw[h,C];show λz=>nomatch z
  .cases h
 .change SY K (M3 M a []) (Nf (M3 M a []) (ρ.set k .no) I) H0 H s _
  rw[E];by_cases x:k=j
  .subst x;rw[ER<|(Cm.mp n).1]at e;cases e;trivial
  .rw[Dy x]at e;let q:=R.slot j s e;cases s with
   |own b f g=>
    let(c,A,l,r,B,S):=q;apply#[c,A,l,r,λz=>?_,S];rcases z with z|z|z
    .show B z
    .show x<|R.inj k j [] b .d f J g a n e o (by rw[<- z];show ZJ l)
    .cases z
   |lent b f=>let(c,A,l,r,B):=q;show#[c,A,l,#[.inl r.1,r.2],B]
   |no=>trivial
   |val d=>show q
   |exc c=>show q
 .rcases u with h|h
  .rw[h];show#[W,F]
  .cases h
 .apply DK.mpr λs Y=>?_;rcases List.mem_or_eq_of_mem_set Y with h|h
  .show DK.mp dp s h
  .rw[h];rfl
theorem BE.pd{N:Fb}(d:∀q∈qs,¬ N q.b)(h:∀q∈qs,BV K H q.k q.kv/\∃vs,H q.b=Z (.lst vs)/\Ad K N H q.z vs):PD K N H (Jb (qs.map qz)) (qs.map q3):=by
 induction qs with|nil=>show .nil|cons q r e=>
  let(f,vs,g,i):=h q Ba;apply .cons #[rfl,ut f,?_]<|e (λa c=>d a<|Bg _ c) λa c=>h a<|Bg _ c;show⟨q.b,vs,rfl,.of (d q Ba) g,i⟩
theorem BE.close(R:BE K M H0 k a ρ qs I H):Bh K M H0 (ρ.set k (.own (Zb (Jb (qs.map qz))) .d)) I H/\∀y,Nf M (ρ.set k (.own (Zb (Jb (qs.map qz))) .d)) I y->Nf (M3 M a (qs.map Q4.b)) ρ I y:=by
 let x:∀{i g l n},(ρ.set k<|.own (Zb<|Jb<|qs.map qz) .d)[i]?=Z (Sl.own g l n)->i=k\/(i≠k/\ρ[i]?=Z (Sl.own g l n)):=λ{i g l n} z=>by
  grind
 let t:∀y,Nf M (ρ.set k<|.own (Zb<|Jb<|qs.map qz) .d) I y->Nf (M3 M a<|qs.map Q4.b) ρ I y/\y∉qs.map Q4.b:=by
  rintro y (h|⟨i,g,l,n,A,u⟩)
  .show#[.inl<|.inl h,λm=>(R.fr y<|.inr m).2 h]
  .rcases x A with e|⟨e,w⟩
   .subst e;rw[R.pin.2]at u;cases u;show#[.inl<|.inr<|.inl rfl,R.ne]
   .apply#[.inr #[i,g,l,n,w,u],λm=>?_];let(c,v,f,_,p,_):=R.rel.slot i _ w;rw[u]at f;have:c=y:=by exists f.symm
    show p<|this ▸ .inr (.inr m)
 apply#[#[by rw[Jw];show R.rel.len,R.rel.same,λy h=>R.rel.mh y<|.inl h,λj s e=>?_,λi j g Y l B n C c A u E G=>?_],λy h=>(t y h).1]
 .by_cases P:k=j
  .subst P;rw[ER<|(Cm.mp R.pin.1).1]at e;cases e;let Q:=BE.pd (N:=Nf M (ρ.set k<|.own (Zb<|Jb<|qs.map qz) .d) I) (λq W h=>(t _ h).2<|Fh W) λq W=>by
    let(o,vs,p,r):=R.ins q W;show#[o,vs,p,r.nw<|λy h=>.inl (t y h).1]
   show#[a,DL<|qs.map q3,by rw[R.pin.2];rfl,⟨(R.fr a<|.inl rfl).1,λ_ z=>(nomatch z)⟩,(R.fr a<|.inl rfl).2,by rw[JY Q];show R.out,Q.flat]
  .rw[Dy P]at e;let q:=R.rel.slot j s e;cases s with
   |no=>trivial
   |val d=>let(w,f,o):=q;show#[w,f,o.nw<|λy h=>.inl (t y h).1]
   |own g l n=>let(c,v,f,o,p,r,F):=q;show#[c,v,f,o,λz=>p<|.inl z,r,F.nw<|λy h=>.inl (t y h).1]
   |lent g l=>let(c,v,f,o,p,r):=q;show#[c,v,f,#[o.1.elim id λhc=>absurd (R.fr c hc).1 o.2,o.2],p,r.nw<|λy h=>.inl (t y h).1]
   |exc c=>show q
 .let no:∀{i g l n},ρ[i]?=Z (Sl.own g l n)->I[i]?=Z (Z<|V.ref c)->I[k]?≠Z (Z<|V.ref c):=λ{i g l n} o p r=>by
   rw[R.pin.2]at r;cases r;let(c',v,f,_,F,_):=R.rel.slot i _ o;rw[p]at f;have:c'=a:=by exists f.symm
   show F<|this ▸ .inr (.inl rfl)
  rcases x A with f|⟨f,T⟩<;>rcases x u with L|⟨L,S⟩
  .rw[f,L]
  .subst f;show absurd E<|no S G
  .subst L;show absurd G<|no T E
  .show R.rel.inj i j g Y l B n C c T S E G
variable{f:VE->A8}{b:D->VE->O VE}{fk fv:AH}{x:Af}{lp vp a1 c1 a2 c2 ep:AC}
open J in
theorem uu(hu:X.A.units+64<Av)(hp:PassesOwn (Ae X.prog X.w) X.A X.env X.xe)(hc:X.calm=J')(hi:JI X tg iter (tI X.K M H0 f))(hg:∀M,JG X tg (tG X.K M H0 ws b))(hek:∀M,JE X ek (tP X.K M H0 fk))(hev:∀M,JE X ev (tD X.K M H0 fv))(hw:k∉ws:=by ext) (hN:NV X k x:=by show Ec) (hbase:E8 (.Name x vp) "setdefault" X.env (Ar (.Name x vp) X.env)=Ar (.Name x vp) X.env:=by rfl) (hfew:((AE c1 (AK [ek,.List [] lp] X.env)).all (λx=>!x.1)&&(FQ c1 (FR [] X.env)).all (λx=>x.1.isSome) && decide ([ek,.List [] lp].length+([]:U DA).length+(if([]:U DA).isEmpty then 0 else 1)<30))=J':=by rfl) (hline:(a1.endLine==c1.line)=J':=by rfl) (hst:AK [ek,.List [] lp] X.env=(O',Ar ek X.env)::AK [.List [] lp] X.env:=by show D2 rfl) (hst2:AK [.List [] lp] X.env=(O',Ar (.List [] lp) X.env)::AK [] X.env:=by show D2 rfl) (hpl:(AE c1 (AK [.List [] lp] X.env)).any (·.1)=O':=by rfl) (W:E8 (.Call (.Attribute (.Name x vp) "setdefault" a1) [ek,.List [] lp] [] c1) "append" X.env (Ar (.Call (.Attribute (.Name x vp) "setdefault" a1) [ek,.List [] lp] [] c1) X.env)=Ar (.Call (.Attribute (.Name x vp) "setdefault" a1) [ek,.List [] lp] [] c1) X.env:=by rfl) (hfew2:((AE c2 (AK [ev] X.env)).all (λx=>!x.1)&&(FQ c2 (FR [] X.env)).all (λx=>x.1.isSome) && decide ([ev].length+([]:U DA).length+(if([]:U DA).isEmpty then 0 else 1)<30))=J':=by rfl) (Y:(a2.endLine==c2.line)=J':=by rfl) (hst3:AK [ev] X.env=(O',Ar ev X.env)::AK [] X.env:=by show D2 rfl) (hpl2:(AE c2 (AK [] X.env)).any (·.1)=O':=by rfl) (hsw:DW (.Call (.Attribute (.Call (.Attribute (.Name x vp) "setdefault" a1) [ek,.List [] lp] [] c1) "append" a2) [ev] [] c2) J ep.line X.env=Al O':=by rfl) (hs:∀x,EF iter X.env x=Al x:=by intro _;rfl):JS X (.For tg iter [.Expr (.Call (.Attribute (.Call (.Attribute (.Name x vp) "setdefault" a1) [ek,.List [] lp] [] c1) "append" a2) [ev] [] c2) ep] [] pos) (tS X.K M H0 (Qo k f b fk fv)):=#[by
 let pb:=So (Nm (pos:=ep) (HR (apos:=a2) (cpos:=c2) Mb Yx Yy SM
  (HR (apos:=a1) (cpos:=c1) aQ Tw PySem.F.type_dict_setdefault (aC hu) (FZ (pos:=vp) hN) (Z4 (show PE X ek (λI H Q=>∃M,tP X.K M H0 fk I H Q)from λB s I H Q zA ⟨M,z⟩=>(hek M).h B s I H Q zA z) (Z4 (XF (pos:=lp) Bf) Bf hst2) hst) hbase hfew hline hst hpl) (Z4 (show PE X ev (λI H Q=>∃M,tD X.K M H0 fv I H Q)from λB s I H Q zA ⟨M,z⟩=>(hev M).h B s I H Q zA z) Bf hst3) W hfew2 Y hst3 hpl2) hsw) (Er (X:=X))
 refine(Pn hp hc hi.h (show PG X tg (λv I H Q=>∃M,tG X.K M H0 ws b v I H Q)from λB s I H v u Q zA r ⟨M,h⟩=>(hg M).h B s I H v u Q zA r h) pb hs).mono λD I H ⟨ρ,R,q⟩=>?_;unfold Qo at q;split at q
 .next G hk hf=>
  split at q
  .next dp=>
   split at q
   .next pr hfor=>
    apply#[ρ,G,R,hf,λP H1 s1 ok=>?_];let(a,vs,e1,_):=(R.st s1).slot k _ hk;let(G0,en):=BE.open (R.st s1) hk (ZJ e1) dp;apply#[λi m σi Hi=>m=G.length-i/\i<=G.length/\∃d j,BE X.K M H0 k a d j σi Hi/\Step M (Nf M ρ I) (Nf (M3 M a<|j.map Q4.b) d σi) H1 Hi/\Jc k b fk fv (G.drop i) d (j.map qz)=Z pr,#[G.length,by simp,ET _,_,[],G0,by rw[<- en];show Step.refl,hfor],?_];intro i m σi Hi zQ;let(rfl,hle,d,j,Ri,Si,fi):=zQ;let(ok1,ok2):=ok _ _ Si i;by_cases S:i<G.length
    .let(go,y):=ok1 G[i]<|Ch S;rw[HV S]at fi;erw[Jc]at fi;split at fi
     .next C hb=>
      split at fi
      .next h1k h1d=>
       let(zs',g,fi):=Cc.mp fi;apply .inr #[go,λσ' H'=>i+1<=G.length/\∃d j,BE X.K M H0 k a d j σ' H'/\Step M (Nf M ρ I) (Nf (M3 M a<|j.map Q4.b) d σ') H1 H'/\Jc k b fk fv (G.drop<|i+1) d (j.map qz)=Z pr,λσ' H' z=>#[G.length-(i+1),by show Nat.sub_succ_lt_self G.length i S,rfl,z],λv H' yl=>?_];let(s3,hd):=y v H' yl;let R3:=Ri.st s3;apply#[_,d,G[i],C,R3.rel,hd,hb,λL Rb Sb fx=>?_];let R4:BE X.K M H0 k a C j L H':=R3.over Rb Sb #[h1k,by rw[fx k hw];show R3.pin.2] h1d;let S4:Step M (Nf M ρ I) (Nf (M3 M a<|j.map Q4.b) C L) H1 H':=Si.trans<|(Step.of_same s3).trans ⟨λc o e z=>Sb.kp c o e<|z.imp id<|Or.imp .inl id,Sb.nw⟩;unfold Qn at g;split at g
       .next yk dv hfk hfv=>
        split at g
        .next E hkt=>
         split at g
         .next hom=>
          let((hl1,hl2),e'):=PP g;cases e';apply#[.ref a,R4.pin.2,.inr<|.inr ⟨rfl,_,_,.inl R4.out⟩,M3 M a<|j.map Q4.b,C,yk,R4.rel,hfk,λw H5 s5 hw5=>#[ET _,λp hp5=>?_]];let R5:=R4.st s5;rw[IL hkt]at hw5;let homk:H9 E (j.map q3):=by
           have:=DK.mp hom;cases E with
           | «at» u=>
            intro t ht;let(T,n,rfl):=Bi.mp ht;have:=this (qz T)<|Fh n;cases hq:T.k with
            | «at» v=>show#[v,by rw[<- hq];rfl]
            |tup l=>simp[qz,hq,Ev]at this
           |tup u=>
            intro t ht;let(T,n,rfl):=Bi.mp ht;have:=this (qz T)<|Fh n;cases hq:T.k with
            | «at» v=>simp[qz,hq,Ev]at this
            |tup l=>show#[l,by rw[<- hq];rfl]
          let s6:Ak H5 (AI H5 p<|.lst []):=ZO hp5;let R6:=R5.st s6;let fin:∀(q:Q4) (qj:U Q4) (H6:Hp),q∈qj->q.k=E->BE X.K M H0 k a C qj L H6->Step M (Nf M ρ I) (Nf (M3 M a<|qj.map Q4.b) C L) H1 H6->(GX qj E dv).map qz=Gw (j.map qz) E dv->q.z.length<AB ->
            Pw X.K "list" (.ref q.b) H6/\∃M',tD X.K M' H0 fv L H6 λv H7=>∃l xs y,(V.ref q.b=.ref l/\[v]=[y]/\H7 l=Z (.lst xs)/\xs.length<AB/\(i+1<=G.length/\∃d j,BE X.K M H0 k a d j L (AI H7 l<|.lst<|xs++[y])/\Step M (Nf M ρ I) (Nf (M3 M a<|j.map Q4.b) d L) H1 (AI H7 l<|.lst<|xs++[y])/\Jc k b fk fv (G.drop<|i+1) d (j.map qz)=Z pr)):=λq qj H6 hq hqk R6 S6 hz hzl=>by
           let(_,us,hus,hdl):=R6.ins q hq;apply#[.inl #[rfl,us,.inl<|.inl hus],_,C,dv,R6.rel,hfv,λv H7 s7 hv7=>?_];let(R8,S8):=(R6.st s7).app hq (s7 _ _ hus) hv7;apply#[q.b,us,v,rfl,rfl,s7 _ _ hus,by rw[<- hdl.length];show hzl,S,C,_,R8,S6.trans<|(Step.of_same s7).trans S8,?_];rw[hqk,hz];show fi
          apply#[a,j.map q3,E,w,.ref p,rfl,rfl,by rw[Zl<|Bz (λe=>by rw[e,R5.out]at hp5;cases hp5)];show R5.out,λt ht=>?_,homk,(Ia<|Hx hw5).step<|Step.of_same (M:=M) (N:=M) s6,by simpa using hl1,λu hu'=>?_,λhn=>?_]
          .let(T,n,rfl):=Bi.mp ht;show(R6.ins T n).1
          .let(T,n,hk0,rfl):=DF.1 u hu';show fin T j _ n hk0 R6 (S4.trans<|Step.of_same<|s5.trans s6) (Uf<|hk0 ▸ Fh n)<|hl2 (qz T)<|Fh n
          .let(R9,S9):=R5.new hp5 (Ia<|Hx hw5)<|DF.2 hn;rw[show Eh (j.map q3) E w (.ref p)=j.map q3++[(E,w,.ref p)] by unfold Eh;rw[hn];rfl];apply fin #[E,w,p,[]] (j++[#[E,w,p,[]]]) _ (De _ Ba) rfl R9 ((S4.trans<|Step.of_same s5).trans S9) ?_ (by rw[HN];simp);rw[Uf (show E∈(j++[(⟨E,w,p,[]⟩:Q4)]).map Q4.k by simp),DM,bX<|DF.2 hn];have:∀{l:U Q4},E∉l.map Q4.k->Gw (l.map qz++[(E,[])]) E dv=l.map qz++[(E,[dv])]:=by
            intro l;induction l with|nil=>intro _;simp[Gw]|cons q r ih=>
             intro h;erw[AU,Bp,not_or]at h;erw[AU,F3,Gw];rw[if_neg (show ¬ (qz q).1=E from λz=>h.1 z.symm),ih h.2]
           show this<|DF.2 hn
         .cases g
        .cases g
       .cases g
      .cases fi
     .cases fi
    .let e:i=G.length:=∅
     rw[L0<|Gm S]at fi;erw[Jc,PM]at fi;subst fi;apply .inl ⟨ok2 e,?_⟩;let(Rc,uc):=Ri.close;show q _ _ Rc<|(Step.of_same s1).trans<|Si.trans ⟨λc o e _=>e,λy h=>.inl<|uc y h⟩
   .show BL q
  .show BL q
 .show BL q]
end
structure MI(K:Ap)(C:Ac)(nm qual:Af)(st:AG)(ps:List Af)(a:Ac)(fd:Cr):Prop where
 M:Kx K C nm a
 F:Jx K nm qual st a fd
 b:Binds K fd ps []
theorem mi{K:Ap}{nm b:Af}{st:AG}{h:U Af}{m:Aa}{n f:O Ac}{j:Array (O Aa)}{g e pm d ct:Aa} (A:findIn K (.ref C) nm=Z (Z (.ref a))) (i:isFn K (.ref a)=J') (l:K.lookup a=Z #[m,n,.func (fnOf nm b (HS st) (ZX st) (Zj st) .none g e pm f d ct),j]) (c:codeIn K d b=J') (k:keepIn K (.ref a)=J') (o:∀(g e pm:Aa) (f:O Ac) (d ct:Aa) (us:U Aa),us.length=h.length->bindArgs (fnOf nm b (HS st) (ZX st) (Zj st) .none g e pm f d ct) #[us,[]]=Al (h.zip us):=by
   exact λ_ _ _ _ _ _=>bI (by(repeat intro _);rfl)):MI K C nm b st h a (fnOf nm b (HS st) (ZX st) (Zj st) .none g e pm f d ct):=#[#[A,i,k],X6 l c k,.all<|o g e pm f d ct]
structure CI(K:Ap)(mg:BC)(c:Af)(C:Ac):Prop where
 cof:nsIn K C4 c=Z (Z (.ref C))
 cl:E7 K C
 m:mg c=Z (.ref C)
 mks:makesIn K C=J'
 kp:keepIn K (.ref C)=J'
theorem ci{K:Ap}{mg:BC}{h:Am}{c:Af}(X:K.In h)(G:h.Ns C4 mg)(A:nsIn K C4 c=Z (Z (.ref C)))(pg:plainGet K C Str.empty=J')(hd:hasDictIn K C=J')(po:plainOver K C=J')(sa:findIn K (.ref C) "__setattr__"=Z (Z (.builtin "object.__setattr__")))(a:makesIn K C=J')(b:keepIn K (.ref C)=J'):CI K mg c C:=#[A,#[pg,hd,po,sa],mg_of X G A,a,b]
theorem CI.mkB{K:Ap}{mg:BC}{b:Af}{st:AG}{d:U Af}{fd:Cr}{c':Af}(c:CI K mg c' C)(q:MI K C "__init__" b st d a fd):Mk K C a:=#[c.mks,q.M.at_,q.M.fn,c.kp]
section
variable{M:Fb}{l:Expr}{f:AH}{b:D->VE->O VE}{t:VE->O Bool}{e:AH}
open J in
theorem bZ{n:Nat}{oix:U Nat}(hw:∀j∈ws,j<n){E:A0}{s:Ab}{H:Hp}{Q:VK}(W:Inv X E I H s)(h:tF X.K M H0 (Zh n oix (λρ=>(f ρ).bind Ei) b t e) I H Q):Px n oix (bO X.K (tQ X.K M H0 f)) (NK X.K ws b) (NL X.K t) (NM X.K e) I H (λv=>Cv X (Q v)):=by
 let(ρ,N,R,g,q):=h;unfold Zh at g;dsimp only at g;cases P:f ρ with|none=>rw[P]at g;cases g|some d=>
 rw[P]at g;erw[Df]at g;cases i:Ei d with|none=>rw[i]at g;cases g|some ds=>
 rw[i]at g;unfold Ei at i;split at i
 .next ys=>
  cases T:EJ ys with|none=>rw[T]at i;cases i|some G=>
  rw[T]at i;cases i;apply#[ρ,_,R,P,λv r C dq=>?_];rw[GO T]at dq;let(a,u,rfl,hN,hr,dl):=dq;let(tr,dc,pd):=IM hr dl;apply#[a,tr,rfl,dc,λo hz=>?_];let S:=R.st C;let fin:∀m,Bh X.K M m ρ I (Ce a o (C5 tr) r)->(∀p u A,Ak (Ce a o (C5 tr) r) A->Ce a o (C5 tr) r p=J->A p=Z (CO X.K .l p N u)->Ad X.K (λb=>Nf M ρ I b\/b=p) A N u->Cv X (Q<|.ref p) A) ->
    SR n oix (NK X.K ws b) (NL X.K t) (NM X.K e) (Lh a o (C5 tr)<|tr.map λt=>t.2.1) I (Ce a o (C5 tr) r) (λv=>Cv X<|Q v):=λm R2 q2=>by
   let(ρ',ds',R',e',k):=(NN (K:=X.K) (M:=M) (H0:=m) (f:=λ_=>Z<|G.map λ(p:KT×D)=>kD p.1) (b:=b) (t:=t) (e:=e) (oix:=oix) (k:=n) hw (wi:=tI X.K M m λ_=>Z<|G.map λ(p:KT×D)=>kD p.1) (λ_ _ _ z=>z) (I:=I) (H:=Ce a o (C5 tr) r) (Q:=λv=>Cv X<|Q v) ⟨ρ,N,R2,g,q2⟩);cases e';show k _ _ (Ak.refl _)<|bP pd hz
  rcases dc.1 with F|⟨o',F⟩
  .apply fin _ (S.fz rfl F<|bQ S hN) λp u A sm Y L B=>?_;let hf':=sm a _<|I0 F;apply .inr ⟨a,o,C5 tr,W.plain2 C F rfl,hf',q p u _ (λc w e=>?_) (C.none<|B6.mp Y) (Ou L<|Ov _ _ _ _ _) (Ad.rd (λb v L h=>Rd.ufz L h) _ _ B)⟩;let e1:=C c w e;by_cases y:c=a
   .grind [Lg]
   .rw[J8 λx=>y x.1];show sm c w (by rw[FH λx=>y x.1];show e1)
  .let e:Ce a o (C5 tr) r=r:=funext λb=>FH (by rintro⟨rfl,y⟩;rw[F]at y;cases y);rw[e]at fin ⊢;show fin _ S λp u A sm Y L B=>.inl<|q p u A (C.trans sm) (C.none Y) L B
 .cases i
variable(own outs:U Af)(oix:U Nat)(S:IF own outs scope X.env.scope)(hox:oix.map (λj=>X.N[j]?)=outs.map Z)(hc:X.calm=J')
include S hox hc
theorem uv(k:JE X l (tQ X.K M H0 f)) (d:CB X.K X own outs scope tg ifs elt ws b t e) (m:∀j∈ws,j<own.length) (n:∀x,EF l X.env x=Al x:=by intro _;rfl):JE X (.ListComp elt [#[tg,l,ifs,0]] scope pos) (tF X.K M H0 (Zh own.length oix (λρ=>(f ρ).bind Ei) b t e)):=#[λc s p H Q B h=>by
 apply AZ (Ya own outs oix S hox hc (Uc k.h) d.g d.t d.e n c s p H (λv=>Cv X<|Q v) B (bZ m B h)) λu A h=>?_;let(v,q,i,r,z):=h;rcases z with z|⟨a,o,u,w,y,z⟩
 .show#[v,q,i,r,z]
 .show#[v,_,i.ufz y w,r,z]]
theorem uw{i:Nat}{x:Af}{a c:AC}(o:X.N.Nodup)(k:X.N[i]?=Z x)(p:X.env.scope.names.lookup x=Z .local)(q:JE X l (tQ X.K M H0 f)) (m:CB X.K X own outs scope tg ifs elt ws b t e) (r:∀j∈ws,j<own.length) (n:DW (.ListComp elt [#[tg,l,ifs,0]] scope pos) (Z (.Name x a)) c.line X.env=Al J':=by rfl) (u:∀x,EF l X.env x=Al x:=by intro _;rfl):JS X (.Assign [.Name x a] (.ListComp elt [#[tg,l,ifs,0]] scope pos) c) (tS X.K M H0 λρ=>Z0 i (Zh own.length oix (λρ=>(f ρ).bind Ei) b t e ρ) ρ):=#[λd s v H D w h=>AZ (Py own outs oix S hox hc o k p (Uc q.h) m.g m.t m.e n u d s v H (D.cv X) w<|bZ r w<|Tb h) λ_ _ h=>SP.cv h]
end
section
variable{P:AL}{w:Aj}{T:Type}[DecidableEq T]{hk:HeapKind P w T}{A:Ag}{s:Ab}{us:U (T×Ac×Aa)}
theorem ux(hk:HeapKind P w T)(b:(a==Hd)=O'):MeetsIn P w (Aw.«dict.__len__» #[[.ref a],[]]) (λ_ R t=>∃us,t.heap.DictOfH hk a us/\R (.ok (.ret (.int us.length t.toks))) {t with toks:=t.toks+1}):=.of_wp λA R t c=>by
 let(us,(o,g,h,d,_,e,f,_),q):=c;rw[(size_of_entries f).symm]at q;change wpAny _ _ (dictSize a >>= _) _ _ t;unfold dictSize;apply Ao<|Ao<|wpAny_dictEntries d e<|AW (?_:wpAny _ _ (Builtin.Dict.pendingCount a >>= _) _ _ t);show Ao<|wpAny_pendingCount_other b<|wpAny_ret_mkInt (by rw[Nat.add_zero];show q)
theorem uy{Q:AR}(c:(a==Hd)=O')(d:s.heap.DictOfH hk a us)(z:(us.length:Int)<2^63)(q:Q (.int us.length (s.toks+1)) {s with toks:=s.toks+1+1}):wpAny (Ae P w) A (Aw.«len» #[[.ref a],[]]) (λf t=>∃r,f=.done (.ret r)/\Q r t) E s:=by
 unfold Aw.«len»;apply Ao (m:=oneArg "len" _) (AW<|Ao (m:=callSpecial? (.ref a)<|Ju "__len__") (LR (name:=Ju "__len__") d.typeIs F.slot_dict_len (call_meetsIn F.slot_dict_len d.typeIs F.entry_dict_len (F.args_dict_len_1 _) (ux hk c) #[us,d,?_])));change wpAny _ _ _ _ _ {s with toks:=s.toks+1};apply Ao<|Gi<|AW<|Ao<|wpAny_letGo ?_;change wpAny _ _ (if((us.length:Nat):Int)<0 then _ else _) _ _ _;change wpAny _ _ (if((us.length:Nat):Int)≥2^63 then _ else _) _ _ _;rw[if_neg (by show Int.not_le.mpr z:¬ ((us.length:Nat):Int)≥2^63)];show Ao<|wpAny_mkInt<|AW ⟨_,rfl,q⟩
end
section
variable{K:Ap}
theorem uz:ES X (.builtin "len") (λxs H Q=>∃a tr,xs=[.ref a]/\CL X.K H a tr/\(∀t∈tr,∃l,t.1=KT.tup l)/\Q (.int tr.length) H):=by
 intro b s h H xs c Q i r zQ;let(a,tr,rfl,hd,d,q):=zQ;let(u,rfl,e):=E5 r;cases e;let(z,f,nd,c,rel,g):=Mo i hd d;apply b0 kind_len plain_len entry_len (args_len1 _)<|uy f g (by rw[<- (Hc rel)];rw[HN]at z;lia) ?_;rw[<- (Hc rel)];show⟨.int _,H,i.tok _,⟨_,rfl⟩,q⟩
def MJ:Ed
 |[.lst b .d]=>(EJ b).bind λa=>if a.all (λp=>!Ev p.1)then Z (.int a.length)else J
 |_=>J
open J in
theorem uA:Gn K (λxs H Q=>∃a tr,xs=[.ref a]/\CL K H a tr/\(∀t∈tr,∃l,t.1=KT.tup l)/\Q (.int tr.length) H) MJ:=by
 intro N H m n d Q o h e q;unfold MJ at e;split at e
 .next xs=>
  let(c,f,e):=Cc.mp e;let(g,e):=Z7 e;cases e;let(v,rfl,b):=Paired.one' h;rw[GO f]at b;let(p,s,rfl,r,hd):=b;let(tr,i,j):=IM r hd;apply#[p,tr,rfl,i,j.hom (k:=.tup []) (by simpa[DN,Ev]using g),?_];grind [Hc,Ak.refl,Fx]
 .cases e
end
end Internal
namespace Internal
open PySem PySem.Spec PyProof.Rows
section
variable{prog:AL}{w:Aj}{A:Ag}{s:Ab}
abbrev Uh(i:Ac):Obj:={cls:=.type "enumerate",data:=.fields (T' [.none,.bool O',.ref i,Bx 0,.none,.none])}
open J in
theorem uB(S:AN)(a:RelV S.v u)(xs:U V):Meets (Aw.«enumerate.__new__» #[[.type "enumerate",u],[]]) (λ_ R s=>S.ok s.heap xs/\R (.ok (.ret (.ref (s.heap.push (S.obj u)).objs.size))) {s with heap:=(s.heap.push (S.obj u)).push (Uh s.heap.objs.size)}):=.of_wp λprog w A R s h=>by
  let(b,g,d,f,os):=s;let(e,q):=h;let i:=sub_enumerate;wp_walk using S.pyIter a e;apply wpAny_stack_any λst=>AW ?_;split
  .rename_i c _ _ _ _ _;cases(c==Value.type "enumerate")
   .wp_walk using S.pyIter a e;show#[_,rfl,q]
   .wp_walk using S.pyIter a e;show#[_,rfl,q]
  .wp_walk using S.pyIter a e;show#[_,rfl,q]
theorem uC{S:AN}(a:RelV S.v u){xs:U V}{Q:AR}(p:S.ok s.heap xs)
  (q:∀h',IsEnum h' (s.heap.objs.size+1) s.heap.objs.size 0 .none->S.it h' s.heap.objs.size 0->(∀b o,s.heap.get? b=Z o->h'.get? b=Z o)->Q (.ref (s.heap.objs.size+1)) {s with heap:=h' }):
  wpAny (Ae prog w) A (call (.type "enumerate") [u]) Q E s:=by
 let d:(s.heap.push (S.obj u)).objs.size=s.heap.objs.size+1:=by simp
 let c:IsEnum ((s.heap.push (S.obj u)).push (Uh s.heap.objs.size)) (s.heap.objs.size+1) s.heap.objs.size 0 .none:=by
  have:=Cg (s.heap.push (S.obj u)) (o:=Uh s.heap.objs.size) rfl
  grind
 apply callType_new PySem.F.called_enumerate (by ext) (PySem.F.typeCall_enumerate_1 _) (PySem.F.newCall_enumerate_1 _) (λobj=>PySem.F.args_object_init_2 obj _) PySem.F.entry_enumerate_new (uB S a xs) #[p,?_]
 rw[d]
 show#[#[_,c,rfl],(q _ c (S.itAt (S.new (h:=s.heap) a) λo e=>By _ e) λb o e=>By _ (By _ e))]
section
variable{e it:Ac}{fa:U Ac}{n k:Nat}{sa:Nat->Am->Prop}{old:Aa}
theorem uD{Q:O Aa->Ab->Prop}(SA:Ij prog w it fa n isA sa)(a:IsEnum s.heap e it k old)(ha:sa k s.heap)(kn:k<n)(u:e≠it)(hfe:e∉fa) (q:∀x h' t' v,isA k x->IsEnumOut h' e it ((k:Int)+1) x s.heap.objs.size->sa (k+1) h'->h'.get? s.heap.objs.size=Z {cls:=.type "tuple",data:=.seq (T' [.int k t',x])}->(∀b o,b≠e->b≠it->s.heap.get? b=Z o->h'.get? b=Z o)->Q (Z (.ref s.heap.objs.size)) {s with heap:=h',toks:=v}):wpAny (Ae prog w) A (pyNext (.ref e)) Q E s:=by
 let(i,g,d,tk,os):=s;apply Ao<|On<|LR (name:=Ju "__next__") #[_,a,rfl] Ui (KD Ui #[_,a,rfl] PySem.F.entry_enumerate_next ?_<|PySem.F.args_enumerate_next_1 _);let fr:∀{h h':Am},sa (k+1) h->(∀b o,b≠e->h.get? b=Z o->h'.get? b=Z o)->sa (k+1) h':=λst kp=>SA.frame _ _ _ st λb c o x=>kp b o (by
  grind) x
 change wpAny _ _ (field (.ref e) 2 >>= _) _ _ _
 apply Ao<|FU a rfl (x:=.ref it) rfl ?_;apply Ao<|SA.item _ _ _ k _ kn ha λx y j hx a1 l=>?_;replace l:Eo it i y:=l;let B:IsEnum y e it k old:=(l.2 e u).trans a;apply Ao<|FU B rfl (x:=Bx k) rfl ?_;apply Ao<|FU B rfl (x:=.none) rfl ?_;apply Ao<|wpAny_mkInt ?_;apply Ao<|Ik B (by simp) λC G m=>?_;replace m:Eo e y C:=m;replace G:IsEnum C e it ((k:Int)+1) old:=G;apply Ao<|Ik G (by simp) λf H p=>?_;replace p:Eo e C f:=p;replace H:IsEnum f e it ((k:Int)+1) old:=H;apply Ao<|wpAny_newTuple ?_;let sz:f.objs.size=i.objs.size:=by rw[p.1,m.1,l.1]
 let r:IsEnum (f.push {cls:=.type "tuple",data:=.seq (T' [.int k j,x])}) e it ((k:Int)+1) old:=By _ H;let t4:(f.push {cls:=.type "tuple",data:=.seq (T' [.int k j,x])}).get? i.objs.size=Z {cls:=.type "tuple",data:=.seq (T' [.int k j,x])}:=sz ▸ Cg _ rfl;let k4:∀b o,b≠e->b≠it->i.get? b=Z o->(f.push {cls:=.type "tuple",data:=.seq (T' [.int k j,x])}).get? b=Z o:=λb o a S c=>
  By _<|p.extBut b o a<|m.extBut b o a<|l.extBut b o S c
 let a4:sa (k+1) (f.push {cls:=.type "tuple",data:=.seq (T' [.int k j,x])}):=fr a1 λb o c z=>By _<|p.extBut b o c<|m.extBut b o c z;generalize (f.push {cls:=.type "tuple",data:=.seq (T' [.int k j,x])})=h4 at r t4 k4 a4 ⊢;rw[sz];apply Ao ?_;apply Ao<|FU r rfl (x:=.none) rfl (AW ?_);apply Ao<|FV ?_;apply Ao<|FU r rfl (x:=old) rfl ?_;apply Ao<|Ik r (by simp) λK L M=>?_;replace M:Eo e h4 K:=M;replace L:IsEnum K e it ((k:Int)+1) x:=L;apply Ao ?_;apply Ao<|Ik L (by simp) λN P T=>?_;replace T:Eo e K N:=T;replace P:IsEnumOut N e it ((k:Int)+1) x i.objs.size:=P;apply Ik P (by simp) λt R Y=>?_;replace Y:Eo e N t:=Y;replace R:IsEnumOut t e it ((k:Int)+1) x i.objs.size:=R;let up:∀b o,b≠e->h4.get? b=Z o->t.get? b=Z o:=λb o c z=>Y.extBut b o c<|T.extBut b o c<|M.extBut b o c z;apply Ao<|wpAny_letGo<|AW ⟨_,rfl,AW<|q x t _ _ hx R (fr a4 up) (up _ _ (IA<|BK a) t4) λb o a S z=>up b o a<|k4 b o a S z⟩
theorem uE{Q:O Aa->Ab->Prop}(d:A.handled=J)(f:Ij prog w it fa n isA sa)(a:IsEnum s.heap e it k old)(g:sa k s.heap)(kn:n<=k) (q:∀h',Heap.ExtBut it s.heap h'->Q J {s with heap:=h' }):wpAny (Ae prog w) A (pyNext (.ref e)) Q E s:=by
 apply Ao<|On<|LR (name:=Ju "__next__") #[_,a,rfl] Ui (KD Ui #[_,a,rfl] PySem.F.entry_enumerate_next ?_<|PySem.F.args_enumerate_next_1 _);change wpAny _ _ (field (.ref e) 2 >>= _) _ _ _
 apply Ao<|FU a rfl (x:=.ref it) rfl ?_;apply Ao<|f.fin _ _ _ k _ (by show d) kn g λh' x h i=>?_;let(o,j,l):=i;show Ao<|wpAny_isInstance (T:="StopIteration") (b:=J') #[o,j,l] isSubtype_stop (AW<|q _ h)
theorem uF{a:U Expr} {b} {i:Int} {v:Aa} {T:Ac} (hz:IsEnumOut s.heap e it i v T) (q:∀h',IsEnum h' e it i v->Eo e s.heap h'->Q () {s with heap:=h' }):wpAny (Ae prog w) A (letOwnedTupleGo (.Tuple a b pos) (.ref e) (.ref T)) Q E s:=by
 apply Ao<|wpAny_load hz ?_;change wpAny _ _ (if(["enumerate","zip","dict_itemiterator","dict_reverseitemiterator","odict_iterator","itertools.zip_longest","itertools.pairwise"].contains "enumerate"&&((T' [Bx T,.bool O',.ref it,Bx i,.none,v]):Array Aa)[0]?==Z (Bx T))=J' then _ else _) Q E s
 rw[if_pos (by simp)];show Ao<|FV<|Ik hz (by simp) λh' z sb=>q h' z sb
end
end
def b4(K:Ap)(S:AN):It:=
 #[λi H=>∃a x,S.sq K H a/\a[i]?=Z x,
  λi H v b=>∃p x,v=.ref p/\H p=J/\b=AI H p (.tup [.int i,x])/\(∀a,S.sq K H a->a[i]?=Z x),
  λi H=>∃a,S.sq K H a/\a.length<=i]
theorem uG{P:AL}{w:Aj}{K:Ap}{g:U Expr} {T} (S:AN) (n:Nat) (W:∀b∈S.fp,b<n):HL P w K (.Tuple g T pos) (b4 K S) [n+1,n] (n+1) (λi h=>(∃f,IsEnum h (n+1) n i f)/\S.it h n i) where
 mem:=by simp
 obj:=λi h Y q a=>by
  let((x,z),c):=Y;erw[Bp,NZ,or_false]at a;rcases a with rfl|rfl
  .show#[_,z,λv e=>nomatch (show Data.fields _=Data.cell v from e)]
  .show S.itOb c
 keep:=λi h m ⟨⟨x,z⟩,c⟩ k=>#[#[x,k _ (by simp) _ z],S.itAt c λo e=>k _ (by simp) o e];item:=by
  intro X t u y L i d s M H E zA p #[#[f,z],c] #[xs,x,r,ex];subst t u y;let(sa,A,B,N):=S.sub (P:=X.prog) (w:=X.w) (i:=n) (S.of zA r);let hlt:n+1<s.heap.objs.size:=BK z;apply uD A z (B _ c) ((Cm.mp ex).1) (by(show @Ne Nat _ _;lia)) (λz=>absurd (show @LT.lt Nat _ _ _ from W _ z) (by change ¬ @LT.lt Nat _ _ _;lia)) λR m t1 Q C z' c' new kp=>?_;let(x2,j,G):=C;rw[ex]at j;cases j;apply#[_,rfl,uF (s:={s with heap:=m,toks:=Q}) z' λl z2 sb=>?_];let F:∀q o,q≠n+1->m.get? q=Z o->l.get? q=Z o:=λq o a e=>sb.extBut _ _ a e;let I1:Inv X d M (AI H s.heap.objs.size<|.tup [.int i,x]) {s with heap:=l}:=by
   show zA.yielded p (λq o a e=>F q o (λz=>a (by simp[z])) (kp q o (λz=>a (by simp[z])) (λz=>a (by simp[z])) e)) (A4 _) #[show 2<=AB by ext,[.int i t1,R],.cons #[_,rfl]<|.cons G .nil,⟨_,F _ _ (by(show @Ne Nat _ _;lia)) new,rfl,_,rfl⟩]
  apply#[.ref s.heap.objs.size,_,I1.tok Q,rfl,#[_,x,rfl,zA.hok.fresh<|A4 _,rfl,λzs hz=>S.inj zA hz r ▸ ex],#[#[R,?_],S.itAt (N _ _ c') λo e=>F _ o (by(show @Ne Nat _ _;lia)) e],λq a=>?_]
  .have:((i+1:Nat):Int)=(i:Int)+1:=∅
   show z2
  rw[Zl]
  .show(p q a).1
  .erw[Bp,NZ,or_false]at a;rcases a with rfl|rfl<;>(show @Ne Nat _ _;lia)
 done:=by
  intro X t u y L i d s M H E zA p #[#[f,z],c] #[xs,r,hl];subst t u y;let(sa,A,B,N):=S.sub (P:=X.prog) (w:=X.w) (i:=n) (S.of zA r);apply uE (zA.ok.hd L) A z (B _ c) hl λm kp=>#[rfl,zA.turnedL p λq o a e=>kp q o (λz=>a (by simp[z])) e]
 self:=λ_ _ _ _ _ ⟨⟨_,z⟩,_⟩ q=>wpAny_pyIter_enum z q
@[simp]def MK(f:AH):VE->A8:=λa=>match(f a).bind GU with
  |some b=>Z (F9 0 b)
  |none=>J
theorem uH{K:Ap}{M N:Fb}{H:Hp}{S:AN}{us:U V}(e:Ad K N H xs us)(j:∀f b,Step M N f H b->S.sq K b us):Mc K M N H (b4 K S) (F9 0 xs):=λf b St i=>by
 let c:=j _ _ St;apply#[λd a=>?_,λa=>#[us,c,?_]]
 .rw[aj]at a;let(x,ex,a):=B8.mp a;cases a;let(u,g,k):=(Ad.step St _ _ e).get ex;apply#[#[us,u,c,g],λz q l=>?_];let(p,r,m,h,n,o):=l;have:=o us c;rw[g]at this;cases this;subst m n;show#[Yh h,NQ h<|Ad.cons (by simp[Ax])<|Ad.cons k Ad.nil]
 .let l1:=e.length;rw[Ts]at a;lia
section
variable{M:Fb}{f:AH}{a:Expr}{p tpos:AC}
open J in
theorem uI {E} (G:Gl X "enumerate") (F:X.mg "enumerate"=J) (k:JE X a (tQ X.K M H0 f)) (w:AK [a] X.env=[(O',Ar a X.env)]:=by rfl) (l:AK [] X.env=[]:=by rfl):
  JI X (.Tuple elts E tpos) (.Call (.Name "enumerate" p) [a] [] pos) (tI X.K M H0 (MK f)):=#[have k:=k.h;by
 intro d s m H Q zA #[n,ds,R,e,q]
 unfold MK at e
 split at e
 .next L ex=>
  cases e
  let(N,P,ex):=Cc.mp ex
  apply Call_ (HK zA G F rn (Nq (AZ ((Z4 k Bf (by rw[w,l])) pos d s m H (λx o=>∃S g,x=[AN.v S]/\Ak H o/\Ad X.K (Nf M n m) o L g/\(∀T y,Step M (Nf M n m) T o y->S.sq X.K y g)) zA ?_) λg t ⟨x,A,i,W,u⟩=>?_) w rfl))
  .apply#[n,N,R,P,λv1 A Y u=>?_]
   let(S,g,e1,c,j):=Ud u ex
   show#[S,g,by rw[e1],Y,c,j]
  .let(S,us',rfl,z,c,j):=u
   cases W with
   |cons r rr=>
    cases rr
    let B:=S.of i (j _ _ Step.refl)
    apply uC r B λh' a1 a4 kp=>wpAny_pyIter_enum a1 ?_
    apply#[_,_,_,_,A,rfl,i.kept (t':=t.toks) kp,uG S t.heap.objs.size (S.lt B),#[#[_,a1],a4],λb hb=>?_,q _ _ z (uH c j)]
    let C:t.heap.objs.size<=b:=by
     grind
    show i.fpOk C (i.hok.fresh C)
 .cases e]
end
open PySem.W
inductive IV where
 |no|val (d:D)|cel (n:Nat)|exc (c:Af)
inductive Cl where
 |dead|dat (k:Kd) (xs:List D)|mix (k:Kd) (xs:List IV)
abbrev Gh:=U Cl
variable{G':Gh}
abbrev IS:=U IV×Gh
variable{gp:IS->O Nat}{gx:IS->O (IV×Gh)}{ga:IS->O (U IV)}{gi:IS->O D}{gf:IS->O (U D)}
@[simp]def un:IV->D
  |.val d=>d
  |_=>.non
@[simp]def Cl.kd:Cl->O Kd
  |.dead=>J
  |.dat k _=>Z k
  |.mix k _=>Z k
def LV(φ:Nat->Ac)(G:Gh):Fb:=λa=>∃n c k,G[n]?=Z c/\c.kd=Z k/\φ n=a
def AJ(K:Ap)(φ:Nat->Ac)(L:Nat)(N:Fb)(H:Hp):IV->V->Prop
 |.no,_=>False
 |.val d,v=>Ax K N H d v
 |.cel n,v=>n<L/\v=.ref (φ n)
 |.exc c,v=>∃a C,v=.ref a/\nsIn K C4 c=Z (Z (.ref C))/\H a=Z (.ext (Yj a C))
def Uj(K:Ap)(φ:Nat->Ac)(L:Nat)(N:Fb)(H:Hp)(a:Ac):Cl->Prop
 |.dead=>True
 |.dat k b=>∃c,H a=Z (CO K k a b c)/\Ad K N H b c
 |.mix k b=>∃c,H a=Z (CO K k a (b.map un) c)/\Paired (AJ K φ L N H) b c
structure Bc(K:Ap)(φ:Nat->Ac)(G:Gh)(H:Hp):Prop where
 cell:∀n c,G[n]?=Z c->Uj K φ G.length (LV φ G) H (φ n) c
 inj:∀n m c c' k k',G[n]?=Z c->G[m]?=Z c'->c.kd=Z k->c'.kd=Z k'->φ n=φ m->n=m
structure Br(K:Ap)(φ:Nat->Ac)(s:IS)(I:St)(H:Hp):Prop where
 len:s.1.length=I.length
 g:Bc K φ s.2 H
 slot:∀(i:Nat) (x:IV),s.1[i]?=Z x->x=.no\/∃v,I[i]?.join=Z v/\AJ K φ s.2.length (LV φ s.2) H x v
structure Go(φ:Nat->Ac)(G:Gh)(H:Hp)(φ':Nat->Ac)(G':Gh)(H':Hp):Prop where
 ext:∀n,n<G.length->φ' n=φ n
 len:G.length<=G'.length
 st:Step (λ_=>False) (LV φ G) (LV φ' G') H H'
section
variable{K:Ap}{φ1 φ2:Nat->Ac}{G G1 G2:Gh}{H H1 H2:Hp}{s:IS}
theorem Go.same(sm:Ak H H'):Go φ G H φ G H':=#[λ_ _=>rfl,A4 _,Step.of_same sm]
theorem Go.trans(a:Go φ G H φ1 G1 H1)(b:Go φ1 G1 H1 φ2 G2 H2):Go φ G H φ2 G2 H2:=#[λn h=>(b.ext n<|B7 h a.len).trans<|a.ext n h,Bu a.len b.len,a.st.trans b.st]
theorem AJ.go(g:Go φ G H φ1 G1 H1){x:IV}{v:V}(h:AJ K φ G.length (LV φ G) H x v):AJ K φ1 G1.length (LV φ1 G1) H1 x v:=by
 cases x with
 |no=>show h
 |val d=>show Ax.step g.st d v h
 |cel n=>show#[B7 h.1 g.len,g.ext n h.1 ▸ h.2]
 |exc c=>let(a,C,e,b,f):=h;show#[a,C,e,b,g.st.kp _ _ f<|.inr<|.inr rfl]
theorem Bc.same(R:Bc K φ G H)(sm:Ak H H'):Bc K φ G H':=#[λn c e=>by
 let h:=R.cell n c e;cases c with
 |dead=>trivial
 |dat k f=>let(a,b,d):=h;show#[a,sm _ _ b,d.same sm]
 |mix k f=>let(a,b,d):=h;show#[a,sm _ _ b,Paired.mapP d λ_ _ q=>AJ.go (Go.same sm) q],R.inj]
theorem Br.go(R:Br K φ s I H)(a:Bc K φ1 G1 H1)(g:Go φ s.2 H φ1 G1 H1):Br K φ1 (s.1,G1) I H1:=#[R.len,a,λi x e=>(R.slot i x e).imp id λ⟨v,b,c⟩=>#[v,b,c.go g]]
theorem Br.same(R:Br K φ s I H)(sm:Ak H H'):Br K φ s I H':=R.go (R.g.same sm)<|Go.same sm
theorem Bc.has(R:Bc K φ G H){n:Nat}{c:Cl}{k:Kd}(e:G[n]?=Z c)(a:c.kd=Z k):∃xs vs,H (φ n)=Z (CO K k (φ n) xs vs):=by
 let h:=R.cell n c e;cases c with
 |dead=>cases a
 |dat k xs=>cases a;let(vs,b,_):=h;show#[_,vs,b]
 |mix k xs=>cases a;let(vs,b,_):=h;show#[_,vs,b]
theorem Bc.nh(R:Bc K φ G H)(h:LV φ G a):H a≠J:=by
 let(n,c,k,e,b,rfl):=h;let(d,f,q):=R.has e b;simp_all
end
@[simp]def vk:Nat->Kd->Bool
  |0,_=>O'
  |1,.l=>O'
  |_,_=>J'
@[simp]def Oy:U (O D)->A8
  |[]=>Z []
  |o::r=>Zr o (Oy r)
@[simp]def tr(m:Nat)(G:Gh):Nat->IV->O D
  |_,.val d=>Z d
  |f+1,.cel n=>match G[n]? with
   |some (.dat k a)=>if vk m k=J' then Z (.lst a k)else J
   |some (.mix k a)=>if vk m k=J' then(Oy (a.map (tr m G f))).map λl=>.lst l k else J
   |_=>J
  |_,_=>J
@[simp]def DS(m:Nat)(G:Gh):IV->Sl
  |.val d=>.val d
  |.no=>.no
  |.exc c=>.exc c
  |.cel n=>match tr m G 3 (.cel n)with
   |some d=>.val d
   |none=>match G[n]? with
    |some (.dat k a)=>if vk m k=J' then .no else .lent a k
    |_=>.no
@[simp]def vw(m:Nat)(s:IS):VE:=s.1.map (DS m s.2)
def NW(m:Nat)(φ:Nat->Ac)(G:Gh):Fb:=λa=>∃n c k,G[n]?=Z c/\c.kd=Z k/\vk m k=O'/\φ n=a
mutual
/-- no container within of a kind that m reads as data -/
def BF(m:Nat):D->Bool
 |.lst a k=>!vk m k&&C0 m a
 |.tup a=>C0 m a
 |.non=>J'
 |.bl _=>J'
 |.int _=>J'
 |.str _=>J'
 |.ty _=>J'
def C0(m:Nat):U D->Bool
 |[]=>J'
 |x::a=>BF m x&&C0 m a
end
section
variable{K:Ap}{G:Gh}{H:Hp}{s:IS}{m:Nat}{B:Fb}
theorem NW.lv(h:NW m φ G a):LV φ G a:=let⟨n,c,k,b,d,_,e⟩:=h;#[n,c,k,b,d,e]
theorem uJ:∀{f:Nat}{x:IV}{d:D},tr m G f x=Z d->NC (un x)=NC d
 |f,.val d,_,h=>by erw[tr]at h;cases h;rfl
 |0,.cel n,_,h=>by erw[tr]at h;cases h
 |f+1,.cel n,d,h=>by
  unfold tr at h;split at h
  .split at h<;>cases h;rfl
  .let(_,h):=Z7 h;let(l,_,rfl):=B8.mp h;rfl
  .cases h
 |f,.no,_,h=>by erw[tr]at h;cases h
 |f,.exc _,_,h=>by erw[tr]at h;cases h
theorem b5{f:Nat}:∀{xs:U IV}{b:U D},Oy (xs.map (tr m G f))=Z b->JC (xs.map un)=JC b
 |[],_,h=>by cases h;rfl
 |[x],_,h=>by
  let(d,r,c,a,rfl):=HW h;cases a;rfl
 |x::y::r,_,h=>by
  let(d,l,c,a,rfl):=HW h;let(g,i,j,e,rfl):=HW a;erw[AU,JC,uJ c,b5 e]
theorem uK{f:Nat}{xs:U IV}{b:U D}{k:Kd}(h:Oy (xs.map (tr m G f))=Z b):CO K k a (xs.map un) vs=CO K k a b vs:=by
 cases k<;>erw[CO,b5 h]
theorem Bc.nnv(R:Bc K φ G H){n:Nat}{c:Cl}{k:Kd}(e:G[n]?=Z c)(a:c.kd=Z k)(i:vk m k=J'):¬ NW m φ G (φ n):=λ⟨j,b,d,f,g,l,h⟩=>by
 have:=R.inj j n b c d k f e g a h;simp_all
open J in
theorem b9(R:Bc K φ G H):∀{f:Nat}{x:IV}{d:D}{v:V},tr m G f x=Z d->AJ K φ G.length (LV φ G) H x v->Ax K (NW m φ G) H d v
 |f,.val d,_,v,h,q=>by erw[tr]at h;cases h;show Ax.nw q λa i=>.inl i.lv
 |0,.cel n,_,_,h,_=>by erw[tr]at h;cases h
 |f,.no,_,_,h,_=>by erw[tr]at h;cases h
 |f,.exc _,_,_,h,_=>by erw[tr]at h;cases h
 |f+1,.cel n,d,v,h,q=>by
  let(_,rfl):=q;unfold tr at h;split at h
  .next k c e=>
   let(j,h):=Z7 h;cases h;let(b,g,o):=R.cell n _ e;show#[_,b,rfl,.of (R.nnv e rfl j) g,o.nw λa i=>.inl i.lv]
  .next k c e=>
   let(j,h):=Z7 h;let(l,p,rfl):=B8.mp h;let(b,g,o):=R.cell n _ e;rw[uK p]at g;apply#[_,b,rfl,.of (R.nnv e rfl j) g,?_];let all:∀{c:U IV} {b:U V} {l:U D},Paired (AJ K φ G.length (LV φ G) H) c b->Oy (c.map<|tr m G f)=Z l->Ad K (NW m φ G) H l b:=by
    intro c b l h;induction h generalizing l with|nil=>intro e;cases e;show Ad.nil|cons q t s=>
     intro e;let(d,r,u,w,rfl):=HW e;show Ad.cons (b9 R u q)<|s w
   show all o p
  .cases h
theorem uL{k:Kd}{b:Ac}{ys:U D}{ws:U V}(h:CO K k a xs vs=CO K k' b ys ws):vk m k=vk m k':=by
 cases k<;>cases k'<;>first|rfl|cases h|(cases m with|zero=>rfl|succ j=>cases j<;>rfl)
mutual
theorem Ax.up(R:Bc K φ G H)(sm:Ak H H'):∀(d:D)(v:V),BF m d=J'->Ax K (λa=>NW m φ G a\/B a) H' d v->Ax K (λa=>LV φ G a\/B a) H' d v
 |.non,_,_,h=>by simpa only[Ax]using h
 |.bl _,_,_,h=>by simpa only[Ax]using h
 |.int _,_,_,h=>by simpa only[Ax]using h
 |.str _,_,_,h=>by simpa only[Ax]using h
 |.ty _,_,_,h=>by simpa only[Ax]using h
 |.tup g,v,b,h=>by
  erw[BF]at b
  erw[Ax]at h ⊢
  let(a,f,e,q,r):=h
  show#[a,f,e,q,Ad.up R sm g f b r]
 |.lst g k,v,b,h=>by
  erw[BF,DC,Bool.not_eq_true']at b
  erw[Ax]at h ⊢
  let(a,f,e,q,r):=h
  apply#[a,f,e,?_,Ad.up R sm g f b.2 r]
  rcases q with⟨n,q⟩|q
  .apply .inl #[λz=>z.elim (λ⟨j,c,l,p,s,t⟩=>n (.inl #[j,c,l,p,s,?_,t])) λz=>n (.inr z),q]
   let(u,w,z):=R.has p s
   let i:=sm _ _ z
   rw[t]at i
   rcases q with q|⟨o,q⟩
   .rw[i]at q;rw[uL (EE q)];show b.1
   .rw[i]at q;cases l<;>cases q
  .show .inr q
theorem Ad.up(R:Bc K φ G H)(sm:Ak H H'):∀(xs:U D)(vs:U V),C0 m xs=J'->Ad K (λa=>NW m φ G a\/B a) H' xs vs->Ad K (λa=>LV φ G a\/B a) H' xs vs
 |[],_,_,h=>by simpa only[Ad]using h
 |x::xs,vs,b,h=>by
  erw[C0,DC]at b
  erw[Ad]at h ⊢
  let(v,r,e,q,t):=h
  show#[v,r,e,Ax.up R sm x v b.1 q,Ad.up R sm xs r b.2 t]
end
theorem ca{i:Nat}{b:Kd}{a:O Ac}:(vw m s)[i]?≠Z (Sl.own xs b a):=λh=>by
 erw[vw,CF]at h;cases e:s.1[i]? with|none=>rw[e]at h;cases h|some x=>
  rw[e]at h;unfold DS at h;grind
theorem Uk(h:Nf (NW m φ s.2) (vw m s) I a):NW m φ s.2 a:=h.elim id λ⟨_,_,_,_,h,_⟩=>(ca h).elim
open J in
theorem Br.vw(R:Br K φ s I H):Bh K (NW m φ s.2) H (vw m s) I H:=by
 apply#[by erw[Internal.vw,Bn];show R.len,Ak.refl H,λa h=>R.g.nh h.lv,λi A e=>?_,λi j p B b E _ _ a h=>(ca h).elim];erw[Internal.vw,CF]at e;let(x,w,e):=B8.mp e;subst e;rcases R.slot i x w with rfl|⟨v,l,q⟩
 .trivial
 .cases x with
  |no=>show q.elim
  |val d=>show#[v,l,Ax.nw q λa f=>.inl (Uk f).lv]
  |exc c=>let(a,C,rfl,o,r):=q;show#[a,C,l,o,r]
  |cel n=>
   cases t:tr m s.2 3 (.cel n)with
   |some d=>
    let z:DS m s.2 (.cel n)=.val d:=by unfold DS;dsimp only;rw[t]
    rw[z];show#[v,l,(b9 R.g t q).nw λa f=>.inl<|Uk f]
   |none=>
    let(_,rfl):=q;let z:DS m s.2 (.cel n)=(match s.2[n]? with
     |some (.dat k p)=>if vk m k=J' then .no else .lent p k
     |_=>.no):=by unfold DS;dsimp only;rw[t]
    rw[z];split
    .next k p e=>
     split
     .trivial
     .next u=>
      let u:vk m k=O':=by exists u
      let(y,o,r):=R.g.cell n _ e;show#[_,y,l,#[#[n,_,k,e,rfl,u,rfl],by rw[o];show λz=>nomatch z],.inl o,r.nw λa f=>.inl (Uk f).lv]
    .trivial
end
@[simp]def jO(m:Nat)(o:O D):O D:=o.bind λd=>if BF m d=J' then Z d else J
@[simp]def jL(m:Nat)(o:A8):A8:=o.bind λd=>if C0 m d=J' then Z d else J
def jE(m:Nat)(f:AH)(s:IS):O D:=jO m (f (vw m s))
def jG(m:Nat)(f:VE->A8)(s:IS):A8:=jL m (f (vw m s))
def jT(m:Nat)(t:VE->O Bool)(s:IS):O Bool:=t (vw m s)
def tJ(K:Ap)(g:IS->O D):TE:=λc H Q=>∃b s d,Br K b s c H/\g s=Z d/\∀v a,Ak H a->Ax K (LV b s.2) a d v->Q v a
def Oz(fl:Kd)(K:Ap)(g:IS->A8):TE:=λh H Q=>∃e s d,Br K e s h H/\g s=Z d /\
 ∀a f c,Ak H c->H a=J->c a=Z (CO K fl a d f)->Ad K (λb=>LV e s.2 b\/b=a) c d f->Q (.ref a) c
def cc(K:Ap)(g:IS->O Bool):TT:=λc H Q=>∃d s b,Br K d s c H/\g s=Z b/\∀a,Ak H a->Q b a
def EM(K:Ap)(g:IS->O Nat):TE:=λb H Q=>∃a s n,Br K a s b H/\g s=Z n/\(n<s.2.length->Q (.ref (a n)) H)
def Dt(K:Ap)(g:IS->O (IV×Gh)):TE:=λc H Q=>∃d s r,Br K d s c H/\g s=Z r /\
 ∀a v b,Br K a (s.1,r.2) c b->AJ K a r.2.length (LV a r.2) b r.1 v->Go d s.2 H a r.2 b->Q v b
def Il(K:Ap)(g:IS->O (U IV)):TA:=λe H Q=>∃a s c,Br K a s e H/\g s=Z c /\
 ∀d b,Ak H b->Paired (AJ K a s.2.length (LV a s.2) b) c d->Q d b
def Ul(K:Ap)(g:IS->O IV):TE:=λc H Q=>∃a s x,Br K a s c H/\g s=Z x /\
 ∀v b,Ak H b->AJ K a s.2.length (LV a s.2) b x v->Q v b
section
variable{e:Expr}{f:AH}{ff:VE->A8}{t:VE->O Bool}{g:IS->O D}
theorem uM(m:Nat)(h:∀M H0,JE X e (tD X.K M H0 f)):JE X e (tJ X.K (jE m f)):=#[λb st i H Q t j=>by
 let(p,s,d,R,e,q):=j;let(r,k,e):=Cc.mp e;split at e
 .next l=>cases e;show(h _ _).h b st i H Q t #[_,_,R.vw,k,λv n sm o=>q v n sm<|(Ax.up (B:=λ_=>False) R.g sm _ _ l (o.nw λa c=>.inl<|.inl<|c.resolve_right id)).nw λa c=>.inl<|.inl c]
 .cases e]
theorem ce(m:Nat)(h:∀M H0,JE X e (Fa fl X.K M H0 ff)):JE X e (Oz fl X.K (jG m ff)):=#[λc st d H Q w f=>by
 let(t,s,u,R,e,q):=f;let(v,i,e):=Cc.mp e;split at e
 .next j=>
  cases e;show(h _ _).h c st d H Q w #[_,_,R.vw,i,λa k l sm n o p=>q a k l sm n o<|Ad.up R.g sm _ _ j<|p.nw λb r=>.inl<|r.imp .inl id]
 .cases e]
theorem uN(m:Nat)(h:∀M H0,JT X e (BX X.K M H0 t)):JT X e (cc X.K (jT m t)):=#[λa st c H Q g d=>by
 let(f,s,b,R,e,q):=d;show(h _ _).h a st c H Q g #[_,b,R.vw,e,q]]
end
section
variable{K:Ap}{G:Gh}{H:Hp}{s:IS}
theorem Br.put(R:Br K φ s I H){x:IV}{v:V}(i:Nat)(h:AJ K φ s.2.length (LV φ s.2) H x v):Br K φ (s.1.set i x,s.2) (I.set i (Z v)) H:=by
 apply#[by simp[R.len],R.g,λj y e=>?_];by_cases a:i=j
 .subst a;let b:i<s.1.length:=by have:=(Cm.mp e).1;exists this
  rw[ER b]at e;cases e;show .inr #[v,by rw[ER<|R.len ▸ b];rfl,h]
 .rw[Dy a]at e;rw[Dy a];show R.slot j y e
@[simp]def Ej(φ:Nat->Ac)(n:Nat)(a:Ac):Nat->Ac:=λj=>if j=n then a else φ j
theorem cf{c:Cl}{k:Kd}(l:c.kd=Z k){b:Ac}:LV (Ej φ G.length a) (G++[c]) b↔LV φ G b\/b=a:=by
 constructor
 .intro zQ;let(n,g,h,e,d,f):=zQ;rw[KU]at e;split at e
  .next i=>
   have:n≠G.length:=Ca i;erw[Ej,if_neg this]at f;show .inl #[n,g,h,e,d,f]
  .next i=>
   cases m:n-G.length with
   |zero=>
    have:n=G.length:=∅
    erw[Ej,if_pos this]at f;show .inr f.symm
   |succ j=>rw[m]at e;cases e
 .rintro(⟨n,g,h,e,d,f⟩|rfl)
  .show#[n,g,h,D9 ((Cm.mp e).1) ▸ e,d,by erw[Ej,if_neg<|Ca<|(Cm.mp e).1];show f]
  .show#[G.length,c,k,by rw[Fp<|A4 _,Nat.sub_self];rfl,l,by erw[Ej,if_true]]
theorem Go.new(sm:Ak H H'){c:Cl}{k:Kd}(f:H a=J)(g:c.kd=Z k):Go φ G H (Ej φ G.length a) (G++[c]) H':=by
 apply#[λn d=>by erw[Ej,if_neg<|Ca d],by simp,λb o e _=>sm b o e,λb h=>?_];grind [cf]
theorem Bc.new(R:Bc K φ G H)(sm:Ak H H'){c:Cl}{k:Kd}(l:H a=J)(v:c.kd=Z k)(L:Uj K (Ej φ G.length a) (G++[c]).length (LV (Ej φ G.length a) (G++[c])) H' a c):Bc K (Ej φ G.length a) (G++[c]) H':=by
 apply#[λn d e=>?_,λn m w x y A B C f g h=>?_]
 .rw[KU]at e;split at e
  .next b=>
   let q:=R.cell n d e;let z:Ej φ G.length a n=φ n:=by erw[Ej,if_neg<|Ca b]
   rw[z];cases d with
   |dead=>trivial
   |dat k E=>let(o,f,g):=q;show#[o,sm _ _ f,Ad.step (Go.new sm l v).st _ _ g]
   |mix k E=>let(o,f,g):=q;show#[o,sm _ _ f,Paired.mapP g λ_ _ q=>AJ.go (Go.new sm l v) q]
  .next b=>
   cases p:n-G.length with
   |zero=>
    let b:n=G.length:=∅
    simp_all
   |succ j=>rw[p]at e;cases e
 .let at_:∀{n:Nat} {d:Cl} {r:Kd},(G++[c])[n]?=Z d->d.kd=Z r->(n<G.length/\G[n]?=Z d/\Ej φ G.length a n≠a)\/n=G.length:=λ{n d r} e s=>by
   rw[KU]at e;split at e
   .next b=>
    apply .inl #[b,e,?_];erw[Ej,if_neg<|Ca b];intro z;show R.nh ⟨n,d,r,e,s,z⟩ l
   .next b=>
    cases p:n-G.length with
    |zero=>show .inr ∅
    |succ j=>rw[p]at e;cases e
  rcases at_ B f with⟨b,t,M⟩|b<;>rcases at_ C g with⟨i,u,F⟩|i
  .erw[Ej,if_neg<|Ca b,if_neg<|Ca i]at h;show R.inj n m w x y A t u f g h
  .show(M (by rw[h,i];erw[Ej,if_true])).elim
  .show(F (by rw[<- h,b];erw[Ej,if_true])).elim
  .rw[b,i]
theorem uO{n:Nat}{c c':Cl}{k:Kd}(e:G[n]?=Z c)(m:c.kd=Z k)(g:c'.kd=Z k'){b:Ac}:LV φ (G.set n c') b↔LV φ G b:=by
 constructor
 .intro zQ;let(j,h,i,f,l,a):=zQ;by_cases d:n=j
  .subst d;show#[n,c,k,e,m,a]
  .rw[Dy d]at f;show#[j,h,i,f,l,a]
 .intro zQ;let(j,h,i,f,l,a):=zQ;by_cases d:n=j
  .subst d;show#[n,c',k',by rw[ER<|(Cm.mp e).1],g,a]
  .show#[j,h,i,by rw[Dy d];show f,l,a]
theorem Bc.chg(R:Bc K φ G H){n:Nat}{c c':Cl}{k:Kd}{u:HO}(e:G[n]?=Z c)(l:c.kd=Z k)(v:c'.kd=Z k') (A:∀L N H',Go φ G H φ (G.set n c') H'->H' (φ n)=Z u->L=(G.set n c').length->N=LV φ (G.set n c')->Uj K φ L N H' (φ n) c'):Bc K φ (G.set n c') (AI H (φ n) u)/\Go φ G H φ (G.set n c') (AI H (φ n) u):=by
 let go:Go φ G H φ (G.set n c') (AI H (φ n) u):=by
  apply#[λ_ _=>rfl,by simp,λa o x z=>?_,λb B=>.inl<|(uO e l v).mp B];let ne:a≠φ n:=by
   rintro rfl;rcases z with z|z|z
   .show z #[n,c,k,e,l,rfl]
   .show z
   .let(y,r,q):=R.has e l;rw[x]at q;cases q;rw[Yi]at z;cases z
  rw[Zl ne];show x
 apply#[#[λj f d=>?_,λj m f w s t d C g p h=>?_],go]
 .by_cases i:n=j
  .subst i;rw[ER (Cm.mp e).1]at d;cases d;show A _ _ _ go ZN rfl rfl
  .rw[Dy i]at d;let q:=R.cell j f d;cases f with
   |dead=>trivial
   |dat t y=>
    let(r,g,p):=q;show#[r,by rw[Zl λz=>i (R.inj j n _ _ _ _ d e rfl l z).symm];show g,Ad.step go.st _ _ p]
   |mix t y=>
    let(r,g,p):=q;show#[r,by rw[Zl λz=>i (R.inj j n _ _ _ _ d e rfl l z).symm];show g,Paired.mapP p λ_ _ q=>AJ.go go q]
 .let at_:∀{j:Nat} {f:Cl} {s:Kd},(G.set n c')[j]?=Z f->f.kd=Z s->∃w t,G[j]?=Z w/\w.kd=Z t:=λ{j f s} d g=>by
   by_cases i:n=j
   .subst i;show#[c,k,e,l]
   .rw[Dy i]at d;show#[f,s,d,g]
  let(E,l1,S,F):=at_ d g;let(M,P,Q,T):=at_ C p;show R.inj j m E M l1 P S Q F T h
end
@[simp]def xD(o:O D)(s:IS):O (IV×Gh):=o.map λd=>(.val d,s.2)
@[simp]def xF(fl:Kd)(o:A8)(s:IS):O (IV×Gh):=o.map λl=>(.val (.lst l fl),s.2)
@[simp]def xC(fl:Kd)(o:A8)(s:IS):O (IV×Gh):=o.map λl=>(.cel s.2.length,s.2++[.dat fl l])
@[simp]def xP(o:O Nat)(s:IS):O (IV×Gh):=o.bind λn=>if n<s.2.length then Z (.cel n,s.2)else J
@[simp]def B9(s:IS)(i:Nat):O Nat:=match s.1[i]? with
  |some (.cel n)=>Z n
  |_=>J
@[simp]def Qp(c f:Af)(s:IS)(o:O Nat):O Nat:=o.bind λn=>match s.2[n]? with
  |some (.mix (.i ns a) b)=>if a=c then match(ns.zip b).lookup f with
   |some (.cel j)=>Z j
   |_=>J
   else J
  |_=>J
section
variable{e:Expr}{g:IS->O D}{gf:IS->A8}{g1:IS->O IV}
theorem Um(h:JE X e (tJ X.K g)):JE X e (Dt X.K λs=>xD (g s) s):=#[h.h.mono λi H Q b=>by
 let(a,s,r,R,e,q):=b;let(d,hd,rfl):=B8.mp e;show#[a,s,d,R,hd,λv c sm f=>q a v c (R.same sm) f<|Go.same sm]]
theorem uP(h:JE X e (Oz fl X.K gf)):JE X e (Dt X.K λs=>xF fl (gf s) s):=#[h.h.mono λp H Q d=>by
 let(c,s,r,R,e,q):=d;let(l,f,rfl):=B8.mp e;apply#[c,s,l,R,f,λa i j sm k m n=>q c _ j (R.same sm) ?_<|Go.same sm];show⟨a,i,rfl,.of (λz=>R.g.nh z k) m,n.nw λb o=>.inl<|.inl o⟩]
theorem uQ(h:JE X e (Oz fl X.K gf)):JE X e (Dt X.K λs=>xC fl (gf s) s):=#[h.h.mono λp H Q d=>by
 let(f,s,r,R,e,q):=d;let(l,i,rfl):=B8.mp e;apply#[f,s,l,R,i,λa j k sm c m n=>?_];apply q _ _ k (R.go (R.g.new sm c rfl #[j,m,n.nw λb o=>.inl<|(cf rfl).mp o]) (Go.new sm c rfl)) ⟨by simp,by erw[Ej,if_true]⟩ (Go.new sm c rfl)]
theorem cg(h:JE X e (EM X.K gp)):JE X e (Dt X.K λs=>xP (gp s) s):=#[h.h.mono λf H Q c=>by
 let(a,s,r,R,e,q):=c;let(n,d,e):=Cc.mp e;split at e
 .next b=>cases e;show#[a,s,n,R,d,λb=>q a _ H R #[b,rfl]<|Go.same<|Ak.refl H]
 .cases e]
open J in
theorem uR{i:Nat}{x:Af}(b:NV X i x:=by show Ec):JE X (.Name x pos) (EM X.K λs=>B9 s i):=#[(FZ b).mono λc H Q d=>by
 let(f,s,n,R,e,q):=d;dsimp only at e;unfold B9 at e;split at e
 .next j g=>
  cases e;rcases R.slot i _ g with z|⟨v,a,h,rfl⟩
  .cases z
  .apply#[.ref<|f n,?_,q h];cases z:c[i]? with
   |none=>rw[z]at a;cases a
   |some o=>rw[z]at a;cases a;rfl
 .cases e]
theorem cj{K:Ap}{φ:Nat->Ac}{L:Nat}{N:Fb}{H:Hp}{f:Af}{x:IV}:∀{ns:U Af}{xs:U IV}{vs:U V},Paired (AJ K φ L N H) xs vs->(ns.zip xs).lookup f=Z x->∃v,(ns.zip vs).lookup f=Z v/\AJ K φ L N H x v
 |[],_,_,_,e=>by simp at e
 |_::_,[],_,_,e=>by simp at e
 |n::ns,y::b,_,.cons q t,e=>by
  erw[KJ,List.lookup_cons]at e ⊢;cases a:f==n with
  |true=>rw[a]at e;cases e;show#[_,rfl,q]
  |false=>rw[a]at e;show cj t e
open J in
theorem uS{c f:Af}(i:nsIn X.K C4 c=Z (Z (.ref C)))(l:E7 X.K C)(m:BM X.K C f)(p:JE X o (EM X.K gp))(r:E8 o f X.env (Ar o X.env)=Ar o X.env:=by rfl):JE X (.Attribute o f pos) (EM X.K λs=>Qp c f s (gp s)):=#[(XD p.h r).mono λE H Q t=>by
 let(u,s,n,R,e,q):=t;let(j,x,w):=Cc.mp e;split at w
 .next ns G M y=>
  split at w
  .next a=>
   subst a;split at w
   .next k z=>
    cases w;apply#[u,s,j,R,x,λF=>?_];let(L,d,A):=R.g.cell j _ y;let(v,B,b,rfl):=cj A z;erw[CO,Le i]at d;show#[_,C,_,_,_,rfl,.inl d,l,m,B,q b]
   .cases w
  .cases w
 .cases w]
theorem ck(h:JE X e (tJ X.K g)):JE X e (Ul X.K λs=>(g s).map .val):=#[h.h.mono λi H Q a=>by
 let(b,s,r,R,e,q):=a;let(d,hd,rfl):=B8.mp e;show#[b,s,d,R,hd,λv c sm f=>q v c sm f]]
theorem uT(h:JE X e (EM X.K gp)):JE X e (Ul X.K λs=>(gp s).map .cel):=#[h.h.mono λf H Q a=>by
 let(b,s,r,R,e,q):=a;let(n,c,rfl):=B8.mp e;show#[b,s,n,R,c,λd=>q _ H (Ak.refl H) #[d,rfl]]]
theorem cm:JA X [] (Il X.K λ_=>Z []):=#[Bf.mono λb H Q a=>by
 let(c,s,d,R,e,q):=a;cases e;show q [] H (Ak.refl H) .nil]
theorem cq(h:JE X e (Ul X.K g1))(d:JA X es (Il X.K ga))(f:AK (e::es) X.env=(O',Ar e X.env)::AK es X.env:=by show D2 rfl):JA X (e::es) (Il X.K λs=>Zr (g1 s) (ga s)):=#[(Z4 h.h d.h f).mono λn H Q g=>by
 let(a,s,o,R,e,q):=g;let(x,r,i,j,rfl):=HW e;show#[a,s,x,R,i,λv p b k=>#[a,s,r,R.same b,j,λt l c m=>q _ l (b.trans c)<|.cons (k.go<|Go.same c) m]]]
end
inductive RI where
 |fail|next(s:IS)|brk (s:IS)|cont (s:IS)|ret (x:IV) (G:Gh)
abbrev Bw:=IS->RI
def Uo(K:Ap)(φ:Nat->Ac)(G:Gh)(H:Hp)(d:IS)(Q:St->Hp->Prop):Prop:=∀a b c,Br K a d b c->Go φ G H a d.2 c->Q b c
def C1(K:Ap)(φ:Nat->Ac)(G:Gh)(H:Hp)(D:Ends):RI->Prop
 |.fail=>False
 |.next b=>Uo K φ G H b D.nx
 |.brk b=>Uo K φ G H b D.bk
 |.cont b=>Uo K φ G H b D.ct
 |.ret x c=>∀a v d,Bc K a c d->AJ K a c.length (LV a c) d x v->Go φ G H a c d->D.rt v d
def tK(K:Ap)(g:Bw):TS:=λD b H=>∃a s,Br K a s b H/\C1 K a s.2 H D (g s)
set_option backward.eqns.nonrecursive true in
@[simp]def Zw(a:RI)(g:Bw):RI:=match a with
  |.next s=>g s
  |r=>r
@[simp]def EN(c:O Bool)(a b:RI):RI:=match c with
  |some J'=>a
  |some O'=>b
  |none=>.fail
@[simp]def C9(i:Nat)(o:O (IV×Gh))(s:IS):RI:=match o with
  |some r=>.next (s.1.set i r.1,r.2)
  |none=>.fail
@[simp]def Ek(o:O (IV×Gh)):RI:=match o with
  |some r=>.ret r.1 r.2
  |none=>.fail
@[simp]def Cz(o:O (IV×Gh))(s:IS):RI:=match o with
  |some r=>.next (s.1,r.2)
  |none=>.fail
def EY(i:Nat)(g:Bw):U D->Bw
 |[],s=>.next s
 |d::b,s=>match g (s.1.set i (.val d),s.2)with
  |.next a=>EY i g b a
  |.cont a=>EY i g b a
  |.brk a=>.next a
  |r=>r
@[simp]def HE(i:Nat)(g:Bw)(o:A8)(s:IS):RI:=match o with
  |some a=>EY i g a s
  |none=>.fail
@[simp]def ML:D->A8
  |.lst a .l=>Z a
  |_=>J
@[simp]def Li:D->A8
  |.int j=>gd (-1000000000<=j/\j<1000000000) (Z (GN 0 j.toNat))
  |_=>J
section
variable{K:Ap}{φ1:Nat->Ac}{G G1:Gh}{H H1:Hp}{D:Ends}{r:RI}
theorem C1.from(g:Go φ G H φ1 G1 H1)(h:C1 K φ G H D r):C1 K φ1 G1 H1 D r:=by
 cases r with
 |fail=>show h
 |next s=>show λa b c R go=>h a b c R<|g.trans go
 |brk s=>show λa b c R go=>h a b c R<|g.trans go
 |cont s=>show λa b c R go=>h a b c R<|g.trans go
 |ret x e=>show λa v c R d go=>h a v c R d<|g.trans go
end
section
variable{st:AG}{AX a b:U AG}{g g1 g2:Bw}{gd':IS->O D}{c:Expr}{t:IS->O Bool}{e:Expr}{x:Af}
theorem uU:JB X [] (tK X.K λs=>.next s):=#[Er.mono λD a H ⟨b,s,R,q⟩=>q b a H R<|Go.same<|Ak.refl H]
theorem cr(d:JS X st (tK X.K g1))(e:JB X AX (tK X.K g2)):JB X (st::AX) (tK X.K λs=>Zw (g1 s) g2):=#[(So d.h e.h).mono λD k H f=>by
 let(g,s,R,q):=f;dsimp only at q;apply#[g,s,R,?_];cases a:g1 s with
 |fail=>rw[a]at q;show q
 |next b=>rw[a]at q;show λc i l j go=>#[c,b,j,C1.from go q]
 |brk b=>rw[a]at q;show q
 |cont b=>rw[a]at q;show q
 |ret x m=>rw[a]at q;show q]
theorem uV:JS X st (tK X.K λ_=>.fail):=#[Hg.mono λD a H ⟨b,s,R,q⟩=>q]
theorem uW(f:JT X c (cc X.K t))(g:JB X a (tK X.K g1))(i:JB X b (tK X.K g2)):JS X (.If c a b pos) (tK X.K λs=>EN (t s) (g1 s) (g2 s)):=#[(Sq f.h g.h i.h).mono λD l H j=>by
 let(d,s,R,q):=j;dsimp only at q;cases e:t s with|none=>rw[e]at q;show q.elim|some k=>
  rw[e]at q;apply#[d,s,k,R,e,λm sm=>?_];cases k with
  |true=>show KP #[d,s,R.same sm,C1.from (Go.same sm) q]
  |false=>show KQ #[d,s,R.same sm,C1.from (Go.same sm) q]]
theorem cu{i:Nat}(c:X.N.Nodup)(d:JE X e (Dt X.K gx))(f:X.N[i]?=Z x:=by rfl)(g:Loc X.env.scope x:=by first|show .inl rfl|show .inr rfl)(j:DW e (Z (.Name x pos')) pos.line X.env=Al O':=by rfl)(k:X.fn x=J'\/X.env.scope.names.lookup x=Z .local:=by first|show .inl rfl|show .inr rfl|assumption):JS X (.Assign [.Name x pos'] e pos) (tK X.K λs=>C9 i (gx s) s):=#[(Pk c f g d.h j k).mono λD t H l=>by
 let(m,s,R,q):=l;dsimp only at q;cases a:gx s with
 |none=>rw[a]at q;show q.elim
 |some r=>rw[a]at q;show#[m,s,r,R,a,λb v n o p go=>q b _ n (o.put i p) go]]
theorem uX(c:JE X e (Dt X.K gx)):JS X (.Return (Z e) pos) (tK X.K λs=>Ek (gx s)):=#[(Pf c.h).mono λD l H d=>by
 let(f,s,R,q):=d;dsimp only at q;cases a:gx s with
 |none=>rw[a]at q;show q.elim
 |some r=>rw[a]at q;show#[f,s,r,R,a,λb v i j k go=>q b v i j.g k go]]
theorem uY(c:JE X e (Dt X.K gx))(d:DW e J pos.line X.env=Al O':=by rfl):JS X (.Expr e pos) (tK X.K λs=>Cz (gx s) s):=#[(Nm c.h d).mono λD k H f=>by
 let(g,s,R,q):=f;dsimp only at q;cases a:gx s with
 |none=>rw[a]at q;show q.elim
 |some r=>rw[a]at q;show#[g,s,r,R,a,λb v i j l go=>q b _ i j go]]
def Up(K:Ap)(f:IS->A8):TI:=λd H R=>∃b s c,Br K b s d H/\f s=Z c/\∀e a,Ak H a->Mc K (λ_=>False) (LV b s.2) a e c->R e a
theorem uZ{t:Expr}(h:JE X e (tJ X.K gd')):JI X t e (Up X.K λs=>(gd' s).bind ML):=#[(Xm h.h).mono λG H N u=>by
 let(m,s,F,R,e,q):=u;let(d,hd,e):=Cc.mp e;unfold ML at e;split at e
 .cases e;apply#[m,s,_,R,hd,λv n A B=>?_];let(a,c,C,f,o):=B;let p:∀j g,Step (λ_=>False) (LV m s.2) j n g->BZ X.K g a c:=λj g S=>by
   rcases f with⟨E,f⟩|⟨L,z,f⟩
   .show .inl<|f.step S<|.inl E
   .cases z;show f.sq
  apply#[a,C,#[c,p _ _ Step.refl],q _ n A λj g S i=>?_];let b:=p _ _ S;apply#[λd k=>?_,λk=>#[c,b,by rw[k,o.length];show A4 _]];let(w,r,l):=(Ad.step S _ _ o).get k;apply#[#[c,w,b,r],λx M y=>?_];let(rfl,y):=y;have:=y c b;rw[r]at this;cases this;show#[Ak.refl _,l]
 .cases e]
open J in
theorem u0{c a:Expr}{p:AC}(f:Gl X "range")(g:X.mg "range"=J)(i:JE X a (tJ X.K gd'))(k:AK [a] X.env=[(O',Ar a X.env)]:=by rfl)(b:AK (a::[]) X.env=(O',Ar a X.env)::AK [] X.env:=by show D2 rfl):JI X c (.Call (.Name "range" p) [a] [] pos) (Up X.K λs=>(gd' s).bind Li):=#[(Xo f g (cq (ck i) cm b).h k).mono λu H v l=>by
   let(m,s,w,R,e,q):=l;let(d,hd,e):=Cc.mp e;unfold Li at e;split at e
   .next j=>
    let(x,e):=PP e;cases e;apply#[m,s,[.val<|.int j],R,by erw[hd,Nz,Zr,Df],λy n sm o=>?_];cases o with
    |cons r t=>
     cases t;subst r;show#[j,rfl,∅,∅,q _ n sm Tc]
   .cases e]
theorem u4{p:U AG}{f:IS->A8}{i:Nat}{tp:AC}(hp:PassesOwn (Ae X.prog X.w) X.A X.env X.xe)(hc:X.calm=J')(hi:JI X (.Name x tp) iter (Up X.K f))(hN:X.N.Nodup)(hb:JB X p (tK X.K g)) (P:X.N[i]?=Z x:=by rfl) (hx:Loc X.env.scope x:=by first|show .inl rfl|show .inr rfl) (hf:X.fn x=J'\/X.env.scope.names.lookup x=Z .local:=by first|show .inl rfl|show .inr rfl|assumption) (hs:∀x,EF iter X.env x=Al x:=by intro _;rfl):JS X (.For (.Name x tp) iter p [] pos) (tK X.K λs=>HE i g (f s) s):=#[(Pn hp hc hi.h (Xi hN P hx hf) hb.h hs).mono λY I H z0=>by
 let(L,s,R,q):=z0;dsimp only at q;cases r:f s with|none=>rw[r]at q;show q.elim|some j=>
  rw[r]at q;apply#[L,s,j,R,r,λF Q s1 ok=>?_];apply#[λn m t u=>m=j.length-n/\n<=j.length/\∃a c,Br X.K a c t u/\Go L s.2 Q a c.2 u/\C1 X.K a c.2 u Y (EY i g (j.drop n) c),#[j.length,by simp,ET _,L,s,R.same s1,Go.same<|Ak.refl Q,C1.from (Go.same s1) q],?_];intro n m t u zQ;let(rfl,hle,a,c,Rn,gn,k):=zQ;let(T,S):=ok _ _ gn.st n;by_cases l:n<j.length
  .let(go,y):=T j[n]<|Ch l;rw[HV l]at k;erw[EY]at k;apply .inr ⟨go,λG B=>n+1<=j.length/\∃a c,Br X.K a c G B/\Go L s.2 Q a c.2 B/\C1 X.K a c.2 B Y (EY i g (j.drop<|n+1) c),λG B z=>⟨j.length-(n+1),by show Nat.sub_succ_lt_self j.length n l,rfl,z⟩,λx B yl=>?_⟩;let(s3,hd):=y x B yl;let E:Go a c.2 u a c.2 B:=Go.same s3;apply#[a,(c.1.set i<|.val j[n],c.2),(Rn.same s3).put i hd,?_];cases o:g (c.1.set i<|.val j[n],c.2)with
   |fail=>rw[o]at k;show k
   |next M=>rw[o]at k;show λd C W R2 b=>#[l,d,M,R2,gn.trans<|E.trans b,C1.from (E.trans b) k]
   |cont M=>rw[o]at k;show λd C W R2 b=>#[l,d,M,R2,gn.trans<|E.trans b,C1.from (E.trans b) k]
   |brk M=>rw[o]at k;show λd C W R2 b=>k d C W R2<|E.trans b
   |ret x G'=>rw[o]at k;show λd v W R2 hv b=>k d v W R2 hv<|E.trans b
  .let e:n=j.length:=∅
   subst e;rw[L0<|A4 _]at k;show .inl ⟨S rfl,k a t u Rn<|Go.same<|Ak.refl u⟩]
end
abbrev FI:=U IV->Gh->O (IV×Gh)
def C6(K:Ap)(F:FI):Sp:=λe H Q _=>∃b G d r,Bc K b G H/\Paired (AJ K b G.length (LV b G) H) d e/\F d G=Z r /\
 ∀a v c,Bc K a r.2 c->AJ K a r.2.length (LV a r.2) c r.1 v->Go b G H a r.2 c->Q v c
def Ey(a n:Nat)(g:Bw):FI:=λb G=>if b.length=a then
  match g (b++Es (n-a) .no,G)with
  |.ret x c=>Z (x,c)
  |.next s=>Z (.val .non,s.2)
  |_=>J
 else J
theorem fi{a n:Nat}{g:Bw}{xs:U IV}{G:Gh}{r:RI}(h:xs.length=a):g (xs++Es (n-a) .no,G)=r->Ey a n g xs G=match r with
  |.ret x b=>Z (x,b)
  |.next s=>Z (.val .non,s.2)
  |_=>J:=λe=>by subst h e;show if_pos rfl
theorem u5{K:Ap}{G:Gh}{H:Hp}{xs:U IV}(R:Bc K φ G H)(h:Paired (AJ K φ G.length (LV φ G) H) xs vs)(n:Nat):Br K φ (xs++Es n .no,G) (vs.map Z++Es n J) H:=by
 apply#[by simp[Lf h],R,λi x e=>?_];rw[KU]at e;split at e
 .next a=>
  let(v,b,q):=bL h e;show .inr #[v,by rw[D9 (by simpa[<- (Lf h)]using a),CF,b];rfl,q]
 .rw[KC]at e;let(_,e):=Z7 e;cases e;show .inl rfl
section
variable{P:AL}{w:Aj}{K:Ap}{mg:BC}{base:Am}{x qual nm:Af}{st:AG}{f fn:Ac}{fd:Cr}{N:U Af}{k:Nat}{g g0:Bw}
theorem cw(F:Jx K x qual st f fd)(S:FS N ps (Zj st))(t:ps.length<=N.length) (u:∀(b:Aa) (A:Ag) (outer:U Env) (s:Ab) (H:Hp) (E:XK),AM k (A.deeper (Bk qual (Zj st) s.heap.objs.size f b))->JB (Et BQ P w K mg base N qual (Zj st) f b A outer s H E).nox (ZX st) (tK K g)):A3 P w K mg base BQ (k+1) f fd ps (C6 K (Ey ps.length N.length g)):=by
 apply F.ok S (λi H Q E h=>?_) (λb A outer s H i Q E y h=>?_)
 .let(n,G,o,r,R,e,a,q):=h;let(j,a):=Z7 a;rw[<- Lf e];show j
 .let(n,G,o,r,R,e,a,q):=h;apply#[_,(u b A outer s H E y).h,?_];let(j,a):=Z7 a;rw[show Hk N i=i.map Z++Es (N.length-ps.length) J by unfold Hk;rw[<- Lf e,j]];apply#[n,_,u5 R e<|N.length-ps.length,?_];cases d:g (o++Es (N.length-ps.length) .no,G)with
  |fail=>rw[d]at a;cases a
  |next p=>rw[d]at a;cases a;show λc z l m go=>q c .non l m.g (by erw[AJ,Ax]) go
  |brk p=>rw[d]at a;cases a
  |cont p=>rw[d]at a;cases a
  |ret x C=>rw[d]at a;cases a;show λc v l m B go=>q c v l m B go
theorem u6(D:DI K mg nm st ps fn fd)(S:FS N ps (Zj st)) (c:∀(a:Aa) (A:Ag) (outer:U Env) (s:Ab) (H:Hp) (E:XK),AM k (A.deeper (Bk nm (Zj st) s.heap.objs.size fn a))->JB (Et BQ P w K mg base N nm (Zj st) fn a A outer s H E).nox (ZX st) (tK K g0)) (e:g0=g:=by rfl) (b:ps.length<=N.length:=by ext):A3 P w K mg base BQ (k+1) fn fd ps (C6 K (Ey ps.length N.length g)):=cw D.F S b (e ▸ c)
theorem u7(D:MI K C nm qual st ps fn fd)(S:FS N ps (Zj st)) (c:∀(a:Aa) (A:Ag) (outer:U Env) (s:Ab) (H:Hp) (E:XK),AM k (A.deeper (Bk qual (Zj st) s.heap.objs.size fn a))->JB (Et BQ P w K mg base N qual (Zj st) fn a A outer s H E).nox (ZX st) (tK K g0)) (e:g0=g:=by rfl) (b:ps.length<=N.length:=by ext):A3 P w K mg base BQ (k+1) fn fd ps (C6 K (Ey ps.length N.length g)):=cw D.F S b (e ▸ c)
end
@[simp]def Gx(F:FI)(o:O (U IV))(s:IS):O (IV×Gh):=o.bind λa=>F a s.2
@[simp]def EZ(c m:Af):Cl->Bool
  |.dat (.i ns a) _=>decide (a=c)&&!ns.contains m
  |.mix (.i ns a) _=>decide (a=c)&&!ns.contains m
  |_=>O'
@[simp]def Ez(c m:Af)(F:FI)(p:O Nat)(o:O (U IV))(s:IS):O (IV×Gh):=p.bind λn=>match s.2[n]? with
  |some cl=>if EZ c m cl=J'/\n<s.2.length then o.bind λa=>F (.cel n::a) s.2 else J
  |none=>J
@[simp]def Qq(c:Af)(F:FI)(o:O (U IV))(s:IS):O (IV×Gh):=o.bind λa=>(F (.cel s.2.length::a) (s.2++[.mix (.i [] c) []])).bind λr=>match r.1 with
  |.val .non=>Z (.cel s.2.length,r.2)
  |_=>J
@[simp]def Gy(c f:Af)(p:IS->O Nat)(o:O (IV×Gh))(s:IS):RI:=match o with
  |some r=>match p (s.1,r.2)with
   |some n=>match r.2[n]? with
    |some (.mix (.i ns b) a)=>if b=c/\ns.length=a.length/\ns.length<1000 then .next (s.1,r.2.set n (.mix (.i (putN f ns) c) (DE f r.1 ns a)))else .fail
    |_=>.fail
   |none=>.fail
  |none=>.fail
section
variable{e:Expr}{p:AC}{F:FI}{k n:Nat}{fn:Ac}{fd:Cr}{x c m f:Af}{E:XK}
theorem u8(G:A3 X.prog X.w X.K X.mg X.base CX k fn fd ps (C6 X.K F))(j:AM k X.A)(l:Gl X x)(m:X.mg x=Z (.ref fn))(n:IB X.K (.ref fn)=J')(o:Binds X.K fd ps [])(a:Fn CX X E) (t:JA X (e::es) (Il X.K ga)) (hz:CA X x e es pos:=by show F4):JE X (.Call (.Name x p) (e::es) [] pos) (Dt X.K λs=>Gx F (ga s) s):=#[(Pr G j l m n o .nil a t.h hz.d hz.s hz.p).mono λN H Q u=>by
 let(f,s,r,R,e,q):=u;let(i,a,y):=Cc.mp e;show#[f,s,i,R,a,λM L sm z=>#[f,s.2,i,r,R.g.same sm,by rw[D1];show z,y,λb v B C c go=>q b v B (R.go C<|(Go.same sm).trans go) c<|(Go.same sm).trans go]]]
theorem va{K:Ap}{G:Gh}{H:Hp}{cl:Cl}(b:nsIn K C4 c=Z (Z (.ref C)))(R:Bc K φ G H)(e:G[n]?=Z cl)(h:EZ c m cl=J'):∃f d,H (φ n)=Z (.ins C f d)/\d.lookup m=J:=by
 let q:=R.cell n cl e;unfold EZ at h;split at h
 .erw[DC,decide_eq_true_eq,Bool.not_eq_true']at h;let(rfl,h):=h;let(g,a,_):=q;erw[CO,Le b]at a;show#[_,_,a,Ua h]
 .erw[DC,decide_eq_true_eq,Bool.not_eq_true']at h;let(rfl,h):=h;let(g,a,_):=q;erw[CO,Le b]at a;show#[_,_,a,Ua h]
 .cases h
theorem cy(i:nsIn X.K C4 c=Z (Z (.ref C))){H:Hp}{Q:VK}(h:Dt X.K (λs=>Ez c m F (gp s) (ga s) s) I H Q):SD C m (C6 X.K F) [] E (EM X.K gp) (Il X.K ga) I H Q:=by
 let(a,s,r,R,e,q):=h;let(n,j,e):=Cc.mp e;split at e
 .next cl k=>
  let(l,e):=Z7 e;let(f,o,p):=Cc.mp e;apply#[a,s,n,R,j,λt=>?_];let(u,w,x,y):=va i R.g k l.1;apply#[a n,u,w,rfl,.inl x,y,a,s,f,R,o,λG L sm z=>#[a,s.2,.cel n::f,r,R.g.same sm,.cons #[t,rfl] (by rw[D1];show z),p,λb v A B d go=>q b v A (R.go B<|(Go.same sm).trans go) d<|(Go.same sm).trans go]]
 .cases e
section
variable(hC:nsIn X.K C4 c=Z (Z (.ref C)))(cl:E7 X.K C)(hm:Kx X.K C m fn)(G:A3 X.prog X.w X.K X.mg X.base CX k fn fd ps (C6 X.K F))(hr:AM k X.A)(hb:Binds X.K fd ps [])(hx:Fn CX X E)(ho:JE X o (EM X.K gp))
include hC cl hm G hr hb hx ho
theorem vb(d:JA X (e::es) (Il X.K ga)) (a:AK (e::es) X.env=(O',Ar e X.env)::AK es X.env:=by show D2 rfl) (b:(AE pos (AK es X.env)).any (·.1)=O':=by rfl) (f:ME X o m (e::es) pl apos pos:=by rfl):JE X (.Call (.Attribute o m apos) (e::es) [] pos) (Dt X.K λs=>Ez c m F (gp s) (ga s) s):=#[(nk ho.h cl hm G hr hb .nil hx d.h a b f).mono λ_ _ _ h=>cy hC h]
theorem vc(b:ME X o m [] pl apos pos:=by rfl):JE X (.Call (.Attribute o m apos) [] [] pos) (Dt X.K λs=>Ez c m F (gp s) (Z []) s):=#[(nl ho.h cl hm G hr hb .nil hx b).mono λu H Q h=>by
 let(d,s,n,R,e,q):=cy (E:=E) hC h;apply#[d,s,n,R,e,λf=>?_];let(a,g,i,j,k,l,p,v,w,R2,r,t):=q f;cases r;show#[a,g,i,j,k,l,t [] H (Ak.refl H) .nil]]
end
theorem vd(L:nsIn X.K C4 c=Z (Z (.ref C)))(M:Mk X.K C fn)(G:A3 X.prog X.w X.K X.mg X.base CX n fn fd ps (C6 X.K F))(N:AM (n+1) X.A)(S:Gl X x)(T:X.mg x=Z (.ref C))(W:Binds X.K fd ps [])(Y:Fn CX X E) (f:JA X (e::es) (Il X.K ga)) (hz:CA X x e es pos:=by show F4):JE X (.Call (.Name x p) (e::es) [] pos) (Dt X.K λs=>Qq c F (ga s) s):=#[(nr M G N S T W .nil Y f.h hz.d hz.s hz.p).mono λI H Q z0=>by
 let(φ,s,r,R,e,q):=z0;let(u,l,e):=Cc.mp e;let((y,G'),hF,e):=Cc.mp e;dsimp only at e;split at e
 .cases e;apply#[φ,s,u,R,l,λvs z B hv a k f hd m=>?_];generalize j:AI (AI z k<|.own a) a (.ins C k [])=zA;let sm:Ak z zA:=j ▸ (ZO hd).trans (ZO<|Zl (show a≠k by lia) ▸ f);apply⟨_,_,.cel s.2.length::u,_,((R.g.same B).new sm f (c:=.mix (.i [] c) []) rfl ⟨[],by rw[show zA a=Z (.ins C k []) by rw[<- j,ZN],m];erw[CO,Le L,Nat.add_sub_cancel];rfl,.nil⟩),.cons ⟨by simp,by erw[Ej,if_true]⟩ (by rw[D1];show Paired.mapP hv λ_ _ q=>AJ.go (Go.new sm f rfl) q),hF,λo v H3 R3 t b=>?_⟩;let P:=((Go.same B).trans<|Go.new sm f rfl).trans b;show⟨t,q o _ H3 (R.go R3 P) ⟨B7 (by simp) b.len,by rw[b.ext _ (by simp)];erw[Ej,if_true]⟩ P⟩
 .cases e]
theorem ve{K:Ap}{L:Nat}{N:Fb}{H:Hp}{y:IV}{v:V}{ns:U Af}{xs:U IV}(a:ns.length=xs.length)(h:Paired (AJ K φ L N H) xs vs)(q:AJ K φ L N H y v):Paired (AJ K φ L N H) (DE f y ns xs) (DE f v ns vs):=by
 induction h generalizing ns with
 |nil=>cases ns with
  |nil=>show .cons q .nil
  |cons=>cases a
 |cons h t b=>cases ns with|nil=>cases a|cons=>
   erw[DE];split
   .show .cons q t
   .show .cons h<|b (by exists a)
open J in
theorem vf(t:nsIn X.K C4 c=Z (Z (.ref C)))(cl:E7 X.K C)(A:BM X.K C f)(B:JE X o (EM X.K gp))(E:JE X e (Dt X.K gx)) (G:DW e (Z (.Attribute o f pos')) pos.line X.env=Al O':=by rfl):JS X (.Assign [.Attribute o f pos'] e pos) (tK X.K λs=>Gy c f gp (gx s) s):=#[(m5 B.h E.h G).mono λD W H F=>by
   let(M,s,R,q):=F;unfold Gy at q;dsimp only at q;split at q
   .next r P=>
    apply#[M,s,r,R,P,λa v l j Q go=>?_];split at q
    .next n m=>
     apply#[a,(s.1,r.2),n,j,m,λhl=>?_];split at q
     .next ns k p w=>
      split at q
      .next T=>
       let(rfl,x,h2):=T;let(b,S,y):=j.g.cell n _ w;let(R2,d):=j.g.chg (u:=CO X.K (.i (putN f ns) k) (a n) ((DE f r.1 ns p).map un)<|DE f v ns b) (c':=.mix (.i (putN f ns) k)<|DE f r.1 ns p) w rfl rfl
        (λL N H' z Y hL hN=>by subst hL hN;show#[_,Y,ve x (Paired.mapP y λ_ _ q=>AJ.go z q) (AJ.go z Q)])
       apply#[a n,C,a n-1,ns.zip b,rfl,(show l (a n)=Z (.ins C (a n-1)<|ns.zip b) by rw[S];erw[CO,Le t]),cl,A,by rw[List.length_zip];lia,?_];let ew:AI l (a n) (CO X.K (.i (putN f ns) k) (a n) ((DE f r.1 ns p).map un)<|DE f v ns b)=AI l (a n) (.ins C (a n-1)<|E6 f v<|ns.zip b):=by
        rw[bM<|x.trans<|Lf y];erw[CO,Le t]
       rw[<- ew];show q a W _ (j.go R2 d)<|go.trans d
      .show q.elim
     .show q.elim
    .show q.elim
   .show q.elim]
end
structure BO(X:Cx)(o:Expr)(m:Af)(apos:AC)(e:Expr)(cpos:AC):Prop where
 b:E8 o m X.env (Ar o X.env)=Ar o X.env
 f:((AE cpos (AK [e] X.env)).all (λx=>!x.1)&&(FQ cpos (FR [] X.env)).all (λx=>x.1.isSome)&&decide ([e].length+([]:List DA).length+(if([]:List DA).isEmpty then 0 else 1)<30))=J'
 l:(apos.endLine==cpos.line)=J'
 s:AK [e] X.env=(O',Ar e X.env)::AK [] X.env
 p:(AE cpos (AK [] X.env)).any (·.1)=O'
theorem cz{m:Af}{e:Expr}(b:E8 o m X.env (Ar o X.env)=Ar o X.env:=by rfl) (f:((AE cpos (AK [e] X.env)).all (λx=>!x.1)&&(FQ cpos (FR [] X.env)).all (λx=>x.1.isSome)&&decide ([e].length+([]:U DA).length+(if([]:U DA).isEmpty then 0 else 1)<30))=J':=by rfl) (l:(apos.endLine==cpos.line)=J':=by rfl) (s:AK [e] X.env=(O',Ar e X.env)::AK [] X.env:=by show D2 rfl) (p:(AE cpos (AK [] X.env)).any (·.1)=O':=by rfl):BO X o m apos e cpos:=#[b,f,l,s,p]
@[simp]def Fi(p:O Nat)(o:O D)(s:IS):O (IV×Gh):=match p,o with
  |some n,Z d=>match s.2[n]? with
   |some (.dat .l a)=>if a.length<AB then Z (.val .non,s.2.set n (.dat .l (a++[d])))else J
   |_=>J
  |_,_=>J
@[simp]def MM(p:O Nat)(o:O D)(s:IS):O (IV×Gh):=match p,o with
  |some n,Z d=>match s.2[n]? with
   |some (.dat .l a)=>if A1 ZT d&&a.all (A1 ZT)then(a.findIdx? λz=>AS z d).map λj=>(.val .non,s.2.set n (.dat .l (a.eraseIdx j)))else J
   |_=>J
  |_,_=>J
section
variable{e ei:Expr}{g:IS->O D}{tpos:AC}
theorem Qr{K:Ap}{G:Gh}{H:Hp}{n:Nat}{k:Kd}{ys:U D}{ws:U V}(R:Bc K φ G H)(e:G[n]?=Z (.dat k xs))(h:Ad K (LV φ G) H ys ws):Bc K φ (G.set n (.dat k' ys)) (AI H (φ n) (CO K k' (φ n) ys ws))/\Go φ G H φ (G.set n (.dat k' ys)) (AI H (φ n) (CO K k' (φ n) ys ws)):=R.chg e rfl rfl λL N f a b c d=>by subst c d;show#[ws,b,Ad.step a.st _ _ h]
open J in
theorem vg(t:JE X o (EM X.K gp))(u:JE X e (tJ X.K g))(hz:BO X o "append" apos e cpos:=by show cz):JE X (.Call (.Attribute o "append" apos) [e] [] cpos) (Dt X.K λs=>Fi (gp s) (g s) s):=#[(HR Mb Yx Yy SM t.h (Z4 u.h Bf hz.s) hz.b hz.f hz.l hz.s hz.p).mono λA H Q w=>by
   let(a,s,r,R,ex,q):=w;dsimp only at ex;unfold Fi at ex;split at ex
   .next n d x hd=>
    split at ex
    .next B c=>
     let(y,ex):=Z7 ex;cases ex;let(i,j,k):=R.g.cell n _ c;apply#[a,s,n,R,x,λ_=>#[.inl #[rfl,i,.inl<|.inl j],a,s,d,R,hd,λv C sm z=>?_]];let(R2,m):=Qr (k':=.l) (R.g.same sm) c ((k.same sm).append<|Ad.cons z Ad.nil);show⟨a n,i,v,rfl,rfl,sm _ _ j,k.length ▸ y,q a _ _ (R.go R2<|(Go.same sm).trans m) (by erw[AJ,Ax])<|(Go.same sm).trans m⟩
    .cases ex
   .cases ex]
open J in
theorem vh(w:X.A.units+64<Av)(x:JE X o (EM X.K gp))(y:JE X e (tJ X.K g))(hz:BO X o "remove" apos e cpos:=by show cz):JE X (.Call (.Attribute o "remove" apos) [e] [] cpos) (Dt X.K λs=>MM (gp s) (g s) s):=#[(HR Mb PySem.F.slot_list_remove PySem.F.type_list_remove (t9 w) x.h (Z4 y.h Bf hz.s) hz.b hz.f hz.l hz.s hz.p).mono λM H Q z=>by
   let(a,s,r,R,ex,q):=z;dsimp only at ex;unfold MM at ex;split at ex
   .next n d B hd=>
    split at ex
    .next C i=>
     let(c,ex):=Z7 ex;rw[DC]at c;let(j,E,rfl):=B8.mp ex;let(k,m,t):=R.g.cell n _ i;apply#[a,s,n,R,B,λ_=>#[.inl #[rfl,k,.inl<|.inl m],a,s,d,R,hd,λv L sm G=>?_]];let(R2,u):=Qr (k':=.l) (R.g.same sm) i ((t.same sm).erase j);show#[a n,k,v,_,d,C,j,rfl,rfl,sm _ _ m,t.same sm,G.p,c.1,c.2,E,q a _ _ (R.go R2<|(Go.same sm).trans u) (by erw[AJ,Ax])<|(Go.same sm).trans u]
    .cases ex
   .cases ex]
@[simp]def Qs(p:IS->O Nat)(ok b:O D)(s:IS):RI:=match p s,ok,b with
  |some n,Z y,Z d=>match s.2[n]? with
   |some (.dat .d c)=>match EJ c,Dl y with
    |some a,Z k=>if DN k a&&decide (a.length<AB)then .next (s.1,s.2.set n (.dat .d (Zb (ZW a k d))))else .fail
    |_,_=>.fail
   |_=>.fail
  |_,_,_=>.fail
open J in
theorem vi(E:X.A.units+64<Av)(W:JE X o (EM X.K gp))(F:JE X ei (tJ X.K gi))(L:JE X e (tJ X.K g)) (M:∀v,assign (.Subscript o ei tpos) X.env v=(do
   let f <- DY [v] (Ar o X.env);let j <- DY [v,f] (Ar ei X.env);standAt tpos
   DY [v,f,j] (setItem f j v)
   release [v,f,j] []):=by intro _;rfl) (N:swapsWithSole [.Subscript o ei tpos] e pos.line X.env=Al O':=by rfl) (c:swappedStores [.Subscript o ei tpos] e X.env=Al J:=by rfl) (P:(Gg [.Subscript o ei tpos] X.env).map (·.2)=[assign (.Subscript o ei tpos) X.env]:=by rfl):JS X (.Assign [.Subscript o ei tpos] e pos) (tK X.K λs=>Qs gp (gi s) (g s) s):=#[(Pj L.h (Ph W.h F.h (aB E) M) N c P).mono λD' Q H T=>by
 let(b,s,R,q):=T;unfold Qs at q;dsimp only at q;split at q
 .next n y d S Y hd=>
  split at q
  .next xs u=>
   split at q
   .next kvs k l hk=>
    split at q
    .next m=>
     rw[DC,decide_eq_true_eq]at m;apply#[b,s,d,R,hd,λv H1 i hv=>#[b,s,n,R.same i,S,λ_=>#[b,s,y,R.same i,Y,λw H2 r c=>?_]]];let ex:=GO l;subst ex;let R2:=(R.same i).same r;let(vs,z3,z4):=R2.g.cell n _ u;let(t,rfl,a):=N4 z4;rw[IL hk]at c;let x:=a.put (k:=k) (Hx c.p) (hv.same r);let(z,B):=Qr (k':=.d) R2.g u x.flat;rw[JY x]at z B;let C:=(Go.same (φ:=b) (G:=s.2) (i.trans r)).trans B;apply#[b n,t,k,rfl,?_,a.keys,a.hom m.1,Ia<|Hx c.p,Hc a ▸ m.2,q b Q _ (R.go z C) C];rw[<- JY a];show z3
    .show q.elim
   .show q.elim
  .show q.elim
 .show q.elim]
end
theorem vj{P:AL}{w:Aj}{K:Ap}{mg:BC}{base:Am}{k:Nat}{f:Ac}{fd:Cr}{F:FI}(G:A3 P w K mg base BQ k f fd ["_law_script"] (C6 K F)) (h:∀ns:U Int,ns.length<=63->∃G',F [.val (.lst (ns.map D.int))] []=Z (.val (.bl J'),G')):A3 P w K mg base BQ k f fd ["_law_script"] (NB K):=G.imp λp H Q E d=>by
  let(a,ns,e,g,i,q):=d;let(G',j):=h ns i;subst e;apply#[λ_=>0,[],[.val<|.lst<|ns.map D.int],_,⟨λn c e=>by simp at e,λn m c r k s e=>by simp at e⟩,.cons ?_ .nil,j,λl v o t b go=>?_]
  .erw[AJ,Ax];show#[a,_,rfl,(LstAt.of_sq g).imp (λz=>#[λ⟨n,c,k,e,_⟩=>by simp at e,z.2]) id,Ad.ints ns]
  .erw[AJ,Ax]at b;subst b;show q o
section
variable{H:Hp}{s:Ab}{N:Fb}
def HF:U Sl->O Rv
 |[.val x]=>Z (.val x)
 |_=>J
theorem Lj(a:U D):a.map (DD HF)=a:=by induction a with
 |nil=>rfl
 |cons x c b=>rw[AU,b];rfl
theorem vl(W:Inv X pins I H s)(A:Ag)(R:A.units+40<Av){items:U Aa}{Q:Nat}{xs:U V}{l:U D}(g:s.heap.get? a=Z (Dw items Q))(m:H a=J)(n:Off X pins a)(o:Aq xs items)(r:Ad X.K N H l xs)(ok:Bl HF l) {P:PySem.Fin->Ab->Prop} (q:∀C vs,Inv X pins I (AI H a (.lst vs)) C->Ad X.K N H (Ff (CK HF) l) vs->P (.done (.ret .none)) C):wpAny (Ae X.prog X.w) A (Aw.«list.sort» #[[.ref a],[]]) P E s:=by
 let l1:=r.length;let l2:=o.length;let few:=ok.few;let S:AB=16777216:=HN;rw[list_sort_plain];apply Ao<|listItems_at g rfl ?_;let(n1,G,Y):=W.rawset (f:=λ_=>(T' [])) (its':=[]) m n g rfl;apply Ao<|Oq g rfl ?_ (by simp;lia) (by simp);apply Ao<|seqEpoch_at G rfl ?_;apply Ao<|wpAny_newTuple ?_ (by simp;lia);generalize t:({heap:=s.heap.update a<|FY λx=>(T' []),gens:=s.gens,drawn:=s.drawn,toks:=s.toks,os:=s.os}:Ab)=d at *;let I2:=Y.kept (t':=d.toks) (λb u e=>By {cls:=.type "tuple",data:=.seq items.toArray} e);generalize v:({heap:=d.heap.push {cls:=.type "tuple",data:=.seq items.toArray},gens:=d.gens,drawn:=d.drawn,toks:=d.toks,os:=d.os}:Ab)=i at *;apply Ao<|wpAny_newList ?_ (by simp);let L:=I2.kept (t':=i.toks) (λb u e=>By (Dw [] 0) e);let B:=By (Dw [] 0) (show i.heap.get? a=Z (Dw [] n1) by rw[<- v];show(By {cls:=.type "tuple",data:=.seq items.toArray} (show d.heap.get? a=Z (Dw [] n1) by rw[<- t];show G)));apply Gi ?_;apply bw (N:=N) (F:=HF) (kvs:=xs) (us:=items) (items:=items) (T:=λz=>do
  let k:=(arrOf z).map λy=>y.2;let h:=(<- seqEpoch a) != n1
  Builtin.List.listUpdate (.ref a) λ_=>k
  if let Z x:=Hy z then
   rule "list.sort.comparison-raised";throw x
  if h then
   rule "list.sort.modified";raiseError "ValueError" "list modified during sort"
  ret .none) L A R ok (by rw[Lj];show r) o ∅ λp st M hs ha hf=>?_
 let hpl:p.length=l.length:=by have:=M.length_eq;exists this
 apply Ao<|seqEpoch_at B rfl ?_;generalize c:p.map (λj=>items.getD j .none)=out at *;let(n3,g4,I4):=L.rawset (f:=λ_=>out.toArray) (its':=out) m n B rfl;rw[ha];apply Ao<|Oq B rfl ?_ (by simp) (by simp;show Ny (show out.length<=AB by rw[<- c,Bn];lia));rw[hf];erw[show(n1 != n1)=O' by simp,Fs,if_false];apply AW<|q _ _ (I4.catch m n g4 (show Aq (p.map λj=>xs.getD j .non) out by rw[<- c];show Op o p) (by rw[Bn];lia)) ?_;rw[<- hs];show T7 r p λj hj=>by have:=M.subset hj;exists this
theorem cA(r:Inv X pins I H s)(m:X.A.units+64<Av){a:U Aa}{xs:U V}{d:U D}(h:Aq xs a)(i:Ad X.K N H d xs)(ok:Bl HF d){P:PySem.Fin->Ab->Prop}
  (q:∀f c vs,H f=J->Inv X pins I (AI H f (.lst vs)) c->Ad X.K N H (Ff (CK HF) d) vs->wpAny (Ae X.prog X.w) X.A.in1 (B (.ref f)) P X.xe c):
  wpAny (Ae X.prog X.w) X.A.in1 (do
   let l <- newList a
   let _ <- DY [l] (call (.builtin "list.sort") [l])
   B l) P X.xe s:=by
 let l1:=i.length
 let n:=h.length
 let few:=ok.few
 let j:AB=16777216:=HN
 apply Ao (wpAny_newList ?_ ∅)
 let g:=Cg s.heap (o:=Dw a 0) rfl
 apply Ao (Gi (KD slot_list_sort #[_,g,rfl] entry_list_sort (vl (N:=N) (r.kept (t':=s.toks) (λb u e=>By (Dw a 0) e)) _ ?_ g r.fresh (r.off (A4 s.heap.objs.size)) h i ok λc vs p k=>#[_,rfl,q _ c vs r.fresh p k]) (args_list_sort _)))
 change X.A.units+1+1+40<_;lia
end
section
variable{M:Fb}{e:Expr}{f:AH}{x:Af}{p:AC}
def MN(o:O D):A8:=match o with
 |some (.lst a .l)=>Hz HF a
 |some (.lst a .d)=>(EJ a).bind λb=>Hz HF (b.map λp=>kD p.1)
 |_=>J
open J in
theorem vm(hc:X.calm=J')(hu:X.A.units+64<Av)(hg:Gl X x)(hm:X.mg x=J)(hv:E4 x=Z (.builtin "sorted"))(he:JE X e (tP X.K M H0 f))
  (hn:x≠"__name__":=by ext) (G:DV x:=by ext) (hs:AK [e] X.env=(O',Ar e X.env)::AK [] X.env:=by show D2 rfl):
  JE X (.Call (.Name x p) [e] [] pos) (tF X.K M H0 λρ=>MN (f ρ)):=#[by
 intro g s r H Q W zQ;let(ρ,ys,R,i,q):=zQ
 dsimp only at i
 let hsl:AB=16777216:=HN
 cases L:f ρ with
 |none=>rw[L]at i;cases i
 |some d=>
 rw[L]at i
 apply Nw (HK W hg hm hv ?_ hn G)
 apply PyProof.Rows.callWith_builtin1 ?_ hs rfl
 apply AZ ((Z4 he.h (Bf (X:=X)) hs) pos g s r H (λj t=>∃v,j=[v]/\Ak H t/\Ay X.K (Nf M ρ r) t d v) W #[ρ,d,R,L,λv t P y=>#[v,rfl,P,y]]) λus P hh=>?_
 let(j,t,C,r1,v,rfl,sm,y):=hh
 let(u,rfl,ru):=E5 r1
 let fin:∀k w j,t k=J->Inv X g r (AI t k (.lst j)) w->Ad X.K (Nf M ρ r) t ys j->EP X g r Q (.ref k) w:=λk w j c F E=>
  #[.ref k,_,F,rfl,q k j _ (sm.trans (ZO c)) (sm.none c) ZN ((E.nw λb hb=>hb.imp id λz=>by subst z;show c).same (ZO c))]
 unfold MN at i
 split at i
 .next xs hd=>
  cases hd
  let(ok,rfl):=T6 i
  let(a,ws,rfl,S,dl):=y
  cases ru
  let(its,rv,(o,n,ho,Y,hdd,hd),hz):=C.list S
  let l2:=rv.length
  show b0 kind_sorted plain_sorted entry_sorted (args_sorted1 _) (Ao (m:=checkCount "sorted" 1 1 _) (AW (Ao (wpAny_collect_seq a (T:="list") (.inl rfl) ho Y hd (λh1 k1=>cA (N:=Nf M ρ r) (B:=λl=>ret l) (C.kept (t':=P.toks) k1) hu rv dl ok λk w j c F E=>AW #[_,rfl,fin k w j c F E]) (by simp;lia)))))
 .next xs hd=>
  cases hd
  let(kvs,hun,i):=Cc.mp i
  let(ok,rfl):=T6 i
  rw[GO hun]at y
  let(a,ws,rfl,S,dl):=y
  cases ru
  let(tr,dc,pd):=IM S dl
  let(z,hs',nd,o,es,ep,e1,e2,e3,e4):=dc.1.ok C.hok
  let few:=ok.few
  let hl:kvs.length=es.size:=by have h1:=pd.kden.length;let h2:=(Ot e4).length;simp at h1 h2;lia
  apply b0 kind_sorted plain_sorted entry_sorted (args_sorted1 _) ?_
  apply Ao (m:=checkCount "sorted" 1 1 _) (AW ?_)
  apply Ao (tz (bF (es:=es) (ep:=ep) hs') (by change X.A.handled=J;show C.ok.hd hc) #[o,e1,e2,e3] (by simp at few;lia) λh1 tk acc k1 hi=>?_)
  rw[bG hi]
  show cA (N:=Nf M ρ r) (B:=λl=>ret l) (C.kept (t':=tk) k1) hu (Ot e4) pd.kden ok λk w j c F E=>AW #[_,rfl,fin k w j c F E]
 .cases i]
end
mutual
theorem Qt:∀(d:D),BF 0 d=J'
 |.non=>rfl
 |.bl _=>rfl
 |.int _=>rfl
 |.str _=>rfl
 |.ty _=>rfl
 |.tup a=>by erw[BF];show Uq a
 |.lst a k=>by erw[BF,vk,JQ,Bool.true_and];show Uq a
theorem Uq:∀(xs:U D),C0 0 xs=J'
 |[]=>rfl
 |x::xs=>by erw[C0,Qt x,Uq xs,HG]
end
theorem Gz{m:Nat}:∀{xs:U D},(∀x∈xs,BF m x=J')->C0 m xs=J'
 |[],_=>rfl
 |x::xs,h=>by erw[C0,h x Ba,Gz λy a=>h y<|Bg _ a,HG]
section
variable{K:Ap}{M:Fb}{e:Expr}{F:U Sl->O Rv}{k:Nat}{fn:Ac}{fd:Cr}{x:Af}{p:AC}{E:XK}
theorem vn(G:A3 X.prog X.w X.K X.mg X.base CX k fn fd ps (Bb K F))(a:AM k X.A)(b:Gl X x)(c:X.mg x=Z (.ref fn))(f:IB X.K (.ref fn)=J')(g:Binds X.K fd ps [])(i:Fn CX X E) (j:JA X (e::es) (Dv K M H0 fa)) (hz:CA X x e es pos:=by show F4):JE X (.Call (.Name x p) (e::es) [] pos) (Fa .d K M H0 (JH F fa)):=#[(Pr G a b c f g .nil i j.h hz.d hz.s hz.p).mono λ_ _ _ h=>pv h]
end
theorem vo{l:PySem.W.OpenLaw}{w:Aj}{K:Ap}{mg:BC}{f:Ac}{fd:Cr}{st:AG}{n:Nat}{F:FI}(d:mg "law"=Z (.ref f))(q:DI K mg "law" st ["_law_script"] a fd) (G:∀base:Am,A3 l.prog w K mg base BQ n a fd ["_law_script"] (C6 K F)) (h:∀ns:U Int,ns.length<=63->∃G',F [.val (.lst (ns.map D.int))] []=Z (.val (.bl J'),G')) (e:∀(g b pm:Aa) (i:O Ac) (c ct v:Aa),bindArgs (Jt "law" "law" (HS st) (ZX st) (Zj st) .none g b pm i c ct) #[[v],[]]=Al [(("_law_script":Af),v)]):∃fd:Cr,(∀(s:Ab) (v:Aa),BindsTo s fd #[[v],[]] [("_law_script",v)])/\∀base:Am,K.In base->base.Ns C4 mg->A3 l.prog w K mg base BQ n f fd ["_law_script"] (NB K):=by
 cases d.symm.trans q.m;let(o,p,g,b,pm,i,c,ct,j,rfl,lk,k):=q.F.ex;show#[_,λs v=>.of_eq<|e _ _ _ _ _ _ _,λbase _ _=>vj (G base) h]
section
open J in
end
section
open J in
end
def Im(a:Scope):U Af:=(a.names.tail.filter λp=>match p.2 with | .local=>J'|_=>O').map (·.1)
def Ur(own a:U Af)(b c:Scope):Bool:=decide (b.kind=.function)&&b.names.all (λx=>decide (x.2≠.cell))&&b.names.all (λx=>decide (x.2≠.free)||decide (c.names.lookup x.1=Z .cell)||decide (c.names.lookup x.1=Z .free))
 && b.names.all (λx=>decide (x.2≠.local)||decide (b.names.lookup x.1=Z .local))&&a.all (λx=>decide (b.names.lookup x=Z .free))&&decide (own++a).Nodup
theorem vr{own a:U Af}{d b:Scope}(h:Ur own a d b=J'):IF own a d b:=by
 erw[Ur,DC,DK,Bool.or_eq_true,decide_eq_true_eq]at h;let(((((f,g),i),j),k),l):=h;show#[f,g,λx c e=>(i x c).elim (λz=>z.elim (λz=>absurd e z) .inl) .inr,λx c e=>(j x c).elim (λz=>absurd e z) id,k,l]
structure XI(P:AL)(w:Aj)(K:Ap)(mg:BC)(base:Am)(X:Cx)(N:List Af)(sc:Scope):Prop where
 p:X.prog=P
 w:X.w=w
 k:X.K=K
 m:X.mg=mg
 b:X.base=base
 n:X.N=N
 s:X.env.scope=sc
 d:N.Nodup
theorem XI.nd{P:AL}{w:Aj}{K:Ap}{mg:BC}{base:Am}{N:U Af}{a:Scope}(h:XI P w K mg base X N a):X.N.Nodup:=h.n ▸ h.d
def oN(N:U Af)(oix:U Nat):U Af:=oix.filterMap (N[·]?)
structure CQ(N:List Af)(sc scope:Scope)(n:Nat)(oix:List Nat):Prop where
 S:IF (Im scope) (oN N oix) scope sc
 l:(Im scope).length=n
 x:oix.map (λj=>N[j]?)=(oN N oix).map Z
theorem MO{N:U Af}{a:Scope}{n:Nat}{oix:U Nat}(h:(Ur (Im scope) (oN N oix) scope a&&decide ((Im scope).length=n)&&decide (oix.map (λj=>N[j]?)=(oN N oix).map Z))=J'):CQ N a scope n oix:=by
 erw[DC,decide_eq_true_eq]at h;show#[vr h.1.1,h.1.2,h.2]
section
variable{K:Ap}{M:Fb}{f:VE->A8}{fd:AH}{b:D->VE->O VE}{t:VE->O Bool}{e:AH}{spos:AC}{oix:U Nat}{n i:Nat}{N:U Af}{x:Af}
variable{P:AL}{w:Aj}{K0:Ap}{mg:BC}{base:Am}
theorem MP{own a:U Af}(h:XI P w K0 mg base X N sc)(d:(own++a).Nodup)(j:∀C s2 f g c i H',XI P w K0 mg base (Do X own a scope C s2 f g c) (own++a) (Do X own a scope C s2 f g c).env.scope->JG (Do X own a scope C s2 f g c) tg (tG K i H' ws b))(l:∀C s2 f g c i H',XI P w K0 mg base (Do X own a scope C s2 f g c) (own++a) (Do X own a scope C s2 f g c).env.scope->JF (Do X own a scope C s2 f g c) ifs (BX K i H' t))(n:∀C s2 f g c i H',XI P w K0 mg base (Do X own a scope C s2 f g c) (own++a) (Do X own a scope C s2 f g c).env.scope->JE (Do X own a scope C s2 f g c) elt (tD K i H' e)):CB K X own a scope tg ifs elt ws b t e:=p8 (j _ _ _ _ _ _ _ #[h.p,h.w,h.k,h.m,h.b,rfl,rfl,d]) (l _ _ _ _ _ _ _ #[h.p,h.w,h.k,h.m,h.b,rfl,rfl,d])<|n _ _ _ _ _ _ _ ⟨h.p,h.w,h.k,h.m,h.b,rfl,rfl,d⟩
variable(h:XI P w K0 mg base X N sc)(q:CQ N sc scope n oix)(hc:X.calm=J')(hK:K0=K)
include h q hc hK
theorem vt(a:JI X tg iter (tI K M H0 f))(c:CB K X (Im scope) (oN N oix) scope tg ifs elt ws b t e)(d:∀j∈ws,j<n)(g:∀x,EF iter X.env x=Al x:=by intro _;rfl):JE X (.ListComp elt [#[tg,iter,ifs,0]] scope pos) (tF K M H0 (Zh n oix f b t e)):=by
 let(_,_,i,_,_,rfl,rfl,_):=h;let(S,rfl,x):=q;grind [p9]
theorem vu(a:N[i]?=Z x)(d:sc.names.lookup x=Z .local)(g:JI X tg iter (tI K M H0 f))(k:CB K X (Im scope) (oN N oix) scope tg ifs elt ws b t e)(l:∀j∈ws,j<n)(c:DW (.ListComp elt [#[tg,iter,ifs,0]] scope pos) (Z (.Name x pos')) spos.line X.env=Al J':=by rfl)(m:∀x,EF iter X.env x=Al x:=by intro _;rfl):JS X (.Assign [.Name x pos'] (.ListComp elt [#[tg,iter,ifs,0]] scope pos) spos) (tS K M H0 λρ=>Z0 i (Zh n oix f b t e ρ) ρ):=by
 let(_,_,o,_,_,rfl,rfl,nd):=h;let(S,rfl,x):=q;grind [qa]
theorem vz(a:N[i]?=Z x)(d:sc.names.lookup x=Z .local)(g:JI X tg iter (tI K M H0 f))(k:CB K X (Im scope) (oN N oix) scope tg ifs elt ws b t e)(l:∀j∈ws,j<n)(c:DW (.ListComp elt [#[tg,iter,ifs,0]] scope pos) (Z (.Name x pos')) spos.line X.env=Al J':=by rfl)(m:∀x,EF iter X.env x=Al x:=by intro _;rfl):JS X (.Assign [.Name x pos'] (.ListComp elt [#[tg,iter,ifs,0]] scope pos) spos) (tS K M H0 λρ=>Z5 i (ZE (Zh n oix f b t e ρ)) ρ):=by
 let(_,_,o,_,_,rfl,rfl,nd):=h;let(S,rfl,x):=q;grind [qb]
theorem vA(a:JE X iter (tQ K M H0 fd))(c:CB K X (Im scope) (oN N oix) scope tg ifs elt ws b t e)(d:∀j∈ws,j<n)(f:∀x,EF iter X.env x=Al x:=by intro _;rfl):JE X (.ListComp elt [#[tg,iter,ifs,0]] scope pos) (tF K M H0 (Zh n oix (λρ=>(fd ρ).bind Ei) b t e)):=by
 let(_,_,g,_,_,rfl,rfl,_):=h;let(S,rfl,x):=q;grind [uv]
theorem vB(a:N[i]?=Z x)(d:sc.names.lookup x=Z .local)(f:JE X iter (tQ K M H0 fd))(g:CB K X (Im scope) (oN N oix) scope tg ifs elt ws b t e)(k:∀j∈ws,j<n)(c:DW (.ListComp elt [#[tg,iter,ifs,0]] scope pos) (Z (.Name x pos')) spos.line X.env=Al J':=by rfl)(l:∀x,EF iter X.env x=Al x:=by intro _;rfl):JS X (.Assign [.Name x pos'] (.ListComp elt [#[tg,iter,ifs,0]] scope pos) spos) (tS K M H0 λρ=>Z0 i (Zh n oix (λρ=>(fd ρ).bind Ei) b t e ρ) ρ):=by
 let(_,_,m,_,_,rfl,rfl,nd):=h;let(S,rfl,x):=q;grind [uw]
end
def All{a:Type}(p:a->Prop):U a->Prop
 |[]=>True
 |x::r=>p x/\All p r
theorem All.get{a:Type}{p:a->Prop}:∀{l:U a}(i:Nat){x:a},All p l->l[i]?=Z x->p x
 |_::_,0,_,h,e=>by cases e;show h.1
 |_::_,i+1,_,h,e=>All.get i h.2 (by exists e)
 |[],_,_,_,e=>by simp at e
def DX(K:Ap)(mg:BC):Af×AG×U Af->Prop
 |(a,st,b)=>∃fn fd,DI K mg a st b fn fd
def MX(K:Ap)(C:Ac):Af×Af×AG×U Af->Prop
 |(b,a,st,c)=>∃fn fd,MI K C b a st c fn fd
section
variable(P:AL)(w:Aj)(K:Ap)(mg:BC)(base:Am)
def OF(k:Nat)(nm:Af)(sp:Sp):Prop:=∃st a fn fd,DI K mg nm st a fn fd/\A3 P w K mg base BQ k fn fd a sp
def OM(C:Ac)(c:D0)(k:Nat)(nm:Af)(sp:Sp):Prop:=∃a st b fn fd,MI K C nm a st b fn fd/\A3 P w K mg base c k fn fd b sp
end
section
variable{P:AL}{w:Aj}{K:Ap}{mg:BC}{base:Am}{nm qual:Af}{st:AG}{k:Nat}{g:AA}{gi:Bw}(N:U Af)
theorem BU(D:DX K mg (nm,st,ps)) (l:∀(fn:Ac) (i:Aa) (A:Ag) (outer:U Env) (s:Ab) (H:Hp) (E:XK) (M:Fb) (H0:Hp),XI P w K mg base (Et BQ P w K mg base N nm (Zj st) fn i A outer s H E).nox N (Zj st)->AM k (A.deeper (Bk nm (Zj st) s.heap.objs.size fn i))->JB (Et BQ P w K mg base N nm (Zj st) fn i A outer s H E).nox (ZX st) (tS K M H0 g)) (S:FS N ps (Zj st):=by show Qk) (j:ps.length<=N.length:=by ext):OF P w K mg base (k+1) nm (Bb K (A7 ps.length N.length g)):=let⟨fn,fd,D⟩:=D
 #[st,ps,fn,fd,D,tV D S (λa b c d e f g h r=>l fn a b c d e f g h #[rfl,rfl,rfl,rfl,rfl,rfl,rfl,S.nd] r) rfl j]
theorem cB{fn:Ac}{fd:Cr}(D:DI K mg nm st ps fn fd) (i:∀(g:Aa) (A:Ag) (outer:U Env) (s:Ab) (H:Hp) (E:XK),XI P w K mg base (Et BQ P w K mg base N nm (Zj st) fn g A outer s H E).nox N (Zj st)->AM k (A.deeper (Bk nm (Zj st) s.heap.objs.size fn g))->JB (Et BQ P w K mg base N nm (Zj st) fn g A outer s H E).nox (ZX st) (tK K gi)) (S:FS N ps (Zj st):=by show Qk) (h:ps.length<=N.length:=by ext):A3 P w K mg base BQ (k+1) fn fd ps (C6 K (Ey ps.length N.length gi)):=u6 D S (λa b c d e f r=>i a b c d e f #[rfl,rfl,rfl,rfl,rfl,rfl,rfl,S.nd] r) rfl h
theorem OA(D:DX K mg (nm,st,ps)) (c:∀(fn:Ac) (a:Aa) (A:Ag) (outer:U Env) (s:Ab) (H:Hp) (E:XK),XI P w K mg base (Et BQ P w K mg base N nm (Zj st) fn a A outer s H E).nox N (Zj st)->AM k (A.deeper (Bk nm (Zj st) s.heap.objs.size fn a))->JB (Et BQ P w K mg base N nm (Zj st) fn a A outer s H E).nox (ZX st) (tK K gi)) (S:FS N ps (Zj st):=by show Qk) (b:ps.length<=N.length:=by ext):OF P w K mg base (k+1) nm (C6 K (Ey ps.length N.length gi)):=let⟨fn,fd,D⟩:=D
 #[st,ps,fn,fd,D,cB N D (c fn) S b]
theorem MR(D:MX K C (nm,qual,st,ps)) (i:∀(fn:Ac) (g:Aa) (A:Ag) (outer:U Env) (s:Ab) (H:Hp) (E:XK),XI P w K mg base (Et BQ P w K mg base N qual (Zj st) fn g A outer s H E).nox N (Zj st)->AM k (A.deeper (Bk qual (Zj st) s.heap.objs.size fn g))->JB (Et BQ P w K mg base N qual (Zj st) fn g A outer s H E).nox (ZX st) (tK K gi)) (S:FS N ps (Zj st):=by show Qk) (h:ps.length<=N.length:=by ext):OM P w K mg base C BQ (k+1) nm (C6 K (Ey ps.length N.length gi)):=let⟨fn,fd,D⟩:=D
 #[qual,st,ps,fn,fd,D,u7 D S (λa b c d e f r=>i fn a b c d e f #[rfl,rfl,rfl,rfl,rfl,rfl,rfl,S.nd] r) rfl h]
end
section
variable{P:AL}{w:Aj}{K K':Ap}{mg:BC}{base:Am}{N:U Af}{M:Fb}{k n:Nat}{c m x y:Af}{F:U Sl->O Rv}{FF:FI}{e:Expr}{fe:AH}{p kpos:AC}(h:XI P w K mg base X N sc)(r:AM n X.A)
include h r
theorem vD(G:OF P w K mg base k x (Bb K F))(a:K=K')(b:JA X (e::es) (Dv K' M H0 fa))(c:k<=n)(d:Gl X x)(hz:CA X x e es pos):JE X (.Call (.Name x p) (e::es) [] pos) (tD K' M H0 (Zi F fa)):=by
 let(rfl,rfl,rfl,rfl,rfl,_,_,_):=h;let(_,_,_,_,D,G):=G;grind [tE]
theorem vE(G:OF P w K mg base k x (Bb K F))(a:K=K')(b:JA X (e::es) (Dv K' M H0 fa))(c:k<=n)(d:Gl X x)(hz:CA X x e es pos):JE X (.Call (.Name x p) (e::es) [] pos) (tF K' M H0 (Fw F fa)):=by
 let(rfl,rfl,rfl,rfl,rfl,_,_,_):=h;let(_,_,_,_,D,G):=G;grind [tH]
theorem vF(G:OF P w K mg base k x (Bb K F))(a:K=K')(c:JA X (e::es) (Dv K' M H0 fa))(f:k<=n)(g:Gl X x)(hz:CA X x e es pos):JE X (.Call (.Name x p) (e::es) [] pos) (Fa .d K' M H0 (JH F fa)):=by
 let(rfl,rfl,rfl,rfl,rfl,_,_,_):=h;subst a;let(_,_,_,_,D,G):=G;show vn G (r.mono f) g D.m D.F.kp D.b (E:=E0) KI c hz
theorem vG(G:OF P w K mg base k x (C6 K FF))(a:K=K')(c:JA X (e::es) (Il K' ga))(d:k<=n)(f:Gl X x)(hz:CA X x e es pos):JE X (.Call (.Name x p) (e::es) [] pos) (Dt K' λs=>Gx FF (ga s) s):=by
 let(rfl,rfl,rfl,rfl,rfl,_,_,_):=h;subst a;let(_,_,_,_,D,G):=G;show u8 G (r.mono d) f D.m D.F.kp D.b (E:=E0) KI c hz
theorem cC(G:OF P w K mg base k y (Bb K F))(f:mg x=J)(g:K=K')(i:JE X e (tP K' M H0 fe))(j:k+2<=n:=by ext)(l:Gl X x:=by rfl)(o:E4 x=Z (.builtin "sorted"):=by rfl)(c:Gl X y:=by rfl) (q:x≠"__name__":=by ext) (d:DV x:=by ext) (a:DV y:=by ext) (s:AK [e] X.env=(O',Ar e X.env)::AK [] X.env:=by show D2 rfl):JE X (.Call (.Name x p) [e] [#[Z "key",.Name y p2,kpos]] pos) (tF K' M H0 (Ld F fe)):=by
 let(rfl,rfl,rfl,rfl,rfl,_,_,_):=h;subst g;let(_,_,_,_,D,G):=G;show sR G (r.mono j) l f o c D.m D.b i q d a s
variable(cb:CI K mg c C)
include cb
theorem vH(G:OM P w K mg base C BQ k "__init__" (C6 K FF))(a:K=K')(d:JA X (e::es) (Il K' ga))(f:k+1<=n:=by ext)(g:Gl X c:=by rfl)(hz:CA X c e es pos:=by show F4):JE X (.Call (.Name c p) (e::es) [] pos) (Dt K' λs=>Qq c FF (ga s) s):=by
 let(rfl,rfl,rfl,rfl,rfl,_,_,_):=h;subst a;let(_,_,_,_,_,D,G):=G;show vd cb.cof (cb.mkB D) G (r.mono f) g cb.m D.b (E:=E0) KI d hz
theorem Qu(G:OM P w K mg base C BQ k m (C6 K FF))(f:K=K')(g:JE X o (EM K' gp))(i:JA X (e::es) (Il K' ga))(j:k<=n:=by ext) (a:AK (e::es) X.env=(O',Ar e X.env)::AK es X.env:=by show D2 rfl) (d:(AE pos (AK es X.env)).any (·.1)=O':=by rfl) (l:ME X o m (e::es) pl apos pos:=by rfl):JE X (.Call (.Attribute o m apos) (e::es) [] pos) (Dt K' λs=>Ez c m FF (gp s) (ga s) s):=by
 let(rfl,rfl,rfl,rfl,rfl,_,_,_):=h;subst f;let(_,_,_,_,_,D,G):=G;show vb cb.cof cb.cl D.M G (r.mono j) D.b (E:=E0) KI g i a d l
theorem vI(G:OM P w K mg base C BQ k m (C6 K FF))(a:K=K')(d:JE X o (EM K' gp))(e:k<=n:=by ext)(f:ME X o m [] pl apos pos:=by rfl):JE X (.Call (.Attribute o m apos) [] [] pos) (Dt K' λs=>Ez c m FF (gp s) (Z []) s):=by
 let(rfl,rfl,rfl,rfl,rfl,_,_,_):=h;subst a;let(_,_,_,_,_,D,G):=G;show vc cb.cof cb.cl D.M G (r.mono e) D.b (E:=E0) KI d f
end
section
variable{K:Ap}{M:Fb}{st:AG}{g:AA}{i:Nat}
@[simp]def GY(i:Nat)(g:AA):AA:=λa=>g (JM i a)
theorem vJ(h:JS X st (tS K M H0 g)):JS X st (tS K M H0 (GY i g)):=pK i h
end
end Internal
variable{gp:Internal.IS->O Nat}{gx:Internal.IS->O (Internal.IV×Internal.Gh)}{ga:Internal.IS->O (U Internal.IV)}{gi:Internal.IS->O Internal.D}{gf:Internal.IS->O (U Internal.D)}{G':Internal.Gh}
namespace Internal
open PySem PySem.Spec PyProof.Rows
@[simp]theorem ZD8(a b:Int):AS (.int a) (.int b)=decide (a=b):=by show(a==b)=_;by_cases h:a=b<;>simp[h]
@[simp]theorem ZEf(a b:Af):AS (.str a) (.str b)=decide (a=b):=by show(a==b)=_;by_cases h:a=b<;>simp[h]
@[simp]theorem ZDZ(a b:Bool):AS (.bl a) (.bl b)=decide (a=b):=by show(a==b)=_;by_cases h:a=b<;>simp[h]
@[simp]theorem ZEj:AS .non .non=J':=id rfl
@[simp]theorem ZD1(a:Bool)(b:Int):AS (.bl a) (.int b)=decide ((if a then 1 else 0)=b):=by show((if a then 1 else 0)==b)=_;by_cases h:(if a then 1 else 0)=b<;>simp[h]
@[simp]theorem ZEe(a:Int)(b:Bool):AS (.int a) (.bl b)=decide (a=(if b then 1 else 0)):=by show(a==(if b then 1 else 0))=_;by_cases h:a=(if b then 1 else 0)<;>simp[h]
@[simp]theorem ZEg(a:Int)(b:Af):AS (.int a) (.str b)=O':=id rfl
@[simp]theorem ZD3(a:Af)(b:Int):AS (.str a) (.int b)=O':=id rfl
@[simp]theorem ZD9(a:Bool)(b:Af):AS (.bl a) (.str b)=O':=id rfl
@[simp]theorem ZEb(a:Af)(b:Bool):AS (.str a) (.bl b)=O':=id rfl
@[simp]theorem ZEk(b:Int):AS .non (.int b)=O':=id rfl
@[simp]theorem ZEt(b:Af):AS .non (.str b)=O':=id rfl
@[simp]theorem ZEa(b:Bool):AS .non (.bl b)=O':=id rfl
@[simp]theorem ZEn(b:Int):AS (.int b) .non=O':=id rfl
@[simp]theorem ZD5(b:Af):AS (.str b) .non=O':=id rfl
@[simp]theorem ZEr(b:Bool):AS (.bl b) .non=O':=id rfl
@[simp]theorem ZEv(a b:U D):AS (.tup a) (.tup b)=CU a b:=id rfl
@[simp]theorem ZEi(a b:U D):AS (.lst a) (.lst b)=CU a b:=id rfl
@[simp]theorem ZD2(a b:U D):AS (.tup a) (.lst b)=O':=id rfl
@[simp]theorem ZEp(a b:U D):AS (.lst a) (.tup b)=O':=id rfl
@[simp]theorem ZD0(a:U D)(b:Int):AS (.tup a) (.int b)=O':=id rfl
@[simp]theorem ZEh(a:U D)(b:Af):AS (.tup a) (.str b)=O':=id rfl
@[simp]theorem ZEd(a:U D):AS (.tup a) .non=O':=id rfl
@[simp]theorem ZEq(a:U D)(b:Bool):AS (.tup a) (.bl b)=O':=id rfl
@[simp]theorem ZEl(a:U D)(b:Int):AS (.int b) (.tup a)=O':=id rfl
@[simp]theorem ZDY(a:U D)(b:Af):AS (.str b) (.tup a)=O':=id rfl
@[simp]theorem ZEs(a:U D):AS .non (.tup a)=O':=id rfl
@[simp]theorem ZEc(a:U D)(b:Bool):AS (.bl b) (.tup a)=O':=id rfl
@[simp]theorem ZEm(a:U D)(b:Int):AS (.lst a) (.int b)=O':=id rfl
@[simp]theorem ZD4(a:U D)(b:Af):AS (.lst a) (.str b)=O':=id rfl
@[simp]theorem ZEw(a:U D):AS (.lst a) .non=O':=id rfl
@[simp]theorem ZD7(a:U D)(b:Bool):AS (.lst a) (.bl b)=O':=id rfl
@[simp]theorem ZEo(a:U D)(b:Int):AS (.int b) (.lst a)=O':=id rfl
@[simp]theorem ZD6(a:U D)(b:Af):AS (.str b) (.lst a)=O':=id rfl
@[simp]theorem ZEu(a:U D):AS .non (.lst a)=O':=id rfl
@[simp]theorem ZDP(a:U D)(b:Bool):AS (.bl b) (.lst a)=O':=id rfl
@[simp]theorem ZDA:CU [] []=J':=by erw[CU]
@[simp]theorem ZCV(a b:D)(c bs:U D):CU (a::c) (b::bs)=(AS a b&&CU c bs):=by erw[CU]
@[simp]theorem ZDQ(b:D)(bs:U D):CU [] (b::bs)=O':=by erw[CU]
@[simp]theorem ZDS(b:D)(bs:U D):CU (b::bs) []=O':=by erw[CU]
@[simp]theorem vK:∀(a b:U Int),CU (a.map D.int) (b.map D.int)=decide (a=b)
  |[],[]=>by simp
  |[],_::_=>by simp
  |_::_,[]=>by simp
  |x::a,y::b=>by simp[vK a b]
@[simp]theorem ZDr(n:Nat)(a:U Int):(a.map D.int).all (A1 n)=J':=by
  rw[DK];intro x b;let(i,_,rfl):=Bi.mp b;cases n<;>rfl
@[simp]theorem ZDX(t n:String):Ml t n=(t==n||(t=="bool"&&n=="int")):=rfl
@[simp]theorem ZCN:Hv=["NoneType","bool","int","str","tuple","list"]:=rfl
@[simp]theorem FJ:ZT=12:=rfl
@[simp]theorem ZDl:Dk.tysL []=Z []:=rfl
@[simp]theorem ZCU(n:String)(r:U D):Dk.tysL (.ty n::r)=(Dk.tysL r).map (n::·):=rfl
@[simp]theorem ZDT(ns:U Int):Ht (ns.map D.int)=Z ns:=To ns
@[simp]theorem cD:∀(ns:U Bool),JR (ns.map D.bl)=Z ns
  |[]=>rfl
  |n::ns=>by erw[AU,JR,cD ns];rfl
theorem ZA{c:Type}{b:D->VE->O VE}{e:AH}{ρ:VE}(G F:c->D):∀(xs:U c),(∀x∈xs,∃a,b (G x) ρ=Z a/\e a=Z (F x))->Di b (λ_=>Z J') e ρ (xs.map G)=Z (xs.map F)
 |[],_=>rfl
 |x::xs,h=>by
  let(a,d,f):=h x Ba;erw[AU,Di,d,f,Zr,Df,ZA G F xs λy g=>h y<|Bg _ g]
@[simp]theorem ZB{a:Type}(l:U a)(h:l.length<=1000000):Zf (Z l)=Z l:=by
  have:l.length<=AB:=Bu h (by ext);simp[this]
theorem vM{a c:Type}(f:a->c)(xs:U a)(lo b:O Int):Fc (xs.map f) lo b=(Fc xs lo b).map f:=by simp_all [Fc]
theorem Us{b:Type}(xs:U b)(k:Int)(h:0<=k):Fc xs J (Z k)=xs.take k.toNat:=by
 unfold Fc;rw[show HT.sIx xs.length 0 J=0 from rfl,show HT.sIx xs.length xs.length (Z k)=min k.toNat xs.length by erw[HT.sIx];split<;>lia,NR,Nat.sub_zero];rcases Nat.le_total k.toNat xs.length with a|a
 .rw[Nat.min_eq_left a]
 .rw[Nat.min_eq_right a,List.take_length,Hu a]
theorem Ut{b:Type}(xs:U b)(k:Int)(h:0<=k):Fc xs (Z k) J=xs.drop k.toNat:=by
 unfold Fc;rw[show HT.sIx xs.length xs.length J=xs.length from rfl,show HT.sIx xs.length 0 (Z k)=min k.toNat xs.length by erw[HT.sIx];split<;>lia];rcases Nat.le_total k.toNat xs.length with a|a
 .simp_all [Nat.min_eq_left,Hu,List.length_drop,A4]
 .rw[Nat.min_eq_right a,List.drop_length,List.drop_of_length_le a,List.take_nil]
theorem Qv(j:Int)(a:0<=j)(h:j<1000000000):EW [.int j]=Z ((Bt j.toNat).map λ(k:Nat)=>D.int k):=by grind [GN,EW,KS]
theorem J9(n:Nat)(h:n<1000000000):EW [.int n]=Z ((Bt n).map λ(k:Nat)=>D.int k):=by
 rw[Qv _ (Lk n)<|Int.lt_toNat.mp h,GR]
theorem vN(i j:Int)(c:0<=i)(a:i<1000000000)(h:j<1000000000)(b : -1000000000<j):NJ [.int i,.int j]=Z ((Bt (j-i).toNat).map λ(k:Nat)=>D.int (i+(k:Int))):=by
 erw[NJ];rw[KS #[∅,by show Int.lt_of_add_one_le a,by show Int.le_of_lt b,by show Int.lt_of_add_one_le h]];rfl
theorem Uu(xs ys:U D)(h:xs.length+ys.length<=1000000):Zo (.lst xs) (.lst ys)=Z (.lst (xs++ys)):=by
 erw[Zo];rw[if_pos<|Bu h (by ext)]
theorem Uv(neg:Bool)(c:Nat)(z:Af):EH neg (.str #[(T' [c])]) (.str z)=Z (.bl (if neg then !decide (c∈z.cps.toList)else decide (c∈z.cps.toList))):=by
 let h:=StrLaws.found_one z c;simp_all
@[simp]theorem Uw(d:D):Fv (.val d)=d:=rfl
@[simp]theorem Ka(xs:U D)(b:Kd):Fv (.own xs b)=.lst xs b:=rfl
end Internal
set_option backward.eqns.nonrecursive true
set_option tactic.hygienic true
namespace Internal
open PySem PySem.Spec PyProof.Rows PySem.W
section
variable{P:AL}{w:Aj}{K:Ap}{mg:BC}{base:Am}{N:U Af}{n:Nat}(h:XI P w K mg base X N sc)(r:AM n X.A)
include h
include r in
end
@[simp]def MS:Cl->O (U IV)
  |.dat .l a=>Z (a.map .val)
  |.mix .l a=>Z a
  |_=>J
@[simp]def setIt(c:Cl)(j:Nat)(x:IV):Cl:=match c,x with
  |.dat .l a,.val d=>.dat .l (a.set j d)
  |.dat .l a,x=>.mix .l ((a.map .val).set j x)
  |.mix .l a,x=>.mix .l (a.set j x)
  |c,_=>c
@[simp]def Qw(p:IS->O Nat)(fi:IS->O D)(o:O (IV×Gh))(s:IS):RI:=match o with
  |some r=>match p (s.1,r.2),fi (s.1,r.2)with
   |some n,Z (.int k)=>match r.2[n]? with
    |some c=>match MS c with
     |some a=>match Eb a.length k with
      |some j=>.next (s.1,r.2.set n (setIt c j r.1))
      |none=>.fail
     |none=>.fail
    |none=>.fail
   |_,_=>.fail
  |none=>.fail
@[simp]def MU(s:IS)(p:O Nat)(o:O D):O Nat:=match p,o with
  |some n,Z (.int k)=>match s.2[n]? with
   |some (.mix .l a)=>match atI a k with
    |some (.cel j)=>Z j
    |_=>J
   |_=>J
  |_,_=>J
@[simp]def MV:U IV->O (U D)
  |[]=>Z []
  |.val d::r=>Zr (Z d) (MV r)
  |_=>J
@[simp]def OB(n j:Nat)(G:Gh):O Gh:=match G[n]? with
  |some (.mix .l a)=>match a[j]? with
   |some (.cel m)=>match G[m]? with
    |some (.dat k b)=>if m=n then J else(MV (a.set j (.val (.lst b k)))).map λc=>(G.set m .dead).set n (.dat .l c)
    |_=>J
   |_=>J
  |_=>J
@[simp]def Qx(fn a:IS->O Nat)(g:IS->RI)(s:IS):RI:=match fn s,a s with
  |some n,Z j=>match OB n j s.2 with
   |some b=>g (s.1,b)
   |none=>.fail
  |_,_=>.fail
section
variable{K:Ap}{L:Nat}{N:Fb}{H:Hp}{G:Gh}
theorem cE:∀{xs:U D}{vs:U V},Ad K N H xs vs->Paired (AJ K φ L N H) (xs.map IV.val) vs
 |[],_,h=>by erw[Ad]at h;subst h;show .nil
 |x::xs,_,h=>by erw[Ad]at h;let(v,r,rfl,q,t):=h;show .cons q<|cE t
theorem OC{x:IV}{v:V}:∀{xs:U IV}{vs:U V}(j:Nat),Paired (AJ K φ L N H) xs vs->AJ K φ L N H x v->Paired (AJ K φ L N H) (xs.set j x) (vs.set j v)
 |_,_,_,.nil,_=>.nil
 |_,_,0,.cons _ t,q=>.cons q t
 |_,_,j+1,.cons h t,q=>.cons h<|OC j t q
theorem cF:∀{xs:U IV}{a:U D}{vs:U V},MV xs=Z a->Paired (AJ K φ L N H) xs vs->Ad K N H a vs
 |[],_,_,e,.nil=>by cases e;show Ad.nil
 |.val d::r,_,_,e,.cons h t=>by
  let(x,y,b,c,rfl):=HW e;cases b;show Ad.cons h<|cF c t
 |.no::_,_,_,e,_=>by cases e
 |.cel _::_,_,_,e,_=>by cases e
 |.exc _::_,_,_,e,_=>by cases e
theorem Ux{x:IV}:∀{xs:U IV}{vs:U V}{j:Nat},Paired (AJ K φ L N H) xs vs->xs[j]?=Z x->∃v,vs[j]?=Z v/\AJ K φ L N H x v
 |_,_,0,.cons h _,e=>by cases e;show#[_,rfl,h]
 |_,_,j+1,.cons _ t,e=>by exists Ux (j:=j) t (by exists e)
theorem Bc.its(R:Bc K φ G H){n:Nat}{c:Cl}{xs:U IV}(e:G[n]?=Z c)(h:MS c=Z xs):∃vs,H (φ n)=Z (.lst vs)/\Paired (AJ K φ G.length (LV φ G) H) xs vs/\c.kd=Z .l:=by
 let q:=R.cell n c e;unfold MS at h;split at h
 .cases h;let(vs,a,b):=q;show#[vs,a,cE b,rfl]
 .cases h;let(vs,a,b):=q;show#[vs,a,b,rfl]
 .cases h
theorem Bc.setIt(R:Bc K φ G H){n j:Nat}{c:Cl}{xs:U IV}{vs:U V}{x:IV}{v:V}(e:G[n]?=Z c)(h:MS c=Z xs)(w:H (φ n)=Z (.lst vs))(o:Paired (AJ K φ G.length (LV φ G) H) xs vs)(k:AJ K φ G.length (LV φ G) H x v):Bc K φ (G.set n (setIt c j x)) (AI H (φ n) (.lst (vs.set j v)))/\Go φ G H φ (G.set n (setIt c j x)) (AI H (φ n) (.lst (vs.set j v))):=by
 unfold MS at h;split at h
 .next b=>
  cases h;let(p,t,y):=R.cell n _ e;rw[w]at t;let z:vs=p:=by simpa[CO]using t
  subst z;cases x with
  |no=>show k.elim
  |val d=>show R.chg (c':=.dat .l<|b.set j d) (u:=CO K .l (φ n) (b.set j d)<|vs.set j v) e rfl rfl λL N s a f g i=>by subst g i;show#[_,f,Ad.set j (Ad.step a.st _ _ y)<|Ax.step a.st _ _ k]
  |exc m=>show R.chg (c':=.mix .l<|(b.map .val).set j<|.exc m) (u:=CO K .l (φ n) (((b.map IV.val).set j<|.exc m).map un)<|vs.set j v) e rfl rfl λL N s a f g i=>by subst g i;show#[_,f,OC j (Paired.mapP o λ_ _ q=>AJ.go a q) (AJ.go a k)]
  |cel m=>show R.chg (c':=.mix .l<|(b.map .val).set j<|.cel m) (u:=CO K .l (φ n) (((b.map IV.val).set j<|.cel m).map un)<|vs.set j v) e rfl rfl λL N s a f g i=>by subst g i;show#[_,f,OC j (Paired.mapP o λ_ _ q=>AJ.go a q) (AJ.go a k)]
 .next b=>
  cases h;let A:Internal.setIt (.mix .l xs) j x=.mix .l (xs.set j x):=by cases x<;>rfl
  rw[A];show R.chg (c':=.mix .l<|xs.set j x) (u:=CO K .l (φ n) ((xs.set j x).map un)<|vs.set j v) e rfl rfl λL N s a f g i=>by subst g i;show#[_,f,OC j (Paired.mapP o λ_ _ q=>AJ.go a q) (AJ.go a k)]
 .cases h
theorem Bc.frz(R:Bc K φ G H){n:Nat}(h:OB n j G=Z G'):Bc K φ G' H/\Go φ G H φ G' H:=by
 unfold OB at h;split at h
 .next z A=>
  split at h
  .next m F=>
   split at h
   .next k L em=>
    split at h
    .cases h
    .next B=>
     let(d,hd,rfl):=B8.mp h;let hn:n<G.length:=(Cm.mp A).1;let hm:m<G.length:=(Cm.mp em).1;let at_:∀{i:Nat} {c:Cl},((G.set m .dead).set n<|.dat .l d)[i]?=Z c->(i=n/\c=.dat .l d)\/(i=m/\c=.dead)\/(i≠m/\i≠n/\G[i]?=Z c):=λ{i c} e=>by
      grind
     let b:∀{i:Nat} {c:Cl} {y:Kd},((G.set m .dead).set n<|.dat .l d)[i]?=Z c->c.kd=Z y->i≠m/\∃p t,G[i]?=Z p/\p.kd=Z t:=λ{i c y} e u=>by
      rcases at_ e with⟨rfl,rfl⟩|⟨rfl,rfl⟩|⟨f,r,C⟩
      .show#[Bz B,_,_,A,rfl]
      .cases u
      .show#[f,_,_,C,u]
     let sub:∀a,LV φ ((G.set m .dead).set n<|.dat .l d) a->LV φ G a:=λa ⟨i,c,y,e,u,w⟩=>by
      let(_,p,t,x,s):=b e u;show#[i,p,t,x,s,w]
     let M:¬ LV φ ((G.set m .dead).set n<|.dat .l d) (φ m):=λ⟨i,c,y,e,u,w⟩=>by
      let(ne,p,t,x,s):=b e u;show ne<|R.inj i m p _ t k x em s rfl w
     let go:Go φ G H φ ((G.set m .dead).set n<|.dat .l d) H:=#[λ_ _=>rfl,by simp,λa o e _=>e,λa E=>.inl<|sub a E];apply⟨⟨λi c e=>?_,λi i2 c p k1 t e x f r w=>?_⟩,go⟩
     .rcases at_ e with⟨rfl,rfl⟩|⟨rfl,rfl⟩|⟨f,r,C⟩
      .let(g,N,W):=R.cell _ _ A;let(P,Q,T):=R.cell _ _ em;let(v,hv,hl,rfl):=Ux W F;let q3:=Paired.mapP W λ_ _ q=>AJ.go go q;have:Paired (AJ K φ ((G.set m .dead).set i<|.dat .l d).length (LV φ<|(G.set m .dead).set i<|.dat .l d) H) (z.set j<|.val<|.lst L k) (g.set j<|.ref<|φ m):=OC j q3 (by
        erw[AJ,Ax];show#[φ m,P,rfl,.of M Q,T.nw λa E=>.inl<|sub a E])
       let S:g.set j (.ref<|φ m)=g:=by
        apply(IG);grind
       rw[S]at this;show#[g,N,cF hd this]
      .trivial
      .let q:=R.cell i c C;cases c with
       |dead=>trivial
       |dat k z=>let(g,f,r):=q;show#[g,f,Ad.step go.st _ _ r]
       |mix k z=>let(g,f,r):=q;show#[g,f,Paired.mapP r λ_ _ q=>AJ.go go q]
     .let(_,Y,l1,f1,g1):=b e f;let(_,d2,l2,f2,g2):=b x r;show R.inj i i2 Y d2 l1 l2 f1 f2 g1 g2 w
   .cases h
  .cases h
 .cases h
end
section
variable{e ei:Expr}{tpos:AC}{b:U AG}{g:IS->RI}
theorem vO(fn c:IS->O Nat)(h:JB X b (tK X.K g)):JB X b (tK X.K λs=>Qx fn c g s):=#[λa st d H D j e=>by
 let(f,s,R,q):=e;unfold Qx at q;dsimp only at q;split at q
 .split at q
  .next i=>
   let(R2,go):=R.g.frz i;show h.h a st d H D j #[f,_,R.go R2 go,C1.from go q]
  .show q.elim
 .show q.elim]
theorem vP(z:JE X o (EM X.K gp))(A:JE X ei (tJ X.K gi))(B:JE X e (Dt X.K gx)) (C:∀v,assign (.Subscript o ei tpos) X.env v=(do
   let b <- DY [v] (Ar o X.env);let f <- DY [v,b] (Ar ei X.env);standAt tpos
   DY [v,b,f] (setItem b f v)
   release [v,b,f] []):=by intro _;rfl) (E:swapsWithSole [.Subscript o ei tpos] e pos.line X.env=Al O':=by rfl) (d:swappedStores [.Subscript o ei tpos] e X.env=Al J:=by rfl) (G:(Gg [.Subscript o ei tpos] X.env).map (·.2)=[assign (.Subscript o ei tpos) X.env]:=by rfl):JS X (.Assign [.Subscript o ei tpos] e pos) (tK X.K λs=>Qw gp gi (gx s) s):=#[(Pj B.h (Ph z.h A.h X1 C) E d G).mono λD' W H F=>by
 let(L,s,R,q):=F;unfold Qw at q;dsimp only at q;split at q
 .next r M=>
  apply#[L,s,r,R,M,λa v H1 i N l=>?_];split at q
  .next n k P Q=>
   apply#[a,(s.1,r.2),n,i,P,λ_=>#[a,(s.1,r.2),.int k,i,Q,λw H2 m d=>?_]];erw[Ax]at d;subst d;split at q
   .next c p=>
    split at q
    .next xs t=>
     split at q
     .next j T=>
      let R2:=i.same m;let(S,u,x,_):=R2.g.its p t;let(Y,g3):=R2.g.setIt (j:=j) p t u x (AJ.go (Go.same m) N);let y:=(l.trans<|Go.same m).trans g3;show⟨a n,S,k,j,rfl,rfl,u,by rw[<- Lf x];show T,q a W _ (R.go Y y) y⟩
     .show q.elim
    .show q.elim
   .show q.elim
  .show q.elim
 .show q.elim]
@[simp]def Kb(s:IS)(i:Nat):O D:=match s.1[i]? with
  |some (.val d)=>Z d
  |_=>J
theorem vQ{i:Nat}{x:Af}{a:AC}(l:JE X o (EM X.K gp))(p:NV X i x:=by show Ec)(r:LW (.Name x a):=by show λ_ _=>rfl):JE X (.Subscript o (.Name x a) pos) (EM X.K λs=>MU s (gp s) (Kb s i)):=#[(XW FW l.h (FZ p) r).mono λM H Q u=>by
 let(d,s,n,R,e,q):=u;dsimp only at e;unfold MU at e;split at e
 .next m k w b=>
  split at e
  .next N y=>
   split at e
   .next j A=>
    cases e;apply#[d,s,m,R,w,λ_=>?_];unfold Kb at b;split at b
    .next B=>
     cases b;rcases R.slot i _ B with z|⟨v,C,hd⟩
     .cases z
     .erw[AJ,Ax]at hd;subst hd;apply#[.int k,ZJ C,?_];let(E,G,f):=R.g.cell m _ y;let(t,P,F):=Cc.mp A;let(v,c,L,rfl):=Ux f F;show#[d m,E,k,_,rfl,rfl,.inl<|.inl G,by unfold atI;rw[<- Lf f,P];show c,q L]
    .cases b
   .cases e
  .cases e
 .cases e]
end
section
variable{K:Ap}{H:Hp}{Q:VK}{m i:Nat}
theorem vR(h:Oz fl K (jG m ff) I H Q):∃M H0,Fa fl K M H0 ff I H Q:=by
 let(o,s,p,R,e,q):=h;let(r,c,e):=Cc.mp e;split at e
 .next d=>cases e;show#[_,_,_,_,R.vw,c,λa f i sm j k l=>q a f i sm j k<|Ad.up R.g sm _ _ d<|l.nw λb n=>.inl<|n.imp .inl id]
 .cases e
theorem vS(h:Dt K (λs=>xF fl (gf s) s) I H Q):Oz fl K gf I H Q:=by
 let(c,s,r,R,e,q):=h;let(l,d,rfl):=B8.mp e;apply#[c,s,l,R,d,λa f i sm j k m=>q c _ i (R.same sm) ?_<|Go.same sm];erw[AJ,Ax];show⟨a,f,rfl,.of (λz=>R.g.nh z j) k,m.nw λb n=>.inl<|.inl n⟩
theorem vT(h:tK K (λs=>C9 i (gx s) s) D' I H):Dt K gx I H λx c=>Ku i x I c D'.nx:=by
 let(d,s,R,q):=h;dsimp only at q;cases a:gx s with
 |none=>rw[a]at q;show q.elim
 |some r=>rw[a]at q;show#[d,s,r,R,a,λb v e f g go=>q b _ e (f.put i g) go]
end
section
variable{K:Ap}{f:VE->A8}{b:D->VE->O VE}{t:VE->O Bool}{e:AH}{spos:AC}{oix:U Nat}{n i m:Nat}{N:U Af}{x:Af}{P:AL}{w:Aj}{K0:Ap}{mg:BC}{base:Am}
theorem vU(h:XI P w K0 mg base X N sc)(q:CQ N sc scope n oix)(o:X.calm=J')(E:K0=X.K)(c:N[i]?=Z x)(p:sc.names.lookup x=Z .local)(r:∀M H0,JI X tg iter (tI X.K M H0 f))(d:CB X.K X (Im scope) (oN N oix) scope tg ifs elt ws b t e)(u:∀j∈ws,j<n)(k:DW (.ListComp elt [#[tg,iter,ifs,0]] scope pos) (Z (.Name x pos')) spos.line X.env=Al J':=by rfl)(v:∀x,EF iter X.env x=Al x:=by intro _;rfl):JS X (.Assign [.Name x pos'] (.ListComp elt [#[tg,iter,ifs,0]] scope pos) spos) (tK X.K λs=>C9 i (xF .l (jG m (Zh n oix f b t e) s) s) s):=by
 let(_,_,G,_,_,rfl,rfl,nd):=h;let(S,rfl,y):=q;show#[λa s A H B F z=>by
  let(M,H0,C):=vR<|vS<|vT z;show Py _ _ oix S y o nd c p (r M H0).h d.g d.t d.e k v a s A H B F<|NN u (λ_ _ _ z=>z) C]
end
@[simp]def cG:D->O Nat
  |.int (.ofNat n)=>Z n
  |_=>J
section
def vV(c:TT)(tb:TS):TS:=λD a H=>∃W:Nat->St->Hp->Prop,(∃m,W m a H)/\∀m a H,W m a H ->
 c a H λb e=>if b=J' then ∃N:St->Hp->Prop,(∀d f,N d f->∃g,g<m/\W g d f)/\tb {D with nx:=N,ct:=N,bk:=D.nx} a e else D.nx a e
theorem vW{c:Expr}{g:U AG}{q:TT}{tb:TS}(r:PassesOwn (Ae X.prog X.w) X.A X.env X.xe)(B:PT X c q)(C:Ep X g tb):PS X (.While c g [] pos) (vV q tb):=by
 intro a s E H D R h;let(W,(G,F),turn):=h;apply wpAny_While<|codeAny_whileLoop (λn L=>∃i t,Inv X a i t L/\W n i t) ?_ G #[E,H,R,F];intro n M zQ;let(e,u,K,Q):=zQ;apply LJ r<|AZ (B a M e u _ K<|turn n e u Q) λb T ⟨x,y,k⟩=>?_;cases b with
 |true=>
  let(N,z,k):=k;rw[if_pos rfl];apply LJ r<|AZ (C a T e x _ y k) λf P q3=>?_;cases f with
  |next=>
   let(d,j,l,n3):=q3;let(m,o,p):=z d j n3;show#[m,o,d,j,l,p]
  |cont=>
   let(d,j,l,n3):=q3;let(m,o,p):=z d j n3;show#[m,o,d,j,l,p]
  |brk=>show q3
  |ret v=>show q3
 |false=>
  rw[if_neg LF];show wpAny_execs_nil #[e,x,y,k]
end
def GA(t:VE->O Bool)(g:VE->Dg):Nat->VE->Dg
 |0,_=>.fail
 |n+1,b=>match t b with
  |none=>.fail
  |some O'=>.next b
  |some J'=>match g b with
   |.next a=>GA t g n a
   |.cont a=>GA t g n a
   |.brk a=>.next a
   |r=>r
theorem vX{K:Ap}{M:Fb}{c:Expr}{f:U AG}{t:VE->O Bool}{g:VE->Dg}(n:VE->Nat)(C:PassesOwn (Ae X.prog X.w) X.A X.env X.xe)(E:JT X c (BX K M H0 t))(G:JB X f (tS K M H0 g)):JS X (.While c f [] pos) (tS K M H0 λρ=>GA t g (n ρ) ρ):=#[(vW C E.h G.h).mono λy L H N=>by
 let(ρ,R,q):=N;try dsimp only at q
 apply#[λm d p=>∃a,Bh K M H0 a d p/\A6 K M H0 a d p y (GA t g m a),#[n ρ,ρ,R,q],?_];intro m d p zQ;let(a,s,b):=zQ;cases m with|zero=>show BL b|succ m=>
  erw[GA]at b;cases u:t a with|none=>rw[u]at b;show BL b|some B=>
   rw[u]at b;apply#[a,B,s,u,λF k=>?_];cases B with|false=>apply KQ ?_;show b d F (s.st k)<|Step.of_same k|true=>
    simp only at b;apply KP ?_;apply#[λi v=>∃a,Bh K M H0 a i v/\A6 K M H0 a i v y (GA t g m a),λi v z=>#[m,Nat.lt_succ_self m,z],a,s.st k,?_];cases l:g a with
    |fail=>rw[l]at b;show b
    |next e=>rw[l]at b;show λj x R2 o=>#[e,R2,A6.from ((Step.of_same k).trans o) b]
    |cont e=>rw[l]at b;show λj x R2 o=>#[e,R2,A6.from ((Step.of_same k).trans o) b]
    |brk e=>rw[l]at b;show λj x R2 o=>b j x R2<|(Step.of_same k).trans o
    |ret r=>rw[l]at b;show b]
section
variable{K:Ap}{M:Fb}{fk fv:VE->O D}
def vY:V->U V->Hp->VK->Prop:=λx b H Q=>∃l a k y,x=.ref l/\b=[.int (k:Nat),y]/\H l=Z (.lst a)/\a.length<AB/\k<=a.length/\Q .non (AI H l (.lst (a.take k++y::a.drop k)))
theorem vZ(k:Nat)(h:k<16777217):¬ (!Builtin.List.listFitsIndex (k:Int))=J':=by
 let a:Builtin.List.listFitsIndex (k:Int)=J':=by
  unfold Builtin.List.listFitsIndex;rw[DC,decide_eq_true_eq,decide_eq_true_eq];constructor<;>lia
 rw[a];decide
theorem v4:ID X "list.insert" vY:=by
 intro f s p H x L v M Q R u w h;let(l,g,k,y,rfl,rfl,i,N,K,q):=h;cases u;let(T,j,rfl,A,B):=w.two;let(t,rfl):=A;let(z,a,n,r,P,e):=R.lstM i;let C:AB=16777216:=HN;let c:a.toArray.size<=AB:=by rw[B3];lia
 let m:¬ ((k:Int)<0):=∅
 let E:min k a.length=k:=∅
 let G:(g.take k++y::g.drop k).length<=AB:=by simp;lia
 let o:=vZ k ∅;let b:=@AutoListH.list_insert_list_int_val_1 l a.toArray n (k:Int) t j o c;generalize d:((k:Nat):Int)=Y at b o m ⊢;apply BY F.slot_list_insert #[_,e,rfl] F.entry_list_insert (F.args_list_insert_3 _ _ _) b #[e,?_];subst d;apply#[.non,_,R.lset (its':=a.take k++j::a.drop k) i e ?_ ((r.take k).append<|.cons B<|r.drop k) ?_,rfl,q]
 .erw[if_neg m,GR,B3];rw[E];apply(Array.ext');simp;show Hu (by simp)
 .show G
def Qy(i:Nat)(b c:O D)(ρ:VE):Dg:=match D3 ρ i,b,c with
 |some a,Z (.int k),Z d=>if 0<=k/\k<=a.length/\a.length<AB then .next (ρ.set i (.own (a.take k.toNat++d::a.drop k.toNat)))else .fail
 |_,_,_=>.fail
theorem v5{i:Nat}{x:Af}{b:AC}(E:JE X ek (tP X.K M H0 fk))(o:JE X ev (tD X.K M H0 fv))(G:NV X i x:=by show Ec) (zA:DW (.Call (.Attribute (.Name x b) "insert" apos) [ek,ev] [] cpos) J pos.line X.env=Al O':=by rfl) (c:E8 (.Name x b) "insert" X.env (Ar (.Name x b) X.env)=Ar (.Name x b) X.env:=by rfl) (f:((AE cpos (AK [ek,ev] X.env)).all (λx=>!x.1)&&(FQ cpos (FR [] X.env)).all (λx=>x.1.isSome) && decide ([ek,ev].length+([]:U DA).length+(if([]:U DA).isEmpty then 0 else 1)<30))=J':=by rfl) (e:(apos.endLine==cpos.line)=J':=by rfl) (g:AK [ek,ev] X.env=(O',Ar ek X.env)::AK [ev] X.env:=by show D2 rfl) (j:AK [ev] X.env=(O',Ar ev X.env)::AK [] X.env:=by show D2 rfl) (p:(AE cpos (AK [ev] X.env)).any (·.1)=O':=by rfl):JS X (.Expr (.Call (.Attribute (.Name x b) "insert" apos) [ek,ev] [] cpos) pos) (tS X.K M H0 λρ=>Qy i (fk ρ) (fv ρ) ρ):=#[(Nm (HR Mb PySem.F.slot_list_insert PySem.F.type_list_insert v4 (FZ G) (Z4 E.h (Z4 o.h Bf j) g) c f e g p) zA).mono λD' I H P=>by
   let(ρ,R,q):=P;try dsimp only at q
   unfold Qy at q;split at q
   .next u k d L r t=>
    split at q
    .next N=>
     let y:=Ma L;let(a,n,S,z1,z2,z,A):=R.slot i _ y;let B:=ZJ S;apply#[.ref a,B,.inl #[rfl,n,.inl<|.inl z],ρ,.int k,R,r,λw H1 C Q=>#[ρ,d,R.st C,t,λv H2 T W=>?_]];let s:=C.trans T;let R2:=R.st s;let m:=A.same s;let(Y,S3):=R2.chg (fl2:=.l) (ys:=u.take k.toNat++d::u.drop k.toNat) (ws:=n.take k.toNat++v::n.drop k.toNat) y B ((m.take _).append<|Ad.cons W<|m.drop _);let hl:=A.length;apply#[a,n,k.toNat,v,rfl,by rw[Q.int,MW N.1],s _ _ z,∅,∅,q _ _ Y<|(Step.of_same s).trans S3]
    .show BL q
   .show BL q]
end
section
def v7:V->U V->Hp->VK->Prop:=λx a H Q=>∃l b,x=.ref l/\a=[]/\H l=Z (.lst b)/\Q .non (AI H l (.lst []))
theorem v8:ID X "list.clear" v7:=by
 intro b s i H x j v k Q d f g h;let(l,m,rfl,rfl,c,q):=h;cases f;cases g;let(z,a,n,r,o,e):=d.lstM c;apply BY F.slot_list_clear #[_,e,rfl] F.entry_list_clear (F.args_list_clear_1 _) (AutoSeq1.list_clear_list_0 l a.toArray n (by rw[B3];lia)) #[e,?_];show#[.non,_,d.lset (its':=[]) (ys:=[]) c e rfl .nil (ET _),rfl,q]
end
section
variable{a b:Expr}{e:Expr}{to:TE}{t:TA}{name:Af}{T id:String}{r:V->U V->Hp->VK->Prop}
def v9(K:Ap)(T:String)(r:V->U V->Hp->VK->Prop)(to:TE):TE:=λb H Q=>to b H λx a=>Pw K T x a/\r x [] a Q
theorem wa(i:PlainAttrs T)(slot:Slot T name id)(d:typeOf (.builtin id)=Al (.type "method_descriptor"))(j:ID X id r)(k:PE X o to) (b:E8 o name X.env (Ar o X.env)=Ar o X.env:=by rfl) (c:(apos.endLine==cpos.line)=J':=by rfl):PE X (.Call (.Attribute o name apos) [] [] cpos) (v9 X.K T r to):=by
 intro a s e H Q t h;apply wpAny_Call_method0_late b c<|AZ (k a s e H _ t h) λv l ⟨x,m,f,g,ty,n⟩=>?_;let(p,q):=X3 f g ty;show#[T,id,i,slot,d,p,q,Calls.callWith_builtin rfl<|PySem.evalArgs_none<|j a l e m x [] v [] Q f g .nil n]
end
@[simp]def OD(p:O Nat)(s:IS):O (IV×Gh):=match p with
  |some n=>match s.2[n]? with
   |some (.dat .l _)=>Z (.val .non,s.2.set n (.dat .l []))
   |_=>J
  |none=>J
section
theorem wb(j:JE X o (EM X.K gp))(a:E8 o "clear" X.env (Ar o X.env)=Ar o X.env:=by rfl)(b:(apos.endLine==cpos.line)=J':=by rfl):JE X (.Call (.Attribute o "clear" apos) [] [] cpos) (Dt X.K λs=>OD (gp s) s):=#[(wa Mb PySem.F.slot_list_clear PySem.F.type_list_clear v8 j.h a b).mono λp H Q k=>by
   let(c,s,r,R,ex,q):=k;dsimp only at ex;unfold OD at ex;split at ex
   .next n m=>
    split at ex
    .next t d=>
     cases ex;let(e,f,u):=R.g.cell n _ d;apply#[c,s,n,R,m,λ_=>?_];let(R2,i):=Qr (k':=.l) (ys:=[]) (ws:=[]) R.g d Ad.nil;show#[.inl #[rfl,e,.inl<|.inl f],c n,e,rfl,rfl,f,q c _ _ (R.go R2 i) (by erw[AJ,Ax]) i]
    .cases ex
   .cases ex]
end
@[simp]def Qz(i:Nat)(s:IS):O IS:=match s.1[i]? with
  |some (.cel n)=>match s.2[n]? with
   |some (.dat k a)=>Z (s.1.set i (.val (.lst a k)),s.2.set n .dead)
   |_=>J
  |_=>J
@[simp]def QA(i:Nat)(g:IS->RI)(s:IS):RI:=match Qz i s with
  |some a=>g a
  |none=>.fail
theorem Br.frs{K:Ap}{s u:IS}{H:Hp}{i:Nat}(R:Br K φ s I H)(h:Qz i s=Z u):Br K φ u I H/\Go φ s.2 H φ u.2 H:=by
 unfold Qz at h;split at h
 .next n B=>
  split at h
  .next k C w=>
   cases h;let E:n<s.2.length:=(Cm.mp w).1;let d:∀{j:Nat} {c:Cl} {p:Kd},(s.2.set n .dead)[j]?=Z c->c.kd=Z p->j≠n/\s.2[j]?=Z c:=λ{j c p} e f=>by
    by_cases b:n=j
    .subst b;rw[ER E]at e;cases e;cases f
    .rw[Dy b]at e;show#[Bz b,e]
   let sub:∀a,LV φ (s.2.set n .dead) a->LV φ s.2 a:=λa ⟨j,c,p,e,f,r⟩=>#[j,c,p,(d e f).2,f,r];let S:¬ LV φ (s.2.set n .dead) (φ n):=λ⟨j,c,p,e,f,r⟩=>(d e f).1<|R.g.inj j n c _ p k (d e f).2 w f rfl r;let go:Go φ s.2 H φ (s.2.set n .dead) H:=#[λ_ _=>rfl,by simp,λa o e _=>e,λa y=>.inl<|sub a y];let R2:Bc K φ (s.2.set n .dead) H:=#[λj c e=>by
    by_cases b:n=j
    .subst b;rw[ER E]at e;cases e;trivial
    .rw[Dy b]at e;let q:=R.g.cell j c e;cases c with
     |dead=>trivial
     |dat k C=>let(t,b,l):=q;show#[t,b,Ad.step go.st _ _ l]
     |mix k C=>let(t,b,l):=q;show#[t,b,Paired.mapP l λ_ _ q=>AJ.go go q],
    λj m c F L M e N b l r=>R.g.inj j m c F L M (d e b).2 (d N l).2 b l r]
   let P:=R.go R2 go;apply#[#[by simp[R.len],R2,λj x e=>?_],go];by_cases G:i=j
   .subst G;let A:i<s.1.length:=(Cm.mp B).1;rw[ER A]at e;cases e;rcases R.slot i _ B with z|⟨v,Q,T,rfl⟩
    .cases z
    .let(t,b,l):=R.g.cell n _ w;apply .inr #[_,Q,?_];erw[AJ,Ax];show#[φ n,t,rfl,.of S b,l.nw λa y=>.inl<|sub a y]
   .rw[Dy G]at e;show P.slot j x e
  .cases h
 .cases h
theorem wc{b:U AG}{g:IS->RI}(i:Nat)(h:JB X b (tK X.K g)):JB X b (tK X.K λs=>QA i g s):=#[λa st c H D j d=>by
 let(e,s,R,q):=d;unfold QA at q;dsimp only at q;split at q
 .next f=>
  let(R2,go):=R.frs f;show h.h a st c H D j #[e,_,R2,C1.from go q]
 .show q.elim]
end Internal
set_option tactic.hygienic false
namespace Internal.K53
open PySem PySem.Spec PyProof.Rows Internal
section
set_option hygiene false in
local macro_rules | `(#[$a,*])=>do let w:Lean.Term <- a.getElems.foldrM (λx w=>if x.raw.isNatLit?.isSome then `(Zr (Ft r $x) $w)else `(Zr (EV $x) $w)) (<- `(some []));return w
set_option hygiene false in
local macro_rules | `(#v[$a,*])=>`(λr=>#[$a,*])
local macro_rules | `(!$n:num)=>`(λr=>Bo r $n)
local macro_rules | `(~~~$n:num)=>`(λ_=>some (.int $n))
local macro_rules | `(∅)=>`(λr=>.next r)
local macro_rules | `($a >>> $b)=>`(λr=>Ze ($a r) $b)
local macro_rules | `($a <<< $b)=>`(λr=>Zw ($a r) $b)
def QB:AA:=λr=>Ze (Zx (Cs (Ef (AV ((Zk CJ #v[0,Z (.ty "int")]) r)) (AV (Cs (Cy (AV ((Zk CJ #v[0,Z (.ty "bool")]) r)))))))) ∅
def Z1:=A7 1 1 QB
def QC:AH:=λr=>Cs (Dp (AV ((Za (EH O') (!0) (λ_=>Z (.str "abcdefghijklmnopqrstuvwxyz"))) r)) (AV ((Za (EH O') (!0) (λ_=>Z (.str "0123456789"))) r)))
def Ll:AA:=λr=>Ze (ZM (Cy (ZV ((Zk CJ #v[0,Z (.ty "str")]) r))) (Ze (Zx (Z (.bl O'))) ∅) (.next r)) (λr=>Ze (ZM (Dp (AV ((Za Dj (Zk Zp #v[0]) (~~~1)) r)) (AV ((Za EX (Zk Zp #v[0]) (~~~12)) r))) (Ze (Zx (Z (.bl O'))) ∅) (.next r)) (λr=>Ze (Zx (Cs (Ef (AV ((Za (EH O') (Za Au (!0) (~~~0)) (λ_=>Z (.str "abcdefghijklmnopqrstuvwxyz"))) r)) (AV ((Zk FC #v[ZE ((Zh 1 [] (λr=>(BR r 0).bind Zs) (Zc 0) (λ_=>Z J') QC) r)]) r))))) ∅))
def Jd:=A7 1 1 Ll
def cH:AA:=λr=>Ze (Zx ((Zk Zp #v[(Za Au (!0) (~~~0)) r]) r)) ∅
def OE:=A7 1 1 cH
def Uy:AA:=λr=>Ze (Zx (KR (AV ((Za Dj (!1) (Zk Zp #v[0])) r)) ((Za Au (!0) (!1)) r) (Z .non))) ∅
def Je:=A7 2 2 Uy
def cI:AH:=(~~~0)
def cJ:AA:=λr=>Ze (Zx ((Zk EI #v[ZE ((Zh 1 [] (λr=>(BR r 0).bind Zs) (Zc 0) (λ_=>Z J') cI) r)]) r)) ∅
def OG:=A7 1 1 cJ
def cK:AA:=λr=>Ze (Zx ((Zf (#[(Zk Zp #v[0]) r,(Zk NY #v[0]) r,(Zk Mh #v[0]) r,(Zk Mi #v[0]) r].bind Zt)).map D.tup)) ∅
def QD:=A7 1 1 cK
def cL:AA:=λr=>Ze (Zx ((Zf (#[(Za Zo (Za Au (!0) (~~~0)) (Za Au (!1) (~~~0))) r,(Za Zo (Za Au (!0) (~~~1)) (Za Au (!1) (~~~1))) r,(Zk PZ #v[(Za Au (!0) (~~~2)) r,(Za Au (!1) (~~~2)) r]) r,(Zk PY #v[(Za Au (!0) (~~~3)) r,(Za Au (!1) (~~~3)) r]) r].bind Zt)).map D.tup)) ∅
def OH:=A7 2 2 cL
def QE:AH:=(Za (DO O') (!1) (!0))
def Uz:AA:=λr=>Ze (Zx ((Zk FC #v[ZE ((Zh 2 [] (Fg (λr=>BR r 0) (λr=>BR r 1)) (Z6 2 (Zq (Zc 0) (Zq (Zc 1) Z8))) (λ_=>Z J') QE) r)]) r)) ∅
def QF:=A7 2 2 Uz
def UA:Bw:=λs=>Zw (EN (jT 2 (λr=>AV ((Za NO (Zk Zp #v[0]) (~~~200)) r)) s) (Zw (.fail) ∅) (.next s)) (λs=>Zw (Cz (Fi (B9 s 0) ((jE 0 (λr=>Bq r 1)) s) s) s) ∅)
def UB:=Ey 2 2 UA
def UC:Bw:=λs=>Zw (EN (jT 2 (λr=>AV ((Za (EH J') (!1) (!0)) r)) s) (Zw (.fail) ∅) (.next s)) (λs=>Zw (Cz (MM (B9 s 0) ((jE 0 (λr=>Bq r 1)) s) s) s) ∅)
def UD:=Ey 2 2 UC
def UE:Bw:=λs=>Zw (Gy "Book" "axes" (λs=>B9 s 0) (xD ((jE 1 (Za Zo (Za Zo (Eu (λr=>(Bo r 0).bind (DQ "Book" "axes")) (λ_=>Z J) (λr=>EG (Bo r 1)) Fz) (λr=>ZE (Zf (#[Bq r 2].bind Zt)))) (Eu (λr=>(Bo r 0).bind (DQ "Book" "axes")) (λr=>EG ((Za Zo (!1) (~~~1)) r)) (λ_=>Z J) Fz))) s) s) s) ∅
def QG:=Ey 3 3 UE
def UF:AA:=λr=>Ze (ZM (AV ((Za Dj (!1) (Zk Zp #v[0])) r)) (Ze (Zx ((Za Au (!0) (!1)) r)) ∅) (.next r)) (λr=>Ze (Zx (Z (.int 0))) ∅)
def ZH:=A7 2 2 UF
def QH:AA:=λr=>Ze (Z5 2 ((Za ZQ (Za Zo (Za Zo (Za Zo (Za Fy (!2) (~~~45742)) (Za Gq (!2) (~~~46949))) (Za Fy (~~~29) (!4))) (~~~11)) (~~~2147483647)) r) r) (λr=>Ze (Gp 3 ((Za Gq (!2) (~~~8)) r) r) ∅)
def cM:AA:=λr=>Z5 2 ((Za Zo (Za ZQ (!0) (~~~2147483549)) (~~~17)) r) r
def cN:AA:=λr=>Z0 3 (Zf ((Z []).bind Zt)) r
def cO:AA:=(ZU (λr=>(#[(Za Zo (!1) (~~~2)) r].bind Zt).bind EW) (Zc 4) QH)
def cP:AA:=λr=>Zx ((Eu (!3) (λr=>EG (Z (.int 2))) (λ_=>Z J) Fz) r)
def wd:AA:=λr=>.next r
def cQ:=cP >>> wd
def cR:=cO >>> cQ
def cT:=cN >>> cR
def cU:=cM >>> cT
def cV:AA:=cU
def ZP:=A7 2 5 cV
def QI:AH:=(Za Au (!1) (Za ZQ (Za Zo (Za Gq (!2) (Za Zo (!0) (~~~2))) (Za Fy (~~~4) (!0))) (Za Au (λr=>ZE (Zf (#[Z (.int 36),Z (.int 26)].bind Zt))) (Zk intD #v[(Za CG (!0) (~~~0)) r]))))
def cX:AA:=λr=>ZM (AV ((Za CG (!1) (~~~0)) r)) (Ze (Zx ((Za Zo (Za JP (Za ZQ (!0) (Za KV (~~~10) (~~~30))) (Za Fy (~~~5) (Za KV (~~~10) (~~~29)))) (!2)) r)) ∅) (.next r)
def cY:AA:=λr=>Z5 3 (Z (.str "abcdefghijklmnopqrstuvwxyz0123456789")) r
def cZ:AA:=λr=>Z5 4 ((Za Zo (~~~1) (Za ZQ (!0) (~~~12))) r) r
def c0:AA:=λr=>Z5 5 ((Za ZQ (Za Gq (!0) (~~~12)) (!4)) r) r
def c3:AA:=λr=>Z0 6 ((Zh 1 [3,0] (λr=>(#[Bq r 4].bind Zt).bind EW) (Zc 0) (λ_=>Z J') QI) r) r
def c4:AA:=λr=>P2 6 (Bo r 5) ((Za Au (!3) (Za ZQ (Za Zo (Za Zo (Za Gq (!0) (Za Zo (!5) (~~~2))) (Za Fy (~~~4) (!5))) (Za Fy (~~~5) (!2))) (Za Au (λr=>ZE (Zf (#[Z (.int 36),Z (.int 26)].bind Zt))) (Zk intD #v[(Za CG (!5) (~~~0)) r])))) r) r
def c9:AA:=λr=>Zx ((K2 P4 (λ_=>Z (.str "")) #v[6]) r)
def we:AA:=λr=>.next r
def db:=c9 >>> we
def df:=c4 >>> db
def dg:=c3 >>> df
def dh:=c0 >>> dg
def dj:=cZ >>> dh
def dm:=cY >>> dj
def dn:=cX >>> dm
def dr:AA:=dn
def Kc:=A7 3 7 dr
def Lm:AA:=λr=>Ze (ZM (Ef (AV ((Za CG (Za Au (!3) (~~~0)) (!1)) r)) (AV ((Za Dj (!2) (Zk Zp #v[3])) r))) (Ze (Zx ((Za Au (!3) (!2)) r)) ∅) (.next r)) ∅
def QJ:AA:=λr=>Ze ((ZU (λr=>(BR r 0).bind Zs) (Zc 3) Lm) r) (λr=>Ze (Zx (Z .non)) ∅)
def UG:=A7 3 4 QJ
def dt:AA:=λr=>Ze (Zx ((Zf (#[(Zk Zp #v[0]) r,(Zk NY #v[0]) r,(Zk Mh #v[0]) r,(Zk Mi #v[0]) r].bind Zt)).map D.tup)) ∅
def QK:=A7 1 1 dt
def ZY:AA:=λr=>Ze (ZM (AV ((Za Co (!3) (!4)) r)) (Ze (Zx ((Za Dj (K2 N0 (!2) #v[3]) (K2 N0 (!2) #v[4])) r)) ∅) (.next r)) ∅
def OI:AA:=λr=>ZM (Dp (Hn (Bo r 0)) (Hn (Bo r 1))) (Ze (Zx (Cs (Ef (AV (Cs (Hn (Bo r 0)))) (AV (Cs (Cy (Hn (Bo r 1)))))))) ∅) (.next r)
def UH:AA:=λr=>ZM (AV ((Za Co (Zk CJ #v[0,Z (.ty "str")]) (Zk CJ #v[1,Z (.ty "str")])) r)) (Ze (Zx ((Zk CJ #v[1,Z (.ty "str")]) r)) ∅) (.next r)
def du:AA:=λr=>ZM (ZV ((Zk CJ #v[0,Z (.ty "int")]) r)) (Ze (Zx ((Za Dj (!0) (!1)) r)) ∅) (.next r)
def wf:AA:=λr=>Z5 2 (Z (.str "0123456789abcdefghijklmnopqrstuvwxyz")) r
def UI:AA:=(ZU (Fg (λr=>BR r 0) (λr=>BR r 1)) (Z6 2 (Zq (Zc 3) (Zq (Zc 4) Z8))) ZY)
def dy:AA:=λr=>Zx ((Za Dj (Zk Zp #v[0]) (Zk Zp #v[1])) r)
def wg:AA:=λr=>.next r
def dz:=dy >>> wg
def QL:=UI >>> dz
def wj:=wf >>> QL
def dA:=du >>> wj
def UJ:=UH >>> dA
def ZZ:=OI >>> UJ
def wk:AA:=ZZ
def UK:=A7 2 5 wk
def UL:AH:=(Zk CJ #v[0,Z (.ty "bool")])
def QM:AA:=λr=>Ze (ZM (Dp (Cy (ZV ((Zk CJ #v[1,Z (.ty "tuple")]) r))) (Dp (AV ((Za Co (Zk Zp #v[1]) (~~~2)) r)) (Cy (ZV ((Zk CJ #v[(Za Au (!1) (~~~1)) r,Z (.ty "tuple")]) r))))) (Ze (Zx (Z (.bl O'))) ∅) (.next r)) (λr=>Ze (ZM (ZV ((Zk K1 #v[ZE ((Zh 1 [] (λr=>((Za Zo (Za Au (!1) (~~~0)) (Za Au (!1) (~~~1))) r).bind Zs) (Zc 0) (λ_=>Z J') UL) r)]) r)) (Ze (Zx (Z (.bl O'))) ∅) (.next r)) ∅)
def UM:AA:=λr=>Ze ((ZU (λr=>(BR r 0).bind Zs) (Zc 1) QM) r) (λr=>Ze (Zx (Z (.bl J'))) ∅)
def UN:=A7 1 2 UM
def dB:AA:=λr=>Ze (Zx (Cs (Dp (AV ((Zi Z1 #v[0]) r)) (AV ((Zi Jd #v[0]) r))))) ∅
def OJ:=A7 1 1 dB
def dC:AA:=λr=>Ze (ZM (Hn (Bo r 0)) (Ze (Zx ((Zf (#[Z (.int 0),Z (.int 0)].bind Zt)).map D.tup)) ∅) (.next r)) (λr=>Ze (ZM (ZV ((Zi Z1 #v[0]) r)) (Ze (Zx ((Zf (#[Z (.int 1),Bq r 0].bind Zt)).map D.tup)) ∅) (.next r)) (λr=>Ze (Zx ((Zf (#[Z (.int 2),Bq r 0].bind Zt)).map D.tup)) ∅))
def QN:=A7 1 1 dC
def UO:AH:=λr=>(Zf (#[(Zi Je #v[0,1]) r,(Zi Je #v[0,2]) r].bind Zt)).map D.tup
def dE:AA:=λr=>Ze (JJ ((IZ (λr=>ZE ((Zh 1 [1,2] (λr=>(BR r 0).bind Zs) (Zc 0) (λ_=>Z J') UO) r))) r)) ∅
def QO:=A7 3 3 dE
def ON:AA:=λr=>Ze (Zx (Cs (Ef (AV ((Zi Z1 #v[1]) r)) (AV ((IJ HX Dj (~~~0) (!1) (Zk Zp #v[0])) r))))) ∅
def UP:=A7 2 2 ON
def OO:AA:=λr=>Ze (Zx (Cs (Ef (AV ((Zi Z1 #v[1]) r)) (AV ((IJ HX HX (~~~0) (!1) (Zi OE #v[0])) r))))) ∅
def UQ:=A7 2 2 OO
def OP:AA:=λr=>Ze (Zx (Cs (Ef (AV ((Zi Z1 #v[1]) r)) (AV ((IJ HX HX (~~~0) (!1) (Za JP (Zi OE #v[0]) (~~~2))) r))))) ∅
def QP:=A7 2 2 OP
def QQ:AA:=λr=>Ze (Gp 4 ((Za Zo (~~~1) (Za ZQ (Za Au (!1) (Za Zo (~~~2) (!5))) (Za Au (!4) (Za JP (!5) (~~~1))))) r) r) ∅
def OQ:AA:=λr=>Ze (ZM (AV ((Za EX (!5) (~~~0)) r)) (Ze (Z5 9 ((Za ZQ (Za Au (!1) (Za Zo (Za Zo (~~~7) (Za Fy (~~~7) (!5))) (!9))) (Za Au (!4) (!5))) r) r) ∅) (.next r)) (λr=>Ze (Gp 8 ((Zi Kc #v[(Za Zo (!0) (Za Fy (Za Au (!1) (~~~2)) (Za ZQ (Za Au (!1) (~~~6)) (~~~2)))) r,(Za ZQ (Za Zo (Za Au (!1) (~~~7)) (Za Fy (!5) (Za ZQ (Za Au (!1) (~~~8)) (~~~2)))) (~~~2)) r,9]) r) r) ∅)
def QR:AA:=λr=>Ze (Z0 8 (Zf ((Z []).bind Zt)) r) (λr=>Ze (Z5 9 ((Za ZQ (Za Zo (!7) (Za Au (!1) (~~~2))) (!2)) r) r) (λr=>Ze ((ZU (λr=>(#[Bq r 3].bind Zt).bind EW) (Zc 5) OQ) r) (λr=>Ze (Gp 6 ((Zk EI #v[8]) r) r) ∅)))
def dF:AA:=λr=>Z5 1 ((Zi ZP #v[0,Z (.int 40)]) r) r
def dG:AA:=λr=>Z5 2 ((Za Zo (~~~1) (Za ZQ (Za Au (!1) (~~~0)) (~~~6))) r) r
def dH:AA:=λr=>Z5 3 ((Za Au (λr=>ZE (Zf (#[Z (.int 2),Z (.int 1),Z (.int 3),Z (.int 2),Z (.int 3),Z (.int 4),Z (.int 2),Z (.int 3)].bind Zt))) (Za ZQ (Za Au (!1) (~~~1)) (~~~8))) r) r
def dI:AA:=λr=>Z0 4 (Zf (#[Bq r 2].bind Zt)) r
def dJ:AA:=(ZU (λr=>(#[Z (.int 1),Bq r 3].bind Zt).bind NJ) (Zc 5) QQ)
def dK:AA:=λr=>Z0 6 (Zf ((Z []).bind Zt)) r
def dL:AA:=(ZU (λr=>(#[Bq r 2].bind Zt).bind EW) (Zc 7) QR)
def dM:AA:=λr=>Dh (D3 r 6)
def wl:AA:=λr=>.next r
def dN:=dM >>> wl
def dO:=dL >>> dN
def dP:=dK >>> dO
def dQ:=dJ >>> dP
def dR:=dI >>> dQ
def dS:=dH >>> dR
def dT:=dG >>> dS
def dU:=dF >>> dT
def dV:AA:=dU
def QS:=A7 1 10 dV
def UR:AH:=(Zi UG #v[(Za Au (!1) (!0)) r,(Za Au (!2) (!0)) r,(Za Au (!3) (!0)) r])
def US:AA:=λr=>Ze (Zx ((Zk EI #v[ZE ((Zh 1 [0,1,2] (λr=>(#[(Zk Zp #v[1]) r].bind Zt).bind EW) (Zc 0) (λ_=>Z J') UR) r)]) r)) ∅
def UT:=A7 3 3 US
def UU:AH:=(Za ZQ (Za Au (!1) (!0)) (Za Zo (Zk Zp #v[(Za Au (Za Au (!2) (!0)) (~~~0)) r]) (~~~1)))
def UV:AA:=λr=>Ze (Z5 2 ((Zi ZP #v[1,(Zk Zp #v[0]) r]) r) r) (λr=>Ze (Zx ((Zk EI #v[ZE ((Zh 1 [2,0] (λr=>(#[(Zk Zp #v[0]) r].bind Zt).bind EW) (Zc 0) (λ_=>Z J') UU) r)]) r)) ∅)
def QT:=A7 2 3 UV
def QU:AH:=(Za Au (Za Au (Za Au (!1) (!0)) (Za ZQ (Za Au (!2) (!0)) (Zk Zp #v[(Za Au (!1) (!0)) r]))) (~~~0))
def UW:AA:=λr=>Ze (Z5 2 ((Zi ZP #v[1,Z (.int 6)]) r) r) (λr=>Ze (Z5 3 ((Zk EI #v[ZE ((Zh 1 [0,2] (λr=>(#[(Zk Zp #v[0]) r].bind Zt).bind EW) (Zc 0) (λ_=>Z J') QU) r)]) r) r) (λr=>Ze (Zx ((Zf (#[Bq r 3,(Za Au (λr=>ZE (Zf (#[(Za JP (Za ZQ (Za Au (!2) (~~~4)) (~~~7)) (~~~3)) r,(Za ZQ (!1) (Za KV (~~~10) (~~~30))) r,(Za JP (~~~0) (Za ZQ (!1) (Za KV (~~~10) (~~~30)))) r,(Za ZQ (Za Au (!2) (~~~4)) (~~~2)) r].bind Zt))) (Za ZQ (Za Au (!2) (~~~5)) (~~~4))) r].bind Zt)).map D.tup)) ∅))
def QV:=A7 2 4 UW
def Lp:AA:=λr=>Ze (ZM (AV ((Za Co (!2) (!3)) r)) (Ze (Zx ((Zi UK #v[2,3]) r)) ∅) (.next r)) ∅
def QW:AA:=λr=>Ze ((ZU (Fg (λr=>BR r 0) (λr=>BR r 1)) (Z6 2 (Zq (Zc 2) (Zq (Zc 3) Z8))) Lp) r) (λr=>Ze (Zx (Z (.bl O'))) ∅)
def UX:=A7 2 4 QW
def UY:AH:=(Zi QN #v[0])
def dW:AA:=λr=>Ze (Zx ((Zk EI #v[ZE ((Zh 1 [] (λr=>(BR r 0).bind Zs) (Zc 0) (λ_=>Z J') UY) r)]) r)) ∅
def MY:=A7 1 1 dW
def UZ:AH:=(Zi OJ #v[0])
def U0:AA:=λr=>Ze (ZM (Cy (ZV ((Zk CJ #v[0,Z (.ty "tuple")]) r))) (Ze (Zx (Z (.bl O'))) ∅) (.next r)) (λr=>Ze (ZM (Dp (AV ((Za Dj (Zk Zp #v[0]) (~~~1)) r)) (AV ((Za EX (Zk Zp #v[0]) (~~~4)) r))) (Ze (Zx (Z (.bl O'))) ∅) (.next r)) (λr=>Ze (Zx ((Zk FC #v[ZE ((Zh 1 [] (λr=>(BR r 0).bind Zs) (Zc 0) (λ_=>Z J') UZ) r)]) r)) ∅))
def U1:=A7 1 1 U0
def U2:AA:=λr=>Ze (ZM (Cy (ZV ((Zi UP #v[0,1]) r))) (Ze (.fail) ∅) (.next r)) (λr=>Ze (Zx ((Za Au (!0) (!1)) r)) ∅)
def U3:=A7 2 2 U2
def U4:AH:=(Zi UQ #v[0,1])
def U5:AA:=λr=>Ze (ZM (Dp (Cy (ZV ((Zk CJ #v[1,Z (.ty "tuple")]) r))) (AV ((Za Co (Zk Zp #v[1]) (Zk Zp #v[0])) r))) (Ze (Zx (Z (.bl O'))) ∅) (.next r)) (λr=>Ze (Zx ((Zk FC #v[ZE ((Zh 2 [] (Fg (λr=>BR r 0) (λr=>BR r 1)) (Z6 2 (Zq (Zc 0) (Zq (Zc 1) Z8))) (λ_=>Z J') U4) r)]) r)) ∅)
def QX:=A7 2 2 U5
def QY:AH:=(Zi QO #v[1,(Za Au (!2) (!0)) r,(Za Au (!3) (!0)) r])
def dX:AA:=λr=>Ze (Dh ((Zh 2 [1,2] (MK (λr=>BR r 0)) (Z6 2 (Zq (Zc 0) (Zq (Zc 1) Z8))) (λ_=>Z J') QY) r)) ∅
def QZ:=A7 3 3 dX
def Q0:AH:=(Zi QS #v[(Za Zo (Zi ZH #v[1,(Za Zo (~~~1) (!0)) r]) (Za Fy (~~~1000) (!0))) r])
def Q1:AH:=(Eu (!0) (λ_=>Z J) (λr=>EG (Z (.int 3))) Fz)
def U6:AA:=λr=>Z5 1 ((Za Au (λr=>ZE (Zf (#[Z (.int 2),Z (.int 1),Z (.int 2),Z (.int 3),Z (.int 1),Z (.int 2),Z (.int 3),Z (.int 4)].bind Zt))) (Za ZQ (Zi ZH #v[0,Z (.int 0)]) (~~~8))) r) r
def U7:AA:=λr=>Z0 2 ((Zh 1 [0] (λr=>(#[Bq r 1].bind Zt).bind EW) (Zc 0) (λ_=>Z J') Q0) r) r
def U8:AA:=λr=>ZM (AV ((Za CG (!1) (~~~4)) r)) (Ze ((GY 2 (λr=>Z0 2 ((Zh 1 [] (λr=>(BR r 2).bind Zs) (Zc 0) (λ_=>Z J') Q1) r) r)) r) ∅) (.next r)
def U9:AA:=λr=>Dh (D3 r 2)
def wm:AA:=λr=>.next r
def Va:=U9 >>> wm
def Vb:=U8 >>> Va
def Vc:=U7 >>> Vb
def Vd:=U6 >>> Vc
def Ve:AA:=Vd
def OR:=A7 1 3 Ve
def OS:AH:=(Zi UT #v[0,4,2])
def Q2:AH:=λr=>Bq r 5
def Q3:AA:=λr=>Ze (JZ 6 (Bo r 4) ((Zi QK #v[(Za D5 (!3) (!4)) r]) r) r) ∅
def dY:AA:=λr=>F6 3 (Z []) r
def Vf:AA:=(Qo 3 (λr=>(BR r 1).bind Zs) (Z6 2 (Zq (Zc 4) (Zq (Zc 5) Z8))) OS Q2)
def dZ:AA:=λr=>F6 6 (Z []) r
def Vg:AA:=(GY 3 (ZU (λr=>(BR r 3).bind Ei) (Zc 4) Q3))
def d6:AA:=λr=>JJ (GK r 6)
def wn:AA:=λr=>.next r
def d7:=d6 >>> wn
def Vh:=Vg >>> d7
def Vi:=dZ >>> Vh
def Vj:=Vf >>> Vi
def Q5:=dY >>> Vj
def d8:AA:=Q5
def Q6:=A7 3 7 d8
def Lq:VE->O Bool:=λr=>Ef (AV ((Za Dj (!7) (Zk Zp #v[5])) r)) (ZV ((Zi UX #v[(Za Au (!5) (!7)) r,6]) r))
def OT:AA:=λr=>Ze (Z5 7 ((Za Zo (!7) (~~~1)) r) r) ∅
def MZ:AA:=λr=>Ze (ZM (Ef (AV ((Za Co (Za Ja (Za Au (!1) (!4)) (!6)) (Za Ja (Za Au (!2) (!4)) (!6))) r)) (AV ((Za (EH J') (!6) (!5)) r))) (Ze (Z5 7 (Z (.int 0)) r) (λr=>Ze (GA Lq OT (1000) r) (λr=>Ze (Qy 5 (Bo r 7) (Bq r 6) r) ∅))) (.next r)) ∅
def Vk:AH:=λr=>(Zf (#[(Za Au (!1) (!2)) r,Bq r 0].bind Zt)).map D.tup
def Q7:AA:=λr=>Ze (Z0 5 (Zf ((Z []).bind Zt)) r) (λr=>Ze ((ZU (λr=>((Za Zo (λr=>ZE ((F5 HB #v[(Za Au (!1) (!4)) r]) r)) (λr=>ZE ((F5 HB #v[(Za Au (!2) (!4)) r]) r))) r).bind Zs) (Zc 6) MZ) r) (λr=>Ze ((GY 5 (λr=>Z5 3 ((Za Zo (!3) (λr=>ZE ((Zh 1 [0,4] (λr=>(BR r 5).bind Zs) (Zc 0) (λ_=>Z J') Vk) r))) r) r)) r) ∅))
def Vl:AA:=λr=>Ze (Z5 3 (ZE (Zf ((Z []).bind Zt))) r) (λr=>Ze ((ZU (λr=>(#[(Zk Zp #v[0]) r].bind Zt).bind EW) (Zc 4) Q7) r) (λr=>Ze (Zx (Bq r 3)) ∅))
def Q8:=A7 3 8 Vl
def Vm:AH:=(Zi U1 #v[0])
def OU:AA:=λr=>Ze (Z5 6 ((Eu (!3) (λr=>EG ((Za Zo (!4) (~~~1)) r)) (λ_=>Z J) Fz) r) r) (λr=>Ze (P6 (N8 (N7 1 (λr=>(Zf (#[Bq r 4,Bq r 5].bind Zt)).map D.tup) (λr=>Bq r 6)) (!6) r) (λr=>Ze (Zx (Z (.bl O'))) ∅) ∅) ∅)
def Q9:AA:=λr=>Ze (ZM (Dp (AV ((Za Co (Zk Zp #v[3]) (Zk Zp #v[(Za Au (!0) (~~~0)) r])) r)) (AV ((Za (DO O') (Za Au (!3) (~~~0)) (!2)) r))) (Ze (Zx (Z (.bl O'))) ∅) (.next r)) (λr=>Ze (JZ 2 ((Za Au (!3) (~~~0)) r) (Z (.bl J')) r) (λr=>Ze ((ZU (MK (λr=>BR r 3)) (Z6 2 (Zq (Zc 4) (Zq (Zc 5) Z8))) OU) r) ∅))
def d9:AA:=λr=>ZM (Cy (ZV ((Zk FC #v[ZE ((Zh 1 [] (λr=>(BR r 0).bind Zs) (Zc 0) (λ_=>Z J') Vm) r)]) r))) (Ze (Zx (Z (.bl O'))) ∅) (.next r)
def eb:AA:=λr=>F6 1 (Z []) r
def ed:AA:=λr=>F6 2 (Z []) r
def ee:AA:=(ZU (λr=>(BR r 0).bind Zs) (Zc 3) Q9)
def ef:AA:=λr=>Zx (Z (.bl J'))
def wp:AA:=λr=>.next r
def eg:=ef >>> wp
def eo:=ee >>> eg
def et:=ed >>> eo
def eu:=eb >>> et
def ez:=d9 >>> eu
def Vn:AA:=ez
def Vo:=A7 1 7 Vn
def Vp:AA:=λr=>Ze (Zx ((Zf (#[(Zi MY #v[(Za Au (!0) (~~~0)) r]) r,(Za Au (!0) (~~~1)) r].bind Zt)).map D.tup)) ∅
def Ra:=A7 1 1 Vp
def Vq:AA:=λr=>Ze (ZM (Cy (ZV ((Zk CJ #v[0,Z (.ty "list")]) r))) (Ze (Zx (Z (.bl O'))) ∅) (.next r)) (λr=>Ze (ZM (Dp (AV ((Za Dj (Zk Zp #v[0]) (~~~1)) r)) (AV ((Za EX (Zk Zp #v[0]) (~~~40)) r))) (Ze (Zx (Z (.bl O'))) ∅) (.next r)) (λr=>Ze (Zx ((Zi Vo #v[0]) r)) ∅))
def Re:=A7 1 1 Vq
def Ke:AA:=λr=>Ze (ZM (Dp (Cy (ZV (Bo r 1))) (AV ((Za Co (Za Au (!1) (λr=>Me (Z (.int 1)))) (!2)) r))) (Ze (Gp 1 (Bq r 2) r) ∅) (.next r)) ∅
def Vr:AA:=λr=>Ze (Z0 1 (Zf ((Z []).bind Zt)) r) (λr=>Ze ((ZU (λr=>(ZE ((Ld MY (!0)) r)).bind Zs) (Zc 2) Ke) r) (λr=>Ze (Dh (D3 r 1)) ∅))
def OV:=A7 1 3 Vr
def Vs:AH:=(Zi Re #v[0])
def Vt:AA:=λr=>Ze (ZM (Cy (ZV ((Zk CJ #v[0,Z (.ty "list")]) r))) (Ze (Zx (Z (.bl O'))) ∅) (.next r)) (λr=>Ze (ZM (Dp (AV ((Za Dj (Zk Zp #v[0]) (~~~1)) r)) (AV ((Za EX (Zk Zp #v[0]) (~~~4)) r))) (Ze (Zx (Z (.bl O'))) ∅) (.next r)) (λr=>Ze (Zx ((Zk FC #v[ZE ((Zh 1 [] (λr=>(BR r 0).bind Zs) (Zc 0) (λ_=>Z J') Vs) r)]) r)) ∅))
def Vu:=A7 1 1 Vt
def eA:AH:=λr=>(Zf (#[Bq r 0].bind Zt)).map D.tup
def eB:AH:=(Za Au (!0) (~~~0))
def Vv:AA:=λr=>Ze (Dh ((Zh 1 [] (λr=>((Zi OV #v[ZE ((Zh 1 [] (λr=>(BR r 0).bind Zs) (Zc 0) (λ_=>Z J') eA) r)]) r).bind Zs) (Zc 0) (λ_=>Z J') eB) r)) ∅
def Vw:=A7 1 1 Vv
def OW:AH:=(Za D5 (!0) (!1))
def OX:AA:=λr=>Ze (ZM (ZV ((Zi QF #v[0,3]) r)) (Ze (Z5 5 ((Zk EI #v[ZE ((Zh 2 [] (Fg (λr=>BR r 0) (λr=>BR r 3)) (Z6 2 (Zq (Zc 0) (Zq (Zc 1) Z8))) (λ_=>Z J') OW) r)]) r) r) (λr=>Ze (JZ 2 (Bo r 5) (KR (AV ((Za (DO O') (!5) (!2)) r)) ((Zi OH #v[(Za D5 (!2) (!5)) r,4]) r) (Bq r 4)) r) ∅)) (.next r)) ∅
def Vx:AH:=λr=>(Zf (#[Bq r 0,(Za D5 (!1) (!0)) r].bind Zt)).map D.tup
def Vy:AA:=λr=>Ze (F6 2 (Z []) r) (λr=>Ze ((ZU (λr=>(BR r 1).bind Zs) (Z6 2 (Zq (Zc 3) (Zq (Zc 4) Z8))) OX) r) (λr=>Ze (Dh ((Zh 1 [2] (λr=>((Zi OV #v[ZE ((F5 HB #v[2]) r)]) r).bind Zs) (Zc 0) (λ_=>Z J') Vx) r)) ∅))
def Vz:=A7 2 6 Vy
def VA:VE->O Bool:=λr=>AV ((Za Co (Za Ja (!1) (!0)) (Za D5 (!2) (!0))) r)
def eC:AH:=λr=>Bq r 0
def VB:VE->O Bool:=λr=>AV ((Za (DO J') (!0) (!1)) r)
def eE:AH:=λr=>Bq r 0
def eF:AA:=λr=>F6 2 ((IZ (!0)) r) r
def eG:AA:=λr=>F6 3 ((IZ (!1)) r) r
def eH:AA:=(GY 2 (λr=>Z0 4 ((Zh 1 [3,2] (λr=>(BR r 2).bind Ei) (Zc 0) VA eC) r) r))
def eI:AA:=(GY 3 (λr=>Dh ((Fw OV #v[(Za Zo (!4) (λr=>ZE ((Zh 1 [2] (λr=>(BR r 3).bind Ei) (Zc 0) VB eE) r))) r]) r)))
def wq:AA:=λr=>.next r
def eJ:=eI >>> wq
def eK:=eH >>> eJ
def eM:=eG >>> eK
def eO:=eF >>> eM
def VC:AA:=eO
def Rf:=A7 2 5 VC
def VD:VE->O Bool:=λr=>AV ((Za CG (Zi Je #v[0,1]) (!2)) r)
def VF:AH:=(Za Au (!0) (~~~0))
def VG:AA:=λr=>Ze (ZM (Ef (Cy (Hn (Bo r 2))) (Cy (ZV ((Zi OJ #v[2]) r)))) (Ze (Dh (Zf ((Z []).bind Zt))) ∅) (.next r)) (λr=>Ze (Dh ((Fw Vw #v[ZE ((Zh 1 [1,2] (λr=>(BR r 0).bind Zs) (Zc 0) VD VF) r)]) r)) ∅)
def VH:=A7 3 3 VG
def VI:AH:=λr=>(Zf (#[Bq r 0,(Zi QD #v[ZE (Zf (#[Bq r 1].bind Zt))]) r].bind Zt)).map D.tup
def VJ:AA:=λr=>Ze (Z5 3 (ZE ((Zh 2 [] (λr=>(BR r 1).bind Zs) (Z6 2 (Zq (Zc 0) (Zq (Zc 1) Z8))) (λ_=>Z J') VI) r)) r) (λr=>Ze (Dh ((Fw Vz #v[(Zi QZ #v[0,(Zi OG #v[0]) r,2]) r,3]) r)) ∅)
def Rg:=A7 3 4 VJ
def VL:AH:=λr=>(Zf (#[Bq r 1,Bq r 0].bind Zt)).map D.tup
def Rh:AA:=λr=>Ze (Mm 2 ((Zh 1 [3] (λr=>((Zi Rf #v[(Za D5 (!0) (!3)) r,(Za D5 (!1) (!3)) r]) r).bind Zs) (Zc 0) (λ_=>Z J') VL) r) r) ∅
def VM:AA:=λr=>Ze (Z0 2 (Zf ((Z []).bind Zt)) r) (λr=>Ze ((ZU (λr=>(ZE (MN (Bo r 0))).bind Zs) (Zc 3) Rh) r) (λr=>Ze (Dh (D3 r 2)) ∅))
def VN:=A7 2 4 VM
def VO:AA:=λr=>Ze (Zx ((Za EX (Zk Zp #v[(Zi VH #v[0,1,2]) r]) (~~~0)) r)) ∅
def Kf:=A7 3 3 VO
def VP:AH:=λr=>(Zf (#[Bq r 0,(Zi Rg #v[1,2,0]) r].bind Zt)).map D.tup
def VQ:AA:=λr=>Ze (JJ ((IZ (λr=>ZE ((Zh 1 [0,1] (λr=>(BR r 2).bind Zs) (Zc 0) (λ_=>Z J') VP) r))) r)) ∅
def Rj:=A7 3 3 VQ
def VR:Bw:=λs=>EN (jT 2 (λr=>Cy (ZV ((Zi QX #v[(Bo r 0).bind (DQ "Book" "axes"),1]) r))) s) (Zw (.fail) ∅) (.next s)
def VS:Bw:=λs=>EN (jT 2 (λr=>AV ((Za (DO J') (!1) (λr=>(Bo r 0).bind (DQ "Book" "tables"))) r)) s) (Zw (EN (jT 2 (λr=>AV ((Za NO (Zk MJ #v[(Bo r 0).bind (DQ "Book" "tables")]) (~~~12)) r)) s) (Zw (.fail) ∅) (.next s)) (λs=>Zw (Qs (λs=>Qp "Book" "tables" s (B9 s 0)) ((jE 0 (λr=>Bq r 1)) s) ((jE 1 (Zi Rg #v[(Bo r 0).bind (DQ "Book" "axes"),(Bo r 0).bind (DQ "Book" "standing"),1])) s) s) ∅)) (.next s)
def eP:Bw:=λs=>Ek (xD ((jE 2 (Zk Zp #v[(Za D5 (λr=>(Bo r 0).bind (DQ "Book" "tables")) (!1)) r])) s) s)
def wr:Bw:=λs=>.next s
def VT:=eP <<< wr
def VU:=VS <<< VT
def VV:=VR <<< VU
def OY:Bw:=VV
def Rk:=Ey 2 2 OY
def Rl:AH:=(Zi Kf #v[0,Z (.int 0),1])
def VX:AA:=λr=>Ze (ZM (Dp (Cy (ZV ((Zk CJ #v[1,Z (.ty "tuple")]) r))) (AV ((Za Co (Zk Zp #v[1]) (Zk Zp #v[0])) r))) (Ze (Zx (Z (.bl O'))) ∅) (.next r)) (λr=>Ze (Zx ((Zk FC #v[ZE ((Zh 2 [] (Fg (λr=>BR r 0) (λr=>BR r 1)) (Z6 2 (Zq (Zc 0) (Zq (Zc 1) Z8))) (λ_=>Z J') Rl) r)]) r)) ∅)
def VY:=A7 2 2 VX
def VZ:VE->O Bool:=λr=>AV ((Za CG (Za Au (!0) (Za Zo (!1) (~~~1))) (!2)) r)
def V0:AH:=(Eu (!0) (λr=>EG ((Za Zo (!1) (~~~1)) r)) (λ_=>Z J) Fz)
def Wa:AH:=λr=>KR (AV ((Za CG (Za Au (!0) (!1)) (!2)) r)) ((Za Zo (Eu (!0) (λ_=>Z J) (λr=>EG ((Za Zo (!1) (~~~1)) r)) Fz) (!3)) r) (Bq r 0)
def eQ:AA:=λr=>ZM (Cy (ZV ((Zi QP #v[0,1]) r))) (Ze (.fail) ∅) (.next r)
def eR:AA:=λr=>ZM (Cy (ZV ((Zi Kf #v[0,1,2]) r))) (Ze (.fail) ∅) (.next r)
def eS:AA:=λr=>ZM (Cy (ZV ((Zi Kf #v[0,(Za Zo (!1) (~~~1)) r,3]) r))) (Ze (.fail) ∅) (.next r)
def eT:AA:=λr=>Z5 4 ((Za Au (λr=>ZE ((Zh 1 [1,3] (λr=>(BR r 0).bind Zs) (Zc 0) VZ V0) r)) (~~~0)) r) r
def eU:AA:=λr=>Dh ((Zh 1 [1,2,4] (λr=>(BR r 0).bind Zs) (Zc 0) (λ_=>Z J') Wa) r)
def wt:AA:=λr=>.next r
def eV:=eU >>> wt
def eW:=eT >>> eV
def eX:=eS >>> eW
def eY:=eR >>> eX
def eZ:=eQ >>> eY
def Wb:AA:=eZ
def Wc:=A7 4 5 Wb
def e5:AH:=λr=>ZE ((F5 Mg #v[0]) r)
def e6:Bw:=λs=>EN (jT 2 (λr=>Cy (ZV ((Zi Vu #v[1]) r))) s) (Zw (.fail) ∅) (.next s)
def e7:Bw:=λs=>Gy "Book" "axes" (λs=>B9 s 0) (xF .l (jG 1 (Zh 1 [] (λr=>(BR r 1).bind Zs) (Zc 0) (λ_=>Z J') e5) s) s) s
def e8:Bw:=λs=>Gy "Book" "standing" (λs=>B9 s 0) (xF .l (jG 2 (λr=>Zf ((Z []).bind Zt)) s) s) s
def e9:Bw:=λs=>Gy "Book" "tables" (λs=>B9 s 0) (xC .d (jG 1 (JH Rj #v[(Bo r 0).bind (DQ "Book" "axes"),ZE (Zf ((Z []).bind Zt)),ZE (Zf (#[(Zi OG #v[(Bo r 0).bind (DQ "Book" "axes")]) r].bind Zt))]) s) s) s
def fh:Bw:=λs=>.next s
def fj:=e9 <<< fh
def fm:=e8 <<< fj
def fq:=e7 <<< fm
def ft:=e6 <<< fq
def Rm:Bw:=ft
def Wd:=Ey 2 2 Rm
def fu:Bw:=λs=>C9 1 (xP (Qp "Book" "tables" s (B9 s 0)) s) s
def fA:Bw:=λs=>Gy "Book" "tables" (λs=>B9 s 0) (xC .d (jG 1 (JH Rj #v[(Bo r 0).bind (DQ "Book" "axes"),(Bo r 0).bind (DQ "Book" "standing"),ZE ((F5 HB #v[1]) r)]) s) s) s
def fB:Bw:=λs=>Ek (xC .l (jG 2 (Fw VN #v[1,(Bo r 0).bind (DQ "Book" "tables")]) s) s)
def wu:Bw:=λs=>.next s
def fC:=fB <<< wu
def fE:=fA <<< fC
def fF:=fu <<< fE
def We:Bw:=fF
def Ro:=Ey 1 2 We
def Wf:AA:=λr=>Ze (ZM (Dp (Cy (ZV ((Zk CJ #v[1,Z (.ty "tuple")]) r))) (AV ((Za Co (Zk Zp #v[1]) (~~~3)) r))) (Ze (Zx (Z (.bl O'))) ∅) (.next r)) (λr=>Ze (ZM (Ef (AV ((Za Co (Za Au (!1) (~~~0)) (λ_=>Z (.str "+"))) r)) (AV ((Za Co (Za Au (!1) (~~~0)) (λ_=>Z (.str "-"))) r))) (Ze (Zx (Z (.bl O'))) ∅) (.next r)) (λr=>Ze (Zx (Cs (Ef (AV ((Zi VY #v[0,(Za Au (!1) (~~~1)) r]) r)) (AV ((Zi Z1 #v[(Za Au (!1) (~~~2)) r]) r))))) ∅))
def Wg:=A7 2 2 Wf
def Wh:Bw:=λs=>Zw (Cz (Ez "Book" "put_ladder" QG (B9 s 0) (Zr (((jE 0 (λr=>Bq r 1)) s).map .val) (Zr (((jE 1 (Zi Wc #v[(Zi U3 #v[(Bo r 0).bind (DQ "Book" "axes"),1]) r,2,3,4])) s).map .val) (Z []))) s) s) (λs=>Zw (Ek (Ez "Book" "tables_renewed" Ro (B9 s 0) (Z []) s)) ∅)
def Rp:=Ey 5 5 Wh
def Rq:Bw:=λs=>Zw (EN (jT 2 (λr=>Cy (ZV ((Zi Wg #v[0,4]) r))) s) (Zw (.fail) ∅) (.next s)) (λs=>Zw (EN (jT 2 (λr=>AV ((Za CG (Za Au (!4) (~~~0)) (λ_=>Z (.str "+"))) r)) s) (Zw (Cz (Gx UB (Zr ((B9 s 3).map .cel) (Zr (((jE 2 (λr=>(Zf (#[(Za Au (!4) (~~~1)) r,(Za Au (!4) (~~~2)) r].bind Zt)).map D.tup)) s).map .val) (Z []))) s) s) ∅) (Zw (Cz (Gx UD (Zr ((B9 s 3).map .cel) (Zr (((jE 2 (λr=>(Zf (#[(Za Au (!4) (~~~1)) r,(Za Au (!4) (~~~2)) r].bind Zt)).map D.tup)) s).map .val) (Z []))) s) s) ∅)) ∅)
def fG:Bw:=λs=>C9 3 (xC .l (jG 2 (F5 Mg #v[1]) s) s) s
def fH:Bw:=λs=>HE 4 Rq (((jE 0 (λr=>Bq r 2)) s).bind ML) s
def fI:Bw:=λs=>Ek (xF .l (jG 2 (Ld Ra (!3)) s) s)
def wv:Bw:=λs=>.next s
def fJ:=fI <<< wv
def fK:=fH <<< fJ
def fM:=fG <<< fK
def Wi:Bw:=fM
def Wj:=Ey 3 5 Wi
def OZ:Bw:=λs=>Zw (EN (jT 2 (λr=>AV ((Za CG (Za Au (!10) (!7)) (!8)) r)) s) (Zw (Cz (Fi (MU s (B9 s 1) (Kb s 5)) ((jE 2 (Za Zo (Eu (!10) (λ_=>Z J) (λr=>EG ((Za Zo (!7) (~~~1)) r)) Fz) (Eu (!9) (λr=>EG ((Za Zo (!7) (~~~1)) r)) (λ_=>Z J) Fz))) s) s) s) ∅) (Zw (Cz (Fi (MU s (B9 s 1) (Kb s 5)) ((jE 0 (λr=>Bq r 10)) s) s) s) ∅)) ∅
def Wk:VE->O Bool:=λr=>AV ((Za EX (Zk Zp #v[(Za Au (Za Au (!1) (!0)) (~~~0)) r]) (~~~1)) r)
def fN:AH:=λr=>Bq r 0
def O0:Bw:=λs=>Zw (C9 3 (xD ((jE 0 (Zi ZP #v[2,Z (.int 4)])) s) s) s) (λs=>Zw (C9 4 (xF .l (jG 2 (Zh 1 [1] (λr=>(#[(Zk Zp #v[1]) r].bind Zt).bind EW) (Zc 0) Wk fN) s) s) s) (λs=>Zw (EN (jT 2 (λr=>AV ((Za CG (!4) (λr=>ZE (Zf ((Z []).bind Zt)))) r)) s) (Zw (Ek (xC .l (jG 2 (λr=>Zf ((Z []).bind Zt)) s) s)) ∅) (.next s)) (λs=>Zw (C9 5 (xD ((jE 2 (Za Au (!4) (Za ZQ (Za Au (!3) (~~~0)) (Zk Zp #v[4])))) s) s) s) (λs=>Zw (C9 6 (xD ((jE 1 (Za Au (!1) (!5))) s) s) s) (λs=>Zw (C9 7 (xD ((jE 2 (Za ZQ (Za Au (!3) (~~~1)) (Za JP (Zk Zp #v[(Za Au (!6) (~~~0)) r]) (~~~1)))) s) s) s) (λs=>Zw (C9 8 (xD ((jE 2 (Za Au (Za Au (!6) (Za ZQ (Za Au (!3) (~~~2)) (Zk Zp #v[6]))) (!7))) s) s) s) (λs=>Zw (C9 9 (xD ((jE 2 (Za Au (!6) (Za ZQ (Za Au (!3) (~~~3)) (Zk Zp #v[6])))) s) s) s) (λs=>Zw (Qw (λs=>B9 s 1) (jE 0 (λr=>Bq r 5)) (xC .l (jG 2 (λr=>Zf ((Z []).bind Zt)) s) s) s) (λs=>Zw (HE 10 OZ (((jE 0 (λr=>Bq r 6)) s).bind ML) s) (λs=>Qx (λs=>B9 s 1) (λs=>(Kb s 5).bind cG) (λs=>Zw (Ek (Ez "Book" "regroup" Rp (B9 s 0) (Zr (((jE 0 (λr=>Bq r 5)) s).map .val) (Zr (((jE 0 (λr=>Bq r 7)) s).map .val) (Zr (((jE 0 (λr=>Bq r 8)) s).map .val) (Zr (((jE 2 (Za Au (!9) (Za Zo (!7) (~~~1)))) s).map .val) (Z []))))) s)) ∅) s))))))))))
def Rr:=Ey 3 11 O0
def Wl:Bw:=λs=>Zw (Gy "Book" "standing" (λs=>B9 s 0) (Gx Wj (Zr (((jE 1 (λr=>(Bo r 0).bind (DQ "Book" "axes"))) s).map .val) (Zr (((jE 1 (λr=>(Bo r 0).bind (DQ "Book" "standing"))) s).map .val) (Zr (((jE 0 (λr=>Bq r 1)) s).map .val) (Z [])))) s) s) (λs=>Zw (Ek (Ez "Book" "tables_renewed" Ro (B9 s 0) (Z []) s)) ∅)
def Rs:=Ey 2 2 Wl
def M0:Bw:=λs=>Zw (EN (jT 2 (λr=>Ef (AV ((Za Co (!2) (λr=>ZE (Zf ((Z []).bind Zt)))) r)) (AV ((Za Dj (Za ZQ (Za Au (!4) (Za Zo (~~~1) (!6))) (~~~5)) (~~~3)) r))) s) (Zw (C9 7 (xD ((jE 2 (Za Au (!2) (Za ZQ (Za Au (!4) (Za Zo (~~~7) (!6))) (Zk Zp #v[2])))) s) s) s) (λs=>Zw (EN (jT 2 (λr=>Dp (AV ((Za EX (Za ZQ (Za Gq (Za Au (!4) (Za Zo (~~~1) (!6))) (~~~5)) (~~~3)) (~~~0)) r)) (AV ((Za CG (!6) (~~~0)) r))) s) (Zw (Cz (MM (B9 s 2) ((jE 0 (λr=>Bq r 7)) s) s) s) (λs=>Zw (Cz (Fi (B9 s 5) ((jE 2 (Za Zo (λr=>(Zf (#[Z (.str "-")].bind Zt)).map D.tup) (!7))) s) s) s) ∅)) (Zw (Cz (Fi (B9 s 2) ((jE 0 (λr=>Bq r 7)) s) s) s) (λs=>Zw (Cz (Fi (B9 s 5) ((jE 2 (Za Zo (λr=>(Zf (#[Z (.str "+")].bind Zt)).map D.tup) (!7))) s) s) s) ∅))) ∅)) (Zw (Cz (Fi (B9 s 2) ((jE 2 (Zi QV #v[1,(Za Zo (Za Gq (!3) (Za Zo (!6) (~~~2))) (Za Au (!4) (Za Zo (~~~7) (!6)))) r])) s) s) s) (λs=>Zw (Cz (Fi (B9 s 5) ((jE 2 (Za Zo (λr=>(Zf (#[Z (.str "+")].bind Zt)).map D.tup) (Za Au (!2) (λr=>Me (Z (.int 1)))))) s) s) s) ∅))) ∅
def Wm:Bw:=λs=>Zw (C9 4 (xD ((jE 0 (Zi ZP #v[3,Z (.int 14)])) s) s) s) (λs=>Zw (C9 5 (xC .l (jG 2 (λr=>Zf ((Z []).bind Zt)) s) s) s) (λs=>Zw (HE 6 M0 (((jE 2 (Za Zo (~~~1) (Za ZQ (Za Au (!4) (~~~0)) (~~~6)))) s).bind Li) s) (λs=>QA 5 (λs=>Zw (Ek (Ez "Book" "pour" Rs (B9 s 0) (Zr (((jE 0 (λr=>Bq r 5)) s).map .val) (Z [])) s)) ∅) s)))
def Rt:=Ey 4 8 Wm
def fO:AH:=λr=>ZE ((F5 Mg #v[0]) r)
def fQ:AH:=(~~~0)
def O1:Bw:=λs=>Zw (C9 5 (xD ((jE 2 (Zi QT #v[1,(Za Zo (Za Gq (Zi ZH #v[0,Z (.int 5)]) (~~~4)) (Za Fy (~~~5) (!4))) r])) s) s) s) (λs=>Zw (Cz (Ez "Book" "keep" Rk (B9 s 2) (Zr (((jE 0 (λr=>Bq r 5)) s).map .val) (Z [])) s) s) (λs=>Zw (EN (jT 2 (λr=>AV ((Za (EH J') (!5) (!3)) r)) s) (Zw (Cz (Fi (B9 s 3) ((jE 0 (λr=>Bq r 5)) s) s) s) ∅) (.next s)) ∅))
def Ru:AH:=(Zi QV #v[1,(Za Zo (Za Gq (Zi ZH #v[2,Z (.int 6)]) (Za Zo (!0) (~~~1))) (!0)) r])
def Wn:AH:=(Za Zo (λr=>(Zf (#[Z (.str "+")].bind Zt)).map D.tup) (!0))
def Rw:AH:=(Zi Q6 #v[1,2,0])
def Rx:AH:=(Zi Q6 #v[1,2,0])
def O2:Bw:=λs=>Zw (C9 7 (xF .l (jG 0 (Zh 1 [1,6] (λr=>(BR r 3).bind Zs) (Zc 0) (λ_=>Z J') Rx) s) s) s) (λs=>Zw (C9 8 (xD ((jE 2 (Zi ZH #v[0,(Za Zo (~~~8) (!4)) r])) s) s) s) (λs=>Zw (EN (jT 2 (λr=>AV ((Za CG (Za ZQ (!8) (~~~3)) (~~~2)) r)) s) (Zw (C9 9 (Gx Rr (Zr ((B9 s 2).map .cel) (Zr ((B9 s 1).map .cel) (Zr (((jE 2 (Za Gq (!8) (~~~3))) s).map .val) (Z [])))) s) s) ∅) (Zw (C9 9 (Gx Rt (Zr ((B9 s 2).map .cel) (Zr ((B9 s 1).map .cel) (Zr ((B9 s 6).map .cel) (Zr (((jE 2 (Za Gq (!8) (~~~3))) s).map .val) (Z []))))) s) s) ∅)) (λs=>Zw (C9 10 (xF .l (jG 0 (Zh 1 [1,6] (λr=>(BR r 3).bind Zs) (Zc 0) (λ_=>Z J') Rw) s) s) s) (λs=>Zw (EN (jT 2 (λr=>Dp (Cy (ZV ((Zk CJ #v[9,Z (.ty "list")]) r))) (Dp (Cy (ZV ((Zi UN #v[9]) r))) (AV ((Za Co (!9) (Zi Q8 #v[3,7,10])) r)))) s) (Zw (Ek (xD ((jE 2 (λ_=>Z (.bl O'))) s) s)) ∅) (.next s)) (λs=>Zw (Cz (OD (B9 s 9) s) s) ∅)))))
def fT:Bw:=λs=>C9 1 (xC .l (jG 1 (Fw OR #v[0]) s) s) s
def fU:Bw:=λs=>C9 2 (Qq "Book" Wd (Zr (((jE 1 (λr=>ZE ((Zh 1 [] (λr=>(BR r 1).bind Zs) (Zc 0) (λ_=>Z J') fO) r))) s).map .val) (Z [])) s) s
def fV:Bw:=λs=>C9 3 (xC .l (jG 2 (λr=>Zf (#[(Zk EI #v[ZE ((Zh 1 [] (λr=>(BR r 1).bind Zs) (Zc 0) (λ_=>Z J') fQ) r)]) r].bind Zt)) s) s) s
def fW:Bw:=λs=>HE 4 O1 (((jE 2 (Za Zo (~~~1) (Za ZQ (Zi ZH #v[0,Z (.int 5)]) (~~~4)))) s).bind Li) s
def fX:Bw:=λs=>C9 3 (xC .l (jG 2 (λr=>MN (Bo r 3)) s) s) s
def fY:Bw:=λs=>C9 6 (xC .l (jG 2 (Zh 1 [1,0] (λr=>(#[(Za ZQ (Zi ZH #v[0,Z (.int 6)]) (~~~17)) r].bind Zt).bind EW) (Zc 0) (λ_=>Z J') Ru) s) s) s
def fZ:Bw:=λs=>Cz (Ez "Book" "pour" Rs (B9 s 2) (Zr (((jE 1 (λr=>ZE ((Zh 1 [] (λr=>(BR r 6).bind Zs) (Zc 0) (λ_=>Z J') Wn) r))) s).map .val) (Z [])) s) s
def f3:Bw:=λs=>HE 4 O2 (((jE 2 (Za Zo (~~~1) (Za ZQ (Zi ZH #v[0,Z (.int 7)]) (~~~4)))) s).bind Li) s
def f4:Bw:=λs=>Ek (xD ((jE 2 (λ_=>Z (.bl J'))) s) s)
def ww:Bw:=λs=>.next s
def f5:=f4 <<< ww
def f6:=f3 <<< f5
def f7:=fZ <<< f6
def f8:=fY <<< f7
def f9:=fX <<< f8
def ge:=fW <<< f9
def gg:=fV <<< ge
def gh:=fU <<< gg
def gm:=fT <<< gh
def Wo:Bw:=gm
def gq:=Ey 1 11 Wo
theorem wx(m:Nat)(G:Gh)(d:D):DS m G (.val d)=.val d:=rfl
theorem wy(m:Nat)(G:Gh):DS m G .no=.no:=rfl
theorem wz(i:Int):BF 2 (.int i)=J':=rfl
theorem wA(x:D):Zf (Z [x])=Z [x]:=rfl
theorem wC(x y:D):Zf (Z [x,y])=Z [x,y]:=rfl
theorem wD(x y z:D):Zf (Z [x,y,z])=Z [x,y,z]:=rfl
theorem wE(i:Int):Me (Z (.int i))=Z (.int (-i)):=rfl
theorem Lr(x y:Int):Zo (.int x) (.int y)=Z (.int (x+y)):=rfl
theorem gu(x y:Int):JP (.int x) (.int y)=Z (.int (x-y)):=rfl
theorem wF:CG (.int 0) (.int 0)=Z (.bl J'):=rfl
theorem wG:CG (.int 0) (.int 1)=Z (.bl O'):=rfl
theorem wH:CG (.int 1) (.int 0)=Z (.bl O'):=rfl
theorem wI:CG (.int 1) (.int 1)=Z (.bl J'):=rfl
end
section
local macro_rules | `(#v[$x])=>`(.val (.lst $x))
local macro_rules | `(‹$x›)=>`(.val (.int $x))
local macro_rules | `(tactic|rwa[$[$t:term],*] $[$l]?)=>do let c:Array Lean.Term:=("Df FK FD El Internal.Zr AU if_true Internal.Bo Internal.Za Internal.EV Internal.Ft GB CW GZ Internal.Ze Internal.Zi Internal.AV Internal.vw Internal.Uw Internal.jE Ck Internal.jT Internal.Ho Internal.pk Internal.jO Internal.Zk Internal.ZE Internal.Bq HU Internal.Zx KZ Internal.BR Internal.Cy Internal.Zw HG Internal.EN Internal.Zs JQ Internal.ZM decide_true Internal.Zc Internal.Dp Internal.B9 Internal.Ef Internal.xD Internal.C9 Internal.Z5 Internal.Zt Internal.K53.wx Internal.K53.wy Internal.Qt Internal.K53.wz Internal.K53.wA Internal.K53.wC Internal.K53.wD Internal.K53.wE Internal.K53.Lr Internal.K53.gu Internal.K53.wF Internal.K53.wG Internal.K53.wH Internal.K53.wI".splitOn " ").toArray.map λs=>⟨Lean.mkIdent s.toName⟩;`(tactic|simp only[$[$c:term],*,$[$t:term],*] $[$l]?)
abbrev A2:=U (U (U At))
abbrev BG:=U (U At)
theorem M4(s:Sl)(ns:U Int)(a:s=#v[ns.map D.int]\/s=.lent (ns.map D.int))(k:Int)(b:0<=k):ZH [s,‹k›]=Z ‹ns.getD k.toNat 0›:=by
 by_cases h:k<ns.length
 .rcases a with rfl|rfl<;>simp[ZH,A7,UF,h,atI,Eb,b]
 .rcases a with rfl|rfl<;>simp[ZH,A7,UF,h,show ns.length<=k.toNat by lia]
def BW:Af:="abcdefghijklmnopqrstuvwxyz"
def EA:Af:="0123456789"
def signs:Af:="abcdefghijklmnopqrstuvwxyz0123456789"
theorem gv:signs.length=36:=by symm
theorem wJ:signs.cps.toList=BW.cps.toList++EA.cps.toList:=by symm
def EO:D->Bool
 |.int _=>J'
 |_=>O'
def Io(c:Nat):Bool:=decide (c∈BW.cps.toList)||decide (c∈EA.cps.toList)
def Ip:U Nat->Bool
 |[]=>O'
 |c::r=>decide (c∈BW.cps.toList)&&(c::r).all Io&&decide ((c::r).length<=12)
def BH:D->Bool
 |.str z=>Ip z.cps.toList
 |_=>O'
theorem wL(c:Nat):Io c=decide (c∈signs.cps.toList):=by
 unfold Io;rw[wJ,Bool.eq_iff_iff];simp[Cj]
def Sm:D->Prop
 |.str z=>z.length<=100
 |.ty _=>False
 |.lst _ .d=>False
 |.lst _ (.i _ _)=>False
 |_=>True
theorem O3(d:D)(h:Sm d):Z1 [.val d]=Z (.val (.bl (EO d))):=by
 cases d with
 |lst a b=>cases b with
  |d=>show h.elim
  |i _ _=>show h.elim
  |l=>simp[Z1,A7,QB,EO]
 |ty n=>show h.elim
 |_=>simp[Z1,A7,QB,EO]
theorem wM(c:Nat):QC [.val (.str #[(T' [c])])]=Z (.bl (Io c)):=by
 rwa[QC,Uv,Cs];grind [Io,BW,EA]
theorem wN(L:U Nat):Di (Zc 0) (λ_=>Z J') QC [.no] (L.map λc=>D.str #[(T' [c])])=Z ((L.map Io).map D.bl):=by
 rw[ZA (λc=>D.str #[(T' [c])]) (λc=>D.bl<|Io c) L λc _=>#[[.val<|.str ⟨(T' [c])⟩],rfl,wM c]];simp
theorem wO(d:D)(h:Sm d):Jd [.val d]=Z (.val (.bl (BH d))):=by
 cases d with
 |str z=>
  obtain⟨⟨L⟩⟩:=z;let a:L.length<=AB:=Bu h (by ext);let k:=wN L;cases L with|nil=>simp[Jd,A7,Ll,BH,Ip,Str.length]|cons c r=>
   erw[Ck]at h a;let f:¬ ((r.length:Int)+1<1):=of_decide_eq_false rfl;by_cases e:r.length+1<=12
   .let g:¬ ((12:Int)<(r.length:Int)+1):=∅
    by_cases j:c∈(Ju "abcdefghijklmnopqrstuvwxyz").cps
    .simp[Jd,A7,Ll,BH,Ip,Str.length,a,f,g,-EH,Uv,atI,Eb,k,-AU,-CC,j,Oc e,BW]
    .simp[Jd,A7,Ll,BH,Ip,Str.length,a,f,g,-EH,Uv,atI,Eb,j,Oc e,BW]
   .simp[Jd,A7,Ll,BH,Ip,Str.length,a,f,show(12:Int)<(r.length:Int)+1 by lia,show ¬ r.length<=11 by lia]
 |ty n=>show h.elim
 |lst m b=>cases b with
  |d=>show h.elim
  |i _ _=>show h.elim
  |l=>simp[Jd,A7,Ll,BH]
 |_=>simp[Jd,A7,Ll,BH]
theorem gw(d:D)(h:Sm d):OJ [.val d]=Z (.val (.bl (EO d||BH d))):=by
 let a:=O3 d h;cases b:EO d<;>simp[b]at a ⊢<;>simp[OJ,A7,dB,a,wO d h]
def Jf(d:D):Bool:=EO d||BH d
def Ai(l:U At):D:=.tup (l.map aD)
theorem gy(a:At):Dl (aD a)=Z (.at a):=N3<|.at a
theorem Lu:∀(a b:At),AS (aD a) (aD b)=decide (a=b):=by
 intro a b;cases a<;>cases b<;>simp[aD]
theorem Wp:∀(a b:U At),CU (a.map aD) (b.map aD)=decide (a=b)
 |[],[]=>by simp
 |[],_::_=>by simp
 |_::_,[]=>by simp
 |x::a,y::b=>by
  simp[Lu,Wp a b]
theorem Lv(n:Nat)(a:At):A1 n (aD a)=J':=by cases a<;>cases n<;>rfl
theorem Lw(n:Nat)(l:U At):A1 (n+1) (Ai l)=J':=by
 show(l.map aD).all (A1 n)=J'
 rw[List.all_map,DK];show λa _=>Lv n a
theorem gz(a b:U At):Co (Ai a) (Ai b)=Z (.bl (!decide (a=b))):=by
 let c:=Lw 11 a;let d:=Lw 11 b;simp_all [Ai,Wp]
theorem wP(a b:At):Co (aD a) (aD b)=Z (.bl (!decide (a=b))):=by simp_all [Lv,Lu,HG]
def hd(l:U At):At:=l.headD .non
theorem SV(x:Af):x.length=x.cps.toList.length:=rfl
theorem wQ{a:Type}{f:Nat->a}{m:Nat}(h:((Bt m).map f).Nodup){k:Nat}(b:j<m)(c:k<m)(e:f j=f k):j=k:=by grind [List.nodup_iff_pairwise_ne,List.pairwise_map,Nat.lt_trichotomy,TU]
def GW(W:U Nat):Prop:=(∃c r,W=c::r/\c∈BW.cps.toList)/\W.all Io=J'
theorem GW.word{W:U Nat}(h:GW W)(a:W.length<=12):Ip W=J':=by
 let((c,r,rfl,b),d):=h;grind [Ip]
theorem wR{z:Af}(h:GW z.cps.toList)(a:z.cps.toList.length<=12):Jf (aD (.str z))=J'/\Sm (aD (.str z)):=by
 apply#[?_,?_]
 .show(EO (.str z)||BH (.str z))=J'
  grind [EO,BH,GW.word]
 .change z.length<=100
  rw[SV];lia
theorem Iq(x k:Int)(a:0<k)(b:k<1000000000):Gq (.int x) (.int k)=Z (.int (x/k)):=by
 show(if Nr x k then Z (D.int<|x/k)else J)=_
 rw[if_pos #[a,∅]]
theorem CM(x k:Int)(a:0<k):ZQ (.int x) (.int k)=Z (.int (x%k)):=by
 simp_all
theorem Ir{x y:Int}(h:DZ x y):Fy (.int x) (.int y)=Z (.int (x*y)):=by show(if DZ x y then Z (D.int<|x*y)else J)=_;rw[if_pos h]
theorem O4(a b:Int):CG (.int a) (.int b)=Z (.bl (decide (a=b))):=rfl
def Jg(x:Int)(k:Nat):Int:=(x*45742+x/46949+29*(k:Int)+11)%2147483647
theorem wT(x:Int)(k:Nat):0<=Jg x k/8:=by grind [Jg]
def Jh(x:Int)(k:Nat):Nat->U Int
 |0=>[]
 |n+1=>(Jg x k/8)::Jh (Jg x k) (k+1) n
theorem gA:∀(n k:Nat)(x:Int),(Jh x k n).length=n
 |0,_,_=>rfl
 |n+1,k,x=>by simp[Jh,gA n]
theorem gB:∀(n k:Nat)(x:Int),∀y∈Jh x k n,0<=y
 |0,_,_,y,h=>by cases h
 |n+1,k,x,y,h=>by
  erw[Jh,Bp]at h;rcases h with rfl|h
  .show wT x k
  .show gB n _ _ y h
theorem wU(s0 s1:Sl)(k:Nat)(x:Int)(acc:U Int)(hz:acc.length<AB):QH [s0,s1,‹x›,.own (acc.map D.int),‹k›]=.next [s0,s1,‹Jg x k›,.own ((acc++[Jg x k/8]).map D.int),‹k›]:=by
 let a:=Ir (x:=x) (y:=45742) (by right;decide);let b:=Ir (x:=29) (y:=(k:Int)) (by left;decide);unfold Jg;rwa[QH,a,Iq x 46949 (by ext) (by ext),b,CM (x*45742+x/46949+29*(k:Int)+11) 2147483647 (by ext),Iq ((x*45742+x/46949+29*(k:Int)+11)%2147483647) 8 (by ext) (by ext),Gp,D3,Bn,if_pos hz,DM]
theorem gC(s0 s1:Sl):∀(n k:Nat)(x:Int)(acc:U Int)(s4:Sl),acc.length+n<100000->∃b a,ZK (Zc 4) QH ((DT k n).map λ(k:Nat)=>D.int k) [s0,s1,‹x›,.own (acc.map D.int),s4]=.next [s0,s1,‹b›,.own ((acc++Jh x k n).map D.int),a]
 |0,k,x,acc,s4,_=>#[x,s4,by simp[ZK,Jh]]
 |n+1,k,x,acc,s4,h=>by
  let(b,a,e):=gC s0 s1 n (k+1) (Jg x k) (acc++[Jg x k/8]) ‹k› (by simp;lia);let c:acc.length<AB:=B7 (show acc.length<100000 by show FA h) (by ext);apply#[b,a,?_];rw[Ji,AU];rwa[ZK];grind [wU,Jh]
theorem O5(c:Int)(n:Nat)(h:n<=100):∃ws:U Int,ZP [‹c›,‹n›]=Z #v[ws.map D.int]/\ws.length=n/\∀y∈ws,0<=y:=by
 let b:EW [.int<|(n:Int)+2]=Z ((DT 0<|n+2).map λ(k:Nat)=>D.int k):=by
  have:=J9 (n+2) ∅;rw[Kg]at this;show this
 let(i,d,e):=gC ‹c› ‹n› (n+2) 0 (c%2147483549+17) [] .no (by simp;lia);let f:=gA (n+2) 0<|c%2147483549+17;let a:=gB (n+2) 0<|c%2147483549+17;erw[DU,CW]at e;generalize Jh (c%2147483549+17) 0 (n+2)=W at *;show#[W.drop 2,by simp[ZP,A7,cV,cU,cT,cR,cQ,cM,cN,cO,cP,b,e,show Fc (W.map D.int) (Z 2) J=(W.drop 2).map D.int by rw[vM,Ut _ _<|Ry 2];rfl],by simp[f],λy g=>a y<|List.mem_of_mem_drop g]
theorem wV(c:Int):∃ws:U Int,ZP [‹c›,‹40›]=Z #v[ws.map D.int]/\ws.length=40/\∀y∈ws,0<=y:=O5 c 40 (by ext)
theorem GC{xs:U Int}{i:Int}(a:0<=i)(b:i<xs.length):atI (xs.map D.int) i=Z (.int (xs.getD i.toNat 0)):=by
 rw[show i=((i.toNat:Nat):Int) by show Int.eq_natCast_toNat.mpr a];let h:i.toNat<xs.length:=(Int.toNat_lt a).mpr b;show Zz (by rw[CF,GR,Ch h];simp[DP,h])
theorem gD{g f:Type}{b:D->VE->O VE}{e:AH}{ρ:VE}(G:g->D)(W:f->D)(P:f->Prop):∀(xs:U g),(∀x∈xs,∃c a,P c/\b (G x) ρ=Z a/\e a=Z (W c))->∃cs:U f,Di b (λ_=>Z J') e ρ (xs.map G)=Z (cs.map W)/\cs.length=xs.length/\∀c∈cs,P c
 |[],_=>#[[],rfl,rfl,λ_ h=>nomatch h]
 |x::xs,h=>by
  let(c,a,n,i,j):=h x Ba;let(cs,k,l,o):=gD G W P xs λy m=>h y<|Bg _ m;apply⟨c::cs,?_,by simp[l],λd hd=>?_⟩
  .rwa[Di,i,j,k]
  .grind [hd]
abbrev cS(c:Nat):D:=.str #[(T' [c])]
theorem wX:∀cs:U Nat,(Txt.join "" (cs.map λc=>(#[(T' [c])]:Af))).cps.toList=cs:=by
 intro cs;show(Builtin.Str.glued ""<|cs.map λc=>(#[(T' [c])]:Af)).cps.toList=cs
 rw[StrLaws.glued_eq_join];induction cs with|nil=>rfl|cons c cs a=>
  cases cs with|nil=>rfl|cons d cs=>
   show((#[(T' [c])]:Af)++("":Af)++Str.join "" ((d::cs).map λc=>(#[(T' [c])]:Af))).cps.toList=_
   let e:∀(x y:Af),(x++y).cps.toList=x.cps.toList++y.cps.toList:=λx y=>by
    show(x.cps++y.cps).toList=_
    simp
   let b:("":Af).cps.toList=[]:=by symm
   simp_all
structure gE(f:Nat->At):Prop where
 inj:∀j k,j<6->k<6->f j=f k->j=k
 val:∀k,k<6->Jf (aD (f k))=J'
 sm:∀k,k<6->Sm (aD (f k))
theorem wY{x y:Int}(h:LL x y):KV (.int x) (.int y)=Z (.int (x^y.toNat)):=by show(if LL x y then Z (D.int<|x^y.toNat)else J)=_;rw[if_pos h]
theorem wZ(c:Int)(k:Nat):Kc [‹c›,‹0›,‹k›]=Z ‹(c%10^30-5*10^29+(k:Int))›:=by
 rfl
def sg(i:Nat):Nat:=signs.cps.toList.getD i 0
theorem w5:((Bt 36).map sg).Nodup:=by symm
theorem gF:∀i∈Bt 26,sg i∈BW.cps.toList:=by symm
theorem Wq:∀i∈Bt 36,Io (sg i)=J':=by symm
theorem gG(i:Nat)(h:i<36):Au (.str "abcdefghijklmnopqrstuvwxyz0123456789") (.int i)=Z (cS (sg i)):=by
 let a:signs.cps.toList.length=36:=by rw[<- SV];show gv
 show(if signs.length<=AB then(atI signs.cps.toList (i:Int)).map λc=>D.str #[(T' [c])]else J)=_
 rw[if_pos (show signs.length<=AB by rw[gv];decide),Zz<|Ch ∅];simp[sg,DP,a,h]
def md(j:Nat):Int:=if j=0 then 26 else 36
theorem gH(j:Nat):Au (.lst [.int 36,.int 26]) (.int (if decide ((j:Int)=0)=J' then 1 else 0))=Z (.int (md j)):=by
 unfold md;by_cases h:j=0
 .subst h;rfl
 .erw[h,Int.ofNat_ne_zero.mpr h,decide_false,if_false];rfl
theorem Rz(j:Nat):0<md j/\md j<=36:=by unfold md;split<;>decide
def Gc(x:Int)(j:Nat):Nat:=(x%md j).toNat
theorem Lx(x:Int)(j:Nat):Gc x j<36:=by
 have:=Rz j;unfold Gc;let a:=Jj x this.1;grind
theorem gI(x:Int):Gc x 0<26:=by grind [Gc,md]
theorem RC(x:Int)(j:Nat):x%md j=(Gc x j:Int):=by grind [Rz,md,Gc]
theorem w9(x:Int)(j:Nat){a b:Nat}(c:a<6)(d:b<6)(e:Gc (x+5*(a:Int)) j=Gc (x+5*(b:Int)) j):a=b:=by
 let f:(x+5*(a:Int))%md j=(x+5*(b:Int))%md j:=by rw[RC,RC,e]
 grind [md]
theorem xa(c:Int)(j:Nat)(b:j<1000):QI [‹j›,.val (.str "abcdefghijklmnopqrstuvwxyz0123456789"),‹c›]=Z (cS (sg (Gc (c/((j:Int)+2)+4*(j:Int)) j))):=by
 let a:=Ir (x:=4) (y:=(j:Int)) (by left;decide);erw[QI,Za,Bo,FD,FK,Df,Lr,Iq c ((j:Int)+2) (Int.sign_eq_one_iff_pos.mp rfl) ∅,a,O4,EV,El,Zr,Zk,Ho,pk,Internal.intD,Zt,Zf,if_pos (show([D.int 36,.int 26]:U D).length<=AB by ext),ZE,gH j,CM (c/((j:Int)+2)+4*(j:Int)) (md j) (Rz j).1];rw[RC,gG _<|Lx (c/((j:Int)+2)+4*(j:Int)) j]
def wB(c:Int)(n:Nat):U Nat:=(Bt n).map λ(j:Nat)=>sg (Gc (c/((j:Int)+2)+4*(j:Int)) j)
def wK(c:Int)(n a:Nat)(k:Nat):U Nat:=(wB c n).set a (sg (Gc (c/((a:Int)+2)+4*(a:Int)+5*(k:Int)) a))
def wS(L:U Nat):Af:=Txt.join "" (L.map λc=>(#[(T' [c])]:Af))
theorem RD(L:U Nat):(wS L).cps.toList=L:=wX L
theorem RF(c:Int)(n:Nat):(wB c n).length=n:=by simp[wB]
theorem xc(c:Int)(n:Nat):∀x∈wB c n,Io x=J':=by
 intro x a;let(j,b,rfl):=Bi.mp a;grind [Wq,Lx]
theorem xf(c:Int)(n:Nat)(h:0<n):∃x r,wB c n=x::r/\x∈BW.cps.toList:=by
 obtain⟨m,rfl⟩:∃m,n=m+1:=#[n-1,by show(Nat.sub_eq_iff_eq_add h).mp rfl];show#[_,_,by rw[wB,List.range_succ_eq_map,AU],gF _<|ED.mpr<|gI _]
theorem xg(c:Int)(n a k:Nat)(h:0<n):GW (wK c n a k):=by
 let(x,r,e,f):=xf c n h;let d:=xc c n;unfold wK;rw[e]at d ⊢;cases a with
 |zero=>
  apply#[#[_,r,rfl,gF _<|ED.mpr<|gI _],DK.mpr λy b=>?_];rcases Bp.mp b with rfl|b
  .show Wq _<|ED.mpr<|Lx _ _
  .show d y<|Bg _ b
 |succ a=>
  apply#[#[x,r.set a _,rfl,f],DK.mpr λy b=>?_];grind [Wq,Lx]
theorem xh(c:Int)(n a:Nat)(d:a<n){k:Nat}(f:j<6)(g:k<6)(e:wK c n a j=wK c n a k):j=k:=by
 unfold wK at e;let b:=congrArg (λl=>l[a]?) e;erw[ER (show a<(wB c n).length by show Js d (RF c n).symm),PM]at b;show w9 _ _ f g<|wQ w5 (Lx _ _) (Lx _ _) b
theorem gJ:∀L:U Nat,(L.map λ_=>1).sum=L.length
 |[]=>rfl
 |_::L=>by rw[AU,List.sum_cons,gJ L,Ck];show Nat.add_comm 1 L.length
theorem xi(c w:Int)(s:¬ w=0)(n a k:Nat)(h:1+c%12=(n:Int))(d:n<=12)(i:c/12%(n:Int)=(a:Int))(l:a<n):Kc [‹c›,‹w›,‹k›]=Z (.val (.str (wS (wK c n a k)))):=by
 let q3:=CM (c/12) (n:Int) ∅;rw[i]at q3;let g:=ZA (b:=Zc 0) (e:=QI) (ρ:=[.no,.val<|.str "abcdefghijklmnopqrstuvwxyz0123456789",‹c›]) (λ(j:Nat)=>D.int j) (λ(j:Nat)=>cS<|sg<|Gc (c/((j:Int)+2)+4*(j:Int)) j) (Bt n) λj m=>#[_,rfl,xa c j (by have:=ED.mp m;lia)];rw[show(Bt n).map (λ(j:Nat)=>cS<|sg<|Gc (c/((j:Int)+2)+4*(j:Int)) j)=(wB c n).map cS by rw[wB,CC];rfl]at g;let o:=Ir (x:=4) (y:=(a:Int)) (by left;decide);let f:=Ir (x:=5) (y:=(k:Int)) (by left;decide);let p:Eb ((wB c n).map cS).length (a:Int)=Z a:=by
  rw[Bn,RF];unfold Eb;grind
 let q:JU ((wK c n a k).map cS)=Z ((wK c n a k).map λc=>(#[(T' [c])]:Af)):=by
  have:=ah<|(wK c n a k).map λc=>(#[(T' [c])]:Af);rw[CC]at this;show this
 let r:(((wK c n a k).map λc=>(#[(T' [c])]:Af)).map (·.length)).sum+((wK c n a k).map λc=>(#[(T' [c])]:Af)).length*("":Af).length<=16777216:=by
  let u:(wK c n a k).length=n:=by simp[wK,RF]
  let v:((wK c n a k).map λc=>(#[(T' [c])]:Af)).map (·.length)=(wK c n a k).map λ_=>1:=by rw[CC];rfl
  let z:("":Af).length=0:=by ext
  grind [gJ]
 erw[Kc,A7,Ck,HU,HH,if_true,dr,dn,cX,Za,Bo,FD,FK,Df,F3,DU,show AV (CG (.int w)<|.int 0)=Z O' by simp_all,ZM,Ze,Ly,M5,Lz,
  dm,cY,Z5,GZ,GB,dj,cZ,CM c 12 (by ext),Lr,h,dh,c0,Iq c 12 (by ext) (by ext),q3,dg,c3,Zh,EV,El,Bq,Zr,Zt,J9 n ∅,Zf,if_pos (show((Bt n).map λ(k:Nat)=>D.int k).length<=AB by rw[Bn,List.length_range];show Bu d (by ext)),Zv,AU,CW,JN,g,Z0]
 erw[df,c4,Za,Bo,FD,FK,Df,Lr,Iq c ((a:Int)+2) (Int.sign_eq_one_iff_pos.mp rfl) ∅,o,f,O4,EV,El,Zr,Zk,Ho,pk,Internal.intD,Zt,Zf,if_pos (show([D.int 36,.int 26]:U D).length<=AB by ext),ZE,gH a,CM (c/((a:Int)+2)+4*(a:Int)+5*(k:Int)) (md a) (Rz a).1,P2,D3];rw[RC,gG _<|Lx (c/((a:Int)+2)+4*(a:Int)+5*(k:Int)) a];erw[p,GZ,GB,show((wB c n).map cS).set a (cS<|sg<|Gc (c/((a:Int)+2)+4*(a:Int)+5*(k:Int)) a)=(wK c n a k).map cS by rw[wK,List.map_set],Ze,db,c9,K2,Zr,Ft,FD,FK,Df,Ho,pk,P4,q,if_pos r,Zx,wS]
theorem gK(c w:Int):∃f,gE f/\∀k:Nat,k<6->Kc [‹c›,‹w›,‹k›]=Z (.val (aD (f k))):=by
 by_cases i:w=0
 .subst i;apply#[λk=>.int<|c%10^30-5*10^29+(k:Int),⟨λj k _ _ e=>by injection e with e;lia,λk _=>rfl,λk _=>trivial⟩,λk _=>wZ c k]
 .obtain⟨n,o,b,d⟩:∃n:Nat,1+c%12=(n:Int)/\0<n/\n<=12:=#[(1+c%12).toNat,∅,∅,∅];let l:=Iu (c/12) (show(n:Int)≠0 by show Int.natCast_ne_zero_iff_pos.mpr b);obtain⟨a,p,g⟩:∃a:Nat,c/12%(n:Int)=(a:Int)/\a<n:=#[(c/12%(n:Int)).toNat,by show Eq.symm<|MW l,by show(Int.toNat_lt l).mpr<|Jj (c/12) (show(0:Int)<(n:Int) by show M6.mpr b)];let h:∀k,Jf (aD<|.str<|wS<|wK c n a k)=J'/\Sm (aD<|.str<|wS<|wK c n a k):=λk=>wR (by rw[RD];show xg c n a k b) (by rw[RD];simp[wK,RF];lia);apply#[λk=>.str<|wS<|wK c n a k,⟨λj k q r e=>?_,λk _=>(h k).1,λk _=>(h k).2⟩,λk _=>xi c w i n a k o d p g];let m:(wS<|wK c n a j).cps.toList=(wS<|wK c n a k).cps.toList:=∅
  rw[RD,RD]at m;show xh c n a g q r m
theorem gL{b:U Int}{P:Int->Prop}(h:∀z∈b,P z)(i:Nat)(a:i<b.length):P (b.getD i 0):=by
 simp_all
abbrev XS(ws:U Int):Sl:=#v[ws.map D.int]
theorem xj(ws:U Int)(l:ws.length=40)(s0 s2 s3 b c d e:Sl)(j:Nat)(m:1<=j)(a:j<10)(h:U Int)(f:h.length=j)(hz:∀z∈h,1<=z/\z<=6):∃z,1<=z/\z<=6/\QQ [s0,XS ws,s2,s3,.own (h.map D.int),‹j›,b,c,d,e]=.next [s0,XS ws,s2,s3,.own ((h++[z]).map D.int),‹j›,b,c,d,e]:=by
 let g:=GC (xs:=ws) (i:=2+(j:Int)) (Ry<|2+j) ∅;let k:=GC (xs:=h) (i:=(j:Int)-1) ∅ ∅;let n:=gL hz ((j:Int)-1).toNat ∅;generalize h.getD ((j:Int)-1).toNat 0=y,ws.getD (2+(j:Int)).toNat 0=w at *;let o:=Jj w (show 0<y by lia);show#[1+w%y,by show Int.le_add_of_nonneg_right<|Iu w (show y≠0 by lia),∅,by erw[QQ,Za,Bo,FD,FK,Df,Lr,gu,Au,g,k,CM w y ∅,Gp,Bn,if_pos (show h.length<AB by rw[f];show B7 a (by ext)),Ze,GZ,GB,DM,AU,CW]]
theorem gM(ws:U Int)(o:ws.length=40)(s0 s2 s3 d f g h:Sl):∀(n j:Nat)(v:U Int)(i:Sl),1<=j->j+n<=9->v.length=j->(∀z∈v,1<=z/\z<=6)->∃(c:U Int) (a:Sl),c.length=j+n/\(∀z∈c,1<=z/\z<=6)/\ZK (Zc 5) QQ ((DT j n).map λ(k:Nat)=>D.int k) [s0,XS ws,s2,s3,.own (v.map D.int),i,d,f,g,h]=.next [s0,XS ws,s2,s3,.own (c.map D.int),a,d,f,g,h]
 |0,j,v,i,_,_,m,l=>#[v,i,∅,l,rfl]
 |n+1,j,v,i,p,t,m,l=>by
  let(z,q,r,e):=xj ws o s0 s2 s3 d f g h j p ∅ v m l;let(c,a,u,s,q3):=gM ws o s0 s2 s3 d f g h n (j+1) (v++[z]) ‹j› (Ny p) ∅ (by simp[m]) (λy b=>by
   rcases Cj.mp b with b|b
   .show l y b
   .erw[Cw]at b;subst b;show#[q,r])
  apply#[c,a,∅,s,?_];rw[Ji,AU];erw[ZK,Zc,GZ,GB];rw[e];show q3
def G5(a:Nat->Nat->Nat)(j x:Nat):Nat:=if j=0 then x else a j x
def D8(f:Nat->Nat->At)(a:Nat->Nat->Nat):Nat->Nat->Nat->U At
 |_,_,0=>[]
 |j,x,n+1=>f j (G5 a j x)::D8 f a (j+1) (G5 a j x) n
def C2(ws a:U Int)(j x:Nat):Nat:=(ws.getD (7+7*j+x) 0%a.getD j 0).toNat
theorem xk(ws a:U Int)(j x:Nat)(h:1<=a.getD j 0):ws.getD (7+7*j+x) 0%a.getD j 0=(C2 ws a j x:Int):=by
 have:=Iu (ws.getD (7+7*j+x) 0) (show a.getD j 0≠0 by show Bz (Int.ne_of_lt h));unfold C2;show Eq.symm<|MW this
theorem gN(ws b:U Int)(j x:Nat)(h:1<=b.getD j 0)(a:b.getD j 0<=6):C2 ws b j x<6:=by
 have:=Jj (ws.getD (7+7*j+x) 0) (show 0<b.getD j 0 by show Int.lt_of_add_one_le h);unfold C2;lia
def cW(c:Int)(ws:U Int):Int:=c+ws.getD 2 0*(ws.getD 6 0%2)
def wW(ws:U Int)(j:Nat):Int:=(ws.getD 7 0+(j:Int)*(ws.getD 8 0%2))%2
def M7(c:Int)(ws:U Int)(f:Nat->Nat->At):Prop:=∀j,gE (f j)/\∀k:Nat,k<6->Kc [‹cW c ws›,‹wW ws j›,‹k›]=Z (.val (aD (f j k)))
theorem xm(c:Int)(ws:U Int):∃f,M7 c ws f:=#[λj=>Classical.choose<|gK (cW c ws)<|wW ws j,λj=>Classical.choose_spec<|gK (cW c ws)<|wW ws j]
theorem Kh(ws:U Int)(a:ws.length=40)(i:Nat)(b:i<40):atI (ws.map D.int) (i:Int)=Z (.int (ws.getD i 0)):=by
 have:=GC (xs:=ws) (i:=(i:Int)) (Lk i) ∅;grind
theorem xn(c:Int)(ws:U Int)(b:ws.length=40)(f:Nat->Nat->At)(p:M7 c ws f)(s2 s3 d e:Sl)(v:U Int)(hz:∀z∈v,1<=z/\z<=6)(j x:Nat)(k:j<v.length)(q:j<4)(r:x<6)(acc:U At)(s:acc.length<100):OQ [‹c›,XS ws,s2,s3,.own (v.map D.int),‹j›,d,e,.own (acc.map aD),‹x›]=.next [‹c›,XS ws,s2,s3,.own (v.map D.int),‹j›,d,e,.own ((acc++[f j (G5 (C2 ws v) j x)]).map aD),‹(G5 (C2 ws v) j x:Int)›]:=by
 let g:=gL hz j k;let cond:AV (EX (.int j)<|.int 0)=Z (decide<|0<(j:Int)):=rfl;let fin:∀y:Nat,y<6->(Ze (Gp 8 ((Zi Kc<|λa=>Zr (EV<|(Za Zo (λa=>Bo a 0) (Za Fy (Za Au (λa=>Bo a 1) (λ_=>Z<|.int 2)) (Za ZQ (Za Au (λa=>Bo a 1) (λ_=>Z<|.int 6)) (λ_=>Z<|.int 2)))) a) (Zr (EV<|(Za ZQ (Za Zo (Za Au (λa=>Bo a 1) (λ_=>Z<|.int 7)) (Za Fy (λa=>Bo a 5) (Za ZQ (Za Au (λa=>Bo a 1) (λ_=>Z<|.int 8)) (λ_=>Z<|.int 2)))) (λ_=>Z<|.int 2)) a) (Zr (Ft a 9)<|some []))) [‹c›,XS ws,s2,s3,.own<|v.map D.int,‹j›,d,e,.own<|acc.map aD,‹y›]) [‹c›,XS ws,s2,s3,.own<|v.map D.int,‹j›,d,e,.own<|acc.map aD,‹y›]) (λa=>.next a))=.next [‹c›,XS ws,s2,s3,.own<|v.map D.int,‹j›,d,e,.own<|(acc++[f j y]).map aD,‹y›]:=λy t=>by
  let l:=(p j).2 y t;unfold cW wW at l;erw[Zi,Za,Bo,Ft,FD,FK,Df,Au,show atI (ws.map D.int) 2=Z (.int<|ws.getD 2 0)from(Kh ws b 2<|KN rfl),show atI (ws.map D.int) 6=Z (.int<|ws.getD 6 0)from(Kh ws b 6<|KN rfl),show atI (ws.map D.int) 7=Z (.int<|ws.getD 7 0)from(Kh ws b 7<|KN rfl),show atI (ws.map D.int) 8=Z (.int<|ws.getD 8 0)from(Kh ws b 8<|KN rfl),CM (ws.getD 6 0) 2 (by ext),CM (ws.getD 8 0) 2 (by ext),Ir (show DZ (ws.getD 2 0) (ws.getD 6 0%2) by right;constructor<;>lia),Ir (show DZ (j:Int) (ws.getD 8 0%2) by right;constructor<;>lia),Lr,CM (ws.getD 7 0+(j:Int)*(ws.getD 8 0%2)) 2 (by ext),EV,El,Zr,l,Fv,Gp,Bn,if_pos (show acc.length<AB from B7 s (by ext)),Ze,GZ,GB,DM,AU,CW]
 by_cases m:j=0
 .subst m;have:=fin x r;unfold OQ;erw[Za,Bo,FD,FK,Df,cond]at this ⊢;show this
 .let h:atI (ws.map D.int) (7+7*(j:Int)+(x:Int))=Z (.int<|ws.getD (7+7*j+x) 0):=by
   rw[<- (Kh ws b (7+7*j+x) ∅)];congr 1
  let n:=GC (xs:=v) (i:=(j:Int)) (Lk j) (M8.mpr k);rw[GR]at n;let o:=CM (ws.getD (7+7*j+x) 0) (v.getD j 0) ∅;rw[xk ws v j x g.1]at o;let u:=Ir (x:=7) (y:=(j:Int)) (by left;decide);have:=fin (C2 ws v j x)<|gN ws v j x g.1 g.2;unfold OQ;rw[show G5 (C2 ws v) j x=C2 ws v j x from if_neg m];erw[Za,Bo,FD,FK,Df,cond,show decide (0<(j:Int))=J' from decide_eq_true ∅,ZM,u,Lr,Au,h,n,o,Z5,Ze,GZ,GB]at this ⊢;show this
theorem Wr(ws c:U Int)(hz:∀z∈c,1<=z/\z<=6)(j x:Nat)(b:j<c.length)(a:x<6):G5 (C2 ws c) j x<6:=by
 unfold G5;split
 .show a
 .simp_all [gN]
theorem gO(c:Int)(ws:U Int)(h:ws.length=40)(f:Nat->Nat->At)(i:M7 c ws f)(s2 s3 d e:Sl)(r:U Int)(hz:∀z∈r,1<=z/\z<=6):∀(n j x:Nat)(acc:U At)(g:Sl),j+n<=r.length->j+n<=4->x<6->acc.length+n<100->∃(a:Sl) (b:Sl),ZK (Zc 5) OQ ((DT j n).map λ(k:Nat)=>D.int k) [‹c›,XS ws,s2,s3,.own (r.map D.int),g,d,e,.own (acc.map aD),‹x›]=.next [‹c›,XS ws,s2,s3,.own (r.map D.int),a,d,e,.own ((acc++D8 f (C2 ws r) j x n).map aD),b]
 |0,j,x,acc,g,_,_,_,_=>#[g,_,by simp[ZK,D8];rfl]
 |n+1,j,x,acc,g,l,o,m,p=>by
  let(a,b,q):=gO c ws h f i s2 s3 d e r hz n (j+1) (G5 (C2 ws r) j x) (acc++[f j<|G5 (C2 ws r) j x]) ‹j› ∅ ∅ (Wr ws r hz j x (FA l) m) (by simp;lia);apply⟨a,b,?_⟩;rw[Ji,AU];erw[ZK,Zc,GZ,GB];rw[xn c ws h f i s2 s3 d e r hz j x (FA l) (FA o) m acc<|FA p];simp only;rw[q];erw[D8,C8,List.singleton_append]
structure GL(ls:BG)(p:Nat):Prop where
 n1:1<=ls.length
 n6:ls.length<=40
 p1:1<=p
 p4:p<=4
 len:∀l∈ls,l.length=p
 val:∀l∈ls,∀a∈l,Jf (aD a)=J'/\Sm (aD a)
 hdn:(ls.map hd).Nodup
 fn:∀l∈ls,∀l'∈ls,∀m a,l[m]?=Z a->l'[m]?=Z a->l.drop (m+1)=l'.drop (m+1)
theorem GL.take{b:BG}{p:Nat}(h:GL b p)(n:Nat)(f:1<=n):GL (b.take n) p:=by
 let c:∀x∈b.take n,x∈b:=λx g=>List.mem_of_mem_take g;apply#[?_,?_,h.p1,h.p4,λl a=>h.len l<|c l a,λl a=>h.val l<|c l a,?_,?_]
 .rw[Kz];have:=h.n1;show Nat.le_min_of_le_of_le f this
 .rw[Kz];have:=h.n6;lia
 .rw[List.map_take];show h.hdn.sublist<|List.take_sublist _ _
 .show λl a e d=>h.fn l (c l a) e<|c e d
theorem RH(f:Nat->Nat->At)(a:Nat->Nat->Nat):∀(n j x:Nat),(D8 f a j x n).length=n
 |0,_,_=>rfl
 |n+1,j,x=>by simp[D8,RH f a n]
def Ki(a:Nat->Nat->Nat)(j x:Nat):Nat->Nat
 |0=>G5 a j x
 |i+1=>Ki a (j+1) (G5 a j x) i
theorem RJ(f:Nat->Nat->At)(a:Nat->Nat->Nat):∀(i n j x:Nat),i<n->(D8 f a j x n)[i]?=Z (f (j+i) (Ki a j x i))/\(D8 f a j x n).drop (i+1)=D8 f a (j+i+1) (Ki a j x i) (n-i-1)
 |_,0,_,_,h=>∅
 |0,n+1,j,x,_=>by simp[D8,Ki]
 |i+1,n+1,j,x,h=>by
  let(b,c):=RJ f a i n (j+1) (G5 a j x)<|Nat.succ_lt_succ_iff.mp h;grind [D8,Ki]
theorem gP(ws c:U Int)(hz:∀z∈c,1<=z/\z<=6):∀(i j x:Nat),j+i<c.length->x<6->Ki (C2 ws c) j x i<6
 |0,j,x,a,b=>Wr ws c hz j x (Nat.lt_of_succ_le a) b
 |i+1,j,x,a,b=>gP ws c hz i (j+1) _ ∅<|Wr ws c hz j x (FA a) b
theorem xo(c:Int)(ws:U Int)(f:Nat->Nat->At)(s:M7 c ws f)(R:U Int)(hz:∀z∈R,1<=z/\z<=6)(p m:Nat)(K:R.length=p)(p1:1<=p)(p4:p<=4)(m1:1<=m)(Q:m<=6)(a:Nat->Nat)(u:∀k,k<m->a k<6)(h:∀j k,j<m->k<m->a j=a k->j=k):GL ((Bt m).map λk=>D8 f (C2 ws R) 0 (a k) p) p:=by
 let w:∀(k i:Nat),k<m->i<p->(D8 f (C2 ws R) 0 (a k) p)[i]?=Z (f i<|Ki (C2 ws R) 0 (a k) i)/\Ki (C2 ws R) 0 (a k) i<6:=λk i o d=>by
  have:=(RJ f (C2 ws R) i p 0 (a k) d).1;rw[IX]at this;show#[this,gP ws R hz i 0 (a k) ∅<|u k o]
 apply#[by simpa using m1,by rw[Bn,List.length_range];lia,p1,p4,λl r=>?_,λl r b L=>?_,?_,?_]
 .let(k,_,rfl):=Bi.mp r;show RH _ _ _ _ _
 .let(k,o,rfl):=Bi.mp r;let(i,h,e):=List.mem_iff_getElem.mp L;let d:i<p:=by rw[RH]at h;show h
  let(g,t):=w k i (ED.mp o) d;rw[Ch h,e]at g;injection g with g
  subst g;show#[(s i).1.val _ t,(s i).1.sm _ t]
 .rw[CC];apply List.pairwise_map.mpr<|List.Pairwise.imp_of_mem (λ{x y} G H A e=>A ?_) (List.nodup_range (n:=m));let T:∀k,hd (D8 f (C2 ws R) 0 (a k) p)=f 0 (a k):=λk=>by
   obtain⟨q,rfl⟩:∃q,p=q+1:=#[p-1,by show(Nat.sub_eq_iff_eq_add p1).mp rfl];rfl
  let e:f 0 (a x)=f 0 (a y):=by grind
  show h x y (ED.mp G) (ED.mp H)<|(s 0).1.inj _ _ (u x<|ED.mp G) (u y<|ED.mp H) e
 .intro l r P B n v C S;let(k,o,rfl):=Bi.mp r;let(F,E,rfl):=Bi.mp B;let d:n<p:=by
   have:=(Cm.mp C).1;rw[RH]at this;show this
  let(g,t):=w k n (ED.mp o) d;let(M,N):=w F n (ED.mp E) d;rw[g]at C;rw[M]at S;rw[(RJ f (C2 ws R) n p 0 (a k) d).2,(RJ f (C2 ws R) n p 0 (a F) d).2,(s n).1.inj _ _ t N (by rw[EE C,EE S])]
def aW(ws:U Int)(m k:Nat):Nat:=(((k:Int)+ws.getD 2 0)%(m:Int)).toNat
theorem Ws(ws:U Int)(m k:Nat)(a:0<m):((k:Int)+ws.getD 2 0)%(m:Int)=(aW ws m k:Int):=by
 have:=Iu ((k:Int)+ws.getD 2 0) (show(m:Int)≠0 by show Int.natCast_ne_zero_iff_pos.mpr a);unfold aW;show Eq.symm<|MW this
theorem gQ(ws:U Int)(m k:Nat)(a:0<m):aW ws m k<m:=by simp_all [Jj,aW]
theorem xp(c:Int)(m j k:Nat)(a:m<=6)(b:j<m)(d:k<m)(e:((j:Int)+c)%(m:Int)=((k:Int)+c)%(m:Int)):j=k:=by
 have:m=1\/m=2\/m=3\/m=4\/m=5\/m=6:=∅
 rcases this with rfl|rfl|rfl|rfl|rfl|rfl<;>lia
theorem xq(c:Int)(ws:U Int)(e:ws.length=40)(f:Nat->Nat->At)(j:M7 c ws f)(t:U Int)(hz:∀z∈t,1<=z/\z<=6)(p m k:Nat)(s:t.length=p)(p4:p<=4)(m1:1<=m)(l:m<=6)(acc:BG)(n:acc.length<100)(g o r:Sl):∃a d b,QR [‹c›,XS ws,‹m›,‹p›,.own (t.map D.int),g,.own (acc.map Ai),‹k›,o,r]=.next [‹c›,XS ws,‹m›,‹p›,.own (t.map D.int),a,.own ((acc++[D8 f (C2 ws t) 0 (aW ws m k) p]).map Ai),‹k›,d,b]:=by
 let h:=CM ((k:Int)+ws.getD 2 0) (m:Int)<|M6.mpr m1;rw[Ws ws m k<|D7 m1]at h;let i:=J9 p ∅;rw[Kg]at i;let(a,b,q):=gO c ws e f j ‹m› ‹p› (.own<|acc.map Ai) ‹k› t hz p 0 (aW ws m k) [] g ∅ ∅ (B7 (gQ ws m k<|D7 m1) l) (by simp;lia);erw[CW,DU]at q;apply⟨a,.own<|(D8 f (C2 ws t) 0 (aW ws m k) p).map aD,b,?_⟩;rwa[QR,Zf,if_pos<|ET _,Z0,Au,show atI (ws.map D.int) 2=Z (.int<|ws.getD 2 0)from Kh ws e 2 (KN rfl),h,ZU,i,q,Gp,D3,show EI [.lst<|(D8 f (C2 ws t) 0 (aW ws m k) p).map aD]=Z (Ai<|D8 f (C2 ws t) 0 (aW ws m k) p)from rfl,Bn,if_pos (show acc.length<AB from B7 n (by ext)),DM]
theorem gR(c:Int)(ws:U Int)(r:ws.length=40)(f:Nat->Nat->At)(s:M7 c ws f)(y:U Int)(hz:∀z∈y,1<=z/\z<=6)(p m:Nat)(t:y.length=p)(p4:p<=4)(m1:1<=m)(u:m<=6):∀(n k:Nat)(acc:BG)(a o b d:Sl),acc.length+n<100->∃(g i j l:Sl),ZK (Zc 7) QR ((DT k n).map λ(k:Nat)=>D.int k) [‹c›,XS ws,‹m›,‹p›,.own (y.map D.int),a,.own (acc.map Ai),o,b,d]=.next [‹c›,XS ws,‹m›,‹p›,.own (y.map D.int),g,.own ((acc++(DT k n).map λk=>D8 f (C2 ws y) 0 (aW ws m k) p).map Ai),i,j,l]
 |0,k,acc,a,o,b,d,_=>#[a,o,b,d,by simp[ZK]]
 |n+1,k,acc,a,o,b,d,h=>by
  let(v,w,x,e):=xq c ws r f s y hz p m k t p4 m1 u acc (FA h) a b d;let(g,i,j,l,q):=gR c ws r f s y hz p m t p4 m1 u n (k+1) (acc++[D8 f (C2 ws y) 0 (aW ws m k) p]) v ‹k› w x (by simp;lia);rw[Ji,AU];rwa[ZK];simp_all
theorem gS{l:U Nat}(h:l.length=8)(c:∀m∈l,1<=m/\m<=4)(x:Int):∃p:Nat,1<=p/\p<=4/\atI (l.map λm:Nat=>D.int m) (x%8)=Z (.int p):=by
 obtain⟨i,d,a⟩:∃i:Nat,x%8=(i:Int)/\i<l.length:=#[(x%8).toNat,∅,∅];let b:=c _<|F7 a;show⟨_,b.1,b.2,d ▸ Zz (by simp[a])⟩
theorem xt(x:Int):∃p:Nat,1<=p/\p<=4/\atI [D.int 2,.int 1,.int 3,.int 2,.int 3,.int 4,.int 2,.int 3] (x%8)=Z (.int p):=gS (l:=[2,1,3,2,3,4,2,3]) rfl (by ext) x
theorem xw(c:Int):∃h p,GL h p/\QS [‹c›]=Z (.own (h.map Ai)):=by
 let(a,t,b,_):=wV c;let(f,i):=xm c a;obtain⟨m,u,m1,d⟩:∃m:Nat,1+a.getD 0 0%6=(m:Int)/\1<=m/\m<=6:=#[(1+a.getD 0 0%6).toNat,∅,∅,∅];let(p,p1,p4,v):=xt<|a.getD 1 0;let l:=vN 1 (p:Int) (by ext) (by ext) ∅<|(Int.toNat_lt' p1).mp p1;let g:(Bt ((p:Int)-1).toNat).map (λ(k:Nat)=>D.int<|1+(k:Int))=(DT 1<|p-1).map λ(k:Nat)=>D.int k:=by
  simp_all [List.range'_eq_map_range,CC]
 rw[g]at l;let(F,w,K,n,o):=gM a b ‹c› ‹m› ‹p› .no .no .no .no (p-1) 1 [(m:Int)] .no (TH rfl) ∅ rfl (λz r=>by erw[Cw]at r;subst r;lia);let s:=J9 m ∅;rw[Kg]at s;let(x,y,A,B,q):=gR c a b f i F n p m ∅ p4 m1 d m 0 [] w .no .no .no (by simp;lia);erw[CW,DU]at q;apply#[(DT 0 m).map λk=>D8 f (C2 a F) 0 (aW a m k) p,p,?_,?_]
 .rw[<- Kg];let C:∀k,k<m->aW a m k<6:=λk _=>by have:=gQ a m k<|D7 m1;show B7 this d
  let E:∀j k,j<m->k<m->aW a m j=aW a m k->j=k:=λj k G H e=>xp (a.getD 2 0) m j k d G H (by rw[Ws a m j<|D7 m1,Ws a m k<|D7 m1,e]);show xo c a f i F n p m ∅ p1 p4 m1 d (aW a m) C E
 .erw[AU,CW]at o;rwa[QS,A7,HH,dV,dU,dF,F3,DU,t,Fv,Ly,M5,Lz,dT,dG,Au,show atI (a.map D.int) 0=Z (.int<|a.getD 0 0)from Kh a b 0 (Nat.zero_lt_succ 39),CM (a.getD 0 0) 6 (by ext),u,dS,dH,Zf,if_pos (show(8:Nat)<=AB by ext),show atI (a.map D.int) 1=Z (.int<|a.getD 1 0)from Kh a b 1 (Nat.one_lt_succ_succ 38),CM (a.getD 1 0) 8 (by ext),v,dR,dI,if_pos (show(1:Nat)<=AB by ext),Z0,dQ,dJ,ZU,l,o,dP,dK,Zf,if_pos<|ET _,Z0,dO,dL,s,q,dN,dM,D3,Dh]
abbrev LD(a:BG):D:=.lst (a.map Ai)
theorem xx(ns:U Int)(k:Nat):∃a,(∃p,GL a p)/\Q0 [‹k›,#v[ns.map D.int]]=Z (LD a):=by
 let b:=Ir (x:=1000) (y:=(k:Int)) (by left;decide);let(a,p,c,d):=xw<|ns.getD (1+(k:Int)).toNat 0+1000*(k:Int);apply⟨a,⟨p,c⟩,?_⟩;rwa[Q0,M4 #v[ns.map D.int] ns (.inl rfl) (1+(k:Int))<|Ry<|1+k,b,Fv,d]
theorem xA(x:Int):∃m:Nat,1<=m/\m<=4/\atI [D.int 2,.int 1,.int 2,.int 3,.int 1,.int 2,.int 3,.int 4] (x%8)=Z (.int m):=gS (l:=[2,1,2,3,1,2,3,4]) rfl (by ext) x
structure Ci(Ls:A2):Prop where
 n1:1<=Ls.length
 n4:Ls.length<=4
 good:∀ls∈Ls,∃p,GL ls p
theorem xB(a:BG):Q1 [.val (LD a)]=Z (LD (a.take 3)):=by
 have:=Us (a.map Ai) 3 (by ext);rwa[Q1,Eu,EG,Fz,this];simp_all
theorem xE(ns:U Int):∃c,Ci c/\OR [#v[ns.map D.int]]=Z (.own (c.map LD)):=by
 let n:=M4 #v[ns.map D.int] ns (.inl rfl) 0 (by ext);let(m,m1,i,o):=xA<|ns.getD (0:Int).toNat 0;let q:=CM (ns.getD (0:Int).toNat 0) 8 (by ext);let r:=J9 m ∅;let(c,s,d,t):=gD (b:=Zc 0) (e:=Q0) (ρ:=[.no,#v[ns.map D.int]]) (λ(k:Nat)=>D.int k) LD (λa=>∃p,GL a p) (Bt m) λk _=>by
  let(a,l,y):=xx ns k;show#[a,_,l,rfl,y]
 rw[List.length_range]at d;let f:(8:Nat)<=AB:=by ext
 let g:((Bt m).map λ(k:Nat)=>D.int k).length<=AB:=by rw[Bn,List.length_range];show Bu i (by ext)
 let u:=ZA (b:=Zc 0) (e:=Q1) (ρ:=[.no]) LD (λa=>LD<|a.take 3) c λa _=>#[_,rfl,xB a];rw[show c.map (λa=>LD<|a.take 3)=(c.map λa=>a.take 3).map LD by rw[CC];rfl]at u;let j:=O4 (m:Int) 4;by_cases w:(m:Int)=4
 .apply#[c.map λa=>a.take 3,#[by rw[Bn];show le_of_le_of_eq m1 d.symm,by rw[Bn];show le_of_eq_of_le d i,λa h=>?_],?_]
  .let(z,l,rfl):=Bi.mp h;let(p,A):=t z l;show#[p,A.take 3 (by ext)]
  .rw[decide_eq_true w]at j;rwa[OR,A7,HH,Ve,Vd,U6,F3,DU,n,Fv,q,Zf,if_pos f,Au,o,Ly,M5,Lz,Vc,U7,Zh,r,if_pos g,Zv,JN,s,Vb,U8,j,if_pos (show(c.map LD).length<=AB by rw[Bn,d];show Bu i (by ext)),u,Va,U9,Dh,D3,Z0,GY,JM]
 .apply#[c,#[by show le_of_le_of_eq m1 d.symm,by show le_of_eq_of_le d i,t],?_];rw[decide_eq_false w]at j;rwa[OR,A7,HH,Ve,Vd,U6,F3,DU,n,Fv,q,Zf,if_pos f,Au,o,Ly,M5,Lz,Vc,U7,Zh,r,if_pos g,Zv,JN,s,Vb,U8,j,Va,U9,Dh,D3,Z0,GY,JM]
structure Ln(l:List At):Prop where
 l1:1<=l.length
 l4:l.length<=4
 val:∀a∈l,Jf (aD a)=J'/\Sm (aD a)
theorem GL.ln{c:BG}{p:Nat}(h:GL c p):∀l∈c,Ln l:=λl b=>#[h.len l b ▸ h.p1,h.len l b ▸ h.p4,λa d=>h.val l b a d]
abbrev Kj(a:A2):D:=.tup (a.map λ_=>D.int 0)
theorem gT{a:A2}(h:Ci a):OG [#v[a.map LD]]=Z (.val (Kj a)):=by
 rwa[OG,A7,HH,cJ,Ly,Lz,D1,Zh,Zf,if_pos (show(a.map LD).length<=AB by rw[Bn];show Bu h.n4 (by ext)),Zv,M5,ZA (b:=Zc 0) (e:=cI) (ρ:=[.no]) LD (λ_=>D.int 0) a λc _=>#[[.val<|LD c],rfl,rfl],show EI [.lst<|a.map λ_=>D.int 0]=Z (Kj a)from rfl]
structure TO{α:Type}(lt:α->α->Bool):Prop where
 asym:∀a b,lt a b=J'->lt b a=O'
 neg:∀a b c,lt a c=J'->lt a b=J'\/lt b c=J'
 anti:∀a b,lt a b=O'->lt b a=O'->a=b
def FL{a:Type}(lt:a->a->Bool)(x:a):U a->U a
 |[]=>[x]
 |y::r=>if lt x y then x::y::r else y::FL lt x r
def Zm{a:Type}(lt:a->a->Bool):U a->U a
 |[]=>[]
 |x::r=>FL lt x (Zm lt r)
theorem RK{a:Type}(lt:a->a->Bool)(x:a):∀l,(FL lt x l).Perm (x::l)
 |[]=>.refl _
 |y::r=>by
  unfold FL;split
  .show .refl _
  .show((RK lt x r).cons y).trans<|.swap x y r
theorem Zy{a:Type}(lt:a->a->Bool):∀l,(Zm lt l).Perm l
 |[]=>.refl _
 |x::r=>(RK lt x _).trans<|(Zy lt r).cons x
theorem Wt{c:Type}{lt:c->c->Bool}(T:TO lt)(x:c):∀l:U c,l.Pairwise (λa b=>lt b a=O')->(FL lt x l).Pairwise λa b=>lt b a=O'
 |[],_=>by simp[FL]
 |y::r,g=>by
  let(h,i):=Oo.mp g;unfold FL;split
  .next f=>
   apply Oo.mpr #[λz d=>?_,g];rcases Bp.mp d with e|d
   .subst e;show T.asym x z f
   .cases j:lt z x with|false=>rfl|true=>
     rcases T.neg z y x j with q|q
     .rw[h z d]at q;cases q
     .rw[T.asym x y f]at q;cases q
  .next f=>
   apply Oo.mpr #[λz d=>?_,Wt T x r i];grind [RK]
theorem Wu{c:Type}{lt:c->c->Bool}(T:TO lt):∀l:U c,(Zm lt l).Pairwise λa b=>lt b a=O'
 |[]=>.nil
 |x::r=>Wt T x _<|Wu T r
theorem gU{c:Type}{lt:c->c->Bool}(T:TO lt){xs ys:U c}(d:ys.Perm xs)(e:ys.Pairwise λa b=>lt b a=O'):ys=Zm lt xs:=List.Perm.eq_of_pairwise (le:=λa b=>lt b a=O') (λa b _ _ f g=>T.anti a b g f) e (Wu T xs) (d.trans (Zy _ xs).symm)
theorem gW{a:Type}(f:a->D)(lt:a->a->Bool)(lk:D->D->Bool)(x:a):∀l:U a,(∀y∈l,lk (f x) (f y)=lt x y)->IY lk (f x) (l.map f)=(FL lt x l).map f
 |[],_=>rfl
 |y::r,h=>by
  erw[AU,IY,FL,h y Ba,gW f lt lk x r λz b=>h z<|Bg _ b];split<;>rfl
theorem gX{a:Type}(f:a->D)(lt:a->a->Bool)(lk:D->D->Bool):∀l:U a,(∀x∈l,∀y∈l,lk (f x) (f y)=lt x y)->Ff lk (l.map f)=(Zm lt l).map f
 |[],_=>rfl
 |x::r,h=>by
  erw[AU,Ff,Zm,gX f lt lk r λy b z c=>h y (Bg _ b) z<|Bg _ c];grind [gW,Zy]
theorem Wv{l:Type}{F:U Sl->O Rv}(f:l->D){lt:l->l->Bool}(T:TO lt)(b:Bool)(xs:U l)(few:xs.length<500)(m:l->D)(tells:∀a∈xs,F [.val (f a)]=Z (.val (m a)))(mode:∀a∈xs,Cp b (m a))(cmp:∀a∈xs,∀c∈xs,ltN 6 (m a) (m c)=Z (lt a c)):Hz F (xs.map f)=Z ((Zm lt xs).map f):=by
 let n:∀a∈xs,DD F (f a)=m a:=λa d=>by unfold DD;rw[tells a d];rfl
 let j:∀a∈xs,∀c∈xs,CK F (f a) (f c)=lt a c:=λa d c g=>aR (by rw[n a d,n c g];show cmp a d c g)
 let ok:Bl F (xs.map f):={
  few:=by simp;lia
  tells:=λx i=>by let(a,d,rfl):=Bi.mp i;show#[_,tells a d]
  mode:=#[b,λx i=>by let(a,d,rfl):=Bi.mp i;rw[n a d];show mode a d]
  cmp:=λx i y k=>by
   grind
  asym:=λx i y k h=>by
   let(a,d,rfl):=Bi.mp i
   let(c,g,rfl):=Bi.mp k
   rw[j a d c g]at h;rw[j c g a d];show T.asym a c h
  neg:=λx i y k z r h=>by
   let(a,d,rfl):=Bi.mp i
   let(c,g,rfl):=Bi.mp k
   let(e,o,rfl):=Bi.mp r
   rw[j a d e o]at h;rw[j a d c g,j c g e o];show T.neg a c e h
  anti:=λx i y k p q=>by
   let(a,d,rfl):=Bi.mp i
   let(c,g,rfl):=Bi.mp k
   rw[j a d c g]at p;rw[j c g a d]at q;rw[T.anti a c p q]}
 rw[sK ok,gX f lt _ xs j]
def DG{b:Type}[DecidableEq b]:O b->U b->U b
 |_,[]=>[]
 |p,a::r=>if p=Z a then DG p r else a::DG (Z a) r
theorem Ww{c:Type}[DecidableEq c]:∀(l:U c)(p:O c),l.Nodup->(∀a,p=Z a->a∉l)->DG p l=l
 |[],_,_,_=>rfl
 |a::r,p,h,d=>by
  let(f,g):=Gk.mp h;unfold DG;rw[if_neg<|λe=>d a e Ba,Ww r (Z a) g λb i=>by cases i;show f]
theorem Wx{c:Type}[DecidableEq c]:∀(l:U c)(p:O c)(a:c),a∈DG p l->a∈l
 |[],_,_,h=>h
 |b::r,p,a,h=>by
  unfold DG at h;split at h
  .show Bg _<|Wx r p a h
  .rcases Bp.mp h with rfl|h
   .show Ba
   .show Bg _<|Wx r _ a h
theorem Wy{c:Type}[DecidableEq c]:∀(l:U c)(p:O c)(a:c),a∈l->a∈DG p l\/p=Z a
 |[],_,_,h=>by cases h
 |b::r,p,a,h=>by
  unfold DG;split
  .next e=>
   rcases Bp.mp h with rfl|h
   .show .inr e
   .show Wy r p a h
  .rcases Bp.mp h with rfl|h
   .show .inl Ba
   .rcases Wy r (Z b) a h with h|h
    .show .inl<|Bg _ h
    .grind [Ba]
theorem gY{b:Type}[DecidableEq b](l:U b)(a:b):a∈DG J l↔a∈l:=by grind [Wx,Wy]
def Em:At->At->Bool
 |.non,.non=>O'
 |.non,_=>J'
 |.int i,.int j=>decide (i<j)
 |.int _,.str _=>J'
 |.str x,.str y=>decide (x.cps.toList<y.cps.toList)
 |_,_=>O'
theorem xG{x y:Af}(h:x.cps.toList=y.cps.toList):x=y:=by
 obtain⟨⟨a⟩⟩:=x;simp_all
theorem Jk:TO Em:={
 asym:=λa b h=>by
  cases a<;>cases b<;>erw[Em,decide_eq_true_eq,decide_eq_false_iff_not,Fs]at h ⊢
  .show Int.lt_asymm h
  .show List.lt_asymm h
 neg:=λa b c h=>by
  cases a<;>cases c<;>erw[Em,decide_eq_true_eq,Fs]at h<;>cases b<;>erw[Em,decide_eq_true_eq,Fs,true_or,or_true,or_false]
  .lia
  .grind [List.lt_of_le_of_lt,List.not_lt]
 anti:=λa b d e=>by
  cases a<;>cases b<;>erw[Em,decide_eq_false_iff_not,Bool.true_eq_false]at d e
  .rfl
  .rw[At.int.injEq];lia
  .rw[At.str.injEq];show xG (List.le_antisymm (List.not_lt.mp e) (List.not_lt.mp d))}
def AQ:U At->U At->Bool
 |[],[]=>O'
 |[],_::_=>J'
 |_::_,[]=>O'
 |a::r,b::s=>if a=b then AQ r s else Em a b
theorem gZ:∀a b,AQ a b=J'->AQ b a=O'
 |[],[],_=>rfl
 |[],_::_,_=>rfl
 |_::_,[],h=>by cases h
 |a::r,b::s,h=>by
  unfold AQ at h ⊢;by_cases e:a=b
  .subst e;erw[if_true]at h ⊢;show gZ r s h
  .rw[if_neg e]at h;rw[if_neg<|λz=>e z.symm];show Jk.asym a b h
theorem g5:∀a b c,AQ a c=J'->AQ a b=J'\/AQ b c=J'
 |[],[],c,h=>.inr h
 |[],_::_,_,_=>.inl rfl
 |_::_,_,[],h=>by cases h
 |_::_,[],_::_,_=>.inr rfl
 |a::r,b::s,c::t,h=>by
  unfold AQ at h ⊢;by_cases e:a=b
  .subst e;by_cases d:a=c
   .erw[d,if_true]at h ⊢;show g5 r s t h
   .rw[if_neg d]at h;right;rw[if_neg d];show h
  .rw[if_neg e];by_cases d:b=c
   .subst d;rw[if_neg e]at h;show .inl h
   .rw[if_neg d];by_cases f:a=c
    .subst f;cases g:Em a b with|true=>show .inl rfl|false=>
      cases hd:Em b a with
      |true=>show .inr rfl
      |false=>show absurd (Jk.anti a b g hd) e
    .rw[if_neg f]at h;show Jk.neg a b c h
theorem g6:∀a b,AQ a b=O'->AQ b a=O'->a=b
 |[],[],_,_=>rfl
 |[],_::_,h,_=>by cases h
 |_::_,[],_,h=>by cases h
 |a::r,b::s,c,d=>by
  unfold AQ at c d;by_cases e:a=b
  .subst e;erw[if_true]at c d;rw[g6 r s c d]
  .rw[if_neg e]at c;rw[if_neg<|λz=>e z.symm]at d;show absurd (Jk.anti a b c d) e
theorem C3:TO AQ:=#[gZ,g5,g6]
def Db:At->D
 |.non=>.tup [.int 0,.int 0]
 |.int i=>.tup [.int 1,.int i]
 |.str x=>.tup [.int 2,.str x]
theorem xH(n:Nat)(a b:At):ltN (n+2) (Db a) (Db b)=Z (Em a b):=by
 cases a<;>cases b<;>simp[Db,Em]
 .intro e;show Int.le_of_eq e.symm
 .intro e;subst e;simp
theorem g8(a b:At):AS (Db a) (Db b)=decide (a=b):=by
 cases a<;>cases b<;>simp[Db]
theorem RL(n:Nat)(a:At):A1 (n+1) (Db a)=J':=by cases a<;>cases n<;>rfl
theorem Wz(n:Nat):∀l m:U At,F8 (ltN (n+2)) (l.map Db) (m.map Db)=Z (AQ l m)
 |[],[]=>rfl
 |[],_::_=>rfl
 |_::_,[]=>rfl
 |a::r,b::s=>by
  rwa[F8,FJ,RL 11 a,RL 11 b,g8 a b,xH n a b,Wz n r s,AQ,decide_eq_true_eq];grind
theorem WA{b:Type}[DecidableEq b]:∀(l:U b)(p:O b),(DG p l).length<=l.length
 |[],_=>A4 _
 |a::r,p=>by
  unfold DG;split
  .show Og<|WA r p
  .show Nat.succ_le_succ<|WA r _
def mn(m y:Int):Int:=if y<m then y else m
def mx(m y:Int):Int:=if y>m then y else m
theorem g9(m y:Int):mn m y=min m y:=by grind [mn]
theorem hD(m y:Int):mx m y=max m y:=by grind [mx]
def cel(x:Int)(xs:U Int):D:=.tup [.int (xs.length+1:Nat),.int ((x::xs).sum),.int (xs.foldl mn x),.int (xs.foldl mx x)]
def xI(s:Sl)(ns:U Int):Prop:=s=#v[ns.map D.int]\/s=.lent (ns.map D.int)
theorem xJ(s:Sl)(x:Int)(xs:U Int)(h:xI s (x::xs)):QD [s]=Z (.val (cel x xs)):=by
 rcases h with rfl|rfl<;>(simp[QD,A7,cK,Ht,P0,P1,cel,show(4:Nat)<=AB by ext];show#[rfl,rfl])
theorem xK:(4:Nat)<=AB:=by ext
theorem hE(a:Int):∀(ys:U Int)(b:Int),ys.foldl mn (mn a b)=mn a (ys.foldl mn b)
 |[],b=>rfl
 |y::ys,b=>by
  erw[Lc,show mn (mn a b) y=mn a (mn b y) by erw[g9];show Int.min_assoc a b y,hE a ys]
theorem hG(a:Int):∀(ys:U Int)(b:Int),ys.foldl mx (mx a b)=mx a (ys.foldl mx b)
 |[],b=>rfl
 |y::ys,b=>by
  erw[Lc,show mx (mx a b) y=mx a (mx b y) by erw[hD];show Int.max_assoc a b y,hG a ys]
theorem xL(x y:Int)(xs ys:U Int):OH [.val (cel x xs),.val (cel y ys)]=Z (.val (cel x (xs++y::ys))):=by
 simp[OH,A7,cL,cel,atI,Eb,xK,show(xs++y::ys).foldl mn x=mn (xs.foldl mn x) (ys.foldl mn y) by rw[List.foldl_append,Lc,hE],show(xs++y::ys).foldl mx x=mx (xs.foldl mx x) (ys.foldl mx y) by rw[List.foldl_append,Lc,hG]];apply#[∅,by show Int.add_assoc x xs.sum<|y+ys.sum,rfl,rfl]
def Fj(acc:Bv)(b:U (At×D)):Bv:=b.foldl (λa p=>ZW a (.at p.1) p.2) acc
theorem WB(a:At):Dl (aD a)=Z (.at a):=N3<|.at a
theorem hH{a:At}{v:D}(h:∀p∈kvs,Ev p.1=J'):∀p∈ZW kvs (.at a) v,Ev p.1=J':=λp b=>by
 rcases TC b with b|rfl
 .show h p b
 .rfl
theorem hJ:∀(a:U (At×D))(acc:Bv),(∀p∈acc,Ev p.1=J')->acc.length+a.length<=100000->HA acc (a.map λp=>.tup [aD p.1,p.2])=Z (Fj acc a)
 |[],acc,_,_=>rfl
 |p::a,acc,h,b=>by
  erw[Ck]at b;let c:=TD acc (.at p.1) p.2;erw[AU,HA,WB,P5 p.1 h,show acc.length<AB from B7 (show acc.length<100000 by show FA b) (by ext),decide_true,HG,if_true,hJ a (ZW acc (.at p.1) p.2) (hH h) ∅];rfl
theorem WC:∀(a:U (At×D))(acc:Bv),(∀p∈acc,Ev p.1=J')->∀p∈Fj acc a,Ev p.1=J'
 |[],_,h=>h
 |p::a,acc,h=>WC a _<|hH h
theorem hQ{a:At}:∀(b:U (At×D))(acc:Bv),a∉b.map (·.1)->Zu (Fj acc b) (.at a)=Zu acc (.at a)
 |[],_,_=>rfl
 |p::b,acc,h=>by
  rw[AU,Bp,not_or]at h;change Zu (Fj (ZW acc (.at p.1) p.2) b) _=_
  rw[hQ b (ZW acc (.at p.1) p.2) h.2,N6,if_neg<|λe=>h.1 (KT.at.inj e).symm]
theorem hU{a:At}{v:D}:∀(b:U (At×D))(acc:Bv),(b.map (·.1)).Nodup->(a,v)∈b->Zu (Fj acc b) (.at a)=Z v
 |p::b,acc,c,h=>by
  rw[AU,Gk]at c;change Zu (Fj (ZW acc (.at p.1) p.2) b) _=_
  rcases Bp.mp h with rfl|h
  .rw[hQ b _ c.1,N6,if_pos rfl]
  .show hU b _ c.2 h
theorem hV(a:At):∀(b:U (At×D))(acc:Bv),(Zu (Fj acc b) (.at a)).isSome=((Zu acc (.at a)).isSome||decide (a∈b.map (·.1)))
 |[],acc=>by simp[Fj]
 |p::b,acc=>by
  show(Zu (Fj (ZW acc (.at p.1) p.2) b) _).isSome=_
  rw[hV a b<|ZW acc (.at p.1) p.2,N6];grind
theorem xM{b:U (At×D)}{a:At}{v:D}(e:(b.map (·.1)).Nodup)(h:(a,v)∈b):D5 (.lst (Zb (Fj [] b)) .d) (aD a)=Z v:=by
 let f:=P5 (kvs:=Fj [] b) a (WC b [] λ_ h=>nomatch h);rw[aJ,WB];grind [hU]
theorem xN(neg:Bool)(b:U (At×D))(a:At):DO neg (aD a) (.lst (Zb (Fj [] b)) .d)=Z (.bl (neg != decide (a∈b.map (·.1)))):=by
 rw[N5,WB];rwa[P5 (kvs:=Fj [] b) a (WC b [] λ_ h=>nomatch h),hV a b []];rfl
theorem O6{a:Type}(l:U a):FC [.lst ((l.map λ_=>J').map D.bl)]=Z (.bl J'):=by
 erw[FC,cD,Nz];simp_all
theorem ZF{a n:Nat}{g:AA}{r:Rv}(h:ss.length=a)(e:g (ss++Es (n-a) .no)=.ret r):A7 a n g ss=Z r:=by
 unfold A7;simp_all
theorem hW{a:Type}(x:a)(xs:U a):atI (x::xs) 0=Z x:=by
 have:(0:Int)<(xs.length:Int)+1:=Int.succ_ofNat_pos xs.length;simp[atI,Eb,this]
theorem hZ{a:Type}(xs:U a)(x:a):atI (xs++[x]) (-1)=Z x:=by
 let b:(-1+((xs.length:Int)+1)).toNat=xs.length:=∅
 have c : -((xs.length:Int)+1) <= -1:=∅
 simp[atI,Eb,b,c]
theorem xO(a:At):QN [.val (aD a)]=Z (.val (Db a)):=by
 cases a<;>simp[QN,A7,dC,Z1,QB,aD,Db,show(2:Nat)<=AB by ext]
theorem h5(l:U At)(h:l.length<=1000):MY [.val (Ai l)]=Z (.val (.tup (l.map Db))):=by
 let c:=ZA (b:=Zc 0) (e:=UY) (ρ:=[.no]) aD Db l λa _=>#[[.val<|aD a],rfl,by
  have:=xO a;rwa[UY,this,Fv]]
 simp[MY,A7,dW,Ai,show l.length<=AB from Bu h (by ext),Zv,c,-CC]
theorem RM(s0:Sl):∀(c acc:BG)(s2:Sl),acc.length+c.length<100000->∃a,ZK (Zc 2) Ke (c.map Ai) [s0,.own (acc.map Ai),s2]=.next [s0,.own ((acc++DG acc.getLast? c).map Ai),a]
 |[],acc,s2,_=>#[s2,by simp[ZK,DG]]
 |l::c,acc,s2,d=>by
  erw[Ck]at d;let f:acc.length<AB:=B7 (show acc.length<100000 by show FA d) (by ext);let m:Me (Z<|.int 1)=Z (.int (-1)):=rfl;erw[AU,ZK,Zc,GZ,GB];rcases List.eq_nil_or_concat acc with rfl|⟨pre,x,rfl⟩
  .let(a,e):=RM s0 c [l] (.val<|Ai l) (by simp;lia);apply⟨a,?_⟩;let j:Ke [s0,.own<|[].map Ai,.val<|Ai l]=.next [s0,.own<|[l].map Ai,.val<|Ai l]:=by
    simp[Ke,show(0:Nat)<AB by ext]
   show e
  .rw[List.concat_eq_append]at d f ⊢;let g:Au (.lst<|(pre++[x]).map Ai) (.int (-1))=Z (Ai x):=by
    rw[DM];show hZ _ _
   let h:ZV (Z<|.lst<|(pre++[x]).map Ai)=Z J':=by simp
   let i:=gz x l;let b:(pre++[x]).getLast?=Z x:=by simp
   by_cases k:x=l
   .subst k;let(a,e):=RM s0 c (pre++[x]) (.val<|Ai x)<|Fe d;apply⟨a,?_⟩;let j:Ke [s0,.own<|(pre++[x]).map Ai,.val<|Ai x]=.next [s0,.own<|(pre++[x]).map Ai,.val<|Ai x]:=by
     erw[Ke,Ze,ZM,Dp,Cy,AV,Za,Bo,FD,FK,Df,El,h,m,g,i,decide_true,KZ]
    rw[j,b,DG,if_pos rfl,<- b];show e
   .let(a,e):=RM s0 c (pre++[x]++[l]) (.val<|Ai l) (by simp at d ⊢;lia);apply⟨a,?_⟩;let j:Ke [s0,.own<|(pre++[x]).map Ai,.val<|Ai l]=.next [s0,.own<|(pre++[x]++[l]).map Ai,.val<|Ai l]:=by
     rw[show((pre++[x]++[l]).map Ai)=(pre++[x]).map Ai++[Ai l] by simp];erw[Ke,Ze,ZM,Dp,Cy,AV,Za,Bo,Bq,FD,FK,Df,El,h,m,g,i,k,decide_false,JQ,KZ,Gp,Bn,f,if_true,GZ,GB]
    rw[j,b,DG,if_neg (by exists k)];rw[show(pre++[x]++[l]).getLast?=Z l by simp]at e;rw[show pre++[x]++l::DG (Z l) c=pre++[x]++[l]++DG (Z l) c by simp];show e
theorem WD(s:Sl)(b:BG)(f:s=#v[b.map Ai]\/s=.lent (b.map Ai))(g:b.length<500)(d:∀l∈b,l≠[]/\l.length<=1000):OV [s]=Z (.own ((DG J (Zm AQ b)).map Ai)):=by
 let c:=Wv (F:=MY) Ai C3 O' b g (λl=>.tup<|l.map Db) (λl h=>h5 l (d l h).2) (λl h=>by
  cases l with
  |nil=>show absurd rfl (d [] h).1
  |cons a r=>cases a<;>show#[_,_,rfl]) (λl _ m _=>Wz 3 l m)
 let(i,e):=RM s (Zm AQ b) [] .no (by rw[(Zy AQ b).length_eq];simp;lia);erw[CW,DU,List.getLast?_nil]at e;apply ZF rfl ?_;change Vr [s,.no,.no]=_
 rcases f with rfl|rfl<;>rwa[Vr,Z0,ZU,Ld,D3,Dh,show Zf (Z ([]:U D))=Z []from rfl,c,e]
theorem WE(l:U At)(j:Nat)(h:l.length<=1000):Je [.val (Ai l),‹j›]=Z (.val (aD (l.getD j .non))):=by
 by_cases a:j<l.length
 .have:Au (Ai l) (.int j)=Z (aD<|l.getD j .non):=by
   show Zz (by simp[Ch a,DP])
  simp[Je,A7,Uy,-Au,-Zp,show Zp [Ai l]=Z (.int l.length) by simp[Ai],this,M8.mpr a]
 .rw[show l.getD j .non=.non by grind];simp[Je,A7,Uy,-Au,-Zp,show Zp [Ai l]=Z (.int l.length) by simp[Ai],show ¬ (j:Int)<(l.length:Int) by lia,aD]
theorem WF(l:U At)(n:Nat):Fz (Ai l) (Z ((n:Int)+1)) J=Z (Ai (l.drop (n+1))):=by
 change Z (D.tup<|Fc (l.map aD) (Z<|(n:Int)+1) J)=_
 rw[Ut _ _ ∅,<- List.map_drop,show((n:Int)+1).toNat=n+1 by show h6];rfl
theorem xQ{l:U At}(h:Ln l):U1 [.val (Ai l)]=Z (.val (.bl J')):=by
 let l1:=h.l1;let l4:=h.l4;let d:=ZA (b:=Zc 0) (e:=UZ) (ρ:=[.no]) aD (λ_=>D.bl J') l λa c=>#[[.val<|aD a],rfl,by
  have:=gw (aD a) (h.val a c).2;rw[show(EO (aD a)||BH (aD a))=J' from(h.val a c).1]at this;rwa[UZ,this]]
 rw[show l.map (λ_=>D.bl J')=(l.map λ_=>J').map D.bl by rw[CC];rfl]at d;let c:=O6 l;let q:=ZB (l.map aD) (by simp;lia);let f:Zp [.tup<|l.map aD]=Z (.int l.length):=by simp
 let g:Dj (.int l.length) (.int 1)=Z (.bl O'):=by
  change Z (D.bl<|decide<|(l.length:Int)<1)=_
  rw[decide_eq_false ∅]
 let i:EX (.int l.length) (.int 4)=Z (.bl O'):=by
  change Z (D.bl<|decide<|(4:Int)<(l.length:Int))=_
  rw[decide_eq_false ∅]
 apply ZF rfl ?_;change U0 [.val<|.tup<|l.map aD]=_
 generalize (l.map λ_=>J').map D.bl=m,l.map aD=A at *;rwa[U0,show CJ [.tup A,.ty "tuple"]=Z (.bl J')from rfl,show ZV (Z<|.bl J')=Z J' from rfl,f,g,i,Zh,q,show ∀j,Zv 1 [] j=[.no]from λ_=>rfl,d,c]
structure Sn(ls:BG)(S:Bv)(n:Nat):Prop where
 tp:∀p∈S,Ev p.1=O'
 ln:S.length<=n
 sy:∀(j:Nat) (a:At) (d:D),Zu S (.tup [.int j,a])=Z d->∃l∈ls,l[j]?=Z a/\d=Ai (l.drop (j+1))
section
variable{ls:BG}{p:Nat}(hg:GL ls p)
include hg
theorem h7{l:U At}(s:l∈ls)(s0 s2:Sl):∀(r:U At)(j:Nat)(S:Bv)(n:Nat)(s4 g f:Sl),l.drop j=r->Sn ls S n->n+r.length<=10000->∃o t u v,Sn ls o (n+r.length)/\ZK (Z6 2 (Zq (Zc 4) (Zq (Zc 5) Z8))) OU (F9 j (r.map aD)) [s0,.own (Zb S) .d,s2,.val (Ai l),s4,g,f]=.next [s0,.own (Zb o) .d,s2,.val (Ai l),t,u,v]
 |[],j,S,n,s4,g,f,_,h,_=>#[S,s4,g,f,h,rfl]
 |a::r,j,S,n,s4,g,f,E,h,F=>by
  rw[Ck]at F;let G:l[j]?=Z a:=by
   have:=congrArg (λx=>x[0]?) E;exists this
  let hd:l.drop (j+1)=r:=by rw[<- List.drop_drop,E];rfl
  let w:=WF l j;rw[hd]at w;let k:=K5 [.int j,a] h.tp;let H:S.length<AB:=Gs h.ln<|B7 (show n<100000 by lia) (by ext);let R:Dl (.tup [.int j,aD a])=Z (.tup [.int j,a]):=N3<|.tup [.int j,a];let ne:Co (Ai r) (Ai r)=Z (.bl O'):=by rw[gz];simp
  obtain⟨p,L,y⟩:∃p,Sn ls p (n+1)/\OU [s0,.own (Zb S) .d,s2,.val<|Ai l,‹j›,.val<|aD a,f]=.next [s0,.own (Zb p) .d,s2,.val<|Ai l,‹j›,.val<|aD a,.val<|Ai r]:=by
   cases e:Zu S (.tup [.int j,a])with
   |some d=>
    let(M,z,y,rfl):=h.sy j a d e;rw[hg.fn M z l s j a y G,hd]at e;apply#[S,#[h.tp,Og h.ln,h.sy],?_];generalize Ai l=A,Ai r=B at *;rwa[OU,Eu,EG,w,N8,N7,GK,Ga,R,k,H,e,ne,P6]
   |none=>
    apply#[ZW S (.tup [.int j,a])<|Ai r,⟨λq C=>?_,Bu (TD _ _ _)<|Nat.succ_le_succ h.ln,λi b d m=>?_⟩,?_]
    .rcases TC C with C|rfl
     .show h.tp q C
     .rfl
    .rw[N6]at m;by_cases c:(KT.tup [.int j,a])=.tup [.int i,b]
     .rw[if_pos c]at m;simp at c;let(c,rfl):=c;obtain rfl:j=i:=∅
      show#[l,s,G,by rw[hd];show(EE m).symm]
     .rw[if_neg c]at m;show h.sy i b d m
    .generalize Ai l=A,Ai r=B at *;rwa[OU,Eu,EG,w,N8,N7,GK,Ga,R,k,H,e,ne,P6]
  let(o,N,K,Q,T,P):=h7 s s0 s2 r (j+1) p (n+1) ‹j› (.val<|aD a) (.val<|Ai r) hd L ∅;apply⟨o,N,K,Q,?_,?_⟩
  .rw[Ck,Nat.add_comm r.length 1,<- Nat.add_assoc];show T
  .rw[AU,F9,ZK,show Z6 2 (Zq (Zc 4)<|Zq (Zc 5) Z8) (.tup [.int j,aD a]) [s0,.own (Zb S) .d,s2,.val<|Ai l,s4,g,f]=Z [s0,.own (Zb S) .d,s2,.val<|Ai l,‹j›,.val<|aD a,f]from rfl];erw[y];show P
theorem h8{W:U D}{l0:U At}(t:Au (.lst W) (.int 0)=Z (Ai l0))(u:l0.length=p):∀(g pre:BG)(S F:Bv)(n:Nat)(s3 s4 b f:Sl),ls=pre++g->Sn ls S n->n+4*g.length<=1000->(∀q∈F,Ev q.1=J')->F.length+g.length<=1000->(∀a,(Zu F (.at a)).isSome=J'->a∈pre.map hd)->∃ρ,ZK (Zc 3) Q9 (g.map Ai) [#v[W],.own (Zb S) .d,.own (Zb F) .d,s3,s4,b,f]=.next ρ
 |[],_,S,F,n,s3,s4,b,f,_,_,_,_,_,_=>#[_,rfl]
 |l::g,pre,S,F,n,s3,s4,b,f,m,h,G,w,H,x=>by
  rw[Ck]at G H;let y:l∈ls:=by rw[m];simp
  let len:=hg.len l y;let p4:=hg.p4;let p1:=hg.p1;let l1:Zp [Ai l]=Z (.int p):=by simp[Ai,len]
  let X:Zp [Ai l0]=Z (.int p):=by simp[Ai,u]
  let K:Co (.int p) (.int p)=Z (.bl O'):=by simp
  let L:Au (Ai l) (.int 0)=Z (aD<|hd l):=by
   cases l with
   |nil=>simp at len;lia
   |cons a r=>show Zz (j:=0) rfl
  let M:Zu F (.at<|hd l)=J:=by
   cases e:Zu F (.at<|hd l)with
   |none=>rfl
   |some d=>
    let N:=x (hd l) (by rw[e];rfl);let k:=hg.hdn;rw[m,DM,JV]at k;show absurd rfl<|k.2.2 _ N _ (by simp)
  let i:=P5 (hd l) w;let di:DO O' (aD<|hd l) (.lst (Zb F) .d)=Z (.bl O'):=by
   rw[N5,gy];erw[Df,i,if_true,M];rfl
  let P:F.length<AB:=B7 (show F.length<100000 by lia) (by ext);let(z,B,C,E,k,Q):=h7 hg y #v[W] (.own (Zb<|ZW F (.at<|hd l)<|.bl J') .d) l 0 S n s4 b f rfl h ∅;let(ρ,T):=h8 t u g (pre++[l]) z (ZW F (.at<|hd l)<|.bl J') (n+l.length) (.val<|Ai l) B C E (by rw[m];simp) k ∅ (λq o=>by
   rcases TC o with o|rfl
   .show w q o
   .rfl) (by have:=TD F (.at<|hd l)<|.bl J';lia) λa s=>by
   rw[N6]at s;by_cases c:(KT.at<|hd l)=.at a
   .cases c;simp
   .rw[if_neg c]at s;rw[DM];show Ks _<|x a s
  apply#[ρ,?_];let R:GU (Ai l)=Z (l.map aD):=rfl;let ok:=gy<|hd l;let Y:Q9 [#v[W],.own (Zb S) .d,.own (Zb F) .d,.val<|Ai l,s4,b,f]=.next [#v[W],.own (Zb z) .d,.own (Zb<|ZW F (.at<|hd l)<|.bl J') .d,.val<|Ai l,B,C,E]:=by
   generalize Ai l=A,aD (hd l)=V,l.map aD=LA at *;rwa[Q9,l1,t,X,K,L,di,JZ,GK,Ga,ok,i,P,ZU,MK,R,Q]
  rw[AU,ZK,show Zc 3 (Ai l) [#v[W],.own (Zb S) .d,.own (Zb F) .d,s3,s4,b,f]=Z [#v[W],.own (Zb S) .d,.own (Zb F) .d,.val<|Ai l,s4,b,f]from rfl];erw[Y];show T
theorem GL.il:Re [.val (LD ls)]=Z (.val (.bl J')):=by
 let n1:=hg.n1;let n6:=hg.n6;obtain⟨a,r,rfl⟩:∃a r,ls=a::r:=by
  cases ls with
  |nil=>simp at n1
  |cons l r=>show#[l,r,rfl]
 let f:=ZA (b:=Zc 0) (e:=Vm) (ρ:=[.no]) Ai (λ_=>D.bl J') (a::r) λl c=>#[[.val<|Ai l],rfl,by
  have:=xQ<|hg.ln l c;rwa[Vm,this]]
 rw[show(a::r).map (λ_=>D.bl J')=((a::r).map λ_=>J').map D.bl by rw[CC];rfl]at f;let k:=O6<|a::r;let q:=ZB ((a::r).map Ai) (by rw[Bn];lia);let(i,e):=h8 hg (W:=(a::r).map Ai) (l0:=a) (Zz (j:=0) rfl) (hg.len a Ba) (a::r) [] [] [] 0 .no .no .no .no rfl #[λ_ h=>(nomatch h),A4 _,λ_ _ _ h=>by cases h] ∅ (λ_ h=>(nomatch h)) (by rw[HU];lia) λ_ h=>by cases h
 let c:Zp [.lst<|(a::r).map Ai]=Z (.int (a::r).length):=by simp
 let m:Dj (.int (a::r).length) (.int 1)=Z (.bl O'):=by
  change Z (D.bl<|decide<|((a::r).length:Int)<1)=_
  rw[decide_eq_false ∅]
 let n:EX (.int (a::r).length) (.int 40)=Z (.bl O'):=by
  change Z (D.bl<|decide<|(40:Int)<((a::r).length:Int))=_
  rw[decide_eq_false ∅]
 rw[show Zb []=[]from rfl]at e;change Re [#v[(a::r).map Ai]]=_
 generalize (a::r).map Ai=W,((a::r).map λ_=>J').map D.bl=p,(a::r).length=N at *;let g:ZV (Z<|.bl J')=Z J':=rfl;let d:Vo [#v[W]]=Z (.val<|.bl J'):=by
  apply ZF rfl ?_;change Vn [#v[W],.no,.no,.no,.no,.no,.no]=_
  rwa[Vn,ez,d9,Zh,q,show ∀o,Zv 1 [] o=[.no]from λ_=>rfl,f,k,g,eu,eb,F6,et,ed,eo,ee,ZU,e,eg,ef]
 apply ZF rfl ?_;change Vq [#v[W]]=_
 rwa[Vq,show CJ [.lst W,.ty "list"]=Z (.bl J')from rfl,g,c,m,n,d]
end
theorem Ci.al{a:A2}(h:Ci a):Vu [#v[a.map LD]]=Z (.val (.bl J')):=by
 let n1:=h.n1;let n4:=h.n4;let d:=ZA (b:=Zc 0) (e:=Vs) (ρ:=[.no]) LD (λ_=>D.bl J') a λf c=>#[[.val<|LD f],rfl,by
  let(p,g):=h.good f c;rwa[Vs,g.il]]
 rw[show a.map (λ_=>D.bl J')=(a.map λ_=>J').map D.bl by rw[CC];rfl]at d;let i:=O6 a;let q:=ZB (a.map LD) (by rw[Bn];lia);let c:Zp [.lst<|a.map LD]=Z (.int a.length):=by simp
 let j:Dj (.int a.length) (.int 1)=Z (.bl O'):=by
  change Z (D.bl<|decide<|(a.length:Int)<1)=_
  rw[decide_eq_false ∅]
 let k:EX (.int a.length) (.int 4)=Z (.bl O'):=by
  change Z (D.bl<|decide<|(4:Int)<(a.length:Int))=_
  rw[decide_eq_false ∅]
 apply ZF rfl ?_;generalize a.map LD=W,(a.map λ_=>J').map D.bl=n at *;change Vt [#v[W]]=_
 rwa[Vt,show CJ [.lst W,.ty "list"]=Z (.bl J')from rfl,show ZV (Z<|.bl J')=Z J' from rfl,c,j,k,Zh,q,show ∀l,Zv 1 [] l=[.no]from λ_=>rfl,d,i]
abbrev Be:=U At×Int×U Int
def Zg(acc:U Be):BG:=acc.map (·.1)
def ZC:U Be->U At->O (Int×U Int)
 |[],_=>J
 |e::r,k=>if e.1=k then Z e.2 else ZC r k
def CN:U Be->U At->Int->U Be
 |[],k,x=>[(k,x,[])]
 |e::r,k,x=>if e.1=k then(e.1,e.2.1,e.2.2++[x])::r else e::CN r k x
def ZG(v:Int×U Int->D)(e:Be):KT×D:=(.tup e.1,v e.2)
theorem AF{k:U At}:∀{acc:U Be},ZC acc k=J↔k∉Zg acc
 |[]=>by simp[ZC,Zg]
 |e::r=>by
  let a:=AF (k:=k) (acc:=r);grind [ZC,Zg]
theorem Kk(v:Int×U Int->D)(k:U At):∀acc:U Be,Zu (acc.map (ZG v)) (.tup k)=(ZC acc k).map v
 |[]=>rfl
 |e::r=>by
  let a:=Kk v k r;erw[AU,Zu,ZC,ZG,KT.tup.injEq];grind
theorem h9{k:KT}{w:D}:∀{kvs:Bv},Zu kvs k=J->FE kvs k w=kvs
 |[],_=>rfl
 |p::r,h=>by
  unfold Zu at h;by_cases e:p.1=k
  .rw[if_pos e]at h;cases h
  .rw[if_neg e]at h;unfold FE;rw[if_neg e,h9 h]
theorem ie(v:Int×U Int->D){k:U At}{x:Int}{p:Int×U Int}:∀{acc:U Be},(Zg acc).Nodup->ZC acc k=Z p->FE (acc.map (ZG v)) (.tup k) (v (p.1,p.2++[x]))=(CN acc k x).map (ZG v)
 |e::r,a,h=>by
  erw[Zg,AU,Gk]at a;unfold ZC at h;by_cases c:e.1=k
  .rw[if_pos c]at h;cases h;let b:Zu (r.map<|ZG v) (.tup k)=J:=by
    rw[Kk,AF.mpr<|c ▸ a.1];rfl
   rwa[FE,CN,ZG,c,h9 b,KT.tup.injEq]
  .rw[if_neg c]at h;erw[AU,FE,CN,ZG,c,if_false,KT.tup.injEq];rw[ie v (x:=x) a.2 h]
theorem ig{k:U At}{x:Int}:∀{acc:U Be},ZC acc k=J->CN acc k x=acc++[(k,x,[])]
 |[],_=>rfl
 |e::r,h=>by
  unfold ZC at h;by_cases c:e.1=k
  .rw[if_pos c]at h;cases h
  .rw[if_neg c]at h;unfold CN;rw[if_neg c,ig h];rfl
theorem xR(v:Int×U Int->D){k:U At}{x:Int}{p:Int×U Int}{acc:U Be}(a:(Zg acc).Nodup)(h:ZC acc k=Z p):ZW (acc.map (ZG v)) (.tup k) (v (p.1,p.2++[x]))=(CN acc k x).map (ZG v):=by
 unfold ZW;rw[Kk,h];show ie v a h
theorem xT(v:Int×U Int->D){k:U At}{x:Int}{acc:U Be}(h:ZC acc k=J):ZW (acc.map (ZG v)) (.tup k) (v (x,[]))=(CN acc k x).map (ZG v):=by
 unfold ZW;grind [Kk,ig,ZG]
theorem WG(k:U At)(x:Int):∀acc:U Be,Zg (CN acc k x)=if k∈Zg acc then Zg acc else Zg acc++[k]
 |[]=>rfl
 |e::r=>by
  let a:=WG k x r;grind [CN,Zg]
theorem xU{k:U At}{x:Int}{acc:U Be}(h:(Zg acc).Nodup):(Zg (CN acc k x)).Nodup:=by grind [WG]
theorem ii(k:U At)(x:Int):∀acc:U Be,(CN acc k x).length<=acc.length+1
 |[]=>by simp[CN]
 |e::r=>by
  have:=ii k x r;unfold CN;split<;>simp<;>lia
theorem ik{k k':U At}{x:Int}{acc:U Be}(h:k'∈Zg (CN acc k x)):k'=k\/k'∈Zg acc:=by grind [WG]
def Kl:U Be->Nat
 |[]=>0
 |e::r=>e.2.2.length+1+Kl r
theorem im(k:U At)(x:Int):∀acc:U Be,Kl (CN acc k x)=Kl acc+1
 |[]=>rfl
 |e::r=>by
  have:=im k x r;unfold CN;split<;>simp[Kl]<;>lia
theorem RO(v:Int×U Int->D)(k:U At)(acc:U Be):DN (.tup k) (acc.map (ZG v))=J':=K5 k λp a=>by
 let(e,_,rfl):=Bi.mp a;rfl
theorem GD(l:U At):Dl (Ai l)=Z (.tup l):=N3<|.tup l
abbrev vL(p:Int×U Int):D:=.lst ((p.1::p.2).map D.int)
abbrev vC(p:Int×U Int):D:=cel p.1 p.2
abbrev HJ(v:Int×U Int->D)(acc:U Be):Sl:=.own (Zb (acc.map (ZG v))) .d
def Zd(r:U At×Int):D:=.tup [Ai r.1,.int r.2]
def E1(a:U (U At×Int))(acc:U Be):U Be:=a.foldl (λacc r=>CN acc r.1 r.2) acc
structure Bj(acc:List Be)(n m:Nat):Prop where
 nd:(Zg acc).Nodup
 len:acc.length<=m
 sz:Kl acc<=m
 kl:∀k∈Zg acc,k.length=n
theorem Bj.add{acc:U Be}{n m:Nat}(h:Bj acc n m){k:U At}(b:k.length=n)(x:Int):Bj (CN acc k x) n (m+1):=#[xU h.nd,by have:=ii k x acc;have:=h.len;lia,by rw[im];have:=h.sz;show Nat.add_le_add_right this 1,λd a=>by
  rcases ik a with rfl|c
  .show b
  .show h.kl _ c]
theorem Bj.nil(n:Nat):Bj [] n 0:=#[by simp[Zg],by simp,by simp[Kl],λk a=>nomatch a]
theorem Bj.tab:∀(a:U (U At×Int)){acc:U Be}{n m:Nat},Bj acc n m->(∀r∈a,r.1.length=n)->Bj (E1 a acc) n (m+a.length)
 |[],_,_,_,h,_=>h
 |r::a,acc,n,m,h,b=>by
  have:=Bj.tab a (h.add (b r Ba) r.2) λq c=>b q<|Bg _ c;rw[Ck,show m+(a.length+1)=m+1+a.length by show Eq.symm (Nat.succ_add_eq_add_succ m a.length)];show this
def M9(acc:U Be):U D:=(Zm AQ (Zg acc)).map λk=>.tup [Ai k,vC ((ZC acc k).getD (0,[]))]
theorem xV{acc:U Be}{k:U At}(h:k∈Zm AQ (Zg acc)):∃p,ZC acc k=Z p:=by
 cases a:ZC acc k with
 |some p=>show#[p,rfl]
 |none=>show absurd ((Zy AQ<|Zg acc).mem_iff.mp h)<|AF.mp a
theorem RP(v:Int×U Int->D)(acc:U Be):((acc.map (ZG v)).map λp=>kD p.1)=(Zg acc).map Ai:=by
 unfold Zg;rw[CC,CC];rfl
theorem WH(v:Int×U Int->D){acc:U Be}{k:U At}{p:Int×U Int}(h:ZC acc k=Z p):D5 (.lst (Zb (acc.map (ZG v))) .d) (Ai k)=Z (v p):=by simp_all [GD,RO,Kk]
abbrev LG:=U (U (U At)×Nat)
def Jl(q:U (U At)×Nat)(a:At):At:=((q.1.find? λl=>decide (hd l=a)).getD []).getD q.2 .non
def Z3:LG->U At->U At
 |q::Q,a::s=>Jl q a::Z3 Q s
 |_,_=>[]
def Jm(q:U (U At)×Nat):U (At×D):=q.1.map λl=>(hd l,aD (l.getD q.2 .non))
def Du(q:U (U At)×Nat):D:=.lst (Zb (Fj [] (Jm q))) .d
abbrev Az(g:U Nat):D:=.tup (g.map λ(j:Nat)=>D.int j)
inductive AO:List (BG)->List At->Prop where
 |nil:AO [] []
 |cons {ls Ls a as}:a∈ls.map hd->AO Ls as->AO (ls::Ls) (a::as)
theorem AO.len{a:A2}{s:U At}(h:AO a s):s.length=a.length:=by
 induction h<;>grind
theorem LB:∀{Q:LG}{s:U At},s.length=Q.length->(Z3 Q s).length=Q.length
 |[],_,h=>by cases(NP.mp h);rfl
 |q::Q,a::s,h=>by erw[Z3,Ck];rw[LB (by exists h)]
 |_::_,[],h=>by simp at h
theorem xW(q:U (U At)×Nat)(h:∀l∈q.1,Ln l)(i:q.1.length<=1000):QO [.val (LD q.1),‹0›,‹q.2›]=Z (.own (Zb (Fj [] (Jm q))) .d):=by
 let(a,j):=q;let k:=ZA (b:=Zc 0) (e:=UO) (ρ:=[.no,‹0›,‹j›]) Ai (λl=>D.tup [aD<|hd l,aD<|l.getD j .non]) a λl g=>#[[.val<|Ai l,‹0›,‹j›],rfl,by
  let c:=WE l j (by have:=(h l g).l4;lia);rwa[UO,show Je [.val<|Ai l,‹0›]=Z (.val<|aD<|hd l)from(show l.getD 0 .non=hd l by cases l<;>rfl) ▸ WE l 0 (by have:=(h l g).l4;lia),c,Fv,Zf,HH,if_pos (show(2:Nat)<=AB by ext)]]
 let f:=hJ (Jm (a,j)) [] (λ_ h=>nomatch h) (by simp[Jm];lia);unfold Jm at f;rw[CC]at f;unfold Jm;rwa[QO,A7,HH,dE,Ly,Lz,D1,IZ,Zh,Zf,if_pos (show(a.map Ai).length<=AB by rw[Bn];show Bu i (by ext)),Zv,M5,F3,DU,JN,k,show HA [] (a.map λl=>D.tup [aD<|hd l,aD<|l.getD j .non])=Z (Fj []<|a.map λl=>(hd l,aD<|l.getD j .non))from f,JJ]
theorem xX(n k:Nat)(a:k<n)(L:A2)(b:L.length=n):atI (L.map λ_=>D.int 0) (k:Int)=Z (.int 0):=Zz (by rw[CF,Ch<|Js a b.symm];rfl)
theorem io(L:A2)(g:U Nat):∀(Q:LG)(k:Nat),(∀q∈Q,∃p,GL q.1 p)->k+Q.length<=L.length->(∀i q,Q[i]?=Z q->g[k+i]?=Z q.2)->Di (Z6 2 (Zq (Zc 0) (Zq (Zc 1) Z8))) (λ_=>Z J') QY [.no,.no,.val (Kj L),.val (Az g)] (F9 k (Q.map λq=>LD q.1))=Z (Q.map Du)
 |[],k,_,_,_=>rfl
 |q::Q,k,h,c,d=>by
  erw[Ck]at c;let n:=io L g Q (k+1) (λl b=>h l<|Bg _ b) ∅ λi f e=>by
   have:=d (i+1) f (by exists e);grind
  let(p,a):=h q Ba;let b:=xW q a.ln (by have:=a.n6;lia);let m:atI (g.map λ(j:Nat)=>D.int j) (k:Int)=Z (.int q.2):=Zz (by rw[CF,show g[k]?=Z q.2 from d 0 q rfl];rfl);let o:QY [‹k›,.val<|LD q.1,.val<|Kj L,.val<|Az g]=Z (Du q):=by
   rwa[QY,Au,xX L.length k (FA c) L rfl,m,b,Fv,Du]
  rw[AU,F9,Di];simp_all
abbrev qs(L:A2)(g:U Nat):LG:=L.zip g
theorem ip{L:A2}{g:U Nat}(h:g.length=L.length):(qs L g).map (·.1)=L:=List.map_fst_zip<|LM h.symm
theorem xY{L:A2}{g:U Nat}(h:g.length=L.length):(qs L g).map (λq=>LD q.1)=L.map LD:=by
 have:(qs L g).map (λq=>LD q.1)=((qs L g).map (·.1)).map LD:=by rw[CC];rfl
 grind [ip]
theorem iq{L:A2}{g:U Nat}{q:U (U At)×Nat}(h:q∈qs L g):q.1∈L:=(Nx h).1
theorem xZ{L:A2}(h:Ci L){g:U Nat}(a:g.length=L.length):QZ [#v[L.map LD],.val (Kj L),.val (Az g)]=Z (.own ((qs L g).map Du)):=by
 let hd:=io L g (qs L g) 0 (λq b=>h.good q.1<|iq b) (by simp;show Nat.min_le_left (Ky L) g.length) λi q e=>by
  grind
 rw[xY a]at hd;rwa[QZ,A7,HH,dX,Ly,Lz,D1,Zh,MK,show GU (.lst<|L.map LD)=Z (L.map LD)from rfl,Zf,if_pos (show(F9 0<|L.map LD).length<=AB by rw[Ts,Bn];show Bu h.n4 (by ext)),Zv,M5,F3,DU,JN,hd,Dh]
theorem ya{q:U (U At)×Nat}(h:(q.1.map hd).Nodup):((Jm q).map (·.1)).Nodup:=by grind [Jm]
theorem yb{q:U (U At)×Nat}{a:At}(h:a∈q.1.map hd):DO O' (aD a) (Du q)=Z (.bl J'):=by grind [Du,xN,Jm]
theorem ir:∀{a:BG}{l:U At},(a.map hd).Nodup->l∈a->a.find? (λx=>decide (hd x=hd l))=Z l
 |x::a,l,c,b=>by
  erw[AU,Gk]at c;rcases Bp.mp b with rfl|b
  .rw[List.find?_cons_of_pos (by simp)]
  .rw[List.find?_cons_of_neg (by
    erw[decide_eq_true_eq];intro z;show c.1<|z ▸ Fh b)]
   show ir c.2 b
theorem WI{q:U (U At)×Nat}(a:(q.1.map hd).Nodup){l:U At}(h:l∈q.1):Jl q (hd l)=l.getD q.2 .non:=by simp_all [Jl,ir]
theorem yc{q:U (U At)×Nat}(b:(q.1.map hd).Nodup){a:At}(h:a∈q.1.map hd):D5 (Du q) (aD a)=Z (aD (Jl q a)):=by
 let(l,c,rfl):=Bi.mp h;rw[WI b c];show xM (ya b)<|Bi.mpr ⟨l,c,rfl⟩
theorem iu:∀{Q:LG}{s:U At},AO (Q.map (·.1)) s->Di (Z6 2 (Zq (Zc 0) (Zq (Zc 1) Z8))) (λ_=>Z J') QE [.no,.no] (GV (λx y=>D.tup [x,y]) (Q.map Du) (s.map aD))=Z ((Q.map λ_=>J').map D.bl)
 |[],_,h=>by cases h;rfl
 |q::Q,_,h=>by
  cases h with
  |@cons _ _ a e b c=>
  let d:QE [.val<|Du q,.val<|aD a]=Z (.bl J'):=by
   have:=yb b;rwa[QE,this]
  rwa[RQ,Di,Z6,Zq,Z8,d,iu c]
theorem iv:∀{Q:LG}{s:U At},(∀q∈Q,(q.1.map hd).Nodup)->AO (Q.map (·.1)) s->Di (Z6 2 (Zq (Zc 0) (Zq (Zc 1) Z8))) (λ_=>Z J') OW [.no,.no] (GV (λx y=>D.tup [x,y]) (Q.map Du) (s.map aD))=Z ((Z3 Q s).map aD)
 |[],_,_,h=>by cases h;rfl
 |q::Q,_,b,h=>by
  cases h with
  |@cons _ _ a g c d=>
  let e:OW [.val<|Du q,.val<|aD a]=Z (aD<|Jl q a):=by
   have:=yc (b q Ba) c;rwa[OW,this]
  rwa[RQ,Di,Z6,Zq,Z8,e,iv (λq f=>b q<|Bg _ f) d,Z3]
theorem ye{Q:LG}{s:U At}(a:AO (Q.map (·.1)) s)(hz:Q.length<=4):QF [#v[Q.map Du],.val (Ai s)]=Z (.val (.bl J')):=by
 let b:=iu a;let c:=O6 Q;let d:=ZB (GV (λx y=>D.tup [x,y]) (Q.map Du) (s.map aD)) (by simp;lia);apply ZF rfl ?_;unfold Ai;generalize (Q.map λ_=>J').map D.bl=B,s.map aD=S,Q.map Du=L at *;change Uz [#v[L],.val<|.tup S]=_
 rwa[Uz,Zh,Fg,GU,show Zv 2 [] [#v[L],.val<|.tup S]=[.no,.no]from rfl,d,b,c]
def Km(r:U At×Int):D:=.tup [Ai r.1,cel r.2 []]
theorem yf{Q:LG}{s:U At}(h:∀q∈Q,(q.1.map hd).Nodup)(t:AO (Q.map (·.1)) s)(hz:Q.length<=4)(s1 i:Sl)(x:Int){acc:U Be}{n m:Nat}(u:Bj acc n m)(A:m<1000):OX [#v[Q.map Du],s1,HJ vC acc,.val (Ai s),.val (cel x []),i]=.next [#v[Q.map Du],s1,HJ vC (CN acc (Z3 Q s) x),.val (Ai s),.val (cel x []),.val (Ai (Z3 Q s))]:=by
 let j:=ye t hz;let K:=iv h t;let F:=ZB (GV (λx y=>D.tup [x,y]) (Q.map Du) (s.map aD)) (by simp;lia);let B:∀x y z w,Zk EI (λa=>Zr (EV<|ZE<|(Zh 2 [] (Fg (λa=>BR a 0) (λa=>BR a 3)) (Z6 2<|Zq (Zc 0)<|Zq (Zc 1) Z8) (λ_=>Z J') OW) a) (Z [])) [#v[Q.map Du],x,y,.val<|Ai s,z,w]=Z (Ai<|Z3 Q s):=by
  simp_all [Ai,Du,Df,El]
 generalize Q.map Du=L,Z3 Q s=k at *;let c:=RO vC k acc;let e:(acc.map<|ZG vC).length<AB:=by rw[Bn];show Gs u.len<|B7 A (by ext)
 let l:=Ga<|acc.map<|ZG vC;let f:DO O' (Ai k) (.lst (Zb<|acc.map<|ZG vC) .d)=Z (.bl (ZC acc k).isSome):=by
  rw[N5,GD k];show(if DN (.tup k) (acc.map<|ZG vC)=J' then _ else _)=_
  rw[if_pos c,Kk vC k acc,Option.isSome_map];cases(ZC acc k).isSome<;>rfl
 let b:∀d,KR (Z (ZC acc k).isSome) ((Zi OH<|λa=>Zr (EV<|(Za D5 (λa=>Bo a 2) (λa=>Bo a 5)) a) (Zr (Ft a 4)<|some [])) [#v[L],s1,HJ vC acc,.val<|Ai s,.val<|cel x [],.val<|Ai k]) (Z<|cel x [])=Z d->ZW (acc.map<|ZG vC) (.tup k) d=(CN acc k x).map (ZG vC)->OX [#v[L],s1,HJ vC acc,.val<|Ai s,.val<|cel x [],i]=.next [#v[L],s1,HJ vC<|CN acc k x,.val<|Ai s,.val<|cel x [],.val<|Ai k]:=by
  intro d C E;unfold HJ at *;let o:=B s1 (.own (Zb<|acc.map<|ZG vC) .d) (.val<|cel x []) i;generalize acc.map (ZG vC)=r at *;unfold OX;let G:ZV ((Zi QF<|λa=>Zr (Ft a 0)<|Zr (Ft a 3)<|some []) [#v[L],s1,.own (Zb r) .d,.val<|Ai s,.val<|cel x [],i])=Z J':=by
   rwa[j,ZV]
  erw[G,ZM,Ze,o,Z5,GZ,GB];let H:Za (DO O') (λa=>Bo a 5) (λa=>Bo a 2) [#v[L],s1,.own (Zb r) .d,.val<|Ai s,.val<|cel x [],.val<|Ai k]=Z (.bl (ZC acc k).isSome):=by
   rwa[f]
  rw[H,show Bq [#v[L],s1,.own (Zb r) .d,.val<|Ai s,.val<|cel x [],.val<|Ai k] 4=Z (cel x [])from rfl];erw[AV];rw[C];rwa[JZ,GK,l,GD k,c,E,Bool.true_and,decide_eq_true e]
 cases g:ZC acc k with
 |none=>
  rw[g]at b;show b (vC (x,[])) rfl<|xT vC g
 |some p=>
  rw[g]at b;apply b (vC (p.1,p.2++[x])) ?_<|xR vC u.nd g;unfold HJ;rwa[KR,Option.isSome,WH vC g,xL p.1 x p.2 []]
def DH(Q:LG)(a:U (U At×Int)):U (U At×Int):=a.map λr=>(Z3 Q r.1,r.2)
theorem iw{Q:LG}(h:∀q∈Q,(q.1.map hd).Nodup)(hz:Q.length<=4)(s1:Sl):∀(d:U (U At×Int))(acc:U Be)(m:Nat)(s3 s4 e:Sl),(∀r∈d,AO (Q.map (·.1)) r.1)->Bj acc Q.length m->m+d.length<1000->∃f g i,ZK (Z6 2 (Zq (Zc 3) (Zq (Zc 4) Z8))) OX (d.map Km) [#v[Q.map Du],s1,HJ vC acc,s3,s4,e]=.next [#v[Q.map Du],s1,HJ vC (E1 (DH Q d) acc),f,g,i]
 |[],acc,m,s3,s4,e,_,j,_=>#[s3,s4,e,rfl]
 |r::d,acc,m,s3,s4,e,k,j,l=>by
  erw[Ck]at l;let(a,b,c,n):=iw h hz s1 d (CN acc (Z3 Q r.1) r.2) (m+1) (.val<|Ai r.1) (.val<|cel r.2 []) (.val<|Ai<|Z3 Q r.1) (λq o=>k q<|Bg _ o) (j.add (LB (by simpa using(k r Ba).len)) r.2) ∅;apply⟨a,b,c,?_⟩;rwa[Km,ZK,Z6,Zq,Z8];rw[yf h (k r Ba) hz s1 e r.2 j<|FA l];show n
theorem yg{Q:LG}(h:∀q∈Q,(q.1.map hd).Nodup)(E:0<Q.length)(hz:Q.length<=4)(f:U (U At×Int))(m:∀r∈f,AO (Q.map (·.1)) r.1)(n:f.length<500):Vz [#v[Q.map Du],#v[f.map Km]]=Z (.own (M9 (E1 (DH Q f) []))):=by
 let ok:=Bj.tab (DH Q f) (Bj.nil Q.length) λr h=>by
  let(u,w,rfl):=Bi.mp h;show LB (by simpa using(m u w).len)
 let la:(DH Q f).length=f.length:=Bn _;let(a,b,c,e):=iw h hz #v[f.map Km] f [] 0 .no .no .no m (Bj.nil _) ∅;generalize E1 (DH Q f) []=g at *;let j:(Zg g).length<500:=by unfold Zg;rw[Bn];have:=ok.len;lia
 let o:=WD #v[(Zg g).map Ai] (Zg g) (.inl rfl) j λl n=>by
  have:=ok.kl l n;show#[λz=>by rw[z]at this;simp at this;lia,∅]
 rw[Ww _ _ ((Zy AQ _).nodup_iff.mpr ok.nd) (λ_ e=>by cases e),<- RP vC]at o;let A:=ZA (b:=Zc 0) (e:=Vx) (ρ:=[.no,.lent (Zb<|g.map<|ZG vC) .d]) Ai (λk=>.tup [Ai k,vC<|(ZC g k).getD (0,[])]) (Zm AQ<|Zg g) λk B=>#[[.val<|Ai k,.lent (Zb<|g.map<|ZG vC) .d],rfl,by
  let(p,s):=xV B;rw[s];rwa[Vx,WH vC s,Option.getD]]
 let C:=ZB ((Zm AQ<|Zg g).map Ai) (by rw[Bn,(Zy _ _).length_eq];lia);let i:=Qj<|g.map<|ZG vC;rw[show HJ vC []=.own [] .d from rfl]at e;unfold HJ at e;unfold M9;apply ZF rfl ?_;generalize Q.map Du=L,f.map Km=R,g.map (ZG vC)=t,(Zm AQ<|Zg g).map Ai=W,(Zm AQ<|Zg g).map (λk=>D.tup [Ai k,vC<|(ZC g k).getD (0,[])])=T at *;change Vy [#v[L],#v[R],.no,.no,.no,.no]=_
 rwa[Vy,F6,ZU,Dh,Zh,show ∀x y z,Zv 1 [2] [#v[L],#v[R],.own (Zb t) .d,x,y,z]=[.no,.lent (Zb t) .d]from λ_ _ _=>rfl,F5,e,i,o,Ka,C,A]
theorem Ci.hdn{L:A2}(h:Ci L):∀a∈L,(a.map hd).Nodup:=λa b=>by let(p,c):=h.good a b;show c.hdn
abbrev Dn(L:A2)(g:U Nat)(a:U (U At×Int)):U D:=M9 (E1 (DH (qs L g) a) [])
theorem ix{c:A2}(h:Ci c){g:U Nat}(d:g.length=c.length)(a:U (U At×Int))(f:∀r∈a,AO c r.1)(i:a.length<500):Rg [#v[c.map LD],#v[a.map Zd],.val (Az g)]=Z (.own (Dn c g a)):=by
 let n1:=h.n1;let n4:=h.n4;let j:=yg (Q:=qs c g) (λq k=>h.hdn q.1<|iq k) (by simp;lia) (by simp;lia) a (by rw[ip d];show f) i;let l:=gT h;let m:=xZ h d;let n:=ZA (b:=Z6 2<|Zq (Zc 0)<|Zq (Zc 1) Z8) (e:=VI) (ρ:=[.no,.no]) Zd Km a λr _=>#[[.val<|Ai r.1,‹r.2›],rfl,by
  rwa[VI,xJ #v[[.int r.2]] r.2 []<|.inl rfl,Km]]
 let o:=ZB (a.map Zd) (by rw[Bn];lia);unfold Dn;generalize c.map LD=L,Kj c=p,Az g=Y,(qs c g).map Du=W,a.map Km=C,a.map Zd=R,M9 (E1 (DH (qs c g) a) [])=T at *;apply ZF rfl ?_;change VJ [#v[L],#v[R],.val Y,.no]=_
 rwa[VJ,Dh,Zh,show Zv 2 [] [#v[L],#v[R],.val Y,.no]=[.no,.no]from rfl,Fw,o,n,l,m,Ka,j,L9]
theorem RS{a:Type}[DecidableEq a]:∀(l A:U a),l.Nodup->(∀x∈l,x∈A)->l.length<=A.length
 |[],_,_,_=>ET _
 |x::l,A,h,c=>by
  let(d,f):=Gk.mp h;let g:=RS l (A.erase x) f λy b=>(List.mem_erase_of_ne (show y≠x from λe=>d<|e ▸ b)).mpr (c y<|Bg _ b);grind
theorem Na{c:Type}{b:D->VE->O VE}{t:VE->O Bool}{e:AH}{ρ:VE}(G F:c->D)(p:c->Bool):∀xs:U c,(∀x∈xs,∃a,b (G x) ρ=Z a/\t a=Z (p x)/\e a=Z (F x))->Di b t e ρ (xs.map G)=Z ((xs.filter p).map F)
 |[],_=>rfl
 |x::xs,h=>by
  let(a,g,i,j):=h x Ba;let d:=Na G F p xs λy k=>h y<|Bg _ k;erw[AU,Di,g,i];cases f:p x with
  |true=>rwa[j,d,List.filter_cons,f]
  |false=>erw[d,List.filter_cons,f,Fs,if_false]
abbrev KE:=U At×D
def G6(e:KE):D:=.tup [Ai e.1,e.2]
def B0(es:U KE):Bv:=es.map λe=>(.tup e.1,e.2)
theorem RU(es:U KE):∀p∈B0 es,Ev p.1=O':=λp a=>by
 let(e,_,rfl):=Bi.mp a;rfl
theorem RV:∀(es:U KE)(k:U At),(Zu (B0 es) (.tup k)).isSome=decide (k∈es.map (·.1))
 |[],k=>rfl
 |e::r,k=>by
  let a:=RV r k;erw[B0,AU,Zu,KT.tup.injEq]at a ⊢;grind
theorem iy{es:U KE}(h:∀e∈es,A1 12 e.2=J'){k:U At}{d:D}(e:Zu (B0 es) (.tup k)=Z d):A1 12 d=J':=by
 induction es with|nil=>cases e|cons x r a=>
  erw[B0,AU,Zu,KT.tup.injEq]at e;by_cases c:x.1=k
  .grind [Ba]
  .rw[if_neg c]at e;show a (λy b=>h y<|Bg _ b) e
theorem RW:∀(es a:U KE),((a++es).map (·.1)).Nodup->a.length+es.length<=100000->HA (B0 a) (es.map G6)=Z (B0 (a++es))
 |[],a,_,_=>by rw[D1];rfl
 |e::r,a,c,b=>by
  erw[Ck]at b;let d:(B0 a).length<AB:=by
   unfold B0;rw[Bn];show B7 (show a.length<100000 by show FA b) (by ext)
  let h:Zu (B0 a) (.tup e.1)=J:=by
   have:=RV a e.1;let f:e.1∉a.map (·.1):=λf=>by
    grind
   simp_all
  let g:ZW (B0 a) (.tup e.1) e.2=B0 (a++[e]):=by
   unfold ZW;grind [B0]
  let i:=RW r (a++[e]) (by rw[C8];show c) (by simp;lia);rwa[G6,HA,GD e.1,K5 e.1<|RU a,d,g];simp_all
theorem iz(es:U KE):((B0 es).map λp=>kD p.1)=(es.map (·.1)).map Ai:=by
 unfold B0;rw[CC,CC];rfl
def DJ(a b:U KE):BG:=Zm AQ ((a.map (·.1)).filter (λk=>!AS ((Zu (B0 b) (.tup k)).getD .non) ((Zu (B0 a) (.tup k)).getD .non))++(b.map (·.1)).filter λk=>!decide (k∈a.map (·.1)))
theorem yh(c f:U KE)(n1:(c.map (·.1)).Nodup)(n2:(f.map (·.1)).Nodup)(K:∀e∈c,A1 12 e.2=J')(Q:∀e∈f,A1 12 e.2=J')(A:BG)(a1:∀e∈c,e.1∈A)(L:∀e∈f,e.1∈A)(M:A.length<500)(g:∀k∈A,k≠[]/\k.length<=1000):Rf [#v[c.map G6],#v[f.map G6]]=Z (.own ((DJ c f).map Ai))/\(DJ c f).length<500:=by
 let b1:=RS _ A n1 λk g=>by let(e,n,rfl):=Bi.mp g;show a1 e n
 let T:=RS _ A n2 λk g=>by let(e,n,rfl):=Bi.mp g;show L e n
 rw[Bn]at b1 T;let y:=RW c [] (by exists n1) (by simp;lia);let z:=RW f [] (by exists n2) (by simp;lia);rw[DU]at y z;unfold DJ;generalize P:(λk:U At=>!AS ((Zu (B0 f)<|.tup k).getD .non) ((Zu (B0 c)<|.tup k).getD .non))=p,q:(λk:U At=>!decide (k∈c.map (·.1)))=r;let Y:=Na (b:=Zc 0) (t:=VA) (e:=eC) (ρ:=[.no,.lent (Zb<|B0 f) .d,.val<|.lst (Zb<|B0 c) .d]) Ai Ai p (c.map (·.1)) λk g=>#[[.val<|Ai k,.lent (Zb<|B0 f) .d,.val<|.lst (Zb<|B0 c) .d],rfl,by
  let s:DN (.tup k) (B0 f)=J':=K5 k<|RU f;let(d,hd):=Option.isSome_iff_exists.mp (show(Zu (B0 c)<|.tup k).isSome=J' by rw[RV c,decide_eq_true g]);let B:=(λk d=>iy K (k:=k) (d:=d)) k d hd;let C:A1 12 ((Zu (B0 f)<|.tup k).getD .non)=J':=by
   cases hh:Zu (B0 f) (.tup k)with
   |none=>rfl
   |some x=>show(λk d=>iy Q (k:=k) (d:=d)) k x hh
  let E:Ja (.lst (Zb<|B0 f) .d) (Ai k)=Z ((Zu (B0 f)<|.tup k).getD .non):=by
   erw[Ja,Ga,GD k,s,if_true]
  let e2:D5 (.lst (Zb<|B0 c) .d) (Ai k)=Z d:=by
   rw[aJ,GD k];rwa[K5 k<|RU c,hd]
  rw[show p k=!AS ((Zu (B0 f)<|.tup k).getD .non) d by rw[<- P];dsimp only;rw[hd];rfl];apply⟨?_,rfl⟩;rwa[VA,E,e2,Co,FJ,B,C]]
 let c2:=Na (b:=Zc 0) (t:=VB) (e:=eE) (ρ:=[.no,.val<|.lst (Zb<|B0 c) .d]) Ai Ai r (f.map (·.1)) λk g=>#[[.val<|Ai k,.val<|.lst (Zb<|B0 c) .d],rfl,by
  apply#[?_,rfl];let E:DO J' (Ai k) (.lst (Zb<|B0 c) .d)=Z (.bl<|r k):=by
   rw[N5,GD k];rwa[K5 k<|RU c,RV c];rw[Bool.true_bne,<- q]
  rwa[VB,E]]
 let i:((c.map (·.1)).filter p++(f.map (·.1)).filter r).Nodup:=JV.mpr #[n1.sublist WJ,n2.sublist WJ,λa G b hb e=>by
  subst e;let s:=(GH.mp hb).2;rw[<- q]at s;erw[decide_eq_true<|(GH.mp G).1]at s;cases s]
 let j:∀k∈(c.map (·.1)).filter p++(f.map (·.1)).filter r,k∈A:=λk g=>by
  rcases Cj.mp g with h|h
  .show(show ∀k∈c.map (·.1),k∈A from λk g=>by let(e,n,rfl):=Bi.mp g;show a1 e n) k (GH.mp h).1
  .show(show ∀k∈f.map (·.1),k∈A from λk g=>by let(e,n,rfl):=Bi.mp g;show L e n) k (GH.mp h).1
 let m:=RS _ A i j;let l1:((c.map (·.1)).filter p).length<=c.length:=Bu (RX _ _) (by rw[Bn];show A4 _);let l2:((f.map (·.1)).filter r).length<=f.length:=Bu (RX _ _) (by rw[Bn];show A4 _);generalize (f.map (·.1)).filter r=u,(c.map (·.1)).filter p=o at *;let N:=WD #v[(o++u).map Ai] (o++u) (.inl rfl) (Gs m M) λl hl=>g l<|j l hl;rw[Ww _ _ ((Zy AQ _).nodup_iff.mpr i) λ_ h=>by cases h]at N;apply#[?_,by rw[(Zy AQ _).length_eq];show Gs m M];generalize Zm AQ (o++u)=R at *;let G:Zo (.lst<|o.map Ai) (.lst<|u.map Ai)=Z (.lst<|(o++u).map Ai):=by
  rw[Uu _ _ (by simp;lia),DM]
 let s1:=ZB ((c.map (·.1)).map Ai) (by simp;lia);let s2:=ZB ((f.map (·.1)).map Ai) (by simp;lia);let B:Ei (.lst (Zb<|B0 c) .d)=Z ((c.map (·.1)).map Ai):=by erw[Ei,Ga,El,iz c]
 let C:Ei (.lst (Zb<|B0 f) .d)=Z ((f.map (·.1)).map Ai):=by erw[Ei,Ga,El,iz f]
 rw[show B0 []=[]from rfl]at y z;generalize f.map G6=H,c.map G6=S,B0 f=F,B0 c=w,(f.map (·.1)).map Ai=W2,(c.map (·.1)).map Ai=W1 at *;apply ZF rfl ?_;change VC [#v[S],#v[H],.no,.no,.no]=_
 rwa[VC,eO,eM,eK,eJ,eF,IZ,y,F6,eG,z,eH,GY,JM,Zh,show Zv 1 [3,2] [#v[S],#v[H],.val<|.lst (Zb w) .d,.own (Zb F) .d,.no]=[.no,.lent (Zb F) .d,.val<|.lst (Zb w) .d]from rfl,B,s1,Y,Z0,eI,show Zv 1 [2] [#v[S],#v[H],.val<|.lst (Zb w) .d,.val<|.lst (Zb F) .d,.own<|o.map Ai]=[.no,.val<|.lst (Zb w) .d]from rfl,C,s2,c2,G,Fw,N,L9,Dh]
def B5(acc:U Be):U KE:=(Zm AQ (Zg acc)).map λk=>(k,vC ((ZC acc k).getD (0,[])))
theorem iA(acc:U Be):M9 acc=(B5 acc).map G6:=by
 unfold M9 B5;rw[CC];rfl
theorem Iv(acc:U Be):(B5 acc).map (·.1)=Zm AQ (Zg acc):=by
 unfold B5;rw[CC];show List.map_id _
theorem iB(acc:U Be):∀e∈B5 acc,A1 12 e.2=J':=λe a=>by
 let(k,_,rfl):=Bi.mp a;rfl
theorem yi(c:U At)(f:c.length<500):∃g:U D,Vw [#v[c.map aD]]=Z (.own g)/\(0<g.length↔c≠[])/\g.length<500:=by
 let j:=ZA (b:=Zc 0) (e:=eA) (ρ:=[.no]) aD (λa=>Ai [a]) c λa _=>#[[.val<|aD a],rfl,by
  rfl]
 rw[show c.map (λa=>Ai [a])=(c.map λa=>[a]).map Ai by rw[CC];rfl]at j;let n:=WD #v[(c.map λa=>[a]).map Ai] (c.map λa=>[a]) (.inl rfl) (by exists f) λl f=>by
  let(a,_,rfl):=Bi.mp f;show#[by simp,by simp]
 let o:∀k∈DG J (Zm AQ<|c.map λa=>[a]),∃a,k=[a]:=λk h=>by
  have:=(Zy AQ _).mem_iff.mp<|(gY _ k).mp h;let(a,_,rfl):=Bi.mp this;show#[a,rfl]
 let d:0<(DG J<|Zm AQ<|c.map λa=>[a]).length↔c≠[]:=by
  cases c with
  |nil=>simp[Zm,DG]
  |cons a r=>show#[λ_=>by simp,λ_=>List.length_pos_of_mem<|(gY _ [a]).mpr<|(Zy AQ _).mem_iff.mpr<|Bi.mpr ⟨a,Ba,rfl⟩]
 let i:(DG J<|Zm AQ<|c.map λa=>[a]).length<500:=Gs (WA _ _) (by rw[(Zy AQ _).length_eq,Bn];show f);generalize DG J (Zm AQ<|c.map λa=>[a])=m at *;let p:=ZA (b:=Zc 0) (e:=eB) (ρ:=[.no]) Ai (λk=>aD<|hd k) m λk h=>#[[.val<|Ai k],rfl,by
  let(a,rfl):=o k h;rfl]
 let q:=ZB (c.map aD) (by simp;lia);let s:=ZB (m.map Ai) (by simp;lia);apply#[m.map λk=>aD<|hd k,?_,by simpa using d,by exists i];generalize c.map aD=M,(c.map λa=>[a]).map Ai=V,m.map Ai=W,(m.map λk=>aD<|hd k)=Y at *;apply ZF rfl ?_;change Vv [#v[M]]=_
 rwa[Vv,Zh,show Zv 1 [] [#v[M]]=[.no]from rfl,q,j,n,Ka,s,p,Dh]
theorem yj{l:U At}(h:Ln l)(j:Nat):Je [.val (Ai l),‹j›]=Z (.val (aD (l.getD j .non))):=WE l j (by have:=h.l4;lia)
theorem WK{l:U At}(h:Ln l):Au (Ai l) (.int 0)=Z (aD (hd l)):=by
 let b:=h.l1;cases l with
 |nil=>simp at b
 |cons a r=>show hW (aD a)<|r.map aD
theorem ym{l:U At}(h:Ln l):hd l∈l:=by
 let b:=h.l1;cases l with
 |nil=>simp at b
 |cons a r=>show Ba
theorem WL{c:BG}{p:Nat}(f:GL c p)(j:Nat)(a:At)(d:Sm (aD a)/\(Jf (aD a)=J'\/a=.non)):Kf [.val (LD c),‹j›,.val (aD a)]=Z (.val (.bl (decide (∃l∈c,l.getD j .non=a)))):=by
 let n:=Na (b:=Zc 0) (t:=VD) (e:=VF) (ρ:=[.no,‹j›,.val<|aD a]) Ai (λl=>aD<|hd l) (λl=>decide<|l.getD j .non=a) c λl o=>#[[.val<|Ai l,‹j›,.val<|aD a],rfl,by
  apply#[?_,?_]
  .rwa[VD,yj (f.ln l o) j,CG,FJ,Lv,Lu]
  .rwa[VF,WK<|f.ln l o]]
 rw[show(c.filter λl=>decide<|l.getD j .non=a).map (λl=>aD<|hd l)=((c.filter λl=>decide<|l.getD j .non=a).map hd).map aD by rw[CC];rfl]at n;let(g,q,i,r):=yi ((c.filter λl=>decide<|l.getD j .non=a).map hd) (by
  rw[Bn];have:=RX (λl=>decide<|l.getD j .non=a) c;have:=f.n6;lia)
 let k:(c.filter λl=>decide<|l.getD j .non=a).map hd≠[]↔∃l∈c,l.getD j .non=a:=by
  simp
 rw[k]at i;let s:=ZB (c.map Ai) (by rw[Bn];have:=f.n6;lia);let u:VH [.val<|LD c,‹j›,.val<|aD a]=Z (.own g):=by
  apply ZF rfl ?_;change VG [.val<|LD c,‹j›,.val<|aD a]=_
  let m:Ef (Cy<|Hn<|some<|aD a) (Z<|!(EO (aD a)||BH (aD a)))=Z O':=by
   rcases d.2 with h|rfl
   .rw[show(EO (aD a)||BH (aD a))=J' from h];cases a<;>rfl
   .rfl
  rwa[VG,gw (aD a) d.1,show ZV (Z<|.bl<|EO (aD a)||BH (aD a))=Z (EO (aD a)||BH (aD a))from rfl]at *;rwa[m,Fw,Zh,show Zv 1 [1,2] [.val<|LD c,‹j›,.val<|aD a]=[.no,‹j›,.val<|aD a]from rfl,s,n,q,L9,Dh]
 apply ZF rfl ?_;change VO [.val<|LD c,‹j›,.val<|aD a]=_
 rwa[VO,u,Ka,show Zp [.lst g]=Z (.int g.length)from rfl,EX,i2,show decide ((0:Int)<(g.length:Int))=decide (∃l∈c,l.getD j .non=a)from decide_eq_decide.mpr #[λh=>i.mp<|M6.mp h,λh=>by have:=i.mpr h;show M6.mpr this]]
theorem yn{e:BG}{p:Nat}(f:GL e p){a:At}(g:a∈e.map hd):Kf [.val (LD e),‹0›,.val (aD a)]=Z (.val (.bl J')):=by
 let(c,b,rfl):=Bi.mp g;let d:=f.val c b (hd c)<|ym<|f.ln c b;have:=WL f 0 (hd c) #[d.2,.inl d.1];rw[decide_eq_true #[c,b,by cases c<;>rfl]]at this;show this
theorem yo{L:A2}{s:U At}(h:∀b∈L,∃p,GL b p)(c:AO L s):Di (Z6 2 (Zq (Zc 0) (Zq (Zc 1) Z8))) (λ_=>Z J') Rl [.no,.no] (GV (λx y=>D.tup [x,y]) (L.map LD) (s.map aD))=Z ((L.map λ_=>J').map D.bl):=by
 induction c with|nil=>rfl|@cons b j a k d l e=>
  let(p,f):=h b Ba;let g:Rl [.val<|LD b,.val<|aD a]=Z (.bl J'):=by
   have:=yn f d;rwa[Rl,this]
  rwa[RQ,Di,Z6,Zq,Z8,g,e λb i=>h b<|Bg _ i]
theorem yp{L:A2}(h:Ci L){s:U At}(c:AO L s):VY [#v[L.map LD],.val (Ai s)]=Z (.val (.bl J')):=by
 let d:=yo h.good c;let e:=O6 L;let j:=h.n4;let f:=ZB (GV (λx y=>D.tup [x,y]) (L.map LD) (s.map aD)) (by simp;lia);let g:CJ [.tup<|s.map aD,.ty "tuple"]=Z (.bl J'):=rfl;let l1:Zp [.tup<|s.map aD]=Z (.int ((s.map aD).length:Int)):=rfl;let i:Zp [.lst<|L.map LD]=Z (.int ((L.map LD).length:Int)):=rfl;let a:Co (.int ((s.map aD).length:Int)) (.int ((L.map LD).length:Int))=Z (.bl O'):=by rw[show(s.map aD).length=(L.map LD).length by simp[c.len]];simp
 apply ZF rfl ?_;unfold Ai;generalize (L.map λ_=>J').map D.bl=B,s.map aD=S,(L.map LD)=k at *;change VX [#v[k],.val<|.tup S]=_
 rwa[VX,g,show ∀b,ZV (Z<|.bl b)=Z b from λ_=>rfl,l1,i,a,Zh,Fg,GU,show Zv 2 [] [#v[k],.val<|.tup S]=[.no,.no]from rfl,f,d,e]
abbrev Row:=U At×Int
abbrev Dc:=Bool×Row
def G7(b:Bool):D:=if b then .str "+" else .str "-"
def BP(c:Dc):D:=.tup [G7 c.1,Ai c.2.1,.int c.2.2]
theorem yq:¬ ("+":Af)="-":=by symm
theorem iC:¬ ("-":Af)="+":=by symm
theorem yr(b:Bool):Co (G7 b) (.str "+")=Z (.bl (!b)):=by cases b<;>simp[G7,iC]
theorem yt(b:Bool):Co (G7 b) (.str "-")=Z (.bl b):=by cases b<;>simp[G7,yq]
theorem iD(b:Bool):CG (G7 b) (.str "+")=Z (.bl b):=by cases b<;>simp[G7,iC]
theorem yu{L:A2}(h:Ci L)(c:Dc)(f:AO L c.2.1):Wg [#v[L.map LD],.val (BP c)]=Z (.val (.bl J')):=by
 let g:=yp h f;let a:=O3 (.int c.2.2) trivial;let i:CJ [BP c,.ty "tuple"]=Z (.bl J'):=rfl;let l1:Zp [BP c]=Z (.int 3):=rfl;let j:Au (BP c) (.int 0)=Z (G7 c.1):=rfl;let d:Au (BP c) (.int 1)=Z (Ai c.2.1):=rfl;let e:Au (BP c) (.int 2)=Z (.int c.2.2):=rfl;rw[show EO (.int c.2.2)=J' from rfl]at a;generalize BP c=C,L.map LD=k at *;apply ZF rfl ?_;change Wf [#v[k],.val C]=_
 unfold Wf;rwa[i,show ∀b,ZV (Z<|.bl b)=Z b from λ_=>rfl,l1,show Co (.int 3) (.int 3)=Z (.bl O')from rfl,j,d,e,yr,yt];cases c.1<;>rwa[d,e,g,a,Cs]
def CP(r s:Row):Bool:=if r.1=s.1 then decide (r.2<s.2)else AQ r.1 s.1
theorem yv:TO CP:={
 asym:=λa b h=>by
  unfold CP at h ⊢
  by_cases e:a.1=b.1
  .rw[if_pos e]at h;rw[if_pos e.symm];simp at h ⊢;show Int.le_of_lt h
  .rw[if_neg e]at h;rw[if_neg (λz=>e z.symm)];show C3.asym _ _ h
 neg:=λa b c h=>by
  unfold CP at h ⊢
  by_cases i:a.1=b.1
  .rw[if_pos i]
   by_cases f:b.1=c.1
   .rw[if_pos f];rw[if_pos (i.trans f)]at h;simp at h ⊢;lia
   .rw[if_neg f];rw[if_neg (λz=>f (i.symm.trans z)),i]at h;show .inr h
  .rw[if_neg i]
   by_cases f:b.1=c.1
   .rw[if_neg (λz=>i (z.trans f.symm)),<- f]at h;show .inl h
   .rw[if_neg f]
    by_cases j:a.1=c.1
    .cases g:AQ a.1 b.1 with
     |true=>show .inl rfl
     |false=>
      cases d:AQ b.1 a.1 with
      |true=>rw[j]at d;show .inr d
      |false=>show absurd (C3.anti _ _ g d) i
    .rw[if_neg j]at h;show C3.neg _ _ _ h
 anti:=λa b g d=>by
  unfold CP at g d
  by_cases e:a.1=b.1
  .rw[if_pos e]at g;rw[if_pos e.symm]at d
   simp at g d
   show Prod.ext e (Int.le_antisymm d g)
  .rw[if_neg e]at g;rw[if_neg (λz=>e z.symm)]at d;show absurd (C3.anti _ _ g d) e}
def O7(r:Row):D:=.tup [.tup (r.1.map Db),.int r.2]
theorem yw(r:Row)(h:r.1.length<=1000):Ra [.val (Zd r)]=Z (.val (O7 r)):=by
 apply ZF rfl ?_;change Vp [.val<|Zd r]=_
 unfold O7;rwa[Vp,show Au (Zd r) (.int 0)=Z (Ai r.1)from rfl,show Au (Zd r) (.int 1)=Z (.int r.2)from rfl,h5 r.1 h]
theorem iE:∀a b:U At,CU (a.map Db) (b.map Db)=decide (a=b)
 |[],[]=>by simp
 |[],_::_=>by simp
 |_::_,[]=>by simp
 |x::a,y::b=>by
  simp[g8,iE a b]
theorem yx(r s:Row):ltN 6 (O7 r) (O7 s)=Z (CP r s):=by
 let c:A1 12 (.tup<|r.1.map Db)=J':=by
  show(r.1.map Db).all (A1 11)=J'
  grind [RL]
 let d:A1 12 (.tup<|s.1.map Db)=J':=by
  show(s.1.map Db).all (A1 11)=J'
  rw[List.all_map,DK];show λa _=>RL 10 a
 let f:AS (.tup<|r.1.map Db) (.tup<|s.1.map Db)=decide (r.1=s.1):=by
  rw[<- iE];rfl
 change F8 (ltN 5) [.tup<|r.1.map Db,.int r.2] [.tup<|s.1.map Db,.int s.2]=_
 unfold CP;rwa[F8,FJ,c,d,f,show ltN 5 (.tup<|r.1.map Db) (.tup<|s.1.map Db)=Z (AQ r.1 s.1)from(Wz 2 r.1 s.1),decide_eq_true_eq,A1];by_cases e:r.1=s.1
 .rw[if_pos e,if_pos e];by_cases b:r.2=s.2
  .simp[b]
  .simp[b]
 .rw[if_neg e,if_neg e]
theorem yy(rs:U Row)(a:rs.length<500)(b:∀r∈rs,r.1.length<=1000):Hz Ra (rs.map Zd)=Z ((Zm CP rs).map Zd):=Wv Zd yv O' rs a O7 (λr h=>yw r<|b r h) (λr _=>#[_,_,rfl]) (λr _ s _=>yx r s)
def Gd:At->Prop
 |.str z=>(∀c∈z.cps.toList,c∈signs.cps.toList)/\z.length<=12
 |_=>True
abbrev FM:Af:="0123456789abcdefghijklmnopqrstuvwxyz"
theorem yz:∀c∈signs.cps.toList,∀d∈signs.cps.toList,decide (Txt.find FM #[(T' [c])]<Txt.find FM #[(T' [d])])=decide (c<d):=by symm
theorem iF(s0 s1:Sl):∀(xs ys:U Nat),(∀c∈xs,c∈signs.cps.toList)->(∀c∈ys,c∈signs.cps.toList)->∀s3 s4:Sl,(∃b d,ZK (Z6 2 (Zq (Zc 3) (Zq (Zc 4) Z8))) ZY (GV (λx y=>D.tup [x,y]) (xs.map cS) (ys.map cS)) [s0,s1,.val (.str FM),s3,s4]=.next [s0,s1,.val (.str FM),b,d]/\decide (xs<ys)=decide (xs.length<ys.length)) \/ZK (Z6 2 (Zq (Zc 3) (Zq (Zc 4) Z8))) ZY (GV (λx y=>D.tup [x,y]) (xs.map cS) (ys.map cS)) [s0,s1,.val (.str FM),s3,s4]=.ret (.val (.bl (decide (xs<ys))))
 |[],ys,_,_,s3,s4=>.inl #[s3,s4,rfl,by cases ys<;>simp]
 |x::xs,[],_,_,s3,s4=>.inl #[s3,s4,rfl,by simp]
 |x::xs,y::ys,i,j,s3,s4=>by
  let a:Co (cS x) (cS y)=Z (.bl<|!decide (x=y)):=by
   simp[cS]
  erw[AU,RQ,ZK,show Z6 2 (Zq (Zc 3)<|Zq (Zc 4) Z8) (D.tup [cS x,cS y]) [s0,s1,.val<|.str FM,s3,s4]=Z [s0,s1,.val<|.str FM,.val<|cS x,.val<|cS y]from rfl];by_cases e:x=y
  .subst e;let f:ZY [s0,s1,.val<|.str FM,.val<|cS x,.val<|cS x]=.next [s0,s1,.val<|.str FM,.val<|cS x,.val<|cS x]:=by
    rwa[ZY,a]
   rw[f];let hd:decide (x::xs<x::ys)=decide (xs<ys):=by
    simp_all
   rw[hd,show decide ((x::xs).length<(x::ys).length)=decide (xs.length<ys.length) by simp];show iF s0 s1 xs ys (λc g=>i c<|Bg _ g) (λc g=>j c<|Bg _ g) (.val<|cS x) (.val<|cS x)
  .let hd:decide (x::xs<y::ys)=decide (x<y):=by
    rw[decide_eq_decide,List.cons_lt_cons_iff];show#[λh=>h.elim id λh=>absurd h.1 e,λh=>.inl h]
   apply .inr ?_;let f:ZY [s0,s1,.val<|.str FM,.val<|cS x,.val<|cS y]=.ret (.val<|.bl<|decide<|x<y):=by
    rwa[ZY,K2,a,e,decide_false,show ∀c,N0 FM [cS c]=Z (.int<|Txt.find FM ⟨(T' [c])⟩)from λ_=>rfl,show Dj (.int<|Txt.find FM ⟨(T' [x])⟩) (.int<|Txt.find FM ⟨(T' [y])⟩)=Z (.bl<|decide<|x<y) by rw[<- (yz x (i x Ba) y<|j y Ba)];rfl]
   rw[f,hd]
theorem yA(a b:At)(d:Gd a)(e:Gd b):UK [.val (aD a),.val (aD b)]=Z (.val (.bl (Em a b))):=by
 apply ZF rfl ?_;change ZZ [.val<|aD a,.val<|aD b,.no,.no,.no]=_
 cases a with
 |non=>cases b<;>simp[ZZ,OI,aD,Em]
 |int i=>cases b<;>simp[ZZ,OI,UJ,UH,dA,du,aD,Em]
 |str x=>
  cases b with
  |non=>simp[ZZ,OI,aD,Em]
  |int j=>simp[ZZ,OI,UJ,UH,aD,Em]
  |str y=>
   rw[show ZZ [.val<|aD<|.str x,.val<|aD<|.str y,.no,.no,.no]=QL [.val<|.str x,.val<|.str y,.val<|.str FM,.no,.no]from rfl];let f:∀z:Af,z.length<=12->Zp [.str z]=Z (.int z.cps.toList.length):=λz g=>by
    simp[Str.length,show z.cps.size<=AB from Bu g (by ext)]
   rcases iF (.val<|.str x) (.val<|.str y) x.cps.toList y.cps.toList d.1 e.1 .no .no with⟨k,l,c,h⟩|c
   .let lt:Dj (.int x.cps.toList.length) (.int y.cps.toList.length)=Z (.bl<|decide<|x.cps.toList<y.cps.toList):=by
     rw[h];change Z (D.bl<|decide<|(x.cps.toList.length:Int)<(y.cps.toList.length:Int))=_
     congr 2;rw[decide_eq_decide];show M8
    rwa[QL,UI,dz,dy,ZU,Fg,GU,c,f x d.2,f y e.2,lt,Em]
   .rwa[QL,UI,ZU,Fg,GU,c,Em]
theorem iG(s0 s1:Sl):∀(xs ys:U At),(∀c∈xs,Gd c)->(∀c∈ys,Gd c)->∀s3 s4:Sl,(∃b d,ZK (Z6 2 (Zq (Zc 2) (Zq (Zc 3) Z8))) Lp (GV (λx y=>D.tup [x,y]) (xs.map aD) (ys.map aD)) [s0,s1,s3,s4]=.next [s0,s1,b,d]/\AQ xs ys=decide (xs.length<ys.length)) \/ZK (Z6 2 (Zq (Zc 2) (Zq (Zc 3) Z8))) Lp (GV (λx y=>D.tup [x,y]) (xs.map aD) (ys.map aD)) [s0,s1,s3,s4]=.ret (.val (.bl (AQ xs ys)))
 |[],ys,_,_,s3,s4=>.inl #[s3,s4,rfl,by cases ys<;>simp[AQ]]
 |x::xs,[],_,_,s3,s4=>.inl #[s3,s4,rfl,by simp[AQ]]
 |x::xs,y::ys,g,h,s3,s4=>by
  let a:=wP x y;erw[AU,RQ,ZK,show Z6 2 (Zq (Zc 2)<|Zq (Zc 3) Z8) (D.tup [aD x,aD y]) [s0,s1,s3,s4]=Z [s0,s1,.val<|aD x,.val<|aD y]from rfl];by_cases e:x=y
  .subst e;let i:Lp [s0,s1,.val<|aD x,.val<|aD x]=.next [s0,s1,.val<|aD x,.val<|aD x]:=by
    rwa[Lp,a]
   rw[i,show AQ (x::xs) (x::ys)=AQ xs ys by simp[AQ],show decide ((x::xs).length<(x::ys).length)=decide (xs.length<ys.length) by simp];show iG s0 s1 xs ys (λc f=>g c<|Bg _ f) (λc f=>h c<|Bg _ f) (.val<|aD x) (.val<|aD x)
  .apply .inr ?_;let i:Lp [s0,s1,.val<|aD x,.val<|aD y]=.ret (.val<|.bl<|Em x y):=by
    rwa[Lp,a,e,decide_false,yA x y (g x Ba)<|h y Ba]
   grind [show AQ (x::xs) (y::ys)=Em x y by simp[AQ,e]]
theorem yB(l m:U At)(e:∀a∈l,Gd a)(f:∀a∈m,Gd a)(g:l.length=m.length):UX [.val (Ai l),.val (Ai m)]=Z (.val (.bl (AQ l m))):=by
 apply ZF rfl ?_;change QW [.val<|Ai l,.val<|Ai m,.no,.no]=_
 let c:∀l:U At,GU (Ai l)=Z (l.map aD):=λ_=>rfl;rcases iG (.val<|Ai l) (.val<|Ai m) l m e f .no .no with⟨h,i,b,d⟩|b
 .rw[g,decide_eq_false<|Iy _]at d;rw[d];rwa[QW,ZU,Fg,c,b]
 .rwa[QW,ZU,Fg,c,b]
theorem yC{a:At}(h:Jf (aD a)=J'):Gd a:=by
 cases a with
 |non=>trivial
 |int i=>trivial
 |str z=>
  let b:Ip z.cps.toList=J':=by
   erw[Jf,aD,EO,BH,Bool.false_or]at h;show h
  obtain⟨⟨l⟩⟩:=z;cases l with|nil=>simp[Ip]at b|cons c r=>
   erw[Ip,DC,decide_eq_true_eq]at b;apply#[λd hd=>?_,b.2];grind [hd,wL]
def Jn:U (U At)->Nat->At->O At
 |[],_,_=>J
 |l::r,j,a=>if hd l=a/\j<l.length then Z (l.getD j .non)else Jn r j a
theorem iH:∀{b:BG}{j:Nat}{a:At},a∉b.map hd->Jn b j a=J
 |[],_,_,_=>rfl
 |l::r,j,a,h=>by
  erw[AU,Bp,not_or]at h;rw[Jn,if_neg λz=>h.1 z.1.symm,iH h.2]
theorem iI:∀{b:BG}{j:Nat}{l:U At},(b.map hd).Nodup->l∈b->(Jn b j (hd l)).getD .non=l.getD j .non
 |x::r,j,l,c,a=>by
  erw[AU,Gk]at c;unfold Jn;rcases Bp.mp a with rfl|a
  .grind [iH]
  .rw[if_neg λz=>c.1 (by rw[z.1];show Fh a)];show iI c.2 a
theorem iJ{ls0:BG}(a:At)(j:Nat):∀(d:BG)(s3:Sl),(∀l∈d,Ln l)->match Jn d j a with
  |some x=>ZK (Zc 3) Lm (d.map Ai) [.val<|LD ls0,.val<|aD a,‹j›,s3]=.ret (.val<|aD x)
  |none=>∃i,ZK (Zc 3) Lm (d.map Ai) [.val<|LD ls0,.val<|aD a,‹j›,s3]=.next [.val<|LD ls0,.val<|aD a,‹j›,i]
 |[],s3,_=>#[s3,rfl]
 |l::d,s3,n=>by
  let r:=iJ (ls0:=ls0) a j d (.val<|Ai l) λm o=>n m<|Bg _ o;let k:=WK<|n l Ba;let f:CG (aD<|hd l) (aD a)=Z (.bl<|decide<|hd l=a):=by rwa[CG,FJ,Lv,Lu]
  let b:Zp [Ai l]=Z (.int l.length):=by simp[Ai]
  let g:Dj (.int j) (.int l.length)=Z (.bl<|decide<|j<l.length):=by
   simp_all
  let p:j<l.length->Au (Ai l) (.int j)=Z (aD<|l.getD j .non):=λh=>Zz (by rw[CF,Ch h];simp[DP,h]);let q:Lm [.val<|LD ls0,.val<|aD a,‹j›,.val<|Ai l]=if hd l=a/\j<l.length then .ret (.val<|aD<|l.getD j .non)else .next [.val<|LD ls0,.val<|aD a,‹j›,.val<|Ai l]:=by
   by_cases e:hd l=a
   .by_cases c:j<l.length
    .rw[if_pos #[e,c]];rw[decide_eq_true e]at f;rw[decide_eq_true c]at g;rwa[Lm,k,b,f,g,p c]
    .rw[if_neg λz=>c z.2];rw[decide_eq_true e]at f;rw[decide_eq_false c]at g;rwa[Lm,k,b,f,g]
   .rw[if_neg λz=>e z.1];rw[decide_eq_false e]at f;rwa[Lm,k,b,f]
  unfold Jn;rwa[ZK,q];grind
theorem yD{b:BG}{p:Nat}(c:GL b p)(j:Nat){a:At}(g:a∈b.map hd):UG [.val (LD b),.val (aD a),‹j›]=Z (.val (aD (Jl (b,j) a))):=by
 let(l,d,rfl):=Bi.mp g;let e:=iJ (ls0:=b) (hd l) j b .no c.ln;rw[show Jl (b,j) (hd l)=(Jn b j<|hd l).getD .non by rw[WI c.hdn d,iI c.hdn d]];apply ZF rfl ?_;change QJ [.val<|LD b,.val<|aD<|hd l,‹j›,.no]=_
 cases f:Jn b j (hd l)with
 |some x=>
  rw[f]at e;rwa[QJ,ZU,e,Option.getD]
 |none=>
  rw[f]at e;let(i,e):=e;rwa[QJ,ZU,e,Option.getD];rfl
theorem iK:∀{L:A2}{g:U Nat}{s:U At}{k:Nat}{e:BG}{j:Nat}{a:At},L[k]?=Z e->g[k]?=Z j->s[k]?=Z a->(Z3 (qs L g) s)[k]?=Z (Jl (e,j) a)
 |_::_,_::_,_::_,0,_,_,_,b,c,d=>by cases b;cases c;cases d;rfl
 |_::L,_::g,_::s,k+1,_,_,_,b,c,d=>by
  have:=iK (L:=L) (g:=g) (s:=s) (k:=k) (by exists b) (by exists c) (by exists d);simpa[qs,Z3]using this
 |[],_,_,_,_,_,_,b,_,_=>by simp at b
 |_::_,[],_,_,_,_,_,_,c,_=>by simp at c
 |_::_,_::_,[],_,_,_,_,_,_,d=>by simp at d
theorem AO.get{L:A2}{s:U At}(d:AO L s):∀k,k<L.length->∃c a,L[k]?=Z c/\s[k]?=Z a/\c∈L/\a∈c.map hd:=by
 induction d with|nil=>show λk h=>absurd h<|Nat.not_lt_zero k|@cons c o a p e q f=>
  intro k g;cases k with|zero=>show#[c,a,rfl,rfl,Ba,e]|succ k=>
   let(l,b,i,j,m,n):=f k (by exists g);show#[l,b,by simpa using i,by simpa using j,Bg _ m,n]
theorem yE{L:A2}(h:Ci L){g:U Nat}(u:g.length=L.length){s:U At}(m:AO L s):UT [.lent (L.map LD),.val (Ai s),.val (Az g)]=Z (.val (Ai (Z3 (qs L g) s))):=by
 let d:=m.len;let F:=h.n4;let v:(Z3 (qs L g) s).length=L.length:=by rw[LB (by simp[qs];lia)];simp[qs];lia
 let n:=ZA (b:=Zc 0) (e:=UR) (ρ:=[.no,.lent<|L.map LD,.val<|Ai s,.val<|Az g]) (λk:Nat=>D.int k) (λk=>aD<|(Z3 (qs L g) s).getD k .non) (Bt s.length) λk w=>#[[‹k›,.lent<|L.map LD,.val<|Ai s,.val<|Az g],rfl,by
  let f:=ED.mp w;let(l,a,o,q,x,y):=m.get k<|Js f d;let(p,z):=h.good l x;obtain⟨j,r⟩:∃j,g[k]?=Z j:=#[g[k]'∅,Ch ∅];let A:Au (.lst<|L.map LD) (.int k)=Z (LD l):=Zz (by rw[CF,o];rfl);let B:Au (Ai s) (.int k)=Z (aD a):=Zz (by rw[CF,q];rfl);let C:Au (Az g) (.int k)=Z (.int j):=Zz (by rw[CF,r];rfl);rw[show(Z3 (qs L g) s).getD k .non=Jl (l,j) a by simp[DP,iK o r q]];rwa[UR,A,B,C,yD z j y]]
 let E:(Bt s.length).map (λk=>aD<|(Z3 (qs L g) s).getD k .non)=(Z3 (qs L g) s).map aD:=by
  apply(IG);intro i;by_cases G:i<s.length
  .have:i<(Z3 (qs L g) s).length:=∅
   simp[G,this]
  .simp_all [Z3,qs]
 rw[E]at n;let c:Zp [Ai s]=Z (.int s.length):=by simp[Ai]
 let t:=Qv (s.length:Int) (Lk s.length) ∅;rw[GR]at t;let H:=ZB ((Bt s.length).map λk:Nat=>D.int k) (by simp;lia);let P:EI [.lst<|(Z3 (qs L g) s).map aD]=Z (Ai<|Z3 (qs L g) s):=rfl;generalize Ai s=S,L.map LD=W,Az g=M,(Bt s.length).map (λk:Nat=>D.int k)=N,(Z3 (qs L g) s).map aD=K,Ai (Z3 (qs L g) s)=KK at *;apply ZF rfl ?_;change US [.lent W,.val S,.val M]=_
 rwa[US,Zh,show Zv 1 [0,1,2] [.lent W,.val S,.val M]=[.no,.lent W,.val S,.val M]from rfl,c,t,H,n,P]
theorem yF(p:Int×U Int):QK [.val (vL p)]=Z (.val (vC p)):=by
 let(x,a):=p;simp[QK,A7,dt,Ht,To,P0,P1,cel,show(4:Nat)<=AB by ext];show#[rfl,rfl]
def Ge(e:Be):KT×U D:=(.tup e.1,(e.2.1::e.2.2).map D.int)
theorem iL(k:U At)(x:Int):∀acc:U Be,Gw (acc.map Ge) (.tup k) (.int x)=(CN acc k x).map Ge
 |[]=>rfl
 |e::r=>by
  erw[AU,Gw,CN,Ge,KT.tup.injEq];by_cases c:e.1=k
  .rw[if_pos c,if_pos c];simp[Ge]
  .rw[if_neg c,if_neg c,AU];show congrArg _<|iL k x r
theorem yG(acc:U Be):Jb (acc.map Ge)=acc.map (ZG vL):=by
 unfold Jb;rw[CC];rfl
theorem yH(k:U At)(acc:U Be):Ue (.tup k) (acc.map Ge)=J':=by
 unfold Ue;rw[List.all_map,DK];show λe _=>rfl
theorem iM{L:A2}(h:Ci L){g:U Nat}(d:g.length=L.length)(R:U D):∀(a:U Row)(acc:U Be)(m:Nat)(s4 f:Sl),(∀r∈a,AO L r.1)->Bj acc L.length m->m+a.length<1000->∃b c,Jc 3 (Z6 2 (Zq (Zc 4) (Zq (Zc 5) Z8))) OS Q2 (a.map Zd) [.lent (L.map LD),.lent R,.val (Az g),.no,s4,f,.no] (acc.map Ge)=Z ([.lent (L.map LD),.lent R,.val (Az g),.no,b,c,.no],(E1 (DH (qs L g) a) acc).map Ge)
 |[],acc,m,s4,f,_,_,_=>#[s4,f,rfl]
 |r::a,acc,m,s4,f,i,j,p=>by
  erw[Ck]at p;let(b,c,s):=iM h d R a (CN acc (Z3 (qs L g) r.1) r.2) (m+1) (.val<|Ai r.1) ‹r.2› (λq t=>i q<|Bg _ t) (j.add (show(Z3 (qs L g) r.1).length=L.length by have:=(i r Ba).len;rw[LB (by simp[qs];lia)];simp[qs];lia) r.2) ∅;apply#[b,c,?_];let k:(acc.map Ge).length<AB/\∀z∈acc.map Ge,z.2.length<AB:=by
   let u:1000<=AB:=by ext
   apply#[by rw[Bn];have:=j.len;lia,λz k=>?_];let(e,v,rfl):=Bi.mp k;let n:∀(l:U Be),e∈l->e.2.2.length+1<=Kl l:=by
    intro l;induction l<;>grind [Kl]
   let x:=n acc v;let y:=j.sz;erw[Ge,Bn,Ck];lia
  let w:OS [.lent<|L.map LD,.lent R,.val<|Az g,.no,.val<|Ai r.1,‹r.2›,.no]=Z (Ai<|Z3 (qs L g) r.1):=by
   rwa[OS,yE h d<|i r Ba]
  let o:Qn OS Q2 [.lent<|L.map LD,.lent R,.val<|Az g,.no,.val<|Ai r.1,‹r.2›,.no] (acc.map Ge)=Z ((CN acc (Z3 (qs L g) r.1) r.2).map Ge):=by
   erw[Qn,w,show Q2 [.lent<|L.map LD,.lent R,.val<|Az g,.no,.val<|Ai r.1,‹r.2›,.no]=Z (.int r.2)from rfl,GD<|Z3 (qs L g) r.1,yH (Z3 (qs L g) r.1) acc,if_true,KS k,iL]
  rw[AU,Jc,show Z6 2 (Zq (Zc 4)<|Zq (Zc 5) Z8) (Zd r) [.lent<|L.map LD,.lent R,.val<|Az g,.no,s4,f,.no]=Z [.lent<|L.map LD,.lent R,.val<|Az g,.no,.val<|Ai r.1,‹r.2›,.no]from rfl];rwa[o];show s
theorem iN(s0 s1 s2:Sl)(acc:U Be)(h:(Zg acc).Nodup)(hz:acc.length<=1000):∀(a pre:U Be)(s4 c:Sl),acc=pre++a->∃f g,ZK (Zc 4) Q3 ((Zg a).map Ai) [s0,s1,s2,.val (.lst (Zb (acc.map (ZG vL))) .d),s4,c,.own (Zb (pre.map (ZG vC))) .d]=.next [s0,s1,s2,.val (.lst (Zb (acc.map (ZG vL))) .d),f,g,.own (Zb (acc.map (ZG vC))) .d]
 |[],pre,s4,c,b=>#[s4,c,by rw[D1]at b;subst b;rfl]
 |e::a,pre,s4,c,b=>by
  let(f,g,m):=iN s0 s1 s2 acc h hz a (pre++[e]) (.val<|Ai e.1) c (by rw[b];simp);apply⟨f,g,?_⟩;let i:e.1∉Zg pre:=by
   intro n;rw[b]at h;unfold Zg at h n;rw[DM,AU]at h;show(JV.mp h).2.2 _ n _ Ba rfl
  let l:ZC acc e.1=Z e.2:=by
   rw[b];clear m h hz b;induction pre<;>grind [ZC,Zg]
  let j:(pre.map<|ZG vC).length<AB:=by
   have:acc.length=pre.length+(a.length+1):=by rw[b];simp
   rw[Bn];show B7 (show pre.length<1000 by lia) (by ext)
  let k:ZW (pre.map<|ZG vC) (.tup e.1) (vC e.2)=(pre++[e]).map (ZG vC):=by
   unfold ZW;rw[Kk,AF.mpr i];simp[ZG]
  let o:Q3 [s0,s1,s2,.val<|.lst (Zb<|acc.map<|ZG vL) .d,.val<|Ai e.1,c,.own (Zb<|pre.map<|ZG vC) .d]=.next [s0,s1,s2,.val<|.lst (Zb<|acc.map<|ZG vL) .d,.val<|Ai e.1,c,.own (Zb<|(pre++[e]).map<|ZG vC) .d]:=by
   rw[<- k];rwa[Q3,GK,WH vL l,yF e.2,JZ,Ga<|pre.map<|ZG vC,GD e.1,RO vC e.1 pre,j]
  rw[show Zg (e::a)=e.1::Zg a from rfl,AU,ZK];rwa[o];show m
theorem yI{L:A2}(h:Ci L){g:U Nat}(f:g.length=L.length)(a:U Row)(n:∀r∈a,AO L r.1)(v:a.length<500):Q6 [.lent (L.map LD),.lent (a.map Zd),.val (Az g)]=Z (.own (Zb ((E1 (DH (qs L g) a) []).map (ZG vC))) .d):=by
 let ok:=Bj.tab (DH (qs L g) a) (Bj.nil L.length) λr h=>by
  let(q,s,rfl):=Bi.mp h;have:=(n q s).len;simp_all [Z3,qs,LB]
 let la:(DH (qs L g) a).length=a.length:=Bn _;let(c,e,o):=iM h f (a.map Zd) a [] 0 .no .no n (Bj.nil _) ∅;let(i,j,p):=iN (.lent<|L.map LD) (.lent<|a.map Zd) (.val<|Az g) (E1 (DH (qs L g) a) []) ok.nd (by have:=ok.len;lia) (E1 (DH (qs L g) a) []) [] c e rfl;let k:=yG<|E1 (DH (qs L g) a) [];let l:Ei (.lst (Zb<|(E1 (DH (qs L g) a) []).map<|ZG vL) .d)=Z ((Zg<|E1 (DH (qs L g) a) []).map Ai):=by
  erw[Ei,Ga,El,RP]
 let m:MF [.lent<|L.map LD,.lent<|a.map Zd,.val<|Az g,.own [] .d,.no,.no,.no]=J':=rfl;generalize a.map Zd=R,E1 (DH (qs L g) a) []=b at *;rw[show([]:U Be).map Ge=[]from rfl]at o;rw[show Zb (([]:U Be).map<|ZG vC)=[]from rfl]at p;generalize L.map LD=W,Az g=w at *;apply ZF rfl ?_;change Q5 [.lent W,.lent R,.val w,.no,.no,.no,.no]=_
 let t:Vf [.lent W,.lent R,.val w,.own [] .d,.no,.no,.no]=.next [.lent W,.lent R,.val w,.own (Zb<|b.map<|ZG vL) .d,c,e,.no]:=by
  rwa[Vf,Qo,m,o,k]
 let u:Vg [.lent W,.lent R,.val w,.own (Zb<|b.map<|ZG vL) .d,c,e,.own [] .d]=.next [.lent W,.lent R,.val w,.val<|.lst (Zb<|b.map<|ZG vL) .d,i,j,.own (Zb<|b.map<|ZG vC) .d]:=by
  rwa[Vg,GY,JM,ZU,l,p]
 rwa[Q5,Vj,Vi,Vh,d7,show dY [.lent W,.lent R,.val w,.no,.no,.no,.no]=.next [.lent W,.lent R,.val w,.own [] .d,.no,.no,.no]from rfl,t,show dZ [.lent W,.lent R,.val w,.own (Zb<|b.map<|ZG vL) .d,c,e,.no]=.next [.lent W,.lent R,.val w,.own (Zb<|b.map<|ZG vL) .d,c,e,.own [] .d]from rfl,u,d6,GK,JJ]
theorem iO(L:A2)(h:∀a∈L,∃p,GL a p)(ws:U Int)(g:L.length<=ws.length):∀(b pre:A2),L=pre++b->∃s,AO b s/\Di (Zc 0) (λ_=>Z J') QU [.no,#v[L.map LD],#v[ws.map D.int]] ((DT pre.length b.length).map λk:Nat=>D.int k)=Z (s.map aD)
 |[],pre,_=>#[[],.nil,rfl]
 |a::b,pre,d=>by
  let(s,i,f):=iO L h ws g b (pre++[a]) (by rw[d];simp);rw[Ea]at f;let(p,e):=h a (by rw[d];simp);let c:pre.length<ws.length:=by
   have:L.length=pre.length+(b.length+1):=by rw[d];simp
   lia
  let l:Au (.lst<|L.map LD) (.int pre.length)=Z (LD a):=Zz (by rw[d];simp);let m:Au (.lst<|ws.map D.int) (.int pre.length)=Z (.int<|ws.getD pre.length 0):=Zz (by rw[CF,Ch c];simp[DP,c]);generalize ws.getD pre.length 0=x at *;let n:Zp [LD a]=Z (.int a.length):=by simp
  let o:=CM x (a.length:Int)<|M6.mpr e.n1;let q:=Iu x (show(a.length:Int)≠0 by show Bz (Int.ne_of_lt<|M6.mpr e.n1));let m1:=Jj x<|M6.mpr e.n1;generalize x%(a.length:Int)=j at *;obtain⟨jn,rfl⟩:∃jn:Nat,j=(jn:Int):=#[j.toNat,by show Int.eq_natCast_toNat.mpr q];let r:Au (LD a) (.int jn)=Z (Ai a[jn]):=Zz (by rw[CF,Ch<|M8.mp m1];rfl);apply⟨hd a[jn]::s,.cons (Fh<|F7<|M8.mp m1) i,?_⟩;let t:QU [‹pre.length›,#v[L.map LD],#v[ws.map D.int]]=Z (aD<|hd a[jn]):=by
   generalize LD a=B,ws.map D.int=W,L.map LD=u at *;rwa[QU,l,m,n,o,r,WK<|e.ln _<|F7<|M8.mp m1]
  erw[Ck,Ji,AU,Di,Zc,GB,t];erw[Ck,HU]at f ⊢;rw[f];rfl
theorem iP{L:A2}(h:Ci L)(c:Int):∃r:Row,AO L r.1/\QV [#v[L.map LD],‹c›]=Z (.val (Zd r)):=by
 let(e,t,G,_):=O5 c 6<|TH rfl;let H:=h.n4;let(s,m,o):=iO L h.good e ∅ L [] rfl;rw[show(DT ([]:A2).length L.length)=Bt L.length by rw[Kg];rfl]at o;let f:Zp [.lst<|L.map LD]=Z (.int L.length):=by simp
 let p:=Qv (L.length:Int) (Lk<|Ky L) ∅;rw[GR]at p;let u:=ZB ((Bt L.length).map λk:Nat=>D.int k) (by simp;lia);let w:EI [.lst<|s.map aD]=Z (Ai s):=rfl;let x:Au (.lst<|e.map D.int) (.int 4)=Z (.int<|e.getD 4 0):=GC (Ry 4) ∅;let y:Au (.lst<|e.map D.int) (.int 5)=Z (.int<|e.getD 5 0):=GC (Ry 5) ∅;generalize e.getD 5 0=i,e.getD 4 0=l at *;let z:=CM l 7 (by ext);let m2:=CM l 2 (by ext);let n:=CM c (10^30) (by ext);let A:=CM i 4 (by ext);let P:=Iu i (show(4:Int)≠0 by ext);let F:=Jj i (show(0:Int)<4 by ext);generalize c%10^30=g,l%2=B,l%7=C,i%4=j at *;obtain⟨v,E⟩:∃v,Au (.lst [.int<|C-3,.int g,.int<|0-g,.int B]) (.int j)=Z (.int v):=by
  rcases(show j=0\/j=1\/j=2\/j=3 by lia)with q|q|q|q<;>rw[q]
  .show#[_,rfl]
  .show#[_,rfl]
  .show#[_,rfl]
  .show#[_,rfl]
 apply#[(s,v),m,?_];change _=Z (Rv.val<|.tup [Ai s,.int v])
 generalize L.map LD=K,e.map D.int=W,(Bt L.length).map (λk:Nat=>D.int k)=M,Ai s=S,s.map aD=N at *;apply ZF rfl ?_;change UW [#v[K],‹c›,.no,.no]=_
 rwa[UW,show ZP [‹c›,‹6›]=Z #v[W]from t,Zh,show Zv 1 [0,2] [#v[K],‹c›,#v[W],.no]=[.no,#v[K],#v[W]]from rfl,f,p,u,o,w,x,y,show KV (.int 10) (.int 30)=Z (.int<|10^30)from wY (by ext),z,m2,n,A,show ∀a b c d:D,Zf (Z [a,b,c,d])=Z [a,b,c,d]from λ_ _ _ _=>ZB _ (by simp),E]
abbrev wh(a:BG):Nat:=(a.headD []).length
def Iw(p:Nat):D->Bool
 |.int i=>decide (0<=i)&&decide (i<=(p:Int))
 |_=>O'
theorem GL.wh{a:BG}{p:Nat}(h:GL a p):wh a=p:=by
 let b:=h.n1;cases a with
 |nil=>simp at b
 |cons l r=>show h.len l Ba
theorem iQ{a:BG}{p:Nat}(h:GL a p):OE [.val (LD a)]=Z ‹(wh a:Int)›:=by
 let c:=h.n1;cases a with|nil=>simp at c|cons l a=>
  let b:Zp [Ai l]=Z (.int ((l.map aD).length:Int)):=rfl;rw[Bn]at b;simp only[OE,A7,Ck,HU,HH,if_true,cH,Ly,Lz,D1,Zk,Za,Bo,FK,Df,Au,show atI ((l::a).map Ai) 0=Z (Ai l)from Zz (j:=0) rfl,EV,El,Zr,Ho,pk,b,Zx,Ze];rfl
theorem yJ{a:BG}{p:Nat}(h:GL a p)(d:D)(hd:Sm d):UQ [.val (LD a),.val d]=Z (.val (.bl (Iw (wh a) d))):=by
 let b:=O3 d hd;let c:=iQ h;generalize (wh a)=n at *;cases d with
 |int i=>
  rw[show EO (.int i)=J' from rfl]at b;apply ZF rfl ?_;change OO [.val<|LD a,‹i›]=_
  unfold Iw;rwa[OO,b,IJ,show HX (.int 0) (.int i)=Z (.bl<|decide<|0<=i)from rfl];cases decide (0<=i)with
  |true=>rwa[c,show HX (.int i) (.int n)=Z (.bl<|decide<|i<=(n:Int))from rfl,Cs,Bool.true_and]
  |false=>rwa[Cs,Bool.false_and]
 |_=>
  apply ZF rfl ?_;change OO [.val<|LD a,.val _]=_
  rwa[OO,show Z1 [.val _]=Z (.val<|.bl O')from b,Cs,Iw]
abbrev RY(L:A2)(a:U D):Bool:=((L.zip a).map λq=>Iw (wh q.1) q.2).all id
theorem iR(bs:U Bool):JR (bs.map D.bl)=Z bs:=by
 simp_all
theorem iS:∀(L:A2)(b:U D),GV (λx y=>D.tup [x,y]) (L.map LD) b=(L.zip b).map λq=>D.tup [LD q.1,q.2]
 |[],_=>by simp
 |_::_,[]=>by simp
 |a::L,z::b=>by simp[iS L b]
theorem yK{L:A2}(h:Ci L)(a:U D)(hz:∀z∈a,Sm z)(i:a.length=L.length):QX [#v[L.map LD],.val (.tup a)]=Z (.val (.bl (RY L a))):=by
 let m:=h.n4;let c:=ZA (b:=Z6 2<|Zq (Zc 0)<|Zq (Zc 1) Z8) (e:=U4) (ρ:=[.no,.no]) (λq:U (U At)×D=>D.tup [LD q.1,q.2]) (λq=>D.bl<|Iw (wh q.1) q.2) (L.zip a) λq f=>#[[.val<|LD q.1,.val q.2],rfl,by
  let(p,j):=h.good q.1 (Nx f).1;have:=yJ j q.2<|hz _ (Nx f).2;rwa[U4,this]]
 rw[show(L.zip a).map (λq=>D.bl<|Iw (wh q.1) q.2)=((L.zip a).map λq=>Iw (wh q.1) q.2).map D.bl by rw[CC];rfl]at c;let k:FC [.lst<|((L.zip a).map λq=>Iw (wh q.1) q.2).map D.bl]=Z (.bl<|RY L a):=by
  erw[FC,iR,El]
 let g:=ZB ((L.zip a).map λq=>D.tup [LD q.1,q.2]) (by simp;lia);let l:Zp [.lst<|L.map LD]=Z (.int ((L.map LD).length:Int)):=rfl;let d:Co (.int a.length) (.int ((L.map LD).length:Int))=Z (.bl O'):=by rw[i,Bn];simp
 rw[<- (iS L a)]at c g;generalize L.map LD=W,((L.zip a).map λq=>Iw (wh q.1) q.2).map D.bl=o at *;apply ZF rfl ?_;change U5 [#v[W],.val<|.tup a]=_
 rwa[U5,show CJ [.tup a,.ty "tuple"]=Z (.bl J')from rfl,show ∀b,ZV (Z<|.bl b)=Z b from λ_=>rfl,show Zp [.tup a]=Z (.int a.length)from rfl,l,d,Zh,Fg,GU,show Zv 2 [] [#v[W],.val<|.tup a]=[.no,.no]from rfl,g,c,k]
def Nb(L:A2)(g:U Nat):Prop:=g.length=L.length/\∀q∈L.zip g,q.2<=wh q.1
theorem iT:∀{L:A2}{g:U Nat},(∀q∈L.zip g,q.2<=wh q.1)->RY L (g.map λj:Nat=>D.int j)=J'
 |[],_,_=>by simp
 |_::_,[],_=>by simp
 |b::L,j::g,h=>by
  let c:=iT (L:=L) (g:=g) λq a=>h q<|Bg _ a;simp_all [Iw,wh,RY,Int.ofNat_le]
theorem iU{L:A2}(h:Ci L){g:U Nat}(a:Nb L g):QX [#v[L.map LD],.val (Az g)]=Z (.val (.bl J')):=by
 have:=yK h (g.map λj:Nat=>D.int j) (λz b=>by let(j,_,rfl):=Bi.mp b;trivial) (by rw[Bn];show a.1);rw[iT a.2]at this;grind
abbrev gk(g:U Nat):U At:=g.map λj:Nat=>At.int j
theorem GG(g:U Nat):Ai (gk g)=Az g:=by unfold Ai gk;rw[CC];rfl
theorem O8:∀{g g':U Nat},gk g=gk g'->g=g'
 |[],[],_=>rfl
 |[],_::_,h=>by simp at h
 |_::_,[],h=>by simp at h
 |a::g,b::g',h=>by
  erw[gk,AU,List.cons.injEq,At.int.injEq]at h;rw[O8 (g:=g) (g':=g') h.2,Int.ofNat.inj h.1]
abbrev A5(L:A2)(rs:U Row)(gs:U (U Nat)):Bv:=gs.map λg=>(.tup (gk g),.lst (Dn L g rs))
section
variable(L:A2)(rs:U Row)
theorem WM(k:U At)(gs:U (U Nat)):DN (.tup k) (A5 L rs gs)=J':=K5 k λp a=>by
 let(g,_,rfl):=Bi.mp a;rfl
theorem RZ:∀(gs:U (U Nat))(g:U Nat),Zu (A5 L rs gs) (.tup (gk g))=if g∈gs then Z (.lst (Dn L g rs))else J
 |[],g=>by simp[Zu]
 |x::gs,g=>by
  let a:=RZ gs g;erw[AU,Zu,KT.tup.injEq];by_cases e:x=g
  .subst e;simp
  .rw[if_neg<|λz=>e<|O8 z,a];simp[Bz e]
theorem iV(neg:Bool)(gs:U (U Nat))(g:U Nat):DO neg (Az g) (.lst (Zb (A5 L rs gs)) .d)=Z (.bl (neg != decide (g∈gs))):=by
 let hok:=GD<|gk g;rw[GG]at hok;rw[N5,hok];show(if DN (.tup<|gk g) (A5 L rs gs)=J' then _ else _)=_
 rw[if_pos<|WM L rs _ gs,RZ];grind
theorem WN{g:U Nat}(h:g∈gs):D5 (.lst (Zb (A5 L rs gs)) .d) (Az g)=Z (.lst (Dn L g rs)):=by
 let hok:=GD<|gk g;simp_all [GG,gk,A5,WM,RZ]
theorem yL(gs:U (U Nat)):MJ [.lst (Zb (A5 L rs gs)) .d]=Z (.int gs.length):=by
 have:(A5 L rs gs).all (λp=>!Ev p.1)=J':=by rw[List.all_map,DK];show λe _=>rfl
 rwa[MJ,Ga,this,Bn]
theorem yM{g:U Nat}(h:g∉gs):ZW (A5 L rs gs) (.tup (gk g)) (.lst (Dn L g rs))=A5 L rs (gs++[g]):=by
 unfold ZW;grind [RZ]
theorem iW(gs:U (U Nat)):((A5 L rs gs).map λp=>kD p.1)=gs.map Az:=by
 rw[CC];show List.map_congr_left λg _=>GG g
end
abbrev FN:U Af:=["axes","standing","tables"]
abbrev kB:Kd:=.i FN "Book"
abbrev BJ(L:A2)(R:U D)(t:Nat):Cl:=.mix kB [#v[L.map LD],#v[R],.cel t]
abbrev BD(L:A2)(R T:U D):D:=.lst [.lst (L.map LD),.lst R,.lst T .d] kB
theorem yN:(("tables":Af)=="axes")=O':=by symm
theorem yO:(("tables":Af)=="standing")=O':=by symm
section
variable{L:A2}{R T:U D}{G:Gh}{b t:Nat}
theorem Nc:DQ "Book" "axes" (BD L R T)=Z (.lst (L.map LD)):=rfl
theorem WP:DQ "Book" "standing" (BD L R T)=Z (.lst R):=rfl
theorem Sa:DQ "Book" "tables" (BD L R T)=Z (.lst T .d):=rfl
theorem Nd(m:Nat)(a:m≠0)(c:G[b]?=Z (BJ L R t))(e:G[t]?=Z (.dat .d T)):DS m G (.cel b)=.val (BD L R T):=by
 simp_all
theorem iX{xs:U IV}(a:G[b]?=Z (BJ L R t)):Qp "Book" "tables" (xs,G) (Z b)=Z t:=by simp_all [List.lookup,yN,yO]
end
abbrev En(n:Nat)(v:At)(q l:U At):U At:=if l.getD n .non=v then l.take (n+1)++q.drop (n+1)else l
def rgp(a:BG)(n:Nat)(v:At)(q:U At):BG:=a.map (En n v q)
theorem iY{p n m:Nat}{v:At}{q l:U At}(b:l.length=p)(c:n+1<p)(a:m<=n):(En n v q l)[m]?=l[m]?:=by
 unfold En;split
 .rw[D9 (by rw[Kz];lia),XO<|Nat.lt_succ_of_le a]
 .rfl
theorem Sc{p n m:Nat}{v:At}{q l:U At}(b:l.length=p)(c:n+1<p)(a:n<m):(En n v q l)[m]?=(if l.getD n .non=v then q else l)[m]?/\(En n v q l).drop (m+1)=(if l.getD n .non=v then q else l).drop (m+1):=by
 split
 .let e:(l.take<|n+1).length=n+1:=by rw[Kz];lia
  constructor
  .rw[Fp<|le_of_eq_of_le e a,e,LZ];congr 1;show NA a
  .rw[List.drop_append,e,L0 ∅,List.drop_drop,DU];congr 1;lia
 .show#[rfl,rfl]
theorem yP{p n:Nat}{v:At}{q l:U At}(a:l.length=p)(b:q.length=p)(c:n+1<p):(En n v q l).length=p:=by
 unfold En;split
 .rw[Ea,Kz,List.length_drop];lia
 .show a
theorem yQ{n:Nat}{v:At}{q l:U At}(b:1<=l.length):hd (En n v q l)=hd l:=by
 unfold En;split
 .cases l with
  |nil=>simp at b
  |cons a r=>rfl
 .rfl
theorem WQ{a:BG}{n:Nat}{v:At}{q:U At}(h:∀l∈a,1<=l.length):(rgp a n v q).map hd=a.map hd:=by
 rw[rgp,CC];show List.map_congr_left λl b=>yQ<|h l b
theorem GL.rgp{o:BG}{p n:Nat}(h:GL o p)(e:n+1<p)(v:At){q:U At}(w:q∈o):GL (rgp o n v q) p:=by
 let F:=h.fn;let s:∀l∈o,(if l.getD n .non=v then q else l)∈o:=λl f=>by split<;>assumption
 apply#[by simpa[Internal.K53.rgp]using h.n1,by simpa[Internal.K53.rgp]using h.n6,h.p1,h.p4,λx g=>?_,λx g a c=>?_,?_,?_]
 .let(l,f,rfl):=Bi.mp g;show yP (h.len l f) (h.len q w) e
 .let(l,f,rfl):=Bi.mp g;unfold En at c;split at c
  .rcases Cj.mp c with c|c
   .show h.val l f a<|List.mem_of_mem_take c
   .show h.val q w a<|List.mem_of_mem_drop c
  .show h.val l f a c
 .rw[WQ λl f=>by rw[h.len l f];show h.p1];show h.hdn
 .apply λy z A B m a r t=>?_;let(l1,j,rfl):=Bi.mp z;let(i,k,rfl):=Bi.mp B;by_cases b:m<=n
  .rw[iY (h.len l1 j) e b]at r;rw[iY (h.len i k) e b]at t;let d:=F l1 j i k m a r t;let C:l1.getD n .non=i.getD n .non:=by
    rcases Ew m n with E|u
    .have:=congrArg (λl=>l[n-(m+1)]?) d;erw[LZ]at this;rw[show m+1+(n-(m+1))=n by lia]at this;erw[DP,this]
    .obtain rfl:m=n:=MC b u;erw[DP,r,t]
   unfold En;rw[C];split
   .rw[List.drop_append_of_le_length (by rw[Kz,h.len l1 j];lia),List.drop_append_of_le_length (by rw[Kz,h.len i k];lia),List.drop_take,List.drop_take,d]
   .show d
  .let b:n<m:=K8 b;rw[(Sc (h.len l1 j) e b).1]at r;rw[(Sc (h.len i k) e b).1]at t;rw[(Sc (h.len l1 j) e b).2,(Sc (h.len i k) e b).2];show F _ (s l1 j) _ (s i k) m a r t
theorem G8(b:Bool):ZV (Z (.bl b))=Z b:=rfl
def O9(n:Nat):D->Bool
 |.int i=>decide (0<=i)&&decide (i<(n:Int))
 |_=>O'
theorem yR(L:U D)(d:D)(hd:Sm d):UP [#v[L],.val d]=Z (.val (.bl (O9 L.length d))):=by
 let a:=O3 d hd;cases d with
 |int i=>
  rw[show EO (.int i)=J' from rfl]at a;apply ZF rfl ?_;change ON [#v[L],‹i›]=_
  unfold O9;rwa[ON,a,IJ,show HX (.int 0) (.int i)=Z (.bl<|decide<|0<=i)from rfl];cases decide (0<=i)with
  |true=>rwa[show Zp [.lst L]=Z (.int L.length)from rfl,show Dj (.int i) (.int L.length)=Z (.bl<|decide<|i<(L.length:Int))from rfl,Cs,Bool.true_and]
  |false=>rwa[Cs,Bool.false_and]
 |_=>
  apply ZF rfl ?_;change ON [#v[L],.val _]=_
  rwa[ON,show Z1 [.val _]=Z (.val<|.bl O')from a,Cs,O9]
theorem yS{n k:Nat}(h:k<n):O9 n (.int k)=J':=by
 unfold O9;simp;show Nat.lt_of_succ_le h
theorem yT(L:U D)(k:Nat){d:D}(h:L[k]?=Z d):U3 [#v[L],‹k›]=Z (.val d):=by
 let a:=yR L (.int k) trivial;rw[yS<|(Cm.mp h).1]at a;apply ZF rfl ?_;change U2 [#v[L],‹k›]=_
 rwa[U2,a,G8,show Au (.lst L) (.int k)=Z d from Zz h]
def Pa(p:Nat):D->Bool
 |.int i=>decide (0<=i)&&decide (i<=(p:Int)-2)
 |_=>O'
theorem yU{a:BG}{p:Nat}(h:GL a p)(d:D)(hd:Sm d):QP [.val (LD a),.val d]=Z (.val (.bl (Pa p d))):=by
 let b:=O3 d hd;let c:=iQ h;rw[h.wh]at c;cases d with
 |int i=>
  rw[show EO (.int i)=J' from rfl]at b;apply ZF rfl ?_;change OP [.val<|LD a,‹i›]=_
  unfold Pa;rwa[OP,b,IJ,show HX (.int 0) (.int i)=Z (.bl<|decide<|0<=i)from rfl];cases decide (0<=i)with
  |true=>rwa[c,show HX (.int i) (.int<|(p:Int)-2)=Z (.bl<|decide<|i<=(p:Int)-2)from rfl,Cs,Bool.true_and]
  |false=>rwa[Cs,Bool.false_and]
 |_=>
  apply ZF rfl ?_;change OP [.val<|LD a,.val _]=_
  rwa[OP,show Z1 [.val _]=Z (.val<|.bl O')from b,Cs,Pa]
theorem yV{p n:Nat}(h:n+1<p):Pa p (.int n)=J':=by
 unfold Pa;simp;lia
theorem Ng{l:U At}(h:j<l.length):Au (Ai l) (.int j)=Z (aD (l.getD j .non)):=by
 show Zz (show(l.map aD)[j]?=Z (aD<|l.getD j .non) by simp[DP,h])
theorem iZ(l:U At)(n:Nat):Fz (Ai l) J (Z ((n:Int)+1))=Z (Ai (l.take (n+1))):=by
 change Z (D.tup<|Fc (l.map aD) J<|some<|(n:Int)+1)=_
 rw[Us _ _ ∅,<- List.map_take,show((n:Int)+1).toNat=n+1 by show h6];rfl
theorem WR(a b:U At)(h:a.length+b.length<=1000):Zo (Ai a) (Ai b)=Z (Ai (a++b)):=by
 show(if(a.map aD).length+(b.map aD).length<=AB then Z (D.tup<|a.map aD++b.map aD)else J)=_
 rw[if_pos (show(a.map aD).length+(b.map aD).length<=AB by simp;show Bu h (by ext)),<- DM];rfl
theorem yW{a:BG}{p n:Nat}(h:GL a p)(i:n+1<p){l q:U At}(s:l∈a)(f:q∈a):Wc [.val (LD a),‹n›,.val (aD (l.getD n .non)),.val (aD (q.getD (n+1) .non))]=Z (.own ((rgp a n (l.getD n .non) q).map Ai)):=by
 let u:=yU h (.int n) trivial;rw[yV i]at u;let y:∀(x:U At) (j:Nat),x∈a->j<p->Sm (aD<|x.getD j .non)/\(Jf (aD<|x.getD j .non)=J'\/x.getD j .non=.non):=λx j d H=>by
  let z:x.getD j .non∈x:=by simp[DP,show j<x.length by rw[h.len x d];show H]
  show#[(h.val x d _ z).2,.inl (h.val x d _ z).1]
 let A:=WL h n _<|y l n s<|Fe i;rw[decide_eq_true ⟨l,s,rfl⟩]at A;let B:=WL h (n+1) _<|y q (n+1) f i;rw[decide_eq_true ⟨q,f,rfl⟩]at B;generalize Y:l.getD n .non=v at *;generalize C:q.getD (n+1) .non=w at *;let lt:∀x∈a,n+1<x.length:=λx d=>h.len x d ▸ i;let k:=Na (b:=Zc 0) (t:=VZ) (e:=V0) (ρ:=[.no,‹n›,.val<|aD w]) Ai (λx=>Ai<|x.drop<|n+1) (λx=>decide<|x.getD (n+1) .non=w) a λx d=>#[[.val<|Ai x,‹n›,.val<|aD w],rfl,by
  let F:Au (Ai x) (.int<|(n:Int)+1)=Z (aD<|x.getD (n+1) .non):=Ng<|lt x d;let i2:=WF x n;apply#[?_,?_]
  .rwa[VZ,F,CG,FJ,Lv,Lu]
  .rwa[V0,Eu,EG,i2]]
 let same:∀x∈a,x.getD (n+1) .non=w->x.drop (n+1)=q.drop (n+1):=λx d e=>by
  let a1:x[n+1]?=Z w:=by rw[<- e];simp[DP,lt x d]
  let g:q[n+1]?=Z w:=by rw[<- C];simp[DP,lt q f]
  rw[HV<|lt x d,HV<|lt q f,h.fn x d q f (n+1) w a1 g];congr 1;rw[Ch<|lt x d]at a1;rw[Ch<|lt q f]at g;show EE<|a1.trans g.symm
 obtain⟨r,m⟩:∃r,a.filter (λx=>decide<|x.getD (n+1) .non=w)=r:=#[_,rfl];let L:∀x∈r,x.drop (n+1)=q.drop (n+1):=λx d=>by
  rw[<- m]at d;let(N,K):=GH.mp d;show same x N<|of_decide_eq_true K
 let Q:q∈r:=m ▸ GH.mpr #[f,decide_eq_true C];rw[m]at k;let T:Au (.lst<|r.map λx=>Ai<|x.drop<|n+1) (.int 0)=Z (Ai<|q.drop<|n+1):=by
  cases r with
  |nil=>cases Q
  |cons x t=>rw[AU,L x Ba];show hW _ _
 let o:=ZA (b:=Zc 0) (e:=Wa) (ρ:=[.no,‹n›,.val<|aD v,.val<|Ai<|q.drop<|n+1]) Ai (λx=>Ai<|En n v q x) a λx d=>#[[.val<|Ai x,‹n›,.val<|aD v,.val<|Ai<|q.drop<|n+1],rfl,by
  let P:=WR (x.take<|n+1) (q.drop<|n+1) (by have:=h.len x d;have:=h.len q f;have:=h.p4;simp;lia);unfold En;rwa[Wa,Ng<|Fe<|lt x d,CG,FJ,Lv,Lu,KR];by_cases c:x.getD n .non=v
  .rw[decide_eq_true c,if_pos c];rwa[Eu,EG,iZ x n,P]
  .rw[decide_eq_false c,if_neg c]]
 let E:=ZB (a.map Ai) (by rw[Bn];have:=h.n6;lia);rw[show a.map (λx=>Ai<|En n v q x)=(rgp a n v q).map Ai by rw[rgp,CC];rfl]at o;let G:QP [#v[a.map Ai],‹n›]=Z (.val<|.bl J'):=u;let a1:Kf [#v[a.map Ai],‹n›,.val<|aD v]=Z (.val<|.bl J'):=A;let g:Kf [#v[a.map Ai],‹(n:Int)+1›,.val<|aD w]=Z (.val<|.bl J'):=B;apply ZF rfl ?_;change Wb [#v[a.map Ai],‹n›,.val<|aD v,.val<|aD w,.no]=_
 generalize a.map Ai=M at G a1 g E k o ⊢;rwa[Wb,eZ,eQ,G,G8,eY,eR,a1,eX,eS,g,eW,eT,Zh,show Zv 1 [1,3] [#v[M],‹n›,.val<|aD v,.val<|aD w,.no]=[.no,‹n›,.val<|aD w]from rfl,E,k,T,eV,eU,show Zv 1 [1,2,4] [#v[M],‹n›,.val<|aD v,.val<|aD w,.val<|Ai<|q.drop<|n+1]=[.no,‹n›,.val<|aD v,.val<|Ai<|q.drop<|n+1]from rfl,o,Dh]
theorem yX:FN.contains "keep"=O':=by symm
section
variable{L:A2}{R T:U D}{G:Gh}{b t:Nat}{x:D}
variable(h0:G[b]?=Z (BJ L R t))(ht:G[t]?=Z (.dat .d T))
include h0 ht
theorem i0:vw 2 ([.cel b,.val x],G)=[.val (BD L R T),.val x]:=by simp_all [AU,CW]
end
theorem yY{L:A2}{g:U Nat}(e:g.length=L.length){a:U Row}(b:∀r∈a,AO L r.1):∀r∈DH (qs L g) a,r.1.length=L.length:=λr h=>by
 let(c,d,rfl):=Bi.mp h;have:=(b c d).len;simp_all [qs,LB]
abbrev Cq(L:A2)(g:U Nat)(a:U Row):U Be:=E1 (DH (qs L g) a) []
theorem Kn{L:A2}{g:U Nat}(b:g.length=L.length){a:U Row}(c:∀r∈a,AO L r.1):Bj (Cq L g a) L.length a.length:=by
 have:=Bj.tab (DH (qs L g) a) (Bj.nil L.length)<|yY b c;rw[IX,show(DH (qs L g) a).length=a.length from Bn _]at this;grind
theorem Gf(m:Nat)(k:U At):BF m (Ai k)=J':=by
 show Gz λd hd=>by let(a,_,rfl):=Bi.mp hd;cases a<;>rfl
theorem i4(a b:U At):AS (Ai a) (Ai b)=decide (a=b):=by simp_all [Ai,Wp]
theorem yZ(n:Nat)(g:U Nat):A1 (n+1) (Az g)=J':=by rw[<- GG];show Lw n _
abbrev zg(L:A2):U Nat:=L.map λ_=>0
theorem i5(L:A2):Kj L=Az (zg L):=by
 simp_all
theorem ZD{G:Gh}{b t:Nat}{c:Cl}(a:b≠t):(G.set t c)[b]?=G[b]?:=Dy<|Bz a
theorem EB{G:Gh}{t:Nat}{c d:Cl}(h:G[t]?=Z d):(G.set t c)[t]?=Z c:=ER (Cm.mp h).1
theorem i6(L:A2)(g:U Nat)(rs:U Row):BF 1 (.lst (Dn L g rs))=J':=by
 show Gz λd hd=>by
  let(k,_,rfl):=Bi.mp hd;have:∀k:U At,BF 1 (Ai k)=J':=λk=>by
   show Gz λd hd=>by let(a,_,rfl):=Bi.mp hd;cases a<;>rfl
  show(BF 1 (Ai k)&&(BF 1 (vC _)&&J'))=J'
  rw[this];rfl
section
variable{L:A2}{G:Gh}{b t:Nat}{rs:U Row}{g:U Nat}
variable(h:Ci L)(hg:Nb L g)(h0:G[b]?=Z (BJ L (rs.map Zd) t))(ht:G[t]?=Z (.dat .d (Zb (A5 L rs gs))))
include h hg h0 ht
theorem i7{gs':U (U Nat)}(h0:G'[b]?=Z (BJ L (rs.map Zd) t))(ht:G'[t]?=Z (.dat .d (Zb (A5 L rs gs'))))(a:g∈gs'):VT ([.cel b,.val (Az g)],G')=.ret ‹((Dn L g rs).length:Int)› G':=by
 let c:=Sa (L:=L) (R:=rs.map Zd) (T:=Zb<|A5 L rs gs');let hd:=WN L rs a;let v:=i0 (x:=Az g) h0 ht;generalize Dn L g rs=Y,Az g=e,D.lst (Zb<|A5 L rs gs') .d=TT,BD L (rs.map Zd) (Zb<|A5 L rs gs')=B at *;erw[VT,eP,v,Zk,Za,Zr,Bo,FD,FK,Df,El,EV,c,hd,Ho,pk,show Zp [.lst Y]=Z (.int Y.length)from rfl,jE,jO,show ∀i,BF 2 (.int i)=J' from λ_=>rfl,if_true,xD,Ek,Zw]
theorem y0(a:g∈gs):Rk [.cel b,.val (Az g)] G=Z (‹((Dn L g rs).length:Int)›,G):=by
 let f:=iU h hg;let i:=i7 h hg h0 ht h0 ht a;let l1:=Nc (L:=L) (R:=rs.map Zd) (T:=Zb<|A5 L rs gs);let j:=Sa (L:=L) (R:=rs.map Zd) (T:=Zb<|A5 L rs gs);let c:=iV L rs J' gs g;rw[decide_eq_true a]at c;let v:=i0 (x:=Az g) h0 ht;generalize Az g=k,D.lst (Zb<|A5 L rs gs) .d=TT,BD L (rs.map Zd) (Zb<|A5 L rs gs)=B at *;let e:OY ([.cel b,.val k],G)=.ret ‹((Dn L g rs).length:Int)› G:=by
  erw[OY,VV,VU,VR,v,Zi,Zr,Ft,Bo,FD,FK,Df,El,EV,l1,f,Uw,G8,Cy,KZ,jT,EN,VS,Za,j,c,AV,bne_self_eq_false,Zw,i]
 show G9 (fi rfl e) rfl
theorem y1(p:∀r∈rs,AO L r.1)(q:rs.length<500)(j:b≠t)(o:g∉gs)(s:gs.length<12):Rk [.cel b,.val (Az g)] G=Z (‹((Dn L g rs).length:Int)›,G.set t (.dat .d (Zb (A5 L rs (gs++[g]))))):=by
 let u:=iU h hg;let a:=i7 (gs':=gs++[g]) (G':=G.set t<|.dat .d<|Zb<|A5 L rs<|gs++[g]) h hg h0 ht (by rw[ZD j];show h0) (EB ht) (by simp);let l1:=Nc (L:=L) (R:=rs.map Zd) (T:=Zb<|A5 L rs gs);let w:=Sa (L:=L) (R:=rs.map Zd) (T:=Zb<|A5 L rs gs);let x:=WP (L:=L) (R:=rs.map Zd) (T:=Zb<|A5 L rs gs);let y:DO J' (Az g) (.lst (Zb<|A5 L rs gs) .d)=Z (.bl J'):=by rw[iV,decide_eq_false o];rfl
 let z:=yL L rs gs;let c:=yM L rs o;let k:=Ga<|A5 L rs gs;let hok:=GD<|gk g;rw[GG]at hok;let l:=WM L rs (gk g) gs;let f:(A5 L rs gs).length<AB:=by rw[Bn];show B7 (show gs.length<1000 by lia) (by ext)
 let i:=ix h hg.1 rs p q;let m:=iX (xs:=[.cel b,.val<|Az g]) h0;let A:NO (.int gs.length) (.int 12)=Z (.bl O'):=by
  change Z (D.bl<|decide<|(12:Int)<=(gs.length:Int))=_
  rw[decide_eq_false ∅]
 let C:=i6 L g rs;let E:=Nd 2 (by ext) h0 ht;let H:=Nd 1 (by ext) h0 ht;generalize A5 L rs (gs++[g])=n at *;generalize Az g=v,Dn L g rs=Y,rs.map Zd=R,A5 L rs gs=M,BD L (rs.map Zd) (Zb<|A5 L rs gs)=B at *;suffices e:OY ([.cel b,.val v],G)=.ret ‹Y.length› (G.set t<|.dat .d<|Zb n)from G9 (fi rfl e) rfl
 rwa[OY,VV,VR,E,l1,u,G8,VU,VS,H,w,x,y,z,A,i,Ka,C,m,Qs,ht,k,hok,l,f,c,a]
end
def BI(a b:U Nat):Bool:=AQ (gk a) (gk b)
theorem y3:TO BI:=#[λa b h=>C3.asym _ _ h,λa b c h=>C3.neg _ _ _ h,λa b d e=>O8<|C3.anti _ _ d e]
abbrev WT(g:U Nat):U D:=g.map λj:Nat=>D.int j
theorem i8(n:Nat):∀a b:U Nat,F8 (ltN n) (WT a) (WT b)=Z (BI a b)
 |[],[]=>rfl
 |[],_::_=>rfl
 |_::_,[]=>rfl
 |i::a,j::b=>by
  let d:=i8 n a b;unfold BI at d ⊢;rwa[WT,gk,F8,AQ,A1,FJ]at d ⊢;by_cases c:i=j
  .subst c;erw[show∀i:Int,AS (.int i) (.int i)=J' from λi=>beq_self_eq_true i,if_true,d]
  .let e:¬ (i:Int)=(j:Int):=Nat.ToInt.of_diseq rfl rfl c;simp_all [Em]
theorem i9(h:gs.length<500)(c:∀g∈gs,g≠[]):Hz HF (gs.map Az)=Z ((Zm BI gs).map Az):=Wv Az y3 J' gs h Az (λ_ _=>rfl) (λg d=>by
  cases g with
  |nil=>show absurd rfl<|c _ d
  |cons a r=>show#[_,_,rfl]) λa _ b _=>i8 5 a b
theorem WU(a:BG):BF 1 (LD a)=J':=by
 show(!vk 1 .l&&C0 1 (a.map Ai))=J'
 rw[Gz λd hd=>by let(l,_,rfl):=Bi.mp hd;show Gf 1 l];rfl
theorem Sd(L:A2):C0 1 (L.map LD)=J':=Gz λd hd=>by let(l,_,rfl):=Bi.mp hd;show WU l
theorem WV(L:A2)(rs:U Row):∀gs:U (U Nat),C0 1 (Zb (A5 L rs gs))=J'
 |[]=>rfl
 |g::gs=>by
  show(BF 1 (Ai<|gk g)&&(BF 1 (.lst<|Dn L g rs)&&C0 1 (Zb<|A5 L rs gs)))=J'
  rw[Gf,i6,WV L rs gs];rfl
theorem ja{L:A2}(h:Ci L)(rs:U Row)(j:∀r∈rs,AO L r.1)(k:rs.length<500)(gs:U (U Nat))(l:gs.Nodup)(m:∀g∈gs,g.length=L.length)(n:gs.length<=12):Rj [#v[L.map LD],#v[rs.map Zd],#v[gs.map Az]]=Z (.own (Zb (A5 L rs gs)) .d):=by
 let f:=ZA (b:=Zc 0) (e:=VP) (ρ:=[.no,#v[L.map LD],#v[rs.map Zd]]) Az (λg=>G6 (gk g,.lst<|Dn L g rs)) gs λg o=>#[[.val<|Az g,#v[L.map LD],#v[rs.map Zd]],rfl,by
  let p:=ix h (m g o) rs j k;change _=Z (D.tup [Ai<|gk g,.lst<|Dn L g rs])
  rw[GG];rwa[VP,p,Ka]]
 rw[show gs.map (λg=>G6 (gk g,.lst<|Dn L g rs))=(gs.map λg=>((gk g,.lst<|Dn L g rs):KE)).map G6 by rw[CC];rfl]at f;let i:=RW (gs.map λg=>((gk g,.lst<|Dn L g rs):KE)) [] (by
  rw[DU,CC];show List.pairwise_map.mpr<|l.imp λa e=>a<|O8 e) (by simp;lia)
 rw[DU,show B0 (gs.map λg=>((gk g,.lst<|Dn L g rs):KE))=A5 L rs gs by unfold B0;rw[CC];rfl]at i;let q:=ZB (gs.map Az) (by simp;lia);let c:HA [] ((gs.map λg=>((gk g,.lst<|Dn L g rs):KE)).map G6)=Z (A5 L rs gs):=i;generalize L.map LD=W,rs.map Zd=R,gs.map Az=s,(gs.map λg=>((gk g,.lst<|Dn L g rs):KE)).map G6=Y,A5 L rs gs=t at *;apply ZF rfl ?_;change VQ [#v[W],#v[R],#v[s]]=_
 rwa[VQ,IZ,Zh,q,show Zv 1 [0,1] [#v[W],#v[R],#v[s]]=[.no,#v[W],#v[R]]from rfl,f,c,JJ]
def Dd(L L':A2)(rs rs':U Row)(a:U (U Nat)):U D:=a.flatMap λg=>(DJ (B5 (Cq L g rs)) (B5 (Cq L' g rs'))).map λk=>D.tup [Az g,Ai k]
section
variable{L L':A2}{rs rs':U Row}(h:Ci L)(h':Ci L')(hL:L.length=L'.length)(hr:∀r∈rs,AO L r.1)(hr':∀r∈rs',AO L' r.1)(hl:rs.length+rs'.length<500)(hg:∀g∈gs,g.length=L.length)
include h h' hL hr hr' hl
theorem y8{g:U Nat}(hg:g.length=L.length):Rf [#v[Dn L g rs],#v[Dn L' g rs']]=Z (.own ((DJ (B5 (Cq L g rs)) (B5 (Cq L' g rs'))).map Ai))/\(DJ (B5 (Cq L g rs)) (B5 (Cq L' g rs'))).length<500:=by
 let i:=h.n4
 let f:=h.n1
 let ok:=Kn hg hr
 let a:=Kn (hg.trans hL) hr'
 let p:=Zy AQ (Zg (Cq L g rs))
 let c:=Zy AQ (Zg (Cq L' g rs'))
 let l1:(Zg (Cq L g rs)).length<=rs.length:=by unfold Zg;rw[Bn];show ok.len
 let j:(Zg (Cq L' g rs')).length<=rs'.length:=by unfold Zg;rw[Bn];show a.len
 have:=yh (B5 (Cq L g rs)) (B5 (Cq L' g rs')) (by rw[Iv];show p.nodup_iff.mpr ok.nd) (by rw[Iv];show c.nodup_iff.mpr a.nd) (iB _) (iB _) (Zm AQ (Zg (Cq L g rs))++Zm AQ (Zg (Cq L' g rs')))
  (λe d=>Ks _ (by rw[<- Iv];show Fh d)) (λe d=>De _ (by rw[<- Iv];show Fh d)) (by rw[Ea,p.length_eq,c.length_eq];lia) λk b=>by
   have:k.length=L.length:=by
    rcases Cj.mp b with b|b
    .show ok.kl k (p.mem_iff.mp b)
    .rw[a.kl k (c.mem_iff.mp b),hL]
   show#[λz=>by rw[z]at this;simp at this;lia,∅]
 rw[<- iA,<- iA]at this
 show this
include hg
theorem y9:∀(a:U (U Nat))(acc:U D)(s3:Sl),(∀g∈a,g∈gs)->acc.length+500*a.length<=100000->(∀d∈acc,BF 2 d=J')->∃i,ZK (Zc 3) Rh (a.map Az) [.val (.lst (Zb (A5 L rs gs)) .d),.val (.lst (Zb (A5 L' rs' gs)) .d),.own acc,s3]=.next [.val (.lst (Zb (A5 L rs gs)) .d),.val (.lst (Zb (A5 L' rs' gs)) .d),.own (acc++Dd L L' rs rs' a),i]/\∀d∈acc++Dd L L' rs rs' a,BF 2 d=J':=by
 intro a;induction a with|nil=>show λacc s3 _ _ l=>#[s3,by rw[Dd,List.flatMap_nil,D1];rfl,by rw[Dd,List.flatMap_nil,D1];show l]|cons g a p=>
  intro acc s3 o q l;let j:=o g Ba;let(e,C):=y8 h h' hL hr hr' hl<|hg g j;rw[show Dd L L' rs rs' (g::a)=(DJ (B5<|Cq L g rs)<|B5<|Cq L' g rs').map (λk=>D.tup [Az g,Ai k])++Dd L L' rs rs' a from List.flatMap_cons,<- C8];generalize DJ (B5<|Cq L g rs) (B5<|Cq L' g rs')=c at *;let r:=WN L rs j;let s:=WN L' rs' j;let t:=ZA (b:=Zc 0) (e:=VL) (ρ:=[.no,.val<|Az g]) Ai (λk=>D.tup [Az g,Ai k]) c λk _=>#[[.val<|Ai k,.val<|Az g],rfl,by
   rwa[VL]]
  let u:=ZB (c.map Ai) (by simp;lia);let v:∀d∈(c.map λk=>D.tup [Az g,Ai k]),BF 2 d=J':=λd hd=>by
   let(k,_,rfl):=Bi.mp hd;show(BF 2 (Az g)&&(BF 2 (Ai k)&&J'))=J'
   rw[<- GG,Gf,Gf];rfl
  let f:(c.map λk=>D.tup [Az g,Ai k]).length=c.length:=by simp
  rw[Ck]at q;let m:acc.length+(c.map λk=>D.tup [Az g,Ai k]).length<=AB:=Bu (show _<=100000 by rw[f];lia) (by ext);let w:Rh [.val<|.lst (Zb<|A5 L rs gs) .d,.val<|.lst (Zb<|A5 L' rs' gs) .d,.own acc,.val<|Az g]=.next [.val<|.lst (Zb<|A5 L rs gs) .d,.val<|.lst (Zb<|A5 L' rs' gs) .d,.own<|acc++c.map λk=>D.tup [Az g,Ai k],.val<|Az g]:=by
   generalize Az g=E,D.lst (Zb<|A5 L' rs' gs) .d=y,D.lst (Zb<|A5 L rs gs) .d=z,Dn L g rs=G,Dn L' g rs'=H,(c.map λk=>D.tup [Az g,Ai k])=Y at *;erw[Rh,Zh,show Zv 1 [3] [.val z,.val y,.own acc,.val E]=[.no,.val E]from rfl,Zi,Za,Bo,FD,FK,Df,r,s,EV,El,Zr,e,Ka,Zs,u,t,Mm,D3,if_pos m,GZ,GB,Ze]
  let(i,A,n):=p (acc++c.map λk=>D.tup [Az g,Ai k]) (.val<|Az g) (λx B=>o x<|Bg _ B) (by rw[Ea,f];lia) (λd hd=>by
   rcases Cj.mp hd with hd|hd
   .show l d hd
   .show v d hd)
  apply#[i,?_,n];rw[AU];erw[ZK,show Zc 3 (Az g) [.val<|.lst (Zb<|A5 L rs gs) .d,.val<|.lst (Zb<|A5 L' rs' gs) .d,.own acc,s3]=Z [.val<|.lst (Zb<|A5 L rs gs) .d,.val<|.lst (Zb<|A5 L' rs' gs) .d,.own acc,.val<|Az g]from rfl,w,A]
theorem zc(f:gs.length<=12):VN [.val (.lst (Zb (A5 L rs gs)) .d),.val (.lst (Zb (A5 L' rs' gs)) .d)]=Z (.own (Dd L L' rs rs' (Zm BI gs)))/\C0 2 (Dd L L' rs rs' (Zm BI gs))=J':=by
 let i:=h.n1;let j:MN (Z<|.lst (Zb<|A5 L rs gs) .d)=Z ((Zm BI gs).map Az):=by
  show(EJ<|Zb<|A5 L rs gs).bind (λa=>Hz HF<|a.map λp=>kD p.1)=_
  rw[Ga];change Hz HF ((A5 L rs gs).map λp=>kD p.1)=_
  rw[iW];show i9 ∅ λg b z=>by have:=hg g b;rw[z]at this;simp at this;lia
 let(k,e,c):=y9 h h' hL hr hr' hl hg (Zm BI gs) [] .no (λg b=>(Zy BI _).mem_iff.mp b) (by rw[(Zy BI _).length_eq];simp;lia) (λ_ h=>nomatch h);rw[DU]at e c;apply#[?_,Gz c];generalize D.lst (Zb<|A5 L rs gs) .d=l,D.lst (Zb<|A5 L' rs' gs) .d=m,Dd L L' rs rs' (Zm BI gs)=n at *;apply ZF rfl ?_;change VM [.val l,.val m,.no,.no]=_
 rwa[VM,show Zf (Z ([]:U D))=Z []from rfl,Z0,ZU,j,e,D3,Dh]
end
theorem jc{G:Gh}{q m:Nat}(a:m≠0)(h:G[q]?=Z (.dat .d xs)):DS m G (.cel q)=.val (.lst xs .d):=by
 simp_all
theorem FO{G:Gh}{n:Nat}{c d:Cl}(h:G[n]?=Z c):(G++[d])[n]?=Z c:=by
 rw[D9 (Cm.mp h).1];show h
theorem jd{L L':A2}(h:Ci L)(h':Ci L')(q:L.length=L'.length){rs rs':U Row}(v:∀r∈rs,AO L r.1)(a:∀r∈rs',AO L' r.1)(s:rs.length+rs'.length<500)(A:gs.Nodup)(u:∀g∈gs,g.length=L.length)(c:gs.length<=12){G:Gh}{b t:Nat}(f:G[b]?=Z (BJ L' (rs'.map Zd) t))(j:G[t]?=Z (.dat .d (Zb (A5 L rs gs))))(m:b≠t):Ro [.cel b] G=Z (.cel (G.length+1),G.set b (BJ L' (rs'.map Zd) G.length)++[.dat .d (Zb (A5 L' rs' gs)),.dat .l (Dd L L' rs rs' (Zm BI gs))]):=by
 let(e,B):=zc h h' q v a s u c;generalize Dd L L' rs rs' (Zm BI gs)=C at *;let n:=ja h' rs' a (Nat.lt_of_add_left_lt s) gs A (λg E=>(u g E).trans q) c;let H:=WV L' rs' gs;let o:HB [.lst (Zb<|A5 L rs gs) .d]=Z (gs.map Az):=by rw[Qj,iW]
 generalize M:rs'.map Zd=R at *;generalize Zb (A5 L' rs' gs)=i,Zb (A5 L rs gs)=k at *;let p:(G.set b (BJ L' R G.length)++[Cl.dat .d i])[G.length]?=Z (.dat .d i):=by
  rw[Fp (by simp)];simp
 let K:DS 2 (G.set b (BJ L' R G.length)++[Cl.dat .d i]) (.cel t)=.val (.lst k .d):=jc (by ext)<|FO (by rw[ZD<|Bz m];show j);suffices F:We ([.cel b,.no],G)=.ret (.cel<|G.length+1) (G.set b (BJ L' R G.length)++[.dat .d i,.dat .l C])from G9 (fi rfl F) rfl
 rwa[We,fF,fu,iX f,xP,Option.bind_some,if_pos (Cm.mp j).1,fE,fA,Nd 1 (by ext) f j,show DS 1 G (.cel t)=.val (.lst k .d)from jc (by ext) j,JH,F5,Nc (L:=L') (R:=R) (T:=k),WP (L:=L') (R:=R) (T:=k),o,n,Ta,jG,jL,H,xC,Gy,FO f,true_and,show(3:Nat)<1000 by ext,show Internal.putN "tables" FN=FN by symm,show ∀x y w z:IV,DE "tables" z FN [x,y,w]=[x,y,z]from λx y w z=>by erw[DE,if_neg (show ¬ ("axes":Af)="tables" by symm),if_neg (show ¬ ("standing":Af)="tables" by symm),if_true],List.set_append_left _ _ (Cm.mp f).1,fC,fB,Nd 2 (by ext) (FO<|EB f) p,K,Fw,Sa (L:=L') (R:=R) (T:=i),e,L9,B,Ek,Ea,Jw,C8,F3,DU]
theorem zd:FN.contains "put_ladder"=O':=by symm
theorem je:FN.contains "tables_renewed"=O':=by symm
theorem ze{L:A2}{k:Nat}(b:k<L.length)(a:BG):((L.map LD).take k++[LD a])++(L.map LD).drop (k+1)=(L.set k a).map LD:=by
 rw[List.map_set,List.set_eq_take_append_cons_drop,if_pos (by exists b)];simp
section
variable{L:A2}{R T:U D}{G:Gh}{b t k:Nat}(hb:G[b]?=Z (BJ L R t))(ht:G[t]?=Z (.dat .d T))
include hb ht
theorem zf(m:Nat)(a:m≠0):DS m G (.cel b)=.val (BD L R T):=Nd m a hb ht
theorem zh(d:k<L.length)(o:L.length<=4)(a:BG):QG [.cel b,‹k›,.val (LD a)] G=Z (.val .non,G.set b (BJ (L.set k a) R t)):=by
 let e:=zf hb ht 1 (by ext);let a1:=Nc (L:=L) (R:=R) (T:=T);let f:Fc (L.map LD) J (Z (k:Int))=(L.map LD).take k:=Us _ _<|Lk k;let g:Fc (L.map LD) (Z<|(k:Int)+1) J=(L.map LD).drop (k+1):=by rw[Ut _ _ ∅,show((k:Int)+1).toNat=k+1 by show h6]
 let h:=ze d a;let i:BF 1 (.lst<|(L.set k a).map LD)=J':=by
  show(!vk 1 .l&&C0 1 ((L.set k a).map LD))=J'
  rw[Sd];rfl
 let j:Zo (.lst<|(L.map LD).take k) (.lst [LD a])=Z (.lst<|(L.map LD).take k++[LD a]):=by erw[Zo,if_pos (show((L.map LD).take k).length+[LD a].length<=AB from Bu (show _<=10 by simp;lia) (by ext))]
 let m:Zo (.lst<|(L.map LD).take k++[LD a]) (.lst<|(L.map LD).drop<|k+1)=Z (.lst<|(L.set k a).map LD):=by erw[Zo,if_pos (show((L.map LD).take k++[LD a]).length+((L.map LD).drop<|k+1).length<=AB from Bu (show _<=10 by simp;lia) (by ext)),h]
 let c:G[b]?=Z (.mix kB [#v[L.map LD],#v[R],.cel t]):=hb;change _=Z (IV.val .non,G.set b<|.mix kB [#v[(L.set k a).map LD],#v[R],.cel t])
 generalize LD a=X,L.map LD=p,(L.set k a).map LD=Y,(L.map LD).take k=q,(L.map LD).drop (k+1)=r at *;let n:UE ([.cel b,‹k›,.val X],G)=.next ([.cel b,‹k›,.val X],G.set b<|.mix kB [#v[Y],#v[R],.cel t]):=by
  rwa[UE,e,a1,Eu,EG,Fz,f,g,j,m,i,Gy,c,true_and,show(3:Nat)<1000 by ext,show Internal.putN "axes" FN=FN by symm,show ∀x y w z:IV,DE "axes" z FN [x,y,w]=[z,y,w]from λx y w z=>by erw[DE,if_true]]
 show G9 (fi rfl n) rfl
theorem zi(m:Nat)(a:m≠0)(x y z u:D):vw m ([.cel b,.val x,.val y,.val z,.val u],G)=[.val (BD L R T),.val x,.val y,.val z,.val u]:=by
 simp_all
theorem zj(x y z u:D):vw 0 ([.cel b,.val x,.val y,.val z,.val u],G)=[.no,.val x,.val y,.val z,.val u]:=by
 simp_all
theorem zk:EZ "Book" "put_ladder" (BJ L R t)=J':=by rwa[EZ,zd]
end
theorem Ci.set{L:A2}(h:Ci L)(k:Nat){b:BG}{p:Nat}(c:GL b p):Ci (L.set k b):=#[by simpa using h.n1,by simpa using h.n4,λx a=>by
 rcases List.mem_or_eq_of_mem_set a with a|rfl
 .show h.good x a
 .show#[p,c]]
theorem AO.set{b c:BG}(d:∀a∈c.map hd,a∈b.map hd):∀{L:A2}{s:U At}{k:Nat},AO L s->L[k]?=Z c->AO (L.set k b) s
 |_,_,_,.nil,_=>.nil
 |_,_,0,.cons h t,e=>by cases e;show .cons (d _ h) t
 |_,_,k+1,.cons h t,e=>.cons h<|AO.set d t (by exists e)
section
variable{L:A2}{G:Gh}{b t k n p:Nat}{rs:U Row}(h:Ci L)(hb:G[b]?=Z (BJ L (rs.map Zd) t))(ht:G[t]?=Z (.dat .d (Zb (A5 L rs gs))))(hbt:b≠t)(hr:∀r∈rs,AO L r.1)(hl:rs.length<=100)(hn:gs.Nodup)(hgs:∀g∈gs,g.length=L.length)(h12:gs.length<=12){ls:BG}(hL:L[k]?=Z ls)(hg:GL ls p)
include h hb ht hbt hr hl hn hgs h12 hL hg
theorem zl(f:n+1<p){l q:U At}(i:l∈ls)(m:q∈ls){v:At}(o:l.getD n .non=v):Rp [.cel b,‹k›,‹n›,.val (aD v),.val (aD (q.getD (n+1) .non))] G = Z (.cel (G.length+1),G.set b (BJ (L.set k (rgp ls n v q)) (rs.map Zd) G.length)++[.dat .d (Zb (A5 (L.set k (rgp ls n v q)) rs gs)),.dat .l (Dd L (L.set k (rgp ls n v q)) rs rs (Zm BI gs))]):=by
 let g:=yW hg f i m;rw[o]at g;let e:=jd h (h.set k<|hg.rgp f v m) (by simp) hr (λr i=>(hr r i).set (λa s=>by rw[WQ λl hl=>hg.len l hl ▸ hg.p1];show s) hL) ∅ hn hgs h12 (G:=G.set b<|BJ (L.set k<|rgp ls n v q) (rs.map Zd) t) (EB hb) (by rw[ZD<|Bz hbt];show ht) hbt;rw[Jw,List.set_set]at e;generalize Dd L (L.set k<|rgp ls n v q) rs rs (Zm BI gs)=u at *;let w:=zi hb ht 1 (by ext) (.int k) (.int n) (aD v)<|aD<|q.getD (n+1) .non;let x:=zj hb ht (.int k) (.int n) (aD v)<|aD<|q.getD (n+1) .non;let a1:=Nc (L:=L) (R:=rs.map Zd) (T:=Zb<|A5 L rs gs);let y:=yT (L.map LD) k (d:=LD ls) (by rw[CF,hL];rfl);let z:BF 1 (.lst<|(rgp ls n v q).map Ai)=J':=WU _;let lb:=(Cm.mp hb).1;let j:QG [.cel b,‹k›,#v[(rgp ls n v q).map Ai]] G=Z (.val .non,G.set b<|BJ (L.set k<|rgp ls n v q) (rs.map Zd) t):=(zh hb ht ((Cm.mp hL).1) h.n4<|rgp ls n v q);generalize aD (q.getD (n+1) .non)=W,(rgp ls n v q).map Ai=Y,LD ls=A,aD v=V at *;let B:Wh ([.cel b,‹k›,‹n›,.val V,.val W],G)=.ret (.cel<|G.length+1) (G.set b (BJ (L.set k<|rgp ls n v q) (rs.map Zd) G.length)++[.dat .d<|Zb<|A5 (L.set k<|rgp ls n v q) rs gs,.dat .l u]):=by
  simp only[Wh,Ez,show ∀C:Gh,B9 (([.cel b,‹k›,‹n›,.val V,.val W]:U IV),C) 0=Z b from λ_=>rfl,hb,zk hb ht,lb,and_self,if_true,jE,w,x,Bq,Bo,Ft,FD,FK,Df,a1,jO,Qt,z,El,Zr,EV,Zi,y,Uw,g,Ka,j,Cz,Zw,EB (c:=BJ (L.set k<|rgp ls n v q) (rs.map Zd) t) hb,show EZ "Book" "tables_renewed" (BJ (L.set k<|rgp ls n v q) (rs.map Zd) t)=J' by rwa[EZ,je],show b<(G.set b<|BJ (L.set k<|rgp ls n v q) (rs.map Zd) t).length by rw[Jw];show lb,e,Ek]
 show G9 (fi rfl B) rfl
end
theorem E2{G:Gh}{q:Nat}(h:G[q]?=Z (.dat .l xs)):DS 2 G (.cel q)=#v[xs]:=by
 simp_all
theorem WW{G:Gh}{q:Nat}(h:G[q]?=Z (.dat .l xs)):DS 1 G (.cel q)=.lent xs:=by
 simp_all
theorem jf{G:Gh}{n:Nat}{c:Cl}(h:G[n]?=Z c):G.set n c=G:=by
 apply(IG);intro i;by_cases e:n=i
 .subst e;rw[EB h,h]
 .rw[Dy e]
theorem zn(rs:U Row)(r:Row)(d:rs.length<100){G:Gh}{n:Nat}(h:G[n]?=Z (.dat .l (rs.map Zd))):UB [.cel n,.val (Zd r)] G=Z (.val .non,G.set n (.dat .l ((rs++[r]).map Zd))):=by
 let b:NO (.int ((rs.map Zd).length:Int)) (.int 200)=Z (.bl O'):=by
  change Z (D.bl<|decide<|(200:Int)<=((rs.map Zd).length:Int))=_
  grind [Bn]
 let c:(rs.map Zd).length<AB:=by rw[Bn];show B7 (show rs.length<1000 by lia) (by ext)
 let a:Zp [.lst<|rs.map Zd]=Z (.int ((rs.map Zd).length:Int)):=rfl;rw[DM,AU,CW];generalize rs.map Zd=R,Zd r=f at *;let e:UA ([.cel n,.val f],G)=.next ([.cel n,.val f],G.set n<|.dat .l<|R++[f]):=by
  rwa[UA,E2 h,a,b,Fi,h,if_pos c,Cz]
 show G9 (fi rfl e) rfl
theorem Pb(r:Row):BF 2 (Zd r)=J':=by
 show(BF 2 (Ai r.1)&&(BF 2 (.int r.2)&&J'))=J'
 rw[Gf];rfl
theorem WX(rs:U Row):C0 2 (rs.map Zd)=J':=Gz λd hd=>by let(r,_,rfl):=Bi.mp hd;show Pb r
theorem WY(r s:Row):AS (Zd r) (Zd s)=decide (r=s):=by
 let(k,x):=r;let(l,y):=s;show(AS (Ai k) (Ai l)&&(AS (.int x) (.int y)&&J'))=_
 rw[i4];simp[Prod.ext_iff]
theorem Se(n:Nat)(r:Row):A1 (n+2) (Zd r)=J':=by
 show(A1 (n+1) (Ai r.1)&&(A1 (n+1) (.int r.2)&&J'))=J'
 rw[Lw];rfl
theorem jg(rs:U Row):(rs.map Zd).all (A1 12)=J':=by
 rw[DK];intro d hd;let(r,_,rfl):=Bi.mp hd;show Se 10 r
theorem zo(r:Row)(rs:U Row):Hs (Zd r) (rs.map Zd)=decide (r∈rs):=by
 unfold Hs;induction rs with|nil=>rfl|cons s rs a=>
  rw[AU,List.any_cons,a,WY];by_cases c:s=r
  .subst c;simp
  .have:¬ r=s:=λe=>c e.symm;simp[c,this]
theorem jh(r:Row):∀rs:U Row,r∈rs->∃j,(rs.map Zd).findIdx? (λz=>AS z (Zd r))=Z j/\(rs.map Zd).eraseIdx j=(rs.erase r).map Zd
 |s::rs,h=>by
  by_cases c:s=r
  .subst c;show#[0,by simp[List.findIdx?_cons,WY],by simp]
  .let a:r∈rs:=by
    rcases Bp.mp h with e|h
    .show absurd e.symm c
    .show h
   let(j,b,d):=jh r rs a;apply#[j+1,?_,?_]
   .erw[AU,List.findIdx?_cons,WY,decide_eq_false c,b,Fs,if_false,El]
   .rw[List.erase_cons_tail (by exists c)];erw[AU,List.eraseIdx_cons_succ,d]
theorem ji{rs:U Row}{r:Row}(a:r∈rs){G:Gh}{n:Nat}{xs:U IV}(h:G[n]?=Z (.dat .l (rs.map Zd))):MM (Z n) (Z (Zd r)) (xs,G)=Z (.val .non,G.set n (.dat .l ((rs.erase r).map Zd))):=by
 let(j,b,c):=jh r rs a;erw[MM,h,FJ,Se 10 r,jg rs,HG,if_true,b,El,c]
theorem zq{rs:U Row}{r:Row}(a:r∈rs){G:Gh}{n:Nat}(h:G[n]?=Z (.dat .l (rs.map Zd))):UD [.cel n,.val (Zd r)] G=Z (.val .non,G.set n (.dat .l ((rs.erase r).map Zd))):=by
 let b:EH J' (Zd r) (.lst<|rs.map Zd)=Z (.bl O'):=by
  erw[EH,FJ,Se 10 r,jg rs,zo,decide_eq_true a,HG,if_true,KZ]
 let c:=ji a h (xs:=[.cel n,.val<|Zd r]);generalize rs.map Zd=R,Zd r=f,(rs.erase r).map Zd=d at *;let e:UC ([.cel n,.val f],G)=.next ([.cel n,.val f],G.set n<|.dat .l d):=by
  rwa[UC,E2 h,b,c,Cz]
 show G9 (fi rfl e) rfl
def Cf(rs:U Row)(c:Dc):U Row:=bif c.1 then rs++[c.2]else rs.erase c.2
theorem jl(rs:U Row)(c:Dc):(Cf rs c).length<=rs.length+1:=by
 unfold Cf;cases c.1
 .show Og<|List.length_erase_le ..
 .simp
theorem jm{rs rs':U Row}(c:Dc)(h:rs.Perm rs'):(Cf rs c).Perm (Cf rs' c):=by
 unfold Cf;cases c.1
 .show h.erase _
 .show h.append_right _
theorem zr{rs:U Row}{c:Dc}{r:Row}(h:r∈Cf rs c):r∈rs\/r=c.2:=by
 unfold Cf at h;cases a:c.1 with
 |true=>rw[a]at h;exists h
 |false=>rw[a]at h;show .inl<|List.mem_of_mem_erase h
def Ha(L:A2):U Row->U Dc->Prop
 |_,[]=>True
 |a,c::b=>(AO L c.2.1/\(c.1=O'->c.2∈a))/\Ha L (Cf a c) b
theorem zt{L:A2}(h:Ci L)(a d:IV){rs:U Row}(g:rs.length<100){c:Dc}(i:AO L c.2.1)(j:c.1=O'->c.2∈rs){G:Gh}{n:Nat}(e:G[n]?=Z (.dat .l (rs.map Zd))):Rq ([#v[L.map LD],a,d,.cel n,.val (BP c)],G)=.next ([#v[L.map LD],a,d,.cel n,.val (BP c)],G.set n (.dat .l ((Cf rs c).map Zd))):=by
 unfold Rq Cf;let f:=yu h c i;let(b,r):=c;cases b with
 |true=>rwa[f,G8,show Au (BP (J',r)) (.int 0)=Z (G7 J')from rfl,show Au (BP (J',r)) (.int 1)=Z (Ai r.1)from rfl,show Au (BP (J',r)) (.int 2)=Z (.int r.2)from rfl,iD J',show D.tup [Ai r.1,.int r.2]=Zd r from rfl,Pb r,Gx,zn rs r g e,Cz,cond_true]
 |false=>rwa[f,G8,show Au (BP (O',r)) (.int 0)=Z (G7 O')from rfl,show Au (BP (O',r)) (.int 1)=Z (Ai r.1)from rfl,show Au (BP (O',r)) (.int 2)=Z (.int r.2)from rfl,iD O',show D.tup [Ai r.1,.int r.2]=Zd r from rfl,Pb r,Gx,zq (j rfl) e,Cz,cond_false]
theorem jo{L:A2}(h:Ci L)(b d:IV){n:Nat}:∀(cs:U Dc)(rs:U Row)(s4:IV)(G:Gh),rs.length+cs.length<100->Ha L rs cs->G[n]?=Z (.dat .l (rs.map Zd))->∃a,EY 4 Rq (cs.map BP) ([#v[L.map LD],b,d,.cel n,s4],G)=.next ([#v[L.map LD],b,d,.cel n,a],G.set n (.dat .l ((cs.foldl Cf rs).map Zd)))
 |[],rs,s4,G,_,_,e=>#[s4,by rw[List.foldl_nil,jf e];rfl]
 |c::cs,rs,s4,G,f,⟨⟨i,j⟩,k⟩,e=>by
  erw[Ck]at f;have:=jl rs c;let(a,g):=jo h b d cs (Cf rs c) (.val<|BP c) (G.set n<|.dat .l<|(Cf rs c).map Zd) ∅ k<|EB e;apply⟨a,?_⟩;rw[List.set_set]at g;erw[AU,EY,GZ,GB,zt h b d (FA f) i j e];show g
theorem Sf{L:A2}:∀(cs:U Dc){rs:U Row},(∀r∈rs,AO L r.1)->Ha L rs cs->∀r∈cs.foldl Cf rs,AO L r.1
 |[],_,h,_=>h
 |c::cs,rs,h,⟨⟨b,_⟩,d⟩=>Sf cs (λr a=>by
  rcases zr a with a|rfl
  .show h r a
  .show b) d
theorem Pc:∀(cs:U Dc)(rs:U Row),(cs.foldl Cf rs).length<=rs.length+cs.length
 |[],_=>A4 _
 |c::cs,rs=>by
  have:=jl rs c;have:=Pc cs<|Cf rs c;rw[Lc,Ck];lia
theorem jq:∀(cs:U Dc){rs rs':U Row},rs.Perm rs'->(cs.foldl Cf rs).Perm (cs.foldl Cf rs')
 |[],_,_,h=>h
 |c::cs,_,_,h=>jq cs<|jm c h
theorem zu{L:A2}(h:Ci L){rs:U Row}(d:∀r∈rs,AO L r.1){cs:U Dc}(f:rs.length+cs.length<100)(c:Ha L rs cs)(G:Gh):Wj [#v[L.map LD],#v[rs.map Zd],#v[cs.map BP]] G=Z (#v[(Zm CP (cs.foldl Cf rs)).map Zd],G++[.dat .l ((cs.foldl Cf rs).map Zd)]):=by
 let(o,e):=jo h #v[rs.map Zd] #v[cs.map BP] (n:=G.length) cs rs .no (G++[.dat .l<|rs.map Zd]) f c (by simp);let sp:=Sf cs d c;let ln:=Pc cs rs;generalize cs.foldl Cf rs=a at *;rw[show(G++[Cl.dat .l<|rs.map Zd]).set G.length (.dat .l<|a.map Zd)=G++[.dat .l<|a.map Zd] by simp]at e;let p:=h.n4;let g:=yy a ∅ λr i=>by have:=(sp r i).len;lia
 let b:DS 2 (G++[.dat .l<|a.map Zd]) (.cel G.length)=#v[a.map Zd]:=E2 (by simp);let j:=WX<|Zm CP a;let k:=WX rs;generalize L.map LD=q,cs.map BP=C,a.map Zd=W,(Zm CP a).map Zd=Y,rs.map Zd=R at *;suffices m:Wi ([#v[q],#v[R],#v[C],.no,.no],G)=.ret #v[Y] (G++[.dat .l W])from G9 (fi rfl m) rfl
 rwa[Wi,fM,fG,F5,show Mg [.lst R]=Z R from rfl,jG,jL,k,xC,fK,fH,ML,HE,e,fJ,fI,b,Ld,g,j,xF,Ek]
theorem zv{L:A2}(h:Ci L)(W:Cl):Wd [.cel 1,#v[L.map LD]] [W,.mix (.i [] "Book") []]=Z (.val .non,[W,BJ L [] 2,.dat .d (Zb (A5 L [] [zg L]))]):=by
 let g:=h.al;let j:=gT h;let f:=ja h [] (λ_ h=>nomatch h) (by ext) [zg L] (by simp) (by simp) (by simp);rw[CW,AU,CW,<- i5]at f;let k:=ZA (b:=Zc 0) (e:=e5) (ρ:=[.no]) LD LD L λl _=>#[[.val<|LD l],rfl,rfl];let m:=ZB (L.map LD) (by have:=h.n4;simp;lia);let n:=Sd L;let o:=WV L [] [zg L];let lk:DQ "Book" "axes" (.lst [.lst<|L.map LD,.lst []]<|.i ["axes","standing"] "Book")=Z (.lst<|L.map LD):=rfl;generalize Zb (A5 L [] [zg L])=TT at *;generalize c:L.map LD=a at *;suffices e:Rm ([.cel 1,#v[a]],[W,.mix (.i [] "Book") []])=.next ([.cel 1,#v[a]],[W,.mix kB [#v[a],#v[[]],.cel 2],.dat .d TT])from by
  show(match Rm ([.cel 1,#v[a]],[W,.mix (.i [] "Book") []])with | .ret x p=>Z (x,p) | .next s=>Z (.val .non,s.2)|_=>J)=_
  rw[e,<- c]
 rwa[Rm,ft,e6,g,G8,fq,e7,Zh,show ∀V:Sl,Zv 1 [] [V,#v[a]]=[.no]from λ_=>rfl,m,k,jG,jL,n,xF,Gy,and_self,true_and,putN,DE,show(0:Nat)<1000 by ext];rwa[fm,e8,show Zf (Z ([]:U D))=Z []from rfl,jG,jL,show C0 2 []=J' from rfl,xF,Gy,IX,true_and,show(1:Nat)<1000 by ext,show Internal.putN "standing" ["axes"]=(["axes","standing"]:U Af) by symm,show ∀x y:IV,DE "standing" y ["axes"] [x]=[x,y]from λx y=>by erw[DE,if_neg (show ¬ ("axes":Af)="standing" by symm)],fj,e9,show DS 1 [W,.mix (.i ["axes","standing"] "Book") [#v[a],#v[[]]]] (.cel 1)=.val (.lst [.lst a,.lst []]<|.i ["axes","standing"] "Book")from rfl,JH,lk,j,f,Ta,o,xC,F3,DU,HH,show(2:Nat)<1000 by ext,show Internal.putN "tables" ["axes","standing"]=(["axes","standing","tables"]:U Af) by symm,show ∀x y z:IV,DE "tables" z ["axes","standing"] [x,y]=[x,y,z]from λx y z=>by erw[DE,if_neg (show ¬ ("axes":Af)="tables" by symm),if_neg (show ¬ ("standing":Af)="tables" by symm)],fh]
theorem jr:FN.contains "pour"=O':=by symm
theorem zw(rs:U Row):BF 1 (.lst (rs.map Zd))=J':=by
 show(!vk 1 .l&&C0 1 (rs.map Zd))=J'
 rw[Gz λd hd=>by
  let(r,_,rfl):=Bi.mp hd;show(BF 1 (Ai r.1)&&(BF 1 (.int r.2)&&J'))=J'
  rw[Gf];rfl];rfl
structure BS(L:A2)(rs:List Row)(gs:List (List Nat))(b:Nat)(G:Gh):Prop where
 gl:Ci L
 sp:∀r∈rs,AO L r.1
 nd:gs.Nodup
 gn:∀g∈gs,g.length=L.length
 g12:gs.length<=12
 bk:∃t,G[b]?=Z (BJ L (rs.map Zd) t)/\G[t]?=Z (.dat .d (Zb (A5 L rs gs)))/\b≠t
structure RN(L:A2)(rs:List Row)(gs:List (List Nat))(b j:Nat)(Y:List D)(G G':Gh):Prop where
 bs:BS L rs gs b G'
 tl:G'[j]?=Z (.dat .l Y)
 jb:G.length<=j
 tj:∀t,G'[b]?=Z (BJ L (rs.map Zd) t)->t≠j/\G.length<=t
 ex:∀i,i≠b->i<G.length->G'[i]?=G[i]?
theorem js{L:A2}{rs:U Row}{b:Nat}{G:Gh}(s:BS L rs gs b G){cs:U Dc}(M:rs.length+cs.length<100)(A:Ha L rs cs):∃j G',Rs [.cel b,#v[cs.map BP]] G=Z (.cel j,G')/\RN L (Zm CP (cs.foldl Cf rs)) gs b j (Dd L L rs (Zm CP (cs.foldl Cf rs)) (Zm BI gs)) G G':=by
 let(h,o,B,E,k,t,g,H,m):=s;let N:=zu h o M A G;let lb:=(Cm.mp g).1;let c:=Zy CP<|cs.foldl Cf rs;let ln:=Pc cs rs;let sp:=Sf cs o A;generalize cs.foldl Cf rs=a at *;let e:=jd h h rfl (rs:=rs) (rs':=Zm CP a) o (λr p=>sp r<|c.mem_iff.mp p) (by rw[c.length_eq];lia) (gs:=gs) B E k (EB<|FO g) (show((G++[Cl.dat .l<|a.map Zd]).set b<|BJ L ((Zm CP a).map Zd) t)[t]?=Z (.dat .d<|Zb<|A5 L rs gs) by rw[ZD<|Bz m];show FO H) m;rw[List.set_set]at e;let P:((G++[Cl.dat .l<|a.map Zd]).set b<|BJ L ((Zm CP a).map Zd) t).length=G.length+1:=by simp
 rw[P]at e;generalize Dd L L rs (Zm CP a) (Zm BI gs)=q at *;let f:((G++[Cl.dat .l<|a.map Zd]).set b (BJ L ((Zm CP a).map Zd)<|G.length+1)++[Cl.dat .d<|Zb<|A5 L (Zm CP a) gs,.dat .l q])[b]?=Z (BJ L ((Zm CP a).map Zd)<|G.length+1):=by
  rw[D9 (by simp;lia)];show EB<|FO g
 apply#[G.length+1+1,(G++[Cl.dat .l<|a.map Zd]).set b (BJ L ((Zm CP a).map Zd)<|G.length+1)++[Cl.dat .d<|Zb<|A5 L (Zm CP a) gs,.dat .l q],?_,⟨h,(λr p=>sp r<|c.mem_iff.mp p),B,E,k,G.length+1,f,?_,∅⟩,?_,∅,λt' F=>?_,λi u n=>?_]
 .let Q:BF 1 (.lst<|L.map LD)=J':=by
   show(!vk 1 .l&&C0 1 (L.map LD))=J'
   rw[Sd];rfl
  let K:=zw rs;let a1:=Nc (L:=L) (R:=rs.map Zd) (T:=Zb<|A5 L rs gs);let Y:=WP (L:=L) (R:=rs.map Zd) (T:=Zb<|A5 L rs gs);let u:EZ "Book" "tables_renewed" (BJ L ((Zm CP a).map Zd) t)=J':=by rwa[EZ,je]
  clear f;generalize cs.map BP=C,(G++[Cl.dat .l<|a.map Zd]).set b (BJ L ((Zm CP a).map Zd)<|G.length+1)++[Cl.dat .d<|Zb<|A5 L (Zm CP a) gs,.dat .l q]=GF,BD L (rs.map Zd) (Zb<|A5 L rs gs)=B1,rs.map Zd=R0 at *;suffices e2:Wl ([.cel b,#v[C]],G)=.ret (.cel<|G.length+1+1) GF from G9 (fi rfl e2) rfl
  rwa[Wl,Nd 1 (by ext) g H,a1,Y,Q,K,Gx,N,Gy,FO g,IX,HH,true_and,show(3:Nat)<1000 by ext,and_self,show Internal.putN "standing" FN=FN by symm,show ∀x y w z:IV,DE "standing" z FN [x,y,w]=[x,z,w]from λx y w z=>by erw[DE,if_neg (show ¬ ("axes":Af)="standing" by symm),if_true],Ez,EB<|FO g,u,show b<((G++[Cl.dat .l<|a.map Zd]).set b<|BJ L ((Zm CP a).map Zd) t).length by rw[P];show Nat.lt_add_right 1 lb,e,Ek]
 .rw[Fp (by simp)];simp
 .rw[Fp (by simp)];simp
 .rw[f]at F;have:=EE F;simp[BJ]at this;lia
 .rw[D9 (by simp;show Nat.lt_add_right 1 n),ZD u,D9 n]
theorem zx{d:D}(h:A1 12 d=J'):Co d d=Z (.bl O'):=by
 have:=Te 12 _ h;erw[Co,FJ,h,this,HG,if_true,KZ]
theorem Nb.of{L:A2}{g:U Nat}(a:g.length=L.length)(h:∀k (b:k<L.length) (c:k<g.length),g[k]<=wh L[k]):Nb L g:=#[a,λq d=>by
 grind [List.getElem_of_mem]]
theorem zy{L:A2}(h:Ci L)(c:Int):∃g,Nb L g/\QT [#v[L.map LD],‹c›]=Z (.val (Az g)):=by
 let C:=h.n4;let(a,e,m,E):=O5 c L.length ∅;letI g:U Nat:=(Bt L.length).map λk=>(a.getD k 0%((wh (L.getD k [])+1:Nat):Int)).toNat;apply#[g,Nb.of (show g.length=L.length by simp[g]) λk o G=>?_,?_]
 .let H:=Jj (a.getD k 0) (show(0:Int)<((wh L[k]+1:Nat):Int) by show Int.ofNat_succ_pos (wh L[k]));rw[List.getElem_map,List.getElem_range,show L.getD k []=L[k] by simp[DP,o]];lia
 .let q:=ZA (b:=Zc 0) (e:=UU) (ρ:=[.no,#v[a.map D.int],#v[L.map LD]]) (λk:Nat=>D.int k) (λk=>D.int (((a.getD k 0%((wh (L.getD k [])+1:Nat):Int)).toNat:Nat):Int)) (Bt L.length) λk s=>#[[‹k›,#v[a.map D.int],#v[L.map LD]],rfl,by
   let d:=ED.mp s;let(p,t):=h.good L[k]<|F7 d;let u:Au (.lst<|L.map LD) (.int k)=Z (LD L[k]):=Zz (by rw[CF,Ch d];rfl);let w:Au (.lst<|a.map D.int) (.int k)=Z (.int a[k]):=Zz (by rw[CF,Ch<|Js d m.symm];rfl);let n1:=t.n1;let i:∃l,Au (LD L[k]) (.int 0)=Z (Ai l)/\l.length=wh L[k]:=by
    generalize L[k]=x at *;cases x with
    |nil=>simp at n1
    |cons l r=>show#[l,Zz (j:=0) rfl,rfl]
   let(l,i,y):=i;let z:ZQ (.int a[k]) (.int ((wh L[k]+1:Nat):Int))=Z (.int<|a[k]%((wh L[k]+1:Nat):Int)):=by
    simp_all [wh]
   rw[show L.getD k []=L[k] by simp[DP,d],show a.getD k 0=a[k] by simp[DP,Js d m.symm],MW<|Iu _ ∅];rwa[UU,u,w,i,show Zp [Ai l]=Z (.int (wh L[k]:Int)) by rw[<- y];simp[Ai],show Zo (.int (wh L[k]:Int)) (.int 1)=Z (.int ((wh L[k]+1:Nat):Int))from rfl,z]]
  let n:=Qv (L.length:Int) (Lk<|Ky L) ∅;rw[GR]at n;let A:=ZB ((Bt L.length).map λk:Nat=>D.int k) (by simp;lia);let f:Zp [.lst<|L.map LD]=Z (.int L.length):=by simp
  let B:g.map (λj:Nat=>D.int j)=(Bt L.length).map λk=>D.int (((a.getD k 0%((wh (L.getD k [])+1:Nat):Int)).toNat:Nat):Int):=by
   rw[CC];rfl
  change QT _=Z (.val<|.tup (g.map λj:Nat=>D.int j))
  rw[B];generalize a.map D.int=S,L.map LD=W,(Bt L.length).map (λk:Nat=>D.int k)=F,((Bt L.length).map λk=>D.int (((a.getD k 0%((wh (L.getD k [])+1:Nat):Int)).toNat:Nat):Int))=Y at *;apply ZF rfl ?_;change UV [#v[W],‹c›,.no]=_
  rwa[UV,f,e,Zh,show Zv 1 [2,0] [#v[W],‹c›,#v[S]]=[.no,#v[S],#v[W]]from rfl,n,A,q,show EI [.lst Y]=Z (.tup Y)from rfl]
structure Ends(as:List Int)(m M:Int):Prop where
 m1:m∈as
 m2:∀a∈as,m<=a
 M1:M∈as
 M2:∀a∈as,a<=M
theorem Ends.uniq{a:U Int}{m M b c:Int}(h:Ends a m M)(h':Ends a b c):m=b/\M=c:=by
 let a1:=h.m2 _ h'.m1;let d:=h'.m2 _ h.m1;let e:=h.M2 _ h'.M1;let f:=h'.M2 _ h.M1;lia
theorem jt(x:Int):∀xs:U Int,Ends (x::xs) (xs.foldl mn x) (xs.foldl mx x):=by
 intro xs;induction xs generalizing x with|nil=>show#[by simp,by simp,by simp,by simp]|cons y i d=>
  let a:=d<|mn x y;let b:=d<|mx x y;let f:=g9 x y;let g:=hD x y;erw[Lc];apply#[?_,λz c=>?_,?_,λz c=>?_]
  .rcases Bp.mp a.m1 with e|e
   .rw[e,f];rcases Int.le_total x y with z|z
    .rw[show min x y=x by show Int.min_eq_left z];simp
    .rw[show min x y=y by show Int.min_eq_right z];simp
   .show Bg _<|Bg _ e
  .let h:=a.m2 (mn x y) Ba;rcases Bp.mp c with rfl|c
   .lia
   .rcases Bp.mp c with rfl|c
    .lia
    .show a.m2 z<|Bg _ c
  .rcases Bp.mp b.M1 with e|e
   .rw[e,g];rcases Int.le_total x y with z|z
    .rw[show max x y=y by show Int.max_eq_right z];simp
    .rw[show max x y=x by show Int.max_eq_left z];simp
   .show Bg _<|Bg _ e
  .let h:=b.M2 (mx x y) Ba;rcases Bp.mp c with rfl|c
   .lia
   .rcases Bp.mp c with rfl|c
    .lia
    .show b.M2 z<|Bg _ c
theorem zz{a b:U Int}(h:a.Perm b):a.sum=b.sum:=by
 induction h with
 |nil=>rfl
 |cons x _ c=>simp[c]
 |swap x y l=>erw[List.sum_cons];show Int.add_left_comm y x l.sum
 |trans _ _ d i2=>rw[d,i2]
def E3(acc:U Be):U (U At×Int):=acc.flatMap λe=>(e.2.1::e.2.2).map λx=>(e.1,x)
theorem Nh(e:Be)(r:U Be):E3 (e::r)=(e.2.1::e.2.2).map (λx=>(e.1,x))++E3 r:=rfl
def Ni:U Be->U At->Int->U Int->U Be
 |[],k,x,a=>[(k,x,a)]
 |e::r,k,x,a=>if e.1=k then(e.1,e.2.1,e.2.2++x::a)::r else e::Ni r k x a
theorem ju(k:U At)(x:Int):∀acc:U Be,CN acc k x=Ni acc k x []
 |[]=>rfl
 |e::r=>by unfold CN Ni;rw[ju k x r]
theorem jv(k:U At)(x:Int)(xs:U Int):∀acc:U Be,(E3 (Ni acc k x xs)).Perm ((x::xs).map (λy=>(k,y))++E3 acc)
 |[]=>by simp[Ni,E3]
 |e::r=>by
  unfold Ni;by_cases c:e.1=k
  .grind [Nh,E3]
  .rw[if_neg c,Nh,Nh];refine((jv k x xs r).append_left _).trans ?_;rw[<- C8,<- C8];show List.perm_append_comm.append_right _
theorem zA{x y:Int}{xs ys:U Int}(h:(x::xs).Perm (y::ys)):cel x xs=cel y ys:=by
 let b:=jt y ys;let(d,e):=(jt x xs).uniq #[h.mem_iff.mpr b.m1,λa c=>b.m2 a<|h.mem_iff.mp c,h.mem_iff.mpr b.M1,λa c=>b.M2 a<|h.mem_iff.mp c];let f:=zz h;let g:=h.length_eq;grind [cel]
def Hb(k:U At)(l:U (U At×Int)):U Int:=l.filterMap λp=>if p.1=k then Z p.2 else J
theorem jw(k:U At)(a b:U (U At×Int)):Hb k (a++b)=Hb k a++Hb k b:=by simp[Hb]
theorem jx(k:U At):∀xs:U Int,Hb k (xs.map λx=>(k,x))=xs
 |[]=>rfl
 |x::xs=>by
  let a:=jx k xs;grind [Hb]
theorem jy{k k':U At}(h:k'≠k):∀xs:U Int,Hb k (xs.map λx=>(k',x))=[]
 |[]=>rfl
 |x::xs=>by
  simp_all [Hb]
theorem jz{k:U At}:∀{acc:U Be},k∉Zg acc->Hb k (E3 acc)=[]
 |[],_=>rfl
 |e::r,h=>by
  erw[Zg,AU,Bp,not_or]at h;rw[Nh,jw,jy<|Bz h.1,jz (acc:=r) h.2];rfl
theorem WZ{k:U At}{p:Int×U Int}:∀{acc:U Be},(Zg acc).Nodup->ZC acc k=Z p->Hb k (E3 acc)=p.1::p.2
 |e::r,a,h=>by
  erw[Zg,AU,Gk]at a;unfold ZC at h;rw[Nh,jw];by_cases c:e.1=k
  .rw[if_pos c]at h;cases h;subst c;rw[jx,jz a.1,D1]
  .rw[if_neg c]at h;rw[jy c,WZ a.2 h];rfl
theorem W0{k:U At}:∀{acc:U Be},k∈Zg acc↔∃x,(k,x)∈E3 acc
 |[]=>by simp[Zg,E3]
 |e::r=>by
  let a:=W0 (k:=k) (acc:=r);grind [Nh,Zg]
theorem W3:∀(a:U Row)(acc:U Be),(E3 (E1 a acc)).Perm (a++E3 acc)
 |[],acc=>.refl _
 |r::a,acc=>by
  refine(W3 a<|CN acc r.1 r.2).trans ?_;rw[ju];show((jv _ _ [] acc).append_left _).trans (by simp_all)
theorem zB{acc a:U Be}(f:(Zg acc).Nodup)(g:(Zg a).Nodup)(h:(E3 acc).Perm (E3 a))(k:U At):(ZC acc k).map vC=(ZC a k).map vC:=by
 let b:k∈Zg acc↔k∈Zg a:=by
  rw[W0,W0];grind
 let c:(Hb k<|E3 acc).Perm (Hb k<|E3 a):=h.filterMap _;cases e:ZC acc k with|none=>rw[AF.mpr λz=>AF.mp e<|b.mpr z]|some p=>
  cases d:ZC a k with|none=>show absurd (b.mp (ND λz=>by rw[AF.mpr z]at e;cases e)) (AF.mp d)|some i=>
   rw[WZ f e,WZ g d]at c;show congrArg Z<|zA c
theorem jA:∀{L:A2}{g:U Nat}{s:U At},(∀b∈L,∃p,GL b p)->AO L s->∀a∈Z3 (qs L g) s,Gd a
 |_,[],_,_,_=>λa h=>by simp[qs,Z3]at h
 |_,j::g,_,f,.nil=>λa h=>by simp[qs,Z3]at h
 |b::L,j::g,a::s,f,.cons k m=>λc h=>by
  let(p,i):=f b Ba;rcases Bp.mp h with e|h
  .let(l,d,rfl):=Bi.mp k;subst e;rw[WI i.hdn d];by_cases c:j<l.length
   .have:l.getD j .non=l[j]:=by simp[DP,c]
    rw[this];show yC (i.val l d _<|F7 c).1
   .have:l.getD j .non=.non:=by simp[DP,Gm c]
    rw[this];trivial
  .show jA (λb d=>f b<|Bg _ d) m c h
theorem jB:∀(a:U Row)(acc:U Be),∀k∈Zg (E1 a acc),k∈Zg acc\/∃r∈a,k=r.1
 |[],acc,k,b=>.inl b
 |r::a,acc,k,b=>by
  rcases jB a (CN acc r.1 r.2) k b with h|⟨q,c,e⟩
  .grind [ik]
  .show .inr #[q,Bg _ c,e]
abbrev C7(acc:U Be)(k:U At):D:=((ZC acc k).map vC).getD .non
abbrev CT(acc:U Be):D:=.lst (Zb (acc.map (ZG vC))) .d
theorem jC{d e:D}(a:A1 12 d=J')(b:A1 12 e=J'):Co d e=Z (.bl (!AS d e)):=by
 erw[Co,FJ,a,b,HG,if_true]
theorem jD(acc:U Be)(k:U At):Ja (CT acc) (Ai k)=Z (C7 acc k):=by
 erw[Ja,Ga,GD,RO,if_true,Kk]
theorem W4(acc:U Be)(k:U At):A1 12 (C7 acc k)=J':=by
 unfold C7;cases ZC acc k<;>rfl
theorem zC(a b:U Be)(k:U At):AS (C7 a k) (C7 b k)=AS (C7 b k) (C7 a k):=by
 unfold C7;cases ZC a k<;>cases ZC b k<;>simp[cel,eq_comm]
theorem jF(k:U At)(a:BG):EH J' (Ai k) (.lst (a.map Ai))=Z (.bl (!decide (k∈a))):=by
 let f:Hs (Ai k) (a.map Ai)=decide (k∈a):=by
  unfold Hs;induction a with|nil=>rfl|cons b a g=>
   rw[AU,List.any_cons,g,i4];by_cases c:b=k
   .subst c;simp
   .have:¬ k=b:=λe=>c e.symm;simp[c,this]
 let h:(a.map Ai).all (A1 12)=J':=by
  rw[DK];intro d hd;let(l,_,rfl):=Bi.mp hd;show Lw 11 l
 erw[EH,FJ,Lw 11 k,h,f,HG,if_true]
theorem jH(k:U At):∀l:BG,k∉l->l.takeWhile (λy=>AQ y k)++k::l.dropWhile (λy=>AQ y k)=FL AQ k l
 |[],_=>rfl
 |y::l,h=>by
  erw[Bp,not_or]at h;cases c:AQ y k with|true=>rw[List.takeWhile_cons_of_pos (p:=λy=>AQ y k) c,List.dropWhile_cons_of_pos (p:=λy=>AQ y k) c,F3,jH k l h.2,FL,if_neg (by rw[C3.asym _ _ c];decide)]|false=>
   rw[List.takeWhile_cons_of_neg (p:=λy=>AQ y k) (by simp[c]),List.dropWhile_cons_of_neg (p:=λy=>AQ y k) (by simp[c]),FL];cases d:AQ k y with
   |true=>rfl
   |false=>show absurd (C3.anti _ _ d c) h.1
section
variable{s0 s1 s2 s3 s4:Sl}{k:U At}
theorem jI(j:∀a∈k,Gd a):∀(b a:BG)(f:Nat),(∀l∈b,(∀x∈l,Gd x)/\l.length=k.length)->b.length<f->GA Lq OT f [s0,s1,s2,s3,s4,.own ((a++b).map Ai),.val (Ai k),‹a.length›]=.next [s0,s1,s2,s3,s4,.own ((a++b).map Ai),.val (Ai k),‹(a.length+(b.takeWhile λy=>AQ y k).length:Nat)›]
 |b,a,0,_,h=>by cases h
 |[],a,f+1,_,_=>by
  let l1:Zp [.lst<|(a++[]).map Ai]=Z (.int a.length):=by simp
  let d:Dj (.int a.length) (.int a.length)=Z (.bl O'):=by simp
  rwa[GA,Lq,l1,d];simp
 |y::b,a,f+1,h,m=>by
  rw[Ck]at m;let l1:Zp [.lst<|(a++y::b).map Ai]=Z (.int (a.length+(b.length+1):Nat)):=by simp
  let d:Dj (.int a.length) (.int (a.length+(b.length+1):Nat))=Z (.bl J'):=by
   change Z (D.bl<|decide<|(a.length:Int)<((a.length+(b.length+1):Nat):Int))=_
   rw[decide_eq_true ∅]
  let x:Au (.lst<|(a++y::b).map Ai) (.int a.length)=Z (Ai y):=Zz (by simp);let(o,q):=h y Ba;let g:=yB y k o j q;cases c:AQ y k with
  |false=>
   rw[c]at g;rw[List.takeWhile_cons_of_neg (p:=λy=>AQ y k) (by simp[c])];generalize (a++y::b).map Ai=s at *;rwa[GA,Lq,l1,d,x,g,G8];rfl
  |true=>
   rw[c]at g;let i:=jI j b (a++[y]) f (λl r=>h l<|Bg _ r) ∅;rw[C8,List.singleton_append,Ea,LX]at i;rw[List.takeWhile_cons_of_pos (p:=λy=>AQ y k) c,Ck];let e:a.length+((b.takeWhile λy=>AQ y k).length+1)=a.length+1+(b.takeWhile λy=>AQ y k).length:=∅
   rw[e];generalize (a++y::b).map Ai=s,(b.takeWhile λy=>AQ y k).length=n at *;let i:GA Lq OT f [s0,s1,s2,s3,s4,.own s,.val<|Ai k,‹(a.length:Int)+1›]=_:=i;rwa[GA,Lq,l1,d,x,g,G8,Ef,OT,i]
variable{NW:U D}{n:Nat}{a1 a2:U Be}(h1:OL[j]?=Z (CT a1))(h2:NW[j]?=Z (CT a2))
include h1 h2
theorem zD(q:(∀a∈k,Gd a)/\k.length=n){f:BG}(u:∀l∈f,(∀x∈l,Gd x)/\l.length=n)(r:f.length<500)(d:Sl):∃e,MZ [s0,#v[OL],#v[NW],s3,‹j›,.own (f.map Ai),.val (Ai k),d]=.next [s0,#v[OL],#v[NW],s3,‹j›,.own ((if AS (C7 a1 k) (C7 a2 k)=O'/\k∉f then FL AQ k f else f).map Ai),.val (Ai k),e]:=by
 let g:Au (.lst OL) (.int j)=Z (CT a1):=Zz h1;let h:Au (.lst NW) (.int j)=Z (CT a2):=Zz h2;let i:=jD a1 k;let o:=jD a2 k;let ne:=jC (W4 a1 k)<|W4 a2 k;let b:=jF k f;generalize C7 a1 k=A,C7 a2 k=B at *;by_cases c:AS A B=O'
 .rw[c]at ne;by_cases m:k∈f
  .rw[decide_eq_true m]at b;apply#[d,?_];rw[if_neg λz=>z.2 m];generalize CT a1=s,CT a2=t,f.map Ai=F at *;rwa[MZ,g,h,i,o,ne,b]
  .rw[decide_eq_false m]at b;let w:=jI (s0:=s0) (s1:=#v[OL]) (s2:=#v[NW]) (s3:=s3) (s4:=‹j›) q.1 f [] 1000 (λl r=>q.2 ▸ u l r) ∅;rw[DU,HU,IX]at w;rw[if_pos #[c,m],<- jH k f m];let tl:(f.takeWhile λy=>AQ y k).length<=f.length:=(List.takeWhile_sublist _).length_le;let C:(f.map Ai).take (f.takeWhile λy=>AQ y k).length=(f.takeWhile λy=>AQ y k).map Ai:=by
    rw[<- List.map_take];congr 1;show(List.prefix_iff_eq_take.mp<|List.takeWhile_prefix _).symm
   let E:(f.map Ai).drop (f.takeWhile λy=>AQ y k).length=(f.dropWhile λy=>AQ y k).map Ai:=by
    rw[<- List.map_drop];congr 1;have:=List.takeWhile_append_dropWhile (p:=λy=>AQ y k) (l:=f);show(congrArg (List.drop (f.takeWhile λy=>AQ y k).length) this.symm).trans List.drop_left
   let G:(0:Int)<=((f.takeWhile λy=>AQ y k).length:Int)/\((f.takeWhile λy=>AQ y k).length:Int)<=((f.map Ai).length:Int)/\(f.map Ai).length<AB:=#[∅,by simp;lia,(B7 (show _<1000 by simp;lia) (by ext))];apply#[‹((f.takeWhile λy=>AQ y k).length:Int)›,?_];rw[DM,AU,<- C,<- E];generalize (f.takeWhile λy=>AQ y k).length=m,CT a1=s,CT a2=t,f.map Ai=F at *;rwa[MZ,g,h,i,o,ne,b,show GA Lq OT 1000 [s0,#v[OL],#v[NW],s3,‹j›,.own F,.val<|Ai k,‹0›]=.next [s0,#v[OL],#v[NW],s3,‹j›,.own F,.val<|Ai k,‹m›]from w,Qy,D3,G,and_self,GR]
 .rw[Bool.not_eq_false]at c;rw[c]at ne;apply#[d,?_];rw[if_neg λz=>by rw[c]at z;show absurd z.1 (by ext)];generalize CT a1=s,CT a2=t,f.map Ai=F at *;rwa[MZ,g,h,i,o,ne]
theorem jJ:∀(g f:BG)(p m:Sl),(∀l∈g,(∀x∈l,Gd x)/\l.length=n)->(∀l∈f,(∀x∈l,Gd x)/\l.length=n)->f.length+g.length<500->f.Nodup->f.Pairwise (λa b=>AQ b a=O')->∃(i:BG) (t u:Sl),ZK (Zc 6) MZ (g.map Ai) [s0,#v[OL],#v[NW],s3,‹j›,.own (f.map Ai),p,m]=.next [s0,#v[OL],#v[NW],s3,‹j›,.own (i.map Ai),t,u]/\i.Nodup/\i.Pairwise (λa b=>AQ b a=O')/\i.length<=f.length+g.length/\∀k,k∈i↔k∈f\/k∈g/\AS (C7 a1 k) (C7 a2 k)=O'
 |[],f,p,m,_,_,_,q,r=>#[f,p,m,rfl,q,r,by simp,λk=>by simp]
 |k::g,f,p,m,w,B,o,q,r=>by
  rw[Ck]at o;let(E,G):=zD (s0:=s0) (s3:=s3) h1 h2 (w k Ba) B ∅ m;let y:∀d:BG,(d=if AS (C7 a1 k) (C7 a2 k)=O'/\k∉f then FL AQ k f else f)->d.Nodup/\d.Pairwise (λa b=>AQ b a=O')/\d.length<=f.length+1/\∀x,x∈d↔x∈f\/x=k/\AS (C7 a1 k) (C7 a2 k)=O':=λd e=>by
   let A:=RK AQ k f;by_cases c:AS (C7 a1 k) (C7 a2 k)=O'/\k∉f
   .rw[if_pos c]at e;subst e;apply#[A.nodup_iff.mpr<|Gk.mpr ⟨c.2,q⟩,Wt C3 k f r,by rw[A.length_eq];simp,λx=>?_];rw[A.mem_iff,Bp];constructor
    .rintro(rfl|h)
     .show .inr #[rfl,c.1]
     .show .inl h
    .rintro(h|⟨rfl,_⟩)
     .show .inr h
     .show .inl rfl
   .rw[if_neg c]at e;subst e;apply#[q,r,∅,λx=>#[.inl,?_]];rintro(h|⟨rfl,h⟩)
    .show h
    .show ND λz=>c #[h,z]
  generalize (if AS (C7 a1 k) (C7 a2 k)=O'/\k∉f then FL AQ k f else f)=d at *;let(H,R,T,C):=y d rfl;let(i,F,L,M,N,K,P,Q):=jJ g d (.val<|Ai k) E (λl o=>w l<|Bg _ o) (λl o=>by
   rcases(C l).mp o with h|⟨rfl,_⟩
   .show B l h
   .show w _ Ba) ∅ H R
  apply#[i,F,L,?_,N,K,by rw[Ck];lia,λx=>?_]
  .rwa[AU,ZK,G,M]
  .rw[Q,C,Bp];constructor
   .rintro((h|⟨rfl,h⟩)|⟨h,s⟩)
    .show .inl h
    .show .inr #[.inl rfl,h]
    .show .inr #[.inr h,s]
   .rintro(h|⟨rfl|h,s⟩)
    .show .inl<|.inl h
    .show .inl<|.inr ⟨rfl,s⟩
    .show .inr #[h,s]
end
theorem zE{f c:BG}(d:f.Nodup)(e:c.Nodup)(p1:f.Pairwise λa b=>AQ b a=O')(g:c.Pairwise λa b=>AQ b a=O')(h:∀k,k∈f↔k∈c):f=c:=(gU C3 ((List.perm_ext_iff_of_nodup d e).mpr h) p1).trans (gU C3 (.refl _) g).symm
theorem jK(f:U At->D)(k:U At):∀a:BG,Zu (B0 (a.map λk=>(k,f k))) (.tup k)=if k∈a then Z (f k)else J
 |[]=>rfl
 |y::a=>by
  let b:=jK f k a;erw[B0,AU,Zu,KT.tup.injEq,Bp]at b ⊢;by_cases c:y=k
  .subst c;simp
  .rw[if_neg c,b];have:¬ k=y:=λe=>c e.symm;simp[this]
theorem jM(acc:U Be)(k:U At):Zu (B0 (B5 acc)) (.tup k)=(ZC acc k).map vC:=by
 let b:=(Zy AQ<|Zg acc).mem_iff (a:=k);rw[B5,jK];cases e:ZC acc k with
 |none=>rw[if_neg λz=>AF.mp e<|b.mp z];rfl
 |some p=>rw[if_pos<|b.mpr (ND λz=>by rw[AF.mpr z]at e;cases e)];rfl
section
variable{b1 b2:U Be}(n1:(Zg b1).Nodup)(n2:(Zg b2).Nodup)
theorem W5(k:U At):k∈DJ (B5 b1) (B5 b2)↔(k∈Zg b1\/k∈Zg b2)/\AS (C7 b1 k) (C7 b2 k)=O':=by
 rw[DJ,(Zy AQ _).mem_iff,Cj,GH,GH,jM,jM,Iv,Iv];erw[Bool.not_eq_true',decide_eq_false_iff_not,(Zy AQ<|Zg b1).mem_iff,(Zy AQ<|Zg b2).mem_iff];rw[show AS (((ZC b2 k).map vC).getD .non) (((ZC b1 k).map vC).getD .non)=AS (C7 b1 k) (C7 b2 k)from zC b2 b1 k];constructor
 .rintro(⟨h,e⟩|⟨h,a⟩)
  .show#[.inl h,e]
  .apply#[.inr h,?_];unfold C7;rw[AF.mpr a];cases e:ZC b2 k with
   |none=>show absurd h<|AF.mp e
   |some p=>rfl
 .intro zQ;let(h,e):=zQ;by_cases c:k∈Zg b1
  .show .inl #[c,e]
  .show .inr #[h.resolve_left c,c]
include n1 n2 in
theorem zF:(DJ (B5 b1) (B5 b2)).Nodup:=by
 rw[DJ,(Zy AQ _).nodup_iff,Iv,Iv];apply JV.mpr #[((Zy AQ _).nodup_iff.mpr n1).sublist WJ,((Zy AQ _).nodup_iff.mpr n2).sublist WJ,λa d b f e=>?_];subst e;let c:=(GH.mp f).2;erw[decide_eq_true (GH.mp d).1]at c;cases c
end
structure LC(n:Nat)(a b:List Be):Prop where
 lk:∀k,(ZC a k).map vC=(ZC b k).map vC
 gd:∀k∈Zg a,(∀x∈k,Gd x)/\k.length=n
 nd:(Zg b).Nodup
 ln:(Zg a).length<100
theorem LC.key{n:Nat}{a b:U Be}(h:LC n a b)(k:U At):k∈Zg a↔k∈Zg b:=by
 have:=h.lk k;constructor
 .intro m;apply ND λz=>?_;rw[AF.mpr z]at this;cases e:ZC a k with
  |none=>show AF.mp e m
  |some p=>rw[e]at this;cases this
 .intro m;apply ND λz=>?_;rw[AF.mpr z]at this;cases e:ZC b k with
  |none=>show AF.mp e m
  |some p=>rw[e]at this;cases this
section
variable{n:Nat}{NW:U D}{a1 a2 b1 b2:U Be}(h1:OL[j]?=Z (CT a1))(h2:NW[j]?=Z (CT a2))(c1:LC n a1 b1)(c2:LC n a2 b2){g:U Nat}(hg:gs[j]?=Z g)
include h1 h2 c1 c2 hg
theorem zG(T:U D)(P:T.length<=10000)(w m n:Sl):∃a c d,Q7 [#v[gs.map Az],#v[OL],#v[NW],#v[T],‹j›,w,m,n]=.next [#v[gs.map Az],#v[OL],#v[NW],#v[T++(DJ (B5 b1) (B5 b2)).map λk=>D.tup [Az g,Ai k]],‹j›,a,c,d]:=by
 let l1:=c1.ln;let K:=c2.ln;let(f,o,p,e,q,r,x,s):=jJ (s0:=#v[gs.map Az]) (s3:=#v[T]) h1 h2 (Zg a1++Zg a2) [] m n (λl y=>by
  rcases Cj.mp y with h|h
  .show c1.gd l h
  .show c2.gd l h) (by simp) (by simp;lia) (by simp) (by simp)
 let t:f=DJ (B5 b1) (B5 b2):=zE q (zF c1.nd c2.nd) r (Wu C3 _) λk=>by
  rw[s,W5,Cj,c1.key,c2.key];unfold C7;rw[c1.lk,c2.lk];simp
 rw[<- t];clear t q r s;let z:Au (.lst OL) (.int j)=Z (CT a1):=Zz h1;let A:Au (.lst NW) (.int j)=Z (CT a2):=Zz h2;let B:Au (.lst<|gs.map Az) (.int j)=Z (Az g):=Zz (by rw[CF,hg];rfl);let C:HB [CT a1]=Z ((Zg a1).map Ai):=by rw[Qj,RP]
 let E:HB [CT a2]=Z ((Zg a2).map Ai):=by rw[Qj,RP]
 let ad:Zo (.lst<|(Zg a1).map Ai) (.lst<|(Zg a2).map Ai)=Z (.lst<|(Zg a1++Zg a2).map Ai):=by
  rw[Uu _ _ (by simp;lia),DM]
 let G:=ZA (b:=Zc 0) (e:=Vk) (ρ:=[.no,#v[gs.map Az],‹j›]) Ai (λk=>D.tup [Az g,Ai k]) f λk _=>#[[.val<|Ai k,#v[gs.map Az],‹j›],rfl,by rwa[Vk,B]];rw[HU,Ea,IX]at x;let H:=ZB (f.map Ai) (by simp;lia);let i:Zo (.lst T) (.lst<|f.map λk=>D.tup [Az g,Ai k])=Z (.lst<|T++f.map λk=>D.tup [Az g,Ai k]):=Uu _ _ (by simp;lia);apply#[#v[f.map Ai],o,p,?_];rw[CW]at e;generalize gs.map Az=u,CT a1=N,CT a2=L,(Zg a1).map Ai=Q,(Zg a2).map Ai=M,(Zg a1++Zg a2).map Ai=K3,f.map Ai=F,(f.map λk=>D.tup [Az g,Ai k])=Y at *;rwa[Q7,show Zf (Z ([]:U D))=Z []from rfl,Z0,ZU,F5,z,C,A,E,ad,e,GY,JM,Zh,H,show ∀V W:Sl,Zv 1 [0,4] [#v[u],V,W,#v[T],‹j›,#v[F],o,p]=[.no,#v[u],‹j›]from λ_ _=>rfl,G,i]
end
theorem jN{n:Nat}{OL NW:U D}{gs:U (U Nat)}(h i b c:U Nat->U Be)(s:OL=gs.map λg=>CT (h g))(t:NW=gs.map λg=>CT (i g))(u:∀g∈gs,LC n (h g) (b g))(w:∀g∈gs,LC n (i g) (c g))(x:∀g∈gs,(DJ (B5 (b g)) (B5 (c g))).length<=200):∀(a pre:U (U Nat))(T:U D)(s4 d e f:Sl),gs=pre++a->T.length+200*a.length<=10000->∃j l m o,ZK (Zc 4) Q7 ((DT pre.length a.length).map λk:Nat=>D.int k) [#v[gs.map Az],#v[OL],#v[NW],#v[T],s4,d,e,f]=.next [#v[gs.map Az],#v[OL],#v[NW],#v[T++a.flatMap λg=>(DJ (B5 (b g)) (B5 (c g))).map λk=>D.tup [Az g,Ai k]],j,l,m,o]
 |[],pre,T,s4,d,e,f,_,_=>#[s4,d,e,f,by rw[List.flatMap_nil,D1];rfl]
 |g::a,pre,T,s4,d,e,f,p,z=>by
  let q:g∈gs:=by rw[p];simp
  let r:gs[pre.length]?=Z g:=by rw[p];simp
  rw[Ck]at z;let A:=x g q;let(B,C,E,G):=zG (OL:=OL) (NW:=NW) (by rw[s,CF,r];rfl) (by rw[t,CF,r];rfl) (u g q) (w g q) r T ∅ d e f;let(H,K,F,L,y):=jN h i b c s t u w x a (pre++[g]) (T++(DJ (B5<|b g)<|B5<|c g).map λk=>D.tup [Az g,Ai k]) ‹pre.length› B C E (by rw[p];simp) (by simp;lia);apply#[H,K,F,L,?_];rw[Ea,LX]at y;rw[List.flatMap_cons,<- C8,Ck,Ji,AU];rwa[ZK,G,y]
theorem zH{n:Nat}{NW:U D}(d f a b:U Nat->U Be)(i:OL=gs.map λg=>CT (d g))(j:NW=gs.map λg=>CT (f g))(l:∀g∈gs,LC n (d g) (a g))(m:∀g∈gs,LC n (f g) (b g))(o:∀g∈gs,(DJ (B5 (a g)) (B5 (b g))).length<=200)(q:gs.length<=12):Q8 [#v[gs.map Az],#v[OL],#v[NW]]=Z #v[gs.flatMap λg=>(DJ (B5 (a g)) (B5 (b g))).map λk=>D.tup [Az g,Ai k]]:=by
 let(r,s,t,u,e):=jN d f a b i j l m o gs [] [] .no .no .no .no (by simp) (by simp;lia);let h:=J9 gs.length ∅;rw[Kg]at h;let c:Zp [.lst<|gs.map Az]=Z (.int gs.length):=by simp
 rw[DU,HU]at e;generalize (gs.flatMap λg=>(DJ (B5<|a g)<|B5<|b g).map λk=>D.tup [Az g,Ai k])=Y,gs.map Az=p,(DT 0 gs.length).map (λk:Nat=>D.int k)=w at *;apply ZF rfl ?_;change Vl [#v[p],#v[OL],#v[NW],.no,.no,.no,.no,.no]=_
 rwa[Vl,show Zf (Z ([]:U D))=Z []from rfl,c,h,ZU,e]
theorem zI(Y:Sl)(g:U Nat)(k:U At)(d:g.length+k.length<=1000):QM [Y,.val (.tup [Az g,Ai k])]=.next [Y,.val (.tup [Az g,Ai k])]:=by
 let ad:=WR (gk g) k (by rw[Bn];show d);rw[GG]at ad;let ad:Zo (Az g) (Ai k)=Z (.tup<|(gk g++k).map aD):=ad;let c:=ZA (b:=Zc 0) (e:=UL) (ρ:=[.no]) aD (λ_=>D.bl O') (gk g++k) λa _=>#[[.val<|aD a],rfl,by
  rwa[UL,show CJ [aD a,.ty "bool"]=Z (.bl O') by cases a<;>rfl]]
 rw[show(gk g++k).map (λ_=>D.bl O')=((gk g++k).map λ_=>O').map D.bl by rw[CC];rfl]at c;let f:K1 [.lst<|((gk g++k).map λ_=>O').map D.bl]=Z (.bl O'):=by
  erw[K1,iR,El];rw[List.any_map];simp
 let q:=ZB ((gk g++k).map aD) (by simp;lia);let h:CJ [Ai k,.ty "tuple"]=Z (.bl J'):=rfl;let i:Au (.tup [Az g,Ai k]) (.int 1)=Z (Ai k):=rfl;let j:Au (.tup [Az g,Ai k]) (.int 0)=Z (Az g):=rfl;let l:Zp [.tup [Az g,Ai k]]=Z (.int 2):=rfl;let m:CJ [.tup [Az g,Ai k],.ty "tuple"]=Z (.bl J'):=rfl;generalize ((gk g++k).map λ_=>O').map D.bl=p,(gk g++k).map aD=r,D.tup [Az g,Ai k]=TT,Ai k=KK,Az g=s at *;rwa[QM,m,G8,l,show Co (.int 2) (.int 2)=Z (.bl O')from rfl,i,h,Zh,j,ad,q,show ∀n,Zv 1 [] n=[.no]from λ_=>rfl,c,f]
theorem jP(Y:Sl):∀(ys:U D)(s1:Sl),(∀d∈ys,∃g k,d=.tup [Az g,Ai k]/\g.length+k.length<=1000)->∃a,ZK (Zc 1) QM ys [Y,s1]=.next [Y,a]
 |[],s1,_=>#[s1,rfl]
 |d::ys,s1,h=>by
  let(g,k,rfl,b):=h d Ba;let(a,e):=jP Y ys (.val<|.tup [Az g,Ai k]) λx c=>h x<|Bg _ c;show⟨a,by rwa[ZK,zI Y g k b,e]⟩
theorem zJ(ys:U D)(h:∀d∈ys,∃g k,d=.tup [Az g,Ai k]/\g.length+k.length<=1000):UN [#v[ys]]=Z (.val (.bl J')):=by
 let(a,e):=jP #v[ys] ys .no h;apply ZF rfl ?_;change UM [#v[ys],.no]=_
 rwa[UM,ZU,e]
section
variable{L L':A2}{rs rs':U Row}(hL:L.length=L'.length)(hr:∀r∈rs,AO L r.1)(hr':∀r∈rs',AO L' r.1)
include hL hr hr'
theorem zK{a:U (U Nat)}(hz:∀g∈a,g.length=L.length)(e:L.length<=4):∀d∈Dd L L' rs rs' a,∃g k,d=.tup [Az g,Ai k]/\g.length+k.length<=1000:=λd hd=>by
 let(g,b,hd):=List.mem_flatMap.mp hd;let(k,c,rfl):=Bi.mp hd;apply#[g,k,rfl,?_];let gl:=hz g b;have:k.length=L.length:=by
  rcases((W5 k).mp c).1 with h|h
  .show(Kn gl hr).kl k h
  .show((Kn (gl.trans hL) hr').kl k h).trans hL.symm
 lia
omit hr'
theorem zL(a:U (U Nat)):A1 12 (.lst (Dd L L' rs rs' a))=J':=by
 show(Dd L L' rs rs' a).all (A1 11)=J'
 rw[DK];intro d hd;let(g,_,hd):=List.mem_flatMap.mp hd;let(k,_,rfl):=Bi.mp hd;show(A1 10 (Az g)&&(A1 10 (Ai k)&&J'))=J'
 rw[yZ,Lw];rfl
end
theorem LC.of{L:A2}(h:Ci L){a rs:U Row}(e:a.Perm rs)(c:∀r∈a,AO L r.1)(p:a.length<100){g:U Nat}(f:g.length=L.length):LC L.length (Cq L g a) (Cq L g rs):=by
 let ok:=Kn f c;let b:=Kn f λr m=>c r<|e.mem_iff.mpr m;apply⟨zB ok.nd b.nd ?_,λk i=>⟨?_,ok.kl k i⟩,b.nd,?_⟩
 .let j:=W3 (DH (qs L g) a) [];let l:=W3 (DH (qs L g) rs) [];rw[show E3 []=[]from rfl,D1]at j l;show j.trans<|(e.map _).trans l.symm
 .rcases jB _ _ k i with d|⟨r,d,rfl⟩
  .cases d
  .let(n,o,rfl):=Bi.mp d;show jA h.good<|c n o
 .unfold Zg;rw[Bn];have:=ok.len;lia
theorem jQ{L:A2}(h:Ci L){a:U Row}(c:∀r∈a,AO L r.1)(k:a.length<100)(gs:U (U Nat))(d:∀g∈gs,g.length=L.length)(f:gs.length<=12)(e:AH)(i:e=Rw\/e=Rx):Di (Zc 0) (λ_=>Z J') e [.no,.lent (L.map LD),.lent (a.map Zd)] (gs.map Az)=Z (gs.map λg=>CT (Cq L g a)):=ZA (b:=Zc 0) (e:=e) (ρ:=[.no,.lent<|L.map LD,.lent<|a.map Zd]) Az (λg=>CT<|Cq L g a) gs λg j=>#[[.val<|Az g,.lent<|L.map LD,.lent<|a.map Zd],rfl,by
  have:=yI h (d g j) a c ∅;rcases i with rfl|rfl
  .rwa[Rw,this,Fv]
  .rwa[Rx,this,Fv]]
theorem jR{L:A2}{c:Dc}:∀(cs:U Dc){rs:U Row},Ha L rs cs->AO L c.2.1->(c.1=O'->c.2∈cs.foldl Cf rs)->Ha L rs (cs++[c])
 |[],_,_,a,b=>#[#[a,b],trivial]
 |_::cs,_,⟨g,h⟩,a,b=>#[g,jR cs h a b]
theorem jS{L:A2}:∀(cs:U Dc){rs rs':U Row},rs.Perm rs'->Ha L rs cs->Ha L rs' cs
 |[],_,_,_,_=>trivial
 |c::cs,_,_,h,⟨⟨a,b⟩,g⟩=>#[#[a,λe=>h.mem_iff.mp<|b e],jS cs (jm c h) g]
theorem zM(R:U Row):Co (.lst (R.map Zd)) (.lst [])=Z (.bl (!R.isEmpty)):=by
 rw[jC (show A1 12 (.lst<|R.map Zd)=J' from by
  show(R.map Zd).all (A1 11)=J'
  rw[DK];intro d hd;let(r,_,rfl):=Bi.mp hd;show Se 9 r) rfl]
 cases R<;>rfl
theorem Nj{G:Gh}{n:Nat}{ss:U IV}(h:G[n]?=Z (.dat .l xs))(a:xs.length<1000)(d:D):Fi (Z n) (Z d) (ss,G)=Z (.val .non,G.set n (.dat .l (xs++[d]))):=by
 erw[Fi,h,if_pos (show xs.length<AB from B7 a (by ext))]
section
variable{L:A2}{a b q m:Nat}{G:Gh}{R:U Row}{cs:U Dc}{ws:U Int}{c:Int}
theorem zN(h:Ci L)(ha:G[a]?=Z (.dat .l (L.map LD)))(x:G[q]?=Z (.dat .l (R.map Zd)))(hm:G[m]?=Z (.dat .l (cs.map BP)))(M:q≠m)(haq:a≠q)(hR:∀r∈R,AO L r.1)(hl:R.length<100)(hc:cs.length<100)(hw:ws.length=14){k:Nat}(hk:k<6)(x7:IV):∃(d:Dc) (N:IV),M0 ([.cel b,.cel a,.cel q,‹c›,#v[ws.map D.int],.cel m,‹k›,x7],G)=.next ([.cel b,.cel a,.cel q,‹c›,#v[ws.map D.int],.cel m,‹k›,N],(G.set q (.dat .l ((Cf R d).map Zd))).set m (.dat .l ((cs++[d]).map BP)))/\AO L d.2.1/\(d.1=O'->d.2∈R):=by
 obtain⟨f,F⟩:∃w,Au (.lst<|ws.map D.int) (.int<|1+(k:Int))=Z (.int w):=#[_,GC ∅ ∅];obtain⟨u,p⟩:∃w,Au (.lst<|ws.map D.int) (.int<|7+(k:Int))=Z (.int w):=#[_,GC ∅ ∅];let vq:=E2 x;let nn:=zM R;let Q:=CM f 5 (by ext);let n:Dj (.int<|f%5) (.int 3)=Z (.bl<|decide<|f%5<3):=rfl;let T:(cs.map BP).length<1000:=by simp;lia
 let lq:(R.map Zd).length<1000:=by simp;lia
 let s:∀X,(G.set q X)[m]?=Z (.dat .l<|cs.map BP):=λX=>by rw[ZD<|Bz M];show hm
 by_cases y:R.isEmpty=O'/\f%5<3
 .let hn:R.length≠0:=λz=>by rw[NP.mp z]at y;cases y.1
  rw[y.1]at nn;rw[decide_eq_true y.2]at n;let o:Zp [.lst<|R.map Zd]=Z (.int R.length):=by simp
  let K:=CM u (R.length:Int) ∅;obtain⟨i,hi,A⟩:∃i:Nat,u%(R.length:Int)=(i:Int)/\i<R.length:=#[(u%(R.length:Int)).toNat,by rw[MW<|Iu _ ∅],by have:=Jj u (show(0:Int)<R.length by lia);have:=Iu u (show(R.length:Int)≠0 by lia);lia];rw[hi]at K;let xr:Au (.lst<|R.map Zd) (.int i)=Z (Zd R[i]):=Zz (by rw[CF,Ch A];rfl);let g:R[i]∈R:=F7 A;generalize R[i]=r at *;let E:=Pb r;let d5:=Iq f 5 (by ext) (by ext);let m3:=CM (f/5) 3 (by ext);let gt:EX (.int<|f/5%3) (.int 0)=Z (.bl<|decide<|0<f/5%3):=rfl;let ek:=O4 (k:Int) 0;let fc:∀H,BF 2 (BP (H,r))=J':=λH=>by
   show(BF 2 (G7 H)&&(BF 2 (Ai r.1)&&(BF 2 (.int r.2)&&J')))=J'
   rw[Gf];cases H<;>rfl
  by_cases P:0<f/5%3\/(k:Int)=0
  .apply#[(O',r),.val<|Zd r,?_,hR r g,λ_=>g];let t:Dp (Z<|decide<|0<f/5%3) (Z<|decide<|(k:Int)=0)=Z J':=by
    rcases P with z|z
    .rw[decide_eq_true z];rfl
    .rw[decide_eq_true z];cases decide (0<f/5%3)<;>rfl
   let B:=ji (xs:=[.cel b,.cel a,.cel q,‹c›,#v[ws.map D.int],.cel m,‹k›,.val<|Zd r]) g x;let C:=Nj (ss:=[.cel b,.cel a,.cel q,‹c›,#v[ws.map D.int],.cel m,‹k›,.val<|Zd r]) (s<|.dat .l<|(R.erase r).map Zd) T (BP (O',r));let ad:Zo (.tup [.str "-"]) (Zd r)=Z (BP (O',r)):=rfl;let j:=fc O';unfold Cf;rw[DM,AU,CW,cond_false];generalize BP (O',r)=CH,(R.erase r).map Zd=RE,cs.map BP=CS,R.map Zd=RR,Zd r=ZR,ws.map D.int=WS,L.map LD=W at *;rwa[M0,vq,show Zf (Z ([]:U D))=Z []from rfl,nn,F,Q,n,p,o,K,xr,E,d5,m3,gt,ek,B,Cz,ad,j,C];revert t;cases decide (0<f/5%3)<;>cases decide ((k:Int)=0)<;>intro t<;>first|rfl|cases t
  .apply#[(J',r),.val<|Zd r,?_,hR r g,λz=>by cases z];rw[not_or]at P;let t:Dp (Z<|decide<|0<f/5%3) (Z<|decide<|(k:Int)=0)=Z O':=by
    rw[decide_eq_false P.1,decide_eq_false P.2];rfl
   let B:=Nj (ss:=[.cel b,.cel a,.cel q,‹c›,#v[ws.map D.int],.cel m,‹k›,.val<|Zd r]) x lq (Zd r);let C:=Nj (ss:=[.cel b,.cel a,.cel q,‹c›,#v[ws.map D.int],.cel m,‹k›,.val<|Zd r]) (s<|.dat .l<|R.map Zd++[Zd r]) T (BP (J',r));let ad:Zo (.tup [.str "+"]) (Zd r)=Z (BP (J',r)):=rfl;let j:=fc J';unfold Cf;rw[DM,AU,CW,cond_true,DM,AU,CW];generalize BP (J',r)=CH,cs.map BP=CS,R.map Zd=RR,Zd r=ZR,ws.map D.int=WS,L.map LD=W at *;rwa[M0,vq,show Zf (Z ([]:U D))=Z []from rfl,nn,F,Q,n,p,o,K,xr,E,d5,m3,gt,ek,B,Cz,ad,j,C];revert t;cases decide (0<f/5%3)<;>cases decide ((k:Int)=0)<;>intro t<;>first|rfl|cases t
 .let(r,hr,er):=iP h<|c/((k:Int)+2)+u;let E:=Pb r;let j:BF 2 (BP (J',r))=J':=by
   show(BF 2 (G7 J')&&(BF 2 (Ai r.1)&&(BF 2 (.int r.2)&&J')))=J'
   rw[Gf];rfl
  let B:=Nj (ss:=[.cel b,.cel a,.cel q,‹c›,#v[ws.map D.int],.cel m,‹k›,x7]) x lq (Zd r);let C:=Nj (ss:=[.cel b,.cel a,.cel q,‹c›,#v[ws.map D.int],.cel m,‹k›,x7]) (s<|.dat .l<|R.map Zd++[Zd r]) T (BP (J',r));let ad:Zo (.tup [.str "+"]) (Zd r)=Z (BP (J',r)):=rfl;let la:Au (.lst<|R.map Zd++[Zd r]) (.int (-1))=Z (Zd r):=hZ _ _;let Y:Ef (Z<|!R.isEmpty) (Z<|decide<|f%5<3)=Z O':=by
   cases e:R.isEmpty with
   |true=>rfl
   |false=>rw[decide_eq_false λz=>y #[e,z]];rfl
  apply#[(J',r),x7,?_,hr,λz=>by cases z];unfold Cf;rw[DM,AU,CW,cond_true,DM,AU,CW];generalize BP (J',r)=CH,cs.map BP=CS,R.map Zd=RR,Zd r=ZR,ws.map D.int=WS,L.map LD=W,(!R.isEmpty)=e1,decide (f%5<3)=e2 at *;rwa[M0,vq,E2 ha,show Zf (Z ([]:U D))=Z []from rfl,nn,F,Q,n,Iq c ((k:Int)+2) ∅ ∅,p,er,E,B,Cz,E2<|EB x,la,ad,j,C];revert Y;cases e1<;>cases e2<;>intro Y<;>first|rfl|cases Y
end
theorem jU{L:A2}(h:Ci L){a b q m:Nat}(f:q≠m)(j:a≠q)(o:a≠m){ws:U Int}(z:ws.length=14){c:Int}{g:U Row}(A:∀r∈g,AO L r.1)(u:g.length<50):∀(n k:Nat)(cs:U Dc)(G:Gh)(x6 x7:IV),k+n<=6->cs.length+n<=6->Ha L g cs->G[a]?=Z (.dat .l (L.map LD))->G[q]?=Z (.dat .l ((cs.foldl Cf g).map Zd))->G[m]?=Z (.dat .l (cs.map BP))->∃(e:U Dc) (G':Gh) (w x:IV),EY 6 M0 ((DT k n).map λk:Nat=>D.int k) ([.cel b,.cel a,.cel q,‹c›,#v[ws.map D.int],.cel m,x6,x7],G)=.next ([.cel b,.cel a,.cel q,‹c›,#v[ws.map D.int],.cel m,w,x],G')/\Ha L g e/\e.length<=6/\G'[q]?=Z (.dat .l ((e.foldl Cf g).map Zd))/\G'[m]?=Z (.dat .l (e.map BP))/\G'.length=G.length/\∀i,i≠q->i≠m->G'[i]?=G[i]?
 |0,k,cs,G,x6,x7,_,B,p,y,s,t=>#[cs,G,x6,x7,rfl,p,B,s,t,rfl,λ_ _ _=>rfl]
 |n+1,k,cs,G,x6,x7,hk,B,p,y,s,t=>by
  let ln:=Pc cs g;let(d,H,R,F,M):=zN (b:=b) (c:=c) h y s t f j (Sf cs A p) ∅ ∅ z (show k<6 by lia) x7;let(e,G',N,K,Q,T,P,Y,r4,r5,r6):=jU h (b:=b) f j o z (c:=c) A u n (k+1) (cs++[d]) ((G.set q<|.dat .l<|(Cf (cs.foldl Cf g) d).map Zd).set m<|.dat .l<|(cs++[d]).map BP) ‹k› H ∅ (by simp;lia) (jR cs p F M) (by rw[ZD o,ZD j];show y) (by rw[ZD f,List.foldl_append];show EB s) (EB<|ZD (Bz f) ▸ t);apply⟨e,G',N,K,?_,T,P,Y,r4,by rw[r5];simp,λi C E=>by rw[r6 i C E,ZD E,ZD C]⟩;rw[Ji,AU];rwa[EY,R,Q]
structure DR(L:A2)(R rs:List Row)(gs:List (List Nat))(a b q j:Nat)(Y:List D)(G G':Gh):Prop where
 bs:BS L rs gs b (G'.set j (.dat .l []))
 pm:R.Perm rs
 la:G'[a]?=Z (.dat .l (L.map LD))
 lr:G'[q]?=Z (.dat .l (R.map Zd))
 tl:G'[j]?=Z (.dat .l Y)
 jn:G.length<=j
 ex:∀i,i≠a->i≠b->i≠q->i<G.length->G'[i]?=G[i]?
theorem BS.set{L:A2}{rs:U Row}{b:Nat}{G:Gh}(s:BS L rs gs b G)(e:b≠j)(f:∀t,G[b]?=Z (BJ L (rs.map Zd) t)->t≠j)(c:Cl):BS L rs gs b (G.set j c):=by
 let(g,h,i,k,l,t,d,m,a):=s;show#[g,h,i,k,l,t,by rw[ZD e];show d,by rw[ZD<|f t d];show m,a]
theorem BS.same{L:A2}{rs:U Row}{b:Nat}{G:Gh}(s:BS L rs gs b G)(d:G'[b]?=G[b]?)(e:∀t,G[b]?=Z (BJ L (rs.map Zd) t)->G'[t]?=G[t]?):BS L rs gs b G':=by
 let(f,g,h,i,j,t,c,k,a):=s;show#[f,g,h,i,j,t,d.trans c,(e t c).trans k,a]
theorem EC{G:Gh}{i:Nat}{c:Cl}(h:G[i]?=Z c):i<G.length:=(Cm.mp h).1
theorem Ko{L:A2}{rs:U Row}{b q t:Nat}{G:Gh}(s:BS L rs gs b G)(c:G[q]?=Z (.dat .l xs))(d:G[b]?=Z (BJ L (rs.map Zd) t)):t≠q/\b≠q:=by
 let(_,_,_,_,_,f,a,e,_):=s;rw[a]at d;have:f=t:=by simpa[BJ]using d
 subst this;show#[λz=>(by rw[z,c]at e;cases e),λz=>(by rw[z,c]at a;cases a)]
theorem zO{L:A2}{R rs:U Row}{a b q:Nat}{G:Gh}(s:BS L rs gs b G)(pm:R.Perm rs)(F:G[a]?=Z (.dat .l (L.map LD)))(K:G[q]?=Z (.dat .l (R.map Zd)))(u:a≠q)(hl:R.length<50)(c:Int):∃j R' rs' G',Rt [.cel b,.cel a,.cel q,‹c›] G=Z (.cel j,G')/\DR L R' rs' gs a b q j (Dd L L rs rs' (Zm BI gs)) G G'/\R'.length<=R.length+6:=by
 let(g,es,hw,_):=O5 c 14 (by ext);let Q:=GC (xs:=g) (i:=0) (by ext) ∅;let Q:Au (.lst<|g.map D.int) (.int 0)=_:=Q;let m6:=CM (g.getD (0:Int).toNat 0) 6 (by ext);obtain⟨n,hn,hn6⟩:∃n:Nat,1+g.getD (0:Int).toNat 0%6=(n:Int)/\n<=6:=#[(1+g.getD (0:Int).toNat 0%6).toNat,∅,∅];let lb:b<G.length:=by let(t,h,_):=s.bk;show EC h
 let la:=EC F;let lq:=EC K;let(f,w,y6,y7,e,ho,hc6,x,y,A,B):=jU s.gl (b:=b) (a:=a) (q:=q) (m:=G.length) (c:=c) ∅ u ∅ hw (λr hm=>s.sp r<|pm.mem_iff.mp hm) hl n 0 [] (G++[.dat .l []]) .no .no ∅ (by simp;lia) trivial (FO F) (FO K) (by simp);rw[Ea,LX]at A;let(t,h,hT,hbt):=s.bk;let(tq,T):=Ko s K h;let E:∀i,i≠q->i<G.length->(w.set G.length .dead)[i]?=G[i]?:=λi M H=>by rw[ZD ∅,B i M ∅,D9 H]
 let s2:BS L rs gs b (w.set G.length .dead):=s.same (E b T lb) λP N=>by
  have:t=P:=by rw[h]at N;simpa[BJ]using N
  subst this;show E t tq<|EC hT
 let(j,G',ep,o):=js s2 (cs:=f) (by have:=pm.length_eq;lia) (jS f pm ho);let d:(w.set G.length Cl.dead).length=G.length+1:=by simp[A]
 let Y:=o.jb;rw[d]at Y;let p:∀i,i≠b->i≠q->i<G.length->G'[i]?=G[i]?:=λi M H h3=>by rw[o.ex i M (by rw[d];lia),E i H h3]
 apply#[j,f.foldl Cf R,Zm CP<|f.foldl Cf rs,G',?_,⟨o.bs.set ∅ (λP N=>(o.tj P N).1) _,(jq f pm).trans (Zy CP _).symm,?_,?_,o.tl,∅,λi M H h3 h4=>p i H h3 h4⟩,Bu (Pc f R) ∅]
 .let fs:w[G.length]?=Z (.dat .l<|f.map BP):=y;let hri:Li (.int n)=Z ((DT 0 n).map λk:Nat=>D.int k):=by
   change gd (-1000000000<=(n:Int)/\(n:Int)<1000000000) (Z<|GN 0 (n:Int).toNat)=_
   rw[KS ∅,GR,Kg.symm];simp[GN]
  let S:(w.set G.length Cl.dead)[b]?=Z (BJ L (rs.map Zd) t):=(E b T lb).trans h;clear x B y o p d E s2;generalize f.map BP=C,g.map D.int=WS,(DT 0 n).map (λk:Nat=>D.int k)=RG,g.getD (0:Int).toNat 0=w0 at *;suffices e2:Wm ([.cel b,.cel a,.cel q,‹c›,.no,.no,.no,.no],G)=.ret (.cel j) G' from G9 (fi rfl e2) rfl
  rwa[Wm,show ZP [‹c›,‹14›]=Z #v[WS]from es,show Zf (Z ([]:U D))=Z []from rfl,jG,jL,show C0 2 []=J' from rfl,xC,Q,m6,hn,hri,HE,e,QA,Qz,fs,Ez,S,show EZ "Book" "pour" (BJ L (rs.map Zd) t)=J' by rwa[EZ,jr],EC S,and_self,ep,Ek]
 .by_cases z:a=b
  .subst z;rw[F]at h;cases h
  .show(p a z u la).trans F
 .rw[o.ex q (Bz T) (by rw[d];lia),ZD ∅];show x
theorem zP{L:A2}{rs:U Row}{b k n p:Nat}{G:Gh}(s:BS L rs gs b G)(w:rs.length<=100){c:BG}(A:L[k]?=Z c)(u:GL c p)(e:n+1<p){l q:U At}(f:l∈c)(B:q∈c){v:At}(F:l.getD n .non=v):∃j G',Rp [.cel b,‹k›,‹n›,.val (aD v),.val (aD (q.getD (n+1) .non))] G=Z (.cel j,G')/\RN (L.set k (rgp c n v q)) rs gs b j (Dd L (L.set k (rgp c n v q)) rs rs (Zm BI gs)) G G':=by
 let(h,C,E,m,o,t,x,M,y):=s;let lb:=EC x;let H:(G.set b (BJ (L.set k<|rgp c n v q) (rs.map Zd) G.length)++[.dat .d<|Zb<|A5 (L.set k<|rgp c n v q) rs gs,.dat .l<|Dd L (L.set k<|rgp c n v q) rs rs<|Zm BI gs])[b]?=Z (BJ (L.set k<|rgp c n v q) (rs.map Zd) G.length):=by
  rw[D9 (by exists lb)];show EB x
 apply#[_,_,(zl h x M y C w E m o A u e f B F),#[#[h.set k<|u.rgp e v B,λr f=>(C r f).set (λa N=>by rw[WQ λl w=>u.len l w ▸ u.p1];show N) A,E,λg f=>by rw[Jw];show m g f,o,G.length,H,?_,∅],?_,∅,λQ P=>?_,λi K z=>?_]]
 .rw[Fp (by simp)];simp
 .rw[Fp (by simp)];simp
 .rw[H]at P;have:=EE P;simp[BJ]at this;lia
 .rw[D9 (by exists z),ZD K]
section
variable{G:Gh}{a b k n:Nat}{c:Int}{xs:U IV}{x3 x4 x6:IV}{v:At}{q:U At}
theorem zQ(e:G[a]?=Z (.mix .l xs))(f:xs[k]?=Z (.cel j)){acc:U D}(g:G[j]?=Z (.dat .l acc))(m:acc.length<100){l:U At}(h:n+1<l.length)(p:l.length<=4)(o:q.length<=4):OZ ([.cel b,.cel a,‹c›,x3,x4,‹k›,x6,‹n›,.val (aD v),.val (Ai q),.val (Ai l)],G)=.next ([.cel b,.cel a,‹c›,x3,x4,‹k›,x6,‹n›,.val (aD v),.val (Ai q),.val (Ai l)],G.set j (.dat .l (acc++[Ai (En n v q l)]))):=by
 let eq:CG (aD<|l.getD n .non) (aD v)=Z (.bl<|decide<|l.getD n .non=v):=by
  erw[CG,FJ,Lv,HG,if_true,Lu]
 let ad:=WR (l.take<|n+1) (q.drop<|n+1) (by simp;lia);let i:acc.length<AB:=B7 m (by ext);unfold En;by_cases d:l.getD n .non=v
 .rw[decide_eq_true d]at eq;rw[if_pos d];rwa[OZ,Ng<|Fe h,eq,Eu,EG,iZ l n,WF q n,ad,Gf 2,Kb,MU,e,Zz f,Fi,g,if_pos i,Cz]
 .rw[decide_eq_false d]at eq;rw[if_neg d];rwa[OZ,Ng<|Fe h,eq,Kb,MU,e,Zz f,Fi,g,if_pos i,Cz]
theorem zR(h:xs[k]?=Z (.cel j))(i:a≠j)(m:q.length<=4):∀(f:BG)(acc:U D)(G:Gh)(x10:IV),(∀l∈f,n+1<l.length/\l.length<=4)->acc.length+f.length<100->G[a]?=Z (.mix .l xs)->G[j]?=Z (.dat .l acc)->∃d,EY 10 OZ (f.map Ai) ([.cel b,.cel a,‹c›,x3,x4,‹k›,x6,‹n›,.val (aD v),.val (Ai q),x10],G)=.next ([.cel b,.cel a,‹c›,x3,x4,‹k›,x6,‹n›,.val (aD v),.val (Ai q),d],G.set j (.dat .l (acc++(f.map (En n v q)).map Ai))):=by
 intro f;induction f with|nil=>show λacc G x10 _ _ _ g=>#[x10,by erw[CW,D1,jf g,EY]]|cons l f s=>
  intro acc G x10 o p r g;rw[Ck]at p;let(d,e):=s (acc++[Ai<|En n v q l]) (G.set j<|.dat .l<|acc++[Ai<|En n v q l]) (.val<|Ai l) (λx h=>o x<|Bg _ h) (by rw[Ea,LX];lia) (by rw[ZD i];show r) (EB g);rw[List.set_set,C8]at e;have:=zQ (b:=b) (c:=c) (x3:=x3) (x4:=x4) (x6:=x6) (v:=v) r h g (FA p) (o l Ba).1 (o l Ba).2 m;show#[d,by rwa[EY,this,e,List.singleton_append]]
end
theorem jV:∀xs:U D,MV (xs.map IV.val)=Z xs
 |[]=>rfl
 |x::xs=>by change Zr (Z x) (MV<|xs.map IV.val)=_;rw[jV xs];rfl
theorem zS(L:A2)(rs:U Row)(a:U (U Nat)):Dd L L rs rs a=[]:=by
 rw[Dd,List.flatMap_eq_nil_iff];intro g _;rw[List.map_eq_nil_iff];cases e:DJ (B5<|Cq L g rs) (B5<|Cq L g rs)with
 |nil=>rfl
 |cons k r=>
  have:=((W5 k).mp<|e ▸ Ba).2;rw[Te 12 _<|W4 _ _]at this;cases this
theorem zT(ns:U Nat):CG (.lst (ns.map λn:Nat=>D.int n)) (.lst [])=Z (.bl ns.isEmpty):=by
 have:A1 12 (.lst (ns.map λn:Nat=>D.int n))=J':=by
  show(ns.map λn:Nat=>D.int n).all (A1 11)=J'
  rw[DK];intro d hd;let(j,_,rfl):=Bi.mp hd;rfl
 erw[CG,FJ,this,show A1 12 (.lst [])=J' from rfl,HG,if_true];cases ns<;>rfl
theorem Sg(w:Int){n:Nat}(h:0<n):∃i:Nat,w%(n:Int)=(i:Int)/\i<n:=#[(w%(n:Int)).toNat,by rw[MW<|Iu _ ∅],by have:=Jj w (show(0:Int)<n by lia);have:=Iu w (show(n:Int)≠0 by lia);lia]
theorem zU{L:A2}{R rs:U Row}{a b q:Nat}{G:Gh}(s:BS L rs gs b G)(pm:R.Perm rs)(C:G[a]?=Z (.dat .l (L.map LD)))(T:G[q]?=Z (.dat .l (R.map Zd)))(haq:a≠q)(hl:R.length<50)(c:Int):∃j L' G',Rr [.cel b,.cel a,‹c›] G=Z (.cel j,G')/\DR L' R rs gs a b q j (Dd L L' rs rs (Zm BI gs)) G G'/\L.length=L'.length:=by
 let(zA,es,hw,_):=O5 c 4 (by ext);obtain⟨w0,x0⟩:∃w,Au (.lst<|zA.map D.int) (.int 0)=Z (.int w):=#[_,GC (by ext) ∅];obtain⟨w1,x1⟩:∃w,Au (.lst<|zA.map D.int) (.int 1)=Z (.int w):=#[_,GC (by ext) ∅];obtain⟨w2,x2⟩:∃w,Au (.lst<|zA.map D.int) (.int 2)=Z (.int w):=#[_,GC (by ext) ∅];obtain⟨w3,x3⟩:∃w,Au (.lst<|zA.map D.int) (.int 3)=Z (.int w):=#[_,GC (by ext) ∅];let h4:=s.gl.n4;let la:=EC C;let lq:=EC T;let lb:b<G.length:=by let(t,m,_):=s.bk;show EC m
 let ne:a≠b/\b≠q:=by
  let(t,m,_):=s.bk;show#[λz=>(Ko s C m).2 z.symm,(Ko s T m).2]
 let o:∀{k:Nat} {f:BG},L[k]?=Z f->∃p l0,GL f p/\Au (.lst<|L.map LD) (.int k)=Z (LD f)/\Au (LD f) (.int 0)=Z (Ai l0)/\Zp [Ai l0]=Z (.int p):=λ{k f} P=>by
  let(p,g):=s.gl.good f<|LO P;let n1:=g.n1;apply#[p,f[0],g,Zz (by rw[CF,P];rfl),Zz (by rw[CF,Ch ∅];rfl),?_];rw[<- g.len f[0] (F7 _)];simp[Ai]
 let hc:=Na (b:=Zc 0) (t:=Wk) (e:=fN) (ρ:=[.no,#v[L.map LD]]) (λk:Nat=>D.int k) (λk:Nat=>D.int k) (λk=>decide<|1<wh (L.getD k [])) (Bt L.length) λk x=>#[[‹k›,#v[L.map LD]],rfl,by
  let x:=ED.mp x;let(p,l0,g,i1,i2,i3):=o<|Ch x;rw[show L.getD k []=L[k] by simp[DP,x],g.wh];show#[by rwa[Wk,i1,i2,i3,show EX (.int p) (.int 1)=Z (.bl<|decide<|1<p)from by
   change Z (D.bl<|decide<|(1:Int)<(p:Int))=_
   rw[decide_eq_decide.mpr (show(1:Int)<(p:Int)↔1<p by lia)]],rfl]]
 let hsub:∀k∈(Bt L.length).filter (λk=>decide<|1<wh (L.getD k [])),k<L.length/\1<wh (L.getD k []):=λk x=>by
  let(B,E):=GH.mp x;show#[ED.mp B,of_decide_eq_true E]
 generalize (Bt L.length).filter (λk=>decide<|1<wh (L.getD k []))=S at *;let F:Zp [.lst<|L.map LD]=Z (.int L.length):=by simp
 let hr:=J9 L.length ∅;let q1:=ZB ((Bt L.length).map λk:Nat=>D.int k) (by simp;lia);let en:=zT S;let fS:C0 2 (S.map λn:Nat=>D.int n)=J':=Gz λd hd=>by let(j,_,rfl):=Bi.mp hd;rfl
 let hin:∀V:Sl,Zv 1 [1] [V,#v[L.map LD],‹c›,#v[zA.map D.int],.no,.no,.no,.no,.no,.no,.no]=[.no,#v[L.map LD]]:=λ_=>rfl;by_cases hS:S.isEmpty=J'
 .apply#[G.length,L,G++[.dat .l []],?_,#[?_,pm,FO C,FO T,by rw[zS];simp,A4 _,λi _ _ _ hi=>D9 hi],rfl]
  .rw[hS]at en;generalize (S.map λn:Nat=>D.int n)=SS,(Bt L.length).map (λk:Nat=>D.int k)=RG,zA.map D.int=WS,L.map LD=W at *;suffices e2:O0 ([.cel b,.cel a,‹c›,.no,.no,.no,.no,.no,.no,.no,.no],G)=.ret (.cel G.length) (G++[.dat .l []])from G9 (fi rfl e2) rfl
   rwa[O0,show ZP [‹c›,‹4›]=Z #v[WS]from es,E2 C,Zh,hin,F,hr,q1,hc,jG,jL,fS,xF,show Zf (Z ([]:U D))=Z []from rfl,en,show C0 2 []=J' from rfl,xC,Ek]
  .apply s.same (by rw[ZD ∅,D9 lb]) λt e=>?_;let(t',m,hT,_):=s.bk;have:t=t':=by rw[m]at e;have:=EE e;simp[BJ]at this;show this.symm
   subst this;have:=EC hT;rw[ZD ∅,D9 this]
 .rw[PX]at hS;rw[hS]at en;let hS0:0<S.length:=by cases S with|nil=>cases hS|cons _ _=>simp
  let lS:Zp [.lst (S.map λn:Nat=>D.int n)]=Z (.int S.length):=by simp
  let mS:=CM w0 (S.length:Int) ∅;let(i,hi,hi2):=Sg w0 hS0;rw[hi]at mS;let xS:Au (.lst (S.map λn:Nat=>D.int n)) (.int i)=Z (.int S[i]):=Zz (by rw[CF,Ch hi2];rfl);let(x,hw1):=hsub S[i]<|F7 hi2;generalize S[i]=k at *;let P:L[k]?=Z (L.getD k []):=by simp[DP,x]
  generalize L.getD k []=f at *;let(p,l0,g,i1,i2,i3):=o P;rw[g.wh]at hw1;let n1:=g.n1;let n6:=g.n6;let mp:=CM w1 ((p:Int)-1) ∅;let(n,hn,hn2):=Sg w1 (show 0<p-1 by lia);rw[show((p-1:Nat):Int)=(p:Int)-1 by lia]at hn;rw[hn]at mp;let lls:Zp [LD f]=Z (.int f.length):=by simp
  let ml2:=CM w2 (f.length:Int) ∅;let ml3:=CM w3 (f.length:Int) ∅;let(u,hu,hu2):=Sg w2 n1;let(z,hz,hz2):=Sg w3 n1;rw[hu]at ml2;rw[hz]at ml3;let xu:Au (LD f) (.int u)=Z (Ai f[u]):=Zz (by rw[CF,Ch hu2];rfl);let xz:Au (LD f) (.int z)=Z (Ai f[z]):=Zz (by rw[CF,Ch hz2];rfl);let mu:f[u]∈f:=F7 hu2;let mz:f[z]∈f:=F7 hz2;generalize f[u]=l,f[z]=y at *;let xl:Au (Ai l) (.int n)=Z (aD<|l.getD n .non):=Ng (by rw[g.len l mu];lia);let xy:Au (Ai y) (.int<|(n:Int)+1)=Z (aD<|y.getD (n+1) .non):=Ng (j:=n+1) (by rw[g.len y mz];lia);obtain⟨v,hv⟩:∃v,l.getD n .non=v:=#[_,rfl];rw[hv]at xl;obtain⟨j,hj⟩:∃j,G.length=j:=#[_,rfl];let h:a≠j:=∅
  let K:(((L.map LD).map IV.val).set k<|.cel j)[k]?=Z (.cel j):=ER (by exists x);let st:setIt (.dat .l<|L.map LD) k (.cel j)=.mix .l (((L.map LD).map IV.val).set k<|.cel j):=rfl;let e3:∀Y,MV ((((L.map LD).map IV.val).set k<|.cel j).set k<|.val<|.lst Y)=Z ((L.map LD).set k<|.lst Y):=λY=>by rw[List.set_set,<- List.map_set,jV]
  let ij:Eb ((L.map LD).map IV.val).length (k:Int)=Z k:=by
   erw[Eb,Bn];rw[if_pos<|Lk k,if_pos<|M8.mpr x];rfl
  generalize hX:((L.map LD).map IV.val).set k (.cel j)=X at *;let ga:((G++[Cl.dat .l []]).set a<|.mix .l X)[a]?=Z (.mix .l X):=EB<|FO C;let gj:((G++[Cl.dat .l []]).set a<|.mix .l X)[j]?=Z (.dat .l []):=by
   rw[ZD<|Bz h,Fp<|LM hj,hj];simp
  let oth:∀i,i≠a->i<G.length->((G++[Cl.dat .l []]).set a<|.mix .l X)[i]?=G[i]?:=λi B E=>by
   rw[ZD B,D9 E]
  generalize hG1:(G++[Cl.dat .l []]).set a (.mix .l X)=G1 at *;let(x10,el):=zR (b:=b) (c:=c) (x3:=#v[zA.map D.int]) (x4:=#v[S.map λn:Nat=>D.int n]) (x6:=.val<|LD f) (n:=n) (v:=v) K h (g.len y mz ▸ g.p4) f [] G1 .no (λl hl=>g.len l hl ▸ #[∅,g.p4]) (by simp;lia) ga gj;rw[DU]at el;generalize hY:(f.map<|En n v y).map Ai=Y at *;obtain⟨M,r⟩:∃M,((G1.set j<|.dat .l Y).set j .dead).set a (.dat .l<|(L.map LD).set k<|.lst Y)=M:=#[_,rfl];let g2a:M[a]?=Z (.dat .l<|(L.set k<|rgp f n v y).map LD):=by
   rw[<- r,EB (show _=Z (Cl.mix .l X) by rw[ZD h,ZD h];show ga),List.map_set,<- hY];rfl
  let Q:∀i,i≠a->i<G.length->M[i]?=G[i]?:=λi B E=>by
   rw[<- r,ZD B,ZD ∅,ZD ∅];show oth i B E
  let H:M.length=G.length+1:=by rw[<- r];simp[show G1.length=G.length+1 by rw[<- hG1];simp]
  let(t,m,hT,hbt):=s.bk;let(ta,_):=Ko s C m;let(tq,_):=Ko s T m;let s2:BS L rs gs b M:=s.same (Q b (Bz ne.1) lb) λt' e'=>by
   have:t=t':=by rw[m]at e';have:=EE e';simp[BJ]at this;show this
   subst this;show Q t ta<|EC hT
  let(jj,G',er,N):=zP s2 (by have:=pm.length_eq;lia) P g (show n+1<p by lia) mu mz hv;let hjn:=N.jb;rw[H]at hjn;let ex2:∀i,i≠a->i≠b->i<G.length->G'[i]?=G[i]?:=λi B E h3=>by rw[N.ex i E (by rw[H];lia),Q i B h3]
  apply#[jj,L.set k<|rgp f n v y,G',?_,⟨N.bs.set ∅ (λt' e'=>(N.tj t' e').1) _,pm,?_,?_,N.tl,∅,λi B E _ h4=>ex2 i B E h4⟩,by simp]
  .let hb2:M[b]?=Z (BJ L (rs.map Zd) t):=(Q b (Bz ne.1) lb).trans m;let fl:BF 1 (LD f)=J':=WU f;let fv:BF 2 (aD v)=J':=by cases v<;>rfl
   let fy:BF 2 (Ai y)=J':=Gf 2 y;let fw:BF 2 (aD<|y.getD (n+1) .non)=J':=by cases y.getD (n+1) .non<;>rfl
   let fz:OB a k (G1.set j<|.dat .l Y)=Z M:=by
    rw[OB,show(G1.set j<|.dat .l Y)[a]?=Z (.mix .l X) by rw[ZD h];show ga];erw[K,EB gj,if_neg<|Bz h,e3,El,r]
   let lsI:ML (LD f)=Z (f.map Ai):=rfl;clear N ex2 s2 Q g2a oth ga gj r e3 hX K;generalize (S.map λn:Nat=>D.int n)=SS,(Bt L.length).map (λk:Nat=>D.int k)=RG,zA.map D.int=WS,LD f=A,Ai l=B1,Ai y=B2,aD v=V,aD (y.getD (n+1) .non)=VW,f.map Ai=LS at *;suffices e2:O0 ([.cel b,.cel a,‹c›,.no,.no,.no,.no,.no,.no,.no,.no],G)=.ret (.cel jj) G' from G9 (fi rfl e2) rfl
   rwa[O0,show ZP [‹c›,‹4›]=Z #v[WS]from es,E2 C,WW C,Zh,hin,F,hr,q1,hc,jG,jL,fS,xF,show Zf (Z ([]:U D))=Z []from rfl,en,x0,lS,mS,xS,i1,fl,x1,i2,i3,mp,x2,lls,ml2,xu,xl,fv,x3,ml3,xz,fy,show C0 2 []=J' from rfl,xC,hj,Qw,FO (d:=Cl.dat .l []) C,show MS (.dat .l<|L.map LD)=Z ((L.map LD).map IV.val)from rfl,ij,st,hG1,HE,lsI,el,Qx,Kb,show cG (.int k)=Z k from rfl,fz,Ez,hb2,show EZ "Book" "regroup" (BJ L (rs.map Zd) t)=J' by rwa[EZ,show FN.contains "regroup"=O' by symm],EC hb2,and_self,xy,fw,er,Ek]
  .rw[N.ex a ne.1 (by rw[H];lia)];show g2a
  .rw[N.ex q (Bz ne.2) (by rw[H];lia),Q q (Bz haq) lq];show T
theorem zV(g:U Nat)(gs:U (U Nat)):EH J' (Az g) (.lst (gs.map Az))=Z (.bl (!decide (g∈gs))):=by
 have:=jF (gk g)<|gs.map gk;rw[GG,CC,show Ai∘gk=Az from funext GG]at this;rw[this];congr 3;rw[decide_eq_decide,Bi];show#[λ⟨x,a,e⟩=>O8 e ▸ a,λh=>#[g,h,rfl]]
section
variable{L:A2}{S:U D}{G:Gh}{c5:Int}{x6 x7 x8 x9 x10:IV}
theorem zW(s:BS L [] gs 1 G)(n:G[0]?=Z (.dat .l (L.map LD)))(o:G[3]?=Z (.dat .l (gs.map Az)))(z:ZH [#v[S],‹5›]=Z ‹c5›)(T:gs.length<10)(k:Nat)(F:IV):∃gs' G' p,O1 ([#v[S],.cel 0,.cel 1,.cel 3,‹k›,F,x6,x7,x8,x9,x10],G)=.next ([#v[S],.cel 0,.cel 1,.cel 3,‹k›,p,x6,x7,x8,x9,x10],G')/\BS L [] gs' 1 G'/\G'[0]?=Z (.dat .l (L.map LD))/\G'[3]?=Z (.dat .l (gs'.map Az))/\gs'.length<=gs.length+1:=by
 let(g,q,A):=zy s.gl<|c5/4+5*(k:Int);let(t,c,r,i):=s.bk;let B:=Iq c5 4 (by ext) (by ext);let C:=Ir (x:=5) (y:=(k:Int)) (by left;decide);let E:BF 2 (Az g)=J':=by rw[<- GG];show Gf 2 _
 let H:EZ "Book" "keep" (BJ L [] t)=J':=by rwa[EZ,yX]
 let f:=zV g gs;let P:=(Ko (rs:=[]) s o c).1;by_cases m:g∈gs
 .let u:=y0 s.gl q c r m;rw[decide_eq_true m]at f;apply#[gs,G,.val<|Az g,?_,s,n,o,∅];generalize Az g=M,gs.map Az=N,L.map LD=W at *;rwa[O1,E2 n,z,B,C,A,E,Ez,c,H,EC c,and_self,u,Cz,E2 o,f]
 .let u:=y1 s.gl q c r s.sp (by simp) i m ∅;rw[decide_eq_false m]at f;let h:(G.set t<|.dat .d<|Zb<|A5 L []<|gs++[g])[3]?=Z (.dat .l<|gs.map Az):=by rw[ZD<|Bz P];show o
  let w:=E2 h;let K:=Nj (ss:=[#v[S],.cel 0,.cel 1,.cel 3,‹k›,.val<|Az g,x6,x7,x8,x9,x10]) h (by simp;lia) (Az g);apply⟨gs++[g],(G.set t<|.dat .d<|Zb<|A5 L []<|gs++[g]).set 3<|.dat .l<|gs.map Az++[Az g],.val<|Az g,?_,⟨s.gl,s.sp,JV.mpr ⟨s.nd,by simp,λa Q b c e=>m (by simp at c;rw[<- c,<- e];show Q)⟩,λx j=>?_,by simp;lia,t,?_,?_,i⟩,?_,?_,by simp⟩
  .clear o h;generalize Az g=M,gs.map Az=N,L.map LD=W,G.set t (.dat .d<|Zb<|A5 L []<|gs++[g])=Y at *;rwa[O1,E2 n,z,B,C,A,E,Ez,c,H,EC c,and_self,u,Cz,w,f,K]
  .rcases Cj.mp j with j|j
   .show s.gn x j
   .rw[Cw]at j;subst j;show q.1
  .rw[ZD (by ext),ZD i];show c
  .rw[ZD P];show EB r
  .rw[ZD (by ext),ZD<|Bz<|(Ko (rs:=[]) s n c).1];show n
  .rw[EB h,DM];rfl
theorem jW(h:ZH [#v[S],‹5›]=Z ‹c5›):∀(n k:Nat)(gs:U (U Nat))(G:Gh)(x4 a:IV),BS L [] gs 1 G->G[0]?=Z (.dat .l (L.map LD))->G[3]?=Z (.dat .l (gs.map Az))->gs.length+n<10->∃gs' G' b c,EY 4 O1 ((DT k n).map λk:Nat=>D.int k) ([#v[S],.cel 0,.cel 1,.cel 3,x4,a,x6,x7,x8,x9,x10],G)=.next ([#v[S],.cel 0,.cel 1,.cel 3,b,c,x6,x7,x8,x9,x10],G')/\BS L [] gs' 1 G'/\G'[0]?=Z (.dat .l (L.map LD))/\gs'.length<10/\G'[3]?=Z (.dat .l (gs'.map Az))
 |0,k,gs,G,x4,a,s,d,e,i=>#[gs,G,x4,a,rfl,s,d,i,e]
 |n+1,k,gs,G,x4,a,s,d,e,i=>by
  let(f,j,m,o,p,q,t,l1):=zW (x6:=x6) (x7:=x7) (x8:=x8) (x9:=x9) (x10:=x10) s d e h ∅ k a;let(g,u,w,x,y,r):=jW h n (k+1) f j ‹k› m p q t ∅;apply#[g,u,w,x,?_,r];rw[Ji,AU];rwa[EY,o,y]
end
structure LS(L:A2)(R rs:List Row)(gs:List (List Nat))(q gc:Nat)(G:Gh):Prop where
 bs:BS L rs gs 1 G
 pm:R.Perm rs
 la:G[0]?=Z (.dat .l (L.map LD))
 lr:G[q]?=Z (.dat .l (R.map Zd))
 gr:G[gc]?=Z (.dat .l ((Zm BI gs).map Az))
theorem zX{b1 a:U Be}:(DJ (B5 b1) (B5 a)).length<=b1.length+a.length:=by
 rw[DJ,(Zy AQ _).length_eq,Ea,Iv,Iv];let a1:=RX (λk=>!AS ((Zu (B0<|B5 a)<|.tup k).getD .non) ((Zu (B0<|B5 b1)<|.tup k).getD .non)) (Zm AQ<|Zg b1);let b:=RX (λk=>!decide (k∈Zm AQ (Zg b1))) (Zm AQ<|Zg a);rw[(Zy AQ _).length_eq]at a1 b;unfold Zg at *;rw[Bn]at a1 b;lia
theorem Nk{G:Gh}{q:Nat}(h:G[q]?=Z (.dat .l xs)):DS 0 G (.cel q)=.lent xs:=by
 simp_all
section
variable{L:A2}{R rs:U Row}{q gc:Nat}{G:Gh}{ns:U Int}
theorem zY(s:LS L R rs gs q gc G)(y:q≠0)(N:gc≠0)(K:gc≠q)(hl:R.length<44)(k:Nat)(x5 x7 x8 x9 x10:IV):∃L' a rs' G' Q T P C,O2 ([#v[ns.map D.int],.cel 0,.cel 1,.cel gc,‹k›,x5,.cel q,x7,x8,x9,x10],G)=.next ([#v[ns.map D.int],.cel 0,.cel 1,.cel gc,‹k›,x5,.cel q,Q,T,P,C],G')/\LS L' a rs' gs q gc G'/\a.length<=R.length+6:=by
 let(bs,pm,la,lr,gr):=s;let hc:=M4 #v[ns.map D.int] ns (.inl rfl) (8+(k:Int)) ∅;generalize ns.getD (8+(k:Int)).toNat 0=c at *;let gp:=Zy BI gs;let m:∀g∈Zm BI gs,g.length=L.length:=λg f=>bs.gn g<|gp.mem_iff.mp f;let g12:(Zm BI gs).length<=12:=gp.length_eq ▸ bs.g12;let x:∀r∈R,AO L r.1:=λr f=>bs.sp r<|pm.mem_iff.mp f;let hR:=jQ bs.gl x ∅ (Zm BI gs) m g12 Rx<|.inr rfl;let v1:=Nk la;let v6:=Nk lr;let v3:=Nk gr;let gc1:gc≠1:=by
  let(t,hB,_):=bs.bk;show Bz (Ko bs gr hB).2
 let qG:=ZB ((Zm BI gs).map Az) (by simp;lia);let f0:∀xs,C0 0 xs=J':=λxs=>Gz λd _=>Qt d;let m3:=CM c 3 (by ext);let d3:=Iq c 3 (by ext) (by ext);let F:=O4 (c%3) 2;let key:∃j L' a rs' G',(if c%3=2 then Rr [.cel 1,.cel 0,‹c/3›] G else Rt [.cel 1,.cel 0,.cel q,‹c/3›] G)=Z (.cel j,G')/\DR L' a rs' gs 0 1 q j (Dd L L' rs rs'<|Zm BI gs) G G'/\L.length=L'.length/\a.length<=R.length+6:=by
  by_cases z:c%3=2
  .let(j,L',G',e,d,hh):=zU bs pm la lr (Bz y) ∅<|c/3;show⟨j,L',R,rs,G',if_pos z ▸ e,d,hh,∅⟩
  .let(j,a,rs',G',e,d,hh):=zO bs pm la lr (Bz y) ∅<|c/3;show⟨j,L,a,rs',G',if_neg z ▸ e,d,rfl,hh⟩
 let(j,L',a,rs',G',M,h,p,hRl):=key;let b:=h.bs;let gj:G.length<=j:=h.jn;let lr':=EC lr;let lg':=EC gr;let u:G'[gc]?=Z (.dat .l<|(Zm BI gs).map Az):=(h.ex gc N gc1 K lg').trans gr;let i:∀g∈Zm BI gs,g.length=L'.length:=λg f=>(m g f).trans p;let o:∀r∈a,AO L' r.1:=λr f=>b.sp r<|h.pm.mem_iff.mp f;let E:=jQ b.gl o ∅ (Zm BI gs) i g12 Rw<|.inl rfl;let w1:=Nk h.la;let w6:=Nk h.lr;let w3:=Nk u;let u9:=E2 h.tl;let u3:=E2 u;let H:=zJ _<|zK p bs.sp b.sp m bs.gl.n4;let w:=zH (n:=L.length) (gs:=Zm BI gs) (λg=>Cq L g R) (λg=>Cq L' g a) (λg=>Cq L g rs) (λg=>Cq L' g rs') rfl rfl (λg f=>LC.of bs.gl pm x ∅<|m g f) (λg f=>p ▸ LC.of b.gl h.pm o ∅ (i g f)) (λg f=>by
  let a1:=(Kn (m g f) bs.sp).len;let a2:=(Kn (i g f) b.sp).len;have:=pm.length_eq;have:=h.pm.length_eq;show Bu zX ∅) g12
 let nd:=zx<|zL (L:=L) (L':=L') (rs:=rs) (rs':=rs') p bs.sp (Zm BI gs);let w:Q8 [#v[(Zm BI gs).map Az],#v[(Zm BI gs).map λg=>CT<|Cq L g R],#v[(Zm BI gs).map λg=>CT<|Cq L' g a]]=Z #v[Dd L L' rs rs'<|Zm BI gs]:=w;apply#[L',a,rs',G'.set j<|.dat .l [],#v[(Zm BI gs).map λg=>CT<|Cq L g R],‹c›,.cel j,#v[(Zm BI gs).map λg=>CT<|Cq L' g a],?_,⟨b,h.pm,by rw[ZD ∅];show h.la,by rw[ZD ∅];show h.lr,by rw[ZD ∅];show u⟩,hRl];let tl:=h.tl;let X:∀(A B:U D) (V1 V2 V3 V4 V5 V6 V7 V8 V9:Sl),Zv 1 [1,6] [V1,.lent A,V2,V3,V4,V5,.lent B,V6,V7,V8,V9]=[.no,.lent A,.lent B]:=λ_ _ _ _ _ _ _ _ _ _ _=>rfl;clear la lr gr u h bs b x o m i;generalize ((Zm BI gs).map λg=>CT<|Cq L g R)=OL,((Zm BI gs).map λg=>CT<|Cq L' g a)=NW,Dd L L' rs rs' (Zm BI gs)=Y,(Zm BI gs).map Az=GS,L.map LD=W,L'.map LD=W',R.map Zd=RR,a.map Zd=RR',ns.map D.int=S at *;by_cases z:c%3=2
 .rw[if_pos z]at M;rw[decide_eq_true z]at F;rwa[O2,v1,v6,v3,Zh,qG,X,hR,jG,jL,f0,xF,hc,m3,F,Gx,d3,M,w1,w6,w3,E,u9,u3,show CJ [.lst Y,.ty "list"]=Z (.bl J')from rfl,G8,H,w,nd,OD,tl,Cz]
 .rw[if_neg z]at M;rw[decide_eq_false z]at F;rwa[O2,v1,v6,v3,Zh,qG,X,hR,jG,jL,f0,xF,hc,m3,F,Gx,d3,M,w1,w6,w3,E,u9,u3,show CJ [.lst Y,.ty "list"]=Z (.bl J')from rfl,G8,H,w,nd,OD,tl,Cz]
theorem jX(b:q≠0)(c:gc≠0)(d:gc≠q):∀(n k:Nat)(L:A2)(R rs:U Row)(G:Gh)(x4 a x7 x8 x9 x10:IV),LS L R rs gs q gc G->R.length+6*n<50->∃G' f g h i e,EY 4 O2 ((DT k n).map λk:Nat=>D.int k) ([#v[ns.map D.int],.cel 0,.cel 1,.cel gc,x4,a,.cel q,x7,x8,x9,x10],G)=.next ([#v[ns.map D.int],.cel 0,.cel 1,.cel gc,f,a,.cel q,g,h,i,e],G')
 |0,k,L,R,rs,G,x4,a,x7,x8,x9,x10,s,o=>#[G,x4,x7,x8,x9,x10,rfl]
 |n+1,k,L,R,rs,G,x4,a,x7,x8,x9,x10,s,o=>by
  let(p,r,j,t,u,w,x,l,y,z,l1):=zY (ns:=ns) s b c d ∅ k a x7 x8 x9 x10;let(A,B,C,E,H,m,F):=jX b c d n (k+1) p r j t ‹k› a u w x l z ∅;apply#[A,B,C,E,H,m,?_];rw[Ji,AU];rwa[EY,y,F]
end
theorem jY{L:A2}(h:Ci L)(ns:U Int)(c:Int)(b:ZH [#v[ns.map D.int],‹6›]=Z ‹c›):∀n k:Nat,k+n<=100->∃a:U Row,a.length=n/\(∀r∈a,AO L r.1)/\Di (Zc 0) (λ_=>Z J') Ru [.no,#v[L.map LD],#v[ns.map D.int]] ((DT k n).map λk:Nat=>D.int k)=Z (a.map Zd)
 |0,k,_=>#[[],rfl,λ_ h=>(nomatch h),rfl]
 |n+1,k,i=>by
  let(a,d,j,f):=jY h ns c b n (k+1) ∅;let(r,l,e):=iP h<|c/((k:Int)+1)+(k:Int);apply⟨r::a,by simp[d],λq m=>?_,?_⟩
  .grind [Bp]
  .let g:Ru [‹k›,#v[L.map LD],#v[ns.map D.int]]=Z (Zd r):=by
    rwa[Ru,b,Iq c ((k:Int)+1) (Int.succ_ofNat_pos k) ∅,e]
   rwa[Ji,Di,g,f]
theorem jZ:∀(a rs:U Row),(a.map λr=>((J',r):Dc)).foldl Cf rs=rs++a
 |[],rs=>by simp
 |r::a,rs=>by rw[AU,Lc,jZ a];simp[Cf]
theorem j0{L:A2}:∀(a rs:U Row),(∀r∈a,AO L r.1)->Ha L rs (a.map λr=>((J',r):Dc))
 |[],_,_=>trivial
 |r::a,rs,h=>#[#[h r Ba,λz=>by cases z],j0 a _ λx b=>h x<|Bg _ b]
theorem j3(n:Nat)(h:n<1000):Li (.int n)=Z ((DT 0 n).map λk:Nat=>D.int k):=by
 change gd (-1000000000<=(n:Int)/\(n:Int)<1000000000) (Z<|GN 0 (n:Int).toNat)=_
 rw[KS ∅,GR,Kg.symm];simp[GN]
theorem zZ(ns:U Int):∃G',gq [.val (.lst (ns.map D.int))] []=Z (.val (.bl J'),G'):=by
 let(L,h,eL):=xE ns;let h4:=h.n4;let c5:=M4 #v[ns.map D.int] ns (.inl rfl) 5 (by ext);let c6:=M4 #v[ns.map D.int] ns (.inl rfl) 6 (by ext);let c7:=M4 #v[ns.map D.int] ns (.inl rfl) 7 (by ext);generalize ns.getD (5:Int).toNat 0=n5,ns.getD (6:Int).toNat 0=n6,ns.getD (7:Int).toNat 0=n7 at *;let ei:=zv h<|.dat .l<|L.map LD;let s0:BS L [] [zg L] 1 [.dat .l<|L.map LD,BJ L [] 2,.dat .d<|Zb<|A5 L [] [zg L],.dat .l<|[zg L].map Az]:=#[h,λ_ h=>(nomatch h),by simp,by simp,by simp,2,rfl,rfl,by ext];let m4:=CM n5 4 (by ext);obtain⟨H,R,hk5'⟩:∃k:Nat,1+n5%4=(k:Int)/\k<=4:=#[(1+n5%4).toNat,∅,∅];let(f,p,y4,y5,e1,G,F,gl,g3):=jW (x6:=.no) (x7:=.no) (x8:=.no) (x9:=.no) (x10:=.no) c5 H 0 [zg L] _ .no .no s0 rfl rfl (by simp;lia);let r5:=j3 H ∅;let so:MN (Z<|.lst<|f.map Az)=Z ((Zm BI f).map Az):=i9 ∅ (λg hg z=>by have h1:=G.gn g hg;have:=h.n1;rw[z]at h1;simp at h1;lia);let y:=CM n6 17 (by ext);obtain⟨n,hn,hn17⟩:∃n:Nat,n6%17=(n:Int)/\n<17:=#[(n6%17).toNat,∅,∅];rw[hn]at y;let(a,hrl,hr,er):=jY h ns n6 c6 n 0 ∅;let(t,M,hT,hbt):=G.bk;let lb:=EC M;let lt:=EC hT;obtain⟨m,o⟩:∃m,p.length=m:=#[_,rfl];let x:∀i,i<m->(p++[.dat .l<|(Zm BI f).map Az,.dat .l<|a.map Zd])[i]?=p[i]?:=λi hi=>D9 ∅;let s2:BS L [] f 1 (p++[.dat .l<|(Zm BI f).map Az,.dat .l<|a.map Zd]):=G.same (x 1 ∅) λt' e'=>by
  have:t=t':=by rw[M]at e';have:=EE e';simp[BJ]at this;show this
  subst this;show x t ∅
 let(j,G3,ep,u):=js s2 (cs:=a.map λr=>((J',r):Dc)) (by simp;lia) (j0 a [] hr);rw[jZ,DU]at u;let ll:(p++[Cl.dat .l<|(Zm BI f).map Az,.dat .l<|a.map Zd]).length=m+2:=by simp[o]
 let w:LS L a (Zm CP a) f (m+1) m G3:=#[u.bs,(Zy CP a).symm,(u.ex 0 (by ext) ∅).trans<|(x 0 ∅).trans F,(u.ex (m+1) ∅ ∅).trans (by rw[Fp ∅];simp[o]),(u.ex m ∅ ∅).trans (by rw[Fp ∅];simp[o])];let N:=CM n7 4 (by ext);obtain⟨K,Q,hk7'⟩:∃k:Nat,1+n7%4=(k:Int)/\k<=4:=#[(1+n7%4).toNat,∅,∅];let(G4,z4,z7,z8,z9,z10,e4):=jX (ns:=ns) (q:=m+1) (gc:=m) ∅ ∅ ∅ K 0 L a (Zm CP a) G3 y4 y5 .no .no .no .no w ∅;let r7:=j3 K ∅;apply#[G4,?_];let fL:=Sd L;let T:BF 1 (.lst<|L.map LD)=J':=by
  show(!vk 1 .l&&C0 1 (L.map LD))=J'
  rw[fL];rfl
 let qL:=ZB (L.map LD) (by simp;lia);let P:=ZA (b:=Zc 0) (e:=fO) (ρ:=[.no]) LD LD L λw _=>#[[.val<|LD w],rfl,rfl];let Y:=ZA (b:=Zc 0) (e:=fQ) (ρ:=[.no]) LD (λ_=>D.int 0) L λw _=>#[[.val<|LD w],rfl,rfl];let A:=ZA (b:=Zc 0) (e:=Wn) (ρ:=[.no]) Zd (λr=>BP (J',r)) a λr _=>#[[.val<|Zd r],rfl,by
  rwa[Wn,show Zo (.tup [.str "+"]) (Zd r)=Z (BP (J',r))from rfl]]
 rw[show a.map (λr=>BP (J',r))=(a.map λr=>((J',r):Dc)).map BP by rw[CC];rfl]at A;let ht:EI [.lst<|L.map λ_=>D.int 0]=Z (Kj L):=rfl;rw[i5]at ht;let s:∀xs,Zv 1 [] xs=[.no]:=λ_=>rfl;let fz:C0 2 [Az<|zg L]=J':=by
  show(BF 2 (Az<|zg L)&&J')=J'
  rw[<- GG,Gf];rfl
 let fg:C0 2 ((Zm BI f).map Az)=J':=Gz λd hd=>by let(g,_,rfl):=Bi.mp hd;rw[<- GG];show Gf 2 _
 let fR:=WX a;let fP:BF 1 (.lst<|(a.map λr=>((J',r):Dc)).map BP)=J':=by
  show(!vk 1 .l&&C0 1 _)=J'
  rw[Gz λd hd=>by
   let(c,hc,rfl):=Bi.mp hd;let(r,_,rfl):=Bi.mp hc;show(BF 1 (.str "+")&&(BF 1 (Ai r.1)&&(BF 1 (.int r.2)&&J')))=J'
   rw[Gf];rfl];rfl
 let qR:=ZB (a.map Zd) (by simp;lia);let B:=J9 n ∅;rw[Kg]at B;let qN:=ZB ((DT 0 n).map λk:Nat=>D.int k) (by simp;lia);let vb0:DS 1 [Cl.dat .l<|L.map LD] (.cel 0)=.lent (L.map LD):=WW rfl;let vb1:DS 2 [Cl.dat .l<|L.map LD,BJ L [] 2,.dat .d<|Zb<|A5 L [] [zg L]] (.cel 0)=#v[L.map LD]:=E2 rfl;let v3:=E2 g3;let v0:DS 2 (p++[.dat .l<|(Zm BI f).map Az]) (.cel 0)=#v[L.map LD]:=E2<|FO F;let vq:DS 1 (p++[.dat .l<|(Zm BI f).map Az,.dat .l<|a.map Zd]) (.cel<|m+1)=.lent (a.map Zd):=WW (by rw[Fp ∅];simp[o]);let hi:EZ "Book" "pour" (BJ L [] t)=J':=by rwa[EZ,jr]
 let C:=(x 1 ∅).trans M;let lb2:=EC C;let E:∀V1 V2 V3 V4 V5 V6 V7 V8 V9:Sl,Zv 1 [1,0] [#v[ns.map D.int],#v[L.map LD],V1,V2,V3,V4,V5,V6,V7,V8,V9]=[.no,#v[L.map LD],#v[ns.map D.int]]:=λ_ _ _ _ _ _ _ _ _=>rfl;let aa:p++[Cl.dat .l<|(Zm BI f).map Az]++[.dat .l<|a.map Zd]=p++[.dat .l<|(Zm BI f).map Az,.dat .l<|a.map Zd]:=by simp
 let lg1:(p++[Cl.dat .l<|(Zm BI f).map Az]).length=m+1:=by simp[o]
 rw[show [zg L].map Az=[Az<|zg L]from rfl]at e1;clear w u s2 G s0 x F g3 hT;generalize (a.map λr=>((J',r):Dc)).map BP=PL,(DT 0 H).map (λk:Nat=>D.int k)=R5,(DT 0 K).map (λk:Nat=>D.int k)=R7,(DT 0 n).map (λk:Nat=>D.int k)=RN',Zb (A5 L [] [zg L])=T1 at *;suffices e:Wo ([#v[ns.map D.int],.no,.no,.no,.no,.no,.no,.no,.no,.no,.no],[])=.ret (.val<|.bl J') G4 from G9 (fi rfl e) rfl
 rwa[Wo,gm,fT,Fw,eL,L9,jG,jL,fL,xC,DU,gh,fU,vb0,Zh,s,qL,P,T,Qq,F3,IX,ei,gg,fV,vb1,Zh,s,qL,Y,ht,jG,jL,fz,xC,F3,DU,IX,HH,ge,fW,c5,m4,R,r5,HE,e1,f9,fX,v3,so,jG,jL,fg,xC,o,f8,fY,v0,Zh,E,c6,y,B,qN,er,fR,lg1,aa,f7,fZ,vq,Zh,s,qR,A,fP,Ez,C,hi,lb2,and_self,ep,Cz,f6,f3,c7,N,Q,r7,HE,e4,f5,f4,show BF 2 (.bl J')=J' from rfl,Ek]
end
variable{acc:U Be}{rs':U Row}{cs:U Dc}
set_option tactic.hygienic true
def Bm(i:Nat):AG:=PySem.Challenge.pw_cubebook_k53_changes_told.main.body.getD i (.Pass #[0,0,0,0])
abbrev j4:U Af:=["ladder","level","other"]
abbrev j5:U Af:=["ladder","level","value"]
abbrev j6:U Af:=["ladder","level","thing"]
abbrev j7:U Af:=["ladders","thing"]
abbrev j8:U Af:=["ladders","axis"]
abbrev j9:U Af:=["ladder","thing"]
abbrev ka:U Af:=["ladders","thing"]
abbrev kc:U Af:=["ladders","grain","to"]
abbrev kf:U Af:=["ladders","rows","grain"]
abbrev kg:U Af:=["ladders","thing"]
abbrev kh:U Af:=["ladders","thing"]
abbrev ki:U Af:=["standing","row"]
abbrev kj:U Af:=["standing","row"]
abbrev kk:U Af:=["ladders","rows","changes"]
abbrev km:U Af:=["ladders","rows","grains"]
abbrev ko:U Af:=["ahead","behind"]
abbrev kq:U Af:=["ahead","behind"]
abbrev kr:U Af:=["ladder","level"]
abbrev kt:U Af:=["ladder","level","value","parent"]
abbrev ku:U Af:=["self","ladders"]
abbrev kw:U Af:=["self","changes"]
abbrev kx:U Af:=["self","axis","level","value","parent"]
abbrev ky:U Af:=["self","axis","ladder"]
abbrev kz:U Af:=["_law_script","_law_k"]
abbrev kA:U Af:=["_law_cell_here","_law_many"]
abbrev kC:U Af:=["_law_cell_here","_law_way","_law_k"]
abbrev kE:U Af:=["_law_cell_here"]
abbrev kF:U Af:=["_law_ladder_here","_law_value","_law_level"]
abbrev kG:U Af:=["_law_ladders_here","_law_key","_law_grain_here"]
abbrev kH:U Af:=["_law_ladders_here","_law_cell_here"]
abbrev kI:U Af:=["_law_ladders_here","_law_cell_here"]
abbrev kJ:U Af:=["_law_ladders_here","_law_rows","_law_grain_here"]
abbrev kK:U Af:=["_law_one","_law_other"]
abbrev kL:U Af:=["_law_one","_law_other"]
abbrev kM:U Af:=["_law_grains","_law_old","_law_new"]
abbrev kN:U Af:=["_law_book","_law_ladders_here","_law_rows","_law_cell_here"]
abbrev kO:U Af:=["_law_book","_law_ladders_here","_law_cell_here"]
abbrev fe(a:Af)(s:AG)(p:U Af):Af×AG×U Af:=(a,s,p)
abbrev me(a b:Af)(s:AG)(p:U Af):Af×Af×AG×U Af:=(a,b,s,p)
def FT:U (Af×AG×U Af):=[fe "is_whole" (Bm 5) ["thing"],fe "is_word" (Bm 6) ["thing"],fe "is_value" (Bm 7) ["thing"],fe "value_rank" (Bm 9) ["thing"],fe "key_rank" (Bm 10) ["key"],fe "in_order" (Bm 11) ["keys"],fe "is_line" (Bm 15) ["thing"],fe "go_together" (Bm 16) ["lines"],fe "is_ladder" (Bm 17) ["thing"],fe "whole_of" (Bm 18) ["ladder"],fe "line_at" (Bm 19) ["line","level"],fe "values_in_order" (Bm 20) ["values"],fe "lifts" (Bm 21) j4,fe "beneath" (Bm 22) j5,fe "is_value_at" (Bm 23) j6,fe "is_axis" (Bm 33) j7,fe "ladder_on" (Bm 34) j8,fe "is_level" (Bm 35) j9,fe "is_grain" (Bm 36) ka,fe "finest" (Bm 37) ["ladders"],fe "cell_of" (Bm 39) ["amounts"],fe "merged" (Bm 40) ["one","other"],fe "ways_up" (Bm 42) kc,fe "goes_along" (Bm 43) ["ways","key"],fe "merged_along" (Bm 44) ["ways","table"],fe "table_of" (Bm 45) kf,fe "is_finest_key" (Bm 48) kg,fe "is_change" (Bm 49) kh,fe "row_rank" (Bm 50) ["row"],fe "put_in" (Bm 51) ki,fe "take_out" (Bm 52) kj,fe "poured" (Bm 53) kk,fe "tables_at" (Bm 54) km,fe "keys_changed" (Bm 55) ko,fe "cells_changed" (Bm 56) kq,fe "has_parents" (Bm 58) kr,fe "regrouped" (Bm 59) kt,fe "are_ladders" (Bm 63) ["thing"],fe "_law_cell_at" (Bm 66) kz,fe "_law_stream" (Bm 67) kA,fe "_law_named" (Bm 68) kC,fe "_law_ladder" (Bm 69) kE,fe "_law_ladders" (Bm 70) ["_law_script"],fe "_law_up" (Bm 71) kF,fe "_law_key_at" (Bm 72) kG,fe "_law_grain" (Bm 73) kH,fe "_law_row" (Bm 74) kI,fe "_law_cell" (Bm 75) ["_law_amounts"],fe "_law_cells" (Bm 76) kJ,fe "_law_thing_ahead" (Bm 77) kK,fe "_law_ahead" (Bm 78) kL,fe "_law_changed" (Bm 81) kM,fe "_law_poured" (Bm 82) kN,fe "_law_regrouped" (Bm 83) kO,fe "_law_plain" (Bm 84) ["_law_told"],fe "law" (Bm 85) ["_law_script"]]
def MT:U (Af×Af×AG×U Af):=[me "__init__" "Book.__init__" (LY (Bm 64) 0) ku,me "pour" "Book.pour" (LY (Bm 64) 4) kw,me "keep" "Book.keep" (LY (Bm 64) 5) ["self","grain"],me "regroup" "Book.regroup" (LY (Bm 64) 7) kx,me "put_ladder" "Book.put_ladder" (LY (Bm 64) 13) ky,me "tables_renewed" "Book.tables_renewed" (LY (Bm 64) 14) ["self"]]
structure Tx(K:Ap)(mg:BC)(d:Ac):Prop where
 cb:CI K mg "Book" d
 na_axes:BM K d "axes"
 na_standing:BM K d "standing"
 na_tables:BM K d "tables"
 f:All (DX K mg) FT
 m:All (MX K d) MT
 n:All (λx=>mg x=J) ["all","any","bool","dict","enumerate","int","isinstance","len","list","max","min","range","sorted","str","sum","tuple","zip"]
 g:All (λx=>∃u,mg x.1=Z u/\RelV x.2 u) [("FIGURES",(.str "0123456789")),("LETTERS",(.str "abcdefghijklmnopqrstuvwxyz")),("LONGEST_LINE",(.int 4)),("LONGEST_WORD",(.int 12)),("MOST_LADDERS",(.int 4)),("MOST_LINES",(.int 40)),("MOST_ROWS",(.int 200)),("MOST_TABLES",(.int 12))]
section
variable{P:AL}{w:Aj}{K:Ap}{mg:BC}{base:Am}{d:Ac}(T:Tx K mg d)
include T
set_option hygiene false in
local macro_rules | `(tactic|exists $a,$b,*)=>do let c <- b.getElems.mapM λx=>`(tactic|with_reducible refine $a h r ($x T) ?_ ?_ ?_ ?_ ?_);`(tactic|first $[| $c:tactic]*)
local macro_rules | `(tactic|exists $t)=>`(tactic|with_reducible show JE _ _ (tD _ _ _ (Zk $t _)))
local macro_rules | `(mutual $c* end)=>return Lean.mkNullNode (<- c[1:].toArray.mapM (·.raw.replaceM λ| `(tactic|trivial)=>return c[0]!.raw.find? (·.isOfKind ``Lean.Parser.Tactic.paren)|_=>return none))
mutual
example:=by(intros;rename_i h r;repeat' first
 |(refine(?_:JS _ (.While _ _ _ _) _);first|refine vX _ Sh ?_ ?_)
 |(refine(?_:JB _ _ _);first|with_reducible refine vO _ _ ?_|with_reducible refine wc _ ?_|exact pB|with_reducible refine Yt ?_ ?_|refine Yt ?_ ?_|exact uU|with_reducible refine cr ?_ ?_|refine cr ?_ ?_)
 |(refine(?_:JA _ _ _);first|exact S5|refine PB ?_ ?_|exact cm|refine cq ?_ ?_)
 |(refine(?_:JE _ _ (L7 _ _ _ _));first|exact Tq _|refine Yp ?_)
 |(refine(?_:JE _ _ (tP _ _ _ _));first|exact qU _|exact tN|refine Yk ?_)
 |(refine(?_:JE _ _ (tQ _ _ _ _));first|exact qV _|refine pO ?_)
 |(refine(?_:JE _ _ (EM _ _));first|exact uR|refine uS T.cb.cof T.cb.cl (by first|exact T.na_axes|exact T.na_standing|exact T.na_tables) ?_|refine vQ ?_)
 |(refine(?_:JE _ _ (tJ _ _));first|refine uM _ λ_ _=>?_)
 |(refine(?_:JS _ _ (tS _ _ _ (GY _ _)));first|refine vJ ?_)
 |(refine(?_:JS _ (.Return _ _) _);first|refine pC ?_|exact qW _|refine pE ?_|exact sY _|refine pD ?_|refine uX ?_)
 |(refine(?_:JS _ (.If _ _ _ _) _);first|refine pF ?_ ?_ ?_|refine rT ?_ ?_ ?_|refine uW (uN _ λ_ _=>?_) ?_ ?_)
 |(refine(?_:JS _ (.Assign [.Name _ _] (.ListComp _ _ _ _) _) _);first|refine' vB h (MO (by decide +kernel)) rfl rfl rfl rfl ?_ (MP h (by decide +kernel) (λ_ _ _ _ _ _ _ h=>?_) (λ_ _ _ _ _ _ _ h=>?_) (λ_ _ _ _ _ _ _ h=>?_)) ?_|refine' vu h (MO (by decide +kernel)) rfl rfl rfl rfl ?_ (MP h (by decide +kernel) (λ_ _ _ _ _ _ _ h=>?_) (λ_ _ _ _ _ _ _ h=>?_) (λ_ _ _ _ _ _ _ h=>?_)) ?_|refine' vz h (MO (by decide +kernel)) rfl rfl rfl rfl ?_ (MP h (by decide +kernel) (λ_ _ _ _ _ _ _ h=>?_) (λ_ _ _ _ _ _ _ h=>?_) (λ_ _ _ _ _ _ _ h=>?_)) ?_|refine' vU h (MO (by decide +kernel)) rfl rfl rfl rfl (λ_ _=>?_) (MP h (by decide +kernel) (λ_ _ _ _ _ _ _ h=>?_) (λ_ _ _ _ _ _ _ h=>?_) (λ_ _ _ _ _ _ _ h=>?_)) ?_|refine cu h.nd ?_)
 |(refine(?_:JS _ (.Assign [.Name _ _] _ _) _);first|refine tU _ h.nd ?_|refine pJ h.nd rfl (by first|exact Or.inl rfl|exact Or.inr rfl) ?_|refine pH h.nd rfl (by first|exact Or.inl rfl|exact Or.inr rfl) ?_|refine cu h.nd ?_)
 |(refine(?_:JS _ (.Assign [.Attribute _ _ _] _ _) _);first|refine vf T.cb.cof T.cb.cl (by first|exact T.na_axes|exact T.na_standing|exact T.na_tables) ?_ ?_)
 |(refine(?_:JS _ (.Assign _ _ _) _);first|refine rj ?_ ?_|refine rR r.units ?_ ?_|refine vi r.units ?_ ?_ ?_|refine vP ?_ ?_ ?_)
 |(refine(?_:JS _ (.For _ _ _ _ _) _);first|refine' uu r.units Sh rfl ?_ (λ_=>?_) (λ_=>?_) (λ_=>?_) ?_|refine' ud Sh rfl ?_ (λ_=>?_) (λ_=>?_)|refine' pN Sh rfl ?_ ?_ ?_|refine u4 Sh rfl ?_ h.nd ?_)
 |(refine(?_:JS _ (.Expr _ _) _);first|refine v5 ?_ ?_|refine pL Ec ?_|refine ri ?_|refine uY ?_)
 |(refine(?_:JS _ _ _);first|exact sZ|exact uV)
 |(refine(?_:JT _ (.Compare _ _ _ _) _);first|refine q5 r.units ?_ ?_|refine q8 r.units ?_ ?_|refine q9 r.units ?_ ?_|refine ra r.units ?_ ?_|refine rb r.units ?_ ?_|refine re r.units ?_ ?_|refine rP r.units ?_ ?_|refine rO r.units ?_ ?_|refine pc ?_|refine pe ?_|refine rS r.units ?_ ?_)
 |(refine(?_:JT _ (.UnaryOp _ _ _) _);first|refine oS ?_)
 |(refine(?_:JT _ (.BoolOp _ _ _) _);first|refine af ?_)
 |(refine(?_:JT _ _ _);first|refine rg ?_|refine af ?_)
 |(refine(?_:JW _ _ _);first|refine oZ ?_ ?_|refine oV ?_|refine oY ?_ ?_|refine oU ?_)
 |(refine(?_:JI _ _ _ _);first|refine pW (by rfl) (T.n.get 11 rfl) ?_|refine pX (by rfl) (T.n.get 11 rfl) ?_|refine ur (by rfl) (T.n.get 16 rfl) ?_ ?_|refine uI (by rfl) (T.n.get 4 rfl) ?_|refine rh ?_|refine uZ ?_|refine u0 (by rfl) (T.n.get 11 rfl) ?_)
 |(refine(?_:JG _ _ _);first|exact tT _ h.nd|refine' p0 rfl ?_)
 |(refine(?_:JK _ _ _);first|exact pY|refine' pZ ?_ ?_)
 |(refine(?_:JF _ _ _);first|exact p5|refine p7 ?_)
 |(refine(?_:JE _ (.Name _ _) _);first|exact qT _|exact qS (by rfl) (by first|exact T.g.get 0 rfl|exact T.g.get 1 rfl|exact T.g.get 2 rfl|exact T.g.get 3 rfl|exact T.g.get 4 rfl|exact T.g.get 5 rfl|exact T.g.get 6 rfl|exact T.g.get 7 rfl) (λ_ _=>by erw[Ax])|exact ac (by rfl) (T.n.get 15 rfl) (by rfl)|refine cg ?_|refine Um ?_)
 |(refine(?_:JE _ (.Constant _ _ _) _);first|exact Yl|exact oQ|exact oO|exact oP|refine Um ?_)
 |(refine(?_:JE _ (.ListComp _ _ _ _) (Fa _ _ _ _ _));first|refine' vA h (MO (by decide +kernel)) rfl rfl ?_ (MP h (by decide +kernel) (λ_ _ _ _ _ _ _ h=>?_) (λ_ _ _ _ _ _ _ h=>?_) (λ_ _ _ _ _ _ _ h=>?_)) ?_|refine' vt h (MO (by decide +kernel)) rfl rfl ?_ (MP h (by decide +kernel) (λ_ _ _ _ _ _ _ h=>?_) (λ_ _ _ _ _ _ _ h=>?_) (λ_ _ _ _ _ _ _ h=>?_)) ?_)
 |(refine(?_:JE _ (.Subscript _ _ _) _);first|refine tR ?_ ?_|refine rM r.units ?_ ?_ (λ_ _=>rfl)|refine qA ?_ ?_ ?_)
 |(refine(?_:JO _ _ _);first|refine qx ?_|exact qw)
 |(refine(?_:JE _ (.BinOp _ _ _ _) _);first|refine qr ?_ ?_|refine qk ?_ ?_|refine qh ?_ ?_|refine qi ?_ ?_|refine qg ?_ ?_|refine ql ?_ ?_)
 |(refine(?_:JE _ (.UnaryOp _ _ _) _);first|refine qm ?_|refine o0 ?_)
 |(refine(?_:JE _ (.BoolOp _ _ _) _);first|refine o5 ?_ ?_|refine o6 ?_ ?_|refine o4 ?_)
 |(refine(?_:JE _ (.Compare _ _ _ _) _);first|refine qX r.units ?_ ?_|refine q0 r.units ?_ ?_|refine qY r.units ?_ ?_|refine qZ r.units ?_ ?_|refine rN r.units ?_ ?_|refine o8 ?_|refine o9 ?_|refine ae Sw Sw (Md _) (Md _) ?_ ?_ ?_|refine ae Sw (Tl r.units) (Md _) Tn ?_ ?_ ?_)
 |(refine(?_:JE _ (.Tuple _ _ _) _);first|refine pq ?_)
 |(refine(?_:JE _ (.List _ _) (Fa _ _ _ _ _));first|refine pj ?_)
 |(refine(?_:JE _ (.Dict _ _ _) _);first|exact rQ)
 |(refine(?_:JE _ (.IfExp _ _ _ _) _);first|refine o7 ?_ ?_ ?_)
 |(refine(?_:JE _ (.Attribute _ _ _) _);first|refine tW T.cb.cof T.cb.cl (by first|exact T.na_axes|exact T.na_standing|exact T.na_tables) ?_|refine cg ?_)
 |(refine(?_:JE _ (.Call (.Name _ _) _ [] _) (tD _ _ _ (Zi _ _)));first|exists vD,ZpC,Zsi,ZpD,Zsv,ZuE,ZrS,ZsM,ZmQ,ZlZ,ZmY,Zog,Zu7,ZpK,Ziw,ZnD,ZpA,ZmK,Zv6,ZrH,Zpz,ZlA,ZmW,ZmP,Znd,Zsx,Zow,kP,Zsq,ZoS,Zpw,Zrm,ZnW,ZlS,ZlR,Zoy,kQ,Zlt,ZkA,Zrv,ZpE,Zls,Zkq,Zor,Zok)
 |(refine(?_:JE _ (.Call (.Name _ _) _ [] _) (Fa .l _ _ _ (Fw _ _)));first|exists vE,ZlY,kQ,ZiF,ZkD,Zko)
 |(refine(?_:JE _ (.Call (.Name _ _) _ [] _) (Fa .d _ _ _ (JH _ _)));first|exists vF,Znf)
 |(refine(?_:JE _ (.Call (.Name _ _) _ [] _) (Dt _ (λs=>Gx _ (_) s)));first|exists vG,Zs1,Zpu,ZsW,Zki,ZmM)
 |(refine(?_:JE _ (.Call (.Name _ _) _ [] _) _);first|exact tL _ (T.n.get 7 rfl)|exact tM _ (T.n.get 6 rfl) (by first|exact(T.n.get 5 rfl)|exact(T.n.get 2 rfl)|exact(T.n.get 15 rfl)|exact(T.n.get 8 rfl)|exact(T.n.get 13 rfl))|(exists Zp;refine GJ Xz YU (by rfl) (T.n.get 7 rfl) (by rfl) ?_)|(exists MJ;refine GJ uz uA (by rfl) (T.n.get 7 rfl) (by rfl) ?_)|(exists FC;refine GJ (Yf (b:=J') rfl) (YW (b:=J')) (by rfl) (T.n.get 0 rfl) (by rfl) ?_)|(exists K1;refine GJ (Yf (b:=O') rfl) (YW (b:=O')) (by rfl) (T.n.get 1 rfl) (by rfl) ?_)|(exists NY;refine GJ (qJ rfl) qO (by rfl) (T.n.get 14 rfl) (by rfl) ?_)|(exists Mh;refine GJ (YY (b:=J') rfl) (Y1 (b:=J')) (by rfl) (T.n.get 10 rfl) (by rfl) ?_)|(exists Mi;refine GJ (YY (b:=O') rfl) (Y1 (b:=O')) (by rfl) (T.n.get 9 rfl) (by rfl) ?_)|(exists PZ;refine GJ (mM rfl) qH (by rfl) (T.n.get 10 rfl) (by rfl) ?_)|(exists PY;refine GJ (mL rfl) qF (by rfl) (T.n.get 9 rfl) (by rfl) ?_)|(exists CJ;refine GJ Y8 Y9 (by rfl) (T.n.get 6 rfl) (by rfl) ?_)|(exists EI;refine Yr nW qD (by rfl) (T.n.get 15 rfl) (by rfl) ?_)|(exists intD;refine Yr mN qI (by rfl) (T.n.get 5 rfl) (by rfl) ?_)|refine Ys nV qC (by rfl) (T.n.get 8 rfl) (by rfl) ?_|refine Ys (tw rfl) tx (by rfl) (T.n.get 8 rfl) (by rfl) ?_|refine sX rfl r.units (by rfl) (T.n.get 3 rfl) ?_|refine vm rfl r.units (by rfl) (T.n.get 12 rfl) (by rfl) ?_|refine vH h r T.cb (Zn4 T) rfl ?_)
 |(refine(?_:JE _ (.Call (.Name _ _) _ _ _) _);first|refine cC h r (kP T) (T.n.get 12 rfl) rfl ?_|refine cC h r (Zpv T) (T.n.get 12 rfl) rfl ?_)
 |(refine(?_:JE _ (.Call (.Attribute _ _ _) _ _ _) _);first|refine Qu h r T.cb (ZiP T) rfl ?_ ?_|refine Qu h r T.cb (Zot T) rfl ?_ ?_|refine vI h r T.cb (Zf4 T) rfl ?_|refine Qu h r T.cb (ZkJ T) rfl ?_ ?_|refine Qu h r T.cb (ZoT T) rfl ?_ ?_|refine ag PySem.F.plainAttrs_str PySem.F.slot_str_find PySem.F.type_str_find oz rm ?_ ?_|refine ag PySem.F.plainAttrs_str PySem.F.slot_str_join PySem.F.type_str_join oB rl ?_ ?_|refine ug r.units ?_ ?_|refine vg ?_ ?_|refine vh r.units ?_ ?_|refine aP r.units ?_ ?_|refine wb ?_)
 |(refine(?_:JE _ _ (Dt _ _));first|refine Um ?_|refine uP (ce _ λ_ _=>?_)|refine uQ (ce _ λ_ _=>?_))
 |(refine(?_:JE _ _ (tD _ _ _ _));first|refine oI ?_)
 |refine uT ?_
 |refine ck ?_
 |refine aP r.units ?_ ?_
 |rfl
 |exact F4
 |exact A4 _
 |decide)
theorem ZpC:OF P w K mg base 1 "is_whole" (Bb K Z1):=BU ["thing"] (T.f.get 0 rfl) (by trivial)
theorem Zsi:OF P w K mg base 1 "is_word" (Bb K Jd):=BU ["thing"] (T.f.get 1 rfl) (by trivial)
theorem ZpD:OF P w K mg base 1 "whole_of" (Bb K OE):=BU ["ladder"] (T.f.get 9 rfl) (by trivial)
theorem Zsv:OF P w K mg base 1 "line_at" (Bb K Je):=BU ["line","level"] (T.f.get 10 rfl) (by trivial)
theorem ZuE:OF P w K mg base 1 "finest" (Bb K OG):=BU ["ladders"] (T.f.get 19 rfl) (by trivial)
theorem ZrS:OF P w K mg base 1 "cell_of" (Bb K QD):=BU ["amounts"] (T.f.get 20 rfl) (by trivial)
theorem ZsM:OF P w K mg base 1 "merged" (Bb K OH):=BU ["one","other"] (T.f.get 21 rfl) (by trivial)
theorem ZmQ:OF P w K mg base 1 "goes_along" (Bb K QF):=BU ["ways","key"] (T.f.get 23 rfl) (by trivial)
theorem Zs1:OF P w K mg base 1 "put_in" (C6 K UB):=OA ki (T.f.get 29 rfl) (by trivial)
theorem Zpu:OF P w K mg base 1 "take_out" (C6 K UD):=OA kj (T.f.get 30 rfl) (by trivial)
theorem ZiP:OM P w K mg base d BQ 1 "put_ladder" (C6 K QG):=MR ky (T.m.get 4 rfl) (by trivial)
theorem ZlZ:OF P w K mg base 1 "_law_cell_at" (Bb K ZH):=BU kz (T.f.get 38 rfl) (by trivial)
theorem ZmY:OF P w K mg base 1 "_law_stream" (Bb K ZP):=BU (kA.append ["_law_number","_law_found","_law_k"]) (T.f.get 39 rfl) (by trivial)
theorem Zog:OF P w K mg base 1 "_law_named" (Bb K Kc):=BU (kC.append ["_law_signs","_law_size","_law_at","_law_word"]) (T.f.get 40 rfl) (by trivial)
theorem Zu7:OF P w K mg base 1 "_law_up" (Bb K UG):=BU (kF.append ["_law_line"]) (T.f.get 43 rfl) (by trivial)
theorem ZpK:OF P w K mg base 1 "_law_cell" (Bb K QK):=BU ["_law_amounts"] (T.f.get 47 rfl) (by trivial)
theorem Ziw:OF P w K mg base 1 "_law_thing_ahead" (Bb K UK):=BU (kK.append ["_law_signs","_law_mine","_law_yours"]) (T.f.get 49 rfl) (by trivial)
theorem ZnD:OF P w K mg base 1 "_law_plain" (Bb K UN):=BU ["_law_told","_law_one"] (T.f.get 54 rfl) (by trivial)
theorem ZpA:OF P w K mg base 2 "is_value" (Bb K OJ):=BU ["thing"] (T.f.get 2 rfl) (by trivial)
theorem ZmK:OF P w K mg base 2 "value_rank" (Bb K QN):=BU ["thing"] (T.f.get 3 rfl) (by trivial)
theorem Zv6:OF P w K mg base 2 "lifts" (Bb K QO):=BU j4 (T.f.get 12 rfl) (by trivial)
theorem ZrH:OF P w K mg base 2 "is_axis" (Bb K UP):=BU j7 (T.f.get 15 rfl) (by trivial)
theorem Zpz:OF P w K mg base 2 "is_level" (Bb K UQ):=BU j9 (T.f.get 17 rfl) (by trivial)
theorem ZlA:OF P w K mg base 2 "has_parents" (Bb K QP):=BU kr (T.f.get 35 rfl) (by trivial)
theorem ZmW:OF P w K mg base 2 "_law_ladder" (Bb K QS):=BU (kE.append ["_law_xs","_law_many","_law_places","_law_sizes","_law_j","_law_lines","_law_k","_law_line","_law_at"]) (T.f.get 41 rfl) (by trivial)
theorem ZmP:OF P w K mg base 2 "_law_key_at" (Bb K UT):=BU kG (T.f.get 44 rfl) (by trivial)
theorem Znd:OF P w K mg base 2 "_law_grain" (Bb K QT):=BU (kH.append ["_law_xs"]) (T.f.get 45 rfl) (by trivial)
theorem Zsx:OF P w K mg base 2 "_law_row" (Bb K QV):=BU (kI.append ["_law_xs","_law_key"]) (T.f.get 46 rfl) (by trivial)
theorem Zow:OF P w K mg base 2 "_law_ahead" (Bb K UX):=BU (kL.append ["_law_mine","_law_yours"]) (T.f.get 50 rfl) (by trivial)
theorem kP:OF P w K mg base 3 "key_rank" (Bb K MY):=BU ["key"] (T.f.get 4 rfl) (by trivial)
theorem Zsq:OF P w K mg base 3 "is_line" (Bb K U1):=BU ["thing"] (T.f.get 6 rfl) (by trivial)
theorem ZoS:OF P w K mg base 3 "ladder_on" (Bb K U3):=BU j8 (T.f.get 16 rfl) (by trivial)
theorem Zpw:OF P w K mg base 3 "is_grain" (Bb K QX):=BU ka (T.f.get 18 rfl) (by trivial)
theorem Zrm:OF P w K mg base 3 "ways_up" (Bb K QZ):=BU kc (T.f.get 22 rfl) (by trivial)
theorem ZlY:OF P w K mg base 3 "_law_ladders" (Bb K OR):=BU ["_law_script","_law_many","_law_ladders_here"] (T.f.get 42 rfl) (by trivial)
theorem ZnW:OF P w K mg base 3 "_law_cells" (Bb K Q6):=BU (kJ.append ["_law_amounts","_law_key","_law_amount","_law_cells_here"]) (T.f.get 48 rfl) (by delta d8 Q5 Vj Vi Vh;trivial)
theorem ZlS:OF P w K mg base 3 "_law_changed" (Bb K Q8):=BU (kM.append ["_law_told","_law_k","_law_found","_law_key","_law_at"]) (T.f.get 51 rfl) (by trivial)
theorem ZlR:OF P w K mg base 4 "go_together" (Bb K Vo):=BU ["lines","seen","finest_seen","line","level","value","later"] (T.f.get 7 rfl) (by trivial)
theorem Zpv:OF P w K mg base 4 "row_rank" (Bb K Ra):=BU ["row"] (T.f.get 28 rfl) (by trivial)
theorem Zoy:OF P w K mg base 5 "is_ladder" (Bb K Re):=BU ["thing"] (T.f.get 8 rfl) (by trivial)
theorem kQ:OF P w K mg base 6 "in_order" (Bb K OV):=BU ["keys","told","key"] (T.f.get 5 rfl) (by trivial)
theorem Zlt:OF P w K mg base 6 "are_ladders" (Bb K Vu):=BU ["thing"] (T.f.get 37 rfl) (by trivial)
theorem ZiF:OF P w K mg base 7 "values_in_order" (Bb K Vw):=BU ["values"] (T.f.get 11 rfl) (by trivial)
theorem ZkD:OF P w K mg base 7 "merged_along" (Bb K Vz):=BU ["ways","table","cells","key","cell","there"] (T.f.get 24 rfl) (by trivial)
theorem ZkA:OF P w K mg base 7 "keys_changed" (Bb K Rf):=BU (ko.append ["cells_ahead","cells_behind","keys"]) (T.f.get 33 rfl) (by trivial)
theorem Zrv:OF P w K mg base 8 "beneath" (Bb K VH):=BU j5 (T.f.get 13 rfl) (by trivial)
theorem ZpE:OF P w K mg base 8 "table_of" (Bb K Rg):=BU (kf.append ["single"]) (T.f.get 25 rfl) (by trivial)
theorem Zko:OF P w K mg base 8 "cells_changed" (Bb K VN):=BU (kq.append ["changed","grain"]) (T.f.get 34 rfl) (by trivial)
theorem Zls:OF P w K mg base 9 "is_value_at" (Bb K Kf):=BU j6 (T.f.get 14 rfl) (by trivial)
theorem Znf:OF P w K mg base 9 "tables_at" (Bb K Rj):=BU km (T.f.get 32 rfl) (by trivial)
theorem Zot:OM P w K mg base d BQ 9 "keep" (C6 K Rk):=MR ["self","grain"] (T.m.get 2 rfl) (by trivial)
theorem Zkq:OF P w K mg base 10 "is_finest_key" (Bb K VY):=BU kg (T.f.get 26 rfl) (by trivial)
theorem Zor:OF P w K mg base 10 "regrouped" (Bb K Wc):=BU (kt.append ["rest"]) (T.f.get 36 rfl) (by trivial)
theorem Zn4:OM P w K mg base d BQ 10 "__init__" (C6 K Wd):=MR ku (T.m.get 0 rfl) (by trivial)
theorem Zf4:OM P w K mg base d BQ 10 "tables_renewed" (C6 K Ro):=MR ["self","ahead"] (T.m.get 5 rfl) (by trivial)
theorem Zok:OF P w K mg base 11 "is_change" (Bb K Wg):=BU kh (T.f.get 27 rfl) (by trivial)
theorem ZkJ:OM P w K mg base d BQ 11 "regroup" (C6 K Rp):=MR kx (T.m.get 3 rfl) (by trivial)
theorem ZsW:OF P w K mg base 12 "poured" (C6 K Wj):=OA (kk.append ["standing","change"]) (T.f.get 31 rfl) (by trivial)
theorem Zki:OF P w K mg base 12 "_law_regrouped" (C6 K Rr):=OA (kO.append ["_law_xs","_law_some","_law_axis","_law_ladder_here","_law_level","_law_value","_law_line","_law_one"]) (T.f.get 53 rfl) (by trivial)
theorem ZoT:OM P w K mg base d BQ 13 "pour" (C6 K Rs):=MR kw (T.m.get 1 rfl) (by trivial)
theorem ZmM:OF P w K mg base 14 "_law_poured" (C6 K Rt):=OA (kN.append ["_law_xs","_law_changes","_law_k","_law_row_here"]) (T.f.get 52 rfl) (by trivial)
theorem Zz8{fn:Ac}{fd:Cr}(D:DI K mg "law" (Bm 85) ["_law_script"] fn fd):A3 P w K mg base BQ 15 fn fd ["_law_script"] (C6 K gq):=cB ["_law_script","_law_ladders_here","_law_book","_law_grains","_law_k","_law_grain_here","_law_rows","_law_old","_law_cell_here","_law_told","_law_new"] D (by trivial)
end
end
theorem fin{l:PySem.W.OpenLaw}{w:Aj}{K:Ap}{h:Am}{mg:BC}{b:Ac}(_:K.In h)(a:mg "law"=Z (.ref b)):(∃d,Tx K mg d)->∃fd:Cr,(∀(s:Ab)(v:Aa),BindsTo s fd #[[v],[]] [("_law_script",v)])/\∀base:Am,K.In base->base.Ns C4 mg->A3 l.prog w K mg base BQ 15 b fd ["_law_script"] (NB K):=λ⟨_,T⟩=>let⟨_,_,D⟩:=T.f.get 55 rfl;vo a D (λ_=>Zz8 T D) (λns _=>zZ ns) λ_ _ _ _ _ _ _=>rfl
theorem walk{l:PySem.W.OpenLaw}{q:AL}{b:U Af}{i:(BC)->Am->Prop}{e:Aj->Am->Prop}{d:DefRec}{K:Params->Ap}(j:l.most=Z 63)(c:d.params.defaults=[]) (m:∀(w:Aj) (h:Am),e w h->(K w.params).In h) (F:∀(w:Aj) (mg:BC) (g:Ac) (h:Am),(K w.params).In h->h.Ns C4 mg->mg d.name=Z (.ref g)->∃fd:Cr,(∀(s:Ab) (u:Aa),BindsTo s fd #[[u],[]] [("_law_script",u)])/\∀base:Am,(K w.params).In base->base.Ns C4 mg->A3 l.prog w (K w.params) mg base BQ 15 g fd ["_law_script"] (NB (K w.params))):PySem.W.WalkO q b i e l.row.toRowW d [] (λf vs=>PySem.call f vs):=Internal.walk_of (n:=63) (k:=15) (x:="_law_script") (CX:=λ_=>BQ) (sp:=λw=>NB<|K w.params) j (by ext) c ⟨rfl,by ext,by ext⟩ m F (λ_ _ a ns o _ p=>#[a,ns,rfl,p,o,λ_=>rfl]) λ_ _ _ _ _ z=>z
end Internal.K53
variable{acc:U Internal.K53.Be}{rs':U Internal.K53.Row}{cs:U Internal.K53.Dc}
end
structure PySem.W.Fast:Prop where(tw10207899052953714748 tw13215831448291060963 tw2763177075639401491 tw14646945395504501748 tw3044267760889566110 tw7862581333203558555 tw6461378388487274047 tw16752628027855212812 tw2183988514573606420 tw4830127190347325900 tw5088888599178951297 tw2449520410287003508 tw12740821098663745368 tw6188320404545464739 tw14786261913663478218 tw17725659113112530402 tw11074203179670499961 tw16472903980118303573 tw5067136135787947381 tw1401587951273098552 tw9498298428845761753 tw9488571648461200256 tw5783214213171312122 tw9013207671448691386 tw106183594780509648 tw8180454559821704972 tw2498907964116987488 tw8445574964686000277 tw4645627216808558374 tw7246020849398954799 tw1755052598479151918 tw4165456035591498885 tw17460439000002564591 tw11631198406177540287 tw16302208800506242299 tw17546345408379855491 tw13117795276486396217 tw13638900540584958202 tw13181684739321752945 tw3775385182409267354 tw5059198077066024119 tw1317368966153371234 tw7546423964219664987 tw12663281327037364727 tw7246327353838119797 tw6412621297284385366 tw10878894918407025459 tw11705910323398053213 tw6146142863521021932 tw15443899512265450600 tw9834352986996799216 tw17992563644823626213 tw4334506073085523026 tw10981340904810781055 tw10270617083008250815 tw11925105776737882994 tw17641711335436370088 tw16960464367967823104 tw312511924498592129 tw13076645430073910056 tw6230628466092479551 tw6699277357983270031 tw9207117943672589596 tw14514904271661037958 tw10398205717263480440 tw14015930894456051054 tw15285235994956968765 tw12051510855145947342 tw10596699885547936131 tw4571325704713452006 tw1283118126053106824 tw6588158102013160635 tw4338927881447894044 tw16121683635499460420 tw8375912294179578119 tw16005612705949562720 tw5909287296974772185 tw16628252668991066330 tw8505066324925430499 tw8038185882894990589 tw15598322327915821565 tw10605406585419015599 tw2642011196586128105 tw13966289849376900447 tw9380842857365547688 tw16009032506375409992 tw59597944491522286 tw12958504913537611425 tw18358023739672140015 tw270389593901328543 tw12809260524919392083 tw2176538816388353326 tw11527654901606695173 tw10491831777221979612 tw5833838513981171264 tw5386041492604987194 tw14470793188431903403 tw7542713719803810799 tw571280025930338650 tw13752339972382989364 tw8349844385519102412 tw3176509918613433786 tw13511109352939623529 tw8624683740029019785 tw16274073285193006994 tw6456012193056219605 tw5814802298568985538 tw9220028138681633673 tw1039626815933957487 tw5134123653168266708 tw6714758049488661971 tw17209106006636800049 tw13032898012497103645 tw10509173723056480826 tw16829937545683783989 tw3007618821306664012 tw4049949126930644302 tw348308540537450936 tw348930206396902958 tw18287464457348180207 tw16880772526481380408 tw13689989013910574103 tw17416786743020269075 tw10876307515419446850 tw4030972518687442960 tw17374369733730330678 tw8554029745566037631 tw8630586335022617583 tw10315803352969330816 tw10487392458502405901 tw11009555118737706697 tw6844669682223090649 tw12461675168395725976 tw16477313774936352295 tw8162861913613338741 tw2214567427522593185 tw13056110383741361536 tw9842240131739520111 tw15574888228775473002 tw3418446346628091690 tw10661776595237938062 tw11117529478263128183 tw18408902930119216430 tw4670313402125938753 tw16476538504454138033 tw16189351289525569452 tw18094781924302129740 tw6670197976555920220 tw5524720555935307605 tw7519987835753494260 tw17911250132457147703 tw18283006871117502657 tw12778304593152442070 tw2324617757799663865 tw16501704011107068955 tw13348609981597932860 tw11071140081002643390 tw1495674203354128037 tw8800003747741186895 tw11134497668613274495 tw2431140795321972786 tw11720040441932745957 tw5485034402795975985 tw1151130656195463232 tw16305686389780403879 tw17907241846302059840 tw6236120624933629927 tw17880965083697728150 tw16820985293639221454 tw12977995880072830131 tw10755840226086217490 tw2490280977504420915 tw6233242195403941583 tw14018308446739073316 tw7394217821270181819 tw14806853185169506035 tw2107893495190883944 tw7876431660737781569 tw5125014993855987485 tw1768947441401651829 tw8364731211174110906 tw15081473342940814329 tw13380449782309957966 tw7331491359571610282 tw11367749337045900403 tw5131856147795377729 tw3691522259974507083 tw17730923115532219654 tw7540501534336353089 tw2637878228183055765 tw5243650858169292538 tw10787811783396647694 tw12796367976864266058 tw511255241805759384 tw18298128628731889067 tw16496248832865089182 tw11928469501560898429 tw11721286599922491842 tw3544111394753498723 tw17295412906152643582 tw4472805190279258258 tw13918713556987095488 tw8838822609810750358 tw5364751433283867497 tw3137536602785028998 tw5961765289356725510 tw7425526917763144899 tw17175836644563409883 tw13676628187559356079 tw10302439524747749814 tw1520341742622716627 tw12518614258738838268 tw5950147994122293370 tw3820071257899360363 tw3298524833208316848 tw4997627386651594289 tw10068534248392311632 tw18395544017971658972 tw12537808125782438047 tw999760172990820148 tw5630356566636640292 tw14266138244435560892 tw1424222979829191237 tw1238212083317876317 tw11333536738058379488 tw13735177730435639282 tw4336497446575151623 tw763746900835766586 tw4452242590320761731 tw3590230159868855920 tw7856897928307089997 tw18385275463499582442 tw17599467557847088990 tw15763738840430301645 tw15655887140485390757 tw9070029365701539335 tw15488519131058323813 tw8264845282029401003 tw12695955334432112521 tw16934427839183944301 tw16465816131990636434 tw15526101561131764669 tw7777640845085079910 tw2153173029716867076 tw5563624177588602270 tw8080853928871248324 tw12216250779053789761 tw8275646667293667165 tw17184492171191350904 tw10820593174234733375 tw785488588383677637 tw5924257171250747553 tw17413743458416315766 tw661155894434555497 tw16844487888887474810 tw13923182058438250071 tw8225003007209479160 tw2644183313593166052 tw17434607225599436660 tw10179827354586207019 tw9665229306578840296 tw1665634279418148964 tw8807234649350626465 tw8125016298695919746 tw7307651432458584259 tw4939098511276136305 tw14184469785652503069 tw13865116389469659609 tw11460968383661310230 tw10383728047302614596 tw8018338874366950279 tw652348756091583747 tw14073770370233988627 tw4449509974545417575 tw18287270035326781364 tw8847985404970509971 tw5699553589825601631 tw14003731782824932683 tw16873943854256060999 tw1441630616708378480 tw4997779114652700314 tw3848876358498117946 tw3076586228333007437 tw2846308355449451892 tw13016426836545009779 tw9573029481019501865 tw3017792645077613003 tw1885450722991150371 tw12290161957631965842 tw11821802734428137138 tw10558326357508382326 tw13726784425129543982 tw15864922928024402309 tw3401191382913687236 tw9787955953589915618 tw17063611487231843328 tw15250712401407929603 tw6585301141524518577 tw3803713203995469262 tw8451397778794080978 tw8826301623347485262 tw5650550878224253079 tw14266381118958347968 tw13197468812554778669 tw2184023178011801033 tw16547041837998881715 tw1084671659024425640 tw16739960383347248961 tw15930033963486126075 tw1333384930297753149 tw6292362596478421855 tw3754975607916496592 tw16475361500076310070 tw16164166173519291585 tw14828032947595676045 tw998340018236505348 tw3175727174312853958 tw4964281205550991101 tw4925241465452840132 tw8225006823073914423 tw16789431022752798161 tw1209264908732832331 tw2932159678595214101 tw81093013957048435 tw13528819193143399815 tw641402981339810688 tw213155636968649707 tw18159736361826094785 tw14803428286593256348 tw11879876419167773835 tw5999149996911550790 tw10451749442376399117 tw13327174946782694445 tw5646801994486239132 tw11140983987899784282 tw8229998913389548774 tw5962721081919145274 tw12512239515808386213 tw1026960391354614385 tw4963168978879448511 tw11221399224194610296 tw12554442027185034470 tw10290817800240136321 tw10826901501999504422 tw4986797253786233803 tw5811704043736068988 tw4096216591708399867 tw16891970241063696286 tw16743314535614468139 tw10048565750218945333 tw8187977702286509763 tw229430093406424698 tw10934732369994920382 tw5533684382091320311 tw10955372790551964841 tw7637146135815648735 tw6694956835682427905 tw13207927197548142459 tw17506267724112980612 tw16194070764199873038 tw1396157408624541326 tw741207962973914018 tw18342808363543612703 tw1490217844569422662 tw10794888137633552352 tw6637173176308513967 tw6208361275818561535 tw10871484968420930012 tw11733354453305343331 tw11232726308042139292 tw6979030297010234381 tw4044041502807637981 tw18367656130980230616 tw17484740189212368688 tw15742339080303367082 tw12029485364462686909 tw10142516291716682559 tw11156546007087165145 tw9331797537686536151 tw5413025641325586774 tw5360334736556100978 tw15276874047413656212 tw14965414138889371742 tw1403677464302354728 tw10284918570566011982 tw10147525621490594052 tw4337740982637291255 tw18250708174081651695 tw1254705641955878562:True)
open PySem PySem.W PyProof.Rows
set_option maxRecDepth 100000 in
set_option maxHeartbeats 0 in
theorem PySem.Challenge.cw_cubebook_k53_changes_told_holds : PySem.Challenge.rw_cubebook_k53_changes_told.Holds := by
 w_on;o_law;k_head;(case hw=>w_witness2)
 k_fill
 refine Internal.K53.walk (l:=PySem.Challenge.rw_cubebook_k53_changes_told) rfl rfl (fun w h Y=>PySem.W.kIn_of Y) ?F
 case F =>
  intro w mg fa h KX G hmg
  open Internal in refine' Internal.K53.fin KX hmg ⟨_,⟨Internal.ci KX G ?_ ?_ ?_ ?_ ?_ ?_ ?_,?_,?_,?_,?_,?_,?_,?_⟩⟩
  open Internal in repeat (any_goals (show Internal.All _ _;first | exact True.intro | refine' ⟨⟨_,_,Internal.di KX G ?_ ?_ ?_ ?_⟩,?_⟩ | refine' ⟨⟨_,_,Internal.mi ?_ ?_ ?_ ?_ ?_⟩,?_⟩ | refine' ⟨mg_none_of KX G ?_,?_⟩ | refine' ⟨⟨_,mg_of KX G ?_,⟨_,rfl⟩⟩,?_⟩ | refine' ⟨⟨_,mg_of KX G ?_,?_⟩,?_⟩ | refine' ⟨⟨_,?_,Internal.mk_of ?_ ?_,⟨?_,?_,?_,?_,?_,?_,⟨_,?_⟩⟩,Internal.kit_V ?_,⟨_,?_,Internal.exm_of ?_ ?_ ?_ ?_⟩,?_⟩,?_⟩ | refine' ⟨⟨_,?_,?_⟩,?_⟩))
  all_goals try (show (_:Prop);first | k_is | rfl | k_exc | exact Internal.kit_self | (refine' Internal.kit_ne ?_ ?_ ?_ ?_<;>first | k_is | rfl))
#print axioms PySem.Challenge.cw_cubebook_k53_changes_told_holds
