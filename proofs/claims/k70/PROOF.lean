import PyProof.Rows.All
import Wide.All
import OpenK.AllK
import Wide.FinOn
import Lean
import PyProof.EqAt
import PyProof.EqKinds
import PyProof.TupleCall
import PyProof.TupleKey
import PyProof.DictRoadsH
import Wide.Seal
import PyProof.NeKinds
import PyProof.ZipIter
import PyProof.EnumMake
import PyProof.Rows.TupTab
import KE.KDictLaws
import PyProof.AutoListH
import PyProof.AttrMissHeap
import KE.KDictOf
import KE.KIntText
import PyProof.StrBlockL
import PyProof.StrLawsChain
import PyProof.FString
import PyProof.Rows.FStr
import OpenK.KOwn
import KE.KIsAll
import KE.KDictList
import PyProof.Draws
import PySem.Challenge.RW_cubebook_k70_drilled_and_rolled
open PySem.W renaming Frag→Am,keepIn→HI,emptyDict→Jj,findIn→Ji,instObj→J6,fnOf→Jm
open PySem renaming wpAny_bind→Al,wpAny_pure→AO,sizeLine→Az,Spec→Qak,starEach→AL,Program→AR,mainGlobals→CJ,wpAny_loadPart'→EN,FuncData→Cj,wpAny_setField_rec→Fp,foldedSetIterable→FS,bootBuiltins→Eh,compareOp→DD,wpAny_field→Eu,wpAny_holding→Fv,attributeBase→FV,wpAny_callSpecial?_slot→Kc,swapsWith→Ej,behindInMarks→GG,wpAny_truthy_bool→Jh,mem_of_lookup→Ka,wpAny_call_entry→Jn,tupleKind_room_in1→Ks,keywordEach→GJ,Keyword→Em,wpAny_seqItems→IQ,wpAny_newObj_type→Ke,assignEach→GH,wpAny_Call_Name_kw→La,sizeLine_eq→HH,sysModules→He,codeAny_builtin→Ki,holding→Fe,NameKind→Gg,Builtin→F0,backToKw→GI,wpAny_rule→Ix,binaryOp→Hj,wpAny_getItem_str_slice→Sa,plainId_quiet→Lg,DictEntry→Iq,wpAny_letGo→Kx,wpAny_typeNameOfWhole_keyiter→bM,wpAny_pyIter_list→OP,wpAny_typeOf→Lc,call_meetsIn→LL,codeAny_call_builtin→S7,wpAny_attempt→Nv,wpAny_passesOwn→OR
open List renaming mem_cons_of_mem→A5,mem_cons_self→A6,map_cons→AT,getElem?_eq_some_iff→BR,getElem?_eq_getElem→Cc,mem_map→Bc,length_map→Bu,mem_cons→Bl,range→Bf,size_toArray→Ca,length_cons→Cb,mem_append_right→Dj,map_map→B4,all_eq_true→Dc,append_assoc→Dy,getElem?_map→DF,map_append→De,getElem?_set_ne→Ei,getElem?_append_left→FC,length_append→D2,set_cons_succ→Ef,set_cons_zero→Eg,mem_range→C9,append_nil→Du,getD→Cm,getElem?_append_right→GN,zipWith→Dg,map_nil→Dv,mem_singleton→Fw,replicate→En,getElem?_cons_succ→Ht,getElem?_cons_zero→Hz,mem_append→EH,nil_append→EZ,mem_of_getElem?→GO,nodup_cons→FA,getElem?_set_self→Iv,mem_map_of_mem→Ij,zip_cons_cons→HL,getElem_mem→Hq,getElem?_replicate→Kb,mem_append_left→Jg,not_mem_nil→HQ,getElem?_append→Km,all_map→GX,take_of_length_le→LB,range'→Gy,ext_getElem?→Jy,length_nil→IB,drop_eq_getElem_cons→MV,foldl_cons→IG,mem_filter→Iu,length_replicate→Lb,length_singleton→Le,length_filter_le→Mq,drop_eq_nil_of_le→MU,zipWith_cons_cons→Ot,cons_append→Kj,range_eq_range'→On,all_cons→Jz,length_eq_zero_iff→Ph,pairwise_cons→Nr,nodup_append→Nk,pairwise_iff_getElem→S5,lookup_cons→MP,length_drop→NH,filterMap_cons→OG,of_mem_zip→MM,getElem?_drop→O1,getElem?_eq_none→Sh,range'_succ→QW,filter_cons→Rb,replicate_zero→WM,map_congr_left→Xf,set_eq_take_append_cons_drop→QdD
open PySem.Heap renaming get?_push_of_some→Bg,get?_push_size→B7,lt_size→BK,SameBut→D1,size_push→FU,get?_update_self→SM
open Option renaming bind_eq_some_iff→BZ,map_eq_some_iff→Cd,bind→DG,map→D0,isSome_iff_exists→RV,map_some→MS,isSome_map→Pu,getD_some→O0
open Nat renaming le_refl→A9,lt_of_lt_of_le→BQ,le_trans→BX,ne_of_lt→B6,lt_of_add_right_lt→EQ,lt_of_le_of_lt→GY,zero_le→Fz,lt_trans→Gj,lt_of_not_le→IR,lt_irrefl→Hf,le_add_right_of_le→Lf,ne_of_gt→Hh,le_of_not_lt→Kh,lt_or_ge→IN,le_succ_of_le→LU,succ_le_succ→Ld,le_sub_one_iff_lt→Pq,le_antisymm→LQ,eq_of_le_of_lt_succ→SV,reduceAdd→Mo,le_of_add_right_le→RY,le_of_eq→K9,le_add_right→Ps
open False renaming elim→B0
open Bool renaming and_eq_true→C2,false_eq_true→Fg,and_self→F7,not_eq_true'→LS,false_ne_true→MA,true_and→KI,not_true→KV,not_eq_true→Pm
open Ne renaming symm→BF
open Option.some renaming inj→Fc
open PySem.W.KasT renaming kasWp→DK,kasWp_bind→Pz
open PySem.Value renaming ref→Di
open PySem.Str renaming ofString→EL
open PyProof.Rows renaming callWith_type1→K7,listUpdate_at→Nu
open PySem.Paired renaming length→Hd
open PySem.NameKind renaming free→Hl,cell→MQ
open PySem.Heap.SameBut renaming update→Kt
open PySem.Builtin.Str renaming occurrences→MJ
open PySem.Obj renaming mapSeq→GP,data_mapFields→S8
open PySem.Txt renaming slice→Gk,zfill→Ie
open PySem.F renaming slot_dict_get→NB,plainAttrs_list→Pa,slot_enumerate_next→Tj,entry_dict_get→Tg,slot_dict_setdefault→bc,slot_zip_next→Th,args_tuple_add_2→Y8,entry_tuple_add→Y7,plainAttrs_dict→br,slot_dict_keyiterator_next→uI
open Classical renaming propDecidable→Pc
open True renaming intro→HJ
open Eq renaming trans→G9
open Int renaming toNat_natCast→Nw
open PySem.Builtin.Slice renaming slicePlaces→RW,sliceAdjust→Yr
open Array renaming length_toList→RD,getElem?_eq_getElem→bt
open List.cons renaming injEq→Pt
open PySem.Builtin.SmallTypes renaming nextOf→ca
open PySem.Calls renaming call_function_entry→cm
open PySem.Builtin.List renaming listTooLong→YB
open List.Perm renaming eq_of_pairwise→bC
open PySem renaming Value→Aa,Shared→Ab,Addr→Ac,Str→Ae,Around→Af,model→Ag,World→Ai,Heap→Ak,eval→An,cLine→As,Pos→Aw,backTo→AD,Stmt→AE,Builtin→Br,rawInt→Bw,tupleKind→BW,sliceBounds→BY
open Pure renaming pure→Ax
open PyProof.Rows renaming envOfC→Bj
open ToString renaming toString→BN
open Option renaming some→Z,none→J
open Bool renaming true→J',false→O'
abbrev U:=@List
abbrev O:=@Option
set_option Elab.async false
set_option linter.all false
set_option backward.eqns.nonrecursive false
set_option tactic.hygienic false
set_option maxHeartbeats 4000000
set_option maxRecDepth 100000
abbrev AQ:=PySem.Value->PySem.Shared->Prop
abbrev DC(x:PySem.Str):Prop:=(x==("__debug__":PySem.Str))=O'
abbrev A1:=U (PySem.Addr×PySem.Obj)
abbrev BE:=PySem.Str->O PySem.Value
theorem Cy{b:Type}{c:Prop}[Decidable c]{a:O b}{r:b}(h:(if c then a else J)=Z r):c/\a=Z r:=by
 split at h
 ·exact⟨‹_›,h⟩
 ·cases h
noncomputable section
set_option bootstrap.genMatcherCode false
set_option genSizeOf false
set_option genSizeOfSpec false
set_option compiler.extract_closed false
set_option bootstrap.genMatcherCode false
set_option genSizeOf false
set_option genSizeOfSpec false
open List renaming toArray->T'
local macro_rules|`(#[$a,*])=>`(⟨$a,*⟩)
local macro_rules|`(tactic|erw[$[$t:term],*]$[$l]?)=>`(tactic|simp only[$[$t:term],*]$[$l]?)
local macro_rules|`(tactic|ext)=>`(tactic|decide)
local macro_rules|`(tactic|let$d:letDecl)=>`(tactic|have$d:letDecl)
theorem zX1{A}{p:A->Prop}{G:Prop}(h:∃a,p a)(k:∀a,p a->G):G:=by obtain⟨a,h⟩:=h;exact k _ h
theorem zX2{A B}{p:A->B->Prop}{G:Prop}(h:∃a b,p a b)(k:∀a b,p a b->G):G:=by obtain⟨a,b,h⟩:=h;exact k _ _ h
theorem zX3{A B C}{p:A->B->C->Prop}{G:Prop}(h:∃a b c,p a b c)(k:∀a b c,p a b c->G):G:=by obtain⟨a,b,c,h⟩:=h;exact k _ _ _ h
theorem zX4{A B C D}{p:A->B->C->D->Prop}{G:Prop}(h:∃a b c d,p a b c d)(k:∀a b c d,p a b c d->G):G:=by obtain⟨a,b,c,d,h⟩:=h;exact k _ _ _ _ h
theorem zX5{A B C D E}{p:A->B->C->D->E->Prop}{G:Prop}(h:∃a b c d e,p a b c d e)(k:∀a b c d e,p a b c d e->G):G:=by obtain⟨a,b,c,d,e,h⟩:=h;exact k _ _ _ _ _ h
theorem zX6{A B C D E F}{p:A->B->C->D->E->F->Prop}{G:Prop}(h:∃a b c d e f,p a b c d e f)(k:∀a b c d e f,p a b c d e f->G):G:=by obtain⟨a,b,c,d,e,f,h⟩:=h;exact k _ _ _ _ _ _ h
theorem zX7{A B C D E F I}{p:A->B->C->D->E->F->I->Prop}{G:Prop}(h:∃a b c d e f i,p a b c d e f i)(k:∀a b c d e f i,p a b c d e f i->G):G:=by obtain⟨a,b,c,d,e,f,i,h⟩:=h;exact k _ _ _ _ _ _ _ h
theorem zN2{a b G:Prop}(h:a∧b)(k:a->b->G):G:=k h.1 h.2
theorem zN3{a b c G:Prop}(h:a∧b∧c)(k:a->b->c->G):G:=k h.1 h.2.1 h.2.2
theorem zN4{a b c d G:Prop}(h:a∧b∧c∧d)(k:a->b->c->d->G):G:=k h.1 h.2.1 h.2.2.1 h.2.2.2
theorem zN5{a b c d e G:Prop}(h:a∧b∧c∧d∧e)(k:a->b->c->d->e->G):G:=k h.1 h.2.1 h.2.2.1 h.2.2.2.1 h.2.2.2.2
theorem zN6{a b c d e f G:Prop}(h:a∧b∧c∧d∧e∧f)(k:a->b->c->d->e->f->G):G:=k h.1 h.2.1 h.2.2.1 h.2.2.2.1 h.2.2.2.2.1 h.2.2.2.2.2
theorem zN7{a b c d e f i G:Prop}(h:a∧b∧c∧d∧e∧f∧i)(k:a->b->c->d->e->f->i->G):G:=k h.1 h.2.1 h.2.2.1 h.2.2.2.1 h.2.2.2.2.1 h.2.2.2.2.2.1 h.2.2.2.2.2.2
theorem zN8{a b c d e f i j G:Prop}(h:a∧b∧c∧d∧e∧f∧i∧j)(k:a->b->c->d->e->f->i->j->G):G:=k h.1 h.2.1 h.2.2.1 h.2.2.2.1 h.2.2.2.2.1 h.2.2.2.2.2.1 h.2.2.2.2.2.2.1 h.2.2.2.2.2.2.2
theorem zN9{a b c d e f i j l G:Prop}(h:a∧b∧c∧d∧e∧f∧i∧j∧l)(k:a->b->c->d->e->f->i->j->l->G):G:=k h.1 h.2.1 h.2.2.1 h.2.2.2.1 h.2.2.2.2.1 h.2.2.2.2.2.1 h.2.2.2.2.2.2.1 h.2.2.2.2.2.2.2.1 h.2.2.2.2.2.2.2.2
open Lean Parser Tactic in def dZ'(n:Nat)(xs:Array Term)(e:Term)(fs:Array (TSyntax `tactic)):Nat->TSyntax `tactic->MacroM (TSyntax `tactic)|0,a=>return a|k+1,a=>do let m:=n-1-k;let f:=λ(s:String)(i:Nat)=>mkIdent (.mkSimple (s++toString i));let z:=mkIdent `zZ;let y←`(λ $(xs.extract m n)* =>?_);let t←(if m=0 then `($(f "zN" n) ($e :) $y) else if k=0 then `($(f "zX" m) ($e :) λ $xs* =>?_) else `($(f "zX" m) ($e :) λ $(xs.extract 0 m)* $z=>$(f "zN" (k+1)) $z $y));let b←dZ' n xs e fs k a;let c←`(tactic|try clear $z);`(tactic|first|(refine $t;$c;$[$fs]*)|$b:tactic)
local macro_rules|`(tactic|let($a,$b,*):=$e)=>do let cs:=(Array.mk [a])++b.getElems;let (xs,fs)←cs.foldlM (λ (xs,fs) c=>do let z:=Lean.mkIdent (.mkSimple (toString e.1.getId++"z"++toString xs.size));match c with|`(rfl)=>return (xs.push z.1,fs.push (←`(tactic|subst $z)))|`(($a,$b,*))=>return (xs.push z.1,fs.push (←`(tactic|let($a,$b,*):=$z)))|_=>return (xs.push c.1,fs)) ((Array.mk []:Array Lean.Syntax),(Array.mk []:Array (Lean.TSyntax `tactic)));let ps←xs.mapM λx=>if x.isIdent then`(Lean.Parser.Tactic.rcasesPatLo|$(⟨x⟩):ident)else`(Lean.Parser.Tactic.rcasesPatLo|_);let r←`(tactic|(obtain⟨$ps,*⟩:=$e;$[$fs]*));if (e.1.find? λs=>s.isOfKind ``Lean.Parser.Term.syntheticHole).isSome||e.1.isIdent&&cs.any λc=>(c.1.find? λs=>s.getId==e.1.getId).isSome then return r else let d←`(tactic|try clear $(⟨if e.1.isIdent then e else Lean.mkIdent `zZ⟩));dZ' cs.size (xs.map (⟨·⟩)) e ((Array.mk [d])++fs) cs.size r
local macro_rules|`(∅)=>`(by lia)
local macro_rules|`(tactic|apply$e)=>if e.raw.isOfKind ``Lean.Parser.Term.paren then Lean.Macro.throwUnsupported else`(tactic|refine $e)
local macro_rules|`(tactic|show$e)=>`(tactic|exact $e)
local macro_rules|`(tactic|exists$e)=>`(tactic|simpa using $e)
local macro_rules|`(tactic|symm)=>`(tactic|decide +kernel)
local macro_rules|`(command|open J in$c)=>`(command|set_option tactic.hygienic true in $c)
set_option Elab.async false in theorem ù(_:0=0:=by rfl)(_:0=0:=by ext)(_:0=0:=by first|show .S rfl|show .τ rfl)(_:0=0:=by first|show .S rfl|show .τ rfl|assumption)(_:0=0:=by first|show .inl rfl|show .inr rfl|assumption)(_:0=0:=by intro _;rfl)(_:0=0:=by show DT rfl)(_:0=0:=by show Ew)(_:0=0:=by show Fj)(_:0=0:=by show Nx)(_:0=0:=by show YT)(_:0=0:=by show cK)(_:0=0:=by show λ_ _=>rfl)(_:0=0:=by symm)(_:0=0:=by with_unfolding_all rfl):0=0:=rfl
local macro_rules|`(↑$x)=>`(autoParam $x ù._auto_1)
local macro_rules|`(⇑$x)=>`(autoParam $x ù._auto_2)
local macro_rules|`(↥($x:term:$n:num))=>`(autoParam $x $(Lean.mkIdent (.str `ù s!"_auto_{n.getNat}")))
open Lean Parser Term in def dN(f:Bool):Name->Name|.str p s=>let u:=if s.length>2 then s else match " a=length j=map o=heap r=int u=val y=size B=getD C=ref E=objs G=env I=toArray J=trans L=bind O=tup Q=get? R=toList S=inl U=lst X=lookup Y=non α=extBut β=next γ=prog δ=Attribute ε=Name ζ=type η=units θ=mono ι=Nodup κ=same μ=isSome ν=filter ξ=refl ρ=builtin σ=none τ=inr υ=names φ=base χ=own ψ=append ω=toks Α=str Β=toNat Γ=scope Δ=Subscript Ε=set Ζ=elim Η=cons Θ=Call Ι=get Κ=fresh Λ=foldl Μ=push Ν=drop Ξ=cell Ο=Compare Ρ=symm Τ=ListComp Υ=mem_iff Φ=free Χ=isEmpty Ψ=length_eq Ω=isList ϊ=fields ϋ=cel ό=fail ύ=take ώ=step Ϗ=contains ϐ=cps ϑ=of_same ϒ=locals ϓ=local ϔ=all ϕ=dat ϖ=typeIs ϗ=BoolOp Ϙ=tuple ϙ=Constant Ϛ=stack ϛ=handled Ϝ=nil ϝ=bool Ϟ=cells ϟ=kept Ϡ=Assign ϡ=mpr Ϣ=hok ϣ=slot Ϥ=list ϥ=line Ϧ=function ϧ=eraseIdx Ϩ=deeper ϩ=Pairwise Ϫ=len ϫ=eraseIdxIfInBounds Ϭ=calm ϭ=update Ϯ=slot_list_getattribute ϯ=params ϰ=seq ϱ=kind ϲ=Perm ϳ=slot_list_append ϴ=perm_append_comm ϵ=kindOf ϶=endLine Ϸ=le_of_lt ϸ=ellipsis Ϲ=IsTupleIter Ϻ=ret jk=lent oo=Tuple xv=turned v0=good gV=filterMap g7=FunFrames g9=gens ".splitOn (" "++s++"=") with|[_,r]=>(r.splitOn " ").headD s|_=>s;if p.isAnonymous then .str p (if f then u else s) else .str (dN f p) u|n=>n
open Lean Parser Term in def dS(f:Bool):Nat->Syntax->Option Syntax|0,_=>none|n+1,x=>match x with|.ident i r v _=>if !f&&v.isAtomic then(match v with|`Y=>some (mkIdent ``Nat)|`W'=>some (mkIdent ``Int)|`V'=>some (Lean.mkNode ``prop (Array.mk [Lean.mkAtom "Prop"]))|`jp=>some (mkIdent ``Bool)|_=>none)else let w:=dN f v;if w==v then none else some (.ident i r w [])|_=>let k:=x.getKind;if k==``proj then match dS f n x[0],dS true n x[2] with|none,none=>none|a,b=>some ((x.setArg 0 (a.getD x[0])).setArg 2 (b.getD x[2]))else if k==``dotIdent then(dS true n x[1]).map (x.setArg 1)else if k==``explicit then(dS f n x[1]).map (x.setArg 1)else if k==``app then(dS f n x[0]).map (x.setArg 0)else none
local macro_rules(kind:=ident)|x=>match dS false 9 x with|some y=>return y|_=>Lean.Macro.throwUnsupported
local macro_rules(kind:=Lean.Parser.Term.proj)|x=>match dS false 9 x with|some y=>return y|_=>Lean.Macro.throwUnsupported
local macro_rules(kind:=Lean.Parser.Term.dotIdent)|x=>match dS false 9 x with|some y=>return y|_=>Lean.Macro.throwUnsupported
local macro_rules(kind:=Lean.Parser.Term.app)|x=>match dS false 9 x with|some y=>return y|_=>Lean.Macro.throwUnsupported
local macro_rules(kind:=Lean.Parser.Command.variable)|x=>match x[0].getHeadInfo with|.original _ _ t _=>if t.isEmpty then Lean.Macro.throwUnsupported else do return Lean.mkNullNode (Array.mk [←`(section),x.setArg 0 (Lean.mkAtom "variable")])|_=>Lean.Macro.throwUnsupported
local macro_rules|`(tactic|ext$x:rintroPat)=>match x.raw.find? (·.isIdent) with|some i=>let i:Lean.Ident:=.mk i;`(tactic|cases $i:ident)|_=>Lean.Macro.throwUnsupported
local macro_rules(kind:=Lean.Parser.Command.declaration)|x=>do let d:=x[1];let u:=match d[0].getHeadInfo with|.original _ _ t _=>if d.isOfKind ``Lean.Parser.Command.definition then(t.toString.splitOn "\n").length-1 else 0|_=>0;let x:=if 0<u then x.setArg 1 (Lean.mkNode ``Lean.Parser.Command.theorem (Array.mk [Lean.mkAtom "theorem",d[1],Lean.mkNode ``Lean.Parser.Command.declSig (Array.mk [d[2][0],d[2][1][0]]),d[3]]))else x;let q←`(command|@[simp]def a:=1);let x:=if 1<u then x.setArg 0 (x[0].setArg 1 q.raw[0][1]) else x;let c:=(x[1].isOfKind ``Lean.Parser.Command.definition||x[1].isOfKind ``Lean.Parser.Command.abbrev)&&x[0][4].isNone&&(x[0][1].find? (·.isOfKind ``Lean.Parser.Attr.macro)).isNone;let y:=if c then x.setArg 0 (x[0].setArg 4 (Lean.mkNullNode (Array.mk [Lean.mkNode ``Lean.Parser.Command.noncomputable (Array.mk [Lean.mkAtom "noncomputable"])])))else x;match x.getHeadInfo with|.original ..=>return y.setHeadInfo .none|_=>if c||0<u then return y else Lean.Macro.throwUnsupported
variable{a:Ac}{apos cpos kpos p2 pos pos':Aw}{elts es ifs:U PySem.Expr}{E:AQ}{ps:U Ae}{gs:U (U Y)}{u:Aa}{Q:Unit->Ab->V'}{pl:PySem.Sem jp}{ek elt iter o tg:PySem.Expr}{sc scope:PySem.Scope}{pins:A1}{φ:Y->Ac}{ws:U Y}{t':Y}{R:PySem.Result->Ab->V'}{y:Ae}{g':Array PySem.GenState}{is isA isB:Y->Aa->V'}{items:Array Aa}{RR:Aa->Ac->PySem.Result->Ab->V'}{ch:U Ac}{B:Aa->PySem.Sem PySem.Fin}{sb tn:Y->Ak->V'}{d':PySem.Drawn}
namespace Internal
open PySem PySem.Spec PyProof.Rows
inductive V where
 |non|bl (b:jp)|int (i:W')|str (x:Ae)|ref (a:Ac)|ty (n:String)
 deriving DecidableEq
variable{vs ys:U V}
def RelV:V->Aa->V'
 |.non,u=>u=Value.σ
 |.bl b,u=>u=Value.ϝ b
 |.int i,u=>∃t,u=Value.r i t
 |.str x,u=>∃t,u=Value.Α x t
 |.ref a,u=>u=Di a
 |.ty n,u=>u=Value.ζ n
abbrev Aq:U V->U Aa->V':=Paired RelV
def
Aq.length{xs:U V}{us:U Aa}(r:Aq xs us):xs.a=us.a:=Hd r
def
Aq.get:∀{xs:U V}{us:U Aa}{i:Y}{x:V},Aq xs us->xs[i]?=Z x->∃u,us[i]?=Z u/\RelV x u
 |_,_,_,_,.nil,e=>by simp at e
 |_,_,0,_,.cons r _,e=>by simp at e;subst e;show#[_,rfl,r]
 |_,_,i+1,x,.cons _ t,e=>by
  let(u,h1,h2):=Aq.Ι (i:=i) (x:=x) t (by exists e)
  show#[u,by simpa using h1,h2]
def
Aq.append{xs:U V}{us ws:U Aa}(h:Aq xs us)(s:Aq ys ws):Aq (xs++ys) (us++ws):=by
 induction h with
 |nil=>show s
 |cons r _ a=>show .Η r a
def
Aq.take:∀{xs:U V}{us:U Aa}(n:Y),Aq xs us->Aq (xs.ύ n) (us.ύ n)
 |_,_,0,_=>.Ϝ
 |_,_,_+1,.nil=>.Ϝ
 |_,_,n+1,.cons r t=>.Η r (Aq.ύ n t)
def
Aq.drop:∀{xs:U V}{us:U Aa}(n:Y),Aq xs us->Aq (xs.Ν n) (us.Ν n)
 |_,_,0,r=>r
 |_,_,_+1,.nil=>.Ϝ
 |_,_,n+1,.cons _ t=>Aq.Ν n t
def Cz:O V->O Aa->V'
 |some v,Z u=>RelV v u
 |none,J=>True
 |_,_=>False
inductive At where
 |non|int (i:W')|str (x:Ae)
 deriving DecidableEq
variable{us:U (U At×Ac×Aa)}{th:U At->U At}
def Je:At->Aa->jp
 |.non,.none=>J'
 |.int k,v=>Value.isInt k v
 |.str x,v=>Value.isStrOf x v
 |_,_=>O'
def Rx(w:Ai):At->W'
 |.non=>reduceHash 4238894112
 |.int k=>hashInt k
 |.str x=>hashStr w x
def
Jf:∀{k:At}{v:Aa},Je k v=J'->(k=.Y/\v=.σ)\/(∃i t,k=.r i/\v=Value.r i t)\/(∃x t,k=.Α x/\v=Value.Α x t)
 |.non,v,h=>by ext v<;>first|show .S ⟨rfl,rfl⟩|show absurd h MA
 |.int i,v,h=>by let(t,e):=Value.isInt_shape (k:=i) (v:=v) h;show .τ (.S #[i,t,rfl,e])
 |.str x,v,h=>by let(t,e):=Value.isStrOf_shape (x:=x) (v:=v) h;show .τ (.τ #[x,t,rfl,e])
def
nl(i:W')(t:Tok):Je (.r i) (.r i t)=J':=by simp[Je,Value.isInt]
def
nq(x:Ae)(t:Tok):Je (.Α x) (.Α x t)=J':=by simp[Je,Value.isStrOf]
def
nr{prog:AR}{w:Ai}{A:Af}{s:Ab}{Q:W'->Ab->V'}(h:Q (reduceHash 4238894112) {s with toks:=s.ω+1}):
  wpAny (Ag prog w) A (PySem.pyHash .σ) Q E s:=
 PySem.W.pyHash_slot (T:="NoneType") rfl F.slot_NoneType_hash F.entry_NoneType_hash (F.args_NoneType_hash_1 _) (beq_builtin_none _) (.S rfl) (Al (AO (Al (wpAny_mkInt (AO #[_,_,rfl,h])))))
def
nt(a b:W'):decide ((At.r a)=.r b)=(a==b):=by
 grind
def
nu(a b:Ae):decide ((At.Α a)=.Α b)=decide (a=b):=by
 simp_all
def ZI(prog:AR)(w:Ai):PySem.KeyKind prog w At where
 is:=Je
 hash:=Rx w
 inj:=λv a b d hb=>by
  rcases Jf d with⟨rfl,rfl⟩|⟨i,t,rfl,rfl⟩|⟨x,t,rfl,rfl⟩<;>rcases Jf hb with⟨rfl,e⟩|⟨j,u,rfl,e⟩|⟨y,u,rfl,e⟩ <;>
   first|rfl|(ext e;done)|(ext e;rfl)
 byValue:=λk v h=>by
  rcases Jf h with⟨rfl,rfl⟩|⟨i,t,rfl,rfl⟩|⟨x,t,rfl,rfl⟩<;>rfl
 pyHash:=λc h=>by
  rcases Jf c with⟨rfl,rfl⟩|⟨i,t,rfl,rfl⟩|⟨x,t,rfl,rfl⟩
  .show nr h
  .show wpAny_pyHash_int h
  .show wpAny_pyHash_str h
 eqBool:=λf c h=>by
  rcases Jf f with⟨rfl,rfl⟩|⟨i,t,rfl,rfl⟩|⟨x,t,rfl,rfl⟩<;>rcases Jf c with⟨rfl,rfl⟩|⟨j,u,rfl,rfl⟩|⟨y,u,rfl,rfl⟩
  .show SeqAt.EqAt.κ Value.σ _ _ _ _ h
  .show SeqAt.EqAt.none_int j u _ _ _ _ h
  .show SeqAt.EqAt.none_str y u _ _ _ _ h
  .show SeqAt.EqAt.int_none i t _ _ _ _ h
  .rw[nt]at h;show wpAny_eqBool_int h
  .show SeqAt.EqAt.int_str i t y u _ _ _ _ h
  .show SeqAt.EqAt.str_none x t _ _ _ _ h
  .show SeqAt.EqAt.str_int x t j u _ _ _ _ h
  .rw[nu]at h;show wpAny_eqBool_str h
 «strs»:=λk x t v h=>by
  rcases Jf h with⟨rfl,e⟩|⟨i,u,rfl,e⟩|⟨y,u,rfl,e⟩
  .show nomatch e
  .show nomatch e
  .injection e with g _
   subst g
   ext v<;>rfl
inductive KT where
 |at(a:At)|tup (l:List At)
 deriving DecidableEq
def KT.hash(w:Ai):KT->W'
 |.at a=>Rx w a
 |.tup l=>reduceHash (Builtin.oo.tupleHashOf (l.j (Rx w)))
def Ge:At->V
 |.non=>.Y
 |.int i=>.r i
 |.str x=>.Α x
def nv:KT->V->V'
 |.at a,v=>v=Ge a
 |.tup _,v=>∃p,v=.C p
def J5(w:Ai):U KT->U V->U Iq->V'
 |[],a,b=>a=[]/\b=[]
 |k::c,a,b=>∃kv v r e t,a=kv::v::r/\b=e::t/\RelV kv e.key/\RelV v e.u/\e.hash=k.hash w/\nv k kv/\J5 w c r t
inductive HO where
 |lst (xs:List V)
 |tup (xs:List V)
 |dct (ks:List KT) (vs:List V)
 |ins (C dx:Ac) (fs:List (Ae×V))
 |own (x:Ac)
 |xd (fs:List (Ae×V))
 |met (f x:Ac)
 |rng (lo hi:W')
 |frz (o:Obj) (u:HO)
 |tbl (ps:Array Aa)
 |ext (φ:Ak->V')
abbrev Hp:=Ac->O HO
variable{H H' H0:Hp}
def AX(H:Hp)(a:Ac)(o:HO):Hp:=λb=>if b=a then Z o else H b
def
Z5{o:HO}:AX H a o a=Z o:=by unfold AX;rw[if_pos rfl]
def
Zt{b:Ac}{o:HO}(h:b≠a):AX H a o b=H b:=by unfold AX;rw[if_neg h]
def
ny{o u:HO}:AX (AX H a o) a u=AX H a u:=by
 funext b;unfold AX;split<;>rfl
def
Z3{b:Ac}{o:HO}(h:H a=Z o)(h':H b=J):a≠b:=by
 grind
section
variable(P:AR)(w:Ai)
def Be(P:AR)(w:Ai)(H:Hp)(h:Ak)(a:Ac):HO->V'
 |.lst d=>d.a<=Az/\∃(b:U Aa) (n:Y),Aq d b/\h.Q a=Z {cls:=.ζ "list",data:=.ϰ b.I n}
 |.tup d=>d.a<=Az/\∃b:U Aa,Aq d b/\IsTup h a b.I
 |.dct i l=>i.a<=Az/\(a==He)=O'/\i.ι/\∃o k m,h.Q a=Z o/\o.ExactDict/\o.data=.dict k m/\J5 w i l k.R
 |.ins C g e=>H g=Z (.χ a)/\e.a<=1000/\g≠a/\h.Q a=Z (J6 C g) /\
   ∃c,h.Ns1 g c/\(∀f,Cz (e.X f) (c f))/\PySem.Within c (e.j (·.1))
 |.own _=>∃o,h.Q a=Z o
 |.xd e=>∃c,h.Ns1 a c/\∀f,Cz (e.X f) (c f)
 |.rng lo p=>∃t u v,h.Q a=Z {cls:=.ζ "range",data:=.ϊ (T' [.r lo t,.r p u,.r 1 v])}
 |.frz o u=>h.Q a=Z o/\Be P w H h a u
 |.tbl q=>h.Q a=Z {cls:=.σ,data:=.ϊ q}
 |.met f x=>h.Q a=Z (PySem.W.methodObj (.C f) (.C x))
 |.ext j=>j h/\(∃o,h.Q a=Z o)/\∀h1 h2:Ak,j h1->(∀o,h1.Q a=Z o->h2.Q a=Z o)->j h2
def CH(H:Hp)(h:Ak):V':=∀a o,H a=Z o->Be P w H h a o
end
variable {P:AR}{w:Ai}{h h':Ak}{o:HO}
def
Be.lt(x:Be P w H h a o):a<h.E.y:=by
 cases o with
 |lst b=>let(_,_,_,_,e):=x;show BK e
 |tup b=>let(_,_,_,p):=x;show p.lt
 |dct d g=>let(_,_,_,o,_,_,e,_):=x;show BK e
 |ins C i c=>let(_,_,_,e,_):=x;show BK e
 |own y=>let(_,e):=x;show BK e
 |xd c=>let(_,(_,_,_,e,_),_):=x;show BK e
 |rng lo j=>let(_,_,_,e):=x;show BK e
 |frz k u=>let(e,_):=x;show BK e
 |tbl l=>show BK (show h.Q a=Z _ from x)
 |met f y=>show BK (show h.Q a=Z _ from x)
 |ext m=>let(_,(_,e),_):=x;show BK e
def
Paired.mapP{c d:Type}{F G:c->d->V'}{l₁:U c}{l₂:U d}(h:Paired F l₁ l₂)(f:∀a b,F a b->G a b):Paired G l₁ l₂:=by
 induction h with
 |nil=>show .Ϝ
 |cons r _ e=>show .Η (f _ _ r) e
def
Be.stay(x:Be P w H h a o)(k:∀b u,(b=a\/H b=Z (.χ a))->h.Q b=Z u->h'.Q b=Z u)
  (B:∀b,H b=Z (.χ a)->H' b=Z (.χ a)) (ht:∀b xs,H b=Z (.O xs)->H' b=Z (.O xs)):Be P w H' h' a o:=by
 induction o with
 |lst xs=>let(z,g,n,r,e):=x;show#[z,g,n,r,k _ _ (.S rfl) e]
 |tup xs=>let(z,g,r,i,e,c):=x;show#[z,g,r,i,k _ _ (.S rfl) e,c]
 |dct F L=>let(z,y,n,i,j,l,e,c):=x;show#[z,y,n,i,j,l,k _ _ (.S rfl) e,c]
 |ins C M E=>
  let(d,z,ne,e,m,(s,j,l,G,c),r):=x
  show#[B _ d,z,ne,k _ _ (.S rfl) e,m,#[s,j,l,k _ _ (.τ d) G,c],r]
 |own y=>let(i,e):=x;show#[i,k _ _ (.S rfl) e]
 |xd E=>let(m,(s,j,l,e,c),r):=x;show#[m,#[s,j,l,k _ _ (.S rfl) e,c],r]
 |rng lo N=>let(t,u,v,e):=x;show#[t,u,v,k _ _ (.S rfl) e]
 |frz i u Q=>let(e,q):=x;show#[k _ _ (.S rfl) e,Q q]
 |tbl A=>
  let e:h.Q a=Z {cls:=.σ,data:=.ϊ A}:=x
  change h'.Q a=Z {cls:=.σ,data:=.ϊ A}
  grind
 |met f y=>
  let e:h.Q a=Z (PySem.W.methodObj (.C f) (.C y)):=x
  change h'.Q a=Z (PySem.W.methodObj (.C f) (.C y))
  simp_all
 |ext K=>let(p,(o,e),st):=x;show#[st _ _ p λo q=>k _ _ (.S rfl) q,#[o,k _ _ (.S rfl) e],st]
def
CH.lt(x:CH P w H h)(e:H a=Z o):a<h.E.y:=(x a o e).lt
def
CH.fresh(x:CH P w H h)(e:h.E.y<=a):H a=J:=by
 cases q:H a with
 |none=>rfl
 |some u=>show absurd (BQ (x.lt q) e) (Hf _)
def
CH.kept(x:CH P w H h)(k:∀b u,h.Q b=Z u->h'.Q b=Z u):CH P w H h':=λa o e=>
 (x a o e).stay (λb u _ q=>k b u q) (λ_ q=>q) λ_ _ q=>q
def
CH.laid(x:CH P w H h)(k:∀b u,h.Q b=Z u->h'.Q b=Z u)(d:h.E.y<=a)(new:Be P w (AX H a o) h' a o):CH P w (AX H a o) h':=λb u e=>by
 by_cases hb:b=a
 .subst hb;rw[Z5]at e;ext e;show new
 .rw[Zt hb]at e
  show(x b u e).stay (λc v _ q=>k c v q) (λc q=>Zt (Z3 q (x.Κ d)) ▸ q) λc f q=>Zt (Z3 q (x.Κ d)) ▸ q
end
def Rd(H:Hp)(a:Ac)(u:HO):V':=H a=Z u\/∃o,H a=Z (.frz o u)
def
Rd.ok{P:AR}{w:Ai}{h:Ak}{u:HO}(r:Rd H a u)(x:CH P w H h):Be P w H h a u:=by
 rcases r with r|⟨o,r⟩
 .show x a u r
 .let(_,q):=x a _ r
  show q
def MB:O HO->V'
 |some (.lst _)=>True
 |some (.dct _ _)=>True
 |some (.ins _ _ _)=>True
 |some (.ext _)=>True
 |_=>False
variable {P:AR}{w:Ai}{h h':Ak}{x e:Ac}{o':HO}
def
CH.write(ok:CH P w H h)(d:MB (H x))(i:e=x\/H e=Z (.χ x))(k:∀b u,b≠e->h.Q b=Z u->h'.Q b=Z u)(g:∃u,h'.Q e=Z u)
  (new:Be P w (AX H x o') h' x o'):CH P w (AX H x o') h':=λb u q=>by
 by_cases hb:b=x
 .subst hb;rw[Z5]at q;ext q;show new
 .rw[Zt hb]at q
  by_cases a:b=e
  .let j:H b=Z (.χ x):=by
    rcases i with z|z
    .show absurd (a.J z) hb
    .rw[a];show z
   rw[q]at j;ext j
   let(v,m):=g
   show#[v,a ▸ m]
  .refine(ok b u q).stay (λc v f r=>k c v ?_ r) (λc r=>by rw[Zt ((λc y r z=>by subst z;rw[r]at d;show d) c b r)];show r) λc l r=>by rw[Zt ((λc l r z=>by subst z;rw[r]at d;show d) c l r)];show r
   rcases f with rfl|f
   .show a
   .rintro rfl
    rcases i with z|z
    .show(λc y r z=>by subst z;rw[r]at d;show d) c b f z
    .rw[f]at z;ext z;show hb rfl
end
structure Un(fs ex:List Ac)(H H':Hp)(h h':Ak):V' where
 keep:∀b o,h.Q b=Z o->H b=J->b∉fs->b∉ex->h'.Q b=Z o
 slot:∀b o,h.Q b=Z o->H b=J->b∈fs->b∉ex->∃sl,h'.Q b=Z {o with slots:=sl}
 free:∀b o,h.Q b=Z o->H b=J->b∉ex->H' b=J
 there:∀b o,h.Q b=Z o->b∉ex->∃o',h'.Q b=Z o'
 tups:∀b xs,H b=Z (.O xs)->H' b=Z (.O xs)
 frzs:∀b o u,H b=Z (.frz o u)->H' b=Z (.frz o u)
 tbls:∀b ps,H b=Z (.tbl ps)->∃more,H' b=Z (.tbl (ps++more))
variable {fs ex:U Ac}{H1:Hp}{h h1 h':Ak}{x e:Ac}{o:HO}
def
Un.any(u:Un fs ex H H1 h h1){b:Ac}{a:Obj}(q:h.Q b=Z a)(n:H b=J)(c:b∉ex):∃d,h1.Q b=Z {a with slots:=d}:=by
 by_cases hb:b∈fs
 .show u.ϣ b a q n hb c
 .show#[a.slots,u.keep b a q n hb c]
def
Un.kept(k:∀b u,h.Q b=Z u->h'.Q b=Z u):Un fs ex H H h h':=
 #[λb a q _ _ _=>k b a q,λb a q _ _ _=>#[a.slots,k b a q],λ_ _ _ n _=>n,λb a q _=>#[a,k b a q],λ_ _ q=>q,λ_ _ _ q=>q,λ_ c q=>#[(T' []),by rw[q];simp]]
def
Un.refl:Un fs ex H H h h:=Un.ϟ λ_ _ q=>q
def
Un.laid(k:∀b u,h.Q b=Z u->h'.Q b=Z u)(d:h.E.y<=a)(c:H a=J):Un fs ex H (AX H a o) h h' where
 keep:=λb u q _ _ _=>k b u q
 slot:=λb u q _ _ _=>#[u.slots,k b u q]
 free:=λb u q n _=>Zt (B6 (BQ (BK q) d)) ▸ n
 there:=λb u q _=>#[u,k b u q]
 tups:=λb e q=>Zt (Z3 q c) ▸ q
 frzs:=λb u e q=>Zt (Z3 q c) ▸ q
 tbls:=λb f q=>#[(T' []),by rw[Zt (Z3 q c),q];simp]
def
Un.write(a:MB (H x))(j:e=x\/H e=Z (.χ x))(k:∀b u,b≠e->h.Q b=Z u->h'.Q b=Z u)(d:∃u,h'.Q e=Z u):Un fs ex H (AX H x o) h h':=by
 let f:∀b,H b=J->b≠x:=λb n z=>by subst z;rw[n]at a;show a
 let hb:∀b,H b=J->b≠e:=λb n z=>by
  simp_all
 let c:∀b u,H b=Z u->¬ MB (Z u)->b≠x:=λb u q g z=>by subst z;rw[q]at a;show g a
 apply#[λb u q n _ _=>k b u (hb b n) q,λb u q n _ _=>#[u.slots,k b u (hb b n) q],λb u q n _=>Zt (f b n) ▸ n,λb u q _=>?_,
  λb i q=>Zt (c b _ q λz=>z) ▸ q,λb u i q=>Zt (c b _ q λz=>z) ▸ q,λb l q=>#[(T' []),by rw[Zt (c b _ q λz=>z),q];simp]]
 grind
end
def OD(h:Ak)(H:Hp):U Ac:=(Bf h.E.y).ν λa=>(H a).μ
def Ir(h:Ak)(H:Hp):Ak:=PySem.W.hideAll h (OD h H)
def
nz(h:Ak)(H:Hp):(Ir h H).E.y=h.E.y:=PySem.W.hideAll_size _ _
def
nA{h:Ak}{b:Ac}{o:Obj}(e:h.Q b=Z o)(n:H b=J):(Ir h H).Q b=Z o:=
 PySem.W.hideAll_get _ e λa=>by
  let q:(H b).μ=J':=(Iu.mp a).2
  simp_all
def
nB{h:Ak}{b:Ac}{o:Obj}(e:(Ir h H).Q b=Z o):h.Q b=Z o/\H b=J:=by
 apply#[(PySem.W.of_hideAll (OD h H) e),?_]
 cases q:H b with
 |none=>rfl
 |some x=>
  let z:(Ir h H).Q b=J:=PySem.W.hideAll_none (OD h H) (Iu.ϡ #[C9.ϡ (BK (PySem.W.of_hideAll (OD h H) e)),by simp[q]])
  simp_all
def nC(g h:Ak)(L:Ac):A1:=(Bf h.E.y).gV λa=>if a=L\/(g.Q a).μ=J' then J else(h.Q a).j λo=>(a,o)
def AF(g h:Ak)(L d:Ac):A1:=(nC g h L).ν λp=>decide (p.1≠d)
structure Mod(K:Am)(mg:BE)(base:Ak):V' where
 kin:K.In base
 glob:base.Ns CJ mg
 blt:∃mb,base.Ns builtinsNs mb/\∀x:Ae,x≠"__name__"->mb x=Eh x
 nolimit:base.NoLimit
set_option genInjectivity false in
structure Cx where
 prog:AR
 w:Ai
 K:Am
 mg:BE
 base:Ak
 A:Af
 N:List Ae
 s₀:Ab
 H₀:Hp
 env:Env
 outer:List Env
 stack:List Env
 ex:List Ac
 fn:Ae->jp
 calm:jp
 pn:A1
 xe:AQ
variable{X Y':Cx}
def EG(l:U Env):U Ac:=l.gV (·.frame)
abbrev Cx.fs(X:Cx):U Ac:=EG X.outer
def OE(a:Scope)(x:Ae):V':=a.υ.X x=Z .ϓ\/a.υ.X x=Z .Ξ\/a.υ.X x=Z .Φ
def Loc(a:Scope)(x:Ae):V':=a.υ.X x=Z .ϓ\/a.υ.X x=Z .Ξ
def nE(env:Env)(h:Ak)(m:BE)(x:Ae)(u:Aa):V':=
 (env.ϵ x=Z .ϓ/\m x=Z u)\/((env.ϵ x=Z .Ξ\/env.ϵ x=Z .Φ)/\∃c,env.Ϟ.X x=Z c/\h.IsCell c (Z u))
structure Cx.Ok(X:Cx):V' where
 mod:Mod X.K X.mg X.φ
 kind:X.G.Γ.ϱ=.Ϧ
 glob:X.G.globals=CJ
 blt:X.G.builtins=builtinsNs
 above:X.s₀.o.E.y<=X.G.ϒ
 inj:∀x y c,X.G.Ϟ.X x=Z c->X.G.Ϟ.X y=Z c->x=y
 has:∀x,(X.G.ϵ x=Z .Ξ\/X.G.ϵ x=Z .Φ)->∃c,X.G.Ϟ.X x=Z c
 cab:∀x c,X.fn x=J'->X.G.Ϟ.X x=Z c->X.s₀.o.E.y<=c
 hd:X.Ϭ=J'->X.A.ϛ=J
 frames:X.A.frames=Z X.Ϛ
 stk:X.Ϛ=X.outer\/(X.Ϛ=X.G::X.outer/\X.G.frame=Z X.G.ϒ)
 exf:∀b∈X.ex,b≠X.G.ϒ/\∀x c,X.G.Ϟ.X x=Z c->c≠b
 bs:∀b o,X.φ.Q b=Z o->X.s₀.o.Q b=Z o/\X.H₀ b=J
 bsz:X.φ.E.y<=X.s₀.o.E.y
 noex:∀b o,X.φ.Q b=Z o->b∉X.ex
 exfs:∀b∈X.ex,b∉X.fs
 funs:X.s₀.o.g7 X.φ X.outer
 frf:∀b∈X.fs,X.H₀ b=J
structure Inv(X:Cx)(pins:A1)(I:List (Option V))(H:Hp)(s:Ab):V' where
 ok:X.Ok
 os:s.os=X.s₀.os
 bare:AllBare s.g9
 base:Un X.fs X.ex X.H₀ H X.s₀.o s.o
 loc:∃m,s.o.Ns X.G.ϒ m/\∀(i:Y) (x:Ae) (v:V),X.N[i]?=Z x->I[i]?=Z (Z v)->OE X.G.Γ x->∃u,RelV v u/\nE X.G s.o m x u
 cell:∀x c,X.G.Ϟ.X x=Z c->∃v,s.o.IsCell c v
 free:H X.G.ϒ=J
 freeC:∀x c,X.G.Ϟ.X x=Z c->H c=J
 pin:∀p∈X.pn++pins,s.o.Q p.1=Z p.2/\H p.1=J/\p.1≠X.G.ϒ/\p.1∉X.fs/\∀v,p.2.data≠.Ξ v
 hok:CH X.γ X.w H s.o
 len:I.a=X.N.a
variable {I:U (O V)}{s:Ab}{h':Ak}
def
Cx.Ok.nofr(ok:X.Ok){b:Ac}{o:Obj}(e:X.φ.Q b=Z o):b∉X.fs:=λhb=>by
 have:=(ok.funs.mem hb).1
 simp_all
def
Inv.bs(a:Inv X pins I H s):∀b o,X.φ.Q b=Z o->s.o.Q b=Z o/\H b=J:=λb o e=>
 #[a.φ.keep b o (a.ok.bs b o e).1 (a.ok.bs b o e).2 (a.ok.nofr e) (a.ok.noex b o e),a.φ.Φ b o (a.ok.bs b o e).1 (a.ok.bs b o e).2 (a.ok.noex b o e)]
def
Inv.bk(a:Inv X pins I H s):∀b o,X.φ.Q b=Z o->s.o.Q b=Z o:=λb o e=>(a.bs b o e).1
def
Inv.mod(a:Inv X pins I H s):Mod X.K X.mg X.φ:=a.ok.mod
def
Inv.kIn(a:Inv X pins I H s):X.K.In s.o:=a.ok.mod.kin.keeps a.bk
def
Inv.lt(b:Inv X pins I H s):X.G.ϒ<s.o.E.y:=let⟨_,a,_⟩:=b.loc;a.lt
def
Inv.sz(a:Inv X pins I H s):X.s₀.o.E.y<=s.o.E.y:=BX a.ok.above (Nat.Ϸ a.lt)
def
Inv.nofs(c:Inv X pins I H s)(h:s.o.E.y<=a):a∉X.fs:=λhb=>by
 let(_,o,b,_):=c.ok.funs.mem hb
 show absurd (BQ (BK b) (BX c.sz h)) (Hf _)
def
Inv.cne(i:Inv X pins I H s):∀x c,X.G.Ϟ.X x=Z c->c≠X.G.ϒ:=λx c e z=>by
 let(v,o,d,hd):=i.Ξ x c e
 let(m,(f,g,h,a,b,_),_):=i.loc
 simp_all
def
Inv.funs(m:Inv X pins I H s):s.o.g7 X.φ X.outer:=by
 let all:∀(l:U Env),(∀b∈EG l,b∈X.fs)->X.s₀.o.g7 X.φ l->s.o.g7 X.φ l:=by
  intro l
  induction l with
  |nil=>intro _ _;trivial
  |cons env r f=>
   intro d zQ;let(g,(L,o,a,h,i,hd),j):=zQ
   let c:L∈X.fs:=d L (by unfold EG;rw[OG,a];show A6)
   let(k,e):=m.φ.ϣ L o i (m.ok.frf L c) c λz=>m.ok.exfs L z c
   show#[g,#[L,_,a,h,e,hd],f (λb hb=>d b (by unfold EG;rw[OG,a];show A5 _ hb)) j]
 show all X.outer (λ_ hb=>hb) m.ok.funs
def
Inv.stack(c:Inv X pins I H s):s.o.g7 X.φ X.Ϛ:=by
 rcases c.ok.stk with e|⟨e,a⟩
 .rw[e];show c.funs
 .rw[e]
  let(m,b,_):=c.loc
  show .Η (by rw[c.ok.ϱ];decide) a b (Heap.get?_none_of_le (BX c.ok.bsz c.ok.above)) c.funs
def
Inv.stkSub(c:Inv X pins I H s):∀b∈EG X.Ϛ,b∈X.G.ϒ::X.fs:=λb hb=>by
 rcases c.ok.stk with e|⟨e,a⟩
 .rw[e]at hb;show A5 _ hb
 .rw[e]at hb
  unfold EG at hb
  rw[OG,a]at hb
  show hb
def
Inv.stkFree(c:Inv X pins I H s):∀b∈EG X.Ϛ,H b=J:=λb hb=>by
 rcases Bl.mp (c.stkSub b hb)with e|hb
 .rw[e];show c.Φ
 .let(_,o,a,_):=c.ok.funs.mem hb
  show c.φ.Φ b o a (c.ok.frf b hb) λz=>c.ok.exfs b z hb
def
Inv.step(P:Inv X pins I H s)
  (f:∀b∈ch,(b∈X.ex\/X.s₀.o.E.y<=b)/\b≠X.G.ϒ/\(∀x c,X.G.Ϟ.X x=Z c->c≠b)/\∀p∈X.pn++pins,p.1≠b)
  (keep:∀b o,b≠X.G.ϒ->b∉X.fs->b∉ch->s.o.Q b=Z o->H b=J->h'.Q b=Z o)
  (slot:∀b o,b≠X.G.ϒ->b∈X.fs->b∉ch->s.o.Q b=Z o->H b=J->∃E,h'.Q b=Z {o with slots:=E}) (free:∀b o,b∉ch->s.o.Q b=Z o->H b=J->H' b=J)
  (there:∀b o,b∉ch->s.o.Q b=Z o->∃A,h'.Q b=Z A)
  (tups:∀b xs,H b=Z (.O xs)->H' b=Z (.O xs)) (frzs:∀b o u,H b=Z (.frz o u)->H' b=Z (.frz o u)) (tbls:∀b ps,H b=Z (.tbl ps)->∃B,H' b=Z (.tbl (ps++B)))
  (ns:∀m,s.o.Ns X.G.ϒ m->h'.Ns X.G.ϒ m) (hok:CH X.γ X.w H' h') (M:AllBare g'):
  Inv X pins I H' {s with heap:=h',gens:=g',drawn:=d',toks:=t' }:=by
 let j:∀b o,X.s₀.o.Q b=Z o->b∉X.ex->b∉ch:=λb o e a hb=>by
  rcases(f b hb).1 with z|z
  .show a z
  .show absurd (BQ (BK e) z) (Hf _)
 let g:∀x c,X.G.Ϟ.X x=Z c->∀v,s.o.IsCell c v->h'.IsCell c v:=λx c e v ⟨o,y,hd⟩=>by
  let h:c∉ch:=λz=>(f c z).2.2.1 x c e rfl
  by_cases F:c∈X.fs
  .let(E,q):=slot c o (P.cne x c e) F h y (P.freeC x c e)
   show#[_,q,hd]
  .show#[o,keep c o (P.cne x c e) F h y (P.freeC x c e),hd]
 apply#[P.ok,P.os,M,#[λb o e n hb a=>?_,λb o e n hb a=>?_,λb o e n a=>?_,λb o e a=>?_,λb xs e=>tups b xs (P.φ.tups b xs e),λb o xs e=>frzs b o xs (P.φ.frzs b o xs e),λb ps e=>?_],?_,λx c e=>?_,?_,λx c e=>?_,λp L=>?_,hok,P.Ϫ]
 .show keep b o ((λb o e=>B6 (BQ (BK e) P.ok.above)) b o e) hb (j b o e a) (P.φ.keep b o e n hb a) (P.φ.Φ b o e n a)
 .let(E,t):=P.φ.ϣ b o e n hb a
  let(G,C):=slot b _ ((λb o e=>B6 (BQ (BK e) P.ok.above)) b o e) hb (j b o e a) t (P.φ.Φ b o e n a)
  show#[G,C]
 .let(A,t):=P.φ.there b o e a
  show free b A (j b o e a) t (P.φ.Φ b o e n a)
 .let(A,t):=P.φ.there b o e a
  show there b A (j b o e a) t
 .let(m1,t):=P.φ.tbls b ps e
  let(m2,C):=tbls b _ t
  show#[m1++m2,by rw[C,Array.append_assoc]]
 .let(m,N,K):=P.loc
  apply#[m,ns m N,λi x v t C Q=>?_]
  let(u,r,l):=K i x v t C Q
  apply#[u,r,?_]
  rcases l with l|⟨k,c,e,z⟩
  .show .S l
  .show .τ #[k,c,e,g x c e _ z]
 .let(v,z):=P.Ξ x c e
  show#[v,g x c e v z]
 .let(m,(o,_,_,y,_),_):=P.loc
  show free _ o (λz=>(f _ z).2.1 rfl) y P.Φ
 .let(v,o,y,hd):=P.Ξ x c e
  show free c o (λz=>(f c z).2.2.1 x c e rfl) y (P.freeC x c e)
 .let(e,n,ne,nf,d):=P.pin p L
  let h:p.1∉ch:=λz=>(f p.1 z).2.2.2 p L rfl
  show#[keep p.1 p.2 ne nf h e n,free p.1 p.2 h e n,ne,nf,d]
def
Inv.un(p:Inv X pins I H s)(u:Un X.fs [] H H' s.o h')(hok:CH X.γ X.w H' h'):Inv X pins I H' {s with heap:=h',toks:=t' }:=by
 let(m,(o,j,k,f,r),_):=id p.loc
 let(l,g):=u.any f p.Φ (by simp)
 show p.ώ (g':=s.g9) (d':=s.drawn) (ch:=[]) (λ_ z=>nomatch z) (λb o _ hb _ e n=>u.keep b o e n hb (by simp)) (λb o _ hb _ e n=>u.ϣ b o e n hb (by simp)) (λb o _ e n=>u.Φ b o e n (by simp)) (λb o _ e=>u.there b o e (by simp)) u.tups u.frzs u.tbls (λv h=>by
  let(x,c,d,a,i):=h
  rw[f]at a;ext a
  show#[_,c,d,g,i]) hok p.bare
def
Inv.call(C:Inv X pins I H s)(u:Un (EG X.Ϛ) ch H H' s.o h')(hok:CH X.γ X.w H' h')(k:AllBare g')
  (d:∀b∈ch,(b∈X.ex\/X.s₀.o.E.y<=b)/\b≠X.G.ϒ/\(∀x c,X.G.Ϟ.X x=Z c->c≠b)/\∀p∈X.pn++pins,p.1≠b):
  Inv X pins I H' {s with heap:=h',gens:=g',drawn:=d',toks:=t' }:=by
 let(m,(o,t,v,j,r),_):=id C.loc
 let(y,g):=u.any j C.Φ λz=>(d _ z).2.1 rfl
 show C.ώ (ch:=ch) d (λb o g hb a e n=>u.keep b o e n (λz=>(Bl.mp (C.stkSub b z)).Ζ g hb) a) (λb o _ _ a e n=>u.any e n a) (λb o a e n=>u.Φ b o e n a) (λb o a e=>u.there b o e a) u.tups u.frzs u.tbls (λA l=>by
  let(B,h,i,f,q):=l
  rw[j]at f;ext f
  show#[_,h,i,g,q]) hok k
def
Inv.turned{it:Ac}(w:Inv X pins I H s)(k:∀b o,b≠it->s.o.Q b=Z o->h'.Q b=Z o)(g:H it=J)(f:it≠X.G.ϒ)
  (h1:it∈X.ex\/X.s₀.o.E.y<=it) (h2:∀x c,X.G.Ϟ.X x=Z c->c≠it) (h:∀p∈X.pn++pins,p.1≠it):Inv X pins I H {s with heap:=h',toks:=t' }:=by
 let d:∀b u,H b=Z u->b≠it:=λb u e z=>by rw[z,g]at e;ext e
 apply w.ώ (g':=s.g9) (d':=s.drawn) (ch:=[it]) (λb hb=>?_) (λb o _ _ a e _=>k b o (λz=>a (by simp[z])) e) (λb o _ _ a e _=>#[o.slots,k b o (λz=>a (by simp[z])) e]) (λ_ _ _ _ n=>n)
  (λb o a e=>#[o,k b o (λz=>a (by simp[z])) e]) (λ_ _ e=>e) (λ_ _ _ e=>e) (λb B e=>#[(T' []),by rw[e];simp]) (λm i=>?_) (λb u e=>?_) w.bare
 .let e:b=it:=by exists hb
  subst e
  show#[h1,f,h2,h]
 .let(o,j,l,t,r):=i
  show#[o,j,l,k _ o (BF f) t,r]
 .refine(w.Ϣ b u e).stay (λc v a q=>k c v ?_ q) (λ_ q=>q) λ_ _ q=>q
  rcases a with z|z
  .rw[z];show d b u e
  .show d c _ z
def
Inv.tok(a:Inv X pins I H s)(t:Y):Inv X pins I H {s with toks:=t}:=a.un (h':=s.o) (t':=t) Un.ξ a.Ϣ
def
Inv.kept(a:Inv X pins I H s)(k:∀b u,s.o.Q b=Z u->h'.Q b=Z u):Inv X pins I H {s with heap:=h',toks:=t' }:=a.un (Un.ϟ k) (a.Ϣ.ϟ k)
def
Inv.laid{o:HO}(d:Inv X pins I H s)(k:∀b u,s.o.Q b=Z u->h'.Q b=Z u)(c:s.o.E.y<=a)(new:Be X.γ X.w (AX H a o) h' a o):
  Inv X pins I (AX H a o) {s with heap:=h',toks:=t' }:=d.un (Un.laid k c (d.Ϣ.Κ c)) (d.Ϣ.laid k c new)
def
Inv.write{x e:Ac}{o:HO}(f:Inv X pins I H s)(c:MB (H x))(d:e=x\/H e=Z (.χ x))(k:∀b u,b≠e->s.o.Q b=Z u->h'.Q b=Z u)(a:∃u,h'.Q e=Z u)
  (new:Be X.γ X.w (AX H x o) h' x o):Inv X pins I (AX H x o) {s with heap:=h',toks:=t' }:=f.un (Un.write c d k a) (f.Ϣ.write c d k a new)
def
Inv.weak{a:U (O V)}(h:Inv X pins I H s)(c:a.a=I.a)(w:∀(i:Y) v,a[i]?=Z (Z v)->I[i]?=Z (Z v)):Inv X pins a H s:=
 #[h.ok,h.os,h.bare,h.φ,let⟨m,d,b⟩:=h.loc;#[m,d,λi x v e f g=>b i x v e (w i v f) g],h.Ξ,h.Φ,h.freeC,h.pin,h.Ϣ,c.J h.Ϫ]
def
Inv.pins_of{a:A1}(c:Inv X pins I H s)(h:∀p∈a,s.o.Q p.1=Z p.2/\H p.1=J/\p.1≠X.G.ϒ/\p.1∉X.fs/\∀v,p.2.data≠.Ξ v):Inv X a I H s:=
 #[c.ok,c.os,c.bare,c.φ,c.loc,c.Ξ,c.Φ,c.freeC,λp b=>(EH.mp b).Ζ (λz=>c.pin p (Jg _ z)) (h p),c.Ϣ,c.Ϫ]
def
XE{N:U Ae}(c:N.ι){i j:Y}{x:Ae}(a:N[i]?=Z x)(b:N[j]?=Z x):i=j:=by
 let(h1,d):=BR.mp a
 let(h2,e):=BR.mp b
 show(List.getElem_inj c).mp (d.J e.Ρ)
def
XF{M:Model}{A:Af}{i:Y}{x:Ae}{v:V}(R:Inv X pins I H s)(hN:X.N.ι)(Y':X.N[i]?=Z x)(B:Loc X.G.Γ x)(r:RelV v u)
  (h:∀s',Inv X pins (I.Ε i (Z v)) H s'->(∃a,D1 a s.o s'.o/\(a=X.G.ϒ\/X.G.Ϟ.X x=Z a))->Q () s') (hf:↥(X.fn x=J'\/X.G.Γ.υ.X x=Z .ϓ:4)):wpAny M A (storeName X.G x u) Q E s:=by
 let(m,hn,hl):=id R.loc
 let hcls:(X.G.Γ.ϱ==.class||(X.G.Γ.ϱ==.module&&X.G.ϒ != X.G.globals))=O':=by rw[R.ok.ϱ];rfl
 let F:i<I.a:=by rw[R.Ϫ];show(BR.mp Y').1
 let K:=R.cne
 let g:∀{a:Ac} {h':Ak},(∃o,s.o.Q a=Z o/\H a=J)->D1 a s.o h'->CH X.γ X.w H h':=λ{a h'} ha f b ob e=>by
  let(_,_,C):=ha
  refine(R.Ϣ b ob e).stay (λc w' t q=>(f.2 c ?_).J q) (λ_ q=>q) λ_ _ q=>q
  rintro rfl
  rcases t with rfl|t
  .rw[C]at e;ext e
  .rw[C]at t;ext t
 rcases B with L|L
 .apply wpAny_storeName_local L hn (λh' hn' f=>?_) hcls
  let(oL,_,_,hoL,_):=id hn
  apply h _ #[R.ok,R.os,R.bare,#[λb o e n hb B=>?_,λb o e n hb B=>?_,R.φ.Φ,λb o e B=>?_,R.φ.tups,R.φ.frzs,R.φ.tbls],#[_,hn',λj y v' l G e3=>?_],λy c e=>?_,R.Φ,R.freeC,λp hp=>?_,g #[oL,hoL,R.Φ] f,by exists R.Ϫ] #[_,f,.S rfl]
  .show(f.2 b (B6 (BQ (BK e) R.ok.above))).J (R.φ.keep b o e n hb B)
  .let(sl,l):=R.φ.ϣ b o e n hb B
   show#[sl,(f.2 b (B6 (BQ (BK e) R.ok.above))).J l]
  .let(o',l):=R.φ.there b o e B
   show#[o',(f.2 b (B6 (BQ (BK e) R.ok.above))).J l]
  .by_cases T:j=i
   .subst T
    rw[Y']at l;ext l
    rw[Iv F]at G
    ext G
    show#[u,r,.S #[L,by simp]]
   .rw[Ei (BF T)]at G
    let(u',r',q):=hl j y v' l G e3
    apply#[u',r',?_]
    rcases q with⟨k,e⟩|⟨k,c,e,z⟩
    .apply .S #[k,?_]
     have:y≠x:=λe=>T (XE hN l (e ▸ Y'))
     simp[this,e]
    .show .τ #[k,c,e,z.sameBut f (K y c e)]
  .let(w',z):=R.Ξ y c e
   show#[w',z.sameBut f (K y c e)]
  .let(e,n,ne,nf,d):=R.pin p hp
   show#[(f.2 p.1 ne).J e,n,ne,nf,d]
 .let P:X.fn x=J':=by
   rcases hf with z|z
   .show z
   .rw[z]at L;ext L
  let(c,t):=R.ok.has x (.S L)
  let(w',z):=R.Ξ x c t
  apply wpAny_storeName_cell R.ok.ϱ L t z (λh' hc' f=>?_)
  let(oc,hoc,hocd):=id z
  apply h {s with heap:=h' } #[R.ok,R.os,R.bare,#[λb o e n hb B=>?_,λb o e n hb B=>?_,R.φ.Φ,λb o e B=>?_,R.φ.tups,R.φ.frzs,R.φ.tbls],#[m,hn.sameBut f (BF (K x c t)),λj y v' l G e3=>?_],λy c' e=>?_,R.Φ,R.freeC,λp hp=>?_,g #[oc,hoc,R.freeC x c t] f,by exists R.Ϫ] #[c,f,.τ t]
  .show(f.2 b (B6 (BQ (BK e) (R.ok.cab x c P t)))).J (R.φ.keep b o e n hb B)
  .let(sl,l):=R.φ.ϣ b o e n hb B
   show#[sl,(f.2 b (B6 (BQ (BK e) (R.ok.cab x c P t)))).J l]
  .let(o',l):=R.φ.there b o e B
   show#[o',(f.2 b (B6 (BQ (BK e) (R.ok.cab x c P t)))).J l]
  .by_cases T:j=i
   .subst T
    rw[Y']at l;ext l
    rw[Iv F]at G
    ext G
    show#[u,r,.τ #[.S L,c,t,hc']]
   .rw[Ei (BF T)]at G
    let(u',r',q):=hl j y v' l G e3
    apply#[u',r',?_]
    rcases q with q|⟨k,c',e,z'⟩
    .show .S q
    .apply .τ #[k,c',e,z'.sameBut f ?_]
     rintro rfl
     show T (XE hN l (R.ok.inj _ _ _ e t ▸ Y'))
  .by_cases hcc:c'=c
   .subst hcc;show#[_,hc']
   .let(w2,z2):=R.Ξ y c' e
    show#[w2,z2.sameBut f hcc]
  .let(e,n,ne,nf,d):=R.pin p hp
   apply#[(f.2 p.1 ?_).J e,n,ne,nf,d]
   intro q
   rw[q,hoc]at e
   let q':oc=p.2:=Fc e
   show d w' (by rw[<- q'];show hocd)
def
XG{M:Model}{A:Af}{i:Y}{x:Ae}{v:V}(g:Inv X pins I H s)(b:X.N.ι)(c:X.N[i]?=Z x)(d:Loc X.G.Γ x)(r:RelV v u)
  (h:∀a,Inv X pins (I.Ε i (Z v)) H a->Q () a) (e:↥(X.fn x=J'\/X.G.Γ.υ.X x=Z .ϓ:4)):wpAny M A (storeName X.G x u) Q E s:=
 XF g b c d r (λa f _=>h a f) e
def
Inv.call'{a:Ab}(k:Inv X pins I H s)(h:a.os=s.os)(u:Un (EG X.Ϛ) ch H H' s.o a.o)(hok:CH X.γ X.w H' a.o)(i:AllBare a.g9)
  (d:∀b∈ch,(b∈X.ex\/X.s₀.o.E.y<=b)/\b≠X.G.ϒ/\(∀x c,X.G.Ϟ.X x=Z c->c≠b)/\∀p∈X.pn++pins,p.1≠b):Inv X pins I H' a:=by
 let(h',e,f,g,j):=a
 subst h
 show k.call (g':=e) (t':=g) (d':=f) u hok i d
end
abbrev XK:=Aa->O Ac->Hp->V'
abbrev St:=U (O V)
variable{I:St}
abbrev VK:=V->Hp->V'
abbrev TE:=St->Hp->VK->V'
variable{ta tb te:TE}
abbrev TT:=St->Hp->(jp->Hp->V')->V'
abbrev TA:=St->Hp->(U V->Hp->V')->V'
structure Ends where
 nx:St->Hp->V'
 rt:VK
 bk:St->Hp->V':=λ_ _=>False
 ct:St->Hp->V':=λ_ _=>False
abbrev TS:=Ends->St->Hp->V'
def EP(X:Cx)(a:A1)(I:St)(Q:VK)(u:Aa)(c:Ab):V':=∃v b,Inv X a I b c/\RelV v u/\Q v b
def TP(X:Cx)(a:A1)(I:St)(Q:jp->Hp->V')(b:jp)(d:Ab):V':=∃c,Inv X a I c d/\Q b c
def AP(X:Cx)(a:A1)(I:St)(Q:U V->Hp->V')(us:U Aa)(d:Ab):V':=∃b c,Inv X a I c d/\Aq b us/\Q b c
def SP(X:Cx)(b:A1)(D:Ends)(f:Flow)(d:Ab):V':=
 match f with
 |.next=>∃a c,Inv X b a c d/\D.nx a c
 |.brk=>∃a c,Inv X b a c d/\D.bk a c
 |.cont=>∃a c,Inv X b a c d/\D.ct a c
 |.ret u=>∃v a c,Inv X b a c d/\RelV v u/\D.rt v c
def PE(X:Cx)(e:Expr)(t:TE):V':=
 ∀(a:A1) (s:Ab) (b:St) (H:Hp) (Q:VK),Inv X a b H s->t b H Q->wpAny (Ag X.γ X.w) X.A (An e X.G) (EP X a b Q) X.xe s
def PT(X:Cx)(e:Expr)(t:TT):V':=
 ∀(a:A1) (s:Ab) (b:St) (H:Hp) (Q:jp->Hp->V'),Inv X a b H s->t b H Q->wpAny (Ag X.γ X.w) X.A (isTrue e X.G (An e X.G)) (TP X a b Q) X.xe s
def PW(X:Cx)(e:Expr)(t:TT):V':=
 ∀(b:Sem Aa) (a:A1) (s:Ab) (c:St) (H:Hp) (Q:jp->Hp->V'),Inv X a c H s->t c H Q->wpAny (Ag X.γ X.w) X.A (isTrue e X.G b) (TP X a c Q) X.xe s
def
PW.pt{e:Expr}{t:TT}(h:PW X e t):PT X e t:=h _
def PA(X:Cx)(es:U Expr)(t:TA):V':=
 ∀(pos:Aw) (a:A1) (s:Ab) (b:St) (H:Hp) (Q:U V->Hp->V'),Inv X a b H s->t b H Q->wpAny (Ag X.γ X.w) X.A (spliced (AD pos (AL es X.G))) (AP X a b Q) X.xe s
def PS(X:Cx)(st:AE)(t:TS):V':=
 ∀(a:A1) (s:Ab) (b:St) (H:Hp) (D:Ends),Inv X a b H s->t D b H->wpAny (Ag X.γ X.w) X.A (exec st X.G) (SP X a D) X.xe s
def Fd(X:Cx)(st:U AE)(t:TS):V':=
 ∀(a:A1) (s:Ab) (b:St) (H:Hp) (D:Ends),Inv X a b H s->t D b H->wpAny (Ag X.γ X.w) X.A (execs st X.G) (SP X a D) X.xe s
def
A0{b:Type}{t:Sem b}{Q c:b->Ab->V'}{M:Model}{A:Af}{s:Ab}(h:wpAny M A t Q E s)(d:∀a s,Q a s->c a s):wpAny M A t c E s:=wpAny_mono h d λ_ _ x=>x
section
def XH(i:Y):TE:=λa H Q=>∃v,a[i]?=Z (Z v)/\Q v H
def tC(v:V):TE:=λ_ H Q=>Q v H
def
nG{i:Y}{x:Ae}(j:X.N[i]?=Z x)(k:OE X.G.Γ x)(hd:⇑(DC x))(d:⇑((x==("__classdict__":Ae))=O')):PE X (.ε x pos) (XH i):=by
 intro f s q H Q t h
 let(v,e,h):=h
 let(m,n,o):=t.loc
 let(u,r,l):=o i x v j e k
 rcases l with⟨b,p⟩|⟨b,c,g,a⟩
 .show wpAny_Name (wpAny_loadName_local t.ok.ϱ b n p #[v,H,t,r,h]) hd
 .rcases b with b|b
  .show wpAny_Name (wpAny_loadName_cell t.ok.ϱ b g a #[v,H,t,r,h]) hd
  .show wpAny_Name (wpAny_loadName_free t.ok.ϱ b g a #[v,H,t,r,h] d) hd
def
nH {i j pos}:PE X (.ϙ (.r i) j pos) (tC (.r i)):=λ_ _ _ H _ a h=>wpAny_Constant_int #[.r i,H,a.tok _,#[_,rfl],h]
def
nI {b j pos}:PE X (.ϙ (.ϝ b) j pos) (tC (.bl b)):=λ_ _ _ H _ a h=>Constant_bool #[.bl b,H,a,rfl,h]
def
nJ {j pos}:PE X (.ϙ .σ j pos) (tC .Y):=λ_ _ _ H _ a h=>Constant_none #[.Y,H,a,rfl,h]
def
nK {x j pos}:PE X (.ϙ (.Α x) j pos) (tC (.Α x)):=λ_ _ _ H _ a h=>Calls.Constant_str #[.Α x,H,a.tok _,#[_,rfl],h]
def Gl(X:Cx)(x:Ae):V':=X.G.ϵ x=Z .globalImplicit
def
Ry{a:A1}{s:Ab}{x:Ae}{Q:AQ}(d:Inv X a I H s)(b:Gl X x)(c:X.mg x=Z u)(h:Q u s)
  (hd:⇑(DC x)):wpAny (Ag X.γ X.w) X.A (An (.ε x pos) X.G) Q E s:=
 Calls.Name_function_global d.ok.ϱ b (Calls.loadGlobal_global (d.ok.glob ▸ d.mod.glob.keeps d.bk) c h) hd
def
GD{a:A1}{s:Ab}{x:Ae}{Q:AQ}(g:Inv X a I H s)(b:Gl X x)(c:X.mg x=J)(d:Eh x=Z u)(h:Q u s)
  (e:⇑(x≠"__name__")) (hd:⇑(DC x)):wpAny (Ag X.γ X.w) X.A (An (.ε x pos) X.G) Q E s:=by
 let(f,h1,h2):=g.mod.blt
 show Calls.Name_function_global g.ok.ϱ b (Calls.loadGlobal_builtin (g.ok.glob ▸ g.mod.glob.keeps g.bk) c (g.ok.blt ▸ h1.keeps g.bk) ((h2 x e).J d) h) hd
def
Rz{x:Ae}{v:V}(a:Gl X x)(b:X.mg x=Z u)(r:RelV v u)(hd:⇑(DC x)):PE X (.ε x pos) (tC v):=
 λ_ _ _ H _ c h=>Ry c a b #[v,H,c,r,h] hd
def
nM{x:Ae}{v:V}(a:Gl X x)(b:X.mg x=J)(c:Eh x=Z u)(r:RelV v u)(d:⇑(x≠"__name__"))(hd:⇑(DC x)):PE X (.ε x pos) (tC v):=
 λ_ _ _ H _ e h=>GD e a b c #[v,H,e,r,h] d hd
variable{a b:Expr}
def PC(X:Cx)(op:CmpOp)(a b:Expr)(t:TE):V':=
 ∀(c:A1) (s:Ab) (f:St) (H:Hp) (Q:VK),Inv X c f H s->t f H Q ->
  wpAny (Ag X.γ X.w) X.A (An a X.G) (λv d=>wpAny (Ag X.γ X.w) X.A (An b X.G) (λu e=>wpAny (Ag X.γ X.w) X.A (DD op v u) (EP X c f Q) X.xe e) X.xe d) X.xe s
def
HF(b:Expr){op:CmpOp}(h:op≠.In)(h2:op≠.NotIn):GG op b=O':=by
 cases b with
 |Set _ k _=>
  show(k==0&&(op==.In||op==.NotIn)&&_)=O'
  rw[beq_false_of_ne h,beq_false_of_ne h2]
  simp
 |_=>rfl
def nN(ta:TE):TE:=λa H Q=>ta a H λx b=>Q (.bl (decide (x=.Y))) b
def nO(ta:TE):TE:=λa H Q=>ta a H λx b=>Q (.bl (!decide (x=.Y))) b
def
RelV.none_iff{x:V}{v:Aa}(r:RelV x v):(v==Value.σ)=decide (x=.Y):=by
 cases x with
 |non=>ext r;rfl
 |bl _=>ext r;rfl
 |int _=>let(t,rfl):=r;rfl
 |str _=>let(t,rfl):=r;rfl
 |ref _=>ext r;rfl
 |ty _=>ext r;rfl
def
XJ {j b} (d:PE X a ta):PC X .Is a (.ϙ .σ j b) (nN ta):=by
 intro c s e H Q n h
 apply A0 (d c s e H _ n h) λv m f=>?_
 let(x,g,i,k,l):=f
 show Constant_none (is_none_gen #[.bl _,g,i,by rw[k.none_iff];rfl,l])
def
XM {j b} (d:PE X a ta):PC X .IsNot a (.ϙ .σ j b) (nO ta):=by
 intro c s e H Q n h
 apply A0 (d c s e H _ n h) λv m f=>?_
 let(x,g,i,k,l):=f
 show Constant_none (isnot_none_gen #[.bl _,g,i,by rw[k.none_iff];rfl,l])
def tB(t:TE):TT:=λa H Q=>t a H λx b=>∃c,x=.bl c/\Q c b
def
nP{op:CmpOp}{t:TE}(h:PC X op a b t)(h1:GG op b=O':=by first|show HF _ (by ext) (by ext)|rfl):PE X (.Compare a [op] [b] pos) t:=λc s d H Q f e=>wpAny_Compare1 (h c s d H Q f e) h1
def
RC{op:CmpOp}{t:TE}(h:PC X op a b t)(h1:GG op b=O':=by first|show HF _ (by ext) (by ext)|rfl):PT X (.Ο a [op] [b] pos) (tB t):=by
 intro e s f H Q p g
 apply wpAny_isTrue_Compare1 (A0 (h e s f H _ p g) λv m h1=>A0 h1 λu n h2=>A0 h2 λc o i=>?_) h1
 let(x,j,k,l,d,rfl,q):=i
 ext l
 show Jh #[j,k,q]
variable{tA BU:TT}{AF:U Expr}
def XN(t u:TT):TT:=λa H Q=>t a H λc b=>if c=J' then u a b Q else Q O' b
def XO(t u:TT):TT:=λa H Q=>t a H λc b=>if c=J' then Q J' b else u a b Q
def nQ(t:TT):TT:=λa H Q=>t a H λc b=>Q (!c) b
def
nR(d:PT X a tA):PW X (.ϗ .And [a] pos) tA:=by
 intro wh b s f H Q i h
 apply isTrue_and (A0 (d b s f H Q i h) λc g e=>?_)
 cases c with
 |true=>show isTrue_and_nil e
 |false=>show e
def
nS(d:PT X a tA):PW X (.ϗ .Or [a] pos) tA:=by
 intro wh b s f H Q i h
 apply isTrue_or (A0 (d b s f H Q i h) λc g e=>?_)
 cases c with
 |false=>show isTrue_or_nil e
 |true=>show e
def
nT(j:PT X a tA)(hb:PW X (.ϗ .And (b::AF) pos) BU):PW X (.ϗ .And (a::b::AF) pos) (XN tA BU):=by
 intro wh d s e H Q l h
 apply isTrue_and (A0 (j d s e H _ l h) λc k ⟨f,g,i⟩=>?_)
 cases c with
 |true=>show hb wh d k e f Q g i
 |false=>show#[f,g,i]
def
nU(j:PT X a tA)(hb:PW X (.ϗ .Or (b::AF) pos) BU):PW X (.ϗ .Or (a::b::AF) pos) (XO tA BU):=by
 intro wh d s e H Q l h
 apply isTrue_or (A0 (j d s e H _ l h) λc k ⟨f,g,i⟩=>?_)
 cases c with
 |true=>show#[f,g,i]
 |false=>show hb wh d k e f Q g i
def
nV(d:PT X a tA):PT X (.UnaryOp .Not a pos) (nQ tA):=by
 intro b s e H Q g h
 show isTrue_not (d b s e H (λc f=>Q (!c) f) g h)
def nW(ta tb:TE):TE:=λa H Q=>ta a H λx b=>∃c,x=.bl c/\if c=J' then tb a b Q else Q (.bl O') b
def nX(ta tb:TE):TE:=λa H Q=>ta a H λx b=>∃c,x=.bl c/\if c=J' then Q (.bl J') b else tb a b Q
def nY(ta:TE):TE:=λa H Q=>ta a H λx b=>∃c,x=.bl c/\Q (.bl (!c)) b
def
nZ {op} {t:TE} (h:PE X a t):PE X (.ϗ op [a] pos) t:=λb s c H Q e d=>BoolOp_one (h b s c H Q e d)
def
n0(j:PE X a ta)(hb:PE X (.ϗ .And (b::AF) pos) tb):PE X (.ϗ .And (a::b::AF) pos) (nW ta tb):=by
 intro d s f H Q n h
 apply BoolOp_and (A0 (j d s f H _ n h) λv k l=>?_)
 let(x,g,i,m,e):=l
 let(c,rfl,e):=e
 ext m
 apply Jh ?_
 cases c with
 |true=>show hb d k f g Q i e
 |false=>show#[.bl O',g,i,rfl,e]
def
og(j:PE X a ta)(hb:PE X (.ϗ .Or (b::AF) pos) tb):PE X (.ϗ .Or (a::b::AF) pos) (nX ta tb):=by
 intro d s f H Q n h
 apply BoolOp_or (A0 (j d s f H _ n h) λv k l=>?_)
 let(x,g,i,m,e):=l
 let(c,rfl,e):=e
 ext m
 apply Jh ?_
 cases c with
 |false=>show hb d k f g Q i e
 |true=>show#[.bl J',g,i,rfl,e]
def
oh(e:PE X a ta):PE X (.UnaryOp .Not a pos) (nY ta):=by
 intro b s f H Q m h
 apply UnaryOp_ (A0 (e b s f H _ m h) λv l g=>?_)
 let(x,i,j,k,d):=g
 let(c,rfl,d):=d
 ext k
 show not_of (Jh #[.bl (!c),i,j,rfl,d])
def oi(t:TT)(ta tb:TE):TE:=λa H Q=>t a H λc b=>if c=J' then ta a b Q else tb a b Q
def
oj{c:Expr}(l:PT X c tA)(m:PE X a ta)(hb:PE X b tb):PE X (.IfExp c a b pos) (oi tA ta tb):=by
 intro e s f H Q n h
 apply wpAny_IfExp (A0 (l e s f H _ n h) λd g ⟨i,j,k⟩=>?_)
 cases d with
 |true=>show m e g f i Q j k
 |false=>show hb e g f i Q j k
end
def BV(K:Am)(H:Hp)(a:Ac)(xs:U V):V':=
 Rd H a (.U xs) \/
  ∃(o:Obj) (b:Array Aa) (n:Y),K.X a=Z o/\o.cls=.ζ "list"/\o.dict=J/\o.data=.ϰ b n/\b.y<=Az/\Aq xs b.R
def Cf(K:Am)(H:Hp)(a:Ac)(xs:U V):V':=
 Rd H a (.O xs) \/
  ∃(o:Obj) (b:Array Aa) (n:Y),K.X a=Z o/\o.cls=.ζ "tuple"/\o.data=.ϰ b n/\b.y<=Az/\Aq xs b.R
def ol:Aa->O V
 |.none=>Z .Y
 |.bool b=>Z (.bl b)
 |.int i _=>Z (.r i)
 |.str x _=>Z (.Α x)
 |.ref a=>Z (.C a)
 |.type n=>Z (.ty n)
 |_=>J
def
RelV.abs{x:V}(r:RelV x u):ol u=Z x:=by
 cases x with
 |non=>ext r;rfl
 |bl _=>ext r;rfl
 |int _=>let(t,rfl):=r;rfl
 |str _=>let(t,rfl):=r;rfl
 |ref _=>ext r;rfl
 |ty _=>ext r;rfl
def
RelV.inj{x y:V}(r:RelV x u)(q:RelV y u):x=y:=Fc (r.abs.Ρ.J q.abs)
def
Aq.inj{xs:U V}{us:U Aa}(h:Aq xs us)(g:Aq ys us):xs=ys:=by
 induction h generalizing ys with
 |nil=>ext g;rfl
 |cons r _ a=>
  cases g with
  |cons q t=>rw[r.inj q,a t]
variable {s:Ab}{xs:U V}
def
Cf.of{K:Am}(h:H a=Z (.O xs)):Cf K H a xs:=.S (.S h)
def
Inv.list(i:Inv X pins I H s)(h:BV X.K H a xs):∃b:U Aa,Aq xs b/\PlainL s.o a b.I/\xs.a<=Az:=by
 rcases h with h|⟨o,b,n,c,d,hd,f,g,r⟩
 .let(z,b,n,r,e):=h.ok i.Ϣ
  show#[b,r,#[_,n,e,rfl,rfl,rfl],z]
 .apply#[b.R,r,#[o,n,i.kIn a o c,d,hd,by exists f],?_]
  let e:=r.a
  erw[RD]at e
  lia
def
Inv.tuple(i:Inv X pins I H s)(h:Cf X.K H a xs):∃b:U Aa,Aq xs b/\IsTup s.o a b.I/\xs.a<=Az:=by
 rcases h with h|⟨o,b,n,c,d,f,g,r⟩
 .let(z,b,r,p):=h.ok i.Ϣ
  show#[b,r,p,z]
 .apply#[b.R,r,#[o,i.kIn a o c,d,n,by exists f],?_]
  let e:=r.a
  erw[RD]at e
  lia
def
Inv.list_inj(m:Inv X pins I H s)(h:BV X.K H a xs)(h':BV X.K H a ys):xs=ys:=by
 let(c,r,(o,n,e,_,_,d),_):=m.Ϥ h
 let(b,i,(k,l,f,_,_,g),_):=m.Ϥ h'
 rw[e]at f;ext f
 rw[d]at g
 injection g with j _
 have:c=b:=by exists congrArg Array.R j
 subst this
 show r.inj i
def
Inv.tuple_inj(m:Inv X pins I H s)(h:Cf X.K H a xs)(h':Cf X.K H a ys):xs=ys:=by
 let(c,r,(o,e,_,n,d),_):=m.Ϙ h
 let(b,i,(k,f,_,l,g),_):=m.Ϙ h'
 rw[e]at f;ext f
 rw[d]at g
 injection g with j _
 have:c=b:=by exists congrArg Array.R j
 subst this
 show r.inj i
end
abbrev Cx.wish(X:Cx)(E:AQ):Cx:={X with xe:=E}
abbrev Cx.nox(X:Cx):Cx:=X.wish λ_ _=>False
def
Cx.Ok.wish(ok:X.Ok)(E:AQ):(X.wish E).Ok:=
 #[ok.mod,ok.ϱ,ok.glob,ok.blt,ok.above,ok.inj,ok.has,ok.cab,ok.hd,ok.frames,ok.stk,ok.exf,ok.bs,ok.bsz,ok.noex,ok.exfs,ok.funs,ok.frf]
def
Cx.Ok.unwish(ok:(X.wish E).Ok):X.Ok:=
 #[ok.mod,ok.ϱ,ok.glob,ok.blt,ok.above,ok.inj,ok.has,ok.cab,ok.hd,ok.frames,ok.stk,ok.exf,ok.bs,ok.bsz,ok.noex,ok.exfs,ok.funs,ok.frf]
variable {s:Ab}
def
Inv.wish(a:Inv X pins I H s)(E:AQ):Inv (X.wish E) pins I H s:=#[a.ok.wish E,a.os,a.bare,a.φ,a.loc,a.Ξ,a.Φ,a.freeC,a.pin,a.Ϣ,a.Ϫ]
def
Inv.unwish(a:Inv (X.wish E) pins I H s):Inv X pins I H s:=#[a.ok.unwish,a.os,a.bare,a.φ,a.loc,a.Ξ,a.Φ,a.freeC,a.pin,a.Ϣ,a.Ϫ]
def
SP.unwish{D:Ends}{f:Flow}{c:Ab}(h:SP (X.wish E) pins D f c):SP X pins D f c:=by
 cases f with
 |next=>let(a,b,d,q):=h;show#[a,b,d.unwish,q]
 |brk=>let(a,b,d,q):=h;show#[a,b,d.unwish,q]
 |cont=>let(a,b,d,q):=h;show#[a,b,d.unwish,q]
 |ret u=>let(v,a,b,d,r,q):=h;show#[v,a,b,d.unwish,r,q]
def
Fd.nox{st:U AE}{t:TS}(h:Fd X.nox st t):Fd X st t:=λpins s I H D b a=>
 wpAny_mono (h pins s I H D (b.wish _) a) (λ_ _ q=>q.unwish) λ_ _ z=>B0 z
end
variable {st:AE}{AF:U AE}{t u:TS}{e:Expr}
def om:TS:=λD a H=>D.nx a H
def on(t u:TS):TS:=λD a H=>t {D with nx:=u D} a H
def
FQ:Fd X [] om:=λ_ _ a H _ b h=>wpAny_execs_nil #[a,H,b,h]
def
XP(h1:PS X st t)(h2:Fd X AF u):Fd X (st::AF) (on t u):=by
 intro a s c H D i h
 apply wpAny_execs_cons (A0 (h1 a s c H {D with nx:=u D} i h) λf d q=>?_)
 cases f with
 |next=>
  let(b,e,g,q):=q
  show h2 a d b e D g q
 |ret v=>show q
 |brk=>show q
 |cont=>show q
def
Inv.quiet{a:A1}{s:Ab}(b:Inv X a I H s):interactive X.G=O':=by simp[interactive,b.ok.kind]
def oq(te:TE):TS:=λD a H=>te a H λ_ b=>D.nx a b
def
OH(c:PE X e te)(d:↑(Ej e J pos.ϥ X.G=Ax O')):PS X (.Expr e pos) (oq te):=by
 intro a s b H D l h
 show wpAny_Expr_any (A0 (c a s b H _ l h) λv j ⟨x,f,g,k,i⟩=>#[b,f,g,i]) l.quiet d
def ot(te:TE):TS:=λD a H=>te a H D.rt
def
OI(c:PE X e te):PS X (.Return (Z e) pos) (ot te):=by
 intro a s b H D k h
 show wpAny_Return_some (A0 (c a s b H _ k h) λv j ⟨x,d,f,g,i⟩=>#[x,b,d,f,g,i])
def ou(c:TT)(t u:TS):TS:=λD a H=>c a H λb d=>if b=J' then t D a d else u D a d
def
OJ{c:Expr}{a b:U AE}{g:TT}(m:PT X c g)(n:Fd X a t)(hb:Fd X b u):PS X (.If c a b pos) (ou g t u):=by
 intro e s f H D o h
 apply wpAny_If (A0 (m e s f H _ o h) λd i ⟨j,k,l⟩=>?_)
 cases d with
 |true=>show n e i f j D k l
 |false=>show hb e i f j D k l
def ov:TS:=λ_ _ _=>False
def
Hg:PS X st ov:=λ_ _ _ _ _ _ h=>h.Ζ
end
abbrev TG:=V->St->Hp->(St->Hp->V')->V'
abbrev Iw:=U V->St->Hp->(St->Hp->V')->V'
def PG(X:Cx)(a:Expr)(t:TG):V':=
 ∀(b:A1) (s:Ab) (d:St) (H:Hp) (v:V) (u:Aa) (Q:St->Hp->V'),Inv X b d H s->RelV v u->t v d H Q ->
  wpAny (Ag X.γ X.w) X.A (assign a X.G u) (λ_ f=>∃c e,Inv X b c e f/\Q c e) X.xe s
def MC(X:Cx)(g:U Expr)(t:Iw):V':=
 ∀(a:A1) (s:Ab) (c:St) (H:Hp) (d:U V) (e:U Aa) (Q:St->Hp->V'),Inv X a c H s->Aq d e->t d c H Q ->
  wpAny (Ag X.γ X.w) X.A (assignInOrder ((GH g X.G).j (·.2)) e) (λ_ h=>∃b f,Inv X a b f h/\Q b f) X.xe s
abbrev OL:=V->V->V->Hp->(Hp->V')->V'
def XQ(X:Cx)(t:OL):V':=
 ∀(a:A1) (s:Ab) (b:St) (H:Hp) (o i v:V) (c d u:Aa) (Q:Hp->V'),Inv X a b H s->RelV o c->RelV i d->RelV v u->t o i v H Q ->
  wpAny (Ag X.γ X.w) X.A (setItem c d u) (λ_ f=>∃e,Inv X a b e f/\Q e) X.xe s
section
def J7(i:Y):TG:=λv a H Q=>Q (a.Ε i (Z v)) H
def
ON{i:Y}{x:Ae}(b:X.N.ι)(c:X.N[i]?=Z x)(d:Loc X.G.Γ x)(e:↥(X.fn x=J'\/X.G.Γ.υ.X x=Z .ϓ:4)):PG X (.ε x pos) (J7 i):=by
 intro a s g H v u Q k r h
 show wpAny_assign_Name (XG k b c d r (λj f=>#[_,H,f,h]) e)
def ow:Iw:=λa b H Q=>a=[]/\Q b H
def oz(t:TG)(u:Iw):Iw:=λb c H Q=>∃v r,b=v::r/\t v c H λa d=>u r a d Q
def
XR:MC X [] ow:=by
 intro a s b H c d Q e r h
 let(rfl,h):=h
 ext r
 show assignInOrder_nil #[b,H,e,h]
def
RE{e:Expr}{t:TG}{u:Iw}(h1:PG X e t)(h2:MC X es u)
  (c:↑((GH (e::es) X.G).j (·.2)=assign e X.G::(GH es X.G).j (·.2))):MC X (e::es) (oz t u):=by
 intro a s d H m n Q p r h
 let(v,o,rfl,h):=h
 cases r with
 |cons r f=>
  rw[c]
  apply assignInOrder_cons (A0 (h1 a s d H _ _ _ p r h) λ_ g i=>?_)
  let(b,j,k,l):=i
  show h2 a g b j _ _ Q k f l
def oA(K:Am)(n:Y)(t:Iw):TG:=λv c H Q=>∃a b,v=.C a/\Cf K H a b/\b.a=n/\t b c H Q
def
XT{k:Y}{t:Iw}{n:Y}(i:X.Ϭ=J')(h:MC X es t)
  (j:↑((GH es X.G).a=n)) (d:↑((GH es X.G).findIdx? (·.1)=J)):PG X (.oo es k pos) (oA X.K n t):=by
 intro c s l H v u Q A r f
 let(a,m,rfl,p,q,f):=f
 ext r
 let(w,g,ht,y):=A.Ϙ p
 show assign_Tuple_tuple (A.ok.hd i) ht (by simp[j,<- q,g.length]) d λz x=>h c _ l H m _ Q (A.ϟ (t':=s.ω) λb o e=>x b o (B6 (BK e)) e) (by exists g) f
def oB(to b:TE)(t:OL):TG:=λv a H Q=>to a H λo c=>b a c λi d=>t o i v d λe=>Q a e
def
XU{i:Expr}{to f:TE}{t:OL}(g:PE X o to)(j:PE X i f)(k:XQ X t)
  (F:↥(∀v,assign (.Δ o i pos) X.G v=(do
   let b <- Fe [v] (An o X.G)
   let c <- Fe [v,b] (An i X.G)
   standAt pos
   Fe [v,b,c] (setItem b c v)
   release [v,b,c] []):6)):PG X (.Δ o i pos) (oB to f t):=by
 intro a s d H v u Q K r h
 apply Al (Fv (A0 (g a s d H _ K h) λb l e=>?_))
 let(x,m,n,p,q):=e
 apply Al (Fv (A0 (j a l d m _ n q) λc w e=>?_))
 let(y,z,A,B,C):=e
 show Al (wpAny_standAt (Al (Fv (A0 (k a w d z x y v b c u _ A p B r C) λ_ L ⟨E,G,q3⟩=>wpAny_release #[d,E,G,q3]))))
def K6(b:TE)(g:TG):TS:=λD a H=>b a H λx c=>g x a c D.nx
def
OO{b e:Expr}{c:TE}{g:TG}(f:PE X e c)(i:PG X b g)(j:↑(swapsWithSole [b] e pos.ϥ X.G=Ax O'))(k:↑(swappedStores [b] e X.G=Ax J))
  (h1:↑((GH [b] X.G).j (·.2)=[assign b X.G])):PS X (.Ϡ [b] e pos) (K6 c g):=by
 intro a s d H D u h
 apply wpAny_Assign_stores (A0 (f a s d H _ u h) λv l m=>?_) j k
 let(x,n,o,p,r):=m
 rw[h1]
 show A0 (i a l d n x v _ o p r) λ_ t q=>q
def
MD{i:Y}{x:Ae}{e:Expr}{c:TE}{a:Aw}(d:X.N.ι)(f:X.N[i]?=Z x)(g:Loc X.G.Γ x)(j:PE X e c)(k:↑(Ej e (Z (.ε x a)) pos.ϥ X.G=Ax O'))(l:↥(X.fn x=J'\/X.G.Γ.υ.X x=Z .ϓ:4)):
  PS X (.Ϡ [.ε x a] e pos) (K6 c (J7 i)):=by
 intro b s m H D z h
 apply wpAny_Assign_Name (A0 (j b s m H _ z h) λv u n=>?_) k
 let(y,o,p,q,r):=n
 show XG p d f g q (λw t=>#[_,o,t,r]) l
end
structure It where
 go:Y->Hp->V'
 yld:Y->Hp->V->Hp->V'
 stop:Y->Hp->V'
def Gf(X:Cx)(a:A1)(H:Hp)(b:Ac):V':=
 H b=J/\b≠X.G.ϒ/\b∉X.fs/\(b∈X.ex\/X.s₀.o.E.y<=b)/\(∀x c,X.G.Ϟ.X x=Z c->c≠b)/\∀p∈X.pn++a,p.1≠b
def
Inv.fpOk{a:A1}{s:Ab}{b:Ac}(g:Inv X a I H s)(hb:s.o.E.y<=b)(d:H' b=J):Gf X a H' b:=by
 apply#[d,Hh (BQ g.lt hb),g.nofs hb,.τ (BX g.sz hb),λx c e z=>?_,λp f z=>?_]
 .let(v,q):=g.Ξ x c e
  show absurd (BQ q.lt (z ▸ hb)) (Hf _)
 .show absurd (BQ (BK (g.pin p f).1) (z ▸ hb)) (Hf _)
structure Hi(P:AR)(w:Ai)(K:Am)(tg:Expr)(a:It)(fp:List Ac)(it:Ac)(tn:Y->Ak->V'):V' where
 mem:it∈fp
 obj:∀i h,tn i h->∀b∈fp,∃o,h.Q b=Z o/\∀v,o.data≠.Ξ v
 keep:∀i h h',tn i h->(∀b∈fp,∀o,h.Q b=Z o->h'.Q b=Z o)->tn i h'
 item:∀(X:Cx),X.γ=P->X.w=w->X.K=K->X.Ϭ=J'->∀(i:Y) (pins:A1) (s:Ab) (I:St) (H:Hp) (E:AQ),Inv X pins I H s->(∀b∈fp,Gf X pins H b)->tn i s.o->a.go i H ->
  wpAny (Ag P w) X.A (pyNext (.C it)) (λr s1=>∃u,r=Z u /\
   wpAny (Ag P w) X.A (letOwnedTupleGo tg (.C it) u) (λ_ s2=>∃x H',Inv X pins I H' s2/\RelV x u/\a.yld i H x H'/\tn (i+1) s2.o/\∀b∈fp,H' b=J) E s1) E s
 done:∀(X:Cx),X.γ=P->X.w=w->X.K=K->X.Ϭ=J'->∀(i:Y) (pins:A1) (s:Ab) (I:St) (H:Hp) (E:AQ),Inv X pins I H s->(∀b∈fp,Gf X pins H b)->tn i s.o->a.stop i H ->
  wpAny (Ag P w) X.A (pyNext (.C it)) (λr s1=>r=J/\Inv X pins I H s1) E s
 self:∀(A:Af) (i:Y) (s:Ab) (Q:AQ) (E:AQ),tn i s.o->Q (.C it) s->wpAny (Ag P w) A (pyIter (.C it)) Q E s
abbrev TI:=St->Hp->(It->Hp->V')->V'
variable{wi:TI}
def XV(X:Cx)(a:A1)(I:St)(i:Expr)(R:It->Hp->V')(c:Aa)(e:Ab):V':=
 ∃(f:Ac) (g:U Ac) (h:Y->Ak->V') (j:It) (d:Hp),c=.C f/\Inv X a I d e/\Hi X.γ X.w X.K i j g f h/\h 0 e.o/\(∀b∈g,Gf X a d b)/\R j d
def PI(X:Cx)(c iter:Expr)(wi:TI):V':=
 ∀(a:A1) (s:Ab) (b:St) (H:Hp) (R:It->Hp->V'),Inv X a b H s->wi b H R ->
  wpAny (Ag X.γ X.w) X.A (An iter X.G) (λv d=>wpAny (Ag X.γ X.w) X.A (pyIter v) (XV X a b c R) X.xe d) X.xe s
def
RF{M:Model}{A:Af}{s:Ab}{b:Expr}{it:Ac}{o:Obj}{n:String}{vs:Array Aa}(c:s.o.Q it=Z o)(d:o.cls=.ζ n)(hd:o.data=.ϊ vs)
  (e:["enumerate","zip","dict_itemiterator","dict_reverseitemiterator","odict_iterator","itertools.zip_longest","itertools.pairwise"].Ϗ n=O') (a:Q () s):wpAny M A (letOwnedTupleGo b (.C it) u) Q E s:=by
 ext b<;>first
  |show AO a
  |(ext u<;>first
    |show AO a
    |(apply Al (wpAny_load c ?_)
      rw[d,hd]
      change wpAny M A (if(["enumerate","zip","dict_itemiterator","dict_reverseitemiterator","odict_iterator","itertools.zip_longest","itertools.pairwise"].Ϗ n&&vs[0]?==Z (Bw _))=J' then _ else _) Q E s
      rw[if_neg (by intro h;rw[e,Bool.false_and]at h;ext h)]
      show AO a))
def XW(K:Am)(a:Ac):It:=
 #[λi H=>∃b x,BV K H a b/\b[i]?=Z x,λi H x c=>c=H/\∀b,BV K H a b->b[i]?=Z x,λi H=>∃b,BV K H a b/\b.a<=i]
def XX(K:Am)(a:Ac):It:=
 #[λi H=>∃b x,Cf K H a b/\b[i]?=Z x,λi H x c=>c=H/\∀b,Cf K H a b->b[i]?=Z x,λi H=>∃b,Cf K H a b/\b.a<=i]
def MF(lo:W')(n:Y):It:=#[λi _=>i<n,λi H x a=>a=H/\x=.r (lo+i),λi _=>n<=i]
def
RH{P:AR}{w:Ai}{K:Am}{R:Expr}{F:It}{it:Ac}{f:Y->Ak->V'}{n:String}(T:["enumerate","zip","dict_itemiterator","dict_reverseitemiterator","odict_iterator","itertools.zip_longest","itertools.pairwise"].Ϗ n=O')
  (M:∀i h,f i h->∃o m,h.Q it=Z o/\o.cls=.ζ n/\o.data=.ϊ m) (kp:∀i h h',f i h->(∀o,h.Q it=Z o->h'.Q it=Z o)->f i h')
  (N:∀(X:Cx) (i:Y) (a:A1) (s:Ab) (I:St) (H:Hp) (E:AQ) (Q:O Aa->Ab->V'),X.K=K->X.A.ϛ=J->Inv X a I H s->f i s.o ->
   (F.go i H->(∀u x h' g,f (i+1) h'->(∀b o,b≠it->s.o.Q b=Z o->h'.Q b=Z o)->RelV x u->F.yld i H x H->Q (Z u) {s with heap:=h',toks:=g})->wpAny (Ag P w) X.A (pyNext (.C it)) Q E s) /\
   (F.stop i H->(∀h' g,(∀b o,b≠it->s.o.Q b=Z o->h'.Q b=Z o)->Q J {s with heap:=h',toks:=g})->wpAny (Ag P w) X.A (pyNext (.C it)) Q E s))
  (S:∀(A:Af) (i:Y) (s:Ab) (Q:AQ) (E:AQ),f i s.o->Q (.C it) s->wpAny (Ag P w) A (pyIter (.C it)) Q E s):Hi P w K R F [it] it f where
 mem:=by simp
 obj:=λi h st b hb=>by
  let(o,m,e,_,d):=M i h st
  rw[Fw.mp hb]
  show#[o,e,λv z=>by rw[d]at z;cases z]
 keep:=λi h h' st k=>kp i h h' st (k it (by simp))
 item:=by
  intro X Y' hw p q i a s I H E W l st r
  let(t,B,f2,C,G,L):=l it (by simp)
  refine(N X i a s I H E _ p (W.ok.hd q) W st).1 r λu x h' g j k ru y=>?_
  let(o,m,e,c,d):=M _ _ j
  show#[u,rfl,RF (s:={s with heap:=h',toks:=g}) e c d T #[x,H,W.xv k t B C G L,ru,y,j,λb hb=>(l b hb).1]]
 done:=by
  intro X Y' hw p q i a s I H E W l st r
  let(t,B,f2,C,G,L):=l it (by simp)
  show(N X i a s I H E _ p (W.ok.hd q) W st).2 r λh' g k=>#[rfl,W.xv k t B C G L]
 self:=S
def
oC{P:AR}{w:Ai}{K:Am}{Q:Expr}(a it:Ac):Hi P w K Q (XW K a) [it] it (λi h=>h.IsListIter it a i)  where
 mem:=by simp
 obj:=λi h st b hb=>by
  let e:b=it:=by exists hb
  subst e
  let(o,e,c,d):=st
  show#[o,e,λv z=>by rw[d]at z;cases z]
 keep:=λi h j st k=>st.at λo e=>k it (by simp) o e
 item:=by
  intro X n q r N i f s R H E W l st t
  subst n q r
  let(T,x,m,y):=t
  let(A,B,p,S):=W.Ϥ m
  let(u,Y',ru):=B.Ι y
  let(C,G,f2,F,L,M):=l it (by simp)
  apply wpAny_pyNext_list_item st p.Ω (x:=u) (by exists Y') λj g sb=>?_
  let I1:Inv X f R H {s with heap:=j}:=W.xv (t':=s.ω) (λb o hb e=>(sb.2 b hb).J e) C G F L M
  let(o,e,c,d):=id g
  show#[u,rfl,RF (s:={s with heap:=j}) e c d (by ext) #[x,H,I1,ru,#[rfl,λys hy=>by rw[W.list_inj hy m];show y],g,λb hb=>(l b hb).1]]
 done:=by
  intro X n q r N i f s R H E W l st t
  subst n q r
  let(T,m,y):=t
  let(A,B,p,S):=W.Ϥ m
  let(C,G,f2,F,L,M):=l it (by simp)
  let hl:=B.a
  show wpAny_pyNext_list_end (W.ok.hd N) st p.Ω (by simp;lia) λj eb=>#[rfl,W.xv (t':=s.ω) (λb o hb e=>eb b o hb e) C G F L M]
 self:=λ_ _ _ _ _ st h=>wpAny_pyIter_listiter st h
def
oD{P:AR}{w:Ai}{K:Am}{y:Expr}(a it:Ac):Hi P w K y (XX K a) [it] it (λi h=>h.Ϲ it a i):=by
 apply RH (n:="tuple_iterator") (by ext) (λi h st=>?_) (λi h g st k=>st.at k) (λX i t s R H E Q z A W st=>?_) λ_ _ _ _ _ st h=>wpAny_pyIter_tupleiter st h
 .let(o,e,c,d):=st;show#[o,_,e,c,d]
 .subst z
  constructor<;>intro v q
  .let(B,x,j,l):=v
   let(f,m,p,C):=W.Ϙ j
   let(u,G,F):=m.Ι l
   show wpAny_pyNext_tuple_item st (show s.o.IsTuple a f.I from p) (x:=u) (by exists G) λg r L=>q u x g s.ω r (λb o hb e=>(L.2 b hb).J e) F #[rfl,λT M=>W.tuple_inj M j ▸ l]
  .let(B,j,l):=v
   let(f,m,p,C):=W.Ϙ j
   let S:=m.a
   show wpAny_pyNext_tuple_end A st (show s.o.IsTuple a f.I from p) (by simp;lia) λg N=>q g s.ω N
def
oE{P:AR}{w:Ai}{K:Am}{C:Expr}(it:Ac)(lo:W')(n:Y):Hi P w K C (MF lo n) [it] it (λi h=>IsRangeIter h it (lo+(i:Y)*1) ((n:W')-(i:Y)) 1)  where
 mem:=by simp
 obj:=λi h st b hb=>by
  let e:b=it:=by exists hb
  subst e
  show#[_,st,λv z=>by
   let G:Data.ϊ _=Data.Ξ v:=z
   cases G]
 keep:=λi h d st k=>k it (by simp) _ st
 item:=by
  intro X g j l m i a s A H E R f st p
  subst g j l
  let(q,r,F,u,x,y):=f it (by simp)
  let W:=Walks.range (prog:=X.γ) (w:=X.w) (R.ok.hd m) it lo 1 n
  apply W.item i s _ _ p st λv d B L c M=>?_
  let(t,rfl):=L
  let N:Inv X a A H {s with heap:=d,toks:=B}:=R.xv (λb o hb e=>M b o (by exists hb) e) q r u x y
  apply#[_,rfl,RF (s:={s with heap:=d,toks:=B}) (n:="range_iterator") c rfl rfl (by ext) #[.r (lo+i),H,N,#[t,?_],#[rfl,rfl],c,λb hb=>(f b hb).1]]
  rw[Int.mul_one]
 done:=by
  intro X g j l m i a s A H E R f st p
  subst g j l
  let(q,r,F,u,x,y):=f it (by simp)
  show wpAny_pyNext_range_end (R.ok.hd m) st (by have:n<=i:=p;lia) λd Q=>#[rfl,R.xv (t':=s.ω) (λb o hb e=>Q b o hb e) q r u x y]
 self:=λ_ _ _ _ _ st h=>wpAny_pyIter_rangeiter st h
section
def oF(K:Am)(tl:TE):TI:=λc H R=>tl c H λx b=>∃a,x=.C a/\(∃d,BV K b a d)/\R (XW K a) b
def oG(K:Am)(tl:TE):TI:=λc H R=>tl c H λx b=>∃a,x=.C a/\(∃d,Cf K b a d)/\R (XX K a) b
def
RJ{l:Expr}{tl:TE}(g:PE X l tl):PI X tg l (oF X.K tl):=by
 intro c s i H R y h
 apply A0 (g c s i H _ y h) λv d j=>?_
 let(x,k,f,m,a,e,(t,n),q):=j
 subst e
 ext m
 let(r,u,p,w):=f.Ϥ n
 apply OP p.Ω ?_
 apply#[d.o.E.y,[d.o.E.y],_,_,k,rfl,f.ϟ (t':=d.ω) λb o e=>Bg _ e,oC a _,#[_,B7 _ rfl,rfl,rfl],λb hb=>?_,q]
 let e:b=d.o.E.y:=by exists hb
 subst e
 show f.fpOk (A9 _) (f.Ϣ.Κ (A9 _))
def
oH{l:Expr}{tl:TE}(i:PE X l tl):PI X tg l (oG X.K tl):=by
 intro c s j H R y h
 apply A0 (i c s j H _ y h) λv d k=>?_
 let(x,m,f,n,a,e,(t,r),q):=k
 subst e
 ext n
 let(g,u,p,w):=f.Ϙ r
 apply wpAny_pyIter_tuple (show d.o.IsTuple a g.I from p) ?_
 apply#[d.o.E.y,[d.o.E.y],_,_,m,rfl,f.ϟ (t':=d.ω) λb o e=>Bg _ e,oD a _,#[_,B7 _ rfl,rfl,rfl],λb hb=>?_,q]
 let e:b=d.o.E.y:=by exists hb
 subst e
 show f.fpOk (A9 _) (f.Ϣ.Κ (A9 _))
def
XY{a:A1}{s:Ab}{R:It->Hp->V'}{lo c:W'}{t u v:Tok}{d:Y}(i:Inv X a I H s)(h1 : -(2^62)<=lo)(h2:lo<2^62)(g : -(2^62)<=c)(h:c<2^62)
  (q:R (MF lo (c-lo).Β) H):wpAny (Ag X.γ X.w) X.A (pyIter (.C s.o.E.y)) (XV X a I tg R) E {s with heap:=s.o.Μ {cls:=.ζ "range",data:=.ϊ (T' [.r lo t,.r c u,.r 1 v])},toks:=d}:=by
 apply wpAny_pyIter_range (IsRange.new ..) (small_one h1 h2 g h) ?_
 let f:Inv X a I H {s with heap:=s.o.Μ {cls:=.ζ "range",data:=.ϊ (T' [.r lo t,.r c u,.r 1 v])},toks:=d}:=i.ϟ λb o e=>Bg _ e
 apply#[(s.o.Μ {cls:=.ζ "range",data:=.ϊ (T' [.r lo t,.r c u,.r 1 v])}).E.y,[(s.o.Μ {cls:=.ζ "range",data:=.ϊ (T' [.r lo t,.r c u,.r 1 v])}).E.y],_,_,H,rfl,
  f.ϟ (t':=d) λb o e=>Bg _ e,oE _ lo (c-lo).Β,?_,λb hb=>?_,q]
 .rw[show lo+((0:Y):W')*1=lo by simp,show(((c-lo).Β:Y):W')-((0:Y):W')=Builtin.Range.rangeSize lo c 1 by rw[rangeSize_one];split<;>lia]
  show B7 _ rfl
 .let e:b=(s.o.Μ {cls:=.ζ "range",data:=.ϊ (T' [.r lo t,.r c u,.r 1 v])}).E.y:=by exists hb
  subst e
  show f.fpOk (A9 _) (f.Ϣ.Κ (A9 _))
def oI(a:TA):TI:=λb H R=>a b H λc d=>∃j:W',c=[.r j] /\ -(2^62)<=j/\j<2^62/\R (MF 0 j.Β) d
def oJ(a:TA):TI:=λb H R=>a b H λc d=>∃i j:W',c=[.r i,.r j]/\(-(2^62)<=i/\i<2^62 /\ -(2^62)<=j/\j<2^62)/\R (MF i (j-i).Β) d
def
oK{a:Expr}{d:TA}{p:Aw}(e:Gl X "range")(f:X.mg "range"=J)(g:PA X [a] d)(i:↑(AL [a] X.G=[(O',An a X.G)])):PI X tg (.Θ (.ε "range" p) [a] [] pos) (oI d):=by
 intro b s k H R z h
 apply Call_ (GD z e f boot_range (K7 (A0 (g pos b s k H _ z h) λv w l=>?_) i rfl))
 let(x,y,m,n,c):=l
 let(j,rfl,c,o,q):=c
 cases n with
 |cons r u=>
  ext u
  let(t,rfl):=r
  show call_range_1 (XY m (Int.neg_ofNat_le_ofNat (2^62) 0) (W.kbt_pos 62) c o (by exists q))
def
oM{a b:Expr}{g:TA}{p:Aw}(k:Gl X "range")(l:X.mg "range"=J)(m:PA X [a,b] g)(n:↑(AL [a,b] X.G=[(O',An a X.G),(O',An b X.G)]))(c:↑(AL [b] X.G=[(O',An b X.G)])):
  PI X tg (.Θ (.ε "range" p) [a,b] [] pos) (oJ g):=by
 intro d s o H R F h
 apply Call_ (GD F k l boot_range (K7 (A0 (m pos d s o H _ F h) λA B u=>?_) (by rw[n,c]) (by rw[c];rfl)))
 let(C,E,v,w,e):=u
 let(i,j,rfl,(e,x,q3,y),q):=e
 cases w with
 |cons r f=>
  cases f with
  |cons z f=>
   ext f
   let(t,rfl):=r
   let(G,rfl):=z
   show call_range_2 (XY v e x q3 y q)
def XZ(wi:TI)(g:TG)(f:TS):TS:=λD a H=>wi a H λk h=>∃W:Y->Y->St->Hp->V',(∃m,W 0 m a h)/\∀i m a H,W i m a H ->
 (k.stop i H/\D.nx a H)\/(k.go i H/\∃N:St->Hp->V',(∀b c,N b c->∃e,e<m/\W (i+1) e b c)/\∀x c,k.yld i H x c->g x a c λd j=>f {D with nx:=N,ct:=N,bk:=D.nx} d j)
def J8(a:U Ac)(h:Ak):A1:=a.gV λb=>(h.Q b).j λo=>(b,o)
def
OQ{a:U Ac}{h:Ak}{b:Ac}{o:Obj}(hb:b∈a)(e:h.Q b=Z o):(b,o)∈J8 a h:=List.mem_filterMap.ϡ #[b,hb,by rw[e];rfl]
def
X0{a:U Ac}{h:Ak}{p:Ac×Obj}(c:p∈J8 a h):p.1∈a/\h.Q p.1=Z p.2:=by
 let(b,hb,e):=List.mem_filterMap.mp c
 cases q:h.Q b with
 |none=>rw[q]at e;cases e
 |some o=>
  rw[q]at e
  let d:(b,o)=p:=Fc e
  subst d
  show#[hb,q]
def
Inv.pinned{a:A1}{s:Ab}{c:U Ac}(m:Inv X a I H s)(g:∀b∈c,Gf X a H b)(h:∀b∈c,∃o,s.o.Q b=Z o/\∀v,o.data≠.Ξ v):Inv X (a++J8 c s.o) I H s:=
 m.pins_of λp i=>(EH.mp i).Ζ (λz=>m.pin p (Dj _ z)) λz=>by
  let(hb,e):=X0 z
  let(j,k,l,_):=g p.1 hb
  let(o,f,d):=h p.1 hb
  rw[e]at f;ext f
  show#[e,j,k,l,d]
def
Inv.unpinned{a pl:A1}{s:Ab}(c:Inv X (a++pl) I H s):Inv X a I H s:=c.pins_of λp b=>c.pin p (Dj _ (Jg _ b))
def
X1{y:U AE}{g:TG}{tb:TS}(C:PassesOwn (Ag X.γ X.w) X.A X.G X.xe)(hc:X.Ϭ=J')(hi:PI X tg iter wi)(hg:PG X tg g)(hb:Fd X y tb)
  (hs:↥(∀x,FS iter X.G x=Ax x:6)):PS X (.For tg iter y [] pos) (XZ wi g tb):=by
 intro a s I H D R h
 apply wpAny_For (A0 (hi a s I H _ R h) λv s1 h1=>A0 h1 λitv s2 h2=>?_) hs
 let(it,E,tn,F,H2,e,I2,T,K,f2,W,(m0,w0),turn):=h2
 subst e
 let j:∀{t:Hp},(∀b∈E,t b=J)->∀b∈E,Gf X a t b:=λhn b hb=>#[hn b hb,(f2 b hb).2]
 apply codeAny_forLoop_any (λn s'=>∃i k t,Inv X a k t s'/\tn i s'.o/\(∀b∈E,t b=J)/\W i n k t) ?_ m0 #[0,I,H2,I2,K,λb hb=>(f2 b hb).1,w0]
 intro n s3 zQ;let(i,l,M,I3,G,L,w3):=zQ
 rcases turn i n l M w3 with⟨stop,qn⟩|⟨go,N,hN,step⟩
 .apply OR C (A0 (T.done X rfl rfl rfl hc i a s3 l M X.xe I3 (j L) G stop) λr s4 ⟨Q,I4⟩=>?_)
  subst Q
  show wpAny_execs_nil #[l,M,I4,qn]
 .apply OR C (A0 (T.item X rfl rfl rfl hc i a s3 l M X.xe I3 (j L) G go) λr s4 ⟨u,Q,h4⟩=>?_)
  subst Q
  apply OR C (A0 h4 λ_ s5 P=>?_)
  let(x,H5,I5,r5,y5,B,Y'):=P
  apply OR C (A0 (hg _ s5 l H5 x u _ (I5.pinned (j Y') (T.obj _ _ B)) r5 (step x H5 y5)) λ_ s6 P=>?_)
  let(σ6,H6,I6,q6):=P
  apply OR C (A0 (hb _ s6 σ6 H6 _ I6 q6) λf s7 z=>?_)
  let again:∀{c:St} {p:Hp},Inv X (a++J8 E s5.o) c p s7->N c p->∃m,m<n/\∃i k t,Inv X a k t s7/\tn i s7.o/\(∀b∈E,t b=J)/\W i m k t:=λ{c p} q n7=>by
   let(m',hm,w7):=hN c p n7
   apply#[m',hm,i+1,c,p,q.unpinned,T.keep _ _ _ B λb hb o e=>(q.pin (b,o) (Dj _ (Dj _ (OQ hb e)))).1,λb hb=>?_,w7]
   let(o,e,d):=T.obj _ _ B b hb
   show(q.pin (b,o) (Dj _ (Dj _ (OQ hb e)))).2.1
  cases f with
  |next=>let(c,p,q,n7):=z;show again q n7
  |cont=>let(c,p,q,n7):=z;show again q n7
  |brk=>let(c,p,q,z):=z;show#[c,p,q.unpinned,z]
  |ret v=>let(x7,c,p,q,r7,z):=z;show#[x7,c,p,q.unpinned,r7,z]
end
abbrev R2:=V->V->Hp->VK->V'
def Ci(X:Cx)(f:Aa->Aa->Sem Aa)(r:R2):V':=
 ∀(a:A1) (s:Ab) (b:St) (H:Hp) (x y:V) (v u:Aa) (Q:VK),Inv X a b H s->RelV x v->RelV y u->r x y H Q ->
  wpAny (Ag X.γ X.w) X.A (f v u) (EP X a b Q) X.xe s
def RK(X:Cx)(f:Aa->Sem Aa)(r:V->Hp->VK->V'):V':=
 ∀(a:A1) (s:Ab) (b:St) (H:Hp) (x:V) (v:Aa) (Q:VK),Inv X a b H s->RelV x v->r x H Q ->
  wpAny (Ag X.γ X.w) X.A (f v) (EP X a b Q) X.xe s
def D8(X:Cx)(f:Aa)(r:U V->Hp->VK->V'):V':=
 ∀(a:A1) (s:Ab) (b:St) (H:Hp) (c:U V) (d:U Aa) (Q:VK),Inv X a b H s->Aq c d->r c H Q ->
  wpAny (Ag X.γ X.w) X.A (call f d) (EP X a b Q) X.xe s
def oO(X:Cx)(r:V->Hp->(jp->Hp->V')->V'):V':=
 ∀(a:A1) (s:Ab) (b:St) (H:Hp) (x:V) (v:Aa) (Q:jp->Hp->V'),Inv X a b H s->RelV x v->r x H Q ->
  wpAny (Ag X.γ X.w) X.A (truthy v) (TP X a b Q) X.xe s
def K8(r:R2)(b c:TE):TE:=λa H Q=>b a H λx d=>c a d λy e=>r x y e Q
def oP(r:V->Hp->VK->V')(a:TE):TE:=λb H Q=>a b H λx c=>r x c Q
def rI(C:W'->W'->V')(g:W'->W'->V):R2:=λx y H Q=>∃i j,x=.r i/\y=.r j/\C i j/\Q (g i j) H
def HG(g:W'->W'->V):R2:=λx y H Q=>∃i j,x=.r i/\y=.r j/\Q (g i j) H
def rU(g:W'->V):V->Hp->VK->V':=λx H Q=>∃i,x=.r i/\Q (g i) H
variable {a b c:Expr}
def
RL(l:PE X a ta)(hb:PE X b tb){c:A1}{s:Ab}{R:V->V->Hp->V'}(B:Inv X c I H s)
  (h:ta I H λx j=>tb I j λy d=>R x y d) {Q:AQ} {f:Aa->Aa->Sem Aa}
  (m:∀v u i x y d,Inv X c I d i->RelV x v->RelV y u->R x y d->wpAny (Ag X.γ X.w) X.A (f v u) Q X.xe i):
  wpAny (Ag X.γ X.w) X.A (An a X.G) (λv e=>wpAny (Ag X.γ X.w) X.A (An b X.G) (λu g=>wpAny (Ag X.γ X.w) X.A (f v u) Q X.xe g) X.xe e) X.xe s:=by
 apply A0 (l c s I H _ B h) λv n k=>?_
 let(x,j,o,p,q):=k
 apply A0 (hb c n I j _ o q) λu i k=>?_
 let(y,d,r,t,z):=k
 show m v u i x y d r p t z
def
oQ{op:Operator}{r:R2}(d:Ci X (Hj op) r)(e:PE X a ta)(hb:PE X b tb):PE X (.BinOp a op b pos) (K8 r ta tb):=by
 intro c s f H Q m h
 show wpAny_BinOp (RL e hb m h λv u g x y i j k l q=>d c g f i x y v u Q j k l q)
def
oR{op:UnaryOp}{r:V->Hp->VK->V'}(d:RK X (unaryOp op) r)(e:PE X a ta):PE X (.UnaryOp op a pos) (oP r ta):=by
 intro b s c H Q l h
 show UnaryOp_ (A0 (e b s c H _ l h) λv f ⟨x,g,i,j,k⟩=>d b f c g x v Q i j k)
def
OS{f:Aa->Aa->Sem Aa}{C:W'->W'->V'}{g:W'->W'->W'}
  (rule:∀(i j:W') (t u:Tok) (s:Ab) (Q:AQ) (E:AQ),C i j->Q (.r (g i j) s.ω) {s with toks:=s.ω+1}->wpAny (Ag X.γ X.w) X.A (f (.r i t) (.r j u)) Q E s):
  Ci X f (rI C λi j=>.r (g i j)):=by
 intro a s h H x y v u Q k b c zQ;let(i,j,rfl,rfl,d,q):=zQ
 let(t,rfl):=b
 let(e,rfl):=c
 show rule i j t e s _ _ d #[.r (g i j),H,k.tok _,#[_,rfl],q]
def
X2{f:Aa->Aa->Sem Aa}{g:W'->W'->W'}
  (rule:∀(i j:W') (t u:Tok) (s:Ab) (Q:AQ) (E:AQ),Q (.r (g i j) s.ω) {s with toks:=s.ω+1}->wpAny (Ag X.γ X.w) X.A (f (.r i t) (.r j u)) Q E s):
  Ci X f (HG λi j=>.r (g i j)):=by
 intro a s e H x y v u Q h b c zQ;let(i,j,rfl,rfl,q):=zQ
 let(t,rfl):=b
 let(d,rfl):=c
 show rule i j t d s _ _ #[.r (g i j),H,h.tok _,#[_,rfl],q]
def
RM{f:Aa->Aa->Sem Aa}{g:W'->W'->jp}
  (rule:∀(i j:W') (t u:Tok) (s:Ab) (Q:AQ) (E:AQ),Q (.ϝ (g i j)) s->wpAny (Ag X.γ X.w) X.A (f (.r i t) (.r j u)) Q E s):
  Ci X f (HG λi j=>.bl (g i j)):=by
 intro a s e H x y v u Q h b c zQ;let(i,j,rfl,rfl,q):=zQ
 let(t,rfl):=b
 let(d,rfl):=c
 show rule i j t d s _ _ #[.bl (g i j),H,h,rfl,q]
def MG(i j:W'):V':=0<j/\j<1073741824
def MH(i j:W'):V':=0<=j/\j<=1000000/\i.natAbs<2^64
def Ek(i j:W'):V':=(-(2^64)<i/\i<2^64)\/(-(2^64)<j/\j<2^64)
def
Ek.ok{i j:W'}(h:Ek i j):IntMulOk i j:=by
 rcases h with⟨h1,h2⟩|⟨h1,h2⟩
 .show .of_left (intBits_le_64 h1 h2)
 .show .of_right (intBits_le_64 h1 h2)
def
J9:Ci X (Hj .Add) (HG λi j=>.r (i+j)):=X2 λ_ _ _ _ _ _ _ q=>add_int q
def
oS:Ci X (Hj .Sub) (HG λi j=>.r (i-j)):=X2 λ_ _ _ _ _ _ _ q=>sub_int q
def
oU:Ci X (Hj .Mult) (rI Ek λi j=>.r (i*j)):=OS λ_ _ _ _ _ _ _ a q=>mul_int q a.ok
def
oV:Ci X (Hj .FloorDiv) (rI MG λi j=>.r (i/j)):=OS λi j _ _ _ _ _ a q=>by
 let h1:(0:W')<j:=a.1
 let h2:j<1073741824:=a.2
 show floordiv_int (BF (Int.ne_of_lt h1)) (Int.fdiv_eq_ediv_of_nonneg i (Int.Ϸ h1) ▸ q) (.S (PyProof.noPylong_small ∅))
def
oW:Ci X (Hj .Mod) (rI (λ_ j=>0<j) λi j=>.r (i%j)):=OS λi j _ _ _ _ _ a q=>by
 let h1:(0:W')<j:=a
 show mod_int' ∅ (by rw[Int.fmod_eq_emod_of_nonneg i ∅];show q)
def
oX:Ci X (Hj .Pow) (rI MH λi j=>.r (i^j.Β)):=OS λ_ _ _ _ _ _ _ a q=>pow_int_small a.1 a.2.1 a.2.2 q
def
oY{f:Aa->Sem Aa}{g:W'->W'}
  (rule:∀(i:W') (t:Tok) (s:Ab) (Q:AQ) (E:AQ),Q (.r (g i) s.ω) {s with toks:=s.ω+1}->wpAny (Ag X.γ X.w) X.A (f (.r i t)) Q E s):
  RK X f (rU λi=>.r (g i)):=by
 intro a s c H x v Q d b zQ;let(i,rfl,q):=zQ
 let(t,rfl):=b
 show rule i t s _ _ #[.r (g i),H,d.tok _,#[_,rfl],q]
def
oZ:RK X (unaryOp .USub) (rU λi=>.r (-i)):=oY λ_ _ _ _ _ q=>neg_int q
end
variable {a b c:Expr}{tc:TE}
def
X3{a:A1}{s:Ab}{Q:VK}{k k':jp}(b:Inv X a I H s)(q:Q (.bl k) H)(e:k=k'):EP X a I Q (.ϝ k') s:=by
 subst e
 show#[.bl k,H,b,rfl,q]
def
RO:Ci X (DD .LtE) (HG λi j=>.bl (decide (i<=j))):=RM λ_ _ _ _ _ _ _ q=>le_int q
def
X4:Ci X (DD .Gt) (HG λi j=>.bl (decide (j<i))):=RM λ_ _ _ _ _ _ _ q=>gt_int q
def
o0:Ci X (DD .GtE) (HG λi j=>.bl (decide (j<=i))):=RM λ_ _ _ _ _ _ _ q=>ge_int q
def
X5:Ci X (DD .In) (λx y H Q=>∃i j,x=.Α i/\y=.Α j/\Q (.bl (!(MJ j i 0 j.a 1).Χ)) H):=by
 intro a s d H x y v u Q f b c zQ;let(i,j,rfl,rfl,q):=zQ
 let(t,rfl):=b
 let(e,rfl):=c
 show in_str (X3 f q rfl)
def
o8:Ci X (DD .NotIn) (λx y H Q=>∃i j,x=.Α i/\y=.Α j/\Q (.bl (!(!(MJ j i 0 j.a 1).Χ))) H):=by
 intro a s d H x y v u Q f b c zQ;let(i,j,rfl,rfl,q):=zQ
 let(t,rfl):=b
 let(e,rfl):=c
 show notIn_str (X3 f q rfl)
def
Ci.or{f:Aa->Aa->Sem Aa}{r b:R2}(h:Ci X f r)(h':Ci X f b):Ci X f (λx y H Q=>r x y H Q\/b x y H Q):=by
 intro a s c H x y v u Q g d e q
 rcases q with q|q
 .show h a s c H x y v u Q g d e q
 .show h' a s c H x y v u Q g d e q
def
o9{op:CmpOp}{r:R2}(d:Ci X (DD op) r)(e:PE X a ta)(hb:PE X b tb)(f:GG op b=O'):PE X (.Ο a [op] [b] pos) (K8 r ta tb):=by
 intro c s g H Q n h
 show wpAny_Compare1 (RL e hb n h λv u i x y j k l m q=>d c i g j x y v u Q k l m q) f
def pa(t:TE):TT:=λa H Q=>t a H λx b=>∃k,x=.bl k/\Q k b
def
X6{op:CmpOp}{r:R2}(g:Ci X (DD op) r)(i:PE X a ta)(hb:PE X b tb)(j:GG op b=O'):PT X (.Ο a [op] [b] pos) (pa (K8 r ta tb)):=by
 intro d s f H Q K h
 apply wpAny_isTrue_Compare1 (A0 (i d s f H _ K h) λv l ⟨x,m,n,o,p⟩=>A0 (hb d l f m _ n p) λu q ⟨y,t,w,A,B⟩=>
  A0 (g d q f t x y v u _ w o A B) λc F ⟨z,C,E,G,k,e,q3⟩=>?_) j
 subst e
 ext G
 show Jh #[C,E,q3]
def X7(r c:R2)(ta tb tc:TE):TE:=λa H Q=>ta a H λx d=>tb a d λy e=>r x y e λz b=>∃k,z=.bl k /\
 (if k=J' then tc a b λf g=>c y f g Q else Q (.bl O') b)
def
pb{op g:CmpOp}{r l:R2}(p:Ci X (DD op) r)(j:Ci X (DD g) l)(q:PE X a ta)(hb:PE X b tb)(t:PE X c tc)
  (w:↥(lastMarks [op,g] [b,c]=O':15)):PE X (.Ο a [op,g] [b,c] pos) (X7 r l ta tb tc):=by
 intro f s i H Q R h
 apply Compare_chain (A0 (q f s i H _ R h) λv A ⟨x,B,C,E,G⟩=>chain_link (A0 (hb f A i B _ C G) λu F ⟨y,L,M,m,N⟩=>
  A0 (p f F i L x y v u _ M E m N) λd K ⟨z,n,o,T,k,e,q3⟩=>?_)) w
 subst e
 ext T
 apply Jh ?_
 cases k with
 |false=>show ite_ff #[.bl O',n,o,rfl,q3]
 |true=>show ite_tt (chain_last (A0 (t f K i n _ o q3) λP Y' ⟨z',H4,I4,r4,q4⟩=>j f Y' i H4 y z' u P Q I4 m r4 q4))
def X8(K:Am)(x:V)(H:Hp)(k:jp):V':=
 match x with
 |.non=>k=O'
 |.bl b=>k=b
 |.int i=>k=(i != 0)
 |.str y=>y.a<=Az/\k=((y.a:W') != 0)
 |.ref p=>(∃a,BV K H p a/\k=!a.isEmpty)\/(∃a,Cf K H p a/\k=!a.isEmpty)
 |_=>False
def
X9{xs:U V}{a:U Aa}(r:Aq xs a):(!a.toArray.isEmpty)=!xs.isEmpty:=by
 ext r<;>simp
def
OT:(Az:Y)<2^63:=by rw[HH];decide
def
pc:oO X (λx H Q=>∃k,X8 X.K x H k/\Q k H):=by
 intro h s m H x v Q u a zQ;let(k,e,q):=zQ
 let n:=OT
 cases x with
 |non=>
  ext a
  subst e
  show truthy_none #[H,u,q]
 |bl b=>
  ext a
  let e:k=b:=e
  subst e
  show Jh #[H,u,q]
 |int i=>
  let(t,rfl):=a
  subst e
  show PySem.P.truthy_int #[H,u,q]
 |str y=>
  let(t,rfl):=a
  obtain⟨o,e⟩:y.a<=Az/\k=((y.a:W') != 0):=e
  subst e
  show PySem.P.truthy_str ∅ #[H,u.tok _,q]
 |ref p=>
  ext a
  rcases e with⟨j,d,e⟩|⟨j,d,e⟩
  .subst e
   let(f,r,g,l):=u.Ϥ d
   let c:=r.a
   show wpAny_truthy_list g.Ω (by erw[Ca];lia) #[H,u.tok _,X9 r ▸ q]
  .subst e
   let(f,r,g,l):=u.Ϙ d
   let c:=r.a
   show truthy_tuple g (by erw[Ca];lia) #[H,u.tok _,X9 r ▸ q]
 |_=>show(show False from e).Ζ
def
pe(d:PE X a ta)(e:∀b,isTrue a X.G b=(do let v <- b;standAt a.pos;Fe [v] (truthy v))):
  PT X a (λI H Q=>ta I H λx H'=>∃k,X8 X.K x H' k/\Q k H'):=by
 intro c s I H Q m h
 show isTrue_plain (A0 (d c s I H _ m h) λv f ⟨x,g,i,j,l⟩=>pc c f I g x v Q i j l) (e _)
def
Fx:Ci X (Hj .Add) (λx y H Q=>∃i j,x=.Α i/\y=.Α j/\i.a+j.a<=Az/\Q (.Α (i++j)) H):=by
 intro a s f H x y v u Q h b c zQ;let(i,j,rfl,rfl,d,q):=zQ
 let(t,rfl):=b
 let(e,rfl):=c
 show add_str (λe g=>#[.Α (i++j),H,h.tok _,#[_,rfl],q]) d
def
El{x:V}{us:U Aa}(r:Aq [x] us):∃u,us=[u]/\RelV x u:=by
 cases r with
 |cons a b=>ext b;show#[_,rfl,a]
def
OU{x y:V}{us:U Aa}(r:Aq [x,y] us):∃u a,us=[u,a]/\RelV x u/\RelV y a:=by
 cases r with
 |cons b c=>
  cases c with
  |cons d e=>ext e;show#[_,_,rfl,b,d]
def
pf(c:X.Ϭ=J'):D8 X (.ρ "max") (λxs H Q=>∃i j,xs=[.r i,.r j]/\Q (.r (if j>i then j else i)) H):=by
 intro b s d H xs e Q m r zQ;let(i,j,rfl,q):=zQ
 let(u,f,rfl,(t,rfl),(g,rfl)):=OU r
 apply max_two_ints (m.ok.hd c) λh l k=>#[_,H,m.ϟ k,?_,q]
 by_cases a:j>i
 .rw[if_pos a,if_pos a];show#[_,rfl]
 .rw[if_neg a,if_neg a];show#[_,rfl]
def
ph(c:X.Ϭ=J'):D8 X (.ρ "min") (λxs H Q=>∃i j,xs=[.r i,.r j]/\Q (.r (if j<i then j else i)) H):=by
 intro b s d H xs e Q m r zQ;let(i,j,rfl,q):=zQ
 let(u,f,rfl,(t,rfl),(g,rfl)):=OU r
 apply min_two_ints (m.ok.hd c) λh l k=>#[_,H,m.ϟ k,?_,q]
 by_cases a:j<i
 .rw[if_pos a,if_pos a];show#[_,rfl]
 .rw[if_neg a,if_neg a];show#[_,rfl]
def
pi:D8 X (.ζ "int") (λxs H Q=>(∃i,xs=[.r i]/\Q (.r i) H)\/∃k,xs=[.bl k]/\Q (.r (if k then 1 else 0)) H):=by
 intro a s c H xs d Q e r h
 rcases h with⟨i,rfl,q⟩|⟨k,rfl,q⟩
 .let(u,rfl,t,rfl):=El r
  show call_int_int #[.r i,H,e,#[_,rfl],q]
 .let(u,rfl,b):=El r
  ext b
  show call_int_bool #[.r (if k then 1 else 0),H,e.tok _,#[_,rfl],q]
def Ya(K:Am)(x:V)(H:Hp)(n:Y):V':=
 match x with
 |.str y=>y.a<=Az/\n=y.a
 |.ref p=>(∃a,BV K H p a/\n=a.a)\/∃a,Cf K H p a/\n=a.a
 |_=>False
def
Yb:D8 X (.ρ "len") (λxs H Q=>∃x n,xs=[x]/\Ya X.K x H n/\Q (.r n) H):=by
 intro g s j H xs k Q o r zQ;let(x,n,rfl,e,q):=zQ
 let(u,rfl,h):=El r
 let l:Az=16777216:=HH
 cases x with
 |str y=>
  let(t,rfl):=h
  obtain⟨m,rfl⟩:y.a<=Az/\n=y.a:=e
  show len_str ∅ #[.r _,H,o.tok _,#[_,rfl],q]
 |ref p=>
  ext h
  rcases e with⟨xs,b,e⟩|⟨xs,b,e⟩
  .subst e
   let(c,d,f,i):=o.Ϥ b
   let a:=d.a
   show Calls.call_len_list f.Ω (by erw[Ca];lia) #[.r xs.a,H,o.tok _,#[_,by erw[Ca];rw[a]],q]
  .subst e
   let(c,d,f,i):=o.Ϙ b
   let a:=d.a
   show len_tuple f (by erw[Ca];lia) #[.r xs.a,H,o.tok _,#[_,by erw[Ca];rw[a]],q]
 |_=>show(show False from e).Ζ
end
structure Fy(h:Ak)(x dx C:Ac)(mA:BE):V' where
 obj:h.Q x=Z (J6 C dx)
 ns:h.Ns1 dx mA
 ne:dx≠x
open J in
def
pj{h:Ak}{c:Ac}{d:BE}(n:h.Ns1 c d):∃f,h.Q c=Z f/\∀name,PySem.W.lookIn name f=Z (d name):=by
 let(o,g,m,i,hd,j,_,k):=n
 apply#[o,i,λname=>?_]
 let e:=k name
 unfold nsFind findBy at e
 rw[<- Array.find?_toList]at e
 unfold PySem.W.lookIn
 rw[hd]
 dsimp only
 split
 .rename_i y q
  rw[q]at e
  show congrArg Z e
 .rename_i q
  rw[q]at e
  let a:g.R.any (·.refKey)=O':=by
   rw[List.any_eq_false]
   intro y l
   let(z,t,b):=j y (Array.mem_toList_iff.mp l)
   simp[DictEntry.refKey,b]
  rw[if_neg (show ¬ g.R.any (·.refKey)=J' by rw[a];show MA)]
  show congrArg Z e
def
Fy.look{h:Ak}{x b C:Ac}{c:BE}(f:Fy h x b C c):∃a,PySem.W.InstAt h x (J6 C b) C (Z a)/\∀name,PySem.W.lookIn name a=Z (c name):=
 let⟨a,d,e⟩:=pj f.ns
 #[a,#[f.obj,rfl,rfl,d],e]
variable {prog:AR}{w:Ai}{A:Af}{s:Ab}{K:Am}{x dx C f:Ac}{mA:BE}{name:Ae}{v:Aa}
def
pq{a:jp}{Q:AQ}(X:K.In s.o)(k:Fy s.o x dx C mA)(c:PySem.W.plainGet K C name=J')(d:PySem.W.hasDictIn K C=J')
  (e:Ji K (.C C) name=Z J) (f:mA name=Z v) (b:PySem.W.handedIn v=J') (h:Q v {s with toks:=s.ω+1}):
  wpAny (Ag prog w) A (getAttr (.C x) name a) Q E s:=by
 let(i,j,g):=k.look
 show PySem.W.get_value X j (PySem.W.plainGet_of c).1 (PySem.W.findObj_own d e rfl (by rw[g,f])) b h
def
pr{Q:Aa×U Aa->Ab->V'}(X:K.In s.o)(i:Fy s.o x dx C mA)(a:PySem.W.plainGet K C name=J')
  (b:Ji K (.C C) name=Z (Z (.C f))) (ht:PySem.W.isFn K (.C f)=J') (c:mA name=J) (h:Q (.C f,[.C x]) s):
  wpAny (Ag prog w) A (getMethod (.C x) name pl) Q E s:=by
 let(d,g,e):=i.look
 show PySem.W.method_fn X g (PySem.W.plainGet_of a).1 (PySem.W.plainGet_of a).2 b (beq_iff_eq.mp ht) (by show(PySem.W.lookIn name d).j (·.μ)=Z O';rw[e,c];rfl) h
def
pu{ns:U Ae}(X:K.In s.o)(F:Fy s.o x dx C mA)
  (j:Ji K (.C C) "__setattr__"=Z (Z (.ρ "object.__setattr__"))) (k:PySem.W.plainOver K C=J') (ht:PySem.W.takerIn K C name=Z J) (l:PySem.W.hasDictIn K C=J')
  (m:PySem.Within mA ns) (hsz:ns.a<=Az)
  (h:∀h',Fy h' x dx C (λy=>if y=name then Z v else mA y)->D1 dx s.o h'->Q () {s with heap:=h',toks:=s.ω+2}):
  wpAny (Ag prog w) A (setAttr (.C x) name v) Q E s:=by
 let(q,B,t):=F.look
 apply PySem.W.set_plain X B j (PySem.W.osa_open (s:={s with toks:=s.ω+1}) (r:=J) X B k ht λb=>?_)
 let(u,n,e):=PySem.W.any_some l
 apply Al (AO (Al (Al (wpAny_loadPart F.obj (Al (PySem.W.Looks.here (s:={s with toks:=s.ω+1}) (PySem.W.looks_clsIn X n) ?_))))))
 rw[e]
 apply AO (a:=Z dx) (Al (AO (Al ?_)))
 apply wpAny_nsSet1 (s:={s with toks:=s.ω+1}) F.ns λh' c d=>?_
 let(z,o,p,f,g,i):=c.count (PySem.Within.Η name v m)
 show Al (wpAny_lookBehind f (g ▸ pastItsLine_dict (BX i (Cb ▸ Nat.add_le_add_right hsz 1))) (AO (h _ #[(d.2 _ (BF F.ne)).J F.obj,c,F.ne] d)))
def
pv{vs:U Aa}{a:U (Ae×Aa)}(X:K.In s.o)(b:PySem.W.makesIn K C=J')
  (c:Ji K (.C C) "__init__"=Z (Z (.C f))) (e:PySem.W.typeIn K (.C f)=Z (.ζ "function"))
  (h:codeAny (Ag prog w) (A.under (.ρ "type.__call__" #[.C C::vs,a])) (.call (.C f) #[.C (s.o.E.y+1)::vs,a]) (PySem.W.InitBack (s.o.E.y+1) R)
   {s with heap:=(s.o.Μ Jj).Μ (J6 C s.o.E.y)}):
  codeAny (Ag prog w) A (.call (.C C) #[vs,a]) R s:=by
 let(i,g,d,t,os):=s
 show PySem.W.make_core (PySem.W.makes_of X b) (PySem.W.looks_findIn X c) (λself=>PySem.W.bind_fn X self e) (.S rfl) h
end
def EI(f:Ae)(v:V):U (Ae×V)->U (Ae×V)
 |[]=>[(f,v)]
 |(g,x)::r=>if g=f then(g,v)::r else(g,x)::EI f v r
def
Yc(f g:Ae)(v:V):∀a:U (Ae×V),(EI f v a).X g=if g=f then Z v else a.X g
 |[]=>by
  change List.X g [(f,v)]=_
  grind
 |(k,x)::r=>by
  let b:=Yc f g v r
  grind [EI]
def
RP(f:Ae)(v:V):∀a:U (Ae×V),f∈(EI f v a).j (·.1)/\∀g,g∈a.j (·.1)->g∈(EI f v a).j (·.1)
 |[]=>#[by simp[EI],λg h=>by simp at h]
 |(k,x)::r=>by
  let(c,i2):=RP f v r
  rw[show EI f v ((k,x)::r)=(if k=f then(k,v)::r else(k,x)::EI f v r)from rfl]
  by_cases b:k=f
  .rw[if_pos b]
   subst b
   show#[by simp,λg h=>by exists h]
  .rw[if_neg b]
   apply#[?_,λg h=>?_]
   .rw[AT]
    show A5 _ c
   .rw[AT]at h ⊢
    rcases Bl.mp h with e|e
    .show Bl.ϡ (.S e)
    .show A5 _ (i2 g e)
def
Yd(f:Ae)(v:V):∀a:U (Ae×V),(EI f v a).a<=a.a+1
 |[]=>by simp[EI]
 |(k,x)::r=>by
  let b:=Yd f v r
  grind [EI]
def
Cz.some_of{v:V}{o:O Aa}(r:Cz (Z v) o):∃u,o=Z u/\RelV v u:=by
 cases o with
 |none=>show(show False from r).Ζ
 |some u=>show#[u,rfl,r]
def
Cz.none_of{o:O Aa}(r:Cz J o):o=J:=by
 cases o with
 |none=>rfl
 |some u=>show(show False from r).Ζ
def
pw{v:V}(r:RelV v u):PySem.W.handedIn u=J':=by
 cases v with
 |non=>cases(show u=Value.σ from r);rfl
 |bl b=>cases(show u=Value.ϝ b from r);rfl
 |int i=>let(t,e):=(show ∃t,u=Value.r i t from r);ext e;rfl
 |str x=>let(t,e):=(show ∃t,u=Value.Α x t from r);ext e;rfl
 |ref a=>cases(show u=Di a from r);rfl
 |ty n=>cases(show u=Value.ζ n from r);rfl
variable {P:AR}{w:Ai}{h:Ak}{C dx:Ac}{fs:U (Ae×V)}
def
RQ(hok:CH P w H h)(e:Rd H a (.ins C dx fs)):∃b,Fy h a dx C b/\(∀f,Cz (fs.X f) (b f))/\PySem.Within b (fs.j (·.1))/\fs.a<=1000/\H dx=Z (.χ a):=by
 let(d,z,ne,c,b,n,r,q):=(show Be P w H h a (.ins C dx fs)from e.ok hok)
 show#[b,#[c,n,ne],r,q,z,d]
end
structure EJ(K:Am)(C:Ac):V' where
 pg:PySem.W.plainGet K C Str.empty=J'
 hd:PySem.W.hasDictIn K C=J'
 po:PySem.W.plainOver K C=J'
 sa:Ji K (.C C) "__setattr__"=Z (Z (.ρ "object.__setattr__"))
def
EJ.get{K:Am}{C:Ac}(c:EJ K C)(f:Ae):PySem.W.plainGet K C f=J':=c.pg
def Bx(K:Am)(C:Ac)(f:Ae):V':=Ji K (.C C) f=Z J
def
Bx.taker{K:Am}{C:Ac}{f:Ae}(n:Bx K C f):PySem.W.takerIn K C f=Z J:=by
 unfold PySem.W.takerIn
 rw[show Ji K (.C C) f=Z J from n]
 rfl
structure Jk(K:Am)(C:Ac)(m:Ae)(f:Ac):V' where
 at_:Ji K (.C C) m=Z (Z (.C f))
 fn:PySem.W.isFn K (.C f)=J'
 kp:HI K (.C f)=J'
variable {s:Ab}{C dx:Ac}{fs:U (Ae×V)}{f:Ae}{v:V}{A:Af}
def
px{b:jp}{Q:AQ}(m:Inv X pins I H s)(e:Rd H a (.ins C dx fs))(c:EJ X.K C)(n:Bx X.K C f)(l:fs.X f=Z v)
  (h:∀u d,Inv X pins I H d->RelV v u->Q u d):wpAny (Ag X.γ X.w) A (getAttr (.C a) f b) Q E s:=by
 let(i,k,r,_,_,_):=RQ m.Ϣ e
 let(u,j,g):=Cz.some_of (v:=v) (o:=i f) (l ▸ r f)
 show pq m.kIn k (c.Ι f) c.hd n j (pw g) (h u _ (m.tok _) g)
def
Ye{m:Ae}{g:Ac}{Q:Aa×U Aa->Ab->V'}(i:Inv X pins I H s)(e:Rd H a (.ins C dx fs))(c:EJ X.K C)(k:Jk X.K C m g)(l:fs.X m=J)
  (h:Q (.C g,[.C a]) s):wpAny (Ag X.γ X.w) A (getMethod (.C a) m pl) Q E s:=by
 let(b,f,r,_,_,_):=RQ i.Ϣ e
 let d:b m=J:=Cz.none_of (by rw[<- l];show r m)
 show pr i.kIn f (c.Ι m) k.at_ k.fn d h
def
py{y:V}(M:Inv X pins I H s)(e:H a=Z (.ins C dx fs))(c:EJ X.K C)(n:Bx X.K C f)(F:fs.a<1000)(m:RelV y u)
  (h:∀i,Inv X pins I (AX H a (.ins C dx (EI f y fs))) i->Q () i):wpAny (Ag X.γ X.w) A (setAttr (.C a) f u) Q E s:=by
 let(j,L,r,k,_,l):=RQ M.Ϣ (.S e)
 let p:(fs.j (·.1)).a<=Az:=by rw[Bu,HH];lia
 apply pu M.kIn L c.sa c.po n.taker c.hd k p λt d v=>h _ ?_
 let hd:∃o,t.Q dx=Z o:=let⟨o,_,_,B,_⟩:=d.ns;#[o,B]
 apply M.write (x:=a) (e:=dx) (by rw[e];show HJ) (.τ l) (λb q hb z=>(v.2 b hb).J z) hd ?_
 apply#[by rw[Zt L.ne];show l,?_,L.ne,d.obj,_,d.ns,λg=>?_,λg G=>?_]
 .have:=Yd f y fs;lia
 .change Cz ((EI f y fs).X g) (if g=f then Z u else j g)
  rw[Yc]
  by_cases q:g=f
  .rw[if_pos q,if_pos q];show m
  .rw[if_neg q,if_neg q];show r g
 .by_cases q:g=f
  .rw[q];show(RP f y fs).1
  .refine(RP f y fs).2 g (k g λz=>G ?_)
   show(if g=f then Z u else j g)=J
   rw[if_neg q];show z
def
Inv.made(i:Inv X pins I H s):Inv X pins I (AX (AX H s.o.E.y (.χ (s.o.E.y+1))) (s.o.E.y+1) (.ins C s.o.E.y []))
  {s with heap:=(s.o.Μ Jj).Μ (J6 C s.o.E.y)}:=by
 let c:(s.o.Μ Jj).Q s.o.E.y=Z Jj:=B7 s.o rfl
 let d:((s.o.Μ Jj).Μ (J6 C s.o.E.y)).Q (s.o.E.y+1)=Z (J6 C s.o.E.y):=by
  have:=B7 (s.o.Μ Jj) (o:=J6 C s.o.E.y) rfl
  rwa[FU]at this
 let f:(s.o.Μ Jj).Ns s.o.E.y (λ_=>J):=#[Jj,(T' []),_,c,rfl,(λe g=>absurd g (by simp)),λ_=>rfl]
 let h:=i.laid (a:=s.o.E.y) (o:=.χ (s.o.E.y+1)) (h':=s.o.Μ Jj) (t':=s.ω) (λb u q=>Bg _ q) (A9 _) #[_,c]
 apply h.laid (a:=s.o.E.y+1) (o:=.ins C s.o.E.y []) (t':=s.ω) (λb u q=>Bg _ q) (K9 (FU _ _)) ?_
 let ne:s.o.E.y≠s.o.E.y+1:=B6 (Nat.lt_succ_self _)
 apply#[by rw[Zt ne,Z5],Fz _,ne,d,λ_=>J,(Heap.Ns1.of_empty f).at λo q=>Bg _ q,λ_=>HJ,λy j=>absurd rfl j]
def
pz{prog:AR}{w:Ai}{env:Env}{e:Expr}{f:Ae}{s:Ab}{Q:AQ}(hb:FV e f env (An e env)=An e env)
  (h:wpAny (Ag prog w) A (An e env) (λo a=>wpAny (Ag prog w) A (getAttr o f J') Q E a) E s):wpAny (Ag prog w) A (An (.δ e f pos) env) Q E s:=
 Attribute_any_ h (by rw[arm_eval_Attribute,hb])
end
def pA(K:Am)(d:TE)(f:Ae):TE:=λe H Q=>d e H λx b=>∃a C g c v,x=.C a/\Rd b a (.ins C g c)/\EJ K C/\Bx K C f/\c.X f=Z v/\Q v b
def pB(K:Am)(g h:TE)(f:Ae):TS:=λD b H=>h b H λy i=>g b i λx d=>∃a C e c,x=.C a/\d a=Z (.ins C e c)/\EJ K C/\Bx K C f/\c.a<1000 /\
 D.nx b (AX d a (.ins C e (EI f y c)))
variable {e value:Expr}{f:Ae}{tv:TE}
def
Yf(d:PE X e ta)(hb:FV e f X.G (An e X.G)=An e X.G):PE X (.δ e f pos) (pA X.K ta f):=by
 intro b s g H Q B h
 apply pz hb (A0 (d b s g H _ B h) λu t i=>?_)
 let(x,j,k,m,a,C,w,y,v,rfl,o,c,n,l,q):=i
 obtain rfl:u=Di a:=m
 show px k o c n l λz A p r=>#[v,j,p,r,q]
def
pC(e:PE X o ta)(g:PE X value tv)(i:Ej value (Z (.δ o f pos')) pos.ϥ X.G=Ax O'):PS X (.Ϡ [.δ o f pos'] value pos) (pB X.K ta tv f):=by
 intro b s d H D N h
 apply plainObj_wpAny_Assign_Attribute (A0 (g b s d H _ N h) λu j ⟨y,k,m,p,q⟩=>A0 (e b j d k _ m q) λr E t=>?_) i
 let(x,G,v,w,a,C,F,L,rfl,z,c,n,l,A):=t
 obtain rfl:r=Di a:=w
 show py v z c n l p λM B=>#[d,_,B,A]
end
structure AH(k:Y)(A:Af):V' where
 hd:A.ϛ=J
 dp:A.depth+3*k+5<recursionLimit
 un:A.η+16*k+200<As
def
AH.mono{j k:Y}{A:Af}(r:AH k A)(h:j<=k):AH j A:=#[r.hd,by have:=r.dp;lia,by have:=r.un;lia]
def
AH.deeper{k:Y}{A:Af}(r:AH (k+1) A)(env:Env):AH k (A.Ϩ env):=
 #[r.hd,by have:=r.dp;change A.depth+1+3*k+5<_;lia,by have:=r.un;change A.η+3+16*k+200<_;lia]
def
AH.in1{k:Y}{A:Af}(r:AH (k+1) A):AH k A.in1:=
 #[r.hd,by have:=r.dp;change A.depth+3*k+5<_;lia,by have:=r.un;change A.η+1+16*k+200<_;lia]
def
pD{A:Af}{C:Ac}{us:U Aa}{a:U (Ae×Aa)}:(A.under (.ρ "type.__call__" #[.C C::us,a])).depth=A.depth+1:=by
 rfl
def
pE{A:Af}{C:Ac}{us:U Aa}{a:U (Ae×Aa)}:(A.under (.ρ "type.__call__" #[.C C::us,a])).η=A.η+1:=by
 rfl
def
AH.make{k:Y}{A:Af}(r:AH (k+1) A)(C:Ac)(us:U Aa)(a:U (Ae×Aa)):AH k (A.under (.ρ "type.__call__" #[.C C::us,a])):=
 #[r.hd,by have:=r.dp;rw[pD];lia,by have:=r.un;rw[pE];lia]
def
AH.depth{k:Y}{A:Af}(r:AH k A):A.depth<recursionLimit:=by have:=r.dp;lia
def
AH.units{k:Y}{A:Af}(r:AH k A):A.η+64<As:=by have:=r.un;lia
def MK:TA:=λ_ H Q=>Q [] H
def Yg(b:TE)(tr:TA):TA:=λa H Q=>b a H λx c=>tr a c λd e=>Q (x::d) e
variable {e:Expr}{t:TA}
def
Bq:PA X [] MK:=λ_ _ _ _ H Q a h=>Calls.spliced_nil #[[],H,a,.Ϝ,h]
def
Z0(c:PE X e te)(d:PA X es t)(f:↑(AL (e::es) X.G=(O',An e X.G)::AL es X.G)):PA X (e::es) (Yg te t):=by
 intro pos a s b H Q w h
 rw[f]
 change wpAny _ _ (spliced ((O',An e X.G)::AD pos (AL es X.G))) _ _ s
 apply Calls.spliced_cons (A0 (c a s b H _ w h) λu g ⟨x,i,j,k,l⟩=>?_)
 show A0 (d pos a g b i _ j l) λr v ⟨m,n,o,p,q⟩=>#[x::m,n,o,.Η k p,q]
def pF(t:TA):TE:=λc H Q=>t c H λa b=>a.a<=Az/\∀p,b p=J->Q (.C p) (AX b p (.O a))
def pG(t:TA):TE:=λc H Q=>t c H λa b=>a.a<=Az/\∀p,b p=J->Q (.C p) (AX b p (.U a))
def
pH {f} (h:PA X es t):PE X (.oo es f pos) (pF t):=by
 intro a s g H Q m i
 apply wpAny_Tuple_spliced (A0 (h pos a s g H _ m i) λj c ⟨k,l,d,r,z,q⟩=>#[r.a ▸ z,?_])
 apply#[.C c.o.E.y,AX l c.o.E.y (.O k),d.laid (t':=c.ω) (λb u e=>Bg _ e) (A9 _) ?_,rfl,q _ (d.Ϣ.Κ (A9 _))]
 show#[z,j,r,#[_,B7 _ rfl,rfl,_,rfl]]
def
pI(h:PA X es t):PE X (.List es pos) (pG t):=by
 intro a s f H Q l g
 apply wpAny_List_spliced (A0 (h pos a s f H _ l g) λi c ⟨j,k,d,r,z,q⟩=>#[r.a ▸ z,?_])
 apply#[.C c.o.E.y,AX k c.o.E.y (.U j),d.laid (t':=c.ω) (λb u e=>Bg _ e) (A9 _) ?_,rfl,q _ (d.Ϣ.Κ (A9 _))]
 show#[z,i,0,r,B7 _ rfl]
end
abbrev Sp:=U V->Hp->VK->XK->V'
abbrev DR:=U Env->Hp->Ab->XK->AQ
variable{CX:DR}
structure CM(P:AR)(w:Ai)(K:Am)(mg:BE)(base:Ak)(A:Af)(outer:List Env)(s:Ab)(H:Hp):V' where
 frames:A.frames=Z outer
 mod:Mod K mg base
 bs:∀b o,base.Q b=Z o->s.o.Q b=Z o/\H b=J
 bsz:base.E.y<=s.o.E.y
 funs:s.o.g7 base outer
 frf:∀b∈EG outer,H b=J
 hok:CH P w H s.o
 bare:AllBare s.g9
def CE(outer:U Env)(P:AR)(w:Ai)(H:Hp)(s:Ab)(Q:VK)(u:Aa)(a:Ab):V':=
 ∃v b,a.os=s.os/\AllBare a.g9/\Un (EG outer) [] H b s.o a.o/\CH P w b a.o/\RelV v u/\Q v b
def CR(CX:DR)(outer:U Env)(P:AR)(w:Ai)(H:Hp)(s:Ab)(Q:VK)(E:XK)(r:Result)(a:Ab):V':=
 match r with
 |.ok (.ret u)=>CE outer P w H s Q u a
 |.ok _=>False
 |.error e=>CX outer H s E e a
structure AW(P:AR)(w:Ai)(K:Am)(mg:BE)(base:Ak)(CX:DR)(k:Y)(f:Ac)(fd:Cj)(ps:List Ae)(sp:Sp):V' where
 len:∀vs H Q E,sp vs H Q E->vs.a=ps.a
 run:∀(A:Af) (outer:List Env) (s:Ab) (H:Hp) (args:Args) (us:List Aa) (vs:List V) (Q:VK) (E:XK),AH k A->CM P w K mg base A outer s H->BindsTo s fd args (ps.zip us)->Aq vs us->sp vs H Q E ->
  codeAny (Ag P w) A (.call (.C f) args) (CR CX outer P w H s Q E) s
def
AW.imp{P:AR}{w:Ai}{K:Am}{mg:BE}{base:Ak}{k:Y}{f:Ac}{fd:Cj}{sp a:Sp}(F:AW P w K mg base CX k f fd ps sp)
  (h:∀vs H Q E,a vs H Q E->sp vs H Q E):AW P w K mg base CX k f fd ps a:=
 #[λvs H Q E q=>F.Ϫ vs H Q E (h _ _ _ _ q),λA outer s H args b vs Q E c d hb e g=>F.run A outer s H args b vs Q E c d hb e (h _ _ _ _ g)]
def
CM.make{P:AR}{w:Ai}{K:Am}{mg:BE}{base:Ak}{A:Af}{outer:U Env}{s:Ab}(e:CM P w K mg base A outer s H)(C:Ac)(us:U Aa)(a:U (Ae×Aa)):
  CM P w K mg base (A.under (.ρ "type.__call__" #[.C C::us,a])) outer s H:=#[by(simpa[Around.under,Code.envs,Code.isFrame,pushEnvs]using e.frames),e.mod,e.bs,e.bsz,e.funs,e.frf,e.hok,e.bare]
def
CM.in1{P:AR}{w:Ai}{K:Am}{mg:BE}{base:Ak}{A:Af}{outer:U Env}{s:Ab}(e:CM P w K mg base A outer s H):
  CM P w K mg base A.in1 outer s H:=#[e.frames,e.mod,e.bs,e.bsz,e.funs,e.frf,e.Ϣ,e.bare]
variable {s s':Ab}
def
Inv.env0(a:Inv X pins I H s):CM X.γ X.w X.K X.mg X.φ X.A X.Ϛ s H:=
 #[a.ok.frames,a.ok.mod,a.bs,BX a.ok.bsz a.sz,a.Ϛ,a.stkFree,a.Ϣ,a.bare]
def
Inv.after{Q:VK}(f:Inv X pins I H s)(h:CE X.Ϛ X.γ X.w H s Q u s'):EP X pins I Q u s':=by
 let(v,c,os,bare,un,hok,r,q):=h
 let(e,g,d,t,a):=s'
 obtain rfl:a=s.os:=os
 show#[v,c,f.call (h':=e) (g':=g) (d':=d) (t':=t) (ch:=[]) un hok bare (λb z=>absurd z (by simp)),r,q]
end
def OV(sp:Sp)(a:U V)(E:XK)(t:TA):TE:=λb H Q=>t b H λc d=>sp (c++a) d Q E
def Jl(C:Ac)(m:Ae)(sp:Sp)(b:U V)(E:XK)(f:TE)(t:TA):TE:=λc H Q=>f c H λx d=>∃a g e,x=.C a/\Rd d a (.ins C g e)/\e.X m=J /\
 t c d λh i=>sp (x::(h++b)) i Q E
def pJ(C:Ac)(sp:Sp)(b:U V)(E:XK)(t:TA):TE:=λd H Q=>t d H λe c=>∀x a,c x=J->c a=J->x=a+1 ->
 sp (.C x::(e++b)) (AX (AX c a (.χ x)) x (.ins C a [])) (λv f=>v=.Y/\Q (.C x) f) E
def Binds(K:Am)(fd:Cj)(ps:U Ae)(b:U Aa):V':=
 ∀(s:Ab) (a:U Aa),K.In s.o->(a++b).a=ps.a->BindsTo s fd #[a,[]] (ps.zip (a++b))
def
Binds.all{K:Am}{fd:Cj}(h:∀us:U Aa,us.a=ps.a->bindArgs fd #[us,[]]=Ax (ps.zip us)):Binds K fd ps []:=λs us _ a=>by
 rw[Du]at a ⊢
 show .of_eq (h us a)
def EK(CX:DR)(X:Cx)(E:XK):V':=∀(a:A1)(c:St)(H:Hp)(s:Ab)(e:Aa)(b:Ab),Inv X a c H s->CX X.Ϛ H s E e b->X.xe e b
variable {k:Y}{f C:Ac}{fd:Cj}{sp:Sp}{dvs:U V}{ds:U Aa}{E:XK}{x m:Ae}{p:Aw}{e:Expr}{t:TA}
def
RS{a:A1}{s:Ab}{Q:VK}{us:U Aa}(F:AW X.γ X.w X.K X.mg X.φ CX k f fd ps sp)(c:AH k X.A)(hb:Binds X.K fd ps ds)(hd:Aq dvs ds)(d:EK CX X E)
  (j:Inv X a I H s) (r:Aq vs us) (h:sp (vs++dvs) H Q E):wpAny (Ag X.γ X.w) X.A (call (.C f) us) (EP X a I Q) X.xe s:=by
 apply wpAny_call (codeAny_mono (F.run X.A X.Ϛ s H #[us,[]] (us++ds) (vs++dvs) Q E c j.env0 (hb s us j.kIn (show(us++ds).a=ps.a by rw[<- (r.ψ hd).a];show F.Ϫ _ _ _ _ h)) (r.ψ hd) h) λr g b=>?_)
 cases r with
 |error e=>show d a I H s e g j b
 |ok i=>
  cases i with
  |ret u=>show j.after b
  |next=>show B0 b
  |brk=>show B0 b
  |cont=>show B0 b
def
ML(F:AW X.γ X.w X.K X.mg X.φ CX k f fd ps sp)(i:AH k X.A)(j:Gl X x)(l:X.mg x=Z (.C f))(m:HI X.K (.C f)=J')(hb:Binds X.K fd ps ds)(hd:Aq dvs ds)(n:EK CX X E)
  (o:PA X (e::es) t) (b:⇑(DC x)) (u:↑(AL (e::es) X.G=(O',An e X.G)::AL es X.G)) (c:↑((AD pos (AL es X.G)).any (·.1)=O')):
  PE X (.Θ (.ε x p) (e::es) [] pos) (OV sp dvs E t):=by
 intro a s v H Q d h
 show La (Ry d j l (PySem.W.callWith_K (h₀:=X.φ) d.ok.mod.kin m (A0 (o pos a s v H _ d h) λy z ⟨B,C,g,r,q⟩=>#[g.kIn,RS F i hb hd n g r q]) u c) b)
def
RU(y:PE X o ta)(c:EJ X.K C)(j:Jk X.K C m f)(F:AW X.γ X.w X.K X.mg X.φ CX k f fd ps sp)(L:AH k X.A)(hb:Binds X.K fd ps ds)(hd:Aq dvs ds)(M:EK CX X E)(N:PA X (e::es) t)
  (d:↑(AL (e::es) X.G=(O',An e X.G)::AL es X.G)) (g:↑((AD pos (AL es X.G)).any (·.1)=O'))
  (ht:↑(An (.Θ (.δ o m apos) (e::es) [] pos) X.G=(do
   let n <- An o X.G
   standAt apos.atName
   let(f,i) <- Fe [n] (getMethod n m pl)
   callWith pos f i (AD pos (AL (e::es) X.G)) (GI pos (GJ [] X.G))))):
  PE X (.Θ (.δ o m apos) (e::es) [] pos) (Jl C m sp dvs E ta t):=by
 intro b s p H Q S h
 apply PySem.W.methodCall_KW (pl:=pl) (A0 (y b s p H _ S h) λu P T=>?_) ht
 let(x,R,v,Y',a,dx,fs,rfl,ea,l,q):=T
 obtain rfl:u=Di a:=Y'
 show Ye v ea c j l (PySem.W.callWith_K (first:=[.C a]) (h₀:=X.φ) S.ok.mod.kin j.kp (A0 (N pos b P p R _ v q) λz s2 ⟨B,H2,G,r,q2⟩=>#[G.kIn,RS (us:=.C a::z) (vs:=.C a::B) F L hb hd M G (.Η rfl r) q2]) d g)
def
OW(j:PE X o ta)(c:EJ X.K C)(g:Jk X.K C m f)(F:AW X.γ X.w X.K X.mg X.φ CX k f fd ps sp)(n:AH k X.A)(hb:Binds X.K fd ps ds)(hd:Aq dvs ds)(p:EK CX X E)
  (ht:↑(An (.Θ (.δ o m apos) [] [] pos) X.G=(do
   let i <- An o X.G
   standAt apos.atName
   let(f,d) <- Fe [i] (getMethod i m pl)
   callWith pos f d (AD pos (AL [] X.G)) (GI pos (GJ [] X.G))))):
  PE X (.Θ (.δ o m apos) [] [] pos) (Jl C m sp dvs E ta MK):=by
 intro b s r H Q M h
 apply PySem.W.methodCall_KW (pl:=pl) (A0 (j b s r H _ M h) λu z t=>?_) ht
 let(x,B,e,v,a,G,L,rfl,y,l,q):=t
 obtain rfl:u=Di a:=v
 show Ye e y c g l (PySem.W.callWith_K0 (first:=[.C a]) e.kIn g.kp (RS (us:=[.C a]) (vs:=[.C a]) F n hb hd p e (.Η rfl .Ϝ) q))
structure Mk(K:Am)(C f:Ac):V' where
 makes:PySem.W.makesIn K C=J'
 init:Ji K (.C C) "__init__"=Z (Z (.C f))
 fn:PySem.W.isFn K (.C f)=J'
 kp:HI K (.C C)=J'
def
pK{a:A1}{s:Ab}{Q:VK}{us:U Aa}(M:Mk X.K C f)(F:AW X.γ X.w X.K X.mg X.φ CX k f fd ps sp)(j:AH (k+1) X.A)(hb:Binds X.K fd ps ds)(hd:Aq dvs ds)
  (l:EK CX X E) (B:Inv X a I H s) (r:Aq vs us)
  (h:∀x c,H x=J->H c=J->x=c+1->sp (.C x::(vs++dvs)) (AX (AX H c (.χ x)) x (.ins C c [])) (λv m=>v=.Y/\Q (.C x) m) E):
  wpAny (Ag X.γ X.w) X.A (call (.C C) us) (EP X a I Q) X.xe s:=by
 let g:=h (s.o.E.y+1) s.o.E.y (B.Ϣ.Κ (Nat.le_succ _)) (B.Ϣ.Κ (A9 _)) rfl
 let d:=Inv.made (C:=C) B
 let i:Aq (V.C (s.o.E.y+1)::(vs++dvs)) (Di (s.o.E.y+1)::(us++ds)):=.Η rfl (r.ψ hd)
 let n:(Di (s.o.E.y+1)::us++ds).a=ps.a:=by
  let e:=i.a
  rw[F.Ϫ _ _ _ _ g]at e
  show e.Ρ
 apply wpAny_call (pv (f:=f) B.kIn M.makes M.init (beq_iff_eq.mp M.fn) (codeAny_mono (F.run _ X.Ϛ _ _ #[Di (s.o.E.y+1)::us,[]] (Di (s.o.E.y+1)::(us++ds)) _ _ E (j.make C us [])
  (d.env0.make C us []) (hb _ (Di (s.o.E.y+1)::us) d.kIn n) i g) λr o b=>?_))
 cases r with
 |error e=>show l a I _ _ e o d b
 |ok p=>
  cases p with
  |ret u=>
   let(v,q,t,y,z,q3):=d.after b
   subst z
   show#[y,#[V.C (s.o.E.y+1),q,t,rfl,q3]]
  |next=>show B0 b
  |brk=>show B0 b
  |cont=>show B0 b
def
pL(M:Mk X.K C f)(F:AW X.γ X.w X.K X.mg X.φ CX k f fd ps sp)(i:AH (k+1) X.A)(j:Gl X x)(l:X.mg x=Z (.C C))(hb:Binds X.K fd ps ds)(hd:Aq dvs ds)(m:EK CX X E)
  (n:PA X (e::es) t) (b:⇑(DC x)) (o:↑(AL (e::es) X.G=(O',An e X.G)::AL es X.G)) (c:↑((AD pos (AL es X.G)).any (·.1)=O')):
  PE X (.Θ (.ε x p) (e::es) [] pos) (pJ C sp dvs E t):=by
 intro a s u H Q d h
 show La (Ry d j l (PySem.W.callWith_K (h₀:=X.φ) d.ok.mod.kin M.kp (A0 (n pos a s u H _ d h) λv y ⟨z,B,g,r,q⟩=>#[g.kIn,pK M F i hb hd m g r q]) o c) b)
end
def PK(X:Cx)(b:U Em)(t:TA):V':=
 ∀(pos:Aw) (a:A1) (s:Ab) (c:St) (H:Hp) (Q:U V->Hp->V'),Inv X a c H s->t c H Q->wpAny (Ag X.γ X.w) X.A (evalAll ((GI pos (GJ b X.G)).j (·.2))) (AP X a c Q) X.xe s
variable {k:Y}{f:Ac}{x m:Ae}{p:Aw}{e:Expr}{kws:U Em}{t:TA}{nm:O Ae}
def
Yh:PK X [] MK:=λ_ _ _ _ H Q a h=>wpAny_evalAll_nil #[[],H,a,.Ϝ,h]
def
Yi(c:PE X e te)(d:PK X kws t):PK X (#[nm,e,kpos]::kws) (Yg te t):=by
 intro pos a s b H Q v h
 show wpAny_evalAll_cons (Al (A0 (c a s b H _ v h) λu f ⟨x,g,i,j,k⟩=>Al (wpAny_standAt (AO (A0 (d pos a f b g _ i k) λq r ⟨l,m,n,o,p⟩=>#[x::l,m,n,.Η j o,p])))))
end
structure Ff(N P:List Ae)(sc:Scope):V' where
 kind:sc.ϱ=.Ϧ
 co:sc.isCoroutine=O'
 gen:sc.isGenerator=O'
 nd:N.ι
 pre:N.ύ P.a=P
 par:∀x∈P,sc.υ.X x=Z .ϓ\/sc.υ.X x=Z .Ξ
 nofree:∀y∈sc.υ,y.2≠.Φ
def
Yj{kindOf:Ae->O Gg}{x:Ae}:∀{a:U (Ae×Aa)}{m:BE},(∀v,(x,v)∉a)->bindL kindOf a m x=m x
 |[],_,_=>rfl
 |(n,v)::r,m,h=>by
  unfold bindL
  rw[Yj λw b=>h w (A5 _ b)]
  split
  .have:x≠n:=by rintro rfl;show h v A6
   simp[this]
  .rfl
def
Yk{kindOf:Ae->O Gg}{x:Ae}:∀{a:U (Ae×Aa)}{m:BE},(∀v,(x,v)∉a)->bindC kindOf a m x=m x
 |[],_,_=>rfl
 |(n,v)::r,m,h=>by
  unfold bindC
  rw[Yk λw b=>h w (A5 _ b)]
  split
  .rfl
  .grind [A6]
def
Yl{kindOf:Ae->O Gg}{x:Ae}{v:Aa}:∀{P:U Ae}{vs:U Aa}{i:Y}{m:BE},P.ι->P[i]?=Z x->vs[i]?=Z v->kindOf x=Z .ϓ ->
  bindL kindOf (P.zip vs) m x=Z v
 |[],_,_,_,_,h,_,_=>by simp at h
 |_::_,[],_,_,_,_,h,_=>by simp at h
 |p::P,w::vs,0,m,nd,h1,h2,a=>by
  simp at h1 h2;subst h1;subst h2
  change bindL kindOf ((p,w)::P.zip vs) m p=_
  unfold bindL
  rw[Yj λv b=>(FA.mp nd).1 (MM b).1,if_pos a]
  simp
 |p::P,w::vs,i+1,m,nd,h1,h2,a=>by
  unfold bindL
  show Yl (i:=i) (FA.mp nd).2 (by exists h1) (by exists h2) a
def
Ym{kindOf:Ae->O Gg}{x:Ae}{v:Aa}:∀{P:U Ae}{vs:U Aa}{i:Y}{m:BE},P.ι->P[i]?=Z x->vs[i]?=Z v->kindOf x≠Z .ϓ ->
  bindC kindOf (P.zip vs) m x=Z v
 |[],_,_,_,_,h,_,_=>by simp at h
 |_::_,[],_,_,_,_,h,_=>by simp at h
 |p::P,w::vs,0,m,nd,h1,h2,a=>by
  simp at h1 h2;subst h1;subst h2
  change bindC kindOf ((p,w)::P.zip vs) m p=_
  unfold bindC
  rw[Yk λv b=>(FA.mp nd).1 (MM b).1,if_neg a]
  simp
 |p::P,w::vs,i+1,m,nd,h1,h2,a=>by
  unfold bindC
  show Ym (i:=i) (FA.mp nd).2 (by exists h1) (by exists h2) a
def GK(N:U Ae)(vs:U V):St:=vs.j Z++En (N.a-vs.a) J
def DE(CX:DR)(P:AR)(w:Ai)(K:Am)(mg:BE)(base:Ak)(N:U Ae)(a:Ae)(scope:Scope)(f:Ac)(c:Aa)(A:Af)(outer:U Env)(s:Ab)(H:Hp)(E:XK):Cx where
 prog:=P
 w:=w
 K:=K
 mg:=mg
 base:=base
 A:=A.Ϩ (Bj a scope s.o.E.y f c)
 N:=N
 s₀:=s
 H₀:=H
 env:=Bj a scope s.o.E.y f c
 outer:=outer
 stack:=Bj a scope s.o.E.y f c::outer
 ex:=[]
 calm:=J'
 fn:=λ_=>J'
 pn:=[]
 xe:=λe d=>wpAny (Ag P w) (A.Ϩ (Bj a scope s.o.E.y f c)) (leaving (Bj a scope s.o.E.y f c) e) (λ_ b=>CX outer H s E e b) (λg b=>CX outer H s E g b) d
def
Yn{a:Scope}{n:Y}{x:Ae}(h:a.υ.X x=Z .Ξ):∃c,(cellsFrom n a.υ []).X x=Z c:=by
 let q:=PySem.W.cellsFrom_some a.υ n [] (.S h)
 show RV.mp q
def
pM{P:AR}{w:Ai}{K:Am}{mg:BE}{base:Ak}{N:U Ae}{d:Ae}{f:Ac}{B:Aa}{A:Af}{outer:U Env}{s C:Ab}{E:XK}{us:U Aa}
  (S:Ff N ps scope) (hd:A.ϛ=J) (g:CM P w K mg base A outer s H) (F:vs.a=ps.a) (r:Aq vs us)
  (x:InCallC s s.o.E.y (bindL (Bj d scope s.o.E.y f B).ϵ (ps.zip us) λ_=>J) (cellsFrom (s.o.E.y+1) scope.υ []) (bindC (Bj d scope s.o.E.y f B).ϵ (ps.zip us) λ_=>J) C):
  Inv (DE CX P w K mg base N d scope f B A outer s H E) [] (GK N vs) H C:=by
 let L:ps.a<=N.a:=by have:=congrArg List.a S.pre;rw[List.length_take]at this;lia
 let(h1,Q,rfl,G):=x.done
 let j:∀b:Ac,b∉(DE CX P w K mg base N d scope f B A outer s H E).ex:=λb z=>absurd (show b∈([]:U Ac)from z) (by simp)
 apply#[#[g.mod,S.ϱ,rfl,rfl,A9 _,λy z c h1 h2=>?_,λy l=>?_,λy c _ h=>?_,λ_=>hd,Around.frames_deeper g.frames,.τ #[rfl,rfl],λb z=>absurd z (j b),g.bs,g.bsz,λb _ _=>j b,λb z=>absurd z (j b),g.funs,g.frf],
  rfl,g.bare,Un.ϟ G,#[_,x.toInCall.ns,λi y v h1 h2 T=>?_],λy c h=>#[_,x.Ξ y c h],g.Ϣ.Κ (A9 _),λy c h=>?_,λp m=>absurd (show p∈([]:A1)from m) (by simp),g.Ϣ.ϟ G,?_]
 .show name_of_addr x.apart (Ka h1) (Ka h2)
 .rcases l with l|l
  .show Yn l
  .show absurd rfl (S.nofree _ (Ka l))
 .show Nat.Ϸ (x.above y c (Ka h))
 .let o:i<vs.a:=by
   unfold GK at h2
   by_cases o:i<vs.a
   .show o
   .rw[GN (by exists o),Kb]at h2
    split at h2<;>ext h2
  let M:vs[i]?=Z v:=by
   unfold GK at h2
   rw[FC (by exists o),DF]at h2
   cases e:vs[i]? with
   |none=>rw[e]at h2;cases h2
   |some a=>rw[e]at h2;ext h2;rfl
  let(u,W,R):=r.Ι M
  let m:ps[i]?=Z y:=by
   rw[<- S.pre,List.getElem?_take_of_lt (Nat.lt_of_lt_of_eq o F)];show h1
  let t:ps.ι:=S.pre ▸ S.nd.sublist (List.take_sublist _ _)
  apply#[u,R,?_]
  rcases S.par y (GO m)with k|k
  .show .S #[k,Yl t m W k]
  .let(c,e):=Yn (n:=s.o.E.y+1) k
   apply .τ #[.S k,c,e,?_]
   let q:=x.Ξ y c e
   rw[Ym t m W (by change scope.υ.X y≠_;rw[k];decide)]at q
   show q
 .show g.Ϣ.Κ (Nat.Ϸ (x.above y c (Ka h)))
 .unfold GK
  change _=N.a
  rw[D2,Bu,Lb]
  lia
def
pN{P:AR}{w:Ai}{K:Am}{mg:BE}{base:Ak}{k:Y}{f:Ac}{name a:Ae}{d:Arguments}{g:U AE}{T kV m X c ct oc:Aa}{Y' od:O Ac}
  {B:Array (O Aa)}{N:U Ae} {sp:Sp} (lk:K.X f=Z #[oc,od,.func (Jm name a d g scope T kV m X Y' c ct),B]) (C:PySem.W.codeIn K c a=J') (S:Ff N ps scope)
  (len:∀vs H Q E,sp vs H Q E->vs.a=ps.a)
  (i:∀(A:Af) (outer:U Env) (s:Ab) (H:Hp) (vs:U V) (Q:VK) (E:XK),AH k (A.Ϩ (Bj a scope s.o.E.y f c))->sp vs H Q E ->
   ∃t,Fd (DE CX P w K mg base N a scope f c A outer s H E) g t/\t {nx:=λ_ H'=>Q .Y H',rt:=Q} (GK N vs) H):
  AW P w K mg base CX (k+1) f (Jm name a d g scope T kV m X Y' c ct) ps sp:=by
 apply#[len,λA outer s H args us vs Q E G p hb r z=>?_]
 let hl:=len _ _ _ _ z
 let KX:K.In s.o:=p.mod.kin.keeps λb o e=>(p.bs b o e).1
 let L:s.o.NoLimit:=p.mod.nolimit.keeps λb o e=>(p.bs b o e).1
 let j:∀y∈ps.zip us,scope.υ.X y.1=Z .ϓ\/(scope.υ.X y.1=Z .Ξ/\((cellsFrom (s.o.E.y+1) scope.υ []).X y.1).μ=J'):=λ⟨n,v⟩ hy=>by
  rcases S.par n (MM hy).1 with q|q
  .show .S q
  .show .τ #[q,PySem.W.cellsFrom_some _ _ _ (.S q)]
 apply codeAny_call_function G.depth (KX _ _ lk) rfl S.co S.gen rfl (PySem.W.codeRec_of KX C) (hb _ _ _ _ ?_)
 apply wpAny_newFunctionEnv_cells S.ϱ j λenv he s1 x=>?_
 subst he
 apply#[L.keeps x.toInCall.keep,codeAny_func ?_]
 let(t,ht,hq):=i A outer s H vs Q E (G.Ϩ _) z
 let zA:Inv (DE CX P w K mg base N a scope f c A outer s H E) [] (GK N vs) H s1:=pM S G.hd p hl r x
 apply wpAny_mono (ht [] s1 (GK N vs) H _ zA hq) (λfl M l=>?_) λe M l=>l
 let fin:∀{h:St} {H':Hp} {v:V} {u:Aa},Inv (DE CX P w K mg base N a scope f c A outer s H E) [] h H' M->RelV v u->Q v H'->CE outer P w H s Q u M:=
  λ{h H' v u} F R q=>#[v,H',F.os,F.bare,F.φ,F.Ϣ,R,q]
 cases fl with
 |ret u=>
  let(v,h,H',F,R,q):=l
  show fin F R q
 |next=>
  let(h,H',F,q):=l
  show fin (v:=V.Y) (u:=Value.σ) F rfl q
 |brk=>
  let(_,_,_,q):=l
  show B0 q
 |cont=>
  let(_,_,_,q):=l
  show B0 q
variable {x:Ae}{p:Aw}{e:Expr}{t:TA}{id T:String}{r:U V->Hp->VK->V'}
def OX(r:U V->Hp->VK->V')(t:TA):TE:=λa H Q=>t a H λb c=>r b c Q
def
Yo(f:D8 X (.ρ id) r)(g:Gl X x)(i:X.mg x=J)(j:Eh x=Z (.ρ id))(k:PA X (e::es) t)(l:⇑(x≠"__name__"))(b:⇑(DC x))
  (m:↑(AL (e::es) X.G=(O',An e X.G)::AL es X.G)) (c:↑((AD pos (AL es X.G)).any (·.1)=O')):PE X (.Θ (.ε x p) (e::es) [] pos) (OX r t):=by
 intro a s d H Q z h
 show La (GD z g i j (PyProof.Rows.callWith_builtin1 (A0 (k pos a s d H _ z h) λn o ⟨q,u,v,w,y⟩=>f a o d u q n Q v w y) m c) l b)
def
Yp(f:D8 X (.ζ T) r)(g:Gl X x)(i:X.mg x=J)(j:Eh x=Z (.ζ T))(k:PA X (e::es) t)(l:⇑(x≠"__name__"))(b:⇑(DC x))
  (m:↑(AL (e::es) X.G=(O',An e X.G)::AL es X.G)) (c:↑((AD pos (AL es X.G)).any (·.1)=O')):PE X (.Θ (.ε x p) (e::es) [] pos) (OX r t):=by
 intro a s d H Q z h
 show La (GD z g i j (K7 (A0 (k pos a s d H _ z h) λn o ⟨q,u,v,w,y⟩=>f a o d u q n Q v w y) m c) l b)
end
end Internal
variable{H H' H0:Internal.Hp}{X Y':Internal.Cx}{I:Internal.St}{vs ys:U Internal.V}{us:U (U Internal.At×Ac×Aa)}{CX:Internal.DR}{ta tb te:Internal.TE}{wi:Internal.TI}{th:U Internal.At->U Internal.At}
namespace HT
open PySem PyProof.Rows
def
rcLt_int(A:Af)(s:Ab)(a:W')(t:Tok)(c:W')(u:Tok)(prog:AR)(w:Ai)(E:AQ)(Q:AQ)(h:Q (.ϝ (decide (a<c))) s):
  wpAny (Ag prog w) A (richCompare .Lt (.r a t) (.r c u)) Q E s:=
 (PyProof.Rows.lt_int h:wpAny (Ag prog w) A (DD .Lt (.r a t) (.r c u)) Q E s)
variable {prog:AR}{w:Ai}{A:Af}{s:Ab}
def sIx(n d:Y):O W'->Y
 |none=>d
 |some v=>if v<0 then(v+(n:W')).Β else min v.Β n
def
Yq(v:W')(n d:Y):(if v<0 then max (v+(n:W')) 0 else min v (n:W'))=((sIx n d (Z v):Y):W'):=by
 show(if v<0 then max (v+(n:W')) 0 else min v (n:W'))=(((if v<0 then(v+(n:W')).Β else min v.Β n):Y):W')
 grind
def
pO(lo a:O W')(n:Y):Yr lo a 1 (n:W')=(((sIx n 0 lo:Y):W'),((sIx n n a:Y):W')):=by
 unfold Yr
 apply Prod.ext ?_ ?_
 .cases lo with
  |none=>rfl
  |some v=>show Yq v n 0
 .cases a with
  |none=>rfl
  |some v=>show Yq v n n
def
pP(i j:Y):RW (i:W') (j:W') 1=j-i:=by
 unfold RW
 grind
def
Ys{v:Aa}{o:O W'}{Q:O W'->Ab->V'}(p:IsPart v o)(h:Q o s):wpAny (Ag prog w) A (Builtin.Slice.slicePartIndex v) Q E s:=by
 cases p with
 |none=>show slicePart_none h
 |int i t=>show slicePart_int h
def
pQ{f:Ac}{d e:Aa}{lo a:O W'}{n:Y}{Q:W'×W'×Y->Ab->V'}(g:s.o.IsSliceOf f d e .σ)(pl:IsPart d lo)(i:IsPart e a)
  (h:Q (((sIx n 0 lo:Y):W'),1,sIx n n a-sIx n 0 lo) s):wpAny (Ag prog w) A (Builtin.Slice.sliceApplied (.C f) (Ax (n:W'))) Q E s:=by
 let(os,b,j,c):=id g
 apply Al (Al (Eu b c (x:=d) rfl (Al (Eu b c (x:=e) rfl (Al (Eu b c (x:=.σ) rfl (AO ?_)))))))
 apply Al (slicePart_none ?_)
 apply Al (Ys pl (Al (Ys i (Al (AO ?_)))))
 change wpAny _ _ (match Yr lo a 1 (n:W')with|(lo,a)=>Ax (lo,(1:W'),RW lo a 1)) _ _ s
 rw[pO lo a n]
 change wpAny _ _ (Ax (((sIx n 0 lo:Y):W'),(1:W'),RW ((sIx n 0 lo:Y):W') ((sIx n n a:Y):W') 1)) _ _ s
 rw[pP]
 show AO h
def
pR(xs:Array Aa)(i k:Y):((Bf k).gV λ(m:Y)=>xs[((i:W')+(m:W')*1).Β]?).I=((xs.R.Ν i).ύ k).I:=by
 let e:(λ(m:Y)=>xs[((i:W')+(m:W')*1).Β]?)=λm=>xs[i+m]?:=by
  grind
 have:=pick_run xs i k
 let a:((λx=>xs[x]?)∘λx=>i+x)=λm=>xs[i+m]?:=rfl
 simp_all
def
getItem_tuple_cut{t f:Ac}{g i:Aa}{lo a:O W'}{Q:AQ}(ht:IsTup s.o t items)(j:s.o.IsSliceOf f g i .σ)(pl:IsPart g lo)(n:IsPart i a)
  (o:sIx items.y 0 lo=0/\sIx items.y items.y a=items.y->Q (.C t) s)
  (h:¬ (sIx items.y 0 lo=0/\sIx items.y items.y a=items.y)->Q (.C s.o.E.y) {s with heap:=s.o.Μ {cls:=.ζ "tuple",data:=.ϰ ((items.R.Ν (sIx items.y 0 lo)).ύ (sIx items.y items.y a-sIx items.y 0 lo)).I} })
  (hsz:items.y<=Az):wpAny (Ag prog w) A (getItem (.C t) (.C f)) Q E s:=by
 let(os,c,d,p):=id j
 unfold getItem
 try with_reducible apply Fv ?_
 apply Al (wpAny_sequenceKey ht.ϖ (by ext) ?_)
 apply Al (Kc (name:=EL "__getitem__") ht.ϖ PyProof.Rows.slot_tuple_getitem
  (Jn PyProof.Rows.slot_tuple_getitem ht.ϖ entry_tuple_getitem ?_ (args_tuple_getitem _ _)))
 change wpAny _ _ (Builtin.oo.tupleItemsOf (.C t) >>= _) _ _ s
 apply Al (tupleItemsOf_ ht ?_)
 apply Al (Lc #[os,c,d] ?_)
 apply Al (pQ j pl n ?_)
 change wpAny _ _ (if(((sIx items.y 0 lo:Y):W')==0&&(1:W')==1&&(sIx items.y items.y a-sIx items.y 0 lo)==items.y)=J' then _ else _) _ _ s
 by_cases l:sIx items.y 0 lo=0/\sIx items.y items.y a=items.y
 .let b:((((sIx items.y 0 lo:Y):W')==0&&(1:W')==1&&(sIx items.y items.y a-sIx items.y 0 lo)==items.y)=J'):=by
   simp_all
  rw[if_pos b]
  show Al (Al (Lc ht.ϖ (AO (Al (Ix (AO #[_,rfl,AO (o l)]))))))
 .let e:¬ ((((sIx items.y 0 lo:Y):W')==0&&(1:W')==1&&(sIx items.y items.y a-sIx items.y 0 lo)==items.y)=J'):=by
   simp_all
  rw[if_neg e,pR]
  show Al (m:=Builtin.oo.tupleExact _) (Ke (AO #[_,rfl,AO (h l)]) (BX ((List.take_sublist _ _).J (List.drop_sublist _ _)).length_le hsz))
end
end HT
namespace Internal
open PySem PySem.Spec PyProof.Rows
abbrev TO:=St->Hp->(O W'->Hp->V')->V'
def PO(X:Cx)(e:O Expr)(t:TO):V':=
 ∀(a:A1) (s:Ab) (b:St) (H:Hp) (Q:O W'->Hp->V'),Inv X a b H s->t b H Q ->
  wpAny (Ag X.γ X.w) X.A (evalPart e X.G) (λu d=>∃o c,Inv X a b c d/\IsPart u o/\Q o c) X.xe s
def pS:TO:=λ_ H Q=>Q J H
def pT(t:TE):TO:=λa H Q=>t a H λx b=>∃i,x=.r i/\Q (Z i) b
def
MN{ns:U W'}:∀{us:U Aa},Aq (ns.j V.r) us->IntsAre us ns:=by
 induction ns with
 |nil=>intro us r;rw[Dv]at r;ext r;show .Ϝ
 |cons n ns a=>
  intro us r
  cases r with
  |cons b c=>
   let(t,rfl):=b
   show .Η n t (a c)
variable {e:Expr}{lo hi:O Expr}{tl th:TO}
def
pU:PO X J pS:=by
 intro a s b H Q c h
 show AO #[J,H,c,.σ,h]
def
pV(h:PE X e te):PO X (Z e) (pT te):=by
 intro a s b H Q l c
 apply A0 (h a s b H _ l c) λu k d=>?_
 let(x,f,g,j,i,rfl,q):=d
 let(t,rfl):=j
 show#[Z i,f,g,.r i t,q]
def Jo(X:Cx)(r:V->O W'->O W'->Hp->VK->V'):V':=
 ∀(a:A1) (s:Ab) (b:St) (H:Hp) (x:V) (v c d:Aa) (lo hi:O W') (e:Ac) (Q:VK),Inv X a b H s->RelV x v->s.o.IsSliceOf e c d .σ->IsPart c lo->IsPart d hi->r x lo hi H Q ->
  ∃T id,typeLookup (.ζ T) "__getitem__"=Ax (Z (.ρ id))/\s.TypeIs v T/\wpAny (Ag X.γ X.w) X.A (getItem v (.C e)) (EP X a b Q) X.xe s
def
Jo.or{r b:V->O W'->O W'->Hp->VK->V'}(h:Jo X r)(h':Jo X b):Jo X (λx lo hi H Q=>r x lo hi H Q\/b x lo hi H Q):=by
 intro a s c H x v d e lo hi f Q l g i j k q
 rcases q with q|q
 .show h a s c H x v d e lo hi f Q l g i j k q
 .show h' a s c H x v d e lo hi f Q l g i j k q
def pW(r:V->O W'->O W'->Hp->VK->V')(te:TE)(tl th:TO):TE:=λa H Q=>te a H λx b=>tl a b λl c=>th a c λu d=>r x l u d Q
def
pX{r:V->O W'->O W'->Hp->VK->V'}(j:Jo X r)(k:PE X e te)(m:PO X lo tl)(n:PO X hi th):PE X (.Δ e (.Slice lo hi J p2) pos) (pW r te tl th):=by
 intro a s d H Q R h
 apply Subscript_ (A0 (k a s d H _ R h) λv o ⟨x,p,t,y,z⟩=>?_)
 apply wpAny_Slice (A0 (m a o d p _ t z) λf B ⟨l,C,E,G,F⟩=>A0 (n a B d C _ E F) λg c ⟨u,i,L,M,q3⟩=>?_)
 rw[evalPart_none]
 apply AO ?_
 let N:Inv X a d i {c with heap:=c.o.Μ {cls:=.ζ "slice",data:=.ϊ (T' [f,g,.σ])} }:=L.ϟ (t':=c.ω) λb ob q=>Bg _ q
 let(T,id,K,ht,P):=j a {c with heap:=c.o.Μ {cls:=.ζ "slice",data:=.ϊ (T' [f,g,.σ])} } d i x v f g l u c.o.E.y Q N y (Heap.IsSliceOf.new ..) G M q3
 change wpAny (Ag X.γ X.w) X.A (subscriptTail e (.Slice lo hi J p2) v (.C c.o.E.y)) (EP X a d Q) X.xe {c with heap:=c.o.Μ {cls:=.ζ "slice",data:=.ϊ (T' [f,g,.σ])} }
 show tail_any (ops:=[.C c.o.E.y,v]) ht K P (by with_unfolding_all rfl)
def Iy(xs:U V)(lo hi:O W'):U V:=(xs.Ν (HT.sIx xs.a 0 lo)).ύ (HT.sIx xs.a xs.a hi-HT.sIx xs.a 0 lo)
def
Yt(xs:U V)(lo hi:O W'):(Iy xs lo hi).a<=xs.a:=((List.take_sublist _ _).J (List.drop_sublist _ _)).length_le
end
def FD(n:Y)(i:W'):O Y:=if 0<=i then(if i<n then Z i.Β else J)else if -(n:W')<=i then Z (i+n).Β else J
def atI{a:Type}(xs:U a)(i:W'):O a:=(FD xs.a i).L λj=>xs[j]?
def
pY{n:Y}{i:W'}{j:Y}(h:FD n i=Z j):seqIndex? i n=Z j/\j<n /\ -(n:W')<=i/\i<n:=by
 unfold FD at h
 by_cases a:0<=i
 .rw[if_pos a]at h
  by_cases h1:i<n
  .rw[if_pos h1]at h
   show#[by rw[seqIndex_of a h1,Fc h],∅,∅,h1]
  .rw[if_neg h1]at h;ext h
 .rw[if_neg a]at h
  by_cases h1 : -(n:W')<=i
  .rw[if_pos h1]at h
   show#[by rw[seqIndex_neg (Int.lt_of_not_ge a) h1,Fc h],∅,h1,∅]
  .rw[if_neg h1]at h;ext h
def
RX{a:Type}{xs:U a}{i:W'}{v:a}(h:atI xs i=Z v):∃j,seqIndex? i xs.a=Z j/\xs[j]?=Z v/\j<xs.a /\ -(xs.a:W')<=i/\i<xs.a:=by
 unfold atI at h
 cases e:FD xs.a i with
 |none=>rw[e]at h;cases h
 |some j=>
  rw[e]at h
  let(h1,h2,b,c):=pY e
  show#[j,h1,h,h2,b,c]
def
Ev{a:Type}{xs:U a}{j:Y}{v:a}(h:xs[j]?=Z v):atI xs (j:W')=Z v:=by
 let b:j<xs.a:=(BR.mp h).1
 let e:FD xs.a (j:W')=Z j:=by
  unfold FD
  rw[if_pos ∅,if_pos ∅];simp
 unfold atI;rw[e];show h
def MO(b:Expr):V':=∀o i,subscripted b O' o i=operate [o,i] (getItem o i)
def Hk(X:Cx)(r:R2):V':=
 ∀(b slice:Expr) (a:A1) (s:Ab) (c:St) (H:Hp) (x y:V) (v u:Aa) (Q:VK),Inv X a c H s->RelV x v->RelV y u->r x y H Q ->
  subscripted slice O' v u=operate [v,u] (getItem v u)->wpAny (Ag X.γ X.w) X.A (subscriptTail b slice v u) (EP X a c Q) X.xe s
def Kf(X:Cx)(id:String)(r:V->U V->Hp->VK->V'):V':=
 ∀(a:A1) (s:Ab) (b:St) (H:Hp) (x:V) (c:U V) (v:Aa) (d:U Aa) (Q:VK),Inv X a b H s->RelV x v->Aq c d->r x c H Q ->
  wpAny (Ag X.γ X.w) X.A (call (.ρ id) (v::d)) (EP X a b Q) X.xe s
variable {a b:Expr}
def
Hk.or{r c:R2}(h:Hk X r)(h':Hk X c):Hk X (λx y H Q=>r x y H Q\/c x y H Q):=by
 intro a slice b s d H x y v u Q i e f q g
 rcases q with q|q
 .show h a slice b s d H x y v u Q i e f q g
 .show h' a slice b s d H x y v u Q i e f q g
def
pZ{r:R2}(d:Hk X r)(e:PE X a ta)(hb:PE X b tb)(f:MO b):PE X (.Δ a b pos) (K8 r ta tb):=by
 intro c s g H Q n h
 show Subscript_ (RL e hb n h λv u i x y j k l m q=>d a b c i g j x y v u Q k l m q (f _ _))
def Yu(K:Am):R2:=λx y H Q=>∃p a i v,x=.C p/\y=.r i/\BV K H p a/\atI a i=Z v/\Q v H
def Yv(K:Am):R2:=λx y H Q=>∃p a i v,x=.C p/\y=.r i/\Cf K H p a/\atI a i=Z v/\Q v H
def Yw:R2:=λx y H Q=>∃z i c,x=.Α z/\y=.r i/\z.a<=Az/\atI z.ϐ.R i=Z c/\Q (.Α #[(T' [c])]) H
def
Iz:Hk X (Yu X.K):=by
 rintro d slice a s l H x y v u Q P m n ⟨p,F,i,z,rfl,rfl,o,A,q⟩ h
 ext m
 let(t,rfl):=n
 let(e,r,f,L):=P.Ϥ o
 let(j,h1,h2,M,B,C):=RX A
 let(w,k,b):=r.Ι h2
 let E:=r.a
 let N:=OT
 by_cases c:0<=i
 .let g:i.Β=j:=by
   rw[seqIndex_of c C]at h1
   show Fc h1
  show item_listR f.Ω c ∅ (by rw[g];exists k) #[z,H,P,b,q] h
 .let g:(i+(e.I.y:W')).Β=j:=by
   rw[seqIndex_neg (Int.lt_of_not_ge c) B]at h1
   rw[Ca,<- E]
   show Fc h1
  show subscriptTail_builtinR (x:=w) f.Ω.ϖ slot_list_getitem.X
   (wpAny_getItem_list_neg (Q:=λr G=>r=w/\EP X a l Q r G) f.Ω (Int.lt_of_not_ge c) (by rw[Ca]<;>lia) ∅ (by rw[g];exists k) #[rfl,#[z,H,P,b,q]]) h
def
Kg:Hk X (Yv X.K):=by
 rintro b slice a s e H x y v u Q L f g ⟨p,A,i,z,rfl,rfl,h,k,q⟩ l
 ext f
 let(t,rfl):=g
 let(m,r,d,B):=L.Ϙ h
 let(j,h1,h2,C,E,G):=RX k
 let(w,n,c):=r.Ι h2
 let F:=OT
 show subscriptTail_builtinR (x:=w) d.ϖ slot_tuple_getitem.X
  (getItem_tuple (j:=j) (Q:=λr o=>r=w/\EP X a e Q r o) d ∅ ∅ (by rw[Ca,<- r.a];show h1) (by exists n) #[rfl,#[z,H,L,c,q]]) l
def
p5:Hk X Yw:=by
 rintro a slice b s l H x y v u Q r d e ⟨z,i,c,rfl,rfl,m,f,q⟩ g
 let(t,rfl):=d
 let(n,rfl):=e
 let(j,h1,h2,o,h,k):=RX f
 rw[show z.ϐ.R.a=z.a by simp[Str.length]]at h1 h k
 let p:=OT
 show tail_any (typeIs_str s z t) slot_str_getitem.X (getItem_str (c:=c) (by
  grind) (by rw[h1];exists h2) #[.Α #[(T' [c])],H,r.tok _,#[_,rfl],q]) g
def Yx(K:Am):R2:=λx y H Q=>Yu K x y H Q\/Yv K x y H Q\/Yw x y H Q
def
p6:Hk X (Yx X.K):=Iz.or (Kg.or p5)
def
p7(lo a:O W')(n:Y):(BY lo a J n).1=((HT.sIx n 0 lo:Y):W')/\(BY lo a J n).2.1=((HT.sIx n n a:Y):W')/\(BY lo a J n).2.2=1:=by
 apply#[?_,?_,rfl]
 .cases lo with
  |none=>simp[BY,HT.sIx]
  |some i=>
   erw[BY,HT.sIx,Option.getD_none,show(1:W')>0 by ext,if_true]
   grind
 .cases a with
  |none=>simp[BY,HT.sIx]
  |some i=>
   erw[BY,HT.sIx,Option.getD_none,show(1:W')>0 by ext,if_true]
   grind
def
p8(a:U Aa)(lo b:O W'):slicePick a.I lo b J=((a.Ν (HT.sIx a.a 0 lo)).ύ (HT.sIx a.a a.a b-HT.sIx a.a 0 lo)).I:=by
 let(h1,h2,c):=p7 lo b a.I.y
 unfold slicePick
 rw[h1,h2,c]
 erw[sliceRange_one,pick_run,Ca]<;>rfl
def p9(K:Am):V->O W'->O W'->Hp->VK->V':=λx lo c H Q=>∃a b,x=.C a/\BV K H a b/\∀p,H p=J->Q (.C p) (AX H p (.U (Iy b lo c)))
def
IA:Jo X (p9 X.K):=by
 intro f s n H x v p t lo e u Q w g h i j zQ;let(a,c,rfl,k,q):=zQ
 ext g
 let(l,r,ht,m):=w.Ϥ k
 let d:=r.a
 apply#["list",_,slot_list_getitem.X,ht.Ω.ϖ,?_]
 apply wpAny_getItem_list_slice ht.Ω h i j .σ (by simp) ?_ (by rw[Ca]<;>lia)
 rw[p8,<- d]
 apply#[.C s.o.E.y,_,w.laid (t':=s.ω) (o:=.U (Iy c lo e)) (λb y q=>Bg _ q) (A9 _) ?_,rfl,q _ (w.Ϣ.Κ (A9 _))]
 show#[BX (Yt c lo e) m,_,0,(r.Ν (HT.sIx c.a 0 lo)).ύ (HT.sIx c.a c.a e-HT.sIx c.a 0 lo),B7 _ rfl]
def Yy:V->jp
 |.non=>J'
 |.bl _=>J'
 |.int _=>J'
 |.str _=>J'
 |_=>O'
def qa:V->V->jp
 |.non,.non=>J'
 |.bl a,.bl b=>a==b
 |.bl a,.int b=>(if a then 1 else 0)==b
 |.int a,.bl b=>a==(if b then 1 else 0)
 |.int a,.int b=>a==b
 |.str a,.str b=>a==b
 |_,_=>O'
def
qb:D8 X (.ζ "list") (λxs H Q=>∃p ys,xs=[.C p]/\(BV X.K H p ys\/Cf X.K H p ys)/\∀l,H l=J->Q (.C l) (AX H l (.U ys))):=by
 intro g s v H xs z Q A r zQ;let(p,ys,rfl,h,q):=zQ
 let(u,rfl,x):=El r
 ext x
 let fin:∀(a:U Aa),Aq ys a->ys.a<=Az->∀(c:Ak) (d:Y),(∀b t,s.o.Q b=Z t->c.Q b=Z t) ->
   c.Q s.o.E.y=Z {cls:=.ζ "list",dict:=J,data:=.ϰ a.I d,slots:=(T' [])}->EP X g v Q (.C s.o.E.y) {s with heap:=c}:=λa f i c d kp e=>
  #[.C s.o.E.y,_,A.laid (t':=s.ω) kp (A9 _) (show Be X.γ X.w _ c _ (.U ys)from#[i,a,d,f,e]),rfl,q _ (A.Ϣ.Κ (A9 _))]
 rcases h with h|h
 .let(a,f,y,i):=A.Ϥ h
  let j:=f.a
  let(o,k,m,n,hd):=y.Ω
  show call_list_seq p (.S rfl) k m hd (λc d kp e=>fin a f i c d kp e) (by erw[Ca]<;>lia)
 .let(a,f,(o,k,m,n,hd),i):=A.Ϙ h
  let j:=f.a
  show call_list_seq p (.τ rfl) k m hd (λc d kp e=>fin a f i c d kp e) (by erw[Ca]<;>lia)
def
qc:D8 X (.ζ "tuple") (λxs H Q=>∃p ys,xs=[.C p]/\((BV X.K H p ys/\∀l,H l=J->Q (.C l) (AX H l (.O ys)))\/(Cf X.K H p ys/\Q (.C p) H))):=by
 intro g s t H xs v Q k r h
 let(p,ys,rfl,h):=h
 let(u,rfl,m):=El r
 ext m
 rcases h with⟨c,q⟩|⟨c,q⟩
 .let(a,d,f,i):=k.Ϥ c
  let j:=d.a
  show call_tuple_list f.Ω (λn kp=>#[.C n.E.y,_,((k.ϟ (t':=s.ω) kp).laid (t':=s.ω) (λb o e=>Bg _ e) (A9 _) (show Be X.γ X.w _ _ _ (.O ys)from#[i,a,d,IsTup.new _ _])),rfl,q _ ((k.ϟ (t':=s.ω) kp).Ϣ.Κ (A9 _))]) (by erw[Ca]<;>lia)
 .let(a,d,f,i):=k.Ϙ c
  show call_tuple_same f #[.C p,H,k,rfl,q]
def OY(K:Am)(T:String)(x:V)(H:Hp):V':=match x with
 |.str _=>T="str"
 |.int _=>T="int"
 |.ref p=>(T="list"/\∃a,BV K H p a)\/(T="tuple"/\∃o,K.X p=Z o/\o.cls=.ζ "tuple"/\o.dict=J) \/
   (T="dict"/\(∃b c,Rd H p (.dct b c)))
 |_=>False
def
Yz{b:A1}{s:Ab}{T:String}{x:V}{v:Aa}(q:Inv X b I H s)(r:RelV x v)(ty:OY X.K T x H):
  s.TypeIs v T/\∀a,v=.C a->∃f,s.o.Q a=Z f/\f.dict=J:=by
 cases x with
 |str z=>
  let(t,rfl):=r
  cases(show T="str" from ty)
  show#[typeIs_str s z t,λ_ e=>nomatch e]
 |int i=>
  let(t,rfl):=r
  cases(show T="int" from ty)
  show#[typeIs_int s i t,λ_ e=>nomatch e]
 |ref p=>
  ext r
  rcases ty with⟨rfl,m,h⟩|⟨rfl,o,d,j,hd⟩|⟨rfl,_,_,d⟩
  .let(k,_,g,_):=q.Ϥ h
   apply#[g.Ω.ϖ,λa e=>?_]
   ext e
   let(o,n,e,c,hd,_):=g
   show#[o,e,hd]
  .apply#[#[o,q.kIn p o d,j],λa e=>?_]
   ext e
   show#[o,q.kIn _ o d,hd]
  .let(_,_,_,o,_,_,e,ex,_):=d.ok q.Ϣ
   apply#[#[o,e,ex.1],λa l=>?_]
   ext l
   show#[o,e,ex.2.1]
 |_=>show B0 ty
def qd(K:Am)(T:String)(r:V->U V->Hp->VK->V')(to:TE)(t:TA):TE:=λa H Q=>to a H λx b=>OY K T x b/\t a b λc d=>r x c d Q
variable{e:Expr}{to:TE}{t:TA}{name:Ae}{T id:String}{r:V->U V->Hp->VK->V'}
def
Jp(m:PlainAttrs T)(slot:Slot T name id)(g:typeOf (.ρ id)=Ax (.ζ "method_descriptor"))(n:Kf X id r)(p:PE X o to)(q:PA X (e::es) t)
  (c:↑(FV o name X.G (An o X.G)=An o X.G))
  (f:↑(((AD cpos (AL (e::es) X.G)).ϔ (λx=>!x.1)&&(GI cpos (GJ [] X.G)).ϔ (λx=>x.1.μ)
   && decide ((e::es).a+([]:U Em).a+(if([]:U Em).Χ then 0 else 1)<30))=J'))
  (d:↑((apos.϶==cpos.ϥ)=J')) (u:↑(AL (e::es) X.G=(O',An e X.G)::AL es X.G)) (b:↑((AD cpos (AL es X.G)).any (·.1)=O')):
  PE X (.Θ (.δ o name apos) (e::es) [] cpos) (qd X.K T r to t):=by
 intro a s i H Q N h
 apply wpAny_Call_method_late c f d rfl (A0 (p a s i H _ N h) λv w y=>?_)
 let(x,z,j,k,ty,A):=y
 let(h1,h2):=Yz j k ty
 apply#[T,id,m,slot,g,h1,h2,?_]
 let l:=q cpos a w i z _ j A
 rw[u]at l ⊢
 show Calls.callWith_builtin (by show(O'||(AD cpos (AL es X.env)).any (·.1))=O';rw[b]<;>rfl) (Calls.evalArgs_plain (A0 l λB C ⟨E,G,F,L,M⟩=>n a C i G x E v B Q F k L M))
end
def OZ(X:Cx)(id:String)(r:V->U V->Hp->VK->V'):V':=
 ∀(a:A1) (s:Ab) (b:St) (H:Hp) (x:V) (c:U V) (v:Aa) (d:U Aa) (Q:VK),Inv X a b H s->RelV x v->Aq c d->r x c H Q ->
  wpAny (Ag X.γ X.w) X.A (call (.ρ id) (v::d)) (EP X a b Q) X.xe s
def
Aq.one{x:V}{us:U Aa}(h:Aq [x] us):∃u,us=[u]/\RelV x u:=by
 cases h with
 |cons r t=>ext t;show#[_,rfl,r]
def
Aq.two{x y:V}{us:U Aa}(h:Aq [x,y] us):∃u v,us=[u,v]/\RelV x u/\RelV y v:=by
 cases h with
 |cons r t=>
  cases t with
  |cons q t=>ext t;show#[_,_,rfl,r,q]
def
Aq.eraseIdx:∀{xs:U V}{us:U Aa}(i:Y),Aq xs us->Aq (xs.ϧ i) (us.ϧ i)
 |_,_,_,.nil=>.Ϝ
 |_,_,0,.cons _ t=>t
 |_,_,i+1,.cons r t=>.Η r (Aq.ϧ i t)
def
YA{a:Type}:∀(l:U a)(i:Y),(l.ϧ i).a<=l.a
 |[],_=>A9 _
 |_::_,0=>Nat.le_succ _
 |_::r,i+1=>Ld (YA r i)
variable {s:Ab}{l b:Ac}{xs:U V}
def
Inv.lset{a its':U Aa}{n:Y}{f:Array Aa->Array Aa}(i:Inv X pins I H s)(b:H l=Z (.U xs))
  (e:s.o.Q l=Z {cls:=.ζ "list",data:=.ϰ a.I n}) (c:f a.I=its'.I) (d:Aq ys its') (hz:ys.a<=Az):
  Inv X pins I (AX H l (.U ys)) {s with heap:=s.o.ϭ l (GP f),toks:=t' }:=by
 let q:=PySem.IsL.ϭ e f
 rw[c]at q
 apply i.write (x:=l) (e:=l) (b ▸ trivial) (.S rfl) (λh u hb g=>(Heap.get?_update_other s.o (GP f) (BF hb)).J g) #[_,q] ?_
 show#[hz,its',_,d,q]
def
Inv.lnew{a:U Aa}(c:Inv X pins I H s)(b:Aq ys a)(hz:ys.a<=Az):
  Inv X pins I (AX H s.o.E.y (.U ys)) {s with heap:=s.o.Μ {cls:=.ζ "list",data:=.ϰ a.I},toks:=t' }:=
 c.laid (λ_ _ q=>Bg _ q) (A9 _) #[hz,a,0,b,B7 _ rfl]
def
Inv.fresh(a:Inv X pins I H s):H s.o.E.y=J:=a.Ϣ.Κ (A9 _)
def
Inv.lstM(c:Inv X pins I H s)(b:H l=Z (.U xs)):xs.a<=Az/\∃(a:U Aa)(n:Y),Aq xs a/\xs.a=a.a/\s.o.Q l=Z {cls:=.ζ "list",data:=.ϰ a.I n}:=by
 let(z,a,n,r,e):=c.Ϣ l _ b
 show#[z,a,n,r,r.a,e]
def
qe{n:Y}(h:n<=Az):YB n=O':=by
 unfold YB
 show decide_eq_false ∅
end
section
def qf:V->U V->Hp->VK->V':=λx b H Q=>∃l a y,x=.C l/\b=[y]/\H l=Z (.U a)/\a.a<Az/\Q .Y (AX H l (.U (a++[y])))
def
YC:OZ X "list.append" qf:=by
 intro b s j H x k v m Q d f g h
 let(l,o,y,rfl,rfl,c,p,q):=h
 ext f
 let(u,rfl,i):=g.one
 let(z,a,n,r,t,e):=d.lstM c
 apply call_meets F.ϳ #[_,e,rfl] F.entry_list_append (F.args_list_append_2 _ _) (PySem.list_append l a.I n u (by rw[Ca];lia)) #[e,?_]
 apply#[.Y,_,d.lset (its':=a++[u]) c e (by simp) (r.ψ (.Η i .Ϝ)) ?_,rfl,q]
 rw[D2,Le]
 lia
def qg:V->U V->Hp->VK->V':=λx d H Q=>∃l b a c,x=.C l/\d=[.C b]/\H l=Z (.U a)/\H b=Z (.U c)/\a.a+c.a<=Az/\Q .Y (AX H l (.U (a++c)))
def
qh:OZ X "list.extend" qg:=by
 intro g s A H x B v C Q K j k zQ;let(l,b,E,G,rfl,rfl,h,m,o,q):=zQ
 ext j
 let(u,rfl,p):=k.one
 ext p
 let(z,c,n,r,i,e):=K.lstM h
 let(z2,a,n2,t,w,y):=K.lstM m
 let d:c.I.y+a.I.y<=Az:=by rw[Ca,Ca];lia
 let f:¬ (!c.toArray.isEmpty&&YB (c.I.y+a.I.y))=J':=by
  rw[qe d,Bool.and_false]
  show MA
 apply call_meets F.slot_list_extend #[_,e,rfl] F.entry_list_extend (F.args_list_extend_2 _ _)
  (AutoSeq1.list_extend_list_list_0 l c.I n b a.I n2 f (Ca ▸ RY d) (Lf d)) #[e,y,?_]
 apply#[.Y,_,K.lset (its':=c++a) h e (by simp) (r.ψ t) ?_,rfl,q]
 rw[D2]
 show W.kdl_size o
end
end Internal
namespace Att
open PySem PySem.W PySem.Calls PyProof.Rows
def
qi{P:Params}{h:Ak}:∀(ns:U W')(vs:U Aa),WellAll P h vs (ns.j WData.r)->IntsAre vs ns:=by
 intro ns
 induction ns with
 |nil=>
  intro vs w
  ext w
  show .Ϝ
 |cons n ns c=>
  intro vs w
  cases w with
  |cons a b=>
   ext a
   show .Η _ _ (c _ b)
def
qj{l:OpenLaw}{n:Y}(p:l.most=Z n){P:Params}{h:Ak}{args:U WData}{Zo:U Aa}
  (b:l.row.toRowW.claim.pre args=J') (f:WellAll P h Zo args):
  ∃a vs ns,Zo=[Di a]/\args=[WData.Ϥ (ns.j WData.r)]/\h.Q a=Z {cls:=.ζ "list",data:=.ϰ vs.I}/\IntsAre vs ns/\ns.a<=n:=by
 let i:l.pre.holds [] {args:=args}=J':=(pre_splitW b).2
 let(d,r,rfl,h1,h2):=hasAllW_cons ((pre_splitW b).1)
 obtain rfl:=hasAllW_nil h2
 let(q,rfl,j):=hasW_list h1
 let(ns,rfl):=items_int j
 let c:ns.a<=n:=by
  let g:(WTm.not (.lt (.lit (.r n)) (.Ϫ (.arg 0)))).holds [] {args:=[.Ϥ (ns.j .r)]}=J':=by
   let g:=(holds_andW i).1
   grind
  let s:=condW_of g (w_not (w_lt w_lit (w_len_list (w_arg rfl))))
  simp_all
 cases f with
 |cons k m=>
  ext m
  cases k with
  |list o e=>show#[_,_,ns,rfl,rfl,o,qi ns _ e,c]
def
qk(l:OpenLaw)(args:U WData):l.row.toRowW.claim.post args (.ϝ J') args=J':=
 postW_of (r:=l.row.toRowW) (X:=(J'==J'))
  (show WShape.has [] (.ϝ J') .ϝ=J' by rfl)
  (show(WTm.eq .res (.lit (.ϝ J'))).value [] {args:=args,res:=Z (.ϝ J'),after:=args}=Z (.ϝ (J'==J'))from w_eq_bool (w_res rfl) w_lit) rfl
def
attach_call{l:OpenLaw}{n:Y}{q:AR}{c:U Ae}{z:(BE)->Ak->V'}{A:Ai->Ak->V'}{d:DefRec}
  (E:l.most=Z n) (s:d.ϯ.defaults=[])
  (call:∀(w:Ai) (s₀ b:Ab) (mg t:BE) (h:Ac) (o:Obj) (u m e:Aa) (a:Ac) (vs:U Aa) (ns:U W'),
   Ground q c [] z w s₀ mg t b.o->A w b.o ->
   b.o.Q h=Z o->o.data=.func (docDef d.name d.ϯ d.body d.Γ u m e)->b.o.CodeRec m d.name->mg d.name=Z (.C h) ->
   b.o.Q a=Z {cls:=.ζ "list",data:=.ϰ vs.I}->IntsAre vs ns->ns.a<=n->b.g9=(T' []) ->
   codeAny (Ag l.γ w) callerA (.call (.C h) #[[.C a],[]]) (λr p=>r=.ok (.Ϻ (.ϝ J'))/\OldK b.o p.o/\p.os=b.os/\AllBare p.g9) b):
  WalkO q c z A l.row.toRowW d [] (λf vs=>PySem.call f vs):=by
 intro w s₀ b mg t G Y' h o u m e H kV R hd v B x F args Zo P i C L y M
 obtain rfl:H=.σ:=Dflts.σ B s
 obtain rfl:kV=.σ:=Dflts.noKw B
 let(a,vs,ns,rfl,rfl,j,g,k):=qj E i y
 apply enter_call (codeAny_mono (call w s₀ b mg t h o u m e a vs ns G Y' R (fd_plain hd) v x j g k F) λr p N=>?_)
 let(rfl,h2,K,Q):=N
 show#[.S #[.ϝ J',.ϝ J',[],rfl,λ_=>rfl,.ϝ J',qk l _,λ_=>#[List.ϩ.Ϝ,λ_ T=>(nomatch T)]],h2,K,Q]
end Att
namespace Internal
open PySem PySem.Spec PyProof.Rows
def
YD{vs:U Aa}{ns:U W'}(h:IntsAre vs ns):Aq (ns.j V.r) vs:=by
 induction h with
 |nil=>show .Ϝ
 |cons n t _ a=>show .Η #[t,rfl] a
def RZ(H:Hp):V':=∀b,H b=J\/∃o a,H b=Z (.frz o (.U a))
def
ql{P:AR}{w:Ai}{K:Am}{mg G:BE}{k:Y}{X:Ac}{fd:Cj}{x:Ae}{sp:Sp}{c:Ab}{vs:U Aa}{ns:U W'}
  (T:K.In c.o) (j:c.o.Ns CJ mg) (hb:c.o.Ns builtinsNs G) (R:∀x:Ae,x≠"__name__"->G x=Eh x) (l:c.o.NoLimit) (hg:c.g9=(T' []))
  (E:c.o.Q a=Z {cls:=.ζ "list",data:=.ϰ vs.I}) (W:IntsAre vs ns) (Y':ns.a<=Az) (hr:AH k callerA)
  (F:∀base:Ak,K.In base->base.Ns CJ mg->AW P w K mg base CX k X fd [x] sp) (i:∀(s:Ab) (u:Aa),BindsTo s fd #[[u],[]] [(x,u)])
  (L:∀H:Hp,RZ H->BV K H a (ns.j V.r)->sp [.C a] H (λv _=>v=.bl J') λ_ _ _=>False)
  (M:∀H e f,CX [] H c (λ_ _ _=>False) e f->False):
  codeAny (Ag P w) callerA (.call (.C X) #[[.C a],[]]) (λr f=>r=.ok (.Ϻ (.ϝ J'))/\OldK c.o f.o/\f.os=c.os/\AllBare f.g9) c:=by
 let rv:=YD W
 let p:=W.a
 let core:∀H:Hp,RZ H->BV K H a (ns.j V.r)->CH P w H c.o->(∀b,H b≠J->b=a)->(H a≠J->K.X a=J) ->
   codeAny (Ag P w) callerA (.call (.C X) #[[.C a],[]]) (λr f=>r=.ok (.Ϻ (.ϝ J'))/\OldK c.o f.o/\f.os=c.os/\AllBare f.g9) c:=by
  intro H hO hS hok hA hK
  let base_of:∀{b:Ac} {o:Obj},c.o.Q b=Z o->H b=J->(Ir c.o H).Q b=Z o:=λe n=>nA e n
  let N:∀{b:Ac} {o:Obj} {t:Array Iq} {y:Y},c.o.Q b=Z o->o.data=.dict t y->H b=J:=λ{b o t y} e d=>by
   cases q:H b with
   |none=>rfl
   |some u=>
    let S:b=a:=hA b (by rw[q];simp)
    subst S
    rw[E]at e;ext e
    let d':Data.ϰ vs.I _=Data.dict t y:=d
    ext d'
  let g:∀{b:Ac} {m:Ae->O Aa},c.o.Ns b m->(Ir c.o H).Ns b m:=λ{b m} ⟨o,t,y,e,d,r⟩=>#[o,t,y,base_of e (N e d),d,r]
  let A:K.In (Ir c.o H):=λb o e=>base_of (T b o e) (by
   cases q:H b with
   |none=>rfl
   |some u=>
    let S:b=a:=hA b (by rw[q];simp)
    subst S
    rw[hK (by rw[q];simp)]at e;ext e)
  let hM:Mod K mg (Ir c.o H):=#[A,g j,#[G,g hb,R],let⟨mc,h1,h2⟩:=l;#[mc,g h1,h2]]
  let e0:CM P w K mg (Ir c.o H) callerA [] c H:=#[rfl,hM,λb o e=>nB e,K9 (nz _ _),trivial,λb hb=>absurd (show b∈([]:U Ac)from hb) (by simp),hok,.of_eq hg]
  apply codeAny_mono ((F _ A (g j)).run callerA [] c H #[[.C a],[]] [.C a] [.C a] _ _ hr e0 (i c (.C a)) (.Η rfl .Ϝ) (L H hO hS)) λr f h=>?_
  cases r with
  |error e=>show(M H e f h).Ζ
  |ok fl=>
   cases fl with
   |next=>show B0 h
   |brk=>show B0 h
   |cont=>show B0 h
   |ret u=>
    let(v,H',os,bare,un,B,r',q):=h
    let q':v=.bl J':=q
    subst q'
    obtain rfl:u=Value.ϝ J':=r'
    apply#[rfl,OldK.of_keep λb o e=>?_,os,bare]
    cases q:H b with
    |none=>show un.keep b o e q (by intro z;show absurd (show b∈([]:U Ac)from z) (by simp)) (by simp)
    |some u=>
     rcases hO b with z|⟨ob,xs,z⟩
     .rw[q]at z;ext z
     .let z2:=un.frzs b ob _ z
      let(e1,_):=hok b _ z
      let(e2,_):=B b _ z2
      rw[e]at e1;ext e1
      show e2
 cases Q:K.X a with
 |some o=>
  let e:=T a o Q
  rw[E]at e
  ext e
  apply core (λ_=>J) (λ_=>.S rfl) (.τ #[_,vs.I,_,Q,rfl,rfl,rfl,by rw[Ca,p];show Y',by exists rv]) (λb u z=>by have C:(J:O HO)=Z u:=z;ext C) (λb z=>absurd rfl z) λz=>absurd rfl z
 |none=>
  apply core (λb=>if b=a then Z (.frz {cls:=.ζ "list",data:=.ϰ vs.I} (.U (ns.j V.r)))else J) (λb=>?_) (.S (.τ #[{cls:=.ζ "list",data:=.ϰ vs.I},if_pos rfl])) (λb u z=>?_) (λb z=>?_) λ_=>Q
  .by_cases hb:b=a
   .show .τ #[_,_,if_pos hb]
   .show .S (if_neg hb)
  .by_cases hb:b=a
   .let C:=(if_pos hb).Ρ.J z
    ext C
    subst hb
    show#[E,by rw[Bu];show Y',vs,_,rv,E]
   .let C:=(if_neg hb).Ρ.J z
    ext C
  .by_cases hb:b=a
   .show hb
   .show absurd (if_neg hb) z
def
walk_of{l:PySem.W.OpenLaw}{n k:Y}{q:AR}{i:U Ae}{P:(BE)->Ak->V'}{E:Ai->Ak->V'}{d:DefRec}{K:Params->Am}{CX:Ai->DR}{sp:Ai->Sp}{x:Ae}
  (L:l.most=Z n) (t:n<=Az) (y:d.ϯ.defaults=[]) (M:AH k callerA)
  (N:∀(w:Ai) (h:Ak),E w h->(K w.ϯ).In h)
  (F:∀(w:Ai) (mg:BE) (r:Ac) (h:Ak),(K w.ϯ).In h->h.Ns CJ mg->mg d.name=Z (.C r) ->
   ∃fd:Cj,(∀(s:Ab) (u:Aa),BindsTo s fd #[[u],[]] [(x,u)]) /\
    ∀base:Ak,(K w.ϯ).In base->base.Ns CJ mg->AW l.γ w (K w.ϯ) mg base (CX w) k r fd [x] (sp w))
  (z:∀(w:Ai) (H:Hp) (a:Ac) (ns:U W'),ns.a<=n->RZ H->BV (K w.ϯ) H a (ns.j V.r)->sp w [.C a] H (λv _=>v=.bl J') λ_ _ _=>False)
  (A:∀(w:Ai) (H:Hp) (s:Ab) (e:Aa) (B:Ab),CX w [] H s (λ_ _ _=>False) e B->False):
  PySem.W.WalkO q i P E l.row.toRowW d [] (λf vs=>PySem.call f vs):=by
 apply Att.attach_call L y λw s₀ m mg mb r o pm cd R a vs ns G Y' ho hd Q C p j c S=>?_
 let X:=N w _ Y'
 let(fd,hb,hF):=F w mg r _ X G.T.g C
 show ql X G.T.g G.T.b G.T.builtins G.T.nolimit S p j (BX c t) M hF hb (λH hO hS=>z w H a ns c hO hS) λH e B=>A w H m e B
def FW(s:AE)(j:Y):AE:=match s with
 |.ClassDef _ _ _ a _ _ _ _ _ _ _=>a.B j (.Pass #[0,0,0,0])
 |_=>.Pass #[0,0,0,0]
def HK(s:AE):Arguments:=match s with
 |.FunctionDef _ a _ _ _ _ _ _ _ _=>a
 |_=>{posonlyargs:=[],args:=[],vararg:=J,kwonlyargs:=[],kw_defaults:=[],kwarg:=J,defaults:=[]}
def ZT(s:AE):U AE:=match s with
 |.FunctionDef _ _ b _ _ _ _ _ _ _=>b
 |_=>[]
def Zk(s:AE):Scope:=match s with
 |.FunctionDef _ _ _ _ _ _ a _ _ _=>a
 |_=>{kind:=.Ϧ,names:=[],isGenerator:=O',isCoroutine:=O'}
abbrev Bm:DR:=λ_ _ _ _ _ _=>False
abbrev E0:XK:=λ_ _ _=>False
def
Gi:EK Bm X E0:=λ_ _ _ _ _ _ _ h=>h.Ζ
structure Jq(K:Am)(x qual:Ae)(st:AE)(f:Ac)(fd:Cj):V' where
 ex:∃(oc:Aa) (od:Option Ac) (kV doc pm:Aa) (an:Option Ac) (cdv ct:Aa) (osl:Array (Option Aa)),
  fd=Jm x qual (HK st) (ZT st) (Zk st) .σ kV doc pm an cdv ct/\K.X f=Z #[oc,od,.func fd,osl]/\PySem.W.codeIn K cdv qual=J'
 kp:HI K (.C f)=J'
variable {P:AR}{w:Ai}{K:Am}{mg:BE}{base:Ak}
def
Jq.ok{x a:Ae}{st:AE}{f:Ac}{fd:Cj}{N:U Ae}{k:Y}{sp:Sp}(F:Jq K x a st f fd)(S:Ff N ps (Zk st))(len:∀vs H Q E,sp vs H Q E->vs.a=ps.a)
  (c:∀(b:Aa) (A:Af) (outer:U Env) (s:Ab) (H:Hp) (vs:U V) (Q:VK) (E:XK),AH k (A.Ϩ (Bj a (Zk st) s.o.E.y f b))->sp vs H Q E ->
   ∃t,Fd (DE Bm P w K mg base N a (Zk st) f b A outer s H E).nox (ZT st) t/\t {nx:=λ_ H'=>Q .Y H',rt:=Q} (GK N vs) H):AW P w K mg base Bm (k+1) f fd ps sp:=by
 let(m,n,kV,g,o,p,b,ct,i,rfl,j,d):=F.ex
 apply pN j d S len λA outer s H vs Q E l e=>?_
 let(t,h,q):=c b A outer s H vs Q E l e
 show#[t,h.nox,q]
def
YE{x a:Ae}{st:AE}{f:Ac}{i:Aa}{j g:O Ac}{e:Array (O Aa)}{kV d h b ct:Aa}(l:K.X f=Z #[i,j,.func (Jm x a (HK st) (ZT st) (Zk st) .σ kV d h g b ct),e])
  (c:PySem.W.codeIn K b a=J') (k:HI K (.C f)=J'):Jq K x a st f (Jm x a (HK st) (ZT st) (Zk st) .σ kV d h g b ct):=#[#[i,j,kV,d,h,g,b,ct,e,rfl,l,c],k]
end
def Aj(H H':Hp):V':=∀b o,H b=Z o->H' b=Z o
def
Aj.refl(H:Hp):Aj H H:=λ_ _ h=>h
def
Aj.trans{d e:Hp}(a:Aj H d)(b:Aj d e):Aj H e:=λc o h=>b c o (a c o h)
def
Aj.free(e:Aj H H'){l:Ac}(h:H' l=Option.σ):H l=Option.σ:=by
 cases q:H l with
 |none=>rfl
 |some o=>
  rw[e l o q]at h
  ext h
def
Aj.seq{K:Am}{xs:U V}(e:Aj H H')(h:BV K H a xs):BV K H' a xs:=by
 rcases h with(h|⟨o,h⟩)|h
 .show .S (.S (e _ _ h))
 .show .S (.τ #[o,e _ _ h])
 .show .τ h
structure NV(X:Cx)(i:Y)(x:Ae):V' where
 n:X.N[i]?=Z x
 v:OE X.G.Γ x
 d:DC x
 c:(x==("__classdict__":Ae))=O'
def
Ew{i:Y}{x:Ae}(n:↑(X.N[i]?=Z x))(v:OE X.G.Γ x:=by first|show Or.S rfl|show Or.τ (Or.S rfl)|show Or.τ (Or.τ rfl))(d:⇑(DC x))(c:⇑((x==("__classdict__":Ae))=O')):NV X i x:=#[n,v,d,c]
def
GQ{i:Y}{x:Ae}(h:NV X i x):PE X (.ε x pos) (XH i):=nG h.n h.v h.d h.c
def EM(env:Env):U (Ae×Gg)->U (Ae×Ac)->U (Ae×Ac)
 |[],a=>a
 |(n,k)::r,a=>if k=Hl then EM env r ((n,(env.Ϟ.X n).B 0)::a)else EM env r a
def
YF{env:Env}(h:∀x∈scope.υ,x.2=.Φ->∃c,env.Ϟ.X x.1=Z c):
  closureFor scope env=Ax (EM env scope.υ []):=by
 let all:∀(l:U (Ae×Gg)) (b:U (Ae×Ac)),(∀x∈l,x.2=.Φ->∃c,env.Ϟ.X x.1=Z c) ->
   (forIn l b (λ(x:Ae×Gg) (b:U (Ae×Ac))=>if(x.2==Hl)=J' then(do let a <- cellOf env x.1;Ax (ForInStep.yield ((x.1,a)::b)))else Ax (ForInStep.yield b)):Sem (U (Ae×Ac)))=Ax (EM env l b):=by
  intro l
  induction l with
  |nil=>intro b _;rfl
  |cons x l i=>
   intro b e
   let(n,k):=x
   rw[List.forIn_cons]
   let f:=λb=>i b (λy j=>e y (A5 _ j))
   by_cases d:k=.Φ
   .subst d
    let(c,g):=e (n,.Φ) A6 rfl
    erw[beq_self_eq_true,if_true,show cellOf env n=Ax c by unfold cellOf;erw[g],pure_bind,f,EM,g,O0]
   .erw[show(k==Hl)=O' by simpa using d,Fg,if_false,pure_bind,f,EM,d]
 have:=all scope.υ [] h
 erw[closureFor]
 rw[<- bind_pure (Ax (EM env scope.υ []):Sem _),<- this]
def
R5{env:Env}:∀(l:U (Ae×Gg))(cs:U (Ae×Ac)),(∀x∈l,x.2=.Φ->∃c,env.Ϟ.X x.1=Z c) ->
  (∀p∈cs,env.Ϟ.X p.1=Z p.2)->∀p∈EM env l cs,env.Ϟ.X p.1=Z p.2
 |[],cs,_,h=>h
 |(n,k)::r,cs,b,h=>by
  let d:∀x∈r,x.2=.Φ->∃c,env.Ϟ.X x.1=Z c:=λy g=>b y (A5 _ g)
  by_cases f:k=.Φ
  .subst f
   let(c,i):=b (n,.Φ) A6 rfl
   erw[EM,if_true]
   apply R5 r _ d λp a=>?_
   rcases Bl.mp a with e|a
   .subst e;erw[i,O0]
   .show h p a
  .erw[EM,f,if_false]
   show R5 r cs d h
def
R6{env:Env}:∀(l:U (Ae×Gg))(cs:U (Ae×Ac))(x:Ae),((x,Hl)∈l\/∃c,(x,c)∈cs)->∃c,(x,c)∈EM env l cs
 |[],cs,x,h=>by
  rcases h with h|h
  .cases h
  .show h
 |(n,k)::r,cs,x,h=>by
  by_cases a:k=.Φ
  .subst a
   erw[EM,if_true]
   apply R6 r _ x ?_
   rcases h with h|⟨c,h⟩
   .rcases Bl.mp h with e|h
    .cases e;show .τ #[_,A6]
    .show .S h
   .show .τ #[c,A5 _ h]
  .erw[EM,a,if_false]
   apply R6 r cs x ?_
   rcases h with h|h
   .rcases Bl.mp h with e|h
    .cases e;show absurd rfl a
    .show .S h
   .show .τ h
def
YG{a:Type}:∀{l:U (Ae×a)}{x:Ae}{c:a},(x,c)∈l->∃d,l.X x=Z d
 |[],_,_,h=>by cases h
 |(n,b)::r,x,c,h=>by
  rw[MP]
  cases e:x==n with
  |true=>show#[b,rfl]
  |false=>
   rcases Bl.mp h with z|h
   .cases z;simp at e
   .show YG h
structure Jr(own outs:List Ae)(sc osc:Scope):V' where
 kind:sc.ϱ=.Ϧ
 nocell:∀x∈sc.υ,x.2≠.Ξ
 free:∀x∈sc.υ,x.2=.Φ->osc.υ.X x.1=Z .Ξ\/osc.υ.X x.1=Z .Φ
 loc:∀x∈sc.υ,x.2=.ϓ->sc.υ.X x.1=Z .ϓ
 out:∀x∈outs,sc.υ.X x=Z .Φ
 nd:(own++outs).ι
def
CP{env:Env}:∀{names:U (Ae×Gg)}{x:Ae},names.X x=Z .Φ ->
  ((names.j λ(n,k)=>if(k==Hl&&env.Γ.ϱ==.Ϧ&&env.ϵ n==Z .Ξ)then(n,MQ)else(n,k)).X x=Z .Ξ \/
    (names.j λ(n,k)=>if(k==Hl&&env.Γ.ϱ==.Ϧ&&env.ϵ n==Z .Ξ)then(n,MQ)else(n,k)).X x=Z .Φ)
 |[],_,h=>by simp at h
 |(n,k)::r,x,h=>by
  let b:=@CP env r x
  rw[AT]
  by_cases c:(k==Hl&&env.Γ.ϱ==.Ϧ&&env.ϵ n==Z .Ξ)=J'
  .rw[show(match((n,k):Ae×Gg)with|(n,k)=>if(k==Hl&&env.Γ.ϱ==.Ϧ&&env.ϵ n==Z .Ξ)then(n,MQ)else(n,k))=(n,MQ)from if_pos c]
   rw[MP]at h ⊢
   cases a:x==n with
   |true=>show .S rfl
   |false=>rw[a]at h;show b h
  .rw[show(match((n,k):Ae×Gg)with|(n,k)=>if(k==Hl&&env.Γ.ϱ==.Ϧ&&env.ϵ n==Z .Ξ)then(n,MQ)else(n,k))=(n,k)from if_neg c]
   rw[MP]at h ⊢
   cases a:x==n with
   |true=>rw[a]at h;show .τ h
   |false=>rw[a]at h;show b h
def
Co{env:Env}:∀{names:U (Ae×Gg)}{x:Ae}{k:Gg},k=.Ξ\/k=.Φ->(∀y∈names,y.2≠.Ξ) ->
  (names.j λ(n,k)=>if(k==Hl&&env.Γ.ϱ==.Ϧ&&env.ϵ n==Z .Ξ)then(n,MQ)else(n,k)).X x=Z k->(x,Hl)∈names
 |[],_,_,_,_,h=>by simp at h
 |(n,j)::r,x,k,a,b,h=>by
  let d:=@Co env r x k a λy c=>b y (A5 _ c)
  grind
def Dk(X:Cx)(own a:U Ae)(scope:Scope)(C:Ac)(c:Ab)(d:Hp)(e:U Ac)(b:A1):Cx where
 prog:=X.γ
 w:=X.w
 K:=X.K
 mg:=X.mg
 base:=X.φ
 A:=X.A
 N:=own++a
 s₀:=c
 H₀:=d
 env:=compEnvC scope (EM X.G scope.υ []) C X.G
 outer:=X.Ϛ
 stack:=X.Ϛ
 ex:=e
 fn:=λ_=>O'
 calm:=X.Ϭ
 pn:=X.pn++b
 xe:=λ_ _=>False
def Hm(X:Cx)(b:U Expr)(e:TT):V':=
 ∀(a:A1) (s:Ab) (d:St) (H:Hp) (Q:jp->Hp->V'),Inv X a d H s->e d H Q ->
  wpAny (Ag X.γ X.w) X.A (forIn b J' λc r=>if r=J' then do let ok <- isTrue c X.G (An c X.G);Ax (ForInStep.yield ok)else Ax (ForInStep.yield r)) (TP X a d Q) X.xe s
def qm:TT:=λ_ H Q=>Q J' H
def
qo:Hm X [] qm:=λ_ _ _ H _ a h=>wpAny_tests_nil #[H,a,h]
def
qp{c:Expr}{b:TT}(h:PT X c b):Hm X [c] b:=λa s d H Q e q=>wpAny_tests_one (h a s d H Q e q)
def Fh(k:Y)(oix:U Y)(I:St):St:=En k J++oix.j λj=>(I[j]?).join
def R7(k:Y)(oix:U Y)(g:TG)(l:TT)(m:TE)(r:It)(I:St)(H:Hp)(Q:VK):V':=
 ∃(n:Y) (W:Y->U V->Hp->V'),W 0 [] H/\∀i c d,W i c d ->
  (r.stop i d/\c.a<=Az/\∀p,d p=J->Q (.C p) (AX d p (.U c))) \/
  (r.go i d/\i<n/\c.a<Az/\∃N:U V->Hp->V',(∀e f,N e f->W (i+1) e f)/\∀x h,r.yld i d x h->g x (Fh k oix I) h λa o=>a.Ν k=(Fh k oix I).Ν k /\
   l a o λb j=>if b=J' then m a j λy q=>N (c++[y]) q else N c j)
def MR(k:Y)(oix:U Y)(wi:TI)(g:TG)(b:TT)(c:TE):TE:=λa H Q=>wi a H λe d=>R7 k oix g b c e a d Q
def FY(a:U Aa)(n:Y):Obj:={cls:=.ζ "list",data:=.ϰ a.I n}
def
CH.track{P:AR}{w:Ai}{h:Ak}{o:HO}(x:CH P w H h)(d:H a=J)(new:Be P w (AX H a o) h a o):CH P w (AX H a o) h:=λb u e=>by
 by_cases hb:b=a
 .grind [Z5]
 .rw[Zt hb]at e
  show(x b u e).stay (λc v _ q=>q) (λc q=>Zt (Z3 q d) ▸ q) λc f q=>Zt (Z3 q d) ▸ q
def
YH{f:A1}{R:Hp}{a:Ab}{P:It}{L:U Ac}{it:Ac}
  {own H:U Ae} {oix:U Y} {g:TG} {tt:TT} {Q:VK}
  (S:Jr own H scope X.G.Γ) (hox:oix.j (λj=>X.N[j]?)=H.j Z) (hc:X.Ϭ=J')
  (hg:∀C a R L f,PG (Dk X own H scope C a R L f) tg g)
  (ht:∀C a R L f,Hm (Dk X own H scope C a R L f) ifs tt)
  (he:∀C a R L f,PE (Dk X own H scope C a R L f) elt te)
  (B:Inv X f I R a) (T:Hi X.γ X.w X.K tg P L it tn) (st:tn 0 a.o) (f2:∀b∈L,Gf X f R b)
  (h:R7 own.a oix g tt te P I R Q)
  (hRR:∀(C:Ac) (s':Ab) (m:BE) (H':Hp),s'.o.Ns C m->Inv X f I H' s'->H' C=J->C≠X.G.ϒ->X.s₀.o.E.y<=C ->
   (∀x c,X.G.Ϟ.X x=Z c->c≠C)->(∀p∈X.pn++f,p.1≠C)->Q (.C a.o.E.y) H'->RR (.C a.o.E.y) C (.ok .β) s'):
  wpAny (Ag X.γ X.w) X.A (newList []) (λacc s₃=>wpAny (Ag X.γ X.w) X.A (newFunctionEnv scope X.G.globals (EM X.G scope.υ []) [] X.G.qual J .σ (Z X.G)) (λcenv s₄=>
   codeAny (Ag X.γ X.w) X.A (.compStart (.Τ elt [#[tg,iter,ifs,0]] scope pos) 0 (.C it) acc {cenv with scope:=relabel scope X.G}) (RR acc cenv.ϒ) s₄) E s₃) E a:=by
 let(n,W,w0,turn):=h
 apply Ke (wpAny_newFunctionEnv S.nocell (by intro y hy;simp at hy) (λh₁ M zB=>?_) S.ϱ)
 generalize hP:a.o.Μ {cls:=.ζ "list",dict:=J,data:=.ϰ ([]:U Aa).I}=t at M zB ⊢
 let hC:t.E.y=a.o.E.y+1:=by rw[<- hP,FU]
 generalize hCC:t.E.y=C at M zB hC ⊢
 let hDC:a.o.E.y≠C:=hC ▸ B6 (Nat.lt_succ_self _)
 let G:a.o.E.y<C:=hC ▸ Nat.lt_succ_self _
 let old:∀b o,a.o.Q b=Z o->h₁.Q b=Z o:=λb o e=>
  zB.α b o (B6 (Gj (BK e) G)) (Bg _ (hP ▸ Bg _ e))
 let zA:∀x c,(EM X.G scope.υ []).X x=Z c->X.G.Ϟ.X x=Z c:=λx c e=>
  R5 scope.υ [] (λx hx hf=>B.ok.has x.1 (S.Φ x hx hf)) (λp t=>by ext t) (x,c) (Ka e)
 let clHas:∀x,(x,Hl)∈scope.υ->∃c,(EM X.G scope.υ []).X x=Z c:=λx hx=>by
  let(c,hc):=R6 (env:=X.G) scope.υ [] x (.S hx)
  show YG hc
 let fpLt:∀b∈L,b<a.o.E.y:=λb hb=>by
  let(o,e,_):=T.obj 0 _ st b hb
  show BK e
 let cLt:∀x c,X.G.Ϟ.X x=Z c->c<a.o.E.y:=λx c e=>by
  let(v,q):=B.Ξ x c e
  show q.lt
 let fpStk:∀b∈L,b∉EG X.Ϛ:=λb hb z=>by
  rcases Bl.mp (B.stkSub b z)with e|z
  .show(f2 b hb).2.1 e
  .show(f2 b hb).2.2.1 z
 let pinLt:∀p∈X.pn++f,p.1<a.o.E.y:=λp t=>BK (B.pin p t).1
 let pinStk:∀p∈X.pn++f,p.1∉EG X.Ϛ:=λp t z=>by
  rcases Bl.mp (B.stkSub _ z)with e|z
  .show(B.pin p t).2.2.1 e
  .show(B.pin p t).2.2.2.1 z
 let fsLt:∀b∈EG X.Ϛ,b<a.o.E.y:=λb hb=>by
  let(_,o,ho,_):=B.Ϛ.mem hb
  show BK ho
 letI Y':Cx:=Dk X own H scope C a R L f
 let okY:Y'.Ok:={
  mod:=B.ok.mod
  kind:=S.ϱ
  glob:=B.ok.glob
  blt:=B.ok.blt
  above:=Nat.Ϸ G
  inj:=λx y c h1 h2=>B.ok.inj x y c (zA x c h1) (zA y c h2)
  has:=λx hx=>by
   apply clHas x ?_
   rcases hx with hx|hx
   .show Co (env:=X.G) (.S rfl) S.nocell hx
   .show Co (env:=X.G) (.τ rfl) S.nocell hx
  cab:=λx c hf _=>absurd (show O'=J' from hf) MA
  hd:=B.ok.hd
  frames:=B.ok.frames
  stk:=.S rfl
  exf:=λb hb=>#[B6 (Gj (fpLt b hb) G),λx c e=>(f2 b hb).2.2.2.2.1 x c (zA x c e)]
  bs:=B.bs
  bsz:=BX B.ok.bsz B.sz
  noex:=λb o e hb=>by
   rcases(f2 b hb).2.2.2.1 with z|z
   .show B.ok.noex b o e z
   .show absurd (BQ (BK e) (BX B.ok.bsz z)) (Hf _)
  exfs:=fpStk
  funs:=B.Ϛ
  frf:=B.stkFree}
 let lenS:(Fh own.a oix I).a=Y'.N.a:=by
  let e:=congrArg List.a hox
  erw[Bu]at e
  show(En own.a J++oix.j _).a=(own++H).a
  rw[D2,D2,Lb,Bu,e]
 let I4:Inv Y' [(a.o.E.y,FY [] 0)] (Fh own.a oix I) R {a with heap:=h₁}:={
  ok:=okY
  os:=rfl
  bare:=B.bare
  base:=Un.ϟ old
  loc:=by
   apply#[_,M,λi x v e1 e2 e3=>?_]
   let hi:own.a<=i:=by
    apply(Kh)
    intro hlt
    unfold Fh at e2
    rw[FC (Lb ▸ hlt),Kb,if_pos hlt]at e2
    ext e2
   unfold Fh at e2
   rw[GN (Lb ▸ hi),Lb,DF]at e2
   let e1':H[i-own.a]?=Z x:=by
    let e1:(own++H)[i]?=Z x:=e1
    rwa[GN hi]at e1
   cases ej:oix[i-own.a]? with
   |none=>rw[ej]at e2;cases e2
   |some j=>
    rw[ej]at e2
    let e2':(I[j]?).join=Z v:=Fc e2
    let e2'':I[j]?=Z (Z v):=by
     cases eI:I[j]? with
     |none=>rw[eI]at e2';cases e2'
     |some z=>rw[eI]at e2';show congrArg Z e2'
    let eN:X.N[j]?=Z x:=by
     let q:=congrArg (λl=>l[i-own.a]?) hox
     erw[DF,ej,e1',MS]at q
     show Fc q
    let hfree:scope.υ.X x=Z .Φ:=S.out x (GO e1')
    let hk:X.G.Γ.υ.X x=Z .Ξ\/X.G.Γ.υ.X x=Z .Φ:=S.Φ (x,.Φ) (Ka hfree) rfl
    let(m,hn,hl):=B.loc
    let(u,r,l):=hl j x v eN e2'' (by rcases hk with hk|hk;show .τ (.S hk);show .τ (.τ hk))
    apply#[u,r,.τ #[CP (env:=X.G) hfree,?_]]
    let(c,ec):=clHas x (Ka hfree)
    apply#[c,ec,?_]
    rcases l with⟨k,_⟩|⟨_,c',e',o,ho,hd⟩
    .rcases hk with hk|hk
     .show absurd (k.Ρ.J hk) (by ext)
     .show absurd (k.Ρ.J hk) (by ext)
    .rw[zA x c ec]at e'
     ext e'
     show#[o,old _ _ ho,hd]
  cell:=λx c e=>by
   let(v,o,ho,hd):=B.Ξ x c (zA x c e)
   show#[v,o,old _ _ ho,hd]
  free:=B.Ϣ.Κ (Nat.Ϸ G)
  freeC:=λx c e=>B.freeC x c (zA x c e)
  pin:=λp t=>by
   rcases EH.mp t with t|t
   .let(e,n,_,_,d):=B.pin p t
    show#[old _ _ e,n,B6 (Gj (pinLt p t) G),pinStk p t,d]
   .let e:p=(a.o.E.y,FY [] 0):=by exists t
    subst e
    apply#[(zB.α _ _ hDC (Bg _ (hP ▸ B7 _ rfl))),B.Ϣ.Κ (A9 _),hDC,λz=>absurd (fsLt _ z) (Hf _),λv z=>?_]
    ext z
  hok:=B.Ϣ.ϟ old
  len:=lenS}
 let fpY:∀{H':Hp} {s:U Aa} {k:Y},(∀b∈L,H' b=J)->∀b∈L,Gf Y' [(a.o.E.y,FY s k)] H' b:=λ{H' s k} hn b hb=>by
  apply#[hn b hb,B6 (Gj (fpLt b hb) G),fpStk b hb,.S hb,λx c e=>(f2 b hb).2.2.2.2.1 x c (zA x c e),λp t=>?_]
  rcases EH.mp t with t|t
  .show(f2 b hb).2.2.2.2.2 p t
  .let e:p=(a.o.E.y,FY s k):=by exists t
   subst e
   show Hh (fpLt b hb)
 let fin:∀(i:Y) (ys:U V) (s:U Aa) (k:Y) (H':Hp) (s':Ab),Inv Y' [(a.o.E.y,FY s k)] (Fh own.a oix I) H' s'->Aq ys s->ys.a<=Az ->
   Q (.C a.o.E.y) (AX H' a.o.E.y (.U ys))->RR (.C a.o.E.y) C (.ok .β) s':=λi ys s k H' s' I' rv hz q=>by
  let(m,hn,_):=I'.loc
  let(eD,nD,_):=I'.pin (a.o.E.y,FY s k) (Dj _ (by simp))
  let neH:∀b o,R b=Z o->b≠a.o.E.y:=λb o e=>B6 (B.Ϣ.lt e)
  let un':Un (EG X.Ϛ) L R (AX H' a.o.E.y (.U ys)) a.o s'.o:=
   #[I'.φ.keep,I'.φ.ϣ,λb o e n hx=>Zt ((λb o e=>B6 (BK e)) b o e) ▸ I'.φ.Φ b o e n hx,I'.φ.there,λb xs e=>Zt (neH b _ e) ▸ I'.φ.tups b xs e,
    λb o u e=>Zt (neH b _ e) ▸ I'.φ.frzs b o u e,λb ps e=>Zt (neH b _ e) ▸ I'.φ.tbls b ps e]
  apply hRR C s' m _ hn (B.call' (ch:=L) I'.os un' (CH.track I'.Ϣ nD #[hz,s,k,rv,eD]) I'.bare λb hb=>#[(f2 b hb).2.2.2.1,(f2 b hb).2.1,(f2 b hb).2.2.2.2.1,(f2 b hb).2.2.2.2.2]) ?_ ?_ ?_ ?_ ?_ q
  .rw[Zt (BF hDC)];show I'.Φ
  .show Hh (Gj B.lt G)
  .show BX B.sz (Nat.Ϸ G)
  .show λx c e=>B6 (Gj (cLt x c e) G)
  .show λp t=>B6 (Gj (pinLt p t) G)
 let loop:codeAny (Ag X.γ X.w) X.A (.compLoop (.Τ elt [#[tg,iter,ifs,0]] scope pos) 0 (.C it) (.C a.o.E.y) Y'.G) (RR (.C a.o.E.y) C) {a with heap:=h₁}:=by
  apply codeAny_loop rfl (λk s'=>∃(i:Y) (ys:U V) (s:U Aa) (c:Y) (H':Hp),Inv Y' [(a.o.E.y,FY s c)] (Fh own.a oix I) H' s'/\Aq ys s/\tn i s'.o/\(∀b∈L,H' b=J)/\W i ys H'/\k=n-i) (λk s' hI=>?_) n
   #[0,[],[],0,R,I4,.Ϝ,T.keep 0 _ _ st λb _ o e=>old b o e,λb hb=>(f2 b hb).1,w0,rfl]
  apply wpAny_noted ?_
  let(i,ys,s,c,H',I',rv,st',fr',w',ek):=hI
  rcases turn i ys H' w' with⟨stop,hz,q⟩|⟨go,hin,hz,N,hN,step⟩
  .apply Al (wpAny_standAt (Al (A0 (T.done Y' rfl rfl rfl hc i _ s' _ H' _ I' (fpY fr') st' stop) λr s1 ⟨hr,I1⟩=>?_)))
   subst hr
   let(_,nD,_):=I1.pin (a.o.E.y,FY s c) (Dj _ (by simp))
   show AO (fin i ys s c H' s1 I1 rv hz (q _ nD))
  .apply Al (wpAny_standAt (Al (A0 (T.item Y' rfl rfl rfl hc i _ s' _ H' _ I' (fpY fr') st' go) λr s1 ⟨u,hr,h1⟩=>?_)))
   subst hr
   apply Al (A0 h1 λ_ s5 z9=>?_)
   let(x,H5,I5,r5,y5,st5,fr5):=z9
   apply Al (wpAny_noRaise (A0 (hg C a R L f _ s5 _ H5 x u _ (I5.pinned (fpY fr5) (T.obj _ _ st5)) r5 (step x H5 y5)) λ_ s6 z9=>?_))
   let(σ6,H6,I6,dr6,q6):=z9
   apply Al (wpAny_noRaise (A0 (ht C a R L f _ s6 σ6 H6 _ I6 q6) λok s7 ⟨H7,I7,q7⟩=>?_))
   let back:∀{H8:Hp} {s8:Ab} {its8:U Aa} {c8:Y},Inv Y' ([(a.o.E.y,FY its8 c8)]++J8 L s5.o) σ6 H8 s8 ->
     Inv Y' [(a.o.E.y,FY its8 c8)] (Fh own.a oix I) H8 s8/\tn (i+1) s8.o/\∀b∈L,H8 b=J:=λ{H8 s8 its8 c8} I8=>by
    apply#[I8.unpinned.weak ?_ λj v e=>?_,T.keep _ _ _ st5 λb hb o e=>(I8.pin (b,o) (Dj _ (Dj _ (OQ hb e)))).1,λb hb=>?_]
    .show lenS.J I8.Ϫ.Ρ
    .let hj:own.a<=j:=by
      apply(Kh)
      intro hlt
      unfold Fh at e
      rw[FC (Lb ▸ hlt),Kb,if_pos hlt]at e
      ext e
     let e':=congrArg (λl=>l[j-own.a]?) dr6
     erw[O1]at e'
     rw[show own.a+(j-own.a)=j by show Nat.add_sub_of_le hj]at e'
     show e'.J e
    .let(o,e,d):=T.obj _ _ st5 b hb
     show(I8.pin (b,o) (Dj _ (Dj _ (OQ hb e)))).2.1
   cases ok with
   |false=>
    let(I8,st8,fr8):=back I7
    show AO #[rfl,n-(i+1),∅,i+1,ys,s,c,H7,I8,rv,st8,fr8,hN _ _ q7,rfl]
   |true=>
    apply Al (Al (wpAny_noRaise (A0 (he C a R L f _ s7 σ6 H7 _ I7 q7) λy s8 z9=>?_)))
    let(z,H8,I8,r8,w8):=z9
    let(eD,nD,neL,nF,dD):=I8.pin (a.o.E.y,FY s c) (Dj _ (Jg _ (by simp)))
    let hl:=rv.a
    apply Al (call_meets F.ϳ #[_,eD,rfl] F.entry_list_append (F.args_list_append_2 _ _) (PySem.list_append _ s.I c y (by rw[Ca];lia)) #[eD,?_])
    obtain⟨n',q⟩:∃n',(s8.o.ϭ a.o.E.y (GP (·.Μ y))).Q a.o.E.y=Z (FY (s++[y]) n'):=by
     let q:=PySem.IsL.ϭ eD (·.Μ y)
     rw[show s.I.Μ y=(s++[y]).I by simp]at q
     show#[_,q]
    let I9:Inv Y' (J8 L s5.o) σ6 H8 {s8 with heap:=s8.o.ϭ a.o.E.y (GP (·.Μ y))}:=
     (I8.pins_of λp t=>I8.pin p (Dj _ (Dj _ t))).xv (t':=s8.ω) (it:=a.o.E.y) (λb o hb e=>(Heap.get?_update_other _ _ (BF hb)).J e) nD hDC (.τ (A9 _))
      (λx c' e=>B6 (cLt x c' (zA x c' e))) λp t=>by
       rcases EH.mp t with t|t
       .show B6 (pinLt p t)
       .show B6 (fpLt _ (X0 t).1)
    let I10:Inv Y' ([(a.o.E.y,FY (s++[y]) n')]++J8 L s5.o) σ6 H8 {s8 with heap:=s8.o.ϭ a.o.E.y (GP (·.Μ y))}:=I9.pins_of λp t=>by
     rcases EH.mp t with t|t
     .let e:p=(a.o.E.y,FY (s++[y]) n'):=by exists t
      subst e
      show#[q,nD,neL,nF,λv z=>by
       cases z]
     .show I9.pin p (Dj _ t)
    let(I11,st11,fr11):=back I10
    show AO (AO #[rfl,n-(i+1),∅,i+1,ys++[z],s++[y],_,H8,I11,rv.ψ (.Η r8 .Ϝ),st11,fr11,hN _ _ w8,rfl])
 show codeAny_compStart_list loop (T.self _ 0 _ _ _ (T.keep 0 _ _ st λb _ o e=>old b o e) loop)
variable {oix:U Y}{g:TG}{tt:TT}
def
R8(own c:U Ae)(oix:U Y)(S:Jr own c scope X.G.Γ)(t:oix.j (λj=>X.N[j]?)=c.j Z)(L:X.Ϭ=J')(M:PI X tg iter wi)
  (K:∀C l i k a,PG (Dk X own c scope C l i k a) tg g)
  (ht:∀C l i k a,Hm (Dk X own c scope C l i k a) ifs tt)
  (P:∀C l i k a,PE (Dk X own c scope C l i k a) elt te)
  (Y':↥(∀x,FS iter X.G x=Ax x:6)):
  PE X (.Τ elt [#[tg,iter,ifs,0]] scope pos) (MR own.a oix wi g tt te):=by
 intro a s z H Q R h
 rw[eval_ListComp]
 apply wpAny_comprehension_free (use:=J) rfl Y' (YF λx hx hf=>R.ok.has x.1 (S.Φ x hx hf)) S.ϱ S.loc (A0 (M a s z H _ R h) λxv B n=>A0 n λitv E p=>?_)
 let(it,k,tn,F,i,e,I2,T,u,f2,d):=p
 subst e
 apply YH (RR:=λv C=>compPost (Ag X.γ X.w) X.A X.xe J (EP X a z Q) v C) S t L K ht P I2 T u f2 d ?_
 intro C s' m H' hn I' hC hL h0 f r q
 show#[m,hn,λG y=>#[.C _,H',I'.xv (h':=G) (t':=s'.ω) (it:=C) (λb o hb e=>y.α b o hb e) hC hL (.τ h0) f r,rfl,q]]
def
R9(own f:U Ae)(oix:U Y){i:Y}{x:Ae}{d l:Aw}(S:Jr own f scope X.G.Γ)(M:oix.j (λj=>X.N[j]?)=f.j Z)(hc:X.Ϭ=J')
  (hN:X.N.ι) (K:X.N[i]?=Z x) (hx:X.G.Γ.υ.X x=Z .ϓ) (hi:PI X tg iter wi)
  (hg:∀C B t u c,PG (Dk X own f scope C B t u c) tg g)
  (ht:∀C B t u c,Hm (Dk X own f scope C B t u c) ifs tt)
  (he:∀C B t u c,PE (Dk X own f scope C B t u c) elt te)
  (P:↑(Ej (.Τ elt [#[tg,iter,ifs,0]] scope pos) (Z (.ε x d)) l.ϥ X.G=Ax J'))
  (hs:↥(∀x,FS iter X.G x=Ax x:6)):
  PS X (.Ϡ [.ε x d] (.Τ elt [#[tg,iter,ifs,0]] scope pos) l) (K6 (MR own.a oix wi g tt te) (J7 i)):=by
 intro c s I H D R h
 rw[exec_Assign_Name_used _ _ _ _ P]
 apply Al (wpAny_standAt (Al ?_))
 change wpAny _ X.A (do let _ <- comprehension (.Τ elt [#[tg,iter,ifs,0]] scope pos) scope X.G _ (newList []) O' (An iter X.G) (Z (assign (.ε x d) X.G))) _ _ s
 apply Al (wpAny_mono (wpAny_comprehension_free (use:=Z (assign (.ε x d) X.G)) (Q:=λ_ z=>SP X c D .β z) rfl hs (YF λy hy hf=>R.ok.has y.1 (S.Φ y hy hf)) S.ϱ S.loc
  (A0 (hi c s I H _ R h) λxv s₁ E=>A0 E λitv n G=>?_)) (λ_ z hq=>AO (AO hq)) λ_ _ e=>e)
 let(it,u,tn,F,t,e,I2,T,Y',f2,p):=G
 subst e
 apply YH (RR:=λacc C=>compPost (Ag X.γ X.w) X.A X.xe (Z (assign (.ε x d) X.G)) (λ_ z=>SP X c D .β z) acc C) S M hc hg ht he I2 T Y' f2 p ?_
 intro C z m H' hn I' hC hL h0 k L q
 change wpAny _ X.A (assign (.ε x d) X.G (.C n.o.E.y)) _ _ z
 apply wpAny_assign_Name (XF (v:=.C n.o.E.y) I' hN K (.S hx) rfl (λs'' I'' r=>?_) (.τ hx))
 let(a,r,ha):=r
 let hCa:C≠a:=by
  rcases ha with e|e
  .rw[e];show hL
  .show BF (k _ _ e)
 show#[m,hn.sameBut r hCa,λh' hs'=>#[_,H',I''.xv (h':=h') (t':=s''.ω) (it:=C) (λb o hb e=>hs'.α b o hb e) hC hL (.τ h0) k L,q]]
end
def YI(x:Ae):It:=#[λi _=>i<x.ϐ.y,λi H v a=>a=H/\∃c,x.ϐ[i]?=Z c/\v=.Α #[(T' [c])],λi _=>x.ϐ.y<=i]
def
YJ{P:AR}{w:Ai}{K:Am}{u:Expr}{b:jp}(it:Ac)(x:Ae)(t:Tok):Hi P w K u (YI x) [it] it (λi h=>h.IsStrIter it (bif b then "str_ascii_iterator" else "str_iterator") x t i):=by
 apply RH (n:=bif b then "str_ascii_iterator" else "str_iterator") (by ext b<;>decide) (λi h st=>?_) (λi h g st k=>?_) (λX i m s y H E Q z p A st=>?_) λ_ _ _ _ _ st h=>by
  ext b
  .show wpAny_pyIter_striter_wide st h
  .show wpAny_pyIter_striter_ascii st h
 .let(o,e,c,d):=st;show#[o,_,e,c,d]
 .let(o,e,r):=st;show#[o,k o e,r]
 .constructor<;>intro a q
  .let a:i<x.ϐ.y:=a
   let f:=λt g j (v:D1 it s.o g)=>q (.Α #[(T' [x.ϐ[i]])] t) (.Α #[(T' [x.ϐ[i]])]) g (s.ω+1) j (λb o hb e=>(v.2 b hb).J e) #[_,rfl] #[rfl,_,by simp[a],rfl]
   ext b
   .show wpAny_pyNext_wide_item st (c:=x.ϐ[i]) (by simp[a]) (f _)
   .show wpAny_pyNext_ascii_item st (c:=x.ϐ[i]) (by simp[a]) (f _)
  .let a:x.ϐ.y<=i:=a
   ext b
   .show wpAny_pyNext_wide_end p st (by simp[a]) λg l=>q g s.ω l
   .show wpAny_pyNext_ascii_end p st (by simp[a]) λg l=>q g s.ω l
section
def qq(tl:TE):TI:=λa H R=>tl a H λv b=>∃x,v=.Α x/\R (YI x) b
def
qr{l:Expr}{tl:TE}(j:PE X l tl):PI X tg l (qq tl):=by
 intro a s k H R p h
 apply A0 (j a s k H _ p h) λv c m=>?_
 let(y,f,d,n,x,e,q):=m
 subst e
 let(t,rfl):=n
 let g:∀{o:Obj} (b:Ac),b∈[c.o.E.y]->Gf X a f b:=λ{o} b hb=>by
  let e:b=c.o.E.y:=by exists hb
  subst e
  show d.fpOk (A9 _) (d.Ϣ.Κ (A9 _))
 cases i:x.ϐ.ϔ (·<128)
 .show wpAny_pyIter_wide i #[c.o.E.y,[c.o.E.y],_,_,f,rfl,d.ϟ (t':=c.ω) λb o e=>Bg _ e,YJ (b:=O') _ x t,#[_,B7 _ rfl,rfl,rfl],g (o:=default),q]
 .show wpAny_pyIter_ascii i #[c.o.E.y,[c.o.E.y],_,_,f,rfl,d.ϟ (t':=c.ω) λb o e=>Bg _ e,YJ (b:=J') _ x t,#[_,B7 _ rfl,rfl,rfl],g (o:=default),q]
end
section
def qt:V->O W'->O W'->Hp->VK->V':=λx lo a H Q=>∃z,x=.Α z/\z.a<=Az/\Q (.Α (Gk z lo a)) H
def
qu:Jo X qt:=by
 intro e s n H x v o p lo r w Q y h a m f zQ;let(z,rfl,b,q):=zQ
 let(t,rfl):=h
 apply#["str",_,PySem.F.slot_str_getitem.X,typeIs_str s z t,?_]
 cases m with
 |none=>
  cases f with
  |none=>show Sa (l:=J) (u:=J) (st:=J) a rfl (post_val_or_str #[BX (Txt.slice_le z _ _) b,λc k=>#[.Α (Gk z J J),H,y.tok _,#[_,rfl],q]])
  |int j d=>show Sa (l:=J) (u:=Z (j,d)) (st:=J) a rfl (post_val_or_str #[BX (Txt.slice_le z _ _) b,λc k=>#[.Α (Gk z J (Z j)),H,y.tok _,#[_,rfl],q]])
 |int i g=>
  cases f with
  |none=>show Sa (l:=Z (i,g)) (u:=J) (st:=J) a rfl (post_val_or_str #[BX (Txt.slice_le z _ _) b,λc k=>#[.Α (Gk z (Z i) J),H,y.tok _,#[_,rfl],q]])
  |int j d=>show Sa (l:=Z (i,g)) (u:=Z (j,d)) (st:=J) a rfl (post_val_or_str #[BX (Txt.slice_le z _ _) b,λc k=>#[.Α (Gk z (Z i) (Z j)),H,y.tok _,#[_,rfl],q]])
end
def
qv{bs:U jp}:∀{us:U Aa},Aq (bs.j V.bl) us->LSm.BoolsAre us bs:=by
 induction bs with
 |nil=>intro us r;rw[Dv]at r;ext r;show .Ϝ
 |cons n ns a=>
  intro us r
  rw[AT]at r
  cases r with
  |cons b c=>
   subst b
   show .Η n (a c)
section
def
YK{b:jp}(k:X.Ϭ=J'):D8 X (.ρ (bif b then "all" else "any")) (λxs H Q=>∃(a:Ac)(bs:U jp),xs=[.C a]/\BV X.K H a (bs.j V.bl)/\Q (.bl (bif b then bs.ϔ id else bs.any id)) H):=by
 intro g s t H xs w Q F r zQ;let(a,bs,rfl,l,q):=zQ
 let(u,rfl,m):=El r
 ext m
 let(c,n,d,x):=F.Ϥ l
 let hb:=qv n
 obtain⟨f,h⟩:∃f:Y->jp,f=λi=>(bs[i]?).B b:=#[_,rfl]
 ext b
 all_goals
  first|apply call_all_walk (OP d.Ω ?_)|apply call_any_walk (OP d.Ω ?_)
  apply#[s.o.E.y,[s.o.E.y,a],[s.o.E.y],c.I.y,_,_,f,rfl,Walks.Ϥ (A:=X.A.in1) (F.ok.hd k) _ a (B6 (show a<s.o.E.y by let(_,e,_):=d.Ω;show BK e)) c.I,
   #[#[_,B7 _ rfl,rfl,rfl],d.Ω.Μ _],λi v y z B o j=>?_,λC E p=>#[.bl _,H,F.ϟ (LSm.kept_iter p),rfl,?_]]
  .let(b,e,rfl):=hb.Ι i v (by exists o)
   erw[h,e,O0]at j
   show Jh j
  .rw[show c.I.y=bs.a by rw[Ca,hb.a],h]
   first|rw[LSm.range_all bs]|rw[LSm.range_any bs]
   show q
end
section
open PySem.SeqAt
inductive FZ(A:Af)(s:Ab):List Aa->List Aa->jp->V' where
 |nn:FZ A s [] [] O'
 |nc {w ws}:FZ A s [] (w::ws) J'
 |cn {v vs}:FZ A s (v::vs) [] O'
 |eq {v w vs ws b}:EqAt A s v w J'->FZ A s vs ws b->FZ A s (v::vs) (w::ws) b
 |ne {v w vs ws b}:EqAt A s v w O'->(∀(prog:AR) (wo:Ai) (E Q:AQ),Q (.ϝ b) s->wpAny (Ag prog wo) A (richCompare .Lt v w) Q E s)->FZ A s (v::vs) (w::ws) b
end
section
open PySem.SeqAt
open PySem.AutoSeq1 (wpAny_loadPart')
open PySem.MeetsSeq PySem.MeetsSeq2 PySem.MeetsSeq3
def
qw(l b:Ac)(items a:Array Aa)(n n2:Y)(H p:O Ac)(K q:Array (O Aa))(r:jp):
  Meets (F0.«tuple.__lt__» #[[.C l,.C b],[]])
   (λA R s=>s.o.Q l=Z {cls:=.ζ "tuple",dict:=H,data:=.ϰ items n,slots:=K}/\s.o.Q b=Z {cls:=.ζ "tuple",dict:=p,data:=.ϰ a n2,slots:=q} /\
    FZ A.in1 s items.R a.R r/\R (.ok (.Ϻ (.ϝ r))) s):=
 .of_wp λprog w A R s h=>by
  let(E,g,d,G,os):=s;let(F,hb,t,h):=h
  let M:=AutoSeq1.sub_tuple_tuple
  wp_walk using EN F,EN hb,wpAny_forIn_list _ (λAF b u=>b.1=J/\u=#[E,g,d,G,os]/\∃(m o:U Aa),AF=m.zip o /\
   FZ A.in1 #[E,g,d,G,os] m o r/\m.a+a.y=o.a+items.y) _
  case turn=>
   rintro⟨y,x⟩ AF b u ⟨j,rfl,m,o,e,f,c⟩
   cases f with
   |nn=>rw[List.zip_nil_left]at e;cases e
   |nc=>rw[List.zip_nil_left]at e;cases e
   |cn=>rw[List.zip_nil_right]at e;cases e
   |eq v z=>
    rw[HL]at e
    injection e with k i
    injection k with B C
    subst B C
    erw[Cb]at c
    apply Al (v prog w _ _ ?_)
    wp_walk
    show#[rfl,rfl,_,_,i,z,∅]
   |ne v z=>
    rw[HL]at e
    injection e with k i
    injection k with B C
    subst B C
    apply Al (v prog w _ _ ?_)
    wp_walk using(z prog w)
    show#[_,rfl,by exists h]
  case fin=>
   rintro⟨b1,b2⟩ u ⟨j,rfl,m,o,e,f,c⟩
   simp only at j
   subst j
   let L:r=decide (items.y<a.y):=by
    cases f with
    |nn=>
     erw[IB]at c
     show(decide_eq_false ∅).Ρ
    |nc=>
     erw[IB,Cb]at c
     show(decide_eq_true ∅).Ρ
    |cn=>
     erw[IB,Cb]at c
     show(decide_eq_false ∅).Ρ
    |eq _ _=>rw[HL]at e;cases e
    |ne _ _=>rw[HL]at e;ext e
   rw[L]at h
   wp_walk
   show#[_,rfl,by simpa[Builtin.Tuple.tupleCompareSizes]using h]
  case h=>
   show#[rfl,rfl,items.R,a.R,rfl,t,by simp;show Nat.add_comm items.y a.y]
def
qx(l b:Ac)(items c:Array Aa)(n n2:Y)(z x:O Ac)(B y:Array (O Aa))(r:jp)(k:Y):
  ∀i:Y,items.y-i=k->Meets (F0.«list.__eq__.loop» #[[.C l,.C b,Bw i,Bw 0],[]])
   (λA R s=>s.o.Q l=Z {cls:=.ζ "list",dict:=z,data:=.ϰ items n,slots:=B}/\s.o.Q b=Z {cls:=.ζ "list",dict:=x,data:=.ϰ c n2,slots:=y} /\
    FZ A.in1 s (items.R.Ν i) (c.R.Ν i) r/\(i<=items.y/\i<=c.y)/\R (.ok (.Ϻ (.ϝ r))) s):=by
 induction k with
 |zero=>
  intro i q prog w A R s h
  let(C,g,d,E,os):=s;let(m,hb,e,(z1,z2),h):=h
  wp_walk using EN m,EN hb
  let j:items[((i:Y):W').Β]?=J:=by simp;show Nat.le_of_sub_eq_zero q
  let hd:items.R.Ν i=[]:=MU (by simp;lia)
  rw[hd]at e
  rw[j]
  let o:r=decide (items.y<c.y):=by
   cases v:c.R.Ν i with
   |nil=>
    rw[v]at e
    have:=congrArg List.a v
    simp at this
    ext e
    show(decide_eq_false ∅).Ρ
   |cons a t=>
    rw[v]at e
    have:=congrArg List.a v
    simp at this
    ext e
    show(decide_eq_true ∅).Ρ
  rw[o]at h
  wp_walk using EN m,EN hb
  show h
 |succ k G=>
  intro i q prog w A R s h
  let(C,g,d,E,os):=s;let(m,hb,e,(z1,z2),h):=h
  wp_walk using EN m,EN hb
  let j:items[((i:Y):W').Β]?=Z items[i]:=by simp[Nat.lt_of_sub_eq_succ q]
  rw[show items.R.Ν i=items[i]::items.R.Ν (i+1) by rw[MV (by simpa using(Nat.lt_of_sub_eq_succ q))];simp]at e
  rw[j]
  by_cases f:i<c.y
  .let u:c[((i:Y):W').Β]?=Z c[i]:=by simp[f]
   let p:c.R.Ν i=c[i]::c.R.Ν (i+1):=by rw[MV (by exists f)];simp
   rw[p]at e
   rw[u]
   cases e with
   |eq e o=>
    apply Al (e prog w _ _ ?_)
    wp_walk
    rw[show((i:W')+1)=((i+1:Y):W') by push_cast;rfl]
    show#[Lg plain_eq_loop _,Ki entry_eq_loop (by
     rw[Around.under_plainId plain_eq_loop _]
     show G (i+1) ∅ prog w A R _ #[m,hb,o,#[(Nat.lt_of_sub_eq_succ q),f],h])]
   |ne e o=>
    apply Al (e prog w _ _ ?_)
    wp_walk using EN m,EN hb
    rw[j,u]
    wp_walk using(o prog w)
    show h
  .let p:c.R.Ν i=[]:=MU (by simp;lia)
   rw[p]at e
   rw[show c[((i:Y):W').Β]?=J by simp;show Kh f]
   let o:r=decide (items.y<c.y):=by
    ext e
    show(decide_eq_false ∅).Ρ
   rw[o]at h
   wp_walk using EN m,EN hb
   show h
def
YL(l b:Ac)(items a:Array Aa)(n n2:Y)(f c:O Ac)(i e:Array (O Aa))(r:jp):
  Meets (F0.«list.__lt__» #[[.C l,.C b],[]])
   (λA R s=>s.o.Q l=Z {cls:=.ζ "list",dict:=f,data:=.ϰ items n,slots:=i}/\s.o.Q b=Z {cls:=.ζ "list",dict:=c,data:=.ϰ a n2,slots:=e} /\
    FZ A.in1 s items.R a.R r/\R (.ok (.Ϻ (.ϝ r))) s):=by
 intro prog w A R s h
 let(m,g,d,o,os):=s;let(j,hb,k,h):=h
 let p:=AutoSeq1.sub_list_list
 wp_walk using EN j,EN hb
 show#[Lg plain_eq_loop _,Ki entry_eq_loop (by
  rw[Around.under_plainId plain_eq_loop _]
  show qx l b items a n n2 f c i e r _ 0 rfl prog w A R _ #[j,hb,k,#[Fz _,Fz _],h])]
end
variable {prog:AR}{w:Ai}{A:Af}{s:Ab}
def
qy{l b:Ac}{a:Array Aa}{r:jp}{Q:AQ}(m:IsTup s.o l items)(hb:IsTup s.o b a)(o:FZ A.in1 s items.R a.R r)
  (p:A.η<As) (h:Q (.ϝ r) s):wpAny (Ag prog w) A (richCompare .Lt (.C l) (.C b)) Q E s:=by
 let((cls,q,data,t),i,j,n,hd):=id m
 let((k,f,data2,g),c,d,n2,e):=id hb
 simp only at j hd d e
 subst j hd d e
 show richCompare_meets_room (op:=.Lt) #[_,i,rfl] #[_,c,rfl] PySem.F.slot_tuple_lt PySem.F.entry_tuple_lt (PySem.F.args_tuple_lt_2 _ _) (qw l b items a n n2 q f t g r)
  #[i,c,o,show Value.ϝ r≠Value.notImplemented/\Q (.ϝ r) s from#[(λx=>nomatch x),h]] p
def
qA{l b:Ac}{a:Array Aa}{r:jp}{n n2:Y}{e c:O Ac}{f d:Array (O Aa)}{Q:AQ}(g:s.o.Q l=Z {cls:=.ζ "list",dict:=e,data:=.ϰ items n,slots:=f})(hb:s.o.Q b=Z {cls:=.ζ "list",dict:=c,data:=.ϰ a n2,slots:=d})(i:FZ A.in1 s items.R a.R r)
  (j:A.η<As) (h:Q (.ϝ r) s):wpAny (Ag prog w) A (richCompare .Lt (.C l) (.C b)) Q E s:=
 richCompare_meets_room (op:=.Lt) #[_,g,rfl] #[_,hb,rfl] PySem.F.slot_list_lt PySem.F.entry_list_lt (PySem.F.args_list_lt_2 _ _) (YL l b items a n n2 e c f d r)
  #[g,hb,i,show Value.ϝ r≠Value.notImplemented/\Q (.ϝ r) s from#[(λx=>nomatch x),h]] j
end
def qB:V->V->O jp
 |.int i,.int j=>Z (decide (i<j))
 |.str a,.str b=>Z (decide (a.ϐ.R<b.ϐ.R))
 |_,_=>J
def Bo:U V->U V->O jp
 |[],[]=>Z O'
 |[],_::_=>Z J'
 |_::_,[]=>Z O'
 |x::a,y::b=>if(Yy x&&Yy y)=J' then(if qa x y=J' then Bo a b else qB x y)else J
def
Js(x:Ae):x.ϐ.R.a=x.a:=by simp[Str.length]
def MW(K:Am):Sp:=λb H Q _=>∃(a:Ac)(ns:U W'),b=[.C a]/\BV K H a (ns.j V.r)/\ns.a<=63/\∀c,Q (.bl J') c
def
Sb{p:Ac}{o:HO}(h:H p=J):Aj H (AX H p o):=λb u e=>Zt (Z3 e h) ▸ e
def
Jt{A B:V'}(h:A):(if J'=J' then A else B):=by grind
def
Ju{A B:V'}(h:B):(if O'=J' then A else B):=by grind
inductive Kd where
 |l|d|i (ns:List Ae) (c:Ae)
variable{fl k':Kd}
def O2(K:Am)(c:Ae):Ac:=match PySem.W.nsIn K CJ c with
 |some (Z (.ref C))=>C
 |_=>0
inductive D where
 |non|bl (b:jp)|int (i:W')|str (x:Ae)|ty (n:String)|tup (xs:List D)|lst (xs:List D) (b:Kd:=.l)
variable{xs:U D}
abbrev Ex:=U D->O D
abbrev A8:=O (U D)
def Sc:D->At
 |.int i=>.r i
 |.str x=>.Α x
 |_=>.Y
def MY:D->KT
 |.tup l=>.O (l.j Sc)
 |d=>.at (Sc d)
def Jv:U D->U KT
 |k::_::r=>MY k::Jv r
 |_=>[]
def CO(K:Am)(b:Kd)(a:Ac)(xs:U D)(vs:U V):HO:=match b with
 |.l=>.U vs
 |.d=>.dct (Jv xs) vs
 |.i ns c=>.ins (O2 K c) (a-1) (ns.zip vs)
def GR:HO->jp
 |.lst _=>J'
 |.dct _ _=>J'
 |.ins _ _ _=>J'
 |_=>O'
def
YM(K:Am)(b:Kd)(a:Ac)(xs:U D)(vs:U V):GR (CO K b a xs vs)=J':=by ext b<;>rfl
abbrev Fb:=Ac->V'
def KL(K:Am)(a:Ac)(vs:U V):V':=BV K (λ_=>J) a vs
def LstAt(K:Am)(N:Fb)(H:Hp)(a:Ac)(o:HO):V':=(¬ N a/\Rd H a o)\/∃b,o=.U b/\KL K a b
def
KL.sq{K:Am}(h:KL K a vs):BV K H a vs:=by
 rcases h with(h|⟨o,h⟩)|h
 .cases h
 .cases h
 .show .τ h
def
LstAt.sq{K:Am}{N:Fb}(h:LstAt K N H a (.U vs)):BV K H a vs:=by
 rcases h with⟨_,h⟩|⟨b,e,h⟩
 .show .S h
 .cases e;show h.sq
def
LstAt.of{K:Am}{N:Fb}{o:HO}(n:¬ N a)(h:H a=Z o):LstAt K N H a o:=.S #[n,.S h]
def
LstAt.of_sq{K:Am}(h:BV K H a vs):LstAt K (λ_=>False) H a (.U vs):=by
 rcases h with h|h
 .show .S #[id,h]
 .show .τ #[vs,rfl,.τ h]
mutual
def Av(K:Am)(N:Fb)(H:Hp):D->V->V'
 |.non,v=>v=.Y
 |.bl b,v=>v=.bl b
 |.int i,v=>v=.r i
 |.str x,v=>v=.Α x
 |.ty n,v=>v=.ty n
 |.tup d,v=>∃a c,v=.C a/\Cf K H a c/\Ad K N H d c
 |.lst d b,v=>∃a c,v=.C a/\LstAt K N H a (CO K b a d c)/\Ad K N H d c
def Ad(K:Am)(N:Fb)(H:Hp):U D->U V->V'
 |[],a=>a=[]
 |x::b,a=>∃v r,a=v::r/\Av K N H x v/\Ad K N H b r
end
structure Step(M N N':Fb)(H H':Hp):V' where
 kp:∀a o,H a=Z o->(¬ N a\/M a\/GR o=O')->H' a=Z o
 nw:∀a,N' a->N a\/H a=J
def
Step.trans{M N d f:Fb}{g i:Hp}(a:Step M N d H g)(b:Step M d f g i):Step M N f H i where
 kp:=λc o h z=>by
  apply b.kp c o (a.kp c o h z) ?_
  rcases z with z|z|z
  .apply .S λn1=>?_
   rcases a.nw c n1 with q|q
   .show z q
   .rw[h]at q;ext q
  .show .τ (.S z)
  .show .τ (.τ z)
 nw:=λc n2=>by
  rcases b.nw c n2 with q|q
  .show a.nw c q
  .cases e:H c with
   |none=>show .τ rfl
   |some o=>
    apply .S (Classical.byContradiction λz=>?_)
    rw[a.kp c o e (.S z)]at q
    ext q
def
Step.of_same{M N:Fb}(s:Aj H H'):Step M N N H H':=#[λa o h _=>s a o h,λa h=>.S h]
def
Step.refl{M N:Fb}:Step M N N H H:=Step.ϑ (Aj.ξ H)
def
Rd.step{M N b:Fb}{u:HO}(s:Step M N b H H')(h:Rd H a u)(z:¬ N a\/M a\/GR u=O'):Rd H' a u:=by
 rcases h with h|⟨o,h⟩
 .show .S (s.kp a u h z)
 .show .τ #[o,s.kp a _ h (.τ (.τ rfl))]
def
Rd.same{u:HO}(s:Aj H H')(h:Rd H a u):Rd H' a u:=by
 rcases h with h|⟨o,h⟩
 .show .S (s a u h)
 .show .τ #[o,s a _ h]
def
Cf.step{K:Am}{M N b:Fb}{xs:U V}(s:Step M N b H H')(h:Cf K H a xs):Cf K H' a xs:=by
 rcases h with h|h
 .show .S (h.ώ s (.τ (.τ rfl)))
 .show .τ h
def
Cf.same{K:Am}{xs:U V}(s:Aj H H')(h:Cf K H a xs):Cf K H' a xs:=Cf.ώ (M:=λ_=>False) (N:=λ_=>False) (Step.ϑ s) h
def
Rd.has{u:HO}(h:Rd H a u):H a≠J:=by
 rcases h with h|⟨o,h⟩<;>rw[h]<;>show λe=>nomatch e
mutual
theorem Av.step{K:Am}{M N f:Fb}{H H':Hp}(s:Step M N f H H'):∀(d:D)(v:V),Av K N H d v->Av K f H' d v
 |.non,_,h=>h
 |.bl _,_,h=>h
 |.int _,_,h=>h
 |.str _,_,h=>h
 |.ty _,_,h=>h
 |.tup c,v,h=>by
  erw[Av]at h ⊢
  let(a,b,e,q,r):=h
  show#[a,b,e,q.ώ s,Ad.ώ s c b r]
 |.lst c i,v,h=>by
  erw[Av]at h ⊢
  let(a,b,e,q,r):=h
  apply#[a,b,e,?_,Ad.ώ s c b r]
  rcases q with⟨n,q⟩|q
  .apply .S #[λg=>?_,q.ώ s (.S n)]
   rcases s.nw a g with z|z
   .show n z
   .show q.has z
  .show .τ q
theorem Ad.step{K:Am}{M N a:Fb}{H H':Hp}(s:Step M N a H H'):∀(xs:U D)(vs:U V),Ad K N H xs vs->Ad K a H' xs vs
 |[],_,h=>h
 |x::xs,vs,h=>by
  erw[Ad]at h ⊢
  let(v,r,e,q,t):=h
  show#[v,r,e,Av.ώ s x v q,Ad.ώ s xs r t]
end
variable {K:Am}{M N N':Fb}{d:D}{v:V}{ys:U D}{ws:U V}
def
Av.same(h:Av K N H d v)(s:Aj H H'):Av K N H' d v:=Av.ώ (M:=N) (Step.ϑ s) d v h
def
Ad.same(h:Ad K N H xs vs)(s:Aj H H'):Ad K N H' xs vs:=Ad.ώ (M:=N) (Step.ϑ s) xs vs h
def
Av.nw(h:Av K N H d v)(z:∀a,N' a->N a\/H a=J):Av K N' H d v:=Av.ώ (M:=N) (H':=H) #[λ_ _ h _=>h,z] d v h
def
Ad.nw(h:Ad K N H xs vs)(z:∀a,N' a->N a\/H a=J):Ad K N' H xs vs:=Ad.ώ (M:=N) (H':=H) #[λ_ _ h _=>h,z] xs vs h
def
Ad.length:∀{xs:U D}{vs:U V},Ad K N H xs vs->xs.a=vs.a
 |[],_,h=>by erw[Ad]at h;subst h;rfl
 |_::xs,_,h=>by erw[Ad]at h;let(v,r,e,_,t):=h;subst e;simp[Ad.length t]
def
Ad.get:∀{xs:U D}{vs:U V}{i:Y}{d:D},Ad K N H xs vs->xs[i]?=Z d->∃v,vs[i]?=Z v/\Av K N H d v
 |[],_,i,d,_,e=>by simp at e
 |x::xs,_,0,d,h,e=>by
  erw[Ad]at h;let(v,r,a,q,_):=h;subst a
  simp at e;subst e;show#[v,rfl,q]
 |x::xs,_,i+1,d,h,e=>by
  erw[Ad]at h;let(v,r,a,_,t):=h;subst a
  let(w,h1,h2):=Ad.Ι (i:=i) t (by exists e)
  show#[w,by simpa using h1,h2]
def
Ad.get':∀{xs:U D}{vs:U V}{i:Y}{v:V},Ad K N H xs vs->vs[i]?=Z v->∃d,xs[i]?=Z d/\Av K N H d v:=by
 intro xs vs i v h e
 let b:=h.a
 let c:i<vs.a:=(BR.mp e).1
 let a:xs[i]?=Z xs[i]:=Cc ∅
 let(w,h1,h2):=h.Ι a
 rw[e]at h1;ext h1
 show#[_,a,h2]
def
Ad.append:∀{xs ys:U D}{vs ws:U V},Ad K N H xs vs->Ad K N H ys ws->Ad K N H (xs++ys) (vs++ws)
 |[],_,_,_,h,a=>by erw[Ad]at h;subst h;show a
 |x::xs,ys,_,ws,h,a=>by
  erw[Ad]at h;let(v,r,e,q,t):=h;subst e
  erw[Kj,Ad]
  show#[v,r++ws,rfl,q,Ad.ψ t a]
def
Ad.nil:Ad K N H [] []:=by erw[Ad]
def
Ad.cons(h:Av K N H d v)(t:Ad K N H xs vs):Ad K N H (d::xs) (v::vs):=by erw[Ad];show#[v,vs,rfl,h,t]
def
Ad.take:∀{xs:U D}{vs:U V}(n:Y),Ad K N H xs vs->Ad K N H (xs.ύ n) (vs.ύ n)
 |_,_,0,_=>by exists Ad.Ϝ
 |[],_,n+1,h=>by erw[Ad]at h;subst h;exists Ad.Ϝ
 |x::xs,_,n+1,h=>by
  erw[Ad]at h;let(v,r,e,q,t):=h;subst e
  exists Ad.Η q (Ad.ύ n t)
def
Ad.drop:∀{xs:U D}{vs:U V}(n:Y),Ad K N H xs vs->Ad K N H (xs.Ν n) (vs.Ν n)
 |_,_,0,h=>by exists h
 |[],_,n+1,h=>by erw[Ad]at h;subst h;exists Ad.Ϝ
 |x::xs,_,n+1,h=>by
  erw[Ad]at h;let(v,r,e,q,t):=h;subst e
  exists Ad.Ν n t
def
Ad.ints:∀(ns:U W'),Ad K N H (ns.j D.r) (ns.j V.r)
 |[]=>Ad.Ϝ
 |n::ns=>Ad.Η (by erw[Av]) (Ad.ints ns)
end
inductive Sl where
 |no|val (d:D)|own (xs:List D) (b:Kd:=.l) (oa:Option Ac:=J)|lent (xs:List D) (b:Kd:=.l)|exc (c:Ae)
def YN(e C:Ac)(h:Ak):V':=∃o a,h.Q e=Z o/\o.cls=.C C/\o.data=.ϊ a/\a[2]?=Z .σ
abbrev VE:=U Sl
variable{ρ:VE}{fo:VE->O Sl}{fx:VE->O (D×VE)}{lo:VE->O (O W')}{ff:VE->O (U D)}
abbrev Dl:=VE->O (U Sl)
variable{fa:Dl}
abbrev AB:=VE->O D
def Nf(M:Fb)(ρ:VE)(I:St):Fb:=λa=>M a\/∃(i:Y)(c:U D)(b:Kd)(d:O Ac),ρ[i]?=Z (Sl.χ c b d)/\I[i]?=Z (Z (V.C a))
def YO(K:Am)(M N:Fb)(H0 H:Hp):Sl->O V->V'
 |.no,_=>True
 |.val d,o=>∃v,o=Z v/\Av K N H d v
 |.own e b g,o=>∃a f,o=Z (.C a)/\(H0 a=J/\∀c,g=Z c->c=a)/\¬ M a/\H a=Z (CO K b a e f)/\Ad K N H e f
 |.lent e b,o=>∃a f,o=Z (.C a)/\(M a/\H0 a≠J)/\Rd H a (CO K b a e f)/\Ad K N H e f
 |.exc c,o=>∃a C,o=Z (.C a)/\PySem.W.nsIn K CJ c=Z (Z (.C C))/\H a=Z (.ext (YN a C))
structure By(K:Am)(M:Fb)(H0:Hp)(ρ:VE)(I:St)(H:Hp):V' where
 len:ρ.a=I.a
 same:Aj H0 H
 mh:∀a,M a->H a≠J
 slot:∀(i:Y) (s:Sl),ρ[i]?=Z s->YO K M (Nf M ρ I) H0 H s (I[i]?.join)
 inj:∀(i j:Y) (xs ys:List D) (b b':Kd) (oa oa':Option Ac) (a:Ac),ρ[i]?=Z (Sl.χ xs b oa)->ρ[j]?=Z (Sl.χ ys b' oa')->I[i]?=Z (Z (V.C a))->I[j]?=Z (Z (V.C a))->i=j
variable {K:Am}{M:Fb}
def
By.nh(R:By K M H0 ρ I H):∀a,Nf M ρ I a->H a≠J:=by
 rintro a (h|⟨i,c,d,f,h1,h2⟩)
 .show R.mh a h
 .let(b,g,e,_,_,q,_):=R.ϣ i _ h1
  rw[h2]at e
  rw[<- (show b=a by exists e.Ρ),q];show λz=>nomatch z
def
By.st(R:By K M H0 ρ I H)(s:Aj H H'):By K M H0 ρ I H' where
 len:=R.Ϫ
 same:=R.κ.J s
 mh:=λa h z=>R.mh a h (s.Φ z)
 slot:=λi g e=>by
  let q:=R.ϣ i g e
  cases g with
  |no=>trivial
  |val d=>let(v,e,h):=q;show#[v,e,h.κ s]
  |own j k m=>let(a,b,e,h1,h2,f,l):=q;show#[a,b,e,h1,h2,s _ _ f,l.κ s]
  |lent j k=>let(a,b,e,h1,h2,f):=q;show#[a,b,e,h1,h2.κ s,f.κ s]
  |exc c=>let(a,C,e,h1,h2):=q;show#[a,C,e,h1,s _ _ h2]
 inj:=R.inj
def
By.fresh(R:By K M H0 ρ I H){p:Ac}(h:H p=J):¬ Nf M ρ I p:=λn=>R.nh p n h
end
def tD(K:Am)(M:Fb)(H0:Hp)(f:AB):TE:=λc H Q=>∃a d,By K M H0 a c H/\f a=Z d/\∀v b,Aj H b->Av K (Nf M a c) b d v->Q v b
def Au(K:Am)(N:Fb)(H:Hp)(d:D)(v:V):V':=match d with
 |.lst e=>∃a c,v=.C a/\BV K H a c/\Ad K N H e c
 |.lst e b=>∃a c,v=.C a/\Rd H a (CO K b a e c)/\Ad K N H e c
 |d=>Av K N H d v
def
Av.p{K:Am}{N:Fb}{d:D}{v:V}(h:Av K N H d v):Au K N H d v:=by
 cases d with
 |lst f c=>
  let(a,b,e,q,r):=h
  cases c with
  |l=>show#[a,b,e,LstAt.sq q,r]
  |_=>
   rcases q with⟨_,q⟩|⟨g,z,_⟩
   .show#[a,b,e,q,r]
   .cases z
 |_=>show h
def
Au.same{K:Am}{N:Fb}{d:D}{v:V}(h:Au K N H d v)(s:Aj H H'):Au K N H' d v:=by
 cases d with
 |lst f c=>
  cases c with
  |l=>let(a,b,e,q,r):=h;show#[a,b,e,s.ϰ q,r.κ s]
  |_=>let(a,b,e,q,r):=h;show#[a,b,e,q.κ s,r.κ s]
 |_=>show Av.κ h s
def
Sd{K:Am}{N:Fb}(h:Rd H a (CO K fl a xs vs))(r:Ad K N H xs vs):Au K N H (.U xs fl) (.C a):=by
 cases fl with
 |l=>show#[a,vs,rfl,.S h,r]
 |_=>show#[a,vs,rfl,h,r]
def tP(K:Am)(M:Fb)(H0:Hp)(f:AB):TE:=λc H Q=>∃a d,By K M H0 a c H/\f a=Z d/\∀v b,Aj H b->Au K (Nf M a c) b d v->Q v b
def Fi(fl:Kd)(K:Am)(M:Fb)(H0:Hp)(f:VE->A8):TE:=λg H Q=>∃d e,By K M H0 d g H/\f d=Z e /\
 ∀a h c,Aj H c->H a=J->c a=Z (CO K fl a e h)->Ad K (λb=>Nf M d g b\/b=a) c e h->Q (.C a) c
@[reducible] def tF(K:Am)(M:Fb)(H0:Hp)(f:VE->A8):TE:=Fi .l K M H0 f
def BU(K:Am)(M:Fb)(H0:Hp)(f:VE->O jp):TT:=λd H Q=>∃a b,By K M H0 a d H/\f a=Z b/\∀c,Aj H c->Q b c
structure JE(X:Cx)(e:Expr)(t:TE):V' where h:PE X e t
structure JT(X:Cx)(e:Expr)(t:TT):V' where h:PT X e t
structure JW(X:Cx)(e:Expr)(t:TT):V' where h:PW X e t
structure JA(X:Cx)(e:List Expr)(t:TA):V' where h:PA X e t
structure JS(X:Cx)(e:AE)(t:TS):V' where h:PS X e t
structure JB(X:Cx)(e:List AE)(t:TS):V' where h:Fd X e t
structure JI(X:Cx)(tg e:Expr)(t:TI):V' where h:PI X tg e t
structure JG(X:Cx)(e:Expr)(t:TG):V' where h:PG X e t
structure JK(X:Cx)(e:List Expr)(t:Iw):V' where h:MC X e t
structure JO(X:Cx)(e:Option Expr)(t:TO):V' where h:PO X e t
structure JF(X:Cx)(e:List Expr)(t:TT):V' where h:Hm X e t
def
PE.mono{e:Expr}{t t':TE}(h:PE X e t)(m:∀I H Q,t' I H Q->t I H Q):PE X e t':=λa s I H Q b q=>h a s I H Q b (m I H Q q)
def
PT.mono{e:Expr}{t t':TT}(h:PT X e t)(m:∀I H Q,t' I H Q->t I H Q):PT X e t':=λa s I H Q b q=>h a s I H Q b (m I H Q q)
def
PW.mono{e:Expr}{t t':TT}(h:PW X e t)(m:∀I H Q,t' I H Q->t I H Q):PW X e t':=λwh a s I H Q b q=>h wh a s I H Q b (m I H Q q)
def
PA.mono{e:U Expr}{t t':TA}(h:PA X e t)(m:∀I H Q,t' I H Q->t I H Q):PA X e t':=λpos a s I H Q b q=>h pos a s I H Q b (m I H Q q)
def
PS.mono{e:AE}{t t':TS}(h:PS X e t)(m:∀D I H,t' D I H->t D I H):PS X e t':=λa s I H D b q=>h a s I H D b (m D I H q)
def
Fd.mono{e:U AE}{t t':TS}(h:Fd X e t)(m:∀D I H,t' D I H->t D I H):Fd X e t':=λa s I H D b q=>h a s I H D b (m D I H q)
variable {K:Am}{M:Fb}{e a b:Expr}{f g:AB}
def
PE.p(h:PE X e (tD K M H0 f)):PE X e (tP K M H0 f):=h.θ λc H Q ⟨a,d,R,e,q⟩=>#[a,d,R,e,λv b s z=>q v b s z.p]
def
YP(h:JE X e (tD K M H0 f)):JE X e (tP K M H0 f):=#[PE.p h.h]
@[simp]def Zy(o:A8):O D:=o.j D.U
def
PE.fd{f:VE->A8}(h:PE X e (tF K M H0 f)):PE X e (tD K M H0 λρ=>Zy (f ρ)):=h.θ λk H Q c=>by
 let(ρ,d,R,e,q):=c
 let(g,i,e):=Cd.mp e
 ext e
 apply#[ρ,g,R,i,λa j l s z1 z2 z3=>q _ _ s ?_]
 apply#[a,j,rfl,.of (R.Κ z1) z2,z3.nw λb hb=>.S (.S hb)]
def
qC{f:VE->A8}(h:JE X e (tF K M H0 f)):JE X e (tD K M H0 λρ=>Zy (f ρ)):=#[PE.fd h.h]
@[simp]def A2(ρ:VE)(i:Y):O D:=match ρ[i]? with
  |some (.val d)=>Z d
  |_=>J
@[simp]def Bh(ρ:VE)(i:Y):O D:=match ρ[i]? with
  |some (.val d)=>Z d
  |some (.own a b _)=>Z (.U a b)
  |some (.lent a b)=>Z (.U a b)
  |_=>J
def
qD{i:Y}{d:D}(h:A2 ρ i=Z d):ρ[i]?=Z (.u d):=by
 unfold A2 at h
 split at h
 .cases h;assumption
 .cases h
def
qE{i:Y}{x:Ae}(b:NV X i x):PE X (.ε x pos) (tD K M H0 λρ=>A2 ρ i):=
 (GQ b).θ λc H Q f=>by
  let(ρ,d,R,e,q):=f
  try dsimp only at e q
  let(v,a,h):=R.ϣ i _ (qD e)
  apply#[v,?_,q v H (Aj.ξ H) h]
  cases z:c[i]? with
  |none=>rw[z]at a;cases a
  |some o=>rw[z]at a;ext a;rfl
def
qF{i:Y}{x:Ae}(j:NV X i x):PE X (.ε x pos) (tP K M H0 λρ=>Bh ρ i):=
 (GQ j).θ λc H Q k=>by
  let(ρ,d,R,e,q):=k
  try dsimp only at e q
  let fin:∀v,c[i]?.join=Z v->Au K (Nf M ρ c) H d v->∃v,c[i]?=Z (Z v)/\Q v H:=λv b h=>by
   apply#[v,?_,q v H (Aj.ξ H) h]
   cases z:c[i]? with
   |none=>rw[z]at b;cases b
   |some o=>rw[z]at b;ext b;rfl
  unfold Bh at e
  split at e
  .next h=>ext e;let(v,b,h):=R.ϣ i _ h;show fin v b h.p
  .next h=>ext e;let(a,l,b,_,_,f,g):=R.ϣ i _ h;show fin _ b (Sd (.S f) g)
  .next h=>ext e;let(a,l,b,_,f,g):=R.ϣ i _ h;show fin _ b (Sd f g)
  .cases e
def
Lh{d:D}{v:V}{e:Expr}(h:PE X e (tC v))(hd:∀N H,Av K N H d v):PE X e (tD K M H0 λ_=>Z d):=
 h.θ λa H Q ⟨b,c,R,e,q⟩=>by(try dsimp only at e q);ext e;show q v H (Aj.ξ H) (hd _ _)
def
YQ {i j pos}:JE X (.ϙ (.r i) j pos) (tD K M H0 λ_=>Z (.r i)):=#[Lh nH λ_ _=>by erw[Av]]
def
qG {i j pos}:JE X (.ϙ (.ϝ i) j pos) (tD K M H0 λ_=>Z (.bl i)):=#[Lh nI λ_ _=>by erw[Av]]
def
qH {j pos}:JE X (.ϙ .σ j pos) (tD K M H0 λ_=>Z .Y):=#[Lh nJ λ_ _=>by erw[Av]]
def
qI {i j pos}:JE X (.ϙ (.Α i) j pos) (tD K M H0 λ_=>Z (.Α i)):=#[Lh nK λ_ _=>by erw[Av]]
def D9(K:Am)(r:R2)(F:D->D->O D):V':=∀(N:Fb)(H:Hp)(x y:V)(c e d:D)(Q:VK),(∀a,N a->H a≠J)->Au K N H c x->Au K N H e y->F c e=Z d ->
 (∀v b,Aj H b->Av K N b d v->Q v b)->r x y H Q
@[simp]def Za(F:D->D->O D)(f g:AB):AB:=λa=>(f a).L λx=>(g a).L λy=>F x y
def
YR{F:D->D->O D}{f g:AB}{d:D}(h:Za F f g ρ=Z d):∃x y,f ρ=Z x/\g ρ=Z y/\F x y=Z d:=by
 unfold Za at h
 cases a:f ρ with
 |none=>rw[a]at h;cases h
 |some x=>
  cases b:g ρ with
  |none=>rw[a,b]at h;cases h
  |some y=>rw[a,b]at h;show#[x,y,rfl,rfl,h]
def
O3{r:R2}{F:D->D->O D}(i:D9 K r F){Q:VK}(h:tD K M H0 (Za F f g) I H Q):K8 r (tP K M H0 f) (tP K M H0 g) I H Q:=by
 let(a,d,R,e,q):=h
 let(x,y,j,k,l):=YR e
 show#[a,x,R,j,λv s b h1=>#[a,y,R.st b,k,λu m c h2=>i (Nf M a I) m v u x y d Q ((R.st b).st c).nh (h1.κ c) h2 l λw n o p=>q w n ((b.J c).J o) p]]
def
Li{op:Operator}{r:R2}{F:D->D->O D}(c:Ci X (Hj op) r)(d:D9 K r F)(e:PE X a (tP K M H0 f))(hb:PE X b (tP K M H0 g)):PE X (.BinOp a op b pos) (tD K M H0 (Za F f g)):=
 (oQ c e hb).θ λ_ _ _ h=>O3 d h
def
O4{op:CmpOp}{r:R2}{F:D->D->O D}(c:Ci X (DD op) r)(d:D9 K r F)(e:PE X a (tP K M H0 f))(hb:PE X b (tP K M H0 g))(i:GG op b=O'):PE X (.Ο a [op] [b] pos) (tD K M H0 (Za F f g)):=
 (o9 c e hb i).θ λ_ _ _ h=>O3 d h
def
YS{r:R2}{F:D->D->O D}(c:Hk X r)(d:D9 K r F)(e:PE X a (tP K M H0 f))(hb:PE X b (tP K M H0 g))(i:MO b):PE X (.Δ a b pos) (tD K M H0 (Za F f g)):=
 (pZ c e hb i).θ λ_ _ _ h=>O3 d h
@[simp]def AU:O D->O jp
  |some (.bl b)=>Z b
  |_=>J
def
Lj{o:O D}{b:jp}(h:AU o=Z b):o=Z (.bl b):=by
 unfold AU at h
 split at h
 .cases h;rfl
 .cases h
def
qJ{t:TE}{Q:jp->Hp->V'}(ht:∀I H Q,tD K M H0 f I H Q->t I H Q)(h:BU K M H0 (λρ=>AU (f ρ)) I H Q):tB t I H Q:=by
 let(ρ,b,R,e,q):=h
 apply ht I H _ #[ρ,.bl b,R,Lj e,λv c s a=>?_]
 erw[Av]at a
 simp_all
def
IC{op:CmpOp}{r:R2}{F:D->D->O D}(c:Ci X (DD op) r)(d:D9 K r F)(e:PE X a (tP K M H0 f))(hb:PE X b (tP K M H0 g))(h:GG op b=O'):PT X (.Ο a [op] [b] pos) (BU K M H0 λρ=>AU (Za F f g ρ)):=
 (X6 c e hb h).θ λ_ _ _ q=>qJ (t:=K8 r (tP K M H0 f) (tP K M H0 g)) (λ_ _ _ z=>O3 d z) q
@[simp]def ZP(o:O jp):O jp:=o.j (!·)
@[simp]def Eo(o p:O jp):O jp:=match o with
  |some J'=>p
  |some O'=>Z O'
  |none=>J
@[simp]def Cs(o p:O jp):O jp:=match o with
  |some J'=>Z J'
  |some O'=>p
  |none=>J
variable {c c':VE->O jp}{AF:U Expr}
def
qK(h:JT X a (BU K M H0 c)):JT X (.UnaryOp .Not a pos) (BU K M H0 λρ=>ZP (c ρ)):=#[have h:=h.h;(nV h).θ λg H Q d=>by
 let(ρ,b,R,e,q):=d
 let(k,f,e):=Cd.mp e
 ext e;show#[ρ,k,R,f,q]]
def
qL(h:JT X a (BU K M H0 c)):JW X (.ϗ .And [a] pos) (BU K M H0 c):=#[have h:=h.h;nR h]
def
qM(h:JT X a (BU K M H0 c)):JW X (.ϗ .Or [a] pos) (BU K M H0 c):=#[have h:=h.h;nS h]
def
qN{Q:jp->Hp->V'}(h:BU K M H0 (λρ=>Eo (c ρ) (c' ρ)) I H Q):XN (BU K M H0 c) (BU K M H0 c') I H Q:=by
 let(ρ,b,R,e,q):=h
 try dsimp only at e q
 cases a:c ρ with
 |none=>rw[a]at e;cases e
 |some k=>
  rw[a]at e
  apply#[ρ,k,R,a,λd s=>?_]
  cases k with
  |true=>show#[ρ,b,R.st s,e,λf g=>q f (s.J g)]
  |false=>ext e;show q d s
def
qO{Q:jp->Hp->V'}(h:BU K M H0 (λρ=>Cs (c ρ) (c' ρ)) I H Q):XO (BU K M H0 c) (BU K M H0 c') I H Q:=by
 let(ρ,b,R,e,q):=h
 try dsimp only at e q
 cases a:c ρ with
 |none=>rw[a]at e;cases e
 |some k=>
  rw[a]at e
  apply#[ρ,k,R,a,λd s=>?_]
  cases k with
  |false=>show#[ρ,b,R.st s,e,λf g=>q f (s.J g)]
  |true=>ext e;show q d s
def
qP(h:JT X a (BU K M H0 c))(h':JW X (.ϗ .And (b::AF) pos) (BU K M H0 c')):JW X (.ϗ .And (a::b::AF) pos) (BU K M H0 λρ=>Eo (c ρ) (c' ρ)):=#[have h:=h.h;let h':=h'.h;(nT h h').θ λ_ _ _ q=>qN q]
def
qQ(h:JT X a (BU K M H0 c))(h':JW X (.ϗ .Or (b::AF) pos) (BU K M H0 c')):JW X (.ϗ .Or (a::b::AF) pos) (BU K M H0 λρ=>Cs (c ρ) (c' ρ)):=#[have h:=h.h;let h':=h'.h;(nU h h').θ λ_ _ _ q=>qO q]
@[simp]def C1(o:O jp):O D:=o.j D.bl
def
MZ{Q:VK}(h:tD K M H0 (λρ=>C1 (c ρ)) I H Q):∃ρ b,By K M H0 ρ I H/\c ρ=Z b/\∀H',Aj H H'->Q (.bl b) H':=by
 let(ρ,d,R,e,q):=h
 let(k,a,e):=Cd.mp e
 ext e;show#[ρ,k,R,a,λH' s=>q _ H' s (by erw[Av])]
def
qR(h:JE X a (tD K M H0 f)):JE X (.UnaryOp .Not a pos) (tD K M H0 λρ=>C1 (ZP (AU (f ρ)))):=#[have h:=h.h;(oh h).θ λg H Q q=>by
 let(ρ,b,R,e,q):=MZ q
 let(k,c,e):=Cd.mp e
 ext e
 apply#[ρ,.bl k,R,Lj c,λv i s d=>?_]
 erw[Av]at d
 simp_all]
def
qS {op} (h:JE X a (tD K M H0 f)):JE X (.ϗ op [a] pos) (tD K M H0 λρ=>C1 (AU (f ρ))):=#[have h:=h.h;(nZ h).θ λg H Q q=>by
 let(ρ,b,R,e,q):=MZ q
 show#[ρ,.bl b,R,Lj e,λv d s c=>by erw[Av]at c;subst c;show q d s]]
def
qT(h:JE X a (tD K M H0 f))(h':JE X (.ϗ .And (b::AF) pos) (tD K M H0 λρ=>C1 (c' ρ))):JE X (.ϗ .And (a::b::AF) pos) (tD K M H0 λρ=>C1 (Eo (AU (f ρ)) (c' ρ))):=#[have h:=h.h;let h':=h'.h;(n0 h h').θ λm H Q q=>by
 let(ρ,b,R,e,q):=MZ q
 cases c:AU (f ρ)with
 |none=>rw[c]at e;cases e
 |some k=>
  apply#[ρ,.bl k,R,Lj c,λv g s i=>?_]
  apply#[k,i,?_]
  rw[c]at e
  cases k with
  |true=>show#[ρ,.bl b,R.st s,by change C1 (c' ρ)=_;rw[show c' ρ=Z b from e];rfl,λw j l d=>by erw[Av]at d;subst d;show q j (s.J l)]
  |false=>ext e;show q g s]
def
qU(h:JE X a (tD K M H0 f))(h':JE X (.ϗ .Or (b::AF) pos) (tD K M H0 λρ=>C1 (c' ρ))):JE X (.ϗ .Or (a::b::AF) pos) (tD K M H0 λρ=>C1 (Cs (AU (f ρ)) (c' ρ))):=#[have h:=h.h;let h':=h'.h;(og h h').θ λm H Q q=>by
 let(ρ,b,R,e,q):=MZ q
 cases c:AU (f ρ)with
 |none=>rw[c]at e;cases e
 |some k=>
  apply#[ρ,.bl k,R,Lj c,λv g s i=>?_]
  apply#[k,i,?_]
  rw[c]at e
  cases k with
  |false=>show#[ρ,.bl b,R.st s,by change C1 (c' ρ)=_;rw[show c' ρ=Z b from e];rfl,λw j l d=>by erw[Av]at d;subst d;show q j (s.J l)]
  |true=>ext e;show q g s]
@[simp]def M0{d:Type}(c:O jp)(a b:O d):O d:=match c with
  |some J'=>a
  |some O'=>b
  |none=>J
def
qV{k:Expr}(i:JT X k (BU K M H0 c))(j:JE X a (tD K M H0 f))(hb:JE X b (tD K M H0 g)):JE X (.IfExp k a b pos) (tD K M H0 λρ=>M0 (c ρ) (f ρ) (g ρ)):=#[have i:=i.h;let j:=j.h;let hb:=hb.h;(oj i j hb).θ λp H Q o=>by
 let(ρ,d,R,e,q):=o
 try dsimp only at e q
 cases i:c ρ with
 |none=>rw[i]at e;cases e
 |some k=>
  apply#[ρ,k,R,i,λr s=>?_]
  cases k with
  |true=>rw[i]at e;apply Jt ?_;show#[ρ,d,R.st s,e,λw l m n=>q w l (s.J m) n]
  |false=>rw[i]at e;apply Ju ?_;show#[ρ,d,R.st s,e,λw l m n=>q w l (s.J m) n]]
@[simp]def isN:D->jp
  |.non=>J'
  |_=>O'
@[simp]def DS(o:O D):O jp:=o.j isN
def
Au.isN{K:Am}{N:Fb}{d:D}{v:V}(h:Au K N H d v):decide (v=.Y)=Internal.isN d:=by
 cases d with
 |tup _=>erw[Au,Av]at h;let(a,b,e,_):=h;subst e;rfl
 |lst _ c=>ext c<;>(let(a,b,e,_):=h;subst e;rfl)
 |_=>erw[Au,Av]at h;subst h;rfl
def
qW {j c} (h:JE X a (tP K M H0 f)):JE X (.Ο a [.Is] [.ϙ .σ j c] pos) (tD K M H0 λρ=>C1 (DS (f ρ))):=#[have h:=h.h;(nP (XJ h)).θ λl H Q q=>by
 let(ρ,b,R,e,q):=MZ q
 let(d,g,e):=Cd.mp e
 ext e;show#[ρ,d,R,g,λv i s k=>by dsimp only;rw[k.isN];show q i s]]
def
qX {j c} (h:JE X a (tP K M H0 f)):JT X (.Ο a [.Is] [.ϙ .σ j c] pos) (BU K M H0 λρ=>DS (f ρ)):=#[have h:=h.h;(RC (XJ h)).θ λm H Q g=>by
 let(ρ,b,R,e,q):=g
 let(d,i,e):=Cd.mp e
 ext e;show#[ρ,d,R,i,λv k s l=>#[_,rfl,l.isN ▸ q k s]]]
def
qY {j c} (h:JE X a (tP K M H0 f)):JT X (.Ο a [.IsNot] [.ϙ .σ j c] pos) (BU K M H0 λρ=>ZP (DS (f ρ))):=#[have h:=h.h;(RC (XM h)).θ λm H Q i=>by
 let(ρ,b,R,e,q):=i
 try dsimp only at e q
 cases g:f ρ with
 |none=>rw[g]at e;cases e
 |some d=>rw[g]at e;ext e;show#[ρ,d,R,g,λv k s l=>#[_,rfl,l.isN ▸ q k s]]]
end
end
def
qZ{e:Expr}{env:Env}(h:∀x p,e≠.Starred x p):AL (e::es) env=(O',An e env)::AL es env:=by
 cases e with
 |Starred x p=>show absurd rfl (h x p)
 |_=>rfl
def q0:Expr->jp
 |.Starred _ _=>J'
 |_=>O'
def
DT{e:Expr}{env:Env}(h:q0 e=O'):AL (e::es) env=(O',An e env)::AL es env:=qZ λx p z=>by subst z;ext h
structure CA(X:Cx)(x:Ae)(e:Expr)(es:List Expr)(pos:Aw):V' where
 d:DC x
 s:AL (e::es) X.G=(O',An e X.G)::AL es X.G
 p:(AD pos (AL es X.G)).any (·.1)=O'
def
Fj{x:Ae}{e:Expr}(d:⇑(DC x))(s:↥(AL (e::es) X.G=(O',An e X.G)::AL es X.G:7))(p:↑((AD pos (AL es X.G)).any (·.1)=O')):CA X x e es pos:=#[d,s,p]
structure BA(X:Cx)(x:Ae)(vpos:Aw)(m:Ae)(apos:Aw)(e:Expr)(cpos:Aw):V' where
 b:FV (.ε x vpos) m X.G (An (.ε x vpos) X.G)=An (.ε x vpos) X.G
 f:((AD cpos (AL [e] X.G)).ϔ (λx=>!x.1)&&(GI cpos (GJ [] X.G)).ϔ (λx=>x.1.μ)&&decide ([e].a+([]:List Em).a+(if([]:List Em).Χ then 0 else 1)<30))=J'
 l:(apos.϶==cpos.ϥ)=J'
 s:AL [e] X.G=(O',An e X.G)::AL [] X.G
 p:(AD cpos (AL [] X.G)).any (·.1)=O'
def
YT{x:Ae}{c:Aw}{m:Ae}{d:Aw}{e:Expr}{a:Aw}(b:↑(FV (.ε x c) m X.G (An (.ε x c) X.G)=An (.ε x c) X.G))
  (f:↑(((AD a (AL [e] X.G)).ϔ (λx=>!x.1)&&(GI a (GJ [] X.G)).ϔ (λx=>x.1.μ)&&decide ([e].a+([]:U Em).a+(if([]:U Em).Χ then 0 else 1)<30))=J'))
  (l:↑((d.϶==a.ϥ)=J')) (s:↥(AL [e] X.G=(O',An e X.G)::AL [] X.G:7)) (p:↑((AD a (AL [] X.G)).any (·.1)=O')):BA X x c m d e a:=#[b,f,l,s,p]
def CK(K:Am)(N:Fb)(H:Hp):Sl->V->V'
 |.val d,v=>Av K N H d v
 |.lent c b,v=>∃a e,v=.C a/\N a/\Rd H a (CO K b a c e)/\Ad K N H c e
 |_,_=>False
def BG(K:Am)(N:Fb)(H:Hp):U Sl->U V->V'
 |[],a=>a=[]
 |s::b,a=>∃v r,a=v::r/\CK K N H s v/\BG K N H b r
@[simp]def pk:Sl->O D
  |.val d=>Z d
  |.lent a b=>Z (.U a b)
  |.own a b _=>Z (.U a b)
  |.no=>J
  |.exc _=>J
def
CK.same{K:Am}{N:Fb}{s:Sl}{v:V}(h:CK K N H s v)(sm:Aj H H'):CK K N H' s v:=by
 cases s with
 |val d=>show Av.κ h sm
 |lent b f=>let(a,g,e,n,q,r):=h;show#[a,g,e,n,q.κ sm,r.κ sm]
 |no=>show h
 |own b f i=>show h
 |exc c=>show h
def
CK.p{K:Am}{N:Fb}{s:Sl}{v:V}(h:CK K N H s v){d:D}(b:pk s=Z d):Au K N H d v:=by
 cases s with
 |val d=>ext b;show Av.p h
 |lent f g=>ext b;let(a,i,e,n,q,r):=h;subst e;show Sd q r
 |no=>show B0 h
 |own f g j=>show B0 h
 |exc c=>show B0 h
def
BG.length{K:Am}{N:Fb}{H:Hp}:∀{a:U Sl}{vs:U V},BG K N H a vs->a.a=vs.a
 |[],_,h=>by ext h;rfl
 |s::a,_,⟨v,r,e,h,t⟩=>by subst e;simp[BG.length t]
def
BG.get{K:Am}{N:Fb}{H:Hp}:∀{a:U Sl}{vs:U V}{i:Y}{s:Sl},BG K N H a vs->a[i]?=Z s->∃v,vs[i]?=Z v/\CK K N H s v
 |[],_,i,s,h,e=>by simp at e
 |_::a,_,0,s,⟨v,r,b,h,t⟩,e=>by subst b;simp at e;subst e;show#[v,rfl,h]
 |_::a,_,i+1,s,⟨v,r,b,h,t⟩,e=>by
  subst b
  let(w,h1,h2):=BG.Ι (i:=i) t (by exists e)
  show#[w,by simpa using h1,h2]
def CC(K:Am)(M:Fb)(H0:Hp)(f:Dl):TA:=λc H Q=>∃a d,By K M H0 a c H/\f a=Z d/\∀e b,Aj H b->BG K (Nf M a c) b d e->Q e b
def Fk(K:Am)(M:Fb)(H0:Hp)(f:VE->O Sl):TE:=λc H Q=>∃a s,By K M H0 a c H/\f a=Z s/\∀v b,Aj H b->CK K (Nf M a c) b s v->Q v b
@[simp]def Cp(ρ:VE)(i:Y):O Sl:=match ρ[i]? with
  |some (.val d)=>Z (.u d)
  |some (.own a b _)=>Z (.jk a b)
  |some (.lent a b)=>Z (.jk a b)
  |_=>J
@[simp]def Fl(o:O D):O Sl:=o.j Sl.u
@[simp]def Zz{c:Type}(a:O c)(b:O (U c)):O (U c):=a.L λx=>b.L λy=>Z (x::y)
def
Hn{c:Type}{a:O c}{b:O (U c)}{l:U c}(h:Zz a b=Z l):∃x y,a=Z x/\b=Z y/\l=x::y:=by
 cases a with
 |none=>cases h
 |some x=>
  ext b<;>simp_all
variable {K:Am}{M:Fb}{e a b:Expr}{f g:AB}{f1:VE->O Sl}
def
q5{i:Y}{x:Ae}(k:NV X i x):PE X (.ε x pos) (Fk K M H0 λρ=>Cp ρ i):=
 (GQ k).θ λc H Q l=>by
  let(ρ,d,R,e,q):=l
  try dsimp only at e q
  let fin:∀v,c[i]?.join=Z v->CK K (Nf M ρ c) H d v->∃v,c[i]?=Z (Z v)/\Q v H:=λv b h=>by
   grind [Aj.refl]
  unfold Cp at e
  split at e
  .next h=>ext e;let(v,b,h):=R.ϣ i _ h;show fin v b h
  .next h=>
   ext e
   let(a,f,b,_,_,g,j):=R.ϣ i _ h
   apply fin _ b #[a,f,rfl,.τ #[i,_,_,_,h,?_],.S g,j]
   cases z:c[i]? with
   |none=>rw[z]at b;cases b
   |some o=>rw[z]at b;ext b;rfl
  .next h=>ext e;let(a,f,b,h2,g,j):=R.ϣ i _ h;show fin _ b #[a,f,rfl,.S h2.1,g,j]
  .cases e
def
YU(h:JE X e (tD K M H0 f)):JE X e (Fk K M H0 λρ=>Fl (f ρ)):=#[have h:=h.h;h.θ λi H Q a=>by
 let(ρ,s,R,e,q):=a
 let(d,b,e):=Cd.mp e
 ext e;show#[ρ,d,R,b,λv c s g=>q v c s g]]
def
Se :JA X [] (CC K M H0 λ_=>Z []):=#[Bq.θ λb H Q a=>by
 let(c,d,R,e,q):=a
 ext e;show q [] H (Aj.ξ H) rfl]
def
O5(h:JE X e (Fk K M H0 f1))(a:JA X es (CC K M H0 fa))(f:↥(AL (e::es) X.G=(O',An e X.G)::AL es X.G:7)):JA X (e::es) (CC K M H0 λρ=>Zz (f1 ρ) (fa ρ)):=#[have h:=h.h;let a:=a.h;(Z0 h a f).θ λl H Q g=>by
 let(ρ,m,R,e,q):=g
 let(s,r,i,j,rfl):=Hn e
 show#[ρ,s,R,i,λv n b h1=>#[ρ,r,R.st b,j,λc k d h2=>q (v::c) k (b.J d) #[v,c,rfl,h1.κ d,h2]]]]
@[simp]def Zo:U Sl->A8
  |[]=>Z []
  |.val d::r=>Zz (Z d) (Zo r)
  |_=>J
def
Lk{K:Am}{N:Fb}{H:Hp}:∀{a:U Sl}{vs:U V}{b:U D},BG K N H a vs->Zo a=Z b->Ad K N H b vs
 |[],_,_,h,e=>by ext e;ext h;show Ad.Ϝ
 |.val d::r,_,_,⟨v,t,c,h,ht⟩,e=>by
  let(x,y,f,g,i):=Hn e
  ext f;subst c i
  show Ad.Η h (Lk ht g)
 |.no::_,_,_,_,e=>nomatch e
 |.own _ _ _::_,_,_,_,e=>nomatch e
 |.lent _ _::_,_,_,_,e=>nomatch e
 |.exc _::_,_,_,_,e=>nomatch e
@[simp]def Zg{a:Type}(o:O (U a)):O (U a):=o.L λl=>if l.a<=Az then Z l else J
def
O6{b:Type}{o:O (U b)}{l:U b}(h:Zg o=Z l):o=Z l/\l.a<=Az:=by
 cases o with
 |none=>cases h
 |some x=>
  let a:(if x.a<=Az then Z x else J)=Z l:=h
  split at a
  .cases a;show#[rfl,by assumption]
  .cases a
def
Z2{p:Ac}{o:HO}(h:H p=J):Aj H (AX H p o):=λb u e=>Zt (Z3 e h) ▸ e
def
Lm{c:Hp}{Q:VK}{p:Ac}(s:Aj H c)(d:c p=J)(h:Ad K (Nf M ρ I) c xs vs)
  (q:∀a vs H',Aj H H'->H a=J->H' a=Z (CO K fl a xs vs)->Ad K (λb=>Nf M ρ I b\/b=a) H' xs vs->Q (.C a) H'):Q (.C p) (AX c p (CO K fl p xs vs)):=by
 apply q p vs _ (s.J (Z2 d)) (s.Φ d) Z5 ?_
 refine(h.nw λb hb=>?_).κ (Z2 d)
 rcases hb with hb|hb
 .show .S hb
 .subst hb;show .τ d
def
q8(h:JA X es (CC K M H0 fa)):JE X (.List es pos) (tF K M H0 λρ=>Zg ((fa ρ).L Zo)):=#[have h:=h.h;(pI h).θ λi H Q a=>by
 let(ρ,j,R,e,q):=a
 let(e,b):=O6 e
 let(c,d,e):=BZ.mp e
 show#[ρ,c,R,d,λk l f h1=>#[(Lk h1 e).a ▸ b,λp g=>Lm f g (Lk h1 e) q]]]
def
q9 {c} (h:JA X es (CC K M H0 fa)):JE X (.oo es c pos) (tD K M H0 λρ=>(Zg ((fa ρ).L Zo)).j D.O):=#[have h:=h.h;(pH h).θ λl H Q f=>by
 let(ρ,d,R,e,q):=f
 let(m,a,e):=Cd.mp e
 ext e
 let(e,a):=O6 a
 let(g,i,e):=BZ.mp e
 apply#[ρ,g,R,i,λj n k h1=>?_]
 let hd:=Lk h1 e
 show#[hd.a ▸ a,λp b=>q _ _ (k.J (Z2 b)) #[p,j,rfl,Cf.of Z5,hd.κ (Z2 b)]]]
end
inductive Rv where
 |val (d:D)|own (xs:List D) (b:Kd:=.l)
def M3(K:Am)(N:Fb)(H0 H':Hp):Rv->V->V'
 |.val d,v=>Av K N H' d v
 |.own c b,v=>∃a e,v=.C a/\H0 a=J/\H' a=Z (CO K b a c e)/\Ad K (λb=>N b\/b=a) H' c e
def AN(K:Am)(F:U Sl->O Rv):Sp:=λd H Q _=>∃N c r,(∀a,N a->H a≠J)/\BG K N H c d/\F c=Z r/\∀v b,Aj H b->M3 K N H b r v->Q v b
@[simp]def Ct:Rv->D
  |.val d=>d
  |.own a b=>.U a b
@[simp]def Ey:Rv->A8
  |.own a=>Z a
  |_=>J
@[simp]def Sf:Rv->A8
  |.own a .d=>Z a
  |_=>J
variable {K:Am}{M:Fb}{e:Expr}{F:U Sl->O Rv}{k:Y}{fn:Ac}{fd:Cj}{x:Ae}{p:Aw}{E:XK}
@[simp]def Zh(F:U Sl->O Rv)(fa:Dl):AB:=λa=>(fa a).L λb=>(F b).j Ct
@[simp]def DU(F:U Sl->O Rv)(fa:Dl):VE->A8:=λa=>(fa a).L λb=>(F b).L Ey
def
ra{Q:VK}(h:tD K M H0 (Zh F fa) I H Q):OV (AN K F) [] E (CC K M H0 fa) I H Q:=by
 let(f,d,R,e,q):=h
 let(g,i,e):=BZ.mp e
 let(r,j,e):=Cd.mp e
 ext e
 apply#[f,g,R,i,λo p c h1=>#[Nf M f I,g,r,(R.st c).nh,by rw[Du];show h1,j,λv k l h2=>q v k (c.J l) ?_]]
 cases r with
 |val d=>show h2
 |own s t=>
  let(a,m,n,z1,z2,z3):=h2
  show#[a,m,n,.of (λz=>(R.st c).Κ z1 z) z2,z3.nw λb hb=>.S (.S hb)]
@[simp]def Jw(F:U Sl->O Rv)(fa:Dl):VE->A8:=λa=>(fa a).L λb=>(F b).L Sf
def
rb{Q:VK}(h:Fi .d K M H0 (Jw F fa) I H Q):OV (AN K F) [] E (CC K M H0 fa) I H Q:=by
 let(g,d,R,e,q):=h
 let(b,j,e):=BZ.mp e
 cases c:F b with
 |none=>erw[DG,c]at e;cases e
 |some r=>
  erw[DG,c]at e
  cases r with
  |val d=>cases e
  |own p k=>
   cases k with
   |l=>cases e
   |i _ _=>cases e
   |d=>
    ext e
    apply#[g,b,R,j,λs t f h1=>#[Nf M g I,b,_,(R.st f).nh,by rw[Du];show h1,c,λv m n h2=>?_]]
    let(a,o,rfl,z1,z2,z3):=h2
    show q a o m (f.J n) (f.Φ z1) z2 z3
def
re{Q:VK}(h:tF K M H0 (DU F fa) I H Q):OV (AN K F) [] E (CC K M H0 fa) I H Q:=by
 let(g,d,R,e,q):=h
 let(b,j,e):=BZ.mp e
 cases c:F b with
 |none=>erw[DG,c]at e;cases e
 |some r=>
  erw[DG,c]at e
  cases r with
  |val d=>cases e
  |own p k=>
   cases k with
   |d=>cases e
   |i _ _=>cases e
   |l=>
    ext e
    apply#[g,b,R,j,λs t f h1=>#[Nf M g I,b,_,(R.st f).nh,by rw[Du];show h1,c,λv m n h2=>?_]]
    let(a,o,rfl,z1,z2,z3):=h2
    show q a o m (f.J n) (f.Φ z1) z2 z3
def
rf(G:AW X.γ X.w X.K X.mg X.φ CX k fn fd ps (AN K F))(b:AH k X.A)(c:Gl X x)(f:X.mg x=Z (.C fn))(g:HI X.K (.C fn)=J')(hb:Binds X.K fd ps [])(i:EK CX X E)(a:JA X (e::es) (CC K M H0 fa))(hz:↥(CA X x e es pos:9)):JE X (.Θ (.ε x p) (e::es) [] pos) (tD K M H0 (Zh F fa)):=#[have a:=a.h;(ML G b c f g hb .Ϝ i a hz.d hz.s hz.p).θ λ_ _ _ h=>ra h]
def
rg(G:AW X.γ X.w X.K X.mg X.φ CX k fn fd ps (AN K F))(b:AH k X.A)(c:Gl X x)(f:X.mg x=Z (.C fn))(g:HI X.K (.C fn)=J')(hb:Binds X.K fd ps [])(i:EK CX X E)(a:JA X (e::es) (CC K M H0 fa))(hz:↥(CA X x e es pos:9)):JE X (.Θ (.ε x p) (e::es) [] pos) (tF K M H0 (DU F fa)):=#[have a:=a.h;(ML G b c f g hb .Ϝ i a hz.d hz.s hz.p).θ λ_ _ _ h=>re h]
end
def F1(K:Am)(r:U V->Hp->VK->V')(F:Ex):V':=∀(N:Fb)(H:Hp)(c:U V)(e:U D)(d:D)(Q:VK),(∀a,N a->H a≠J)->Paired (Au K N H) e c->F e=Z d ->
 (∀v b,Aj H b->Av K N b d v->Q v b)->r c H Q
def Lo(K:Am)(r:U V->Hp->VK->V')(F:U D->A8):V':=∀(N:Fb)(H:Hp)(b:U V)(c:U D)(d:U D)(Q:VK),(∀a,N a->H a≠J)->Paired (Au K N H) c b->F c=Z d ->
 (∀e p,H p=J->Ad K N H d e->Q (.C p) (AX H p (.U e)))->r b H Q
@[simp]def Gm:U Sl->A8
  |[]=>Z []
  |s::r=>Zz (pk s) (Gm r)
def
O7{K:Am}{N:Fb}{H:Hp}:∀{a:U Sl}{vs:U V}{b:U D},BG K N H a vs->Gm a=Z b->Paired (Au K N H) b vs
 |[],_,_,h,e=>by ext e;ext h;show .Ϝ
 |s::r,_,_,⟨v,t,c,h,ht⟩,e=>by
  let(x,y,d,f,g):=Hn e
  subst c g
  show .Η (h.p d) (O7 ht f)
variable {K:Am}{M:Fb}{e:Expr}{x:Ae}{p:Aw}{r:U V->Hp->VK->V'}{F:Ex}{G:U D->A8}{id:String}
@[simp]def Zm(F:Ex)(fa:Dl):AB:=λa=>((fa a).L Gm).L F
@[simp]def Ez(F:U D->A8)(fa:Dl):VE->A8:=λa=>((fa a).L Gm).L F
def
YV(f:F1 K r F){Q:VK}(h:tD K M H0 (Zm F fa) I H Q):OX r (CC K M H0 fa) I H Q:=by
 let(a,d,R,e,q):=h
 unfold Zm at e
 cases b:fa a with
 |none=>rw[b]at e;cases e
 |some g=>
  rw[b]at e
  let(i,j,e):=BZ.mp e
  show#[a,g,R,b,λk l c h1=>f (Nf M a I) l k i d Q (R.st c).nh (O7 h1 j) e λv m s n=>q v m (c.J s) n]
def
YW(g:Lo K r G){Q:VK}(h:tF K M H0 (Ez G fa) I H Q):OX r (CC K M H0 fa) I H Q:=by
 let(a,d,R,e,q):=h
 unfold Ez at e
 cases b:fa a with
 |none=>rw[b]at e;cases e
 |some i=>
  rw[b]at e
  let(j,c,e):=BZ.mp e
  show#[a,i,R,b,λk l f h1=>g (Nf M a I) l k j d Q (R.st f).nh (O7 h1 c) e λn p c m=>Lm f c m q]
def
GU(b:D8 X (.ρ id) r)(c:F1 K r F)(f:Gl X x)(g:X.mg x=J)(i:Eh x=Z (.ρ id))(a:JA X (e::es) (CC K M H0 fa))(j:⇑(x≠"__name__"))(hz:↥(CA X x e es pos:9)):JE X (.Θ (.ε x p) (e::es) [] pos) (tD K M H0 (Zm F fa)):=#[have a:=a.h;(Yo b f g i a j hz.d hz.s hz.p).θ λ_ _ _ h=>YV c h]
def
Sg(b:D8 X (.ζ id) r)(c:F1 K r F)(f:Gl X x)(g:X.mg x=J)(i:Eh x=Z (.ζ id))(a:JA X (e::es) (CC K M H0 fa))(j:⇑(x≠"__name__"))(hz:↥(CA X x e es pos:9)):JE X (.Θ (.ε x p) (e::es) [] pos) (tD K M H0 (Zm F fa)):=#[have a:=a.h;(Yp b f g i a j hz.d hz.s hz.p).θ λ_ _ _ h=>YV c h]
def
YX(b:D8 X (.ζ id) r)(c:Lo K r G)(f:Gl X x)(g:X.mg x=J)(i:Eh x=Z (.ζ id))(a:JA X (e::es) (CC K M H0 fa))(j:⇑(x≠"__name__"))(hz:↥(CA X x e es pos:9)):JE X (.Θ (.ε x p) (e::es) [] pos) (tF K M H0 (Ez G fa)):=#[have a:=a.h;(Yp b f g i a j hz.d hz.s hz.p).θ λ_ _ _ h=>YW c h]
end
inductive Dm where
 |fail|next(ρ:VE)|brk (ρ:VE)|cont (ρ:VE)|ret (r:Rv)
abbrev Ao:=VE->Dm
def ID(K:Am)(M:Fb)(H0:Hp)(ρ:VE)(I:St)(H:Hp)(b:VE)(Q:St->Hp->V'):V':=∀a c,By K M H0 b a c->Step M (Nf M ρ I) (Nf M b a) H c->Q a c
def B8(K:Am)(M:Fb)(H0:Hp)(ρ:VE)(I:St)(H:Hp)(D:Ends):Dm->V'
 |.fail=>False
 |.next a=>ID K M H0 ρ I H a D.nx
 |.brk a=>ID K M H0 ρ I H a D.bk
 |.cont a=>ID K M H0 ρ I H a D.ct
 |.ret r=>∀v b,Aj H0 b->M3 K M H0 b r v->D.rt v b
def tS(K:Am)(M:Fb)(H0:Hp)(g:Ao):TS:=λD b H=>∃a,By K M H0 a b H/\B8 K M H0 a b H D (g a)
@[simp]def Zd(a:Dm)(g:Ao):Dm:=match a with
  |.next b=>g b
  |r=>r
def
ID.from{K:Am}{M:Fb}{a b:VE}{c:St}{e:Hp}{Q:St->Hp->V'}(s:Step M (Nf M ρ I) (Nf M a c) H e)(h:ID K M H0 ρ I H b Q):ID K M H0 a c e b Q:=
 λd f R g=>h d f R (s.J g)
def
B8.from{K:Am}{M:Fb}{a:VE}{b:St}{d:Hp}{D:Ends}{r:Dm}(s:Step M (Nf M ρ I) (Nf M a b) H d)(h:B8 K M H0 ρ I H D r):B8 K M H0 a b d D r:=by
 cases r with
 |fail=>show h
 |next c=>show ID.from s h
 |brk c=>show ID.from s h
 |cont c=>show ID.from s h
 |ret r=>show h
variable {K:Am}{M:Fb}{st:AE}{AF:U AE}{g g1 g2:Ao}{e:Expr}{f:AB}
def
rh :JB X [] (tS K M H0 λρ=>.β ρ):=#[FQ.θ λD a H ⟨ρ,R,q⟩=>q a H R Step.ξ]
def
YY(h1:JS X st (tS K M H0 g1))(h2:JB X AF (tS K M H0 g2)):JB X (st::AF) (tS K M H0 λρ=>Zd (g1 ρ) g2):=#[have h1:=h1.h;let h2:=h2.h;(XP h1 h2).θ λD g H c=>by
 let(ρ,R,q):=c
 try dsimp only at q
 apply#[ρ,R,?_]
 cases b:g1 ρ with
 |fail=>rw[b]at q;show q
 |next a=>rw[b]at q;show λd i e f=>#[a,e,q.from f]
 |brk a=>rw[b]at q;show q
 |cont a=>rw[b]at q;show q
 |ret r=>rw[b]at q;show q]
@[simp]def Zu(o:O D):Dm:=match o with
  |some d=>.Ϻ (.u d)
  |none=>.ό
def
ri(h:JE X e (tD K M H0 f)):JS X (.Return (Z e) pos) (tS K M H0 λρ=>Zu (f ρ)):=#[have h:=h.h;(OI h).θ λD k H c=>by
 let(ρ,R,q):=c
 try dsimp only at q
 cases b:f ρ with
 |none=>rw[b]at q;show B0 q
 |some d=>
  rw[b]at q
  show#[ρ,d,R,b,λv g s i=>q v g (R.κ.J s) (i.nw λa j=>.S (.S j))]]
@[simp]def ZK(o:A8):Dm:=match o with
  |some a=>.Ϻ (.χ a)
  |none=>.ό
@[simp]def HM(o:A8):Dm:=match o with
  |some a=>.Ϻ (.χ a .d)
  |none=>.ό
def
YZ{k:Kd}{f:VE->A8}{r:A8->Dm}(d:r J=.ό)(h1:∀xs,r (Z xs)=.Ϻ (.χ xs k))(h:PE X e (Fi k K M H0 f)):PS X (.Return (Z e) pos) (tS K M H0 λρ=>r (f ρ)):=(OI h).θ λD l H g=>by
 let(ρ,R,q):=g
 try dsimp only at q
 cases c:f ρ with
 |none=>rw[c,d]at q;show B0 q
 |some xs=>
  rw[c,h1]at q
  show#[ρ,xs,R,c,λa i j s z1 z2 z3=>q (.C a) j (R.κ.J s) #[a,i,rfl,R.κ.Φ z1,z2,z3.nw λb hb=>by
   rcases hb with hb|hb
   .show .S (.S (.S hb))
   .show .S (.τ hb)]]
def
rj{f:VE->A8}(h:JE X e (Fi .d K M H0 f)):JS X (.Return (Z e) pos) (tS K M H0 λρ=>HM (f ρ)):=#[YZ rfl (λ_=>rfl) h.h]
def
rk{f:VE->A8}(h:JE X e (tF K M H0 f)):JS X (.Return (Z e) pos) (tS K M H0 λρ=>ZK (f ρ)):=#[YZ rfl (λ_=>rfl) h.h]
@[simp]def Db(ρ:VE)(i:Y):A8:=match ρ[i]? with
  |some (.own a)=>Z a
  |_=>J
def
O8{i:Y}(h:Db ρ i=Z xs):ρ[i]?=Z (.χ xs):=by
 unfold Db at h
 split at h
 .cases h;assumption
 .cases h
@[simp]def EO(ρ:VE)(i:Y):A8:=match ρ[i]? with
  |some (.own a .d)=>Z a
  |_=>J
def
Lp{i:Y}(h:EO ρ i=Z xs):ρ[i]?=Z (.χ xs .d):=by
 unfold EO at h
 split at h
 .cases h;assumption
 .cases h
def
AG{i:Y}{v:V}(a:I[i]?.join=Z v):I[i]?=Z (Z v):=by
 cases z:I[i]? with
 |none=>rw[z]at a;cases a
 |some o=>rw[z]at a;ext a;rfl
def
Y0{k:Kd}{e:VE->Y->A8}{r:A8->Dm}(h:r J=.ό)(h1:∀xs,r (Z xs)=.Ϻ (.χ xs k))(f:∀{ρ i xs},e ρ i=Z xs->ρ[i]?=Z (.χ xs k)){i:Y}{x:Ae}{c:Aw}(j:NV X i x):
  PS X (.Return (Z (.ε x c)) pos) (tS K M H0 λρ=>r (e ρ i)):=(OI (GQ j)).θ λD n H l=>by
 let(ρ,R,q):=l
 try dsimp only at q
 cases d:e ρ i with
 |none=>rw[d,h]at q;show B0 q
 |some xs=>
  rw[d,h1]at q
  let(a,m,g,(z1,_),z2,z3,z4):=R.ϣ i _ (f d)
  apply#[.C a,AG g,q (.C a) H R.κ #[a,m,rfl,z1,z3,z4.nw λb hb=>.S ?_]]
  rcases hb with hb|hb
  .show .S hb
  .subst hb;show .τ #[i,xs,_,_,f d,AG g]
@[simp]def ZF(c:O jp)(a b:Dm):Dm:=match c with
  |some J'=>a
  |some O'=>b
  |none=>.ό
def
rl{c:Expr}{a b:U AE}{t:VE->O jp}(d:JT X c (BU K M H0 t))(e:JB X a (tS K M H0 g1))(hb:JB X b (tS K M H0 g2)):JS X (.If c a b pos) (tS K M H0 λρ=>ZF (t ρ) (g1 ρ) (g2 ρ)):=#[have d:=d.h;let e:=e.h;let hb:=hb.h;(OJ d e hb).θ λD g H f=>by
 let(ρ,R,q):=f
 try dsimp only at q
 cases ht:t ρ with
 |none=>rw[ht]at q;show B0 q
 |some k=>
  rw[ht]at q
  apply#[ρ,k,R,ht,λi s=>?_]
  cases k with
  |true=>apply Jt ?_;show#[ρ,R.st s,B8.from (Step.ϑ s) q]
  |false=>apply Ju ?_;show#[ρ,R.st s,B8.from (Step.ϑ s) q]]
def
Jx{b:Type}{l:U b}{i:Y}{x y:b}(h:(l.Ε i x)[i]?=Z y):i<l.a/\x=y:=by
 by_cases a:i<l.a
 .rw[Iv a]at h;show#[a,Fc h]
 .rw[Sh (by exists Kh a)]at h;ext h
def
M4{M:Fb}{i:Y}{s:Sl}{v:V}{b:Ac}(c:ρ.a=I.a)(h:Nf M (ρ.Ε i s) (I.Ε i (Z v)) b):Nf M ρ I b\/∃xs fl a,s=.χ xs fl a/\v=.C b:=by
 rcases h with h|⟨j,xs,fl,a,h1,h2⟩
 .show .S (.S h)
 .by_cases e:i=j
  .subst e
   cases((Jx h1).2);cases((Jx h2).2);show .τ #[xs,fl,a,rfl,rfl]
  .rw[Ei e]at h1 h2
   show .S (.τ #[j,xs,fl,a,h1,h2])
def
By.put{i:Y}{s:Sl}{v:V}(R:By K M H0 ρ I H)(S:Step M (Nf M ρ I) (Nf M (ρ.Ε i s) (I.Ε i (Z v))) H H')(sm:Aj H0 H')
  (A:∀j a vs xs fl g,j≠i->ρ[j]?=Z (.χ xs fl g)->I[j]?=Z (Z (.C a))->H a=Z (CO K fl a xs vs)->H' a=Z (CO K fl a xs vs))
  (B:i<ρ.a->YO K M (Nf M (ρ.Ε i s) (I.Ε i (Z v))) H0 H' s (Z v))
  (l:∀xs fl g a j ys b f,s=.χ xs fl g->v=.C a->j≠i->ρ[j]?=Z (.χ ys b f)->I[j]?≠Z (Z (.C a))):By K M H0 (ρ.Ε i s) (I.Ε i (Z v)) H' where
 len:=by rw[List.length_set,List.length_set];show R.Ϫ
 same:=sm
 mh:=λa h z=>by
  cases e:H a with
  |none=>show R.mh a h e
  |some o=>rw[S.kp a o e (.τ (.S h))]at z;ext z
 slot:=λj x e=>by
  by_cases p:i=j
  .subst p
   let(y,e):=Jx e
   subst e
   rw[Iv (R.Ϫ ▸ y)]
   show B y
  .rw[Ei p]at e ⊢
   let q:=R.ϣ j x e
   cases x with
   |no=>trivial
   |val d=>let(u,m,h):=q;show#[u,m,Av.ώ S d u h]
   |own xs fl g=>let(a,vs,m,h1,h2,n,r):=q;show#[a,vs,m,h1,h2,A j a vs xs fl g (BF p) e (AG m) n,Ad.ώ S xs vs r]
   |lent xs fl=>let(a,vs,m,h1,h2,n):=q;show#[a,vs,m,h1,h2.ώ S (.τ (.S h1.1)),Ad.ώ S xs vs n]
   |exc c=>let(a,C,m,h1,h2):=q;show#[a,C,m,h1,S.kp _ _ h2 (.τ (.τ rfl))]
 inj:=λj k xs ys fl b g f a h1 h2 n r=>by
  by_cases w:i=j
  .by_cases t:i=k
   .rw[<- w,t]
   .subst w
    rw[Ei t]at h2 r
    cases((Jx h1).2);cases((Jx n).2);show absurd r (l xs fl g a k ys b f rfl rfl (BF t) h2)
  .rw[Ei w]at h1 n
   by_cases t:i=k
   .subst t
    cases((Jx h2).2);cases((Jx r).2);show absurd n (l ys b f a j xs fl g rfl rfl (BF w) h1)
   .rw[Ei t]at h2 r
    show R.inj j k xs ys fl b g f a h1 h2 n r
def
By.setV{i:Y}{d:D}{v:V}(R:By K M H0 ρ I H)(s:Aj H H')(h:Av K (Nf M ρ I) H' d v):
  By K M H0 (ρ.Ε i (.u d)) (I.Ε i (Z v)) H'/\Step M (Nf M ρ I) (Nf M (ρ.Ε i (.u d)) (I.Ε i (Z v))) H H':=by
 let S:Step M (Nf M ρ I) (Nf M (ρ.Ε i (.u d)) (I.Ε i (Z v))) H H':=#[λa o e _=>s a o e,λb hb=>by
  rcases M4 R.len hb with q|⟨c,_,_,e,_⟩
  .show .S q
  .cases e]
 apply#[R.put S (R.κ.J s) (λj a k c f _ _ _ _ e=>s _ _ e) (λ_=>#[v,rfl,h.nw λb hb=>?_]) (λc f _ a j l g _ e=>nomatch e),S]
 rcases M4 R.len hb with q|⟨c,_,_,e,_⟩
 .show .S q
 .cases e
def
By.setO{i:Y}(R:By K M H0 ρ I H)(s:Aj H H')(c:H a=J)(k:H' a=Z (CO K fl a xs vs))(h:Ad K (λb=>Nf M ρ I b\/b=a) H' xs vs):
  By K M H0 (ρ.Ε i (.χ xs fl)) (I.Ε i (Z (.C a))) H'/\Step M (Nf M ρ I) (Nf M (ρ.Ε i (.χ xs fl)) (I.Ε i (Z (.C a)))) H H':=by
 let nf:∀b,Nf M (ρ.Ε i (.χ xs fl)) (I.Ε i (Z (.C a))) b->Nf M ρ I b\/b=a:=λb hb=>by
  rcases M4 R.len hb with q|⟨xs,fl,_,e,d⟩
  .show .S q
  .cases d;show .τ rfl
 let S:Step M (Nf M ρ I) (Nf M (ρ.Ε i (.χ xs fl)) (I.Ε i (Z (.C a)))) H H':=#[λa o e _=>s a o e,λb hb=>by
  rcases nf b hb with q|q
  .show .S q
  .subst q;show .τ c]
 apply#[R.put S (R.κ.J s) (λj a vs xs fl _ _ _ _ e=>s _ _ e) (λ_=>#[a,vs,rfl,#[R.κ.Φ c,λ_ z=>nomatch z],λl=>R.Κ c (.S l),k,h.nw λb hb=>.S (nf b hb)]) (λm n _ r j p f g e d t h1 h2=>?_),S]
 ext d
 show R.Κ c (.τ #[j,p,f,g,h1,h2])
def
By.chg{fl2:Kd}{c:O Ac}{i:Y}{ys:U D}{ws:U V}(R:By K M H0 ρ I H)(m:ρ[i]?=Z (.χ xs fl c))(g:I[i]?=Z (Z (.C a)))(h:Ad K (Nf M ρ I) H ys ws):
  By K M H0 (ρ.Ε i (.χ ys fl2 c)) I (AX H a (CO K fl2 a ys ws))/\Step M (Nf M ρ I) (Nf M (ρ.Ε i (.χ ys fl2 c)) I) H (AX H a (CO K fl2 a ys ws)):=by
 let(v,A,t,(z1,z5),z2,z3,z4):=R.ϣ i _ m
 rw[g]at t
 let w:a=v:=by exists t
 subst w
 let n:I.Ε i (Z (.C a))=I:=by
  apply(Jy)
  intro j
  by_cases e:i=j
  .subst e
   rw[Iv (BR.mp g).1,g]
  .rw[Ei e]
 let u:Nf M ρ I a:=.τ #[i,xs,fl,c,m,g]
 let nf:∀b,Nf M (ρ.Ε i (.χ ys fl2 c)) (I.Ε i (Z (.C a))) b->Nf M ρ I b:=λb hb=>by
  rcases M4 R.len hb with q|⟨xs,_,_,e,p⟩
  .show q
  .cases p;show u
 let S:Step M (Nf M ρ I) (Nf M (ρ.Ε i (.χ ys fl2 c)) (I.Ε i (Z (.C a)))) H (AX H a (CO K fl2 a ys ws)):=#[λb o e z=>by
   let ne:b≠a:=by
    rintro rfl
    rcases z with z|z|z
    .show z u
    .show z2 z
    .rw[z3]at e;ext e;rw[YM]at z;ext z
   rw[Zt ne];show e,λb hb=>.S (nf b hb)]
 let k:By K M H0 (ρ.Ε i (.χ ys fl2 c)) (I.Ε i (Z (.C a))) (AX H a (CO K fl2 a ys ws)):=by
  apply R.put S (λb o e=>?_) (λj b B l d f r h1 h2 x=>?_) (λ_=>#[a,ws,rfl,#[z1,z5],z2,Z5,Ad.ώ S ys ws h]) (λl y _ b j s d f e p r h1 h2=>?_)
  .let ne:b≠a:=by
    rintro rfl
    rw[z1]at e;ext e
   rw[Zt ne];show R.κ b o e
  .let ne:b≠a:=by
    rintro rfl
    show r (R.inj j i l xs d fl f c b h1 m h2 g)
   rw[Zt ne];show x
  .cases p
   show r (R.inj j i s xs d fl f c _ h1 m h2 g)
 rw[n]at k S
 show#[k,S]
def
By.frz{l:O Ac}{i:Y}(R:By K M H0 ρ I H)(g:ρ[i]?=Z (.χ xs fl l)):
  By K M H0 (ρ.Ε i (.u (.U xs fl))) I H/\Step M (Nf M ρ I) (Nf M (ρ.Ε i (.u (.U xs fl))) I) H H:=by
 let(a,k,m,z1,z2,z3,z4):=R.ϣ i _ g
 let d:I.Ε i (Z (.C a))=I:=by
  apply(Jy)
  grind
 let nf:∀b,Nf M (ρ.Ε i (.u (.U xs fl))) (I.Ε i (Z (.C a))) b->Nf M ρ I b:=λb hb=>by
  rcases M4 R.len hb with q|⟨xs,_,_,e,t⟩
  .show q
  .cases e
 let f:¬ Nf M (ρ.Ε i (.u (.U xs fl))) (I.Ε i (Z (.C a))) a:=by
  rintro(h|⟨j,n,o,p,h1,h2⟩)
  .show z2 h
  .by_cases e:i=j
   .subst e
    cases((Jx h1).2)
   .rw[Ei e]at h1 h2
    show e (R.inj i j xs n _ _ _ _ a g h1 (AG m) h2)
 let S:Step M (Nf M ρ I) (Nf M (ρ.Ε i (.u (.U xs fl))) (I.Ε i (Z (.C a)))) H H:=#[λ_ _ e _=>e,λb hb=>.S (nf b hb)]
 let c:By K M H0 (ρ.Ε i (.u (.U xs fl))) (I.Ε i (Z (.C a))) H:=by
  show R.put S R.κ (λ_ _ _ _ _ _ _ _ _ h=>h) (λ_=>#[.C a,rfl,#[a,k,rfl,.of f z3,Ad.ώ S xs k z4]]) (λr _ _ b j s _ _ e=>nomatch e)
 rw[d]at c S
 show#[c,S]
@[simp]def ZG(i:Y)(o:O D)(ρ:VE):Dm:=match o with
  |some d=>.β (ρ.Ε i (.u d))
  |none=>.ό
@[simp]def Z4(i:Y)(o:A8)(ρ:VE):Dm:=match o with
  |some a=>.β (ρ.Ε i (.χ a))
  |none=>.ό
@[simp]def Ea(i:Y)(o:A8)(ρ:VE):Dm:=match o with
  |some a=>.β (ρ.Ε i (.χ a .d))
  |none=>.ό
def
rm{f:VE->A8}{i:Y}{c:Ends}(h:tS K M H0 (λρ=>Ea i (f ρ) ρ) c I H):K6 (Fi .d K M H0 f) (J7 i) c I H:=by
 let(ρ,R,q):=h
 cases b:f ρ with
 |none=>erw[b,Ea]at q;show B0 q
 |some d=>
  erw[b,Ea]at q
  apply#[ρ,d,R,b,λa j k s z1 z2 z3=>?_]
  let(e,g):=R.setO (i:=i) s z1 z2 z3
  show q _ _ e g
def
rn{f:VE->A8}{i:Y}{x:Ae}{a:Aw}(c:X.N.ι)(g:X.N[i]?=Z x)(j:Loc X.G.Γ x)(b:JE X e (Fi .d K M H0 f))(k:↑(Ej e (Z (.ε x a)) pos.ϥ X.G=Ax O'))(l:↥(X.fn x=J'\/X.G.Γ.υ.X x=Z .ϓ:5)):JS X (.Assign [.Name x a] e pos) (tS K M H0 λρ=>Ea i (f ρ) ρ):=#[have b:=b.h;(MD c g j b k l).θ λ_ _ _ q=>rm q]
def
Y1{i:Y}{b:Ends}(h:tS K M H0 (λρ=>ZG i (f ρ) ρ) b I H):K6 (tD K M H0 f) (J7 i) b I H:=by
 let(ρ,R,q):=h
 cases a:f ρ with
 |none=>erw[a,ZG]at q;show B0 q
 |some d=>
  erw[a,ZG]at q
  apply#[ρ,d,R,a,λv j s c=>?_]
  let(e,g):=R.setV (i:=i) s c
  show q _ _ e g
def
Y2{f:VE->A8}{i:Y}{c:Ends}(h:tS K M H0 (λρ=>Z4 i (f ρ) ρ) c I H):K6 (tF K M H0 f) (J7 i) c I H:=by
 let(ρ,R,q):=h
 cases b:f ρ with
 |none=>erw[b,Z4]at q;show B0 q
 |some d=>
  erw[b,Z4]at q
  apply#[ρ,d,R,b,λa j k s z1 z2 z3=>?_]
  let(e,g):=R.setO (i:=i) s z1 z2 z3
  show q _ _ e g
def
ro{i:Y}{x:Ae}{a:Aw}(c:X.N.ι)(d:X.N[i]?=Z x)(g:Loc X.G.Γ x)(b:JE X e (tD K M H0 f))(j:↑(Ej e (Z (.ε x a)) pos.ϥ X.G=Ax O'))(k:↥(X.fn x=J'\/X.G.Γ.υ.X x=Z .ϓ:5)):JS X (.Assign [.Name x a] e pos) (tS K M H0 λρ=>ZG i (f ρ) ρ):=#[have b:=b.h;(MD c d g b j k).θ λ_ _ _ q=>Y1 q]
def
rp{f:VE->A8}{i:Y}{x:Ae}{a:Aw}(c:X.N.ι)(d:X.N[i]?=Z x)(g:Loc X.G.Γ x)(b:JE X e (tF K M H0 f))(j:↑(Ej e (Z (.ε x a)) pos.ϥ X.G=Ax O'))(k:↥(X.fn x=J'\/X.G.Γ.υ.X x=Z .ϓ:5)):JS X (.Assign [.Name x a] e pos) (tS K M H0 λρ=>Z4 i (f ρ) ρ):=#[have b:=b.h;(MD c d g b j k).θ λ_ _ _ q=>Y2 q]
@[simp]def O9(i:Y)(ρ:VE):VE:=match ρ[i]? with
  |some (.own a b _)=>ρ.Ε i (.u (.U a b))
  |_=>ρ
open J in
def
rq(i:Y)(h:JS X st (tS K M H0 g)):JS X st (tS K M H0 λρ=>g (O9 i ρ)):=#[have h:=h.h;h.θ λe f H a=>by
 let(ρ,R,q):=a
 try dsimp only at q
 unfold O9 at q
 split at q
 .next j b=>
  let(c,d):=R.frz b
  show#[_,c,q.from d]
 .show#[ρ,R,q]]
@[simp]def D3(i:Y)(o:O D)(ρ:VE):Dm:=match ρ[i]?,o with
  |some (.own a .l b),Z d=>if a.a<Az then .β (ρ.Ε i (.χ (a++[d]) .l b))else .ό
  |_,_=>.ό
open J in
def
rz{i:Y}{x:Ae}{c g j:Aw}(r:NV X i x)(k:JE X e (tD K M H0 f))(t:↑(Ej (.Θ (.δ (.ε x c) "append" g) [e] [] j) J pos.ϥ X.G=Ax O'))(hz:↥(BA X x c "append" g e j:11)):JS X (.Expr (.Θ (.δ (.ε x c) "append" g) [e] [] j) pos) (tS K M H0 λρ=>D3 i (f ρ) ρ):=#[have k:=k.h;(OH (Jp Pa PySem.F.ϳ PySem.F.type_list_append YC (GQ r) (Z0 k Bq hz.s) hz.b hz.f hz.l hz.s hz.p) t).θ λC E H u=>by
  let(ρ,R,q):=u
  try dsimp only at q
  unfold D3 at q
  split at q
  .next w G d n y=>
   split at q
   .next hz=>
    let(a,m,o,z1,z2,z3,z4):=R.ϣ i _ n
    apply#[.C a,(AG o),.S #[rfl,m,.S (.S z3)],ρ,d,R,y,λv B s z=>?_]
    let(R2,A):=(R.st s).chg (ys:=w++[d]) (ws:=m++[v]) (fl2:=.l) n (AG o) ((z4.κ s).ψ (Ad.Η z Ad.Ϝ))
    show#[a,m,v,rfl,rfl,s _ _ z3,z4.a ▸ hz,q _ _ R2 ((Step.ϑ s).J A)]
   .show B0 q
  .show B0 q]
end
def Kk(K:Am)(M N:Fb)(f:Hp)(g:It)(c:U D):V':=∀e a,Step M N e f a->∀i,(∀d,c[i]?=Z d->g.go i a/\∀x b,g.yld i a x b->Aj a b/\Av K e b d x)/\(i=c.a->g.stop i a)
def tI(K:Am)(M:Fb)(H0:Hp)(f:VE->A8):TI:=λc H R=>∃a d,By K M H0 a c H/\f a=Z d/\∀e b,Aj H b->Kk K M (Nf M a c) b e d->R e b
def tG(K:Am)(M:Fb)(H0:Hp)(ws:U Y)(b:D->VE->O VE):TG:=λv e H Q=>∃f d c,By K M H0 f e H/\Av K (Nf M f e) H d v/\b d f=Z c/\∀a ,By K M H0 c a H->Step M (Nf M f e) (Nf M c a) H H->(∀j,j∉ws->a[j]?=e[j]?)->Q a H
@[simp]def Zb(i:Y)(d:D)(ρ:VE):O VE:=Z (ρ.Ε i (.u d))
def ZE(b:D->VE->O VE)(g:Ao):U D->Ao
 |[],c=>.β c
 |d::f,c=>match b d c with
  |none=>.ό
  |some e=>match g e with
   |.next a=>ZE b g f a
   |.cont a=>ZE b g f a
   |.brk a=>.β a
   |r=>r
@[simp]def ZN(f:VE->A8)(b:D->VE->O VE)(g:Ao):Ao:=λa=>match f a with
  |some c=>ZE b g c a
  |none=>.ό
variable {K:Am}{M:Fb}{e:Expr}{f:VE->A8}{b:D->VE->O VE}{g:Ao}{body:U AE}
def
rA{i:Y}{x:Ae}(b:X.N.ι)(c:X.N[i]?=Z x)(f:Loc X.G.Γ x)(g:↥(X.fn x=J'\/X.G.Γ.υ.X x=Z .ϓ:4)):JG X (.ε x pos) (tG K M H0 [i] (Zb i)):=#[by
 intro a s h H v u Q p r #[o,d,k,R,hd,e,q]
 ext e
 let(l,m):=R.setV (i:=i) (Aj.ξ H) hd
 show ON b c f g a s h H v u Q p r (q _ l m λj n=>by rw[Ei (λe=>n (by rw[e];simp))])]
def
rB{E:Ends}{B:TG}{S:TS}(hi:∀I H R,tI K M H0 f I H R->wi I H R)(hg:∀v I H Q,tG K M H0 ws b v I H Q->B v I H Q)(hb:∀D I H,tS K M H0 g D I H->S D I H)
  (h:tS K M H0 (ZN f b g) E I H):XZ wi B S E I H:=by
 let(C,R,q):=h
 unfold ZN at q
 cases G:f C with
 |none=>rw[G]at q;show B0 q
 |some d=>
  rw[G]at q
  apply hi _ _ _ #[C,d,R,G,λF Y' s1 ok=>?_]
  apply#[λi m e A=>m=d.a-i/\i<=d.a/\∃a,By K M H0 a e A/\Step M (Nf M C I) (Nf M a e) Y' A/\B8 K M H0 a e A E (ZE b g (d.Ν i) a),#[d.a,by simp,Fz _,C,R.st s1,Step.ξ,?_],?_]
  .show B8.from (Step.ϑ s1) q
  .intro i m e A zQ;let(rfl,hle,a,Ri,W,c):=zQ
   let(L,N):=ok _ _ W i
   by_cases l:i<d.a
   .let(go,y):=L d[i] (Cc l)
    rw[MV l]at c
    erw[ZE]at c
    apply .τ #[go,λn s=>i+1<=d.a/\∃a,By K M H0 a n s/\Step M (Nf M C I) (Nf M a n) Y' s/\B8 K M H0 a n s E (ZE b g (d.Ν (i+1)) a),λn s z=>#[d.a-(i+1),∅,rfl,z],λx s yl=>?_]
    let(s3,hd):=y x s yl
    cases t:b d[i] a with
    |none=>rw[t]at c;show B0 c
    |some o=>
     rw[t]at c
     simp only at c
     apply hg _ _ _ _ #[a,d[i],o,Ri.st s3,hd,t,λP R1 S1 _=>hb _ _ _ #[o,R1,?_]]
     let j:Step M (Nf M a e) (Nf M o P) A s:=(Step.ϑ s3).J S1
     cases k:g o with
     |fail=>rw[k]at c;show c
     |next p=>rw[k]at c;show λu T R2 w=>#[l,p,R2,W.J (j.J w),B8.from (j.J w) c]
     |cont p=>rw[k]at c;show λu T R2 w=>#[l,p,R2,W.J (j.J w),B8.from (j.J w) c]
     |brk p=>rw[k]at c;show λu T R2 w=>c u T R2 (j.J w)
     |ret r=>rw[k]at c;show c
   .rw[MU ∅]at c
    show .S #[N (show i=d.a by lia),c e A Ri Step.ξ]
def
rC(d:PassesOwn (Ag X.γ X.w) X.A X.G X.xe)(e:X.Ϭ=J')(a:JI X tg iter (tI K M H0 f))(c:JG X tg (tG K M H0 ws b))(hb:JB X body (tS K M H0 g))(i:↥(∀x,FS iter X.G x=Ax x:6)):JS X (.For tg iter body [] pos) (tS K M H0 (ZN f b g)):=#[have a:=a.h;let c:=c.h;let hb:=hb.h;(X1 d e a c hb i).θ λ_ _ _ q=>rB (λ_ _ _ z=>z) (λ_ _ _ _ z=>z) (λ_ _ _ z=>z) q]
def
PI.mono{a:TI}(h:PI X tg iter wi)(m:∀I H R,a I H R->wi I H R):PI X tg iter a:=λb s I H R c q=>h b s I H R c (m I H R q)
def Pb(K:Am)(M N:Fb)(H:Hp)(d:D)(v:V):V':=match d with
 |.lst e=>∃a c,v=.C a/\(((¬ N a\/M a)/\Rd H a (.U c))\/KL K a c)/\Ad K N H e c
 |.lst e b=>∃a c,v=.C a/\(¬ N a\/M a)/\Rd H a (CO K b a e c)/\Ad K N H e c
 |d=>Av K N H d v
def tQ(K:Am)(M:Fb)(H0:Hp)(f:AB):TE:=λc H Q=>∃a d,By K M H0 a c H/\f a=Z d/\∀v b,Aj H b->Pb K M (Nf M a c) b d v->Q v b
def
Av.q{M N:Fb}{H:Hp}{d:D}{v:V}(h:Av K N H d v):Pb K M N H d v:=by
 cases d with
 |lst g c=>
  let(a,b,e,q,r):=h
  cases c with
  |l=>
   apply#[a,b,e,?_,r]
   rcases q with⟨n,q⟩|⟨f,z,q⟩
   .show .S #[.S n,q]
   .cases z;show .τ q
  |_=>
   rcases q with⟨n,q⟩|⟨f,z,_⟩
   .show#[a,b,e,.S n,q,r]
   .cases z
 |_=>show h
def
PE.q{f:AB}(h:PE X e (tD K M H0 f)):PE X e (tQ K M H0 f):=h.θ λc H Q ⟨a,d,R,e,q⟩=>#[a,d,R,e,λv b s z=>q v b s z.q]
def
rD{f:AB}(h:JE X e (tD K M H0 f)):JE X e (tQ K M H0 f):=#[PE.q h.h]
def
rE{M N:Fb}(m:M a)(h:Rd H a (CO K fl a xs vs))(r:Ad K N H xs vs):Pb K M N H (.U xs fl) (.C a):=by
 cases fl with
 |l=>show#[a,vs,rfl,.S #[.τ m,h],r]
 |_=>show#[a,vs,rfl,.τ m,h,r]
@[simp]def Bp(ρ:VE)(i:Y):O D:=match ρ[i]? with
  |some (.val d)=>Z d
  |some (.lent a b)=>Z (.U a b)
  |_=>J
def
rF{i:Y}{x:Ae}(c:NV X i x):PE X (.ε x pos) (tQ K M H0 λρ=>Bp ρ i):=
 (GQ c).θ λk H Q f=>by
  let(ρ,d,R,e,q):=f
  try dsimp only at e q
  unfold Bp at e
  split at e
  .next h=>ext e;let(v,b,h):=R.ϣ i _ h;show#[v,AG b,q v H (Aj.ξ H) h.q]
  .next h=>ext e;let(a,l,b,h2,g,j):=R.ϣ i _ h;show#[_,AG b,q _ H (Aj.ξ H) (rE h2.1 g j)]
  .cases e
def M5:D->A8
 |.lst a=>Z a
 |_=>J
def rG:D->A8
 |.tup a=>Z a
 |_=>J
def rH:D->A8
 |.str x=>Z (x.ϐ.R.j λc=>D.Α #[(T' [c])])
 |_=>J
def
rJ{l:Expr}{f:AB}(h:PE X l (tQ X.K M H0 f)):PI X tg l (tI X.K M H0 λρ=>(f ρ).L M5):=(RJ h).θ λs H P t=>by
 let(ρ,F,R,e,q):=t
 let(d,u,e):=BZ.mp e
 cases d with
 |lst L A=>
  cases A with
  |d=>cases e
  |i _ _=>cases e
  |l=>
  ext e
  apply#[ρ,.U _,R,u,λv o B C=>?_]
  let(a,c,E,g,hd):=C
  let p:∀k j,Step M (Nf M ρ s) k o j->BV X.K j a c:=λk j S=>by
   rcases g with⟨G,g⟩|g
   .show .S (g.ώ S (by rcases G with z|z;show .S z;show .τ (.S z)))
   .show g.sq
  apply#[a,E,#[c,p _ _ Step.ξ],q _ o B λk j S i=>?_]
  let b:=p _ _ S
  apply#[λd m=>?_,λm=>#[c,b,by rw[m,hd.a];show A9 _]]
  let(w,r,n):=(Ad.ώ S _ _ hd).Ι m
  apply#[#[c,w,b,r],λx N y=>?_]
  let(rfl,y):=y
  have:=y c b
  rw[r]at this;ext this
  show#[Aj.ξ _,n]
 |_=>ext e
def
rK{l:Expr}{f:AB}(h:PE X l (tQ X.K M H0 f)):PI X tg l (tI X.K M H0 λρ=>(f ρ).L rG):=(oH h).θ λt H u m=>by
 let(ρ,z,R,e,q):=m
 let(d,n,e):=BZ.mp e
 cases d with
 |tup A=>
  ext e
  apply#[ρ,.O _,R,n,λv o p r=>?_]
  let(a,b,s,c,hd):=r
  apply#[a,s,#[b,c],q _ o p λB C S i=>?_]
  apply#[λd g=>?_,λg=>#[b,(c.ώ S),by rw[g,hd.a];show A9 _]]
  let(w,k,j):=(Ad.ώ S _ _ hd).Ι g
  apply#[#[b,w,(c.ώ S),k],λx E y=>?_]
  let(rfl,y):=y
  have:=y b (c.ώ S)
  rw[k]at this;ext this
  show#[Aj.ξ _,j]
 |_=>ext e
def
rL{l:Expr}{f:AB}(h:PE X l (tQ K M H0 f)):PI X tg l (tI K M H0 λρ=>(f ρ).L rH):=(qr h).θ λs H t j=>by
 let(ρ,u,R,e,q):=j
 let(d,k,e):=BZ.mp e
 cases d with
 |str x=>
  ext e
  apply#[ρ,.Α x,R,k,λv m n o=>?_]
  apply#[x,o,q _ m n λw z S i=>#[λd a=>?_,λa=>?_]]
  .rw[DF]at a
   let(c,g,a):=Cd.mp a
   ext a
   let p:i<x.ϐ.y:=by
    have:=(BR.mp g).1
    exists this
   apply#[p,λv A y=>?_]
   let(r,B,b,y):=y
   subst r y
   rw[<- Array.getElem?_toList,g]at b;ext b
   show#[Aj.ξ _,by erw[Av]]
  .have:i=x.ϐ.y:=by exists a
   show K9 this.Ρ
 |_=>ext e
def Kl(lo:W')(n:Y):U D:=(Bf n).j (λ(k:Y)=>D.r (lo+(k:W')))
def
Y3{M N:Fb}{c:Hp}{lo:W'}{n:Y}:Kk K M N c (MF lo n) (Kl lo n):=λg h S i=>by
 apply#[λd a=>?_,λa=>?_]
 .let b:i<n:=by
   have:=(BR.mp a).1
   simpa[Kl]using this
  let e:d=D.r (lo+i):=by
   erw[Kl,DF,List.getElem?_range b,MS,Option.some.injEq]at a
   show a.Ρ
  subst e
  apply#[b,λx j y=>?_]
  let(f,y):=y
  subst f y
  show#[Aj.ξ _,by erw[Av]]
 .have:i=n:=by simpa[Kl]using a
  show K9 this.Ρ
def gd{a:Type}(p:V')(o:O a):O a:=@ite _ p (Pc p) o J
def
M6{a:Type}{p:V'}{o:O a}(h:p):gd p o=o:=by grind [gd]
def
Si{a:Type}{p:V'}{o:O a}{x:a}(h:gd p o=Z x):p/\o=Z x:=by grind [M6,gd]
def F2:U D->A8
 |[.int j]=>gd (-1000000000<=j/\j<1000000000) (Z (Kl 0 j.Β))
 |_=>J
def Lq:U D->A8
 |[.int i,.int j]=>gd (-1000000000<=i/\i<1000000000 /\ -1000000000<=j/\j<1000000000) (Z (Kl i (j-i).Β))
 |_=>J
open J in
def
rM{a:Expr}{b:Dl}{p:Aw}(f:Gl X "range")(g:X.mg "range"=J)(c:JA X [a] (CC K M H0 b))(i:↑(AL [a] X.G=[(O',An a X.G)])):JI X tg (.Θ (.ε "range" p) [a] [] pos) (tI K M H0 λρ=>((b ρ).L Zo).L F2):=#[have c:=c.h;(oK f g c i).θ λx H y k=>by
  let(ρ,z,R,e,q):=k
  try dsimp only at e q
  cases d:b ρ with
  |none=>rw[d]at e;cases e
  |some m=>
   rw[d]at e
   let(l,n,e):=BZ.mp e
   unfold F2 at e
   split at e
   .next j=>
    let(A,e):=Si e
    ext e
    apply#[ρ,m,R,d,λB o s h1=>?_]
    let(v,r,t,u,w):=(Lk h1 n)
    subst t u w
    show#[j,rfl,∅,∅,q _ o s Y3]
   .cases e]
open J in
def
rN{a b:Expr}{c:Dl}{p:Aw}(k:Gl X "range")(m:X.mg "range"=J)(d:JA X [a,b] (CC K M H0 c))(n:↑(AL [a,b] X.G=[(O',An a X.G),(O',An b X.G)]))(f:↑(AL [b] X.G=[(O',An b X.G)])):JI X tg (.Θ (.ε "range" p) [a,b] [] pos) (tI K M H0 λρ=>((c ρ).L Zo).L Lq):=#[have d:=d.h;(oM k m d n f).θ λC H E o=>by
  let(ρ,G,R,e,q):=o
  try dsimp only at e q
  cases g:c ρ with
  |none=>rw[g]at e;cases e
  |some s=>
   rw[g]at e
   let(l,t,e):=BZ.mp e
   unfold Lq at e
   split at e
   .next i j=>
    let(P,e):=Si e
    ext e
    apply#[ρ,s,R,g,λF u w h1=>?_]
    let(v,r,x,y,L,N,z,A,B):=(Lk h1 t)
    subst y A B z x
    show#[i,j,rfl,#[∅,∅,∅,∅],q _ u w Y3]
   .cases e]
end
def Pd(K:Am)(M:Fb)(H0:Hp)(ws:U Y)(b:U D->VE->O VE):Iw:=λg d H Q=>∃e f c,By K M H0 e d H/\Ad K (Nf M e d) H f g/\b f e=Z c/\∀a ,By K M H0 c a H->Step M (Nf M e d) (Nf M c a) H H->(∀j,j∉ws->a[j]?=d[j]?)->Q a H
@[simp]def ZD:U D->VE->O VE
  |[],a=>Z a
  |_,_=>J
@[simp]def Zf(b:D->VE->O VE)(c:U D->VE->O VE):U D->VE->O VE
  |d::r,a=>(b d a).L (c r)
  |_,_=>J
@[simp]def ZC(n:Y)(b:U D->VE->O VE):D->VE->O VE
  |.tup a,c=>if a.a=n then b a c else J
  |_,_=>J
variable {K:Am}{M:Fb}{e:Expr}{ws':U Y}{b:D->VE->O VE}{c:U D->VE->O VE}
def
rO :JK X [] (Pd K M H0 [] ZD):=#[by
 intro a s b H c d Q i r #[h,f,g,R,hd,e,q]
 cases f with
 |nil=>
  ext e
  show XR a s b H c d Q i r #[hd,q b R Step.ξ λ_ _=>rfl]
 |cons=>cases e]
def
rP(h1:JG X e (tG K M H0 ws b))(h2:JK X es (Pd K M H0 ws' c))(n:↑((GH (e::es) X.G).j (·.2)=assign e X.G::(GH es X.G).j (·.2))):JK X (e::es) (Pd K M H0 (ws++ws') (Zf b c)):=#[have h1:=h1.h;let h2:=h2.h;by
 intro a s o H E p Q F r #[t,g,i,R,hd,e,q]
 cases g with
 |nil=>cases e
 |cons d g=>
  let(v,u,rfl,w,x):=hd
  let(f,hb,e):=BZ.mp e
  apply RE h1 h2 n a s o H _ p Q F r #[v,u,rfl,t,d,f,R,w,hb,λy z m A=>#[f,g,i,z,Ad.ώ m _ _ x,e,λk R2 B C=>q k R2 (m.J B) λj l=>?_]]
  rw[EH,not_or]at l
  rw[C j l.2,A j l.1]]
def
rQ{k n:Y}(i:X.Ϭ=J')(h:JK X es (Pd X.K M H0 ws c))(j:↑((GH es X.G).a=n))(f:↑((GH es X.G).findIdx? (·.1)=J)):JG X (.oo es k pos) (tG X.K M H0 ws (ZC n c)):=#[have h:=h.h;by
 intro b s l H v u Q y r #[m,d,g,R,hd,e,q]
 cases d with
 |tup o=>
  let(p,e):=Cy e
  let(a,t,w,x,hd):=hd
  show XT i h j f b s l H v u Q y r #[a,t,w,x,hd.a ▸ p,m,o,g,R,hd,e,q]
 |_=>cases e]
end
@[simp]def M7:O Sl->Sl
  |some (.val d)=>.u d
  |some (.own a b _)=>.jk a b
  |some (.lent a b)=>.jk a b
  |_=>.no
@[simp]def Zr(k:Y)(oix:U Y)(ρ:VE):VE:=En k .no++oix.j λj=>M7 ρ[j]?
def ZL(b:D->VE->O VE)(t:VE->O jp)(e:AB)(ρ:VE):U D->A8
 |[]=>Z []
 |d::c=>match b d ρ with
  |none=>J
  |some a=>match t a with
   |some J'=>Zz (e a) (ZL b t e ρ c)
   |some O'=>ZL b t e ρ c
   |none=>J
@[simp]def Zi(k:Y)(oix:U Y)(f:VE->A8)(b:D->VE->O VE)(t:VE->O jp)(e:AB):VE->A8:=λa=>(Zg (f a)).L (ZL b t e (Zr k oix a))
variable {K:Am}{M:Fb}{f:VE->A8}{b:D->VE->O VE}{t:VE->O jp}{e:AB}{k:Y}{oix:U Y}
open J in
def
By.comp(R:By K M H0 ρ I H)(k:Y)(oix:U Y):By K (Nf M ρ I) H (Zr k oix ρ) (Fh k oix I) H/\∀a,Nf (Nf M ρ I) (Zr k oix ρ) (Fh k oix I) a->Nf M ρ I a:=by
 let b:∀(j:Y) (c:U D) (e:Kd) (f:O Ac),(Zr k oix ρ)[j]?≠Z (Sl.χ c e f):=λj c e f h=>by
  unfold Zr at h
  rw[Km]at h
  split at h
  .rw[Kb]at h
   split at h<;>ext h
  .rw[DF]at h
   cases l:oix[j-(En k Sl.no).a]? with
   |none=>rw[l]at h;cases h
   |some o=>
    rw[l]at h
    erw[MS,Option.some.injEq]at h
    unfold M7 at h
    split at h<;>ext h
 let nf:∀a,Nf (Nf M ρ I) (Zr k oix ρ) (Fh k oix I) a->Nf M ρ I a:=λa h=>by
  rcases h with h|⟨j,c,e,f,h,_⟩
  .show h
  .show absurd h (b j c e f)
 apply#[#[by simp[Zr,Fh],Aj.ξ H,R.nh,λj s h=>?_,λi j c w e t f u a h=>absurd h (b i c e f)],nf]
 unfold Zr at h
 rw[Km]at h
 split at h
 .rw[Kb]at h
  split at h
  .cases h;trivial
  .cases h
 .next n=>
  rw[DF]at h
  let p:(Fh k oix I)[j]?=(oix[j-k]?).j λi=>(I[i]?).join:=by
   unfold Fh
   rw[GN (by exists n),DF]
   simp
  rw[p]
  erw[Lb]at h
  cases l:oix[j-k]? with
  |none=>rw[l]at h;cases h
  |some o=>
   rw[l]at h
   erw[MS,Option.some.injEq]at h
   erw[MS,Option.join_some]
   unfold M7 at h
   split at h
   .next d hd=>subst h;let(v,g,q):=R.ϣ o _ hd;show#[v,g,q.nw λa m=>.S (nf a m)]
   .next c e f hd=>
    subst h
    let(a,r,g,z1,z2,z3,z4):=R.ϣ o _ hd
    show#[a,r,g,#[.τ #[o,c,e,f,hd,AG g],λz=>by rw[z3]at z;cases z],.S z3,z4.nw λa m=>.S (nf a m)]
   .next c hd=>
    subst h
    let(a,r,g,z1,z2,z3):=R.ϣ o _ hd
    show#[a,r,g,#[.S z1.1,R.mh a z1.1],z2,z3.nw λa m=>.S (nf a m)]
   .subst h;trivial
def Lr(K:Am)(ws:U Y)(b:D->VE->O VE):TG:=λv a H Q=>∃M H0,tG K M H0 ws b v a H Q
def Lu(K:Am)(t:VE->O jp):TT:=λa H Q=>∃M H0,BU K M H0 t a H Q
def Lv(K:Am)(e:AB):TE:=λa H Q=>∃M H0,tD K M H0 e a H Q
def
Pe(hw:∀j∈ws,j<k)(hi:∀I H R,tI K M H0 f I H R->wi I H R){Q:VK}(h:tF K M H0 (Zi k oix f b t e) I H Q):MR k oix wi (Lr K ws b) (Lu K t) (Lv K e) I H Q:=by
 let(l,G,R,ex,q):=h
 let(m,W,ex):=BZ.mp ex
 let(W,hz):=O6 W
 apply hi _ _ _ #[l,m,R,W,λF Y' s1 ok=>?_]
 apply#[m.a,λi L B=>i<=m.a/\L.a<=i/\Aj Y' B/\∃c AF,Ad K (Nf M l I) B c L/\ZL b t e (Zr k oix l) (m.Ν i)=Z AF/\c++AF=G,#[Fz _,A9 _,Aj.ξ _,[],G,Ad.Ϝ,ex,rfl],?_]
 intro i L B zQ;let(hle,hy,u,c,AF,g,d,C):=zQ
 let(N,P):=ok _ B (Step.ϑ u) i
 by_cases n:i<m.a
 .let(go,y):=N m[i] (Cc n)
  rw[MV n]at d
  erw[ZL]at d
  apply .τ #[go,n,∅,λr T=>r.a<=i+1/\Aj Y' T/\∃c AF,Ad K (Nf M l I) T c r/\ZL b t e (Zr k oix l) (m.Ν (i+1))=Z AF/\c++AF=G,λr T z=>#[n,z],λx E yl=>?_]
  let(w,hd):=y x E yl
  let(Rc,nf):=(((R.st s1).st u).st w).comp k oix
  cases hb:b m[i] (Zr k oix l)with
  |none=>rw[hb]at d;cases d
  |some o=>
   rw[hb]at d
   simp only at d
   apply#[Nf M l I,E,Zr k oix l,m[i],o,Rc,hd.nw λa S=>.S (nf a S),hb,λσ4 R4 S4 w4=>#[?_,?_]]
   .apply(Jy)
    intro j
    rw[O1,O1]
    show w4 _ λhj=>absurd (hw _ hj) ∅
   .cases ht:t o with
    |none=>rw[ht]at d;cases d
    |some bb=>
     rw[ht]at d
     apply#[Nf M l I,E,o,bb,R4,ht,λH5 A=>?_]
     cases bb with
     |true=>
      let(yd,s,e1,e2,e3):=Hn d
      apply Jt ?_
      apply#[Nf M l I,E,o,yd,R4.st A,e1,λv H6 s6 hv=>#[?_,((u.J w).J A).J s6,c++[yd],s,(g.κ ((w.J A).J s6)).ψ (Ad.Η (hv.nw λa S=>.S (.S S)) Ad.Ϝ),e2,?_]]
      .erw[D2,Le];lia
      .subst e3;rw[<- C];simp
     |false=>
      show Ju #[∅,(u.J w).J A,c,AF,g.κ (w.J A),d,C]
 .rw[MU ∅]at d
  ext d
  rw[Du]at C
  subst C
  show .S #[P (show i=m.a by lia),∅,λp hp=>Lm (s1.J u) hp g q]
def
PG.all(h:∀M H0,PG Y' tg (tG K M H0 ws b)):PG Y' tg (Lr K ws b):=λa s c H v u Q d r ⟨M,H0,z⟩=>h M H0 a s c H v u Q d r z
def
Hm.all(h:∀M H0,Hm Y' ifs (BU K M H0 t)):Hm Y' ifs (Lu K t):=λa s b H Q c ⟨M,H0,z⟩=>h M H0 a s b H Q c z
def
PE.all(h:∀M H0,PE Y' elt (tD K M H0 e)):PE Y' elt (Lv K e):=λa s b H Q c ⟨M,H0,z⟩=>h M H0 a s b H Q c z
def
rR:JF Y' [] (BU K M H0 λ_=>Z J'):=#[λa s c H Q f ⟨d,b,R,e,q⟩=>qo a s c H Q f (by ext e;show q H (Aj.ξ H))]
def
rS{c:Expr}(h:JT Y' c (BU K M H0 t)):JF Y' [c] (BU K M H0 t):=#[have h:=h.h;qp h]
structure CB(K:Am)(X:Cx)(own outs:List Ae)(scope:Scope)(tg:Expr)(ifs:List Expr)(elt:Expr)(ws:List Y)(b:D->VE->Option VE)(t:VE->Option jp)(e:AB):V' where
 g:∀C s2 H2 fp pins,PG (Dk X own outs scope C s2 H2 fp pins) tg (Lr K ws b)
 t:∀C s2 H2 fp pins,Hm (Dk X own outs scope C s2 H2 fp pins) ifs (Lu K t)
 e:∀C s2 H2 fp pins,PE (Dk X own outs scope C s2 H2 fp pins) elt (Lv K e)
def
rT{own c:U Ae}(j:∀{C d f g a i H'},JG (Dk X own c scope C d f g a) tg (tG K i H' ws b))(ht:∀{C d f g a i H'},JF (Dk X own c scope C d f g a) ifs (BU K i H' t))(k:∀{C d f g a i H'},JE (Dk X own c scope C d f g a) elt (tD K i H' e)):CB K X own c scope tg ifs elt ws b t e:=
 #[λ_ _ _ _ _=>PG.ϔ λ_ _=>j.h,λ_ _ _ _ _=>Hm.ϔ λ_ _=>ht.h,λ_ _ _ _ _=>PE.ϔ λ_ _=>k.h]
def
rV(own a:U Ae)(oix:U Y)(S:Jr own a scope X.G.Γ)(c:oix.j (λj=>X.N[j]?)=a.j Z)(d:X.Ϭ=J')(i:JI X tg iter (tI K M H0 f))(hb:CB K X own a scope tg ifs elt ws b t e)(k:∀j∈ws,j<own.a)(l:↥(∀x,FS iter X.G x=Ax x:6)):JE X (.Τ elt [#[tg,iter,ifs,0]] scope pos) (tF K M H0 (Zi own.a oix f b t e)):=
 #[(R8 own a oix S c d i.h hb.g hb.t hb.e l).θ λ_ _ _ z=>Pe k (λ_ _ _ z=>z) z]
def
rW(own c:U Ae)(oix:U Y){i:Y}{x:Ae}{k l:Aw}(S:Jr own c scope X.G.Γ)(m:oix.j (λj=>X.N[j]?)=c.j Z)(r:X.Ϭ=J')(u:X.N.ι)(n:X.N[i]?=Z x)(v:X.G.Γ.υ.X x=Z .ϓ)(w:JI X tg iter (tI K M H0 f))(hb:CB K X own c scope tg ifs elt ws b t e)(y:∀j∈ws,j<own.a)(o:↑(Ej (.Τ elt [#[tg,iter,ifs,0]] scope pos) (Z (.ε x k)) l.ϥ X.G=Ax J'))(A:↥(∀x,FS iter X.G x=Ax x:6)):JS X (.Ϡ [.ε x k] (.Τ elt [#[tg,iter,ifs,0]] scope pos) l) (tS K M H0 λρ=>ZG i (Zy (Zi own.a oix f b t e ρ)) ρ):=
 #[(R9 own c oix S m r u n v w.h hb.g hb.t hb.e o A).θ λG L H z=>by
   let(ρ,d,R,p,q):=(Y1 z)
   let(B,C,p):=Cd.mp p
   ext p
   show Pe y (λ_ _ _ z=>z) #[ρ,B,R,C,λa E F s z1 z2 z3=>q _ _ s #[a,E,rfl,.of (R.Κ z1) z2,z3.nw λb hb=>.S (.S hb)]]]
end
def AV(a n:Y)(g:Ao):U Sl->O Rv:=λb=>if b.a=a then
  match g (b++En (n-a) .no)with
  |.ret r=>Z r
  |.next _=>Z (.u .Y)
  |_=>J
 else J
def
rX{K:Am}{N:Fb}{l:U Sl}(o:∀a,N a->H a≠J)(h:BG K N H l vs)(n:Y):By K N H (l++En n .no) (vs.j Z++En n J) H:=by
 let b:∀(j:Y) (f:U D) (g:Kd) (k:O Ac),(l++En n Sl.no)[j]?≠Z (Sl.χ f g k):=λj f g k e=>by
  rw[Km]at e
  split at e
  .let(v,_,q):=h.Ι e;show q
  .rw[Kb]at e
   split at e<;>ext e
 let nf:∀a,Nf N (l++En n Sl.no) (vs.j Z++En n J) a->N a:=λa z=>by
  rcases z with z|⟨j,f,g,k,z,_⟩
  .show z
  .show absurd z (b j f g k)
 apply#[by simp[h.length],Aj.ξ H,o,λj s e=>?_,λi j f y g p k r a z=>absurd z (b i f g k)]
 rw[Km]at e
 split at e
 .next t=>
  let(v,u,q):=h.Ι e
  rw[FC (by simpa[<- h.length]using t),DF,u]
  cases s with
  |val d=>show#[v,rfl,Av.nw q λa m=>.S (nf a m)]
  |lent f g=>let(a,w,x,z1,z2,z3):=q;show#[a,w,by rw[x];rfl,#[z1,o a z1],z2,z3.nw λa m=>.S (nf a m)]
  |no=>trivial
  |own f g k=>show B0 q
  |exc c=>show B0 q
 .rw[Kb]at e
  let(_,e):=Cy e
  ext e;trivial
def
rY{P:AR}{w:Ai}{K:Am}{mg:BE}{base:Ak}{x b:Ae}{st:AE}{f:Ac}{fd:Cj}{N:U Ae}{k:Y}{g:Ao}(F:Jq K x b st f fd)(S:Ff N ps (Zk st))(t:ps.a<=N.a)
  (hb:∀(c:Aa) (A:Af) (outer:U Env) (s:Ab) (H:Hp) (E:XK) (M:Fb) (H0:Hp),AH k (A.Ϩ (Bj b (Zk st) s.o.E.y f c)) ->
   Fd (DE Bm P w K mg base N b (Zk st) f c A outer s H E).nox (ZT st) (tS K M H0 g)):AW P w K mg base Bm (k+1) f fd ps (AN K (AV ps.a N.a g)):=by
 apply F.ok S (λj H Q E h=>?_) (λc A outer s H j Q E u h=>?_)
 .let(n,o,r,p,i,a,q):=h
  let(l,a):=Cy a
  rw[<- i.a];show l
 .let(n,o,r,p,i,a,q):=h
  apply#[_,hb c A outer s H E n H u,?_]
  let(l,a):=Cy a
  rw[show GK N j=j.j Z++En (N.a-ps.a) J by unfold GK;rw[<- i.a,l]]
  apply#[_,rX p i (N.a-ps.a),?_]
  cases d:g (o++En (N.a-ps.a) .no)with
  |fail=>rw[d]at a;cases a
  |next e=>rw[d]at a;ext a;show λy m z C=>q .Y m z.κ (by erw[M3,Av])
  |brk e=>rw[d]at a;cases a
  |cont e=>rw[d]at a;cases a
  |ret G=>rw[d]at a;ext a;show λv m s B=>q v m s B
def
Y4{P:AR}{w:Ai}{K:Am}{mg:BE}{base:Ak}{x a:Ae}{st:AE}{f:Ac}{fd:Cj}{N:U Ae}{k:Y}{g:Ao}(F:Jq K x a st f fd)(S:Ff N ps (Zk st))(c:ps.a<=N.a)
  (hb:∀(b:Aa) (A:Af) (outer:U Env) (s:Ab) (H:Hp) (E:XK) (M:Fb) (H0:Hp),AH k (A.Ϩ (Bj a (Zk st) s.o.E.y f b)) ->
   JB (DE Bm P w K mg base N a (Zk st) f b A outer s H E).nox (ZT st) (tS K M H0 g)):AW P w K mg base Bm (k+1) f fd ps (AN K (AV ps.a N.a g)):=
 rY F S c λb A outer s H E M H0 d=>(hb b A outer s H E M H0 d).h
variable {K:Am}
@[simp]def i2(g:W'->W'->O D):D->D->O D
  |.int i,.int j=>g i j
  |_,_=>J
def
Sj{g:W'->W'->O D}{x y d:D}(h:i2 g x y=Z d):∃i j,x=.r i/\y=.r j/\g i j=Z d:=by
 unfold i2 at h
 split at h
 .show#[_,_,rfl,rfl,h]
 .cases h
def
Au.int{N:Fb}{i:W'}{v:V}(h:Au K N H (.r i) v):v=.r i:=by simpa only[Au,Av]using h
def
Au.str{N:Fb}{i:Ae}{v:V}(h:Au K N H (.Α i) v):v=.Α i:=by simpa only[Au,Av]using h
def
Au.bl{N:Fb}{i:jp}{v:V}(h:Au K N H (.bl i) v):v=.bl i:=by simpa only[Au,Av]using h
def
Au.non{N:Fb}{v:V}(h:Au K N H .Y v):v=.Y:=by simpa only[Au,Av]using h
def
Au.ty{N:Fb}{i:String}{v:V}(h:Au K N H (.ty i) v):v=.ty i:=by simpa only[Au,Av]using h
def
Au.tup{N:Fb}{v:V}(h:Au K N H (.O xs) v):∃a vs,v=.C a/\Cf K H a vs/\Ad K N H xs vs:=by simpa only[Au,Av]using h
def
F3{N:Fb}{i:W'}:Av K N H (.r i) (.r i):=by erw[Av]
def
Ho{N:Fb}{i:jp}:Av K N H (.bl i) (.bl i):=by erw[Av]
def
M8{N:Fb}{i:Ae}:Av K N H (.Α i) (.Α i):=by erw[Av]
def
rZ(g:W'->W'->W'):D9 K (HG λi j=>.r (g i j)) (i2 λi j=>Z (.r (g i j))):=by
 intro N H x y a b d Q c h1 h2 e q
 let(i,j,rfl,rfl,e):=Sj e
 ext e
 show#[i,j,h1.r,h2.r,q _ H (Aj.ξ H) F3]
def
Lw(g:W'->W'->jp):D9 K (HG λi j=>.bl (g i j)) (i2 λi j=>Z (.bl (g i j))):=by
 intro N H x y a b d Q c h1 h2 e q
 let(i,j,rfl,rfl,e):=Sj e
 ext e
 show#[i,j,h1.r,h2.r,q _ H (Aj.ξ H) Ho]
def
Pf{C:W'->W'->V'}[∀i j,Decidable (C i j)](g:W'->W'->W'):D9 K (rI C λi j=>.r (g i j)) (i2 λi j=>if C i j then Z (.r (g i j))else J):=by
 intro N H x y c f d Q h h1 h2 e q
 let(i,j,rfl,rfl,a):=Sj e
 split at a
 .next b=>ext a;show#[i,j,h1.r,h2.r,b,q _ H (Aj.ξ H) F3]
 .cases a
instance (i j:W'):Decidable (MG i j):=by unfold MG;show inferInstance
instance (i j:W'):Decidable (Ek i j):=by unfold Ek;show inferInstance
instance (i j:W'):Decidable (MH i j):=by unfold MH;show inferInstance
@[simp]def HN:D->D->O D:=i2 λi j=>Z (.r (i-j))
@[simp]def GV:D->D->O D:=i2 λi j=>if Ek i j then Z (.r (i*j))else J
@[simp]def F4:D->D->O D:=i2 λi j=>if MG i j then Z (.r (i/j))else J
@[simp]def Z7:D->D->O D:=i2 λi j=>if 0<j then Z (.r (i%j))else J
@[simp]def Pg:D->D->O D:=i2 λi j=>if MH i j then Z (.r (i^j.Β))else J
@[simp]def Lx:D->D->O D:=i2 λi j=>Z (.bl (decide (i<=j)))
@[simp]def Fm:D->D->O D:=i2 λi j=>Z (.bl (decide (j<i)))
@[simp]def M9:D->D->O D:=i2 λi j=>Z (.bl (decide (j<=i)))
variable {M:Fb}{a b:Expr}{f g:AB}
def
r0(c:JE X a (tP K M H0 f))(hb:JE X b (tP K M H0 g)):JE X (.BinOp a .Sub b pos) (tD K M H0 (Za HN f g)):=#[have c:=c.h;let hb:=hb.h;Li oS (rZ _) c hb]
def
r6(c:JE X a (tP K M H0 f))(hb:JE X b (tP K M H0 g)):JE X (.BinOp a .Mult b pos) (tD K M H0 (Za GV f g)):=#[have c:=c.h;let hb:=hb.h;Li oU (Pf _) c hb]
def
r9(c:JE X a (tP K M H0 f))(hb:JE X b (tP K M H0 g)):JE X (.BinOp a .FloorDiv b pos) (tD K M H0 (Za F4 f g)):=#[have c:=c.h;let hb:=hb.h;Li oV (Pf _) c hb]
def
sd(c:JE X a (tP K M H0 f))(hb:JE X b (tP K M H0 g)):JE X (.BinOp a .Mod b pos) (tD K M H0 (Za Z7 f g)):=#[have c:=c.h;let hb:=hb.h;Li oW (Pf _) c hb]
def
se(c:JE X a (tP K M H0 f))(hb:JE X b (tP K M H0 g)):JE X (.BinOp a .Pow b pos) (tD K M H0 (Za Pg f g)):=#[have c:=c.h;let hb:=hb.h;Li oX (Pf _) c hb]
@[simp]def HP:O D->O D
  |some (.int i)=>Z (.r (-i))
  |_=>J
open J in
def
sf(b:JE X a (tP K M H0 f)):JE X (.UnaryOp .USub a pos) (tD K M H0 λρ=>HP (f ρ)):=#[have b:=b.h;(oR oZ b).θ λl H Q c=>by
 let(ρ,d,R,e,q):=c
 try dsimp only at e q
 unfold HP at e
 split at e
 .next i g=>ext e;show#[ρ,.r i,R,g,λv j s k=>#[i,k.r,q _ j s F3]]
 .cases e]
end
end
section
def Y5(K:Am):R2:=λx y H Q=>∃l b a c,x=.C l/\y=.C b/\BV K H l a/\BV K H b c/\a.a+c.a<=Az/\∀p,H p=J->Q (.C p) (AX H p (.U (a++c)))
def
IE:Ci X (Hj .Add) (Y5 X.K):=by
 intro i s P H x y v u Q R o p zQ;let(l,b,L,M,rfl,rfl,t,w,z,q):=zQ
 ext o
 ext p
 let(c,r,p1,z1):=R.Ϥ t
 let(a,j,A,z2):=R.Ϥ w
 let N:=r.a
 let B:=j.a
 let((cls,C,data,E),k,G,n,hd):=p1.Ω
 let((m,e,data2,f),d,g,n2,h):=A.Ω
 subst G hd g h
 apply concat_meets #[_,k,rfl] #[_,d,rfl] noFill_list_add seq_list_add PySem.F.slot_list_add PySem.F.entry_list_add (PySem.F.args_list_add_2 _ _) (list_addW l b c.I a.I n n2 C e E f (by rw[Ca,Ca];lia)) #[k,d,?_]
 rw[show c.I++a.I=(c++a).I by simp]
 show#[.C _,_,R.lnew (t':=s.ω) (r.ψ j) (D2 ▸ W.kdl_size z),rfl,q _ R.Κ]
def Y6(K:Am):R2:=λx y H Q=>∃l b a c,x=.C l/\y=.C b/\Cf K H l a/\Cf K H b c/\a.a+c.a<=Az /\
 (a=[]->Q (.C b) H)/\(c=[]->Q (.C l) H)/\∀p,H p=J->Q (.C p) (AX H p (.O (a++c)))
def
sh:Ci X (Hj .Add) (Y6 X.K):=by
 intro w s I H x y v u Q zA P L zQ;let(l,b,A,B,rfl,rfl,M,N,R,T,qz,q):=zQ
 ext P
 ext L
 let(c,r,p1,z1):=zA.Ϙ M
 let(a,C,S,z2):=zA.Ϙ N
 let E:=r.a
 let j:=C.a
 let((cls,m,data,o),i,Y',n,hd):=id p1
 let((G,f,data2,g),d,p,n2,t):=id S
 subst Y' hd p t
 by_cases h1:A=[]
 .let k:c.I.Χ=J':=by
   subst h1
   have:c=[]:=Ph.mp E.Ρ
   subst this;rfl
  show concat_meets #[_,i,rfl] #[_,d,rfl] noFill_tuple_add seq_tuple_add PySem.F.slot_tuple_add Y7 (Y8 _ _) (tuple_addW0 l b c.I a.I n n2 m f o g k) #[i,d,#[.C b,H,zA,rfl,T h1]]
 .let k:¬ c.I.Χ=J':=by
   intro z
   have:c=[]:=by exists z
   subst this
   show h1 (Ph.mp E)
  by_cases h2:B=[]
  .let h:a.I.Χ=J':=by
    subst h2
    have:a=[]:=Ph.mp j.Ρ
    subst this;rfl
   show concat_meets #[_,i,rfl] #[_,d,rfl] noFill_tuple_add seq_tuple_add PySem.F.slot_tuple_add Y7 (Y8 _ _) (tuple_addW1 l b c.I a.I n n2 m f o g k h) #[i,d,#[.C l,H,zA,rfl,qz h2]]
  .let h:¬ a.I.Χ=J':=by
    intro z
    have:a=[]:=by exists z
    subst this
    show h2 (Ph.mp j)
   let e:c.I++a.I=(c++a).I:=by simp
   apply concat_meets #[_,i,rfl] #[_,d,rfl] noFill_tuple_add seq_tuple_add PySem.F.slot_tuple_add Y7 (Y8 _ _) (tuple_addW2 l b c.I a.I n n2 m f o g k h (by rw[Ca,Ca];lia)) #[i,d,?_]
   rw[e]
   apply#[.C s.o.E.y,AX H s.o.E.y (.O (A++B)),zA.laid (t':=s.ω) (λb u e=>Bg _ e) (A9 _) ?_,rfl,q _ zA.Κ]
   show#[D2 ▸ W.kdl_size R,c++a,r.ψ C,IsTup.new _ _]
end
@[simp]def Zw:D->D->O D
  |.int i,.int j=>Z (.r (i+j))
  |.str x,.str y=>if x.a+y.a<=Az then Z (.Α (x++y))else J
  |.lst a,.lst b=>if a.a+b.a<=Az then Z (.U (a++b))else J
  |.tup a,.tup b=>if a.a+b.a<=Az then Z (.O (a++b))else J
  |_,_=>J
def Y9(K:Am):R2:=λx y H Q=>HG (λi j=>.r (i+j)) x y H Q\/(∃i j,x=.Α i/\y=.Α j/\i.a+j.a<=Az/\Q (.Α (i++j)) H)\/Y5 K x y H Q\/Y6 K x y H Q
def
si:Ci X (Hj .Add) (Y9 X.K):=J9.or (Fx.or (IE.or sh))
def
aa{K:Am}{N:Fb}{p:Ac}(c:∀a,N a->H a≠J)(b:H p=J)(h:Ad K N H xs vs):Av K N (AX H p (.U vs)) (.U xs) (.C p):=by
 show#[p,vs,rfl,.of (λz=>c p z b) Z5,h.κ (Z2 b)]
def
Ly{K:Am}{N:Fb}{p:Ac}(a:H p=J)(h:Ad K N H xs vs):Av K N (AX H p (.O vs)) (.O xs) (.C p):=by
 show#[p,vs,rfl,Cf.of Z5,h.κ (Z2 a)]
def
sj{K:Am}:D9 K (Y9 K) Zw:=by
 intro N H x y o r d Q s h1 h2 e q
 rcases o with _|_|_|_|_|_|⟨_,_|_⟩<;>(try ext e;done)<;>rcases r with _|_|_|_|_|_|⟨_,_|_⟩<;>try(ext e;done)
 .cases e;show .S #[_,_,h1.r,h2.r,q _ H (Aj.ξ H) F3]
 .let(g,e):=Cy e
  ext e;show .τ (.S #[_,_,h1.Α,h2.Α,g,q _ H (Aj.ξ H) M8])
 .let(g,e):=Cy e
  ext e
  let(a,h,m,k,c):=h1.O
  let(b,i,n,l,f):=h2.O
  apply .τ (.τ (.τ #[a,b,h,i,m,n,k,l,by rw[<- c.a,<- f.a];show g,λz=>?_,λz=>?_,λp j=>q _ _ (Z2 j) (Ly j (c.ψ f))]))
  .show q _ H (Aj.ξ H) #[b,h++i,rfl,z ▸ l,c.ψ f]
  .show q _ H (Aj.ξ H) #[a,h++i,rfl,by rw[z,Du];show k,c.ψ f]
 .let(g,e):=Cy e
  ext e
  let(a,h,m,k,c):=h1
  let(b,i,n,l,f):=h2
  show .τ (.τ (.S #[a,b,h,i,m,n,k,l,by rw[<- c.a,<- f.a];show g,λp j=>q _ _ (Z2 j) (aa s j (c.ψ f))]))
def
sk{M:Fb}{a b:Expr}{f g:AB}(c:JE X a (tP X.K M H0 f))(hb:JE X b (tP X.K M H0 g)):JE X (.BinOp a .Add b pos) (tD X.K M H0 (Za Zw f g)):=#[have c:=c.h;let hb:=hb.h;Li si sj c hb]
def so(K:Am):V->O W'->O W'->Hp->VK->V':=λx lo c H Q=>∃a b,x=.C a/\Cf K H a b/\(Iy b lo c=b->Q (.C a) H)/\∀p,H p=J->Q (.C p) (AX H p (.O (Iy b lo c)))
def
IF:Jo X (so X.K):=by
 intro h s t H x v u w lo e y Q z j k l m zQ;let(a,d,rfl,n,p,q):=zQ
 ext j
 let(f,r,ht,i):=z.Ϙ n
 let c:f.I.y=d.a:=Ca ▸ r.a.Ρ
 apply#["tuple",_,PyProof.Rows.slot_tuple_getitem.X,ht.ϖ,HT.getItem_tuple_cut ht k l m (λg=>#[.C a,H,z,rfl,p ?_]) (λ_=>?_) (c ▸ i)]
 .rw[c]at g
  unfold Iy
  rw[g.1,g.2,List.drop_zero,Nat.sub_zero,List.take_length]
 .rw[c]
  apply#[.C s.o.E.y,_,z.laid (t':=s.ω) (o:=.O (Iy d lo e)) (λb A q=>Bg _ q) (A9 _) ?_,rfl,q _ (z.Ϣ.Κ (A9 _))]
  show#[BX (Yt d lo e) i,_,(r.Ν (HT.sIx d.a 0 lo)).ύ (HT.sIx d.a d.a e-HT.sIx d.a 0 lo),IsTup.new _ _]
@[simp]def Ap:D->D->O D
  |.lst a,.int i=>atI a i
  |.tup a,.int i=>atI a i
  |.str x,.int i=>if x.a<=Az then(atI x.ϐ.R i).j λc=>.Α #[(T' [c])]else J
  |_,_=>J
def
Ad.atI{K:Am}{N:Fb}{i:W'}{d:D}(h:Ad K N H xs vs)(e:Internal.atI xs i=Z d):∃v,Internal.atI vs i=Z v/\Av K N H d v:=by
 unfold Internal.atI at e ⊢
 rw[<- h.a]
 cases a:FD xs.a i with
 |none=>rw[a]at e;cases e
 |some j=>rw[a]at e;show h.Ι e
open J in
def
sr{K:Am}:D9 K (Yx K) Ap:=by
 intro N H x y k l d Q o h1 h2 e q
 rcases k with _|_|_|_|_|_|⟨_,_|_⟩<;>(try ext e;done)<;>rcases l with _|_|_|_|_|_|⟨_,_|_⟩<;>try(ext e;done)
 .let(m,e):=Cy e
  let(c,n,e):=Cd.mp e
  ext e;show .τ (.τ #[_,_,c,h1.Α,h2.r,m,n,q _ H (Aj.ξ H) M8])
 .let(a,b,f,g,h):=h1.O
  let(v,i,j):=h.atI e
  show .τ (.S #[a,b,_,v,f,h2.r,g,i,q v H (Aj.ξ H) j])
 .let(a,b,f,g,h):=h1
  let(v,i,j):=h.atI e
  show .S #[a,b,_,v,f,h2.r,g,i,q v H (Aj.ξ H) j]
variable {K:Am}{M:Fb}{a b e:Expr}{f g:AB}
def
ss(c:JE X a (tP X.K M H0 f))(hb:JE X b (tP X.K M H0 g))(d:MO b):JE X (.Δ a b pos) (tD X.K M H0 (Za Ap f g)):=#[have c:=c.h;let hb:=hb.h;YS p6 sr c hb d]
def tO(K:Am)(M:Fb)(H0:Hp)(o:VE->O (O W')):TO:=λc H Q=>∃a i,By K M H0 a c H/\o a=Z i/\∀b,Aj H b->Q i b
@[simp]def Dn:O D->O (O W')
  |some (.int i)=>Z (Z i)
  |_=>J
def
PO.mono{e:O Expr}{t t':TO}(h:PO X e t)(m:∀I H Q,t' I H Q->t I H Q):PO X e t':=by
 intro a s I H Q b q
 show h a s I H Q b (m I H Q q)
def
su :JO X J (tO K M H0 λ_=>Z J):=#[PO.θ pU λa H Q ⟨b,i,R,e,q⟩=>by(try dsimp only at e q);ext e;show q H (Aj.ξ H)]
open J in
def
sv(h:JE X e (tP K M H0 f)):JO X (Z e) (tO K M H0 λρ=>Dn (f ρ)):=#[have h:=h.h;PO.θ (pV h) λg H Q a=>by
 let(ρ,i,R,e,q):=a
 try dsimp only at e q
 unfold Dn at e
 split at e
 .next j b=>ext e;show#[ρ,.r j,R,b,λv c s d=>#[j,d.r,q c s]]
 .cases e]
def cutD{a:Type}(xs:U a)(lo b:O W'):U a:=(xs.Ν (HT.sIx xs.a 0 lo)).ύ (HT.sIx xs.a xs.a b-HT.sIx xs.a 0 lo)
@[simp]def DH(x:D)(lo a:O W'):O D:=match x with
  |.lst b=>Z (.U (cutD b lo a))
  |.tup b=>Z (.O (cutD b lo a))
  |.str x=>if x.a<=Az then Z (.Α (Gk x lo a))else J
  |_=>J
def
Ad.cut{K:Am}{N:Fb}(h:Ad K N H xs vs)(lo a:O W'):Ad K N H (cutD xs lo a) (Iy vs lo a):=by
 unfold cutD Iy
 rw[h.a]
 show(h.Ν _).ύ _
@[simp]def Dw{b:Type}(f:AB)(lo c:VE->O (O W'))(F:D->O W'->O W'->O b):VE->O b:=λa=>(f a).L λx=>(lo a).L λl=>(c a).L λh=>F x l h
def
sw{e:Type}{f:AB}{b:VE->O (O W')}{F:D->O W'->O W'->O e}{d:e}(h:Dw f lo b F ρ=Z d):∃x l u,f ρ=Z x/\lo ρ=Z l/\b ρ=Z u/\F x l u=Z d:=by
 unfold Dw at h
 cases a:f ρ with
 |none=>rw[a]at h;cases h
 |some x=>
  cases c:lo ρ with
  |none=>rw[a,c]at h;cases h
  |some l=>
   cases g:b ρ with
   |none=>rw[a,c,g]at h;cases h
   |some u=>rw[a,c,g]at h;show#[x,l,u,rfl,rfl,rfl,h]
def
sx{A B:O Expr}{C:VE->O (O W')}(m:JE X e (tP X.K M H0 f))(n:JO X A (tO X.K M H0 lo))(o:JO X B (tO X.K M H0 C)):JE X (.Δ e (.Slice A B J p2) pos) (tD X.K M H0 (Dw f lo C DH)):=#[have m:=m.h;let n:=n.h;let o:=o.h;(pX (IA.or (IF.or qu)) m n o).θ λP H Q G=>by
 let(r,d,R,ex,q):=G
 let(x,l,u,W,F,L,b):=sw ex
 apply#[r,x,R,W,λv T t c=>#[r,l,R.st t,F,λS w=>#[r,u,(R.st t).st w,L,λY' E=>?_]]]
 let c:=(c.κ w).κ E
 let s:=(t.J w).J E
 unfold DH at b
 split at b
 .cases b
  let(a,i,y,j,k):=c
  show .S #[a,i,y,j,λp g=>q _ _ (s.J (Z2 g)) (aa (R.st s).nh g (k.cut l u))]
 .cases b
  let(a,i,y,j,k):=c.O
  show .τ (.S #[a,i,y,j,λz=>q _ _ s #[a,i,rfl,j,z ▸ k.cut l u],λp g=>q _ _ (s.J (Z2 g)) (Ly g (k.cut l u))])
 .let(N,b):=Cy b
  ext b;show .τ (.τ #[_,c.Α,N,q _ _ s M8])
 .cases b]
end
mutual
def Ba:D->D->jp
 |.non,.non=>J'
 |.bl a,.bl b=>a==b
 |.bl a,.int b=>(if a then 1 else 0)==b
 |.int a,.bl b=>a==(if b then 1 else 0)
 |.int a,.int b=>a==b
 |.str a,.str b=>a==b
 |.tup c,.tup d=>C0 c d
 |.lst c,.lst d=>C0 c d
 |_,_=>O'
def C0:U D->U D->jp
 |[],[]=>J'
 |x::a,y::b=>Ba x y&&C0 a b
 |_,_=>O'
end
@[simp]def AY:Y->D->jp
  |_,.non=>J'
  |_,.bl _=>J'
  |_,.int _=>J'
  |_,.str _=>J'
  |n+1,.tup a=>a.ϔ (AY n)
  |n+1,.lst a=>a.ϔ (AY n)
  |_,_=>O'
mutual
theorem Sk:∀(n:Y)(d:D),AY n d=J'->Ba d d=J'
 |_,.non,_=>id rfl
 |_,.bl _,_=>beq_self_eq_true _
 |_,.int _,_=>beq_self_eq_true _
 |_,.str _,_=>beq_self_eq_true _
 |0,.ty _,h=>by simp[AY]at h
 |_+1,.ty _,h=>by simp[AY]at h
 |0,.tup a,h=>by simp[AY]at h
 |0,.lst a _,h=>by simp[AY]at h
 |n+1,.tup a,h=>Na n a h
 |n+1,.lst a .l,h=>Na n a h
 |n+1,.lst a .d,h=>by simp[AY]at h
 |n+1,.lst a (.i _ _),h=>by simp[AY]at h
theorem Na:∀(n:Y)(xs:U D),xs.ϔ (AY n)=J'->C0 xs xs=J'
 |_,[],_=>id rfl
 |n,x::xs,h=>by
  erw[Jz,C2]at h
  show(C2 _ _).ϡ #[Sk n x h.1,Na n xs h.2]
end
def
So:∀{xs ys:U D},xs.a≠ys.a->C0 xs ys=O'
 |[],[],h=>absurd rfl h
 |[],_::_,_=>id rfl
 |_::_,[],_=>id rfl
 |x::xs,y::ys,h=>by
  change (_&&_)=_
  rw[So (xs:=xs) (ys:=ys) (by exists h),Bool.and_false]
def
Sq:∀{xs ys:U D},xs.a=ys.a->C0 xs ys=(Bf xs.a).ϔ λj=>Ba (xs.B j .Y) (ys.B j .Y)
 |[],[],_=>by simp[C0]
 |[],_::_,h=>by simp at h
 |_::_,[],h=>by simp at h
 |x::xs,y::ys,h=>by
  simp only[C0,Cb,List.range_succ_eq_map,Jz,List.getD_cons_zero,GX,Sq (xs:=xs) (ys:=ys) (by exists h)]
  rfl
variable {s:Ab}
def
Inv.apart(k:Inv X pins I H s){xs:U V}(h:BV X.K H a xs)(h':Cf X.K H a ys):False:=by
 let(d,r,(o,n,e,c,_),_):=k.Ϥ h
 let(b,f,(g,i,j,_),_):=k.Ϙ h'
 simp_all
def
Inv.apartDL(l:Inv X pins I H s){d:U KT}{xs:U V}(h:Rd H a (.dct d xs))(h':BV X.K H a ys):False:=by
 let(_,_,_,o,_,_,e,c,_):=h.ok l.Ϣ
 let(b,f,(g,i,j,k,_),_):=l.Ϥ h'
 simp_all
def
Inv.apartDT(k:Inv X pins I H s){d:U KT}{xs:U V}(h:Rd H a (.dct d xs))(h':Cf X.K H a ys):False:=by
 let(_,_,_,o,_,_,e,c,_):=h.ok k.Ϣ
 let(b,f,(g,i,j,_),_):=k.Ϙ h'
 simp_all
def
Inv.apartIL(l:Inv X pins I H s){C b:Ac}{c:U (Ae×V)}(h:Rd H a (.ins C b c))(h':BV X.K H a ys):False:=by
 let(_,_,_,e,_):=(show Be X.γ X.w H s.o a (.ins C b c)from h.ok l.Ϣ)
 let(d,f,(g,i,j,k,_),_):=l.Ϥ h'
 simp_all
def
Inv.apartIT(k:Inv X pins I H s){C b:Ac}{c:U (Ae×V)}(h:Rd H a (.ins C b c))(h':Cf X.K H a ys):False:=by
 let(_,_,_,e,_):=(show Be X.γ X.w H s.o a (.ins C b c)from h.ok k.Ϣ)
 let(d,f,(g,i,j,_),_):=k.Ϙ h'
 simp_all
def Kn:D->O V
 |.non=>Z .Y
 |.bl b=>Z (.bl b)
 |.int i=>Z (.r i)
 |.str x=>Z (.Α x)
 |.ty n=>Z (.ty n)
 |_=>J
def
sB{d d':D}{w:V}(h:Kn d=Z w)(h':Kn d'=Z w):d=d':=by
 ext d<;>ext h<;>ext d'<;>ext h'<;>rfl
def
Au.av{K:Am}{N:Fb}{d:D}{v:V}(h:Au K N H d v):match Kn d with
  |some w=>v=w
  |none=>∃a,v=.C a:=by
 cases d with
 |lst b c=>ext c<;>(let(a,_,e,_):=h;show#[a,e])
 |tup b=>let(a,_,e,_):=h.O;show#[a,e]
 |non=>show h.Y
 |bl _=>show h.bl
 |int _=>show h.r
 |str _=>show h.Α
 |ty _=>show h.ty
def
Au.at{K:Am}{N c:Fb}{d d':D}{v w:V}(e:Kn d=Z w)(h:Au K N H d v)(h':Au K c H d' v):d=d':=by
 let h:=h.av
 let h':=h'.av
 rw[e]at h
 subst h
 cases b:Kn d' with
 |some u=>rw[b]at h';subst h';show sB e b
 |none=>rw[b]at h';let(a,z):=h';subst z;ext d<;>ext e
def
Au.at'{K:Am}{N:Fb}{d':D}(h':Au K N H d' (.C a)):Kn d'=J:=by
 let h:=h'.av
 cases e:Kn d' with
 |none=>rfl
 |some w=>rw[e]at h;subst h;ext d'<;>ext e
mutual
/-- what an address denotes is one thing -/
theorem ac(w:Inv X pins I H s){N u:Fb}:∀(n:Y)(d d':D)(v:V),AY n d=J'->Au X.K N H d v->Au X.K u H d' v->d=d'
 |_,.non,d',v,_,h,c=>Au.at rfl h c
 |_,.bl _,d',v,_,h,c=>Au.at rfl h c
 |_,.int _,d',v,_,h,c=>Au.at rfl h c
 |_,.str _,d',v,_,h,c=>Au.at rfl h c
 |_,.ty _,d',v,_,h,c=>Au.at rfl h c
 |0,.tup g,d',v,o,h,c=>by simp[AY]at o
 |0,.lst g _,d',v,o,h,c=>by simp[AY]at o
 |n+1,.tup g,d',v,o,h,c=>by
  let(a,p,e,q,r):=h.O
  subst e
  let z:=c.at'
  cases d' with
  |tup m=>
   let(b,j,e,f,k):=c.O
   ext e
   have:=w.tuple_inj q f
   subst this
   rw[Nb w n g m p o r k]
  |lst _ t=>
   cases t with
   |l=>let(b,j,e,f,_):=c;ext e;show(w.apart f q).Ζ
   |d=>let(b,j,e,f,_):=c;ext e;show(w.apartDT f q).Ζ
   |i=>let(b,j,e,f,_):=c;ext e;show(w.apartIT f q).Ζ
  |_=>cases z
 |n+1,.lst g .d,d',v,o,h,c=>by simp[AY]at o
 |n+1,.lst g (.i _ _),d',v,o,h,c=>by simp[AY]at o
 |n+1,.lst g .l,d',v,o,h,c=>by
  let(a,p,e,q,r):=h
  subst e
  let z:=c.at'
  cases d' with
  |tup m=>let(b,j,e,f,k):=c.O;ext e;show(w.apart q f).Ζ
  |lst m t=>
   cases t with
   |d=>let(b,j,e,f,k):=c;ext e;show(w.apartDL f q).Ζ
   |i=>let(b,j,e,f,k):=c;ext e;show(w.apartIL f q).Ζ
   |l=>
    let(b,j,e,f,k):=c
    ext e
    have:=w.list_inj q f
    subst this
    rw[Nb w n g m p o r k]
  |_=>ext z
theorem Nb(i:Inv X pins I H s){N b:Fb}:∀(n:Y)(xs ys:U D)(vs:U V),xs.ϔ (AY n)=J'->Ad X.K N H xs vs->Ad X.K b H ys vs->xs=ys
 |_,[],ys,vs,_,h,a=>by
  erw[Ad]at h;subst h
  cases ys with
  |nil=>rfl
  |cons y ys=>erw[Ad]at a;let(_,_,e,_):=a;cases e
 |n,x::xs,ys,vs,o,h,a=>by
  erw[Jz,C2]at o
  erw[Ad]at h
  let(v,r,e,q,t):=h
  subst e
  cases ys with
  |nil=>erw[Ad]at a;cases a
  |cons y ys=>
   erw[Ad]at a
   let(f,g,e,c,d):=a
   ext e
   rw[ac i n x y v o.1 q.p c.p,Nb i n xs ys r o.2 t d]
end
open SeqAt
def
Eb{a:Type}{xs:U a}{j:Y}{d e:a}(h:xs[j]?=Z e):xs.B j d=e:=by simp[List.getD_eq_getElem?_getD,h]
def
ae{a:U Aa}{j:Y}(h1:j<a.I.y)(e:a[j]?=Z u):a.I[j]=u:=by
 let(_,e):=BR.mp e
 exists e
def Pj(A:Af)(s:Ab)(u v:Aa)(b:jp):V':=RcAt A s u v b/\EqAt A s u v b/\RcNeAt A s u v (!b)
def
Nc(A:Af):A.in1.η=A.η+1:=rfl
def
Lz{N:Fb}{x:D}{v:V}(h:Au X.K N H x v)(r:RelV v u)(o:AY 0 x=J'):(x=.Y/\u=.σ)\/(∃b,x=.bl b/\u=.ϝ b)\/(∃i t,x=.r i/\u=.r i t)\/∃c t,x=.Α c/\u=.Α c t:=by
 cases x with
 |non=>cases h.Y;show .S #[rfl,r]
 |bl b=>cases h.bl;show .τ (.S #[b,rfl,r])
 |int i=>cases h.r;let(t,r):=r;show .τ (.τ (.S #[i,t,rfl,r]))
 |str c=>cases h.Α;let(t,r):=r;show .τ (.τ (.τ #[c,t,rfl,r]))
 |_=>simp[AY]at o
def
af(q:Inv X pins I H s){N:Fb}(A:Af)(x y:D)(a d:V)(u v:Aa)(m:A.η+0<As)(e:AY 0 x=J')(f:AY 0 y=J')(g:Au X.K N H x a)(h:Au X.K N H y d)(j:RelV a u)(k:RelV d v):Pj A s u v (Ba x y):=by
 rcases Lz g j e with⟨rfl,rfl⟩|⟨b,rfl,rfl⟩|⟨i,t,rfl,rfl⟩|⟨c,t,rfl,rfl⟩<;>rcases Lz h k f with⟨rfl,rfl⟩|⟨n,rfl,rfl⟩|⟨o,l,rfl,rfl⟩|⟨p,l,rfl,rfl⟩
 .show#[.none_none,.κ _,.none_none]
 .show#[.none_bool _,.none_bool _,.none_bool _]
 .show#[.none_int _ _,.none_int _ _,.none_int _ _]
 .show#[.none_str _ _,.none_str _ _,.none_str _ _]
 .show#[.bool_none _,.bool_none _,.bool_none _]
 .show#[.bool_bool _ _,.bool_bool _ _,.bool_bool _ _]
 .show#[.bool_int _ _ _,.bool_int _ _ _,.bool_int _ _ _]
 .show#[.bool_str _ _ _,.bool_str _ _ _,.bool_str _ _ _]
 .show#[.int_none _ _,.int_none _ _,.int_none _ _]
 .show#[.int_bool _ _ _,.int_bool _ _ _,.int_bool _ _ _]
 .show#[.int_int _ _ _ _,.int_int _ _ _ _,.int_int _ _ _ _]
 .show#[.int_str _ _ _ _,.int_str _ _ _ _,.int_str _ _ _ _]
 .show#[.str_none _ _,.str_none _ _,.str_none _ _]
 .show#[.str_bool _ _ _,.str_bool _ _ _,.str_bool _ _ _]
 .show#[.str_int _ _ _ _,.str_int _ _ _ _,.str_int _ _ _ _]
 .show#[.str_str _ _ _ _,.str_str _ _ _ _,.str_str _ _ _ _]
def
Nd(S:Inv X pins I H s){N:Fb}:∀(n:Y)(A:Af)(x y:D)(vx vy:V)(u v:Aa),A.η+n<As->AY n x=J'->AY n y=J'->Au X.K N H x vx->Au X.K N H y vy->RelV vx u->RelV vy v->Pj A s u v (Ba x y):=by
 intro n
 induction n with
 |zero=>show af S
 |succ n ih=>
  intro A x y vx vy u v hu ox oy hx hy rx ry
  let h:A.η<As:=EQ hu
  let P:∀{g k:U D} {B ws:U V} {m F:U Aa},g.ϔ (AY n)=J'->k.ϔ (AY n)=J'->Ad X.K N H g B->Ad X.K N H k ws->Aq B m->Aq ws F->m.a=g.a/\F.a=k.a/\∀j (h1:j<m.I.y) (h2:j<F.I.y),EqAt A.in1 s m.I[j] F.I[j] (Ba (g.B j .Y) (k.B j .Y)):=λox oy Q T Y' r2=>by
   let l1:=Q.a.J Y'.a
   let l2:=T.a.J r2.a
   apply#[l1.Ρ,l2.Ρ,λj h1 h2=>?_]
   let C:=h1
   let G:=h2
   rw[Ca]at C G
   rw[<- l1]at C
   rw[<- l2]at G
   let(w1,hw1,dw1):=Q.Ι (Cc C)
   let(w2,hw2,dw2):=T.Ι (Cc G)
   let(u1,hu1,ru1):=Y'.Ι hw1
   let(u2,hu2,ru2):=r2.Ι hw2
   rw[ae h1 hu1,ae h2 hu2,Eb (Cc C),Eb (Cc G)]
   show(ih A.in1 _ _ _ _ _ _ (by rw[Nc];lia) (Dc.mp ox _ (Hq C)) (Dc.mp oy _ (Hq G)) dw1.p dw2.p ru1 ru2).2.1
  let con:∀{x:D} {v:V} {u:Aa},AY (n+1) x=J'->Au X.K N H x v->RelV v u->AY 0 x=J'\/(∃g a B m,x=.O g/\u=.C a/\g.ϔ (AY n)=J'/\Cf X.K H a B/\Ad X.K N H g B/\Aq B m/\s.o.IsTuple a m.I)\/∃g a B m,x=.U g/\u=.C a/\g.ϔ (AY n)=J'/\BV X.K H a B/\Ad X.K N H g B/\Aq B m/\s.o.IsList a m.I:=λ{x v u} o h r=>by
   cases x with
   |tup g=>let(a,B,rfl,q,d):=h.O;let(m,z,p,_):=S.Ϙ q;show .τ (.S #[g,a,B,m,rfl,r,o,q,d,z,p])
   |lst g f=>
    cases f with
    |l=>let(a,B,rfl,q,d):=h;let(m,z,p,_):=S.Ϥ q;show .τ (.τ #[g,a,B,m,rfl,r,o,q,d,z,p.Ω])
    |_=>simp[AY]at o
   |ty _=>simp[AY]at o
   |_=>show .S rfl
  rcases con ox hx rx with L|⟨g,a1,B,m,rfl,rfl,L,q1,Q,Y',p1⟩|⟨g,a1,B,m,rfl,rfl,L,q1,Q,Y',p1⟩<;>rcases con oy hy ry with M|⟨k,a2,ws,F,rfl,rfl,M,q2,T,r2,w⟩|⟨k,a2,ws,F,rfl,rfl,M,q2,T,r2,w⟩
  .show af S A x y vx vy u v h L M hx hy rx ry
  .rcases Lz hx rx L with⟨rfl,rfl⟩|⟨b,rfl,rfl⟩|⟨i,t,rfl,rfl⟩|⟨c,t,rfl,rfl⟩<;>change RcAt _ _ _ _ O'/\EqAt _ _ _ _ O'/\RcNeAt _ _ _ _ J'<;>apply⟨?_,?_,?_⟩<;>with_reducible first|show .none_tuple w h|show .bool_tuple _ w h|show .int_tuple _ _ w h|show .str_tuple _ _ w h
  .rcases Lz hx rx L with⟨rfl,rfl⟩|⟨b,rfl,rfl⟩|⟨i,t,rfl,rfl⟩|⟨c,t,rfl,rfl⟩<;>change RcAt _ _ _ _ O'/\EqAt _ _ _ _ O'/\RcNeAt _ _ _ _ J'<;>apply⟨?_,?_,?_⟩<;>with_reducible first|show .none_list w h|show .bool_list _ w h|show .int_list _ _ w h|show .str_list _ _ w h
  .rcases Lz hy ry M with⟨rfl,rfl⟩|⟨b,rfl,rfl⟩|⟨i,t,rfl,rfl⟩|⟨c,t,rfl,rfl⟩<;>change RcAt _ _ _ _ O'/\EqAt _ _ _ _ O'/\RcNeAt _ _ _ _ J'<;>apply⟨?_,?_,?_⟩<;>with_reducible first|show .tuple_none p1 h|show .tuple_bool _ p1 h|show .tuple_int _ _ p1 h|show .tuple_str _ _ p1 h
  .let(l1,l2,E):=P L M Q T Y' r2
   let k1:=RcAt.tuples (e:=λj=>Ba (g.B j .Y) (k.B j .Y)) p1 w h E
   let k2:=RcNeAt.tuples (e:=λj=>Ba (g.B j .Y) (k.B j .Y)) p1 w h E
   let e:((Bf (min m.I.y F.I.y)).ϔ (λj=>Ba (g.B j .Y) (k.B j .Y))&&m.I.y==F.I.y)=C0 g k:=by
    rw[Ca,Ca,l1,l2]
    by_cases R:g.a=k.a
    .rw[Sq R,R,Nat.min_self];simp
    .rw[So R,show(g.a==k.a)=O' by simp;show W.neN R,Bool.and_false]
   rw[e]at k1 k2
   change Pj _ _ _ _ (C0 g k)
   apply#[k1,?_,k2]
   by_cases ea:a1=a2
   .subst ea
    cases S.tuple_inj q1 q2
    rw[Nb S n g k _ L Q T,Na n k M]
    show .κ _
   .show .of_refs ea k1
  .change RcAt _ _ _ _ O'/\EqAt _ _ _ _ O'/\RcNeAt _ _ _ _ J';apply#[?_,?_,?_]<;>show .tuple_list p1 w h
  .rcases Lz hy ry M with⟨rfl,rfl⟩|⟨b,rfl,rfl⟩|⟨i,t,rfl,rfl⟩|⟨c,t,rfl,rfl⟩<;>change RcAt _ _ _ _ O'/\EqAt _ _ _ _ O'/\RcNeAt _ _ _ _ J'<;>apply⟨?_,?_,?_⟩<;>with_reducible first|show .list_none p1 h|show .list_bool _ p1 h|show .list_int _ _ p1 h|show .list_str _ _ p1 h
  .change RcAt _ _ _ _ O'/\EqAt _ _ _ _ O'/\RcNeAt _ _ _ _ J';apply#[?_,?_,?_]<;>show .list_tuple p1 w h
  .let(l1,l2,E):=P L M Q T Y' r2
   change Pj _ _ _ _ (C0 g k)
   let rc:RcAt A s (.C a1) (.C a2) (C0 g k)/\RcNeAt A s (.C a1) (.C a2) (!C0 g k):=by
    by_cases R:g.a=k.a
    .let hs:m.I.y=F.I.y:=by rw[Ca,Ca,l1,l2,R]
     let k1:=RcAt.lists (e:=λj=>Ba (g.B j .Y) (k.B j .Y)) p1 w hs h E
     let k2:=RcNeAt.lists (e:=λj=>Ba (g.B j .Y) (k.B j .Y)) p1 w hs h E
     rw[Ca,l1,<- Sq R]at k1 k2
     show#[k1,k2]
    .rw[So R]
     let hne:(m.I.y != F.I.y)=J':=by rw[Ca,Ca];simp;lia
     show#[.lists_lengths p1 w hne h,.lists_lengths p1 w hne h]
   apply#[rc.1,?_,rc.2]
   by_cases ea:a1=a2
   .subst ea
    cases S.list_inj q1 q2
    rw[Nb S n g k _ L Q T,Na n k M]
    show .κ _
   .show .of_refs ea rc.1
end
def ZV:Y:=12
@[simp]def Ce(x y:D):O D:=if AY ZV x&&AY ZV y then Z (.bl (Ba x y))else J
@[simp]def CL(x y:D):O D:=if AY ZV x&&AY ZV y then Z (.bl (!Ba x y))else J
def Pl(K:Am)(neg:jp):R2:=λx y H Q=>∃N a b,Au K N H a x/\Au K N H b y/\AY ZV a=J'/\AY ZV b=J'/\Q (.bl (if neg then !Ba a b else Ba a b)) H
variable {K:Am}{M:Fb}{a b:Expr}{f g:AB}
def
ag(h:X.A.η+64<As):Ci X (DD .Eq) (Pl X.K O'):=by
 intro a s i H x y v u Q j b c zQ;let(N,d,e,h1,h2,f,g,q):=zQ
 show(Nd j ZV X.A d e x y v u (by unfold ZV;lia) f g h1 h2 b c).1 X.γ X.w X.xe _ #[.bl _,H,j,rfl,q]
def
ah(h:X.A.η+64<As):Ci X (DD .NotEq) (Pl X.K J'):=by
 intro a s i H x y v u Q j b c zQ;let(N,d,e,h1,h2,f,g,q):=zQ
 show(Nd j ZV X.A d e x y v u (by unfold ZV;lia) f g h1 h2 b c).2.2 X.γ X.w X.xe _ #[.bl _,H,j,rfl,q]
def
ai:D9 K (Pl K O') Ce:=by
 intro N H x y b c d Q f h1 h2 e q
 let(a,e):=Cy e
 rw[C2]at a;ext e;show#[N,b,c,h1,h2,a.1,a.2,q _ H (Aj.ξ H) Ho]
def
aj:D9 K (Pl K J') CL:=by
 intro N H x y b c d Q f h1 h2 e q
 let(a,e):=Cy e
 rw[C2]at a;ext e;show#[N,b,c,h1,h2,a.1,a.2,q _ H (Aj.ξ H) Ho]
def Gn(x:D)(ys:U D):jp:=ys.any λy=>Ba y x
@[simp]def Dx(neg:jp)(x y:D):O D:=match y with
  |.lst a=>if AY ZV x&&a.ϔ (AY ZV)then Z (.bl (if neg then !Gn x a else Gn x a))else J
  |.tup a=>if AY ZV x&&a.ϔ (AY ZV)then Z (.bl (if neg then !Gn x a else Gn x a))else J
  |.str z=>match x with
   |.str w=>Z (.bl (if neg then !(!(MJ z w 0 z.a 1).Χ)else !(MJ z w 0 z.a 1).Χ))
   |_=>J
  |_=>J
def ak(K:Am)(neg:jp):R2:=λx y H Q=>∃N a b c p,Au K N H a x/\y=.C p/\(BV K H p c\/Cf K H p c)/\Ad K N H b c/\AY ZV a=J'/\b.ϔ (AY ZV)=J'/\Q (.bl (if neg then !Gn a b else Gn a b)) H
open Classical in
def Gp(K:Am)(N:Fb)(H:Hp)(x:D)(u:Aa):jp:=decide (∃d w,Au K N H d w/\RelV w u/\Ba d x=J')
def
Sr{a:A1}{s:Ab}(j:Inv X a I H s){N:Fb}{x d:D}{w:V}(hd:Au X.K N H d w)(r:RelV w u){n:Y}(c:AY n d=J'):Gp X.K N H x u=Ba d x:=by
 classical
 cases e:Ba d x with
 |true=>show @decide_eq_true _ (Pc _) #[d,w,hd,r,e]
 |false=>
  apply @decide_eq_false _ (Pc _) ?_
  intro zQ;let(f,h,b,g,i):=zQ
  have:=g.inj r
  subst this
  have:=ac j n d f _ c hd b
  simp_all
def
Ss{a:A1}{I:St}{H:Hp}{s:Ab}(e:Inv X a I H s){N:Fb}{x:D}:∀{ys:U D}{vs:U V}{us:U Aa},Ad X.K N H ys vs->Aq vs us->ys.ϔ (AY ZV)=J'->us.any (Gp X.K N H x)=Gn x ys
 |[],_,_,h,r,_=>by erw[Ad]at h;subst h;ext r;rfl
 |y::ys,_,_,h,r,o=>by
  erw[Jz,C2]at o
  let(v,t,rfl,b,ht):=h
  cases r with
  |cons c d=>
   rw[List.any_cons,Sr e b.p c o.1,Ss e ht d o.2]
   rfl
def
Su{a:A1}{s:Ab}(B:Inv X a I H s){N:Fb}{A:Af}{x:D}{d:V}{v:Aa}(n:A.η+ZV<As)(o:AY ZV x=J')(q:Au X.K N H x d)(t:RelV d v){ys:U D}{us:U Aa}(h:Ad X.K N H ys vs)(r:Aq vs us)(e:ys.ϔ (AY ZV)=J'):
  ∀u∈us,SeqAt.EqAt A s u v (Gp X.K N H x u):=by
 intro u b
 let(j,f):=List.getElem?_of_mem b
 let w:=r.a
 let c:j<vs.a:=by have:=(BR.mp f).1;lia
 let g:=Cc c
 let(z,i,k):=r.Ι g
 rw[f]at i;ext i
 let(y,l,m):=h.get' g
 rw[Sr B m.p k (Dc.mp e y (GO l))]
 show(Nd B ZV A y x _ _ _ _ n (Dc.mp e y (GO l)) o m.p q k t).2.1
def
Sv(b:jp)(o:X.A.η+64<As):Ci X (DD (bif b then .NotIn else .In)) (ak X.K b):=by
 intro j s t H x y v u Q C k m zQ;let(N,c,z,B,p,h1,rfl,d,hd,l,h,q):=zQ
 ext m
 let e:X.A.in1.η+ZV<As:=by rw[Nc];unfold ZV;lia
 rcases d with d|d
 .let(a,r,g,n):=C.Ϥ d
  let f:∀w∈a.I,_:=λw i=>Su C e l h1 k hd r h w (by exists i)
  ext b
  all_goals
   first|apply SeqAt.in_listAt (Gp X.K N H c) g.Ω f ⟨.bl _,H,C,rfl,?_⟩|apply SeqAt.notIn_listAt (Gp X.K N H c) g.Ω f ⟨.bl _,H,C,rfl,?_⟩
   rw[show a.I.any (Gp X.K N H c)=a.any (Gp X.K N H c) by simp,Ss C hd r h]
   show q
 .let(a,r,g,n):=C.Ϙ d
  let f:∀w∈a.I,_:=λw i=>Su C e l h1 k hd r h w (by exists i)
  ext b
  all_goals
   first|apply SeqAt.in_tupleAt (Gp X.K N H c) g f ⟨.bl _,H,C,rfl,?_⟩|apply SeqAt.notIn_tupleAt (Gp X.K N H c) g f ⟨.bl _,H,C,rfl,?_⟩
   rw[show a.I.any (Gp X.K N H c)=a.any (Gp X.K N H c) by simp,Ss C hd r h]
   show q
def
Sw(b:jp):D9 K (λx y H Q=>ak K b x y H Q\/∃i j,x=.Α i/\y=.Α j/\Q (.bl (if b then !(!(MJ j i 0 j.a 1).Χ)else !(MJ j i 0 j.a 1).Χ)) H) (Dx b):=by
 intro N H x y l m d Q n h1 h2 e q
 unfold Dx at e
 split at e
 .let(c,e):=Cy e
  rw[C2]at c;ext e;let(a,f,g,h,k):=h2;show .S #[N,l,_,f,a,h1,g,.S h,k,c.1,c.2,q _ H (Aj.ξ H) Ho]
 .let(c,e):=Cy e
  rw[C2]at c;ext e;let(a,f,g,h,k):=h2.O;show .S #[N,l,_,f,a,h1,g,.τ h,k,c.1,c.2,q _ H (Aj.ξ H) Ho]
 .split at e
  .cases e;show .τ #[_,_,h1.Α,h2.Α,q _ H (Aj.ξ H) Ho]
  .cases e
 .cases e
@[simp]def Fn(lt:D->D->O jp):U D->U D->O jp
  |[],[]=>Z O'
  |[],_::_=>Z J'
  |_::_,[]=>Z O'
  |x::a,y::b=>if AY ZV x&&AY ZV y then(if Ba x y then Fn lt a b else lt x y)else J
@[simp]def ltN:Y->D->D->O jp
  |_,.int i,.int j=>Z (decide (i<j))
  |_,.str a,.str b=>Z (decide (a.ϐ.R<b.ϐ.R))
  |n+1,.tup c,.tup d=>Fn (ltN n) c d
  |n+1,.lst c .l,.lst d .l=>Fn (ltN n) c d
  |_,_,_=>J
@[simp]def FE(x y:D):O D:=(ltN 6 x y).j D.bl
def am(K:Am):R2:=λx y H Q=>∃N a c b,Au K N H a x/\Au K N H c y/\ltN 6 a c=Z b/\Q (.bl b) H
abbrev ao(X:Cx)(N:Fb)(H:Hp)(s:Ab)(n:Y):V':=∀(A:Af)(x y:D)(a c:V)(u v:Aa)(b:jp),A.η+n+ZV<As->ltN n x y=Z b->Au X.K N H x a->Au X.K N H y c->RelV a u->RelV c v ->
  ∀(prog:AR) (d:Ai) (E Q:AQ),Q (.ϝ b) s->wpAny (Ag prog d) A (richCompare .Lt u v) Q E s
def
ap{i:A1}{s:Ab}(S:Inv X i I H s){N:Fb}(n:Y)(M:ao X N H s n)(A:Af)(Y':A.η+n+1+ZV<As){b:jp}:∀(xs ys:U D)(a c:U V)(d f:U Aa),Fn (ltN n) xs ys=Z b->Ad X.K N H xs a->Ad X.K N H ys c->Aq a d->Aq c f->FZ A.in1 s d f b:=by
 intro xs
 induction xs with
 |nil=>
  intro ys a c d f h j g v k
  erw[Ad]at j;subst j;ext v
  cases ys with
  |nil=>erw[Ad]at g;subst g;ext k;ext h;show .nn
  |cons y ys=>erw[Ad]at g;let(w,t,e,_,_):=g;subst e;ext k;ext h;show .nc
 |cons x xs z=>
  intro ys a c d f h j g v k
  erw[Ad]at j;let(w1,t1,P,l,B):=j;subst P
  cases v with
  |cons m C=>
   cases ys with
   |nil=>erw[Ad]at g;subst g;ext k;ext h;show .cn
   |cons y ys=>
    erw[Ad]at g;let(w2,t2,T,o,G):=g;subst T
    cases k with
    |cons r F=>
     let(L,h):=Cy h
     rw[C2]at L
     let u:=(Nd S ZV A.in1 x y _ _ _ _ (by rw[Nc];lia) L.1 L.2 l.p o.p m r).2.1
     split at h
     .next e=>rw[e]at u;show .eq u (z ys _ _ _ _ h B G C F)
     .next e=>
      rw[Pm]at e
      rw[e]at u
      show .ne u λprog R E Q q=>M A.in1 x y _ _ _ _ b (by rw[Nc];lia) h l.p o.p m r prog R E Q q
open J in
def
Sx{g:A1}{s:Ab}(R:Inv X g I H s){N:Fb}(n:Y):ao X N H s n:=by
 induction n with
 |zero=>
  intro A x y vx vy u v b hu h e f a c prog i E Q q
  unfold ltN at h
  split at h
  .cases h;rw[e.r]at a;rw[f.r]at c;let(t,rfl):=a;let(l,rfl):=c;show HT.rcLt_int A s _ _ _ _ prog i E Q q
  .cases h;rw[e.Α]at a;rw[f.Α]at c;let(t,rfl):=a;let(l,rfl):=c;show(PyProof.Rows.lt_str q:wpAny (Ag prog i) A (DD .Lt _ _) Q E s)
  .next o=>ext o
  .next o=>ext o
  .cases h
 |succ n ih=>
  intro A x y vx vy u v b hu h e f a c prog i E Q q
  let d:=ap (N:=N) R n ih A ∅ (b:=b)
  unfold ltN at h
  split at h
  .cases h;rw[e.r]at a;rw[f.r]at c;let(t,rfl):=a;let(l,rfl):=c;show HT.rcLt_int A s _ _ _ _ prog i E Q q
  .cases h;rw[e.Α]at a;rw[f.Α]at c;let(t,rfl):=a;let(l,rfl):=c;show(PyProof.Rows.lt_str q:wpAny (Ag prog i) A (DD .Lt _ _) Q E s)
  .next m p r w=>
   ext w
   let(a1,z,B,C,G):=e.O
   let(a2,F,L,M,K):=f.O
   subst B L
   ext a
   ext c
   let(j,T,p1,_):=R.Ϙ C
   let(k,P,p2,_):=R.Ϙ M
   show qy p1 p2 (by exists d p r _ _ _ _ h G K T P) ∅ q
  .next m p r w=>
   ext w
   let(a1,z,B,C,G):=e
   let(a2,F,L,M,K):=f
   subst B L
   ext a
   ext c
   let(j,T,((cls,dd,data,sl),n1,Y',hc1,hdd1,hd1),_):=R.Ϥ C
   let(k,P,((cls2,dd2,data2,sl2),n2,ho2,hc2,hdd2,hd2),_):=R.Ϥ M
   subst hc1 hd1 hc2 hd2
   show qA Y' ho2 (by exists d p r _ _ _ _ h G K T P) ∅ q
  .cases h
def
aq(g:X.A.η+64<As):Ci X (DD .Lt) (am X.K):=by
 intro a s h H x y v u Q i c d zQ;let(N,e,f,b,h1,h2,hb,q):=zQ
 show Sx i 6 X.A e f x y v u b (by unfold ZV;lia) hb h1 h2 c d X.γ X.w X.xe _ #[.bl b,H,i,rfl,q]
def
ar:D9 K (am K) FE:=by
 intro N H x y a c d Q g h1 h2 e q
 let(b,f,e):=Cd.mp e
 ext e;show#[N,a,c,b,h1,h2,f,q _ H (Aj.ξ H) Ho]
end
variable {K:Am}{N:Fb}
def
Paired.one'{a b:Type}{F:a->b->V'}{x:a}{vs:U b}(h:Paired F [x] vs):∃v,vs=[v]/\F x v:=by
 cases h with
 |cons r t=>ext t;show#[_,rfl,r]
def
Paired.two'{a b:Type}{F:a->b->V'}{x y:a}{vs:U b}(h:Paired F [x,y] vs):∃v w,vs=[v,w]/\F x v/\F y w:=by
 cases h with
 |cons r t=>
  let(w,e,q):=Paired.one' t
  subst e
  show#[_,w,rfl,r,q]
@[simp]def ZA:Ex
  |[.lst a]=>Z (.r a.a)
  |[.tup a]=>Z (.r a.a)
  |[.str x]=>if x.a<=Az then Z (.r x.a)else J
  |_=>J
def
au:F1 K (λxs H Q=>∃x n,xs=[x]/\Ya K x H n/\Q (.r n) H) ZA:=by
 intro N H k i d Q l h e q
 rcases i with _|⟨_|_|_|_|_|_|⟨_,_|_⟩,_|_⟩<;>try(ext e;done)
 .let(j,e):=Cy e
  ext e
  let(v,rfl,b):=Paired.one' h
  show#[v,_,rfl,b.Α ▸ #[j,rfl],q _ H (Aj.ξ H) F3]
 .cases e
  let(v,rfl,b):=Paired.one' h
  let(a,c,rfl,f,g):=b.O
  show#[.C a,_,rfl,.τ #[c,f,rfl],g.a ▸ q _ H (Aj.ξ H) F3]
 .cases e
  let(v,rfl,b):=Paired.one' h
  let(a,c,rfl,f,g):=b
  show#[.C a,_,rfl,.S #[c,f,rfl],g.a ▸ q _ H (Aj.ξ H) F3]
@[simp]def Hr:U D->A8
  |[.lst a]=>Z a
  |[.tup a]=>Z a
  |_=>J
def
sC:Lo K (λxs H Q=>∃p ys,xs=[.C p]/\(BV K H p ys\/Cf K H p ys)/\∀l,H l=J->Q (.C l) (AX H l (.U ys))) Hr:=by
 intro N H i j xs Q k h e q
 unfold Hr at e
 split at e
 .cases e
  let(v,rfl,c):=Paired.one' h
  let(a,b,rfl,d,f):=c
  show#[a,b,rfl,.S d,λl g=>q b l g f]
 .cases e
  let(v,rfl,c):=Paired.one' h
  let(a,b,rfl,d,f):=c.O
  show#[a,b,rfl,.τ d,λl g=>q b l g f]
 .cases e
@[simp]def Ec:Ex
  |[.lst a]=>Z (.O a)
  |[.tup a]=>Z (.O a)
  |_=>J
def
sE:F1 K (λxs H Q=>∃p ys,xs=[.C p]/\((BV K H p ys/\∀l,H l=J->Q (.C l) (AX H l (.O ys)))\/(Cf K H p ys/\Q (.C p) H))) Ec:=by
 intro N H j k d Q m h e q
 unfold Ec at e
 split at e
 .cases e
  let(v,rfl,f):=Paired.one' h
  let(a,b,rfl,c,g):=f
  show#[a,b,rfl,.S #[c,λl i=>q _ _ (Z2 i) (Ly i g)]]
 .cases e
  let(v,rfl,f):=Paired.one' h
  let(a,b,rfl,c,g):=f.O
  show#[a,b,rfl,.τ #[c,q _ _ (Aj.ξ H) (by erw[Av];show#[a,b,rfl,c,g])]]
 .cases e
def JC:U D->O (U jp)
 |[]=>Z []
 |.bl b::r=>(JC r).j (b::·)
 |_=>J
def
sF{bs:U jp}(h:JC xs=Z bs):xs=bs.j D.bl:=by
 induction xs generalizing bs with
 |nil=>ext h;rfl
 |cons x r a=>ext x<;>first|ext h;done|(erw[JC,Cd]at h;let(_,e,rfl):=h;rw[a e];rfl)
def
aw:∀{bs:U jp}{vs:U V},Ad K N H (bs.j D.bl) vs->vs=bs.j V.bl
 |[],_,h=>by simpa only[Dv,Ad]using h
 |b::bs,_,h=>by
  let(v,r,e,a,t):=h
  subst e a
  rw[aw t];rfl
@[simp]def Do:Ex
  |[.lst a]=>(JC a).j λbs=>.bl (bs.ϔ id)
  |_=>J
@[simp]def Ko:Ex
  |[.lst a]=>(JC a).j λbs=>.bl (bs.any id)
  |_=>J
open J in
def
ax{b:jp}:F1 K (λxs H Q=>∃(a:Ac)(bs:U jp),xs=[.C a]/\BV K H a (bs.j V.bl)/\Q (.bl (bif b then bs.ϔ id else bs.any id)) H) (bif b then Do else Ko):=by
 intro N H g i d Q j h e q
 ext b
 all_goals
  first|change Do _=_ at e;unfold Do at e|change Ko _=_ at e;unfold Ko at e
  split at e
  .next xs=>
   let(bs,hb,rfl):=Cd.mp e
   let(v,rfl,a,k,rfl,c,f):=Paired.one' h
   rw[sF hb]at f
   rw[aw f]at c
   show#[a,bs,rfl,c,q _ H (Aj.ξ H) Ho]
  .cases e
@[simp]def Pn:Ex
  |[.int i,.int j]=>Z (.r (if j>i then j else i))
  |_=>J
@[simp]def Po:Ex
  |[.int i,.int j]=>Z (.r (if j<i then j else i))
  |_=>J
def
sG:F1 K (λxs H Q=>∃i j,xs=[.r i,.r j]/\Q (.r (if j>i then j else i)) H) Pn:=by
 intro N H c f d Q g h e q
 unfold Pn at e
 split at e
 .cases e
  let(v,w,rfl,a,b):=Paired.two' h
  show#[_,_,by rw[a.r,b.r],q _ H (Aj.ξ H) F3]
 .cases e
def
sH:F1 K (λxs H Q=>∃i j,xs=[.r i,.r j]/\Q (.r (if j<i then j else i)) H) Po:=by
 intro N H c f d Q g h e q
 unfold Po at e
 split at e
 .cases e
  let(v,w,rfl,a,b):=Paired.two' h
  show#[_,_,by rw[a.r,b.r],q _ H (Aj.ξ H) F3]
 .cases e
@[simp]def Ng:Ex
  |[.int i]=>Z (.r i)
  |[.bl k]=>Z (.r (if k then 1 else 0))
  |_=>J
def
sI:F1 K (λxs H Q=>(∃i,xs=[.r i]/\Q (.r i) H)\/∃k,xs=[.bl k]/\Q (.r (if k then 1 else 0)) H) Ng:=by
 intro N H b c d Q f h e q
 unfold Ng at e
 split at e
 .cases e
  let(v,rfl,a):=Paired.one' h
  show .S #[_,by rw[a.r],q _ H (Aj.ξ H) F3]
 .cases e
  let(v,rfl,a):=Paired.one' h
  show .τ #[_,by rw[a.bl],q _ H (Aj.ξ H) F3]
 .cases e
def Gq:U D->O (U W')
 |[]=>Z []
 |.int b::r=>(Gq r).j (b::·)
 |_=>J
def
Sy{bs:U W'}(h:Gq xs=Z bs):xs=bs.j D.r:=by
 induction xs generalizing bs with
 |nil=>ext h;rfl
 |cons x r a=>ext x<;>first|ext h;done|(erw[Gq,Cd]at h;let(_,e,rfl):=h;rw[a e];rfl)
def
Sz:∀(ns:U W'),Gq (ns.j D.r)=Z ns
 |[]=>rfl
 |n::ns=>by erw[AT,Gq,Sz ns];rfl
def
Pp:∀{bs:U W'}{vs:U V},Ad K N H (bs.j D.r) vs->vs=bs.j V.r
 |[],_,h=>by simpa only[Dv,Ad]using h
 |b::bs,_,h=>by
  let(v,r,e,a,t):=h
  subst e a
  rw[Pp t];rfl
end
section
def
sJ(g:X.Ϭ=J'):D8 X (.ρ "sum") (λxs H Q=>∃(a:Ac)(ns:U W'),xs=[.C a]/\BV X.K H a (ns.j V.r)/\Q (.r ns.sum) H):=by
 intro d s o H xs t Q x r zQ;let(a,ns,rfl,h,q):=zQ
 let(u,rfl,i):=El r
 ext i
 let(b,e,p,v):=x.Ϥ h
 let(c,f):=(MN e).allInts.items
 apply sum_intListG (x.ok.hd g) (f ▸ p.Ω) λw j k l=>?_
 let m:ns=c.R.j (·.1):=by
  rw[<- nums_intItems,<- f]
  show(show numsOf b.I.R=ns from(MN e).numsOf).Ρ
 let n:preSum (numAt c) c.y=ns.sum:=by
  rw[preSum_eq,LB (by simp),m]
 rw[n]
 show#[.r ns.sum,H,x.ϟ (t':=j) l,#[_,rfl],q]
def
ay{b:jp}(h:X.Ϭ=J'):D8 X (.ρ (bif b then "min" else "max")) (λxs H Q=>∃(a:Ac)(ns:U W'),xs=[.C a]/\BV X.K H a (ns.j V.r)/\0<ns.a/\∀m,m∈ns->(∀a,a∈ns->bif b then m<=a else a<=m)->Q (.r m) H):=by
 intro i s B H xs C Q F r zQ;let(a,ns,rfl,w,x,q):=zQ
 let(u,rfl,y):=El r
 ext y
 let(z,k,p,E):=F.Ϥ w
 let(d,e):=(MN k).allInts.items
 let f:ns=d.R.j (·.1):=by rw[<- (MN k).numsOf,<- nums_intItems,<- e]
 let c:0<d.y:=by
  grind
 ext b
 all_goals
  first|apply min_intList (F.ok.hd h) (e ▸ p.isList) c λv A l n o=>?_|apply max_intList (F.ok.hd h) (e ▸ p.isList) c λv A l n o=>?_
  let(t,rfl):=intItems_at n
  let h1:=argBest_lt (numAt d) (d.y-1)
  let h2:=argBest_gt (numAt d) (d.y-1)
  apply#[.r _,H,F.ϟ (t':=l) o,#[t,rfl],q _ ?_ λb hb=>?_]
  .rw[f,numAt_eq];show getD_mem (by rw[Bu,RD];lia)
  .rw[f]at hb
   let(j,g,rfl):=mem_getD hb
   rw[Bu,RD]at g
   rw[<- numAt_eq];first|show h1.2 j ((Pq c).ϡ g)|show h2.2 j ((Pq c).ϡ g)
end
def SD:U W'->O W'
 |[]=>J
 |x::a=>Z (a.Λ (λm y=>if y<m then y else m) x)
def SE:U W'->O W'
 |[]=>J
 |x::a=>Z (a.Λ (λm y=>if y>m then y else m) x)
def
az:∀(xs:U W')(x:W'),(xs.Λ (λm y=>if y<m then y else m) x)∈x::xs/\∀a∈x::xs,(xs.Λ (λm y=>if y<m then y else m) x)<=a
 |[],x=>by simp
 |y::d,x=>by
  erw[IG]
  let(h1,h2):=az d (if y<x then y else x)
  let b:=h2 _ A6
  let k1:(if y<x then y else x)<=x:=by split<;>lia
  let k2:(if y<x then y else x)<=y:=by split<;>lia
  apply#[?_,λa c=>?_]
  .rcases Bl.mp h1 with h|h
   .rw[h];split<;>simp
   .show A5 _ (A5 _ h)
  .rcases Bl.mp c with rfl|c
   .show Int.le_trans b k1
   .rcases Bl.mp c with rfl|c
    .show Int.le_trans b k2
    .show h2 a (A5 _ c)
def
aA:∀(xs:U W')(x:W'),(xs.Λ (λm y=>if y>m then y else m) x)∈x::xs/\∀a∈x::xs,a<=(xs.Λ (λm y=>if y>m then y else m) x)
 |[],x=>by simp
 |y::d,x=>by
  erw[IG]
  let(h1,h2):=aA d (if y>x then y else x)
  let b:=h2 _ A6
  let k1:x<=(if y>x then y else x):=by split<;>lia
  let k2:y<=(if y>x then y else x):=by split<;>lia
  apply#[?_,λa c=>?_]
  .rcases Bl.mp h1 with h|h
   .rw[h];split<;>simp
   .show A5 _ (A5 _ h)
  .rcases Bl.mp c with rfl|c
   .show Int.le_trans k1 b
   .rcases Bl.mp c with rfl|c
    .show Int.le_trans k2 b
    .show h2 a (A5 _ c)
def
sK{ns:U W'}{m k:W'}(h:SD ns=Z k)(h1:m∈ns)(h2:∀a,a∈ns->m<=a):m=k:=by
 cases ns with
 |nil=>cases h
 |cons x b=>
  ext h
  let(c,d):=az b x
  have:=h2 _ c
  have:=d _ h1
  lia
def
sL{ns:U W'}{m k:W'}(h:SE ns=Z k)(h1:m∈ns)(h2:∀a,a∈ns->a<=m):m=k:=by
 cases ns with
 |nil=>cases h
 |cons x b=>
  ext h
  let(c,d):=aA b x
  have:=h2 _ c
  have:=d _ h1
  lia
variable {K:Am}
@[simp]def Nh:Ex
  |[.lst a]=>(Gq a).j λns=>.r ns.sum
  |_=>J
@[simp]def Ni:Ex
  |[.lst a]=>((Gq a).L SD).j D.r
  |_=>J
@[simp]def Nj:Ex
  |[.lst a]=>((Gq a).L SE).j D.r
  |_=>J
open J in
def
sM:F1 K (λxs H Q=>∃(a:Ac)(ns:U W'),xs=[.C a]/\BV K H a (ns.j V.r)/\Q (.r ns.sum) H) Nh:=by
 intro N H i j d Q k h e q
 unfold Nh at e
 split at e
 .next xs=>
  cases hb:Gq xs with
  |none=>rw[hb]at e;cases e
  |some bs=>
   rw[hb]at e;ext e
   let(v,rfl,f):=Paired.one' h
   let(a,l,g,b,c):=f
   subst g
   rw[Sy hb]at c
   rw[Pp c]at b
   show#[a,bs,rfl,b,q _ H (Aj.ξ H) F3]
 .cases e
open J in
def
aB{b:jp}:F1 K (λxs H Q=>∃(a:Ac)(ns:U W'),xs=[.C a]/\BV K H a (ns.j V.r)/\0<ns.a/\∀m,m∈ns->(∀a,a∈ns->bif b then m<=a else a<=m)->Q (.r m) H) (bif b then Ni else Nj):=by
 intro N H j l d Q n h e q
 ext b
 all_goals
  first|change Ni _=_ at e;unfold Ni at e|change Nj _=_ at e;unfold Nj at e
  split at e
  .next xs=>
   let(k,i,rfl):=Cd.mp e
   let(bs,hb,c):=BZ.mp i
   let(v,rfl,a,o,rfl,f,g):=Paired.one' h
   rw[Sy hb]at g
   rw[Pp g]at f
   apply#[a,bs,rfl,f,?_,λm h1 h2=>?_]
   .cases bs with
    |nil=>cases c
    |cons=>simp
   .first|rw[sK c h1 h2]|rw[sL c h1 h2]
    show q _ H (Aj.ξ H) F3
  .cases e
@[simp]def LC:D->O String
  |.non=>Z "NoneType"
  |.bl _=>Z "bool"
  |.int _=>Z "int"
  |.str _=>Z "str"
  |.tup _=>Z "tuple"
  |.lst _=>Z "list"
  |.lst _ .d=>J
  |.lst _ (.i _ _)=>J
  |.ty _=>J
def LF(t n:String):jp:=t==n||(t=="bool"&&n=="int")
end
def Hs:U String:=["NoneType","bool","int","str","tuple","list"]
def
aC(K:Am):∀t∈Hs,∀n∈Hs,PySem.W.kitOne K (.ζ t) (.ζ n)=Z (LF t n):=by
 intro t ht n a
 erw[Hs,Bl,HQ,or_false]at ht a
 rcases ht with rfl|rfl|rfl|rfl|rfl|rfl<;>rcases a with rfl|rfl|rfl|rfl|rfl|rfl<;>with_unfolding_all rfl
def
aE(K:Am){t:String}(ht:t∈Hs):∀(ns:U String),(∀n∈ns,n∈Hs)->PySem.W.kitAny K (.ζ t) (ns.j Value.ζ)=Z (ns.any λn=>LF t n)
 |[],_=>rfl
 |n::ns,h=>by
  erw[AT,PySem.W.kitAny,aC K t ht n (h n A6),aE K ht ns λm a=>h m (A5 _ a),List.any_cons]
  cases LF t n<;>rfl
def
aF{d:D}{t:String}(h:LC d=Z t):t∈Hs:=by
 cases d with
 |lst b a=>ext a<;>simp[LC]at h;subst h;simp[Hs]
 |_=>simp[LC]at h<;>subst h<;>simp[Hs]
variable {K:Am}
def
sN{g:A1}{s:Ab}(v:Inv X g I H s){N:Fb}{d:D}{x:V}{t:String}(f:Au X.K N H d x)(c:RelV x u)(ht:LC d=Z t):
  ∃j:Ak->V',PySem.W.KitX X.K u (.ζ t) j/\j s.o/\u≠.ρ "__main__.__loader__#opaque":=by
 cases d with
 |non=>ext ht;rw[f.Y]at c;ext c;show#[_,PySem.W.kitx_none,trivial,λz=>nomatch z]
 |bl b=>ext ht;rw[f.bl]at c;ext c;show#[_,PySem.W.kitx_bool,trivial,λz=>nomatch z]
 |int b=>ext ht;rw[f.r]at c;let(t,rfl):=c;show#[_,PySem.W.kitx_int,trivial,λz=>nomatch z]
 |str b=>ext ht;rw[f.Α]at c;let(t,rfl):=c;show#[_,PySem.W.kitx_str,trivial,λz=>nomatch z]
 |ty n=>cases ht
 |tup k=>
  ext ht
  let(a,m,e,q,r):=f.O
  subst e;ext c
  let(h,_,(o,h1,h2,_),_):=v.Ϙ q
  show#[_,PySem.W.kitx_tuple,#[o,h1,h2],λz=>nomatch z]
 |lst k p=>
  cases p with
  |d=>cases ht
  |i _ _=>cases ht
  |l=>
  ext ht
  let(a,m,e,q,r):=f
  subst e;ext c
  let(h,_,(o,n,h1,h2,_),_):=v.Ϥ q
  show#[_,PySem.W.kitx_list,#[o,h1,h2],λz=>nomatch z]
@[simp]def Dd:D->O (U String)
  |.ty n=>Z [n]
  |.tup a=>tysL a
  |_=>J
where tysL:U D->O (U String)
 |[]=>Z []
 |.ty n::r=>(tysL r).j (n::·)
 |_=>J
def
sO{ns:U String}(h:Dd.tysL xs=Z ns):xs=ns.j D.ty:=by
 induction xs generalizing ns with
 |nil=>ext h;rfl
 |cons x r a=>ext x<;>first|ext h;done|(erw[Dd.tysL,Cd]at h;let(_,e,rfl):=h;rw[a e];rfl)
@[simp]def B5:Ex
  |[x,c]=>(Dd c).L λns=>if(∀n∈ns,n∈Hs)then(LC x).j λt=>.bl (ns.any λn=>LF t n)else J
  |_=>J
def aG(K:Am):U V->Hp->VK->V':=λa H Q=>∃N d c x y ns t,a=[x,y]/\Au K N H d x/\Au K N H c y/\Dd c=Z ns/\(∀n∈ns,n∈Hs)/\LC d=Z t/\Q (.bl (ns.any λn=>LF t n)) H
def
aH{N:Fb}{H:Hp}:∀{ns:U String}{vs:U V},Ad K N H (ns.j D.ty) vs->vs=ns.j V.ty
 |[],_,h=>by simpa only[Dv,Ad]using h
 |b::bs,_,h=>by
  let(v,r,e,a,t):=h
  subst e a
  rw[aH t];rfl
def
aI:∀{ns:U String}{us:U Aa},Aq (ns.j V.ty) us->us=ns.j Value.ζ
 |[],_,r=>by ext r;rfl
 |n::ns,_,r=>by
  cases r with
  |cons a b=>ext a;rw[aI b];rfl
def
aJ:D8 X (.ρ "isinstance") (aG X.K):=by
 intro j s E H l G Q S r zQ;let(N,d,c,x,y,ns,t,rfl,m,k,b,f,ht,q):=zQ
 let(u,F,rfl,o,h):=OU r
 let(L,R,p,g):=sN S m o ht
 cases c with
 |ty n=>
  ext b
  rw[k.ty]at h;ext h
  show PySem.W.kia_one R S.kIn p (aC X.K t (aF ht) n (f n (by simp))) g λi=>#[.bl _,H,S.tok i,rfl,by exists q]
 |tup l=>
  let e:=sO b
  subst e
  let(a,M,e,v,dl):=k.O
  subst e;ext h
  let(w,z,((cls,P,data,T),h1,h2,n,A),_):=S.Ϙ v
  subst h2 A
  let B:=aH dl
  subst B
  let C:=aI z
  subst C
  show PySem.W.kia_tup R S.kIn p h1 (aE X.K (aF ht) ns f) g λi=>#[.bl _,H,S.tok i,rfl,q]
 |non=>cases b
 |bl _=>cases b
 |int _=>cases b
 |str _=>cases b
 |lst _=>ext b
open J in
def
aK:F1 K (aG K) B5:=by
 intro N H i j d Q k h e q
 unfold B5 at e
 split at e
 .next x c=>
  cases a:Dd c with
  |none=>rw[a]at e;cases e
  |some ns=>
   rw[a]at e
   let(b,e):=Cy e
   let(t,ht,e):=Cd.mp e
   ext e
   let(v,w,rfl,f,g):=Paired.two' h
   show#[N,x,c,v,w,ns,t,rfl,f,g,a,b,ht,q _ H (Aj.ξ H) Ho]
 .cases e
def
SF{M:Fb}{x:Ae}{n:String}(a:Gl X x)(b:X.mg x=J)(c:Eh x=Z (.ζ n))(d:⇑(x≠"__name__"))(hd:⇑(DC x)):JE X (.ε x pos) (tD K M H0 λ_=>Z (.ty n)):=#[Lh (nM a b c (v:=.ty n) rfl d hd) λ_ _=>by erw[Av]]
def
sP{M:Fb}{x:Ae}{v:V}{d:D}(b:Gl X x)(h:∃u,X.mg x=Z u/\RelV v u)(hd:∀N H,Av K N H d v)(a:⇑(DC x)):JE X (.ε x pos) (tD K M H0 λ_=>Z d):=#[by
 let(u,c,r):=h
 show Lh (Rz b c r a) hd]
end
variable {K:Am}{M:Fb}{a b c e:Expr}{f g h:AB}
def
vv(i:Y){x:Ae}(a:↥(NV X i x:8)):
  PE X (.ε x pos) (tD K M H0 λρ=>A2 ρ i):=qE a
def
sQ(i:Y){x:Ae}(a:↥(NV X i x:8)):JE X (.ε x pos) (tD K M H0 λρ=>A2 ρ i):=#[vv i a]
def
vp(i:Y){x:Ae}(a:↥(NV X i x:8)):
  PE X (.ε x pos) (tP K M H0 λρ=>Bh ρ i):=qF a
def
aL(i:Y){x:Ae}(a:↥(NV X i x:8)):JE X (.ε x pos) (tP K M H0 λρ=>Bh ρ i):=#[vp i a]
def
sR(i:Y){x:Ae}(a:↥(NV X i x:8)):JE X (.ε x pos) (tQ K M H0 λρ=>Bp ρ i):=#[rF a]
def
va(i:Y){x:Ae}(a:↥(NV X i x:8)):
  PE X (.ε x pos) (Fk K M H0 λρ=>Cp ρ i):=q5 a
def
SH(i:Y){x:Ae}(a:↥(NV X i x:8)):JE X (.ε x pos) (Fk K M H0 λρ=>Cp ρ i):=#[va i a]
def
sS(i:Y){x:Ae}{a:Aw}(b:↥(NV X i x:8)):JS X (.Return (Z (.ε x a)) pos) (tS K M H0 λρ=>ZK (Db ρ i)):=#[Y0 rfl (λ_=>rfl) O8 b]
def
sT(d:X.A.η+64<As)(c:JE X a (tP X.K M H0 f))(hb:JE X b (tP X.K M H0 g)):JE X (.Ο a [.Eq] [b] pos) (tD X.K M H0 (Za Ce f g)):=#[have c:=c.h;let hb:=hb.h;O4 (ag d) ai c hb (HF _ (by ext) (by ext))]
def
sU(d:X.A.η+64<As)(c:JE X a (tP X.K M H0 f))(hb:JE X b (tP X.K M H0 g)):JE X (.Ο a [.Gt] [b] pos) (tD X.K M H0 (Za Fm f g)):=#[have c:=c.h;let hb:=hb.h;O4 X4 (Lw _) c hb (HF _ (by ext) (by ext))]
def
sV(d:X.A.η+64<As)(c:JE X a (tP X.K M H0 f))(hb:JE X b (tP X.K M H0 g))(e:↥(GG .In b=O':15)):JE X (.Ο a [.In] [b] pos) (tD X.K M H0 (Za (Dx O') f g)):=#[have c:=c.h;let hb:=hb.h;O4 ((Sv O' d).or X5) (Sw O') c hb e]
def
sW(d:X.A.η+64<As)(c:JE X a (tP X.K M H0 f))(hb:JE X b (tP X.K M H0 g)):JT X (.Ο a [.Eq] [b] pos) (BU X.K M H0 λρ=>AU (Za Ce f g ρ)):=#[have c:=c.h;let hb:=hb.h;IC (ag d) ai c hb (HF _ (by ext) (by ext))]
def
sX(d:X.A.η+64<As)(c:JE X a (tP X.K M H0 f))(hb:JE X b (tP X.K M H0 g)):JT X (.Ο a [.NotEq] [b] pos) (BU X.K M H0 λρ=>AU (Za CL f g ρ)):=#[have c:=c.h;let hb:=hb.h;IC (ah d) aj c hb (HF _ (by ext) (by ext))]
def
sY(d:X.A.η+64<As)(c:JE X a (tP X.K M H0 f))(hb:JE X b (tP X.K M H0 g)):JT X (.Ο a [.Lt] [b] pos) (BU X.K M H0 λρ=>AU (Za FE f g ρ)):=#[have c:=c.h;let hb:=hb.h;IC (aq d) ar c hb (HF _ (by ext) (by ext))]
def
sZ(d:X.A.η+64<As)(c:JE X a (tP X.K M H0 f))(hb:JE X b (tP X.K M H0 g)):JT X (.Ο a [.Gt] [b] pos) (BU X.K M H0 λρ=>AU (Za Fm f g ρ)):=#[have c:=c.h;let hb:=hb.h;IC X4 (Lw _) c hb (HF _ (by ext) (by ext))]
def
s9(d:X.A.η+64<As)(c:JE X a (tP X.K M H0 f))(hb:JE X b (tP X.K M H0 g)):JT X (.Ο a [.GtE] [b] pos) (BU X.K M H0 λρ=>AU (Za M9 f g ρ)):=#[have c:=c.h;let hb:=hb.h;IC o0 (Lw _) c hb (HF _ (by ext) (by ext))]
def
td(d:X.A.η+64<As)(c:JE X a (tP X.K M H0 f))(hb:JE X b (tP X.K M H0 g))(e:↥(GG .NotIn b=O':15)):JT X (.Ο a [.NotIn] [b] pos) (BU X.K M H0 λρ=>AU (Za (Dx J') f g ρ)):=#[have c:=c.h;let hb:=hb.h;IC ((Sv J' d).or o8) (Sw J') c hb e]
@[simp]def Kp(F b:D->D->O D)(f g h:AB):AB:=λa=>(f a).L λx=>(g a).L λy=>match F x y with
  |some (.bl J')=>(h a).L λz=>b y z
  |some (.bl O')=>Z (.bl O')
  |_=>J
def
tf{r p:R2}{F s:D->D->O D}(t:D9 K r F)(k:D9 K p s){Q:VK}(q:tD K M H0 (Kp F s f g h) I H Q):X7 r p (tP K M H0 f) (tP K M H0 g) (tP K M H0 h) I H Q:=by
 let(b,d,R,e,q):=q
 unfold Kp at e
 cases i:f b with
 |none=>rw[i]at e;cases e
 |some x=>
  cases l:g b with
  |none=>rw[i,l]at e;cases e
  |some y=>
   rw[i,l]at e
   erw[DG]at e
   apply#[b,x,R,i,λv T j h1=>#[b,y,R.st j,l,λu A c h2=>?_]]
   let R2:=(R.st j).st c
   split at e
   .next m=>
    let(z,C,e):=BZ.mp e
    show t _ A v u x y _ _ R2.nh (h1.κ c) h2 m λw B a n=>#[J',by simpa only[Av]using n,Jt #[b,z,R2.st a,C,λE G o W=>k _ G u E y z d Q (((R2.st a).st o)).nh ((h2.same a).same o) W e λP L N S=>q P L ((((j.trans c).trans a).trans o).trans N) S]]
   .next m=>
    ext e
    show t _ A v u x y _ _ R2.nh (h1.κ c) h2 m λw B a n=>#[O',by simpa only[Av]using n,Ju (q _ B ((j.trans c).trans a) Ho)]
   .cases e
def
aM{op d:CmpOp}{r l:R2}{F m:D->D->O D}(n:Ci X (DD op) r)(e:Ci X (DD d) l)(o:D9 K r F)(i:D9 K l m)(j:JE X a (tP K M H0 f))(hb:JE X b (tP K M H0 g))(k:JE X c (tP K M H0 h))(p:↥(lastMarks [op,d] [b,c]=O':15)):JE X (.Ο a [op,d] [b,c] pos) (tD K M H0 (Kp F m f g h)):=#[have j:=j.h;let hb:=hb.h;let k:=k.h;(pb n e j hb k p).θ λ_ _ _ q=>tf o i q]
@[simp]def ZJ:O D->O jp
  |some .non=>Z O'
  |some (.bl b)=>Z b
  |some (.int i)=>Z (i != 0)
  |some (.str y)=>if y.a<=Az then Z ((y.a:W') != 0)else J
  |some (.lst a)=>Z (!a.isEmpty)
  |some (.tup a)=>Z (!a.isEmpty)
  |_=>J
def
Ad.isEmpty{N:Fb}(h:Ad K N H xs vs):vs.Χ=xs.Χ:=by
 cases xs with
 |nil=>erw[Ad]at h;subst h;rfl
 |cons x xs=>erw[Ad]at h;let(_,_,e,_):=h;subst e;rfl
def
ti(i:JE X a (tP X.K M H0 f))(n:↥(∀b,isTrue a X.G b=(do let v <- b;standAt a.pos;Fe [v] (truthy v)):6)):JT X a (BU X.K M H0 λρ=>ZJ (f ρ)):=#[have i:=i.h;(pe i n).θ λt H Q o=>by
  let(ρ,k,R,e,q):=o
  try dsimp only at e q
  rcases g:f ρ with _|(_|_|_|_|_|_|⟨_,_|_⟩)<;>rw[g]at e<;>try(ext e;done)
  .cases e;show#[ρ,_,R,g,λv c s d=>#[_,by rw[d.Y];rfl,q c s]]
  .cases e;show#[ρ,_,R,g,λv c s d=>#[_,by rw[d.bl];rfl,q c s]]
  .cases e;show#[ρ,_,R,g,λv c s d=>#[_,by rw[d.r];rfl,q c s]]
  .let(r,e):=Cy e
   ext e;show#[ρ,_,R,g,λv c s d=>#[_,d.Α ▸ #[r,rfl],q c s]]
  .cases e
   apply#[ρ,_,R,g,λv c s d=>#[_,?_,q c s]]
   let(p,j,rfl,l,m):=d.O
   show .τ #[j,l,by rw[m.Χ]]
  .cases e
   apply#[ρ,_,R,g,λv c s d=>#[_,?_,q c s]]
   let(p,j,rfl,l,m):=d
   show .S #[j,l,by rw[m.Χ]]]
@[simp]def Zn:D->A8
  |.lst a=>Z a
  |.tup a=>Z a
  |.str x=>Z (x.ϐ.R.j λc=>D.Α #[(T' [c])])
  |_=>J
def
tm{l:Expr}(b:JE X l (tQ X.K M H0 f)):JI X tg l (tI X.K M H0 λρ=>(f ρ).L Zn):=#[have b:=b.h;λa s c H g p m=>by
 let(ρ,j,R,e,q):=m
 let(d,k,e):=BZ.mp e
 cases d with
 |lst n o=>
  cases o with
  |d=>cases e
  |i _ _=>cases e
  |l=>show rJ b a s c H g p #[ρ,j,R,by dsimp only;rw[k];show e,q]
 |tup n=>show rK b a s c H g p #[ρ,j,R,by dsimp only;rw[k];show e,q]
 |str x=>show rL b a s c H g p #[ρ,j,R,by dsimp only;rw[k];show e,q]
 |_=>cases e]
@[simp]def LH(i:Y)(o:A8)(ρ:VE):Dm:=match Db ρ i,o with
  |some a,Z b=>if a.a+b.a<=Az then .β (ρ.Ε i (.χ (a++b)))else .ό
  |_,_=>.ό
def
tq{fl:VE->A8}{i:Y}{x:Ae}{c d g:Aw}(k:JE X e (tF K M H0 fl))(w:↥(NV X i x:8))(y:↑(Ej (.Θ (.δ (.ε x c) "extend" d) [e] [] g) J pos.ϥ X.G=Ax O'))(hz:↥(BA X x c "extend" d e g:11)):JS X (.Expr (.Θ (.δ (.ε x c) "extend" d) [e] [] g) pos) (tS K M H0 λρ=>LH i (fl ρ) ρ):=#[have k:=k.h;(OH (Jp Pa PySem.F.slot_list_extend PySem.F.type_list_extend qh (GQ w) (Z0 k Bq hz.s) hz.b hz.f hz.l hz.s hz.p) y).θ λE G H z=>by
  let(ρ,R,q):=z
  cases j:Db ρ i with
  |none=>erw[j,LH]at q;show B0 q
  |some A=>
   cases m:fl ρ with
   |none=>erw[j,m,LH]at q;show B0 q
   |some n=>
    erw[j,m,LH]at q
    split at q
    .next hz=>
     let(a,o,u,z1,z2,z3,z4):=R.ϣ i _ (O8 j)
     apply#[.C a,(AG u),.S #[rfl,o,.S (.S z3)],ρ,n,R,m,λp r L s B t v=>?_]
     let(R2,C):=(R.st s).chg (ys:=A++n) (ws:=o++r) (O8 j) (AG u) ((z4.κ s).ψ (v.nw λb hb=>.S (.S hb)))
     show#[a,p,o,r,rfl,rfl,s _ _ z3,t,by rw[<- z4.a,<- (v.nw λb hb=>.S (.S hb)).a];show hz,q _ _ R2 ((Step.ϑ s).J C)]
    .show B0 q]
end
end Internal
variable{xs:U Internal.D}{ρ:Internal.VE}{fa:Internal.Dl}{fl k':Internal.Kd}{fo:Internal.VE->O Internal.Sl}{fx:Internal.VE->O (Internal.D×Internal.VE)}{lo:Internal.VE->O (O W')}{ff:Internal.VE->O (U Internal.D)}
namespace Internal
def
aN{e:PySem.Expr}{t:TT}(h:JW X e t):JT X e t:=#[h.h.pt]
open PyProof.Rows PySem PySem.Spec
variable {K:Am}
open J in
def aO(K:Am)(r:V->U V->Hp->VK->V')(F:Ae->Ex):V':=∀(N:Fb)(H:Hp)(z:Ae)(c:U V)(e:U D)(d:D)(Q:VK),(∀a,N a->H a≠J)->Paired (Au K N H) e c->F z e=Z d ->
 (∀v b,Aj H b->Av K N b d v->Q v b)->r (.Α z) c H Q
@[simp]def Pr(F:Ae->Ex)(f:AB)(b:Dl):AB:=λa=>match f a with
  |some (.str z)=>((b a).L Gm).L (F z)
  |_=>J
variable {M:Fb}{e:Expr}{f:AB}{name:Ae}{id:String}{r:V->U V->Hp->VK->V'}{F:Ae->Ex}
open J in
def
tu(s:PlainAttrs "str")(slot:Slot "str" name id)(i:typeOf (.ρ id)=Ax (.ζ "method_descriptor"))(t:Kf X id r)(u:aO X.K r F)(j:JE X o (tP X.K M H0 f))(k:JA X (e::es) (CC X.K M H0 fa))(b:↑(FV o name X.G (An o X.G)=An o X.G)) (g:↑(((AD cpos (AL (e::es) X.G)).ϔ (λx=>!x.1)&&(GI cpos (GJ [] X.G)).ϔ (λx=>x.1.μ)
   && decide ((e::es).a+([]:U Em).a+(if([]:U Em).Χ then 0 else 1)<30))=J')) (c:↑((apos.϶==cpos.ϥ)=J')) (y:↥(AL (e::es) X.G=(O',An e X.G)::AL es X.G:7)) (a:↑((AD cpos (AL es X.G)).any (·.1)=O')):JE X (.Θ (.δ o name apos) (e::es) [] cpos) (tD X.K M H0 (Pr F f fa)):=#[have j:=j.h;let k:=k.h;(Jp s slot i t j k b g c y a).θ λW H Q A=>by
 let(l,d,R,ex,q):=A
 unfold Pr at ex
 split at ex
 .next z B=>
  cases m:fa l with
  |none=>rw[m]at ex;cases ex
  |some C=>
   rw[m]at ex
   let(E,G,ex):=BZ.mp ex
   apply#[l,.Α z,R,B,λv Y' n zA=>?_]
   rw[zA.Α]
   show#[rfl,l,C,R.st n,m,λP L p h2=>u _ L z P E d Q ((R.st n).st p).nh (O7 h2 G) ex λw N S T=>q w N ((n.J p).J S) T]
 .cases ex]
end
end
variable {s:Ab}{h':Ak}
def
Inv.turnedL{f:U Ac}(y:Inv X pins I H s)(g:∀b∈f,Gf X pins H b)(k:∀b o,b∉f->s.o.Q b=Z o->h'.Q b=Z o):Inv X pins I H {s with heap:=h' }:=by
 let d:∀b u,H b=Z u->b∉f:=λb u e z=>by rw[(g b z).1]at e;ext e
 apply y.ώ (g':=s.g9) (d':=s.drawn) (t':=s.ω) (ch:=f) (λb hb=>?_) (λb o _ _ a e _=>k b o a e) (λb o _ _ a e _=>#[o.slots,k b o a e]) (λ_ _ _ _ n=>n)
  (λb o a e=>#[o,k b o a e]) (λ_ _ e=>e) (λ_ _ _ e=>e) (λb E e=>#[(T' []),by rw[e];simp]) (λm h=>?_) (λb u e=>?_) y.bare
 .let(_,i,_,j,l,p):=g b hb
  show#[j,i,l,p]
 .let(o,t,w,x,r):=h
  show#[o,t,w,k _ o (λz=>(g _ z).2.1 rfl) x,r]
 .refine(y.Ϣ b u e).stay (λc v a q=>k c v ?_ q) (λ_ q=>q) λ_ _ q=>q
  rcases a with z|z
  .rw[z];show d b u e
  .show d c _ z
def
Inv.yielded{g:U Ac}{p:Ac}(F:Inv X pins I H s)(h:∀b∈g,Gf X pins H b)(k:∀b o,b∉g->s.o.Q b=Z o->h'.Q b=Z o)(i:s.o.E.y<=p)
  (new:Be X.γ X.w (AX H p (.O vs)) h' p (.O vs)):Inv X pins I (AX H p (.O vs)) {s with heap:=h' }:=by
 let d:∀b u,H b=Z u->b∉g:=λb u e z=>by rw[(h b z).1]at e;ext e
 let f:H p=J:=F.Ϣ.Κ i
 apply F.ώ (g':=s.g9) (d':=s.drawn) (t':=s.ω) (ch:=g) (λb hb=>?_) (λb o _ _ a e _=>k b o a e) (λb o _ _ a e _=>#[o.slots,k b o a e]) (λb o _ e n=>?_)
  (λb o a e=>#[o,k b o a e]) (λb j e=>?_) (λb o u e=>?_) (λb N e=>#[(T' []),?_]) (λm l=>?_) (λb u e=>?_) F.bare
 .let(_,t,_,x,y,A):=h b hb
  show#[x,t,y,A]
 .rw[Zt (B6 (BQ (BK e) i))];show n
 .rw[Zt (Z3 e f)];show e
 .rw[Zt (Z3 e f)];show e
 .rw[Zt (Z3 e f),e];simp
 .let(o,B,C,E,r):=l
  show#[o,B,C,k _ o (λz=>(h _ z).2.1 rfl) E,r]
 .by_cases hb:b=p
  .subst hb;rw[Z5]at e;ext e;show new
  .rw[Zt hb]at e
   refine(F.Ϣ b u e).stay (λc v a q=>k c v ?_ q) (λc q=>Zt (Z3 q f) ▸ q) λc j q=>Zt (Z3 q f) ▸ q
   rcases a with z|z
   .rw[z];show d b u e
   .show d c _ z
end
def
tw:Eh "enumerate"=Z (.ζ "enumerate"):=by symm
def ZR:Y->U D->U D
 |_,[]=>[]
 |k,d::a=>.O [.r k,d]::ZR (k+1) a
def
Kq:∀(xs:U D)(k:Y),(ZR k xs).a=xs.a
 |[],_=>rfl
 |_::xs,k=>by simp[ZR,Kq xs]
def
aP:∀(xs:U D)(k i:Y),(ZR k xs)[i]?=(xs[i]?).j λd=>D.O [.r ((k+i:Y):W'),d]
 |[],_,_=>by simp[ZR]
 |x::xs,k,0=>by simp[ZR]
 |x::xs,k,i+1=>by
  erw[ZR,Ht,aP xs]
  rw[show k+1+i=k+(i+1) by lia]
abbrev T3:=KT×V×V
def D4:U T3->U V
 |[]=>[]
 |t::r=>t.2.1::t.2.2::D4 r
def Z9:U T3->KT->O V
 |[],_=>J
 |t::r,k=>if t.1=k then Z t.2.2 else Z9 r k
def HR:U T3->KT->V->U T3
 |[],_,_=>[]
 |t::r,k,v=>(if t.1=k then(t.1,t.2.1,v)else t)::HR r k v
def EA(tr:U T3)(k:KT)(kv v:V):U T3:=if(Z9 tr k).μ=J' then HR tr k v else tr++[(k,kv,v)]
def
aQ(k:KT)(v:V):∀tr:U T3,(HR tr k v).j (·.1)=tr.j (·.1)
 |[]=>rfl
 |t::r=>by
  erw[HR,AT,aQ k v r]
  split<;>rfl
def
aR{k:KT}:∀{tr:U T3},Z9 tr k=J->k∉tr.j (·.1)
 |[],_=>by simp
 |t::r,h=>by
  unfold Z9 at h
  split at h
  .cases h
  .next e=>
   erw[AT,Bl,not_or]
   show#[λz=>e z.Ρ,aR h]
def
LI{tr:U T3}{k:KT}{kv v:V}(h:(tr.j (·.1)).ι):((EA tr k kv v).j (·.1)).ι:=by
 unfold EA
 split
 .rw[aQ];show h
 .next e=>
  rw[De,Nk]
  apply#[h,by simp,λa c b hb=>?_]
  let d:Z9 tr k=J:=by
   simp_all
  grind [aR]
def
aS(k:KT)(v:V):∀tr:U T3,(HR tr k v).a=tr.a
 |[]=>rfl
 |t::r=>by simp[HR,aS k v r]
def
aT(tr:U T3)(k:KT)(kv v:V):(EA tr k kv v).a<=tr.a+1:=by
 unfold EA
 split
 .rw[aS];show Ps tr.a 1
 .simp
def
Hu{a:At}(h:RelV (Ge a) u):Je a u=J':=by
 cases a with
 |non=>ext h;rfl
 |int i=>let(t,rfl):=h;show nl i t
 |str x=>let(t,rfl):=h;show nq x t
def
tx{a:At}(h:Je a u=J'):RelV (Ge a) u:=by
 rcases Jf h with⟨rfl,rfl⟩|⟨i,t,rfl,rfl⟩|⟨x,t,rfl,rfl⟩
 .rfl
 .show#[t,rfl]
 .show#[t,rfl]
abbrev RA:U T3->U (At×Aa)->V':=Paired λt u=>t.1=.at u.1/\t.2.1=Ge u.1/\RelV t.2.2 u.2
def
aU{P:AR}{w:Ai}:∀{tr:U T3}{es:U Iq},J5 w (tr.j (·.1)) (D4 tr) es->(∀t∈tr,∃a,t.1=KT.at a) ->
  ∃us,RA tr us/\Pairs (ZI P w) es us/\∀e∈es,∃k,(ZI P w).is k e.key=J'/\e.hash=(ZI P w).hash k
 |[],es,h,_=>by
  let(_,rfl):=h
  show#[[],.Ϝ,.Ϝ,λ_ z=>nomatch z]
 |t::r,es,h,j=>by
  let(kv,v,q,e,m,d,n,h1,h2,f,b,o):=h
  let(a,l):=j t A6
  erw[D4,Pt]at d
  let(d,g,c):=d
  subst d g n c
  dsimp only at f b
  rw[l]at f b
  let(us,p,s,u):=aU (P:=P) o λt ht=>j t (A5 _ ht)
  let b:t.2.1=Ge a:=b
  rw[b]at h1
  apply#[(a,e.u)::us,.Η #[l,b,h2] p,.Η (Hu h1) rfl s,λx i=>?_]
  rcases Bl.mp i with rfl|i
  .show#[a,Hu h1,f]
  .show u x i
def
tz{P:AR}{w:Ai}{tr:U T3}{us:U (At×Aa)}{es:U Iq}(h:RA tr us)(g:Pairs (ZI P w) es us)(a:∀e∈es,∃k,(ZI P w).is k e.key=J'/\e.hash=(ZI P w).hash k):
  J5 w (tr.j (·.1)) (D4 tr) es:=by
 induction h generalizing es with
 |nil=>ext g;show#[rfl,rfl]
 |@cons t _ r _ h _ b=>
  let(h1,h2,c):=h
  cases g with
  |@cons e _ es _ p1 d f=>
   apply#[t.2.1,t.2.2,D4 r,e,es,rfl,rfl,?_,?_,?_,?_,b f λe i=>a e (A5 _ i)]
   .rw[h2];show tx p1
   .rw[d];show c
   .let(k,j,l):=a e A6
    have:=(ZI P w).inj _ _ _ j p1
    subst this
    dsimp only;rw[h1];show l
   .dsimp only;rw[h1];show h2
def
RA.val{tr:U T3}{us:U (At×Aa)}(h:RA tr us)(a:At):Cz (Z9 tr (.at a)) (valueAt us a):=by
 induction h with
 |nil=>show HJ
 |@cons t u _ _ h _ b=>
  unfold Z9 valueAt
  rw[h.1,List.find?_cons]
  by_cases e:u.1=a
  .rw[if_pos (by rw[e])];erw[e,decide_true];show h.2.2
  .rw[if_neg (λz=>e (KT.at.inj z))];erw[e,decide_false];show b
def
Cz.isS:∀{o:O V}{u:O Aa},Cz o u->o.μ=u.μ
 |some _,Z _,_=>rfl
 |none,J,_=>rfl
 |some _,J,h=>h.Ζ
 |none,Z _,h=>h.Ζ
def
RA.rep{a:At}{v:V}(b:RelV v u){tr:U T3}{us:U (At×Aa)}(h:RA tr us):RA (HR tr (.at a) v) (us.j λkv=>if kv.1=a then(kv.1,u)else kv):=by
 induction h with
 |nil=>show .Ϝ
 |@cons t w _ _ h _ c=>
  apply .Η ?_ c
  let(h1,h2,d):=h
  dsimp only
  by_cases e:w.1=a
  .rw[if_pos e,if_pos (h1.J (congrArg _ e))];show#[h1,h2,b]
  .rw[if_neg e,if_neg λz=>e (KT.at.inj (h1.Ρ.J z))];show#[h1,h2,d]
def
Paired.snoc'{a b:Type}{F:a->b->V'}{x:a}{y:b}(h:F x y){l:U a}{m:U b}(t:Paired F l m):Paired F (l++[x]) (m++[y]):=t.snoc h
def
tE{us:U (At×Aa)}{a:At}:(us.any λkv=>decide (kv.1=a))=(valueAt us a).μ:=by
 unfold valueAt
 grind
def
RA.put{tr:U T3}{us:U (At×Aa)}{a:At}{v:V}(h:RA tr us)(b:RelV v u):RA (EA tr (.at a) (Ge a) v) (stored us a u):=by
 unfold EA stored
 rw[tE,(h.u a).isS]
 by_cases e:(valueAt us a).μ=J'
 .rw[if_pos e,if_pos e];show h.rep b
 .rw[if_neg e,if_neg e];show Paired.snoc' #[rfl,rfl,b] h
def
RA.fst{tr:U T3}{us:U (At×Aa)}(h:RA tr us):tr.j (·.1)=(us.j (·.1)).j KT.at:=by
 induction h with
 |nil=>rfl
 |cons h _ a=>rw[AT,AT,AT,h.1,a]
abbrev RT:U T3->U (U At×Ac×Aa)->V':=Paired λt u=>t.1=.O u.1/\t.2.1=.C u.2.1/\RelV t.2.2 u.2.2
def
aV{P:AR}{w:Ai}:∀{tr:U T3}{es:U Iq},J5 w (tr.j (·.1)) (D4 tr) es->(∀t∈tr,∃l,t.1=KT.O l) ->
  ∃us,RT tr us/\es=us.j (entryOfKey (BW (ZI P w)))
 |[],es,h,_=>by
  let(_,rfl):=h
  show#[[],.Ϝ,rfl]
 |t::r,es,h,f=>by
  let(kv,v,q,(j,k,m),n,b,o,h1,h2,c,d,s):=h
  let(l,g):=f t A6
  erw[D4,Pt]at b
  let(b,e,a):=b
  subst b e o a
  dsimp only at c d
  rw[g]at c d
  let(us,u,x):=aV (P:=P) s λt ht=>f t (A5 _ ht)
  let(p,i):=(d:∃p,t.2.1=.C p)
  rw[i]at h1
  cases(h1:k=Di p)
  apply#[(l,p,m)::us,.Η #[g,i,h2] u,?_]
  rw[AT,<- x]
  have:j=(KT.O l).hash w:=c
  rw[this];rfl
def
tH{P:AR}{w:Ai}{tr:U T3}(h:RT tr us):J5 w (tr.j (·.1)) (D4 tr) (us.j (entryOfKey (BW (ZI P w)))):=by
 induction h with
 |nil=>show#[rfl,rfl]
 |@cons t _ r _ h _ a=>
  apply#[t.2.1,t.2.2,D4 r,_,_,rfl,rfl,?_,h.2.2,?_,?_,a]
  .rw[h.2.1];rfl
  .dsimp only;rw[h.1];rfl
  .dsimp only;rw[h.1];show#[_,h.2.1]
def
RT.val{tr:U T3}(h:RT tr us)(l:U At):Cz (Z9 tr (.O l)) ((atKey us l).j (·.2)):=by
 induction h with
 |nil=>show HJ
 |@cons t u _ _ h _ a=>
  unfold Z9 atKey
  rw[h.1,List.find?_cons]
  by_cases e:u.1=l
  .rw[if_pos (by rw[e])];erw[e,decide_true];show h.2.2
  .rw[if_neg (λz=>e (KT.O.inj z))];erw[e,decide_false];show a
def
RT.rep{l:U At}{v:V}(a:RelV v u){tr:U T3}(h:RT tr us):RT (HR tr (.O l) v) (us.j (putAt l u)):=by
 induction h with
 |nil=>show .Ϝ
 |@cons t w _ _ h _ b=>
  apply .Η ?_ b
  let(h1,h2,c):=h
  unfold putAt
  by_cases e:w.1=l
  .rw[if_pos e,if_pos (h1.J (congrArg _ e))];show#[h1,h2,a]
  .rw[if_neg e,if_neg λz=>e (KT.O.inj (h1.Ρ.J z))];show#[h1,h2,c]
def
RT.put{tr:U T3}{l:U At}{p:Ac}{v:V}(h:RT tr us)(a:RelV v u):RT (EA tr (.O l) (.C p) v) (storedH us l p u):=by
 unfold EA storedH
 let b:=(h.u l).isS
 rw[Pu]at b
 rw[b]
 by_cases e:(atKey us l).μ=J'
 .rw[if_pos e,if_pos e];show h.rep a
 .rw[if_neg e,if_neg e];show Paired.snoc' #[rfl,rfl,a] h
def
RT.fst{tr:U T3}(h:RT tr us):tr.j (·.1)=(us.j (·.1)).j KT.O:=by
 induction h with
 |nil=>rfl
 |cons h _ a=>rw[AT,AT,AT,h.1,a]
def
SI{c d:Type}{f:c->d}(e:∀a b,f a=f b->a=b):∀{l:U c},(l.j f).ι->l.ι
 |[],_=>List.nodup_nil
 |a::l,h=>by
  rw[AT,FA]at h
  rw[FA]
  show#[λz=>h.1 (Bc.ϡ #[a,z,rfl]),SI e h.2]
def EB(K:Am)(H:Hp):KT->V->V'
 |.at a,v=>v=Ge a
 |.tup l,v=>∃p,v=.C p/\Cf K H p (l.j Ge)
def
aX{P:AR}{w:Ai}:∀{a:U At}{us:U Aa},Aq (a.j Ge) us->ItemsAre (ZI P w) a us
 |[],_,r=>by rw[Dv]at r;ext r;show .Ϝ
 |k::a,_,r=>by
  cases r with
  |cons h t=>show .Η (Hu h) (aX t)
def HS:KT->U T3->V'
 |.at _,tr=>∀t∈tr,∃a,t.1=KT.at a
 |.tup _,tr=>∀t∈tr,∃l,t.1=KT.O l
def Cq(K:Am)(H:Hp)(a:Ac)(tr:U T3):V':=Rd H a (.dct (tr.j (·.1)) (D4 tr))/\∀t∈tr,EB K H t.1 t.2.1
variable {s:Ab}{p:Ac}{y v:V}{r:Aa}{o:O V}{A:Af}{tr:U T3}{k:KT}
def
IH{l:U At}(c:Inv X pins I H s)(h:Cf X.K H p (l.j Ge)):(BW (ZI X.γ X.w)).is s.o l p:=by
 let(a,r,(o,h1,h2,n,b),_):=c.Ϙ h
 show#[o,a.I,n,h1,h2,b,by exists aX r]
def
LJ(q:Inv X pins I H s)(h:Cq X.K H a tr)(c:∀t∈tr,∃a,t.1=KT.at a):tr.a<=Az/\(a==He)=O'/\(tr.j (·.1)).ι/\∃us,RA tr us/\s.o.DictOf (ZI X.γ X.w) a us:=by
 let(z,d,nd,o,f,g,i,j,k,l):=h.1.ok q.Ϣ
 let(us,b,m,n):=aU (P:=X.γ) l c
 apply#[by simpa using z,d,nd,us,b,o,f,g,i,j,k,λe p=>n e (by exists p),m,?_]
 rw[b.fst]at nd
 show SI (λ_ _ z=>KT.at.inj z) nd
def
Kr(F:Inv X pins I H s)(h:Cq X.K H a tr)(j:∀t∈tr,∃l,t.1=KT.O l):tr.a<=Az/\(a==He)=O'/\(tr.j (·.1)).ι/\∃us,RT tr us/\s.o.DictOfH (BW (ZI X.γ X.w)) a us:=by
 let(z,k,nd,o,n,d,r,v,y,A):=h.1.ok F.Ϣ
 let(us,f,B):=aV (P:=X.γ) A j
 let c:=nd
 rw[f.fst]at c
 apply#[by simpa using z,k,nd,us,f,o,n,d,r,v,y,B,λx b=>?_,SI (λ_ _ z=>KT.tup.inj z) c]
 let all:∀{l:U T3} {m:U (U At×Ac×Aa)},RT l m->(∀t∈l,EB X.K H t.1 t.2.1)->∀x∈m,(BW (ZI X.γ X.w)).is s.o x.1 x.2.1:=by
  intro l m q
  induction q with
  |nil=>intro _ x b;show nomatch b
  |@cons t u G us g tl C=>
   intro i x b
   rcases Bl.mp b with e|b
   .subst e
    have:=i t A6
    rw[g.1,g.2.1]at this
    let(p,d,E):=this
    ext d
    show IH F E
   .show C (λt ht=>i t (A5 _ ht)) x b
 show all f h.2 x b
def
Cz.to:∀{v:V}{o:O Aa},Cz (Z v) o->∃w,o=Z w/\RelV v w
 |_,Z w,h=>#[w,rfl,h]
 |_,J,h=>h.Ζ
def
tL{Q:AQ}(t:A.η+1<As)(F:Inv X pins I H s)(h:Cq X.K H a tr)(j:HS k tr)(m:EB X.K H k y)(n:RelV y u)(o:Z9 tr k=Z v)(q:∀e r,Inv X pins I H r->RelV v e->Q e r):
  wpAny (Ag X.γ X.w) A (getItem (.C a) u) Q E s:=by
 cases k with
 | «at» b=>
  ext m
  let(z,hd,nd,x,c,f):=LJ F h j
  let h1:=c.u b
  rw[o]at h1
  let(e,g,d):=h1.to
  show wpAny_getItem_of (knd:=ZI X.γ X.w) (Hu n) f.mapOf g (q e _ (F.tok _) d)
 |tup l=>
  let(p,rfl,C):=m
  cases(show u=Di p from n)
  let(z,hd,nd,x,c,f):=Kr F h j
  let h1:=c.u l
  rw[o]at h1
  let(e,g,d):=h1.to
  let(B,G,i):=Cd.mp g
  apply wpAny_getItem_heap (Ks t) (IH F C) f G ?_
  rw[i]
  show q e _ (F.tok _) d
def
aY(c:jp){Q:AQ}(i:A.η+1<As)(g:Inv X pins I H s)(h:Cq X.K H a tr)(j:HS k tr)(m:EB X.K H k y)(f:RelV y u)(q:∀n,Inv X pins I H n->Q (.ϝ (bif c then !(Z9 tr k).μ else(Z9 tr k).μ)) n):
  wpAny (Ag X.γ X.w) A (DD (bif c then .NotIn else .In) u (.C a)) Q E s:=by
 cases k with
 | «at» b=>
  ext m
  let(z,hd,nd,r,d,e):=LJ g h j
  rw[(d.u b).isS]at q
  ext c
  .show wpAny_in_of (knd:=ZI X.γ X.w) (Hu f) hd e.mapOf (q _ (g.tok _))
  .show wpAny_notIn_of (knd:=ZI X.γ X.w) (Hu f) hd e.mapOf (q _ (g.tok _))
 |tup l=>
  let(p,rfl,o):=m
  cases(show u=Di p from f)
  let(z,hd,nd,r,d,e):=Kr g h j
  rw[(d.u l).isS,Pu]at q
  ext c
  .show wpAny_in_heap (Ks i) (IH g o) hd e (q _ (g.tok _))
  .show wpAny_notIn_heap (Ks i) (IH g o) hd e (q _ (g.tok _))
def
LK{h':Ak}{c:HO}(h:Inv X pins I H s)(d:MB (H a))(f:D1 a s.o h')(g:∃q,h'.Q a=Z q)(new:Be X.γ X.w (AX H a c) h' a c):
  Inv X pins I (AX H a c) {s with heap:=h',toks:=t' }:=
 h.write (x:=a) (e:=a) d (.S rfl) (λb q hb z=>(f.2 b hb).J z) g new
def ER(tr:U T3):HO:=.dct (tr.j (·.1)) (D4 tr)
def
SJ{P:AR}{w:Ai}{h':Ak}{us:U (At×Aa)}(z:tr.a<=Az)(hd:(a==He)=O')(nd:(tr.j (·.1)).ι)(b:RA tr us)(c:h'.DictOf (ZI P w) a us):Be P w H' h' a (ER tr):=by
 let(o,d,f,g,h,i,j,k,m):=c
 show#[by simpa using z,hd,nd,o,d,f,g,h,i,tz b k λe l=>j e (by exists l)]
def
SK{P:AR}{w:Ai}{h':Ak}(z:tr.a<=Az)(hd:(a==He)=O')(nd:(tr.j (·.1)).ι)(b:RT tr us)(c:h'.DictOfH (BW (ZI P w)) a us):Be P w H' h' a (ER tr):=by
 let(o,d,e,f,g,h,i,j,k):=c
 apply#[by simpa using z,hd,nd,o,d,e,f,g,h,?_]
 rw[i]
 show tH b
def
aZ(b:jp)(j:A.η+1<As)(G:Inv X pins I H s)(e:H a=Z (ER tr))(g:∀t∈tr,EB X.K H t.1 t.2.1)(L:HS k tr)(M:EB X.K H k y)(B:RelV y u)(x:RelV v r)(F:tr.a<Az)
  (q:∀h' t',Inv X pins I (AX H a (ER (EA tr k y v))) {s with heap:=h',toks:=t' }->D1 a s.o h'->Q () {s with heap:=h',toks:=t' }):wpAny (Ag X.γ X.w) (bif b then A.in1 else A) (bif b then dictSet a u r else setItem (.C a) u r) Q E s:=by
 let i:(EA tr k y v).a<=Az:=by have:=aT tr k y v;lia
 cases k with
 | «at» c=>
  ext M
  let(z,hd,nd,C,f,n):=LJ G #[.S e,g] L
  let o:C.a<=Az:=Hd f ▸ z
  ext b
  .show wpAny_setItem_pairs (knd:=ZI X.γ X.w) (hsz:=o) (Hu B) n λh' d h=>q _ _ (LK G (e ▸ HJ) h (let⟨q,_,_,m,_⟩:=d;#[q,m]) (SJ i hd (LI nd) (f.put x) d)) h
  .show wpAny_dictSet_pairs (knd:=ZI X.γ X.w) (hsz:=o) (Hu B) n λh' d h=>q _ _ (LK G (e ▸ HJ) h (let⟨q,_,_,m,_⟩:=d;#[q,m]) (SJ i hd (LI nd) (f.put x) d)) h
 |tup l=>
  let(p,rfl,N):=M
  cases(show u=Di p from B)
  let(z,hd,nd,C,f,n):=Kr G #[.S e,g] L
  let o:C.a<=Az:=Hd f ▸ z
  ext b
  .show wpAny_setItem_heap (hsz:=o) (Ks j) (IH G N) n λh' d h=>q _ _ (LK G (e ▸ HJ) h (let⟨q,_,_,m,_⟩:=d;#[q,m]) (SK i hd (LI nd) (f.put x) d)) h
  .show wpAny_dictSet_heap (hsz:=o) (Ks j) (IH G N) n λh' d h=>q _ _ (LK G (e ▸ HJ) h (let⟨q,_,_,m,_⟩:=d;#[q,m]) (SK i hd (LI nd) (f.put x) d)) h
end
end Internal
namespace PySem
variable {prog:AR}{w:Ai}{K:Type}[DecidableEq K]{knd:HeapKind prog w K}{A:Af}{s:Ab}
def
tM{d:Ac}{xs:U (K×Ac×Aa)}{k:K}{v:Aa}{Q:AQ}(l:knd.room A)(b:knd.is s.o k a)(r:s.o.DictOfH knd d xs)(hsz:xs.a<=Az)
  (h1:∀p,atKey xs k=Z p->Q p.2 {s with toks:=s.ω+knd.draws k})
  (h2:atKey xs k=J->∀h',h'.DictOfH knd d (storedH xs k a v)->D1 d s.o h'->Q v {s with heap:=h',toks:=s.ω+knd.draws k}):
  wpAny (Ag prog w) A (dictSetDefault d (.C a) v) Q E s:=by
 let(o,y,t,f,u,hd,i,h,m):=r
 unfold dictSetDefault
 try with_reducible apply Fv ?_
 apply Al (knd.pyHash l b ?_)
 apply Al (wpAny_dictFind_heap (s:={s with toks:=s.ω+knd.draws k}) l b f hd i h m ?_ ?_)
 .intro c
  let n:k∉xs.j (·.1):=not_mem_keys_of_get c
  apply Al (Ix (Al (wpAny_updateDictKeys (hz:=by have e:=size_of_entries i;lia) (s:={s with toks:=s.ω+knd.draws k}) f hd (AO (h2 (atKey_none_of_get c) _ #[_,_,t+1,SM _ f (Obj.isFreed_of_dict (Obj.data_mapDictKeys hd _)),
   u.mapDictKeys _,Obj.data_mapDictKeys hd _,?_,?_,?_] (Kt ..))))))
  .rw[storedH_new (atKey_none_of_get c)]
   simp[i,entryOfKey]
  .rw[storedH_new (atKey_none_of_get c)]
   intro x g
   rcases EH.mp g with g|g
   .show knd.keeps (h x g) f hd (Kt ..)
   .erw[Fw]at g
    subst g
    show knd.keeps b f hd (Kt ..)
  .rw[storedH_new (atKey_none_of_get c)]
   grind [De,Nk,AT,Dv,Fw]
 .intro j p q
  apply Al (wpAny_dictEntries (s:={s with toks:=s.ω+knd.draws k}) f hd ?_)
  rw[entry_at i j,q]
  show Al (Ix (AO (h1 p (atKey_of_get m q))))
def
tN{k:K}(d:Ac)(hd:(d==He)=O')(dflt:Aa):
  MeetsIn prog w (F0.«dict.setdefault» #[[.C d,.C a,dflt],[]]) (λA R s=>knd.room A.in1/\∃xs,knd.is s.o k a/\s.o.DictOfH knd d xs/\xs.a<=Az /\
   (∀p,atKey xs k=Z p->R (.ok (.Ϻ p.2)) {s with toks:=s.ω+knd.draws k}) /\
   (atKey xs k=J->∀h',h'.DictOfH knd d (storedH xs k a dflt)->D1 d s.o h'->R (.ok (.Ϻ dflt)) {s with heap:=h',toks:=s.ω+knd.draws k})):=
 .of_wp λA R s g=>by
  let(h,xs,b,f,i,h1,h2):=g
  apply Al ?_
  apply Al (wpAny_notOrdered_dict f.ϖ ?_)
  apply AO ?_
  change wpAny _ _ (if(d==He)=J' then _ else(dictSetDefault d (.C a) dflt >>= _)) _ _ s
  rw[if_neg (hd ▸ MA)]
  show Al (tM h b f i (λp j=>AO #[p.2,rfl,h1 p j]) λl h' c e=>AO #[dflt,rfl,h2 l h' c e])
end
end PySem
namespace Internal
open PySem PySem.Spec PyProof.Rows
def a0(K:Am):R2:=λx y H Q=>∃a tr k v,x=.C a/\Cq K H a tr/\HS k tr/\EB K H k y/\Z9 tr k=Z v/\Q v H
def SN(K:Am)(neg:jp):R2:=λx y H Q=>∃a tr k,y=.C a/\Cq K H a tr/\HS k tr/\EB K H k x/\Q (.bl (neg != (Z9 tr k).μ)) H
def tR(K:Am):OL:=λo i v H Q=>∃a tr k,o=.C a/\H a=Z (ER tr)/\(∀t∈tr,EB K H t.1 t.2.1)/\HS k tr/\EB K H k i/\tr.a<Az/\Q (AX H a (ER (EA tr k i v)))
def tT(K:Am):V->U V->Hp->VK->V':=λx b H Q=>∃a tr k y z,x=.C a/\b=[y,z]/\H a=Z (ER tr)/\(∀t∈tr,EB K H t.1 t.2.1)/\HS k tr/\EB K H k y/\tr.a<Az /\
 (∀v,Z9 tr k=Z v->Q v H)/\(Z9 tr k=J->Q z (AX H a (ER (EA tr k y z))))
def
Cq.typeIs{b:A1}{s:Ab}{tr:U T3}(d:Inv X b I H s)(h:Cq X.K H a tr):s.TypeIs (.C a) "dict":=by
 let(_,_,_,o,_,_,e,c,_):=h.1.ok d.Ϣ
 show#[o,e,c.1]
section
def
tU(o:X.A.η+64<As):Hk X (a0 X.K):=by
 rintro b slice c s f H x y v u Q B g h ⟨a,tr,k,z,rfl,hd,i,j,l,q⟩ m
 ext g
 apply Al ?_
 apply Al (wpAny_specialOf (hd.ϖ B) PySem.F.slot_dict_getitem.X ?_)
 let fin:wpAny (Ag X.γ X.w) X.A (subscripted slice O' (.C a) u) (λr d=>wpAny (Ag X.γ X.w) X.A (letTemporaryGo b (.C a) r >>= λ_=>Ax r) (EP X c f Q) X.xe d) X.xe s:=by
  rw[m]
  show wpAny_operating (tL ∅ B hd i j h l λp t n e=>Al (wpAny_letTemporaryGo (AO #[z,H,n,e,q])))
 show AO (Al fin)
def
a9(h:X.A.η+64<As):Ci X (DD .In) (SN X.K O'):=by
 intro b s i H x y v u Q l c d zQ;let(a,tr,k,rfl,hd,e,f,q):=zQ
 ext d
 show aY O' ∅ l hd e f c λj g=>#[.bl (Z9 tr k).μ,H,g,rfl,by exists q]
def
tV(h:X.A.η+64<As):Ci X (DD .NotIn) (SN X.K J'):=by
 intro b s i H x y v u Q l c d zQ;let(a,tr,k,rfl,hd,e,f,q):=zQ
 ext d
 show aY J' ∅ l hd e f c λj g=>#[.bl (!(Z9 tr k).μ),H,g,rfl,by exists q]
def
ba(n:X.A.η+64<As):XQ X (tR X.K):=by
 intro c s p H o i v r t u Q y d f g zQ;let(a,tr,k,rfl,e,b,h,j,l,q):=zQ
 ext d
 show aZ O' ∅ y e b h j f g l λw x m _=>#[_,m,q]
def
tW(hu:X.A.η+64<As):Kf X "dict.setdefault" (tT X.K):=by
 intro P s I H x xs v h Q W Y' rs zQ;let(a,tr,k,y,z,rfl,rfl,e,i,L,M,hl,N,R):=zQ
 ext Y'
 let(u1,T,rfl,S,o):=rs.two
 let j:(EA tr k y z).a<=Az:=by have:=aT tr k y z;show BX this hl
 cases k with
 | «at» b=>
  ext M
  let(r,m,nd,h,c,n):=LJ W #[.S e,i] L
  let h1:=c.u b
  apply LL bc n.ϖ PySem.F.entry_dict_setdefault (PySem.F.args_dict_setdefault_3 _ _ _) (kt_meets_setdefault (ZI X.γ X.w) a (Hu S) m T)
   #[h,n,(show h.a<=Az by rw[<- Hd c];show r),λv' t=>?_,λu B f g=>?_]
  .rw[t]at h1
   cases d:Z9 tr (.at b)with
   |none=>rw[d]at h1;show h1.Ζ
   |some w=>rw[d]at h1;show#[w,H,W.tok _,h1,N w d]
  .rw[u]at h1
   cases d:Z9 tr (.at b)with
   |some w=>rw[d]at h1;show h1.Ζ
   |none=>
    let C:∃q,B.Q a=Z q:=let⟨q,_,_,E,_⟩:=f;#[q,E]
    show#[z,_,LK W (e ▸ HJ) g C (SJ j m (LI nd) (c.put o) f),o,R d]
 |tup l=>
  let(p,rfl,sq):=M
  cases(show u1=Di p from S)
  let(r,m,nd,h,c,n):=Kr W #[.S e,i] L
  let h1:=c.u l
  apply LL bc n.ϖ PySem.F.entry_dict_setdefault (PySem.F.args_dict_setdefault_3 _ _ _) (tN (knd:=BW (ZI X.γ X.w)) (k:=l) a m T)
   #[Ks ∅,h,IH W sq,n,(show h.a<=Az by rw[<- Hd c];show r),λp' G=>?_,λu B f g=>?_]
  .rw[G]at h1
   cases d:Z9 tr (.O l)with
   |none=>rw[d]at h1;show h1.Ζ
   |some w=>rw[d]at h1;show#[w,H,W.tok _,h1,N w d]
  .rw[u]at h1
   cases d:Z9 tr (.O l)with
   |some w=>rw[d]at h1;show h1.Ζ
   |none=>
    let C:∃q,B.Q a=Z q:=let⟨q,_,_,E,_⟩:=f;#[q,E]
    show#[z,_,LK W (e ▸ HJ) g C (SK j m (LI nd) (c.put o) f),o,R d]
def
Inv.big(b:Inv X pins I H s):He<s.o.E.y:=by
 show Gj (by ext) ((b.mod.glob.keeps b.bk).lt)
def
II:PE X (.Dict [] [] pos) (λ_ H Q=>∀p,H p=J->Q (.C p) (AX H p (ER []))):=λb s c H Q d h=>
 wpAny_Dict_empty #[.C s.o.E.y,_,d.laid (a:=s.o.E.y) (o:=ER []) (t':=s.ω) (λ_ _ q=>Bg _ q) (A9 _)
  #[Fz _,beq_eq_false_iff_ne.ϡ (BF (B6 d.big)),List.nodup_nil,_,(T' []),0,B7 _ rfl,#[rfl,rfl,rfl],rfl,rfl,rfl],rfl,h _ (d.Ϣ.Κ (A9 _))]
end
def Nl:D->O At
 |.non=>Z .Y
 |.int i=>Z (.r i)
 |.str x=>Z (.Α x)
 |_=>J
def LM:U D->O (U At)
 |[]=>Z []
 |d::r=>(Nl d).L λa=>(LM r).j (a::·)
def Df:D->O KT
 |.tup l=>(LM l).j KT.O
 |d=>(Nl d).j KT.at
def aD:At->D
 |.non=>.Y
 |.int i=>.r i
 |.str x=>.Α x
def kD:KT->D
 |.at a=>aD a
 |.tup l=>.O (l.j aD)
def
bd{d:D}{a:At}(h:Nl d=Z a):d=aD a:=by
 unfold Nl at h
 split at h<;>ext h<;>rfl
def
be:∀{l:U D}{b:U At},LM l=Z b->l=b.j aD
 |[],_,h=>by ext h;rfl
 |d::r,b,h=>by
  let(a,h1,h):=BZ.mp h
  let(bs,h2,h):=Cd.mp h
  ext h;rw[AT,<- bd h1,<- be h2]
open J in
def
IJ{d:D}{k:KT}(h:Df d=Z k):d=kD k:=by
 unfold Df at h
 split at h
 .next l=>
  let(b,h1,h):=Cd.mp h
  ext h;rw[be h1];rfl
 .let(a,h1,h):=Cd.mp h
  ext h;rw[bd h1];rfl
def
tY(a:At):Nl (aD a)=Z a:=by ext a<;>rfl
def
bf:∀(l:U At),LM (l.j aD)=Z l
 |[]=>rfl
 |a::l=>by rw[AT];unfold LM;rw[tY,bf l];rfl
def

Nm(k:KT):Df (kD k)=Z k:=by
  cases k with
  | «at» a=>ext a<;>rfl
  |tup l=>show(LM (l.j aD)).j KT.O=_;rw[bf];rfl
def

ZHB:Df .Y=Z (.at .Y):=rfl
def

ZHF(i:W'):Df (.r i)=Z (.at (.r i)):=rfl
def

ZHH(x:Ae):Df (.Α x)=Z (.at (.Α x)):=rfl
def
tZ(a:At):Sc (aD a)=a:=by ext a<;>rfl
def
t0(k:KT):MY (kD k)=k:=by
 cases k with
 | «at» a=>ext a<;>rfl
 |tup l=>
  unfold kD MY
  erw[B4,KT.tup.injEq]
  induction l with
  |nil=>rfl
  |cons a l b=>rw[AT,b];simp[tZ]
abbrev Bd:=U (KT×D)
variable{kvs:Bd}
def Zc:Bd->U D
 |[]=>[]
 |p::r=>kD p.1::p.2::Zc r
def DV:U D->O Bd
 |[]=>Z []
 |k::v::r=>(Df k).L λa=>(DV r).j ((a,v)::·)
 |_=>J
def

Z1:∀kvs:Bd,DV (Zc kvs)=Z kvs
  |[]=>rfl
  |p::r=>by unfold Zc DV;rw[Nm,Z1 r];rfl
def

ZHG:DV []=Z []:=rfl
def
Gr:∀{xs:U D}{kvs:Bd},DV xs=Z kvs->xs=Zc kvs
 |[],_,h=>by ext h;rfl
 |[_],_,h=>by cases h
 |k::v::r,kvs,h=>by
  let(a,h1,h):=BZ.mp h
  let(q,h2,h):=Cd.mp h
  ext h;unfold Zc;rw[<- IJ h1,<- Gr h2]
def
SO:∀kvs:Bd,Jv (Zc kvs)=kvs.j (·.1)
 |[]=>rfl
 |p::r=>by unfold Zc Jv;rw[t0,SO r];rfl
def Zl:Bd->KT->O D
 |[],_=>J
 |t::r,k=>if t.1=k then Z t.2 else Zl r k
def Ep:Bd->KT->D->Bd
 |[],_,_=>[]
 |t::r,k,v=>(if t.1=k then(t.1,v)else t)::Ep r k v
def ZQ(kvs:Bd)(k:KT)(v:D):Bd:=if(Zl kvs k).μ=J' then Ep kvs k v else kvs++[(k,v)]
def ES:KT->jp
 |.at _=>J'
 |_=>O'
def DJ(k:KT)(kvs:Bd):jp:=kvs.ϔ λp=>ES p.1==ES k
variable {K:Am}{N:Fb}
abbrev PD(K:Am)(N:Fb)(H:Hp):Bd->U T3->V':=Paired λp t=>p.1=t.1/\Av K N H (kD p.1) t.2.1/\Av K N H p.2 t.2.2
def
bg{a:At}{v:V}(h:Av K N H (aD a) v):v=Ge a:=by ext a<;>simpa only[aD,Av,Ge]using h
def
bh:∀{l:U At}{vs:U V},Ad K N H (l.j aD) vs->vs=l.j Ge
 |[],_,h=>by simpa only[Dv,Ad]using h
 |a::l,vs,h=>by
  let(v,r,e,h1,h2):=h
  rw[e,bg h1,bh h2];rfl
def
IK{k:KT}{v:V}(h:Av K N H (kD k) v):EB K H k v:=by
 cases k with
 | «at» a=>show bg h
 |tup l=>
  let(p,d,e,b,c):=h
  rw[bh c]at b
  show#[p,e,b]
def
HU{k:KT}{v:V}(h:Au K N H (kD k) v):Av K N H (kD k) v:=by
 cases k with
 | «at» a=>ext a<;>show h
 |tup l=>show h
def
LO:∀{kvs:Bd}{vs:U V},Ad K N H (Zc kvs) vs->∃tr,vs=D4 tr/\PD K N H kvs tr
 |[],vs,h=>#[[],by simpa only[Zc,Ad,D4]using h,.nil]
 |p::r,vs,h=>by
  let(v,t,e,h1,a,f,b,h2,c):=h
  let(tr,d,q):=LO c
  show#[(p.1,v,a)::tr,by rw[e,b,d];rfl,.Η #[rfl,h1,h2] q]
def
PD.flat{tr:U T3}(h:PD K N H kvs tr):Ad K N H (Zc kvs) (D4 tr):=by
 induction h with
 |nil=>show Ad.Ϝ
 |cons h _ a=>show Ad.Η h.2.1 (Ad.Η h.2.2 a)
def
PD.fst{tr:U T3}(h:PD K N H kvs tr):kvs.j (·.1)=tr.j (·.1):=by
 induction h with
 |nil=>rfl
 |cons h _ a=>rw[AT,AT,h.1,a]
def
PD.keys{tr:U T3}(h:PD K N H kvs tr):∀t∈tr,EB K H t.1 t.2.1:=by
 induction h with
 |nil=>show λ_ h=>nomatch h
 |cons h _ b=>
  intro x a
  rcases Bl.mp a with rfl|a
  .rw[<- h.1];show IK h.2.1
  .show b x a
def Ku(K:Am)(N:Fb)(H:Hp):O D->O V->V'
 |some d,Z v=>Av K N H d v
 |none,J=>True
 |_,_=>False
def
PD.val{tr:U T3}(h:PD K N H kvs tr)(k:KT):Ku K N H (Zl kvs k) (Z9 tr k):=by
 induction h with
 |nil=>show HJ
 |cons h _ a=>
  unfold Zl Z9
  rw[h.1]
  split
  .show h.2.2
  .show a
def
Ku.isS:∀{o:O D}{u:O V},Ku K N H o u->o.μ=u.μ
 |some _,Z _,_=>rfl
 |none,J,_=>rfl
 |some _,J,h=>h.Ζ
 |none,Z _,h=>h.Ζ
def
PD.rep{k:KT}{d:D}{v:V}(hd:Av K N H d v){tr:U T3}(h:PD K N H kvs tr):PD K N H (Ep kvs k d) (HR tr k v):=by
 induction h with
 |nil=>show .Ϝ
 |cons h _ a=>
  unfold Ep HR
  rw[h.1]
  apply .Η ?_ a
  split
  .show#[rfl,h.1 ▸ h.2.1,hd]
  .show h
def
PD.put{tr:U T3}{k:KT}{d:D}{kv v:V}(h:PD K N H kvs tr)(a:Av K N H (kD k) kv)(hd:Av K N H d v):PD K N H (ZQ kvs k d) (EA tr k kv v):=by
 unfold ZQ EA
 rw[(h.u k).isS]
 split
 .show h.rep hd
 .show Paired.snoc' #[rfl,a,hd] h
def
PD.hom{k:KT}:∀{kvs:Bd}{tr:U T3},PD K N H kvs tr->DJ k kvs=J'->HS k tr
 |_,_,.nil,_=>by ext k<;>show λ_ h=>nomatch h
 |p::kvs,t::tr,.cons ⟨h1,_,_⟩ r,e=>by
  erw[DJ,Jz,C2]at e
  let f:=PD.hom (k:=k) r e.2
  let d:=e.1
  rw[h1]at d
  cases k with
  | «at» a=>
   intro x c
   rcases Bl.mp c with rfl|c
   .cases c:x.1 with
    | «at» b=>show#[b,rfl]
    |tup l=>rw[c]at d;ext d
   .show f x c
  |tup l=>
   intro x c
   rcases Bl.mp c with rfl|c
   .cases c:x.1 with
    | «at» b=>rw[c]at d;cases d
    |tup l=>show#[l,rfl]
   .show f x c
def
IL(h:Rd H a (.dct (Jv (Zc kvs)) vs))(hd:Ad K N H (Zc kvs) vs):∃tr,Cq K H a tr/\PD K N H kvs tr:=by
 let(tr,rfl,p):=LO hd
 rw[SO,p.fst]at h
 show#[tr,#[h,p.keys],p]
def
JD{tr:U T3}(p:PD K N H kvs tr):CO K .d a (Zc kvs) (D4 tr)=ER tr:=by
 unfold CO ER
 rw[SO,p.fst]
end
def C3:D->D->O D
 |.lst b .d,y=>(DV b).L λa=>(Df y).L λk=>if DJ k a then Zl a k else J
 |_,_=>J
def

Pw(kvs:Bd)(y:D):C3 (.U (Zc kvs) .d) y=(Df y).L λk=>if DJ k kvs then Zl kvs k else J:=by simp[C3]
def

ZGI(y:D):C3 (.U [] .d) y=(Df y).L λk=>J:=by simp[C3,Zl]
def Dp(neg:jp):D->D->O D
 |y,.lst b .d=>(DV b).L λa=>(Df y).L λk=>if DJ k a then Z (.bl (neg != (Zl a k).μ))else J
 |_,_=>J
def

Kv(neg:jp)(kvs:Bd)(y:D):Dp neg y (.U (Zc kvs) .d)=(Df y).L λk=>if DJ k kvs then Z (.bl (neg != (Zl kvs k).μ))else J:=by simp[Dp]
def

ZG5(neg:jp)(y:D):Dp neg y (.U [] .d)=(Df y).L λk=>Z (.bl neg):=by simp[Dp,Zl,DJ]
variable {K:Am}{M:Fb}{e a b:Expr}{f g:AB}
open J in
def
t3:D9 K (a0 K) C3:=by
 intro N H x y n g d Q o h1 h2 e q
 unfold C3 at e
 split at e
 .next s=>
  let(h,i,e):=BZ.mp e
  cases b:Df g with
  |none=>rw[b]at e;cases e
  |some k=>
   rw[b]at e
   let(j,e):=Cy e
   rw[Gr i]at h1
   let(p,t,l,r,hd):=h1
   let(tr,m,f):=IL r hd
   rw[IJ b]at h2
   let a:=f.u k
   rw[e]at a
   cases c:Z9 tr k with
   |none=>rw[c]at a;show a.Ζ
   |some w=>rw[c]at a;show#[p,tr,k,w,l,m,f.hom j,IK (HU h2),c,q w H (Aj.ξ H) a]
 .cases e
open J in
def
SQ{neg:jp}:D9 K (SN K neg) (Dp neg):=by
 intro N H x y c l d Q m h1 h2 e q
 unfold Dp at e
 split at e
 .next n=>
  let(f,g,e):=BZ.mp e
  cases a:Df c with
  |none=>rw[a]at e;cases e
  |some k=>
   rw[a]at e
   let(h,e):=Cy e
   ext e
   rw[Gr g]at h2
   let(p,o,i,r,hd):=h2
   let(tr,j,b):=IL r hd
   rw[IJ a]at h1
   apply#[p,tr,k,i,j,b.hom h,IK (HU h1),?_]
   rw[<- (b.u k).isS]
   show q _ H (Aj.ξ H) Ho
 .cases e
def
t5(d:X.A.η+64<As)(c:JE X a (tP X.K M H0 f))(hb:JE X b (tP X.K M H0 g))(e:MO b):JE X (.Δ a b pos) (tD X.K M H0 (Za C3 f g)):=#[have c:=c.h;let hb:=hb.h;YS (tU d) t3 c hb e]
def
t6(d:X.A.η+64<As)(c:JE X a (tP X.K M H0 f))(hb:JE X b (tP X.K M H0 g))(e:↥(GG .In b=O':15)):JE X (.Ο a [.In] [b] pos) (tD X.K M H0 (Za (Dp O') f g)):=#[have c:=c.h;let hb:=hb.h;O4 (a9 d) SQ c hb e]
def
t7(d:X.A.η+64<As)(c:JE X a (tP X.K M H0 f))(hb:JE X b (tP X.K M H0 g))(e:↥(GG .In b=O':15)):JT X (.Ο a [.In] [b] pos) (BU X.K M H0 λρ=>AU (Za (Dp O') f g ρ)):=#[have c:=c.h;let hb:=hb.h;IC (a9 d) SQ c hb e]
def
t8(d:X.A.η+64<As)(c:JE X a (tP X.K M H0 f))(hb:JE X b (tP X.K M H0 g))(e:↥(GG .NotIn b=O':15)):JT X (.Ο a [.NotIn] [b] pos) (BU X.K M H0 λρ=>AU (Za (Dp J') f g ρ)):=#[have c:=c.h;let hb:=hb.h;IC (tV d) SQ c hb e]
def
t9:JE X (.Dict [] [] pos) (Fi .d K M H0 λ_=>Z []):=#[II.θ λf H Q a p b=>by
 let(g,c,R,e,q):=a
 ext e
 show Lm (xs:=[]) (vs:=[]) (fl:=.d) (Aj.ξ H) b Ad.Ϝ q]
def HV(i:Y)(ok b:O D)(ρ:VE):Dm:=match EO ρ i,ok,b with
 |some c,Z y,Z d=>match DV c,Df y with
  |some a,Z k=>if DJ k a&&decide (a.a<Az)then .β (ρ.Ε i (.χ (Zc (ZQ a k d)) .d))else .ό
  |_,_=>.ό
 |_,_,_=>.ό
open J in
def
ua{i:Y}{x:Ae}{b c:Aw}{j e:Expr}{fi f:AB}(P:X.A.η+64<As)(p:JE X j (tP X.K M H0 fi))(r:JE X e (tD X.K M H0 f))(Q:↥(NV X i x:8))
  (T:↥(∀v,assign (.Δ (.ε x b) j c) X.G v=(do
   let o <- Fe [v] (An (.ε x b) X.G)
   let s <- Fe [v,o] (An j X.G)
   standAt c
   Fe [v,o,s] (setItem o s v)
   release [v,o,s] []):6))
  (S:↑(swapsWithSole [.Δ (.ε x b) j c] e pos.ϥ X.G=Ax O')) (m:↑(swappedStores [.Δ (.ε x b) j c] e X.G=Ax J))
  (h1:↑((GH [.Δ (.ε x b) j c] X.G).j (·.2)=[assign (.Δ (.ε x b) j c) X.G])):
  JS X (.Ϡ [.Δ (.ε x b) j c] e pos) (tS X.K M H0 λρ=>HV i (fi ρ) (f ρ) ρ):=#[have p:=p.h;let r:=r.h;(OO r (XU (GQ Q) p (ba P) T) S m h1).θ λD' I H Y'=>by
 let(ρ,R,q):=Y'
 try dsimp only at q
 unfold HV at q
 split at q
 .next xs y d E t hf=>
  split at q
  .next u k z hk=>
   split at q
   .next B=>
    rw[C2,decide_eq_true_eq]at B
    apply#[ρ,d,R,hf,λv H1 G hv=>?_]
    let C:=R.st G
    let ex:=Gr z
    subst ex
    let(a,vs,W,z1,z2,z3,z4):=C.ϣ i _ (Lp E)
    apply#[.C a,(AG W),ρ,y,C,t,λw H2 l m=>?_]
    let(tr,dc,pd):=IL (K:=X.K) (.S (l _ _ z3)) (z4.κ l)
    let(n,rfl,g):=LO (z4.κ l)
    rw[IJ hk]at m
    let F:=g.put (k:=k) (HU m) (hv.κ l)
    let(L,N):=(C.st l).chg (fl2:=.d) (ys:=Zc (ZQ u k d)) (ws:=D4 (EA n k w v)) (Lp E) (AG W) F.flat
    rw[JD F]at L N
    apply#[a,n,k,rfl,?_,g.keys,g.hom B.1,IK (HU m),Hd g ▸ B.2,q _ _ L ((Step.ϑ (G.J l)).J N)]
    rw[<- JD g]
    show l _ _ z3
   .show B0 q
  .show B0 q
 .show B0 q]
end
def
bi(k:KT)(v:D)(k':KT):∀kvs:Bd,Zl (Ep kvs k v) k'=if k=k' then(Zl kvs k').j (λ_=>v)else Zl kvs k'
 |[]=>by simp[Ep,Zl]
 |t::r=>by
  let a:=bi k v k' r
  grind [Ep,Zl]
def
bj(k:KT):∀(a b:Bd),Zl (a++b) k=match Zl a k with|some v=>Z v|none=>Zl b k
 |[],b=>by simp[Zl]
 |t::r,b=>by
  let c:=bj k r b
  rw[Kj]
  let d:Zl (t::(r++b)) k=if t.1=k then Z t.2 else Zl (r++b) k:=rfl
  let e:Zl (t::r) k=if t.1=k then Z t.2 else Zl r k:=rfl
  rw[d,e]
  by_cases h:t.1=k
  .rw[if_pos h,if_pos h]
  .rw[if_neg h,if_neg h];show c
def
HW(kvs:Bd)(k:KT)(v:D)(k':KT):Zl (ZQ kvs k v) k'=if k=k' then Z v else Zl kvs k':=by
 unfold ZQ
 by_cases h:(Zl kvs k).μ=J'
 .rw[if_pos h,bi]
  by_cases e:k=k'
  .subst e
   cases a:Zl kvs k with
   |none=>rw[a]at h;cases h
   |some w=>rfl
  .rw[if_neg e,if_neg e]
 .grind [bj,Zl]
def
bn{k:KT}{v:D}{p:KT×D}:∀{kvs:Bd},p∈Ep kvs k v->p∈kvs\/p=(k,v)
 |[],h=>nomatch h
 |t::r,h=>by
  unfold Ep at h
  rcases Bl.mp h with a|h
  .by_cases e:t.1=k
   .rw[if_pos e,e]at a;show .τ a
   .rw[if_neg e]at a;subst a;show .S A6
  .rcases bn h with h|h
   .show .S (A5 _ h)
   .show .τ h
def
SR{k:KT}{v:D}{p:KT×D}(h:p∈ZQ kvs k v):p∈kvs\/p=(k,v):=by
 unfold ZQ at h
 split at h
 .show bn h
 .rcases EH.mp h with h|h
  .show .S h
  .show .τ (by exists h)
def
bo(k:KT)(v:D):∀kvs:Bd,(Ep kvs k v).a=kvs.a
 |[]=>rfl
 |t::r=>by simp[Ep,bo k v r]
def
LP(kvs:Bd)(k:KT)(v:D):(ZQ kvs k v).a<=kvs.a+1:=by
 unfold ZQ
 split
 .rw[bo];show Ps (List.a kvs) 1
 .simp
def
Gs(a:At)(h:∀p∈kvs,ES p.1=J'):DJ (.at a) kvs=J':=by
 unfold DJ
 rw[Dc]
 intro p b
 rw[h p b];rfl
def
Kw(l:U At)(h:∀p∈kvs,ES p.1=O'):DJ (.O l) kvs=J':=by
 unfold DJ
 rw[Dc]
 intro p a
 rw[h p a];rfl
def tX(K:Am)(M:Fb)(H0:Hp)(f:VE->O (D×VE)):TE:=λb H Q=>∃e d a,By K M H0 e b H/\f e=Z (d,a) /\
 ∀v c,By K M H0 a b c->Step M (Nf M e b) (Nf M a b) H c->Av K (Nf M a b) c d v->Q v c
def bp(K:Am)(M:Fb)(H0:Hp)(t:VE->O (jp×VE)):TT:=λc H Q=>∃d b a,By K M H0 d c H/\t d=Z (b,a) /\
 ∀e,By K M H0 a c e->Step M (Nf M d c) (Nf M a c) H e->Q b e
def IM(i:Y)(c e:AB):VE->O (D×VE):=λb=>match EO b i,c b,e b with
 |some f,Z y,Z d=>match DV f,Df y with
  |some a,Z k=>if DJ k a&&decide (a.a<Az)then
    (match Zl a k with
    |some v=>Z (v,b)
    |none=>Z (d,b.Ε i (.χ (Zc (ZQ a k d)) .d)))
   else J
  |_,_=>J
 |_,_,_=>J
variable {K:Am}{M:Fb}{e a b ev:Expr}{f g fk fv:AB}
open J in
def
bq{i:Y}{x:Ae}{e g c:Aw}(hu:X.A.η+64<As)(z:JE X ek (tP X.K M H0 fk))(j:JE X ev (tD X.K M H0 fv))(hN:↥(NV X i x:8))
  (l:↑(FV (.ε x e) "setdefault" X.G (An (.ε x e) X.G)=An (.ε x e) X.G))
  (p:↑(((AD c (AL [ek,ev] X.G)).ϔ (λx=>!x.1)&&(GI c (GJ [] X.G)).ϔ (λx=>x.1.μ)
   && decide ([ek,ev].a+([]:U Em).a+(if([]:U Em).Χ then 0 else 1)<30))=J'))
  (m:↑((g.϶==c.ϥ)=J')) (r:↥(AL [ek,ev] X.G=(O',An ek X.G)::AL [ev] X.G:7)) (t:↥(AL [ev] X.G=(O',An ev X.G)::AL [] X.G:7)) (B:↑((AD c (AL [ev] X.G)).any (·.1)=O')):
  JE X (.Θ (.δ (.ε x e) "setdefault" g) [ek,ev] [] c) (tX X.K M H0 (IM i fk fv)):=#[have z:=z.h;let j:=j.h;(Jp br bc PySem.F.type_dict_setdefault (tW hu) (GQ hN) (Z0 z (Z0 j Bq t) r) l p m r B).θ λI H Q z0=>by
  let(Y',d,ρ',R,ex,q):=z0
  unfold IM at ex
  split at ex
  .next xs y dv hr C E=>
   split at ex
   .next n k G zA=>
    let(P,ex):=Cy ex
    rw[C2,decide_eq_true_eq]at P
    let L:=Gr G
    subst L
    let(a,vs,e1,z1,z2,z3,z4):=R.ϣ i _ (Lp hr)
    apply#[.C a,(AG e1),(.τ (.τ #[rfl,_,_,.S z3])),Y',y,R,C,λw H1 s1 N=>#[Y',dv,R.st s1,E,λv H2 S hv=>?_]]
    let s:=s1.J S
    let(tr,rfl,o):=LO (z4.κ s)
    rw[IJ zA]at N
    let b:=o.u k
    apply#[a,tr,k,w,v,rfl,rfl,?_,o.keys,o.hom P.1,IK (HU (N.κ S)),Hd o ▸ P.2,λu T=>?_,λhn=>?_]
    .rw[<- JD o];show s _ _ z3
    .rw[T]at b
     cases f:Zl n k with
     |none=>rw[f]at b;show b.Ζ
     |some d0=>
      rw[f]at b ex
      ext ex
      show q u H2 (R.st s) (Step.ϑ s) b
    .rw[hn]at b
     cases f:Zl n k with
     |some d0=>rw[f]at b;show b.Ζ
     |none=>
      rw[f]at ex
      ext ex
      let pp:=o.put (k:=k) (HU (N.κ S)) hv
      let(R3,W):=(R.st s).chg (fl2:=.d) (ys:=Zc (ZQ n k d)) (ws:=D4 (EA tr k w v)) (Lp hr) (AG e1) pp.flat
      rw[JD pp]at R3 W
      show q v _ R3 ((Step.ϑ s).J W) (Av.ώ W d v hv)
   .cases ex
  .cases ex]
def Nn(fx:VE->O (D×VE))(g:AB):VE->O (jp×VE):=λc=>match fx c with
 |some (d,a)=>match g a with
  |some y=>(AU (CL d y)).j λb=>(b,a)
  |none=>J
 |none=>J
open J in
def
ub(m:X.A.η+64<As)(f:JE X a (tX X.K M H0 fx))(hb:JE X b (tP X.K M H0 g)):JT X (.Ο a [.NotEq] [b] pos) (bp X.K M H0 (Nn fx g)):=#[have f:=f.h;let hb:=hb.h;(X6 (ah m) f hb (HF _ (by ext) (by ext))).θ λn H Q o=>by
 let(r,k,c,R,ex,q):=o
 unfold Nn at ex
 split at ex
 .next d s t=>
  split at ex
  .next y x=>
   let(F,z,ex):=Cd.mp ex
   ext ex
   apply#[r,d,c,R,t,λv L i B C=>#[c,y,i,x,λu E e j=>?_]]
   show aj (Nf M c n) E v u d y (.bl k) _ (i.st e).nh (C.p.κ e) j (Lj z) λw G l N=>by
    show#[k,N,q G ((i.st e).st l) (B.J (Step.ϑ (e.J l)))]
  .cases ex
 .cases ex]
def Px(c:O (jp×VE))(b d:Ao):Dm:=match c with
 |some (J',a)=>b a
 |some (O',a)=>d a
 |none=>.ό
def
uc{c:Expr}{e f:U AE}{t:VE->O (jp×VE)}{g i:Ao}(b:JT X c (bp K M H0 t))(d:JB X e (tS K M H0 g))(hb:JB X f (tS K M H0 i)):JS X (.If c e f pos) (tS K M H0 λρ=>Px (t ρ) g i):=#[have b:=b.h;let d:=d.h;let hb:=hb.h;(OJ b d hb).θ λm n H l=>by
 let(ρ,R,q):=l
 try dsimp only at q
 cases ht:t ρ with
 |none=>rw[ht]at q;show B0 q
 |some p=>
  let(k,a):=p
  rw[ht]at q
  apply#[ρ,k,a,R,ht,λo j S=>?_]
  cases k with
  |true=>apply Jt ?_;show#[a,j,B8.from S q]
  |false=>apply Ju ?_;show#[a,j,B8.from S q]]
end
open PySem.W
section
variable(lt:Y->Y->jp)
structure WO(n:Y):V' where
 asym:∀a b,a<n->b<n->lt a b=J'->lt b a=O'
 neg:∀a b c,a<n->b<n->c<n->lt a c=J'->lt a b=J'\/lt b c=J'
def EC(a b:Y):V':=lt b a=O'
end
variable {lt:Y->Y->jp}{n:Y}(W:WO lt n)
include W
def
WO.refl{a:Y}(b:a<n):EC lt a a:=by
 unfold EC
 cases h:lt a a with
 |false=>rfl
 |true=>have:=W.asym a a b b h;rw[h]at this;ext this
def
WO.trans{a b c:Y}(d:a<n)(hb:b<n)(e:c<n)(h1:EC lt a b)(h2:EC lt b c):EC lt a c:=by
 unfold EC at *
 cases h:lt c a with
 |false=>rfl
 |true=>
  rcases W.neg c b a e hb d h with z|z
  .rw[z]at h2;ext h2
  .rw[z]at h1;ext h1
def
WO.of_lt{a b:Y}(c:a<n)(hb:b<n)(h:lt a b=J'):EC lt a b:=W.asym a b c hb h
end
abbrev Bi(p:Array Y)(i:Y):Y:=p.B i 0
def HX(lt:Y->Y->jp)(p:Array Y)(k:Y):V':=∀i j,i<=j->j<k->EC lt (Bi p i) (Bi p j)
def JH(lt:Y->Y->jp)(p:Array Y)(k:Y):V':=∀i j,i<=j->j<k->EC lt (Bi p j) (Bi p i)
def Eqv(lt:Y->Y->jp)(a b:Y):V':=EC lt a b/\EC lt b a
def Bs(n:Y)(p:Array Y):V':=p.ϲ (Bf n).I
def
Bs.size{n:Y}{p:Array Y}(h:Bs n p):p.y=n:=by have:=h.size_eq;exists this
def
Bs.lt{n:Y}{p:Array Y}(h:Bs n p){i:Y}(d:i<n):Bi p i<n:=by
 let e:=h.y
 let b:i<p.y:=∅
 let c:p[i]∈p:=Array.getElem_mem b
 have:=(h.Υ (a:=p[i])).mp c
 simp at this
 unfold Bi
 rw[Array.getD_eq_getD_getElem?,bt b]
 show this
def
No{p q:Array Y}{i j:Y}(h:p[i]?=q[j]?):Bi p i=Bi q j:=by
 simp_all
def
Np{p:Array Y}{i j:Y}(a:j<=p.y)(k:Y):Bi (kas_rev p i j) k=if i<=k/\k<j then Bi p (i+j-1-k)else Bi p k:=by
 have:=getElem?_mirror_all (xs:=p) (i:=i) (j:=j) a k
 by_cases h:i<=k/\k<j
 .rw[if_pos h]at this ⊢;show No this
 .rw[if_neg h]at this ⊢;show No this
def
bu{p:Array Y}{k d:Y}(a:k<p.y)(hd:d<=k)(i:Y):Bi (bubble p k d) i=if i=k-d then Bi p k else if k-d<i/\i<=k then Bi p (i-1)else Bi p i:=by
 have:=getElem?_bubble (xs:=p) (src:=k) a d hd i
 by_cases h:i=k-d
 .rw[if_pos h]at this ⊢;show No this
 .rw[if_neg h]at this ⊢
  by_cases h2:k-d<i/\i<=k
  .rw[if_pos h2]at this ⊢;show No this
  .rw[if_neg h2]at this ⊢;show No this
def
Bs.rev{n:Y}{p:Array Y}(h:Bs n p)(i j:Y):Bs n (kas_rev p i j):=(mirror_perm p i j _).J h
def
Bs.bub{n:Y}{p:Array Y}(h:Bs n p)(k d:Y):Bs n (bubble p k d):=(bubble_perm p k d).J h
variable {lt:Y->Y->jp}{n:Y}(W:WO lt n){cmp:Y->Y->(jp->Ab->V')->Ab->V'}{s:Ab}(hc:∀i j C,i<n->j<n->C (lt i j) s->cmp i j C s)
include W hc
open J in
def
SU{p:Array Y}(h:Bs n p):∀(f m:Y){Q:Y->Ab->V'},1<=m->m+f<=n->HX lt p m->(∀g,m<=g->g<=m+f->HX lt p g->(g=m+f\/lt (Bi p g) (Bi p (g-1))=J')->Q g s)->DK cmp (kas_asc p f m) Q s
 |0,m,Q,h1,h2,k,q=>by
  rw[kas_asc,DK]
  show q m (A9 _) (Ps m 0) k (.S rfl)
 |f+1,m,Q,h1,h2,k,q=>by
  rw[kas_asc,DK]
  apply hc _ _ _ (h.lt (EQ h2)) (h.lt ∅) ?_
  cases hb:lt (Bi p m) (Bi p (m-1))with
  |true=>
   erw[if_true,DK]
   show q m (A9 _) (Ps m (f+1)) k (.τ hb)
  |false=>
   erw[Fg,if_false]
   apply SU h f (m+1) (Lf h1) ∅ (λi j l o=>?_) λg a b c d=>q g (Nat.le_of_succ_le a) ∅ c (by rcases d with d|d;show .S ∅;show .τ d)
   rcases IN j m with z|z
   .show k i j l z
   .let e:j=m:=SV z o
    subst e
    rcases IN i j with y|y
    .show W.J (h.lt ∅) (h.lt (i:=j-1) ∅) (h.lt (EQ h2)) (k i (j-1) ((Pq h1).ϡ y) (Nat.sub_one_lt_of_lt h1)) hb
    .let e:i=j:=LQ l y
     subst e
     show W.ξ (h.lt (EQ h2))
def
SW{p:Array Y}(c:Bs n p){i j:Y}(f:i<j)(g:j<=n)(e:∀k,i<=k->k<j->Eqv lt (Bi p k) (Bi p (j-1)))(k:Y)(d:k<n):Eqv lt (Bi (kas_rev p i j) k) (Bi p k):=by
 rw[Np (c.y ▸ g)]
 by_cases h:i<=k/\k<j
 .rw[if_pos h]
  let a:=e (i+j-1-k) ∅ ∅
  let b:=e k h.1 h.2
  show#[W.J (c.lt ∅) (c.lt ∅) (c.lt (Nat.lt_of_succ_le d)) a.1 b.2,W.J (c.lt (Nat.lt_of_succ_le d)) (c.lt ∅) (c.lt ∅) b.1 a.2]
 .rw[if_neg h]
  show#[W.ξ (c.lt d),W.ξ (c.lt d)]
def
bv{p q:Array Y}(c:Bs n p)(d:Bs n q){k:Y}(b:k<=n)(f:∀i,i<n->Eqv lt (Bi q i) (Bi p i))(h:JH lt p k):JH lt q k:=λi j e a=>
 W.J (d.lt (BQ a b)) (c.lt (i:=j) (BQ a b)) (d.lt ∅) (f j (BQ a b)).1 (W.J (c.lt (BQ a b)) (c.lt (i:=i) ∅) (d.lt ∅) (h i j e a) (f i ∅).2)
open J in
def
Py:∀(f:Y)(p:Array Y)(m q:Y){Q:Array Y×Y×Y->Ab->V'},Bs n p->1<=m->m+f<=n->q+1<=m->JH lt p m->(∀i,m-(q+1)<=i->i<m->Eqv lt (Bi p i) (Bi p (m-1))) ->
  (∀r t P,Bs n r->m<=t->t<=m+f->P+1<=t->JH lt r t->(∀i,t-(P+1)<=i->i<t->Eqv lt (Bi r i) (Bi r (t-1)))->Q (r,t,P) s)->DK cmp (kas_desc f p m q) Q s
 |0,p,m,q,Q,l,h1,h2,F,u,w,v=>by
  rw[kas_desc,DK]
  show v p m q l (A9 _) (Ps m 0) F u w
 |f+1,p,m,q,Q,l,h1,h2,F,u,w,v=>by
  rw[kas_desc,DK]
  apply hc _ _ _ (l.lt (EQ h2)) (l.lt ∅) ?_
  let step:∀(r:Array Y),Bs n r->JH lt r m->EC lt (Bi r m) (Bi r (m-1))->JH lt r (m+1):=λr o h hb i j x N=>by
   rcases IN j m with z|z
   .show h i j x z
   .let e:j=m:=SV z N
    subst e
    rcases IN i j with y|y
    .show W.J (o.lt (EQ h2)) (o.lt (i:=j-1) ∅) (o.lt ∅) hb (h i (j-1) ((Pq h1).ϡ y) (Nat.sub_one_lt_of_lt h1))
    .let e:i=j:=LQ x y
     subst e
     show W.ξ (o.lt (EQ h2))
  cases hb:lt (Bi p m) (Bi p (m-1))with
  |true=>
   let A:=W.of_lt (l.lt (EQ h2)) (l.lt ∅) hb
   erw[if_true]
   let B:∀(r:Array Y),Bs n r->∀i,m+1-(0+1)<=i->i<m+1->Eqv lt (Bi r i) (Bi r (m+1-1)):=λr o i a b=>by
    let e:i=m:=SV a b
    subst e
    show#[W.ξ (o.lt (EQ h2)),W.ξ (o.lt (EQ h2))]
   by_cases M:q>0
   .erw[M,if_true]
    let o:=l.rev (m-(q+1)) m
    let C:=SW W hc l (i:=m-(q+1)) (j:=m) ∅ (RY h2) w
    let L:=bv W hc l o (k:=m) (RY h2) (λi K=>C i K) u
    let em:Bi (kas_rev p (m-(q+1)) m) m=Bi p m:=by rw[Np (by rw[l.y];show RY h2),if_neg ∅]
    let E:EC lt (Bi (kas_rev p (m-(q+1)) m) m) (Bi (kas_rev p (m-(q+1)) m) (m-1)):=by
     rw[em]
     show W.J (l.lt (EQ h2)) (l.lt ∅) (o.lt ∅) A (C (m-1) ∅).2
    show Py f _ (m+1) 0 o (Lf h1) ∅ (Lf h1) (step _ o L E) (B _ o) λG m2 H a b c d e g=>v G m2 H a (Nat.le_of_succ_le b) ∅ d e g
   .erw[M,if_false]
    show Py f _ (m+1) 0 l (Lf h1) ∅ ∅ (step _ l u A) (B _ l) λG m2 H a b c d e g=>v G m2 H a ∅ ∅ d e g
  |false=>
   erw[Fg,if_false,DK]
   apply hc _ _ _ (l.lt ∅) (l.lt ∅) ?_
   cases hd:lt (Bi p (m-1)) (Bi p m)with
   |true=>
    erw[if_true,DK]
    show v p m q l (A9 _) ∅ F u w
   |false=>
    erw[Fg,if_false]
    apply Py f _ (m+1) (q+1) l ∅ ∅ ∅ (step _ l u hd) (λi a b=>?_) λG m2 H a b c d e g=>v G m2 H a ∅ ∅ d e g
    change Eqv lt (Bi p i) (Bi p m)
    rcases IN i m with z|z
    .have:=w i ∅ z
     show#[W.J (l.lt ∅) (l.lt (i:=m-1) ∅) (l.lt ∅) this.1 hb,W.J (l.lt ∅) (l.lt (i:=m-1) ∅) (l.lt ∅) hd this.2]
    .let e:i=m:=∅
     subst e
     show#[W.ξ (l.lt ∅),W.ξ (l.lt ∅)]
def
bw{p:Array Y}{m e:Y}{Q:Y×Array Y->Ab->V'}(f:Bs n p)(h1:1<=m)(h2:m<=e)(l:e<=n)(h:JH lt p m)
  (q:∀d g,Bs n g->1<=d->d<=e->HX lt g d->Q (d,g) s):DK cmp (kas_tail3 m e p) Q s:=by
 unfold kas_tail3
 rw[Pz]
 apply SU W hc (f.rev 0 m) (e-m) m h1 ∅ (λi j k o=>?_) λd a b c _=>?_
 .rw[Np (by rw[f.y];lia),Np (by rw[f.y];lia),if_pos ∅,if_pos ∅]
  show h (0+m-1-j) (0+m-1-i) ∅ ∅
 .rw[DK]
  show q d _ (f.rev 0 m) ∅ ∅ c
def
ud{p:Array Y}{m f:Y}{Q:Y×Array Y->Ab->V'}(k:Bs n p)(h2:m+1<=f)(l:f<=n)(r:JH lt p (m+1))
  (q:∀h j,Bs n j->1<=h->h<=f->HX lt j h->Q (h,j) s):DK cmp (kas_descPart m f p) Q s:=by
 unfold kas_descPart
 rw[Pz]
 apply Py W hc (f-(m+1)) p (m+1) 0 k ∅ ∅ ∅ r (λi a b=>?_) λj h t a b c d e g=>?_
 .let e:i=m:=∅
  subst e
  show#[W.ξ (k.lt ∅),W.ξ (k.lt ∅)]
 .by_cases o:t>0
  .erw[o,if_true]
   show bw W hc (a.rev _ _) ∅ ∅ l (bv W hc a (a.rev _ _) ∅ (λi u=>SW W hc a ∅ ∅ g i u) e) q
  .erw[o,if_false]
   show bw W hc a ∅ ∅ l e q
def
ue{p:Array Y}{Q:Y×Array Y->Ab->V'}(g:Bs n p)(h1:1<=n)(q:∀w h,Bs n h->1<=w->w<=n->HX lt h w->Q (w,h) s):DK cmp (kas_count n p) Q s:=by
 unfold kas_count
 rw[Pz]
 apply SU W hc g (n-1) 1 (Nat.le_of_ble_eq_true rfl) ∅ (λi j r x=>?_) λm a b c d=>?_
 .let e:i=0:=∅
  let G:j=0:=Nat.lt_one_iff.mp x
  subst e G
  show W.ξ (g.lt (Nat.zero_lt_of_lt h1))
 .by_cases A:m=n
  .subst A
   erw[beq_self_eq_true,if_true,DK]
   show q m p g a (A9 m) c
  .let v:lt (Bi p m) (Bi p (m-1))=J':=by
    rcases d with d|d
    .show absurd ∅ A
    .show d
   erw[show(m==n)=O' by simpa using A,Fg,if_false]
   let o:∀(h:Array Y),Bs n h->(∀i,i<m->Eqv lt (Bi h i) (Bi h (m-1)))->lt (Bi h m) (Bi h (m-1))=J'->DK cmp (kas_descPart m n h) Q s:=λh f t H=>
    ud W hc f ∅ (A9 n) (λi j r x=>by
     rcases IN j m with z|z
     .show W.J (f.lt ∅) (f.lt (i:=m-1) ∅) (f.lt ∅) (t j z).1 (t i (GY r z)).2
     .let e:j=m:=SV z x
      subst e
      rcases IN i j with y|y
      .show W.J (f.lt ∅) (f.lt (i:=j-1) ∅) (f.lt ∅) (W.of_lt (f.lt ∅) (f.lt ∅) H) (t i y).2
      .let e:i=j:=LQ r y
       subst e
       show W.ξ (f.lt ∅)) q
   by_cases B:m>1
   .erw[B,if_true,DK]
    apply hc _ _ _ (g.lt (Nat.zero_lt_of_lt h1)) (g.lt ∅) ?_
    cases F:lt (Bi p 0) (Bi p (m-1))with
    |true=>
     show q m p g a ∅ c
    |false=>
     let f:=g.rev 0 m
     let t:∀i,i<m->Eqv lt (Bi p i) (Bi p (m-1)):=λi u=>#[c i (m-1) ((Pq a).ϡ u) (Nat.sub_one_lt_of_lt a),W.J (g.lt ∅) (g.lt (i:=0) ∅) (g.lt ∅) F (c 0 i ∅ u)]
     let l:=λk C=>SW W hc g (i:=0) (j:=m) ∅ ∅ (λk _ C=>t k C) k C
     apply o _ f (λi u=>?_) ?_
     .let E:=l (m-1) ∅
      show#[W.J (f.lt ∅) (g.lt (i:=i) ∅) (f.lt ∅) (l i ∅).1 (W.J (g.lt ∅) (g.lt (i:=m-1) ∅) (f.lt ∅) (t i u).1 E.2),
       W.J (f.lt ∅) (g.lt (i:=m-1) ∅) (f.lt ∅) E.1 (W.J (g.lt ∅) (g.lt (i:=i) ∅) (f.lt ∅) (t i u).2 (l i ∅).2)]
     .rw[show Bi (kas_rev p 0 m) m=Bi p m by rw[Np (by rw[g.y];lia),if_neg ∅]]
      rcases W.neg (Bi p m) (Bi (kas_rev p 0 m) (m-1)) (Bi p (m-1)) (g.lt ∅) (f.lt ∅) (g.lt ∅) v with z|z
      .show z
      .have:=(l (m-1) ∅).2;unfold EC at this;rw[z]at this;ext this
   .let e:m=1:=∅
    subst e
    apply o p g (λi u=>?_) v
    let e:i=0:=∅
    subst e
    show#[W.ξ (g.lt ∅),W.ξ (g.lt ∅)]
open J in
def
SX{p:Array Y}(c:Bs n p){k:Y}(h:k<n)(j:HX lt p k):∀(f l r:Y){Q:Y->Ab->V'},l<=r->r<=k->r<=l+f->(∀i,i<l->EC lt (Bi p i) (Bi p k))->(∀i,r<=i->i<k->lt (Bi p k) (Bi p i)=J') ->
  (∀m,m<=k->(∀i,i<m->EC lt (Bi p i) (Bi p k))->(∀i,m<=i->i<k->lt (Bi p k) (Bi p i)=J')->Q m s)->DK cmp (kas_place p k f l r) Q s
 |0,l,r,Q,h1,h2,u,o,t,q=>by
  rw[kas_place,DK]
  let e:l=r:=LQ h1 u
  subst e
  show q l h2 o t
 |f+1,l,r,Q,h1,h2,u,o,t,q=>by
  rw[kas_place]
  by_cases d:l≥r
  .let e:l=r:=LQ h1 d
   subst e
   rw[if_pos d,DK]
   show q l h2 o t
  .rw[if_neg d,DK]
   apply hc _ _ _ (c.lt h) (c.lt ∅) ?_
   cases hb:lt (Bi p k) (Bi p ((l+r)/2))with
   |true=>
    erw[if_true]
    apply SX c h j f l ((l+r)/2) ∅ ∅ ∅ o (λi a b=>?_) q
    let g:=j ((l+r)/2) i a b
    rcases W.neg (Bi p k) (Bi p i) (Bi p ((l+r)/2)) (c.lt h) (c.lt (Gj b h)) (c.lt ∅) hb with z|z
    .show z
    .unfold EC at g;rw[z]at g;cases g
   |false=>
    erw[Fg,if_false]
    apply SX c h j f ((l+r)/2+1) r ∅ h2 ∅ (λi a=>?_) t q
    show W.J (c.lt ∅) (c.lt (i:=(l+r)/2) ∅) (c.lt h) (j i ((l+r)/2) (Nat.le_of_lt_succ a) ∅) hb
open J in
def
bx:∀(f:Y)(p:Array Y)(k:Y){Q:Array Y->Ab->V'},Bs n p->k+f=n->HX lt p k->(∀t,Bs n t->HX lt t n->Q t s)->DK cmp (kas_bin f p k) Q s
 |0,p,k,Q,g,h1,h2,q=>by
  rw[kas_bin,DK]
  let e:k=n:=Nat.add_right_cancel h1
  subst e
  show q p g h2
 |f+1,p,k,Q,g,h1,h2,q=>by
  rw[kas_bin,Pz]
  apply SX W hc g (k:=k) ∅ h2 k 0 k (Fz k) (A9 _) (Nat.le_add_left k 0) (λi z=>∅) (λi a b=>∅) λl a b c=>?_
  apply bx f _ (k+1) (g.bub _ _) ∅ (λi j h w=>?_) q
  let m:k<p.y:=by rw[g.y];lia
  let u:k-(k-l)=l:=Nat.sub_sub_self a
  rw[bu m (Nat.sub_le k l),bu m (Nat.sub_le k l),u]
  by_cases v:i=l
  .rw[if_pos v]
   by_cases d:j=l
   .rw[if_pos d];show W.ξ (g.lt ∅)
   .rw[if_neg d,if_pos ∅]
    show W.of_lt (g.lt ∅) (g.lt ∅) (c (j-1) ∅ ∅)
  .rw[if_neg v]
   by_cases o:l<i/\i<=k
   .rw[if_pos o,if_neg ∅,if_pos ∅]
    show h2 (i-1) (j-1) (Nat.sub_le_sub_right h 1) ∅
   .rw[if_neg o]
    by_cases d:j=l
    .rw[if_pos d];show b i ∅
    .rw[if_neg d]
     by_cases r:l<j/\j<=k
     .rw[if_pos r];show h2 i (j-1) ∅ ∅
     .rw[if_neg r];show h2 i j h ∅
def
uf{Q:Array Y->Ab->V'}(h1:1<=n)(q:∀f,Bs n f->HX lt f n->Q f s):DK cmp (kas_sort n) Q s:=by
 unfold kas_sort
 rw[Pz]
 apply ue W hc (p:=(Bf n).I) (Array.ϲ.ξ _) h1 λm f a b c d=>?_
 by_cases g:m<n
 .erw[g,if_true]
  let e:max m 1=m:=Nat.max_eq_left b
  rw[e]
  show bx W hc (n-m) f m a (Nat.add_sub_of_le c) d q
 .let e:m=n:=∅
  subst e
  erw[Hf,if_false,DK]
  show q f a d
end
variable {prog:AR}{w:Ai}{A:Af}{s:Ab}
def
ug{l b:Ac}{a:Array Aa}{r:jp}{n n2:Y}{f c:O Ac}{g d:Array (O Aa)}{Q:jp->Ab->V'}(e:s.o.Q l=Z {cls:=.ζ "list",dict:=f,data:=.ϰ items n,slots:=g})(hb:s.o.Q b=Z {cls:=.ζ "list",dict:=c,data:=.ϰ a n2,slots:=d})(i:FZ A.in1 s items.R a.R r)
  (j:A.η<As) (h:Q r s):wpAny (Ag prog w) A (oneLt' J' (.C l) (.C b)) Q E s:=by
 rw[oneLt'_eq]
 apply Al (wpAny_cRoomFor j ?_)
 apply Al (wpAny_callSpecialIfBound?_slot (T:="list") #[_,e,rfl] PySem.F.slot_list_lt (call_meets PySem.F.slot_list_lt #[_,e,rfl] PySem.F.entry_list_lt (PySem.F.args_list_lt_2 _ _) (YL l b items a n n2 f c g d r) #[e,hb,i,?_]))
 show Jh h
end
variable {s:Ab}{N:Fb}
def
uh(S:Inv X pins I H s){prog:AR}{w:Ai}(A:Af)(hu:A.η+40<As)(b fin:jp){Q:jp->Ab->V'}:∀(xs ys:U D)(a c:U V)(d f:U Aa)(i:Y)(r:jp),Fn (ltN 5) xs ys=Z r ->
  Ad X.K N H xs a->Ad X.K N H ys c->Aq a d->Aq c f->fin=decide (xs.a<ys.a) ->
  (b=O'\/i≠0\/((∀x,xs.head?=Z x->∃n,x=.r n)/\∀y,ys.head?=Z y->∃n,y=.r n))->Q r s->KatLex prog w A b fin Q (d.zip f) i s:=by
 intro xs
 induction xs with
 |nil=>
  intro ys a c d f i r h m o C E t hb q
  erw[Ad]at m;subst m;ext C
  apply kat_nil ?_
  cases ys with
  |nil=>erw[Fn]at h;ext h;rw[t];show q
  |cons y ys=>erw[Fn]at h;ext h;rw[t];exists q
 |cons x xs T=>
  intro ys a c d f i r h m o C E t hb q
  erw[Ad]at m;let(w1,t1,R,g,G):=m;subst R
  cases C with
  |cons j F=>
   cases ys with
   |nil=>
    erw[Ad]at o;subst o;ext E
    erw[Fn]at h;ext h
    show kat_nil (by rw[t];exists q)
   |cons y ys=>
    erw[Ad]at o;let(w2,t2,Y',k,L):=o;subst Y'
    cases E with
    |cons l M=>
     let(P,h):=Cy h
     rw[C2]at P
     let v:=(Nd S ZV A x y _ _ _ _ (by unfold ZV;lia) P.1 P.2 g.p k.p j l).2.1
     apply kat_cons ?_
     split at h
     .next e=>
      rw[e]at v
      apply v prog w _ _ ?_
      unfold KatGo
      show T ys _ _ _ _ (i+1) r h G L F M (by rw[t];simp) (.τ (.S (BF (Nat.zero_ne_add_one i)))) q
     .next e=>
      rw[Pm]at e
      rw[e]at v
      apply v prog w _ _ ?_
      apply kat_no ?_
      by_cases B:(b&&i==0)=J'
      .rw[B]
       let u:b=J'/\i=0:=by exists B
       rcases hb with z|z|⟨z1,z2⟩
       .rw[u.1]at z;ext z
       .show absurd u.2 z
       .let(n1,rfl):=z1 x rfl
        let(n2,rfl):=z2 y rfl
        let g1:=g.p.r
        let g2:=k.p.r
        subst g1 g2
        let(k1,rfl):=j
        let(k2,rfl):=l
        ext h
        show oneLt_int q
      .rw[Pm]at B
       rw[B]
       show kat_one _ _ (Sx S 5 A x y _ _ _ _ r (by unfold ZV;lia) h g.p k.p j l prog w _ (PySem.W.BoolBack Q) q)
def Ck(b:O jp)(k:D):V':=match b with
 |some J'=>∃i r,k=.O (.r i::r)
 |some O'=>∃f r,k=.O (.O f::r)
 |none=>∃r,k=.U r
abbrev Nq:O jp->SortKind
 |some b=>tuples' b
 |none=>oneType'
def
Ck.tup{b:jp}{k:D}(h:Ck (Z b) k):∃f r,k=.O (f::r):=by
 cases b with
 |true=>let(i,r,e):=h;show#[_,_,e]
 |false=>let(i,r,e):=h;show#[_,_,e]
def
ui(S:Inv X pins I H s){prog:AR}{w:Ai}(A:Af)(y:A.η+40<As)(b r:jp){k1 k2:D}{t u:V}{v x:Aa}{Q:jp->Ab->V'}(h:ltN 6 k1 k2=Z r)(m1:Ck (Z b) k1)(m2:Ck (Z b) k2)
  (z:Av X.K N H k1 t) (B:Av X.K N H k2 u) (C:RelV t v) (G:RelV u x) (q:Q r s):wpAny (Ag prog w) A (keyLt' (tuples' b) v x) Q E s:=by
 let(F,L,i):=m1.O
 let(M,P,j):=m2.O
 subst i j
 let(a1,k,i,T,d):=z
 let(a2,l,j,R,e):=B
 subst i j
 ext C
 ext G
 let(a,f,(Y',m,_,n1,n),_):=S.Ϙ T
 let(c,g,(o2,o,_,n2,p),_):=S.Ϙ R
 apply kat_lt m n o p ?_
 have:=uh S (prog:=prog) (w:=w) (N:=N) A y b (decide (a.I.y<c.I.y)) (Q:=Q) (F::L) (M::P) k l a c 0 r h d e f g (by rw[Ca,Ca,<- f.a,<- g.a,<- d.a,<- e.a]) (by
  cases b with
  |false=>show .S rfl
  |true=>
   let(i1,_,i):=m1
   let(i2,_,j):=m2
   grind) q
 exists this
def
uj(S:Inv X pins I H s){prog:AR}{w:Ai}(A:Af)(P:A.η+40<As)(b:O jp)(r:jp){k1 k2:D}{o t:V}{v:Aa}{Q:jp->Ab->V'}(h:ltN 6 k1 k2=Z r)(m1:Ck b k1)(m2:Ck b k2)
  (x:Av X.K N H k1 o) (y:Av X.K N H k2 t) (z:RelV o u) (B:RelV t v) (q:Q r s):wpAny (Ag prog w) A (keyLt' (Nq b) u v) Q E s:=by
 cases b with
 |some b=>show ui S A P b r h m1 m2 x y z B q
 |none=>
  let(T,a):=m1
  let(R,c):=m2
  subst a c
  let(a1,Y',a,q1,d):=x.p
  let(a2,vs2,c,q2,e):=y.p
  subst a c
  ext z
  ext B
  let(C,f,((cls,dd,data,sl),n1,g,i,G,j),_):=S.Ϥ q1
  let(F,k,((L,dd2,data2,sl2),n2,l,m,M,n),_):=S.Ϥ q2
  subst i j m n
  show ug g l (by exists ap S 5 (Sx S 5) A (by unfold ZV;lia) T R _ _ _ _ h d e f k) ∅ q
open J in
def
uk(S:Inv X pins I H s){M:Model}(b:jp):∀(c:U D)(kvs:U V)(us:U Aa),Ad X.K N H c kvs->Aq kvs us->(∀k∈c,Ck (Z b) k) ->
  ∃j,KatTups s.o us j/\j.a=us.a/\∀v∈j,Looks M s.o (typeOf v) (.ζ (if b then "int" else "tuple")):=by
 intro c
 induction c with
 |nil=>
  intro kvs us d r _
  erw[Ad]at d;subst d;ext r
  show#[[],KatTups.Ϝ,rfl,λ_ h=>nomatch h]
 |cons k c P=>
  intro kvs us d r G
  erw[Ad]at d;let(v,t,e,dv,R):=d;subst e
  cases r with
  |cons Y' rt=>
   let(j,h1,h2,h3):=P t _ R rt λk x=>G k (A5 _ x)
   let m:=G k A6
   let(f,g,e):=m.O
   subst e
   let(a,vs,e,q,dl):=dv
   subst e
   ext Y'
   let(its,y,(o,ho,hc,n,hd),_):=S.Ϙ q
   let(w,vs',e,F,_):=dl
   subst e
   cases y with
   |cons l rt1=>
    rename_i u us'
    apply#[u::j,KatTups.Η ho hc hd (by simp) h1,by simp[h2],λv z=>?_]
    rcases Bl.mp z with e|z
    .subst e
     intro A Q E s' x L
     cases b with
     |true=>
      let(i,_,e):=m
      ext e
      let g:=F.p.r
      subst g
      let(t,rfl):=l
      show Lc (T:="int") rfl L
     |false=>
      let(i,_,e):=m
      ext e
      let(a2,vs2,rfl,q2,_):=F
      ext l
      let(_,_,(o2,B,C,_),_):=S.Ϙ q2
      show Lc (T:="tuple") #[o2,x _ _ B,C] L
    .show h3 v z
def
ul(B:Inv X pins I H s){M:Model}:∀(b:U D)(kvs:U V)(us:U Aa),Ad X.K N H b kvs->Aq kvs us->(∀k∈b,Ck J k)->∀u∈us,Looks M s.o (typeOf u) (.ζ "list"):=by
 intro b
 induction b with
 |nil=>
  intro kvs us d r _
  erw[Ad]at d;subst d;ext r
  simp_all
 |cons k b i=>
  intro kvs us d r h
  erw[Ad]at d;let(v,t,e,dv,j):=d;subst e
  cases r with
  |cons l rt=>
   intro u c
   rcases Bl.mp c with e|c
   .subst e
    let(g,rfl):=h k A6
    let(a,y,rfl,q,_):=dv.p
    ext l
    let(_,_,(o,n,m,w,_),_):=B.Ϥ q
    intro A Q E z f x
    show Lc (T:="list") #[o,f _ _ m,w] x
   .show i t _ j rt (λk f=>h k (A5 _ f)) u c
def
um(g:Inv X pins I H s){M:Model}{A:Af}(b:O jp)(a:U D)(kvs:U V)(us:U Aa)(d:Ad X.K N H a kvs)(r:Aq kvs us)(c:∀k∈a,Ck b k)(h2:2<=us.a){Q:SortKind->Ab->V'}(q:Q (Nq b) s):wpAny M A (keyKind' us.I) Q E s:=by
 cases b with
 |some b=>
  let(f,k1,k2,e):=uk g (M:=M) b a kvs us d r c
  apply kat_kind k1 ∅ e (by ext b<;>rfl) ?_
  rw[show(Value.ζ (if b=J' then "int" else "tuple") != Value.ζ "tuple")=b by ext b<;>rfl]
  show q
 |none=>show kas_kind h2 (ul g a kvs us d r c) rfl rfl q
structure Off(X:Cx)(pins:A1)(a:Ac):V' where
 nL:a≠X.G.ϒ
 s0:X.s₀.o.E.y<=a
 cl:∀x c,X.G.Ϟ.X x=Z c->c≠a
 pn:∀p∈X.pn++pins,p.1≠a
 nf:a∉X.fs
def
Inv.off(f:Inv X pins I H s)(h:s.o.E.y<=a):Off X pins a where
 nL:=λe=>by have h2:=f.lt;rw[<- e]at h2;show absurd (BQ h2 h) (Hf _)
 s0:=BX f.sz h
 cl:=λx c e z=>by
  let(v,o,b,_):=f.Ξ x c e
  let h2:=BK b
  rw[z]at h2
  show absurd (BQ h2 h) (Hf _)
 pn:=λp d z=>by
  let h2:=BK (f.pin p d).1
  rw[z]at h2
  show absurd (BQ h2 h) (Hf _)
 nf:=f.nofs h
def
Inv.pin1{o:Obj}(g:Inv X pins I H s)(c:H a=J)(f:Off X pins a)(e:s.o.Q a=Z o)(d:∀v,o.data≠.Ξ v):Inv X (pins++[(a,o)]) I H s:=
 g.pins_of λp b=>by
  rcases EH.mp b with b|b
  .show g.pin p (Dj _ b)
  .erw[Fw]at b;subst b;show#[e,c,f.nL,f.nf,d]
def
Inv.catch{d:U Aa}{n:Y}(k:Inv X pins I H s)(g:H a=J)(f:Off X pins a)(e:s.o.Q a=Z {cls:=.ζ "list",data:=.ϰ d.I n})(h:Aq vs d)(hz:vs.a<=Az):Inv X pins I (AX H a (.U vs)) s:=by
 let ne:∀b u,H b=Z u->b≠a:=λb u q z=>by rw[z,g]at q;ext q
 have:=k.ώ (h':=s.o) (g':=s.g9) (d':=s.drawn) (t':=s.ω) (ch:=[a]) (H':=AX H a (.U vs)) (λb hb=>by
   let e:b=a:=by exists hb
   subst e
   show#[.τ f.s0,f.nL,f.cl,f.pn]) (λb o _ _ _ q _=>q) (λb o _ _ _ q _=>#[o.slots,q]) (λb o hb _ n=>by rw[Zt (λz=>hb (by simp[z]))];show n) (λb o _ q=>#[o,q])
  (λb i q=>Zt (ne _ _ q) ▸ q) (λb o u q=>Zt (ne _ _ q) ▸ q) (λb y q=>#[(T' []),by rw[Zt (ne _ _ q),q];simp]) (λm j=>j) (λb u q=>by
   by_cases hb:b=a
   .subst hb
    rw[Z5]at q
    ext q
    show#[hz,d,n,h,e]
   .rw[Zt hb]at q
    show(k.Ϣ b u q).stay (λc v _ r=>r) (λc r=>Zt (ne _ _ r) ▸ r) λc i r=>Zt (ne _ _ r) ▸ r) k.bare
 show this
end
def Dq(F:U Sl->O Rv)(x:D):D:=((F [.u x]).j Ct).B .Y
def Cr(F:U Sl->O Rv)(x y:D):jp:=match ltN 6 (Dq F x) (Dq F y)with
 |some J'=>J'
 |_=>O'
def
SY{F:U Sl->O Rv}{x y:D}{r:jp}(h:ltN 6 (Dq F x) (Dq F y)=Z r):Cr F x y=r:=by
 unfold Cr;rw[h];ext r<;>rfl
structure Bk(F:List Sl->Option Rv)(xs:List D):V' where
 few:xs.a<64
 tells:∀x∈xs,∃r,F [.u x]=Z r
 mode:∃b,∀x∈xs,Ck b (Dq F x)
 cmp:∀x∈xs,∀y∈xs,∃r,ltN 6 (Dq F x) (Dq F y)=Z r
 asym:∀x∈xs,∀y∈xs,Cr F x y=J'->Cr F y x=O'
 neg:∀x∈xs,∀y∈xs,∀z∈xs,Cr F x z=J'->Cr F x y=J'\/Cr F y z=J'
 anti:∀x∈xs,∀y∈xs,Cr F x y=O'->Cr F y x=O'->x=y
def IP(lt:D->D->jp)(x:D):U D->U D
 |[]=>[x]
 |y::r=>if lt x y then x::y::r else y::IP lt x r
def ET(lt:D->D->jp):U D->U D
 |[]=>[]
 |x::r=>IP lt x (ET lt r)
def
S2(lt:D->D->jp)(x:D):∀l,(IP lt x l).ϲ (x::l)
 |[]=>.ξ _
 |y::r=>by
  unfold IP
  split
  .show .ξ _
  .show((S2 lt x r).Η y).J (.swap x y r)
def
PB(lt:D->D->jp):∀l,(ET lt l).ϲ l
 |[]=>.ξ _
 |x::r=>(S2 lt x _).J ((PB lt r).Η x)
def
bz{F:U Sl->O Rv}{xs:U D}(h:Bk F xs){x:D}(f:x∈xs):∀l:U D,(∀y∈l,y∈xs)->l.ϩ (λa b=>Cr F b a=O')->(IP (Cr F) x l).ϩ λa b=>Cr F b a=O'
 |[],_,_=>by simp[IP]
 |y::r,g,j=>by
  let(h1,h2):=Nr.mp j
  let i:=g y A6
  unfold IP
  split
  .next d=>
   apply Nr.ϡ #[λz c=>?_,j]
   rcases Bl.mp c with e|c
   .subst e;show h.asym x f z i d
   .cases k:Cr F z x with
    |false=>rfl
    |true=>
     rcases h.neg z (g z (A5 _ c)) y i x f k with q|q
     .rw[h1 z c]at q;ext q
     .rw[h.asym x f y i d]at q;ext q
  .next d=>
   rw[Pm]at d
   apply Nr.ϡ #[λz c=>?_,bz h f r (λz c=>g z (A5 _ c)) h2]
   rcases Bl.mp ((S2 (Cr F) x r).subset c)with e|c
   .subst e;show d
   .show h1 z c
def
bB{F:U Sl->O Rv}{xs:U D}(h:Bk F xs):∀l:U D,(∀y∈l,y∈xs)->(ET (Cr F) l).ϩ λa b=>Cr F b a=O'
 |[],_=>.Ϝ
 |x::r,c=>bz h (c x A6) _ (λy d=>c y (A5 _ ((PB _ r).subset d))) (bB h r λy d=>c y (A5 _ d))
def EU(F:U Sl->O Rv)(xs:U D):A8:=gd (Bk F xs) (Z (ET (Cr F) xs))
def
Bk.same{F:U Sl->O Rv}{ys:U D}(h:Bk F xs)(c:ys.ϲ xs)(d:ys.ϩ λa b=>Cr F b a=O'):ys=ET (Cr F) xs:=
 bC (le:=λa b=>Cr F b a=O') (λa b e hb h1 h2=>h.anti a (c.subset e) b ((PB _ xs).subset hb) h2 h1) d (bB h xs λ_ f=>f) (c.J (PB _ xs).Ρ)
def
bD{F:U Sl->O Rv}(h:Bk F xs):EU F xs=Z (ET (Cr F) xs):=M6 h
def
PF{F:U Sl->O Rv}{ys:U D}(h:EU F xs=Z ys):Bk F xs/\ys=ET (Cr F) xs:=by grind [EU,gd]
variable {s:Ab}{N:Fb}
def
S3{K:Am}{b:U D}{vs:U V}(h:Ad K N H b vs):∀(a:U Y),(∀j∈a,j<b.a)->Ad K N H (a.j λj=>b.B j .Y) (a.j λj=>vs.B j .Y)
 |[],_=>Ad.Ϝ
 |j::a,c=>by
  let(v,e,d):=h.Ι (Cc (c j A6))
  show Ad.Η (by simp_all) (S3 h a λk f=>c k (A5 _ f))
def
Nt{vs:U V}{us:U Aa}(h:Aq vs us):∀(b:U Y),Aq (b.j λj=>vs.B j .Y) (b.j λj=>us.B j .σ)
 |[]=>.Ϝ
 |j::b=>by
  apply .Η ?_ (Nt h b)
  induction h generalizing j with
  |nil=>simp;rfl
  |cons a _ c=>
   ext j<;>simp_all
def
bE(zB:Inv X pins I H s){prog:AR}{w:Ai}(A:Af)(hu:A.η+40<As){F:U Sl->O Rv}{f:U D}(h:Bk F f){kvs:U V}{us items:U Aa}
  (d:Ad X.K N H (f.j (Dq F)) kvs) (r:Aq kvs us) (g:items.a=f.a) {P:PySem.Fin->Ab->V'} {T:SortSt->Sem PySem.Fin}
  (q:∀(p:U Y) (st:SortSt),p.ϲ (Bf f.a)->(p.j λj=>f.B j .Y)=ET (Cr F) f->Array.j (λx=>x.2) (arrOf st)=(p.j λj=>items.B j .σ).I->failedOf st=J->wpAny (Ag prog w) A (T st) P E s):
  wpAny (Ag prog w) A (do
   let kind <- if items.I.y<2 then Ax general' else keyKind' us.I
   let((),s) <- (if items.I.y<2 then Ax ()else sortRuns').run (SortSt.mk' kind (us.I.zip items.I) (T' []) 7 J)
   T s) P E s:=by
 let l1:=d.a
 let l2:=r.a
 rw[Bu]at l1
 by_cases h2:items.I.y<2
 .rw[if_pos h2]
  erw[h2,if_true]
  let o:us.a=items.a:=∅
  rw[Ca]at h2
  apply Al (AO ?_)
  apply Al ?_
  apply AO ?_
  apply q (Bf f.a) (SortSt.mk' general' (us.I.zip items.I) (T' []) 7 J) (.ξ _) ?_ ?_ rfl
  .let e:(Bf f.a).j (λj=>f.B j .Y)=f:=by
    apply(Jy)
    intro i
    by_cases g:i<f.a
    .simp[g]
    .simp[g]
   rw[e]
   apply h.κ (.ξ _) ?_
   match f,g with
   |[],_=>show .Ϝ
   |[a],_=>show List.pairwise_singleton _ _
   |a::b::c,g=>simp at g;lia
  .change Array.j (λx=>x.2) (us.I.zip items.I)=_
   let e:(Bf f.a).j (λj=>items.B j .σ)=items:=by
    rw[<- g]
    apply(Jy)
    intro i
    by_cases g:i<items.a
    .simp[g]
    .simp[g]
   rw[e,List.zip_toArray,List.map_toArray]
   congr 1
   show List.map_snd_zip (K9 o.Ρ)
 .rw[if_neg h2]
  erw[h2,if_false]
  rw[Ca]at h2
  let(b,hb):=h.mode
  apply Al (um zB b (f.j (Dq F)) kvs us d r (λk hk=>by
   let(x,hx,rfl):=Bc.mp hk
   show hb x hx) ∅ ?_)
  let o:us.a=items.a:=∅
  let hr:=kas_range (us.I.zip items.I)
  rw[show(us.I.zip items.I).y=f.a by simp;lia]at hr
  let R:SortSt.mk' (Nq b) (us.I.zip items.I) (T' []) 7 J=kas_st (Nq b) (us.I.zip items.I) (Bf f.a).I:=by
   unfold kas_st;rw[hr]
  apply Al ?_
  rw[R]
  let W:WO (λi j=>Cr F (f.B i .Y) (f.B j .Y)) f.a:=by
   let mem:∀i,i<f.a->f.B i .Y∈f:=λi g=>by
    rw[show f.B i .Y=f[i] by simp[Cm,g]];show Hq g
   show#[λa b t hb L=>h.asym _ (mem a t) _ (mem b hb) L,λa b c t hb M L=>h.neg _ (mem a t) _ (mem b hb) _ (mem c M) L]
  let M:∀i j (C:jp->Ab->V'),i<f.a->j<f.a->C (Cr F (f.B i .Y) (f.B j .Y)) s->kas_cmp prog w A (Nq b) (us.I.zip items.I) i j C s:=λi j C m n hq=>by
   unfold kas_cmp
   rw[kat_item o,kat_item o]
   let mem:∀i,i<f.a->f.B i .Y∈f:=λi g=>by
    rw[show f.B i .Y=f[i] by simp[Cm,g]];show Hq g
   let(rr,u):=h.cmp _ (mem i m) _ (mem j n)
   rw[SY u]at hq
   let y:∀i,i<f.a->∃v,Av X.K N H (Dq F (f.B i .Y)) v/\RelV v (us.B i .σ):=λi g=>by
    let(v,ev,dv):=d.Ι (i:=i) (d:=Dq F f[i]) (by simp[g])
    apply#[v,by rw[show f.B i .Y=f[i] by simp[Cm,g]];show dv,?_]
    have:=Nt r [i]
    cases this with
    |cons a _=>
     rw[<- (show kvs.B i .Y=v by simp[Cm,ev])]
     show a
   let(v1,S,zA):=y i m
   let(v2,Y',rv2):=y j n
   show uj zB A hu b rr u (hb _ (mem i m)) (hb _ (mem j n)) S Y' zA rv2 hq
  apply kas_runs (Q:=λ_ st z=>wpAny (Ag prog w) A (T st) P E z) (G:=λp z=>z=s/\Bs f.a p/\HX (λi j=>Cr F (f.B i .Y) (f.B j .Y)) p f.a) ∅ h.few (λp st z hp t hf hg=>?_) (uf W M ∅ λp a b=>#[rfl,a,b])
  let(rfl,hB,hS):=hg
  let l:p.R.ϲ (Bf f.a):=by
   have:=hB.R
   exists this
  apply q p.R st l ?_ (kat_snds o t) hf
  apply h.κ ?_ ?_
  .let e:(Bf f.a).j (λj=>f.B j .Y)=f:=by
    apply(Jy)
    intro i
    by_cases g:i<f.a
    .simp[g]
    .simp[g]
   have:=l.j λj=>f.B j .Y
   rw[e]at this
   show this
  .rw[List.pairwise_map,S5]
   intro i j g B hij
   have:=hS i j (Nat.le_of_succ_le hij) (by simp at B;show Nat.lt_of_lt_of_eq B hp)
   unfold EC Bi at this
   simp at g B
   simpa[Array.getD,g,B]using this
def
uo(i:Inv X pins I H s){prog:AR}{w:Ai}(A:Af)(f:A.η+40<As){F:U Sl->O Rv}{b:U D}(h:Bk F b){kvs:U V}{us items:U Aa}
  (d:Ad X.K N H (b.j (Dq F)) kvs) (r:Aq kvs us) (g:items.a=b.a) {c:Y} {e:Aa} {P:PySem.Fin->Ab->V'}
  (q:∀(p:U Y) (st:SortSt),p.ϲ (Bf b.a)->(p.j λj=>b.B j .Y)=ET (Cr F) b->Array.j (λx=>x.2) (arrOf st)=(p.j λj=>items.B j .σ).I->failedOf st=J->wpAny (Ag prog w) A (ksk_tail a O' c e st) P E s):
  wpAny (Ag prog w) A (ksk_end a O' items.I c e us.I) P E s:=by
 unfold ksk_end
 show bE i A f h d r g q
end
variable {s:Ab}{N:Fb}
abbrev C4(a:U Aa)(n:Y):Obj:={cls:=.ζ "list",data:=.ϰ a.I n}
def
Inv.rawset{c its':U Aa}{n:Y}{f:Array Aa->Array Aa}(j:Inv X pins I H s)(d:H a=J)(o:Off X pins a)(e:s.o.Q a=Z (C4 c n))(g:f c.I=its'.I):
  ∃h,(s.o.ϭ a (GP f)).Q a=Z (C4 its' h)/\Inv X pins I H {s with heap:=s.o.ϭ a (GP f)}:=by
 let q:=PySem.IsL.ϭ e f
 rw[g]at q
 show#[_,q,j.xv (t':=s.ω) (λb u hb i=>(Heap.get?_update_other s.o (GP f) (BF hb)).J i) d o.nL (.τ o.s0) o.cl o.pn]
def
S6(a:U Aa)(n:Y)(v:O Aa):(C4 a n).data≠.Ξ v:=nofun
def
Off.more{b:Ac}{o:Obj}(f:Off X pins a)(h:b≠a):Off X (pins++[(b,o)]) a:=
 #[f.nL,f.s0,f.cl,λp c=>by
  rw[<- Dy]at c
  rcases EH.mp c with c|c
  .show f.pn p c
  .erw[Fw]at c;subst c;show h,f.nf]
def
Inv.pinGet{o:Obj}(b:Inv X pins I H s)(h:(a,o)∈pins):s.o.Q a=Z o/\H a=J:=#[(b.pin _ (Dj _ h)).1,(b.pin _ (Dj _ h)).2.1]
def
uq{prog:AR}{w:Ai}(A:Af){D c:Ac}{e m:Y}{us out:U Aa}{P:PySem.Fin->Ab->V'}{st:SortSt}(d:Inv X (pins++[(D,C4 [] e)]++[(c,C4 us m)]) I H s)
  (i:Off X pins D) (n:Off X pins c) (ne:D≠c) (g:us.a<=Az) (h:Array.j (λx=>x.2) (arrOf st)=out.I) (o:failedOf st=J) (j:Aq vs out) (hz:vs.a<=Az)
  (q:∀k,Inv X pins I (AX H D (.U vs)) k->P (.done (.Ϻ .σ)) k):wpAny (Ag prog w) A (ksk_tail D O' e (.C c) st) P E s:=by
 let(gk,p):=d.pinGet (a:=c) (Dj _ A6)
 let(r,hd):=d.pinGet (a:=D) (Jg _ (Dj _ A6))
 let(n2,v,l):=d.unpinned.rawset (f:=λ_=>(T' [])) (its':=[]) p (n.more ne) gk rfl
 apply Al (Nu gk rfl ?_ (by exists g) (by simp))
 apply Al (Kx ?_)
 let(b,_):=l.pinGet (a:=D) (Dj _ A6)
 apply Al (seqEpoch_at b rfl ?_)
 let(n3,t,u):=l.unpinned.rawset (f:=λ_=>out.I) (its':=out) hd i b rfl
 erw[Fg,if_false,h]
 apply Al (Nu b rfl ?_ (by simp) (by simp;show Lf (show out.a<=Az by rw[<- j.a];show hz)))
 rw[o]
 erw[show(e != e)=O' by simp,Fg,if_false]
 show AO (q _ (u.catch hd i t j hz))
variable{k:Y}{fn:Ac}{fd:Cj}{F:U Sl->O Rv}
def
ur(m:AW X.γ X.w X.K X.mg X.φ Bm k fn fd ps (AN X.K F))(hb:Binds X.K fd ps [])(S:Inv X pins I H s)(A:Af)(B:AH k A)(C:CM X.γ X.w X.K X.mg X.φ A X.Ϛ s H)(n:∀a,N a->H a≠J){x:D}{v:V}(d:Av X.K N H x v)(G:RelV v u){r:Rv}(o:F [.u x]=Z r) {Q:AQ} (q:∀h i c H',Inv X pins I H' i->Aj H H'->Av X.K N H' (Dq F x) c->RelV c h->Q h i):wpAny (Ag X.γ X.w) A (call (.C fn) [u]) Q E s:=by
 let f:AN X.K F [v] H (λc H'=>Aj H H'/\Av X.K N H' (Dq F x) c) E0:=by
  apply#[N,[.u x],r,n,?_,o,λc H' j p=>#[j,?_]]
  .show#[v,[],rfl,d,rfl]
  .let e:Dq F x=Ct r:=by unfold Dq;rw[o];rfl
   rw[e]
   cases r with
   |val y=>show p
   |own T t=>
    let(a,P,L,z1,z2,z3):=p
    erw[Ct,Av]
    show#[a,P,L,.of (λz=>n a z z1) z2,z3.nw λb hb=>.S (.S hb)]
 let M:([u]:U Aa).a=ps.a:=by
  have:=m.Ϫ _ _ _ _ f
  exists this
 apply wpAny_call (codeAny_mono (m.run A X.Ϛ s H #[[u],[]] [u] [v] _ E0 B C (by exists hb s [u] S.kIn (by exists M)) (.Η G .Ϝ) f) λr i g=>?_)
 cases r with
 |error e=>show B0 g
 |ok t=>
  cases t with
  |ret h=>
   let(c,H',R,l,j,hd):=S.after g
   show q h i c H' R j hd l
  |next=>show B0 g
  |brk=>show B0 g
  |cont=>show B0 g
open J in
def
Aj.none{H H':Hp}(h:Aj H H'){a:Ac}(e:H' a=J):H a=J:=by
 cases q:H a with
 |none=>rfl
 |some o=>rw[h a o q]at e;ext e
def
ut(Fo:AW X.γ X.w X.K X.mg X.φ Bm k fn fd ps (AN X.K F))(hb:Binds X.K fd ps [])(A:Af)(hr:AH k A)(hu:A.η+40<As)(hA:∀s H,CM X.γ X.w X.K X.mg X.φ X.A X.Ϛ s H->CM X.γ X.w X.K X.mg X.φ A X.Ϛ s H)
  {g h:Ac} {m e0:Y} (zA:Inv X (pins++[(g,C4 [] m)]++[(h,C4 [] e0)]) I H s) (nh:∀a,N a->H a≠J) {items:U Aa} {xs:U V} {c:U D} (fD:Off X pins g) (G:Off X pins h) (ne:g≠h) (L:Aq xs items) (M:Ad X.K N H c xs) (ok:Bk F c) {P:PySem.Fin->Ab->V'} (q:∀n H' vs,Inv X pins I (AX H' g (.U vs)) n->Aj H H'->H' g=J->Ad X.K N H' (ET (Cr F) c) vs->P (.done (.Ϻ .σ)) n):
  wpAny (Ag X.γ X.w) A (ksk_rest g (.C fn) O' items.I m (.C h)) P E s:=by
 let l1:=M.a
 let l2:=L.a
 let few:=ok.few
 let hsl:Az=16777216:=HH
 unfold ksk_rest
 apply Al (Ix ?_)
 apply Al (wpAny_forIn_array' _ (λAF _ n=>∃(done:U Aa) (H':Hp) (i:U Aa) (d:U V) (t:Y),items=done++AF/\i.a=done.a/\Inv X (pins++[(g,C4 [] m)]++[(h,C4 i t)]) I H' n/\Aj H H'/\Aq d i/\Ad X.K N H' ((c.ύ done.a).j (Dq F)) d) _ ?_ ?_ items.I PUnit.unit ?_)
 .intro u AF b s1 zQ;let(done,H1,i,d,t,o,hl,l,sm,S,B):=zQ
  let Q:done.a<c.a:=by
   have:=congrArg List.a o
   simp at this
   lia
  let C:c[done.a]?=Z c[done.a]:=Cc Q
  generalize c[done.a]=x at C
  let(v,hv,dv):=M.Ι C
  let ru:RelV v u:=by
   have:=Nt L [done.a]
   cases this with
   |cons a _=>
    let m:xs.B done.a .Y=v:=by simp[Cm,hv]
    let t:items.B done.a .σ=u:=by rw[o];simp[Cm]
    rw[<- m,<- t];show a
  let(r,hF):=ok.tells x (GO C)
  apply Al (Nv ?_)
  apply ur (N:=N) Fo hb l A hr (hA _ _ l.env0) (λa T z=>nh a T (sm.σ z)) (dv.κ sm) ru hF λW s2 v' H2 I2 y Y' rv2=>?_
  let(gk,hk):=I2.pinGet (a:=h) (Dj _ A6)
  let I3:Inv X (pins++[(g,C4 [] m)]) I H2 s2:=I2.unpinned
  let(n3,g3,I4):=I3.rawset (f:=λx=>x.Μ W) (its':=i++[W]) hk (G.more ne) gk (by simp)
  apply Al (Nu gk rfl ?_ (by simp;lia) (by simp;lia))
  apply AO ?_
  apply#[done++[u],H2,i++[W],d++[v'],n3,by rw[o];simp,by simp[hl],I4.pin1 hk (G.more ne) g3 (S6 _ _),sm.J y,S.ψ (.Η rv2 .Ϝ),?_]
  let e:(c.ύ (done++[u]).a).j (Dq F)=(c.ύ done.a).j (Dq F)++[Dq F x]:=by
   rw[D2,Le,List.take_succ,C]
   simp
  rw[e]
  show(B.κ y).ψ (Ad.Η Y' Ad.Ϝ)
 .intro b s1 zQ;let(done,H1,i,d,t,o,hl,l,sm,S,B):=zQ
  rw[Du]at o
  subst o
  let(gk,hk):=l.pinGet (a:=h) (Dj _ A6)
  let(gd',hd):=l.pinGet (a:=g) (Jg _ (Dj _ A6))
  apply Al (listItems_at gk rfl ?_)
  let ht:c.ύ items.a=c:=LB ∅
  rw[ht]at B
  apply uo (N:=N) l A hu ok B S ∅ λp st hp hs T hf=>?_
  let hpl:p.a=c.a:=by have:=hp.Ψ;exists this
  apply uq A l fD G ne ∅ T hf (Nt L p) (by rw[Bu];lia) λn R=>?_
  apply q n H1 _ R sm hd ?_
  rw[<- hs]
  show S3 (M.κ sm) p λj hj=>by have:=hp.subset hj;exists this
 .show#[[],H,[],[],e0,by simp,rfl,zA,Aj.ξ H,.Ϝ,Ad.Ϝ]
def
bF(G:AW X.γ X.w X.K X.mg X.φ Bm k fn fd ps (AN X.K F))(hb:Binds X.K fd ps [])(A:Af)(B:AH k A)(L:A.η+40<As)(M:∀s H,CM X.γ X.w X.K X.mg X.φ X.A X.Ϛ s H->CM X.γ X.w X.K X.mg X.φ A X.Ϛ s H)
  (W:Inv X pins I H s) (R:∀a,N a->H a≠J) {c:Ac} {items:U Aa} {Q:Y} {xs:U V} {j:U D} (g:s.o.Q c=Z (C4 items Q)) (r:H c=J) (l:Off X pins c) (t:Aq xs items) (v:Ad X.K N H j xs) (ok:Bk F j) {P:PySem.Fin->Ab->V'} (q:∀y H' vs,Inv X pins I (AX H' c (.U vs)) y->Aj H H'->H' c=J->Ad X.K N H' (ET (Cr F) j) vs->P (.done (.Ϻ .σ)) y):
  wpAny (Ag X.γ X.w) A (ksk_tree c (.C fn) O') P E s:=by
 let l1:=v.a
 let l2:=t.a
 let few:=ok.few
 let T:Az=16777216:=HH
 apply Al (listItems_at g rfl ?_)
 let(n1,z,S):=W.rawset (f:=λ_=>(T' [])) (its':=[]) r l g rfl
 apply Al (Nu g rfl ?_ (by simp;lia) (by simp))
 apply Al (seqEpoch_at z rfl ?_)
 apply Al (wpAny_newTuple ?_ (by simp;lia))
 generalize m:({heap:=s.o.ϭ c (GP λx=>(T' [])),gens:=s.g9,drawn:=s.drawn,toks:=s.ω,os:=s.os}:Ab)=d at *
 let n:=S.ϟ (t':=d.ω) (λb u e=>Bg {cls:=.ζ "tuple",data:=.ϰ items.I} e)
 generalize p:({heap:=d.o.Μ {cls:=.ζ "tuple",data:=.ϰ items.I},gens:=d.g9,drawn:=d.drawn,toks:=d.ω,os:=d.os}:Ab)=i at *
 let h:i.o.Q c=Z (C4 [] n1):=p ▸ (Bg {cls:=.ζ "tuple",data:=.ϰ items.I} (show d.o.Q c=Z (C4 [] n1) by rw[<- m];show z))
 apply Al (wpAny_newList ?_ (by simp))
 let C:=n.off (A9 i.o.E.y)
 show Fv (ut (N:=N) G hb A B L M (((n.ϟ (t':=i.ω) (λb u e=>Bg (C4 [] 0) e)).pin1 r l (Bg (C4 [] 0) h) (S6 _ _)).pin1 n.Κ (C.more (B6 (BK h))) (B7 i.o (o:=C4 [] 0) rfl) (S6 _ _)) R l C (B6 (BK h)) t v ok q)
def
uu(B:AW X.γ X.w X.K X.mg X.φ Bm k fn fd ps (AN X.K F))(hb:Binds X.K fd ps [])(r:AH (k+2) X.A)
  (W:Inv X pins I H s) (C:∀a,N a->H a≠J) {xs:U V} {h:U D} (E:BV X.K H a xs) (t:Ad X.K N H h xs) (ok:Bk F h) {Q:VK}
  (q:∀d vs H',Aj H H'->H d=J->H' d=Z (.U vs)->Ad X.K (λb=>N b\/b=d) H' (ET (Cr F) h) vs->Q (.C d) H'):
  wpAny (Ag X.γ X.w) X.A (call (.ρ "sorted") [.C a] [("key",.C fn)]) (EP X pins I Q) X.xe s:=by
 let l1:=t.a
 let few:=ok.few
 let G:Az=16777216:=HH
 let(c,v,(o,n,L,R,S,hd),hz):=W.Ϥ E
 let l2:=v.a
 apply wpAny_call (S7 plain_sorted entry_sorted ?_)
 let i:checkBuiltinCall "sorted" #[[.C a],[("key",.C fn)]]=Ax ():=by rfl
 rw[i]
 apply AO ?_
 unfold PySem.Builtin.sorted
 let j:checkCount "sorted" 1 1 1=Ax ():=rfl
 change wpAny _ _ (do checkCount "sorted" 1 1 1;let y <- collect (.C a);let l <- newList y;let _ <- Fe [l] (call (.ρ "list.sort") [l] [("key",.C fn)]);ret l) _ _ _
 rw[j]
 apply Al (AO ?_)
 apply Al (wpAny_collect_seq a (T:="list") (.S rfl) L R hd (λh1 k1=>?_) (by simp;lia))
 let m:=W.ϟ (t':=s.ω) k1
 apply Al (wpAny_newList ?_ (by simp;lia))
 generalize hs1:({heap:=h1,gens:=s.g9,drawn:=s.drawn,toks:=s.ω,os:=s.os}:Ab)=f at *
 let I2:=m.ϟ (t':=f.ω) (λb u e=>Bg (C4 c 0) e)
 let g:=B7 f.o (o:=C4 c 0) rfl
 let fD:=m.off (A9 f.o.E.y)
 let p:H f.o.E.y=J:=m.Κ
 apply Al (Fv ?_)
 apply wpAny_call (S7 PySem.F.slot_list_sort.plain PySem.F.entry_list_sort ?_)
 apply PySem.F.slot_list_sort.check _ _ _ _ _ _ _ _ #[_,g,rfl] rfl ?_
 rw[ksk_t1]
 apply bF (N:=N) B hb X.A.in1.in1 r.in1.in1 ?_ (λs H e=>e.in1.in1) I2 C g p fD v t ok λs' H' vs P sm x dv=>?_
 .have:=r.un;change X.A.η+1+1+40<_;lia
 .apply AO ?_
  apply#[.C _,_,P,rfl,q _ vs _ (λb u e=>?_) p Z5 ?_]
  .rw[Zt (λz=>by rw[z,p]at e;ext e)];show sm b u e
  .show Ad.ώ (M:=λ_=>False) #[λb u e z=>by
    rw[Zt (λz=>by rw[z,x]at e;ext e)];show e,λb hb=>by
    rcases hb with hb|hb
    .show .S hb
    .subst hb;show .τ x] _ _ dv
end
variable {M:Fb}{k:Y}{fn:Ac}{fd:Cj}{F:U Sl->O Rv}{e:Expr}{f:AB}{x:Ae}{p:Aw}
def Ky(F:U Sl->O Rv)(f:AB):VE->A8:=λa=>match f a with
 |some (.lst b)=>EU F b
 |_=>J
open J in
def
uv(W:AW X.γ X.w X.K X.mg X.φ Bm k fn fd ps (AN X.K F))(Y':AH (k+2) X.A)(hg:Gl X x)(hm:X.mg x=J)(hv:Eh x=Z (.ρ "sorted"))(l:Gl X y)(m:X.mg y=Z (.C fn))(hb:Binds X.K fd ps [])(n:JE X e (tP X.K M H0 f))
  (hn:⇑(x≠"__name__")) (o:⇑(DC x)) (d:⇑(DC y)) (G:↥(AL [e] X.G=(O',An e X.G)::AL [] X.G:7)):
  JE X (.Θ (.ε x p) [e] [#[Z "key",.ε y p2,kpos]] pos) (tF X.K M H0 (Ky F f)):=#[have n:=n.h;by
 intro b s g H Q zA zQ;let(r,ys,R,i,q):=zQ
 apply La (GD zA hg hm hv ?_ hn o)
 unfold Ky at i
 split at i
 .next P hf=>
  let(ok,rfl):=PF i
  let L:=(Z0 n (Bq (X:=X)) G) pos b s g H (λj c=>∃v,j=[v]/\Aj H c/\Au X.K (Nf M r g) c (.U P) v) zA #[r,.U P,R,hf,λv c t d1=>#[v,rfl,t,d1]]
  rw[G]at L ⊢
  apply callWith_builtin_kwB rfl rfl ?_
  apply Al (A0 L λus t z=>?_)
  let(j,c,I1,r1,v,rfl,sm,a,ws,rfl,sq,dl):=z
  apply Al (AO ?_)
  apply Fv ?_
  apply Al (A0 ((Yi (nm:=Z "key") (kpos:=kpos) (Rz (v:=.C fn) (pos:=p2) l m rfl d) (Yh (X:=X))) pos b t g c (λS T=>S=[.C fn]/\T=c) I1 #[rfl,rfl]) λks s2 z=>?_)
  let(S,T,I2,r2,rfl,rfl):=z
  apply Al (AO ?_)
  apply AO ?_
  let(u,rfl,ru):=El r1
  let(u2,rfl,B):=El r2
  ext B
  ext ru
  show uu (N:=Nf M r g) W hb Y' I2 (R.st sm).nh sq dl ok λda j H' s' C E dv=>q da j H' (sm.J s') (sm.σ C) E dv
 .cases i]
end
end Internal
variable{kvs:Internal.Bd}
namespace Internal
open PySem PySem.Spec PyProof.Rows
section
def

ZEx(xs:U D):M5 (.U xs)=Z xs:=rfl
end
open PySem.W
def
uw:typeLookup (.ζ "list") ("keys":Ae)=Ax J:=am_miss_of_fast (by kernel_rfl)
def
ux{prog:AR}{w:Ai}{A:Af}{s:Ab}{f:Array Aa}{Q:O Aa->Ab->V'}(p:PlainL s.o a f)(i:A.ϛ=J)
  (q:∀h' h,(∀b o,s.o.Q b=Z o->h'.Q b=Z o)->Q J {s with heap:=h',toks:=h}):wpAny (Ag prog w) A (getAttr? (.C a) "keys") Q E s:=by
 let((c,r,u,j),n,e,k,hd,l):=p
 subst k hd l
 let(m,g,d,h,os):=s
 let ty:∀t,(#[m,g,d,t,os]:Ab).TypeIs (.C a) "list":=λ_=>#[_,e,rfl]
 let l1:=sub_AttributeError
 let v:=F.Ϯ.X
 let x:=F.Ϯ.L (.C a)
 let l4:=am_list_getattr_none
 unfold getAttr? getAttrBy? getAttrBy
 repeat(any_goals(first
  |assumption
  |show ty _
  |((with_reducible show wpAny _ _ (call (Value.ρ "list.__getattribute__") _ _) _ _ _)
    apply call_meets F.Ϯ (ty _) am_entry_list_getattribute (F.args_list_getattribute_2 _ _) (meets_getattribute_miss_list a f n j "keys" _ uw (by symm) (by symm)) #[e,i,λh1 y z new=>?_])
  |wp_step))
 let(B,C,ex):=new.there
 unfold getattributeRaised
 repeat(any_goals(wp_step))
 show q h1 _ new.keeps
def
bG:entryFor table "dict.update.loop"=Z F0.«dict.update.loop»:=entryFor_of_tree (by kernel_rfl)
def
bH:plainId "dict.update.loop"=J':=by symm
def
bI{K:Am}{k:KT}{v:V}(h:EB K H k v)(s:Aj H H'):EB K H' k v:=by
 cases k with
 | «at» a=>show h
 |tup l=>let(p,e,b):=h;show#[p,e,b.κ s]
def EV:Bd->U D->O Bd
 |a,[]=>Z a
 |a,.tup [y,d]::r=>match Df y with
  |some k=>if DJ k a&&decide (a.a<Az)then EV (ZQ a k d) r else J
  |none=>J
 |_,_=>J
def
uy{M:Model}{A:Af}{s:Ab}{p:Ac}{a:Array Aa}{Q:U Aa->Ab->V'}(h:IsTup s.o p a)(q:Q a.R s):wpAny M A (Builtin.Dict.pairItems (.C p)) Q E s:=by
 let(o,e,b,n,hd):=h
 apply Al (Lc (T:="tuple") #[o,e,b] ?_)
 apply Al (Al (wpAny_load e ?_))
 rw[hd]
 show AO (AO q)
variable {A:Af}{it l:Ac}{N:Fb}{us:U Aa}
open J in
def
bJ(hu:A.η+1<As)(hA:A.in1.ϛ=J)(G:H a=J)(f:Gf X pins H it)(h:it≠a)(n:l≠it)(x:l≠a):∀(F:U D)(vs:U V)(ws:U Aa)(i:Y)(s:Ab)(kvs:Bd)(tr:U T3)(c:Bd),
  us.Ν i=ws->Aq vs ws->Ad X.K N H F vs->PD X.K N H kvs tr->Inv X pins I (AX H a (ER tr)) s->s.o.IsListIter it l i->s.o.IsList l us.I->EV kvs F=Z c ->
  (∀s' z,Inv X pins I (AX H a (ER z)) s'->PD X.K N H c z->R (.ok (.Ϻ .σ)) s') ->
  codeAny (Ag X.γ X.w) A (.ρ "dict.update.loop" #[[.C a,.C it,Bw (i:W'),.σ],[]]) R s
 |[],vs,ws,i,s,kvs,tr,c,hd,P,Q,m,W,j,L,g,q=>by
  ext Q
  ext P
  ext g
  apply Ki bG ?_
  let T:us.I[i]?=J:=by
   have:=List.drop_eq_nil_iff.mp hd
   simp[this]
  apply Al (wpAny_pyNext_list_end hA j L T λh' ke=>?_)
  let M:=W.xv (t':=s.ω) (λb o hb e=>ke b o hb e) (Zt h ▸ f.1) f.2.1 f.2.2.2.1 f.2.2.2.2.1 f.2.2.2.2.2
  show Al (AO (AO (q _ tr M m)))
 |d::F,vs,ws,i,s,kvs,tr,c,hd,P,Q,m,W,j,L,g,q=>by
  let(v,S,rfl,d1,Y'):=Q
  cases P with
  |@cons _ u _ B rv hv'=>
  unfold EV at g
  split at g
  .cases ‹_::_=[]›
  .next y dd r e1=>
   ext e1
   cases hk:Df y with
   |none=>rw[hk]at g;cases g
   |some k=>
    rw[hk]at g
    let(hc,g):=Cy g
    rw[C2,decide_eq_true_eq]at hc
    let ey:=IJ hk
    subst ey
    let(p,vs2,rfl,sq,kv,r2,rfl,dk,vv,r3,rfl,dv,rfl):=d1
    ext rv
    let hat:us.I[i]?=Z (.C p):=by
     simpa using(show(us.Ν i)[0]?=Z (Di p) by rw[hd];rfl)
    let hd':us.Ν (i+1)=B:=by
     rw[<- List.tail_drop,hd];rfl
    apply Ki bG ?_
    apply Al (wpAny_pyNext_list_item j L hat λh' C sb=>?_)
    let M:=W.xv (t':=s.ω) (λb o hb e=>(sb.2 b hb).J e) (Zt h ▸ f.1) f.2.1 f.2.2.2.1 f.2.2.2.2.1 f.2.2.2.2.2
    let(its,rv2,ht,_):=M.Ϙ (sq.κ (Z2 G))
    let(u1,u2,rfl,r1,r2):=OU rv2
    apply Al (Fv ?_)
    apply Al (wpAny_tryCatch (uy ht ?_))
    apply Fv ?_
    apply aZ J' hu M Z5 (λt ht=>bI (m.keys t ht) (Z2 G)) (m.hom hc.1) (bI (IK dk) (Z2 G)) r1 r2 (by have:=Hd m;lia) λh2 t2 I2 E=>?_
    rw[ny]at I2
    apply AO #[Lg bH _,?_]
    apply bJ hu hA G f h n x F S B (i+1) _ (ZQ _ k dd) (EA tr k kv vv) c hd' hv' Y' (m.put dk dv) I2 ?_ ?_ g q
    .let(o,e,hh):=C
     show#[o,(E.2 it h).J e,hh]
    .show(L.at λo e=>(sb.2 l n).J e).at λo e=>(E.2 l x).J e
  .cases g
def
uz(m:X.Ϭ=J')(Y':X.A.η+64<As){s:Ab}{Q:VK}(P:Inv X pins I H s){i:U D}(B:BV X.K H l vs)(C:Ad X.K N H i vs)(G:EV [] i=Z kvs)
  (q:∀tr p,H p=J->PD X.K N H kvs tr->Q (.C p) (AX H p (ER tr))):wpAny (Ag X.γ X.w) X.A (call (.ζ "dict") [.C l]) (EP X pins I Q) E s:=by
 let(us,t,r,hz):=P.Ϥ B
 let f:l<s.o.E.y:=by let(o,n,e,_):=r;show BK e
 apply callType_codes (Q₁:=λx u=>x=.C s.o.E.y/\u={s with heap:=s.o.Μ {cls:=.ζ "dict",data:=.dict (T' [])} }) F.kt_called_dict (F.kt_typeCall_dict_1 (.C l)) F.entry_dict_init (kt_code_dict_new (.C l) #[rfl,rfl]) ?_
 intro x u zQ;let(rfl,rfl):=zQ
 let c:PlainL (s.o.Μ {cls:=.ζ "dict",data:=.dict (T' [])}) l us.I:=by
  let(o,n,e,g):=r
  show#[o,n,Bg _ e,g]
 apply#[#[_,B7 _ rfl,rfl],F.args_dict_init_2 _ _,?_]
 apply Al (Al (wpAny_notOrdered_dict #[_,B7 _ rfl,rfl] ?_))
 apply AO ?_
 change wpAny _ _ (Builtin.Dict.updateFrom "dict.__init__" s.o.E.y (.C l) [] .σ) _ _ _
 apply Al (Lc (T:="list") (by let(o,n,e,g,_):=c;show#[o,e,g]) ?_)
 apply Al (ux c (P.ok.hd m) λh2 v k2=>?_)
 let j:=(P.laid (a:=s.o.E.y) (o:=ER []) (t':=s.ω) (λ_ _ z=>Bg _ z) (A9 _) #[Fz _,beq_eq_false_iff_ne.ϡ (BF (B6 P.big)),List.nodup_nil,_,(T' []),0,B7 _ rfl,#[rfl,rfl,rfl],rfl,rfl,rfl]).ϟ (h':=h2) (t':=v) k2
 let h:PlainL h2 l us.I:=by
  let(o,n,e,g):=c
  show#[o,n,k2 _ _ e,g]
 apply Al (Ix ?_)
 apply Al (OP h.Ω ?_)
 let d:s.o.E.y<h2.E.y:=BK (k2 _ _ (B7 _ rfl))
 let M:Gf X pins H h2.E.y:=j.fpOk (A9 _) (by
  have:=j.Ϣ.Κ (a:=h2.E.y) (A9 _)
  rw[Zt (Hh d)]at this
  show this)
 apply AO #[Lg bH _,?_]
 apply bJ (A:=X.A.in1) (N:=N) (us:=us) (by change X.A.η+1+1<As;lia) (P.ok.hd m) (P.Ϣ.Κ (A9 _)) M (Hh d) (B6 (Gj f d)) (B6 f) i vs us 0 _ [] [] kvs rfl t C .Ϝ (j.ϟ (h':=h2.Μ {cls:=.ζ "list_iterator",data:=.ϊ (T' [.C l,.r 0 0])}) (t':=v) λb o e=>Bg _ e) #[_,B7 _ rfl,rfl,rfl] ?_ G λs' k y L=>?_
 .show h.Ω.Μ _
 .show#[rfl,.C s.o.E.y,_,y,rfl,q k _ (P.Ϣ.Κ (A9 _)) L]
end
def
uA:Eh "dict"=Z (.ζ "dict"):=by kernel_rfl
def FG(f:AB):VE->A8:=λa=>match f a with
 |some (.lst b)=>(EV [] b).j Zc
 |_=>J
variable {M:Fb}{e:Expr}{f:AB}{p:Aw}
open J in
def
uB(z:X.Ϭ=J')(B:X.A.η+64<As)(C:Gl X "dict")(E:X.mg "dict"=J)(m:JE X e (tP X.K M H0 f))(w:↥(AL [e] X.G=(O',An e X.G)::AL [] X.G:7)):
  JE X (.Θ (.ε "dict" p) [e] [] pos) (Fi .d X.K M H0 (FG f)):=#[have m:=m.h;by
 intro g s i H Q W h
 let(j,Y',R,c,q):=h
 unfold FG at c
 split at c
 .next k G=>
  cases n:EV [] k with
  |none=>rw[n]at c;cases c
  |some o=>
   rw[n]at c
   ext c
   let F:=(Z0 m (Bq (X:=X)) w) pos g s i H (λr l=>∃v,r=[v]/\Aj H l/\Au X.K (Nf M j i) l (.U k) v) W #[j,.U k,R,G,λv l x t=>#[v,rfl,x,t]]
   apply Call_ (GD W C E uA (K7 (A0 F λus x L=>?_) (by rw[w]) rfl))
   let(r,l,N,P,v,rfl,sm,t):=L
   let(u,rfl,T):=El P
   let(a,ws,rfl,S,dl):=t
   ext T
   apply uz z B N S dl n λtr b hb y=>?_
   have:=Lm (K:=X.K) (M:=M) (ρ:=j) (I:=i) (fl:=.d) (Q:=Q) (xs:=Zc o) (vs:=D4 tr) (p:=b) sm hb y.flat q
   rw[JD y]at this
   show this
 .cases c]
def
uC{K:Am}(i:Y){x:Ae}{a:Aw}(b:↥(NV X i x:8)):
  JS X (.Return (Z (.ε x a)) pos) (tS K M H0 λρ=>HM (EO ρ i)):=#[Y0 rfl (λ_=>rfl) Lp b]
end
variable {K:Am}{M:Fb}
def
uD{st:AE}:JS X st (tS K M H0 λ_=>.ό):=#[λa s b H D d ⟨c,R,q⟩=>B0 q]
end
structure uE(B:Ak)(l:List Env)(e:Ac)(C fl:Aa)(h:Ak):V' where
 stay:B.StaysIn h
 new:B.Q e=J
 fun_:h.g7 B l
 rcd:∃oe vs,h.Q e=Z oe/\oe.cls=C/\oe.data=.ϊ vs/\vs[2]?=Z .σ/\(vs[1]?=Z .σ\/∃T oT ts,vs[1]?=Z (.C T)/\B.Q T=J/\T≠e/\h.Q T=Z oT/\oT.data=.ϊ ts/\ts[3]?=Z fl)
variable {s:Ab}{B:Ak}{l:U Env}{e:Ac}{C:Aa}
def uF(P:AR)(w:Ai)(l:U Env)(H H':Hp)(s:Ak)(e C:Ac)(h:Ak):V':=
 Aj H H'/\Un (EG l) [] H H' s h/\∃B,CH P w H' B/\(∀b o,s.Q b=Z o->H b=J->b∉EG l->B.Q b=Z o)/\uE B l e (.C C) .σ h
def uG(Y':Cx)(b:A1)(I:St)(H:Hp)(C:Ac)(e:Aa)(c:Ab):V':=
 ∃a d g f,e=.C a/\Inv Y' b I d f/\Aj H d/\c.os=f.os/\AllBare c.g9/\uF Y'.γ Y'.w Y'.Ϛ d g f.o a C c.o
end
def uH(Y':Cx)(a:A1)(I:St)(H:Hp)(c:Ae)(e:Aa)(b:Ab):V':=∃D,nsIn Y'.K CJ c=Z (Z (.C D))/\uG Y' a I H D e b
structure XS(Y':Cx)(K:Am)(M:Fb)(H0:Hp)(st:AE)(h:VE->Option Ae):V' where
 h:∀pins s I H ρ c,Inv Y' pins I H s->By K M H0 ρ I H->h ρ=Z c->wpAny (Ag Y'.γ Y'.w) Y'.A (exec st Y'.G) (λ_ _=>False) (λe s'=>∃σ' H1,Aj H0 H1/\uH Y' pins σ' H1 c e s') s
variable {K:Am}
structure XMk(K:Am)(D:Ac):V' where
 ex:∃nm q N bs bm hdct sn sub ab col dd k0 k1 k2 k3 k5,K.X D=Z (excClassObj nm q D N bs bm hdct sn sub ab col dd k0 k1 k2 k3 k5 "ValueError.__new__")/\tailIn K [.ζ "ValueError",.ζ "Exception",.ζ "BaseException",.ζ "object"] bm=J'/\nsOkIn K N=J'/\nsIn K N "__init__"=Z J
end
abbrev bmV:U Aa:=[.ζ "ValueError",.ζ "Exception",.ζ "BaseException",.ζ "object"]
end Internal
namespace Internal
open PySem PySem.Spec PyProof.Rows
def bK(i j:W'):V':=0<j/\j<2^100
instance (i j:W'):Decidable (bK i j):=by unfold bK;show inferInstance
open PySem.W
def Er(h:Ak)(d:Ac)(es:Array Iq)(ep:Y):V':=∃o,h.Q d=Z o/\o.ExactDict/\o.data=.dict es ep
variable {prog:AR}{w:Ai}{A:Af}{s:Ab}{d it:Ac}{es:Array Iq}{ep i:Y}
def
Er.type(x:Er s.o d es ep):s.TypeIs (.C d) "dict":=by
 let(o,a,b,_):=x
 show#[o,a,b.1]
def
Er.at{h h':Ak}(x:Er h d es ep)(k:∀o,h.Q d=Z o->h'.Q d=Z o):Er h' d es ep:=by
 let(o,a,b):=x
 show#[o,k o a,b]
def
bL{Q:AQ}(hd:(d==He)=O')(a:Er s.o d es ep)
  (e:Q (.C s.o.E.y) {s with heap:=s.o.Μ {cls:=.ζ "dict_keyiterator",data:=.ϊ (T' [.C d,.r 0 0,.r es.y 0,.r ep 0])} }):wpAny (Ag prog w) A (pyIter (.C d)) Q E s:=by
 let ty:=a.ζ
 let(o,b,f,c):=a
 apply wpAny_pyIter_slot ty PySem.F.slot_dict_iter (Jn PySem.F.slot_dict_iter ty PySem.F.entry_dict_iter ?_ (PySem.F.args_dict_iter_1 _))
 unfold F0.«dict.__iter__» Builtin.Dict.dictSlotNone
 apply Al (Al (wpAny_notOrdered_dict ty ?_))
 refine(AO ?_:wpAny _ _ (Ax (Di d)) _ _ s)
 change wpAny _ _ (Builtin.Dict.showsAll d >>= _) _ _ s
 unfold Builtin.Dict.showsAll
 rw[if_neg (hd ▸ MA)]
 apply Al (AO (Al (wpAny_dictEntries b c (Al (wpAny_dictEpoch b c ?_)))))
 apply Al (Ke (AO #[_,rfl,"dict_keyiterator",_,#[_,B7 _ rfl,rfl],PySem.F.slot_dict_keyiterator_next.X,?_]))
 simpa[Bw]using e
def
PH{Q:O Aa->Ab->V'}(g:s.o.IsKeyIter it d i es.y ep)(r:Er s.o d es ep)(q:∀(c:i<es.y) h',h'.IsKeyIter it d (i+1) es.y ep->D1 it s.o h'->Q (Z es[i].key) {s with heap:=h' })
  (h:es.y<=i->A.ϛ=J/\∀h',Heap.ExtBut it s.o h'->Q J {s with heap:=h' }):wpAny (Ag prog w) A (pyNext (.C it)) Q E s:=by
 let ty:=g.ϖ
 let(p,f,t,e):=g
 let(o,j,u,k):=r
 unfold pyNext
 apply Al (Nv (Kc (name:=EL "__next__") ty uI (Jn uI ty PySem.F.entry_dict_keyiterator_next ?_ (PySem.F.args_dict_keyiterator_next_1 _))))
 apply Al (AO (Al (Al ?_)))
 apply Al (bM ty (AO ?_))
 apply Al (wpAny_fieldsOf f e ?_)
 erw[show Builtin.Dict_items.ownsTuple "dict_keyiterator"=O' by ext,Fg,if_false]
 change wpAny _ _ (if(Di d==Value.σ)=J' then _ else _) _ _ s
 apply Al (AO (Al (wpAny_dictEntries j k ?_)))
 rw[if_neg (by simp)]
 apply Al (AO (Al (wpAny_dictEpoch j k ?_)))
 rw[if_neg (by simp)]
 apply AO ?_
 by_cases c:i<es.y
 .erw[show ¬ ((i:W')<0)from ∅,if_false,Nw,bt c]
  apply Al ?_
  first|apply Al (bM ty (AO ?_))|apply Al (wpAny_typeNameOf_keyiter ty (AO ?_))
  apply Al (wpAny_isOneOf_keyiter ty ?_)
  change wpAny _ _ (setField (.C it) 1 (Bw ((i:W')+1)) >>= _) _ _ s
  apply Al (wpAny_setField f e (by simp) ?_)
  let n:(s.o.ϭ it (Obj.mapFields (·.setIfInBounds 1 (Bw ((i:W')+1))))).IsKeyIter it d (i+1) es.y ep:=#[_,SM _ f (Obj.isFreed_of_fields (S8 e _)),(Obj.cls_mapFields ..).J t,by rw[S8 e];simp[Bw]]
  show Al (Fv (Al (wpAny_isOneOf_keyiter (s:={s with heap:=s.o.ϭ it (Obj.mapFields (·.setIfInBounds 1 (Bw ((i:W')+1))))}) n.ϖ (AO (AO #[_,rfl,AO (q c _ n (Kt ..))])))))
 .erw[show ¬ ((i:W')<0)from ∅,if_false,Nw,Array.getElem?_eq_none (Kh c)]
  apply Al ?_
  first|apply Al (bM ty (AO ?_))|apply Al (wpAny_typeNameOf_keyiter ty (AO ?_))
  change wpAny _ _ (setField (.C it) 0 .σ >>= _) _ _ s
  apply Al (wpAny_setField f e (by simp) ?_)
  apply Al ?_
  apply Al (Ke ?_ (by size_fits))
  apply Al (m:=firstArgMember _ _) (wpAny_of_eq (a:=Value.σ) (by first|rfl|(erw[firstArgMember];rfl)) ?_)
  apply Ke ?_ (by size_fits)
  apply Al (wpAny_handled ?_)
  rw[show A.in1.ϛ=J from(h (Kh c)).1]
  apply Al (AO (wpAny_throw ?_))
  apply Al (wpAny_isInstance (T:="StopIteration") (b:=J') #[_,B7 _ rfl,rfl] isSubtype_stop ?_)
  show AO ((h (Kh c)).2 _ ((Heap.ExtBut.Μ (Heap.SameBut.α (Kt ..)) _).Μ _))
def
uJ(m:A.ϛ=J)(p:Ac)(c:d≠p):Walks prog w A p [p,d] [p] es.y (λi v=>∃e,es[i]?=Z e/\v=e.key) (λi h=>h.IsKeyIter p d i es.y ep/\Er h d es ep) where
 sub:=λb hb=>by simp at hb;simp[hb]
 frame:=λ_ _ _ st j=>#[st.1.at λo e=>j p (by simp) o e,st.2.at λo e=>j d (by simp) o e]
 item:=λi s Q E k st a=>PH st.1 st.2 (λ_ f n l=>a _ f s.ω #[es[i],bt k,rfl] #[n,st.2.at λo e=>l.α _ _ c e] λb o hb e=>l.α b o (λh=>hb (by simp[h])) e) λz=>absurd k (Nat.not_lt.ϡ z)
 done:=λs Q E st a=>PH st.1 st.2 (λz=>absurd z (Hf _)) λ_=>#[m,λf g=>a f s.ω λb o hb e=>g b o (λh=>hb (by simp[h])) e]
 self:=λ_ _ _ _ st a=>wpAny_pyIter_keyiter st.1 a
def
Ta(lo:(d==He)=O'):KdlSrc prog w "dict" d d es.y (λi v=>∃e,es[i]?=Z e/\v=e.key) (λh=>Er h d es ep) where
 type:=λ_ a=>a.ζ
 there:=λ_ a=>by let(o,b,_):=a;show#[BK b,BK b]
 keep:=λ_ _ a f=>a.at λo e=>f d (.S rfl) o e
 notList:=by ext
 notTuple:=by ext
 hint:=λ_ _ _ _ a c=>kdl_hint_dict a.ζ c
 iter:=λ_ s g a=>#[_,_,(λ_ _ c=>bL lo a c),uJ g _ (by let(o,b,_):=a;show B6 (BK b)),#[#[_,B7 _ rfl,rfl,rfl],a.at λo e=>Bg _ e]]
end
def
LR{w:Ai}:∀{tr:U T3}{es:U Iq},J5 w (tr.j (·.1)) (D4 tr) es->Aq (tr.j λt=>t.2.1) (es.j λe=>e.key):=by
 intro tr
 induction tr with
 |nil=>
  intro es zQ;let(_,e):=zQ
  subst e
  show .Ϝ
 |cons t r a=>
  intro es zQ;let(kv,v,h,e,i,h1,h2,b,_,_,_,c):=zQ
  erw[D4,Pt]at h1
  let(d,f,g):=h1
  subst h2 d f g
  show .Η b (a c)
section
def
Tb{es:Array Iq}{acc:Array Aa}(h:ItemsOf (λi v=>∃e,es[i]?=Z e/\v=e.key) acc es.y):acc.R=es.R.j λe=>e.key:=by
 apply Jy λi=>?_
 rw[Array.getElem?_toList,DF,Array.getElem?_toList]
 cases a:acc[i]? with
 |some v=>
  let(e,b,c):=h.2 i v a
  rw[b,c];rfl
 |none=>
  let h1:acc.y<=i:=Array.getElem?_eq_none_iff.mp a
  let h2:es[i]?=J:=Array.getElem?_eq_none_iff.ϡ (by rw[<- h.1];show h1)
  rw[h2];rfl
def
uK(h:X.Ϭ=J'):D8 X (.ζ "list") (λxs H Q=>∃a tr,xs=[.C a]/\Cq X.K H a tr/\∀l,H l=J->Q (.C l) (AX H l (.U (tr.j λt=>t.2.1)))):=by
 intro d s B H xs C Q E r zQ;let(a,tr,rfl,hd,q):=zQ
 let(u,rfl,i):=El r
 ext i
 let(z,j,nd,o,c,e,k,m,n,f):=hd.1.ok E.Ϣ
 let g:tr.a<=Az:=by exists z
 apply kdl_call (Ta (es:=c) (ep:=e) j) (E.ok.hd h) #[o,k,m,n] ((show tr.a=c.y by have:=(LR f).a;exists this) ▸ g) λp v b x kp y A=>?_
 apply#[.C s.o.E.y,_,E.laid (t':=v) kp (A9 _) (show Be X.γ X.w _ p _ (.U (tr.j λt=>t.2.1))from#[by simpa using g,b.toList,x,Tb A ▸ (LR f),by exists y]),rfl,q _ (E.hok.fresh (A9 _))]
end
def Kz:U D->A8
 |[.lst b .d]=>(DV b).j λa=>a.j λp=>kD p.1
 |_=>J
def

bN(kvs:Bd):Kz [.U (Zc kvs) .d]=Z (kvs.j λp=>kD p.1):=by simp[Kz]
variable {K:Am}{N:Fb}
def
PD.kden{tr:U T3}(h:PD K N H kvs tr):Ad K N H (kvs.j λp=>kD p.1) (tr.j λt=>t.2.1):=by
 induction h with
 |nil=>show Ad.Ϝ
 |cons h _ a=>show Ad.Η h.2.1 a
open J in
def
uL:Lo K (λxs H Q=>∃a tr,xs=[.C a]/\Cq K H a tr/\∀l,H l=J->Q (.C l) (AX H l (.U (tr.j λt=>t.2.1)))) Kz:=by
 intro N H j k xs Q m h e q
 unfold Kz at e
 split at e
 .next n=>
  let(c,d,e):=Cd.mp e
  ext e
  let(v,rfl,b):=Paired.one' h
  rw[Gr d]at b
  let(p,o,rfl,r,hd):=b
  let(tr,f,g):=IL r hd
  show#[p,tr,rfl,f,λl i=>q _ l i g.kden]
 .cases e
end
variable {prog:AR}{w:Ai}{A:Af}{s:Ab}{T:String}{r d:Ac}{n:Y}{P:Y->Aa->V'}{OK:Ak->V'}
def
bO{Q:U Aa->Ab->V'}(K:KdlSrc prog w T r d n P OK)(t:A.ϛ=J)(hok:OK s.o)(u:n<=Az)
  (v:∀h' g acc,(∀b o,s.o.Q b=Z o->h'.Q b=Z o)->ItemsOf P acc n->Q acc.R {s with heap:=h',toks:=g}):wpAny (Ag prog w) A (collect (.C r)) Q E s:=by
 let(x,ld):=K.there _ hok
 apply Al (wpAny_runValue (Ki F.entry_proto_collect ?_))
 apply Al (Ke ?_)
 apply AO #[Lg F.plain_list_iadd _,Ki F.entry_list_iadd ?_]
 let i:∀j,(∃h' g acc l,j={s with heap:=h',toks:=g}/\(∀b o,s.o.Q b=Z o->h'.Q b=Z o)/\h'.Q s.o.E.y=Z {cls:=.ζ "list",dict:=J,data:=.ϰ acc l,slots:=(T' [])}/\ItemsOf P acc n)->wpAny (Ag prog w) A (match Di s.o.E.y with
   |Di a=>do
    match(<- load a).data with
     |Data.seq y _=>Ax y.R
     |_=>unsupported "internal:collect"
   |_=>unsupported "internal:collect") Q E j:=by
  intro j zQ;let(h',g,acc,l,rfl,m,k,p):=zQ
  show Al (wpAny_load k (AO (v h' g acc m p)))
 apply wpAny_mono (kdl_extend (R:=λr j=>r=.ok (.Ϻ (.C s.o.E.y))/\∃h' g acc l,j={s with heap:=h',toks:=g}/\(∀b o,s.o.Q b=Z o->h'.Q b=Z o)/\h'.Q s.o.E.y=Z {cls:=.ζ "list",dict:=J,data:=.ϰ acc l,slots:=(T' [])}/\ItemsOf P acc n) (s:={s with heap:=s.o.Μ {cls:=.ζ "list",data:=.ϰ ([]:U Aa).I} }) K t (K.keep _ _ hok λb _ o e=>Bg _ e) s.o.E.y (Hh x) (Hh ld) _ 0 (B7 _ rfl) (λh' g acc l m k p=>#[rfl,h',g,acc,l,rfl,λb o e=>m b o (B6 (BK e)) (Bg _ e),k,p]) u) (λfin j h=>?_) (λe j h=>?_)
 .cases fin with
  |done f=>
   let(e,h):=h
   ext e
   show i j h
  |again c=>
   apply#[h.1,codeAny_mono h.2 λr q z=>?_]
   let(rfl,h):=z
   show i q h
 .show nomatch h.1
end
end Internal
namespace Internal
open PySem PySem.Spec PyProof.Rows
def bP:Y->(U Aa->V')->V'
 |0,P=>P []
 |n+1,P=>∀a,bP n λl=>P (a::l)
def
bQ{n:Y}{P:U Aa->V'}(h:bP n P)(us:U Aa)(e:us.a=n):P us:=by
 induction us generalizing n P with
 |nil=>ext e;show h
 |cons a r b=>ext e;show b (h a) rfl
structure DI(K:Am)(mg:BE)(nm:Ae)(st:AE)(ps:List Ae)(a:Ac)(fd:Cj):V' where
 m:mg nm=Z (.C a)
 F:Jq K nm nm st a fd
 b:Binds K fd ps []
def
di{K:Am}{mg:BE}{h:Ak}{nm:Ae}{st:AE}{i:Aa}{j e:O Ac}{g:Array (O Aa)}{kV d f b ct:Aa}(X:K.In h)(G:h.Ns CJ mg)
  (A:PySem.W.nsIn K CJ nm=Z (Z (.C a)))
  (l:K.X a=Z #[i,j,.func (Jm nm nm (HK st) (ZT st) (Zk st) .σ kV d f e b ct),g]) (c:PySem.W.codeIn K b nm=J') (k:HI K (.C a)=J')
  (hb:∀(kV d f:Aa) (e:O Ac) (b ct:Aa) (us:U Aa),us.a=ps.a->bindArgs (Jm nm nm (HK st) (ZT st) (Zk st) .σ kV d f e b ct) #[us,[]]=Ax (ps.zip us):=by
   exact λ_ _ _ _ _ _=>bQ (by(repeat intro _);rfl)):
  DI K mg nm st ps a (Jm nm nm (HK st) (ZT st) (Zk st) .σ kV d f e b ct):=
 #[PySem.W.mg_of X G A,YE l c k,.ϔ (hb kV d f e b ct)]
def
Nx{N P:U Ae}{a:Scope}(h1:↑(a.ϱ=.Ϧ))(h2:↑(a.isCoroutine=O'))(b:↑(a.isGenerator=O'))(c:↥(N.ι:14))(d:↑(N.ύ P.a=P))
  (e:↥(∀x∈P,a.υ.X x=Z .ϓ\/a.υ.X x=Z .Ξ:14)) (f:↥(∀y∈a.υ,y.2≠.Φ:14)):Ff N P a:=#[h1,h2,b,c,d,e,f]
variable {K:Am}{M:Fb}{k n:Y}{fn:Ac}{fd:Cj}{x nm:Ae}{st:AE}{F:U Sl->O Rv}{e a b:Expr}{p:Aw}{f g:AB}
def
uM(G:AW X.γ X.w X.K X.mg X.φ Bm k fn fd ps (AN K F))(a:AH n X.A)(D:DI X.K X.mg x st ps fn fd)(c:JA X (e::es) (CC K M H0 fa))(d:⇑(k<=n))(f:↑(Gl X x))(hz:↥(CA X x e es pos:9)):JE X (.Θ (.ε x p) (e::es) [] pos) (tD K M H0 (Zh F fa)):=
 rf G (a.θ d) f D.m D.F.kp D.b (E:=E0) Gi c hz
def
uN(G:AW X.γ X.w X.K X.mg X.φ Bm k fn fd ps (AN K F))(a:AH n X.A)(D:DI X.K X.mg x st ps fn fd)(c:JA X (e::es) (CC K M H0 fa))(d:⇑(k<=n))(f:↑(Gl X x))(hz:↥(CA X x e es pos:9)):JE X (.Θ (.ε x p) (e::es) [] pos) (tF K M H0 (DU F fa)):=
 rg G (a.θ d) f D.m D.F.kp D.b (E:=E0) Gi c hz
def
uO(i:Y){p vp:Aw}(a:X.mg "len"=J)(b:↥(NV X i y:8))(c:↑(Gl X "len"))(hz:↥(CA X "len" (.ε y vp) [] pos:9)):
  JE X (.Θ (.ε "len" p) [.ε y vp] [] pos) (tD X.K M H0 (Zm ZA λρ=>Zz (Cp ρ i) (Z []))):=GU Yb au c a rfl (O5 (SH i b) Se) (hz:=hz)
def
uP(i:Y){t:Ae}{n:String}{p vp tp:Aw}(b:X.mg "isinstance"=J)(ht:X.mg t=J)(c:↑(Eh t=Z (.ζ n)))(d:⇑(t≠"__name__"))(hd:⇑(DC t))(e:↥(NV X i y:8))(f:↑(Gl X "isinstance"))(a:↑(Gl X t))(hz:↥(CA X "isinstance" (.ε y vp) [.ε t tp] pos:9)):
  JE X (.Θ (.ε "isinstance" p) [.ε y vp,.ε t tp] [] pos) (tD X.K M H0 (Zm B5 λρ=>Zz (Cp ρ i) (Zz (Fl (Z (.ty n))) (Z [])))):=GU aJ aK f b rfl (O5 (SH i e) (O5 (YU (SF a ht c d hd)) Se)) (hz:=hz)
def
uQ {i j pos}:JE X (.ϙ (.r i) j pos) (tP K M H0 λ_=>Z (.r i)):=YP YQ
def
uR(c:JE X a (tP X.K M H0 f))(hb:JE X b (tP X.K M H0 g))(d:↥(MO b:13)):JE X (.Δ a b pos) (tD X.K M H0 (Za Ap f g)):=ss c hb d
def
uS(i:Y){x:Ae}(a:X.N.ι)(b:↑(X.N[i]?=Z x))(c:↥(Loc X.G.Γ x:3))(d:↥(X.fn x=J'\/X.G.Γ.υ.X x=Z .ϓ:4)):
  JG X (.ε x pos) (tG K M H0 [i] (Zb i)):=rA a b c d
def
uT(i:Y){x:Ae}{a:Aw}(b:X.N.ι)(c:JE X e (tD K M H0 f))(d:↑(X.N[i]?=Z x))(g:↥(Loc X.G.Γ x:3))(h:↑(Ej e (Z (.ε x a)) pos.ϥ X.G=Ax O'))
  (j:↥(X.fn x=J'\/X.G.Γ.υ.X x=Z .ϓ:5)):JS X (.Assign [.Name x a] e pos) (tS K M H0 λρ=>ZG i (f ρ) ρ):=ro b d g c h j
def
uU{P:AR}{w:Ai}{mg:BE}{base:Ak}{N:U Ae}{g c:Ao}(D:DI K mg nm st ps fn fd)(S:Ff N ps (Zk st))
  (hb:∀(a:Aa) (A:Af) (outer:U Env) (s:Ab) (H:Hp) (E:XK) (M:Fb) (H0:Hp),AH k (A.Ϩ (Bj nm (Zk st) s.o.E.y fn a)) ->
   JB (DE Bm P w K mg base N nm (Zk st) fn a A outer s H E).nox (ZT st) (tS K M H0 c)) (e:↑(c=g)) (b:⇑(ps.a<=N.a)):AW P w K mg base Bm (k+1) fn fd ps (AN K (AV ps.a N.a g)):=
 Y4 D.F S b (e ▸ hb)
end
open PySem.W
abbrev ME(X:Cx)(o:Expr)(m:Ae)(es:U Expr)(pl:Sem jp)(a pos:Aw):V':=An (.Θ (.δ o m a) es [] pos) X.G=(do
 let c <- An o X.G
 standAt a.atName
 let(f,b) <- Fe [c] (getMethod c m pl)
 callWith pos f b (AD pos (AL es X.G)) (GI pos (GJ [] X.G)))
def
JJ{K:Am}{c:Ae}{C:Ac}(h:nsIn K CJ c=Z (Z (.C C))):O2 K c=C:=by unfold O2;rw[h]
@[simp]def Z6(c f:Ae):D->O D
  |.lst a (.i ns b)=>if b=c then(ns.zip a).X f else J
  |_=>J
variable {K:Am}{N:Fb}
def
bR{f:Ae}{d:D}:∀{ns:U Ae}{xs:U D}{vs:U V},Ad K N H xs vs->(ns.zip xs).X f=Z d->∃v,(ns.zip vs).X f=Z v/\Av K N H d v
 |[],_,_,_,e=>by simp at e
 |_::_,[],_,_,e=>by simp at e
 |n::ns,x::xs,vs,h,e=>by
  let(v,r,rfl,q,t):=h
  erw[HL,MP]at e ⊢
  cases hb:f==n with
  |true=>rw[hb]at e;ext e;show#[v,rfl,q]
  |false=>rw[hb]at e;show bR t e
def
Ny{m:Ae}:∀{ns:U Ae}{vs:U V},ns.Ϗ m=O'->(ns.zip vs).X m=J
 |[],_,_=>by simp
 |_::_,[],_=>by simp
 |n::ns,v::vs,h=>by
  erw[List.contains_cons,Bool.or_eq_false_iff]at h
  erw[HL,MP,h.1]
  show Ny h.2
@[simp]def EW(c m:Ae):Sl->jp
  |.val (.lst _ (.i ns a))=>decide (a=c)&&!ns.contains m
  |.lent _ (.i ns a)=>decide (a=c)&&!ns.contains m
  |_=>O'
def
uV{c m:Ae}{s:Sl}{v:V}(h:EW c m s=J')(b:CK K N H s v):∃a f d,v=.C a/\Rd H a (.ins (O2 K c) f d)/\d.X m=J:=by
 unfold EW at h
 split at h
 .erw[C2,decide_eq_true_eq,LS]at h
  let(rfl,h):=h
  let(a,g,e,q,_):=b
  rcases q with⟨_,q⟩|⟨i,z,_⟩
  .show#[a,_,_,e,q,Ny h]
  .cases z
 .erw[C2,decide_eq_true_eq,LS]at h
  let(rfl,h):=h
  let(a,g,e,_,q,_):=b
  show#[a,_,_,e,q,Ny h]
 .cases h
def
Tc{r:Rv}{v:V}(c:∀a,N a->H a≠J)(h:M3 K N H H' r v):Av K N H' (Ct r) v:=by
 cases r with
 |val d=>show h
 |own i j=>
  let(a,f,e,h1,h2,g):=h
  show#[a,f,e,.of (λn=>c a n h1) h2,g.nw λb hb=>.S (.S hb)]
end
@[simp]def ZY(c m:Ae)(F:U Sl->O Rv)(o:O Sl)(a:O (U Sl)):O Rv:=o.L λs=>if EW c m s=J' then a.L λb=>F (s::b)else J
variable {K:Am}{M:Fb}{e:Expr}{f go:AB}{F:U Sl->O Rv}{k:Y}{fn C:Ac}{fd:Cj}{c m:Ae}{E:XK}
def
bS{f:Ae}(i:nsIn X.K CJ c=Z (Z (.C C)))(j:EJ X.K C)(k:Bx X.K C f)(l:JE X o (tP X.K M H0 go))(hb:↑(FV o f X.G (An o X.G)=An o X.G)):JE X (.δ o f pos) (tD X.K M H0 λρ=>(go ρ).L (Z6 c f)):=
 #[(Yf l.h hb).θ λy H Q m=>by
   let(ρ,d,R,e,q):=m
   let(z,n,b):=BZ.mp e
   unfold Z6 at b
   split at b
   .split at b
    .next g=>
     subst g
     apply#[ρ,_,R,n,λv p s t=>?_]
     let(a,A,w,h1,r):=t
     let(u,h2,x):=bR r b
     erw[CO,JJ i]at h1
     show#[a,C,_,_,u,w,h1,j,k,h2,q u p s x]
    .cases b
   .cases b]
def
bT(i:nsIn K CJ c=Z (Z (.C C))){r:Rv}{Q:VK}(R:By K M H0 ρ I H)(e:ZY c m F (fo ρ) (fa ρ)=Z r)(q:∀v b H',Aj H b->Aj b H'->M3 K (Nf M ρ I) b H' r v->Q v H'):
  Jl C m (AN K F) [] E (Fk K M H0 fo) (CC K M H0 fa) I H Q:=by
 let(s,j,e):=BZ.mp e
 let(k,e):=Cy e
 let(g,l,n):=BZ.mp e
 apply#[ρ,s,R,j,λv b d h=>?_]
 let(a,o,p,t,h1,h2):=uV k h
 rw[JJ i]at h1
 show#[a,o,p,t,h1,h2,ρ,g,R.st d,l,λu x f y=>#[Nf M ρ I,s::g,r,((R.st d).st f).nh,#[v,u++[],rfl,h.κ f,by rw[Du];show y],n,λw z A B=>q w x z (d.J f) A B]]
def
uW{Q:U V->Hp->V'}(h:CC K M H0 (λ_=>Z []) I H Q):MK I H Q:=by
 let(a,b,R,e,q):=h
 ext e
 show q [] H (Aj.ξ H) rfl
def
bU{sp:Sp}{Q:VK}(h:Jl C m sp [] E (Fk K M H0 fo) (CC K M H0 λ_=>Z []) I H Q):Jl C m sp [] E (Fk K M H0 fo) MK I H Q:=by
 let(b,d,R,e,q):=h
 apply#[b,d,R,e,λv c s f=>?_]
 let(a,g,i,j,h1,h2,t):=q v c s f
 show#[a,g,i,j,h1,h2,uW t]
def
bV(b:nsIn K CJ c=Z (Z (.C C))){Q:VK}(h:tD K M H0 (λρ=>(ZY c m F (fo ρ) (fa ρ)).j Ct) I H Q):Jl C m (AN K F) [] E (Fk K M H0 fo) (CC K M H0 fa) I H Q:=by
 let(ρ,d,R,e,q):=h
 let(r,f,rfl):=Cd.mp e
 show bT b R f λv j g a i h=>q v g (a.J i) (Tc (R.st a).nh h)
section
variable(hC:nsIn X.K CJ c=Z (Z (.C C)))(cl:EJ X.K C)(hm:Jk X.K C m fn)(G:AW X.γ X.w X.K X.mg X.φ CX k fn fd ps (AN X.K F))(hr:AH k X.A)(hb:Binds X.K fd ps [])(hx:EK CX X E)(ho:JE X o (Fk X.K M H0 fo))
include hC cl hm G hr hb hx ho
def
uX(d:JA X (e::es) (CC X.K M H0 fa))
  (a:↥(AL (e::es) X.G=(O',An e X.G)::AL es X.G:7)) (b:↑((AD pos (AL es X.G)).any (·.1)=O'))
  (ht:↑(ME X o m (e::es) pl apos pos)):
  JE X (.Θ (.δ o m apos) (e::es) [] pos) (tD X.K M H0 λρ=>(ZY c m F (fo ρ) (fa ρ)).j Ct):=#[(RU ho.h cl hm G hr hb .Ϝ hx d.h a b ht).θ λ_ _ _ h=>bV hC h]
def
uY
  (ht:↑(ME X o m [] pl apos pos)):
  JE X (.Θ (.δ o m apos) [] [] pos) (tD X.K M H0 λρ=>(ZY c m F (fo ρ) (Z [])).j Ct):=#[(OW ho.h cl hm G hr hb .Ϝ hx ht).θ λ_ _ _ h=>bU (bV hC h)]
end
end
def uZ(H:Hp)(x:Ac):Hp:=λb=>if b=x then J else H b
structure u0(K:Am)(N:Fb)(a:Ac)(H H':Hp)(ys:List D)(b:Kd)(d:D)(v:V):V' where
 sm:Aj (uZ H a) H'
 at_:∃ws,H' a=Z (CO K b a ys ws)/\Ad K N H' ys ws
 de:Av K N H' d v
abbrev RB:=U D×Kd×D
def bW(K:Am)(N:Fb)(a:Ac)(H:Hp):Sl->V->V'
 |.val d,v=>Av K N H d v
 |.lent e b,v=>∃c f,v=.C c/\(N c/\c≠a)/\Rd H c (CO K b c e f)/\Ad K N H e f
 |_,_=>False
def u3(K:Am)(F:U Sl->Sl->U Sl->O RB):Sp:=λk H Q _=>∃N a g h d e f b i r,k=d++.C a::e/\(∀c,N c->H c≠J)/\N a/\H a=Z (CO K b a f i)/\Ad K N H f i/\Paired (bW K N a H) g d/\Paired (bW K N a H) h e /\
 F g (.χ f b (Z a)) h=Z r/\∀v j,u0 K N a H j r.1 r.2.1 r.2.2 v->Q v j
variable {b:Kd}
def
Nz{a b:Type}{F:a->b->V'}{l:U a}{m:U b}(h:Paired F l m):l.a=m.a:=h.a
def
bX{a b:Type}{F:a->b->V'}{x:a}:∀{l:U a}{m:U b}{i:Y},Paired F l m->l[i]?=Z x->∃y,m[i]?=Z y/\F x y
 |_,_,0,.cons h _,e=>by ext e;show#[_,rfl,h]
 |_,_,i+1,.cons _ t,e=>by exists bX (i:=i) t (by exists e)
end
variable {K:Am}{F:U Sl->Sl->U Sl->O RB}{n:Y}{fn C:Ac}{fd:Cj}{c m:Ae}{E:XK}
section
variable(hC:nsIn X.K CJ c=Z (Z (.C C)))(cl:EJ X.K C)(hm:Jk X.K C m fn)(G:AW X.γ X.w X.K X.mg X.φ CX n fn fd ps (u3 X.K F))(hr:AH n X.A)(hb:Binds X.K fd ps [])(hx:EK CX X E)
include hC cl hm G hr hb hx
end
end
@[simp]def putN(f:Ae):U Ae->U Ae
  |[]=>[f]
  |n::ns=>if n=f then n::ns else n::putN f ns
@[simp]def DW{a:Type}(f:Ae)(y:a):U Ae->U a->U a
  |n::ns,x::b=>if n=f then y::b else x::DW f y ns b
  |_,_=>[y]
def
bY{f:Ae}{y:V}:∀{ns:U Ae}{vs:U V},ns.a=vs.a->EI f y (ns.zip vs)=(putN f ns).zip (DW f y ns vs)
 |[],[],_=>rfl
 |n::ns,v::vs,h=>by
  erw[HL,EI,putN,DW]
  by_cases e:n=f
  .rw[if_pos e,if_pos e,if_pos e];rfl
  .rw[if_neg e,if_neg e,if_neg e,bY (by exists h)];rfl
open AutoSeq1 (wpAny_loadPart')
open PySem.MeetsSeq in
def
u4(l:Ac)(items:Array Aa)(n:Y)(x:Aa)(e:Aa->jp)(j:Y)(q:j<items.y)(v:e items[j]=J')(f:items.y<=Az)(k:Y):
  ∀i:Y,j-i=k->i<=j->(∀m (r:m<items.y),i<=m->m<j->e items[m]=O')->Meets (F0.«list.remove.loop» #[[.C l,x,Bw i],[]])
   (λA R s=>s.o.Q l=Z {cls:=.ζ "list",dict:=J,data:=.ϰ items n,slots:=(T' [])}/\(∀y,y∈items->SeqAt.EqAt A.in1 s y x (e y))/\R (.ok (.Ϻ .σ)) {s with heap:=s.o.ϭ l (GP λxs=>xs.ϫ j)}):=by
 induction k with
 |zero=>
  intro i z p a prog w A R s h
  let(B,g,d,C,os):=s;let(c,o,h):=h
  let E:i=j:=∅
  subst E
  wp_walk using EN c
  rw[show items[((i:Y):W').Β]?=Z items[i] by simp[q]]
  apply Al (o _ (Array.getElem_mem q) prog w _ _ ?_)
  let t:(items.ϫ i).y<=Az+1:=BX (size_erased items _) (LU f)
  wp_walk using(wpAny_updateSeq c rfl (hz:=f) (_hz':=t)),EN c
  exists h
 |succ k G=>
  intro i z p a prog w A R s h
  let(B,g,d,C,os):=s;let(c,o,h):=h
  let b:i<items.y:=∅
  wp_walk using EN c
  rw[show items[((i:Y):W').Β]?=Z items[i] by simp[b]]
  apply Al (o _ (Array.getElem_mem b) prog w _ _ ?_)
  rw[a i b (A9 _) ∅]
  wp_walk
  show#[Lg plain_remove_loop _,Ki entry_remove_loop (by
   show G (i+1) ∅ ∅ (λm r h1 h2=>a m r ∅ h2) prog w A R _ #[c,o,h])]
open PySem.MeetsSeq in
def
u5(l:Ac)(items:Array Aa)(n:Y)(x:Aa)(e:Aa->jp)(j:Y)(k:j<items.y)(a:e items[j]=J')(b:∀m (f:m<items.y),m<j->e items[m]=O')(c:items.y<=Az):
  Meets (F0.«list.remove» #[[.C l,x],[]])
   (λA R s=>s.o.Q l=Z {cls:=.ζ "list",dict:=J,data:=.ϰ items n,slots:=(T' [])}/\(∀y,y∈items->SeqAt.EqAt A.in1 s y x (e y))/\R (.ok (.Ϻ .σ)) {s with heap:=s.o.ϭ l (GP λxs=>xs.ϫ j)}):=by
 intro prog w A R s h
 let(p,g,d,q,os):=s;let(i,o,h):=h
 wp_walk using EN i
 show#[Lg plain_remove_loop _,Ki entry_remove_loop (by
  show u4 l items n x e j k a c _ 0 rfl (Fz _) (λm f _ h2=>b m f h2) prog w A R _ #[i,o,h])]
def u6(K:Am):V->U V->Hp->VK->V':=λx c H Q=>∃l a y N d b j,x=.C l/\c=[y]/\H l=Z (.U a)/\Ad K N H b a/\Au K N H d y/\AY ZV d=J'/\b.ϔ (AY ZV)=J'/\b.findIdx? (λz=>Ba z d)=Z j/\Q .Y (AX H l (.U (a.ϧ j)))
variable {K:Am}{M:Fb}{e:Expr}{f:AB}{i:Y}{x:Ae}
def
u7(hu:X.A.η+64<As):OZ X "list.remove" (u6 X.K):=by
 intro G s I H x vs v us Q S P T zQ;let(l,R,y,N,d,M,j,rfl,rfl,L,hd,Y',od,c,hj,q):=zQ
 ext P
 let(u,rfl,ru):=T.one
 let(z,a,n,r,hl,e):=S.lstM L
 let(h,i,k):=List.findIdx?_eq_some_iff_getElem.mp hj
 let hln:=hd.a
 let f:∀m (o:m<a.I.y) (b:m<M.a),Gp X.K N H d a.I[m]=Ba M[m] d:=λm o b=>by
  let(w,t,dw):=hd.Ι (Cc b)
  let(w',B,C):=r.Ι t
  have:a.I[m]=w':=by
   rw[List.getElem_toArray];show(BR.mp B).2
  rw[this]
  show Sr S dw.p C (Dc.mp c _ (Hq b))
 let g:j<a.I.y:=by rw[Ca];lia
 apply call_meets F.slot_list_remove #[_,e,rfl] F.entry_list_remove (F.args_list_remove_2 _ _)
  (u5 l a.I n u (Gp X.K N H d) j g (f j g h ▸ i) (λm o E=>by rw[f m o ∅];exists k m E) (by rw[Ca];lia)) #[e,λw t=>Su S (show X.A.in1.η+ZV<As by rw[Nc];unfold ZV;lia) od Y' ru hd r c w (by exists t),?_]
 apply#[.Y,_,S.lset (its':=a.ϧ j) L e ?_ (r.ϧ j) ?_,rfl,q]
 .change a.I.ϫ j=(a.ϧ j).I
  rw[List.eraseIdxIfInBounds_toArray]
 .have:=YA R j
  lia
def
Ad.erase{N:Fb}(h:Ad K N H xs vs)(j:Y):Ad K N H (xs.ϧ j) (vs.ϧ j):=by
 rw[List.eraseIdx_eq_take_drop_succ,List.eraseIdx_eq_take_drop_succ]
 show(h.ύ j).ψ (h.Ν (j+1))
end
end Internal
namespace Internal
open PySem PySem.Spec PyProof.Rows
def Dr(a:Ac)(o:Obj)(u:HO)(H:Hp):Hp:=λb=>@ite _ (b=a/\H b=Z u) (Pc _) (Z (.frz o u)) (H b)
def KA(a:Ac)(o:Obj)(u:HO)(H:Hp):Hp:=λb=>@ite _ (b=a/\H b=Z (.frz o u)) (Pc _) (Z u) (H b)
variable {o:Obj}{u:HO}{b:Ac}{v:HO}
def
KC(h:H a=Z u):Dr a o u H a=Z (.frz o u):=if_pos #[rfl,h]
def
HY(h:¬ (b=a/\H b=Z u)):Dr a o u H b=H b:=if_neg h
def
Te(h:H a=Z (.frz o u)):KA a o u H a=Z u:=if_pos #[rfl,h]
def
PJ(h:¬ (b=a/\H b=Z (.frz o u))):KA a o u H b=H b:=if_neg h
def
Dz:Dr a o u H b=J↔H b=J:=by grind [KC,HY]
def
bZ(h:H b=Z v)(c:GR v=O')(d:GR u=J'):Dr a o u H b=Z v:=by grind [HY]
def
b0(h:H b=Z v)(c:∀o u,v≠.frz o u):KA a o u H b=Z v:=by grind [PJ]
def
Rd.fz(c:GR u=J')(h:Rd H b v):Rd (Dr a o u H) b v:=by
 rcases h with h|⟨d,h⟩
 .by_cases z:b=a/\H b=Z u
  .let(rfl,z):=z
   rw[h]at z;ext z
   show .τ #[o,KC h]
  .show .S (HY z ▸ h)
 .show .τ #[d,bZ h rfl c]
def
Rd.ufz(c:∀o u,v≠.frz o u)(h:Rd H b v):Rd (KA a o u H) b v:=by
 rcases h with h|⟨d,h⟩
 .show .S (b0 h c)
 .by_cases z:b=a/\H b=Z (.frz o u)
  .let(rfl,z):=z
   rw[h]at z;ext z
   show .S (Te h)
  .show .τ #[d,PJ z ▸ h]
def
Aj.fz(d:GR u=J')(s:Aj H0 H)(b:∀w,H0 a=Z w->H a=Z u->w=u):Aj (Dr a o u H0) (Dr a o u H):=by
 intro c w e
 by_cases z:c=a/\H0 c=Z u
 .let(rfl,z):=z
  rw[KC z]at e;ext e
  show KC (s _ _ z)
 .rw[HY z]at e
  rw[HY]
  .show(s _ _ e)
  .intro zQ;let(rfl,z2):=zQ
   show z #[rfl,by rw[e,b w e z2]]
end
mutual
theorem Av.rd{K:Am}{N:Fb}{H H':Hp}(k:∀b v,(∀o u,v≠HO.frz o u)->Rd H b v->Rd H' b v):∀(d:D)(v:V),Av K N H d v->Av K N H' d v
 |.non,_,h=>h
 |.bl _,_,h=>h
 |.int _,_,h=>h
 |.str _,_,h=>h
 |.ty _,_,h=>h
 |.tup f,v,h=>by
  erw[Av]at h ⊢
  let(a,c,e,q,r):=h
  apply#[a,c,e,?_,Ad.rd k f c r]
  rcases q with q|q
  .show .S (k _ _ (λ_ _ z=>nomatch z) q)
  .show .τ q
 |.lst f g,v,h=>by
  erw[Av]at h ⊢
  let(a,c,e,q,r):=h
  apply#[a,c,e,?_,Ad.rd k f c r]
  rcases q with⟨n,q⟩|q
  .show .S #[n,k _ _ (λ_ _ z=>by ext g<;>ext z) q]
  .show .τ q
theorem Ad.rd{K:Am}{N:Fb}{H H':Hp}(k:∀b v,(∀o u,v≠HO.frz o u)->Rd H b v->Rd H' b v):∀(xs:U D)(vs:U V),Ad K N H xs vs->Ad K N H' xs vs
 |[],_,h=>h
 |x::xs,vs,h=>by
  erw[Ad]at h ⊢
  let(v,r,e,q,t):=h
  show#[v,r,e,Av.rd k x v q,Ad.rd k xs r t]
end
def
b4(K:Am)(b:Kd)(a:Ac)(xs:U D)(vs:U V):∀o u,CO K b a xs vs≠HO.frz o u:=λ_ _ z=>by ext b<;>ext z
variable {K:Am}{M:Fb}{o:Obj}{u:HO}
def
By.fz(k:GR u=J')(R:By K M H0 ρ I H)(r:H a=Z u)(s:∀(i:Y)(xs:U D)(b:Kd)(n:O Ac),ρ[i]?=Z (Sl.χ xs b n)->I[i]?≠Z (Z (V.C a))):By K M (Dr a o u H0) ρ I (Dr a o u H) where
 len:=R.Ϫ
 same:=R.κ.fz k λw e _=>by have:=R.κ _ _ e;rw[r]at this;ext this;rfl
 mh:=λc h z=>R.mh c h (Dz.mp z)
 slot:=λi p e=>by
  let q:=R.ϣ i p e
  let j:∀b v,(∀o u,v≠HO.frz o u)->Rd H b v->Rd (Dr a o u H) b v:=λb v _ h=>Rd.fz k h
  cases p with
  |no=>trivial
  |val d=>let(v,e,h):=q;show#[v,e,Av.rd j d v h]
  |own xs t n=>
   let(c,f,g,h1,h2,l,m):=q
   apply#[c,f,g,#[Dz.ϡ h1.1,h1.2],h2,?_,Ad.rd j xs f m]
   rw[HY,l]
   grind
  |lent xs t=>let(c,f,g,(h1,h2),l,m):=q;show#[c,f,g,#[h1,λz=>h2 (Dz.mp z)],j _ _ (b4 _ _ _ _ _) l,Ad.rd j xs f m]
  |exc c=>let(x,C,g,h1,h2):=q;show#[x,C,g,h1,bZ h2 rfl k]
 inj:=R.inj
end
variable {s:Ab}{o:Obj}{u:HO}
def
CH.swap{P:AR}{w:Ai}{h:Ak}{u f:HO}(x:CH P w H h)(g:H a=Z u)(h1:∀y,u≠.χ y)(h2:∀xs,u≠.O xs)(ne:∀b,b≠a->H' b=H b)(d:H' a=Z f)(new:Be P w H' h a f):CH P w H' h:=λb v e=>by
 by_cases hb:b=a
 .subst hb
  rw[d]at e;ext e
  show new
 .rw[ne b hb]at e
  refine(x b v e).stay (λc v _ q=>q) (λc q=>?_) λc xs q=>?_
  .rw[ne c λz=>by rw[z,g]at q;ext q;show h1 _ rfl];show q
  .rw[ne c λz=>by rw[z,g]at q;ext q;show h2 _ rfl];show q
def
Tf(a:GR u=J'):(∀y,u≠.χ y)/\(∀xs,u≠.O xs)/\(∀o v,u≠.frz o v)/\∀ps,u≠.tbl ps:=by
 apply#[λ_ z=>?_,λ_ z=>?_,λ_ _ z=>?_,λ_ z=>?_]<;>rw[z]at a<;>ext a
def
Inv.plain(f:Inv X pins I H s)(b:H a=Z u)(c:GR u=J'):(∀xs,X.H₀ a≠Z (.O xs))/\(∀o v,X.H₀ a≠Z (.frz o v))/\∀ps,X.H₀ a≠Z (.tbl ps):=by
 let(_,k2,d,e):=Tf c
 apply#[λxs z=>?_,λo v z=>?_,λps z=>?_]
 .have:=f.φ.tups a xs z;rw[b]at this;ext this;show k2 _ rfl
 .have:=f.φ.frzs a o v z;rw[b]at this;ext this;show d _ _ rfl
 .let(_,this):=f.φ.tbls a ps z;rw[b]at this;ext this;show e _ rfl
def
Inv.swap{u h:HO}(l:Inv X pins I H s)(d:H a=Z u)(h1:∀y,u≠.χ y)(h2:∀xs,u≠.O xs)(pl:(∀xs,X.H₀ a≠Z (.O xs))/\(∀o v,X.H₀ a≠Z (.frz o v))/\∀ps,X.H₀ a≠Z (.tbl ps))(ne:∀b,b≠a->H' b=H b)(f:H' a=Z h)(new:Be X.γ X.w H' s.o a h):Inv X pins I H' s where
 ok:=l.ok
 os:=l.os
 bare:=l.bare
 base:=#[l.φ.keep,l.φ.ϣ,λb o e n i=>by
   have:=l.φ.Φ b o e n i
   rw[ne b λz=>by rw[z,d]at this;cases this];show this,l.φ.there,
  λb xs e=>by rw[ne b λz=>pl.1 xs (z ▸ e)];show l.φ.tups b xs e,λb o v e=>by rw[ne b λz=>pl.2.1 o v (z ▸ e)];show l.φ.frzs b o v e,λb ps e=>by rw[ne b λz=>pl.2.2 ps (z ▸ e)];show l.φ.tbls b ps e]
 loc:=l.loc
 cell:=l.Ξ
 free:=by rw[ne _ λz=>by have:=l.Φ;rw[z,d]at this;cases this];show l.Φ
 freeC:=λx c e=>by
  have:=l.freeC x c e
  rw[ne c λz=>by rw[z,d]at this;cases this];show this
 pin:=λp j=>by
  let(p1,g,k):=l.pin p j
  show#[p1,by rw[ne _ λz=>by rw[z,d]at g;cases g];show g,k]
 hok:=l.Ϣ.swap d h1 h2 ne f new
 len:=l.Ϫ
def
Inv.fz(e:GR u=J')(j:Inv X pins I H s)(d:H a=Z u)(f:s.o.Q a=Z o):Inv X pins I (Dr a o u H) s:=by
 let(k1,k2,g,h):=Tf e
 let ne:∀b,b≠a->Dr a o u H b=H b:=λb hb=>HY λz=>hb z.1
 apply j.swap d k1 k2 (j.plain d e) ne (KC d) #[f,(j.Ϣ a u d).stay (λ_ _ _ q=>q) (λc q=>?_) λc i q=>?_]
 .rw[ne c λz=>by rw[z,d]at q;ext q;show k1 _ rfl];show q
 .rw[ne c λz=>by rw[z,d]at q;ext q;show k2 _ rfl];show q
def
Inv.ufz(e:Inv X pins I H s)(d:H a=Z (.frz o u))(pl:(∀xs,X.H₀ a≠Z (.O xs))/\(∀o v,X.H₀ a≠Z (.frz o v))/\∀ps,X.H₀ a≠Z (.tbl ps)):Inv X pins I (KA a o u H) s:=by
 let ne:∀b,b≠a->KA a o u H b=H b:=λb hb=>PJ λz=>hb z.1
 apply e.swap d (λ_ z=>nomatch z) (λ_ z=>nomatch z) pl ne (Te d) ((e.Ϣ a _ d).2.stay (λ_ _ _ q=>q) (λc q=>?_) λc xs q=>?_)
 .rw[ne c λz=>by rw[z,d]at q;cases q];show q
 .rw[ne c λz=>by rw[z,d]at q;cases q];show q
end
open PySem.W
def PL(a:Ac)(o:Obj)(u:HO)(b:U V):It:=#[λi H=>H a=Z (.frz o u)/\i<b.a,λi H x c=>c=H/\b[i]?=Z x,λi H=>H a=Z (.frz o u)/\b.a<=i]
def
u8{P:AR}{w:Ai}{K:Am}{y:Expr}{it:Ac}{o:Obj}{u:HO}{es:Array Iq}{ep:Y}{p:U V}(h1:o.ExactDict)(h2:o.data=.dict es ep)(r:Aq p (es.R.j λe=>e.key)):
  Hi P w K y (PL a o u p) [it] it (λi h=>h.IsKeyIter it a i es.y ep):=by
 apply RH (n:="dict_keyiterator") (by ext) (λi h st=>?_) (λi h g st k=>st.at k) (λX i t s L H E Q M A N st=>?_) λ_ _ _ _ _ st h=>wpAny_pyIter_keyiter st h
 .let(o,e,c,d):=st;show#[o,_,e,c,d]
 .let f:=r.a
  simp at f
  constructor<;>intro v q
  .let(j,l):=v
   let(k,B,C):=r.Ι (Cc l)
   let x:i<es.y:=∅
   show PH st #[o,(N.Ϣ a _ j).1,h1,h2] (λ_ g m G=>q _ _ g s.ω m (λb o hb e=>(G.2 b hb).J e) (by rw[show es[i].key=k by simpa[x]using B];show C) #[rfl,Cc l]) λz=>absurd x (Nat.not_lt.ϡ z)
  .let(j,l):=v
   show PH st #[o,(N.Ϣ a _ j).1,h1,h2] (λz=>absurd z ∅) λ_=>#[A,λg F=>q g s.ω F]
abbrev Ed(tr:U T3):HO:=.dct (tr.j (·.1)) (D4 tr)
variable {l:Expr}
def b5(K:Am)(tl:TE):TI:=λc H R=>tl c H λx b=>∃a tr,x=.C a/\Cq K b a tr/\∀o,(Dr a o (Ed tr) b) a=Z (.frz o (Ed tr))->R (PL a o (Ed tr) (tr.j λt=>t.2.1)) (Dr a o (Ed tr) b)
def
b6{tl:TE}(p:PE X l tl):PI X tg l (b5 X.K tl):=by
 intro c s k H R F h
 apply A0 (p c s k H _ F h) λv d r=>?_
 let(x,f,g,t,a,tr,e,hd,q):=r
 subst e
 ext t
 let(z,u,nd,o,B,C,i,m,n,w):=hd.1.ok g.Ϣ
 obtain⟨j,A⟩:Inv X c k (Dr a o (Ed tr) f) d/\(Dr a o (Ed tr) f) a=Z (.frz o (Ed tr)):=by
  rcases hd.1 with h1|⟨E,h1⟩
  .show#[g.fz rfl h1 i,KC h1]
  .have:=(g.Ϣ a _ h1).1
   rw[i]at this;ext this
   have:Dr a o (Ed tr) f=f:=funext λb=>HY (by rintro⟨rfl,y⟩;rw[h1]at y;ext y)
   rw[this];show#[g,h1]
 apply bL u #[o,i,m,n] ?_
 apply#[d.o.E.y,[d.o.E.y],_,_,_,rfl,j.ϟ (t':=d.ω) λb o e=>Bg _ e,u8 m n (LR w),#[_,B7 _ rfl,rfl,rfl],λb hb=>?_,q o A]
 let e:b=d.o.E.y:=by exists hb
 subst e
 show j.fpOk (A9 _) (j.Ϣ.Κ (A9 _))
end
def Cv(X:Cx)(Q:Hp->V')(H':Hp):V':=Q H'\/∃a o u,((∀b,X.H₀ a≠Z (.O b))/\(∀o v,X.H₀ a≠Z (.frz o v))/\∀c,X.H₀ a≠Z (.tbl c))/\H' a=Z (.frz o u)/\Q (KA a o u H')
def Ends.cv(X:Cx)(D:Ends):Ends:={nx:=λa=>Cv X (D.nx a),rt:=λv=>Cv X (D.rt v),bk:=λa=>Cv X (D.bk a),ct:=λa=>Cv X (D.ct a)}
def
SP.cv{c:A1}{D:Ends}{f:Flow}{s:Ab}(h:SP X c (D.cv X) f s):SP X c D f s:=by
 let k:∀{j:St} {H:Hp} {Q:Hp->V'},Inv X c j H s->Cv X Q H->∃i,Inv X c j i s/\Q i:=λn q=>by
  rcases q with q|⟨a,o,u,l,m,q⟩
  .show#[_,n,q]
  .show#[_,n.ufz m l,q]
 cases f with
 |next=>let(b,i,n,q):=h;let(d,e,g):=k n q;show#[b,d,e,g]
 |brk=>let(b,i,n,q):=h;let(d,e,g):=k n q;show#[b,d,e,g]
 |cont=>let(b,i,n,q):=h;let(d,e,g):=k n q;show#[b,d,e,g]
 |ret u=>let(v,b,i,n,r,q):=h;let(d,e,g):=k n q;show#[v,b,d,e,r,g]
def Gu(d:D):A8:=match d with
 |.lst b .d=>(DV b).j λa=>a.j λp=>kD p.1
 |_=>J
def
Av.at_any{K:Am}{N b:Fb}{a:At}{v:V}(h:Av K N H (aD a) v):Av K b H (aD a) v:=by ext a<;>show h
def
Ad.at_any{K:Am}{N b:Fb}{H:Hp}:∀{l:U At}{vs:U V},Ad K N H (l.j aD) vs->Ad K b H (l.j aD) vs
 |[],_,h=>h
 |a::l,vs,h=>by
  let(v,r,e,q,t):=h
  show#[v,r,e,q.at_any,Ad.at_any t]
def
Av.key_any{K:Am}{N b:Fb}{k:KT}{v:V}(h:Av K N H (kD k) v):Av K b H (kD k) v:=by
 cases k with
 | «at» a=>show Av.at_any h
 |tup l=>
  let(p,c,e,q,r):=h
  show#[p,c,e,q,Ad.at_any r]
def
u9{K:Am}{M N k:Fb}{f:Hp}{o:Obj}{tr:U T3}(g:PD K k f kvs tr)(hz:Dr a o (Ed tr) f a=Z (.frz o (Ed tr))):Kk K M N (Dr a o (Ed tr) f) (PL a o (Ed tr) (tr.j λt=>t.2.1)) (kvs.j λp=>kD p.1):=λq r S i=>by
 let c:=S.kp a _ hz (.τ (.τ rfl))
 apply#[λd hd=>?_,λe=>#[c,by rw[<- g.kden.a];lia]]
 apply#[#[c,g.kden.a ▸ ((BR.mp hd).1)],λx s y=>?_]
 let(rfl,l):=y
 apply#[Aj.ξ _,?_]
 let(w,j,m):=g.kden.Ι hd
 rw[l]at j;ext j
 rw[DF]at hd
 let(p,n,hd):=Cd.mp hd
 ext hd
 show Av.ώ S _ _ ((Av.rd (λb v _ h=>Rd.fz rfl h) _ _ m).key_any)
def
vb{K:Am}{M:Fb}(R:By K M H0 ρ I H)(d:¬ Nf M ρ I a\/M a):∀(i:Y)(xs:U D)(b:Kd)(e:O Ac),ρ[i]?=Z (Sl.χ xs b e)->I[i]?≠Z (Z (V.C a)):=λi xs j e f g=>by
 rcases d with d|d
 .show d (.τ #[i,xs,j,e,f,g])
 .let(c,k,h,_,h2,_):=R.ϣ i _ f
  rw[g]at h
  ext h
  show h2 d
def
Inv.plain2{b:A1}{d:Hp}{s:Ab}{u:HO}(i:Inv X b I H s)(c:Aj H d)(h1:d a=Z u)(f:GR u=J'):(∀xs,X.H₀ a≠Z (.O xs))/\(∀o v,X.H₀ a≠Z (.frz o v))/\∀ps,X.H₀ a≠Z (.tbl ps):=by
 let(_,k2,g,h):=Tf f
 apply#[λxs z=>?_,λo v z=>?_,λps z=>?_]
 .let y:=c _ _ (i.φ.tups a xs z);rw[h1]at y;ext y;show k2 _ rfl
 .let y:=c _ _ (i.φ.frzs a o v z);rw[h1]at y;ext y;show g _ _ rfl
 .let(m,e):=i.φ.tbls a ps z
  let y:=c _ _ e
  rw[h1]at y;ext y;show h _ rfl
def vc(K:Am):V->U V->Hp->VK->V':=λx b H Q=>∃a tr k y,x=.C a/\b=[y]/\Cq K H a tr/\HS k tr/\EB K H k y/\Q ((Z9 tr k).B .Y) H
@[simp]def NA(x y:D):O D:=match x with
  |.lst b .d=>match DV b,Df y with
   |some a,Z k=>if DJ k a then Z ((Zl a k).B .Y)else J
   |_,_=>J
  |_=>J
variable {M:Fb}{fo fk:AB}
def
vd(C:X.A.η+64<As):Kf X "dict.get" (vc X.K):=by
 intro i s E H x G v e Q L o r zQ;let(a,tr,k,y,rfl,rfl,hd,j,m,q):=zQ
 ext o
 let(t,rfl,n):=r.one
 cases k with
 | «at» b=>
  ext m
  let(u,h,nd,e,f,g):=LJ L hd j
  let h1:=f.u b
  apply LL NB g.ϖ Tg (PySem.F.args_dict_get_2 _ _) (meets_dict_get (ZI X.γ X.w) a (Hu n) h) #[_,g.mapOf,?_]
  cases c:Z9 tr (.at b)with
  |none=>
   rw[c]at q
   cases d:valueAt e b with
   |none=>show#[.Y,H,L.tok _,rfl,q]
   |some w=>rw[c,d]at h1;show h1.Ζ
  |some w=>
   rw[c]at q
   cases d:valueAt e b with
   |none=>rw[c,d]at h1;show h1.Ζ
   |some z=>rw[c,d]at h1;show#[w,H,L.tok _,h1,q]
 |tup l=>
  let(p,rfl,B):=m
  cases(show t=Di p from n)
  let(u,h,nd,e,f,g):=Kr L hd j
  let h1:=f.u l
  apply LL NB g.ϖ Tg (PySem.F.args_dict_get_2 _ _) (meetsH_dict_get (BW (ZI X.γ X.w)) a p h) #[Ks ∅,l,e,IH L B,g,?_]
  cases c:Z9 tr (.O l)with
  |none=>
   rw[c]at q
   cases d:atKey e l with
   |none=>show#[.Y,H,L.tok _,rfl,q]
   |some w=>rw[c,d]at h1;show h1.Ζ
  |some w=>
   rw[c]at q
   cases d:atKey e l with
   |none=>rw[c,d]at h1;show h1.Ζ
   |some z=>rw[c,d]at h1;show#[w,H,L.tok _,h1,q]
open J in
def
ve(G:X.A.η+64<As)(zA:JE X o (tP X.K M H0 fo))(P:JE X ek (tP X.K M H0 fk))
  (c:↑(FV o "get" X.G (An o X.G)=An o X.G))
  (f:↑(((AD cpos (AL [ek] X.G)).ϔ (λx=>!x.1)&&(GI cpos (GJ [] X.G)).ϔ (λx=>x.1.μ)
   && decide ([ek].a+([]:U Em).a+(if([]:U Em).Χ then 0 else 1)<30))=J'))
  (e:↑((apos.϶==cpos.ϥ)=J')) (g:↥(AL [ek] X.G=(O',An ek X.G)::AL [] X.G:7)) (l:↑((AD cpos (AL [] X.G)).any (·.1)=O')):
  JE X (.Θ (.δ o "get" apos) [ek] [] cpos) (tD X.K M H0 (Za NA fo fk)):=
 #[(Jp br NB PySem.F.type_dict_get (vd G) zA.h (Z0 P.h Bq g) c f e g l).θ λI H Q L=>by
   let(t,d,R,ex,q):=L
   let(x,y,N,S,ex):=YR ex
   unfold NA at ex
   split at ex
   .next xs=>
    split at ex
    .next m k n p=>
     let(T,ex):=Cy ex
     ext ex
     let r:=Gr n
     subst r
     apply#[t,_,R,N,λv H1 z W=>?_]
     let(a,vs,rfl,B,hd):=W
     apply#[.τ (.τ #[rfl,_,_,B]),t,y,R.st z,S,λw Y' s C=>?_]
     let(tr,dc,E):=IL (B.κ s) (hd.κ s)
     rw[IJ p]at C
     let b:=E.u k
     apply#[a,tr,k,w,rfl,rfl,dc,E.hom T,IK (HU C),q _ Y' (z.J s) ?_]
     cases i:Zl m k with
     |none=>
      rw[i]at b
      cases j:Z9 tr k with
      |none=>erw[Option.getD,Av]
      |some u=>rw[j]at b;show b.Ζ
     |some d0=>
      rw[i]at b
      cases j:Z9 tr k with
      |none=>rw[j]at b;show b.Ζ
      |some u=>rw[j]at b;show b
    .cases ex
   .cases ex]
end
end Internal
namespace Internal
open PySem PySem.Spec PyProof.Rows
structure FH(P:AR)(w:Ai)(i:Ac)(fp:List Ac)(n:Y)(is:Y->Aa->V')(st:Y->Ak->V'):V' where
 frame:∀k h h',st k h->(∀b,b=i\/b∈fp->∀o,h.Q b=Z o->h'.Q b=Z o)->st k h'
 lt:∀k h,st k h->i<h.E.y
 item:∀(A:Af) (E:AQ) (s:Ab) (k:Y) (Q:AQ),k<n->st k s.o->(∀v h' tk,is k v->st (k+1) h'->D1 i s.o h'->Q v {s with heap:=h',toks:=tk})->wpAny (Ag P w) A (ca (.C i)) Q E s
 fin:∀(A:Af) (E:AQ) (s:Ab) (k:Y) (Q:AQ),A.ϛ=J->n<=k->st k s.o->(∀h' e,Heap.ExtBut i s.o h'->(∃o,h'.Q e=Z o/\o.cls=.ζ "StopIteration")->E (.C e) {s with heap:=h' }) ->
  wpAny (Ag P w) A (ca (.C i)) Q E s
variable {prog:AR}{w:Ai}{A:Af}{s:Ab}
def
cc{i f:Ac}{k:Y}{b:Array Aa}{Q:AQ}(h:s.o.Ϲ i f k)(ht:s.o.IsTuple f b)(q:∀v,b[k]?=Z v->∀h',h'.Ϲ i f (k+1)->D1 i s.o h'->Q v {s with heap:=h' })
  (j:b[k]?=J->A.ϛ=J/\∀h' e,Heap.ExtBut i s.o h'->(∃o,h'.Q e=Z o/\o.cls=.ζ "StopIteration")->E (.C e) {s with heap:=h' }):wpAny (Ag prog w) A (ca (.C i)) Q E s:=by
 let(t,d,n,c):=id h
 let(u,p,_,m1,r):=ht
 apply Al (Kc (name:=EL "__next__") h.ϖ PySem.F.slot_tuple_iterator_next (Jn PySem.F.slot_tuple_iterator_next h.ϖ PySem.F.entry_tuple_iterator_next ?_ (PySem.F.args_tuple_iterator_next_1 _)))
 change wpAny _ _ (field (.C i) 0 >>= _) _ _ s
 apply Al (Eu d c (x:=.C f) rfl ?_)
 apply Al (Eu d c (x:=.r k 0) rfl ?_)
 apply Al (IQ p r ?_)
 erw[Nw]
 cases g:b[k]? with
 |some v=>
  show Al (wpAny_setField d c (by simp) (AO #[v,rfl,AO (q _ g _ #[_,SM _ d (Obj.isFreed_of_fields (S8 c _)),(Obj.cls_mapFields ..).J n,by rw[S8 c];simp[Bw]] (Kt ..))]))
 |none=>
  apply Al (Ix (Al (wpAny_setField d c (by simp) ?_)))
  apply Al ?_
  apply Al (Ke ?_ (show(0:Y)<=Az by ext))
  apply Al (m:=firstArgMember _ _) (wpAny_of_eq (a:=Value.σ) (by first|rfl|(unfold firstArgMember;rfl)) ?_)
  apply Ke ?_ (by size_fits)
  apply Al (wpAny_handled ?_)
  first|rw[(j g).1]|rw[show A.in1.ϛ=J from(j g).1]
  show Al (AO (wpAny_throw ((j g).2 _ _ ((Heap.ExtBut.Μ (Heap.SameBut.α (Kt ..)) _).Μ _) #[_,B7 _ rfl,rfl])))
def
vf{P:AR}{w:Ai}{i l:Ac}{xs:U V}(d:Array Aa)(r:Aq xs d.R):FH P w i [l] xs.a (λk v=>∃x,xs[k]?=Z x/\RelV x v) (λk h=>h.IsListIter i l k/\h.IsList l d) where
 frame:=λk h j ⟨a,b⟩ kp=>#[a.at λo e=>kp i (.S rfl) o e,b.at λo e=>kp l (.τ (by simp)) o e]
 lt:=λk h ⟨⟨o,e,_⟩,_⟩=>BK e
 item:=λA E s k Q g ⟨a,b⟩ q=>by
  let f:=r.a
  let t:k<d.y:=by simp at f;lia
  let(u,y,z):=r.Ι (Cc g)
  apply wpAny_nextOf_list_item a b (x:=u) (by exists y) λj B m=>?_
  by_cases f:l=i
  .subst f
   let(o,e,c,_):=a
   let(G,n,p,_):=b
   rw[e]at n;ext n
   rw[c]at p
   show absurd p (by ext)
  .show q _ j s.ω #[_,Cc g,z] #[B,b.α m.α f] m
 fin:=λA E s k Q C g ⟨a,b⟩ q=>wpAny_nextOf_list_end C a b (Array.getElem?_eq_none (by have f:=r.a;simp at f;lia)) q
def
vg{P:AR}{w:Ai}{i l:Ac}{xs:U V}(d:Array Aa)(r:Aq xs d.R):FH P w i [l] xs.a (λk v=>∃x,xs[k]?=Z x/\RelV x v) (λk h=>h.Ϲ i l k/\h.IsTuple l d) where
 frame:=λk h n ⟨a,b⟩ kp=>#[a.at λo e=>kp i (.S rfl) o e,b.at λo e=>kp l (.τ (by simp)) o e]
 lt:=λk h ⟨⟨o,e,_⟩,_⟩=>BK e
 item:=λA E s k Q j ⟨a,b⟩ q=>by
  let(u,m,B):=r.Ι (Cc j)
  let m:d[k]?=Z u:=by exists m
  apply cc a b (λv f n C p=>?_) λz=>by rw[m]at z;ext z
  rw[m]at f;ext f
  by_cases g:l=i
  .subst g
   let(o,e,c,_):=a
   let(H,t,y,_):=b
   rw[e]at t;ext t
   rw[c]at y
   show absurd y (by ext)
  .show q _ n s.ω #[_,Cc j,B] #[C,b.at λo e=>p.α _ _ g e] p
 fin:=λA E s k Q G j ⟨a,b⟩ q=>cc a b (λv f=>by rw[Array.getElem?_eq_none (by have g:=r.a;simp at g;show le_of_eq_of_le g.Ρ j)]at f;ext f) λ_=>#[G,q]
def LX(x:Ae):String:=if x.ϐ.ϔ (·<128)=J' then "str_ascii_iterator" else "str_iterator"
def Gv(x:Ae):U V:=x.ϐ.R.j λc=>.Α #[(T' [c])]
def
vh{P:AR}{w:Ai}{i:Ac}(x:Ae):FH P w i [] (Gv x).a (λk v=>∃y,(Gv x)[k]?=Z y/\RelV y v) (λk h=>∃t,h.IsStrIter i (LX x) x t k) where
 frame:=λk h f ⟨t,o,e,r⟩ kp=>#[t,o,kp i (.S rfl) o e,r]
 lt:=λk h ⟨t,o,e,_⟩=>BK e
 item:=λA E s k Q g ⟨t,a⟩ q=>by
  let b:k<x.ϐ.y:=by simpa[Gv]using g
  unfold LX at a q
  by_cases d:x.ϐ.ϔ (·<128)=J'
  .rw[if_pos d]at a q
   show wpAny_nextOf_ascii_item a (c:=x.ϐ[k]) (by simp[b]) λf j l=>q _ f (s.ω+1) #[.Α #[(T' [x.ϐ[k]])],by simp[Gv,b],_,rfl] #[t,j] l
  .rw[if_neg d]at a q
   show wpAny_nextOf_wide_item a (c:=x.ϐ[k]) (by simp[b]) λf j l=>q _ f (s.ω+1) #[.Α #[(T' [x.ϐ[k]])],by simp[Gv,b],_,rfl] #[t,j] l
 fin:=λA E s k Q m g ⟨t,a⟩ q=>by
  let b:x.ϐ.y<=k:=by simpa[Gv]using g
  unfold LX at a
  by_cases d:x.ϐ.ϔ (·<128)=J'
  .rw[if_pos d]at a
   show wpAny_nextOf_ascii_end m a (by simp[b]) q
  .rw[if_neg d]at a
   show wpAny_nextOf_wide_end m a (by simp[b]) q
structure Cu(z tin tout ia ib:Ac)(fa fb:List Ac):V' where
 n1:tin≠z
 n2:tout≠z
 n3:ia≠z
 n4:ib≠z
 n5:tin≠tout
 n6:tin≠ia
 n7:tin≠ib
 n8:tout≠ia
 n9:tout≠ib
 n10:ia≠ib
 fz:∀b,b∈fa\/b∈fb->b≠z/\b≠tout/\b≠ia/\b≠ib
variable {z tin tout ia ib:Ac}{fa fb:U Ac}{n m k:Y}{sa:Y->Ak->V'}{a b:Aa}
def
Cu.keepA(D:Cu z tin tout ia ib fa fb)(f:FH prog w ia fa n isA sa){h h':Ak}(st:sa k h){c:Ac}(d:c=z\/c=tout\/c=ib)(a:D1 c h h'):sa k h':=
 f.frame k h h' st λx b o e=>by
  apply a.α x o ?_ e
  rcases b with rfl|b
  .rcases d with rfl|rfl|rfl
   .show D.n3
   .show BF D.n8
   .show D.n10
  .let(g,i,q3,j):=D.fz x (.S b)
   rcases d with rfl|rfl|rfl
   .show g
   .show i
   .show j
def
Cu.keepB(D:Cu z tin tout ia ib fa fb)(SB:FH prog w ib fb n isB sb){h h':Ak}(st:sb k h){c:Ac}(d:c=z\/c=tout\/c=ia)(a:D1 c h h'):sb k h':=
 SB.frame k h h' st λx b o e=>by
  apply a.α x o ?_ e
  rcases b with rfl|b
  .rcases d with rfl|rfl|rfl
   .show D.n4
   .show BF D.n9
   .show BF D.n10
  .let(f,g,q3,i):=D.fz x (.τ b)
   rcases d with rfl|rfl|rfl
   .show f
   .show g
   .show q3
def
ce{Q:O Aa->Ab->V'}(D:Cu z tin tout ia ib fa fb)(h:FH prog w ia fa n isA sa)(SB:FH prog w ib fb m isB sb)
  (hz:IsZip s.o z tin tout .σ) (hi:IsPair s.o tin (.C ia) (.C ib)) (ho:IsPair s.o tout a b) (ha:sa k s.o) (hb:sb k s.o)
  (q:k<n->k<m->∀x y h' l,isA k x->isB k y->IsZip h' z tin tout (Bw s.o.E.y)->IsPair h' tout x y->sa (k+1) h'->sb (k+1) h'->IsPair h' s.o.E.y x y->h'.E.y=s.o.E.y+1 ->
   (∀c o,c≠z->c≠tout->c≠ia->c≠ib->s.o.Q c=Z o->h'.Q c=Z o)->Q (Z (.C s.o.E.y)) {s with heap:=h',toks:=l})
  (L:n<=k\/m<=k->A.ϛ=J/\∀h' l,(∀c o,c≠z->c≠tout->c≠ia->c≠ib->s.o.Q c=Z o->h'.Q c=Z o)->Q J {s with heap:=h',toks:=l}):
  wpAny (Ag prog w) A (pyNext (.C z)) Q E s:=by
 let i:n<=k\/m<=k->∀(h':Ak) (l:Y) (e:Ac),(∀c o,c≠z->c≠tout->c≠ia->c≠ib->s.o.Q c=Z o->h'.Q c=Z o)->(∃o,h'.Q e=Z o/\o.cls=.ζ "StopIteration") ->
   wpAny (Ag prog w) A (do if(<- isInstance (.C e) (.ζ "StopIteration"))=J' then Ax (J:O Aa)else throw (Di e)) Q E {s with heap:=h',toks:=l}:=λkn h' l e kp ⟨o,f,d⟩=>
  Al (wpAny_isInstance (T:="StopIteration") (b:=J') #[o,f,d] isSubtype_stop (AO ((L kn).2 h' l kp)))
 apply Al (Nv (Kc (name:=EL "__next__") #[_,hz,rfl] Th (Jn Th #[_,hz,rfl] PySem.F.entry_zip_next ?_ (PySem.F.args_zip_next_1 _))))
 change wpAny _ _ (field (.C z) 2 >>= _) _ _ _
 apply Al (Eu hz rfl (x:=.ϝ O') rfl ?_)
 apply Al (Eu hz rfl (x:=.C tin) rfl ?_)
 apply Al (IQ hi rfl ?_)
 apply Al ?_
 apply Al (Eu hz rfl (x:=.σ) rfl (AO ?_))
 apply Al (Ix ?_)
 apply Al (Eu hz rfl (x:=.C tout) rfl ?_)
 apply Al (Fp hz (by simp) λg1 z1 b1=>?_)
 apply Al ?_
 apply Al (Al (wpAny_onRaise ?_))
 by_cases B:n<=k
 .apply Al (h.fin A.in1 _ _ k _ (L (.S B)).1 B (D.keepA h ha (.S rfl) b1) λg2 e M N=>?_)
  let(P,f,d):=N
  show Fp (M _ _ (BF D.n3) z1) (by simp) λR _ b3=>i (.S B) R s.ω e (λc o d _ p _ x=>b3.α _ _ d (M _ _ p (b1.α _ _ d x))) #[P,b3.α _ _ (λx=>by subst x;rw[M _ _ (BF D.n3) z1]at f;ext f;simp at d) f,d]
 .apply Al (h.item _ _ _ k _ (IR B) (D.keepA h ha (.S rfl) b1) λx g2 Y' hx a2 b2=>AO ?_)
  let o2:IsPair g2 tout a b:=b2.α _ _ D.n8 (b1.α _ _ D.n2 ho)
  apply Al (IQ o2 rfl ?_)
  apply Al (wpAny_updateSeq_pair o2 λR o3 b3=>?_)
  apply Al (Kx (AO ?_))
  apply Al (Al (wpAny_onRaise ?_))
  let C:sb k R:=D.keepB SB (D.keepB SB (D.keepB SB hb (.S rfl) b1) (.τ (.τ rfl)) b2) (.τ (.S rfl)) b3
  by_cases G:m<=k
  .apply Al (SB.fin A.in1 _ _ k _ (L (.τ G)).1 G C λg4 e x4 N=>?_)
   let(P,f,d):=N
   let z4:IsZip g4 z tin tout .ϸ:=x4 _ _ (BF D.n4) (b3.α _ _ (BF D.n2) (b2.α _ _ (BF D.n3) z1))
   show Fp z4 (by simp) λg _ j=>i (.τ G) g Y' e (λc o d t p H x=>j.α _ _ d (x4 _ _ H (b3.α _ _ t (b2.α _ _ p (b1.α _ _ d x))))) #[P,j.α _ _ (λx=>by subst x;rw[z4]at f;ext f;simp at d) f,d]
  .apply Al (SB.item _ _ _ k _ (IR G) C λy g4 tk4 hy a4 u=>AO ?_)
   apply Al (IQ (u.α _ _ D.n9 o3) rfl ?_)
   apply Al (wpAny_updateSeq_pair (u.α _ _ D.n9 o3) λg S j=>?_)
   let S:IsPair g tout x y:=S
   apply Al (Kx (AO (AO ?_)))
   apply Al (IQ S rfl ?_)
   apply Al (wpAny_newTuple ?_)
   let sz:g.E.y=s.o.E.y:=by rw[j.1,u.1,b3.1,b2.1,b1.1]
   let z5:IsZip g z tin tout .ϸ:=j.α _ _ (BF D.n2) (u.α _ _ (BF D.n4) (b3.α _ _ (BF D.n2) (b2.α _ _ (BF D.n3) z1)))
   let kp:∀c o,c≠z->c≠tout->c≠ia->c≠ib->s.o.Q c=Z o->g.Q c=Z o:=λc o d t p H e=>
    j.α _ _ t (u.α _ _ H (b3.α _ _ t (b2.α _ _ p (b1.α _ _ d e))))
   apply Al ?_
   apply Al (Fp (Bg _ z5) (by simp) λg7 z7 b7=>?_)
   apply Fp z7 (by simp) λv z8 b8=>?_
   let K:∀c o,c≠z->g.Q c=Z o->v.Q c=Z o:=λc o d e=>b8.α _ _ d (b7.α _ _ d (Bg _ e))
   let new:IsPair v g.E.y x y:=b8.α _ _ (Hh (BK z5)) (b7.α _ _ (Hh (BK z5)) (B7 _ rfl))
   let s8:v.E.y=g.E.y+1:=by rw[b8.1,b7.1,FU]
   let a8:sa (k+1) v:=h.frame _ _ _ (D.keepA h (D.keepA h (D.keepA h a2 (.τ (.S rfl)) b3) (.τ (.τ rfl)) u) (.τ (.S rfl)) j) λc r o e=>K c o (by
    rcases r with rfl|r
    .show D.n3
    .show(D.fz c (.S r)).1) e
   let b8':sb (k+1) v:=SB.frame _ _ _ (D.keepB SB a4 (.τ (.S rfl)) j) λc r o e=>K c o (by
    rcases r with rfl|r
    .show D.n4
    .show(D.fz c (.τ r)).1) e
   rw[sz]at z8 new s8
   apply AO #[_,rfl,AO ?_]
   rw[sz]
   show q (IR B) (IR G) x y v tk4 hx hy z8 (K _ _ D.n2 S) a8 b8' new s8 λc o d t p H e=>K c o d (kp c o d t p H e)
end
end
inductive AC where
 |l (a:Ac)
 |t (a:Ac)
 |x (s:Ae)
@[reducible] def AC.v:AC->V
  |.l a=>.C a
  |.t a=>.C a
  |.x s=>.Α s
@[reducible] def AC.fp:AC->U Ac
  |.l a=>[a]
  |.t a=>[a]
  |.x _=>[]
def AC.sq(K:Am)(H:Hp):AC->U V->V'
 |.l a=>BV K H a
 |.t a=>Cf K H a
 |.x s=>λb=>b=Gv s
def AC.nm:AC->String
 |.l _=>"list_iterator"
 |.t _=>"tuple_iterator"
 |.x s=>LX s
def AC.ok(h:Ak)(xs:U V):AC->V'
 |.l a=>∃b:Array Aa,Aq xs b.R/\h.IsList a b
 |.t a=>∃b:Array Aa,Aq xs b.R/\h.IsTuple a b
 |.x s=>xs=Gv s
def AC.it(h:Ak)(i:Ac)(k:Y):AC->V'
 |.l a=>h.IsListIter i a k
 |.t a=>h.Ϲ i a k
 |.x s=>∃t,h.IsStrIter i (LX s) s t k
def
AC.of(S:AC){c:A1}{s:Ab}{xs:U V}(d:Inv X c I H s)(h:S.sq X.K H xs):S.ok s.o xs:=by
 cases S with
 |l a=>let(b,r,p,z):=d.Ϥ h;show#[b.I,r,p.Ω]
 |t a=>let(b,r,p,z):=d.Ϙ h;show#[b.I,r,(show s.o.IsTuple a b.I from p)]
 |x s=>show h
def
AC.inj(S:AC){b:A1}{s:Ab}{xs:U V}(c:Inv X b I H s)(h:S.sq X.K H xs)(h':S.sq X.K H ys):xs=ys:=by
 cases S with
 |l a=>show c.list_inj h h'
 |t a=>show c.tuple_inj h h'
 |x s=>show(show xs=Gv s from h).J (show ys=Gv s from h').Ρ
def
AC.lt(S:AC){h:Ak}{xs:U V}(p:S.ok h xs):∀b∈S.fp,b<h.E.y:=by
 intro b hb
 cases S with
 |l a=>rw[Fw.mp hb];let(c,_,o,e,_):=p;show BK e
 |t a=>rw[Fw.mp hb];let(c,_,o,e,_):=p;show BK e
 |x s=>ext hb
def
AC.okAt(S:AC){h h':Ak}{xs:U V}(p:S.ok h xs)(k:∀b∈S.fp,∀o,h.Q b=Z o->h'.Q b=Z o):S.ok h' xs:=by
 cases S with
 |l a=>let(c,r,q):=p;show#[c,r,Heap.IsList.at q (k a (by simp))]
 |t a=>let(c,r,q):=p;show#[c,r,Heap.IsTuple.at q (k a (by simp))]
 |x s=>show p
def
AC.itAt(S:AC){h h':Ak}{i:Ac}{n:Y}(p:S.it h i n)(k:∀o,h.Q i=Z o->h'.Q i=Z o):S.it h' i n:=by
 cases S with
 |l a=>show Heap.IsListIter.at p k
 |t a=>show Heap.Ϲ.at p k
 |x s=>let(t,o,e,r):=p;show#[t,o,k o e,r]
def
AC.itOb(S:AC){h:Ak}{i:Ac}{n:Y}(p:S.it h i n):∃o,h.Q i=Z o/\∀v,o.data≠.Ξ v:=by
 cases S with
 |l a=>let(o,e,c,d):=p;show#[o,e,λv z=>by rw[d]at z;cases z]
 |t a=>let(o,e,c,d):=p;show#[o,e,λv z=>by rw[d]at z;cases z]
 |x s=>let(t,o,e,c,d):=p;show#[o,e,λv z=>by rw[d]at z;cases z]
def
AC.sub(S:AC){P:AR}{w:Ai}{i:Ac}{h:Ak}{xs:U V}(p:S.ok h xs):∃st:Y->Ak->V',FH P w i S.fp xs.a (λk v=>∃x,xs[k]?=Z x/\RelV x v) st/\(∀k,S.it h i k->st k h)/\∀k h',st k h'->S.it h' i k:=by
 cases S with
 |l a=>let(b,r,q):=p;show#[_,vf b r,λk e=>#[e,q],λk h' e=>e.1]
 |t a=>let(b,r,q):=p;show#[_,vg b r,λk e=>#[e,q],λk h' e=>e.1]
 |x s=>rw[show xs=Gv s from p];show#[_,vh s,λk e=>e,λk h' e=>e]
def AC.obj(S:AC)(u:Aa):Obj:={cls:=.ζ S.nm,data:=.ϊ (T' [u,.r 0 0])}
open J in
def
AC.pyIter(S:AC){prog:AR}{w:Ai}{A:Af}{E:AQ}{s:Ab}{xs:U V}{u:Aa}(c:RelV S.v u){Q:AQ}(p:S.ok s.o xs)
  (q:Q (.C s.o.E.y) {s with heap:=s.o.Μ (S.obj u)}):wpAny (Ag prog w) A (pyIter u) Q E s:=by
 cases S with
 |l a=>let(d,r,p):=p;let e:u=.C a:=c;subst e;show OP p q
 |t a=>let(d,r,p):=p;let e:u=.C a:=c;subst e;show wpAny_pyIter_tuple p q
 |x x=>
  let(t,rfl):=(show ∃t,u=Value.Α x t from c)
  unfold AC.obj AC.nm LX at q
  by_cases b:x.ϐ.ϔ (·<128)=J'
  .erw[b,if_true]at q;show wpAny_pyIter_ascii b q
  .erw[b,if_false]at q;show wpAny_pyIter_wide (by exists b) q
def
AC.new(S:AC){h:Ak}(b:RelV S.v u):S.it (h.Μ (S.obj u)) h.E.y 0:=by
 cases S with
 |l a=>have e:u=.C a:=b;subst e;show#[_,B7 _ rfl,rfl,rfl]
 |t a=>have e:u=.C a:=b;subst e;show#[_,B7 _ rfl,rfl,rfl]
 |x x=>let(t,rfl):=(show ∃t,u=Value.Α x t from b);show#[t,_,B7 _ rfl,rfl,rfl]
@[reducible] def IT(h:Ak)(A:AC)(u:Aa):Ak:=h.Μ (A.obj u)
@[reducible] def HZ(h:Ak)(A B:AC)(u v:Aa):Ak:=(IT h A u).Μ (B.obj v)
@[reducible] def PM(h:Ak)(A B:AC)(u v:Aa):Ak:=(HZ h A B u v).Μ {cls:=.ζ "tuple",data:=.ϰ (T' [.C h.E.y,.C (IT h A u).E.y])}
@[reducible] def PN(h:Ak)(A B:AC)(u v:Aa):Ak:=(PM h A B u v).Μ {cls:=.ζ "tuple",data:=.ϰ (T' [.σ,.σ])}
@[reducible] def LY(h:Ak)(A B:AC)(u v:Aa):Ak:=(PN h A B u v).Μ {cls:=.ζ "zip",data:=.ϊ (T' [.σ,.ϝ O',.ϝ O',.C (HZ h A B u v).E.y,.C (PM h A B u v).E.y])}
def
vi(A B:AC){v:Aa}(a:RelV A.v u)(c:RelV B.v v)(xs ys:U V):Meets (F0.«zip.__new__» #[[.ζ "zip",u,v],[]]) (λ_ R s=>A.ok s.o xs/\B.ok s.o ys/\R (.ok (.Ϻ (.C (PN s.o A B u v).E.y))) {s with heap:=LY s.o A B u v}):=
 .of_wp λprog w f R s h=>by
  let(i,g,d,j,os):=s;let(h1,h2,q):=h
  let k:=sub_zip
  wp_walk using A.pyIter a h1,B.pyIter c (B.okAt h2 λb _ o e=>Bg _ e)
  show#[_,rfl,q]
variable {prog:AR}{w:Ai}{A:Af}{s:Ab}
def
vj{S T:AC}{xs:U V}{v:Aa}(d:RelV S.v u)(f:RelV T.v v){Q:AQ}(p1:S.ok s.o xs)(k:T.ok s.o ys)
  (q:∀h',IsZip h' (s.o.E.y+4) (s.o.E.y+2) (s.o.E.y+3) .σ->IsPair h' (s.o.E.y+2) (.C s.o.E.y) (.C (s.o.E.y+1)) ->
   IsPair h' (s.o.E.y+3) .σ .σ->S.it h' s.o.E.y 0->T.it h' (s.o.E.y+1) 0->(∀c o,s.o.Q c=Z o->h'.Q c=Z o)->Q (.C (s.o.E.y+4)) {s with heap:=h' }):
  wpAny (Ag prog w) A (call (.ζ "zip") [u,v]) Q E s:=by
 apply callType_new PySem.F.called_zip (by ext) (PySem.F.typeCall_zip_2 _ _) (PySem.F.newCall_zip_2 _ _) (λobj=>PySem.F.args_object_init_3 obj _ _) PySem.F.entry_zip_new (vi S T d f xs ys) #[p1,k,?_]
 let z1:(IT s.o S u).E.y=s.o.E.y+1:=FU ..
 let z2:(HZ s.o S T u v).E.y=s.o.E.y+2:=by rw[FU,z1]
 let z3:(PM s.o S T u v).E.y=s.o.E.y+3:=by rw[FU,z2]
 let z4:(PN s.o S T u v).E.y=s.o.E.y+4:=by rw[FU,z3]
 let a:(LY s.o S T u v).Q (PN s.o S T u v).E.y=Z _:=B7 _ rfl
 let g:(LY s.o S T u v).Q (PM s.o S T u v).E.y=Z _:=Bg _ (B7 _ rfl)
 let i:(LY s.o S T u v).Q (HZ s.o S T u v).E.y=Z _:=Bg _ (Bg _ (B7 _ rfl))
 let b:∀c o,(HZ s.o S T u v).Q c=Z o->(LY s.o S T u v).Q c=Z o:=λc o e=>Bg _ (Bg _ (Bg _ e))
 let j:T.it (LY s.o S T u v) (IT s.o S u).E.y 0:=T.itAt (T.new (h:=IT s.o S u) f) λo e=>b _ o e
 rw[z2,z3,z4]at a
 rw[z1,z2]at i
 rw[z3]at g
 rw[z1]at j
 rw[z4]
 show#[#[_,a,rfl],q _ a i g (S.itAt (S.new (h:=s.o) d) λo e=>b _ o (Bg _ e)) j λc o e=>b _ _ (Bg _ (Bg _ e))]
end
def cf(K:Am)(S T:AC):It:=
 #[λi H=>∃a b x y,S.sq K H a/\T.sq K H b/\a[i]?=Z x/\b[i]?=Z y,
  λi H v c=>∃p x y,v=.C p/\H p=J/\c=AX H p (.O [x,y])/\(∀a,S.sq K H a->a[i]?=Z x)/\∀b,T.sq K H b->b[i]?=Z y,
  λi H=>∃a b,S.sq K H a/\T.sq K H b/\(a.a<=i\/b.a<=i)]
def
cg{n:Y}{S T:AC}(h1:∀b∈S.fp,b<n)(h2:∀b∈T.fp,b<n):Cu (n+4) (n+2) (n+3) n (n+1) S.fp T.fp where
 n1:=by(show @Ne Y _ _;lia)
 n2:=by(show @Ne Y _ _;lia)
 n3:=by(show @Ne Y _ _;lia)
 n4:=by(show @Ne Y _ _;lia)
 n5:=by(show @Ne Y _ _;lia)
 n6:=by(show @Ne Y _ _;lia)
 n7:=by(show @Ne Y _ _;lia)
 n8:=by(show @Ne Y _ _;lia)
 n9:=by(show @Ne Y _ _;lia)
 n10:=by(show @Ne Y _ _;lia)
 fz:=λb hb=>by
  let a:(b:Y)<n:=by
   rcases hb with z|z
   .show h1 b z
   .show h2 b z
  show#[λe=>by subst e;show absurd a (by change ¬ @LT.lt Y _ _ _;lia),λe=>by subst e;show absurd a (by change ¬ @LT.lt Y _ _ _;lia),λe=>by subst e;show absurd a (by change ¬ @LT.lt Y _ _ _;lia),λe=>by subst e;show absurd a (by change ¬ @LT.lt Y _ _ _;lia)]
def
vl{P:AR}{w:Ai}{K:Am}{m:U Expr} {x1} (S T:AC) (n:Y) (h1:∀b∈S.fp,b<n) (h2:∀b∈T.fp,b<n):
  Hi P w K (.oo m x1 pos) (cf K S T) [n+4,n+2,n+3,n,n+1] (n+4) (λi h=>IsZip h (n+4) (n+2) (n+3) .σ/\IsPair h (n+2) (.C n) (.C (n+1))/\(∃a b,IsPair h (n+3) a b)/\S.it h n i/\T.it h (n+1) i) where
 mem:=by simp
 obj:=λi h z0 q f=>by
  let(z,a,(x,y,b),c,d):=z0
  erw[Bl,HQ,or_false]at f
  rcases f with rfl|rfl|rfl|rfl|rfl
  .show#[_,z,λv e=>nomatch (show Data.ϊ _=Data.Ξ v from e)]
  .show#[_,a,λv e=>nomatch (show Data.ϰ _ _=Data.Ξ v from e)]
  .show#[_,b,λv e=>nomatch (show Data.ϰ _ _=Data.Ξ v from e)]
  .show S.itOb c
  .show T.itOb d
 keep:=λi h t ⟨z,a,⟨x,y,b⟩,c,d⟩ k=>#[k _ (by simp) _ z,k _ (by simp) _ a,#[x,y,k _ (by simp) _ b],S.itAt c λo e=>k _ (by simp) o e,T.itAt d λo e=>k _ (by simp) o e]
 item:=by
  intro X F L M hc i g s I H E zB A #[z,a,#[u,v,b],c,d] #[xs,ys,x,y,B,C,ex,N]
  subst F L M
  let(sa,R,Q,c2):=S.sub (P:=X.γ) (w:=X.w) (i:=n) (S.of zB B)
  let(zA,SB,Y',d2):=T.sub (P:=X.γ) (w:=X.w) (i:=n+1) (T.of zB C)
  let l1:=(BR.mp ex).1
  let l2:=(BR.mp N).1
  apply ce (cg h1 h2) R SB z a b (Q _ c) (Y' _ d) (λ_ _ x' y' t G hx' hy' z' to' c' d' new sz kp=>?_) λhl=>absurd hl ∅
  let(x2,p,ru1):=hx'
  let(y2,r,ru2):=hy'
  rw[ex]at p;ext p
  rw[N]at r;ext r
  apply#[_,rfl,wpAny_letOwnedTupleGo_zip z' λj z2 zA=>?_]
  let hlt:n+4<s.o.E.y:=BK z
  let l:∀q o,q≠n+4->t.Q q=Z o->j.Q q=Z o:=λq o f e=>zA.α _ _ f e
  let I1:Inv X g I (AX H s.o.E.y (.O [x,y])) {s with heap:=j,toks:=G}:=by
   apply Inv.tok (s:={s with heap:=j}) ?_ G
   show zB.yielded A (λq o f e=>l q o (λz=>f (by simp[z])) (kp q o (λz=>f (by simp[z])) (λz=>f (by simp[z])) (λz=>f (by simp[z])) (λz=>f (by simp[z])) e)) (A9 _) #[show 2<=Az by ext,[x',y'],.Η ru1 (.Η ru2 .Ϝ),#[_,l _ _ (by(show @Ne Y _ _;show BF (B6 hlt))) new,rfl,_,rfl]]
  apply#[.C s.o.E.y,_,I1,rfl,#[_,x,y,rfl,zB.Ϣ.Κ (A9 _),rfl,λzs hz=>S.inj zB hz B ▸ ex,λzs hz=>T.inj zB hz C ▸ N],#[z2,l _ _ (by(show @Ne Y _ _;show W.Z.off_ne n 2 4 rfl)) (kp _ _ (by(show @Ne Y _ _;show W.Z.off_ne n 2 4 rfl)) (by(show @Ne Y _ _;show W.Z.off_ne n 2 3 rfl)) (by(show @Ne Y _ _;lia)) (by(show @Ne Y _ _;show W.Z.off_ne n 2 1 rfl)) a),#[x',y',l _ _ (by(show @Ne Y _ _;show W.Z.off_ne n 3 4 rfl)) to'],S.itAt (c2 _ _ c') λo e=>l _ o (by(show @Ne Y _ _;lia)) e,T.itAt (d2 _ _ d') λo e=>l _ o (by(show @Ne Y _ _;lia)) e],λq f=>?_]
  rw[Zt]
  .show(A q f).1
  .erw[Bl,HQ,or_false]at f
   rcases f with rfl|rfl|rfl|rfl|rfl<;>(show @Ne Y _ _;lia)
 done:=by
  intro X F L M hc i g s I H E zB A #[z,a,#[u,v,b],c,d] #[xs,ys,B,C,hl]
  subst F L M
  let(sa,R,Q,c2):=S.sub (P:=X.γ) (w:=X.w) (i:=n) (S.of zB B)
  let(zA,SB,Y',d2):=T.sub (P:=X.γ) (w:=X.w) (i:=n+1) (T.of zB C)
  show ce (cg h1 h2) R SB z a b (Q _ c) (Y' _ d) (λz1 z2=>absurd hl ∅) λ_=>#[zB.ok.hd hc,λt G kp=>#[rfl,Inv.tok (s:={s with heap:=t}) (zB.turnedL A λq o f e=>kp q o (λz=>f (by simp[z])) (λz=>f (by simp[z])) (λz=>f (by simp[z])) (λz=>f (by simp[z])) e) G]]
 self:=λ_ _ _ _ _ ⟨z,_⟩ q=>wpAny_pyIter_zip z q
def
cj:Eh "zip"=Z (.ζ "zip"):=by symm
@[simp]def ZX:D->A8
  |.lst a=>Z a
  |.tup a=>Z a
  |.str s=>Z (s.ϐ.R.j λc=>.Α #[(T' [c])])
  |_=>J
def
LZ{K:Am}{M N:Fb}{d:D}{v:V}(h:Pb K M N H d v)(e:ZX d=Z xs):
  ∃(S:AC) (vs:U V),v=S.v/\Ad K N H xs vs/\∀g f,Step M N g H f->S.sq K f vs:=by
 cases d with
 |lst k m=>
  cases m with
  |d=>cases e
  |i _ _=>cases e
  |l=>
  ext e
  let(a,vs,j,b,hd):=h
  apply#[.l a,vs,j,hd,λg f S=>?_]
  rcases b with⟨n,b⟩|b
  .show .S (b.ώ S (by rcases n with z|z;show .S z;show .τ (.S z)))
  .show b.sq
 |tup k=>
  ext e
  let(a,vs,j,b,hd):=h
  show#[.t a,vs,j,hd,λg f S=>b.ώ S]
 |str s=>
  ext e
  apply#[.x s,Gv s,h,?_,λ_ _ _=>rfl]
  unfold Gv
  generalize s.ϐ.R=l
  induction l with
  |nil=>show Ad.Ϝ
  |cons c l o=>show Ad.Η (by erw[Av]) o
 |_=>ext e
@[simp]def Hv(f g:AB):VE->A8:=λa=>match(f a).L ZX,(g a).L ZX with
  |some b,Z c=>Z (Dg (λx y=>D.O [x,y]) b c)
  |_,_=>J
def
vm{K:Am}{M N:Fb}{S T:AC}{ys:U D}{us:U V}(h1:Ad K N H xs us)(h2:Ad K N H ys vs)(l:∀c b,Step M N c H b->S.sq K b us)(m:∀c b,Step M N c H b->T.sq K b vs):
  Kk K M N H (cf K S T) (Dg (λx y=>D.O [x,y]) xs ys):=λc b St i=>by
 let e:=l _ _ St
 let f:=m _ _ St
 apply#[λd a=>?_,λa=>#[us,vs,e,f,?_]]
 .rw[List.getElem?_zipWith]at a
  cases ex:xs[i]? with
  |none=>rw[ex]at a;cases a
  |some x=>
   cases g:ys[i]? with
   |none=>rw[ex,g]at a;cases a
   |some y=>
    rw[ex,g]at a;ext a
    let(u,h,n):=(Ad.ώ St _ _ h1).Ι ex
    let(v,j,dv):=(Ad.ώ St _ _ h2).Ι g
    apply#[#[us,vs,u,v,e,f,h,j],λz w o=>?_]
    let(p,A,B,q,k,r,s,t):=o
    have:=s us e;rw[h]at this;ext this
    have:=t vs f;rw[j]at this;ext this
    subst q r
    show#[Sb k,Ly k (Ad.Η n (Ad.Η dv Ad.Ϝ))]
 .let l1:=h1.a
  let C:=h2.a
  erw[List.length_zipWith]at a
  lia
variable {M:Fb}{f g:AB}{a b:Expr}{p tpos:Aw}
open J in
def
vn {x1} (hg:Gl X "zip") (hm:X.mg "zip"=J) (A:JE X a (tQ X.K M H0 f)) (hb:JE X b (tQ X.K M H0 g)) (P:↑(AL [a,b] X.G=[(O',An a X.G),(O',An b X.G)])) (c:↑(AL [b] X.G=[(O',An b X.G)])) (B:↑(AL [] X.G=[])):
  JI X (.oo elts x1 tpos) (.Θ (.ε "zip" p) [a,b] [] pos) (tI X.K M H0 (Hv f g)):=#[have A:=A.h;let hb:=hb.h;by
 intro n s o H Q zA #[d,ds,R,e,q]
 unfold Hv at e
 split at e
 .next xs ys ex x=>
  ext e
  cases C:f d with
  |none=>rw[C]at ex;cases ex
  |some d1=>
   cases i:g d with
   |none=>rw[i]at x;cases x
   |some d2=>
    rw[C]at ex
    rw[i]at x
    let E:=Z0 A (Z0 hb Bq (by rw[c,B])) (by rw[P,c])
    apply Call_ (GD zA hg hm cj (K7 (A0 (E pos n s o H (λW l=>∃S T t u,W=[AC.v S,AC.v T]/\Aj H l/\Ad X.K (Nf M d o) l xs t/\Ad X.K (Nf M d o) l ys u/\(∀y m,Step M (Nf M d o) y l m->S.sq X.K m t)/\∀y m,Step M (Nf M d o) y l m->T.sq X.K m u) zA ?_) λt G ⟨W,Y',w,r1,F⟩=>?_) (by rw[P,c]) (by rw[c];rfl)))
    .apply#[d,d1,R,C,λv1 Y' z1 F=>#[d,d2,R.st z1,i,λv2 l z2 q2=>?_]]
     let(S,t,L,j,k1):=LZ F ex
     let(T,u,e2,k,k2):=LZ q2 x
     show#[S,T,t,u,by rw[L,e2],z1.J z2,j.κ z2,k,λy m St=>k1 _ _ ((Step.ϑ z2).J St),k2]
    .let(S,T,us',u,L,z,j,k,k1,k2):=F
     subst L
     cases r1 with
     |cons r N=>
      cases N with
      |cons r' N=>
       ext N
       let o1:=S.of w (k1 _ _ Step.ξ)
       let o2:=T.of w (k2 _ _ Step.ξ)
       apply vj r r' o1 o2 λh' a1 a2 a3 a4 a5 kp=>wpAny_pyIter_zip a1 ?_
       apply#[_,_,_,_,Y',rfl,w.ϟ (t':=G.ω) kp,vl S T G.o.E.y (S.lt o1) (T.lt o2),#[a1,a2,#[_,_,a3],a4,a5],λb hb=>?_,q _ _ z (vm j k k1 k2)]
       let hl:G.o.E.y<=b:=by
        erw[Bl,HQ,or_false]at hb
        rcases hb with rfl|rfl|rfl|rfl|rfl<;>(show @LE.le Y _ _ _;lia)
       show w.fpOk hl (w.Ϣ.Κ hl)
 .cases e]
end
open PySem.W
structure Q4 where
 k:KT
 kv:V
 b:Ac
 z:List D
def q3(q:Q4):T3:=(q.k,q.kv,.C q.b)
def qz(q:Q4):KT×U D:=(q.k,q.z)
structure MI(K:Am)(C:Ac)(nm qual:Ae)(st:AE)(ps:List Ae)(a:Ac)(fd:Cj):V' where
 M:Jk K C nm a
 F:Jq K nm qual st a fd
 b:Binds K fd ps []
def
mi{K:Am}{C:Ac}{nm b:Ae}{st:AE}{j:Aa}{m f:O Ac}{h:Array (O Aa)}{kV e g d ct:Aa}
  (A:findIn K (.C C) nm=Z (Z (.C a))) (i:isFn K (.C a)=J')
  (l:K.X a=Z #[j,m,.func (fnOf nm b (HK st) (ZT st) (Zk st) .σ kV e g f d ct),h]) (c:codeIn K d b=J') (k:keepIn K (.C a)=J')
  (hb:∀(kV e g:Aa) (f:O Ac) (d ct:Aa) (us:U Aa),us.a=ps.a->bindArgs (fnOf nm b (HK st) (ZT st) (Zk st) .σ kV e g f d ct) #[us,[]]=Ax (ps.zip us):=by
   exact λ_ _ _ _ _ _=>bQ (by(repeat intro _);rfl)):
  MI K C nm b st ps a (fnOf nm b (HK st) (ZT st) (Zk st) .σ kV e g f d ct):=
 #[#[A,i,k],YE l c k,.ϔ (hb kV e g f d ct)]
structure CI(K:Am)(mg:BE)(c:Ae)(C:Ac):V' where
 cof:nsIn K CJ c=Z (Z (.C C))
 cl:EJ K C
 m:mg c=Z (.C C)
 mks:makesIn K C=J'
 kp:keepIn K (.C C)=J'
def
ci{K:Am}{mg:BE}{h:Ak}{c:Ae}{C:Ac}(X:K.In h)(G:h.Ns CJ mg)(A:nsIn K CJ c=Z (Z (.C C)))(pg:plainGet K C Str.empty=J')(hd:hasDictIn K C=J')(po:plainOver K C=J')(sa:findIn K (.C C) "__setattr__"=Z (Z (.ρ "object.__setattr__")))(a:makesIn K C=J')(b:keepIn K (.C C)=J'):CI K mg c C:=
 #[A,#[pg,hd,po,sa],mg_of X G A,a,b]
def
CI.mkB{K:Am}{mg:BE}{C:Ac}{b:Ae}{st:AE}{fd:Cj}{c':Ae}(c:CI K mg c' C)(q:MI K C "__init__" b st ps a fd):Mk K C a:=#[c.mks,q.M.at_,q.M.fn,c.kp]
def
vo{K:Am}{k:Y}{C fn:Ac}{fd:Cj}{nm a:Ae}{st:AE}{P:AR}{w:Ai}{mg:BE}{base:Ak}{N:U Ae}{g d:Ao}(D:MI K C nm a st ps fn fd)(S:Ff N ps (Zk st))
  (hb:∀(b:Aa) (A:Af) (outer:U Env) (s:Ab) (H:Hp) (E:XK) (M:Fb) (H0:Hp),AH k (A.Ϩ (Bj a (Zk st) s.o.E.y fn b)) ->
   JB (DE Bm P w K mg base N a (Zk st) fn b A outer s H E).nox (ZT st) (tS K M H0 d)) (e:↑(d=g)) (c:⇑(ps.a<=N.a)):AW P w K mg base Bm (k+1) fn fd ps (AN K (AV ps.a N.a g)):=
 Y4 D.F S c (e ▸ hb)
variable {M:Fb}{l:Expr}{f:AB}{b:D->VE->O VE}{t:VE->O jp}{e:AB}
open J in
def
ck{n:Y}{oix:U Y}(hw:∀j∈ws,j<n){E:A1}{s:Ab}{Q:VK}(W:Inv X E I H s)(h:tF X.K M H0 (Zi n oix (λρ=>(f ρ).L Gu) b t e) I H Q):MR n oix (b5 X.K (tQ X.K M H0 f)) (Lr X.K ws b) (Lu X.K t) (Lv X.K e) I H (λv=>Cv X (Q v)):=by
 let(ρ,L,R,g,q):=h
 unfold Zi at g
 dsimp only at g
 cases N:f ρ with
 |none=>rw[N]at g;cases g
 |some d=>
 rw[N]at g
 erw[DG]at g
 cases i:Gu d with
 |none=>rw[i]at g;cases g
 |some ds=>
 rw[i]at g
 unfold Gu at i
 split at i
 .next ys=>
  cases P:DV ys with
  |none=>rw[P]at i;cases i
  |some G=>
  rw[P]at i
  ext i
  apply#[ρ,_,R,N,λv r C dq=>?_]
  rw[Gr P]at dq
  let(a,u,rfl,hN,hr,dl):=dq
  let(tr,dc,pd):=IL hr dl
  apply#[a,tr,rfl,dc,λo hz=>?_]
  let T:=R.st C
  let fin:∀m,By X.K M m ρ I (Dr a o (Ed tr) r)->(∀p u A,Aj (Dr a o (Ed tr) r) A->Dr a o (Ed tr) r p=J->A p=Z (CO X.K .l p L u)->Ad X.K (λb=>Nf M ρ I b\/b=p) A L u->Cv X (Q (.C p)) A) ->
    R7 n oix (Lr X.K ws b) (Lu X.K t) (Lv X.K e) (PL a o (Ed tr) (tr.j λt=>t.2.1)) I (Dr a o (Ed tr) r) (λv=>Cv X (Q v)):=λm R2 q2=>by
   let(ρ',ds',R',e',k):=(Pe (K:=X.K) (M:=M) (H0:=m) (f:=λ_=>Z (G.j λ(p:KT×D)=>kD p.1)) (b:=b) (t:=t) (e:=e) (oix:=oix) (k:=n) hw (wi:=tI X.K M m λ_=>Z (G.j λ(p:KT×D)=>kD p.1)) (λ_ _ _ z=>z) (I:=I) (H:=Dr a o (Ed tr) r) (Q:=λv=>Cv X (Q v)) #[ρ,L,R2,g,q2])
   ext e'
   show k _ _ (Aj.ξ _) (u9 pd hz)
  rcases dc.1 with h1|⟨o',h1⟩
  .apply fin _ (T.fz rfl h1 (vb T hN)) λp u A sm S F B=>?_
   let Y':=sm a _ (KC h1)
   apply .τ #[a,o,Ed tr,W.plain2 C h1 rfl,Y',q p u _ (λc w e=>?_) (C.σ (Dz.mp S)) (b0 F (b4 _ _ _ _ _)) (Ad.rd (λb v F h=>Rd.ufz F h) _ _ B)]
   let e1:=C c w e
   by_cases y:c=a
   .grind [Te]
   .rw[PJ λx=>y x.1];show sm c w (by rw[HY λx=>y x.1];show e1)
  .let e:Dr a o (Ed tr) r=r:=funext λb=>HY (by rintro⟨rfl,y⟩;rw[h1]at y;ext y)
   rw[e]at fin ⊢
   show fin _ T λp u A sm S F B=>.S (q p u A (C.J sm) (C.σ S) F B)
 .cases i
variable(own outs:U Ae)(oix:U Y)(S:Jr own outs scope X.G.Γ)(hox:oix.j (λj=>X.N[j]?)=outs.j Z)(hc:X.Ϭ=J')
include S hox hc
def
vq(i:JE X l (tQ X.K M H0 f))
  (hb:CB X.K X own outs scope tg ifs elt ws b t e) (k:∀j∈ws,j<own.a)
  (m:↥(∀x,FS l X.G x=Ax x:6)):
  JE X (.Τ elt [#[tg,l,ifs,0]] scope pos) (tF X.K M H0 (Zi own.a oix (λρ=>(f ρ).L Gu) b t e)):=#[λc s n H Q A h=>by
 apply A0 (R8 own outs oix S hox hc (b6 i.h) hb.g hb.t hb.e m c s n H (λv=>Cv X (Q v)) A (ck k A h)) λu y h=>?_
 let(v,p,d,r,z):=h
 rcases z with z|⟨a,o,u,q,w,z⟩
 .show#[v,p,d,r,z]
 .show#[v,_,d.ufz w q,r,z]]
def
vr{i:Y}{x:Ae}{a c:Aw}(n:X.N.ι)(k:X.N[i]?=Z x)(o:X.G.Γ.υ.X x=Z .ϓ)(p:JE X l (tQ X.K M H0 f))
  (hb:CB X.K X own outs scope tg ifs elt ws b t e) (q:∀j∈ws,j<own.a)
  (m:↑(Ej (.Τ elt [#[tg,l,ifs,0]] scope pos) (Z (.ε x a)) c.ϥ X.G=Ax J')) (r:↥(∀x,FS l X.G x=Ax x:6)):
  JS X (.Ϡ [.ε x a] (.Τ elt [#[tg,l,ifs,0]] scope pos) c) (tS X.K M H0 λρ=>Z4 i (Zi own.a oix (λρ=>(f ρ).L Gu) b t e ρ) ρ):=#[λd s u H D v h=>
 A0 (R9 own outs oix S hox hc n k o (b6 p.h) hb.g hb.t hb.e m r d s u H (D.cv X) v (ck q v (Y2 h))) λ_ _ h=>SP.cv h]
end
variable {P:AR}{w:Ai}{T:Type}[DecidableEq T]{hk:HeapKind P w T}{A:Af}{s:Ab}{us:U (T×Ac×Aa)}
def
vt(hk:HeapKind P w T)(b:(a==He)=O'):MeetsIn P w (F0.«dict.__len__» #[[.C a],[]]) (λ_ R t=>∃us,t.o.DictOfH hk a us/\R (.ok (.Ϻ (.r us.a t.ω))) {t with toks:=t.ω+1}):=.of_wp λA R t c=>by
 let(us,(o,f,g,h1,_,d,e,_),q):=c
 rw[(size_of_entries e).Ρ]at q
 change wpAny _ _ (dictSize a >>= _) _ _ t
 unfold dictSize;apply Al (Al (wpAny_dictEntries h1 d (AO (?_:wpAny _ _ (Builtin.Dict.pendingCount a >>= _) _ _ t))))
 show Al (wpAny_pendingCount_other b (wpAny_ret_mkInt (by rw[Nat.add_zero];show q)))
def
vu{Q:AQ}(c:(a==He)=O')(d:s.o.DictOfH hk a us)(z:(us.a:W')<2^63)(q:Q (.r us.a (s.ω+1)) {s with toks:=s.ω+1+1}):wpAny (Ag P w) A (F0.«len» #[[.C a],[]]) (λf t=>∃r,f=.done (.Ϻ r)/\Q r t) E s:=by
 unfold F0.«len»;apply Al (m:=oneArg "len" _) (AO (Al (m:=callSpecial? (.C a) (EL "__len__")) (Kc (name:=EL "__len__") d.ϖ F.slot_dict_len (LL F.slot_dict_len d.ϖ F.entry_dict_len (F.args_dict_len_1 _) (vt hk c) #[us,d,?_]))))
 change wpAny _ _ _ _ _ {s with toks:=s.ω+1}
 apply Al (Fv (AO (Al (Kx ?_))))
 change wpAny _ _ (if((us.a:Y):W')<0 then _ else _) _ _ _
 change wpAny _ _ (if((us.a:Y):W')≥2^63 then _ else _) _ _ _
 rw[if_neg (by show Int.not_le.ϡ z:¬ ((us.a:Y):W')≥2^63)]
 show Al (wpAny_mkInt (AO #[_,rfl,q]))
end
variable {K:Am}
def
vz:D8 X (.ρ "len") (λxs H Q=>∃a tr,xs=[.C a]/\Cq X.K H a tr/\(∀t∈tr,∃l,t.1=KT.O l)/\Q (.r tr.a) H):=by
 intro c s i H xs d Q j r zQ;let(a,tr,rfl,hd,e,q):=zQ
 let(u,rfl,f):=El r
 ext f
 let(z,g,nd,d,b,h):=Kr j hd e
 apply cm kind_len plain_len entry_len (args_len1 _) (vu g h (by rw[<- (Hd b)];rw[HH]at z;lia) ?_)
 rw[<- (Hd b)]
 show#[.r _,H,j.tok _,#[_,rfl],q]
def L3:Ex
 |[.lst b .d]=>(DV b).L λa=>if a.ϔ (λp=>!ES p.1)then Z (.r a.a)else J
 |_=>J
open J in
def
vA:F1 K (λxs H Q=>∃a tr,xs=[.C a]/\Cq K H a tr/\(∀t∈tr,∃l,t.1=KT.O l)/\Q (.r tr.a) H) L3:=by
 intro N H n o d Q s h e q
 unfold L3 at e
 split at e
 .next xs=>
  cases c:DV xs with
  |none=>rw[c]at e;cases e
  |some b=>
   rw[c]at e
   let e:(if b.ϔ (λp=>!ES p.1)then Z (D.r b.a)else J)=Z d:=e
   split at e
   .next i=>
    ext e
    let(v,rfl,f):=Paired.one' h
    rw[Gr c]at f
    let(p,u,j,r,hd):=f
    subst j
    let(tr,m,g):=IL r hd
    apply#[p,tr,rfl,m,g.hom (k:=.O []) (by simpa[DJ,ES]using i),?_]
    rw[<- Hd g]
    show q _ H (Aj.ξ H) F3
   .cases e
 .cases e
end
end Internal
namespace Internal
open PySem PySem.Spec PyProof.Rows
variable {prog:AR}{w:Ai}{A:Af}{s:Ab}
abbrev Ti(i:Ac):Obj:={cls:=.ζ "enumerate",data:=.ϊ (T' [.σ,.ϝ O',.C i,Bw 0,.σ,.σ])}
open J in
def
vB(S:AC)(a:RelV S.v u)(xs:U V):Meets (F0.«enumerate.__new__» #[[.ζ "enumerate",u],[]]) (λ_ R s=>S.ok s.o xs/\R (.ok (.Ϻ (.C (s.o.Μ (S.obj u)).E.y))) {s with heap:=(s.o.Μ (S.obj u)).Μ (Ti s.o.E.y)}):=
 .of_wp λprog w A R s h=>by
  let(b,g,d,f,os):=s;let(e,q):=h
  let i:=sub_enumerate
  wp_walk using S.pyIter a e
  apply wpAny_stack_any λst=>AO ?_
  split
  .rename_i c _ _ _ _ _
   cases(c==Value.ζ "enumerate")
   .wp_walk using S.pyIter a e
    show#[_,rfl,q]
   .wp_walk using S.pyIter a e
    show#[_,rfl,q]
  .wp_walk using S.pyIter a e
   show#[_,rfl,q]
def
vD{S:AC}(c:RelV S.v u){xs:U V}{Q:AQ}(p:S.ok s.o xs)
  (q:∀h',IsEnum h' (s.o.E.y+1) s.o.E.y 0 .σ->S.it h' s.o.E.y 0->(∀b o,s.o.Q b=Z o->h'.Q b=Z o)->Q (.C (s.o.E.y+1)) {s with heap:=h' }):
  wpAny (Ag prog w) A (call (.ζ "enumerate") [u]) Q E s:=by
 let d:(s.o.Μ (S.obj u)).E.y=s.o.E.y+1:=FU ..
 let f:IsEnum ((s.o.Μ (S.obj u)).Μ (Ti s.o.E.y)) (s.o.E.y+1) s.o.E.y 0 .σ:=by
  have:=B7 (s.o.Μ (S.obj u)) (o:=Ti s.o.E.y) rfl
  rw[d]at this;show this
 let a:=q _ f (S.itAt (S.new (h:=s.o) c) λo e=>Bg _ e) λb o e=>Bg _ (Bg _ e)
 apply callType_new PySem.F.called_enumerate (by ext) (PySem.F.typeCall_enumerate_1 _) (PySem.F.newCall_enumerate_1 _) (λobj=>PySem.F.args_object_init_2 obj _) PySem.F.entry_enumerate_new (vB S c xs) #[p,?_]
 change _/\_
 rw[d]
 show#[#[_,f,rfl],a]
variable {e it:Ac}{fa:U Ac}{n k:Y}{sa:Y->Ak->V'}{old:Aa}
def
vE{Q:O Aa->Ab->V'}(R:FH prog w it fa n isA sa)(a:IsEnum s.o e it k old)(ha:sa k s.o)(kn:k<n)(t:e≠it)(hfe:e∉fa)
  (q:∀x h' t' u,isA k x->IsEnumOut h' e it ((k:W')+1) x s.o.E.y->sa (k+1) h'->h'.Q s.o.E.y=Z {cls:=.ζ "tuple",data:=.ϰ (T' [.r k t',x])} ->
   (∀b o,b≠e->b≠it->s.o.Q b=Z o->h'.Q b=Z o)->Q (Z (.C s.o.E.y)) {s with heap:=h',toks:=u}):
  wpAny (Ag prog w) A (pyNext (.C e)) Q E s:=by
 let(f,g,d,tk,os):=s
 apply Al (Nv (Kc (name:=EL "__next__") #[_,a,rfl] Tj (Jn Tj #[_,a,rfl] PySem.F.entry_enumerate_next ?_ (PySem.F.args_enumerate_next_1 _))))
 let fr:∀{h h':Ak},sa (k+1) h->(∀b o,b≠e->h.Q b=Z o->h'.Q b=Z o)->sa (k+1) h':=λst kp=>R.frame _ _ _ st λb hb o x=>kp b o (by
  grind) x
 change wpAny _ _ (field (.C e) 2 >>= _) _ _ _
 apply Al (Eu a rfl (x:=.C it) rfl ?_)
 apply Al (R.item _ _ _ k _ kn ha λx h1 i hx a1 j=>?_)
 replace j:D1 it f h1:=j
 let v:IsEnum h1 e it k old:=(j.2 e t).J a
 apply Al (Eu v rfl (x:=Bw k) rfl ?_)
 apply Al (Eu v rfl (x:=.σ) rfl ?_)
 apply Al (wpAny_mkInt ?_)
 apply Al (Fp v (by simp) λh2 y l=>?_)
 replace l:D1 e h1 h2:=l
 replace y:IsEnum h2 e it ((k:W')+1) old:=y
 apply Al (Fp y (by simp) λc B m=>?_)
 replace m:D1 e h2 c:=m
 replace B:IsEnum c e it ((k:W')+1) old:=B
 apply Al (wpAny_newTuple ?_)
 let sz:c.E.y=f.E.y:=by rw[m.1,l.1,j.1]
 let p:IsEnum (c.Μ {cls:=.ζ "tuple",data:=.ϰ (T' [.r k i,x])}) e it ((k:W')+1) old:=Bg _ B
 let t4:(c.Μ {cls:=.ζ "tuple",data:=.ϰ (T' [.r k i,x])}).Q f.E.y=Z {cls:=.ζ "tuple",data:=.ϰ (T' [.r k i,x])}:=sz ▸ B7 _ rfl
 let k4:∀b o,b≠e->b≠it->f.Q b=Z o->(c.Μ {cls:=.ζ "tuple",data:=.ϰ (T' [.r k i,x])}).Q b=Z o:=λb o a C hb=>
  Bg _ (m.α b o a (l.α b o a (j.α b o C hb)))
 let a4:sa (k+1) (c.Μ {cls:=.ζ "tuple",data:=.ϰ (T' [.r k i,x])}):=fr a1 λb o hb z=>Bg _ (m.α b o hb (l.α b o hb z))
 generalize (c.Μ {cls:=.ζ "tuple",data:=.ϰ (T' [.r k i,x])})=h4 at p t4 k4 a4 ⊢
 rw[sz]
 apply Al ?_
 apply Al (Eu p rfl (x:=.σ) rfl (AO ?_))
 apply Al (Ix ?_)
 apply Al (Eu p rfl (x:=old) rfl ?_)
 apply Al (Fp p (by simp) λG H S=>?_)
 replace S:D1 e h4 G:=S
 replace H:IsEnum G e it ((k:W')+1) x:=H
 apply Al ?_
 apply Al (Fp H (by simp) λK L M=>?_)
 replace M:D1 e G K:=M
 replace L:IsEnumOut K e it ((k:W')+1) x f.E.y:=L
 apply Fp L (by simp) λr N P=>?_
 replace P:D1 e K r:=P
 replace N:IsEnumOut r e it ((k:W')+1) x f.E.y:=N
 let T:∀b o,b≠e->h4.Q b=Z o->r.Q b=Z o:=λb o hb z=>P.α b o hb (M.α b o hb (S.α b o hb z))
 apply Al (Kx (AO #[_,rfl,AO (q x r _ _ hx N (fr a4 T) (T _ _ (Hh (BK a)) t4) λb o a C z=>T b o a (k4 b o a C z))]))
def
vF{Q:O Aa->Ab->V'}(d:A.ϛ=J)(f:FH prog w it fa n isA sa)(a:IsEnum s.o e it k old)(g:sa k s.o)(h:n<=k)
  (q:∀h',Heap.ExtBut it s.o h'->Q J {s with heap:=h' }):wpAny (Ag prog w) A (pyNext (.C e)) Q E s:=by
 apply Al (Nv (Kc (name:=EL "__next__") #[_,a,rfl] Tj (Jn Tj #[_,a,rfl] PySem.F.entry_enumerate_next ?_ (PySem.F.args_enumerate_next_1 _))))
 change wpAny _ _ (field (.C e) 2 >>= _) _ _ _
 apply Al (Eu a rfl (x:=.C it) rfl ?_)
 apply Al (f.fin _ _ _ k _ (by show d) h g λh' x i j=>?_)
 let(o,l,m):=j
 show Al (wpAny_isInstance (T:="StopIteration") (b:=J') #[o,l,m] isSubtype_stop (AO (q _ i)))
def
vG{a:U Expr} {b} {i:W'} {v:Aa} {T:Ac} (hz:IsEnumOut s.o e it i v T)
  (q:∀h',IsEnum h' e it i v->D1 e s.o h'->Q () {s with heap:=h' }):wpAny (Ag prog w) A (letOwnedTupleGo (.oo a b pos) (.C e) (.C T)) Q E s:=by
 apply Al (wpAny_load hz ?_)
 change wpAny _ _ (if(["enumerate","zip","dict_itemiterator","dict_reverseitemiterator","odict_iterator","itertools.zip_longest","itertools.pairwise"].Ϗ "enumerate"&&((T' [Bw T,.ϝ O',.C it,Bw i,.σ,v]):Array Aa)[0]?==Z (Bw T))=J' then _ else _) Q E s
 rw[if_pos (by simp)]
 show Al (Ix (Fp hz (by simp) λh' z c=>q h' z c))
end
end
def cq(K:Am)(S:AC):It:=
 #[λi H=>∃a x,S.sq K H a/\a[i]?=Z x,
  λi H v b=>∃p x,v=.C p/\H p=J/\b=AX H p (.O [.r i,x])/\(∀a,S.sq K H a->a[i]?=Z x),
  λi H=>∃a,S.sq K H a/\a.a<=i]
def
vH{P:AR}{w:Ai}{K:Am}{g:U Expr} {T} (S:AC) (n:Y) (h1:∀b∈S.fp,b<n):
  Hi P w K (.oo g T pos) (cq K S) [n+1,n] (n+1) (λi h=>(∃f,IsEnum h (n+1) n i f)/\S.it h n i) where
 mem:=by simp
 obj:=λi h W q a=>by
  let((x,z),c):=W
  erw[Bl,HQ,or_false]at a
  rcases a with rfl|rfl
  .show#[_,z,λv e=>nomatch (show Data.ϊ _=Data.Ξ v from e)]
  .show S.itOb c
 keep:=λi h m ⟨⟨x,z⟩,c⟩ k=>#[#[x,k _ (by simp) _ z],S.itAt c λo e=>k _ (by simp) o e]
 item:=by
  intro X t u y L i d s M H E zA p #[#[f,z],c] #[Y',x,r,ex]
  subst t u y
  let(sa,A,B,N):=S.sub (P:=X.γ) (w:=X.w) (i:=n) (S.of zA r)
  let hlt:n+1<s.o.E.y:=BK z
  apply vE A z (B _ c) ((BR.mp ex).1) (by(show @Ne Y _ _;lia)) (λz=>absurd (show @LT.lt Y _ _ _ from h1 _ z) (by change ¬ @LT.lt Y _ _ _;lia)) λR m t1 Q C z' c' new kp=>?_
  let(x2,j,G):=C
  rw[ex]at j;ext j
  apply#[_,rfl,vG (s:={s with heap:=m,toks:=Q}) z' λl z2 sb=>?_]
  let F:∀q o,q≠n+1->m.Q q=Z o->l.Q q=Z o:=λq o a e=>sb.α _ _ a e
  let I1:Inv X d M (AX H s.o.E.y (.O [.r i,x])) {s with heap:=l}:=by
   show zA.yielded p (λq o a e=>F q o (λz=>a (by simp[z])) (kp q o (λz=>a (by simp[z])) (λz=>a (by simp[z])) e)) (A9 _) #[show 2<=Az by ext,[.r i t1,R],.Η #[_,rfl] (.Η G .Ϝ),#[_,F _ _ (by(show @Ne Y _ _;lia)) new,rfl,_,rfl]]
  apply#[.C s.o.E.y,_,I1.tok Q,rfl,#[_,x,rfl,zA.Ϣ.Κ (A9 _),rfl,λzs hz=>S.inj zA hz r ▸ ex],#[#[R,?_],S.itAt (N _ _ c') λo e=>F _ o (by(show @Ne Y _ _;lia)) e],λq a=>?_]
  .have:((i+1:Y):W')=(i:W')+1:=∅
   show z2
  rw[Zt]
  .show(p q a).1
  .erw[Bl,HQ,or_false]at a
   rcases a with rfl|rfl<;>(show @Ne Y _ _;lia)
 done:=by
  intro X t u y L i d s M H E zA p #[#[f,z],c] #[Y',r,hl]
  subst t u y
  let(sa,A,B,N):=S.sub (P:=X.γ) (w:=X.w) (i:=n) (S.of zA r)
  apply vF (zA.ok.hd L) A z (B _ c) hl λm kp=>#[rfl,zA.turnedL p λq o a e=>kp q o (λz=>a (by simp[z])) e]
 self:=λ_ _ _ _ _ ⟨⟨_,z⟩,_⟩ q=>wpAny_pyIter_enum z q
@[simp]def EX(f:AB):VE->A8:=λa=>match(f a).L ZX with
  |some b=>Z (ZR 0 b)
  |none=>J
def
vI{K:Am}{M N:Fb}{S:AC}{us:U V}(h1:Ad K N H xs us)(h:∀e b,Step M N e H b->S.sq K b us):Kk K M N H (cq K S) (ZR 0 xs):=λe b St i=>by
 let c:=h _ _ St
 apply#[λd a=>?_,λa=>#[us,c,?_]]
 .rw[aP]at a
  let(x,ex,a):=Cd.mp a
  ext a
  let(u,f,j):=(Ad.ώ St _ _ h1).Ι ex
  apply#[#[us,u,c,f],λz o k=>?_]
  let(p,q,l,g,m,n):=k
  have:=n us c;rw[f]at this;ext this
  subst l m
  show#[Sb g,Ly g (Ad.Η (by simp[Av]) (Ad.Η j Ad.Ϝ))]
 .let l1:=h1.a
  rw[Kq]at a
  lia
variable {M:Fb}{f:AB}{a:Expr}{p tpos:Aw}
open J in
def
vJ {F} (L:Gl X "enumerate") (N:X.mg "enumerate"=J) (k:JE X a (tQ X.K M H0 f)) (y:↑(AL [a] X.G=[(O',An a X.G)])) (l:↑(AL [] X.G=[])):
  JI X (.oo elts F tpos) (.Θ (.ε "enumerate" p) [a] [] pos) (tI X.K M H0 (EX f)):=#[have k:=k.h;by
 intro d s m H Q zA #[i,ds,R,e,q]
 unfold EX at e
 split at e
 .next P ex=>
  ext e
  cases n:f i with
  |none=>rw[n]at ex;cases ex
  |some T=>
   rw[n]at ex
   let o:=Z0 k Bq (by rw[y,l])
   apply Call_ (GD zA L N tw (K7 (A0 (o pos d s m H (λA t=>∃S g,A=[AC.v S]/\Aj H t/\Ad X.K (Nf M i m) t P g/\(∀W B,Step M (Nf M i m) W t B->S.sq X.K B g)) zA ?_) λg u ⟨A,C,j,Y',w⟩=>?_) y rfl))
   .apply#[i,T,R,n,λv1 C z1 w=>?_]
    let(S,g,x,c,k1):=LZ w ex
    show#[S,g,by rw[x],z1,c,k1]
   .let(S,us',x,z,c,k1):=w
    subst x
    cases Y' with
    |cons r rr=>
     ext rr
     let E:=S.of j (k1 _ _ Step.ξ)
     apply vD r E λh' a1 a4 kp=>wpAny_pyIter_enum a1 ?_
     apply#[_,_,_,_,C,rfl,j.ϟ (t':=u.ω) kp,vH S u.o.E.y (S.lt E),#[#[_,a1],a4],λb hb=>?_,q _ _ z (vI c k1)]
     let G:u.o.E.y<=b:=by
      erw[Bl,HQ,or_false]at hb
      rcases hb with rfl|rfl<;>(show @LE.le Y _ _ _;lia)
     show j.fpOk G (j.Ϣ.Κ G)
 .cases e]
end
open PySem.W
inductive IV where
 |no|val (d:D)|cel (n:Y)|exc (c:Ae)
inductive Cl where
 |dead|dat (k:Kd) (xs:List D)|mix (k:Kd) (xs:List IV)
abbrev Gh:=U Cl
abbrev IS:=U IV×Gh
variable{ga:IS->O (U IV)}{gp:IS->O Y}{gx:IS->O (IV×Gh)}{gb:IS->O (jp×Gh)}{gf:IS->O (U D)}
@[simp]def un:IV->D
  |.val d=>d
  |_=>.Y
@[simp]def Cl.kd:Cl->O Kd
  |.dead=>J
  |.dat k _=>Z k
  |.mix k _=>Z k
def LV(φ:Y->Ac)(G:Gh):Fb:=λa=>∃n c k,G[n]?=Z c/\c.kd=Z k/\φ n=a
def Bn(K:Am)(φ:Y->Ac)(L:Y)(N:Fb)(H:Hp):IV->V->V'
 |.no,_=>False
 |.val d,v=>Av K N H d v
 |.cel n,v=>n<L/\v=.C (φ n)
 |.exc c,v=>∃a C,v=.C a/\nsIn K CJ c=Z (Z (.C C))/\H a=Z (.ext (YN a C))
def Tk(K:Am)(φ:Y->Ac)(L:Y)(N:Fb)(H:Hp)(a:Ac):Cl->V'
 |.dead=>True
 |.dat k b=>∃c,H a=Z (CO K k a b c)/\Ad K N H b c
 |.mix k b=>∃c,H a=Z (CO K k a (b.j un) c)/\Paired (Bn K φ L N H) b c
structure BH(K:Am)(φ:Y->Ac)(G:Gh)(H:Hp):V' where
 cell:∀n c,G[n]?=Z c->Tk K φ G.a (LV φ G) H (φ n) c
 inj:∀n m c c' k k',G[n]?=Z c->G[m]?=Z c'->c.kd=Z k->c'.kd=Z k'->φ n=φ m->n=m
structure BI(K:Am)(φ:Y->Ac)(s:IS)(I:St)(H:Hp):V' where
 len:s.1.a=I.a
 g:BH K φ s.2 H
 slot:∀(i:Y) (x:IV),s.1[i]?=Z x->x=.no\/∃v,I[i]?.join=Z v/\Bn K φ s.2.a (LV φ s.2) H x v
structure Go(φ:Y->Ac)(G:Gh)(H:Hp)(φ':Y->Ac)(G':Gh)(H':Hp):V' where
 ext:∀n,n<G.a->φ' n=φ n
 len:G.a<=G'.a
 st:Step (λ_=>False) (LV φ G) (LV φ' G') H H'
variable {K:Am}{φ1 φ2:Y->Ac}{G G1 G2:Gh}{H1 H2:Hp}{s:IS}
def
Go.same(sm:Aj H H'):Go φ G H φ G H':=#[λ_ _=>rfl,A9 _,Step.ϑ sm]
def
Go.trans(a:Go φ G H φ1 G1 H1)(b:Go φ1 G1 H1 φ2 G2 H2):Go φ G H φ2 G2 H2:=
 #[λn h=>(b.ext n (BQ h a.Ϫ)).J (a.ext n h),BX a.Ϫ b.Ϫ,a.st.J b.st]
def
Bn.go(g:Go φ G H φ1 G1 H1){x:IV}{v:V}(h:Bn K φ G.a (LV φ G) H x v):Bn K φ1 G1.a (LV φ1 G1) H1 x v:=by
 cases x with
 |no=>show h
 |val d=>show Av.ώ g.st d v h
 |cel n=>show#[BQ h.1 g.Ϫ,g.ext n h.1 ▸ h.2]
 |exc c=>let(a,C,e,h1,h2):=h;show#[a,C,e,h1,g.st.kp _ _ h2 (.τ (.τ rfl))]
def
BH.same(R:BH K φ G H)(sm:Aj H H'):BH K φ G H':=#[λn c e=>by
 let h:=R.Ξ n c e
 cases c with
 |dead=>trivial
 |dat k b=>let(a,h1,h2):=h;show#[a,sm _ _ h1,h2.κ sm]
 |mix k b=>let(a,h1,h2):=h;show#[a,sm _ _ h1,Paired.mapP h2 λ_ _ q=>Bn.go (Go.κ sm) q],R.inj]
def
BI.go(R:BI K φ s I H)(a:BH K φ1 G1 H1)(g:Go φ s.2 H φ1 G1 H1):BI K φ1 (s.1,G1) I H1:=
 #[R.Ϫ,a,λi x e=>(R.ϣ i x e).imp id λ⟨v,h1,h2⟩=>#[v,h1,h2.go g]]
def
BI.same(R:BI K φ s I H)(sm:Aj H H'):BI K φ s I H':=R.go (R.g.κ sm) (Go.κ sm)
def
BH.has(R:BH K φ G H){n:Y}{c:Cl}{k:Kd}(e:G[n]?=Z c)(a:c.kd=Z k):∃xs vs,H (φ n)=Z (CO K k (φ n) xs vs):=by
 let h:=R.Ξ n c e
 cases c with
 |dead=>cases a
 |dat k xs=>ext a;let(vs,h1,_):=h;show#[_,vs,h1]
 |mix k xs=>ext a;let(vs,h1,_):=h;show#[_,vs,h1]
def
BH.nh(R:BH K φ G H)(h:LV φ G a):H a≠J:=by
 let(n,c,k,e,b,rfl):=h
 let(d,f,q):=R.has e b
 simp_all
end
@[simp]def vk:Y->Kd->jp
  |0,_=>O'
  |1,.l=>O'
  |_,_=>J'
@[simp]def L4:U (O D)->A8
  |[]=>Z []
  |o::r=>Zz o (L4 r)
@[simp]def tr(m:Y)(G:Gh):Y->IV->O D
  |_,.val d=>Z d
  |f+1,.cel n=>match G[n]? with
   |some (.dat k a)=>if vk m k=J' then Z (.U a k)else J
   |some (.mix k a)=>if vk m k=J' then(L4 (a.j (tr m G f))).j λl=>.U l k else J
   |_=>J
  |_,_=>J
@[simp]def D5(m:Y)(G:Gh):IV->Sl
  |.val d=>.u d
  |.no=>.no
  |.exc c=>.exc c
  |.cel n=>match tr m G 3 (.ϋ n)with
   |some d=>.u d
   |none=>match G[n]? with
    |some (.dat k a)=>if vk m k=J' then .no else .jk a k
    |_=>.no
@[simp]def vw(m:Y)(s:IS):VE:=s.1.j (D5 m s.2)
def NW(m:Y)(φ:Y->Ac)(G:Gh):Fb:=λa=>∃n c k,G[n]?=Z c/\c.kd=Z k/\vk m k=O'/\φ n=a
mutual
/-- no container within of a kind that m reads as data -/
def BM(m:Y):D->jp
 |.lst a k=>!vk m k&&CT m a
 |.tup a=>CT m a
 |.non=>J'
 |.bl _=>J'
 |.int _=>J'
 |.str _=>J'
 |.ty _=>J'
def CT(m:Y):U D->jp
 |[]=>J'
 |x::a=>BM m x&&CT m a
end
variable {K:Am}{G:Gh}{s:IS}{m:Y}{B:Fb}
def
NW.lv(h:NW m φ G a):LV φ G a:=let⟨n,c,k,h1,h2,_,b⟩:=h;#[n,c,k,h1,h2,b]
def
vK:∀{f:Y}{x:IV}{d:D},tr m G f x=Z d->MY (un x)=MY d
 |f,.val d,_,h=>by erw[tr]at h;ext h;rfl
 |0,.cel n,_,h=>by erw[tr]at h;cases h
 |f+1,.cel n,d,h=>by
  unfold tr at h
  split at h
  .split at h<;>ext h;rfl
  .let(_,h):=Cy h
   let(l,_,rfl):=Cd.mp h;rfl
  .cases h
 |f,.no,_,h=>by erw[tr]at h;cases h
 |f,.exc _,_,h=>by erw[tr]at h;ext h
def
cr{f:Y}:∀{xs:U IV}{a:U D},L4 (xs.j (tr m G f))=Z a->Jv (xs.j un)=Jv a
 |[],_,h=>by ext h;rfl
 |[x],_,h=>by
  let(d,r,h1,h2,rfl):=Hn h
  ext h2;rfl
 |x::y::r,_,h=>by
  let(d,l,h1,h2,rfl):=Hn h
  let(c,e,g,b,rfl):=Hn h2
  erw[AT,Jv,vK h1,cr b]
def
vM{f:Y}{xs:U IV}{b:U D}{k:Kd}(h:L4 (xs.j (tr m G f))=Z b):CO K k a (xs.j un) vs=CO K k a b vs:=by
 ext k<;>erw[CO,cr h]
def
BH.nnv(R:BH K φ G H){n:Y}{c:Cl}{k:Kd}(e:G[n]?=Z c)(a:c.kd=Z k)(d:vk m k=J'):¬ NW m φ G (φ n):=λ⟨j,f,g,h1,h2,b,h⟩=>by
 have:=R.inj j n f c g k h1 e h2 a h
 subst this
 rw[e]at h1;ext h1
 rw[a]at h2;ext h2
 rw[d]at b;ext b
open J in
def
Tl(R:BH K φ G H):∀{f:Y}{x:IV}{d:D}{v:V},tr m G f x=Z d->Bn K φ G.a (LV φ G) H x v->Av K (NW m φ G) H d v
 |f,.val d,_,v,h,q=>by erw[tr]at h;ext h;show Av.nw q λa g=>.S g.lv
 |0,.cel n,_,_,h,_=>by erw[tr]at h;cases h
 |f,.no,_,_,h,_=>by erw[tr]at h;cases h
 |f,.exc _,_,_,h,_=>by erw[tr]at h;cases h
 |f+1,.cel n,d,v,h,q=>by
  let(_,rfl):=q
  unfold tr at h
  split at h
  .next k c e=>
   let(i,h):=Cy h
   ext h
   let(b,h1,h2):=R.Ξ n _ e
   show#[_,b,rfl,.of (R.nnv e rfl i) h1,h2.nw λa g=>.S g.lv]
  .next k c e=>
   let(i,h):=Cy h
   let(l,j,rfl):=Cd.mp h
   let(b,h1,h2):=R.Ξ n _ e
   rw[vM j]at h1
   apply#[_,b,rfl,.of (R.nnv e rfl i) h1,?_]
   let all:∀{c:U IV} {b:U V} {l:U D},Paired (Bn K φ G.a (LV φ G) H) c b->L4 (c.j (tr m G f))=Z l->Ad K (NW m φ G) H l b:=by
    intro c b l h
    induction h generalizing l with
    |nil=>intro e;ext e;show Ad.Ϝ
    |cons q t o=>
     intro e
     let(d,r,p,s,rfl):=Hn e
     show Ad.Η (Tl R p q) (o s)
   show all h2 j
  .cases h
def
vN{k:Kd}{b:Ac}{ys:U D}{ws:U V}(h:CO K k a xs vs=CO K k' b ys ws):vk m k=vk m k':=by
 ext k<;>ext k'<;>first|rfl|cases h|(cases m with|zero=>rfl|succ j=>ext j<;>rfl)
mutual
theorem Av.up(R:BH K φ G H)(sm:Aj H H'):∀(d:D)(v:V),BM m d=J'->Av K (λa=>NW m φ G a\/B a) H' d v->Av K (λa=>LV φ G a\/B a) H' d v
 |.non,_,_,h=>by simpa only[Av]using h
 |.bl _,_,_,h=>by simpa only[Av]using h
 |.int _,_,_,h=>by simpa only[Av]using h
 |.str _,_,_,h=>by simpa only[Av]using h
 |.ty _,_,_,h=>by simpa only[Av]using h
 |.tup g,v,b,h=>by
  erw[BM]at b
  erw[Av]at h ⊢
  let(a,f,e,q,r):=h
  show#[a,f,e,q,Ad.up R sm g f b r]
 |.lst g k,v,b,h=>by
  erw[BM,C2,LS]at b
  erw[Av]at h ⊢
  let(a,f,e,q,r):=h
  apply#[a,f,e,?_,Ad.up R sm g f b.2 r]
  rcases q with⟨n,q⟩|q
  .apply .S #[λz=>z.Ζ (λ⟨j,c,l,h1,h2,p⟩=>n (.S #[j,c,l,h1,h2,?_,p])) λz=>n (.τ z),q]
   let(s,t,z):=R.has h1 h2
   let i:=sm _ _ z
   rw[p]at i
   rcases q with q|⟨o,q⟩
   .rw[i]at q;rw[vN (Fc q)];show b.1
   .rw[i]at q;ext l<;>ext q
  .show .τ q
theorem Ad.up(R:BH K φ G H)(sm:Aj H H'):∀(xs:U D)(vs:U V),CT m xs=J'->Ad K (λa=>NW m φ G a\/B a) H' xs vs->Ad K (λa=>LV φ G a\/B a) H' xs vs
 |[],_,_,h=>by simpa only[Ad]using h
 |x::xs,vs,b,h=>by
  erw[CT,C2]at b
  erw[Ad]at h ⊢
  let(v,r,e,q,t):=h
  show#[v,r,e,Av.up R sm x v b.1 q,Ad.up R sm xs r b.2 t]
end
def
cu{i:Y}{b:Kd}{a:O Ac}:(vw m s)[i]?≠Z (Sl.χ xs b a):=λh=>by
 erw[vw,DF]at h
 cases e:s.1[i]? with
 |none=>rw[e]at h;cases h
 |some x=>
  rw[e]at h
  unfold D5 at h
  grind
def
Tn(h:Nf (NW m φ s.2) (vw m s) I a):NW m φ s.2 a:=h.Ζ id λ⟨_,_,_,_,h,_⟩=>(cu h).Ζ
open J in
def
BI.vw(R:BI K φ s I H):By K (NW m φ s.2) H (vw m s) I H:=by
 apply#[by erw[Internal.vw,Bu];show R.Ϫ,Aj.ξ H,λa h=>R.g.nh h.lv,λi u e=>?_,λi j o w b y _ _ a h=>(cu h).Ζ]
 erw[Internal.vw,DF]at e
 let(x,r,e):=Cd.mp e
 subst e
 rcases R.slot i x r with rfl|⟨v,l,q⟩
 .trivial
 .cases x with
  |no=>show q.Ζ
  |val d=>show#[v,l,Av.nw q λa f=>.S (Tn f).lv]
  |exc c=>let(a,C,rfl,h1,h2):=q;show#[a,C,l,h1,h2]
  |cel n=>
   cases ht:tr m s.2 3 (.ϋ n)with
   |some d=>
    let z:D5 m s.2 (.ϋ n)=.u d:=by unfold D5;dsimp only;rw[ht]
    rw[z];show#[v,l,(Tl R.g ht q).nw λa f=>.S (Tn f)]
   |none=>
    let(_,rfl):=q
    let z:D5 m s.2 (.ϋ n)=(match s.2[n]? with
     |some (.dat k o)=>if vk m k=J' then .no else .jk o k
     |_=>.no):=by unfold D5;dsimp only;rw[ht]
    rw[z]
    split
    .next k o e=>
     split
     .trivial
     .next p=>
      let p:vk m k=O':=by exists p
      let(t,h1,h2):=R.g.Ξ n _ e
      show#[_,t,l,#[#[n,_,k,e,rfl,p,rfl],by rw[h1];show λz=>nomatch z],.S h1,h2.nw λa f=>.S (Tn f).lv]
    .trivial
end
@[simp]def jO(m:Y)(o:O D):O D:=o.L λd=>if BM m d=J' then Z d else J
@[simp]def jL(m:Y)(o:A8):A8:=o.L λd=>if CT m d=J' then Z d else J
def jE(m:Y)(f:AB)(s:IS):O D:=jO m (f (vw m s))
def jG(m:Y)(f:VE->A8)(s:IS):A8:=jL m (f (vw m s))
def jT(m:Y)(t:VE->O jp)(s:IS):O jp:=t (vw m s)
def tJ(K:Am)(g:IS->O D):TE:=λc H Q=>∃b s d,BI K b s c H/\g s=Z d/\∀v a,Aj H a->Av K (LV b s.2) a d v->Q v a
def NC(fl:Kd)(K:Am)(g:IS->A8):TE:=λh H Q=>∃e s d,BI K e s h H/\g s=Z d /\
 ∀a f c,Aj H c->H a=J->c a=Z (CO K fl a d f)->Ad K (λb=>LV e s.2 b\/b=a) c d f->Q (.C a) c
def cw(K:Am)(g:IS->O jp):TT:=λc H Q=>∃d s b,BI K d s c H/\g s=Z b/\∀a,Aj H a->Q b a
def Fq(K:Am)(g:IS->O Y):TE:=λb H Q=>∃a s n,BI K a s b H/\g s=Z n/\(n<s.2.a->Q (.C (a n)) H)
def DA(K:Am)(g:IS->O (IV×Gh)):TE:=λc H Q=>∃d s r,BI K d s c H/\g s=Z r /\
 ∀a v b,BI K a (s.1,r.2) c b->Bn K a r.2.a (LV a r.2) b r.1 v->Go d s.2 H a r.2 b->Q v b
def GZ(K:Am)(g:IS->O (U IV)):TA:=λe H Q=>∃a s c,BI K a s e H/\g s=Z c /\
 ∀d b,Aj H b->Paired (Bn K a s.2.a (LV a s.2) b) c d->Q d b
def To(K:Am)(g:IS->O IV):TE:=λc H Q=>∃a s x,BI K a s c H/\g s=Z x /\
 ∀v b,Aj H b->Bn K a s.2.a (LV a s.2) b x v->Q v b
variable {e:Expr}{f:AB}{ff:VE->A8}{t:VE->O jp}{g:IS->O D}
def
vO(m:Y)(h:∀M H0,JE X e (tD X.K M H0 f)):JE X e (tJ X.K (jE m f)):=#[λb st i H Q t j=>by
 let(p,s,d,R,e,q):=j
 let(r,k,e):=BZ.mp e
 split at e
 .next l=>ext e;show(h _ _).h b st i H Q t #[_,_,R.vw,k,λv n sm o=>q v n sm ((Av.up (B:=λ_=>False) R.g sm _ _ l (o.nw λa c=>.S (.S (c.resolve_right id)))).nw λa c=>.S (.S c))]
 .cases e]
def
cy(m:Y)(h:∀M H0,JE X e (Fi fl X.K M H0 ff)):JE X e (NC fl X.K (jG m ff)):=#[λc st d H Q t f=>by
 let(o,s,p,R,e,q):=f
 let(r,i,e):=BZ.mp e
 split at e
 .next j=>
  ext e
  show(h _ _).h c st d H Q t #[_,_,R.vw,i,λa k l sm h1 h2 n=>q a k l sm h1 h2 (Ad.up R.g sm _ _ j (n.nw λb hb=>.S (hb.imp .S id)))]
 .cases e]
def
vP(m:Y)(h:∀M H0,JT X e (BU X.K M H0 t)):JT X e (cw X.K (jT m t)):=#[λa st c H Q g d=>by
 let(f,s,b,R,e,q):=d
 show(h _ _).h a st c H Q g #[_,b,R.vw,e,q]]
end
variable {K:Am}{G:Gh}{s:IS}
def
BI.put(R:BI K φ s I H){x:IV}{v:V}(i:Y)(h:Bn K φ s.2.a (LV φ s.2) H x v):BI K φ (s.1.Ε i x,s.2) (I.Ε i (Z v)) H:=by
 apply#[by simp[R.len],R.g,λj y e=>?_]
 by_cases a:i=j
 .subst a
  let b:i<s.1.a:=by have:=(BR.mp e).1;exists this
  rw[Iv b]at e
  ext e
  show .τ #[v,by rw[Iv (R.Ϫ ▸ b)];rfl,h]
 .rw[Ei a]at e
  rw[Ei a]
  show R.ϣ j y e
@[simp]def D6(φ:Y->Ac)(n:Y)(a:Ac):Y->Ac:=λj=>if j=n then a else φ j
def
cz{c:Cl}{k:Kd}(i:c.kd=Z k){b:Ac}:LV (D6 φ G.a a) (G++[c]) b↔LV φ G b\/b=a:=by
 constructor
 .intro zQ;let(n,f,g,e,d,hb):=zQ
  rw[Km]at e
  split at e
  .next h=>
   have:n≠G.a:=B6 h
   erw[D6,if_neg this]at hb
   show .S #[n,f,g,e,d,hb]
  .next h=>
   cases l:n-G.a with
   |zero=>
    have:n=G.a:=∅
    erw[D6,if_pos this]at hb
    show .τ hb.Ρ
   |succ j=>rw[l]at e;ext e
 .rintro(⟨n,f,g,e,d,hb⟩|rfl)
  .show#[n,f,g,FC ((BR.mp e).1) ▸ e,d,by erw[D6,if_neg (B6 ((BR.mp e).1))];show hb]
  .show#[G.a,c,k,by rw[GN (A9 _),Nat.sub_self];rfl,i,by erw[D6,if_true]]
def
Go.new(sm:Aj H H'){c:Cl}{k:Kd}(d:H a=J)(f:c.kd=Z k):Go φ G H (D6 φ G.a a) (G++[c]) H':=by
 apply#[λn g=>by erw[D6,if_neg (B6 g)],by simp,λb o e _=>sm b o e,λb hb=>?_]
 rcases(cz f).mp hb with hb|hb
 .show .S hb
 .rw[hb];show .τ d
def
BH.new(R:BH K φ G H)(sm:Aj H H'){c:Cl}{k:Kd}(g:H a=J)(t:c.kd=Z k)(A:Tk K (D6 φ G.a a) (G++[c]).a (LV (D6 φ G.a a) (G++[c])) H' a c):BH K (D6 φ G.a a) (G++[c]) H':=by
 apply#[λn d e=>?_,λn m u v k1 k2 w x h1 h2 h=>?_]
 .rw[Km]at e
  split at e
  .next b=>
   let q:=R.Ξ n d e
   let z:D6 φ G.a a n=φ n:=by erw[D6,if_neg (B6 b)]
   rw[z]
   cases d with
   |dead=>trivial
   |dat k y=>let(i,h1,h2):=q;show#[i,sm _ _ h1,Ad.ώ (Go.new sm g t).st _ _ h2]
   |mix k y=>let(i,h1,h2):=q;show#[i,sm _ _ h1,Paired.mapP h2 λ_ _ q=>Bn.go (Go.new sm g t) q]
  .next b=>
   cases l:n-G.a with
   |zero=>
    let b:n=G.a:=∅
    simp_all
   |succ j=>rw[l]at e;ext e
 .let at_:∀{n:Y} {d:Cl} {o:Kd},(G++[c])[n]?=Z d->d.kd=Z o->(n<G.a/\G[n]?=Z d/\D6 φ G.a a n≠a)\/n=G.a:=λ{n d o} e p=>by
   rw[Km]at e
   split at e
   .next b=>
    apply .S #[b,e,?_]
    erw[D6,if_neg (B6 b)]
    intro z
    show R.nh #[n,d,o,e,p,z] g
   .next b=>
    cases l:n-G.a with
    |zero=>show .τ ∅
    |succ j=>rw[l]at e;ext e
  rcases at_ w h1 with⟨b,r,z1⟩|b<;>rcases at_ x h2 with⟨f,s,z2⟩|f
  .erw[D6,if_neg (B6 b),if_neg (B6 f)]at h
   show R.inj n m u v k1 k2 r s h1 h2 h
  .show(z1 (by rw[h,f];erw[D6,if_true])).Ζ
  .show(z2 (by rw[<- h,b];erw[D6,if_true])).Ζ
  .rw[b,f]
def
vQ{n:Y}{c c':Cl}{k:Kd}(e:G[n]?=Z c)(h:c.kd=Z k)(f:c'.kd=Z k'){b:Ac}:LV φ (G.Ε n c') b↔LV φ G b:=by
 constructor
 .intro zQ;let(j,g,k1,d,h1,hb):=zQ
  by_cases a:n=j
  .subst a;show#[n,c,k,e,h,hb]
  .rw[Ei a]at d;show#[j,g,k1,d,h1,hb]
 .intro zQ;let(j,g,k1,d,h1,hb):=zQ
  by_cases a:n=j
  .subst a;show#[n,c',k',by rw[Iv ((BR.mp e).1)],f,hb]
  .show#[j,g,k1,by rw[Ei a];show d,h1,hb]
def
BH.chg(R:BH K φ G H){n:Y}{c c':Cl}{k:Kd}{u:HO}(e:G[n]?=Z c)(i:c.kd=Z k)(p:c'.kd=Z k')
  (v:∀L N H',Go φ G H φ (G.Ε n c') H'->H' (φ n)=Z u->L=(G.Ε n c').a->N=LV φ (G.Ε n c')->Tk K φ L N H' (φ n) c'):
  BH K φ (G.Ε n c') (AX H (φ n) u)/\Go φ G H φ (G.Ε n c') (AX H (φ n) u):=by
 let go:Go φ G H φ (G.Ε n c') (AX H (φ n) u):=by
  apply#[λ_ _=>rfl,by simp,λa o s z=>?_,λb hb=>.S ((vQ e i p).mp hb)]
  let ne:a≠φ n:=by
   rintro rfl
   rcases z with z|z|z
   .show z #[n,c,k,e,i,rfl]
   .show z
   .let(t,l,q):=R.has e i
    rw[s]at q;ext q
    rw[YM]at z;ext z
  rw[Zt ne];show s
 apply#[#[λj f d=>?_,λj m f r k1 k2 d w h1 h2 h=>?_],go]
 .by_cases g:n=j
  .subst g
   rw[Iv (BR.mp e).1]at d
   ext d
   show v _ _ _ go Z5 rfl rfl
  .rw[Ei g]at d
   let q:=R.Ξ j f d
   cases f with
   |dead=>trivial
   |dat k2 t=>
    let(l,h1,h2):=q
    show#[l,by rw[Zt λz=>g (R.inj j n _ _ _ _ d e rfl i z).Ρ];show h1,Ad.ώ go.st _ _ h2]
   |mix k2 t=>
    let(l,h1,h2):=q
    show#[l,by rw[Zt λz=>g (R.inj j n _ _ _ _ d e rfl i z).Ρ];show h1,Paired.mapP h2 λ_ _ q=>Bn.go go q]
 .let at_:∀{j:Y} {f:Cl} {k1:Kd},(G.Ε n c')[j]?=Z f->f.kd=Z k1->∃r k2,G[j]?=Z r/\r.kd=Z k2:=λ{j f k1} d h1=>by
   by_cases g:n=j
   .subst g;show#[c,k,e,i]
   .rw[Ei g]at d;show#[f,k1,d,h1]
  let(x,l1,y,A):=at_ d h1
  let(B,C,E,F):=at_ w h2
  show R.inj j m x B l1 C y E A F h
end
@[simp]def xD(o:O D)(s:IS):O (IV×Gh):=o.j λd=>(.u d,s.2)
@[simp]def xF(fl:Kd)(o:A8)(s:IS):O (IV×Gh):=o.j λl=>(.u (.U l fl),s.2)
@[simp]def xC(fl:Kd)(o:A8)(s:IS):O (IV×Gh):=o.j λl=>(.ϋ s.2.a,s.2++[.ϕ fl l])
@[simp]def xP(o:O Y)(s:IS):O (IV×Gh):=o.L λn=>if n<s.2.a then Z (.ϋ n,s.2)else J
@[simp]def Cw(s:IS)(i:Y):O Y:=match s.1[i]? with
  |some (.cel n)=>Z n
  |_=>J
@[simp]def H9(c f:Ae)(s:IS)(o:O Y):O Y:=o.L λn=>match s.2[n]? with
  |some (.mix (.i ns a) b)=>if a=c then match(ns.zip b).X f with
   |some (.cel j)=>Z j
   |_=>J
   else J
  |_=>J
variable {e:Expr}{g:IS->O D}{gf:IS->A8}{g1:IS->O IV}
def
Tp(h:JE X e (tJ X.K g)):JE X e (DA X.K λs=>xD (g s) s):=#[h.h.θ λi H Q b=>by
 let(a,s,r,R,e,q):=b
 let(d,hd,rfl):=Cd.mp e
 show#[a,s,d,R,hd,λv c sm f=>q a v c (R.κ sm) f (Go.κ sm)]]
def
vR(h:JE X e (NC fl X.K gf)):JE X e (DA X.K λs=>xF fl (gf s) s):=#[h.h.θ λm H Q d=>by
 let(c,s,r,R,e,q):=d
 let(l,f,rfl):=Cd.mp e
 apply#[c,s,l,R,f,λa i j sm h1 h2 k=>q c _ j (R.κ sm) ?_ (Go.κ sm)]
 show#[a,i,rfl,.of (λz=>R.g.nh z h1) h2,k.nw λb hb=>.S (.S hb)]]
def
vS(h:JE X e (NC fl X.K gf)):JE X e (DA X.K λs=>xC fl (gf s) s):=#[h.h.θ λm H Q c=>by
 let(d,s,r,R,e,q):=c
 let(l,f,rfl):=Cd.mp e
 apply#[d,s,l,R,f,λa i j sm h1 h2 k=>?_]
 apply q _ _ j (R.go (R.g.new sm h1 rfl #[i,h2,k.nw λb hb=>.S ((cz rfl).mp hb)]) (Go.new sm h1 rfl)) #[by simp,by erw[D6,if_true]] (Go.new sm h1 rfl)]
def
cA(h:JE X e (Fq X.K gp)):JE X e (DA X.K λs=>xP (gp s) s):=#[h.h.θ λf H Q c=>by
 let(a,s,r,R,e,q):=c
 let(n,d,e):=BZ.mp e
 split at e
 .next b=>ext e;show#[a,s,n,R,d,λb=>q a _ H R #[b,rfl] (Go.κ (Aj.ξ H))]
 .cases e]
open J in
def
vT{i:Y}{x:Ae}(b:↥(NV X i x:8)):JE X (.ε x pos) (Fq X.K λs=>Cw s i):=#[(GQ b).θ λc H Q d=>by
 let(f,s,n,R,e,q):=d
 dsimp only at e
 unfold Cw at e
 split at e
 .next j g=>
  ext e
  rcases R.slot i _ g with z|⟨v,a,h,rfl⟩
  .cases z
  .apply#[.C (f n),?_,q h]
   cases z:c[i]? with
   |none=>rw[z]at a;cases a
   |some o=>rw[z]at a;ext a;rfl
 .cases e]
def
cB{K:Am}{φ:Y->Ac}{L:Y}{N:Fb}{H:Hp}{f:Ae}{x:IV}:∀{ns:U Ae}{xs:U IV}{vs:U V},Paired (Bn K φ L N H) xs vs->(ns.zip xs).X f=Z x->∃v,(ns.zip vs).X f=Z v/\Bn K φ L N H x v
 |[],_,_,_,e=>by simp at e
 |_::_,[],_,_,e=>by simp at e
 |n::ns,y::a,_,.cons q t,e=>by
  erw[HL,MP]at e ⊢
  cases hb:f==n with
  |true=>rw[hb]at e;ext e;show#[_,rfl,q]
  |false=>rw[hb]at e;show cB t e
open J in
def
cC{c f:Ae}{C:Ac}(d:nsIn X.K CJ c=Z (Z (.C C)))(i:EJ X.K C)(l:Bx X.K C f)(m:JE X o (Fq X.K gp))(hb:↑(FV o f X.G (An o X.G)=An o X.G)):JE X (.δ o f pos) (Fq X.K λs=>H9 c f s (gp s)):=#[(Yf m.h hb).θ λz H Q p=>by
 let(r,s,n,R,e,q):=p
 let(j,t,w):=BZ.mp e
 clear e
 split at w
 .next ns A B u=>
  split at w
  .next a=>
   subst a
   split at w
   .next k x=>
    ext w
    apply#[r,s,j,R,t,λE=>?_]
    let(G,h1,h2):=R.g.Ξ j _ u
    let(v,y,b,rfl):=cB h2 x
    erw[CO,JJ d]at h1
    show#[_,C,_,_,_,rfl,.S h1,i,l,y,q b]
   .cases w
  .cases w
 .cases w]
def
vU(h:JE X e (tJ X.K g)):JE X e (To X.K λs=>(g s).j .u):=#[h.h.θ λi H Q a=>by
 let(b,s,r,R,e,q):=a
 let(d,hd,rfl):=Cd.mp e
 show#[b,s,d,R,hd,λv c sm f=>q v c sm f]]
def
vV(h:JE X e (Fq X.K gp)):JE X e (To X.K λs=>(gp s).j .ϋ):=#[h.h.θ λf H Q a=>by
 let(b,s,r,R,e,q):=a
 let(n,c,rfl):=Cd.mp e
 show#[b,s,n,R,c,λd=>q _ H (Aj.ξ H) #[d,rfl]]]
def
vW:JA X [] (GZ X.K λ_=>Z []):=#[Bq.θ λb H Q a=>by
 let(c,s,d,R,e,q):=a
 ext e
 show q [] H (Aj.ξ H) .Ϝ]
def
vX(h:JE X e (To X.K g1))(d:JA X es (GZ X.K ga))(f:↥(AL (e::es) X.G=(O',An e X.G)::AL es X.G:7)):JA X (e::es) (GZ X.K λs=>Zz (g1 s) (ga s)):=#[(Z0 h.h d.h f).θ λl H Q g=>by
 let(a,s,m,R,e,q):=g
 let(x,r,i,j,rfl):=Hn e
 show#[a,s,x,R,i,λv n b h1=>#[a,s,r,R.κ b,j,λo k c h2=>q _ k (b.J c) (.Η (h1.go (Go.κ c)) h2)]]]
end
inductive RI where
 |fail|next(s:IS)|brk (s:IS)|cont (s:IS)|ret (x:IV) (G:Gh)
abbrev A4:=IS->RI
def Tq(K:Am)(φ:Y->Ac)(G:Gh)(H:Hp)(d:IS)(Q:St->Hp->V'):V':=∀a b c,BI K a d b c->Go φ G H a d.2 c->Q b c
def CU(K:Am)(φ:Y->Ac)(G:Gh)(H:Hp)(D:Ends):RI->V'
 |.fail=>False
 |.next b=>Tq K φ G H b D.nx
 |.brk b=>Tq K φ G H b D.bk
 |.cont b=>Tq K φ G H b D.ct
 |.ret x c=>∀a v d,BH K a c d->Bn K a c.a (LV a c) d x v->Go φ G H a c d->D.rt v d
def tK(K:Am)(g:A4):TS:=λD b H=>∃a s,BI K a s b H/\CU K a s.2 H D (g s)
set_option backward.eqns.nonrecursive true in
@[simp]def ZS(a:RI)(g:A4):RI:=match a with
  |.next s=>g s
  |r=>r
@[simp]def ED(c:O jp)(a b:RI):RI:=match c with
  |some J'=>a
  |some O'=>b
  |none=>.ό
@[simp]def C5(i:Y)(o:O (IV×Gh))(s:IS):RI:=match o with
  |some r=>.β (s.1.Ε i r.1,r.2)
  |none=>.ό
@[simp]def FJ(o:O (IV×Gh)):RI:=match o with
  |some r=>.Ϻ r.1 r.2
  |none=>.ό
@[simp]def Ia(o:O (IV×Gh))(s:IS):RI:=match o with
  |some r=>.β (s.1,r.2)
  |none=>.ό
def G4(i:Y)(g:A4):U D->A4
 |[],s=>.β s
 |d::b,s=>match g (s.1.Ε i (.u d),s.2)with
  |.next a=>G4 i g b a
  |.cont a=>G4 i g b a
  |.brk a=>.β a
  |r=>r
@[simp]def KD(i:Y)(g:A4)(o:A8)(s:IS):RI:=match o with
  |some a=>G4 i g a s
  |none=>.ό
@[simp]def JL:D->A8
  |.lst a .l=>Z a
  |_=>J
variable {K:Am}{φ1:Y->Ac}{G G1:Gh}{H1:Hp}{D:Ends}{r:RI}
def
CU.from(g:Go φ G H φ1 G1 H1)(h:CU K φ G H D r):CU K φ1 G1 H1 D r:=by
 cases r with
 |fail=>show h
 |next s=>show λa b c R go=>h a b c R (g.J go)
 |brk s=>show λa b c R go=>h a b c R (g.J go)
 |cont s=>show λa b c R go=>h a b c R (g.J go)
 |ret x e=>show λa v c R d go=>h a v c R d (g.J go)
end
variable {st:AE}{AF a b:U AE}{g g1 g2:A4}{gd':IS->O D}{c:Expr}{t:IS->O jp}{e:Expr}{x:Ae}
def
vY:JB X [] (tK X.K λs=>.β s):=#[FQ.θ λD a H ⟨b,s,R,q⟩=>q b a H R (Go.κ (Aj.ξ H))]
def
cD(h1:JS X st (tK X.K g1))(h2:JB X AF (tK X.K g2)):JB X (st::AF) (tK X.K λs=>ZS (g1 s) g2):=#[(XP h1.h h2.h).θ λD i H d=>by
 let(e,s,R,q):=d
 dsimp only at q
 apply#[e,s,R,?_]
 cases a:g1 s with
 |fail=>rw[a]at q;show q
 |next b=>rw[a]at q;show λc f j g go=>#[c,b,g,CU.from go q]
 |brk b=>rw[a]at q;show q
 |cont b=>rw[a]at q;show q
 |ret x k=>rw[a]at q;show q]
def
vZ:JS X st (tK X.K λ_=>.ό):=#[Hg.θ λD a H ⟨b,s,R,q⟩=>q]
def
v4(e:JT X c (cw X.K t))(f:JB X a (tK X.K g1))(hb:JB X b (tK X.K g2)):JS X (.If c a b pos) (tK X.K λs=>ED (t s) (g1 s) (g2 s)):=#[(OJ e.h f.h hb.h).θ λD i H g=>by
 let(d,s,R,q):=g
 dsimp only at q
 cases ht:t s with
 |none=>rw[ht]at q;show q.Ζ
 |some k=>
  rw[ht]at q
  apply#[d,s,k,R,ht,λj sm=>?_]
  cases k with
  |true=>show Jt #[d,s,R.κ sm,CU.from (Go.κ sm) q]
  |false=>show Ju #[d,s,R.κ sm,CU.from (Go.κ sm) q]]
def
cE{i:Y}(c:X.N.ι)(d:JE X e (DA X.K gx))(f:↑(X.N[i]?=Z x))(g:↥(Loc X.G.Γ x:3))(j:↑(Ej e (Z (.ε x pos')) pos.ϥ X.G=Ax O'))(k:↥(X.fn x=J'\/X.G.Γ.υ.X x=Z .ϓ:4)):
  JS X (.Ϡ [.ε x pos'] e pos) (tK X.K λs=>C5 i (gx s) s):=#[(MD c f g d.h j k).θ λD t H l=>by
 let(m,s,R,q):=l
 dsimp only at q
 cases a:gx s with
 |none=>rw[a]at q;show q.Ζ
 |some r=>rw[a]at q;show#[m,s,r,R,a,λb v n o p go=>q b _ n (o.put i p) go]]
def
v5(c:JE X e (DA X.K gx)):JS X (.Return (Z e) pos) (tK X.K λs=>FJ (gx s)):=#[(OI c.h).θ λD l H d=>by
 let(f,s,R,q):=d
 dsimp only at q
 cases a:gx s with
 |none=>rw[a]at q;show q.Ζ
 |some r=>rw[a]at q;show#[f,s,r,R,a,λb v i j k go=>q b v i j.g k go]]
def
v6(c:JE X e (DA X.K gx))(d:↑(Ej e J pos.ϥ X.G=Ax O')):JS X (.Expr e pos) (tK X.K λs=>Ia (gx s) s):=#[(OH c.h d).θ λD k H f=>by
 let(g,s,R,q):=f
 dsimp only at q
 cases a:gx s with
 |none=>rw[a]at q;show q.Ζ
 |some r=>rw[a]at q;show#[g,s,r,R,a,λb v i j l go=>q b _ i j go]]
def cF(K:Am)(f:IS->A8):TI:=λd H R=>∃b s c,BI K b s d H/\f s=Z c/\∀e a,Aj H a->Kk K (λ_=>False) (LV b s.2) a e c->R e a
def
v7{t:Expr}(h:JE X e (tJ X.K gd')):JI X t e (cF X.K λs=>(gd' s).L JL):=#[(RJ h.h).θ λG H N u=>by
 let(m,s,F,R,e,q):=u
 let(d,hd,e):=BZ.mp e
 unfold JL at e
 split at e
 .cases e
  apply#[m,s,_,R,hd,λv n A B=>?_]
  let(a,c,C,f,o):=B
  let p:∀j g,Step (λ_=>False) (LV m s.2) j n g->BV X.K g a c:=λj g S=>by
   rcases f with⟨E,f⟩|⟨L,z,f⟩
   .show .S (f.ώ S (.S E))
   .cases z;show f.sq
  apply#[a,C,#[c,p _ _ Step.ξ],q _ n A λj g S i=>?_]
  let b:=p _ _ S
  apply#[λd k=>?_,λk=>#[c,b,by rw[k,o.a];show A9 _]]
  let(w,r,l):=(Ad.ώ S _ _ o).Ι k
  apply#[#[c,w,b,r],λx M y=>?_]
  let(rfl,y):=y
  have:=y c b
  rw[r]at this
  ext this
  show#[Aj.ξ _,l]
 .cases e]
open J in
def
v8{p:U AE}{f:IS->A8}{i:Y}{tp:Aw}(hp:PassesOwn (Ag X.γ X.w) X.A X.G X.xe)(hc:X.Ϭ=J')(hi:JI X (.ε x tp) iter (cF X.K f))(hN:X.N.ι)(hb:JB X p (tK X.K g))
  (P:↑(X.N[i]?=Z x)) (hx:↥(Loc X.G.Γ x:3)) (hf:↥(X.fn x=J'\/X.G.Γ.υ.X x=Z .ϓ:4))
  (hs:↥(∀x,FS iter X.G x=Ax x:6)):JS X (.For (.ε x tp) iter p [] pos) (tK X.K λs=>KD i g (f s) s):=#[(X1 hp hc hi.h (ON hN P hx hf) hb.h hs).θ λY' I H z0=>by
 let(L,s,R,q):=z0
 dsimp only at q
 cases r:f s with
 |none=>rw[r]at q;show q.Ζ
 |some j=>
  rw[r]at q
  apply#[L,s,j,R,r,λF Q s1 ok=>?_]
  apply#[λn m t u=>m=j.a-n/\n<=j.a/\∃a c,BI X.K a c t u/\Go L s.2 Q a c.2 u/\CU X.K a c.2 u Y' (G4 i g (j.Ν n) c),#[j.a,by simp,Fz _,L,s,R.κ s1,Go.κ (Aj.ξ Q),CU.from (Go.κ s1) q],?_]
  intro n m t u zQ;let(rfl,hle,a,c,Rn,gn,k):=zQ
  let(T,S):=ok _ _ gn.st n
  by_cases l:n<j.a
  .let(go,y):=T j[n] (Cc l)
   rw[MV l]at k
   erw[G4]at k
   apply .τ #[go,λG B=>n+1<=j.a/\∃a c,BI X.K a c G B/\Go L s.2 Q a c.2 B/\CU X.K a c.2 B Y' (G4 i g (j.Ν (n+1)) c),λG B z=>#[j.a-(n+1),by show Nat.sub_succ_lt_self j.a n l,rfl,z],λx B yl=>?_]
   let(s3,hd):=y x B yl
   let E:Go a c.2 u a c.2 B:=Go.κ s3
   apply#[a,(c.1.Ε i (.u j[n]),c.2),(Rn.κ s3).put i hd,?_]
   cases o:g (c.1.Ε i (.u j[n]),c.2)with
   |fail=>rw[o]at k;show k
   |next M=>rw[o]at k;show λd C W R2 b=>#[l,d,M,R2,gn.J (E.J b),CU.from (E.J b) k]
   |cont M=>rw[o]at k;show λd C W R2 b=>#[l,d,M,R2,gn.J (E.J b),CU.from (E.J b) k]
   |brk M=>rw[o]at k;show λd C W R2 b=>k d C W R2 (E.J b)
   |ret x G'=>rw[o]at k;show λd v W R2 hv b=>k d v W R2 hv (E.J b)
  .let e:n=j.a:=∅
   subst e
   rw[MU (A9 _)]at k
   show .S #[S rfl,k a t u Rn (Go.κ (Aj.ξ u))]]
end
abbrev FI:=U IV->Gh->O (IV×Gh)
def CV(K:Am)(F:FI):Sp:=λe H Q _=>∃b G d r,BH K b G H/\Paired (Bn K b G.a (LV b G) H) d e/\F d G=Z r /\
 ∀a v c,BH K a r.2 c->Bn K a r.2.a (LV a r.2) c r.1 v->Go b G H a r.2 c->Q v c
def Ee(a n:Y)(g:A4):FI:=λb G=>if b.a=a then
  match g (b++En (n-a) .no,G)with
  |.ret x c=>Z (x,c)
  |.next s=>Z (.u .Y,s.2)
  |_=>J
 else J
def
fi{a n:Y}{g:A4}{xs:U IV}{G:Gh}{r:RI}(h:xs.a=a):g (xs++En (n-a) .no,G)=r->Ee a n g xs G=match r with
  |.ret x b=>Z (x,b)
  |.next s=>Z (.u .Y,s.2)
  |_=>J:=λe=>by subst h e;show if_pos rfl
def
v9{K:Am}{G:Gh}{xs:U IV}(R:BH K φ G H)(h:Paired (Bn K φ G.a (LV φ G) H) xs vs)(n:Y):BI K φ (xs++En n .no,G) (vs.j Z++En n J) H:=by
 apply#[by simp[Nz h],R,λi x e=>?_]
 rw[Km]at e
 split at e
 .next a=>
  let(v,b,q):=bX h e
  show .τ #[v,by rw[FC (by simpa[<- (Nz h)]using a),DF,b];rfl,q]
 .rw[Kb]at e
  let(_,e):=Cy e
  ext e;show .S rfl
variable {P:AR}{w:Ai}{K:Am}{mg:BE}{base:Ak}{x qual nm:Ae}{st:AE}{f fn C:Ac}{fd:Cj}{N:U Ae}{k:Y}{g g0:A4}
def
cG(F:Jq K x qual st f fd)(S:Ff N ps (Zk st))(t:ps.a<=N.a)
  (hb:∀(b:Aa) (A:Af) (outer:U Env) (s:Ab) (H:Hp) (E:XK),AH k (A.Ϩ (Bj qual (Zk st) s.o.E.y f b)) ->
   JB (DE Bm P w K mg base N qual (Zk st) f b A outer s H E).nox (ZT st) (tK K g)):AW P w K mg base Bm (k+1) f fd ps (CV K (Ee ps.a N.a g)):=by
 apply F.ok S (λi H Q E h=>?_) (λb A outer s H i Q E u h=>?_)
 .let(n,G,o,r,R,e,a,q):=h
  let(j,a):=Cy a
  rw[<- Nz e];show j
 .let(n,G,o,r,R,e,a,q):=h
  apply#[_,(hb b A outer s H E u).h,?_]
  let(j,a):=Cy a
  rw[show GK N i=i.j Z++En (N.a-ps.a) J by unfold GK;rw[<- Nz e,j]]
  apply#[n,_,v9 R e (N.a-ps.a),?_]
  cases d:g (o++En (N.a-ps.a) .no,G)with
  |fail=>rw[d]at a;cases a
  |next p=>rw[d]at a;ext a;show λc y l m go=>q c .Y l m.g (by erw[Bn,Av]) go
  |brk p=>rw[d]at a;cases a
  |cont p=>rw[d]at a;cases a
  |ret x B=>rw[d]at a;ext a;show λc v l m z go=>q c v l m z go
def
wa(D:DI K mg nm st ps fn fd)(S:Ff N ps (Zk st))
  (hb:∀(a:Aa) (A:Af) (outer:U Env) (s:Ab) (H:Hp) (E:XK),AH k (A.Ϩ (Bj nm (Zk st) s.o.E.y fn a)) ->
   JB (DE Bm P w K mg base N nm (Zk st) fn a A outer s H E).nox (ZT st) (tK K g0)) (e:↑(g0=g)) (b:⇑(ps.a<=N.a)):AW P w K mg base Bm (k+1) fn fd ps (CV K (Ee ps.a N.a g)):=cG D.F S b (e ▸ hb)
def
wb(D:MI K C nm qual st ps fn fd)(S:Ff N ps (Zk st))
  (hb:∀(a:Aa) (A:Af) (outer:U Env) (s:Ab) (H:Hp) (E:XK),AH k (A.Ϩ (Bj qual (Zk st) s.o.E.y fn a)) ->
   JB (DE Bm P w K mg base N qual (Zk st) fn a A outer s H E).nox (ZT st) (tK K g0)) (e:↑(g0=g)) (b:⇑(ps.a<=N.a)):AW P w K mg base Bm (k+1) fn fd ps (CV K (Ee ps.a N.a g)):=cG D.F S b (e ▸ hb)
end
@[simp]def IU(F:FI)(o:O (U IV))(s:IS):O (IV×Gh):=o.L λa=>F a s.2
@[simp]def EE(c m:Ae):Cl->jp
  |.dat (.i ns a) _=>decide (a=c)&&!ns.contains m
  |.mix (.i ns a) _=>decide (a=c)&&!ns.contains m
  |_=>O'
@[simp]def FK(c m:Ae)(F:FI)(p:O Y)(o:O (U IV))(s:IS):O (IV×Gh):=p.L λn=>match s.2[n]? with
  |some cl=>if EE c m cl=J'/\n<s.2.a then o.L λa=>F (.ϋ n::a) s.2 else J
  |none=>J
@[simp]def KG(c:Ae)(F:FI)(o:O (U IV))(s:IS):O (IV×Gh):=o.L λa=>(F (.ϋ s.2.a::a) (s.2++[.mix (.i [] c) []])).L λr=>match r.1 with
  |.val .non=>Z (.ϋ s.2.a,r.2)
  |_=>J
@[simp]def F5(c f:Ae)(p:IS->O Y)(o:O (IV×Gh))(s:IS):RI:=match o with
  |some r=>match p (s.1,r.2)with
   |some n=>match r.2[n]? with
    |some (.mix (.i ns b) a)=>if b=c/\ns.a=a.a/\ns.a<1000 then .β (s.1,r.2.Ε n (.mix (.i (putN f ns) c) (DW f r.1 ns a)))else .ό
    |_=>.ό
   |none=>.ό
  |none=>.ό
variable {e:Expr}{p:Aw}{F:FI}{k n:Y}{fn C:Ac}{fd:Cj}{x c m f:Ae}{E:XK}
def
wc(G:AW X.γ X.w X.K X.mg X.φ CX k fn fd ps (CV X.K F))(j:AH k X.A)(l:Gl X x)(m:X.mg x=Z (.C fn))(n:HI X.K (.C fn)=J')(hb:Binds X.K fd ps [])(a:EK CX X E)
  (o:JA X (e::es) (GZ X.K ga)) (hz:↥(CA X x e es pos:9)):
  JE X (.Θ (.ε x p) (e::es) [] pos) (DA X.K λs=>IU F (ga s) s):=#[(ML G j l m n hb .Ϝ a o.h hz.d hz.s hz.p).θ λC H Q t=>by
 let(f,s,r,R,e,q):=t
 let(i,a,u):=BZ.mp e
 show#[f,s,i,R,a,λM L sm y=>#[f,s.2,i,r,R.g.κ sm,by rw[Du];show y,u,λb v z B c go=>q b v z (R.go B ((Go.κ sm).J go)) c ((Go.κ sm).J go)]]]
def
cH{K:Am}{G:Gh}{cl:Cl}(a:nsIn K CJ c=Z (Z (.C C)))(R:BH K φ G H)(e:G[n]?=Z cl)(h:EE c m cl=J'):∃d b,H (φ n)=Z (.ins C d b)/\b.X m=J:=by
 let q:=R.Ξ n cl e
 unfold EE at h
 split at h
 .erw[C2,decide_eq_true_eq,LS]at h
  let(rfl,h):=h
  let(f,h1,_):=q
  erw[CO,JJ a]at h1
  show#[_,_,h1,Ny h]
 .erw[C2,decide_eq_true_eq,LS]at h
  let(rfl,h):=h
  let(f,h1,_):=q
  erw[CO,JJ a]at h1
  show#[_,_,h1,Ny h]
 .cases h
def
cI(i:nsIn X.K CJ c=Z (Z (.C C))){Q:VK}(h:DA X.K (λs=>FK c m F (gp s) (ga s) s) I H Q):Jl C m (CV X.K F) [] E (Fq X.K gp) (GZ X.K ga) I H Q:=by
 let(a,s,r,R,e,q):=h
 let(n,j,e):=BZ.mp e
 split at e
 .next cl k=>
  let(l,e):=Cy e
  let(f,o,p):=BZ.mp e
  apply#[a,s,n,R,j,λt=>?_]
  let(u,w,h1,h2):=cH i R.g k l.1
  apply#[a n,u,w,rfl,.S h1,h2,a,s,f,R,o,λA B sm x=>#[a,s.2,.ϋ n::f,r,R.g.κ sm,.Η #[t,rfl] (by rw[Du];show x),p,λb v y z d go=>q b v y (R.go z ((Go.κ sm).J go)) d ((Go.κ sm).J go)]]
 .cases e
section
variable(hC:nsIn X.K CJ c=Z (Z (.C C)))(cl:EJ X.K C)(hm:Jk X.K C m fn)(G:AW X.γ X.w X.K X.mg X.φ CX k fn fd ps (CV X.K F))(hr:AH k X.A)(hb:Binds X.K fd ps [])(hx:EK CX X E)(ho:JE X o (Fq X.K gp))
include hC cl hm G hr hb hx ho
def
wd(d:JA X (e::es) (GZ X.K ga))
  (a:↥(AL (e::es) X.G=(O',An e X.G)::AL es X.G:7)) (b:↑((AD pos (AL es X.G)).any (·.1)=O'))
  (ht:↑(ME X o m (e::es) pl apos pos)):
  JE X (.Θ (.δ o m apos) (e::es) [] pos) (DA X.K λs=>FK c m F (gp s) (ga s) s):=#[(RU ho.h cl hm G hr hb .Ϝ hx d.h a b ht).θ λ_ _ _ h=>cI hC h]
def
we(ht:↑(ME X o m [] pl apos pos)):
  JE X (.Θ (.δ o m apos) [] [] pos) (DA X.K λs=>FK c m F (gp s) (Z []) s):=#[(OW ho.h cl hm G hr hb .Ϝ hx ht).θ λp H Q h=>by
 let(b,s,n,R,d,q):=cI (E:=E) hC h
 apply#[b,s,n,R,d,λe=>?_]
 let(a,f,g,i,h1,h2,j,r,t,R2,k,l):=q e
 ext k
 show#[a,f,g,i,h1,h2,l [] H (Aj.ξ H) .Ϝ]]
end
def
wf(N:nsIn X.K CJ c=Z (Z (.C C)))(S:Mk X.K C fn)(G:AW X.γ X.w X.K X.mg X.φ CX n fn fd ps (CV X.K F))(T:AH (n+1) X.A)(W:Gl X x)(Y':X.mg x=Z (.C C))(hb:Binds X.K fd ps [])(hx:EK CX X E)
  (f:JA X (e::es) (GZ X.K ga)) (hz:↥(CA X x e es pos:9)):
  JE X (.Θ (.ε x p) (e::es) [] pos) (DA X.K λs=>KG c F (ga s) s):=#[(pL S G T W Y' hb .Ϝ hx f.h hz.d hz.s hz.p).θ λI H Q z0=>by
 let(o,s,r,R,e,q):=z0
 let(P,t,e):=BZ.mp e
 let((y,G'),hF,e):=BZ.mp e
 dsimp only at e
 split at e
 .cases e
  apply#[o,s,P,R,t,λvs u L hv a j f hd k=>?_]
  let nd:a≠j:=by rw[k];show λz=>absurd z (Nat.succ_ne_self j)
  generalize l:AX (AX u j (.χ a)) a (.ins C j [])=B
  let e0:B a=Z (.ins C j []):=by rw[<- l,Z5]
  let sm:Aj u B:=by rw[<- l];show(Z2 hd).J (Z2 (by rw[Zt nd];show f))
  let go:Go o s.2 u (D6 o s.2.a a) (s.2++[.mix (.i [] c) []]) B:=Go.new sm f rfl
  let gr:=(R.g.κ L).new sm f (c:=.mix (.i [] c) []) rfl #[[],by rw[e0,k];erw[CO,JJ N,Nat.add_sub_cancel];rfl,.Ϝ]
  apply#[_,_,.ϋ s.2.a::P,_,gr,.Η #[by simp,by erw[D6,if_true]] (by rw[Du];show Paired.mapP hv λ_ _ q=>Bn.go go q),hF,λzA v H3 R3 m b=>?_]
  erw[Bn,Av]at m
  let M:=((Go.κ L).J go).J b
  apply#[m,q zA _ H3 (R.go R3 M) #[BQ (by simp) b.Ϫ,?_] M]
  rw[b.ext _ (by simp)];erw[D6,if_true]
 .cases e]
def
wg{K:Am}{L:Y}{N:Fb}{y:IV}{v:V}{ns:U Ae}{xs:U IV}(a:ns.a=xs.a)(h:Paired (Bn K φ L N H) xs vs)(q:Bn K φ L N H y v):Paired (Bn K φ L N H) (DW f y ns xs) (DW f v ns vs):=by
 induction h generalizing ns with
 |nil=>cases ns with
  |nil=>show .Η q .Ϝ
  |cons=>cases a
 |cons h t b=>cases ns with
  |nil=>cases a
  |cons=>
   erw[DW]
   split
   .show .Η q t
   .show .Η h (b (by exists a))
open J in
def
cJ(t:nsIn X.K CJ c=Z (Z (.C C)))(cl:EJ X.K C)(z:Bx X.K C f)(A:JE X o (Fq X.K gp))(B:JE X e (DA X.K gx))
  (E:↑(Ej e (Z (.δ o f pos')) pos.ϥ X.G=Ax O')):JS X (.Ϡ [.δ o f pos'] e pos) (tK X.K λs=>F5 c f gp (gx s) s):=
 #[(pC A.h B.h E).θ λD G H W=>by
   let(F,s,R,q):=W
   unfold F5 at q
   dsimp only at q
   split at q
   .next r M=>
    apply#[F,s,r,R,M,λa v l j P go=>?_]
    split at q
    .next n m=>
     apply#[a,(s.1,r.2),n,j,m,λhl=>?_]
     split at q
     .next ns k p w=>
      split at q
      .next Q=>
       let(rfl,h1,h2):=Q
       let(b,T,x):=j.g.Ξ n _ w
       let(R2,d):=j.g.chg (u:=CO X.K (.i (putN f ns) k) (a n) ((DW f r.1 ns p).j un) (DW f v ns b)) (c':=.mix (.i (putN f ns) k) (DW f r.1 ns p)) w rfl rfl
        (λL N H' y S Y' hN=>by subst Y' hN;show#[_,S,wg h1 (Paired.mapP x λ_ _ q=>Bn.go y q) (Bn.go y P)])
       apply#[a n,C,a n-1,ns.zip b,rfl,(show l (a n)=Z (.ins C (a n-1) (ns.zip b)) by rw[T];erw[CO,JJ t]),cl,z,by rw[List.length_zip];lia,?_]
       let ew:AX l (a n) (CO X.K (.i (putN f ns) k) (a n) ((DW f r.1 ns p).j un) (DW f v ns b))=AX l (a n) (.ins C (a n-1) (EI f v (ns.zip b))):=by
        rw[bY (h1.J (Nz x))];erw[CO,JJ t]
       rw[<- ew]
       show q a G _ (j.go R2 d) (go.J d)
      .show q.Ζ
     .show q.Ζ
    .show q.Ζ
   .show q.Ζ]
end
structure BO(X:Cx)(o:Expr)(m:Ae)(apos:Aw)(e:Expr)(cpos:Aw):V' where
 b:FV o m X.G (An o X.G)=An o X.G
 f:((AD cpos (AL [e] X.G)).ϔ (λx=>!x.1)&&(GI cpos (GJ [] X.G)).ϔ (λx=>x.1.μ)&&decide ([e].a+([]:List Em).a+(if([]:List Em).Χ then 0 else 1)<30))=J'
 l:(apos.϶==cpos.ϥ)=J'
 s:AL [e] X.G=(O',An e X.G)::AL [] X.G
 p:(AD cpos (AL [] X.G)).any (·.1)=O'
def
cK{m:Ae}{c:Aw}{e:Expr}{a:Aw}(b:↑(FV o m X.G (An o X.G)=An o X.G))
  (f:↑(((AD a (AL [e] X.G)).ϔ (λx=>!x.1)&&(GI a (GJ [] X.G)).ϔ (λx=>x.1.μ)&&decide ([e].a+([]:U Em).a+(if([]:U Em).Χ then 0 else 1)<30))=J'))
  (l:↑((c.϶==a.ϥ)=J')) (s:↥(AL [e] X.G=(O',An e X.G)::AL [] X.G:7)) (p:↑((AD a (AL [] X.G)).any (·.1)=O')):BO X o m c e a:=#[b,f,l,s,p]
@[simp]def JM(p:O Y)(o:O D)(s:IS):O (IV×Gh):=match p,o with
  |some n,Z d=>match s.2[n]? with
   |some (.dat .l a)=>if a.a<Az then Z (.u .Y,s.2.Ε n (.ϕ .l (a++[d])))else J
   |_=>J
  |_,_=>J
@[simp]def ND(p:O Y)(o:O D)(s:IS):O (IV×Gh):=match p,o with
  |some n,Z d=>match s.2[n]? with
   |some (.dat .l a)=>if AY ZV d&&a.ϔ (AY ZV)then(a.findIdx? λz=>Ba z d).j λj=>(.u .Y,s.2.Ε n (.ϕ .l (a.ϧ j)))else J
   |_=>J
  |_,_=>J
variable {e ei:Expr}{g gi:IS->O D}{tpos:Aw}
def
Tr{K:Am}{G:Gh}{n:Y}{k:Kd}{ys:U D}{ws:U V}(R:BH K φ G H)(e:G[n]?=Z (.ϕ k xs))(h:Ad K (LV φ G) H ys ws):
  BH K φ (G.Ε n (.ϕ k' ys)) (AX H (φ n) (CO K k' (φ n) ys ws))/\Go φ G H φ (G.Ε n (.ϕ k' ys)) (AX H (φ n) (CO K k' (φ n) ys ws)):=
 R.chg e rfl rfl λL N f a b c d=>by subst c d;show#[ws,b,Ad.ώ a.st _ _ h]
open J in
def
wj(k:JE X o (Fq X.K gp))(m:JE X e (tJ X.K g))(hz:↥(BO X o "append" apos e cpos:12)):
  JE X (.Θ (.δ o "append" apos) [e] [] cpos) (DA X.K λs=>JM (gp s) (g s) s):=
 #[(Jp Pa PySem.F.ϳ PySem.F.type_list_append YC k.h (Z0 m.h Bq hz.s) hz.b hz.f hz.l hz.s hz.p).θ λy H Q t=>by
   let(a,s,r,R,ex,q):=t
   dsimp only at ex
   unfold JM at ex
   split at ex
   .next n d u hd=>
    split at ex
    .next z c=>
     let(w,ex):=Cy ex
     ext ex
     let(i,h1,h2):=R.g.Ξ n _ c
     apply#[a,s,n,R,u,λ_=>#[.S #[rfl,i,.S (.S h1)],a,s,d,R,hd,λv A sm x=>?_]]
     let(R2,j):=Tr (k':=.l) (R.g.κ sm) c ((h2.κ sm).ψ (Ad.Η x Ad.Ϝ))
     show#[a n,i,v,rfl,rfl,sm _ _ h1,h2.a ▸ w,q a _ _ (R.go R2 ((Go.κ sm).J j)) (by erw[Bn,Av]) ((Go.κ sm).J j)]
    .cases ex
   .cases ex]
open J in
def
wk(t:X.A.η+64<As)(u:JE X o (Fq X.K gp))(w:JE X e (tJ X.K g))(hz:↥(BO X o "remove" apos e cpos:12)):
  JE X (.Θ (.δ o "remove" apos) [e] [] cpos) (DA X.K λs=>ND (gp s) (g s) s):=
 #[(Jp Pa PySem.F.slot_list_remove PySem.F.type_list_remove (u7 t) u.h (Z0 w.h Bq hz.s) hz.b hz.f hz.l hz.s hz.p).θ λE H Q x=>by
   let(a,s,r,R,ex,q):=x
   dsimp only at ex
   unfold ND at ex
   split at ex
   .next n d y hd=>
    split at ex
    .next z i=>
     let(c,ex):=Cy ex
     rw[C2]at c
     let(j,B,rfl):=Cd.mp ex
     let(k,h1,h2):=R.g.Ξ n _ i
     apply#[a,s,n,R,y,λ_=>#[.S #[rfl,k,.S (.S h1)],a,s,d,R,hd,λv G sm C=>?_]]
     let(R2,m):=Tr (k':=.l) (R.g.κ sm) i ((h2.κ sm).erase j)
     show#[a n,k,v,_,d,z,j,rfl,rfl,sm _ _ h1,h2.κ sm,C.p,c.1,c.2,B,q a _ _ (R.go R2 ((Go.κ sm).J m)) (by erw[Bn,Av]) ((Go.κ sm).J m)]
    .cases ex
   .cases ex]
@[simp]def PP(p:IS->O Y)(ok b:O D)(s:IS):RI:=match p s,ok,b with
  |some n,Z y,Z d=>match s.2[n]? with
   |some (.dat .d c)=>match DV c,Df y with
    |some a,Z k=>if DJ k a&&decide (a.a<Az)then .β (s.1,s.2.Ε n (.ϕ .d (Zc (ZQ a k d))))else .ό
    |_,_=>.ό
   |_=>.ό
  |_,_,_=>.ό
open J in
def
wl(E:X.A.η+64<As)(W:JE X o (Fq X.K gp))(F:JE X ei (tJ X.K gi))(L:JE X e (tJ X.K g))
  (M:↥(∀v,assign (.Δ o ei tpos) X.G v=(do
   let f <- Fe [v] (An o X.G)
   let j <- Fe [v,f] (An ei X.G)
   standAt tpos
   Fe [v,f,j] (setItem f j v)
   release [v,f,j] []):6))
  (N:↑(swapsWithSole [.Δ o ei tpos] e pos.ϥ X.G=Ax O')) (c:↑(swappedStores [.Δ o ei tpos] e X.G=Ax J))
  (h1:↑((GH [.Δ o ei tpos] X.G).j (·.2)=[assign (.Δ o ei tpos) X.G])):
  JS X (.Ϡ [.Δ o ei tpos] e pos) (tK X.K λs=>PP gp (gi s) (g s) s):=#[(OO L.h (XU W.h F.h (ba E) M) N c h1).θ λD' P H Q=>by
 let(b,s,R,q):=Q
 unfold PP at q
 dsimp only at q
 split at q
 .next n y d T S hd=>
  split at q
  .next xs u=>
   split at q
   .next Y' k l hk=>
    split at q
    .next m=>
     rw[C2,decide_eq_true_eq]at m
     apply#[b,s,d,R,hd,λv H1 i hv=>#[b,s,n,R.κ i,T,λ_=>#[b,s,y,R.κ i,S,λw H2 r c=>?_]]]
     let ex:=Gr l
     subst ex
     let R2:=(R.κ i).κ r
     let(vs,z3,z4):=R2.g.Ξ n _ u
     let(t,rfl,a):=LO z4
     rw[IJ hk]at c
     let x:=a.put (k:=k) (HU c.p) (hv.κ r)
     let(z,B):=Tr (k':=.d) R2.g u x.flat
     rw[JD x]at z B
     let C:=(Go.κ (φ:=b) (G:=s.2) (i.J r)).J B
     apply#[b n,t,k,rfl,?_,a.keys,a.hom m.1,IK (HU c.p),Hd a ▸ m.2,q b P _ (R.go z C) C]
     rw[<- JD a]
     show z3
    .show q.Ζ
   .show q.Ζ
  .show q.Ζ
 .show q.Ζ]
end
def
wm{P:AR}{w:Ai}{K:Am}{mg:BE}{base:Ak}{k:Y}{f:Ac}{fd:Cj}{F:FI}(G:AW P w K mg base Bm k f fd ["_law_script"] (CV K F))
  (h:∀ns:U W',ns.a<=63->∃G',F [.u (.U (ns.j D.r))] []=Z (.u (.bl J'),G')):AW P w K mg base Bm k f fd ["_law_script"] (MW K):=
 G.imp λp H Q E d=>by
  let(a,ns,e,g,i,q):=d
  let(G',j):=h ns i
  subst e
  apply#[λ_=>0,[],[.u (.U (ns.j D.r))],_,#[λn c e=>by simp at e,λn m c r k s e=>by simp at e],.Η ?_ .Ϝ,j,λl v o t b go=>?_]
  .erw[Bn,Av]
   show#[a,_,rfl,(LstAt.of_sq g).imp (λz=>#[λ⟨n,c,k,e,_⟩=>by simp at e,z.2]) id,Ad.ints ns]
  .erw[Bn,Av]at b
   subst b;show q o
variable {s:Ab}{N:Fb}
def F6:U Sl->O Rv
 |[.val x]=>Z (.u x)
 |_=>J
def
KH(a:U D):a.j (Dq F6)=a:=by induction a with
 |nil=>rfl
 |cons x c b=>rw[AT,b];rfl
def
wn(W:Inv X pins I H s)(A:Af)(R:A.η+40<As){items:U Aa}{Q:Y}{xs:U V}{l:U D}(g:s.o.Q a=Z (C4 items Q))(m:H a=J)(n:Off X pins a)(o:Aq xs items)(r:Ad X.K N H l xs)(ok:Bk F6 l) {P:PySem.Fin->Ab->V'} (q:∀C vs,Inv X pins I (AX H a (.U vs)) C->Ad X.K N H (ET (Cr F6) l) vs->P (.done (.Ϻ .σ)) C):
  wpAny (Ag X.γ X.w) A (F0.«list.sort» #[[.C a],[]]) P E s:=by
 let l1:=r.a
 let l2:=o.a
 let few:=ok.few
 let S:Az=16777216:=HH
 rw[list_sort_plain]
 apply Al (listItems_at g rfl ?_)
 let(n1,G,Y'):=W.rawset (f:=λ_=>(T' [])) (its':=[]) m n g rfl
 apply Al (Nu g rfl ?_ (by simp;lia) (by simp))
 apply Al (seqEpoch_at G rfl ?_)
 apply Al (wpAny_newTuple ?_ (by simp;lia))
 generalize t:({heap:=s.o.ϭ a (GP λx=>(T' [])),gens:=s.g9,drawn:=s.drawn,toks:=s.ω,os:=s.os}:Ab)=d at *
 let I2:=Y'.ϟ (t':=d.ω) (λb u e=>Bg {cls:=.ζ "tuple",data:=.ϰ items.I} e)
 generalize v:({heap:=d.o.Μ {cls:=.ζ "tuple",data:=.ϰ items.I},gens:=d.g9,drawn:=d.drawn,toks:=d.ω,os:=d.os}:Ab)=i at *
 apply Al (wpAny_newList ?_ (by simp))
 let L:=I2.ϟ (t':=i.ω) (λb u e=>Bg (C4 [] 0) e)
 let B:=Bg (C4 [] 0) (show i.o.Q a=Z (C4 [] n1) by rw[<- v];show(Bg {cls:=.ζ "tuple",data:=.ϰ items.I} (show d.o.Q a=Z (C4 [] n1) by rw[<- t];show G)))
 apply Fv ?_
 apply bE (N:=N) (F:=F6) (kvs:=xs) (us:=items) (items:=items) (T:=λz=>do
  let k:=(arrOf z).j λy=>y.2
  let h:=(<- seqEpoch a) != n1
  Builtin.List.listUpdate (.C a) λ_=>k
  if let Z x:=failedOf z then
   rule "list.sort.comparison-raised"
   throw x
  if h then
   rule "list.sort.modified"
   raiseError "ValueError" "list modified during sort"
  ret .σ) L A R ok (by rw[KH];show r) o ∅ λp st M hs ha hf=>?_
 let hpl:p.a=l.a:=by have:=M.Ψ;exists this
 apply Al (seqEpoch_at B rfl ?_)
 generalize c:p.j (λj=>items.B j .σ)=out at *
 let(n3,g4,I4):=L.rawset (f:=λ_=>out.I) (its':=out) m n B rfl
 rw[ha]
 apply Al (Nu B rfl ?_ (by simp) (by simp;show Lf (show out.a<=Az by rw[<- c,Bu];lia)))
 rw[hf]
 erw[show(n1 != n1)=O' by simp,Fg,if_false]
 apply AO (q _ _ (I4.catch m n g4 (show Aq (p.j λj=>xs.B j .Y) out by rw[<- c];show Nt o p) (by rw[Bu];lia)) ?_)
 rw[<- hs]
 show S3 r p λj hj=>by have:=M.subset hj;exists this
def
cL(p:Inv X pins I H s)(k:X.A.η+64<As){a:U Aa}{xs:U V}{d:U D}(h:Aq xs a)(i:Ad X.K N H d xs)(ok:Bk F6 d){P:PySem.Fin->Ab->V'}
  (q:∀f c vs,H f=J->Inv X pins I (AX H f (.U vs)) c->Ad X.K N H (ET (Cr F6) d) vs->wpAny (Ag X.γ X.w) X.A.in1 (B (.C f)) P X.xe c):
  wpAny (Ag X.γ X.w) X.A.in1 (do
   let l <- newList a
   let _ <- Fe [l] (call (.ρ "list.sort") [l])
   B l) P X.xe s:=by
 let l1:=i.a
 let m:=h.a
 let few:=ok.few
 let j:Az=16777216:=HH
 apply Al (wpAny_newList ?_ ∅)
 let g:=B7 s.o (o:=C4 a 0) rfl
 apply Al (Fv (Jn slot_list_sort #[_,g,rfl] entry_list_sort (wn (N:=N) (p.ϟ (t':=s.ω) (λb u e=>Bg (C4 a 0) e)) _ ?_ g p.Κ (p.off (A9 s.o.E.y)) h i ok λc vs n dv=>#[_,rfl,q _ c vs p.Κ n dv]) (args_list_sort _)))
 change X.A.η+1+1+40<_;lia
end
variable {M:Fb}{e:Expr}{f:AB}{x:Ae}{p:Aw}
def L5(o:O D):A8:=match o with
 |some (.lst a .l)=>EU F6 a
 |some (.lst a .d)=>(DV a).L λb=>EU F6 (b.j λp=>kD p.1)
 |_=>J
open J in
def
wp(hc:X.Ϭ=J')(hu:X.A.η+64<As)(hg:Gl X x)(hm:X.mg x=J)(hv:Eh x=Z (.ρ "sorted"))(he:JE X e (tP X.K M H0 f))
  (hn:⇑(x≠"__name__")) (E:⇑(DC x)) (hs:↥(AL [e] X.G=(O',An e X.G)::AL [] X.G:7)):
  JE X (.Θ (.ε x p) [e] [] pos) (tF X.K M H0 λρ=>L5 (f ρ)):=#[by
 intro g s r H Q W zQ;let(ρ,ys,R,i,q):=zQ
 dsimp only at i
 let hsl:Az=16777216:=HH
 cases G:f ρ with
 |none=>rw[G]at i;cases i
 |some d=>
 rw[G]at i
 apply La (GD W hg hm hv ?_ hn E)
 apply PyProof.Rows.callWith_builtin1 ?_ hs rfl
 apply A0 ((Z0 he.h (Bq (X:=X)) hs) pos g s r H (λj t=>∃v,j=[v]/\Aj H t/\Au X.K (Nf M ρ r) t d v) W #[ρ,d,R,G,λv t L y=>#[v,rfl,L,y]]) λus L hh=>?_
 let(j,t,C,r1,v,rfl,sm,y):=hh
 let(u,rfl,ru):=El r1
 let fin:∀k w j,t k=J->Inv X g r (AX t k (.U j)) w->Ad X.K (Nf M ρ r) t ys j->EP X g r Q (.C k) w:=λk w j c F dv=>
  #[.C k,_,F,rfl,q k j _ (sm.J (Z2 c)) (sm.σ c) Z5 ((dv.nw λb hb=>hb.imp id λz=>by subst z;show c).κ (Z2 c))]
 unfold L5 at i
 split at i
 .next xs hd=>
  ext hd
  let(ok,rfl):=PF i
  let(a,ws,rfl,P,dl):=y
  ext ru
  let(its,rv,(o,n,ho,S,hdd,hd),hz):=C.Ϥ P
  let l2:=rv.a
  show cm kind_sorted plain_sorted entry_sorted (args_sorted1 _) (Al (m:=checkCount "sorted" 1 1 _) (AO (Al (wpAny_collect_seq a (T:="list") (.S rfl) ho S hd (λh1 k1=>cL (N:=Nf M ρ r) (B:=λl=>ret l) (C.ϟ (t':=L.ω) k1) hu rv dl ok λk w j c F dv=>AO #[_,rfl,fin k w j c F dv]) (by simp;lia)))))
 .next xs hd=>
  ext hd
  let(Y',hun,i):=BZ.mp i
  let(ok,rfl):=PF i
  rw[Gr hun]at y
  let(a,ws,rfl,P,dl):=y
  ext ru
  let(tr,dc,pd):=IL P dl
  let(z,hs',nd,o,es,ep,e1,e2,e3,e4):=dc.1.ok C.Ϣ
  let few:=ok.few
  let hl:Y'.a=es.y:=by have h1:=pd.kden.a;let h2:=(LR e4).a;simp at h1 h2;lia
  apply cm kind_sorted plain_sorted entry_sorted (args_sorted1 _) ?_
  apply Al (m:=checkCount "sorted" 1 1 _) (AO ?_)
  apply Al (bO (Ta (es:=es) (ep:=ep) hs') (by change X.A.ϛ=J;show C.ok.hd hc) #[o,e1,e2,e3] (by simp at few;lia) λh1 tk acc k1 hi=>?_)
  rw[Tb hi]
  show cL (N:=Nf M ρ r) (B:=λl=>ret l) (C.ϟ (t':=tk) k1) hu (LR e4) pd.kden ok λk w j c F dv=>AO #[_,rfl,fin k w j c F dv]
 .cases i]
end
mutual
theorem IW:∀(d:D),BM 0 d=J'
 |.non=>rfl
 |.bl _=>rfl
 |.int _=>rfl
 |.str _=>rfl
 |.ty _=>rfl
 |.tup a=>by erw[BM];show Ts a
 |.lst a k=>by erw[BM,vk,Bool.not_false,KI];show Ts a
theorem Ts:∀(xs:U D),CT 0 xs=J'
 |[]=>rfl
 |x::xs=>by erw[CT,IW x,Ts xs,F7]
end
def
G5{m:Y}:∀{xs:U D},(∀x∈xs,BM m x=J')->CT m xs=J'
 |[],_=>rfl
 |x::xs,h=>by erw[CT,h x A6,G5 λy a=>h y (A5 _ a),F7]
variable {K:Am}{M:Fb}{e:Expr}{F:U Sl->O Rv}{k:Y}{fn:Ac}{fd:Cj}{x:Ae}{p:Aw}{E:XK}
def
wq(G:AW X.γ X.w X.K X.mg X.φ CX k fn fd ps (AN K F))(a:AH k X.A)(b:Gl X x)(c:X.mg x=Z (.C fn))(f:HI X.K (.C fn)=J')(hb:Binds X.K fd ps [])(g:EK CX X E)
  (i:JA X (e::es) (CC K M H0 fa)) (hz:↥(CA X x e es pos:9)):
  JE X (.Θ (.ε x p) (e::es) [] pos) (Fi .d K M H0 (Jw F fa)):=#[(ML G a b c f hb .Ϝ g i.h hz.d hz.s hz.p).θ λ_ _ _ h=>rb h]
end
def
wr{l:PySem.W.OpenLaw}{w:Ai}{K:Am}{mg:BE}{f:Ac}{fd:Cj}{st:AE}{n:Y}{F:FI}(d:mg "law"=Z (.C f))(q:DI K mg "law" st ["_law_script"] a fd)
  (G:∀base:Ak,AW l.γ w K mg base Bm n a fd ["_law_script"] (CV K F)) (h:∀ns:U W',ns.a<=63->∃G',F [.u (.U (ns.j D.r))] []=Z (.u (.bl J'),G'))
  (e:∀(kV b g:Aa) (i:O Ac) (c ct v:Aa),bindArgs (Jm "law" "law" (HK st) (ZT st) (Zk st) .σ kV b g i c ct) #[[v],[]]=Ax [(("_law_script":Ae),v)]):
  ∃fd:Cj,(∀(s:Ab) (v:Aa),BindsTo s fd #[[v],[]] [("_law_script",v)])/\∀base:Ak,K.In base->base.Ns CJ mg->AW l.γ w K mg base Bm n f fd ["_law_script"] (MW K):=by
 cases d.Ρ.J q.m
 let(o,p,kV,b,g,i,c,ct,j,rfl,r,k):=q.F.ex
 show#[_,λs v=>.of_eq (e _ _ _ _ _ _ _),λbase _ _=>wm (G base) h]
def Ib(a:Scope):U Ae:=(a.υ.tail.ν λp=>match p.2 with | .local=>J'|_=>O').j (·.1)
def Tt(own a:U Ae)(b c:Scope):jp:=decide (b.ϱ=.Ϧ)&&b.υ.ϔ (λx=>decide (x.2≠.Ξ))&&b.υ.ϔ (λx=>decide (x.2≠.Φ)||decide (c.υ.X x.1=Z .Ξ)||decide (c.υ.X x.1=Z .Φ))
 && b.υ.ϔ (λx=>decide (x.2≠.ϓ)||decide (b.names.lookup x.1=Z .local))&&a.all (λx=>decide (b.υ.X x=Z .Φ))&&decide (own++a).ι
def
wt{own a:U Ae}{d b:Scope}(h:Tt own a d b=J'):Jr own a d b:=by
 erw[Tt,C2,Dc,Bool.or_eq_true,decide_eq_true_eq]at h
 let(((((h1,h2),f),g),i),j):=h
 show#[h1,h2,λx c e=>(f x c).Ζ (λz=>z.Ζ (λz=>absurd e z) .S) .τ,λx c e=>(g x c).Ζ (λz=>absurd e z) id,i,j]
structure XI(P:AR)(w:Ai)(K:Am)(mg:BE)(base:Ak)(X:Cx)(N:List Ae)(sc:Scope):V' where
 p:X.γ=P
 w:X.w=w
 k:X.K=K
 m:X.mg=mg
 b:X.φ=base
 n:X.N=N
 s:X.G.Γ=sc
 d:N.ι
def
XI.nd{P:AR}{w:Ai}{K:Am}{mg:BE}{base:Ak}{N:U Ae}{a:Scope}(h:XI P w K mg base X N a):X.N.ι:=h.n ▸ h.d
def oN(N:U Ae)(oix:U Y):U Ae:=oix.gV (N[·]?)
structure CQ(N:List Ae)(sc scope:Scope)(n:Y)(oix:List Y):V' where
 S:Jr (Ib scope) (oN N oix) scope sc
 l:(Ib scope).a=n
 x:oix.j (λj=>N[j]?)=(oN N oix).j Z
def
L6{N:U Ae}{a:Scope}{n:Y}{oix:U Y}(h:(Tt (Ib scope) (oN N oix) scope a&&decide ((Ib scope).a=n)&&decide (oix.j (λj=>N[j]?)=(oN N oix).j Z))=J'):CQ N a scope n oix:=by
 erw[C2,decide_eq_true_eq]at h
 show#[wt h.1.1,h.1.2,h.2]
variable {K:Am}{M:Fb}{f:VE->A8}{fd:AB}{b:D->VE->O VE}{t:VE->O jp}{e:AB}{spos:Aw}{oix:U Y}{n i:Y}{N:U Ae}{x:Ae}
variable{P:AR}{w:Ai}{K0:Am}{mg:BE}{base:Ak}
def
L7{own a:U Ae}(h:XI P w K0 mg base X N sc)(d:(own++a).ι)(l:∀C f g i c j H',XI P w K0 mg base (Dk X own a scope C f g i c) (own++a) (Dk X own a scope C f g i c).G.Γ->JG (Dk X own a scope C f g i c) tg (tG K j H' ws b))(ht:∀C f g i c j H',XI P w K0 mg base (Dk X own a scope C f g i c) (own++a) (Dk X own a scope C f g i c).G.Γ->JF (Dk X own a scope C f g i c) ifs (BU K j H' t))(n:∀C f g i c j H',XI P w K0 mg base (Dk X own a scope C f g i c) (own++a) (Dk X own a scope C f g i c).G.Γ->JE (Dk X own a scope C f g i c) elt (tD K j H' e)):CB K X own a scope tg ifs elt ws b t e:=
 rT (l _ _ _ _ _ _ _ #[h.p,h.w,h.k,h.m,h.b,rfl,rfl,d]) (ht _ _ _ _ _ _ _ #[h.p,h.w,h.k,h.m,h.b,rfl,rfl,d]) (n _ _ _ _ _ _ _ #[h.p,h.w,h.k,h.m,h.b,rfl,rfl,d])
variable(h:XI P w K0 mg base X N sc)(q:CQ N sc scope n oix)(hc:X.Ϭ=J')(hK:K0=K)
include h q hc hK
def
wu(a:JI X tg iter (tI K M H0 f))(hb:CB K X (Ib scope) (oN N oix) scope tg ifs elt ws b t e)(c:∀j∈ws,j<n)(d:↥(∀x,FS iter X.G x=Ax x:6)):JE X (.Τ elt [#[tg,iter,ifs,0]] scope pos) (tF K M H0 (Zi n oix f b t e)):=by
 let(_,_,g,_,_,rfl,rfl,_):=h
 let(S,rfl,x):=q
 show rV _ _ _ S x hc a hb c d
def
wv(a:N[i]?=Z x)(d:sc.υ.X x=Z .ϓ)(g:JI X tg iter (tI K M H0 f))(hb:CB K X (Ib scope) (oN N oix) scope tg ifs elt ws b t e)(k:∀j∈ws,j<n)(c:↑(Ej (.Τ elt [#[tg,iter,ifs,0]] scope pos) (Z (.ε x pos')) spos.ϥ X.G=Ax J'))(l:↥(∀x,FS iter X.G x=Ax x:6)):JS X (.Ϡ [.ε x pos'] (.Τ elt [#[tg,iter,ifs,0]] scope pos) spos) (tS K M H0 λρ=>ZG i (Zy (Zi n oix f b t e ρ)) ρ):=by
 let(_,_,m,_,_,rfl,rfl,nd):=h
 let(S,rfl,x):=q
 show rW _ _ _ S x hc nd a d g hb k c l
def
ww(a:JE X iter (tQ K M H0 fd))(hb:CB K X (Ib scope) (oN N oix) scope tg ifs elt ws b t e)(c:∀j∈ws,j<n)(d:↥(∀x,FS iter X.G x=Ax x:6)):JE X (.Τ elt [#[tg,iter,ifs,0]] scope pos) (tF K M H0 (Zi n oix (λρ=>(fd ρ).L Gu) b t e)):=by
 let(_,_,f,_,_,rfl,rfl,_):=h
 let(S,rfl,x):=q
 ext hK;ext f;show vq _ _ _ S x hc a hb c d
def
wx(a:N[i]?=Z x)(d:sc.υ.X x=Z .ϓ)(f:JE X iter (tQ K M H0 fd))(hb:CB K X (Ib scope) (oN N oix) scope tg ifs elt ws b t e)(g:∀j∈ws,j<n)(c:↑(Ej (.Τ elt [#[tg,iter,ifs,0]] scope pos) (Z (.ε x pos')) spos.ϥ X.G=Ax J'))(k:↥(∀x,FS iter X.G x=Ax x:6)):JS X (.Ϡ [.ε x pos'] (.Τ elt [#[tg,iter,ifs,0]] scope pos) spos) (tS K M H0 λρ=>Z4 i (Zi n oix (λρ=>(fd ρ).L Gu) b t e ρ) ρ):=by
 let(_,_,l,_,_,rfl,rfl,nd):=h
 let(S,rfl,x):=q
 ext hK;ext l;show vr _ _ _ S x hc nd a d f hb g c k
end
def All{a:Type}(p:a->V'):U a->V'
 |[]=>True
 |x::r=>p x/\All p r
def
All.get{a:Type}{p:a->V'}:∀{l:U a}(i:Y){x:a},All p l->l[i]?=Z x->p x
 |_::_,0,_,h,e=>by ext e;show h.1
 |_::_,i+1,_,h,e=>All.Ι i h.2 (by exists e)
 |[],_,_,_,e=>by simp at e
def DX(K:Am)(mg:BE):Ae×AE×U Ae->V'
 |(a,st,b)=>∃fn fd,DI K mg a st b fn fd
def MX(K:Am)(C:Ac):Ae×Ae×AE×U Ae->V'
 |(b,a,st,c)=>∃fn fd,MI K C b a st c fn fd
section
variable(P:AR)(w:Ai)(K:Am)(mg:BE)(base:Ak)
def OF(k:Y)(nm:Ae)(sp:Sp):V':=∃st a fn fd,DI K mg nm st a fn fd/\AW P w K mg base Bm k fn fd a sp
def OM(C:Ac)(c:DR)(k:Y)(nm:Ae)(sp:Sp):V':=∃a st b fn fd,MI K C nm a st b fn fd/\AW P w K mg base c k fn fd b sp
end
variable {P:AR}{w:Ai}{K:Am}{mg:BE}{base:Ak}{nm qual:Ae}{st:AE}{k:Y}{C:Ac}{g:Ao}{gi:A4}(N:U Ae)
def
Bt(D:DX K mg (nm,st,ps))
  (hb:∀(fn:Ac) (i:Aa) (A:Af) (outer:U Env) (s:Ab) (H:Hp) (E:XK) (M:Fb) (H0:Hp),XI P w K mg base (DE Bm P w K mg base N nm (Zk st) fn i A outer s H E).nox N (Zk st)->AH k (A.Ϩ (Bj nm (Zk st) s.o.E.y fn i)) ->
   JB (DE Bm P w K mg base N nm (Zk st) fn i A outer s H E).nox (ZT st) (tS K M H0 g)) (S:↥(Ff N ps (Zk st):10)) (j:⇑(ps.a<=N.a)):OF P w K mg base (k+1) nm (AN K (AV ps.a N.a g)):=
 let⟨fn,fd,D⟩:=D
 #[st,ps,fn,fd,D,uU D S (λa b c d e f g h r=>hb fn a b c d e f g h #[rfl,rfl,rfl,rfl,rfl,rfl,rfl,S.nd] r) rfl j]
def
KJ(D:MX K C (nm,qual,st,ps))
  (hb:∀(fn:Ac) (i:Aa) (A:Af) (outer:U Env) (s:Ab) (H:Hp) (E:XK) (M:Fb) (H0:Hp),XI P w K mg base (DE Bm P w K mg base N qual (Zk st) fn i A outer s H E).nox N (Zk st)->AH k (A.Ϩ (Bj qual (Zk st) s.o.E.y fn i)) ->
   JB (DE Bm P w K mg base N qual (Zk st) fn i A outer s H E).nox (ZT st) (tS K M H0 g)) (S:↥(Ff N ps (Zk st):10)) (j:⇑(ps.a<=N.a)):OM P w K mg base C Bm (k+1) nm (AN K (AV ps.a N.a g)):=
 let⟨fn,fd,D⟩:=D
 #[qual,st,ps,fn,fd,D,vo D S (λa b c d e f g h r=>hb fn a b c d e f g h #[rfl,rfl,rfl,rfl,rfl,rfl,rfl,S.nd] r) rfl j]
def
cM{fn:Ac}{fd:Cj}(D:DI K mg nm st ps fn fd)
  (hb:∀(g:Aa) (A:Af) (outer:U Env) (s:Ab) (H:Hp) (E:XK),XI P w K mg base (DE Bm P w K mg base N nm (Zk st) fn g A outer s H E).nox N (Zk st)->AH k (A.Ϩ (Bj nm (Zk st) s.o.E.y fn g)) ->
   JB (DE Bm P w K mg base N nm (Zk st) fn g A outer s H E).nox (ZT st) (tK K gi)) (S:↥(Ff N ps (Zk st):10)) (h:⇑(ps.a<=N.a)):AW P w K mg base Bm (k+1) fn fd ps (CV K (Ee ps.a N.a gi)):=
 wa D S (λa b c d e f r=>hb a b c d e f #[rfl,rfl,rfl,rfl,rfl,rfl,rfl,S.nd] r) rfl h
def
NE(D:DX K mg (nm,st,ps))
  (hb:∀(fn:Ac) (a:Aa) (A:Af) (outer:U Env) (s:Ab) (H:Hp) (E:XK),XI P w K mg base (DE Bm P w K mg base N nm (Zk st) fn a A outer s H E).nox N (Zk st)->AH k (A.Ϩ (Bj nm (Zk st) s.o.E.y fn a)) ->
   JB (DE Bm P w K mg base N nm (Zk st) fn a A outer s H E).nox (ZT st) (tK K gi)) (S:↥(Ff N ps (Zk st):10)) (b:⇑(ps.a<=N.a)):OF P w K mg base (k+1) nm (CV K (Ee ps.a N.a gi)):=
 let⟨fn,fd,D⟩:=D
 #[st,ps,fn,fd,D,cM N D (hb fn) S b]
def
KN(D:MX K C (nm,qual,st,ps))
  (hb:∀(fn:Ac) (g:Aa) (A:Af) (outer:U Env) (s:Ab) (H:Hp) (E:XK),XI P w K mg base (DE Bm P w K mg base N qual (Zk st) fn g A outer s H E).nox N (Zk st)->AH k (A.Ϩ (Bj qual (Zk st) s.o.E.y fn g)) ->
   JB (DE Bm P w K mg base N qual (Zk st) fn g A outer s H E).nox (ZT st) (tK K gi)) (S:↥(Ff N ps (Zk st):10)) (h:⇑(ps.a<=N.a)):OM P w K mg base C Bm (k+1) nm (CV K (Ee ps.a N.a gi)):=
 let⟨fn,fd,D⟩:=D
 #[qual,st,ps,fn,fd,D,wb D S (λa b c d e f r=>hb fn a b c d e f #[rfl,rfl,rfl,rfl,rfl,rfl,rfl,S.nd] r) rfl h]
end
variable {P:AR}{w:Ai}{K K':Am}{mg:BE}{base:Ak}{N:U Ae}{M:Fb}{k n:Y}{C:Ac}{c m x:Ae}{F:U Sl->O Rv}{FF:FI}{e:Expr}{fe:AB}{p:Aw}(h:XI P w K mg base X N sc)(r:AH n X.A)
include h r
def
wy(G:OF P w K mg base k x (AN K F))(a:K=K')(b:JA X (e::es) (CC K' M H0 fa))(c:k<=n)(d:Gl X x)(hz:CA X x e es pos):JE X (.Θ (.ε x p) (e::es) [] pos) (tD K' M H0 (Zh F fa)):=by
 let(rfl,rfl,rfl,rfl,rfl,_,_,_):=h
 let(_,_,_,_,D,G):=G
 grind [uM]
def
wz(G:OF P w K mg base k x (AN K F))(a:K=K')(b:JA X (e::es) (CC K' M H0 fa))(c:k<=n)(d:Gl X x)(hz:CA X x e es pos):JE X (.Θ (.ε x p) (e::es) [] pos) (tF K' M H0 (DU F fa)):=by
 let(rfl,rfl,rfl,rfl,rfl,_,_,_):=h
 let(_,_,_,_,D,G):=G
 grind [uN]
def
wA(G:OF P w K mg base k x (AN K F))(a:K=K')(c:JA X (e::es) (CC K' M H0 fa))(f:k<=n)(g:Gl X x)(hz:CA X x e es pos):JE X (.Θ (.ε x p) (e::es) [] pos) (Fi .d K' M H0 (Jw F fa)):=by
 let(rfl,rfl,rfl,rfl,rfl,_,_,_):=h
 subst a
 let(_,_,_,_,D,G):=G
 show wq G (r.θ f) g D.m D.F.kp D.b (E:=E0) Gi c hz
def
wB(G:OF P w K mg base k x (CV K FF))(a:K=K')(c:JA X (e::es) (GZ K' ga))(d:k<=n)(f:Gl X x)(hz:CA X x e es pos):JE X (.Θ (.ε x p) (e::es) [] pos) (DA K' λs=>IU FF (ga s) s):=by
 let(rfl,rfl,rfl,rfl,rfl,_,_,_):=h
 subst a
 let(_,_,_,_,D,G):=G
 show wc G (r.θ d) f D.m D.F.kp D.b (E:=E0) Gi c hz
def
cN(G:OF P w K mg base k y (AN K F))(f:mg x=J)(g:K=K')(i:JE X e (tP K' M H0 fe))(j:⇑(k+2<=n))(l:↑(Gl X x))(o:↑(Eh x=Z (.ρ "sorted")))(c:↑(Gl X y))
  (q:⇑(x≠"__name__")) (d:⇑(DC x)) (a:⇑(DC y)) (s:↥(AL [e] X.G=(O',An e X.G)::AL [] X.G:7)):
  JE X (.Θ (.ε x p) [e] [#[Z "key",.ε y p2,kpos]] pos) (tF K' M H0 (Ky F fe)):=by
 let(rfl,rfl,rfl,rfl,rfl,_,_,_):=h
 subst g
 let(_,_,_,_,D,G):=G
 show uv G (r.θ j) l f o c D.m D.b i q d a s
variable(cb:CI K mg c C)
include cb
def
cO(G:OM P w K mg base C Bm k "__init__" (CV K FF))(a:K=K')(d:JA X (e::es) (GZ K' ga))(f:⇑(k+1<=n))(g:↑(Gl X c))(hz:↥(CA X c e es pos:9)):JE X (.Θ (.ε c p) (e::es) [] pos) (DA K' λs=>KG c FF (ga s) s):=by
 let(rfl,rfl,rfl,rfl,rfl,_,_,_):=h
 subst a
 let(_,_,_,_,_,D,G):=G
 show wf cb.cof (cb.mkB D) G (r.θ f) g cb.m D.b (E:=E0) Gi d hz
def
cP(G:OM P w K mg base C Bm k m (AN K F))(f:K=K')(g:JE X o (Fk K' M H0 fo))(i:JA X (e::es) (CC K' M H0 fa))(j:⇑(k<=n))
  (a:↥(AL (e::es) X.G=(O',An e X.G)::AL es X.G:7)) (d:↑((AD pos (AL es X.G)).any (·.1)=O')) (ht:↑(ME X o m (e::es) pl apos pos)):
  JE X (.Θ (.δ o m apos) (e::es) [] pos) (tD K' M H0 λρ=>(ZY c m F (fo ρ) (fa ρ)).j Ct):=by
 let(rfl,rfl,rfl,rfl,rfl,_,_,_):=h
 subst f
 let(_,_,_,_,_,D,G):=G
 show uX cb.cof cb.cl D.M G (r.θ j) D.b (E:=E0) Gi g i a d ht
def
NF(G:OM P w K mg base C Bm k m (AN K F))(a:K=K')(d:JE X o (Fk K' M H0 fo))(e:⇑(k<=n))(ht:↑(ME X o m [] pl apos pos)):
  JE X (.Θ (.δ o m apos) [] [] pos) (tD K' M H0 λρ=>(ZY c m F (fo ρ) (Z [])).j Ct):=by
 let(rfl,rfl,rfl,rfl,rfl,_,_,_):=h
 subst a
 let(_,_,_,_,_,D,G):=G
 show uY cb.cof cb.cl D.M G (r.θ e) D.b (E:=E0) Gi d ht
def
PQ(G:OM P w K mg base C Bm k m (CV K FF))(f:K=K')(g:JE X o (Fq K' gp))(i:JA X (e::es) (GZ K' ga))(j:⇑(k<=n))
  (a:↥(AL (e::es) X.G=(O',An e X.G)::AL es X.G:7)) (d:↑((AD pos (AL es X.G)).any (·.1)=O')) (ht:↑(ME X o m (e::es) pl apos pos)):
  JE X (.Θ (.δ o m apos) (e::es) [] pos) (DA K' λs=>FK c m FF (gp s) (ga s) s):=by
 let(rfl,rfl,rfl,rfl,rfl,_,_,_):=h
 subst f
 let(_,_,_,_,_,D,G):=G
 show wd cb.cof cb.cl D.M G (r.θ j) D.b (E:=E0) Gi g i a d ht
def
wC(G:OM P w K mg base C Bm k m (CV K FF))(a:K=K')(d:JE X o (Fq K' gp))(e:⇑(k<=n))(ht:↑(ME X o m [] pl apos pos)):
  JE X (.Θ (.δ o m apos) [] [] pos) (DA K' λs=>FK c m FF (gp s) (Z []) s):=by
 let(rfl,rfl,rfl,rfl,rfl,_,_,_):=h
 subst a
 let(_,_,_,_,_,D,G):=G
 show we cb.cof cb.cl D.M G (r.θ e) D.b (E:=E0) Gi d ht
end
variable {K:Am}{M:Fb}{st:AE}{g:Ao}{i:Y}
@[simp]def NG(i:Y)(g:Ao):Ao:=λa=>g (O9 i a)
def
wD(h:JS X st (tS K M H0 g)):JS X st (tS K M H0 (NG i g)):=rq i h
end
end Internal
variable{ga:Internal.IS->O (U Internal.IV)}{gp:Internal.IS->O Y}{gx:Internal.IS->O (Internal.IV×Internal.Gh)}{gb:Internal.IS->O (jp×Internal.Gh)}{gf:Internal.IS->O (U Internal.D)}
namespace Internal
open PySem PySem.Spec PyProof.Rows
def

ZHK(a b:W'):Ba (.r a) (.r b)=decide (a=b):=by show(a==b)=_;by_cases h:a=b<;>simp[h]
def

ZIg(a b:Ae):Ba (.Α a) (.Α b)=decide (a=b):=by show(a==b)=_;by_cases h:a=b<;>simp[h]
def

ZHP(a b:jp):Ba (.bl a) (.bl b)=decide (a=b):=by show(a==b)=_;by_cases h:a=b<;>simp[h]
def

ZHL:Ba .Y .Y=J':=id rfl
def

ZIf(a:jp)(b:W'):Ba (.bl a) (.r b)=decide ((if a then 1 else 0)=b):=by show((if a then 1 else 0)==b)=_;by_cases h:(if a then 1 else 0)=b<;>simp[h]
def

ZIa(a:W')(b:jp):Ba (.r a) (.bl b)=decide (a=(if b then 1 else 0)):=by show(a==(if b then 1 else 0))=_;by_cases h:a=(if b then 1 else 0)<;>simp[h]
def

ZH1(a:W')(b:Ae):Ba (.r a) (.Α b)=O':=id rfl
def

ZHV(a:Ae)(b:W'):Ba (.Α a) (.r b)=O':=id rfl
def

ZHX(a:jp)(b:Ae):Ba (.bl a) (.Α b)=O':=id rfl
def

ZHO(a:Ae)(b:jp):Ba (.Α a) (.bl b)=O':=id rfl
def

ZH5(b:W'):Ba .Y (.r b)=O':=id rfl
def

ZH7(b:Ae):Ba .Y (.Α b)=O':=id rfl
def

ZIh(b:jp):Ba .Y (.bl b)=O':=id rfl
def

ZIb(b:W'):Ba (.r b) .Y=O':=id rfl
def

ZHR(b:Ae):Ba (.Α b) .Y=O':=id rfl
def

ZIe(b:jp):Ba (.bl b) .Y=O':=id rfl
def

ZH3(a b:U D):Ba (.O a) (.O b)=C0 a b:=id rfl
def

ZHN(a b:U D):Ba (.U a) (.U b)=C0 a b:=id rfl
def

ZHQ(a b:U D):Ba (.O a) (.U b)=O':=id rfl
def

ZHZ(a b:U D):Ba (.U a) (.O b)=O':=id rfl
def

ZH6(a:U D)(b:W'):Ba (.O a) (.r b)=O':=id rfl
def

ZH2(a:U D)(b:Ae):Ba (.O a) (.Α b)=O':=id rfl
def

ZH9(a:U D):Ba (.O a) .Y=O':=id rfl
def

ZHT(a:U D)(b:jp):Ba (.O a) (.bl b)=O':=id rfl
def

ZHS(a:U D)(b:W'):Ba (.r b) (.O a)=O':=id rfl
def

ZHW(a:U D)(b:Ae):Ba (.Α b) (.O a)=O':=id rfl
def

ZH0(a:U D):Ba .Y (.O a)=O':=id rfl
def

ZId(a:U D)(b:jp):Ba (.bl b) (.O a)=O':=id rfl
def

ZH4(a:U D)(b:W'):Ba (.U a) (.r b)=O':=id rfl
def

ZHU(a:U D)(b:Ae):Ba (.U a) (.Α b)=O':=id rfl
def

ZIc(a:U D):Ba (.U a) .Y=O':=id rfl
def

ZH8(a:U D)(b:jp):Ba (.U a) (.bl b)=O':=id rfl
def

ZHY(a:U D)(b:W'):Ba (.r b) (.U a)=O':=id rfl
def

ZHJ(a:U D)(b:Ae):Ba (.Α b) (.U a)=O':=id rfl
def

ZHM(a:U D):Ba .Y (.U a)=O':=id rfl
def

ZHI(a:U D)(b:jp):Ba (.bl b) (.U a)=O':=id rfl
def

ZHe:C0 [] []=J':=by erw[C0]
def

ZGJ(a b:D)(c bs:U D):C0 (a::c) (b::bs)=(Ba a b&&C0 c bs):=by erw[C0]
def

ZHE(b:D)(bs:U D):C0 [] (b::bs)=O':=by erw[C0]
def

ZHD(b:D)(bs:U D):C0 (b::bs) []=O':=by erw[C0]
def

wE:∀(a b:U W'),C0 (a.j D.r) (b.j D.r)=decide (a=b)
  |[],[]=>by simp
  |[],_::_=>by simp
  |_::_,[]=>by simp
  |x::a,y::b=>by simp[wE a b]
def

ZHs(n:Y)(a:U W'):(a.j D.r).ϔ (AY n)=J':=by
  rw[Dc]
  intro x b
  let(i,_,rfl):=Bc.mp b
  ext n<;>rfl
def

ZHC(t n:String):LF t n=(t==n||(t=="bool"&&n=="int")):=rfl
def

ZGe:Hs=["NoneType","bool","int","str","tuple","list"]:=rfl
def

FL:ZV=12:=rfl
def

ZG1:Dd.tysL []=Z []:=rfl
def

ZGK(n:String)(r:U D):Dd.tysL (.ty n::r)=(Dd.tysL r).j (n::·):=rfl
def

ZHA(ns:U W'):Gq (ns.j D.r)=Z ns:=Sz ns
def

cQ:∀(ns:U jp),JC (ns.j D.bl)=Z ns
  |[]=>rfl
  |n::ns=>by erw[AT,JC,cQ ns];rfl
def
Zv{c:Type}{b:D->VE->O VE}{e:AB}{ρ:VE}(G F:c->D):∀(xs:U c),(∀x∈xs,∃a,b (G x) ρ=Z a/\e a=Z (F x))->ZL b (λ_=>Z J') e ρ (xs.j G)=Z (xs.j F)
 |[],_=>rfl
 |x::xs,h=>by
  let(a,h1,h2):=h x A6
  erw[AT,ZL,h1,h2,Zz,DG,Zv G F xs λy d=>h y (A5 _ d)]
def

Zq{a:Type}(l:U a)(h:l.a<=1000000):Zg (Z l)=Z l:=by
  have:l.a<=Az:=BX h (by ext)
  simp[this]
def
Tu{a c:Type}(f:a->c)(xs:U a)(lo b:O W'):cutD (xs.j f) lo b=(cutD xs lo b).j f:=by simp_all [cutD]
def
wF{a:Type}(xs:U a)(k:W')(h:0<=k):cutD xs J (Z k)=xs.ύ k.Β:=by
 unfold cutD
 rw[show HT.sIx xs.a 0 J=0 from rfl,show HT.sIx xs.a xs.a (Z k)=min k.Β xs.a by erw[HT.sIx];split<;>lia,List.drop_zero,Nat.sub_zero]
 rcases Nat.le_total k.toNat xs.length with h1|h1
 .rw[Nat.min_eq_left h1]
 .rw[Nat.min_eq_right h1,List.take_length,LB h1]
def
Tv{a:Type}(xs:U a)(k:W')(h:0<=k):cutD xs (Z k) J=xs.Ν k.Β:=by
 let e:HT.sIx xs.a xs.a J=xs.a:=rfl
 let b:HT.sIx xs.a 0 (Z k)=min k.Β xs.a:=by erw[HT.sIx];split<;>lia
 unfold cutD
 rw[e,b]
 rcases Nat.le_total k.toNat xs.length with h1|h1
 .rw[Nat.min_eq_left h1,LB (by rw[NH];show A9 _)]
 .rw[Nat.min_eq_right h1,List.drop_length,List.drop_of_length_le h1,List.take_nil]
def
cR{a:Type}(xs:U a)(i j:W')(b:0<=i)(c:0<=j):cutD xs (Z i) (Z j)=(xs.Ν i.Β).ύ (j.Β-i.Β):=by
 unfold cutD
 rw[show HT.sIx xs.a 0 (Z i)=min i.Β xs.a by erw[HT.sIx];split<;>lia,show HT.sIx xs.a xs.a (Z j)=min j.Β xs.a by erw[HT.sIx];split<;>lia]
 rcases Nat.le_total i.toNat xs.length with h1|h1
 .rw[Nat.min_eq_left h1]
  rcases Nat.le_total j.toNat xs.length with h2|h2
  .rw[Nat.min_eq_left h2]
  .rw[Nat.min_eq_right h2,LB (NH ▸ A9 _),LB (by rw[NH];lia)]
 .rw[Nat.min_eq_right h1,List.drop_length,List.drop_of_length_le h1,List.take_nil,List.take_nil]
def
wG(j:W')(a:0<=j)(h:j<1000000000):F2 [.r j]=Z ((Bf j.Β).j λ(k:Y)=>D.r k):=by grind [Kl,F2,M6]
def
JN(n:Y)(h:n<1000000000):F2 [.r n]=Z ((Bf n).j λ(k:Y)=>D.r k):=by
 rw[wG _ (Int.natCast_nonneg n) (Int.lt_toNat.mp h),Nw]
def
wH(i j:W')(a:0<=i)(h1:i<1000000000)(h:j<1000000000)(h2 : -1000000000<j):Lq [.r i,.r j]=Z ((Bf (j-i).Β).j λ(k:Y)=>D.r (i+(k:W'))):=by
 erw[Lq]
 rw[M6 #[∅,by show Int.lt_of_add_one_le h1,by show Int.Ϸ h2,by show Int.lt_of_add_one_le h]]
 rfl
def
KO(xs ys:U D)(h:xs.a+ys.a<=1000000):Zw (.U xs) (.U ys)=Z (.U (xs++ys)):=by
 erw[Zw]
 rw[if_pos (BX h (by ext))]
def
Tw(neg:jp)(c:Y)(z:Ae):Dx neg (.Α #[(T' [c])]) (.Α z)=Z (.bl (if neg then !decide (c∈z.ϐ.R)else decide (c∈z.ϐ.R))):=by
 let h:=StrLaws.found_one z c
 erw[Dx]
 rw[h]
def

Ic(d:D):Ct (.u d)=d:=rfl
def

DY(xs:U D)(b:Kd):Ct (.χ xs b)=.U xs b:=rfl
end Internal
set_option backward.eqns.nonrecursive true
set_option tactic.hygienic true
namespace Internal
open PySem PySem.Spec PyProof.Rows PySem.W
def cT(K:Am)(g:IS->O (jp×Gh)):TT:=λc H Q=>∃d s r,BI K d s c H/\g s=Z r/\∀a b,BI K a (s.1,r.2) c b->Go d s.2 H a r.2 b->Q r.1 b
@[simp]def L8(o:O (jp×Gh))(a c:IS->RI)(s:IS):RI:=match o with
  |some (b,G)=>if b=J' then a (s.1,G)else c (s.1,G)
  |none=>.ό
variable {e a b:Expr}{as bs:U AE}{h:IS->O Ae}{g1 g2:IS->RI}{g:IS->O IV}{f:IS->O D}{c m:Ae}
def
wI(d:JT Y' a (cT Y'.K gb))(e:JB Y' as (tK Y'.K g1))(hb:JB Y' bs (tK Y'.K g2)):JS Y' (.If a as bs pos) (tK Y'.K λs=>L8 (gb s) g1 g2 s):=#[(OJ d.h e.h hb.h).θ λD j H f=>by
 let(g,s,R,q):=f
 unfold L8 at q
 dsimp only at q
 split at q
 .next k l i=>
  apply#[g,s,_,R,i,λb m c go=>?_]
  cases k with
  |true=>show Jt #[b,_,c,CU.from go q]
  |false=>show Ju #[b,_,c,CU.from go q]
 .show q.Ζ]
end
variable {P:AR}{w:Ai}{K:Am}{mg:BE}{base:Ak}{N:U Ae}{n:Y}(h:XI P w K mg base X N sc)(r:AH n X.A)
include h
include r in
end
variable {K:Am}{Q:VK}{m i:Y}{D':Ends}
def
wJ(h:NC fl K (jG m ff) I H Q):∃M H0,Fi fl K M H0 ff I H Q:=by
 let(k,s,l,R,e,q):=h
 let(n,c,e):=BZ.mp e
 split at e
 .next d=>ext e;show#[_,_,_,_,R.vw,c,λa f i sm h1 h2 j=>q a f i sm h1 h2 (Ad.up R.g sm _ _ d (j.nw λb hb=>.S (hb.imp .S id)))]
 .cases e
def
wK(h:DA K (λs=>xF fl (gf s) s) I H Q):NC fl K gf I H Q:=by
 let(c,s,r,R,e,q):=h
 let(l,d,rfl):=Cd.mp e
 apply#[c,s,l,R,d,λa f i sm h1 h2 j=>q c _ i (R.κ sm) ?_ (Go.κ sm)]
 erw[Bn,Av]
 show#[a,f,rfl,.of (λz=>R.g.nh z h1) h2,j.nw λb hb=>.S (.S hb)]
def
wL(h:tK K (λs=>C5 i (gx s) s) D' I H):DA K gx I H λx c=>J7 i x I c D'.nx:=by
 let(d,s,R,q):=h
 dsimp only at q
 cases a:gx s with
 |none=>rw[a]at q;show q.Ζ
 |some r=>rw[a]at q;show#[d,s,r,R,a,λb v e f g go=>q b _ e (f.put i g) go]
end
variable {K:Am}{f:VE->A8}{b:D->VE->O VE}{t:VE->O jp}{e:AB}{spos:Aw}{oix:U Y}{n i m:Y}{N:U Ae}{x:Ae}{P:AR}{w:Ai}{K0:Am}{mg:BE}{base:Ak}
def
wM(h:XI P w K0 mg base X N sc)(q:CQ N sc scope n oix)(k:X.Ϭ=J')(C:K0=X.K)(c:N[i]?=Z x)(o:sc.υ.X x=Z .ϓ)(p:∀M H0,JI X tg iter (tI X.K M H0 f))(hb:CB X.K X (Ib scope) (oN N oix) scope tg ifs elt ws b t e)(r:∀j∈ws,j<n)(d:↑(Ej (.Τ elt [#[tg,iter,ifs,0]] scope pos) (Z (.ε x pos')) spos.ϥ X.G=Ax J'))(u:↥(∀x,FS iter X.G x=Ax x:6)):
  JS X (.Ϡ [.ε x pos'] (.Τ elt [#[tg,iter,ifs,0]] scope pos) spos) (tK X.K λs=>C5 i (xF .l (jG m (Zi n oix f b t e) s) s) s):=by
 let(_,_,E,_,_,rfl,rfl,nd):=h
 let(S,rfl,y):=q
 show#[λa s v H A F z=>by
  let(M,H0,B):=wJ (wK (wL z))
  show R9 _ _ oix S y k nd c o (p M H0).h hb.g hb.t hb.e d u a s v H A F (Pe r (λ_ _ _ z=>z) B)]
end
variable {K:Am}{M:Fb}{e:Expr}
def NI(i:Y)(o:O (D×VE)):Dm:=match o with
 |some (d,a)=>.β (a.Ε i (.u d))
 |none=>.ό
def
cU{i:Y}{x:Ae}{a:Aw}(g:X.N.ι)(c:JE X e (tX K M H0 fx))(j:↑(X.N[i]?=Z x))(k:↥(Loc X.G.Γ x:3))(l:↑(Ej e (Z (.ε x a)) pos.ϥ X.G=Ax O'))(b:↥(X.fn x=J'\/X.G.Γ.υ.X x=Z .ϓ:4)):
  JS X (.Ϡ [.ε x a] e pos) (tS K M H0 λρ=>NI i (fx ρ)):=#[have c:=c.h;(MD g j k c l b).θ λu w H m=>by
 let(ρ,R,q):=m
 try dsimp only at q
 cases b:fx ρ with
 |none=>rw[b]at q;show B0 q
 |some p=>
  let(d,f):=p
  rw[b]at q
  apply#[ρ,d,f,R,b,λv n o S r=>?_]
  let(s,t):=o.setV (i:=i) (Aj.ξ n) r
  show q _ _ s (S.J t)]
end
variable {M:Fb}{a b:Expr}{f g:VE->O D}
def
wN(d:X.A.η+64<As)(c:JE X a (tP X.K M H0 f))(hb:JE X b (tP X.K M H0 g))(e:↥(GG .In b=O':15)):JT X (.Ο a [.In] [b] pos) (BU X.K M H0 λρ=>AU (Za (Dx O') f g ρ)):=#[have c:=c.h;let hb:=hb.h;IC ((Sv O' d).or X5) (Sw O') c hb e]
end
end Internal
namespace Internal
open PySem PySem.Spec PyProof.Rows
abbrev EY(h:Ak)(T:Ac)(a b c:Aa):V':=h.Q T=Z {cls:=.ζ "tuple",data:=.ϰ (T' [a,b,c])}
variable {prog:AR}{w:Ai}{A:Af}{s:Ab}
def
Tz{T:Ac}{a b c x:Aa}{k:Y}(d:EY s.o T a b c)
  (h:∀h',h'.Q T=Z {cls:=.ζ "tuple",data:=.ϰ (((T' [a,b,c]):Array Aa).setIfInBounds k x)}->D1 T s.o h'->Q () {s with heap:=h' }):
  wpAny (Ag prog w) A (updateSeq T (·.setIfInBounds k x)) Q E s:=by
 apply wpAny_updateSeq d rfl (h _ ?_ (Kt ..))
 rw[SM _ d rfl]
 simp[GP]
def
Gw{i:Ac}{f:U Ac}{n k:Y}{st:Y->Ak->V'}(S:FH prog w i f n is st){h h':Ak}(q:st k h){c:Ac}(b:i≠c)(d:∀x∈f,x≠c)(g:D1 c h h'):st k h':=
 S.frame k h h' q λx a o e=>g.α x o (by rcases a with rfl|a;show b;show d x a) e
structure cV(z tin tout ia ib ic:Ac)(fa fb fc:List Ac):V' where
 z1:tin≠z
 z2:tout≠z
 z3:ia≠z
 z4:ib≠z
 z5:ic≠z
 a1:tout≠ia
 a2:tout≠ib
 a3:tout≠ic
 b1:ia≠ib
 b2:ia≠ic
 b3:ib≠ic
 f:∀b,b∈fa\/b∈fb\/b∈fc->b≠z/\b≠tout/\b≠ia/\b≠ib/\b≠ic
variable{z tin tout ia ib ic:Ac}{fa fb fc:U Ac}{n m l k:Y}{isC:Y->Aa->V'}{sa sc:Y->Ak->V'}{a b c:Aa}
def
cW{Q:O Aa->Ab->V'}(D:cV z tin tout ia ib ic fa fb fc)(N:FH prog w ia fa n isA sa)(SB:FH prog w ib fb m isB sb)(SC:FH prog w ic fc l isC sc)
  (hz:IsZip s.o z tin tout .σ) (hi:EY s.o tin (.C ia) (.C ib) (.C ic)) (ho:EY s.o tout a b c) (ha:sa k s.o) (hb:sb k s.o) (P:sc k s.o)
  (q:k<n->k<m->k<l->∀x y v h' G,isA k x->isB k y->isC k v->IsZip h' z tin tout (Bw s.o.E.y)->EY h' tout x y v->sa (k+1) h'->sb (k+1) h'->sc (k+1) h'->EY h' s.o.E.y x y v->h'.E.y=s.o.E.y+1 ->
   (∀c o,c≠z->c≠tout->c≠ia->c≠ib->c≠ic->s.o.Q c=Z o->h'.Q c=Z o)->Q (Z (.C s.o.E.y)) {s with heap:=h',toks:=G})
  (q2:n<=k\/m<=k\/l<=k->A.ϛ=J/\∀h' G,(∀c o,c≠z->c≠tout->c≠ia->c≠ib->c≠ic->s.o.Q c=Z o->h'.Q c=Z o)->Q J {s with heap:=h',toks:=G}):
  wpAny (Ag prog w) A (pyNext (.C z)) Q E s:=by
 let fA:=λx g=>D.f x (.S g)
 let H:=λx g=>D.f x (.τ (.S g))
 let W:=λx g=>D.f x (.τ (.τ g))
 let r:n<=k\/m<=k\/l<=k->∀(h':Ak) (G:Y) (e:Ac),(∀c o,c≠z->c≠tout->c≠ia->c≠ib->c≠ic->s.o.Q c=Z o->h'.Q c=Z o)->(∃o,h'.Q e=Z o/\o.cls=.ζ "StopIteration") ->
   wpAny (Ag prog w) A (do if(<- isInstance (.C e) (.ζ "StopIteration"))=J' then Ax (J:O Aa)else throw (Di e)) Q E {s with heap:=h',toks:=G}:=λkn h' G e kp ⟨o,p,d⟩=>
  Al (wpAny_isInstance (T:="StopIteration") (b:=J') #[o,p,d] isSubtype_stop (AO ((q2 kn).2 h' G kp)))
 let ty:s.TypeIs (.C z) "zip":=#[_,hz,rfl]
 apply Al (Nv (Kc (name:=EL "__next__") ty Th (Jn Th ty PySem.F.entry_zip_next ?_ (PySem.F.args_zip_next_1 _))))
 change wpAny _ _ (field (.C z) 2 >>= _) _ _ _
 apply Al (Eu hz rfl (x:=.ϝ O') rfl ?_)
 apply Al (Eu hz rfl (x:=.C tin) rfl ?_)
 apply Al (IQ hi rfl ?_)
 apply Al ?_
 apply Al (Eu hz rfl (x:=.σ) rfl (AO ?_))
 apply Al (Ix ?_)
 apply Al (Eu hz rfl (x:=.C tout) rfl ?_)
 apply Al (Fp hz (by simp) λg1 z1 b1=>?_)
 apply Al ?_
 apply Al (Al (wpAny_onRaise ?_))
 let R:=Gw N ha D.z3 (λx h=>(fA x h).1) b1
 by_cases Y':n<=k
 .apply Al (N.fin A.in1 _ _ k _ (q2 (.S Y')).1 Y' R λg2 e x2 he=>?_)
  let(oe,p,d):=he
  let z2:IsZip g2 z tin tout .ϸ:=x2 _ _ (BF D.z3) z1
  let ez:e≠z:=λx=>by subst x;rw[z2]at p;ext p;simp at d
  show Fp z2 (by simp) λg3 _ b3=>r (.S Y') g3 s.ω e (λc o d _ B _ _ x=>b3.α _ _ d (x2 _ _ B (b1.α _ _ d x))) #[oe,b3.α _ _ ez p,d]
 .apply Al (N.item _ _ _ k _ (IR Y') R λx g2 tk2 g a2 b2=>AO ?_)
  let o2:EY g2 tout a b c:=b2.α _ _ D.a1 (b1.α _ _ D.z2 ho)
  apply Al (IQ o2 rfl ?_)
  apply Al (Tz o2 λg3 o3 b3=>?_)
  let o3:EY g3 tout x b c:=o3
  apply Al (Kx (AO ?_))
  apply Al (Al (wpAny_onRaise ?_))
  let hb3:sb k g3:=Gw SB (Gw SB (Gw SB hb D.z4 (λx h=>(H x h).1) b1) (BF D.b1) (λx h=>(H x h).2.2.1) b2) (BF D.a2) (λx h=>(H x h).2.1) b3
  let z3:IsZip g3 z tin tout .ϸ:=b3.α _ _ (BF D.z2) (b2.α _ _ (BF D.z3) z1)
  by_cases kb:m<=k
  .apply Al (SB.fin A.in1 _ _ k _ (q2 (.τ (.S kb))).1 kb hb3 λg4 e x4 he=>?_)
   let(oe,p,d):=he
   let z4:IsZip g4 z tin tout .ϸ:=x4 _ _ (BF D.z4) z3
   let ez:e≠z:=λx=>by subst x;rw[z4]at p;ext p;simp at d
   show Fp z4 (by simp) λg5 _ t=>r (.τ (.S kb)) g5 tk2 e (λc o d u B K _ x=>t.α _ _ d (x4 _ _ K (b3.α _ _ u (b2.α _ _ B (b1.α _ _ d x))))) #[oe,t.α _ _ ez p,d]
  .apply Al (SB.item _ _ _ k _ (IR kb) hb3 λy g4 tk4 hy a4 L=>AO ?_)
   let o4:EY g4 tout x b c:=L.α _ _ D.a2 o3
   apply Al (IQ o4 rfl ?_)
   apply Al (Tz o4 λg5 o5 t=>?_)
   let o5:EY g5 tout x y c:=o5
   apply Al (Kx (AO ?_))
   apply Al (Al (wpAny_onRaise ?_))
   let hc5:sc k g5:=Gw SC (Gw SC (Gw SC (Gw SC (Gw SC P D.z5 (λx h=>(W x h).1) b1) (BF D.b2) (λx h=>(W x h).2.2.1) b2) (BF D.a3) (λx h=>(W x h).2.1) b3) (BF D.b3) (λx h=>(W x h).2.2.2.1) L) (BF D.a3) (λx h=>(W x h).2.1) t
   let z5:IsZip g5 z tin tout .ϸ:=t.α _ _ (BF D.z2) (L.α _ _ (BF D.z4) z3)
   by_cases kc:l<=k
   .apply Al (SC.fin A.in1 _ _ k _ (q2 (.τ (.τ kc))).1 kc hc5 λg6 e x6 he=>?_)
    let(oe,p,d):=he
    let z6:IsZip g6 z tin tout .ϸ:=x6 _ _ (BF D.z5) z5
    let ez:e≠z:=λx=>by subst x;rw[z6]at p;ext p;simp at d
    show Fp z6 (by simp) λj _ C=>r (.τ (.τ kc)) j tk4 e (λc o d u B K c5 x=>C.α _ _ d (x6 _ _ c5 (t.α _ _ u (L.α _ _ K (b3.α _ _ u (b2.α _ _ B (b1.α _ _ d x))))))) #[oe,C.α _ _ ez p,d]
   .apply Al (SC.item _ _ _ k _ (IR kc) hc5 λv g6 tk6 hv a6 M=>AO ?_)
    let o6:EY g6 tout x y c:=M.α _ _ D.a3 o5
    apply Al (IQ o6 rfl ?_)
    apply Al (Tz o6 λj o7 C=>?_)
    let o7:EY j tout x y v:=o7
    apply Al (Kx (AO (AO ?_)))
    apply Al (IQ o7 rfl ?_)
    apply Al (wpAny_newTuple ?_)
    let sz:j.E.y=s.o.E.y:=by rw[C.1,M.1,t.1,L.1,b3.1,b2.1,b1.1]
    let z7:IsZip j z tin tout .ϸ:=C.α _ _ (BF D.z2) (M.α _ _ (BF D.z5) z5)
    let kp:∀c o,c≠z->c≠tout->c≠ia->c≠ib->c≠ic->s.o.Q c=Z o->j.Q c=Z o:=λc o d u B K c5 e=>
     C.α _ _ u (M.α _ _ c5 (t.α _ _ u (L.α _ _ K (b3.α _ _ u (b2.α _ _ B (b1.α _ _ d e))))))
    let a7:sa (k+1) j:=N.frame _ _ _ a2 λx g o e=>by
     let g:x≠tout/\x≠ib/\x≠ic:=by
      rcases g with rfl|g
      .show#[BF D.a1,D.b1,D.b2]
      .show#[(fA x g).2.1,(fA x g).2.2.2]
     show C.α _ _ g.1 (M.α _ _ g.2.2 (t.α _ _ g.1 (L.α _ _ g.2.1 (b3.α _ _ g.1 e))))
    let b7':sb (k+1) j:=Gw SB (Gw SB (Gw SB a4 (BF D.a2) (λx h=>(H x h).2.1) t) D.b3 (λx h=>(H x h).2.2.2.2) M) (BF D.a2) (λx h=>(H x h).2.1) C
    let c7':sc (k+1) j:=Gw SC a6 (BF D.a3) (λx h=>(W x h).2.1) C
    let zlt:z<j.E.y:=BK z7
    apply Al ?_
    let z8:IsZip (j.Μ {cls:=.ζ "tuple",data:=.ϰ (T' [x,y,v])}) z tin tout .ϸ:=Bg _ z7
    apply Al (Fp z8 (by simp) λg9 z9 b9=>?_)
    apply Fp z9 (by simp) λgA zA bA=>?_
    let up:∀c o,c≠z->j.Q c=Z o->gA.Q c=Z o:=λc o d e=>bA.α _ _ d (b9.α _ _ d (Bg _ e))
    let new:EY gA j.E.y x y v:=bA.α _ _ (Hh zlt) (b9.α _ _ (Hh zlt) (B7 _ rfl))
    let sA:gA.E.y=j.E.y+1:=by rw[bA.1,b9.1,FU]
    let fin:∀{i:Ac} {f:U Ac} {n:Y} {is:Y->Aa->V'} {st:Y->Ak->V'} (S:FH prog w i f n is st),i≠z->(∀x∈f,x≠z)->st (k+1) j->st (k+1) gA:=λS hi hf q=>S.frame _ _ _ q λc P o e=>up c o (by rcases P with rfl|P;show hi;show hf c P) e
    rw[sz]at zA new sA
    apply AO #[_,rfl,AO ?_]
    rw[sz]
    show q (IR Y') (IR kb) (IR kc) x y v gA tk6 g hy hv zA (up _ _ D.z2 o7) (fin N D.z3 (λx h=>(fA x h).1) a7) (fin SB D.z4 (λx h=>(H x h).1) b7') (fin SC D.z5 (λx h=>(W x h).1) c7') new sA λc o d u B K c5 e=>up c o d (kp c o d u B K c5 e)
end
@[reducible] def NJ(h:Ak)(A B C:AC)(u v t:Aa):Ak:=(HZ h A B u v).Μ (C.obj t)
@[reducible] def PR(h:Ak)(A B C:AC)(u v t:Aa):Ak:=(NJ h A B C u v t).Μ {cls:=.ζ "tuple",data:=.ϰ (T' [.C h.E.y,.C (IT h A u).E.y,.C (HZ h A B u v).E.y])}
@[reducible] def PU(h:Ak)(A B C:AC)(u v t:Aa):Ak:=(PR h A B C u v t).Μ {cls:=.ζ "tuple",data:=.ϰ (T' [.σ,.σ,.σ])}
@[reducible] def JP(h:Ak)(A B C:AC)(u v t:Aa):Ak:=(PU h A B C u v t).Μ {cls:=.ζ "zip",data:=.ϊ (T' [.σ,.ϝ O',.ϝ O',.C (NJ h A B C u v t).E.y,.C (PR h A B C u v t).E.y])}
def
wO(A B C:AC){v t:Aa}(f:RelV A.v u)(i:RelV B.v v)(rt:RelV C.v t)(xs ys vs:U V):Meets (F0.«zip.__new__» #[[.ζ "zip",u,v,t],[]]) (λ_ R s=>A.ok s.o xs/\B.ok s.o ys/\C.ok s.o vs/\R (.ok (.Ϻ (.C (PU s.o A B C u v t).E.y))) {s with heap:=JP s.o A B C u v t}):=
 .of_wp λprog w l R s h=>by
  let(a,g,d,c,os):=s;let(h1,h2,j,q):=h
  let m:=sub_zip
  let k1:A.ok (Shared.o #[a,g,d,c,os]) xs:=h1
  let k2:B.ok (Shared.o #[a.Μ (A.obj u),g,d,c,os]) ys:=B.okAt h2 λb _ o e=>Bg _ e
  let k:C.ok (Shared.o #[(a.Μ (A.obj u)).Μ (B.obj v),g,d,c,os]) vs:=C.okAt j λb _ o e=>Bg _ (Bg _ e)
  wp_walk using A.pyIter f k1,B.pyIter i k2,C.pyIter rt k
  show#[_,rfl,q]
def
wP(a b c:Aa):checkTypeCall "zip" {pos:=[a,b,c]}=Ax ():=by kernel_rfl
def
wQ(a b c:Aa):checkBuiltinCall "zip.__new__" {pos:=[Value.ζ "zip",a,b,c]}=Ax ():=by kernel_rfl
def
wR(a b c d:Aa):argsOk "object.__init__" ⟨[a,b,c,d],[]⟩:=by
 unfold argsOk;rw[signature?_of (id:="object.__init__") (n:=['_','_','t','i','n','i','_','_']) (o:=['t','c','e','j','b','o']) (by kernel_rfl) PySem.F.owner_object];kernel_rfl
variable {prog:AR}{w:Ai}{A:Af}{s:Ab}
def
wS{S T p:AC}{xs:U V}{v t:Aa}(d:RelV S.v u)(f:RelV T.v v)(rt:RelV p.v t){Q:AQ}(p1:S.ok s.o xs)(l:T.ok s.o ys)(m:p.ok s.o vs)
  (q:∀h',IsZip h' (s.o.E.y+5) (s.o.E.y+3) (s.o.E.y+4) .σ->EY h' (s.o.E.y+3) (.C s.o.E.y) (.C (s.o.E.y+1)) (.C (s.o.E.y+2)) ->
   EY h' (s.o.E.y+4) .σ .σ .σ->S.it h' s.o.E.y 0->T.it h' (s.o.E.y+1) 0->p.it h' (s.o.E.y+2) 0->(∀c o,s.o.Q c=Z o->h'.Q c=Z o)->Q (.C (s.o.E.y+5)) {s with heap:=h' }):
  wpAny (Ag prog w) A (call (.ζ "zip") [u,v,t]) Q E s:=by
 apply callType_new PySem.F.called_zip (by ext) (wP _ _ _) (wQ _ _ _) (λobj=>wR obj _ _ _) PySem.F.entry_zip_new (wO S T p d f rt xs ys vs) #[p1,l,m,?_]
 let z1:(IT s.o S u).E.y=s.o.E.y+1:=FU ..
 let z2:(HZ s.o S T u v).E.y=s.o.E.y+2:=by rw[FU,z1]
 let z3:(NJ s.o S T p u v t).E.y=s.o.E.y+3:=by rw[FU,z2]
 let z4:(PR s.o S T p u v t).E.y=s.o.E.y+4:=by rw[FU,z3]
 let z5:(PU s.o S T p u v t).E.y=s.o.E.y+5:=by rw[FU,z4]
 let b:(JP s.o S T p u v t).Q (PU s.o S T p u v t).E.y=Z _:=B7 _ rfl
 let g:(JP s.o S T p u v t).Q (PR s.o S T p u v t).E.y=Z _:=Bg _ (B7 _ rfl)
 let i:(JP s.o S T p u v t).Q (NJ s.o S T p u v t).E.y=Z _:=Bg _ (Bg _ (B7 _ rfl))
 let a:∀c o,(NJ s.o S T p u v t).Q c=Z o->(JP s.o S T p u v t).Q c=Z o:=λc o e=>Bg _ (Bg _ (Bg _ e))
 let j:p.it (JP s.o S T p u v t) (HZ s.o S T u v).E.y 0:=p.itAt (p.new (h:=HZ s.o S T u v) rt) λo e=>a _ o e
 let k:T.it (JP s.o S T p u v t) (IT s.o S u).E.y 0:=T.itAt (T.new (h:=IT s.o S u) f) λo e=>a _ o (Bg _ e)
 let n:S.it (JP s.o S T p u v t) s.o.E.y 0:=S.itAt (S.new (h:=s.o) d) λo e=>a _ o (Bg _ (Bg _ e))
 rw[z3,z4,z5]at b
 rw[z1,z2,z3]at i
 rw[z4]at g
 rw[z1]at k
 rw[z2]at j
 rw[z5]
 show#[#[_,b,rfl],q _ b i g n k j λc o e=>a _ _ (Bg _ (Bg _ (Bg _ e)))]
end
def cX(K:Am)(S T e:AC):It:=
 #[λi H=>∃a b c x y v,S.sq K H a/\T.sq K H b/\e.sq K H c/\a[i]?=Z x/\b[i]?=Z y/\c[i]?=Z v,
  λi H r d=>∃p x y v,r=.C p/\H p=J/\d=AX H p (.O [x,y,v])/\(∀a,S.sq K H a->a[i]?=Z x)/\(∀b,T.sq K H b->b[i]?=Z y)/\∀c,e.sq K H c->c[i]?=Z v,
  λi H=>∃a b c,S.sq K H a/\T.sq K H b/\e.sq K H c/\(a.a<=i\/b.a<=i\/c.a<=i)]
def
cY{n:Y}{S T c:AC}(h1:∀b∈S.fp,b<n)(h2:∀b∈T.fp,b<n)(a:∀b∈c.fp,b<n):cV (n+5) (n+3) (n+4) n (n+1) (n+2) S.fp T.fp c.fp:=by
 apply#[?_,?_,?_,?_,?_,?_,?_,?_,?_,?_,?_,λb hb=>?_]
 all_goals try(show @Ne Y _ _;lia)
 let hb:b<n:=by
  rcases hb with z|z|z
  .show h1 b z
  .show h2 b z
  .show a b z
 let hb:@LT.lt Y _ b n:=hb
 apply#[?_,?_,?_,?_,?_]<;>(show @Ne Y _ _;lia)
def
wT{P:AR}{w:Ai}{K:Am}{p:U Expr} {x1} (S T W:AC) (n:Y) (h1:∀b∈S.fp,b<n) (h2:∀b∈T.fp,b<n) (h3:∀b∈W.fp,b<n):
  Hi P w K (.oo p x1 pos) (cX K S T W) [n+5,n+3,n+4,n,n+1,n+2] (n+5) (λi h=>IsZip h (n+5) (n+3) (n+4) .σ/\EY h (n+3) (.C n) (.C (n+1)) (.C (n+2))/\(∃a b c,EY h (n+4) a b c)/\S.it h n i/\T.it h (n+1) i/\W.it h (n+2) i) where
 mem:=by simp
 obj:=λi h st q g=>by
  let(z,a,(x,y,v,b),c,d,e):=st
  erw[Bl,HQ,or_false]at g
  rcases g with rfl|rfl|rfl|rfl|rfl|rfl
  .show#[_,z,λv e=>nomatch (show Data.ϊ _=Data.Ξ v from e)]
  .show#[_,a,λv e=>nomatch (show Data.ϰ _ _=Data.Ξ v from e)]
  .show#[_,b,λv e=>nomatch (show Data.ϰ _ _=Data.Ξ v from e)]
  .show S.itOb c
  .show T.itOb d
  .show W.itOb e
 keep:=λi h G ⟨z,a,⟨x,y,v,b⟩,c,d,f⟩ k=>#[k _ (by simp) _ z,k _ (by simp) _ a,#[x,y,v,k _ (by simp) _ b],S.itAt c λo e=>k _ (by simp) o e,T.itAt d λo e=>k _ (by simp) o e,W.itAt f λo e=>k _ (by simp) o e]
 item:=by
  intro X Q Y' hK hc i l s I H E zA F #[z,a,#[u,v,t,b],c,d,f] #[xs,ys,vs,x,y,v3,L,M,N,ex,ey,ev]
  subst Q Y' hK
  let(sa,SA,c1,c2):=S.sub (P:=X.γ) (w:=X.w) (i:=n) (S.of zA L)
  let(sb,SB,d1,d2):=T.sub (P:=X.γ) (w:=X.w) (i:=n+1) (T.of zA M)
  let(sc,SC,f1,f2):=W.sub (P:=X.γ) (w:=X.w) (i:=n+2) (W.of zA N)
  let l1:=(BR.mp ex).1
  let l2:=(BR.mp ey).1
  let l3:=(BR.mp ev).1
  apply cW (cY h1 h2 h3) SA SB SC z a b (c1 _ c) (d1 _ d) (f1 _ f) (λ_ _ _ x' y' v' G R hx' hy' hv' z' to' c' d' f' new sz kp=>?_) λhl=>absurd hl ∅
  let(x2,r,ru1):=hx'
  let(y2,A,ru2):=hy'
  let(v2,B,ru3):=hv'
  rw[ex]at r;ext r
  rw[ey]at A;ext A
  rw[ev]at B;ext B
  let c':=c2 _ _ c'
  let d':=d2 _ _ d'
  let f':=f2 _ _ f'
  apply#[_,rfl,wpAny_letOwnedTupleGo_zip z' λj z2 sb=>?_]
  let hlt:n+5<s.o.E.y:=BK z
  let m:∀q o,q≠n+5->G.Q q=Z o->j.Q q=Z o:=λq o g e=>sb.α _ _ g e
  let I1:Inv X l I (AX H s.o.E.y (.O [x,y,v3])) {s with heap:=j,toks:=R}:=by
   apply Inv.tok (s:={s with heap:=j}) ?_ R
   apply zA.yielded F (λq o g e=>m q o (λz=>g (by simp[z])) (kp q o (λz=>g (by simp[z])) (λz=>g (by simp[z])) (λz=>g (by simp[z])) (λz=>g (by simp[z])) (λz=>g (by simp[z])) e)) (A9 _) ?_
   show#[show 3<=Az by ext,[x',y',v'],.Η ru1 (.Η ru2 (.Η ru3 .Ϝ)),#[_,m _ _ (by(show @Ne Y _ _;show BF (B6 hlt))) new,rfl,_,rfl]]
  let kt:EY j (n+3) (.C n) (.C (n+1)) (.C (n+2)):=m _ _ (by(show @Ne Y _ _;lia)) (kp _ _ (by(show @Ne Y _ _;lia)) (by(show @Ne Y _ _;lia)) (by(show @Ne Y _ _;lia)) (by(show @Ne Y _ _;lia)) (by(show @Ne Y _ _;lia)) a)
  apply#[.C s.o.E.y,_,I1,rfl,#[_,x,y,v3,rfl,zA.Ϣ.Κ (A9 _),rfl,λzs C=>by rw[S.inj zA C L];show ex,λzs C=>by rw[T.inj zA C M];show ey,λzs C=>by rw[W.inj zA C N];show ev],#[z2,kt,#[x',y',v',m _ _ (by(show @Ne Y _ _;lia)) to'],S.itAt c' λo e=>m _ o (by(show @Ne Y _ _;lia)) e,T.itAt d' λo e=>m _ o (by(show @Ne Y _ _;lia)) e,W.itAt f' λo e=>m _ o (by(show @Ne Y _ _;lia)) e],λq g=>?_]
  rw[Zt]
  .show(F q g).1
  .erw[Bl,HQ,or_false]at g
   rcases g with rfl|rfl|rfl|rfl|rfl|rfl<;>(show @Ne Y _ _;lia)
 done:=by
  intro X Q Y' hK hc i l s I H E zA F #[z,a,#[u,v,t,b],c,d,f] #[xs,ys,vs,L,M,N,hl]
  subst Q Y' hK
  let(sa,SA,c1,c2):=S.sub (P:=X.γ) (w:=X.w) (i:=n) (S.of zA L)
  let(sb,SB,d1,d2):=T.sub (P:=X.γ) (w:=X.w) (i:=n+1) (T.of zA M)
  let(sc,SC,f1,f2):=W.sub (P:=X.γ) (w:=X.w) (i:=n+2) (W.of zA N)
  show cW (cY h1 h2 h3) SA SB SC z a b (c1 _ c) (d1 _ d) (f1 _ f) (λz1 z2 z3=>absurd hl ∅) λ_=>#[zA.ok.hd hc,λG R kp=>#[rfl,Inv.tok (s:={s with heap:=G}) (zA.turnedL F λq o g e=>kp q o (λz=>g (by simp[z])) (λz=>g (by simp[z])) (λz=>g (by simp[z])) (λz=>g (by simp[z])) (λz=>g (by simp[z])) e) R]]
 self:=λ_ _ _ _ _ ⟨z,_⟩ q=>wpAny_pyIter_zip z q
def DZ:U D->U D->U D->U D
 |x::a,y::b,z::c=>.O [x,y,z]::DZ a b c
 |_,_,_=>[]
def
cZ:∀(xs ys zs:U D)(i:Y),(DZ xs ys zs)[i]?=(match xs[i]?,ys[i]?,zs[i]? with
  |some x,Z y,Z z=>Z (.O [x,y,z])
  |_,_,_=>J)/\((DZ xs ys zs)[i]?=J->xs.a<=i\/ys.a<=i\/zs.a<=i)
 |[],_,_,i=>by simp[DZ]
 |_::_,[],_,i=>by
  erw[DZ,List.getElem?_nil]
  split<;>simp_all
 |_::_,_::_,[],i=>by
  erw[DZ,List.getElem?_nil]
  split<;>simp_all
 |x::xs,y::ys,z::zs,0=>by simp[DZ]
 |x::xs,y::ys,z::zs,i+1=>by
  have:=cZ xs ys zs i
  simpa[DZ]using this
def
wU{K:Am}{M N:Fb}{S T R:AC}{ys zs:U D}{us ws:U V}(h1:Ad K N H xs us)(h2:Ad K N H ys vs)(j:Ad K N H zs ws)(o:∀b a,Step M N b H a->S.sq K a us)(q:∀b a,Step M N b H a->T.sq K a vs)(q3:∀b a,Step M N b H a->R.sq K a ws):
  Kk K M N H (cX K S T R) (DZ xs ys zs):=λb a St i=>by
 let e:=o _ _ St
 let f:=q _ _ St
 let g:=q3 _ _ St
 let s:=Ad.ώ St _ _ h1
 let t:=Ad.ώ St _ _ h2
 let A:=Ad.ώ St _ _ j
 let(c,B):=cZ xs ys zs i
 apply#[λd h=>?_,λh=>#[us,vs,ws,e,f,g,?_]]
 .rw[h]at c
  split at c
  .next x y z ex C E=>
   ext c
   let(u,k,G):=s.Ι ex
   let(v,l,dv):=t.Ι C
   let(w,m,W):=A.Ι E
   apply#[#[us,vs,ws,u,v,w,e,f,g,k,l,m],λr H3 F=>?_]
   let(p,u',v',w',L,n,P,Q,Y',w3):=F
   have:=Q us e;rw[k]at this;ext this
   have:=Y' vs f;rw[l]at this;ext this
   have:=w3 ws g;rw[m]at this;ext this
   subst L P
   show#[Sb n,Ly n (Ad.Η G (Ad.Η dv (Ad.Η W Ad.Ϝ)))]
  .cases c
 .let l1:=h1.a
  let l2:=h2.a
  let l3:=j.a
  have:=B (Sh (K9 h.Ρ))
  lia
@[simp]def PV(f g k:AB):VE->A8:=λa=>match(f a).L ZX,(g a).L ZX,(k a).L ZX with
  |some b,Z c,Z d=>Z (DZ b c d)
  |_,_,_=>J
def
wV{M:Fb}{f g k:AB}{a b c:Expr}{x:U Expr}{p y:Aw} {x1} (hg:Gl X "zip") (hm:X.mg "zip"=J) (ha:JE X a (tQ X.K M H0 f)) (hb:JE X b (tQ X.K M H0 g)) (hc:JE X c (tQ X.K M H0 k)) (hs:↑(AL [a,b,c] X.G=[(O',An a X.G),(O',An b X.G),(O',An c X.G)])) (i:↑(AL [b,c] X.G=[(O',An b X.G),(O',An c X.G)])) (A:↑(AL [c] X.G=[(O',An c X.G)])) (N:↑(AL [] X.G=[])):
  JI X (.oo x x1 y) (.Θ (.ε "zip" p) [a,b,c] [] pos) (tI X.K M H0 (PV f g k)):=#[by
 intro B s m H Q zA #[j,ds,R,e,q]
 unfold PV at e
 split at e
 .next xs ys zs ex P Y'=>
  ext e
  let(d1,hf,ex):=BZ.mp ex
  let(d2,hgv,P):=BZ.mp P
  let(d3,hkv,Y'):=BZ.mp Y'
  let PA3:=Z0 ha.h (Z0 hb.h (Z0 hc.h Bq (by rw[A,N])) (by rw[i,A])) (by rw[hs,i])
  apply Call_ (GD zA hg hm cj (K7 (A0 (PA3 pos B s m H (λvs l=>∃S T W C E G,vs=[AC.v S,AC.v T,AC.v W]/\Aj H l/\Ad X.K (Nf M j m) l xs C/\Ad X.K (Nf M j m) l ys E/\Ad X.K (Nf M j m) l zs G/\(∀n d,Step M (Nf M j m) n l d->S.sq X.K d C)/\(∀n d,Step M (Nf M j m) n l d->T.sq X.K d E)/\∀n d,Step M (Nf M j m) n l d->W.sq X.K d G) zA ?_) λC s1 ⟨vs,H1,w,r1,q1⟩=>?_) (by rw[hs,i]) (by rw[i];rfl)))
  .apply#[j,d1,R,hf,λv1 H1 z1 q1=>#[j,d2,R.st z1,hgv,λv2 l z2 q2=>#[j,d3,(R.st z1).st z2,hkv,λv3 d z3 q3=>?_]]]
   let(S,C,e1,o,k1):=LZ q1 ex
   let(T,E,e2,t,k2):=LZ q2 P
   let(W,G,e3,u,L):=LZ q3 Y'
   show#[S,T,W,C,E,G,by rw[e1,e2,e3],(z1.J z2).J z3,(o.κ z2).κ z3,t.κ z3,u,λn d St=>k1 _ _ ((Step.ϑ (z2.J z3)).J St),λn d St=>k2 _ _ ((Step.ϑ z3).J St),L]
  .let(S,T,W,us',E,G,e1,z,o,t,u,k1,k2,L):=q1
   subst e1
   cases r1 with
   |cons r F=>
    cases F with
    |cons r' F=>
     cases F with
     |cons r'' F=>
      ext F
      let o1:=S.of w (k1 _ _ Step.ξ)
      let o2:=T.of w (k2 _ _ Step.ξ)
      let o3:=W.of w (L _ _ Step.ξ)
      apply wS r r' r'' o1 o2 o3 λh' a1 a2 a3 a4 a5 a6 kp=>wpAny_pyIter_zip a1 ?_
      apply#[_,_,_,_,H1,rfl,w.ϟ (t':=s1.ω) kp,wT S T W s1.o.E.y (S.lt o1) (T.lt o2) (W.lt o3),#[a1,a2,#[_,_,_,a3],a4,a5,a6],λb hb=>?_,q _ _ z (wU o t u k1 k2 L)]
      let hl:s1.o.E.y<=b:=by
       erw[Bl,HQ,or_false]at hb
       rcases hb with rfl|rfl|rfl|rfl|rfl|rfl<;>(show @LE.le Y _ _ _;lia)
      show w.fpOk hl (w.Ϣ.Κ hl)
 .cases e]
open PySem.W
variable {K:Am}
def c0:V->U V->Hp->VK->V':=λx a H Q=>∃z i,x=.Α z/\a=[.r i]/\PadOk i=J'/\Q (.Α (Ie z i)) H
def
wW:Kf X "str.zfill" c0:=by
 intro a s f H x g v j Q m b c h
 let(z,i,rfl,rfl,d,q):=h
 let(t,rfl):=b
 let(u,rfl,l,rfl):=El c
 show SC.zfill d λe k=>#[.Α _,H,m.tok _,#[_,rfl],q]
def L9(z:Ae):U D->O D
 |[.int i]=>gd (0<=i/\i<1000000) (Z (.Α (Ie z i)))
 |_=>J
def
wX{i:W'}(a:0<=i)(h1:i<1000000):PadOk i=J':=by
 unfold PadOk fitsSsize Builtin.Str.tooLong
 rw[C2,LS,LS,Bool.or_eq_false_iff]
 apply#[#[decide_eq_false ∅,decide_eq_false ∅],decide_eq_false ?_]
 let h2:i.Β<1000000:=∅
 let b:(1000000:Y)<=Az:=by ext
 lia
def
wY:aO K c0 L9:=by
 intro N H z c f d Q g h e q
 unfold L9 at e
 split at e
 .next i=>
  let(a,e):=Si e
  ext e
  let(v,rfl,b):=Paired.one' h
  show#[z,i,rfl,by rw[b.r],wX a.1 a.2,q _ H (Aj.ξ H) M8]
 .cases e
def

wZ(z:Ae)(i:W')(a:0<=i)(h1:i<1000000):L9 z [.r i]=Z (.Α (Ie z i)):=by
  unfold L9
  show M6 #[a,h1]
end
def w5(K:Am):V->U V->Hp->VK->V':=λx b H Q=>∃a tr k y z,x=.C a/\b=[y,z]/\Cq K H a tr/\HS k tr/\EB K H k y/\(∀v,Z9 tr k=Z v->Q v H)/\(Z9 tr k=J->Q z H)
section
def
w6(N:X.A.η+64<As):Kf X "dict.get" (w5 X.K):=by
 intro j s R H x T v e Q S B C h
 let(a,tr,k,y,z,rfl,rfl,hd,m,n,o,q):=h
 ext B
 let(E,r,rfl,t,u):=C.two
 cases k with
 | «at» b=>
  ext n
  let(G,i,nd,e,f,g):=LJ S hd m
  let h1:=f.u b
  apply LL NB g.ϖ Tg (PySem.F.args_dict_get_3 _ _ _) (meets_dict_get_default (ZI X.γ X.w) a (Hu t) i r) #[_,g.mapOf,?_]
  cases c:Z9 tr (.at b)with
  |none=>
   cases d:valueAt e b with
   |none=>show#[z,H,S.tok _,u,q c]
   |some w=>rw[c,d]at h1;show h1.Ζ
  |some w=>
   cases d:valueAt e b with
   |none=>rw[c,d]at h1;show h1.Ζ
   |some P=>rw[c,d]at h1;show#[w,H,S.tok _,h1,o w c]
 |tup l=>
  let(p,L,M):=n
  subst L
  cases(show E=Di p from t)
  let(G,i,nd,e,f,g):=Kr S hd m
  let h1:=f.u l
  apply LL NB g.ϖ Tg (PySem.F.args_dict_get_3 _ _ _) (meetsH_dict_get_default (BW (ZI X.γ X.w)) a p i r) #[Ks ∅,l,e,IH S M,g,?_]
  cases c:Z9 tr (.O l)with
  |none=>
   cases d:atKey e l with
   |none=>show#[z,H,S.tok _,u,q c]
   |some w=>rw[c,d]at h1;show h1.Ζ
  |some w=>
   cases d:atKey e l with
   |none=>rw[c,d]at h1;show h1.Ζ
   |some P=>rw[c,d]at h1;show#[w,H,S.tok _,h1,o w c]
def PX(i:Y)(c e:VE->O D):VE->O D:=λb=>match EO b i,c b,e b with
 |some f,Z y,Z d=>match DV f,Df y with
  |some a,Z k=>if DJ k a then Z ((Zl a k).B d)else J
  |_,_=>J
 |_,_,_=>J
variable{K:Am}{M:Fb}{ev:Expr}{fk fv:VE->O D}
def
w9{i:Y}{x:Ae}{e g c:Aw}(hu:X.A.η+64<As)(hk:JE X ek (tP X.K M H0 fk))(t:JE X ev (tD X.K M H0 fv))(hN:↥(NV X i x:8))
  (j:↑(FV (.ε x e) "get" X.G (An (.ε x e) X.G)=An (.ε x e) X.G))
  (m:↑(((AD c (AL [ek,ev] X.G)).ϔ (λx=>!x.1)&&(GI c (GJ [] X.G)).ϔ (λx=>x.1.μ)
   && decide ([ek,ev].a+([]:U Em).a+(if([]:U Em).Χ then 0 else 1)<30))=J'))
  (l:↑((g.϶==c.ϥ)=J')) (n:↥(AL [ek,ev] X.G=(O',An ek X.G)::AL [ev] X.G:7)) (o:↥(AL [ev] X.G=(O',An ev X.G)::AL [] X.G:7)) (z:↑((AD c (AL [ev] X.G)).any (·.1)=O')):
  JE X (.Θ (.δ (.ε x e) "get" g) [ek,ev] [] c) (tD X.K M H0 (PX i fk fv)):=
 #[(Jp br NB PySem.F.type_dict_get (w6 hu) (GQ hN) (Z0 hk.h (Z0 t.h Bq o) n) j m l n z).θ λI H Q h=>by
   let(T,d,R,ex,q):=h
   unfold PX at ex
   split at ex
   .next xs y dv hr B C=>
    split at ex
    .next p k E G=>
     split at ex
     .next hh=>
      ext ex
      let zA:=Lp hr
      let P:=Gr E
      subst P
      let(a,vs,e1,z1,z2,z3,z4):=R.ϣ i _ zA
      let ha:=AG e1
      let tv:OY X.K "dict" (.C a) H:=.τ (.τ #[rfl,_,_,.S z3])
      apply#[.C a,ha,tv,T,y,R,B,λw H1 W Y'=>#[T,dv,R.st W,C,λv L s2 hv=>?_]]
      let s:=W.J s2
      let(tr,e',r):=LO (z4.κ s)
      subst e'
      rw[IJ G]at Y'
      let N:=HU (Y'.κ s2)
      let b:=r.u k
      apply#[a,tr,k,w,v,rfl,rfl,#[.S (show L a=Z (ER tr) by rw[<- JD r];show s _ _ z3),r.keys],r.hom hh,IK N,λu S=>?_,λhn=>?_]
      .rw[S]at b
       cases f:Zl p k with
       |none=>rw[f]at b;show b.Ζ
       |some d0=>
        rw[f]at b q
        show q u L s b
      .rw[hn]at b
       cases f:Zl p k with
       |some d0=>rw[f]at b;show b.Ζ
       |none=>
        rw[f]at q
        show q v L s hv
     .cases ex
    .cases ex
   .cases ex]
end
variable {pins:U (Ac×Obj)}{s:Ab}{N:Fb}{k:Y}{fn:Ac}{fd:Cj}{F:U Sl->O Rv}
def
xa(R:AW X.γ X.w X.K X.mg X.φ Bm k fn fd ps (AN X.K F))(hb:Binds X.K fd ps [])(x:AH (k+2) X.A)(c:X.Ϭ=J')
  (W:Inv X pins I H s) (T:∀a,N a->H a≠J) {tr:U T3} {m:U D} (n:Cq X.K H a tr) (B:Ad X.K N H m (tr.j λt=>t.2.1)) (ok:Bk F m) {Q:VK}
  (q:∀h vs H',Aj H H'->H h=J->H' h=Z (.U vs)->Ad X.K (λb=>N b\/b=h) H' (ET (Cr F) m) vs->Q (.C h) H'):
  wpAny (Ag X.γ X.w) X.A (call (.ρ "sorted") [.C a] [("key",.C fn)]) (EP X pins I Q) X.xe s:=by
 let l1:=B.a
 let few:=ok.few
 let S:Az=16777216:=HH
 let(z,Y',nd,o,i,C,e1,e2,e3,e4):=n.1.ok W.Ϣ
 let p:=LR e4
 let hl:tr.a=i.y:=by have:=p.a;exists this
 apply wpAny_call (S7 plain_sorted entry_sorted ?_)
 let hck:checkBuiltinCall "sorted" #[[.C a],[("key",.C fn)]]=Ax ():=by rfl
 apply AO ?_
 let hcc:checkCount "sorted" 1 1 1=Ax ():=rfl
 change wpAny _ _ (do checkCount "sorted" 1 1 1;let y <- collect (.C a);let l <- newList y;let _ <- Fe [l] (call (.ρ "list.sort") [l] [("key",.C fn)]);ret l) _ _ _
 apply Al (AO ?_)
 apply Al (bO (Ta (es:=i) (ep:=C) Y') (W.ok.hd c) #[o,e1,e2,e3] (by simp at l1;lia) λh1 E acc k1 hi=>?_)
 let f:=Tb hi
 rw[f]
 let r:=W.ϟ (t':=E) k1
 let l2:=p.a
 generalize G:List.j (λe=>e.key) i.R=d at *
 let rv:Aq (tr.j λt=>t.2.1) d:=p
 apply Al (wpAny_newList ?_ (by simp at l1 l2 ⊢;lia))
 generalize hs1:({heap:=h1,gens:=s.g9,drawn:=s.drawn,toks:=E,os:=s.os}:Ab)=j at *
 let I2:=r.ϟ (t':=j.ω) (λb u e=>Bg (C4 d 0) e)
 let g:=B7 j.o (o:=C4 d 0) rfl
 let fD:=r.off (A9 j.o.E.y)
 let v:H j.o.E.y=J:=r.Κ
 apply Al (Fv ?_)
 apply wpAny_call (S7 PySem.F.slot_list_sort.plain PySem.F.entry_list_sort ?_)
 apply PySem.F.slot_list_sort.check _ _ _ _ _ _ _ _ #[_,g,rfl] rfl ?_
 apply bF (N:=N) R hb X.A.in1.in1 x.in1.in1 ?_ (λs H e=>e.in1.in1) I2 T g v fD rv B ok λs' H' vs P sm L dv=>?_
 .have:=x.un;change X.A.η+1+1+40<_;lia
 .apply AO ?_
  apply#[.C _,_,P,rfl,q _ vs _ (λb u e=>?_) v Z5 ?_]
  .rw[Zt (λz=>by rw[z,v]at e;ext e)];show sm b u e
  .show Ad.ώ (M:=λ_=>False) #[λb u e z=>by
    rw[Zt (λz=>by rw[z,L]at e;ext e)];show e,λb hb=>by
    rcases hb with hb|hb
    .show .S hb
    .subst hb;show .τ L] _ _ dv
end
variable {M:Fb}{k:Y}{fn:Ac}{fd:Cj}{F:U Sl->O Rv}{e:Expr}{f:VE->O D}{x:Ae}{p:Aw}
def NK(F:U Sl->O Rv)(f:VE->O D):VE->O (U D):=λb=>match f b with
 |some (.lst c .d)=>(DV c).L λa=>EU F (a.j λp=>kD p.1)
 |_=>J
def
xc(c:X.Ϭ=J')(Fo:AW X.γ X.w X.K X.mg X.φ Bm k fn fd ps (AN X.K F))(hr:AH (k+2) X.A)(hg:Gl X x)(hm:X.mg x=J)(hv:Eh x=Z (.ρ "sorted"))(o:Gl X y)(r:X.mg y=Z (.C fn))(hb:Binds X.K fd ps [])(t:JE X e (tP X.K M H0 f))
  (hn:⇑(x≠"__name__")) (z:⇑((x==("__debug__":Ae))=O')) (j:⇑((y==("__debug__":Ae))=O')) (Y':↥(AL [e] X.G=(O',An e X.G)::AL [] X.G:7)):
  JE X (.Θ (.ε x p) [e] [#[Z "key",.ε y p2,kpos]] pos) (tF X.K M H0 (NK F f)):=#[have t:=t.h;by
 intro b s l H Q zA h
 let(B,ys,R,g,q):=h
 apply La (GD zA hg hm hv ?_ hn z)
 unfold NK at g
 split at g
 .next C hf=>
  cases E:DV C with
  |none=>rw[E]at g;cases g
  |some kvs=>
  rw[E]at g
  let(ok,rfl):=PF g
  let ha:=(Z0 t (Bq (X:=X)) Y') pos b s l H (λm i=>∃v,m=[v]/\Aj H i/\Au X.K (Nf M B l) i (.U C .d) v) zA #[B,.U C .d,R,hf,λv i G n=>#[v,rfl,G,n]]
  let P:=Yi (nm:=Z "key") (kpos:=kpos) (Rz (v:=.C fn) (pos:=p2) o r rfl j) (Yh (X:=X))
  rw[Y']at ha ⊢
  apply callWith_builtin_kwB rfl rfl ?_
  apply Al (A0 ha λus G L=>?_)
  let(m,i,I1,r1,v,rfl,sm,n):=L
  apply Al (AO ?_)
  apply Fv ?_
  apply Al (A0 (P pos b G l i (λzs H2=>zs=[.C fn]/\H2=i) I1 #[rfl,rfl]) λks s2 L=>?_)
  let(zs,H2,I2,r2,rfl,rfl):=L
  apply Al (AO ?_)
  apply AO ?_
  let(u,rfl,ru):=El r1
  let(u2,rfl,S):=El r2
  ext S
  rw[Gr E]at n
  let(a,ws,rfl,sq,dl):=n
  ext ru
  let(tr,dc,pd):=IL sq dl
  let R1:=R.st sm
  show xa (N:=Nf M B l) Fo hb hr c I2 R1.nh dc pd.kden ok λda m H' s' T W dv=>q da m H' (sm.J s') (sm.σ T) W dv
 .cases g]
end
variable {K:Am}{M:Fb}
def
xf:D8 X (.ζ "str") (λxs H Q=>∃i,xs=[.r i]/\i.natAbs.log2<1920/\Q (.Α (BN i)) H):=by
 intro a s c H xs d Q e r h
 let(i,rfl,b,q):=h
 let(u,rfl,t,rfl):=El r
 show PySem.P.str_of_int b #[.Α _,H,e.tok _,#[_,rfl],q]
@[simp]def Ma:U D->O D
  |[.int i]=>if i.natAbs.log2<1920 then Z (.Α (BN i))else J
  |_=>J
def
xg:F1 K (λxs H Q=>∃i,xs=[.r i]/\i.natAbs.log2<1920/\Q (.Α (BN i)) H) Ma:=by
 intro N H c f d Q g h e q
 unfold Ma at e
 split at e
 .split at e
  .next a=>
   ext e
   let(v,rfl,b):=Paired.one' h
   show#[_,by rw[b.r],a,q _ H (Aj.ξ H) M8]
  .cases e
 .cases e
def xh:V->U V->Hp->VK->V':=λx a H Q=>∃l b,x=.C l/\a=[]/\H l=Z (.U b)/\Q .Y (AX H l (.U []))
def
xi:OZ X "list.clear" xh:=by
 intro b s i H x j v k Q d f g h
 let(l,m,rfl,rfl,c,q):=h
 ext f
 ext g
 let(z,a,n,r,o,e):=d.lstM c
 apply call_meets F.slot_list_clear #[_,e,rfl] F.entry_list_clear (F.args_list_clear_1 _) (AutoSeq1.list_clear_list_0 l a.I n (by rw[Ca];lia)) #[e,?_]
 show#[.Y,_,d.lset (its':=[]) (ys:=[]) c e rfl .Ϝ (Fz _),rfl,q]
variable {name:Ae}{T id:String}{r:V->U V->Hp->VK->V'}{to:TE}
def xj(K:Am)(T:String)(r:V->U V->Hp->VK->V')(to:TE):TE:=λb H Q=>to b H λx a=>OY K T x a/\r x [] a Q
def
xk(i:PlainAttrs T)(slot:Slot T name id)(d:typeOf (.ρ id)=Ax (.ζ "method_descriptor"))(j:Kf X id r)(k:PE X o to)
  (b:↑(FV o name X.G (An o X.G)=An o X.G)) (c:↑((apos.϶==cpos.ϥ)=J')):PE X (.Θ (.δ o name apos) [] [] cpos) (xj X.K T r to):=by
 intro a s e H Q p h
 apply wpAny_Call_method0_late b c (A0 (k a s e H _ p h) λv l ⟨x,m,f,g,ty,n⟩=>?_)
 let(h1,h2):=Yz f g ty
 show#[T,id,i,slot,d,h1,h2,Calls.callWith_builtin rfl (PySem.evalArgs_none (j a l e m x [] v [] Q f g .Ϝ n))]
end
@[simp]def NL(i:Y)(ρ:VE):Dm:=match Db ρ i with
  |some _=>.β (ρ.Ε i (.χ []))
  |_=>.ό
def
xl{i:Y}{x:Ae}{b c d:Aw}(l:↥(NV X i x:8))
  (m:↑(Ej (.Θ (.δ (.ε x b) "clear" c) [] [] d) J pos.ϥ X.G=Ax O'))
  (e:↑(FV (.ε x b) "clear" X.G (An (.ε x b) X.G)=An (.ε x b) X.G)) (f:↑((c.϶==d.ϥ)=J')):
  JS X (.Expr (.Θ (.δ (.ε x b) "clear" c) [] [] d) pos) (tS X.K M H0 λρ=>NL i ρ):=
 #[(OH (xk Pa PySem.F.slot_list_clear PySem.F.type_list_clear xi (GQ l) e f) m).θ λr s H n=>by
   let(ρ,R,q):=n
   try dsimp only at q
   cases g:Db ρ i with
   |none=>erw[g,NL]at q;show B0 q
   |some t=>
    erw[g,NL]at q
    let h:=O8 g
    let(a,j,o,z1,z2,z3,z4):=R.ϣ i _ h
    let k:=AG o
    let(R2,p):=R.chg (ys:=[]) (ws:=[]) h k (by erw[Ad])
    show#[.C a,k,.S #[rfl,j,.S (.S z3)],a,j,rfl,rfl,z3,q _ _ R2 p]]
end
@[simp]def NM(b:D->VE->O VE)(o:O D)(ρ:VE):Dm:=match o with
  |some d=>(match b d ρ with
   |some a=>.β a
   |none=>.ό)
  |none=>.ό
variable {K:Am}{M:Fb}{e:Expr}{f:VE->O D}{b:D->VE->O VE}
def
xm(a:JE X e (tD K M H0 f))(c:JG X tg (tG K M H0 ws b))(k:↑(swapsWithSole [tg] e pos.ϥ X.G=Ax O'))(l:↑(swappedStores [tg] e X.G=Ax J))
  (h1:↑((GH [tg] X.G).j (·.2)=[assign tg X.G])):JS X (.Ϡ [tg] e pos) (tS K M H0 λρ=>NM b (f ρ) ρ):=#[have a:=a.h;let c:=c.h;(OO a c k l h1).θ λr t H ⟨ρ,R,q⟩=>by
 try dsimp only at q
 cases g:f ρ with
 |none=>rw[g]at q;show B0 q
 |some d=>
  rw[g]at q
  cases hb:b d ρ with
  |none=>erw[NM,hb]at q;show B0 q
  |some i=>
   erw[NM,hb]at q
   show#[ρ,d,R,g,λv m s n=>#[ρ,d,i,R.st s,n,hb,λj o p _=>q j m o ((Step.ϑ s).J p)]]]
end
def xn(K:Am)(N:Fb)(e:Hp)(f:It)(c:U D):V':=∀a,Aj e a->∀i,(∀d,c[i]?=Z d->f.go i a/\∀x b,f.yld i a x b->Aj a b/\Av K N b d x)/\(i=c.a->f.stop i a)
def TB(K:Am)(M:Fb)(H0:Hp)(f:VE->O (U D)):TI:=λc H R=>∃a d,By K M H0 a c H/\f a=Z d/\∀e b,Aj H b->xn K (Nf M a c) b e d->R e b
variable {K:Am}{M:Fb}{f:VE->O (U D)}{b:D->VE->O VE}{t:VE->O jp}{e:VE->O D}{k:Y}{oix:U Y}
def
xo(hw:∀j∈ws,j<k)(hi:∀I H R,TB K M H0 f I H R->wi I H R){Q:VK}(h:tF K M H0 (Zi k oix f b t e) I H Q):MR k oix wi (Lr K ws b) (Lu K t) (Lv K e) I H Q:=by
 let(g,B,R,ex,q):=h
 let(l,W,ex):=BZ.mp ex
 let(W,hz):=O6 W
 let ex:ZL b t e (Zr k oix g) l=Z B:=ex
 show by
  apply hi _ _ _ #[g,l,R,W,λF Y' s1 ok=>?_]
  apply#[l.a,λi L C=>i<=l.a/\L.a<=i/\Aj Y' C/\∃c AF,Ad K (Nf M g I) C c L/\ZL b t e (Zr k oix g) (l.Ν i)=Z AF/\c++AF=B,#[Fz _,A9 _,Aj.ξ _,[],B,Ad.Ϝ,ex,rfl],?_]
  intro i L C zQ;let(hle,hy,u,c,AF,m,d,E):=zQ
  let(N,P):=ok C u i
  by_cases n:i<l.a
  .let(go,y):=N l[i] (Cc n)
   rw[MV n]at d
   erw[ZL]at d
   apply .τ #[go,n,∅,λr T=>r.a<=i+1/\Aj Y' T/\∃c AF,Ad K (Nf M g I) T c r/\ZL b t e (Zr k oix g) (l.Ν (i+1))=Z AF/\c++AF=B,λr T z=>#[n,z],λx G yl=>?_]
   let(w,hd):=y x G yl
   let R3:=((R.st s1).st u).st w
   let(Rc,nf):=R3.comp k oix
   cases hb:b l[i] (Zr k oix g)with
   |none=>rw[hb]at d;cases d
   |some o=>
    rw[hb]at d
    simp only at d
    apply#[Nf M g I,G,Zr k oix g,l[i],o,Rc,hd.nw λa S=>.S (nf a S),hb,λσ4 R4 S4 w4=>#[?_,?_]]
    .apply(Jy)
     intro j
     rw[O1,O1]
     show w4 _ λhj=>absurd (hw _ hj) ∅
    .cases ht:t o with
     |none=>rw[ht]at d;cases d
     |some bb=>
      rw[ht]at d
      apply#[Nf M g I,G,o,bb,R4,ht,λH5 A=>?_]
      cases bb with
      |true=>
       simp only at d
       let(yd,s,e1,e2,e3):=Hn d
       apply Jt ?_
       apply#[Nf M g I,G,o,yd,R4.st A,e1,λv H6 s6 hv=>#[?_,((u.J w).J A).J s6,c++[yd],s,(m.κ ((w.J A).J s6)).ψ (Ad.Η (hv.nw λa S=>.S (.S S)) Ad.Ϝ),e2,?_]]
       .erw[D2,Le];lia
       .subst e3;rw[<- E];simp
      |false=>
       apply Ju ?_
       show#[∅,(u.J w).J A,c,AF,m.κ (w.J A),d,E]
  .let ei:i=l.a:=∅
   rw[MU ∅]at d
   ext d
   rw[Du]at E
   subst E
   show .S #[P ei,∅,λp hp=>Lm (s1.J u) hp m q]
def
xp{P:AR}{w:Ai}{a:Am}{mg:BE}{base:Ak}{N:U Ae}{c:Scope}{n:Y}(h:XI P w a mg base X N c)(q:CQ N c scope n oix)(d:X.Ϭ=J')(m:a=K)(i:JI X tg iter (TB K M H0 f))(hb:CB K X (Ib scope) (oN N oix) scope tg ifs elt ws b t e)(k:∀j∈ws,j<n)(l:↥(∀x,FS iter X.G x=Ax x:6)):JE X (.Τ elt [#[tg,iter,ifs,0]] scope pos) (tF K M H0 (Zi n oix f b t e)):=by
 let(_,_,o,_,_,rfl,rfl,_):=h
 let(S,rfl,x):=q
 show#[(R8 _ _ oix S x d i.h hb.g hb.t hb.e l).θ λ_ _ _ z=>xo k (λ_ _ _ z=>z) z]
def
c3{l:Expr}{f:VE->O D}(h:JE X l (tP X.K M H0 f)):JI X tg l (TB X.K M H0 λρ=>(f ρ).L M5):=#[have h:=h.h;(RJ h).θ λB H C p=>by
 let(ρ,E,R,e,q):=p
 try dsimp only at e q
 cases g:f ρ with
 |none=>rw[g]at e;cases e
 |some d=>
  rw[g]at e
  cases d with
  |lst G r=>
   cases r with
   |d=>cases e
   |i _ _=>cases e
   |l=>
   ext e
   apply#[ρ,.U _,R,g,λv s t u=>?_]
   let(a,c,z,n,hd):=u
   apply#[a,z,#[c,n],q _ s t λL S i=>?_]
   let b:=S.ϰ n
   let j:=hd.κ S
   apply#[λd k=>?_,λk=>#[c,b,by rw[k,hd.a];show A9 _]]
   let(w,o,m):=j.Ι k
   apply#[#[c,w,b,o],λx F y=>?_]
   let(A,y):=y
   subst A
   have:=y c b
   rw[o]at this;ext this
   show#[Aj.ξ _,m]
  |_=>cases e]
end
def F8(ns:U W'):U W':=ns.mergeSort λa b=>decide (a<=b)
def
PY(ns:U W'):(F8 ns).ϲ ns:=List.mergeSort_perm _ _
def
c7(ns:U W'):(F8 ns).ϩ (·<=·):=by
 let h:=List.pairwise_mergeSort (le:=λa b:W'=>decide (a<=b)) (by intro a b c h1 h2;simp at *;lia) (by intro a b;simp;lia) ns
 show h.imp λh=>by exists h
def
xq{ns c:U W'}(d:c.ϲ ns)(h:c.ϩ (·<=·)):c=F8 ns:=
 bC (le:=(·<=·)) (λa b _ _ h1 h2=>Int.le_antisymm h1 h2) h (c7 ns) (d.J (PY ns).Ρ)
def
TC(ns:U W'):(F8 ns).a=ns.a:=(PY ns).Ψ
variable {K:Am}
def
xr:D8 X (.ρ "sorted") (λxs H Q=>∃(a:Ac)(ns:U W'),xs=[.C a]/\BV X.K H a (ns.j V.r)/\ns.a<64/\∀p,H p=J->Q (.C p) (AX H p (.U ((F8 ns).j V.r)))):=by
 intro d s v H xs w Q x r h
 let(a,ns,rfl,i,j,q):=h
 let(u,rfl,k):=El r
 ext k
 let(c,f,p,g):=x.Ϥ i
 let l:=f.a
 rw[Bu]at l g
 apply sorted_ints p.Ω (MN f) ∅ λout m a1 a2 a3=>?_
 let(e,n):=sortedAll_at s.o c out
 let t:=xq a2 a3
 subst t
 apply#[.C _,_,x.laid (t':=s.ω) (o:=.U ((F8 ns).j V.r)) (λb o q=>sortedAll_old q) (Nat.le_succ _) ?_,rfl,q _ (x.Ϣ.Κ (Nat.le_succ _))]
 show#[by rw[Bu,TC];show g,out.R,e,YD a1,n]
def NN:U D->O (U D)
 |[.lst a]=>(Gq a).L λns=>if ns.a<64 then Z ((F8 ns).j D.r)else J
 |_=>J
def
xt:Lo K (λxs H Q=>∃(a:Ac)(ns:U W'),xs=[.C a]/\BV K H a (ns.j V.r)/\ns.a<64/\∀p,H p=J->Q (.C p) (AX H p (.U ((F8 ns).j V.r)))) NN:=by
 intro N H k l xs Q m h e q
 unfold NN at e
 split at e
 .next f=>
  cases hb:Gq f with
  |none=>rw[hb]at e;cases e
  |some ns=>
   rw[hb]at e
   erw[DG]at e
   split at e
   .next b=>
    ext e
    let(v,rfl,g):=Paired.one' h
    let(a,n,i,c,d):=g
    subst i
    rw[Sy hb]at d
    rw[Pp d]at c
    show#[a,ns,rfl,c,b,λp j=>q _ p j (Ad.ints _)]
   .cases e
 .cases e
end
variable {K:Am}{M:Fb}{e:Expr}{p:Aw}{x:Ae}{id:String}{r:U V->Hp->VK->V'}{G:U D->A8}
def
xu(a:D8 X (.ρ id) r)(b:Lo K r G)(c:Gl X x)(f:X.mg x=J)(g:Eh x=Z (.ρ id))(i:JA X (e::es) (CC K M H0 fa))(j:⇑(x≠"__name__"))(hz:↥(CA X x e es pos:9)):JE X (.Θ (.ε x p) (e::es) [] pos) (tF K M H0 (Ez G fa)):=#[(Yo a c f g i.h j hz.d hz.s hz.p).θ λ_ _ _ h=>YW b h]
end
def

xw(ns:U W'):NN [.U (ns.j D.r)]=if ns.a<64 then Z ((F8 ns).j D.r)else J:=by simp[NN]
def
c9{a b:U W'}(h:a.ϲ b):a.sum=b.sum:=by
 induction h with
 |nil=>rfl
 |cons x _ c=>simp[c]
 |swap x y l=>simp;lia
 |trans _ _ h1 h2=>show h1.J h2
@[simp]def Mb(o:O (IV×Gh)):O (jp×Gh):=match o with
  |some (.val d,G)=>Z (!isN d,G)
  |_=>J
@[simp]def NO(i j:Y)(o:O D)(s:IS):RI:=match o with
  |some (.tup [a,b])=>.β ((s.1.Ε i (.u a)).Ε j (.u b),s.2)
  |_=>.ό
@[simp]def jM(m:Y)(c f:Ae)(F:U Sl->O Rv)(p:IS->O Y)(s:IS):O D:=(p s).L λn=>match tr m s.2 3 (.ϋ n),s.2[n]? with
  |some d,Z cl=>if EE c f cl=J'/\n<s.2.a then jO m ((F [.u d]).j Ct)else J
  |_,_=>J
@[simp]def NP:U IV->O (U Sl)
  |[]=>Z []
  |.val d::r=>Zz (Z (.u d)) (NP r)
  |_=>J
@[simp]def jC(F:U Sl->O Rv)(g:IS->O (U IV))(s:IS):O D:=(((g s).L NP).L F).j Ct
def
db{K:Am}{φ:Y->Ac}{L:Y}{N:Fb}{H:Hp}:∀{xs:U IV}{vs:U V}{a:U Sl},Paired (Bn K φ L N H) xs vs->NP xs=Z a->BG K N H a vs
 |[],_,_,.nil,e=>by ext e;rfl
 |.val d::r,_,_,.cons h t,e=>by
  let(x,y,b,c,rfl):=Hn e
  ext b
  show#[_,_,rfl,h,db t c]
 |.no::_,_,_,_,e=>nomatch e
 |.cel _::_,_,_,_,e=>nomatch e
 |.exc _::_,_,_,_,e=>nomatch e
variable {e:Expr}{f:IS->O D}{i j n k:Y}{x c m:Ae}{p p1:Aw}{F:U Sl->O Rv}{fn C:Ac}{fd:Cj}{E:XK}{q:Tok}
def
xx {j} (h:JE X e (DA X.K gx)):JT X (.Ο e [.IsNot] [.ϙ .σ j pos'] pos) (cT X.K λs=>Mb (gx s)):=#[(RC (XM h.h)).θ λk H Q z=>by
 let(b,s,r,R,e,q):=z
 dsimp only at e
 unfold Mb at e
 split at e
 .next d G c=>
  ext e
  apply#[b,s,_,R,c,λa v f g i go=>#[_,rfl,?_]]
  rw[(Av.p (show Av _ _ _ d v from i)).isN]
  show q a f g go
 .cases e]
def
xy(m:X.Ϭ=J')(d:X.N.ι)(o:JE X e (tJ X.K f))(r:↑(X.N[i]?=Z x))(t:↑(X.N[j]?=Z y))
  (g:↑(X.G.Γ.υ.X x=Z .ϓ)) (k:↑(X.G.Γ.υ.X y=Z .ϓ))
  (u:↑(swapsWithSole [.oo [.ε x p1,.ε y p2] n p] e pos.ϥ X.G=Ax O')) (w:↑(swappedStores [.oo [.ε x p1,.ε y p2] n p] e X.G=Ax J)):
  JS X (.Ϡ [.oo [.ε x p1,.ε y p2] n p] e pos) (tK X.K λs=>NO i j (f s) s):=
 #[(OO o.h (XT (n:=2) m (RE (ON d r (.S g) (.τ g)) (RE (ON d t (.S k) (.τ k)) XR))) u w).θ λD F H z=>by
   let(l,s,R,q):=z
   dsimp only at q
   unfold NO at q
   split at q
   .next a b hd=>
    apply#[l,s,_,R,hd,λv L sm c=>?_]
    let(ad,M,A,B,c):=c
    let(C,P,E,h1,c):=c
    let(G,Q,S,h2,c):=c
    ext c
    subst E S
    show#[ad,_,A,B,rfl,C,_,rfl,G,_,rfl,rfl,q l _ _ (((R.κ sm).put (x:=.u a) i h1).put (x:=.u b) j h2) (Go.κ sm)]
   .show q.Ζ]
def
xz(p:Y)(t:nsIn X.K CJ c=Z (Z (.C C)))(cl:EJ X.K C)(u:Jk X.K C m fn)(G:AW X.γ X.w X.K X.mg X.φ CX k fn fd ps (AN X.K F))(x:AH k X.A)(hb:Binds X.K fd ps [])(y:EK CX X E)(zA:JE X o (Fq X.K gp))
  (ht:↑(ME X o m [] pl apos pos)):JE X (.Θ (.δ o m apos) [] [] pos) (tJ X.K (jM p c m F gp)):=#[(OW zA.h cl u G x hb .Ϝ y ht).θ λI H Q z=>by
 let(b,s,d,R,e,q):=z
 let(n,P,e):=BZ.mp e
 split at e
 .next L cl f i=>
  split at e
  .next M=>
   let(r',N,e):=BZ.mp e
   let(r,S,rfl):=Cd.mp N
   split at e
   .next j=>
    ext e
    apply#[b,s,n,R,P,λT=>?_]
    let(W,Y',h1,h2):=cH t R.g i M.1
    apply#[b n,W,Y',rfl,.S h1,h2,NW p b s.2,[.u L],r,λa h=>R.g.nh h.lv,#[_,[],rfl,Tl R.g f #[T,rfl],rfl],S,λv H' sm hv=>?_]
    have:=Tc (λa h=>R.g.nh (NW.lv h)) hv
    show q v H' sm ((Av.up (B:=λ_=>False) R.g sm _ _ j (this.nw λa l=>.S (l.resolve_right id))).nw λa l=>.S (.S l))
   .cases e
  .cases e
 .cases e]
def
xA(G:AW X.γ X.w X.K X.mg X.φ CX k fn fd ps (AN X.K F))(f:AH k X.A)(i:Gl X x)(j:X.mg x=Z (.C fn))(l:HI X.K (.C fn)=J')(hb:Binds X.K fd ps [])(b:EK CX X E)
  (m:JA X (e::es) (GZ X.K ga)) (hz:↥(CA X x e es pos:9)):
  JE X (.Θ (.ε x p) (e::es) [] pos) (tJ X.K (jC F ga)):=#[(ML G f i j l hb .Ϝ b m.h hz.d hz.s hz.p).θ λN H Q n=>by
 let(c,s,d,R,e,q):=n
 unfold jC at e
 let(r,o,rfl):=Cd.mp e
 replace e:=o
 let(t,e,u):=BZ.mp e
 let(y,b,e):=BZ.mp e
 apply#[c,s,y,R,b,λM L sm z=>?_]
 apply#[LV c s.2,t,r,λa h=>(R.κ sm).g.nh h,by rw[Du];show db z e,u,λv B C h=>q v B (sm.J C) (Tc (λa h=>(R.κ sm).g.nh h) h)]]
end
variable {P:AR}{w:Ai}{K K':Am}{mg:BE}{base:Ak}{N:U Ae}{M:Fb}{k n fm:Y}{C:Ac}{c m x:Ae}{F:U Sl->O Rv}{e:Expr}{fe:AB}{p:Aw}(h:XI P w K mg base X N sc)(r:AH n X.A)
def
df{E:XK}(g:nsIn K CJ c=Z (Z (.C C))){Q:VK}(h:tF K M H0 (λρ=>(ZY c m F (fo ρ) (fa ρ)).L Ey) I H Q):Jl C m (AN K F) [] E (Fk K M H0 fo) (CC K M H0 fa) I H Q:=by
 let(ρ,d,R,e,q):=h
 let(r,i,b):=BZ.mp e
 unfold Ey at b
 split at b
 .cases b
  show bT g R i λv o j f k ⟨a,l,n,z1,z2,z3⟩=>by subst n;show q a l j (f.J k) (f.Φ z1) z2 z3
 .cases b
include h r
variable(cb:CI K mg c C)
include cb
def
xB(G:OM P w K mg base C Bm k m (AN K F))(f:K=K')(g:JE X o (Fk K' M H0 fo))(i:JA X (e::es) (CC K' M H0 fa))(j:⇑(k<=n))
  (a:↥(AL (e::es) X.G=(O',An e X.G)::AL es X.G:7)) (d:↑((AD pos (AL es X.G)).any (·.1)=O')) (ht:↑(ME X o m (e::es) pl apos pos)):
  JE X (.Θ (.δ o m apos) (e::es) [] pos) (tF K' M H0 λρ=>(ZY c m F (fo ρ) (fa ρ)).L Ey):=by
 let(rfl,rfl,rfl,rfl,rfl,_,_,_):=h
 subst f
 let(_,_,_,_,_,D,G):=G
 show#[(RU g.h cb.cl D.M G (r.θ j) D.b .Ϝ (E:=E0) Gi i.h a d ht).θ λ_ _ _ h=>df cb.cof h]
def
dg(G:OM P w K mg base C Bm k m (AN K F))(a:K=K')(d:JE X o (Fk K' M H0 fo))(e:⇑(k<=n))(ht:↑(ME X o m [] pl apos pos)):
  JE X (.Θ (.δ o m apos) [] [] pos) (tF K' M H0 λρ=>(ZY c m F (fo ρ) (Z [])).L Ey):=by
 let(rfl,rfl,rfl,rfl,rfl,_,_,_):=h
 subst a
 let(_,_,_,_,_,D,G):=G
 show#[(OW d.h cb.cl D.M G (r.θ e) D.b .Ϝ (E:=E0) Gi ht).θ λ_ _ _ h=>bU (df cb.cof h)]
omit cb in
def
xE(G:OF P w K mg base k y (AN K F))(f:mg x=J)(g:K=K')(i:JE X e (tP K' M H0 fe))(j:X.Ϭ=J')(l:⇑(k+2<=n))(o:↑(Gl X x))(q:↑(Eh x=Z (.ρ "sorted")))(c:↑(Gl X y))
  (s:⇑(x≠"__name__")) (d:⇑(DC x)) (a:⇑(DC y)) (t:↥(AL [e] X.G=(O',An e X.G)::AL [] X.G:7)):
  JE X (.Θ (.ε x p) [e] [#[Z "key",.ε y p2,kpos]] pos) (tF K' M H0 (NK F fe)):=by
 let(rfl,rfl,rfl,rfl,rfl,_,_,_):=h
 subst g
 let(_,_,_,_,D,G):=G
 show xc j G (r.θ l) o f q c D.m D.b i s d a t
def
xG(G:OM P w K mg base C Bm k m (AN K F))(a:K=K')(d:JE X o (Fq K' gp))(e:⇑(k<=n))(ht:↑(ME X o m [] pl apos pos)):
  JE X (.Θ (.δ o m apos) [] [] pos) (tJ K' (jM fm c m F gp)):=by
 let(rfl,rfl,rfl,rfl,rfl,_,_,_):=h
 subst a
 let(_,_,_,_,_,D,G):=G
 show xz fm cb.cof cb.cl D.M G (r.θ e) D.b (E:=E0) Gi d ht
omit cb in
def
xH(G:OF P w K mg base k x (AN K F))(a:K=K')(c:JA X (e::es) (GZ K' ga))(d:k<=n)(f:Gl X x)(hz:CA X x e es pos):JE X (.Θ (.ε x p) (e::es) [] pos) (tJ K' (jC F ga)):=by
 let(rfl,rfl,rfl,rfl,rfl,_,_,_):=h
 subst a
 let(_,_,_,_,D,G):=G
 show xA G (r.θ d) f D.m D.F.kp D.b (E:=E0) Gi c hz
end
variable {α β:Type}{a:α}{b:jp}{x:D}{l:U α}{f:α->O β}{g:α->β}{n:Y}{s:Sl}{k:Kd}{o:O Ac}{v:IV}{vs:U IV}{G:Gh}{m:Y}{s2:IS}{p:IV×Gh}
def
xI:DG (Z a) f=f a:=rfl
def
xJ:DG J f=J:=rfl
def
xK:D0 g (Z a)=Z (g a):=rfl
def
xL:D0 g J=J:=rfl
def
xM:List.j g (a::l)=g a::List.j g l:=rfl
def
xN:List.j g []=[]:=rfl
def
xO:Zz (Z a) (Z l)=Z (a::l):=rfl
def
xQ:(a::l)[0]?=Z a:=rfl
def
xR:(a::l)[n+1]?=l[n]?:=rfl
def
xS{a2:α}:(a::l).Ε 0 a2=a2::l:=rfl
def
xT{a2:α}:(a::l).Ε (n+1) a2=a::l.Ε n a2:=rfl
def
xU:Bh (.u x::ρ) 0=Z x:=rfl
def
xV:Bh (.χ xs k o::ρ) 0=Z (.U xs k):=rfl
def
xW:Bh (.jk xs k::ρ) 0=Z (.U xs k):=rfl
def
xX:Bh (s::ρ) (n+1)=Bh ρ n:=rfl
def
xY:Cp (.u x::ρ) 0=Z (.u x):=rfl
def
xZ:Cp (.χ xs k o::ρ) 0=Z (.jk xs k):=rfl
def
x3:Cp (.jk xs k::ρ) 0=Z (.jk xs k):=rfl
def
ya:Cp (s::ρ) (n+1)=Cp ρ n:=rfl
def
yb:A2 (.u x::ρ) 0=Z x:=rfl
def
yc:A2 (s::ρ) (n+1)=A2 ρ n:=rfl
def
ye:Bp (.u x::ρ) 0=Z x:=rfl
def
yf:Bp (.jk xs k::ρ) 0=Z (.U xs k):=rfl
def
yg:Bp (s::ρ) (n+1)=Bp ρ n:=rfl
def
yh:Cw (.ϋ m::vs,G) 0=Z m:=rfl
def
yi:Cw (v::vs,G) (n+1)=Cw (vs,G) n:=rfl
def
yj:vw m (v::vs,G)=D5 m G v::vw m (vs,G):=rfl
def
yk:vw m ([],G)=[]:=rfl
def
ym{h:Ao}:Zd (.β ρ) h=h ρ:=rfl
def
yn{h:Ao}{r:Rv}:Zd (.Ϻ r) h=.Ϻ r:=rfl
def
yo{h:Ao}:Zd (.brk ρ) h=.brk ρ:=rfl
def
yp{h:Ao}:Zd (.cont ρ) h=.cont ρ:=rfl
def
yq{p q:Dm}:ZF (Z J') p q=p:=rfl
def
yr{p q:Dm}:ZF (Z O') p q=q:=rfl
def
yt{h:A4}:ZS (.β s2) h=h s2:=rfl
def
yu{h:A4}:ZS (.Ϻ v G) h=.Ϻ v G:=rfl
def
yv{h:A4}:ZS (.cont s2) h=.cont s2:=rfl
def
yw{p q:RI}:ED (Z J') p q=p:=rfl
def
yx{p q:RI}:ED (Z O') p q=q:=rfl
def
yz:AU (Z (.bl b))=Z b:=rfl
def
yA:C5 n (Z p) s2=.β (s2.1.Ε n p.1,p.2):=rfl
def
yB:ZG n (Z x) ρ=.β (ρ.Ε n (.u x)):=rfl
def
yC:Zu (Z x)=.Ϻ (.u x):=rfl
def
yD{p:O jp}:Cs (Z J') p=Z J':=rfl
def
yE{p:O jp}:Cs (Z O') p=p:=rfl
def
yF{p:O jp}:Eo (Z J') p=p:=rfl
def
yG{p:O jp}:Eo (Z O') p=Z O':=rfl
def
yH:ZP (Z b)=Z (!b):=rfl
def
yI:xD (Z x) s2=Z (.u x,s2.2):=rfl
def
yJ:Fl (Z x)=Z (.u x):=rfl
def
yK:Ia (Z p) s2=.β (s2.1,p.2):=rfl
def
yL:FJ (Z p)=.Ϻ p.1 p.2:=rfl
def
yM{F:FI}:IU F (Z vs) s2=F vs s2.2:=rfl
def
yN:C1 (Z b)=Z (.bl b):=rfl
def
yO:xC k (Z xs) s2=Z (.ϋ s2.2.a,s2.2++[.ϕ k xs]):=rfl
end
end Internal
namespace Internal.K70
open PySem PySem.Spec PyProof.Rows Internal
section
set_option hygiene false in
local macro_rules | `(#[$a,*])=>do let w:Lean.Term <- a.getElems.foldrM (λx w=>if x.raw.isNatLit?.isSome then `(Zz (Cp r $x) $w)else `(Zz (Fl $x) $w)) (<- `(some []));return w
set_option hygiene false in
local macro_rules | `(#v[$a,*])=>`(λr=>#[$a,*])
local macro_rules | `(!$n:num)=>`(λr=>Bh r $n)
local macro_rules | `(~~~$n:num)=>`(λ_=>some (.int $n))
local macro_rules | `(∅)=>`(λr=>.next r)
local macro_rules | `($a >>> $b)=>`(λr=>Zd ($a r) $b)
local macro_rules | `($a <<< $b)=>`(λr=>ZS ($a r) $b)
def PZ:Ao:=λr=>Zd (Zu (C1 (Eo (AU ((Zm B5 #v[0,Z (.ty "int")]) r)) (AU (C1 (ZP (AU ((Zm B5 #v[0,Z (.ty "bool")]) r)))))))) ∅
def G6:=AV 1 1 PZ
def P0:AB:=λr=>C1 (Cs (AU ((Za (Dx O') (!0) (λ_=>Z (.Α "abcdefghijklmnopqrstuvwxyz"))) r)) (AU ((Za (Dx O') (!0) (λ_=>Z (.Α "0123456789"))) r)))
def KP:Ao:=λr=>Zd (ZF (ZP (ZJ ((Zm B5 #v[0,Z (.ty "str")]) r))) (Zd (Zu (Z (.bl O'))) ∅) (.β r)) (λr=>Zd (ZF (Cs (AU ((Za FE (Zm ZA #v[0]) (~~~1)) r)) (AU ((Za Fm (Zm ZA #v[0]) (~~~12)) r))) (Zd (Zu (Z (.bl O'))) ∅) (.β r)) (λr=>Zd (Zu (C1 (Eo (AU ((Za (Dx O') (Za Ap (!0) (~~~0)) (λ_=>Z (.Α "abcdefghijklmnopqrstuvwxyz"))) r)) (AU ((Zm Do #v[Zy ((Zi 1 [] (λr=>(Bp r 0).L Zn) (Zb 0) (λ_=>Z J') P0) r)]) r))))) ∅))
def IX:=AV 1 1 KP
def dh:Ao:=λr=>Zd (Zu ((Zm ZA #v[(Za Ap (!0) (~~~0)) r]) r)) ∅
def Mc:=AV 1 1 dh
def TD:Ao:=λr=>Zd (Zu (M0 (AU ((Za FE (!1) (Zm ZA #v[0])) r)) ((Za Ap (!0) (!1)) r) (Z .Y))) ∅
def F9:=AV 2 2 TD
def dj:AB:=(~~~0)
def dm:Ao:=λr=>Zd (Zu ((Zm Ec #v[Zy ((Zi 1 [] (λr=>(Bp r 0).L Zn) (Zb 0) (λ_=>Z J') dj) r)]) r)) ∅
def NQ:=AV 1 1 dm
def TF:Ao:=λr=>Zd (Zu ((Za Zw (Za Zw (Dw (!0) (λ_=>Z J) (λr=>Dn (Bh r 1)) DH) (λr=>(Zg (#[A2 r 2].L Zo)).j D.O)) (Dw (!0) (λr=>Dn ((Za Zw (!1) (~~~1)) r)) (λ_=>Z J) DH)) r)) ∅
def P1:=AV 3 3 TF
def TH:Ao:=λr=>Zd (Zu ((Za Ap (Za Ap (λr=>(Bh r 0).L (Z6 "View" "steps")) (λr=>HP (Z (.r 1)))) (~~~0)) r)) ∅
def JQ:=AV 1 1 TH
def TJ:Ao:=λr=>Zd (ZK ((Ez Hr #v[(Za Ap (Za Ap (λr=>(Bh r 0).L (Z6 "View" "steps")) (λr=>HP (Z (.r 1)))) (~~~1)) r]) r)) ∅
def NR:=AV 1 1 TJ
def dr:Ao:=λr=>Zd (Zu ((Zg (#[(Zm ZA #v[0]) r,(Zm Nh #v[0]) r,(Zm Ni #v[0]) r,(Zm Nj #v[0]) r].L Zo)).j D.O)) ∅
def P2:=AV 1 1 dr
def dt:Ao:=λr=>Zd (Zu ((Zg (#[(Za Zw (Za Ap (!0) (~~~0)) (Za Ap (!1) (~~~0))) r,(Za Zw (Za Ap (!0) (~~~1)) (Za Ap (!1) (~~~1))) r,(Zm Po #v[(Za Ap (!0) (~~~2)) r,(Za Ap (!1) (~~~2)) r]) r,(Zm Pn #v[(Za Ap (!0) (~~~3)) r,(Za Ap (!1) (~~~3)) r]) r].L Zo)).j D.O)) ∅
def NS:=AV 2 2 dt
def KQ:AB:=(Za (Dp O') (!1) (!0))
def NT:Ao:=λr=>Zd (Zu ((Zm Do #v[Zy ((Zi 2 [] (Hv (λr=>Bp r 0) (λr=>Bp r 1)) (ZC 2 (Zf (Zb 0) (Zf (Zb 1) ZD))) (λ_=>Z J') KQ) r)]) r)) ∅
def KR:=AV 2 2 NT
def TK:A4:=λs=>ZS (ED (jT 2 (λr=>AU ((Za M9 (Zm ZA #v[0]) (~~~200)) r)) s) (ZS (.ό) ∅) (.β s)) (λs=>ZS (Ia (JM (Cw s 0) ((jE 0 (λr=>A2 r 1)) s) s) s) ∅)
def TL:=Ee 2 2 TK
def TM:A4:=λs=>ZS (ED (jT 2 (λr=>AU ((Za (Dx J') (!1) (!0)) r)) s) (ZS (.ό) ∅) (.β s)) (λs=>ZS (Ia (ND (Cw s 0) ((jE 0 (λr=>A2 r 1)) s) s) s) ∅)
def TN:=Ee 2 2 TM
def du:AB:=λr=>Zy ((Ez Hr #v[0]) r)
def TQ:Ao:=λr=>Zd (ZK ((Zi 1 [] (λr=>((Bh r 0).L (Z6 "Book" "axes")).L Zn) (Zb 0) (λ_=>Z J') du) r)) ∅
def NU:=AV 1 1 TQ
def TR:Ao:=λr=>Zd (ZK (L5 ((Bh r 0).L (Z6 "Book" "tables")))) ∅
def TU:=AV 1 1 TR
def TV:Ao:=λr=>Zd (ZF (AU ((Za FE (!1) (Zm ZA #v[0])) r)) (Zd (Zu ((Za Ap (!0) (!1)) r)) ∅) (.β r)) (λr=>Zd (Zu (Z (.r 0))) ∅)
def Z8:=AV 2 2 TV
def P4:Ao:=λr=>Zd (ZG 2 ((Za Z7 (Za Zw (Za Zw (Za GV (!2) (~~~48271)) (Za GV (~~~2) (!4))) (~~~11)) (~~~2147483647)) r) r) (λr=>Zd (D3 3 ((Za F4 (!2) (~~~64)) r) r) ∅)
def dy:Ao:=λr=>ZG 2 ((Za Z7 (Za Zw (!0) (Za GV (~~~7919) (!1))) (~~~2147483629)) r) r
def dz:Ao:=λr=>Z4 3 (Zg ((Z []).L Zo)) r
def dA:Ao:=(ZN (λr=>(#[Z (.r 25)].L Zo).L F2) (Zb 4) P4)
def dB:Ao:=λr=>Zu ((Dw (!3) (λr=>Dn (Z (.r 1))) (λ_=>Z J) DH) r)
def dC:Ao:=λr=>.β r
def dE:=dB >>> dC
def dF:=dA >>> dE
def dG:=dz >>> dF
def TW:=dy >>> dG
def yP:Ao:=TW
def Md:=AV 2 5 yP
def P5:Ao:=λr=>Zd (ZG 3 ((Za Zw (!3) (Za Ap (!2) (Za Z7 (Za F4 (!0) (Za Zw (!4) (~~~3))) (~~~36)))) r) r) ∅
def dH:Ao:=λr=>ZG 2 (Z (.Α "abcdefghijklmnopqrstuvwxyz0123456789")) r
def dI:Ao:=λr=>ZG 3 ((Za Ap (!2) (Za Z7 (!0) (~~~26))) r) r
def dJ:Ao:=(ZN (λr=>(#[A2 r 1].L Zo).L F2) (Zb 4) P5)
def dK:Ao:=λr=>Zu (A2 r 3)
def dL:Ao:=λr=>.β r
def TX:=dK >>> dL
def TY:=dJ >>> TX
def TZ:=dI >>> TY
def P6:=dH >>> TZ
def dM:Ao:=P6
def T0:=AV 2 5 dM
def dN:Ao:=λr=>Zd (ZF (DS (Bh r 0)) (Zd (Zu ((Zg (#[Z (.r 0),Z (.r 0),Z (.Α "")].L Zo)).j D.O)) ∅) (.β r)) (λr=>Zd (ZF (ZJ ((Zm B5 #v[0,Z (.ty "int")]) r)) (Zd (Zu ((Zg (#[Z (.r 1),A2 r 0,Z (.Α "")].L Zo)).j D.O)) ∅) (.β r)) (λr=>Zd (Zu ((Zg (#[Z (.r 2),Z (.r 0),A2 r 0].L Zo)).j D.O)) ∅))
def P7:=AV 1 1 dN
def NX:Ao:=λr=>Zd (ZF (AU ((Za Ce (Za Ap (!3) (~~~0)) (!1)) r)) (Zd (Zu ((Za Ap (Za Zw (!3) (λr=>(Zg (#[Z .Y].L Zo)).j D.O)) (!2)) r)) ∅) (.β r)) ∅
def T1:Ao:=λr=>Zd ((ZN (λr=>(Bp r 0).L Zn) (Zb 3) NX) r) (λr=>Zd (Zu (Z .Y)) ∅)
def P8:=AV 3 4 T1
def dO:Ao:=λr=>Zd (ZG 1 (Zy ((Ez NN #v[0]) r)) r) (λr=>Zd (Zu ((Zg (#[(Zm ZA #v[1]) r,(Zm Nh #v[1]) r,(Za Ap (!1) (~~~0)) r,(Za Ap (!1) (λr=>HP (Z (.r 1)))) r].L Zo)).j D.O)) ∅)
def P9:=AV 1 2 dO
def Qa:Ao:=λr=>Zd (D3 2 ((Za Z7 (Za F4 (!0) (Za Ap (λr=>Zy (Zg (#[Z (.r 1),Z (.r 5),Z (.r 25),Z (.r 125)].L Zo))) (!3))) (Za Zw (Zm ZA #v[(Za Ap (!4) (~~~0)) r]) (~~~1))) r) r) ∅
def T2:Ao:=λr=>Zd (Z4 2 (Zg ((Z []).L Zo)) r) (λr=>Zd ((ZN (EX (λr=>Bp r 1)) (ZC 2 (Zf (Zb 3) (Zf (Zb 4) ZD))) Qa) r) (λr=>Zd (Zu ((Zm Ec #v[2]) r)) ∅))
def T4:=AV 2 5 T2
def Qb:AB:=(Zm B5 #v[0,Z (.ty "bool")])
def NY:Ao:=λr=>Zd (ZF (Cs (ZP (ZJ ((Zm B5 #v[1,Z (.ty "tuple")]) r))) (Cs (AU ((Za CL (Zm ZA #v[1]) (~~~2)) r)) (ZP (ZJ ((Zm B5 #v[(Za Ap (!1) (~~~0)) r,Z (.ty "tuple")]) r))))) (Zd (Zu (Z (.bl O'))) ∅) (.β r)) (λr=>Zd (ZF (Cs (ZP (ZJ ((Zm B5 #v[(Za Ap (!1) (~~~1)) r,Z (.ty "tuple")]) r))) (ZJ ((Zm Ko #v[Zy ((Zi 1 [] (λr=>((Za Zw (Za Ap (!1) (~~~0)) (Za Ap (!1) (~~~1))) r).L Zn) (Zb 0) (λ_=>Z J') Qb) r)]) r))) (Zd (Zu (Z (.bl O'))) ∅) (.β r)) ∅)
def T5:Ao:=λr=>Zd (ZF (ZP (ZJ ((Zm B5 #v[0,Z (.ty "list")]) r))) (Zd (Zu (Z (.bl O'))) ∅) (.β r)) (λr=>Zd ((ZN (λr=>(Bp r 0).L Zn) (Zb 1) NY) r) (λr=>Zd (Zu (Z (.bl J'))) ∅))
def T6:=AV 1 2 T5
def yQ:Ao:=λr=>Zd (Zu (C1 (Eo (AU ((Zm B5 #v[0,Z (.ty "int")]) r)) (AU (C1 (ZP (AU ((Zm B5 #v[0,Z (.ty "bool")]) r)))))))) ∅
def dP:=AV 1 1 yQ
def dQ:Ao:=λr=>Zd (Zu (C1 (Cs (AU ((Zh G6 #v[0]) r)) (AU ((Zh IX #v[0]) r))))) ∅
def Me:=AV 1 1 dQ
def dR:Ao:=λr=>Zd (ZF (DS (Bh r 0)) (Zd (Zu ((Zg (#[Z (.r 0),Z (.r 0)].L Zo)).j D.O)) ∅) (.β r)) (λr=>Zd (ZF (ZJ ((Zh G6 #v[0]) r)) (Zd (Zu ((Zg (#[Z (.r 1),A2 r 0].L Zo)).j D.O)) ∅) (.β r)) (λr=>Zd (Zu ((Zg (#[Z (.r 2),A2 r 0].L Zo)).j D.O)) ∅))
def Qc:=AV 1 1 dR
def T7:AB:=λr=>(Zg (#[(Zh F9 #v[0,1]) r,(Zh F9 #v[0,2]) r].L Zo)).j D.O
def dS:Ao:=λr=>Zd (HM ((FG (λr=>Zy ((Zi 1 [1,2] (λr=>(Bp r 0).L Zn) (Zb 0) (λ_=>Z J') T7) r))) r)) ∅
def Qd:=AV 3 3 dS
def NZ:Ao:=λr=>Zd (Zu (C1 (Eo (AU ((Zh G6 #v[1]) r)) (AU ((Kp Lx FE (~~~0) (!1) (Zm ZA #v[0])) r))))) ∅
def Qe:=AV 2 2 NZ
def N0:Ao:=λr=>Zd (Zu (C1 (Eo (AU ((Zh G6 #v[1]) r)) (AU ((Kp Lx Lx (~~~0) (!1) (Zh Mc #v[0])) r))))) ∅
def Qf:=AV 2 2 N0
def T8:AB:=(Zh Mc #v[0])
def T9:Ao:=λr=>Zd (Zu ((Zm Ec #v[Zy ((Zi 1 [] (λr=>(Bp r 0).L Zn) (Zb 0) (λ_=>Z J') T8) r)]) r)) ∅
def Qg:=AV 1 1 T9
def Ua:AB:=λr=>(Zg (#[(Za Ap (!0) (~~~0)) r,(Zg (#[Z (.Α "out"),Z .Y].L Zo)).j D.O].L Zo)).j D.O
def Mf:Ao:=λr=>Zd (ZF (AU ((Za (Dx O') (Za Ap (!4) (~~~0)) (!2)) r)) (Zd (HV 3 ((Za Ap (!4) (~~~0)) r) ((Zg (#[Z (.Α "in"),(Zh F9 #v[4,1]) r].L Zo)).j D.O) r) ∅) (.β r)) ∅
def Ub:Ao:=λr=>Zd (Ea 3 ((FG (λr=>Zy ((Zi 1 [] (λr=>(Bp r 0).L Zn) (Zb 0) (λ_=>Z J') Ua) r))) r) r) (λr=>Zd ((ZN (λr=>(Bp r 0).L Zn) (Zb 4) Mf) r) (λr=>Zd (HM (EO r 3)) ∅))
def Qh:=AV 3 5 Ub
def Uc:VE->O jp:=λr=>AU ((Za (Dx O') (Za Ap (!0) (~~~0)) (!3)) r)
def Ud:AB:=λr=>(Zg (#[(Zh F9 #v[0,1]) r,(Zh F9 #v[0,2]) r].L Zo)).j D.O
def Ue:Ao:=λr=>Zd (HM ((FG (λr=>Zy ((Zi 1 [1,2,3] (λr=>(Bp r 0).L Zn) (Zb 0) Uc Ud) r))) r)) ∅
def Qi:=AV 4 4 Ue
def Uf:Ao:=λr=>ZG 3 ((Za Z7 (Za F4 (!1) (~~~4)) (Za Pg (~~~10) (~~~30))) r) r
def Ug:Ao:=λr=>ZF (AU ((Za Ce (!0) (~~~0)) r)) (Zd (Zu ((Za Zw (!3) (!2)) r)) ∅) (.β r)
def Uh:Ao:=λr=>ZF (AU ((Za Ce (!0) (~~~1)) r)) (Zd (Zu ((Za HN (Za HN (~~~0) (!3)) (!2)) r)) ∅) (.β r)
def Ui:Ao:=λr=>ZG 4 ((Zh T0 #v[(Za F4 (!1) (~~~4)) r,(Za Z7 (!1) (~~~8)) r]) r) r
def Uj:Ao:=λr=>ZF (AU ((Za Ce (!0) (~~~2)) r)) (Zd (Zu ((Za Zw (!4) (Pr L9 (Zm Ma #v[2]) #v[(Za Zw (~~~1) (Za Z7 (Za F4 (!1) (~~~8)) (~~~4))) r])) r)) ∅) (.β r)
def dT:Ao:=λr=>ZG 5 (Z (.Α "abcdefghijklmnopqrstuvwxyz")) r
def dU:Ao:=λr=>ZG 6 ((Za Z7 (Za F4 (!1) (~~~8)) (Za Zw (Zm ZA #v[4]) (~~~1))) r) r
def dV:Ao:=λr=>ZG 7 ((Za Zw (Za Ap (!5) (Za F4 (!2) (~~~26))) (Za Ap (!5) (Za Z7 (Za Zw (!2) (Za F4 (!1) (~~~8))) (~~~26)))) r) r
def dW:Ao:=λr=>Zu ((Za Zw (Za Zw (Dw (!4) (λ_=>Z J) (λr=>Dn (Bh r 6)) DH) (!7)) (Dw (!4) (λr=>Dn (Bh r 6)) (λ_=>Z J) DH)) r)
def yR:Ao:=λr=>.β r
def dX:=dW >>> yR
def dY:=dV >>> dX
def dZ:=dU >>> dY
def d4:=dT >>> dZ
def Uk:=Uj >>> d4
def Ul:=Ui >>> Uk
def Um:=Uh >>> Ul
def Uo:=Ug >>> Um
def N1:=Uf >>> Uo
def yS:Ao:=N1
def Mg:=AV 3 8 yS
def Qj:AB:=(Za Ap (Za Ap (!1) (Za Z7 (Za Ap (!2) (!0)) (Zm ZA #v[1]))) (~~~0))
def Up:Ao:=λr=>ZG 3 ((Zh Md #v[0,1]) r) r
def Uq:Ao:=λr=>ZG 4 ((Zm Ec #v[Zy ((Zi 2 [3] (EX (λr=>Bp r 2)) (ZC 2 (Zf (Zb 0) (Zf (Zb 1) ZD))) (λ_=>Z J') Qj) r)]) r) r
def Ur:Ao:=λr=>ZG 5 ((Za GV (Za Z7 (!0) (Za Pg (~~~10) (~~~30))) (Za HN (~~~1) (Za GV (~~~2) (Za Z7 (Za Ap (!3) (~~~5)) (~~~2))))) r) r
def Us:Ao:=λr=>ZF (AU ((Za Ce (Za Z7 (Za Ap (!3) (~~~6)) (~~~2)) (~~~1)) r)) (Zd (ZG 5 ((Za HN (Za Z7 (Za Ap (!3) (~~~7)) (~~~7)) (~~~3)) r) r) ∅) (.β r)
def Ut:Ao:=λr=>Zu ((Zg (#[A2 r 4,A2 r 5].L Zo)).j D.O)
def yT:Ao:=λr=>.β r
def Uu:=Ut >>> yT
def Uv:=Us >>> Uu
def Uw:=Ur >>> Uv
def Ux:=Uq >>> Uw
def Uy:=Up >>> Ux
def Qk:Ao:=Uy
def Uz:=AV 3 6 Qk
def Ql:AB:=(Zh P8 #v[0,1,2])
def UA:Ao:=λr=>Zd (Zu ((Zm Ec #v[Zy ((Zi 3 [] (PV (λr=>Bp r 0) (λr=>Bp r 1) (λr=>Bp r 2)) (ZC 3 (Zf (Zb 0) (Zf (Zb 1) (Zf (Zb 2) ZD)))) (λ_=>Z J') Ql) r)]) r)) ∅
def UB:=AV 3 3 UA
def UC:AB:=(Zh P7 #v[0])
def UD:Ao:=λr=>Zd (ZK ((Zi 1 [] (λr=>(Bp r 0).L Zn) (Zb 0) (λ_=>Z J') UC) r)) ∅
def Qm:=AV 1 1 UD
def Qn:Ao:=λr=>Zd (ZG 6 (C1 (Eo (AU (A2 r 6)) (AU ((Za Ce (Zh P8 #v[(Za Ap (!0) (!7)) r,(Za Ap (!4) (!7)) r,8]) (!9)) r)))) r) ∅
def N2:Ao:=λr=>Zd (ZG 6 (Z (.bl J')) r) (λr=>Zd ((ZN (λr=>(Bp r 2).L Zn) (ZC 3 (Zf (Zb 7) (Zf (Zb 8) (Zf (Zb 9) ZD)))) Qn) r) (λr=>Zd (ZF (ZJ (Bh r 6)) (Zd (D3 3 ((Zg (#[A2 r 4,A2 r 5].L Zo)).j D.O) r) ∅) (.β r)) ∅))
def UE:Ao:=λr=>Zd (Z4 3 (Zg ((Z []).L Zo)) r) (λr=>Zd ((ZN (λr=>(Bp r 1).L Zn) (ZC 2 (Zf (Zb 4) (Zf (Zb 5) ZD))) N2) r) (λr=>Zd (ZK (Db r 3)) ∅))
def UF:=AV 3 10 UE
def UG:AB:=(Zh Qc #v[0])
def d5:Ao:=λr=>Zd (Zu ((Zm Ec #v[Zy ((Zi 1 [] (λr=>(Bp r 0).L Zn) (Zb 0) (λ_=>Z J') UG) r)]) r)) ∅
def Mh:=AV 1 1 d5
def UH:AB:=(Zh Me #v[0])
def UI:Ao:=λr=>Zd (ZF (ZP (ZJ ((Zm B5 #v[0,Z (.ty "tuple")]) r))) (Zd (Zu (Z (.bl O'))) ∅) (.β r)) (λr=>Zd (ZF (Cs (AU ((Za FE (Zm ZA #v[0]) (~~~1)) r)) (AU ((Za Fm (Zm ZA #v[0]) (~~~4)) r))) (Zd (Zu (Z (.bl O'))) ∅) (.β r)) (λr=>Zd (Zu ((Zm Do #v[Zy ((Zi 1 [] (λr=>(Bp r 0).L Zn) (Zb 0) (λ_=>Z J') UH) r)]) r)) ∅))
def UJ:=AV 1 1 UI
def UK:Ao:=λr=>Zd (ZF (ZP (ZJ ((Zh Qe #v[0,1]) r))) (Zd (.ό) ∅) (.β r)) (λr=>Zd (Zu ((Za Ap (!0) (!1)) r)) ∅)
def Qo:=AV 2 2 UK
def UL:AB:=(Zh Qf #v[0,1])
def UM:Ao:=λr=>Zd (ZF (Cs (ZP (ZJ ((Zm B5 #v[1,Z (.ty "tuple")]) r))) (AU ((Za CL (Zm ZA #v[1]) (Zm ZA #v[0])) r))) (Zd (Zu (Z (.bl O'))) ∅) (.β r)) (λr=>Zd (Zu ((Zm Do #v[Zy ((Zi 2 [] (Hv (λr=>Bp r 0) (λr=>Bp r 1)) (ZC 2 (Zf (Zb 0) (Zf (Zb 1) ZD))) (λ_=>Z J') UL) r)]) r)) ∅)
def N3:=AV 2 2 UM
def Qp:A4:=λs=>ZS (F5 "View" "book" (λs=>Cw s 0) (xP (Cw s 1) s) s) (λs=>ZS (F5 "View" "steps" (λs=>Cw s 0) (xC .l (jG 1 (λr=>Zg (#[(Zg (#[(Zh Qg #v[(ZY "Book" "ladders" NU (Cp r 1) (Z [])).j Ct]) r,(Zg ((Z []).L Zo)).j D.O].L Zo)).j D.O].L Zo)) s) s) s) ∅)
def Qq:=Ee 2 2 Qp
def Qr:AB:=λr=>C1 (Cs (AU (C1 (DS (Bh r 0)))) (AU ((Zh Me #v[0]) r)))
def d6:Ao:=λr=>ZF (Cs (ZP (ZJ ((Zm B5 #v[1,Z (.ty "tuple")]) r))) (AU ((Za CL (Zm ZA #v[1]) (~~~3)) r))) (Zd (Zu (Z (.bl O'))) ∅) (.β r)
def d7:Ao:=λr=>ZF (Cs (ZP (ZJ ((Zh Qe #v[0,(Za Ap (!1) (~~~0)) r]) r))) (ZP (ZJ ((Zh Qf #v[(Za Ap (!0) (Za Ap (!1) (~~~0))) r,(Za Ap (!1) (~~~1)) r]) r)))) (Zd (Zu (Z (.bl O'))) ∅) (.β r)
def UN:Ao:=λr=>ZF (ZP (ZJ ((Zm B5 #v[(Za Ap (!1) (~~~2)) r,(Zg (#[Z (.ty "list"),Z (.ty "tuple")].L Zo)).j D.O]) r))) (Zd (Zu (Z (.bl O'))) ∅) (.β r)
def UO:Ao:=λr=>Zu ((Zm Do #v[Zy ((Zi 1 [] (λr=>((Za Ap (!1) (~~~2)) r).L Zn) (Zb 0) (λ_=>Z J') Qr) r)]) r)
def yU:Ao:=λr=>.β r
def UP:=UO >>> yU
def Qs:=UN >>> UP
def d8:=d7 >>> Qs
def d9:=d6 >>> d8
def UQ:Ao:=d9
def Mi:=AV 2 2 UQ
def IY:Ao:=λr=>Zd (NI 7 ((IM 5 (Zh F9 #v[6,1]) (Za Ap (!6) (~~~0))) r)) (λr=>Zd (ZF (AU ((Za CL (Za C3 (!4) (!7)) (Za C3 (!4) (Za Ap (!6) (~~~0)))) r)) (Zd (Zu ((Zg (#[A2 r 7,(Za Ap (!6) (~~~0)) r].L Zo)).j D.O)) ∅) (.β r)) ∅)
def ed:Ao:=λr=>ZG 4 ((Zh Qh #v[0,2,3]) r) r
def ee:Ao:=λr=>Ea 5 (Z []) r
def ef:Ao:=(ZN (λr=>(Bp r 0).L Zn) (Zb 6) IY)
def yV:Ao:=λr=>Zu (Z .Y)
def yW:Ao:=λr=>.β r
def eg:=yV >>> yW
def en:=ef >>> eg
def eo:=ee >>> en
def et:=ed >>> eo
def UR:Ao:=et
def US:=AV 4 8 UR
def Qt:AB:=(Zh Qd #v[1,(Za Ap (!2) (!0)) r,(Za Ap (!3) (!0)) r])
def eu:Ao:=λr=>Zd (ZK ((Zi 2 [1,2] (EX (λr=>Bp r 0)) (ZC 2 (Zf (Zb 0) (Zf (Zb 1) ZD))) (λ_=>Z J') Qt) r)) ∅
def Qu:=AV 3 3 eu
def KS:Ao:=λr=>Zd (D3 4 ((Za Ap (λr=>Zy (Zg (#[(Za Zw (~~~1) (Za Z7 (Za Ap (!3) (!5)) (~~~6))) r,(Za Zw (~~~2) (Za Z7 (Za Ap (!3) (!5)) (~~~3))) r,Z (.r 47),Z (.r 3)].L Zo))) (Za Z7 (Za F4 (Za Ap (!3) (!5)) (~~~64)) (~~~4))) r) r) ∅
def N4:Ao:=λr=>Zd (ZF (AU ((Za Fm (!5) (~~~0)) r)) (Zd (ZG 8 ((Za Z7 (Za Zw (Za GV (!8) (Za Zw (~~~1) (Za Z7 (Za Ap (!3) (Za Zw (~~~4) (!5))) (~~~5)))) (Za Ap (!3) (Za Zw (~~~8) (!5)))) (Za Ap (!4) (!5))) r) r) ∅) (.β r)) (λr=>Zd (ZG 10 ((Za Zw (!0) (Za GV (Za GV (!5) (Za Z7 (Za Ap (!3) (~~~16)) (~~~2))) (~~~1000003))) r) r) (λr=>Zd (D3 9 ((Zh Mg #v[(Za Z7 (Za Ap (!3) (Za Zw (~~~12) (!5))) (~~~4)) r,10,8]) r) r) ∅))
def Qv:Ao:=λr=>Zd (ZG 8 ((Za Z7 (Za Zw (Za GV (!7) (Za Zw (~~~1) (Za Z7 (Za Ap (!3) (~~~0)) (~~~46)))) (Za Ap (!3) (~~~4))) (~~~47)) r) r) (λr=>Zd (Z4 9 (Zg ((Z []).L Zo)) r) (λr=>Zd ((ZN (λr=>(#[A2 r 2].L Zo).L F2) (Zb 5) N4) r) (λr=>Zd (D3 6 ((Zm Ec #v[9]) r) r) ∅)))
def eA:Ao:=λr=>ZG 3 ((Zh Md #v[0,2]) r) r
def eC:Ao:=λr=>Z4 4 (Zg (#[Z (.r 47)].L Zo)) r
def eE:Ao:=(ZN (λr=>(#[Z (.r 1),Z (.r 4)].L Zo).L Lq) (Zb 5) KS)
def eF:Ao:=λr=>Z4 6 (Zg ((Z []).L Zo)) r
def eG:Ao:=(ZN (λr=>(#[A2 r 1].L Zo).L F2) (Zb 7) Qv)
def eH:Ao:=λr=>ZK (Db r 6)
def eI:Ao:=λr=>.β r
def eJ:=eH >>> eI
def eK:=eG >>> eJ
def eM:=eF >>> eK
def eO:=eE >>> eM
def eP:=eC >>> eO
def UT:=eA >>> eP
def yX:Ao:=UT
def Qw:=AV 3 11 yX
def UU:AB:=(Za Zw (Za F4 (!1) (~~~6)) (Za GV (~~~7) (!0)))
def Qx:AB:=(Zh Uz #v[1,0,2])
def UV:Ao:=λr=>Zd (ZG 3 ((Zh Z8 #v[0,Z (.r 5)]) r) r) (λr=>Zd (ZG 4 ((Za Zw (Dw (!0) (λr=>Dn (Bh r 1)) (λr=>Dn ((Za Zw (!1) (~~~30)) r)) DH) (λr=>Zy ((Zi 1 [3] (λr=>(#[(Za Zw (~~~3) (Za Z7 (!3) (~~~6))) r].L Zo).L F2) (Zb 0) (λ_=>Z J') UU) r))) r) r) (λr=>Zd (ZK ((Zi 2 [2] (EX (λr=>Bp r 4)) (ZC 2 (Zf (Zb 0) (Zf (Zb 1) ZD))) (λ_=>Z J') Qx) r)) ∅))
def UW:=AV 3 5 UV
def UX:AB:=(Zh UJ #v[0])
def N5:Ao:=λr=>Zd (ZG 6 ((Dw (!3) (λr=>Dn ((Za Zw (!4) (~~~1)) r)) (λ_=>Z J) DH) r) r) (λr=>Zd (Px (Nn (IM 1 (λr=>(Zg (#[A2 r 4,A2 r 5].L Zo)).j D.O) (λr=>A2 r 6)) (!6) r) (λr=>Zd (Zu (Z (.bl O'))) ∅) ∅) ∅)
def Qy:Ao:=λr=>Zd (ZF (Cs (AU ((Za CL (Zm ZA #v[3]) (Zm ZA #v[(Za Ap (!0) (~~~0)) r])) r)) (AU ((Za (Dp O') (Za Ap (!3) (~~~0)) (!2)) r))) (Zd (Zu (Z (.bl O'))) ∅) (.β r)) (λr=>Zd (HV 2 ((Za Ap (!3) (~~~0)) r) (Z (.bl J')) r) (λr=>Zd ((ZN (EX (λr=>Bp r 3)) (ZC 2 (Zf (Zb 4) (Zf (Zb 5) ZD))) N5) r) ∅))
def eQ:Ao:=λr=>ZF (ZP (ZJ ((Zm Do #v[Zy ((Zi 1 [] (λr=>(Bp r 0).L Zn) (Zb 0) (λ_=>Z J') UX) r)]) r))) (Zd (Zu (Z (.bl O'))) ∅) (.β r)
def eS:Ao:=λr=>Ea 1 (Z []) r
def eT:Ao:=λr=>Ea 2 (Z []) r
def eU:Ao:=(ZN (λr=>(Bp r 0).L Zn) (Zb 3) Qy)
def eV:Ao:=λr=>Zu (Z (.bl J'))
def yY:Ao:=λr=>.β r
def eW:=eV >>> yY
def eX:=eU >>> eW
def eY:=eT >>> eX
def eZ:=eS >>> eY
def e5:=eQ >>> eZ
def UY:Ao:=e5
def Qz:=AV 1 7 UY
def e6:A4:=λs=>C5 2 (xD ((jC Qo (λs=>Zz (((jM 1 "Book" "ladders" NU (λs=>H9 "View" "book" s (Cw s 0))) s).j .u) (Zz (((jE 0 (λr=>A2 r 1)) s).j .u) (Z [])))) s) s) s
def e7:A4:=λs=>C5 3 (xD ((jE 2 (Za Ap (λr=>(ZY "View" "grain" JQ (Cp r 0) (Z [])).j Ct) (!1))) s) s) s
def e8:A4:=λs=>ED (jT 2 (λr=>AU ((Za Ce (!3) (Zh Mc #v[2])) r)) s) (ZS (.ό) ∅) (.β s)
def e9:A4:=λs=>Ia (JM (H9 "View" "steps" s (Cw s 0)) ((jE 2 (λr=>(Zg (#[(Zh P1 #v[(ZY "View" "grain" JQ (Cp r 0) (Z [])).j Ct,1,(Za Zw (!3) (~~~1)) r]) r,(Za Ap (Za Ap (λr=>(Bh r 0).L (Z6 "View" "steps")) (λr=>HP (Z (.r 1)))) (~~~1)) r].L Zo)).j D.O)) s) s) s
def fg:A4:=λs=>.β s
def fh:=e9 <<< fg
def fj:=e8 <<< fh
def fq:=e7 <<< fj
def ft:=e6 <<< fq
def UZ:A4:=ft
def U0:=Ee 2 4 UZ
def U1:AB:=(Zh Mi #v[1,0])
def U2:Ao:=λr=>Zd (Zu (C1 (Eo (AU ((Zm B5 #v[1,Z (.ty "list")]) r)) (AU ((Zm Do #v[Zy ((Zi 1 [0] (λr=>(Bp r 1).L Zn) (Zb 0) (λ_=>Z J') U1) r)]) r))))) ∅
def N6:=AV 2 2 U2
def U3:Ao:=λr=>Zd (Zu ((Zg (#[(Zh Mh #v[(Za Ap (!0) (~~~0)) r]) r,(Za Ap (!0) (~~~1)) r].L Zo)).j D.O)) ∅
def QA:=AV 1 1 U3
def QB:Ao:=λr=>Zd (ZG 4 ((Zh Md #v[(Zh Z8 #v[0,(Za Zw (~~~1) (!3)) r]) r,3]) r) r) (λr=>Zd (D3 2 ((Zh Qw #v[(Zh Z8 #v[0,(Za Zw (~~~1) (!3)) r]) r,(Za Zw (~~~1) (Za Z7 (Za Ap (!4) (~~~20)) (~~~8))) r,(Za Zw (~~~1) (Za Z7 (Za Ap (!4) (~~~21)) (~~~4))) r]) r) r) ∅)
def fu:Ao:=λr=>ZG 1 ((Zh Z8 #v[0,Z (.r 0)]) r) r
def fw:Ao:=λr=>Z4 2 (Zg ((Z []).L Zo)) r
def fy:Ao:=(ZN (λr=>(#[(Za Zw (Za Zw (~~~1) (Za Z7 (!1) (~~~3))) (Zm Ng #v[(Za Ce (Za Z7 (!1) (~~~12)) (~~~5)) r])) r].L Zo).L F2) (Zb 3) QB)
def fB:Ao:=λr=>ZK (Db r 2)
def fC:Ao:=λr=>.β r
def fE:=fB >>> fC
def fF:=fy >>> fE
def fG:=fw >>> fF
def U4:=fu >>> fG
def yZ:Ao:=U4
def U5:=AV 1 5 yZ
def U6:Ao:=λr=>Zd (ZF (ZP (ZJ ((Zm B5 #v[0,Z (.ty "list")]) r))) (Zd (Zu (Z (.bl O'))) ∅) (.β r)) (λr=>Zd (ZF (Cs (AU ((Za FE (Zm ZA #v[0]) (~~~1)) r)) (AU ((Za Fm (Zm ZA #v[0]) (~~~40)) r))) (Zd (Zu (Z (.bl O'))) ∅) (.β r)) (λr=>Zd (Zu ((Zh Qz #v[0]) r)) ∅))
def U7:=AV 1 1 U6
def N7:Ao:=λr=>Zd (ZG 6 ((Zh UB #v[0,4,2]) r) r) (λr=>Zd (HV 3 (Bh r 6) ((Za Zw (PX 3 (!6) (λr=>Zy (Zg ((Z []).L Zo)))) (λr=>Zy (Zg (#[A2 r 5].L Zo)))) r) r) ∅)
def U8:AB:=λr=>(Zg (#[A2 r 0,(Zh P9 #v[(Za C3 (!1) (!0)) r]) r].L Zo)).j D.O
def U9:Ao:=λr=>Zd (Ea 3 (Z []) r) (λr=>Zd ((ZN (λr=>(Bp r 1).L Zn) (ZC 2 (Zf (Zb 4) (Zf (Zb 5) ZD))) N7) r) (λr=>Zd (ZK ((Zi 1 [3] (λr=>(Zy ((NK Qm (!3)) r)).L Zn) (Zb 0) (λ_=>Z J') U8) r)) ∅))
def Va:=AV 3 7 U9
def JR:Ao:=λr=>Zd (ZF (Cs (ZP (ZJ (Bh r 1))) (AU ((Za CL (Za Ap (!1) (λr=>HP (Z (.r 1)))) (!2)) r))) (Zd (D3 1 (A2 r 2) r) ∅) (.β r)) ∅
def Vb:Ao:=λr=>Zd (Z4 1 (Zg ((Z []).L Zo)) r) (λr=>Zd ((ZN (λr=>(Zy ((Ky Mh (!0)) r)).L Zn) (Zb 2) JR) r) (λr=>Zd (ZK (Db r 1)) ∅))
def N8:=AV 1 3 Vb
def Vc:AB:=(Zh U7 #v[0])
def Vd:Ao:=λr=>Zd (ZF (ZP (ZJ ((Zm B5 #v[0,Z (.ty "list")]) r))) (Zd (Zu (Z (.bl O'))) ∅) (.β r)) (λr=>Zd (ZF (Cs (AU ((Za FE (Zm ZA #v[0]) (~~~1)) r)) (AU ((Za Fm (Zm ZA #v[0]) (~~~4)) r))) (Zd (Zu (Z (.bl O'))) ∅) (.β r)) (λr=>Zd (Zu ((Zm Do #v[Zy ((Zi 1 [] (λr=>(Bp r 0).L Zn) (Zb 0) (λ_=>Z J') Vc) r)]) r)) ∅))
def Ve:=AV 1 1 Vd
def Vf:AB:=λr=>(Zg (#[A2 r 0].L Zo)).j D.O
def Vg:AB:=(Za Ap (!0) (~~~0))
def N9:Ao:=λr=>Zd (ZK ((Zi 1 [] (λr=>((Zh N8 #v[Zy ((Zi 1 [] (λr=>(Bp r 0).L Zn) (Zb 0) (λ_=>Z J') Vf) r)]) r).L Zn) (Zb 0) (λ_=>Z J') Vg) r)) ∅
def Oa:=AV 1 1 N9
def ZW:AB:=(Za C3 (!0) (!1))
def Mj:Ao:=λr=>Zd (ZF (ZJ ((Zh KR #v[0,3]) r)) (Zd (ZG 5 ((Zm Ec #v[Zy ((Zi 2 [] (Hv (λr=>Bp r 0) (λr=>Bp r 3)) (ZC 2 (Zf (Zb 0) (Zf (Zb 1) ZD))) (λ_=>Z J') ZW) r)]) r) r) (λr=>Zd (HV 2 (Bh r 5) (M0 (AU ((Za (Dp O') (!5) (!2)) r)) ((Zh NS #v[(Za C3 (!2) (!5)) r,4]) r) (A2 r 4)) r) ∅)) (.β r)) ∅
def Vh:AB:=λr=>(Zg (#[A2 r 0,(Za C3 (!1) (!0)) r].L Zo)).j D.O
def Vi:Ao:=λr=>Zd (Ea 2 (Z []) r) (λr=>Zd ((ZN (λr=>(Bp r 1).L Zn) (ZC 2 (Zf (Zb 3) (Zf (Zb 4) ZD))) Mj) r) (λr=>Zd (ZK ((Zi 1 [2] (λr=>((Zh N8 #v[Zy ((Ez Kz #v[2]) r)]) r).L Zn) (Zb 0) (λ_=>Z J') Vh) r)) ∅))
def Ob:=AV 2 6 Vi
def Vj:VE->O jp:=λr=>AU ((Za CL (Za NA (!1) (!0)) (Za C3 (!2) (!0))) r)
def fH:AB:=λr=>A2 r 0
def Vk:VE->O jp:=λr=>AU ((Za (Dp J') (!0) (!1)) r)
def fI:AB:=λr=>A2 r 0
def fJ:Ao:=λr=>Ea 2 ((FG (!0)) r) r
def fK:Ao:=λr=>Ea 3 ((FG (!1)) r) r
def fL:Ao:=(NG 2 (λr=>Z4 4 ((Zi 1 [3,2] (λr=>(Bp r 2).L Gu) (Zb 0) Vj fH) r) r))
def fM:Ao:=(NG 3 (λr=>ZK ((DU N8 #v[(Za Zw (!4) (λr=>Zy ((Zi 1 [2] (λr=>(Bp r 3).L Gu) (Zb 0) Vk fI) r))) r]) r)))
def y1:Ao:=λr=>.β r
def fN:=fM >>> y1
def fO:=fL >>> fN
def fP:=fK >>> fO
def fQ:=fJ >>> fP
def Vl:Ao:=fQ
def QC:=AV 2 5 Vl
def Vm:VE->O jp:=λr=>AU ((Za Ce (Zh F9 #v[0,1]) (!2)) r)
def Vn:AB:=(Za Ap (!0) (~~~0))
def Vo:Ao:=λr=>Zd (ZF (Eo (ZP (DS (Bh r 2))) (ZP (ZJ ((Zh Me #v[2]) r)))) (Zd (ZK (Zg ((Z []).L Zo))) ∅) (.β r)) (λr=>Zd (ZK ((DU Oa #v[Zy ((Zi 1 [1,2] (λr=>(Bp r 0).L Zn) (Zb 0) Vm Vn) r)]) r)) ∅)
def Vp:=AV 3 3 Vo
def Vq:AB:=λr=>(Zg (#[A2 r 0,Z (.bl J')].L Zo)).j D.O
def Vr:VE->O jp:=λr=>AU ((Za (Dp O') (Zh F9 #v[0,(Za Ap (!1) (~~~1)) r]) (!2)) r)
def fR:AB:=λr=>A2 r 0
def Oc:Ao:=λr=>Zd (ZF (AU ((Za Ce (Za Ap (!4) (~~~0)) (!2)) r)) (Zd (Ea 5 ((FG (λr=>Zy ((Zi 1 [] (λr=>((Za Ap (!4) (~~~2)) r).L Zn) (Zb 0) (λ_=>Z J') Vq) r))) r) r) (λr=>Zd (ZG 3 (Zy ((Zi 1 [4,5] (λr=>(Bp r 3).L Zn) (Zb 0) Vr fR) r)) r) ∅)) (.β r)) ∅
def Vs:AB:=(Za Ap (!0) (~~~0))
def Vt:Ao:=λr=>Zd (ZG 3 ((Za Ap (!0) (!2)) r) r) (λr=>Zd ((ZN (λr=>(Bp r 1).L Zn) (Zb 4) Oc) r) (λr=>Zd (ZK ((DU Oa #v[Zy ((Zi 1 [] (λr=>(Bp r 3).L Zn) (Zb 0) (λ_=>Z J') Vs) r)]) r)) ∅))
def QD:=AV 3 6 Vt
def Vu:AB:=λr=>(Zg (#[A2 r 0,(Zh P2 #v[Zy (Zg (#[A2 r 1].L Zo))]) r].L Zo)).j D.O
def Vv:Ao:=λr=>Zd (ZG 3 (Zy ((Zi 2 [] (λr=>(Bp r 1).L Zn) (ZC 2 (Zf (Zb 0) (Zf (Zb 1) ZD))) (λ_=>Z J') Vu) r)) r) (λr=>Zd (ZK ((DU Ob #v[(Zh Qu #v[0,(Zh NQ #v[0]) r,2]) r,3]) r)) ∅)
def QE:=AV 3 4 Vv
def Vw:AB:=λr=>(Zg (#[A2 r 1,A2 r 0].L Zo)).j D.O
def QF:Ao:=λr=>Zd (LH 2 ((Zi 1 [3] (λr=>((Zh QC #v[(Za C3 (!0) (!3)) r,(Za C3 (!1) (!3)) r]) r).L Zn) (Zb 0) (λ_=>Z J') Vw) r) r) ∅
def Vx:Ao:=λr=>Zd (Z4 2 (Zg ((Z []).L Zo)) r) (λr=>Zd ((ZN (λr=>(Zy (L5 (Bh r 0))).L Zn) (Zb 3) QF) r) (λr=>Zd (ZK (Db r 2)) ∅))
def Vy:=AV 2 4 Vx
def Vz:Ao:=λr=>Zd (Zu ((Za Fm (Zm ZA #v[(Zh Vp #v[0,1,2]) r]) (~~~0)) r)) ∅
def Od:=AV 3 3 Vz
def VA:AB:=(Zh QD #v[1,2,0])
def VB:Ao:=λr=>Zd (ZK ((Zi 1 [0,1] (λr=>(#[(Zm ZA #v[0]) r].L Zo).L F2) (Zb 0) (λ_=>Z J') VA) r)) ∅
def ZO:=AV 2 2 VB
def VC:AB:=λr=>(Zg (#[A2 r 0,(Zh QE #v[1,2,0]) r].L Zo)).j D.O
def VF:Ao:=λr=>Zd (HM ((FG (λr=>Zy ((Zi 1 [0,1] (λr=>(Bp r 2).L Zn) (Zb 0) (λ_=>Z J') VC) r))) r)) ∅
def QG:=AV 3 3 VF
def VG:A4:=λs=>ED (jT 2 (λr=>ZP (ZJ ((Zh N3 #v[(Bh r 0).L (Z6 "Book" "axes"),1]) r))) s) (ZS (.ό) ∅) (.β s)
def VH:A4:=λs=>ED (jT 2 (λr=>AU ((Za (Dp J') (!1) (λr=>(Bh r 0).L (Z6 "Book" "tables"))) r)) s) (ZS (ED (jT 2 (λr=>AU ((Za M9 (Zm L3 #v[(Bh r 0).L (Z6 "Book" "tables")]) (~~~12)) r)) s) (ZS (.ό) ∅) (.β s)) (λs=>ZS (PP (λs=>H9 "Book" "tables" s (Cw s 0)) ((jE 0 (λr=>A2 r 1)) s) ((jE 1 (Zh QE #v[(Bh r 0).L (Z6 "Book" "axes"),(Bh r 0).L (Z6 "Book" "standing"),1])) s) s) ∅)) (.β s)
def fS:A4:=λs=>FJ (xD ((jE 2 (Zm ZA #v[(Za C3 (λr=>(Bh r 0).L (Z6 "Book" "tables")) (!1)) r])) s) s)
def y3:A4:=λs=>.β s
def VI:=fS <<< y3
def VJ:=VH <<< VI
def VL:=VG <<< VJ
def Oe:A4:=VL
def Of:=Ee 2 2 Oe
def fT:A4:=λs=>C5 3 (xD ((jC Qo (λs=>Zz (((jM 1 "Book" "ladders" NU (λs=>H9 "View" "book" s (Cw s 0))) s).j .u) (Zz (((jE 0 (λr=>A2 r 1)) s).j .u) (Z [])))) s) s) s
def fU:A4:=λs=>C5 4 (xD ((jE 2 (Za Ap (λr=>(ZY "View" "grain" JQ (Cp r 0) (Z [])).j Ct) (!1))) s) s) s
def fV:A4:=λs=>ED (jT 2 (λr=>AU ((Za Ce (!4) (~~~0)) r)) s) (ZS (.ό) ∅) (.β s)
def fW:A4:=λs=>ED (jT 2 (λr=>ZP (ZJ ((Zh Od #v[3,4,2]) r))) s) (ZS (.ό) ∅) (.β s)
def fX:A4:=λs=>C5 5 (xD ((jE 2 (Za Zw (Za Ap (Za Ap (λr=>(Bh r 0).L (Z6 "View" "steps")) (λr=>HP (Z (.r 1)))) (~~~1)) (λr=>(Zg (#[(Zg (#[A2 r 1,A2 r 4,A2 r 2].L Zo)).j D.O].L Zo)).j D.O))) s) s) s
def fY:A4:=λs=>Ia (JM (H9 "View" "steps" s (Cw s 0)) ((jE 2 (λr=>(Zg (#[(Zh P1 #v[(ZY "View" "grain" JQ (Cp r 0) (Z [])).j Ct,1,(Za HN (!4) (~~~1)) r]) r,A2 r 5].L Zo)).j D.O)) s) s) s
def fZ:A4:=λs=>.β s
def f5:=fY <<< fZ
def f6:=fX <<< f5
def f7:=fW <<< f6
def f8:=fV <<< f7
def f9:=fU <<< f8
def gc:=fT <<< f9
def VM:A4:=gc
def VN:=Ee 3 6 VM
def JU:Ao:=λr=>Zd (ZG 7 ((Zh US #v[6,(Za Ap (!1) (!5)) r,(Za Ap (!2) (!5)) r,(Za Ap (!4) (!5)) r]) r) r) (λr=>Zd (ZF (ZP (DS (Bh r 7))) (Zd (Zu ((Zg (#[A2 r 5,(Za Ap (!7) (~~~0)) r,(Za Ap (!7) (~~~1)) r].L Zo)).j D.O)) ∅) (.β r)) ∅)
def ge:Ao:=λr=>ZG 4 ((Zh ZO #v[0,3]) r) r
def VO:Ao:=λr=>ZF (AU ((Za (Dx O') (λr=>Zy (Zg ((Z []).L Zo))) (!4)) r)) (Zd (Zu (Z .Y)) ∅) (.β r)
def gh:Ao:=(ZN (EX (λr=>Bp r 0)) (ZC 2 (Zf (Zb 5) (Zf (Zb 6) ZD))) JU)
def y4:Ao:=λr=>Zu (Z .Y)
def y6:Ao:=λr=>.β r
def gj:=y4 >>> y6
def gm:=gh >>> gj
def Og:=VO >>> gm
def gq:=ge >>> Og
def VP:Ao:=gq
def Ml:=AV 4 8 VP
def QH:AB:=(Zh Od #v[0,Z (.r 0),1])
def VQ:Ao:=λr=>Zd (ZF (Cs (ZP (ZJ ((Zm B5 #v[1,Z (.ty "tuple")]) r))) (AU ((Za CL (Zm ZA #v[1]) (Zm ZA #v[0])) r))) (Zd (Zu (Z (.bl O'))) ∅) (.β r)) (λr=>Zd (Zu ((Zm Do #v[Zy ((Zi 2 [] (Hv (λr=>Bp r 0) (λr=>Bp r 1)) (ZC 2 (Zf (Zb 0) (Zf (Zb 1) ZD))) (λ_=>Z J') QH) r)]) r)) ∅)
def VR:=AV 2 2 VQ
def VS:AB:=(Zh Qi #v[1,(Za Ap (!2) (!0)) r,(Za Ap (!3) (!0)) r,(Za Ap (!4) (!0)) r])
def VU:Ao:=λr=>Zd (ZG 4 ((Zh ZO #v[0,3]) r) r) (λr=>Zd (ZK ((Zi 2 [1,2,4] (EX (λr=>Bp r 0)) (ZC 2 (Zf (Zb 0) (Zf (Zb 1) ZD))) (λ_=>Z J') VS) r)) ∅)
def QI:=AV 4 5 VU
def gt:AB:=λr=>Zy ((Ez Hr #v[0]) r)
def gu:A4:=λs=>ED (jT 2 (λr=>ZP (ZJ ((Zh Ve #v[1]) r))) s) (ZS (.ό) ∅) (.β s)
def gv:A4:=λs=>F5 "Book" "axes" (λs=>Cw s 0) (xF .l (jG 1 (Zi 1 [] (λr=>(Bp r 1).L Zn) (Zb 0) (λ_=>Z J') gt) s) s) s
def gy:A4:=λs=>F5 "Book" "standing" (λs=>Cw s 0) (xF .l (jG 2 (λr=>Zg ((Z []).L Zo)) s) s) s
def gz:A4:=λs=>F5 "Book" "tables" (λs=>Cw s 0) (xC .d (jG 1 (Jw QG #v[(Bh r 0).L (Z6 "Book" "axes"),Zy (Zg ((Z []).L Zo)),Zy (Zg (#[(Zh NQ #v[(Bh r 0).L (Z6 "Book" "axes")]) r].L Zo))]) s) s) s
def gB:A4:=λs=>.β s
def gC:=gz <<< gB
def gD:=gy <<< gC
def gE:=gv <<< gD
def gF:=gu <<< gE
def QJ:A4:=gF
def QK:=Ee 2 2 QJ
def gG:A4:=λs=>C5 1 (xP (H9 "Book" "tables" s (Cw s 0)) s) s
def gH:A4:=λs=>F5 "Book" "tables" (λs=>Cw s 0) (xC .d (jG 1 (Jw QG #v[(Bh r 0).L (Z6 "Book" "axes"),(Bh r 0).L (Z6 "Book" "standing"),Zy ((Ez Kz #v[1]) r)]) s) s) s
def gI:A4:=λs=>FJ (xC .l (jG 2 (DU Vy #v[1,(Bh r 0).L (Z6 "Book" "tables")]) s) s)
def y7:A4:=λs=>.β s
def gJ:=gI <<< y7
def gK:=gH <<< gJ
def gL:=gG <<< gK
def VV:A4:=gL
def VW:=Ee 1 2 VV
def VX:Ao:=λr=>Zd (ZF (Cs (ZP (ZJ ((Zm B5 #v[1,Z (.ty "tuple")]) r))) (AU ((Za CL (Zm ZA #v[1]) (~~~3)) r))) (Zd (Zu (Z (.bl O'))) ∅) (.β r)) (λr=>Zd (ZF (Eo (AU ((Za CL (Za Ap (!1) (~~~0)) (λ_=>Z (.Α "+"))) r)) (AU ((Za CL (Za Ap (!1) (~~~0)) (λ_=>Z (.Α "-"))) r))) (Zd (Zu (Z (.bl O'))) ∅) (.β r)) (λr=>Zd (Zu (C1 (Eo (AU ((Zh VR #v[0,(Za Ap (!1) (~~~1)) r]) r)) (AU ((Zh G6 #v[(Za Ap (!1) (~~~2)) r]) r))))) ∅))
def VY:=AV 2 2 VX
def VZ:Ao:=λr=>Zd (ZF (ZP (DS ((Zh Ml #v[0,2,3,4]) r))) (Zd (.ό) ∅) (.β r)) (λr=>Zd (ZK ((DU Ob #v[(Zh QI #v[0,2,3,4]) r,1]) r)) ∅)
def V0:=AV 5 5 VZ
def V1:VE->O jp:=λr=>ZJ ((Zh KR #v[2,0]) r)
def gM:AB:=λr=>(Zg (#[A2 r 0,A2 r 1].L Zo)).j D.O
def V2:Ao:=λr=>Zd (ZG 4 ((Zh QI #v[0,2,(Zh Qg #v[0]) r,3]) r) r) (λr=>Zd (ZK ((Zi 2 [4] (λr=>(Bp r 1).L Zn) (ZC 2 (Zf (Zb 0) (Zf (Zb 1) ZD))) V1 gM) r)) ∅)
def V3:=AV 4 5 V2
def V4:A4:=λs=>NO 4 5 ((jE 0 (λr=>A2 r 2)) s) s
def V5:A4:=λs=>C5 6 (xD ((jE 0 (Zh Md #v[3,(Zm ZA #v[5]) r])) s) s) s
def V6:A4:=λs=>C5 7 (xD ((jE 2 (Za Z7 (Za Ap (!6) (~~~0)) (Zm ZA #v[1]))) s) s) s
def V7:A4:=λs=>C5 8 (xD ((jE 2 (Zm ZA #v[(Za Ap (Za Ap (!1) (!7)) (~~~0)) r])) s) s) s
def V8:A4:=λs=>ED (jT 2 (λr=>Eo (AU ((Za Fm (Za Ap (!4) (!7)) (~~~0)) r)) (Cs (AU ((Za Fm (Za Z7 (Za Ap (!6) (~~~1)) (~~~3)) (~~~0)) r)) (AU ((Za Ce (Za Ap (!4) (!7)) (!8)) r)))) s) (ZS (C5 9 (xD ((jE 2 (Za Ap (Za Zw (Za Ap (Za Ap (!1) (!7)) (Za Z7 (Za Ap (!6) (~~~2)) (Zm ZA #v[(Za Ap (!1) (!7)) r]))) (λr=>(Zg (#[Z .Y].L Zo)).j D.O)) (Za Ap (!4) (!7)))) s) s) s) (λs=>ZS (L8 (Mb (FK "View" "drill" VN (Cw s 0) (Zz (((jE 0 (λr=>A2 r 7)) s).j .u) (Zz (((jE 0 (λr=>A2 r 9)) s).j .u) (Z []))) s)) (λs=>ZS (FJ (xD ((jE 2 (λ_=>Z .Y)) s) s)) ∅) ∅ s) (λs=>ZS (C5 5 (xD ((jE 0 (Za Zw (!5) (λr=>Zy (Zg (#[(Zg (#[A2 r 7,(Za Ap (!4) (!7)) r,A2 r 9].L Zo)).j D.O].L Zo))))) s) s) s) (λs=>ZS (FJ (xD ((jE 0 (λr=>(Zg (#[(Za Zw (Za Zw (Dw (!4) (λ_=>Z J) (λr=>Dn (Bh r 7)) DH) (λr=>Zy (Zg (#[(Za HN (Za Ap (!4) (!7)) (~~~1)) r].L Zo)))) (Dw (!4) (λr=>Dn ((Za Zw (!7) (~~~1)) r)) (λ_=>Z J) DH)) r,A2 r 5].L Zo)).j D.O)) s) s)) ∅)))) (.β s)
def gN:A4:=λs=>L8 (Mb (FK "View" "roll" U0 (Cw s 0) (Zz (((jE 0 (λr=>A2 r 7)) s).j .u) (Z [])) s)) (λs=>ZS (FJ (xD ((jE 2 (λ_=>Z .Y)) s) s)) ∅) ∅ s
def gO:A4:=λs=>FJ (xD ((jE 0 (λr=>(Zg (#[(Za Zw (Za Zw (Dw (!4) (λ_=>Z J) (λr=>Dn (Bh r 7)) DH) (λr=>Zy (Zg (#[(Za Zw (Za Ap (!4) (!7)) (~~~1)) r].L Zo)))) (Dw (!4) (λr=>Dn ((Za Zw (!7) (~~~1)) r)) (λ_=>Z J) DH)) r,A2 r 5].L Zo)).j D.O)) s) s)
def y8:A4:=λs=>.β s
def gP:=gO <<< y8
def gQ:=gN <<< gP
def V9:=V8 <<< gQ
def Wa:=V7 <<< V9
def Wb:=V6 <<< Wa
def Wc:=V5 <<< Wb
def We:=V4 <<< Wc
def Oh:A4:=We
def Wf:=Ee 4 10 Oh
def QL:A4:=λs=>ZS (ED (jT 2 (λr=>ZP (ZJ ((Zh VY #v[0,4]) r))) s) (ZS (.ό) ∅) (.β s)) (λs=>ZS (ED (jT 2 (λr=>AU ((Za Ce (Za Ap (!4) (~~~0)) (λ_=>Z (.Α "+"))) r)) s) (ZS (Ia (IU TL (Zz ((Cw s 3).j .ϋ) (Zz (((jE 2 (λr=>(Zg (#[(Za Ap (!4) (~~~1)) r,(Za Ap (!4) (~~~2)) r].L Zo)).j D.O)) s).j .u) (Z []))) s) s) ∅) (ZS (Ia (IU TN (Zz ((Cw s 3).j .ϋ) (Zz (((jE 2 (λr=>(Zg (#[(Za Ap (!4) (~~~1)) r,(Za Ap (!4) (~~~2)) r].L Zo)).j D.O)) s).j .u) (Z []))) s) s) ∅)) ∅)
def gR:A4:=λs=>C5 3 (xC .l (jG 2 (Ez Hr #v[1]) s) s) s
def gS:A4:=λs=>KD 4 QL (((jE 0 (λr=>A2 r 2)) s).L JL) s
def gT:A4:=λs=>FJ (xF .l (jG 2 (Ky QA (!3)) s) s)
def y9:A4:=λs=>.β s
def gU:=gT <<< y9
def gW:=gS <<< gU
def gX:=gR <<< gW
def Wg:A4:=gX
def Wh:=Ee 3 5 Wg
def Wi:Ao:=λr=>Zd (Zu ((Zm ZA #v[(Zh V3 #v[0,1,2,3]) r]) r)) ∅
def Wj:=AV 4 4 Wi
def Wk:A4:=λs=>ZS (F5 "Book" "standing" (λs=>Cw s 0) (IU Wh (Zz (((jE 1 (λr=>(Bh r 0).L (Z6 "Book" "axes"))) s).j .u) (Zz (((jE 1 (λr=>(Bh r 0).L (Z6 "Book" "standing"))) s).j .u) (Zz (((jE 0 (λr=>A2 r 1)) s).j .u) (Z [])))) s) s) (λs=>ZS (FJ (FK "Book" "tables_renewed" VW (Cw s 0) (Z []) s)) ∅)
def Wl:=Ee 2 2 Wk
def KU:Ao:=λr=>Zd (ZF (DS ((Zh Ml #v[(Bh r 0).L (Z6 "Book" "axes"),4,1,2]) r)) (Zd (ZG 5 ((Zh Wj #v[(Bh r 0).L (Z6 "Book" "axes"),(Za C3 (λr=>(Bh r 0).L (Z6 "Book" "tables")) (!4)) r,4,2]) r) r) (λr=>Zd (ZF (Cs (DS (Bh r 3)) (AU ((Za FE (!5) (Za Ap (!3) (~~~1))) r))) (Zd (ZG 3 ((Zg (#[A2 r 4,A2 r 5].L Zo)).j D.O) r) ∅) (.β r)) ∅)) (.β r)) ∅
def gY:Ao:=λr=>ZF (ZP (ZJ ((Zh N3 #v[(Bh r 0).L (Z6 "Book" "axes"),1]) r))) (Zd (.ό) ∅) (.β r)
def gZ:Ao:=λr=>ZF (ZP (ZJ ((Zh N6 #v[(Bh r 0).L (Z6 "Book" "axes"),2]) r))) (Zd (.ό) ∅) (.β r)
def g8:Ao:=λr=>ZG 3 (Z .Y) r
def hD:Ao:=(ZN (λr=>((ZY "Book" "kept" TU (Cp r 0) (Z [])).j Ct).L Zn) (Zb 4) KU)
def hE:Ao:=λr=>Zu (A2 r 3)
def za:Ao:=λr=>.β r
def hG:=hE >>> za
def hH:=hD >>> hG
def hJ:=g8 >>> hH
def hQ:=gZ >>> hJ
def hR:=gY >>> hQ
def Wm:Ao:=hR
def Wn:=AV 3 6 Wm
def Wo:Ao:=λr=>Zd (ZG 3 ((Za Ap (λr=>(ZY "Book" "plan" Wn (Cp r 0) #[1,2]).j Ct) (~~~0)) r) r) (λr=>Zd (ZK ((DU V0 #v[(Bh r 0).L (Z6 "Book" "axes"),(Za C3 (λr=>(Bh r 0).L (Z6 "Book" "tables")) (!3)) r,3,1,2]) r)) ∅)
def Wp:=AV 3 4 Wo
def hT:AB:=λr=>Zy ((Ez Hr #v[0]) r)
def QM:A4:=λs=>ZS (Ia (FK "Book" "keep" Of (Cw s 3) (Zz (((jE 0 (λr=>A2 r 4)) s).j .u) (Z [])) s) s) ∅
def hU:AB:=λr=>(Zg (#[Z (.Α "+"),A2 r 0,A2 r 1].L Zo)).j D.O
def hV:A4:=λs=>C5 3 (KG "Book" QK (Zz (((jE 1 (λr=>Zy ((Zi 1 [] (λr=>(Bp r 0).L Zn) (Zb 0) (λ_=>Z J') hT) r))) s).j .u) (Z [])) s) s
def hW:A4:=λs=>KD 4 QM (((jE 0 (λr=>A2 r 2)) s).L JL) s
def hX:A4:=λs=>Ia (FK "Book" "pour" Wl (Cw s 3) (Zz (((jE 1 (λr=>Zy ((Zi 2 [] (λr=>(Bp r 1).L Zn) (ZC 2 (Zf (Zb 0) (Zf (Zb 1) ZD))) (λ_=>Z J') hU) r))) s).j .u) (Z [])) s) s
def hY:A4:=λs=>FJ (xP (Cw s 3) s)
def zb:A4:=λs=>.β s
def hZ:=hY <<< zb
def h5:=hX <<< hZ
def h6:=hW <<< h5
def h7:=hV <<< h6
def Wq:A4:=h7
def Wr:=Ee 3 5 Wq
def h8:AB:=λr=>(Zg (#[A2 r 0,A2 r 1,Zy (Zg (#[A2 r 2].L Zo))].L Zo)).j D.O
def Ws:Ao:=λr=>Zd (ZK ((ZY "Book" "answer" Wp (Fl ((Bh r 0).L (Z6 "View" "book"))) #[(ZY "View" "grain" JQ (Cp r 0) (Z [])).j Ct,Zy ((Zi 3 [] (λr=>((ZY "View" "picks" NR (Cp r 0) (Z [])).j Ct).L Zn) (ZC 3 (Zf (Zb 0) (Zf (Zb 1) (Zf (Zb 2) ZD)))) (λ_=>Z J') h8) r)]).L Ey)) ∅
def QN:=AV 1 1 Ws
def h9:AB:=(Zh dP #v[0])
def ig:AB:=(Zm B5 #v[0,Z (.ty "tuple")])
def ij:Ao:=λr=>NM (ZC 2 (Zf (Zb 4) (Zf (Zb 5) ZD))) (A2 r 3) r
def ik:Ao:=λr=>ZG 6 ((ZY "View" "grain" JQ (Cp r 0) (Z [])).j Ct) r
def im:Ao:=λr=>ZF (Cs (ZP (ZJ ((Zm B5 #v[6,Z (.ty "tuple")]) r))) (Cs (AU ((Za CL (λr=>Zy ((Ez Hr #v[6]) r)) (!4)) r)) (ZP (ZJ ((Zm Do #v[Zy ((Zi 1 [] (λr=>(Bp r 6).L Zn) (Zb 0) (λ_=>Z J') h9) r)]) r))))) (Zd (Zu (Z (.bl O'))) ∅) (.β r)
def io:Ao:=λr=>Z4 7 ((ZY "View" "picks" NR (Cp r 0) (Z [])).L Ey) r
def ip:Ao:=λr=>ZF (Cs (ZP (ZJ ((Zm B5 #v[7,Z (.ty "list")]) r))) (Cs (AU ((Za CL (!7) (!5)) r)) (ZP (ZJ ((Zm Do #v[Zy ((Zi 1 [] (λr=>(Bh r 7).L M5) (Zb 0) (λ_=>Z J') ig) r)]) r))))) (Zd (Zu (Z (.bl O'))) ∅) (.β r)
def iq:Ao:=λr=>D3 7 ((Zg (#[Z (.r 0),Z (.r 0),Z (.r 0)].L Zo)).j D.O) r
def ir:Ao:=λr=>Z4 8 ((ZY "View" "cells" QN (Cp r 0) (Z [])).L Ey) r
def iu:Ao:=λr=>ZG 9 ((Zh Va #v[1,(Zh UF #v[1,2,5]) r,(Zm Ec #v[4]) r]) r) r
def iw:Ao:=λr=>ZF (Cs (ZP (ZJ ((Zh T6 #v[8]) r))) (AU ((Za CL (!8) (!9)) r))) (Zd (Zu (Z (.bl O'))) ∅) (.β r)
def ix:Ao:=λr=>NL 8 r
def iy:Ao:=λr=>Zu (C1 (Eo (AU ((Za Ce (λr=>(ZY "View" "cells" QN (Cp r 0) (Z [])).j Ct) (!9)) r)) (AU ((Za Ce (λr=>(ZY "View" "picks" NR (Cp r 0) (Z [])).j Ct) (!5)) r))))
def zc:Ao:=λr=>.β r
def iz:=iy >>> zc
def iA:=ix >>> iz
def iB:=iw >>> iA
def iC:=iu >>> iB
def iD:=ir >>> iC
def iE:=iq >>> iD
def iF:=ip >>> iE
def iG:=io >>> iF
def iH:=im >>> iG
def iI:=ik >>> iH
def iJ:=ij >>> iI
def Wt:Ao:=iJ
def Oi:=AV 4 10 Wt
def QO:AB:=(Zh T4 #v[(Za F4 (!1) (Za Ap (λr=>Zy (Zg (#[Z (.r 1),Z (.r 7),Z (.r 11)].L Zo))) (!0))) r,2])
def QP:AB:=(Zm ZA #v[(Za Ap (!0) (~~~0)) r])
def QQ:A4:=λs=>ZS (C5 9 (IU Wf (Zz ((Cw s 6).j .ϋ) (Zz (((jE 0 (λr=>A2 r 1)) s).j .u) (Zz (((jE 0 (λr=>A2 r 9)) s).j .u) (Zz (((jE 0 (λr=>A2 r 10)) s).j .u) (Z []))))) s) s) (λs=>ZS (ED (jT 2 (λr=>Cs (DS (Bh r 9)) (ZP (ZJ ((Zh Oi #v[6,1,2,9]) r)))) s) (ZS (FJ (xD ((jE 2 (λ_=>Z (.bl O'))) s) s)) ∅) (.β s)) ∅)
def iK:A4:=λs=>C5 1 (xF .l (jG 1 (DU U5 #v[0]) s) s) s
def iM:A4:=λs=>C5 2 (xF .l (jG 2 (DU UW #v[0,Z (.r 15),1]) s) s) s
def iN:A4:=λs=>C5 3 (xD ((jE 2 (Zh Z8 #v[0,Z (.r 4)])) s) s) s
def iO:A4:=λs=>C5 4 (xF .l (jG 2 (Zi 1 [3,1] (λr=>(#[(Za Zw (~~~1) (Za Z7 (!3) (~~~3))) r].L Zo).L F2) (Zb 0) (λ_=>Z J') QO) s) s) s
def iP:A4:=λs=>C5 5 (IU Wr (Zz (((jE 0 (λr=>A2 r 1)) s).j .u) (Zz (((jE 0 (λr=>A2 r 2)) s).j .u) (Zz (((jE 0 (λr=>A2 r 4)) s).j .u) (Z [])))) s) s
def iQ:A4:=λs=>C5 6 (KG "View" Qq (Zz ((Cw s 5).j .ϋ) (Z [])) s) s
def iR:A4:=λs=>C5 7 (KG "View" Qq (Zz ((Cw s 5).j .ϋ) (Z [])) s) s
def Wu:A4:=λs=>C5 8 (xD ((jE 0 (λr=>(Zg (#[Zy ((Zi 1 [] (λr=>(Bp r 1).L Zn) (Zb 0) (λ_=>Z J') QP) r),Zy (Zg ((Z []).L Zo))].L Zo)).j D.O)) s) s) s
def iS:A4:=λs=>C5 9 (xD ((jE 0 (λr=>A2 r 8)) s) s) s
def iT:A4:=λs=>ED (jT 2 (λr=>ZP (ZJ ((Zh Oi #v[6,1,2,9]) r))) s) (ZS (FJ (xD ((jE 2 (λ_=>Z (.bl O'))) s) s)) ∅) (.β s)
def iU:A4:=λs=>KD 10 QQ (((jE 0 (Za Zw (λr=>Zy (Zg (#[(Zh Z8 #v[0,Z (.r 6)]) r].L Zo))) (Dw (!0) (λr=>Dn (Z (.r 7))) (λr=>Dn (Z (.r 14))) DH))) s).L JL) s
def iV:A4:=λs=>FJ (xD ((jE 2 (Zh Oi #v[7,1,2,8])) s) s)
def zd:A4:=λs=>.β s
def iW:=iV <<< zd
def iX:=iU <<< iW
def iY:=iT <<< iX
def iZ:=iS <<< iY
def Wv:=Wu <<< iZ
def Ww:=iR <<< Wv
def Wx:=iQ <<< Ww
def Wz:=iP <<< Wx
def WA:=iO <<< Wz
def WB:=iN <<< WA
def WC:=iM <<< WB
def WD:=iK <<< WC
def QR:A4:=WD
def i0:=Ee 1 11 QR
def
ze(m:Y)(G:Gh)(d:D):D5 m G (.u d)=.u d:=rfl
def
zf(m:Y)(G:Gh):D5 m G .no=.no:=rfl
def
Mm(i:W'):BM 2 (.r i)=J':=rfl
def
QS(x:D):Zg (Z [x])=Z [x]:=rfl
def
Oj(x y:D):Zg (Z [x,y])=Z [x,y]:=rfl
def
QT(x y z:D):Zg (Z [x,y,z])=Z [x,y,z]:=rfl
def
Ol(i:W'):HP (Z (.r i))=Z (.r (-i)):=rfl
def
G7(x y:W'):Zw (.r x) (.r y)=Z (.r (x+y)):=rfl
def
WE(x y:W'):HN (.r x) (.r y)=Z (.r (x-y)):=rfl
def
zh:Ce (.r 0) (.r 0)=Z (.bl J'):=rfl
def
zi:Ce (.r 0) (.r 1)=Z (.bl O'):=rfl
def
zj:Ce (.r 1) (.r 0)=Z (.bl O'):=rfl
def
zk:Ce (.r 1) (.r 1)=Z (.bl J'):=rfl
end
section
local macro_rules | `(#v[$x])=>`(.val (.lst $x))
local macro_rules | `(‹$x›)=>`(.val (.int $x))
local macro_rules | `(tactic|rwa[$[$t:term],*] $[$l]?)=>do let c:Array Lean.Term:=("Internal.xI Internal.xJ Internal.xK Internal.xL Internal.xM Internal.xN Internal.xO Internal.xQ Internal.xR Internal.xS Internal.xT Internal.xU Internal.xV Internal.xW Internal.xX Internal.xY Internal.xZ Internal.x3 Internal.ya Internal.yb Internal.yc Internal.ye Internal.yf Internal.yg Internal.yh Internal.yi Internal.yj Internal.yk Internal.ym Internal.yn Internal.yo Internal.yp Internal.yq Internal.yr Internal.yt Internal.yu Internal.yv Internal.yw Internal.yx Internal.yz Internal.yA Internal.yB Internal.yC Internal.yD Internal.yE Internal.yF Internal.yG Internal.yH Internal.yI Internal.yJ Internal.yK Internal.yL Internal.yM Internal.yN Internal.yO if_true Internal.Za Internal.Zh Internal.Ic Internal.jE Cb Internal.jT Internal.Gm Internal.pk Internal.jO Internal.Zm Internal.Zy IB KV F7 Internal.Zn Bool.not_false decide_true Internal.Zb Internal.Zo Internal.K70.ze Internal.K70.zf Internal.IW Internal.K70.Mm Internal.K70.QS Internal.K70.Oj Internal.K70.QT Internal.K70.Ol Internal.K70.G7 Internal.K70.WE Internal.K70.zh Internal.K70.zi Internal.K70.zj Internal.K70.zk".splitOn " ").toArray.map λs=>⟨Lean.mkIdent s.toName⟩;`(tactic|simp only[$[$c:term],*,$[$t:term],*] $[$l]?)
abbrev AM:=U (U (U At))
abbrev BB:=U (U At)
def
Om(s:Sl)(ns:U W')(a:s=#v[ns.j D.r]\/s=.jk (ns.j D.r))(k:W')(b:0<=k):Z8 [s,‹k›]=Z ‹ns.B k.Β 0›:=by
 by_cases h:k<ns.a
 .rcases a with rfl|rfl<;>simp[Z8,AV,TV,h,atI,FD,b]
 .rcases a with rfl|rfl<;>simp[Z8,AV,TV,h,show ns.length<=k.toNat by lia]
def Bb:Ae:="abcdefghijklmnopqrstuvwxyz"
def Ga:Ae:="0123456789"
def signs:Ae:="abcdefghijklmnopqrstuvwxyz0123456789"
def
i3:signs.a=36:=by symm
def Fs:D->jp
 |.int _=>J'
 |_=>O'
def Gx(c:Y):jp:=decide (c∈Bb.ϐ.R)||decide (c∈Ga.ϐ.R)
def KW:U Y->jp
 |[]=>O'
 |c::r=>decide (c∈Bb.ϐ.R)&&(c::r).ϔ Gx&&decide ((c::r).a<=12)
def BP:D->jp
 |.str z=>KW z.ϐ.R
 |_=>O'
def Sm:D->V'
 |.str z=>z.a<=100
 |.ty _=>False
 |.lst _ .d=>False
 |.lst _ (.i _ _)=>False
 |_=>True
def
QU(d:D)(h:Sm d):G6 [.u d]=Z (.u (.bl (Fs d))):=by
 cases d with
 |lst a b=>cases b with
  |d=>show h.Ζ
  |i _ _=>show h.Ζ
  |l=>simp[G6,AV,PZ,Fs]
 |ty n=>show h.Ζ
 |_=>simp[G6,AV,PZ,Fs]
def
zl(c:Y):P0 [.u (.Α #[(T' [c])])]=Z (.bl (Gx c)):=by
 rwa[P0,Tw,C1,Cs]
 grind [Gx,Bb,Ga]
def
zm(L:U Y):ZL (Zb 0) (λ_=>Z J') P0 [.no] (L.j λc=>D.Α #[(T' [c])])=Z ((L.j Gx).j D.bl):=by
 rw[Zv (λc=>D.Α #[(T' [c])]) (λc=>D.bl (Gx c)) L λc _=>#[[.u (.Α #[(T' [c])])],rfl,zl c]]
 simp
def
zn(d:D)(h:Sm d):IX [.u d]=Z (.u (.bl (BP d))):=by
 cases d with
 |str z=>
  obtain⟨⟨L⟩⟩:=z
  let a:L.a<=Az:=BX h (by ext)
  let k:=zm L
  cases L with
  |nil=>simp[IX,AV,KP,BP,KW,Str.length]
  |cons c r=>
   erw[Cb]at h a
   let f:¬ ((r.a:W')+1<1):=of_decide_eq_false rfl
   by_cases e:r.a+1<=12
   .let g:¬ ((12:W')<(r.a:W')+1):=∅
    by_cases j:c∈(EL "abcdefghijklmnopqrstuvwxyz").ϐ
    .simp[IX,AV,KP,BP,KW,Str.length,a,f,g,-Dx,Tw,atI,FD,k,-AT,-B4,j,Nat.le_of_lt_succ e,Bb]
    .simp[IX,AV,KP,BP,KW,Str.length,a,f,g,-Dx,Tw,atI,FD,j,Nat.le_of_lt_succ e,Bb]
   .simp[IX,AV,KP,BP,KW,Str.length,a,f,show(12:W')<(r.length:W')+1 by lia,show ¬ r.length<=11 by lia]
 |ty n=>show h.Ζ
 |lst m b=>cases b with
  |d=>show h.Ζ
  |i _ _=>show h.Ζ
  |l=>simp[IX,AV,KP,BP]
 |_=>simp[IX,AV,KP,BP]
def
WF(d:D)(h:Sm d):Me [.u d]=Z (.u (.bl (Fs d||BP d))):=by
 let h1:=QU d h
 cases a:Fs d<;>simp[a]at h1 ⊢<;>simp[Me,AV,dQ,h1,zn d h]
def JV(d:D):jp:=Fs d||BP d
def Ah(l:U At):D:=.O (l.j aD)
def
Hw(a:At):Df (aD a)=Z (.at a):=Nm (.at a)
def
Mn:∀(a b:At),Ba (aD a) (aD b)=decide (a=b):=by
 intro a b
 ext a<;>ext b<;>simp[aD]
def
WG:∀(a b:U At),C0 (a.j aD) (b.j aD)=decide (a=b)
 |[],[]=>by simp
 |[],_::_=>by simp
 |_::_,[]=>by simp
 |x::a,y::b=>by
  simp[Mn,WG a b]
def
Ig(n:Y)(a:At):AY n (aD a)=J':=by ext a<;>ext n<;>rfl
def
QV(n:Y)(l:U At):AY (n+1) (Ah l)=J':=by
 show(l.j aD).ϔ (AY n)=J'
 rw[GX,Dc]
 show λa _=>Ig n a
def
i4(a b:U At):CL (Ah a) (Ah b)=Z (.bl (!decide (a=b))):=by
 let h1:=QV 11 a
 let h2:=QV 11 b
 simp_all [Ah,WG]
def hd(l:U At):At:=l.headD .Y
def
Js(x:Ae):x.a=x.ϐ.R.a:=rfl
def
WH{a:Type}{f:Y->a}{m:Y}(h:((Bf m).j f).ι){j k:Y}(b:j<m)(c:k<m)(e:f j=f k):j=k:=by grind [List.nodup_iff_pairwise_ne,List.pairwise_map,Nat.lt_trichotomy,S5]
def GW(W:U Y):V':=(∃c r,W=c::r/\c∈Bb.ϐ.R)/\W.ϔ Gx=J'
def
GW.word{W:U Y}(h:GW W)(a:W.a<=12):KW W=J':=by
 let((c,r,rfl,b),d):=h
 grind [KW]
def
i5{z:Ae}(h:GW z.ϐ.R)(a:z.ϐ.R.a<=12):JV (aD (.Α z))=J'/\Sm (aD (.Α z)):=by
 apply#[?_,?_]
 .show(Fs (.Α z)||BP (.Α z))=J'
  grind [Fs,BP,GW.word]
 .change z.a<=100
  rw[Js];lia
def
Zp{a n:Y}{g:Ao}{b:U Sl}{r:Rv}(h:b.a=a)(e:g (b++En (n-a) .no)=.Ϻ r):AV a n g b=Z r:=by
 unfold AV
 simp_all
def
Hx(x k:W')(a:0<k)(b:k<1000000000):F4 (.r x) (.r k)=Z (.r (x/k)):=by
 show(if MG x k then Z (D.r (x/k))else J)=_
 rw[if_pos #[a,∅]]
def
CD(x k:W')(a:0<k):Z7 (.r x) (.r k)=Z (.r (x%k)):=by
 simp_all
def
Ih{x y:W'}(h:Ek x y):GV (.r x) (.r y)=Z (.r (x*y)):=by show(if Ek x y then Z (D.r (x*y))else J)=_;rw[if_pos h]
def
WI(a b:W'):Ce (.r a) (.r b)=Z (.bl (decide (a=b))):=rfl
def
zo{xs:U W'}{i:W'}(a:0<=i)(h1:i<xs.a):atI (xs.j D.r) i=Z (.r (xs.B i.Β 0)):=by
 rw[show i=((i.Β:Y):W') by show Int.eq_natCast_toNat.ϡ a]
 let h:i.Β<xs.a:=(Int.toNat_lt a).ϡ h1
 show Ev (by rw[DF,Nw,Cc h];simp[Cm,h])
def
FM(x:W')(n:Y)(h:0<n):∃a:Y,x%(n:W')=(a:W')/\a<n:=by
 let h1:=Int.emod_nonneg x (show(n:W')≠0 by lia)
 let h2:=Int.emod_lt_of_pos x (show(0:W')<(n:W') by lia)
 show#[(x%(n:W')).Β,∅,∅]
def
zp(s0 a:Sl)(k:Y)(x:W')(acc:U W')(hz:acc.a<Az):∃y z:W',0<=z/\P4 [s0,a,‹x›,.χ (acc.j D.r),‹k›]=.β [s0,a,‹y›,.χ ((acc++[z]).j D.r),‹k›]:=by
 let b:=Ih (x:=x) (y:=48271) (by right;decide)
 let c:=Ih (x:=2) (y:=(k:W')) (by left;decide)
 apply#[(x*48271+2*(k:W')+11)%2147483647,(x*48271+2*(k:W')+11)%2147483647/64,∅,?_]
 rwa[P4,b,c,CD (x*48271+2*(k:W')+11) 2147483647 (by ext),Hx ((x*48271+2*(k:W')+11)%2147483647) 64 (by ext) (by ext),D3,Db,Bu,if_pos hz,De]
def
i6(s0 b:Sl):∀(n k:Y)(x:W')(acc:U W')(c:Sl),acc.a+n<100000->∃d a zs,zs.a=n/\(∀z∈zs,0<=z)/\ZE (Zb 4) P4 ((Gy k n).j λ(k:Y)=>D.r k) [s0,b,‹x›,.χ (acc.j D.r),c]=.β [s0,b,‹d›,.χ ((acc++zs).j D.r),a]
 |0,k,x,acc,c,_=>#[x,c,[],rfl,(λ_ h=>nomatch h),by simp[ZE]]
 |n+1,k,x,acc,c,h=>by
  let(y,z,g,i):=zp s0 b k x acc (BQ (show acc.a<100000 by lia) (by ext))
  let(d,a,zs,h1,h2,e):=i6 s0 b n (k+1) y (acc++[z]) ‹k› (by simp;lia)
  apply#[d,a,z::zs,by simp[h1],λw f=>by rcases Bl.mp f with rfl|f;show g;show h2 w f,?_]
  rw[QW,AT]
  rw[Dy]at e
  erw[ZE,Zb,Ef,Eg,i]
  show e
def
QX(c p:W'):∃ws:U W',Md [‹c›,‹p›]=Z #v[ws.j D.r]/\ws.a=24/\∀y∈ws,0<=y:=by
 let b:F2 [.r 25]=Z ((Gy 0 25).j λ(k:Y)=>D.r k):=by
  have:=JN 25 (by ext)
  rw[On]at this
  show this
 let m1:=Ih (x:=7919) (y:=p) (by left;decide)
 let(h,d,a,h1,h2,e):=i6 ‹c› ‹p› 25 0 ((c+7919*p)%2147483629) [] .no (by ext)
 rw[EZ,Dv]at e
 let f:cutD (a.j D.r) (Z 1) J=(a.Ν 1).j D.r:=by rw[Tu,Tv _ _ (by ext)];rfl
 generalize (Gy 0 25).j (λ(k:Y)=>D.r k)=R at *
 apply#[a.Ν 1,?_,by simp[h1],λy g=>h2 y (List.mem_of_mem_drop g)]
 apply Zp rfl ?_
 change TW [‹c›,‹p›,.no,.no,.no]=_
 rwa[TW,dy,dG,dz,dF,dA,dE,dB,dC,m1,CD (c+7919*p) 2147483629 (by ext),Zg,if_pos (Fz _),Z4,ZN,b,e,Dw,Dn,DH,f]
def
Hy(x y:Ae):(x++y).ϐ.R=x.ϐ.R++y.ϐ.R:=by
 show(x.ϐ++y.ϐ).R=_
 simp
def
JX(c:Y):(#[(T' [c])]:Ae).ϐ.R=[c]:=rfl
def
Oo{x:Ae}(h:x.ϐ.R.a+y.ϐ.R.a<=1000):Zw (.Α x) (.Α y)=Z (.Α (x++y)):=by
 show(if x.a+y.a<=Az then Z (D.Α (x++y))else J)=_
 rw[if_pos (by rw[Js,Js];show BX h (by ext))]
abbrev cS(c:Y):D:=.Α #[(T' [c])]
def sg(i:Y):Y:=signs.ϐ.R.B i 0
def
i7:((Bf 36).j sg).ι:=by symm
def
WJ:∀i∈Bf 26,sg i∈Bb.ϐ.R:=by symm
def
i8:∀i∈Bf 36,Gx (sg i)=J':=by symm
def
i9(i:Y)(h:i<36):Ap (.Α "abcdefghijklmnopqrstuvwxyz0123456789") (.r i)=Z (cS (sg i)):=by
 let a:signs.ϐ.R.a=36:=by rw[<- Js];show i3
 show(if signs.a<=Az then(atI signs.ϐ.R (i:W')).j λc=>D.Α #[(T' [c])]else J)=_
 rw[if_pos (show signs.a<=Az by rw[i3];decide),Ev (Cc ∅)]
 simp[sg,Cm,a,h]
def
zq:Bb.ϐ.R.a=26:=by symm
def
zr:∀i∈Bf 26,Bb.ϐ.R[i]?=Z (sg i):=by symm
def
ja(i:Y)(h:i<26):Ap (.Α "abcdefghijklmnopqrstuvwxyz") (.r i)=Z (cS (sg i)):=by
 show(if Bb.a<=Az then(atI Bb.ϐ.R (i:W')).j λc=>D.Α #[(T' [c])]else J)=_
 rw[if_pos (show Bb.a<=Az by rw[Js,zq];decide),Ev (zr i (C9.ϡ h))];rfl
def
GW.app{W V:U Y}(h:GW W)(a:V.ϔ Gx=J'):GW (W++V):=by
 let((c,r,rfl,b),d):=h
 show#[#[c,r++V,rfl,b],by rw[List.all_append,d,a];rfl]
abbrev SG:Sl:=.u (.Α "abcdefghijklmnopqrstuvwxyz0123456789")
def
jc(c:W')(b:Sl):∀(n k:Y)(z:Ae)(j:Sl),k+n<=100->z.ϐ.R.a+n<=200->GW z.ϐ.R->∃d a,ZE (Zb 4) P5 ((Gy k n).j λ(k:Y)=>D.r k) [‹c›,b,SG,.u (.Α z),j]=.β [‹c›,b,SG,.u (.Α d),a]/\d.ϐ.R.a=z.ϐ.R.a+n/\GW d.ϐ.R
 |0,k,z,j,_,_,g=>#[z,j,rfl,rfl,g]
 |n+1,k,z,j,t,h,g=>by
  let(i,l,f):=FM (c/((k:W')+3)) 36 (by ext)
  let m:=CD (c/((k:W')+3)) 36 (by ext)
  replace l:c/((k:W')+3)%36=(i:W'):=l
  rw[l]at m
  let p:=i9 i f
  let q:=Oo (x:=z) (y:=#[(T' [sg i])]) (by rw[JX,Le];lia)
  let o:(z++#[(T' [sg i])]).ϐ.R.a=z.ϐ.R.a+1:=by rw[Hy,JX];simp
  let(d,a,e,r,s):=jc c b n (k+1) (z++#[(T' [sg i])]) ‹k› ∅ (by rw[o];lia) (by rw[Hy,JX];show g.app (by exists i8 i (C9.ϡ f)))
  apply#[d,a,?_,by rw[r,o];lia,s]
  rw[QW,AT]
  let hb:P5 [‹c›,b,SG,.u (.Α z),‹k›]=.β [‹c›,b,SG,.u (.Α (z++⟨(T' [sg i])⟩)),‹k›]:=by
   rwa[P5,Hx c ((k:W')+3) ∅ ∅,m,p,q]
  erw[ZE,Zb,Ef,Eg,hb]
  show e
def
jd(c:W')(m:Y)(o:m<=100):∃z,T0 [‹c›,‹m›]=Z (.u (.Α z))/\z.ϐ.R.a=m+1/\GW z.ϐ.R:=by
 let(i,b,d):=FM c 26 (by ext)
 replace b:c%26=(i:W'):=b
 let a:=CD c 26 (by ext)
 rw[b]at a
 let g:=i9 i ∅
 let f:=JN m ∅
 rw[On]at f
 let(h,j,e,l,n):=jc c ‹m› m 0 #[(T' [sg i])] .no ∅ (by rw[JX];simp;lia) (by rw[JX];show#[#[_,[],rfl,WJ i (C9.ϡ d)],by exists i8 i (C9.ϡ ∅)])
 apply#[h,?_,by rw[l,JX,Le];lia,n]
 apply Zp rfl ?_
 change P6 [‹c›,‹m›,.no,.no,.no]=_
 generalize (Gy 0 m).j (λ(k:Y)=>D.r k)=R at *
 rwa[P6,dH,TZ,dI,TY,dJ,TX,dK,dL,a,g,ZN,f,e]
structure QY(f:Y->At):V' where
 inj:∀j k,j<47->k<47->f j=f k->j=k
 val:∀k,k<47->JV (aD (f k))=J'/\Sm (aD (f k))
def zt(n k:Y):U Y:=(Ie (EL (BN (k:W'))) (n:W')).ϐ.R
def
zu:∀n∈[1,2,3,4],∀k∈Bf 47,(zt n k).ϔ Gx=J'/\(zt n k).a<=4:=by symm
def
zv:∀n∈[1,2,3,4],((Bf 47).j (zt n)).ι:=by symm
def
zw(c:W'):∃f,QY f/\∀k:Y,k<47->Mg [‹2›,‹c›,‹k›]=Z (.u (aD (f k))):=by
 let(m,g,v):=FM c 8 (by ext)
 let(q,h,i):=FM (c/8) 4 (by ext)
 let(w,A,b,B):=jd (c/4) m ∅
 let p:=CD c 8 (by ext)
 let r:=CD (c/8) 4 (by ext)
 replace g:c%8=(m:W'):=g
 replace h:c/8%4=(q:W'):=h
 rw[g]at p
 rw[h]at r
 let d:1+q∈[1,2,3,4]:=(by decide:∀q<4,1+q∈[1,2,3,4]) q i
 let z:=λ(k:Y) a=>zu (1+q) d k (C9.ϡ a)
 let C:∀k:Y,k<47->JV (aD (.Α (w++Ie (EL (BN (k:W'))) ((1+q:Y):W'))))=J'/\Sm (aD (.Α (w++Ie (EL (BN (k:W'))) ((1+q:Y):W')))):=λk a=>i5 (by rw[Hy];show B.app (z k a).1) (by rw[Hy,D2,b];have:=(z k a).2;unfold zt at this;lia)
 apply#[λk=>.Α (w++Ie (EL (BN (k:W'))) ((1+q:Y):W')),#[λj k E a e=>?_,C],λk a=>?_]
 .have:=congrArg (λs:Ae=>s.ϐ.R) (At.Α.inj e)
  erw[Hy]at this
  show WH (zv (1+q) d) E a (List.append_cancel_left this)
 .let l:Ma [.r k]=Z (.Α (EL (BN (k:W')))):=by
   erw[Ma];rw[if_pos (GY (Nat.log2_le_self _) ∅)]
  let t:=Oo (x:=w) (y:=Ie (EL (BN (k:W'))) ((1+q:Y):W')) (by rw[b];have:=(z k a).2;unfold zt at this;lia)
  let u:=wZ (EL (BN (k:W'))) ((1+q:Y):W') ∅ ∅
  rw[Int.natCast_add]at t u
  dsimp only
  rw[Int.natCast_add]
  generalize EL (BN (k:W'))=T,(q:W')=Q at *
  let n:L9 T [.r (1+Q)]=Z (.Α (Ie T (1+Q))):=u
  let o:Zw (.Α w) (.Α (Ie T (1+Q)))=Z (.Α (w++Ie T (1+Q))):=t
  let G:Uf [‹2›,‹c›,‹k›,.no,.no,.no,.no,.no]=.β [‹2›,‹c›,‹k›,‹c/4%10^30›,.no,.no,.no,.no]:=rfl
  apply Zp rfl ?_
  change N1 [‹2›,‹c›,‹k›,.no,.no,.no,.no,.no]=_
  rwa[N1,G,Uo,Ug,show Ce (.int 2) (.int 0)=Z (.bl O')from rfl,Um,Uh,show Ce (.int 2) (.int 1)=Z (.bl O')from rfl,Ul,Ui,Hx c 4 (by ext) (by ext),p,A,Uk,Uj,show Ce (.int 2) (.int 2)=Z (.bl J')from rfl,l,Hx c 8 (by ext) (by ext),r,Pr,n,o]
  rfl
def
zx(x:Ae)(j:Y)(h:j<=x.ϐ.R.a):(Gk x J (Z (j:W'))).ϐ.R=x.ϐ.R.ύ j:=by
 rw[show Gk x J (Z (j:W'))=StrLaws.sliceText x J (Z (j:W'))from rfl,StrLaws.sliceText_to #[∅,∅]]
 simp
def
zy(x:Ae)(j:Y)(h:j<=x.ϐ.R.a):(Gk x (Z (j:W')) J).ϐ.R=x.ϐ.R.Ν j:=by
 rw[show Gk x (Z (j:W')) J=StrLaws.sliceText x (Z (j:W')) J from rfl,StrLaws.sliceText_from #[∅,∅]]
 erw[List.toList_toArray]
 rw[LB]
 .simp
 .erw[NH];lia
def
zz(c:W'):∃f,QY f/\∀k:Y,k<47->Mg [‹3›,‹c›,‹k›]=Z (.u (aD (f k))):=by
 let(m,z,M):=FM c 8 (by ext)
 replace z:c%8=(m:W'):=z
 let(w,N,i,K):=jd (c/4) m ∅
 let(a,Q,T):=FM (c/8) (m+2) ∅
 obtain⟨g,C⟩:∃g:Y,∀k:Y,((k:W')+c/8)%26=(((k+g)%26:Y):W'):=#[(c/8%26).Β,λk=>∅]
 let E:=CD c 8 (by ext)
 rw[z]at E
 let n:=CD (c/8) ((m:W')+1+1) ∅
 rw[show c/8%((m:W')+1+1)=(a:W') by rw[<- Q];congr 1]at n
 let o:a<=w.ϐ.R.a:=∅
 generalize G:Gk w J (Z (a:W'))=A,H:Gk w (Z (a:W')) J=B at *
 let R:A.ϐ.R=w.ϐ.R.ύ a:=by rw[<- G];show zx w a o
 let tB:B.ϐ.R=w.ϐ.R.Ν a:=by rw[<- H];show zy w a o
 let lA:A.ϐ.R.a=a:=by rw[R,List.length_take];lia
 let lB:B.ϐ.R.a=m+1-a:=by rw[tB,NH,i]
 let tC:∀x y:Y,(A++(#[(T' [x])]++#[(T' [y])])++B).ϐ.R=w.ϐ.R.ύ a++[x,y]++w.ϐ.R.Ν a:=λx y=>by rw[Hy,Hy,Hy,JX,JX,R,tB];rfl
 let t:∀{j},j<47->j/26<26:=λh=>∅
 let v:∀j,(j+g)%26<26:=λj=>Nat.mod_lt _ (by ext)
 let P:∀x y:Y,x∈Bb.ϐ.R->y∈Bb.ϐ.R->GW (w.ϐ.R.ύ a++[x,y]++w.ϐ.R.Ν a):=λx y F Y'=>by
  let ok:∀x,x∈Bb.ϐ.R->Gx x=J':=λx h=>by unfold Gx;rw[decide_eq_true h];rfl
  let((d,r,e,hd),p):=K
  let b:(w.ϐ.R.ύ a).ϔ Gx=J'/\(w.ϐ.R.Ν a).ϔ Gx=J':=by
   rw[<- C2,<- List.all_append,List.take_append_drop];show p
  apply#[?_,by rw[List.all_append,List.all_append,b.1,b.2];simp[ok x F,ok y Y']]
  rw[e]
  cases a with
  |zero=>show#[x,_,rfl,F]
  |succ a=>show#[d,_,rfl,hd]
 apply#[λk=>.Α (A++(#[(T' [sg (k/26)])]++#[(T' [sg ((k+g)%26)])])++B),#[λj k hj q e=>?_,λk q=>i5 ?_ ?_],λk q=>?_]
 .let h2:=congrArg (λs:Ae=>s.ϐ.R) (At.Α.inj e)
  erw[tC]at h2
  rw[Dy,Dy]at h2
  let h2:=List.append_cancel_left h2
  erw[Kj,EZ,Pt]at h2
  let e1:=WH i7 (BQ (t hj) (by ext)) (BQ (t q) (by ext)) h2.1
  let e2:=WH i7 (BQ (v j) (by ext)) (BQ (v k) (by ext)) h2.2.1
  lia
 .rw[tC];show P _ _ (WJ _ (C9.ϡ (t q))) (WJ _ (C9.ϡ (v k)))
 .rw[tC,D2,D2,List.length_take,NH,i];simp;lia
 .let x1:=ja (k/26) (t q)
  let x2:=ja ((k+g)%26) (v k)
  let l1:∀c:Y,(#[(T' [c])]:Ae).ϐ.R.a=1:=λ_=>rfl
  let a1:=Oo (x:=#[(T' [sg (k/26)])]) (y:=#[(T' [sg ((k+g)%26)])]) (by rw[l1,l1];decide)
  let a2:=Oo (x:=A) (y:=#[(T' [sg (k/26)])]++#[(T' [sg ((k+g)%26)])]) (by rw[Hy,D2,l1,l1];lia)
  let a3:=Oo (x:=A++(#[(T' [sg (k/26)])]++#[(T' [sg ((k+g)%26)])])) (y:=B) (by rw[Hy,Hy,D2,D2,l1,l1];lia)
  let hd:(k:W')/26=((k/26:Y):W'):=∅
  let L:=Hx (k:W') 26 (by ext) (by ext)
  let m1:=CD ((k:W')+c/8) 26 (by ext)
  rw[hd]at L
  rw[C]at m1
  let sz:w.a<=Az:=by rw[Js,i];show BX (show m+1<=100 by lia) (by ext)
  let hl:ZA [.Α w]=Z (.r ((m:W')+1)):=by
   show(if w.a<=Az then Z (D.r w.a)else J)=_
   rw[if_pos sz,Js,i];rfl
  let s1:∀l u,DH (.Α w) l u=Z (.Α (Gk w l u)):=λl u=>by
   show(if w.a<=Az then Z (D.Α (Gk w l u))else J)=_
   rw[if_pos sz]
  dsimp only
  generalize sg (k/26)=g1,sg ((k+g)%26)=g2,(((k/26:Y):Y):W')=i1,(((k+g)%26:Y):W')=i2 at *
  let p0:Uf [‹3›,‹c›,‹k›,.no,.no,.no,.no,.no]=.β [‹3›,‹c›,‹k›,‹c/4%10^30›,.no,.no,.no,.no]:=rfl
  apply Zp rfl ?_
  change N1 [‹3›,‹c›,‹k›,.no,.no,.no,.no,.no]=_
  rwa[N1,p0,Uo,Ug,show Ce (.int 3) (.int 0)=Z (.bl O')from rfl,Um,Uh,show Ce (.int 3) (.int 1)=Z (.bl O')from rfl,Ul,Ui,Hx c 4 (by ext) (by ext),E,N,Uk,Uj,show Ce (.int 3) (.int 2)=Z (.bl O')from rfl,d4,dT,dZ,dU,Hx c 8 (by ext) (by ext),hl,n,dY,dV,L,m1,x1,x2,a1,dX,dW,Dw,Dn,s1,G,H,a2,a3]
  rfl
def
je(y c:W'):∃f,QY f/\∀k:Y,k<47->Mg [‹y%4›,‹c›,‹k›]=Z (.u (aD (f k))):=by
 let h:y%4=0\/y%4=1\/y%4=2\/y%4=3:=∅
 rcases h with h|h|h|h<;>rw[h]
 .show#[λk=>.r (c/4%10^30+k),#[λj k _ _ e=>by injection e with e;lia,λ_ _=>#[rfl,trivial]],λ_ _=>rfl]
 .show#[λk=>.r (0-c/4%10^30-k),#[λj k _ _ e=>by injection e with e;lia,λ_ _=>#[rfl,trivial]],λ_ _=>rfl]
 .show zw c
 .show zz c
def
jf{a:U W'}{P:W'->V'}(h:∀z∈a,P z)(i:Y)(b:i<a.a):P (a.B i 0):=by
 simp_all
abbrev XS(ws:U W'):Sl:=#v[ws.j D.r]
def Gz(a:Y->Y->Y)(j x:Y):Y:=if j=0 then x else a j x
def D7(f:Y->Y->At)(a:Y->Y->Y):Y->Y->Y->U At
 |_,_,0=>[]
 |j,x,n+1=>f j (Gz a j x)::D7 f a (j+1) (Gz a j x) n
def
E6{ws:U W'}{m:Y}(a:ws.a=m)(i:Y)(b:i<m):Ap (.U (ws.j D.r)) (.r i)=Z (.r (ws.B i 0)):=by
 have:=zo (xs:=ws) (i:=(i:W')) (Int.natCast_nonneg i) ∅
 show this
def CN(ws a:U W')(j x:Y):Y:=(((x:W')*(1+ws.B (4+j) 0%5)+ws.B (8+j) 0)%a.B j 0).Β
def WK(c:W')(ws:U W')(f:Y->Y->At):V':=∀j,QY (f j)/\∀k:Y,k<47->Mg [‹ws.B (12+j) 0%4›,‹c+(j:W')*(ws.B 16 0%2)*1000003›,‹k›]=Z (.u (aD (f j k)))
def
zB(c:W')(ws:U W'):∃f,WK c ws f:=#[λj=>Classical.choose (je (ws.B (12+j) 0) (c+(j:W')*(ws.B 16 0%2)*1000003)),λj=>Classical.choose_spec (je (ws.B (12+j) 0) (c+(j:W')*(ws.B 16 0%2)*1000003))]
structure Zs(Wd:List W'):V' where
 l:Wd.a=4
 z:∀z∈Wd,1<=z/\z<=47
def
jg{ws a:U W'}(h:Zs a){j x:Y}(b:j<4):((x:W')*(1+ws.B (4+j) 0%5)+ws.B (8+j) 0)%a.B j 0=(CN ws a j x:W')/\CN ws a j x<47:=by
 let c:=jf h.z j (by rw[h.l];show b)
 unfold CN
 generalize (x:W')*(1+ws.B (4+j) 0%5)+ws.B (8+j) 0=y
 let d:=Int.emod_nonneg y (show a.B j 0≠0 by lia)
 let e:=Int.emod_lt_of_pos y (show 0<a.B j 0 by lia)
 lia
def
QZ{ws a:U W'}(h:Zs a){j x:Y}(b:j<4)(c:x<47):Gz (CN ws a) j x<47:=by
 unfold Gz
 split
 .show c
 .show(jg h b).2
variable {c:W'}{ws:U W'}(hw:ws.a=24){f:Y->Y->At}(hf:WK c ws f){Wd:U W'}(h:Zs Wd)
include hw hf h
def
zC(p q r s n:Sl)(j x:Y)(i:j<4)(v:x<47)(acc:U At)(w:acc.a<100):
  ∃a,N4 [‹c›,p,q,XS ws,.χ (Wd.j D.r),‹j›,r,s,‹x›,.χ (acc.j aD),n]=.β [‹c›,p,q,XS ws,.χ (Wd.j D.r),‹j›,r,s,‹(Gz (CN ws Wd) j x:W')›,.χ ((acc++[f j (Gz (CN ws Wd) j x)]).j aD),a]:=by
 let b:Ap (.U (ws.j D.r)) (.r 16)=Z (.r (ws.B 16 0)):=E6 hw 16 (by ext)
 let d:Ap (.U (ws.j D.r)) (.r (12+(j:W')))=Z (.r (ws.B (12+j) 0)):=E6 hw (12+j) ∅
 let A:Ap (.U (ws.j D.r)) (.r (4+(j:W')))=Z (.r (ws.B (4+j) 0)):=E6 hw (4+j) ∅
 let B:Ap (.U (ws.j D.r)) (.r (8+(j:W')))=Z (.r (ws.B (8+j) 0)):=E6 hw (8+j) ∅
 let C:=E6 h.l j i
 let N:=jf h.z j (by rw[h.l];show i)
 let m1:=Ih (x:=(j:W')) (y:=ws.B 16 0%2) (.τ #[∅,∅])
 let m2:=Ih (x:=(j:W')*(ws.B 16 0%2)) (y:=1000003) (.τ (by ext))
 let E:=Ih (x:=(x:W')) (y:=1+ws.B (4+j) 0%5) (.τ #[∅,∅])
 let n1:=CD ((x:W')*(1+ws.B (4+j) 0%5)+ws.B (8+j) 0) (Wd.B j 0) ∅
 rw[(jg h i).1]at n1
 let k:=(hf j).2 _ (QZ (ws:=ws) h i v)
 let t:(acc.j aD).a<Az:=by rw[Bu];show BQ w (by ext)
 let m:Fm (.r j) (.r 0)=Z (.bl (decide (0<(j:W')))):=rfl
 let e:=CD (ws.B 16 0) 2 (by ext)
 let g:=CD (ws.B (12+j) 0) 4 (by ext)
 let n4:=CD (ws.B (4+j) 0) 5 (by ext)
 generalize ws.B (12+j) 0%4=G,ws.B (4+j) 0%5=H,ws.B 16 0%2=o at *
 generalize (x:W')*(1+H)=K,(j:W')*o=P at *
 generalize P*1000003=F at *
 apply#[‹c+F›,?_]
 by_cases u:j=0
 .rw[show Gz (CN ws Wd) j x=x from if_pos u]at k ⊢
  rw[decide_eq_false ∅]at m
  generalize (j:W')=L,(x:W')=M at *
  erw[Za,Bh,Ht,Hz,DG,G7,Zd,Ef,Eg,Zo,IB,D0,Zz,Fl,A2,Zm,Cp,Zy,Gm,pk,AT,Dv,Cb,if_true,Zh,ZF,AU,Ct,N4,m,b,e,m1,m2,ZG,d,g,k,D3,Db,if_pos t,De]
 .rw[show Gz (CN ws Wd) j x=CN ws Wd j x from if_neg u]at k ⊢
  rw[decide_eq_true ∅]at m
  generalize (j:W')=L,(x:W')=M,((CN ws Wd j x:Y):W')=Q at *
  erw[Za,Bh,Ht,Hz,DG,G7,Zd,Ef,Eg,Zo,IB,D0,Zz,Fl,A2,Zm,Cp,Zy,Gm,pk,AT,Dv,Cb,if_true,Zh,ZF,AU,Ct,N4,m,A,n4,E,B,C,n1,b,e,m1,m2,ZG,d,g,k,D3,Db,if_pos t,De]
def
jh(l m o p:Sl):∀(n j x:Y)(acc:U At)(r g:Sl),j+n<=4->x<47->acc.a+n<100 ->
  ∃s t i,ZE (Zb 5) N4 ((Gy j n).j λ(k:Y)=>D.r k) [‹c›,l,m,XS ws,.χ (Wd.j D.r),r,o,p,‹x›,.χ (acc.j aD),g]=.β [‹c›,l,m,XS ws,.χ (Wd.j D.r),s,o,p,t,.χ ((acc++D7 f (CN ws Wd) j x n).j aD),i]
 |0,j,x,acc,r,g,_,_,_=>#[r,_,g,by simp[ZE,D7];rfl]
 |n+1,j,x,acc,r,g,w,v,y=>by
  let(u,e):=zC hw hf h l m o p g j x ∅ v acc ∅
  let(a,b,d,q):=jh l m o p n (j+1) (Gz (CN ws Wd) j x) (acc++[f j (Gz (CN ws Wd) j x)]) ‹j› u ∅ (QZ h ∅ v) (by simp;lia)
  rw[Dy]at q
  apply#[a,b,d,?_]
  rw[QW,AT]
  erw[ZE,Zb,Ef,Eg,e]
  show q
def aW(ws:U W')(k:Y):Y:=(((k:W')*(1+ws.B 0 0%46)+ws.B 4 0)%47).Β
omit hw hf h in
def
Op(ws:U W')(k:Y):((k:W')*(1+ws.B 0 0%46)+ws.B 4 0)%47=(aW ws k:W')/\aW ws k<47:=by
 unfold aW
 generalize (k:W')*(1+ws.B 0 0%46)+ws.B 4 0=y
 lia
def
zD(j:Sl)(p k:Y)(p4:p<=4)(acc:BB)(r:acc.a<100)(o s t g:Sl):
  ∃l m n i,Qv [‹c›,j,‹p›,XS ws,.χ (Wd.j D.r),o,.χ (acc.j Ah),‹k›,s,t,g]=.β [‹c›,j,‹p›,XS ws,.χ (Wd.j D.r),l,.χ ((acc++[D7 f (CN ws Wd) 0 (aW ws k) p]).j Ah),‹k›,m,n,i]:=by
 let u:Ap (.U (ws.j D.r)) (.r 0)=Z (.r (ws.B 0 0)):=E6 hw 0 (by ext)
 let v:Ap (.U (ws.j D.r)) (.r 4)=Z (.r (ws.B 4 0)):=E6 hw 4 (by ext)
 let w:=Ih (x:=(k:W')) (y:=1+ws.B 0 0%46) (.τ #[∅,∅])
 let n1:=CD ((k:W')*(1+ws.B 0 0%46)+ws.B 4 0) 47 (by ext)
 rw[(Op ws k).1]at n1
 let q:=JN p ∅
 rw[On]at q
 let(a,b,d,e):=jh hw hf h j ‹p› (.χ (acc.j Ah)) ‹k› p 0 (aW ws k) [] o g ∅ (Op ws k).2 (by simp;lia)
 rw[EZ,Dv]at e
 let z:(acc.j Ah).a<Az:=by rw[Bu];show BQ r (by ext)
 let ht:Ec [.U ((D7 f (CN ws Wd) 0 (aW ws k) p).j aD)]=Z (Ah (D7 f (CN ws Wd) 0 (aW ws k) p)):=rfl
 let A:=CD (ws.B 0 0) 46 (by ext)
 generalize (Gy 0 p).j (λ(k:Y)=>D.r k)=R,ws.B 0 0%46=B at *
 generalize (k:W')=C,(p:W')=E,((aW ws k:Y):W')=G,(k:W')*(1+B)=H,ws.B 0 0=K,ws.B 4 0=F at *
 apply#[a,b,.χ ((D7 f (CN ws Wd) 0 (aW ws k) p).j aD),d,?_]
 erw[Za,Bh,Ht,Hz,DG,G7,Zd,Ef,Eg,Zo,IB,D0,Zz,Fl,A2,Zm,Cp,Zy,Gm,pk,AT,Dv,Cb,if_true,Zh,Qv,u,A,w,v,n1,Zg,if_pos (Fz _),Z4,ZG,ZN,q,e,D3,Db,ht,if_pos z,De]
def
ji(o:Sl)(p:Y)(p4:p<=4):∀(n k:Y)(acc:BB)(i r j l g:Sl),acc.a+n<100 ->
  ∃s u v w m,ZE (Zb 7) Qv ((Gy k n).j λ(k:Y)=>D.r k) [‹c›,o,‹p›,XS ws,.χ (Wd.j D.r),i,.χ (acc.j Ah),r,j,l,g]=.β [‹c›,o,‹p›,XS ws,.χ (Wd.j D.r),s,.χ ((acc++(Gy k n).j λk=>D7 f (CN ws Wd) 0 (aW ws k) p).j Ah),u,v,w,m]
 |0,k,acc,i,r,j,l,g,_=>#[i,r,j,l,g,by simp[ZE]]
 |n+1,k,acc,i,r,j,l,g,z=>by
  let(a,b,d,t,e):=zD hw hf h o p k p4 acc ∅ i j l g
  let(a2,a3,a4,x,y,q):=ji o p p4 n (k+1) (acc++[D7 f (CN ws Wd) 0 (aW ws k) p]) a ‹k› b d t (by simp;lia)
  rw[Dy]at q
  apply#[a2,a3,a4,x,y,?_]
  rw[QW,AT,AT]
  erw[ZE,Zb,Ef,Eg,e]
  show q
end
def
WL(s0 d e:Sl){ws:U W'}(l:ws.a=24)(j:Y)(p:j<20)(b:U W')(hz:b.a<100)(f g i k a:Sl):
  ∃z,1<=z/\z<=47/\KS [s0,d,e,XS ws,.χ (b.j D.r),‹j›,f,g,i,k,a]=.β [s0,d,e,XS ws,.χ ((b++[z]).j D.r),‹j›,f,g,i,k,a]:=by
 let m:=E6 l j ∅
 generalize ws.B j 0=y at *
 obtain⟨z,z1,z2,n⟩:∃z,1<=z/\z<=47/\Ap (.U [D.r (1+y%6),.r (2+y%3),.r 47,.r 3]) (.r (y/64%4))=Z (.r z):=by
  let h:y/64%4=0\/y/64%4=1\/y/64%4=2\/y/64%4=3:=∅
  rcases h with h|h|h|h<;>rw[h]
  .show#[1+y%6,∅,∅,rfl]
  .show#[2+y%3,∅,∅,rfl]
  .show#[47,by ext,by ext,rfl]
  .show#[3,by ext,by ext,rfl]
 let c:Zg (Z [D.r (1+y%6),.r (2+y%3),.r 47,.r 3])=Z [D.r (1+y%6),.r (2+y%3),.r 47,.r 3]:=Zq _ (by simp)
 let o:(b.j D.r).a<Az:=by rw[Bu];show BQ hz (by ext)
 apply#[z,z1,z2,?_]
 rwa[KS,m,CD y 6 (by ext),CD y 3 (by ext),Hx y 64 (by ext) (by ext),CD (y/64) 4 (by ext),c,n,D3,Db,if_pos o,De]
structure GL(ls:BB)(p:Y):V' where
 n1:1<=ls.a
 n6:ls.a<=40
 p1:1<=p
 p4:p<=4
 len:∀l∈ls,l.a=p
 val:∀l∈ls,∀a∈l,JV (aD a)=J'/\Sm (aD a)
 hdn:(ls.j hd).ι
 fn:∀l∈ls,∀l'∈ls,∀m a,l[m]?=Z a->l'[m]?=Z a->l.Ν (m+1)=l'.Ν (m+1)
def
Q0(f:Y->Y->At)(a:Y->Y->Y):∀(n j x:Y),(D7 f a j x n).a=n
 |0,_,_=>rfl
 |n+1,j,x=>by simp[D7,Q0 f a n]
def JY(a:Y->Y->Y)(j x:Y):Y->Y
 |0=>Gz a j x
 |i+1=>JY a (j+1) (Gz a j x) i
def
Q1(f:Y->Y->At)(a:Y->Y->Y):∀(i n j x:Y),i<n->(D7 f a j x n)[i]?=Z (f (j+i) (JY a j x i))/\(D7 f a j x n).Ν (i+1)=D7 f a (j+i+1) (JY a j x i) (n-i-1)
 |_,0,_,_,h=>∅
 |0,n+1,j,x,_=>by simp[D7,JY]
 |i+1,n+1,j,x,h=>by
  let(b,c):=Q1 f a i n (j+1) (Gz a j x) (Nat.succ_lt_succ_iff.mp h)
  grind [D7,JY]
def
jj{ws c:U W'}(h:Zs c):∀(i j x:Y),j+i<4->x<47->JY (CN ws c) j x i<47
 |0,j,x,a,b=>QZ h (Nat.lt_of_succ_le a) b
 |i+1,j,x,a,b=>jj h i (j+1) _ ∅ (QZ h (EQ a) b)
def
zE{c:W'}{ws:U W'}{f:Y->Y->At}(s:WK c ws f){K:U W'}(hz:Zs K)(p m:Y)(p1:1<=p)(p4:p<=4)(m1:1<=m)(F:m<=40)(a:Y->Y)(t:∀k,k<m->a k<47)(h:∀j k,j<m->k<m->a j=a k->j=k):
  GL ((Bf m).j λk=>D7 f (CN ws K) 0 (a k) p) p:=by
 let u:∀(k i:Y),k<m->i<p->(D7 f (CN ws K) 0 (a k) p)[i]?=Z (f i (JY (CN ws K) 0 (a k) i))/\JY (CN ws K) 0 (a k) i<47:=λk i o d=>by
  have:=(Q1 f (CN ws K) i p 0 (a k) d).1
  rw[Nat.zero_add]at this
  show#[this,jj hz i 0 (a k) ∅ (t k o)]
 apply#[by simpa using m1,by rw[Bu,List.length_range];lia,p1,p4,λl r=>?_,λl r b hb=>?_,?_,?_]
 .let(k,_,rfl):=Bc.mp r
  show Q0 _ _ _ _ _
 .let(k,o,rfl):=Bc.mp r
  let(i,h,e):=List.mem_iff_getElem.mp hb
  let d:i<p:=by rw[Q0]at h;show h
  let(g,w):=u k i (C9.mp o) d
  rw[Cc h,e]at g
  injection g with g
  subst g
  show(s i).1.u _ w
 .rw[B4]
  apply List.pairwise_map.ϡ (List.ϩ.imp_of_mem (λ{x y} C E z e=>z ?_) (List.nodup_range (n:=m)))
  let L:∀k,hd (D7 f (CN ws K) 0 (a k) p)=f 0 (a k):=λk=>by
   obtain⟨q,rfl⟩:∃q,p=q+1:=#[p-1,by show(Nat.sub_eq_iff_eq_add p1).mp rfl]
   rfl
  let e:f 0 (a x)=f 0 (a y):=by grind
  show h x y (C9.mp C) (C9.mp E) ((s 0).1.inj _ _ (t x (C9.mp C)) (t y (C9.mp E)) e)
 .intro l r M A n v a2 b2
  let(k,o,rfl):=Bc.mp r
  let(G,B,rfl):=Bc.mp A
  let d:n<p:=by
   have:=(BR.mp a2).1
   rw[Q0]at this;show this
  let(g,w):=u k n (C9.mp o) d
  let(H,N):=u G n (C9.mp B) d
  rw[g]at a2
  rw[H]at b2
  rw[(Q1 f (CN ws K) n p 0 (a k) d).2,(Q1 f (CN ws K) n p 0 (a G) d).2,(s n).1.inj _ _ w N (by rw[Fc a2,Fc b2])]
def
zF:∀m∈Bf 46,∃n∈Bf 47,((m+1)*n)%47=1:=by symm
def
zG{ws:U W'}{j k:Y}(o:j<47)(p:k<47)(e:aW ws j=aW ws k):j=k:=by
 let d:=(Op ws j).1
 let f:=(Op ws k).1
 rw[e,<- f]at d
 let(m,b,a):=FM (ws.B 0 0) 46 (by ext)
 replace b:ws.B 0 0%46=(m:W'):=b
 rw[b]at d
 let(n,l,g):=zF m (C9.ϡ a)
 generalize ws.B 4 0=c at *
 let h1:(47:W') ∣ ((j:W')-k)*(1+(m:W')):=by
  rw[Int.sub_mul];lia
 let h2:(47:W') ∣ ((j:W')-k)*((1+(m:W'))*n):=by
  rw[<- Int.mul_assoc]
  show Int.dvd_mul_of_dvd_left h1
 obtain⟨q,h⟩:∃q:W',(1+(m:W'))*n=47*q+1:=#[((m+1)*n/47:Y),by
  have:=Nat.div_add_mod ((m+1)*n) 47
  rw[g]at this
  rw[Int.add_comm 1 (m:W')]
  exact_mod_cast this.Ρ]
 rw[h,Int.mul_add,Int.mul_one]at h2
 let i:(47:W') ∣ ((j:W')-k)*(47*q):=#[((j:W')-k)*q,by rw[<- Int.mul_assoc,<- Int.mul_assoc,Int.mul_comm ((j:W')-k) 47]]
 let r:=(Int.dvd_add_right i).mp h2
 clear h1 h2 i h d f g l b e a
 lia
def
zH(c:W')(m p:Y)(m1:1<=m)(u:m<=40)(p1:1<=p)(p4:p<=4):∃i,GL i p/\i.a=m/\Qw [‹c›,‹m›,‹p›]=Z (.χ (i.j Ah)):=by
 let(a,v,g,_):=QX c p
 let(f,r):=zB c a
 let(z1,a1,b1,w):=WL ‹c› ‹m› ‹p› g 1 (by ext) [47] (by ext) .no .no .no .no .no
 let(z2,a2,b2,x):=WL ‹c› ‹m› ‹p› g 2 (by ext) [47,z1] (by simp) .no .no .no .no .no
 let(z3,a3,b3,y):=WL ‹c› ‹m› ‹p› g 3 (by ext) [47,z1,z2] (by simp) .no .no .no .no .no
 let s:Zs [47,z1,z2,z3]:=#[rfl,λz h=>by erw[Bl,HQ,or_false]at h;lia]
 let t:=JN m ∅
 rw[On]at t
 let(A,B,C,E,G,e):=ji g r s ‹m› p p4 m 0 [] ‹3› .no .no .no .no (by simp;lia)
 rw[EZ,Dv]at e
 apply#[(Gy 0 m).j λk=>D7 f (CN a [47,z1,z2,z3]) 0 (aW a k) p,?_,by simp,?_]
 .rw[<- On]
  show zE r s p m p1 p4 m1 u (aW a) (λk _=>(Op a k).2) λj k H K e=>zG ∅ ∅ e
 .let b:ZE (Zb 5) KS [.r 1,.r 2,.r 3] [‹c›,‹m›,‹p›,XS a,.χ [.r 47],.no,.no,.no,.no,.no,.no]=.β [‹c›,‹m›,‹p›,XS a,.χ [.r 47,.r z1,.r z2,.r z3],‹3›,.no,.no,.no,.no,.no]:=by
   erw[ZE,Zb,Ef,Eg]
   let l:KS [‹c›,‹m›,‹p›,XS a,.χ [.r 47],‹1›,.no,.no,.no,.no,.no]=_:=w
   let n:KS [‹c›,‹m›,‹p›,XS a,.χ [.r 47,.r z1],‹2›,.no,.no,.no,.no,.no]=_:=x
   let o:KS [‹c›,‹m›,‹p›,XS a,.χ [.r 47,.r z1,.r z2],‹3›,.no,.no,.no,.no,.no]=_:=y
   rw[l]
   erw[De,AT,Dv,Kj,EZ,Ef,Eg]
   rw[n]
   erw[De,AT,Dv,Kj,EZ,Ef,Eg]
   rw[o]
   rfl
  let q:Lq [.r 1,.r 4]=Z [.r 1,.r 2,.r 3]:=wH 1 4 (by ext) (by ext) (by ext) (by ext)
  erw[AT,Dv]at e
  generalize ((Gy 0 m).j λk=>D7 f (CN a [47,z1,z2,z3]) 0 (aW a k) p).j Ah=F,(Gy 0 m).j (λ(k:Y)=>D.r k)=R at *
  apply Zp rfl ?_
  change UT [‹c›,‹m›,‹p›,.no,.no,.no,.no,.no,.no,.no,.no]=_
  let d:Zg (Z [D.r 47])=Z [D.r 47]:=rfl
  rwa[UT,eA,eP,eC,eO,eE,eM,eF,eK,eG,eJ,eH,eI,v,d,show Zg (Z ([]:U D))=Z []from rfl,Z4,ZN,q,b,t,e,ZK,Db]
abbrev LD(a:BB):D:=.U (a.j Ah)
structure Bv(Ls:AM):V' where
 n1:1<=Ls.a
 n4:Ls.a<=4
 good:∀ls∈Ls,∃p,GL ls p
def
jl(ns:U W')(j:Sl):∀(n k:Y)(b:AM)(q l:Sl),b.a+n<100->(∀f∈b,(∃p,GL f p)/\f.a<=8)->∃(d:AM)(r s:Sl),d.a=b.a+n/\(∀f∈d,(∃p,GL f p)/\f.a<=8)/\ZE (Zb 3) QB ((Gy k n).j λ(k:Y)=>D.r k) [#v[ns.j D.r],j,.χ (b.j LD),q,l]=.β [#v[ns.j D.r],j,.χ (d.j LD),r,s]
 |0,k,b,q,l,_,t=>#[b,q,l,rfl,t,rfl]
 |n+1,k,b,q,l,h,t=>by
  let(a,A,z,L):=QX (ns.B (1+(k:W')).Β 0) (k:W')
  let u:Ap (.U (a.j D.r)) (.r 20)=Z (.r (a.B 20 0)):=E6 z 20 (by ext)
  let w:Ap (.U (a.j D.r)) (.r 21)=Z (.r (a.B 21 0)):=E6 z 21 (by ext)
  let(m,y,M):=FM (a.B 20 0) 8 (by ext)
  let(p,i,p4):=FM (a.B 21 0) 4 (by ext)
  let n8:=CD (a.B 20 0) 8 (by ext)
  let n4:=CD (a.B 21 0) 4 (by ext)
  replace y:a.B 20 0%8=(m:W'):=y
  replace i:a.B 21 0%4=(p:W'):=i
  rw[y]at n8
  rw[i]at n4
  let B:=Om #v[ns.j D.r] ns (.S rfl) (1+(k:W')) ∅
  let(f,g,N,e):=zH (ns.B (1+(k:W')).Β 0) (1+m) (1+p) ∅ ∅ ∅ ∅
  let(d,C,E,G,H,q3):=jl ns j n (k+1) (b++[f]) ‹k› (.u (.U (a.j D.r))) (by simp;lia) λx o=>by
   rcases EH.mp o with o|o
   .show t x o
   .rw[Fw.mp o];show#[#[_,g],∅]
  apply#[d,C,E,by rw[G];simp;lia,H,?_]
  let P:(b.j LD).a<Az:=by rw[Bu];show BQ (show b.a<100 by lia) (by ext)
  rw[QW,AT]
  let hb:QB [#v[ns.j D.r],j,.χ (b.j LD),‹k›,l]=.β [#v[ns.j D.r],j,.χ ((b++[f]).j LD),‹k›,.u (.U (a.j D.r))]:=by
   rw[De,AT,Dv]
   rw[Int.natCast_add,Int.natCast_add]at e
   let F:Qw [‹ns.B (1+(k:W')).Β 0›,‹1+(m:W')›,‹1+(p:W')›]=Z (.χ (f.j Ah)):=e
   generalize ns.B (1+(k:W')).Β 0=c,(k:W')=K,(m:W')=Q,(p:W')=T,a.j D.r=W at *
   rwa[QB,B,A,u,w,n8,n4,F,D3,Db,if_pos P,Ct,LD]
  erw[ZE,Zb,Ef,Eg,hb]
  show q3
def
zI(ns:U W'):∃a,Bv a/\(∀d∈a,d.a<=8)/\U5 [#v[ns.j D.r]]=Z (.χ (a.j LD)):=by
 let l:=Om #v[ns.j D.r] ns (.S rfl) 0 (by ext)
 generalize ns.B (0:W').Β 0=c at *
 let n3:=CD c 3 (by ext)
 let e:=CD c 12 (by ext)
 obtain⟨m,n,m1,p⟩:∃m:Y,(1+c%3)+(if decide (c%12=5)=J' then 1 else 0)=(m:W')/\1<=m/\m<=4:=#[((1+c%3)+(if decide (c%12=5)=J' then 1 else 0)).Β,by split<;>lia,by split<;>lia,by split<;>lia]
 let g:=JN m ∅
 rw[On,<- n]at g
 let(a,q,r,i,j,q3):=jl ns ‹c› m 0 [] .no .no (by simp;lia) λ_ h=>nomatch h
 let f:=WI (c%12) 5
 rw[Dv]at q3
 generalize (Gy 0 m).j (λ(k:Y)=>D.r k)=R at *
 apply#[a,#[by simp at i;lia,by simp at i;lia,λd h=>(j d h).1],λd h=>(j d h).2,Zp rfl ?_]
 change U4 [#v[ns.j D.r],.no,.no,.no,.no]=_
 let o:Ng [.bl (decide (c%12=5))]=Z (.r (if decide (c%12=5)=J' then 1 else 0)):=rfl
 generalize decide (c%12=5)=b at *
 rwa[U4,fu,fG,fw,fF,fy,fE,fB,fC,l,show Zg (Z ([]:U D))=Z []from rfl,Z4,n3,e,f,o,ZN,g,q3,ZK,Db]
structure Ln(l:List At):V' where
 l1:1<=l.a
 l4:l.a<=4
 val:∀a∈l,JV (aD a)=J'/\Sm (aD a)
def
GL.ln{c:BB}{p:Y}(h:GL c p):∀l∈c,Ln l:=λl b=>#[h.Ϫ l b ▸ h.p1,h.Ϫ l b ▸ h.p4,λa d=>h.u l b a d]
abbrev KY(a:AM):D:=.O (a.j λ_=>D.r 0)
def
jm{a:AM}(h:Bv a):NQ [#v[a.j LD]]=Z (.u (KY a)):=by
 rwa[NQ,AV,Mo,dm,Nat.reduceSub,WM,Du,Zi,Zg,if_pos (show(a.map LD).length<=Az by rw[Bu];show BX h.n4 (by ext)),Zr,List.replicate_succ,Zv (b:=Zb 0) (e:=dj) (ρ:=[.no]) LD (λ_=>D.int 0) a λc _=>#[[.val (LD c)],rfl,rfl],show Ec [.lst (a.map λ_=>D.int 0)]=Z (KY a)from rfl]
structure TO{α:Type}(lt:α->α->jp):V' where
 asym:∀a b,lt a b=J'->lt b a=O'
 neg:∀a b c,lt a c=J'->lt a b=J'\/lt b c=J'
 anti:∀a b,lt a b=O'->lt b a=O'->a=b
def IZ{a:Type}(lt:a->a->jp)(x:a):U a->U a
 |[]=>[x]
 |y::r=>if lt x y then x::y::r else y::IZ lt x r
def Zx{a:Type}(lt:a->a->jp):U a->U a
 |[]=>[]
 |x::r=>IZ lt x (Zx lt r)
def
WN{a:Type}(lt:a->a->jp)(x:a):∀l,(IZ lt x l).ϲ (x::l)
 |[]=>.ξ _
 |y::r=>by
  unfold IZ
  split
  .show .ξ _
  .show((WN lt x r).Η y).J (.swap x y r)
def
ZB{a:Type}(lt:a->a->jp):∀l,(Zx lt l).ϲ l
 |[]=>.ξ _
 |x::r=>(WN lt x _).J ((ZB lt r).Η x)
def
jn{c:Type}{lt:c->c->jp}(T:TO lt)(x:c):∀l:U c,l.ϩ (λa b=>lt b a=O')->(IZ lt x l).ϩ λa b=>lt b a=O'
 |[],_=>by simp[IZ]
 |y::r,g=>by
  let(h1,h2):=Nr.mp g
  unfold IZ
  split
  .next f=>
   apply Nr.ϡ #[λz d=>?_,g]
   rcases Bl.mp d with e|d
   .subst e;show T.asym x z f
   .cases h:lt z x with
    |false=>rfl
    |true=>
     rcases T.neg z y x h with q|q
     .rw[h1 z d]at q;ext q
     .rw[T.asym x y f]at q;ext q
  .next f=>
   apply Nr.ϡ #[λz d=>?_,jn T x r h2]
   grind [WN]
def
WP{c:Type}{lt:c->c->jp}(T:TO lt):∀l:U c,(Zx lt l).ϩ λa b=>lt b a=O'
 |[]=>.Ϝ
 |x::r=>jn T x _ (WP T r)
def
zJ{c:Type}{lt:c->c->jp}(T:TO lt){xs ys:U c}(d:ys.ϲ xs)(e:ys.ϩ λa b=>lt b a=O'):ys=Zx lt xs:=
 bC (le:=λa b=>lt b a=O') (λa b _ _ h1 h2=>T.anti a b h2 h1) e (WP T xs) (d.J (ZB _ xs).Ρ)
def
jo{a:Type}(f:a->D)(lt:a->a->jp)(b:D->D->jp)(x:a):∀l:U a,(∀y∈l,b (f x) (f y)=lt x y)->IP b (f x) (l.j f)=(IZ lt x l).j f
 |[],_=>rfl
 |y::r,h=>by
  erw[AT,IP,IZ,h y A6,jo f lt b x r λz c=>h z (A5 _ c)]
  split<;>rfl
def
WQ{a:Type}(f:a->D)(lt:a->a->jp)(b:D->D->jp):∀l:U a,(∀x∈l,∀y∈l,b (f x) (f y)=lt x y)->ET b (l.j f)=(Zx lt l).j f
 |[],_=>rfl
 |x::r,h=>by
  erw[AT,ET,Zx,WQ f lt b r λy c z d=>h y (A5 _ c) z (A5 _ d)]
  grind [jo,ZB]
def
WR{l:Type}{F:U Sl->O Rv}(f:l->D){lt:l->l->jp}(T:TO lt)(b:jp)(xs:U l)(few:xs.a<64)(m:l->D)(tells:∀a∈xs,F [.u (f a)]=Z (.u (m a)))(mode:∀a∈xs,Ck b (m a))(cmp:∀a∈xs,∀c∈xs,ltN 6 (m a) (m c)=Z (lt a c)):EU F (xs.j f)=Z ((Zx lt xs).j f):=by
 let n:∀a∈xs,Dq F (f a)=m a:=λa d=>by unfold Dq;rw[tells a d];rfl
 let j:∀a∈xs,∀c∈xs,Cr F (f a) (f c)=lt a c:=λa d c g=>SY (by rw[n a d,n c g];show cmp a d c g)
 let ok:Bk F (xs.j f):={
  few:=by simp;lia
  tells:=λx i=>by let(a,d,rfl):=Bc.mp i;show#[_,tells a d]
  mode:=#[b,λx i=>by let(a,d,rfl):=Bc.mp i;rw[n a d];show mode a d]
  cmp:=λx i y k=>by
   grind
  asym:=λx i y k h=>by
   let(a,d,rfl):=Bc.mp i
   let(c,g,rfl):=Bc.mp k
   rw[j a d c g]at h;rw[j c g a d];show T.asym a c h
  neg:=λx i y k z p h=>by
   let(a,d,rfl):=Bc.mp i
   let(c,g,rfl):=Bc.mp k
   let(e,o,rfl):=Bc.mp p
   rw[j a d e o]at h;rw[j a d c g,j c g e o];show T.neg a c e h
  anti:=λx i y k h1 h2=>by
   let(a,d,rfl):=Bc.mp i
   let(c,g,rfl):=Bc.mp k
   rw[j a d c g]at h1;rw[j c g a d]at h2;rw[T.anti a c h1 h2]}
 rw[bD ok,WQ f lt _ xs j]
def Dh{b:Type}[DecidableEq b]:O b->U b->U b
 |_,[]=>[]
 |p,a::r=>if p=Z a then Dh p r else a::Dh (Z a) r
def
WS{c:Type}[DecidableEq c]:∀(l:U c)(p:O c),l.ι->(∀a,p=Z a->a∉l)->Dh p l=l
 |[],_,_,_=>rfl
 |a::r,p,h,d=>by
  let(h1,h2):=FA.mp h
  unfold Dh
  rw[if_neg (λe=>d a e A6),WS r (Z a) h2 λb hb=>by ext hb;show h1]
def
WT{c:Type}[DecidableEq c]:∀(l:U c)(p:O c)(a:c),a∈Dh p l->a∈l
 |[],_,_,h=>h
 |b::r,p,a,h=>by
  unfold Dh at h
  split at h
  .show A5 _ (WT r p a h)
  .rcases Bl.mp h with rfl|h
   .show A6
   .show A5 _ (WT r _ a h)
def
WU{c:Type}[DecidableEq c]:∀(l:U c)(p:O c)(a:c),a∈l->a∈Dh p l\/p=Z a
 |[],_,_,h=>by cases h
 |b::r,p,a,h=>by
  unfold Dh
  split
  .next e=>
   rcases Bl.mp h with rfl|h
   .show .τ e
   .show WU r p a h
  .rcases Bl.mp h with rfl|h
   .show .S A6
   .rcases WU r (Z b) a h with h|h
    .show .S (A5 _ h)
    .grind [A6]
def
WV{b:Type}[DecidableEq b](l:U b)(a:b):a∈Dh J l↔a∈l:=by grind [WT,WU]
def GA:At->At->jp
 |.non,.non=>O'
 |.non,_=>J'
 |.int i,.int j=>decide (i<j)
 |.int _,.str _=>J'
 |.str x,.str y=>decide (x.ϐ.R<y.ϐ.R)
 |_,_=>O'
def
zK{x:Ae}(h:x.ϐ.R=y.ϐ.R):x=y:=by
 obtain⟨⟨a⟩⟩:=x
 simp_all
def
I0:TO GA:={
 asym:=λa b h=>by
  ext a<;>ext b<;>erw[GA,decide_eq_true_eq,decide_eq_false_iff_not,Fg]at h ⊢
  .show Int.lt_asymm h
  .show List.lt_asymm h
 neg:=λa b c h=>by
  ext a<;>ext c<;>erw[GA,decide_eq_true_eq,Fg]at h<;>ext b<;>erw[GA,decide_eq_true_eq,Fg,true_or,or_true,or_false]
  .lia
  .grind [List.lt_of_le_of_lt,List.not_lt]
 anti:=λa b h1 h2=>by
  ext a<;>ext b<;>erw[GA,decide_eq_false_iff_not,Bool.true_eq_false]at h1 h2
  .rfl
  .rw[At.r.injEq];lia
  .rw[At.Α.injEq];show zK (List.le_antisymm (List.not_lt.mp h2) (List.not_lt.mp h1))}
def Bo:U At->U At->jp
 |[],[]=>O'
 |[],_::_=>J'
 |_::_,[]=>O'
 |a::r,b::s=>if a=b then Bo r s else GA a b
def
jq:∀a b,Bo a b=J'->Bo b a=O'
 |[],[],_=>rfl
 |[],_::_,_=>rfl
 |_::_,[],h=>by cases h
 |a::r,b::s,h=>by
  unfold Bo at h ⊢
  by_cases e:a=b
  .subst e;erw[if_true]at h ⊢;show jq r s h
  .rw[if_neg e]at h;rw[if_neg (λz=>e z.Ρ)];show I0.asym a b h
def
jr:∀a b c,Bo a c=J'->Bo a b=J'\/Bo b c=J'
 |[],[],c,h=>.τ h
 |[],_::_,_,_=>.S rfl
 |_::_,_,[],h=>by cases h
 |_::_,[],_::_,_=>.τ rfl
 |a::r,b::s,c::t,h=>by
  unfold Bo at h ⊢
  by_cases e:a=b
  .subst e
   by_cases d:a=c
   .erw[d,if_true]at h ⊢;show jr r s t h
   .rw[if_neg d]at h;right;rw[if_neg d];show h
  .rw[if_neg e]
   by_cases d:b=c
   .subst d;rw[if_neg e]at h;show .S h
   .rw[if_neg d]
    by_cases f:a=c
    .subst f
     cases g:GA a b with
     |true=>show .S rfl
     |false=>
      cases hd:GA b a with
      |true=>show .τ rfl
      |false=>show absurd (I0.anti a b g hd) e
    .rw[if_neg f]at h;show I0.neg a b c h
def
js:∀a b,Bo a b=O'->Bo b a=O'->a=b
 |[],[],_,_=>rfl
 |[],_::_,h,_=>by cases h
 |_::_,[],_,h=>by cases h
 |a::r,b::s,h1,h2=>by
  unfold Bo at h1 h2
  by_cases e:a=b
  .subst e;erw[if_true]at h1 h2;rw[js r s h1 h2]
  .rw[if_neg e]at h1;rw[if_neg (λz=>e z.Ρ)]at h2;show absurd (I0.anti a b h1 h2) e
def
DL:TO Bo:=#[jq,jr,js]
def C6:At->D
 |.non=>.O [.r 0,.r 0]
 |.int i=>.O [.r 1,.r i]
 |.str x=>.O [.r 2,.Α x]
def
zL(n:Y)(a b:At):ltN (n+2) (C6 a) (C6 b)=Z (GA a b):=by
 ext a<;>ext b<;>simp[C6,GA]
 .intro e;show Int.le_of_eq e.Ρ
 .intro e;subst e;simp
def
jt(a b:At):Ba (C6 a) (C6 b)=decide (a=b):=by
 ext a<;>ext b<;>simp[C6]
def
Q2(n:Y)(a:At):AY (n+1) (C6 a)=J':=by ext a<;>ext n<;>rfl
def
WW(n:Y):∀l m:U At,Fn (ltN (n+2)) (l.j C6) (m.j C6)=Z (Bo l m)
 |[],[]=>rfl
 |[],_::_=>rfl
 |_::_,[]=>rfl
 |a::r,b::s=>by
  rwa[Fn,FL,Q2 11 a,Q2 11 b,jt a b,zL n a b,WW n r s,Bo,decide_eq_true_eq]
  grind
def
Q3{b:Type}[DecidableEq b]:∀(l:U b)(p:O b),(Dh p l).a<=l.a
 |[],_=>A9 _
 |a::r,p=>by
  unfold Dh
  split
  .show LU (Q3 r p)
  .show Ld (Q3 r _)
def mn(m y:W'):W':=if y<m then y else m
def mx(m y:W'):W':=if y>m then y else m
def
ju(m y:W'):mn m y=min m y:=by grind [mn]
def
jv(m y:W'):mx m y=max m y:=by grind [mx]
def cel(x:W')(xs:U W'):D:=.O [.r (xs.a+1:Y),.r ((x::xs).sum),.r (xs.Λ mn x),.r (xs.Λ mx x)]
def zM(s:Sl)(ns:U W'):V':=s=#v[ns.j D.r]\/s=.jk (ns.j D.r)
def
zN(s:Sl)(x:W')(xs:U W')(h:zM s (x::xs)):P2 [s]=Z (.u (cel x xs)):=by
 rcases h with rfl|rfl<;>(simp[P2,AV,dr,Gq,SD,SE,cel,show(4:Y)<=Az by ext];show#[rfl,rfl])
def
jw:(4:Y)<=Az:=by ext
def
jx(a:W'):∀(ys:U W')(b:W'),ys.Λ mn (mn a b)=mn a (ys.Λ mn b)
 |[],b=>rfl
 |y::ys,b=>by
  erw[IG,show mn (mn a b) y=mn a (mn b y) by erw[ju];show Int.min_assoc a b y,jx a ys]
def
jy(a:W'):∀(ys:U W')(b:W'),ys.Λ mx (mx a b)=mx a (ys.Λ mx b)
 |[],b=>rfl
 |y::ys,b=>by
  erw[IG,show mx (mx a b) y=mx a (mx b y) by erw[jv];show Int.max_assoc a b y,jy a ys]
def
zO(x y:W')(xs ys:U W'):NS [.u (cel x xs),.u (cel y ys)]=Z (.u (cel x (xs++y::ys))):=by
 simp[NS,AV,dt,cel,atI,FD,jw,show(xs++y::ys).foldl mn x=mn (xs.foldl mn x) (ys.foldl mn y) by rw[List.foldl_append,IG,jx],show(xs++y::ys).foldl mx x=mx (xs.foldl mx x) (ys.foldl mx y) by rw[List.foldl_append,IG,jy]]
 apply#[∅,by show Int.add_assoc x xs.sum (y+ys.sum),rfl,rfl]
def Ft(acc:Bd)(ps:U (At×D)):Bd:=ps.Λ (λa p=>ZQ a (.at p.1) p.2) acc
def
WX(a:At):Df (aD a)=Z (.at a):=Nm (.at a)
def
Oq{a:At}{v:D}(h:∀p∈kvs,ES p.1=J'):∀p∈ZQ kvs (.at a) v,ES p.1=J':=λp b=>by
 rcases SR b with b|rfl
 .show h p b
 .rfl
def
jz:∀(ps:U (At×D))(acc:Bd),(∀p∈acc,ES p.1=J')->acc.a+ps.a<=100000->EV acc (ps.j λp=>.O [aD p.1,p.2])=Z (Ft acc ps)
 |[],acc,_,_=>rfl
 |p::ps,acc,h,a=>by
  erw[Cb]at a
  let b:=LP acc (.at p.1) p.2
  erw[AT,EV,WX,Gs p.1 h,show acc.length<Az from BQ (show acc.length<100000 by show EQ a) (by ext),decide_true,F7,if_true,jz ps (ZQ acc (.at p.1) p.2) (Oq h) ∅]
  rfl
def
WY:∀(ps:U (At×D))(acc:Bd),(∀p∈acc,ES p.1=J')->∀p∈Ft acc ps,ES p.1=J'
 |[],_,h=>h
 |p::ps,acc,h=>WY ps _ (Oq h)
def
jA{a:At}:∀(ps:U (At×D))(acc:Bd),a∉ps.j (·.1)->Zl (Ft acc ps) (.at a)=Zl acc (.at a)
 |[],_,_=>rfl
 |p::ps,acc,h=>by
  rw[AT,Bl,not_or]at h
  change Zl (Ft (ZQ acc (.at p.1) p.2) ps) _=_
  rw[jA ps (ZQ acc (.at p.1) p.2) h.2,HW,if_neg (λe=>h.1 (KT.at.inj e).Ρ)]
def
jB{a:At}{v:D}:∀(ps:U (At×D))(acc:Bd),(ps.j (·.1)).ι->(a,v)∈ps->Zl (Ft acc ps) (.at a)=Z v
 |p::ps,acc,b,h=>by
  rw[AT,FA]at b
  change Zl (Ft (ZQ acc (.at p.1) p.2) ps) _=_
  rcases Bl.mp h with rfl|h
  .rw[jA ps _ b.1,HW,if_pos rfl]
  .show jB ps _ b.2 h
def
jD(a:At):∀(ps:U (At×D))(acc:Bd),(Zl (Ft acc ps) (.at a)).μ=((Zl acc (.at a)).μ||decide (a∈ps.j (·.1)))
 |[],acc=>by simp[Ft]
 |p::ps,acc=>by
  show(Zl (Ft (ZQ acc (.at p.1) p.2) ps) _).μ=_
  rw[jD a ps (ZQ acc (.at p.1) p.2),HW]
  grind
def
zP{ps:U (At×D)}{a:At}{v:D}(c:(ps.j (·.1)).ι)(h:(a,v)∈ps):C3 (.U (Zc (Ft [] ps)) .d) (aD a)=Z v:=by
 let e:=Gs (kvs:=Ft [] ps) a (WY ps [] λ_ h=>nomatch h)
 rw[Pw,WX]
 grind [jB]
def
zQ(neg:jp)(ps:U (At×D))(a:At):Dp neg (aD a) (.U (Zc (Ft [] ps)) .d)=Z (.bl (neg != decide (a∈ps.j (·.1)))):=by
 rw[Kv,WX]
 rwa[Gs (kvs:=Ft [] ps) a (WY ps [] λ_ h=>nomatch h),jD a ps []]
 rfl
def
KZ{a:Type}(l:U a):Do [.U ((l.j λ_=>J').j D.bl)]=Z (.bl J'):=by
 erw[Do,cQ,MS]
 simp_all
def
jF{a:Type}(x:a)(xs:U a):atI (x::xs) 0=Z x:=by
 have:(0:W')<(xs.a:W')+1:=Int.succ_ofNat_pos xs.a
 simp[atI,FD,this]
def
jH{a:Type}(xs:U a)(x:a):atI (xs++[x]) (-1)=Z x:=by
 let h1:(-1+((xs.a:W')+1)).Β=xs.a:=∅
 have h2 : -((xs.a:W')+1) <= -1:=∅
 simp[atI,FD,h1,h2]
def
zR(a:At):Qc [.u (aD a)]=Z (.u (C6 a)):=by
 ext a<;>simp[Qc,AV,dR,G6,PZ,aD,C6,show(2:Y)<=Az by ext]
def
jI(l:U At)(h:l.a<=1000):Mh [.u (Ah l)]=Z (.u (.O (l.j C6))):=by
 let c:=Zv (b:=Zb 0) (e:=UG) (ρ:=[.no]) aD C6 l λa _=>#[[.u (aD a)],rfl,by
  have:=zR a
  rwa[UG,this,Ct]]
 simp[Mh,AV,d5,Ah,show l.length<=Az from BX h (by ext),Zr,c,-B4]
def
Q5(s0:Sl):∀(c acc:BB)(j:Sl),acc.a+c.a<100000->∃a,ZE (Zb 2) JR (c.j Ah) [s0,.χ (acc.j Ah),j]=.β [s0,.χ ((acc++Dh acc.getLast? c).j Ah),a]
 |[],acc,j,_=>#[j,by simp[ZE,Dh]]
 |l::c,acc,j,d=>by
  erw[Cb]at d
  let f:acc.a<Az:=BQ (show acc.a<100000 by show EQ d) (by ext)
  let m:HP (Z (.r 1))=Z (.r (-1)):=rfl
  erw[AT,ZE,Zb,Ef,Eg]
  rcases List.eq_nil_or_concat acc with rfl|⟨pre,x,rfl⟩
  .let(a,e):=Q5 s0 c [l] (.u (Ah l)) (by simp;lia)
   apply#[a,?_]
   let hb:JR [s0,.χ ([].j Ah),.u (Ah l)]=.β [s0,.χ ([l].j Ah),.u (Ah l)]:=by
    simp[JR,show(0:Y)<Az by ext]
   show e
  .rw[List.concat_eq_append]at d f ⊢
   let g:Ap (.U ((pre++[x]).j Ah)) (.r (-1))=Z (Ah x):=by
    rw[De];show jH _ _
   let h:ZJ (Z (.U ((pre++[x]).j Ah)))=Z J':=by simp
   let i:=i4 x l
   let b:(pre++[x]).getLast?=Z x:=by simp
   by_cases k:x=l
   .subst k
    let(a,e):=Q5 s0 c (pre++[x]) (.u (Ah x)) (Nat.lt_of_succ_lt d)
    apply#[a,?_]
    let hb:JR [s0,.χ ((pre++[x]).j Ah),.u (Ah x)]=.β [s0,.χ ((pre++[x]).j Ah),.u (Ah x)]:=by
     erw[JR,Zd,ZF,Cs,ZP,AU,Za,Bh,Ht,Hz,DG,D0,h,m,g,i,decide_true,KV]
    rw[hb,b,Dh,if_pos rfl,<- b]
    show e
   .let(a,e):=Q5 s0 c (pre++[x]++[l]) (.u (Ah l)) (by simp at d ⊢;lia)
    apply#[a,?_]
    let hb:JR [s0,.χ ((pre++[x]).j Ah),.u (Ah l)]=.β [s0,.χ ((pre++[x]++[l]).j Ah),.u (Ah l)]:=by
     rw[show((pre++[x]++[l]).j Ah)=(pre++[x]).j Ah++[Ah l] by simp]
     erw[JR,Zd,ZF,Cs,ZP,AU,Za,Bh,A2,Ht,Hz,DG,D0,h,m,g,i,k,decide_false,Bool.not_false,KV,D3,Bu,f,if_true,Ef,Eg]
    rw[hb,b,Dh,if_neg (by exists k)]
    rw[show(pre++[x]++[l]).getLast?=Z l by simp]at e
    rw[show pre++[x]++l::Dh (Z l) c=pre++[x]++[l]++Dh (Z l) c by simp]
    show e
def
Q6(s:Sl)(b:BB)(f:s=#v[b.j Ah]\/s=.jk (b.j Ah))(g:b.a<64)(d:∀l∈b,l≠[]/\l.a<=1000):N8 [s]=Z (.χ ((Dh J (Zx Bo b)).j Ah)):=by
 let c:=WR (F:=Mh) Ah DL O' b g (λl=>.O (l.j C6)) (λl h=>jI l (d l h).2) (λl h=>by
  cases l with
  |nil=>show absurd rfl (d [] h).1
  |cons a r=>ext a<;>show#[_,_,rfl]) (λl _ m _=>WW 3 l m)
 let(i,e):=Q5 s (Zx Bo b) [] .no (by rw[(ZB Bo b).Ψ];simp;lia)
 erw[Dv,EZ,List.getLast?_nil]at e
 apply Zp rfl ?_
 change Vb [s,.no,.no]=_
 rcases f with rfl|rfl<;>rwa[Vb,Z4,ZN,Ky,Db,ZK,show Zg (Z ([]:U D))=Z []from rfl,c,e]
def
JZ(l:U At)(j:Y)(h:l.a<=1000):F9 [.u (Ah l),‹j›]=Z (.u (aD (l.B j .Y))):=by
 by_cases a:j<l.a
 .have:Ap (Ah l) (.r j)=Z (aD (l.B j .Y)):=by
   show Ev (by simp[Cc a,Cm])
  simp[F9,AV,TD,-Ap,-ZA,show ZA [Ah l]=Z (.int l.length) by simp[Ah],this,Int.ofNat_lt.mpr a]
 .rw[show l.B j .Y=.Y by grind]
  simp[F9,AV,TD,-Ap,-ZA,show ZA [Ah l]=Z (.int l.length) by simp[Ah],show ¬ (j:W')<(l.length:W') by lia,aD]
def
zS(l:U At)(n:Y):DH (Ah l) (Z ((n:W')+1)) J=Z (Ah (l.Ν (n+1))):=by
 change Z (D.O (cutD (l.j aD) (Z ((n:W')+1)) J))=_
 rw[Tv _ _ ∅,<- List.map_drop,show((n:W')+1).Β=n+1 by show Int.toNat_natCast_add_one];rfl
def
zT{l:U At}(h:Ln l):UJ [.u (Ah l)]=Z (.u (.bl J')):=by
 let l1:=h.l1
 let l4:=h.l4
 let d:=Zv (b:=Zb 0) (e:=UH) (ρ:=[.no]) aD (λ_=>D.bl J') l λa c=>#[[.u (aD a)],rfl,by
  have:=WF (aD a) (h.u a c).2
  rw[show(Fs (aD a)||BP (aD a))=J' from(h.u a c).1]at this
  rwa[UH,this]]
 rw[show l.j (λ_=>D.bl J')=(l.j λ_=>J').j D.bl by rw[B4];rfl]at d
 let c:=KZ l
 let q:=Zq (l.j aD) (by simp;lia)
 let f:ZA [.O (l.j aD)]=Z (.r l.a):=by simp
 let g:FE (.r l.a) (.r 1)=Z (.bl O'):=by
  change Z (D.bl (decide ((l.a:W')<1)))=_
  rw[decide_eq_false ∅]
 let i:Fm (.r l.a) (.r 4)=Z (.bl O'):=by
  change Z (D.bl (decide ((4:W')<(l.a:W'))))=_
  rw[decide_eq_false ∅]
 apply Zp rfl ?_
 change UI [.u (.O (l.j aD))]=_
 generalize (l.j λ_=>J').j D.bl=m,l.j aD=A at *
 rwa[UI,show B5 [.tup A,.ty "tuple"]=Z (.bl J')from rfl,show ZJ (Z (.bl J'))=Z J' from rfl,f,g,i,Zi,q,show ∀j,Zr 1 [] j=[.no]from λ_=>rfl,d,c]
structure Sn(ls:BB)(S:Bd)(n:Y):V' where
 tp:∀p∈S,ES p.1=O'
 ln:S.a<=n
 sy:∀(j:Y) (a:At) (d:D),Zl S (.O [.r j,a])=Z d->∃l∈ls,l[j]?=Z a/\d=Ah (l.Ν (j+1))
variable {ls:BB}{p:Y}(hg:GL ls p)
include hg
def
jJ{l:U At}(u:l∈ls)(s0 f:Sl):∀(r:U At)(j:Y)(S:Bd)(n:Y)(k m g:Sl),l.Ν j=r->Sn ls S n->n+r.a<=10000->∃s v w y,Sn ls s (n+r.a)/\ZE (ZC 2 (Zf (Zb 4) (Zf (Zb 5) ZD))) N5 (ZR j (r.j aD)) [s0,.χ (Zc S) .d,f,.u (Ah l),k,m,g]=.β [s0,.χ (Zc s) .d,f,.u (Ah l),v,w,y]
 |[],j,S,n,k,m,g,_,h,_=>#[S,k,m,g,h,rfl]
 |a::r,j,S,n,k,m,g,H,h,M=>by
  rw[Cb]at M
  let R:l[j]?=Z a:=by
   have:=congrArg (λx=>x[0]?) H
   exists this
  let hd:l.Ν (j+1)=r:=by rw[<- List.drop_drop,H];rfl
  let z:=zS l j
  rw[hd]at z
  let o:=Kw [.r j,a] h.tp
  let F:S.a<Az:=GY h.ln (BQ (show n<100000 by lia) (by ext))
  let L:Df (.O [.r j,aD a])=Z (.O [.r j,a]):=Nm (.O [.r j,a])
  let ne:CL (Ah r) (Ah r)=Z (.bl O'):=by rw[i4];simp
  obtain⟨t,h1,C⟩:∃t,Sn ls t (n+1)/\N5 [s0,.χ (Zc S) .d,f,.u (Ah l),‹j›,.u (aD a),g]=.β [s0,.χ (Zc t) .d,f,.u (Ah l),‹j›,.u (aD a),.u (Ah r)]:=by
   cases e:Zl S (.O [.r j,a])with
   |some d=>
    let(N,E,C,rfl):=h.sy j a d e
    rw[hg.fn N E l u j a C R,hd]at e
    apply#[S,#[h.tp,LU h.ln,h.sy],?_]
    generalize Ah l=A,Ah r=B at *
    rwa[N5,Dw,Dn,z,Nn,IM,EO,Z1,L,o,F,e,ne,Px]
   |none=>
    apply#[ZQ S (.O [.r j,a]) (Ah r),#[λq G=>?_,BX (LP _ _ _) (Ld h.ln),λi b d p=>?_],?_]
    .rcases SR G with G|rfl
     .show h.tp q G
     .rfl
    .rw[HW]at p
     by_cases c:(KT.O [.r j,a])=.O [.r i,b]
     .rw[if_pos c]at p
      simp at c
      let(c,rfl):=c
      obtain rfl:j=i:=∅
      show#[l,u,R,by rw[hd];show(Fc p).Ρ]
     .rw[if_neg c]at p;show h.sy i b d p
    .generalize Ah l=A,Ah r=B at *
     rwa[N5,Dw,Dn,z,Nn,IM,EO,Z1,L,o,F,e,ne,Px]
  let(s,K,Q,T,h2,P):=jJ u s0 f r (j+1) t (n+1) ‹j› (.u (aD a)) (.u (Ah r)) hd h1 ∅
  apply#[s,K,Q,T,?_,?_]
  .rw[Cb,Nat.add_comm r.a 1,<- Nat.add_assoc];show h2
  .rw[AT,ZR,ZE,show ZC 2 (Zf (Zb 4) (Zf (Zb 5) ZD)) (.O [.r j,aD a]) [s0,.χ (Zc S) .d,f,.u (Ah l),k,m,g]=Z [s0,.χ (Zc S) .d,f,.u (Ah l),‹j›,.u (aD a),g]from rfl]
   erw[C]
   show P
def
jK{W:U D}{l0:U At}(u:Ap (.U W) (.r 0)=Z (Ah l0))(w:l0.a=p):∀(i pre:BB)(S F:Bd)(n:Y)(m b f g:Sl),ls=pre++i->Sn ls S n->n+4*i.a<=1000->(∀q∈F,ES q.1=J')->F.a+i.a<=1000->(∀a,(Zl F (.at a)).μ=J'->a∈pre.j hd)->∃ρ,ZE (Zb 3) Qy (i.j Ah) [#v[W],.χ (Zc S) .d,.χ (Zc F) .d,m,b,f,g]=.β ρ
 |[],_,S,F,n,m,b,f,g,_,_,_,_,_,_=>#[_,rfl]
 |l::i,pre,S,F,n,m,b,f,g,o,h,H,x,X,y=>by
  rw[Cb]at H X
  let z:l∈ls:=by rw[o];simp
  let len:=hg.Ϫ l z
  let p4:=hg.p4
  let p1:=hg.p1
  let l1:ZA [Ah l]=Z (.r p):=by simp[Ah,len]
  let K:ZA [Ah l0]=Z (.r p):=by simp[Ah,w]
  let L:CL (.r p) (.r p)=Z (.bl O'):=by simp
  let M:Ap (Ah l) (.r 0)=Z (aD (hd l)):=by
   cases l with
   |nil=>simp at len;lia
   |cons a r=>show Ev (j:=0) rfl
  let N:Zl F (.at (hd l))=J:=by
   cases e:Zl F (.at (hd l))with
   |none=>rfl
   |some d=>
    let h1:=y (hd l) (by rw[e];rfl)
    let h2:=hg.hdn
    rw[o,De,Nk]at h2
    show absurd rfl (h2.2.2 _ h1 _ (by simp))
  let k:=Gs (hd l) x
  let di:Dp O' (aD (hd l)) (.U (Zc F) .d)=Z (.bl O'):=by
   rw[Kv,Hw]
   erw[DG,k,if_true,N];rfl
  let P:F.a<Az:=BQ (show F.a<100000 by lia) (by ext)
  let(B,C,E,G,h2,Q):=jJ hg z #v[W] (.χ (Zc (ZQ F (.at (hd l)) (.bl J'))) .d) l 0 S n b f g rfl h ∅
  let(ρ,T):=jK u w i (pre++[l]) B (ZQ F (.at (hd l)) (.bl J')) (n+l.a) (.u (Ah l)) C E G (by rw[o];simp) h2 ∅ (λq s=>by
   rcases SR s with s|rfl
   .show x q s
   .rfl) (by have:=LP F (.at (hd l)) (.bl J');lia) λa t=>by
   rw[HW]at t
   by_cases c:(KT.at (hd l))=.at a
   .cases c;simp
   .rw[if_neg c]at t
    rw[De]
    show Jg _ (y a t)
  apply#[ρ,?_]
  let R:ZX (Ah l)=Z (l.j aD):=rfl
  let ok:=Hw (hd l)
  let Y':Qy [#v[W],.χ (Zc S) .d,.χ (Zc F) .d,.u (Ah l),b,f,g]=.β [#v[W],.χ (Zc B) .d,.χ (Zc (ZQ F (.at (hd l)) (.bl J'))) .d,.u (Ah l),C,E,G]:=by
   generalize Ah l=A,aD (hd l)=V,l.j aD=LA at *
   rwa[Qy,l1,u,K,L,M,di,HV,EO,Z1,ok,k,P,ZN,EX,R,Q]
  rw[AT,ZE,show Zb 3 (Ah l) [#v[W],.χ (Zc S) .d,.χ (Zc F) .d,m,b,f,g]=Z [#v[W],.χ (Zc S) .d,.χ (Zc F) .d,.u (Ah l),b,f,g]from rfl]
  erw[Y']
  show T
def
GL.go:Qz [.u (LD ls)]=Z (.u (.bl J')):=by
 let n1:=hg.n1
 let n6:=hg.n6
 obtain⟨a,r,rfl⟩:∃a r,ls=a::r:=by
  cases ls with
  |nil=>simp at n1
  |cons l r=>show#[l,r,rfl]
 let c:=Zv (b:=Zb 0) (e:=UX) (ρ:=[.no]) Ah (λ_=>D.bl J') (a::r) λl f=>#[[.u (Ah l)],rfl,by
  have:=zT (hg.ln l f)
  rwa[UX,this]]
 rw[show(a::r).j (λ_=>D.bl J')=((a::r).j λ_=>J').j D.bl by rw[B4];rfl]at c
 let g:=KZ (a::r)
 let q:=Zq ((a::r).j Ah) (by rw[Bu];lia)
 let(d,e):=jK hg (W:=(a::r).j Ah) (l0:=a) (Ev (j:=0) rfl) (hg.Ϫ a A6) (a::r) [] [] [] 0 .no .no .no .no rfl #[λ_ h=>(nomatch h),A9 _,λ_ _ _ h=>by cases h] ∅ (λ_ h=>(nomatch h)) (by rw[IB];lia) λ_ h=>by ext h
 rw[show Zc []=[]from rfl]at e
 change Qz [#v[(a::r).j Ah]]=_
 generalize (a::r).j Ah=W,((a::r).j λ_=>J').j D.bl=k at *
 apply Zp rfl ?_
 change UY [#v[W],.no,.no,.no,.no,.no,.no]=_
 rwa[UY,e5,eQ,Zi,q,show ∀i,Zr 1 [] i=[.no]from λ_=>rfl,c,g,show ZJ (Z (.bl J'))=Z J' from rfl,eZ,eS,Ea,eY,eT,eX,eU,ZN,e,eW,eV]
def
GL.il:U7 [.u (LD ls)]=Z (.u (.bl J')):=by
 let n1:=hg.n1
 let n6:=hg.n6
 let b:ZA [LD ls]=Z (.r ls.a):=by simp
 let c:FE (.r ls.a) (.r 1)=Z (.bl O'):=by
  change Z (D.bl (decide ((ls.a:W')<1)))=_
  rw[decide_eq_false ∅]
 let d:Fm (.r ls.a) (.r 40)=Z (.bl O'):=by
  change Z (D.bl (decide ((40:W')<(ls.a:W'))))=_
  rw[decide_eq_false ∅]
 let a:=hg.go
 let i:=show B5 [LD ls,.ty "list"]=Z (.bl J')from rfl
 generalize LD ls=W at *
 apply Zp rfl ?_
 change U6 [.u W]=_
 rwa[U6,i,show ZJ (Z (.bl J'))=Z J' from rfl,b,c,d,a]
end
def
Bv.al{a:AM}(h:Bv a):Ve [#v[a.j LD]]=Z (.u (.bl J')):=by
 let n1:=h.n1
 let n4:=h.n4
 let d:=Zv (b:=Zb 0) (e:=Vc) (ρ:=[.no]) LD (λ_=>D.bl J') a λf c=>#[[.u (LD f)],rfl,by
  let(p,g):=h.v0 f c
  rwa[Vc,g.il]]
 rw[show a.j (λ_=>D.bl J')=(a.j λ_=>J').j D.bl by rw[B4];rfl]at d
 let i:=KZ a
 let q:=Zq (a.j LD) (by rw[Bu];lia)
 let c:ZA [.U (a.j LD)]=Z (.r a.a):=by simp
 let j:FE (.r a.a) (.r 1)=Z (.bl O'):=by
  change Z (D.bl (decide ((a.a:W')<1)))=_
  rw[decide_eq_false ∅]
 let k:Fm (.r a.a) (.r 4)=Z (.bl O'):=by
  change Z (D.bl (decide ((4:W')<(a.a:W'))))=_
  rw[decide_eq_false ∅]
 apply Zp rfl ?_
 generalize a.j LD=W,(a.j λ_=>J').j D.bl=n at *
 change Vd [#v[W]]=_
 rwa[Vd,show B5 [.lst W,.ty "list"]=Z (.bl J')from rfl,show ZJ (Z (.bl J'))=Z J' from rfl,c,j,k,Zi,q,show ∀l,Zr 1 [] l=[.no]from λ_=>rfl,d,i]
abbrev A7:=U At×W'×U W'
def Zj(acc:U A7):BB:=acc.j (·.1)
def ZH:U A7->U At->O (W'×U W')
 |[],_=>J
 |e::r,k=>if e.1=k then Z e.2 else ZH r k
def CW:U A7->U At->W'->U A7
 |[],k,x=>[(k,x,[])]
 |e::r,k,x=>if e.1=k then(e.1,e.2.1,e.2.2++[x])::r else e::CW r k x
def ZM(v:W'×U W'->D)(e:A7):KT×D:=(.O e.1,v e.2)
def
Cg{k:U At}:∀{acc:U A7},ZH acc k=J↔k∉Zj acc
 |[]=>by simp[ZH,Zj]
 |e::r=>by
  let a:=Cg (k:=k) (acc:=r)
  grind [ZH,Zj]
def
Ii(v:W'×U W'->D)(k:U At):∀acc:U A7,Zl (acc.j (ZM v)) (.O k)=(ZH acc k).j v
 |[]=>rfl
 |e::r=>by
  let a:=Ii v k r
  erw[AT,Zl,ZH,ZM,KT.tup.injEq]
  grind
def
WZ{k:KT}{w:D}:∀{kvs:Bd},Zl kvs k=J->Ep kvs k w=kvs
 |[],_=>rfl
 |p::r,h=>by
  unfold Zl at h
  by_cases e:p.1=k
  .rw[if_pos e]at h;ext h
  .rw[if_neg e]at h
   unfold Ep
   rw[if_neg e,WZ h]
def
jN(v:W'×U W'->D){k:U At}{x:W'}{p:W'×U W'}:∀{acc:U A7},(Zj acc).ι->ZH acc k=Z p->Ep (acc.j (ZM v)) (.O k) (v (p.1,p.2++[x]))=(CW acc k x).j (ZM v)
 |e::r,a,h=>by
  erw[Zj,AT,FA]at a
  unfold ZH at h
  by_cases c:e.1=k
  .rw[if_pos c]at h;ext h
   let b:Zl (r.j (ZM v)) (.O k)=J:=by
    rw[Ii,Cg.ϡ (c ▸ a.1)];rfl
   rwa[Ep,CW,ZM,c,WZ b,KT.tup.injEq]
  .rw[if_neg c]at h
   erw[AT,Ep,CW,ZM,c,if_false,KT.tup.injEq]
   rw[jN v (x:=x) a.2 h]
def
jP{k:U At}{x:W'}:∀{acc:U A7},ZH acc k=J->CW acc k x=acc++[(k,x,[])]
 |[],_=>rfl
 |e::r,h=>by
  unfold ZH at h
  by_cases c:e.1=k
  .rw[if_pos c]at h;ext h
  .rw[if_neg c]at h
   unfold CW
   rw[if_neg c,jP h];rfl
def
zU(v:W'×U W'->D){k:U At}{x:W'}{p:W'×U W'}{acc:U A7}(a:(Zj acc).ι)(h:ZH acc k=Z p):ZQ (acc.j (ZM v)) (.O k) (v (p.1,p.2++[x]))=(CW acc k x).j (ZM v):=by
 unfold ZQ
 rw[Ii,h]
 show jN v a h
def
zV(v:W'×U W'->D){k:U At}{x:W'}{acc:U A7}(h:ZH acc k=J):ZQ (acc.j (ZM v)) (.O k) (v (x,[]))=(CW acc k x).j (ZM v):=by
 unfold ZQ
 grind [Ii,jP,ZM]
def
W0(k:U At)(x:W'):∀acc:U A7,Zj (CW acc k x)=if k∈Zj acc then Zj acc else Zj acc++[k]
 |[]=>rfl
 |e::r=>by
  let a:=W0 k x r
  grind [CW,Zj]
def
jQ{k:U At}{x:W'}{acc:U A7}(h:(Zj acc).ι):(Zj (CW acc k x)).ι:=by grind [W0]
def
jR(k:U At)(x:W'):∀acc:U A7,(CW acc k x).a<=acc.a+1
 |[]=>by simp[CW]
 |e::r=>by
  have:=jR k x r
  unfold CW
  split<;>simp<;>lia
def
jS{k k':U At}{x:W'}{acc:U A7}(h:k'∈Zj (CW acc k x)):k'=k\/k'∈Zj acc:=by grind [W0]
def J0:U A7->Y
 |[]=>0
 |e::r=>e.2.2.a+1+J0 r
def
jU(k:U At)(x:W'):∀acc:U A7,J0 (CW acc k x)=J0 acc+1
 |[]=>rfl
 |e::r=>by
  have:=jU k x r
  unfold CW
  split<;>simp[J0]<;>lia
def
W3(v:W'×U W'->D)(k:U At)(acc:U A7):DJ (.O k) (acc.j (ZM v))=J':=Kw k λp a=>by
 let(e,_,rfl):=Bc.mp a
 rfl
def
HA(l:U At):Df (Ah l)=Z (.O l):=Nm (.O l)
abbrev vL(p:W'×U W'):D:=.U ((p.1::p.2).j D.r)
abbrev vC(p:W'×U W'):D:=cel p.1 p.2
abbrev DM(v:W'×U W'->D)(acc:U A7):Sl:=.χ (Zc (acc.j (ZM v))) .d
def Ze(r:U At×W'):D:=.O [Ah r.1,.r r.2]
def Es(a:U (U At×W'))(acc:U A7):U A7:=a.Λ (λacc r=>CW acc r.1 r.2) acc
structure BC(acc:List A7)(n m:Y):V' where
 nd:(Zj acc).ι
 len:acc.a<=m
 sz:J0 acc<=m
 kl:∀k∈Zj acc,k.a=n
def
BC.add{acc:U A7}{n m:Y}(h:BC acc n m){k:U At}(b:k.a=n)(x:W'):BC (CW acc k x) n (m+1):=
 #[jQ h.nd,by have:=jR k x acc;have:=h.Ϫ;lia,by rw[jU];have:=h.sz;show Nat.add_le_add_right this 1,λd a=>by
  rcases jS a with rfl|c
  .show b
  .show h.kl _ c]
def
BC.nil(n:Y):BC [] n 0:=#[by simp[Zj],by simp,by simp[J0],λk a=>nomatch a]
def
BC.tab:∀(a:U (U At×W')){acc:U A7}{n m:Y},BC acc n m->(∀r∈a,r.1.a=n)->BC (Es a acc) n (m+a.a)
 |[],_,_,_,h,_=>h
 |r::a,acc,n,m,h,b=>by
  have:=BC.tab a (h.add (b r A6) r.2) λq c=>b q (A5 _ c)
  rw[Cb,show m+(a.a+1)=m+1+a.a by show Eq.Ρ (Nat.succ_add_eq_add_succ m a.a)]
  show this
def CY(acc:U A7):U D:=(Zx Bo (Zj acc)).j λk=>.O [Ah k,vC ((ZH acc k).B (0,[]))]
def
Q7{acc:U A7}{k:U At}(h:k∈Zx Bo (Zj acc)):∃p,ZH acc k=Z p:=by
 cases a:ZH acc k with
 |some p=>show#[p,rfl]
 |none=>show absurd ((ZB Bo (Zj acc)).Υ.mp h) (Cg.mp a)
def
jV(v:W'×U W'->D)(acc:U A7):((acc.j (ZM v)).j λp=>kD p.1)=(Zj acc).j Ah:=by
 unfold Zj
 rw[B4,B4];rfl
def
W4(v:W'×U W'->D){acc:U A7}{k:U At}{p:W'×U W'}(h:ZH acc k=Z p):C3 (.U (Zc (acc.j (ZM v))) .d) (Ah k)=Z (v p):=by simp_all [HA,W3,Ii]
abbrev LG:=U (U (U At)×Y)
def E7(q:U (U At)×Y)(a:At):At:=((q.1.find? λl=>decide (hd l=a)).B []).B q.2 .Y
def CF:LG->U At->U At
 |q::Q,a::s=>E7 q a::CF Q s
 |_,_=>[]
def Ja(q:U (U At)×Y):U (At×D):=q.1.j λl=>(hd l,aD (l.B q.2 .Y))
def E8(q:U (U At)×Y):D:=.U (Zc (Ft [] (Ja q))) .d
abbrev Ar(g:U Y):D:=.O (g.j λ(j:Y)=>D.r j)
inductive AJ:List (BB)->List At->V' where
 |nil:AJ [] []
 |cons {ls Ls a as}:a∈ls.j hd->AJ Ls as->AJ (ls::Ls) (a::as)
def
AJ.len{a:AM}{s:U At}(h:AJ a s):s.a=a.a:=by
 induction h<;>grind
def
Mp:∀{Q:LG}{s:U At},s.a=Q.a->(CF Q s).a=Q.a
 |[],_,h=>by cases(Ph.mp h);rfl
 |q::Q,a::s,h=>by erw[CF,Cb];rw[Mp (by exists h)]
 |_::_,[],h=>by simp at h
def
zW(q:U (U At)×Y)(h:∀l∈q.1,Ln l)(i:q.1.a<=1000):Qd [.u (LD q.1),‹0›,‹q.2›]=Z (.χ (Zc (Ft [] (Ja q))) .d):=by
 let(a,j):=q
 let k:=Zv (b:=Zb 0) (e:=T7) (ρ:=[.no,‹0›,‹j›]) Ah (λl=>D.O [aD (hd l),aD (l.B j .Y)]) a λl g=>#[[.u (Ah l),‹0›,‹j›],rfl,by
  let c:=JZ l j (by have:=(h l g).l4;lia)
  rwa[T7,show F9 [.val (Ah l),‹0›]=Z (.val (aD (hd l)))from(show l.getD 0 .non=hd l by ext l<;>rfl) ▸ JZ l 0 (by have:=(h l g).l4;lia),c,Ct,Zg,Mo,if_pos (show(2:Y)<=Az by ext)]]
 let f:=jz (Ja (a,j)) [] (λ_ h=>nomatch h) (by simp[Ja];lia)
 unfold Ja at f
 rw[B4]at f
 unfold Ja
 rwa[Qd,AV,Mo,dS,Nat.reduceSub,WM,Du,FG,Zi,Zg,if_pos (show(a.map Ah).length<=Az by rw[Bu];show BX i (by ext)),Zr,List.replicate_succ,Kj,EZ,M7,k,show EV [] (a.map λl=>D.tup [aD (hd l),aD (l.getD j .non)])=Z (Ft [] (a.map λl=>(hd l,aD (l.getD j .non))))from f,HM]
def
zX(n k:Y)(a:k<n)(L:AM)(b:L.a=n):atI (L.j λ_=>D.r 0) (k:W')=Z (.r 0):=Ev (by rw[DF,Cc (Nat.lt_of_lt_of_eq a b.Ρ)];rfl)
def
jW(L:AM)(g:U Y):∀(Q:LG)(k:Y),(∀q∈Q,∃p,GL q.1 p)->k+Q.a<=L.a->(∀i q,Q[i]?=Z q->g[k+i]?=Z q.2)->ZL (ZC 2 (Zf (Zb 0) (Zf (Zb 1) ZD))) (λ_=>Z J') Qt [.no,.no,.u (KY L),.u (Ar g)] (ZR k (Q.j λq=>LD q.1))=Z (Q.j E8)
 |[],k,_,_,_=>rfl
 |q::Q,k,h,c,d=>by
  erw[Cb]at c
  let m:=jW L g Q (k+1) (λl b=>h l (A5 _ b)) ∅ λi f e=>by
   have:=d (i+1) f (by exists e)
   grind
  let(p,a):=h q A6
  let b:=zW q a.ln (by have:=a.n6;lia)
  let hb:atI (g.j λ(j:Y)=>D.r j) (k:W')=Z (.r q.2):=Ev (by rw[DF,show g[k]?=Z q.2 from d 0 q rfl];rfl)
  let n:Qt [‹k›,.u (LD q.1),.u (KY L),.u (Ar g)]=Z (E8 q):=by
   rwa[Qt,Ap,zX L.length k (EQ c) L rfl,hb,b,Ct,E8]
  rw[AT,ZR,ZL]
  simp_all
abbrev qs(L:AM)(g:U Y):LG:=L.zip g
def
jX{L:AM}{g:U Y}(h:g.a=L.a):(qs L g).j (·.1)=L:=List.map_fst_zip (K9 h.Ρ)
def
zY{L:AM}{g:U Y}(h:g.a=L.a):(qs L g).j (λq=>LD q.1)=L.j LD:=by
 have:(qs L g).j (λq=>LD q.1)=((qs L g).j (·.1)).j LD:=by rw[B4];rfl
 grind [jX]
def
jY{L:AM}{g:U Y}{q:U (U At)×Y}(h:q∈qs L g):q.1∈L:=(MM h).1
def
zZ{L:AM}(h:Bv L){g:U Y}(a:g.a=L.a):Qu [#v[L.j LD],.u (KY L),.u (Ar g)]=Z (.χ ((qs L g).j E8)):=by
 let hd:=jW L g (qs L g) 0 (λq b=>h.v0 q.1 (jY b)) (by simp;show Nat.min_le_left (List.a L) g.a) λi q e=>by
  grind
 rw[zY a]at hd
 rwa[Qu,AV,Mo,eu,Nat.reduceSub,WM,Du,Zi,EX,show ZX (.lst (L.map LD))=Z (L.map LD)from rfl,Zg,if_pos (show(ZR 0 (L.map LD)).length<=Az by rw[Kq,Bu];show BX h.n4 (by ext)),Zr,List.replicate_succ,Kj,EZ,M7,hd,ZK]
def
ZGC{q:U (U At)×Y}(h:(q.1.j hd).ι):((Ja q).j (·.1)).ι:=by grind [Ja]
def
ZFY{q:U (U At)×Y}{a:At}(h:a∈q.1.j hd):Dp O' (aD a) (E8 q)=Z (.bl J'):=by grind [E8,zQ,Ja]
def
jZ:∀{a:BB}{l:U At},(a.j hd).ι->l∈a->a.find? (λx=>decide (hd x=hd l))=Z l
 |x::a,l,c,b=>by
  erw[AT,FA]at c
  rcases Bl.mp b with rfl|b
  .rw[List.find?_cons_of_pos (by simp)]
  .rw[List.find?_cons_of_neg (by
    erw[decide_eq_true_eq]
    intro z
    show c.1 (z ▸ Ij b))]
   show jZ c.2 b
def
Q8{q:U (U At)×Y}(a:(q.1.j hd).ι){l:U At}(h:l∈q.1):E7 q (hd l)=l.B q.2 .Y:=by simp_all [E7,jZ]
def
ZFe{q:U (U At)×Y}(b:(q.1.j hd).ι){a:At}(h:a∈q.1.j hd):C3 (E8 q) (aD a)=Z (aD (E7 q a)):=by
 let(l,c,rfl):=Bc.mp h
 rw[Q8 b c]
 show zP (ZGC b) (Bc.ϡ #[l,c,rfl])
def
j0:∀{Q:LG}{s:U At},AJ (Q.j (·.1)) s->ZL (ZC 2 (Zf (Zb 0) (Zf (Zb 1) ZD))) (λ_=>Z J') KQ [.no,.no] (Dg (λx y=>D.O [x,y]) (Q.j E8) (s.j aD))=Z ((Q.j λ_=>J').j D.bl)
 |[],_,h=>by ext h;rfl
 |q::Q,_,h=>by
  cases h with
  |@cons _ _ a e b c=>
  let d:KQ [.u (E8 q),.u (aD a)]=Z (.bl J'):=by
   have:=ZFY b
   rwa[KQ,this]
  rwa[Ot,ZL,ZC,Zf,ZD,d,j0 c]
def
j1:∀{Q:LG}{s:U At},(∀q∈Q,(q.1.j hd).ι)->AJ (Q.j (·.1)) s->ZL (ZC 2 (Zf (Zb 0) (Zf (Zb 1) ZD))) (λ_=>Z J') ZW [.no,.no] (Dg (λx y=>D.O [x,y]) (Q.j E8) (s.j aD))=Z ((CF Q s).j aD)
 |[],_,_,h=>by ext h;rfl
 |q::Q,_,b,h=>by
  cases h with
  |@cons _ _ a g c d=>
  let e:ZW [.u (E8 q),.u (aD a)]=Z (aD (E7 q a)):=by
   have:=ZFe (b q A6) c
   rwa[ZW,this]
  rwa[Ot,ZL,ZC,Zf,ZD,e,j1 (λq f=>b q (A5 _ f)) d,CF]
def
ZpL{Q:LG}{s:U At}(a:AJ (Q.j (·.1)) s)(hz:Q.a<=4):KR [#v[Q.j E8],.u (Ah s)]=Z (.u (.bl J')):=by
 let b:=j0 a
 let c:=KZ Q
 let d:=Zq (Dg (λx y=>D.O [x,y]) (Q.j E8) (s.j aD)) (by simp;lia)
 apply Zp rfl ?_
 unfold Ah
 generalize (Q.j λ_=>J').j D.bl=B,s.j aD=S,Q.j E8=L at *
 change NT [#v[L],.u (.O S)]=_
 rwa[NT,Zi,Hv,ZX,show Zr 2 [] [#v[L],.val (.tup S)]=[.no,.no]from rfl,d,b,c]
def Ds:U A7->U At->W'->U W'->U A7
 |[],k,x,a=>[(k,x,a)]
 |e::r,k,x,a=>if e.1=k then(e.1,e.2.1,e.2.2++x::a)::r else e::Ds r k x a
def
W5(k:U At)(x:W'):∀acc:U A7,CW acc k x=Ds acc k x []
 |[]=>rfl
 |e::r=>by unfold CW Ds;rw[W5 k x r]
def
W6(k:U At)(x:W')(xs:U W'):∀acc:U A7,Zj (Ds acc k x xs)=if k∈Zj acc then Zj acc else Zj acc++[k]
 |[]=>rfl
 |e::r=>by
  let b:=W6 k x xs r
  unfold Ds
  by_cases c:e.1=k
  .rw[if_pos c];simp[Zj,c]
  .rw[if_neg c]
   have:Zj (e::Ds r k x xs)=e.1::Zj (Ds r k x xs):=rfl
   let a:Zj (e::r)=e.1::Zj r:=rfl
   rw[this,b,a]
   by_cases m:k∈Zj r
   .rw[if_pos m,if_pos (A5 _ m)]
   .rw[if_neg m,if_neg (by simp[Zj,BF c]at m ⊢;show m)];rfl
def
Zvh{k:U At}{x:W'}{xs:U W'}{acc:U A7}(h:(Zj acc).ι):(Zj (Ds acc k x xs)).ι:=by
 rw[W6]
 split
 .show h
 .next m=>show Nk.ϡ #[h,by simp,λa c b hb=>by simp at hb;subst hb;show λe=>m (e ▸ c)]
def
j2(k:U At)(x:W')(xs:U W'):∀acc:U A7,(Ds acc k x xs).a<=acc.a+1
 |[]=>by simp[Ds]
 |e::r=>by
  have:=j2 k x xs r
  unfold Ds
  split<;>simp<;>lia
def
j3(v:W'×U W'->D){k:U At}{x:W'}{xs:U W'}{p:W'×U W'}:∀{acc:U A7},(Zj acc).ι->ZH acc k=Z p->Ep (acc.j (ZM v)) (.O k) (v (p.1,p.2++x::xs))=(Ds acc k x xs).j (ZM v)
 |e::r,a,h=>by
  erw[Zj,AT,FA]at a
  unfold ZH at h
  by_cases c:e.1=k
  .rw[if_pos c]at h;ext h
   let b:Zl (r.j (ZM v)) (.O k)=J:=by
    rw[Ii,Cg.ϡ (c ▸ a.1)];rfl
   erw[AT,Ep,Ds,ZM,c,if_true,WZ b,KT.tup.injEq]
  .rw[if_neg c]at h
   let d:=j3 v (x:=x) (xs:=xs) a.2 h
   erw[AT,Ep,Ds,ZM,c,if_false,KT.tup.injEq]
   rw[d]
def
j4{k:U At}{x:W'}{xs:U W'}:∀{acc:U A7},ZH acc k=J->Ds acc k x xs=acc++[(k,x,xs)]
 |[],_=>rfl
 |e::r,h=>by
  unfold ZH at h
  by_cases c:e.1=k
  .rw[if_pos c]at h;ext h
  .rw[if_neg c]at h
   unfold Ds
   rw[if_neg c,j4 h];rfl
def
ZyX(v:W'×U W'->D){k:U At}{x:W'}{xs:U W'}{p:W'×U W'}{acc:U A7}(a:(Zj acc).ι)(h:ZH acc k=Z p):ZQ (acc.j (ZM v)) (.O k) (v (p.1,p.2++x::xs))=(Ds acc k x xs).j (ZM v):=by
 unfold ZQ
 rw[Ii,h]
 show j3 v a h
def
Zyn(v:W'×U W'->D){k:U At}{x:W'}{xs:U W'}{acc:U A7}(h:ZH acc k=J):ZQ (acc.j (ZM v)) (.O k) (v (x,xs))=(Ds acc k x xs).j (ZM v):=by
 unfold ZQ
 rw[Ii,h,j4 h]
 simp[ZM]
structure FN(acc:List A7)(n m:Y):V' where
 nd:(Zj acc).ι
 len:acc.a<=m
 kl:∀k∈Zj acc,k.a=n
def
FN.add{acc:U A7}{n m:Y}(h:FN acc n m){k:U At}(c:k.a=n)(x:W')(xs:U W'):FN (Ds acc k x xs) n (m+1):=
 #[Zvh h.nd,BX (j2 k x xs acc) (Ld h.Ϫ),λb a=>by
  rw[W6]at a
  split at a
  .show h.kl b a
  .rcases EH.mp a with a|a
   .show h.kl b a
   .rw[Fw.mp a];show c]
def GB(e:A7):D:=.O [Ah e.1,vC e.2]
structure Ou(A:List D)(go:List At->jp)(th:List At->List At)(n:Y)(es:List A7):V' where
 a4:A.a<=4
 g:∀e∈es,KR [#v[A],.u (Ah e.1)]=Z (.u (.bl (go e.1)))
 t:∀e∈es,go e.1=J'->ZL (ZC 2 (Zf (Zb 0) (Zf (Zb 1) ZD))) (λ_=>Z J') ZW [.no,.no] (Dg (λx y=>D.O [x,y]) A (e.1.j aD))=Z ((th e.1).j aD)
 l:∀e∈es,go e.1=J'->(th e.1).a=n
def stM(go:U At->jp)(th:U At->U At)(acc:U A7)(e:A7):U A7:=if go e.1=J' then Ds acc (th e.1) e.2.1 e.2.2 else acc
variable {A:U D}{go:U At->jp}{n:Y}
def
Zvj{e:A7}(h:Ou A go th n [e])(b j:Sl){acc:U A7}{m:Y}(G:FN acc n m)(H:m<1000):
  ∃B,Mj [#v[A],b,DM vC acc,.u (Ah e.1),.u (vC e.2),j]=.β [#v[A],b,DM vC (stM go th acc e),.u (Ah e.1),.u (vC e.2),B]:=by
 let c:=h.g e A6
 unfold stM
 by_cases i:go e.1=J'
 .let K:=h.t e A6 i
  rw[i]at c
  rw[if_pos i]
  let Q:=Zq (Dg (λx y=>D.O [x,y]) A (e.1.j aD)) (by have:=h.a4;simp;lia)
  let P:∀x y z w,Zm Ec (λa=>Zz (Fl (Zy ((Zi 2 [] (Hv (λa=>Bp a 0) (λa=>Bp a 3)) (ZC 2 (Zf (Zb 0) (Zf (Zb 1) ZD))) (λ_=>Z J') ZW) a))) (Z [])) [#v[A],x,y,.u (Ah e.1),z,w]=Z (Ah (th e.1)):=by
   simp_all [Ah,DG,D0]
  generalize th e.1=k at *
  let l:=W3 vC k acc
  let o:(acc.j (ZM vC)).a<Az:=by rw[Bu];show GY G.Ϫ (BQ H (by ext))
  let C:=Z1 (acc.j (ZM vC))
  let q:Dp O' (Ah k) (.U (Zc (acc.j (ZM vC))) .d)=Z (.bl (ZH acc k).μ):=by
   rw[Kv,HA k]
   show(if DJ (.O k) (acc.j (ZM vC))=J' then _ else _)=_
   rw[if_pos l,Ii vC k acc,Pu]
   cases(ZH acc k).μ<;>rfl
  let f:∀d,M0 (Z (ZH acc k).μ) ((Zh NS (λa=>Zz (Fl ((Za C3 (λa=>Bh a 2) (λa=>Bh a 5)) a)) (Zz (Cp a 4) (Z [])))) [#v[A],b,DM vC acc,.u (Ah e.1),.u (vC e.2),.u (Ah k)]) (Z (vC e.2))=Z d->ZQ (acc.j (ZM vC)) (.O k) d=(Ds acc k e.2.1 e.2.2).j (ZM vC)->Mj [#v[A],b,DM vC acc,.u (Ah e.1),.u (vC e.2),j]=.β [#v[A],b,DM vC (Ds acc k e.2.1 e.2.2),.u (Ah e.1),.u (vC e.2),.u (Ah k)]:=by
   intro d F L
   unfold DM at *
   let E:=P b (.χ (Zc (acc.j (ZM vC))) .d) (.u (vC e.2)) j
   generalize acc.j (ZM vC)=u,vC e.2=r at *
   unfold Mj
   let M:ZJ ((Zh KR (λa=>Zz (Cp a 0) (Zz (Cp a 3) (Z [])))) [#v[A],b,.χ (Zc u) .d,.u (Ah e.1),.u r,j])=Z J':=by
    rwa[c,ZJ]
   erw[M,ZF,Zd,E,ZG,Ef,Eg]
   let N:Za (Dp O') (λa=>Bh a 5) (λa=>Bh a 2) [#v[A],b,.χ (Zc u) .d,.u (Ah e.1),.u r,.u (Ah k)]=Z (.bl (ZH acc k).μ):=by
    rwa[q]
   rw[N,show A2 [#v[A],b,.χ (Zc u) .d,.u (Ah e.1),.u r,.u (Ah k)] 4=Z r from rfl]
   erw[AU]
   rw[F]
   rwa[HV,EO,C,HA k,l,L,KI,decide_eq_true o]
  cases s:ZH acc k with
  |none=>
   rw[s]at f
   show#[_,f (vC e.2) rfl (Zyn vC s)]
  |some p=>
   rw[s]at f
   apply#[_,f (vC (p.1,p.2++e.2.1::e.2.2)) ?_ (ZyX vC G.nd s)]
   unfold DM
   rwa[M0,Option.isSome,W4 vC s,zO p.1 e.2.1 p.2 e.2.2]
 .rw[if_neg i]
  rw[Pm]at i
  rw[i]at c
  apply#[j,?_]
  unfold DM
  generalize Zc (acc.j (ZM vC))=u,vC e.2=r at *
  rwa[Mj,c,ZJ]
def
j5(j:Sl):∀(es acc:U A7)(m:Y)(k o i:Sl),Ou A go th n es->FN acc n m->m+es.a<1000 ->
  FN (es.Λ (stM go th) acc) n (m+es.a)/\∃p q r,ZE (ZC 2 (Zf (Zb 3) (Zf (Zb 4) ZD))) Mj (es.j GB) [#v[A],j,DM vC acc,k,o,i]=.β [#v[A],j,DM vC (es.Λ (stM go th) acc),p,q,r]
 |[],acc,m,k,o,i,_,f,_=>#[f,k,o,i,rfl]
 |e::es,acc,m,k,o,i,h,f,u=>by
  erw[Cb]at u
  let h1:Ou A go th n [e]:=#[h.a4,λx d=>h.g x (by rw[Fw.mp d];show A6),λx d=>h.t x (by rw[Fw.mp d];show A6),λx d=>h.l x (by rw[Fw.mp d];show A6)]
  let h2:Ou A go th n es:=#[h.a4,λx d=>h.g x (A5 _ d),λx d=>h.t x (A5 _ d),λx d=>h.l x (A5 _ d)]
  let(w,y):=Zvj h1 j i f (EQ u)
  let s:FN (stM go th acc e) n (m+1):=by
   unfold stM
   split
   .next c=>show f.add (h.l e A6 c) _ _
   .show#[f.nd,LU f.Ϫ,f.kl]
  let(ok,a,b,c,z):=j5 j es (stM go th acc e) (m+1) (.u (Ah e.1)) (.u (vC e.2)) w h2 s ∅
  apply#[by rw[Cb,show m+(es.a+1)=m+1+es.a by lia];show ok,a,b,c,?_]
  rwa[GB,ZE,ZC,Zf,ZD]
  rw[y]
  show z
def
j6(u:0<n)(w:n<=4){es:U A7}(h:Ou A go th n es)(m:es.a<64):Ob [#v[A],#v[es.j GB]]=Z (.χ (CY (es.Λ (stM go th) [])))/\(Zj (es.Λ (stM go th) [])).ι:=by
 let(ok,a,b,c,e):=j5 #v[es.j GB] es [] 0 .no .no .no h #[by simp[Zj],A9 _,λk i=>nomatch i] ∅
 apply#[?_,ok.nd]
 generalize es.Λ (stM go th) []=f at *
 let j:(Zj f).a<64:=by unfold Zj;rw[Bu];have:=ok.Ϫ;lia
 let o:=Q6 #v[(Zj f).j Ah] (Zj f) (.S rfl) j λl m=>by
  have:=ok.kl l m
  show#[λz=>by rw[z]at this;simp at this;lia,∅]
 rw[WS _ _ ((ZB Bo _).nodup_iff.ϡ ok.nd) (λ_ e=>by ext e),<- jV vC]at o
 let s:=Zv (b:=Zb 0) (e:=Vh) (ρ:=[.no,.jk (Zc (f.j (ZM vC))) .d]) Ah (λk=>.O [Ah k,vC ((ZH f k).B (0,[]))]) (Zx Bo (Zj f)) λk i=>#[[.u (Ah k),.jk (Zc (f.j (ZM vC))) .d],rfl,by
  let(p,q):=Q7 i
  rw[q]
  rwa[Vh,W4 vC q,Option.getD]]
 let t:=Zq ((Zx Bo (Zj f)).j Ah) (by rw[Bu,(ZB _ _).Ψ];lia)
 let g:=bN (f.j (ZM vC))
 rw[show DM vC []=.χ [] .d from rfl]at e
 unfold DM at e
 unfold CY
 apply Zp rfl ?_
 generalize es.j GB=R,f.j (ZM vC)=r,(Zx Bo (Zj f)).j Ah=W,(Zx Bo (Zj f)).j (λk=>D.O [Ah k,vC ((ZH f k).B (0,[]))])=T at *
 change Vi [#v[A],#v[R],.no,.no,.no,.no]=_
 rwa[Vi,Ea,ZN,ZK,Zi,show ∀x y z,Zr 1 [2] [#v[A],#v[R],.own (Zc r) .d,x,y,z]=[.no,.lent (Zc r) .d]from λ_ _ _=>rfl,Ez,e,g,o,DY,t,s]
end
def Q9(r:U At×W'):D:=.O [Ah r.1,cel r.2 []]
def DN(Q:LG)(a:U (U At×W')):U (U At×W'):=a.j λr=>(CF Q r.1,r.2)
def
Znt{Q:LG}(h:∀q∈Q,(q.1.j hd).ι)(i:0<Q.a)(hz:Q.a<=4)(a:U (U At×W'))(g:∀r∈a,AJ (Q.j (·.1)) r.1)(j:a.a<64):Ob [#v[Q.j E8],#v[a.j Q9]]=Z (.χ (CY (Es (DN Q a) []))):=by
 let e:=(j6 i hz (A:=Q.j E8) (go:=λ_=>J') (th:=CF Q) (es:=a.j λr=>((r.1,r.2,[]):A7)) #[by simpa using hz,λe d=>by
  let(r,f,rfl):=Bc.mp d
  show ZpL (g r f) hz,λe d _=>by
  let(r,f,rfl):=Bc.mp d
  show j1 h (g r f),λe d _=>by
  let(r,f,rfl):=Bc.mp d
  show Mp (by simpa using(g r f).Ϫ)] (by exists j)).1
 rw[B4,List.foldl_map]at e
 let k:∀(c:U (U At×W')) (b:U A7),c.Λ (λb r=>stM (λ_=>J') (CF Q) b (r.1,r.2,[])) b=Es (DN Q c) b:=by
  intro c
  induction c with
  |nil=>show λ_=>rfl
  |cons r c l=>show λb=>by rw[IG,l];change _=Es (DN Q c) (CW b (CF Q r.1) r.2);rw[W5];rfl
 rw[k]at e
 show e
def
Bv.hdn{L:AM}(h:Bv L):∀a∈L,(a.j hd).ι:=λa b=>by let(p,c):=h.v0 a b;show c.hdn
abbrev ZU(L:AM)(g:U Y)(a:U (U At×W')):U D:=CY (Es (DN (qs L g) a) [])
def
j7{c:AM}(h:Bv c){g:U Y}(d:g.a=c.a)(a:U (U At×W'))(f:∀r∈a,AJ c r.1)(i:a.a<64):QE [#v[c.j LD],#v[a.j Ze],.u (Ar g)]=Z (.χ (ZU c g a)):=by
 let n1:=h.n1
 let n4:=h.n4
 let j:=Znt (Q:=qs c g) (λq k=>h.hdn q.1 (jY k)) (by simp;lia) (by simp;lia) a (by rw[jX d];show f) i
 let l:=jm h
 let m:=zZ h d
 let n:=Zv (b:=ZC 2 (Zf (Zb 0) (Zf (Zb 1) ZD))) (e:=Vu) (ρ:=[.no,.no]) Ze Q9 a λr _=>#[[.u (Ah r.1),‹r.2›],rfl,by
  rwa[Vu,zN #v[[.int r.2]] r.2 [] (.inl rfl),Q9]]
 let o:=Zq (a.j Ze) (by rw[Bu];lia)
 unfold ZU
 generalize c.j LD=L,KY c=p,Ar g=Y',(qs c g).j E8=W,a.j Q9=C,a.j Ze=R,CY (Es (DN (qs c g) a) [])=T at *
 apply Zp rfl ?_
 change Vv [#v[L],#v[R],.u Y',.no]=_
 rwa[Vv,ZK,Zi,show Zr 2 [] [#v[L],#v[R],.val Y',.no]=[.no,.no]from rfl,DU,o,n,l,m,DY,j,Ey]
def
Ra{a:Type}[DecidableEq a]:∀(l A:U a),l.ι->(∀x∈l,x∈A)->l.a<=A.a
 |[],_,_,_=>Fz _
 |x::l,A,h,c=>by
  let(h1,h2):=FA.mp h
  let d:=Ra l (A.erase x) h2 λy b=>(List.mem_erase_of_ne (show y≠x from λe=>h1 (e ▸ b))).ϡ (c y (A5 _ b))
  grind
def
K1{c:Type}{b:D->VE->O VE}{t:VE->O jp}{e:AB}{ρ:VE}(G F:c->D)(p:c->jp):∀xs:U c,(∀x∈xs,∃a,b (G x) ρ=Z a/\t a=Z (p x)/\e a=Z (F x))->ZL b t e ρ (xs.j G)=Z ((xs.ν p).j F)
 |[],_=>rfl
 |x::xs,h=>by
  let(a,h1,h2,g):=h x A6
  let d:=K1 G F p xs λy i=>h y (A5 _ i)
  erw[AT,ZL,h1,h2]
  cases f:p x with
  |true=>rwa[g,d,Rb,f]
  |false=>erw[d,Rb,f,Fg,if_false]
abbrev KE:=U At×D
def G8(e:KE):D:=.O [Ah e.1,e.2]
def B9(es:U KE):Bd:=es.j λe=>(.O e.1,e.2)
def
Re(es:U KE):∀p∈B9 es,ES p.1=O':=λp a=>by
 let(e,_,rfl):=Bc.mp a
 rfl
def
Rf:∀(es:U KE)(k:U At),(Zl (B9 es) (.O k)).μ=decide (k∈es.j (·.1))
 |[],k=>rfl
 |e::r,k=>by
  let a:=Rf r k
  erw[B9,AT,Zl,KT.tup.injEq]at a ⊢
  grind
def
j8{es:U KE}(h:∀e∈es,AY 12 e.2=J'){k:U At}{d:D}(e:Zl (B9 es) (.O k)=Z d):AY 12 d=J':=by
 induction es with
 |nil=>cases e
 |cons x r a=>
  erw[B9,AT,Zl,KT.tup.injEq]at e
  by_cases c:x.1=k
  .grind [A6]
  .rw[if_neg c]at e;show a (λy b=>h y (A5 _ b)) e
def
Rg:∀(es a:U KE),((a++es).j (·.1)).ι->a.a+es.a<=100000->EV (B9 a) (es.j G8)=Z (B9 (a++es))
 |[],a,_,_=>by rw[Du];rfl
 |e::r,a,c,b=>by
  erw[Cb]at b
  let d:(B9 a).a<Az:=by
   unfold B9;rw[Bu]
   show BQ (show a.a<100000 by show EQ b) (by ext)
  let h:Zl (B9 a) (.O e.1)=J:=by
   have:=Rf a e.1
   let f:e.1∉a.j (·.1):=λf=>by
    grind
   simp_all
  let g:ZQ (B9 a) (.O e.1) e.2=B9 (a++[e]):=by
   unfold ZQ
   grind [B9]
  let i:=Rg r (a++[e]) (by rw[Dy];show c) (by simp;lia)
  rwa[G8,EV,HA e.1,Kw e.1 (Re a),d,g]
  simp_all
def
j9(es:U KE):((B9 es).j λp=>kD p.1)=(es.j (·.1)).j Ah:=by
 unfold B9
 rw[B4,B4];rfl
def J1(a b:U KE):BB:=Zx Bo ((a.j (·.1)).ν (λk=>!Ba ((Zl (B9 b) (.O k)).B .Y) ((Zl (B9 a) (.O k)).B .Y))++(b.j (·.1)).ν λk=>!decide (k∈a.j (·.1)))
def
ZGH(c f:U KE)(n1:(c.j (·.1)).ι)(n2:(f.j (·.1)).ι)(M:∀e∈c,AY 12 e.2=J')(N:∀e∈f,AY 12 e.2=J')(A:BB)(a1:∀e∈c,e.1∈A)(a2:∀e∈f,e.1∈A)(F:A.a<64)(g:∀k∈A,k≠[]/\k.a<=1000):QC [#v[c.j G8],#v[f.j G8]]=Z (.χ ((J1 c f).j Ah))/\(J1 c f).a<64:=by
 let b1:=Ra _ A n1 λk g=>by let(e,n,rfl):=Bc.mp g;show a1 e n
 let b2:=Ra _ A n2 λk g=>by let(e,n,rfl):=Bc.mp g;show a2 e n
 rw[Bu]at b1 b2
 let w:=Rg c [] (by exists n1) (by simp;lia)
 let y:=Rg f [] (by exists n2) (by simp;lia)
 rw[EZ]at w y
 unfold J1
 generalize K:(λk:U At=>!Ba ((Zl (B9 f) (.O k)).B .Y) ((Zl (B9 c) (.O k)).B .Y))=p,q:(λk:U At=>!decide (k∈c.j (·.1)))=r
 let Q:=K1 (b:=Zb 0) (t:=Vj) (e:=fH) (ρ:=[.no,.jk (Zc (B9 f)) .d,.u (.U (Zc (B9 c)) .d)]) Ah Ah p (c.j (·.1)) λk g=>#[[.u (Ah k),.jk (Zc (B9 f)) .d,.u (.U (Zc (B9 c)) .d)],rfl,by
  let h2:DJ (.O k) (B9 f)=J':=Kw k (Re f)
  let(d,hd):=RV.mp (show(Zl (B9 c) (.O k)).μ=J' by rw[Rf c,decide_eq_true g])
  let z:=(λk d=>j8 M (k:=k) (d:=d)) k d hd
  let B:AY 12 ((Zl (B9 f) (.O k)).B .Y)=J':=by
   cases P:Zl (B9 f) (.O k)with
   |none=>rfl
   |some x=>show(λk d=>j8 N (k:=k) (d:=d)) k x P
  let C:NA (.U (Zc (B9 f)) .d) (Ah k)=Z ((Zl (B9 f) (.O k)).B .Y):=by
   erw[NA,Z1,HA k,h2,if_true]
  let Y':C3 (.U (Zc (B9 c)) .d) (Ah k)=Z d:=by
   rw[Pw,HA k];rwa[Kw k (Re c),hd]
  rw[show p k=!Ba ((Zl (B9 f) (.O k)).B .Y) d by rw[<- K];dsimp only;rw[hd];rfl]
  apply#[?_,rfl]
  rwa[Vj,C,Y',CL,FL,z,B]]
 let c2:=K1 (b:=Zb 0) (t:=Vk) (e:=fI) (ρ:=[.no,.u (.U (Zc (B9 c)) .d)]) Ah Ah r (f.j (·.1)) λk g=>#[[.u (Ah k),.u (.U (Zc (B9 c)) .d)],rfl,by
  apply#[?_,rfl]
  let C:Dp J' (Ah k) (.U (Zc (B9 c)) .d)=Z (.bl (r k)):=by
   rw[Kv,HA k]
   rwa[Kw k (Re c),Rf c]
   rw[Bool.true_bne,<- q]
  rwa[Vk,C]]
 let i:((c.j (·.1)).ν p++(f.j (·.1)).ν r).ι:=Nk.ϡ #[n1.sublist List.filter_sublist,n2.sublist List.filter_sublist,λa E b hb e=>by
  subst e
  let h2:=(Iu.mp hb).2
  rw[<- q]at h2
  erw[decide_eq_true ((Iu.mp E).1)]at h2
  cases h2]
 let j:∀k∈(c.j (·.1)).ν p++(f.j (·.1)).ν r,k∈A:=λk g=>by
  rcases EH.mp g with h|h
  .show(show ∀k∈c.j (·.1),k∈A from λk g=>by let(e,n,rfl):=Bc.mp g;show a1 e n) k (Iu.mp h).1
  .show(show ∀k∈f.j (·.1),k∈A from λk g=>by let(e,n,rfl):=Bc.mp g;show a2 e n) k (Iu.mp h).1
 let m:=Ra _ A i j
 let l1:((c.j (·.1)).ν p).a<=c.a:=BX (Mq _ _) (by rw[Bu];show A9 _)
 let l2:((f.j (·.1)).ν r).a<=f.a:=BX (Mq _ _) (by rw[Bu];show A9 _)
 generalize (f.j (·.1)).ν r=s,(c.j (·.1)).ν p=o at *
 let L:=Q6 #v[(o++s).j Ah] (o++s) (.S rfl) (GY m F) λl hl=>g l (j l hl)
 rw[WS _ _ ((ZB Bo _).nodup_iff.ϡ i) λ_ h=>by cases h]at L
 apply#[?_,by rw[(ZB Bo _).Ψ];show GY m F]
 generalize Zx Bo (o++s)=R at *
 let E:Zw (.U (o.j Ah)) (.U (s.j Ah))=Z (.U ((o++s).j Ah)):=by
  rw[KO _ _ (by simp;lia),De]
 let s1:=Zq ((c.j (·.1)).j Ah) (by simp;lia)
 let s2:=Zq ((f.j (·.1)).j Ah) (by simp;lia)
 let z:Gu (.U (Zc (B9 c)) .d)=Z ((c.j (·.1)).j Ah):=by erw[Gu,Z1,D0,j9 c]
 let B:Gu (.U (Zc (B9 f)) .d)=Z ((f.j (·.1)).j Ah):=by erw[Gu,Z1,D0,j9 f]
 rw[show B9 []=[]from rfl]at w y
 generalize f.j G8=G,c.j G8=H,B9 f=S,B9 c=u,(f.j (·.1)).j Ah=W2,(c.j (·.1)).j Ah=W1 at *
 apply Zp rfl ?_
 change Vl [#v[H],#v[G],.no,.no,.no]=_
 rwa[Vl,fQ,fP,fO,fN,fJ,FG,w,Ea,fK,y,fL,NG,O9,Zi,show Zr 1 [3,2] [#v[H],#v[G],.val (.lst (Zc u) .d),.own (Zc S) .d,.no]=[.no,.lent (Zc S) .d,.val (.lst (Zc u) .d)]from rfl,z,s1,Q,Z4,fM,show Zr 1 [2] [#v[H],#v[G],.val (.lst (Zc u) .d),.val (.lst (Zc S) .d),.own (o.map Ah)]=[.no,.val (.lst (Zc u) .d)]from rfl,B,s2,c2,E,DU,L,Ey,ZK]
def E9(acc:U A7):U KE:=(Zx Bo (Zj acc)).j λk=>(k,vC ((ZH acc k).B (0,[])))
def
ka(acc:U A7):CY acc=(E9 acc).j G8:=by
 unfold CY E9
 rw[B4];rfl
def
Rh(acc:U A7):(E9 acc).j (·.1)=Zx Bo (Zj acc):=by
 unfold E9
 rw[B4]
 show List.map_id _
def
kf(acc:U A7):∀e∈E9 acc,AY 12 e.2=J':=λe a=>by
 let(k,_,rfl):=Bc.mp a
 rfl
def
ZCI(c:U At)(f:c.a<64):∃zs:U D,Oa [#v[c.j aD]]=Z (.χ zs)/\(0<zs.a↔c≠[])/\zs.a<64:=by
 let i:=Zv (b:=Zb 0) (e:=Vf) (ρ:=[.no]) aD (λa=>Ah [a]) c λa _=>#[[.u (aD a)],rfl,by
  rfl]
 rw[show c.j (λa=>Ah [a])=(c.j λa=>[a]).j Ah by rw[B4];rfl]at i
 let m:=Q6 #v[(c.j λa=>[a]).j Ah] (c.j λa=>[a]) (.S rfl) (by exists f) λl f=>by
  let(a,_,rfl):=Bc.mp f
  show#[by simp,by simp]
 let n:∀k∈Dh J (Zx Bo (c.j λa=>[a])),∃a,k=[a]:=λk g=>by
  have:=(ZB Bo _).Υ.mp ((WV _ k).mp g)
  let(a,_,rfl):=Bc.mp this
  show#[a,rfl]
 let d:0<(Dh J (Zx Bo (c.j λa=>[a]))).a↔c≠[]:=by
  cases c with
  |nil=>simp[Zx,Dh]
  |cons a r=>show#[λ_=>by simp,λ_=>List.length_pos_of_mem ((WV _ [a]).ϡ ((ZB Bo _).Υ.ϡ (Bc.ϡ #[a,A6,rfl])))]
 let h:(Dh J (Zx Bo (c.j λa=>[a]))).a<64:=GY (Q3 _ _) (by rw[(ZB Bo _).Ψ,Bu];show f)
 generalize Dh J (Zx Bo (c.j λa=>[a]))=j at *
 let o:=Zv (b:=Zb 0) (e:=Vg) (ρ:=[.no]) Ah (λk=>aD (hd k)) j λk g=>#[[.u (Ah k)],rfl,by
  let(a,rfl):=n k g
  rfl]
 let p:=Zq (c.j aD) (by simp;lia)
 let q:=Zq (j.j Ah) (by simp;lia)
 apply#[j.j λk=>aD (hd k),?_,by simpa using d,by exists h]
 generalize c.j aD=M,(c.j λa=>[a]).j Ah=V,j.j Ah=W,(j.j λk=>aD (hd k))=Y' at *
 apply Zp rfl ?_
 change N9 [#v[M]]=_
 rwa[N9,Zi,show Zr 1 [] [#v[M]]=[.no]from rfl,p,i,m,DY,q,o,ZK]
def
ZCT{l:U At}(h:Ln l)(j:Y):F9 [.u (Ah l),‹j›]=Z (.u (aD (l.B j .Y))):=JZ l j (by have:=h.l4;lia)
def
J2{l:U At}(h:Ln l):Ap (Ah l) (.r 0)=Z (aD (hd l)):=by
 let h1:=h.l1
 cases l with
 |nil=>simp at h1
 |cons a r=>show jF (aD a) (r.j aD)
def
ZDu{l:U At}(h:Ln l):hd l∈l:=by
 let h1:=h.l1
 cases l with
 |nil=>simp at h1
 |cons a r=>show A6
def
kg{c:BB}{p:Y}(f:GL c p)(j:Y)(a:At)(d:Sm (aD a)/\(JV (aD a)=J'\/a=.Y)):Od [.u (LD c),‹j›,.u (aD a)]=Z (.u (.bl (decide (∃l∈c,l.B j .Y=a)))):=by
 let n:=K1 (b:=Zb 0) (t:=Vm) (e:=Vn) (ρ:=[.no,‹j›,.u (aD a)]) Ah (λl=>aD (hd l)) (λl=>decide (l.B j .Y=a)) c λl o=>#[[.u (Ah l),‹j›,.u (aD a)],rfl,by
  apply#[?_,?_]
  .rwa[Vm,ZCT (f.ln l o) j,Ce,FL,Ig,Mn]
  .rwa[Vn,J2 (f.ln l o)]]
 rw[show(c.ν λl=>decide (l.B j .Y=a)).j (λl=>aD (hd l))=((c.ν λl=>decide (l.B j .Y=a)).j hd).j aD by rw[B4];rfl]at n
 let(g,q,i,r):=ZCI ((c.ν λl=>decide (l.B j .Y=a)).j hd) (by
  rw[Bu]
  have:=Mq (λl=>decide (l.B j .Y=a)) c
  have:=f.n6
  lia)
 let k:(c.ν λl=>decide (l.B j .Y=a)).j hd≠[]↔∃l∈c,l.B j .Y=a:=by
  simp
 rw[k]at i
 let s:=Zq (c.j Ah) (by rw[Bu];have:=f.n6;lia)
 let hb:Vp [.u (LD c),‹j›,.u (aD a)]=Z (.χ g):=by
  apply Zp rfl ?_
  change Vo [.u (LD c),‹j›,.u (aD a)]=_
  let m:Eo (ZP (DS (Z (aD a)))) (Z (!(Fs (aD a)||BP (aD a))))=Z O':=by
   rcases d.2 with h|rfl
   .rw[show(Fs (aD a)||BP (aD a))=J' from h];ext a<;>rfl
   .rfl
  rwa[Vo,WF (aD a) d.1,show ZJ (Z (.bl (Fs (aD a)||BP (aD a))))=Z (Fs (aD a)||BP (aD a))from rfl]at *
  rwa[m,DU,Zi,show Zr 1 [1,2] [.val (LD c),‹j›,.val (aD a)]=[.no,‹j›,.val (aD a)]from rfl,s,n,q,Ey,ZK]
 apply Zp rfl ?_
 change Vz [.u (LD c),‹j›,.u (aD a)]=_
 rwa[Vz,hb,DY,show ZA [.lst g]=Z (.int g.length)from rfl,Fm,i2,show decide ((0:W')<(g.length:W'))=decide (∃l∈c,l.getD j .non=a)from decide_eq_decide.mpr #[λh=>i.mp (Int.natCast_pos.mp h),λh=>by have:=i.mpr h;show Int.natCast_pos.mpr this]]
def
ZEN{e:BB}{p:Y}(f:GL e p){a:At}(g:a∈e.j hd):Od [.u (LD e),‹0›,.u (aD a)]=Z (.u (.bl J')):=by
 let(c,b,rfl):=Bc.mp g
 let d:=f.u c b (hd c) (ZDu (f.ln c b))
 have:=kg f 0 (hd c) #[d.2,.S d.1]
 rw[decide_eq_true #[c,b,by ext c<;>rfl]]at this
 show this
def
ZzG{L:AM}{s:U At}(h:∀b∈L,∃p,GL b p)(c:AJ L s):ZL (ZC 2 (Zf (Zb 0) (Zf (Zb 1) ZD))) (λ_=>Z J') QH [.no,.no] (Dg (λx y=>D.O [x,y]) (L.j LD) (s.j aD))=Z ((L.j λ_=>J').j D.bl):=by
 induction c with
 |nil=>rfl
 |@cons b j a k d l e=>
  let(p,f):=h b A6
  let g:QH [.u (LD b),.u (aD a)]=Z (.bl J'):=by
   have:=ZEN f d
   rwa[QH,this]
  rwa[Ot,ZL,ZC,Zf,ZD,g,e λb i=>h b (A5 _ i)]
def
ZB3{L:AM}(h:Bv L){s:U At}(c:AJ L s):VR [#v[L.j LD],.u (Ah s)]=Z (.u (.bl J')):=by
 let d:=ZzG h.v0 c
 let e:=KZ L
 let j:=h.n4
 let f:=Zq (Dg (λx y=>D.O [x,y]) (L.j LD) (s.j aD)) (by simp;lia)
 let g:B5 [.O (s.j aD),.ty "tuple"]=Z (.bl J'):=rfl
 let l1:ZA [.O (s.j aD)]=Z (.r ((s.j aD).a:W')):=rfl
 let i:ZA [.U (L.j LD)]=Z (.r ((L.j LD).a:W')):=rfl
 let a:CL (.r ((s.j aD).a:W')) (.r ((L.j LD).a:W'))=Z (.bl O'):=by rw[show(s.j aD).a=(L.j LD).a by simp[c.len]];simp
 apply Zp rfl ?_
 unfold Ah
 generalize (L.j λ_=>J').j D.bl=B,s.j aD=S,(L.j LD)=k at *
 change VQ [#v[k],.u (.O S)]=_
 rwa[VQ,g,show ∀b,ZJ (Z (.bl b))=Z b from λ_=>rfl,l1,i,a,Zi,Hv,ZX,show Zr 2 [] [#v[k],.val (.tup S)]=[.no,.no]from rfl,f,d,e]
abbrev Row:=U At×W'
abbrev Fa:=jp×Row
def HB(b:jp):D:=if b then .Α "+" else .Α "-"
def C7(c:Fa):D:=.O [HB c.1,Ah c.2.1,.r c.2.2]
def
ZGz:¬ ("+":Ae)="-":=by symm
def
kh:¬ ("-":Ae)="+":=by symm
def
ZHw(b:jp):CL (HB b) (.Α "+")=Z (.bl (!b)):=by ext b<;>simp[HB,kh]
def
ZHt(b:jp):CL (HB b) (.Α "-")=Z (.bl b):=by ext b<;>simp[HB,ZGz]
def
ki(b:jp):Ce (HB b) (.Α "+")=Z (.bl b):=by ext b<;>simp[HB,kh]
def
ZD7{L:AM}(h:Bv L)(c:Fa)(f:AJ L c.2.1):VY [#v[L.j LD],.u (C7 c)]=Z (.u (.bl J')):=by
 let g:=ZB3 h f
 let a:=QU (.r c.2.2) trivial
 let i:B5 [C7 c,.ty "tuple"]=Z (.bl J'):=rfl
 let l1:ZA [C7 c]=Z (.r 3):=rfl
 let j:Ap (C7 c) (.r 0)=Z (HB c.1):=rfl
 let d:Ap (C7 c) (.r 1)=Z (Ah c.2.1):=rfl
 let e:Ap (C7 c) (.r 2)=Z (.r c.2.2):=rfl
 rw[show Fs (.r c.2.2)=J' from rfl]at a
 generalize C7 c=C,L.j LD=k at *
 apply Zp rfl ?_
 change VX [#v[k],.u C]=_
 unfold VX
 rwa[i,show ∀b,ZJ (Z (.bl b))=Z b from λ_=>rfl,l1,show CL (.int 3) (.int 3)=Z (.bl O')from rfl,j,d,e,ZHw,ZHt]
 cases c.1<;>rwa[d,e,g,a]
def CG(r s:Row):jp:=if r.1=s.1 then decide (r.2<s.2)else Bo r.1 s.1
def
ZHq:TO CG:={
 asym:=λa b h=>by
  unfold CG at h ⊢
  by_cases e:a.1=b.1
  .rw[if_pos e]at h;rw[if_pos e.Ρ];simp at h ⊢;show Int.Ϸ h
  .rw[if_neg e]at h;rw[if_neg (λz=>e z.Ρ)];show DL.asym _ _ h
 neg:=λa b c h=>by
  unfold CG at h ⊢
  by_cases f:a.1=b.1
  .rw[if_pos f]
   by_cases d:b.1=c.1
   .rw[if_pos d];rw[if_pos (f.J d)]at h;simp at h ⊢;lia
   .rw[if_neg d];rw[if_neg (λz=>d (f.Ρ.J z)),f]at h;show .τ h
  .rw[if_neg f]
   by_cases d:b.1=c.1
   .rw[if_neg (λz=>f (z.J d.Ρ)),<- d]at h;show .S h
   .rw[if_neg d]
    by_cases g:a.1=c.1
    .cases h1:Bo a.1 b.1 with
     |true=>show .S rfl
     |false=>
      cases h2:Bo b.1 a.1 with
      |true=>rw[g]at h2;show .τ h2
      |false=>show absurd (DL.anti _ _ h1 h2) f
    .rw[if_neg g]at h;show DL.neg _ _ _ h
 anti:=λa b h1 h2=>by
  unfold CG at h1 h2
  by_cases e:a.1=b.1
  .rw[if_pos e]at h1;rw[if_pos e.Ρ]at h2
   simp at h1 h2
   show Prod.ext e (Int.le_antisymm h2 h1)
  .rw[if_neg e]at h1;rw[if_neg (λz=>e z.Ρ)]at h2;show absurd (DL.anti _ _ h1 h2) e}
def Ov(r:Row):D:=.O [.O (r.1.j C6),.r r.2]
def
Zsx(r:Row)(h:r.1.a<=1000):QA [.u (Ze r)]=Z (.u (Ov r)):=by
 apply Zp rfl ?_
 change U3 [.u (Ze r)]=_
 unfold Ov
 rwa[U3,show Ap (Ze r) (.int 0)=Z (Ah r.1)from rfl,show Ap (Ze r) (.int 1)=Z (.int r.2)from rfl,jI r.1 h]
def
kj:∀a b:U At,C0 (a.j C6) (b.j C6)=decide (a=b)
 |[],[]=>by simp
 |[],_::_=>by simp
 |_::_,[]=>by simp
 |x::a,y::b=>by
  simp[jt,kj a b]
def
ZCz(r s:Row):ltN 6 (Ov r) (Ov s)=Z (CG r s):=by
 let h1:AY 12 (.O (r.1.j C6))=J':=by
  show(r.1.j C6).ϔ (AY 11)=J'
  grind [Q2]
 let h2:AY 12 (.O (s.1.j C6))=J':=by
  show(s.1.j C6).ϔ (AY 11)=J'
  rw[GX,Dc];show λa _=>Q2 10 a
 let c:Ba (.O (r.1.j C6)) (.O (s.1.j C6))=decide (r.1=s.1):=by
  rw[<- kj];rfl
 change Fn (ltN 5) [.O (r.1.j C6),.r r.2] [.O (s.1.j C6),.r s.2]=_
 unfold CG
 rwa[Fn,FL,h1,h2,c,show ltN 5 (.tup (r.1.map C6)) (.tup (s.1.map C6))=Z (Bo r.1 s.1)from(WW 2 r.1 s.1),decide_eq_true_eq,AY]
 by_cases e:r.1=s.1
 .rw[if_pos e,if_pos e]
  by_cases b:r.2=s.2
  .simp[b]
  .simp[b]
 .rw[if_neg e,if_neg e]
def
ZvH(rs:U Row)(a:rs.a<64)(b:∀r∈rs,r.1.a<=1000):EU QA (rs.j Ze)=Z ((Zx CG rs).j Ze):=
 WR Ze ZHq O' rs a Ov (λr h=>Zsx r (b r h)) (λr _=>#[_,_,rfl]) (λr _ s _=>ZCz r s)
abbrev wh(a:BB):Y:=(a.headD []).a
def Gb(p:Y):D->jp
 |.int i=>decide (0<=i)&&decide (i<=(p:W'))
 |_=>O'
def
GL.wh{a:BB}{p:Y}(h:GL a p):wh a=p:=by
 let h1:=h.n1
 cases a with
 |nil=>simp at h1
 |cons l r=>show h.Ϫ l A6
def
W7{a:BB}{p:Y}(h:GL a p):Mc [.u (LD a)]=Z ‹(wh a:W')›:=by
 let h1:=h.n1
 cases a with
 |nil=>simp at h1
 |cons l a=>
  let b:ZA [Ah l]=Z (.r ((l.j aD).a:W')):=rfl
  rw[Bu]at b
  simp only[Mc,AV,Cb,IB,Mo,if_true,dh,Nat.reduceSub,WM,Du,Zm,Za,Bh,Hz,DG,Ap,show atI ((l::a).map Ah) 0=Z (Ah l)from Ev (j:=0) rfl,Fl,D0,Zz,Gm,pk,b,Zu,Zd]
  rfl
def
km{a:BB}{p:Y}(h:GL a p)(d:D)(hd:Sm d):Qf [.u (LD a),.u d]=Z (.u (.bl (Gb (wh a) d))):=by
 let b:=QU d hd
 let c:=W7 h
 generalize (wh a)=n at *
 cases d with
 |int i=>
  rw[show Fs (.r i)=J' from rfl]at b
  apply Zp rfl ?_
  change N0 [.u (LD a),‹i›]=_
  unfold Gb
  rwa[N0,b,Kp,show Lx (.int 0) (.int i)=Z (.bl (decide (0<=i)))from rfl]
  cases decide (0<=i)with
  |true=>rwa[c,show Lx (.int i) (.int n)=Z (.bl (decide (i<=(n:W'))))from rfl,KI]
  |false=>rwa[Bool.false_and]
 |_=>
  apply Zp rfl ?_
  change N0 [.u (LD a),.u _]=_
  rwa[N0,show G6 [.val _]=Z (.val (.bl O'))from b,Gb]
abbrev Rj(L:AM)(zs:U D):jp:=((L.zip zs).j λq=>Gb (wh q.1) q.2).ϔ id
def
Ow(bs:U jp):JC (bs.j D.bl)=Z bs:=by
 simp_all
def
ko:∀(L:AM)(zs:U D),Dg (λx y=>D.O [x,y]) (L.j LD) zs=(L.zip zs).j λq=>D.O [LD q.1,q.2]
 |[],_=>by simp
 |_::_,[]=>by simp
 |a::L,z::zs=>by simp[ko L zs]
def
Zyq{L:AM}(h:Bv L)(zs:U D)(hz:∀z∈zs,Sm z)(g:zs.a=L.a):N3 [#v[L.j LD],.u (.O zs)]=Z (.u (.bl (Rj L zs))):=by
 let l:=h.n4
 let a:=Zv (b:=ZC 2 (Zf (Zb 0) (Zf (Zb 1) ZD))) (e:=UL) (ρ:=[.no,.no]) (λq:U (U At)×D=>D.O [LD q.1,q.2]) (λq=>D.bl (Gb (wh q.1) q.2)) (L.zip zs) λq d=>#[[.u (LD q.1),.u q.2],rfl,by
  let(p,i):=h.v0 q.1 (MM d).1
  have:=km i q.2 (hz _ (MM d).2)
  rwa[UL,this]]
 rw[show(L.zip zs).j (λq=>D.bl (Gb (wh q.1) q.2))=((L.zip zs).j λq=>Gb (wh q.1) q.2).j D.bl by rw[B4];rfl]at a
 let j:Do [.U (((L.zip zs).j λq=>Gb (wh q.1) q.2).j D.bl)]=Z (.bl (Rj L zs)):=by
  erw[Do,Ow,D0]
 let f:=Zq ((L.zip zs).j λq=>D.O [LD q.1,q.2]) (by simp;lia)
 let k:ZA [.U (L.j LD)]=Z (.r ((L.j LD).a:W')):=rfl
 let c:CL (.r zs.a) (.r ((L.j LD).a:W'))=Z (.bl O'):=by rw[g,Bu];simp
 rw[<- (ko L zs)]at a f
 generalize L.j LD=W,((L.zip zs).j λq=>Gb (wh q.1) q.2).j D.bl=n at *
 apply Zp rfl ?_
 change UM [#v[W],.u (.O zs)]=_
 rwa[UM,show B5 [.tup zs,.ty "tuple"]=Z (.bl J')from rfl,show ∀b,ZJ (Z (.bl b))=Z b from λ_=>rfl,show ZA [.tup zs]=Z (.int zs.length)from rfl,k,c,Zi,Hv,ZX,show Zr 2 [] [#v[W],.val (.tup zs)]=[.no,.no]from rfl,f,a,j]
def CZ(L:AM)(g:U Y):V':=g.a=L.a/\∀q∈L.zip g,q.2<=wh q.1
def
kq:∀{L:AM}{g:U Y},(∀q∈L.zip g,q.2<=wh q.1)->Rj L (g.j λj:Y=>D.r j)=J'
 |[],_,_=>by simp
 |_::_,[],_=>by simp
 |b::L,j::g,h=>by
  let c:=kq (L:=L) (g:=g) λq a=>h q (A5 _ a)
  simp_all [Gb,wh,Rj,Int.ofNat_le]
def
W8{L:AM}(h:Bv L){g:U Y}(a:CZ L g):N3 [#v[L.j LD],.u (Ar g)]=Z (.u (.bl J')):=by
 have:=Zyq h (g.j λj:Y=>D.r j) (λz b=>by let(j,_,rfl):=Bc.mp b;trivial) (by rw[Bu];show a.1)
 rw[kq a.2]at this
 grind
def
Et(b:jp):ZJ (Z (.bl b))=Z b:=rfl
def Ox(n:Y):D->jp
 |.int i=>decide (0<=i)&&decide (i<(n:W'))
 |_=>O'
def
kr(L:U D)(d:D)(hd:Sm d):Qe [#v[L],.u d]=Z (.u (.bl (Ox L.a d))):=by
 let a:=QU d hd
 cases d with
 |int i=>
  rw[show Fs (.r i)=J' from rfl]at a
  apply Zp rfl ?_
  change NZ [#v[L],‹i›]=_
  unfold Ox
  rwa[NZ,a,Kp,show Lx (.int 0) (.int i)=Z (.bl (decide (0<=i)))from rfl]
  cases decide (0<=i)with
  |true=>rwa[show ZA [.lst L]=Z (.int L.length)from rfl,show FE (.int i) (.int L.length)=Z (.bl (decide (i<(L.length:W'))))from rfl,KI]
  |false=>rwa[Bool.false_and]
 |_=>
  apply Zp rfl ?_
  change NZ [#v[L],.u _]=_
  rwa[NZ,show G6 [.val _]=Z (.val (.bl O'))from a,Ox]
def
ku{n k:Y}(h:k<n):Ox n (.r k)=J':=by
 unfold Ox
 simp;show Nat.lt_of_succ_le h
def
kw(L:U D)(k:Y){d:D}(h:L[k]?=Z d):Qo [#v[L],‹k›]=Z (.u d):=by
 let a:=kr L (.r k) trivial
 rw[ku ((BR.mp h).1)]at a
 apply Zp rfl ?_
 change UK [#v[L],‹k›]=_
 rwa[UK,a,Et,show Ap (.lst L) (.int k)=Z d from Ev h]
def
W9{l:U At}{j:Y}(h:j<l.a):Ap (Ah l) (.r j)=Z (aD (l.B j .Y)):=by
 show Ev (show(l.j aD)[j]?=Z (aD (l.B j .Y)) by simp[Cm,h])
def
Xa(a b:U At)(h:a.a+b.a<=1000):Zw (Ah a) (Ah b)=Z (Ah (a++b)):=by
 show(if(a.j aD).a+(b.j aD).a<=Az then Z (D.O (a.j aD++b.j aD))else J)=_
 rw[if_pos (show(a.j aD).a+(b.j aD).a<=Az by simp;show BX h (by ext)),<- De];rfl
def
kx{b:BB}{p:Y}(k:GL b p){j:Y}(v:j<=p){a:At}(s:a∈b.j hd):P8 [.u (LD b),.u (aD a),‹j›]=Z (.u (aD (E7 (b,j) a))):=by
 let run:∀(d:BB) (m:Sl),(∀l∈d,Ln l/\l.a=p)->(d.j hd).ι->∀l∈d,hd l=a->ZE (Zb 3) NX (d.j Ah) [.u (LD b),.u (aD a),‹j›,m]=.Ϻ (.u (aD (l.B j .Y))):=by
  intro d
  induction d with
  |nil=>show λ_ _ _ l h=>nomatch h
  |cons x d t=>
   intro m i n l q e
   let g:=i x A6
   let r:=J2 g.1
   let z1:Ce (aD (hd x)) (aD a)=Z (.bl (decide (hd x=a))):=by rwa[Ce,FL,Ig,Mn]
   rw[AT,FA]at n
   by_cases c:hd x=a
   .have:l=x:=by
     rcases Bl.mp q with h|h
     .show h
     .show absurd (Ij (f:=hd) h) (by rw[e,<- c];show n.1)
    subst this
    rw[decide_eq_true c]at z1
    let z2:Zw (Ah l) (.O [.Y])=Z (Ah (l++[.Y])):=by
     have:=Xa l [.Y] (by have:=g.1.l4;simp;lia)
     show this
    let z3:Ap (Ah (l++[.Y])) (.r j)=Z (aD (l.B j .Y)):=by
     rw[W9 (by rw[D2,g.2];simp;lia)]
     congr 2
     rcases IN j l.length with h|h
     .simp[Cm,FC h]
     .have:j=l.a:=∅
      subst this;simp[Cm]
    let o:Zg (Z [D.Y])=Z [.Y]:=rfl
    rw[AT,ZE,show Zb 3 (Ah l) [.u (LD b),.u (aD a),‹j›,m]=Z [.u (LD b),.u (aD a),‹j›,.u (Ah l)]from rfl]
    generalize Ah (l++[.Y])=A,Ah l=B,(j:W')=w at *
    rwa[NX,r,z1,o,z2,z3]
   .rw[decide_eq_false c]at z1
    have:=t (.u (Ah x)) (λy u=>i y (A5 _ u)) n.2 l ((Bl.mp q).resolve_left λh=>c (h ▸ e)) e
    rw[AT,ZE,show Zb 3 (Ah x) [.u (LD b),.u (aD a),‹j›,m]=Z [.u (LD b),.u (aD a),‹j›,.u (Ah x)]from rfl]
    rwa[show NX [.val (LD b),.val (aD a),‹j›,.val (Ah x)]=.next [.val (LD b),.val (aD a),‹j›,.val (Ah x)] by rwa[NX,r,z1]]
    show this
 let(l,i,rfl):=Bc.mp s
 rw[Q8 k.hdn i]
 apply Zp rfl ?_
 change T1 [.u (LD b),.u (aD (hd l)),‹j›,.no]=_
 rwa[T1,ZN,run b .no (λx g=>#[k.ln x g,k.len x g]) k.hdn l i rfl]
def
Zzj{L:AM}{s:U At}(c:AJ L s):∀{g:U Y},g.a=L.a->(∀b∈L,∃p,GL b p)->(∀q∈L.zip g,q.2<=wh q.1)->ZL (ZC 3 (Zf (Zb 0) (Zf (Zb 1) (Zf (Zb 2) ZD)))) (λ_=>Z J') Ql [.no,.no,.no] (DZ (L.j LD) (s.j aD) (g.j λj:Y=>D.r j))=Z ((CF (qs L g) s).j aD):=by
 induction c with
 |nil=>show λ_ _ _=>rfl
 |@cons b L a s l c m=>
  intro g d e f
  cases g with
  |nil=>simp at d
  |cons j g=>
   let(p,i):=e b A6
   let k:=f (b,j) (by simp)
   rw[i.wh]at k
   let n:=kx i k l
   let o:=m (g:=g) (by exists d) (λx r=>e x (A5 _ r)) λq h=>f q (by rw[HL];show A5 _ h)
   let t:Ql [.u (LD b),.u (aD a),‹j›]=Z (aD (E7 (b,j) a)):=by
    rwa[Ql,n]
   rw[AT,AT,AT,DZ,ZL,show ZC 3 (Zf (Zb 0) (Zf (Zb 1) (Zf (Zb 2) ZD))) (.O [LD b,aD a,.r j]) [.no,.no,.no]=Z [.u (LD b),.u (aD a),‹j›]from rfl]
   rwa[t,o,HL,CF]
def
ZwX{L:AM}(h:Bv L){g:U Y}(m:CZ L g){s:U At}(n:AJ L s):UB [#v[L.j LD],.u (Ah s),.u (Ar g)]=Z (.u (Ah (CF (qs L g) s))):=by
 let o:=Zzj n m.1 h.v0 m.2
 let p:∀(d e f:U D),d.a<=1000->(DZ d e f).a<=1000:=by
  intro d
  induction d with
  |nil=>intro e f _;simp[DZ]
  |cons x d t=>
   intro e f q
   cases e with
   |nil=>simp[DZ]
   |cons y e=>
    cases f with
    |nil=>simp[DZ]
    |cons z f=>
     have:∀(a b c:U D),(DZ a b c).a<=a.a:=by
      intro a
      induction a with
      |nil=>intro b c;simp[DZ]
      |cons _ _ i=>intro b c;ext b<;>ext c<;>simp[DZ];show i _ _
     show BX (this _ _ _) q
 let r:=Zq (DZ (L.j LD) (s.j aD) (g.j λj:Y=>D.r j)) (BX (p _ _ _ (by rw[Bu];have:=h.n4;lia)) (by ext))
 let ht:Ec [.U ((CF (qs L g) s).j aD)]=Z (Ah (CF (qs L g) s)):=rfl
 let l:PV (λk=>Bp k 0) (λk=>Bp k 1) (λk=>Bp k 2) [#v[L.j LD],.u (Ah s),.u (Ar g)]=Z (DZ (L.j LD) (s.j aD) (g.j λj:Y=>D.r j)):=rfl
 apply Zp rfl ?_
 change UA [#v[L.j LD],.u (Ah s),.u (Ar g)]=_
 generalize DZ (L.j LD) (s.j aD) (g.j λj:Y=>D.r j)=ZZ,L.j LD=A,Ah s=B,Ar g=C,(CF (qs L g) s).j aD=KK,Ah (CF (qs L g) s)=u at *
 rwa[UA,Zi,show ∀x,Zr 3 [] x=[.no,.no,.no]from λ_=>rfl,l,r,o,ht]
def
ZvM{l:Type}{F:U Sl->O Rv}(f:l->D){lt:l->l->jp}(T:TO lt)(b:O jp)(xs:U l)(few:xs.a<64)(m:l->D)(tells:∀a∈xs,∃r,F [.u (f a)]=Z r/\Ct r=m a)(mode:∀a∈xs,Ck b (m a))(cmp:∀a∈xs,∀c∈xs,ltN 6 (m a) (m c)=Z (lt a c)):EU F (xs.j f)=Z ((Zx lt xs).j f):=by
 let n:∀a∈xs,Dq F (f a)=m a:=λa d=>by
  let(r,o,q):=tells a d
  unfold Dq;rw[o];show q
 let j:∀a∈xs,∀c∈xs,Cr F (f a) (f c)=lt a c:=λa d c g=>SY (by rw[n a d,n c g];show cmp a d c g)
 let ok:Bk F (xs.j f):={
  few:=by simp;lia
  tells:=λx i=>by let(a,d,rfl):=Bc.mp i;let(r,o,_):=tells a d;show#[_,o]
  mode:=#[b,λx i=>by let(a,d,rfl):=Bc.mp i;rw[n a d];show mode a d]
  cmp:=λx i y k=>by
   grind
  asym:=λx i y k h=>by
   let(a,d,rfl):=Bc.mp i
   let(c,g,rfl):=Bc.mp k
   rw[j a d c g]at h;rw[j c g a d];show T.asym a c h
  neg:=λx i y k z s h=>by
   let(a,d,rfl):=Bc.mp i
   let(c,g,rfl):=Bc.mp k
   let(e,p,rfl):=Bc.mp s
   rw[j a d e p]at h;rw[j a d c g,j c g e p];show T.neg a c e h
  anti:=λx i y k h1 h2=>by
   let(a,d,rfl):=Bc.mp i
   let(c,g,rfl):=Bc.mp k
   rw[j a d c g]at h1;rw[j c g a d]at h2;rw[T.anti a c h1 h2]}
 rw[bD ok,WQ f lt _ xs j]
def Gc:At->D
 |.non=>.O [.r 0,.r 0,.Α ""]
 |.int i=>.O [.r 1,.r i,.Α ""]
 |.str x=>.O [.r 2,.r 0,.Α x]
def
ZE1(n:Y)(a b:At):ltN (n+2) (Gc a) (Gc b)=Z (GA a b):=by
 ext a<;>ext b<;>simp[Gc,GA]
 .intro e;show Int.le_of_eq e.Ρ
 .intro e;subst e;simp
def
ZDe(a b:At):Ba (Gc a) (Gc b)=decide (a=b):=by
 ext a<;>ext b<;>simp[Gc]
def
ky(n:Y)(a:At):AY (n+1) (Gc a)=J':=by ext a<;>ext n<;>rfl
def
kz(n:Y):∀l m:U At,Fn (ltN (n+2)) (l.j Gc) (m.j Gc)=Z (Bo l m)
 |[],[]=>rfl
 |[],_::_=>rfl
 |_::_,[]=>rfl
 |a::r,b::s=>by
  rwa[Fn,FL,ky 11 a,ky 11 b,ZDe a b,ZE1 n a b,kz n r s,Bo,decide_eq_true_eq]
  grind
def
ZsW(a:At):P7 [.u (aD a)]=Z (.u (Gc a)):=by
 let b:(3:Y)<=Az:=by ext
 ext a<;>simp[P7,AV,dN,aD,Gc,b]
def
ZmO(l:U At)(h:l.a<=1000):Qm [.u (Ah l)]=Z (.χ (l.j Gc)):=by
 let c:=Zv (b:=Zb 0) (e:=UC) (ρ:=[.no]) aD Gc l λa _=>#[[.u (aD a)],rfl,by
  have:=ZsW a
  rwa[UC,this,Ct]]
 let d:=Zq (l.j aD) (by simp;lia)
 apply Zp rfl ?_
 unfold Ah
 generalize l.j aD=L at *
 change UD [.u (.O L)]=_
 rwa[UD,Zi,show Zr 1 [] [.val (.tup L)]=[.no]from rfl,d,c,ZK]
def
ZpC(a:BB)(b:a.a<64)(c:∀l∈a,l.a<=1000):EU Qm (a.j Ah)=Z ((Zx Bo a).j Ah):=
 ZvM Ah DL J a b (λl=>.U (l.j Gc)) (λl h=>#[_,ZmO l (c l h),rfl]) (λl _=>#[_,rfl]) (λl _ m _=>kz 3 l m)
structure Ends(as:List W')(m M:W'):V' where
 m1:m∈as
 m2:∀a∈as,m<=a
 M1:M∈as
 M2:∀a∈as,a<=M
def
Ends.uniq{a:U W'}{m M b c:W'}(h:Ends a m M)(h':Ends a b c):m=b/\M=c:=by
 let a1:=h.m2 _ h'.m1
 let a2:=h'.m2 _ h.m1
 let a3:=h.M2 _ h'.M1
 let a4:=h'.M2 _ h.M1
 lia
def
Ends.ex(b:U W')(h:b≠[]):∃m M,(F8 b)[0]?=Z m/\(F8 b)[b.a-1]?=Z M/\Ends b m M:=by
 let j:=TC b
 let c:=PY b
 let g:=c7 b
 let k:0<b.a:=List.length_pos_iff.ϡ h
 apply#[(F8 b)[0]'∅,(F8 b)[b.a-1]'∅,by rw[Cc],by rw[Cc],c.Υ.mp (Hq _),λa d=>?_,c.Υ.mp (Hq _),λa d=>?_]
 .let(i,f,e):=List.getElem_of_mem (c.Υ.ϡ d)
  subst e
  rcases Nat.eq_zero_or_pos i with h|h
  .subst h;show Int.le_refl _
  .show S5.mp g 0 i ∅ f h
 .let(i,f,e):=List.getElem_of_mem (c.Υ.ϡ d)
  subst e
  by_cases h:i=b.a-1
  .subst h;show Int.le_refl _
  .show S5.mp g i (b.a-1) f ∅ ∅
def
Xb(x:W'):∀xs:U W',Ends (x::xs) (xs.Λ mn x) (xs.Λ mx x):=by
 intro xs
 induction xs generalizing x with
 |nil=>show#[by simp,by simp,by simp,by simp]
 |cons y f d=>
  let a:=d (mn x y)
  let b:=d (mx x y)
  let g:=ju x y
  let h:=jv x y
  let i:=a.m2 (mn x y) A6
  let j:=b.M2 (mx x y) A6
  erw[IG]
  apply#[?_,λz c=>?_,?_,λz c=>?_]
  .rcases Bl.mp a.m1 with e|e
   .rw[e];unfold mn;split<;>simp
   .show A5 _ (A5 _ e)
  .rcases Bl.mp c with rfl|c
   .lia
   .rcases Bl.mp c with rfl|c
    .lia
    .show a.m2 z (A5 _ c)
  .rcases Bl.mp b.M1 with e|e
   .rw[e];unfold mx;split<;>simp
   .show A5 _ (A5 _ e)
  .rcases Bl.mp c with rfl|c
   .lia
   .rcases Bl.mp c with rfl|c
    .lia
    .show b.M2 z (A5 _ c)
def
ZoE(x:W')(xs:U W')(b:xs.a+1<64):P9 [.u (vL (x,xs))]=Z (.u (cel x xs)):=by
 let(f,g,h,i,c):=Ends.ex (x::xs) (by simp)
 let(k,l):=(Xb x xs).uniq c
 let d:=TC (x::xs)
 let m:=c9 (PY (x::xs))
 let a:=xw (x::xs)
 rw[if_pos (by exists b)]at a
 unfold cel vL
 rw[k,l]
 erw[Cb]at *
 generalize F8 (x::xs)=W,(x::xs).sum=S,(x::xs).j D.r=V at *
 let k1:Ap (.U (W.j D.r)) (.r 0)=Z (.r f):=Ev (j:=0) (by rw[DF,h];rfl)
 let k2:Ap (.U (W.j D.r)) (.r (-1))=Z (.r g):=by
  let e:FD (W.j D.r).a (-1)=Z xs.a:=by
   unfold FD
   rw[Bu,d,if_neg (by ext),if_pos ∅]
   congr 1;lia
  change atI (W.j D.r) (-1)=_
  unfold atI
  rw[e]
  exists i
 let n:(4:Y)<=Az:=jw
 simp[P9,AV,dO,a,d,-Ap,k1,k2,n,m,Sz]
def
Xc{k:U At}{p:W'×U W'}:∀{acc:U A7},ZH acc k=Z p->p.2.a+1<=J0 acc
 |[],h=>by cases h
 |e::acc,h=>by
  unfold ZH at h
  unfold J0
  split at h
  .cases h;lia
  .have:=Xc h;lia
def
Zzd{L:AM}(h:Bv L){g:U Y}(t:CZ L g){s:U At}(u:AJ L s)(i r:Sl)(x:W'){acc:U A7}{n m:Y}(j:BC acc n m)(w:m<1000):
  N7 [#v[L.j LD],i,.u (Ar g),DM vL acc,.u (Ah s),‹x›,r]=.β [#v[L.j LD],i,.u (Ar g),DM vL (CW acc (CF (qs L g) s) x),.u (Ah s),‹x›,.u (Ah (CF (qs L g) s))]:=by
 let y:=ZwX h t u
 generalize CF (qs L g) s=k at *
 let hok:=HA k
 let l:=W3 vL k acc
 let a:=Ii vL k acc
 let b:(acc.j (ZM vL)).a<Az:=by rw[Bu];show GY j.Ϫ (BQ w (by ext))
 let o:=Z1 (acc.j (ZM vL))
 let q:Zg (Z [D.r x])=Z [D.r x]:=rfl
 let c:Zg (Z ([]:U D))=Z []:=rfl
 let e:∀d,Zw ((Zl (acc.j (ZM vL)) (.O k)).B (.U [])) (.U [.r x])=Z d->ZQ (acc.j (ZM vL)) (.O k) d=(CW acc k x).j (ZM vL)->N7 [#v[L.j LD],i,.u (Ar g),DM vL acc,.u (Ah s),‹x›,r]=.β [#v[L.j LD],i,.u (Ar g),DM vL (CW acc k x),.u (Ah s),‹x›,.u (Ah k)]:=by
  intro d z E
  unfold DM
  generalize acc.j (ZM vL)=H,(CW acc k x).j (ZM vL)=G,L.j LD=A,Ah s=B,Ah k=C at *
  rwa[N7,y,ZG,PX,EO,o,hok,l,c,q,HV,z,E,b]
 cases f:ZH acc k with
 |none=>
  apply e (vL (x,[])) ?_ (zV vL f)
  rw[a,f]
  rfl
 |some p=>
  apply e (vL (p.1,p.2++[x])) ?_ (zU vL j.nd f)
  rw[a,f]
  have:=Xc f
  have:=j.sz
  change Zw (.U ((p.1::p.2).j D.r)) (.U [.r x])=_
  rw[KO _ _ (by simp;lia)]
  simp
def
kA{L:AM}(h:Bv L){g:U Y}(k:CZ L g)(f:Sl):∀(d:U Row)(acc:U A7)(m:Y)(i j e:Sl),(∀r∈d,AJ L r.1)->BC acc L.a m->m+d.a<1000 ->
  ∃l n o,ZE (ZC 2 (Zf (Zb 4) (Zf (Zb 5) ZD))) N7 (d.j Ze) [#v[L.j LD],f,.u (Ar g),DM vL acc,i,j,e]=.β [#v[L.j LD],f,.u (Ar g),DM vL (Es (DN (qs L g) d) acc),l,n,o]
 |[],acc,m,i,j,e,_,p,_=>#[i,j,e,rfl]
 |r::d,acc,m,i,j,e,t,p,w=>by
  erw[Cb]at w
  let u:=t r A6
  let s:(CF (qs L g) r.1).a=L.a:=by have:=u.Ϫ;have:=k.1;rw[Mp (by simp[qs];lia)];simp[qs];lia
  let x:=Zzd h k u f e r.2 p ∅
  let(a,b,c,y):=kA h k f d (CW acc (CF (qs L g) r.1) r.2) (m+1) (.u (Ah r.1)) ‹r.2› (.u (Ah (CF (qs L g) r.1))) (λq z=>t q (A5 _ z)) (p.add s r.2) ∅
  apply#[a,b,c,?_]
  rw[AT,ZE,show ZC 2 (Zf (Zb 4) (Zf (Zb 5) ZD)) (Ze r) [#v[L.j LD],f,.u (Ar g),DM vL acc,i,j,e]=Z [#v[L.j LD],f,.u (Ar g),DM vL acc,.u (Ah r.1),‹r.2›,e]from rfl]
  erw[x]
  show y
def
Zsg{L:AM}(h:Bv L){g:U Y}(q:CZ L g)(f:U Row)(s:∀r∈f,AJ L r.1)(t:f.a<64):Va [#v[L.j LD],#v[f.j Ze],.u (Ar g)]=Z (.χ (ZU L g f)):=by
 let(a,b,c,e):=kA h q #v[f.j Ze] f [] 0 .no .no .no s (BC.Ϝ _) ∅
 let ok:=BC.tab (DN (qs L g) f) (BC.Ϝ L.a) λr h=>by
  let(u,h1,rfl):=Bc.mp h
  let h2:=(s u h1).Ϫ
  have:=q.1
  show(CF (qs L g) u.1).a=_
  rw[Mp (by simp[qs];lia)];simp[qs];lia
 let N:(DN (qs L g) f).a=f.a:=Bu _
 unfold ZU
 generalize Es (DN (qs L g) f) []=i at *
 let j:(Zj i).a<64:=by unfold Zj;rw[Bu];have:=ok.Ϫ;lia
 let w:=ZpC (Zj i) j λl t=>by rw[ok.kl l t];have:=h.n4;lia
 rw[<- jV vL]at w
 let E:=Zv (b:=Zb 0) (e:=U8) (ρ:=[.no,.jk (Zc (i.j (ZM vL))) .d]) Ah (λk=>.O [Ah k,vC ((ZH i k).B (0,[]))]) (Zx Bo (Zj i)) λk G=>#[[.u (Ah k),.jk (Zc (i.j (ZM vL))) .d],rfl,by
  let(p,m):=Q7 G
  let H:=W4 vL m
  let K:=ZoE p.1 p.2 (by have:=Xc m;have:=ok.sz;lia)
  rw[m]
  rwa[U8,H,K,Option.getD]]
 let F:=Zq ((Zx Bo (Zj i)).j Ah) (by rw[Bu,(ZB _ _).Ψ];lia)
 let n:=Z1 (i.j (ZM vL))
 let M:DM vL []=.χ [] .d:=rfl
 rw[M]at e
 unfold DM at e
 unfold CY
 apply Zp rfl ?_
 generalize (Zx Bo (Zj i)).j (λk=>D.O [Ah k,vC ((ZH i k).B (0,[]))])=T,(Zx Bo (Zj i)).j Ah=W,i.j (ZM vL)=B,f.j Ze=R,L.j LD=A,Ar g=C at *
 change U9 [#v[A],#v[R],.u C,.no,.no,.no,.no]=_
 let o:∀x y z,Zr 1 [3] [#v[A],#v[R],.u C,.χ (Zc B) .d,x,y,z]=[.no,.jk (Zc B) .d]:=λ_ _ _=>rfl
 rwa[U9,Ea,ZN,e,Zi,o,NK,n,w,F,E,ZK]
abbrev gk(g:U Y):U At:=g.j λj:Y=>At.r j
def
Jb(g:U Y):Ah (gk g)=Ar g:=by unfold Ah gk;rw[B4];rfl
def
Rk:∀{g g':U Y},gk g=gk g'->g=g'
 |[],[],_=>rfl
 |[],_::_,h=>by simp at h
 |_::_,[],h=>by simp at h
 |a::g,b::g',h=>by
  erw[gk,AT,Pt,At.int.injEq]at h
  rw[Rk (g:=g) (g':=g') h.2,Int.ofNat.inj h.1]
abbrev AI(L:AM)(rs:U Row)(gs:U (U Y)):Bd:=gs.j λg=>(.O (gk g),.U (ZU L g rs))
section
variable(L:AM)(rs:U Row)
def
Xd(k:U At)(gs:U (U Y)):DJ (.O k) (AI L rs gs)=J':=Kw k λp a=>by
 let(g,_,rfl):=Bc.mp a
 rfl
def
Rl:∀(gs:U (U Y))(g:U Y),Zl (AI L rs gs) (.O (gk g))=if g∈gs then Z (.U (ZU L g rs))else J
 |[],g=>by simp[Zl]
 |x::gs,g=>by
  let a:=Rl gs g
  erw[AT,Zl,KT.tup.injEq]
  by_cases e:x=g
  .subst e;simp
  .rw[if_neg (λz=>e (Rk z)),a]
   simp[BF e]
def
kC(neg:jp)(gs:U (U Y))(g:U Y):Dp neg (Ar g) (.U (Zc (AI L rs gs)) .d)=Z (.bl (neg != decide (g∈gs))):=by
 let hok:=HA (gk g)
 rw[Jb]at hok
 rw[Kv,hok]
 show(if DJ (.O (gk g)) (AI L rs gs)=J' then _ else _)=_
 rw[if_pos (Xd L rs _ gs),Rl]
 grind
def
Oy{g:U Y}(h:g∈gs):C3 (.U (Zc (AI L rs gs)) .d) (Ar g)=Z (.U (ZU L g rs)):=by
 let hok:=HA (gk g)
 simp_all [Jb,gk,AI,Xd,Rl]
def
ZDI(gs:U (U Y)):L3 [.U (Zc (AI L rs gs)) .d]=Z (.r gs.a):=by
 have:(AI L rs gs).ϔ (λp=>!ES p.1)=J':=by rw[GX,Dc];show λe _=>rfl
 rwa[L3,Z1,this,Bu]
def
ZCD{g:U Y}(h:g∉gs):ZQ (AI L rs gs) (.O (gk g)) (.U (ZU L g rs))=AI L rs (gs++[g]):=by
 unfold ZQ
 grind [Rl]
def
Xe(gs:U (U Y)):((AI L rs gs).j λp=>kD p.1)=gs.j Ar:=by
 rw[B4]
 show Xf λg _=>Jb g
end
abbrev Gd:U Ae:=["axes","standing","tables"]
abbrev kB:Kd:=.i Gd "Book"
abbrev Cn(L:AM)(R:U D)(t:Y):Cl:=.mix kB [#v[L.j LD],#v[R],.ϋ t]
abbrev BD(L:AM)(R T:U D):D:=.U [.U (L.j LD),.U R,.U T .d] kB
def
ZGm:(("tables":Ae)=="axes")=O':=by symm
def
ZGh:(("tables":Ae)=="standing")=O':=by symm
variable {L:AM}{R T:U D}{G:Gh}{b t:Y}
def
K2:Z6 "Book" "axes" (BD L R T)=Z (.U (L.j LD)):=rfl
def
Xg:Z6 "Book" "standing" (BD L R T)=Z (.U R):=rfl
def
K3:Z6 "Book" "tables" (BD L R T)=Z (.U T .d):=rfl
def
Mr(m:Y)(a:m≠0)(c:G[b]?=Z (Cn L R t))(ht:G[t]?=Z (.ϕ .d T)):D5 m G (.ϋ b)=.u (BD L R T):=by
 simp_all
def
kE{xs:U IV}(a:G[b]?=Z (Cn L R t)):H9 "Book" "tables" (xs,G) (Z b)=Z t:=by simp_all [List.lookup,ZGm,ZGh]
end
def
kF:∀{L:AM}{g:U Y}{s:U At}{k:Y}{c:BB}{j:Y}{a:At},L[k]?=Z c->g[k]?=Z j->s[k]?=Z a->(CF (qs L g) s)[k]?=Z (E7 (c,j) a)
 |_::_,_::_,_::_,0,_,_,_,h1,h2,b=>by ext h1;ext h2;ext b;rfl
 |_::L,_::g,_::s,k+1,_,_,_,h1,h2,b=>by
  have:=kF (L:=L) (g:=g) (s:=s) (k:=k) (by exists h1) (by exists h2) (by exists b)
  simpa[qs,CF]using this
 |[],_,_,_,_,_,_,h1,_,_=>by simp at h1
 |_::_,[],_,_,_,_,_,_,h2,_=>by simp at h2
 |_::_,_::_,[],_,_,_,_,_,_,b=>by simp at b
def
AJ.get{L:AM}{s:U At}(d:AJ L s):∀k,k<L.a->∃c a,L[k]?=Z c/\s[k]?=Z a/\c∈L/\a∈c.j hd:=by
 induction d with
 |nil=>show λk h=>absurd h (Nat.not_lt_zero k)
 |@cons c m a n e o f=>
  intro k g
  cases k with
  |zero=>show#[c,a,rfl,rfl,A6,e]
  |succ k=>
   let(l,b,h1,h2,i,j):=f k (by exists g)
   show#[l,b,by simpa using h1,by simpa using h2,A5 _ i,j]
def
ZDR:Gd.Ϗ "tables_renewed"=O':=by symm
def
ZBZ:Gd.Ϗ "keep"=O':=by symm
variable {L:AM}{R T:U D}{G:Gh}{b t:Y}{x:D}
variable(h0:G[b]?=Z (Cn L R t))(ht:G[t]?=Z (.ϕ .d T))
include h0 ht
def
kG:vw 2 ([.ϋ b,.u x],G)=[.u (BD L R T),.u x]:=by simp_all [AT,Dv]
end
def
kH{L:AM}{g:U Y}(d:g.a=L.a){a:U Row}(b:∀r∈a,AJ L r.1):∀r∈DN (qs L g) a,r.1.a=L.a:=λr h=>by
 let(c,h1,rfl):=Bc.mp h
 have:=(b c h1).Ϫ
 simp_all [qs,Mp]
abbrev C8(L:AM)(g:U Y)(a:U Row):U A7:=Es (DN (qs L g) a) []
def
Oz{L:AM}{g:U Y}(b:g.a=L.a){a:U Row}(c:∀r∈a,AJ L r.1):BC (C8 L g a) L.a a.a:=by
 have:=BC.tab (DN (qs L g) a) (BC.Ϝ L.a) (kH b c)
 rw[Nat.zero_add,show(DN (qs L g) a).a=a.a from Bu _]at this
 grind
def
Ik(m:Y)(k:U At):BM m (Ah k)=J':=by
 show G5 λd hd=>by let(a,_,rfl):=Bc.mp hd;ext a<;>rfl
def
ZBo(a b:U At):Ba (Ah a) (Ah b)=decide (a=b):=by simp_all [Ah,WG]
abbrev zg(L:AM):U Y:=L.j λ_=>0
def
ZEh(L:AM):KY L=Ar (zg L):=by
 simp_all
def
OA{G:Gh}{b t:Y}{c:Cl}(hb:b≠t):(G.Ε t c)[b]?=G[b]?:=Ei (BF hb)
def
Jc{G:Gh}{t:Y}{c d:Cl}(h:G[t]?=Z d):(G.Ε t c)[t]?=Z c:=Iv (BR.mp h).1
def
kI(L:AM)(g:U Y)(rs:U Row):BM 1 (.U (ZU L g rs))=J':=by
 show G5 λd hd=>by
  let(k,_,rfl):=Bc.mp hd
  have:∀k:U At,BM 1 (Ah k)=J':=λk=>by
   show G5 λd hd=>by let(a,_,rfl):=Bc.mp hd;ext a<;>rfl
  show(BM 1 (Ah k)&&(BM 1 (vC _)&&J'))=J'
  rw[this];rfl
variable {L:AM}{G:Gh}{b t:Y}{rs:U Row}{g:U Y}
variable(h:Bv L)(hg:CZ L g)(h0:G[b]?=Z (Cn L (rs.j Ze) t))(ht:G[t]?=Z (.ϕ .d (Zc (AI L rs gs))))
include h hg h0 ht
def
kJ{gs':U (U Y)}{G':Gh}(h0:G'[b]?=Z (Cn L (rs.j Ze) t))(ht:G'[t]?=Z (.ϕ .d (Zc (AI L rs gs'))))(a:g∈gs'):VI ([.ϋ b,.u (Ar g)],G')=.Ϻ ‹((ZU L g rs).a:W')› G':=by
 let c:=K3 (L:=L) (R:=rs.j Ze) (T:=Zc (AI L rs gs'))
 let hd:=Oy L rs a
 let v:=kG (x:=Ar g) h0 ht
 generalize ZU L g rs=Y',Ar g=e,D.U (Zc (AI L rs gs')) .d=TT,BD L (rs.j Ze) (Zc (AI L rs gs'))=B at *
 erw[VI,fS,v,Zm,Za,Zz,Bh,Ht,Hz,DG,D0,Fl,c,hd,Gm,pk,show ZA [.lst Y']=Z (.int Y'.length)from rfl,jE,jO,show ∀i,BM 2 (.int i)=J' from λ_=>rfl,if_true,xD,FJ,ZS]
def
ZBC(a:g∈gs):Of [.ϋ b,.u (Ar g)] G=Z (‹((ZU L g rs).a:W')›,G):=by
 let f:=W8 h hg
 let i:=kJ h hg h0 ht h0 ht a
 let l1:=K2 (L:=L) (R:=rs.j Ze) (T:=Zc (AI L rs gs))
 let j:=K3 (L:=L) (R:=rs.j Ze) (T:=Zc (AI L rs gs))
 let c:=kC L rs J' gs g
 rw[decide_eq_true a]at c
 let v:=kG (x:=Ar g) h0 ht
 generalize Ar g=k,D.U (Zc (AI L rs gs)) .d=TT,BD L (rs.j Ze) (Zc (AI L rs gs))=B at *
 let e:Oe ([.ϋ b,.u k],G)=.Ϻ ‹((ZU L g rs).a:W')› G:=by
  erw[Oe,VL,VJ,VG,v,Zh,Zz,Cp,Bh,Ht,Hz,DG,D0,Fl,l1,f,Ic,Et,ZP,KV,jT,ED,VH,Za,j,c,AU,bne_self_eq_false,ZS,i]
 show G9 (fi rfl e) rfl
def
Zz1(p:∀r∈rs,AJ L r.1)(q:rs.a<64)(j:b≠t)(o:g∉gs)(s:gs.a<12):Of [.ϋ b,.u (Ar g)] G=Z (‹((ZU L g rs).a:W')›,G.Ε t (.ϕ .d (Zc (AI L rs (gs++[g]))))):=by
 let u:=W8 h hg
 let a:=kJ (gs':=gs++[g]) (G':=G.Ε t (.ϕ .d (Zc (AI L rs (gs++[g]))))) h hg h0 ht (by rw[OA j];show h0) (Jc ht) (by simp)
 let l1:=K2 (L:=L) (R:=rs.j Ze) (T:=Zc (AI L rs gs))
 let w:=K3 (L:=L) (R:=rs.j Ze) (T:=Zc (AI L rs gs))
 let x:=Xg (L:=L) (R:=rs.j Ze) (T:=Zc (AI L rs gs))
 let y:Dp J' (Ar g) (.U (Zc (AI L rs gs)) .d)=Z (.bl J'):=by rw[kC,decide_eq_false o];rfl
 let z:=ZDI L rs gs
 let c:=ZCD L rs o
 let k:=Z1 (AI L rs gs)
 let hok:=HA (gk g)
 rw[Jb]at hok
 let l:=Xd L rs (gk g) gs
 let f:(AI L rs gs).a<Az:=by rw[Bu];show BQ (show gs.a<1000 by lia) (by ext)
 let i:=j7 h hg.1 rs p q
 let m:=kE (xs:=[.ϋ b,.u (Ar g)]) h0
 let A:M9 (.r gs.a) (.r 12)=Z (.bl O'):=by
  change Z (D.bl (decide ((12:W')<=(gs.a:W'))))=_
  rw[decide_eq_false ∅]
 let C:=kI L g rs
 let E:=Mr 2 (by ext) h0 ht
 let H:=Mr 1 (by ext) h0 ht
 generalize AI L rs (gs++[g])=n at *
 generalize Ar g=v,ZU L g rs=Y',rs.j Ze=R,AI L rs gs=M,BD L (rs.j Ze) (Zc (AI L rs gs))=B at *
 suffices e:Oe ([.ϋ b,.u v],G)=.Ϻ ‹Y'.a› (G.Ε t (.ϕ .d (Zc n)))from G9 (fi rfl e) rfl
 rwa[Oe,VL,VG,E,l1,u,Et,VJ,VH,H,w,x,y,z,A,i,DY,C,m,PP,ht,k,hok,l,f,c,a]
end
def EF(a b:U Y):jp:=Bo (gk a) (gk b)
def
ZHf:TO EF:=#[λa b h=>DL.asym _ _ h,λa b c h=>DL.neg _ _ _ h,λa b h1 h2=>Rk (DL.anti _ _ h1 h2)]
abbrev Xh(g:U Y):U D:=g.j λj:Y=>D.r j
def
kK(n:Y):∀a b:U Y,Fn (ltN n) (Xh a) (Xh b)=Z (EF a b)
 |[],[]=>rfl
 |[],_::_=>rfl
 |_::_,[]=>rfl
 |i::a,j::b=>by
  let d:=kK n a b
  unfold EF at d ⊢
  rwa[Xh,gk,Fn,Bo,AY,FL]at d ⊢
  by_cases c:i=j
  .subst c
   erw[show ∀i:W',Ba (.int i) (.int i)=J' from λi=>beq_self_eq_true i,if_true,d]
  .let e:¬ (i:W')=(j:W'):=Nat.ToInt.of_diseq rfl rfl c
   simp_all [GA]
def
kL(h:gs.a<64)(c:∀g∈gs,g≠[]):EU F6 (gs.j Ar)=Z ((Zx EF gs).j Ar):=
 WR Ar ZHf J' gs h Ar (λ_ _=>rfl) (λg d=>by
  cases g with
  |nil=>show absurd rfl (c _ d)
  |cons a r=>show#[_,_,rfl]) λa _ b _=>kK 5 a b
def
ZCy(a:BB):BM 1 (LD a)=J':=by
 show(!vk 1 .l&&CT 1 (a.j Ah))=J'
 rw[G5 λd hd=>by let(l,_,rfl):=Bc.mp hd;show Ik 1 l];rfl
def
Ms(L:AM):CT 1 (L.j LD)=J':=G5 λd hd=>by let(l,_,rfl):=Bc.mp hd;show ZCy l
def
Xi(L:AM)(rs:U Row):∀gs:U (U Y),CT 1 (Zc (AI L rs gs))=J'
 |[]=>rfl
 |g::gs=>by
  show(BM 1 (Ah (gk g))&&(BM 1 (.U (ZU L g rs))&&CT 1 (Zc (AI L rs gs))))=J'
  rw[Ik,kI,Xi L rs gs];rfl
def
kM{L:AM}(h:Bv L)(rs:U Row)(j:∀r∈rs,AJ L r.1)(k:rs.a<64)(gs:U (U Y))(l:gs.ι)(m:∀g∈gs,g.a=L.a)(n:gs.a<=12):QG [#v[L.j LD],#v[rs.j Ze],#v[gs.j Ar]]=Z (.χ (Zc (AI L rs gs)) .d):=by
 let f:=Zv (b:=Zb 0) (e:=VC) (ρ:=[.no,#v[L.j LD],#v[rs.j Ze]]) Ar (λg=>G8 (gk g,.U (ZU L g rs))) gs λg o=>#[[.u (Ar g),#v[L.j LD],#v[rs.j Ze]],rfl,by
  let ht:=j7 h (m g o) rs j k
  change _=Z (D.O [Ah (gk g),.U (ZU L g rs)])
  rw[Jb]
  rwa[VC,ht,DY]]
 rw[show gs.j (λg=>G8 (gk g,.U (ZU L g rs)))=(gs.j λg=>((gk g,.U (ZU L g rs)):KE)).j G8 by rw[B4];rfl]at f
 let i:=Rg (gs.j λg=>((gk g,.U (ZU L g rs)):KE)) [] (by
  rw[EZ,B4]
  show List.pairwise_map.ϡ (l.imp λa e=>a (Rk e))) (by simp;lia)
 rw[EZ,show B9 (gs.j λg=>((gk g,.U (ZU L g rs)):KE))=AI L rs gs by unfold B9;rw[B4];rfl]at i
 let p:=Zq (gs.j Ar) (by simp;lia)
 let c:EV [] ((gs.j λg=>((gk g,.U (ZU L g rs)):KE)).j G8)=Z (AI L rs gs):=i
 generalize L.j LD=W,rs.j Ze=R,gs.j Ar=q,(gs.j λg=>((gk g,.U (ZU L g rs)):KE)).j G8=Y',AI L rs gs=s at *
 apply Zp rfl ?_
 change VF [#v[W],#v[R],#v[q]]=_
 rwa[VF,FG,Zi,p,show Zr 1 [0,1] [#v[W],#v[R],#v[q]]=[.no,#v[W],#v[R]]from rfl,f,c,HM]
def
Xj:∀(a:U Row)(acc:U A7),∀k∈Zj (Es a acc),k∈Zj acc\/∃r∈a,k=r.1
 |[],acc,k,b=>.S b
 |r::a,acc,k,b=>by
  rcases Xj a (CW acc r.1 r.2) k b with h|⟨q,c,e⟩
  .grind [jS]
  .show .τ #[q,A5 _ c,e]
def GC(L a:AM)(rs rs':U Row)(zs:U (U Y)):U D:=zs.flatMap λg=>(J1 (E9 (C8 L g rs)) (E9 (C8 a g rs'))).j λk=>D.O [Ar g,Ah k]
variable {L L':AM}{rs rs':U Row}(h:Bv L)(h':Bv L')(hL:L.a=L'.a)(hr:∀r∈rs,AJ L r.1)(hr':∀r∈rs',AJ L' r.1)(hl:rs'.a<64)(hsb:∀r∈rs,r∈rs')(hLL:L=L')(hg:∀g∈gs,g.a=L.a)
include h h' hL hr hr' hl hsb hLL
def
ZCQ{g:U Y}(hg:g.a=L.a):QC [#v[ZU L g rs],#v[ZU L' g rs']]=Z (.χ ((J1 (E9 (C8 L g rs)) (E9 (C8 L' g rs'))).j Ah))/\(J1 (E9 (C8 L g rs)) (E9 (C8 L' g rs'))).a<64:=by
 let l:=h.n4
 let i:=h.n1
 let ok:=Oz hg hr
 let c:=Oz (hg.J hL) hr'
 let p:=ZB Bo (Zj (C8 L g rs))
 let f:=ZB Bo (Zj (C8 L' g rs'))
 let m1:∀k∈Zj (C8 L g rs),k∈(DN (qs L g) rs').j (·.1):=λk a=>by
  rcases Xj _ _ k a with a|⟨r,b,rfl⟩
  .cases a
  .let(q,j,rfl):=Bc.mp b
   show Ij (Ij (hsb q j))
 let m2:∀k∈Zj (C8 L' g rs'),k∈(DN (qs L g) rs').j (·.1):=λk a=>by
  subst hLL
  rcases Xj _ _ k a with a|⟨r,b,rfl⟩
  .cases a
  .show Ij b
 have:=ZGH (E9 (C8 L g rs)) (E9 (C8 L' g rs')) (by rw[Rh];show p.nodup_iff.ϡ ok.nd) (by rw[Rh];show f.nodup_iff.ϡ c.nd) (kf _) (kf _) ((DN (qs L g) rs').j (·.1))
  (λe d=>m1 _ (p.Υ.mp (by rw[<- Rh];show Ij d))) (λe d=>m2 _ (f.Υ.mp (by rw[<- Rh];show Ij d))) (by rw[Bu,DN,Bu];show hl) λk a=>by
   have:k.a=L.a:=by
    subst hLL
    let(r,b,rfl):=Bc.mp a
    show kH hg hr' r b
   show#[λz=>by rw[z]at this;simp at this;lia,∅]
 rw[<- ka,<- ka]at this
 show this
include hg
def
ZFd:∀(zs:U (U Y))(acc:U D)(j:Sl),(∀g∈zs,g∈gs)->acc.a+64*zs.a<=100000->(∀d∈acc,BM 2 d=J') ->
  ∃f,ZE (Zb 3) QF (zs.j Ar) [.u (.U (Zc (AI L rs gs)) .d),.u (.U (Zc (AI L' rs' gs)) .d),.χ acc,j]=.β [.u (.U (Zc (AI L rs gs)) .d),.u (.U (Zc (AI L' rs' gs)) .d),.χ (acc++GC L L' rs rs' zs),f]/\∀d∈acc++GC L L' rs rs' zs,BM 2 d=J':=by
 intro zs
 induction zs with
 |nil=>show λacc j _ _ l=>#[j,by rw[GC,List.flatMap_nil,Du];rfl,by rw[GC,List.flatMap_nil,Du];show l]
 |cons g zs p=>
  intro acc j o q l
  let i:=o g A6
  let(e,B):=ZCQ h h' hL hr hr' hl hsb hLL (hg g i)
  rw[show GC L L' rs rs' (g::zs)=(J1 (E9 (C8 L g rs)) (E9 (C8 L' g rs'))).j (λk=>D.O [Ar g,Ah k])++GC L L' rs rs' zs from List.flatMap_cons,<- Dy]
  generalize J1 (E9 (C8 L g rs)) (E9 (C8 L' g rs'))=a at *
  let r:=Oy L rs i
  let s:=Oy L' rs' i
  let t:=Zv (b:=Zb 0) (e:=Vw) (ρ:=[.no,.u (Ar g)]) Ah (λk=>D.O [Ar g,Ah k]) a λk _=>#[[.u (Ah k),.u (Ar g)],rfl,by
   rwa[Vw]]
  let u:=Zq (a.j Ah) (by simp;lia)
  let v:∀d∈(a.j λk=>D.O [Ar g,Ah k]),BM 2 d=J':=λd hd=>by
   let(k,_,rfl):=Bc.mp hd
   show(BM 2 (Ar g)&&(BM 2 (Ah k)&&J'))=J'
   rw[<- Jb,Ik,Ik];rfl
  let c:(a.j λk=>D.O [Ar g,Ah k]).a=a.a:=by simp
  rw[Cb]at q
  let m:acc.a+(a.j λk=>D.O [Ar g,Ah k]).a<=Az:=BX (show _<=100000 by rw[c];lia) (by ext)
  let hb:QF [.u (.U (Zc (AI L rs gs)) .d),.u (.U (Zc (AI L' rs' gs)) .d),.χ acc,.u (Ar g)]=.β [.u (.U (Zc (AI L rs gs)) .d),.u (.U (Zc (AI L' rs' gs)) .d),.χ (acc++a.j λk=>D.O [Ar g,Ah k]),.u (Ar g)]:=by
   generalize Ar g=C,D.U (Zc (AI L' rs' gs)) .d=w,D.U (Zc (AI L rs gs)) .d=y,ZU L g rs=E,ZU L' g rs'=G,(a.j λk=>D.O [Ar g,Ah k])=Y' at *
   erw[QF,Zi,show Zr 1 [3] [.val y,.val w,.own acc,.val C]=[.no,.val C]from rfl,Zh,Za,Bh,Ht,Hz,DG,r,s,Fl,D0,Zz,e,DY,Zn,u,t,LH,Db,if_pos m,Ef,Eg,Zd]
  let(f,z,n):=p (acc++a.j λk=>D.O [Ar g,Ah k]) (.u (Ar g)) (λx A=>o x (A5 _ A)) (by rw[D2,c];lia) (λd hd=>by
   rcases EH.mp hd with hd|hd
   .show l d hd
   .show v d hd)
  apply#[f,?_,n]
  rw[AT]
  erw[ZE,show Zb 3 (Ar g) [.val (.lst (Zc (AI L rs gs)) .d),.val (.lst (Zc (AI L' rs' gs)) .d),.own acc,j]=Z [.val (.lst (Zc (AI L rs gs)) .d),.val (.lst (Zc (AI L' rs' gs)) .d),.own acc,.val (Ar g)]from rfl,hb,z]
def
ZGF(f:gs.a<=12):Vy [.u (.U (Zc (AI L rs gs)) .d),.u (.U (Zc (AI L' rs' gs)) .d)]=Z (.χ (GC L L' rs rs' (Zx EF gs)))/\CT 2 (GC L L' rs rs' (Zx EF gs))=J':=by
 let i:=h.n1
 let j:L5 (Z (.U (Zc (AI L rs gs)) .d))=Z ((Zx EF gs).j Ar):=by
  show(DV (Zc (AI L rs gs))).L (λa=>EU F6 (a.j λp=>kD p.1))=_
  rw[Z1]
  change EU F6 ((AI L rs gs).j λp=>kD p.1)=_
  rw[Xe]
  show kL ∅ λg b z=>by have:=hg g b;rw[z]at this;simp at this;lia
 let(k,e,c):=ZFd h h' hL hr hr' hl hsb hLL hg (Zx EF gs) [] .no (λg b=>(ZB EF _).Υ.mp b) (by rw[(ZB EF _).Ψ];simp;lia) (λ_ h=>nomatch h)
 rw[EZ]at e c
 apply#[?_,G5 c]
 generalize D.U (Zc (AI L rs gs)) .d=l,D.U (Zc (AI L' rs' gs)) .d=m,GC L L' rs rs' (Zx EF gs)=n at *
 apply Zp rfl ?_
 change Vx [.u l,.u m,.no,.no]=_
 rwa[Vx,show Zg (Z ([]:U D))=Z []from rfl,Z4,ZN,j,e,Db,ZK]
end
def
kN{G:Gh}{q m:Y}(a:m≠0)(h:G[q]?=Z (.ϕ .d xs)):D5 m G (.ϋ q)=.u (.U xs .d):=by
 simp_all
def
Il{G:Gh}{n:Y}{c d:Cl}(h:G[n]?=Z c):(G++[d])[n]?=Z c:=by
 rw[FC (BR.mp h).1];show h
def
ZDO{L a:AM}(h:Bv L)(h':Bv a)(s:L.a=a.a){rs rs':U Row}(A:∀r∈rs,AJ L r.1)(c:∀r∈rs',AJ a r.1)(u:rs'.a<64)(k:∀r∈rs,r∈rs')(m:L=a)(B:gs.ι)(v:∀g∈gs,g.a=L.a)(f:gs.a<=12){G:Gh}{b t:Y}(hb:G[b]?=Z (Cn a (rs'.j Ze) t))(ht:G[t]?=Z (.ϕ .d (Zc (AI L rs gs))))(n:b≠t):
  VW [.ϋ b] G=Z (.ϋ (G.a+1),G.Ε b (Cn a (rs'.j Ze) G.a)++[.ϕ .d (Zc (AI a rs' gs)),.ϕ .l (GC L a rs rs' (Zx EF gs))]):=by
 let(e,C):=ZGF h h' s A c u k m v f
 generalize GC L a rs rs' (Zx EF gs)=E at *
 let o:=kM h' rs' c u gs B (λg H=>(v g H).J s) f
 let K:=Xi a rs' gs
 let p:Kz [.U (Zc (AI L rs gs)) .d]=Z (gs.j Ar):=by rw[bN,Xe]
 generalize N:rs'.j Ze=R at *
 generalize Zc (AI a rs' gs)=i,Zc (AI L rs gs)=j at *
 let q:(G.Ε b (Cn a R G.a)++[Cl.ϕ .d i])[G.a]?=Z (.ϕ .d i):=by
  rw[GN (by simp)];simp
 let F:D5 2 (G.Ε b (Cn a R G.a)++[Cl.ϕ .d i]) (.ϋ t)=.u (.U j .d):=kN (by ext) (Il (by rw[OA (BF n)];show ht))
 suffices M:VV ([.ϋ b,.no],G)=.Ϻ (.ϋ (G.a+1)) (G.Ε b (Cn a R G.a)++[.ϕ .d i,.ϕ .l E])from G9 (fi rfl M) rfl
 rwa[VV,gL,gG,kE hb,xP,Option.bind_some,if_pos (BR.mp ht).1,gK,gH,Mr 1 (by ext) hb ht,show D5 1 G (.cel t)=.val (.lst j .d)from kN (by ext) ht,Jw,Ez,K2 (L:=a) (R:=R) (T:=j),Xg (L:=a) (R:=R) (T:=j),p,o,Sf,jG,jL,K,F5,Il hb,true_and,show(3:Y)<1000 by ext,show Internal.putN "tables" Gd=Gd by symm,show ∀x y w z:IV,DW "tables" z Gd [x,y,w]=[x,y,z]from λx y w z=>by erw[DW,if_neg (show ¬ ("axes":Ae)="tables" by symm),if_neg (show ¬ ("standing":Ae)="tables" by symm),if_true],List.set_append_left _ _ (BR.mp hb).1,gJ,gI,Mr 2 (by ext) (Il (Jc hb)) q,F,DU,K3 (L:=a) (R:=R) (T:=i),e,Ey,C,D2,List.length_set,Dy,Kj,EZ]
def
Xk{G:Gh}{q:Y}(h:G[q]?=Z (.ϕ .l xs)):D5 2 G (.ϋ q)=#v[xs]:=by
 simp_all
def
ZzO{G:Gh}{n:Y}{c:Cl}(h:G[n]?=Z c):G.Ε n c=G:=by
 apply(Jy)
 intro i
 by_cases e:n=i
 .subst e;rw[Jc h,h]
 .rw[Ei e]
def
ZDV(rs:U Row)(r:Row)(d:rs.a<64){G:Gh}{n:Y}(h:G[n]?=Z (.ϕ .l (rs.j Ze))):TL [.ϋ n,.u (Ze r)] G=Z (.u .Y,G.Ε n (.ϕ .l ((rs++[r]).j Ze))):=by
 let b:M9 (.r ((rs.j Ze).a:W')) (.r 200)=Z (.bl O'):=by
  change Z (D.bl (decide ((200:W')<=((rs.j Ze).a:W'))))=_
  grind [Bu]
 let c:(rs.j Ze).a<Az:=by rw[Bu];show BQ (show rs.a<1000 by lia) (by ext)
 let a:ZA [.U (rs.j Ze)]=Z (.r ((rs.j Ze).a:W')):=rfl
 rw[De,AT,Dv]
 generalize rs.j Ze=R,Ze r=f at *
 let e:TK ([.ϋ n,.u f],G)=.β ([.ϋ n,.u f],G.Ε n (.ϕ .l (R++[f]))):=by
  rwa[TK,Xk h,a,b,JM,h,if_pos c]
 show G9 (fi rfl e) rfl
def
Xl(r:Row):BM 2 (Ze r)=J':=by
 show(BM 2 (Ah r.1)&&(BM 2 (.r r.2)&&J'))=J'
 rw[Ik];rfl
def
Xm(rs:U Row):CT 2 (rs.j Ze)=J':=G5 λd hd=>by let(r,_,rfl):=Bc.mp hd;show Xl r
def
Xn(r s:Row):Ba (Ze r) (Ze s)=decide (r=s):=by
 let(k,x):=r
 let(l,y):=s
 show(Ba (Ah k) (Ah l)&&(Ba (.r x) (.r y)&&J'))=_
 rw[ZBo]
 simp[Prod.ext_iff]
def
Xo(n:Y)(r:Row):AY (n+2) (Ze r)=J':=by
 show(AY (n+1) (Ah r.1)&&(AY (n+1) (.r r.2)&&J'))=J'
 rw[QV];rfl
def
kO(rs:U Row):(rs.j Ze).ϔ (AY 12)=J':=by
 rw[Dc]
 intro d hd
 let(r,_,rfl):=Bc.mp hd
 show Xo 10 r
def
ZDp(r:Row)(rs:U Row):Gn (Ze r) (rs.j Ze)=decide (r∈rs):=by
 unfold Gn
 induction rs with
 |nil=>rfl
 |cons s rs a=>
  rw[AT,List.any_cons,a,Xn]
  by_cases c:s=r
  .subst c;simp
  .have:¬ r=s:=λe=>c e.Ρ
   simp[c,this]
def
kP(r:Row):∀rs:U Row,r∈rs->∃j,(rs.j Ze).findIdx? (λz=>Ba z (Ze r))=Z j/\(rs.j Ze).ϧ j=(rs.erase r).j Ze
 |s::rs,h=>by
  by_cases c:s=r
  .subst c;show#[0,by simp[List.findIdx?_cons,Xn],by simp]
  .let a:r∈rs:=by
    rcases Bl.mp h with e|h
    .show absurd e.Ρ c
    .show h
   let(j,h1,h2):=kP r rs a
   apply#[j+1,?_,?_]
   .erw[AT,List.findIdx?_cons,Xn,decide_eq_false c,h1,Fg,if_false,D0]
   .rw[List.erase_cons_tail (by exists c)]
    erw[AT,List.eraseIdx_cons_succ,h2]
def
ZDb{rs:U Row}{r:Row}(a:r∈rs){G:Gh}{n:Y}{xs:U IV}(h:G[n]?=Z (.ϕ .l (rs.j Ze))):ND (Z n) (Z (Ze r)) (xs,G)=Z (.u .Y,G.Ε n (.ϕ .l ((rs.erase r).j Ze))):=by
 let(j,h1,h2):=kP r rs a
 erw[ND,h,FL,Xo 10 r,kO rs,F7,if_true,h1,D0,h2]
def
ZCc{rs:U Row}{r:Row}(a:r∈rs){G:Gh}{n:Y}(h:G[n]?=Z (.ϕ .l (rs.j Ze))):TN [.ϋ n,.u (Ze r)] G=Z (.u .Y,G.Ε n (.ϕ .l ((rs.erase r).j Ze))):=by
 let b:=Xk h
 let c:Dx J' (Ze r) (.U (rs.j Ze))=Z (.bl O'):=by
  erw[Dx,FL,Xo 10 r,kO rs,ZDp,decide_eq_true a,F7,if_true,KV]
 let d:=ZDb a h (xs:=[.ϋ n,.u (Ze r)])
 generalize rs.j Ze=R,Ze r=g,(rs.erase r).j Ze=f at *
 let e:TM ([.ϋ n,.u g],G)=.β ([.ϋ n,.u g],G.Ε n (.ϕ .l f)):=by
  rwa[TM,b,c,d]
 show G9 (fi rfl e) rfl
def DB(rs:U Row)(c:Fa):U Row:=bif c.1 then rs++[c.2]else rs.erase c.2
def
kQ(rs:U Row)(c:Fa):(DB rs c).a<=rs.a+1:=by
 unfold DB
 cases c.1
 .show LU (List.length_erase_le ..)
 .simp
def
ZBu{rs:U Row}{c:Fa}{r:Row}(h:r∈DB rs c):r∈rs\/r=c.2:=by
 unfold DB at h
 cases a:c.1 with
 |true=>rw[a]at h;exists h
 |false=>rw[a]at h;show .S (List.mem_of_mem_erase h)
def Mt(L:AM):U Row->U Fa->V'
 |_,[]=>True
 |a,c::b=>(AJ L c.2.1/\(c.1=O'->c.2∈a))/\Mt L (DB a c) b
def
Zwh{L:AM}(h:Bv L)(a d:IV){rs:U Row}(g:rs.a<64){c:Fa}(i:AJ L c.2.1)(j:c.1=O'->c.2∈rs){G:Gh}{n:Y}(e:G[n]?=Z (.ϕ .l (rs.j Ze))):
  QL ([#v[L.j LD],a,d,.ϋ n,.u (C7 c)],G)=.β ([#v[L.j LD],a,d,.ϋ n,.u (C7 c)],G.Ε n (.ϕ .l ((DB rs c).j Ze))):=by
 unfold QL DB
 let f:=ZD7 h c i
 let(b,r):=c
 cases b with
 |true=>rwa[f,Et,show Ap (C7 (J',r)) (.int 0)=Z (HB J')from rfl,show Ap (C7 (J',r)) (.int 1)=Z (Ah r.1)from rfl,show Ap (C7 (J',r)) (.int 2)=Z (.int r.2)from rfl,ki J',show D.tup [Ah r.1,.int r.2]=Ze r from rfl,Xl r,ZDV rs r g e,cond_true]
 |false=>rwa[f,Et,show Ap (C7 (O',r)) (.int 0)=Z (HB O')from rfl,show Ap (C7 (O',r)) (.int 1)=Z (Ah r.1)from rfl,show Ap (C7 (O',r)) (.int 2)=Z (.int r.2)from rfl,ki O',show D.tup [Ah r.1,.int r.2]=Ze r from rfl,Xl r,ZCc (j rfl) e,cond_false]
def
kR{L:AM}(h:Bv L)(b d:IV){n:Y}:∀(cs:U Fa)(rs:U Row)(e:IV)(G:Gh),rs.a+cs.a<64->Mt L rs cs->G[n]?=Z (.ϕ .l (rs.j Ze)) ->
  ∃a,G4 4 QL (cs.j C7) ([#v[L.j LD],b,d,.ϋ n,e],G)=.β ([#v[L.j LD],b,d,.ϋ n,a],G.Ε n (.ϕ .l ((cs.Λ DB rs).j Ze)))
 |[],rs,e,G,_,_,f=>#[e,by rw[List.foldl_nil,ZzO f];rfl]
 |c::cs,rs,e,G,g,⟨⟨j,k⟩,m⟩,f=>by
  erw[Cb]at g
  have:=kQ rs c
  let(a,i):=kR h b d cs (DB rs c) (.u (C7 c)) (G.Ε n (.ϕ .l ((DB rs c).j Ze))) ∅ m (Jc f)
  apply#[a,?_]
  rw[List.set_set]at i
  erw[AT,G4,Ef,Eg,Zwh h b d (EQ g) j k f]
  show i
def
Xp{L:AM}:∀(cs:U Fa){rs:U Row},(∀r∈rs,AJ L r.1)->Mt L rs cs->∀r∈cs.Λ DB rs,AJ L r.1
 |[],_,h,_=>h
 |c::cs,rs,h,⟨⟨b,_⟩,d⟩=>Xp cs (λr a=>by
  rcases ZBu a with a|rfl
  .show h r a
  .show b) d
def
Xq:∀(cs:U Fa)(rs:U Row),(cs.Λ DB rs).a<=rs.a+cs.a
 |[],_=>A9 _
 |c::cs,rs=>by
  have:=kQ rs c
  have:=Xq cs (DB rs c)
  rw[IG,Cb];lia
def
ZvQ{L:AM}(h:Bv L){rs:U Row}(d:∀r∈rs,AJ L r.1){cs:U Fa}(f:rs.a+cs.a<64)(c:Mt L rs cs)(G:Gh):Wh [#v[L.j LD],#v[rs.j Ze],#v[cs.j C7]] G=Z (#v[(Zx CG (cs.Λ DB rs)).j Ze],G++[.ϕ .l ((cs.Λ DB rs).j Ze)]):=by
 let(o,e):=kR h #v[rs.j Ze] #v[cs.j C7] (n:=G.a) cs rs .no (G++[.ϕ .l (rs.j Ze)]) f c (by simp)
 let sp:=Xp cs d c
 let ln:=Xq cs rs
 generalize cs.Λ DB rs=a at *
 rw[show(G++[Cl.ϕ .l (rs.j Ze)]).Ε G.a (.ϕ .l (a.j Ze))=G++[.ϕ .l (a.j Ze)] by simp]at e
 let p:=h.n4
 let g:=ZvH a ∅ λr i=>by have:=(sp r i).Ϫ;lia
 let b:D5 2 (G++[.ϕ .l (a.j Ze)]) (.ϋ G.a)=#v[a.j Ze]:=Xk (by simp)
 let j:=Xm (Zx CG a)
 let k:=Xm rs
 generalize L.j LD=q,cs.j C7=C,a.j Ze=W,(Zx CG a).j Ze=Y',rs.j Ze=R at *
 suffices m:Wg ([#v[q],#v[R],#v[C],.no,.no],G)=.Ϻ #v[Y'] (G++[.ϕ .l W])from G9 (fi rfl m) rfl
 rwa[Wg,gX,gR,Ez,show Hr [.lst R]=Z R from rfl,jG,jL,k,gW,gS,JL,KD,e,gU,gT,b,Ky,g,j,xF]
def
ZCq{L:AM}(h:Bv L)(G:Gh):QK [.ϋ G.a,#v[L.j LD]] (G++[.mix (.i [] "Book") []])=Z (.u .Y,G++[Cn L [] (G.a+1),.ϕ .d (Zc (AI L [] [zg L]))]):=by
 let m:=h.al
 let n:=jm h
 let ht:=kM h [] (λ_ h=>nomatch h) (by ext) [zg L] (by simp) (by simp) (by simp)
 rw[Dv,AT,Dv,<- ZEh]at ht
 let o:=Zv (b:=Zb 0) (e:=gt) (ρ:=[.no]) LD LD L λp _=>#[[.u (LD p)],rfl,rfl]
 let q:=Zq (L.j LD) (by have:=h.n4;simp;lia)
 let r:=Ms L
 let t:=Xi L [] [zg L]
 let u:Z6 "Book" "axes" (.U [.U (L.j LD),.U []] (.i ["axes","standing"] "Book"))=Z (.U (L.j LD)):=rfl
 let f:∀c:Cl,(G++[c])[G.a]?=Z c:=λc=>by simp
 let l:∀c d:Cl,(G++[c]).Ε G.a d=G++[d]:=λc d=>by simp
 let g:∀c d:Cl,(G++[c,d])[G.a]?=Z c:=λc d=>by simp
 let j:∀c e d:Cl,(G++[c,e]).Ε G.a d=G++[d,e]:=λc e d=>by simp
 let gl:∀c:Cl,(G++[c]).a=G.a+1:=λc=>by simp
 let w:∀c d:Cl,G++[c]++[d]=G++[c,d]:=λc d=>by simp
 let A:∀a:U D,D5 1 (G++[.mix (.i ["axes","standing"] "Book") [#v[a],#v[[]]]]) (.ϋ G.a)=.u (.U [.U a,.U []] (.i ["axes","standing"] "Book")):=λa=>by
  have:=f (.mix (.i ["axes","standing"] "Book") [#v[a],#v[[]]])
  simp_all
 generalize Zc (AI L [] [zg L])=TT at *
 generalize k:L.j LD=a at *
 suffices e:QJ ([.ϋ G.a,#v[a]],G++[.mix (.i [] "Book") []])=.β ([.ϋ G.a,#v[a]],G++[.mix kB [#v[a],#v[[]],.ϋ (G.a+1)],.ϕ .d TT])from by
  show(match QJ ([.ϋ G.a,#v[a]],G++[.mix (.i [] "Book") []])with | .ret x B=>Z (x,B) | .next s=>Z (.u .Y,s.2)|_=>J)=_
  rw[e,<- k]
 rwa[QJ,gF,gu,m,Et,gE,gv,Zi,show ∀V:Sl,Zr 1 [] [V,#v[a]]=[.no]from λ_=>rfl,q,o,jG,jL,r,xF,F5,f,l,and_self,true_and,putN,DW,show(0:Y)<1000 by ext]
 rwa[gD,gy,show Zg (Z ([]:U D))=Z []from rfl,jG,jL,show CT 2 []=J' from rfl,xF,F5,f,l,Nat.zero_add,true_and,show(1:Y)<1000 by ext,show Internal.putN "standing" ["axes"]=(["axes","standing"]:U Ae) by symm,show ∀x y:IV,DW "standing" y ["axes"] [x]=[x,y]from λx y=>by erw[DW,if_neg (show ¬ ("axes":Ae)="standing" by symm)],gC,gz,A,Jw,u,n,ht,Sf,t,gl,w,g,j,Mo,show(2:Y)<1000 by ext,show Internal.putN "tables" ["axes","standing"]=(["axes","standing","tables"]:U Ae) by symm,show ∀x y z:IV,DW "tables" z ["axes","standing"] [x,y]=[x,y,z]from λx y z=>by erw[DW,if_neg (show ¬ ("axes":Ae)="tables" by symm),if_neg (show ¬ ("standing":Ae)="tables" by symm)],gB]
def
ZB5:Gd.Ϗ "pour"=O':=by symm
def
ZwV(rs:U Row):BM 1 (.U (rs.j Ze))=J':=by
 show(!vk 1 .l&&CT 1 (rs.j Ze))=J'
 rw[G5 λd hd=>by
  let(r,_,rfl):=Bc.mp hd
  show(BM 1 (Ah r.1)&&(BM 1 (.r r.2)&&J'))=J'
  rw[Ik];rfl];rfl
structure BS(L:AM)(rs:List Row)(gs:List (List Y))(b:Y)(G:Gh):V' where
 gl:Bv L
 sp:∀r∈rs,AJ L r.1
 nd:gs.ι
 gn:∀g∈gs,g.a=L.a
 g12:gs.a<=12
 bk:∃t,G[b]?=Z (Cn L (rs.j Ze) t)/\G[t]?=Z (.ϕ .d (Zc (AI L rs gs)))/\b≠t
structure RN(L:AM)(rs:List Row)(gs:List (List Y))(b j:Y)(Y':List D)(G G':Gh):V' where
 bs:BS L rs gs b G'
 tl:G'[j]?=Z (.ϕ .l Y')
 jb:G.a<=j
 tj:∀t,G'[b]?=Z (Cn L (rs.j Ze) t)->t≠j/\G.a<=t
 ex:∀i,i≠b->i<G.a->G'[i]?=G[i]?
def
kS:∀(cs:U Fa){rs:U Row},(∀c∈cs,c.1=J')->∀r∈rs,r∈cs.Λ DB rs
 |[],_,_,_,h=>h
 |c::cs,rs,a,r,h=>kS cs (λx b=>a x (A5 _ b)) r (by rw[DB,a c A6];show Jg _ h)
def
ZCj{L:AM}{rs:U Row}{b:Y}{G:Gh}(s:BS L rs gs b G){cs:U Fa}(N:rs.a+cs.a<64)(p:∀c∈cs,c.1=J')(E:Mt L rs cs):
  ∃j G',Wl [.ϋ b,#v[cs.j C7]] G=Z (.ϋ j,G')/\RN L (Zx CG (cs.Λ DB rs)) gs b j (GC L L rs (Zx CG (cs.Λ DB rs)) (Zx EF gs)) G G':=by
 let(h,q,H,P,k,t,hb,ht,m):=s
 let K:=ZvQ h q N E G
 let Q:=(BR.mp hb).1
 let f:=ZB CG (cs.Λ DB rs)
 let ln:=Xq cs rs
 let sp:=Xp cs q E
 let sub:=kS cs p (rs:=rs)
 generalize cs.Λ DB rs=a at *
 let n:∀r∈Zx CG a,AJ L r.1:=λr u=>sp r (f.Υ.mp u)
 let e:=ZDO h h rfl (rs:=rs) (rs':=Zx CG a) q n (by rw[f.Ψ];lia) (λr u=>f.Υ.ϡ (sub r u)) rfl (gs:=gs) H P k (Jc (Il hb)) (show((G++[Cl.ϕ .l (a.j Ze)]).Ε b (Cn L ((Zx CG a).j Ze) t))[t]?=Z (.ϕ .d (Zc (AI L rs gs))) by rw[OA (BF m)];show Il ht) m
 rw[List.set_set]at e
 let F:((G++[Cl.ϕ .l (a.j Ze)]).Ε b (Cn L ((Zx CG a).j Ze) t)).a=G.a+1:=by simp
 rw[F]at e
 generalize GC L L rs (Zx CG a) (Zx EF gs)=A at *
 let g:((G++[Cl.ϕ .l (a.j Ze)]).Ε b (Cn L ((Zx CG a).j Ze) (G.a+1))++[Cl.ϕ .d (Zc (AI L (Zx CG a) gs)),.ϕ .l A])[b]?=Z (Cn L ((Zx CG a).j Ze) (G.a+1)):=by
  rw[FC (by simp;lia)];show Jc (Il hb)
 apply#[G.a+1+1,(G++[Cl.ϕ .l (a.j Ze)]).Ε b (Cn L ((Zx CG a).j Ze) (G.a+1))++[Cl.ϕ .d (Zc (AI L (Zx CG a) gs)),.ϕ .l A],?_,#[h,n,H,P,k,G.a+1,g,?_,∅],?_,∅,λt' M=>?_,λi B o=>?_]
 .let Y':BM 1 (.U (L.j LD))=J':=by
   show(!vk 1 .l&&CT 1 (L.j LD))=J'
   rw[Ms];rfl
  let f2:=ZwV rs
  let a1:=K2 (L:=L) (R:=rs.j Ze) (T:=Zc (AI L rs gs))
  let a2:=Xg (L:=L) (R:=rs.j Ze) (T:=Zc (AI L rs gs))
  let v1:D5 1 G (.ϋ b)=.u (BD L (rs.j Ze) (Zc (AI L rs gs))):=Mr 1 (by ext) hb ht
  let B:EE "Book" "tables_renewed" (Cn L ((Zx CG a).j Ze) t)=J':=by rwa[EE,ZDR]
  clear g
  generalize cs.j C7=C,(G++[Cl.ϕ .l (a.j Ze)]).Ε b (Cn L ((Zx CG a).j Ze) (G.a+1))++[Cl.ϕ .d (Zc (AI L (Zx CG a) gs)),.ϕ .l A]=GF,BD L (rs.j Ze) (Zc (AI L rs gs))=B1,rs.j Ze=R0 at *
  suffices e2:Wk ([.ϋ b,#v[C]],G)=.Ϻ (.ϋ (G.a+1+1)) GF from G9 (fi rfl e2) rfl
  rwa[Wk,v1,a1,a2,Y',f2,K,F5,Il hb,Nat.zero_add,Mo,true_and,show(3:Y)<1000 by ext,and_self,show Internal.putN "standing" Gd=Gd by symm,show ∀x y w z:IV,DW "standing" z Gd [x,y,w]=[x,z,w]from λx y w z=>by erw[DW,if_neg (show ¬ ("axes":Ae)="standing" by symm),if_true],FK,Jc (Il hb),B,show b<((G++[Cl.dat .l (a.map Ze)]).set b (Cn L ((Zx CG a).map Ze) t)).length by rw[F];show Nat.lt_add_right 1 Q,e]
 .rw[GN (by simp)];simp
 .rw[GN (by simp)];simp
 .rw[g]at M
  have:=Fc M
  simp[Cn]at this
  lia
 .rw[FC (by simp;show Nat.lt_add_right 1 o),OA B,FC o]
def
Xr{d:D}(h:AY 12 d=J'):CL d d=Z (.bl O'):=by
 have:=Sk 12 _ h
 erw[CL,FL,h,this,F7,if_true,KV]
def
CZ.of{L:AM}{g:U Y}(a:g.a=L.a)(h:∀k (h1:k<L.a) (h2:k<g.a),g[k]<=wh L[k]):CZ L g:=#[a,λq b=>by
 grind [List.getElem_of_mem]]
def Im:D->jp
 |.non=>J'
 |d=>JV d
def
ZFQ(d:D)(hd:Sm d):Qr [.u d]=Z (.bl (Im d)):=by
 let h:=WF d hd
 cases d with
 |non=>rfl
 |_=>rwa[Qr,DS,h,Im];rfl
variable {L:AM}{ls:BB}{p k:Y}{y z d:D}{zs:U D}
def
Rm(h:L[k]?=Z ls):Ap (.U (L.j LD)) (.r k)=Z (LD ls):=Ev (by rw[DF,h];rfl)
variable(hL:L[k]?=Z ls)(hg:GL ls p)(sy:Sm y)
include hL hg sy
def
ZBl(c:Gb (wh ls) y=J'){r:Rv}(h2:Qs [#v[L.j LD],.u (.O [.r k,y,z])]=.Ϻ r):Mi [#v[L.j LD],.u (.O [.r k,y,z])]=Z r:=by
 let a:=kr (L.j LD) (.r k) trivial
 rw[ku (by simpa using(BR.mp hL).1)]at a
 let b:=km hg y sy
 let d:=Rm hL
 rw[c]at b
 apply Zp rfl ?_
 generalize L.j LD=W,LD ls=A at *
 change UQ [#v[W],.u (.O [.r k,y,z])]=_
 rwa[UQ,d9,d6,show B5 [.tup [.int k,y,z],.ty "tuple"]=Z (.bl J')from rfl,show ZA [.tup [.int k,y,z]]=Z (.int 3)from rfl,show CL (.int 3) (.int 3)=Z (.bl O')from rfl,Et,d8,d7,show Ap (.tup [.int k,y,z]) (.int 0)=Z (.int k)from rfl,show Ap (.tup [.int k,y,z]) (.int 1)=Z y from rfl,a,d,b,h2]
def
ZBE(g:Gb (wh ls) y=J')(hz:z=.U zs\/z=.O zs)(h:∀d∈zs,Sm d)(i:zs.a<=1000):Mi [#v[L.j LD],.u (.O [.r k,y,z])]=Z (.u (.bl (zs.ϔ Im))):=by
 let a:=Zv (b:=Zb 0) (e:=Qr) (ρ:=[.no]) (λd=>d) (λd=>D.bl (Im d)) zs λd hd=>#[[.u d],rfl,ZFQ d (h d hd)]
 rw[List.map_id',show zs.j (λd=>D.bl (Im d))=(zs.j Im).j D.bl by rw[B4];rfl]at a
 let q:=Zq zs ∅
 let f:Do [.U ((zs.j Im).j D.bl)]=Z (.bl (zs.ϔ Im)):=by
  erw[Do,Ow,D0,GX];rfl
 apply ZBl hL hg sy g ?_
 rcases hz with rfl|rfl
 .rwa[Qs,UN,show Ap (.tup [.int k,y,.lst zs]) (.int 2)=Z (.lst zs)from rfl,show B5 [.lst zs,.tup [.ty "list",.ty "tuple"]]=Z (.bl J')from rfl,Et,UP,UO,Zi,q,show ∀c,Zr 1 [] c=[.no]from λ_=>rfl,a,f]
 .rwa[Qs,UN,show Ap (.tup [.int k,y,.tup zs]) (.int 2)=Z (.tup zs)from rfl,show B5 [.tup zs,.tup [.ty "list",.ty "tuple"]]=Z (.bl J')from rfl,Et,UP,UO,Zi,q,show ∀c,Zr 1 [] c=[.no]from λ_=>rfl,a,f]
end
def
ZzK(W:U D)(zs:U D)(v:D->jp)(c:∀d∈zs,Mi [#v[W],.u d]=Z (.u (.bl (v d))))(g:zs.a<=1000):N6 [#v[W],#v[zs]]=Z (.u (.bl (zs.ϔ v))):=by
 let a:=Zv (b:=Zb 0) (e:=U1) (ρ:=[.no,#v[W]]) (λd=>d) (λd=>D.bl (v d)) zs λd hd=>#[[.u d,#v[W]],rfl,by rwa[U1,c d hd]]
 rw[List.map_id',show zs.j (λd=>D.bl (v d))=(zs.j v).j D.bl by rw[B4];rfl]at a
 let f:Do [.U ((zs.j v).j D.bl)]=Z (.bl (zs.ϔ v)):=by
  erw[Do,Ow,D0,GX];rfl
 let q:=Zq zs ∅
 apply Zp rfl ?_
 change U2 [#v[W],#v[zs]]=_
 rwa[U2,show B5 [.lst zs,.ty "list"]=Z (.bl J')from rfl,Zi,q,show Zr 1 [0] [#v[W],#v[zs]]=[.no,#v[W]]from rfl,a,f]
def
vio(c:U At)(d:c.a<64):∃cs:U At,Oa [#v[c.j aD]]=Z (.χ (cs.j aD))/\cs.a<64/\∀a,a∈cs↔a∈c:=by
 let j:=Zv (b:=Zb 0) (e:=Vf) (ρ:=[.no]) aD (λa=>Ah [a]) c λa _=>#[[.u (aD a)],rfl,rfl]
 rw[show c.j (λa=>Ah [a])=(c.j λa=>[a]).j Ah by rw[B4];rfl]at j
 let o:=Q6 #v[(c.j λa=>[a]).j Ah] (c.j λa=>[a]) (.S rfl) (by exists d) λl d=>by
  let(a,_,rfl):=Bc.mp d
  show#[by simp,by simp]
 let f:∀k,k∈Dh J (Zx Bo (c.j λa=>[a]))↔∃a∈c,[a]=k:=λk=>by
  rw[WV,(ZB Bo _).Υ,Bc]
 let g:(Dh J (Zx Bo (c.j λa=>[a]))).a<64:=GY (Q3 _ _) (by rw[(ZB Bo _).Ψ,Bu];show d)
 generalize Dh J (Zx Bo (c.j λa=>[a]))=n at *
 let m:=Zv (b:=Zb 0) (e:=Vg) (ρ:=[.no]) Ah (λk=>aD (hd k)) n λk i=>#[[.u (Ah k)],rfl,by
  let(a,_,rfl):=(f k).mp i
  rfl]
 rw[show n.j (λk=>aD (hd k))=(n.j hd).j aD by rw[B4];rfl]at m
 let p:=Zq (c.j aD) (by simp;lia)
 let q:=Zq (n.j Ah) (by simp;lia)
 apply#[n.j hd,?_,by simpa using g,λa=>#[λh=>?_,λh=>Bc.mpr #[[a],(f _).mpr #[a,h,rfl],rfl]]]
 .generalize c.j aD=M,(c.j λa=>[a]).j Ah=V,n.j Ah=W,(n.j hd).j aD=Y' at *
  apply Zp rfl ?_
  change N9 [#v[M]]=_
  rwa[N9,Zi,show Zr 1 [] [#v[M]]=[.no]from rfl,p,j,o,DY,q,m,ZK]
 .let(k,i,rfl):=Bc.mp h
  let(a,r,rfl):=(f k).mp i
  show r
abbrev Pk:=Y×Y×U At×jp
def Xs(vs:U At):jp->D
 |true=>.O (vs.j aD)
 |false=>.U (vs.j aD)
abbrev Bz(q:Pk):D:=.O [.r q.1,.r q.2.1,Xs q.2.2.1 q.2.2.2]
structure AK(kvs:Bd)(n:Y):V' where
 at':∀p∈kvs,ES p.1=J'
 len:kvs.a<=n
def
Ro:∀(es:U (At×D))(kvs:Bd)(n:Y),AK kvs n->n+es.a<=10000->∃b,EV kvs (es.j λe=>D.O [aD e.1,e.2])=Z b/\AK b (n+es.a)/\∀a,Zl b (.at a)=((es.reverse.find? λe=>decide (e.1=a)).j (·.2)).or (Zl kvs (.at a))
 |[],kvs,n,h,_=>#[kvs,rfl,h,λa=>by simp]
 |e::es,kvs,n,h,d=>by
  erw[Cb]at d
  let(b,f,h1,h2):=Ro es (ZQ kvs (.at e.1) e.2) (n+1) #[Oq h.at',BX (LP _ _ _) (Ld h.Ϫ)] ∅
  apply#[b,?_,by rw[Cb,Nat.add_comm es.a 1,<- Nat.add_assoc];show h1,λa=>?_]
  .let g:kvs.a<Az:=GY h.Ϫ (BQ (show n<100000 by lia) (by ext))
   erw[AT,EV,Hw,Gs e.1 h.at',decide_eq_true g,F7,if_true,f]
  .rw[h2 a,HW,List.reverse_cons,List.find?_append]
   cases es.reverse.find? λe=>decide (e.1=a)with
   |some x=>rfl
   |none=>by_cases c:e.1=a<;>simp[c]
def FO(ps:U Pk)(k:Y)(l:U At):jp:=ps.ϔ λq=>!decide (q.1=k)||decide (l.B q.2.1 .Y∈q.2.2.1)
def
ZsO(W PS:U D)(k:Y)(q:Pk)(L:q.2.2.1.a<=100)(i:BB)(r:∀l∈i,l.a<=4)(hz:i.a<=1000)(o:Sl):∃n:Sl,Oc [#v[W],#v[PS],‹k›,#v[i.j Ah],.u (Bz q),o]=.β [#v[W],#v[PS],‹k›,#v[(i.ν λl=>!decide (q.1=k)||decide (l.B q.2.1 .Y∈q.2.2.1)).j Ah],.u (Bz q),n]:=by
 let(a,j,f,b):=q
 let p:Ap (Bz (a,j,f,b)) (.r 0)=Z (.r a):=rfl
 let s:Ap (Bz (a,j,f,b)) (.r 1)=Z (.r j):=rfl
 let u:Ap (Bz (a,j,f,b)) (.r 2)=Z (Xs f b):=rfl
 let eq:=WI (a:W') (k:W')
 by_cases c:a=k
 .subst c
  rw[decide_eq_true rfl]at eq
  let w:=Zv (b:=Zb 0) (e:=Vq) (ρ:=[.no]) aD (λv=>D.O [aD v,.bl J']) f λv _=>#[[.u (aD v)],rfl,by rwa[Vq]]
  let(g,m,z,A):=Ro (f.j λv=>(v,.bl J')) [] 0 #[λ_ h=>(nomatch h),A9 _] (by simp;lia)
  rw[B4]at m
  let m:EV [] (f.j λv=>D.O [aD v,.bl J'])=Z g:=m
  let B:∀a,(Zl g (.at a)).μ=decide (a∈f):=λa=>by
   rw[A a,show Zl [] (.at a)=J from rfl,Option.or_none,Pu,List.isSome_find?,List.any_reverse,List.any_map,Bool.eq_iff_iff,List.any_eq_true,decide_eq_true_eq]
   show#[λ⟨x,C,e⟩=>by rw[<- of_decide_eq_true e];show C,λh=>#[a,h,decide_eq_true rfl]]
  let E:=K1 (b:=Zb 0) (t:=Vr) (e:=fR) (ρ:=[.no,.u (Bz (a,j,f,b)),.jk (Zc g) .d]) Ah Ah (λl=>decide (l.B j .Y∈f)) i λl G=>#[[.u (Ah l),.u (Bz (a,j,f,b)),.jk (Zc g) .d],rfl,by
   let h1:=JZ l j (by have:=r l G;lia)
   let h2:Dp O' (aD (l.B j .Y)) (.U (Zc g) .d)=Z (.bl (decide (l.B j .Y∈f))):=by
    rw[Kv,Hw]
    rwa[Gs _ z.at']
    rw[Bool.false_bne,B]
   show#[by rwa[Vr,s,h1,h2],rfl]]
  let H:=Zq (f.j aD) (by simp;lia)
  let F:=Zq (i.j Ah) (by simp;lia)
  apply#[.χ (Zc g) .d,?_]
  let fe:(i.ν λl=>!decide (a=a)||decide (l.getD j .non∈f))=i.filter λl=>decide (l.B j .Y∈f):=by simp
  rw[fe]
  generalize Bz (a,j,f,b)=Q at *
  ext b<;>rwa[Oc,p,eq,u,Xs,FG,Zi,H,show ∀y,Zr 1 [] y=[.no]from λ_=>rfl,w,m,Ea,show Zr 1 [4,5] [#v[W],#v[PS],‹a›,#v[i.map Ah],.val Q,.own (Zc g) .d]=[.no,.val Q,.lent (Zc g) .d]from rfl,F,E]
 .rw[decide_eq_false ∅]at eq
  apply#[o,?_]
  rw[List.filter_eq_self.ϡ λl _=>by rw[decide_eq_false c];rfl]
  generalize Bz (a,j,f,b)=Q at *
  rwa[Oc,p,eq]
def
kT(W PS:U D)(k:Y):∀(ps:U Pk)(a:BB)(c b:Sl),(∀q∈ps,q.2.2.1.a<=100)->(∀l∈a,l.a<=4)->a.a<=1000->∃d e:Sl,ZE (Zb 4) Oc (ps.j Bz) [#v[W],#v[PS],‹k›,#v[a.j Ah],c,b]=.β [#v[W],#v[PS],‹k›,#v[(a.ν (FO ps k)).j Ah],d,e]
 |[],a,c,b,_,_,_=>#[c,b,by rw[(List.filter_eq_self.ϡ λ_ _=>rfl:a.ν (FO [] k)=a)];rfl]
 |q::ps,a,c,b,f,g,h=>by
  let(j,m):=ZsO W PS k q (f q A6) a g h b
  let(n,o,i):=kT W PS k ps (a.ν λl=>!decide (q.1=k)||decide (l.getD q.2.1 .non∈q.2.2.1)) (.val (Bz q)) j (λx p=>f x (A5 _ p)) (λl r=>g l (Iu.mp r).1) (BX (Mq _ _) h)
  apply#[n,o,?_]
  rw[List.filter_filter,show(λl=>FO ps k l&&(!decide (q.1=k)||decide (l.getD q.2.1 .non∈q.2.2.1)))=FO (q::ps) k from funext λl=>by rw[FO,FO,Jz,Bool.and_comm]]at i
  rwa[AT,ZE,Zb,m]
  show i
def
Zwb{L:AM}(h:Bv L){k:Y}{c:BB}(j:L[k]?=Z c)(ps:U Pk)(n:∀q∈ps,q.2.2.1.a<=100):∃cs:U At,QD [#v[L.j LD],#v[ps.j Bz],‹k›]=Z (.χ (cs.j aD))/\cs.a<64/\∀a,a∈cs↔∃l∈c,FO ps k l=J'/\hd l=a:=by
 let(p,g):=h.v0 c (GO j)
 let n6:=g.n6
 let(y,z,e):=kT (L.j LD) (ps.j Bz) k ps c .no .no n (λl f=>by rw[g.Ϫ l f];show g.p4) ∅
 let o:=Mq (FO ps k) c
 let i:∀l,l∈c.ν (FO ps k)↔l∈c/\FO ps k l=J':=λl=>Iu
 generalize c.ν (FO ps k)=d at *
 let(cs,r,f,s):=vio (d.j hd) (by rw[Bu];lia)
 apply#[cs,?_,f,λa=>?_]
 .let m:=Zv (b:=Zb 0) (e:=Vs) (ρ:=[.no]) Ah (λl=>aD (hd l)) d λl f=>#[[.u (Ah l)],rfl,by
   have:=J2 (g.ln l ((i l).mp f).1)
   rwa[Vs,this]]
  rw[show d.j (λl=>aD (hd l))=(d.j hd).j aD by rw[B4];rfl]at m
  let t:=Zq (d.j Ah) (by simp;lia)
  let u:=Rm j
  apply Zp rfl ?_
  generalize L.j LD=W,(d.j hd).j aD=V,cs.j aD=B,ps.j Bz=PS at *
  change Vt [#v[W],#v[PS],‹k›,.no,.no,.no]=_
  rwa[Vt,u,ZN,LD,e,DU,Zi,t,show ∀w,Zr 1 [] w=[.no]from λ_=>rfl,m,r,Ey,ZK]
 .rw[s,Bc]
  show#[λ⟨l,h1,h2⟩=>#[l,((i l).mp h1).1,((i l).mp h1).2,h2],λ⟨l,h1,h2,x⟩=>#[l,(i l).ϡ #[h1,h2],x]]
def
ZFp{P:Y->U At->V'}{n:Y}(h:∀k,k<n->∃x,P k x):∃f:Y->U At,∀k,k<n->P k (f k):=
 #[λk=>if a:k<n then Classical.choose (h k a)else [],λk b=>by change P k (if a:k<n then _ else _);rw[dif_pos b];show Classical.choose_spec (h k b)]
abbrev BJ(cs:U At):D:=.U (cs.j aD)
structure Ch(L:AM)(ps:List Pk)(f:Y->List At):V' where
 len:∀k,k<L.a->(f k).a<64
 mem:∀k ls,L[k]?=Z ls->∀a,a∈f k↔∃l∈ls,FO ps k l=J'/\hd l=a
def
Zyz{L:AM}(h:Bv L)(ps:U Pk)(m:∀q∈ps,q.2.2.1.a<=100):∃f,Ch L ps f/\ZO [#v[L.j LD],#v[ps.j Bz]]=Z (.χ ((Bf L.a).j λk=>BJ (f k))):=by
 let(f,j):=ZFp (n:=L.a) (P:=λk d=>QD [#v[L.j LD],#v[ps.j Bz],‹k›]=Z (.χ (d.j aD))/\d.a<64/\∀g,L[k]?=Z g->∀a,a∈d↔∃l∈g,FO ps k l=J'/\hd l=a) λk c=>by
  let(d,e,h1,h2):=Zwb h (Cc c) ps m
  show#[d,e,h1,λg i a=>by rw[Cc c]at i;ext i;show h2 a]
 apply#[f,#[λk c=>(j k c).2.1,λk g i a=>(j k (BR.mp i).1).2.2 g i a],?_]
 let t:=h.n4
 let o:=Zv (b:=Zb 0) (e:=VA) (ρ:=[.no,#v[L.j LD],#v[ps.j Bz]]) (λk:Y=>D.r k) (λk=>BJ (f k)) (Bf L.a) λk c=>#[[‹k›,#v[L.j LD],#v[ps.j Bz]],rfl,by
  let e:=(j k (C9.mp c)).1
  rwa[VA,e,DY]]
 let p:=JN L.a ∅
 let r:=Zq ((Bf L.a).j λk:Y=>D.r k) (by simp;lia)
 let s:ZA [.U (L.j LD)]=Z (.r L.a):=by simp
 apply Zp rfl ?_
 generalize L.j LD=W,ps.j Bz=PS,(Bf L.a).j (λk=>BJ (f k))=V at *
 change VB [#v[W],#v[PS]]=_
 rwa[VB,Zi,s,p,r,show Zr 1 [0,1] [#v[W],#v[PS]]=[.no,#v[W],#v[PS]]from rfl,o,ZK]
def
Mu:∀{d:BB},(d.j hd).ι->∀{x y:U At},x∈d->y∈d->hd x=hd y->x=y
 |a::d,f,x,y,g,h,e=>by
  rw[AT,FA]at f
  rcases Bl.mp g with rfl|b<;>rcases Bl.mp h with rfl|c
  .rfl
  .show absurd (by rw[e];show Ij c) f.1
  .show absurd (by rw[<- e];show Ij b) f.1
  .show Mu f.2 b c e
def Mv:D:=.O [.Α "out",.Y]
def
ZEO(b:jp)(a:At)(cs:U At):Dx b (aD a) (BJ cs)=Z (.bl (b != decide (a∈cs))):=by
 let h1:(cs.j aD).ϔ (AY 12)=J':=by simp[Ig]
 let h2:Gn (aD a) (cs.j aD)=decide (a∈cs):=by
  unfold Gn
  induction cs with
  |nil=>rfl
  |cons b cs d=>
   rw[AT,List.any_cons,d (by simp[Ig]),Mn]
   by_cases c:b=a
   .subst c;simp
   .have:¬ a=b:=λe=>c e.Ρ
    simp[c,this]
 erw[Dx,FL,Ig,h1,h2,F7,if_true]
 ext b<;>cases decide (a∈cs)<;>rfl
def
kU(a:At)(cs:U At):Dx O' (aD a) (BJ cs)=Z (.bl (decide (a∈cs))):=by rw[ZEO,Bool.false_bne]
def av(cs:U At)(j:Y)(l:U At):O At:=if hd l∈cs then Z (l.B j .Y)else J
def Ha:O At->D
 |some a=>.O [.Α "in",aD a]
 |none=>Mv
def
kW(o:O At):AY 12 (Ha o)=J':=by
 cases o with
 |none=>rfl
 |some a=>show(AY 11 (D.Α "in")&&(AY 11 (aD a)&&J'))=J';rw[Ig];rfl
def
ZDM(o u:O At):Ba (Ha o) (Ha u)=decide (o=u):=by
 cases o with
 |none=>cases u with
  |none=>rfl
  |some b=>rfl
 |some a=>cases u with
  |none=>rfl
  |some b=>
   show(Ba (.Α "in") (.Α "in")&&(Ba (aD a) (aD b)&&J'))=_
   rw[Mn,show Ba (.Α "in") (.Α "in")=J' from rfl,KI,Bool.and_true]
   show decide_eq_decide.ϡ #[λe=>by rw[e],λe=>Fc e]
structure Ask(ls:BB)(cs:List At)(j:Y)(dn:List At)(kvs:Bd)(n:Y):V' extends AK kvs n where
 has:∀l∈ls,Zl kvs (.at (hd l))=Z (Ha (if hd l∈dn then av cs j l else J))
def
ZzP{b:BB}{p:Y}(f:GL b p){l:U At}(k:l∈b)(A:D)(j:Y)(cs:U At)(r:cs.a<64){m:U At}{n:Y}(h:Ask b cs j m kvs n)(s:n<=1000):∃a,Ask b cs j (hd l::m) a (n+1)/\Mf [.u A,‹j›,.u (BJ cs),.χ (Zc kvs) .d,.u (Ah l)]=.β [.u A,‹j›,.u (BJ cs),.χ (Zc a) .d,.u (Ah l)]:=by
 let o:=J2 (f.ln l k)
 let g:Dx O' (aD (hd l)) (BJ cs)=Z (.bl (decide (hd l∈cs))):=kU _ _
 by_cases c:hd l∈cs
 .rw[decide_eq_true c]at g
  let h1:=JZ l j (by rw[f.Ϫ l k];have:=f.p4;lia)
  let q:kvs.a<Az:=GY h.Ϫ (BQ (show n<100000 by lia) (by ext))
  apply#[ZQ kvs (.at (hd l)) (.O [.Α "in",aD (l.B j .Y)]),#[#[Oq h.at',BX (LP _ _ _) (Ld h.Ϫ)],λx i=>?_],?_]
  .rw[HW]
   by_cases e:hd l=hd x
   .cases Mu f.hdn k i e
    rw[if_pos rfl,if_pos A6,av,if_pos c];rfl
   .rw[if_neg (by exists e),h.has x i]
    erw[Bl,show ¬ hd x=hd l from λz=>e z.symm,false_or]
  .generalize Ah l=X,BJ cs=C at *
   rwa[Mf,o,g,h1,HV,EO,Z1,Hw,Gs _ h.at',decide_eq_true q]
 .rw[decide_eq_false c]at g
  apply#[kvs,#[#[h.at',LU h.Ϫ],λx i=>?_],?_]
  .rw[h.has x i]
   by_cases e:hd x=hd l
   .have:av cs j x=J:=by rw[av,e,if_neg c]
    rw[this];simp
   .erw[Bl,e,false_or]
  .generalize Ah l=X,BJ cs=C at *
   rwa[Mf,o,g]
def
kX{i:BB}{p:Y}(o:GL i p)(A:D)(j:Y)(cs:U At)(q:cs.a<64):∀(b:BB)(f:U At)(kvs:Bd)(n:Y)(k:Sl),(∀l∈b,l∈i)->Ask i cs j f kvs n->n+b.a<=1000->∃c m e,Ask i cs j e c (n+b.a)/\(∀l∈b,hd l∈e)/\(∀a∈f,a∈e)/\ZE (Zb 4) Mf (b.j Ah) [.u A,‹j›,.u (BJ cs),.χ (Zc kvs) .d,k]=.β [.u A,‹j›,.u (BJ cs),.χ (Zc c) .d,m]
 |[],f,kvs,n,k,_,h,_=>#[kvs,k,f,h,λ_ h=>(nomatch h),λ_ h=>h,rfl]
 |l::b,f,kvs,n,k,r,h,s=>by
  erw[Cb]at s
  let(k1,h1,t):=ZzP o (r l A6) A j cs q h ∅
  let(k2,u,v,h2,a2,b2,w):=kX o A j cs q b (hd l::f) k1 (n+1) (.u (Ah l)) (λx g=>r x (A5 _ g)) h1 ∅
  apply#[k2,u,v,by rw[Cb,Nat.add_comm b.a 1,<- Nat.add_assoc];show h2,λx g=>?_,λa y=>b2 a (A5 _ y),?_]
  .rcases Bl.mp g with rfl|g
   .show b2 _ A6
   .show a2 x g
  .rwa[AT,ZE,Zb,t]
   show w
def
ZzM{a:BB}{p:Y}(g:GL a p)(j:Y)(cs:U At)(m:cs.a<64):∃kvs,AK kvs 1000/\(∀l∈a,Zl kvs (.at (hd l))=Z (Ha (av cs j l)))/\Qh [.u (LD a),‹j›,.u (BJ cs)]=Z (.χ (Zc kvs) .d):=by
 let n6:=g.n6
 let n:=Zv (b:=Zb 0) (e:=Ua) (ρ:=[.no]) Ah (λl=>D.O [aD (hd l),Mv]) a λl c=>#[[.u (Ah l)],rfl,by
  have:=J2 (g.ln l c)
  rwa[Ua,this,Mv]]
 let(kvs,f,k,o):=Ro (a.j λl=>(hd l,Mv)) [] 0 #[λ_ h=>(nomatch h),A9 _] (by simp;lia)
 rw[B4]at f
 let f:EV [] (a.j λl=>D.O [aD (hd l),Mv])=Z kvs:=f
 let q:Ask a cs j [] kvs a.a:=#[#[k.at',by exists k.Ϫ],λl c=>?_]
 .let(k2,r,y,h2,a2,_,i):=kX g (LD a) j cs m a [] kvs a.a .no (λ_ h=>h) q ∅
  apply#[k2,#[h2.at',BX h2.Ϫ ∅],λl c=>by rw[h2.has l c,if_pos (a2 l c)],?_]
  let s:=Zq (a.j Ah) (by simp;lia)
  apply Zp rfl ?_
  change Ub [#v[a.j Ah],‹j›,.u (BJ cs),.no,.no]=_
  let i:ZE (Zb 4) Mf (a.j Ah) [#v[a.j Ah],‹j›,.u (BJ cs),.χ (Zc kvs) .d,.no]=.β [#v[a.j Ah],‹j›,.u (BJ cs),.χ (Zc k2) .d,r]:=i
  generalize a.j Ah=M,BJ cs=C at *
  rwa[Ub,FG,Zi,s,show ∀t,Zr 1 [] t=[.no]from λ_=>rfl,n,f,Ea,ZN,i,EO,HM]
 .rw[o,<- List.map_reverse,List.find?_map,if_neg (λh=>nomatch h)]
  cases u:a.reverse.find? ((λe=>decide (e.1=hd l))∘λl=>(hd l,Mv))with
  |some x=>rfl
  |none=>have:=List.find?_eq_none.mp u l (by exists c);simp at this
def
ZE8{d e:D}(h1:AY 12 d=J')(h2:AY 12 e=J'):CL d e=Z (.bl (!Ba d e)):=by
 erw[CL,FL,h1,h2,F7,if_true]
structure Rp(cs:List At)(m j:Y)(pre:BB)(fk:Bd):V' where
 at':∀a v,Zl fk (.at a)=Z v->∃x∈pre,v=aD (hd x)/\x.B m .Y=a
 has:∀y∈pre,∃x∈pre,Zl fk (.at (y.B m .Y))=Z (aD (hd x))/\x.B m .Y=y.B m .Y/\av cs j x=av cs j y
def
kY{l:U At}:l.B 0 .Y=hd l:=by ext l<;>rfl
variable {ls:BB}{p:Y}(hg:GL ls p)(A C:D)(m j:Y)(cs:U At)(h:AK kvs 1000)(hv:∀l∈ls,Zl kvs (.at (hd l))=Z (Ha (av cs j l)))
include hg h hv
def
ZBS{l:U At}(t:l∈ls){pre:BB}(G:∀x∈pre,x∈ls){f:Bd}{q:Y}(i:AK f q)(M:q<=1000)(o:Rp cs m j pre f)(H:Sl):
  (∃x∈ls,(x.B m .Y=l.B m .Y/\av cs j x≠av cs j l)/\IY [.u A,‹m›,‹j›,.u C,.u (.U (Zc kvs) .d),.χ (Zc f) .d,.u (Ah l),H]=.Ϻ (.u (.O [aD (hd x),aD (hd l)]))) \/
  ∃k u,IY [.u A,‹m›,‹j›,.u C,.u (.U (Zc kvs) .d),.χ (Zc f) .d,.u (Ah l),H]=.β [.u A,‹m›,‹j›,.u C,.u (.U (Zc kvs) .d),.χ (Zc k) .d,.u (Ah l),u]/\AK k (q+1)/\Rp cs m j (l::pre) k:=by
 let w:=J2 (hg.ln l t)
 let h1:=JZ l m (by rw[hg.Ϫ l t];have:=hg.p4;lia)
 let B:f.a<Az:=GY i.Ϫ (BQ (show q<100000 by lia) (by ext))
 let g:∀x∈ls,C3 (.U (Zc kvs) .d) (aD (hd x))=Z (Ha (av cs j x)):=λx s=>by
  rw[Pw,Hw];rwa[Gs _ h.at',hv x s]
 let E:=g l t
 let ne:=λx=>ZE8 (kW (av cs j x)) (kW (av cs j l))
 erw[ZDM]at ne
 cases p:Zl f (.at (l.B m .Y))with
 |some v=>
  let(x,s,rfl,N):=o.at' _ _ p
  let F:=g x (G x s)
  let ne:=ne x
  by_cases c:av cs j x=av cs j l
  .rw[decide_eq_true c]at ne
   apply .τ #[f,.u (aD (hd x)),?_,#[i.at',LU i.Ϫ],#[λa v e=>?_,λy b=>?_]]
   .generalize Ah l=X,Ha (av cs j x)=Y',Ha (av cs j l)=K at *
    rwa[IY,IM,EO,h1,w,Z1,Hw,Gs _ i.at',decide_eq_true B,p,NI,F,E,ne]
   .let(z,n,r):=o.at' a v e
    show#[z,A5 _ n,r]
   .rcases Bl.mp b with rfl|b
    .show#[x,A5 _ s,p,N,c]
    .let(z,n,r):=o.has y b
     show#[z,A5 _ n,r]
  .rw[decide_eq_false c]at ne
   apply .S #[x,G x s,#[N,c],?_]
   generalize Ah l=X,Ha (av cs j x)=Y',Ha (av cs j l)=K at *
   rwa[IY,IM,EO,h1,w,Z1,Hw,Gs _ i.at',decide_eq_true B,p,NI,F,E,ne]
 |none=>
  let ne:=ne l
  rw[decide_eq_true rfl]at ne
  let no:∀y∈pre,¬ l.B m .Y=y.B m .Y:=λy b e=>by
   let(x,_,r,_):=o.has y b
   rw[<- e,p]at r;ext r
  apply .τ #[ZQ f (.at (l.B m .Y)) (aD (hd l)),.u (aD (hd l)),?_,#[Oq i.at',BX (LP _ _ _) (Ld i.Ϫ)],#[λa v e=>?_,λy b=>?_]]
  .generalize Ah l=X,Ha (av cs j l)=K at *
   rwa[IY,IM,EO,h1,w,Z1,Hw,Gs _ i.at',decide_eq_true B,p,NI,E,ne]
  .rw[HW]at e
   by_cases c:KT.at (l.B m .Y)=.at a
   .rw[if_pos c]at e
    ext e;ext c
    show#[l,A6,rfl,rfl]
   .rw[if_neg c]at e
    let(z,n,r):=o.at' a v e
    show#[z,A5 _ n,r]
  .rcases Bl.mp b with rfl|b
   .show#[y,A6,by rw[HW,if_pos rfl],rfl,rfl]
   .let(z,n,r,L):=o.has y b
    show#[z,A5 _ n,by rw[HW,if_neg λe=>no y b (KT.at.inj e)];show r,L]
def
kZ:∀(c pre:BB)(f:Bd)(q:Y)(o k:Sl),(∀l∈c,l∈ls)->(∀l∈pre,l∈ls)->AK f q->q+c.a<=1000->Rp cs m j pre f ->
  (∃x∈ls,∃y∈ls,(x.B m .Y=y.B m .Y/\av cs j x≠av cs j y)/\ZE (Zb 6) IY (c.j Ah) [.u A,‹m›,‹j›,.u C,.u (.U (Zc kvs) .d),.χ (Zc f) .d,o,k]=.Ϻ (.u (.O [aD (hd x),aD (hd y)]))) \/
  ∃ρ,ZE (Zb 6) IY (c.j Ah) [.u A,‹m›,‹j›,.u C,.u (.U (Zc kvs) .d),.χ (Zc f) .d,o,k]=.β ρ/\∃g i,Rp cs m j i g/\(∀l∈i,l∈ls)/\∀l,l∈c\/l∈pre->l∈i
 |[],pre,f,q,o,k,_,p,_,_,s=>.τ #[_,rfl,f,pre,s,p,λ_ h=>h.resolve_left λh=>nomatch h]
 |l::c,pre,f,q,o,k,r,p,w,a,s=>by
  erw[Cb]at a
  rcases ZBS hg A C m j cs h hv (r l A6) p w ∅ s k with⟨x,b,n,e⟩|⟨g,B,e,t,u⟩
  .show .S #[x,b,l,r l A6,n,by rwa[AT,ZE,Zb,e]]
  .rcases kZ c (l::pre) g (q+1) (.u (Ah l)) B (λx b=>r x (A5 _ b)) (λx b=>by
    rcases Bl.mp b with rfl|b
    .show r _ A6
    .show p x b) t ∅ u with⟨x,b,y,E,n,v⟩|⟨ρ,v,G,H,K,F,i2⟩
   .apply .S #[x,b,y,E,n,?_]
    rwa[AT,ZE,Zb,e]
    show v
   .apply .τ #[ρ,?_,G,H,K,F,λz a=>i2 z ?_]
    .rwa[AT,ZE,Zb,e]
     show v
    .rcases a with a|a
     .rcases Bl.mp a with rfl|a
      .show .τ A6
      .show .S a
     .show .τ (A5 _ a)
end
def
ZFw{x y:At}(e:aD x=aD y):x=y:=by ext x<;>ext y<;>ext e<;>rfl
def Jd(a:BB)(cs:U At)(m j:Y):V':=∀x∈a,∀y∈a,x.B m .Y=y.B m .Y->av cs j x=av cs j y
def
Zsp{b:BB}{p:Y}(g:GL b p)(m j:Y)(cs:U At)(t:cs.a<64):∃r,US [.u (LD b),‹m›,‹j›,.u (BJ cs)]=Z (.u r)/\(r=.Y/\Jd b cs m j\/(∃x y:At,r=.O [aD x,aD y])/\¬ Jd b cs m j):=by
 let n6:=g.n6
 let(c,A,B,k):=ZzM g j cs t
 let E:=kZ g (LD b) (BJ cs) m j cs A B b [] [] 0 .no .no (λ_ h=>h) (λ_ h=>nomatch h) #[λ_ h=>(nomatch h),A9 _] ∅ #[λa v e=>(nomatch e),λ_ h=>nomatch h]
 let f:∀r,ZE (Zb 6) IY (b.j Ah) [#v[b.j Ah],‹m›,‹j›,.u (BJ cs),.u (.U (Zc c) .d),.χ [] .d,.no,.no]=r->UR [#v[b.j Ah],‹m›,‹j›,.u (BJ cs),.no,.no,.no,.no]=Zd r eg:=λr e=>by
  let k:Qh [#v[b.j Ah],‹j›,.u (BJ cs)]=Z (.χ (Zc c) .d):=k
  generalize b.j Ah=M,BJ cs=C at *
  rwa[UR,et,ed,k,DY,eo,ee,Ea,en,ef,ZN,e]
 rcases E with⟨x,l,y,o,n,e⟩|⟨N,e,P,Q,F,q,i⟩
 .show#[_,Zp rfl (f _ e),.τ #[#[hd x,hd y,rfl],λz=>n.2 (z x l y o n.1)]]
 .apply#[.Y,Zp rfl (f _ e),.S #[rfl,λx l y o e=>?_]]
  let(u,G,s,_,H):=F.has x (i x (.S l))
  let(w,R,K,_,L):=F.has y (i y (.S o))
  rw[e,K]at s
  cases Mu g.hdn (q w R) (q u G) (ZFw (Fc s))
  show H.Ρ.J L
def
Mw{g:U Y}{k:Y}(h:k<g.a):Ap (Ar g) (.r k)=Z (.r (g.B k 0)):=Ev (by simp[Cm,Cc h])
def
k6{n k:Y}(f:Y->U At)(h:k<n):Ap (.U ((Bf n).j λk=>BJ (f k))) (.r k)=Z (BJ (f k)):=Ev (by simp[h])
variable {L:AM}(h:Bv L){g e:U Y}(hg:g.a=L.a)(he:e.a=L.a){ps:U Pk}{f:Y->U At}(hf:Ch L ps f)
include h hg he hf
def
k7(W PS:D):∀(AF pre:AM)(i j c:Sl),L=pre++AF ->
  ((∃(k:Y) (x y:At),ZE (ZC 2 (Zf (Zb 5) (Zf (Zb 6) ZD))) JU (ZR pre.a (AF.j LD)) [.u W,.u (Ar g),.u (Ar e),.u PS,#v[(Bf L.a).j λk=>BJ (f k)],i,j,c]=.Ϻ (.u (.O [.r k,aD x,aD y])))/\¬ ∀k a,pre.a<=k->L[k]?=Z a->Jd a (f k) (g.B k 0) (e.B k 0)) \/
  (∃ρ,ZE (ZC 2 (Zf (Zb 5) (Zf (Zb 6) ZD))) JU (ZR pre.a (AF.j LD)) [.u W,.u (Ar g),.u (Ar e),.u PS,#v[(Bf L.a).j λk=>BJ (f k)],i,j,c]=.β ρ)/\∀k a,pre.a<=k->L[k]?=Z a->Jd a (f k) (g.B k 0) (e.B k 0)
 |[],pre,i,j,c,d=>.τ #[#[_,rfl],λk a h1 h2=>by
   have:=(BR.mp h2).1
   rw[d,Du]at this;lia]
 |a::AF,pre,i,j,c,d=>by
  let q:pre.a<L.a:=by rw[d];simp
  let l:L[pre.a]?=Z a:=by rw[d];simp
  let(p,w):=h.v0 a (GO l)
  let(r,s,G):=Zsp w (g.B pre.a 0) (e.B pre.a 0) (f pre.a) (hf.Ϫ _ q)
  let t:=Mw (g:=g) (k:=pre.a) ∅
  let i2:=Mw (g:=e) (k:=pre.a) ∅
  let u:=k6 f q
  let n:=k7 W PS AF (pre++[a]) ‹pre.a› (.u (LD a)) (.u r) (by rw[d];simp)
  rw[D2,Le]at n
  rw[show ZR pre.a ((a::AF).j LD)=.O [.r pre.a,LD a]::ZR (pre.a+1) (AF.j LD)from rfl]
  let hb:∀A B C E F:Sl,ZC 2 (Zf (Zb 5) (Zf (Zb 6) ZD)) (.O [.r pre.a,LD a]) [A,B,C,E,F,i,j,c]=Z [A,B,C,E,F,‹pre.a›,.u (LD a),c]:=λ_ _ _ _ _=>rfl
  rcases G with⟨rfl,m⟩|⟨⟨x,y,rfl⟩,m⟩
  .let all:(∀k b,pre.a+1<=k->L[k]?=Z b->Jd b (f k) (g.B k 0) (e.B k 0))↔∀k b,pre.a<=k->L[k]?=Z b->Jd b (f k) (g.B k 0) (e.B k 0):=#[λz k b h1 h2=>by
     rcases IN pre.length k with o|o
     .show z k b o h2
     .have:k=pre.a:=LQ o h1
      subst this;rw[l]at h2;ext h2;show m,λz k b h1 h2=>z k b ∅ h2]
   rw[all]at n
   clear all m hf l d
   generalize (Bf L.a).j (λk=>BJ (f k))=V,BJ (f pre.a)=H,Ar g=K,Ar e=E,LD a=A at *
   let st:JU [.u W,.u K,.u E,.u PS,#v[V],‹pre.a›,.u A,c]=.β [.u W,.u K,.u E,.u PS,#v[V],‹pre.a›,.u A,.u .Y]:=by
    rwa[JU,t,i2,u,s,DS,isN]
   erw[ZE,hb,st]
   show n
  .apply .S #[#[pre.a,x,y,?_],λz=>m (z _ _ (A9 _) l)]
   clear m hf l d n
   generalize (Bf L.a).j (λk=>BJ (f k))=V,BJ (f pre.a)=H,Ar g=K,Ar e=E,LD a=A at *
   let st:JU [.u W,.u K,.u E,.u PS,#v[V],‹pre.a›,.u A,c]=.Ϻ (.u (.O [.r pre.a,aD x,aD y])):=by
    rwa[JU,t,i2,u,s,DS,isN,show Ap (.tup [aD x,aD y]) (.int 0)=Z (aD x)from rfl,show Ap (.tup [aD x,aD y]) (.int 1)=Z (aD y)from rfl]
   erw[ZE,hb,st]
end
def
ZDy(cs:U At):AY 12 (BJ cs)=J':=by
 show(cs.j aD).ϔ (AY 11)=J'
 simp[Ig]
def Hb(L:AM)(f:Y->U At)(g e:U Y):V':=(∃k,k<L.a/\f k=[])\/∀k a,L[k]?=Z a->Jd a (f k) (g.B k 0) (e.B k 0)
def
ZD9(n:Y)(f:Y->U At):∃b,Dx O' (.U []) (.U ((Bf n).j λk=>BJ (f k)))=Z (.bl b)/\(b=J'↔∃k,k<n/\f k=[]):=by
 let h1:((Bf n).j λk=>BJ (f k)).ϔ (AY 12)=J':=by erw[GX,Dc];show λ_ _=>ZDy _
 apply#[Gn (.U []) ((Bf n).j λk=>BJ (f k)),by erw[Dx,FL,h1,show AY 12 (.lst [])=J' from rfl,F7,if_true];rfl,?_]
 let e:∀a:U At,Ba (BJ a) (.U [])=J'↔a=[]:=λa=>by ext a<;>simp[BJ,Ba,C0]
 erw[Gn,List.any_map,List.any_eq_true,C9,Function.comp,e]
def
Zy4{L:AM}(h:Bv L){g e:U Y}(m:g.a=L.a)(o:e.a=L.a)(ps:U Pk)(s:∀q∈ps,q.2.2.1.a<=100){f:Y->U At}(i:Ch L ps f)(p:ZO [#v[L.j LD],#v[ps.j Bz]]=Z (.χ ((Bf L.a).j λk=>BJ (f k)))):∃r,Ml [#v[L.j LD],.u (Ar g),.u (Ar e),#v[ps.j Bz]]=Z (.u r)/\(r=.Y/\Hb L f g e\/(∃(k:Y)(x y:At),r=.O [.r k,aD x,aD y])/\¬ Hb L f g e):=by
 let d:=k7 h m o i (.U (L.j LD)) (.U (ps.j Bz)) L [] .no .no .no rfl
 rw[IB]at d
 erw[Fz,forall_const]at d
 let(b,j,hb):=ZD9 L.a f
 unfold Hb
 rw[<- hb]
 generalize (∀(k:Y) (l:BB),L[k]?=Z l->Jd l (f k) (g.B k 0) (e.B k 0))=t at *
 clear hb i
 generalize (Bf L.a).j (λk=>BJ (f k))=V,L.j LD=W,ps.j Bz=PS,Ar g=w,Ar e=E at *
 let c:∀r,Og [#v[W],.u w,.u E,#v[PS],#v[V],.no,.no,.no]=r->VP [#v[W],.u w,.u E,#v[PS],.no,.no,.no,.no]=r:=λr e=>by
  rwa[VP,gq,ge,p,DY,e]
 cases b with
 |true=>show#[.Y,Zp rfl (c _ (by rwa[Og,VO,show Zg (Z ([]:U D))=Z []from rfl,j])),.S #[rfl,.S rfl]]
 |false=>
  let h2:∀r,ZE (ZC 2 (Zf (Zb 5) (Zf (Zb 6) ZD))) JU (ZR 0 W) [#v[W],.u w,.u E,#v[PS],#v[V],.no,.no,.no]=r->Og [#v[W],.u w,.u E,#v[PS],#v[V],.no,.no,.no]=Zd r gj:=λr e=>by
   rwa[Og,VO,show Zg (Z ([]:U D))=Z []from rfl,j,gm,gh,ZN,EX,ZX,e]
  rcases d with⟨⟨k,x,y,e⟩,n⟩|⟨⟨u,e⟩,a⟩
  .show#[_,Zp rfl (c _ (h2 _ e)),.τ #[#[k,x,y,rfl],λz=>z.Ζ (λz=>nomatch z) n]]
  .show#[.Y,Zp rfl (c _ (h2 _ e)),.S #[rfl,.τ a]]
def Dt(acc:U A7):U Row:=acc.flatMap λe=>(e.2.1::e.2.2).j λx=>(e.1,x)
def
J3(e:A7)(r:U A7):Dt (e::r)=(e.2.1::e.2.2).j (λx=>(e.1,x))++Dt r:=by simp[Dt]
def
Xt(k:U At)(x:W')(xs:U W'):∀acc:U A7,(Dt (Ds acc k x xs)).ϲ ((x::xs).j (λy=>(k,y))++Dt acc)
 |[]=>by simp[Ds,Dt]
 |e::r=>by
  unfold Ds
  by_cases c:e.1=k
  .rw[if_pos c,J3,J3]
   subst c
   show((e.2.1::(e.2.2++x::xs)).j (λy=>(e.1,y))++Dt r).ϲ _
   rw[show e.2.1::(e.2.2++x::xs)=(e.2.1::e.2.2)++(x::xs) by simp,De,<- Dy]
   show List.ϴ.append_right _
  .rw[if_neg c,J3,J3]
   refine((Xt k x xs r).append_left _).J ?_
   rw[<- Dy,<- Dy]
   show List.ϴ.append_right _
def
Zyb{x y:W'}{xs ys:U W'}(h:(x::xs).ϲ (y::ys)):cel x xs=cel y ys:=by
 let h1:=Xb x xs
 let h2:=Xb y ys
 let c:Ends (x::xs) (ys.Λ mn y) (ys.Λ mx y):=#[h.Υ.ϡ h2.m1,λa b=>h2.m2 a (h.Υ.mp b),h.Υ.ϡ h2.M1,λa b=>h2.M2 a (h.Υ.mp b)]
 let(d,e):=h1.uniq c
 let f:=c9 h
 let g:=h.Ψ
 erw[Cb]at g
 unfold cel
 rw[d,e,f,show xs.a=ys.a by lia]
def Hc(k:U At)(l:U Row):U W':=l.gV λp=>if p.1=k then Z p.2 else J
def
k8(k:U At)(a b:U Row):Hc k (a++b)=Hc k a++Hc k b:=by simp[Hc]
def
k9(k:U At):∀xs:U W',Hc k (xs.j λx=>(k,x))=xs
 |[]=>rfl
 |x::xs=>by
  let a:=k9 k xs
  unfold Hc at a ⊢
  erw[AT,OG,if_true,a]
def
Xu{k k':U At}(h:k'≠k):∀xs:U W',Hc k (xs.j λx=>(k',x))=[]
 |[]=>rfl
 |x::xs=>by
  let a:=Xu h xs
  unfold Hc at a ⊢
  erw[AT,OG,h,if_false,a]
def
la{k:U At}:∀{acc:U A7},k∉Zj acc->Hc k (Dt acc)=[]
 |[],_=>rfl
 |e::r,h=>by
  erw[Zj,AT,Bl,not_or]at h
  rw[J3,k8,Xu (BF h.1),la (acc:=r) h.2];rfl
def
Xv{k:U At}{p:W'×U W'}:∀{acc:U A7},(Zj acc).ι->ZH acc k=Z p->Hc k (Dt acc)=p.1::p.2
 |e::r,a,h=>by
  erw[Zj,AT,FA]at a
  unfold ZH at h
  rw[J3,k8]
  by_cases c:e.1=k
  .rw[if_pos c]at h;ext h
   subst c
   rw[k9,la a.1,Du]
  .rw[if_neg c]at h
   rw[Xu c,Xv a.2 h];rfl
def
Xw{k:U At}:∀{acc:U A7},k∈Zj acc↔∃x,(k,x)∈Dt acc
 |[]=>by simp[Zj,Dt]
 |e::r=>by
  let b:=Xw (k:=k) (acc:=r)
  rw[J3]
  let a:Zj (e::r)=e.1::Zj r:=rfl
  rw[a]
  constructor
  .intro h
   rcases Bl.mp h with rfl|h
   .show#[e.2.1,Jg _ (Bc.ϡ #[e.2.1,A6,rfl])]
   .let(x,c):=b.mp h
    show#[x,Dj _ c]
  .intro zQ;let(x,h):=zQ
   rcases EH.mp h with h|h
   .let(y,_,d):=Bc.mp h
    ext d
    show A6
   .show A5 _ (b.ϡ #[x,h])
def
lc{acc a:U A7}(h1:(Zj acc).ι)(h2:(Zj a).ι)(h:(Dt acc).ϲ (Dt a)):CY acc=CY a:=by
 let j:(Zj acc).ϲ (Zj a):=(List.perm_ext_iff_of_nodup h1 h2).ϡ λk=>by
  rw[Xw,Xw]
  show#[λ⟨x,c⟩=>#[x,h.Υ.mp c],λ⟨x,c⟩=>#[x,h.Υ.ϡ c]]
 let d:Zx Bo (Zj acc)=Zx Bo (Zj a):=zJ DL ((ZB Bo _).J j) (WP DL _)
 unfold CY
 rw[d]
 apply Xf λk b=>?_
 let(f,g):=Q7 b
 let(p,e):=Q7 (acc:=acc) (by rw[d];show b)
 rw[e,g]
 let i:(Hc k (Dt acc)).ϲ (Hc k (Dt a)):=h.gV _
 rw[Xv h1 e,Xv h2 g]at i
 change D.O [Ah k,cel p.1 p.2]=D.O [Ah k,cel f.1 f.2]
 rw[Zyb i]
def
ZxH{a b:U A7}(h:a.ϲ b):(Dt a).ϲ (Dt b):=h.flatMap_right _
def
ZwJ:∀{acc:U A7},(Zj acc).ι->acc.j (λe=>(e.1,(ZH acc e.1).B (0,[])))=acc:=by
 intro acc b
 have:∀e∈acc,ZH acc e.1=Z e.2:=by
  intro e a
  induction acc with
  |nil=>show nomatch a
  |cons d r c=>
   erw[Zj,AT,FA]at b
   unfold ZH
   rcases Bl.mp a with rfl|a
   .rw[if_pos rfl]
   .rw[if_neg (λz=>b.1 (by rw[z];show Ij a))]
    show c b.2 a
 refine(Xf (g:=id) λe a=>?_).J (List.map_id _)
 rw[this e a];rfl
def HC(acc:U A7):U A7:=(Zx Bo (Zj acc)).j λk=>(k,(ZH acc k).B (0,[]))
def
Xx(acc:U A7):CY acc=(HC acc).j GB:=by
 unfold CY HC
 rw[B4];rfl
def
Zx5{acc:U A7}(h:(Zj acc).ι):(Dt (HC acc)).ϲ (Dt acc):=by
 apply ZxH ?_
 unfold HC
 let h1:=(ZB Bo (Zj acc)).j λk=>((k,(ZH acc k).B (0,[])):A7)
 let h2:(Zj acc).j (λk=>((k,(ZH acc k).B (0,[])):A7))=acc:=by
  unfold Zj
  rw[B4]
  show ZwJ h
 rw[h2]at h1
 show h1
def
OB:∀(a:U Row)(acc:U A7),(Dt (Es a acc)).ϲ (a++Dt acc)
 |[],acc=>.ξ _
 |r::a,acc=>by
  refine(OB a (CW acc r.1 r.2)).J ?_
  rw[W5]
  refine((Xt r.1 r.2 [] acc).append_left a).J ?_
  rw[<- Dy]
  show List.ϴ.append_right _
def
OC:∀(a:U Row){acc:U A7},(Zj acc).ι->(Zj (Es a acc)).ι
 |[],_,h=>h
 |_::a,_,h=>OC a (jQ h)
def
Rq:(Zj []).ι:=by simp[Zj]
def
ZzZ{a b:U Row}(h:a.ϲ b):CY (Es a [])=CY (Es b []):=
 lc (OC a Rq) (OC b Rq) ((OB a []).J ((h.append_right _).J (OB b []).Ρ))
def
lf(go:U At->jp)(th:U At->U At):∀(es acc:U A7),(Dt (es.Λ (stM go th) acc)).ϲ (((Dt es).ν λp=>go p.1).j (λp=>(th p.1,p.2))++Dt acc)
 |[],acc=>.ξ _
 |e::es,acc=>by
  refine(lf go th es (stM go th acc e)).J ?_
  rw[J3,List.filter_append,De]
  unfold stM
  let b:((e.2.1::e.2.2).j λx=>(e.1,x)).ν (λp=>go p.1)=if go e.1=J' then(e.2.1::e.2.2).j (λx=>(e.1,x))else []:=by
   split
   .next c=>show List.filter_eq_self.ϡ λp a=>by let(x,_,rfl):=Bc.mp a;show c
   .next c=>show List.filter_eq_nil_iff.ϡ λp a=>by let(x,_,rfl):=Bc.mp a;show c
  rw[b]
  split
  .refine((Xt (th e.1) e.2.1 e.2.2 acc).append_left _).J ?_
   rw[B4,<- Dy]
   show List.ϴ.append_right _
  .show .ξ _
def
ZBA(go:U At->jp)(th:U At->U At)(R:U Row)(a:(Zj ((HC (Es R [])).Λ (stM go th) [])).ι):CY ((HC (Es R [])).Λ (stM go th) [])=CY (Es ((R.ν λp=>go p.1).j λp=>(th p.1,p.2)) []):=by
 apply lc a (OC _ Rq) ((lf go th _ []).J (List.ϲ.J ?_ (OB _ []).Ρ))
 let h1:=(Zx5 (OC R Rq)).J (OB R [])
 rw[show Dt ([]:U A7)=[]from rfl]at h1 ⊢
 erw[Du]at h1 ⊢
 show(h1.ν _).j _
def lg:D->At
 |.int i=>.r i
 |.str x=>.Α x
 |_=>.Y
def
lh(a:At):lg (aD a)=a:=by ext a<;>rfl
structure Wy(kvs:Bd):V' extends AK kvs 1000 where
 to:∀a v,Zl kvs (.at a)=Z v->∃b,v=aD b
abbrev DO(kvs:Bd):D:=.U (Zc kvs) .d
def K4(b:BB)(cs:U At)(m:Y)(a:At):jp:=b.any λl=>decide (hd l∈cs)&&decide (l.B m .Y=a)
def
ZzT{c:BB}{p:Y}(k:GL c p)(m j:Y)(cs:U At):∃kvs,Wy kvs/\(∀a,(Zl kvs (.at a)).μ=K4 c cs m a)/\(∀a v,Zl kvs (.at a)=Z v->∃l∈c,hd l∈cs/\l.B m .Y=a/\v=aD (l.B j .Y))/\Qi [.u (LD c),‹m›,‹j›,.u (BJ cs)]=Z (.χ (Zc kvs) .d):=by
 let n6:=k.n6
 let w:=K1 (b:=Zb 0) (t:=Uc) (e:=Ud) (ρ:=[.no,‹m›,‹j›,.u (BJ cs)]) Ah (λl=>D.O [aD (l.B m .Y),aD (l.B j .Y)]) (λl=>decide (hd l∈cs)) c λl f=>#[[.u (Ah l),‹m›,‹j›,.u (BJ cs)],rfl,by
  let y:=J2 (k.ln l f)
  let g:l.a<=1000:=by rw[k.Ϫ l f];have:=k.p4;lia
  show#[by rwa[Uc,y,kU],by rwa[Ud,JZ l m g,JZ l j g]]]
 let z:=Mq (λl=>decide (hd l∈cs)) c
 let ht:∀a,((c.ν λl=>decide (hd l∈cs)).any λl=>decide (l.B m .Y=a))=K4 c cs m a:=λa=>by rw[List.any_filter];rfl
 let i:∀l∈c.ν λl=>decide (hd l∈cs),l∈c/\hd l∈cs:=λl h=>by exists Iu.mp h
 generalize c.ν (λl=>decide (hd l∈cs))=q at *
 let(kvs,n,r,s):=Ro (q.j λl=>(l.B m .Y,aD (l.B j .Y))) [] 0 #[λ_ h=>(nomatch h),A9 _] (by simp;lia)
 rw[B4]at n
 let n:EV [] (q.j λl=>D.O [aD (l.B m .Y),aD (l.B j .Y)])=Z kvs:=n
 let u:∀a v,Zl kvs (.at a)=Z v->∃l∈c,hd l∈cs/\l.B m .Y=a/\v=aD (l.B j .Y):=λa v e=>by
  rw[s]at e
  cases o:(q.j λl=>(l.B m .Y,aD (l.B j .Y))).reverse.find? λe=>decide (e.1=a)with
  |none=>rw[o]at e;cases e
  |some x=>
   rw[o]at e
   let h2:=List.find?_some o
   have:=List.mem_of_find?_eq_some o
   rw[List.mem_reverse]at this
   let(l,f,rfl):=Bc.mp this
   ext e
   show#[l,(i l f).1,(i l f).2,of_decide_eq_true h2,rfl]
 apply#[kvs,#[#[r.at',BX r.Ϫ (by simp;lia)],λa v e=>?_],λa=>?_,u,?_]
 .let(l,_,_,_,e):=u a v e;show#[_,e]
 .rw[<- ht,s a,show Zl [] (.at a)=J from rfl,Option.or_none,Pu,List.isSome_find?,List.any_reverse,List.any_map];rfl
 .let A:=Zq (c.j Ah) (by simp;lia)
  apply Zp rfl ?_
  change Ue [#v[c.j Ah],‹m›,‹j›,.u (BJ cs)]=_
  generalize c.j Ah=M,BJ cs=C at *
  rwa[Ue,FG,Zi,A,show Zr 1 [1,2,3] [#v[M],‹m›,‹j›,.val C]=[.no,‹m›,‹j›,.val C]from rfl,w,n,HM]
abbrev HD(ws:U Bd)(s:U At):jp:=(Dg (λb a=>(Zl b (.at a)).μ) ws s).ϔ id
abbrev J4(ws:U Bd)(s:U At):U At:=Dg (λb a=>lg ((Zl b (.at a)).B .Y)) ws s
def
li:∀(ws:U Bd)(s:U At),(∀kvs∈ws,Wy kvs)->HD ws s=J'->ZL (ZC 2 (Zf (Zb 0) (Zf (Zb 1) ZD))) (λ_=>Z J') ZW [.no,.no] (Dg (λx y=>D.O [x,y]) (ws.j DO) (s.j aD))=Z ((J4 ws s).j aD)
 |[],_,_,_=>by simp;rfl
 |_::_,[],_,_=>by simp;rfl
 |kvs::ws,a::s,h,c=>by
  unfold HD at c
  rw[Ot,Jz,C2]at c
  let f:=li ws s (λx g=>h x (A5 _ g)) c.2
  let(v,d):=RV.mp c.1
  let(b,rfl):=(h kvs A6).to a v d
  let e:ZW [.u (DO kvs),.u (aD a)]=Z (aD b):=by
   have:C3 (DO kvs) (aD a)=Z (aD b):=by
    rw[Pw,Hw]
    rwa[Gs _ (h kvs A6).at',d]
   rwa[ZW,this]
  let hb:ZC 2 (Zf (Zb 0) (Zf (Zb 1) ZD)) (.O [DO kvs,aD a]) [.no,.no]=Z [.u (DO kvs),.u (aD a)]:=rfl
  unfold J4 at *
  rwa[Ot,ZL,hb,e,f,d,Option.getD,lh]
def
lj:∀(ws:U Bd)(s:U At),(∀kvs∈ws,Wy kvs)->ZL (ZC 2 (Zf (Zb 0) (Zf (Zb 1) ZD))) (λ_=>Z J') KQ [.no,.no] (Dg (λx y=>D.O [x,y]) (ws.j DO) (s.j aD))=Z ((Dg (λkvs a=>(Zl kvs (.at a)).μ) ws s).j D.bl)
 |[],_,_=>by simp;rfl
 |_::_,[],_=>by simp;rfl
 |kvs::ws,a::s,h=>by
  let b:=lj ws s λx c=>h x (A5 _ c)
  let e:KQ [.u (DO kvs),.u (aD a)]=Z (.bl (Zl kvs (.at a)).μ):=by
   have:Dp O' (aD a) (DO kvs)=Z (.bl (Zl kvs (.at a)).μ):=by
    rw[Kv,Hw]
    rwa[Gs _ (h kvs A6).at']
    rw[Bool.false_bne]
   rwa[KQ,this]
  let hb:ZC 2 (Zf (Zb 0) (Zf (Zb 1) ZD)) (.O [DO kvs,aD a]) [.no,.no]=Z [.u (DO kvs),.u (aD a)]:=rfl
  rwa[Ot,ZL,hb,e,b]
def
ll(ws:U Bd)(s:U At)(h:∀kvs∈ws,Wy kvs)(hz:ws.a<=4):KR [#v[ws.j DO],.u (Ah s)]=Z (.u (.bl ((Dg (λkvs a=>(Zl kvs (.at a)).μ) ws s).ϔ id))):=by
 let b:=lj ws s h
 let c:=Zq (Dg (λx y=>D.O [x,y]) (ws.j DO) (s.j aD)) (by simp;lia)
 let d:Do [.U ((Dg (λkvs a=>(Zl kvs (.at a)).μ) ws s).j D.bl)]=Z (.bl ((Dg (λkvs a=>(Zl kvs (.at a)).μ) ws s).ϔ id)):=by
  erw[Do,Ow,D0]
 apply Zp rfl ?_
 unfold Ah
 generalize (Dg (λkvs a=>(Zl kvs (.at a)).μ) ws s).j D.bl=B,s.j aD=S,ws.j DO=M at *
 change NT [#v[M],.u (.O S)]=_
 rwa[NT,Zi,Hv,ZX,show Zr 2 [] [#v[M],.val (.tup S)]=[.no,.no]from rfl,c,b,d]
def
lm:∀(L:AM)(k:Y),ZR k (L.j LD)=(Bf L.a).j λi:Y=>D.O [.r ((k+i:Y):W'),LD (L.B i [])]
 |[],_=>rfl
 |a::L,k=>by
  rw[AT,ZR,lm L (k+1),Cb,List.range_succ_eq_map,AT,B4]
  apply congrArg (_::·) (Xf λi _=>?_)
  erw[Function.comp,Nat.succ_eq_add_one,List.getD_cons_succ,Nat.add_assoc,Nat.add_comm 1 i]
def
ZGn{a:Type}(d:a){P:Y->a->V'}{n:Y}(h:∀k,k<n->∃x,P k x):∃f:Y->a,∀k,k<n->P k (f k):=
 #[λk=>if b:k<n then Classical.choose (h k b)else d,λk c=>by change P k (if b:k<n then _ else _);rw[dif_pos c];show Classical.choose_spec (h k c)]
def K5(L:AM)(f:Y->U At)(g:U Y)(s:U At):jp:=(Bf L.a).ϔ λk=>K4 (L.B k []) (f k) (g.B k 0) (s.B k .Y)
def
ZBP{a:Type}(F:a->At->jp)(W:Y->a)(n:Y)(s:U At)(b:s.a=n):(Dg F ((Bf n).j W) s).ϔ id=(Bf n).ϔ λk=>F (W k) (s.B k .Y):=by
 have:Dg F ((Bf n).j W) s=(Bf n).j λk=>F (W k) (s.B k .Y):=List.ext_getElem (by simp[b]) λi h1 h2=>by
  simp at h1 h2
  simp[Cm,Cc (show i<s.length by lia)]
 rw[this,GX];rfl
def
lq{L:AM}(h:Bv L){g e:U Y}(C:g.a=L.a)(G:e.a=L.a)(ps:U Pk){f:Y->U At}(r:ZO [#v[L.j LD],#v[ps.j Bz]]=Z (.χ ((Bf L.a).j λk=>BJ (f k)))):∃ws:U Bd,QI [#v[L.j LD],.u (Ar g),.u (Ar e),#v[ps.j Bz]]=Z (.χ (ws.j DO))/\ws.a=L.a/\(∀kvs∈ws,Wy kvs)/\(∀s:U At,s.a=L.a->HD ws s=K5 L f g s)/\∀(k:Y)(kvs:Bd)(j:BB),ws[k]?=Z kvs->L[k]?=Z j->∀a v,Zl kvs (.at a)=Z v->∃l∈j,hd l∈f k/\l.B (g.B k 0) .Y=a/\v=aD (l.B (e.B k 0) .Y):=by
 let H:=h.n4
 let(W,i):=ZGn (n:=L.a) ([]:Bd) (P:=λk kvs=>Wy kvs/\(∀a,(Zl kvs (.at a)).μ=K4 (L.B k []) (f k) (g.B k 0) a)/\(∀a v,Zl kvs (.at a)=Z v->∃l∈L.B k [],hd l∈f k/\l.B (g.B k 0) .Y=a/\v=aD (l.B (e.B k 0) .Y))/\Qi [.u (LD (L.B k [])),‹(g.B k 0:Y)›,‹(e.B k 0:Y)›,.u (BJ (f k))]=Z (.χ (Zc kvs) .d)) λk c=>by
  let t:L[k]?=Z (L.B k []):=by simp[Cm,c]
  let(p,u):=h.v0 _ (GO t)
  show ZzT u _ _ _
 let o:=Zv (b:=ZC 2 (Zf (Zb 0) (Zf (Zb 1) ZD))) (e:=VS) (ρ:=[.no,.no,.u (Ar g),.u (Ar e),#v[(Bf L.a).j λk=>BJ (f k)]]) (λk:Y=>D.O [.r k,LD (L.B k [])]) (λk=>DO (W k)) (Bf L.a) λk c=>by
  let c:=C9.mp c
  let w:=(i k c).2.2.2
  let x:=Mw (g:=g) (k:=k) ∅
  let i2:=Mw (g:=e) (k:=k) ∅
  let y:=k6 f c
  apply#[[‹k›,.u (LD (L.B k [])),.u (Ar g),.u (Ar e),#v[(Bf L.a).j λk=>BJ (f k)]],rfl,?_]
  generalize (Bf L.a).j (λk=>BJ (f k))=V,BJ (f k)=F,Ar g=N,Ar e=E,LD (L.B k [])=A at *
  rwa[VS,x,i2,y,w,DY]
 apply#[(Bf L.a).j W,?_,by simp,λkvs c=>?_,λs z=>?_,λk kvs j h1 h2=>?_]
 .rw[B4,show DO∘W=λk=>DO (W k)from rfl]
  let q:ZR 0 (L.j LD)=(Bf L.a).j λk:Y=>D.O [.r k,LD (L.B k [])]:=by
   rw[lm];erw[Nat.zero_add]
  let B:=Zq (ZR 0 (L.j LD)) (by rw[q];simp;lia)
  rw[<- q]at o
  apply Zp rfl ?_
  clear i
  generalize (Bf L.a).j (λk=>BJ (f k))=V,(Bf L.a).j (λk=>DO (W k))=K,L.j LD=M,ps.j Bz=PS,Ar g=N,Ar e=E at *
  change VU [#v[M],.u N,.u E,#v[PS],.no]=_
  rwa[VU,r,DY,Zi,EX,ZX,show Zr 2 [1,2,4] [#v[M],.val N,.val E,#v[PS],#v[V]]=[.no,.no,.val N,.val E,#v[V]]from rfl,B,o,ZK]
 .let(k,m,rfl):=Bc.mp c
  show(i k (C9.mp m)).1
 .rw[HD,ZBP _ W L.a s z,K5,Bool.eq_iff_iff,Dc,Dc]
  show forall_congr' λk=>forall_congr' λc=>by rw[(i k (C9.mp c)).2.1]
 .rw[DF]at h1
  let c:k<L.a:=(BR.mp h2).1
  rw[List.getElem?_range c]at h1
  ext h1
  have:=(i k c).2.2.1
  rw[show L.B k []=j by simp[Cm,h2]]at this
  show this
def Io(n:Y)(f:Y->U At)(s:U At):jp:=(Bf n).ϔ λk=>decide (s.B k .Y∈f k)
def
Rr{L:AM}(h:Bv L){g:U Y}(n:g.a=L.a){s:U At}(d:AJ L s){k:Y}(f:k<L.a):∃(b:BB)(l:U At),L[k]?=Z b/\l∈b/\s.B k .Y=hd l/\(CF (qs L g) s).B k .Y=l.B (g.B k 0) .Y:=by
 let(b,a,h1,h2,i,j):=d.Ι k f
 let(p,m):=h.v0 b i
 let(l,c,rfl):=Bc.mp j
 let e:=kF h1 (show g[k]?=Z (g.B k 0) by simp[Cm,Cc (show k<g.length by lia)]) h2
 rw[Q8 (q:=(b,g.B k 0)) m.hdn c]at e
 show#[b,l,h1,c,by simp[Cm,h2],by erw[Cm,e,Option.getD]]
def
Zz6{L:AM}(h:Bv L){g e:U Y}(l:g.a=L.a){f:Y->U At}(b:Hb L f g e){s:U At}(m:AJ L s):K5 L f g (CF (qs L g) s)=Io L.a f s:=by
 unfold K5 Io
 rcases b with⟨k,c,d⟩|b
 .let a:=C9.ϡ c
  rw[List.all_eq_false.ϡ #[k,a,by simp[K4,d]],List.all_eq_false.ϡ #[k,a,by simp[d]]]
 .rw[Bool.eq_iff_iff,Dc,Dc]
  apply forall_congr' λk=>forall_congr' λa=>?_
  let c:=C9.mp a
  let(i,y,h1,j,n,o):=Rr h l m c
  let p:=b k i h1
  rw[n,o,show L.B k []=i by simp[Cm,h1],K4,List.any_eq_true,decide_eq_true_iff]
  constructor
  .intro zQ;let(x,q,hb):=zQ
   erw[C2,decide_eq_true_iff]at hb
   have:=p x q y j hb.2
   unfold av at this
   rw[if_pos hb.1]at this
   split at this
   .assumption
   .cases this
  .show λz=>#[y,j,by simp[z]]
def
Xy{L:AM}{g:U Y}(b:g.a=L.a){s:U At}(a:AJ L s):(CF (qs L g) s).a=L.a:=by
 have:=a.Ϫ
 simp_all [qs,Mp]
def
ZGG{L:AM}(h:Bv L){g e:U Y}(w:g.a=L.a)(E:e.a=L.a){f:Y->U At}(m:Hb L f g e){ws:U Bd}(F:ws.a=L.a)(M:∀s:U At,s.a=L.a->HD ws s=K5 L f g s)
  (N:∀(k:Y) (kvs:Bd) (c:BB),ws[k]?=Z kvs->L[k]?=Z c->∀a v,Zl kvs (.at a)=Z v->∃l∈c,hd l∈f k/\l.B (g.B k 0) .Y=a/\v=aD (l.B (e.B k 0) .Y)) {s:U At} (i:AJ L s) (b:HD ws (CF (qs L g) s)=J'):J4 ws (CF (qs L g) s)=CF (qs L e) s:=by
 let kl:=Xy w i
 let x:=Xy E i
 let m:∀k c,L[k]?=Z c->Jd c (f k) (g.B k 0) (e.B k 0):=by
  rcases m with⟨k,j,K⟩|m
  .rw[M _ kl,K5,List.all_eq_false.ϡ #[k,C9.ϡ j,by simp[K4,K]]]at b
   ext b
  .show m
 unfold J4
 apply List.ext_getElem (by simp[kl,x,F]) λk h1 h2=>?_
 erw[List.length_zipWith]at h1
 let j:k<L.a:=∅
 let(c,y,u,Q,_,G):=Rr h w i j
 let(T,H,n,o,z,q):=Rr h E i j
 rw[u]at n;ext n
 let(P,a,R,g3,Y',g5):=i.Ι k j
 rw[u]at R;ext R
 let yy:H=y:=by
  let(p,hp):=h.v0 c Y'
  let(_,_,_,_,e1,_):=Rr h w i j
  show Mu hp.hdn o Q (by rw[<- z];assumption)
 subst yy
 erw[Cm,Cc (show k<(CF (qs L g) s).length by lia),Cc h2,O0]at G q
 rw[List.getElem_zipWith,q]
 let d:(Zl (ws[k]'∅) (.at ((CF (qs L g) s)[k]'∅))).μ=J':=by
  unfold HD at b
  rw[Dc]at b
  show b _ (List.mem_iff_getElem.ϡ #[k,by simp;lia,by rw[List.getElem_zipWith];rfl])
 let(v,r):=RV.mp d
 let(l,A,B,C,rfl):=N k _ c (Cc ∅) u _ v r
 rw[r,O0,lh]
 let t:=m k c u l A H o (by rw[C];simpa[Cm]using G)
 unfold av at t
 rw[if_pos B]at t
 split at t
 .simpa[Cm]using t
 .cases t
def
lr{L:AM}(h:Bv L){g e:U Y}(b:g.a=L.a)(n:e.a=L.a){f:Y->U At}(d:Hb L f g e){ws:U Bd}(o:ws.a=L.a)(i:∀s:U At,s.a=L.a->HD ws s=K5 L f g s)
  (q:∀(k:Y) (kvs:Bd) (t:BB),ws[k]?=Z kvs->L[k]?=Z t->∀a v,Zl kvs (.at a)=Z v->∃l∈t,hd l∈f k/\l.B (g.B k 0) .Y=a/\v=aD (l.B (e.B k 0) .Y)):∀rs:U Row,(∀r∈rs,AJ L r.1)->((DN (qs L g) rs).ν λp=>HD ws p.1).j (λp=>(J4 ws p.1,p.2))=DN (qs L e) (rs.ν λr=>Io L.a f r.1)
 |[],_=>rfl
 |r::rs,u=>by
  let j:=lr h b n d o i q rs λx z=>u x (A5 _ z)
  let m:=u r A6
  let w:=i _ (Xy b m)
  rw[Zz6 h b d m]at w
  let y:=ZGG h b n d o i q m
  unfold DN at j ⊢
  rw[AT,Rb,Rb]
  erw[w]at y ⊢
  split
  .next c=>rw[AT,AT,j,y c]
  .show j
def
ZBH{L:AM}(h:Bv L){g e:U Y}(j:g.a=L.a)(o:e.a=L.a)(ps:U Pk){f:Y->U At}(t:ZO [#v[L.j LD],#v[ps.j Bz]]=Z (.χ ((Bf L.a).j λk=>BJ (f k))))(l:Ml [#v[L.j LD],.u (Ar g),.u (Ar e),#v[ps.j Bz]]=Z (.u .Y))(u:Hb L f g e){rs:U Row}(p:∀r∈rs,AJ L r.1)(G:rs.a<64):V0 [#v[L.j LD],#v[ZU L g rs],.u (Ar g),.u (Ar e),#v[ps.j Bz]]=Z (.χ (ZU L e (rs.ν λr=>Io L.a f r.1))):=by
 let(b,w,y,q,z,B):=lq h j o ps t
 let n1:=h.n1
 let n4:=h.n4
 let ok:=Oz j p
 let m:∀x∈HC (C8 L g rs),x.1∈Zj (C8 L g rs):=λx d=>by
  let(k,C,rfl):=Bc.mp d
  show(ZB Bo _).Υ.mp C
 let s:=j6 (n:=L.a) n1 n4 (A:=b.j DO) (go:=HD b) (th:=J4 b) (es:=HC (C8 L g rs)) #[by simp;lia,λx d=>ll b x.1 q ∅,λx d c=>li b x.1 q c,λx d c=>by
  have:=ok.kl _ (m x d)
  simp[J4];lia] (by
   have:=ok.Ϫ
   rw[HC,Bu,(ZB _ _).Ψ,Zj,Bu];lia)
 let a:=ZBA (HD b) (J4 b) (DN (qs L g) rs) s.2
 rw[lr h j o u y z B rs p]at a
 let i:=s.1
 rw[a,<- Xx]at i
 apply Zp rfl ?_
 change VZ [#v[L.j LD],#v[CY (C8 L g rs)],.u (Ar g),.u (Ar e),#v[ps.j Bz]]=.Ϻ (.χ (CY (Es (DN (qs L e) (rs.ν λr=>Io L.a f r.1)) [])))
 generalize CY (C8 L g rs)=T,CY (Es (DN (qs L e) (rs.ν λr=>Io L.a f r.1)) [])=Y',L.j LD=W,ps.j Bz=PS,Ar g=F,Ar e=E,b.j DO=V at *
 rwa[VZ,l,DS,isN,DU,w,DY,i,Ey,ZK]
def
ZGi:Gd.Ϗ "kept"=O':=by symm
def
ZBy:Gd.Ϗ "plan"=O':=by symm
def
lu{L:AM}(h:Bv L):Qg [#v[L.j LD]]=Z (.u (Ar (L.j wh))):=by
 let k:=h.n4
 let c:=Zv (b:=Zb 0) (e:=T8) (ρ:=[.no]) LD (λa=>D.r (wh a)) L λa d=>#[[.u (LD a)],rfl,by
  let(p,f):=h.v0 a d
  rwa[T8,W7 f]]
 let ht:Ec [.U (L.j λa=>D.r (wh a))]=Z (Ar (L.j wh)):=by
  change Z (D.O _)=Z (D.O ((L.j wh).j λj:Y=>D.r j))
  rw[B4];rfl
 let g:=Zq (L.j LD) (by simp;lia)
 apply Zp rfl ?_
 generalize L.j LD=W,L.j (λa=>D.r (wh a))=V,Ar (L.j wh)=l at *
 change T9 [#v[W]]=_
 rwa[T9,Zi,g,show ∀i,Zr 1 [] i=[.no]from λ_=>rfl,c,ht]
abbrev HE(a:U (U At×D)):U D:=a.j λe=>.O [Ah e.1,e.2]
def
ZzN{L:AM}(h:Bv L){g:U Y}(l:g.a=L.a)(ps:U Pk){f:Y->U At}(m:ZO [#v[L.j LD],#v[ps.j Bz]]=Z (.χ ((Bf L.a).j λk=>BJ (f k))))(d:U (U At×D))(hz:d.a<=1000):∃n:Y,Wj [#v[L.j LD],#v[HE d],.u (Ar g),#v[ps.j Bz]]=Z ‹n›:=by
 let(i,o,u,p,_):=lq h l (show(L.j wh).a=L.a by simp) ps m
 let w:=h.n4
 let q:=lu h
 let j:=K1 (b:=ZC 2 (Zf (Zb 0) (Zf (Zb 1) ZD))) (t:=V1) (e:=gM) (ρ:=[.no,.no,#v[i.j DO]]) (λe:U At×D=>D.O [Ah e.1,e.2]) (λe=>D.O [Ah e.1,e.2]) (λe=>(Dg (λc a=>(Zl c (.at a)).μ) i e.1).ϔ id) d λe _=>#[[.u (Ah e.1),.u e.2,#v[i.j DO]],rfl,by
  have:=ll i e.1 p ∅
  show#[by rwa[V1,this,Et],rfl]]
 rw[show d.j (λe=>D.O [Ah e.1,e.2])=HE d from rfl]at j
 apply#[((d.ν λe=>(Dg (λc a=>(Zl c (.at a)).μ) i e.1).ϔ id).j λe=>D.O [Ah e.1,e.2]).a,?_]
 let r:=Zq (HE d) (by simp;lia)
 let s:V3 [#v[L.j LD],#v[HE d],.u (Ar g),#v[ps.j Bz]]=Z (.χ ((d.ν λe=>(Dg (λc a=>(Zl c (.at a)).μ) i e.1).ϔ id).j λe=>D.O [Ah e.1,e.2])):=by
  apply Zp rfl ?_
  generalize (d.ν λe=>(Dg (λc a=>(Zl c (.at a)).μ) i e.1).ϔ id).j (λe=>D.O [Ah e.1,e.2])=Y',HE d=T,i.j DO=V,L.j LD=W,ps.j Bz=PS,Ar g=x,Ar (L.j wh)=E at *
  change V2 [#v[W],#v[T],.u x,#v[PS],.no]=_
  rwa[V2,q,o,DY,Zi,r,show Zr 2 [4] [#v[W],#v[T],.val x,#v[PS],#v[V]]=[.no,.no,#v[V]]from rfl,j,ZK]
 apply Zp rfl ?_
 generalize (d.ν λe=>(Dg (λc a=>(Zl c (.at a)).μ) i e.1).ϔ id).j (λe=>D.O [Ah e.1,e.2])=Y',HE d=T,L.j LD=W,ps.j Bz=PS,Ar g=x at *
 change Wi [#v[W],#v[T],.u x,#v[PS]]=_
 rwa[Wi,s,DY,show ZA [.lst Y']=Z (.int Y'.length)from rfl]
variable {L:AM}{rs:U Row}
def
ZBb{R:U D}{ys:U D}(b:EU F6 (gs.j Ar)=Z ys):TU [.u (BD L R (Zc (AI L rs gs)))]=Z (.χ ys):=by
 let c:=K3 (L:=L) (R:=R) (T:=Zc (AI L rs gs))
 let e:L5 (Z (.U (Zc (AI L rs gs)) .d))=Z ys:=by
  show(DV (Zc (AI L rs gs))).L (λa=>EU F6 (a.j λp=>kD p.1))=_
  rw[Z1]
  change EU F6 ((AI L rs gs).j λp=>kD p.1)=_
  rw[Xe,b]
 generalize D.U (Zc (AI L rs gs)) .d=TT,BD L R (Zc (AI L rs gs))=B at *
 apply Zp rfl ?_
 change TR [.u B]=_
 rwa[TR,c,e,ZK]
def Mx(L:AM)(e:U Y)(f:Y->U At)(ps:U Pk)(gs:U (U Y))(d:D):V':=d=.Y\/∃g∈gs,∃n:Y,d=.O [Ar g,.r n]/\Ml [#v[L.j LD],.u (Ar g),.u (Ar e),#v[ps.j Bz]]=Z (.u .Y)/\Hb L f g e
variable(h:Bv L)(hr:∀r∈rs,AJ L r.1)(hrl:rs.a<64)(hgs:∀g∈gs,g.a=L.a){e:U Y}(he:e.a=L.a){ps:U Pk}(hq:∀q∈ps,q.2.2.1.a<=100){f:Y->U At}(hf:Ch L ps f)(ev:ZO [#v[L.j LD],#v[ps.j Bz]]=Z (.χ ((Bf L.a).j λk=>BJ (f k))))
include h hr hrl hgs he hq hf ev
def
ZwK{g:U Y}(b:g∈gs)(d:D)(hd:Mx L e f ps gs d)(C:Sl):
  ∃d' m,KU [.u (BD L (rs.j Ze) (Zc (AI L rs gs))),.u (Ar e),#v[ps.j Bz],.u d,.u (Ar g),C]=.β [.u (BD L (rs.j Ze) (Zc (AI L rs gs))),.u (Ar e),#v[ps.j Bz],.u d',.u (Ar g),m]/\Mx L e f ps gs d'/\(d≠.Y->d'≠.Y)/\(Hb L f g e->d'≠.Y):=by
 let(r,i,o):=Zy4 h (hgs g b) he ps hq hf ev
 let a1:=K2 (L:=L) (R:=rs.j Ze) (T:=Zc (AI L rs gs))
 rcases o with⟨rfl,H⟩|⟨⟨k,x,y,rfl⟩,M⟩
 .let a2:=K3 (L:=L) (R:=rs.j Ze) (T:=Zc (AI L rs gs))
  let l:=Oy L rs b
  obtain⟨a,p,F⟩:∃a:U (U At×D),ZU L g rs=HE a/\a.a<=1000:=#[(Zx Bo (Zj (C8 L g rs))).j λk=>(k,vC ((ZH (C8 L g rs) k).B (0,[]))),by change CY _=_;rw[CY,HE,B4];rfl,by
   have:=(Oz (hgs g b) hr).Ϫ
   rw[Bu,(ZB _ _).Ψ,Zj,Bu];lia]
  let(c,q):=ZzN h (hgs g b) ps ev a F
  rw[p]at l
  let nw:Mx L e f ps gs (.O [Ar g,.r c]):=.τ #[g,b,c,rfl,i,H]
  rcases hd with rfl|⟨j,s,n,rfl,t,u⟩
  .apply#[.O [Ar g,.r c],‹c›,?_,nw,λ_ z=>(nomatch z),λ_ z=>(nomatch z)]
   generalize BD L (rs.j Ze) (Zc (AI L rs gs))=B,L.j LD=W,ps.j Bz=PS,Ar g=K,Ar e=E,HE a=T at *
   rwa[KU,a1,i,DS,isN,a2,l,q]
  .let lt:FE (.r c) (.r n)=Z (.bl (decide ((c:W')<n))):=rfl
   let w:Mx L e f ps gs (.O [Ar j,.r n]):=.τ #[j,s,n,rfl,t,u]
   cases G:decide ((c:W')<n)with
   |true=>
    rw[G]at lt
    apply#[.O [Ar g,.r c],‹c›,?_,nw,λ_ z=>(nomatch z),λ_ z=>(nomatch z)]
    generalize BD L (rs.j Ze) (Zc (AI L rs gs))=B,L.j LD=W,ps.j Bz=PS,Ar g=K,Ar e=E,HE a=T,Ar j=A at *
    rwa[KU,a1,i,DS,isN,a2,l,q,show Ap (.tup [A,.int n]) (.int 1)=Z (.int n)from rfl,lt]
   |false=>
    rw[G]at lt
    apply#[.O [Ar j,.r n],‹c›,?_,w,λ_ z=>(nomatch z),λ_ z=>(nomatch z)]
    generalize BD L (rs.j Ze) (Zc (AI L rs gs))=B,L.j LD=W,ps.j Bz=PS,Ar g=K,Ar e=E,HE a=T,Ar j=A at *
    rwa[KU,a1,i,DS,isN,a2,l,q,show Ap (.tup [A,.int n]) (.int 1)=Z (.int n)from rfl,lt]
 .apply#[d,C,?_,hd,id,λz=>absurd z M]
  generalize BD L (rs.j Ze) (Zc (AI L rs gs))=B,L.j LD=W,ps.j Bz=PS,Ar g=K,Ar e=E at *
  rwa[KU,a1,i,DS,isN]
def
lw:∀(a:U (U Y))(d:D)(i b:Sl),(∀g∈a,g∈gs)->Mx L e f ps gs d->∃d' j k,ZE (Zb 4) KU (a.j Ar) [.u (BD L (rs.j Ze) (Zc (AI L rs gs))),.u (Ar e),#v[ps.j Bz],.u d,i,b]=.β [.u (BD L (rs.j Ze) (Zc (AI L rs gs))),.u (Ar e),#v[ps.j Bz],.u d',j,k]/\Mx L e f ps gs d'/\(d≠.Y->d'≠.Y)/\((∃g∈a,Hb L f g e)->d'≠.Y)
 |[],d,i,b,_,hd=>#[d,i,b,rfl,hd,id,λ⟨_,h,_⟩=>nomatch h]
 |g::a,d,i,b,l,hd=>by
  let(m,n,o,h1,h2,p):=ZwK h hr hrl hgs he hq hf ev (l g A6) d hd b
  let(q,r,s,t,k1,k2,u):=lw a m (.u (Ar g)) n (λx c=>l x (A5 _ c)) h1
  apply#[q,r,s,?_,k1,λz=>k2 (h2 z),λ⟨x,c,z⟩=>?_]
  .rw[AT,ZE]
   erw[Zb,Ef,Eg,o]
   show t
  .rcases Bl.mp c with rfl|c
   .show k2 (p z)
   .show u #[x,c,z]
def
ZwC(m:gs.a<64)(c:CZ L e)(hz:∃g∈gs,Hb L f g e)(o:N6 [#v[L.j LD],#v[ps.j Bz]]=Z (.u (.bl J'))):Wp [.u (BD L (rs.j Ze) (Zc (AI L rs gs))),.u (Ar e),#v[ps.j Bz]]=Z (.χ (ZU L e (rs.ν λr=>Io L.a f r.1))):=by
 let n1:=h.n1
 let p:=kL (gs:=gs) m λg a z=>by have:=hgs g a;rw[z]at this;simp at this;lia
 let q:=ZBb (L:=L) (rs:=rs) (R:=rs.j Ze) p
 let b:=ZB EF gs
 let(d,A,C,s,hd,_,i):=lw h hr hrl hgs he hq hf ev (Zx EF gs) .Y .no .no (λg a=>b.Υ.mp a) (.S rfl)
 let i:=i (by let(g,a,j):=hz;show#[g,b.Υ.ϡ a,j])
 rcases hd with rfl|⟨g,a,n,rfl,t,j⟩
 .show absurd rfl i
 let u:=W8 h c
 let a1:=K2 (L:=L) (R:=rs.j Ze) (T:=Zc (AI L rs gs))
 let a2:=K3 (L:=L) (R:=rs.j Ze) (T:=Zc (AI L rs gs))
 let w:=Oy L rs a
 let x:EW "Book" "kept" (.u (BD L (rs.j Ze) (Zc (AI L rs gs))))=J':=by rwa[EW,ZGi]
 let k:EW "Book" "plan" (.u (BD L (rs.j Ze) (Zc (AI L rs gs))))=J':=by rwa[EW,ZBy]
 let y:=ZBH h (hgs g a) he ps ev t j hr hrl
 let l:Wn [.u (BD L (rs.j Ze) (Zc (AI L rs gs))),.u (Ar e),#v[ps.j Bz]]=Z (.u (.O [Ar g,.r n])):=by
  apply Zp rfl ?_
  generalize BD L (rs.j Ze) (Zc (AI L rs gs))=B,L.j LD=W,ps.j Bz=PS,(Zx EF gs).j Ar=G,Ar g=F,Ar e=E at *
  change Wm [.u B,.u E,#v[PS],.no,.no,.no]=_
  rwa[Wm,hR,gY,a1,u,Et,hQ,gZ,o,hJ,g8,hH,hD,ZY,x,q,DY,ZN,s,hG,hE]
 apply Zp rfl ?_
 generalize BD L (rs.j Ze) (Zc (AI L rs gs))=B,L.j LD=W,ps.j Bz=PS,ZU L g rs=T,ZU L e (rs.ν λr=>Io L.a f r.1)=Y',Ar g=F,Ar e=E at *
 change Wo [.u B,.u E,#v[PS],.no]=_
 rwa[Wo,ZY,k,l,show Ap (.tup [F,.int n]) (.int 0)=Z F from rfl,a1,a2,w,DU,y,Ey,ZK]
end
abbrev Pv:=Y×Y×At
abbrev BL(q:Pv):D:=.O [.r q.1,.r q.2.1,aD q.2.2]
abbrev Ip(q:Pv):Pk:=(q.1,q.2.1,[q.2.2],O')
def FP(L:AM)(q:Pv):V':=∃a,L[q.1]?=Z a/\q.2.1<=wh a/\∃l∈a,l.B q.2.1 .Y=q.2.2
def
lx{a:BB}{p:Y}(b:GL a p){l:U At}(d:l∈a)(j:Y):Sm (aD (l.B j .Y))/\(JV (aD (l.B j .Y))=J'\/l.B j .Y=.Y):=by
 by_cases c:j<l.a
 .let e:l.B j .Y=l[j]:=by simp[Cm,c]
  have:=b.u l d _ (Hq c)
  rw[e]
  show#[this.2,.S this.1]
 .let e:l.B j .Y=.Y:=by simp[Cm,Sh (Kh c)]
  rw[e]
  show#[trivial,.τ rfl]
def
ZB2{L:AM}(h:Bv L){q:Pv}(i:FP L q):Mi [#v[L.j LD],.u (Bz (Ip q))]=Z (.u (.bl J')):=by
 let(f,h1,h2,l,j,e):=i
 let(p,g):=h.v0 f (GO h1)
 let a:=lx g j q.2.1
 rw[e]at a
 let m:Gb (wh f) (.r q.2.1)=J':=by
  unfold Gb
  simp;lia
 let b:[aD q.2.2].ϔ Im=J':=by
  rcases a.2 with c|c
  .revert c
   cases q.2.2<;>intro c<;>simp_all [Im,aD]
  .rw[c];rfl
 have:=ZBE (k:=q.1) (y:=.r q.2.1) (z:=.U [aD q.2.2]) (zs:=[aD q.2.2]) h1 g (show Sm (.r q.2.1)from trivial) m (.S rfl) (λd hd=>by rw[Fw.mp hd];show a.1) (by simp)
 rw[b]at this
 show this
def
ZzH{L:AM}(h:Bv L){ps:U Pv}(b:∀q∈ps,FP L q)(c:ps.a<=1000):N6 [#v[L.j LD],#v[(ps.j Ip).j Bz]]=Z (.u (.bl J')):=by
 have:=ZzK (L.j LD) ((ps.j Ip).j Bz) (λ_=>J') (λd hd=>by
  let(k,e,rfl):=Bc.mp hd
  let(q,a,rfl):=Bc.mp e
  show ZB2 h (b q a)) (by exists c)
 rw[Dc.ϡ λ_ _=>rfl]at this
 show this
def DP(L:AM)(ps:U Pv)(s:U At):jp:=ps.ϔ λq=>decide (E7 (L.B q.1 [],q.2.1) (s.B q.1 .Y)=q.2.2)
def
ZwA{L:AM}(h:Bv L)(e f g i:Sl){s:U At}(j:AJ L s){q:Pv}(o:FP L q)(b:jp):
  Qn [#v[L.j LD],e,f,g,.u (Ah s),i,.u (.bl b),‹q.1›,‹q.2.1›,.u (aD q.2.2)]=.β [#v[L.j LD],e,f,g,.u (Ah s),i,.u (.bl (b&&decide (E7 (L.B q.1 [],q.2.1) (s.B q.1 .Y)=q.2.2))),‹q.1›,‹q.2.1›,.u (aD q.2.2)]:=by
 let(d,h1,h2,_):=o
 let(p,k):=h.v0 d (GO h1)
 let l:q.1<L.a:=(BR.mp h1).1
 let(r,a,m,n,x,t):=j.Ι q.1 l
 rw[h1]at m;ext m
 rw[k.wh]at h2
 let u:=kx k h2 t
 let w:=Rm h1
 let i2:Ap (Ah s) (.r q.1)=Z (aD a):=by
  rw[W9 (by rw[j.Ϫ];show l)];simp[Cm,n]
 let eq:Ce (aD (E7 (d,q.2.1) a)) (aD q.2.2)=Z (.bl (decide (E7 (d,q.2.1) a=q.2.2))):=by
  erw[Ce,FL,Ig,Mn,F7,if_true]
 rw[show L.B q.1 []=d by simp[Cm,h1],show s.B q.1 .Y=a by simp[Cm,n]]
 generalize decide (E7 (d,q.2.1) a=q.2.2)=c,aD (E7 (d,q.2.1) a)=y,aD q.2.2=V,L.j LD=W,Ah s=S,LD d=A,aD a=X at *
 ext b<;>rwa[Qn,w,i2,u,Ic,eq,Bool.false_and,KI]
def
ly{L:AM}(h:Bv L)(a c d e:Sl){s:U At}(m:AJ L s):∀(ps:U Pv)(b:jp)(f g i:Sl),(∀q∈ps,FP L q)->∃j k l,ZE (ZC 3 (Zf (Zb 7) (Zf (Zb 8) (Zf (Zb 9) ZD)))) Qn (ps.j BL) [#v[L.j LD],a,c,d,.u (Ah s),e,.u (.bl b),f,g,i]=.β [#v[L.j LD],a,c,d,.u (Ah s),e,.u (.bl (b&&DP L ps s)),j,k,l]
 |[],b,f,g,i,_=>#[f,g,i,by simp[DP];rfl]
 |q::ps,b,f,g,i,n=>by
  let o:=ZwA h a c d e m (n q A6) b
  let(p,r,t,u):=ly h a c d e m ps (b&&decide (E7 (L.B q.1 [],q.2.1) (s.B q.1 .Y)=q.2.2)) ‹q.1› ‹q.2.1› (.u (aD q.2.2)) λx w=>n x (A5 _ w)
  apply#[p,r,t,?_]
  rw[AT,ZE,show ZC 3 (Zf (Zb 7) (Zf (Zb 8) (Zf (Zb 9) ZD))) (BL q) [#v[L.j LD],a,c,d,.u (Ah s),e,.u (.bl b),f,g,i]=Z [#v[L.j LD],a,c,d,.u (Ah s),e,.u (.bl b),‹q.1›,‹q.2.1›,.u (aD q.2.2)]from rfl]
  erw[o]
  rw[u,Bool.and_assoc]
  rfl
def
ZBs{L:AM}(h:Bv L)(a:Sl){ps:U Pv}(l:∀q∈ps,FP L q)(acc:U Row)(hz:acc.a<1000)(r:Row)(m:AJ L r.1)(n i j k:Sl):
  ∃b c d f,N2 [#v[L.j LD],a,#v[ps.j BL],.χ (acc.j Ze),.u (Ah r.1),‹r.2›,n,i,j,k]=.β [#v[L.j LD],a,#v[ps.j BL],.χ ((acc++if DP L ps r.1 then [r]else []).j Ze),.u (Ah r.1),‹r.2›,b,c,d,f]:=by
 let(o,p,s,e):=ly h a #v[ps.j BL] (.χ (acc.j Ze)) ‹r.2› m ps J' i j k l
 rw[KI]at e
 apply#[.u (.bl (DP L ps r.1)),o,p,s,?_]
 let g:(acc.j Ze).a<Az:=by rw[Bu];show Gj hz (by ext)
 cases hb:DP L ps r.1 with
 |true=>
  rw[hb]at e
  rw[if_pos rfl,De,show [r].j Ze=[D.O [Ah r.1,.r r.2]]from rfl]
  generalize L.j LD=W,ps.j BL=PS,Ah r.1=S,acc.j Ze=F at *
  rwa[N2,ZN,e,Et,D3,if_pos g]
 |false=>
  rw[hb]at e
  rw[if_neg (by ext),Du]
  generalize L.j LD=W,ps.j BL=PS,Ah r.1=S,acc.j Ze=F at *
  rwa[N2,ZN,e,Et]
def
lz{L:AM}(h:Bv L)(l:Sl){ps:U Pv}(y:∀q∈ps,FP L q):∀(rs acc:U Row)(m n g i j k:Sl),acc.a+rs.a<1000->(∀r∈rs,AJ L r.1)->∃o p s t u w,ZE (ZC 2 (Zf (Zb 4) (Zf (Zb 5) ZD))) N2 (rs.j Ze) [#v[L.j LD],l,#v[ps.j BL],.χ (acc.j Ze),m,n,g,i,j,k]=.β [#v[L.j LD],l,#v[ps.j BL],.χ ((acc++rs.ν λr=>DP L ps r.1).j Ze),o,p,s,t,u,w]
 |[],acc,m,n,g,i,j,k,_,_=>#[m,n,g,i,j,k,by simp;rfl]
 |r::rs,acc,m,n,g,i,j,k,A,z=>by
  erw[Cb]at A
  let(B,C,E,G,H):=ZBs h l y acc ∅ r (z r A6) g i j k
  let(a,b,c,d,e,f,K):=lz h l y rs (acc++if DP L ps r.1 then [r]else []) (.u (Ah r.1)) ‹r.2› B C E G (by rw[D2];split<;>simp<;>lia) λx F=>z x (A5 _ F)
  apply#[a,b,c,d,e,f,?_]
  rw[AT,ZE,show ZC 2 (Zf (Zb 4) (Zf (Zb 5) ZD)) (Ze r) [#v[L.j LD],l,#v[ps.j BL],.χ (acc.j Ze),m,n,g,i,j,k]=Z [#v[L.j LD],l,#v[ps.j BL],.χ (acc.j Ze),.u (Ah r.1),‹r.2›,g,i,j,k]from rfl]
  erw[H]
  rw[K,Rb,Dy]
  by_cases hb:DP L ps r.1=J'<;>simp[hb]
def
ZrR{L:AM}(h:Bv L){ps:U Pv}(i:∀q∈ps,FP L q)(rs:U Row)(j:∀r∈rs,AJ L r.1)(k:rs.a<64):UF [#v[L.j LD],#v[rs.j Ze],#v[ps.j BL]]=Z (.χ ((rs.ν λr=>DP L ps r.1).j Ze)):=by
 let(a,b,c,d,e,f,g):=lz h #v[rs.j Ze] i rs [] .no .no .no .no .no .no (by simp;lia) j
 rw[EZ]at g
 apply Zp rfl ?_
 rw[show([]:U Row).j Ze=[]from rfl]at g
 generalize L.j LD=W,ps.j BL=PS,rs.j Ze=R,(rs.ν λr=>DP L ps r.1).j Ze=Y' at *
 change UE [#v[W],#v[R],#v[PS],.no,.no,.no,.no,.no,.no,.no]=_
 rwa[UE,show Zg (Z ([]:U D))=Z []from rfl,Z4,ZN,g,Db,ZK]
def
Zyo{L:AM}(h:Bv L){ps:U Pv}(o:∀q∈ps,FP L q){f:Y->U At}(r:Ch L (ps.j Ip) f){s:U At}(t:AJ L s):Io L.a f s=DP L ps s:=by
 let i:∀k,k<L.a->(s.B k .Y∈f k↔∀q∈ps,q.1=k->E7 (L.B q.1 [],q.2.1) (s.B q.1 .Y)=q.2.2):=λk g=>by
  let(j,a,h1,h2,u,v):=t.Ι k g
  let(p,n):=h.v0 j u
  let(y,m,rfl):=Bc.mp v
  rw[show s.B k .Y=hd y by simp[Cm,h2],r.mem k j h1]
  let e:∀q:Pv,q.1=k->E7 (L.B q.1 [],q.2.1) (s.B q.1 .Y)=y.B q.2.1 .Y:=λq z=>by
   rw[z,show L.B k []=j by simp[Cm,h1],show s.B k .Y=hd y by simp[Cm,h2],Q8 (q:=(j,q.2.1)) n.hdn m]
  constructor
  .rintro⟨l,w,d,x⟩ q b z
   cases Mu n.hdn w m x
   unfold FO at d
   rw[GX,Dc]at d
   have:=d q b
   simp[z]at this
   rw[e q z]
   simpa[Cm]using this
  .intro z
   apply#[y,m,?_,rfl]
   unfold FO
   rw[GX,Dc]
   intro q b
   by_cases c:q.1=k
   .have:=z q b c
    rw[e q c]at this
    simp[Cm]at this
    simp[c,this]
   .simp[c]
 unfold Io DP
 rw[Bool.eq_iff_iff,Dc,Dc]
 constructor
 .intro z q b
  let(j,h1,_):=o q b
  let g:q.1<L.a:=(BR.mp h1).1
  have:=z q.1 (C9.ϡ g)
  rw[decide_eq_true_iff]at this
  rw[decide_eq_true_iff]
  show(i q.1 g).mp this q b rfl
 .intro z k g
  let g:=C9.mp g
  rw[decide_eq_true_iff,i k g]
  intro q b c
  exists z q b
def
lC(xs:U D)(k:Y):Internal.cutD xs J (Z (k:W'))=xs.ύ k:=by
 rw[wF _ _ ∅,Nw]
def
lD(xs:U D)(k:Y):Internal.cutD xs (Z ((k:W')+1)) J=xs.Ν (k+1):=by
 rw[Tv _ _ ∅,show((k:W')+1).Β=k+1 by show Int.toNat_natCast_add_one]
abbrev My:U Ae:=["book","steps"]
abbrev kV:Kd:=.i My "View"
abbrev Fu(b st:Y):Cl:=.mix kV [.ϋ b,.ϋ st]
abbrev VD(B:D)(S:U D):D:=.U [B,.U S] kV
abbrev AZ(e:U Y)(ps:U Pv):D:=.O [Ar e,.O (ps.j BL)]
variable {B:D}{S:U D}{e:U Y}{ps:U Pv}
def
ZGx:Z6 "View" "book" (VD B S)=Z B:=rfl
def
Rs:Z6 "View" "steps" (VD B S)=Z (.U S):=rfl
def
Rt(x:D):Ap (.U (S++[x])) (.r (-1))=Z x:=jH S x
def
Ru:JQ [.u (VD B (S++[AZ e ps]))]=Z (.u (Ar e)):=by
 let l:=Rs (B:=B) (S:=S++[AZ e ps])
 let i:=Rt (S:=S) (AZ e ps)
 let a:Ap (AZ e ps) (.r 0)=Z (Ar e):=rfl
 apply Zp rfl ?_
 generalize Ar e=E,AZ e ps=ST,S++[AZ e ps]=b,VD B (S++[AZ e ps])=V at *
 change TH [.u V]=_
 rwa[TH,l,Ol,i,a]
def
lE(hz:ps.a<=1000):NR [.u (VD B (S++[AZ e ps]))]=Z (.χ (ps.j BL)):=by
 let l:=Rs (B:=B) (S:=S++[AZ e ps])
 let i:=Rt (S:=S) (AZ e ps)
 let a:Ap (AZ e ps) (.r 1)=Z (.O (ps.j BL)):=rfl
 let q:Hr [.O (ps.j BL)]=Z (ps.j BL):=rfl
 apply Zp rfl ?_
 generalize ps.j BL=PS,AZ e ps=ST,S++[AZ e ps]=b,VD B (S++[AZ e ps])=V at *
 change TJ [.u V]=_
 rwa[TJ,l,Ol,i,a,Ez,q,ZK]
end
def
ZGB:My.Ϗ "grain"=O':=by symm
def
ZGA:My.Ϗ "picks"=O':=by symm
def
ZFv:My.Ϗ "cells"=O':=by symm
def
ZCu:Gd.Ϗ "answer"=O':=by symm
def
Xz:Gd.Ϗ "ladders"=O':=by symm
def
Rw(B:D)(S:U D):EW "View" "grain" (.u (VD B S))=J':=by rwa[EW,ZGB]
def
lF(B:D)(S:U D):EW "View" "picks" (.u (VD B S))=J':=by rwa[EW,ZGA]
def
ZGl(B:D)(S:U D):EW "View" "cells" (.u (VD B S))=J':=by rwa[EW,ZFv]
def
Zwx{L:AM}{rs:U Row}(h:Bv L)(t:∀r∈rs,AJ L r.1)(j:rs.a<64)(l:∀g∈gs,g.a=L.a)(C:gs.a<64)(hz:zg L∈gs){e:U Y}(a:CZ L e){ps:U Pv}(i:∀q∈ps,FP L q)(u:ps.a<=1000)(S:U D):
  QN [.u (VD (BD L (rs.j Ze) (Zc (AI L rs gs))) (S++[AZ e ps]))]=Z (.χ (ZU L e (rs.ν λr=>DP L ps r.1))):=by
 let d:∀q∈ps.j Ip,q.2.2.1.a<=100:=λq i=>by
  let(x,_,rfl):=Bc.mp i
  change [x.2.2].a<=100
  simp
 let(f,v,G):=Zyz h (ps.j Ip) d
 let H:Hb L f (zg L) e:=.τ λk R w x F y M c=>by
  let(p,m):=h.v0 R (GO w)
  let n:=(BR.mp w).1
  rw[show(zg L).B k 0=0 by simp[Cm,n],kY,kY]at c
  rw[Mu m.hdn F M c]
 let z:=ZwC h t j l a.1 d v G C a #[_,hz,H] (ZzH h i u)
 rw[List.filter_congr λr o=>Zyo h i v (t r o)]at z
 let N:=Ru (B:=BD L (rs.j Ze) (Zc (AI L rs gs))) (S:=S) (e:=e) (ps:=ps)
 let s:=lE (B:=BD L (rs.j Ze) (Zc (AI L rs gs))) (S:=S) (e:=e) (ps:=ps) u
 let K:=Rw (BD L (rs.j Ze) (Zc (AI L rs gs))) (S++[AZ e ps])
 let Q:=lF (BD L (rs.j Ze) (Zc (AI L rs gs))) (S++[AZ e ps])
 let T:=ZGx (B:=BD L (rs.j Ze) (Zc (AI L rs gs))) (S:=S++[AZ e ps])
 let P:EW "Book" "answer" (.u (BD L (rs.j Ze) (Zc (AI L rs gs))))=J':=by rwa[EW,ZCu]
 let A:=Zv (b:=ZC 3 (Zf (Zb 0) (Zf (Zb 1) (Zf (Zb 2) ZD)))) (e:=h8) (ρ:=[.no,.no,.no]) BL (λq=>Bz (Ip q)) ps λq _=>#[[‹q.1›,‹q.2.1›,.u (aD q.2.2)],rfl,rfl]
 rw[show ps.j (λq=>Bz (Ip q))=(ps.j Ip).j Bz by rw[B4];rfl]at A
 let q1:=Zq (ps.j BL) (by simp;lia)
 apply Zp rfl ?_
 generalize Ar e=E,(ps.j Ip).j Bz=PK,ps.j BL=PS,ZU L e (rs.ν λr=>DP L ps r.1)=Y',BD L (rs.j Ze) (Zc (AI L rs gs))=B,VD (BD L (rs.j Ze) (Zc (AI L rs gs))) (S++[AZ e ps])=V at *
 change Ws [.u V]=_
 rwa[Ws,ZY,T,K,Q,N,s,DY,Zi,show Zr 3 [] [.val V]=[.no,.no,.no]from rfl,q1,A,P,z,Ey,ZK]
def
XA{L:AM}(h:Bv L)(R T:U D):NU [.u (BD L R T)]=Z (.χ (L.j LD)):=by
 let l1:=K2 (L:=L) (R:=R) (T:=T)
 let a:=Zv (b:=Zb 0) (e:=du) (ρ:=[.no]) LD LD L λc _=>#[[.u (LD c)],rfl,rfl]
 let d:=Zq (L.j LD) (by have:=h.n4;simp;lia)
 apply Zp rfl ?_
 generalize L.j LD=W,BD L R T=B at *
 change TQ [.u B]=_
 rwa[TQ,l1,Zi,show ∀f,Zr 1 [] f=[.no]from λ_=>rfl,d,a,ZK]
def
lG{e:U Y}{k:Y}(c:k<e.a)(h:e.a<=1000)(j:Y):P1 [.u (Ar e),‹k›,‹j›]=Z (.u (Ar (e.Ε k j))):=by
 let d:DH (Ar e) J (Z (k:W'))=Z (Ar (e.ύ k)):=by
  change Z (D.O (Internal.cutD _ _ _))=_
  rw[lC,<- List.map_take]
 let g:DH (Ar e) (Z ((k:W')+1)) J=Z (Ar (e.Ν (k+1))):=by
  change Z (D.O (Internal.cutD _ _ _))=_
  rw[lD,<- List.map_drop]
 let a1:Zw (Ar (e.ύ k)) (.O [.r j])=Z (Ar (e.ύ k++[j])):=by
  show(if _ then _ else _)=_
  rw[if_pos (BX (show _<=2000 by simp;lia) (by ext))]
  show congrArg (λl=>Z (D.O l)) (De (f:=λj:Y=>D.r j) (l₁:=e.ύ k) (l₂:=[j])).Ρ
 let a2:Zw (Ar (e.ύ k++[j])) (Ar (e.Ν (k+1)))=Z (Ar (e.Ε k j)):=by
  show(if _ then _ else _)=_
  rw[if_pos (BX (show _<=3000 by simp;lia) (by ext)),<- De,QdD,if_pos c,Dy];rfl
 apply Zp rfl ?_
 generalize Ar (e.ύ k++[j])=i,Ar (e.Ε k j)=m,Ar (e.Ν (k+1))=n,Ar (e.ύ k)=o,Ar e=E at *
 change TF [.u E,‹k›,‹j›]=_
 rwa[TF,Dw,Dn,d,a1,G7,g,a2]
def
ZF7:(("steps":Ae)=="book")=O':=by symm
def
XB{b:Y}{G:Gh}{L:AM}{R T:U D}{t:Y}(a:G[b]?=Z (Cn L R t))(ht:G[t]?=Z (.ϕ .d T))(m:Y)(c:m≠0)(f:Y):tr m G (f+2) (.ϋ b)=Z (BD L R T):=by
 simp_all
variable {L:AM}{R T:U D}{G:Gh}{b t:Y}
def
lH(h:Bv L)(j:G[b]?=Z (Cn L R t))(ht:G[t]?=Z (.ϕ .d T)):Qq [.ϋ G.a,.ϋ b] (G++[.mix (.i [] "View") []])=Z (.u .Y,G++[Fu b (G.a+1),.ϕ .l [AZ (L.j wh) []]]):=by
 let v:=(BR.mp j).1
 let k:∀c:Cl,(G++[c])[G.a]?=Z c:=λc=>by simp
 let m:∀c d:Cl,(G++[c]).Ε G.a d=G++[d]:=λc d=>by simp
 let f:∀c d:Cl,(G++[c,d])[G.a]?=Z c:=λc d=>by simp
 let g:∀c e d:Cl,(G++[c,e]).Ε G.a d=G++[d,e]:=λc e d=>by simp
 let gl:∀c:Cl,(G++[c]).a=G.a+1:=λc=>by simp
 let n:∀c d:Cl,G++[c]++[d]=G++[c,d]:=λc d=>by simp
 let o:D5 1 (G++[.mix (.i ["book"] "View") [.ϋ b]]) (.ϋ b)=.u (BD L R T):=Mr 1 (by ext) (Il j) (Il ht)
 let p:=XA h R T
 let q:=lu h
 let r:EW "Book" "ladders" (.u (BD L R T))=J':=by rwa[EW,Xz]
 let a:BM 1 (AZ (L.j wh) [])=J':=by
  show(BM 1 (Ar (L.j wh))&&(J'&&J'))=J'
  rw[<- Jb,Ik];rfl
 let a:CT 1 [AZ (L.j wh) []]=J':=by
  show(BM 1 (AZ (L.j wh) [])&&J')=J'
  rw[a];rfl
 let lt:b<G.a+1:=∅
 let a:CT 1 [.O [Ar (L.j wh),.O []]]=J':=a
 unfold AZ
 generalize Ar (L.j wh)=E,L.j LD=W,BD L R T=B,D5 1 (G++[.mix (.i ["book"] "View") [.ϋ b]]) (.ϋ G.a)=w at *
 suffices e:Qp ([.ϋ G.a,.ϋ b],G++[.mix (.i [] "View") []])=.β ([.ϋ G.a,.ϋ b],G++[Fu b (G.a+1),.ϕ .l [.O [E,.O []]]])from by
  show(match Qp ([.ϋ G.a,.ϋ b],G++[.mix (.i [] "View") []])with | .ret x u=>Z (x,u) | .next s=>Z (.u .Y,s.2)|_=>J)=_
  rw[e];rfl
 rwa[Qp,xP,if_pos lt,F5,k,m,and_self,true_and,putN,DW,show(0:Y)<1000 by ext,o,ZY,r,p,DY,q,show Zg (Z ([]:U D))=Z []from rfl,jG,jL,a,gl,n,f,g,Nat.zero_add,show(1:Y)<1000 by ext,if_neg (show ¬ ("book":Ae)="steps" by symm)]
end
def
ZCE:My.Ϗ "drill"=O':=by symm
def
ZD0:My.Ϗ "roll"=O':=by symm
def
lI{G:Gh}{b v st:Y}(h:G[v]?=Z (Fu b st))(xs:U IV):H9 "View" "steps" (xs,G) (Z v)=Z st:=by
 simp[h,List.lookup,ZF7]
def
lJ{G:Gh}{b v st:Y}(h:G[v]?=Z (Fu b st))(xs:U IV):H9 "View" "book" (xs,G) (Z v)=Z b:=by
 simp[h,List.lookup]
variable {L:AM}{R T:U D}{G:Gh}{b t v st:Y}{S:U D}{e:U Y}{ps:U Pv}
variable(h:Bv L)(h0:G[b]?=Z (Cn L R t))(ht:G[t]?=Z (.ϕ .d T))(hv:G[v]?=Z (Fu b st))(hs:G[st]?=Z (.ϕ .l (S++[AZ e ps])))
def
lK(ps:U Pv):CT 2 (ps.j BL)=J':=G5 λd hd=>by
 let(q,_,rfl):=Bc.mp hd
 show(BM 2 (.r q.1)&&(BM 2 (.r q.2.1)&&(BM 2 (aD q.2.2)&&J')))=J'
 cases q.2.2<;>rfl
def
lL(e:U Y)(ps:U Pv):BM 2 (AZ e ps)=J':=by
 show(BM 2 (Ar e)&&(CT 2 (ps.j BL)&&J'))=J'
 rw[<- Jb,Ik,lK];rfl
include h0 ht hv hs
def
Mz:D5 2 G (.ϋ v)=.u (VD (BD L R T) (S++[AZ e ps])):=by
 let a:tr 2 G 2 (.ϋ b)=Z (BD L R T):=XB h0 ht 2 (by ext) 0
 let c:tr 2 G 2 (.ϋ st)=Z (.U (S++[AZ e ps])):=by simp[hs]
 have:tr 2 G 3 (.ϋ v)=Z (VD (BD L R T) (S++[AZ e ps])):=by
  rw[tr,hv]
  show(if vk 2 kV=J' then(L4 [tr 2 G 2 (.ϋ b),tr 2 G 2 (.ϋ st)]).j λl=>D.U l kV else J)=_
  rw[a,c];rfl
 show(match tr 2 G 3 (.ϋ v)with|some d=>Sl.u d|none=>_)=_
 rw[this]
omit h0 ht hs in
def
XC:D5 0 G (.ϋ v)=.no:=by simp[hv]
include h
def
ZB1{k:Y}{a:BB}(c:L[k]?=Z a)(he:e.a=L.a)(o:e.B k 0<wh a)(hz:(S++[AZ e ps]).a<1000):U0 [.ϋ v,‹k›] G=Z (.u .Y,G.Ε st (.ϕ .l (S++[AZ e ps]++[AZ (e.Ε k (e.B k 0+1)) ps]))):=by
 let(p,q):=h.v0 a (GO c)
 let r:=(BR.mp c).1
 let n4:=h.n4
 let s:=Mz h0 ht hv hs
 let s0:=XC hv
 let b3:tr 1 G 3 (.ϋ b)=Z (BD L R T):=XB h0 ht 1 (by ext) 1
 let u:=(BR.mp h0).1
 let w:EE "Book" "ladders" (Cn L R t)=J':=by rwa[EE,Xz]
 let x:=XA h R T
 let y:BM 1 (.U (L.j LD))=J':=by
  show(!vk 1 .l&&CT 1 (L.j LD))=J'
  rw[Ms];rfl
 let z:=kw (L.j LD) k (d:=LD a) (by rw[DF,c];rfl)
 let C:=Rw (BD L R T) (S++[AZ e ps])
 let H:=Ru (B:=BD L R T) (S:=S) (e:=e) (ps:=ps)
 let X:=Mw (g:=e) (k:=k) ∅
 let M:=W7 q
 let f:Ce (.r (e.B k 0:Y)) (.r (wh a:Y))=Z (.bl O'):=by
  change Z (D.bl (decide (((e.B k 0:Y):W')=((wh a:Y):W'))))=_
  rw[decide_eq_false ∅]
 let n:=lG (e:=e) (k:=k) ∅ ∅ (e.B k 0+1)
 rw[show(((e.B k 0+1:Y):W'))=((e.B k 0:Y):W')+1 by lia]at n
 let i:=Rs (B:=BD L R T) (S:=S++[AZ e ps])
 let N:=Rt (S:=S) (AZ e ps)
 let K:Ap (AZ e ps) (.r 1)=Z (.O (ps.j BL)):=rfl
 let j:=lL (e.Ε k (e.B k 0+1)) ps
 let m:(S++[AZ e ps]).a<Az:=Gj hz (by ext)
 let Q:=lI hv
 let P:=lJ hv
 let j:BM 2 (.O [Ar (e.Ε k (e.B k 0+1)),.O (ps.j BL)])=J':=j
 rw[show S++[AZ e ps]++[AZ (e.Ε k (e.B k 0+1)) ps]=S++[AZ e ps]++[.O [Ar (e.Ε k (e.B k 0+1)),.O (ps.j BL)]]from rfl]
 generalize L.j LD=W,LD a=A,((e.B k 0:Y):W')=F,Ar (e.Ε k (e.B k 0+1))=Y',Ar e=E,ps.j BL=PS,AZ e ps=ST,S++[AZ e ps]=SS,BD L R T=B,VD (BD L R T) (S++[AZ e ps])=V at *
 suffices e2:UZ ([.ϋ v,‹k›,.no,.no],G)=.β ([.ϋ v,‹k›,.u A,‹F›],G.Ε st (.ϕ .l (SS++[.O [Y',.O PS]])))from G9 (fi rfl e2) rfl
 rwa[UZ,ft,e6,s0,jC,jM,Cw,P,b3,h0,w,u,x,DY,y,and_self,NP,z,Ic,fq,e7,s,ZY,C,H,X,Mm,fj,e8,M,f,fh,e9,Q,G7,n,i,Ol,N,K,j,JM,hs,if_pos m,fg]
def
Zzm{k:Y}{a:BB}(f:L[k]?=Z a)(he:e.a=L.a)(u:0<e.B k 0){l:U At}(o:l∈a)(hz:(S++[AZ e ps]).a<1000)(w:ps.a<1000):VN [.ϋ v,‹k›,.u (aD (l.B (e.B k 0) .Y))] G=Z (.u .Y,G.Ε st (.ϕ .l (S++[AZ e ps]++[AZ (e.Ε k (e.B k 0-1)) (ps++[(k,e.B k 0,l.B (e.B k 0) .Y)])]))):=by
 let(p,q):=h.v0 a (GO f)
 let x:=(BR.mp f).1
 let n4:=h.n4
 let y:=Mz h0 ht hv hs
 let s0:=XC hv
 let b3:tr 1 G 3 (.ϋ b)=Z (BD L R T):=XB h0 ht 1 (by ext) 1
 let z:=(BR.mp h0).1
 let C:EE "Book" "ladders" (Cn L R t)=J':=by rwa[EE,Xz]
 let H:=XA h R T
 let X:BM 1 (.U (L.j LD))=J':=by
  show(!vk 1 .l&&CT 1 (L.j LD))=J'
  rw[Ms];rfl
 let M:=kw (L.j LD) k (d:=LD a) (by rw[DF,f];rfl)
 let N:=Rw (BD L R T) (S++[AZ e ps])
 let K:=Ru (B:=BD L R T) (S:=S) (e:=e) (ps:=ps)
 let Q:=Mw (g:=e) (k:=k) ∅
 let va:=kg q (e.B k 0) _ (lx q o (e.B k 0))
 rw[decide_eq_true #[l,o,rfl]]at va
 let i:Ce (.r (e.B k 0:Y)) (.r 0)=Z (.bl O'):=by
  change Z (D.bl (decide (((e.B k 0:Y):W')=0)))=_
  rw[decide_eq_false ∅]
 let r:=lG (e:=e) (k:=k) ∅ ∅ (e.B k 0-1)
 rw[show(((e.B k 0-1:Y):W'))=((e.B k 0:Y):W')-1 by lia]at r
 let j:=Rs (B:=BD L R T) (S:=S++[AZ e ps])
 let P:=Rt (S:=S) (AZ e ps)
 let Y':Ap (AZ e ps) (.r 1)=Z (.O (ps.j BL)):=rfl
 let m:=lL (e.Ε k (e.B k 0-1)) (ps++[(k,e.B k 0,l.B (e.B k 0) .Y)])
 let f3:=lK (ps++[(k,e.B k 0,l.B (e.B k 0) .Y)])
 let n:(S++[AZ e ps]).a<Az:=Gj hz (by ext)
 let ad:Zw (.O (ps.j BL)) (.O [.O [.r k,.r (e.B k 0:Y),aD (l.B (e.B k 0) .Y)]])=Z (.O ((ps++[(k,e.B k 0,l.B (e.B k 0) .Y)]).j BL)):=by
  show(if _ then _ else _)=_
  rw[if_pos (BX (show _<=2000 by simp;lia) (by ext)),De];rfl
 let fs:=lI hv
 let fb:=lJ hv
 rw[show S++[AZ e ps]++[AZ (e.Ε k (e.B k 0-1)) (ps++[(k,e.B k 0,l.B (e.B k 0) .Y)])]=S++[AZ e ps]++[.O [Ar (e.Ε k (e.B k 0-1)),.O ((ps++[(k,e.B k 0,l.B (e.B k 0) .Y)]).j BL)]]from rfl]
 let m:BM 2 (.O [Ar (e.Ε k (e.B k 0-1)),.O ((ps++[(k,e.B k 0,l.B (e.B k 0) .Y)]).j BL)])=J':=m
 let f4:BM 2 (.O ((ps++[(k,e.B k 0,l.B (e.B k 0) .Y)]).j BL))=J':=f3
 generalize (ps++[(k,e.B k 0,l.B (e.B k 0) .Y)]).j BL=c,aD (l.B (e.B k 0) .Y)=s,L.j LD=W,LD a=A,((e.B k 0:Y):W')=F,Ar (e.Ε k (e.B k 0-1))=E2,Ar e=E,ps.j BL=PS,AZ e ps=ST,S++[AZ e ps]=SS,BD L R T=B,VD (BD L R T) (S++[AZ e ps])=V at *
 suffices e2:VM ([.ϋ v,‹k›,.u s,.no,.no,.no],G)=.β ([.ϋ v,‹k›,.u s,.u A,‹F›,.u (.O c)],G.Ε st (.ϕ .l (SS++[.O [E2,.O c]])))from G9 (fi rfl e2) rfl
 rwa[VM,gc,fT,s0,jC,jM,Cw,fb,b3,h0,C,z,H,DY,X,and_self,NP,M,Ic,f9,fU,y,ZY,N,K,Q,Mm,f8,fV,i,f7,fW,va,Et,f6,fX,j,Ol,P,Y',ad,f4,f5,fY,fs,WE,r,m,JM,hs,if_pos n,fZ]
end
def
lM(ws:U W')(f:ws.a=24):∀(c:AM)(k:Y),k+c.a<=24->(∀b∈c,∃p,GL b p)->∃s,AJ c s/\ZL (ZC 2 (Zf (Zb 0) (Zf (Zb 1) ZD))) (λ_=>Z J') Qj [.no,.no,#v[ws.j D.r]] (ZR k (c.j LD))=Z (s.j aD)
 |[],_,_,_=>#[[],.Ϝ,rfl]
 |b::c,k,i,h=>by
  erw[Cb]at i
  let(s,j,l):=lM ws f c (k+1) ∅ λx m=>h x (A5 _ m)
  let(p,d):=h b A6
  let n:=E6 f k ∅
  generalize ws.B k 0=x at *
  let o:ZA [LD b]=Z (.r b.a):=by simp
  let g:=CD x (b.a:W') (Int.natCast_pos.ϡ d.n1)
  let(a,q,e):=FM x b.a d.n1
  rw[q]at g
  let r:Ap (LD b) (.r a)=Z (Ah b[a]):=Ev (by rw[DF,Cc e];rfl)
  apply#[hd b[a]::s,.Η (Ij (Hq e)) j,?_]
  let t:Qj [‹k›,.u (LD b),#v[ws.j D.r]]=Z (aD (hd b[a])):=by
   generalize LD b=B,ws.j D.r=W,(k:W')=u at *
   rwa[Qj,n,o,g,r,J2 (d.ln _ (Hq e))]
  rw[AT,ZR,ZL,show ZC 2 (Zf (Zb 0) (Zf (Zb 1) ZD)) (.O [.r k,LD b]) [.no,.no,#v[ws.j D.r]]=Z [‹k›,.u (LD b),#v[ws.j D.r]]from rfl]
  rwa[t,l]
def
Kq:∀(xs:U D)(k:Y),(ZR k xs).a=xs.a
 |[],_=>rfl
 |_::xs,k=>by rw[ZR,Cb,Kq xs,Cb]
def
ZxD(a c:W'):Ek a (1-2*(c%2)):=by
 have:c%2=0\/c%2=1:=∅
 right
 rcases this with h|h<;>rw[h]<;>decide
def
ZEH(cell:W')(a:Y){L:AM}(h:Bv L):∃r:Row,AJ L r.1/\Uz [‹cell›,‹a›,#v[L.j LD]]=Z (.u (Ze r)):=by
 let(b,h2,i,_):=QX cell (a:W')
 let n4:=h.n4
 let(s,A,l):=lM b i L 0 ∅ h.v0
 let m:Zg (Z (ZR 0 (L.j LD)))=Z (ZR 0 (L.j LD)):=Zq _ (by rw[Kq];simp;lia)
 let n:Ap (.U (b.j D.r)) (.r 5)=Z (.r (b.B 5 0)):=E6 i 5 (by ext)
 let o:Ap (.U (b.j D.r)) (.r 6)=Z (.r (b.B 6 0)):=E6 i 6 (by ext)
 let B:Ap (.U (b.j D.r)) (.r 7)=Z (.r (b.B 7 0)):=E6 i 7 (by ext)
 generalize b.B 5 0=c,b.B 6 0=e,b.B 7 0=f at *
 let p:=CD c 2 (by ext)
 let q:=CD e 2 (by ext)
 let C:=CD f 7 (by ext)
 let t:=Ih (ZxD (cell%10^30) c)
 let u:Pg (.r 10) (.r 30)=Z (.r (10^30)):=by simp[MH]
 let w:=CD cell (10^30) (by ext)
 let k1:=Ih (x:=2) (y:=c%2) (.S (by ext))
 let k2:HN (.r 1) (.r (2*(c%2)))=Z (.r (1-2*(c%2))):=rfl
 let E:HN (.r (f%7)) (.r 3)=Z (.r (f%7-3)):=rfl
 let j:Ce (.r (e%2)) (.r 1)=Z (.bl (decide (e%2=1))):=rfl
 apply#[(s,if e%2=1 then f%7-3 else cell%10^30*(1-2*(c%2))),A,Zp rfl ?_]
 let z:∀d,Zg (Z [Ah s,d])=Z [Ah s,d]:=λd=>Oj _ _
 let ht:Ec [.U (s.j aD)]=Z (Ah s):=rfl
 change Qk [‹cell›,‹a›,#v[L.j LD],.no,.no,.no]=.Ϻ (.u (.O [Ah s,.r (if e%2=1 then f%7-3 else cell%10^30*(1-2*(c%2)))]))
 generalize (10:W')^30=T,Ah s=S,s.j aD=M,b.j D.r=W,L.j LD=R,(a:W')=G at *
 generalize cell%T=H at *
 generalize c%2=N,f%7-3=K,f%7=Q,2*(c%2)=P,1-2*(c%2)=X,H*(1-2*(c%2))=Y' at *
 let g:∀x y,Zr 2 [3] [‹cell›,‹G›,#v[R],#v[W],x,y]=[.no,.no,#v[W]]:=λ_ _=>rfl
 by_cases k:e%2=1
 .rw[decide_eq_true k]at j
  rw[if_pos k]
  generalize e%2=F at *
  erw[Qk,Uy,Up,Ux,Uq,Uw,Ur,Uv,Us,Uu,Ut,Zd,ZG,ZF,AU,Zu,Zh,Zm,ht,Gm,pk,Za,Zz,Fl,Zo,Zy,Zi,EX,ZX,Zn,g,Bp,Cp,Bh,A2,Ht,Hz,Ef,Eg,DG,D0,h2,Ic,m,l,u,w,n,p,k1,k2,t,o,q,j,B,C,E,z]
 .rw[decide_eq_false k]at j
  rw[if_neg k]
  generalize e%2=F at *
  erw[Qk,Uy,Up,Ux,Uq,Uw,Ur,Uv,Us,Uu,Ut,Zd,ZG,ZF,AU,Zu,Zh,Zm,ht,Gm,pk,Za,Zz,Fl,Zo,Zy,Zi,EX,ZX,Zn,g,Bp,Cp,Bh,A2,Ht,Hz,Ef,Eg,DG,D0,h2,Ic,m,l,u,w,n,p,k1,k2,t,o,q,j,z]
def
lN{L:AM}(h:Bv L):∀(cs:U W')(k:Y),∃a:U Row,a.a=cs.a/\(∀r∈a,AJ L r.1)/\ZL (ZC 2 (Zf (Zb 0) (Zf (Zb 1) ZD))) (λ_=>Z J') Qx [.no,.no,#v[L.j LD]] (ZR k (cs.j D.r))=Z (a.j Ze)
 |[],_=>#[[],rfl,(λ_ h=>nomatch h),rfl]
 |c::cs,k=>by
  let(a,h1,h2,d):=lN h cs (k+1)
  let(r,f,g):=ZEH c k h
  apply#[r::a,by simp[h1],λq b=>?_,?_]
  .rcases Bl.mp b with rfl|b
   .show f
   .show h2 q b
  .let e:Qx [‹k›,‹c›,#v[L.j LD]]=Z (Ze r):=by
    generalize L.j LD=j,Ze r=i at *
    rwa[Qx,g]
   rw[AT,ZR,ZL,show ZC 2 (Zf (Zb 0) (Zf (Zb 1) ZD)) (.O [.r k,.r c]) [.no,.no,#v[L.j LD]]=Z [‹k›,‹c›,#v[L.j LD]]from rfl]
   rwa[e,d]
def
ZBx(ns:U W'){L:AM}(h:Bv L):∃a:U Row,a.a<64/\(∀r∈a,AJ L r.1)/\UW [#v[ns.j D.r],‹15›,#v[L.j LD]]=Z (.χ (a.j Ze)):=by
 let s:=Om #v[ns.j D.r] ns (.S rfl) 5 (by ext)
 generalize ns.B (5:W').Β 0=c at *
 let(n,t,G):=FM c 6 (by ext)
 let g:DH (.U (ns.j D.r)) (Z 15) (Z 45)=Z (.U (((ns.Ν 15).ύ 30).j D.r)):=by
  change Z (D.U (Internal.cutD _ _ _))=_
  rw[Tu,cR _ _ _ (by ext) (by ext)];rfl
 let u:((ns.Ν 15).ύ 30).a<=30:=by simp;lia
 generalize (ns.Ν 15).ύ 30=f at *
 let p:=JN (3+n) ∅
 let m:=Zv (b:=Zb 0) (e:=UU) (ρ:=[.no,‹c›]) (λ(k:Y)=>D.r k) (λ(k:Y)=>D.r (c/6+7*(k:W'))) (Bf (3+n)) λk P=>#[[‹k›,‹c›],rfl,by
  let m1:=Ih (x:=7) (y:=(k:W')) (.S (by ext))
  let w:=Hx c 6 (by ext) (by ext)
  generalize c/6=F,7*(k:W')=M,(k:W')=H at *
  erw[UU,Za,Bh,Ht,Hz,DG,m1,w,G7]]
 let z:=Zq ((Bf (3+n)).j λ(k:Y)=>D.r k) (by simp;lia)
 let d:=KO (f.j D.r) ((Bf (3+n)).j λ(k:Y)=>D.r (c/6+7*(k:W'))) (by simp;lia)
 let o:f.j D.r++(Bf (3+n)).j (λ(k:Y)=>D.r (c/6+7*(k:W')))=(f++(Bf (3+n)).j λ(k:Y)=>c/6+7*(k:W')).j D.r:=by
  rw[De,B4];rfl
 rw[o]at d
 let q:(f++(Bf (3+n)).j λ(k:Y)=>c/6+7*(k:W')).a<=62:=by simp;lia
 generalize (f++(Bf (3+n)).j λ(k:Y)=>c/6+7*(k:W'))=l at *
 let(a,h1,h2,B):=lN h l 0
 apply#[a,∅,h2,Zp rfl ?_]
 let E:Zg (Z (ZR 0 (l.j D.r)))=Z (ZR 0 (l.j D.r)):=Zq _ (by rw[Kq];simp;lia)
 let m1:=CD c 6 (by ext)
 rw[show c%6=(n:W')from t]at m1
 rw[show(((3+n:Y)):W')=3+(n:W') by lia]at p
 generalize a.j Ze=R,l.j D.r=C,((Bf (3+n)).j λ(k:Y)=>D.r k)=Q,((Bf (3+n)).j λ(k:Y)=>D.r (c/6+7*(k:W')))=T,f.j D.r=A,ns.j D.r=N,L.j LD=K,(n:W')=nn at *
 change UV [#v[N],‹15›,#v[K],.no,.no]=_
 let i:Zr 1 [3] [#v[N],‹15›,#v[K],‹c›,.no]=[.no,‹c›]:=rfl
 let j:Zr 2 [2] [#v[N],‹15›,#v[K],‹c›,#v[C]]=[.no,.no,#v[K]]:=rfl
 rwa[UV,s,Dw,Dn,show Zw (.int 15) (.int 30)=Z (.int 45)from rfl,g,m1,G7,p,Zi,i,z,m,d,EX,ZX,E,j,B,ZK]
def dv(k:Y):W':=[1,5,25,125].B k 1
def
ZFH(k:Y)(h:k<4):Ap (.U [D.r 1,.r 5,.r 25,.r 125]) (.r k)=Z (.r (dv k))/\0<dv k/\dv k<1000000000:=by
 match k,h with
 |0,_=>show#[rfl,by ext,by ext]
 |1,_=>show#[rfl,by ext,by ext]
 |2,_=>show#[rfl,by ext,by ext]
 |3,_=>show#[rfl,by ext,by ext]
def
XD{a:BB}{p:Y}(h:GL a p):∃l,Ap (LD a) (.r 0)=Z (Ah l)/\ZA [Ah l]=Z (.r p):=by
 let h1:=h.n1
 cases a with
 |nil=>simp at h1
 |cons l a=>
  apply#[l,jF _ _,?_]
  have:=h.Ϫ l A6
  change Z (D.r ((l.j aD).a:W'))=_
  rw[Bu,this]
def
Zus(c:W')(e:Sl)(k:Y)(m:k<4){a:BB}{p:Y}(f:GL a p)(g:U Y)(n:g.a<100):∃j:Y,j<=wh a/\Qa [‹c›,e,.χ (g.j λ(j:Y)=>D.r j),‹k›,.u (LD a)]=.β [‹c›,e,.χ ((g++[j]).j λ(j:Y)=>D.r j),‹k›,.u (LD a)]:=by
 let(l,o,r):=XD f
 let(s,t,u):=ZFH k m
 generalize dv k=b at *
 let(j,h,w):=FM (c/b) (p+1) ∅
 apply#[j,by rw[f.wh];lia,?_]
 let v:=Hx c b t u
 let i:=CD (c/b) ((p:W')+1) ∅
 rw[show c/b%((p:W')+1)=(j:W') by rw[show((p+1:Y):W')=(p:W')+1 by lia]at h;show h]at i
 let d:(g.j λ(j:Y)=>D.r j).a<Az:=by rw[Bu];show BQ n (by ext)
 let q:Zg (Z [D.r 1,.r 5,.r 25,.r 125])=Z [D.r 1,.r 5,.r 25,.r 125]:=Zq _ (by simp)
 rw[De,List.map_singleton]
 generalize (g.j λ(j:Y)=>D.r j)=G,LD a=A,(k:W')=x,(p:W')=y,(j:W')=z,c/b=B at *
 rwa[Qa,q,s,v,o,r,G7,i,D3,Db,if_pos d]
def
lO(c:W')(d:Sl):∀(L:AM)(k:Y)(g:U Y)(f i:Sl),(∀e∈L,∃p,GL e p)->k+L.a<=4->g.a+L.a<100->∃(g':U Y)(n o:Sl),CZ L g'/\ZE (ZC 2 (Zf (Zb 3) (Zf (Zb 4) ZD))) Qa (ZR k (L.j LD)) [‹c›,d,.χ (g.j λ(j:Y)=>D.r j),f,i]=.β [‹c›,d,.χ ((g++g').j λ(j:Y)=>D.r j),n,o]
 |[],k,g,f,i,_,_,_=>#[[],f,i,#[rfl,λ_ h=>nomatch h],by rw[Du];rfl]
 |e::L,k,g,f,i,h,s,t=>by
  erw[Cb]at s t
  let(p,u):=h e A6
  let(j,v,w):=Zus c d k ∅ u g ∅
  let(g',a,b,r,x):=lO c d L (k+1) (g++[j]) ‹k› (.u (LD e)) (λm y=>h m (A5 _ y)) ∅ (by simp;lia)
  apply#[j::g',a,b,#[by simp[r.1],λq l=>?_],?_]
  .rw[HL]at l
   rcases Bl.mp l with rfl|l
   .show v
   .show r.2 q l
  .rw[AT,ZR,ZE,show ZC 2 (Zf (Zb 3) (Zf (Zb 4) ZD)) (.O [.r k,LD e]) [‹c›,d,.χ (g.j λ(j:Y)=>D.r j),f,i]=Z [‹c›,d,.χ (g.j λ(j:Y)=>D.r j),‹k›,.u (LD e)]from rfl]
   erw[w]
   rw[x,Dy,List.singleton_append]
def
Zxz(c:W'){L:AM}(h:Bv L):∃g,CZ L g/\T4 [‹c›,#v[L.j LD]]=Z (.u (Ar g)):=by
 let n4:=h.n4
 let(g,a,b,d,e):=lO c #v[L.j LD] L 0 [] .no .no h.v0 ∅ (by simp;lia)
 apply#[g,d,Zp rfl ?_]
 rw[EZ,Dv]at e
 let ht:Ec [.U (g.j λ(j:Y)=>D.r j)]=Z (Ar g):=rfl
 generalize Ar g=E,(g.j λ(j:Y)=>D.r j)=G,L.j LD=W at *
 change T2 [‹c›,#v[W],.no,.no,.no]=_
 rwa[T2,show Zg (Z ([]:U D))=Z []from rfl,Z4,ZN,EX,ZX,e,ht]
def
lP(x:W')(xs:U W'):cel x xs=Ah [.r ((xs.a+1:Y):W'),.r ((x::xs).sum),.r (xs.Λ mn x),.r (xs.Λ mx x)]:=rfl
def
lQ:∀k:U At,ZL (Zb 0) (λ_=>Z J') Qb [.no] (k.j aD)=Z ((k.j λ_=>O').j D.bl)
 |[]=>rfl
 |a::k=>by
  let b:=lQ k
  let e:Qb [.u (aD a)]=Z (.bl O'):=by ext a<;>simp[Qb,aD]
  rw[AT,ZL,show Zb 0 (aD a) [.no]=Z [.u (aD a)]from rfl]
  rwa[e,b]
def
ZE5(k:U At):Ko [.U ((k.j λ_=>O').j D.bl)]=Z (.bl O'):=by
 erw[Ko,Ow,D0]
 congr 2
 induction k with
 |nil=>rfl
 |cons a k b=>exists b
def
ZCf(s0:Sl)(e:A7)(f:e.1.a<=996):NY [s0,.u (GB e)]=.β [s0,.u (GB e)]:=by
 let(k,x,b):=e
 change NY [s0,.u (.O [Ah k,cel x b])]=.β [s0,.u (.O [Ah k,cel x b])]
 rw[lP]
 let g:([.r ((b.a+1:Y):W'),.r ((x::b).sum),.r (b.Λ mn x),.r (b.Λ mx x)]:U At).a=4:=rfl
 generalize ([.r ((b.a+1:Y):W'),.r ((x::b).sum),.r (b.Λ mn x),.r (b.Λ mx x)]:U At)=a at *
 simp only at f
 let a1:B5 [.O [Ah k,Ah a],.ty "tuple"]=Z (.bl J'):=rfl
 let a2:ZA [.O [Ah k,Ah a]]=Z (.r 2):=rfl
 let a3:CL (.r 2) (.r 2)=Z (.bl O'):=rfl
 let a4:Ap (.O [Ah k,Ah a]) (.r 0)=Z (Ah k):=rfl
 let h:Ap (.O [Ah k,Ah a]) (.r 1)=Z (Ah a):=rfl
 let d:∀l,B5 [Ah l,.ty "tuple"]=Z (.bl J'):=λ_=>rfl
 let i:Zw (Ah k) (Ah a)=Z (.O ((k++a).j aD)):=Xa k a ∅
 let j:=lQ (k++a)
 let c:=ZE5 (k++a)
 let q:=Zq ((k++a).j aD) (by simp;lia)
 let m:=d k
 let n:=d a
 generalize ((k++a).j λ_=>O').j D.bl=B,(k++a).j aD=A,Ah k=KK,Ah a=o at *
 rwa[NY,a1,a2,a3,a4,h,m,n,Et,i,Zi,show ∀x,Zr 1 [] [s0,x]=[.no]from λ_=>rfl,q,j,c]
def
lR(s0:Sl):∀(c:U A7)(b:Sl),(∀t∈c,t.1.a<=996)->∃a,ZE (Zb 1) NY (c.j GB) [s0,b]=.β [s0,a]
 |[],b,_=>#[b,rfl]
 |t::c,b,h=>by
  let(a,e):=lR s0 c (.u (GB t)) λu d=>h u (A5 _ d)
  apply#[a,?_]
  let f:=ZCf s0 t (h t A6)
  rw[AT,ZE,show Zb 1 (GB t) [s0,b]=Z [s0,.u (GB t)]from rfl]
  erw[f]
  show e
def
ZsN{acc:U A7}{n m:Y}(h:BC acc n m)(b:n<=996):T6 [.jk (CY acc)]=Z (.u (.bl J')):=by
 let(c,e):=lR (.jk (CY acc)) (HC acc) .no λt ht=>by
  let(k,a,rfl):=Bc.mp ht
  have:=h.kl k ((ZB Bo _).Υ.mp a)
  change k.a<=996
  lia
 rw[<- Xx]at e
 generalize CY acc=T at *
 let a1:B5 [.U T,.ty "list"]=Z (.bl J'):=rfl
 apply Zp rfl ?_
 change T5 [.jk T,.no]=_
 rwa[T5,a1,Et,ZN,e]
def
ZBg(acc:U A7):AY 12 (.U (CY acc))=J':=by
 rw[Xx]
 show((HC acc).j GB).ϔ (AY 11)=J'
 rw[GX,Dc]
 intro t _
 change [Ah t.1,cel t.2.1 t.2.2].ϔ (AY 10)=J'
 rw[lP]
 erw[Jz,List.all_nil,QV 9,F7]
abbrev DQ(e:U Y):D:=.U (e.j λj:Y=>D.r j)
abbrev sD(e:U Y)(ps:U Pv):D:=.O [DQ e,.U (ps.j BL)]
def
ZC7(n:Y)(ps:U Pv):(ps.j BL).ϔ (AY (n+2))=J':=by
 rw[GX,Dc]
 intro q _
 change [D.r q.1,.r q.2.1,aD q.2.2].ϔ (AY (n+1))=J'
 erw[Jz,List.all_nil,Ig,F7,AY]
def
ZDJ(n:Y)(e:U Y):AY (n+1) (DQ e)=J':=by
 show(e.j λj:Y=>D.r j).ϔ (AY n)=J'
 rw[GX,Dc]
 intro q _
 ext n<;>rfl
def
lS{d:D}(h:AY 12 d=J'):Ce d d=Z (.bl J'):=by
 have:=Sk 12 _ h
 erw[Ce,FL,h,this,F7,if_true]
def
ZEv(e:U Y):ZL (Zb 0) (λ_=>Z J') h9 [.no] (e.j λj:Y=>D.r j)=Z ((e.j λ_=>J').j D.bl):=by
 rw[B4]
 show Zv (λj:Y=>D.r j) (λ_=>D.bl J') e λj _=>#[[‹j›],rfl,rfl]
def
tups(ps:U Pv):ZL (Zb 0) (λ_=>Z J') ig [.no] (ps.j BL)=Z ((ps.j λ_=>J').j D.bl):=by
 rw[B4]
 show Zv BL (λ_=>D.bl J') ps λj _=>#[[.u (BL j)],rfl,rfl]
def
lT{L:AM}{rs a:U Row}(h:Bv L)(F:∀r∈rs,AJ L r.1)(c:rs.ϲ a)(f:rs.a<64)(p:∀g∈gs,g.a=L.a)(Q:gs.a<64)(hz:zg L∈gs){e:U Y}(d:CZ L e){ps:U Pv}(M:∀q∈ps,FP L q)(T:ps.a<1000)(S:U D):
  Oi [.u (VD (BD L (rs.j Ze) (Zc (AI L rs gs))) (S++[AZ e ps])),#v[L.j LD],#v[a.j Ze],.u (sD e ps)]=Z (.u (.bl J')):=by
 let n4:=h.n4
 let s:=d.1
 let i:∀r∈a,AJ L r.1:=λr t=>F r (c.Υ.ϡ t)
 let b:a.a<64:=by rw[<- c.Ψ];show f
 let P:=Ru (B:=BD L (rs.j Ze) (Zc (AI L rs gs))) (S:=S) (e:=e) (ps:=ps)
 let u:=lE (B:=BD L (rs.j Ze) (Zc (AI L rs gs))) (S:=S) (e:=e) (ps:=ps) ∅
 let k:=Zwx h F f p Q hz d M ∅ S
 let l:ZU L e (rs.ν λr=>DP L ps r.1)=ZU L e (a.ν λr=>DP L ps r.1):=ZzZ ((c.ν _).j _)
 rw[l]at k
 let g1:=Rw (BD L (rs.j Ze) (Zc (AI L rs gs))) (S++[AZ e ps])
 let g2:=lF (BD L (rs.j Ze) (Zc (AI L rs gs))) (S++[AZ e ps])
 let g3:=ZGl (BD L (rs.j Ze) (Zc (AI L rs gs))) (S++[AZ e ps])
 let w:=ZrR h M a i b
 let m:∀r∈a.ν λr=>DP L ps r.1,AJ L r.1:=λr t=>i r (Iu.mp t).1
 let y:(a.ν λr=>DP L ps r.1).a<64:=GY (Mq _ _) b
 let n:=Zsg h d _ m y
 let z:=ZsN (Oz s m) ∅
 let N:=ZBg (C8 L e (a.ν λr=>DP L ps r.1))
 let o1:=ZDJ 11 e
 let K:AY 12 (.U (ps.j BL))=J':=ZC7 9 ps
 let w1:=ZEv e
 let w2:=tups ps
 let w3:=KZ e
 let w4:=KZ ps
 let q1:=Zq (e.j λj:Y=>D.r j) (by simp;lia)
 let q2:=Zq (ps.j BL) (by simp;lia)
 let n1:=Xr o1
 let n2:=Xr K
 let n3:=Xr N
 let e2:=lS K
 let e3:=lS N
 let A:(ps.j BL).a<Az:=by rw[Bu];show Gj T (by ext)
 let C:B5 [Ar e,.ty "tuple"]=Z (.bl J'):=rfl
 let E:B5 [.U (ps.j BL),.ty "list"]=Z (.bl J'):=rfl
 let G:Ec [.U (e.j λj:Y=>D.r j)]=Z (Ar e):=rfl
 let H:Hr [Ar e]=Z (e.j λj:Y=>D.r j):=rfl
 rw[show ZU L e (a.ν λr=>DP L ps r.1)=CY (C8 L e (a.ν λr=>DP L ps r.1))from rfl]at *
 unfold sD DQ at *
 rw[show Ar e=.O (e.j λj:Y=>D.r j)from rfl]at *
 generalize CY (C8 L e (a.ν λr=>DP L ps r.1))=Y',(a.ν λr=>DP L ps r.1).j Ze=FR,(e.j λ_=>J').j D.bl=B1,(ps.j λ_=>J').j D.bl=B2,(e.j λj:Y=>D.r j)=o,ps.j BL=PS,a.j Ze=R,L.j LD=W,VD (BD L (rs.j Ze) (Zc (AI L rs gs))) (S++[AZ e ps])=V at *
 apply Zp rfl ?_
 change Wt [.u V,#v[W],#v[R],.u (.O [.U o,.U PS]),.no,.no,.no,.no,.no,.no]=_
 rwa[Wt,iJ,ij,NM,show ZC 2 (Zf (Zb 4) (Zf (Zb 5) ZD)) (.tup [.lst o,.lst PS]) [.val V,#v[W],#v[R],.val (.tup [.lst o,.lst PS]),.no,.no,.no,.no,.no,.no]=Z [.val V,#v[W],#v[R],.val (.tup [.lst o,.lst PS]),#v[o],#v[PS],.no,.no,.no,.no]from rfl,iI,ik,ZY,g1,P,Ic,iH,im,C,Et,Ez,H,n1,Zi,show ∀x,Zr 1 [] x=[.no]from λ_=>rfl,q1,w1,w3,iG,io,g2,u,Ey,Z4,iF,ip,E,n2,show M5 (.lst PS)=Z PS from rfl,q2,w2,w4,iE,iq,QT,D3,if_pos A,iD,ir,g3,k,iC,iu,w,DY,G,n,iB,iw,z,n3,iA,ix,NL,Db,iz,iy,e3,e2]
def
lU{e:U Y}{k:Y}(c:k<e.a)(d:e.a<=1000)(j:Y):DH (DQ e) J (Z (k:W'))=Z (DQ (e.ύ k))/\DH (DQ e) (Z ((k:W')+1)) J=Z (DQ (e.Ν (k+1)))/\Zw (DQ (e.ύ k)) (.U [.r j])=Z (DQ (e.ύ k++[j]))/\Zw (DQ (e.ύ k++[j])) (DQ (e.Ν (k+1)))=Z (DQ (e.Ε k j)):=by
 apply#[?_,?_,?_,?_]
 .change Z (D.U (Internal.cutD _ _ _))=_
  rw[lC,<- List.map_take]
 .change Z (D.U (Internal.cutD _ _ _))=_
  rw[lD,<- List.map_drop]
 .rw[KO _ _ (by simp;lia)]
  show congrArg (λl=>Z (D.U l)) (De (f:=λj:Y=>D.r j) (l₁:=e.ύ k) (l₂:=[j])).Ρ
 .rw[KO _ _ (by simp;lia),<- De,QdD,if_pos c,Dy];rfl
def
ZFC{g:U Y}{k:Y}(h:k<g.a):Ap (DQ g) (.r k)=Z (.r (g.B k 0)):=Ev (by simp[Cm,Cc h])
def
CZ.at{L:AM}{e:U Y}(h:CZ L e){k:Y}{a:BB}(b:L[k]?=Z a):e.B k 0<=wh a:=by
 let c:=(BR.mp b).1
 let d:=h.1
 apply h.2 (a,e.B k 0) (List.mem_iff_getElem?.ϡ #[k,?_])
 rw[List.getElem?_zip_eq_some]
 show#[b,by simp[Cm,Cc (show k<e.length by lia)]]
def
CZ.put{L:AM}{e:U Y}(h:CZ L e){k:Y}{b:BB}(d:L[k]?=Z b){j:Y}(f:j<=wh b):CZ L (e.Ε k j):=by
 apply CZ.of (by simp[h.1]) λi h1 h2=>?_
 let a:L[i]?=Z L[i]:=Cc h1
 by_cases c:k=i
 .subst c
  rw[List.getElem_set_self]
  rw[d]at a;ext a;show f
 .rw[List.getElem_set_ne c]
  have:=h.at a
  rw[List.length_set]at h2
  simpa[Cm,Cc h2]using this
def
ZzY(l:U At)(j:Y):(l++[At.Y]).B j .Y=l.B j .Y:=by
 unfold Cm
 by_cases c:j<l.a
 .rw[FC c]
 .rw[GN ∅,Sh (show l.a<=j by lia)]
  cases j-l.a<;>rfl
def
Td(a b c:jp):Eo (Z a) (Cs (Z b) (Z c))=Z (a&&(b||c)):=by ext a<;>ext b<;>rfl
def
lV(a b:W'):Fm (.r a) (.r b)=Z (.bl (decide (a>b))):=rfl
variable {L:AM}{R T:U D}{G:Gh}{b t v st:Y}{S:U D}{e:U Y}{ps:U Pv}
variable(h:Bv L)(h0:G[b]?=Z (Cn L R t))(ht:G[t]?=Z (.ϕ .d T))(hv:G[v]?=Z (Fu b st))(hs:G[st]?=Z (.ϕ .l (S++[AZ e ps])))
include h h0 ht hv hs
def
ZAQ(c:W')(o:CZ L e)(hq:∀q∈ps,FP L q)(hz:(S++[AZ e ps]).a<1000)(N:ps.a<1000):∃e' ps',CZ L e'/\(∀q∈ps',FP L q)/\ps'.a<=ps.a+1/\Wf [.ϋ v,#v[L.j LD],.u (sD e ps),‹c›] G=Z (.u (sD e' ps'),G.Ε st (.ϕ .l (S++[AZ e ps]++[AZ e' ps']))):=by
 let n1:=h.n1
 let n4:=h.n4
 let w:=o.1
 let s0:=XC hv
 let s2:=Mz h0 ht hv hs
 let lb:=(BR.mp hv).1
 let(f,x,s,_):=QX c (ps.a:W')
 let x0:Ap (.U (f.j D.r)) (.r 0)=Z (.r (f.B 0 0)):=E6 s 0 (by ext)
 let x1:Ap (.U (f.j D.r)) (.r 1)=Z (.r (f.B 1 0)):=E6 s 1 (by ext)
 let x2:Ap (.U (f.j D.r)) (.r 2)=Z (.r (f.B 2 0)):=E6 s 2 (by ext)
 generalize f.B 0 0=y0,f.B 1 0=n,f.B 2 0=y2 at *
 let(k,ek,hk):=FM y0 L.a n1
 let K:=CD y0 (L.a:W') ∅
 rw[ek]at K
 let y:ZA [.U (L.j LD)]=Z (.r L.a):=by simp
 let a:L[k]?=Z L[k]:=Cc hk
 let hm:L[k]∈L:=Hq hk
 generalize L[k]=d at *
 let(p,j):=h.v0 d hm
 let t:=o.at a
 let iL:=Rm a
 let(l0,f0,fl):=XD j
 let m1:=CD n 3 (by ext)
 let(i,ei,hi):=FM y2 d.a j.n1
 let m2:=CD y2 (d.a:W') (by have:=j.n1;lia)
 rw[ei]at m2
 let Q:ZA [LD d]=Z (.r d.a):=by simp
 let il:Ap (LD d) (.r i)=Z (Ah d[i]):=Ev (by rw[DF,Cc hi];rfl)
 let u:d[i]∈d:=Hq hi
 generalize d[i]=l at *
 let hpl:=j.Ϫ l u
 let hp4:=j.p4
 rw[j.wh]at t
 let ad:Zw (Ah l) (.O [.Y])=Z (Ah (l++[.Y])):=Xa l [.Y] (by simp;lia)
 let iv:Ap (Ah (l++[.Y])) (.r (e.B k 0:Y))=Z (aD (l.B (e.B k 0) .Y)):=by
  rw[W9 (by rw[D2];change _<l.a+1;lia)]
  rw[ZzY]
 let ie:=ZFC (g:=e) (k:=k) ∅
 let B:=lV (e.B k 0:Y) 0
 let r:=lV (n%3) 0
 let C:=WI (e.B k 0:Y) (p:W')
 let i1:EE "View" "drill" (Fu b st)=J':=by rwa[EE,ZCE]
 let i2:EE "View" "roll" (Fu b st)=J':=by rwa[EE,ZD0]
 let E:ZA [.U (ps.j BL)]=Z (.r ps.a):=by simp
 by_cases H:e.B k 0>0/\(n%3>0\/e.B k 0=p)
 .let hd:=Zzm h h0 ht hv hs a w H.1 u hz N
  let(P,Y',zA,t4):=lU (e:=e) (k:=k) ∅ ∅ (e.B k 0-1)
  rw[show(((e.B k 0-1:Y):W'))=((e.B k 0:Y):W')-1 by lia]at zA
  apply#[e.Ε k (e.B k 0-1),ps++[(k,e.B k 0,l.B (e.B k 0) .Y)],o.put a (by rw[j.wh];lia),λq m=>?_,by simp,?_]
  .rcases EH.mp m with m|m
   .show hq q m
   .rw[Fw.mp m]
    show#[d,a,by rw[j.wh];show t,l,u,rfl]
  .let c1:(decide (((e.B k 0:Y):W')>0)&&(decide (n%3>0)||decide (((e.B k 0:Y):W')=(p:W'))))=J':=by
    rw[decide_eq_true (show((e.B k 0:Y):W')>0 by lia),KI,Bool.or_eq_true,decide_eq_true_iff,decide_eq_true_iff]
    rcases H.2 with c|c
    .show .S c
    .show .τ (by rw[c])
   let adp:Zw (.U (ps.j BL)) (.U [.O [.r k,.r (e.B k 0:Y),aD (l.B (e.B k 0) .Y)]])=Z (.U ((ps++[(k,e.B k 0,l.B (e.B k 0) .Y)]).j BL)):=by
    rw[KO _ _ (by simp;lia),De];rfl
   let fv:BM 2 (aD (l.B (e.B k 0) .Y))=J':=by cases l.B (e.B k 0) .Y<;>rfl
   generalize decide (((e.B k 0:Y):W')>0)=B1,decide (n%3>0)=B2,decide (((e.B k 0:Y):W')=(p:W'))=B3,n%3=y13 at *
   unfold sD at *
   generalize (ps++[(k,e.B k 0,l.B (e.B k 0) .Y)]).j BL=PS2,G.Ε st (.ϕ .l (S++[AZ e ps]++[AZ (e.Ε k (e.B k 0-1)) (ps++[(k,e.B k 0,l.B (e.B k 0) .Y)])]))=G',aD (l.B (e.B k 0) .Y)=AA,DQ (e.Ε k (e.B k 0-1))=E5,DQ (e.ύ k++[e.B k 0-1])=E4,DQ (e.ύ k)=E3,DQ (e.Ν (k+1))=E2,DQ e=E1,((e.B k 0:Y):W')=F,(k:W')=kk,(i:W')=ii,(p:W')=pp,(ps.a:W')=pl,(L.a:W')=Ll,(d.a:W')=lsl,Ah (l++[.Y])=LN,Ah l=L1,Ah l0=L0,f.j D.r=W,LD d=A,L.j LD=X,ps.j BL=PS,VD (BD L R T) (S++[AZ e ps])=V at *
   suffices e2:Oh ([.ϋ v,#v[X],.u (.O [E1,.U PS]),‹c›,.no,.no,.no,.no,.no,.no],G)=.Ϻ (.u (.O [E5,.U PS2])) G' from G9 (fi rfl e2) rfl
   rwa[Oh,We,V4,s0,NO,Wc,V5,E,x,Wb,V6,s2,x0,y,K,Mm,Wa,V7,iL,f0,fl,V9,V8,ie,B,x1,m1,r,C,Td,c1,x2,Q,m2,il,QS,ad,iv,fv,FK,hv,i1,lb,and_self,hd,Mb,isN,KV,L8,Fg,if_false,QT,adp,Dw,Dn,P,WE,zA,G7,Y',t4,Oj]
 .let p1:=j.p1
  let M:e.B k 0<p:=by
   rcases IN (e.getD k 0) p with c|c
   .show c
   .show absurd #[BQ p1 c,.τ (LQ t c)] H
  let hd:=ZB1 h h0 ht hv hs a w (by rw[j.wh];show M) hz
  let(P,Y',zA,t4):=lU (e:=e) (k:=k) ∅ ∅ (e.B k 0+1)
  rw[show(((e.B k 0+1:Y):W'))=((e.B k 0:Y):W')+1 by lia]at zA
  apply#[e.Ε k (e.B k 0+1),ps,o.put a (by rw[j.wh];lia),hq,Nat.le_succ _,?_]
  let c1:(decide (((e.B k 0:Y):W')>0)&&(decide (n%3>0)||decide (((e.B k 0:Y):W')=(p:W'))))=O':=by
   by_cases c:e.B k 0>0
   .rw[decide_eq_false (show ¬ (n%3>0)from λz=>H #[c,.S z]),decide_eq_false (show ¬ ((e.B k 0:Y):W')=(p:W') by lia),Bool.or_false,Bool.and_false]
   .rw[decide_eq_false (show ¬ ((e.B k 0:Y):W')>0 by lia),Bool.false_and]
  clear iv H M
  generalize decide (((e.B k 0:Y):W')>0)=B1,decide (n%3>0)=B2,decide (((e.B k 0:Y):W')=(p:W'))=B3,n%3=y13 at *
  unfold sD at *
  generalize G.Ε st (.ϕ .l (S++[AZ e ps]++[AZ (e.Ε k (e.B k 0+1)) ps]))=G',DQ (e.Ε k (e.B k 0+1))=E5,DQ (e.ύ k++[e.B k 0+1])=E4,DQ (e.ύ k)=E3,DQ (e.Ν (k+1))=E2,DQ e=E1,((e.B k 0:Y):W')=F,(k:W')=kk,(i:W')=ii,(p:W')=pp,(ps.a:W')=pl,(L.a:W')=Ll,(d.a:W')=lsl,Ah l0=L0,f.j D.r=W,LD d=A,L.j LD=X,ps.j BL=PS,VD (BD L R T) (S++[AZ e ps])=V at *
  suffices e2:Oh ([.ϋ v,#v[X],.u (.O [E1,.U PS]),‹c›,.no,.no,.no,.no,.no,.no],G)=.Ϻ (.u (.O [E5,.U PS])) G' from G9 (fi rfl e2) rfl
  rwa[Oh,We,V4,s0,NO,Wc,V5,E,x,Wb,V6,s2,x0,y,K,Mm,Wa,V7,iL,f0,fl,V9,V8,ie,B,x1,m1,r,C,Td,c1,gQ,gN,FK,hv,i2,lb,and_self,hd,Mb,isN,KV,L8,Fg,if_false,gP,gO,QS,Dw,Dn,P,G7,zA,Y',t4,Oj]
end
def
ZBI(L:AM)(R:U D)(t:Y):EE "Book" "keep" (Cn L R t)=J':=by rwa[EE,ZBZ]
def
lW{L:AM}{b:Y}(i j k:IV):∀(gs d:U (U Y))(G:Gh)(m:IV),BS L [] d b G->(∀g∈gs,CZ L g)->d.a+gs.a<=12->∃e G' o,G4 4 QM (gs.j Ar) ([i,j,k,.ϋ b,m],G)=.β ([i,j,k,.ϋ b,o],G')/\BS L [] e b G'/\(∀g∈d,g∈e)
 |[],d,G,m,s,_,_=>#[d,G,m,rfl,s,λ_ h=>h]
 |g::gs,d,G,m,s,n,y=>by
  erw[Cb]at y
  obtain⟨l,e,A,B,m1,l1⟩:∃l e,Of [.ϋ b,.u (Ar g)] G=Z (‹((ZU L g []).a:W')›,l)/\BS L [] e b l/\(∀g∈d,g∈e)/\e.a<=d.a+1:=by
   let(h,C,E,p,H,t,hb,ht,f):=id s
   by_cases r:g∈d
   .show#[G,d,ZBC h (n g A6) hb ht r,s,λ_ h=>h,Nat.le_succ _]
   .apply#[_,d++[g],Zz1 h (n g A6) hb ht (λ_ h=>nomatch h) (by ext) f r ∅,#[h,C,?_,λS u=>?_,by simp;lia,t,by rw[OA f];show hb,Jc ht,f],λ_ h=>Jg _ h,by simp]
    .rw[Nk]
     show#[E,by simp,λa F c M z=>by rw[Fw.mp M]at z;show r (z ▸ F)]
    .rcases EH.mp u with q|q
     .show p S q
     .rw[Fw.mp q];show(n g A6).1
  let(v,N,K,Q,T,m2):=lW i j k gs e l (.u (Ar g)) B (λx w=>n x (A5 _ w)) ∅
  apply#[v,N,K,?_,T,λx w=>m2 x (m1 x w)]
  let(t,hb,_):=s.bk
  let P:=(BR.mp hb).1
  let hb:G[b]?=Z (Cn L [] t):=hb
  let Y':=ZBI L [] t
  let eb:QM ([i,j,k,.ϋ b,.u (Ar g)],G)=.β ([i,j,k,.ϋ b,.u (Ar g)],l):=by
   generalize Ar g=R at *
   rwa[QM,FK,hb,Y',P,and_self,A]
  erw[AT,G4,Ef,Eg,eb]
  show Q
def
lX{L:AM}:∀(a rs:U Row),(∀r∈a,AJ L r.1)->Mt L rs (a.j λr=>(J',r))
 |[],_,_=>trivial
 |r::a,rs,h=>#[#[h r A6,λz=>(nomatch z)],lX a _ λx b=>h x (A5 _ b)]
def
lY:∀a rs:U Row,(a.j λr=>((J',r):Fa)).Λ DB rs=rs++a
 |[],rs=>by simp
 |r::a,rs=>by
  rw[AT,IG,lY a,DB,cond_true,Dy];rfl
def
ZBU(a:U Row):BM 1 (.U ((a.j λr=>((J',r):Fa)).j C7))=J':=by
 show(!vk 1 .l&&CT 1 _)=J'
 rw[G5 λd hd=>by
  let(c,_,rfl):=Bc.mp hd
  show(BM 1 (HB c.1)&&(BM 1 (Ah c.2.1)&&(BM 1 (.r c.2.2)&&J')))=J'
  rw[Ik]
  cases c.1<;>rfl];rfl
def
ZBn{L:AM}(h:Bv L){a:U Row}(z:∀r∈a,AJ L r.1)(Y':a.a<64)(A:∀g∈gs,CZ L g)(B:gs.a<=11):∃f b k,Wr [#v[L.j LD],#v[a.j Ze],#v[gs.j Ar]] []=Z (.ϋ b,k)/\BS L (Zx CG a) f b k/\zg L∈f:=by
 let C:QK [.ϋ 0,#v[L.j LD]] [.mix (.i [] "Book") []]=Z (.u .Y,[Cn L [] 1,.ϕ .d (Zc (AI L [] [zg L]))]):=ZCq h []
 let s0:BS L [] [zg L] 0 ([Cn L [] 1,.ϕ .d (Zc (AI L [] [zg L]))]:Gh):=#[h,λ_ h=>(nomatch h),by simp,by simp,by simp,1,rfl,rfl,by ext]
 let(f,k,t4,E,s,m1):=lW #v[L.j LD] #v[a.j Ze] #v[gs.j Ar] gs [zg L] _ .no s0 A (by simp;lia)
 let(j,u,G,w):=ZCj s (cs:=a.j λr=>(J',r)) (by simp;lia) (λc H=>by let(r,_,rfl):=Bc.mp H;rfl) (lX a [] z)
 rw[lY,EZ]at w
 let x:=w.bs
 apply#[f,0,u,?_,x,m1 _ A6]
 let(t,hb,_):=s.bk
 let(t2,m,_):=x.bk
 let P:=(BR.mp hb).1
 let n:=(BR.mp m).1
 let hb:k[0]?=Z (Cn L [] t):=hb
 let o:EE "Book" "pour" (Cn L [] t)=J':=by rwa[EE,ZB5]
 let F:=Zv (b:=Zb 0) (e:=hT) (ρ:=[.no]) LD LD L λN _=>#[[.u (LD N)],rfl,rfl]
 let y:=Zv (b:=ZC 2 (Zf (Zb 0) (Zf (Zb 1) ZD))) (e:=hU) (ρ:=[.no,.no]) Ze (λr=>C7 (J',r)) a λr _=>#[[.u (Ah r.1),‹r.2›],rfl,rfl]
 rw[show a.j (λr=>C7 (J',r))=(a.j λr=>((J',r):Fa)).j C7 by rw[B4];rfl]at y
 let K:=Zq (L.j LD) (by have:=h.n4;simp;lia)
 let Q:=Zq (a.j Ze) (by simp;lia)
 let T:BM 1 (.U (L.j LD))=J':=by
  show(!vk 1 .l&&CT 1 (L.j LD))=J'
  rw[Ms];rfl
 let M:=ZBU a
 generalize (a.j λr=>((J',r):Fa)).j C7=CS,([Cn L [] 1,.ϕ .d (Zc (AI L [] [zg L]))]:Gh)=G0,a.j Ze=R,gs.j Ar=p at *
 suffices e:Wq ([#v[L.j LD],#v[R],#v[p],.no,.no],[])=.Ϻ (.ϋ 0) u from G9 (fi rfl e) rfl
 generalize L.j LD=W at *
 rwa[Wq,h7,hV,Zi,show ∀q,Zr 1 [] q=[.no]from λ_=>rfl,K,F,T,KG,EZ,C,h6,hW,KD,show JL (.lst p)=Z p from rfl,E,h5,hX,show ∀q,Zr 2 [] q=[.no,.no]from λ_=>rfl,Q,y,M,FK,hb,o,P,and_self,G,hZ,hY,xP,if_pos n]
structure LV(L:AM)(rs:List Row)(gs:List (List Y))(b t v1 s1 v2 s2:Y)(S:List D)(e:List Y)(ps:List Pv)(G:Gh):V' where
 hb:G[b]?=Z (Cn L (rs.j Ze) t)
 ht:G[t]?=Z (.ϕ .d (Zc (AI L rs gs)))
 h1:G[v1]?=Z (Fu b s1)
 k1:G[s1]?=Z (.ϕ .l (S++[AZ e ps]))
 h2:G[v2]?=Z (Fu b s2)
 k2:G[s2]?=Z (.ϕ .l ([]++[AZ (L.j wh) []]))
 n2:s1≠s2
def
LV.step{L:AM}{rs:U Row}{b t f a g h:Y}{S:U D}{e e':U Y}{ps ps':U Pv}{G:Gh}(z:LV L rs gs b t f a g h S e ps G):LV L rs gs b t f a g h (S++[AZ e ps]) e' ps' (G.Ε a (.ϕ .l (S++[AZ e ps]++[AZ e' ps']))):=by
 let(hb,ht,h1,k1,h2,k2,n2):=z
 let ne:∀{i:Y} {c:Cl},G[i]?=Z c->c≠.ϕ .l (S++[AZ e ps])->(G.Ε a (.ϕ .l (S++[AZ e ps]++[AZ e' ps'])))[i]?=Z c:=λ{i c} d j=>by
  by_cases q:a=i
  .subst q;rw[k1]at d;ext d;show absurd rfl j
  .rw[Ei q];show d
 show#[ne hb λq=>(nomatch q),ne ht λq=>(nomatch q),ne h1 λq=>(nomatch q),Jc k1,ne h2 λq=>(nomatch q),by rw[Ei n2];show k2,n2]
variable {L:AM}{rs rs0:U Row}{b t v1 s1 v2 s2:Y}
variable(h:Bv L)(hr:∀r∈rs,AJ L r.1)(hp0:rs.ϲ rs0)(hrl:rs.a<64)(hgs:∀g∈gs,g.a=L.a)(hl:gs.a<64)(hz:zg L∈gs)
include h hr hp0 hrl hgs hl hz
def
ZBm(j k m n o p:IV){S:U D}{e:U Y}{ps:U Pv}{G:Gh}(z:LV L rs gs b t v1 s1 v2 s2 S e ps G)(i:CZ L e)(u:∀q∈ps,FP L q)(C:S.a+1<1000)(w:ps.a+1<1000)(c:W'):
  ∃e' ps',CZ L e'/\(∀q∈ps',FP L q)/\ps'.a<=ps.a+1/\QQ ([j,#v[L.j LD],#v[rs0.j Ze],k,m,n,.ϋ v1,o,p,.u (sD e ps),‹c›],G)=.β ([j,#v[L.j LD],#v[rs0.j Ze],k,m,n,.ϋ v1,o,p,.u (sD e' ps'),‹c›],G.Ε s1 (.ϕ .l (S++[AZ e ps]++[AZ e' ps']))):=by
 let(e',ps',r,s,x,a):=ZAQ h z.hb z.ht z.h1 z.k1 c i u (by simp;lia) ∅
 let g:=z.ώ (e':=e') (ps':=ps')
 let f:=Mz g.hb g.ht g.h1 g.k1
 let d:=lT h hr hp0 hrl hgs hl hz r s ∅ (S++[AZ e ps])
 apply#[e',ps',r,s,x,?_]
 let y:=IW (.U (L.j LD))
 let A:=IW (sD e ps)
 let B:isN (sD e' ps')=O':=rfl
 generalize G.Ε s1 (.ϕ .l (S++[AZ e ps]++[AZ e' ps']))=E,VD (BD L (rs.j Ze) (Zc (AI L rs gs))) (S++[AZ e ps]++[AZ e' ps'])=V,sD e' ps'=H,sD e ps=F,rs0.j Ze=R,L.j LD=W at *
 rwa[QQ,y,A,a,DS,B,f,d,Ic,Et]
def
lZ(f g i j k l:IV):∀(cs:U W')(S:U D)(e:U Y)(ps:U Pv)(G:Gh)(a:IV),LV L rs gs b t v1 s1 v2 s2 S e ps G->CZ L e->(∀q∈ps,FP L q)->S.a+1+cs.a<1000->ps.a+1+cs.a<1000 ->
  ∃m e' ps' G' d,LV L rs gs b t v1 s1 v2 s2 m e' ps' G'/\G4 10 QQ (cs.j D.r) ([f,#v[L.j LD],#v[rs0.j Ze],g,i,j,.ϋ v1,k,l,.u (sD e ps),a],G)=.β ([f,#v[L.j LD],#v[rs0.j Ze],g,i,j,.ϋ v1,k,l,.u (sD e' ps'),d],G')
 |[],S,e,ps,G,a,z,_,_,_,_=>#[S,e,ps,G,a,z,rfl]
 |c::cs,S,e,ps,G,a,z,n,r,s,o=>by
  erw[Cb]at s o
  let(u,p1,w,x,l1,h1):=ZBm h hr hp0 hrl hgs hl hz f g i j k l z n r ∅ ∅ c
  let(m,e',ps',G',p,y,A):=lZ f g i j k l cs (S++[AZ e ps]) u p1 _ ‹c› z.ώ w x (by simp;lia) ∅
  apply#[m,e',ps',G',p,y,?_]
  erw[AT,G4,Ef,Eg,h1]
  show A
end
def
l5{L:AM}(h:Bv L)(c:W'):∀a:U Y,(∀k∈a,k<3)->∃gs:U (U Y),gs.a=a.a/\(∀g∈gs,CZ L g)/\ZL (Zb 0) (λ_=>Z J') QO [.no,‹c›,#v[L.j LD]] (a.j λk:Y=>D.r k)=Z (gs.j Ar)
 |[],_=>#[[],rfl,λ_ h=>(nomatch h),rfl]
 |k::a,i=>by
  let(gs,j,l,m):=l5 h c a λx b=>i x (A5 _ b)
  obtain⟨d,hd,n,o⟩:∃d:W',Ap (.U [D.r 1,.r 7,.r 11]) (.r k)=Z (.r d)/\0<d/\d<1000000000:=by
   have:=i k A6
   match k,this with
   |0,_=>show#[1,rfl,by ext,by ext]
   |1,_=>show#[7,rfl,by ext,by ext]
   |2,_=>show#[11,rfl,by ext,by ext]
  let(g,p,e):=Zxz (c/d) h
  apply#[g::gs,by simp[j],λx b=>?_,?_]
  .rcases Bl.mp b with rfl|b
   .show p
   .show l x b
  .let f:=Hx c d n o
   let q:QO [‹k›,‹c›,#v[L.j LD]]=Z (Ar g):=by
    generalize L.j LD=W,(k:W')=r,c/d=s,Ar g=t at *
    rwa[QO,QT,hd,f,e]
   rw[AT,ZL,show Zb 0 (D.r k) [.no,‹c›,#v[L.j LD]]=Z [‹k›,‹c›,#v[L.j LD]]from rfl]
   rwa[q,m]
def
Zyf(ns:U W'):∃G,i0 [#v[ns.j D.r]] []=Z (.u (.bl J'),G):=by
 let(L,h,_,eL):=zI ns
 let(a,T,hr,eR):=ZBx ns h
 let n4:=h.n4
 let c4:=Om #v[ns.j D.r] ns (.S rfl) 4 (by ext)
 let c6:=Om #v[ns.j D.r] ns (.S rfl) 6 (by ext)
 generalize ns.B (4:W').Β 0=c,ns.B (6:W').Β 0=y at *
 let(m,em,hm):=FM c 3 (by ext)
 let P:=CD c 3 (by ext)
 rw[show c%3=(m:W')from em]at P
 let s:=JN (1+m) ∅
 rw[show((1+m:Y):W')=1+(m:W') by lia]at s
 let(H,gl,gg,ec):=l5 h c (Bf (1+m)) λk hk=>by have:=C9.mp hk;lia
 rw[List.length_range]at gl
 let q1:=Zq ((Bf (1+m)).j λk:Y=>D.r k) (by simp;lia)
 let(u,b,f,eB,bs,Y'):=ZBn h hr T gg ∅
 let(_,w,_,x,h12,t,hb,ht,hbt):=bs
 let o:=ZB CG a
 let A:(Zx CG a).a<64:=by rw[o.Ψ];show T
 let v1:=lH h hb ht
 let lb:=(BR.mp hb).1
 let v2:=lH (G:=f++[Fu b (f.a+1),.ϕ .l [AZ (L.j wh) []]]) h (by rw[FC lb];show hb) (by rw[FC (BR.mp ht).1];show ht)
 let z:LV L (Zx CG a) u b t f.a (f.a+1) (f.a+2) (f.a+2+1) [] (L.j wh) [] (f++[Fu b (f.a+1),.ϕ .l [AZ (L.j wh) []]]++[Fu b (f.a+2+1),.ϕ .l [AZ (L.j wh) []]]):=by
  apply#[?_,?_,?_,?_,?_,?_,∅]
  .rw[Dy,FC lb];show hb
  .rw[Dy,FC (BR.mp ht).1];show ht
  .rw[Dy,GN ∅];simp
  .rw[Dy,GN ∅];simp
  .rw[Dy,GN ∅];simp
  .rw[Dy,GN ∅];simp[show f.length+2+1-f.length=3 by lia]
 let B:(f++[Fu b (f.a+1),Cl.ϕ .l [AZ (L.j wh) []]]).a=f.a+2:=by simp
 rw[B]at v2
 let gw:CZ L (L.j wh):=CZ.of (by simp) λk h1 h2=>by simp
 let C:=Mz z.hb z.ht z.h1 z.k1
 let i:=lT h w o A x ∅ Y' gw (ps:=[]) (λ_ h=>nomatch h) (by ext) []
 let E:DH (.U (ns.j D.r)) (Z 7) (Z 14)=Z (.U (((ns.Ν 7).ύ 7).j D.r)):=by
  change Z (D.U (Internal.cutD _ _ _))=_
  rw[Tu,cR _ _ _ (by ext) (by ext)];rfl
 let hcl:((ns.Ν 7).ύ 7).a<=7:=by simp;lia
 generalize (ns.Ν 7).ύ 7=q at *
 let F:Zw (.U [.r y]) (.U (q.j D.r))=Z (.U ((y::q).j D.r)):=by
  rw[KO _ _ (by simp;lia)];rfl
 let(S',e',M,G',t10,S,er):=lZ h w o A x ∅ Y' #v[ns.j D.r] ‹c› #v[H.j Ar] (.ϋ b) (.ϋ (f.a+2)) (.u (sD (L.j wh) [])) (y::q) [] (L.j wh) [] _ .no z gw (λ_ h=>nomatch h) (by simp;lia) (by simp;lia)
 let n:=Mz S.hb S.ht S.h2 S.k2
 let hw:=Zv (b:=Zb 0) (e:=QP) (ρ:=[.no]) LD (λr=>D.r (wh r)) L λr hl=>#[[.u (LD r)],rfl,by
  let(p,o):=h.v0 r hl
  let(l,f0,fl):=XD o
  rw[o.wh]
  rwa[QP,f0,fl]]
 rw[show L.j (λr=>D.r (wh r))=(L.j wh).j λj:Y=>D.r j by rw[B4];rfl]at hw
 let q2:=Zq (L.j LD) (by simp;lia)
 let f1:=Ms L
 let f2:CT 2 (a.j Ze)=J':=Xm a
 let f3:CT 2 (H.j Ar)=J':=G5 λd hd=>by
  let(g,_,rfl):=Bc.mp hd
  rw[<- Jb];show Ik 2 _
 let a1:=IW (.U (L.j LD))
 let a2:=IW (.U (a.j Ze))
 let a3:=IW (.U (H.j Ar))
 let a4:=IW (sD (L.j wh) [])
 let a5:=IW (.U ((y::q).j D.r))
 apply#[G',?_]
 let K:D.O [.U ((L.j wh).j λj:Y=>D.r j),.U []]=sD (L.j wh) []:=rfl
 generalize f++[Fu b (f.a+1),.ϕ .l [AZ (L.j wh) []]]=G2 at *
 generalize sD (L.j wh) []=S0,sD e' M=S9,((L.j wh).j λj:Y=>D.r j)=LW,(y::q).j D.r=CS,q.j D.r=AS,a.j Ze=R,H.j Ar=GS,(Bf (1+m)).j (λk:Y=>D.r k)=RG,(m:W')=mm,ns.j D.r=N,L.j LD=W,VD (BD L ((Zx CG a).j Ze) (Zc (AI L (Zx CG a) u))) ([]++[AZ (L.j wh) []])=V,G2++[Fu b (f.a+2+1),.ϕ .l [AZ (L.j wh) []]]=G3 at *
 suffices e2:QR ([#v[N],.no,.no,.no,.no,.no,.no,.no,.no,.no,.no],[])=.Ϻ (.u (.bl J')) G' from G9 (fi rfl e2) rfl
 rwa[QR,WD,iK,DU,eL,Ey,jG,jL,f1,xF,WC,iM,eR,f2,WB,iN,c4,Mm,WA,iO,P,G7,s,Zi,show ∀x2 x4 x5 x6 x7 x8 x9 Q,Zr 1 [3,1] [#v[N],#v[W],x2,‹c›,x4,x5,x6,x7,x8,x9,Q]=[.no,‹c›,#v[W]]from λ_ _ _ _ _ _ _ _=>rfl,q1,ec,f3,Wz,iP,a1,a2,a3,eB,Wx,iQ,KG,v1,Ww,iR,B,v2,Wv,Wu,show ∀xs,Zr 1 [] xs=[.no]from λ_=>rfl,q2,hw,show Zg (Z ([]:U D))=Z []from rfl,Oj,K,a4,iZ,iS,iY,iT,C,i,Ic,Et,iX,iU,c6,QS,Dw,Dn,E,F,a5,KD,show JL (.lst CS)=Z CS from rfl,er,iW,iV,n,show BM 2 (.bl J')=J' from rfl]
end
variable{acc:U A7}{ls:BB}
set_option tactic.hygienic true
def A3(i:Y):AE:=PySem.Challenge.pw_cubebook_k70_drilled_and_rolled.main.body.B i (.Pass #[0,0,0,0])
abbrev l6:U Ae:=["ladder","level","other"]
abbrev l7:U Ae:=["ladder","level","value"]
abbrev l8:U Ae:=["ladder","level","thing"]
abbrev l9:U Ae:=["ladders","thing"]
abbrev ma:U Ae:=["ladders","axis"]
abbrev md:U Ae:=["ladder","thing"]
abbrev mf:U Ae:=["ladders","thing"]
abbrev mj:U Ae:=["grain","axis","level"]
abbrev mk:U Ae:=["self","axis","value"]
abbrev ml:U Ae:=["ladders","thing"]
abbrev mo:U Ae:=["ladders","thing"]
abbrev mq:U Ae:=["ladders","picks","axis"]
abbrev mr:U Ae:=["ladders","picks"]
abbrev ms:U Ae:=["ladder","level","chosen"]
abbrev mu:U Ae:=["ladder","kept_level","level","chosen"]
abbrev mv:U Ae:=["ladders","kept","grain","picks"]
abbrev mw:U Ae:=["ladders","grain","to"]
abbrev my:U Ae:=["ladders","rows","grain"]
abbrev mz:U Ae:=["ladders","thing"]
abbrev mB:U Ae:=["ladders","thing"]
abbrev mC:U Ae:=["standing","row"]
abbrev mD:U Ae:=["standing","row"]
abbrev mE:U Ae:=["ladders","rows","changes"]
abbrev mF:U Ae:=["ladders","rows","grains"]
abbrev mG:U Ae:=["ahead","behind"]
abbrev mH:U Ae:=["ahead","behind"]
abbrev mI:U Ae:=["ladder","level","other","chosen"]
abbrev mJ:U Ae:=["ladders","kept","grain","picks"]
abbrev mK:U Ae:=["ladders","table","kept","grain","picks"]
abbrev mL:U Ae:=["ladders","table","kept","picks"]
abbrev mM:U Ae:=["ladders","table","kept","picks"]
abbrev mN:U Ae:=["self","ladders"]
abbrev mO:U Ae:=["self","changes"]
abbrev mP:U Ae:=["self","grain","picks"]
abbrev mQ:U Ae:=["self","grain","picks"]
abbrev mR:U Ae:=["_law_script","_law_k"]
abbrev mS:U Ae:=["_law_cell","_law_place"]
abbrev mT:U Ae:=["_law_cell","_law_many"]
abbrev mU:U Ae:=["_law_way","_law_cell","_law_k"]
abbrev mV:U Ae:=["_law_cell","_law_many","_law_places"]
abbrev mW:U Ae:=["_law_cell","_law_place","_law_ladders_here"]
abbrev mX:U Ae:=["_law_value_here"]
abbrev mY:U Ae:=["_law_ladder_here","_law_value_here","_law_level"]
abbrev mZ:U Ae:=["_law_ladders_here","_law_spot","_law_grain_here"]
abbrev m3:U Ae:=["_law_ladders_here","_law_rows_here","_law_grain_here"]
abbrev m4:U Ae:=["_law_cell","_law_ladders_here"]
abbrev m5:U Ae:=["_law_ladders_here","_law_rows_here","_law_grains"]
abbrev m6:U Ae:=["_law_script","_law_start","_law_ladders_here"]
abbrev m7:U Ae:=["_law_ladders_here","_law_rows_here","_law_picks"]
abbrev m8:U Ae:=["_law_view","_law_ladders_here","_law_state","_law_cell"]
abbrev m9:U Ae:=["_law_view","_law_ladders_here","_law_rows_here","_law_state"]
abbrev fe(a:Ae)(s:AE)(p:U Ae):Ae×AE×U Ae:=(a,s,p)
abbrev me(a b:Ae)(s:AE)(p:U Ae):Ae×Ae×AE×U Ae:=(a,b,s,p)
def FT:U (Ae×AE×U Ae):=[fe "is_whole" (A3 14) ["thing"],fe "is_word" (A3 15) ["thing"],fe "is_value" (A3 16) ["thing"],fe "value_rank" (A3 18) ["thing"],fe "key_rank" (A3 19) ["key"],fe "in_order" (A3 20) ["keys"],fe "is_line" (A3 24) ["thing"],fe "go_together" (A3 25) ["lines"],fe "is_ladder" (A3 26) ["thing"],fe "whole_of" (A3 27) ["ladder"],fe "line_at" (A3 28) ["line","level"],fe "values_in_order" (A3 29) ["values"],fe "lifts" (A3 30) l6,fe "beneath" (A3 31) l7,fe "is_value_at" (A3 32) l8,fe "is_axis" (A3 34) l9,fe "ladder_on" (A3 35) ma,fe "is_level" (A3 36) md,fe "is_grain" (A3 37) mf,fe "finest" (A3 38) ["ladders"],fe "coarsest" (A3 39) ["ladders"],fe "with_level" (A3 41) mj,fe "is_pick" (A3 44) ml,fe "is_picks" (A3 45) mo,fe "picked" (A3 46) mq,fe "picked_everywhere" (A3 47) mr,fe "asked_of" (A3 49) ms,fe "apart_on" (A3 50) mu,fe "apart" (A3 51) mv,fe "cell_of" (A3 53) ["amounts"],fe "merged" (A3 54) ["one","other"],fe "ways_up" (A3 56) mw,fe "goes_along" (A3 57) ["ways","key"],fe "merged_along" (A3 58) ["ways","table"],fe "table_of" (A3 59) my,fe "is_finest_key" (A3 62) mz,fe "is_change" (A3 63) mB,fe "row_rank" (A3 64) ["row"],fe "put_in" (A3 65) mC,fe "take_out" (A3 66) mD,fe "poured" (A3 67) mE,fe "tables_at" (A3 68) mF,fe "keys_changed" (A3 69) mG,fe "cells_changed" (A3 70) mH,fe "picked_lifts" (A3 72) mI,fe "picked_ways" (A3 73) mJ,fe "read" (A3 74) mK,fe "cells_picked" (A3 75) mL,fe "cells_read" (A3 76) mM,fe "are_ladders" (A3 80) ["thing"],fe "_law_cell_at" (A3 83) mR,fe "_law_stream" (A3 84) mS,fe "_law_word" (A3 85) mT,fe "_law_value" (A3 86) mU,fe "_law_ladder" (A3 87) mV,fe "_law_ladders" (A3 88) ["_law_script"],fe "_law_row" (A3 89) mW,fe "_law_rank" (A3 90) mX,fe "_law_up" (A3 91) mY,fe "_law_key_at" (A3 92) mZ,fe "_law_key_rank" (A3 93) ["_law_spot"],fe "_law_cell_of" (A3 94) ["_law_amounts"],fe "_law_table" (A3 95) m3,fe "_law_grain" (A3 96) m4,fe "_law_is_table" (A3 97) ["_law_found"],fe "_law_book" (A3 98) m5,fe "_law_rows" (A3 99) m6,fe "_law_of_picked" (A3 100) m7,fe "_law_step" (A3 101) m8,fe "_law_whole" (A3 102) ["_law_found"],fe "_law_told" (A3 103) m9,fe "law" (A3 104) ["_law_script"]]
def MT:U (Ae×Ae×AE×U Ae):=[me "__init__" "Book.__init__" (FW (A3 81) 0) mN,me "ladders" "Book.ladders" (FW (A3 81) 1) ["self"],me "kept" "Book.kept" (FW (A3 81) 3) ["self"],me "pour" "Book.pour" (FW (A3 81) 4) mO,me "keep" "Book.keep" (FW (A3 81) 5) ["self","grain"],me "plan" "Book.plan" (FW (A3 81) 10) mP,me "answer" "Book.answer" (FW (A3 81) 11) mQ,me "tables_renewed" "Book.tables_renewed" (FW (A3 81) 14) ["self"]]
def VT:U (Ae×Ae×AE×U Ae):=[me "__init__" "View.__init__" (FW (A3 42) 0) ["self","book"],me "grain" "View.grain" (FW (A3 42) 1) ["self"],me "picks" "View.picks" (FW (A3 42) 2) ["self"],me "cells" "View.cells" (FW (A3 42) 3) ["self"],me "drill" "View.drill" (FW (A3 42) 4) mk,me "roll" "View.roll" (FW (A3 42) 5) ["self","axis"]]
structure Tx(K:Am)(mg:BE)(d:Ac×Ac):V' where
 cb:CI K mg "Book" d.1
 cv:CI K mg "View" d.2
 na_axes:Bx K d.1 "axes"
 na_standing:Bx K d.1 "standing"
 na_tables:Bx K d.1 "tables"
 na_book:Bx K d.2 "book"
 na_steps:Bx K d.2 "steps"
 f:All (DX K mg) FT
 m:All (MX K d.1) MT
 v:All (MX K d.2) VT
 n:All (λx=>mg x=J) ["all","any","bool","dict","enumerate","int","isinstance","len","list","max","min","range","sorted","str","sum","tuple","zip"]
 g:All (λx=>∃u,mg x.1=Z u/\RelV x.2 u) [("FIGURES",(.Α "0123456789")),("LETTERS",(.Α "abcdefghijklmnopqrstuvwxyz")),("LONGEST_LINE",(.r 4)),("LONGEST_WORD",(.r 12)),("MOST_LADDERS",(.r 4)),("MOST_LINES",(.r 40)),("MOST_ROWS",(.r 200)),("MOST_TABLES",(.r 12))]
variable {P:AR}{w:Ai}{K:Am}{mg:BE}{base:Ak}{d:Ac×Ac}(T:Tx K mg d)
include T
set_option hygiene false in
local macro_rules | `(tactic|exists $a,$b,*)=>do let c <- b.getElems.mapM λx=>`(tactic|with_reducible refine $a h r ($x T) ?_ ?_ ?_ ?_ ?_);`(tactic|first $[| $c:tactic]*)
local macro_rules | `(tactic|exists $t)=>`(tactic|with_reducible show JE _ _ (tD _ _ _ (Zm $t _)))
local macro_rules | `(mutual $c* end)=>return Lean.mkNullNode (<- c[1:].toArray.mapM (·.raw.replaceM λ| `(tactic|trivial)=>return c[0]!.raw.find? (·.isOfKind ``Lean.Parser.Tactic.paren)|_=>return none))
mutual
example:=by(intros;rename_i h r;repeat' first
 |(refine(?_:JE _ _ _);first|(refine(?_:JE _ (.Call (.Name _ _) _ _ _) (tJ _ (jC _ _)));exists xH,Zr8)|(refine(?_:JE _ _ (tJ _ (jM _ _ _ _ _)));first|refine xG h r T.cb (na T) rfl ?_)|(refine(?_:JE _ _ (Fk _ _ _ _));first|exact SH _|refine YU ?_)|(refine(?_:JE _ _ (tP _ _ _ _));first|exact aL _|exact uQ|refine YP ?_)|(refine(?_:JE _ _ (tQ _ _ _ _));first|exact sR _|refine rD ?_)|(refine(?_:JE _ _ (Fq _ _));first|exact vT|refine cC T.cb.cof T.cb.cl (by first|exact T.na_axes|exact T.na_standing|exact T.na_tables) ?_|refine cC T.cv.cof T.cv.cl (by first|exact T.na_book|exact T.na_steps) ?_)|(refine(?_:JE _ _ (tJ _ _));first|refine vO _ λ_ _=>?_)|(refine(?_:JE _ (.Name _ _) _);first|exact sQ _|exact sP (by rfl) (by first|exact T.g.get 0 rfl|exact T.g.get 1 rfl|exact T.g.get 2 rfl|exact T.g.get 3 rfl|exact T.g.get 4 rfl|exact T.g.get 5 rfl|exact T.g.get 6 rfl|exact T.g.get 7 rfl) (λ_ _=>by erw[Av])|exact SF (by rfl) (T.n.get 15 rfl) (by rfl)|refine cA ?_|refine Tp ?_|exact SF (by rfl) (by first|exact T.n.get 8 rfl|exact T.n.get 15 rfl) (by rfl)|exact a_n)|(refine(?_:JE _ (.Constant _ _ _) _);first|exact YQ|exact qI|exact qG|exact qH|refine Tp ?_)|(refine(?_:JE _ (.ListComp _ _ _ _) (Fi _ _ _ _ _));first|refine' xp h (L6 (by decide +kernel)) rfl rfl (by exact c3 (aL _)) (L7 h (by decide +kernel) (λ_ _ _ _ _ _ _ h=>?_) (λ_ _ _ _ _ _ _ h=>?_) (λ_ _ _ _ _ _ _ h=>?_)) ?_|refine' ww h (L6 (by decide +kernel)) rfl rfl ?_ (L7 h (by decide +kernel) (λ_ _ _ _ _ _ _ h=>?_) (λ_ _ _ _ _ _ _ h=>?_) (λ_ _ _ _ _ _ _ h=>?_)) ?_|refine' wu h (L6 (by decide +kernel)) rfl rfl ?_ (L7 h (by decide +kernel) (λ_ _ _ _ _ _ _ h=>?_) (λ_ _ _ _ _ _ _ h=>?_) (λ_ _ _ _ _ _ _ h=>?_)) ?_)|(refine(?_:JE _ (.Subscript _ _ _) _);first|refine uR ?_ ?_|refine t5 r.units ?_ ?_ (λ_ _=>rfl)|refine sx ?_ ?_ ?_)|(refine(?_:JE _ (.BinOp _ _ _ _) _);first|refine sk ?_ ?_|refine sd ?_ ?_|refine r6 ?_ ?_|refine r9 ?_ ?_|refine r0 ?_ ?_|refine se ?_ ?_)|(refine(?_:JE _ (.UnaryOp _ _ _) _);first|refine sf ?_|refine qR ?_)|(refine(?_:JE _ (.BoolOp _ _ _) _);first|refine qT ?_ ?_|refine qU ?_ ?_|refine qS ?_)|(refine(?_:JE _ (.Compare _ _ _ _) _);first|refine sT r.units ?_ ?_|refine sV r.units ?_ ?_|refine sU r.units ?_ ?_|refine t6 r.units ?_ ?_|refine qW ?_|refine aM RO RO (Lw _) (Lw _) ?_ ?_ ?_|refine j_vc_ne r.units ?_ ?_|refine aM RO (aq r.units) (Lw _) ar ?_ ?_ ?_)|(refine(?_:JE _ (.Tuple _ _ _) _);first|refine q9 ?_)|(refine(?_:JE _ (.List _ _) (Fi _ _ _ _ _));first|refine q8 ?_)|(refine(?_:JE _ (.Dict _ _ _) _);first|exact t9)|(refine(?_:JE _ (.IfExp _ _ _ _) _);first|refine qV ?_ ?_ ?_)|(refine(?_:JE _ (.Attribute _ _ _) _);first|refine bS T.cb.cof T.cb.cl (by first|exact T.na_axes|exact T.na_standing|exact T.na_tables) ?_|refine bS T.cv.cof T.cv.cl (by first|exact T.na_book|exact T.na_steps) ?_|refine cA ?_)|(refine(?_:JE _ (.Call (.Name _ _) _ [] _) _);first|(refine(?_:JE _ (.Call (.Name _ _) _ [] _) (tD _ _ _ (Zh _ _)));first|exists wy,ZsB,ZuQ,ZsT,ZuH,ZxN,ZpJ,Zux,Zxr,Zpv,Zom,ZpA,ZsH,ZsI,ZxB,ZnJ,ZqJ,ZmT,ZqC,ZsJ,ZpE,Zz7,Zuz,ZsE,ZsC,Zso,ZnF,Zru,ZuZ,Zpw,Zmh,nb,ZuI,ZsA,Zuh,Zsq,Zuu,Zpz,ZoG,Zsu,Zra,ZqF,ng,Zoq,ZmN,ZuJ,Zvt,ZsG,Zoj,ZiW,Zys,Zl9,Zoa,Zqr,Znm,ZpD,ZsF)|(refine(?_:JE _ (.Call (.Name _ _) _ [] _) (Fi .l _ _ _ (DU _ _)));first|exists wz,ZsS,Zob,ng,Zlf,Znu,ZmD,ZBe)|(refine(?_:JE _ (.Call (.Name _ _) _ [] _) (Fi .d _ _ _ (Jw _ _)));first|exists wA,Zqp)|(refine(?_:JE _ (.Call (.Name _ _) _ [] _) (DA _ (λs=>IU _ (_) s)));first|exists wB,Zvq,Zsy,Zst,Zv0,ZsL)|(refine(?_:JE _ (.Call (.Name _ _) _ [] _) _);first|exact uO _ (T.n.get 7 rfl)|exact uP _ (T.n.get 6 rfl) (by first|exact(T.n.get 5 rfl)|exact(T.n.get 2 rfl)|exact(T.n.get 15 rfl)|exact(T.n.get 8 rfl)|exact(T.n.get 13 rfl))|(exists ZA;refine GU Yb au (by rfl) (T.n.get 7 rfl) (by rfl) ?_)|(exists L3;refine GU vz vA (by rfl) (T.n.get 7 rfl) (by rfl) ?_)|(exists Do;refine GU (YK (b:=J') rfl) (ax (b:=J')) (by rfl) (T.n.get 0 rfl) (by rfl) ?_)|(exists Ko;refine GU (YK (b:=O') rfl) (ax (b:=O')) (by rfl) (T.n.get 1 rfl) (by rfl) ?_)|(exists Nh;refine GU (sJ rfl) sM (by rfl) (T.n.get 14 rfl) (by rfl) ?_)|(exists Ni;refine GU (ay (b:=J') rfl) (aB (b:=J')) (by rfl) (T.n.get 10 rfl) (by rfl) ?_)|(exists Nj;refine GU (ay (b:=O') rfl) (aB (b:=O')) (by rfl) (T.n.get 9 rfl) (by rfl) ?_)|(exists Po;refine GU (ph rfl) sH (by rfl) (T.n.get 10 rfl) (by rfl) ?_)|(exists Pn;refine GU (pf rfl) sG (by rfl) (T.n.get 9 rfl) (by rfl) ?_)|(exists B5;refine GU aJ aK (by rfl) (T.n.get 6 rfl) (by rfl) ?_)|(exists Ec;refine Sg qc sE (by rfl) (T.n.get 15 rfl) (by rfl) ?_)|(exists Ng;refine Sg pi sI (by rfl) (T.n.get 5 rfl) (by rfl) ?_)|refine YX qb sC (by rfl) (T.n.get 8 rfl) (by rfl) ?_|refine YX (uK rfl) uL (by rfl) (T.n.get 8 rfl) (by rfl) ?_|refine uB rfl r.units (by rfl) (T.n.get 3 rfl) ?_|refine wp rfl r.units (by rfl) (T.n.get 12 rfl) (by rfl) ?_|refine cO h r T.cb (ZqO T) rfl ?_|refine cO h r T.cv (Zqm T) rfl ?_|(exists Ma;refine Sg xf xg (by rfl) (T.n.get 13 rfl) (by rfl) ?_)))|(refine(?_:JE _ (.Call (.Name _ _) _ _ _) _);first|refine cN h r (nb T) (T.n.get 12 rfl) rfl ?_|refine cN h r (Zss T) (T.n.get 12 rfl) rfl ?_|refine xu xr xt (by rfl) (T.n.get 12 rfl) (by rfl) ?_|refine xE h r (Znj T) (T.n.get 12 rfl) rfl ?_ rfl)|(refine(?_:JE _ (.Call (.Attribute _ _ _) _ _ _) _);first|refine NF h r T.cv (ZpN T) rfl ?_|refine dg h r T.cv (ni T) rfl ?_|refine NF h r T.cv (ni T) rfl ?_|refine NF h r T.cb (na T) rfl ?_|refine NF h r T.cb (ZrV T) rfl ?_|refine PQ h r T.cv (ZqN T) rfl ?_ ?_|refine PQ h r T.cb (ZrT T) rfl ?_ ?_|refine PQ h r T.cv (Zpt T) rfl ?_ ?_|refine wC h r T.cb (Zg8 T) rfl ?_|refine PQ h r T.cb (Zqt T) rfl ?_ ?_|refine cP h r T.cb (ZrC T) rfl ?_ ?_|refine xB h r T.cb (nj T) rfl ?_ ?_|refine cP h r T.cb (nj T) rfl ?_ ?_|refine dg h r T.cv (nk T) rfl ?_|refine NF h r T.cv (nk T) rfl ?_|refine ve r.units ?_ ?_|refine wj ?_ ?_|refine wk r.units ?_ ?_|refine bq r.units ?_ ?_|refine tu PySem.F.plainAttrs_str PySem.F.slot_str_zfill PySem.F.type_str_zfill wW wY ?_ ?_|refine w9 r.units ?_ ?_)|(refine(?_:JE _ _ (DA _ _));first|refine Tp ?_|refine vR (cy _ λ_ _=>?_)|refine vS (cy _ λ_ _=>?_))|(refine(?_:JE _ _ (tD _ _ _ _));first|refine qC ?_))
 |(refine(?_:JA _ _ _);first|exact Se|refine O5 ?_ ?_|exact vW|refine vX ?_ ?_)
 |(refine(?_:JT _ _ _);first|(refine(?_:JT _ (.Ο _ _ _ _) _);first|refine sW r.η ?_ ?_|refine sX r.η ?_ ?_|refine sY r.η ?_ ?_|refine sZ r.η ?_ ?_|refine s9 r.η ?_ ?_|refine td r.η ?_ ?_|refine t8 r.η ?_ ?_|refine t7 r.η ?_ ?_|refine qX ?_|refine qY ?_|refine ub r.η ?_ ?_|refine wN r.η ?_ ?_|refine xx ?_)|(refine(?_:JT _ (.UnaryOp _ _ _) _);first|refine qK ?_)|(refine(?_:JT _ (.ϗ _ _ _) _);first|refine aN ?_)|(refine(?_:JT _ _ _);first|refine ti ?_|refine aN ?_))
 |(refine(?_:JS _ _ _);first|(refine(?_:JS _ (.Assign [.Tuple _ _ _] _ _) (tK _ _));refine xy rfl h.nd ?_)|(refine(?_:JS _ (.Assign [.Tuple _ _ _] _ _) (tS _ _ _ _));refine' xm ?_ ?_)|(refine(?_:JS _ (.Expr (.Call (.Attribute _ "clear" _) [] [] _) _) _);refine xl)|(refine(?_:JS _ _ (tS _ _ _ (NG _ _)));first|refine wD ?_)|(refine(?_:JS _ (.Return _ _) _);first|refine ri ?_|exact sS _|refine rk ?_|exact uC _|refine rj ?_|refine v5 ?_)|(refine(?_:JS _ (.If _ _ _ _) _);first|refine rl ?_ ?_ ?_|refine uc ?_ ?_ ?_|refine v4 (vP _ λ_ _=>?_) ?_ ?_|refine wI ?_ ?_ ?_)|(refine(?_:JS _ (.Assign [.Name _ _] (.ListComp _ _ _ _) _) _);first|refine' wx h (L6 (by decide +kernel)) rfl rfl rfl rfl ?_ (L7 h (by decide +kernel) (λ_ _ _ _ _ _ _ h=>?_) (λ_ _ _ _ _ _ _ h=>?_) (λ_ _ _ _ _ _ _ h=>?_)) ?_|refine' wv h (L6 (by decide +kernel)) rfl rfl rfl rfl ?_ (L7 h (by decide +kernel) (λ_ _ _ _ _ _ _ h=>?_) (λ_ _ _ _ _ _ _ h=>?_) (λ_ _ _ _ _ _ _ h=>?_)) ?_|refine' wM h (L6 (by decide +kernel)) rfl rfl rfl rfl (λ_ _=>?_) (L7 h (by decide +kernel) (λ_ _ _ _ _ _ _ h=>?_) (λ_ _ _ _ _ _ _ h=>?_) (λ_ _ _ _ _ _ _ h=>?_)) ?_|refine cE h.nd ?_)|(refine(?_:JS _ (.Ϡ [.ε _ _] _ _) _);first|refine cU h.nd ?_|refine uT _ h.nd ?_|refine rp h.nd rfl (by first|exact Or.S rfl|exact Or.τ rfl) ?_|refine rn h.nd rfl (by first|exact Or.S rfl|exact Or.τ rfl) ?_|refine cE h.nd ?_)|(refine(?_:JS _ (.Ϡ [.δ _ _ _] _ _) _);first|refine cJ T.cb.cof T.cb.cl (by first|exact T.na_axes|exact T.na_standing|exact T.na_tables) ?_ ?_|refine cJ T.cv.cof T.cv.cl (by first|exact T.na_book|exact T.na_steps) ?_ ?_)|(refine(?_:JS _ (.Ϡ _ _ _) _);first|refine cU h.nd ?_|refine ua r.η ?_ ?_|refine wl r.η ?_ ?_ ?_)|(refine(?_:JS _ (.For _ _ _ _ _) _);first|refine' rC PassesOwn.never rfl ?_ ?_ ?_|refine v8 PassesOwn.never rfl ?_ h.nd ?_)|(refine(?_:JS _ (.Expr _ _) _);first|refine rz Ew ?_|refine tq ?_|refine v6 ?_)|(refine(?_:JS _ _ _);first|exact uD|exact vZ))
 |(refine(?_:JB _ _ _);first|exact rh|with_reducible refine YY ?_ ?_|refine YY ?_ ?_|exact vY|with_reducible refine cD ?_ ?_|refine cD ?_ ?_)
 |(refine(?_:JW _ _ _);first|refine qQ ?_ ?_|refine qM ?_|refine qP ?_ ?_|refine qL ?_)
 |(refine(?_:JO _ _ _);first|refine sv ?_|exact su)
 |(refine(?_:JG _ _ _);first|exact uS _ h.nd|refine' rQ rfl ?_)
 |(refine(?_:JI _ _ _ _);first|refine rM (by rfl) (T.n.Ι 11 rfl) ?_|refine rN (by rfl) (T.n.Ι 11 rfl) ?_|refine vn (by rfl) (T.n.Ι 16 rfl) ?_ ?_|refine vJ (by rfl) (T.n.Ι 4 rfl) ?_|refine tm ?_|refine v7 ?_|refine c3 ?_|refine wV (by rfl) (T.n.Ι 16 rfl) ?_ ?_ ?_)
 |(refine(?_:JF _ _ _);first|exact rR|refine rS ?_)
 |(refine(?_:JK _ _ _);first|exact rO|refine' rP ?_ ?_)
 |refine vV ?_
 |refine vU ?_
 |refine bq r.η ?_ ?_
 |rfl
 |exact Fj
 |exact A9 _
 |decide)
theorem ZsB:OF P w K mg base 1 "is_whole" (AN K G6):=Bt ["thing"] (T.f.Ι 0 rfl) (by trivial)
theorem ZuQ:OF P w K mg base 1 "is_word" (AN K IX):=Bt ["thing"] (T.f.Ι 1 rfl) (by trivial)
theorem ZsT:OF P w K mg base 1 "whole_of" (AN K Mc):=Bt ["ladder"] (T.f.Ι 9 rfl) (by trivial)
theorem ZuH:OF P w K mg base 1 "line_at" (AN K F9):=Bt ["line","level"] (T.f.Ι 10 rfl) (by trivial)
theorem ZxN:OF P w K mg base 1 "finest" (AN K NQ):=Bt ["ladders"] (T.f.Ι 19 rfl) (by trivial)
theorem ZpJ:OF P w K mg base 1 "with_level" (AN K P1):=Bt mj (T.f.Ι 21 rfl) (by trivial)
theorem ZpN:OM P w K mg base d.2 Bm 1 "grain" (AN K JQ):=KJ ["self"] (T.v.Ι 1 rfl) (by trivial)
theorem ni:OM P w K mg base d.2 Bm 1 "picks" (AN K NR):=KJ ["self"] (T.v.Ι 2 rfl) (by trivial)
theorem Zux:OF P w K mg base 1 "cell_of" (AN K P2):=Bt ["amounts"] (T.f.Ι 29 rfl) (by trivial)
theorem Zxr:OF P w K mg base 1 "merged" (AN K NS):=Bt ["one","other"] (T.f.Ι 30 rfl) (by trivial)
theorem Zpv:OF P w K mg base 1 "goes_along" (AN K KR):=Bt ["ways","key"] (T.f.Ι 32 rfl) (by trivial)
theorem Zvq:OF P w K mg base 1 "put_in" (CV K TL):=NE mC (T.f.Ι 38 rfl) (by trivial)
theorem Zsy:OF P w K mg base 1 "take_out" (CV K TN):=NE mD (T.f.Ι 39 rfl) (by trivial)
theorem na:OM P w K mg base d.1 Bm 1 "ladders" (AN K NU):=KJ ["self"] (T.m.Ι 1 rfl) (by trivial)
theorem ZrV:OM P w K mg base d.1 Bm 1 "kept" (AN K TU):=KJ ["self"] (T.m.Ι 2 rfl) (by trivial)
theorem Zom:OF P w K mg base 1 "_law_cell_at" (AN K Z8):=Bt mR (T.f.Ι 50 rfl) (by trivial)
theorem ZpA:OF P w K mg base 1 "_law_stream" (AN K Md):=Bt (mS.ψ ["_law_number","_law_some","_law_k"]) (T.f.Ι 51 rfl) (by trivial)
theorem ZsH:OF P w K mg base 1 "_law_word" (AN K T0):=Bt (mT.ψ ["_law_signs","_law_word_here","_law_k"]) (T.f.Ι 52 rfl) (by delta dM P6 TZ TY TX;trivial)
theorem ZsI:OF P w K mg base 1 "_law_rank" (AN K P7):=Bt mX (T.f.Ι 57 rfl) (by trivial)
theorem ZxB:OF P w K mg base 1 "_law_up" (AN K P8):=Bt (mY.ψ ["_law_line"]) (T.f.Ι 58 rfl) (by trivial)
theorem ZnJ:OF P w K mg base 1 "_law_cell_of" (AN K P9):=Bt ["_law_amounts","_law_some"] (T.f.Ι 61 rfl) (by trivial)
theorem ZqJ:OF P w K mg base 1 "_law_grain" (AN K T4):=Bt (m4.ψ ["_law_levels","_law_k","_law_ladder_here"]) (T.f.Ι 63 rfl) (by trivial)
theorem ZmT:OF P w K mg base 1 "_law_is_table" (AN K T6):=Bt ["_law_found","_law_one"] (T.f.Ι 64 rfl) (by trivial)
theorem ZqC:OF P w K mg base 1 "_law_whole" (AN K dP):=Bt ["_law_found"] (T.f.Ι 69 rfl) (by trivial)
theorem ZsJ:OF P w K mg base 2 "is_value" (AN K Me):=Bt ["thing"] (T.f.Ι 2 rfl) (by trivial)
theorem ZpE:OF P w K mg base 2 "value_rank" (AN K Qc):=Bt ["thing"] (T.f.Ι 3 rfl) (by trivial)
theorem Zz7:OF P w K mg base 2 "lifts" (AN K Qd):=Bt l6 (T.f.Ι 12 rfl) (by trivial)
theorem Zuz:OF P w K mg base 2 "is_axis" (AN K Qe):=Bt l9 (T.f.Ι 15 rfl) (by trivial)
theorem ZsE:OF P w K mg base 2 "is_level" (AN K Qf):=Bt md (T.f.Ι 17 rfl) (by trivial)
theorem ZsC:OF P w K mg base 2 "coarsest" (AN K Qg):=Bt ["ladders"] (T.f.Ι 20 rfl) (by trivial)
theorem Zso:OF P w K mg base 2 "asked_of" (AN K Qh):=Bt (ms.ψ ["asked","line"]) (T.f.Ι 26 rfl) (by trivial)
theorem ZnF:OF P w K mg base 2 "picked_lifts" (AN K Qi):=Bt mI (T.f.Ι 44 rfl) (by trivial)
theorem Zru:OF P w K mg base 2 "_law_value" (AN K Mg):=Bt (mU.ψ ["_law_number","_law_word_here","_law_letters","_law_at","_law_two"]) (T.f.Ι 53 rfl) (by trivial)
theorem ZuZ:OF P w K mg base 2 "_law_row" (AN K Uz):=Bt (mW.ψ ["_law_s","_law_spot","_law_amount"]) (T.f.Ι 56 rfl) (by trivial)
theorem Zpw:OF P w K mg base 2 "_law_key_at" (AN K UB):=Bt mZ (T.f.Ι 59 rfl) (by trivial)
theorem Znj:OF P w K mg base 2 "_law_key_rank" (AN K Qm):=Bt ["_law_spot"] (T.f.Ι 60 rfl) (by trivial)
theorem Zmh:OF P w K mg base 2 "_law_of_picked" (AN K UF):=Bt (m7.ψ ["_law_found","_law_spot","_law_amount","_law_good","_law_axis","_law_level","_law_value_here"]) (T.f.Ι 67 rfl) (by trivial)
theorem nb:OF P w K mg base 3 "key_rank" (AN K Mh):=Bt ["key"] (T.f.Ι 4 rfl) (by trivial)
theorem ZuI:OF P w K mg base 3 "is_line" (AN K UJ):=Bt ["thing"] (T.f.Ι 6 rfl) (by trivial)
theorem Zr8:OF P w K mg base 3 "ladder_on" (AN K Qo):=Bt ma (T.f.Ι 16 rfl) (by trivial)
theorem ZsA:OF P w K mg base 3 "is_grain" (AN K N3):=Bt mf (T.f.Ι 18 rfl) (by trivial)
theorem Zqm:OM P w K mg base d.2 Bm 3 "__init__" (CV K Qq):=KN ["self","book"] (T.v.Ι 0 rfl) (by trivial)
theorem Zuh:OF P w K mg base 3 "is_pick" (AN K Mi):=Bt ml (T.f.Ι 22 rfl) (by trivial)
theorem Zsq:OF P w K mg base 3 "apart_on" (AN K US):=Bt (mu.ψ ["asked","firsts","line","first"]) (T.f.Ι 27 rfl) (by trivial)
theorem Zuu:OF P w K mg base 3 "ways_up" (AN K Qu):=Bt mw (T.f.Ι 31 rfl) (by trivial)
theorem Zpz:OF P w K mg base 3 "_law_ladder" (AN K Qw):=Bt (mV.ψ ["_law_s","_law_widths","_law_j","_law_lines","_law_k","_law_at","_law_line","_law_near"]) (T.f.Ι 54 rfl) (by trivial)
theorem ZsS:OF P w K mg base 3 "_law_rows" (AN K UW):=Bt (m6.ψ ["_law_head","_law_cells"]) (T.f.Ι 66 rfl) (by trivial)
theorem ZoG:OF P w K mg base 4 "go_together" (AN K Qz):=Bt ["lines","seen","finest_seen","line","level","value","later"] (T.f.Ι 7 rfl) (by trivial)
theorem ZqN:OM P w K mg base d.2 Bm 4 "roll" (CV K U0):=KN ["self","axis","ladder","level"] (T.v.Ι 5 rfl) (by trivial)
theorem Zsu:OF P w K mg base 4 "is_picks" (AN K N6):=Bt mo (T.f.Ι 23 rfl) (by trivial)
theorem Zss:OF P w K mg base 4 "row_rank" (AN K QA):=Bt ["row"] (T.f.Ι 37 rfl) (by trivial)
theorem Zob:OF P w K mg base 4 "_law_ladders" (AN K U5):=Bt ["_law_script","_law_cell","_law_ladders_here","_law_k","_law_s"] (T.f.Ι 55 rfl) (by trivial)
theorem Zra:OF P w K mg base 5 "is_ladder" (AN K U7):=Bt ["thing"] (T.f.Ι 8 rfl) (by trivial)
theorem ZqF:OF P w K mg base 5 "_law_table" (AN K Va):=Bt (m3.ψ ["_law_amounts","_law_spot","_law_amount","_law_far"]) (T.f.Ι 62 rfl) (by trivial)
theorem ng:OF P w K mg base 6 "in_order" (AN K N8):=Bt ["keys","told","key"] (T.f.Ι 5 rfl) (by trivial)
theorem Zoq:OF P w K mg base 6 "are_ladders" (AN K Ve):=Bt ["thing"] (T.f.Ι 49 rfl) (by trivial)
theorem Zlf:OF P w K mg base 7 "values_in_order" (AN K Oa):=Bt ["values"] (T.f.Ι 11 rfl) (by trivial)
theorem Znu:OF P w K mg base 7 "merged_along" (AN K Ob):=Bt ["ways","table","cells","key","cell","there"] (T.f.Ι 33 rfl) (by trivial)
theorem ZmN:OF P w K mg base 7 "keys_changed" (AN K QC):=Bt (mG.ψ ["cells_ahead","cells_behind","keys"]) (T.f.Ι 42 rfl) (by trivial)
theorem ZuJ:OF P w K mg base 8 "beneath" (AN K Vp):=Bt l7 (T.f.Ι 13 rfl) (by trivial)
theorem Zvt:OF P w K mg base 8 "picked" (AN K QD):=Bt (mq.ψ ["lines","pick","among"]) (T.f.Ι 24 rfl) (by trivial)
theorem ZsG:OF P w K mg base 8 "table_of" (AN K QE):=Bt (my.ψ ["single"]) (T.f.Ι 34 rfl) (by trivial)
theorem ZmD:OF P w K mg base 8 "cells_changed" (AN K Vy):=Bt (mH.ψ ["changed","grain"]) (T.f.Ι 43 rfl) (by trivial)
theorem Zoj:OF P w K mg base 9 "is_value_at" (AN K Od):=Bt l8 (T.f.Ι 14 rfl) (by trivial)
theorem ZiW:OF P w K mg base 9 "picked_everywhere" (AN K ZO):=Bt mr (T.f.Ι 25 rfl) (by trivial)
theorem Zqp:OF P w K mg base 9 "tables_at" (AN K QG):=Bt mF (T.f.Ι 41 rfl) (by trivial)
theorem ZrT:OM P w K mg base d.1 Bm 9 "keep" (CV K Of):=KN ["self","grain"] (T.m.Ι 4 rfl) (by trivial)
theorem Zpt:OM P w K mg base d.2 Bm 10 "drill" (CV K VN):=KN (mk.ψ ["ladder","level","picks"]) (T.v.Ι 4 rfl) (by trivial)
theorem Zys:OF P w K mg base 10 "apart" (AN K Ml):=Bt (mv.ψ ["chosen","axis","ladder","two"]) (T.f.Ι 28 rfl) (by trivial)
theorem Zl9:OF P w K mg base 10 "is_finest_key" (AN K VR):=Bt mz (T.f.Ι 35 rfl) (by trivial)
theorem Zoa:OF P w K mg base 10 "picked_ways" (AN K QI):=Bt (mJ.ψ ["chosen"]) (T.f.Ι 45 rfl) (by trivial)
theorem ZqO:OM P w K mg base d.1 Bm 10 "__init__" (CV K QK):=KN mN (T.m.Ι 0 rfl) (by trivial)
theorem Zg8:OM P w K mg base d.1 Bm 10 "tables_renewed" (CV K VW):=KN ["self","ahead"] (T.m.Ι 7 rfl) (by trivial)
theorem Zqr:OF P w K mg base 11 "is_change" (AN K VY):=Bt mB (T.f.Ι 36 rfl) (by trivial)
theorem ZBe:OF P w K mg base 11 "read" (AN K V0):=Bt mK (T.f.Ι 46 rfl) (by trivial)
theorem Znm:OF P w K mg base 11 "cells_picked" (AN K V3):=Bt (mL.ψ ["ways"]) (T.f.Ι 47 rfl) (by trivial)
theorem Zst:OF P w K mg base 11 "_law_step" (CV K Wf):=NE (m8.ψ ["_law_levels","_law_picks","_law_s","_law_axis","_law_whole_here","_law_value_here"]) (T.f.Ι 68 rfl) (by trivial)
theorem Zv0:OF P w K mg base 12 "poured" (CV K Wh):=NE (mE.ψ ["standing","change"]) (T.f.Ι 40 rfl) (by trivial)
theorem ZpD:OF P w K mg base 12 "cells_read" (AN K Wj):=Bt mM (T.f.Ι 48 rfl) (by trivial)
theorem Zqt:OM P w K mg base d.1 Bm 13 "pour" (CV K Wl):=KN mO (T.m.Ι 3 rfl) (by trivial)
theorem ZrC:OM P w K mg base d.1 Bm 13 "plan" (AN K Wn):=KJ (mP.ψ ["best","kept","cells"]) (T.m.Ι 5 rfl) (by trivial)
theorem nj:OM P w K mg base d.1 Bm 14 "answer" (AN K Wp):=KJ (mQ.ψ ["kept"]) (T.m.Ι 6 rfl) (by trivial)
theorem ZsL:OF P w K mg base 14 "_law_book" (CV K Wr):=NE (m5.ψ ["_law_book_here","_law_grain_here"]) (T.f.Ι 65 rfl) (by trivial)
theorem nk:OM P w K mg base d.2 Bm 15 "cells" (AN K QN):=KJ ["self"] (T.v.Ι 3 rfl) (by trivial)
theorem ZsF:OF P w K mg base 16 "_law_told" (AN K Oi):=Bt (m9.ψ ["_law_levels","_law_picks","_law_grain_here","_law_told_here","_law_found","_law_due"]) (T.f.Ι 70 rfl) (by trivial)
theorem ZDP{fn:Ac}{fd:Cj}(D:DI K mg "law" (A3 104) ["_law_script"] fn fd):AW P w K mg base Bm 17 fn fd ["_law_script"] (CV K i0):=cM ["_law_script","_law_ladders_here","_law_rows_here","_law_cell","_law_grains","_law_book_here","_law_view","_law_beside","_law_first","_law_state","_law_one"] D (by delta QR WD WC WB WA Wz Wx Ww Wv Wu QP;trivial)
end
end
def
fin{l:PySem.W.OpenLaw}{w:Ai}{K:Am}{h:Ak}{mg:BE}{b:Ac}(_:K.In h)(a:mg "law"=Z (.C b)):(∃d,Tx K mg d)->∃fd:Cj,(∀(s:Ab)(v:Aa),BindsTo s fd #[[v],[]] [("_law_script",v)])/\∀base:Ak,K.In base->base.Ns CJ mg->AW l.γ w K mg base Bm 17 b fd ["_law_script"] (MW K):=
 λ⟨_,T⟩=>let⟨_,_,D⟩:=T.f.Ι 71 rfl;wr a D (λ_=>ZDP T D) (λns _=>Zyf ns) λ_ _ _ _ _ _ _=>rfl
def
walk{l:PySem.W.OpenLaw}{q:AR}{b:U Ae}{i:(BE)->Ak->V'}{e:Ai->Ak->V'}{d:DefRec}{K:Params->Am}(j:l.most=Z 63)(c:d.ϯ.defaults=[])
  (m:∀(w:Ai) (h:Ak),e w h->(K w.ϯ).In h)
  (F:∀(w:Ai) (mg:BE) (g:Ac) (h:Ak),(K w.ϯ).In h->h.Ns CJ mg->mg d.name=Z (.C g) ->
   ∃fd:Cj,(∀(s:Ab) (u:Aa),BindsTo s fd #[[u],[]] [("_law_script",u)])/\∀base:Ak,(K w.ϯ).In base->base.Ns CJ mg->AW l.γ w (K w.ϯ) mg base Bm 17 g fd ["_law_script"] (MW (K w.ϯ))):
  PySem.W.WalkO q b i e l.row.toRowW d [] (λf vs=>PySem.call f vs):=
 Internal.walk_of (n:=63) (k:=17) (x:="_law_script") (CX:=λ_=>Bm) (sp:=λw=>MW (K w.ϯ)) j (by ext) c #[rfl,by ext,by ext] m F (λ_ _ a ns o _ p=>#[a,ns,rfl,p,o,λ_=>rfl]) λ_ _ _ _ _ z=>z
end Internal.K70
variable{acc:U Internal.K70.A7}{ls:Internal.K70.BB}
end
structure PySem.W.Fast:Prop where(tw3973721036900017703 tw16407240257121583802 tw14192097736093529869 tw8798396294731182665 tw8204230954044536782 tw16915494476724328206 tw7549121377360488095 tw8382519073604527236 tw666363838531180628 tw3962640186574929915 tw8087706315105522170 tw7354471525748656879 tw354288345117871268 tw8747151537956603067 tw5661745308182465855 tw18266823115773560805 tw14765563808454249151 tw7259960522634795510 tw16260351206481475407 tw16499808568247360578 tw5925197407203465749 tw12788025234050800815 tw2947989988693659136 tw13543796937362019072 tw4316157238594113982 tw8482199195390620118 tw15355843938497361757 tw7717319432198992211 tw15941537154521482151 tw14014392798783273231 tw3497913690632141743 tw11506074562418617129 tw17510401892097570296 tw13502987824637882823 tw7997621774412316164 tw2442347435334419610 tw8072584354188884266 tw3744344439854954801 tw3254330965787566639 tw16491295311356971727 tw5454879441228831456 tw15981435741907281211 tw2418594337799753007 tw15097719188583488849 tw10892350684038341786 tw14013654893194661518 tw14913848459419917303 tw11923422375691971062 tw741534319715365824 tw3176530874382801944 tw14895626657884025246 tw6412964856606717173 tw12635152087117818854 tw7062845185595459748 tw6791790073073418099 tw9996940384080792924 tw13417682365201363120 tw1462084719004202943 tw12589566894545479424 tw14991023298553328493 tw10743190634708993035 tw8174040798481898560 tw17715445833056491040 tw8505880226560468282 tw2418230846674839066 tw12492092991350206504 tw3502302833860876159 tw5555538925060784160 tw345077199198284706 tw11528526597643163186 tw6703100349232305553 tw1731149815697745882 tw17275899351667412022 tw12790582645002495587 tw565318065099711877 tw15635390930006662854 tw7591701629499036058 tw14259420754967427045 tw5025513458357767642 tw1657759968099223955 tw3697833638759205236 tw15876601973190950126 tw1956600092646662334 tw16143090793406490031 tw18204044423193945333 tw16229510491421729254 tw13848630089672600548 tw12648144195834988903 tw14780339812477511463 tw14416922912724661497 tw11574054189578189631 tw15965397907712202373 tw14561826398655527665 tw9357520728833739952 tw6760061425096784724 tw813414044326274698 tw12850062067358259811 tw4808648627815923648 tw10419273602235869193 tw7798695502292488953 tw764182405093372701 tw10926210612068230496 tw7960296392020498266 tw17090397102516669536 tw13524052667032780337 tw12132726076485891610 tw6547298866310391727 tw18381086419299512582 tw8414401307797345559 tw15135154018450376953 tw17415412202394490110 tw3438528443653008487 tw16772734967755953763 tw4781483976657556264 tw12457148792605679000 tw9418588529842808094 tw12674246995481992651 tw663296372173137410 tw2851092962472461345 tw16352119953448402493 tw2410231580348930812 tw454940611740661050 tw12624436305073267055 tw11677486765675372377 tw15974199832629923272 tw13911591881965242685 tw14082511347885232173 tw9774385006144988346 tw16334521533300998735 tw6428524145962217541 tw15251126836468484575 tw11048849311187016276 tw15139693133759142680 tw17510391948995055702 tw1133615530522205533 tw6598353649893450815 tw9842512307010964612 tw2183443300896591486 tw6583606630625287097 tw15916093589303513721 tw13592256645180517385 tw15813992973299110792 tw4654752520068298572 tw8226372274279948536 tw11000300882717241172 tw14638809369810326703 tw11210819403058019403 tw11103626745213640733 tw9316060079842662044 tw5647766213003758899 tw889022740101430350 tw1108795482110923477 tw17640716258108040172 tw6595842491534679042 tw9255912677917894108 tw11094001109781591786 tw7767665474976884542 tw12828467350996067067 tw1603976232139902529 tw15119845467902362447 tw1481159868989412892 tw12532647760110169858 tw16646673414777470671 tw15483947338949778024 tw2671012953770836148 tw11938512140667932998 tw9974677258570596670 tw15469702429858311558 tw17546973832423507794 tw16222333948309225817 tw18390107677855321432 tw14732323546322984260 tw4509109647966753538 tw16021906426109528319 tw10220191096563773066 tw9222273356618933597 tw6773514439959661956 tw14784928555172463567 tw15925891643679677102 tw349347327045927277 tw16443602796182065643 tw17086880197289834172 tw10499172502652857204 tw2846474147084726418 tw16793199985499352596 tw1225558304255165049 tw7062046046404323532 tw13406658983337528000 tw7415897197398404129 tw6367412697538198747 tw16186795893586935328 tw10680909476690837423 tw9142423385576165603 tw17411054093903383041 tw3095953621153911871 tw14707122158127787720 tw10167187413947673723 tw11992302785680171661 tw17618665026014823097 tw4433039367989329853 tw4570462442993344949 tw9311013982312671035 tw18388094730917258808 tw11756823919604142728 tw10248127746596881324 tw2955795046011546070 tw9359106736759451085 tw2933533913985806645 tw8598084756487666643 tw8262636656396032960 tw16568790811831150375 tw10582488301474681099 tw17288452657160098728 tw5913151696806222987 tw16496659457071006179 tw13699170712706982048 tw18200840327741800524 tw17400729005892035525 tw5733937204440162129 tw603317542247203126 tw2822906081163779293 tw13579746480251388327 tw9475158312071252303 tw16501827376947315803 tw16494480866457779790 tw13356970266971446757 tw8057992667738431055 tw10932558361378675961 tw5520784384093485751 tw8947621879064644758 tw1567231006023938983 tw2849111194047600350 tw13298164425358165076 tw5047195730935541402 tw924039340492631446 tw16200745574823567962 tw15480020076035137214 tw14862544282011351240 tw5988510123524569592 tw5814630844414262203 tw6682973704885531536 tw15033949012355491324 tw9114573357794984165 tw18369666570450895415 tw13826961793159693205 tw2511864735989233744 tw17356089693997856081 tw11776923923595014061 tw17059940841463619189 tw15249827213425238272 tw14965184941005774162 tw16773033854151384654 tw10312249211568608706 tw9016382147515224070 tw5880448666909204014 tw8520540683467850159 tw17446184662115000455 tw1619935490438381987 tw11848052557472644099 tw7301569021785209124 tw5469489042791047935 tw9730497866168839753 tw15664867878582914968 tw11776130281077803047 tw5584773085656095545 tw17218191111220458207 tw12898349437565790803 tw17137467281817258655 tw3377253285265307311 tw12056731359736539882 tw10805159341222714614 tw8246127449508772303 tw2591523072039939073 tw11008276213740308719 tw674551470303444394 tw17422897905966792033 tw5482123661105512932 tw4168861936095253607 tw2629477449924136729 tw2516429925330252471 tw12934253616896196193 tw10763042226171896930 tw669764499634008651 tw16396363474242711948 tw16003323749464772308 tw12582261241901053802 tw7446491044683523686 tw16136257697084459916 tw12327009351209430818 tw3601425875796339921 tw14290299217897794575 tw13325401066180114804 tw6622739949251282798 tw4390718218880219640 tw14320601672117606158 tw18017787267350329041 tw5580625991010746520 tw5425935151643581460 tw11141091445397789678 tw15930026833001107381 tw10801233237587505727 tw4109898801202757459 tw916674783335547241 tw4111589822032976330 tw12376683953912864775 tw9548565124896104485 tw5011003274511453098 tw13231406973504264198 tw2338021716763601975 tw426462812337925351 tw948030491777553974 tw8223840518426577783 tw5498076219628606548 tw16744129685450078033 tw10937841299222802862 tw7131716883502655705 tw2986847639859056290 tw16576208389637769669 tw2847173062862484375 tw18101752970297944790 tw17188991780858667924 tw13291710073025728843 tw11539142370455402567 tw5654653202622154851 tw5810352926412979899 tw298149400551964106 tw4106796698658751891 tw17873035309779465309 tw15658917951658866456 tw14718489430560549635 tw12014437175237327709 tw7213743767950014419 tw15473623304647545028 tw9049372005302187745 tw17584459123879469152 tw8292662588326708348 tw7668343510124410824 tw3783857383947635376 tw17367395259852489223 tw13296702044059825355 tw12391028598926414283 tw11683958228577054850 tw10730229664805808415 tw8403078217155441869 tw5925953980381672616 tw3040854403972405302 tw17474072144590978203 tw2220567486411308259 tw16571921061742048553 tw9935739605903498972 tw16646202363176586001 tw9265263318528448283 tw17942688687773286934 tw17910439888511139432 tw10036414441256918403 tw690267085144117700 tw6682232757663973354 tw15597989015919581735 tw12891868631615514254 tw5512832660489038543 tw2850544125131032744 tw17772338743051771951 tw17395239543641639566 tw16637931283650365134 tw13127308426363734410 tw1047567503748018905 tw3846869824077236685 tw2423060717108391492 tw11929410832405942348 tw10723727086386854650 tw10240016439148636535 tw588750510906415781 tw1947184017364186235 tw15154533953318400280 tw119839937881704508 tw8930619703484469998 tw673405838232524291 tw5787383859749151193 tw11027764191342715587 tw8392348005097572241 tw827571743483960747 tw7465792447779959476 tw2778412933792914657 tw17002876997080228847 tw13119529635578304655 tw11623382715753320779 tw4117861155162995165 tw6732604441861242775 tw6229218896697843875 tw13903778655352458142 tw11927909520064057914 tw2561143261178945488 tw11631785819399862973 tw761653714985320280 tw1542106042340930598 tw574042432990844581 tw3168752374087783492 tw7186674469350644617 tw1595594887926099870 tw5523309480223914161 tw2334774646226917143 tw9415423441026196692 tw653452322223538705 tw5943648311308205228 tw2411411825129241021 tw8962708337608201977 tw7587755507716748579 tw12610698039781050311 tw7294191508284534132 tw14042061943077622277 tw9385828032819938592 tw15232096180109740059 tw9435546433214306513 tw15044741282109380726 tw6018842411051650191 tw16247663825854347665 tw4843719835005827730 tw4885393628140374429 tw16598481772766775972 tw12166558444175909248 tw4537812898381883247 tw17225287146862772969 tw18102883726934749737 tw13213904553155652203 tw468837746654580125 tw16911189476959235453 tw1560599346469480687 tw8029990765435512963 tw16052210578228114039 tw2866390925907070205 tw5340264001800571047 tw4124662741894580216 tw16125407022598637976 tw8905922714579880848 tw12450573732600542146 tw10966503789996694414 tw9130842391598432902 tw1099628417276620243 tw6292543485120253218 tw8088872508902565632 tw16862928052713872778 tw1725061343572553039 tw4692368848216805481 tw16514361826385717451 tw15293960165550331821 tw16812780023819333978 tw3219134365282722119 tw9591488121042258590 tw7884176375817387730 tw8472879487586421126 tw1168656287298652273 tw1531939299751003643 tw3430492563098784362 tw12501318640297914649 tw16160189172439417408 tw6750907471980131671 tw15253122244404466272 tw9473415262590108229 tw10533320933930636561 tw10315333251320592346 tw9844005219302903872 tw6948747267152791971 tw16465575717641422854 tw6610379072496192379 tw13304076303684796089 tw4470685926115672517 tw4350491019192003640 tw15870856620090111263 tw14751468700306342024 tw13100642429197967838 tw10894964480259189146 tw10312382620153469695 tw18365183495624913641 tw18026353194869141893 tw5465648083879831590 tw4885143213392797234 tw3455424876534932360 tw3296434328283042519 tw3256875910424190569 tw2704991073084150628 tw16906818457386294257 tw1616409191742255094 tw15782515932219848233 tw12891891175343369249 tw2154704936927543564 tw13286889644019177612 tw12677903137585532814 tw3734261276264107845:True)
open PySem PySem.W PyProof.Rows
set_option maxRecDepth 100000 in
set_option maxHeartbeats 0 in
theorem PySem.Challenge.cw_cubebook_k70_drilled_and_rolled_holds : PySem.Challenge.rw_cubebook_k70_drilled_and_rolled.Holds := by
 w_on;o_law;k_head;(case hw=>w_witness2)
 k_fill
 refine Internal.K70.walk (l:=PySem.Challenge.rw_cubebook_k70_drilled_and_rolled) rfl rfl (fun w h Y=>PySem.W.kIn_of Y) ?F
 case F =>
  intro w mg fa h KX G hmg
  open Internal in refine' Internal.K70.fin KX hmg ⟨(_,_),⟨Internal.ci KX G ?_ ?_ ?_ ?_ ?_ ?_ ?_,Internal.ci KX G ?_ ?_ ?_ ?_ ?_ ?_ ?_,?_,?_,?_,?_,?_,?_,?_,?_,?_,?_⟩⟩
  open Internal in repeat (any_goals (show Internal.All _ _;first | exact True.intro | refine' ⟨⟨_,_,Internal.di KX G ?_ ?_ ?_ ?_⟩,?_⟩ | refine' ⟨⟨_,_,Internal.mi ?_ ?_ ?_ ?_ ?_⟩,?_⟩ | refine' ⟨mg_none_of KX G ?_,?_⟩ | refine' ⟨⟨_,mg_of KX G ?_,⟨_,rfl⟩⟩,?_⟩ | refine' ⟨⟨_,mg_of KX G ?_,?_⟩,?_⟩ | refine' ⟨⟨_,?_,Internal.mk_of ?_ ?_,⟨?_,?_,?_,?_,?_,?_,⟨_,?_⟩⟩,Internal.kit_V ?_,⟨_,?_,Internal.exm_of ?_ ?_ ?_ ?_⟩,?_⟩,?_⟩ | refine' ⟨⟨_,?_,?_⟩,?_⟩))
  all_goals try (show (_:Prop);first | k_is | rfl | k_exc | exact Internal.kit_self | (refine' Internal.kit_ne ?_ ?_ ?_ ?_<;>first | k_is | rfl))
#print axioms PySem.Challenge.cw_cubebook_k70_drilled_and_rolled_holds
