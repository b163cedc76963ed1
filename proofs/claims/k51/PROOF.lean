import PyProof.Rows.All
import Wide.All
import OpenK.AllK
import Wide.FinOn
import Lean
import PyProof.EqAt
import PyProof.EqKinds
import PyProof.TupleCall
import PyProof.TupleKey
import PyProof.DictRoadsH
import Wide.Seal
import PyProof.NeKinds
import PyProof.ZipIter
import PyProof.EnumMake
import PyProof.Rows.TupTab
import KE.KDictLaws
import PyProof.AutoListH
import PyProof.AttrMissHeap
import KE.KDictOf
import KE.KIntText
import PyProof.StrBlockL
import PyProof.StrLawsChain
import PyProof.FString
import PyProof.Rows.FStr
import OpenK.KOwn
import KE.KIsAll
import KE.KDictList
import PyProof.Draws
import PySem.Challenge.RW_cubebook_k51_refused_pours
import PyProof.MeetsSeq
open PySem.W renaming Frag→Ap,keepIn→IY,findIn→J7,instObj→Lu,fnOf→Kb,emptyDict→Oj,callWith_K→Uu
open PySem renaming wpAny_bind→Ao,sizeLine→AE,Spec→Qah,wpAny_pure→A0,starEach→AQ,Program→AN,mainGlobals→BZ,wpAny_mono→Cs,FuncData→Cm,wpAny_loadPart'→E7,foldedSetIterable→Fg,bootBuiltins→Em,compareOp→Du,wpAny_field→Ed,swapsWith→DR,wpAny_setField_rec→IE,behindInMarks→Gr,wpAny_holding→Gv,wpAny_callSpecial?_slot→MR,attributeBase→Hr,wpAny_truthy_bool→J6,wpAny_newObj_type→Ke,mem_of_lookup→LJ,wpAny_rule→F5,assignEach→Gu,codeAny_builtin→Kl,holding→EN,keywordEach→Ht,wpAny_call_entry→LL,wpAny_Call_Name_kw→MO,Keyword→E5,tupleKind_room_in1→Nh,sysModules→Hn,Builtin→Fl,sizeLine_eq→IX,binaryOp→GS,wpAny_execs_cons→N6,codeAny_mono→LH,backToKw→Hs,NameKind→Hu,wpAny_getItem_str_slice→UF,plainId_quiet→MY,DictEntry→IU,wpAny_typeNameOfWhole_keyiter→eQ,wpAny_pyIter_list→QG,wpAny_loadPart_at→RF,wpAny_typeOf→MS,wpAny_setField→Pf,codeAny_call_builtin→Vv,swapsWithSole→N9,swappedStores→Oa,wpAny_attempt→Pc,wpAny_passesOwn→QI
open PySem.Heap renaming get?_push_of_some→By,get?_push_size→Cq,lt_size→BB,SameBut→En,get?_update_other→MV,get?_update_self→MU,size_push→LC
open List renaming mem_cons_of_mem→Bv,mem_cons_self→Bo,length_map→Bg,map_cons→Bf,getElem?_eq_getElem→CG,mem_map→Bm,size_toArray→B3,getElem?_eq_some_iff→Dk,range→Bl,mem_cons→BJ,mem_singleton→CC,length_cons→Cr,mem_append_right→Dv,mem_append→Cz,replicate→Ct,map_map→B4,append_nil→C6,all_eq_true→Dp,append_assoc→DV,getElem?_map→D9,nil_append→DP,getElem?_set_ne→E2,map_nil→Dn,zipWith→DA,getElem?_append_left→Hw,mem_range→Ex,getElem?_cons_succ→HH,length_append→F4,getElem?_set_self→Ho,getElem?_append_right→IZ,getElem?_cons_zero→IN,take_of_length_le→Il,cons_append→F9,drop_eq_getElem_cons→Kk,map_append→Gc,range'→EJ,take_append_drop→Jv,not_mem_nil→G6,getElem?_replicate→J9,extract→Ft,pairwise_append→Jt,getElem_mem→HE,replicate_succ→JH,perm_append_comm→KC,mem_append_left→J5,mem_of_getElem?→Ka,nodup_cons→Hv,all_cons→G0,length_nil→Ii,pairwise_singleton→Nt,getElem?_append→LZ,range'_succ→JQ,range_eq_range'→Mw,zipWith_cons_cons→NU,replicate_zero→Mz,length_replicate→MP,contains_iff_mem→NE,zip_cons_cons→LO,set_cons_succ→MA,set_cons_zero→MB,ext_getElem?→LX,nodup_append→L3,drop_eq_nil_of_le→Oq,getD→GB,pairwise_iff_getElem→Rx,foldl_cons→Md,length_eq_zero_iff→Ra,drop_zero→M4,mem_flatMap→Qi,filterMap_cons→QA,mem_map_of_mem→TL,of_mem_zip→Om,getElem?_drop→QR,mem_filter→N4,length_singleton→UA,all_map→M7,length_filter_le→YI,mem_iff_getElem→Vi
open Nat renaming le_refl→A4,lt_of_lt_of_le→BY,le_trans→Bu,ne_of_lt→Ci,lt_of_le_of_lt→Ee,zero_lt_of_lt→Ej,lt_of_add_right_lt→G4,sub_one_lt_of_lt→G8,le_of_ble_eq_true→Ip,lt_or_ge→EW,lt_of_succ_lt→G7,le_of_not_lt→GX,lt_of_le_of_ne→Iv,le_of_lt→FH,le_add_right→HJ,zero_le→Fi,eq_of_le_of_lt_succ→Mc,lt_of_sub_eq_succ→LP,add_le_add_iff_left→Nu,le_sub_one_of_lt→Mb,reduceAdd→HV,one_le_iff_ne_zero→Nw,le_of_succ_le→KA,le_succ_of_le→KH,lt_of_lt_of_eq→LK,lt_irrefl→HZ,sub_one_lt_of_le→Nv,ne_of_gt→Ia,le_add_right_of_le→Op,zero_add→Iy,lt_of_not_le→Nm,lt_trans→Kj,add_lt_of_lt_sub'→Rs,reduceSub→My,le_of_lt_succ→O1,le_antisymm→Pa,not_lt→Kh,add_sub_of_le→QS,add_comm→MW,sub_zero→M5,succ_le_succ→QP,add_assoc→Pb
open Option renaming bind_eq_some_iff→B8,map_eq_some_iff→B2,bind→Eg,map→Fd,map_some→LN,isSome_iff_exists→bf
open PyProof.Rows renaming wpS_bind→A3,wpS_pure→Bk,callWith_type1→Oe,pendingOf→GA,SortKind→Gd,wpS_forRange→Ma,failedOf→HM,setPending→KN,listUpdate_at→Pe
open Bool renaming and_eq_true→C9,false_eq_true→FQ,and_self→Hd,false_ne_true→N1,not_eq_true'→Pg
open False renaming elim→BV
open PySem.Value renaming ref→Cp,none→Gp,type→J2
open Array renaming toList_push→EV,toList_extract→Iu,toList_append→Ju,size_map→Iw,length_toList→Lw,toList_inj→KD,getElem?_eq_some_iff→RK,getElem?_toList→OB,getD→Jr,toList_reverse→Rz,getElem?_eq_getElem→er
open Ne renaming symm→Cj
open Option.some renaming inj→Gs
open ForInStep renaming yield→GV,done→KI
open Break.runK renaming match_1→Js
open Int renaming emod_lt_of_pos→JR,emod_nonneg→IM,toNat_natCast→KP,natCast_pos→NQ,toNat_of_nonneg→TB,natCast_nonneg→Sa,zero_le_ofNat→Tt,lt_of_not_ge→QO
open PySem.Obj renaming data_mapFields→KO,mapSeq→F6,isFreed_of_fields→RJ
open PySem.Paired renaming length→Hm
open PySem.Builtin.Str renaming occurrences→Og
open PySem.Heap.SameBut renaming update→Nj
open PySem.NameKind renaming free→Ki
open PySem.F renaming plainAttrs_list→Q0,slot_enumerate_next→VH,slot_dict_setdefault→dz,args_tuple_add_2→ck,entry_tuple_add→cj,slot_dict_keyiterator_next→v5
open Classical renaming propDecidable→Q5
open True renaming intro→Ie
open PySem.Str renaming ofString→Kc
open List.Perm renaming append_left→Ry
open PySem.Builtin.Slice renaming slicePlaces→Uw,sliceAdjust→bj
open LawfulBEq renaming eq_of_beq→Ix
open PySem.Builtin.List renaming listTooLong→Uz
open List.cons renaming injEq→Rm
open PySem.Builtin.SmallTypes renaming nextOf→fq
open PySem.Calls renaming call_function_entry→fB
open PySem renaming Value→Aa,Shared→Ab,Addr→Ac,Str→Ae,model→Af,Around→Ag,World→Ai,Heap→Al,eval→As,cLine→Aw,Stmt→Ay,Pos→Az,backTo→AF,rawInt→AO,Builtin→Be,Sem→BI,call_meets→BW,sliceBounds→B0
open PyProof.Rows renaming SortSt→Ah,Keyed→An,envOfC→A7,elem'→BC
open Pure renaming pure→Am
open PySem.W renaming Frag→AA,nsIn→BF
open Option renaming some→Z,none→J
open Bool renaming true→J',false→O'
abbrev U:=@List
abbrev O:=@Option
set_option Elab.async false
set_option linter.all false
set_option backward.eqns.nonrecursive false
set_option tactic.hygienic false
set_option maxHeartbeats 4000000
set_option maxRecDepth 100000
abbrev AV:=PySem.Value->PySem.Shared->Prop
abbrev CT(x:PySem.Str):Prop:=(x==("__debug__":PySem.Str))=O'
abbrev A1:=U (PySem.Addr×PySem.Obj)
abbrev Bt:=PySem.Str->O PySem.Value
theorem ZV{b:Type}{c:Prop}[Decidable c]{a:O b}{r:b}(h:(if c then a else J)=Z r):c/\a=Z r:=by
 split at h
 ·exact⟨‹_›,h⟩
 ·cases h
noncomputable section
set_option bootstrap.genMatcherCode false
set_option genSizeOf false
set_option genSizeOfSpec false
set_option compiler.extract_closed false
set_option bootstrap.genMatcherCode false
set_option genSizeOf false
set_option genSizeOfSpec false
open List renaming toArray->T'
local macro_rules|`(#[$a,*])=>`(⟨$a,*⟩)
local macro_rules|`(tactic|erw[$[$t:term],*]$[$l]?)=>`(tactic|simp only[$[$t:term],*]$[$l]?)
local macro_rules|`(tactic|ext)=>`(tactic|decide)
local macro_rules|`(tactic|let$d:letDecl)=>`(tactic|have$d:letDecl)
theorem zX1{A}{p:A->Prop}{G:Prop}(h:∃a,p a)(k:∀a,p a->G):G:=by obtain⟨a,h⟩:=h;exact k _ h
theorem zX2{A B}{p:A->B->Prop}{G:Prop}(h:∃a b,p a b)(k:∀a b,p a b->G):G:=by obtain⟨a,b,h⟩:=h;exact k _ _ h
theorem zX3{A B C}{p:A->B->C->Prop}{G:Prop}(h:∃a b c,p a b c)(k:∀a b c,p a b c->G):G:=by obtain⟨a,b,c,h⟩:=h;exact k _ _ _ h
theorem zX4{A B C D}{p:A->B->C->D->Prop}{G:Prop}(h:∃a b c d,p a b c d)(k:∀a b c d,p a b c d->G):G:=by obtain⟨a,b,c,d,h⟩:=h;exact k _ _ _ _ h
theorem zX5{A B C D E}{p:A->B->C->D->E->Prop}{G:Prop}(h:∃a b c d e,p a b c d e)(k:∀a b c d e,p a b c d e->G):G:=by obtain⟨a,b,c,d,e,h⟩:=h;exact k _ _ _ _ _ h
theorem zX6{A B C D E F}{p:A->B->C->D->E->F->Prop}{G:Prop}(h:∃a b c d e f,p a b c d e f)(k:∀a b c d e f,p a b c d e f->G):G:=by obtain⟨a,b,c,d,e,f,h⟩:=h;exact k _ _ _ _ _ _ h
theorem zX7{A B C D E F I}{p:A->B->C->D->E->F->I->Prop}{G:Prop}(h:∃a b c d e f i,p a b c d e f i)(k:∀a b c d e f i,p a b c d e f i->G):G:=by obtain⟨a,b,c,d,e,f,i,h⟩:=h;exact k _ _ _ _ _ _ _ h
theorem zN2{a b G:Prop}(h:a∧b)(k:a->b->G):G:=k h.1 h.2
theorem zN3{a b c G:Prop}(h:a∧b∧c)(k:a->b->c->G):G:=k h.1 h.2.1 h.2.2
theorem zN4{a b c d G:Prop}(h:a∧b∧c∧d)(k:a->b->c->d->G):G:=k h.1 h.2.1 h.2.2.1 h.2.2.2
theorem zN5{a b c d e G:Prop}(h:a∧b∧c∧d∧e)(k:a->b->c->d->e->G):G:=k h.1 h.2.1 h.2.2.1 h.2.2.2.1 h.2.2.2.2
theorem zN6{a b c d e f G:Prop}(h:a∧b∧c∧d∧e∧f)(k:a->b->c->d->e->f->G):G:=k h.1 h.2.1 h.2.2.1 h.2.2.2.1 h.2.2.2.2.1 h.2.2.2.2.2
theorem zN7{a b c d e f i G:Prop}(h:a∧b∧c∧d∧e∧f∧i)(k:a->b->c->d->e->f->i->G):G:=k h.1 h.2.1 h.2.2.1 h.2.2.2.1 h.2.2.2.2.1 h.2.2.2.2.2.1 h.2.2.2.2.2.2
theorem zN8{a b c d e f i j G:Prop}(h:a∧b∧c∧d∧e∧f∧i∧j)(k:a->b->c->d->e->f->i->j->G):G:=k h.1 h.2.1 h.2.2.1 h.2.2.2.1 h.2.2.2.2.1 h.2.2.2.2.2.1 h.2.2.2.2.2.2.1 h.2.2.2.2.2.2.2
theorem zN9{a b c d e f i j l G:Prop}(h:a∧b∧c∧d∧e∧f∧i∧j∧l)(k:a->b->c->d->e->f->i->j->l->G):G:=k h.1 h.2.1 h.2.2.1 h.2.2.2.1 h.2.2.2.2.1 h.2.2.2.2.2.1 h.2.2.2.2.2.2.1 h.2.2.2.2.2.2.2.1 h.2.2.2.2.2.2.2.2
open Lean Parser Tactic in def dZ'(n:Nat)(xs:Array Term)(e:Term)(fs:Array (TSyntax `tactic)):Nat->TSyntax `tactic->MacroM (TSyntax `tactic)|0,a=>return a|k+1,a=>do let m:=n-1-k;let f:=λ(s:String)(i:Nat)=>mkIdent (.mkSimple (s++toString i));let z:=mkIdent `zZ;let y←`(λ $(xs.extract m n)* =>?_);let t←(if m=0 then `($(f "zN" n) ($e :) $y) else if k=0 then `($(f "zX" m) ($e :) λ $xs* =>?_) else `($(f "zX" m) ($e :) λ $(xs.extract 0 m)* $z=>$(f "zN" (k+1)) $z $y));let b←dZ' n xs e fs k a;let c←`(tactic|try clear $z);`(tactic|first|(refine $t;$c;$[$fs]*)|$b:tactic)
local macro_rules|`(tactic|let($a,$b,*):=$e)=>do let cs:=(Array.mk [a])++b.getElems;let (xs,fs)←cs.foldlM (λ (xs,fs) c=>do let z:=Lean.mkIdent (.mkSimple (toString e.1.getId++"z"++toString xs.size));match c with|`(rfl)=>return (xs.push z.1,fs.push (←`(tactic|subst $z)))|`(($a,$b,*))=>return (xs.push z.1,fs.push (←`(tactic|let($a,$b,*):=$z)))|_=>return (xs.push c.1,fs)) ((Array.mk []:Array Lean.Syntax),(Array.mk []:Array (Lean.TSyntax `tactic)));let ps←xs.mapM λx=>if x.isIdent then`(Lean.Parser.Tactic.rcasesPatLo|$(⟨x⟩):ident)else`(Lean.Parser.Tactic.rcasesPatLo|_);let r←`(tactic|(obtain⟨$ps,*⟩:=$e;$[$fs]*));if (e.1.find? λs=>s.isOfKind ``Lean.Parser.Term.syntheticHole).isSome||e.1.isIdent&&cs.any λc=>(c.1.find? λs=>s.getId==e.1.getId).isSome then return r else let d←`(tactic|try clear $(⟨if e.1.isIdent then e else Lean.mkIdent `zZ⟩));dZ' cs.size (xs.map (⟨·⟩)) e ((Array.mk [d])++fs) cs.size r
local macro_rules|`(∅)=>`(by lia)
local macro_rules|`(tactic|apply$e)=>if e.raw.isOfKind ``Lean.Parser.Term.paren then Lean.Macro.throwUnsupported else`(tactic|refine $e)
local macro_rules|`(tactic|show$e)=>`(tactic|exact $e)
local macro_rules|`(tactic|exists$e)=>`(tactic|simpa using $e)
local macro_rules|`(tactic|symm)=>`(tactic|decide +kernel)
local macro_rules|`(command|open J in$c)=>`(command|set_option tactic.hygienic true in $c)
set_option Elab.async false in theorem ù(_:0=0:=by rfl)(_:0=0:=by ext)(_:0=0:=by first|show .U rfl|show .φ rfl)(_:0=0:=by first|show .U rfl|show .φ rfl|assumption)(_:0=0:=by first|show .inl rfl|show .inr rfl)(_:0=0:=by first|show .inl rfl|show .inr rfl|assumption)(_:0=0:=by intro _;rfl)(_:0=0:=by show E6)(_:0=0:=by show Fn)(_:0=0:=by show KQ)(_:0=0:=by show UJ)(_:0=0:=by show Z9 rfl)(_:0=0:=by show fU)(_:0=0:=by show λ_ _=>rfl)(_:0=0:=by symm)(_:0=0:=by with_unfolding_all rfl):0=0:=rfl
local macro_rules|`(↑$x)=>`(autoParam $x ù._auto_1)
local macro_rules|`(⇑$x)=>`(autoParam $x ù._auto_2)
local macro_rules|`(↥($x:term:$n:num))=>`(autoParam $x $(Lean.mkIdent (.str `ù s!"_auto_{n.getNat}")))
open Lean Parser Term in def dN(f:Bool):Name->Name|.str p s=>let u:=if s.length>2 then s else match " a=length j=map o=size r=heap u=int B=val C=ref E=toArray G=env I=trans J=toList L=bind O=objs Q=tup R=get? S=lookup U=inl X=lst Y=prog α=next β=getD γ=Name δ=same ε=type ζ=toNat η=Attribute θ=extract ι=elim κ=units μ=Nodup ν=mono ξ=builtin ρ=names σ=base τ=own υ=isSome φ=inr χ=refl ψ=Subscript ω=str Α=extBut Β=none Γ=symm Δ=scope Ε=non Ζ=toks Η=append Θ=drop Ι=push Κ=Compare Λ=locals Μ=contains Ν=free Ξ=ListComp Ο=cons Ρ=setIfInBounds Τ=fresh Υ=cell Φ=Call Χ=set Ψ=stack Ω=isEmpty ϊ=fields ϋ=length_eq ό=get ύ=isList ώ=fail Ϗ=foldl ϐ=local ϑ=of_same ϒ=take ϓ=eraseIdxIfInBounds ϔ=BoolOp ϕ=done ϖ=deeper ϗ=tuple Ϙ=step ϙ=reverse Ϛ=mpr ϛ=eraseIdx Ϝ=cel ϝ=all Ϟ=Constant ϟ=typeIs Ϡ=slot ϡ=handled Ϣ=filter ϣ=cells Ϥ=bool ϥ=Assign Ϧ=nil ϧ=hok Ϩ=list ϩ=line Ϫ=mem_iff ϫ=kind Ϭ=append_right ϭ=FunFrames Ϯ=ret ϯ=dat ϰ=update ϱ=cps ϲ=kept ϳ=Pairwise ϴ=frames ϵ=excBase_ValueError ϶=len Ϸ=calm ϸ=slot_list_getattribute Ϲ=seq Ϻ=slot_list_append jk=data oo=params xv=frame v0=from gV=UpToSlots g7=outer h6=function h9=dropLast ".splitOn (" "++s++"=") with|[_,r]=>(r.splitOn " ").headD s|_=>s;if p.isAnonymous then .str p (if f then u else s) else .str (dN f p) u|n=>n
open Lean Parser Term in def dS(f:Bool):Nat->Syntax->Option Syntax|0,_=>none|n+1,x=>match x with|.ident i r v _=>if !f&&v.isAtomic then(match v with|`I=>some (mkIdent ``Nat)|`W'=>some (mkIdent ``Int)|`V'=>some (Lean.mkNode ``prop (Array.mk [Lean.mkAtom "Prop"]))|`q'=>some (mkIdent ``Bool)|_=>none)else let w:=dN f v;if w==v then none else some (.ident i r w [])|_=>let k:=x.getKind;if k==``proj then match dS f n x[0],dS true n x[2] with|none,none=>none|a,b=>some ((x.setArg 0 (a.getD x[0])).setArg 2 (b.getD x[2]))else if k==``dotIdent then(dS true n x[1]).map (x.setArg 1)else if k==``explicit then(dS f n x[1]).map (x.setArg 1)else if k==``app then(dS f n x[0]).map (x.setArg 0)else none
local macro_rules(kind:=ident)|x=>match dS false 9 x with|some y=>return y|_=>Lean.Macro.throwUnsupported
local macro_rules(kind:=Lean.Parser.Term.proj)|x=>match dS false 9 x with|some y=>return y|_=>Lean.Macro.throwUnsupported
local macro_rules(kind:=Lean.Parser.Term.dotIdent)|x=>match dS false 9 x with|some y=>return y|_=>Lean.Macro.throwUnsupported
local macro_rules(kind:=Lean.Parser.Term.app)|x=>match dS false 9 x with|some y=>return y|_=>Lean.Macro.throwUnsupported
local macro_rules(kind:=Lean.Parser.Command.variable)|x=>match x[0].getHeadInfo with|.original _ _ t _=>if t.isEmpty then Lean.Macro.throwUnsupported else do return Lean.mkNullNode (Array.mk [←`(section),x.setArg 0 (Lean.mkAtom "variable")])|_=>Lean.Macro.throwUnsupported
local macro_rules|`(tactic|ext$x:rintroPat)=>match x.raw.find? (·.isIdent) with|some i=>let i:Lean.Ident:=.mk i;`(tactic|cases $i:ident)|_=>Lean.Macro.throwUnsupported
local macro_rules(kind:=Lean.Parser.Command.declaration)|x=>do let d:=x[1];let u:=match d[0].getHeadInfo with|.original _ _ t _=>if d.isOfKind ``Lean.Parser.Command.definition then(t.toString.splitOn "\n").length-1 else 0|_=>0;let x:=if 0<u then x.setArg 1 (Lean.mkNode ``Lean.Parser.Command.theorem (Array.mk [Lean.mkAtom "theorem",d[1],Lean.mkNode ``Lean.Parser.Command.declSig (Array.mk [d[2][0],d[2][1][0]]),d[3]]))else x;let q←`(command|@[simp]def a:=1);let x:=if 1<u then x.setArg 0 (x[0].setArg 1 q.raw[0][1]) else x;let c:=(x[1].isOfKind ``Lean.Parser.Command.definition||x[1].isOfKind ``Lean.Parser.Command.abbrev)&&x[0][4].isNone&&(x[0][1].find? (·.isOfKind ``Lean.Parser.Attr.macro)).isNone;let y:=if c then x.setArg 0 (x[0].setArg 4 (Lean.mkNullNode (Array.mk [Lean.mkNode ``Lean.Parser.Command.noncomputable (Array.mk [Lean.mkAtom "noncomputable"])])))else x;match x.getHeadInfo with|.original ..=>return y.setHeadInfo .none|_=>if c||0<u then return y else Lean.Macro.throwUnsupported
variable{å ç p2 pos pos':Az}{C a:Ac}{elts es ifs:U PySem.Expr}{E:AV}{Q:Unit->Ab->V'}{u:Aa}{gs:U (U I)}{j t':I}{φ φ1:I->Ac}{elt iter o tg:PySem.Expr}{ps:U Ae}{ß:A1}{pl:BI q'}{R:PySem.Result->Ab->V'}{sc scope:PySem.Scope}{ws:U I}{s':Ab}{g':Array PySem.GenState}{κ:Gd}{RR:Aa->Ac->PySem.Result->Ab->V'}{isA:I->Aa->V'}{ch:U Ac}{B:Aa->BI PySem.Fin}{dd:O Ac}{d':PySem.Drawn}{tn:I->Al->V'}{pm:Array I}
namespace Internal
open PySem PySem.Spec PyProof.Rows
inductive V where
 |non|bl (b:q')|int (i:W')|str (x:Ae)|ref (a:Ac)|ty (n:String)
 deriving DecidableEq
variable{vs ys:U V}
def RelV:V->Aa->V'
 |.non,u=>u=Gp
 |.bl b,u=>u=Value.Ϥ b
 |.int i,u=>∃t,u=Value.u i t
 |.str x,u=>∃t,u=Value.ω x t
 |.ref a,u=>u=Cp a
 |.ty n,u=>u=J2 n
abbrev Aq:U V->U Aa->V':=Paired RelV
def
Aq.length{xs:U V}{us:U Aa}(r:Aq xs us):xs.a=us.a:=Hm r
def
Aq.get:∀{xs:U V}{us:U Aa}{i:I}{x:V},Aq xs us->xs[i]?=Z x->∃u,us[i]?=Z u/\RelV x u
 |_,_,_,_,.nil,e=>by simp at e
 |_,_,0,_,.cons r _,e=>by simp at e;subst e;show#[_,rfl,r]
 |_,_,i+1,x,.cons _ t,e=>by
  let(u,a,b):=Aq.ό (i:=i) (x:=x) t (by exists e);show#[u,by simpa using a,b]
def
Aq.set{x:V}{u:Aa}(r:RelV x u):∀{xs:U V}{us:U Aa}(i:I),Aq xs us->Aq (xs.Χ i x) (us.Χ i u)
 |_,_,_,.nil=>.Ϧ
 |_,_,0,.cons _ t=>.Ο r t
 |_,_,i+1,.cons q t=>.Ο q<|Aq.Χ r i t
def
Aq.append{xs:U V}{us ws:U Aa}(h:Aq xs us)(s:Aq ys ws):Aq (xs++ys) (us++ws):=by
 induction h with
 |nil=>show s
 |cons r _ a=>show .Ο r a
def
Aq.take:∀{xs:U V}{us:U Aa}(n:I),Aq xs us->Aq (xs.ϒ n) (us.ϒ n)
 |_,_,0,_=>.Ϧ
 |_,_,_+1,.nil=>.Ϧ
 |_,_,n+1,.cons r t=>.Ο r<|Aq.ϒ n t
def
Aq.drop:∀{xs:U V}{us:U Aa}(n:I),Aq xs us->Aq (xs.Θ n) (us.Θ n)
 |_,_,0,r=>r
 |_,_,_+1,.nil=>.Ϧ
 |_,_,n+1,.cons _ t=>Aq.Θ n t
def CU:O V->O Aa->V'
 |some v,Z u=>RelV v u
 |none,J=>True
 |_,_=>False
inductive At where
 |non|int (i:W')|str (x:Ae)
 deriving DecidableEq
variable{us:U (U At×Ac×Aa)}
def J3:At->Aa->q'
 |.non,.none=>J'
 |.int k,v=>Value.isInt k v
 |.str x,v=>Value.isStrOf x v
 |_,_=>O'
def Ue(w:Ai):At->W'
 |.non=>reduceHash 4238894112
 |.int k=>hashInt k
 |.str x=>hashStr w x
def
J4:∀{k:At}{v:Aa},J3 k v=J'->(k=.Ε/\v=.Β)\/(∃i t,k=.u i/\v=Value.u i t)\/(∃x t,k=.ω x/\v=Value.ω x t)
 |.non,v,h=>by ext v<;>first|show .U ⟨rfl,rfl⟩|show absurd h N1
 |.int i,v,h=>by let(t,e):=Value.isInt_shape (k:=i) (v:=v) h;show .φ<|.U ⟨i,t,rfl,e⟩
 |.str x,v,h=>by let(t,e):=Value.isStrOf_shape (x:=x) (v:=v) h;show .φ<|.φ ⟨x,t,rfl,e⟩
def
nO(i:W')(t:Tok):J3 (.u i) (.u i t)=J':=by simp[J3,Value.isInt]
def
nP(x:Ae)(t:Tok):J3 (.ω x) (.ω x t)=J':=by simp[J3,Value.isStrOf]
def
nQ{prog:AN}{w:Ai}{A:Ag}{s:Ab}{Q:W'->Ab->V'}(h:Q (reduceHash 4238894112) {s with toks:=s.Ζ+1}):wpAny (Af prog w) A (PySem.pyHash .Β) Q E s:=PySem.W.pyHash_slot (T:="NoneType") rfl F.slot_NoneType_hash F.entry_NoneType_hash (F.args_NoneType_hash_1 _) (beq_builtin_none _) (.U rfl) (Ao<|A0<|Ao<|wpAny_mkInt<|A0 ⟨_,_,rfl,h⟩)
def
nR(a b:W'):decide ((At.u a)=.u b)=(a==b):=by
 grind
def
nS(a b:Ae):decide ((At.ω a)=.ω b)=decide (a=b):=by
 simp_all
def ZH(prog:AN)(w:Ai):PySem.KeyKind prog w At where
 is:=J3
 hash:=Ue w
 inj:=λv a b d f=>by
  rcases J4 d with⟨rfl,rfl⟩|⟨i,t,rfl,rfl⟩|⟨x,t,rfl,rfl⟩<;>rcases J4 f with⟨rfl,e⟩|⟨j,u,rfl,e⟩|⟨y,u,rfl,e⟩ <;>
   first|rfl|(ext e;done)|(ext e;rfl)
 byValue:=λk v h=>by
  rcases J4 h with⟨rfl,rfl⟩|⟨i,t,rfl,rfl⟩|⟨x,t,rfl,rfl⟩<;>rfl
 pyHash:=λc h=>by
  rcases J4 c with⟨rfl,rfl⟩|⟨i,t,rfl,rfl⟩|⟨x,t,rfl,rfl⟩
  .show nQ h
  .show wpAny_pyHash_int h
  .show wpAny_pyHash_str h
 eqBool:=λg c h=>by
  rcases J4 g with⟨rfl,rfl⟩|⟨i,t,rfl,rfl⟩|⟨x,t,rfl,rfl⟩<;>rcases J4 c with⟨rfl,rfl⟩|⟨j,u,rfl,rfl⟩|⟨y,u,rfl,rfl⟩
  .show SeqAt.EqAt.δ Gp _ _ _ _ h
  .show SeqAt.EqAt.none_int j u _ _ _ _ h
  .show SeqAt.EqAt.none_str y u _ _ _ _ h
  .show SeqAt.EqAt.int_none i t _ _ _ _ h
  .rw[nR]at h;show wpAny_eqBool_int h
  .show SeqAt.EqAt.int_str i t y u _ _ _ _ h
  .show SeqAt.EqAt.str_none x t _ _ _ _ h
  .show SeqAt.EqAt.str_int x t j u _ _ _ _ h
  .rw[nS]at h;show wpAny_eqBool_str h
 «strs»:=λk x t v h=>by
  rcases J4 h with⟨rfl,e⟩|⟨i,u,rfl,e⟩|⟨y,u,rfl,e⟩
  .show nomatch e
  .show nomatch e
  .injection e with l _
   subst l
   ext v<;>rfl
inductive KT where
 |at(a:At)|tup (l:List At)
 deriving DecidableEq
def KT.hash(w:Ai):KT->W'
 |.at a=>Ue w a
 |.tup l=>reduceHash (Builtin.Tuple.tupleHashOf (l.j (Ue w)))
def GQ:At->V
 |.non=>.Ε
 |.int i=>.u i
 |.str x=>.ω x
def nT:KT->V->V'
 |.at a,v=>v=GQ a
 |.tup _,v=>∃p,v=.C p
def Lr(w:Ai):U KT->U V->U IU->V'
 |[],a,b=>a=[]/\b=[]
 |k::c,a,b=>∃kv v r e t,a=kv::v::r/\b=e::t/\RelV kv e.key/\RelV v e.B/\e.hash=k.hash w/\nT k kv/\Lr w c r t
set_option genInjectivity false in
inductive HO where
 |lst (xs:List V)
 |tup (xs:List V)
 |dct (ks:List KT) (vs:List V)
 |ins (C dx:Ac) (fs:List (Ae×V))
 |own (x:Ac)
 |xd (fs:List (Ae×V))
 |met (f x:Ac)
 |rng (lo hi:W')
 |frz (o:Obj) (u:HO)
 |tbl (ps:Array Aa)
 |ext (φ:Al->V')
abbrev Hp:=Ac->O HO
variable{H' H0 H1:Hp}
def AX(H:Hp)(a:Ac)(o:HO):Hp:=λb=>if b=a then Z o else H b
def
Z5{H:Hp}{o:HO}:AX H a o a=Z o:=by grind [AX]
def
Zr{H:Hp}{b:Ac}{o:HO}(h:b≠a):AX H a o b=H b:=by grind [AX]
def
nU{H:Hp}{o u:HO}:AX (AX H a o) a u=AX H a u:=by
 funext b;unfold AX;split<;>rfl
def
ZY{H:Hp}{b:Ac}{o:HO}(h:H a=Z o)(h':H b=J):a≠b:=by
 grind
section
variable(P:AN)(w:Ai)
def A9(P:AN)(w:Ai)(H:Hp)(h:Al)(a:Ac):HO->V'
 |.lst d=>d.a<=AE/\∃(b:U Aa) (n:I),Aq d b/\h.R a=Z {cls:=.ε "list",data:=.Ϲ b.E n}
 |.tup d=>d.a<=AE/\∃b:U Aa,Aq d b/\IsTup h a b.E
 |.dct i p=>i.a<=AE/\(a==Hn)=O'/\i.μ/\∃o k q,h.R a=Z o/\o.ExactDict/\o.jk=.dict k q/\Lr w i p k.J
 |.ins C g e=>H g=Z (.τ a)/\e.a<=1000/\g≠a/\h.R a=Z (Lu C g) /\
   ∃c,h.Ns1 g c/\(∀f,CU (e.S f) (c f))/\PySem.Within c (e.j (·.1))
 |.own _=>∃o,h.R a=Z o
 |.xd e=>∃c,h.Ns1 a c/\∀f,CU (e.S f) (c f)
 |.rng lo r=>∃t u v,h.R a=Z {cls:=.ε "range",data:=.ϊ (T' [.u lo t,.u r u,.u 1 v])}
 |.frz o u=>h.R a=Z o/\A9 P w H h a u
 |.tbl s=>h.R a=Z {cls:=.Β,data:=.ϊ s}
 |.met f x=>h.R a=Z (PySem.W.methodObj (.C f) (.C x))
 |.ext j=>j h/\(∃o,h.R a=Z o)/\∀l m:Al,j l->(∀o,l.R a=Z o->m.R a=Z o)->j m
def Cu(H:Hp)(h:Al):V':=∀a o,H a=Z o->A9 P w H h a o
end
variable {P:AN}{w:Ai}{H:Hp}{h h':Al}{o:HO}
def
A9.lt(x:A9 P w H h a o):a<h.O.o:=by
 cases o with
 |lst b=>let(_,_,_,_,e):=x;show BB e
 |tup b=>let(_,_,_,p):=x;show p.lt
 |dct d g=>let(_,_,_,o,_,_,e,_):=x;show BB e
 |ins C i c=>let(_,_,_,e,_):=x;show BB e
 |own y=>let(_,e):=x;show BB e
 |xd c=>let(_,(_,_,_,e,_),_):=x;show BB e
 |rng lo j=>let(_,_,_,e):=x;show BB e
 |frz ob u=>let(e,_):=x;show BB e
 |tbl k=>show BB (show h.R a=Z _ from x)
 |met f y=>show BB (show h.R a=Z _ from x)
 |ext l=>let(_,(_,e),_):=x;show BB e
def
Paired.mapP{e g:Type}{F G:e->g->V'}{c:U e}{d:U g}(h:Paired F c d)(f:∀a b,F a b->G a b):Paired G c d:=by
 induction h with
 |nil=>show .Ϧ
 |cons r _ i=>show .Ο (f _ _ r) i
def
A9.stay(x:A9 P w H h a o)(k:∀b u,(b=a\/H b=Z (.τ a))->h.R b=Z u->h'.R b=Z u) (A:∀b,H b=Z (.τ a)->H' b=Z (.τ a)) (Q:∀b xs,H b=Z (.Q xs)->H' b=Z (.Q xs)):A9 P w H' h' a o:=by
 induction o with
 |lst xs=>let(z,g,n,r,e):=x;show#[z,g,n,r,k _ _ (.U rfl) e]
 |tup xs=>let(z,g,r,ob,e,c):=x;show#[z,g,r,ob,k _ _ (.U rfl) e,c]
 |dct F L=>let(z,y,n,ob,i,j,e,c):=x;show#[z,y,n,ob,i,j,k _ _ (.U rfl) e,c]
 |ins C M B=>
  let(d,z,ne,e,l,(m,i,j,E,c),r):=x;show#[A _ d,z,ne,k _ _ (.U rfl) e,l,#[m,i,j,k _ _ (.φ d) E,c],r]
 |own y=>let(ob,e):=x;show#[ob,k _ _ (.U rfl) e]
 |xd B=>let(l,(m,i,j,e,c),r):=x;show#[l,#[m,i,j,k _ _ (.U rfl) e,c],r]
 |rng lo N=>let(t,u,v,e):=x;show#[t,u,v,k _ _ (.U rfl) e]
 |frz ob u G=>let(e,q):=x;show#[k _ _ (.U rfl) e,G q]
 |tbl s=>
  let e:h.R a=Z {cls:=.Β,data:=.ϊ s}:=x;change h'.R a=Z {cls:=.Β,data:=.ϊ s}
  grind
 |met f y=>
  let e:h.R a=Z (PySem.W.methodObj (.C f)<|.C y):=x;change h'.R a=Z (PySem.W.methodObj (.C f)<|.C y)
  simp_all
 |ext K=>let(p,(o,e),st):=x;show#[st _ _ p λo q=>k _ _ (.U rfl) q,#[o,k _ _ (.U rfl) e],st]
def
Cu.lt(x:Cu P w H h)(e:H a=Z o):a<h.O.o:=(x a o e).lt
def
Cu.fresh(x:Cu P w H h)(e:h.O.o<=a):H a=J:=by
 cases q:H a with
 |none=>rfl
 |some u=>show absurd (BY (x.lt q) e)<|HZ _
def
Cu.kept(x:Cu P w H h)(k:∀b u,h.R b=Z u->h'.R b=Z u):Cu P w H h':=λa o e=>(x a o e).stay (λb u _ q=>k b u q) (λ_ q=>q) λ_ _ q=>q
def
Cu.laid(x:Cu P w H h)(k:∀b u,h.R b=Z u->h'.R b=Z u)(d:h.O.o<=a)(new:A9 P w (AX H a o) h' a o):Cu P w (AX H a o) h':=λb u e=>by
 by_cases f:b=a
 .subst f;rw[Z5]at e;ext e;show new
 .rw[Zr f]at e;show(x b u e).stay (λc v _ q=>k c v q) (λc q=>Zr (ZY q<|x.fresh d) ▸ q) λc g q=>Zr (ZY q<|x.Τ d) ▸ q
end
def Rd(H:Hp)(a:Ac)(u:HO):V':=H a=Z u\/∃o,H a=Z (.frz o u)
def
Rd.ok{P:AN}{w:Ai}{H:Hp}{h:Al}{u:HO}(r:Rd H a u)(x:Cu P w H h):A9 P w H h a u:=by
 rcases r with r|⟨o,r⟩
 .show x a u r
 .let(_,q):=x a _ r;show q
def N3:O HO->V'
 |some (.lst _)=>True
 |some (.dct _ _)=>True
 |some (.ins _ _ _)=>True
 |some (.ext _)=>True
 |_=>False
variable {P:AN}{w:Ai}{H:Hp}{h h':Al}{x e:Ac}{o':HO}
def
Cu.write(ok:Cu P w H h)(d:N3 (H x))(j:e=x\/H e=Z (.τ x))(k:∀b u,b≠e->h.R b=Z u->h'.R b=Z u)(i:∃u,h'.R e=Z u) (new:A9 P w (AX H x o') h' x o'):Cu P w (AX H x o') h':=λb u q=>by
 by_cases f:b=x
 .subst f;rw[Z5]at q;ext q;show new
 .rw[Zr f]at q;by_cases a:b=e
  .let l:H b=Z (.τ x):=by
    rcases j with z|z
    .show absurd (a.I z) f
    .rw[a];show z
   rw[q]at l;ext l;let(v,n):=i;show#[v,a ▸ n]
  .refine(ok b u q).stay (λc v g r=>k c v ?_ r) (λc r=>by rw[Zr<|(λc y r z=>by subst z;rw[r]at d;show d) c b r];show r) λc m r=>by rw[Zr<|(λc m r z=>by subst z;rw[r]at d;show d) c m r];show r
   rcases g with rfl|g
   .show a
   .rintro rfl;rcases j with z|z
    .show(λc y r z=>by subst z;rw[r]at d;show d) c b g z
    .rw[g]at z;ext z;show f rfl
end
structure Un(fs ex:List Ac)(H H':Hp)(h h':Al):V' where
 keep:∀b o,h.R b=Z o->H b=J->b∉fs->b∉ex->h'.R b=Z o
 slot:∀b o,h.R b=Z o->H b=J->b∈fs->b∉ex->∃sl,h'.R b=Z {o with slots:=sl}
 free:∀b o,h.R b=Z o->H b=J->b∉ex->H' b=J
 there:∀b o,h.R b=Z o->b∉ex->∃o',h'.R b=Z o'
 tups:∀b xs,H b=Z (.Q xs)->H' b=Z (.Q xs)
 frzs:∀b o u,H b=Z (.frz o u)->H' b=Z (.frz o u)
 tbls:∀b ps,H b=Z (.tbl ps)->∃more,H' b=Z (.tbl (ps++more))
variable {fs ex:U Ac}{H:Hp}{h h1 h':Al}{x e:Ac}{o:HO}
def
Un.any(u:Un fs ex H H1 h h1){b:Ac}{ob:Obj}(q:h.R b=Z ob)(n:H b=J)(a:b∉ex):∃d,h1.R b=Z {ob with slots:=d}:=by
 by_cases c:b∈fs
 .show u.Ϡ b ob q n c a
 .show#[ob.slots,u.keep b ob q n c a]
def
Un.kept(k:∀b u,h.R b=Z u->h'.R b=Z u):Un fs ex H H h h':=#[λb ob q _ _ _=>k b ob q,λb ob q _ _ _=>#[ob.slots,k b ob q],λ_ _ _ n _=>n,λb ob q _=>#[ob,k b ob q],λ_ _ q=>q,λ_ _ _ q=>q,λ_ a q=>#[(T' []),by rw[q];simp]]
def
Un.refl:Un fs ex H H h h:=Un.ϲ λ_ _ q=>q
def
Un.laid(k:∀b u,h.R b=Z u->h'.R b=Z u)(d:h.O.o<=a)(c:H a=J):Un fs ex H (AX H a o) h h' where
 keep:=λb u q _ _ _=>k b u q;slot:=λb u q _ _ _=>#[u.slots,k b u q];free:=λb u q n _=>Zr (Ci<|BY (BB q) d) ▸ n;there:=λb u q _=>#[u,k b u q];tups:=λb e q=>Zr (ZY q c) ▸ q;frzs:=λb u e q=>Zr (ZY q c) ▸ q;tbls:=λb f q=>#[(T' []),by rw[Zr<|ZY q c,q];simp]
def
Un.write(a:N3 (H x))(l:e=x\/H e=Z (.τ x))(k:∀b u,b≠e->h.R b=Z u->h'.R b=Z u)(f:∃u,h'.R e=Z u):Un fs ex H (AX H x o) h h':=by
 let g:∀b,H b=J->b≠x:=λb n z=>by subst z;rw[n]at a;show a
 let d:∀b,H b=J->b≠e:=λb n z=>by
  simp_all
 let c:∀b u,H b=Z u->¬ N3 (Z u)->b≠x:=λb u q i z=>by subst z;rw[q]at a;show i a
 apply#[λb u q n _ _=>k b u (d b n) q,λb u q n _ _=>#[u.slots,k b u (d b n) q],λb u q n _=>Zr (g b n) ▸ n,λb u q _=>?_,
  λb j q=>Zr (c b _ q λz=>z) ▸ q,λb u j q=>Zr (c b _ q λz=>z) ▸ q,λb m q=>#[(T' []),by rw[Zr<|c b _ q λz=>z,q];simp]]
 grind
end
def Qz(h:Al)(H:Hp):U Ac:=(Bl h.O.o).Ϣ λa=>(H a).υ
def Lv(h:Al)(H:Hp):Al:=PySem.W.hideAll h (Qz h H)
def
nV(h:Al)(H:Hp):(Lv h H).O.o=h.O.o:=PySem.W.hideAll_size _ _
def
ag{h:Al}{H:Hp}{b:Ac}{o:Obj}(e:h.R b=Z o)(n:H b=J):(Lv h H).R b=Z o:=PySem.W.hideAll_get _ e λa=>by
  let q:(H b).υ=J':=(N4.mp a).2;simp_all
def
nW{h:Al}{H:Hp}{b:Ac}{o:Obj}(e:(Lv h H).R b=Z o):h.R b=Z o/\H b=J:=by
 apply#[(PySem.W.of_hideAll (Qz h H) e),?_];cases q:H b with|none=>rfl|some x=>
  let z:(Lv h H).R b=J:=PySem.W.hideAll_none (Qz h H)<|N4.Ϛ ⟨Ex.Ϛ<|BB<|PySem.W.of_hideAll (Qz h H) e,by simp[q]⟩;simp_all
def nX(g h:Al)(L:Ac):A1:=(Bl h.O.o).filterMap λa=>if a=L\/(g.R a).υ=J' then J else(h.R a).j λo=>(a,o)
def AD(g h:Al)(L d:Ac):A1:=(nX g h L).Ϣ λp=>decide (p.1≠d)
structure Mod(K:Ap)(mg:Bt)(base:Al):V' where
 kin:K.In base
 glob:base.Ns BZ mg
 blt:∃mb,base.Ns builtinsNs mb/\∀x:Ae,x≠"__name__"->mb x=Em x
 nolimit:base.NoLimit
set_option genInjectivity false in
structure Cx where
 prog:AN
 w:Ai
 K:Ap
 mg:Bt
 base:Al
 A:Ag
 N:List Ae
 s₀:Ab
 H₀:Hp
 env:Env
 outer:List Env
 stack:List Env
 ex:List Ac
 fn:Ae->q'
 calm:q'
 pn:A1
 xe:AV
variable{X Y:Cx}
def Cy(l:U Env):U Ac:=l.filterMap (·.xv)
abbrev Cx.fs(X:Cx):U Ac:=Cy X.g7
def N5(a:Scope)(x:Ae):V':=a.ρ.S x=Z .ϐ\/a.ρ.S x=Z .Υ\/a.ρ.S x=Z .Ν
def Loc(a:Scope)(x:Ae):V':=a.ρ.S x=Z .ϐ\/a.ρ.S x=Z .Υ
def nY(env:Env)(h:Al)(m:Bt)(x:Ae)(u:Aa):V':=
 (env.kindOf x=Z .ϐ/\m x=Z u)\/((env.kindOf x=Z .Υ\/env.kindOf x=Z .Ν)/\∃c,env.ϣ.S x=Z c/\h.IsCell c (Z u))
structure Cx.Ok(X:Cx):V' where
 mod:Mod X.K X.mg X.σ
 kind:X.G.Δ.ϫ=.h6
 glob:X.G.globals=BZ
 blt:X.G.builtins=builtinsNs
 above:X.s₀.r.O.o<=X.G.Λ
 inj:∀x y c,X.G.ϣ.S x=Z c->X.G.ϣ.S y=Z c->x=y
 has:∀x,(X.G.kindOf x=Z .Υ\/X.G.kindOf x=Z .Ν)->∃c,X.G.ϣ.S x=Z c
 cab:∀x c,X.fn x=J'->X.G.ϣ.S x=Z c->X.s₀.r.O.o<=c
 hd:X.Ϸ=J'->X.A.ϡ=J
 frames:X.A.ϴ=Z X.Ψ
 stk:X.Ψ=X.g7\/(X.Ψ=X.G::X.g7/\X.G.xv=Z X.G.Λ)
 exf:∀b∈X.ex,b≠X.G.Λ/\∀x c,X.G.ϣ.S x=Z c->c≠b
 bs:∀b o,X.σ.R b=Z o->X.s₀.r.R b=Z o/\X.H₀ b=J
 bsz:X.σ.O.o<=X.s₀.r.O.o
 noex:∀b o,X.σ.R b=Z o->b∉X.ex
 exfs:∀b∈X.ex,b∉X.fs
 funs:X.s₀.r.ϭ X.σ X.g7
 frf:∀b∈X.fs,X.H₀ b=J
structure Inv(X:Cx)(ß:A1)(Y':List (Option V))(H:Hp)(s:Ab):V' where
 ok:X.Ok
 os:s.os=X.s₀.os
 bare:AllBare s.gens
 base:Un X.fs X.ex X.H₀ H X.s₀.r s.r
 loc:∃m,s.r.Ns X.G.Λ m/\∀(i:I) (x:Ae) (v:V),X.N[i]?=Z x->Y'[i]?=Z (Z v)->N5 X.G.Δ x->∃u,RelV v u/\nY X.G s.r m x u
 cell:∀x c,X.G.ϣ.S x=Z c->∃v,s.r.IsCell c v
 free:H X.G.Λ=J
 freeC:∀x c,X.G.ϣ.S x=Z c->H c=J
 pin:∀p∈X.pn++ß,s.r.R p.1=Z p.2/\H p.1=J/\p.1≠X.G.Λ/\p.1∉X.fs/\∀v,p.2.jk≠.Υ v
 hok:Cu X.Y X.w H s.r
 len:Y'.a=X.N.a
variable {Y':U (O V)}{H:Hp}{s:Ab}{h':Al}
def
Cx.Ok.nofr(ok:X.Ok){b:Ac}{o:Obj}(e:X.σ.R b=Z o):b∉X.fs:=λa=>by
 have:=(ok.funs.mem a).1;simp_all
def
Inv.bs(a:Inv X ß Y' H s):∀b o,X.σ.R b=Z o->s.r.R b=Z o/\H b=J:=λb o e=>#[a.σ.keep b o (a.ok.bs b o e).1 (a.ok.bs b o e).2 (a.ok.nofr e)<|a.ok.noex b o e,a.σ.Ν b o (a.ok.bs b o e).1 (a.ok.bs b o e).2<|a.ok.noex b o e]
def
Inv.bk(a:Inv X ß Y' H s):∀b o,X.σ.R b=Z o->s.r.R b=Z o:=λb o e=>(a.bs b o e).1
def
Inv.mod(a:Inv X ß Y' H s):Mod X.K X.mg X.σ:=a.ok.mod
def
Inv.kIn(a:Inv X ß Y' H s):X.K.In s.r:=a.ok.mod.kin.keeps a.bk
def
Inv.lt(b:Inv X ß Y' H s):X.G.Λ<s.r.O.o:=let⟨_,a,_⟩:=b.loc;a.lt
def
Inv.sz(a:Inv X ß Y' H s):X.s₀.r.O.o<=s.r.O.o:=Bu a.ok.above<|FH a.lt
def
Inv.nofs(d:Inv X ß Y' H s)(h:s.r.O.o<=a):a∉X.fs:=λb=>by
 let(_,o,c,_):=d.ok.funs.mem b;show absurd (BY (BB c)<|Bu d.sz h)<|HZ _
def
Inv.cne(i:Inv X ß Y' H s):∀x c,X.G.ϣ.S x=Z c->c≠X.G.Λ:=λx c e z=>by
 let(v,o,d,hd):=i.Υ x c e;let(m,(f,g,h,a,b,_),_):=i.loc;simp_all
def
Inv.funs(n:Inv X ß Y' H s):s.r.ϭ X.σ X.g7:=by
 let all:∀(l:U Env),(∀b∈Cy l,b∈X.fs)->X.s₀.r.ϭ X.σ l->s.r.ϭ X.σ l:=by
  intro l;induction l with|nil=>intro _ _;trivial|cons env r g=>
   intro f zQ;let(h,(L,o,a,i,j,hd),k):=zQ;let c:L∈X.fs:=f L (by unfold Cy;rw[QA,a];show Bo);let(m,e):=n.σ.Ϡ L o j (n.ok.frf L c) c λz=>n.ok.exfs L z c;show#[h,#[L,_,a,i,e,hd],g (λb d=>f b (by unfold Cy;rw[QA,a];show Bv _ d)) k]
 show all X.g7 (λ_ d=>d) n.ok.funs
def
Inv.stack(c:Inv X ß Y' H s):s.r.ϭ X.σ X.Ψ:=by
 rcases c.ok.stk with e|⟨e,a⟩
 .rw[e];show c.funs
 .rw[e];let(m,b,_):=c.loc;show .Ο (by rw[c.ok.ϫ];decide) a b (Heap.get?_none_of_le<|Bu c.ok.bsz c.ok.above) c.funs
def
Inv.stkSub(d:Inv X ß Y' H s):∀b∈Cy X.Ψ,b∈X.G.Λ::X.fs:=λb a=>by
 rcases d.ok.stk with e|⟨e,c⟩
 .rw[e]at a;show Bv _ a
 .rw[e]at a;unfold Cy at a;rw[QA,c]at a;show a
def
Inv.stkFree(d:Inv X ß Y' H s):∀b∈Cy X.Ψ,H b=J:=λb a=>by
 rcases BJ.mp (d.stkSub b a)with e|a
 .rw[e];show d.Ν
 .let(_,o,c,_):=d.ok.funs.mem a;show d.σ.Ν b o c (d.ok.frf b a) λz=>d.ok.exfs b z a
def
Inv.step(R:Inv X ß Y' H s) (f:∀b∈ch,(b∈X.ex\/X.s₀.r.O.o<=b)/\b≠X.G.Λ/\(∀x c,X.G.ϣ.S x=Z c->c≠b)/\∀p∈X.pn++ß,p.1≠b) (keep:∀b o,b≠X.G.Λ->b∉X.fs->b∉ch->s.r.R b=Z o->H b=J->h'.R b=Z o) (slot:∀b o,b≠X.G.Λ->b∈X.fs->b∉ch->s.r.R b=Z o->H b=J->∃F,h'.R b=Z {o with slots:=F}) (free:∀b o,b∉ch->s.r.R b=Z o->H b=J->H' b=J) (there:∀b o,b∉ch->s.r.R b=Z o->∃B,h'.R b=Z B) (tups:∀b xs,H b=Z (.Q xs)->H' b=Z (.Q xs)) (frzs:∀b o u,H b=Z (.frz o u)->H' b=Z (.frz o u)) (tbls:∀b G,H b=Z (.tbl G)->∃C,H' b=Z (.tbl (G++C))) (ns:∀m,s.r.Ns X.G.Λ m->h'.Ns X.G.Λ m) (hok:Cu X.Y X.w H' h') (K:AllBare g'):Inv X ß Y' H' {s with heap:=h',gens:=g',drawn:=d',toks:=t' }:=by
 let j:∀b o,X.s₀.r.R b=Z o->b∉X.ex->b∉ch:=λb o e a y=>by
  rcases(f b y).1 with z|z
  .show a z
  .show absurd (BY (BB e) z)<|HZ _
 let g:∀x c,X.G.ϣ.S x=Z c->∀v,s.r.IsCell c v->h'.IsCell c v:=λx c e v ⟨o,A,hd⟩=>by
  let h:c∉ch:=λz=>(f c z).2.2.1 x c e rfl;by_cases M:c∈X.fs
  .let(F,q):=slot c o (R.cne x c e) M h A<|R.freeC x c e;show⟨_,q,hd⟩
  .show#[o,keep c o (R.cne x c e) M h A<|R.freeC x c e,hd]
 apply#[R.ok,R.os,K,#[λb o e n y a=>?_,λb o e n y a=>?_,λb o e n a=>?_,λb o e a=>?_,λb xs e=>tups b xs<|R.base.tups b xs e,λb o xs e=>frzs b o xs<|R.base.frzs b o xs e,λb G e=>?_],?_,λx c e=>?_,?_,λx c e=>?_,λp N=>?_,hok,R.϶]
 .show keep b o ((λb o e=>Ci<|BY (BB e) R.ok.above) b o e) y (j b o e a) (R.σ.keep b o e n y a) (R.σ.Ν b o e n a)
 .let(F,t):=R.σ.Ϡ b o e n y a;let(L,E):=slot b _ ((λb o e=>Ci<|BY (BB e) R.ok.above) b o e) y (j b o e a) t (R.σ.Ν b o e n a);show⟨L,E⟩
 .let(B,t):=R.σ.there b o e a;show free b B (j b o e a) t<|R.σ.Ν b o e n a
 .let(B,t):=R.σ.there b o e a;show there b B (j b o e a) t
 .let(Q,t):=R.σ.tbls b G e;let(T,E):=tbls b _ t;show#[Q++T,by rw[E,Array.append_assoc]]
 .let(m,P,Y):=R.loc;apply#[m,ns m P,λi x v t E e3=>?_];let(u,r,l):=Y i x v t E e3;apply#[u,r,?_];rcases l with l|⟨k,c,e,z⟩
  .show .U l
  .show .φ #[k,c,e,g x c e _ z]
 .let(v,z):=R.Υ x c e;show#[v,g x c e v z]
 .let(m,(o,_,_,A,_),_):=R.loc;show free _ o (λz=>(f _ z).2.1 rfl) A R.Ν
 .let(v,o,A,hd):=R.Υ x c e;show free c o (λz=>(f c z).2.2.1 x c e rfl) A (R.freeC x c e)
 .let(e,n,ne,nf,d):=R.pin p N;let h:p.1∉ch:=λz=>(f p.1 z).2.2.2 p N rfl;show#[keep p.1 p.2 ne nf h e n,free p.1 p.2 h e n,ne,nf,d]
def
Inv.un(q:Inv X ß Y' H s)(u:Un X.fs [] H H' s.r h')(hok:Cu X.Y X.w H' h'):Inv X ß Y' H' {s with heap:=h',toks:=t' }:=by
 let(m,(o,k,l,g,r),_):=id q.loc;let(p,h):=u.any g q.Ν (by simp);show q.Ϙ (g':=s.gens) (d':=s.drawn) (ch:=[]) (λ_ z=>nomatch z) (λb o _ c _ e n=>u.keep b o e n c (by simp)) (λb o _ c _ e n=>u.Ϡ b o e n c (by simp)) (λb o _ e n=>u.Ν b o e n (by simp)) (λb o _ e=>u.there b o e (by simp)) u.tups u.frzs u.tbls (λx i=>by
  let(y,d,f,a,j):=i;rw[g]at a;ext a;show#[_,d,f,h,j]) hok q.bare
def
Inv.call(E:Inv X ß Y' H s)(u:Un (Cy X.Ψ) ch H H' s.r h')(hok:Cu X.Y X.w H' h')(k:AllBare g') (d:∀b∈ch,(b∈X.ex\/X.s₀.r.O.o<=b)/\b≠X.G.Λ/\(∀x c,X.G.ϣ.S x=Z c->c≠b)/\∀p∈X.pn++ß,p.1≠b):Inv X ß Y' H' {s with heap:=h',gens:=g',drawn:=d',toks:=t' }:=by
 let(m,(o,v,y,j,r),_):=id E.loc;let(A,g):=u.any j E.Ν λz=>(d _ z).2.1 rfl;show E.Ϙ (ch:=ch) d (λb o g l a e n=>u.keep b o e n (λz=>(BJ.mp<|E.stkSub b z).elim g l) a) (λb o _ _ a e n=>u.any e n a) (λb o a e n=>u.Ν b o e n a) (λb o a e=>u.there b o e a) u.tups u.frzs u.tbls (λB q=>by
  let(C,h,i,f,t):=q;rw[j]at f;ext f;show#[_,h,i,g,t]) hok k
def
Inv.turned{it:Ac}(B:Inv X ß Y' H s)(k:∀b o,b≠it->s.r.R b=Z o->h'.R b=Z o)(g:H it=J)(f:it≠X.G.Λ) (h:it∈X.ex\/X.s₀.r.O.o<=it) (i:∀x c,X.G.ϣ.S x=Z c->c≠it) (j:∀p∈X.pn++ß,p.1≠it):Inv X ß Y' H {s with heap:=h',toks:=t' }:=by
 let d:∀b u,H b=Z u->b≠it:=λb u e z=>by rw[z,g]at e;ext e
 apply B.Ϙ (g':=s.gens) (d':=s.drawn) (ch:=[it]) (λb l=>?_) (λb o _ _ a e _=>k b o (λz=>a (by simp[z])) e) (λb o _ _ a e _=>#[o.slots,k b o (λz=>a (by simp[z])) e]) (λ_ _ _ _ n=>n)
  (λb o a e=>#[o,k b o (λz=>a (by simp[z])) e]) (λ_ _ e=>e) (λ_ _ _ e=>e) (λb G e=>#[(T' []),by rw[e];simp]) (λm t=>?_) (λb u e=>?_) B.bare
 .let e:b=it:=by exists l
  subst e;show#[h,f,i,j]
 .let(o,w,y,A,r):=t;show#[o,w,y,k _ o (Cj f) A,r]
 .refine(B.ϧ b u e).stay (λc v a q=>k c v ?_ q) (λ_ q=>q) λ_ _ q=>q;rcases a with z|z
  .rw[z];show d b u e
  .show d c _ z
def
Inv.tok(a:Inv X ß Y' H s)(t:I):Inv X ß Y' H {s with toks:=t}:=a.un (h':=s.r) (t':=t) Un.χ a.ϧ
def
Inv.kept(a:Inv X ß Y' H s)(k:∀b u,s.r.R b=Z u->h'.R b=Z u):Inv X ß Y' H {s with heap:=h',toks:=t' }:=a.un (Un.ϲ k) (a.ϧ.ϲ k)
def
Inv.laid{o:HO}(d:Inv X ß Y' H s)(k:∀b u,s.r.R b=Z u->h'.R b=Z u)(c:s.r.O.o<=a)(new:A9 X.Y X.w (AX H a o) h' a o):Inv X ß Y' (AX H a o) {s with heap:=h',toks:=t' }:=d.un (Un.laid k c (d.ϧ.Τ c)) (d.ϧ.laid k c new)
def
Inv.write{x e:Ac}{o:HO}(f:Inv X ß Y' H s)(c:N3 (H x))(d:e=x\/H e=Z (.τ x))(k:∀b u,b≠e->s.r.R b=Z u->h'.R b=Z u)(a:∃u,h'.R e=Z u) (new:A9 X.Y X.w (AX H x o) h' x o):Inv X ß Y' (AX H x o) {s with heap:=h',toks:=t' }:=f.un (Un.write c d k a) (f.ϧ.write c d k a new)
def
Inv.weak{a:U (O V)}(h:Inv X ß Y' H s)(c:a.a=Y'.a)(w:∀(i:I) v,a[i]?=Z (Z v)->Y'[i]?=Z (Z v)):Inv X ß a H s:=#[h.ok,h.os,h.bare,h.σ,let⟨m,d,b⟩:=h.loc;#[m,d,λi x v e f g=>b i x v e (w i v f) g],h.Υ,h.Ν,h.freeC,h.pin,h.ϧ,c.I h.϶]
def
Inv.pins_of{a:A1}(c:Inv X ß Y' H s)(h:∀p∈a,s.r.R p.1=Z p.2/\H p.1=J/\p.1≠X.G.Λ/\p.1∉X.fs/\∀v,p.2.jk≠.Υ v):Inv X a Y' H s:=#[c.ok,c.os,c.bare,c.σ,c.loc,c.Υ,c.Ν,c.freeC,λp b=>(Cz.mp b).ι (λz=>c.pin p<|J5 _ z) (h p),c.ϧ,c.϶]
def
ah{N:U Ae}(c:N.μ){i:I}{x:Ae}(a:N[i]?=Z x)(b:N[j]?=Z x):i=j:=by
 let(f,d):=Dk.mp a;let(g,e):=Dk.mp b;show(List.getElem_inj c).mp<|d.I e.Γ
def
ai{M:Model}{A:Ag}{i:I}{x:Ae}{v:V}(R:Inv X ß Y' H s)(hN:X.N.μ)(P:X.N[i]?=Z x)(t:Loc X.G.Δ x)(r:RelV v u) (h:∀s',Inv X ß (Y'.Χ i (Z v)) H s'->(∃a,En a s.r s'.r/\(a=X.G.Λ\/X.G.ϣ.S x=Z a))->Q () s') (hf:↥(X.fn x=J'\/X.G.Δ.ρ.S x=Z .ϐ:4)):wpAny M A (storeName X.G x u) Q E s:=by
 let(m,hn,hl):=id R.loc;let G:i<Y'.a:=R.϶ ▸ (Dk.mp P).1;let g:∀{a:Ac} {h':Al},(∃o,s.r.R a=Z o/\H a=J)->En a s.r h'->Cu X.Y X.w H h':=λ{a h'} ha f b ob e=>by
  let(_,_,hfree):=ha;refine(R.ϧ b ob e).stay (λc w' B q=>(f.2 c ?_).I q) (λ_ q=>q) λ_ _ q=>q;grind
 rcases t with F|F
 .apply wpAny_storeName_local F hn (λh' hn' f=>?_) (show(X.G.Δ.ϫ==.class||(X.env.scope.kind==.module&&X.env.locals != X.env.globals))=O' by rw[R.ok.kind];rfl);let(oL,_,_,hoL,_):=id hn;apply h _ #[R.ok,R.os,R.bare,#[λb o e n L t=>?_,λb o e n L t=>?_,R.σ.Ν,λb o e t=>?_,R.σ.tups,R.σ.frzs,R.σ.tbls],#[_,hn',λj y v' l C e3=>?_],λy c e=>?_,R.Ν,R.freeC,λp hp=>?_,g #[oL,hoL,R.Ν] f,by exists R.϶] #[_,f,.U rfl]
  .show(f.2 b<|Ci<|BY (BB e) R.ok.above).I<|R.σ.keep b o e n L t
  .let(sl,l):=R.σ.Ϡ b o e n L t;show#[sl,(f.2 b<|Ci<|BY (BB e) R.ok.above).I l]
  .let(o',l):=R.σ.there b o e t;show#[o',(f.2 b<|Ci<|BY (BB e) R.ok.above).I l]
  .by_cases K:j=i
   .subst K;rw[P]at l;ext l;rw[Ho G]at C;ext C;show#[u,r,.U #[F,by simp]]
   .rw[E2<|Cj K]at C;let(u',r',q):=hl j y v' l C e3;apply#[u',r',?_];rcases q with⟨k,e⟩|⟨k,c,e,z⟩
    .apply .U #[k,?_];have:y≠x:=λe=>K<|ah hN l<|e ▸ P;simp[this,e]
    .show .φ #[k,c,e,z.sameBut f<|R.cne y c e]
  .let(w',z):=R.Υ y c e;show#[w',z.sameBut f<|R.cne y c e]
  .let(e,n,ne,nf,d):=R.pin p hp;show#[(f.2 p.1 ne).I e,n,ne,nf,d]
 .let T:X.fn x=J':=by
   rcases hf with z|z
   .show z
   .rw[z]at F;ext F
  let(c,B):=R.ok.has x<|.inl F;let(w',z):=R.cell x c B;apply wpAny_storeName_cell R.ok.kind F B z<|λh' Y f=>?_;let(oc,hoc,hocd):=id z;apply h {s with heap:=h' } #[R.ok,R.os,R.bare,#[λb o e n L t=>?_,λb o e n L t=>?_,R.σ.Ν,λb o e t=>?_,R.σ.tups,R.σ.frzs,R.σ.tbls],#[m,hn.sameBut f (Cj (R.cne x c B)),λj y v' l C e3=>?_],λy c' e=>?_,R.Ν,R.freeC,λp hp=>?_,g #[oc,hoc,R.freeC x c B] f,by exists R.϶] #[c,f,.φ B]
  .show(f.2 b<|Ci<|BY (BB e)<|R.ok.cab x c T B).I<|R.σ.keep b o e n L t
  .let(sl,l):=R.σ.Ϡ b o e n L t;show#[sl,(f.2 b<|Ci<|BY (BB e)<|R.ok.cab x c T B).I l]
  .let(o',l):=R.σ.there b o e t;show#[o',(f.2 b<|Ci<|BY (BB e)<|R.ok.cab x c T B).I l]
  .by_cases K:j=i
   .subst K;rw[P]at l;ext l;rw[Ho G]at C;ext C;show#[u,r,.φ #[.U F,c,B,Y]]
   .rw[E2<|Cj K]at C;let(u',r',q):=hl j y v' l C e3;apply#[u',r',?_];rcases q with q|⟨k,c',e,z'⟩
    .show .U q
    .apply .φ #[k,c',e,z'.sameBut f ?_];rintro rfl;show K<|ah hN l<|R.ok.inj _ _ _ e B ▸ P
  .by_cases hcc:c'=c
   .subst hcc;show#[_,Y]
   .let(w2,z2):=R.Υ y c' e;show#[w2,z2.sameBut f hcc]
  .let(e,n,ne,nf,d):=R.pin p hp;apply#[(f.2 p.1 ?_).I e,n,ne,nf,d];grind
def
Uf{M:Model}{A:Ag}{i:I}{x:Ae}{v:V}(f:Inv X ß Y' H s)(a:X.N.μ)(b:X.N[i]?=Z x)(c:Loc X.G.Δ x)(r:RelV v u) (h:∀s',Inv X ß (Y'.Χ i (Z v)) H s'->Q () s') (d:↥(X.fn x=J'\/X.G.Δ.ρ.S x=Z .ϐ:6)):wpAny M A (storeName X.env x u) Q E s:=ai f a b c r (λs' e _=>h s' e) d
def
Inv.call'(j:Inv X ß Y' H s)(g:s'.os=s.os)(u:Un (Cy X.Ψ) ch H H' s.r s'.r)(hok:Cu X.Y X.w H' s'.r)(h:AllBare s'.gens) (a:∀b∈ch,(b∈X.ex\/X.s₀.r.O.o<=b)/\b≠X.G.Λ/\(∀x c,X.G.ϣ.S x=Z c->c≠b)/\∀p∈X.pn++ß,p.1≠b):Inv X ß Y' H' s':=by
 let(h',d,e,f,i):=s';subst g;show j.call (g':=d) (t':=f) (d':=e) u hok h a
end
abbrev XK:=Aa->O Ac->Hp->V'
abbrev St:=U (O V)
variable{Y':St}
abbrev VK:=V->Hp->V'
abbrev TE:=St->Hp->VK->V'
variable{ta:TE}
abbrev TT:=St->Hp->(q'->Hp->V')->V'
abbrev TA:=St->Hp->(U V->Hp->V')->V'
set_option genInjectivity false in
structure Ends where
 nx:St->Hp->V'
 rt:VK
 bk:St->Hp->V':=λ_ _=>False
 ct:St->Hp->V':=λ_ _=>False
abbrev TS:=Ends->St->Hp->V'
def EP(X:Cx)(a:A1)(Y':St)(Q:VK)(u:Aa)(s':Ab):V':=∃v b,Inv X a Y' b s'/\RelV v u/\Q v b
def TP(X:Cx)(a:A1)(Y':St)(Q:q'->Hp->V')(b:q')(s':Ab):V':=∃c,Inv X a Y' c s'/\Q b c
def AP(X:Cx)(a:A1)(Y':St)(Q:U V->Hp->V')(us:U Aa)(s':Ab):V':=∃b c,Inv X a Y' c s'/\Aq b us/\Q b c
def SP(X:Cx)(b:A1)(D:Ends)(f:Flow)(s':Ab):V':=
 match f with
 |.next=>∃a c,Inv X b a c s'/\D.nx a c
 |.brk=>∃a c,Inv X b a c s'/\D.bk a c
 |.cont=>∃a c,Inv X b a c s'/\D.ct a c
 |.ret u=>∃v a c,Inv X b a c s'/\RelV v u/\D.rt v c
def PE(X:Cx)(e:Expr)(t:TE):V':=
 ∀(a:A1) (s:Ab) (b:St) (H:Hp) (Q:VK),Inv X a b H s->t b H Q->wpAny (Af X.Y X.w) X.A (As e X.G) (EP X a b Q) X.xe s
def PT(X:Cx)(e:Expr)(t:TT):V':=
 ∀(a:A1) (s:Ab) (b:St) (H:Hp) (Q:q'->Hp->V'),Inv X a b H s->t b H Q->wpAny (Af X.Y X.w) X.A (isTrue e X.G (As e X.G)) (TP X a b Q) X.xe s
def PW(X:Cx)(e:Expr)(t:TT):V':=
 ∀(b:BI Aa) (a:A1) (s:Ab) (c:St) (H:Hp) (Q:q'->Hp->V'),Inv X a c H s->t c H Q->wpAny (Af X.Y X.w) X.A (isTrue e X.G b) (TP X a c Q) X.xe s
def
PW.pt{e:Expr}{t:TT}(h:PW X e t):PT X e t:=h _
def PA(X:Cx)(es:U Expr)(t:TA):V':=
 ∀(b:Az) (a:A1) (s:Ab) (c:St) (H:Hp) (Q:U V->Hp->V'),Inv X a c H s->t c H Q->wpAny (Af X.Y X.w) X.A (spliced (AF b (AQ es X.G))) (AP X a c Q) X.xe s
def PS(X:Cx)(st:Ay)(t:TS):V':=
 ∀(a:A1) (s:Ab) (b:St) (H:Hp) (D:Ends),Inv X a b H s->t D b H->wpAny (Af X.Y X.w) X.A (exec st X.G) (SP X a D) X.xe s
def E3(X:Cx)(st:U Ay)(t:TS):V':=
 ∀(a:A1) (s:Ab) (b:St) (H:Hp) (D:Ends),Inv X a b H s->t D b H->wpAny (Af X.Y X.w) X.A (execs st X.G) (SP X a D) X.xe s
def
A8{b:Type}{t:BI b}{Q Q':b->Ab->V'}{M:Model}{A:Ag}{s:Ab}(h:wpAny M A t Q E s)(c:∀a s,Q a s->Q' a s):wpAny M A t Q' E s:=Cs h c λ_ _ x=>x
section
def aj(i:I):TE:=λa H Q=>∃v,a[i]?=Z (Z v)/\Q v H
def tC(v:V):TE:=λ_ H Q=>Q v H
def
ak{i:I}{x:Ae}(j:X.N[i]?=Z x)(k:N5 X.G.Δ x)(hd:⇑(CT x))(d:⇑((x==("__classdict__":Ae))=O')):PE X (.γ x pos) (aj i):=by
 intro f s q H Q t h;let(v,e,h):=h;let(m,n,o):=t.loc;let(u,r,l):=o i x v j e k;rcases l with⟨b,p⟩|⟨b,c,g,a⟩
 .show wpAny_Name (wpAny_loadName_local t.ok.ϫ b n p #[v,H,t,r,h]) hd
 .rcases b with b|b
  .show wpAny_Name (wpAny_loadName_cell t.ok.ϫ b g a #[v,H,t,r,h]) hd
  .show wpAny_Name (wpAny_loadName_free t.ok.ϫ b g a #[v,H,t,r,h] d) hd
def
nZ {i j pos}:PE X (.Ϟ (.u i) j pos) (tC (.u i)):=λ_ _ _ H _ a h=>wpAny_Constant_int #[.u i,H,a.tok _,#[_,rfl],h]
def
n0 {b j pos}:PE X (.Ϟ (.Ϥ b) j pos) (tC (.bl b)):=λ_ _ _ H _ a h=>Constant_bool #[.bl b,H,a,rfl,h]
def
og {j pos}:PE X (.Ϟ .Β j pos) (tC .Ε):=λ_ _ _ H _ a h=>Constant_none #[.Ε,H,a,rfl,h]
def
oh {x j pos}:PE X (.Ϟ (.ω x) j pos) (tC (.ω x)):=λ_ _ _ H _ a h=>Calls.Constant_str #[.ω x,H,a.tok _,#[_,rfl],h]
def Gl(X:Cx)(x:Ae):V':=X.G.kindOf x=Z .globalImplicit
def
ML{a:A1}{s:Ab}{H:Hp}{x:Ae}{Q:AV}(d:Inv X a Y' H s)(b:Gl X x)(c:X.mg x=Z u)(h:Q u s) (hd:⇑(CT x)):wpAny (Af X.Y X.w) X.A (As (.γ x pos) X.G) Q E s:=Calls.Name_function_global d.ok.ϫ b (Calls.loadGlobal_global (d.ok.glob ▸ d.mod.glob.keeps d.bk) c h) hd
def
H9{a:A1}{s:Ab}{H:Hp}{x:Ae}{Q:AV}(i:Inv X a Y' H s)(b:Gl X x)(c:X.mg x=J)(d:Em x=Z u)(h:Q u s) (e:⇑(x≠"__name__")) (hd:⇑(CT x)):wpAny (Af X.Y X.w) X.A (As (.γ x pos) X.G) Q E s:=by
 let(mb,f,g):=i.mod.blt;show Calls.Name_function_global i.ok.ϫ b (Calls.loadGlobal_builtin (i.ok.glob ▸ i.mod.glob.keeps i.bk) c (i.ok.blt ▸ f.keeps i.bk) ((g x e).I d) h) hd
def
Ug{x:Ae}{v:V}(a:Gl X x)(b:X.mg x=Z u)(r:RelV v u)(hd:⇑(CT x)):PE X (.γ x pos) (tC v):=λ_ _ _ H _ c h=>ML c a b #[v,H,c,r,h] hd
def
am{x:Ae}{v:V}(a:Gl X x)(b:X.mg x=J)(c:Em x=Z u)(r:RelV v u)(d:⇑(x≠"__name__"))(hd:⇑(CT x)):PE X (.γ x pos) (tC v):=λ_ _ _ H _ e h=>H9 e a b c #[v,H,e,r,h] d hd
variable{a b:Expr}{tb:TE}
def PC(X:Cx)(op:CmpOp)(a b:Expr)(t:TE):V':=
 ∀(c:A1) (s:Ab) (f:St) (H:Hp) (Q:VK),Inv X c f H s->t f H Q ->
  wpAny (Af X.Y X.w) X.A (As a X.G) (λv d=>wpAny (Af X.Y X.w) X.A (As b X.G) (λu e=>wpAny (Af X.Y X.w) X.A (Du op v u) (EP X c f Q) X.xe e) X.xe d) X.xe s
def
Gq(b:Expr){op:CmpOp}(h:op≠.In)(a:op≠.NotIn):Gr op b=O':=by
 cases b with
 |Set _ k _=>
  show(k==0&&(op==.In||op==.NotIn)&&_)=O'
  rw[beq_false_of_ne h,beq_false_of_ne a];simp
 |_=>rfl
def oi(ta:TE):TE:=λa H Q=>ta a H λx b=>Q (.bl (decide (x=.Ε))) b
def oj(ta:TE):TE:=λa H Q=>ta a H λx b=>Q (.bl (!decide (x=.Ε))) b
def
RelV.none_iff{x:V}{v:Aa}(r:RelV x v):(v==Gp)=decide (x=.Ε):=by
 cases x with
 |non=>ext r;rfl
 |bl _=>ext r;rfl
 |int _=>let(t,rfl):=r;rfl
 |str _=>let(t,rfl):=r;rfl
 |ref _=>ext r;rfl
 |ty _=>ext r;rfl
def
ao {j b} (d:PE X a ta):PC X .Is a (.Ϟ .Β j b) (oi ta):=by
 intro c s e H Q n h;apply A8 (d c s e H _ n h) λv m f=>?_;let(x,g,i,k,l):=f;show Constant_none<|is_none_gen ⟨.bl _,g,i,by rw[k.none_iff];rfl,l⟩
def
ol {j b} (d:PE X a ta):PC X .IsNot a (.Ϟ .Β j b) (oj ta):=by
 intro c s e H Q n h;apply A8 (d c s e H _ n h) λv m f=>?_;let(x,g,i,k,l):=f;show Constant_none<|isnot_none_gen ⟨.bl _,g,i,by rw[k.none_iff];rfl,l⟩
def tB(t:TE):TT:=λa H Q=>t a H λx b=>∃c,x=.bl c/\Q c b
def
om{op:CmpOp}{t:TE}(h:PC X op a b t)(d:Gr op b=O':=by first|show Gq _ (by ext) (by ext)|rfl):PE X (.Compare a [op] [b] pos) t:=λc s e H Q g f=>wpAny_Compare1 (h c s e H Q g f) d
def
ap{op:CmpOp}{t:TE}(h:PC X op a b t)(f:Gr op b=O':=by first|show Gq _ (by ext) (by ext)|rfl):PT X (.Κ a [op] [b] pos) (tB t):=by
 intro e s g H Q w i;apply wpAny_isTrue_Compare1 (A8 (h e s g H _ w i) λv o f=>A8 f λu p j=>A8 j λc r k=>?_) f;let(x,l,m,n,d,rfl,q):=k;ext n;show J6 #[l,m,q]
variable{tA BP:TT}{AD:U Expr}
def aq(t u:TT):TT:=λa H Q=>t a H λc b=>if c=J' then u a b Q else Q O' b
def ar(t u:TT):TT:=λa H Q=>t a H λc b=>if c=J' then Q J' b else u a b Q
def on(t:TT):TT:=λa H Q=>t a H λc b=>Q (!c) b
def
oq(d:PT X a tA):PW X (.ϔ .And [a] pos) tA:=by
 intro wh b s f H Q i h;apply isTrue_and<|A8 (d b s f H Q i h) λc g e=>?_;cases c with
 |true=>show isTrue_and_nil e
 |false=>show e
def
ot(d:PT X a tA):PW X (.ϔ .Or [a] pos) tA:=by
 intro wh b s f H Q i h;apply isTrue_or<|A8 (d b s f H Q i h) λc g e=>?_;cases c with
 |false=>show isTrue_or_nil e
 |true=>show e
def
ou(j:PT X a tA)(k:PW X (.ϔ .And (b::AD) pos) BP):PW X (.ϔ .And (a::b::AD) pos) (aq tA BP):=by
 intro wh d s e H Q m h;apply isTrue_and<|A8 (j d s e H _ m h) λc l ⟨f,g,i⟩=>?_;cases c with
 |true=>show k wh d l e f Q g i
 |false=>show#[f,g,i]
def
ov(j:PT X a tA)(k:PW X (.ϔ .Or (b::AD) pos) BP):PW X (.ϔ .Or (a::b::AD) pos) (ar tA BP):=by
 intro wh d s e H Q m h;apply isTrue_or<|A8 (j d s e H _ m h) λc l ⟨f,g,i⟩=>?_;cases c with
 |true=>show#[f,g,i]
 |false=>show k wh d l e f Q g i
def
ow(d:PT X a tA):PT X (.UnaryOp .Not a pos) (on tA):=by
 intro b s e H Q g h;show isTrue_not<|d b s e H (λc f=>Q (!c) f) g h
def oz(ta tb:TE):TE:=λa H Q=>ta a H λx b=>∃c,x=.bl c/\if c=J' then tb a b Q else Q (.bl O') b
def oA(ta tb:TE):TE:=λa H Q=>ta a H λx b=>∃c,x=.bl c/\if c=J' then Q (.bl J') b else tb a b Q
def oB(ta:TE):TE:=λa H Q=>ta a H λx b=>∃c,x=.bl c/\Q (.bl (!c)) b
def
au {op} {t:TE} (h:PE X a t):PE X (.ϔ op [a] pos) t:=λb s c H Q e d=>BoolOp_one<|h b s c H Q e d
def
aw(j:PE X a ta)(k:PE X (.ϔ .And (b::AD) pos) tb):PE X (.ϔ .And (a::b::AD) pos) (oz ta tb):=by
 intro d s f H Q o h;apply BoolOp_and<|A8 (j d s f H _ o h) λv l m=>?_;let(x,g,i,n,e):=m;let(c,rfl,e):=e;ext n;apply J6 ?_;cases c with
 |true=>show k d l f g Q i e
 |false=>show#[.bl O',g,i,rfl,e]
def
oC(j:PE X a ta)(k:PE X (.ϔ .Or (b::AD) pos) tb):PE X (.ϔ .Or (a::b::AD) pos) (oA ta tb):=by
 intro d s f H Q o h;apply BoolOp_or<|A8 (j d s f H _ o h) λv l m=>?_;let(x,g,i,n,e):=m;let(c,rfl,e):=e;ext n;apply J6 ?_;cases c with
 |false=>show k d l f g Q i e
 |true=>show#[.bl J',g,i,rfl,e]
def
oD(e:PE X a ta):PE X (.UnaryOp .Not a pos) (oB ta):=by
 intro b s f H Q m h;apply UnaryOp_<|A8 (e b s f H _ m h) λv l g=>?_;let(x,i,j,k,d):=g;let(c,rfl,d):=d;ext k;show not_of<|J6 ⟨.bl<|!c,i,j,rfl,d⟩
def oE(t:TT)(ta tb:TE):TE:=λa H Q=>t a H λc b=>if c=J' then ta a b Q else tb a b Q
def
oF{c:Expr}(l:PT X c tA)(m:PE X a ta)(n:PE X b tb):PE X (.IfExp c a b pos) (oE tA ta tb):=by
 intro e s f H Q o h;apply wpAny_IfExp<|A8 (l e s f H _ o h) λd g ⟨i,j,k⟩=>?_;cases d with
 |true=>show m e g f i Q j k
 |false=>show n e g f i Q j k
end
def BU(K:Ap)(H:Hp)(a:Ac)(xs:U V):V':=
 Rd H a (.X xs) \/
  ∃(o:Obj) (b:Array Aa) (n:I),K.S a=Z o/\o.cls=.ε "list"/\o.dict=J/\o.jk=.Ϲ b n/\b.o<=AE/\Aq xs b.J
def Ck(K:Ap)(H:Hp)(a:Ac)(xs:U V):V':=
 Rd H a (.Q xs) \/
  ∃(o:Obj) (b:Array Aa) (n:I),K.S a=Z o/\o.cls=.ε "tuple"/\o.jk=.Ϲ b n/\b.o<=AE/\Aq xs b.J
def oG:Aa->O V
 |.none=>Z .Ε
 |.bool b=>Z (.bl b)
 |.int i _=>Z (.u i)
 |.str x _=>Z (.ω x)
 |.ref a=>Z (.C a)
 |.type n=>Z (.ty n)
 |_=>J
def
RelV.abs{x:V}(r:RelV x u):oG u=Z x:=by
 cases x with
 |non=>ext r;rfl
 |bl _=>ext r;rfl
 |int _=>let(t,rfl):=r;rfl
 |str _=>let(t,rfl):=r;rfl
 |ref _=>ext r;rfl
 |ty _=>ext r;rfl
def
RelV.inj{x y:V}(r:RelV x u)(q:RelV y u):x=y:=Gs<|r.abs.Γ.I q.abs
def
Aq.inj{xs:U V}{us:U Aa}(h:Aq xs us)(g:Aq ys us):xs=ys:=by
 induction h generalizing ys with|nil=>ext g;rfl|cons r _ a=>
  cases g with
  |cons q t=>rw[r.inj q,a t]
variable {H:Hp}{s:Ab}{xs:U V}
def
Ck.of{K:Ap}(h:H a=Z (.Q xs)):Ck K H a xs:=.U<|.U h
def
Inv.list(i:Inv X ß Y' H s)(h:BU X.K H a xs):∃b:U Aa,Aq xs b/\PlainL s.r a b.E/\xs.a<=AE:=by
 rcases h with h|⟨o,b,n,c,d,hd,f,g,r⟩
 .let(z,b,n,r,e):=h.ok i.ϧ;show#[b,r,#[_,n,e,rfl,rfl,rfl],z]
 .apply#[b.J,r,#[o,n,i.kIn a o c,d,hd,by exists f],?_];let e:=r.a;erw[Lw]at e;lia
def
Inv.tuple(i:Inv X ß Y' H s)(h:Ck X.K H a xs):∃b:U Aa,Aq xs b/\IsTup s.r a b.E/\xs.a<=AE:=by
 rcases h with h|⟨o,b,n,c,d,f,g,r⟩
 .let(z,b,r,p):=h.ok i.ϧ;show#[b,r,p,z]
 .apply#[b.J,r,#[o,i.kIn a o c,d,n,by exists f],?_];let e:=r.a;erw[Lw]at e;lia
def
Inv.list_inj(m:Inv X ß Y' H s)(h:BU X.K H a xs)(h':BU X.K H a ys):xs=ys:=by
 let(c,r,(o,n,e,_,_,d),_):=m.Ϩ h;let(b,i,(k,l,f,_,_,g),_):=m.Ϩ h';rw[e]at f;ext f;rw[d]at g;injection g with j _
 have:c=b:=by exists congrArg Array.J j
 subst this;show r.inj i
def
Inv.tuple_inj(m:Inv X ß Y' H s)(h:Ck X.K H a xs)(h':Ck X.K H a ys):xs=ys:=by
 let(c,r,(o,e,_,n,d),_):=m.ϗ h;let(b,i,(k,f,_,l,g),_):=m.ϗ h';rw[e]at f;ext f;rw[d]at g;injection g with j _
 have:c=b:=by exists congrArg Array.J j
 subst this;show r.inj i
end
abbrev Cx.wish(X:Cx)(E:AV):Cx:={X with xe:=E}
abbrev Cx.nox(X:Cx):Cx:=X.wish λ_ _=>False
def
Cx.Ok.wish(ok:X.Ok)(E:AV):(X.wish E).Ok:=#[ok.mod,ok.ϫ,ok.glob,ok.blt,ok.above,ok.inj,ok.has,ok.cab,ok.hd,ok.ϴ,ok.stk,ok.exf,ok.bs,ok.bsz,ok.noex,ok.exfs,ok.funs,ok.frf]
def
Cx.Ok.unwish(ok:(X.wish E).Ok):X.Ok:=#[ok.mod,ok.ϫ,ok.glob,ok.blt,ok.above,ok.inj,ok.has,ok.cab,ok.hd,ok.ϴ,ok.stk,ok.exf,ok.bs,ok.bsz,ok.noex,ok.exfs,ok.funs,ok.frf]
variable {H:Hp}{s:Ab}
def
Inv.wish(a:Inv X ß Y' H s)(E:AV):Inv (X.wish E) ß Y' H s:=#[a.ok.wish E,a.os,a.bare,a.σ,a.loc,a.Υ,a.Ν,a.freeC,a.pin,a.ϧ,a.϶]
def
Inv.unwish(a:Inv (X.wish E) ß Y' H s):Inv X ß Y' H s:=#[a.ok.unwish,a.os,a.bare,a.σ,a.loc,a.Υ,a.Ν,a.freeC,a.pin,a.ϧ,a.϶]
def
SP.unwish{D:Ends}{f:Flow}(h:SP (X.wish E) ß D f s'):SP X ß D f s':=by
 cases f with
 |next=>let(a,b,c,q):=h;show#[a,b,c.unwish,q]
 |brk=>let(a,b,c,q):=h;show#[a,b,c.unwish,q]
 |cont=>let(a,b,c,q):=h;show#[a,b,c.unwish,q]
 |ret u=>let(v,a,b,c,r,q):=h;show#[v,a,b,c.unwish,r,q]
def
E3.nox{st:U Ay}{t:TS}(h:E3 X.nox st t):E3 X st t:=λß s Y' H D b a=>Cs (h ß s Y' H D (b.wish _) a) (λ_ _ q=>q.unwish) λ_ _ z=>BV z
end
variable {st:Ay}{AD:U Ay}{t u:TS}{e:Expr}{te:TE}
def oH:TS:=λD a H=>D.nx a H
def oI(t u:TS):TS:=λD a H=>t {D with nx:=u D} a H
def
F3:E3 X [] oH:=λ_ _ a H _ b h=>wpAny_execs_nil #[a,H,b,h]
def
ax(c:PS X st t)(d:E3 X AD u):E3 X (st::AD) (oI t u):=by
 intro a s e H D k h;apply N6<|A8 (c a s e H {D with nx:=u D} k h) λf g q=>?_;cases f with
 |next=>
  let(b,i,j,q):=q;show d a g b i D j q
 |ret v=>show q
 |brk=>show q
 |cont=>show q
def
Inv.quiet{a:A1}{H:Hp}{s:Ab}(b:Inv X a Y' H s):interactive X.G=O':=by simp[interactive,b.ok.kind]
def oJ(te:TE):TS:=λD a H=>te a H λ_ b=>D.nx a b
def
QB(c:PE X e te)(d:↑(DR e J pos.ϩ X.G=Am O')):PS X (.Expr e pos) (oJ te):=by
 intro a s b H D l h;show wpAny_Expr_any (A8 (c a s b H _ l h) λv j ⟨x,f,g,k,i⟩=>#[b,f,g,i]) l.quiet d
def oK(te:TE):TS:=λD a H=>te a H D.rt
def
QC(c:PE X e te):PS X (.Return (Z e) pos) (oK te):=by
 intro a s b H D k h;show wpAny_Return_some<|A8 (c a s b H _ k h) λv j ⟨x,d,f,g,i⟩=>#[x,b,d,f,g,i]
def oM(c:TT)(t u:TS):TS:=λD a H=>c a H λb d=>if b=J' then t D a d else u D a d
def
Uh{c:Expr}{a b:U Ay}{g:TT}(m:PT X c g)(n:E3 X a t)(o:E3 X b u):PS X (.If c a b pos) (oM g t u):=by
 intro e s f H D p h;apply wpAny_If<|A8 (m e s f H _ p h) λd i ⟨j,k,l⟩=>?_;cases d with
 |true=>show n e i f j D k l
 |false=>show o e i f j D k l
def oO:TS:=λ_ _ _=>False
def
Hq:PS X st oO:=λ_ _ _ _ _ _ h=>h.ι
end
abbrev TG:=V->St->Hp->(St->Hp->V')->V'
abbrev IW:=U V->St->Hp->(St->Hp->V')->V'
def PG(X:Cx)(a:Expr)(t:TG):V':=
 ∀(b:A1) (s:Ab) (d:St) (H:Hp) (v:V) (u:Aa) (Q:St->Hp->V'),Inv X b d H s->RelV v u->t v d H Q ->
  wpAny (Af X.Y X.w) X.A (assign a X.G u) (λ_ f=>∃c e,Inv X b c e f/\Q c e) X.xe s
def N7(X:Cx)(g:U Expr)(t:IW):V':=
 ∀(a:A1) (s:Ab) (c:St) (H:Hp) (d:U V) (e:U Aa) (Q:St->Hp->V'),Inv X a c H s->Aq d e->t d c H Q ->
  wpAny (Af X.Y X.w) X.A (assignInOrder ((Gu g X.G).j (·.2)) e) (λ_ h=>∃b f,Inv X a b f h/\Q b f) X.xe s
abbrev QE:=V->V->V->Hp->(Hp->V')->V'
def Ui(X:Cx)(t:QE):V':=
 ∀(a:A1) (s:Ab) (b:St) (H:Hp) (o i v:V) (c d u:Aa) (Q:Hp->V'),Inv X a b H s->RelV o c->RelV i d->RelV v u->t o i v H Q ->
  wpAny (Af X.Y X.w) X.A (setItem c d u) (λ_ f=>∃e,Inv X a b e f/\Q e) X.xe s
section
def Lx(i:I):TG:=λv a H Q=>Q (a.Χ i (Z v)) H
def
MM{i:I}{x:Ae}(b:X.N.μ)(c:X.N[i]?=Z x)(d:Loc X.G.Δ x)(e:↥(X.fn x=J'\/X.G.Δ.ρ.S x=Z .ϐ:4)):PG X (.γ x pos) (Lx i):=by
 intro a s g H v u Q k r h;show wpAny_assign_Name<|Uf k b c d r (λj f=>#[_,H,f,h]) e
def oP:IW:=λa b H Q=>a=[]/\Q b H
def oQ(t:TG)(u:IW):IW:=λb c H Q=>∃v r,b=v::r/\t v c H λa d=>u r a d Q
def
ay:N7 X [] oP:=by
 intro a s b H c d Q e r h;let(rfl,h):=h;ext r;show assignInOrder_nil #[b,H,e,h]
def
QF{e:Expr}{t:TG}{u:IW}(c:PG X e t)(d:N7 X es u) (f:↑((Gu (e::es) X.G).j (·.2)=assign e X.G::(Gu es X.G).j (·.2))):N7 X (e::es) (oQ t u):=by
 intro a s g H o p Q w r h;let(v,q,rfl,h):=h;cases r with
 |cons r i=>
  rw[f];apply assignInOrder_cons<|A8 (c a s g H _ _ _ w r h) λ_ j k=>?_;let(b,l,m,n):=k;show d a j b l _ _ Q m i n
def oR(K:Ap)(n:I)(t:IW):TG:=λv c H Q=>∃a b,v=.C a/\Ck K H a b/\b.a=n/\t b c H Q
def
az{k:I}{t:IW}{n:I}(i:X.Ϸ=J')(h:N7 X es t) (j:↑((Gu es X.G).a=n)) (d:↑((Gu es X.G).findIdx? (·.1)=J)):PG X (.Tuple es k pos) (oR X.K n t):=by
 intro c s l H v u Q B r f;let(a,m,rfl,p,q,f):=f;ext r;let(w,g,x,z):=B.ϗ p;show assign_Tuple_tuple (B.ok.hd i) x (by simp[j,<- q,g.length]) d λA y=>h c _ l H m _ Q (B.ϲ (t':=s.Ζ) λb o e=>y b o (Ci<|BB e) e) (by exists g) f
def oS(to b:TE)(t:QE):TG:=λv a H Q=>to a H λo c=>b a c λi d=>t o i v d λe=>Q a e
def
Uj{i:Expr}{to f:TE}{t:QE}(g:PE X o to)(j:PE X i f)(k:Ui X t) (F:↥(∀v,assign (.ψ o i pos) X.G v=(do
   let b <- EN [v] (As o X.G);let c <- EN [v,b] (As i X.G);standAt pos
   EN [v,b,c] (setItem b c v)
   release [v,b,c] []):7)):PG X (.ψ o i pos) (oS to f t):=by
 intro a s d H v u Q K r h;apply Ao<|Gv<|A8 (g a s d H _ K h) λb l e=>?_;let(x,m,n,p,q):=e;apply Ao<|Gv<|A8 (j a l d m _ n q) λc w e=>?_;let(y,z,A,B,C):=e;show Ao<|wpAny_standAt<|Ao<|Gv<|A8 (k a w d z x y v b c u _ A p B r C) λ_ L ⟨E,G,q3⟩=>wpAny_release #[d,E,G,q3]
def MN(b:TE)(g:TG):TS:=λD a H=>b a H λx c=>g x a c D.nx
def
N8{b e:Expr}{c:TE}{g:TG}(f:PE X e c)(i:PG X b g)(j:↑(N9 [b] e pos.ϩ X.G=Am O'))(k:↑(Oa [b] e X.G=Am J)) (l:↑((Gu [b] X.G).j (·.2)=[assign b X.G])):PS X (.ϥ [b] e pos) (MN c g):=by
 intro a s d H D w h;apply wpAny_Assign_stores (A8 (f a s d H _ w h) λv m n=>?_) j k;let(x,o,p,r,t):=n;rw[l];show A8 (i a m d o x v _ p r t) λ_ u q=>q
def
Ob{i:I}{x:Ae}{e:Expr}{c:TE}{a:Az}(d:X.N.μ)(f:X.N[i]?=Z x)(g:Loc X.G.Δ x)(j:PE X e c)(k:↑(DR e (Z (.γ x a)) pos.ϩ X.G=Am O'))(l:↥(X.fn x=J'\/X.G.Δ.ρ.S x=Z .ϐ:4)):PS X (.ϥ [.γ x a] e pos) (MN c (Lx i)):=by
 intro b s m H D z h;apply wpAny_Assign_Name (A8 (j b s m H _ z h) λv u n=>?_) k;let(y,o,p,q,r):=n;show Uf p d f g q (λw t=>#[_,o,t,r]) l
end
set_option genInjectivity false in
structure It where
 go:I->Hp->V'
 yld:I->Hp->V->Hp->V'
 stop:I->Hp->V'
def Gw(X:Cx)(a:A1)(H:Hp)(b:Ac):V':=
 H b=J/\b≠X.G.Λ/\b∉X.fs/\(b∈X.ex\/X.s₀.r.O.o<=b)/\(∀x c,X.G.ϣ.S x=Z c->c≠b)/\∀p∈X.pn++a,p.1≠b
def
Inv.fpOk{a:A1}{H:Hp}{s:Ab}{b:Ac}(h:Inv X a Y' H s)(d:s.r.O.o<=b)(f:H' b=J):Gw X a H' b:=by
 apply#[f,Ia<|BY h.lt d,h.nofs d,.inr<|Bu h.sz d,λx c e z=>?_,λp g z=>?_]
 .let(v,q):=h.Υ x c e;show absurd (BY q.lt<|z ▸ d)<|HZ _
 .show absurd (BY (BB (h.pin p g).1)<|z ▸ d)<|HZ _
structure Ib(P:AN)(w:Ai)(K:Ap)(tg:Expr)(a:It)(fp:List Ac)(it:Ac)(tn:I->Al->V'):V' where
 mem:it∈fp
 obj:∀i h,tn i h->∀b∈fp,∃o,h.R b=Z o/\∀v,o.jk≠.Υ v
 keep:∀i h h',tn i h->(∀b∈fp,∀o,h.R b=Z o->h'.R b=Z o)->tn i h'
 item:∀(X:Cx),X.Y=P->X.w=w->X.K=K->X.Ϸ=J'->∀(i:I) (ß:A1) (s:Ab) (Y':St) (H:Hp) (E:AV),Inv X ß Y' H s->(∀b∈fp,Gw X ß H b)->tn i s.r->a.go i H ->
  wpAny (Af P w) X.A (pyNext (.C it)) (λr s1=>∃u,r=Z u /\
   wpAny (Af P w) X.A (letOwnedTupleGo tg (.C it) u) (λ_ s2=>∃x H',Inv X ß Y' H' s2/\RelV x u/\a.yld i H x H'/\tn (i+1) s2.r/\∀b∈fp,H' b=J) E s1) E s
 done:∀(X:Cx),X.Y=P->X.w=w->X.K=K->X.Ϸ=J'->∀(i:I) (ß:A1) (s:Ab) (Y':St) (H:Hp) (E:AV),Inv X ß Y' H s->(∀b∈fp,Gw X ß H b)->tn i s.r->a.stop i H ->
  wpAny (Af P w) X.A (pyNext (.C it)) (λr s1=>r=J/\Inv X ß Y' H s1) E s
 self:∀(A:Ag) (i:I) (s:Ab) (Q:AV) (E:AV),tn i s.r->Q (.C it) s->wpAny (Af P w) A (pyIter (.C it)) Q E s
abbrev TI:=St->Hp->(It->Hp->V')->V'
variable{wi:TI}
def aA(X:Cx)(a:A1)(Y':St)(h:Expr)(R:It->Hp->V')(c:Aa)(e:Ab):V':=
 ∃(it:Ac) (f:U Ac) (g:I->Al->V') (i:It) (d:Hp),c=.C it/\Inv X a Y' d e/\Ib X.Y X.w X.K h i f it g/\g 0 e.r/\(∀b∈f,Gw X a d b)/\R i d
def PI(X:Cx)(c iter:Expr)(wi:TI):V':=
 ∀(a:A1) (s:Ab) (b:St) (H:Hp) (R:It->Hp->V'),Inv X a b H s->wi b H R ->
  wpAny (Af X.Y X.w) X.A (As iter X.G) (λv d=>wpAny (Af X.Y X.w) X.A (pyIter v) (aA X a b c R) X.xe d) X.xe s
def
oU{M:Model}{A:Ag}{s:Ab}{b:Expr}{it:Ac}{o:Obj}{n:String}{vs:Array Aa}(c:s.r.R it=Z o)(d:o.cls=.ε n)(hd:o.jk=.ϊ vs) (e:["enumerate","zip","dict_itemiterator","dict_reverseitemiterator","odict_iterator","itertools.zip_longest","itertools.pairwise"].Μ n=O') (a:Q () s):wpAny M A (letOwnedTupleGo b (.C it) u) Q E s:=by
 ext b<;>first
  |show A0 a
  |(ext u<;>first
    |show A0 a
    |(apply Ao (wpAny_load c ?_)
      rw[d,hd];change wpAny M A (if(["enumerate","zip","dict_itemiterator","dict_reverseitemiterator","odict_iterator","itertools.zip_longest","itertools.pairwise"].Μ n&&vs[0]?==Z (AO _))=J' then _ else _) Q E s
      rw[if_neg (by intro h;rw[e,Bool.false_and]at h;ext h)];show A0 a))
def aB(K:Ap)(a:Ac):It:=
 #[λi H=>∃b x,BU K H a b/\b[i]?=Z x,λi H x c=>c=H/\∀b,BU K H a b->b[i]?=Z x,λi H=>∃b,BU K H a b/\b.a<=i]
def aC(K:Ap)(a:Ac):It:=
 #[λi H=>∃b x,Ck K H a b/\b[i]?=Z x,λi H x c=>c=H/\∀b,Ck K H a b->b[i]?=Z x,λi H=>∃b,Ck K H a b/\b.a<=i]
def Oc(lo:W')(n:I):It:=#[λi _=>i<n,λi H x a=>a=H/\x=.u (lo+i),λi _=>n<=i]
def
Od{P:AN}{w:Ai}{K:Ap}{N:Expr}{F:It}{it:Ac}{f:I->Al->V'}{n:String}(R:["enumerate","zip","dict_itemiterator","dict_reverseitemiterator","odict_iterator","itertools.zip_longest","itertools.pairwise"].Μ n=O') (ob:∀i h,f i h->∃o fs,h.R it=Z o/\o.cls=.ε n/\o.jk=.ϊ fs) (kp:∀i h h',f i h->(∀o,h.R it=Z o->h'.R it=Z o)->f i h') (M:∀(X:Cx) (i:I) (a:A1) (s:Ab) (Y':St) (H:Hp) (E:AV) (Q:O Aa->Ab->V'),X.K=K->X.A.ϡ=J->Inv X a Y' H s->f i s.r->(F.go i H->(∀u x h' g,f (i+1) h'->(∀b o,b≠it->s.r.R b=Z o->h'.R b=Z o)->RelV x u->F.yld i H x H->Q (Z u) {s with heap:=h',toks:=g})->wpAny (Af P w) X.A (pyNext (.C it)) Q E s)/\(F.stop i H->(∀h' g,(∀b o,b≠it->s.r.R b=Z o->h'.R b=Z o)->Q J {s with heap:=h',toks:=g})->wpAny (Af P w) X.A (pyNext (.C it)) Q E s)) (T:∀(A:Ag) (i:I) (s:Ab) (Q:AV) (E:AV),f i s.r->Q (.C it) s->wpAny (Af P w) A (pyIter (.C it)) Q E s):Ib P w K N F [it] it f where
 mem:=by simp
 obj:=λi h st b m=>by
  let(o,fs,e,_,d):=ob i h st;rw[CC.mp m];show#[o,e,λv z=>by rw[d]at z;cases z]
 keep:=λi h h' st k=>kp i h h' st<|k it (by simp);item:=by
  intro X S Y p q i a s Y' H E W l st r;let(t,B,f2,C,G,L):=l it (by simp);refine(M X i a s Y' H E _ p (W.ok.hd q) W st).1 r λu x h' g j k ru y=>?_;let(o,fs,e,c,d):=ob _ _ j;show#[u,rfl,oU (s:={s with heap:=h',toks:=g}) e c d R #[x,H,W.turned k t B C G L,ru,y,j,λb m=>(l b m).1]]
 done:=by
  intro X S Y p q i a s Y' H E W l st r;let(t,B,f2,C,G,L):=l it (by simp);show(M X i a s Y' H E _ p (W.ok.hd q) W st).2 r λh' g k=>#[rfl,W.turned k t B C G L]
 self:=T
def
oV{P:AN}{w:Ai}{K:Ap}{y:Expr}(a it:Ac):Ib P w K y (aB K a) [it] it (λi h=>h.IsListIter it a i):=by
 apply Od (n:="list_iterator") (by ext) (λi h st=>?_) (λi h f st k=>st.at k) (λX i t s R H E Q z A W st=>?_) λ_ _ _ _ _ st h=>wpAny_pyIter_listiter st h
 .let(o,e,c,d):=st;show#[o,_,e,c,d]
 .subst z;constructor<;>intro v q
  .let(B,x,g,j):=v;let(l,m,p,C):=W.Ϩ g;let(u,G,F):=m.ό j;show wpAny_pyNext_list_item st p.ύ (x:=u) (by exists G) λf r sb=>q u x f s.Ζ r (λb o L e=>(sb.2 b L).I e) F #[rfl,λT M=>W.list_inj M g ▸ j]
  .let(B,g,j):=v;let(l,m,p,C):=W.Ϩ g;let S:=m.a;show wpAny_pyNext_list_end A st p.ύ (by simp;lia) λf N=>q f s.Ζ N
def
oW{P:AN}{w:Ai}{K:Ap}{y:Expr}(a it:Ac):Ib P w K y (aC K a) [it] it (λi h=>h.IsTupleIter it a i):=by
 apply Od (n:="tuple_iterator") (by ext) (λi h st=>?_) (λi h g st k=>st.at k) (λX i t s R H E Q z A W st=>?_) λ_ _ _ _ _ st h=>wpAny_pyIter_tupleiter st h
 .let(o,e,c,d):=st;show#[o,_,e,c,d]
 .subst z;constructor<;>intro v q
  .let(B,x,j,l):=v;let(f,m,p,C):=W.ϗ j;let(u,G,F):=m.ό l;show wpAny_pyNext_tuple_item st (show s.r.IsTuple a f.E from p) (x:=u) (by exists G) λg r sb=>q u x g s.Ζ r (λb o L e=>(sb.2 b L).I e) F #[rfl,λT M=>W.tuple_inj M j ▸ l]
  .let(B,j,l):=v;let(f,m,p,C):=W.ϗ j;let S:=m.a;show wpAny_pyNext_tuple_end A st (show s.r.IsTuple a f.E from p) (by simp;lia) λg N=>q g s.Ζ N
def
oX{P:AN}{w:Ai}{K:Ap}{j:Expr}(it:Ac)(lo:W')(n:I):Ib P w K j (Oc lo n) [it] it (λi h=>IsRangeIter h it (lo+(i:I)*1) ((n:W')-(i:I)) 1):=by
 apply Od (n:="range_iterator") (by ext) (λi h st=>#[_,_,st,rfl,rfl]) (λi h a st k=>k _ st) (λX i d s x H E Q y f z st=>?_) λ_ _ _ _ _ st h=>wpAny_pyIter_rangeiter st h;constructor<;>intro g q
 .refine(Walks.range f it lo 1 n).item i s _ _ g st λv a l m c p=>?_;let(t,rfl):=m;show q _ (.u<|lo+i) a l c (λb o r e=>p b o (by exists r) e) #[t,by simp] #[rfl,rfl]
 .show wpAny_pyNext_range_end f st (by have:n<=i:=g;lia) λa u=>q a s.Ζ u
section
def oY(K:Ap)(tl:TE):TI:=λc H R=>tl c H λx b=>∃a,x=.C a/\(∃d,BU K b a d)/\R (aB K a) b
def oZ(K:Ap)(tl:TE):TI:=λc H R=>tl c H λx b=>∃a,x=.C a/\(∃d,Ck K b a d)/\R (aC K a) b
def
aE{l:Expr}{tl:TE}(g:PE X l tl):PI X tg l (oY X.K tl):=by
 intro c s i H R z h;apply A8 (g c s i H _ z h) λv d j=>?_;let(x,k,f,m,a,e,(u,n),q):=j;subst e;ext m;let(r,w,p,y):=f.Ϩ n;apply QG p.ύ ?_;apply#[d.r.O.o,[d.r.O.o],_,_,k,rfl,f.ϲ (t':=d.Ζ) λb o e=>By _ e,oV a _,#[_,Cq _ rfl,rfl,rfl],λb t=>?_,q];let e:b=d.r.O.o:=by exists t
 subst e;show f.fpOk (A4 _)<|f.ϧ.Τ<|A4 _
def
o0{l:Expr}{tl:TE}(i:PE X l tl):PI X tg l (oZ X.K tl):=by
 intro c s j H R z h;apply A8 (i c s j H _ z h) λv d k=>?_;let(x,m,f,n,a,e,(u,r),q):=k;subst e;ext n;let(g,w,p,y):=f.ϗ r;apply wpAny_pyIter_tuple (show d.r.IsTuple a g.E from p) ?_;apply#[d.r.O.o,[d.r.O.o],_,_,m,rfl,f.ϲ (t':=d.Ζ) λb o e=>By _ e,oW a _,#[_,Cq _ rfl,rfl,rfl],λb t=>?_,q];let e:b=d.r.O.o:=by exists t
 subst e;show f.fpOk (A4 _)<|f.ϧ.Τ<|A4 _
def
aF{a:A1}{H:Hp}{s:Ab}{R:It->Hp->V'}{lo c:W'}{t u v:Tok}{d:I}(l:Inv X a Y' H s)(g : -(2^62)<=lo)(h:lo<2^62)(i : -(2^62)<=c)(j:c<2^62) (q:R (Oc lo (c-lo).ζ) H):wpAny (Af X.Y X.w) X.A (pyIter (.C s.r.O.o)) (aA X a Y' tg R) E {s with heap:=s.r.Ι {cls:=.ε "range",data:=.ϊ (T' [.u lo t,.u c u,.u 1 v])},toks:=d}:=by
 apply wpAny_pyIter_range (IsRange.new ..) (small_one g h i j) ?_;let f:Inv X a Y' H {s with heap:=s.r.Ι {cls:=.ε "range",data:=.ϊ (T' [.u lo t,.u c u,.u 1 v])},toks:=d}:=l.ϲ λb o e=>By _ e;apply#[(s.r.Ι {cls:=.ε "range",data:=.ϊ (T' [.u lo t,.u c u,.u 1 v])}).O.o,[(s.r.Ι {cls:=.ε "range",data:=.ϊ (T' [.u lo t,.u c u,.u 1 v])}).O.o],_,_,H,rfl,
  f.ϲ (t':=d) λb o e=>By _ e,oX _ lo (c-lo).ζ,?_,λb k=>?_,q]
 .rw[show lo+((0:I):W')*1=lo by simp,show(((c-lo).ζ:I):W')-((0:I):W')=Builtin.Range.rangeSize lo c 1 by rw[rangeSize_one];split<;>lia];show Cq _ rfl
 .let e:b=(s.r.Ι {cls:=.ε "range",data:=.ϊ (T' [.u lo t,.u c u,.u 1 v])}).O.o:=by exists k
  subst e;show f.fpOk (A4 _)<|f.ϧ.Τ<|A4 _
def o4(a:TA):TI:=λb H R=>a b H λc d=>∃j:W',c=[.u j] /\ -(2^62)<=j/\j<2^62/\R (Oc 0 j.ζ) d
def o5(a:TA):TI:=λb H R=>a b H λc d=>∃i j:W',c=[.u i,.u j]/\(-(2^62)<=i/\i<2^62 /\ -(2^62)<=j/\j<2^62)/\R (Oc i (j-i).ζ) d
def
o6{a:Expr}{d:TA}{p:Az}(e:Gl X "range")(f:X.mg "range"=J)(g:PA X [a] d)(i:↑(AQ [a] X.G=[(O',As a X.G)])):PI X tg (.Φ (.γ "range" p) [a] [] pos) (o4 d):=by
 intro b s k H R z h;apply Call_<|H9 z e f boot_range<|Oe (A8 (g pos b s k H _ z h) λv w l=>?_) i rfl;let(x,y,m,n,c):=l;let(j,rfl,c,o,q):=c;cases n with
 |cons r u=>
  ext u;let(t,rfl):=r;show call_range_1<|aF m (Int.neg_ofNat_le_ofNat (2^62) 0) (W.kbt_pos 62) c o (by exists q)
def
o7{a b:Expr}{g:TA}{p:Az}(k:Gl X "range")(l:X.mg "range"=J)(m:PA X [a,b] g)(n:↑(AQ [a,b] X.G=[(O',As a X.G),(O',As b X.G)]))(c:↑(AQ [b] X.G=[(O',As b X.G)])):PI X tg (.Φ (.γ "range" p) [a,b] [] pos) (o5 g):=by
 intro d s o H R F h;apply Call_<|H9 F k l boot_range<|Oe (A8 (m pos d s o H _ F h) λA B u=>?_) (by rw[n,c]) (by rw[c];rfl);let(C,E,v,w,e):=u;let(i,j,rfl,(e,x,q3,y),q):=e;cases w with
 |cons r f=>
  cases f with
  |cons z f=>
   ext f;let(t,rfl):=r;let(G,rfl):=z;show call_range_2<|aF v e x q3 y q
def aG(wi:TI)(g:TG)(f:TS):TS:=λD a H=>wi a H λk h=>∃W:I->I->St->Hp->V',(∃m,W 0 m a h)/\∀i m a H,W i m a H ->
 (k.stop i H/\D.nx a H)\/(k.go i H/\∃N:St->Hp->V',(∀b c,N b c->∃e,e<m/\W (i+1) e b c)/\∀x c,k.yld i H x c->g x a c λd j=>f {D with nx:=N,ct:=N,bk:=D.nx} d j)
def Ly(a:U Ac)(h:Al):A1:=a.filterMap λb=>(h.R b).j λo=>(b,o)
def
QH{a:U Ac}{h:Al}{b:Ac}{o:Obj}(c:b∈a)(e:h.R b=Z o):(b,o)∈Ly a h:=List.mem_filterMap.Ϛ #[b,c,by rw[e];rfl]
def
aH{a:U Ac}{h:Al}{p:Ac×Obj}(c:p∈Ly a h):p.1∈a/\h.R p.1=Z p.2:=by
 let(b,d,e):=List.mem_filterMap.mp c;let(o,q,e):=B2.mp e;grind
def
Inv.pinned{a:A1}{H:Hp}{s:Ab}{c:U Ac}(n:Inv X a Y' H s)(h:∀b∈c,Gw X a H b)(i:∀b∈c,∃o,s.r.R b=Z o/\∀v,o.jk≠.Υ v):Inv X (a++Ly c s.r) Y' H s:=n.pins_of λp j=>(Cz.mp j).ι (λz=>n.pin p<|Dv _ z) λz=>by
  let(f,e):=aH z;let(k,l,m,_):=h p.1 f;let(o,g,d):=i p.1 f;rw[e]at g;ext g;show#[e,k,l,m,d]
def
Inv.unpinned{a pl:A1}{H:Hp}{s:Ab}(c:Inv X (a++pl) Y' H s):Inv X a Y' H s:=c.pins_of λp b=>c.pin p<|Dv _<|J5 _ b
def
Uk{z:U Ay}{g:TG}{tb:TS}(E:PassesOwn (Af X.Y X.w) X.A X.G X.xe)(hc:X.Ϸ=J')(hi:PI X tg iter wi)(hg:PG X tg g)(j:E3 X z tb) (hs:↥(∀x,Fg iter X.G x=Am x:7)):PS X (.For tg iter z [] pos) (aG wi g tb):=by
 intro a s Y' H D R h;apply wpAny_For (A8 (hi a s Y' H _ R h) λv s1 h1=>A8 h1 λitv s2 h2=>?_) hs;let(it,G,tn,F,H2,e,I2,T,Q,f2,W,(m0,w0),turn):=h2;subst e;let k:∀{y:Hp},(∀b∈G,y b=J)->∀b∈G,Gw X a y b:=λhn b j=>#[hn b j,(f2 b j).2];apply codeAny_forLoop_any (λn s'=>∃i l y,Inv X a l y s'/\tn i s'.r/\(∀b∈G,y b=J)/\W i n l y) ?_ m0 #[0,Y',H2,I2,Q,λb j=>(f2 b j).1,w0];intro n s3 zQ;let(i,p,K,I3,L,M,w3):=zQ;rcases turn i n p K w3 with⟨stop,qn⟩|⟨go,N,hN,step⟩
 .apply QI E<|A8 (T.done X rfl rfl rfl hc i a s3 p K X.xe I3 (k M) L stop) λr s4 ⟨P,I4⟩=>?_;subst P;show wpAny_execs_nil #[p,K,I4,qn]
 .apply QI E<|A8 (T.item X rfl rfl rfl hc i a s3 p K X.xe I3 (k M) L go) λr s4 ⟨u,P,h4⟩=>?_;subst P;apply QI E<|A8 h4 λ_ s5 Y=>?_;let(x,H5,I5,r5,y5,C,fr5):=Y;apply QI E<|A8 (hg _ s5 p H5 x u _ (I5.pinned (k fr5)<|T.obj _ _ C) r5<|step x H5 y5) λ_ s6 Y=>?_;let(σ6,H6,I6,q6):=Y;apply QI E<|A8 (j _ s6 σ6 H6 _ I6 q6) λf s7 B=>?_;let again:∀{c:St} {q:Hp},Inv X (a++Ly G s5.r) c q s7->N c q->∃m,m<n/\∃i l y,Inv X a l y s7/\tn i s7.r/\(∀b∈G,y b=J)/\W i m l y:=λ{c q} t n7=>by
   let(m',hm,w7):=hN c q n7;apply#[m',hm,i+1,c,q,t.unpinned,T.keep _ _ _ C λb j o e=>(t.pin (b,o)<|Dv _<|Dv _<|QH j e).1,λb j=>?_,w7];let(o,e,d):=T.obj _ _ C b j;show(t.pin (b,o)<|Dv _<|Dv _<|QH j e).2.1
  cases f with
  |next=>let(c,q,t,n7):=B;show again t n7
  |cont=>let(c,q,t,n7):=B;show again t n7
  |brk=>let(c,q,t,B):=B;show#[c,q,t.unpinned,B]
  |ret v=>let(x7,c,q,t,r7,B):=B;show#[x7,c,q,t.unpinned,r7,B]
end
abbrev R2:=V->V->Hp->VK->V'
def B7(X:Cx)(f:Aa->Aa->BI Aa)(r:R2):V':=
 ∀(a:A1) (s:Ab) (b:St) (H:Hp) (x y:V) (v u:Aa) (Q:VK),Inv X a b H s->RelV x v->RelV y u->r x y H Q ->
  wpAny (Af X.Y X.w) X.A (f v u) (EP X a b Q) X.xe s
def Ul(X:Cx)(f:Aa->BI Aa)(r:V->Hp->VK->V'):V':=
 ∀(a:A1) (s:Ab) (b:St) (H:Hp) (x:V) (v:Aa) (Q:VK),Inv X a b H s->RelV x v->r x H Q ->
  wpAny (Af X.Y X.w) X.A (f v) (EP X a b Q) X.xe s
def EO(X:Cx)(f:Aa)(r:U V->Hp->VK->V'):V':=
 ∀(a:A1) (s:Ab) (b:St) (H:Hp) (c:U V) (d:U Aa) (Q:VK),Inv X a b H s->Aq c d->r c H Q ->
  wpAny (Af X.Y X.w) X.A (call f d) (EP X a b Q) X.xe s
def o8(X:Cx)(r:V->Hp->(q'->Hp->V')->V'):V':=
 ∀(a:A1) (s:Ab) (b:St) (H:Hp) (x:V) (v:Aa) (Q:q'->Hp->V'),Inv X a b H s->RelV x v->r x H Q ->
  wpAny (Af X.Y X.w) X.A (truthy v) (TP X a b Q) X.xe s
def Lz(r:R2)(b c:TE):TE:=λa H Q=>b a H λx d=>c a d λy e=>r x y e Q
def o9(r:V->Hp->VK->V')(a:TE):TE:=λb H Q=>a b H λx c=>r x c Q
def rI(C:W'->W'->V')(g:W'->W'->V):R2:=λx y H Q=>∃i j,x=.u i/\y=.u j/\C i j/\Q (g i j) H
def Ic(g:W'->W'->V):R2:=λx y H Q=>∃i j,x=.u i/\y=.u j/\Q (g i j) H
def rU(g:W'->V):V->Hp->VK->V':=λx H Q=>∃i,x=.u i/\Q (g i) H
variable {a b c:Expr}{tb:TE}
def
Um(l:PE X a ta)(m:PE X b tb){c:A1}{s:Ab}{H:Hp}{R:V->V->Hp->V'}(C:Inv X c Y' H s)
  (h:ta Y' H λx j=>tb Y' j λy d=>R x y d) {Q:AV} {f:Aa->Aa->BI Aa}
  (n:∀v u i x y d,Inv X c Y' d i->RelV x v->RelV y u->R x y d->wpAny (Af X.Y X.w) X.A (f v u) Q X.xe i):wpAny (Af X.Y X.w) X.A (As a X.G) (λv e=>wpAny (Af X.Y X.w) X.A (As b X.G) (λu g=>wpAny (Af X.Y X.w) X.A (f v u) Q X.xe g) X.xe e) X.xe s:=by
 apply A8 (l c s Y' H _ C h) λv o k=>?_
 let(x,j,p,q,r):=k
 apply A8 (m c o Y' j _ p r) λu i k=>?_
 let(y,d,t,z,B):=k
 show n v u i x y d t q z B
def
pc{op:Operator}{r:R2}(d:B7 X (GS op) r)(e:PE X a ta)(f:PE X b tb):PE X (.BinOp a op b pos) (Lz r ta tb):=by
 intro c s g H Q n h;show wpAny_BinOp<|Um e f n h λv u i x y j k l m q=>d c i g j x y v u Q k l m q
def
pe{op:UnaryOp}{r:V->Hp->VK->V'}(d:Ul X (unaryOp op) r)(e:PE X a ta):PE X (.UnaryOp op a pos) (o9 r ta):=by
 intro b s c H Q l h;show UnaryOp_<|A8 (e b s c H _ l h) λv f ⟨x,g,i,j,k⟩=>d b f c g x v Q i j k
def
QJ{f:Aa->Aa->BI Aa}{C:W'->W'->V'}{g:W'->W'->W'} (rule:∀(i j:W') (t u:Tok) (s:Ab) (Q:AV) (E:AV),C i j->Q (.u (g i j) s.Ζ) {s with toks:=s.Ζ+1}->wpAny (Af X.Y X.w) X.A (f (.u i t) (.u j u)) Q E s):B7 X f (rI C λi j=>.u (g i j)):=by
 intro a s h H x y v u Q k b c zQ;let(i,j,rfl,rfl,d,q):=zQ;let(t,rfl):=b;let(e,rfl):=c;show rule i j t e s _ _ d #[.u<|g i j,H,k.tok _,⟨_,rfl⟩,q]
def
aI{f:Aa->Aa->BI Aa}{g:W'->W'->W'} (rule:∀(i j:W') (t u:Tok) (s:Ab) (Q:AV) (E:AV),Q (.u (g i j) s.Ζ) {s with toks:=s.Ζ+1}->wpAny (Af X.Y X.w) X.A (f (.u i t) (.u j u)) Q E s):B7 X f (Ic λi j=>.u (g i j)):=by
 intro a s e H x y v u Q h b c zQ;let(i,j,rfl,rfl,q):=zQ;let(t,rfl):=b;let(d,rfl):=c;show rule i j t d s _ _ #[.u<|g i j,H,h.tok _,⟨_,rfl⟩,q]
def
Uo{f:Aa->Aa->BI Aa}{g:W'->W'->q'} (rule:∀(i j:W') (t u:Tok) (s:Ab) (Q:AV) (E:AV),Q (.Ϥ (g i j)) s->wpAny (Af X.Y X.w) X.A (f (.u i t) (.u j u)) Q E s):B7 X f (Ic λi j=>.bl (g i j)):=by
 intro a s e H x y v u Q h b c zQ;let(i,j,rfl,rfl,q):=zQ;let(t,rfl):=b;let(d,rfl):=c;show rule i j t d s _ _ #[.bl<|g i j,H,h,rfl,q]
def Of(i j:W'):V':=0<j/\j<1073741824
def LA(i j:W'):V':=0<=j/\j<=1000000/\i.natAbs<2^64
def Ec(i j:W'):V':=(-(2^64)<i/\i<2^64)\/(-(2^64)<j/\j<2^64)
def
Ec.ok{i j:W'}(h:Ec i j):IntMulOk i j:=by
 rcases h with⟨a,b⟩|⟨a,b⟩
 .show .of_left<|intBits_le_64 a b
 .show .of_right<|intBits_le_64 a b
def
LB:B7 X (GS .Add) (Ic λi j=>.u (i+j)):=aI λ_ _ _ _ _ _ _ q=>add_int q
def
pf:B7 X (GS .Sub) (Ic λi j=>.u (i-j)):=aI λ_ _ _ _ _ _ _ q=>sub_int q
def
ph:B7 X (GS .Mult) (rI Ec λi j=>.u (i*j)):=QJ λ_ _ _ _ _ _ _ a q=>mul_int q a.ok
def
pi:B7 X (GS .FloorDiv) (rI Of λi j=>.u (i/j)):=QJ λi j _ _ _ _ _ a q=>by
 let b:(0:W')<j:=a.1;let c:j<1073741824:=a.2;show floordiv_int (Cj<|Int.ne_of_lt b) (Int.fdiv_eq_ediv_of_nonneg i (Int.le_of_lt b) ▸ q)<|.U<|PyProof.noPylong_small ∅
def
pj:B7 X (GS .Mod) (rI (λ_ j=>0<j) λi j=>.u (i%j)):=QJ λi j _ _ _ _ _ a q=>by
 show mod_int' ∅ (by rw[Int.fmod_eq_emod_of_nonneg i ∅];show q)
def
pq:B7 X (GS .Pow) (rI LA λi j=>.u (i^j.ζ)):=QJ λ_ _ _ _ _ _ _ a q=>pow_int_small a.1 a.2.1 a.2.2 q
def
pr{f:Aa->BI Aa}{g:W'->W'} (rule:∀(i:W') (t:Tok) (s:Ab) (Q:AV) (E:AV),Q (.u (g i) s.Ζ) {s with toks:=s.Ζ+1}->wpAny (Af X.Y X.w) X.A (f (.u i t)) Q E s):Ul X f (rU λi=>.u (g i)):=by
 intro a s c H x v Q d b zQ;let(i,rfl,q):=zQ;let(t,rfl):=b;show rule i t s _ _ #[.u<|g i,H,d.tok _,⟨_,rfl⟩,q]
def
pu:Ul X (unaryOp .USub) (rU λi=>.u (-i)):=pr λ_ _ _ _ _ q=>neg_int q
end
variable {a b c:Expr}{tb tc:TE}
def
aJ{a:A1}{H:Hp}{s:Ab}{Q:VK}{k k':q'}(b:Inv X a Y' H s)(q:Q (.bl k) H)(e:k=k'):EP X a Y' Q (.Ϥ k') s:=by
 subst e;show#[.bl k,H,b,rfl,q]
def
Up:B7 X (Du .LtE) (Ic λi j=>.bl (decide (i<=j))):=Uo λ_ _ _ _ _ _ _ q=>le_int q
def
aK:B7 X (Du .Gt) (Ic λi j=>.bl (decide (j<i))):=Uo λ_ _ _ _ _ _ _ q=>gt_int q
def
pv:B7 X (Du .GtE) (Ic λi j=>.bl (decide (j<=i))):=Uo λ_ _ _ _ _ _ _ q=>ge_int q
def
aL:B7 X (Du .In) (λx y H Q=>∃i j,x=.ω i/\y=.ω j/\Q (.bl (!(Og j i 0 j.a 1).Ω)) H):=by
 intro a s d H x y v u Q f b c zQ;let(i,j,rfl,rfl,q):=zQ;let(t,rfl):=b;let(e,rfl):=c;show in_str<|aJ f q rfl
def
px:B7 X (Du .NotIn) (λx y H Q=>∃i j,x=.ω i/\y=.ω j/\Q (.bl (!(!(Og j i 0 j.a 1).Ω))) H):=by
 intro a s d H x y v u Q f b c zQ;let(i,j,rfl,rfl,q):=zQ;let(t,rfl):=b;let(e,rfl):=c;show notIn_str<|aJ f q rfl
def
B7.or{f:Aa->Aa->BI Aa}{r b:R2}(h:B7 X f r)(h':B7 X f b):B7 X f (λx y H Q=>r x y H Q\/b x y H Q):=by
 intro a s c H x y v u Q g d e q;rcases q with q|q
 .show h a s c H x y v u Q g d e q
 .show h' a s c H x y v u Q g d e q
def
aM{op:CmpOp}{r:R2}(d:B7 X (Du op) r)(e:PE X a ta)(f:PE X b tb)(g:Gr op b=O'):PE X (.Κ a [op] [b] pos) (Lz r ta tb):=by
 intro c s i H Q o h;show wpAny_Compare1 (Um e f o h λv u j x y k l m n q=>d c j i k x y v u Q l m n q) g
def py(t:TE):TT:=λa H Q=>t a H λx b=>∃k,x=.bl k/\Q k b
def
aN{op:CmpOp}{r:R2}(g:B7 X (Du op) r)(i:PE X a ta)(j:PE X b tb)(l:Gr op b=O'):PT X (.Κ a [op] [b] pos) (py (Lz r ta tb)):=by
 intro d s f H Q K h;apply wpAny_isTrue_Compare1 (A8 (i d s f H _ K h) λv m ⟨x,n,o,p,q⟩=>A8 (j d m f n _ o q) λu t ⟨y,w,A,B,C⟩=>
  A8 (g d t f w x y v u _ A p B C) λc L ⟨z,E,G,F,k,e,q3⟩=>?_) l
 subst e;ext F;show J6 #[E,G,q3]
def aO(r c:R2)(ta tb tc:TE):TE:=λa H Q=>ta a H λx d=>tb a d λy e=>r x y e λz b=>∃k,z=.bl k /\
 (if k=J' then tc a b λf g=>c y f g Q else Q (.bl O') b)
def
pz{op g:CmpOp}{r l:R2}(p:B7 X (Du op) r)(j:B7 X (Du g) l)(q:PE X a ta)(t:PE X b tb)(w:PE X c tc) (A:↥(lastMarks [op,g] [b,c]=O':16)):PE X (.Κ a [op,g] [b,c] pos) (aO r l ta tb tc):=by
 intro f s i H Q R h;apply Compare_chain (A8 (q f s i H _ R h) λv B ⟨x,C,E,G,F⟩=>chain_link (A8 (t f B i C _ E F) λu L ⟨y,M,N,m,K⟩=>
  A8 (p f L i M x y v u _ N G m K) λd T ⟨z,n,o,P,k,e,q3⟩=>?_)) A
 subst e;ext P;apply J6 ?_;cases k with
 |false=>show ite_ff #[.bl O',n,o,rfl,q3]
 |true=>show ite_tt<|chain_last<|A8 (w f T i n _ o q3) λY s4 ⟨z',H4,I4,r4,q4⟩=>j f s4 i H4 y z' u Y Q I4 m r4 q4
def aP(K:Ap)(x:V)(H:Hp)(k:q'):V':=
 match x with
 |.non=>k=O'
 |.bl b=>k=b
 |.int i=>k=(i != 0)
 |.str y=>y.a<=AE/\k=((y.a:W') != 0)
 |.ref p=>(∃a,BU K H p a/\k=!a.isEmpty)\/(∃a,Ck K H p a/\k=!a.isEmpty)
 |_=>False
def
aQ{xs:U V}{a:U Aa}(r:Aq xs a):(!a.toArray.isEmpty)=!xs.isEmpty:=by
 ext r<;>simp
def
Oh:(AE:I)<2^63:=by rw[IX];decide
def
pA:o8 X (λx H Q=>∃k,aP X.K x H k/\Q k H):=by
 intro h s m H x v Q u a zQ;let(k,e,q):=zQ;let n:=Oh;cases x with
 |non=>
  ext a;subst e;show truthy_none #[H,u,q]
 |bl b=>
  ext a;let e:k=b:=e;subst e;show J6 #[H,u,q]
 |int i=>
  let(t,rfl):=a;subst e;show PySem.P.truthy_int #[H,u,q]
 |str y=>
  let(t,rfl):=a;obtain⟨o,e⟩:y.a<=AE/\k=((y.a:W') != 0):=e;subst e;show PySem.P.truthy_str ∅ #[H,u.tok _,q]
 |ref p=>
  ext a;rcases e with⟨j,d,e⟩|⟨j,d,e⟩
  .subst e;let(f,r,g,l):=u.Ϩ d;let c:=r.a;show wpAny_truthy_list g.ύ (by erw[B3];lia) #[H,u.tok _,aQ r ▸ q]
  .subst e;let(f,r,g,l):=u.ϗ d;let c:=r.a;show truthy_tuple g (by erw[B3];lia) #[H,u.tok _,aQ r ▸ q]
 |_=>show(show False from e).ι
def
pB(d:PE X a ta)(e:∀b,isTrue a X.G b=(do let v <- b;standAt a.pos;EN [v] (truthy v))):PT X a (λY' H Q=>ta Y' H λx H'=>∃k,aP X.K x H' k/\Q k H'):=by
 intro c s Y' H Q m h;show isTrue_plain (A8 (d c s Y' H _ m h) λv f ⟨x,g,i,j,l⟩=>pA c f Y' g x v Q i j l) (e _)
def
FJ:B7 X (GS .Add) (λx y H Q=>∃i j,x=.ω i/\y=.ω j/\i.a+j.a<=AE/\Q (.ω (i++j)) H):=by
 intro a s f H x y v u Q h b c zQ;let(i,j,rfl,rfl,d,q):=zQ;let(t,rfl):=b;let(e,rfl):=c;show add_str (λe g=>#[.ω<|i++j,H,h.tok _,⟨_,rfl⟩,q]) d
def
FL{x:V}{us:U Aa}(r:Aq [x] us):∃u,us=[u]/\RelV x u:=by
 cases r with
 |cons a b=>ext b;show#[_,rfl,a]
def
Oi{x y:V}{us:U Aa}(r:Aq [x,y] us):∃u a,us=[u,a]/\RelV x u/\RelV y a:=by
 cases r with
 |cons b c=>
  cases c with
  |cons d e=>ext e;show#[_,_,rfl,b,d]
def
pC(c:X.Ϸ=J'):EO X (.ξ "max") (λxs H Q=>∃i j,xs=[.u i,.u j]/\Q (.u (if j>i then j else i)) H):=by
 intro b s d H xs e Q m r zQ;let(i,j,rfl,q):=zQ;let(u,f,rfl,(t,rfl),(g,rfl)):=Oi r;apply max_two_ints (m.ok.hd c) λh l k=>#[_,H,m.ϲ k,?_,q];by_cases a:j>i
 .rw[if_pos a,if_pos a];show#[_,rfl]
 .rw[if_neg a,if_neg a];show#[_,rfl]
def
pD(c:X.Ϸ=J'):EO X (.ξ "min") (λxs H Q=>∃i j,xs=[.u i,.u j]/\Q (.u (if j<i then j else i)) H):=by
 intro b s d H xs e Q m r zQ;let(i,j,rfl,q):=zQ;let(u,f,rfl,(t,rfl),(g,rfl)):=Oi r;apply min_two_ints (m.ok.hd c) λh l k=>#[_,H,m.ϲ k,?_,q];by_cases a:j<i
 .rw[if_pos a,if_pos a];show#[_,rfl]
 .rw[if_neg a,if_neg a];show#[_,rfl]
def
pE:EO X (.ε "int") (λxs H Q=>(∃i,xs=[.u i]/\Q (.u i) H)\/∃k,xs=[.bl k]/\Q (.u (if k then 1 else 0)) H):=by
 intro a s c H xs d Q e r h;rcases h with⟨i,rfl,q⟩|⟨k,rfl,q⟩
 .let(u,rfl,t,rfl):=FL r;show call_int_int #[.u i,H,e,#[_,rfl],q]
 .let(u,rfl,b):=FL r;ext b;show call_int_bool #[.u<|if k then 1 else 0,H,e.tok _,⟨_,rfl⟩,q]
def aR(K:Ap)(x:V)(H:Hp)(n:I):V':=
 match x with
 |.str y=>y.a<=AE/\n=y.a
 |.ref p=>(∃a,BU K H p a/\n=a.a)\/∃a,Ck K H p a/\n=a.a
 |_=>False
def
aS:EO X (.ξ "len") (λxs H Q=>∃x n,xs=[x]/\aR X.K x H n/\Q (.u n) H):=by
 intro g s j H xs k Q o r zQ;let(x,n,rfl,e,q):=zQ;let(u,rfl,h):=FL r;let l:AE=16777216:=IX;cases x with
 |str y=>
  let(t,rfl):=h;obtain⟨m,rfl⟩:y.a<=AE/\n=y.a:=e;show len_str ∅ #[.u _,H,o.tok _,#[_,rfl],q]
 |ref p=>
  ext h;rcases e with⟨xs,b,e⟩|⟨xs,b,e⟩
  .subst e;let(c,d,f,i):=o.Ϩ b;let a:=d.a;show Calls.call_len_list f.ύ (by erw[B3];lia) #[.u xs.a,H,o.tok _,#[_,by erw[B3];rw[a]],q]
  .subst e;let(c,d,f,i):=o.ϗ b;let a:=d.a;show len_tuple f (by erw[B3];lia) #[.u xs.a,H,o.tok _,#[_,by erw[B3];rw[a]],q]
 |_=>show(show False from e).ι
end
structure FM(h:Al)(x dx C:Ac)(mA:Bt):V' where
 obj:h.R x=Z (Lu C dx)
 ns:h.Ns1 dx mA
 ne:dx≠x
open J in
def
pF{h:Al}{c:Ac}{d:Bt}(n:h.Ns1 c d):∃f,h.R c=Z f/\∀name,PySem.W.lookIn name f=Z (d name):=by
 let(o,g,m,i,hd,j,_,k):=n;apply#[o,i,λname=>?_];let e:=k name;unfold nsFind findBy at e;rw[<- Array.find?_toList]at e;unfold PySem.W.lookIn;rw[hd];dsimp only;split
 .rename_i y q;rw[q]at e;show congrArg Z e
 .rename_i q;rw[q]at e;let a:g.J.any (·.refKey)=O':=by
   rw[List.any_eq_false];intro y l;let(z,t,b):=j y<|Array.mem_toList_iff.mp l;simp[DictEntry.refKey,b]
  rw[if_neg (show ¬ g.J.any (·.refKey)=J' by rw[a];show N1)];show congrArg Z e
def
FM.look{h:Al}{x b:Ac}{c:Bt}(f:FM h x b C c):∃a,PySem.W.InstAt h x (Lu C b) C (Z a)/\∀name,PySem.W.lookIn name a=Z (c name):=let⟨a,d,e⟩:=pF f.ns
 #[a,#[f.obj,rfl,rfl,d],e]
variable {prog:AN}{w:Ai}{A:Ag}{s:Ab}{K:Ap}{x dx f:Ac}{mA:Bt}{name:Ae}{v:Aa}
def
pG{a:q'}{Q:AV}(X:K.In s.r)(k:FM s.r x dx C mA)(c:PySem.W.plainGet K C name=J')(d:PySem.W.hasDictIn K C=J')
  (e:J7 K (.C C) name=Z J) (f:mA name=Z v) (b:PySem.W.handedIn v=J') (h:Q v {s with toks:=s.Ζ+1}):wpAny (Af prog w) A (getAttr (.C x) name a) Q E s:=by
 let(i,j,g):=k.look
 show PySem.W.get_value X j (PySem.W.plainGet_of c).1 (PySem.W.findObj_own d e rfl (by rw[g,f])) b h
def
pH{Q:Aa×U Aa->Ab->V'}(X:K.In s.r)(j:FM s.r x dx C mA)(a:PySem.W.plainGet K C name=J')
  (b:J7 K (.C C) name=Z (Z (.C f))) (c:PySem.W.isFn K (.C f)=J') (d:mA name=J) (h:Q (.C f,[.C x]) s):wpAny (Af prog w) A (getMethod (.C x) name pl) Q E s:=by
 let(e,i,g):=j.look
 show PySem.W.method_fn X i (PySem.W.plainGet_of a).1 (PySem.W.plainGet_of a).2 b (beq_iff_eq.mp c) (by show(PySem.W.lookIn name e).j (·.υ)=Z O';rw[g,d];rfl) h
def
pI{ns:U Ae}(X:K.In s.r)(G:FM s.r x dx C mA)
  (j:J7 K (.C C) "__setattr__"=Z (Z (.ξ "object.__setattr__"))) (k:PySem.W.plainOver K C=J') (l:PySem.W.takerIn K C name=Z J) (m:PySem.W.hasDictIn K C=J')
  (n:PySem.Within mA ns) (hsz:ns.a<=AE)
  (h:∀h',FM h' x dx C (λy=>if y=name then Z v else mA y)->En dx s.r h'->Q () {s with heap:=h',toks:=s.Ζ+2}):wpAny (Af prog w) A (setAttr (.C x) name v) Q E s:=by
 let(t,F,u):=G.look
 apply PySem.W.set_plain X F j (PySem.W.osa_open (s:={s with toks:=s.Ζ+1}) (r:=J) X F k l λb=>?_)
 let(z,o,e):=PySem.W.any_some m
 apply Ao (A0 (Ao (Ao (wpAny_loadPart G.obj (Ao (PySem.W.Looks.here (s:={s with toks:=s.Ζ+1}) (PySem.W.looks_clsIn X o) ?_))))))
 rw[e]
 apply A0 (a:=Z dx) (Ao (A0 (Ao ?_)))
 apply wpAny_nsSet1 (s:={s with toks:=s.Ζ+1}) G.ns λh' c d=>?_
 let(B,p,q,f,g,i):=c.count (PySem.Within.Ο name v n)
 show Ao (wpAny_lookBehind f (g ▸ pastItsLine_dict (Bu i (Cr ▸ Nat.add_le_add_right hsz 1))) (A0 (h _ #[(d.2 _ (Cj G.ne)).I G.obj,c,G.ne] d)))
def
pJ{vs:U Aa}{a:U (Ae×Aa)}(X:K.In s.r)(b:PySem.W.makesIn K C=J') (c:J7 K (.C C) "__init__"=Z (Z (.C f))) (e:PySem.W.typeIn K (.C f)=Z (.ε "function")) (h:codeAny (Af prog w) (A.under (.ξ "type.__call__" #[.C C::vs,a])) (.call (.C f) #[.C (s.r.O.o+1)::vs,a]) (PySem.W.InitBack (s.r.O.o+1) R) {s with heap:=(s.r.Ι Oj).Ι (Lu C s.r.O.o)}):codeAny (Af prog w) A (.call (.C C) #[vs,a]) R s:=by
 let(i,g,d,t,os):=s;show PySem.W.make_core (PySem.W.makes_of X b) (PySem.W.looks_findIn X c) (λself=>PySem.W.bind_fn X self e) (.U rfl) h
end
def Fh(f:Ae)(v:V):U (Ae×V)->U (Ae×V)
 |[]=>[(f,v)]
 |(g,x)::r=>if g=f then(g,v)::r else(g,x)::Fh f v r
def
aT(f g:Ae)(v:V):∀fs:U (Ae×V),(Fh f v fs).S g=if g=f then Z v else fs.S g
 |[]=>by
  change List.S g [(f,v)]=_
  grind
 |(k,x)::r=>by
  let a:=aT f g v r;grind [Fh]
def
Uq(f:Ae)(v:V):∀fs:U (Ae×V),f∈(Fh f v fs).j (·.1)/\∀g,g∈fs.j (·.1)->g∈(Fh f v fs).j (·.1)
 |[]=>#[by simp[Fh],λg h=>by simp at h]
 |(k,x)::r=>by
  let(a,i2):=Uq f v r;grind [Fh]
def
aU(f:Ae)(v:V):∀fs:U (Ae×V),(Fh f v fs).a<=fs.a+1
 |[]=>by simp[Fh]
 |(k,x)::r=>by
  let a:=aU f v r;grind [Fh]
def
CU.some_of{v:V}{o:O Aa}(r:CU (Z v) o):∃u,o=Z u/\RelV v u:=by
 cases o with
 |none=>show(show False from r).ι
 |some u=>show#[u,rfl,r]
def
CU.none_of{o:O Aa}(r:CU J o):o=J:=by
 cases o with
 |none=>rfl
 |some u=>show(show False from r).ι
def
pK{v:V}(r:RelV v u):PySem.W.handedIn u=J':=by
 cases v with
 |non=>cases(show u=Gp from r);rfl
 |bl b=>cases(show u=Value.Ϥ b from r);rfl
 |int i=>let(t,e):=(show ∃t,u=Value.u i t from r);ext e;rfl
 |str x=>let(t,e):=(show ∃t,u=Value.ω x t from r);ext e;rfl
 |ref a=>cases(show u=Cp a from r);rfl
 |ty n=>cases(show u=J2 n from r);rfl
variable {P:AN}{w:Ai}{H:Hp}{h:Al}{dx:Ac}{fs:U (Ae×V)}
def
Ur(hok:Cu P w H h)(e:Rd H a (.ins C dx fs)):∃b,FM h a dx C b/\(∀f,CU (fs.S f) (b f))/\PySem.Within b (fs.j (·.1))/\fs.a<=1000/\H dx=Z (.τ a):=by
 let(d,z,ne,ob,b,n,r,q):=(show A9 P w H h a (.ins C dx fs)from e.ok hok);show#[b,#[ob,n,ne],r,q,z,d]
end
structure E4(K:Ap)(C:Ac):V' where
 pg:PySem.W.plainGet K C Str.empty=J'
 hd:PySem.W.hasDictIn K C=J'
 po:PySem.W.plainOver K C=J'
 sa:J7 K (.C C) "__setattr__"=Z (Z (.ξ "object.__setattr__"))
def
E4.get{K:Ap}(c:E4 K C)(f:Ae):PySem.W.plainGet K C f=J':=c.pg
def BK(K:Ap)(C:Ac)(f:Ae):V':=J7 K (.C C) f=Z J
def
BK.taker{K:Ap}{f:Ae}(n:BK K C f):PySem.W.takerIn K C f=Z J:=by
 unfold PySem.W.takerIn;rw[show J7 K (.C C) f=Z J from n];rfl
structure J8(K:Ap)(C:Ac)(m:Ae)(f:Ac):V' where
 at_:J7 K (.C C) m=Z (Z (.C f))
 fn:PySem.W.isFn K (.C f)=J'
 kp:IY K (.C f)=J'
variable {H:Hp}{s:Ab}{dx:Ac}{fs:U (Ae×V)}{f:Ae}{v:V}{A:Ag}
def
pL{b:q'}{Q:AV}(k:Inv X ß Y' H s)(e:Rd H a (.ins C dx fs))(c:E4 X.K C)(n:BK X.K C f)(l:fs.S f=Z v) (h:∀u s',Inv X ß Y' H s'->RelV v u->Q u s'):wpAny (Af X.Y X.w) A (getAttr (.C a) f b) Q E s:=by
 let(g,j,r,_,_,_):=Ur k.ϧ e;let(u,i,d):=CU.some_of (v:=v) (o:=g f) (l ▸ r f);show pG k.kIn j (c.ό f) c.hd n i (pK d)<|h u _ (k.tok _) d
def
Us{m:Ae}{g:Ac}{Q:Aa×U Aa->Ab->V'}(i:Inv X ß Y' H s)(e:Rd H a (.ins C dx fs))(c:E4 X.K C)(k:J8 X.K C m g)(l:fs.S m=J) (h:Q (.C g,[.C a]) s):wpAny (Af X.Y X.w) A (getMethod (.C a) m pl) Q E s:=by
 let(b,f,r,_,_,_):=Ur i.ϧ e;let d:b m=J:=CU.none_of (by rw[<- l];show r m);show pH i.kIn f (c.ό m) k.at_ k.fn d h
def
pM{y:V}(G:Inv X ß Y' H s)(e:H a=Z (.ins C dx fs))(c:E4 X.K C)(n:BK X.K C f)(B:fs.a<1000)(l:RelV y u) (h:∀s',Inv X ß Y' (AX H a (.ins C dx (Fh f y fs))) s'->Q () s'):wpAny (Af X.Y X.w) A (setAttr (.C a) f u) Q E s:=by
 let(i,F,r,j,_,k):=Ur G.ϧ<|.inl e;apply pI G.kIn F c.sa c.po n.taker c.hd j (show(fs.map (·.1)).length<=AE by rw[Bg,IX];lia) λm d sb=>h _ ?_;let hd:∃o,m.R dx=Z o:=let⟨o,_,_,p,_⟩:=d.ns;#[o,p];apply G.write (x:=a) (e:=dx) (e ▸ Ie) (.φ k) (λb q t z=>(sb.2 b t).I z) hd ?_;apply#[Zr F.ne ▸ k,?_,F.ne,d.obj,_,d.ns,λg=>?_,λg v=>?_]
 .have:=aU f y fs;lia
 .change CU ((Fh f y fs).S g)<|if g=f then Z u else i g
  rw[aT];by_cases q:g=f
  .rw[if_pos q,if_pos q];show l
  .rw[if_neg q,if_neg q];show r g
 .by_cases q:g=f
  .rw[q];show(Uq f y fs).1
  .refine(Uq f y fs).2 g<|j g λz=>v ?_;show(if g=f then Z u else i g)=J
   rw[if_neg q];show z
def
Inv.made(d:Inv X ß Y' H s):Inv X ß Y' (AX (AX H s.r.O.o (.τ (s.r.O.o+1))) (s.r.O.o+1) (.ins C s.r.O.o [])) {s with heap:=(s.r.Ι Oj).Ι (Lu C s.r.O.o)}:=by
 let c:((s.r.Ι Oj).Ι<|Lu C s.r.O.o).R (s.r.O.o+1)=Z (Lu C s.r.O.o):=by
  have:=Cq (s.r.Ι Oj) (o:=Lu C s.r.O.o) rfl;simp_all
 refine(d.laid (a:=s.r.O.o) (o:=.τ<|s.heap.objs.size+1) (h':=s.heap.push Oj) (t':=s.toks) (λb u q=>By _ q) (A4 _) #[_,(Cq s.r rfl)]).laid (a:=s.r.O.o+1) (o:=.ins C s.r.O.o []) (t':=s.Ζ) (λb u q=>By _ q) (Nat.le_of_eq<|LC _ _) ?_;apply⟨by rw[Zr<|Nat.ne_add_one s.heap.objs.size,Z5],Fi _,(Nat.ne_add_one s.heap.objs.size),c,λ_=>J,(Heap.Ns1.of_empty ⟨Oj,(T' []),_,(Cq s.r rfl),rfl,(λe f=>absurd f (by simp)),λ_=>rfl⟩).at λo q=>By _ q,λ_=>Ie,λy g=>absurd rfl g⟩
def
pN{prog:AN}{w:Ai}{env:Env}{e:Expr}{f:Ae}{s:Ab}{Q:AV}(b:Hr e f env (As e env)=As e env) (h:wpAny (Af prog w) A (As e env) (λo a=>wpAny (Af prog w) A (getAttr o f J') Q E a) E s):wpAny (Af prog w) A (As (.η e f pos) env) Q E s:=Attribute_any_ h (by rw[arm_eval_Attribute,b])
end
def pO(K:Ap)(d:TE)(f:Ae):TE:=λe H Q=>d e H λx b=>∃a C g c v,x=.C a/\Rd b a (.ins C g c)/\E4 K C/\BK K C f/\c.S f=Z v/\Q v b
def pP(K:Ap)(g h:TE)(f:Ae):TS:=λD b H=>h b H λy i=>g b i λx d=>∃a C e c,x=.C a/\d a=Z (.ins C e c)/\E4 K C/\BK K C f/\c.a<1000 /\
 D.nx b (AX d a (.ins C e (Fh f y c)))
variable {e value:Expr}{f:Ae}{tv:TE}
def
aV(d:PE X e ta)(g:Hr e f X.G (As e X.G)=As e X.G):PE X (.η e f pos) (pO X.K ta f):=by
 intro b s i H Q E h;apply pN g<|A8 (d b s i H _ E h) λu w j=>?_;let(x,k,m,o,a,C,y,z,v,rfl,p,c,n,l,q):=j;obtain rfl:u=Cp a:=o;show pL m p c n l λA B r t=>#[v,k,r,t,q]
def
pQ(e:PE X o ta)(g:PE X value tv)(i:DR value (Z (.η o f pos')) pos.ϩ X.G=Am O'):PS X (.ϥ [.η o f pos'] value pos) (pP X.K ta tv f):=by
 intro b s d H D N h;apply plainObj_wpAny_Assign_Attribute (A8 (g b s d H _ N h) λu j ⟨y,k,m,p,q⟩=>A8 (e b j d k _ m q) λr E t=>?_) i;let(x,G,v,w,a,C,F,L,rfl,z,c,n,l,A):=t;obtain rfl:r=Cp a:=w;show pM v z c n l p λM B=>#[d,_,B,A]
end
structure AJ(k:I)(A:Ag):V' where
 hd:A.ϡ=J
 dp:A.depth+3*k+5<recursionLimit
 un:A.κ+16*k+200<Aw
def
AJ.mono{k:I}{A:Ag}(r:AJ k A)(h:j<=k):AJ j A:=#[r.hd,by have:=r.dp;lia,by have:=r.un;lia]
def
AJ.deeper{k:I}{A:Ag}(r:AJ (k+1) A)(env:Env):AJ k (A.ϖ env):=#[r.hd,by have:=r.dp;change A.depth+1+3*k+5<_;lia,by have:=r.un;change A.κ+3+16*k+200<_;lia]
def
AJ.in1{k:I}{A:Ag}(r:AJ (k+1) A):AJ k A.in1:=#[r.hd,by have:=r.dp;change A.depth+3*k+5<_;lia,by have:=r.un;change A.κ+1+16*k+200<_;lia]
def
pR{A:Ag}{us:U Aa}{a:U (Ae×Aa)}:(A.under (.ξ "type.__call__" #[.C C::us,a])).depth=A.depth+1:=by
 rfl
def
pS{A:Ag}{us:U Aa}{a:U (Ae×Aa)}:(A.under (.ξ "type.__call__" #[.C C::us,a])).κ=A.κ+1:=by
 rfl
def
AJ.make{k:I}{A:Ag}(r:AJ (k+1) A)(C:Ac)(us:U Aa)(a:U (Ae×Aa)):AJ k (A.under (.ξ "type.__call__" #[.C C::us,a])):=#[r.hd,by have:=r.dp;rw[pR];lia,by have:=r.un;rw[pS];lia]
def
AJ.depth{k:I}{A:Ag}(r:AJ k A):A.depth<recursionLimit:=by have:=r.dp;lia
def
AJ.units{k:I}{A:Ag}(r:AJ k A):A.κ+64<Aw:=by have:=r.un;lia
def Ol:TA:=λ_ H Q=>Q [] H
def aX(b:TE)(tr:TA):TA:=λa H Q=>b a H λx c=>tr a c λd e=>Q (x::d) e
variable {e:Expr}{te:TE}{t:TA}
def
Bq:PA X [] Ol:=λ_ _ _ _ H Q a h=>Calls.spliced_nil #[[],H,a,.Ϧ,h]
def
EQ(c:PE X e te)(d:PA X es t)(f:↑(AQ (e::es) X.G=(O',As e X.G)::AQ es X.G)):PA X (e::es) (aX te t):=by
 intro pos a s b H Q w h;rw[f];change wpAny _ _ (spliced<|(O',As e X.G)::AF pos (AQ es X.G)) _ _ s
 show Calls.spliced_cons<|A8 (c a s b H _ w h) λu g ⟨x,i,j,k,l⟩=>A8 (d pos a g b i _ j l) λr v ⟨m,n,o,p,q⟩=>#[x::m,n,o,.Ο k p,q]
def pT(t:TA):TE:=λc H Q=>t c H λa b=>a.a<=AE/\∀p,b p=J->Q (.C p) (AX b p (.Q a))
def pU(t:TA):TE:=λc H Q=>t c H λa b=>a.a<=AE/\∀p,b p=J->Q (.C p) (AX b p (.X a))
def
pV {f} (h:PA X es t):PE X (.Tuple es f pos) (pT t):=by
 intro a s g H Q m i;apply wpAny_Tuple_spliced<|A8 (h pos a s g H _ m i) λj c ⟨k,l,d,r,z,q⟩=>#[r.a ▸ z,?_];apply#[.C c.r.O.o,AX l c.r.O.o<|.tup k,d.laid (t':=c.toks) (λb u e=>By _ e) (A4 _) ?_,rfl,q _<|d.ϧ.Τ<|A4 _];show⟨z,j,r,⟨_,Cq _ rfl,rfl,_,rfl⟩⟩
def
pW(h:PA X es t):PE X (.List es pos) (pU t):=by
 intro a s f H Q l g;apply wpAny_List_spliced<|A8 (h pos a s f H _ l g) λi c ⟨j,k,d,r,z,q⟩=>#[r.a ▸ z,?_];apply#[.C c.r.O.o,AX k c.r.O.o<|.lst j,d.laid (t':=c.toks) (λb u e=>By _ e) (A4 _) ?_,rfl,q _<|d.ϧ.Τ<|A4 _];show⟨z,i,0,r,Cq _ rfl⟩
end
abbrev Sp:=U V->Hp->VK->XK->V'
abbrev D8:=U Env->Hp->Ab->XK->AV
variable{CX:D8}
structure Dh(P:AN)(w:Ai)(K:Ap)(mg:Bt)(base:Al)(A:Ag)(outer:List Env)(s:Ab)(H:Hp):V' where
 frames:A.ϴ=Z outer
 mod:Mod K mg base
 bs:∀b o,base.R b=Z o->s.r.R b=Z o/\H b=J
 bsz:base.O.o<=s.r.O.o
 funs:s.r.ϭ base outer
 frf:∀b∈Cy outer,H b=J
 hok:Cu P w H s.r
 bare:AllBare s.gens
def CE(outer:U Env)(P:AN)(w:Ai)(H:Hp)(s:Ab)(Q:VK)(u:Aa)(s':Ab):V':=
 ∃v a,s'.os=s.os/\AllBare s'.gens/\Un (Cy outer) [] H a s.r s'.r/\Cu P w a s'.r/\RelV v u/\Q v a
def CR(CX:D8)(outer:U Env)(P:AN)(w:Ai)(H:Hp)(s:Ab)(Q:VK)(E:XK)(r:Result)(s':Ab):V':=
 match r with
 |.ok (.ret u)=>CE outer P w H s Q u s'
 |.ok _=>False
 |.error e=>CX outer H s E e s'
structure AY(P:AN)(w:Ai)(K:Ap)(mg:Bt)(base:Al)(CX:D8)(k:I)(f:Ac)(fd:Cm)(ps:List Ae)(sp:Sp):V' where
 len:∀vs H Q E,sp vs H Q E->vs.a=ps.a
 run:∀(A:Ag) (outer:List Env) (s:Ab) (H:Hp) (args:Args) (us:List Aa) (vs:List V) (Q:VK) (E:XK),AJ k A->Dh P w K mg base A outer s H->BindsTo s fd args (ps.zip us)->Aq vs us->sp vs H Q E ->
  codeAny (Af P w) A (.call (.C f) args) (CR CX outer P w H s Q E) s
def
AY.imp{P:AN}{w:Ai}{K:Ap}{mg:Bt}{base:Al}{k:I}{f:Ac}{fd:Cm}{b:U Ae}{sp a:Sp}(F:AY P w K mg base CX k f fd b sp) (h:∀vs H Q E,a vs H Q E->sp vs H Q E):AY P w K mg base CX k f fd b a:=#[λvs H Q E q=>F.϶ vs H Q E<|h _ _ _ _ q,λA outer s H args c vs Q E d e g i j=>F.run A outer s H args c vs Q E d e g i<|h _ _ _ _ j]
def
Dh.make{P:AN}{w:Ai}{K:Ap}{mg:Bt}{base:Al}{A:Ag}{outer:U Env}{s:Ab}{H:Hp}(e:Dh P w K mg base A outer s H)(C:Ac)(us:U Aa)(a:U (Ae×Aa)):Dh P w K mg base (A.under (.ξ "type.__call__" #[.C C::us,a])) outer s H:=#[by(simpa[Around.under,Code.envs,Code.isFrame,pushEnvs]using e.frames),e.mod,e.bs,e.bsz,e.funs,e.frf,e.hok,e.bare]
def
Dh.in1{P:AN}{w:Ai}{K:Ap}{mg:Bt}{base:Al}{A:Ag}{outer:U Env}{s:Ab}{H:Hp}(e:Dh P w K mg base A outer s H):Dh P w K mg base A.in1 outer s H:=#[e.ϴ,e.mod,e.bs,e.bsz,e.funs,e.frf,e.ϧ,e.bare]
variable {H:Hp}{s:Ab}
def
Inv.env0(a:Inv X ß Y' H s):Dh X.Y X.w X.K X.mg X.σ X.A X.Ψ s H:=#[a.ok.ϴ,a.ok.mod,a.bs,Bu a.ok.bsz a.sz,a.Ψ,a.stkFree,a.ϧ,a.bare]
def
Inv.after{Q:VK}(f:Inv X ß Y' H s)(h:CE X.Ψ X.Y X.w H s Q u s'):EP X ß Y' Q u s':=by
 let(v,c,os,bare,un,hok,r,q):=h;let(e,g,d,t,a):=s';obtain rfl:a=s.os:=os;show#[v,c,f.call (h':=e) (g':=g) (d':=d) (t':=t) (ch:=[]) un hok bare (λb z=>absurd z (by simp)),r,q]
end
def QK(sp:Sp)(a:U V)(E:XK)(t:TA):TE:=λb H Q=>t b H λc d=>sp (c++a) d Q E
def LF(C:Ac)(m:Ae)(sp:Sp)(b:U V)(E:XK)(f:TE)(t:TA):TE:=λc H Q=>f c H λx d=>∃a g e,x=.C a/\Rd d a (.ins C g e)/\e.S m=J /\
 t c d λh i=>sp (x::(h++b)) i Q E
def pX(C:Ac)(sp:Sp)(b:U V)(E:XK)(t:TA):TE:=λd H Q=>t d H λe c=>∀x a,c x=J->c a=J->x=a+1 ->
 sp (.C x::(e++b)) (AX (AX c a (.τ x)) x (.ins C a [])) (λv f=>v=.Ε/\Q (.C x) f) E
def Binds(K:Ap)(fd:Cm)(b:U Ae)(c:U Aa):V':=
 ∀(s:Ab) (a:U Aa),K.In s.r->(a++c).a=b.a->BindsTo s fd #[a,[]] (b.zip (a++c))
def
Binds.all{K:Ap}{fd:Cm}{a:U Ae}(h:∀us:U Aa,us.a=a.a->bindArgs fd #[us,[]]=Am (a.zip us)):Binds K fd a []:=λs us _ b=>by
 rw[C6]at b ⊢;show .of_eq<|h us b
def FN(CX:D8)(X:Cx)(E:XK):V':=∀(a:A1)(c:St)(H:Hp)(s:Ab)(e:Aa)(b:Ab),Inv X a c H s->CX X.Ψ H s E e b->X.xe e b
variable {k:I}{f:Ac}{fd:Cm}{sp:Sp}{dvs:U V}{ds:U Aa}{E:XK}{x m:Ae}{p:Az}{e:Expr}{t:TA}
def
Ut{a:A1}{H:Hp}{s:Ab}{Q:VK}{us:U Aa}(F:AY X.Y X.w X.K X.mg X.σ CX k f fd ps sp)(c:AJ k X.A)(d:Binds X.K fd ps ds)(hd:Aq dvs ds)(g:FN CX X E) (l:Inv X a Y' H s) (r:Aq vs us) (h:sp (vs++dvs) H Q E):wpAny (Af X.Y X.w) X.A (call (.C f) us) (EP X a Y' Q) X.xe s:=by
 apply wpAny_call<|LH (F.run X.A X.stack s H ⟨us,[]⟩ (us++ds) (vs++dvs) Q E c l.env0 (d s us l.kIn (show(us++ds).length=ps.length by rw[<- (r.append hd).length];show F.len _ _ _ _ h)) (r.append hd) h) λr i b=>?_;cases r with|error e=>show g a Y' H s e i l b|ok j=>
  cases j with
  |ret u=>show l.after b
  |next=>show BV b
  |brk=>show BV b
  |cont=>show BV b
def
QL(F:AY X.Y X.w X.K X.mg X.σ CX k f fd ps sp)(i:AJ k X.A)(j:Gl X x)(l:X.mg x=Z (.C f))(m:IY X.K (.C f)=J')(n:Binds X.K fd ps ds)(hd:Aq dvs ds)(o:FN CX X E) (u:PA X (e::es) t) (b:⇑(CT x)) (v:↑(AQ (e::es) X.G=(O',As e X.G)::AQ es X.G)) (c:↑((AF pos (AQ es X.G)).any (·.1)=O')):PE X (.Φ (.γ x p) (e::es) [] pos) (QK sp dvs E t):=by
 intro a s y H Q d h;show MO<|ML d j l (Uu (h₀:=X.base) d.ok.mod.kin m (A8 (u pos a s y H _ d h) λz B ⟨C,G,g,r,q⟩=>#[g.kIn,Ut F i n hd o g r q]) v c) b
def
aY(y:PE X o ta)(c:E4 X.K C)(j:J8 X.K C m f)(F:AY X.Y X.w X.K X.mg X.σ CX k f fd ps sp)(L:AJ k X.A)(M:Binds X.K fd ps ds)(hd:Aq dvs ds)(N:FN CX X E)(P:PA X (e::es) t) (d:↑(AQ (e::es) X.G=(O',As e X.G)::AQ es X.G)) (g:↑((AF pos (AQ es X.G)).any (·.1)=O')) (T:↑(As (.Φ (.η o m å) (e::es) [] pos) X.G=(do
   let n <- As o X.G;standAt å.atName;let(f,i) <- EN [n] (getMethod n m pl);callWith pos f i (AF pos (AQ (e::es) X.G)) (Hs pos (Ht [] X.G))))):PE X (.Φ (.η o m å) (e::es) [] pos) (LF C m sp dvs E ta t):=by
 intro b s p H Q S h;apply PySem.W.methodCall_KW (pl:=pl) (A8 (y b s p H _ S h) λu R Y=>?_) T;let(x,H1,v,rx,a,dx,fs,rfl,ea,l,q):=Y;obtain rfl:u=Cp a:=rx;show Us v ea c j l<|Uu (first:=[.ref a]) (h₀:=X.base) S.ok.mod.kin j.kp (A8 (P pos b R p H1 _ v q) λz s2 ⟨B,H2,G,r,q2⟩=>#[G.kIn,Ut (us:=.C a::z) (vs:=.C a::B) F L M hd N G (.Ο rfl r) q2]) d g
def
aZ(j:PE X o ta)(c:E4 X.K C)(g:J8 X.K C m f)(F:AY X.Y X.w X.K X.mg X.σ CX k f fd ps sp)(n:AJ k X.A)(p:Binds X.K fd ps ds)(hd:Aq dvs ds)(r:FN CX X E) (t:↑(As (.Φ (.η o m å) [] [] pos) X.G=(do
   let i <- As o X.G;standAt å.atName;let(f,d) <- EN [i] (getMethod i m pl);callWith pos f d (AF pos (AQ [] X.G)) (Hs pos (Ht [] X.G))))):PE X (.Φ (.η o m å) [] [] pos) (LF C m sp dvs E ta Ol):=by
 intro b s v H Q P h;apply PySem.W.methodCall_KW (pl:=pl) (A8 (j b s v H _ P h) λu G y=>?_) t;let(x,N,e,z,a,L,M,rfl,B,l,q):=y;obtain rfl:u=Cp a:=z;show Us e B c g l<|PySem.W.callWith_K0 (first:=[.C a]) e.kIn g.kp (Ut (us:=[.C a]) (vs:=[.C a]) F n p hd r e (.Ο rfl .Ϧ) q)
structure Mk(K:Ap)(C f:Ac):V' where
 makes:PySem.W.makesIn K C=J'
 init:J7 K (.C C) "__init__"=Z (Z (.C f))
 fn:PySem.W.isFn K (.C f)=J'
 kp:IY K (.C C)=J'
def
pY{a:A1}{H:Hp}{s:Ab}{Q:VK}{us:U Aa}(M:Mk X.K C f)(F:AY X.Y X.w X.K X.mg X.σ CX k f fd ps sp)(j:AJ (k+1) X.A)(l:Binds X.K fd ps ds)(hd:Aq dvs ds)
  (m:FN CX X E) (B:Inv X a Y' H s) (r:Aq vs us)
  (h:∀x c,H x=J->H c=J->x=c+1->sp (.C x::(vs++dvs)) (AX (AX H c (.τ x)) x (.ins C c [])) (λv n=>v=.Ε/\Q (.C x) n) E):wpAny (Af X.Y X.w) X.A (call (.C C) us) (EP X a Y' Q) X.xe s:=by
 let g:=h (s.r.O.o+1) s.r.O.o (B.ϧ.Τ (Nat.le_succ _)) (B.ϧ.Τ (A4 _)) rfl
 let d:=Inv.made (C:=C) B
 let i:Aq (V.C (s.r.O.o+1)::(vs++dvs)) (Cp (s.r.O.o+1)::(us++ds)):=.Ο rfl (r.Η hd)
 let o:(Cp (s.r.O.o+1)::us++ds).a=ps.a:=by
  let e:=i.a
  rw[F.϶ _ _ _ _ g]at e
  show e.Γ
 apply wpAny_call (pJ (f:=f) B.kIn M.makes M.init (beq_iff_eq.mp M.fn) (LH (F.run _ X.Ψ _ _ #[Cp (s.r.O.o+1)::us,[]] (Cp (s.r.O.o+1)::(us++ds)) _ _ E (j.make C us [])
  (d.env0.make C us []) (l _ (Cp (s.r.O.o+1)::us) d.kIn o) i g) λr p b=>?_))
 cases r with
 |error e=>show m a Y' _ _ e p d b
 |ok q=>
  cases q with
  |ret u=>
   let(v,t,y,z,rfl,q3):=d.after b
   show#[z,#[V.C (s.r.O.o+1),t,y,rfl,q3]]
  |next=>show BV b
  |brk=>show BV b
  |cont=>show BV b
def
pZ(M:Mk X.K C f)(F:AY X.Y X.w X.K X.mg X.σ CX k f fd ps sp)(i:AJ (k+1) X.A)(j:Gl X x)(l:X.mg x=Z (.C C))(m:Binds X.K fd ps ds)(hd:Aq dvs ds)(n:FN CX X E) (o:PA X (e::es) t) (b:⇑(CT x)) (u:↑(AQ (e::es) X.G=(O',As e X.G)::AQ es X.G)) (c:↑((AF pos (AQ es X.G)).any (·.1)=O')):PE X (.Φ (.γ x p) (e::es) [] pos) (pX C sp dvs E t):=by
 intro a s v H Q d h;show MO<|ML d j l (Uu (h₀:=X.base) d.ok.mod.kin M.kp (A8 (o pos a s v H _ d h) λy z ⟨B,G,g,r,q⟩=>#[g.kIn,pY M F i m hd n g r q]) u c) b
end
def PK(X:Cx)(b:U E5)(t:TA):V':=
 ∀(c:Az) (a:A1) (s:Ab) (d:St) (H:Hp) (Q:U V->Hp->V'),Inv X a d H s->t d H Q->wpAny (Af X.Y X.w) X.A (evalAll ((Hs c (Ht b X.G)).j (·.2))) (AP X a d Q) X.xe s
variable {k:I}{f:Ac}{x m:Ae}{p ü:Az}{e:Expr}{kws:U E5}{te:TE}{t:TA}{nm:O Ae}
def
p0:PK X [] Ol:=λ_ _ _ _ H Q a h=>wpAny_evalAll_nil #[[],H,a,.Ϧ,h]
def
p5(c:PE X e te)(d:PK X kws t):PK X (#[nm,e,ü]::kws) (aX te t):=by
 intro pos a s b H Q v h;show wpAny_evalAll_cons<|Ao<|A8 (c a s b H _ v h) λu f ⟨x,g,i,j,k⟩=>Ao<|wpAny_standAt<|A0<|A8 (d pos a f b g _ i k) λq r ⟨l,m,n,o,p⟩=>#[x::l,m,n,.Ο j o,p]
end
structure Z2(N P:List Ae)(sc:Scope):V' where
 kind:sc.ϫ=.h6
 co:sc.isCoroutine=O'
 gen:sc.isGenerator=O'
 nd:N.μ
 pre:N.ϒ P.a=P
 par:∀x∈P,sc.ρ.S x=Z .ϐ\/sc.ρ.S x=Z .Υ
 nofree:∀y∈sc.ρ,y.2≠.Ν
def
a0{kindOf:Ae->O Hu}{x:Ae}:∀{a:U (Ae×Aa)}{m:Bt},(∀v,(x,v)∉a)->bindL kindOf a m x=m x
 |[],_,_=>rfl
 |(n,v)::r,m,h=>by
  unfold bindL;rw[a0 λw b=>h w<|Bv _ b];split
  .grind [Bo]
  .rfl
def
a7{kindOf:Ae->O Hu}{x:Ae}:∀{a:U (Ae×Aa)}{m:Bt},(∀v,(x,v)∉a)->bindC kindOf a m x=m x
 |[],_,_=>rfl
 |(n,v)::r,m,h=>by
  unfold bindC;rw[a7 λw b=>h w<|Bv _ b];split
  .rfl
  .grind [Bo]
def
a9{kindOf:Ae->O Hu}{x:Ae}{v:Aa}:∀{P:U Ae}{vs:U Aa}{i:I}{m:Bt},P.μ->P[i]?=Z x->vs[i]?=Z v->kindOf x=Z .ϐ->bindL kindOf (P.zip vs) m x=Z v
 |[],_,_,_,_,h,_,_=>by simp at h
 |_::_,[],_,_,_,_,h,_=>by simp at h
 |p::P,w::vs,0,m,nd,a,b,c=>by
  simp at a b;subst a;subst b;change bindL kindOf ((p,w)::P.zip vs) m p=_
  unfold bindL;rw[a0 λv d=>(Hv.mp nd).1 (Om d).1,if_pos c];simp
 |p::P,w::vs,i+1,m,nd,a,b,c=>by
  unfold bindL;show a9 (i:=i) (Hv.mp nd).2 (by exists a) (by exists b) c
def
bc{kindOf:Ae->O Hu}{x:Ae}{v:Aa}:∀{P:U Ae}{vs:U Aa}{i:I}{m:Bt},P.μ->P[i]?=Z x->vs[i]?=Z v->kindOf x≠Z .ϐ->bindC kindOf (P.zip vs) m x=Z v
 |[],_,_,_,_,h,_,_=>by simp at h
 |_::_,[],_,_,_,_,h,_=>by simp at h
 |p::P,w::vs,0,m,nd,a,b,c=>by
  simp at a b;subst a;subst b;change bindC kindOf ((p,w)::P.zip vs) m p=_
  unfold bindC;rw[a7 λv d=>(Hv.mp nd).1 (Om d).1,if_neg c];simp
 |p::P,w::vs,i+1,m,nd,a,b,c=>by
  unfold bindC;show bc (i:=i) (Hv.mp nd).2 (by exists a) (by exists b) c
def FO(N:U Ae)(vs:U V):St:=vs.j Z++Ct (N.a-vs.a) J
def CV(CX:D8)(P:AN)(w:Ai)(K:Ap)(mg:Bt)(base:Al)(N:U Ae)(a:Ae)(scope:Scope)(f:Ac)(c:Aa)(A:Ag)(outer:U Env)(s:Ab)(H:Hp)(E:XK):Cx where
 prog:=P
 w:=w
 K:=K
 mg:=mg
 base:=base
 A:=A.ϖ (A7 a scope s.r.O.o f c)
 N:=N
 s₀:=s
 H₀:=H
 env:=A7 a scope s.r.O.o f c
 outer:=outer
 stack:=A7 a scope s.r.O.o f c::outer
 ex:=[]
 calm:=J'
 fn:=λ_=>J'
 pn:=[]
 xe:=λe d=>wpAny (Af P w) (A.ϖ (A7 a scope s.r.O.o f c)) (leaving (A7 a scope s.r.O.o f c) e) (λ_ b=>CX outer H s E e b) (λg b=>CX outer H s E g b) d
def
be{a:Scope}{n:I}{x:Ae}(h:a.ρ.S x=Z .Υ):∃c,(cellsFrom n a.ρ []).S x=Z c:=by
 let q:=PySem.W.cellsFrom_some a.ρ n []<|.U h;show bf.mp q
def
p7{P:AN}{w:Ai}{K:Ap}{mg:Bt}{base:Al}{N l:U Ae}{d:Ae}{f:Ac}{G:Aa}{A:Ag}{outer:U Env}{s F:Ab}{H:Hp}{E:XK}{us:U Aa} (S:Z2 N l scope) (hd:A.ϡ=J) (j:Dh P w K mg base A outer s H) (R:vs.a=l.a) (r:Aq vs us) (x:InCallC s s.r.O.o (bindL (A7 d scope s.r.O.o f G).kindOf (l.zip us) λ_=>J) (cellsFrom (s.r.O.o+1) scope.ρ []) (bindC (A7 d scope s.r.O.o f G).kindOf (l.zip us) λ_=>J) F):Inv (CV CX P w K mg base N d scope f G A outer s H E) [] (FO N vs) H F:=by
 let Q:l.a<=N.a:=by have:=congrArg List.a S.pre;rw[List.length_take]at this;lia
 let(X,Y,rfl,L):=x.ϕ;let m:∀b:Ac,b∉(CV CX P w K mg base N d scope f G A outer s H E).ex:=λb z=>absurd (show b∈([]:U Ac)from z) (by simp);apply#[#[j.mod,S.ϫ,rfl,rfl,A4 _,λy z c X g=>?_,λy o=>?_,λy c _ h=>?_,λ_=>hd,Around.frames_deeper j.ϴ,.φ #[rfl,rfl],λb z=>absurd z<|m b,j.bs,j.bsz,λb _ _=>m b,λb z=>absurd z<|m b,j.funs,j.frf],
  rfl,j.bare,Un.ϲ L,#[_,x.toInCall.ns,λi y v X g h3=>?_],λy c h=>#[_,x.Υ y c h],j.ϧ.Τ<|A4 _,λy c h=>?_,λp t=>absurd (show p∈([]:A1)from t) (by simp),j.ϧ.ϲ L,?_]
 .show name_of_addr x.apart (LJ X)<|LJ g
 .rcases o with o|o
  .show be o
  .show absurd rfl<|S.nofree _<|LJ o
 .show FH<|x.above y c<|LJ h
 .let B:i<vs.a:=by
   unfold FO at g;by_cases B:i<vs.a
   .show B
   .rw[IZ (by exists B),J9]at g;split at g<;>ext g
  let T:vs[i]?=Z v:=by
   unfold FO at g;rw[Hw (by exists B),D9]at g;cases e:vs[i]? with
   |none=>rw[e]at g;cases g
   |some a=>rw[e]at g;ext g;rfl
  let(u,M,W):=r.ό T;let t:l[i]?=Z y:=by
   rw[<- S.pre,List.getElem?_take_of_lt<|LK B R];show X
  let C:l.μ:=S.pre ▸ S.nd.sublist (List.take_sublist _ _);apply#[u,W,?_];rcases S.par y (Ka t)with k|k
  .show .U #[k,a9 C t M k]
  .let(c,e):=be (n:=s.r.O.o+1) k;apply .φ #[.U k,c,e,?_];let q:=x.Υ y c e;rw[bc C t M (by change scope.ρ.S y≠_;rw[k];decide)]at q;show q
 .show j.ϧ.Τ<|FH<|x.above y c<|LJ h
 .unfold FO;change _=N.a
  rw[F4,Bg,MP];lia
def
Uv{P:AN}{w:Ai}{K:Ap}{mg:Bt}{base:Al}{k:I}{f:Ac}{name a:Ae}{c:Arguments}{g:U Ay}{R T m pm d ct oc:Aa}{X od:O Ac} {C:Array (O Aa)} {N B:U Ae} {sp:Sp} (lk:K.S f=Z #[oc,od,.func (Kb name a c g scope R T m pm X d ct),C]) (G:PySem.W.codeIn K d a=J') (S:Z2 N B scope) (len:∀vs H Q E,sp vs H Q E->vs.a=B.a) (i:∀(A:Ag) (outer:U Env) (s:Ab) (H:Hp) (vs:U V) (Q:VK) (E:XK),AJ k (A.ϖ (A7 a scope s.r.O.o f d))->sp vs H Q E->∃t,E3 (CV CX P w K mg base N a scope f d A outer s H E) g t/\t {nx:=λ_ H'=>Q .Ε H',rt:=Q} (FO N vs) H):AY P w K mg base CX (k+1) f (Kb name a c g scope R T m pm X d ct) B sp:=by
 apply#[len,λA outer s H args us vs Q E zA p hb r z=>?_];let Y:K.In s.r:=p.mod.kin.keeps λb o e=>(p.bs b o e).1;let j:∀y∈B.zip us,scope.ρ.S y.1=Z .ϐ\/(scope.ρ.S y.1=Z .Υ/\((cellsFrom (s.r.O.o+1) scope.ρ []).S y.1).υ=J'):=λ⟨n,v⟩ hy=>by
  rcases S.par n (Om hy).1 with q|q
  .show .U q
  .show .φ #[q,PySem.W.cellsFrom_some _ _ _<|.U q]
 apply codeAny_call_function zA.depth (Y _ _ lk) rfl S.co S.gen rfl (PySem.W.codeRec_of Y G)<|hb _ _ _ _ ?_;apply wpAny_newFunctionEnv_cells S.kind j λenv he s1 x=>?_;subst he;apply#[(p.mod.nolimit.keeps λb o e=>(p.bs b o e).1).keeps x.toInCall.keep,codeAny_func ?_];let(t,ht,hq):=i A outer s H vs Q E (zA.ϖ _) z;apply Cs (ht [] s1 (FO N vs) H _ (p7 S zA.hd p (len _ _ _ _ z) r x) hq) (λfl L l=>?_) λe L l=>l;let fin:∀{h:St} {H':Hp} {v:V} {u:Aa},Inv (CV CX P w K mg base N a scope f d A outer s H E) [] h H' L->RelV v u->Q v H'->CE outer P w H s Q u L:=
  λ{h H' v u} F M q=>#[v,H',F.os,F.bare,F.σ,F.ϧ,M,q]
 cases fl with
 |ret u=>
  let(v,h,H',F,M,q):=l;show fin F M q
 |next=>
  let(h,H',F,q):=l;show fin (v:=V.Ε) (u:=Gp) F rfl q
 |brk=>
  let(_,_,_,q):=l;show BV q
 |cont=>
  let(_,_,_,q):=l;show BV q
variable {x:Ae}{p:Az}{e:Expr}{t:TA}{id T:String}{r:U V->Hp->VK->V'}
def QM(r:U V->Hp->VK->V')(t:TA):TE:=λa H Q=>t a H λb c=>r b c Q
def
bg(f:EO X (.ξ id) r)(g:Gl X x)(i:X.mg x=J)(j:Em x=Z (.ξ id))(k:PA X (e::es) t)(l:⇑(x≠"__name__"))(b:⇑(CT x)) (m:↑(AQ (e::es) X.G=(O',As e X.G)::AQ es X.G)) (c:↑((AF pos (AQ es X.G)).any (·.1)=O')):PE X (.Φ (.γ x p) (e::es) [] pos) (QM r t):=by
 intro a s d H Q z h;show MO<|H9 z g i j (PyProof.Rows.callWith_builtin1 (A8 (k pos a s d H _ z h) λn o ⟨q,u,v,w,y⟩=>f a o d u q n Q v w y) m c) l b
def
bh(f:EO X (.ε T) r)(g:Gl X x)(i:X.mg x=J)(j:Em x=Z (.ε T))(k:PA X (e::es) t)(l:⇑(x≠"__name__"))(b:⇑(CT x)) (m:↑(AQ (e::es) X.G=(O',As e X.G)::AQ es X.G)) (c:↑((AF pos (AQ es X.G)).any (·.1)=O')):PE X (.Φ (.γ x p) (e::es) [] pos) (QM r t):=by
 intro a s d H Q z h;show MO<|H9 z g i j (Oe (A8 (k pos a s d H _ z h) λn o ⟨q,u,v,w,y⟩=>f a o d u q n Q v w y) m c) l b
end
end Internal
variable{X Y:Internal.Cx}{Y':Internal.St}{H' H0 H1:Internal.Hp}{vs ys:U Internal.V}{us:U (U Internal.At×Ac×Aa)}{CX:Internal.D8}{ta:Internal.TE}{wi:Internal.TI}
namespace HT
open PySem PyProof.Rows
def
rcLt_int(A:Ag)(s:Ab)(a:W')(t:Tok)(c:W')(u:Tok)(prog:AN)(w:Ai)(E:AV)(Q:AV)(h:Q (.Ϥ (decide (a<c))) s):wpAny (Af prog w) A (richCompare .Lt (.u a t) (.u c u)) Q E s:=(PyProof.Rows.lt_int h:wpAny (Af prog w) A (Du .Lt (.u a t)<|.u c u) Q E s)
variable {prog:AN}{w:Ai}{A:Ag}{s:Ab}
def sIx(n d:I):O W'->I
 |none=>d
 |some v=>if v<0 then(v+(n:W')).ζ else min v.ζ n
def
bi(v:W')(n d:I):(if v<0 then max (v+(n:W')) 0 else min v (n:W'))=((sIx n d (Z v):I):W'):=by
 show(if v<0 then max (v+(n:W')) 0 else min v (n:W'))=(((if v<0 then(v+(n:W')).ζ else min v.ζ n):I):W')
 grind
def
p8(lo a:O W')(n:I):bj lo a 1 (n:W')=(((sIx n 0 lo:I):W'),((sIx n n a:I):W')):=by
 unfold bj;apply Prod.ext ?_ ?_
 .cases lo with
  |none=>rfl
  |some v=>show bi v n 0
 .cases a with
  |none=>rfl
  |some v=>show bi v n n
def
p9(i j:I):Uw (i:W') (j:W') 1=j-i:=by
 unfold Uw;grind
def
bn{v:Aa}{o:O W'}{Q:O W'->Ab->V'}(p:IsPart v o)(h:Q o s):wpAny (Af prog w) A (Builtin.Slice.slicePartIndex v) Q E s:=by
 cases p with
 |none=>show slicePart_none h
 |int i t=>show slicePart_int h
def
qa{f:Ac}{d e:Aa}{lo a:O W'}{n:I}{Q:W'×W'×I->Ab->V'}(g:s.r.IsSliceOf f d e .Β)(pl:IsPart d lo)(i:IsPart e a) (h:Q (((sIx n 0 lo:I):W'),1,sIx n n a-sIx n 0 lo) s):wpAny (Af prog w) A (Builtin.Slice.sliceApplied (.C f) (Am (n:W'))) Q E s:=by
 let(os,b,j,c):=id g;apply Ao<|Ao<|Ed b c (x:=d) rfl (Ao<|Ed b c (x:=e) rfl (Ao<|Ed b c (x:=.none) rfl (A0 ?_)));apply Ao<|slicePart_none ?_;apply Ao<|bn pl<|Ao<|bn i<|Ao<|A0 ?_;change wpAny _ _ (match bj lo a 1 (n:W')with|(lo,a)=>Am (lo,(1:W'),Uw lo a 1)) _ _ s
 rw[p8 lo a n];change wpAny _ _ (Am (((sIx n 0 lo:I):W'),(1:W'),Uw ((sIx n 0 lo:I):W') ((sIx n n a:I):W') 1)) _ _ s
 rw[p9];show A0 h
def
qb(xs:Array Aa)(i k:I):((Bl k).filterMap λ(m:I)=>xs[((i:W')+(m:W')*1).ζ]?).E=((xs.J.Θ i).ϒ k).E:=by
 let e:(λ(m:I)=>xs[((i:W')+(m:W')*1).ζ]?)=λm=>xs[i+m]?:=by
  grind
 have:=pick_run xs i k;let a:((λx=>xs[x]?)∘λx=>i+x)=λm=>xs[i+m]?:=rfl;simp_all
def
getItem_tuple_cut{t g:Ac}{items:Array Aa}{i j:Aa}{lo a:O W'}{Q:AV}(b:IsTup s.r t items)(k:s.r.IsSliceOf g i j .Β)(pl:IsPart i lo)(o:IsPart j a) (p:sIx items.o 0 lo=0/\sIx items.o items.o a=items.o->Q (.C t) s) (h:¬ (sIx items.o 0 lo=0/\sIx items.o items.o a=items.o)->Q (.C s.r.O.o) {s with heap:=s.r.Ι {cls:=.ε "tuple",data:=.Ϲ ((items.J.Θ (sIx items.o 0 lo)).ϒ (sIx items.o items.o a-sIx items.o 0 lo)).E} }) (hsz:items.o<=AE):wpAny (Af prog w) A (getItem (.C t) (.C g)) Q E s:=by
 let(os,d,e,q):=id k;unfold getItem;try with_reducible apply Gv ?_
 apply Ao<|wpAny_sequenceKey b.ϟ (by ext) ?_;apply Ao (MR (name:=Kc "__getitem__") b.ϟ PyProof.Rows.slot_tuple_getitem
  (LL PyProof.Rows.slot_tuple_getitem b.ϟ entry_tuple_getitem ?_<|args_tuple_getitem _ _))
 change wpAny _ _ (Builtin.Tuple.tupleItemsOf (.C t) >>= _) _ _ s
 apply Ao<|tupleItemsOf_ b ?_;apply Ao<|MS ⟨os,d,e⟩ ?_;apply Ao<|qa k pl o ?_;change wpAny _ _ (if(((sIx items.o 0 lo:I):W')==0&&(1:W')==1&&(sIx items.o items.o a-sIx items.o 0 lo)==items.o)=J' then _ else _) _ _ s
 by_cases n:sIx items.o 0 lo=0/\sIx items.o items.o a=items.o
 .let c:((((sIx items.o 0 lo:I):W')==0&&(1:W')==1&&(sIx items.o items.o a-sIx items.o 0 lo)==items.o)=J'):=by
   simp_all
  rw[if_pos c];show Ao<|Ao<|MS b.ϟ<|A0<|Ao<|F5<|A0 ⟨_,rfl,A0<|p n⟩
 .let f:¬ ((((sIx items.o 0 lo:I):W')==0&&(1:W')==1&&(sIx items.o items.o a-sIx items.o 0 lo)==items.o)=J'):=by
   simp_all
  rw[if_neg f,qb];show Ao (m:=Builtin.Tuple.tupleExact _) (Ke (A0 #[_,rfl,A0<|h n])<|Bu ((List.take_sublist _ _).I<|List.drop_sublist _ _).length_le hsz)
end
end HT
namespace Internal
open PySem PySem.Spec PyProof.Rows
abbrev TO:=St->Hp->(O W'->Hp->V')->V'
def PO(X:Cx)(e:O Expr)(t:TO):V':=
 ∀(a:A1) (s:Ab) (b:St) (H:Hp) (Q:O W'->Hp->V'),Inv X a b H s->t b H Q ->
  wpAny (Af X.Y X.w) X.A (evalPart e X.G) (λu d=>∃o c,Inv X a b c d/\IsPart u o/\Q o c) X.xe s
def qc:TO:=λ_ H Q=>Q J H
def qd(t:TE):TO:=λa H Q=>t a H λx b=>∃i,x=.u i/\Q (Z i) b
def
QN{ns:U W'}:∀{us:U Aa},Aq (ns.j V.u) us->IntsAre us ns:=by
 induction ns with|nil=>intro us r;rw[Dn]at r;ext r;show .Ϧ|cons n ns a=>
  intro us r;cases r with
  |cons b c=>
   let(t,rfl):=b;show .Ο n t<|a c
variable {e:Expr}{te:TE}{lo hi:O Expr}{tl th:TO}
def
qe:PO X J qc:=by
 intro a s b H Q c h;show A0 #[J,H,c,.Β,h]
def
qf(h:PE X e te):PO X (Z e) (qd te):=by
 intro a s b H Q l c;apply A8 (h a s b H _ l c) λu k d=>?_;let(x,f,g,j,i,rfl,q):=d;let(t,rfl):=j;show#[Z i,f,g,.u i t,q]
def Kf(X:Cx)(r:V->O W'->O W'->Hp->VK->V'):V':=
 ∀(a:A1) (s:Ab) (b:St) (H:Hp) (x:V) (v c d:Aa) (lo hi:O W') (e:Ac) (Q:VK),Inv X a b H s->RelV x v->s.r.IsSliceOf e c d .Β->IsPart c lo->IsPart d hi->r x lo hi H Q ->
  ∃T id,typeLookup (.ε T) "__getitem__"=Am (Z (.ξ id))/\s.TypeIs v T/\wpAny (Af X.Y X.w) X.A (getItem v (.C e)) (EP X a b Q) X.xe s
def
Kf.or{r b:V->O W'->O W'->Hp->VK->V'}(h:Kf X r)(h':Kf X b):Kf X (λx lo hi H Q=>r x lo hi H Q\/b x lo hi H Q):=by
 intro a s c H x v d e lo hi f Q l g i j k q;rcases q with q|q
 .show h a s c H x v d e lo hi f Q l g i j k q
 .show h' a s c H x v d e lo hi f Q l g i j k q
def qg(r:V->O W'->O W'->Hp->VK->V')(te:TE)(tl th:TO):TE:=λa H Q=>te a H λx b=>tl a b λl c=>th a c λu d=>r x l u d Q
def
qh{r:V->O W'->O W'->Hp->VK->V'}(j:Kf X r)(k:PE X e te)(m:PO X lo tl)(n:PO X hi th):PE X (.ψ e (.Slice lo hi J p2) pos) (qg r te tl th):=by
 intro a s d H Q P h;apply Subscript_<|A8 (k a s d H _ P h) λv o f=>?_;let(x,p,t,w,y):=f;apply wpAny_Slice<|A8 (m a o d p _ t y) λg z ⟨l,A,B,C,E⟩=>A8 (n a z d A _ B E) λi c f=>?_;let(u,G,F,L,q3):=f;apply A0 ?_;let(T,id,M,N,K):=j a {c with heap:=c.r.Ι {cls:=.ε "slice",data:=.ϊ (T' [g,i,.Β])} } d G x v g i l u c.r.O.o Q (F.ϲ (t':=c.Ζ) λb ob q=>By _ q) w (Heap.IsSliceOf.new ..) C L q3;show tail_any (ops:=[.C c.r.O.o,v]) N M K (by with_unfolding_all rfl)
def I0(xs:U V)(lo hi:O W'):U V:=(xs.Θ (HT.sIx xs.a 0 lo)).ϒ (HT.sIx xs.a xs.a hi-HT.sIx xs.a 0 lo)
def
bo(xs:U V)(lo hi:O W'):(I0 xs lo hi).a<=xs.a:=((List.take_sublist _ _).I<|List.drop_sublist _ _).length_le
end
def Ey(n:I)(i:W'):O I:=if 0<=i then(if i<n then Z i.ζ else J)else if -(n:W')<=i then Z (i+n).ζ else J
def atI{a:Type}(xs:U a)(i:W'):O a:=(Ey xs.a i).L λj=>xs[j]?
def
bp{n:I}{i:W'}(h:Ey n i=Z j):seqIndex? i n=Z j/\j<n /\ -(n:W')<=i/\i<n:=by
 unfold Ey at h;by_cases b:0<=i
 .rw[if_pos b]at h;by_cases a:i<n
  .rw[if_pos a]at h;show#[by rw[seqIndex_of b a,Gs h],∅,∅,a]
  .rw[if_neg a]at h;ext h
 .rw[if_neg b]at h;by_cases a : -(n:W')<=i
  .rw[if_pos a]at h;show#[by rw[seqIndex_neg (QO b) a,Gs h],∅,a,∅]
  .rw[if_neg a]at h;ext h
def
Ux{a:Type}{xs:U a}{i:W'}{v:a}(h:atI xs i=Z v):∃j,seqIndex? i xs.a=Z j/\xs[j]?=Z v/\j<xs.a /\ -(xs.a:W')<=i/\i<xs.a:=by
 unfold atI at h;cases e:Ey xs.a i with|none=>rw[e]at h;cases h|some j=>
  rw[e]at h;let(b,c,d,f):=bp e;show#[j,b,h,c,d,f]
def
ER{a:Type}{xs:U a}{v:a}(h:xs[j]?=Z v):atI xs (j:W')=Z v:=by
 let b:j<xs.a:=(Dk.mp h).1;let e:Ey xs.a (j:W')=Z j:=by
  unfold Ey;rw[if_pos ∅,if_pos ∅];simp
 unfold atI;rw[e];show h
def On(b:Expr):V':=∀o i,subscripted b O' o i=operate [o,i] (getItem o i)
def Hx(X:Cx)(r:R2):V':=
 ∀(b slice:Expr) (a:A1) (s:Ab) (c:St) (H:Hp) (x y:V) (v u:Aa) (Q:VK),Inv X a c H s->RelV x v->RelV y u->r x y H Q ->
  subscripted slice O' v u=operate [v,u] (getItem v u)->wpAny (Af X.Y X.w) X.A (subscriptTail b slice v u) (EP X a c Q) X.xe s
def Oo(X:Cx)(id:String)(r:V->U V->Hp->VK->V'):V':=
 ∀(a:A1) (s:Ab) (b:St) (H:Hp) (x:V) (c:U V) (v:Aa) (d:U Aa) (Q:VK),Inv X a b H s->RelV x v->Aq c d->r x c H Q ->
  wpAny (Af X.Y X.w) X.A (call (.ξ id) (v::d)) (EP X a b Q) X.xe s
variable {a b:Expr}{tb:TE}
def
Hx.or{r c:R2}(h:Hx X r)(h':Hx X c):Hx X (λx y H Q=>r x y H Q\/c x y H Q):=by
 intro a slice b s d H x y v u Q i e f q g;rcases q with q|q
 .show h a slice b s d H x y v u Q i e f q g
 .show h' a slice b s d H x y v u Q i e f q g
def
qi{r:R2}(d:Hx X r)(e:PE X a ta)(f:PE X b tb)(g:On b):PE X (.ψ a b pos) (Lz r ta tb):=by
 intro c s i H Q o h;show Subscript_<|Um e f o h λv u j x y k l m n q=>d a b c j i k x y v u Q l m n q<|g _ _
def br(K:Ap):R2:=λx y H Q=>∃p a i v,x=.C p/\y=.u i/\BU K H p a/\atI a i=Z v/\Q v H
def bt(K:Ap):R2:=λx y H Q=>∃p a i v,x=.C p/\y=.u i/\Ck K H p a/\atI a i=Z v/\Q v H
def bu:R2:=λx y H Q=>∃z i c,x=.ω z/\y=.u i/\z.a<=AE/\atI z.ϱ.J i=Z c/\Q (.ω #[(T' [c])]) H
def
Ja:Hx X (br X.K):=by
 rintro e slice a s m H x y v u Q R n o ⟨p,M,i,z,rfl,rfl,A,B,q⟩ k;ext n;let(t,rfl):=o;let(f,r,g,N):=R.Ϩ A;let(j,c,C,P,E,G):=Ux B;let(w,l,b):=r.ό C;let F:=r.a;let T:=Oh;by_cases d:0<=i
 .let h:i.ζ=j:=by
   rw[seqIndex_of d G]at c;show Gs c
  show item_listR g.ύ d ∅ (by rw[h];exists l) #[z,H,R,b,q] k
 .let h:(i+(f.E.o:W')).ζ=j:=by
   rw[seqIndex_neg (QO d) E]at c;rw[B3,<- F];show Gs c
  show subscriptTail_builtinR (x:=w) g.ύ.ϟ slot_list_getitem.S
   (wpAny_getItem_list_neg (Q:=λr L=>r=w/\EP X a m Q r L) g.ύ (QO d) (by rw[B3]<;>lia) ∅ (by rw[h];exists l) #[rfl,#[z,H,R,b,q]]) k
def
LM:Hx X (bt X.K):=by
 rintro b slice a s e H x y v u Q N f g ⟨p,C,i,z,rfl,rfl,h,k,q⟩ l;ext f;let(t,rfl):=g;let(m,r,d,E):=N.ϗ h;let(j,n,o,G,F,L):=Ux k;let(w,A,c):=r.ό o;let M:=Oh;show subscriptTail_builtinR (x:=w) d.ϟ slot_tuple_getitem.S
  (getItem_tuple (j:=j) (Q:=λr B=>r=w/\EP X a e Q r B) d ∅ ∅ (by rw[B3,<- r.a];show n) (by exists A) #[rfl,#[z,H,N,c,q]]) l
def
qj:Hx X bu:=by
 rintro a slice b s n H x y v u Q A e f ⟨z,i,c,rfl,rfl,o,g,q⟩ h;let(t,rfl):=e;let(p,rfl):=f;let(j,d,k,r,l,m):=Ux g;rw[show z.ϱ.J.a=z.a by simp[Str.length]]at d l m;let w:=Oh;show tail_any (typeIs_str s z t) slot_str_getitem.S (getItem_str (c:=c) (by
  grind) (by rw[d];exists k) #[.ω #[(T' [c])],H,A.tok _,#[_,rfl],q]) h
def bv(K:Ap):R2:=λx y H Q=>br K x y H Q\/bt K x y H Q\/bu x y H Q
def
qk:Hx X (bv X.K):=Ja.or<|LM.or qj
def
ql(a:U Aa)(n j:I)(u:Aa):F6 (·.Ρ j u) {cls:=.ε "list",data:=.Ϲ a.E n}={cls:=.ε "list",data:=.Ϲ (a.Χ j u).E n}:=by
 simp[F6]
def
Inv.lst{b:A1}{H:Hp}{s:Ab}{p:Ac}{xs:U V}(c:Inv X b Y' H s)(h:H p=Z (.X xs)):∃(a:U Aa) (n:I),Aq xs a/\s.r.R p=Z {cls:=.ε "list",data:=.Ϲ a.E n}/\xs.a<=AE:=by
 let(z,a,n,r,e):=c.ϧ p _ h;show#[a,n,r,e,z]
def
Inv.lstUpd{a:A1}{H:Hp}{s:Ab}{p:Ac}{xs:U V}{c ð:U Aa}{n d:I}{f:Obj->Obj}(k:Inv X a Y' H s)(h:H p=Z (.X xs)) (i:s.r.R p=Z {cls:=.ε "list",data:=.Ϲ c.E n}) (g:f {cls:=.ε "list",data:=.Ϲ c.E n}={cls:=.ε "list",data:=.Ϲ ð.E d}) (r:Aq ys ð) (hz:ys.a<=AE) (t:I):Inv X a Y' (AX H p (.X ys)) {s with heap:=s.r.ϰ p f,toks:=t}:=by
 let e:(s.r.ϰ p f).R p=Z {cls:=.ε "list",data:=.Ϲ ð.E d}:=by
  rw[MU f i (by rw[g]<;>rfl),g]
 apply k.write (x:=p) (e:=p) (by rw[h];trivial) (.U rfl) (λb u j q=>(MV _ _<|Cj j).I q) ⟨_,e⟩ ?_;show⟨hz,ð,d,r,e⟩
def qm:V->V->V->Hp->(Hp->V')->V':=λo i v H Q=>∃p a k j,o=.C p/\i=.u k/\H p=Z (.X a)/\Ey a.a k=Z j/\Q (AX H p (.X (a.Χ j v)))
def
qo:Ui X qm:=by
 intro a s w H o i v E G u Q K x y z zQ;let(p,A,k,j,rfl,rfl,g,B,q):=zQ;ext x;let(t,rfl):=y;let(b,n,r,e,C):=K.X g;let(c,F,h,l):=bp B;let L:=Oh;let m:Inv X a w (AX H p<|.X<|A.Χ j v) {s with heap:=s.r.ϰ p (F6 (·.Ρ j u))}:=
  K.lstUpd g e (ql b n j u) (r.Χ z j) (by rw[List.length_set];show C) s.Ζ
 by_cases d:0<=k
 .let f:k.ζ=j:=by
   rw[seqIndex_of d l]at c;show Gs c
  show PySem.W.ki_setAt e d ∅ (by rw[B3,<- r.a];show l)<|f ▸ ⟨_,m,q⟩
 .let f:(k+(b.E.o:W')).ζ=j:=by
   rw[seqIndex_neg (QO d) h]at c;rw[B3,<- r.a];show Gs c
  show PySem.W.ki_setBack e (QO d) (by rw[B3,<- r.a];show h) ∅<|f ▸ ⟨_,m,q⟩
def
qp(lo a:O W')(n:I):(B0 lo a J n).1=((HT.sIx n 0 lo:I):W')/\(B0 lo a J n).2.1=((HT.sIx n n a:I):W')/\(B0 lo a J n).2.2=1:=by
 apply#[?_,?_,rfl]
 .cases lo with|none=>simp[B0,HT.sIx]|some i=>
   erw[B0,HT.sIx,Option.getD_none,show(1:W')>0 by ext,if_true];grind
 .cases a with|none=>simp[B0,HT.sIx]|some i=>
   erw[B0,HT.sIx,Option.getD_none,show(1:W')>0 by ext,if_true];grind
def
qq(a:U Aa)(lo b:O W'):slicePick a.E lo b J=((a.Θ (HT.sIx a.a 0 lo)).ϒ (HT.sIx a.a a.a b-HT.sIx a.a 0 lo)).E:=by
 let(c,d,e):=qp lo b a.E.o;unfold slicePick;rw[c,d,e];erw[sliceRange_one,pick_run,B3]<;>rfl
def qr(K:Ap):V->O W'->O W'->Hp->VK->V':=λx lo c H Q=>∃a b,x=.C a/\BU K H a b/\∀p,H p=J->Q (.C p) (AX H p (.X (I0 b lo c)))
def
Jb:Kf X (qr X.K):=by
 intro f s p H x v t u lo e w Q y h i j k zQ;let(a,c,rfl,l,q):=zQ;ext h;let(m,r,g,n):=y.Ϩ l;let d:=r.a;apply#["list",_,slot_list_getitem.S,g.ύ.ϟ,?_];apply wpAny_getItem_list_slice g.ύ i j k .Β (by simp) ?_ (by rw[B3]<;>lia);rw[qq,<- d];apply#[.C s.r.O.o,_,y.laid (t':=s.Ζ) (o:=.X<|I0 c lo e) (λb ob q=>By _ q) (A4 _) ?_,rfl,q _<|y.ϧ.Τ<|A4 _];show⟨Bu (bo c lo e) n,_,0,(r.Θ<|HT.sIx c.a 0 lo).ϒ<|HT.sIx c.a c.a e-HT.sIx c.a 0 lo,Cq _ rfl⟩
def bw:V->q'
 |.non=>J'
 |.bl _=>J'
 |.int _=>J'
 |.str _=>J'
 |_=>O'
def qt:V->V->q'
 |.non,.non=>J'
 |.bl a,.bl b=>a==b
 |.bl a,.int b=>(if a then 1 else 0)==b
 |.int a,.bl b=>a==(if b then 1 else 0)
 |.int a,.int b=>a==b
 |.str a,.str b=>a==b
 |_,_=>O'
def
qu:EO X (.ε "list") (λxs H Q=>∃p ys,xs=[.C p]/\(BU X.K H p ys\/Ck X.K H p ys)/\∀l,H l=J->Q (.C l) (AX H l (.X ys))):=by
 intro g s v H xs z Q A r zQ;let(p,ys,rfl,h,q):=zQ;let(u,rfl,x):=FL r;ext x;let fin:∀(a:U Aa),Aq ys a->ys.a<=AE->∀(c:Al) (d:I),(∀b t,s.r.R b=Z t->c.R b=Z t) ->
   c.R s.r.O.o=Z {cls:=.ε "list",dict:=J,data:=.Ϲ a.E d,slots:=(T' [])}->EP X g v Q (.C s.r.O.o) {s with heap:=c}:=λa f i c d kp e=>
  #[.C s.r.O.o,_,A.laid (t':=s.Ζ) kp (A4 _) (show A9 X.Y X.w _ c _ (.X ys)from#[i,a,d,f,e]),rfl,q _<|A.ϧ.Τ<|A4 _]
 rcases h with h|h
 .let(a,f,y,i):=A.Ϩ h;let j:=f.a;let(o,k,m,n,hd):=y.ύ;show call_list_seq p (.U rfl) k m hd (λc d kp e=>fin a f i c d kp e) (by erw[B3]<;>lia)
 .let(a,f,(o,k,m,n,hd),i):=A.ϗ h;let j:=f.a;show call_list_seq p (.φ rfl) k m hd (λc d kp e=>fin a f i c d kp e) (by erw[B3]<;>lia)
def
qv:EO X (.ε "tuple") (λxs H Q=>∃p ys,xs=[.C p]/\((BU X.K H p ys/\∀l,H l=J->Q (.C l) (AX H l (.Q ys)))\/(Ck X.K H p ys/\Q (.C p) H))):=by
 intro g s t H xs v Q k r h;let(p,ys,rfl,h):=h;let(u,rfl,m):=FL r;ext m;rcases h with⟨c,q⟩|⟨c,q⟩
 .let(a,d,f,i):=k.Ϩ c;let j:=d.a;show call_tuple_list f.ύ (λn kp=>#[.C n.O.o,_,((k.ϲ (t':=s.Ζ) kp).laid (t':=s.Ζ) (λb o e=>By _ e) (A4 _) (show A9 X.Y X.w _ _ _ (.Q ys)from#[i,a,d,IsTup.new _ _])),rfl,q _<|(k.ϲ (t':=s.Ζ) kp).ϧ.Τ (A4 _)]) (by erw[B3]<;>lia)
 .let(a,d,f,i):=k.ϗ c;show call_tuple_same f #[.C p,H,k,rfl,q]
def bz(K:Ap)(T:String)(x:V)(H:Hp):V':=match x with
 |.str _=>T="str"
 |.int _=>T="int"
 |.ref p=>(T="list"/\∃a,BU K H p a)\/(T="tuple"/\∃o,K.S p=Z o/\o.cls=.ε "tuple"/\o.dict=J) \/
   (T="dict"/\(∃b c,Rd H p (.dct b c)))
 |_=>False
def
qw{b:A1}{H:Hp}{s:Ab}{T:String}{x:V}{v:Aa}(m:Inv X b Y' H s)(r:RelV x v)(ty:bz X.K T x H):s.TypeIs v T/\∀a,v=.C a->∃ob,s.r.R a=Z ob/\ob.dict=J:=by
 cases x with
 |str z=>
  let(t,rfl):=r;cases(show T="str" from ty);show#[typeIs_str s z t,λ_ e=>nomatch e]
 |int i=>
  let(t,rfl):=r;cases(show T="int" from ty);show#[typeIs_int s i t,λ_ e=>nomatch e]
 |ref p=>
  ext r;rcases ty with⟨rfl,l,g⟩|⟨rfl,o,d,h,hd⟩|⟨rfl,_,_,d⟩
  .let(j,_,f,_):=m.Ϩ g;apply#[f.ύ.ϟ,λa e=>?_];ext e;let(o,n,e,c,hd,_):=f;show#[o,e,hd]
  .apply#[#[o,m.kIn p o d,h],λa e=>?_];ext e;show#[o,m.kIn _ o d,hd]
  .let(_,_,_,o,_,_,e,ex,_):=d.ok m.ϧ;apply#[#[o,e,ex.1],λa k=>?_];ext k;show#[o,e,ex.2.1]
 |_=>show BV ty
def qx(K:Ap)(T:String)(r:V->U V->Hp->VK->V')(to:TE)(t:TA):TE:=λa H Q=>to a H λx b=>bz K T x b/\t a b λc d=>r x c d Q
variable{e:Expr}{to:TE}{t:TA}{name:Ae}{T id:String}{r:V->U V->Hp->VK->V'}
def
Kg(m:PlainAttrs T)(slot:Slot T name id)(g:typeOf (.ξ id)=Am (.ε "method_descriptor"))(n:Oo X id r)(p:PE X o to)(q:PA X (e::es) t) (c:↑(Hr o name X.G (As o X.G)=As o X.G)) (f:↑(((AF ç (AQ (e::es) X.G)).ϝ (λx=>!x.1)&&(Hs ç (Ht [] X.G)).ϝ (λx=>x.1.υ) && decide ((e::es).a+([]:U E5).a+(if([]:U E5).Ω then 0 else 1)<30))=J')) (d:↑((å.endLine==ç.ϩ)=J')) (u:↑(AQ (e::es) X.G=(O',As e X.G)::AQ es X.G)) (b:↑((AF ç (AQ es X.G)).any (·.1)=O')):PE X (.Φ (.η o name å) (e::es) [] ç) (qx X.K T r to t):=by
 intro a s i H Q R h;apply wpAny_Call_method_late c f d rfl<|A8 (p a s i H _ R h) λv w y=>?_;let(x,z,j,k,ty,A):=y;let(B,C):=qw j k ty;apply#[T,id,m,slot,g,B,C,?_];let l:=q ç a w i z _ j A;rw[u]at l ⊢;show Calls.callWith_builtin (by show(O'||(AF ç<|AQ es X.env).any (·.1))=O';rw[b]<;>rfl)<|Calls.evalArgs_plain<|A8 l λE G ⟨F,L,M,N,P⟩=>n a G i L x F v E Q M k N P
end
def Uy(X:Cx)(id:String)(r:V->U V->Hp->VK->V'):V':=
 ∀(a:A1) (s:Ab) (b:St) (H:Hp) (x:V) (c:U V) (v:Aa) (d:U Aa) (Q:VK),Inv X a b H s->RelV x v->Aq c d->r x c H Q ->
  wpAny (Af X.Y X.w) X.A (call (.ξ id) (v::d)) (EP X a b Q) X.xe s
def
Aq.one{x:V}{us:U Aa}(h:Aq [x] us):∃u,us=[u]/\RelV x u:=by
 cases h with
 |cons r t=>ext t;show#[_,rfl,r]
def
Aq.two{x y:V}{us:U Aa}(h:Aq [x,y] us):∃u v,us=[u,v]/\RelV x u/\RelV y v:=by
 cases h with
 |cons r t=>
  cases t with
  |cons q t=>ext t;show#[_,_,rfl,r,q]
def
Aq.eraseIdx:∀{xs:U V}{us:U Aa}(i:I),Aq xs us->Aq (xs.ϛ i) (us.ϛ i)
 |_,_,_,.nil=>.Ϧ
 |_,_,0,.cons _ t=>t
 |_,_,i+1,.cons r t=>.Ο r<|Aq.ϛ i t
def
bA{a:Type}:∀(l:U a)(i:I),(l.ϛ i).a<=l.a
 |[],_=>A4 _
 |_::_,0=>Nat.le_succ _
 |_::r,i+1=>QP<|bA r i
variable {H:Hp}{s:Ab}{l b:Ac}{xs:U V}
def
Inv.lset{a ð:U Aa}{n:I}{f:Array Aa->Array Aa}(j:Inv X ß Y' H s)(b:H l=Z (.X xs)) (e:s.r.R l=Z {cls:=.ε "list",data:=.Ϲ a.E n}) (c:f a.E=ð.E) (d:Aq ys ð) (hz:ys.a<=AE):Inv X ß Y' (AX H l (.X ys)) {s with heap:=s.r.ϰ l (F6 f),toks:=t' }:=by
 let q:=PySem.IsL.ϰ e f;rw[c]at q;apply j.write (x:=l) (e:=l) (b ▸ trivial) (.U rfl) (λi u g h=>(MV s.r (F6 f)<|Cj g).I h) ⟨_,q⟩ ?_;show⟨hz,ð,_,d,q⟩
def
Inv.lnew{a:U Aa}(c:Inv X ß Y' H s)(b:Aq ys a)(hz:ys.a<=AE):Inv X ß Y' (AX H s.r.O.o (.X ys)) {s with heap:=s.r.Ι {cls:=.ε "list",data:=.Ϲ a.E},toks:=t' }:=c.laid (λ_ _ q=>By _ q) (A4 _) #[hz,a,0,b,Cq _ rfl]
def
Inv.fresh(a:Inv X ß Y' H s):H s.r.O.o=J:=a.ϧ.Τ<|A4 _
def
Inv.lstM(c:Inv X ß Y' H s)(b:H l=Z (.X xs)):xs.a<=AE/\∃(a:U Aa)(n:I),Aq xs a/\xs.a=a.a/\s.r.R l=Z {cls:=.ε "list",data:=.Ϲ a.E n}:=by
 let(z,a,n,r,e):=c.ϧ l _ b;show#[z,a,n,r,r.a,e]
def
qy{n:I}(h:n<=AE):Uz n=O':=by
 show decide_eq_false<|Kh.Ϛ h
end
section
def qA:V->U V->Hp->VK->V':=λx b H Q=>∃l a y,x=.C l/\b=[y]/\H l=Z (.X a)/\a.a<AE/\Q .Ε (AX H l (.X (a++[y])))
def
bB:Uy X "list.append" qA:=by
 intro b s i H x j v k Q d f g zQ;let(l,m,y,rfl,rfl,c,o,q):=zQ;ext f;let(u,rfl,h):=g.one;let(z,a,n,r,p,e):=d.lstM c;apply BW F.Ϻ #[_,e,rfl] F.entry_list_append (F.args_list_append_2 _ _) (PySem.list_append l a.E n u (by rw[B3];lia)) #[e,?_];apply#[.Ε,_,d.lset (ð:=a++[u]) c e (by simp) (r.Η<|.Ο h .Ϧ) ?_,rfl,q];rw[F4,UA];lia
def qB:V->U V->Hp->VK->V':=λx d H Q=>∃l b a c,x=.C l/\d=[.C b]/\H l=Z (.X a)/\H b=Z (.X c)/\a.a+c.a<=AE/\Q .Ε (AX H l (.X (a++c)))
def
qC:Uy X "list.extend" qB:=by
 intro g s A H x B v C Q K j k zQ;let(l,b,E,G,rfl,rfl,h,m,o,q):=zQ
 ext j
 let(u,rfl,p):=k.one
 ext p
 let(z,c,n,r,i,e):=K.lstM h
 let(L,a,n2,t,w,y):=K.lstM m
 let d:c.E.o+a.E.o<=AE:=by rw[B3,B3];lia
 let f:¬ (!c.toArray.isEmpty&&Uz (c.E.o+a.E.o))=J':=by
  rw[qy d,Bool.and_false]
  show N1
 apply BW F.slot_list_extend #[_,e,rfl] F.entry_list_extend (F.args_list_extend_2 _ _)
  (AutoSeq1.list_extend_list_list_0 l c.E n b a.E n2 f (B3 ▸ Nat.le_of_add_right_le d) (Op d)) #[e,y,?_]
 apply#[.Ε,_,K.lset (ð:=c++a) h e (by simp) (r.Η t) ?_,rfl,q]
 rw[F4]
 show W.kdl_size o
end
section
set_option maxRecDepth 100000 in
end
end Internal
namespace Att
open PySem PySem.W PySem.Calls PyProof.Rows
def
qD{P:Params}{h:Al}:∀(ns:U W')(vs:U Aa),WellAll P h vs (ns.j WData.u)->IntsAre vs ns:=by
 intro ns;induction ns with
 |nil=>
  intro vs w;ext w;show .Ϧ
 |cons n ns c=>
  intro vs w;cases w with
  |cons a b=>
   ext a;show .Ο _ _<|c _ b
def
qE{l:OpenLaw}{n:I}(s:l.most=Z n){P:Params}{h:Al}{args:U WData}{Zj:U Aa} (b:l.row.toRowW.claim.pre args=J') (f:WellAll P h Zj args):∃a vs ns,Zj=[Cp a]/\args=[WData.Ϩ (ns.j WData.u)]/\h.R a=Z {cls:=.ε "list",data:=.Ϲ vs.E}/\IntsAre vs ns/\ns.a<=n:=by
 let i:l.pre.holds [] {args:=args}=J':=(pre_splitW b).2;let(d,r,rfl,j,k):=hasAllW_cons<|(pre_splitW b).1;obtain rfl:=hasAllW_nil k;let(t,rfl,m):=hasW_list j;let(ns,rfl):=items_int m;let c:ns.a<=n:=by
  let g:(WTm.not<|.lt (.lit<|.u n)<|.϶<|.arg 0).holds [] {args:=[.Ϩ<|ns.j .u]}=J':=by
   let g:=(holds_andW i).1;grind
  let u:=condW_of g<|w_not<|w_lt w_lit<|w_len_list<|w_arg rfl;simp_all
 cases f with
 |cons o p=>
  ext p;cases o with
  |list q e=>show#[_,_,ns,rfl,rfl,q,qD ns _ e,c]
def
qF(l:OpenLaw)(args:U WData):l.row.toRowW.claim.post args (.Ϥ J') args=J':=postW_of (r:=l.row.toRowW) (X:=(J'==J')) (show WShape.has [] (.Ϥ J') .Ϥ=J' by rfl) (show(WTm.eq .res<|.lit<|.Ϥ J').value [] {args:=args,res:=Z<|.Ϥ J',after:=args}=Z (.Ϥ<|true==J')from w_eq_bool (w_res rfl) w_lit) rfl
def
attach_call{l:OpenLaw}{n:I}{q:AN}{c:U Ae}{v:(Bt)->Al->V'}{x:Ai->Al->V'}{d:DefRec}
  (A:l.most=Z n) (p:d.oo.defaults=[])
  (call:∀(w:Ai) (s₀ b:Ab) (mg mb:Bt) (h:Ac) (o:Obj) (pm m e:Aa) (a:Ac) (vs:U Aa) (ns:U W'),
   Ground q c [] v w s₀ mg mb b.r->x w b.r ->
   b.r.R h=Z o->o.jk=.func (docDef d.name d.oo d.body d.Δ pm m e)->b.r.CodeRec m d.name->mg d.name=Z (.C h) ->
   b.r.R a=Z {cls:=.ε "list",data:=.Ϲ vs.E}->IntsAre vs ns->ns.a<=n->b.gens=(T' []) ->
   codeAny (Af l.Y w) callerA (.call (.C h) #[[.C a],[]]) (λr s'=>r=.ok (.Ϯ (.Ϥ J'))/\OldK b.r s'.r/\s'.os=b.os/\AllBare s'.gens) b):
  WalkO q c v x l.row.toRowW d [] (λf vs=>PySem.call f vs):=by
 intro w s₀ b mg mb G Y h o pm m e B C E hd s y t H args Zj T i z P u F
 obtain rfl:B=.Β:=Dflts.Β y p
 obtain rfl:C=.Β:=Dflts.noKw y
 let(a,vs,ns,rfl,rfl,j,g,k):=qE A i u
 apply enter_call (LH (call w s₀ b mg mb h o pm m e a vs ns G Y E (fd_plain hd) s t j g k H) λr s' L=>?_)
 let(rfl,M,N,K):=L
 show#[.U #[.Ϥ J',.Ϥ J',[],rfl,λ_=>rfl,.Ϥ J',qF l _,λ_=>#[List.ϳ.Ϧ,λ_ Q=>(nomatch Q)]],M,N,K]
end Att
namespace Internal
open PySem PySem.Spec PyProof.Rows
def
bC{vs:U Aa}{ns:U W'}(h:IntsAre vs ns):Aq (ns.j V.u) vs:=by
 induction h with
 |nil=>show .Ϧ
 |cons n t _ a=>show .Ο #[t,rfl] a
def UB(H:Hp):V':=∀b,H b=J\/∃o a,H b=Z (.frz o (.X a))
def
qG{P:AN}{w:Ai}{K:Ap}{mg mb:Bt}{k:I}{B:Ac}{fd:Cm}{x:Ae}{sp:Sp}{c:Ab}{vs:U Aa}{ns:U W'}
  (N:K.In c.r) (j:c.r.Ns BZ mg) (f:c.r.Ns builtinsNs mb) (C:∀x:Ae,x≠"__name__"->mb x=Em x) (l:c.r.NoLimit) (W:c.gens=(T' []))
  (E:c.r.R a=Z {cls:=.ε "list",data:=.Ϲ vs.E}) (G:IntsAre vs ns) (S:ns.a<=AE) (Y:AJ k callerA)
  (F:∀base:Al,K.In base->base.Ns BZ mg->AY P w K mg base CX k B fd [x] sp) (i:∀(s:Ab) (u:Aa),BindsTo s fd #[[u],[]] [(x,u)])
  (X:∀H:Hp,UB H->BU K H a (ns.j V.u)->sp [.C a] H (λv _=>v=.bl J') λ_ _ _=>False)
  (R:∀H e s',CX [] H c (λ_ _ _=>False) e s'->False):
  codeAny (Af P w) callerA (.call (.C B) #[[.C a],[]]) (λr s'=>r=.ok (.Ϯ (.Ϥ J'))/\OldK c.r s'.r/\s'.os=c.os/\AllBare s'.gens) c:=by
 let core:∀H:Hp,UB H->BU K H a (ns.j V.u)->Cu P w H c.r->(∀b,H b≠J->b=a)->(H a≠J->K.S a=J) ->
   codeAny (Af P w) callerA (.call (.C B) #[[.C a],[]]) (λr s'=>r=.ok (.Ϯ (.Ϥ J'))/\OldK c.r s'.r/\s'.os=c.os/\AllBare s'.gens) c:=by
  intro H Q hS hok hA hK
  let L:∀{b:Ac} {o:Obj} {y:Array IU} {A:I},c.r.R b=Z o->o.jk=.dict y A->H b=J:=λ{b o y A} e d=>by
   grind
  let g:∀{b:Ac} {m:Bt},c.r.Ns b m->(Lv c.r H).Ns b m:=λ{b m} ⟨o,y,A,e,d,r⟩=>#[o,y,A,(λe n=>ag e n) e (L e d),d,r]
  let p:K.In (Lv c.r H):=λb o e=>(λe n=>ag e n) (N b o e) (by
   cases q:H b with
   |none=>rfl
   |some u=>
    let e':b=a:=hA b (by rw[q];simp)
    subst e'
    rw[hK (by rw[q];simp)]at e;ext e)
  let hM:Mod K mg (Lv c.r H):=#[p,g j,#[mb,g f,C],let⟨mc,h1,h2⟩:=l;#[mc,g h1,h2]]
  apply LH ((F _ p (g j)).run callerA [] c H #[[.C a],[]] [.C a] [.C a] _ _ Y #[rfl,hM,λb o e=>nW e,Nat.le_of_eq (nV _ _),trivial,λb f=>absurd (show b∈([]:U Ac)from f) (by simp),hok,.of_eq W] (i c (.C a)) (.Ο rfl .Ϧ) (X H Q hS)) λr s' h=>?_
  cases r with
  |error e=>show(R H e s' h).ι
  |ok fl=>
   cases fl with
   |next=>show BV h
   |brk=>show BV h
   |cont=>show BV h
   |ret u=>
    let(v,H',os,bare,un,t,r',q):=h
    subst q
    obtain rfl:u=Value.Ϥ J':=r'
    apply#[rfl,OldK.of_keep λb o e=>?_,os,bare]
    cases q:H b with
    |none=>show un.keep b o e q (by intro z;show absurd (show b∈([]:U Ac)from z) (by simp)) (by simp)
    |some u=>
     rcases Q b with z|⟨ob,xs,z⟩
     .rw[q]at z;ext z
     .let(T,_):=hok b _ z
      let(e2,_):=t b _ (un.frzs b ob _ z)
      rw[e]at T;ext T
      show e2
 cases M:K.S a with
 |some o=>
  let e:=N a o M
  rw[E]at e
  ext e
  apply core (λ_=>J) (λ_=>.U rfl) (.φ #[_,vs.E,_,M,rfl,rfl,rfl,by rw[B3,G.a];show S,by simpa using(bC G)]) (λb u z=>by have z':(J:O HO)=Z u:=z;ext z') (λb z=>absurd rfl z) λz=>absurd rfl z
 |none=>
  apply core (λb=>if b=a then Z (.frz {cls:=.ε "list",data:=.Ϲ vs.E} (.X (ns.j V.u)))else J) (λb=>?_) (.U (.φ #[{cls:=.ε "list",data:=.Ϲ vs.E},if_pos rfl])) (λb u z=>?_) (λb z=>?_) λ_=>M
  .by_cases f:b=a
   .show .φ #[_,_,if_pos f]
   .show .U (if_neg f)
  .by_cases f:b=a
   .cases((if_pos f).Γ.I z)
    subst f
    show#[E,by rw[Bg];show S,vs,_,(bC G),E]
   .cases((if_neg f).Γ.I z)
  .by_cases f:b=a
   .show f
   .show absurd (if_neg f) z
def
walk_of{l:PySem.W.OpenLaw}{n k:I}{q:AN}{i:U Ae}{X:(Bt)->Al->V'}{C:Ai->Al->V'}{d:DefRec}{K:Params->Ap}{CX:Ai->D8}{sp:Ai->Sp}{x:Ae} (P:l.most=Z n) (t:n<=AE) (y:d.oo.defaults=[]) (L:AJ k callerA) (M:∀(w:Ai) (h:Al),C w h->(K w.oo).In h) (F:∀(w:Ai) (mg:Bt) (r:Ac) (h:Al),(K w.oo).In h->h.Ns BZ mg->mg d.name=Z (.C r)->∃fd:Cm,(∀(s:Ab) (u:Aa),BindsTo s fd #[[u],[]] [(x,u)])/\∀base:Al,(K w.oo).In base->base.Ns BZ mg->AY l.Y w (K w.oo) mg base (CX w) k r fd [x] (sp w)) (z:∀(w:Ai) (H:Hp) (a:Ac) (ns:U W'),ns.a<=n->UB H->BU (K w.oo) H a (ns.j V.u)->sp w [.C a] H (λv _=>v=.bl J') λ_ _ _=>False) (A:∀(w:Ai) (H:Hp) (s:Ab) (e:Aa) (s':Ab),CX w [] H s (λ_ _ _=>False) e s'->False):PySem.W.WalkO q i X C l.row.toRowW d [] (λf vs=>PySem.call f vs):=by
 apply Att.attach_call P y λw s₀ m mg mb r o pm cd N a vs ns G Y ho hd R B p j c Q=>?_;let E:=M w _ Y;let(fd,S,hF):=F w mg r _ E G.T.g B;show qG E G.T.g G.T.b G.T.builtins G.T.nolimit Q p j (Bu c t) L hF S (λH hO hS=>z w H a ns c hO hS) λH e s'=>A w H m e s'
def Hy(s:Ay)(j:I):Ay:=match s with
 |.ClassDef _ _ _ a _ _ _ _ _ _ _=>a.β j (.Pass #[0,0,0,0])
 |_=>.Pass #[0,0,0,0]
def Ig(s:Ay):Arguments:=match s with
 |.FunctionDef _ a _ _ _ _ _ _ _ _=>a
 |_=>{posonlyargs:=[],args:=[],vararg:=J,kwonlyargs:=[],kw_defaults:=[],kwarg:=J,defaults:=[]}
def ZJ(s:Ay):U Ay:=match s with
 |.FunctionDef _ _ b _ _ _ _ _ _ _=>b
 |_=>[]
def Zg(s:Ay):Scope:=match s with
 |.FunctionDef _ _ _ _ _ _ a _ _ _=>a
 |_=>{kind:=.h6,names:=[],isGenerator:=O',isCoroutine:=O'}
abbrev Bi:D8:=λ_ _ _ _ _ _=>False
abbrev E0:XK:=λ_ _ _=>False
def
Jc:FN Bi X E0:=λ_ _ _ _ _ _ _ h=>h.ι
structure Ih(K:Ap)(x qual:Ae)(st:Ay)(f:Ac)(fd:Cm):V' where
 ex:∃(oc:Aa) (od:Option Ac) (kV doc pm:Aa) (an:Option Ac) (cdv ct:Aa) (osl:Array (Option Aa)),
  fd=Kb x qual (Ig st) (ZJ st) (Zg st) .Β kV doc pm an cdv ct/\K.S f=Z #[oc,od,.func fd,osl]/\PySem.W.codeIn K cdv qual=J'
 kp:IY K (.C f)=J'
variable {P:AN}{w:Ai}{K:Ap}{mg:Bt}{base:Al}
def
Ih.ok{x a:Ae}{st:Ay}{f:Ac}{fd:Cm}{N d:U Ae}{k:I}{sp:Sp}(F:Ih K x a st f fd)(S:Z2 N d (Zg st))(len:∀vs H Q E,sp vs H Q E->vs.a=d.a) (c:∀(b:Aa) (A:Ag) (outer:U Env) (s:Ab) (H:Hp) (vs:U V) (Q:VK) (E:XK),AJ k (A.ϖ (A7 a (Zg st) s.r.O.o f b))->sp vs H Q E->∃t,E3 (CV Bi P w K mg base N a (Zg st) f b A outer s H E).nox (ZJ st) t/\t {nx:=λ_ H'=>Q .Ε H',rt:=Q} (FO N vs) H):AY P w K mg base Bi (k+1) f fd d sp:=by
 let(n,o,p,i,r,u,b,ct,j,rfl,l,e):=F.ex;apply Uv l e S len λA outer s H vs Q E m g=>?_;let(t,h,q):=c b A outer s H vs Q E m g;show#[t,h.nox,q]
def
bD{x a:Ae}{st:Ay}{f:Ac}{i:Aa}{j g:O Ac}{e:Array (O Aa)}{h d pm b ct:Aa}(l:K.S f=Z #[i,j,.func (Kb x a (Ig st) (ZJ st) (Zg st) .Β h d pm g b ct),e]) (c:PySem.W.codeIn K b a=J') (k:IY K (.C f)=J'):Ih K x a st f (Kb x a (Ig st) (ZJ st) (Zg st) .Β h d pm g b ct):=#[#[i,j,h,d,pm,g,b,ct,e,rfl,l,c],k]
end
def
qH{n:I}(h:n<=1000):n<AE:=Ee h (by ext)
def Ak(H H':Hp):V':=∀b o,H b=Z o->H' b=Z o
def
Ak.refl(H:Hp):Ak H H:=λ_ _ h=>h
def
Ak.trans{H d e:Hp}(a:Ak H d)(b:Ak d e):Ak H e:=λc o h=>b c o<|a c o h
def
Ak.free{H:Hp}(e:Ak H H'){l:Ac}(h:H' l=Option.Β):H l=Option.Β:=by
 cases q:H l with|none=>rfl|some o=>
  rw[e l o q]at h;ext h
def
Ak.seq{K:Ap}{H:Hp}{xs:U V}(e:Ak H H')(h:BU K H a xs):BU K H' a xs:=by
 rcases h with(h|⟨o,h⟩)|h
 .show .U<|.U<|e _ _ h
 .show .U<|.φ ⟨o,e _ _ h⟩
 .show .φ h
structure NV(X:Cx)(i:I)(x:Ae):V' where
 n:X.N[i]?=Z x
 v:N5 X.G.Δ x
 d:CT x
 c:(x==("__classdict__":Ae))=O'
def
E6{i:I}{x:Ae}(n:↑(X.N[i]?=Z x))(v:N5 X.G.Δ x:=by first|show Or.U rfl|show Or.φ (Or.U rfl)|show Or.φ (Or.φ rfl))(d:⇑(CT x))(c:⇑((x==("__classdict__":Ae))=O')):NV X i x:=#[n,v,d,c]
def
GU{i:I}{x:Ae}(h:NV X i x):PE X (.γ x pos) (aj i):=ak h.n h.v h.d h.c
def FP(env:Env):U (Ae×Hu)->U (Ae×Ac)->U (Ae×Ac)
 |[],a=>a
 |(n,k)::r,a=>if k=Ki then FP env r ((n,(env.ϣ.S n).β 0)::a)else FP env r a
def
bE{env:Env}(h:∀x∈scope.ρ,x.2=.Ν->∃c,env.ϣ.S x.1=Z c):closureFor scope env=Am (FP env scope.ρ []):=by
 let all:∀(l:U (Ae×Hu)) (b:U (Ae×Ac)),(∀x∈l,x.2=.Ν->∃c,env.ϣ.S x.1=Z c) ->
   (forIn l b (λ(x:Ae×Hu) (b:U (Ae×Ac))=>if(x.2==Ki)=J' then(do let a <- cellOf env x.1;Am<|GV<|(x.1,a)::b)else Am (GV b)):BI (U<|Ae×Ac))=Am (FP env l b):=by
  intro l;induction l with|nil=>intro b _;rfl|cons x l i=>
   intro b e;let(n,k):=x;rw[List.forIn_cons];let f:=λb=>i b<|λy j=>e y<|Bv _ j;by_cases d:k=.Ν
   .subst d;let(c,g):=e (n,.Ν) Bo rfl;erw[beq_self_eq_true,if_true,show cellOf env n=Am c by unfold cellOf;erw[g],pure_bind,f,FP,g,Option.getD_some]
   .erw[show(k==Ki)=O' by simpa using d,FQ,if_false,pure_bind,f,FP,d]
 have:=all scope.ρ [] h;erw[closureFor];rw[<- bind_pure (Am (FP env scope.ρ []):BI _),<- this]
def
UC{env:Env}:∀(l:U (Ae×Hu))(cs:U (Ae×Ac)),(∀x∈l,x.2=.Ν->∃c,env.ϣ.S x.1=Z c)->(∀p∈cs,env.ϣ.S p.1=Z p.2)->∀p∈FP env l cs,env.ϣ.S p.1=Z p.2
 |[],cs,_,h=>h
 |(n,k)::r,cs,a,h=>by
  by_cases d:k=.Ν
  .subst d;let(c,e):=a (n,.Ν) Bo rfl;apply UC r _ (λy b=>a y<|Bv _ b) λp f=>?_;grind [BJ,Option.getD_some]
  .erw[FP,d,if_false];show UC r cs (λy b=>a y<|Bv _ b) h
def
UD{env:Env}:∀(l:U (Ae×Hu))(cs:U (Ae×Ac))(x:Ae),((x,Ki)∈l\/∃c,(x,c)∈cs)->∃c,(x,c)∈FP env l cs
 |[],cs,x,h=>by
  rcases h with h|h
  .cases h
  .show h
 |(n,k)::r,cs,x,h=>by
  by_cases a:k=.Ν
  .subst a;apply UD r _ x ?_;grind [BJ,Bo,Bv]
  .erw[FP,a,if_false];apply UD r cs x ?_;rcases h with h|h
   .rcases BJ.mp h with e|h
    .cases e;show absurd rfl a
    .show .U h
   .show .φ h
def
bF{a:Type}:∀{l:U (Ae×a)}{x:Ae}{c:a},(x,c)∈l->∃d,l.S x=Z d
 |[],_,_,h=>by cases h
 |(n,b)::r,x,c,h=>by
  rw[List.lookup_cons];cases e:x==n with|true=>show#[b,rfl]|false=>
   rcases BJ.mp h with z|h
   .cases z;simp at e
   .show bF h
structure Jd(own outs:List Ae)(sc osc:Scope):V' where
 kind:sc.ϫ=.h6
 nocell:∀x∈sc.ρ,x.2≠.Υ
 free:∀x∈sc.ρ,x.2=.Ν->osc.ρ.S x.1=Z .Υ\/osc.ρ.S x.1=Z .Ν
 loc:∀x∈sc.ρ,x.2=.ϐ->sc.ρ.S x.1=Z .ϐ
 out:∀x∈outs,sc.ρ.S x=Z .Ν
 nd:(own++outs).μ
def
Di{env:Env}:∀{names:U (Ae×Hu)}{x:Ae},names.S x=Z .Ν->((names.j λ(n,k)=>if(k==Ki&&env.Δ.ϫ==.h6&&env.kindOf n==Z .Υ)then(n,NameKind.Υ)else(n,k)).S x=Z .Υ \/(names.j λ(n,k)=>if(k==Ki&&env.Δ.ϫ==.h6&&env.kindOf n==Z .Υ)then(n,NameKind.Υ)else(n,k)).S x=Z .Ν)
 |[],_,h=>by simp at h
 |(n,k)::r,x,h=>by
  let a:=@Di env r x;grind
def
CD{env:Env}:∀{names:U (Ae×Hu)}{x:Ae}{k:Hu},k=.Υ\/k=.Ν->(∀y∈names,y.2≠.Υ)->(names.j λ(n,k)=>if(k==Ki&&env.Δ.ϫ==.h6&&env.kindOf n==Z .Υ)then(n,NameKind.Υ)else(n,k)).S x=Z k->(x,Ki)∈names
 |[],_,_,_,_,h=>by simp at h
 |(n,j)::r,x,k,a,b,h=>by
  let d:=@CD env r x k a λy c=>b y<|Bv _ c;grind
def DD(X:Cx)(own a:U Ae)(scope:Scope)(C:Ac)(c:Ab)(d:Hp)(e:U Ac)(b:A1):Cx where
 prog:=X.Y
 w:=X.w
 K:=X.K
 mg:=X.mg
 base:=X.σ
 A:=X.A
 N:=own++a
 s₀:=c
 H₀:=d
 env:=compEnvC scope (FP X.G scope.ρ []) C X.G
 outer:=X.Ψ
 stack:=X.Ψ
 ex:=e
 fn:=λ_=>O'
 calm:=X.Ϸ
 pn:=X.pn++b
 xe:=λ_ _=>False
def Hz(X:Cx)(b:U Expr)(e:TT):V':=
 ∀(a:A1) (s:Ab) (d:St) (H:Hp) (Q:q'->Hp->V'),Inv X a d H s->e d H Q ->
  wpAny (Af X.Y X.w) X.A (forIn b J' λc r=>if r=J' then do let ok <- isTrue c X.G (As c X.G);Am (GV ok)else Am (GV r)) (TP X a d Q) X.xe s
def qI:TT:=λ_ H Q=>Q J' H
def
qJ:Hz X [] qI:=λ_ _ _ H _ a h=>wpAny_tests_nil #[H,a,h]
def
qK{c:Expr}{b:TT}(h:PT X c b):Hz X [c] b:=λa s d H Q e q=>wpAny_tests_one<|h a s d H Q e q
def Fj(k:I)(ø:U I)(Y':St):St:=Ct k J++ø.j λj=>(Y'[j]?).join
def UE(k:I)(ø:U I)(g:TG)(l:TT)(m:TE)(r:It)(Y':St)(H:Hp)(Q:VK):V':=
 ∃(n:I) (W:I->U V->Hp->V'),W 0 [] H/\∀i c d,W i c d ->
  (r.stop i d/\c.a<=AE/\∀p,d p=J->Q (.C p) (AX d p (.X c))) \/
  (r.go i d/\i<n/\c.a<AE/\∃N:U V->Hp->V',(∀e f,N e f->W (i+1) e f)/\∀x h,r.yld i d x h->g x (Fj k ø Y') h λa o=>a.Θ k=(Fj k ø Y').Θ k /\
   l a o λb j=>if b=J' then m a j λy q=>N (c++[y]) q else N c j)
def QQ(k:I)(ø:U I)(wi:TI)(g:TG)(b:TT)(c:TE):TE:=λa H Q=>wi a H λe d=>UE k ø g b c e a d Q
def F7(a:U Aa)(n:I):Obj:={cls:=.ε "list",data:=.Ϲ a.E n}
def
Cu.track{P:AN}{w:Ai}{H:Hp}{h:Al}{o:HO}(x:Cu P w H h)(d:H a=J)(new:A9 P w (AX H a o) h a o):Cu P w (AX H a o) h:=λb u e=>by
 by_cases f:b=a
 .grind [Z5]
 .rw[Zr f]at e;show(x b u e).stay (λc v _ q=>q) (λc q=>Zr (ZY q d) ▸ q) λc g q=>Zr (ZY q d) ▸ q
def
bG{f:A1}{zA:Hp}{a:Ab}{P:It}{M:U Ac}{it:Ac}
  {own zB:U Ae} {ø:U I} {g:TG} {tt:TT} {te:TE} {Q:VK}
  (S:Jd own zB scope X.G.Δ) (hox:ø.j (λj=>X.N[j]?)=zB.j Z) (hc:X.Ϸ=J')
  (hg:∀C a zA M f,PG (DD X own zB scope C a zA M f) tg g)
  (ht:∀C a zA M f,Hz (DD X own zB scope C a zA M f) ifs tt)
  (he:∀C a zA M f,PE (DD X own zB scope C a zA M f) elt te)
  (B:Inv X f Y' zA a) (T:Ib X.Y X.w X.K tg P M it tn) (st:tn 0 a.r) (f2:∀b∈M,Gw X f zA b)
  (h:UE own.a ø g tt te P Y' zA Q)
  (hRR:∀(C:Ac) (s':Ab) (m:Bt) (H':Hp),s'.r.Ns C m->Inv X f Y' H' s'->H' C=J->C≠X.G.Λ->X.s₀.r.O.o<=C ->
   (∀x c,X.G.ϣ.S x=Z c->c≠C)->(∀p∈X.pn++f,p.1≠C)->Q (.C a.r.O.o) H'->RR (.C a.r.O.o) C (.ok .α) s'):
  wpAny (Af X.Y X.w) X.A (newList []) (λæ s₃=>wpAny (Af X.Y X.w) X.A (newFunctionEnv scope X.G.globals (FP X.G scope.ρ []) [] X.G.qual J .Β (Z X.G)) (λcenv s₄=>
   codeAny (Af X.Y X.w) X.A (.compStart (.Ξ elt [#[tg,iter,ifs,0]] scope pos) 0 (.C it) æ {cenv with scope:=relabel scope X.G}) (RR æ cenv.Λ) s₄) E s₃) E a:=by
 let(n,W,w0,turn):=h
 apply Ke (wpAny_newFunctionEnv S.nocell (by intro y hy;simp at hy) (λh₁ R L=>?_) S.ϫ)
 generalize hP:a.r.Ι {cls:=.ε "list",dict:=J,data:=.Ϲ ([]:U Aa).E}=t at R L ⊢
 let hC:t.O.o=a.r.O.o+1:=by rw[<- hP,LC]
 generalize hCC:t.O.o=C at R L hC ⊢
 let hDC:a.r.O.o≠C:=hC ▸ Ci (Nat.lt_succ_self _)
 let H:a.r.O.o<C:=hC ▸ Nat.lt_succ_self _
 let old:∀b o,a.r.R b=Z o->h₁.R b=Z o:=λb o e=>
  L.Α b o (Ci (Kj (BB e) H)) (By _ (hP ▸ By _ e))
 let clX:∀x c,(FP X.G scope.ρ []).S x=Z c->X.G.ϣ.S x=Z c:=λx c e=>
  UC scope.ρ [] (λx hx hf=>B.ok.has x.1 (S.Ν x hx hf)) (λp t=>by ext t) (x,c) (LJ e)
 let clHas:∀x,(x,Ki)∈scope.ρ->∃c,(FP X.G scope.ρ []).S x=Z c:=λx hx=>by
  let(c,hc):=UD (env:=X.G) scope.ρ [] x (.U hx)
  show bF hc
 let fpLt:∀b∈M,b<a.r.O.o:=λb G=>by
  let(o,e,_):=T.obj 0 _ st b G
  show BB e
 let cLt:∀x c,X.G.ϣ.S x=Z c->c<a.r.O.o:=λx c e=>by
  let(v,q):=B.Υ x c e
  show q.lt
 let fpStk:∀b∈M,b∉Cy X.Ψ:=λb G z=>by
  rcases BJ.mp (B.stkSub b z)with e|z
  .show(f2 b G).2.1 e
  .show(f2 b G).2.2.1 z
 let pinLt:∀p∈X.pn++f,p.1<a.r.O.o:=λp t=>BB (B.pin p t).1
 let pinStk:∀p∈X.pn++f,p.1∉Cy X.Ψ:=λp t z=>by
  rcases BJ.mp (B.stkSub _ z)with e|z
  .show(B.pin p t).2.2.1 e
  .show(B.pin p t).2.2.2.1 z
 let fsLt:∀b∈Cy X.Ψ,b<a.r.O.o:=λb G=>by
  let(_,o,ho,_):=B.Ψ.mem G
  show BB ho
 letI Y:Cx:=DD X own zB scope C a zA M f
 let okY:Y.Ok:={
  mod:=B.ok.mod
  kind:=S.ϫ
  glob:=B.ok.glob
  blt:=B.ok.blt
  above:=FH H
  inj:=λx y c h1 h2=>B.ok.inj x y c (clX x c h1) (clX y c h2)
  has:=λx hx=>by
   apply clHas x ?_
   rcases hx with hx|hx
   .show CD (env:=X.G) (.U rfl) S.nocell hx
   .show CD (env:=X.G) (.φ rfl) S.nocell hx
  cab:=λx c hf _=>absurd (show O'=J' from hf) N1
  hd:=B.ok.hd
  frames:=B.ok.ϴ
  stk:=.U rfl
  exf:=λb G=>#[Ci (Kj (fpLt b G) H),λx c e=>(f2 b G).2.2.2.2.1 x c (clX x c e)]
  bs:=B.bs
  bsz:=Bu B.ok.bsz B.sz
  noex:=λb o e G=>by
   rcases(f2 b G).2.2.2.1 with z|z
   .show B.ok.noex b o e z
   .show absurd (BY (BB e) (Bu B.ok.bsz z)) (HZ _)
  exfs:=fpStk
  funs:=B.Ψ
  frf:=B.stkFree}
 let lenS:(Fj own.a ø Y').a=Y.N.a:=by
  let e:=congrArg List.a hox
  erw[Bg]at e
  show(Ct own.a J++ø.j _).a=(own++zB).a
  rw[F4,F4,MP,Bg,e]
 let I4:Inv Y [(a.r.O.o,F7 [] 0)] (Fj own.a ø Y') zA {a with heap:=h₁}:={
  ok:=okY
  os:=rfl
  bare:=B.bare
  base:=Un.ϲ old
  loc:=by
   apply#[_,R,λi x v e1 e2 e3=>?_]
   let hi:own.a<=i:=by
    apply(GX)
    intro hlt
    unfold Fj at e2
    rw[Hw (MP ▸ hlt),J9,if_pos hlt]at e2
    ext e2
   unfold Fj at e2
   rw[IZ (MP ▸ hi),MP,D9]at e2
   let e1':zB[i-own.a]?=Z x:=by
    let e1:(own++zB)[i]?=Z x:=e1
    rwa[IZ hi]at e1
   cases ej:ø[i-own.a]? with
   |none=>rw[ej]at e2;cases e2
   |some j=>
    rw[ej]at e2
    let e2':(Y'[j]?).join=Z v:=Gs e2
    let e2'':Y'[j]?=Z (Z v):=by
     cases eI:Y'[j]? with
     |none=>rw[eI]at e2';cases e2'
     |some z=>rw[eI]at e2';show congrArg Z e2'
    let eN:X.N[j]?=Z x:=by
     let q:=congrArg (λl=>l[i-own.a]?) hox
     erw[D9,ej,e1',LN]at q
     show Gs q
    let hfree:scope.ρ.S x=Z .Ν:=S.out x (Ka e1')
    let hk:X.G.Δ.ρ.S x=Z .Υ\/X.G.Δ.ρ.S x=Z .Ν:=S.Ν (x,.Ν) (LJ hfree) rfl
    let(m,hn,hl):=B.loc
    let(u,r,l):=hl j x v eN e2'' (by rcases hk with hk|hk;show .φ (.U hk);show .φ (.φ hk))
    apply#[u,r,.φ #[Di (env:=X.G) hfree,?_]]
    let(c,ec):=clHas x (LJ hfree)
    apply#[c,ec,?_]
    rcases l with⟨k,_⟩|⟨_,c',e',o,ho,hd⟩
    .rcases hk with hk|hk
     .show absurd (k.Γ.I hk) (by ext)
     .show absurd (k.Γ.I hk) (by ext)
    .rw[clX x c ec]at e'
     ext e'
     show#[o,old _ _ ho,hd]
  cell:=λx c e=>by
   let(v,o,ho,hd):=B.Υ x c (clX x c e)
   show#[v,o,old _ _ ho,hd]
  free:=B.ϧ.Τ (FH H)
  freeC:=λx c e=>B.freeC x c (clX x c e)
  pin:=λp t=>by
   rcases Cz.mp t with t|t
   .let(e,n,_,_,d):=B.pin p t
    show#[old _ _ e,n,Ci (Kj (pinLt p t) H),pinStk p t,d]
   .let e:p=(a.r.O.o,F7 [] 0):=by exists t
    subst e
    apply#[(L.Α _ _ hDC (By _ (hP ▸ Cq _ rfl))),B.ϧ.Τ (A4 _),hDC,λz=>absurd (fsLt _ z) (HZ _),λv z=>?_]
    ext z
  hok:=B.ϧ.ϲ old
  len:=lenS}
 let fpY:∀{H':Hp} {s:U Aa} {k:I},(∀b∈M,H' b=J)->∀b∈M,Gw Y [(a.r.O.o,F7 s k)] H' b:=λ{H' s k} hn b G=>by
  apply#[hn b G,Ci (Kj (fpLt b G) H),fpStk b G,.U G,λx c e=>(f2 b G).2.2.2.2.1 x c (clX x c e),λp t=>?_]
  rcases Cz.mp t with t|t
  .show(f2 b G).2.2.2.2.2 p t
  .let e:p=(a.r.O.o,F7 s k):=by exists t
   subst e
   show Ia (fpLt b G)
 let fin:∀(i:I) (ys:U V) (s:U Aa) (k:I) (H':Hp) (s':Ab),Inv Y [(a.r.O.o,F7 s k)] (Fj own.a ø Y') H' s'->Aq ys s->ys.a<=AE ->
   Q (.C a.r.O.o) (AX H' a.r.O.o (.X ys))->RR (.C a.r.O.o) C (.ok .α) s':=λi ys s k H' s' I' rv hz q=>by
  let(m,hn,_):=I'.loc
  let(eD,nD,_):=I'.pin (a.r.O.o,F7 s k) (Dv _ (by simp))
  let neH:∀b o,zA b=Z o->b≠a.r.O.o:=λb o e=>Ci (B.ϧ.lt e)
  let un':Un (Cy X.Ψ) M zA (AX H' a.r.O.o (.X ys)) a.r s'.r:=
   #[I'.σ.keep,I'.σ.Ϡ,λb o e n hx=>Zr ((λb o e=>Ci (BB e)) b o e) ▸ I'.σ.Ν b o e n hx,I'.σ.there,λb xs e=>Zr (neH b _ e) ▸ I'.σ.tups b xs e,
    λb o u e=>Zr (neH b _ e) ▸ I'.σ.frzs b o u e,λb ps e=>Zr (neH b _ e) ▸ I'.σ.tbls b ps e]
  apply hRR C s' m _ hn (B.call' (ch:=M) I'.os un' (Cu.track I'.ϧ nD #[hz,s,k,rv,eD]) I'.bare λb G=>#[(f2 b G).2.2.2.1,(f2 b G).2.1,(f2 b G).2.2.2.2.1,(f2 b G).2.2.2.2.2]) ?_ ?_ ?_ ?_ ?_ q
  .rw[Zr (Cj hDC)];show I'.Ν
  .show Ia (Kj B.lt H)
  .show Bu B.sz (FH H)
  .show λx c e=>Ci (Kj (cLt x c e) H)
  .show λp t=>Ci (Kj (pinLt p t) H)
 let loop:codeAny (Af X.Y X.w) X.A (.compLoop (.Ξ elt [#[tg,iter,ifs,0]] scope pos) 0 (.C it) (.C a.r.O.o) Y.G) (RR (.C a.r.O.o) C) {a with heap:=h₁}:=by
  apply codeAny_loop rfl (λk s'=>∃(i:I) (ys:U V) (s:U Aa) (c:I) (H':Hp),Inv Y [(a.r.O.o,F7 s c)] (Fj own.a ø Y') H' s'/\Aq ys s/\tn i s'.r/\(∀b∈M,H' b=J)/\W i ys H'/\k=n-i) (λk s' hI=>?_) n
   #[0,[],[],0,zA,I4,.Ϧ,T.keep 0 _ _ st λb _ o e=>old b o e,λb G=>(f2 b G).1,w0,rfl]
  apply wpAny_noted ?_
  let(i,ys,s,c,H',I',rv,st',fr',w',ek):=hI
  rcases turn i ys H' w' with⟨stop,hz,q⟩|⟨go,hin,hz,N,hN,step⟩
  .apply Ao (wpAny_standAt (Ao (A8 (T.ϕ Y rfl rfl rfl hc i _ s' _ H' _ I' (fpY fr') st' stop) λr s1 ⟨hr,I1⟩=>?_)))
   subst hr
   let(_,nD,_):=I1.pin (a.r.O.o,F7 s c) (Dv _ (by simp))
   show A0 (fin i ys s c H' s1 I1 rv hz (q _ nD))
  .apply Ao (wpAny_standAt (Ao (A8 (T.item Y rfl rfl rfl hc i _ s' _ H' _ I' (fpY fr') st' go) λr s1 ⟨u,hr,h1⟩=>?_)))
   subst hr
   apply Ao (A8 h1 λ_ s5 z9=>?_)
   let(x,H5,I5,r5,y5,st5,fr5):=z9
   apply Ao (wpAny_noRaise (A8 (hg C a zA M f _ s5 _ H5 x u _ (I5.pinned (fpY fr5) (T.obj _ _ st5)) r5 (step x H5 y5)) λ_ s6 z9=>?_))
   let(σ6,H6,I6,dr6,q6):=z9
   apply Ao (wpAny_noRaise (A8 (ht C a zA M f _ s6 σ6 H6 _ I6 q6) λok s7 ⟨H7,I7,q7⟩=>?_))
   let back:∀{H8:Hp} {s8:Ab} {its8:U Aa} {c8:I},Inv Y ([(a.r.O.o,F7 its8 c8)]++Ly M s5.r) σ6 H8 s8 ->
     Inv Y [(a.r.O.o,F7 its8 c8)] (Fj own.a ø Y') H8 s8/\tn (i+1) s8.r/\∀b∈M,H8 b=J:=λ{H8 s8 its8 c8} I8=>by
    apply#[I8.unpinned.weak ?_ λj v e=>?_,T.keep _ _ _ st5 λb G o e=>(I8.pin (b,o) (Dv _ (Dv _ (QH G e)))).1,λb G=>?_]
    .show lenS.I I8.϶.Γ
    .let hj:own.a<=j:=by
      apply(GX)
      intro hlt
      unfold Fj at e
      rw[Hw (MP ▸ hlt),J9,if_pos hlt]at e
      ext e
     let e':=congrArg (λl=>l[j-own.a]?) dr6
     erw[QR]at e'
     rw[show own.a+(j-own.a)=j by show QS hj]at e'
     show e'.I e
    .let(o,e,d):=T.obj _ _ st5 b G
     show(I8.pin (b,o) (Dv _ (Dv _ (QH G e)))).2.1
   cases ok with
   |false=>
    let(I8,st8,fr8):=back I7
    show A0 #[rfl,n-(i+1),∅,i+1,ys,s,c,H7,I8,rv,st8,fr8,hN _ _ q7,rfl]
   |true=>
    apply Ao (Ao (wpAny_noRaise (A8 (he C a zA M f _ s7 σ6 H7 _ I7 q7) λy s8 z9=>?_)))
    let(z,H8,I8,r8,w8):=z9
    let(eD,nD,neL,nF,dD):=I8.pin (a.r.O.o,F7 s c) (Dv _ (J5 _ (by simp)))
    let hl:=rv.a
    apply Ao (BW F.Ϻ #[_,eD,rfl] F.entry_list_append (F.args_list_append_2 _ _) (PySem.list_append _ s.E c y (by rw[B3];lia)) #[eD,?_])
    obtain⟨n',q⟩:∃n',(s8.r.ϰ a.r.O.o (F6 (·.Ι y))).R a.r.O.o=Z (F7 (s++[y]) n'):=by
     let q:=PySem.IsL.ϰ eD (·.Ι y)
     rw[show s.E.Ι y=(s++[y]).E by simp]at q
     show#[_,q]
    let I9:Inv Y (Ly M s5.r) σ6 H8 {s8 with heap:=s8.r.ϰ a.r.O.o (F6 (·.Ι y))}:=
     (I8.pins_of λp t=>I8.pin p (Dv _ (Dv _ t))).turned (t':=s8.Ζ) (it:=a.r.O.o) (λb o G e=>(MV _ _ (Cj G)).I e) nD hDC (.φ (A4 _))
      (λx c' e=>Ci (cLt x c' (clX x c' e))) λp t=>by
       rcases Cz.mp t with t|t
       .show Ci (pinLt p t)
       .show Ci (fpLt _ (aH t).1)
    let I10:Inv Y ([(a.r.O.o,F7 (s++[y]) n')]++Ly M s5.r) σ6 H8 {s8 with heap:=s8.r.ϰ a.r.O.o (F6 (·.Ι y))}:=I9.pins_of λp t=>by
     rcases Cz.mp t with t|t
     .let e:p=(a.r.O.o,F7 (s++[y]) n'):=by exists t
      subst e
      show#[q,nD,neL,nF,λv z=>by
       cases z]
     .show I9.pin p (Dv _ t)
    let(I11,st11,fr11):=back I10
    show A0 (A0 #[rfl,n-(i+1),∅,i+1,ys++[z],s++[y],_,H8,I11,rv.Η (.Ο r8 .Ϧ),st11,fr11,hN _ _ w8,rfl])
 show codeAny_compStart_list loop (T.self _ 0 _ _ _ (T.keep 0 _ _ st λb _ o e=>old b o e) loop)
variable {ø:U I}{g:TG}{tt:TT}{te:TE}
def
bH(own c:U Ae)(ø:U I)(S:Jd own c scope X.G.Δ)(t:ø.j (λj=>X.N[j]?)=c.j Z)(L:X.Ϸ=J')(M:PI X tg iter wi) (K:∀C l i k a,PG (DD X own c scope C l i k a) tg g) (P:∀C l i k a,Hz (DD X own c scope C l i k a) ifs tt) (Y:∀C l i k a,PE (DD X own c scope C l i k a) elt te) (hs:↥(∀x,Fg iter X.G x=Am x:7)):PE X (.Ξ elt [#[tg,iter,ifs,0]] scope pos) (QQ own.a ø wi g tt te):=by
 intro a s z H Q R h;rw[eval_ListComp];apply wpAny_comprehension_free (use:=J) rfl hs (bE λx hx hf=>R.ok.has x.1<|S.free x hx hf) S.kind S.loc (A8 (M a s z H _ R h) λxv B n=>A8 n λitv E p=>?_);let(it,k,tn,F,i,e,I2,T,u,f2,d):=p;subst e;apply bG (RR:=λv C=>compPost (Af X.Y X.w) X.A X.xe J (EP X a z Q) v C) S t L K P Y I2 T u f2 d ?_;intro C s' m H' hn I' hC hL h0 f r q;show#[m,hn,λG y=>#[.C _,H',I'.turned (h':=G) (t':=s'.Ζ) (it:=C) (λb o hb e=>y.Α b o hb e) hC hL (.φ h0) f r,rfl,q]]
def
QT(own d:U Ae)(ø:U I){i:I}{x:Ae}{f k:Az}(S:Jd own d scope X.G.Δ)(M:ø.j (λj=>X.N[j]?)=d.j Z)(hc:X.Ϸ=J') (hN:X.N.μ) (K:X.N[i]?=Z x) (hx:X.G.Δ.ρ.S x=Z .ϐ) (hi:PI X tg iter wi) (hg:∀C u r t c,PG (DD X own d scope C u r t c) tg g) (ht:∀C u r t c,Hz (DD X own d scope C u r t c) ifs tt) (he:∀C u r t c,PE (DD X own d scope C u r t c) elt te) (P:↑(DR (.Ξ elt [#[tg,iter,ifs,0]] scope pos) (Z (.γ x f)) k.ϩ X.G=Am J')) (hs:↥(∀x,Fg iter X.G x=Am x:7)):PS X (.ϥ [.γ x f] (.Ξ elt [#[tg,iter,ifs,0]] scope pos) k) (MN (QQ own.a ø wi g tt te) (Lx i)):=by
 intro c s Y' H D R h;rw[exec_Assign_Name_used _ _ _ _ P];apply Ao<|wpAny_standAt<|Ao ?_;apply Ao (Cs (wpAny_comprehension_free (use:=Z<|assign (.Name x f) X.env) (Q:=λ_ z=>SP X c D .α z) rfl hs (bE λy hy hf=>R.ok.has y.1<|S.Ν y hy hf) S.ϫ S.loc
  (A8 (hi c s Y' H _ R h) λxv s₁ B=>A8 B λitv E G=>?_)) (λ_ z hq=>A0<|A0 hq) λ_ _ e=>e)
 let(it,t,tn,F,r,e,I2,T,Y,f2,l):=G;subst e;apply bG (RR:=λæ C=>compPost (Af X.Y X.w) X.A X.xe (Z<|assign (.Name x f) X.env) (λ_ z=>SP X c D .α z) æ C) S M hc hg ht he I2 T Y f2 l ?_;intro C z m H' hn I' hC hL h0 n L q;apply wpAny_assign_Name<|ai (v:=.ref E.heap.objs.size) I' hN K (.inl hx) rfl (λs'' I'' p=>?_) (.φ hx);let(a,p,ha):=p;let hCa:C≠a:=by
  grind
 show#[m,hn.sameBut p hCa,λh' hs'=>#[_,H',I''.turned (h':=h') (t':=s''.Ζ) (it:=C) (λb o hb e=>hs'.Α b o hb e) hC hL (.φ h0) n L,q]]
end
def bI(x:Ae):It:=#[λi _=>i<x.ϱ.o,λi H v a=>a=H/\∃c,x.ϱ[i]?=Z c/\v=.ω #[(T' [c])],λi _=>x.ϱ.o<=i]
def
bJ{P:AN}{w:Ai}{K:Ap}{u:Expr}{b:q'}(it:Ac)(x:Ae)(t:Tok):Ib P w K u (bI x) [it] it (λi h=>h.IsStrIter it (bif b then "str_ascii_iterator" else "str_iterator") x t i):=by
 apply Od (n:=bif b then "str_ascii_iterator" else "str_iterator") (by ext b<;>decide) (λi h st=>?_) (λi h g st k=>?_) (λX i m s y H E Q z p A st=>?_) λ_ _ _ _ _ st h=>by
  ext b
  .show wpAny_pyIter_striter_wide st h
  .show wpAny_pyIter_striter_ascii st h
 .let(o,e,c,d):=st;show#[o,_,e,c,d]
 .let(o,e,r):=st;show#[o,k o e,r]
 .constructor<;>intro a q
  .let a:i<x.ϱ.o:=a;let f:=λt g j (sb:En it s.r g)=>q (.ω #[(T' [x.ϱ[i]])] t) (.ω #[(T' [x.ϱ[i]])]) g (s.Ζ+1) j (λb o v e=>(sb.2 b v).I e) #[_,rfl] #[rfl,_,by simp[a],rfl];ext b
   .show wpAny_pyNext_wide_item st (c:=x.ϱ[i]) (by simp[a]) (f _)
   .show wpAny_pyNext_ascii_item st (c:=x.ϱ[i]) (by simp[a]) (f _)
  .let a:x.ϱ.o<=i:=a;ext b
   .show wpAny_pyNext_wide_end p st (by simp[a]) λg l=>q g s.Ζ l
   .show wpAny_pyNext_ascii_end p st (by simp[a]) λg l=>q g s.Ζ l
section
def qM(tl:TE):TI:=λa H R=>tl a H λv b=>∃x,v=.ω x/\R (bI x) b
def
qO{l:Expr}{tl:TE}(j:PE X l tl):PI X tg l (qM tl):=by
 intro a s k H R r h;apply A8 (j a s k H _ r h) λv c m=>?_;let(y,f,d,n,x,e,q):=m;subst e;let(t,rfl):=n;let g:∀{o:Obj} (b:Ac),b∈[c.r.O.o]->Gw X a f b:=λ{o} b p=>by
  let e:b=c.r.O.o:=by exists p
  subst e;show d.fpOk (A4 _)<|d.ϧ.Τ<|A4 _
 cases i:x.ϱ.ϝ (·<128)
 .show wpAny_pyIter_wide i #[c.r.O.o,[c.r.O.o],_,_,f,rfl,d.ϲ (t':=c.Ζ) λb o e=>By _ e,bJ (b:=O') _ x t,#[_,Cq _ rfl,rfl,rfl],g (o:=default),q]
 .show wpAny_pyIter_ascii i #[c.r.O.o,[c.r.O.o],_,_,f,rfl,d.ϲ (t':=c.Ζ) λb o e=>By _ e,bJ (b:=J') _ x t,#[_,Cq _ rfl,rfl,rfl],g (o:=default),q]
end
section
def qP:V->O W'->O W'->Hp->VK->V':=λx lo a H Q=>∃z,x=.ω z/\z.a<=AE/\Q (.ω (Txt.slice z lo a)) H
def
qQ:Kf X qP:=by
 intro e s n H x v o p lo r w Q y h a m f zQ;let(z,rfl,b,q):=zQ;let(t,rfl):=h;apply#["str",_,PySem.F.slot_str_getitem.S,typeIs_str s z t,?_];cases m with
 |none=>
  cases f with
  |none=>show UF (l:=J) (u:=J) (st:=J) a rfl (post_val_or_str #[Bu (Txt.slice_le z _ _) b,λc k=>#[.ω<|Txt.slice z J J,H,y.tok _,⟨_,rfl⟩,q]])
  |int j d=>show UF (l:=J) (u:=Z (j,d)) (st:=J) a rfl (post_val_or_str #[Bu (Txt.slice_le z _ _) b,λc k=>#[.ω<|Txt.slice z J<|some j,H,y.tok _,⟨_,rfl⟩,q]])
 |int i g=>
  cases f with
  |none=>show UF (l:=Z (i,g)) (u:=J) (st:=J) a rfl (post_val_or_str #[Bu (Txt.slice_le z _ _) b,λc k=>#[.ω<|Txt.slice z (Z i) J,H,y.tok _,⟨_,rfl⟩,q]])
  |int j d=>show UF (l:=Z (i,g)) (u:=Z (j,d)) (st:=J) a rfl (post_val_or_str #[Bu (Txt.slice_le z _ _) b,λc k=>#[.ω<|Txt.slice z (Z i)<|some j,H,y.tok _,⟨_,rfl⟩,q]])
def
qS{a:U Ae}:∀{us:U Aa},Aq (a.j V.ω) us->StrsAre us a:=by
 induction a with|nil=>intro us r;rw[Dn]at r;ext r;show .Ϧ|cons n ns b=>
  intro us r;rw[Bf]at r;cases r with
  |cons c d=>
   let(t,rfl):=c;show .Ο n t<|b d
def bK(K:Ap):V->U V->Hp->VK->V':=λx c H Q=>∃z a b,x=.ω z/\c=[.C a]/\BU K H a (b.j V.ω)/\(b.j (·.a)).sum+b.a*z.a<=16777216/\Q (.ω (Txt.join z b)) H
def
qT:Oo X "str.join" (bK X.K):=by
 intro c s j H x l v m Q p d e zQ;let(z,a,n,rfl,rfl,f,g,q):=zQ;let(t,rfl):=d;let(u,rfl,h):=FL e;ext h;let(b,r,i,_):=p.Ϩ f;show join_list (items:=b.E) i.ύ (qS r) g λo k=>#[.ω _,H,p.tok _,#[_,rfl],q]
end
def
qU{bs:U q'}:∀{us:U Aa},Aq (bs.j V.bl) us->LSm.BoolsAre us bs:=by
 induction bs with|nil=>intro us r;rw[Dn]at r;ext r;show .Ϧ|cons n ns a=>
  intro us r;rw[Bf]at r;cases r with
  |cons b c=>
   subst b;show .Ο n<|a c
section
def
qV{b:q'}(l:X.Ϸ=J'):EO X (.ξ (bif b then "all" else "any")) (λxs H Q=>∃(a:Ac)(bs:U q'),xs=[.C a]/\BU X.K H a (bs.j V.bl)/\Q (.bl (bif b then bs.ϝ id else bs.any id)) H):=by
 intro g s w H xs x Q F r zQ;let(a,bs,rfl,m,q):=zQ;let(u,rfl,n):=FL r;ext n;let(c,o,d,y):=F.Ϩ m;let h:=qU o;obtain⟨f,j⟩:∃f:I->q',f=λi=>(bs[i]?).β b:=#[_,rfl];ext b;all_goals
  first|apply call_all_walk (QG d.ύ ?_)|apply call_any_walk (QG d.ύ ?_)
  apply#[s.r.O.o,[s.r.O.o,a],[s.r.O.o],c.E.o,_,_,f,rfl,Walks.Ϩ (A:=X.A.in1) (F.ok.hd l) _ a (Ci (show a<s.r.O.o by let(_,e,_):=d.ύ;show BB e)) c.E,
   #[#[_,Cq _ rfl,rfl,rfl],d.ύ.Ι _],λi v z B C p k=>?_,λE G t=>#[.bl _,H,F.ϲ<|LSm.kept_iter t,rfl,?_]]
  .let(b,e,rfl):=h.ό i v (by exists p);erw[j,e,Option.getD_some]at k;show J6 k
  .rw[show c.E.o=bs.a by rw[B3,h.a],j];first|rw[LSm.range_all bs]|rw[LSm.range_any bs]
   show q
end
section
open PySem.SeqAt
inductive F8(A:Ag)(s:Ab):List Aa->List Aa->q'->V' where
 |nn:F8 A s [] [] O'
 |nc {w ws}:F8 A s [] (w::ws) J'
 |cn {v vs}:F8 A s (v::vs) [] O'
 |eq {v w vs ws b}:EqAt A s v w J'->F8 A s vs ws b->F8 A s (v::vs) (w::ws) b
 |ne {v w vs ws b}:EqAt A s v w O'->(∀(prog:AN) (wo:Ai) (E Q:AV),Q (.Ϥ b) s->wpAny (Af prog wo) A (richCompare .Lt v w) Q E s)->F8 A s (v::vs) (w::ws) b
end
section
open PySem.SeqAt
open PySem.AutoSeq1 (wpAny_loadPart')
open PySem.MeetsSeq PySem.MeetsSeq2 PySem.MeetsSeq3
def
qW(l b:Ac)(items a:Array Aa)(n n2:I)(dd p:O Ac)(H q:Array (O Aa))(r:q'):Meets (Fl.«tuple.__lt__» #[[.C l,.C b],[]]) (λA R s=>s.r.R l=Z {cls:=.ε "tuple",dict:=dd,data:=.Ϲ items n,slots:=H}/\s.r.R b=Z {cls:=.ε "tuple",dict:=p,data:=.Ϲ a n2,slots:=q}/\F8 A.in1 s items.J a.J r/\R (.ok (.Ϯ (.Ϥ r))) s):=.of_wp λprog w A R s h=>by
  let(E,g,d,G,os):=s;let(K,F,t,h):=h;let M:=AutoSeq1.sub_tuple_tuple;wp_walk using E7 K,E7 F,wpAny_forIn_list _ (λAD b u=>b.1=J/\u=#[E,g,d,G,os]/\∃(m o:U Aa),AD=m.zip o /\
   F8 A.in1 #[E,g,d,G,os] m o r/\m.a+a.o=o.a+items.o) _
  case turn=>
   rintro⟨y,x⟩ AD b u ⟨j,rfl,m,o,e,f,c⟩;cases f with
   |nn=>rw[List.zip_nil_left]at e;cases e
   |nc=>rw[List.zip_nil_left]at e;cases e
   |cn=>rw[List.zip_nil_right]at e;cases e
   |eq v z=>
    rw[LO]at e;injection e with k i
    injection k with B C
    subst B C;erw[Cr]at c;apply Ao<|v prog w _ _ ?_;wp_walk;show⟨rfl,rfl,_,_,i,z,∅⟩
   |ne v z=>
    rw[LO]at e;injection e with k i
    injection k with B C
    subst B C;apply Ao<|v prog w _ _ ?_;wp_walk using(z prog w);show⟨_,rfl,by exists h⟩
  case fin=>
   rintro⟨b1,N⟩ u ⟨j,rfl,m,o,e,f,c⟩;simp only at j;subst j;let L:r=decide (items.o<a.o):=by
    cases f with
    |nn=>
     erw[Ii]at c;show(decide_eq_false ∅).Γ
    |nc=>
     erw[Ii,Cr]at c;show(decide_eq_true ∅).Γ
    |cn=>
     erw[Ii,Cr]at c;show(decide_eq_false ∅).Γ
    |eq _ _=>rw[LO]at e;cases e
    |ne _ _=>rw[LO]at e;ext e
   rw[L]at h;wp_walk;show#[_,rfl,by simpa[Builtin.Tuple.tupleCompareSizes]using h]
  case h=>
   show#[rfl,rfl,items.J,a.J,rfl,t,by simp;show MW items.o a.o]
def
qX(l b:Ac)(items c:Array Aa)(n n2:I)(dd y:O Ac)(B z:Array (O Aa))(r:q')(k:I):∀i:I,items.o-i=k->Meets (Fl.«list.__eq__.loop» #[[.C l,.C b,AO i,AO 0],[]]) (λA R s=>s.r.R l=Z {cls:=.ε "list",dict:=dd,data:=.Ϲ items n,slots:=B}/\s.r.R b=Z {cls:=.ε "list",dict:=y,data:=.Ϲ c n2,slots:=z}/\F8 A.in1 s (items.J.Θ i) (c.J.Θ i) r/\(i<=items.o/\i<=c.o)/\R (.ok (.Ϯ (.Ϥ r))) s):=by
 induction k with
 |zero=>
  intro i u prog w A R s h;let(C,g,d,E,os):=s;let(m,o,e,(G,H),h):=h;wp_walk using E7 m,E7 o;let j:items[((i:I):W').ζ]?=J:=by simp;show Nat.le_of_sub_eq_zero u
  let hd:items.J.Θ i=[]:=Oq (by simp;lia);rw[hd]at e;rw[j];let p:r=decide (items.o<c.o):=by
   cases x:c.J.Θ i with
   |nil=>
    rw[x]at e;have:=congrArg List.a x;simp at this;ext e;show(decide_eq_false ∅).Γ
   |cons a t=>
    rw[x]at e;have:=congrArg List.a x;simp at this;ext e;show(decide_eq_true ∅).Γ
  rw[p]at h;wp_walk using E7 m,E7 o;show h
 |succ k F=>
  intro i u prog w A R s h;let(C,g,d,E,os):=s;let(m,o,e,(G,H),h):=h;wp_walk using E7 m,E7 o;let j:items[((i:I):W').ζ]?=Z items[i]:=by simp[LP u]
  rw[show items.J.Θ i=items[i]::items.J.Θ (i+1) by rw[Kk (by simpa using(LP u))];simp]at e;rw[j];by_cases f:i<c.o
  .let v:c[((i:I):W').ζ]?=Z c[i]:=by simp[f]
   let q:c.J.Θ i=c[i]::c.J.Θ (i+1):=by rw[Kk (by exists f)];simp
   rw[q]at e;rw[v];cases e with
   |eq e p=>
    apply Ao<|e prog w _ _ ?_;wp_walk;rw[show((i:W')+1)=((i+1:I):W') by push_cast;rfl];show#[MY plain_eq_loop _,Kl entry_eq_loop (by
     rw[Around.under_plainId plain_eq_loop _];show F (i+1) ∅ prog w A R _ #[m,o,p,#[(LP u),f],h])]
   |ne e p=>
    apply Ao<|e prog w _ _ ?_;wp_walk using E7 m,E7 o;rw[j,v];wp_walk using(p prog w);show h
  .let q:c.J.Θ i=[]:=Oq (by simp;lia);rw[q]at e;rw[show c[((i:I):W').ζ]?=J by simp;show GX f];let p:r=decide (items.o<c.o):=by
    ext e;show(decide_eq_false ∅).Γ
   rw[p]at h;wp_walk using E7 m,E7 o;show h
def
bL(l b:Ac)(items a:Array Aa)(n n2:I)(dd c:O Ac)(f e:Array (O Aa))(r:q'):Meets (Fl.«list.__lt__» #[[.C l,.C b],[]]) (λA R s=>s.r.R l=Z {cls:=.ε "list",dict:=dd,data:=.Ϲ items n,slots:=f}/\s.r.R b=Z {cls:=.ε "list",dict:=c,data:=.Ϲ a n2,slots:=e}/\F8 A.in1 s items.J a.J r/\R (.ok (.Ϯ (.Ϥ r))) s):=by
 intro prog w A R s h;let(m,g,d,o,os):=s;let(i,j,k,h):=h;let p:=AutoSeq1.sub_list_list;wp_walk using E7 i,E7 j;show#[MY plain_eq_loop _,Kl entry_eq_loop (by
  rw[Around.under_plainId plain_eq_loop _];show qX l b items a n n2 dd c f e r _ 0 rfl prog w A R _ #[i,j,k,#[Fi _,Fi _],h])]
end
variable {prog:AN}{w:Ai}{A:Ag}{s:Ab}
def
qY{l b:Ac}{items a:Array Aa}{r:q'}{Q:AV}(m:IsTup s.r l items)(o:IsTup s.r b a)(p:F8 A.in1 s items.J a.J r) (q:A.κ<Aw) (h:Q (.Ϥ r) s):wpAny (Af prog w) A (richCompare .Lt (.C l) (.C b)) Q E s:=by
 let((cls,t,data,u),i,j,n,hd):=id m;let((k,f,data2,g),c,d,n2,e):=id o;simp only at j hd d e;subst j hd d e;show richCompare_meets_room (op:=.Lt) #[_,i,rfl] #[_,c,rfl] PySem.F.slot_tuple_lt PySem.F.entry_tuple_lt (PySem.F.args_tuple_lt_2 _ _) (qW l b items a n n2 t f u g r)
  #[i,c,p,show Value.Ϥ r≠Value.notImplemented/\Q (.Ϥ r) s from#[(λx=>nomatch x),h]] q
def
qZ{l b:Ac}{items a:Array Aa}{r:q'}{n n2:I}{c:O Ac}{e d:Array (O Aa)}{Q:AV}(f:s.r.R l=Z {cls:=.ε "list",dict:=dd,data:=.Ϲ items n,slots:=e})(g:s.r.R b=Z {cls:=.ε "list",dict:=c,data:=.Ϲ a n2,slots:=d})(i:F8 A.in1 s items.J a.J r) (j:A.κ<Aw) (h:Q (.Ϥ r) s):wpAny (Af prog w) A (richCompare .Lt (.C l) (.C b)) Q E s:=richCompare_meets_room (op:=.Lt) #[_,f,rfl] #[_,g,rfl] PySem.F.slot_list_lt PySem.F.entry_list_lt (PySem.F.args_list_lt_2 _ _) (bL l b items a n n2 dd c e d r) #[f,g,i,show Value.Ϥ r≠Value.notImplemented/\Q (.Ϥ r) s from#[(λx=>nomatch x),h]] j
end
def q0:V->V->O q'
 |.int i,.int j=>Z (decide (i<j))
 |.str a,.str b=>Z (decide (a.ϱ.J<b.ϱ.J))
 |_,_=>J
def Bp:U V->U V->O q'
 |[],[]=>Z O'
 |[],_::_=>Z J'
 |_::_,[]=>Z O'
 |x::a,y::b=>if(bw x&&bw y)=J' then(if qt x y=J' then Bp a b else q0 x y)else J
def
UG(x:Ae):x.ϱ.J.a=x.a:=by simp[Str.length]
def Ot(K:Ap):Sp:=λb H Q _=>∃(a:Ac)(ns:U W'),b=[.C a]/\BU K H a (ns.j V.u)/\ns.a<=63/\∀c,Q (.bl J') c
def
bM{H:Hp}{p:Ac}{o:HO}(h:H p=J):Ak H (AX H p o):=λb u e=>Zr (ZY e h) ▸ e
def
LR{A B:V'}(h:A):(if J'=J' then A else B):=by grind
def
LS{A B:V'}(h:B):(if O'=J' then A else B):=by grind
set_option genInjectivity false in
inductive Kd where
 |l|d|i (ns:List Ae) (c:Ae)
variable{fl k':Kd}
def QU(K:Ap)(c:Ae):Ac:=match PySem.W.nsIn K BZ c with
 |some (Z (.ref C))=>C
 |_=>0
inductive D where
 |non|bl (b:q')|int (i:W')|str (x:Ae)|ty (n:String)|tup (xs:List D)|lst (xs:List D) (b:Kd:=.l)
variable{xs:U D}
abbrev Ez:=U D->O D
abbrev Ba:=O (U D)
def UH:D->At
 |.int i=>.u i
 |.str x=>.ω x
 |_=>.Ε
def Ou:D->KT
 |.tup l=>.Q (l.j UH)
 |d=>.at (UH d)
def Km:U D->U KT
 |k::_::r=>Ou k::Km r
 |_=>[]
def CO(K:Ap)(b:Kd)(a:Ac)(xs:U D)(vs:U V):HO:=match b with
 |.l=>.X vs
 |.d=>.dct (Km xs) vs
 |.i ns c=>.ins (QU K c) (a-1) (ns.zip vs)
def GY:HO->q'
 |.lst _=>J'
 |.dct _ _=>J'
 |.ins _ _ _=>J'
 |_=>O'
def
bN(K:Ap)(b:Kd)(a:Ac)(xs:U D)(vs:U V):GY (CO K b a xs vs)=J':=by ext b<;>rfl
abbrev Fb:=Ac->V'
def KL(K:Ap)(a:Ac)(vs:U V):V':=BU K (λ_=>J) a vs
def LstAt(K:Ap)(N:Fb)(H:Hp)(a:Ac)(o:HO):V':=(¬ N a/\Rd H a o)\/∃b,o=.X b/\KL K a b
def
KL.sq{K:Ap}{H:Hp}(h:KL K a vs):BU K H a vs:=by
 rcases h with(h|⟨o,h⟩)|h
 .cases h
 .cases h
 .show .φ h
def
LstAt.sq{K:Ap}{N:Fb}{H:Hp}(h:LstAt K N H a (.X vs)):BU K H a vs:=by
 rcases h with⟨_,h⟩|⟨b,e,h⟩
 .show .U h
 .cases e;show h.sq
def
LstAt.of{K:Ap}{N:Fb}{H:Hp}{o:HO}(n:¬ N a)(h:H a=Z o):LstAt K N H a o:=.U #[n,.U h]
def
LstAt.of_sq{K:Ap}{H:Hp}(h:BU K H a vs):LstAt K (λ_=>False) H a (.X vs):=by
 rcases h with h|h
 .show .U #[id,h]
 .show .φ #[vs,rfl,.φ h]
mutual
def AB(K:Ap)(N:Fb)(H:Hp):D->V->V'
 |.non,v=>v=.Ε
 |.bl b,v=>v=.bl b
 |.int i,v=>v=.u i
 |.str x,v=>v=.ω x
 |.ty n,v=>v=.ty n
 |.tup d,v=>∃a c,v=.C a/\Ck K H a c/\Ad K N H d c
 |.lst d b,v=>∃a c,v=.C a/\LstAt K N H a (CO K b a d c)/\Ad K N H d c
def Ad(K:Ap)(N:Fb)(H:Hp):U D->U V->V'
 |[],a=>a=[]
 |x::b,a=>∃v r,a=v::r/\AB K N H x v/\Ad K N H b r
end
structure Step(M N N':Fb)(H H':Hp):V' where
 kp:∀a o,H a=Z o->(¬ N a\/M a\/GY o=O')->H' a=Z o
 nw:∀a,N' a->N a\/H a=J
def
Step.trans{M N d f:Fb}{H g i:Hp}(a:Step M N d H g)(b:Step M d f g i):Step M N f H i where
 kp:=λc o h z=>by
  apply b.kp c o (a.kp c o h z) ?_;rcases z with z|z|z
  .apply .U λn1=>?_;rcases a.nw c n1 with q|q
   .show z q
   .rw[h]at q;ext q
  .show .φ<|.U z
  .show .φ<|.φ z
 nw:=λc n2=>by
  rcases b.nw c n2 with q|q
  .show a.nw c q
  .cases e:H c with|none=>show .φ rfl|some o=>
    apply .U<|Classical.byContradiction λz=>?_;rw[a.kp c o e<|.U z]at q;ext q
def
Step.of_same{M N:Fb}{H:Hp}(s:Ak H H'):Step M N N H H':=#[λa o h _=>s a o h,λa h=>.U h]
def
Step.refl{M N:Fb}{H:Hp}:Step M N N H H:=Step.ϑ<|Ak.χ H
def
Rd.step{M N b:Fb}{H:Hp}{u:HO}(s:Step M N b H H')(h:Rd H a u)(z:¬ N a\/M a\/GY u=O'):Rd H' a u:=by
 rcases h with h|⟨o,h⟩
 .show .U<|s.kp a u h z
 .show .φ #[o,s.kp a _ h<|.φ<|.φ rfl]
def
Rd.same{H:Hp}{u:HO}(s:Ak H H')(h:Rd H a u):Rd H' a u:=by
 rcases h with h|⟨o,h⟩
 .show .U<|s a u h
 .show .φ #[o,s a _ h]
def
Ck.step{K:Ap}{M N b:Fb}{H:Hp}{xs:U V}(s:Step M N b H H')(h:Ck K H a xs):Ck K H' a xs:=by
 rcases h with h|h
 .show .U<|h.Ϙ s<|.φ<|.φ rfl
 .show .φ h
def
Ck.same{K:Ap}{H:Hp}{xs:U V}(s:Ak H H')(h:Ck K H a xs):Ck K H' a xs:=Ck.Ϙ (M:=λ_=>False) (N:=λ_=>False) (Step.ϑ s) h
def
Rd.has{H:Hp}{u:HO}(h:Rd H a u):H a≠J:=by
 rcases h with h|⟨o,h⟩<;>rw[h]<;>show λe=>nomatch e
mutual
theorem AB.step{K:Ap}{M N f:Fb}{H H':Hp}(s:Step M N f H H'):∀(d:D)(v:V),AB K N H d v->AB K f H' d v
 |.non,_,h=>h
 |.bl _,_,h=>h
 |.int _,_,h=>h
 |.str _,_,h=>h
 |.ty _,_,h=>h
 |.tup c,v,h=>by
  erw[AB]at h ⊢
  let(a,b,e,q,r):=h
  show#[a,b,e,q.Ϙ s,Ad.Ϙ s c b r]
 |.lst c i,v,h=>by
  erw[AB]at h ⊢
  let(a,b,e,q,r):=h
  apply#[a,b,e,?_,Ad.Ϙ s c b r]
  rcases q with⟨n,q⟩|q
  .apply .U #[λg=>?_,q.Ϙ s (.U n)]
   rcases s.nw a g with z|z
   .show n z
   .show q.has z
  .show .φ q
theorem Ad.step{K:Ap}{M N a:Fb}{H H':Hp}(s:Step M N a H H'):∀(xs:U D)(vs:U V),Ad K N H xs vs->Ad K a H' xs vs
 |[],_,h=>h
 |x::xs,vs,h=>by
  erw[Ad]at h ⊢
  let(v,r,e,q,t):=h
  show#[v,r,e,AB.Ϙ s x v q,Ad.Ϙ s xs r t]
end
variable {K:Ap}{M N N':Fb}{H:Hp}{d:D}{v:V}{ys:U D}{ws:U V}
def
AB.same(h:AB K N H d v)(s:Ak H H'):AB K N H' d v:=AB.Ϙ (M:=N) (Step.ϑ s) d v h
def
Ad.same(h:Ad K N H xs vs)(s:Ak H H'):Ad K N H' xs vs:=Ad.Ϙ (M:=N) (Step.ϑ s) xs vs h
def
AB.nw(h:AB K N H d v)(z:∀a,N' a->N a\/H a=J):AB K N' H d v:=AB.Ϙ (M:=N) (H':=H) #[λ_ _ h _=>h,z] d v h
def
Ad.nw(h:Ad K N H xs vs)(z:∀a,N' a->N a\/H a=J):Ad K N' H xs vs:=Ad.Ϙ (M:=N) (H':=H) #[λ_ _ h _=>h,z] xs vs h
def
Ad.length:∀{xs:U D}{vs:U V},Ad K N H xs vs->xs.a=vs.a
 |[],_,h=>by erw[Ad]at h;subst h;rfl
 |_::xs,_,h=>by erw[Ad]at h;let(v,r,e,_,t):=h;subst e;simp[Ad.length t]
def
Ad.get:∀{xs:U D}{vs:U V}{i:I}{d:D},Ad K N H xs vs->xs[i]?=Z d->∃v,vs[i]?=Z v/\AB K N H d v
 |[],_,i,d,_,e=>by simp at e
 |x::xs,_,0,d,h,e=>by
  erw[Ad]at h;let(v,r,a,q,_):=h;subst a;simp at e;subst e;show#[v,rfl,q]
 |x::xs,_,i+1,d,h,e=>by
  erw[Ad]at h;let(v,r,a,_,t):=h;subst a;let(w,b,c):=Ad.ό (i:=i) t (by exists e);show#[w,by simpa using b,c]
def
Ad.get':∀{xs:U D}{vs:U V}{i:I}{v:V},Ad K N H xs vs->vs[i]?=Z v->∃d,xs[i]?=Z d/\AB K N H d v:=by
 intro xs vs i v h e;let f:=h.a;let g:i<vs.a:=(Dk.mp e).1;let a:xs[i]?=Z xs[i]:=CG ∅;let(w,b,c):=h.ό a;rw[e]at b;ext b;show#[_,a,c]
def
Ad.append:∀{xs ys:U D}{vs ws:U V},Ad K N H xs vs->Ad K N H ys ws->Ad K N H (xs++ys) (vs++ws)
 |[],_,_,_,h,a=>by erw[Ad]at h;subst h;show a
 |x::xs,ys,_,ws,h,a=>by
  erw[Ad]at h;let(v,r,e,q,t):=h;subst e;erw[F9,Ad];show#[v,r++ws,rfl,q,Ad.Η t a]
def
Ad.nil:Ad K N H [] []:=by erw[Ad]
def
Ad.cons(h:AB K N H d v)(t:Ad K N H xs vs):Ad K N H (d::xs) (v::vs):=by erw[Ad];show#[v,vs,rfl,h,t]
def
Ad.take:∀{xs:U D}{vs:U V}(n:I),Ad K N H xs vs->Ad K N H (xs.ϒ n) (vs.ϒ n)
 |_,_,0,_=>by exists Ad.Ϧ
 |[],_,n+1,h=>by erw[Ad]at h;subst h;exists Ad.Ϧ
 |x::xs,_,n+1,h=>by
  erw[Ad]at h;let(v,r,e,q,t):=h;subst e;exists Ad.Ο q<|Ad.ϒ n t
def
Ad.drop:∀{xs:U D}{vs:U V}(n:I),Ad K N H xs vs->Ad K N H (xs.Θ n) (vs.Θ n)
 |_,_,0,h=>by exists h
 |[],_,n+1,h=>by erw[Ad]at h;subst h;exists Ad.Ϧ
 |x::xs,_,n+1,h=>by
  erw[Ad]at h;let(v,r,e,q,t):=h;subst e;exists Ad.Θ n t
def
Ad.set:∀{xs:U D}{vs:U V}(i:I),Ad K N H xs vs->AB K N H d v->Ad K N H (xs.Χ i d) (vs.Χ i v)
 |[],_,_,h,_=>by erw[Ad]at h;subst h;exists Ad.Ϧ
 |x::xs,_,0,h,q=>by
  erw[Ad]at h;let(v,r,e,_,t):=h;subst e;exists Ad.Ο q t
 |x::xs,_,i+1,h,q=>by
  erw[Ad]at h;let(v,r,e,a,t):=h;subst e;exists Ad.Ο a<|Ad.Χ i t q
def
Ad.ints:∀(ns:U W'),Ad K N H (ns.j D.u) (ns.j V.u)
 |[]=>Ad.Ϧ
 |n::ns=>Ad.Ο (by erw[AB])<|Ad.ints ns
end
set_option genInjectivity false in
inductive Sl where
 |no|val (d:D)|own (xs:List D) (b:Kd:=.l) (oa:Option Ac:=J)|lent (xs:List D) (b:Kd:=.l)|exc (c:Ae)
def FR(e C:Ac)(h:Al):V':=∃o a,h.R e=Z o/\o.cls=.C C/\o.jk=.ϊ a/\a[2]?=Z .Β
abbrev VE:=U Sl
variable{ρ:VE}{fx:VE->O (D×VE)}{fo:VE->O Sl}{lo:VE->O (O W')}{ff:VE->O (U D)}
abbrev DS:=VE->O (U Sl)
variable{fa:DS}
abbrev AH:=VE->O D
def Nf(M:Fb)(ρ:VE)(Y':St):Fb:=λa=>M a\/∃(i:I)(c:U D)(b:Kd)(d:O Ac),ρ[i]?=Z (Sl.τ c b d)/\Y'[i]?=Z (Z (V.C a))
def bO(K:Ap)(M N:Fb)(H0 H:Hp):Sl->O V->V'
 |.no,_=>True
 |.val d,o=>∃v,o=Z v/\AB K N H d v
 |.own e b g,o=>∃a f,o=Z (.C a)/\(H0 a=J/\∀c,g=Z c->c=a)/\¬ M a/\H a=Z (CO K b a e f)/\Ad K N H e f
 |.lent e b,o=>∃a f,o=Z (.C a)/\(M a/\H0 a≠J)/\Rd H a (CO K b a e f)/\Ad K N H e f
 |.exc c,o=>∃a C,o=Z (.C a)/\PySem.W.nsIn K BZ c=Z (Z (.C C))/\H a=Z (.ext (FR a C))
structure Bw(K:Ap)(M:Fb)(H0:Hp)(ρ:VE)(Y':St)(H:Hp):V' where
 len:ρ.a=Y'.a
 same:Ak H0 H
 mh:∀a,M a->H a≠J
 slot:∀(i:I) (s:Sl),ρ[i]?=Z s->bO K M (Nf M ρ Y') H0 H s (Y'[i]?.join)
 inj:∀(i j:I) (xs ys:List D) (b b':Kd) (oa oa':Option Ac) (a:Ac),ρ[i]?=Z (Sl.τ xs b oa)->ρ[j]?=Z (Sl.τ ys b' oa')->Y'[i]?=Z (Z (V.C a))->Y'[j]?=Z (Z (V.C a))->i=j
variable {K:Ap}{M:Fb}{H:Hp}
def
Bw.nh(R:Bw K M H0 ρ Y' H):∀a,Nf M ρ Y' a->H a≠J:=by
 rintro a (h|⟨i,f,g,j,c,d⟩)
 .show R.mh a h
 .let(b,k,e,_,_,q,_):=R.Ϡ i _ c;rw[d]at e;rw[<- (show b=a by exists e.Γ),q];show λz=>nomatch z
def
Bw.st(R:Bw K M H0 ρ Y' H)(s:Ak H H'):Bw K M H0 ρ Y' H' where
 len:=R.϶;same:=R.δ.I s;mh:=λa h z=>R.mh a h<|s.free z;slot:=λi k e=>by
  let q:=R.Ϡ i k e;cases k with
  |no=>trivial
  |val d=>let(v,e,h):=q;show#[v,e,h.δ s]
  |own l m o=>let(a,g,e,b,f,j,n):=q;show#[a,g,e,b,f,s _ _ j,n.δ s]
  |lent l m=>let(a,g,e,b,f,j):=q;show#[a,g,e,b,f.δ s,j.δ s]
  |exc c=>let(a,C,e,b,f):=q;show#[a,C,e,b,s _ _ f]
 inj:=R.inj
def
Bw.fresh(R:Bw K M H0 ρ Y' H){p:Ac}(h:H p=J):¬ Nf M ρ Y' p:=λn=>R.nh p n h
end
def tD(K:Ap)(M:Fb)(H0:Hp)(f:AH):TE:=λc H Q=>∃a d,Bw K M H0 a c H/\f a=Z d/\∀v b,Ak H b->AB K (Nf M a c) b d v->Q v b
def AC(K:Ap)(N:Fb)(H:Hp)(d:D)(v:V):V':=match d with
 |.lst e=>∃a c,v=.C a/\BU K H a c/\Ad K N H e c
 |.lst e b=>∃a c,v=.C a/\Rd H a (CO K b a e c)/\Ad K N H e c
 |d=>AB K N H d v
def
AB.p{K:Ap}{N:Fb}{H:Hp}{d:D}{v:V}(h:AB K N H d v):AC K N H d v:=by
 cases d with
 |lst f c=>
  let(a,b,e,q,r):=h;cases c with|l=>show#[a,b,e,LstAt.sq q,r]|_=>
   rcases q with⟨_,q⟩|⟨g,z,_⟩
   .show#[a,b,e,q,r]
   .cases z
 |_=>show h
def
AC.same{K:Ap}{N:Fb}{H:Hp}{d:D}{v:V}(h:AC K N H d v)(s:Ak H H'):AC K N H' d v:=by
 cases d with
 |lst f c=>
  cases c with
  |l=>let(a,b,e,q,r):=h;show#[a,b,e,s.Ϲ q,r.δ s]
  |_=>let(a,b,e,q,r):=h;show#[a,b,e,q.δ s,r.δ s]
 |_=>show AB.δ h s
def
UI{K:Ap}{N:Fb}{H:Hp}(h:Rd H a (CO K fl a xs vs))(r:Ad K N H xs vs):AC K N H (.X xs fl) (.C a):=by
 cases fl with
 |l=>show#[a,vs,rfl,.U h,r]
 |_=>show#[a,vs,rfl,h,r]
def tP(K:Ap)(M:Fb)(H0:Hp)(f:AH):TE:=λc H Q=>∃a d,Bw K M H0 a c H/\f a=Z d/\∀v b,Ak H b->AC K (Nf M a c) b d v->Q v b
def Fm(fl:Kd)(K:Ap)(M:Fb)(H0:Hp)(f:VE->Ba):TE:=λg H Q=>∃d e,Bw K M H0 d g H/\f d=Z e /\
 ∀a h c,Ak H c->H a=J->c a=Z (CO K fl a e h)->Ad K (λb=>Nf M d g b\/b=a) c e h->Q (.C a) c
@[reducible] def tF(K:Ap)(M:Fb)(H0:Hp)(f:VE->Ba):TE:=Fm .l K M H0 f
def BP(K:Ap)(M:Fb)(H0:Hp)(f:VE->O q'):TT:=λd H Q=>∃a b,Bw K M H0 a d H/\f a=Z b/\∀c,Ak H c->Q b c
structure JE(X:Cx)(e:Expr)(t:TE):V' where h:PE X e t
structure JT(X:Cx)(e:Expr)(t:TT):V' where h:PT X e t
structure JW(X:Cx)(e:Expr)(t:TT):V' where h:PW X e t
structure JA(X:Cx)(e:List Expr)(t:TA):V' where h:PA X e t
structure JS(X:Cx)(e:Ay)(t:TS):V' where h:PS X e t
structure JB(X:Cx)(e:List Ay)(t:TS):V' where h:E3 X e t
structure JI(X:Cx)(tg e:Expr)(t:TI):V' where h:PI X tg e t
structure JG(X:Cx)(e:Expr)(t:TG):V' where h:PG X e t
structure JK(X:Cx)(e:List Expr)(t:IW):V' where h:N7 X e t
structure JO(X:Cx)(e:Option Expr)(t:TO):V' where h:PO X e t
structure JF(X:Cx)(e:List Expr)(t:TT):V' where h:Hz X e t
def
PE.mono{e:Expr}{t t':TE}(h:PE X e t)(m:∀Y' H Q,t' Y' H Q->t Y' H Q):PE X e t':=λa s Y' H Q b q=>h a s Y' H Q b<|m Y' H Q q
def
PT.mono{e:Expr}{t t':TT}(h:PT X e t)(m:∀Y' H Q,t' Y' H Q->t Y' H Q):PT X e t':=λa s Y' H Q b q=>h a s Y' H Q b<|m Y' H Q q
def
PW.mono{e:Expr}{t t':TT}(h:PW X e t)(m:∀Y' H Q,t' Y' H Q->t Y' H Q):PW X e t':=λwh a s Y' H Q b q=>h wh a s Y' H Q b<|m Y' H Q q
def
PA.mono{e:U Expr}{t t':TA}(h:PA X e t)(m:∀Y' H Q,t' Y' H Q->t Y' H Q):PA X e t':=λb a s Y' H Q c q=>h b a s Y' H Q c<|m Y' H Q q
def
PS.mono{e:Ay}{t t':TS}(h:PS X e t)(m:∀D Y' H,t' D Y' H->t D Y' H):PS X e t':=λa s Y' H D b q=>h a s Y' H D b<|m D Y' H q
def
E3.mono{e:U Ay}{t t':TS}(h:E3 X e t)(m:∀D Y' H,t' D Y' H->t D Y' H):E3 X e t':=λa s Y' H D b q=>h a s Y' H D b<|m D Y' H q
variable {K:Ap}{M:Fb}{e a b:Expr}{f g:AH}
def
PE.p(h:PE X e (tD K M H0 f)):PE X e (tP K M H0 f):=h.ν λc H Q ⟨a,d,R,e,q⟩=>#[a,d,R,e,λv b s z=>q v b s z.p]
def
bP(h:JE X e (tD K M H0 f)):JE X e (tP K M H0 f):=#[PE.p h.h]
@[simp]def Zz(o:Ba):O D:=o.j D.X
def
PE.fd{f:VE->Ba}(h:PE X e (tF K M H0 f)):PE X e (tD K M H0 λρ=>Zz (f ρ)):=h.ν λo H Q c=>by
 let(ρ,d,R,e,q):=c;let(g,i,e):=B2.mp e;ext e;apply#[ρ,g,R,i,λa j p s k l m=>q _ _ s ?_];apply#[a,j,rfl,.of (R.Τ k) l,m.nw λb n=>.U<|.U n]
def
q5{f:VE->Ba}(h:JE X e (tF K M H0 f)):JE X e (tD K M H0 λρ=>Zz (f ρ)):=#[PE.fd h.h]
@[simp]def AZ(ρ:VE)(i:I):O D:=match ρ[i]? with
  |some (.val d)=>Z d
  |_=>J
@[simp]def A5(ρ:VE)(i:I):O D:=match ρ[i]? with
  |some (.val d)=>Z d
  |some (.own a b _)=>Z (.X a b)
  |some (.lent a b)=>Z (.X a b)
  |_=>J
def
q8{i:I}{d:D}(h:AZ ρ i=Z d):ρ[i]?=Z (.B d):=by grind [AZ]
def
q9{i:I}{x:Ae}(b:NV X i x):PE X (.γ x pos) (tD K M H0 λρ=>AZ ρ i):=(GU b).ν λc H Q f=>by
  let(ρ,d,R,e,q):=f;try dsimp only at e q
  let(v,a,h):=R.Ϡ i _<|q8 e;apply⟨v,?_,q v H (Ak.χ H) h⟩;cases z:c[i]? with
  |none=>rw[z]at a;cases a
  |some o=>rw[z]at a;ext a;rfl
open J in
def
ra{i:I}{x:Ae}(j:NV X i x):PE X (.γ x pos) (tP K M H0 λρ=>A5 ρ i):=(GU j).ν λc H Q k=>by
  let(ρ,d,R,e,q):=k;try dsimp only at e q
  let fin:∀v,c[i]?.join=Z v->AC K (Nf M ρ c) H d v->∃v,c[i]?=Z (Z v)/\Q v H:=λv b h=>by
   apply#[v,?_,q v H (Ak.χ H) h];cases z:c[i]? with
   |none=>rw[z]at b;cases b
   |some o=>rw[z]at b;ext b;rfl
  unfold A5 at e;split at e
  .next h=>ext e;let(v,b,h):=R.Ϡ i _ h;show fin v b h.p
  .next h=>ext e;let(a,l,b,_,_,f,g):=R.Ϡ i _ h;show fin _ b<|UI (.U f) g
  .next h=>ext e;let(a,l,b,_,f,g):=R.Ϡ i _ h;show fin _ b<|UI f g
  .cases e
def
MZ{d:D}{v:V}{e:Expr}(h:PE X e (tC v))(hd:∀N H,AB K N H d v):PE X e (tD K M H0 λ_=>Z d):=h.ν λa H Q ⟨b,c,R,e,q⟩=>by(try dsimp only at e q);ext e;show q v H (Ak.χ H)<|hd _ _
def
bQ {i j pos}:JE X (.Ϟ (.u i) j pos) (tD K M H0 λ_=>Z (.u i)):=#[MZ nZ λ_ _=>by erw[AB]]
def
rb {i j pos}:JE X (.Ϟ (.Ϥ i) j pos) (tD K M H0 λ_=>Z (.bl i)):=#[MZ n0 λ_ _=>by erw[AB]]
def
re {j pos}:JE X (.Ϟ .Β j pos) (tD K M H0 λ_=>Z .Ε):=#[MZ og λ_ _=>by erw[AB]]
def
rf {i j pos}:JE X (.Ϟ (.ω i) j pos) (tD K M H0 λ_=>Z (.ω i)):=#[MZ oh λ_ _=>by erw[AB]]
def DE(K:Ap)(r:R2)(F:D->D->O D):V':=∀(N:Fb)(H:Hp)(x y:V)(c e d:D)(Q:VK),(∀a,N a->H a≠J)->AC K N H c x->AC K N H e y->F c e=Z d ->
 (∀v b,Ak H b->AB K N b d v->Q v b)->r x y H Q
@[simp]def Za(F:D->D->O D)(f g:AH):AH:=λa=>(f a).L λx=>(g a).L λy=>F x y
def
bR{F:D->D->O D}{f g:AH}{d:D}(h:Za F f g ρ=Z d):∃x y,f ρ=Z x/\g ρ=Z y/\F x y=Z d:=by
 unfold Za at h;cases a:f ρ with|none=>rw[a]at h;cases h|some x=>
  cases b:g ρ with
  |none=>rw[a,b]at h;cases h
  |some y=>rw[a,b]at h;show#[x,y,rfl,rfl,h]
def
QV{r:R2}{F:D->D->O D}(i:DE K r F){H:Hp}{Q:VK}(h:tD K M H0 (Za F f g) Y' H Q):Lz r (tP K M H0 f) (tP K M H0 g) Y' H Q:=by
 let(a,d,R,e,q):=h;let(x,y,j,k,l):=bR e;show#[a,x,R,j,λv z b m=>#[a,y,R.st b,k,λu n c o=>i (Nf M a Y') n v u x y d Q ((R.st b).st c).nh (m.δ c) o l λw p s t=>q w p ((b.I c).I s) t]]
def
LU{op:Operator}{r:R2}{F:D->D->O D}(c:B7 X (GS op) r)(d:DE K r F)(e:PE X a (tP K M H0 f))(i:PE X b (tP K M H0 g)):PE X (.BinOp a op b pos) (tD K M H0 (Za F f g)):=(pc c e i).ν λ_ _ _ h=>QV d h
def
QW{op:CmpOp}{r:R2}{F:D->D->O D}(c:B7 X (Du op) r)(d:DE K r F)(e:PE X a (tP K M H0 f))(i:PE X b (tP K M H0 g))(j:Gr op b=O'):PE X (.Κ a [op] [b] pos) (tD K M H0 (Za F f g)):=(aM c e i j).ν λ_ _ _ h=>QV d h
def
bS{r:R2}{F:D->D->O D}(c:Hx X r)(d:DE K r F)(e:PE X a (tP K M H0 f))(i:PE X b (tP K M H0 g))(j:On b):PE X (.ψ a b pos) (tD K M H0 (Za F f g)):=(qi c e i j).ν λ_ _ _ h=>QV d h
@[simp]def AM:O D->O q'
  |some (.bl b)=>Z b
  |_=>J
def
M0{o:O D}{b:q'}(h:AM o=Z b):o=Z (.bl b):=by
 unfold AM at h;grind
def
rg{t:TE}{H:Hp}{Q:q'->Hp->V'}(a:∀Y' H Q,tD K M H0 f Y' H Q->t Y' H Q)(h:BP K M H0 (λρ=>AM (f ρ)) Y' H Q):tB t Y' H Q:=by
 let(ρ,b,R,e,q):=h;apply a Y' H _ #[ρ,.bl b,R,M0 e,λv d s c=>?_];erw[AB]at c;simp_all
def
HA{op:CmpOp}{r:R2}{F:D->D->O D}(c:B7 X (Du op) r)(d:DE K r F)(e:PE X a (tP K M H0 f))(h:PE X b (tP K M H0 g))(i:Gr op b=O'):PT X (.Κ a [op] [b] pos) (BP K M H0 λρ=>AM (Za F f g ρ)):=(aN c e h i).ν λ_ _ _ q=>rg (t:=Lz r (tP K M H0 f)<|tP K M H0 g) (λ_ _ _ z=>QV d z) q
@[simp]def C0(o:O q'):O q':=o.j (!·)
@[simp]def Dl(o p:O q'):O q':=match o with
  |some J'=>p
  |some O'=>Z O'
  |none=>J
@[simp]def Ea(o p:O q'):O q':=match o with
  |some J'=>Z J'
  |some O'=>p
  |none=>J
variable {c c':VE->O q'}{AD:U Expr}
def
rh(h:JT X a (BP K M H0 c)):JT X (.UnaryOp .Not a pos) (BP K M H0 λρ=>C0 (c ρ)):=#[have h:=h.h;(ow h).ν λg H Q d=>by
 let(ρ,b,R,e,q):=d;let(k,f,e):=B2.mp e;ext e;show#[ρ,k,R,f,q]]
def
ri(h:JT X a (BP K M H0 c)):JW X (.ϔ .And [a] pos) (BP K M H0 c):=#[have h:=h.h;oq h]
def
rj(h:JT X a (BP K M H0 c)):JW X (.ϔ .Or [a] pos) (BP K M H0 c):=#[have h:=h.h;ot h]
def
rk{H:Hp}{Q:q'->Hp->V'}(h:BP K M H0 (λρ=>Dl (c ρ) (c' ρ)) Y' H Q):aq (BP K M H0 c) (BP K M H0 c') Y' H Q:=by
 let(ρ,b,R,e,q):=h;try dsimp only at e q
 cases a:c ρ with|none=>rw[a]at e;cases e|some k=>
  rw[a]at e;apply#[ρ,k,R,a,λd s=>?_];cases k with
  |true=>show#[ρ,b,R.st s,e,λf g=>q f<|s.I g]
  |false=>ext e;show q d s
def
rl{H:Hp}{Q:q'->Hp->V'}(h:BP K M H0 (λρ=>Ea (c ρ) (c' ρ)) Y' H Q):ar (BP K M H0 c) (BP K M H0 c') Y' H Q:=by
 let(ρ,b,R,e,q):=h;try dsimp only at e q
 cases a:c ρ with|none=>rw[a]at e;cases e|some k=>
  rw[a]at e;apply#[ρ,k,R,a,λd s=>?_];cases k with
  |false=>show#[ρ,b,R.st s,e,λf g=>q f<|s.I g]
  |true=>ext e;show q d s
def
rm(h:JT X a (BP K M H0 c))(h':JW X (.ϔ .And (b::AD) pos) (BP K M H0 c')):JW X (.ϔ .And (a::b::AD) pos) (BP K M H0 λρ=>Dl (c ρ) (c' ρ)):=#[have h:=h.h;let h':=h'.h;(ou h h').ν λ_ _ _ q=>rk q]
def
ro(h:JT X a (BP K M H0 c))(h':JW X (.ϔ .Or (b::AD) pos) (BP K M H0 c')):JW X (.ϔ .Or (a::b::AD) pos) (BP K M H0 λρ=>Ea (c ρ) (c' ρ)):=#[have h:=h.h;let h':=h'.h;(ov h h').ν λ_ _ _ q=>rl q]
@[simp]def DZ(o:O q'):O D:=o.j D.bl
def
Ov{H:Hp}{Q:VK}(h:tD K M H0 (λρ=>DZ (c ρ)) Y' H Q):∃ρ b,Bw K M H0 ρ Y' H/\c ρ=Z b/\∀H',Ak H H'->Q (.bl b) H':=by
 let(ρ,d,R,e,q):=h;let(k,a,e):=B2.mp e;ext e;show#[ρ,k,R,a,λH' s=>q _ H' s (by erw[AB])]
def
rp(h:JE X a (tD K M H0 f)):JE X (.UnaryOp .Not a pos) (tD K M H0 λρ=>DZ (C0 (AM (f ρ)))):=#[have h:=h.h;(oD h).ν λg H Q q=>by
 let(ρ,b,R,e,q):=Ov q;let(k,c,e):=B2.mp e;ext e;apply#[ρ,.bl k,R,M0 c,λv i s d=>?_];erw[AB]at d;simp_all]
def
rq {op} (h:JE X a (tD K M H0 f)):JE X (.ϔ op [a] pos) (tD K M H0 λρ=>DZ (AM (f ρ))):=#[have h:=h.h;(au h).ν λg H Q q=>by
 let(ρ,b,R,e,q):=Ov q;show#[ρ,.bl b,R,M0 e,λv d s c=>by erw[AB]at c;subst c;show q d s]]
def
rz(h:JE X a (tD K M H0 f))(h':JE X (.ϔ .And (b::AD) pos) (tD K M H0 λρ=>DZ (c' ρ))):JE X (.ϔ .And (a::b::AD) pos) (tD K M H0 λρ=>DZ (Dl (AM (f ρ)) (c' ρ))):=#[have h:=h.h;let h':=h'.h;(aw h h').ν λm H Q q=>by
 let(ρ,b,R,e,q):=Ov q;cases c:AM (f ρ)with
 |none=>rw[c]at e;cases e
 |some k=>
  apply#[ρ,.bl k,R,M0 c,λv g s i=>?_];apply#[k,i,?_];rw[c]at e;cases k with
  |true=>show#[ρ,.bl b,R.st s,by change DZ (c' ρ)=_;rw[show c' ρ=Z b from e];rfl,λw j l d=>by erw[AB]at d;subst d;show q j<|s.I l]
  |false=>ext e;show q g s]
def
rA(h:JE X a (tD K M H0 f))(h':JE X (.ϔ .Or (b::AD) pos) (tD K M H0 λρ=>DZ (c' ρ))):JE X (.ϔ .Or (a::b::AD) pos) (tD K M H0 λρ=>DZ (Ea (AM (f ρ)) (c' ρ))):=#[have h:=h.h;let h':=h'.h;(oC h h').ν λm H Q q=>by
 let(ρ,b,R,e,q):=Ov q;cases c:AM (f ρ)with
 |none=>rw[c]at e;cases e
 |some k=>
  apply#[ρ,.bl k,R,M0 c,λv g s i=>?_];apply#[k,i,?_];rw[c]at e;cases k with
  |false=>show#[ρ,.bl b,R.st s,by change DZ (c' ρ)=_;rw[show c' ρ=Z b from e];rfl,λw j l d=>by erw[AB]at d;subst d;show q j<|s.I l]
  |true=>ext e;show q g s]
@[simp]def LW{d:Type}(c:O q')(a b:O d):O d:=match c with
  |some J'=>a
  |some O'=>b
  |none=>J
def
rB{k:Expr}(i:JT X k (BP K M H0 c))(j:JE X a (tD K M H0 f))(l:JE X b (tD K M H0 g)):JE X (.IfExp k a b pos) (tD K M H0 λρ=>LW (c ρ) (f ρ) (g ρ)):=#[have i:=i.h;let j:=j.h;let l:=l.h;(oF i j l).ν λr H Q p=>by
 let(ρ,d,R,e,q):=p;try dsimp only at e q
 cases i:c ρ with|none=>rw[i]at e;cases e|some k=>
  apply#[ρ,k,R,i,λt s=>?_];cases k with
  |true=>rw[i]at e;apply LR ?_;show#[ρ,d,R.st s,e,λw m n o=>q w m (s.I n) o]
  |false=>rw[i]at e;apply LS ?_;show#[ρ,d,R.st s,e,λw m n o=>q w m (s.I n) o]]
@[simp]def isN:D->q'
  |.non=>J'
  |_=>O'
@[simp]def EA(o:O D):O q':=o.j isN
def
AC.isN{K:Ap}{N:Fb}{H:Hp}{d:D}{v:V}(h:AC K N H d v):decide (v=.Ε)=Internal.isN d:=by
 cases d with
 |tup _=>erw[AC,AB]at h;let(a,b,e,_):=h;subst e;rfl
 |lst _ c=>ext c<;>(let(a,b,e,_):=h;subst e;rfl)
 |_=>erw[AC,AB]at h;subst h;rfl
def
rC {j c} (h:JE X a (tP K M H0 f)):JE X (.Κ a [.Is] [.Ϟ .Β j c] pos) (tD K M H0 λρ=>DZ (EA (f ρ))):=#[have h:=h.h;(om<|ao h).mono λl H Q q=>by
 let(ρ,b,R,e,q):=Ov q;let(d,g,e):=B2.mp e;ext e;show#[ρ,d,R,g,λv i s k=>by dsimp only;rw[k.isN];show q i s]]
def
rD {j c} (h:JE X a (tP K M H0 f)):JT X (.Κ a [.Is] [.Ϟ .Β j c] pos) (BP K M H0 λρ=>EA (f ρ)):=#[have h:=h.h;(ap<|ao h).mono λm H Q g=>by
 let(ρ,b,R,e,q):=g;let(d,i,e):=B2.mp e;ext e;show#[ρ,d,R,i,λv k s l=>#[_,rfl,l.isN ▸ q k s]]]
def
rE {j c} (h:JE X a (tP K M H0 f)):JT X (.Κ a [.IsNot] [.Ϟ .Β j c] pos) (BP K M H0 λρ=>C0 (EA (f ρ))):=#[have h:=h.h;(ap<|ol h).mono λm H Q i=>by
 let(ρ,b,R,e,q):=i;try dsimp only at e q
 cases g:f ρ with
 |none=>rw[g]at e;cases e
 |some d=>rw[g]at e;ext e;show#[ρ,d,R,g,λv k s l=>#[_,rfl,l.isN ▸ q k s]]]
end
end
def
rF{e:Expr}{env:Env}(h:∀x p,e≠.Starred x p):AQ (e::es) env=(O',As e env)::AQ es env:=by
 cases e with
 |Starred x p=>show absurd rfl<|h x p
 |_=>rfl
def rG:Expr->q'
 |.Starred _ _=>J'
 |_=>O'
def
Z9{e:Expr}{env:Env}(h:rG e=O'):AQ (e::es) env=(O',As e env)::AQ es env:=rF λx p z=>by subst z;ext h
structure CA(X:Cx)(x:Ae)(e:Expr)(es:List Expr)(pos:Az):V' where
 d:CT x
 s:AQ (e::es) X.G=(O',As e X.G)::AQ es X.G
 p:(AF pos (AQ es X.G)).any (·.1)=O'
def
Fn{x:Ae}{e:Expr}(d:⇑(CT x))(s:↥(AQ (e::es) X.G=(O',As e X.G)::AQ es X.G:12))(p:↑((AF pos (AQ es X.G)).any (·.1)=O')):CA X x e es pos:=#[d,s,p]
structure BA(X:Cx)(x:Ae)(ö:Az)(m:Ae)(å:Az)(e:Expr)(ç:Az):V' where
 b:Hr (.γ x ö) m X.G (As (.γ x ö) X.G)=As (.γ x ö) X.G
 f:((AF ç (AQ [e] X.G)).ϝ (λx=>!x.1)&&(Hs ç (Ht [] X.G)).ϝ (λx=>x.1.υ)&&decide ([e].a+([]:List E5).a+(if([]:List E5).Ω then 0 else 1)<30))=J'
 l:(å.endLine==ç.ϩ)=J'
 s:AQ [e] X.G=(O',As e X.G)::AQ [] X.G
 p:(AF ç (AQ [] X.G)).any (·.1)=O'
def
UJ{x:Ae}{c:Az}{m:Ae}{d:Az}{e:Expr}{a:Az}(b:↑(Hr (.γ x c) m X.G (As (.γ x c) X.G)=As (.γ x c) X.G)) (f:↑(((AF a (AQ [e] X.G)).ϝ (λx=>!x.1)&&(Hs a (Ht [] X.G)).ϝ (λx=>x.1.υ)&&decide ([e].a+([]:U E5).a+(if([]:U E5).Ω then 0 else 1)<30))=J')) (l:↑((d.endLine==a.ϩ)=J')) (s:↥(AQ [e] X.G=(O',As e X.G)::AQ [] X.G:12)) (p:↑((AF a (AQ [] X.G)).any (·.1)=O')):BA X x c m d e a:=#[b,f,l,s,p]
def CW(K:Ap)(N:Fb)(H:Hp):Sl->V->V'
 |.val d,v=>AB K N H d v
 |.lent c b,v=>∃a e,v=.C a/\N a/\Rd H a (CO K b a c e)/\Ad K N H c e
 |_,_=>False
def BL(K:Ap)(N:Fb)(H:Hp):U Sl->U V->V'
 |[],a=>a=[]
 |s::b,a=>∃v r,a=v::r/\CW K N H s v/\BL K N H b r
@[simp]def pk:Sl->O D
  |.val d=>Z d
  |.lent a b=>Z (.X a b)
  |.own a b _=>Z (.X a b)
  |.no=>J
  |.exc _=>J
def
CW.same{K:Ap}{N:Fb}{H:Hp}{s:Sl}{v:V}(h:CW K N H s v)(sm:Ak H H'):CW K N H' s v:=by
 cases s with
 |val d=>show AB.δ h sm
 |lent b f=>let(a,g,e,n,q,r):=h;show#[a,g,e,n,q.δ sm,r.δ sm]
 |no=>show h
 |own b f i=>show h
 |exc c=>show h
def
CW.p{K:Ap}{N:Fb}{H:Hp}{s:Sl}{v:V}(h:CW K N H s v){d:D}(b:pk s=Z d):AC K N H d v:=by
 cases s with
 |val d=>ext b;show AB.p h
 |lent f g=>ext b;let(a,i,e,n,q,r):=h;subst e;show UI q r
 |no=>show BV h
 |own f g j=>show BV h
 |exc c=>show BV h
def
BL.length{K:Ap}{N:Fb}{H:Hp}:∀{a:U Sl}{vs:U V},BL K N H a vs->a.a=vs.a
 |[],_,h=>by ext h;rfl
 |s::a,_,⟨v,r,e,h,t⟩=>by subst e;simp[BL.length t]
def
BL.get{K:Ap}{N:Fb}{H:Hp}:∀{a:U Sl}{vs:U V}{i:I}{s:Sl},BL K N H a vs->a[i]?=Z s->∃v,vs[i]?=Z v/\CW K N H s v
 |[],_,i,s,h,e=>by simp at e
 |_::a,_,0,s,⟨v,r,b,h,t⟩,e=>by subst b;simp at e;subst e;show#[v,rfl,h]
 |_::a,_,i+1,s,⟨v,r,b,h,t⟩,e=>by
  subst b;let(w,c,d):=BL.ό (i:=i) t (by exists e);show#[w,by simpa using c,d]
def C7(K:Ap)(M:Fb)(H0:Hp)(f:DS):TA:=λc H Q=>∃a d,Bw K M H0 a c H/\f a=Z d/\∀e b,Ak H b->BL K (Nf M a c) b d e->Q e b
def GZ(K:Ap)(M:Fb)(H0:Hp)(f:VE->O Sl):TE:=λc H Q=>∃a s,Bw K M H0 a c H/\f a=Z s/\∀v b,Ak H b->CW K (Nf M a c) b s v->Q v b
@[simp]def CH(ρ:VE)(i:I):O Sl:=match ρ[i]? with
  |some (.val d)=>Z (.B d)
  |some (.own a b _)=>Z (.lent a b)
  |some (.lent a b)=>Z (.lent a b)
  |_=>J
@[simp]def C1(o:O D):O Sl:=o.j Sl.B
@[simp]def Zl{c:Type}(a:O c)(b:O (U c)):O (U c):=a.L λx=>b.L λy=>Z (x::y)
def
Je{c:Type}{a:O c}{b:O (U c)}{l:U c}(h:Zl a b=Z l):∃x y,a=Z x/\b=Z y/\l=x::y:=by
 cases a with|none=>cases h|some x=>
  ext b<;>simp_all
variable {K:Ap}{M:Fb}{e a b:Expr}{f g:AH}{f1:VE->O Sl}
def
rH{i:I}{x:Ae}(k:NV X i x):PE X (.γ x pos) (GZ K M H0 λρ=>CH ρ i):=(GU k).ν λc H Q l=>by
  let(ρ,d,R,e,q):=l;try dsimp only at e q
  let fin:∀v,c[i]?.join=Z v->CW K (Nf M ρ c) H d v->∃v,c[i]?=Z (Z v)/\Q v H:=λv b h=>by
   grind [Ak.refl]
  unfold CH at e;split at e
  .next h=>ext e;let(v,b,h):=R.Ϡ i _ h;show fin v b h
  .next h=>
   ext e;let(a,f,b,_,_,g,j):=R.Ϡ i _ h;apply fin _ b #[a,f,rfl,.φ #[i,_,_,_,h,?_],.U g,j];cases z:c[i]? with
   |none=>rw[z]at b;cases b
   |some o=>rw[z]at b;ext b;rfl
  .next h=>ext e;let(a,f,b,m,g,j):=R.Ϡ i _ h;show fin _ b #[a,f,rfl,.U m.1,g,j]
  .cases e
def
bT(h:JE X e (tD K M H0 f)):JE X e (GZ K M H0 λρ=>C1 (f ρ)):=#[have h:=h.h;h.ν λi H Q a=>by
 let(ρ,s,R,e,q):=a;let(d,b,e):=B2.mp e;ext e;show#[ρ,d,R,b,λv c s g=>q v c s g]]
def
UK :JA X [] (C7 K M H0 λ_=>Z []):=#[Bq.ν λb H Q a=>by
 let(c,d,R,e,q):=a;ext e;show q [] H (Ak.χ H) rfl]
def
QX(h:JE X e (GZ K M H0 f1))(a:JA X es (C7 K M H0 fa))(f:↥(AQ (e::es) X.G=(O',As e X.G)::AQ es X.G:12)):JA X (e::es) (C7 K M H0 λρ=>Zl (f1 ρ) (fa ρ)):=#[have h:=h.h;let a:=a.h;(EQ h a f).ν λn H Q g=>by
 let(ρ,o,R,e,q):=g;let(s,r,i,j,rfl):=Je e;show#[ρ,s,R,i,λv p b k=>#[ρ,r,R.st b,j,λc l d m=>q (v::c) l (b.I d) #[v,c,rfl,k.δ d,m]]]]
@[simp]def Zj:U Sl->Ba
  |[]=>Z []
  |.val d::r=>Zl (Z d) (Zj r)
  |_=>J
def
M1{K:Ap}{N:Fb}{H:Hp}:∀{a:U Sl}{vs:U V}{b:U D},BL K N H a vs->Zj a=Z b->Ad K N H b vs
 |[],_,_,h,e=>by ext e;ext h;show Ad.Ϧ
 |.val d::r,_,_,⟨v,t,c,h,f⟩,e=>by
  let(x,y,g,i,j):=Je e;ext g;subst c j;show Ad.Ο h<|M1 f i
 |.no::_,_,_,_,e=>nomatch e
 |.own _ _ _::_,_,_,_,e=>nomatch e
 |.lent _ _::_,_,_,_,e=>nomatch e
 |.exc _::_,_,_,_,e=>nomatch e
@[simp]def Zf{a:Type}(o:O (U a)):O (U a):=o.L λl=>if l.a<=AE then Z l else J
def
UL{a:Type}{o:O (U a)}{l:U a}(h:Zf o=Z l):o=Z l/\l.a<=AE:=by
 cases o with|none=>cases h|some x=>
  let b:(if x.a<=AE then Z x else J)=Z l:=h;grind
def
ZW{H:Hp}{p:Ac}{o:HO}(h:H p=J):Ak H (AX H p o):=λb u e=>Zr (ZY e h) ▸ e
def
Ow{H d:Hp}{Q:VK}{p:Ac}(s:Ak H d)(e:d p=J)(h:Ad K (Nf M ρ Y') d xs vs) (q:∀a vs H',Ak H H'->H a=J->H' a=Z (CO K fl a xs vs)->Ad K (λb=>Nf M ρ Y' b\/b=a) H' xs vs->Q (.C a) H'):Q (.C p) (AX d p (CO K fl p xs vs)):=by
 apply q p vs _ (s.I<|ZW e) (s.free e) Z5 ?_;refine(h.nw λb c=>?_).δ (ZW e);rcases c with c|c
 .show .U c
 .subst c;show .φ e
def
rJ(h:JA X es (C7 K M H0 fa)):JE X (.List es pos) (tF K M H0 λρ=>Zf ((fa ρ).L Zj)):=#[have h:=h.h;(pW h).ν λj H Q b=>by
 let(ρ,k,R,e,q):=b;let(e,c):=UL e;let(d,f,e):=B8.mp e;show#[ρ,d,R,f,λl m g a=>#[(M1 a e).a ▸ c,λp i=>Ow g i (M1 a e) q]]]
def
rK {c} (h:JA X es (C7 K M H0 fa)):JE X (.Tuple es c pos) (tD K M H0 λρ=>(Zf ((fa ρ).L Zj)).j D.Q):=#[have h:=h.h;(pV h).ν λm H Q f=>by
 let(ρ,d,R,e,q):=f;let(n,a,e):=B2.mp e;ext e;let(e,a):=UL a;let(g,i,e):=B8.mp e;apply#[ρ,g,R,i,λj o k l=>?_];let hd:=M1 l e;show#[hd.a ▸ a,λp b=>q _ _ (k.I<|ZW b) ⟨p,j,rfl,Ck.of Z5,hd.δ<|ZW b⟩]]
end
inductive Rv where
 |val (d:D)|own (xs:List D) (b:Kd:=.l)
def Ox(K:Ap)(N:Fb)(H0 H':Hp):Rv->V->V'
 |.val d,v=>AB K N H' d v
 |.own c b,v=>∃a e,v=.C a/\H0 a=J/\H' a=Z (CO K b a c e)/\Ad K (λb=>N b\/b=a) H' c e
def A6(K:Ap)(F:U Sl->O Rv):Sp:=λd H Q _=>∃N c r,(∀a,N a->H a≠J)/\BL K N H c d/\F c=Z r/\∀v b,Ak H b->Ox K N H b r v->Q v b
@[simp]def Cw:Rv->D
  |.val d=>d
  |.own a b=>.X a b
@[simp]def Jf:Rv->Ba
  |.own a=>Z a
  |_=>J
@[simp]def UM:Rv->Ba
  |.own a .d=>Z a
  |_=>J
variable {K:Ap}{M:Fb}{e:Expr}{F:U Sl->O Rv}{k:I}{fn:Ac}{fd:Cm}{x:Ae}{p:Az}{E:XK}
@[simp]def Zh(F:U Sl->O Rv)(fa:DS):AH:=λa=>(fa a).L λb=>(F b).j Cw
@[simp]def Ef(F:U Sl->O Rv)(fa:DS):VE->Ba:=λa=>(fa a).L λb=>(F b).L Jf
def
rL{H:Hp}{Q:VK}(h:tD K M H0 (Zh F fa) Y' H Q):QK (A6 K F) [] E (C7 K M H0 fa) Y' H Q:=by
 let(f,d,R,e,q):=h;let(g,j,e):=B8.mp e;let(r,k,e):=B2.mp e;ext e;apply#[f,g,R,j,λx y c l=>#[Nf M f Y',g,r,(R.st c).nh,by rw[C6];show l,k,λv m n i=>q v m (c.I n) ?_]];cases r with|val d=>show i|own A B=>
  let(a,o,p,s,t,u):=i;show#[a,o,p,.of (λz=>(R.st c).Τ s z) t,u.nw λb w=>.U<|.U w]
@[simp]def Kn(F:U Sl->O Rv)(fa:DS):VE->Ba:=λa=>(fa a).L λb=>(F b).L UM
def
rM{H:Hp}{Q:VK}(h:Fm .d K M H0 (Kn F fa) Y' H Q):QK (A6 K F) [] E (C7 K M H0 fa) Y' H Q:=by
 let(g,d,R,e,q):=h;let(b,j,e):=B8.mp e;cases c:F b with|none=>erw[Eg,c]at e;cases e|some r=>
  erw[Eg,c]at e;cases r with|val d=>cases e|own x k=>
   cases k with
   |l=>cases e
   |i _ _=>cases e
   |d=>
    ext e;apply#[g,b,R,j,λy z f m=>#[Nf M g Y',b,_,(R.st f).nh,by rw[C6];show m,c,λv n o p=>?_]];let(a,s,rfl,t,u,w):=p;show q a s n (f.I o) (f.Ν t) u w
def
rN{H:Hp}{Q:VK}(h:tF K M H0 (Ef F fa) Y' H Q):QK (A6 K F) [] E (C7 K M H0 fa) Y' H Q:=by
 let(g,d,R,e,q):=h;let(b,j,e):=B8.mp e;cases c:F b with|none=>erw[Eg,c]at e;cases e|some r=>
  erw[Eg,c]at e;cases r with|val d=>cases e|own x k=>
   cases k with
   |d=>cases e
   |i _ _=>cases e
   |l=>
    ext e;apply#[g,b,R,j,λy z f m=>#[Nf M g Y',b,_,(R.st f).nh,by rw[C6];show m,c,λv n o p=>?_]];let(a,s,rfl,t,u,w):=p;show q a s n (f.I o) (f.Ν t) u w
def
rO(G:AY X.Y X.w X.K X.mg X.σ CX k fn fd ps (A6 K F))(b:AJ k X.A)(c:Gl X x)(f:X.mg x=Z (.C fn))(g:IY X.K (.C fn)=J')(i:Binds X.K fd ps [])(j:FN CX X E)(a:JA X (e::es) (C7 K M H0 fa))(hz:↥(CA X x e es pos:9)):JE X (.Φ (.γ x p) (e::es) [] pos) (tD K M H0 (Zh F fa)):=#[have a:=a.h;(QL G b c f g i .Ϧ j a hz.d hz.s hz.p).ν λ_ _ _ h=>rL h]
def
rP(G:AY X.Y X.w X.K X.mg X.σ CX k fn fd ps (A6 K F))(b:AJ k X.A)(c:Gl X x)(f:X.mg x=Z (.C fn))(g:IY X.K (.C fn)=J')(i:Binds X.K fd ps [])(j:FN CX X E)(a:JA X (e::es) (C7 K M H0 fa))(hz:↥(CA X x e es pos:9)):JE X (.Φ (.γ x p) (e::es) [] pos) (tF K M H0 (Ef F fa)):=#[have a:=a.h;(QL G b c f g i .Ϧ j a hz.d hz.s hz.p).ν λ_ _ _ h=>rN h]
end
def Gx(K:Ap)(r:U V->Hp->VK->V')(F:Ez):V':=∀(N:Fb)(H:Hp)(c:U V)(e:U D)(d:D)(Q:VK),(∀a,N a->H a≠J)->Paired (AC K N H) e c->F e=Z d ->
 (∀v b,Ak H b->AB K N b d v->Q v b)->r c H Q
def QY(K:Ap)(r:U V->Hp->VK->V')(F:U D->Ba):V':=∀(N:Fb)(H:Hp)(b:U V)(c:U D)(d:U D)(Q:VK),(∀a,N a->H a≠J)->Paired (AC K N H) c b->F c=Z d ->
 (∀e p,H p=J->Ad K N H d e->Q (.C p) (AX H p (.X e)))->r b H Q
@[simp]def HB:U Sl->Ba
  |[]=>Z []
  |s::r=>Zl (pk s) (HB r)
def
QZ{K:Ap}{N:Fb}{H:Hp}:∀{a:U Sl}{vs:U V}{b:U D},BL K N H a vs->HB a=Z b->Paired (AC K N H) b vs
 |[],_,_,h,e=>by ext e;ext h;show .Ϧ
 |s::r,_,_,⟨v,t,c,h,d⟩,e=>by
  let(x,y,f,g,i):=Je e;subst c i;show .Ο (h.p f)<|QZ d g
variable {K:Ap}{M:Fb}{e:Expr}{x:Ae}{p:Az}{r:U V->Hp->VK->V'}{F:Ez}{G:U D->Ba}{id:String}
@[simp]def Zn(F:Ez)(fa:DS):AH:=λa=>((fa a).L HB).L F
@[simp]def Do(F:U D->Ba)(fa:DS):VE->Ba:=λa=>((fa a).L HB).L F
def
bU(f:Gx K r F){H:Hp}{Q:VK}(h:tD K M H0 (Zn F fa) Y' H Q):QM r (C7 K M H0 fa) Y' H Q:=by
 let(a,d,R,e,q):=h;unfold Zn at e;cases b:fa a with|none=>rw[b]at e;cases e|some g=>
  rw[b]at e;let(i,j,e):=B8.mp e;show#[a,g,R,b,λk l c m=>f (Nf M a Y') l k i d Q (R.st c).nh (QZ m j) e λv n s o=>q v n (c.I s) o]
def
rQ(g:QY K r G){H:Hp}{Q:VK}(h:tF K M H0 (Do G fa) Y' H Q):QM r (C7 K M H0 fa) Y' H Q:=by
 let(a,d,R,e,q):=h;unfold Do at e;cases b:fa a with|none=>rw[b]at e;cases e|some i=>
  rw[b]at e;let(j,c,e):=B8.mp e;show#[a,i,R,b,λk l f m=>g (Nf M a Y') l k j d Q (R.st f).nh (QZ m c) e λo p c n=>Ow f c n q]
def
HC(b:EO X (.ξ id) r)(c:Gx K r F)(f:Gl X x)(g:X.mg x=J)(i:Em x=Z (.ξ id))(a:JA X (e::es) (C7 K M H0 fa))(j:⇑(x≠"__name__"))(hz:↥(CA X x e es pos:9)):JE X (.Φ (.γ x p) (e::es) [] pos) (tD K M H0 (Zn F fa)):=#[have a:=a.h;(bg b f g i a j hz.d hz.s hz.p).ν λ_ _ _ h=>bU c h]
def
bV(b:EO X (.ε id) r)(c:Gx K r F)(f:Gl X x)(g:X.mg x=J)(i:Em x=Z (.ε id))(a:JA X (e::es) (C7 K M H0 fa))(j:⇑(x≠"__name__"))(hz:↥(CA X x e es pos:9)):JE X (.Φ (.γ x p) (e::es) [] pos) (tD K M H0 (Zn F fa)):=#[have a:=a.h;(bh b f g i a j hz.d hz.s hz.p).ν λ_ _ _ h=>bU c h]
def
bW(b:EO X (.ε id) r)(c:QY K r G)(f:Gl X x)(g:X.mg x=J)(i:Em x=Z (.ε id))(a:JA X (e::es) (C7 K M H0 fa))(j:⇑(x≠"__name__"))(hz:↥(CA X x e es pos:9)):JE X (.Φ (.γ x p) (e::es) [] pos) (tF K M H0 (Do G fa)):=#[have a:=a.h;(bh b f g i a j hz.d hz.s hz.p).ν λ_ _ _ h=>rQ c h]
end
inductive C8 where
 |fail|next(ρ:VE)|brk (ρ:VE)|cont (ρ:VE)|ret (r:Rv)
abbrev Av:=VE->C8
def Jg(K:Ap)(M:Fb)(H0:Hp)(ρ:VE)(Y':St)(H:Hp)(b:VE)(Q:St->Hp->V'):V':=∀a c,Bw K M H0 b a c->Step M (Nf M ρ Y') (Nf M b a) H c->Q a c
def Ca(K:Ap)(M:Fb)(H0:Hp)(ρ:VE)(Y':St)(H:Hp)(D:Ends):C8->V'
 |.fail=>False
 |.next a=>Jg K M H0 ρ Y' H a D.nx
 |.brk a=>Jg K M H0 ρ Y' H a D.bk
 |.cont a=>Jg K M H0 ρ Y' H a D.ct
 |.ret r=>∀v b,Ak H0 b->Ox K M H0 b r v->D.rt v b
def tS(K:Ap)(M:Fb)(H0:Hp)(g:Av):TS:=λD b H=>∃a,Bw K M H0 a b H/\Ca K M H0 a b H D (g a)
@[simp]def Ze(a:C8)(g:Av):C8:=match a with
  |.next b=>g b
  |r=>r
def
Jg.from{K:Ap}{M:Fb}{a b:VE}{c:St}{H e:Hp}{Q:St->Hp->V'}(s:Step M (Nf M ρ Y') (Nf M a c) H e)(h:Jg K M H0 ρ Y' H b Q):Jg K M H0 a c e b Q:=λd f R g=>h d f R<|s.I g
def
Ca.from{K:Ap}{M:Fb}{a:VE}{b:St}{H d:Hp}{D:Ends}{r:C8}(s:Step M (Nf M ρ Y') (Nf M a b) H d)(h:Ca K M H0 ρ Y' H D r):Ca K M H0 a b d D r:=by
 cases r with
 |fail=>show h
 |next c=>show Jg.v0 s h
 |brk c=>show Jg.v0 s h
 |cont c=>show Jg.v0 s h
 |ret r=>show h
variable {K:Ap}{M:Fb}{st:Ay}{AD:U Ay}{g g1 g2:Av}{e:Expr}{f:AH}
def
rR :JB X [] (tS K M H0 λρ=>.α ρ):=#[F3.ν λD a H ⟨ρ,R,q⟩=>q a H R Step.χ]
def
bX(c:JS X st (tS K M H0 g1))(d:JB X AD (tS K M H0 g2)):JB X (st::AD) (tS K M H0 λρ=>Ze (g1 ρ) g2):=#[have c:=c.h;let d:=d.h;(ax c d).ν λD j H e=>by
 let(ρ,R,q):=e;try dsimp only at q
 apply#[ρ,R,?_];cases b:g1 ρ with
 |fail=>rw[b]at q;show q
 |next a=>rw[b]at q;show λf k g i=>#[a,g,q.v0 i]
 |brk a=>rw[b]at q;show q
 |cont a=>rw[b]at q;show q
 |ret r=>rw[b]at q;show q]
@[simp]def Zw(o:O D):C8:=match o with
  |some d=>.Ϯ (.B d)
  |none=>.ώ
def
rS(h:JE X e (tD K M H0 f)):JS X (.Return (Z e) pos) (tS K M H0 λρ=>Zw (f ρ)):=#[have h:=h.h;(QC h).ν λD k H c=>by
 let(ρ,R,q):=c;try dsimp only at q
 cases b:f ρ with|none=>rw[b]at q;show BV q|some d=>
  rw[b]at q;show#[ρ,d,R,b,λv g s i=>q v g (R.δ.I s)<|i.nw λa j=>.U<|.U j]]
@[simp]def ZK(o:Ba):C8:=match o with
  |some a=>.Ϯ (.τ a)
  |none=>.ώ
@[simp]def Ij(o:Ba):C8:=match o with
  |some a=>.Ϯ (.τ a .d)
  |none=>.ώ
def
bY{k:Kd}{f:VE->Ba}{r:Ba->C8}(g:r J=.ώ)(i:∀xs,r (Z xs)=.Ϯ (.τ xs k))(h:PE X e (Fm k K M H0 f)):PS X (.Return (Z e) pos) (tS K M H0 λρ=>r (f ρ)):=(QC h).ν λD t H j=>by
 let(ρ,R,q):=j;try dsimp only at q
 cases d:f ρ with|none=>rw[d,g]at q;show BV q|some xs=>
  rw[d,i]at q;show#[ρ,xs,R,d,λa l m s n o p=>q (.C a) m (R.δ.I s) #[a,l,rfl,R.δ.Ν n,o,p.nw λb c=>by
   rcases c with c|c
   .show .U<|.U<|.U c
   .show .U<|.φ c]]
def
rT{f:VE->Ba}(h:JE X e (Fm .d K M H0 f)):JS X (.Return (Z e) pos) (tS K M H0 λρ=>Ij (f ρ)):=#[bY rfl (λ_=>rfl) h.h]
def
rV{f:VE->Ba}(h:JE X e (tF K M H0 f)):JS X (.Return (Z e) pos) (tS K M H0 λρ=>ZK (f ρ)):=#[bY rfl (λ_=>rfl) h.h]
@[simp]def EB(ρ:VE)(i:I):Ba:=match ρ[i]? with
  |some (.own a)=>Z a
  |_=>J
def
Oy{i:I}(h:EB ρ i=Z xs):ρ[i]?=Z (.τ xs):=by grind [EB]
@[simp]def FS(ρ:VE)(i:I):Ba:=match ρ[i]? with
  |some (.own a .d)=>Z a
  |_=>J
def
Oz{i:I}(h:FS ρ i=Z xs):ρ[i]?=Z (.τ xs .d):=by grind [FS]
def
AG{i:I}{v:V}(a:Y'[i]?.join=Z v):Y'[i]?=Z (Z v):=by
 cases z:Y'[i]? with
 |none=>rw[z]at a;cases a
 |some o=>rw[z]at a;ext a;rfl
def
bZ{k:Kd}{f:VE->I->Ba}{r:Ba->C8}(j:r J=.ώ)(l:∀xs,r (Z xs)=.Ϯ (.τ xs k))(g:∀{ρ i xs},f ρ i=Z xs->ρ[i]?=Z (.τ xs k)){i:I}{x:Ae}{c:Az}(m:NV X i x):PS X (.Return (Z (.γ x c)) pos) (tS K M H0 λρ=>r (f ρ i)):=(QC<|GU m).mono λD u H n=>by
 let(ρ,R,q):=n;try dsimp only at q
 cases e:f ρ i with|none=>rw[e,j]at q;show BV q|some xs=>
  rw[e,l]at q;let(a,o,h,(p,_),v,s,t):=R.Ϡ i _<|g e;apply⟨.ref a,AG h,q (.ref a) H R.same ⟨a,o,rfl,p,s,t.nw λb d=>.U ?_⟩⟩;rcases d with d|d
  .show .U d
  .subst d;show .φ #[i,xs,_,_,g e,AG h]
@[simp]def ZE(c:O q')(a b:C8):C8:=match c with
  |some J'=>a
  |some O'=>b
  |none=>.ώ
def
rW{c:Expr}{a b:U Ay}{t:VE->O q'}(d:JT X c (BP K M H0 t))(e:JB X a (tS K M H0 g1))(f:JB X b (tS K M H0 g2)):JS X (.If c a b pos) (tS K M H0 λρ=>ZE (t ρ) (g1 ρ) (g2 ρ)):=#[have d:=d.h;let e:=e.h;let f:=f.h;(Uh d e f).ν λD j H i=>by
 let(ρ,R,q):=i;try dsimp only at q
 cases g:t ρ with|none=>rw[g]at q;show BV q|some k=>
  rw[g]at q;apply#[ρ,k,R,g,λl s=>?_];cases k with
  |true=>apply LR ?_;show#[ρ,R.st s,Ca.v0 (Step.ϑ s) q]
  |false=>apply LS ?_;show#[ρ,R.st s,Ca.v0 (Step.ϑ s) q]]
def
Ko{b:Type}{l:U b}{i:I}{x y:b}(h:(l.Χ i x)[i]?=Z y):i<l.a/\x=y:=by
 by_cases a:i<l.a
 .rw[Ho a]at h;show#[a,Gs h]
 .rw[List.getElem?_eq_none (by exists GX a)]at h;ext h
def
OA{M:Fb}{i:I}{s:Sl}{v:V}{b:Ac}(f:ρ.a=Y'.a)(h:Nf M (ρ.Χ i s) (Y'.Χ i (Z v)) b):Nf M ρ Y' b\/∃xs fl a,s=.τ xs fl a/\v=.C b:=by
 rcases h with h|⟨j,xs,fl,a,c,d⟩
 .show .U<|.U h
 .by_cases e:i=j
  .subst e;cases((Ko c).2);cases((Ko d).2);show .φ #[xs,fl,a,rfl,rfl]
  .rw[E2 e]at c d;show .U<|.φ ⟨j,xs,fl,a,c,d⟩
def
Bw.put{H:Hp}{i:I}{s:Sl}{v:V}(R:Bw K M H0 ρ Y' H)(S:Step M (Nf M ρ Y') (Nf M (ρ.Χ i s) (Y'.Χ i (Z v))) H H')(sm:Ak H0 H') (E:∀j a vs xs fl m,j≠i->ρ[j]?=Z (.τ xs fl m)->Y'[j]?=Z (Z (.C a))->H a=Z (CO K fl a xs vs)->H' a=Z (CO K fl a xs vs)) (G:i<ρ.a->bO K M (Nf M (ρ.Χ i s) (Y'.Χ i (Z v))) H0 H' s (Z v)) (n:∀xs fl m a j ys b f,s=.τ xs fl m->v=.C a->j≠i->ρ[j]?=Z (.τ ys b f)->Y'[j]?≠Z (Z (.C a))):Bw K M H0 (ρ.Χ i s) (Y'.Χ i (Z v)) H' where
 len:=by rw[List.length_set,List.length_set];show R.϶
 same:=sm;mh:=λa h z=>by
  cases e:H a with
  |none=>show R.mh a h e
  |some o=>rw[S.kp a o e<|.φ<|.U h]at z;ext z
 slot:=λj A e=>by
  by_cases t:i=j
  .subst t;let(B,e):=Ko e;subst e;rw[Ho<|R.϶ ▸ B];show G B
  .rw[E2 t]at e ⊢;let q:=R.Ϡ j A e;cases A with
   |no=>trivial
   |val d=>let(u,p,h):=q;show#[u,p,AB.Ϙ S d u h]
   |own xs fl m=>let(a,vs,p,g,l,r,w):=q;show#[a,vs,p,g,l,E j a vs xs fl m (Cj t) e (AG p) r,Ad.Ϙ S xs vs w]
   |lent xs fl=>let(a,vs,p,g,l,r):=q;show#[a,vs,p,g,l.Ϙ S<|.φ<|.U g.1,Ad.Ϙ S xs vs r]
   |exc c=>let(a,C,p,g,l):=q;show#[a,C,p,g,S.kp _ _ l<|.φ<|.φ rfl]
 inj:=λj k xs ys fl b m f a g l r w=>by
  by_cases y:i=j
  .by_cases x:i=k
   .rw[<- y,x]
   .subst y;rw[E2 x]at l w;cases((Ko g).2);cases((Ko r).2);show absurd w<|n xs fl m a k ys b f rfl rfl (Cj x) l
  .rw[E2 y]at g r;by_cases x:i=k
   .subst x;cases((Ko l).2);cases((Ko w).2);show absurd r<|n ys b f a j xs fl m rfl rfl (Cj y) g
   .rw[E2 x]at l w;show R.inj j k xs ys fl b m f a g l r w
def
Bw.setV{H:Hp}{i:I}{d:D}{v:V}(R:Bw K M H0 ρ Y' H)(s:Ak H H')(h:AB K (Nf M ρ Y') H' d v):Bw K M H0 (ρ.Χ i (.B d)) (Y'.Χ i (Z v)) H'/\Step M (Nf M ρ Y') (Nf M (ρ.Χ i (.B d)) (Y'.Χ i (Z v))) H H':=by
 let S:Step M (Nf M ρ Y') (Nf M (ρ.Χ i<|.val d)<|Y'.set i<|some v) H H':=#[λa o e _=>s a o e,λb c=>by
  rcases OA R.len c with q|⟨f,_,_,e,_⟩
  .show .U q
  .cases e]
 apply#[R.put S (R.δ.I s) (λj a l f g _ _ _ _ e=>s _ _ e) (λ_=>#[v,rfl,h.nw λb c=>?_]) (λf g _ a j m k _ e=>nomatch e),S];rcases OA R.len c with q|⟨f,_,_,e,_⟩
 .show .U q
 .cases e
def
Bw.setO{H:Hp}{i:I}(R:Bw K M H0 ρ Y' H)(s:Ak H H')(d:H a=J)(l:H' a=Z (CO K fl a xs vs))(h:Ad K (λb=>Nf M ρ Y' b\/b=a) H' xs vs):Bw K M H0 (ρ.Χ i (.τ xs fl)) (Y'.Χ i (Z (.C a))) H'/\Step M (Nf M ρ Y') (Nf M (ρ.Χ i (.τ xs fl)) (Y'.Χ i (Z (.C a)))) H H':=by
 let nf:∀b,Nf M (ρ.Χ i<|.own xs fl) (Y'.set i<|some<|.ref a) b->Nf M ρ Y' b\/b=a:=λb c=>by
  rcases OA R.len c with q|⟨xs,fl,_,e,f⟩
  .show .U q
  .cases f;show .φ rfl
 let S:Step M (Nf M ρ Y') (Nf M (ρ.Χ i<|.own xs fl)<|Y'.set i<|some<|.ref a) H H':=#[λa o e _=>s a o e,λb c=>by
  rcases nf b c with q|q
  .show .U q
  .subst q;show .φ d]
 apply#[R.put S (R.δ.I s) (λj a vs xs fl _ _ _ _ e=>s _ _ e) (λ_=>#[a,vs,rfl,#[R.δ.Ν d,λ_ z=>nomatch z],λm=>R.Τ d<|.inl m,l,h.nw λb c=>.U<|nf b c]) (λn p _ v j r g k e f w t u=>?_),S];ext f;show R.Τ d<|.φ ⟨j,r,g,k,t,u⟩
def
Bw.chg{fl2:Kd}{c:O Ac}{H:Hp}{i:I}{ys:U D}{ws:U V}(R:Bw K M H0 ρ Y' H)(m:ρ[i]?=Z (.τ xs fl c))(g:Y'[i]?=Z (Z (.C a)))(h:Ad K (Nf M ρ Y') H ys ws):Bw K M H0 (ρ.Χ i (.τ ys fl2 c)) Y' (AX H a (CO K fl2 a ys ws))/\Step M (Nf M ρ Y') (Nf M (ρ.Χ i (.τ ys fl2 c)) Y') H (AX H a (CO K fl2 a ys ws)):=by
 let(B,L,w,(x,C),y,E,N):=R.Ϡ i _ m;rw[g]at w;let G:a=B:=by exists w
 subst G;let n:Y'.Χ i (Z<|.C a)=Y':=by
  apply(LX);intro j;by_cases e:i=j
  .subst e;rw[Ho (Dk.mp g).1,g]
  .rw[E2 e]
 let A:Nf M ρ Y' a:=.φ #[i,xs,fl,c,m,g];let nf:∀b,Nf M (ρ.Χ i<|.own ys fl2 c) (Y'.set i<|some<|.ref a) b->Nf M ρ Y' b:=λb p=>by
  rcases OA R.len p with q|⟨xs,_,_,e,r⟩
  .show q
  .cases r;show A
 let S:Step M (Nf M ρ Y') (Nf M (ρ.Χ i<|.own ys fl2 c)<|Y'.set i<|some<|.ref a) H (AX H a<|CO K fl2 a ys ws):=#[λb o e z=>by
   let ne:b≠a:=by
    rintro rfl;rcases z with z|z|z
    .show z A
    .show y z
    .rw[E]at e;ext e;rw[bN]at z;ext z
   rw[Zr ne];show e,λb p=>.U<|nf b p]
 let k:Bw K M H0 (ρ.Χ i<|.τ ys fl2 c) (Y'.Χ i<|some<|.C a) (AX H a<|CO K fl2 a ys ws):=by
  apply R.put S (λb o e=>?_) (λj b P l d f s t u Q=>?_) (λ_=>#[a,ws,rfl,#[x,C],y,Z5,Ad.Ϙ S ys ws h]) (λl F _ b j v d f e r s t u=>?_)
  .let ne:b≠a:=by
    rintro rfl;rw[x]at e;ext e
   rw[Zr ne];show R.δ b o e
  .let ne:b≠a:=by
    rintro rfl;show s<|R.inj j i l xs d fl f c b t m u g
   rw[Zr ne];show Q
  .cases r;show s<|R.inj j i v xs d fl f c _ t m u g
 rw[n]at k S;show#[k,S]
def
Bw.frz{o:O Ac}{H:Hp}{i:I}(R:Bw K M H0 ρ Y' H)(l:ρ[i]?=Z (.τ xs fl o)):Bw K M H0 (ρ.Χ i (.B (.X xs fl))) Y' H/\Step M (Nf M ρ Y') (Nf M (ρ.Χ i (.B (.X xs fl))) Y') H H:=by
 let(a,m,p,z,r,s,t):=R.Ϡ i _ l;let d:Y'.Χ i (Z<|.C a)=Y':=by
  apply(LX);grind
 let nf:∀b,Nf M (ρ.Χ i<|.val<|.lst xs fl) (Y'.set i<|some<|.ref a) b->Nf M ρ Y' b:=λb f=>by
  rcases OA R.len f with q|⟨xs,_,_,e,A⟩
  .show q
  .cases e
 let g:¬ Nf M (ρ.Χ i<|.B<|.X xs fl) (Y'.Χ i<|some<|.C a) a:=by
  rintro(h|⟨j,u,v,w,k,n⟩)
  .show r h
  .by_cases e:i=j
   .subst e;cases((Ko k).2)
   .rw[E2 e]at k n;show e<|R.inj i j xs u _ _ _ _ a l k (AG p) n
 let S:Step M (Nf M ρ Y') (Nf M (ρ.Χ i<|.val<|.lst xs fl)<|Y'.set i<|some<|.ref a) H H:=#[λ_ _ e _=>e,λb f=>.U<|nf b f];let c:Bw K M H0 (ρ.Χ i<|.B<|.X xs fl) (Y'.Χ i<|some<|.C a) H:=by
  show R.put S R.δ (λ_ _ _ _ _ _ _ _ _ h=>h) (λ_=>#[.C a,rfl,#[a,m,rfl,.of g s,Ad.Ϙ S xs m t]]) (λx _ _ b j y _ _ e=>nomatch e)
 rw[d]at c S;show#[c,S]
@[simp]def ZB(i:I)(o:O D)(ρ:VE):C8:=match o with
  |some d=>.α (ρ.Χ i (.B d))
  |none=>.ώ
@[simp]def ZX(i:I)(o:Ba)(ρ:VE):C8:=match o with
  |some a=>.α (ρ.Χ i (.τ a))
  |none=>.ώ
@[simp]def ES(i:I)(o:Ba)(ρ:VE):C8:=match o with
  |some a=>.α (ρ.Χ i (.τ a .d))
  |none=>.ώ
def
rX{f:VE->Ba}{i:I}{c:Ends}{H:Hp}(h:tS K M H0 (λρ=>ES i (f ρ) ρ) c Y' H):MN (Fm .d K M H0 f) (Lx i) c Y' H:=by
 let(ρ,R,q):=h;cases b:f ρ with|none=>erw[b,ES]at q;show BV q|some d=>
  erw[b,ES]at q;apply#[ρ,d,R,b,λa m n s e g j=>?_];let(k,l):=R.setO (i:=i) s e g j;show q _ _ k l
def
rY{f:VE->Ba}{i:I}{x:Ae}{a:Az}(c:X.N.μ)(g:X.N[i]?=Z x)(j:Loc X.G.Δ x)(b:JE X e (Fm .d K M H0 f))(k:↑(DR e (Z (.γ x a)) pos.ϩ X.G=Am O'))(l:↥(X.fn x=J'\/X.G.Δ.ρ.S x=Z .ϐ:6)):JS X (.Assign [.Name x a] e pos) (tS K M H0 λρ=>ES i (f ρ) ρ):=#[have b:=b.h;(Ob c g j b k l).ν λ_ _ _ q=>rX q]
def
b0{i:I}{b:Ends}{H:Hp}(h:tS K M H0 (λρ=>ZB i (f ρ) ρ) b Y' H):MN (tD K M H0 f) (Lx i) b Y' H:=by
 let(ρ,R,q):=h;cases a:f ρ with|none=>erw[a,ZB]at q;show BV q|some d=>
  erw[a,ZB]at q;apply#[ρ,d,R,a,λv j s c=>?_];let(e,g):=R.setV (i:=i) s c;show q _ _ e g
def
UN{f:VE->Ba}{i:I}{c:Ends}{H:Hp}(h:tS K M H0 (λρ=>ZX i (f ρ) ρ) c Y' H):MN (tF K M H0 f) (Lx i) c Y' H:=by
 let(ρ,R,q):=h;cases b:f ρ with|none=>erw[b,ZX]at q;show BV q|some d=>
  erw[b,ZX]at q;apply#[ρ,d,R,b,λa m n s e g j=>?_];let(k,l):=R.setO (i:=i) s e g j;show q _ _ k l
def
rZ{i:I}{x:Ae}{a:Az}(c:X.N.μ)(d:X.N[i]?=Z x)(g:Loc X.G.Δ x)(b:JE X e (tD K M H0 f))(j:↑(DR e (Z (.γ x a)) pos.ϩ X.G=Am O'))(k:↥(X.fn x=J'\/X.G.Δ.ρ.S x=Z .ϐ:6)):JS X (.Assign [.Name x a] e pos) (tS K M H0 λρ=>ZB i (f ρ) ρ):=#[have b:=b.h;(Ob c d g b j k).ν λ_ _ _ q=>b0 q]
def
r6{f:VE->Ba}{i:I}{x:Ae}{a:Az}(c:X.N.μ)(d:X.N[i]?=Z x)(g:Loc X.G.Δ x)(b:JE X e (tF K M H0 f))(j:↑(DR e (Z (.γ x a)) pos.ϩ X.G=Am O'))(k:↥(X.fn x=J'\/X.G.Δ.ρ.S x=Z .ϐ:6)):JS X (.Assign [.Name x a] e pos) (tS K M H0 λρ=>ZX i (f ρ) ρ):=#[have b:=b.h;(Ob c d g b j k).ν λ_ _ _ q=>UN q]
@[simp]def Kp(i:I)(ρ:VE):VE:=match ρ[i]? with
  |some (.own a b _)=>ρ.Χ i (.B (.X a b))
  |_=>ρ
open J in
def
r9(i:I)(h:JS X st (tS K M H0 g)):JS X st (tS K M H0 λρ=>g (Kp i ρ)):=#[have h:=h.h;h.ν λe f H a=>by
 let(ρ,R,q):=a;try dsimp only at q
 unfold Kp at q;split at q
 .next j b=>
  let(c,d):=R.frz b;show#[_,c,q.v0 d]
 .show#[ρ,R,q]]
@[simp]def Eo(i:I)(o:O D)(ρ:VE):C8:=match ρ[i]?,o with
  |some (.own a .l b),Z d=>if a.a<AE then .α (ρ.Χ i (.τ (a++[d]) .l b))else .ώ
  |_,_=>.ώ
open J in
def
sd{i:I}{x:Ae}{c g j:Az}(u:NV X i x)(k:JE X e (tD K M H0 f))(w:↑(DR (.Φ (.η (.γ x c) "append" g) [e] [] j) J pos.ϩ X.G=Am O'))(hz:↥(BA X x c "append" g e j:11)):JS X (.Expr (.Φ (.η (.γ x c) "append" g) [e] [] j) pos) (tS K M H0 λρ=>Eo i (f ρ) ρ):=#[have k:=k.h;(QB (Kg Q0 PySem.F.Ϻ PySem.F.type_list_append bB (GU u) (EQ k Bq hz.s) hz.b hz.f hz.l hz.s hz.p) w).ν λG Q H y=>by
  let(ρ,R,q):=y;try dsimp only at q
  unfold Eo at q;split at q
  .next z E d n A=>
   split at q
   .next hz=>
    let(a,m,o,L,N,r,t):=R.Ϡ i _ n;apply#[.C a,(AG o),.U #[rfl,m,.U<|.inl r],ρ,d,R,A,λv P s B=>?_];let(R2,C):=(R.st s).chg (ys:=z++[d]) (ws:=m++[v]) (fl2:=.l) n (AG o) ((t.δ s).Η<|Ad.Ο B Ad.Ϧ);show⟨a,m,v,rfl,rfl,s _ _ r,t.a ▸ hz,q _ _ R2<|(Step.ϑ s).I C⟩
   .show BV q
  .show BV q]
end
def M2(K:Ap)(M N:Fb)(f:Hp)(g:It)(c:U D):V':=∀e a,Step M N e f a->∀i,(∀d,c[i]?=Z d->g.go i a/\∀x b,g.yld i a x b->Ak a b/\AB K e b d x)/\(i=c.a->g.stop i a)
def tI(K:Ap)(M:Fb)(H0:Hp)(f:VE->Ba):TI:=λc H R=>∃a d,Bw K M H0 a c H/\f a=Z d/\∀e b,Ak H b->M2 K M (Nf M a c) b e d->R e b
def tG(K:Ap)(M:Fb)(H0:Hp)(ws:U I)(b:D->VE->O VE):TG:=λv e H Q=>∃f d c,Bw K M H0 f e H/\AB K (Nf M f e) H d v/\b d f=Z c/\∀a ,Bw K M H0 c a H->Step M (Nf M f e) (Nf M c a) H H->(∀j,j∉ws->a[j]?=e[j]?)->Q a H
@[simp]def Zd(i:I)(d:D)(ρ:VE):O VE:=Z (ρ.Χ i (.B d))
def ZC(b:D->VE->O VE)(g:Av):U D->Av
 |[],c=>.α c
 |d::f,c=>match b d c with
  |none=>.ώ
  |some e=>match g e with
   |.next a=>ZC b g f a
   |.cont a=>ZC b g f a
   |.brk a=>.α a
   |r=>r
@[simp]def C2(f:VE->Ba)(b:D->VE->O VE)(g:Av):Av:=λa=>match f a with
  |some c=>ZC b g c a
  |none=>.ώ
variable {K:Ap}{M:Fb}{e:Expr}{f:VE->Ba}{b:D->VE->O VE}{g:Av}{body:U Ay}
def
se{i:I}{x:Ae}(b:X.N.μ)(c:X.N[i]?=Z x)(f:Loc X.G.Δ x)(g:↥(X.fn x=J'\/X.G.Δ.ρ.S x=Z .ϐ:4)):JG X (.γ x pos) (tG K M H0 [i] (Zd i)):=#[by
 intro a s h H v u Q p r #[o,d,k,R,hd,e,q];ext e;let(l,m):=R.setV (i:=i) (Ak.χ H) hd;show MM b c f g a s h H v u Q p r (q _ l m λj n=>by rw[E2<|λe=>n (by rw[e];simp)])]
def
sf{E:Ends}{H:Hp}{B:TG}{S:TS}(hi:∀Y' H R,tI K M H0 f Y' H R->wi Y' H R)(hg:∀v Y' H Q,tG K M H0 ws b v Y' H Q->B v Y' H Q)(hb:∀D Y' H,tS K M H0 g D Y' H->S D Y' H) (h:tS K M H0 (C2 f b g) E Y' H):aG wi B S E Y' H:=by
 let(C,R,q):=h;unfold C2 at q;cases G:f C with|none=>rw[G]at q;show BV q|some d=>
  rw[G]at q;apply hi _ _ _ #[C,d,R,G,λF Y s1 ok=>?_];apply#[λi m e A=>m=d.a-i/\i<=d.a/\∃a,Bw K M H0 a e A/\Step M (Nf M C Y') (Nf M a e) Y A/\Ca K M H0 a e A E (ZC b g (d.Θ i) a),#[d.a,by simp,Fi _,C,R.st s1,Step.χ,?_],?_]
  .show Ca.v0 (Step.ϑ s1) q
  .intro i m e A zQ;let(rfl,hle,a,Ri,W,c):=zQ;let(L,N):=ok _ _ W i;by_cases l:i<d.a
   .let(go,y):=L d[i]<|CG l;rw[Kk l]at c;erw[ZC]at c;apply .inr ⟨go,λn s=>i+1<=d.a/\∃a,Bw K M H0 a n s/\Step M (Nf M C Y') (Nf M a n) Y s/\Ca K M H0 a n s E (ZC b g (d.Θ<|i+1) a),λn s z=>⟨d.a-(i+1),∅,rfl,z⟩,λx s yl=>?_⟩;let(s3,hd):=y x s yl;cases t:b d[i] a with|none=>rw[t]at c;show BV c|some o=>
     rw[t]at c;simp only at c;apply hg _ _ _ _ #[a,d[i],o,Ri.st s3,hd,t,λP R1 S1 _=>hb _ _ _ #[o,R1,?_]];let j:Step M (Nf M a e) (Nf M o P) A s:=(Step.ϑ s3).I S1;cases k:g o with
     |fail=>rw[k]at c;show c
     |next p=>rw[k]at c;show λu T R2 w=>#[l,p,R2,W.I<|j.I w,Ca.v0 (j.I w) c]
     |cont p=>rw[k]at c;show λu T R2 w=>#[l,p,R2,W.I<|j.I w,Ca.v0 (j.I w) c]
     |brk p=>rw[k]at c;show λu T R2 w=>c u T R2<|j.I w
     |ret r=>rw[k]at c;show c
   .rw[Oq ∅]at c;show .U #[N (show i=d.a by lia),c e A Ri Step.χ]
def
sh(e:PassesOwn (Af X.Y X.w) X.A X.G X.xe)(i:X.Ϸ=J')(a:JI X tg iter (tI K M H0 f))(c:JG X tg (tG K M H0 ws b))(d:JB X body (tS K M H0 g))(j:↥(∀x,Fg iter X.G x=Am x:7)):JS X (.For tg iter body [] pos) (tS K M H0 (C2 f b g)):=#[have a:=a.h;let c:=c.h;let d:=d.h;(Uk e i a c d j).ν λ_ _ _ q=>sf (λ_ _ _ z=>z) (λ_ _ _ _ z=>z) (λ_ _ _ z=>z) q]
def
PI.mono{a:TI}(h:PI X tg iter wi)(m:∀Y' H R,a Y' H R->wi Y' H R):PI X tg iter a:=λb s Y' H R c q=>h b s Y' H R c<|m Y' H R q
def Q3(K:Ap)(M N:Fb)(H:Hp)(d:D)(v:V):V':=match d with
 |.lst e=>∃a c,v=.C a/\(((¬ N a\/M a)/\Rd H a (.X c))\/KL K a c)/\Ad K N H e c
 |.lst e b=>∃a c,v=.C a/\(¬ N a\/M a)/\Rd H a (CO K b a e c)/\Ad K N H e c
 |d=>AB K N H d v
def tQ(K:Ap)(M:Fb)(H0:Hp)(f:AH):TE:=λc H Q=>∃a d,Bw K M H0 a c H/\f a=Z d/\∀v b,Ak H b->Q3 K M (Nf M a c) b d v->Q v b
def
AB.q{M N:Fb}{H:Hp}{d:D}{v:V}(h:AB K N H d v):Q3 K M N H d v:=by
 cases d with
 |lst g c=>
  let(a,b,e,q,r):=h;cases c with
  |l=>
   apply#[a,b,e,?_,r];rcases q with⟨n,q⟩|⟨f,z,q⟩
   .show .U #[.U n,q]
   .cases z;show .φ q
  |_=>
   rcases q with⟨n,q⟩|⟨f,z,_⟩
   .show#[a,b,e,.U n,q,r]
   .cases z
 |_=>show h
def
PE.q{f:AH}(h:PE X e (tD K M H0 f)):PE X e (tQ K M H0 f):=h.ν λc H Q ⟨a,d,R,e,q⟩=>#[a,d,R,e,λv b s z=>q v b s z.q]
def
si{f:AH}(h:JE X e (tD K M H0 f)):JE X e (tQ K M H0 f):=#[PE.q h.h]
def
sj{M N:Fb}{H:Hp}(m:M a)(h:Rd H a (CO K fl a xs vs))(r:Ad K N H xs vs):Q3 K M N H (.X xs fl) (.C a):=by
 cases fl with
 |l=>show#[a,vs,rfl,.U #[.φ m,h],r]
 |_=>show#[a,vs,rfl,.φ m,h,r]
@[simp]def BE(ρ:VE)(i:I):O D:=match ρ[i]? with
  |some (.val d)=>Z d
  |some (.lent a b)=>Z (.X a b)
  |_=>J
def
sk{i:I}{x:Ae}(c:NV X i x):PE X (.γ x pos) (tQ K M H0 λρ=>BE ρ i):=(GU c).ν λl H Q f=>by
  let(ρ,d,R,e,q):=f;try dsimp only at e q
  unfold BE at e;split at e
  .next h=>ext e;let(v,b,h):=R.Ϡ i _ h;show#[v,AG b,q v H (Ak.χ H) h.q]
  .next h=>ext e;let(a,m,b,g,j,k):=R.Ϡ i _ h;show#[_,AG b,q _ H (Ak.χ H)<|sj g.1 j k]
  .cases e
def b4:D->Ba
 |.lst a=>Z a
 |_=>J
def sr:D->Ba
 |.tup a=>Z a
 |_=>J
def ss:D->Ba
 |.str x=>Z (x.ϱ.J.j λc=>D.ω #[(T' [c])])
 |_=>J
def
su{l:Expr}{f:AH}(h:PE X l (tQ X.K M H0 f)):PI X tg l (tI X.K M H0 λρ=>(f ρ).L b4):=(aE h).ν λs H P t=>by
 let(ρ,F,R,e,q):=t;let(d,u,e):=B8.mp e;cases d with
 |lst L A=>
  cases A with
  |d=>cases e
  |i _ _=>cases e
  |l=>
  ext e;apply#[ρ,.X _,R,u,λv o B C=>?_];let(a,c,E,g,hd):=C;let p:∀k j,Step M (Nf M ρ s) k o j->BU X.K j a c:=λk j S=>by
   rcases g with⟨G,g⟩|g
   .show .U<|g.Ϙ S (by rcases G with z|z;show .U z;show .φ<|.U z)
   .show g.sq
  apply#[a,E,#[c,p _ _ Step.χ],q _ o B λk j S i=>?_];let b:=p _ _ S;apply#[λd m=>?_,λm=>#[c,b,by rw[m,hd.a];show A4 _]];let(w,r,n):=(Ad.Ϙ S _ _ hd).ό m;apply#[#[c,w,b,r],λx N y=>?_];let(rfl,y):=y;have:=y c b;rw[r]at this;ext this;show#[Ak.χ _,n]
 |_=>ext e
def
sv{l:Expr}{f:AH}(h:PE X l (tQ X.K M H0 f)):PI X tg l (tI X.K M H0 λρ=>(f ρ).L sr):=(o0 h).ν λt H u m=>by
 let(ρ,z,R,e,q):=m;let(d,n,e):=B8.mp e;cases d with
 |tup A=>
  ext e;apply#[ρ,.Q _,R,n,λv o p r=>?_];let(a,b,s,c,hd):=r;apply#[a,s,#[b,c],q _ o p λB C S i=>?_];apply#[λd g=>?_,λg=>#[b,(c.Ϙ S),by rw[g,hd.a];show A4 _]];let(w,k,j):=(Ad.Ϙ S _ _ hd).ό g;apply#[#[b,w,(c.Ϙ S),k],λx E y=>?_];let(rfl,y):=y;have:=y b<|c.Ϙ S;rw[k]at this;ext this;show⟨Ak.χ _,j⟩
 |_=>ext e
def
sw{l:Expr}{f:AH}(h:PE X l (tQ K M H0 f)):PI X tg l (tI K M H0 λρ=>(f ρ).L ss):=(qO h).ν λs H t j=>by
 let(ρ,u,R,e,q):=j;let(d,k,e):=B8.mp e;cases d with
 |str x=>
  ext e;apply#[ρ,.ω x,R,k,λv m n o=>?_];apply#[x,o,q _ m n λw z S i=>#[λd a=>?_,λa=>?_]]
  .rw[D9]at a;let(c,g,a):=B2.mp a;ext a;let p:i<x.ϱ.o:=by
    have:=(Dk.mp g).1;exists this
   apply#[p,λv A y=>?_];let(r,B,b,y):=y;subst r y;rw[<- OB,g]at b;ext b;show#[Ak.χ _,by erw[AB]]
  .have:i=x.ϱ.o:=by exists a
   show Nat.le_of_eq this.Γ
 |_=>ext e
def LY(lo:W')(n:I):U D:=(Bl n).j (λ(k:I)=>D.u (lo+(k:W')))
def
b5{M N:Fb}{c:Hp}{lo:W'}{n:I}:M2 K M N c (Oc lo n) (LY lo n):=λg h S i=>by
 apply#[λd a=>?_,λa=>?_]
 .let b:i<n:=by
   have:=(Dk.mp a).1;simpa[LY]using this
  let e:d=D.u (lo+i):=by
   erw[LY,D9,List.getElem?_range b,LN,Option.some.injEq]at a;show a.Γ
  subst e;apply#[b,λx j y=>?_];let(f,y):=y;subst f y;show#[Ak.χ _,by erw[AB]]
 .have:i=n:=by simpa[LY]using a
  show Nat.le_of_eq this.Γ
def gd{a:Type}(p:V')(o:O a):O a:=@ite _ p (Q5 p) o J
def
Q6{a:Type}{p:V'}{o:O a}(h:p):gd p o=o:=by grind [gd]
def
b9{a:Type}{p:V'}{o:O a}{x:a}(h:gd p o=Z x):p/\o=Z x:=by grind [Q6,gd]
def EC:U D->Ba
 |[.int j]=>gd (-1000000000<=j/\j<1000000000) (Z (LY 0 j.ζ))
 |_=>J
def OC:U D->Ba
 |[.int i,.int j]=>gd (-1000000000<=i/\i<1000000000 /\ -1000000000<=j/\j<1000000000) (Z (LY i (j-i).ζ))
 |_=>J
open J in
def
sx{a:Expr}{b:DS}{p:Az}(f:Gl X "range")(g:X.mg "range"=J)(c:JA X [a] (C7 K M H0 b))(i:↑(AQ [a] X.G=[(O',As a X.G)])):JI X tg (.Φ (.γ "range" p) [a] [] pos) (tI K M H0 λρ=>((b ρ).L Zj).L EC):=#[have c:=c.h;(o6 f g c i).ν λy H z k=>by
  let(ρ,A,R,e,q):=k;try dsimp only at e q
  cases d:b ρ with|none=>rw[d]at e;cases e|some m=>
   rw[d]at e;let(l,n,e):=B8.mp e;unfold EC at e;split at e
   .next j=>
    let(B,e):=b9 e;ext e;apply#[ρ,m,R,d,λC o s t=>?_];let(v,r,u,w,x):=(M1 t n);subst u w x;show#[j,rfl,∅,∅,q _ o s b5]
   .cases e]
open J in
def
sA{a b:Expr}{c:DS}{p:Az}(k:Gl X "range")(m:X.mg "range"=J)(d:JA X [a,b] (C7 K M H0 c))(n:↑(AQ [a,b] X.G=[(O',As a X.G),(O',As b X.G)]))(f:↑(AQ [b] X.G=[(O',As b X.G)])):JI X tg (.Φ (.γ "range" p) [a,b] [] pos) (tI K M H0 λρ=>((c ρ).L Zj).L OC):=#[have d:=d.h;(o7 k m d n f).ν λE H G o=>by
  let(ρ,Q,R,e,q):=o;try dsimp only at e q
  cases g:c ρ with|none=>rw[g]at e;cases e|some s=>
   rw[g]at e;let(l,t,e):=B8.mp e;unfold OC at e;split at e
   .next i j=>
    let(F,e):=b9 e;ext e;apply#[ρ,s,R,g,λL u w x=>?_];let(v,r,y,z,N,P,A,B,C):=(M1 x t);subst z B C A y;show#[i,j,rfl,#[∅,∅,∅,∅],q _ u w b5]
   .cases e]
end
def Q7(K:Ap)(M:Fb)(H0:Hp)(ws:U I)(b:U D->VE->O VE):IW:=λg d H Q=>∃e f c,Bw K M H0 e d H/\Ad K (Nf M e d) H f g/\b f e=Z c/\∀a ,Bw K M H0 c a H->Step M (Nf M e d) (Nf M c a) H H->(∀j,j∉ws->a[j]?=d[j]?)->Q a H
@[simp]def ZQ:U D->VE->O VE
  |[],a=>Z a
  |_,_=>J
@[simp]def Zk(b:D->VE->O VE)(c:U D->VE->O VE):U D->VE->O VE
  |d::r,a=>(b d a).L (c r)
  |_,_=>J
@[simp]def ZP(n:I)(b:U D->VE->O VE):D->VE->O VE
  |.tup a,c=>if a.a=n then b a c else J
  |_,_=>J
variable {K:Ap}{M:Fb}{e:Expr}{ws':U I}{b:D->VE->O VE}{c:U D->VE->O VE}
def
sB :JK X [] (Q7 K M H0 [] ZQ):=#[by
 intro a s b H c d Q i r #[h,f,g,R,hd,e,q];cases f with
 |nil=>
  ext e;show ay a s b H c d Q i r #[hd,q b R Step.χ λ_ _=>rfl]
 |cons=>cases e]
def
sC(g:JG X e (tG K M H0 ws b))(i:JK X es (Q7 K M H0 ws' c))(p:↑((Gu (e::es) X.G).j (·.2)=assign e X.G::(Gu es X.G).j (·.2))):JK X (e::es) (Q7 K M H0 (ws++ws') (Zk b c)):=#[have g:=g.h;let i:=i.h;by
 intro a s t H L u Q N r #[w,k,l,R,hd,e,q];cases k with|nil=>cases e|cons d k=>
  let(v,x,rfl,y,z):=hd;let(f,A,e):=B8.mp e;apply QF g i p a s t H _ u Q N r #[v,x,rfl,w,d,f,R,y,A,λB C o E=>#[f,k,l,C,Ad.Ϙ o _ _ z,e,λm R2 G F=>q m R2 (o.I G) λj n=>?_]];rw[Cz,not_or]at n;rw[F j n.2,E j n.1]]
def
sD{k n:I}(i:X.Ϸ=J')(h:JK X es (Q7 X.K M H0 ws c))(j:↑((Gu es X.G).a=n))(f:↑((Gu es X.G).findIdx? (·.1)=J)):JG X (.Tuple es k pos) (tG X.K M H0 ws (ZP n c)):=#[have h:=h.h;by
 intro b s l H v u Q y r #[m,d,g,R,hd,e,q];cases d with
 |tup o=>
  let(p,e):=ZV e;let(a,t,w,x,hd):=hd;show az i h j f b s l H v u Q y r #[a,t,w,x,hd.a ▸ p,m,o,g,R,hd,e,q]
 |_=>cases e]
end
@[simp]def Kq:O Sl->Sl
  |some (.val d)=>.B d
  |some (.own a b _)=>.lent a b
  |some (.lent a b)=>.lent a b
  |_=>.no
@[simp]def Zm(k:I)(ø:U I)(ρ:VE):VE:=Ct k .no++ø.j λj=>Kq ρ[j]?
def ZG(b:D->VE->O VE)(t:VE->O q')(e:AH)(ρ:VE):U D->Ba
 |[]=>Z []
 |d::c=>match b d ρ with
  |none=>J
  |some a=>match t a with
   |some J'=>Zl (e a) (ZG b t e ρ c)
   |some O'=>ZG b t e ρ c
   |none=>J
@[simp]def Zi(k:I)(ø:U I)(f:VE->Ba)(b:D->VE->O VE)(t:VE->O q')(e:AH):VE->Ba:=λa=>(Zf (f a)).L (ZG b t e (Zm k ø a))
variable {K:Ap}{M:Fb}{f:VE->Ba}{b:D->VE->O VE}{t:VE->O q'}{e:AH}{k:I}{ø:U I}
open J in
def
Bw.comp{H:Hp}(R:Bw K M H0 ρ Y' H)(k:I)(ø:U I):Bw K (Nf M ρ Y') H (Zm k ø ρ) (Fj k ø Y') H/\∀a,Nf (Nf M ρ Y') (Zm k ø ρ) (Fj k ø Y') a->Nf M ρ Y' a:=by
 let b:∀(j:I) (c:U D) (e:Kd) (f:O Ac),(Zm k ø ρ)[j]?≠Z (Sl.τ c e f):=λj c e f h=>by
  unfold Zm at h;rw[LZ]at h;split at h
  .rw[J9]at h;split at h<;>ext h
  .rw[D9]at h;cases l:ø[j-(Ct k Sl.no).a]? with|none=>rw[l]at h;cases h|some o=>
    rw[l]at h;erw[LN,Option.some.injEq]at h;unfold Kq at h;split at h<;>ext h
 let nf:∀a,Nf (Nf M ρ Y') (Zm k ø ρ) (Fj k ø Y') a->Nf M ρ Y' a:=λa h=>by
  rcases h with h|⟨j,c,e,f,h,_⟩
  .show h
  .show absurd h<|b j c e f
 apply#[#[by simp[Zm,Fj],Ak.χ H,R.nh,λj s h=>?_,λi j c B e x f y a h=>absurd h<|b i c e f],nf];unfold Zm at h;rw[LZ]at h;split at h
 .rw[J9]at h;split at h
  .cases h;trivial
  .cases h
 .next p=>
  rw[D9]at h;let r:(Fj k ø Y')[j]?=(ø[j-k]?).j λi=>(Y'[i]?).join:=by
   unfold Fj;rw[IZ (by exists p),D9];simp
  rw[r];erw[MP]at h;cases l:ø[j-k]? with|none=>rw[l]at h;cases h|some o=>
   rw[l]at h;erw[LN,Option.some.injEq]at h;erw[LN,Option.join_some];unfold Kq at h;split at h
   .next d hd=>subst h;let(v,g,q):=R.Ϡ o _ hd;show#[v,g,q.nw λa m=>.U<|nf a m]
   .next c e f hd=>
    subst h;let(a,t,g,u,w,n,A):=R.Ϡ o _ hd;show#[a,t,g,#[.φ #[o,c,e,f,hd,AG g],λz=>by rw[n]at z;cases z],.U n,A.nw λa m=>.U<|nf a m]
   .next c hd=>
    subst h;let(a,t,g,u,w,n):=R.Ϡ o _ hd;show#[a,t,g,#[.U u.1,R.mh a u.1],w,n.nw λa m=>.U<|nf a m]
   .subst h;trivial
def OD(K:Ap)(ws:U I)(b:D->VE->O VE):TG:=λv a H Q=>∃M H0,tG K M H0 ws b v a H Q
def OE(K:Ap)(t:VE->O q'):TT:=λa H Q=>∃M H0,BP K M H0 t a H Q
def OG(K:Ap)(e:AH):TE:=λa H Q=>∃M H0,tD K M H0 e a H Q
def
OH(hw:∀j∈ws,j<k)(hi:∀Y' H R,tI K M H0 f Y' H R->wi Y' H R){H:Hp}{Q:VK}(h:tF K M H0 (Zi k ø f b t e) Y' H Q):QQ k ø wi (OD K ws b) (OE K t) (OG K e) Y' H Q:=by
 let(l,G,R,ex,q):=h;let(m,W,ex):=B8.mp ex;let(W,hz):=UL W;apply hi _ _ _ #[l,m,R,W,λF H1 s1 ok=>?_];apply#[m.a,λi L B=>i<=m.a/\L.a<=i/\Ak H1 B/\∃c AD,Ad K (Nf M l Y') B c L/\ZG b t e (Zm k ø l) (m.Θ i)=Z AD/\c++AD=G,#[Fi _,A4 _,Ak.χ _,[],G,Ad.Ϧ,ex,rfl],?_];intro i L B zQ;let(hle,hy,u,c,AD,g,d,C):=zQ;let(N,P):=ok _ B (Step.ϑ u) i;by_cases n:i<m.a
 .let(go,y):=N m[i]<|CG n;rw[Kk n]at d;erw[ZG]at d;apply .inr ⟨go,n,∅,λr T=>r.a<=i+1/\Ak H1 T/\∃c AD,Ad K (Nf M l Y') T c r/\ZG b t e (Zm k ø l) (m.Θ<|i+1)=Z AD/\c++AD=G,λr T z=>⟨n,z⟩,λx E yl=>?_⟩;let(w,hd):=y x E yl;let(Rc,nf):=(((R.st s1).st u).st w).comp k ø;cases S:b m[i] (Zm k ø l)with
  |none=>rw[S]at d;cases d
  |some o=>
   rw[S]at d;simp only at d;apply#[Nf M l Y',E,Zm k ø l,m[i],o,Rc,hd.nw λa Y=>.U<|nf a Y,S,λσ4 R4 S4 w4=>#[?_,?_]]
   .apply(LX);intro j;rw[QR,QR];show w4 _ λhj=>absurd (hw _ hj) ∅
   .cases ht:t o with|none=>rw[ht]at d;cases d|some bb=>
     rw[ht]at d;apply#[Nf M l Y',E,o,bb,R4,ht,λH5 A=>?_];cases bb with
     |true=>
      let(yd,s,e1,e2,e3):=Je d;apply LR ?_;apply#[Nf M l Y',E,o,yd,R4.st A,e1,λv H6 s6 hv=>#[?_,((u.I w).I A).I s6,c++[yd],s,(g.δ<|(w.trans A).trans s6).append<|Ad.cons (hv.nw λa Y=>.U<|.U Y) Ad.Ϧ,e2,?_]]
      .erw[F4,UA];lia
      .subst e3;rw[<- C];simp
     |false=>
      show LS #[∅,(u.I w).I A,c,AD,g.δ<|w.I A,d,C]
 .rw[Oq ∅]at d;ext d;rw[C6]at C;subst C;show .U #[P (show i=m.a by lia),∅,λp hp=>Ow (s1.I u) hp g q]
def
PG.all(h:∀M H0,PG Y tg (tG K M H0 ws b)):PG Y tg (OD K ws b):=λa s c H v u Q d r ⟨M,H0,z⟩=>h M H0 a s c H v u Q d r z
def
Hz.all(h:∀M H0,Hz Y ifs (BP K M H0 t)):Hz Y ifs (OE K t):=λa s b H Q c ⟨M,H0,z⟩=>h M H0 a s b H Q c z
def
PE.all(h:∀M H0,PE Y elt (tD K M H0 e)):PE Y elt (OG K e):=λa s b H Q c ⟨M,H0,z⟩=>h M H0 a s b H Q c z
def
sE:JF Y [] (BP K M H0 λ_=>Z J'):=#[λa s c H Q f ⟨d,b,R,e,q⟩=>qJ a s c H Q f (by ext e;show q H<|Ak.χ H)]
def
sF{c:Expr}(h:JT Y c (BP K M H0 t)):JF Y [c] (BP K M H0 t):=#[have h:=h.h;qK h]
structure CB(K:Ap)(X:Cx)(own outs:List Ae)(scope:Scope)(tg:Expr)(ifs:List Expr)(elt:Expr)(ws:List I)(b:D->VE->Option VE)(t:VE->Option q')(e:AH):V' where
 g:∀C s2 H2 fp ß,PG (DD X own outs scope C s2 H2 fp ß) tg (OD K ws b)
 t:∀C s2 H2 fp ß,Hz (DD X own outs scope C s2 H2 fp ß) ifs (OE K t)
 e:∀C s2 H2 fp ß,PE (DD X own outs scope C s2 H2 fp ß) elt (OG K e)
def
sG{own c:U Ae}(j:∀{C d f g a i H'},JG (DD X own c scope C d f g a) tg (tG K i H' ws b))(k:∀{C d f g a i H'},JF (DD X own c scope C d f g a) ifs (BP K i H' t))(l:∀{C d f g a i H'},JE (DD X own c scope C d f g a) elt (tD K i H' e)):CB K X own c scope tg ifs elt ws b t e:=#[λ_ _ _ _ _=>PG.ϝ λ_ _=>j.h,λ_ _ _ _ _=>Hz.ϝ λ_ _=>k.h,λ_ _ _ _ _=>PE.ϝ λ_ _=>l.h]
def
sH(own a:U Ae)(ø:U I)(S:Jd own a scope X.G.Δ)(c:ø.j (λj=>X.N[j]?)=a.j Z)(i:X.Ϸ=J')(k:JI X tg iter (tI K M H0 f))(d:CB K X own a scope tg ifs elt ws b t e)(l:∀j∈ws,j<own.a)(m:↥(∀x,Fg iter X.G x=Am x:7)):JE X (.Ξ elt [#[tg,iter,ifs,0]] scope pos) (tF K M H0 (Zi own.a ø f b t e)):=#[(bH own a ø S c i k.h d.g d.t d.e m).ν λ_ _ _ z=>OH l (λ_ _ _ z=>z) z]
def
sI(own a:U Ae)(ø:U I){i:I}{x:Ae}{c d:Az}(S:Jd own a scope X.G.Δ)(k:ø.j (λj=>X.N[j]?)=a.j Z)(o:X.Ϸ=J')(p:X.N.μ)(l:X.N[i]?=Z x)(q:X.G.Δ.ρ.S x=Z .ϐ)(r:JI X tg iter (tI K M H0 f))(m:CB K X own a scope tg ifs elt ws b t e)(s:∀j∈ws,j<own.a)(n:↑(DR (.Ξ elt [#[tg,iter,ifs,0]] scope pos) (Z (.γ x c)) d.ϩ X.G=Am J'))(u:↥(∀x,Fg iter X.G x=Am x:7)):JS X (.ϥ [.γ x c] (.Ξ elt [#[tg,iter,ifs,0]] scope pos) d) (tS K M H0 λρ=>ZX i (Zi own.a ø f b t e ρ) ρ):=#[(QT own a ø S k o p l q r.h m.g m.t m.e n u).ν λv w H z=>OH s (λ_ _ _ z=>z) (UN z)]
def
sJ(own c:U Ae)(ø:U I){i:I}{x:Ae}{k l:Az}(S:Jd own c scope X.G.Δ)(n:ø.j (λj=>X.N[j]?)=c.j Z)(u:X.Ϸ=J')(v:X.N.μ)(o:X.N[i]?=Z x)(w:X.G.Δ.ρ.S x=Z .ϐ)(y:JI X tg iter (tI K M H0 f))(m:CB K X own c scope tg ifs elt ws b t e)(A:∀j∈ws,j<own.a)(p:↑(DR (.Ξ elt [#[tg,iter,ifs,0]] scope pos) (Z (.γ x k)) l.ϩ X.G=Am J'))(B:↥(∀x,Fg iter X.G x=Am x:7)):JS X (.ϥ [.γ x k] (.Ξ elt [#[tg,iter,ifs,0]] scope pos) l) (tS K M H0 λρ=>ZB i (Zz (Zi own.a ø f b t e ρ)) ρ):=#[(QT own c ø S n u v o w y.h m.g m.t m.e p B).ν λP Q H z=>by
   let(ρ,d,R,r,q):=(b0 z);let(C,E,r):=B2.mp r;ext r;show OH A (λ_ _ _ z=>z) #[ρ,C,R,E,λa G T s W F L=>q _ _ s #[a,G,rfl,.of (R.Τ W) F,L.nw λb m=>.U<|.U m]]]
end
def AT(a n:I)(g:Av):U Sl->O Rv:=λb=>if b.a=a then
  match g (b++Ct (n-a) .no)with
  |.ret r=>Z r
  |.next _=>Z (.B .Ε)
  |_=>J
 else J
def
sK{K:Ap}{N:Fb}{H:Hp}{l:U Sl}(o:∀a,N a->H a≠J)(h:BL K N H l vs)(n:I):Bw K N H (l++Ct n .no) (vs.j Z++Ct n J) H:=by
 let b:∀(j:I) (f:U D) (g:Kd) (k:O Ac),(l++Ct n Sl.no)[j]?≠Z (Sl.τ f g k):=λj f g k e=>by
  rw[LZ]at e;split at e
  .let(v,_,q):=h.ό e;show q
  .rw[J9]at e;split at e<;>ext e
 let nf:∀a,Nf N (l++Ct n Sl.no) (vs.j Z++Ct n J) a->N a:=λa z=>by
  rcases z with z|⟨j,f,g,k,z,_⟩
  .show z
  .show absurd z<|b j f g k
 apply#[by simp[h.length],Ak.χ H,o,λj s e=>?_,λi j f C g r k t a z=>absurd z<|b i f g k];rw[LZ]at e;split at e
 .next u=>
  let(v,w,q):=h.ό e;rw[Hw (by simpa[<- h.length]using u),D9,w];cases s with
  |val d=>show#[v,rfl,AB.nw q λa m=>.U<|nf a m]
  |lent f g=>let(a,x,y,p,A,B):=q;show#[a,x,by rw[y];rfl,#[p,o a p],A,B.nw λa m=>.U<|nf a m]
  |no=>trivial
  |own f g k=>show BV q
  |exc c=>show BV q
 .rw[J9]at e;let(_,e):=ZV e;ext e;trivial
def
sL{P:AN}{w:Ai}{K:Ap}{mg:Bt}{base:Al}{x b:Ae}{st:Ay}{f:Ac}{fd:Cm}{N d:U Ae}{k:I}{g:Av}(F:Ih K x b st f fd)(S:Z2 N d (Zg st))(u:d.a<=N.a) (y:∀(c:Aa) (A:Ag) (outer:U Env) (s:Ab) (H:Hp) (E:XK) (M:Fb) (H0:Hp),AJ k (A.ϖ (A7 b (Zg st) s.r.O.o f c))->E3 (CV Bi P w K mg base N b (Zg st) f c A outer s H E).nox (ZJ st) (tS K M H0 g)):AY P w K mg base Bi (k+1) f fd d (A6 K (AT d.a N.a g)):=by
 apply F.ok S (λl H Q E h=>?_) (λc A outer s H l Q E z h=>?_)
 .let(o,p,r,t,j,a,q):=h;let(m,a):=ZV a;rw[<- j.a];show m
 .let(o,p,r,t,j,a,q):=h;apply#[_,y c A outer s H E o H z,?_];let(m,a):=ZV a;rw[show FO N l=l.j Z++Ct (N.a-d.a) J by unfold FO;rw[<- j.a,m]];apply#[_,sK t j<|N.a-d.a,?_];cases e:g (p++Ct (N.a-d.a) .no)with
  |fail=>rw[e]at a;cases a
  |next i=>rw[e]at a;ext a;show λB n C R=>q .Ε n C.δ (by erw[Ox,AB])
  |brk i=>rw[e]at a;cases a
  |cont i=>rw[e]at a;cases a
  |ret L=>rw[e]at a;ext a;show λv n s G=>q v n s G
def
ce{P:AN}{w:Ai}{K:Ap}{mg:Bt}{base:Al}{x a:Ae}{st:Ay}{f:Ac}{fd:Cm}{N c:U Ae}{k:I}{g:Av}(F:Ih K x a st f fd)(S:Z2 N c (Zg st))(d:c.a<=N.a) (e:∀(b:Aa) (A:Ag) (outer:U Env) (s:Ab) (H:Hp) (E:XK) (M:Fb) (H0:Hp),AJ k (A.ϖ (A7 a (Zg st) s.r.O.o f b))->JB (CV Bi P w K mg base N a (Zg st) f b A outer s H E).nox (ZJ st) (tS K M H0 g)):AY P w K mg base Bi (k+1) f fd c (A6 K (AT c.a N.a g)):=sL F S d λb A outer s H E M H0 i=>(e b A outer s H E M H0 i).h
variable {K:Ap}
@[simp]def i2(g:W'->W'->O D):D->D->O D
  |.int i,.int j=>g i j
  |_,_=>J
def
UO{g:W'->W'->O D}{x y d:D}(h:i2 g x y=Z d):∃i j,x=.u i/\y=.u j/\g i j=Z d:=by
 unfold i2 at h;split at h
 .show#[_,_,rfl,rfl,h]
 .cases h
def
AC.int{N:Fb}{H:Hp}{i:W'}{v:V}(h:AC K N H (.u i) v):v=.u i:=by simpa only[AC,AB]using h
def
AC.str{N:Fb}{H:Hp}{i:Ae}{v:V}(h:AC K N H (.ω i) v):v=.ω i:=by simpa only[AC,AB]using h
def
AC.bl{N:Fb}{H:Hp}{i:q'}{v:V}(h:AC K N H (.bl i) v):v=.bl i:=by simpa only[AC,AB]using h
def
AC.non{N:Fb}{H:Hp}{v:V}(h:AC K N H .Ε v):v=.Ε:=by simpa only[AC,AB]using h
def
AC.ty{N:Fb}{H:Hp}{i:String}{v:V}(h:AC K N H (.ty i) v):v=.ty i:=by simpa only[AC,AB]using h
def
AC.tup{N:Fb}{H:Hp}{v:V}(h:AC K N H (.Q xs) v):∃a vs,v=.C a/\Ck K H a vs/\Ad K N H xs vs:=by simpa only[AC,AB]using h
def
Ga{N:Fb}{H:Hp}{i:W'}:AB K N H (.u i) (.u i):=by erw[AB]
def
FU{N:Fb}{H:Hp}{i:q'}:AB K N H (.bl i) (.bl i):=by erw[AB]
def
Q8{N:Fb}{H:Hp}{i:Ae}:AB K N H (.ω i) (.ω i):=by erw[AB]
def
sM(g:W'->W'->W'):DE K (Ic λi j=>.u (g i j)) (i2 λi j=>Z (.u (g i j))):=by
 intro N H x y c f d Q h a b e q;let(i,j,rfl,rfl,e):=UO e;ext e;show#[i,j,a.u,b.u,q _ H (Ak.χ H) Ga]
def
M3(g:W'->W'->q'):DE K (Ic λi j=>.bl (g i j)) (i2 λi j=>Z (.bl (g i j))):=by
 intro N H x y c f d Q h a b e q;let(i,j,rfl,rfl,e):=UO e;ext e;show#[i,j,a.u,b.u,q _ H (Ak.χ H) FU]
def
Q9{C:W'->W'->V'}[∀i j,Decidable (C i j)](g:W'->W'->W'):DE K (rI C λi j=>.u (g i j)) (i2 λi j=>if C i j then Z (.u (g i j))else J):=by
 intro N H x y h k d Q l b c e q;let(i,j,rfl,rfl,a):=UO e;split at a
 .next f=>ext a;show#[i,j,b.u,c.u,f,q _ H (Ak.χ H) Ga]
 .cases a
instance (i j:W'):Decidable (Of i j):=by unfold Of;show inferInstance
instance (i j:W'):Decidable (Ec i j):=by unfold Ec;show inferInstance
instance (i j:W'):Decidable (LA i j):=by unfold LA;show inferInstance
@[simp]def Kr:D->D->O D:=i2 λi j=>Z (.u (i-j))
@[simp]def ED:D->D->O D:=i2 λi j=>if Ec i j then Z (.u (i*j))else J
@[simp]def Fp:D->D->O D:=i2 λi j=>if Of i j then Z (.u (i/j))else J
@[simp]def ZL:D->D->O D:=i2 λi j=>if 0<j then Z (.u (i%j))else J
@[simp]def Jh:D->D->O D:=i2 λi j=>if LA i j then Z (.u (i^j.ζ))else J
@[simp]def OI:D->D->O D:=i2 λi j=>Z (.bl (decide (i<=j)))
@[simp]def HD:D->D->O D:=i2 λi j=>Z (.bl (decide (j<i)))
@[simp]def L0:D->D->O D:=i2 λi j=>Z (.bl (decide (j<=i)))
variable {M:Fb}{a b:Expr}{f g:AH}
def
sN(c:JE X a (tP K M H0 f))(d:JE X b (tP K M H0 g)):JE X (.BinOp a .Sub b pos) (tD K M H0 (Za Kr f g)):=#[have c:=c.h;let d:=d.h;LU pf (sM _) c d]
def
sO(c:JE X a (tP K M H0 f))(d:JE X b (tP K M H0 g)):JE X (.BinOp a .Mult b pos) (tD K M H0 (Za ED f g)):=#[have c:=c.h;let d:=d.h;LU ph (Q9 _) c d]
def
sP(c:JE X a (tP K M H0 f))(d:JE X b (tP K M H0 g)):JE X (.BinOp a .FloorDiv b pos) (tD K M H0 (Za Fp f g)):=#[have c:=c.h;let d:=d.h;LU pi (Q9 _) c d]
def
sQ(c:JE X a (tP K M H0 f))(d:JE X b (tP K M H0 g)):JE X (.BinOp a .Mod b pos) (tD K M H0 (Za ZL f g)):=#[have c:=c.h;let d:=d.h;LU pj (Q9 _) c d]
def
sR(c:JE X a (tP K M H0 f))(d:JE X b (tP K M H0 g)):JE X (.BinOp a .Pow b pos) (tD K M H0 (Za Jh f g)):=#[have c:=c.h;let d:=d.h;LU pq (Q9 _) c d]
@[simp]def Ks:O D->O D
  |some (.int i)=>Z (.u (-i))
  |_=>J
open J in
def
sS(b:JE X a (tP K M H0 f)):JE X (.UnaryOp .USub a pos) (tD K M H0 λρ=>Ks (f ρ)):=#[have b:=b.h;(pe pu b).ν λl H Q c=>by
 let(ρ,d,R,e,q):=c;try dsimp only at e q
 unfold Ks at e;split at e
 .next i g=>ext e;show#[ρ,.u i,R,g,λv j s k=>#[i,k.u,q _ j s Ga]]
 .cases e]
end
end
section
def cf(K:Ap):R2:=λx y H Q=>∃l b a c,x=.C l/\y=.C b/\BU K H l a/\BU K H b c/\a.a+c.a<=AE/\∀p,H p=J->Q (.C p) (AX H p (.X (a++c)))
def
Ji:B7 X (GS .Add) (cf X.K):=by
 intro i s P H x y v u Q S o p zQ;let(l,b,L,M,rfl,rfl,t,w,z,q):=zQ;ext o;ext p;let(c,r,p1,N):=S.Ϩ t;let(a,j,A,R):=S.Ϩ w;let T:=r.a;let B:=j.a;let((cls,C,data,E),k,G,n,hd):=p1.ύ;let((m,e,data2,f),d,g,n2,h):=A.ύ;subst G hd g h;apply concat_meets #[_,k,rfl] #[_,d,rfl] noFill_list_add seq_list_add PySem.F.slot_list_add PySem.F.entry_list_add (PySem.F.args_list_add_2 _ _) (list_addW l b c.E a.E n n2 C e E f (by rw[B3,B3];lia)) #[k,d,?_];rw[show c.E++a.E=(c++a).E by simp];show#[.C _,_,S.lnew (t':=s.Ζ) (r.Η j) (F4 ▸ W.kdl_size z),rfl,q _ S.Τ]
def cg(K:Ap):R2:=λx y H Q=>∃l b a c,x=.C l/\y=.C b/\Ck K H l a/\Ck K H b c/\a.a+c.a<=AE /\
 (a=[]->Q (.C b) H)/\(c=[]->Q (.C l) H)/\∀p,H p=J->Q (.C p) (AX H p (.Q (a++c)))
def
sT:B7 X (GS .Add) (cg X.K):=by
 intro B s Y' H x y v u Q zA M N zQ;let(l,b,C,E,rfl,rfl,R,T,S,Y,qz,q):=zQ;ext M;ext N;let(c,r,p1,z1):=zA.ϗ R;let(a,G,p2,z2):=zA.ϗ T;let P:=r.a;let j:=G.a;let((cls,m,data,o),i,hc,n,hd):=id p1;let((L,f,data2,g),d,p,n2,t):=id p2;subst hc hd p t;by_cases w:C=[]
 .let k:c.E.Ω=J':=by
   subst w;have:c=[]:=Ra.mp P.Γ;subst this;rfl
  show concat_meets #[_,i,rfl] #[_,d,rfl] noFill_tuple_add seq_tuple_add PySem.F.slot_tuple_add cj (ck _ _) (tuple_addW0 l b c.E a.E n n2 m f o g k) #[i,d,#[.C b,H,zA,rfl,Y w]]
 .let k:¬ c.E.Ω=J':=by
   intro z;have:c=[]:=by exists z
   subst this;show w<|Ra.mp P
  by_cases A:E=[]
  .let h:a.E.Ω=J':=by
    subst A;have:a=[]:=Ra.mp j.Γ;subst this;rfl
   show concat_meets #[_,i,rfl] #[_,d,rfl] noFill_tuple_add seq_tuple_add PySem.F.slot_tuple_add cj (ck _ _) (tuple_addW1 l b c.E a.E n n2 m f o g k h) #[i,d,#[.C l,H,zA,rfl,qz A]]
  .let h:¬ a.E.Ω=J':=by
    intro z;have:a=[]:=by exists z
    subst this;show A<|Ra.mp j
   let e:c.E++a.E=(c++a).E:=by simp
   apply concat_meets #[_,i,rfl] #[_,d,rfl] noFill_tuple_add seq_tuple_add PySem.F.slot_tuple_add cj (ck _ _) (tuple_addW2 l b c.E a.E n n2 m f o g k h (by rw[B3,B3];lia)) #[i,d,?_];rw[e];apply#[.C s.r.O.o,AX H s.r.O.o<|.tup<|C++E,zA.laid (t':=s.toks) (λb u e=>By _ e) (A4 _) ?_,rfl,q _ zA.Τ];show#[F4 ▸ W.kdl_size S,c++a,r.Η G,IsTup.new _ _]
end
@[simp]def Zx:D->D->O D
  |.int i,.int j=>Z (.u (i+j))
  |.str x,.str y=>if x.a+y.a<=AE then Z (.ω (x++y))else J
  |.lst a,.lst b=>if a.a+b.a<=AE then Z (.X (a++b))else J
  |.tup a,.tup b=>if a.a+b.a<=AE then Z (.Q (a++b))else J
  |_,_=>J
def cm(K:Ap):R2:=λx y H Q=>Ic (λi j=>.u (i+j)) x y H Q\/(∃i j,x=.ω i/\y=.ω j/\i.a+j.a<=AE/\Q (.ω (i++j)) H)\/cf K x y H Q\/cg K x y H Q
def
sU:B7 X (GS .Add) (cm X.K):=LB.or<|FJ.or<|Ji.or sT
def
UP{K:Ap}{N:Fb}{H:Hp}{p:Ac}(c:∀a,N a->H a≠J)(b:H p=J)(h:Ad K N H xs vs):AB K N (AX H p (.X vs)) (.X xs) (.C p):=by
 show#[p,vs,rfl,.of (λz=>c p z b) Z5,h.δ<|ZW b]
def
OJ{K:Ap}{N:Fb}{H:Hp}{p:Ac}(a:H p=J)(h:Ad K N H xs vs):AB K N (AX H p (.Q vs)) (.Q xs) (.C p):=by
 show#[p,vs,rfl,Ck.of Z5,h.δ<|ZW a]
def
sV{K:Ap}:DE K (cm K) Zx:=by
 intro N H x y s t d Q u k l e q;rcases s with _|_|_|_|_|_|⟨_,_|_⟩<;>(try ext e;done)<;>rcases t with _|_|_|_|_|_|⟨_,_|_⟩<;>try(ext e;done)
 .cases e;show .U #[_,_,k.u,l.u,q _ H (Ak.χ H) Ga]
 .let(g,e):=ZV e;ext e;show .φ<|.U ⟨_,_,k.ω,l.ω,g,q _ H (Ak.χ H) Q8⟩
 .let(g,e):=ZV e;ext e;let(a,h,o,m,c):=k.Q;let(b,i,r,n,f):=l.Q;apply .φ<|.inr<|.inr ⟨a,b,h,i,o,r,m,n,by rw[<- c.length,<- f.length];show g,λz=>?_,λz=>?_,λp j=>q _ _ (ZW j)<|OJ j<|c.Η f⟩
  .show q _ H (Ak.χ H) #[b,h++i,rfl,z ▸ n,c.Η f]
  .show q _ H (Ak.χ H) #[a,h++i,rfl,by rw[z,C6];show m,c.Η f]
 .let(g,e):=ZV e;ext e;let(a,h,o,m,c):=k;let(b,i,r,n,f):=l;show .φ<|.inr<|.inl ⟨a,b,h,i,o,r,m,n,by rw[<- c.length,<- f.length];show g,λp j=>q _ _ (ZW j)<|UP u j<|c.Η f⟩
def
sW{M:Fb}{a b:Expr}{f g:AH}(c:JE X a (tP X.K M H0 f))(d:JE X b (tP X.K M H0 g)):JE X (.BinOp a .Add b pos) (tD X.K M H0 (Za Zx f g)):=#[have c:=c.h;let d:=d.h;LU sU sV c d]
def sX(K:Ap):V->O W'->O W'->Hp->VK->V':=λx lo c H Q=>∃a b,x=.C a/\Ck K H a b/\(I0 b lo c=b->Q (.C a) H)/\∀p,H p=J->Q (.C p) (AX H p (.Q (I0 b lo c)))
def
Jj:Kf X (sX X.K):=by
 intro h s u H x v w y lo e z Q A k l m n zQ;let(a,d,rfl,p,t,q):=zQ;ext k;let(f,r,i,j):=A.ϗ p;let c:f.E.o=d.a:=B3 ▸ r.a.Γ;apply#["tuple",_,PyProof.Rows.slot_tuple_getitem.S,i.ϟ,HT.getItem_tuple_cut i l m n (λg=>#[.C a,H,A,rfl,t ?_]) (λ_=>?_) (c ▸ j)]
 .rw[c]at g;unfold I0;rw[g.1,g.2,M4,M5,List.take_length]
 .rw[c];apply#[.C s.r.O.o,_,A.laid (t':=s.Ζ) (o:=.Q<|I0 d lo e) (λb ob q=>By _ q) (A4 _) ?_,rfl,q _<|A.ϧ.Τ<|A4 _];show⟨Bu (bo d lo e) j,_,(r.Θ<|HT.sIx d.a 0 lo).ϒ<|HT.sIx d.a d.a e-HT.sIx d.a 0 lo,IsTup.new _ _⟩
@[simp]def Ar:D->D->O D
  |.lst a,.int i=>atI a i
  |.tup a,.int i=>atI a i
  |.str x,.int i=>if x.a<=AE then(atI x.ϱ.J i).j λc=>.ω #[(T' [c])]else J
  |_,_=>J
def
Ad.atI{K:Ap}{N:Fb}{H:Hp}{i:W'}{d:D}(h:Ad K N H xs vs)(e:Internal.atI xs i=Z d):∃v,Internal.atI vs i=Z v/\AB K N H d v:=by
 unfold Internal.atI at e ⊢;rw[<- h.a];cases a:Ey xs.a i with
 |none=>rw[a]at e;cases e
 |some j=>rw[a]at e;show h.ό e
open J in
def
sY{K:Ap}:DE K (bv K) Ar:=by
 intro N H x y m n d Q r b f e q;rcases m with _|_|_|_|_|_|⟨_,_|_⟩<;>(try ext e;done)<;>rcases n with _|_|_|_|_|_|⟨_,_|_⟩<;>try(ext e;done)
 .let(o,e):=ZV e;let(c,p,e):=B2.mp e;ext e;show .φ<|.φ ⟨_,_,c,b.ω,f.u,o,p,q _ H (Ak.χ H) Q8⟩
 .let(a,g,h,i,j):=b.Q;let(v,k,l):=j.atI e;show .φ<|.U ⟨a,g,_,v,h,f.u,i,k,q v H (Ak.χ H) l⟩
 .let(a,g,h,i,j):=b;let(v,k,l):=j.atI e;show .U #[a,g,_,v,h,f.u,i,k,q v H (Ak.χ H) l]
variable {K:Ap}{M:Fb}{a b e:Expr}{f g:AH}
def
sZ(c:JE X a (tP X.K M H0 f))(d:JE X b (tP X.K M H0 g))(e:On b):JE X (.ψ a b pos) (tD X.K M H0 (Za Ar f g)):=#[have c:=c.h;let d:=d.h;bS qk sY c d e]
def tO(K:Ap)(M:Fb)(H0:Hp)(o:VE->O (O W')):TO:=λc H Q=>∃a i,Bw K M H0 a c H/\o a=Z i/\∀b,Ak H b->Q i b
@[simp]def DF:O D->O (O W')
  |some (.int i)=>Z (Z i)
  |_=>J
def
PO.mono{e:O Expr}{t t':TO}(h:PO X e t)(m:∀Y' H Q,t' Y' H Q->t Y' H Q):PO X e t':=by
 intro a s Y' H Q b q;show h a s Y' H Q b<|m Y' H Q q
def
s9 :JO X J (tO K M H0 λ_=>Z J):=#[PO.ν qe λa H Q ⟨b,i,R,e,q⟩=>by(try dsimp only at e q);ext e;show q H<|Ak.χ H]
open J in
def
tf(h:JE X e (tP K M H0 f)):JO X (Z e) (tO K M H0 λρ=>DF (f ρ)):=#[have h:=h.h;PO.ν (qf h) λg H Q a=>by
 let(ρ,i,R,e,q):=a;try dsimp only at e q
 unfold DF at e;split at e
 .next j b=>ext e;show#[ρ,.u j,R,b,λv c s d=>#[j,d.u,q c s]]
 .cases e]
def cutD{a:Type}(xs:U a)(lo b:O W'):U a:=(xs.Θ (HT.sIx xs.a 0 lo)).ϒ (HT.sIx xs.a xs.a b-HT.sIx xs.a 0 lo)
@[simp]def D0(x:D)(lo a:O W'):O D:=match x with
  |.lst b=>Z (.X (cutD b lo a))
  |.tup b=>Z (.Q (cutD b lo a))
  |.str x=>if x.a<=AE then Z (.ω (Txt.slice x lo a))else J
  |_=>J
def
Ad.cut{K:Ap}{N:Fb}{H:Hp}(h:Ad K N H xs vs)(lo a:O W'):Ad K N H (cutD xs lo a) (I0 vs lo a):=by
 unfold cutD I0;rw[h.a];show(h.Θ _).ϒ _
@[simp]def Dw{b:Type}(f:AH)(lo c:VE->O (O W'))(F:D->O W'->O W'->O b):VE->O b:=λa=>(f a).L λx=>(lo a).L λl=>(c a).L λh=>F x l h
def
ti{e:Type}{f:AH}{b:VE->O (O W')}{F:D->O W'->O W'->O e}{d:e}(h:Dw f lo b F ρ=Z d):∃x l u,f ρ=Z x/\lo ρ=Z l/\b ρ=Z u/\F x l u=Z d:=by
 unfold Dw at h;cases a:f ρ with|none=>rw[a]at h;cases h|some x=>
  cases c:lo ρ with|none=>rw[a,c]at h;cases h|some l=>
   cases g:b ρ with
   |none=>rw[a,c,g]at h;cases h
   |some u=>rw[a,c,g]at h;show#[x,l,u,rfl,rfl,rfl,h]
def
tm{A B:O Expr}{C:VE->O (O W')}(m:JE X e (tP X.K M H0 f))(n:JO X A (tO X.K M H0 lo))(o:JO X B (tO X.K M H0 C)):JE X (.ψ e (.Slice A B J p2) pos) (tD X.K M H0 (Dw f lo C D0)):=#[have m:=m.h;let n:=n.h;let o:=o.h;(qh (Jb.or<|Jj.or qQ) m n o).mono λP H Q G=>by
 let(r,d,R,ex,q):=G;let(x,l,u,W,F,L,b):=ti ex;apply#[r,x,R,W,λv T t c=>#[r,l,R.st t,F,λS w=>#[r,u,(R.st t).st w,L,λY E=>?_]]];let c:=(c.δ w).δ E;let s:=(t.I w).I E;unfold D0 at b;split at b
 .cases b;let(a,i,y,j,k):=c;show .U #[a,i,y,j,λp g=>q _ _ (s.I<|ZW g)<|UP (R.st s).nh g<|k.cut l u]
 .cases b;let(a,i,y,j,k):=c.Q;show .φ<|.inl ⟨a,i,y,j,λz=>q _ _ s ⟨a,i,rfl,j,z ▸ k.cut l u⟩,λp g=>q _ _ (s.I<|ZW g)<|OJ g<|k.cut l u⟩
 .let(N,b):=ZV b;ext b;show .φ<|.φ ⟨_,c.ω,N,q _ _ s Q8⟩
 .cases b]
end
mutual
def Bc:D->D->q'
 |.non,.non=>J'
 |.bl a,.bl b=>a==b
 |.bl a,.int b=>(if a then 1 else 0)==b
 |.int a,.bl b=>a==(if b then 1 else 0)
 |.int a,.int b=>a==b
 |.str a,.str b=>a==b
 |.tup c,.tup d=>CY c d
 |.lst c,.lst d=>CY c d
 |_,_=>O'
def CY:U D->U D->q'
 |[],[]=>J'
 |x::a,y::b=>Bc x y&&CY a b
 |_,_=>O'
end
@[simp]def AL:I->D->q'
  |_,.non=>J'
  |_,.bl _=>J'
  |_,.int _=>J'
  |_,.str _=>J'
  |n+1,.tup a=>a.ϝ (AL n)
  |n+1,.lst a=>a.ϝ (AL n)
  |_,_=>O'
mutual
theorem OL:∀(n:I)(d:D),AL n d=J'->Bc d d=J'
 |_,.non,_=>id rfl
 |_,.bl _,_=>beq_self_eq_true _
 |_,.int _,_=>beq_self_eq_true _
 |_,.str _,_=>beq_self_eq_true _
 |0,.ty _,h=>by simp[AL]at h
 |_+1,.ty _,h=>by simp[AL]at h
 |0,.tup a,h=>by simp[AL]at h
 |0,.lst a _,h=>by simp[AL]at h
 |n+1,.tup a,h=>ON n a h
 |n+1,.lst a .l,h=>ON n a h
 |n+1,.lst a .d,h=>by simp[AL]at h
 |n+1,.lst a (.i _ _),h=>by simp[AL]at h
theorem ON:∀(n:I)(xs:U D),xs.ϝ (AL n)=J'->CY xs xs=J'
 |_,[],_=>id rfl
 |n,x::xs,h=>by
  erw[G0,C9]at h
  show(C9 _ _).Ϛ #[OL n x h.1,ON n xs h.2]
end
def
M6:∀{xs ys:U D},xs.a≠ys.a->CY xs ys=O'
 |[],[],h=>absurd rfl h
 |[],_::_,_=>id rfl
 |_::_,[],_=>id rfl
 |x::xs,y::ys,h=>by
  change (_&&_)=_;rw[M6 (xs:=xs) (ys:=ys) (by exists h),Bool.and_false]
def
UQ:∀{xs ys:U D},xs.a=ys.a->CY xs ys=(Bl xs.a).ϝ λj=>Bc (xs.β j .Ε) (ys.β j .Ε)
 |[],[],_=>by simp[CY]
 |[],_::_,h=>by simp at h
 |_::_,[],h=>by simp at h
 |x::xs,y::ys,h=>by
  simp only[CY,Cr,List.range_succ_eq_map,G0,List.getD_cons_zero,M7,UQ (xs:=xs) (ys:=ys) (by exists h)];rfl
variable {H:Hp}{s:Ab}
def
Inv.apart(k:Inv X ß Y' H s){xs:U V}(h:BU X.K H a xs)(h':Ck X.K H a ys):False:=by
 let(d,r,(o,n,e,c,_),_):=k.Ϩ h;let(b,f,(g,i,j,_),_):=k.ϗ h';simp_all
def
Inv.apartDL(l:Inv X ß Y' H s){d:U KT}{xs:U V}(h:Rd H a (.dct d xs))(h':BU X.K H a ys):False:=by
 let(_,_,_,o,_,_,e,c,_):=h.ok l.ϧ;let(b,f,(g,i,j,k,_),_):=l.Ϩ h';simp_all
def
Inv.apartDT(k:Inv X ß Y' H s){d:U KT}{xs:U V}(h:Rd H a (.dct d xs))(h':Ck X.K H a ys):False:=by
 let(_,_,_,o,_,_,e,c,_):=h.ok k.ϧ;let(b,f,(g,i,j,_),_):=k.ϗ h';simp_all
def
Inv.apartIL(k:Inv X ß Y' H s){b:Ac}{fs:U (Ae×V)}(h:Rd H a (.ins C b fs))(h':BU X.K H a ys):False:=by
 let(_,_,_,e,_):=(show A9 X.Y X.w H s.r a (.ins C b fs)from h.ok k.ϧ);let(c,d,(f,g,i,j,_),_):=k.Ϩ h';simp_all
def
Inv.apartIT(j:Inv X ß Y' H s){b:Ac}{fs:U (Ae×V)}(h:Rd H a (.ins C b fs))(h':Ck X.K H a ys):False:=by
 let(_,_,_,e,_):=(show A9 X.Y X.w H s.r a (.ins C b fs)from h.ok j.ϧ);let(c,d,(f,g,i,_),_):=j.ϗ h';simp_all
def L1:D->O V
 |.non=>Z .Ε
 |.bl b=>Z (.bl b)
 |.int i=>Z (.u i)
 |.str x=>Z (.ω x)
 |.ty n=>Z (.ty n)
 |_=>J
def
tq{d d':D}{w:V}(h:L1 d=Z w)(h':L1 d'=Z w):d=d':=by
 ext d<;>ext h<;>ext d'<;>ext h'<;>rfl
def
AC.av{K:Ap}{N:Fb}{d:D}{v:V}(h:AC K N H d v):match L1 d with
  |some w=>v=w
  |none=>∃a,v=.C a:=by
 cases d with
 |lst b c=>ext c<;>(let(a,_,e,_):=h;show#[a,e])
 |tup b=>let(a,_,e,_):=h.Q;show#[a,e]
 |non=>show h.Ε
 |bl _=>show h.bl
 |int _=>show h.u
 |str _=>show h.ω
 |ty _=>show h.ty
def
AC.at{K:Ap}{N c:Fb}{d d':D}{v w:V}(e:L1 d=Z w)(h:AC K N H d v)(h':AC K c H d' v):d=d':=by
 let h:=h.av;let h':=h'.av;rw[e]at h;subst h;cases b:L1 d' with
 |some u=>rw[b]at h';subst h';show tq e b
 |none=>rw[b]at h';let(a,z):=h';subst z;ext d<;>ext e
def
AC.at'{K:Ap}{N:Fb}{d':D}(h':AC K N H d' (.C a)):L1 d'=J:=by
 let h:=h'.av;cases e:L1 d' with
 |none=>rfl
 |some w=>rw[e]at h;subst h;ext d'<;>ext e
mutual
/-- what an address denotes is one thing -/
theorem cq(w:Inv X ß Y' H s){N u:Fb}:∀(n:I)(d d':D)(v:V),AL n d=J'->AC X.K N H d v->AC X.K u H d' v->d=d'
 |_,.non,d',v,_,h,c=>AC.at rfl h c
 |_,.bl _,d',v,_,h,c=>AC.at rfl h c
 |_,.int _,d',v,_,h,c=>AC.at rfl h c
 |_,.str _,d',v,_,h,c=>AC.at rfl h c
 |_,.ty _,d',v,_,h,c=>AC.at rfl h c
 |0,.tup g,d',v,o,h,c=>by simp[AL]at o
 |0,.lst g _,d',v,o,h,c=>by simp[AL]at o
 |n+1,.tup g,d',v,o,h,c=>by
  let(a,p,e,q,r):=h.Q
  subst e
  let z:=c.at'
  cases d' with
  |tup m=>
   let(b,j,e,f,k):=c.Q
   ext e
   have:=w.tuple_inj q f
   subst this
   rw[OO w n g m p o r k]
  |lst _ t=>
   cases t with
   |l=>let(b,j,e,f,_):=c;ext e;show(w.apart f q).ι
   |d=>let(b,j,e,f,_):=c;ext e;show(w.apartDT f q).ι
   |i=>let(b,j,e,f,_):=c;ext e;show(w.apartIT f q).ι
  |_=>cases z
 |n+1,.lst g .d,d',v,o,h,c=>by simp[AL]at o
 |n+1,.lst g (.i _ _),d',v,o,h,c=>by simp[AL]at o
 |n+1,.lst g .l,d',v,o,h,c=>by
  let(a,p,e,q,r):=h
  subst e
  let z:=c.at'
  cases d' with
  |tup m=>let(b,j,e,f,k):=c.Q;ext e;show(w.apart q f).ι
  |lst m t=>
   cases t with
   |d=>let(b,j,e,f,k):=c;ext e;show(w.apartDL f q).ι
   |i=>let(b,j,e,f,k):=c;ext e;show(w.apartIL f q).ι
   |l=>
    let(b,j,e,f,k):=c
    ext e
    have:=w.list_inj q f
    subst this
    rw[OO w n g m p o r k]
  |_=>ext z
theorem OO(i:Inv X ß Y' H s){N b:Fb}:∀(n:I)(xs ys:U D)(vs:U V),xs.ϝ (AL n)=J'->Ad X.K N H xs vs->Ad X.K b H ys vs->xs=ys
 |_,[],ys,vs,_,h,a=>by
  erw[Ad]at h;subst h
  cases ys with
  |nil=>rfl
  |cons y ys=>erw[Ad]at a;let(_,_,e,_):=a;cases e
 |n,x::xs,ys,vs,o,h,a=>by
  erw[G0,C9]at o
  erw[Ad]at h
  let(v,r,e,q,t):=h
  subst e
  cases ys with
  |nil=>erw[Ad]at a;cases a
  |cons y ys=>
   erw[Ad]at a
   let(f,g,e,c,d):=a
   ext e
   rw[cq i n x y v o.1 q.p c.p,OO i n xs ys r o.2 t d]
end
open SeqAt
def
Ep{a:Type}{xs:U a}{d e:a}(h:xs[j]?=Z e):xs.β j d=e:=by simp[List.getD_eq_getElem?_getD,h]
def
cr{a:U Aa}(b:j<a.E.o)(e:a[j]?=Z u):a.E[j]=u:=by
 let(_,e):=Dk.mp e;exists e
def Rb(A:Ag)(s:Ab)(u v:Aa)(b:q'):V':=RcAt A s u v b/\EqAt A s u v b/\RcNeAt A s u v (!b)
def
OP(A:Ag):A.in1.κ=A.κ+1:=rfl
def
M8{N:Fb}{x:D}{v:V}(h:AC X.K N H x v)(r:RelV v u)(o:AL 0 x=J'):(x=.Ε/\u=.Β)\/(∃b,x=.bl b/\u=.Ϥ b)\/(∃i t,x=.u i/\u=.u i t)\/∃c t,x=.ω c/\u=.ω c t:=by
 cases x with
 |non=>cases h.Ε;show .U #[rfl,r]
 |bl b=>cases h.bl;show .φ<|.U ⟨b,rfl,r⟩
 |int i=>cases h.u;let(t,r):=r;show .φ<|.φ<|.U ⟨i,t,rfl,r⟩
 |str c=>cases h.ω;let(t,r):=r;show .φ<|.φ<|.φ ⟨c,t,rfl,r⟩
 |_=>simp[AL]at o
def
cu(q:Inv X ß Y' H s){N:Fb}(A:Ag)(x y:D)(a d:V)(u v:Aa)(m:A.κ+0<Aw)(e:AL 0 x=J')(f:AL 0 y=J')(g:AC X.K N H x a)(h:AC X.K N H y d)(j:RelV a u)(k:RelV d v):Rb A s u v (Bc x y):=by
 rcases M8 g j e with⟨rfl,rfl⟩|⟨b,rfl,rfl⟩|⟨i,t,rfl,rfl⟩|⟨c,t,rfl,rfl⟩<;>rcases M8 h k f with⟨rfl,rfl⟩|⟨n,rfl,rfl⟩|⟨o,l,rfl,rfl⟩|⟨p,l,rfl,rfl⟩
 .show#[.none_none,.δ _,.none_none]
 .show#[.none_bool _,.none_bool _,.none_bool _]
 .show#[.none_int _ _,.none_int _ _,.none_int _ _]
 .show#[.none_str _ _,.none_str _ _,.none_str _ _]
 .show#[.bool_none _,.bool_none _,.bool_none _]
 .show#[.bool_bool _ _,.bool_bool _ _,.bool_bool _ _]
 .show#[.bool_int _ _ _,.bool_int _ _ _,.bool_int _ _ _]
 .show#[.bool_str _ _ _,.bool_str _ _ _,.bool_str _ _ _]
 .show#[.int_none _ _,.int_none _ _,.int_none _ _]
 .show#[.int_bool _ _ _,.int_bool _ _ _,.int_bool _ _ _]
 .show#[.int_int _ _ _ _,.int_int _ _ _ _,.int_int _ _ _ _]
 .show#[.int_str _ _ _ _,.int_str _ _ _ _,.int_str _ _ _ _]
 .show#[.str_none _ _,.str_none _ _,.str_none _ _]
 .show#[.str_bool _ _ _,.str_bool _ _ _,.str_bool _ _ _]
 .show#[.str_int _ _ _ _,.str_int _ _ _ _,.str_int _ _ _ _]
 .show#[.str_str _ _ _ _,.str_str _ _ _ _,.str_str _ _ _ _]
def
OQ(S:Inv X ß Y' H s){N:Fb}:∀(n:I)(A:Ag)(x y:D)(vx vy:V)(u v:Aa),A.κ+n<Aw->AL n x=J'->AL n y=J'->AC X.K N H x vx->AC X.K N H y vy->RelV vx u->RelV vy v->Rb A s u v (Bc x y):=by
 intro n;induction n with|zero=>show cu S|succ n ih=>
  intro A x y vx vy u v hu ox oy hx hy rx ry;let h:A.κ<Aw:=G4 hu;let P:∀{g k:U D} {B ws:U V} {m F:U Aa},g.ϝ (AL n)=J'->k.ϝ (AL n)=J'->Ad X.K N H g B->Ad X.K N H k ws->Aq B m->Aq ws F->m.a=g.a/\F.a=k.a/\∀j (h1:j<m.E.o) (h2:j<F.E.o),EqAt A.in1 s m.E[j] F.E[j] (Bc (g.β j .Ε)<|k.getD j .non):=λox oy Q T Y r2=>by
   let l1:=Q.a.I Y.a;let l2:=T.a.I r2.a;apply#[l1.Γ,l2.Γ,λj h1 h2=>?_];let C:=h1;let G:=h2;rw[B3]at C G;rw[<- l1]at C;rw[<- l2]at G;let(w1,hw1,dw1):=Q.ό<|CG C;let(w2,hw2,dw2):=T.ό<|CG G;let(u1,hu1,ru1):=Y.ό hw1;let(u2,hu2,ru2):=r2.ό hw2;rw[cr h1 hu1,cr h2 hu2,Ep<|CG C,Ep<|CG G];show(ih A.in1 _ _ _ _ _ _ (by rw[OP];lia) (Dp.mp ox _<|HE C) (Dp.mp oy _<|HE G) dw1.p dw2.p ru1 ru2).2.1
  let con:∀{x:D} {v:V} {u:Aa},AL (n+1) x=J'->AC X.K N H x v->RelV v u->AL 0 x=J'\/(∃g a B m,x=.Q g/\u=.C a/\g.ϝ (AL n)=J'/\Ck X.K H a B/\Ad X.K N H g B/\Aq B m/\s.r.IsTuple a m.E)\/∃g a B m,x=.X g/\u=.C a/\g.ϝ (AL n)=J'/\BU X.K H a B/\Ad X.K N H g B/\Aq B m/\s.r.IsList a m.E:=λ{x v u} o h r=>by
   cases x with
   |tup g=>let(a,B,rfl,q,d):=h.Q;let(m,z,p,_):=S.ϗ q;show .φ<|.U ⟨g,a,B,m,rfl,r,o,q,d,z,p⟩
   |lst g f=>
    cases f with
    |l=>let(a,B,rfl,q,d):=h;let(m,z,p,_):=S.Ϩ q;show .φ<|.φ ⟨g,a,B,m,rfl,r,o,q,d,z,p.ύ⟩
    |_=>simp[AL]at o
   |ty _=>simp[AL]at o
   |_=>show .U rfl
  rcases con ox hx rx with L|⟨g,a1,B,m,rfl,rfl,L,q1,Q,Y,p1⟩|⟨g,a1,B,m,rfl,rfl,L,q1,Q,Y,p1⟩<;>rcases con oy hy ry with M|⟨k,a2,ws,F,rfl,rfl,M,q2,T,r2,w⟩|⟨k,a2,ws,F,rfl,rfl,M,q2,T,r2,w⟩
  .show cu S A x y vx vy u v h L M hx hy rx ry
  .rcases M8 hx rx L with⟨rfl,rfl⟩|⟨b,rfl,rfl⟩|⟨i,t,rfl,rfl⟩|⟨c,t,rfl,rfl⟩<;>change RcAt _ _ _ _ O'/\EqAt _ _ _ _ O'/\RcNeAt _ _ _ _ J'<;>apply⟨?_,?_,?_⟩<;>with_reducible first|show .none_tuple w h|show .bool_tuple _ w h|show .int_tuple _ _ w h|show .str_tuple _ _ w h
  .rcases M8 hx rx L with⟨rfl,rfl⟩|⟨b,rfl,rfl⟩|⟨i,t,rfl,rfl⟩|⟨c,t,rfl,rfl⟩<;>change RcAt _ _ _ _ O'/\EqAt _ _ _ _ O'/\RcNeAt _ _ _ _ J'<;>apply⟨?_,?_,?_⟩<;>with_reducible first|show .none_list w h|show .bool_list _ w h|show .int_list _ _ w h|show .str_list _ _ w h
  .rcases M8 hy ry M with⟨rfl,rfl⟩|⟨b,rfl,rfl⟩|⟨i,t,rfl,rfl⟩|⟨c,t,rfl,rfl⟩<;>change RcAt _ _ _ _ O'/\EqAt _ _ _ _ O'/\RcNeAt _ _ _ _ J'<;>apply⟨?_,?_,?_⟩<;>with_reducible first|show .tuple_none p1 h|show .tuple_bool _ p1 h|show .tuple_int _ _ p1 h|show .tuple_str _ _ p1 h
  .let(l1,l2,E):=P L M Q T Y r2;let k1:=RcAt.tuples (e:=λj=>Bc (g.β j .Ε)<|k.getD j .non) p1 w h E;let k2:=RcNeAt.tuples (e:=λj=>Bc (g.β j .Ε)<|k.getD j .non) p1 w h E;let e:((Bl<|min m.toArray.size F.toArray.size).all (λj=>Bc (g.β j .Ε)<|k.β j .Ε)&&m.E.o==F.E.o)=CY g k:=by
    rw[B3,B3,l1,l2];by_cases R:g.a=k.a
    .rw[UQ R,R,Nat.min_self];simp
    .rw[M6 R,show(g.a==k.a)=O' by simp;show W.neN R,Bool.and_false]
   rw[e]at k1 k2;change Rb _ _ _ _<|CY g k;apply⟨k1,?_,k2⟩;by_cases ea:a1=a2
   .subst ea;cases S.tuple_inj q1 q2;rw[OO S n g k _ L Q T,ON n k M];show .δ _
   .show .of_refs ea k1
  .change RcAt _ _ _ _ O'/\EqAt _ _ _ _ O'/\RcNeAt _ _ _ _ J';apply#[?_,?_,?_]<;>show .tuple_list p1 w h
  .rcases M8 hy ry M with⟨rfl,rfl⟩|⟨b,rfl,rfl⟩|⟨i,t,rfl,rfl⟩|⟨c,t,rfl,rfl⟩<;>change RcAt _ _ _ _ O'/\EqAt _ _ _ _ O'/\RcNeAt _ _ _ _ J'<;>apply⟨?_,?_,?_⟩<;>with_reducible first|show .list_none p1 h|show .list_bool _ p1 h|show .list_int _ _ p1 h|show .list_str _ _ p1 h
  .change RcAt _ _ _ _ O'/\EqAt _ _ _ _ O'/\RcNeAt _ _ _ _ J';apply#[?_,?_,?_]<;>show .list_tuple p1 w h
  .let(l1,l2,E):=P L M Q T Y r2;change Rb _ _ _ _<|CY g k;let rc:RcAt A s (.C a1) (.C a2) (CY g k)/\RcNeAt A s (.C a1) (.C a2) (!CY g k):=by
    by_cases R:g.a=k.a
    .let hs:m.E.o=F.E.o:=by rw[B3,B3,l1,l2,R]
     let k1:=RcAt.lists (e:=λj=>Bc (g.β j .Ε)<|k.getD j .non) p1 w hs h E;let k2:=RcNeAt.lists (e:=λj=>Bc (g.β j .Ε)<|k.β j .Ε) p1 w hs h E;rw[B3,l1,<- UQ R]at k1 k2;show⟨k1,k2⟩
    .rw[M6 R];let hne:(m.E.o != F.E.o)=J':=by rw[B3,B3];simp;lia
     show#[.lists_lengths p1 w hne h,.lists_lengths p1 w hne h]
   apply#[rc.1,?_,rc.2];by_cases ea:a1=a2
   .subst ea;cases S.list_inj q1 q2;rw[OO S n g k _ L Q T,ON n k M];show .δ _
   .show .of_refs ea rc.1
end
def ZS:I:=12
@[simp]def Cb(x y:D):O D:=if AL ZS x&&AL ZS y then Z (.bl (Bc x y))else J
@[simp]def Cc(x y:D):O D:=if AL ZS x&&AL ZS y then Z (.bl (!Bc x y))else J
def Re(K:Ap)(neg:q'):R2:=λx y H Q=>∃N a b,AC K N H a x/\AC K N H b y/\AL ZS a=J'/\AL ZS b=J'/\Q (.bl (if neg then !Bc a b else Bc a b)) H
variable {K:Ap}{M:Fb}{a b:Expr}{f g:AH}
def
cw(j:X.A.κ+64<Aw):B7 X (Du .Eq) (Re X.K O'):=by
 intro a s k H x y v u Q l b c zQ;let(N,d,e,f,g,h,i,q):=zQ;show(OQ l ZS X.A d e x y v u (by unfold ZS;lia) h i f g b c).1 X.Y X.w X.xe _ #[.bl _,H,l,rfl,q]
def
cy(j:X.A.κ+64<Aw):B7 X (Du .NotEq) (Re X.K J'):=by
 intro a s k H x y v u Q l b c zQ;let(N,d,e,f,g,h,i,q):=zQ;show(OQ l ZS X.A d e x y v u (by unfold ZS;lia) h i f g b c).2.2 X.Y X.w X.xe _ #[.bl _,H,l,rfl,q]
def
cz:DE K (Re K O') Cb:=by
 intro N H x y b c d Q h f g e q;let(a,e):=ZV e;rw[C9]at a;ext e;show#[N,b,c,f,g,a.1,a.2,q _ H (Ak.χ H) FU]
def
cA:DE K (Re K J') Cc:=by
 intro N H x y b c d Q h f g e q;let(a,e):=ZV e;rw[C9]at a;ext e;show#[N,b,c,f,g,a.1,a.2,q _ H (Ak.χ H) FU]
def G5(x:D)(ys:U D):q':=ys.any λy=>Bc y x
@[simp]def Db(neg:q')(x y:D):O D:=match y with
  |.lst a=>if AL ZS x&&a.ϝ (AL ZS)then Z (.bl (if neg then !G5 x a else G5 x a))else J
  |.tup a=>if AL ZS x&&a.ϝ (AL ZS)then Z (.bl (if neg then !G5 x a else G5 x a))else J
  |.str z=>match x with
   |.str w=>Z (.bl (if neg then !(!(Og z w 0 z.a 1).Ω)else !(Og z w 0 z.a 1).Ω))
   |_=>J
  |_=>J
def cB(K:Ap)(neg:q'):R2:=λx y H Q=>∃N a b c p,AC K N H a x/\y=.C p/\(BU K H p c\/Ck K H p c)/\Ad K N H b c/\AL ZS a=J'/\b.ϝ (AL ZS)=J'/\Q (.bl (if neg then !G5 a b else G5 a b)) H
open Classical in
def Gy(K:Ap)(N:Fb)(H:Hp)(x:D)(u:Aa):q':=decide (∃d w,AC K N H d w/\RelV w u/\Bc d x=J')
def
UR{a:A1}{H:Hp}{s:Ab}(j:Inv X a Y' H s){N:Fb}{x d:D}{w:V}(hd:AC X.K N H d w)(r:RelV w u){n:I}(c:AL n d=J'):Gy X.K N H x u=Bc d x:=by
 classical
 cases e:Bc d x with
 |true=>show @decide_eq_true _ (Q5 _) #[d,w,hd,r,e]
 |false=>
  apply @decide_eq_false _ (Q5 _) ?_
  intro zQ;let(f,h,b,g,i):=zQ
  have:=g.inj r
  subst this
  have:=cq j n d f _ c hd b
  simp_all
def
US{a:A1}{Y':St}{H:Hp}{s:Ab}(f:Inv X a Y' H s){N:Fb}{x:D}:∀{ys:U D}{vs:U V}{us:U Aa},Ad X.K N H ys vs->Aq vs us->ys.ϝ (AL ZS)=J'->us.any (Gy X.K N H x)=G5 x ys
 |[],_,_,h,r,_=>by erw[Ad]at h;subst h;ext r;rfl
 |y::ys,_,_,h,r,o=>by
  erw[G0,C9]at o;let(v,t,rfl,b,c):=h;cases r with
  |cons d e=>
   rw[List.any_cons,UR f b.p d o.1,US f c e o.2];rfl
def
UT{a:A1}{H:Hp}{s:Ab}(z:Inv X a Y' H s){N:Fb}{A:Ag}{x:D}{c:V}{v:Aa}(l:A.κ+ZS<Aw)(m:AL ZS x=J')(n:AC X.K N H x c)(o:RelV c v){ys:U D}{us:U Aa}(h:Ad X.K N H ys vs)(r:Aq vs us)(d:ys.ϝ (AL ZS)=J'):∀u∈us,SeqAt.EqAt A s u v (Gy X.K N H x u):=by
 intro u b;let(j,q):=List.getElem?_of_mem b;let t:=r.a;let e:=CG (show j<vs.a by grind);let(w,f,g):=r.ό e;rw[q]at f;ext f;let(y,i,k):=h.get' e;rw[UR z k.p g<|Dp.mp d y<|Ka i];show(OQ z ZS A y x _ _ _ _ l (Dp.mp d y<|Ka i) m k.p n g o).2.1
def
UU(b:q')(t:X.A.κ+64<Aw):B7 X (Du (bif b then .NotIn else .In)) (cB X.K b):=by
 intro j s z H x y v u Q E k n zQ;let(N,c,B,C,p,l,rfl,d,hd,m,h,q):=zQ;ext n;let e:X.A.in1.κ+ZS<Aw:=by rw[OP];unfold ZS;lia
 rcases d with d|d
 .let(a,r,g,o):=E.Ϩ d;let f:∀w∈a.E,_:=λw i=>UT E e m l k hd r h w (by exists i);ext b;all_goals
   first|apply SeqAt.in_listAt (Gy X.K N H c) g.ύ f ⟨.bl _,H,E,rfl,?_⟩|apply SeqAt.notIn_listAt (Gy X.K N H c) g.ύ f ⟨.bl _,H,E,rfl,?_⟩
   rw[show a.E.any (Gy X.K N H c)=a.any (Gy X.K N H c) by simp,US E hd r h];show q
 .let(a,r,g,o):=E.ϗ d;let f:∀w∈a.E,_:=λw i=>UT E e m l k hd r h w (by exists i);ext b;all_goals
   first|apply SeqAt.in_tupleAt (Gy X.K N H c) g f ⟨.bl _,H,E,rfl,?_⟩|apply SeqAt.notIn_tupleAt (Gy X.K N H c) g f ⟨.bl _,H,E,rfl,?_⟩
   rw[show a.E.any (Gy X.K N H c)=a.any (Gy X.K N H c) by simp,US E hd r h];show q
def
UV(b:q'):DE K (λx y H Q=>cB K b x y H Q\/∃i j,x=.ω i/\y=.ω j/\Q (.bl (if b then !(!(Og j i 0 j.a 1).Ω)else !(Og j i 0 j.a 1).Ω)) H) (Db b):=by
 intro N H x y n o d Q p f g e q;unfold Db at e;split at e
 .let(c,e):=ZV e;rw[C9]at c;ext e;let(a,h,k,l,m):=g;show .U #[N,n,_,h,a,f,k,.U l,m,c.1,c.2,q _ H (Ak.χ H) FU]
 .let(c,e):=ZV e;rw[C9]at c;ext e;let(a,h,k,l,m):=g.Q;show .U #[N,n,_,h,a,f,k,.φ l,m,c.1,c.2,q _ H (Ak.χ H) FU]
 .split at e
  .cases e;show .φ #[_,_,f.ω,g.ω,q _ H (Ak.χ H) FU]
  .cases e
 .cases e
@[simp]def Gb(lt:D->D->O q'):U D->U D->O q'
  |[],[]=>Z O'
  |[],_::_=>Z J'
  |_::_,[]=>Z O'
  |x::a,y::b=>if AL ZS x&&AL ZS y then(if Bc x y then Gb lt a b else lt x y)else J
@[simp]def ltN:I->D->D->O q'
  |_,.int i,.int j=>Z (decide (i<j))
  |_,.str a,.str b=>Z (decide (a.ϱ.J<b.ϱ.J))
  |n+1,.tup c,.tup d=>Gb (ltN n) c d
  |n+1,.lst c .l,.lst d .l=>Gb (ltN n) c d
  |_,_,_=>J
@[simp]def HF(x y:D):O D:=(ltN 6 x y).j D.bl
def cC(K:Ap):R2:=λx y H Q=>∃N a c b,AC K N H a x/\AC K N H c y/\ltN 6 a c=Z b/\Q (.bl b) H
abbrev cD(X:Cx)(N:Fb)(H:Hp)(s:Ab)(n:I):V':=∀(A:Ag)(x y:D)(a c:V)(u v:Aa)(b:q'),A.κ+n+ZS<Aw->ltN n x y=Z b->AC X.K N H x a->AC X.K N H y c->RelV a u->RelV c v ->
  ∀(prog:AN) (d:Ai) (E Q:AV),Q (.Ϥ b) s->wpAny (Af prog d) A (richCompare .Lt u v) Q E s
def
cE{i:A1}{H:Hp}{s:Ab}(S:Inv X i Y' H s){N:Fb}(n:I)(M:cD X N H s n)(A:Ag)(Y:A.κ+n+1+ZS<Aw){b:q'}:∀(xs ys:U D)(a c:U V)(d f:U Aa),Gb (ltN n) xs ys=Z b->Ad X.K N H xs a->Ad X.K N H ys c->Aq a d->Aq c f->F8 A.in1 s d f b:=by
 intro xs;induction xs with
 |nil=>
  intro ys a c d f h j g v k;erw[Ad]at j;subst j;ext v;cases ys with
  |nil=>erw[Ad]at g;subst g;ext k;ext h;show .nn
  |cons y ys=>erw[Ad]at g;let(w,t,e,_,_):=g;subst e;ext k;ext h;show .nc
 |cons x xs z=>
  intro ys a c d f h j g v k;erw[Ad]at j;let(w1,t1,P,l,B):=j;subst P;cases v with
  |cons m C=>
   cases ys with|nil=>erw[Ad]at g;subst g;ext k;ext h;show .cn|cons y ys=>
    erw[Ad]at g;let(w2,t2,T,o,G):=g;subst T;cases k with
    |cons r F=>
     let(L,h):=ZV h;rw[C9]at L;let u:=(OQ S ZS A.in1 x y _ _ _ _ (by rw[OP];lia) L.1 L.2 l.p o.p m r).2.1;split at h
     .next e=>rw[e]at u;show .eq u<|z ys _ _ _ _ h B G C F
     .next e=>
      rw[Bool.not_eq_true]at e;rw[e]at u;show .ne u λprog R E Q q=>M A.in1 x y _ _ _ _ b (by rw[OP];lia) h l.p o.p m r prog R E Q q
open J in
def
UW{g:A1}{H:Hp}{s:Ab}(R:Inv X g Y' H s){N:Fb}(n:I):cD X N H s n:=by
 induction n with
 |zero=>
  intro A x y vx vy u v b hu h e f a c prog i E Q q;unfold ltN at h;split at h
  .cases h;rw[e.u]at a;rw[f.u]at c;let(t,rfl):=a;let(l,rfl):=c;show HT.rcLt_int A s _ _ _ _ prog i E Q q
  .cases h;rw[e.ω]at a;rw[f.ω]at c;let(t,rfl):=a;let(l,rfl):=c;show(PyProof.Rows.lt_str q:wpAny (Af prog i) A (Du .Lt _ _) Q E s)
  .next o=>ext o
  .next o=>ext o
  .cases h
 |succ n ih=>
  intro A x y vx vy u v b hu h e f a c prog i E Q q;let d:=cE (N:=N) R n ih A ∅ (b:=b);unfold ltN at h;split at h
  .cases h;rw[e.u]at a;rw[f.u]at c;let(t,rfl):=a;let(l,rfl):=c;show HT.rcLt_int A s _ _ _ _ prog i E Q q
  .cases h;rw[e.ω]at a;rw[f.ω]at c;let(t,rfl):=a;let(l,rfl):=c;show(PyProof.Rows.lt_str q:wpAny (Af prog i) A (Du .Lt _ _) Q E s)
  .next m p r w=>
   ext w;let(a1,z,B,C,G):=e.Q;let(a2,F,L,M,K):=f.Q;subst B L;ext a;ext c;let(j,T,p1,_):=R.ϗ C;let(k,P,p2,_):=R.ϗ M;show qY p1 p2 (by exists d p r _ _ _ _ h G K T P) ∅ q
  .next m p r w=>
   ext w;let(a1,z,B,C,G):=e;let(a2,F,L,M,K):=f;subst B L;ext a;ext c;let(j,T,((cls,dd,data,sl),n1,Y,hc1,hdd1,hd1),_):=R.Ϩ C;let(k,P,((cls2,dd2,data2,sl2),n2,ho2,hc2,hdd2,hd2),_):=R.Ϩ M;subst hc1 hd1 hc2 hd2;show qZ Y ho2 (by exists d p r _ _ _ _ h G K T P) ∅ q
  .cases h
def
cF(j:X.A.κ+64<Aw):B7 X (Du .Lt) (cC X.K):=by
 intro a s k H x y v u Q l c d zQ;let(N,e,f,b,g,h,i,q):=zQ;show UW l 6 X.A e f x y v u b (by unfold ZS;lia) i g h c d X.Y X.w X.xe _ #[.bl b,H,l,rfl,q]
def
cG:DE K (cC K) HF:=by
 intro N H x y a c d Q i f g e q;let(b,h,e):=B2.mp e;ext e;show#[N,a,c,b,f,g,h,q _ H (Ak.χ H) FU]
end
variable {K:Ap}{N:Fb}{H:Hp}
def
Paired.one'{a b:Type}{F:a->b->V'}{x:a}{vs:U b}(h:Paired F [x] vs):∃v,vs=[v]/\F x v:=by
 cases h with
 |cons r t=>ext t;show#[_,rfl,r]
def
Paired.two'{a b:Type}{F:a->b->V'}{x y:a}{vs:U b}(h:Paired F [x,y] vs):∃v w,vs=[v,w]/\F x v/\F y w:=by
 cases h with
 |cons r t=>
  let(w,e,q):=Paired.one' t;grind
@[simp]def Zv:Ez
  |[.lst a]=>Z (.u a.a)
  |[.tup a]=>Z (.u a.a)
  |[.str x]=>if x.a<=AE then Z (.u x.a)else J
  |_=>J
def
cH:Gx K (λxs H Q=>∃x n,xs=[x]/\aR K x H n/\Q (.u n) H) Zv:=by
 intro N H k i d Q l h e q;rcases i with _|⟨_|_|_|_|_|_|⟨_,_|_⟩,_|_⟩<;>try(ext e;done)
 .let(j,e):=ZV e;ext e;let(v,rfl,b):=Paired.one' h;show#[v,_,rfl,b.ω ▸ #[j,rfl],q _ H (Ak.χ H) Ga]
 .cases e;let(v,rfl,b):=Paired.one' h;let(a,c,rfl,f,g):=b.Q;show#[.C a,_,rfl,.φ #[c,f,rfl],g.a ▸ q _ H (Ak.χ H) Ga]
 .cases e;let(v,rfl,b):=Paired.one' h;let(a,c,rfl,f,g):=b;show#[.C a,_,rfl,.U #[c,f,rfl],g.a ▸ q _ H (Ak.χ H) Ga]
@[simp]def Er:U D->Ba
  |[.lst a]=>Z a
  |[.tup a]=>Z a
  |_=>J
def
tu:QY K (λxs H Q=>∃p ys,xs=[.C p]/\(BU K H p ys\/Ck K H p ys)/\∀l,H l=J->Q (.C l) (AX H l (.X ys))) Er:=by
 intro N H i j xs Q k h e q;unfold Er at e;split at e
 .cases e;let(v,rfl,c):=Paired.one' h;let(a,b,rfl,d,f):=c;show#[a,b,rfl,.U d,λl g=>q b l g f]
 .cases e;let(v,rfl,c):=Paired.one' h;let(a,b,rfl,d,f):=c.Q;show#[a,b,rfl,.φ d,λl g=>q b l g f]
 .cases e
@[simp]def EE:Ez
  |[.lst a]=>Z (.Q a)
  |[.tup a]=>Z (.Q a)
  |_=>J
def
tw:Gx K (λxs H Q=>∃p ys,xs=[.C p]/\((BU K H p ys/\∀l,H l=J->Q (.C l) (AX H l (.Q ys)))\/(Ck K H p ys/\Q (.C p) H))) EE:=by
 intro N H j k d Q m h e q;unfold EE at e;split at e
 .cases e;let(v,rfl,f):=Paired.one' h;let(a,b,rfl,c,g):=f;show#[a,b,rfl,.U #[c,λl i=>q _ _ (ZW i)<|OJ i g]]
 .cases e;let(v,rfl,f):=Paired.one' h;let(a,b,rfl,c,g):=f.Q;show#[a,b,rfl,.φ #[c,q _ _ (Ak.χ H) (by erw[AB];show#[a,b,rfl,c,g])]]
 .cases e
def Jk:U D->O (U q')
 |[]=>Z []
 |.bl b::r=>(Jk r).j (b::·)
 |_=>J
def
tx{bs:U q'}(h:Jk xs=Z bs):xs=bs.j D.bl:=by
 induction xs generalizing bs with
 |nil=>ext h;rfl
 |cons x r a=>ext x<;>first|ext h;done|(erw[Jk,B2]at h;let(_,e,rfl):=h;rw[a e];rfl)
def
cI:∀{bs:U q'}{vs:U V},Ad K N H (bs.j D.bl) vs->vs=bs.j V.bl
 |[],_,h=>by simpa only[Dn,Ad]using h
 |b::bs,_,h=>by
  let(v,r,e,a,t):=h;subst e a;rw[cI t];rfl
@[simp]def D1:Ez
  |[.lst a]=>(Jk a).j λbs=>.bl (bs.ϝ id)
  |_=>J
@[simp]def UX:Ez
  |[.lst a]=>(Jk a).j λbs=>.bl (bs.any id)
  |_=>J
open J in
def
tz{b:q'}:Gx K (λxs H Q=>∃(a:Ac)(bs:U q'),xs=[.C a]/\BU K H a (bs.j V.bl)/\Q (.bl (bif b then bs.ϝ id else bs.any id)) H) (bif b then D1 else UX):=by
 intro N H i j d Q k h e q;ext b;all_goals
  first|change D1 _=_ at e;unfold D1 at e|change UX _=_ at e;unfold UX at e
  split at e
  .next xs=>
   let(bs,g,rfl):=B2.mp e;let(v,rfl,a,l,rfl,c,f):=Paired.one' h;rw[tx g]at f;rw[cI f]at c;show#[a,bs,rfl,c,q _ H (Ak.χ H) FU]
  .cases e
@[simp]def Rf:Ez
  |[.int i,.int j]=>Z (.u (if j>i then j else i))
  |_=>J
@[simp]def Rg:Ez
  |[.int i,.int j]=>Z (.u (if j<i then j else i))
  |_=>J
def
tE:Gx K (λxs H Q=>∃i j,xs=[.u i,.u j]/\Q (.u (if j>i then j else i)) H) Rf:=by
 intro N H c f d Q g h e q;unfold Rf at e;split at e
 .cases e;let(v,w,rfl,a,b):=Paired.two' h;show#[_,_,by rw[a.u,b.u],q _ H (Ak.χ H) Ga]
 .cases e
def
tH:Gx K (λxs H Q=>∃i j,xs=[.u i,.u j]/\Q (.u (if j<i then j else i)) H) Rg:=by
 intro N H c f d Q g h e q;unfold Rg at e;split at e
 .cases e;let(v,w,rfl,a,b):=Paired.two' h;show#[_,_,by rw[a.u,b.u],q _ H (Ak.χ H) Ga]
 .cases e
@[simp]def intD:Ez
  |[.int i]=>Z (.u i)
  |[.bl k]=>Z (.u (if k then 1 else 0))
  |_=>J
def
tL:Gx K (λxs H Q=>(∃i,xs=[.u i]/\Q (.u i) H)\/∃k,xs=[.bl k]/\Q (.u (if k then 1 else 0)) H) intD:=by
 intro N H b c d Q f h e q;unfold intD at e;split at e
 .cases e;let(v,rfl,a):=Paired.one' h;show .U #[_,by rw[a.u],q _ H (Ak.χ H) Ga]
 .cases e;let(v,rfl,a):=Paired.one' h;show .φ #[_,by rw[a.bl],q _ H (Ak.χ H) Ga]
 .cases e
def Ik:U D->O (U W')
 |[]=>Z []
 |.int b::r=>(Ik r).j (b::·)
 |_=>J
def
cJ{bs:U W'}(h:Ik xs=Z bs):xs=bs.j D.u:=by
 induction xs generalizing bs with
 |nil=>ext h;rfl
 |cons x r a=>ext x<;>first|ext h;done|(erw[Ik,B2]at h;let(_,e,rfl):=h;rw[a e];rfl)
def
cK:∀(ns:U W'),Ik (ns.j D.u)=Z ns
 |[]=>rfl
 |n::ns=>by erw[Bf,Ik,cK ns];rfl
def
UY:∀{bs:U W'}{vs:U V},Ad K N H (bs.j D.u) vs->vs=bs.j V.u
 |[],_,h=>by simpa only[Dn,Ad]using h
 |b::bs,_,h=>by
  let(v,r,e,a,t):=h;subst e a;rw[UY t];rfl
end
section
def
tM(g:X.Ϸ=J'):EO X (.ξ "sum") (λxs H Q=>∃(a:Ac)(ns:U W'),xs=[.C a]/\BU X.K H a (ns.j V.u)/\Q (.u ns.sum) H):=by
 intro d s o H xs t Q x r zQ;let(a,ns,rfl,h,q):=zQ;let(u,rfl,i):=FL r;ext i;let(b,e,p,v):=x.Ϩ h;let(c,f):=(QN e).allInts.items;apply sum_intListG (x.ok.hd g) (f ▸ p.ύ) λw j k l=>?_;let m:ns=c.J.j (·.1):=by
  rw[<- nums_intItems,<- f];show(show numsOf b.E.J=ns from(QN e).numsOf).Γ
 let n:preSum (numAt c) c.o=ns.sum:=by
  rw[preSum_eq,Il (by simp),m]
 rw[n];show#[.u ns.sum,H,x.ϲ (t':=j) l,#[_,rfl],q]
def
cL{b:q'}(h:X.Ϸ=J'):EO X (.ξ (bif b then "min" else "max")) (λxs H Q=>∃(a:Ac)(ns:U W'),xs=[.C a]/\BU X.K H a (ns.j V.u)/\0<ns.a/\∀m,m∈ns->(∀a,a∈ns->bif b then m<=a else a<=m)->Q (.u m) H):=by
 intro i s G H xs F Q M r zQ;let(a,ns,rfl,x,y,q):=zQ;let(u,rfl,z):=FL r;ext z;let(A,k,p,L):=M.Ϩ x;let(d,e):=(QN k).allInts.items;let f:ns=d.J.j (·.1):=by rw[<- (QN k).numsOf,<- nums_intItems,<- e]
 let c:0<d.o:=by
  grind
 ext b;all_goals
  first|apply min_intList (M.ok.hd h) (e ▸ p.isList) c λv B l n o=>?_|apply max_intList (M.ok.hd h) (e ▸ p.isList) c λv B l n o=>?_
  let(t,rfl):=intItems_at n;let C:=argBest_lt (numAt d)<|d.size-1;let E:=argBest_gt (numAt d)<|d.size-1;apply⟨.int _,H,M.kept (t':=l) o,⟨t,rfl⟩,q _ ?_ λb w=>?_⟩
  .rw[f,numAt_eq];show getD_mem (by rw[Bg,Lw];lia)
  .rw[f]at w;let(j,g,rfl):=mem_getD w;rw[Bg,Lw]at g;rw[<- numAt_eq];first|show C.2 j ((Nat.le_sub_one_iff_lt c).Ϛ g)|show E.2 j ((Nat.le_sub_one_iff_lt c).Ϛ g)
end
def UZ:U W'->O W'
 |[]=>J
 |x::a=>Z (a.Ϗ (λm y=>if y<m then y else m) x)
def U0:U W'->O W'
 |[]=>J
 |x::a=>Z (a.Ϗ (λm y=>if y>m then y else m) x)
def
cM:∀(xs:U W')(x:W'),(xs.Ϗ (λm y=>if y<m then y else m) x)∈x::xs/\∀a∈x::xs,(xs.Ϗ (λm y=>if y<m then y else m) x)<=a
 |[],x=>by simp
 |y::b,x=>by
  let(c,d):=cM b<|if y<x then y else x;grind [Bo]
def
cN:∀(xs:U W')(x:W'),(xs.Ϗ (λm y=>if y>m then y else m) x)∈x::xs/\∀a∈x::xs,a<=(xs.Ϗ (λm y=>if y>m then y else m) x)
 |[],x=>by simp
 |y::b,x=>by
  let(c,d):=cN b<|if y>x then y else x;grind [Bo]
def
tN{ns:U W'}{m k:W'}(h:UZ ns=Z k)(b:m∈ns)(c:∀a,a∈ns->m<=a):m=k:=by
 cases ns with|nil=>cases h|cons x d=>
  ext h;let(e,f):=cM d x;have:=c _ e;have:=f _ b;lia
def
tR{ns:U W'}{m k:W'}(h:U0 ns=Z k)(b:m∈ns)(c:∀a,a∈ns->a<=m):m=k:=by
 cases ns with|nil=>cases h|cons x d=>
  ext h;grind [cN]
variable {K:Ap}
@[simp]def Rh:Ez
  |[.lst a]=>(Ik a).j λns=>.u ns.sum
  |_=>J
@[simp]def OR:Ez
  |[.lst a]=>((Ik a).L UZ).j D.u
  |_=>J
@[simp]def OS:Ez
  |[.lst a]=>((Ik a).L U0).j D.u
  |_=>J
open J in
def
tT:Gx K (λxs H Q=>∃(a:Ac)(ns:U W'),xs=[.C a]/\BU K H a (ns.j V.u)/\Q (.u ns.sum) H) Rh:=by
 intro N H g i d Q j h e q;unfold Rh at e;split at e
 .next xs=>
  let(bs,f,rfl):=B2.mp e;let(v,rfl,a,k,rfl,b,c):=Paired.one' h;rw[cJ f]at c;rw[UY c]at b;show#[a,bs,rfl,b,q _ H (Ak.χ H) Ga]
 .cases e
open J in
def
cO{b:q'}:Gx K (λxs H Q=>∃(a:Ac)(ns:U W'),xs=[.C a]/\BU K H a (ns.j V.u)/\0<ns.a/\∀m,m∈ns->(∀a,a∈ns->bif b then m<=a else a<=m)->Q (.u m) H) (bif b then OR else OS):=by
 intro N H o p d Q r h e q;ext b;all_goals
  first|change OR _=_ at e;unfold OR at e|change OS _=_ at e;unfold OS at e
  split at e
  .next xs=>
   let(k,l,rfl):=B2.mp e;let(bs,n,c):=B8.mp l;let(v,rfl,a,s,rfl,f,g):=Paired.one' h;rw[cJ n]at g;rw[UY g]at f;apply#[a,bs,rfl,f,?_,λm i j=>?_]
   .cases bs with
    |nil=>cases c
    |cons=>simp
   .first|rw[tN c i j]|rw[tR c i j]
    show q _ H (Ak.χ H) Ga
  .cases e
@[simp]def M9:D->O String
  |.non=>Z "NoneType"
  |.bl _=>Z "bool"
  |.int _=>Z "int"
  |.str _=>Z "str"
  |.tup _=>Z "tuple"
  |.lst _=>Z "list"
  |.lst _ .d=>J
  |.lst _ (.i _ _)=>J
  |.ty _=>J
def Na(t n:String):q':=t==n||(t=="bool"&&n=="int")
end
def HG:U String:=["NoneType","bool","int","str","tuple","list"]
def
cP(K:Ap):∀t∈HG,∀n∈HG,PySem.W.kitOne K (.ε t) (.ε n)=Z (Na t n):=by
 intro t a n b;erw[HG,BJ,G6,or_false]at a b;rcases a with rfl|rfl|rfl|rfl|rfl|rfl<;>rcases b with rfl|rfl|rfl|rfl|rfl|rfl<;>with_unfolding_all rfl
def
cQ(K:Ap){t:String}(a:t∈HG):∀(ns:U String),(∀n∈ns,n∈HG)->PySem.W.kitAny K (.ε t) (ns.j J2)=Z (ns.any λn=>Na t n)
 |[],_=>rfl
 |n::ns,h=>by
  erw[Bf,PySem.W.kitAny,cP K t a n<|h n Bo,cQ K a ns λm b=>h m<|Bv _ b,List.any_cons];cases Na t n<;>rfl
def
cR{d:D}{t:String}(h:M9 d=Z t):t∈HG:=by
 cases d with
 |lst b a=>ext a<;>simp[M9]at h;subst h;simp[HG]
 |_=>simp[M9]at h<;>subst h<;>simp[HG]
variable {K:Ap}
def
tU{h:A1}{H:Hp}{s:Ab}(A:Inv X h Y' H s){N:Fb}{d:D}{x:V}{t:String}(g:AC X.K N H d x)(c:RelV x u)(f:M9 d=Z t):∃p:Al->V',PySem.W.KitX X.K u (.ε t) p/\p s.r/\u≠.ξ "__main__.__loader__#opaque":=by
 cases d with
 |non=>ext f;rw[g.Ε]at c;ext c;show#[_,PySem.W.kitx_none,trivial,λz=>nomatch z]
 |bl b=>ext f;rw[g.bl]at c;ext c;show#[_,PySem.W.kitx_bool,trivial,λz=>nomatch z]
 |int b=>ext f;rw[g.u]at c;let(t,rfl):=c;show#[_,PySem.W.kitx_int,trivial,λz=>nomatch z]
 |str b=>ext f;rw[g.ω]at c;let(t,rfl):=c;show#[_,PySem.W.kitx_str,trivial,λz=>nomatch z]
 |ty n=>cases f
 |tup v=>
  ext f;let(a,w,e,q,r):=g.Q;subst e;ext c;let(j,_,(o,k,m,_),_):=A.ϗ q;show#[_,PySem.W.kitx_tuple,#[o,k,m],λz=>nomatch z]
 |lst v y=>
  cases y with
  |d=>cases f
  |i _ _=>cases f
  |l=>
  ext f;let(a,w,e,q,r):=g;subst e;ext c;let(j,_,(o,n,k,m,_),_):=A.Ϩ q;show#[_,PySem.W.kitx_list,#[o,k,m],λz=>nomatch z]
@[simp]def Dx:D->O (U String)
  |.ty n=>Z [n]
  |.tup a=>tysL a
  |_=>J
where tysL:U D->O (U String)
 |[]=>Z []
 |.ty n::r=>(tysL r).j (n::·)
 |_=>J
def
tV{ns:U String}(h:Dx.tysL xs=Z ns):xs=ns.j D.ty:=by
 induction xs generalizing ns with
 |nil=>ext h;rfl
 |cons x r a=>ext x<;>first|ext h;done|(erw[Dx.tysL,B2]at h;let(_,e,rfl):=h;rw[a e];rfl)
@[simp]def Dc:Ez
  |[x,c]=>(Dx c).L λns=>if(∀n∈ns,n∈HG)then(M9 x).j λt=>.bl (ns.any λn=>Na t n)else J
  |_=>J
def cT(K:Ap):U V->Hp->VK->V':=λa H Q=>∃N d c x y ns t,a=[x,y]/\AC K N H d x/\AC K N H c y/\Dx c=Z ns/\(∀n∈ns,n∈HG)/\M9 d=Z t/\Q (.bl (ns.any λn=>Na t n)) H
def
cU{N:Fb}{H:Hp}:∀{ns:U String}{vs:U V},Ad K N H (ns.j D.ty) vs->vs=ns.j V.ty
 |[],_,h=>by simpa only[Dn,Ad]using h
 |b::bs,_,h=>by
  let(v,r,e,a,t):=h;subst e a;rw[cU t];rfl
def
cV:∀{ns:U String}{us:U Aa},Aq (ns.j V.ty) us->us=ns.j J2
 |[],_,r=>by ext r;rfl
 |n::ns,_,r=>by
  cases r with
  |cons a b=>ext a;rw[cV b];rfl
def
cX:EO X (.ξ "isinstance") (cT X.K):=by
 intro k s L H m M Q zA r zQ;let(N,d,c,x,y,ns,t,rfl,o,l,b,f,h,q):=zQ;let(u,P,rfl,v,i):=Oi r;let(T,S,p,g):=tU zA o v h;cases c with
 |ty n=>
  ext b;rw[l.ty]at i;ext i;show PySem.W.kia_one S zA.kIn p (cP X.K t (cR h) n<|f n (by simp)) g λj=>#[.bl _,H,zA.tok j,rfl,by exists q]
 |tup m=>
  let e:=tV b;subst e;let(a,R,e,w,dl):=l.Q;subst e;ext i;let(z,A,((cls,Y,data,sl),B,C,n,E),_):=zA.ϗ w;subst C E;let G:=cU dl;subst G;let F:=cV A;subst F;show PySem.W.kia_tup S zA.kIn p B (cQ X.K (cR h) ns f) g λj=>#[.bl _,H,zA.tok j,rfl,q]
 |non=>cases b
 |bl _=>cases b
 |int _=>cases b
 |str _=>cases b
 |lst _=>ext b
open J in
def
cY:Gx K (cT K) Dc:=by
 intro N H j k d Q l h e q;unfold Dc at e;split at e
 .next x c=>
  cases a:Dx c with|none=>rw[a]at e;cases e|some ns=>
   rw[a]at e;let(b,e):=ZV e;let(t,f,e):=B2.mp e;ext e;let(v,w,rfl,g,i):=Paired.two' h;show#[N,x,c,v,w,ns,t,rfl,g,i,a,b,f,q _ H (Ak.χ H) FU]
 .cases e
def
U1{M:Fb}{x:Ae}{n:String}(a:Gl X x)(b:X.mg x=J)(c:Em x=Z (.ε n))(d:⇑(x≠"__name__"))(hd:⇑(CT x)):JE X (.γ x pos) (tD K M H0 λ_=>Z (.ty n)):=#[MZ (am a b c (v:=.ty n) rfl d hd) λ_ _=>by erw[AB]]
def
tW{M:Fb}{x:Ae}{v:V}{d:D}(b:Gl X x)(h:∃u,X.mg x=Z u/\RelV v u)(hd:∀N H,AB K N H d v)(a:⇑(CT x)):JE X (.γ x pos) (tD K M H0 λ_=>Z d):=#[by
 let(u,c,r):=h;show MZ (Ug b c r a) hd]
end
variable {K:Ap}{M:Fb}{a b c e:Expr}{f g h:AH}
def
vv(i:I){x:Ae}(a:↥(NV X i x:8)):PE X (.γ x pos) (tD K M H0 λρ=>AZ ρ i):=q9 a
def
tY(i:I){x:Ae}(a:↥(NV X i x:8)):JE X (.γ x pos) (tD K M H0 λρ=>AZ ρ i):=#[vv i a]
def
vp(i:I){x:Ae}(a:↥(NV X i x:8)):PE X (.γ x pos) (tP K M H0 λρ=>A5 ρ i):=ra a
def
tZ(i:I){x:Ae}(a:↥(NV X i x:8)):JE X (.γ x pos) (tP K M H0 λρ=>A5 ρ i):=#[vp i a]
def
t0(i:I){x:Ae}(a:↥(NV X i x:8)):JE X (.γ x pos) (tQ K M H0 λρ=>BE ρ i):=#[sk a]
def
U2(i:I){x:Ae}(a:↥(NV X i x:8)):JE X (.γ x pos) (GZ K M H0 λρ=>CH ρ i):=#[rH a]
def
t5(i:I){x:Ae}{a:Az}(b:↥(NV X i x:8)):JS X (.Return (Z (.γ x a)) pos) (tS K M H0 λρ=>ZK (EB ρ i)):=#[bZ rfl (λ_=>rfl) Oy b]
def
t6(e:X.A.κ+64<Aw)(c:JE X a (tP X.K M H0 f))(d:JE X b (tP X.K M H0 g)):JE X (.Κ a [.Eq] [b] pos) (tD X.K M H0 (Za Cb f g)):=#[have c:=c.h;let d:=d.h;QW (cw e) cz c d<|Gq _ (by ext) (by ext)]
def
t7(e:X.A.κ+64<Aw)(c:JE X a (tP X.K M H0 f))(d:JE X b (tP X.K M H0 g)):JE X (.Κ a [.Gt] [b] pos) (tD X.K M H0 (Za HD f g)):=#[have c:=c.h;let d:=d.h;QW aK (M3 _) c d<|Gq _ (by ext) (by ext)]
def
t8(e:X.A.κ+64<Aw)(c:JE X a (tP X.K M H0 f))(d:JE X b (tP X.K M H0 g))(i:↥(Gr .In b=O':16)):JE X (.Κ a [.In] [b] pos) (tD X.K M H0 (Za (Db O') f g)):=#[have c:=c.h;let d:=d.h;QW ((UU O' e).or aL) (UV O') c d i]
def
t9(e:X.A.κ+64<Aw)(c:JE X a (tP X.K M H0 f))(d:JE X b (tP X.K M H0 g)):JT X (.Κ a [.Eq] [b] pos) (BP X.K M H0 λρ=>AM (Za Cb f g ρ)):=#[have c:=c.h;let d:=d.h;HA (cw e) cz c d<|Gq _ (by ext) (by ext)]
def
ua(e:X.A.κ+64<Aw)(c:JE X a (tP X.K M H0 f))(d:JE X b (tP X.K M H0 g)):JT X (.Κ a [.NotEq] [b] pos) (BP X.K M H0 λρ=>AM (Za Cc f g ρ)):=#[have c:=c.h;let d:=d.h;HA (cy e) cA c d<|Gq _ (by ext) (by ext)]
def
ub(e:X.A.κ+64<Aw)(c:JE X a (tP X.K M H0 f))(d:JE X b (tP X.K M H0 g)):JT X (.Κ a [.Lt] [b] pos) (BP X.K M H0 λρ=>AM (Za HF f g ρ)):=#[have c:=c.h;let d:=d.h;HA (cF e) cG c d<|Gq _ (by ext) (by ext)]
def
uc(e:X.A.κ+64<Aw)(c:JE X a (tP X.K M H0 f))(d:JE X b (tP X.K M H0 g)):JT X (.Κ a [.Gt] [b] pos) (BP X.K M H0 λρ=>AM (Za HD f g ρ)):=#[have c:=c.h;let d:=d.h;HA aK (M3 _) c d<|Gq _ (by ext) (by ext)]
def
ud(e:X.A.κ+64<Aw)(c:JE X a (tP X.K M H0 f))(d:JE X b (tP X.K M H0 g)):JT X (.Κ a [.GtE] [b] pos) (BP X.K M H0 λρ=>AM (Za L0 f g ρ)):=#[have c:=c.h;let d:=d.h;HA pv (M3 _) c d<|Gq _ (by ext) (by ext)]
def
ue(e:X.A.κ+64<Aw)(c:JE X a (tP X.K M H0 f))(d:JE X b (tP X.K M H0 g))(i:↥(Gr .NotIn b=O':16)):JT X (.Κ a [.NotIn] [b] pos) (BP X.K M H0 λρ=>AM (Za (Db J') f g ρ)):=#[have c:=c.h;let d:=d.h;HA ((UU J' e).or px) (UV J') c d i]
@[simp]def Nb(F b:D->D->O D)(f g h:AH):AH:=λa=>(f a).L λx=>(g a).L λy=>match F x y with
  |some (.bl J')=>(h a).L λz=>b y z
  |some (.bl O')=>Z (.bl O')
  |_=>J
def
uf{r s:R2}{F t:D->D->O D}(A:DE K r F)(k:DE K s t){H:Hp}{Q:VK}(q:tD K M H0 (Nb F t f g h) Y' H Q):aO r s (tP K M H0 f) (tP K M H0 g) (tP K M H0 h) Y' H Q:=by
 let(b,d,R,e,q):=q;unfold Nb at e;cases i:f b with|none=>rw[i]at e;cases e|some x=>
  cases l:g b with|none=>rw[i,l]at e;cases e|some y=>
   rw[i,l]at e;erw[Eg]at e;apply#[b,x,R,i,λv Y j B=>#[b,y,R.st j,l,λu C c m=>?_]];let R2:=(R.st j).st c;split at e
   .next n=>
    let(z,G,e):=B8.mp e;show A _ C v u x y _ _ R2.nh (B.δ c) m n λw E a o=>#[J',by simpa only[AB]using o,LR #[b,z,R2.st a,G,λX P p L=>k _ P u X y z d Q (((R2.st a).st p)).nh ((m.same a).same p) L e λN S T W=>q N S ((((j.trans c).trans a).trans p).trans T) W]]
   .next n=>
    ext e;show A _ C v u x y _ _ R2.nh (B.δ c) m n λw E a o=>#[O',by simpa only[AB]using o,LS<|q _ E ((j.trans c).trans a) FU]
   .cases e
def
cZ{op d:CmpOp}{r m:R2}{F n:D->D->O D}(o:B7 X (Du op) r)(e:B7 X (Du d) m)(p:DE K r F)(i:DE K m n)(j:JE X a (tP K M H0 f))(k:JE X b (tP K M H0 g))(l:JE X c (tP K M H0 h))(s:↥(lastMarks [op,d] [b,c]=O':16)):JE X (.Κ a [op,d] [b,c] pos) (tD K M H0 (Nb F n f g h)):=#[have j:=j.h;let k:=k.h;let l:=l.h;(pz o e j k l s).ν λ_ _ _ q=>uf p i q]
@[simp]def Z4:O D->O q'
  |some .non=>Z O'
  |some (.bl b)=>Z b
  |some (.int i)=>Z (i != 0)
  |some (.str y)=>if y.a<=AE then Z ((y.a:W') != 0)else J
  |some (.lst a)=>Z (!a.isEmpty)
  |some (.tup a)=>Z (!a.isEmpty)
  |_=>J
def
Ad.isEmpty{N:Fb}{H:Hp}(h:Ad K N H xs vs):vs.Ω=xs.Ω:=by
 cases xs with
 |nil=>erw[Ad]at h;subst h;rfl
 |cons x xs=>erw[Ad]at h;let(_,_,e,_):=h;subst e;rfl
def
ug(i:JE X a (tP X.K M H0 f))(n:↥(∀b,isTrue a X.G b=(do let v <- b;standAt a.pos;EN [v] (truthy v)):7)):JT X a (BP X.K M H0 λρ=>Z4 (f ρ)):=#[have i:=i.h;(pB i n).ν λt H Q o=>by
  let(ρ,k,R,e,q):=o;try dsimp only at e q
  rcases g:f ρ with _|(_|_|_|_|_|_|⟨_,_|_⟩)<;>rw[g]at e<;>try(ext e;done)
  .cases e;show#[ρ,_,R,g,λv c s d=>#[_,by rw[d.Ε];rfl,q c s]]
  .cases e;show#[ρ,_,R,g,λv c s d=>#[_,by rw[d.bl];rfl,q c s]]
  .cases e;show#[ρ,_,R,g,λv c s d=>#[_,by rw[d.u];rfl,q c s]]
  .let(r,e):=ZV e;ext e;show#[ρ,_,R,g,λv c s d=>#[_,d.ω ▸ #[r,rfl],q c s]]
  .cases e;apply#[ρ,_,R,g,λv c s d=>#[_,?_,q c s]];let(p,j,rfl,l,m):=d.Q;show .φ #[j,l,by rw[m.Ω]]
  .cases e;apply#[ρ,_,R,g,λv c s d=>#[_,?_,q c s]];let(p,j,rfl,l,m):=d;show .U #[j,l,by rw[m.Ω]]]
@[simp]def Zs:D->Ba
  |.lst a=>Z a
  |.tup a=>Z a
  |.str x=>Z (x.ϱ.J.j λc=>D.ω #[(T' [c])])
  |_=>J
def
uh{l:Expr}(b:JE X l (tQ X.K M H0 f)):JI X tg l (tI X.K M H0 λρ=>(f ρ).L Zs):=#[have b:=b.h;λa s c H g p m=>by
 let(ρ,j,R,e,q):=m;let(d,k,e):=B8.mp e;cases d with
 |lst n o=>
  cases o with
  |d=>cases e
  |i _ _=>cases e
  |l=>show su b a s c H g p #[ρ,j,R,by dsimp only;rw[k];show e,q]
 |tup n=>show sv b a s c H g p #[ρ,j,R,by dsimp only;rw[k];show e,q]
 |str x=>show sw b a s c H g p #[ρ,j,R,by dsimp only;rw[k];show e,q]
 |_=>cases e]
@[simp]def Nc(i:I)(o:Ba)(ρ:VE):C8:=match EB ρ i,o with
  |some a,Z b=>if a.a+b.a<=AE then .α (ρ.Χ i (.τ (a++b)))else .ώ
  |_,_=>.ώ
def
ui{fl:VE->Ba}{i:I}{x:Ae}{c d g:Az}(k:JE X e (tF K M H0 fl))(A:↥(NV X i x:8))(B:↑(DR (.Φ (.η (.γ x c) "extend" d) [e] [] g) J pos.ϩ X.G=Am O'))(hz:↥(BA X x c "extend" d e g:11)):JS X (.Expr (.Φ (.η (.γ x c) "extend" d) [e] [] g) pos) (tS K M H0 λρ=>Nc i (fl ρ) ρ):=#[have k:=k.h;(QB (Kg Q0 PySem.F.slot_list_extend PySem.F.type_list_extend qC (GU A) (EQ k Bq hz.s) hz.b hz.f hz.l hz.s hz.p) B).ν λP L H C=>by
  let(ρ,R,q):=C;cases j:EB ρ i with|none=>erw[j,Nc]at q;show BV q|some E=>
   cases m:fl ρ with|none=>erw[j,m,Nc]at q;show BV q|some n=>
    erw[j,m,Nc]at q;split at q
    .next hz=>
     let(a,o,v,N,S,w,y):=R.Ϡ i _<|Oy j;apply⟨.ref a,(AG v),.inl ⟨rfl,o,.inl<|.inl w⟩,ρ,n,R,m,λp r Q s G t z=>?_⟩;let(R2,T):=(R.st s).chg (ys:=E++n) (ws:=o++r) (Oy j) (AG v) ((y.δ s).Η<|z.nw λb u=>.U<|.inl u);show⟨a,p,o,r,rfl,rfl,s _ _ w,t,by rw[<- y.length,<- (z.nw λb u=>.U<|.U u).a];show hz,q _ _ R2<|(Step.ϑ s).I T⟩
    .show BV q]
end
end Internal
variable{xs:U Internal.D}{ρ:Internal.VE}{fl k':Internal.Kd}{fa:Internal.DS}{fx:Internal.VE->O (Internal.D×Internal.VE)}{fo:Internal.VE->O Internal.Sl}{lo:Internal.VE->O (O W')}{ff:Internal.VE->O (U Internal.D)}
namespace Internal
def
c0{e:PySem.Expr}{t:TT}(h:JW X e t):JT X e t:=#[h.h.pt]
open PyProof.Rows PySem PySem.Spec
variable {K:Ap}
def Rj(i:I)(b c:O D)(ρ:VE):C8:=match EB ρ i,b,c with
 |some a,Z (.int k),Z d=>match Ey a.a k with
  |some j=>.α (ρ.Χ i (.τ (a.Χ j d)))
  |none=>.ώ
 |_,_,_=>.ώ
open J in
def
uj{M:Fb}{i:I}{x:Ae}{b c:Az}{g e:Expr}{fi f:AH}(n:JE X g (tP K M H0 fi))(o:JE X e (tD K M H0 f))(C:↥(NV X i x:8)) (E:↥(∀v,assign (.ψ (.γ x b) g c) X.G v=(do
   let m <- EN [v] (As (.γ x b) X.G);let p <- EN [v,m] (As g X.G);standAt c
   EN [v,m,p] (setItem m p v)
   release [v,m,p] []):7)) (G:↑(N9 [.ψ (.γ x b) g c] e pos.ϩ X.G=Am O')) (r:↑(Oa [.ψ (.γ x b) g c] e X.G=Am J)) (W:↑((Gu [.ψ (.γ x b) g c] X.G).j (·.2)=[assign (.ψ (.γ x b) g c) X.G])):JS X (.ϥ [.ψ (.γ x b) g c] e pos) (tS K M H0 λρ=>Rj i (fi ρ) (f ρ) ρ):=#[have n:=n.h;let o:=o.h;(N8 o (Uj (GU C) n qo E) G r W).ν λD' Y' H F=>by
 let(ρ,R,q):=F;try dsimp only at q
 unfold Rj at q;split at q
 .next L k d u s N=>
  split at q
  .next j P=>
   apply#[ρ,d,R,N,λv H1 y Q=>?_];let t:=R.st y;let(a,z,A,z1,z2,T,B):=t.Ϡ i _<|Oy u;apply⟨.ref a,(AG A),ρ,.int k,t,s,λw H2 l r=>?_⟩;let(S,Y):=(t.st l).chg (ys:=L.Χ j d) (ws:=z.Χ j v) (Oy u) (AG A) (Ad.Χ j (B.δ l)<|Q.δ l);show⟨a,z,k,j,rfl,r.u,l _ _ T,B.a ▸ P,q _ _ S<|(Step.ϑ<|y.I l).I Y⟩
  .show BV q
 .show BV q]
def c4(K:Ap)(r:V->U V->Hp->VK->V')(F:Ae->Ez):V':=∀(N:Fb)(H:Hp)(z:Ae)(c:U V)(e:U D)(d:D)(Q:VK),(∀a,N a->H a≠J)->Paired (AC K N H) e c->F z e=Z d ->
 (∀v b,Ak H b->AB K N b d v->Q v b)->r (.ω z) c H Q
@[simp]def Rk(F:Ae->Ez)(f:AH)(b:DS):AH:=λa=>match f a with
  |some (.str z)=>((b a).L HB).L (F z)
  |_=>J
variable {M:Fb}{e:Expr}{f:AH}{name:Ae}{id:String}{r:V->U V->Hp->VK->V'}{F:Ae->Ez}
open J in
def
uk(s:PlainAttrs "str")(slot:Slot "str" name id)(i:typeOf (.ξ id)=Am (.ε "method_descriptor"))(t:Oo X id r)(u:c4 X.K r F)(j:JE X o (tP X.K M H0 f))(k:JA X (e::es) (C7 X.K M H0 fa))(b:↑(Hr o name X.G (As o X.G)=As o X.G)) (g:↑(((AF ç (AQ (e::es) X.G)).ϝ (λx=>!x.1)&&(Hs ç (Ht [] X.G)).ϝ (λx=>x.1.υ) && decide ((e::es).a+([]:U E5).a+(if([]:U E5).Ω then 0 else 1)<30))=J')) (c:↑((å.endLine==ç.ϩ)=J')) (y:↥(AQ (e::es) X.G=(O',As e X.G)::AQ es X.G:12)) (a:↑((AF ç (AQ es X.G)).any (·.1)=O')):JE X (.Φ (.η o name å) (e::es) [] ç) (tD X.K M H0 (Rk F f fa)):=#[have j:=j.h;let k:=k.h;(Kg s slot i t j k b g c y a).ν λY H Q A=>by
 let(l,d,R,ex,q):=A;unfold Rk at ex;split at ex
 .next z B=>
  cases m:fa l with|none=>rw[m]at ex;cases ex|some C=>
   rw[m]at ex;let(E,G,ex):=B8.mp ex;apply#[l,.ω z,R,B,λv H1 n zA=>?_];rw[zA.ω];show#[rfl,l,C,R.st n,m,λP L p N=>u _ L z P E d Q ((R.st n).st p).nh (QZ N G) ex λw S T W=>q w S ((n.I p).I T) W]
 .cases ex]
end
def Kt:U D->O (U Ae)
 |[]=>Z []
 |.str b::r=>(Kt r).j (b::·)
 |_=>J
def
ul{bs:U Ae}(h:Kt xs=Z bs):xs=bs.j D.ω:=by
 induction xs generalizing bs with
 |nil=>ext h;rfl
 |cons x r a=>ext x<;>first|ext h;done|(erw[Kt,B2]at h;let(_,e,rfl):=h;rw[a e];rfl)
def

c5:∀(ns:U Ae),Kt (ns.j D.ω)=Z ns
  |[]=>rfl
  |n::ns=>by erw[Bf,Kt,c5 ns];rfl
def
c6{N:Fb}{H:Hp}:∀{bs:U Ae}{vs:U V},Ad K N H (bs.j D.ω) vs->vs=bs.j V.ω
 |[],_,h=>by simpa only[Dn,Ad]using h
 |b::bs,_,h=>by
  let(v,r,e,a,t):=h;subst e a;rw[c6 t];rfl
@[simp]def Rl(z:Ae):Ez
  |[.lst b]=>(Kt b).L λa=>if(a.j (·.a)).sum+a.a*z.a<=16777216 then Z (.ω (Txt.join z a))else J
  |_=>J
open J in
def
um:c4 K (bK K) Rl:=by
 intro N H z k l d Q m h e q;unfold Rl at e;split at e
 .next g=>
  cases b:Kt g with|none=>rw[b]at e;cases e|some i=>
   rw[b]at e;let(j,e):=ZV e;ext e;let(v,rfl,a,n,rfl,c,f):=Paired.one' h;rw[ul b]at f;rw[c6 f]at c;show#[z,a,i,rfl,rfl,c,j,q _ H (Ak.χ H) Q8]
 .cases e
open J in
end
variable {H:Hp}{s:Ab}{h':Al}
def
Inv.turnedL{f:U Ac}(A:Inv X ß Y' H s)(g:∀b∈f,Gw X ß H b)(k:∀b o,b∉f->s.r.R b=Z o->h'.R b=Z o):Inv X ß Y' H {s with heap:=h' }:=by
 let d:∀b u,H b=Z u->b∉f:=λb u e z=>by rw[(g b z).1]at e;ext e
 apply A.Ϙ (g':=s.gens) (d':=s.drawn) (t':=s.Ζ) (ch:=f) (λb h=>?_) (λb o _ _ a e _=>k b o a e) (λb o _ _ a e _=>#[o.slots,k b o a e]) (λ_ _ _ _ n=>n)
  (λb o a e=>#[o,k b o a e]) (λ_ _ e=>e) (λ_ _ _ e=>e) (λb G e=>#[(T' []),by rw[e];simp]) (λm i=>?_) (λb u e=>?_) A.bare
 .let(_,j,_,l,p,t):=g b h;show#[l,j,p,t]
 .let(o,w,x,y,r):=i;show#[o,w,x,k _ o (λz=>(g _ z).2.1 rfl) y,r]
 .refine(A.ϧ b u e).stay (λc v a q=>k c v ?_ q) (λ_ q=>q) λ_ _ q=>q;rcases a with z|z
  .rw[z];show d b u e
  .show d c _ z
def
Inv.yielded{g:U Ac}{p:Ac}(K:Inv X ß Y' H s)(i:∀b∈g,Gw X ß H b)(k:∀b o,b∉g->s.r.R b=Z o->h'.R b=Z o)(j:s.r.O.o<=p) (new:A9 X.Y X.w (AX H p (.Q vs)) h' p (.Q vs)):Inv X ß Y' (AX H p (.Q vs)) {s with heap:=h' }:=by
 let d:∀b u,H b=Z u->b∉g:=λb u e z=>by rw[(i b z).1]at e;ext e
 let f:H p=J:=K.ϧ.Τ j;apply K.Ϙ (g':=s.gens) (d':=s.drawn) (t':=s.Ζ) (ch:=g) (λb h=>?_) (λb o _ _ a e _=>k b o a e) (λb o _ _ a e _=>#[o.slots,k b o a e]) (λb o _ e n=>?_)
  (λb o a e=>#[o,k b o a e]) (λb l e=>?_) (λb o u e=>?_) (λb F e=>#[(T' []),?_]) (λm t=>?_) (λb u e=>?_) K.bare
 .let(_,x,_,y,A,B):=i b h;show#[y,x,A,B]
 .rw[Zr<|Ci<|BY (BB e) j];show n
 .rw[Zr<|ZY e f];show e
 .rw[Zr<|ZY e f];show e
 .rw[Zr<|ZY e f,e];simp
 .let(o,C,E,G,r):=t;show#[o,C,E,k _ o (λz=>(i _ z).2.1 rfl) G,r]
 .by_cases h:b=p
  .subst h;rw[Z5]at e;ext e;show new
  .rw[Zr h]at e;refine(K.ϧ b u e).stay (λc v a q=>k c v ?_ q) (λc q=>Zr (ZY q f) ▸ q) λc l q=>Zr (ZY q f) ▸ q;rcases a with z|z
   .rw[z];show d b u e
   .show d c _ z
end
def
uo:Em "enumerate"=Z (.ε "enumerate"):=by symm
def DG:I->U D->U D
 |_,[]=>[]
 |k,d::a=>.Q [.u k,d]::DG (k+1) a
def
U3:∀(xs:U D)(k:I),(DG k xs).a=xs.a
 |[],_=>rfl
 |_::xs,k=>by simp[DG,U3 xs]
def
c7:∀(xs:U D)(k i:I),(DG k xs)[i]?=(xs[i]?).j λd=>D.Q [.u ((k+i:I):W'),d]
 |[],_,_=>by simp[DG]
 |x::xs,k,0=>by simp[DG]
 |x::xs,k,i+1=>by
  erw[DG,HH,c7 xs];rw[show k+1+i=k+(i+1) by lia]
abbrev T3:=KT×V×V
def Eh:U T3->U V
 |[]=>[]
 |t::r=>t.2.1::t.2.2::Eh r
def Dd:U T3->KT->O V
 |[],_=>J
 |t::r,k=>if t.1=k then Z t.2.2 else Dd r k
def Im:U T3->KT->V->U T3
 |[],_,_=>[]
 |t::r,k,v=>(if t.1=k then(t.1,t.2.1,v)else t)::Im r k v
def ET(tr:U T3)(k:KT)(kv v:V):U T3:=if(Dd tr k).υ=J' then Im tr k v else tr++[(k,kv,v)]
def
c9(k:KT)(v:V):∀tr:U T3,(Im tr k v).j (·.1)=tr.j (·.1)
 |[]=>rfl
 |t::r=>by
  erw[Im,Bf,c9 k v r];split<;>rfl
def
db{k:KT}:∀{tr:U T3},Dd tr k=J->k∉tr.j (·.1)
 |[],_=>by simp
 |t::r,h=>by
  unfold Dd at h;split at h
  .cases h
  .next e=>
   erw[Bf,BJ,not_or];show#[λz=>e z.Γ,db h]
def
Nd{tr:U T3}{k:KT}{kv v:V}(h:(tr.j (·.1)).μ):((ET tr k kv v).j (·.1)).μ:=by
 unfold ET;split
 .rw[c9];show h
 .next e=>
  rw[Gc,L3];apply#[h,by simp,λa c b d=>?_];let f:Dd tr k=J:=by
   simp_all
  grind [db]
def
df(k:KT)(v:V):∀tr:U T3,(Im tr k v).a=tr.a
 |[]=>rfl
 |t::r=>by simp[Im,df k v r]
def
dg(tr:U T3)(k:KT)(kv v:V):(ET tr k kv v).a<=tr.a+1:=by
 unfold ET;split
 .rw[df];show HJ tr.a 1
 .simp
def
Io{a:At}(h:RelV (GQ a) u):J3 a u=J':=by
 cases a with
 |non=>ext h;rfl
 |int i=>let(t,rfl):=h;show nO i t
 |str x=>let(t,rfl):=h;show nP x t
def
uq{a:At}(h:J3 a u=J'):RelV (GQ a) u:=by
 rcases J4 h with⟨rfl,rfl⟩|⟨i,t,rfl,rfl⟩|⟨x,t,rfl,rfl⟩
 .rfl
 .show#[t,rfl]
 .show#[t,rfl]
abbrev RA:U T3->U (At×Aa)->V':=Paired λt u=>t.1=.at u.1/\t.2.1=GQ u.1/\RelV t.2.2 u.2
def
dh{P:AN}{w:Ai}:∀{tr:U T3}{es:U IU},Lr w (tr.j (·.1)) (Eh tr) es->(∀t∈tr,∃a,t.1=KT.at a)->∃us,RA tr us/\Pairs (ZH P w) es us/\∀e∈es,∃k,(ZH P w).is k e.key=J'/\e.hash=(ZH P w).hash k
 |[],es,h,_=>by
  let(_,rfl):=h;show#[[],.Ϧ,.Ϧ,λ_ z=>nomatch z]
 |t::r,es,h,l=>by
  let(kv,v,q,e,n,c,o,f,p,g,d,s):=h;let(a,m):=l t Bo;erw[Eh,Rm]at c;let(c,i,b):=c;subst c i o b;dsimp only at g d;rw[m]at g d;let(us,u,x,y):=dh (P:=P) s λt A=>l t<|Bv _ A;rw[d]at f;apply⟨(a,e.val)::us,.cons ⟨m,d,p⟩ u,.cons (Io f) rfl x,λB j=>?_⟩;rcases BJ.mp j with rfl|j
  .show#[a,Io f,g]
  .show y B j
def
ur{P:AN}{w:Ai}{tr:U T3}{us:U (At×Aa)}{es:U IU}(h:RA tr us)(g:Pairs (ZH P w) es us)(a:∀e∈es,∃k,(ZH P w).is k e.key=J'/\e.hash=(ZH P w).hash k):Lr w (tr.j (·.1)) (Eh tr) es:=by
 induction h generalizing es with|nil=>ext g;show#[rfl,rfl]|@cons t _ r _ h _ d=>
  let(b,c,f):=h;cases g with
  |@cons e _ es _ p1 i j=>
   apply#[t.2.1,t.2.2,Eh r,e,es,rfl,rfl,?_,?_,?_,?_,d j λe l=>a e<|Bv _ l]
   .rw[c];show uq p1
   .rw[i];show f
   .let(k,m,n):=a e Bo;have:=(ZH P w).inj _ _ _ m p1;subst this;dsimp only;rw[b];show n
   .dsimp only;rw[b];show c
def
RA.val{tr:U T3}{us:U (At×Aa)}(h:RA tr us)(a:At):CU (Dd tr (.at a)) (valueAt us a):=by
 induction h with|nil=>show Ie|@cons t u _ _ h _ b=>
  unfold Dd valueAt;rw[h.1,List.find?_cons];by_cases e:u.1=a
  .rw[if_pos (by rw[e])];erw[e,decide_true];show h.2.2
  .rw[if_neg<|λz=>e<|KT.at.inj z];erw[e,decide_false];show b
def
CU.isS:∀{o:O V}{u:O Aa},CU o u->o.υ=u.υ
 |some _,Z _,_=>rfl
 |none,J,_=>rfl
 |some _,J,h=>h.ι
 |none,Z _,h=>h.ι
def
RA.rep{a:At}{v:V}(d:RelV v u){tr:U T3}{us:U (At×Aa)}(h:RA tr us):RA (Im tr (.at a) v) (us.j λkv=>if kv.1=a then(kv.1,u)else kv):=by
 induction h with|nil=>show .Ϧ|@cons t w _ _ h _ f=>
  apply .Ο ?_ f;let(b,c,g):=h;dsimp only;by_cases e:w.1=a
  .rw[if_pos e,if_pos<|b.I<|congrArg _ e];show⟨b,c,d⟩
  .rw[if_neg e,if_neg λz=>e<|KT.at.inj<|b.Γ.I z];show⟨b,c,g⟩
def
Paired.snoc'{a b:Type}{F:a->b->V'}{x:a}{y:b}(h:F x y){l:U a}{m:U b}(t:Paired F l m):Paired F (l++[x]) (m++[y]):=t.snoc h
def
ut{us:U (At×Aa)}{a:At}:(us.any λkv=>decide (kv.1=a))=(valueAt us a).υ:=by
 unfold valueAt;grind
def
RA.put{tr:U T3}{us:U (At×Aa)}{a:At}{v:V}(h:RA tr us)(b:RelV v u):RA (ET tr (.at a) (GQ a) v) (stored us a u):=by
 unfold ET stored;rw[ut,(h.B a).isS];by_cases e:(valueAt us a).υ=J'
 .rw[if_pos e,if_pos e];show h.rep b
 .rw[if_neg e,if_neg e];show Paired.snoc' #[rfl,rfl,b] h
def
RA.fst{tr:U T3}{us:U (At×Aa)}(h:RA tr us):tr.j (·.1)=(us.j (·.1)).j KT.at:=by
 induction h with
 |nil=>rfl
 |cons h _ a=>rw[Bf,Bf,Bf,h.1,a]
abbrev RT:U T3->U (U At×Ac×Aa)->V':=Paired λt u=>t.1=.Q u.1/\t.2.1=.C u.2.1/\RelV t.2.2 u.2.2
def
dj{P:AN}{w:Ai}:∀{tr:U T3}{es:U IU},Lr w (tr.j (·.1)) (Eh tr) es->(∀t∈tr,∃l,t.1=KT.Q l)->∃us,RT tr us/\es=us.j (entryOfKey (tupleKind (ZH P w)))
 |[],es,h,_=>by
  let(_,rfl):=h;show#[[],.Ϧ,rfl]
 |t::r,es,h,f=>by
  let(kv,v,q,(k,m,n),o,b,s,g,u,c,d,x):=h;let(l,i):=f t Bo;erw[Eh,Rm]at b;let(b,e,a):=b;subst b e s a;dsimp only at c d;rw[i]at c d;let(us,y,z):=dj (P:=P) x λt A=>f t<|Bv _ A;let(p,j):=(d:∃p,t.2.1=.C p);rw[j]at g;cases(g:m=Cp p);apply#[(l,p,n)::us,.Ο #[i,j,u] y,?_];rw[Bf,<- z];have:k=(KT.Q l).hash w:=c;rw[this];rfl
def
uv{P:AN}{w:Ai}{tr:U T3}(h:RT tr us):Lr w (tr.j (·.1)) (Eh tr) (us.j (entryOfKey (tupleKind (ZH P w)))):=by
 induction h with|nil=>show#[rfl,rfl]|@cons t _ r _ h _ a=>
  apply#[t.2.1,t.2.2,Eh r,_,_,rfl,rfl,?_,h.2.2,?_,?_,a]
  .rw[h.2.1];rfl
  .dsimp only;rw[h.1];rfl
  .dsimp only;rw[h.1];show#[_,h.2.1]
def
RT.val{tr:U T3}(h:RT tr us)(l:U At):CU (Dd tr (.Q l)) ((atKey us l).j (·.2)):=by
 induction h with|nil=>show Ie|@cons t u _ _ h _ a=>
  unfold Dd atKey;rw[h.1,List.find?_cons];by_cases e:u.1=l
  .rw[if_pos (by rw[e])];erw[e,decide_true];show h.2.2
  .rw[if_neg<|λz=>e<|KT.Q.inj z];erw[e,decide_false];show a
def
RT.rep{l:U At}{v:V}(c:RelV v u){tr:U T3}(h:RT tr us):RT (Im tr (.Q l) v) (us.j (putAt l u)):=by
 induction h with|nil=>show .Ϧ|@cons t w _ _ h _ d=>
  apply .Ο ?_ d;let(a,b,f):=h;unfold putAt;by_cases e:w.1=l
  .rw[if_pos e,if_pos<|a.I<|congrArg _ e];show⟨a,b,c⟩
  .rw[if_neg e,if_neg λz=>e<|KT.Q.inj<|a.Γ.I z];show⟨a,b,f⟩
def
RT.put{tr:U T3}{l:U At}{p:Ac}{v:V}(h:RT tr us)(a:RelV v u):RT (ET tr (.Q l) (.C p) v) (storedH us l p u):=by
 unfold ET storedH;let b:=(h.B l).isS;rw[Option.isSome_map]at b;rw[b];by_cases e:(atKey us l).υ=J'
 .rw[if_pos e,if_pos e];show h.rep a
 .rw[if_neg e,if_neg e];show Paired.snoc' #[rfl,rfl,a] h
def
RT.fst{tr:U T3}(h:RT tr us):tr.j (·.1)=(us.j (·.1)).j KT.Q:=by
 induction h with
 |nil=>rfl
 |cons h _ a=>rw[Bf,Bf,Bf,h.1,a]
def
U4{c d:Type}{f:c->d}(e:∀a b,f a=f b->a=b):∀{l:U c},(l.j f).μ->l.μ
 |[],_=>List.nodup_nil
 |a::l,h=>by
  rw[Bf,Hv]at h;rw[Hv];show#[λz=>h.1<|Bm.Ϛ ⟨a,z,rfl⟩,U4 e h.2]
def E8(K:Ap)(H:Hp):KT->V->V'
 |.at a,v=>v=GQ a
 |.tup l,v=>∃p,v=.C p/\Ck K H p (l.j GQ)
def
dm{P:AN}{w:Ai}:∀{a:U At}{us:U Aa},Aq (a.j GQ) us->ItemsAre (ZH P w) a us
 |[],_,r=>by rw[Dn]at r;ext r;show .Ϧ
 |k::a,_,r=>by
  cases r with
  |cons h t=>show .Ο (Io h)<|dm t
def Jl:KT->U T3->V'
 |.at _,tr=>∀t∈tr,∃a,t.1=KT.at a
 |.tup _,tr=>∀t∈tr,∃l,t.1=KT.Q l
def C3(K:Ap)(H:Hp)(a:Ac)(tr:U T3):V':=Rd H a (.dct (tr.j (·.1)) (Eh tr))/\∀t∈tr,E8 K H t.1 t.2.1
variable {H:Hp}{s:Ab}{p:Ac}{y v:V}{r:Aa}{o:O V}{A:Ag}{tr:U T3}{k:KT}
def
Ku{l:U At}(e:Inv X ß Y' H s)(h:Ck X.K H p (l.j GQ)):(tupleKind (ZH X.Y X.w)).is s.r l p:=by
 let(a,r,(o,b,c,n,d),_):=e.ϗ h;show#[o,a.E,n,b,c,d,by exists dm r]
def
OT(q:Inv X ß Y' H s)(h:C3 X.K H a tr)(c:∀t∈tr,∃a,t.1=KT.at a):tr.a<=AE/\(a==Hn)=O'/\(tr.j (·.1)).μ/\∃us,RA tr us/\s.r.DictOf (ZH X.Y X.w) a us:=by
 let(z,d,nd,o,f,g,i,j,k,l):=h.1.ok q.ϧ;let(us,b,m,n):=dh (P:=X.Y) l c;apply#[by simpa using z,d,nd,us,b,o,f,g,i,j,k,λe p=>n e (by exists p),m,?_];rw[b.fst]at nd;show U4 (λ_ _ z=>KT.at.inj z) nd
def
Ng(L:Inv X ß Y' H s)(h:C3 X.K H a tr)(j:∀t∈tr,∃l,t.1=KT.Q l):tr.a<=AE/\(a==Hn)=O'/\(tr.j (·.1)).μ/\∃us,RT tr us/\s.r.DictOfH (tupleKind (ZH X.Y X.w)) a us:=by
 let(z,k,nd,o,n,d,r,v,y,A):=h.1.ok L.ϧ;let(us,f,B):=dj (P:=X.Y) A j;let c:=nd;rw[f.fst]at c;apply#[by simpa using z,k,nd,us,f,o,n,d,r,v,y,B,λx b=>?_,U4 (λ_ _ z=>KT.tup.inj z) c];let all:∀{l:U T3} {m:U (U At×Ac×Aa)},RT l m->(∀t∈l,E8 X.K H t.1 t.2.1)->∀x∈m,(tupleKind<|ZH X.Y X.w).is s.r x.1 x.2.1:=by
  intro l m q;induction q with|nil=>intro _ x b;show nomatch b|@cons t u F us g tl C=>
   intro i x b;rcases BJ.mp b with e|b
   .subst e;have:=i t Bo;rw[g.1,g.2.1]at this;let(p,d,E):=this;ext d;show Ku L E
   .show C (λt G=>i t<|Bv _ G) x b
 show all f h.2 x b
def
CU.to:∀{v:V}{o:O Aa},CU (Z v) o->∃w,o=Z w/\RelV v w
 |_,Z w,h=>#[w,rfl,h]
 |_,J,h=>h.ι
def
uw{Q:AV}(t:A.κ+1<Aw)(F:Inv X ß Y' H s)(h:C3 X.K H a tr)(m:Jl k tr)(n:E8 X.K H k y)(o:RelV y u)(r:Dd tr k=Z v)(q:∀e s',Inv X ß Y' H s'->RelV v e->Q e s'):wpAny (Af X.Y X.w) A (getItem (.C a) u) Q E s:=by
 cases k with
 | «at» b=>
  ext n;let(z,hd,nd,x,c,g):=OT F h m;let f:=c.B b;rw[r]at f;let(e,i,d):=f.to;show wpAny_getItem_of (knd:=ZH X.Y X.w) (Io o) g.mapOf i (q e _ (F.tok _) d)
 |tup l=>
  let(p,rfl,C):=n;cases(show u=Cp p from o);let(z,hd,nd,x,c,g):=Ng F h m;let f:=c.B l;rw[r]at f;let(e,i,d):=f.to;let(B,G,j):=B2.mp i;apply wpAny_getItem_heap (Nh t) (Ku F C) g G ?_;rw[j];show q e _ (F.tok _) d
def
dn(c:q'){Q:AV}(i:A.κ+1<Aw)(g:Inv X ß Y' H s)(h:C3 X.K H a tr)(j:Jl k tr)(m:E8 X.K H k y)(f:RelV y u)(q:∀s',Inv X ß Y' H s'->Q (.Ϥ (bif c then !(Dd tr k).υ else(Dd tr k).υ)) s'):wpAny (Af X.Y X.w) A (Du (bif c then .NotIn else .In) u (.C a)) Q E s:=by
 cases k with
 | «at» b=>
  ext m;let(z,hd,nd,o,d,e):=OT g h j;rw[(d.B b).isS]at q;ext c
  .show wpAny_in_of (knd:=ZH X.Y X.w) (Io f) hd e.mapOf (q _<|g.tok _)
  .show wpAny_notIn_of (knd:=ZH X.Y X.w) (Io f) hd e.mapOf (q _<|g.tok _)
 |tup l=>
  let(p,rfl,n):=m;cases(show u=Cp p from f);let(z,hd,nd,o,d,e):=Ng g h j;rw[(d.B l).isS,Option.isSome_map]at q;ext c
  .show wpAny_in_heap (Nh i) (Ku g n) hd e<|q _<|g.tok _
  .show wpAny_notIn_heap (Nh i) (Ku g n) hd e<|q _<|g.tok _
def
Ni{h':Al}{ob:HO}(h:Inv X ß Y' H s)(c:N3 (H a))(d:En a s.r h')(f:∃q,h'.R a=Z q)(new:A9 X.Y X.w (AX H a ob) h' a ob):Inv X ß Y' (AX H a ob) {s with heap:=h',toks:=t' }:=h.write (x:=a) (e:=a) c (.U rfl) (λb q g z=>(d.2 b g).I z) f new
def Fq(tr:U T3):HO:=.dct (tr.j (·.1)) (Eh tr)
def
U5{P:AN}{w:Ai}{h':Al}{us:U (At×Aa)}(z:tr.a<=AE)(hd:(a==Hn)=O')(nd:(tr.j (·.1)).μ)(b:RA tr us)(dd:h'.DictOf (ZH P w) a us):A9 P w H' h' a (Fq tr):=by
 let(o,c,d,f,g,h,i,j,l):=dd;show#[by simpa using z,hd,nd,o,c,d,f,g,h,ur b j λe k=>i e (by exists k)]
def
U6{P:AN}{w:Ai}{h':Al}(z:tr.a<=AE)(hd:(a==Hn)=O')(nd:(tr.j (·.1)).μ)(b:RT tr us)(dd:h'.DictOfH (tupleKind (ZH P w)) a us):A9 P w H' h' a (Fq tr):=by
 let(o,c,d,e,f,g,h,i,j):=dd;apply#[by simpa using z,hd,nd,o,c,d,e,f,g,?_];rw[h];show uv b
def
dr(b:q')(j:A.κ+1<Aw)(G:Inv X ß Y' H s)(e:H a=Z (Fq tr))(g:∀t∈tr,E8 X.K H t.1 t.2.1)(L:Jl k tr)(M:E8 X.K H k y)(B:RelV y u)(x:RelV v r)(F:tr.a<AE) (q:∀h' t',Inv X ß Y' (AX H a (Fq (ET tr k y v))) {s with heap:=h',toks:=t' }->En a s.r h'->Q () {s with heap:=h',toks:=t' }):wpAny (Af X.Y X.w) (bif b then A.in1 else A) (bif b then dictSet a u r else setItem (.C a) u r) Q E s:=by
 let i:(ET tr k y v).a<=AE:=by have:=dg tr k y v;lia
 cases k with
 | «at» c=>
  ext M;let(z,hd,nd,C,f,n):=OT G #[.U e,g] L;let o:C.a<=AE:=Hm f ▸ z;ext b
  .show wpAny_setItem_pairs (knd:=ZH X.Y X.w) (hsz:=o) (Io B) n λh' d h=>q _ _ (Ni G (e ▸ Ie) h (let⟨q,_,_,m,_⟩:=d;#[q,m]) (U5 i hd (Nd nd) (f.put x) d)) h
  .show wpAny_dictSet_pairs (knd:=ZH X.Y X.w) (hsz:=o) (Io B) n λh' d h=>q _ _ (Ni G (e ▸ Ie) h (let⟨q,_,_,m,_⟩:=d;#[q,m]) (U5 i hd (Nd nd) (f.put x) d)) h
 |tup l=>
  let(p,rfl,N):=M;cases(show u=Cp p from B);let(z,hd,nd,C,f,n):=Ng G #[.U e,g] L;let o:C.a<=AE:=Hm f ▸ z;ext b
  .show wpAny_setItem_heap (hsz:=o) (Nh j) (Ku G N) n λh' d h=>q _ _ (Ni G (e ▸ Ie) h (let⟨q,_,_,m,_⟩:=d;#[q,m]) (U6 i hd (Nd nd) (f.put x) d)) h
  .show wpAny_dictSet_heap (hsz:=o) (Nh j) (Ku G N) n λh' d h=>q _ _ (Ni G (e ▸ Ie) h (let⟨q,_,_,m,_⟩:=d;#[q,m]) (U6 i hd (Nd nd) (f.put x) d)) h
end
end Internal
namespace PySem
variable {prog:AN}{w:Ai}{K:Type}[DecidableEq K]{knd:HeapKind prog w K}{A:Ag}{s:Ab}
def
ux{d:Ac}{xs:U (K×Ac×Aa)}{k:K}{v:Aa}{Q:AV}(l:knd.room A)(b:knd.is s.r k a)(r:s.r.DictOfH knd d xs)(hsz:xs.a<=AE)
  (t:∀p,atKey xs k=Z p->Q p.2 {s with toks:=s.Ζ+knd.draws k})
  (u:atKey xs k=J->∀h',h'.DictOfH knd d (storedH xs k a v)->En d s.r h'->Q v {s with heap:=h',toks:=s.Ζ+knd.draws k}):wpAny (Af prog w) A (dictSetDefault d (.C a) v) Q E s:=by
 let(o,B,y,f,z,hd,i,h,m):=r
 unfold dictSetDefault
 try with_reducible apply Gv ?_
 apply Ao (knd.pyHash l b ?_)
 apply Ao (wpAny_dictFind_heap (s:={s with toks:=s.Ζ+knd.draws k}) l b f hd i h m ?_ ?_)
 .intro c
  let n:k∉xs.j (·.1):=not_mem_keys_of_get c
  apply Ao (F5 (Ao (wpAny_updateDictKeys (hz:=by have e:=size_of_entries i;lia) (s:={s with toks:=s.Ζ+knd.draws k}) f hd (A0 (u (atKey_none_of_get c) _ #[_,_,y+1,MU _ f (Obj.isFreed_of_dict (Obj.data_mapDictKeys hd _)),
   z.mapDictKeys _,Obj.data_mapDictKeys hd _,?_,?_,?_] (Nj ..))))))
  .rw[storedH_new (atKey_none_of_get c)]
   simp[i,entryOfKey]
  .rw[storedH_new (atKey_none_of_get c)]
   intro x g
   rcases Cz.mp g with g|g
   .show knd.keeps (h x g) f hd (Nj ..)
   .erw[CC]at g
    subst g
    show knd.keeps b f hd (Nj ..)
  .rw[storedH_new (atKey_none_of_get c)]
   grind [Gc,L3,Bf,Dn,CC]
 .intro j p q
  apply Ao (wpAny_dictEntries (s:={s with toks:=s.Ζ+knd.draws k}) f hd ?_)
  rw[entry_at i j,q]
  show Ao (F5 (A0 (t p (atKey_of_get m q))))
def
uy{k:K}(d:Ac)(hd:(d==Hn)=O')(dflt:Aa):
  MeetsIn prog w (Fl.«dict.setdefault» #[[.C d,.C a,dflt],[]]) (λA R s=>knd.room A.in1/\∃xs,knd.is s.r k a/\s.r.DictOfH knd d xs/\xs.a<=AE /\
   (∀p,atKey xs k=Z p->R (.ok (.Ϯ p.2)) {s with toks:=s.Ζ+knd.draws k}) /\
   (atKey xs k=J->∀h',h'.DictOfH knd d (storedH xs k a dflt)->En d s.r h'->R (.ok (.Ϯ dflt)) {s with heap:=h',toks:=s.Ζ+knd.draws k})):=
 .of_wp λA R s g=>by
  let(h,xs,b,f,i,j,l):=g
  apply Ao ?_
  apply Ao (wpAny_notOrdered_dict f.ϟ ?_)
  apply A0 ?_
  change wpAny _ _ (if(d==Hn)=J' then _ else(dictSetDefault d (.C a) dflt >>= _)) _ _ s
  rw[if_neg (hd ▸ N1)]
  show Ao (ux h b f i (λp m=>A0 #[p.2,rfl,j p m]) λn h' c e=>A0 #[dflt,rfl,l n h' c e])
end
end PySem
namespace Internal
open PySem PySem.Spec PyProof.Rows
def dt(K:Ap):R2:=λx y H Q=>∃a tr k v,x=.C a/\C3 K H a tr/\Jl k tr/\E8 K H k y/\Dd tr k=Z v/\Q v H
def U7(K:Ap)(neg:q'):R2:=λx y H Q=>∃a tr k,y=.C a/\C3 K H a tr/\Jl k tr/\E8 K H k x/\Q (.bl (neg != (Dd tr k).υ)) H
def uz(K:Ap):QE:=λo i v H Q=>∃a tr k,o=.C a/\H a=Z (Fq tr)/\(∀t∈tr,E8 K H t.1 t.2.1)/\Jl k tr/\E8 K H k i/\tr.a<AE/\Q (AX H a (Fq (ET tr k i v)))
def uA(K:Ap):V->U V->Hp->VK->V':=λx b H Q=>∃a tr k y z,x=.C a/\b=[y,z]/\H a=Z (Fq tr)/\(∀t∈tr,E8 K H t.1 t.2.1)/\Jl k tr/\E8 K H k y/\tr.a<AE /\
 (∀v,Dd tr k=Z v->Q v H)/\(Dd tr k=J->Q z (AX H a (Fq (ET tr k y z))))
def
C3.typeIs{b:A1}{H:Hp}{s:Ab}{tr:U T3}(d:Inv X b Y' H s)(h:C3 X.K H a tr):s.TypeIs (.C a) "dict":=by
 let(_,_,_,o,_,_,e,c,_):=h.1.ok d.ϧ;show#[o,e,c.1]
section
def
uB(o:X.A.κ+64<Aw):Hx X (dt X.K):=by
 rintro b slice c s f H x y v u Q B g h ⟨a,tr,k,z,rfl,hd,i,j,l,q⟩ m;ext g;apply Ao ?_;apply Ao<|wpAny_specialOf (hd.typeIs B) PySem.F.slot_dict_getitem.lookup ?_;let fin:wpAny (Af X.prog X.w) X.A (subscripted slice O' (.ref a) u) (λr d=>wpAny (Af X.Y X.w) X.A (letTemporaryGo b (.C a) r >>= λ_=>Am r) (EP X c f Q) X.xe d) X.xe s:=by
  rw[m];show wpAny_operating<|uw ∅ B hd i j h l λp t n e=>Ao<|wpAny_letTemporaryGo<|A0 ⟨z,H,n,e,q⟩
 show A0<|Ao fin
def
du(h:X.A.κ+64<Aw):B7 X (Du .In) (U7 X.K O'):=by
 intro b s i H x y v u Q l c d zQ;let(a,tr,k,rfl,hd,e,f,q):=zQ;ext d;show dn O' ∅ l hd e f c λj g=>#[.bl (Dd tr k).υ,H,g,rfl,by exists q]
def
uC(h:X.A.κ+64<Aw):B7 X (Du .NotIn) (U7 X.K J'):=by
 intro b s i H x y v u Q l c d zQ;let(a,tr,k,rfl,hd,e,f,q):=zQ;ext d;show dn J' ∅ l hd e f c λj g=>#[.bl<|!(Dd tr k).υ,H,g,rfl,by exists q]
def
dy(n:X.A.κ+64<Aw):Ui X (uz X.K):=by
 intro c s p H o i v r t u Q y d f g zQ;let(a,tr,k,rfl,e,b,h,j,l,q):=zQ;ext d;show dr O' ∅ y e b h j f g l λw x m _=>#[_,m,q]
def
uD(hu:X.A.κ+64<Aw):Oo X "dict.setdefault" (uA X.K):=by
 intro L s Y' H x xs v i Q W rx rs zQ;let(a,tr,k,y,z,rfl,rfl,e,j,M,N,hl,R,T):=zQ
 ext rx
 let(u1,S,rfl,Y,r):=rs.two
 let m:(ET tr k y z).a<=AE:=by have:=dg tr k y z;show Bu this hl
 cases k with
 | «at» b=>
  ext N
  let(t,n,nd,i,d,o):=OT W #[.U e,j] M
  let c:=d.B b
  apply call_meetsIn dz o.ϟ PySem.F.entry_dict_setdefault (PySem.F.args_dict_setdefault_3 _ _ _) (kt_meets_setdefault (ZH X.Y X.w) a (Io Y) n S)
   #[i,o,(show i.a<=AE by rw[<- Hm d];show t),λv' u=>?_,λB C g h=>?_]
  .rw[u]at c
   cases f:Dd tr (.at b)with
   |none=>rw[f]at c;show c.ι
   |some w=>rw[f]at c;show#[w,H,W.tok _,c,R w f]
  .rw[B]at c
   cases f:Dd tr (.at b)with
   |some w=>rw[f]at c;show c.ι
   |none=>
    let E:∃q,C.R a=Z q:=let⟨q,_,_,G,_⟩:=g;#[q,G]
    show#[z,_,Ni W (e ▸ Ie) h E (U5 m n (Nd nd) (d.put r) g),r,T f]
 |tup l=>
  let(p,rfl,sq):=N
  cases(show u1=Cp p from Y)
  let(t,n,nd,i,d,o):=Ng W #[.U e,j] M
  let c:=d.B l
  apply call_meetsIn dz o.ϟ PySem.F.entry_dict_setdefault (PySem.F.args_dict_setdefault_3 _ _ _) (uy (knd:=tupleKind (ZH X.Y X.w)) (k:=l) a n S)
   #[Nh ∅,i,Ku W sq,o,(show i.a<=AE by rw[<- Hm d];show t),λp' P=>?_,λB C g h=>?_]
  .rw[P]at c
   cases f:Dd tr (.Q l)with
   |none=>rw[f]at c;show c.ι
   |some w=>rw[f]at c;show#[w,H,W.tok _,c,R w f]
  .rw[B]at c
   cases f:Dd tr (.Q l)with
   |some w=>rw[f]at c;show c.ι
   |none=>
    let E:∃q,C.R a=Z q:=let⟨q,_,_,G,_⟩:=g;#[q,G]
    show#[z,_,Ni W (e ▸ Ie) h E (U6 m n (Nd nd) (d.put r) g),r,T f]
def
Inv.big(b:Inv X ß Y' H s):Hn<s.r.O.o:=by
 show Kj (by ext) ((b.mod.glob.keeps b.bk).lt)
def
Jm:PE X (.Dict [] [] pos) (λ_ H Q=>∀p,H p=J->Q (.C p) (AX H p (Fq []))):=λb s c H Q d h=>wpAny_Dict_empty #[.C s.r.O.o,_,d.laid (a:=s.r.O.o) (o:=Fq []) (t':=s.Ζ) (λ_ _ q=>By _ q) (A4 _) #[Fi _,beq_eq_false_iff_ne.Ϛ<|Cj<|Ci d.big,List.nodup_nil,_,(T' []),0,Cq _ rfl,⟨rfl,rfl,rfl⟩,rfl,rfl,rfl],rfl,h _<|d.ϧ.Τ<|A4 _]
end
def Jn:D->O At
 |.non=>Z .Ε
 |.int i=>Z (.u i)
 |.str x=>Z (.ω x)
 |_=>J
def Nk:U D->O (U At)
 |[]=>Z []
 |d::r=>(Jn d).L λa=>(Nk r).j (a::·)
def DT:D->O KT
 |.tup l=>(Nk l).j KT.Q
 |d=>(Jn d).j KT.at
def aD:At->D
 |.non=>.Ε
 |.int i=>.u i
 |.str x=>.ω x
def kD:KT->D
 |.at a=>aD a
 |.tup l=>.Q (l.j aD)
def
dA{d:D}{a:At}(h:Jn d=Z a):d=aD a:=by
 unfold Jn at h;split at h<;>ext h<;>rfl
def
dB:∀{l:U D}{b:U At},Nk l=Z b->l=b.j aD
 |[],_,h=>by ext h;rfl
 |d::r,b,h=>by
  let(a,c,h):=B8.mp h;let(bs,e,h):=B2.mp h;ext h;rw[Bf,<- dA c,<- dB e]
open J in
def
Kv{d:D}{k:KT}(h:DT d=Z k):d=kD k:=by
 unfold DT at h;split at h
 .next l=>
  let(c,b,h):=B2.mp h;ext h;rw[dB b];rfl
 .let(a,b,h):=B2.mp h;ext h;rw[dA b];rfl
def
uE(a:At):Jn (aD a)=Z a:=by ext a<;>rfl
def
dC:∀(l:U At),Nk (l.j aD)=Z l
 |[]=>rfl
 |a::l=>by rw[Bf];unfold Nk;rw[uE,dC l];rfl
def

OU(k:KT):DT (kD k)=Z k:=by
  cases k with
  | «at» a=>ext a<;>rfl
  |tup l=>show(Nk<|l.j aD).j KT.Q=_;rw[dC];rfl
def

ZHF:DT .Ε=Z (.at .Ε):=rfl
def

ZHJ(i:W'):DT (.u i)=Z (.at (.u i)):=rfl
def

ZHO(x:Ae):DT (.ω x)=Z (.at (.ω x)):=rfl
def
uF(a:At):UH (aD a)=a:=by ext a<;>rfl
def
uG(k:KT):Ou (kD k)=k:=by
 cases k with
 | «at» a=>ext a<;>rfl
 |tup l=>
  unfold kD Ou;induction l<;>grind [uF]
abbrev Bj:=U (KT×D)
variable{é:Bj}
def Zb:Bj->U D
 |[]=>[]
 |p::r=>kD p.1::p.2::Zb r
def EU:U D->O Bj
 |[]=>Z []
 |k::v::r=>(DT k).L λa=>(EU r).j ((a,v)::·)
 |_=>J
def

FV:∀é:Bj,EU (Zb é)=Z é
  |[]=>rfl
  |p::r=>by unfold Zb EU;rw[OU,FV r];rfl
def

ZHK:EU []=Z []:=rfl
def
HK:∀{xs:U D}{é:Bj},EU xs=Z é->xs=Zb é
 |[],_,h=>by ext h;rfl
 |[_],_,h=>by cases h
 |k::v::r,é,h=>by
  let(c,a,h):=B8.mp h;let(q,b,h):=B2.mp h;ext h;unfold Zb;rw[<- Kv a,<- HK b]
def
U8:∀é:Bj,Km (Zb é)=é.j (·.1)
 |[]=>rfl
 |p::r=>by unfold Zb Km;rw[uG,U8 r];rfl
def Zo:Bj->KT->O D
 |[],_=>J
 |t::r,k=>if t.1=k then Z t.2 else Zo r k
def E9:Bj->KT->D->Bj
 |[],_,_=>[]
 |t::r,k,v=>(if t.1=k then(t.1,v)else t)::E9 r k v
def ZT(é:Bj)(k:KT)(v:D):Bj:=if(Zo é k).υ=J' then E9 é k v else é++[(k,v)]
def Fs:KT->q'
 |.at _=>J'
 |_=>O'
def DU(k:KT)(é:Bj):q':=é.ϝ λp=>Fs p.1==Fs k
variable {K:Ap}{N:Fb}{H:Hp}
abbrev PD(K:Ap)(N:Fb)(H:Hp):Bj->U T3->V':=Paired λp t=>p.1=t.1/\AB K N H (kD p.1) t.2.1/\AB K N H p.2 t.2.2
def
dE{a:At}{v:V}(h:AB K N H (aD a) v):v=GQ a:=by ext a<;>simpa only[aD,AB,GQ]using h
def
dF:∀{l:U At}{vs:U V},Ad K N H (l.j aD) vs->vs=l.j GQ
 |[],_,h=>by simpa only[Dn,Ad]using h
 |a::l,vs,h=>by
  let(v,r,e,b,c):=h;rw[e,dE b,dF c];rfl
def
Kw{k:KT}{v:V}(h:AB K N H (kD k) v):E8 K H k v:=by
 cases k with| «at» a=>show dE h|tup l=>
  let(p,d,e,b,c):=h;rw[dF c]at b;show#[p,e,b]
def
Jo{k:KT}{v:V}(h:AC K N H (kD k) v):AB K N H (kD k) v:=by
 cases k with
 | «at» a=>ext a<;>show h
 |tup l=>show h
def
OV:∀{é:Bj}{vs:U V},Ad K N H (Zb é) vs->∃tr,vs=Eh tr/\PD K N H é tr
 |[],vs,h=>#[[],by simpa only[Zb,Ad,Eh]using h,.nil]
 |p::r,vs,h=>by
  let(v,t,e,a,b,i,c,d,f):=h;let(tr,g,q):=OV f;show#[(p.1,v,b)::tr,by rw[e,c,g];rfl,.Ο #[rfl,a,d] q]
def
PD.flat{tr:U T3}(h:PD K N H é tr):Ad K N H (Zb é) (Eh tr):=by
 induction h with
 |nil=>show Ad.Ϧ
 |cons h _ a=>show Ad.Ο h.2.1<|Ad.Ο h.2.2 a
def
PD.fst{tr:U T3}(h:PD K N H é tr):é.j (·.1)=tr.j (·.1):=by
 induction h with
 |nil=>rfl
 |cons h _ a=>rw[Bf,Bf,h.1,a]
def
PD.keys{tr:U T3}(h:PD K N H é tr):∀t∈tr,E8 K H t.1 t.2.1:=by
 induction h with|nil=>show λ_ h=>nomatch h|cons h _ b=>
  intro x a;rcases BJ.mp a with rfl|a
  .rw[<- h.1];show Kw h.2.1
  .show b x a
def L4(K:Ap)(N:Fb)(H:Hp):O D->O V->V'
 |some d,Z v=>AB K N H d v
 |none,J=>True
 |_,_=>False
def
PD.val{tr:U T3}(h:PD K N H é tr)(k:KT):L4 K N H (Zo é k) (Dd tr k):=by
 induction h with|nil=>show Ie|cons h _ a=>
  unfold Zo Dd;rw[h.1];split
  .show h.2.2
  .show a
def
L4.isS:∀{o:O D}{u:O V},L4 K N H o u->o.υ=u.υ
 |some _,Z _,_=>rfl
 |none,J,_=>rfl
 |some _,J,h=>h.ι
 |none,Z _,h=>h.ι
def
PD.rep{k:KT}{d:D}{v:V}(hd:AB K N H d v){tr:U T3}(h:PD K N H é tr):PD K N H (E9 é k d) (Im tr k v):=by
 induction h with|nil=>show .Ϧ|cons h _ a=>
  unfold E9 Im;rw[h.1];apply .Ο ?_ a;split
  .show#[rfl,h.1 ▸ h.2.1,hd]
  .show h
def
PD.put{tr:U T3}{k:KT}{d:D}{kv v:V}(h:PD K N H é tr)(a:AB K N H (kD k) kv)(hd:AB K N H d v):PD K N H (ZT é k d) (ET tr k kv v):=by
 unfold ZT ET;rw[(h.B k).isS];split
 .show h.rep hd
 .show Paired.snoc' #[rfl,a,hd] h
def
PD.hom{k:KT}:∀{é:Bj}{tr:U T3},PD K N H é tr->DU k é=J'->Jl k tr
 |_,_,.nil,_=>by ext k<;>show λ_ h=>nomatch h
 |p::é,t::tr,.cons ⟨g,_,_⟩ r,e=>by
  erw[DU,G0,C9]at e;let f:=PD.hom (k:=k) r e.2;let d:=e.1;rw[g]at d;cases k with
  | «at» a=>
   intro x c;rcases BJ.mp c with rfl|c
   .cases c:x.1 with
    | «at» b=>show#[b,rfl]
    |tup l=>rw[c]at d;ext d
   .show f x c
  |tup l=>
   intro x c;rcases BJ.mp c with rfl|c
   .cases c:x.1 with
    | «at» b=>rw[c]at d;cases d
    |tup l=>show#[l,rfl]
   .show f x c
def
Kx(h:Rd H a (.dct (Km (Zb é)) vs))(hd:Ad K N H (Zb é) vs):∃tr,C3 K H a tr/\PD K N H é tr:=by
 let(tr,rfl,p):=OV hd;rw[U8,p.fst]at h;show#[tr,#[h,p.keys],p]
def
L5{tr:U T3}(p:PD K N H é tr):CO K .d a (Zb é) (Eh tr)=Fq tr:=by
 unfold CO Fq;rw[U8,p.fst]
end
def Dq:D->D->O D
 |.lst b .d,y=>(EU b).L λa=>(DT y).L λk=>if DU k a then Zo a k else J
 |_,_=>J
def

Ro(é:Bj)(y:D):Dq (.X (Zb é) .d) y=(DT y).L λk=>if DU k é then Zo é k else J:=by simp[Dq]
def

ZGE(y:D):Dq (.X [] .d) y=(DT y).L λk=>J:=by simp[Dq,Zo]
def Dy(neg:q'):D->D->O D
 |y,.lst b .d=>(EU b).L λa=>(DT y).L λk=>if DU k a then Z (.bl (neg != (Zo a k).υ))else J
 |_,_=>J
def

L6(neg:q')(é:Bj)(y:D):Dy neg y (.X (Zb é) .d)=(DT y).L λk=>if DU k é then Z (.bl (neg != (Zo é k).υ))else J:=by simp[Dy]
def

ZHc(neg:q')(y:D):Dy neg y (.X [] .d)=(DT y).L λk=>Z (.bl neg):=by simp[Dy,Zo,DU]
variable {K:Ap}{M:Fb}{e a b:Expr}{f g:AH}
open J in
def
uH:DE K (dt K) Dq:=by
 intro N H x y s i d Q t f g e q;unfold Dq at e;split at e
 .next u=>
  let(j,l,e):=B8.mp e;cases b:DT i with|none=>rw[b]at e;cases e|some k=>
   rw[b]at e;let(m,e):=ZV e;rw[HK l]at f;let(p,v,n,r,hd):=f;let(tr,o,h):=Kx r hd;rw[Kv b]at g;let a:=h.B k;rw[e]at a;cases c:Dd tr k with
   |none=>rw[c]at a;show a.ι
   |some w=>rw[c]at a;show#[p,tr,k,w,n,o,h.hom m,Kw<|Jo g,c,q w H (Ak.χ H) a]
 .cases e
open J in
def
U9{neg:q'}:DE K (U7 K neg) (Dy neg):=by
 intro N H x y g n d Q o b c e q;unfold Dy at e;split at e
 .next s=>
  let(h,i,e):=B8.mp e;cases a:DT g with|none=>rw[a]at e;cases e|some k=>
   rw[a]at e;let(j,e):=ZV e;ext e;rw[HK i]at c;let(p,t,l,r,hd):=c;let(tr,m,f):=Kx r hd;rw[Kv a]at b;apply#[p,tr,k,l,m,f.hom j,Kw<|Jo b,?_];rw[<- (f.B k).isS];show q _ H (Ak.χ H) FU
 .cases e
def
uI(e:X.A.κ+64<Aw)(c:JE X a (tP X.K M H0 f))(d:JE X b (tP X.K M H0 g))(i:On b):JE X (.ψ a b pos) (tD X.K M H0 (Za Dq f g)):=#[have c:=c.h;let d:=d.h;bS (uB e) uH c d i]
def
uJ(e:X.A.κ+64<Aw)(c:JE X a (tP X.K M H0 f))(d:JE X b (tP X.K M H0 g))(i:↥(Gr .In b=O':16)):JE X (.Κ a [.In] [b] pos) (tD X.K M H0 (Za (Dy O') f g)):=#[have c:=c.h;let d:=d.h;QW (du e) U9 c d i]
def
uK(e:X.A.κ+64<Aw)(c:JE X a (tP X.K M H0 f))(d:JE X b (tP X.K M H0 g))(i:↥(Gr .In b=O':16)):JT X (.Κ a [.In] [b] pos) (BP X.K M H0 λρ=>AM (Za (Dy O') f g ρ)):=#[have c:=c.h;let d:=d.h;HA (du e) U9 c d i]
def
uL(e:X.A.κ+64<Aw)(c:JE X a (tP X.K M H0 f))(d:JE X b (tP X.K M H0 g))(i:↥(Gr .NotIn b=O':16)):JT X (.Κ a [.NotIn] [b] pos) (BP X.K M H0 λρ=>AM (Za (Dy J') f g ρ)):=#[have c:=c.h;let d:=d.h;HA (uC e) U9 c d i]
def
uM:JE X (.Dict [] [] pos) (Fm .d K M H0 λ_=>Z []):=#[Jm.ν λf H Q a p b=>by
 let(g,c,R,e,q):=a;ext e;show Ow (xs:=[]) (vs:=[]) (fl:=.d) (Ak.χ H) b Ad.Ϧ q]
def HL(i:I)(ok b:O D)(ρ:VE):C8:=match FS ρ i,ok,b with
 |some c,Z y,Z d=>match EU c,DT y with
  |some a,Z k=>if DU k a&&decide (a.a<AE)then .α (ρ.Χ i (.τ (Zb (ZT a k d)) .d))else .ώ
  |_,_=>.ώ
 |_,_,_=>.ώ
open J in
def
uN{i:I}{x:Ae}{b c:Az}{j e:Expr}{fi f:AH}(T:X.A.κ+64<Aw)(p:JE X j (tP X.K M H0 fi))(r:JE X e (tD X.K M H0 f))(S:↥(NV X i x:8)) (Y:↥(∀v,assign (.ψ (.γ x b) j c) X.G v=(do
   let o <- EN [v] (As (.γ x b) X.G);let s <- EN [v,o] (As j X.G);standAt c
   EN [v,o,s] (setItem o s v)
   release [v,o,s] []):7)) (hs:↑(N9 [.ψ (.γ x b) j c] e pos.ϩ X.G=Am O')) (m:↑(Oa [.ψ (.γ x b) j c] e X.G=Am J)) (h1:↑((Gu [.ψ (.γ x b) j c] X.G).j (·.2)=[assign (.ψ (.γ x b) j c) X.G])):JS X (.ϥ [.ψ (.γ x b) j c] e pos) (tS X.K M H0 λρ=>HL i (fi ρ) (f ρ) ρ):=#[have p:=p.h;let r:=r.h;(N8 r (Uj (GU S) p (dy T) Y) hs m h1).ν λD' Y' H z0=>by
 let(ρ,R,q):=z0;try dsimp only at q
 unfold HL at q;split at q
 .next xs y d E t hf=>
  split at q
  .next u k z hk=>
   split at q
   .next B=>
    rw[C9,decide_eq_true_eq]at B;apply#[ρ,d,R,hf,λv H1 G hv=>?_];let C:=R.st G;let ex:=HK z;subst ex;let(a,vs,W,z1,z2,F,L):=C.Ϡ i _<|Oz E;apply⟨.ref a,(AG W),ρ,y,C,t,λw H2 l m=>?_⟩;let(tr,dc,pd):=Kx (K:=X.K) (.U<|l _ _ F) (L.δ l);let(n,rfl,g):=OV<|L.δ l;rw[Kv hk]at m;let N:=g.put (k:=k) (Jo m) (hv.δ l);let(P,Q):=(C.st l).chg (fl2:=.d) (ys:=Zb<|ZT u k d) (ws:=Eh<|ET n k w v) (Oz E) (AG W) N.flat;rw[L5 N]at P Q;apply⟨a,n,k,rfl,?_,g.keys,g.hom B.1,Kw<|Jo m,Hm g ▸ B.2,q _ _ P<|(Step.ϑ<|G.I l).I Q⟩;rw[<- L5 g];show l _ _ F
   .show BV q
  .show BV q
 .show BV q]
end
def
dG(k:KT)(v:D)(k':KT):∀é:Bj,Zo (E9 é k v) k'=if k=k' then(Zo é k').j (λ_=>v)else Zo é k'
 |[]=>by simp[E9,Zo]
 |t::r=>by
  let a:=dG k v k' r;grind [E9,Zo]
def
dH(k:KT):∀(a b:Bj),Zo (a++b) k=match Zo a k with|some v=>Z v|none=>Zo b k
 |[],b=>by simp[Zo]
 |t::r,b=>by
  let c:=dH k r b;grind [Zo]
def
Nl(é:Bj)(k:KT)(v:D)(k':KT):Zo (ZT é k v) k'=if k=k' then Z v else Zo é k':=by
 unfold ZT;by_cases h:(Zo é k).υ=J'
 .rw[if_pos h,dG];by_cases e:k=k'
  .subst e;cases a:Zo é k with
   |none=>rw[a]at h;cases h
   |some w=>rfl
  .rw[if_neg e,if_neg e]
 .grind [dH,Zo]
def
dI{k:KT}{v:D}{p:KT×D}:∀{é:Bj},p∈E9 é k v->p∈é\/p=(k,v)
 |[],h=>nomatch h
 |t::r,h=>by
  rcases BJ.mp h with a|h
  .grind [Bo]
  .rcases dI h with h|h
   .show .U<|Bv _ h
   .show .φ h
def
uO{k:KT}{v:D}{p:KT×D}(h:p∈ZT é k v):p∈é\/p=(k,v):=by grind [ZT,dI]
def
dJ(k:KT)(v:D):∀é:Bj,(E9 é k v).a=é.a
 |[]=>rfl
 |t::r=>by simp[E9,dJ k v r]
def
Rp(é:Bj)(k:KT)(v:D):(ZT é k v).a<=é.a+1:=by
 unfold ZT;split
 .rw[dJ];show HJ (List.a é) 1
 .simp
def
Gz(a:At)(h:∀p∈é,Fs p.1=J'):DU (.at a) é=J':=by
 unfold DU;rw[Dp];intro p b;rw[h p b];rfl
def
L7(l:U At)(h:∀p∈é,Fs p.1=O'):DU (.Q l) é=J':=by
 unfold DU;rw[Dp];intro p a;rw[h p a];rfl
def tX(K:Ap)(M:Fb)(H0:Hp)(f:VE->O (D×VE)):TE:=λb H Q=>∃e d a,Bw K M H0 e b H/\f e=Z (d,a) /\
 ∀v c,Bw K M H0 a b c->Step M (Nf M e b) (Nf M a b) H c->AB K (Nf M a b) c d v->Q v c
def dK(K:Ap)(M:Fb)(H0:Hp)(t:VE->O (q'×VE)):TT:=λc H Q=>∃d b a,Bw K M H0 d c H/\t d=Z (b,a) /\
 ∀e,Bw K M H0 a c e->Step M (Nf M d c) (Nf M a c) H e->Q b e
def Jp(i:I)(c e:AH):VE->O (D×VE):=λb=>match FS b i,c b,e b with
 |some f,Z y,Z d=>match EU f,DT y with
  |some a,Z k=>if DU k a&&decide (a.a<AE)then
    (match Zo a k with
    |some v=>Z (v,b)
    |none=>Z (d,b.Χ i (.τ (Zb (ZT a k d)) .d)))
   else J
  |_,_=>J
 |_,_,_=>J
variable {K:Ap}{M:Fb}{e a b ek ev:Expr}{f g fk fv:AH}
open J in
def
dL{i:I}{x:Ae}{e g c:Az}(hu:X.A.κ+64<Aw)(z:JE X ek (tP X.K M H0 fk))(j:JE X ev (tD X.K M H0 fv))(hN:↥(NV X i x:8)) (l:↑(Hr (.γ x e) "setdefault" X.G (As (.γ x e) X.G)=As (.γ x e) X.G)) (p:↑(((AF c (AQ [ek,ev] X.G)).ϝ (λx=>!x.1)&&(Hs c (Ht [] X.G)).ϝ (λx=>x.1.υ) && decide ([ek,ev].a+([]:U E5).a+(if([]:U E5).Ω then 0 else 1)<30))=J')) (m:↑((g.endLine==c.ϩ)=J')) (r:↥(AQ [ek,ev] X.G=(O',As ek X.G)::AQ [ev] X.G:12)) (t:↥(AQ [ev] X.G=(O',As ev X.G)::AQ [] X.G:12)) (B:↑((AF c (AQ [ev] X.G)).any (·.1)=O')):JE X (.Φ (.η (.γ x e) "setdefault" g) [ek,ev] [] c) (tX X.K M H0 (Jp i fk fv)):=#[have z:=z.h;let j:=j.h;(Kg PySem.F.plainAttrs_dict dz PySem.F.type_dict_setdefault (uD hu) (GU hN) (EQ z (EQ j Bq t) r) l p m r B).ν λY' H Q z0=>by
  let(Y,d,ρ',R,ex,q):=z0;unfold Jp at ex;split at ex
  .next xs y dv hr C E=>
   split at ex
   .next n k G zA=>
    let(P,ex):=ZV ex;rw[C9,decide_eq_true_eq]at P;let L:=HK G;subst L;let(a,vs,e1,z1,z2,z3,z4):=R.Ϡ i _<|Oz hr;apply⟨.ref a,(AG e1),(.inr<|.inr ⟨rfl,_,_,.inl z3⟩),Y,y,R,C,λw H1 s1 N=>⟨Y,dv,R.st s1,E,λv H2 S hv=>?_⟩⟩;let s:=s1.I S;let(tr,rfl,o):=OV<|z4.same s;rw[Kv zA]at N;let b:=o.val k;apply#[a,tr,k,w,v,rfl,rfl,?_,o.keys,o.hom P.1,Kw<|Jo<|N.same S,Hm o ▸ P.2,λu T=>?_,λhn=>?_]
    .rw[<- L5 o];show s _ _ z3
    .rw[T]at b;cases f:Zo n k with|none=>rw[f]at b;show b.ι|some d0=>
      rw[f]at b ex;ext ex;show q u H2 (R.st s) (Step.ϑ s) b
    .rw[hn]at b;cases f:Zo n k with|some d0=>rw[f]at b;show b.ι|none=>
      rw[f]at ex;ext ex;let pp:=o.put (k:=k) (Jo<|N.δ S) hv;let(R3,W):=(R.st s).chg (fl2:=.d) (ys:=Zb<|ZT n k d) (ws:=Eh<|ET tr k w v) (Oz hr) (AG e1) pp.flat;rw[L5 pp]at R3 W;show q v _ R3 ((Step.ϑ s).I W)<|AB.Ϙ W d v hv
   .cases ex
  .cases ex]
def OW(fx:VE->O (D×VE))(g:AH):VE->O (q'×VE):=λc=>match fx c with
 |some (d,a)=>match g a with
  |some y=>(AM (Cc d y)).j λb=>(b,a)
  |none=>J
 |none=>J
open J in
def
uP(n:X.A.κ+64<Aw)(f:JE X a (tX X.K M H0 fx))(i:JE X b (tP X.K M H0 g)):JT X (.Κ a [.NotEq] [b] pos) (dK X.K M H0 (OW fx g)):=#[have f:=f.h;let i:=i.h;(aN (cy n) f i<|Gq _ (by ext) (by ext)).mono λo H Q r=>by
 let(s,l,c,R,ex,q):=r;unfold OW at ex;split at ex
 .next d t x=>
  split at ex
  .next y z=>
   let(L,B,ex):=B2.mp ex;ext ex;apply#[s,d,c,R,x,λv N j C E=>#[c,y,j,z,λu G e k=>?_]];show cA (Nf M c o) G v u d y (.bl l) _ (j.st e).nh (E.p.δ e) k (M0 B) λw P m F=>by
    show#[l,F,q P ((j.st e).st m)<|C.I<|Step.ϑ<|e.I m]
  .cases ex
 .cases ex]
def Ky(c:O (q'×VE))(b d:Av):C8:=match c with
 |some (J',a)=>b a
 |some (O',a)=>d a
 |none=>.ώ
def
uQ{c:Expr}{g i:U Ay}{t:VE->O (q'×VE)}{j l:Av}(b:JT X c (dK K M H0 t))(d:JB X g (tS K M H0 j))(e:JB X i (tS K M H0 l)):JS X (.If c g i pos) (tS K M H0 λρ=>Ky (t ρ) j l):=#[have b:=b.h;let d:=d.h;let e:=e.h;(Uh b d e).ν λo r H n=>by
 let(ρ,R,q):=n;try dsimp only at q
 cases f:t ρ with|none=>rw[f]at q;show BV q|some p=>
  let(k,a):=p;rw[f]at q;apply#[ρ,k,a,R,f,λs m S=>?_];cases k with
  |true=>apply LR ?_;show#[a,m,Ca.v0 S q]
  |false=>apply LS ?_;show#[a,m,Ca.v0 S q]]
end
open PySem.W
section
variable(lt:I->I->q')
structure WO(n:I):V' where
 asym:∀a b,a<n->b<n->lt a b=J'->lt b a=O'
 neg:∀a b c,a<n->b<n->c<n->lt a c=J'->lt a b=J'\/lt b c=J'
def OY(a b:I):V':=lt b a=O'
end
variable {lt:I->I->q'}{n:I}(W:WO lt n)
include W
def
WO.refl{a:I}(b:a<n):OY lt a a:=by
 unfold OY;cases h:lt a a with
 |false=>rfl
 |true=>have:=W.asym a a b b h;rw[h]at this;ext this
end
abbrev Au(p:Array I)(i:I):I:=p.β i 0
def uR(lt:I->I->q')(p:Array I)(k:I):V':=∀i j,i<=j->j<k->OY lt (Au p i) (Au p j)
def Bs(n:I)(p:Array I):V':=p.Perm (Bl n).E
def
Bs.size{n:I}{p:Array I}(h:Bs n p):p.o=n:=by have:=h.size_eq;exists this
def
Bs.lt{n:I}{p:Array I}(h:Bs n p){i:I}(c:i<n):Au p i<n:=by
 let b:i<p.o:=LK c h.o.Γ;have:=(h.Ϫ (a:=p[i])).mp (Array.getElem_mem b);simp_all
def
Jq{p q:Array I}{i:I}(h:p[i]?=q[j]?):Au p i=Au q j:=by
 simp_all
def
L8{p:Array I}{i:I}(a:j<=p.o)(k:I):Au (kas_rev p i j) k=if i<=k/\k<j then Au p (i+j-1-k)else Au p k:=by
 have:=getElem?_mirror_all (xs:=p) (i:=i) (j:=j) a k;by_cases h:i<=k/\k<j
 .rw[if_pos h]at this ⊢;show Jq this
 .rw[if_neg h]at this ⊢;show Jq this
def
Va{p:Array I}{k d:I}(b:k<p.o)(hd:d<=k)(i:I):Au (bubble p k d) i=if i=k-d then Au p k else if k-d<i/\i<=k then Au p (i-1)else Au p i:=by
 have:=getElem?_bubble (xs:=p) (src:=k) b d hd i;by_cases h:i=k-d
 .rw[if_pos h]at this ⊢;show Jq this
 .rw[if_neg h]at this ⊢;by_cases a:k-d<i/\i<=k
  .rw[if_pos a]at this ⊢;show Jq this
  .rw[if_neg a]at this ⊢;show Jq this
def
Bs.rev{n:I}{p:Array I}(h:Bs n p)(i j:I):Bs n (kas_rev p i j):=(mirror_perm p i j _).I h
def
Bs.bub{n:I}{p:Array I}(h:Bs n p)(k d:I):Bs n (bubble p k d):=(bubble_perm p k d).I h
variable {lt:I->I->q'}{n:I}(W:WO lt n){cmp:I->I->(q'->Ab->V')->Ab->V'}{s:Ab}(hc:∀i j C,i<n->j<n->C (lt i j) s->cmp i j C s)
include W hc
open J in
open J in
open J in
open J in
end
variable {prog:AN}{w:Ai}{A:Ag}{s:Ab}
def
uS{l b:Ac}{items a:Array Aa}{r:q'}{n n2:I}{c:O Ac}{f d:Array (O Aa)}{Q:q'->Ab->V'}(e:s.r.R l=Z {cls:=.ε "list",dict:=dd,data:=.Ϲ items n,slots:=f})(g:s.r.R b=Z {cls:=.ε "list",dict:=c,data:=.Ϲ a n2,slots:=d})(i:F8 A.in1 s items.J a.J r) (j:A.κ<Aw) (h:Q r s):wpAny (Af prog w) A (oneLt' J' (.C l) (.C b)) Q E s:=by
 rw[oneLt'_eq];apply Ao<|wpAny_cRoomFor j ?_;apply Ao<|wpAny_callSpecialIfBound?_slot (T:="list") #[_,e,rfl] PySem.F.slot_list_lt (BW PySem.F.slot_list_lt #[_,e,rfl] PySem.F.entry_list_lt (PySem.F.args_list_lt_2 _ _) (bL l b items a n n2 dd c f d r) #[e,g,i,?_]);show J6 h
end
variable {H:Hp}{s:Ab}{N:Fb}
def
uT(S:Inv X ß Y' H s){prog:AN}{w:Ai}(A:Ag)(hu:A.κ+40<Aw)(b fin:q'){Q:q'->Ab->V'}:∀(xs ys:U D)(a c:U V)(d f:U Aa)(i:I)(r:q'),Gb (ltN 5) xs ys=Z r->Ad X.K N H xs a->Ad X.K N H ys c->Aq a d->Aq c f->fin=decide (xs.a<ys.a)->(b=O'\/i≠0\/((∀x,xs.head?=Z x->∃n,x=.u n)/\∀y,ys.head?=Z y->∃n,y=.u n))->Q r s->KatLex prog w A b fin Q (d.zip f) i s:=by
 intro xs;induction xs with
 |nil=>
  intro ys a c d f i r h m o C E t T q;erw[Ad]at m;subst m;ext C;apply kat_nil ?_;cases ys with
  |nil=>erw[Gb]at h;ext h;rw[t];show q
  |cons y ys=>erw[Gb]at h;ext h;rw[t];exists q
 |cons x xs R=>
  intro ys a c d f i r h m o C E t T q;erw[Ad]at m;let(w1,t1,Y,g,G):=m;subst Y;cases C with
  |cons j F=>
   cases ys with
   |nil=>
    erw[Ad]at o;subst o;ext E;erw[Gb]at h;ext h;show kat_nil (by rw[t];exists q)
   |cons y ys=>
    erw[Ad]at o;let(w2,t2,e2,k,L):=o;subst e2;cases E with
    |cons l M=>
     let(P,h):=ZV h;rw[C9]at P;let v:=(OQ S ZS A x y _ _ _ _ (by unfold ZS;lia) P.1 P.2 g.p k.p j l).2.1;apply kat_cons ?_;split at h
     .next e=>
      rw[e]at v;apply v prog w _ _ ?_;unfold KatGo;show R ys _ _ _ _ (i+1) r h G L F M (by rw[t];simp) (.φ<|.U<|Cj<|Nat.zero_ne_add_one i) q
     .next e=>
      rw[Bool.not_eq_true]at e;rw[e]at v;apply v prog w _ _ ?_;apply kat_no ?_;by_cases B:(b&&i==0)=J'
      .rw[B];let u:b=J'/\i=0:=by exists B
       rcases T with z|z|⟨z1,z2⟩
       .rw[u.1]at z;ext z
       .show absurd u.2 z
       .let(n1,rfl):=z1 x rfl;let(n2,rfl):=z2 y rfl;let g1:=g.p.u;let g2:=k.p.u;subst g1 g2;let(k1,rfl):=j;let(k2,rfl):=l;ext h;show oneLt_int q
      .rw[Bool.not_eq_true]at B;rw[B];show kat_one _ _<|UW S 5 A x y _ _ _ _ r (by unfold ZS;lia) h g.p k.p j l prog w _ (PySem.W.BoolBack Q) q
def CF(b:O q')(k:D):V':=match b with
 |some J'=>∃i r,k=.Q (.u i::r)
 |some O'=>∃f r,k=.Q (.Q f::r)
 |none=>∃r,k=.X r
abbrev OZ:O q'->Gd
 |some b=>tuples' b
 |none=>oneType'
def
CF.tup{b:q'}{k:D}(h:CF (Z b) k):∃f r,k=.Q (f::r):=by
 cases b with
 |true=>let(i,r,e):=h;show#[_,_,e]
 |false=>let(i,r,e):=h;show#[_,_,e]
def
uU(S:Inv X ß Y' H s){prog:AN}{w:Ai}(A:Ag)(B:A.κ+40<Aw)(b r:q'){k1 k2:D}{t u:V}{v x:Aa}{Q:q'->Ab->V'}(h:ltN 6 k1 k2=Z r)(y:CF (Z b) k1)(z:CF (Z b) k2) (C:AB X.K N H k1 t) (G:AB X.K N H k2 u) (F:RelV t v) (L:RelV u x) (q:Q r s):wpAny (Af prog w) A (keyLt' (tuples' b) v x) Q E s:=by
 let(M,P,i):=y.Q;let(T,R,j):=z.Q;subst i j;let(a1,k,i,Y,d):=C;let(a2,l,j,q2,e):=G;subst i j;ext F;ext L;let(a,f,(o1,m,_,n1,n),_):=S.ϗ Y;let(c,g,(o2,o,_,n2,p),_):=S.ϗ q2;apply kat_lt m n o p ?_;have:=uT S (prog:=prog) (w:=w) (N:=N) A B b (decide<|a.E.o<c.E.o) (Q:=Q) (M::P) (T::R) k l a c 0 r h d e f g (by rw[B3,B3,<- f.a,<- g.a,<- d.a,<- e.a]) (by
  cases b with|false=>show .U rfl|true=>
   let(i1,_,i):=y;let(i2,_,j):=z;grind) q
 exists this
def
uV(S:Inv X ß Y' H s){prog:AN}{w:Ai}(A:Ag)(R:A.κ+40<Aw)(b:O q')(r:q'){k1 k2:D}{o t:V}{v:Aa}{Q:q'->Ab->V'}(h:ltN 6 k1 k2=Z r)(x:CF b k1)(y:CF b k2) (z:AB X.K N H k1 o) (B:AB X.K N H k2 t) (C:RelV o u) (G:RelV t v) (q:Q r s):wpAny (Af prog w) A (keyLt' (OZ b) u v) Q E s:=by
 cases b with|some b=>show uU S A R b r h x y z B C G q|none=>
  let(Y,a):=x;let(g2,c):=y;subst a c;let(a1,vs1,a,q1,d):=z.p;let(a2,vs2,c,q2,e):=B.p;subst a c;ext C;ext G;let(F,f,((cls,dd,data,sl),n1,g,i,L,j),_):=S.Ϩ q1;let(M,k,((P,dd2,data2,sl2),n2,l,m,T,n),_):=S.Ϩ q2;subst i j m n;show uS g l (by exists cE S 5 (UW S 5) A (by unfold ZS;lia) Y g2 _ _ _ _ h d e f k) ∅ q
open J in
def
uW(S:Inv X ß Y' H s){M:Model}(b:q'):∀(c:U D)(é:U V)(us:U Aa),Ad X.K N H c é->Aq é us->(∀k∈c,CF (Z b) k)->∃fs,KatTups s.r us fs/\fs.a=us.a/\∀v∈fs,Looks M s.r (typeOf v) (.ε (if b then "int" else "tuple")):=by
 intro c;induction c with
 |nil=>
  intro é us d r _;erw[Ad]at d;subst d;ext r;show#[[],KatTups.Ϧ,rfl,λ_ h=>nomatch h]
 |cons k c L=>
  intro é us d r C;erw[Ad]at d;let(v,t,e,P,R):=d;subst e;cases r with
  |cons Y rt=>
   let(fs,h1,h2,h3):=L t _ R rt λk l=>C k<|Bv _ l;let m:=C k Bo;let(f,g,e):=m.Q;subst e;let(a,vs,e,q,dl):=P;subst e;ext Y;let(its,x,(o,ho,hc,n,hd),_):=S.ϗ q;let(w,vs',e,G,_):=dl;subst e;cases x with
   |cons j rt1=>
    rename_i u us';apply#[u::fs,KatTups.Ο ho hc hd (by simp) h1,by simp[h2],λv y=>?_];rcases BJ.mp y with e|y
    .subst e;intro A Q E s' l F;cases b with
     |true=>
      let(i,_,e):=m;ext e;let g:=G.p.u;subst g;let(t,rfl):=j;show MS (T:="int") rfl F
     |false=>
      let(i,_,e):=m;ext e;let(a2,vs2,rfl,q2,_):=G;ext j;let(_,_,(o2,z,B,_),_):=S.ϗ q2;show MS (T:="tuple") #[o2,l _ _ z,B] F
    .show h3 v y
def
uX(C:Inv X ß Y' H s){M:Model}:∀(b:U D)(é:U V)(us:U Aa),Ad X.K N H b é->Aq é us->(∀k∈b,CF J k)->∀u∈us,Looks M s.r (typeOf u) (.ε "list"):=by
 intro b;induction b with
 |nil=>
  intro é us d r _;erw[Ad]at d;subst d;ext r;simp_all
 |cons k b i=>
  intro é us d r h;erw[Ad]at d;let(v,t,e,j,l):=d;subst e;cases r with
  |cons m rt=>
   intro u c;rcases BJ.mp c with e|c
   .subst e;let(g,rfl):=h k Bo;let(a,z,rfl,q,_):=j.p;ext m;let(_,_,(o,n,w,x,_),_):=C.Ϩ q;intro A Q E B f y;show MS (T:="list") #[o,f _ _ w,x] y
   .show i t _ l rt (λk f=>h k<|Bv _ f) u c
def
uY(j:Inv X ß Y' H s){M:Model}{A:Ag}(b:O q')(a:U D)(é:U V)(us:U Aa)(d:Ad X.K N H a é)(r:Aq é us)(c:∀k∈a,CF b k)(e:2<=us.a){Q:Gd->Ab->V'}(q:Q (OZ b) s):wpAny M A (keyKind' us.E) Q E s:=by
 cases b with
 |some b=>
  let(h,f,i,g):=uW j (M:=M) b a é us d r c;apply kat_kind f ∅ g (by ext b<;>rfl) ?_;rw[show(J2 (if b=J' then "int" else "tuple") != J2 "tuple")=b by ext b<;>rfl];show q
 |none=>show kas_kind e (uX j a é us d r c) rfl rfl q
structure Off(X:Cx)(ß:A1)(a:Ac):V' where
 nL:a≠X.G.Λ
 s0:X.s₀.r.O.o<=a
 cl:∀x c,X.G.ϣ.S x=Z c->c≠a
 pn:∀p∈X.pn++ß,p.1≠a
 nf:a∉X.fs
def
Inv.off(g:Inv X ß Y' H s)(h:s.r.O.o<=a):Off X ß a where
 nL:=λe=>by have b:=g.lt;rw[<- e]at b;show absurd (BY b h)<|HZ _
 s0:=Bu g.sz h;cl:=λx c e z=>by
  let(v,o,d,_):=g.Υ x c e;let b:=BB d;rw[z]at b;show absurd (BY b h)<|HZ _
 pn:=λp f z=>by
  let b:=BB (g.pin p f).1;rw[z]at b;show absurd (BY b h)<|HZ _
 nf:=g.nofs h
def
Inv.pin1{o:Obj}(g:Inv X ß Y' H s)(c:H a=J)(f:Off X ß a)(e:s.r.R a=Z o)(d:∀v,o.jk≠.Υ v):Inv X (ß++[(a,o)]) Y' H s:=g.pins_of λp b=>by
  rcases Cz.mp b with b|b
  .show g.pin p<|Dv _ b
  .erw[CC]at b;subst b;show#[e,c,f.nL,f.nf,d]
def
Inv.catch{d:U Aa}{n:I}(l:Inv X ß Y' H s)(h:H a=J)(f:Off X ß a)(e:s.r.R a=Z {cls:=.ε "list",data:=.Ϲ d.E n})(i:Aq vs d)(hz:vs.a<=AE):Inv X ß Y' (AX H a (.X vs)) s:=by
 let ne:∀b u,H b=Z u->b≠a:=λb u q z=>by rw[z,h]at q;ext q
 have:=l.Ϙ (h':=s.r) (g':=s.gens) (d':=s.drawn) (t':=s.Ζ) (ch:=[a]) (H':=AX H a<|.lst vs) (λb g=>by
   let e:b=a:=by exists g
   subst e;show#[.φ f.s0,f.nL,f.cl,f.pn]) (λb o _ _ _ q _=>q) (λb o _ _ _ q _=>#[o.slots,q]) (λb o g _ n=>by rw[Zr<|λz=>g (by simp[z])];show n) (λb o _ q=>#[o,q])
  (λb j q=>Zr (ne _ _ q) ▸ q) (λb o u q=>Zr (ne _ _ q) ▸ q) (λb A q=>#[(T' []),by rw[Zr<|ne _ _ q,q];simp]) (λm k=>k) (λb u q=>by
   by_cases g:b=a
   .subst g;rw[Z5]at q;ext q;show#[hz,d,n,i,e]
   .rw[Zr g]at q;show(l.ϧ b u q).stay (λc v _ r=>r) (λc r=>Zr (ne _ _ r) ▸ r) λc j r=>Zr (ne _ _ r) ▸ r) l.bare
 show this
end
def D2(F:U Sl->O Rv)(x:D):D:=((F [.B x]).j Cw).β .Ε
def CZ(F:U Sl->O Rv)(x y:D):q':=match ltN 6 (D2 F x) (D2 F y)with
 |some J'=>J'
 |_=>O'
def
dM{F:U Sl->O Rv}{x y:D}{r:q'}(h:ltN 6 (D2 F x) (D2 F y)=Z r):CZ F x y=r:=by
 unfold CZ;rw[h];ext r<;>rfl
def Kz:q'->An->Array An->I->I->I->StateT Ah BI (O I):=sortPriv% PySem.Builtin.gallop
def O0(left:q')(a:An)(arr:Array An)(base i:I):StateT Ah BI (O q'):=do
 let x <- BC arr (base+i)
 if left then lt' x a else return(<- lt' a x).j (!·)
def Rq(left:q')(c:An)(arr:Array An)(base n lo a:I):StateT Ah BI (O I):=do
 let mut lo:=lo
 let mut a:=a
 for _ in [0:n]do
  if lo≥a then break
  let m:=lo+(a-lo)/2
  let Z b <- O0 left c arr base m|return J
  if b then lo:=m+1 else a:=m
 return Z a
def
uZ(left:q')(d:An)(arr:Array An)(base n hint:I):Kz left d arr base n hint=(do
 let mut a:=0
 let mut c:=1
 let Z right <- O0 left d arr base hint|return J
 if right then
  let b:=n-hint
  for _ in [0:n]do
   if c≥b then break
   let Z f <- O0 left d arr base (hint+c)|return J
   if !f then break
   a:=c
   c:=2*c+1
  Rq left d arr base n (hint+a+1) (hint+min c b)
 else
  let b:=hint+1
  for _ in [0:n]do
   if c≥b then break
   let Z e <- O0 left d arr base (hint-c)|return J
   if e then break
   a:=c
   c:=2*c+1
  Rq left d arr base n (hint+1-min c b) (hint-a)):=rfl
def Lo(n:I)(p:Array I):V':=∀i,i<p.o->Au p i<n
variable {prog:AN}{w:Ai}{A:Ag}{E:Aa->Ab->V'}{s:Ab}{item:I->An}{r:I->I}{n:I}
def L9(prog:AN)(w:Ai)(A:Ag)(E:Aa->Ab->V')(s:Ab)(κ:Gd)(item:I->An)(r:I->I)(n:I):V':=
 ∀(i j:I),i<n->j<n->∀(Q:O q'->Ah->V') (st:Ah),kindOf st=κ->Q (Z (decide (r i<r j))) st->wpS (Af prog w) A E s (lt' (item i) (item j)) Q st
def
ZU{p:Array I}{i:I}(a:i<p.o){Q:An->Ah->V'}{st:Ah}(h:Q (item (Au p i)) st):wpS (Af prog w) A E s (BC (p.j item) i) Q st:=by
 rw[elem'_eq]
 let e:(p.j item)[i]?=Z (item (Au p i)):=by
  let e:Au p i=p[i]:=by simp[Au,Jr,a]
  rw[e];simp[a]
 rw[e]
 show Bk h
variable(H:L9 prog w A E s κ item r n)
include H
def
Rr{left:q'}{k:I}{p:Array I}{base i:I}(b:k<n)(c:Lo n p)(a:base+i<p.o){Q:O q'->Ah->V'}{st:Ah}(d:kindOf st=κ)
  (h:Q (Z (decide (r (Au p (base+i))<if left then r k else r k+1))) st):wpS (Af prog w) A E s (O0 left (item k) (p.j item) base i) Q st:=by
 apply A3 (ZU a ?_)
 cases left with
 |true=>show H _ _ (c _ a) b _ _ d h
 |false=>
  apply A3 (H _ _ b (c _ a) _ _ d (Bk ?_))
  let e:(Z (decide (r k<r (Au p (base+i))))).j (!·)=Z (decide (r (Au p (base+i))<r k+1)):=by
   congr 1
   by_cases h:r k<r (Au p (base+i))
   .rw[decide_eq_true h,decide_eq_false (Kh.Ϛ h)];rfl
   .rw[decide_eq_false h,decide_eq_true (Nm h)];rfl
  rw[e]
  show h
def
dN{left:q'}{k:I}{p:Array I}{base m lo e:I}(F:k<n)(L:Lo n p)(Y:base+m<=p.o)(C:∀i j,i<=j->j<m->r (Au p (base+i))<=r (Au p (base+j)))
  {c:I} (M:c=if left then r k else r k+1) (G:lo<=e) (q:e<=m) (N:∀i,i<lo->r (Au p (base+i))<c) (K:∀i,e<=i->i<m->¬ r (Au p (base+i))<c)
  {Q:O I->Ah->V'} {st:Ah} (T:kindOf st=κ)
  (h:∀t,t<=m->(∀i,i<t->r (Au p (base+i))<c)->(∀i,t<=i->i<m->¬ r (Au p (base+i))<c)->Q (Z t) st):wpS (Af prog w) A E s (Rq left (item k) (p.j item) base m lo e) Q st:=by
 unfold Rq
 dsimp only
 apply A3 (wpS_mono (Ma (λx b d=>d=st/\∃l u,b=(J,l,u)/\l<=u/\u<=m/\u+x<=m+l/\(∀i,i<l->r (Au p (base+i))<c)/\(∀i,u<=i->i<m->¬ r (Au p (base+i))<c))
  (Q:=λb d=>d=st/\∃l u,b=(J,l,u)/\u<=m/\(∀i,i<u->r (Au p (base+i))<c)/\(∀i,u<=i->i<m->¬ r (Au p (base+i))<c)) ?_ ?_ #[rfl,lo,e,rfl,G,q,by show Op q,N,K]) ?_)
 .intro x b d _ hx zQ;let(rfl,l,u,rfl,a1,g,R,f,o):=zQ
  dsimp only
  by_cases z:l≥u
  .rw[if_pos z]
   show Bk #[rfl,l,u,rfl,g,λi e=>f i (BY e z),o]
  .rw[if_neg z]
   let P:l<=l+(u-l)/2:=HJ _ _
   let B:l+(u-l)/2<u:=by clear R;lia
   generalize l+(u-l)/2=v at P B ⊢
   apply A3 (Rr H F L ∅ T ?_)
   rw[<- M]
   by_cases y:r (Au p (base+v))<c
   .erw[y,decide_true,if_true]
    show Bk #[rfl,_,_,rfl,by show Nat.succ_le_of_lt B,∅,∅,λi e=>Ee (C i v (O1 e) (BY B g)) y,o]
   .erw[y,decide_false,FQ,if_false]
    show Bk #[rfl,_,_,rfl,by show GX λa=>y (f v a),∅,∅,f,λi G q=>by have:=C v i ∅ (Nat.lt_of_succ_le q);lia]
 .intro b d zQ;let(rfl,l,u,rfl,a1,g,R,f,o):=zQ
  show#[rfl,l,u,rfl,g,λi e=>f i ∅,o]
 .intro b d zQ;let(rfl,l,u,rfl,g,f,o):=zQ
  show Bk (h u g f o)
def
Nn{left:q'}{k:I}{p:Array I}{base m hint:I}(v:k<n)(y:Lo n p)(P:base+m<=p.o)(F:hint<m)(q:∀i j,i<=j->j<m->r (Au p (base+i))<=r (Au p (base+j)))
  {Q:O I->Ah->V'} {st:Ah} (z:kindOf st=κ)
  (h:∀t,t<=m->(∀i,i<t->r (Au p (base+i))<if left then r k else r k+1)->(∀i,t<=i->i<m->¬ r (Au p (base+i))<if left then r k else r k+1)->Q (Z t) st):wpS (Af prog w) A E s (Kz left (item k) (p.j item) base m hint) Q st:=by
 rw[uZ]
 obtain⟨c,u⟩:∃c,c=if left then r k else r k+1:=#[_,rfl]
 rw[<- u]at h
 apply A3 (Rr H v y ∅ z ?_)
 rw[<- u]
 by_cases B:r (Au p (base+hint))<c
 .erw[B,decide_true,if_true]
  apply A3 (wpS_mono (Ma (λx b a=>a=st/\∃l o,b=(J,l,o)/\l<o/\l<m-hint/\x+1<=o/\r (Au p (base+(hint+l)))<c)
   (Q:=λb a=>a=st/\∃l o,b=(J,l,o)/\l<o/\l<m-hint/\r (Au p (base+(hint+l)))<c/\(o<m-hint->¬ r (Au p (base+(hint+o)))<c)) ?_ ?_ #[rfl,0,1,rfl,by show Nat.one_pos,by show Nat.zero_lt_sub_of_lt F,by show Ip rfl,B]) ?_)
  .intro x b a _ N zQ;let(rfl,l,o,rfl,a1,d,C,e):=zQ
   by_cases g:o≥m-hint
   .rw[if_pos g]
    show Bk #[rfl,l,o,rfl,a1,d,e,λh=>∅]
   .rw[if_neg g]
    apply A3 (Rr H v y ∅ z ?_)
    rw[<- u]
    by_cases f:r (Au p (base+(hint+o)))<c
    .erw[f,decide_true,Bool.not_true,FQ,if_false]
     show Bk #[rfl,_,_,rfl,∅,by show Nm g,∅,f]
    .erw[f,decide_false,Bool.not_false,if_true]
     show Bk #[rfl,l,o,rfl,a1,d,e,λ_=>f]
  .intro b a zQ;let(rfl,l,o,rfl,a1,d,C,e):=zQ
   show#[rfl,l,o,rfl,a1,d,e,λh=>∅]
  .intro b a zQ;let(rfl,l,o,rfl,a1,d,e,L):=zQ
   apply dN H v y P q u ∅ ∅ (λi M=>Ee (q i (hint+l) (O1 M) (Rs d)) e) (λi K G=>?_) z h
   have:=q (hint+o) i ∅ G
   lia
 .erw[B,decide_false,FQ,if_false]
  apply A3 (wpS_mono (Ma (λx b a=>a=st/\∃l o,b=(J,l,o)/\l<o/\l<hint+1/\x+1<=o/\¬ r (Au p (base+(hint-l)))<c)
   (Q:=λb a=>a=st/\∃l o,b=(J,l,o)/\l<o/\l<hint+1/\¬ r (Au p (base+(hint-l)))<c/\(o<hint+1->r (Au p (base+(hint-o)))<c)) ?_ ?_ #[rfl,0,1,rfl,by show Nat.one_pos,by show Nat.zero_lt_succ hint,by show Ip rfl,B]) ?_)
  .intro x b a _ N zQ;let(rfl,l,o,rfl,a1,d,C,e):=zQ
   by_cases g:o≥hint+1
   .rw[if_pos g]
    show Bk #[rfl,l,o,rfl,a1,d,e,λh=>∅]
   .rw[if_neg g]
    apply A3 (Rr H v y ∅ z ?_)
    rw[<- u]
    by_cases f:r (Au p (base+(hint-o)))<c
    .erw[f,decide_true,if_true]
     show Bk #[rfl,l,o,rfl,a1,d,e,λ_=>f]
    .erw[f,decide_false,FQ,if_false]
     show Bk #[rfl,_,_,rfl,∅,by show Nm g,∅,f]
  .intro b a zQ;let(rfl,l,o,rfl,a1,d,C,e):=zQ
   show#[rfl,l,o,rfl,a1,d,e,λh=>∅]
  .intro b a zQ;let(rfl,l,o,rfl,a1,d,e,L):=zQ
   apply dN H v y P q u ∅ ∅ (λi M=>?_) (λi K G=>?_) z h
   .show Ee (q i (hint-o) ∅ (Nat.sub_lt_of_lt F)) (L (show o<hint+1 by lia))
   .have:=q (hint-l) i ∅ G
    lia
end
def Vb:Array An->Array An->StateT Ah BI (Array An):=sortPriv% PySem.Builtin.mergeLo
def Vc:Array An->Array An->StateT Ah BI (Array An):=sortPriv% PySem.Builtin.mergeHi
def O2(g:I):StateT Ah BI Unit:=modify λst=>SortSt.mk' (kindOf st) (arrOf st) (GA st) g (HM st)
def Iq(a b out:Array An)(c d:I):=out++a.θ c a.o++b.θ d b.o
def No(a b out:Array An)(c d:I):=out++b.θ d b.o++a.θ c a.o
def Ir(a b out:Array An)(c d:I):=a.θ 0 c++b.θ 0 d++out.ϙ
def Np(a b out:Array An)(c d:I):=b.θ 0 d++a.θ 0 c++out.ϙ
abbrev O3:=O (Array An)×Array An×I×I×I×I×I
abbrev Vd:=O (Array An)×Array An×I×I×I×I
abbrev O4:=O (Array An)×Array An×I×I×I
def Ve(a b:Array An)(mg d e:I)(out:Array An)(c f:I):StateT Ah BI (ForInStep O3):=do
 let out:=out.Ι (<- BC a c)
 if c+1+1==a.o then Am (.ϕ (Z (No a b out (c+1) f),out,c+1,f,mg,d,e))
 else if d<7&&e<7 then Am (.ϕ (J,out,c+1,f,mg,d,e))else Am (.yield (J,out,c+1,f,mg,d,e))
def Vf(a b:Array An)(mg e f:I)(out:Array An)(d c:I):StateT Ah BI (ForInStep O3):=do
 let out:=out.Ι (<- BC b c)
 if c+1==b.o then Am (.ϕ (Z (Iq a b out d (c+1)),out,d,c+1,mg,e,f))else
  match <- Kz J' (<- BC a d) b (c+1) (b.o-(c+1)) 0 with
  |some k=>
   if k>0 then
    let out:=out++b.θ (c+1) (c+1+k)
    if c+1+k==b.o then Am (.ϕ (Z (Iq a b out d (c+1+k)),out,d,c+1+k,mg,e,k))else Ve a b mg e k out d (c+1+k)
   else Ve a b mg e k out d (c+1)
  |_=>Am (.ϕ (Z (Iq a b out d (c+1)),out,d,c+1,mg,e,f))
def Rt(a b:Array An)(mg f e:I)(out:Array An)(c d:I):StateT Ah BI (ForInStep O3):=do
 O2 mg
 match <- Kz O' (<- BC b d) a c (a.o-c) 0 with
 |some k=>
  if k>0 then
   let out:=out++a.θ c (c+k)
   if c+k+1==a.o then Am (.ϕ (Z (No a b out (c+k) d),out,c+k,d,mg,k,e))
   else if c+k==a.o then Am (.ϕ (Z (Iq a b out (c+k) d),out,c+k,d,mg,k,e))
   else Vf a b mg k e out (c+k) d
  else Vf a b mg k e out c d
 |_=>Am (.ϕ (Z (Iq a b out c d),out,c,d,mg,f,e))
def dO(a b:Array An)(mg:I):Vd->StateT Ah BI (ForInStep Vd):=λs=>do
 let out:=s.2.1
 let c:=s.2.2.1
 let d:=s.2.2.2.1
 match <- lt' (<- BC b d) (<- BC a c)with
 |some w=>
  if w then
   let out:=out.Ι (<- BC b d)
   if d+1==b.o then Am (.ϕ (Z (Iq a b out c (d+1)),out,c,d+1,0,s.2.2.2.2.2+1))else
    if s.2.2.2.2.2+1≥mg then Am (.ϕ (J,out,c,d+1,0,s.2.2.2.2.2+1))else Am (.yield (J,out,c,d+1,0,s.2.2.2.2.2+1))
  else
   let out:=out.Ι (<- BC a c)
   if c+1+1==a.o then Am (.ϕ (Z (No a b out (c+1) d),out,c+1,d,s.2.2.2.2.1+1,0))else
    if s.2.2.2.2.1+1≥mg then Am (.ϕ (J,out,c+1,d,s.2.2.2.2.1+1,0))else Am (.yield (J,out,c+1,d,s.2.2.2.2.1+1,0))
 |_=>Am (.ϕ (Z (Iq a b out c d),out,c,d,s.2.2.2.2.1,s.2.2.2.2.2))
def u0(a b:Array An):O3->StateT Ah BI (ForInStep O3):=λs=>
 if s.2.2.2.2.1>1 then Rt a b (s.2.2.2.2.1-1) s.2.2.2.2.2.1 s.2.2.2.2.2.2 s.2.1 s.2.2.1 s.2.2.2.1 else Rt a b s.2.2.2.2.1 s.2.2.2.2.2.1 s.2.2.2.2.2.2 s.2.1 s.2.2.1 s.2.2.2.1
def dP(a b:Array An):O4->StateT Ah BI (ForInStep O4):=λs=>do
 let t <- forIn [0:a.o+b.o] (J,s.2.1,s.2.2.1,s.2.2.2.1,0,0) λ_=>dO a b s.2.2.2.2
 Js (λ_=>StateT Ah BI (ForInStep O4)) t.1 (λr=>Am (.ϕ (Z r,t.2.1,t.2.2.1,t.2.2.2.1,s.2.2.2.2))) λ_=>do
  rule "list.sort.gallop"
  let t <- forIn [0:a.o+b.o] (J,t.2.1,t.2.2.1,t.2.2.2.1,s.2.2.2.2+1,t.2.2.2.2.1,t.2.2.2.2.2) λ_=>u0 a b
  Js (λ_=>StateT Ah BI (ForInStep O4)) t.1 (λr=>Am (.ϕ (Z r,t.2.1,t.2.2.1,t.2.2.2.1,t.2.2.2.2.1))) λ_=>do
   O2 (t.2.2.2.2.1+1);Am (.yield (J,t.2.1,t.2.2.1,t.2.2.2.1,t.2.2.2.2.1+1))
def
u3(a b:Array An):Vb a b=(do
 rule "list.sort.merge-lo"
 let out:=((T' [<- BC b 0]):Array An)
 if 1==b.o then Am (Iq a b out 0 1)else
  if 0+1==a.o then Am (No a b out 0 1)else do
   let t <- forIn [0:a.o+b.o] (J,out,0,1,gallopOf (<- get)) λ_=>dP a b
   Js (λ_=>StateT Ah BI (Array An)) t.1 Am λ_=>unsupported "internal:list.sort.merge-bound"):=rfl
def
Zq{M:Model}{A:Ag}{E:Aa->Ab->V'}{s:Ab}{Y' a:Type}{c:V'}[Decidable c]{b d:StateT Y' BI a}{Q:a->Y'->V'}{st:Y'}(e:c->wpS M A E s b Q st)(f:¬ c->wpS M A E s d Q st):wpS M A E s (if c then b else d) Q st:=by
 by_cases h:c
 .rw[if_pos h];show e h
 .rw[if_neg h];show f h
abbrev FW(st:Ah)(g:I):Ah:=SortSt.mk' (kindOf st) (arrOf st) (GA st) g (HM st)
variable {prog:AN}{w:Ai}{A:Ag}{E:Aa->Ab->V'}{s:Ab}{item:I->An}{r:I->I}{n:I}
def
Ru{g:I}{Q:Unit->Ah->V'}{st:Ah}(h:Q () (FW st g)):wpS (Af prog w) A E s (O2 g) Q st:=wpS_modify h
structure DH(r:I->I)(n:I)(pa pb:Array I):V' where
 la:Lo n pa
 lb:Lo n pb
 sa:∀i j,i<=j->j<pa.o->r (Au pa i)<=r (Au pa j)
 sb:∀i j,i<=j->j<pb.o->r (Au pb i)<=r (Au pb j)
 a1:1<=pa.o
 b1:1<=pb.o
 fst:∀i,i<pa.o->r (Au pb 0)<r (Au pa i)
 lst:∀i,i<pb.o->r (Au pb i)<r (Au pa (pa.o-1))
structure Ei(r:I->I)(pa pb pm:Array I):V' where
 perm:pm.J.Perm (pa.J++pb.J)
 so:pm.J.ϳ λx y=>r x<=r y
structure DJ(r:I->I)(pa pb po:Array I)(ia ib:I):V' where
 perm:po.J.Perm (pa.J.ϒ ia++pb.J.ϒ ib)
 so:po.J.ϳ λx y=>r x<=r y
 ma:∀x∈po.J,ia<pa.o->r x<=r (Au pa ia)
 mb:∀x∈po.J,ib<pb.o->r x<=r (Au pb ib)
def
Vg{p:Array I}{i:I}(a:i<p.o):p.J[i]?=Z (Au p i):=by
 rw[show Au p i=p[i] by simp[Au,Jr,a]];simp[a]
def
Vh{p:Array I}{i:I}(a:i<p.o):p.J.ϒ (i+1)=p.J.ϒ i++[Au p i]:=by
 rw[List.take_add_one,Vg a];rfl
def
Rw{p:Array I}{i:I}(a:i<p.o):p.J.Θ i=Au p i::p.J.Θ (i+1):=by
 rw[Kk (by exists a),show Au p i=p.J[i]'(by exists a) by simp[Au,Jr,a]]
def
Nq{p:Array I}(h:∀i j,i<=j->j<p.o->r (Au p i)<=r (Au p j)):p.J.ϳ λx y=>r x<=r y:=by
 rw[Rx]
 intro i j c a b
 have:=h i j (KA b) (by exists a)
 rw[show Au p i=p.J[i] by simp at c;simp[Au,Jr,c],show Au p j=p.J[j] by simp at a;simp[Au,Jr,a]]at this;show this
def
Nr{p:Array I}{k x:I}(h:x∈p.J.Θ k):∃i,k<=i/\i<p.o/\x=Au p i:=by
 let(i,a,rfl):=Vi.mp h
 simp at a
 apply#[k+i,by show HJ k i,by show Rs a,?_]
 simp[Au,Jr,show k+i<p.size by show Rs a]
variable{pa pb po:Array I}{ia ib:I}
def
DJ.stepB(P:DH r n pa pb)(f:DJ r pa pb po ia ib)(d:ia<pa.o)(b:ib<pb.o)(h:r (Au pb ib)<=r (Au pa ia)):DJ r pa pb (po.Ι (Au pb ib)) ia (ib+1):=by
 apply#[?_,?_,λx a _=>?_,λx a c=>?_]
 .rw[Vh b,EV,<- DV]
  show f.perm.Ϭ _
 .rw[EV,Jt]
  show#[f.so,Nt _ _,λx a y e=>by rw[CC.mp e];show f.mb x a b]
 .rw[EV,Cz,CC]at a
  rcases a with a|rfl
  .show f.ma x a d
  .show h
 .rw[EV,Cz,CC]at a
  rcases a with a|rfl
  .show Bu (f.mb x a b) (P.sb _ _ (HJ ib 1) c)
  .show P.sb _ _ (HJ ib 1) c
def
DJ.stepA(P:DH r n pa pb)(f:DJ r pa pb po ia ib)(b:ia<pa.o)(d:ib<pb.o)(h:r (Au pa ia)<=r (Au pb ib)):DJ r pa pb (po.Ι (Au pa ia)) (ia+1) ib:=by
 apply#[?_,?_,λx a c=>?_,λx a _=>?_]
 .rw[Vh b,EV,DV]
  refine(f.perm.Ϭ _).I ?_
  rw[DV]
  show Ry _ KC
 .rw[EV,Jt]
  show#[f.so,Nt _ _,λx a y e=>by rw[CC.mp e];show f.ma x a b]
 .rw[EV,Cz,CC]at a
  rcases a with a|rfl
  .show Bu (f.ma x a b) (P.sa _ _ (HJ ia 1) c)
  .show P.sa _ _ (HJ ia 1) c
 .rw[EV,Cz,CC]at a
  rcases a with a|rfl
  .show f.mb x a d
  .show h
def
dQ{p q:Array I}{i k:I}(h:i+k<q.o):p++q.θ i (i+(k+1))=(p++q.θ i (i+k)).Ι (Au q (i+k)):=by
 apply(KD.mp)
 erw[Ju,EV,Iu,Ft,DV]
 congr 1
 rw[show i+(k+1)-i=k+1 by show Nat.add_sub_self_left i (k+1),show i+k-i=k by show Nat.add_sub_self_left i k,List.take_add_one,QR,Vg h]
 rfl
def
DJ.blockA(P:DH r n pa pb):∀(k:I){po:Array I},DJ r pa pb po ia ib->ia+k<=pa.o->ib<pb.o->(∀i,i<k->r (Au pa (ia+i))<=r (Au pb ib))->DJ r pa pb (po++pa.θ ia (ia+k)) (ia+k) ib
 |0,po,e,_,_,_=>by
  rw[show po++pa.θ ia (ia+0)=po by simp<;>show Nat.min_le_left ia pa.o];show e
 |k+1,po,e,c,a,b=>by
  rw[dQ ∅]
  show(DJ.blockA P k e (KA c) a λi d=>b i (Nat.lt_add_right 1 d)).stepA P ∅ a (b k (Nat.lt_add_one k))
def
DJ.blockB(P:DH r n pa pb):∀(k:I){po:Array I},DJ r pa pb po ia ib->ib+k<=pb.o->ia<pa.o->(∀i,i<k->r (Au pb (ib+i))<=r (Au pa ia))->DJ r pa pb (po++pb.θ ib (ib+k)) ia (ib+k)
 |0,po,e,_,_,_=>by
  rw[show po++pb.θ ib (ib+0)=po by simp<;>show Nat.min_le_left ib pb.o];show e
 |k+1,po,e,c,a,b=>by
  rw[dQ ∅]
  show(DJ.blockB P k e (KA c) a λi d=>b i (Nat.lt_add_right 1 d)).stepB P a ∅ (b k (Nat.lt_add_one k))
def
DJ.done(P:DH r n pa pb)(e:DJ r pa pb po ia ib)(h:ib=pb.o):∃pm:Array I,Iq (pa.j item) (pb.j item) (po.j item) ia ib=pm.j item/\Ei r pa pb pm:=by
 subst h
 apply#[po++pa.θ ia pa.o,?_,?_,?_]
 .apply(KD.mp);simp[Iq,Ft]
 .let h:=e.perm.Ϭ (pa.J.Θ ia)
  rw[Il (l:=pb.J) (by simp),DV]at h
  erw[Ju,Iu,Ft]
  rw[Il (by simp)]
  apply h.I ((Ry _ KC).I ?_)
  rw[<- DV,Jv _ _]
 .erw[Ju,Iu,Ft]
  rw[Il (by simp),Jt]
  apply#[e.so,(Nq P.sa).Θ,λx c y d=>?_]
  let(i,a,b,rfl):=Nr d
  show Bu (e.ma x c (Ee a b)) (P.sa _ _ a b)
def
DJ.last(P:DH r n pa pb)(g:DJ r pa pb po ia ib)(h:ia+1=pa.o):∃pm:Array I,No (pa.j item) (pb.j item) (po.j item) ia ib=pm.j item/\Ei r pa pb pm:=by
 apply#[po++pb.θ ib pb.o++pa.θ ia pa.o,?_,?_,?_]
 .apply(KD.mp);simp[No,Ft]
 .let h:=(g.perm.Ϭ (pb.J.Θ ib)).Ϭ (pa.J.Θ ia)
  erw[Ju,Iu,Ft]
  rw[Il (l:=List.Θ ib _) (by simp),Il (l:=List.Θ ia _) (by simp)]
  apply h.I ?_
  rw[DV (pa.J.ϒ ia),Jv _ _,DV]
  refine(Ry _ KC).I ?_
  rw[<- DV,Jv _ _]
 .erw[Ju,Iu,Ft]
  rw[Il (l:=List.Θ ib _) (by simp),Il (l:=List.Θ ia _) (by simp),Jt,Jt]
  apply#[#[g.so,(Nq P.sb).Θ,λx a y c=>?_],(Nq P.sa).Θ,λx a y c=>?_]
  .let(i,d,b,rfl):=Nr c
   show Bu (g.mb x a (Ee d b)) (P.sb _ _ d b)
  .let(i,d,b,rfl):=Nr c
   have:i=ia:=∅
   subst this
   rcases Cz.mp a with a|a
   .show g.ma x a b
   .let(j,f,e,rfl):=Nr a
    have:=P.X j e
    rw[<- h]at this
    show FH this
end
def FB{a Y':Type}(Q d:a->Y'->V')(c:ForInStep a):Y'->V':=match c with | .done b=>Q b | .yield b=>d b
def
Jw{prog:AN}{w:Ai}{A:Ag}{E:Aa->Ab->V'}{s:Ab}{a:Type}{b:I}{f:I->a->StateT Ah BI (ForInStep a)}(k:I->a->Ah->V')(Q:a->Ah->V'){R:a->Ah->V'}(d:∀i c st,i<b->k i c st->wpS (Af prog w) A E s (f i c) (FB Q (k (i+1))) st)(e:∀c st,k b c st->Q c st){c:a}{st:Ah}(h:k 0 c st)(g:∀c st,Q c st->R c st):wpS (Af prog w) A E s (forIn [0:b] c f) R st:=
 wpS_mono (Ma k (λi c st _ j h=>wpS_mono (d i c st j h) λc _ h=>by ext c<;>show h) (λc st h=>e c st (by rwa[Nat.zero_max]at h)) h) g
def
KG{p:Array I}{i:I}:(p.j item).Ι (item i)=(p.Ι i).j item:=by simp
def
dR{p q:Array I}{i:I}:p.j item++(q.j item).θ i j=(p++q.θ i j).j item:=by simp
section
variable(r:I->I)(item:I->An)(pa pb:Array I)(S:Ah)
def MQ{c:Type}(b:O (Array An)×c)(st:Ah):V':=∃g a,st=FW S g/\b.1=Z (a.j item)/\Ei r pa pb a
def LI{e:Type}(x:I)(b:O (Array An)×Array An×I×I×e)(st:Ah):V':=∃g po a d c,st=FW S g/\b=(J,po.j item,a,d,c)/\DJ r pa pb po a d/\a+1<pa.o/\d<pb.o/\x<=a+d
def LQ{a:Type}(x:I)(b:O (Array An)×Array An×I×I×a)(st:Ah):V':=LI r item pa pb S x b st\/MQ r item pa pb S b st
end
variable {prog:AN}{w:Ai}{A:Ag}{E:Aa->Ab->V'}{s:Ab}{item:I->An}{r:I->I}{n:I}{pa pb:Array I}
def
dS(P:DH r n pa pb){st:Ah}{x y g mg f i a b:I}{po:Array I}(m:DJ r pa pb po a b)(c:a+1<pa.o)(i2:b<pb.o)(j:x+1+(y+1)<=a+1+b)(h:r (Au pa a)<=r (Au pb b)):
  wpS (Af prog w) A E s (Ve (pa.j item) (pb.j item) mg f i (po.j item) a b) (FB (LQ r item pa pb st (x+2)) (LI r item pa pb st (x+1+(y+1)))) (FW st g):=by
 let l:=m.stepA P (G7 c) i2 h
 apply A3 (ZU (G7 c) ?_)
 dsimp only
 rw[KG]
 apply Zq (λq=>?_) λq=>?_
 .let(k,e,R):=l.last (item:=item) P (by exists q)
  rw[e];show Bk (.φ #[g,k,rfl,rfl,R])
 let d:a+1+1≠pa.o:=by exists q
 show Zq (λq=>Bk (.U #[g,_,_,_,_,rfl,rfl,l,by show Iv c d,i2,∅])) λq=>Bk #[g,_,_,_,_,rfl,rfl,l,by show Iv c d,i2,by show Nat.succ_le_of_lt j]
variable(H:L9 prog w A E s κ item r n)
include H
def
dT(P:DH r n pa pb){st:Ah}(t:kindOf st=κ){x y g mg u v b a:I}{po:Array I}(K:DJ r pa pb po b a)(c:b+1<pa.o)(i2:a<pb.o)(L:x+1+y<=b+a)(h:r (Au pb a)<=r (Au pa b)):
  wpS (Af prog w) A E s (Vf (pa.j item) (pb.j item) mg u v (po.j item) b a) (FB (LQ r item pa pb st (x+2)) (LI r item pa pb st (x+1+(y+1)))) (FW st g):=by
 let z:(pb.j item).o=pb.o:=Iw
 let F:=K.stepB P (G7 c) i2 h
 apply A3 (ZU i2 ?_)
 dsimp only
 rw[KG,z]
 apply Zq (λq=>?_) λq=>?_
 .let(f,e,R):=F.ϕ (item:=item) P (by exists q)
  rw[e];show Bk (.φ #[g,f,rfl,rfl,R])
 let l:a+1≠pb.o:=by exists q
 apply A3 (ZU (G7 c) (A3 (Nn H (P.la _ (G7 c)) P.lb ∅ ∅ (λi j B C=>P.sb _ _ (Nu.Ϛ B) (Rs C)) t λk l1 m o=>?_)))
 erw[if_true]at m o
 let p:=DJ.blockB P k F ((Nat.le_sub_iff_add_le' i2).mp l1) (G7 c) λi G=>FH (m i G)
 let d:a+1+k<pb.o->r (Au pa b)<=r (Au pb (a+1+k)):=λ_=>by
  have:=o k (A4 _) ∅
  show GX this
 apply Zq (λq=>?_) λq=>?_
 .rw[dR]
  apply Zq (λq=>?_) λq=>?_
  .let(f,e,R):=p.ϕ (item:=item) P (by exists q)
   rw[e];show Bk (.φ #[g,f,rfl,rfl,R])
  let l:a+1+k≠pb.o:=by exists q
  show dS P p c ∅ ∅ (d ∅)
 .let e:k=0:=Nat.eq_zero_of_not_pos q
  subst e
  show dS P F c (Iv i2 l) ∅ (d (Iv i2 l))
def
dU(P:DH r n pa pb){st:Ah}(l:kindOf st=κ){x y g mg u v a b:I}{po:Array I}(K:DJ r pa pb po a b)(C:a+1<pa.o)(i2:b<pb.o)(G:x+1+y<=a+b):
  wpS (Af prog w) A E s (Rt (pa.j item) (pb.j item) mg u v (po.j item) a b) (FB (LQ r item pa pb st (x+2)) (LI r item pa pb st (x+1+(y+1)))) (FW st g):=by
 unfold Rt
 rw[Iw]
 apply A3 (Ru (A3 (ZU i2 (A3 (Nn H (P.lb _ i2) P.la ∅ ∅ (λi j m o=>P.sa _ _ (Nu.Ϛ m) (Rs o)) l λk L d p=>?_)))))
 erw[FQ,if_false]at d p
 let f:a+k+1<=pa.o:=by
  rcases EW (a+k) pa.size with h|h
  .show Nat.succ_le_of_lt h
  .let m:=d (pa.o-1-a) ∅
   let o:=P.X b i2
   rw[show a+(pa.o-1-a)=pa.o-1 by lia]at m
   lia
 let F:=DJ.blockA P k K (KA f) i2 λi t=>by have:=d i t;show O1 (d i t)
 let c:a+k<pa.o->r (Au pb b)<=r (Au pa (a+k)):=λ_=>by
  have:=p k (A4 _) (Nat.lt_sub_iff_add_lt'.Ϛ f)
  lia
 apply Zq (λq=>?_) λq=>?_
 .dsimp only
  rw[dR]
  apply Zq (λq=>?_) λq=>?_
  .let(z,e,R):=F.last (item:=item) P (by exists q)
   rw[e];show Bk (.φ #[mg,z,rfl,rfl,R])
  let B:a+k+1≠pa.o:=by exists q
  apply Zq (λq=>?_) λq=>dT H P l F (Iv f B) i2 ∅ (c ∅)
  have:a+k=pa.o:=by exists q
  lia
 .let e:k=0:=Nat.eq_zero_of_not_pos q
  subst e
  show dT H P l K ∅ i2 ∅ (c (Nat.add_lt_of_lt_sub f))
def
u4(P:DH r n pa pb){S:Ah}(j:kindOf S=κ){x mg:I}{b:Vd}{st:Ah}(h:LI r item pa pb S (x+1) b st):wpS (Af prog w) A E s (dO (pa.j item) (pb.j item) mg b) (FB (LQ r item pa pb S (x+1)) (LI r item pa pb S (x+1))) st:=by
 let(g,po,k,l,c,rfl,rfl,o,a,i2,i):=h
 apply A3 (ZU i2 (A3 (ZU (G7 a) (A3 (H _ _ (P.lb _ i2) (P.la _ (G7 a)) _ _ j ?_)))))
 apply Zq (λq=>?_) λq=>?_
 .let m:=o.stepB P (G7 a) i2 (FH (of_decide_eq_true q))
  apply A3 (ZU i2 ?_)
  dsimp only
  rw[KG]
  apply Zq (λq=>?_) λq=>?_
  .let(f,e,R):=m.ϕ (item:=item) P (by exists q)
   rw[e];show Bk (.φ #[g,f,rfl,rfl,R])
  let d:l+1≠pb.o:=by exists q
  show Zq (λq=>Bk (.U #[g,_,_,_,_,rfl,rfl,m,a,by show Iv i2 d,by show KH i])) λq=>Bk #[g,_,_,_,_,rfl,rfl,m,a,by show Iv i2 d,by show KH i]
 .let m:=o.stepA P (G7 a) i2 (GX λh=>q (decide_eq_true h))
  apply A3 (ZU (G7 a) ?_)
  dsimp only
  rw[KG]
  apply Zq (λq=>?_) λq=>?_
  .let(f,e,R):=m.last (item:=item) P (by exists q)
   rw[e];show Bk (.φ #[g,f,rfl,rfl,R])
  let d:k+1+1≠pa.o:=by exists q
  show Zq (λq=>Bk (.U #[g,_,_,_,_,rfl,rfl,m,by show Iv a d,i2,∅])) λq=>Bk #[g,_,_,_,_,rfl,rfl,m,by show Iv a d,i2,∅]
def
u5(P:DH r n pa pb){S:Ah}(k:kindOf S=κ){x:I}{b:O4}{st:Ah}(h:LI r item pa pb S (x+1) b st):wpS (Af prog w) A E s (dP (pa.j item) (pb.j item) b) (FB (MQ r item pa pb S) (LI r item pa pb S (x+1+1))) st:=by
 let(g,po,f,j,mg,rfl,rfl,m,a,i2,d):=h
 apply A3 (Jw (λ_=>LI r item pa pb S (x+1)) (LQ r item pa pb S (x+1)) (λi c st _ h=>u4 H P k h) (λc st h=>.U h) #[g,po,f,j,_,rfl,rfl,m,a,i2,d] λb st h=>?_)
 clear m a i2 d
 rcases h with⟨g,po,f,j,c,rfl,rfl,m,a,i2,d⟩|⟨g,l,rfl,e,R⟩
 .apply A3 (wpS_lift (F5 #[rfl,A3 (Jw (λy=>LI r item pa pb S (x+1+y)) (LQ r item pa pb S (x+2)) (λi c st _ h=>?_) (λc st h=>?_) #[g,po,f,j,_,rfl,rfl,m,a,i2,d] λb st h=>?_)]))
  all_goals clear m a i2 d
  .let(g,po,f,j,c,rfl,rfl,m,a,i2,d):=h
   show Zq (λ_=>dU H P k m a i2 d) λ_=>dU H P k m a i2 d
  .let(g,po,f,j,c,rfl,rfl,m,a,i2,d):=h
   rw[Iw,Iw]at d
   show .U #[g,_,_,_,_,rfl,rfl,m,a,i2,∅]
  .rcases h with⟨g,po,f,j,c,rfl,rfl,m,a,i2,d⟩|⟨g,l,rfl,e,R⟩
   .show A3 (Ru (Bk #[_,_,_,_,_,rfl,rfl,m,a,i2,d]))
   .rw[e];show Bk #[g,l,rfl,rfl,R]
 .rw[e];show Bk #[g,l,rfl,rfl,R]
def
u6(P:DH r n pa pb){Q:Array An->Ah->V'}{st:Ah}(l:kindOf st=κ)(h:∀pm g,Ei r pa pb pm->Q (pm.j item) (FW st g)):wpS (Af prog w) A E s (Vb (pa.j item) (pb.j item)) Q st:=by
 let a1:=P.a1
 let b1:=P.b1
 let m:(pa.j item).o=pa.o:=Iw
 let o:(pb.j item).o=pb.o:=Iw
 rw[u3,m,o]
 apply A3 (wpS_lift (F5 #[rfl,A3 (ZU (Ej b1) ?_)]))
 let p:((T' [item (Au pb 0)]):Array An)=((T' [Au pb 0]):Array I).j item:=by simp
 dsimp only
 rw[p]
 let a:DJ r pa pb (T' [Au pb 0]) 0 1:=by
  apply#[?_,Nt _ _,λx d f=>?_,λx d f=>?_]
  .rw[Vh (Ej b1)];simp
  .rw[CC.mp d];show FH (P.fst _ f)
  .rw[CC.mp d];show P.sb _ _ (Fi 1) f
 apply Zq (λq=>?_) λt=>?_
 .let(pm,e,R):=a.ϕ (item:=item) P (by exists q)
  rw[e];show Bk (h pm (gallopOf st) R)
 let j:1≠pb.o:=by exists t
 apply Zq (λq=>?_) λu=>?_
 .let(pm,e,R):=a.last (item:=item) P (by exists q)
  rw[e];show Bk (h pm (gallopOf st) R)
 let k:1≠pa.o:=by exists u
 apply A3 (wpS_get (A3 (Jw (λx=>LI r item pa pb st (x+1)) (MQ r item pa pb st) (λi c st _ h=>u5 H P l h) (λc st h=>?_) #[gallopOf st,_,0,1,_,rfl,rfl,a,by show Iv a1 k,by show Iv b1 j,by show Nat.le_add_left (0+1) 0] λb v y=>?_)))
 .let(g,po,z,B,mg,rfl,rfl,F,C,i2,G):=h
  lia
 .let(g,pm,rfl,e,R):=y
  rw[e]
  show Bk (h pm g R)
end
abbrev O5:=O (Array An)×I×I×Array An×I×I×I
def Vj(a b:Array An)(mg d e:I)(c f:I)(out:Array An):StateT Ah BI (ForInStep O5):=do
 let out:=out.Ι (<- BC a (c-1))
 if c-1==0 then Am (.ϕ (Z (Ir a b out (c-1) f),c-1,f,out,mg,d,e))
 else if d<7&&e<7 then Am (.ϕ (J,c-1,f,out,mg,d,e))else Am (.yield (J,c-1,f,out,mg,d,e))
def Vk(a b:Array An)(mg e f:I)(d c:I)(out:Array An):StateT Ah BI (ForInStep O5):=do
 let out:=out.Ι (<- BC b (c-1))
 if c-1==1 then Am (.ϕ (Z (Np a b out d (c-1)),d,c-1,out,mg,e,f))else
  match <- Kz J' (<- BC a (d-1)) b 0 (c-1) (c-1-1)with
  |some at_=>
   if c-1-at_>0 then
    let out:=out++(b.θ at_ (c-1)).ϙ
    if at_==1 then Am (.ϕ (Z (Np a b out d at_),d,at_,out,mg,e,c-1-at_))
    else if at_==0 then Am (.ϕ (Z (Ir a b out d at_),d,at_,out,mg,e,c-1-at_))
    else Vj a b mg e (c-1-at_) d at_ out
   else Vj a b mg e (c-1-at_) d (c-1) out
  |_=>Am (.ϕ (Z (Ir a b out d (c-1)),d,c-1,out,mg,e,f))
def Vl(a b:Array An)(mg f e:I)(c d:I)(out:Array An):StateT Ah BI (ForInStep O5):=do
 O2 mg
 match <- Kz O' (<- BC b (d-1)) a 0 c (c-1)with
 |some at_=>
  if c-at_>0 then
   let out:=out++(a.θ at_ c).ϙ
   if at_==0 then Am (.ϕ (Z (Ir a b out at_ d),at_,d,out,mg,c-at_,e))
   else Vk a b mg (c-at_) e at_ d out
  else Vk a b mg (c-at_) e c d out
 |_=>Am (.ϕ (Z (Ir a b out c d),c,d,out,mg,f,e))
abbrev Vm:=O (Array An)×I×I×Array An×I×I
abbrev O6:=O (Array An)×I×I×Array An×I
def dV(a b:Array An)(mg:I):Vm->StateT Ah BI (ForInStep Vm):=λs=>do
 let c:=s.2.1
 let d:=s.2.2.1
 match <- lt' (<- BC b (d-1)) (<- BC a (c-1))with
 |some w=>
  if w then
   let out:=s.2.2.2.1.Ι (<- BC a (c-1))
   if c-1==0 then Am (.ϕ (Z (Ir a b out (c-1) d),c-1,d,out,s.2.2.2.2.1+1,0))else
    if s.2.2.2.2.1+1≥mg then Am (.ϕ (J,c-1,d,out,s.2.2.2.2.1+1,0))else Am (.yield (J,c-1,d,out,s.2.2.2.2.1+1,0))
  else
   let out:=s.2.2.2.1.Ι (<- BC b (d-1))
   if d-1==1 then Am (.ϕ (Z (Np a b out c (d-1)),c,d-1,out,0,s.2.2.2.2.2+1))else
    if s.2.2.2.2.2+1≥mg then Am (.ϕ (J,c,d-1,out,0,s.2.2.2.2.2+1))else Am (.yield (J,c,d-1,out,0,s.2.2.2.2.2+1))
 |_=>Am (.ϕ (Z (Ir a b s.2.2.2.1 c d),s.2))
def u7(a b:Array An):O5->StateT Ah BI (ForInStep O5):=λs=>
 if s.2.2.2.2.1>1 then Vl a b (s.2.2.2.2.1-1) s.2.2.2.2.2.1 s.2.2.2.2.2.2 s.2.1 s.2.2.1 s.2.2.2.1 else Vl a b s.2.2.2.2.1 s.2.2.2.2.2.1 s.2.2.2.2.2.2 s.2.1 s.2.2.1 s.2.2.2.1
def dW(a b:Array An):O6->StateT Ah BI (ForInStep O6):=λs=>do
 let t <- forIn [0:a.o+b.o] (J,s.2.1,s.2.2.1,s.2.2.2.1,0,0) λ_=>dV a b s.2.2.2.2
 Js (λ_=>StateT Ah BI (ForInStep O6)) t.1 (λr=>Am (.ϕ (Z r,t.2.1,t.2.2.1,t.2.2.2.1,s.2.2.2.2))) λ_=>do
  rule "list.sort.gallop"
  let t <- forIn [0:a.o+b.o] (J,t.2.1,t.2.2.1,t.2.2.2.1,s.2.2.2.2+1,t.2.2.2.2.1,t.2.2.2.2.2) λ_=>u7 a b
  Js (λ_=>StateT Ah BI (ForInStep O6)) t.1 (λr=>Am (.ϕ (Z r,t.2.1,t.2.2.1,t.2.2.2.1,t.2.2.2.2.1))) λ_=>do
   O2 (t.2.2.2.2.1+1);Am (.yield (J,t.2.1,t.2.2.1,t.2.2.2.1,t.2.2.2.2.1+1))
def
u8(a b:Array An):Vc a b=(do
 rule "list.sort.merge-hi"
 let out:=((T' [<- BC a (a.o-1)]):Array An)
 if a.o-1==0 then Am (Ir a b out (a.o-1) b.o)else
  if b.o==1 then Am (Np a b out (a.o-1) b.o)else do
   let t <- forIn [0:a.o+b.o] (J,a.o-1,b.o,out,gallopOf (<- get)) λ_=>dW a b
   Js (λ_=>StateT Ah BI (Array An)) t.1 Am λ_=>unsupported "internal:list.sort.merge-bound"):=rfl
variable {item:I->An}{r:I->I}{n:I}{pa pb po:Array I}{na nb:I}
structure DK(r:I->I)(pa pb po:Array I)(na nb:I):V' where
 perm:po.J.Perm (pa.J.Θ na++pb.J.Θ nb)
 so:po.J.ϳ λx y=>r y<=r x
 ma:∀x∈po.J,0<na->r (Au pa (na-1))<=r x
 mb:∀x∈po.J,0<nb->r (Au pb (nb-1))<=r x
 la:na<=pa.o
 lb:nb<=pb.o
def
DK.stepA(P:DH r n pa pb)(f:DK r pa pb po na nb)(b:0<na)(c:0<nb)(h:r (Au pb (nb-1))<=r (Au pa (na-1))):DK r pa pb (po.Ι (Au pa (na-1))) (na-1) nb:=by
 let la:=f.la
 apply#[?_,?_,λx a e=>?_,λx a _=>?_,∅,f.lb]
 .rw[Rw (i:=na-1) ∅,show na-1+1=na by lia,EV,F9]
  show KC.I (f.perm.Ο _)
 .rw[EV,Jt]
  show#[f.so,Nt _ _,λx a y d=>by rw[CC.mp d];show f.ma x a b]
 .rw[EV,Cz,CC]at a
  rcases a with a|rfl
  .show Bu (P.sa _ _ ∅ ∅) (f.ma x a b)
  .show P.sa _ _ ∅ ∅
 .rw[EV,Cz,CC]at a
  rcases a with a|rfl
  .show f.mb x a c
  .show h
def
DK.stepB(P:DH r n pa pb)(f:DK r pa pb po na nb)(c:0<na)(b:0<nb)(h:r (Au pa (na-1))<=r (Au pb (nb-1))):DK r pa pb (po.Ι (Au pb (nb-1))) na (nb-1):=by
 let lb:=f.lb
 apply#[?_,?_,λx a _=>?_,λx a e=>?_,f.la,∅]
 .rw[Rw (i:=nb-1) ∅,show nb-1+1=nb by lia,EV]
  show KC.I ((f.perm.Ο _).I List.perm_middle.Γ)
 .rw[EV,Jt]
  show#[f.so,Nt _ _,λx a y d=>by rw[CC.mp d];show f.mb x a b]
 .rw[EV,Cz,CC]at a
  rcases a with a|rfl
  .show f.ma x a c
  .show h
 .rw[EV,Cz,CC]at a
  rcases a with a|rfl
  .show Bu (P.sb _ _ ∅ ∅) (f.mb x a b)
  .show P.sb _ _ ∅ ∅
def
dX{p q:Array I}{i:I}(h:i<j)(a:j<=q.o):p++(q.θ i j).ϙ=(p++(q.θ (i+1) j).ϙ).Ι (Au q i):=by
 apply(KD.mp)
 erw[Ju,EV,Iu,Rz,Ft,DV]
 congr 1
 rw[Rw (i:=i) (BY h a),show j-i=(j-(i+1))+1 by lia,List.take_succ_cons,List.reverse_cons]
def
DK.blockA(P:DH r n pa pb):∀(k at_:I){po:Array I},DK r pa pb po na nb->at_+k=na->0<nb->(∀i,at_<=i->i<na->r (Au pb (nb-1))<=r (Au pa i))->DK r pa pb (po++(pa.θ at_ na).ϙ) at_ nb
 |0,at_,po,g,e,_,_=>by
  let f:po++(pa.θ at_ na).ϙ=po:=by
   apply(KD.mp);simp[Ft];lia
  rw[f,show at_=na by show Nat.add_right_cancel e];show g
 |k+1,at_,po,g,e,c,d=>by
  rw[dX ∅ g.la]
  have:=(DK.blockA P k (at_+1) g ∅ c λi a b=>d i (KA a) b).stepA P (Nat.zero_lt_succ at_) c (d _ (A4 at_) ∅)
  show this
def
DK.blockB(P:DH r n pa pb):∀(k at_:I){po:Array I},DK r pa pb po na nb->at_+k=nb->0<na->(∀i,at_<=i->i<nb->r (Au pa (na-1))<=r (Au pb i))->DK r pa pb (po++(pb.θ at_ nb).ϙ) na at_
 |0,at_,po,g,e,_,_=>by
  let f:po++(pb.θ at_ nb).ϙ=po:=by
   apply(KD.mp);simp[Ft];lia
  rw[f,show at_=nb by show Nat.add_right_cancel e];show g
 |k+1,at_,po,g,e,c,d=>by
  rw[dX ∅ g.lb]
  have:=(DK.blockB P k (at_+1) g ∅ c λi a b=>d i (KA a) b).stepB P c (Nat.zero_lt_succ at_) (d _ (A4 at_) ∅)
  show this
def
O7{p:Array I}{k x:I}(h:x∈p.J.ϒ k):∃i,i<k/\i<p.o/\x=Au p i:=by
 let(i,a,rfl):=Vi.mp h
 simp at a
 apply#[i,∅,∅,?_]
 simp[Au,Jr,show i<p.size by lia]
def
dY{l:U I}(h:l.ϳ λx y=>r y<=r x):l.ϙ.ϳ λx y=>r x<=r y:=List.pairwise_reverse.Ϛ h
def
DK.done(P:DH r n pa pb)(e:DK r pa pb po na nb)(h:na=0):∃pm:Array I,Ir (pa.j item) (pb.j item) (po.j item) na nb=pm.j item/\Ei r pa pb pm:=by
 subst h
 let lb:=e.lb
 apply#[pb.θ 0 nb++po.ϙ,?_,?_,?_]
 .apply(KD.mp);simp[Ir,Ft]
 .erw[Ju,Iu,Rz,Ft,M4,M5]
  let h:=(List.reverse_perm po.J).I e.perm
  refine(h.append_left _).I ?_
  apply KC.I ?_
  rw[DV]
  apply Ry _ ?_
  apply KC.I ?_
  rw[Jv]
 .erw[Ju,Iu,Rz,Ft,M4,M5]
  rw[Jt]
  apply#[(Nq P.sb).ϒ,dY e.so,λx b y c=>?_]
  let(i,a,d,rfl):=O7 b
  show Bu (P.sb i (nb-1) (Mb a) ∅) (e.mb y (List.mem_reverse.mp c) (Ej a))
def
DK.fst(P:DH r n pa pb)(g:DK r pa pb po na nb)(h:nb=1):∃pm:Array I,Np (pa.j item) (pb.j item) (po.j item) na nb=pm.j item/\Ei r pa pb pm:=by
 subst h
 let la:=g.la
 apply#[pb.θ 0 1++pa.θ 0 na++po.ϙ,?_,?_,?_]
 .apply(KD.mp);simp[Np,Ft]
 .erw[Ju,Iu,Rz,Ft,M4,M5]
  refine(((List.reverse_perm po.J).I g.perm).append_left _).I ?_
  rw[DV,<- DV (pa.J.ϒ na),Jv]
  apply KC.I ?_
  rw[DV]
  apply Ry _ ?_
  apply KC.I ?_
  rw[Jv]
 .erw[Ju,Iu,Rz,Ft,M4,M5]
  rw[Jt,Jt]
  apply#[#[(Nq P.sb).ϒ,(Nq P.sa).ϒ,λx a y c=>?_],dY g.so,λx a y c=>?_]
  .let(i,b,d,rfl):=O7 a
   let(j,f,e,rfl):=O7 c
   have:i=0:=Nat.lt_one_iff.mp b
   subst this
   show FH (P.fst _ e)
  .rcases Cz.mp a with a|a
   .let(i,b,d,rfl):=O7 a
    show Bu (P.sb i (1-1) (Mb b) (Nat.lt_of_add_left_lt d)) (g.mb y (List.mem_reverse.mp c) Nat.one_pos)
   .let(i,b,d,rfl):=O7 a
    show Bu (P.sa i (na-1) (Mb b) ∅) (g.ma y (List.mem_reverse.mp c) (Ej b))
def
dZ{p q:Array I}{i:I}:p.j item++((q.j item).θ i j).ϙ=(p++(q.θ i j).ϙ).j item:=by simp
end
section
variable(r:I->I)(item:I->An)(pa pb:Array I)(S:Ah)
def HI{e:Type}(x:I)(b:O (Array An)×I×I×Array An×e)(st:Ah):V':=∃g a d po c,st=FW S g/\b=(J,a,d,po.j item,c)/\DK r pa pb po a d/\1<=a/\2<=d/\x+a+d<=pa.o+pb.o
def HQ{a:Type}(x:I)(b:O (Array An)×I×I×Array An×a)(st:Ah):V':=HI r item pa pb S x b st\/MQ r item pa pb S b st
end
variable {prog:AN}{w:Ai}{A:Ag}{E:Aa->Ab->V'}{s:Ab}{item:I->An}{r:I->I}{n:I}{pa pb:Array I}
variable{po:Array I}{na nb:I}
def
d3(P:DH r n pa pb){st:Ah}{x y g mg c d:I}(k:DK r pa pb po na nb)(a:1<=na)(i2:2<=nb)(i:x+1+y+na+nb<=pa.o+pb.o)(h:r (Au pb (nb-1))<=r (Au pa (na-1))):
  wpS (Af prog w) A E s (Vj (pa.j item) (pb.j item) mg c d na nb (po.j item)) (FB (HQ r item pa pb st (x+2)) (HI r item pa pb st (x+1+(y+1)))) (FW st g):=by
 let la:=k.la
 let j:=k.stepA P (Ej a) (Ej i2) h
 apply A3 (ZU (Nv a la) ?_)
 dsimp only
 rw[KG]
 apply Zq (λq=>?_) λq=>?_
 .let(f,e,R):=j.ϕ (item:=item) P (Ix q)
  rw[e];show Bk (.φ #[g,f,rfl,rfl,R])
 let b:na-1≠0:=λh=>q (by rw[h];rfl)
 show Zq (λq=>Bk (.U #[g,_,_,_,_,rfl,rfl,j,by show Nw.Ϛ b,i2,∅])) λq=>Bk #[g,_,_,_,_,rfl,rfl,j,by show Nw.Ϛ b,i2,∅]
variable(H:L9 prog w A E s κ item r n)
include H
def
d6(P:DH r n pa pb){st:Ah}(u:kindOf st=κ){x y g mg v z:I}(K:DK r pa pb po na nb)(c:1<=na)(i2:2<=nb)(G:x+1+y+na+nb<=pa.o+pb.o)(h:r (Au pa (na-1))<=r (Au pb (nb-1))):
  wpS (Af prog w) A E s (Vk (pa.j item) (pb.j item) mg v z na nb (po.j item)) (FB (HQ r item pa pb st (x+2)) (HI r item pa pb st (x+1+(y+1)))) (FW st g):=by
 let la:=K.la
 let lb:=K.lb
 let F:=K.stepB P (Ej c) (Ej i2) h
 apply A3 (ZU ∅ ?_)
 dsimp only
 rw[KG]
 apply Zq (λq=>?_) λq=>?_
 .let(l,e,R):=F.fst (item:=item) P (Ix q)
  rw[e];show Bk (.φ #[g,l,rfl,rfl,R])
 let B:nb-1≠1:=λh=>q (by rw[h];rfl)
 apply A3 (ZU (Nv c la) (A3 (Nn H (P.la _ (Nv c la)) P.lb ∅ ∅ (λi j m o=>P.sb _ _ (Nu.Ϛ m) ∅) u λk l1 p f=>?_)))
 erw[if_true,Iy]at p f
 let C:1<=k:=by
  rcases EW 0 k with h|h
  .show h
  .let m:=f 0 ∅ (Nat.zero_lt_sub_of_lt i2)
   let o:=P.fst (na-1) (Nv c la)
   show Nw.Ϛ λa=>m o
 let t:=DK.blockB P (nb-1-k) k F (QS l1) (Ej c) λi a b=>by have:=f i a b;show GX (f i a b)
 let d:r (Au pb (k-1))<=r (Au pa (na-1)):=FH (p (k-1) (G8 C))
 apply Zq (λq=>?_) λq=>?_
 .rw[dZ]
  apply Zq (λq=>?_) λq=>?_
  .let(l,e,R):=t.fst (item:=item) P (Ix q)
   rw[e];show Bk (.φ #[g,l,rfl,rfl,R])
  let B:k≠1:=λh=>q (by rw[h];rfl)
  apply Zq (λq=>?_) λq=>d3 P t c ∅ ∅ d
  have:=Ix q
  lia
 .let e:k=nb-1:=∅
  subst e
  show d3 P F c ∅ ∅ d
def
d7(P:DH r n pa pb){st:Ah}(d:kindOf st=κ){x y g mg p t:I}(G:DK r pa pb po na nb)(f:1<=na)(i2:2<=nb)(B:x+1+y+na+nb<=pa.o+pb.o):
  wpS (Af prog w) A E s (Vl (pa.j item) (pb.j item) mg p t na nb (po.j item)) (FB (HQ r item pa pb st (x+2)) (HI r item pa pb st (x+1+(y+1)))) (FW st g):=by
 let la:=G.la
 let lb:=G.lb
 apply A3 (Ru (A3 (ZU ∅ (A3 (Nn H (P.lb _ ∅) P.la ∅ (G8 f) (λi j u C=>P.sa _ _ (Nu.Ϛ u) ∅) d λk v l m=>?_)))))
 erw[FQ,if_false,Iy]at l m
 let F:=DK.blockA P (na-k) k G (QS v) (Ej i2) λi a b=>by have:=m i a b;lia
 let c:0<k->r (Au pa (k-1))<=r (Au pb (nb-1)):=λ_=>by
  have:=l (k-1) ∅
  show O1 this
 apply Zq (λq=>?_) λq=>?_
 .dsimp only
  rw[dZ]
  apply Zq (λq=>?_) λq=>?_
  .let(z,e,R):=F.ϕ (item:=item) P (Ix q)
   rw[e];show Bk (.φ #[mg,z,rfl,rfl,R])
  let o:k≠0:=λh=>q (by rw[h];rfl)
  show d6 H P d F (Nw.Ϛ o) i2 ∅ (c (Nat.zero_lt_of_ne_zero o))
 .let e:k=na:=∅
  subst e
  show d6 H P d G (Nat.one_le_of_lt f) i2 ∅ (c (Ej f))
def
u9(P:DH r n pa pb){S:Ah}(i:kindOf S=κ){x mg:I}{b:Vm}{st:Ah}(h:HI r item pa pb S (x+1) b st):wpS (Af prog w) A E s (dV (pa.j item) (pb.j item) mg b) (FB (HQ r item pa pb S (x+1)) (HI r item pa pb S (x+1))) st:=by
 let(g,na,nb,po,c,rfl,rfl,l,a,i2,j):=h
 let la:=l.la
 let lb:=l.lb
 apply A3 (ZU ∅ (A3 (ZU (Nv a la) (A3 (H _ _ (P.lb _ ∅) (P.la _ (Nv a la)) _ _ i ?_)))))
 apply Zq (λq=>?_) λq=>?_
 .let k:=l.stepA P (Ej a) (Ej i2) (FH (of_decide_eq_true q))
  apply A3 (ZU (Nv a la) ?_)
  dsimp only
  rw[KG]
  apply Zq (λq=>?_) λq=>?_
  .let(d,e,R):=k.ϕ (item:=item) P (Ix q)
   rw[e];show Bk (.φ #[g,d,rfl,rfl,R])
  let f:na-1≠0:=λh=>q (by rw[h];rfl)
  show Zq (λq=>Bk (.U #[g,_,_,_,_,rfl,rfl,k,by show Nw.Ϛ f,i2,∅])) λq=>Bk #[g,_,_,_,_,rfl,rfl,k,by show Nw.Ϛ f,i2,∅]
 .let k:=l.stepB P (Ej a) (Ej i2) (GX λh=>q (decide_eq_true h))
  apply A3 (ZU ∅ ?_)
  dsimp only
  rw[KG]
  apply Zq (λq=>?_) λq=>?_
  .let(d,e,R):=k.fst (item:=item) P (Ix q)
   rw[e];show Bk (.φ #[g,d,rfl,rfl,R])
  let f:nb-1≠1:=λh=>q (by rw[h];rfl)
  show Zq (λq=>Bk (.U #[g,_,_,_,_,rfl,rfl,k,a,∅,∅])) λq=>Bk #[g,_,_,_,_,rfl,rfl,k,a,∅,∅]
def
va(P:DH r n pa pb){S:Ah}(f:kindOf S=κ){x:I}{b:O6}{st:Ah}(h:HI r item pa pb S (x+1) b st):wpS (Af prog w) A E s (dW (pa.j item) (pb.j item) b) (FB (MQ r item pa pb S) (HI r item pa pb S (x+1+1))) st:=by
 let(g,na,nb,po,mg,rfl,rfl,k,a,i2,d):=h
 apply A3 (Jw (λ_=>HI r item pa pb S (x+1)) (HQ r item pa pb S (x+1)) (λi c st _ h=>u9 H P f h) (λc st h=>.U h) #[g,na,nb,po,_,rfl,rfl,k,a,i2,d] λb st h=>?_)
 clear k a i2 d
 rcases h with⟨g,na,nb,po,c,rfl,rfl,k,a,i2,d⟩|⟨g,j,rfl,e,R⟩
 .apply A3 (wpS_lift (F5 #[rfl,A3 (Jw (λy=>HI r item pa pb S (x+1+y)) (HQ r item pa pb S (x+2)) (λi c st _ h=>?_) (λc st h=>?_) #[g,na,nb,po,_,rfl,rfl,k,a,i2,d] λb st h=>?_)]))
  all_goals clear k a i2 d
  .let(g,na,nb,po,c,rfl,rfl,k,a,i2,d):=h
   show Zq (λ_=>d7 H P f k a i2 d) λ_=>d7 H P f k a i2 d
  .let(g,na,nb,po,c,rfl,rfl,k,a,i2,d):=h
   rw[Iw,Iw]at d
   show .U #[g,_,_,_,_,rfl,rfl,k,a,i2,∅]
  .rcases h with⟨g,na,nb,po,c,rfl,rfl,k,a,i2,d⟩|⟨g,j,rfl,e,R⟩
   .show A3 (Ru (Bk #[_,_,_,_,_,rfl,rfl,k,a,i2,d]))
   .rw[e];show Bk #[g,j,rfl,rfl,R]
 .rw[e];show Bk #[g,j,rfl,rfl,R]
def
vb(P:DH r n pa pb){Q:Array An->Ah->V'}{st:Ah}(j:kindOf st=κ)(h:∀pm g,Ei r pa pb pm->Q (pm.j item) (FW st g)):wpS (Af prog w) A E s (Vc (pa.j item) (pb.j item)) Q st:=by
 let a1:=P.a1
 let b1:=P.b1
 let k:(pa.j item).o=pa.o:=Iw
 let l:(pb.j item).o=pb.o:=Iw
 rw[u8,k,l]
 apply A3 (wpS_lift (F5 #[rfl,A3 (ZU (G8 a1) ?_)]))
 let m:((T' [item (Au pa (pa.o-1))]):Array An)=((T' [Au pa (pa.o-1)]):Array I).j item:=by simp
 dsimp only
 rw[m]
 let a:DK r pa pb (T' [Au pa (pa.o-1)]) (pa.o-1) pb.o:=by
  apply#[?_,Nt _ _,λx d o=>?_,λx d o=>?_,by show Nat.sub_le pa.o 1,A4 _]
  .rw[Rw (G8 a1),show pa.o-1+1=pa.o by show Nat.sub_add_cancel a1,List.drop_of_length_le (by simp),List.drop_of_length_le (by simp)];simp
  .rw[CC.mp d];show P.sa _ _ (Nat.sub_le_succ_sub (pa.o-1) 1) (G8 a1)
  .rw[CC.mp d];show FH (P.X _ (G8 b1))
 apply Zq (λq=>?_) λp=>?_
 .let(pm,e,R):=a.ϕ (item:=item) P (Ix q)
  rw[e];show Bk (h pm (gallopOf st) R)
 let f:pa.o-1≠0:=λh=>p (by rw[h];rfl)
 apply Zq (λq=>?_) λt=>?_
 .let(pm,e,R):=a.fst (item:=item) P (Ix q)
  rw[e];show Bk (h pm (gallopOf st) R)
 let u:pb.o≠1:=λh=>t (by rw[h];rfl)
 apply A3 (wpS_get (A3 (Jw (λx=>HI r item pa pb st (x+1)) (MQ r item pa pb st) (λi c st _ h=>va H P j h) (λc st h=>?_) #[gallopOf st,_,_,_,_,rfl,rfl,a,by show Nw.Ϛ f,∅,∅] λb v y=>?_)))
 .let(g,na,nb,po,mg,rfl,rfl,C,z,i2,B):=h
  lia
 .let(g,pm,rfl,e,R):=y
  rw[e]
  show Bk (h pm g R)
end
def Vn(lo a d:I):StateT Ah BI AscSt:=
 forIn [a:d] ((J,a):AscSt) λ_ b=>do
  let e <- ltAt' (lo+b.snd) (lo+b.snd-1)
  match e with
  |some c=>if c=J' then Am (KI (J,b.snd))else Am (GV (J,b.snd+1))
  |_=>Am (KI (Z J,b.snd))
def Vo(lo n a:I):StateT Ah BI (O I):=do
 reverseSlice' lo (lo+n)
 let b <- Vn lo n a
 Js (λ_=>StateT Ah BI (O I)) b.fst Am λ_=>Am (Z b.snd)
def d8(lo n e:I):StateT Ah BI DescSt:=
 forIn [n:e] ((J,n,0):DescSt) λ_ a=>do
  let d <- ltAt' (lo+a.snd.fst) (lo+a.snd.fst-1)
  match d with
  |some b=>
   if b=J' then
    if a.snd.snd>0 then do
     reverseSlice' (lo+a.snd.fst-(a.snd.snd+1)) (lo+a.snd.fst)
     Am (GV (J,a.snd.fst+1,0))
    else Am (GV (J,a.snd.fst+1,0))
   else do
    let d <- ltAt' (lo+a.snd.fst-1) (lo+a.snd.fst)
    match d with
    |some c=>
     if c=J' then Am (KI (J,a.snd.fst,a.snd.snd))
     else Am (GV (J,a.snd.fst+1,a.snd.snd+1))
    |_=>Am (KI (Z J,a.snd.fst,a.snd.snd))
  |_=>Am (KI (Z J,a.snd.fst,a.snd.snd))
def Vp(lo n b:I):StateT Ah BI (O I):=do
 liftM (rule "list.sort.descending-run")
 let a <- d8 lo (n+1) b
 Js (λ_=>StateT Ah BI (O I)) a.fst Am λ_=>
  if a.snd.snd>0 then do
   reverseSlice' (lo+a.snd.fst-(a.snd.snd+1)) (lo+a.snd.fst)
   Vo lo a.snd.fst b
  else Vo lo a.snd.fst b
def
vc(lo b:I):countRun' lo b=(do
  let a <- Vn lo 1 b
  Js (λ_=>StateT Ah BI (O I)) a.fst Am λ_=>
   if(a.snd==b)=J' then Am (Z a.snd)
   else if a.snd>1 then do
    let d <- ltAt' lo (lo+a.snd-1)
    match d with
    |some c=>if c=J' then Am (Z a.snd)else do
      reverseSlice' lo (lo+a.snd)
      Vp lo a.snd b
    |_=>Am J
   else Vp lo a.snd b):=rfl
abbrev Dz(item:I->An)(st:Ah)(p:Array I):Ah:=setArr st (p.j item)
def EX(r:I->I)(p:Array I)(a b:I):V':=∀i j,a<=i->i<=j->j<b->r (Au p i)<=r (Au p j)
def O8(r:I->I)(p:Array I)(a b:I):V':=∀i j,a<=i->i<=j->j<b->r (Au p j)<=r (Au p i)
def KJ(p a:Array I)(lo:I):V':=∀i,i<lo->Au a i=Au p i
variable {prog:AN}{w:Ai}{A:Ag}{E:Aa->Ab->V'}{s:Ab}{item:I->An}{r:I->I}{n:I}{p:Array I}{st:Ah}{lo nrem:I}
def
RC{i:I}{Q:Unit->Ah->V'}(h:Q () (Dz item st (kas_rev p i j))):wpS (Af prog w) A E s (reverseSlice' i j) Q (Dz item st p):=by
 apply wpS_reverse ?_
 rw[show mirror (p.j item) i j ((j-i)/2)=(kas_rev p i j).j item from kas_swaps_map item (λk=>i+k) (λk=>j-1-k) _ p];show h
def
Vq{i c:I}(b:j<=p.o)(h:∀k,i<=k->k<j->r (Au p k)=c)(k:I):r (Au (kas_rev p i j) k)=r (Au p k):=by
 rw[L8 b]
 by_cases a:i<=k/\k<j
 .rw[if_pos a,h k a.1 a.2,h _ ∅ ∅]
 .rw[if_neg a]
variable(H:L9 prog w A E s κ item r n)
include H
def
O9{i:I}{Q:O q'->Ah->V'}(a:Bs n p)(b:i<n)(c:j<n)(d:kindOf st=κ)(h:Q (Z (decide (r (Au p i)<r (Au p j)))) (Dz item st p)):wpS (Af prog w) A E s (ltAt' i j) Q (Dz item st p):=by
 apply A3 (wpS_get ?_)
 apply A3 (ZU (by rw[a.o];show b) (A3 (ZU (by rw[a.o];show c) ?_)))
 show H _ _ (a.lt b) (a.lt c) _ _ d h
def
eb{a:I}(o:Bs n p)(v:1<=a)(l:a<=nrem)(y:lo+nrem<=n)(t:kindOf st=κ)(d:EX r p lo (lo+a)){Q:AscSt->Ah->V'}
  (h:∀m,a<=m->m<=nrem->EX r p lo (lo+m)->(m=nrem\/r (Au p (lo+m))<r (Au p (lo+m-1)))->Q (J,m) (Dz item st p)):wpS (Af prog w) A E s (Vn lo a nrem) Q (Dz item st p):=by
 apply Ma (λx b e=>e=Dz item st p/\b=(J,x)/\EX r p lo (lo+x)) ?_ ?_ #[rfl,rfl,d]
 .intro x b e g u zQ;let(rfl,rfl,d):=zQ
  apply A3 (O9 H o ∅ ∅ t ?_)
  apply Zq (λq=>?_) λq=>?_
  .show Bk (h x g (KA u) d (.φ (of_decide_eq_true q)))
  .apply Bk #[rfl,rfl,λi j a b c=>?_]
   rcases EW j (lo+x)with k|k
   .show d i j a b k
   .have:j=lo+x:=Mc k c
    subst this
    rcases EW i (lo+x)with f|f
    .have:=d i (lo+x-1) a (Mb f) (G8 f);lia
    .have:i=lo+x:=Eq.Γ (Pa f b)
     subst this;show A4 _
 .intro b e zQ;let(rfl,rfl,d):=zQ
  rw[show max a nrem=nrem by show Nat.max_eq_right l]at d ⊢
  show h nrem l (A4 _) d (.U rfl)
def
ed{m:I}(e:Bs n p)(f:1<=m)(g:m<=nrem)(k:lo+nrem<=n)(l:kindOf st=κ)(hd:O8 r p lo (lo+m)){Q:O I->Ah->V'}
  (h:∀m d,1<=m->m<=nrem->Bs n d->KJ p d lo->EX r d lo (lo+m)->Q (Z m) (Dz item st d)):wpS (Af prog w) A E s (Vo lo m nrem) Q (Dz item st p):=by
 apply A3 (RC ?_)
 let z:=e.o
 apply A3 (eb H (e.rev lo (lo+m)) f g k l (λi j a b c=>?_) λo a b c _=>?_)
 .rw[L8 ∅,L8 ∅,if_pos ∅,if_pos ∅]
  show hd _ _ ∅ (Nat.sub_le_sub_left b (lo+(lo+m)-1)) ∅
 .show Bk (h o _ (Bu f a) b (e.rev _ _) (λi q=>by rw[L8 ∅,if_neg ∅]) c)
def
vd{m:I}(K:Bs n p)(F:1<=m)(C:m<=nrem)(M:lo+nrem<=n)(G:kindOf st=κ)(hd:O8 r p lo (lo+m)){Q:DescSt->Ah->V'}
  (h:∀o q f,m<=o->o<=nrem->Bs n f->KJ p f lo->O8 r f lo (lo+o)->q+1<=o->(∀i,lo+o-(q+1)<=i->i<lo+o->r (Au f i)=r (Au f (lo+o-1)))->Q (J,o,q) (Dz item st f)):
  wpS (Af prog w) A E s (d8 lo m nrem) Q (Dz item st p):=by
 apply Ma (λx b t=>∃q f,t=Dz item st f/\b=(J,x,q)/\Bs n f/\KJ p f lo/\O8 r f lo (lo+x)/\q+1<=x/\∀i,lo+x-(q+1)<=i->i<lo+x->r (Au f i)=r (Au f (lo+x-1))) ?_ ?_
  #[0,p,rfl,rfl,K,λ_ _=>rfl,hd,F,λi a b=>by rw[show i=lo+m-1 by lia]]
 .intro x b t z L zQ;let(q,f,rfl,rfl,k,u,hd,y,v):=zQ
  apply A3 (O9 H k ∅ ∅ G ?_)
  apply Zq (λc=>?_) λc=>?_
  .apply Zq (λB=>?_) λB=>?_
   .apply A3 (RC (Bk ?_))
    let e:=Vq (p:=f) (r:=r) (i:=lo+x-(q+1)) (j:=lo+x) ∅ v
    apply#[0,_,rfl,rfl,k.rev _ _,λi g=>?_,λi j a b d=>?_,by show Nat.le_add_left (0+1) x,λi a b=>by rw[show i=lo+(x+1)-1 by show Mc a b]]
    .rw[L8 ∅,if_neg ∅];show u i g
    .rw[e,e]
     rcases EW j (lo+x)with l|l
     .show hd i j a b l
     .have:j=lo+x:=Mc l d
      subst this
      rcases EW i (lo+x)with g|g
      .have:=hd i (lo+x-1) a (Mb g) (G8 g);lia
      .have:i=lo+x:=Eq.Γ (Pa g b)
       subst this;show A4 _
   .apply Bk #[0,_,rfl,rfl,k,u,λi j a b d=>?_,by show Nat.le_add_left (0+1) x,λi a b=>by rw[show i=lo+(x+1)-1 by show Mc a b]]
    rcases EW j (lo+x)with l|l
    .show hd i j a b l
    .have:j=lo+x:=Mc l d
     subst this
     rcases EW i (lo+x)with g|g
     .have:=hd i (lo+x-1) a (Mb g) (G8 g);lia
     .have:i=lo+x:=Eq.Γ (Pa g b)
      subst this;show A4 _
  .apply A3 (O9 H k ∅ ∅ G ?_)
   apply Zq (λB=>?_) λB=>?_
   .show Bk (h x q f z (KA L) k u hd y v)
   .apply Bk #[q+1,_,rfl,rfl,k,u,λi j a b d=>?_,by show Nat.add_le_add_right y 1,λi a b=>?_]
    .rcases EW j (lo+x)with l|l
     .show hd i j a b l
     .have:j=lo+x:=Mc l d
      subst this
      rcases EW i (lo+x)with g|g
      .have:=hd i (lo+x-1) a (Mb g) (G8 g);lia
      .have:i=lo+x:=Eq.Γ (Pa g b)
       subst this;show A4 _
    .rw[show lo+(x+1)-1=lo+x by show Nat.add_succ_sub_one lo x]
     rcases EW i (lo+x)with g|g
     .rw[show r (Au f (lo+x))=r (Au f (lo+x-1)) by lia];show v i ∅ g
     .rw[show i=lo+x by show Mc g b]
 .intro b t zQ;let(q,f,rfl,rfl,k,u,hd,y,v):=zQ
  rw[show max m nrem=nrem by show Nat.max_eq_right C]at hd y v ⊢
  show h nrem q f C (A4 _) k u hd y v
def
ee{m:I}(L:Bs n p)(M:m+1<=nrem)(u:lo+nrem<=n)(v:kindOf st=κ)(hd:O8 r p lo (lo+(m+1))){Q:O I->Ah->V'}
  (h:∀m l,1<=m->m<=nrem->Bs n l->KJ p l lo->EX r l lo (lo+m)->Q (Z m) (Dz item st l)):wpS (Af prog w) A E s (Vp lo m nrem) Q (Dz item st p):=by
 apply A3 (wpS_lift (F5 #[rfl,?_]))
 apply A3 (vd H L (Nat.le_add_left 1 m) M u v hd λF q l a b c d e f g=>?_)
 let z:=c.o
 apply Zq (λk=>?_) λk=>?_
 .apply A3 (RC ?_)
  let o:=Vq (p:=l) (r:=r) (i:=lo+F-(q+1)) (j:=lo+F) ∅ g
  apply ed H (c.rev _ _) (Nat.one_le_of_lt a) b u v (λi j a b d=>by rw[o,o];show e i j a b d) λx y B C G K o=>h x y B C G (λi t=>?_) o
  rw[K i t,L8 ∅,if_neg ∅];show d i t
 .show ed H c (Nat.one_le_of_lt a) b u v e λx y B C G K o=>h x y B C G (λi t=>by rw[K i t];show d i t) o
def
ve(f:Bs n p)(B:1<=nrem)(y:lo+nrem<=n)(o:kindOf st=κ){Q:O I->Ah->V'}
  (h:∀m t,1<=m->m<=nrem->Bs n t->KJ p t lo->EX r t lo (lo+m)->Q (Z m) (Dz item st t)):wpS (Af prog w) A E s (countRun' lo nrem) Q (Dz item st p):=by
 rw[vc]
 apply A3 (eb H f (A4 1) B y o (λi j a b c=>by rw[show i=j by lia];show A4 _) λm a b c d=>?_)
 apply Zq (λq=>?_) λq=>?_
 .show Bk (h m p a b f (λ_ _=>rfl) c)
 let q:m≠nrem:=λe=>q (by rw[e];show beq_self_eq_true _)
 apply Zq (λk=>?_) λk=>?_
 .apply A3 (O9 H f ∅ ∅ o ?_)
  apply Zq (λu=>?_) λu=>?_
  .show Bk (h m p a b f (λ_ _=>rfl) c)
  let eq:∀i,lo<=i->i<lo+m->r (Au p i)=r (Au p lo):=λi a1 b1=>by
   let N:=c lo i (A4 _) a1 b1
   let K:=c i (lo+m-1) a1 (Mb b1) (G8 b1)
   lia
  let v:=Vq (p:=p) (r:=r) (i:=lo) (j:=lo+m) ∅ eq
  apply A3 (RC (ee H (f.rev _ _) ∅ y o (λi j a b g=>?_) λC G P F L M v=>h C G P F L (λi l=>?_) v))
  .rw[v,v]
   rcases EW j (lo+m)with x|x
   .rw[eq i a (Ee b x),eq j (Bu a b) x];show A4 _
   .have:j=lo+m:=Mc x g
    subst this
    rcases EW i (lo+m)with l|l
    .rw[eq i a l];rw[eq (lo+m-1) ∅ (G8 l)]at d;lia
    .rw[show i=lo+m by show Eq.Γ (Pa l b)];show A4 _
  .rw[M i l,L8 ∅,if_neg ∅]
 .apply ee H f ∅ y o (λi j a b g=>?_) h
  have:m=1:=∅
  subst this
  rcases EW i j with z|z
  .rw[show i=lo by lia,show j=lo+1 by lia]
   rw[show lo+1-1=lo by show Nat.add_sub_self_right lo 1]at d;lia
  .rw[show i=j by lia];show A4 _
def
vf{m ok:I}(N:Bs n p)(F:1<=ok)(K:ok<=m)(h3:lo+m<=n)(T:kindOf st=κ)(P:EX r p lo (lo+ok)){Q:q'->Ah->V'}
  (h:∀d,Bs n d->KJ p d lo->EX r d lo (lo+m)->Q J' (Dz item st d)):wpS (Af prog w) A E s (binarySort' lo m ok) Q (Dz item st p):=by
 rw[binarySort'_eq]
 let Y:max ok 1=ok:=Nat.max_eq_left F
 rw[Y]
 apply A3 (wpS_mono (Ma (λk b f=>b=(J,())/\∃d,f=Dz item st d/\Bs n d/\KJ p d lo/\EX r d lo (lo+k))
  (Q:=λb f=>b=(J,())/\∃d,f=Dz item st d/\Bs n d/\KJ p d lo/\EX r d lo (lo+m)) ?_ ?_ #[rfl,p,rfl,N,λ_ _=>rfl,P]) ?_)
 .intro k b f hak hkm zQ;let(rfl,d,rfl,o,B,g):=zQ
  let z:=o.o
  apply A3 (wpS_mono (Ma (λx b f=>f=Dz item st d/\∃l u,b=(J,l,u)/\l<=u/\u<=k/\u+x<=k+l /\
    (∀i,i<l->r (Au d (lo+i))<=r (Au d (lo+k)))/\(∀i,u<=i->i<k->r (Au d (lo+k))<r (Au d (lo+i))))
   (Q:=λb f=>f=Dz item st d/\∃l u,b=(J,l,u)/\l<=k /\
    (∀i,i<l->r (Au d (lo+i))<=r (Au d (lo+k)))/\(∀i,l<=i->i<k->r (Au d (lo+k))<r (Au d (lo+i)))) ?_ ?_ #[rfl,0,k,rfl,by show Fi k,by show A4 k,by show HJ (k+0) 0,λi L=>∅,λi F K=>∅]) ?_)
  .intro x b f _ hx zQ;let(rfl,l,u,rfl,C,G,R,t,y):=zQ
   dsimp only
   apply Zq (λq=>?_) λq=>?_
   .show Bk #[rfl,l,u,rfl,by show Bu C G,t,λi a b=>y i (Bu q a) b]
   .let v1:l<=(l+u)/2:=by clear R;lia
    let M:(l+u)/2<u:=by clear R;lia
    generalize (l+u)/2=v at v1 M ⊢
    apply A3 (O9 H o ∅ ∅ T ?_)
    dsimp only
    apply Zq (λq=>?_) λq=>?_
    .let q:=of_decide_eq_true q
     show Bk #[rfl,_,_,rfl,∅,∅,∅,t,λi a b=>BY q (g _ _ (HJ lo v) (Nu.Ϛ a) (Nat.add_lt_add_left b lo))]
    .let q:¬ r (Au d (lo+k))<r (Au d (lo+v)):=λh=>q (decide_eq_true h)
     show Bk #[rfl,_,_,rfl,by show Nat.succ_le_of_lt M,∅,∅,λi a=>Bu (g (lo+i) (lo+v) (HJ lo i) ∅ ∅) (GX q),y]
  .intro b f zQ;let(rfl,l,u,rfl,C,G,R,t,y):=zQ
   show#[rfl,l,u,rfl,by show Bu C G,t,λi a b=>y i ∅ b]
  .intro b f zQ;let(rfl,l,u,rfl,C,t,y):=zQ
   change wpS _ _ _ _ (do moveDown' (lo+k) (lo+l);Am (GV (J,()))) _ _
   rw[moveDown'_eq]
   apply A3 (wpS_modify (Bk #[rfl,bubble d (lo+k) (k-l),?_,o.bub _ _,λi L=>?_,λi j a b c=>?_]))
   .let e:bubble (d.j item) (lo+k) (k-l)=(bubble d (lo+k) (k-l)).j item:=kas_swaps_map item (λi=>lo+k-i) (λi=>lo+k-i-1) _ d
    change setArr st (bubble (d.j item) (lo+k) (lo+k-(lo+l)))=_
    rw[show lo+k-(lo+l)=k-l by show Nat.add_sub_add_left lo k l,e]
   .rw[Va ∅ ∅,if_neg ∅,if_neg ∅];show B i L
   .rw[Va ∅ ∅,Va ∅ ∅,show lo+k-(k-l)=lo+l by lia]
    let d4:∀i,lo<=i->i<lo+l->r (Au d i)<=r (Au d (lo+k)):=λi a b=>by have:=t (i-lo) (Nat.sub_lt_left_of_lt_add a b);rwa[show lo+(i-lo)=i by show QS a]at this
    let d5:∀i,lo+l<=i->i<lo+k->r (Au d (lo+k))<r (Au d i):=λi a b=>by have:=y (i-lo) (Nat.le_sub_of_add_le' a) ∅;rwa[show lo+(i-lo)=i by lia]at this
    repeat' split
    all_goals first
     |(exfalso;lia)
     |show A4 _
     |show d4 _ ∅ ∅
     |show FH (d5 _ ∅ ∅)
     |show g _ _ ∅ ∅ ∅
 .intro b f zQ;let(rfl,d,rfl,o,B,g):=zQ
  let e:max ok m=m:=∅
  rw[e]at g
  show#[rfl,d,rfl,o,B,g]
 .intro b f zQ;let(rfl,d,rfl,o,B,g):=zQ
  show Bk (h d o B g)
end
def
vg(i:I):mergeAt' i=(do
 let s <- get
 let(Z (sa,b,c),Z (sb,d,_)):=((GA s)[i]?,(GA s)[i+1]?)|unsupported "internal:list.sort.pending"
 set (KN s (((GA s).Ρ i (sa,b+d,c)).ϓ (i+1)))
 let Z k <- Kz O' (<- BC (arrOf s) sb) (arrOf s) sa b 0|return O'
 let(sa,b):=(sa+k,b-k)
 if b==0 then return J'
 let Z d <- Kz J' (<- BC (arrOf s) (sa+b-1)) (arrOf s) sb d (d-1)|return O'
 if d==0 then return J'
 let x:=(arrOf s).θ sa sb
 let y:=(arrOf s).θ sb (sb+d)
 let merged <- if b<=d then Vb x y else Vc x y
 modify λs=>setArr s (merged.J.zipIdx.Ϗ (λa (p,j)=>a.Ρ (sa+j) p) (arrOf s))
 return(HM (<- get)).isNone):=rfl
def A2(r:I->I)(p:Array I):U (I×I×I)->I->I->V'
 |[],a,b=>a=b
 |x::l,a,b=>x.1=a/\1<=x.2.1/\EX r p a (a+x.2.1)/\A2 r p l (a+x.2.1) b
variable {r:I->I}{p p':Array I}
def
A2.le:∀{l:U (I×I×I)}{a b:I},A2 r p l a b->a+l.a<=b
 |[],a,b,h=>by rw[show a=b from h];show A4 _
 |x::l,a,b,h=>by have:=A2.le h.2.2.2;have:=h.2.1;erw[Cr];lia
def
A2.same:∀{l:U (I×I×I)}{a b:I},A2 r p l a b->(∀i,a<=i->i<b->Au p' i=Au p i)->A2 r p' l a b
 |[],a,b,h,_=>h
 |x::l,a,b,h,e=>#[h.1,h.2.1,λi j c d f=>by
   have:=A2.le h.2.2.2
   rw[e i ∅ ∅,e j (Bu c d) ∅];show h.2.2.1 i j c d f,A2.δ h.2.2.2 λi c d=>e i (Nat.le_of_add_right_le c) d]
def
A2.app:∀{l c:U (I×I×I)}{a b:I},A2 r p (l++c) a b->∃m,A2 r p l a m/\A2 r p c m b
 |[],c,a,b,h=>#[a,rfl,h]
 |x::l,c,a,b,h=>by
  let(m,d,e):=A2.app h.2.2.2
  show#[m,#[h.1,h.2.1,h.2.2.1,d],e]
def
A2.join:∀{l c:U (I×I×I)}{a m b:I},A2 r p l a m->A2 r p c m b->A2 r p (l++c) a b
 |[],c,a,m,b,h,d=>by rw[show a=m from h];show d
 |x::l,c,a,m,b,h,d=>#[h.1,h.2.1,h.2.2.1,A2.join h.2.2.2 d]
def
A2.modify(f:I×I×I->I×I×I)(c:∀x,(f x).1=x.1/\(f x).2.1=x.2.1):∀{l:U (I×I×I)}{a b:I}(k:I),A2 r p l a b->A2 r p (l.modify k f) a b
 |[],a,b,k,h=>by ext k<;>show h
 |x::l,a,b,0,h=>by
  show(f x).1=a/\1<=(f x).2.1/\EX r p a (a+(f x).2.1)/\A2 r p l (a+(f x).2.1) b
  rw[(c x).1,(c x).2];show h
 |x::l,a,b,k+1,h=>#[h.1,h.2.1,h.2.2.1,A2.modify f c k h.2.2.2]
end
def
eg{b:Type}(o:I):∀(l:U b)(k:I)(a:Array b),o+k+l.a<=a.o ->
  ((l.zipIdx k).Ϗ (λa (x:b×I)=>a.Ρ (o+x.2) x.1) a).J=a.J.ϒ (o+k)++l++a.J.Θ (o+k+l.a)
 |[],k,a,h=>by simp
 |x::l,k,a,h=>by
  erw[Cr]at h
  rw[List.zipIdx_cons,Md,eg o l (k+1) _ (by erw[Array.size_setIfInBounds];lia)]
  erw[Array.toList_setIfInBounds]
  rw[List.drop_set_of_lt ∅,show o+(k+1)+l.a=o+k+(x::l).a by erw[Cr];show Nat.succ_add_eq_add_succ (o.add k) l.a]
  congr 1
  rw[show o+(k+1)=o+k+1 by show Eq.Γ (Pb o k 1),List.take_add_one,List.take_set_of_le (A4 _),Ho (by simp;show G4 h)]
  simp
def
vh{M:Model}{A:Ag}{E:Aa->Ab->V'}{s:Ab}{Y':Type}{x:Y'}{Q:PUnit->Y'->V'}{st:Y'}(h:Q ⟨⟩ x):wpS M A E s (set x:StateT Y' BI PUnit) Q st:=by
 unfold wpS;rw[StateT.run_set];show A0 #[rfl,h]
def
G9{p:Array I}{a b i:I}(h:i<b-a)(c:b<=p.o):Au (p.θ a b) i=Au p (a+i):=by
 apply(Jq)
 rw[Array.getElem?_extract]
 rw[if_pos ∅]
def
vi{p:Array I}{a e:I}(d:e<=p.o)(f:a<=e)(hz:pm.o=e-a)(i:I):
  Au (p.J.ϒ a++pm.J++p.J.Θ e).E i=if i<a then Au p i else if i<e then Au pm (i-a)else Au p i:=by
 by_cases b:i<a
 .rw[if_pos b]
  apply(Jq)
  rw[List.getElem?_toArray,DV,Hw (by simp;lia),List.getElem?_take_of_lt b,OB]
 .rw[if_neg b]
  by_cases c:i<e
  .rw[if_pos c]
   apply(Jq)
   rw[List.getElem?_toArray,DV,IZ (by simp;lia),Hw (by simp;lia),OB]
   congr 1;simp;lia
  .rw[if_neg c]
   apply(Jq)
   rw[List.getElem?_toArray,IZ (by simp;lia),QR,OB]
   congr 1;simp;lia
structure SI(κ:Gd)(item:I->An)(st:Ah)(p:Array I)(pend:Array (I×I×I)):V' where
 kind:kindOf st=κ
 arr:arrOf st=p.j item
 pend:GA st=pend
 ok:HM st=J
variable {prog:AN}{w:Ai}{A:Ag}{E:Aa->Ab->V'}{s:Ab}{item:I->An}{r:I->I}{n:I}{p:Array I}{st:Ah}{pend:Array (I×I×I)}
def
Ei.srt{d e:Array I}(R:Ei r d e pm):∀i j,i<=j->j<pm.o->r (Au pm i)<=r (Au pm j):=by
 intro i j a b
 rcases EW i j with h|h
 .have:=Rx.mp R.so i j (by simp;show Ee a b) (by exists b) h
  let c:i<pm.o:=Ee a b
  rw[show Au pm i=pm.J[i]'(by exists c) by simp[Au,Jr,c],show Au pm j=pm.J[j]'(by exists b) by simp[Au,Jr,b]];show this
 .rw[show i=j by show Pa a h];show A4 _
variable(H:L9 prog w A E s κ item r n)
include H
set_option maxHeartbeats 4000000 in
def
en{i z:I}(S:SI κ item st p pend)(N:Bs n p)(R:A2 r p pend.J 0 z)(hi':i+1<pend.o)(hn:z<=n){Q:q'->Ah->V'}
  (h:∀C o l,SI κ item C o l->Bs n o->A2 r o l.J 0 z->l.o+1=pend.o->(∀j,z<=j->Au o j=Au p j)->Q J' C):wpS (Af prog w) A E s (mergeAt' i) Q st:=by
 rw[vg]
 apply A3 (wpS_get ?_)
 obtain⟨pre,x,y,X,e,el⟩:∃pre x y X,pend.J=pre++x::y::X/\pre.a=i:=by
  apply#[pend.J.ϒ i,pend.J[i]'(by simp;show G7 hi'),pend.J[i+1]'(by simp;lia),pend.J.Θ (i+2),?_,by simp;lia]
  rw[<- Kk,<- Kk,Jv]
 let(sa,f,pw):=x
 let(sb,L,q):=y
 rw[S.pend,show pend[i]?=Z (sa,f,pw) by rw[<- OB,e];simp[<- el],show pend[i+1]?=Z (sb,L,q) by rw[<- OB,e];simp[<- el]]
 dsimp only
 obtain⟨l,hpe⟩:∃x,x=((pend.Ρ i (sa,f+L,pw)).ϓ (i+1)):=#[_,rfl]
 let e':l.J=pre++(sa,f+L,pw)::X:=by
  rw[hpe]
  simp only[Array.toList_eraseIdxIfInBounds,Array.toList_setIfInBounds,e,<- el]
  simp[List.eraseIdx_append_of_length_le]
 let sz:l.o+1=pend.o:=by
  rw[show l.o=l.J.a by simp,show pend.o=pend.J.a by simp,e',e];simp;lia
 rw[<- hpe]
 apply A3 (vh ?_)
 rw[S.arr]
 let zp:=N.o
 rw[e]at R
 let(m,R1,R2):=R.app
 let(c1,c2,c3,d1,d2,T,R3):=R2
 subst c1
 subst d1
 let le3:=R3.le
 let S1:SI κ item (KN st l) p l:=#[S.ϫ,S.arr,rfl,S.ok]
 let fin:∀C o,SI κ item C o l->Bs n o->EX r o sa (sa+(f+L))->(∀j,j<sa->Au o j=Au p j)->(∀j,sa+f+L<=j->Au o j=Au p j)->Q J' C:=λC o S' B so b1 b2=>by
  apply h C o l S' B ?_ sz λj M=>b2 j ∅
  rw[e']
  refine(R1.δ λj _ b=>b1 j b).join #[rfl,by dsimp only;show Op c2,so,?_]
  rw[show sa+(f+L)=sa+f+L by show Eq.Γ (Pb sa f L)]
  show R3.δ λj a _=>b2 j a
 let hlo:Lo n p:=λi z=>N.lt (LK z zp)
 apply A3 (ZU ∅ ?_)
 apply A3 (Nn H (N.lt ∅) hlo ∅ (Ej c2) (λi j a b=>c3 _ _ (HJ (sa,f,pw).fst i) (Nu.Ϛ a) (Nat.add_lt_add_left b sa)) S1.ϫ λk k1 k2 k3=>?_)
 apply Zq (λu=>?_) λu=>?_
 .let u:f-k=0:=Ix u
  apply Bk (fin _ p S1 N (λi j a b c=>?_) (λ_ _=>rfl) λ_ _=>rfl)
  rcases EW j (sa+f)with M|M
  .show c3 i j a b M
  .rcases EW i (sa+f)with z|z
   .let W:=k2 (i-sa) ∅
    rw[show sa+(i-sa)=i by show QS a]at W
    let x2:=T (sa+f) j (A4 _) M ∅
    lia
   .show T i j z b ∅
 let hf:∀i,sa+k<=i->i<sa+f->r (Au p (sa+f))<r (Au p i):=λi a b=>by
  have:=k3 (i-sa) (Nat.le_sub_of_add_le' a) ∅
  rw[show sa+(i-sa)=i by lia]at this
  lia
 rw[show sa+k+(f-k)-1=sa+f-1 by lia]
 apply A3 (ZU ∅ ?_)
 apply A3 (Nn H (N.lt ∅) hlo ∅ (G8 d2) (λi j a b=>T _ _ ∅ (Nu.Ϛ a) ∅) S1.ϫ λt t1 t2 t3=>?_)
 apply Zq (λv=>?_) λv=>?_
 .let v:t=0:=Ix v
  let W:=t3 0 (Nat.le_zero.Ϛ v) (Ej d2)
  let x2:=hf (sa+f-1) ∅ ∅
  show absurd x2 W
 rw[show(p.j item).θ (sa+k) (sa+f)=(p.θ (sa+k) (sa+f)).j item by simp,show(p.j item).θ (sa+f) (sa+f+t)=(p.θ (sa+f) (sa+f+t)).j item by simp]
 let za:(p.θ (sa+k) (sa+f)).o=f-k:=by simp;lia
 let zb:(p.θ (sa+f) (sa+f+t)).o=t:=by simp;lia
 let P:DH r n (p.θ (sa+k) (sa+f)) (p.θ (sa+f) (sa+f+t)):=by
  apply#[λi z=>?_,λi z=>?_,λi j a b=>?_,λi j a b=>?_,∅,∅,λi z=>?_,λi z=>?_]
  .rw[G9 ∅ ∅];show N.lt ∅
  .rw[G9 ∅ ∅];show N.lt ∅
  .rw[G9 ∅ ∅,G9 ∅ ∅];show c3 _ _ ∅ ∅ ∅
  .rw[G9 ∅ ∅,G9 ∅ ∅];show T _ _ ∅ ∅ ∅
  .rw[G9 ∅ ∅,G9 ∅ ∅];show hf _ ∅ ∅
  .rw[G9 ∅ ∅,G9 ∅ ∅,za]
   have:=t2 i ∅
   rw[show sa+k+(f-k-1)=sa+f-1 by lia];show this
 let cont:∀G g,Ei r (p.θ (sa+k) (sa+f)) (p.θ (sa+f) (sa+f+t)) G->wpS (Af prog w) A E s (do
   modify λs=>setArr s ((G.j item).J.zipIdx.Ϗ (λa (x:An×I)=>a.Ρ (sa+k+x.2) x.1) (arrOf s))
   return(HM (<- get)).isNone) Q (FW (KN st l) g):=by
  intro G g K
  let zm:G.o=f-k+t:=by
   have:=K.perm.ϋ
   rw[F4,Lw,Lw,Lw,za,zb]at this
   show this
  apply A3 (wpS_modify (A3 (wpS_get (Bk ?_))))
  obtain⟨o,Y⟩:∃o,o=(p.J.ϒ (sa+k)++G.J++p.J.Θ (sa+f+t)).E:=#[_,rfl]
  let ea:(G.j item).J.zipIdx.Ϗ (λa (x:An×I)=>a.Ρ (sa+k+x.2) x.1) (p.j item)=o.j item:=by
   apply(KD.mp)
   rw[eg (sa+k) _ 0 _ (by simp;lia),Y]
   erw[Array.toList_map,Bg,Lw,Gc,List.map_take,List.map_drop,Nat.add_zero,Array.toList_map]
   rw[zm,show sa+k+(f-k+t)=sa+f+t by lia]
  let F:=λi=>vi (p:=p) (pm:=G) (a:=sa+k) (e:=sa+f+t) ∅ ∅ ∅ i
  rw[<- Y]at F
  let inm:∀i,i<G.o->∃j,sa+k<=j/\j<sa+f+t/\Au G i=Au p j:=λi z=>by
   let m2:=K.perm.Ϫ.mp (Ka (Vg z))
   rcases Cz.mp m2 with m3|m3
   .let(j,a,b,c):=Nr (k:=0) (p:=p.θ (sa+k) (sa+f)) m3
    rw[G9 ∅ ∅]at c
    show#[sa+k+j,∅,∅,c]
   .let(j,a,b,c):=Nr (k:=0) (p:=p.θ (sa+f) (sa+f+t)) m3
    rw[G9 ∅ ∅]at c
    show#[sa+f+j,∅,∅,c]
  let B:Bs n o:=by
   apply Array.Perm.I ?_ N
   rw[Array.perm_iff_toList_perm,Y]
   let m2:(p.θ (sa+k) (sa+f)).J++(p.θ (sa+f) (sa+f+t)).J++p.J.Θ (sa+f+t)=p.J.Θ (sa+k):=by
    erw[Iu,Ft]
    let q1:p.J.Θ (sa+f)=(p.J.Θ (sa+f)).ϒ (sa+f+t-(sa+f))++p.J.Θ (sa+f+t):=by
     have:=(Jv (sa+f+t-(sa+f)) (p.J.Θ (sa+f))).Γ
     rw[List.drop_drop,show sa+f+(sa+f+t-(sa+f))=sa+f+t by lia]at this
     show this
    let q2:p.J.Θ (sa+k)=(p.J.Θ (sa+k)).ϒ (sa+f-(sa+k))++p.J.Θ (sa+f):=by
     have:=(Jv (sa+f-(sa+k)) (p.J.Θ (sa+k))).Γ
     rw[List.drop_drop,show sa+k+(sa+f-(sa+k))=sa+f by lia]at this
     show this
    rw[DV,<- q1,<- q2]
   rw[DV]
   refine((K.perm.Ϭ _).append_left _).I ?_
   rw[m2,Jv]
  let S2:SI κ item (setArr (FW (KN st l) g) (o.j item)) o l:=#[S.ϫ,rfl,rfl,S.ok]
  let res:=fin _ o S2 B (λi j a b c=>?_) (λj M=>by rw[F,if_pos ∅]) (λj M=>by rw[F,if_neg ∅,if_neg ∅])
  .rw[S.arr,ea,show(HM (setArr (FW (KN st l) g) (o.j item))).isNone=J' by rw[S2.ok];rfl]
   show res
  .let lo1:∀i j,sa<=i->i<sa+k->sa+k<=j->j<sa+f+L->r (Au p i)<=r (Au p j):=λi j a b c d=>by
    rcases EW j (sa+f)with M|M
    .show c3 i j a ∅ M
    .let W:=k2 (i-sa) ∅
     rw[show sa+(i-sa)=i by lia]at W
     let x2:=T (sa+f) j (A4 _) M ∅
     lia
   let hi1:∀i j,sa+k<=i->i<sa+f+t->sa+f+t<=j->j<sa+f+L->r (Au p i)<=r (Au p j):=λi j a b c d=>by
    rcases EW i (sa+f)with z|z
    .let W:=t3 (j-(sa+f)) ∅ ∅
     rw[show sa+f+(j-(sa+f))=j by lia]at W
     let x2:=c3 i (sa+f-1) ∅ ∅ ∅
     lia
    .show T i j z ∅ ∅
   rw[F,F]
   by_cases i1:i<sa+k
   .rw[if_pos i1]
    by_cases j1:j<sa+k
    .rw[if_pos j1];show c3 i j a b ∅
    .rw[if_neg j1]
     by_cases j2:j<sa+f+t
     .rw[if_pos j2]
      let(v,v1,v2,v3):=inm (j-(sa+k)) ∅
      rw[v3];show lo1 i v a i1 v1 ∅
     .rw[if_neg j2];show lo1 i j a i1 ∅ ∅
   .rw[if_neg i1]
    rw[if_neg (c:=j<sa+k) ∅]
    by_cases i2:i<sa+f+t
    .rw[if_pos i2]
     by_cases j2:j<sa+f+t
     .rw[if_pos j2];show K.srt _ _ ∅ ∅
     .rw[if_neg j2]
      let(v,v1,v2,v3):=inm (i-(sa+k)) ∅
      rw[v3];show hi1 v j v1 v2 ∅ ∅
    .rw[if_neg i2,if_neg ∅]
     show T i j ∅ b ∅
 apply Zq (λ_=>?_) λ_=>?_
 .show A3 (u6 H P S1.ϫ λG g K=>cont G g K)
 .show A3 (vb H P S1.ϫ λG g K=>cont G g K)
end
def vj(n lo m:I):StateT Ah BI (ForInStep (O Unit×I)):=do
 match(GA (<- get)).back? with
 |some (b,n1,_)=>
  let s <- forIn [:n] ((J,()):O Unit×Unit) λ_ _=>do
   let p:=GA (<- get)
   match if p.o>1 then p[p.o-2]? else J with
   |some (_,_,a)=>
    if a<=power' n (2*b+n1) (2*b+n1+n1+m) n then Am (KI (J,()))
    else do
     if !(<- mergeAt' (p.o-2))then Am (KI (Z (),()))else Am (GV (J,()))
   |_=>Am (KI (J,()))
  Js (λ_=>StateT Ah BI (ForInStep (O Unit×I))) s.fst (λr=>Am (KI (Z r,lo))) λ_=>do
   modify λs=>KN s ((GA s).modify ((GA s).o-1) λx=>(x.1,x.2.1,power' n (2*b+n1) (2*b+n1+n1+m) n))
   modify λs=>KN s ((GA s).Ι (lo,m,0))
   Am (GV (J,lo+m))
 |_=>do
  modify λs=>KN s ((GA s).Ι (lo,m,0))
  Am (GV (J,lo+m))
def Nx(a:Gd)(item:I->An)(r:I->I)(n x:I)(b:O Unit×I)(st:Ah):V':=∃lo p pend,b=(J,lo)/\SI a item st p pend/\Bs n p/\A2 r p pend.J 0 lo/\lo<=n/\x<=lo
def RD(a:Gd)(item:I->An)(r:I->I)(n lo:I)(P:Array I->I->V')(b:O Unit×Unit)(st:Ah):V':=∃p pend,b=(J,())/\SI a item st p pend/\Bs n p/\A2 r p pend.J 0 lo/\P p pend.o
variable {prog:AN}{w:Ai}{A:Ag}{E:Aa->Ab->V'}{s:Ab}{item:I->An}{r:I->I}{n:I}{p:Array I}{st:Ah}{pend:Array (I×I×I)}
variable(H:L9 prog w A E s κ item r n)
include H
def
eo{lo m x:I}(v:SI κ item st p pend)(q:Bs n p)(z:A2 r p pend.J 0 lo)(F:1<=m)(L:lo+m<=n)(B:EX r p lo (lo+m))(T:x<=lo):wpS (Af prog w) A E s (vj n lo m) (FB (Nx κ item r n n) (Nx κ item r n (x+1))) st:=by
 let C:∀(g:Ah) (p4:Array I) (d:Array (I×I×I)),SI κ item g p4 d->Bs n p4->A2 r p4 d.J 0 lo->EX r p4 lo (lo+m)->wpS (Af prog w) A E s (do
   modify λs=>KN s ((GA s).Ι (lo,m,0))
   Am (GV (J,lo+m))) (FB (Nx κ item r n n) (Nx κ item r n (x+1))) g:=by
  intro g p4 d f e k l
  apply A3 (wpS_modify (Bk #[lo+m,p4,d.Ι (lo,m,0),rfl,#[f.ϫ,f.arr,?_,f.ok],e,?_,L,∅]))
  .show(GA g).Ι _=_;rw[f.pend]
  .rw[EV];show k.join #[rfl,F,l,rfl]
 apply A3 (wpS_get ?_)
 split
 .apply A3 (Jw (λ_=>RD κ item r n lo λp _=>EX r p lo (lo+m)) (RD κ item r n lo λp _=>EX r p lo (lo+m)) (λy b t P h=>?_) (λ_ _ h=>h) #[p,pend,rfl,v,q,z,B] λb t h=>?_)
  .let(p4,d,rfl,f,e,k,l):=h
   apply A3 (wpS_get ?_)
   rw[f.pend]
   dsimp only
   by_cases G:d.o>1
   .rw[if_pos G,er ∅]
    apply Zq (λ_=>?_) λ_=>?_
    .show Bk #[p4,d,rfl,f,e,k,l]
    .apply A3 (en H f e k ∅ ∅ λM N o K u Q Y R=>?_)
     apply Bk #[N,o,rfl,K,u,Q,λi j a b c=>?_]
     rw[R i a,R j ∅];show l i j a b c
   .rw[if_neg G]
    show Bk #[p4,d,rfl,f,e,k,l]
  .let(p4,d,rfl,f,e,k,l):=h
   apply A3 (wpS_modify (C _ p4 _ #[f.ϫ,f.arr,rfl,f.ok] e ?_ l))
   rw[f.pend,Array.toList_modify]
   apply A2.modify _ ?_ _ k
   show λx=>#[rfl,rfl]
 .show C _ p pend v q z B
def
vl(S:SI κ item st p (T' []))(N:Bs n p)(h2:2<=n){Q:Unit->Ah->V'}(h:∀d l,Bs n l->EX r l 0 n->arrOf d=l.j item->HM d=J->Q () d):wpS (Af prog w) A E s sortRuns' Q st:=by
 rw[sortRuns'_eq]
 apply A3 (wpS_get ?_)
 rw[show(arrOf st).o=n by rw[S.arr,Iw,N.o]]
 apply A3 (Jw (Nx κ item r n) (Nx κ item r n n) (λx b d hx h=>?_) (λ_ _ h=>h) #[0,p,(T' []),rfl,S,N,rfl,∅,∅] λb d B=>?_)
 .let(lo,l,pend,rfl,g,k,R,l1,C):=h
  apply Zq (λq=>Bk #[lo,l,pend,rfl,g,k,R,l1,q]) λq=>?_
  rw[show d=Dz item d l by rw[Dz,setArr,<- g.arr]]
  apply A3 (ve H k ∅ ∅ g.ϫ λm G K m2 v Y T=>?_)
  let R2:A2 r G pend.J 0 lo:=R.δ λi _ W=>Y i W
  apply Zq (λc=>?_) λc=>?_
  .apply A3 (wpS_lift (F5 #[rfl,?_]))
   apply A3 (vf H v K ∅ ∅ g.ϫ T λp3 F b3 s3=>?_)
   show eo (x:=x) H (st:=Dz item d p3) #[g.ϫ,rfl,g.pend,g.ok] F (R2.δ λi _ W=>b3 i W) ∅ ∅ s3 C
  .show eo (x:=x) H (show SI κ item (Dz item d G) G pend from#[g.ϫ,rfl,g.pend,g.ok]) v R2 K ∅ T C
 .let(lo,l,pend,rfl,g,k,R,l1,C):=B
  let e:lo=n:=∅
  subst e
  apply A3 (Jw (λy=>RD κ item r lo lo λ_ z=>z<=1\/z+y<=lo) (RD κ item r lo lo λ_ z=>z<=1) (λy b t hy h=>?_) (λb t h=>?_) #[l,pend,rfl,g,k,R,.φ (by have:=R.le;simp at this;lia)] λb t B=>?_)
  .let(p4,a,rfl,o,f,j,L):=h
   apply A3 (wpS_get ?_)
   rw[o.pend]
   apply Zq (λc=>Bk #[p4,a,rfl,o,f,j,c]) λc=>A3 (en H o f j ?_ (A4 _) λst6 p6 u S6 M R6 z6 b6=>Bk #[p6,u,rfl,S6,M,R6,∅])
   repeat' split
   all_goals lia
  .let(p4,a,rfl,o,f,j,L):=h
   show#[p4,a,rfl,o,f,j,∅]
  .let(p4,a,rfl,o,f,j,L):=B
   apply Bk (h t p4 f ?_ o.arr o.ok)
   match P:a.J,(show a.J.a<=1 by exists L)with
   |[],_=>rw[P]at j;have:0=lo:=j;lia
   |[x],_=>
    rw[P]at j
    have:=j.2.2.1
    rw[j.2.2.2]at this;show this
end
def
et{b:Type}{p q:b->q'}:∀{l:U b},(∀x∈l,p x=J'->q x=J')->∀{a:b},a∈l->q a=J'->p a=O'->l.countP p<l.countP q
 |x::l,h,a,c,f,g=>by
  let i:l.countP p<=l.countP q:=List.countP_mono_left λy d=>h y (Bv _ d)
  rw[List.countP_cons,List.countP_cons]
  rcases BJ.mp c with rfl|c
  .rw[f,g];simp;show Nat.lt_succ_of_le i
  .have:=et (λy d=>h y (Bv _ d)) c f g
   cases e:p x with
   |false=>simp;split<;>lia
   |true=>rw[h x (Bo ..) e];simp;show this
def
eu{lt:I->I->q'}{n:I}(W:WO lt n){i:I}(a:i<n)(c:j<n):decide ((Bl n).countP (λk=>lt k i)<(Bl n).countP (λk=>lt k j))=lt i j:=by
 cases h:lt i j with
 |true=>
  apply(decide_eq_true)
  apply et (λk b d=>?_) (Ex.Ϛ a) h ?_
  .let b:=Ex.mp b
   rcases W.neg k j i b c a d with z|z
   .show z
   .have:=W.asym i j a c h;rw[z]at this;ext this
  .show W.χ a
 |false=>
  apply(decide_eq_false)
  have:(Bl n).countP (λk=>lt k j)<=(Bl n).countP (λk=>lt k i):=List.countP_mono_left λk b e=>by
   rcases W.neg k i j (Ex.mp b) a c e with z|z
   .show z
   .rw[z]at h;ext h
  show Kh.Ϛ this
def
vm{prog:AN}{w:Ai}{A:Ag}{E:Aa->Ab->V'}{s:Ab}{g:Gd}{it:Array An}{n:I}{lt:I->I->q'}(W:WO lt n)(t:2<=n)
  (u:∀i j (C:q'->Ab->V'),i<n->j<n->C (lt i j) s->kas_cmp prog w A g it i j C s) {Q:Unit->Ah->Ab->V'}
  (v:∀(p:Array I) (st:Ah),Bs n p->uR lt p n->arrOf st=p.j (kas_item it)->HM st=J->Q () st s):kasC (Af prog w) A E sortRuns' Q (kas_st g it (List.E (Bl n))) s:=by
 let H:L9 prog w A E s g (kas_item it) (λi=>(Bl n).countP (λk=>lt k i)) n:=by
  intro i j q c Q st x h
  rw[eu W q c]at h
  rw[lt'_eq]
  apply A3 (wpS_get ?_)
  rw[x]
  apply A3 (wpS_lift (Pc ?_))
  show Cs (u i j (λb l=>l=s/\b=lt i j) q c #[rfl,rfl]) (λb l m=>by let(rfl,rfl):=m;show#[rfl,Bk h]) λ_ _ e=>e.ι
 let d:=vl H (st:=kas_st g it (List.E (Bl n))) (p:=(Bl n).E) #[rfl,rfl,rfl,rfl] (Array.Perm.χ _) t (Q:=λ_ a=>Q () a s) (λa y o z B G=>v y a o (λi j f c=>?_) B G)
 .show Cs d (λr l m=>by let(rfl,h):=m;show h) λ_ _ e=>e
 .have:=z i j (Fi _) f c
  unfold OY
  rw[<- (eu W (o.lt c) (o.lt (i:=i) (Ee f c)))]
  show decide_eq_false (Kh.Ϛ this)
structure Br(F:List Sl->Option Rv)(xs:List D):V' where
 few:xs.a<1000
 tells:∀x∈xs,∃r,F [.B x]=Z r
 mode:∃b,∀x∈xs,CF b (D2 F x)
 cmp:∀x∈xs,∀y∈xs,∃r,ltN 6 (D2 F x) (D2 F y)=Z r
 asym:∀x∈xs,∀y∈xs,CZ F x y=J'->CZ F y x=O'
 neg:∀x∈xs,∀y∈xs,∀z∈xs,CZ F x z=J'->CZ F x y=J'\/CZ F y z=J'
 anti:∀x∈xs,∀y∈xs,CZ F x y=O'->CZ F y x=O'->x=y
def Jx(lt:D->D->q')(x:D):U D->U D
 |[]=>[x]
 |y::r=>if lt x y then x::y::r else y::Jx lt x r
def Fu(lt:D->D->q'):U D->U D
 |[]=>[]
 |x::r=>Jx lt x (Fu lt r)
def
Vr(lt:D->D->q')(x:D):∀l,(Jx lt x l).Perm (x::l)
 |[]=>.χ _
 |y::r=>by
  unfold Jx;split
  .show .χ _
  .show((Vr lt x r).Ο y).I<|.swap x y r
def
RE(lt:D->D->q'):∀l,(Fu lt l).Perm l
 |[]=>.χ _
 |x::r=>(Vr lt x _).I<|(RE lt r).Ο x
def
ez{F:U Sl->O Rv}{xs:U D}(h:Br F xs){x:D}(f:x∈xs):∀l:U D,(∀y∈l,y∈xs)->l.ϳ (λa b=>CZ F b a=O')->(Jx (CZ F) x l).ϳ λa b=>CZ F b a=O'
 |[],_,_=>by simp[Jx]
 |y::r,g,j=>by
  let(k,m):=List.pairwise_cons.mp j;let i:=g y Bo;unfold Jx;split
  .next d=>
   apply List.pairwise_cons.Ϛ #[λz c=>?_,j];rcases BJ.mp c with e|c
   .subst e;show h.asym x f z i d
   .cases n:CZ F z x with|false=>rfl|true=>
     rcases h.neg z (g z<|Bv _ c) y i x f n with q|q
     .rw[k z c]at q;ext q
     .rw[h.asym x f y i d]at q;ext q
  .next d=>
   rw[Bool.not_eq_true]at d;apply List.pairwise_cons.Ϛ #[λz c=>?_,ez h f r (λz c=>g z<|Bv _ c) m];rcases BJ.mp ((Vr (CZ F) x r).subset c)with e|c
   .subst e;show d
   .show k z c
def
eA{F:U Sl->O Rv}{xs:U D}(h:Br F xs):∀l:U D,(∀y∈l,y∈xs)->(Fu (CZ F) l).ϳ λa b=>CZ F b a=O'
 |[],_=>.Ϧ
 |x::r,c=>ez h (c x Bo) _ (λy d=>c y<|Bv _<|(RE _ r).subset d) (eA h r λy d=>c y<|Bv _ d)
def Ge(F:U Sl->O Rv)(xs:U D):Ba:=gd (Br F xs) (Z (Fu (CZ F) xs))
def
Br.same{F:U Sl->O Rv}{ys:U D}(h:Br F xs)(c:ys.Perm xs)(d:ys.ϳ λa b=>CZ F b a=O'):ys=Fu (CZ F) xs:=List.Perm.eq_of_pairwise (le:=λa b=>CZ F b a=O') (λa b e f g i=>h.anti a (c.subset e) b ((RE _ xs).subset f) i g) d (eA h xs λ_ j=>j) (c.I (RE _ xs).Γ)
def
vn{F:U Sl->O Rv}(h:Br F xs):Ge F xs=Z (Fu (CZ F) xs):=Q6 h
def
Vs{F:U Sl->O Rv}{ys:U D}(h:Ge F xs=Z ys):Br F xs/\ys=Fu (CZ F) xs:=by grind [Ge,gd]
variable {H:Hp}{s:Ab}{N:Fb}
def
Vt{K:Ap}{b:U D}{vs:U V}(h:Ad K N H b vs):∀(a:U I),(∀j∈a,j<b.a)->Ad K N H (a.j λj=>b.β j .Ε) (a.j λj=>vs.β j .Ε)
 |[],_=>Ad.Ϧ
 |j::a,c=>by
  let(v,e,d):=h.ό<|CG<|c j Bo;show Ad.cons (by simp_all)<|Vt h a λk f=>c k<|Bv _ f
def
Pd{vs:U V}{us:U Aa}(h:Aq vs us):∀(b:U I),Aq (b.j λj=>vs.β j .Ε) (b.j λj=>us.β j .Β)
 |[]=>.Ϧ
 |j::b=>by
  apply .Ο ?_<|Pd h b;induction h generalizing j with|nil=>simp;rfl|cons a _ c=>
   ext j<;>simp_all
def
eB(zB:Inv X ß Y' H s){prog:AN}{w:Ai}(A:Ag)(hu:A.κ+40<Aw){F:U Sl->O Rv}{f:U D}(h:Br F f){é:U V}{us items:U Aa}
  (d:Ad X.K N H (f.j (D2 F)) é) (r:Aq é us) (g:items.a=f.a) {P:PySem.Fin->Ab->V'} {T:Ah->BI PySem.Fin}
  (q:∀(p:U I) (st:Ah),p.Perm (Bl f.a)->(p.j λj=>f.β j .Ε)=Fu (CZ F) f->Array.j (λx=>x.2) (arrOf st)=(p.j λj=>items.β j .Β).E->HM st=J->wpAny (Af prog w) A (T st) P E s):wpAny (Af prog w) A (do
   let kind <- if items.E.o<2 then Am general' else keyKind' us.E
   let((),s) <- (if items.E.o<2 then Am ()else sortRuns').run (SortSt.mk' kind (us.E.zip items.E) (T' []) 7 J)
   T s) P E s:=by
 let l1:=d.a
 let l2:=r.a
 rw[Bg]at l1
 by_cases t:items.E.o<2
 .rw[if_pos t]
  erw[t,if_true]
  let u:us.a=items.a:=∅
  rw[B3]at t
  apply Ao (A0 ?_)
  apply Ao ?_
  apply A0 ?_
  apply q (Bl f.a) (SortSt.mk' general' (us.E.zip items.E) (T' []) 7 J) (.χ _) ?_ ?_ rfl
  .let e:(Bl f.a).j (λj=>f.β j .Ε)=f:=by
    apply(LX)
    intro i
    by_cases g:i<f.a
    .simp[g]
    .simp[g]
   rw[e]
   apply h.δ (.χ _) ?_
   match f,g with
   |[],_=>show .Ϧ
   |[a],_=>show Nt _ _
   |a::b::c,g=>simp at g;lia
  .change Array.j (λx=>x.2) (us.E.zip items.E)=_
   let e:(Bl f.a).j (λj=>items.β j .Β)=items:=by
    rw[<- g]
    apply(LX)
    intro i
    by_cases g:i<items.a
    .simp[g]
    .simp[g]
   rw[e,List.zip_toArray,List.map_toArray]
   congr 1
   show List.map_snd_zip (Nat.le_of_eq u.Γ)
 .rw[if_neg t]
  erw[t,if_false]
  rw[B3]at t
  let(b,m):=h.mode
  apply Ao (uY zB b (f.j (D2 F)) é us d r (λk hk=>by
   let(x,hx,rfl):=Bm.mp hk
   show m x hx) ∅ ?_)
  let u:us.a=items.a:=∅
  let hr:=kas_range (us.E.zip items.E)
  rw[show(us.E.zip items.E).o=f.a by simp;lia]at hr
  let R:SortSt.mk' (OZ b) (us.E.zip items.E) (T' []) 7 J=kas_st (OZ b) (us.E.zip items.E) (Bl f.a).E:=by
   unfold kas_st;rw[hr]
  apply Ao ?_
  rw[R]
  let W:WO (λi j=>CZ F (f.β i .Ε) (f.β j .Ε)) f.a:=by
   let mem:∀i,i<f.a->f.β i .Ε∈f:=λi g=>by
    rw[show f.β i .Ε=f[i] by simp[GB,g]];show HE g
   show#[λa b y m L=>h.asym _ (mem a y) _ (mem b m) L,λa b c y m M L=>h.neg _ (mem a y) _ (mem b m) _ (mem c M) L]
  let M:∀i j (C:q'->Ab->V'),i<f.a->j<f.a->C (CZ F (f.β i .Ε) (f.β j .Ε)) s->kas_cmp prog w A (OZ b) (us.E.zip items.E) i j C s:=λi j C n o hq=>by
   unfold kas_cmp
   rw[kat_item u,kat_item u]
   let mem:∀i,i<f.a->f.β i .Ε∈f:=λi g=>by
    rw[show f.β i .Ε=f[i] by simp[GB,g]];show HE g
   let(rr,z):=h.cmp _ (mem i n) _ (mem j o)
   rw[dM z]at hq
   let B:∀i,i<f.a->∃v,AB X.K N H (D2 F (f.β i .Ε)) v/\RelV v (us.β i .Β):=λi g=>by
    let(v,ev,dv):=d.ό (i:=i) (d:=D2 F f[i]) (by simp[g])
    apply#[v,by rw[show f.β i .Ε=f[i] by simp[GB,g]];show dv,?_]
    have:=Pd r [i]
    cases this with
    |cons a _=>
     rw[<- (show é.β i .Ε=v by simp[GB,ev])]
     show a
   let(v1,S,zA):=B i n
   let(v2,Y,rv2):=B j o
   show uV zB A hu b rr z (m _ (mem i n)) (m _ (mem j o)) S Y zA rv2 hq
  apply vm (Q:=λ_ st s'=>wpAny (Af prog w) A (T st) P E s') W ∅ M λp st hB hS y hf=>?_
  let hp:p.o=f.a:=by exists hB.J.ϋ
  let l:p.J.Perm (Bl f.a):=by
   have:=hB.J
   exists this
  apply q p.J st l ?_ (kat_snds u y) hf
  apply h.δ ?_ ?_
  .let e:(Bl f.a).j (λj=>f.β j .Ε)=f:=by
    apply(LX)
    intro i
    by_cases g:i<f.a
    .simp[g]
    .simp[g]
   have:=l.j λj=>f.β j .Ε
   rw[e]at this
   show this
  .rw[List.pairwise_map,Rx]
   intro i j g G hij
   have:=hS i j (KA hij) (by simp at G;show LK G hp)
   unfold OY Au at this
   simp at g G
   simpa[Jr,g,G]using this
def
vo(i:Inv X ß Y' H s){prog:AN}{w:Ai}(A:Ag)(f:A.κ+40<Aw){F:U Sl->O Rv}{b:U D}(h:Br F b){é:U V}{us items:U Aa}
  (d:Ad X.K N H (b.j (D2 F)) é) (r:Aq é us) (g:items.a=b.a) {c:I} {e:Aa} {P:PySem.Fin->Ab->V'}
  (q:∀(p:U I) (st:Ah),p.Perm (Bl b.a)->(p.j λj=>b.β j .Ε)=Fu (CZ F) b->Array.j (λx=>x.2) (arrOf st)=(p.j λj=>items.β j .Β).E->HM st=J->wpAny (Af prog w) A (ksk_tail a O' c e st) P E s):wpAny (Af prog w) A (ksk_end a O' items.E c e us.E) P E s:=by
 unfold ksk_end
 show eB i A f h d r g q
end
variable {H:Hp}{s:Ab}{N:Fb}
abbrev DW(a:U Aa)(n:I):Obj:={cls:=.ε "list",data:=.Ϲ a.E n}
def
Inv.rawset{c ð:U Aa}{n:I}{f:Array Aa->Array Aa}(k:Inv X ß Y' H s)(d:H a=J)(o:Off X ß a)(e:s.r.R a=Z (DW c n))(g:f c.E=ð.E):∃h,(s.r.ϰ a (F6 f)).R a=Z (DW ð h)/\Inv X ß Y' H {s with heap:=s.r.ϰ a (F6 f)}:=by
 let q:=PySem.IsL.ϰ e f;rw[g]at q;show#[_,q,k.turned (t':=s.Ζ) (λb u i j=>(MV s.r (F6 f)<|Cj i).I j) d o.nL (.φ o.s0) o.cl o.pn]
def
Vu(a:U Aa)(n:I)(v:O Aa):(DW a n).jk≠.Υ v:=nofun
def
Off.more{b:Ac}{o:Obj}(f:Off X ß a)(h:b≠a):Off X (ß++[(b,o)]) a:=#[f.nL,f.s0,f.cl,λp c=>by
  rw[<- DV]at c;rcases Cz.mp c with c|c
  .show f.pn p c
  .erw[CC]at c;subst c;show h,f.nf]
def
Inv.pinGet{o:Obj}(b:Inv X ß Y' H s)(h:(a,o)∈ß):s.r.R a=Z o/\H a=J:=#[(b.pin _<|Dv _ h).1,(b.pin _<|Dv _ h).2.1]
def
vq{prog:AN}{w:Ai}(A:Ag){D c:Ac}{e l:I}{us out:U Aa}{P:PySem.Fin->Ab->V'}{st:Ah}(d:Inv X (ß++[(D,DW [] e)]++[(c,DW us l)]) Y' H s) (i:Off X ß D) (m:Off X ß c) (ne:D≠c) (g:us.a<=AE) (h:Array.j (λx=>x.2) (arrOf st)=out.E) (n:HM st=J) (j:Aq vs out) (hz:vs.a<=AE) (q:∀s',Inv X ß Y' (AX H D (.X vs)) s'->P (.ϕ (.Ϯ .Β)) s'):wpAny (Af prog w) A (ksk_tail D O' e (.C c) st) P E s:=by
 let(gk,o):=d.pinGet (a:=c) (Dv _ Bo);let(p,hd):=d.pinGet (a:=D) (J5 _<|Dv _ Bo);let(n2,u,k):=d.unpinned.rawset (f:=λ_=>(T' [])) (ð:=[]) o (m.more ne) gk rfl;apply Ao<|Pe gk rfl ?_ (by exists g) (by simp);apply Ao<|wpAny_letGo ?_;let(b,_):=k.pinGet (a:=D) (Dv _ Bo);apply Ao<|seqEpoch_at b rfl ?_;let(n3,r,t):=k.unpinned.rawset (f:=λ_=>out.E) (ð:=out) hd i b rfl;erw[FQ,if_false,h];apply Ao<|Pe b rfl ?_ (by simp) (by simp;show Op (show out.a<=AE by rw[<- j.a];show hz));rw[n];erw[show(e != e)=O' by simp,FQ,if_false];show A0<|q _<|t.catch hd i r j hz
variable{k:I}{fn:Ac}{fd:Cm}{F:U Sl->O Rv}
open J in
def
vr(m:AY X.Y X.w X.K X.mg X.σ Bi k fn fd ps (A6 X.K F))(i:Binds X.K fd ps [])(W:Inv X ß Y' H s)(A:Ag)(B:AJ k A)(C:Dh X.Y X.w X.K X.mg X.σ A X.Ψ s H)(n:∀a,N a->H a≠J){x:D}{v:V}(d:AB X.K N H x v)(G:RelV v u){r:Rv}(o:F [.B x]=Z r) {Q:AV} (q:∀h s' c H',Inv X ß Y' H' s'->Ak H H'->AB X.K N H' (D2 F x) c->RelV c h->Q h s'):wpAny (Af X.Y X.w) A (call (.C fn) [u]) Q E s:=by
 let f:A6 X.K F [v] H (λc H'=>Ak H H'/\AB X.K N H' (D2 F x) c) E0:=by
  apply#[N,[.B x],r,n,?_,o,λc H' j p=>#[j,?_]]
  .show#[v,[],rfl,d,rfl]
  .let e:D2 F x=Cw r:=by unfold D2;rw[o];rfl
   rw[e];cases r with|val y=>show p|own ys t=>
    let(a,P,L,M,R,T):=p;erw[Cw,AB];show#[a,P,L,.of (λz=>n a z M) R,T.nw λb i=>.U<|.U i]
 let S:([u]:U Aa).a=ps.a:=by
  have:=m.϶ _ _ _ _ f;exists this
 apply wpAny_call<|LH (m.run A X.stack s H ⟨[u],[]⟩ [u] [v] _ E0 B C (by exists i s [u] W.kIn (by exists S)) (.cons G .nil) f) λr s' g=>?_;cases r with|error e=>show BV g|ok t=>
  cases t with
  |ret h=>
   let(c,H',Y,l,j,hd):=W.after g;show q h s' c H' Y j hd l
  |next=>show BV g
  |brk=>show BV g
  |cont=>show BV g
open J in
def
Ak.none{H H':Hp}(h:Ak H H'){a:Ac}(e:H' a=J):H a=J:=by
 cases q:H a with
 |none=>rfl
 |some o=>rw[h a o q]at e;ext e
def
vt(Fo:AY X.Y X.w X.K X.mg X.σ Bi k fn fd ps (A6 X.K F))(hb:Binds X.K fd ps [])(A:Ag)(hr:AJ k A)(hu:A.κ+40<Aw)(hA:∀s H,Dh X.Y X.w X.K X.mg X.σ X.A X.Ψ s H->Dh X.Y X.w X.K X.mg X.σ A X.Ψ s H)
  {g h:Ac} {y e0:I} (zA:Inv X (ß++[(g,DW [] y)]++[(h,DW [] e0)]) Y' H s) (nh:∀a,N a->H a≠J) {items:U Aa} {xs:U V} {c:U D} (fD:Off X ß g) (B:Off X ß h) (ne:g≠h) (C:Aq xs items) (G:Ad X.K N H c xs) (ok:Br F c) {P:PySem.Fin->Ab->V'} (q:∀s' H' vs,Inv X ß Y' (AX H' g (.X vs)) s'->Ak H H'->H' g=J->Ad X.K N H' (Fu (CZ F) c) vs->P (.ϕ (.Ϯ .Β)) s'):
  wpAny (Af X.Y X.w) A (ksk_rest g (.C fn) O' items.E y (.C h)) P E s:=by
 let l1:=G.a
 let l2:=C.a
 let few:=ok.few
 let hsl:AE=16777216:=IX
 apply Ao (F5 ?_)
 apply Ao (wpAny_forIn_array' _ (λAD _ s'=>∃(done:U Aa) (H':Hp) (i:U Aa) (d:U V) (L:I),items=done++AD/\i.a=done.a/\Inv X (ß++[(g,DW [] y)]++[(h,DW i L)]) Y' H' s'/\Ak H H'/\Aq d i/\Ad X.K N H' ((c.ϒ done.a).j (D2 F)) d) _ ?_ ?_ items.E PUnit.unit ?_)
 .intro u AD b s1 zQ;let(done,H1,i,d,L,n,hl,l,sm,M,o):=zQ
  let S:done.a<c.a:=by
   grind
  let t:c[done.a]?=Z c[done.a]:=CG S
  generalize c[done.a]=x at t
  let(v,hv,dv):=G.ό t
  let ru:RelV v u:=by
   have:=Pd C [done.a]
   cases this with
   |cons a _=>
    simp_all
  let(r,hF):=ok.tells x (Ka t)
  apply Ao (Pc ?_)
  apply vr (N:=N) Fo hb l A hr (hA _ _ l.env0) (λa Q z=>nh a Q (sm.Β z)) (dv.δ sm) ru hF λT s2 v' H2 I2 m W Y=>?_
  let(gk,hk):=I2.pinGet (a:=h) (Dv _ Bo)
  let(n3,g3,I4):=I2.unpinned.rawset (f:=λx=>x.Ι T) (ð:=i++[T]) hk (B.more ne) gk (by simp)
  apply Ao (Pe gk rfl ?_ (by simp;lia) (by simp;lia))
  apply A0 ?_
  apply#[done++[u],H2,i++[T],d++[v'],n3,by rw[n];simp,by simp[hl],I4.pin1 hk (B.more ne) g3 (Vu _ _),sm.I m,M.Η (.Ο Y .Ϧ),?_]
  let e:(c.ϒ (done++[u]).a).j (D2 F)=(c.ϒ done.a).j (D2 F)++[D2 F x]:=by
   rw[F4,UA,List.take_succ,t]
   simp
  rw[e]
  show(o.δ m).Η (Ad.Ο W Ad.Ϧ)
 .intro b s1 zQ;let(done,H1,i,d,L,n,hl,l,sm,M,o):=zQ
  rw[C6]at n
  subst n
  let(gk,hk):=l.pinGet (a:=h) (Dv _ Bo)
  let(gd',hd):=l.pinGet (a:=g) (J5 _ (Dv _ Bo))
  apply Ao (listItems_at gk rfl ?_)
  rw[Il ∅]at o
  apply vo (N:=N) l A hu ok o M ∅ λp st hp hs Q hf=>?_
  let hpl:p.a=c.a:=by have:=hp.ϋ;exists this
  apply vq A l fD B ne ∅ Q hf (Pd C p) (by rw[Bg];lia) λs' R=>?_
  apply q s' H1 _ R sm hd ?_
  rw[<- hs]
  show Vt (G.δ sm) p λj hj=>by have:=hp.subset hj;exists this
 .show#[[],H,[],[],e0,by simp,rfl,zA,Ak.χ H,.Ϧ,Ad.Ϧ]
def
vu(C:AY X.Y X.w X.K X.mg X.σ Bi k fn fd ps (A6 X.K F))(G:Binds X.K fd ps [])(A:Ag)(z:AJ k A)(L:A.κ+40<Aw)(M:∀s H,Dh X.Y X.w X.K X.mg X.σ X.A X.Ψ s H->Dh X.Y X.w X.K X.mg X.σ A X.Ψ s H) (W:Inv X ß Y' H s) (R:∀a,N a->H a≠J) {c:Ac} {items:U Aa} {Q:I} {xs:U V} {j:U D} (g:s.r.R c=Z (DW items Q)) (r:H c=J) (l:Off X ß c) (t:Aq xs items) (v:Ad X.K N H j xs) (ok:Br F j) {P:PySem.Fin->Ab->V'} (q:∀s' H' vs,Inv X ß Y' (AX H' c (.X vs)) s'->Ak H H'->H' c=J->Ad X.K N H' (Fu (CZ F) j) vs->P (.ϕ (.Ϯ .Β)) s'):wpAny (Af X.Y X.w) A (ksk_tree c (.C fn) O') P E s:=by
 let l1:=v.a;let l2:=t.a;let few:=ok.few;let T:AE=16777216:=IX;apply Ao<|listItems_at g rfl ?_;let(n1,y,S):=W.rawset (f:=λ_=>(T' [])) (ð:=[]) r l g rfl;apply Ao<|Pe g rfl ?_ (by simp;lia) (by simp);apply Ao<|seqEpoch_at y rfl ?_;apply Ao<|wpAny_newTuple ?_ (by simp;lia);generalize m:({heap:=s.heap.update c<|F6 λx=>(T' []),gens:=s.gens,drawn:=s.drawn,toks:=s.Ζ,os:=s.os}:Ab)=d at *;let n:=S.ϲ (t':=d.Ζ) (λb u e=>By {cls:=.ε "tuple",data:=.Ϲ items.E} e);generalize p:({heap:=d.r.Ι {cls:=.ε "tuple",data:=.Ϲ items.E},gens:=d.gens,drawn:=d.drawn,toks:=d.Ζ,os:=d.os}:Ab)=i at *;let h:i.r.R c=Z (DW [] n1):=p ▸ (By {cls:=.ε "tuple",data:=.Ϲ items.E} (show d.r.R c=Z (DW [] n1) by rw[<- m];show y));apply Ao<|wpAny_newList ?_ (by simp);let B:=n.off<|A4 i.heap.objs.size;show Gv<|vt (N:=N) C G A z L M (((n.kept (t':=i.toks) (λb u e=>By (DW [] 0) e)).pin1 r l (By (DW [] 0) h) (Vu _ _)).pin1 n.Τ (B.more<|Ci<|BB h) (Cq i.r (o:=DW [] 0) rfl) (Vu _ _)) R l B (Ci<|BB h) t v ok q
def
vz(r:AY X.Y X.w X.K X.mg X.σ Bi k fn fd ps (A6 X.K F))(j:Binds X.K fd ps [])(m:AJ (k+2) X.A)
  (S:Inv X ß Y' H s) (t:∀a,N a->H a≠J) {xs:U V} {h:U D} (v:BU X.K H a xs) (x:Ad X.K N H h xs) (ok:Br F h) {Q:VK}
  (q:∀f vs H',Ak H H'->H f=J->H' f=Z (.X vs)->Ad X.K (λb=>N b\/b=f) H' (Fu (CZ F) h) vs->Q (.C f) H'):wpAny (Af X.Y X.w) X.A (call (.ξ "sorted") [.C a] [("key",.C fn)]) (EP X ß Y' Q) X.xe s:=by
 let(c,p,(o,n,B,C,E,hd),hz):=S.Ϩ v
 let l2:=p.a
 apply wpAny_call (Vv plain_sorted entry_sorted ?_)
 apply A0 ?_
 change wpAny _ _ (do checkCount "sorted" 1 1 1;let y <- collect (.C a);let l <- newList y;let _ <- EN [l] (call (.ξ "list.sort") [l] [("key",.C fn)]);ret l) _ _ _
 apply Ao (A0 ?_)
 apply Ao (wpAny_collect_seq a (T:="list") (.U rfl) B C hd (λG L=>?_) (by simp;lia))
 let d:=S.ϲ (t':=s.Ζ) L
 apply Ao (wpAny_newList ?_ (by simp;lia))
 generalize R:({heap:=G,gens:=s.gens,drawn:=s.drawn,toks:=s.Ζ,os:=s.os}:Ab)=i at *
 let g:=Cq i.r (o:=DW c 0) rfl
 apply Ao (Gv ?_)
 apply wpAny_call (Vv PySem.F.slot_list_sort.plain PySem.F.entry_list_sort ?_)
 apply PySem.F.slot_list_sort.check _ _ _ _ _ _ _ _ #[_,g,rfl] rfl ?_
 apply vu (N:=N) r j X.A.in1.in1 m.in1.in1 ?_ (λs H e=>e.in1.in1) (d.ϲ (t':=i.Ζ) (λb u e=>By (DW c 0) e)) t g d.Τ (d.off (A4 i.r.O.o)) p x ok λs' H' vs P sm Y dv=>?_
 .have:=m.un;change X.A.κ+1+1+40<_;lia
 .apply A0 ?_
  apply#[.C _,_,P,rfl,q _ vs _ (λb u e=>?_) d.Τ Z5 ?_]
  .rw[Zr (λz=>by rw[z,d.Τ]at e;ext e)];show sm b u e
  .show Ad.Ϙ (M:=λ_=>False) #[λb u e z=>by
    rw[Zr (λz=>by rw[z,Y]at e;ext e)];show e,λb j=>by
    grind] _ _ dv
end
variable {M:Fb}{k:I}{fn:Ac}{fd:Cm}{F:U Sl->O Rv}{e:Expr}{f:AH}{x y:Ae}{p ü:Az}
def Me(F:U Sl->O Rv)(f:AH):VE->Ba:=λa=>match f a with
 |some (.lst b)=>Ge F b
 |_=>J
open J in
def
vA(W:AY X.Y X.w X.K X.mg X.σ Bi k fn fd ps (A6 X.K F))(Y:AJ (k+2) X.A)(hg:Gl X x)(hm:X.mg x=J)(hv:Em x=Z (.ξ "sorted"))(l:Gl X y)(m:X.mg y=Z (.C fn))(hb:Binds X.K fd ps [])(n:JE X e (tP X.K M H0 f)) (hn:⇑(x≠"__name__")) (o:⇑(CT x)) (d:⇑(CT y)) (G:↥(AQ [e] X.G=(O',As e X.G)::AQ [] X.G:12)):JE X (.Φ (.γ x p) [e] [#[Z "key",.γ y p2,ü]] pos) (tF X.K M H0 (Me F f)):=#[have n:=n.h;by
 intro b s g H Q zA zQ;let(r,ys,R,i,q):=zQ;apply MO<|H9 zA hg hm hv ?_ hn o;unfold Me at i;split at i
 .next P hf=>
  let(ok,rfl):=Vs i;let L:=(EQ n (Bq (X:=X)) G) pos b s g H (λj c=>∃v,j=[v]/\Ak H c/\AC X.K (Nf M r g) c (.X P) v) zA #[r,.X P,R,hf,λv c t d1=>#[v,rfl,t,d1]];rw[G]at L ⊢;apply callWith_builtin_kwB rfl rfl ?_;apply Ao<|A8 L λus t z=>?_;let(j,c,I1,r1,v,rfl,sm,a,ws,rfl,sq,dl):=z;apply Ao<|A0 ?_;apply Gv ?_;apply Ao<|A8 ((p5 (nm:=Z "key") (ü:=ü) (Ug (v:=.ref fn) (pos:=p2) l m rfl d) (p0 (X:=X))) pos b t g c (λS T=>S=[.C fn]/\T=c) I1 #[rfl,rfl]) λks s2 z=>?_;let(S,T,I2,r2,rfl,rfl):=z;apply Ao<|A0 ?_;apply A0 ?_;let(u,rfl,ru):=FL r1;let(u2,rfl,B):=FL r2;ext B;ext ru;show vz (N:=Nf M r g) W hb Y I2 (R.st sm).nh sq dl ok λda j H' s' C E dv=>q da j H' (sm.I s') (sm.Β C) E dv
 .cases i]
end
end Internal
variable{é:Internal.Bj}
namespace Internal
open PySem PySem.Spec PyProof.Rows
section
def

ZD7(xs:U D):b4 (.X xs)=Z xs:=rfl
end
open PySem.W
def
vB:typeLookup (.ε "list") ("keys":Ae)=Am J:=am_miss_of_fast (by kernel_rfl)
def
vD{prog:AN}{w:Ai}{A:Ag}{s:Ab}{f:Array Aa}{Q:O Aa->Ab->V'}(p:PlainL s.r a f)(i:A.ϡ=J) (q:∀h' h,(∀b o,s.r.R b=Z o->h'.R b=Z o)->Q J {s with heap:=h',toks:=h}):wpAny (Af prog w) A (getAttr? (.C a) "keys") Q E s:=by
 let((c,u,v,j),n,e,k,hd,l):=p;subst k hd l;let(m,g,d,h,os):=s;let ty:∀t,(#[m,g,d,t,os]:Ab).TypeIs (.C a) "list":=λ_=>#[_,e,rfl];let l1:=sub_AttributeError;let x:=F.ϸ.S;let y:=F.ϸ.L<|.C a;let l4:=am_list_getattr_none;unfold getAttr? getAttrBy? getAttrBy;repeat(any_goals(first
  |assumption
  |show ty _
  |((with_reducible show wpAny _ _ (call (Value.ξ "list.__getattribute__") _ _) _ _ _)
    apply BW F.ϸ (ty _) am_entry_list_getattribute (F.args_list_getattribute_2 _ _) (meets_getattribute_miss_list a f n j "keys" _ vB (by symm) (by symm)) #[e,i,λr z B new=>?_])
  |wp_step))
 let(C,G,ex):=new.there;unfold getattributeRaised;repeat(any_goals(wp_step))
 show q r _ new.keeps
def
eC:entryFor table "dict.update.loop"=Z Fl.«dict.update.loop»:=entryFor_of_tree (by kernel_rfl)
def
eE:plainId "dict.update.loop"=J':=by symm
def
eF{K:Ap}{H:Hp}{k:KT}{v:V}(h:E8 K H k v)(s:Ak H H'):E8 K H' k v:=by
 cases k with
 | «at» a=>show h
 |tup l=>let(p,e,b):=h;show#[p,e,b.δ s]
def Fv:Bj->U D->O Bj
 |a,[]=>Z a
 |a,.tup [y,d]::r=>match DT y with
  |some k=>if DU k a&&decide (a.a<AE)then Fv (ZT a k d) r else J
  |none=>J
 |_,_=>J
def
vE{M:Model}{A:Ag}{s:Ab}{p:Ac}{a:Array Aa}{Q:U Aa->Ab->V'}(h:IsTup s.r p a)(q:Q a.J s):wpAny M A (Builtin.Dict.pairItems (.C p)) Q E s:=by
 let(o,e,b,n,hd):=h;apply Ao<|MS (T:="tuple") #[o,e,b] ?_;apply Ao<|Ao<|wpAny_load e ?_;rw[hd];show A0<|A0 q
variable {H:Hp}{A:Ag}{it l:Ac}{N:Fb}{us:U Aa}
open J in
def
eG(hu:A.κ+1<Aw)(hA:A.in1.ϡ=J)(G:H a=J)(f:Gw X ß H it)(h:it≠a)(n:l≠it)(x:l≠a):∀(F:U D)(vs:U V)(ws:U Aa)(i:I)(s:Ab)(é:Bj)(tr:U T3)(c:Bj),
  us.Θ i=ws->Aq vs ws->Ad X.K N H F vs->PD X.K N H é tr->Inv X ß Y' (AX H a (Fq tr)) s->s.r.IsListIter it l i->s.r.IsList l us.E->Fv é F=Z c ->
  (∀s' z,Inv X ß Y' (AX H a (Fq z)) s'->PD X.K N H c z->R (.ok (.Ϯ .Β)) s') ->
  codeAny (Af X.Y X.w) A (.ξ "dict.update.loop" #[[.C a,.C it,AO (i:W'),.Β],[]]) R s
 |[],vs,ws,i,s,é,tr,c,hd,P,Q,m,W,j,L,g,q=>by
  ext Q
  ext P
  ext g
  apply Kl eC ?_
  let T:us.E[i]?=J:=by
   have:=List.drop_eq_nil_iff.mp hd
   simp[this]
  apply Ao (wpAny_pyNext_list_end hA j L T λh' ke=>?_)
  let M:=W.turned (t':=s.Ζ) (λb o S e=>ke b o S e) (Zr h ▸ f.1) f.2.1 f.2.2.2.1 f.2.2.2.2.1 f.2.2.2.2.2
  show Ao (A0 (A0 (q _ tr M m)))
 |d::F,vs,ws,i,s,é,tr,c,hd,P,Q,m,W,j,L,g,q=>by
  let(v,Y,rfl,d1,dn'):=Q
  cases P with
  |@cons _ u _ B rv hv'=>
  unfold Fv at g
  split at g
  .cases ‹_::_=[]›
  .next y dd r e1=>
   ext e1
   cases hk:DT y with
   |none=>rw[hk]at g;cases g
   |some k=>
    rw[hk]at g
    let(hc,g):=ZV g
    rw[C9,decide_eq_true_eq]at hc
    let ey:=Kv hk
    subst ey
    let(p,vs2,rfl,sq,kv,r2,rfl,dk,vv,r3,rfl,dv,rfl):=d1
    ext rv
    let hat:us.E[i]?=Z (.C p):=by
     simpa using(show(us.Θ i)[0]?=Z (Cp p) by rw[hd];rfl)
    let hd':us.Θ (i+1)=B:=by
     rw[<- List.tail_drop,hd];rfl
    apply Kl eC ?_
    apply Ao (wpAny_pyNext_list_item j L hat λh' C sb=>?_)
    let M:=W.turned (t':=s.Ζ) (λb o S e=>(sb.2 b S).I e) (Zr h ▸ f.1) f.2.1 f.2.2.2.1 f.2.2.2.2.1 f.2.2.2.2.2
    let(its,rv2,ht,_):=M.ϗ (sq.δ (ZW G))
    let(u1,u2,rfl,r1,r2):=Oi rv2
    apply Ao (Gv ?_)
    apply Ao (wpAny_tryCatch (vE ht ?_))
    apply Gv ?_
    apply dr J' hu M Z5 (λt ht=>eF (m.keys t ht) (ZW G)) (m.hom hc.1) (eF (Kw dk) (ZW G)) r1 r2 (by have:=Hm m;lia) λh2 t2 I2 E=>?_
    rw[nU]at I2
    apply A0 #[MY eE _,?_]
    apply eG hu hA G f h n x F Y B (i+1) _ (ZT _ k dd) (ET tr k kv vv) c hd' hv' dn' (m.put dk dv) I2 ?_ ?_ g q
    .let(o,e,hh):=C
     show#[o,(E.2 it h).I e,hh]
    .show(L.at λo e=>(sb.2 l n).I e).at λo e=>(E.2 l x).I e
  .cases g
def
vF(t:X.Ϸ=J')(hu:X.A.κ+64<Aw){s:Ab}{Q:VK}(P:Inv X ß Y' H s){j:U D}(G:BU X.K H l vs)(v:Ad X.K N H j vs)(L:Fv [] j=Z é) (q:∀tr p,H p=J->PD X.K N H é tr->Q (.C p) (AX H p (Fq tr))):wpAny (Af X.Y X.w) X.A (call (.ε "dict") [.C l]) (EP X ß Y' Q) E s:=by
 let(us,M,u,hz):=P.Ϩ G;let g:l<s.r.O.o:=by let(o,n,e,_):=u;show BB e
 apply callType_codes (Q₁:=λx y=>x=.C s.r.O.o/\y={s with heap:=s.r.Ι {cls:=.ε "dict",data:=.dict (T' [])} }) F.kt_called_dict (F.kt_typeCall_dict_1 (.C l)) F.entry_dict_init (kt_code_dict_new (.C l) #[rfl,rfl]) ?_;intro x y zQ;let(rfl,rfl):=zQ;let c:PlainL (s.r.Ι {cls:=.ε "dict",data:=.dict (T' [])}) l us.E:=by
  let(o,n,e,h):=u;show#[o,n,By _ e,h]
 apply#[#[_,Cq _ rfl,rfl],F.args_dict_init_2 _ _,?_];apply Ao<|Ao<|wpAny_notOrdered_dict ⟨_,Cq _ rfl,rfl⟩ ?_;apply A0 ?_;change wpAny _ _ (Builtin.Dict.updateFrom "dict.__init__" s.r.O.o (.C l) [] .Β) _ _ _
 apply Ao<|MS (T:="list") (by let(o,n,e,h,_):=c;show#[o,e,h]) ?_;apply Ao<|vD c (P.ok.hd t) λf B k=>?_;let m:=(P.laid (a:=s.r.O.o) (o:=Fq []) (t':=s.Ζ) (λ_ _ z=>By _ z) (A4 _) #[Fi _,beq_eq_false_iff_ne.Ϛ<|Cj<|Ci P.big,List.nodup_nil,_,(T' []),0,Cq _ rfl,⟨rfl,rfl,rfl⟩,rfl,rfl,rfl]).ϲ (h':=f) (t':=B) k;let i:PlainL f l us.E:=by
  let(o,n,e,h):=c;show#[o,n,k _ _ e,h]
 apply Ao<|F5 ?_;apply Ao<|QG i.ύ ?_;let d:s.r.O.o<f.O.o:=BB<|k _ _<|Cq _ rfl;let C:Gw X ß H f.O.o:=m.fpOk (A4 _) (by
  have:=m.ϧ.Τ (a:=f.O.o) (A4 _);rw[Zr<|Ia d]at this;show this)
 apply A0 #[MY eE _,?_];apply eG (A:=X.A.in1) (N:=N) (us:=us) (by change X.A.κ+1+1<Aw;lia) (P.ok.hd t) (P.ϧ.Τ<|A4 _) C (Ia d) (Ci<|Kj g d) (Ci g) j vs us 0 _ [] [] é rfl M v .nil (m.kept (h':=f.push {cls:=.type "list_iterator",data:=.fields (T' [.ref l,.int 0 0])}) (t':=B) λb o e=>By _ e) #[_,Cq _ rfl,rfl,rfl] ?_ L λs' r Y pd=>?_
 .show i.ύ.Ι _
 .show#[rfl,.C s.r.O.o,_,Y,rfl,q r _ (P.ϧ.Τ<|A4 _) pd]
end
def
vG:Em "dict"=Z (.ε "dict"):=by kernel_rfl
def FY(f:AH):VE->Ba:=λa=>match f a with
 |some (.lst b)=>(Fv [] b).j Zb
 |_=>J
variable {M:Fb}{e:Expr}{f:AH}{p:Az}
open J in
def
vH(x:X.Ϸ=J')(y:X.A.κ+64<Aw)(z:Gl X "dict")(B:X.mg "dict"=J)(l:JE X e (tP X.K M H0 f))(r:↥(AQ [e] X.G=(O',As e X.G)::AQ [] X.G:12)):JE X (.Φ (.γ "dict" p) [e] [] pos) (Fm .d X.K M H0 (FY f)):=#[have l:=l.h;by
 intro g s i H Q W zQ;let(j,Y,R,c,q):=zQ;unfold FY at c;split at c
 .next m C=>
  let(n,E,c):=B2.mp c;ext c;apply Call_<|H9 W z B vG<|Oe (A8 ((EQ l (Bq (X:=X)) r) pos g s i H (λo k=>∃v,o=[v]/\Ak H k/\AC X.K (Nf M j i) k (.X m) v) W #[j,.X m,R,C,λv k t G=>#[v,rfl,t,G]]) λus t F=>?_) (by rw[r]) rfl;let(o,k,L,N,v,rfl,sm,a,ws,rfl,P,dl):=F;let(u,rfl,T):=FL N;ext T;apply vF x y L P dl E λtr b S w=>?_;have:=Ow (K:=X.K) (M:=M) (ρ:=j) (Y':=i) (fl:=.d) (Q:=Q) (xs:=Zb n) (vs:=Eh tr) (p:=b) sm S w.flat q;rw[L5 w]at this;grind
 .cases c]
def
vI{K:Ap}(i:I){x:Ae}{a:Az}(b:↥(NV X i x:8)):JS X (.Return (Z (.γ x a)) pos) (tS K M H0 λρ=>Ij (FS ρ i)):=#[bZ rfl (λ_=>rfl) Oz b]
end
variable {K:Ap}{M:Fb}
def
vJ{st:Ay}:JS X st (tS K M H0 λ_=>.ώ):=#[λa s b H D d ⟨c,R,q⟩=>BV q]
end
structure Ha(K:Ap)(C:Ac):V' where
 ga:findIn K (.C C) "__getattribute__"=Z (Z (.ξ "BaseException.__getattribute__"))
 cl:findIn K (.C C) "__class__"=Z (Z (.ξ "object.__class__"))
 gr:findIn K (.C C) "__getattr__"=Z J
 bx:subIn K (.C C) (.ε "BaseException")=Z J'
 ob:subIn K (.C C) (.ε "object")=Z J'
 ty:typeIn K (.C C)=Z (.ε "type")
 is:∃cd,clsIn K C=Z cd
variable {prog:AN}{w:Ai}{A:Ag}{h:Al}{g:Array GenState}{d:Drawn}{t:I}{os:OsState}{e:Ac}{K:Ap}
def
vK(X:K.In h)(F:Ha K C)(p:FR e C h)(c:R (.ok (.Ϯ (.C C))) #[h,g,d,t,os]):codeAny (Af prog w) A (.call (.ξ "getset_descriptor.__get__") #[[.ξ "object.__class__",.C e,.C C],[]]) R ⟨h,g,d,t,os⟩:=by
 let(o,f,a,b,i):=p;apply Vv PySem.F.slot_gs_get.plain PySem.F.entry_gs_get<|PySem.F.slot_gs_get.check _ _ _ _ _ _ _ _ PySem.F.typeOf_object_class (PySem.F.args_gs_get _ _ _) ?_;repeat(any_goals(first|assumption|(with_reducible apply RF a ?_;rw[b])|(with_reducible apply Looks.at (show Looks (Af prog w) h (isSubtype (.C C)<|.ε<|".".intercalate ("object.__class__".cutAt '.').h9) J' by rw[PySem.F.owner_object_class];show looks_subIn X F.ob) ?_)|wp_step))
 apply#[Code.quiet_builtin _ (by symm),Kl PySem.F.entry_object_class ?_];repeat(any_goals(first|assumption|(with_reducible apply RF a ?_;rw[b])|wp_step))
def
vL{a:Tok}{Q:Fin->Ab->V'}(X:K.In h)(F:Ha K C)(p:FR e C h)(f:Q (.ϕ (.Ϯ (.C C))) #[h,g,d,t,os]):wpAny (Af prog w) A (Fl.«object.__getattribute__» #[[.C e,.ω "__class__" a],[]]) Q E ⟨h,g,d,t,os⟩:=by
 let(o,i,b,c,j):=id p;let k:=PySem.F.typeOf_object_class;let l:=PySem.F.slot_gs_get.S;let m:=PySem.F.slot_gs_set.S;repeat(any_goals(first|assumption|(with_reducible apply RF b ?_;rw[c])|(with_reducible apply Looks.at (looks_findIn X F.cl) ?_)|wp_step))
 apply vK X F p ?_;repeat(any_goals(first|assumption|wp_step))
def
vM{M:Model}{a:Aa}(X:K.In h)(F:Ha K C)(p:FR e C h)(b:Q () #[h,g,d,t,os]):wpAny M A (checkBuiltinCall "BaseException.__getattribute__" #[[.C e,a],[]]) Q E ⟨h,g,d,t,os⟩:=by
 let(o,l,c,f,m):=p;let i:builtinKind "BaseException.__getattribute__"=Z .Ϡ:=by symm
 let j:splitId "BaseException.__getattribute__"=Z ("BaseException","__getattribute__"):=by symm
 let k:Looks M h (isSubtype (.C C)<|.ε "BaseException") J':=looks_subIn X F.bx;let n:=PySem.F.args_bexc_ga (.C e) a;erw[checkBuiltinCall,i,j];apply Ao ?_;unfold isInstance;repeat(first|(with_reducible apply RF c ?_;rw[f])|(with_reducible apply Looks.at k ?_)|wp_step)
 show b
def
vN{a:Tok}(X:K.In h)(F:Ha K C)(p:FR e C h)(b:R (.ok (.Ϯ (.C C))) #[h,g,d,t,os]):codeAny (Af prog w) A (.call (.ξ "BaseException.__getattribute__") #[[.C e,.ω "__class__" a],[]]) R ⟨h,g,d,t,os⟩:=Vv PySem.F.excAttr_ValueError.ga.plain PySem.F.entry_bexc_ga<|vM X F p<|vL X F p b
def
vO{a:Tok}{Q:AV}(X:K.In h)(F:Ha K C)(p:FR e C h)(f:Q (.C C) #[h,g,d,t,os]):wpAny (Af prog w) A (getAttrBy (.C e) (.ω "__class__" a) O') Q E ⟨h,g,d,t,os⟩:=by
 let(o,i,b,c,j):=id p;let k:=PySem.F.excAttr_ValueError.ga.L<|.C e;repeat(any_goals(first|assumption|(with_reducible apply RF b ?_;rw[c])|(with_reducible apply Looks.at (looks_findIn X F.ga) ?_)|(with_reducible apply Looks.at (looks_findIn X F.gr) ?_)|wp_step))
 apply vN X F p ?_;repeat(any_goals(first|assumption|wp_step))
def
vP{s:Ab}{Q:O Aa->Ab->V'}(X:K.In s.r)(F:Ha K C)(p:FR e C s.r)(a:Q (Z (.C C)) {s with toks:=s.Ζ+1}):wpAny (Af prog w) A (getAttr? (.C e) "__class__") Q E s:=by
 let(h,g,d,t,os):=s;repeat(any_goals(first|assumption|with_reducible apply(vO X F p)|wp_step))
def
vQ(F:Ha K C):KitX K (.C e) (.C C) (FR e C) where
 ty:=λM h X p=>by
  let(o,l,d,f,m):=p;intro A Q E s k q;show Ao<|wpAny_loadPart (k _ _ d)<|A0<|f ▸ q
 it:=λM h X _=>by
  let(g,a):=F.is;unfold clsIn at a;split at a
  .rename_i b;intro A Q E s k q;unfold isType loadHead;show Ao<|wpAny_loadPart (k _ _<|X _ _ b)<|A0 q
  .cases a
 ne:=λh i r j n t X c=>by
  let(g,a):=F.is;apply Bool.eq_false_iff.Ϛ λq=>?_;obtain rfl:C=i:=Value.C.inj<|beq_iff_eq.mp q;unfold clsIn at a;split at a
  .rename_i b;cases((X _ _ b).Γ.I c)
  .cases a
 ca:=λX p k=>vP X F p k
end
structure Fw(B:Al)(l:List Env)(e:Ac)(C fl:Aa)(h:Al):V' where
 stay:B.StaysIn h
 new:B.R e=J
 fun_:h.ϭ B l
 rcd:∃oe vs,h.R e=Z oe/\oe.cls=C/\oe.jk=.ϊ vs/\vs[2]?=Z .Β/\(vs[1]?=Z .Β\/∃T oT ts,vs[1]?=Z (.C T)/\B.R T=J/\T≠e/\h.R T=Z oT/\oT.jk=.ϊ ts/\ts[3]?=Z fl)
variable {M:Model}{A:Ag}{s:Ab}{B:Al}{l outer:U Env}{env:Env}{e L:Ac}{C fl:Aa}
def
Fw.outs{h:Al}(a:Fw B (env::outer) e C fl h):Fw B outer e C fl h:=#[a.stay,a.new,a.fun_.2.2,a.rcd]
def
RH{h:Al}{b x:Ac}{o a:Obj}{ws:Array Aa}(c:h.R b=Z o)(nf:∀vs,o.jk≠.ϊ vs)(d:h.R x=Z a)(e:a.jk=.ϊ ws):b≠x:=by grind
def
eH{head:Aa}{N:q'}{d:Obj}{vs:Array Aa}(n:A.ϴ=Z (env::outer))(K:env.xv=Z L)(st:B.StaysIn s.r)(nw:B.R e=J)(k:s.r.ϭ B (env::outer)) (l:s.r.R e=Z d) (P:d.cls=C) (f:d.jk=.ϊ vs) (Y:vs[2]?=Z .Β) (hz:1<vs.o) (q:∀h',Fw B (env::outer) e C (AO L) h'->(∃d vs T,h'.R e=Z d/\d.jk=.ϊ vs/\vs[1]?=Z (Cp T))->s.r.gV h'->Q () {s with heap:=h' }):wpAny M A (do let a <- frameOf env;let pl <- entryPlaceOf L N;let b <- EntryCells.newEntry head a .Β (AO L) .Β pl;setField (.C e) 1 b) Q E s:=by
 let ef:e∉(env::outer).filterMap (·.xv):=λp=>by
  let(_,o,i,z):=k.mem p;rw[l]at i;ext i;show z vs f
 apply Ao<|wpAny_frameOf_fun n k K λc sg=>Ao<|wpAny_entryPlaceOf λx r=>?_;unfold EntryCells.newEntry newFields;apply Ao<|Ke ?_<|r.sizeOk5 _ _ _ _ _;let G:c.get? e=Z d:=(sg.2.1 e ef).trans l;let H:B.StaysIn c:=λb o z=>(sg.2.1 b λp=>by rw[(k.mem p).1]at z;ext z).I (st b o z);generalize i:({cls:=.ε "traceback",dict:=J,data:=.ϊ ([head,.C L,.Β,AO L,.Β]++(if x.Ω then Ct 6 Gp else x)).E}:Obj)=j;let t:∃m,j.jk=.ϊ m/\m[3]?=Z (AO L):=by subst i;show#[_,rfl,by simp]
 let u:j.isFreed=O':=by subst i;rfl
 let(m,td,t3):=t;let v:=By (h:=c) j G;apply Pf v f hz<|q _ ?_ ⟨_,_,c.O.o,MU _ v<|RJ<|KO f _,KO f _,by simp[hz]⟩ ?_;all_goals
  let R:=KO f (·.Ρ 1 (Cp c.O.o));let e3:=MU (Obj.mapFields (·.Ρ 1 (Cp c.O.o))) v<|RJ R;let ne:c.objs.size≠e:=Ia<|BB G;let kp:∀b o,b≠e->c.get? b=Z o->((c.push j).update e<|Obj.mapFields (·.setIfInBounds 1 (Cp c.objs.size))).get? b=Z o:=λb o z g=>by
   rw[MV _ _<|Cj z];show By _ g
 .apply#[λb o z=>kp b o (λy=>by rw[y,nw]at z;ext z) (H b o z),nw,k.of_keeps λb o g nf=>?_,_,_,e3,(Obj.cls_mapFields _ _).I P,R,by rw[Array.getElem?_setIfInBounds_ne (by ext)];show Y,.φ #[c.O.o,j,m,by simp[hz],H.Τ,ne,?_,td,t3]]
  .let(F,w):=sg.2.2 b o g;show#[_,kp b _ (RH g nf l f) w,rfl]
  .rw[MV _ _<|Cj ne];show Cq c u
 .intro b o g nf;let(F,w):=sg.2.2 b o g;show#[F,kp b _ (RH g nf l f) w]
def
Vw{T:Ac}{g h:Obj}{i:Array Aa}{v:Aa}(st:B.StaysIn s.r)(m:s.r.ϭ B l)(n:s.r.R e=Z h)(p:B.R T=J)(ne:T≠e)(f:s.r.R T=Z g)(c:g.jk=.ϊ i)(hz:3<i.o) (q:∀h',B.StaysIn h'->h'.ϭ B l->h'.R e=Z h->(∃j k,h'.R T=Z j/\j.jk=.ϊ k/\k[3]?=Z v)->s.r.gV h'->Q () {s with heap:=h' }):wpAny M A (setField (.C T) 3 v) Q E s:=by
 apply Pf f c hz ?_;let a:∀b,b≠T->(s.r.ϰ T<|Obj.mapFields (·.setIfInBounds 3 v)).get? b=s.heap.get? b:=λb z=>MV _ _<|Cj z;apply q _ (λb o z=>(a b λy=>by rw[y,p]at z;ext z).I (st b o z)) (m.of_keeps λb o d nf=>#[o,(a b<|RH d nf f c).I d,rfl]) ((a e<|Cj ne).I n)
  #[_,_,MU _ f<|RJ<|KO c _,KO c _,by simp[hz]] λb o d nf=>#[o.slots,(a b<|RH d nf f c).I d]
def
Vx(h:fl=.Β\/fl=AO L)(d:A.ϴ=Z (env::outer))(i:env.xv=Z L)(a:Fw B (env::outer) e C fl s.r)(q:∀h',Fw B (env::outer) e C (AO L) h'->(∃f vs T,h'.R e=Z f/\f.jk=.ϊ vs/\vs[1]?=Z (Cp T))->s.r.gV h'->Q () {s with heap:=h' }):wpAny M A (noteFrame (.C e) env) Q E s:=by
 let(st,nw,j,f,vs,b,g,c,k,r):=a;unfold noteFrame;erw[i];rcases r with r|⟨T,w,x,r,v,ne,l,m,n⟩
 .apply Ao<|Ed b c r ?_;rw[if_neg (by ext)];show eH d i st nw j b g c k (RK.mp r).1 q
 .apply Ao<|Ed b c r ?_;rw[if_pos (show(Cp T != Gp)=J' by simp)];apply Ao<|Ed l m n ?_;rcases h with rfl|rfl
  .rw[if_neg (show ¬ (Gp==AO L)=J' by simp[AO])];apply Ao<|Vw st j b v ne l m (RK.mp n).1 λh' o p t _ u=>?_;show eH (s:={s with heap:=h' }) d i o nw p t g c k (RK.mp r).1 λg a y z=>q g a y (u.I z)
  .rw[if_pos (show(AO L==AO L)=J' by simp[AO])];show A0<|q s.r ⟨st,nw,j,f,vs,b,g,c,k,.φ ⟨T,w,x,r,v,ne,l,m,n⟩⟩ ⟨f,vs,T,b,c,r⟩<|.χ _
def
Vy(a:Fw B l e C fl s.r)(q:∀h',Fw B l e C .Β h'->s.r.gV h'->Q () {s with heap:=h' }):wpAny M A (setFlight (.C e) J) Q E s:=by
 let(st,nw,h,i,j,b,k,c,m,r):=a;unfold setFlight;rcases r with r|⟨T,G,H,r,n,ne,o,p,t⟩
 .apply Ao<|Ed b c r ?_;rw[if_neg (by ext)];show A0<|q s.r ⟨st,nw,h,i,j,b,k,c,m,.U r⟩<|.χ _
 .apply Ao<|Ed b c r ?_;rw[if_pos (show(Cp T != Gp)=J' by simp)];show Vw st h b n ne o p (RK.mp t).1 λh' d f g ⟨v,w,x,y,z⟩ u=>q h' #[d,nw,f,i,j,g,k,c,m,.φ #[T,v,w,r,n,ne,x,y,z]] u
def
vR(b:fl=.Β\/fl=AO L)(c:A.ϴ=Z (env::outer))(d:env.xv=Z L)(a:Fw B (env::outer) e C fl s.r)(q:∀h',Fw B outer e C .Β h'->s.r.gV h'->Q () {s with heap:=h' }):wpAny M A (leaving env (.C e)) Q E s:=by
 show Ao<|Vx b c d a λf a1 _ g=>Vy (s:={s with heap:=f}) a1 λh i j=>q h i.outs (g.I j)
def
vS(d:A.ϴ=Z (env::outer))(f:fl=.Β\/fl=AO L)(j:env.xv=Z L)(a:Fw B (env::outer) e C fl s.r){k:AV}(q:∀h',Fw B (env::outer) e C (AO L) h'->s.r.gV h'->k (.C e) {s with heap:=h' }):notedBy M A env (cameBackBy M A env k) (.C e) s:=by
 apply Vx f d j a λl a t u=>?_;let(st,nw,v,w,x,b,l,c,y,r):=a;let(z,E,T',m,n,o):=t;rw[b]at m;ext m;rw[c]at n;ext n;rcases r with r|⟨T,oT,ts,r,p,ne,G,H,R⟩
 .rw[r]at o;ext o
 .apply Ao<|Ed b c r ?_;rw[if_neg (show ¬ (Cp T==Gp)=J' by simp)];rw[j];unfold setFlight;apply Ao<|Ed b c r ?_;rw[if_pos (show(Cp T != Gp)=J' by simp)];show Vw st v b p ne G H (RK.mp R).1 λh' g h i ⟨F,N,K,Q,P⟩ Y=>q h' #[g,nw,h,w,x,i,l,c,y,.φ #[T,F,N,r,p,ne,K,Q,P]]<|u.I Y
def
A9.ob{P:AN}{w:Ai}{H:Hp}{h:Al}{x:Ac}{o:HO}(z:A9 P w H h x o):∃ob,h.R x=Z ob:=by
 cases o with
 |lst a=>let(_,_,_,_,q):=z;show#[_,q]
 |tup a=>let(_,_,_,ob,q,_):=z;show#[_,q]
 |dct c d=>let(_,_,_,ob,_,_,q,_):=z;show#[_,q]
 |ins D e b=>let(_,_,_,q,_):=z;show#[_,q]
 |own y=>show z
 |xd b=>let(_,(_,_,_,q,_),_):=z;show#[_,q]
 |rng lo g=>let(_,_,_,q):=z;show#[_,q]
 |frz ob u=>show#[_,z.1]
 |tbl i=>show#[_,z]
 |met f y=>show#[_,z]
 |ext j=>show z.2.1
def eI(fl:Aa)(P:AN)(w:Ai)(l:U Env)(H H':Hp)(s:Al)(e C:Ac)(h:Al):V':=
 Ak H H'/\Un (Cy l) [] H H' s h/\∃B,Cu P w H' B/\(∀b o,s.R b=Z o->H b=J->b∉Cy l->B.R b=Z o)/\Fw B l e (.C C) fl h
abbrev vT:=eI .Β
def Iz(P:AN)(w:Ai):D8:=λouter H s E e b=>∃a C c,e=.C a/\b.os=s.os/\AllBare b.gens/\vT P w outer H c s.r a C b.r/\E (.C C) J c
def GC(fl:Aa)(Y:Cx)(b:A1)(Y':St)(H:Hp)(C:Ac)(e:Aa)(s':Ab):V':=
 ∃a c f d,e=.C a/\Inv Y b Y' c d/\Ak H c/\s'.os=d.os/\AllBare s'.gens/\eI fl Y.Y Y.w Y.Ψ c f d.r a C s'.r
abbrev RL:=GC .Β
def
GC.from{fl:Aa}{b:A1}{H d:Hp}{C:Ac}{v:Aa}(sm:Ak H d)(t:GC fl Y b Y' d C v s'):GC fl Y b Y' H C v s':=by
 let(a,e,f,g,h,i,c,r):=t;show#[a,e,f,g,h,i,sm.I c,r]
def
Vz{fs:U Ac}{l:U Env}{H m:Hp}{s q h h':Al}{P:AN}{w:Ai}{C:Aa}(d:Un fs [] H m s q)(p:Un (Cy l) [] m H' q h)(A:Cu P w H' B)(k:∀b o,q.R b=Z o->m b=J->b∉Cy l->B.R b=Z o) (E:∀b o,s.R b=Z o->H b=J->b∈Cy l->b∈fs) (sm:Ak m H') (a:Fw B l e C fl h) (st:B.StaysIn h') (G:h.gV h'):Un fs [] H H' s h':=by
 let nx:∀b:Ac,b∉([]:U Ac):=λb=>by simp
 let t:∀b o,q.R b=Z o->m b=J->b∈Cy l->∃r,h'.R b=Z {o with slots:=r}:=λb o z n f=>by
  let(r,c):=p.any z n<|nx b;let(_,v,g,nf):=a.fun_.mem f;rw[c]at g;ext g;let(i,K):=G b _ c nf;show#[i,K]
 apply#[λb o z n f _=>?_,λb o z n f _=>?_,λb o z n _=>?_,λb o z _=>?_,λb x z=>p.tups b x<|d.tups b x z,λb o u z=>p.frzs b o u<|d.frzs b o u z,λb F z=>?_]
 .show st b o<|k b o (d.keep b o z n f<|nx b) (d.free b o z n<|nx b) λj=>f<|E b o z n j
 .let(r,c):=d.Ϡ b o z n f<|nx b;by_cases j:b∈Cy l
  .let(i,g):=t b _ c (d.Ν b o z n<|nx b) j;show⟨i,g⟩
  .show#[r,st b _<|k b _ c (d.Ν b o z n<|nx b) j]
 .let(v,c):=d.there b o z<|nx b;show p.Ν b v c (d.Ν b o z n<|nx b)<|nx b
 .let(y,c):=d.there b o z<|nx b;cases f:m b with
  |none=>
   by_cases j:b∈Cy l
   .let(i,g):=t b y c f j;show#[_,g]
   .show#[y,st b _<|k b _ c f j]
  |some u=>
   let(L,g):=(A b u<|sm b u f).ob;show⟨L,st b _ g⟩
 .let(M,c):=d.tbls b F z;let(N,g):=p.tbls b _ c;show#[M++N,by rw[g,Array.append_assoc]]
def
vU{P:AN}{w:Ai}{H:Hp}{h:Al}{fs:U Ac}(a:Cu P w H h)(nf:∀b∈fs,H b=J):Cu P w H (hideAll h fs):=λx o z=>(a x o z).stay (λb u c q=>hideAll_get _ q λd=>by
  grind) (λ_ q=>q) λ_ _ q=>q
def
vV{a:A1}{H:Hp}{s:Ab}{D x:Ac}{vs:U Aa}{h':Al}(i:Inv Y a Y' H s)(m:Heap.MadeExcOf s.r h' x (.C D) vs):RL Y a Y' H D (.C x) {s with heap:=h' }:=by
 let c:(hideAll s.r<|Cy Y.Ψ).R x=J:=by
  cases q:(hideAll s.r<|Cy Y.Ψ).R x with
  |none=>rfl
  |some o=>have:=of_hideAll _ q;rw[m.new]at this;ext this
 let(f,d,g,h):=m.there;show#[x,H,H,s,rfl,i,Ak.χ H,rfl,i.bare,Ak.χ H,Un.ϲ m.keeps,hideAll s.r<|Cy Y.stack,vU i.hok i.stkFree,λb o z n e=>hideAll_get _ z e,#[λb o z=>m.keeps b o<|of_hideAll _ z,c,(funFrames_hide i.stack (show ∀env∈Y.stack,∀b,env.frame=Z b->b∈Y.stack.filterMap (·.frame) by grind)).of_keeps λb o z _=>#[o,m.keeps b o z,rfl],_,_,d,rfl,rfl,rfl,.U rfl]]
def
eJ{fl:Aa}{f:A1}{H:Hp}{D:Ac}{v:Aa}{q:XK}(ys:Y.Ψ=Y.G::Y.g7)(i:Y.G.xv=Z Y.G.Λ)(r:Y.ex=[])(g:Ak Y.H₀ H)(j:fl=.Β\/fl=AO Y.G.Λ)(t:GC fl Y f Y' H D v s')(G:∀H',Ak Y.H₀ H'->q (.C D) J H'):wpAny M Y.A (leaving Y.G v) (λ_ k=>Iz Y.Y Y.w Y.g7 Y.H₀ Y.s₀ q v k) E s':=by
 let(x,N,H',K,rfl,P,sm,os,F,a,u,B,s,m,c):=t;let h:=P.ok.ϴ;rw[ys]at c u m h;apply vR j h i c λQ C L=>#[x,D,H',rfl,os.I P.os,F,#[(g.I sm).I a,?_,B,s,λb o z n d=>?_,C],G H'<|(g.I sm).I a]
 .let e:=P.σ;rw[r]at e;apply Vz (l:=Y.G::Y.g7) e u s m (λb o z n d=>?_) a c C.stay L;rcases BJ.mp (show b∈Y.G.Λ::Cy Y.g7 by unfold Cy at d ⊢;rw[QA,i]at d;show d)with y|y
  .show absurd (y ▸ BB z)<|Kh.Ϛ P.ok.above
  .show y
 .let e:=P.σ;rw[r]at e;apply m b o (e.keep b o z n d (by simp)) (e.Ν b o z n (by simp)) λp=>?_;rcases BJ.mp (show b∈Y.G.Λ::Cy Y.g7 by unfold Cy at p ⊢;rw[QA,i]at p;show p)with y|y
  .show absurd (y ▸ BB z)<|Kh.Ϛ P.ok.above
  .show d y
def
vW{a:A1}{H:Hp}{D:Ac}{v:Aa}{d:XK}(ys:Y.Ψ=Y.G::Y.g7)(e:Y.G.xv=Z Y.G.Λ)(f:Y.ex=[])(b:Ak Y.H₀ H)(t:RL Y a Y' H D v s')(g:∀H',Ak Y.H₀ H'->d (.C D) J H'):wpAny M Y.A (leaving Y.G v) (λ_ c=>Iz Y.Y Y.w Y.g7 Y.H₀ Y.s₀ d v c) E s':=eJ ys e f b (.U rfl) t g
end
abbrev Cx.hand(Y:Cx)(x:Ac):Cx:={Y with A:=Y.A.mark (Z (.C x)),calm:=O'}
variable {H H2:Hp}{s s2:Ab}{x D G:Ac}{fl f0:Aa}{B h h':Al}
def
Inv.hand(a:Inv Y ß Y' H s)(x:Ac):Inv (Y.hand x) ß Y' H s:=#[#[a.ok.mod,a.ok.ϫ,a.ok.glob,a.ok.blt,a.ok.above,a.ok.inj,a.ok.has,a.ok.cab,(λz=>nomatch z),a.ok.ϴ,a.ok.stk,a.ok.exf,a.ok.bs,a.ok.bsz,a.ok.noex,a.ok.exfs,a.ok.funs,a.ok.frf],a.os,a.bare,a.σ,a.loc,a.Υ,a.Ν,a.freeC,a.pin,a.ϧ,a.϶]
def
Inv.back(ok:Y.Ok)(a:Inv (Y.hand x) ß Y' H s):Inv Y ß Y' H s:=#[ok,a.os,a.bare,a.σ,a.loc,a.Υ,a.Ν,a.freeC,a.pin,a.ϧ,a.϶]
def
eK(R:Inv Y ß Y' H2 s2)(os:s'.os=s2.os)(H:AllBare s'.gens)(sm:Ak H2 H')(u:Un (Cy Y.Ψ) [] H2 H' s2.r h)(l:Cu Y.Y Y.w H' B)(A:∀b o,s2.r.R b=Z o->H2 b=J->b∉Cy Y.Ψ->B.R b=Z o) (p:Fw B Y.Ψ x (.C D) f0 h) (a:Fw B Y.Ψ x (.C D) fl h') (F:h.gV h'):H2 x=J/\Ak H2 (AX H' x (.ext (FR x D)))/\Inv Y ß Y' (AX H' x (.ext (FR x D))) {s' with heap:=h' }:=by
 let g:H' x=J:=by
  cases q:H' x with
  |none=>rfl
  |some o=>let(ob,z):=(l x o q).ob;rw[a.new]at z;ext z
 let L:s2.r.R x=J:=by
  cases q:s2.r.R x with|none=>rfl|some o=>
   cases C:H2 x with|some M=>rw[sm x M C]at g;cases g|none=>
    by_cases E:x∈Cy Y.Ψ
    .let(_,o3,i,nf):=p.fun_.mem E;let(r,s,j,_,t,_):=p.rcd;rw[j]at i;ext i;show absurd t<|nf s
    .have:=A x o q C E;rw[a.new]at this;ext this
 let d:=Vz (Un.χ (fs:=Cy Y.Ψ)) u l A (λ_ _ _ _ z=>z) sm p a.stay F;let f:∀b o,H' b=Z o->(AX H' x<|.ext<|FR x D) b=Z o:=λb o q=>Zr (ZY q g) ▸ q;apply#[sm.Ν g,λb o q=>f b o<|sm b o q,R.call' (s':={s' with heap:=h' }) (ch:=[]) os #[d.keep,d.slot,λb o z n N=>?_,d.there,λb G z=>f b _ (d.tups b G z),λb o v z=>f b _ (d.frzs b o v z),λb K z=>?_] (λb v q=>?_) H (λb z=>absurd z (by simp))]
 .rw[Zr (λy=>by rw[y,L]at z;ext z)];show d.Ν b o z n N
 .let(m,q):=d.tbls b K z;show#[m,f b _ q]
 .by_cases e:b=x
  .subst e;rw[Z5]at q;ext q;let(r,s,j,t,i,Q,_):=a.rcd;show#[#[r,s,j,t,i,Q],#[r,j],λh1 h2 ⟨o,T,P,y2⟩ k=>#[o,T,k o P,y2]]
  .rw[Zr e]at q;show(l b v q).stay (λc o _ z=>a.stay c o z) (λc z=>f c _ z) λc G z=>f c _ z
def
Inv.gone{g:Bt}{h:I}(u:Inv Y ß Y' H s)(j:h'.Ns Y.G.Λ g)(sb:En Y.G.Λ s.r h'):Inv Y ß (Ct Y.N.a J) H {s with heap:=h',toks:=h}:=by
 let lt:∀b o,Y.s₀.r.R b=Z o->b≠Y.G.Λ:=λb o z=>Ci<|BY (BB z) u.ok.above;apply⟨u.ok,u.os,u.bare,⟨λb o z n e d=>(sb.2 b<|lt b o z).trans<|u.base.keep b o z n e d,λb o z n e d=>?_,u.σ.Ν,λb o z d=>?_,u.σ.tups,u.σ.frzs,u.σ.tbls⟩,⟨g,j,λi y v t f _=>?_⟩,λy c z=>?_,u.Ν,u.freeC,λp k=>?_,λb v q=>?_,by simp⟩
 .let(l,q):=u.σ.Ϡ b o z n e d;show#[l,(sb.2 b<|lt b o z).I q]
 .let(m,q):=u.σ.there b o z d;show#[m,(sb.2 b<|lt b o z).I q]
 .rw[J9]at f;split at f<;>ext f
 .let(w,q):=u.Υ y c z;show#[w,q.sameBut sb<|u.cne y c z]
 .let(z,n,ne,nf,r):=u.pin p k;show#[(sb.2 p.1 ne).I z,n,ne,nf,r]
 .refine(u.ϧ b v q).stay (λc o a z=>(sb.2 c λy=>?_).I z) (λ_ z=>z) λ_ _ z=>z;rcases a with a|a
  .rw[a]at y;rw[y,u.Ν]at q;ext q
  .rw[y,u.Ν]at a;ext a
def
vX{i:I}{h n:Ae}{np:Az}{M:Ay}{a:U Ay}{AD:U ExceptHandler}{v:Aa}{Q:Flow->Ab->V'}{Q':VK}(ys:Y.Ψ=Y.G::Y.g7)(yf:Y.G.xv=Z Y.G.Λ)(t:RL Y ß Y' H D v s') (hm:Y.mg h=Z (.C G)) (hg:Gl Y h) (hx:exmOne Y.K (.C D) (.C G)=Z J') (hN:Y.N.μ) (hi:Y.N[i]?=Z n) (m:Y.G.Δ.ρ.S n=Z .ϐ) (k:∀x o j,H x=J->Ak H o->Inv (Y.hand x) ß (Y'.Χ i (Z (.C x))) o j->o x=Z (.ext (FR x D))->wpAny (Af Y.Y Y.w) (Y.A.mark (Z (.C x))) (execs (M::a) Y.G) (λf s4=>∃u vv b H',f=.Ϯ u/\Inv (Y.hand x) ß b H' s4/\RelV vv u/\Q' vv H') (λ_ _=>False) j) (fin:∀u vv b H' P,Inv Y ß b H' P->RelV vv u->Q' vv H'->Q (.Ϯ u) P) (hd:⇑(CT h)):wpAny (Af Y.Y Y.w) Y.A (noteFrame v Y.G) (λ_ s2=>wpAny (Af Y.Y Y.w) Y.A (setFlight v J) (λ_ j=>wpAny (Af Y.Y Y.w) Y.A (handleBy v Y.G (.ExceptHandler (Z (.γ h np)) (Z n) (M::a) pos::AD)) Q E j) E s2) E s':=by
 let(x,H2,H',s2,rfl,S,e,os,T,sm,u,B,R,kb,d):=t;let g:=S.ok.ϴ;let c:=d;rw[ys]at g c;apply Vx (.U rfl) g yf c λh4 a4 _ p=>Vy (s:={s' with heap:=h4}) a4 λh5 l r=>?_;rw[<- ys]at l;let up:=p.I r;let(_,sm5,I5):=eK S os T sm u R kb d l up;let(oe,vs,e1,e2,e3,_):=id l.rcd;let LT:Looks (Af Y.Y Y.w) h5 (typeOf<|.ref x) (.ref D):=λA' Q' E' s' kk q=>by
  unfold typeOf;show Ao<|wpAny_loadPart (kk _ _ e1)<|A0 (by rw[e2];show q)
 apply wpAny_handleBy_cons (codeAny_handlers_test ?_) (by intro q;ext q);apply ML (X:=Y.hand x) (I5.hand x) hg hm ?_ hd;refine(exm_one (K:=Y.K) I5.kIn LT hx).here ?_;apply codeAny_handlers_suite_as<|Vy (s:={s' with heap:=h5}) l λh6 a6 y=>?_;let(C,F,I6):=eK (s':=s') S os T sm u R kb d a6 (up.I y);apply Uf (X:=Y.hand x) (I6.hand x) hN hi (.U m) (v:=.C x) rfl (λs7 I7=>?_) (.φ m);apply Cs (k x _ s7 (e.Ν C) (e.I F) I7 Z5) (λf s8 hf=>?_) λ_ _ z=>z.ι;let(uu,vv,b,H8,rfl,I8,rv,q):=hf;let(m8,n8,_):=id I8.loc;apply wpAny_nameGoes m n8 (by rw[S.ok.ϫ];rfl) λh9 m9 n9 L=>?_;show fin uu vv _ H8 _ ((I8.back S.ok).gone n9 L) rv q
end
def D3(Y:Cx)(a:A1)(Y':St)(H:Hp)(c:Ae)(e:Aa)(s':Ab):V':=∃D,BF Y.K BZ c=Z (Z (.C D))/\RL Y a Y' H D e s'
def Hb(Y:Cx):V':=∀e s,¬ Y.xe e s
def
D3.from{a:A1}{H b:Hp}{c:Ae}{v:Aa}(sm:Ak H b)(t:D3 Y a Y' b c v s'):D3 Y a Y' H c v s':=by
 let(D,e,t):=t;show#[D,e,t.v0 sm]
structure XT(Y:Cx)(K:Ap)(M:Fb)(H0:Hp)(st:Ay)(h:VE->Option Ae):V' where
 h:∀ß s Y' H ρ c,Inv Y ß Y' H s->Bw K M H0 ρ Y' H->h ρ=Z c->wpAny (Af Y.Y Y.w) Y.A (exec st Y.G) (λ_ _=>False) (D3 Y ß Y' H c) s
structure XS(Y:Cx)(K:Ap)(M:Fb)(H0:Hp)(st:Ay)(h:VE->Option Ae):V' where
 h:∀ß s Y' H ρ c,Inv Y ß Y' H s->Bw K M H0 ρ Y' H->h ρ=Z c->wpAny (Af Y.Y Y.w) Y.A (exec st Y.G) (λ_ _=>False) (λe s'=>∃σ' H1,Ak H0 H1/\D3 Y ß σ' H1 c e s') s
variable {K:Ap}{a b:U Ay}
@[simp]def GD(t:O q')(a b:O Ae):O Ae:=match t with
  |some J'=>a
  |some O'=>b
  |none=>J
structure VA(K:Ap)(D:Ac):V' where
 ex:∃nm q N bs bm hdct sn sub ab col dd k0 k1 k2 k3 k5,K.S D=Z (excClassObj nm q D N bs bm hdct sn sub ab col dd k0 k1 k2 k3 k5 "ValueError.__new__")/\tailIn K [.ε "ValueError",.ε "Exception",.ε "BaseException",.ε "object"] bm=J'/\nsOkIn K N=J'/\BF K N "__init__"=Z J
end
variable {K:Ap}{M:Fb}{x:Ac}
def vY(K:Ap):U V->Hp->VK->V':=λe H Q=>∃a C d c b,e=[.C a,d]/\(∀u,RelV d u->u=c)/\H a=Z (.ext (FR a C))/\Ha K C/\kitOne K (.C C) c=Z b/\Q (.bl b) H
def
vZ:EO Y (.ξ "isinstance") (vY Y.K):=by
 intro d s j H k l Q o r zQ;let(a,C,m,c,b,rfl,f,g,F,e,q):=zQ;let(u,v,rfl,h,i):=Oi r;ext h;cases f v i;show kia_one (vQ F) o.kIn (show A9 Y.Y Y.w H s.r a (.ext<|FR a C)from o.hok a _ g).1 e (λz=>nomatch z) λn=>#[.bl b,H,o.tok _,rfl,q]
@[simp]def GG(i:I)(cs:U Ae)(f:Ae->q')(ρ:VE):O D:=match ρ[i]? with
  |some (.exc c)=>if cs.Μ c=J' then Z (.bl (f c))else J
  |_=>J
open J in
def
eL{b:Expr}{e:V}{g:Aa}{n m:Ae}{j p:Az}(i:I)(cs:U Ae)(f:Ae->q')(w:Y.K=K)(x:Y.N[i]?=Z n)(k:N5 Y.G.Δ n)(y:PE Y b (tC e))(A:∀u,RelV e u->u=g) (B:∀c C,cs.Μ c=J'->BF K BZ c=Z (Z (.C C))->Ha K C/\kitOne K (.C C) g=Z (f c)) (E:Gl Y m) (G:Y.mg m=J) (X:Em m=Z (.ξ "isinstance")) (P:⇑(m≠"__name__")) (l:⇑(CT m)) (hd:⇑(CT n)) (o:⇑((n==("__classdict__":Ae))=O')) (v:↥(AQ [.γ n j,b] Y.G=(O',As (.γ n j) Y.G)::AQ [b] Y.G:12)) (r:↥(AQ [b] Y.G=(O',As b Y.G)::AQ [] Y.G:12)) (s:↑((AF pos (AQ [b] Y.G)).any (·.1)=O')):JE Y (.Φ (.γ m p) [.γ n j,b] [] pos) (tD K M H0 (GG i cs f)):=#[(bg vZ E G X (EQ (ak x k hd o) (EQ y Bq r) v) P l v s).ν λY' H Q h=>by
 subst w;let(ρ,d,R,z,q):=h;unfold GG at z;split at z
 .next c L=>
  let(t,z):=ZV z;ext z;let(a,C,S,T,W):=R.Ϡ i _ L;let(F,kk):=B c C t T;show#[.C a,AG S,a,C,e,g,f c,rfl,A,W,F,kk,q _ H (Ak.χ H) (by erw[AB])]
 .cases z]
end
def
IA:Hb X.nox:=λ_ _ z=>z
def GH(t c:Ae):q':=c==t||t=="CubeError"||t=="ValueError"
variable {K:Ap}{D G:Ac}{b:q'}{cd:ClassData}
def
mk_of{nm q:Ae}{N:Ac}{bs a:U Aa}{hdct:q'}{sn:U Ae}{sub:U Aa}{ab:q'}{col:O q'}{k0 k1 k2 k3 k5:O Aa} (l:K.S D=Z (excClassObj nm q D N bs a hdct sn sub ab col dd k0 k1 k2 k3 k5 "ValueError.__new__")) (e:excIn K D [.ε "ValueError",.ε "Exception",.ε "BaseException",.ε "object"] "ValueError.__new__"=J'):VA K D:=by
 unfold excIn at e;rw[l]at e;change (((((_&&_)&&_)&&_)&&_)&&_)=J' at e;erw[C9,beq_iff_eq,Pg]at e;show#[nm,q,N,bs,a,hdct,sn,sub,ab,col,dd,k0,k1,k2,k3,k5,l,e.1.1.2,e.1.2,e.2]
def
eM{t:Aa}(z:clsIn K G=Z cd)(y:typeIn K (.C G)=Z (.ε "type"))(s:subIn K t (.C G)=Z b):kitCls K t (.C G)=Z b:=by
 unfold kitCls;simp_all
def
kit_ne(ne:(Cp C==Cp G)=O')(z:clsIn K G=Z cd)(y:typeIn K (.C G)=Z (.ε "type"))(s:subIn K (.C C) (.C G)=Z b):kitOne K (.C C) (.C G)=Z b:=by
 unfold kitOne;rw[if_neg (λq=>by rw[ne]at q;ext q)];show eM z y s
def
kit_self:kitOne K (.C C) (.C C)=Z J':=by
 unfold kitOne;simp_all
def
kit_V(s:subIn K (.C C) (.ε "ValueError")=Z b):kitOne K (.C C) (.ε "ValueError")=Z b:=by
 unfold kitOne;rw[if_neg (λq=>by cases(show(Cp C=J2 "ValueError")from beq_iff_eq.mp q))];unfold kitCls;dsimp only;rw[if_pos (by symm)];show s
def
exm_of(x:subIn K (.C G) (.ε "BaseException")=Z J')(z:clsIn K G=Z cd)(y:typeIn K (.C G)=Z (.ε "type"))(s:subIn K (.C C) (.C G)=Z J'):exmOne K (.C C) (.C G)=Z J':=by
 unfold exmOne;rw[if_pos (by rw[x];rfl)];show eM z y s
end
end Internal
namespace Internal
open PySem PySem.Spec PyProof.Rows
def eO(i j:W'):V':=0<j/\j<2^100
instance (i j:W'):Decidable (eO i j):=by unfold eO;show inferInstance
open PySem.W
def EF(h:Al)(d:Ac)(es:Array IU)(ep:I):V':=∃o,h.R d=Z o/\o.ExactDict/\o.jk=.dict es ep
variable {prog:AN}{w:Ai}{A:Ag}{s:Ab}{d it:Ac}{es:Array IU}{ep i:I}
def
EF.type(x:EF s.r d es ep):s.TypeIs (.C d) "dict":=by
 let(o,a,b,_):=x;show#[o,a,b.1]
def
EF.at{h h':Al}(x:EF h d es ep)(k:∀o,h.R d=Z o->h'.R d=Z o):EF h' d es ep:=by
 let(o,a,b):=x;show#[o,k o a,b]
def
eP{Q:AV}(hd:(d==Hn)=O')(a:EF s.r d es ep) (e:Q (.C s.r.O.o) {s with heap:=s.r.Ι {cls:=.ε "dict_keyiterator",data:=.ϊ (T' [.C d,.u 0 0,.u es.o 0,.u ep 0])} }):wpAny (Af prog w) A (pyIter (.C d)) Q E s:=by
 let ty:=a.ε;let(o,b,f,c):=a;apply wpAny_pyIter_slot ty PySem.F.slot_dict_iter<|LL PySem.F.slot_dict_iter ty PySem.F.entry_dict_iter ?_<|PySem.F.args_dict_iter_1 _;unfold Fl.«dict.__iter__» Builtin.Dict.dictSlotNone;apply Ao<|Ao<|wpAny_notOrdered_dict ty ?_;refine(A0 ?_:wpAny _ _ (Am<|Cp d) _ _ s);change wpAny _ _ (Builtin.Dict.showsAll d >>= _) _ _ s
 unfold Builtin.Dict.showsAll;rw[if_neg<|hd ▸ N1];apply Ao<|A0<|Ao<|wpAny_dictEntries b c<|Ao<|wpAny_dictEpoch b c ?_;apply Ao<|Ke<|A0 ⟨_,rfl,"dict_keyiterator",_,⟨_,Cq _ rfl,rfl⟩,PySem.F.slot_dict_keyiterator_next.S,?_⟩;simpa[AO]using e
def
RM{Q:O Aa->Ab->V'}(g:s.r.IsKeyIter it d i es.o ep)(r:EF s.r d es ep)(q:∀(c:i<es.o) h',h'.IsKeyIter it d (i+1) es.o ep->En it s.r h'->Q (Z es[i].key) {s with heap:=h' }) (h:es.o<=i->A.ϡ=J/\∀h',Heap.ExtBut it s.r h'->Q J {s with heap:=h' }):wpAny (Af prog w) A (pyNext (.C it)) Q E s:=by
 let ty:=g.ϟ;let(p,f,t,e):=g;let(o,j,u,k):=r;unfold pyNext;apply Ao<|Pc<|MR (name:=Kc "__next__") ty v5 (LL v5 ty PySem.F.entry_dict_keyiterator_next ?_<|PySem.F.args_dict_keyiterator_next_1 _);apply Ao<|A0<|Ao<|Ao ?_;apply Ao<|eQ ty<|A0 ?_;apply Ao<|wpAny_fieldsOf f e ?_;erw[show Builtin.Dict_items.ownsTuple "dict_keyiterator"=O' by ext,FQ,if_false];change wpAny _ _ (if(Cp d==Gp)=J' then _ else _) _ _ s
 apply Ao<|A0<|Ao<|wpAny_dictEntries j k ?_;rw[if_neg (by simp)];apply Ao<|A0<|Ao<|wpAny_dictEpoch j k ?_;rw[if_neg (by simp)];apply A0 ?_;by_cases c:i<es.o
 .erw[show ¬ ((i:W')<0)from ∅,if_false,KP,er c];apply Ao ?_;first|apply Ao (eQ ty<|A0 ?_)|apply Ao (wpAny_typeNameOf_keyiter ty<|A0 ?_)
  apply Ao<|wpAny_isOneOf_keyiter ty ?_;change wpAny _ _ (setField (.C it) 1 (AO<|(i:W')+1) >>= _) _ _ s
  apply Ao<|Pf f e (by simp) ?_;let n:(s.r.ϰ it<|Obj.mapFields (·.Ρ 1 (AO<|(i:W')+1))).IsKeyIter it d (i+1) es.o ep:=#[_,MU _ f<|RJ<|KO e _,(Obj.cls_mapFields ..).I t,by rw[KO e];simp[AO]];show Ao<|Gv<|Ao<|wpAny_isOneOf_keyiter (s:={s with heap:=s.r.ϰ it (Obj.mapFields (·.Ρ 1 (AO ((i:W')+1))))}) n.ϟ (A0 (A0 #[_,rfl,A0 (q c _ n (Nj ..))]))
 .erw[show ¬ ((i:W')<0)from ∅,if_false,KP,Array.getElem?_eq_none<|GX c];apply Ao ?_;first|apply Ao (eQ ty<|A0 ?_)|apply Ao (wpAny_typeNameOf_keyiter ty<|A0 ?_)
  change wpAny _ _ (setField (.C it) 0 .Β >>= _) _ _ s
  apply Ao<|Pf f e (by simp) ?_;apply Ao ?_;apply Ao<|Ke ?_ (by size_fits);apply Ao (m:=firstArgMember _ _) (wpAny_of_eq (a:=Gp) (by first|rfl|(erw[firstArgMember];rfl)) ?_);apply Ke ?_ (by size_fits);apply Ao<|wpAny_handled ?_;rw[show A.in1.ϡ=J from(h<|GX c).1];apply Ao<|A0<|wpAny_throw ?_;apply Ao<|wpAny_isInstance (T:="StopIteration") (b:=J') #[_,Cq _ rfl,rfl] isSubtype_stop ?_;show A0<|(h<|GX c).2 _<|(Heap.ExtBut.Ι (Heap.SameBut.Α<|Nj ..) _).Ι _
def
v6(m:A.ϡ=J)(p:Ac)(f:d≠p):Walks prog w A p [p,d] [p] es.o (λi v=>∃e,es[i]?=Z e/\v=e.key) (λi h=>h.IsKeyIter p d i es.o ep/\EF h d es ep) where
 sub:=λb a=>by simp at a;simp[a]
 frame:=λ_ _ _ st k=>#[st.1.at λo e=>k p (by simp) o e,st.2.at λo e=>k d (by simp) o e];item:=λi s Q E l st c=>RM st.1 st.2 (λ_ g n sb=>c _ g s.Ζ #[es[i],er l,rfl] #[n,st.2.at λo e=>sb.Α _ _ f e] λb o a e=>sb.Α b o (λh=>a (by simp[h])) e) λz=>absurd l<|Kh.mpr z;done:=λs Q E st c=>RM st.1 st.2 (λz=>absurd z<|HZ _) λ_=>#[m,λg j=>c g s.Ζ λb o a e=>j b o (λh=>a (by simp[h])) e];self:=λ_ _ _ _ st c=>wpAny_pyIter_keyiter st.1 c
def
eR(lo:(d==Hn)=O'):KdlSrc prog w "dict" d d es.o (λi v=>∃e,es[i]?=Z e/\v=e.key) (λh=>EF h d es ep) where
 type:=λ_ a=>a.ε;there:=λ_ a=>by let(o,b,_):=a;show#[BB b,BB b]
 keep:=λ_ _ a f=>a.at λo e=>f d (.U rfl) o e;notList:=by ext
 notTuple:=by ext
 hint:=λ_ _ _ _ a c=>kdl_hint_dict a.ε c;iter:=λ_ s g a=>#[_,_,(λ_ _ c=>eP lo a c),v6 g _ (by let(o,b,_):=a;show Ci<|BB b),⟨⟨_,Cq _ rfl,rfl,rfl⟩,a.at λo e=>By _ e⟩]
end
def
Ph{w:Ai}:∀{tr:U T3}{es:U IU},Lr w (tr.j (·.1)) (Eh tr) es->Aq (tr.j λt=>t.2.1) (es.j λe=>e.key):=by
 intro tr;induction tr with
 |nil=>
  intro es zQ;let(_,e):=zQ;subst e;show .Ϧ
 |cons t r b=>
  intro es zQ;let(kv,v,j,e,k,a,c,d,_,_,_,f):=zQ;erw[Eh,Rm]at a;let(g,h,i):=a;subst c g h i;show .Ο d<|b f
section
def
eS{es:Array IU}{æ:Array Aa}(h:ItemsOf (λi v=>∃e,es[i]?=Z e/\v=e.key) æ es.o):æ.J=es.J.j λe=>e.key:=by
 apply LX λi=>?_;cases a:æ[i]? with
 |some v=>
  let(e,b,c):=h.2 i v a;simp_all
 |none=>
  let d:es[i]?=J:=Array.getElem?_eq_none_iff.Ϛ<|h.1 ▸ (show æ.o<=i by grind);grind
def
v7(h:X.Ϸ=J'):EO X (.ε "list") (λxs H Q=>∃a tr,xs=[.C a]/\C3 X.K H a tr/\∀l,H l=J->Q (.C l) (AX H l (.X (tr.j λt=>t.2.1)))):=by
 intro d s B H xs C Q E r zQ;let(a,tr,rfl,hd,q):=zQ;let(u,rfl,i):=FL r;ext i;let(z,j,nd,o,c,e,k,m,n,f):=hd.1.ok E.ϧ;let g:tr.a<=AE:=by exists z
 apply kdl_call (eR (es:=c) (ep:=e) j) (E.ok.hd h) #[o,k,m,n] ((show tr.a=c.o by have:=(Ph f).a;exists this) ▸ g) λp v b x kp y A=>?_;apply#[.C s.r.O.o,_,E.laid (t':=v) kp (A4 _) (show A9 X.Y X.w _ p _ (.X<|tr.map λt=>t.2.1)from#[by simpa using g,b.toList,x,eS A ▸ (Ph f),by exists y]),rfl,q _<|E.hok.fresh<|A4 _]
end
def Mf:U D->Ba
 |[.lst b .d]=>(EU b).j λa=>a.j λp=>kD p.1
 |_=>J
def

VB(é:Bj):Mf [.X (Zb é) .d]=Z (é.j λp=>kD p.1):=by simp[Mf]
variable {K:Ap}{N:Fb}{H:Hp}
def
PD.kden{tr:U T3}(h:PD K N H é tr):Ad K N H (é.j λp=>kD p.1) (tr.j λt=>t.2.1):=by
 induction h with
 |nil=>show Ad.Ϧ
 |cons h _ a=>show Ad.Ο h.2.1 a
open J in
def
v8:QY K (λxs H Q=>∃a tr,xs=[.C a]/\C3 K H a tr/\∀l,H l=J->Q (.C l) (AX H l (.X (tr.j λt=>t.2.1)))) Mf:=by
 intro N H j k xs Q m h e q;unfold Mf at e;split at e
 .next n=>
  let(c,d,e):=B2.mp e;ext e;let(v,rfl,b):=Paired.one' h;rw[HK d]at b;let(p,o,rfl,r,hd):=b;let(tr,f,g):=Kx r hd;show#[p,tr,rfl,f,λl i=>q _ l i g.kden]
 .cases e
end
variable {prog:AN}{w:Ai}{A:Ag}{s:Ab}{T:String}{r d:Ac}{n:I}{P:I->Aa->V'}{OK:Al->V'}
def
v9{Q:U Aa->Ab->V'}(K:KdlSrc prog w T r d n P OK)(t:A.ϡ=J)(hok:OK s.r)(u:n<=AE) (v:∀h' g æ,(∀b o,s.r.R b=Z o->h'.R b=Z o)->ItemsOf P æ n->Q æ.J {s with heap:=h',toks:=g}):wpAny (Af prog w) A (collect (.C r)) Q E s:=by
 let(x,ld):=K.there _ hok;apply Ao<|wpAny_runValue<|Kl F.entry_proto_collect ?_;apply Ao<|Ke ?_;apply A0 ⟨MY F.plain_list_iadd _,Kl F.entry_list_iadd ?_⟩;let i:∀j,(∃h' g æ l,j={s with heap:=h',toks:=g}/\(∀b o,s.r.R b=Z o->h'.R b=Z o)/\h'.R s.r.O.o=Z {cls:=.ε "list",dict:=J,data:=.Ϲ æ l,slots:=(T' [])}/\ItemsOf P æ n)->wpAny (Af prog w) A (match Cp s.r.O.o with
   |Cp a=>do
    match(<- load a).jk with
     |Data.seq y _=>Am y.J
     |_=>unsupported "internal:collect"
   |_=>unsupported "internal:collect") Q E j:=by
  intro j zQ;let(h',g,æ,l,rfl,m,k,p):=zQ;show Ao<|wpAny_load k<|A0<|v h' g æ m p
 apply Cs (kdl_extend (R:=λr j=>r=.ok (.Ϯ<|.ref s.heap.objs.size)/\∃h' g æ l,j={s with heap:=h',toks:=g}/\(∀b o,s.heap.get? b=Z o->h'.get? b=Z o)/\h'.get? s.heap.objs.size=Z {cls:=.type "list",dict:=J,data:=.seq æ l,slots:=(T' [])}/\ItemsOf P æ n) (s:={s with heap:=s.heap.push {cls:=.type "list",data:=.seq ([]:U Aa).toArray} }) K t (K.keep _ _ hok λb _ o e=>By _ e) s.r.O.o (Ia x) (Ia ld) _ 0 (Cq _ rfl) (λh' g æ l m k p=>#[rfl,h',g,æ,l,rfl,λb o e=>m b o (Ci (BB e)) (By _ e),k,p]) u) (λfin j h=>?_) (λe j h=>?_)
 .cases fin with
  |done f=>
   let(e,h):=h;ext e;show i j h
  |again c=>
   apply#[h.1,LH h.2 λr q z=>?_];let(rfl,h):=z;show i q h
 .show nomatch h.1
end
end Internal
namespace Internal
open PySem PySem.Spec PyProof.Rows
def eT:I->(U Aa->V')->V'
 |0,P=>P []
 |n+1,P=>∀a,eT n λl=>P (a::l)
def
eU{n:I}{P:U Aa->V'}(h:eT n P)(us:U Aa)(e:us.a=n):P us:=by
 induction us generalizing n P with
 |nil=>ext e;show h
 |cons a r b=>ext e;show b (h a) rfl
structure DI(K:Ap)(mg:Bt)(nm:Ae)(st:Ay)(ps:List Ae)(a:Ac)(fd:Cm):V' where
 m:mg nm=Z (.C a)
 F:Ih K nm nm st a fd
 b:Binds K fd ps []
def
di{K:Ap}{mg:Bt}{h:Al}{nm:Ae}{st:Ay}{g:U Ae}{j:Aa}{m e:O Ac}{i:Array (O Aa)}{f d pm b ct:Aa}(X:K.In h)(G:h.Ns BZ mg) (A:PySem.W.nsIn K BZ nm=Z (Z (.C a))) (l:K.S a=Z #[j,m,.func (Kb nm nm (Ig st) (ZJ st) (Zg st) .Β f d pm e b ct),i]) (c:PySem.W.codeIn K b nm=J') (k:IY K (.C a)=J') (n:∀(f d pm:Aa) (e:O Ac) (b ct:Aa) (us:U Aa),us.a=g.a->bindArgs (Kb nm nm (Ig st) (ZJ st) (Zg st) .Β f d pm e b ct) #[us,[]]=Am (g.zip us):=by
   exact λ_ _ _ _ _ _=>eU (by(repeat intro _);rfl)):DI K mg nm st g a (Kb nm nm (Ig st) (ZJ st) (Zg st) .Β f d pm e b ct):=#[PySem.W.mg_of X G A,bD l c k,.ϝ<|n f d pm e b ct]
def
KQ{N P:U Ae}{a:Scope}(b:↑(a.ϫ=.h6))(c:↑(a.isCoroutine=O'))(d:↑(a.isGenerator=O'))(e:↥(N.μ:15))(f:↑(N.ϒ P.a=P)) (g:↥(∀x∈P,a.ρ.S x=Z .ϐ\/a.ρ.S x=Z .Υ:15)) (h:↥(∀y∈a.ρ,y.2≠.Ν:15)):Z2 N P a:=#[b,c,d,e,f,g,h]
variable {K:Ap}{M:Fb}{k n:I}{fn:Ac}{fd:Cm}{x nm:Ae}{st:Ay}{F:U Sl->O Rv}{e a b:Expr}{p:Az}{f g:AH}
def
wa(G:AY X.Y X.w X.K X.mg X.σ Bi k fn fd ps (A6 K F))(a:AJ n X.A)(D:DI X.K X.mg x st ps fn fd)(c:JA X (e::es) (C7 K M H0 fa))(d:⇑(k<=n))(f:↑(Gl X x))(hz:↥(CA X x e es pos:9)):JE X (.Φ (.γ x p) (e::es) [] pos) (tD K M H0 (Zh F fa)):=rO G (a.ν d) f D.m D.F.kp D.b (E:=E0) Jc c hz
def
wb(G:AY X.Y X.w X.K X.mg X.σ Bi k fn fd ps (A6 K F))(a:AJ n X.A)(D:DI X.K X.mg x st ps fn fd)(c:JA X (e::es) (C7 K M H0 fa))(d:⇑(k<=n))(f:↑(Gl X x))(hz:↥(CA X x e es pos:9)):JE X (.Φ (.γ x p) (e::es) [] pos) (tF K M H0 (Ef F fa)):=rP G (a.ν d) f D.m D.F.kp D.b (E:=E0) Jc c hz
def
wc(i:I){y:Ae}{p vp:Az}(a:X.mg "len"=J)(b:↥(NV X i y:8))(c:↑(Gl X "len"))(hz:↥(CA X "len" (.γ y vp) [] pos:9)):JE X (.Φ (.γ "len" p) [.γ y vp] [] pos) (tD X.K M H0 (Zn Zv λρ=>Zl (CH ρ i) (Z []))):=HC aS cH c a rfl (QX (U2 i b) UK) (hz:=hz)
def
wd(i:I){y t:Ae}{n:String}{p vp b:Az}(c:X.mg "isinstance"=J)(d:X.mg t=J)(e:↑(Em t=Z (.ε n)))(f:⇑(t≠"__name__"))(hd:⇑(CT t))(g:↥(NV X i y:8))(h:↑(Gl X "isinstance"))(a:↑(Gl X t))(hz:↥(CA X "isinstance" (.γ y vp) [.γ t b] pos:9)):JE X (.Φ (.γ "isinstance" p) [.γ y vp,.γ t b] [] pos) (tD X.K M H0 (Zn Dc λρ=>Zl (CH ρ i) (Zl (C1 (Z (.ty n))) (Z [])))):=HC cX cY h c rfl (QX (U2 i g)<|QX (bT<|U1 a d e f hd) UK) (hz:=hz)
def
we {i j pos}:JE X (.Ϟ (.u i) j pos) (tP K M H0 λ_=>Z (.u i)):=bP bQ
def
wf(c:JE X a (tP X.K M H0 f))(d:JE X b (tP X.K M H0 g))(e:↥(On b:14)):JE X (.ψ a b pos) (tD X.K M H0 (Za Ar f g)):=sZ c d e
def
wg(i:I){x:Ae}(a:X.N.μ)(b:↑(X.N[i]?=Z x))(c:↥(Loc X.G.Δ x:3))(d:↥(X.fn x=J'\/X.G.Δ.ρ.S x=Z .ϐ:4)):JG X (.γ x pos) (tG K M H0 [i] (Zd i)):=se a b c d
def
wj(i:I){x:Ae}{a:Az}(b:X.N.μ)(c:JE X e (tD K M H0 f))(d:↑(X.N[i]?=Z x))(g:↥(Loc X.G.Δ x:5))(h:↑(DR e (Z (.Name x a)) pos.line X.env=Am O')) (j:↥(X.fn x=J'\/X.env.scope.names.lookup x=Z .local:6)):JS X (.Assign [.Name x a] e pos) (tS K M H0 λρ=>ZB i (f ρ) ρ):=rZ b d g c h j
def
wk{P:AN}{w:Ai}{mg:Bt}{base:Al}{N:U Ae}{g c:Av}(D:DI K mg nm st ps fn fd)(S:Z2 N ps (Zg st)) (d:∀(a:Aa) (A:Ag) (outer:U Env) (s:Ab) (H:Hp) (E:XK) (M:Fb) (H0:Hp),AJ k (A.ϖ (A7 nm (Zg st) s.r.O.o fn a))->JB (CV Bi P w K mg base N nm (Zg st) fn a A outer s H E).nox (ZJ st) (tS K M H0 c)) (e:↑(c=g)) (b:⇑(ps.a<=N.a)):AY P w K mg base Bi (k+1) fn fd ps (A6 K (AT ps.a N.a g)):=ce D.F S b<|e ▸ d
end
open PySem.W
abbrev ME(X:Cx)(o:Expr)(m:Ae)(es:U Expr)(pl:BI q')(a pos:Az):V':=As (.Φ (.η o m a) es [] pos) X.G=(do
 let c <- As o X.G
 standAt a.atName
 let(f,b) <- EN [c] (getMethod c m pl)
 callWith pos f b (AF pos (AQ es X.G)) (Hs pos (Ht [] X.G)))
def
KR{K:Ap}{c:Ae}(h:BF K BZ c=Z (Z (.C C))):QU K c=C:=by unfold QU;rw[h]
@[simp]def CJ(c f:Ae):D->O D
  |.lst a (.i ns b)=>if b=c then(ns.zip a).S f else J
  |_=>J
variable {K:Ap}{N:Fb}{H:Hp}
def
eV{f:Ae}{d:D}:∀{ns:U Ae}{xs:U D}{vs:U V},Ad K N H xs vs->(ns.zip xs).S f=Z d->∃v,(ns.zip vs).S f=Z v/\AB K N H d v
 |[],_,_,_,e=>by simp at e
 |_::_,[],_,_,e=>by simp at e
 |n::ns,x::xs,vs,h,e=>by
  let(v,r,rfl,q,t):=h;erw[LO,List.lookup_cons]at e ⊢;cases a:f==n with
  |true=>rw[a]at e;ext e;show#[v,rfl,q]
  |false=>rw[a]at e;show eV t e
def
Pj{m:Ae}:∀{ns:U Ae}{vs:U V},ns.Μ m=O'->(ns.zip vs).S m=J
 |[],_,_=>by simp
 |_::_,[],_=>by simp
 |n::ns,v::vs,h=>by
  erw[List.contains_cons,Bool.or_eq_false_iff]at h;erw[LO,List.lookup_cons,h.1];show Pj h.2
@[simp]def Es(c m:Ae):Sl->q'
  |.val (.lst _ (.i ns a))=>decide (a=c)&&!ns.contains m
  |.lent _ (.i ns a)=>decide (a=c)&&!ns.contains m
  |_=>O'
def
wl{c m:Ae}{s:Sl}{v:V}(h:Es c m s=J')(b:CW K N H s v):∃a d fs,v=.C a/\Rd H a (.ins (QU K c) d fs)/\fs.S m=J:=by
 unfold Es at h;split at h
 .erw[C9,decide_eq_true_eq,Pg]at h;let(rfl,h):=h;let(a,f,e,q,_):=b;rcases q with⟨_,q⟩|⟨g,z,_⟩
  .show#[a,_,_,e,q,Pj h]
  .cases z
 .erw[C9,decide_eq_true_eq,Pg]at h;let(rfl,h):=h;let(a,f,e,_,q,_):=b;show#[a,_,_,e,q,Pj h]
 .cases h
def
wm{r:Rv}{v:V}(c:∀a,N a->H a≠J)(h:Ox K N H H' r v):AB K N H' (Cw r) v:=by
 cases r with|val d=>show h|own l m=>
  let(a,f,e,g,i,j):=h;show#[a,f,e,.of (λn=>c a n g) i,j.nw λb k=>.U<|.U k]
end
@[simp]def Ek(c m:Ae)(F:U Sl->O Rv)(o:O Sl)(a:O (U Sl)):O Rv:=o.L λs=>if Es c m s=J' then a.L λb=>F (s::b)else J
variable {K:Ap}{M:Fb}{e:Expr}{f go:AH}{F:U Sl->O Rv}{k:I}{fn:Ac}{fd:Cm}{c m:Ae}{E:XK}
def
wn{f:Ae}(j:BF X.K BZ c=Z (Z (.C C)))(k:E4 X.K C)(l:BK X.K C f)(m:JE X o (tP X.K M H0 go))(n:↑(Hr o f X.G (As o X.G)=As o X.G)):JE X (.η o f pos) (tD X.K M H0 λρ=>(go ρ).L (CJ c f)):=#[(aV m.h n).ν λB H Q p=>by
   let(ρ,d,R,e,q):=p;let(E,t,b):=B8.mp e;unfold CJ at b;split at b
   .split at b
    .next g=>
     subst g;apply#[ρ,_,R,t,λv w s x=>?_];let(a,G,y,i,r):=x;let(u,z,A):=eV r b;erw[CO,KR j]at i;show#[a,C,_,_,u,y,i,k,l,z,q u w s A]
    .cases b
   .cases b]
def
wp(j:BF K BZ c=Z (Z (.C C))){r:Rv}{H:Hp}{Q:VK}(R:Bw K M H0 ρ Y' H)(e:Ek c m F (fo ρ) (fa ρ)=Z r)(q:∀v b H',Ak H b->Ak b H'->Ox K (Nf M ρ Y') b H' r v->Q v H'):LF C m (A6 K F) [] E (GZ K M H0 fo) (C7 K M H0 fa) Y' H Q:=by
 let(s,k,e):=B8.mp e;let(l,e):=ZV e;let(g,n,o):=B8.mp e;apply#[ρ,s,R,k,λv b d h=>?_];let(a,p,t,u,i,x):=wl l h;rw[KR j]at i;show#[a,p,t,u,i,x,ρ,g,R.st d,n,λy z f A=>#[Nf M ρ Y',s::g,r,((R.st d).st f).nh,#[v,y++[],rfl,h.δ f,by rw[C6];show A],o,λw B G L=>q w z B (d.I f) G L]]
def
wq{H:Hp}{Q:U V->Hp->V'}(h:C7 K M H0 (λ_=>Z []) Y' H Q):Ol Y' H Q:=by
 let(a,b,R,e,q):=h;ext e;show q [] H (Ak.χ H) rfl
def
wr{sp:Sp}{H:Hp}{Q:VK}(h:LF C m sp [] E (GZ K M H0 fo) (C7 K M H0 λ_=>Z []) Y' H Q):LF C m sp [] E (GZ K M H0 fo) Ol Y' H Q:=by
 let(b,d,R,e,q):=h;apply#[b,d,R,e,λv c s f=>?_];let(a,g,i,j,k,l,t):=q v c s f;show#[a,g,i,j,k,l,wq t]
def
eW(b:BF K BZ c=Z (Z (.C C))){H:Hp}{Q:VK}(h:tD K M H0 (λρ=>(Ek c m F (fo ρ) (fa ρ)).j Cw) Y' H Q):LF C m (A6 K F) [] E (GZ K M H0 fo) (C7 K M H0 fa) Y' H Q:=by
 let(ρ,d,R,e,q):=h;let(r,f,rfl):=B2.mp e;show wp b R f λv j g a i h=>q v g (a.I i)<|wm (R.st a).nh h
section
variable(hC:BF X.K BZ c=Z (Z (.C C)))(cl:E4 X.K C)(hm:J8 X.K C m fn)(G:AY X.Y X.w X.K X.mg X.σ CX k fn fd ps (A6 X.K F))(hr:AJ k X.A)(hb:Binds X.K fd ps [])(hx:FN CX X E)(ho:JE X o (GZ X.K M H0 fo))
include hC cl hm G hr hb hx ho
def
wt(d:JA X (e::es) (C7 X.K M H0 fa)) (a:↥(AQ (e::es) X.G=(O',As e X.G)::AQ es X.G:12)) (b:↑((AF pos (AQ es X.G)).any (·.1)=O')) (f:↑(ME X o m (e::es) pl å pos)):JE X (.Φ (.η o m å) (e::es) [] pos) (tD X.K M H0 λρ=>(Ek c m F (fo ρ) (fa ρ)).j Cw):=#[(aY ho.h cl hm G hr hb .Ϧ hx d.h a b f).ν λ_ _ _ h=>eW hC h]
def
wu (a:↑(ME X o m [] pl å pos)):JE X (.Φ (.η o m å) [] [] pos) (tD X.K M H0 λρ=>(Ek c m F (fo ρ) (Z [])).j Cw):=#[(aZ ho.h cl hm G hr hb .Ϧ hx a).ν λ_ _ _ h=>wr<|eW hC h]
end
end
def wv(H:Hp)(x:Ac):Hp:=λb=>if b=x then J else H b
structure ww(K:Ap)(N:Fb)(a:Ac)(H H':Hp)(ys:List D)(b:Kd)(d:D)(v:V):V' where
 sm:Ak (wv H a) H'
 at_:∃ws,H' a=Z (CO K b a ys ws)/\Ad K N H' ys ws
 de:AB K N H' d v
abbrev RB:=U D×Kd×D
def eX(K:Ap)(N:Fb)(a:Ac)(H:Hp):Sl->V->V'
 |.val d,v=>AB K N H d v
 |.lent e b,v=>∃c f,v=.C c/\(N c/\c≠a)/\Rd H c (CO K b c e f)/\Ad K N H e f
 |_,_=>False
def wx(K:Ap)(F:U Sl->Sl->U Sl->O RB):Sp:=λk H Q _=>∃N a g h d e f b i r,k=d++.C a::e/\(∀c,N c->H c≠J)/\N a/\H a=Z (CO K b a f i)/\Ad K N H f i/\Paired (eX K N a H) g d/\Paired (eX K N a H) h e /\
 F g (.τ f b (Z a)) h=Z r/\∀v j,ww K N a H j r.1 r.2.1 r.2.2 v->Q v j
variable {b:Kd}
def
IB{a b:Type}{F:a->b->V'}{l:U a}{m:U b}(h:Paired F l m):l.a=m.a:=h.a
def
eY{a b:Type}{F:a->b->V'}{x:a}:∀{l:U a}{m:U b}{i:I},Paired F l m->l[i]?=Z x->∃y,m[i]?=Z y/\F x y
 |_,_,0,.cons h _,e=>by ext e;show#[_,rfl,h]
 |_,_,i+1,.cons _ t,e=>by exists eY (i:=i) t (by exists e)
end
variable {K:Ap}{F:U Sl->Sl->U Sl->O RB}{n:I}{fn:Ac}{fd:Cm}{c m:Ae}{E:XK}
section
variable(hC:BF X.K BZ c=Z (Z (.C C)))(cl:E4 X.K C)(hm:J8 X.K C m fn)(G:AY X.Y X.w X.K X.mg X.σ CX n fn fd ps (wx X.K F))(hr:AJ n X.A)(hb:Binds X.K fd ps [])(hx:FN CX X E)
include hC cl hm G hr hb hx
end
end
@[simp]def putN(f:Ae):U Ae->U Ae
  |[]=>[f]
  |n::ns=>if n=f then n::ns else n::putN f ns
@[simp]def D4{a:Type}(f:Ae)(y:a):U Ae->U a->U a
  |n::ns,x::b=>if n=f then y::b else x::D4 f y ns b
  |_,_=>[y]
def
eZ{f:Ae}{y:V}:∀{ns:U Ae}{vs:U V},ns.a=vs.a->Fh f y (ns.zip vs)=(putN f ns).zip (D4 f y ns vs)
 |[],[],_=>rfl
 |n::ns,v::vs,h=>by
  erw[LO,Fh,putN,D4];by_cases e:n=f
  .rw[if_pos e,if_pos e,if_pos e];rfl
  .rw[if_neg e,if_neg e,if_neg e,eZ (by exists h)];rfl
open AutoSeq1 (wpAny_loadPart')
open PySem.MeetsSeq in
def
wy(l:Ac)(items:Array Aa)(n:I)(x:Aa)(e:Aa->q')(j:I)(q:j<items.o)(v:e items[j]=J')(f:items.o<=AE)(k:I):∀i:I,j-i=k->i<=j->(∀m (r:m<items.o),i<=m->m<j->e items[m]=O')->Meets (Fl.«list.remove.loop» #[[.C l,x,AO i],[]]) (λA R s=>s.r.R l=Z {cls:=.ε "list",dict:=J,data:=.Ϲ items n,slots:=(T' [])}/\(∀y,y∈items->SeqAt.EqAt A.in1 s y x (e y))/\R (.ok (.Ϯ .Β)) {s with heap:=s.r.ϰ l (F6 λxs=>xs.ϓ j)}):=by
 induction k with
 |zero=>
  intro i z p a prog w A R s h;let(B,g,d,C,os):=s;let(c,o,h):=h;let E:i=j:=∅
  subst E;wp_walk using E7 c;rw[show items[((i:I):W').ζ]?=Z items[i] by simp[q]];apply Ao<|o _ (Array.getElem_mem q) prog w _ _ ?_;let t:(items.ϓ i).o<=AE+1:=Bu (size_erased items _)<|KH f;wp_walk using(wpAny_updateSeq c rfl (hz:=f) (_hz':=t)),E7 c;exists h
 |succ k G=>
  intro i z p a prog w A R s h;let(B,g,d,C,os):=s;let(c,o,h):=h;let b:i<items.o:=∅
  wp_walk using E7 c;rw[show items[((i:I):W').ζ]?=Z items[i] by simp[b]];apply Ao<|o _ (Array.getElem_mem b) prog w _ _ ?_;rw[a i b (A4 _) ∅];wp_walk;show⟨MY plain_remove_loop _,Kl entry_remove_loop (by
   show G (i+1) ∅ ∅ (λm r u H=>a m r ∅ H) prog w A R _ ⟨c,o,h⟩)⟩
open PySem.MeetsSeq in
def
wz(l:Ac)(items:Array Aa)(n:I)(x:Aa)(e:Aa->q')(j:I)(k:j<items.o)(a:e items[j]=J')(b:∀m (f:m<items.o),m<j->e items[m]=O')(c:items.o<=AE):Meets (Fl.«list.remove» #[[.C l,x],[]]) (λA R s=>s.r.R l=Z {cls:=.ε "list",dict:=J,data:=.Ϲ items n,slots:=(T' [])}/\(∀y,y∈items->SeqAt.EqAt A.in1 s y x (e y))/\R (.ok (.Ϯ .Β)) {s with heap:=s.r.ϰ l (F6 λxs=>xs.ϓ j)}):=by
 intro prog w A R s h;let(q,g,d,r,os):=s;let(i,o,h):=h;wp_walk using E7 i;show#[MY plain_remove_loop _,Kl entry_remove_loop (by
  show wy l items n x e j k a c _ 0 rfl (Fi _) (λm f _ p=>b m f p) prog w A R _ #[i,o,h])]
def wA(K:Ap):V->U V->Hp->VK->V':=λx c H Q=>∃l a y N d b j,x=.C l/\c=[y]/\H l=Z (.X a)/\Ad K N H b a/\AC K N H d y/\AL ZS d=J'/\b.ϝ (AL ZS)=J'/\b.findIdx? (λz=>Bc z d)=Z j/\Q .Ε (AX H l (.X (a.ϛ j)))
variable {K:Ap}{M:Fb}{e:Expr}{f:AH}{i:I}{x:Ae}
def
e8(hu:X.A.κ+64<Aw):Uy X "list.remove" (wA X.K):=by
 intro G s Y' H x vs v us Q S P T zQ;let(l,R,y,N,d,M,j,rfl,rfl,L,hd,Y,od,c,hj,q):=zQ
 ext P
 let(u,rfl,ru):=T.one
 let(z,a,n,r,hl,e):=S.lstM L
 let(h,i,k):=List.findIdx?_eq_some_iff_getElem.mp hj
 let hln:=hd.a
 let f:∀m (o:m<a.E.o) (b:m<M.a),Gy X.K N H d a.E[m]=Bc M[m] d:=λm o b=>by
  let(w,t,dw):=hd.ό (CG b)
  let(w',B,C):=r.ό t
  have:a.E[m]=w':=by
   rw[List.getElem_toArray];show(Dk.mp B).2
  rw[this]
  show UR S dw.p C (Dp.mp c _ (HE b))
 let g:j<a.E.o:=by rw[B3];lia
 apply BW F.slot_list_remove #[_,e,rfl] F.entry_list_remove (F.args_list_remove_2 _ _)
  (wz l a.E n u (Gy X.K N H d) j g (f j g h ▸ i) (λm o E=>by rw[f m o ∅];exists k m E) (by rw[B3];lia)) #[e,λw t=>UT S (show X.A.in1.κ+ZS<Aw by rw[OP];unfold ZS;lia) od Y ru hd r c w (by exists t),?_]
 apply#[.Ε,_,S.lset (ð:=a.ϛ j) L e ?_ (r.ϛ j) ?_,rfl,q]
 .change a.E.ϓ j=(a.ϛ j).E
  rw[List.eraseIdxIfInBounds_toArray]
 .have:=bA R j
  lia
def
Ad.erase{N:Fb}{H:Hp}(h:Ad K N H xs vs)(j:I):Ad K N H (xs.ϛ j) (vs.ϛ j):=by
 rw[List.eraseIdx_eq_take_drop_succ,List.eraseIdx_eq_take_drop_succ];show(h.ϒ j).Η<|h.Θ<|j+1
end
end Internal
namespace Internal
open PySem PySem.Spec PyProof.Rows PySem.W
section
open J in
end
end Internal
namespace Internal
open PySem PySem.Spec PyProof.Rows
def DL(a:Ac)(o:Obj)(u:HO)(H:Hp):Hp:=λb=>@ite _ (b=a/\H b=Z u) (Q5 _) (Z (.frz o u)) (H b)
def Mg(a:Ac)(o:Obj)(u:HO)(H:Hp):Hp:=λb=>@ite _ (b=a/\H b=Z (.frz o u)) (Q5 _) (Z u) (H b)
variable {o:Obj}{u:HO}{H:Hp}{b:Ac}{v:HO}
def
Mh(h:H a=Z u):DL a o u H a=Z (.frz o u):=if_pos #[rfl,h]
def
IC(h:¬ (b=a/\H b=Z u)):DL a o u H b=H b:=if_neg h
def
VC(h:H a=Z (.frz o u)):Mg a o u H a=Z u:=if_pos #[rfl,h]
def
RO(h:¬ (b=a/\H b=Z (.frz o u))):Mg a o u H b=H b:=if_neg h
def
DY:DL a o u H b=J↔H b=J:=by grind [Mh,IC]
def
e9(h:H b=Z v)(c:GY v=O')(d:GY u=J'):DL a o u H b=Z v:=by grind [IC]
def
fg(h:H b=Z v)(c:∀o u,v≠.frz o u):Mg a o u H b=Z v:=by grind [RO]
def
Rd.fz(c:GY u=J')(h:Rd H b v):Rd (DL a o u H) b v:=by
 rcases h with h|⟨d,h⟩
 .by_cases z:b=a/\H b=Z u
  .let(rfl,z):=z;rw[h]at z;ext z;show .φ #[o,Mh h]
  .show .U<|IC z ▸ h
 .show .φ #[d,e9 h rfl c]
def
Rd.ufz(c:∀o u,v≠.frz o u)(h:Rd H b v):Rd (Mg a o u H) b v:=by
 rcases h with h|⟨d,h⟩
 .show .U<|fg h c
 .by_cases z:b=a/\H b=Z (.frz o u)
  .let(rfl,z):=z;rw[h]at z;ext z;show .U<|VC h
  .show .φ #[d,RO z ▸ h]
def
Ak.fz(f:GY u=J')(s:Ak H0 H)(b:∀w,H0 a=Z w->H a=Z u->w=u):Ak (DL a o u H0) (DL a o u H):=by
 intro c w e;by_cases z:c=a/\H0 c=Z u
 .let(rfl,z):=z;rw[Mh z]at e;ext e;show Mh<|s _ _ z
 .rw[IC z]at e;rw[IC]
  .show(s _ _ e)
  .intro zQ;let(rfl,d):=zQ;show z ⟨rfl,by rw[e,b w e d]⟩
end
mutual
theorem AB.rd{K:Ap}{N:Fb}{H H':Hp}(k:∀b v,(∀o u,v≠HO.frz o u)->Rd H b v->Rd H' b v):∀(d:D)(v:V),AB K N H d v->AB K N H' d v
 |.non,_,h=>h
 |.bl _,_,h=>h
 |.int _,_,h=>h
 |.str _,_,h=>h
 |.ty _,_,h=>h
 |.tup f,v,h=>by
  erw[AB]at h ⊢
  let(a,c,e,q,r):=h
  apply#[a,c,e,?_,Ad.rd k f c r]
  rcases q with q|q
  .show .U (k _ _ (λ_ _ z=>nomatch z) q)
  .show .φ q
 |.lst f g,v,h=>by
  erw[AB]at h ⊢
  let(a,c,e,q,r):=h
  apply#[a,c,e,?_,Ad.rd k f c r]
  rcases q with⟨n,q⟩|q
  .show .U #[n,k _ _ (λ_ _ z=>by ext g<;>ext z) q]
  .show .φ q
theorem Ad.rd{K:Ap}{N:Fb}{H H':Hp}(k:∀b v,(∀o u,v≠HO.frz o u)->Rd H b v->Rd H' b v):∀(xs:U D)(vs:U V),Ad K N H xs vs->Ad K N H' xs vs
 |[],_,h=>h
 |x::xs,vs,h=>by
  erw[Ad]at h ⊢
  let(v,r,e,q,t):=h
  show#[v,r,e,AB.rd k x v q,Ad.rd k xs r t]
end
def
fh(K:Ap)(b:Kd)(a:Ac)(xs:U D)(vs:U V):∀o u,CO K b a xs vs≠HO.frz o u:=λ_ _ z=>by ext b<;>ext z
variable {K:Ap}{M:Fb}{o:Obj}{u:HO}{H:Hp}
def
Bw.fz(m:GY u=J')(R:Bw K M H0 ρ Y' H)(t:H a=Z u)(y:∀(i:I)(xs:U D)(b:Kd)(r:O Ac),ρ[i]?=Z (Sl.τ xs b r)->Y'[i]?≠Z (Z (V.C a))):Bw K M (DL a o u H0) ρ Y' (DL a o u H) where
 len:=R.϶;same:=R.δ.fz m λw e _=>by have:=R.δ _ _ e;rw[t]at this;ext this;rfl
 mh:=λc h z=>R.mh c h<|DY.mp z;slot:=λi s e=>by
  let q:=R.Ϡ i s e;let l:∀b v,(∀o u,v≠HO.frz o u)->Rd H b v->Rd (DL a o u H) b v:=λb v _ h=>Rd.fz m h;cases s with
  |no=>trivial
  |val d=>let(v,e,h):=q;show#[v,e,AB.rd l d v h]
  |own xs A r=>
   let(c,g,j,f,k,n,p):=q;apply#[c,g,j,#[DY.Ϛ f.1,f.2],k,?_,Ad.rd l xs g p];rw[IC,n];grind
  |lent xs A=>let(c,g,j,(f,k),n,p):=q;show#[c,g,j,#[f,λz=>k<|DY.mp z],l _ _ (fh _ _ _ _ _) n,Ad.rd l xs g p]
  |exc c=>let(x,C,j,f,k):=q;show#[x,C,j,f,e9 k rfl m]
 inj:=R.inj
end
variable {H:Hp}{s:Ab}{o:Obj}{u:HO}
def
Cu.swap{P:AN}{w:Ai}{h:Al}{H:Hp}{u f:HO}(x:Cu P w H h)(g:H a=Z u)(j:∀y,u≠.τ y)(k:∀xs,u≠.Q xs)(ne:∀b,b≠a->H' b=H b)(d:H' a=Z f)(new:A9 P w H' h a f):Cu P w H' h:=λb v e=>by
 by_cases i:b=a
 .subst i;rw[d]at e;ext e;show new
 .rw[ne b i]at e;refine(x b v e).stay (λc v _ q=>q) (λc q=>?_) λc xs q=>?_
  .rw[ne c λz=>by rw[z,g]at q;ext q;show j _ rfl];show q
  .rw[ne c λz=>by rw[z,g]at q;ext q;show k _ rfl];show q
def
VD(a:GY u=J'):(∀y,u≠.τ y)/\(∀xs,u≠.Q xs)/\(∀o v,u≠.frz o v)/\∀b,u≠.tbl b:=by
 apply#[λ_ z=>?_,λ_ z=>?_,λ_ _ z=>?_,λ_ z=>?_]<;>rw[z]at a<;>ext a
def
Inv.plain(h:Inv X ß Y' H s)(b:H a=Z u)(d:GY u=J'):(∀xs,X.H₀ a≠Z (.Q xs))/\(∀o v,X.H₀ a≠Z (.frz o v))/\∀c,X.H₀ a≠Z (.tbl c):=by
 let(_,e,f,g):=VD d;apply#[λxs z=>?_,λo v z=>?_,λc z=>?_]
 .have:=h.σ.tups a xs z;rw[b]at this;ext this;show e _ rfl
 .have:=h.σ.frzs a o v z;rw[b]at this;ext this;show f _ _ rfl
 .let(_,this):=h.σ.tbls a c z;rw[b]at this;ext this;show g _ rfl
def
Inv.swap{u i:HO}(r:Inv X ß Y' H s)(d:H a=Z u)(j:∀y,u≠.τ y)(k:∀xs,u≠.Q xs)(pl:(∀xs,X.H₀ a≠Z (.Q xs))/\(∀o v,X.H₀ a≠Z (.frz o v))/\∀f,X.H₀ a≠Z (.tbl f))(ne:∀b,b≠a->H' b=H b)(g:H' a=Z i)(new:A9 X.Y X.w H' s.r a i):Inv X ß Y' H' s where
 ok:=r.ok;os:=r.os;bare:=r.bare;base:=#[r.σ.keep,r.σ.Ϡ,λb o e n l=>by
   have:=r.σ.Ν b o e n l;rw[ne b λz=>by rw[z,d]at this;cases this];show this,r.σ.there,
  λb xs e=>by rw[ne b λz=>pl.1 xs<|z ▸ e];show r.base.tups b xs e,λb o v e=>by rw[ne b λz=>pl.2.1 o v<|z ▸ e];show r.base.frzs b o v e,λb f e=>by rw[ne b λz=>pl.2.2 f<|z ▸ e];show r.σ.tbls b f e]
 loc:=r.loc;cell:=r.Υ;free:=by rw[ne _ λz=>by have:=r.Ν;rw[z,d]at this;cases this];show r.Ν
 freeC:=λx c e=>by
  have:=r.freeC x c e;rw[ne c λz=>by rw[z,d]at this;cases this];show this
 pin:=λp m=>by
  let(p1,h,q):=r.pin p m;show#[p1,by rw[ne _ λz=>by rw[z,d]at h;cases h];show h,q]
 hok:=r.ϧ.swap d j k ne g new;len:=r.϶
def
Inv.fz(e:GY u=J')(m:Inv X ß Y' H s)(d:H a=Z u)(h:s.r.R a=Z o):Inv X ß Y' (DL a o u H) s:=by
 let(f,g,j,k):=VD e;let ne:∀b,b≠a->DL a o u H b=H b:=λb i=>IC λz=>i z.1;apply m.swap d f g (m.plain d e) ne (Mh d) #[h,(m.ϧ a u d).stay (λ_ _ _ q=>q) (λc q=>?_) λc l q=>?_]
 .rw[ne c λz=>by rw[z,d]at q;ext q;show f _ rfl];show q
 .rw[ne c λz=>by rw[z,d]at q;ext q;show g _ rfl];show q
def
Inv.ufz(g:Inv X ß Y' H s)(d:H a=Z (.frz o u))(pl:(∀xs,X.H₀ a≠Z (.Q xs))/\(∀o v,X.H₀ a≠Z (.frz o v))/\∀e,X.H₀ a≠Z (.tbl e)):Inv X ß Y' (Mg a o u H) s:=by
 let ne:∀b,b≠a->Mg a o u H b=H b:=λb f=>RO λz=>f z.1;apply g.swap d (λ_ z=>nomatch z) (λ_ z=>nomatch z) pl ne (VC d) ((g.ϧ a _ d).2.stay (λ_ _ _ q=>q) (λc q=>?_) λc xs q=>?_)
 .rw[ne c λz=>by rw[z,d]at q;cases q];show q
 .rw[ne c λz=>by rw[z,d]at q;cases q];show q
end
open PySem.W
def RP(a:Ac)(o:Obj)(u:HO)(b:U V):It:=#[λi H=>H a=Z (.frz o u)/\i<b.a,λi H x c=>c=H/\b[i]?=Z x,λi H=>H a=Z (.frz o u)/\b.a<=i]
def
wC{P:AN}{w:Ai}{K:Ap}{B:Expr}{it:Ac}{o:Obj}{u:HO}{es:Array IU}{ep:I}{p:U V}(r:o.ExactDict)(t:o.jk=.dict es ep)(v:Aq p (es.J.j λe=>e.key)):Ib P w K B (RP a o u p) [it] it (λi h=>h.IsKeyIter it a i es.o ep):=by
 apply Od (n:="dict_keyiterator") (by ext) (λi h st=>?_) (λi h g st k=>st.at k) (λX i x s N H E Q R C S st=>?_) λ_ _ _ _ _ st h=>wpAny_pyIter_keyiter st h
 .let(o,e,c,d):=st;show#[o,_,e,c,d]
 .let f:=v.a;simp at f;constructor<;>intro y q
  .let(j,l):=y;let(k,G,F):=v.ό<|CG l;let A:i<es.o:=∅
   show RM st #[o,(S.ϧ a _ j).1,r,t] (λ_ g m sb=>q _ _ g s.Ζ m (λb o L e=>(sb.2 b L).I e) (by rw[show es[i].key=k by simpa[A]using G];show F) #[rfl,CG l]) λz=>absurd A<|Kh.Ϛ z
  .let(j,l):=y;show RM st #[o,(S.ϧ a _ j).1,r,t] (λz=>absurd z ∅) λ_=>#[C,λg M=>q g s.Ζ M]
abbrev Et(tr:U T3):HO:=.dct (tr.j (·.1)) (Eh tr)
variable {l:Expr}
def fj(K:Ap)(tl:TE):TI:=λc H R=>tl c H λx b=>∃a tr,x=.C a/\C3 K b a tr/\∀o,(DL a o (Et tr) b) a=Z (.frz o (Et tr))->R (RP a o (Et tr) (tr.j λt=>t.2.1)) (DL a o (Et tr) b)
def
fm{tl:TE}(r:PE X l tl):PI X tg l (fj X.K tl):=by
 intro c s m H R L h;apply A8 (r c s m H _ L h) λv f t=>?_;let(x,g,i,u,a,tr,e,hd,q):=t;subst e;ext u;let(z,w,nd,o,E,G,j,n,p,A):=hd.1.ok i.ϧ;obtain⟨k,B⟩:Inv X c m (DL a o (Et tr) g) f/\(DL a o (Et tr) g) a=Z (.frz o<|Et tr):=by
  rcases hd.1 with d|⟨F,d⟩
  .show#[i.fz rfl d j,Mh d]
  .have:=(i.ϧ a _ d).1;rw[j]at this;ext this;have:DL a o (Et tr) g=g:=funext λb=>IC (by rintro⟨rfl,y⟩;rw[d]at y;ext y);rw[this];show⟨i,d⟩
 apply eP w #[o,j,n,p] ?_;apply#[f.r.O.o,[f.r.O.o],_,_,_,rfl,k.ϲ (t':=f.Ζ) λb o e=>By _ e,wC n p<|Ph A,⟨_,Cq _ rfl,rfl,rfl⟩,λb C=>?_,q o B];let e:b=f.r.O.o:=by exists C
 subst e;show k.fpOk (A4 _)<|k.ϧ.Τ<|A4 _
end
def Cv(X:Cx)(Q:Hp->V')(H':Hp):V':=Q H'\/∃a o u,((∀b,X.H₀ a≠Z (.Q b))/\(∀o v,X.H₀ a≠Z (.frz o v))/\∀c,X.H₀ a≠Z (.tbl c))/\H' a=Z (.frz o u)/\Q (Mg a o u H')
def Ends.cv(X:Cx)(D:Ends):Ends:={nx:=λa=>Cv X (D.nx a),rt:=λv=>Cv X (D.rt v),bk:=λa=>Cv X (D.bk a),ct:=λa=>Cv X (D.ct a)}
def
SP.cv{c:A1}{D:Ends}{f:Flow}{s:Ab}(h:SP X c (D.cv X) f s):SP X c D f s:=by
 let k:∀{j:St} {H:Hp} {Q:Hp->V'},Inv X c j H s->Cv X Q H->∃i,Inv X c j i s/\Q i:=λn q=>by
  rcases q with q|⟨a,o,u,l,m,q⟩
  .show#[_,n,q]
  .show#[_,n.ufz m l,q]
 cases f with
 |next=>let(b,i,n,q):=h;let(d,e,g):=k n q;show#[b,d,e,g]
 |brk=>let(b,i,n,q):=h;let(d,e,g):=k n q;show#[b,d,e,g]
 |cont=>let(b,i,n,q):=h;let(d,e,g):=k n q;show#[b,d,e,g]
 |ret u=>let(v,b,i,n,r,q):=h;let(d,e,g):=k n q;show#[v,b,d,e,r,g]
def GI(d:D):Ba:=match d with
 |.lst b .d=>(EU b).j λa=>a.j λp=>kD p.1
 |_=>J
def
AB.at_any{K:Ap}{N b:Fb}{H:Hp}{a:At}{v:V}(h:AB K N H (aD a) v):AB K b H (aD a) v:=by ext a<;>show h
def
Ad.at_any{K:Ap}{N b:Fb}{H:Hp}:∀{l:U At}{vs:U V},Ad K N H (l.j aD) vs->Ad K b H (l.j aD) vs
 |[],_,h=>h
 |a::l,vs,h=>by
  let(v,r,e,q,t):=h;show#[v,r,e,q.at_any,Ad.at_any t]
def
AB.key_any{K:Ap}{N b:Fb}{H:Hp}{k:KT}{v:V}(h:AB K N H (kD k) v):AB K b H (kD k) v:=by
 cases k with| «at» a=>show AB.at_any h|tup l=>
  let(p,c,e,q,r):=h;show#[p,c,e,q,Ad.at_any r]
def
wD{K:Ap}{M N k:Fb}{f:Hp}{o:Obj}{tr:U T3}(g:PD K k f é tr)(hz:DL a o (Et tr) f a=Z (.frz o (Et tr))):M2 K M N (DL a o (Et tr) f) (RP a o (Et tr) (tr.j λt=>t.2.1)) (é.j λp=>kD p.1):=λq r S i=>by
 let c:=S.kp a _ hz<|.inr<|.inr rfl;apply⟨λd hd=>?_,λe=>⟨c,by rw[<- g.kden.a];lia⟩⟩;apply#[#[c,g.kden.a ▸ ((Dk.mp hd).1)],λx s y=>?_];let(rfl,l):=y;apply#[Ak.χ _,?_];let(w,j,m):=g.kden.ό hd;rw[l]at j;ext j;rw[D9]at hd;let(p,n,hd):=B2.mp hd;ext hd;show AB.Ϙ S _ _<|(AB.rd (λb v _ h=>Rd.fz rfl h) _ _ m).key_any
def
wE{K:Ap}{M:Fb}{H:Hp}(R:Bw K M H0 ρ Y' H)(d:¬ Nf M ρ Y' a\/M a):∀(i:I)(xs:U D)(b:Kd)(e:O Ac),ρ[i]?=Z (Sl.τ xs b e)->Y'[i]?≠Z (Z (V.C a)):=λi xs j e f g=>by
 rcases d with d|d
 .show d<|.φ ⟨i,xs,j,e,f,g⟩
 .let(c,k,h,_,l,_):=R.Ϡ i _ f;rw[g]at h;ext h;show l d
def
Inv.plain2{b:A1}{H g:Hp}{s:Ab}{u:HO}(l:Inv X b Y' H s)(c:Ak H g)(d:g a=Z u)(h:GY u=J'):(∀xs,X.H₀ a≠Z (.Q xs))/\(∀o v,X.H₀ a≠Z (.frz o v))/\∀f,X.H₀ a≠Z (.tbl f):=by
 let(_,i,j,k):=VD h;apply#[λxs z=>?_,λo v z=>?_,λf z=>?_]
 .let y:=c _ _<|l.σ.tups a xs z;rw[d]at y;ext y;show i _ rfl
 .let y:=c _ _<|l.σ.frzs a o v z;rw[d]at y;ext y;show j _ _ rfl
 .let(m,e):=l.σ.tbls a f z;let y:=c _ _ e;rw[d]at y;ext y;show k _ rfl
section
open J in
end
def wF(K:Ap):V->U V->Hp->VK->V':=λx b H Q=>∃a tr k y,x=.C a/\b=[y]/\C3 K H a tr/\Jl k tr/\E8 K H k y/\Q ((Dd tr k).β .Ε) H
@[simp]def Pl(x y:D):O D:=match x with
  |.lst b .d=>match EU b,DT y with
   |some a,Z k=>if DU k a then Z ((Zo a k).β .Ε)else J
   |_,_=>J
  |_=>J
variable {M:Fb}{ek:Expr}{fo fk:AH}
def
wG(E:X.A.κ+64<Aw):Oo X "dict.get" (wF X.K):=by
 intro j s G H x L v f Q M r t zQ;let(a,tr,k,y,rfl,rfl,hd,m,n,q):=zQ;ext r;let(u,rfl,o):=t.one;cases k with
 | «at» b=>
  ext n;let(z,i,nd,f,g,h):=OT M hd m;let c:=g.B b;apply call_meetsIn PySem.F.slot_dict_get h.ϟ PySem.F.entry_dict_get (PySem.F.args_dict_get_2 _ _) (meets_dict_get (ZH X.Y X.w) a (Io o) i) #[_,h.mapOf,?_];cases d:Dd tr (.at b)with
  |none=>
   rw[d]at q;cases e:valueAt f b with
   |none=>show#[.Ε,H,M.tok _,rfl,q]
   |some w=>rw[d,e]at c;show c.ι
  |some w=>
   rw[d]at q;cases e:valueAt f b with
   |none=>rw[d,e]at c;show c.ι
   |some B=>rw[d,e]at c;show#[w,H,M.tok _,c,q]
 |tup l=>
  let(p,rfl,C):=n;cases(show u=Cp p from o);let(z,i,nd,f,g,h):=Ng M hd m;let c:=g.B l;apply call_meetsIn PySem.F.slot_dict_get h.ϟ PySem.F.entry_dict_get (PySem.F.args_dict_get_2 _ _) (meetsH_dict_get (tupleKind<|ZH X.Y X.w) a p i) ⟨Nh ∅,l,f,Ku M C,h,?_⟩;cases d:Dd tr (.Q l)with
  |none=>
   rw[d]at q;cases e:atKey f l with
   |none=>show#[.Ε,H,M.tok _,rfl,q]
   |some w=>rw[d,e]at c;show c.ι
  |some w=>
   rw[d]at q;cases e:atKey f l with
   |none=>rw[d,e]at c;show c.ι
   |some B=>rw[d,e]at c;show#[w,H,M.tok _,c,q]
open J in
def
wH(G:X.A.κ+64<Aw)(zA:JE X o (tP X.K M H0 fo))(P:JE X ek (tP X.K M H0 fk)) (c:↑(Hr o "get" X.G (As o X.G)=As o X.G)) (f:↑(((AF ç (AQ [ek] X.G)).ϝ (λx=>!x.1)&&(Hs ç (Ht [] X.G)).ϝ (λx=>x.1.υ) && decide ([ek].a+([]:U E5).a+(if([]:U E5).Ω then 0 else 1)<30))=J')) (e:↑((å.endLine==ç.ϩ)=J')) (g:↥(AQ [ek] X.G=(O',As ek X.G)::AQ [] X.G:12)) (l:↑((AF ç (AQ [] X.G)).any (·.1)=O')):JE X (.Φ (.η o "get" å) [ek] [] ç) (tD X.K M H0 (Za Pl fo fk)):=#[(Kg PySem.F.plainAttrs_dict PySem.F.slot_dict_get PySem.F.type_dict_get (wG G) zA.h (EQ P.h Bq g) c f e g l).ν λY' H Q L=>by
   let(t,d,R,ex,q):=L;let(x,y,N,S,ex):=bR ex;unfold Pl at ex;split at ex
   .next xs=>
    split at ex
    .next m k n p=>
     let(T,ex):=ZV ex;ext ex;let r:=HK n;subst r;apply#[t,_,R,N,λv H1 z W=>?_];let(a,vs,rfl,B,hd):=W;apply#[.φ<|.inr ⟨rfl,_,_,B⟩,t,y,R.st z,S,λw Y s C=>?_];let(tr,dc,E):=Kx (B.δ s)<|hd.δ s;rw[Kv p]at C;let b:=E.B k;apply#[a,tr,k,w,rfl,rfl,dc,E.hom T,Kw<|Jo C,q _ Y (z.I s) ?_];cases i:Zo m k with
     |none=>
      rw[i]at b;cases j:Dd tr k with
      |none=>erw[Option.getD,AB]
      |some u=>rw[j]at b;show b.ι
     |some d0=>
      rw[i]at b;cases j:Dd tr k with
      |none=>rw[j]at b;show b.ι
      |some u=>rw[j]at b;show b
    .cases ex
   .cases ex]
end
end Internal
namespace Internal
open PySem PySem.Spec PyProof.Rows
structure ID(P:AN)(w:Ai)(i:Ac)(fp:List Ac)(n:I)(is:I->Aa->V')(st:I->Al->V'):V' where
 frame:∀k h h',st k h->(∀b,b=i\/b∈fp->∀o,h.R b=Z o->h'.R b=Z o)->st k h'
 lt:∀k h,st k h->i<h.O.o
 item:∀(A:Ag) (E:AV) (s:Ab) (k:I) (Q:AV),k<n->st k s.r->(∀v h' tk,is k v->st (k+1) h'->En i s.r h'->Q v {s with heap:=h',toks:=tk})->wpAny (Af P w) A (fq (.C i)) Q E s
 fin:∀(A:Ag) (E:AV) (s:Ab) (k:I) (Q:AV),A.ϡ=J->n<=k->st k s.r->(∀h' e,Heap.ExtBut i s.r h'->(∃o,h'.R e=Z o/\o.cls=.ε "StopIteration")->E (.C e) {s with heap:=h' }) ->
  wpAny (Af P w) A (fq (.C i)) Q E s
variable {prog:AN}{w:Ai}{A:Ag}{s:Ab}
def
ft{i f:Ac}{k:I}{b:Array Aa}{Q:AV}(h:s.r.IsTupleIter i f k)(n:s.r.IsTuple f b)(q:∀v,b[k]?=Z v->∀h',h'.IsTupleIter i f (k+1)->En i s.r h'->Q v {s with heap:=h' }) (j:b[k]?=J->A.ϡ=J/\∀h' e,Heap.ExtBut i s.r h'->(∃o,h'.R e=Z o/\o.cls=.ε "StopIteration")->E (.C e) {s with heap:=h' }):wpAny (Af prog w) A (fq (.C i)) Q E s:=by
 let(u,d,p,c):=id h;let(y,r,_,z,t):=n;apply Ao<|MR (name:=Kc "__next__") h.ϟ PySem.F.slot_tuple_iterator_next (LL PySem.F.slot_tuple_iterator_next h.ϟ PySem.F.entry_tuple_iterator_next ?_<|PySem.F.args_tuple_iterator_next_1 _);change wpAny _ _ (field (.C i) 0 >>= _) _ _ s
 apply Ao<|Ed d c (x:=.C f) rfl ?_;apply Ao<|Ed d c (x:=.u k 0) rfl ?_;apply Ao<|wpAny_seqItems r t ?_;erw[KP];cases g:b[k]? with
 |some v=>
  show Ao<|Pf d c (by simp)<|A0 ⟨v,rfl,A0<|q _ g _ ⟨_,MU _ d<|RJ<|KO c _,(Obj.cls_mapFields ..).I p,by rw[KO c];simp[AO]⟩<|Nj ..⟩
 |none=>
  apply Ao<|F5<|Ao<|Pf d c (by simp) ?_;apply Ao ?_;apply Ao<|Ke ?_ (show(0:I)<=AE by ext);apply Ao (m:=firstArgMember _ _) (wpAny_of_eq (a:=Gp) (by first|rfl|(unfold firstArgMember;rfl)) ?_);apply Ke ?_ (by size_fits);apply Ao<|wpAny_handled ?_;first|rw[(j g).1]|rw[show A.in1.ϡ=J from(j g).1]
  show Ao<|A0<|wpAny_throw<|(j g).2 _ _ ((Heap.ExtBut.Ι (Heap.SameBut.Α<|Nj ..) _).Ι _) ⟨_,Cq _ rfl,rfl⟩
def
wI{P:AN}{w:Ai}{i l:Ac}{xs:U V}(d:Array Aa)(r:Aq xs d.J):ID P w i [l] xs.a (λk v=>∃x,xs[k]?=Z x/\RelV x v) (λk h=>h.IsListIter i l k/\h.IsList l d) where
 frame:=λk h j ⟨a,b⟩ kp=>#[a.at λo e=>kp i (.U rfl) o e,b.at λo e=>kp l (.φ (by simp)) o e];lt:=λk h ⟨⟨o,e,_⟩,_⟩=>BB e;item:=λA E s k Q g ⟨a,b⟩ q=>by
  let(u,p,t):=r.ό<|CG g;apply wpAny_nextOf_list_item a b (x:=u) (by exists p) λj y sb=>?_;by_cases f:l=i
  .subst f;let(o,e,c,_):=a;let(B,m,n,_):=b;rw[e]at m;ext m;rw[c]at n;show absurd n (by ext)
  .show q _ j s.Ζ #[_,CG g,t] #[y,b.Α sb.Α f] sb
 fin:=λA E s k Q z g ⟨a,b⟩ q=>wpAny_nextOf_list_end z a b (Array.getElem?_eq_none (by have f:=r.a;simp at f;show le_of_eq_of_le f.Γ g)) q
def
wJ{P:AN}{w:Ai}{i l:Ac}{xs:U V}(d:Array Aa)(r:Aq xs d.J):ID P w i [l] xs.a (λk v=>∃x,xs[k]?=Z x/\RelV x v) (λk h=>h.IsTupleIter i l k/\h.IsTuple l d) where
 frame:=λk h n ⟨a,b⟩ kp=>#[a.at λo e=>kp i (.U rfl) o e,b.at λo e=>kp l (.φ (by simp)) o e];lt:=λk h ⟨⟨o,e,_⟩,_⟩=>BB e;item:=λA E s k Q j ⟨a,b⟩ q=>by
  let(u,m,y):=r.ό<|CG j;let m:d[k]?=Z u:=by exists m
  apply ft a b (λv f n B sb=>?_) λz=>by rw[m]at z;ext z
  rw[m]at f;ext f;by_cases g:l=i
  .subst g;let(o,e,c,_):=a;let(G,p,t,_):=b;rw[e]at p;ext p;rw[c]at t;show absurd t (by ext)
  .show q _ n s.Ζ #[_,CG j,y] #[B,b.at λo e=>sb.Α _ _ g e] sb
 fin:=λA E s k Q C j ⟨a,b⟩ q=>ft a b (λv f=>by rw[Array.getElem?_eq_none (by have g:=r.a;simp at g;show le_of_eq_of_le g.Γ j)]at f;ext f) λ_=>#[C,q]
def Ny(x:Ae):String:=if x.ϱ.ϝ (·<128)=J' then "str_ascii_iterator" else "str_iterator"
def GJ(x:Ae):U V:=x.ϱ.J.j λc=>.ω #[(T' [c])]
def
wL{P:AN}{w:Ai}{i:Ac}(x:Ae):ID P w i [] (GJ x).a (λk v=>∃y,(GJ x)[k]?=Z y/\RelV y v) (λk h=>∃t,h.IsStrIter i (Ny x) x t k) where
 frame:=λk h f ⟨t,o,e,r⟩ kp=>#[t,o,kp i (.U rfl) o e,r];lt:=λk h ⟨t,o,e,_⟩=>BB e;item:=λA E s k Q g ⟨t,a⟩ q=>by
  let b:k<x.ϱ.o:=by simpa[GJ]using g
  unfold Ny at a q;by_cases d:x.ϱ.ϝ (·<128)=J'
  .rw[if_pos d]at a q;show wpAny_nextOf_ascii_item a (c:=x.ϱ[k]) (by simp[b]) λf j sb=>q _ f (s.Ζ+1) #[.ω #[(T' [x.ϱ[k]])],by simp[GJ,b],_,rfl] #[t,j] sb
  .rw[if_neg d]at a q;show wpAny_nextOf_wide_item a (c:=x.ϱ[k]) (by simp[b]) λf j sb=>q _ f (s.Ζ+1) #[.ω #[(T' [x.ϱ[k]])],by simp[GJ,b],_,rfl] #[t,j] sb
 fin:=λA E s k Q l g ⟨t,a⟩ q=>by
  let b:x.ϱ.o<=k:=by simpa[GJ]using g
  unfold Ny at a;by_cases d:x.ϱ.ϝ (·<128)=J'
  .rw[if_pos d]at a;show wpAny_nextOf_ascii_end l a (by simp[b]) q
  .rw[if_neg d]at a;show wpAny_nextOf_wide_end l a (by simp[b]) q
structure CK(z tin tout ia ib:Ac)(fa fb:List Ac):V' where
 n1:tin≠z
 n2:tout≠z
 n3:ia≠z
 n4:ib≠z
 n5:tin≠tout
 n6:tin≠ia
 n7:tin≠ib
 n8:tout≠ia
 n9:tout≠ib
 n10:ia≠ib
 fz:∀b,b∈fa\/b∈fb->b≠z/\b≠tout/\b≠ia/\b≠ib
variable {z tin tout ia ib:Ac}{fa fb:U Ac}{n m k:I}{isB:I->Aa->V'}{sa sb:I->Al->V'}{a b:Aa}
def
CK.keepA(D:CK z tin tout ia ib fa fb)(f:ID prog w ia fa n isA sa){h h':Al}(st:sa k h){c:Ac}(d:c=z\/c=tout\/c=ib)(a:En c h h'):sa k h':=f.xv k h h' st λx b o e=>by
  apply a.Α x o ?_ e;rcases b with rfl|b
  .rcases d with rfl|rfl|rfl
   .show D.n3
   .show Cj D.n8
   .show D.n10
  .let(g,i,q3,j):=D.fz x<|.U b;rcases d with rfl|rfl|rfl
   .show g
   .show i
   .show j
def
CK.keepB(D:CK z tin tout ia ib fa fb)(SB:ID prog w ib fb n isB sb){h h':Al}(st:sb k h){c:Ac}(d:c=z\/c=tout\/c=ia)(a:En c h h'):sb k h':=SB.xv k h h' st λx b o e=>by
  apply a.Α x o ?_ e;rcases b with rfl|b
  .rcases d with rfl|rfl|rfl
   .show D.n4
   .show Cj D.n9
   .show Cj D.n10
  .let(f,g,q3,i):=D.fz x<|.φ b;rcases d with rfl|rfl|rfl
   .show f
   .show g
   .show q3
def
fu{Q:O Aa->Ab->V'}(D:CK z tin tout ia ib fa fb)(i:ID prog w ia fa n isA sa)(SB:ID prog w ib fb m isB sb)
  (hz:IsZip s.r z tin tout .Β) (hi:IsPair s.r tin (.C ia) (.C ib)) (ho:IsPair s.r tout a b) (ha:sa k s.r) (hb:sb k s.r)
  (q:k<n->k<m->∀x y h' p,isA k x->isB k y->IsZip h' z tin tout (AO s.r.O.o)->IsPair h' tout x y->sa (k+1) h'->sb (k+1) h'->IsPair h' s.r.O.o x y->h'.O.o=s.r.O.o+1 ->
   (∀c o,c≠z->c≠tout->c≠ia->c≠ib->s.r.R c=Z o->h'.R c=Z o)->Q (Z (.C s.r.O.o)) {s with heap:=h',toks:=p})
  (P:n<=k\/m<=k->A.ϡ=J/\∀h' p,(∀c o,c≠z->c≠tout->c≠ia->c≠ib->s.r.R c=Z o->h'.R c=Z o)->Q J {s with heap:=h',toks:=p}):wpAny (Af prog w) A (pyNext (.C z)) Q E s:=by
 let j:n<=k\/m<=k->∀(h':Al) (p:I) (e:Ac),(∀c o,c≠z->c≠tout->c≠ia->c≠ib->s.r.R c=Z o->h'.R c=Z o)->(∃o,h'.R e=Z o/\o.cls=.ε "StopIteration") ->
   wpAny (Af prog w) A (do if(<- isInstance (.C e) (.ε "StopIteration"))=J' then Am (J:O Aa)else throw (Cp e)) Q E {s with heap:=h',toks:=p}:=λkn h' p e kp ⟨o,g,d⟩=>
  Ao (wpAny_isInstance (T:="StopIteration") (b:=J') #[o,g,d] isSubtype_stop (A0 ((P kn).2 h' p kp)))
 apply Ao (Pc (MR (name:=Kc "__next__") #[_,hz,rfl] PySem.F.slot_zip_next (LL PySem.F.slot_zip_next #[_,hz,rfl] PySem.F.entry_zip_next ?_ (PySem.F.args_zip_next_1 _))))
 change wpAny _ _ (field (.C z) 2 >>= _) _ _ _
 apply Ao (Ed hz rfl (x:=.Ϥ O') rfl ?_)
 apply Ao (Ed hz rfl (x:=.C tin) rfl ?_)
 apply Ao (wpAny_seqItems hi rfl ?_)
 apply Ao ?_
 apply Ao (Ed hz rfl (x:=.Β) rfl (A0 ?_))
 apply Ao (F5 ?_)
 apply Ao (Ed hz rfl (x:=.C tout) rfl ?_)
 apply Ao (IE hz (by simp) λg1 L b1=>?_)
 apply Ao ?_
 apply Ao (Ao (wpAny_onRaise ?_))
 by_cases G:n<=k
 .apply Ao (i.fin A.in1 _ _ k _ (P (.U G)).1 G (D.keepA i ha (.U rfl) b1) λg2 e R Y=>?_)
  let(oe,g,d):=Y
  show IE (R _ _ (Cj D.n3) L) (by simp) λg3 _ f=>j (.U G) g3 s.Ζ e (λc o d _ r _ x=>f.Α _ _ d (R _ _ r (b1.Α _ _ d x))) #[oe,f.Α _ _ (λx=>by subst x;rw[R _ _ (Cj D.n3) L]at g;ext g;simp at d) g,d]
 .apply Ao (i.item _ _ _ k _ (Nm G) (D.keepA i ha (.U rfl) b1) λx g2 tk2 hx a2 t=>A0 ?_)
  let o2:IsPair g2 tout a b:=t.Α _ _ D.n8 (b1.Α _ _ D.n2 ho)
  apply Ao (wpAny_seqItems o2 rfl ?_)
  apply Ao (wpAny_updateSeq_pair o2 λg3 o3 f=>?_)
  apply Ao (wpAny_letGo (A0 ?_))
  apply Ao (Ao (wpAny_onRaise ?_))
  let H:sb k g3:=D.keepB SB (D.keepB SB (D.keepB SB hb (.U rfl) b1) (.φ (.φ rfl)) t) (.φ (.U rfl)) f
  by_cases S:m<=k
  .apply Ao (SB.fin A.in1 _ _ k _ (P (.φ S)).1 S H λg4 e x4 Y=>?_)
   let(oe,g,d):=Y
   let z4:IsZip g4 z tin tout .ellipsis:=x4 _ _ (Cj D.n4) (f.Α _ _ (Cj D.n2) (t.Α _ _ (Cj D.n3) L))
   show IE z4 (by simp) λh _ l=>j (.φ S) h tk2 e (λc o d v r K x=>l.Α _ _ d (x4 _ _ K (f.Α _ _ v (t.Α _ _ r (b1.Α _ _ d x))))) #[oe,l.Α _ _ (λx=>by subst x;rw[z4]at g;ext g;simp at d) g,d]
  .apply Ao (SB.item _ _ _ k _ (Nm S) H λy g4 tk4 hy a4 B=>A0 ?_)
   apply Ao (wpAny_seqItems (B.Α _ _ D.n9 o3) rfl ?_)
   apply Ao (wpAny_updateSeq_pair (B.Α _ _ D.n9 o3) λh M l=>?_)
   let M:IsPair h tout x y:=M
   apply Ao (wpAny_letGo (A0 (A0 ?_)))
   apply Ao (wpAny_seqItems M rfl ?_)
   apply Ao (wpAny_newTuple ?_)
   let sz:h.O.o=s.r.O.o:=by rw[l.1,B.1,f.1,t.1,b1.1]
   let z5:IsZip h z tin tout .ellipsis:=l.Α _ _ (Cj D.n2) (B.Α _ _ (Cj D.n4) (f.Α _ _ (Cj D.n2) (t.Α _ _ (Cj D.n3) L)))
   let kp:∀c o,c≠z->c≠tout->c≠ia->c≠ib->s.r.R c=Z o->h.R c=Z o:=λc o d v r K e=>
    l.Α _ _ v (B.Α _ _ K (f.Α _ _ v (t.Α _ _ r (b1.Α _ _ d e))))
   apply Ao ?_
   apply Ao (IE (By _ z5) (by simp) λg7 z7 b7=>?_)
   apply IE z7 (by simp) λC z8 b8=>?_
   let N:∀c o,c≠z->h.R c=Z o->C.R c=Z o:=λc o d e=>b8.Α _ _ d (b7.Α _ _ d (By _ e))
   let new:IsPair C h.O.o x y:=b8.Α _ _ (Ia (BB z5)) (b7.Α _ _ (Ia (BB z5)) (Cq _ rfl))
   let s8:C.O.o=h.O.o+1:=by rw[b8.1,b7.1,LC]
   let a8:sa (k+1) C:=i.xv _ _ _ (D.keepA i (D.keepA i (D.keepA i a2 (.φ (.U rfl)) f) (.φ (.φ rfl)) B) (.φ (.U rfl)) l) λc u o e=>N c o (by
    rcases u with rfl|u
    .show D.n3
    .show(D.fz c (.U u)).1) e
   let b8':sb (k+1) C:=SB.xv _ _ _ (D.keepB SB a4 (.φ (.U rfl)) l) λc u o e=>N c o (by
    rcases u with rfl|u
    .show D.n4
    .show(D.fz c (.φ u)).1) e
   rw[sz]at z8 new s8
   apply A0 #[_,rfl,A0 ?_]
   rw[sz]
   show q (Nm G) (Nm S) x y C tk4 hx hy z8 (N _ _ D.n2 M) a8 b8' new s8 λc o d v r K e=>N c o d (kp c o d v r K e)
end
end
inductive AU where
 |l (a:Ac)
 |t (a:Ac)
 |x (s:Ae)
@[reducible] def AU.v:AU->V
  |.l a=>.C a
  |.t a=>.C a
  |.x s=>.ω s
@[reducible] def AU.fp:AU->U Ac
  |.l a=>[a]
  |.t a=>[a]
  |.x _=>[]
def AU.sq(K:Ap)(H:Hp):AU->U V->V'
 |.l a=>BU K H a
 |.t a=>Ck K H a
 |.x s=>λb=>b=GJ s
def AU.nm:AU->String
 |.l _=>"list_iterator"
 |.t _=>"tuple_iterator"
 |.x s=>Ny s
def AU.ok(h:Al)(xs:U V):AU->V'
 |.l a=>∃b:Array Aa,Aq xs b.J/\h.IsList a b
 |.t a=>∃b:Array Aa,Aq xs b.J/\h.IsTuple a b
 |.x s=>xs=GJ s
def AU.it(h:Al)(i:Ac)(k:I):AU->V'
 |.l a=>h.IsListIter i a k
 |.t a=>h.IsTupleIter i a k
 |.x s=>∃t,h.IsStrIter i (Ny s) s t k
def
AU.of(S:AU){c:A1}{H:Hp}{s:Ab}{xs:U V}(d:Inv X c Y' H s)(h:S.sq X.K H xs):S.ok s.r xs:=by
 cases S with
 |l a=>let(b,r,p,z):=d.Ϩ h;show#[b.E,r,p.ύ]
 |t a=>let(b,r,p,z):=d.ϗ h;show#[b.E,r,(show s.r.IsTuple a b.E from p)]
 |x s=>show h
def
AU.inj(S:AU){b:A1}{H:Hp}{s:Ab}{xs:U V}(c:Inv X b Y' H s)(h:S.sq X.K H xs)(h':S.sq X.K H ys):xs=ys:=by
 cases S with
 |l a=>show c.list_inj h h'
 |t a=>show c.tuple_inj h h'
 |x s=>show(show xs=GJ s from h).I (show ys=GJ s from h').Γ
def
AU.lt(S:AU){h:Al}{xs:U V}(p:S.ok h xs):∀b∈S.fp,b<h.O.o:=by
 intro b c;cases S with
 |l a=>rw[CC.mp c];let(d,_,o,e,_):=p;show BB e
 |t a=>rw[CC.mp c];let(d,_,o,e,_):=p;show BB e
 |x s=>ext c
def
AU.okAt(S:AU){h h':Al}{xs:U V}(p:S.ok h xs)(k:∀b∈S.fp,∀o,h.R b=Z o->h'.R b=Z o):S.ok h' xs:=by
 cases S with
 |l a=>let(c,r,q):=p;show#[c,r,Heap.IsList.at q<|k a (by simp)]
 |t a=>let(c,r,q):=p;show#[c,r,Heap.IsTuple.at q<|k a (by simp)]
 |x s=>show p
def
AU.itAt(S:AU){h h':Al}{i:Ac}{n:I}(p:S.it h i n)(k:∀o,h.R i=Z o->h'.R i=Z o):S.it h' i n:=by
 cases S with
 |l a=>show Heap.IsListIter.at p k
 |t a=>show Heap.IsTupleIter.at p k
 |x s=>let(t,o,e,r):=p;show#[t,o,k o e,r]
def
AU.itOb(S:AU){h:Al}{i:Ac}{n:I}(p:S.it h i n):∃o,h.R i=Z o/\∀v,o.jk≠.Υ v:=by
 cases S with
 |l a=>let(o,e,c,d):=p;show#[o,e,λv z=>by rw[d]at z;cases z]
 |t a=>let(o,e,c,d):=p;show#[o,e,λv z=>by rw[d]at z;cases z]
 |x s=>let(t,o,e,c,d):=p;show#[o,e,λv z=>by rw[d]at z;cases z]
def
AU.sub(S:AU){P:AN}{w:Ai}{i:Ac}{h:Al}{xs:U V}(p:S.ok h xs):∃st:I->Al->V',ID P w i S.fp xs.a (λk v=>∃x,xs[k]?=Z x/\RelV x v) st/\(∀k,S.it h i k->st k h)/\∀k h',st k h'->S.it h' i k:=by
 cases S with
 |l a=>let(b,r,q):=p;show#[_,wI b r,λk e=>#[e,q],λk h' e=>e.1]
 |t a=>let(b,r,q):=p;show#[_,wJ b r,λk e=>#[e,q],λk h' e=>e.1]
 |x s=>rw[show xs=GJ s from p];show#[_,wL s,λk e=>e,λk h' e=>e]
def AU.obj(S:AU)(u:Aa):Obj:={cls:=.ε S.nm,data:=.ϊ (T' [u,.u 0 0])}
open J in
def
AU.pyIter(S:AU){prog:AN}{w:Ai}{A:Ag}{E:AV}{s:Ab}{xs:U V}{u:Aa}(c:RelV S.v u){Q:AV}(p:S.ok s.r xs) (q:Q (.C s.r.O.o) {s with heap:=s.r.Ι (S.obj u)}):wpAny (Af prog w) A (pyIter u) Q E s:=by
 cases S with
 |l a=>let(d,r,p):=p;let e:u=.C a:=c;subst e;show QG p q
 |t a=>let(d,r,p):=p;let e:u=.C a:=c;subst e;show wpAny_pyIter_tuple p q
 |x x=>
  let(t,rfl):=(show ∃t,u=Value.ω x t from c);unfold AU.obj AU.nm Ny at q;by_cases b:x.ϱ.ϝ (·<128)=J'
  .erw[b,if_true]at q;show wpAny_pyIter_ascii b q
  .erw[b,if_false]at q;show wpAny_pyIter_wide (by exists b) q
def
AU.new(S:AU){h:Al}(b:RelV S.v u):S.it (h.Ι (S.obj u)) h.O.o 0:=by
 cases S with
 |l a=>have e:u=.C a:=b;subst e;show#[_,Cq _ rfl,rfl,rfl]
 |t a=>have e:u=.C a:=b;subst e;show#[_,Cq _ rfl,rfl,rfl]
 |x x=>let(t,rfl):=(show ∃t,u=Value.ω x t from b);show#[t,_,Cq _ rfl,rfl,rfl]
@[reducible] def Pm(h:Al)(A:AU)(u:Aa):Al:=h.Ι (A.obj u)
@[reducible] def Pn(h:Al)(A B:AU)(u v:Aa):Al:=(Pm h A u).Ι (B.obj v)
@[reducible] def RQ(h:Al)(A B:AU)(u v:Aa):Al:=(Pn h A B u v).Ι {cls:=.ε "tuple",data:=.Ϲ (T' [.C h.O.o,.C (Pm h A u).O.o])}
@[reducible] def RS(h:Al)(A B:AU)(u v:Aa):Al:=(RQ h A B u v).Ι {cls:=.ε "tuple",data:=.Ϲ (T' [.Β,.Β])}
@[reducible] def Nz(h:Al)(A B:AU)(u v:Aa):Al:=(RS h A B u v).Ι {cls:=.ε "zip",data:=.ϊ (T' [.Β,.Ϥ O',.Ϥ O',.C (Pn h A B u v).O.o,.C (RQ h A B u v).O.o])}
def
wM(A B:AU){v:Aa}(a:RelV A.v u)(c:RelV B.v v)(xs ys:U V):Meets (Fl.«zip.__new__» #[[.ε "zip",u,v],[]]) (λ_ R s=>A.ok s.r xs/\B.ok s.r ys/\R (.ok (.Ϯ (.C (RS s.r A B u v).O.o))) {s with heap:=Nz s.r A B u v}):=.of_wp λprog w j R s h=>by
  let(k,g,d,l,os):=s;let(f,i,q):=h;let m:=sub_zip;wp_walk using A.pyIter a f,B.pyIter c<|B.okAt i λb _ o e=>By _ e;show#[_,rfl,q]
variable {prog:AN}{w:Ai}{A:Ag}{s:Ab}
def
wN{S T:AU}{xs:U V}{v:Aa}(i:RelV S.v u)(j:RelV T.v v){Q:AV}(p1:S.ok s.r xs)(p:T.ok s.r ys) (q:∀h',IsZip h' (s.r.O.o+4) (s.r.O.o+2) (s.r.O.o+3) .Β->IsPair h' (s.r.O.o+2) (.C s.r.O.o) (.C (s.r.O.o+1))->IsPair h' (s.r.O.o+3) .Β .Β->S.it h' s.r.O.o 0->T.it h' (s.r.O.o+1) 0->(∀c o,s.r.R c=Z o->h'.R c=Z o)->Q (.C (s.r.O.o+4)) {s with heap:=h' }):wpAny (Af prog w) A (call (.ε "zip") [u,v]) Q E s:=by
 apply callType_new PySem.F.called_zip (by ext) (PySem.F.typeCall_zip_2 _ _) (PySem.F.newCall_zip_2 _ _) (λobj=>PySem.F.args_object_init_3 obj _ _) PySem.F.entry_zip_new (wM S T i j xs ys) #[p1,p,?_];let a:(Pm s.r S u).O.o=s.r.O.o+1:=LC ..;let b:(Pn s.r S T u v).O.o=s.r.O.o+2:=by rw[LC,a]
 let d:(RQ s.r S T u v).O.o=s.r.O.o+3:=by rw[LC,b]
 let k:(RS s.r S T u v).O.o=s.r.O.o+4:=by rw[LC,d]
 let f:(Nz s.r S T u v).R (RS s.r S T u v).O.o=Z _:=Cq _ rfl;let l:(Nz s.r S T u v).R (RQ s.r S T u v).O.o=Z _:=By _<|Cq _ rfl;let m:(Nz s.heap S T u v).get? (Pn s.heap S T u v).objs.size=Z _:=By _<|By _<|Cq _ rfl;let g:∀c o,(Pn s.heap S T u v).get? c=Z o->(Nz s.heap S T u v).get? c=Z o:=λc o e=>By _<|By _<|By _ e;let n:T.it (Nz s.heap S T u v) (Pm s.heap S u).objs.size 0:=T.itAt (T.new (h:=Pm s.heap S u) j) λo e=>g _ o e;rw[b,d,k]at f;rw[a,b]at m;rw[d]at l;rw[a]at n;rw[k];show#[#[_,f,rfl],q _ f m l (S.itAt (S.new (h:=s.r) i) λo e=>g _ o<|By _ e) n λc o e=>g _ _<|By _<|By _ e]
end
def fw(K:Ap)(S T:AU):It:=
 #[λi H=>∃a b x y,S.sq K H a/\T.sq K H b/\a[i]?=Z x/\b[i]?=Z y,
  λi H v c=>∃p x y,v=.C p/\H p=J/\c=AX H p (.Q [x,y])/\(∀a,S.sq K H a->a[i]?=Z x)/\∀b,T.sq K H b->b[i]?=Z y,
  λi H=>∃a b,S.sq K H a/\T.sq K H b/\(a.a<=i\/b.a<=i)]
def
fy{n:I}{S T:AU}(a:∀b∈S.fp,b<n)(c:∀b∈T.fp,b<n):CK (n+4) (n+2) (n+3) n (n+1) S.fp T.fp where
 n1:=by(show @Ne I _ _;show W.Z.off_ne n 2 4 rfl)
 n2:=by(show @Ne I _ _;show W.Z.off_ne n 3 4 rfl)
 n3:=by(show @Ne I _ _;lia)
 n4:=by(show @Ne I _ _;show W.Z.off_ne n 1 4 rfl)
 n5:=by(show @Ne I _ _;show W.Z.off_ne n 2 3 rfl)
 n6:=by(show @Ne I _ _;lia)
 n7:=by(show @Ne I _ _;show W.Z.off_ne n 2 1 rfl)
 n8:=by(show @Ne I _ _;lia)
 n9:=by(show @Ne I _ _;show W.Z.off_ne n 3 1 rfl)
 n10:=by(show @Ne I _ _;show Nat.ne_add_one n)
 fz:=λb d=>by
  grind
def
wO{P:AN}{w:Ai}{K:Ap}{m:U Expr} {x1} (S T:AU) (n:I) (h1:∀b∈S.fp,b<n) (h2:∀b∈T.fp,b<n):
  Ib P w K (.Tuple m x1 pos) (fw K S T) [n+4,n+2,n+3,n,n+1] (n+4) (λi h=>IsZip h (n+4) (n+2) (n+3) .Β/\IsPair h (n+2) (.C n) (.C (n+1))/\(∃a b,IsPair h (n+3) a b)/\S.it h n i/\T.it h (n+1) i) where
 mem:=by simp
 obj:=λi h z0 q f=>by
  let(z,a,(x,y,b),c,d):=z0
  erw[BJ,G6,or_false]at f
  rcases f with rfl|rfl|rfl|rfl|rfl
  .show#[_,z,λv e=>nomatch (show Data.ϊ _=Data.Υ v from e)]
  .show#[_,a,λv e=>nomatch (show Data.Ϲ _ _=Data.Υ v from e)]
  .show#[_,b,λv e=>nomatch (show Data.Ϲ _ _=Data.Υ v from e)]
  .show S.itOb c
  .show T.itOb d
 keep:=λi h t ⟨z,a,⟨x,y,b⟩,c,d⟩ k=>#[k _ (by simp) _ z,k _ (by simp) _ a,#[x,y,k _ (by simp) _ b],S.itAt c λo e=>k _ (by simp) o e,T.itAt d λo e=>k _ (by simp) o e]
 item:=by
  intro X F L M hc i g s Y' H E zB A #[z,a,#[u,v,b],c,d] #[xs,ys,x,y,B,C,ex,N]
  subst F L M
  let(sa,R,Q,c2):=S.sub (P:=X.Y) (w:=X.w) (i:=n) (S.of zB B)
  let(sb,SB,zA,d2):=T.sub (P:=X.Y) (w:=X.w) (i:=n+1) (T.of zB C)
  let l1:=(Dk.mp ex).1
  let l2:=(Dk.mp N).1
  apply fu (fy h1 h2) R SB z a b (Q _ c) (zA _ d) (λ_ _ x' y' t G Y hy' z' to' c' d' new sz kp=>?_) λhl=>absurd hl ∅
  let(x2,p,ru1):=Y
  let(y2,r,ru2):=hy'
  rw[ex]at p;ext p
  rw[N]at r;ext r
  apply#[_,rfl,wpAny_letOwnedTupleGo_zip z' λj z2 sb=>?_]
  let hlt:n+4<s.r.O.o:=BB z
  let l:∀q o,q≠n+4->t.R q=Z o->j.R q=Z o:=λq o f e=>sb.Α _ _ f e
  let I1:Inv X g Y' (AX H s.r.O.o (.Q [x,y])) {s with heap:=j,toks:=G}:=by
   apply Inv.tok (s:={s with heap:=j}) ?_ G
   show zB.yielded A (λq o f e=>l q o (λz=>f (by simp[z])) (kp q o (λz=>f (by simp[z])) (λz=>f (by simp[z])) (λz=>f (by simp[z])) (λz=>f (by simp[z])) e)) (A4 _) #[show 2<=AE by ext,[x',y'],.Ο ru1 (.Ο ru2 .Ϧ),#[_,l _ _ (by(show @Ne I _ _;show Cj (Ci hlt))) new,rfl,_,rfl]]
  apply#[.C s.r.O.o,_,I1,rfl,#[_,x,y,rfl,zB.ϧ.Τ (A4 _),rfl,λzs hz=>S.inj zB hz B ▸ ex,λzs hz=>T.inj zB hz C ▸ N],#[z2,l _ _ (by(show @Ne I _ _;show W.Z.off_ne n 2 4 rfl)) (kp _ _ (by(show @Ne I _ _;show W.Z.off_ne n 2 4 rfl)) (by(show @Ne I _ _;show W.Z.off_ne n 2 3 rfl)) (by(show @Ne I _ _;lia)) (by(show @Ne I _ _;show W.Z.off_ne n 2 1 rfl)) a),#[x',y',l _ _ (by(show @Ne I _ _;show W.Z.off_ne n 3 4 rfl)) to'],S.itAt (c2 _ _ c') λo e=>l _ o (by(show @Ne I _ _;lia)) e,T.itAt (d2 _ _ d') λo e=>l _ o (by(show @Ne I _ _;lia)) e],λq f=>?_]
  rw[Zr]
  .show(A q f).1
  .erw[BJ,G6,or_false]at f
   rcases f with rfl|rfl|rfl|rfl|rfl<;>(show @Ne I _ _;lia)
 done:=by
  intro X F L M hc i g s Y' H E zB A #[z,a,#[u,v,b],c,d] #[xs,ys,B,C,hl]
  subst F L M
  let(sa,R,Q,c2):=S.sub (P:=X.Y) (w:=X.w) (i:=n) (S.of zB B)
  let(sb,SB,zA,d2):=T.sub (P:=X.Y) (w:=X.w) (i:=n+1) (T.of zB C)
  show fu (fy h1 h2) R SB z a b (Q _ c) (zA _ d) (λz1 z2=>absurd hl ∅) λ_=>#[zB.ok.hd hc,λt G kp=>#[rfl,Inv.tok (s:={s with heap:=t}) (zB.turnedL A λq o f e=>kp q o (λz=>f (by simp[z])) (λz=>f (by simp[z])) (λz=>f (by simp[z])) (λz=>f (by simp[z])) e) G]]
 self:=λ_ _ _ _ _ ⟨z,_⟩ q=>wpAny_pyIter_zip z q
def
wP:Em "zip"=Z (.ε "zip"):=by symm
@[simp]def Fa:D->Ba
  |.lst a=>Z a
  |.tup a=>Z a
  |.str s=>Z (s.ϱ.J.j λc=>.ω #[(T' [c])])
  |_=>J
def
VF{K:Ap}{M N:Fb}{H:Hp}{d:D}{v:V}(h:Q3 K M N H d v)(e:Fa d=Z xs):∃(S:AU) (vs:U V),v=S.v/\Ad K N H xs vs/\∀g f,Step M N g H f->S.sq K f vs:=by
 cases d with
 |lst k m=>
  cases m with
  |d=>cases e
  |i _ _=>cases e
  |l=>
  ext e;let(a,vs,j,b,hd):=h;apply#[.l a,vs,j,hd,λg f S=>?_];rcases b with⟨n,b⟩|b
  .show .U<|b.Ϙ S (by rcases n with z|z;show .U z;show .φ<|.U z)
  .show b.sq
 |tup k=>
  ext e;let(a,vs,j,b,hd):=h;show#[.t a,vs,j,hd,λg f S=>b.Ϙ S]
 |str s=>
  ext e;apply#[.x s,GJ s,h,?_,λ_ _ _=>rfl];unfold GJ;generalize s.ϱ.J=l;induction l with
  |nil=>show Ad.Ϧ
  |cons c l o=>show Ad.Ο (by erw[AB]) o
 |_=>ext e
@[simp]def Gf(f g:AH):VE->Ba:=λa=>match(f a).L Fa,(g a).L Fa with
  |some b,Z c=>Z (DA (λx y=>D.Q [x,y]) b c)
  |_,_=>J
def
wQ{K:Ap}{M N:Fb}{H:Hp}{S T:AU}{ys:U D}{us:U V}(h:Ad K N H xs us)(j:Ad K N H ys vs)(n:∀c b,Step M N c H b->S.sq K b us)(o:∀c b,Step M N c H b->T.sq K b vs):M2 K M N H (fw K S T) (DA (λx y=>D.Q [x,y]) xs ys):=λc b St i=>by
 let e:=n _ _ St;let f:=o _ _ St;apply#[λd a=>?_,λa=>#[us,vs,e,f,?_]]
 .rw[List.getElem?_zipWith]at a;cases ex:xs[i]? with|none=>rw[ex]at a;cases a|some x=>
   cases g:ys[i]? with|none=>rw[ex,g]at a;cases a|some y=>
    rw[ex,g]at a;ext a;let(u,k,q):=(Ad.Ϙ St _ _ h).ό ex;let(v,l,r):=(Ad.Ϙ St _ _ j).ό g;apply#[#[us,vs,u,v,e,f,k,l],λz C s=>?_];let(p,E,G,t,m,w,A,B):=s;have:=A us e;rw[k]at this;ext this;have:=B vs f;rw[l]at this;ext this;subst t w;show#[bM m,OJ m<|Ad.Ο q<|Ad.Ο r Ad.Ϧ]
 .let l1:=h.a;let F:=j.a;erw[List.length_zipWith]at a;lia
variable {M:Fb}{f g:AH}{a b:Expr}{p þ:Az}
open J in
def
wR {x1} (hg:Gl X "zip") (hm:X.mg "zip"=J) (E:JE X a (tQ X.K M H0 f)) (l:JE X b (tQ X.K M H0 g)) (Y:↑(AQ [a,b] X.G=[(O',As a X.G),(O',As b X.G)])) (c:↑(AQ [b] X.G=[(O',As b X.G)])) (G:↑(AQ [] X.G=[])):JI X (.Tuple elts x1 þ) (.Φ (.γ "zip" p) [a,b] [] pos) (tI X.K M H0 (Gf f g)):=#[have E:=E.h;let l:=l.h;by
 intro o s t H Q zA #[d,ds,R,e,q];unfold Gf at e;split at e
 .next xs ys ex y=>
  ext e;cases F:f d with|none=>rw[F]at ex;cases ex|some d1=>
   cases i:g d with|none=>rw[i]at y;cases y|some d2=>
    rw[F]at ex;rw[i]at y;apply Call_<|H9 zA hg hm wP<|Oe (A8 ((EQ E (EQ l Bq (by rw[c,G])) (by rw[Y,c])) pos o s t H (λvs m=>∃S T u w,vs=[AU.v S,AU.v T]/\Ak H m/\Ad X.K (Nf M d t) m xs u/\Ad X.K (Nf M d t) m ys w/\(∀A n,Step M (Nf M d t) A m n->S.sq X.K n u)/\∀A n,Step M (Nf M d t) A m n->T.sq X.K n w) zA ?_) λu L ⟨vs,H1,x,r1,N⟩=>?_) (by rw[Y,c]) (by rw[c];rfl)
    .apply#[d,d1,R,F,λv1 H1 z1 N=>#[d,d2,R.st z1,i,λv2 m P q2=>?_]];let(S,u,e1,j,B):=VF N ex;let(T,w,e2,k,C):=VF q2 y;show#[S,T,u,w,by rw[e1,e2],z1.I P,j.δ P,k,λA n St=>B _ _<|(Step.ϑ P).I St,C]
    .let(S,T,us',w,rfl,z,j,k,B,C):=N;cases r1 with
     |cons r W=>
      cases W with
      |cons r' W=>
       ext W;let o1:=S.of x<|B _ _ Step.refl;let o2:=T.of x<|C _ _ Step.refl;apply wN r r' o1 o2 λh' a1 a2 a3 a4 a5 kp=>wpAny_pyIter_zip a1 ?_;apply#[_,_,_,_,H1,rfl,x.ϲ (t':=L.Ζ) kp,wO S T L.r.O.o (S.lt o1)<|T.lt o2,⟨a1,a2,⟨_,_,a3⟩,a4,a5⟩,λb l=>?_,q _ _ z<|wQ j k B C];let hl:L.r.O.o<=b:=by
        erw[BJ,G6,or_false]at l;rcases l with rfl|rfl|rfl|rfl|rfl<;>(show @LE.le I _ _ _;lia)
       show x.fpOk hl<|x.ϧ.Τ hl
 .cases e]
end
open PySem.W
set_option genInjectivity false in
structure Q4 where
 k:KT
 kv:V
 b:Ac
 z:List D
def q3(q:Q4):T3:=(q.k,q.kv,.C q.b)
def qz(q:Q4):KT×U D:=(q.k,q.z)
section
open J in
end
structure MI(K:Ap)(C:Ac)(nm qual:Ae)(st:Ay)(ps:List Ae)(a:Ac)(fd:Cm):V' where
 M:J8 K C nm a
 F:Ih K nm qual st a fd
 b:Binds K fd ps []
def
mi{K:Ap}{nm b:Ae}{st:Ay}{h:U Ae}{m:Aa}{n f:O Ac}{j:Array (O Aa)}{g e pm d ct:Aa} (A:findIn K (.C C) nm=Z (Z (.C a))) (i:isFn K (.C a)=J') (l:K.S a=Z #[m,n,.func (fnOf nm b (Ig st) (ZJ st) (Zg st) .Β g e pm f d ct),j]) (c:codeIn K d b=J') (k:keepIn K (.C a)=J') (o:∀(g e pm:Aa) (f:O Ac) (d ct:Aa) (us:U Aa),us.a=h.a->bindArgs (fnOf nm b (Ig st) (ZJ st) (Zg st) .Β g e pm f d ct) #[us,[]]=Am (h.zip us):=by
   exact λ_ _ _ _ _ _=>eU (by(repeat intro _);rfl)):MI K C nm b st h a (fnOf nm b (Ig st) (ZJ st) (Zg st) .Β g e pm f d ct):=#[#[A,i,k],bD l c k,.ϝ<|o g e pm f d ct]
structure CI(K:Ap)(mg:Bt)(c:Ae)(C:Ac):V' where
 cof:BF K BZ c=Z (Z (.C C))
 cl:E4 K C
 m:mg c=Z (.C C)
 mks:makesIn K C=J'
 kp:keepIn K (.C C)=J'
def
ci{K:Ap}{mg:Bt}{h:Al}{c:Ae}(X:K.In h)(G:h.Ns BZ mg)(A:BF K BZ c=Z (Z (.C C)))(pg:plainGet K C Str.empty=J')(hd:hasDictIn K C=J')(po:plainOver K C=J')(sa:findIn K (.C C) "__setattr__"=Z (Z (.ξ "object.__setattr__")))(a:makesIn K C=J')(b:keepIn K (.C C)=J'):CI K mg c C:=#[A,#[pg,hd,po,sa],mg_of X G A,a,b]
def
CI.mkB{K:Ap}{mg:Bt}{b:Ae}{st:Ay}{d:U Ae}{fd:Cm}{c':Ae}(c:CI K mg c' C)(q:MI K C "__init__" b st d a fd):Mk K C a:=#[c.mks,q.M.at_,q.M.fn,c.kp]
def
wT{K:Ap}{k:I}{fn:Ac}{fd:Cm}{b:U Ae}{nm a:Ae}{st:Ay}{P:AN}{w:Ai}{mg:Bt}{base:Al}{N:U Ae}{g f:Av}(D:MI K C nm a st b fn fd)(S:Z2 N b (Zg st)) (h:∀(c:Aa) (A:Ag) (outer:U Env) (s:Ab) (H:Hp) (E:XK) (M:Fb) (H0:Hp),AJ k (A.ϖ (A7 a (Zg st) s.r.O.o fn c))->JB (CV Bi P w K mg base N a (Zg st) fn c A outer s H E).nox (ZJ st) (tS K M H0 f)) (e:↑(f=g)) (d:⇑(b.a<=N.a)):AY P w K mg base Bi (k+1) fn fd b (A6 K (AT b.a N.a g)):=ce D.F S d<|e ▸ h
variable {M:Fb}{l:Expr}{f:AH}{b:D->VE->O VE}{t:VE->O q'}{e:AH}
open J in
def
fA{n:I}{ø:U I}(hw:∀j∈ws,j<n){E:A1}{s:Ab}{H:Hp}{Q:VK}(W:Inv X E Y' H s)(h:tF X.K M H0 (Zi n ø (λρ=>(f ρ).L GI) b t e) Y' H Q):QQ n ø (fj X.K (tQ X.K M H0 f)) (OD X.K ws b) (OE X.K t) (OG X.K e) Y' H (λv=>Cv X (Q v)):=by
 let(ρ,N,R,g,q):=h;unfold Zi at g;dsimp only at g;cases P:f ρ with|none=>rw[P]at g;cases g|some d=>
 rw[P]at g;erw[Eg]at g;cases i:GI d with|none=>rw[i]at g;cases g|some ds=>
 rw[i]at g;unfold GI at i;split at i
 .next ys=>
  cases T:EU ys with|none=>rw[T]at i;cases i|some G=>
  rw[T]at i;ext i;apply#[ρ,_,R,P,λv r C dq=>?_];rw[HK T]at dq;let(a,u,rfl,hN,hr,dl):=dq;let(tr,dc,pd):=Kx hr dl;apply#[a,tr,rfl,dc,λo hz=>?_];let S:=R.st C;let fin:∀m,Bw X.K M m ρ Y' (DL a o (Et tr) r)->(∀p u A,Ak (DL a o (Et tr) r) A->DL a o (Et tr) r p=J->A p=Z (CO X.K .l p N u)->Ad X.K (λb=>Nf M ρ Y' b\/b=p) A N u->Cv X (Q<|.C p) A) ->
    UE n ø (OD X.K ws b) (OE X.K t) (OG X.K e) (RP a o (Et tr)<|tr.map λt=>t.2.1) Y' (DL a o (Et tr) r) (λv=>Cv X<|Q v):=λm R2 q2=>by
   let(ρ',ds',R',e',k):=(OH (K:=X.K) (M:=M) (H0:=m) (f:=λ_=>Z<|G.map λ(p:KT×D)=>kD p.1) (b:=b) (t:=t) (e:=e) (ø:=ø) (k:=n) hw (wi:=tI X.K M m λ_=>Z<|G.map λ(p:KT×D)=>kD p.1) (λ_ _ _ z=>z) (Y':=Y') (H:=DL a o (Et tr) r) (Q:=λv=>Cv X<|Q v) ⟨ρ,N,R2,g,q2⟩);ext e';show k _ _ (Ak.χ _)<|wD pd hz
  rcases dc.1 with F|⟨o',F⟩
  .apply fin _ (S.fz rfl F<|wE S hN) λp u A sm Y L B=>?_;let hf':=sm a _<|Mh F;apply .inr ⟨a,o,Et tr,W.plain2 C F rfl,hf',q p u _ (λc w e=>?_) (C.Β<|DY.mp Y) (fg L<|fh _ _ _ _ _) (Ad.rd (λb v L h=>Rd.ufz L h) _ _ B)⟩;let e1:=C c w e;by_cases y:c=a
   .grind [VC]
   .rw[RO λx=>y x.1];show sm c w (by rw[IC λx=>y x.1];show e1)
  .let e:DL a o (Et tr) r=r:=funext λb=>IC (by rintro⟨rfl,y⟩;rw[F]at y;ext y);rw[e]at fin ⊢;show fin _ S λp u A sm Y L B=>.U<|q p u A (C.I sm) (C.Β Y) L B
 .cases i
variable(own outs:U Ae)(ø:U I)(S:Jd own outs scope X.G.Δ)(hox:ø.j (λj=>X.N[j]?)=outs.j Z)(hc:X.Ϸ=J')
include S hox hc
def
wU(k:JE X l (tQ X.K M H0 f)) (d:CB X.K X own outs scope tg ifs elt ws b t e) (m:∀j∈ws,j<own.a) (n:↥(∀x,Fg l X.G x=Am x:7)):JE X (.Ξ elt [#[tg,l,ifs,0]] scope pos) (tF X.K M H0 (Zi own.a ø (λρ=>(f ρ).L GI) b t e)):=#[λc s p H Q B h=>by
 apply A8 (bH own outs ø S hox hc (fm k.h) d.g d.t d.e n c s p H (λv=>Cv X<|Q v) B (fA m B h)) λu A h=>?_;let(v,q,i,r,z):=h;rcases z with z|⟨a,o,u,w,y,z⟩
 .show#[v,q,i,r,z]
 .show#[v,_,i.ufz y w,r,z]]
def
wV{i:I}{x:Ae}{a c:Az}(o:X.N.μ)(k:X.N[i]?=Z x)(p:X.G.Δ.ρ.S x=Z .ϐ)(q:JE X l (tQ X.K M H0 f)) (m:CB X.K X own outs scope tg ifs elt ws b t e) (r:∀j∈ws,j<own.a) (n:↑(DR (.Ξ elt [#[tg,l,ifs,0]] scope pos) (Z (.γ x a)) c.ϩ X.G=Am J')) (u:↥(∀x,Fg l X.G x=Am x:7)):JS X (.ϥ [.γ x a] (.Ξ elt [#[tg,l,ifs,0]] scope pos) c) (tS X.K M H0 λρ=>ZX i (Zi own.a ø (λρ=>(f ρ).L GI) b t e ρ) ρ):=#[λd s v H D w h=>A8 (QT own outs ø S hox hc o k p (fm q.h) m.g m.t m.e n u d s v H (D.cv X) w<|fA r w<|UN h) λ_ _ h=>SP.cv h]
end
variable {P:AN}{w:Ai}{T:Type}[DecidableEq T]{hk:HeapKind P w T}{A:Ag}{s:Ab}{us:U (T×Ac×Aa)}
def
wX(hk:HeapKind P w T)(b:(a==Hn)=O'):MeetsIn P w (Fl.«dict.__len__» #[[.C a],[]]) (λ_ R t=>∃us,t.r.DictOfH hk a us/\R (.ok (.Ϯ (.u us.a t.Ζ))) {t with toks:=t.Ζ+1}):=.of_wp λA R t c=>by
 let(us,(o,g,h,d,_,e,f,_),q):=c;rw[(size_of_entries f).Γ]at q;change wpAny _ _ (dictSize a >>= _) _ _ t;unfold dictSize;apply Ao<|Ao<|wpAny_dictEntries d e<|A0 (?_:wpAny _ _ (Builtin.Dict.pendingCount a >>= _) _ _ t);show Ao<|wpAny_pendingCount_other b<|wpAny_ret_mkInt (by rw[Nat.add_zero];show q)
def
wY{Q:AV}(c:(a==Hn)=O')(d:s.r.DictOfH hk a us)(z:(us.a:W')<2^63)(q:Q (.u us.a (s.Ζ+1)) {s with toks:=s.Ζ+1+1}):wpAny (Af P w) A (Fl.«len» #[[.C a],[]]) (λf t=>∃r,f=.ϕ (.Ϯ r)/\Q r t) E s:=by
 unfold Fl.«len»;apply Ao (m:=oneArg "len" _) (A0<|Ao (m:=callSpecial? (.C a)<|Kc "__len__") (MR (name:=Kc "__len__") d.ϟ F.slot_dict_len (call_meetsIn F.slot_dict_len d.ϟ F.entry_dict_len (F.args_dict_len_1 _) (wX hk c) #[us,d,?_])));change wpAny _ _ _ _ _ {s with toks:=s.Ζ+1};apply Ao<|Gv<|A0<|Ao<|wpAny_letGo ?_;change wpAny _ _ (if((us.a:I):W')<0 then _ else _) _ _ _;change wpAny _ _ (if((us.a:I):W')≥2^63 then _ else _) _ _ _;rw[if_neg (by show Int.not_le.Ϛ z:¬ ((us.a:I):W')≥2^63)];show Ao<|wpAny_mkInt<|A0 ⟨_,rfl,q⟩
end
variable {K:Ap}
def
wZ:EO X (.ξ "len") (λxs H Q=>∃a tr,xs=[.C a]/\C3 X.K H a tr/\(∀t∈tr,∃l,t.1=KT.Q l)/\Q (.u tr.a) H):=by
 intro c s i H xs d Q j r zQ;let(a,tr,rfl,hd,e,q):=zQ;let(u,rfl,f):=FL r;ext f;let(z,g,nd,d,b,h):=Ng j hd e;apply fB kind_len plain_len entry_len (args_len1 _)<|wY g h (by rw[<- (Hm b)];rw[IX]at z;lia) ?_;rw[<- (Hm b)];show⟨.u _,H,j.tok _,⟨_,rfl⟩,q⟩
def NA:Ez
 |[.lst b .d]=>(EU b).L λa=>if a.ϝ (λp=>!Fs p.1)then Z (.u a.a)else J
 |_=>J
open J in
def
w5:Gx K (λxs H Q=>∃a tr,xs=[.C a]/\C3 K H a tr/\(∀t∈tr,∃l,t.1=KT.Q l)/\Q (.u tr.a) H) NA:=by
 intro N H m n d Q o h e q;unfold NA at e;split at e
 .next xs=>
  let(c,f,e):=B8.mp e;let(g,e):=ZV e;ext e;let(v,rfl,b):=Paired.one' h;rw[HK f]at b;let(p,s,rfl,r,hd):=b;let(tr,i,j):=Kx r hd;apply#[p,tr,rfl,i,j.hom (k:=.Q []) (by simpa[DU,Fs]using g),?_];grind [Hm,Ak.refl,Ga]
 .cases e
end
end Internal
namespace Internal
open PySem PySem.Spec PyProof.Rows
variable {prog:AN}{w:Ai}{A:Ag}{s:Ab}
abbrev VG(i:Ac):Obj:={cls:=.ε "enumerate",data:=.ϊ (T' [.Β,.Ϥ O',.C i,AO 0,.Β,.Β])}
open J in
def
w6(S:AU)(a:RelV S.v u)(xs:U V):Meets (Fl.«enumerate.__new__» #[[.ε "enumerate",u],[]]) (λ_ R s=>S.ok s.r xs/\R (.ok (.Ϯ (.C (s.r.Ι (S.obj u)).O.o))) {s with heap:=(s.r.Ι (S.obj u)).Ι (VG s.r.O.o)}):=.of_wp λprog w A R s h=>by
  let(b,g,d,f,os):=s;let(e,q):=h;let i:=sub_enumerate;wp_walk using S.pyIter a e;apply wpAny_stack_any λst=>A0 ?_;split
  .rename_i c _ _ _ _ _;cases(c==J2 "enumerate")
   .wp_walk using S.pyIter a e;show#[_,rfl,q]
   .wp_walk using S.pyIter a e;show#[_,rfl,q]
  .wp_walk using S.pyIter a e;show#[_,rfl,q]
def
w9{S:AU}(c:RelV S.v u){xs:U V}{Q:AV}(p:S.ok s.r xs)
  (q:∀h',IsEnum h' (s.r.O.o+1) s.r.O.o 0 .Β->S.it h' s.r.O.o 0->(∀b o,s.r.R b=Z o->h'.R b=Z o)->Q (.C (s.r.O.o+1)) {s with heap:=h' }):wpAny (Af prog w) A (call (.ε "enumerate") [u]) Q E s:=by
 let d:(s.r.Ι (S.obj u)).O.o=s.r.O.o+1:=LC ..
 let f:IsEnum ((s.r.Ι (S.obj u)).Ι (VG s.r.O.o)) (s.r.O.o+1) s.r.O.o 0 .Β:=by
  have:=Cq (s.r.Ι (S.obj u)) (o:=VG s.r.O.o) rfl
  rw[d]at this;show this
 let a:=q _ f (S.itAt (S.new (h:=s.r) c) λo e=>By _ e) λb o e=>By _ (By _ e)
 apply callType_new PySem.F.called_enumerate (by ext) (PySem.F.typeCall_enumerate_1 _) (PySem.F.newCall_enumerate_1 _) (λobj=>PySem.F.args_object_init_2 obj _) PySem.F.entry_enumerate_new (w6 S c xs) #[p,?_]
 change _/\_
 rw[d]
 show#[#[_,f,rfl],a]
variable {e it:Ac}{fa:U Ac}{n k:I}{sa:I->Al->V'}{old:Aa}
def
xa{Q:O Aa->Ab->V'}(SA:ID prog w it fa n isA sa)(a:IsEnum s.r e it k old)(ha:sa k s.r)(kn:k<n)(u:e≠it)(hfe:e∉fa) (q:∀x h' t' v,isA k x->IsEnumOut h' e it ((k:W')+1) x s.r.O.o->sa (k+1) h'->h'.R s.r.O.o=Z {cls:=.ε "tuple",data:=.Ϲ (T' [.u k t',x])}->(∀b o,b≠e->b≠it->s.r.R b=Z o->h'.R b=Z o)->Q (Z (.C s.r.O.o)) {s with heap:=h',toks:=v}):wpAny (Af prog w) A (pyNext (.C e)) Q E s:=by
 let(i,g,d,tk,os):=s;apply Ao<|Pc<|MR (name:=Kc "__next__") #[_,a,rfl] VH (LL VH #[_,a,rfl] PySem.F.entry_enumerate_next ?_<|PySem.F.args_enumerate_next_1 _);let fr:∀{h h':Al},sa (k+1) h->(∀b o,b≠e->h.get? b=Z o->h'.get? b=Z o)->sa (k+1) h':=λst kp=>SA.xv _ _ _ st λb c o x=>kp b o (by
  grind) x
 change wpAny _ _ (field (.C e) 2 >>= _) _ _ _
 apply Ao<|Ed a rfl (x:=.ref it) rfl ?_;apply Ao<|SA.item _ _ _ k _ kn ha λx y j hx a1 l=>?_;replace l:En it i y:=l;let B:IsEnum y e it k old:=(l.2 e u).I a;apply Ao<|Ed B rfl (x:=AO k) rfl ?_;apply Ao<|Ed B rfl (x:=.none) rfl ?_;apply Ao<|wpAny_mkInt ?_;apply Ao<|IE B (by simp) λC G m=>?_;replace m:En e y C:=m;replace G:IsEnum C e it ((k:W')+1) old:=G;apply Ao<|IE G (by simp) λf H p=>?_;replace p:En e C f:=p;replace H:IsEnum f e it ((k:W')+1) old:=H;apply Ao<|wpAny_newTuple ?_;let sz:f.O.o=i.O.o:=by rw[p.1,m.1,l.1]
 let r:IsEnum (f.Ι {cls:=.ε "tuple",data:=.Ϲ (T' [.u k j,x])}) e it ((k:W')+1) old:=By _ H;let t4:(f.Ι {cls:=.ε "tuple",data:=.Ϲ (T' [.u k j,x])}).R i.O.o=Z {cls:=.ε "tuple",data:=.Ϲ (T' [.u k j,x])}:=sz ▸ Cq _ rfl;let k4:∀b o,b≠e->b≠it->i.R b=Z o->(f.Ι {cls:=.ε "tuple",data:=.Ϲ (T' [.u k j,x])}).R b=Z o:=λb o a S c=>
  By _<|p.Α b o a<|m.Α b o a<|l.Α b o S c
 let a4:sa (k+1) (f.Ι {cls:=.ε "tuple",data:=.Ϲ (T' [.u k j,x])}):=fr a1 λb o c z=>By _<|p.extBut b o c<|m.extBut b o c z;generalize (f.push {cls:=.type "tuple",data:=.seq (T' [.int k j,x])})=h4 at r t4 k4 a4 ⊢;rw[sz];apply Ao ?_;apply Ao<|Ed r rfl (x:=.none) rfl (A0 ?_);apply Ao<|F5 ?_;apply Ao<|Ed r rfl (x:=old) rfl ?_;apply Ao<|IE r (by simp) λK L M=>?_;replace M:En e h4 K:=M;replace L:IsEnum K e it ((k:W')+1) x:=L;apply Ao ?_;apply Ao<|IE L (by simp) λN P T=>?_;replace T:En e K N:=T;replace P:IsEnumOut N e it ((k:W')+1) x i.O.o:=P;apply IE P (by simp) λt R Y=>?_;replace Y:En e N t:=Y;replace R:IsEnumOut t e it ((k:W')+1) x i.O.o:=R;let up:∀b o,b≠e->h4.R b=Z o->t.R b=Z o:=λb o c z=>Y.Α b o c<|T.extBut b o c<|M.extBut b o c z;apply Ao<|wpAny_letGo<|A0 ⟨_,rfl,A0<|q x t _ _ hx R (fr a4 up) (up _ _ (Ia<|BB a) t4) λb o a S z=>up b o a<|k4 b o a S z⟩
def
xc{Q:O Aa->Ab->V'}(d:A.ϡ=J)(f:ID prog w it fa n isA sa)(a:IsEnum s.r e it k old)(g:sa k s.r)(h:n<=k) (q:∀h',Heap.ExtBut it s.r h'->Q J {s with heap:=h' }):wpAny (Af prog w) A (pyNext (.C e)) Q E s:=by
 apply Ao<|Pc<|MR (name:=Kc "__next__") #[_,a,rfl] VH (LL VH #[_,a,rfl] PySem.F.entry_enumerate_next ?_<|PySem.F.args_enumerate_next_1 _);change wpAny _ _ (field (.C e) 2 >>= _) _ _ _
 apply Ao<|Ed a rfl (x:=.ref it) rfl ?_;apply Ao<|f.fin _ _ _ k _ (by show d) h g λh' x i j=>?_;let(o,l,m):=j;show Ao<|wpAny_isInstance (T:="StopIteration") (b:=J') #[o,l,m] isSubtype_stop (A0<|q _ i)
def
xf{a:U Expr} {b} {i:W'} {v:Aa} {T:Ac} (hz:IsEnumOut s.r e it i v T) (q:∀h',IsEnum h' e it i v->En e s.r h'->Q () {s with heap:=h' }):wpAny (Af prog w) A (letOwnedTupleGo (.Tuple a b pos) (.C e) (.C T)) Q E s:=by
 apply Ao<|wpAny_load hz ?_;change wpAny _ _ (if(["enumerate","zip","dict_itemiterator","dict_reverseitemiterator","odict_iterator","itertools.zip_longest","itertools.pairwise"].Μ "enumerate"&&((T' [AO T,.Ϥ O',.C it,AO i,.Β,v]):Array Aa)[0]?==Z (AO T))=J' then _ else _) Q E s
 rw[if_pos (by simp)];show Ao<|F5<|IE hz (by simp) λh' z sb=>q h' z sb
end
end
def fC(K:Ap)(S:AU):It:=
 #[λi H=>∃a x,S.sq K H a/\a[i]?=Z x,
  λi H v b=>∃p x,v=.C p/\H p=J/\b=AX H p (.Q [.u i,x])/\(∀a,S.sq K H a->a[i]?=Z x),
  λi H=>∃a,S.sq K H a/\a.a<=i]
def
xg{P:AN}{w:Ai}{K:Ap}{g:U Expr} {T} (S:AU) (n:I) (W:∀b∈S.fp,b<n):Ib P w K (.Tuple g T pos) (fC K S) [n+1,n] (n+1) (λi h=>(∃f,IsEnum h (n+1) n i f)/\S.it h n i) where
 mem:=by simp
 obj:=λi h Y q a=>by
  let((x,z),c):=Y;erw[BJ,G6,or_false]at a;rcases a with rfl|rfl
  .show#[_,z,λv e=>nomatch (show Data.ϊ _=Data.Υ v from e)]
  .show S.itOb c
 keep:=λi h m ⟨⟨x,z⟩,c⟩ k=>#[#[x,k _ (by simp) _ z],S.itAt c λo e=>k _ (by simp) o e];item:=by
  intro X t u y L i d s M H E zA p #[#[f,z],c] #[xs,x,r,ex];subst t u y;let(sa,A,B,N):=S.sub (P:=X.Y) (w:=X.w) (i:=n) (S.of zA r);let hlt:n+1<s.r.O.o:=BB z;apply xa A z (B _ c) ((Dk.mp ex).1) (by(show @Ne I _ _;lia)) (λz=>absurd (show @LT.lt I _ _ _ from W _ z) (by change ¬ @LT.lt I _ _ _;lia)) λR m t1 Q C z' c' new kp=>?_;let(x2,j,G):=C;rw[ex]at j;ext j;apply#[_,rfl,xf (s:={s with heap:=m,toks:=Q}) z' λl z2 sb=>?_];let F:∀q o,q≠n+1->m.R q=Z o->l.R q=Z o:=λq o a e=>sb.Α _ _ a e;let I1:Inv X d M (AX H s.r.O.o<|.Q [.u i,x]) {s with heap:=l}:=by
   show zA.yielded p (λq o a e=>F q o (λz=>a (by simp[z])) (kp q o (λz=>a (by simp[z])) (λz=>a (by simp[z])) e)) (A4 _) #[show 2<=AE by ext,[.u i t1,R],.Ο #[_,rfl]<|.Ο G .Ϧ,⟨_,F _ _ (by(show @Ne I _ _;lia)) new,rfl,_,rfl⟩]
  apply#[.C s.r.O.o,_,I1.tok Q,rfl,#[_,x,rfl,zA.ϧ.Τ<|A4 _,rfl,λzs hz=>S.inj zA hz r ▸ ex],#[#[R,?_],S.itAt (N _ _ c') λo e=>F _ o (by(show @Ne I _ _;lia)) e],λq a=>?_]
  .have:((i+1:I):W')=(i:W')+1:=∅
   show z2
  rw[Zr]
  .show(p q a).1
  .erw[BJ,G6,or_false]at a;rcases a with rfl|rfl<;>(show @Ne I _ _;lia)
 done:=by
  intro X t u y L i d s M H E zA p #[#[f,z],c] #[xs,r,hl];subst t u y;let(sa,A,B,N):=S.sub (P:=X.Y) (w:=X.w) (i:=n) (S.of zA r);apply xc (zA.ok.hd L) A z (B _ c) hl λm kp=>#[rfl,zA.turnedL p λq o a e=>kp q o (λz=>a (by simp[z])) e]
 self:=λ_ _ _ _ _ ⟨⟨_,z⟩,_⟩ q=>wpAny_pyIter_enum z q
@[simp]def Jy(f:AH):VE->Ba:=λa=>match(f a).L Fa with
  |some b=>Z (DG 0 b)
  |none=>J
def
xh{K:Ap}{M N:Fb}{H:Hp}{S:AU}{us:U V}(e:Ad K N H xs us)(j:∀f b,Step M N f H b->S.sq K b us):M2 K M N H (fC K S) (DG 0 xs):=λf b St i=>by
 let c:=j _ _ St;apply#[λd a=>?_,λa=>#[us,c,?_]]
 .rw[c7]at a;let(x,ex,a):=B2.mp a;ext a;let(u,g,k):=(Ad.Ϙ St _ _ e).ό ex;apply#[#[us,u,c,g],λz q l=>?_];let(p,r,m,h,n,o):=l;have:=o us c;rw[g]at this;ext this;subst m n;show#[bM h,OJ h<|Ad.Ο (by simp[AB])<|Ad.Ο k Ad.Ϧ]
 .let l1:=e.a;rw[U3]at a;lia
variable {M:Fb}{f:AH}{a:Expr}{p þ:Az}
open J in
def
xi {N} (P:Gl X "enumerate") (T:X.mg "enumerate"=J) (l:JE X a (tQ X.K M H0 f)) (A:↑(AQ [a] X.G=[(O',As a X.G)])) (m:↑(AQ [] X.G=[])):
  JI X (.Tuple elts N þ) (.Φ (.γ "enumerate" p) [a] [] pos) (tI X.K M H0 (Jy f)):=#[have l:=l.h;by
 intro d s n H Q zA #[i,ds,R,e,q]
 unfold Jy at e
 split at e
 .next W ex=>
  ext e
  cases o:f i with
  |none=>rw[o]at ex;cases ex
  |some Y=>
   rw[o]at ex
   let t:=EQ l Bq (by rw[A,m])
   apply Call_ (H9 zA P T uo (Oe (A8 (t pos d s n H (λB u=>∃S g,B=[AU.v S]/\Ak H u/\Ad X.K (Nf M i n) u W g/\(∀N2 C,Step M (Nf M i n) N2 u C->S.sq X.K C g)) zA ?_) λg w ⟨B,E,j,r1,x⟩=>?_) A rfl))
   .apply#[i,Y,R,o,λv1 E z1 x=>?_]
    let(S,g,y,c,k):=VF x ex
    show#[S,g,by rw[y],z1,c,k]
   .let(S,us',y,z,c,k):=x
    subst y
    cases r1 with
    |cons r rr=>
     ext rr
     let G:=S.of j (k _ _ Step.χ)
     apply w9 r G λh' a1 a4 kp=>wpAny_pyIter_enum a1 ?_
     apply#[_,_,_,_,E,rfl,j.ϲ (t':=w.Ζ) kp,xg S w.r.O.o (S.lt G),#[#[_,a1],a4],λb F=>?_,q _ _ z (xh c k)]
     let L:w.r.O.o<=b:=by
      erw[BJ,G6,or_false]at F
      rcases F with rfl|rfl<;>(show @LE.le I _ _ _;lia)
     show j.fpOk L (j.ϧ.Τ L)
 .cases e]
end
open PySem.W
inductive IV where
 |no|val (d:D)|cel (n:I)|exc (c:Ae)
inductive Cl where
 |dead|dat (k:Kd) (xs:List D)|mix (k:Kd) (xs:List IV)
abbrev Gh:=U Cl
variable{FX:U IV->Gh->O Ae}{G':Gh}
abbrev IS:=U IV×Gh
variable{gx:IS->O (IV×Gh)}{gp:IS->O I}{h1:IS->O Ae}{gf:IS->O (U D)}
@[simp]def un:IV->D
  |.val d=>d
  |_=>.Ε
@[simp]def Cl.kd:Cl->O Kd
  |.dead=>J
  |.dat k _=>Z k
  |.mix k _=>Z k
def LV(φ:I->Ac)(G:Gh):Fb:=λa=>∃n c k,G[n]?=Z c/\c.kd=Z k/\φ n=a
def Bd(K:Ap)(φ:I->Ac)(L:I)(N:Fb)(H:Hp):IV->V->V'
 |.no,_=>False
 |.val d,v=>AB K N H d v
 |.cel n,v=>n<L/\v=.C (φ n)
 |.exc c,v=>∃a C,v=.C a/\BF K BZ c=Z (Z (.C C))/\H a=Z (.ext (FR a C))
def VI(K:Ap)(φ:I->Ac)(L:I)(N:Fb)(H:Hp)(a:Ac):Cl->V'
 |.dead=>True
 |.dat k b=>∃c,H a=Z (CO K k a b c)/\Ad K N H b c
 |.mix k b=>∃c,H a=Z (CO K k a (b.j un) c)/\Paired (Bd K φ L N H) b c
structure Bx(K:Ap)(φ:I->Ac)(G:Gh)(H:Hp):V' where
 cell:∀n c,G[n]?=Z c->VI K φ G.a (LV φ G) H (φ n) c
 inj:∀n m c c' k k',G[n]?=Z c->G[m]?=Z c'->c.kd=Z k->c'.kd=Z k'->φ n=φ m->n=m
structure Bb(K:Ap)(φ:I->Ac)(s:IS)(Y':St)(H:Hp):V' where
 len:s.1.a=Y'.a
 g:Bx K φ s.2 H
 slot:∀(i:I) (x:IV),s.1[i]?=Z x->x=.no\/∃v,Y'[i]?.join=Z v/\Bd K φ s.2.a (LV φ s.2) H x v
structure Go(φ:I->Ac)(G:Gh)(H:Hp)(φ':I->Ac)(G':Gh)(H':Hp):V' where
 ext:∀n,n<G.a->φ' n=φ n
 len:G.a<=G'.a
 st:Step (λ_=>False) (LV φ G) (LV φ' G') H H'
variable {K:Ap}{φ2:I->Ac}{G G1 G2:Gh}{H H2:Hp}{s:IS}
def
Go.same(sm:Ak H H'):Go φ G H φ G H':=#[λ_ _=>rfl,A4 _,Step.ϑ sm]
def
Go.trans(a:Go φ G H φ1 G1 H1)(b:Go φ1 G1 H1 φ2 G2 H2):Go φ G H φ2 G2 H2:=#[λn h=>(b.ext n<|BY h a.϶).I<|a.ext n h,Bu a.϶ b.϶,a.st.I b.st]
def
Bd.go(g:Go φ G H φ1 G1 H1){x:IV}{v:V}(h:Bd K φ G.a (LV φ G) H x v):Bd K φ1 G1.a (LV φ1 G1) H1 x v:=by
 cases x with
 |no=>show h
 |val d=>show AB.Ϙ g.st d v h
 |cel n=>show#[BY h.1 g.϶,g.ext n h.1 ▸ h.2]
 |exc c=>let(a,C,e,b,f):=h;show#[a,C,e,b,g.st.kp _ _ f<|.φ<|.φ rfl]
def
Bx.same(R:Bx K φ G H)(sm:Ak H H'):Bx K φ G H':=#[λn c e=>by
 let h:=R.Υ n c e;cases c with
 |dead=>trivial
 |dat k f=>let(a,b,d):=h;show#[a,sm _ _ b,d.δ sm]
 |mix k f=>let(a,b,d):=h;show#[a,sm _ _ b,Paired.mapP d λ_ _ q=>Bd.go (Go.δ sm) q],R.inj]
def
Bb.go(R:Bb K φ s Y' H)(a:Bx K φ1 G1 H1)(g:Go φ s.2 H φ1 G1 H1):Bb K φ1 (s.1,G1) Y' H1:=#[R.϶,a,λi x e=>(R.Ϡ i x e).imp id λ⟨v,b,c⟩=>#[v,b,c.go g]]
def
Bb.same(R:Bb K φ s Y' H)(sm:Ak H H'):Bb K φ s Y' H':=R.go (R.g.δ sm)<|Go.δ sm
def
Bx.has(R:Bx K φ G H){n:I}{c:Cl}{k:Kd}(e:G[n]?=Z c)(a:c.kd=Z k):∃xs vs,H (φ n)=Z (CO K k (φ n) xs vs):=by
 let h:=R.Υ n c e;cases c with
 |dead=>cases a
 |dat k xs=>ext a;let(vs,b,_):=h;show#[_,vs,b]
 |mix k xs=>ext a;let(vs,b,_):=h;show#[_,vs,b]
def
Bx.nh(R:Bx K φ G H)(h:LV φ G a):H a≠J:=by
 let(n,c,k,e,b,rfl):=h;let(d,f,q):=R.has e b;simp_all
end
@[simp]def vk:I->Kd->q'
  |0,_=>O'
  |1,.l=>O'
  |_,_=>J'
@[simp]def Po:U (O D)->Ba
  |[]=>Z []
  |o::r=>Zl o (Po r)
@[simp]def tr(m:I)(G:Gh):I->IV->O D
  |_,.val d=>Z d
  |f+1,.cel n=>match G[n]? with
   |some (.dat k a)=>if vk m k=J' then Z (.X a k)else J
   |some (.mix k a)=>if vk m k=J' then(Po (a.j (tr m G f))).j λl=>.X l k else J
   |_=>J
  |_,_=>J
@[simp]def EY(m:I)(G:Gh):IV->Sl
  |.val d=>.B d
  |.no=>.no
  |.exc c=>.exc c
  |.cel n=>match tr m G 3 (.Ϝ n)with
   |some d=>.B d
   |none=>match G[n]? with
    |some (.dat k a)=>if vk m k=J' then .no else .lent a k
    |_=>.no
@[simp]def vw(m:I)(s:IS):VE:=s.1.j (EY m s.2)
def NW(m:I)(φ:I->Ac)(G:Gh):Fb:=λa=>∃n c k,G[n]?=Z c/\c.kd=Z k/\vk m k=O'/\φ n=a
mutual
/-- no container within of a kind that m reads as data -/
def BN(m:I):D->q'
 |.lst a k=>!vk m k&&Dr m a
 |.tup a=>Dr m a
 |.non=>J'
 |.bl _=>J'
 |.int _=>J'
 |.str _=>J'
 |.ty _=>J'
def Dr(m:I):U D->q'
 |[]=>J'
 |x::a=>BN m x&&Dr m a
end
variable {K:Ap}{G:Gh}{H:Hp}{s:IS}{m:I}{B:Fb}
def
NW.lv(h:NW m φ G a):LV φ G a:=let⟨n,c,k,b,d,_,e⟩:=h;#[n,c,k,b,d,e]
def
xj:∀{f:I}{x:IV}{d:D},tr m G f x=Z d->Ou (un x)=Ou d
 |f,.val d,_,h=>by erw[tr]at h;ext h;rfl
 |0,.cel n,_,h=>by erw[tr]at h;cases h
 |f+1,.cel n,d,h=>by
  unfold tr at h;split at h
  .split at h<;>ext h;rfl
  .let(_,h):=ZV h;let(l,_,rfl):=B2.mp h;rfl
  .cases h
 |f,.no,_,h=>by erw[tr]at h;cases h
 |f,.exc _,_,h=>by erw[tr]at h;ext h
def
fE{f:I}:∀{xs:U IV}{b:U D},Po (xs.j (tr m G f))=Z b->Km (xs.j un)=Km b
 |[],_,h=>by ext h;rfl
 |[x],_,h=>by
  let(d,r,c,a,rfl):=Je h;ext a;rfl
 |x::y::r,_,h=>by
  let(d,l,c,a,rfl):=Je h;let(g,i,j,e,rfl):=Je a;erw[Bf,Km,xj c,fE e]
def
xk{f:I}{xs:U IV}{b:U D}{k:Kd}(h:Po (xs.j (tr m G f))=Z b):CO K k a (xs.j un) vs=CO K k a b vs:=by
 ext k<;>erw[CO,fE h]
def
Bx.nnv(R:Bx K φ G H){n:I}{c:Cl}{k:Kd}(e:G[n]?=Z c)(a:c.kd=Z k)(i:vk m k=J'):¬ NW m φ G (φ n):=λ⟨j,b,d,f,g,l,h⟩=>by
 have:=R.inj j n b c d k f e g a h;simp_all
open J in
def
fF(R:Bx K φ G H):∀{f:I}{x:IV}{d:D}{v:V},tr m G f x=Z d->Bd K φ G.a (LV φ G) H x v->AB K (NW m φ G) H d v
 |f,.val d,_,v,h,q=>by erw[tr]at h;ext h;show AB.nw q λa i=>.U i.lv
 |0,.cel n,_,_,h,_=>by erw[tr]at h;cases h
 |f,.no,_,_,h,_=>by erw[tr]at h;cases h
 |f,.exc _,_,_,h,_=>by erw[tr]at h;cases h
 |f+1,.cel n,d,v,h,q=>by
  let(_,rfl):=q;unfold tr at h;split at h
  .next k c e=>
   let(j,h):=ZV h;ext h;let(b,g,o):=R.Υ n _ e;show#[_,b,rfl,.of (R.nnv e rfl j) g,o.nw λa i=>.U i.lv]
  .next k c e=>
   let(j,h):=ZV h;let(l,p,rfl):=B2.mp h;let(b,g,o):=R.Υ n _ e;rw[xk p]at g;apply#[_,b,rfl,.of (R.nnv e rfl j) g,?_];let all:∀{c:U IV} {b:U V} {l:U D},Paired (Bd K φ G.a (LV φ G) H) c b->Po (c.j<|tr m G f)=Z l->Ad K (NW m φ G) H l b:=by
    intro c b l h;induction h generalizing l with|nil=>intro e;ext e;show Ad.Ϧ|cons q t s=>
     intro e;let(d,r,u,w,rfl):=Je e;show Ad.Ο (fF R u q)<|s w
   show all o p
  .cases h
def
xl{k:Kd}{b:Ac}{ys:U D}{ws:U V}(h:CO K k a xs vs=CO K k' b ys ws):vk m k=vk m k':=by
 ext k<;>ext k'<;>first|rfl|cases h|(cases m with|zero=>rfl|succ j=>ext j<;>rfl)
mutual
theorem AB.up(R:Bx K φ G H)(sm:Ak H H'):∀(d:D)(v:V),BN m d=J'->AB K (λa=>NW m φ G a\/B a) H' d v->AB K (λa=>LV φ G a\/B a) H' d v
 |.non,_,_,h=>by simpa only[AB]using h
 |.bl _,_,_,h=>by simpa only[AB]using h
 |.int _,_,_,h=>by simpa only[AB]using h
 |.str _,_,_,h=>by simpa only[AB]using h
 |.ty _,_,_,h=>by simpa only[AB]using h
 |.tup g,v,b,h=>by
  erw[BN]at b
  erw[AB]at h ⊢
  let(a,f,e,q,r):=h
  show#[a,f,e,q,Ad.up R sm g f b r]
 |.lst g k,v,b,h=>by
  erw[BN,C9,Pg]at b
  erw[AB]at h ⊢
  let(a,f,e,q,r):=h
  apply#[a,f,e,?_,Ad.up R sm g f b.2 r]
  rcases q with⟨n,q⟩|q
  .apply .U #[λz=>z.ι (λ⟨j,c,l,p,s,t⟩=>n (.U #[j,c,l,p,s,?_,t])) λz=>n (.φ z),q]
   let(u,w,z):=R.has p s
   let i:=sm _ _ z
   rw[t]at i
   rcases q with q|⟨o,q⟩
   .rw[i]at q;rw[xl (Gs q)];show b.1
   .rw[i]at q;ext l<;>ext q
  .show .φ q
theorem Ad.up(R:Bx K φ G H)(sm:Ak H H'):∀(xs:U D)(vs:U V),Dr m xs=J'->Ad K (λa=>NW m φ G a\/B a) H' xs vs->Ad K (λa=>LV φ G a\/B a) H' xs vs
 |[],_,_,h=>by simpa only[Ad]using h
 |x::xs,vs,b,h=>by
  erw[Dr,C9]at b
  erw[Ad]at h ⊢
  let(v,r,e,q,t):=h
  show#[v,r,e,AB.up R sm x v b.1 q,Ad.up R sm xs r b.2 t]
end
def
fG{i:I}{b:Kd}{a:O Ac}:(vw m s)[i]?≠Z (Sl.τ xs b a):=λh=>by
 erw[vw,D9]at h;cases e:s.1[i]? with|none=>rw[e]at h;cases h|some x=>
  rw[e]at h;unfold EY at h;grind
def
VJ(h:Nf (NW m φ s.2) (vw m s) Y' a):NW m φ s.2 a:=h.ι id λ⟨_,_,_,_,h,_⟩=>(fG h).ι
open J in
def
Bb.vw(R:Bb K φ s Y' H):Bw K (NW m φ s.2) H (vw m s) Y' H:=by
 apply#[by erw[Internal.vw,Bg];show R.϶,Ak.χ H,λa h=>R.g.nh h.lv,λi A e=>?_,λi j p B b E _ _ a h=>(fG h).ι];erw[Internal.vw,D9]at e;let(x,w,e):=B2.mp e;subst e;rcases R.slot i x w with rfl|⟨v,l,q⟩
 .trivial
 .cases x with
  |no=>show q.ι
  |val d=>show#[v,l,AB.nw q λa f=>.U (VJ f).lv]
  |exc c=>let(a,C,rfl,o,r):=q;show#[a,C,l,o,r]
  |cel n=>
   cases t:tr m s.2 3 (.Ϝ n)with
   |some d=>
    let z:EY m s.2 (.Ϝ n)=.B d:=by unfold EY;dsimp only;rw[t]
    rw[z];show#[v,l,(fF R.g t q).nw λa f=>.U<|VJ f]
   |none=>
    let(_,rfl):=q;let z:EY m s.2 (.Ϝ n)=(match s.2[n]? with
     |some (.dat k p)=>if vk m k=J' then .no else .lent p k
     |_=>.no):=by unfold EY;dsimp only;rw[t]
    rw[z];split
    .next k p e=>
     split
     .trivial
     .next u=>
      let u:vk m k=O':=by exists u
      let(y,o,r):=R.g.Υ n _ e;show#[_,y,l,#[#[n,_,k,e,rfl,u,rfl],by rw[o];show λz=>nomatch z],.U o,r.nw λa f=>.U (VJ f).lv]
    .trivial
end
@[simp]def jO(m:I)(o:O D):O D:=o.L λd=>if BN m d=J' then Z d else J
@[simp]def jL(m:I)(o:Ba):Ba:=o.L λd=>if Dr m d=J' then Z d else J
def jE(m:I)(f:AH)(s:IS):O D:=jO m (f (vw m s))
def jG(m:I)(f:VE->Ba)(s:IS):Ba:=jL m (f (vw m s))
def jT(m:I)(t:VE->O q')(s:IS):O q':=t (vw m s)
def tJ(K:Ap)(g:IS->O D):TE:=λc H Q=>∃b s d,Bb K b s c H/\g s=Z d/\∀v a,Ak H a->AB K (LV b s.2) a d v->Q v a
def Pp(fl:Kd)(K:Ap)(g:IS->Ba):TE:=λh H Q=>∃e s d,Bb K e s h H/\g s=Z d /\
 ∀a f c,Ak H c->H a=J->c a=Z (CO K fl a d f)->Ad K (λb=>LV e s.2 b\/b=a) c d f->Q (.C a) c
def RU(K:Ap)(g:IS->O q'):TT:=λc H Q=>∃d s b,Bb K d s c H/\g s=Z b/\∀a,Ak H a->Q b a
def Fx(K:Ap)(g:IS->O I):TE:=λb H Q=>∃a s n,Bb K a s b H/\g s=Z n/\(n<s.2.a->Q (.C (a n)) H)
def CL(K:Ap)(g:IS->O (IV×Gh)):TE:=λc H Q=>∃d s r,Bb K d s c H/\g s=Z r /\
 ∀a v b,Bb K a (s.1,r.2) c b->Bd K a r.2.a (LV a r.2) b r.1 v->Go d s.2 H a r.2 b->Q v b
def Fy(K:Ap)(g:IS->O (U IV)):TA:=λe H Q=>∃a s c,Bb K a s e H/\g s=Z c /\
 ∀d b,Ak H b->Paired (Bd K a s.2.a (LV a s.2) b) c d->Q d b
def VL(K:Ap)(g:IS->O IV):TE:=λc H Q=>∃a s x,Bb K a s c H/\g s=Z x /\
 ∀v b,Ak H b->Bd K a s.2.a (LV a s.2) b x v->Q v b
variable {e:Expr}{f:AH}{ff:VE->Ba}{t:VE->O q'}{g:IS->O D}
def
xm(m:I)(h:∀M H0,JE X e (tD X.K M H0 f)):JE X e (tJ X.K (jE m f)):=#[λb st i H Q t j=>by
 let(p,s,d,R,e,q):=j;let(r,k,e):=B8.mp e;split at e
 .next l=>ext e;show(h _ _).h b st i H Q t #[_,_,R.vw,k,λv n sm o=>q v n sm<|(AB.up (B:=λ_=>False) R.g sm _ _ l (o.nw λa c=>.U<|.inl<|c.resolve_right id)).nw λa c=>.U<|.U c]
 .cases e]
def
fH(m:I)(h:∀M H0,JE X e (Fm fl X.K M H0 ff)):JE X e (Pp fl X.K (jG m ff)):=#[λc st d H Q w f=>by
 let(t,s,u,R,e,q):=f;let(v,i,e):=B8.mp e;split at e
 .next j=>
  ext e;show(h _ _).h c st d H Q w #[_,_,R.vw,i,λa k l sm n o p=>q a k l sm n o<|Ad.up R.g sm _ _ j<|p.nw λb r=>.U<|r.imp .U id]
 .cases e]
def
VM(m:I)(h:∀M H0,JT X e (BP X.K M H0 t)):JT X e (RU X.K (jT m t)):=#[λa st c H Q g d=>by
 let(f,s,b,R,e,q):=d;show(h _ _).h a st c H Q g #[_,b,R.vw,e,q]]
end
variable {K:Ap}{G:Gh}{H:Hp}{s:IS}
def
Bb.put(R:Bb K φ s Y' H){x:IV}{v:V}(i:I)(h:Bd K φ s.2.a (LV φ s.2) H x v):Bb K φ (s.1.Χ i x,s.2) (Y'.Χ i (Z v)) H:=by
 apply#[by simp[R.len],R.g,λj y e=>?_];by_cases a:i=j
 .subst a;let b:i<s.1.a:=by have:=(Dk.mp e).1;exists this
  rw[Ho b]at e;ext e;show .φ #[v,by rw[Ho<|R.϶ ▸ b];rfl,h]
 .rw[E2 a]at e;rw[E2 a];show R.Ϡ j y e
@[simp]def Eu(φ:I->Ac)(n:I)(a:Ac):I->Ac:=λj=>if j=n then a else φ j
def
fI{c:Cl}{k:Kd}(l:c.kd=Z k){b:Ac}:LV (Eu φ G.a a) (G++[c]) b↔LV φ G b\/b=a:=by
 constructor
 .intro zQ;let(n,g,h,e,d,f):=zQ;rw[LZ]at e;split at e
  .next i=>
   have:n≠G.a:=Ci i;erw[Eu,if_neg this]at f;show .U #[n,g,h,e,d,f]
  .next i=>
   cases m:n-G.a with
   |zero=>
    have:n=G.a:=∅
    erw[Eu,if_pos this]at f;show .φ f.Γ
   |succ j=>rw[m]at e;ext e
 .rintro(⟨n,g,h,e,d,f⟩|rfl)
  .show#[n,g,h,Hw ((Dk.mp e).1) ▸ e,d,by erw[Eu,if_neg<|Ci<|(Dk.mp e).1];show f]
  .show#[G.a,c,k,by rw[IZ<|A4 _,Nat.sub_self];rfl,l,by erw[Eu,if_true]]
def
Go.new(sm:Ak H H'){c:Cl}{k:Kd}(f:H a=J)(g:c.kd=Z k):Go φ G H (Eu φ G.a a) (G++[c]) H':=by
 apply#[λn d=>by erw[Eu,if_neg<|Ci d],by simp,λb o e _=>sm b o e,λb h=>?_];grind [fI]
def
Bx.new(R:Bx K φ G H)(sm:Ak H H'){c:Cl}{k:Kd}(l:H a=J)(v:c.kd=Z k)(L:VI K (Eu φ G.a a) (G++[c]).a (LV (Eu φ G.a a) (G++[c])) H' a c):Bx K (Eu φ G.a a) (G++[c]) H':=by
 apply#[λn d e=>?_,λn m w x y A B C f g h=>?_]
 .rw[LZ]at e;split at e
  .next b=>
   let q:=R.Υ n d e;let z:Eu φ G.a a n=φ n:=by erw[Eu,if_neg<|Ci b]
   rw[z];cases d with
   |dead=>trivial
   |dat k E=>let(o,f,g):=q;show#[o,sm _ _ f,Ad.Ϙ (Go.new sm l v).st _ _ g]
   |mix k E=>let(o,f,g):=q;show#[o,sm _ _ f,Paired.mapP g λ_ _ q=>Bd.go (Go.new sm l v) q]
  .next b=>
   cases p:n-G.a with
   |zero=>
    let b:n=G.a:=∅
    simp_all
   |succ j=>rw[p]at e;ext e
 .let at_:∀{n:I} {d:Cl} {r:Kd},(G++[c])[n]?=Z d->d.kd=Z r->(n<G.a/\G[n]?=Z d/\Eu φ G.a a n≠a)\/n=G.a:=λ{n d r} e s=>by
   rw[LZ]at e;split at e
   .next b=>
    apply .U #[b,e,?_];erw[Eu,if_neg<|Ci b];intro z;show R.nh ⟨n,d,r,e,s,z⟩ l
   .next b=>
    cases p:n-G.a with
    |zero=>show .φ ∅
    |succ j=>rw[p]at e;ext e
  rcases at_ B f with⟨b,t,M⟩|b<;>rcases at_ C g with⟨i,u,F⟩|i
  .erw[Eu,if_neg<|Ci b,if_neg<|Ci i]at h;show R.inj n m w x y A t u f g h
  .show(M (by rw[h,i];erw[Eu,if_true])).ι
  .show(F (by rw[<- h,b];erw[Eu,if_true])).ι
  .rw[b,i]
def
xn{n:I}{c c':Cl}{k:Kd}(e:G[n]?=Z c)(m:c.kd=Z k)(g:c'.kd=Z k'){b:Ac}:LV φ (G.Χ n c') b↔LV φ G b:=by
 constructor
 .intro zQ;let(j,h,i,f,l,a):=zQ;by_cases d:n=j
  .subst d;show#[n,c,k,e,m,a]
  .rw[E2 d]at f;show#[j,h,i,f,l,a]
 .intro zQ;let(j,h,i,f,l,a):=zQ;by_cases d:n=j
  .subst d;show#[n,c',k',by rw[Ho<|(Dk.mp e).1],g,a]
  .show#[j,h,i,by rw[E2 d];show f,l,a]
def
Bx.chg(R:Bx K φ G H){n:I}{c c':Cl}{k:Kd}{u:HO}(e:G[n]?=Z c)(l:c.kd=Z k)(v:c'.kd=Z k') (A:∀L N H',Go φ G H φ (G.Χ n c') H'->H' (φ n)=Z u->L=(G.Χ n c').a->N=LV φ (G.Χ n c')->VI K φ L N H' (φ n) c'):Bx K φ (G.Χ n c') (AX H (φ n) u)/\Go φ G H φ (G.Χ n c') (AX H (φ n) u):=by
 let go:Go φ G H φ (G.Χ n c') (AX H (φ n) u):=by
  apply#[λ_ _=>rfl,by simp,λa o x z=>?_,λb B=>.U<|(xn e l v).mp B];let ne:a≠φ n:=by
   rintro rfl;rcases z with z|z|z
   .show z #[n,c,k,e,l,rfl]
   .show z
   .let(y,r,q):=R.has e l;rw[x]at q;ext q;rw[bN]at z;ext z
  rw[Zr ne];show x
 apply#[#[λj f d=>?_,λj m f w s t d C g p h=>?_],go]
 .by_cases i:n=j
  .subst i;rw[Ho (Dk.mp e).1]at d;ext d;show A _ _ _ go Z5 rfl rfl
  .rw[E2 i]at d;let q:=R.Υ j f d;cases f with
   |dead=>trivial
   |dat t y=>
    let(r,g,p):=q;show#[r,by rw[Zr λz=>i (R.inj j n _ _ _ _ d e rfl l z).Γ];show g,Ad.Ϙ go.st _ _ p]
   |mix t y=>
    let(r,g,p):=q;show#[r,by rw[Zr λz=>i (R.inj j n _ _ _ _ d e rfl l z).Γ];show g,Paired.mapP p λ_ _ q=>Bd.go go q]
 .let at_:∀{j:I} {f:Cl} {s:Kd},(G.Χ n c')[j]?=Z f->f.kd=Z s->∃w t,G[j]?=Z w/\w.kd=Z t:=λ{j f s} d g=>by
   by_cases i:n=j
   .subst i;show#[c,k,e,l]
   .rw[E2 i]at d;show#[f,s,d,g]
  let(E,l1,S,F):=at_ d g;let(M,P,Q,T):=at_ C p;show R.inj j m E M l1 P S Q F T h
end
@[simp]def xD(o:O D)(s:IS):O (IV×Gh):=o.j λd=>(.B d,s.2)
@[simp]def xF(fl:Kd)(o:Ba)(s:IS):O (IV×Gh):=o.j λl=>(.B (.X l fl),s.2)
@[simp]def xC(fl:Kd)(o:Ba)(s:IS):O (IV×Gh):=o.j λl=>(.Ϝ s.2.a,s.2++[.ϯ fl l])
@[simp]def xP(o:O I)(s:IS):O (IV×Gh):=o.L λn=>if n<s.2.a then Z (.Ϝ n,s.2)else J
@[simp]def DM(s:IS)(i:I):O I:=match s.1[i]? with
  |some (.cel n)=>Z n
  |_=>J
@[simp]def RV(c f:Ae)(s:IS)(o:O I):O I:=o.L λn=>match s.2[n]? with
  |some (.mix (.i ns a) b)=>if a=c then match(ns.zip b).S f with
   |some (.cel j)=>Z j
   |_=>J
   else J
  |_=>J
variable {e:Expr}{g:IS->O D}{gf:IS->Ba}{g1:IS->O IV}{ga:IS->O (U IV)}
def
VN(h:JE X e (tJ X.K g)):JE X e (CL X.K λs=>xD (g s) s):=#[h.h.ν λi H Q b=>by
 let(a,s,r,R,e,q):=b;let(d,hd,rfl):=B2.mp e;show#[a,s,d,R,hd,λv c sm f=>q a v c (R.δ sm) f<|Go.δ sm]]
def
xo(h:JE X e (Pp fl X.K gf)):JE X e (CL X.K λs=>xF fl (gf s) s):=#[h.h.ν λp H Q d=>by
 let(c,s,r,R,e,q):=d;let(l,f,rfl):=B2.mp e;apply#[c,s,l,R,f,λa i j sm k m n=>q c _ j (R.δ sm) ?_<|Go.same sm];show⟨a,i,rfl,.of (λz=>R.g.nh z k) m,n.nw λb o=>.U<|.U o⟩]
def
xp(h:JE X e (Pp fl X.K gf)):JE X e (CL X.K λs=>xC fl (gf s) s):=#[h.h.ν λp H Q d=>by
 let(f,s,r,R,e,q):=d;let(l,i,rfl):=B2.mp e;apply#[f,s,l,R,i,λa j k sm c m n=>?_];apply q _ _ k (R.go (R.g.new sm c rfl #[j,m,n.nw λb o=>.U<|(fI rfl).mp o]) (Go.new sm c rfl)) ⟨by simp,by erw[Eu,if_true]⟩ (Go.new sm c rfl)]
def
fJ(h:JE X e (Fx X.K gp)):JE X e (CL X.K λs=>xP (gp s) s):=#[h.h.ν λf H Q c=>by
 let(a,s,r,R,e,q):=c;let(n,d,e):=B8.mp e;split at e
 .next b=>ext e;show#[a,s,n,R,d,λb=>q a _ H R #[b,rfl]<|Go.δ<|Ak.χ H]
 .cases e]
open J in
def
xq{i:I}{x:Ae}(b:↥(NV X i x:8)):JE X (.γ x pos) (Fx X.K λs=>DM s i):=#[(GU b).ν λc H Q d=>by
 let(f,s,n,R,e,q):=d;dsimp only at e;unfold DM at e;split at e
 .next j g=>
  ext e;rcases R.slot i _ g with z|⟨v,a,h,rfl⟩
  .cases z
  .apply#[.C<|f n,?_,q h];cases z:c[i]? with
   |none=>rw[z]at a;cases a
   |some o=>rw[z]at a;ext a;rfl
 .cases e]
def
fK{K:Ap}{φ:I->Ac}{L:I}{N:Fb}{H:Hp}{f:Ae}{x:IV}:∀{ns:U Ae}{xs:U IV}{vs:U V},Paired (Bd K φ L N H) xs vs->(ns.zip xs).S f=Z x->∃v,(ns.zip vs).S f=Z v/\Bd K φ L N H x v
 |[],_,_,_,e=>by simp at e
 |_::_,[],_,_,e=>by simp at e
 |n::ns,y::b,_,.cons q t,e=>by
  erw[LO,List.lookup_cons]at e ⊢;cases a:f==n with
  |true=>rw[a]at e;ext e;show#[_,rfl,q]
  |false=>rw[a]at e;show fK t e
open J in
def
xr{c f:Ae}(i:BF X.K BZ c=Z (Z (.C C)))(l:E4 X.K C)(m:BK X.K C f)(p:JE X o (Fx X.K gp))(r:↑(Hr o f X.G (As o X.G)=As o X.G)):JE X (.η o f pos) (Fx X.K λs=>RV c f s (gp s)):=#[(aV p.h r).ν λE H Q t=>by
 let(u,s,n,R,e,q):=t;let(j,x,w):=B8.mp e;split at w
 .next ns G M y=>
  split at w
  .next a=>
   subst a;split at w
   .next k z=>
    ext w;apply#[u,s,j,R,x,λF=>?_];let(L,d,A):=R.g.Υ j _ y;let(v,B,b,rfl):=fK A z;erw[CO,KR i]at d;show#[_,C,_,_,_,rfl,.U d,l,m,B,q b]
   .cases w
  .cases w
 .cases w]
def
xt(h:JE X e (tJ X.K g)):JE X e (VL X.K λs=>(g s).j .B):=#[h.h.ν λi H Q a=>by
 let(b,s,r,R,e,q):=a;let(d,hd,rfl):=B2.mp e;show#[b,s,d,R,hd,λv c sm f=>q v c sm f]]
def
xu(h:JE X e (Fx X.K gp)):JE X e (VL X.K λs=>(gp s).j .Ϝ):=#[h.h.ν λf H Q a=>by
 let(b,s,r,R,e,q):=a;let(n,c,rfl):=B2.mp e;show#[b,s,n,R,c,λd=>q _ H (Ak.χ H) #[d,rfl]]]
def
xw:JA X [] (Fy X.K λ_=>Z []):=#[Bq.ν λb H Q a=>by
 let(c,s,d,R,e,q):=a;ext e;show q [] H (Ak.χ H) .Ϧ]
def
xx(h:JE X e (VL X.K g1))(d:JA X es (Fy X.K ga))(f:↥(AQ (e::es) X.G=(O',As e X.G)::AQ es X.G:12)):JA X (e::es) (Fy X.K λs=>Zl (g1 s) (ga s)):=#[(EQ h.h d.h f).ν λn H Q g=>by
 let(a,s,o,R,e,q):=g;let(x,r,i,j,rfl):=Je e;show#[a,s,x,R,i,λv p b k=>#[a,s,r,R.δ b,j,λt l c m=>q _ l (b.I c)<|.Ο (k.go<|Go.δ c) m]]]
end
set_option genInjectivity false in
inductive RI where
 |fail|next(s:IS)|brk (s:IS)|cont (s:IS)|ret (x:IV) (G:Gh)
abbrev Bn:=IS->RI
def VO(K:Ap)(φ:I->Ac)(G:Gh)(H:Hp)(s':IS)(Q:St->Hp->V'):V':=∀a b c,Bb K a s' b c->Go φ G H a s'.2 c->Q b c
def Ds(K:Ap)(φ:I->Ac)(G:Gh)(H:Hp)(D:Ends):RI->V'
 |.fail=>False
 |.next b=>VO K φ G H b D.nx
 |.brk b=>VO K φ G H b D.bk
 |.cont b=>VO K φ G H b D.ct
 |.ret x c=>∀a v d,Bx K a c d->Bd K a c.a (LV a c) d x v->Go φ G H a c d->D.rt v d
def tK(K:Ap)(g:Bn):TS:=λD b H=>∃a s,Bb K a s b H/\Ds K a s.2 H D (g s)
set_option backward.eqns.nonrecursive true in
@[simp]def CM(a:RI)(g:Bn):RI:=match a with
  |.next s=>g s
  |r=>r
@[simp]def Fz(c:O q')(a b:RI):RI:=match c with
  |some J'=>a
  |some O'=>b
  |none=>.ώ
@[simp]def Eb(i:I)(o:O (IV×Gh))(s:IS):RI:=match o with
  |some r=>.α (s.1.Χ i r.1,r.2)
  |none=>.ώ
@[simp]def Hc(o:O (IV×Gh)):RI:=match o with
  |some r=>.Ϯ r.1 r.2
  |none=>.ώ
@[simp]def KS(o:O (IV×Gh))(s:IS):RI:=match o with
  |some r=>.α (s.1,r.2)
  |none=>.ώ
def KU(i:I)(g:Bn):U D->Bn
 |[],s=>.α s
 |d::b,s=>match g (s.1.Χ i (.B d),s.2)with
  |.next a=>KU i g b a
  |.cont a=>KU i g b a
  |.brk a=>.α a
  |r=>r
@[simp]def VP(i:I)(g:Bn)(o:Ba)(s:IS):RI:=match o with
  |some a=>KU i g a s
  |none=>.ώ
@[simp]def Mi:D->Ba
  |.lst a .l=>Z a
  |_=>J
variable {K:Ap}{G G1:Gh}{H:Hp}{D:Ends}{r:RI}
def
Ds.from(g:Go φ G H φ1 G1 H1)(h:Ds K φ G H D r):Ds K φ1 G1 H1 D r:=by
 cases r with
 |fail=>show h
 |next s=>show λa b c R go=>h a b c R<|g.I go
 |brk s=>show λa b c R go=>h a b c R<|g.I go
 |cont s=>show λa b c R go=>h a b c R<|g.I go
 |ret x e=>show λa v c R d go=>h a v c R d<|g.I go
end
variable {st:Ay}{AD a b:U Ay}{g g1 g2:Bn}{gd':IS->O D}{c:Expr}{t:IS->O q'}{e:Expr}{x:Ae}
def
xy:JB X [] (tK X.K λs=>.α s):=#[F3.ν λD a H ⟨b,s,R,q⟩=>q b a H R<|Go.δ<|Ak.χ H]
def
fL(d:JS X st (tK X.K g1))(e:JB X AD (tK X.K g2)):JB X (st::AD) (tK X.K λs=>CM (g1 s) g2):=#[(ax d.h e.h).ν λD k H f=>by
 let(g,s,R,q):=f;dsimp only at q;apply#[g,s,R,?_];cases a:g1 s with
 |fail=>rw[a]at q;show q
 |next b=>rw[a]at q;show λc i l j go=>#[c,b,j,Ds.v0 go q]
 |brk b=>rw[a]at q;show q
 |cont b=>rw[a]at q;show q
 |ret x m=>rw[a]at q;show q]
def
xz:JS X st (tK X.K λ_=>.ώ):=#[Hq.ν λD a H ⟨b,s,R,q⟩=>q]
def
xA(f:JT X c (RU X.K t))(g:JB X a (tK X.K g1))(i:JB X b (tK X.K g2)):JS X (.If c a b pos) (tK X.K λs=>Fz (t s) (g1 s) (g2 s)):=#[(Uh f.h g.h i.h).ν λD l H j=>by
 let(d,s,R,q):=j;dsimp only at q;cases e:t s with|none=>rw[e]at q;show q.ι|some k=>
  rw[e]at q;apply#[d,s,k,R,e,λm sm=>?_];cases k with
  |true=>show LR #[d,s,R.δ sm,Ds.v0 (Go.δ sm) q]
  |false=>show LS #[d,s,R.δ sm,Ds.v0 (Go.δ sm) q]]
def
fM{i:I}(c:X.N.μ)(d:JE X e (CL X.K gx))(f:↑(X.N[i]?=Z x))(g:↥(Loc X.G.Δ x:5))(j:↑(DR e (Z (.Name x pos')) pos.line X.env=Am O'))(k:↥(X.fn x=J'\/X.env.scope.names.lookup x=Z .local:6)):JS X (.Assign [.Name x pos'] e pos) (tK X.K λs=>Eb i (gx s) s):=#[(Ob c f g d.h j k).ν λD t H l=>by
 let(m,s,R,q):=l;dsimp only at q;cases a:gx s with
 |none=>rw[a]at q;show q.ι
 |some r=>rw[a]at q;show#[m,s,r,R,a,λb v n o p go=>q b _ n (o.put i p) go]]
def
xB(c:JE X e (CL X.K gx)):JS X (.Return (Z e) pos) (tK X.K λs=>Hc (gx s)):=#[(QC c.h).ν λD l H d=>by
 let(f,s,R,q):=d;dsimp only at q;cases a:gx s with
 |none=>rw[a]at q;show q.ι
 |some r=>rw[a]at q;show#[f,s,r,R,a,λb v i j k go=>q b v i j.g k go]]
def
xE(c:JE X e (CL X.K gx))(d:↑(DR e J pos.ϩ X.G=Am O')):JS X (.Expr e pos) (tK X.K λs=>KS (gx s) s):=#[(QB c.h d).ν λD k H f=>by
 let(g,s,R,q):=f;dsimp only at q;cases a:gx s with
 |none=>rw[a]at q;show q.ι
 |some r=>rw[a]at q;show#[g,s,r,R,a,λb v i j l go=>q b _ i j go]]
def fN(K:Ap)(f:IS->Ba):TI:=λd H R=>∃b s c,Bb K b s d H/\f s=Z c/\∀e a,Ak H a->M2 K (λ_=>False) (LV b s.2) a e c->R e a
def
fO{t:Expr}(h:JE X e (tJ X.K gd')):JI X t e (fN X.K λs=>(gd' s).L Mi):=#[(aE h.h).ν λG H N u=>by
 let(m,s,F,R,e,q):=u;let(d,hd,e):=B8.mp e;unfold Mi at e;split at e
 .cases e;apply#[m,s,_,R,hd,λv n A B=>?_];let(a,c,C,f,o):=B;let p:∀j g,Step (λ_=>False) (LV m s.2) j n g->BU X.K g a c:=λj g S=>by
   rcases f with⟨E,f⟩|⟨L,z,f⟩
   .show .U<|f.Ϙ S<|.U E
   .cases z;show f.sq
  apply#[a,C,#[c,p _ _ Step.χ],q _ n A λj g S i=>?_];let b:=p _ _ S;apply#[λd k=>?_,λk=>#[c,b,by rw[k,o.a];show A4 _]];let(w,r,l):=(Ad.Ϙ S _ _ o).ό k;apply#[#[c,w,b,r],λx M y=>?_];let(rfl,y):=y;have:=y c b;rw[r]at this;ext this;show#[Ak.χ _,l]
 .cases e]
open J in
def
xG{p:U Ay}{f:IS->Ba}{i:I}{Y:Az}(hp:PassesOwn (Af X.Y X.w) X.A X.G X.xe)(hc:X.Ϸ=J')(hi:JI X (.γ x Y) iter (fN X.K f))(hN:X.N.μ)(hb:JB X p (tK X.K g)) (P:↑(X.N[i]?=Z x)) (hx:↥(Loc X.G.Δ x:5)) (hf:↥(X.fn x=J'\/X.env.scope.names.lookup x=Z .local:6)) (hs:↥(∀x,Fg iter X.env x=Am x:7)):JS X (.For (.Name x Y) iter p [] pos) (tK X.K λs=>VP i g (f s) s):=#[(Uk hp hc hi.h (MM hN P hx hf) hb.h hs).ν λD' Y' H z0=>by
 let(L,s,R,q):=z0;dsimp only at q;cases r:f s with|none=>rw[r]at q;show q.ι|some j=>
  rw[r]at q;apply#[L,s,j,R,r,λF Q s1 ok=>?_];apply#[λn m t u=>m=j.a-n/\n<=j.a/\∃a c,Bb X.K a c t u/\Go L s.2 Q a c.2 u/\Ds X.K a c.2 u D' (KU i g (j.Θ n) c),#[j.a,by simp,Fi _,L,s,R.δ s1,Go.δ<|Ak.χ Q,Ds.v0 (Go.δ s1) q],?_];intro n m t u zQ;let(rfl,hle,a,c,Rn,gn,k):=zQ;let(T,S):=ok _ _ gn.st n;by_cases l:n<j.a
  .let(go,y):=T j[n]<|CG l;rw[Kk l]at k;erw[KU]at k;apply .inr ⟨go,λG B=>n+1<=j.a/\∃a c,Bb X.K a c G B/\Go L s.2 Q a c.2 B/\Ds X.K a c.2 B D' (KU i g (j.Θ<|n+1) c),λG B z=>⟨j.a-(n+1),by show Nat.sub_succ_lt_self j.a n l,rfl,z⟩,λx B yl=>?_⟩;let(s3,hd):=y x B yl;let E:Go a c.2 u a c.2 B:=Go.δ s3;apply#[a,(c.1.Χ i<|.B j[n],c.2),(Rn.δ s3).put i hd,?_];cases o:g (c.1.Χ i<|.B j[n],c.2)with
   |fail=>rw[o]at k;show k
   |next M=>rw[o]at k;show λd C W R2 b=>#[l,d,M,R2,gn.I<|E.I b,Ds.v0 (E.I b) k]
   |cont M=>rw[o]at k;show λd C W R2 b=>#[l,d,M,R2,gn.I<|E.I b,Ds.v0 (E.I b) k]
   |brk M=>rw[o]at k;show λd C W R2 b=>k d C W R2<|E.I b
   |ret x G'=>rw[o]at k;show λd v W R2 hv b=>k d v W R2 hv<|E.I b
  .let e:n=j.a:=∅
   subst e;rw[Oq<|A4 _]at k;show .U ⟨S rfl,k a t u Rn<|Go.δ<|Ak.χ u⟩]
end
abbrev FI:=U IV->Gh->O (IV×Gh)
def DN(K:Ap)(F:FI):Sp:=λe H Q _=>∃b G d r,Bx K b G H/\Paired (Bd K b G.a (LV b G) H) d e/\F d G=Z r /\
 ∀a v c,Bx K a r.2 c->Bd K a r.2.a (LV a r.2) c r.1 v->Go b G H a r.2 c->Q v c
def FA(a n:I)(g:Bn):FI:=λb G=>if b.a=a then
  match g (b++Ct (n-a) .no,G)with
  |.ret x c=>Z (x,c)
  |.next s=>Z (.B .Ε,s.2)
  |_=>J
 else J
def
fi{a n:I}{g:Bn}{xs:U IV}{G:Gh}{r:RI}(h:xs.a=a):g (xs++Ct (n-a) .no,G)=r->FA a n g xs G=match r with
  |.ret x b=>Z (x,b)
  |.next s=>Z (.B .Ε,s.2)
  |_=>J:=λe=>by subst h e;show if_pos rfl
def
VQ{K:Ap}{G:Gh}{H:Hp}{xs:U IV}(R:Bx K φ G H)(h:Paired (Bd K φ G.a (LV φ G) H) xs vs)(n:I):Bb K φ (xs++Ct n .no,G) (vs.j Z++Ct n J) H:=by
 apply#[by simp[IB h],R,λi x e=>?_];rw[LZ]at e;split at e
 .next a=>
  let(v,b,q):=eY h e;show .φ #[v,by rw[Hw (by simpa[<- (IB h)]using a),D9,b];rfl,q]
 .rw[J9]at e;let(_,e):=ZV e;ext e;show .U rfl
variable {P:AN}{w:Ai}{K:Ap}{mg:Bt}{base:Al}{x qual nm:Ae}{st:Ay}{f fn:Ac}{fd:Cm}{N:U Ae}{k:I}{g g0:Bn}
def
fQ(F:Ih K x qual st f fd)(S:Z2 N ps (Zg st))(t:ps.a<=N.a) (u:∀(b:Aa) (A:Ag) (outer:U Env) (s:Ab) (H:Hp) (E:XK),AJ k (A.ϖ (A7 qual (Zg st) s.r.O.o f b))->JB (CV Bi P w K mg base N qual (Zg st) f b A outer s H E).nox (ZJ st) (tK K g)):AY P w K mg base Bi (k+1) f fd ps (DN K (FA ps.a N.a g)):=by
 apply F.ok S (λi H Q E h=>?_) (λb A outer s H i Q E y h=>?_)
 .let(n,G,o,r,R,e,a,q):=h;let(j,a):=ZV a;rw[<- IB e];show j
 .let(n,G,o,r,R,e,a,q):=h;apply#[_,(u b A outer s H E y).h,?_];let(j,a):=ZV a;rw[show FO N i=i.j Z++Ct (N.a-ps.a) J by unfold FO;rw[<- IB e,j]];apply#[n,_,VQ R e<|N.a-ps.a,?_];cases d:g (o++Ct (N.a-ps.a) .no,G)with
  |fail=>rw[d]at a;cases a
  |next p=>rw[d]at a;ext a;show λc z l m go=>q c .Ε l m.g (by erw[Bd,AB]) go
  |brk p=>rw[d]at a;cases a
  |cont p=>rw[d]at a;cases a
  |ret x C=>rw[d]at a;ext a;show λc v l m B go=>q c v l m B go
def
xH(D:DI K mg nm st ps fn fd)(S:Z2 N ps (Zg st)) (c:∀(a:Aa) (A:Ag) (outer:U Env) (s:Ab) (H:Hp) (E:XK),AJ k (A.ϖ (A7 nm (Zg st) s.r.O.o fn a))->JB (CV Bi P w K mg base N nm (Zg st) fn a A outer s H E).nox (ZJ st) (tK K g0)) (e:↑(g0=g)) (b:⇑(ps.a<=N.a)):AY P w K mg base Bi (k+1) fn fd ps (DN K (FA ps.a N.a g)):=fQ D.F S b (e ▸ c)
def
xI(D:MI K C nm qual st ps fn fd)(S:Z2 N ps (Zg st)) (c:∀(a:Aa) (A:Ag) (outer:U Env) (s:Ab) (H:Hp) (E:XK),AJ k (A.ϖ (A7 qual (Zg st) s.r.O.o fn a))->JB (CV Bi P w K mg base N qual (Zg st) fn a A outer s H E).nox (ZJ st) (tK K g0)) (e:↑(g0=g)) (b:⇑(ps.a<=N.a)):AY P w K mg base Bi (k+1) fn fd ps (DN K (FA ps.a N.a g)):=fQ D.F S b (e ▸ c)
end
@[simp]def Jz(F:FI)(o:O (U IV))(s:IS):O (IV×Gh):=o.L λa=>F a s.2
@[simp]def Gg(c m:Ae):Cl->q'
  |.dat (.i ns a) _=>decide (a=c)&&!ns.contains m
  |.mix (.i ns a) _=>decide (a=c)&&!ns.contains m
  |_=>O'
@[simp]def GK(c m:Ae)(F:FI)(p:O I)(o:O (U IV))(s:IS):O (IV×Gh):=p.L λn=>match s.2[n]? with
  |some cl=>if Gg c m cl=J'/\n<s.2.a then o.L λa=>F (.Ϝ n::a) s.2 else J
  |none=>J
@[simp]def RX(c:Ae)(F:FI)(o:O (U IV))(s:IS):O (IV×Gh):=o.L λa=>(F (.Ϝ s.2.a::a) (s.2++[.mix (.i [] c) []])).L λr=>match r.1 with
  |.val .non=>Z (.Ϝ s.2.a,r.2)
  |_=>J
@[simp]def HN(c f:Ae)(p:IS->O I)(o:O (IV×Gh))(s:IS):RI:=match o with
  |some r=>match p (s.1,r.2)with
   |some n=>match r.2[n]? with
    |some (.mix (.i ns b) a)=>if b=c/\ns.a=a.a/\ns.a<1000 then .α (s.1,r.2.Χ n (.mix (.i (putN f ns) c) (D4 f r.1 ns a)))else .ώ
    |_=>.ώ
   |none=>.ώ
  |none=>.ώ
variable {e:Expr}{ga:IS->O (U IV)}{p:Az}{F:FI}{k n:I}{fn:Ac}{fd:Cm}{x c m f:Ae}{E:XK}
def
xJ(G:AY X.Y X.w X.K X.mg X.σ CX k fn fd ps (DN X.K F))(j:AJ k X.A)(l:Gl X x)(m:X.mg x=Z (.C fn))(n:IY X.K (.C fn)=J')(o:Binds X.K fd ps [])(a:FN CX X E) (t:JA X (e::es) (Fy X.K ga)) (hz:↥(CA X x e es pos:9)):JE X (.Φ (.γ x p) (e::es) [] pos) (CL X.K λs=>Jz F (ga s) s):=#[(QL G j l m n o .Ϧ a t.h hz.d hz.s hz.p).ν λN H Q u=>by
 let(f,s,r,R,e,q):=u;let(i,a,y):=B8.mp e;show#[f,s,i,R,a,λM L sm z=>#[f,s.2,i,r,R.g.δ sm,by rw[C6];show z,y,λb v B C c go=>q b v B (R.go C<|(Go.δ sm).I go) c<|(Go.δ sm).I go]]]
def
fS{K:Ap}{G:Gh}{H:Hp}{cl:Cl}(b:BF K BZ c=Z (Z (.C C)))(R:Bx K φ G H)(e:G[n]?=Z cl)(h:Gg c m cl=J'):∃d fs,H (φ n)=Z (.ins C d fs)/\fs.S m=J:=by
 let q:=R.Υ n cl e;unfold Gg at h;split at h
 .erw[C9,decide_eq_true_eq,Pg]at h;let(rfl,h):=h;let(f,a,_):=q;erw[CO,KR b]at a;show#[_,_,a,Pj h]
 .erw[C9,decide_eq_true_eq,Pg]at h;let(rfl,h):=h;let(f,a,_):=q;erw[CO,KR b]at a;show#[_,_,a,Pj h]
 .cases h
def
fT(i:BF X.K BZ c=Z (Z (.C C))){H:Hp}{Q:VK}(h:CL X.K (λs=>GK c m F (gp s) (ga s) s) Y' H Q):LF C m (DN X.K F) [] E (Fx X.K gp) (Fy X.K ga) Y' H Q:=by
 let(a,s,r,R,e,q):=h;let(n,j,e):=B8.mp e;split at e
 .next cl k=>
  let(l,e):=ZV e;let(f,o,p):=B8.mp e;apply#[a,s,n,R,j,λt=>?_];let(u,w,x,y):=fS i R.g k l.1;apply#[a n,u,w,rfl,.U x,y,a,s,f,R,o,λG L sm z=>#[a,s.2,.Ϝ n::f,r,R.g.δ sm,.Ο #[t,rfl] (by rw[C6];show z),p,λb v A B d go=>q b v A (R.go B<|(Go.δ sm).I go) d<|(Go.δ sm).I go]]
 .cases e
section
variable(hC:BF X.K BZ c=Z (Z (.C C)))(cl:E4 X.K C)(hm:J8 X.K C m fn)(G:AY X.Y X.w X.K X.mg X.σ CX k fn fd ps (DN X.K F))(hr:AJ k X.A)(hb:Binds X.K fd ps [])(hx:FN CX X E)(ho:JE X o (Fx X.K gp))
include hC cl hm G hr hb hx ho
def
xK(d:JA X (e::es) (Fy X.K ga)) (a:↥(AQ (e::es) X.G=(O',As e X.G)::AQ es X.G:12)) (b:↑((AF pos (AQ es X.G)).any (·.1)=O')) (f:↑(ME X o m (e::es) pl å pos)):JE X (.Φ (.η o m å) (e::es) [] pos) (CL X.K λs=>GK c m F (gp s) (ga s) s):=#[(aY ho.h cl hm G hr hb .Ϧ hx d.h a b f).ν λ_ _ _ h=>fT hC h]
def
xL(b:↑(ME X o m [] pl å pos)):JE X (.Φ (.η o m å) [] [] pos) (CL X.K λs=>GK c m F (gp s) (Z []) s):=#[(aZ ho.h cl hm G hr hb .Ϧ hx b).ν λu H Q h=>by
 let(d,s,n,R,e,q):=fT (E:=E) hC h;apply#[d,s,n,R,e,λf=>?_];let(a,g,i,j,k,l,p,v,w,R2,r,t):=q f;ext r;show#[a,g,i,j,k,l,t [] H (Ak.χ H) .Ϧ]]
end
def
xM(L:BF X.K BZ c=Z (Z (.C C)))(M:Mk X.K C fn)(G:AY X.Y X.w X.K X.mg X.σ CX n fn fd ps (DN X.K F))(N:AJ (n+1) X.A)(S:Gl X x)(T:X.mg x=Z (.C C))(W:Binds X.K fd ps [])(Y:FN CX X E) (f:JA X (e::es) (Fy X.K ga)) (hz:↥(CA X x e es pos:9)):JE X (.Φ (.γ x p) (e::es) [] pos) (CL X.K λs=>RX c F (ga s) s):=#[(pZ M G N S T W .Ϧ Y f.h hz.d hz.s hz.p).ν λY' H Q z0=>by
 let(φ,s,r,R,e,q):=z0;let(u,l,e):=B8.mp e;let((y,G'),hF,e):=B8.mp e;dsimp only at e;split at e
 .cases e;apply#[φ,s,u,R,l,λvs z B hv a k f hd m=>?_];generalize j:AX (AX z k<|.own a) a (.ins C k [])=zA;let sm:Ak z zA:=j ▸ (ZW hd).trans (ZW<|Zr (show a≠k by lia) ▸ f);apply⟨_,_,.cel s.2.length::u,_,((R.g.same B).new sm f (c:=.mix (.i [] c) []) rfl ⟨[],by rw[show zA a=Z (.ins C k []) by rw[<- j,Z5],m];erw[CO,KR L,Nat.add_sub_cancel];rfl,.nil⟩),.cons ⟨by simp,by erw[Eu,if_true]⟩ (by rw[C6];show Paired.mapP hv λ_ _ q=>Bd.go (Go.new sm f rfl) q),hF,λo v H3 R3 t b=>?_⟩;let P:=((Go.δ B).I<|Go.new sm f rfl).I b;show⟨t,q o _ H3 (R.go R3 P) ⟨BY (by simp) b.϶,by rw[b.ext _ (by simp)];erw[Eu,if_true]⟩ P⟩
 .cases e]
def
xN{K:Ap}{L:I}{N:Fb}{H:Hp}{y:IV}{v:V}{ns:U Ae}{xs:U IV}(a:ns.a=xs.a)(h:Paired (Bd K φ L N H) xs vs)(q:Bd K φ L N H y v):Paired (Bd K φ L N H) (D4 f y ns xs) (D4 f v ns vs):=by
 induction h generalizing ns with
 |nil=>cases ns with
  |nil=>show .Ο q .Ϧ
  |cons=>cases a
 |cons h t b=>cases ns with|nil=>cases a|cons=>
   erw[D4];split
   .show .Ο q t
   .show .Ο h<|b (by exists a)
open J in
def
xO(t:BF X.K BZ c=Z (Z (.C C)))(cl:E4 X.K C)(A:BK X.K C f)(B:JE X o (Fx X.K gp))(E:JE X e (CL X.K gx)) (G:↑(DR e (Z (.η o f pos')) pos.ϩ X.G=Am O')):JS X (.ϥ [.η o f pos'] e pos) (tK X.K λs=>HN c f gp (gx s) s):=#[(pQ B.h E.h G).ν λD W H F=>by
   let(M,s,R,q):=F;unfold HN at q;dsimp only at q;split at q
   .next r P=>
    apply#[M,s,r,R,P,λa v l j Q go=>?_];split at q
    .next n m=>
     apply#[a,(s.1,r.2),n,j,m,λhl=>?_];split at q
     .next ns k p w=>
      split at q
      .next T=>
       let(rfl,x,h2):=T;let(b,S,y):=j.g.Υ n _ w;let(R2,d):=j.g.chg (u:=CO X.K (.i (putN f ns) k) (a n) ((D4 f r.1 ns p).j un)<|D4 f v ns b) (c':=.mix (.i (putN f ns) k)<|D4 f r.1 ns p) w rfl rfl
        (λL N H' z Y hL hN=>by subst hL hN;show#[_,Y,xN x (Paired.mapP y λ_ _ q=>Bd.go z q) (Bd.go z Q)])
       apply#[a n,C,a n-1,ns.zip b,rfl,(show l (a n)=Z (.ins C (a n-1)<|ns.zip b) by rw[S];erw[CO,KR t]),cl,A,by rw[List.length_zip];lia,?_];let ew:AX l (a n) (CO X.K (.i (putN f ns) k) (a n) ((D4 f r.1 ns p).j un)<|D4 f v ns b)=AX l (a n) (.ins C (a n-1)<|Fh f v<|ns.zip b):=by
        rw[eZ<|x.I<|IB y];erw[CO,KR t]
       rw[<- ew];show q a W _ (j.go R2 d)<|go.I d
      .show q.ι
     .show q.ι
    .show q.ι
   .show q.ι]
end
structure BO(X:Cx)(o:Expr)(m:Ae)(å:Az)(e:Expr)(ç:Az):V' where
 b:Hr o m X.G (As o X.G)=As o X.G
 f:((AF ç (AQ [e] X.G)).ϝ (λx=>!x.1)&&(Hs ç (Ht [] X.G)).ϝ (λx=>x.1.υ)&&decide ([e].a+([]:List E5).a+(if([]:List E5).Ω then 0 else 1)<30))=J'
 l:(å.endLine==ç.ϩ)=J'
 s:AQ [e] X.G=(O',As e X.G)::AQ [] X.G
 p:(AF ç (AQ [] X.G)).any (·.1)=O'
def
fU{m:Ae}{c:Az}{e:Expr}{a:Az}(b:↑(Hr o m X.G (As o X.G)=As o X.G)) (f:↑(((AF a (AQ [e] X.G)).ϝ (λx=>!x.1)&&(Hs a (Ht [] X.G)).ϝ (λx=>x.1.υ)&&decide ([e].a+([]:U E5).a+(if([]:U E5).Ω then 0 else 1)<30))=J')) (l:↑((c.endLine==a.ϩ)=J')) (s:↥(AQ [e] X.G=(O',As e X.G)::AQ [] X.G:12)) (p:↑((AF a (AQ [] X.G)).any (·.1)=O')):BO X o m c e a:=#[b,f,l,s,p]
@[simp]def RY(p:O I)(o:O D)(s:IS):O (IV×Gh):=match p,o with
  |some n,Z d=>match s.2[n]? with
   |some (.dat .l a)=>if a.a<AE then Z (.B .Ε,s.2.Χ n (.ϯ .l (a++[d])))else J
   |_=>J
  |_,_=>J
@[simp]def Pq(p:O I)(o:O D)(s:IS):O (IV×Gh):=match p,o with
  |some n,Z d=>match s.2[n]? with
   |some (.dat .l a)=>if AL ZS d&&a.ϝ (AL ZS)then(a.findIdx? λz=>Bc z d).j λj=>(.B .Ε,s.2.Χ n (.ϯ .l (a.ϛ j)))else J
   |_=>J
  |_,_=>J
variable {e ei:Expr}{g gi:IS->O D}{þ:Az}
def
VR{K:Ap}{G:Gh}{H:Hp}{n:I}{k:Kd}{ys:U D}{ws:U V}(R:Bx K φ G H)(e:G[n]?=Z (.ϯ k xs))(h:Ad K (LV φ G) H ys ws):Bx K φ (G.Χ n (.ϯ k' ys)) (AX H (φ n) (CO K k' (φ n) ys ws))/\Go φ G H φ (G.Χ n (.ϯ k' ys)) (AX H (φ n) (CO K k' (φ n) ys ws)):=R.chg e rfl rfl λL N f a b c d=>by subst c d;show#[ws,b,Ad.Ϙ a.st _ _ h]
open J in
def
xQ(t:JE X o (Fx X.K gp))(u:JE X e (tJ X.K g))(hz:↥(BO X o "append" å e ç:13)):JE X (.Φ (.η o "append" å) [e] [] ç) (CL X.K λs=>RY (gp s) (g s) s):=#[(Kg Q0 PySem.F.Ϻ PySem.F.type_list_append bB t.h (EQ u.h Bq hz.s) hz.b hz.f hz.l hz.s hz.p).ν λA H Q w=>by
   let(a,s,r,R,ex,q):=w;dsimp only at ex;unfold RY at ex;split at ex
   .next n d x hd=>
    split at ex
    .next B c=>
     let(y,ex):=ZV ex;ext ex;let(i,j,k):=R.g.Υ n _ c;apply#[a,s,n,R,x,λ_=>#[.U #[rfl,i,.U<|.inl j],a,s,d,R,hd,λv C sm z=>?_]];let(R2,m):=VR (k':=.l) (R.g.δ sm) c ((k.δ sm).Η<|Ad.Ο z Ad.Ϧ);show⟨a n,i,v,rfl,rfl,sm _ _ j,k.a ▸ y,q a _ _ (R.go R2<|(Go.δ sm).I m) (by erw[Bd,AB])<|(Go.δ sm).I m⟩
    .cases ex
   .cases ex]
open J in
def
xR(w:X.A.κ+64<Aw)(x:JE X o (Fx X.K gp))(y:JE X e (tJ X.K g))(hz:↥(BO X o "remove" å e ç:13)):JE X (.Φ (.η o "remove" å) [e] [] ç) (CL X.K λs=>Pq (gp s) (g s) s):=#[(Kg Q0 PySem.F.slot_list_remove PySem.F.type_list_remove (e8 w) x.h (EQ y.h Bq hz.s) hz.b hz.f hz.l hz.s hz.p).ν λM H Q z=>by
   let(a,s,r,R,ex,q):=z;dsimp only at ex;unfold Pq at ex;split at ex
   .next n d B hd=>
    split at ex
    .next C i=>
     let(c,ex):=ZV ex;rw[C9]at c;let(j,E,rfl):=B2.mp ex;let(k,m,t):=R.g.Υ n _ i;apply#[a,s,n,R,B,λ_=>#[.U #[rfl,k,.U<|.inl m],a,s,d,R,hd,λv L sm G=>?_]];let(R2,u):=VR (k':=.l) (R.g.δ sm) i ((t.δ sm).erase j);show#[a n,k,v,_,d,C,j,rfl,rfl,sm _ _ m,t.δ sm,G.p,c.1,c.2,E,q a _ _ (R.go R2<|(Go.δ sm).I u) (by erw[Bd,AB])<|(Go.δ sm).I u]
    .cases ex
   .cases ex]
@[simp]def RZ(p:IS->O I)(ok b:O D)(s:IS):RI:=match p s,ok,b with
  |some n,Z y,Z d=>match s.2[n]? with
   |some (.dat .d c)=>match EU c,DT y with
    |some a,Z k=>if DU k a&&decide (a.a<AE)then .α (s.1,s.2.Χ n (.ϯ .d (Zb (ZT a k d))))else .ώ
    |_,_=>.ώ
   |_=>.ώ
  |_,_,_=>.ώ
open J in
def
xS(E:X.A.κ+64<Aw)(W:JE X o (Fx X.K gp))(F:JE X ei (tJ X.K gi))(L:JE X e (tJ X.K g)) (M:↥(∀v,assign (.ψ o ei þ) X.G v=(do
   let f <- EN [v] (As o X.G);let j <- EN [v,f] (As ei X.G);standAt þ
   EN [v,f,j] (setItem f j v)
   release [v,f,j] []):7)) (N:↑(N9 [.ψ o ei þ] e pos.ϩ X.G=Am O')) (c:↑(Oa [.ψ o ei þ] e X.G=Am J)) (P:↑((Gu [.ψ o ei þ] X.G).j (·.2)=[assign (.ψ o ei þ) X.G])):JS X (.ϥ [.ψ o ei þ] e pos) (tK X.K λs=>RZ gp (gi s) (g s) s):=#[(N8 L.h (Uj W.h F.h (dy E) M) N c P).ν λD' Q H T=>by
 let(b,s,R,q):=T;unfold RZ at q;dsimp only at q;split at q
 .next n y d S Y hd=>
  split at q
  .next xs u=>
   split at q
   .next é k l hk=>
    split at q
    .next m=>
     rw[C9,decide_eq_true_eq]at m;apply#[b,s,d,R,hd,λv H1 i hv=>#[b,s,n,R.δ i,S,λ_=>#[b,s,y,R.δ i,Y,λw H2 r c=>?_]]];let ex:=HK l;subst ex;let R2:=(R.δ i).δ r;let(vs,z3,z4):=R2.g.Υ n _ u;let(t,rfl,a):=OV z4;rw[Kv hk]at c;let x:=a.put (k:=k) (Jo c.p) (hv.δ r);let(z,B):=VR (k':=.d) R2.g u x.flat;rw[L5 x]at z B;let C:=(Go.δ (φ:=b) (G:=s.2) (i.I r)).I B;apply#[b n,t,k,rfl,?_,a.keys,a.hom m.1,Kw<|Jo c.p,Hm a ▸ m.2,q b Q _ (R.go z C) C];rw[<- L5 a];show z3
    .show q.ι
   .show q.ι
  .show q.ι
 .show q.ι]
end
def
xT{P:AN}{w:Ai}{K:Ap}{mg:Bt}{base:Al}{k:I}{f:Ac}{fd:Cm}{F:FI}(G:AY P w K mg base Bi k f fd ["_law_script"] (DN K F)) (h:∀ns:U W',ns.a<=63->∃G',F [.B (.X (ns.j D.u))] []=Z (.B (.bl J'),G')):AY P w K mg base Bi k f fd ["_law_script"] (Ot K):=G.imp λp H Q E d=>by
  let(a,ns,e,g,i,q):=d;let(G',j):=h ns i;subst e;apply#[λ_=>0,[],[.B<|.lst<|ns.map D.int],_,⟨λn c e=>by simp at e,λn m c r k s e=>by simp at e⟩,.Ο ?_ .Ϧ,j,λl v o t b go=>?_]
  .erw[Bd,AB];show#[a,_,rfl,(LstAt.of_sq g).imp (λz=>#[λ⟨n,c,k,e,_⟩=>by simp at e,z.2]) id,Ad.ints ns]
  .erw[Bd,AB]at b;subst b;show q o
variable {H:Hp}{s:Ab}{N:Fb}
def Gi:U Sl->O Rv
 |[.val x]=>Z (.B x)
 |_=>J
def
Mj(a:U D):a.j (D2 Gi)=a:=by induction a with
 |nil=>rfl
 |cons x c b=>rw[Bf,b];rfl
def
xU(W:Inv X ß Y' H s)(A:Ag)(M:A.κ+40<Aw){items:U Aa}{R:I}{xs:U V}{l:U D}(g:s.r.R a=Z (DW items R))(m:H a=J)(n:Off X ß a)(o:Aq xs items)(r:Ad X.K N H l xs)(ok:Br Gi l) {P:PySem.Fin->Ab->V'} (q:∀s' vs,Inv X ß Y' (AX H a (.X vs)) s'->Ad X.K N H (Fu (CZ Gi) l) vs->P (.ϕ (.Ϯ .Β)) s'):wpAny (Af X.Y X.w) A (Fl.«list.sort» #[[.C a],[]]) P E s:=by
 let l1:=r.a;let l2:=o.a;let few:=ok.few;let Q:AE=16777216:=IX;rw[list_sort_plain];apply Ao<|listItems_at g rfl ?_;let(n1,C,S):=W.rawset (f:=λ_=>(T' [])) (ð:=[]) m n g rfl;apply Ao<|Pe g rfl ?_ (by simp;lia) (by simp);apply Ao<|seqEpoch_at C rfl ?_;apply Ao<|wpAny_newTuple ?_ (by simp;lia);generalize t:({heap:=s.heap.update a<|F6 λx=>(T' []),gens:=s.gens,drawn:=s.drawn,toks:=s.Ζ,os:=s.os}:Ab)=d at *;let Y:=S.ϲ (t':=d.Ζ) (λb u e=>By {cls:=.ε "tuple",data:=.Ϲ items.E} e);generalize v:({heap:=d.r.Ι {cls:=.ε "tuple",data:=.Ϲ items.E},gens:=d.gens,drawn:=d.drawn,toks:=d.Ζ,os:=d.os}:Ab)=G at *;apply Ao<|wpAny_newList ?_ (by simp);let i:=Y.kept (t':=G.toks) (λb u e=>By (DW [] 0) e);let B:=By (DW [] 0) (show G.r.R a=Z (DW [] n1) by rw[<- v];show(By {cls:=.ε "tuple",data:=.Ϲ items.E} (show d.r.R a=Z (DW [] n1) by rw[<- t];show C)));apply Gv ?_;apply eB (N:=N) (F:=Gi) (é:=xs) (us:=items) (items:=items) (T:=λz=>do
  let k:=(arrOf z).j λy=>y.2;let h:=(<- seqEpoch a) != n1
  Builtin.List.listUpdate (.C a) λ_=>k
  if let Z x:=HM z then
   rule "list.sort.comparison-raised";throw x
  if h then
   rule "list.sort.modified";raiseError "ValueError" "list modified during sort"
  ret .Β) i A M ok (by rw[Mj];show r) o ∅ λp st L hs ha hf=>?_
 let hpl:p.a=l.a:=by have:=L.ϋ;exists this
 apply Ao<|seqEpoch_at B rfl ?_;generalize c:p.map (λj=>items.β j .Β)=out at *;let(n3,g4,I4):=i.rawset (f:=λ_=>out.E) (ð:=out) m n B rfl;rw[ha];apply Ao<|Pe B rfl ?_ (by simp) (by simp;show Op (show out.length<=AE by rw[<- c,Bg];lia));rw[hf];erw[show(n1 != n1)=O' by simp,FQ,if_false];apply A0<|q _ _ (I4.catch m n g4 (show Aq (p.map λj=>xs.β j .Ε) out by rw[<- c];show Pd o p) (by rw[Bg];lia)) ?_;rw[<- hs];show Vt r p λj hj=>by have:=L.subset hj;exists this
def
fV(p:Inv X ß Y' H s)(k:X.A.κ+64<Aw){a:U Aa}{xs:U V}{c:U D}(f:Aq xs a)(h:Ad X.K N H c xs)(ok:Br Gi c){P:PySem.Fin->Ab->V'}
  (q:∀d s' vs,H d=J->Inv X ß Y' (AX H d (.X vs)) s'->Ad X.K N H (Fu (CZ Gi) c) vs->wpAny (Af X.Y X.w) X.A.in1 (B (.C d)) P X.xe s'):wpAny (Af X.Y X.w) X.A.in1 (do
   let l <- newList a
   let _ <- EN [l] (call (.ξ "list.sort") [l])
   B l) P X.xe s:=by
 let l1:=h.a
 let m:=f.a
 let few:=ok.few
 let i:AE=16777216:=IX
 apply Ao (wpAny_newList ?_ ∅)
 let g:=Cq s.r (o:=DW a 0) rfl
 apply Ao (Gv (LL slot_list_sort #[_,g,rfl] entry_list_sort (xU (N:=N) (p.ϲ (t':=s.Ζ) (λb u e=>By (DW a 0) e)) _ ?_ g p.Τ (p.off (A4 s.r.O.o)) f h ok λs' vs n j=>#[_,rfl,q _ s' vs p.Τ n j]) (args_list_sort _)))
 change X.A.κ+1+1+40<_;lia
end
variable {M:Fb}{e:Expr}{f:AH}{x:Ae}{p:Az}
def NB(o:O D):Ba:=match o with
 |some (.lst a .l)=>Ge Gi a
 |some (.lst a .d)=>(EU a).L λb=>Ge Gi (b.j λp=>kD p.1)
 |_=>J
open J in
def
xV(hc:X.Ϸ=J')(hu:X.A.κ+64<Aw)(hg:Gl X x)(hm:X.mg x=J)(hv:Em x=Z (.ξ "sorted"))(he:JE X e (tP X.K M H0 f))
  (hn:⇑(x≠"__name__")) (G:⇑(CT x)) (hs:↥(AQ [e] X.G=(O',As e X.G)::AQ [] X.G:12)):
  JE X (.Φ (.γ x p) [e] [] pos) (tF X.K M H0 λρ=>NB (f ρ)):=#[by
 intro g s r H Q W zQ;let(ρ,ys,R,i,q):=zQ
 dsimp only at i
 let hsl:AE=16777216:=IX
 cases L:f ρ with
 |none=>rw[L]at i;cases i
 |some d=>
 rw[L]at i
 apply MO (H9 W hg hm hv ?_ hn G)
 apply PyProof.Rows.callWith_builtin1 ?_ hs rfl
 apply A8 ((EQ he.h (Bq (X:=X)) hs) pos g s r H (λj t=>∃v,j=[v]/\Ak H t/\AC X.K (Nf M ρ r) t d v) W #[ρ,d,R,L,λv t P y=>#[v,rfl,P,y]]) λus P hh=>?_
 let(j,t,C,r1,v,rfl,sm,y):=hh
 let(u,rfl,ru):=FL r1
 let fin:∀k w j,t k=J->Inv X g r (AX t k (.X j)) w->Ad X.K (Nf M ρ r) t ys j->EP X g r Q (.C k) w:=λk w j c F E=>
  #[.C k,_,F,rfl,q k j _ (sm.I (ZW c)) (sm.Β c) Z5 ((E.nw λb hb=>hb.imp id λz=>by subst z;show c).δ (ZW c))]
 unfold NB at i
 split at i
 .next xs hd=>
  ext hd
  let(ok,rfl):=Vs i
  let(a,ws,rfl,S,dl):=y
  ext ru
  let(its,rv,(o,n,ho,Y,hdd,hd),hz):=C.Ϩ S
  let l2:=rv.a
  show fB kind_sorted plain_sorted entry_sorted (args_sorted1 _) (Ao (m:=checkCount "sorted" 1 1 _) (A0 (Ao (wpAny_collect_seq a (T:="list") (.U rfl) ho Y hd (λh1 k1=>fV (N:=Nf M ρ r) (B:=λl=>ret l) (C.ϲ (t':=P.Ζ) k1) hu rv dl ok λk w j c F E=>A0 #[_,rfl,fin k w j c F E]) (by simp;lia)))))
 .next xs hd=>
  ext hd
  let(é,hun,i):=B8.mp i
  let(ok,rfl):=Vs i
  rw[HK hun]at y
  let(a,ws,rfl,S,dl):=y
  ext ru
  let(tr,dc,pd):=Kx S dl
  let(z,hs',nd,o,es,ep,e1,e2,e3,e4):=dc.1.ok C.ϧ
  let few:=ok.few
  let hl:é.a=es.o:=by have h1:=pd.kden.a;let h2:=(Ph e4).a;simp at h1 h2;lia
  apply fB kind_sorted plain_sorted entry_sorted (args_sorted1 _) ?_
  apply Ao (m:=checkCount "sorted" 1 1 _) (A0 ?_)
  apply Ao (v9 (eR (es:=es) (ep:=ep) hs') (by change X.A.ϡ=J;show C.ok.hd hc) #[o,e1,e2,e3] (by simp at few;lia) λh1 tk æ k1 hi=>?_)
  rw[eS hi]
  show fV (N:=Nf M ρ r) (B:=λl=>ret l) (C.ϲ (t':=tk) k1) hu (Ph e4) pd.kden ok λk w j c F E=>A0 #[_,rfl,fin k w j c F E]
 .cases i]
end
mutual
theorem Pr:∀(d:D),BN 0 d=J'
 |.non=>rfl
 |.bl _=>rfl
 |.int _=>rfl
 |.str _=>rfl
 |.ty _=>rfl
 |.tup a=>by erw[BN];show VS a
 |.lst a k=>by erw[BN,vk,Bool.not_false,Bool.true_and];show VS a
theorem VS:∀(xs:U D),Dr 0 xs=J'
 |[]=>rfl
 |x::xs=>by erw[Dr,Pr x,VS xs,Hd]
end
def
FZ{m:I}:∀{xs:U D},(∀x∈xs,BN m x=J')->Dr m xs=J'
 |[],_=>rfl
 |x::xs,h=>by erw[Dr,h x Bo,FZ λy a=>h y<|Bv _ a,Hd]
variable {K:Ap}{M:Fb}{e:Expr}{F:U Sl->O Rv}{k:I}{fn:Ac}{fd:Cm}{x:Ae}{p:Az}{E:XK}
def
xW(G:AY X.Y X.w X.K X.mg X.σ CX k fn fd ps (A6 K F))(a:AJ k X.A)(b:Gl X x)(c:X.mg x=Z (.C fn))(f:IY X.K (.C fn)=J')(g:Binds X.K fd ps [])(i:FN CX X E) (j:JA X (e::es) (C7 K M H0 fa)) (hz:↥(CA X x e es pos:9)):JE X (.Φ (.γ x p) (e::es) [] pos) (Fm .d K M H0 (Kn F fa)):=#[(QL G a b c f g .Ϧ i j.h hz.d hz.s hz.p).ν λ_ _ _ h=>rM h]
end
def
xX{l:PySem.W.OpenLaw}{w:Ai}{K:Ap}{mg:Bt}{f:Ac}{fd:Cm}{st:Ay}{n:I}{F:FI}(d:mg "law"=Z (.C f))(q:DI K mg "law" st ["_law_script"] a fd) (G:∀base:Al,AY l.Y w K mg base Bi n a fd ["_law_script"] (DN K F)) (h:∀ns:U W',ns.a<=63->∃G',F [.B (.X (ns.j D.u))] []=Z (.B (.bl J'),G')) (e:∀(g b pm:Aa) (i:O Ac) (c ct v:Aa),bindArgs (Kb "law" "law" (Ig st) (ZJ st) (Zg st) .Β g b pm i c ct) #[[v],[]]=Am [(("_law_script":Ae),v)]):∃fd:Cm,(∀(s:Ab) (v:Aa),BindsTo s fd #[[v],[]] [("_law_script",v)])/\∀base:Al,K.In base->base.Ns BZ mg->AY l.Y w K mg base Bi n f fd ["_law_script"] (Ot K):=by
 cases d.Γ.I q.m;let(o,p,g,b,pm,i,c,ct,j,rfl,r,k):=q.F.ex;show#[_,λs v=>.of_eq<|e _ _ _ _ _ _ _,λbase _ _=>xT (G base) h]
section
open J in
end
structure KV(Y:Cx)(e:Expr)(h:IS->Option Ae):V' where
 h:∀ß s Y' H φ S c,Inv Y ß Y' H s->Bb Y.K φ S Y' H->h S=Z c->wpAny (Af Y.Y Y.w) Y.A (As e Y.G) (λ_ _=>False) (D3 Y ß Y' H c) s
structure KW(Y:Cx)(st:Ay)(h:IS->Option Ae):V' where
 h:∀ß s Y' H φ S c,Inv Y ß Y' H s->Bb Y.K φ S Y' H->h S=Z c->wpAny (Af Y.Y Y.w) Y.A (exec st Y.G) (λ_ _=>False) (D3 Y ß Y' H c) s
structure JC(Y:Cx)(b:List Ay)(h:IS->Option Ae):V' where
 h:∀ß s Y' H φ S c,Inv Y ß Y' H s->Bb Y.K φ S Y' H->h S=Z c->wpAny (Af Y.Y Y.w) Y.A (execs b Y.G) (λ_ _=>False) (D3 Y ß Y' H c) s
@[simp]def KY(o:O (U IV))(x:Ae):O Ae:=match o with
  |some [_]=>Z x
  |_=>J
def Fc(K:Ap)(F:U IV->Gh->O Ae):Sp:=λe H Q E=>∃a G b c,Bx K a G H/\Paired (Bd K a G.a (LV a G) H) b e/\F b G=Z c/\∀D d,BF K BZ c=Z (Z (.C D))->Ak H d->E (.C D) J d
def JD(a n:I)(h:IS->O Ae):U IV->Gh->O Ae:=λb G=>if b.a=a then h (b++Ct (n-a) .no,G)else J
@[simp]def Ps(c m:Ae)(F:U IV->Gh->O Ae)(p:O I)(o:O (U IV))(s:IS):O Ae:=p.L λn=>match s.2[n]? with
  |some cl=>if Gg c m cl=J'/\n<s.2.a then o.L λa=>F (.Ϝ n::a) s.2 else J
  |none=>J
@[simp]def fW:RI->RI
  |.ret x G=>.Ϯ x G
  |_=>.ώ
@[simp]def Pt(cs:U Ae)(i:I)(o:O Ae)(r:RI)(g:Bn)(s:IS):RI:=match o with
  |none=>r
  |some c=>if cs.Μ c=J' then fW (g (s.1.Χ i (.exc c),s.2))else .ώ
variable {e:Expr}{st:Ay}{AD a b:U Ay}{h h2:IS->O Ae}{g gs:Bn}{p np:Az}{ga:IS->O (U IV)}{x:Ae}
def
xY:JC Y b (λ_=>J):=#[λ_ _ _ _ _ _ _ _ _ q=>nomatch q]
def
xZ(z:KW Y st h):JC Y (st::AD) h:=#[λa s b H d S c e R q=>N6<|Cs (z.h a s b H d S c e R q) (λ_ _ z=>z.ι) λ_ _ z=>z]
def
x3{c:Expr}{t:IS->O q'}(nx:Hb Y)(p:JT Y c (RU Y.K t))(r:JC Y a h1)(u:JC Y AD h2):JC Y (.If c a [] pos::AD) (λs=>GD (t s) (h1 s) (h2 s)):=#[λb s f H g S n y R q=>by
 cases i:t S with|none=>rw[i]at q;cases q|some k=>
  rw[i]at q;apply N6<|wpAny_If<|Cs (p.h b s f H (λv j=>v=k/\Ak H j) y #[g,S,k,R,i,λj sm=>#[rfl,sm]]) (λd l w=>?_) λe x z=>(nx e x z).ι;let(m,o,rfl,sm):=w;cases d with
  |true=>show Cs (r.h b l f m g S n o (R.δ sm) q) (λ_ _ z=>z.ι) λ_ _ z=>z.v0 sm
  |false=>show wpAny_execs_nil (Cs (u.h b l f m g S n o (R.δ sm) q) (λ_ _ z=>z.ι) λ_ _ z=>z.v0 sm)]
def
x6{a:Az}(z:KV Y e h)(d:↑(DR e (Z (.γ x a)) pos.ϩ Y.G=Am O')):KW Y (.ϥ [.γ x a] e pos) h:=#[λb s f H g S c i R q=>wpAny_Assign_Name (Cs (z.h b s f H g S c i R q) (λ_ _ z=>z.ι) λ_ _ z=>z) d]
def
x8{D:Ac}(nx:Hb Y)(W:Y.Ϸ=J')(Q:VA Y.K D)(T:BF Y.K BZ x=Z (Z (.C D)))(X:Gl Y x)(hm:Y.mg x=Z (.C D))(ha:JA Y (e::es) (Fy Y.K ga)) (i:⇑(CT x)) (j:↥(AQ (e::es) Y.G=(O',As e Y.G)::AQ es Y.G:12)) (k:↑((AF ç (AQ es Y.G)).any (·.1)=O')):KW Y (.Raise (Z (.Φ (.γ x np) (e::es) [] ç)) J pos) (λs=>KY (ga s) x):=#[λb s Y' H l S c zA R q=>by
 cases n:ga S with|none=>rw[n]at q;cases q|some p=>
  rw[n]at q;obtain⟨s0,rfl⟩:∃s0,p=[s0]:=by
   cases p with
   |nil=>cases q
   |cons s0 r=>cases r with
    |nil=>show#[s0,rfl]
    |cons _ _=>ext q
  ext q;let(t,qn,N,bs,bm,a,u,sub,w,d,y,A,B,C,E,G,l1,P,L,l4):=Q.ex;apply wpAny_Raise_call_subU (mN:=Y.σ.nsMap N) (nm:=t) (q:=qn) (N:=N) (bs:=bs) (hdct:=a) (sn:=u) (sub:=sub) (ab:=w) (col:=d) (dd:=y) (k0:=A) (k1:=B) (k2:=C) (k3:=E) (k5:=G) PySem.F.ϵ PySem.F.ϵ.hasB PySem.F.ϵ ((tail_of_in zA.kIn P).hasType PySem.F.ϵ.hasBase) (zA.ok.hd W) (j ▸ k) (nsMap_none_of_in zA.ok.mod.kin L l4) (ML zA X hm #[rfl,?_] i);rw[j];apply Calls.evalArgs_plain<|Cs (j ▸ ha.h ç b s Y' H (λo f=>Ak H f/\Paired (Bd Y.K l S.2.a (LV l S.2) f) [s0] o) zA #[l,S,[s0],R,n,λo f sm h1=>#[sm,h1]]) (λM s1 z9=>?_) λe s' z=>(nx e s' z).ι;let(o,f,g,r,sm,h1):=z9;apply#[rfl,?_,g.kIn _ _ l1,?_,tail_of_in g.kIn P,λh' v m=>#[D,T,(vV g m).v0 sm]]
  .change M.a<=AE
   rw[show M.a=1 by rw[<- r.a,<- IB h1];rfl];show FH<|qH (by ext)
  .show(Heap.Ns.of_isNs<|isNs_of_in zA.ok.mod.kin L).keeps g.bk]
def
x9{F:U IV->Gh->O Ae}{k:I}{fn:Ac}{fd:Cm}{L:U Ae}{c m:Ae}(nx:Hb Y)(hC:BF Y.K BZ c=Z (Z (.C C)))(cl:E4 Y.K C)(zA:J8 Y.K C m fn)(G:AY Y.Y Y.w Y.K Y.mg Y.σ (Iz Y.Y Y.w) k fn fd L (Fc Y.K F))(hr:AJ k Y.A)(hb:Binds Y.K fd L []) (ho:JE Y o (Fx Y.K gp)) (ha:JA Y (e::es) (Fy Y.K ga)) (M:↥(AQ (e::es) Y.G=(O',As e Y.G)::AQ es Y.G:12)) (N:↑((AF pos (AQ es Y.G)).any (·.1)=O')) (ht:↑(ME Y o m (e::es) pl å pos)):KV Y (.Φ (.η o m å) (e::es) [] pos) (λs=>Ps c m F (gp s) (ga s) s):=#[λd s Y' H b S cc zB R q=>by
 let(n,hn,q):=B8.mp q;split at q
 .next cel hc=>
  let(hi,q):=ZV q;let(X,Q,hF):=B8.mp q;let(dx,fs,q1,q2):=fS hC R.g hc hi.1;apply PySem.W.methodCall_KW (pl:=pl) (Cs (ho.h d s Y' H (λv j=>v=.C (b n)/\j=H) zB #[b,S,n,R,hn,λ_=>#[rfl,rfl]]) (λu s1 z9=>?_) λe E z=>(nx e E z).ι) ht;let(y,H1,I1,rx,p,t):=z9;subst p t;obtain rfl:u=Cp (b n):=rx;apply Us I1 (.U q1) cl zA q2 ?_;apply Uu (first:=[.C<|b n]) (h₀:=Y.base) zB.ok.mod.kin zA.kp (Cs (ha.h pos d s1 Y' H1 (λl i=>Ak H1 i/\Paired (Bd Y.K b S.2.a (LV b S.2) i) X l) I1 #[b,S,X,R,Q,λl i sm h1=>#[sm,h1]]) (λx T ⟨l,i,P,r,sm,h1⟩=>#[P.kIn,?_]) λe E z=>(nx e E z).ι) M N;let sp:Fc Y.K F (.C (b n)::l) i (λ_ _=>False) (λv _ j=>∃D,v=.C D/\BF Y.K BZ cc=Z (Z<|.ref D)/\Ak i j):=#[b,S.2,.cel n::X,cc,R.g.same sm,.cons #[hi.2,rfl] h1,hF,λD j p t=>#[D,rfl,p,t]];let r2:Aq (.C (b n)::l) (.C (b n)::x):=.Ο rfl r;let bd:=hb T (.C (b n)::x) P.kIn (show((Cp (b n)::x)++[]).a=L.a by rw[C6,<- r2.a];show G.϶ _ _ _ _ sp);rw[C6]at bd;apply wpAny_call<|LH (G.run Y.A Y.stack T i ⟨.ref (b n)::x,[]⟩ (.ref (b n)::x) (.ref (b n)::l) _ _ hr P.env0 bd r2 sp) λr E B=>?_;cases r with
  |error v=>
   let(a,C',j,p,os,ba,fl,D,t,e3,e4):=B;ext t;show#[C',e3,a,i,j,T,p,P,sm,os,ba,fl]
  |ok f=>
   cases f with
   |ret u=>let(_,_,_,_,_,_,_,z):=B;show z.ι
   |next=>show B.ι
   |brk=>show B.ι
   |cont=>show B.ι
 .cases q]
def
ya{bs:U Ay}{m:IS->O Ae}{G:Ac}{l n:Ae}{F:Ay}{b:U Ay}{T:Az}(i:I)(cs:U Ae)(nx:Hb Y)(ys:Y.Ψ=Y.G::Y.g7)(W:Y.G.xv=Z Y.G.Λ)(zx:JC Y bs m)(zb:JB Y bs (tK Y.K g)) (hm:Y.mg l=Z (.C G)) (hg:Gl Y l) (hc:∀c D,cs.Μ c=J'->BF Y.K BZ c=Z (Z (.C D))->exmOne Y.K (.C D) (.C G)=Z J') (hN:Y.N.μ) (hi:Y.N[i]?=Z n) (hl:Y.G.Δ.ρ.S n=Z .ϐ) (zs:∀(x:Ac),JB (Y.hand x) (F::b) (tK Y.K gs)) (hd:⇑(CT l)):JS Y (.Try bs [.ExceptHandler (Z (.γ l np)) (Z n) (F::b) T] [] [] pos) (tK Y.K λs=>Pt cs i (m s) (g s) gs s):=#[λd s L H D X z0=>by
 let(o,S,R,q):=z0;try dsimp only at q
 cases p:m S with
 |none=>
  rw[p]at q;apply wpAny_Try_except<|Cs (zb.h d s L H D X ⟨o,S,R,q⟩) (λf M z=>?_) λe w z=>(nx e w z).ι;cases f with
  |next=>show wpAny_execs_nil z
  |ret v=>show z
  |brk=>show z
  |cont=>show z
 |some c=>
  rw[p]at q;erw[Pt]at q;split at q
  .next y=>
   apply wpAny_Try_except<|Cs (zx.h d s L H o S c X R p) (λf M z=>z.ι) λv M z=>?_;let(P,Q,t):=z;cases a:gs (S.1.Χ i<|.exc c,S.2)with
   |ret r G'=>
    rw[a]at q;apply vX (Q':=D.rt) ys W t hm hg (hc c P y Q) hN hi hl (λx H3 s3 hx0 sm I3 A=>?_) (λu vv j k s5 I5 B C=>#[vv,j,k,I5,B,C]) hd;apply Cs ((zs x).h d s3 _ H3 {nx:=λ_ _=>False,rt:=D.rt} I3 #[o,_,((R.δ sm).put i (x:=.exc c) (v:=.C x) #[x,P,rfl,Q,A]),?_]) (λf s4 z=>?_) λe w z=>(nx e w z).ι
    .dsimp only;rw[a];show λE v k R' hv go=>q E v k R' hv<|(Go.δ sm).I go
    .cases f with
     |ret u=>let(vv,j,k,I',B,C):=z;show#[u,vv,j,k,rfl,I',B,C]
     |next=>let(_,_,_,z):=z;show z.ι
     |brk=>let(_,_,_,z):=z;show z.ι
     |cont=>let(_,_,_,z):=z;show z.ι
   |next _=>rw[a]at q;show q.ι
   |fail=>rw[a]at q;show q.ι
   |brk _=>rw[a]at q;show q.ι
   |cont _=>rw[a]at q;show q.ι
  .show q.ι]
open J in
end
def IF(a:Scope):U Ae:=(a.ρ.tail.Ϣ λp=>match p.2 with | .local=>J'|_=>O').j (·.1)
def VT(own a:U Ae)(b c:Scope):q':=decide (b.ϫ=.h6)&&b.ρ.ϝ (λx=>decide (x.2≠.Υ))&&b.ρ.ϝ (λx=>decide (x.2≠.Ν)||decide (c.ρ.S x.1=Z .Υ)||decide (c.ρ.S x.1=Z .Ν))
 && b.ρ.ϝ (λx=>decide (x.2≠.ϐ)||decide (b.names.lookup x.1=Z .local))&&a.all (λx=>decide (b.ρ.S x=Z .Ν))&&decide (own++a).μ
def
yb{own a:U Ae}{d b:Scope}(h:VT own a d b=J'):Jd own a d b:=by
 erw[VT,C9,Dp,Bool.or_eq_true,decide_eq_true_eq]at h;let(((((f,g),i),j),k),l):=h;show#[f,g,λx c e=>(i x c).ι (λz=>z.ι (λz=>absurd e z) .U) .φ,λx c e=>(j x c).ι (λz=>absurd e z) id,k,l]
structure XI(P:AN)(w:Ai)(K:Ap)(mg:Bt)(base:Al)(X:Cx)(N:List Ae)(sc:Scope):V' where
 p:X.Y=P
 w:X.w=w
 k:X.K=K
 m:X.mg=mg
 b:X.σ=base
 n:X.N=N
 s:X.G.Δ=sc
 d:N.μ
def
XI.nd{P:AN}{w:Ai}{K:Ap}{mg:Bt}{base:Al}{N:U Ae}{a:Scope}(h:XI P w K mg base X N a):X.N.μ:=h.n ▸ h.d
def oN(N:U Ae)(ø:U I):U Ae:=ø.filterMap (N[·]?)
structure CQ(N:List Ae)(sc scope:Scope)(n:I)(ø:List I):V' where
 S:Jd (IF scope) (oN N ø) scope sc
 l:(IF scope).a=n
 x:ø.j (λj=>N[j]?)=(oN N ø).j Z
def
NC{N:U Ae}{a:Scope}{n:I}{ø:U I}(h:(VT (IF scope) (oN N ø) scope a&&decide ((IF scope).a=n)&&decide (ø.j (λj=>N[j]?)=(oN N ø).j Z))=J'):CQ N a scope n ø:=by
 erw[C9,decide_eq_true_eq]at h;show#[yb h.1.1,h.1.2,h.2]
variable {K:Ap}{M:Fb}{f:VE->Ba}{fd:AH}{b:D->VE->O VE}{t:VE->O q'}{e:AH}{ý:Az}{ø:U I}{n i:I}{N:U Ae}{x:Ae}
variable{P:AN}{w:Ai}{K0:Ap}{mg:Bt}{base:Al}
def
ND{own a:U Ae}(h:XI P w K0 mg base X N sc)(d:(own++a).μ)(l:∀C f g i c j H',XI P w K0 mg base (DD X own a scope C f g i c) (own++a) (DD X own a scope C f g i c).G.Δ->JG (DD X own a scope C f g i c) tg (tG K j H' ws b))(n:∀C f g i c j H',XI P w K0 mg base (DD X own a scope C f g i c) (own++a) (DD X own a scope C f g i c).G.Δ->JF (DD X own a scope C f g i c) ifs (BP K j H' t))(o:∀C f g i c j H',XI P w K0 mg base (DD X own a scope C f g i c) (own++a) (DD X own a scope C f g i c).G.Δ->JE (DD X own a scope C f g i c) elt (tD K j H' e)):CB K X own a scope tg ifs elt ws b t e:=sG (l _ _ _ _ _ _ _ #[h.p,h.w,h.k,h.m,h.b,rfl,rfl,d]) (n _ _ _ _ _ _ _ #[h.p,h.w,h.k,h.m,h.b,rfl,rfl,d])<|o _ _ _ _ _ _ _ ⟨h.p,h.w,h.k,h.m,h.b,rfl,rfl,d⟩
variable(h:XI P w K0 mg base X N sc)(q:CQ N sc scope n ø)(hc:X.Ϸ=J')(hK:K0=K)
include h q hc hK
def
yc(a:JI X tg iter (tI K M H0 f))(c:CB K X (IF scope) (oN N ø) scope tg ifs elt ws b t e)(d:∀j∈ws,j<n)(g:↥(∀x,Fg iter X.G x=Am x:7)):JE X (.Ξ elt [#[tg,iter,ifs,0]] scope pos) (tF K M H0 (Zi n ø f b t e)):=by
 let(_,_,i,_,_,rfl,rfl,_):=h;let(S,rfl,x):=q;show sH _ _ _ S x hc a c d g
def
ye(a:N[i]?=Z x)(d:sc.ρ.S x=Z .ϐ)(g:JI X tg iter (tI K M H0 f))(k:CB K X (IF scope) (oN N ø) scope tg ifs elt ws b t e)(l:∀j∈ws,j<n)(c:↑(DR (.Ξ elt [#[tg,iter,ifs,0]] scope pos) (Z (.γ x pos')) ý.ϩ X.G=Am J'))(m:↥(∀x,Fg iter X.G x=Am x:7)):JS X (.ϥ [.γ x pos'] (.Ξ elt [#[tg,iter,ifs,0]] scope pos) ý) (tS K M H0 λρ=>ZX i (Zi n ø f b t e ρ) ρ):=by
 let(_,_,o,_,_,rfl,rfl,nd):=h;let(S,rfl,x):=q;show sI _ _ _ S x hc nd a d g k l c m
def
yg(a:N[i]?=Z x)(d:sc.ρ.S x=Z .ϐ)(g:JI X tg iter (tI K M H0 f))(k:CB K X (IF scope) (oN N ø) scope tg ifs elt ws b t e)(l:∀j∈ws,j<n)(c:↑(DR (.Ξ elt [#[tg,iter,ifs,0]] scope pos) (Z (.γ x pos')) ý.ϩ X.G=Am J'))(m:↥(∀x,Fg iter X.G x=Am x:7)):JS X (.ϥ [.γ x pos'] (.Ξ elt [#[tg,iter,ifs,0]] scope pos) ý) (tS K M H0 λρ=>ZB i (Zz (Zi n ø f b t e ρ)) ρ):=by
 let(_,_,o,_,_,rfl,rfl,nd):=h;let(S,rfl,x):=q;show sJ _ _ _ S x hc nd a d g k l c m
def
yh(a:JE X iter (tQ K M H0 fd))(c:CB K X (IF scope) (oN N ø) scope tg ifs elt ws b t e)(d:∀j∈ws,j<n)(f:↥(∀x,Fg iter X.G x=Am x:7)):JE X (.Ξ elt [#[tg,iter,ifs,0]] scope pos) (tF K M H0 (Zi n ø (λρ=>(fd ρ).L GI) b t e)):=by
 let(_,_,g,_,_,rfl,rfl,_):=h;let(S,rfl,x):=q;ext hK;ext g;show wU _ _ _ S x hc a c d f
def
yi(a:N[i]?=Z x)(d:sc.ρ.S x=Z .ϐ)(f:JE X iter (tQ K M H0 fd))(g:CB K X (IF scope) (oN N ø) scope tg ifs elt ws b t e)(k:∀j∈ws,j<n)(c:↑(DR (.Ξ elt [#[tg,iter,ifs,0]] scope pos) (Z (.γ x pos')) ý.ϩ X.G=Am J'))(l:↥(∀x,Fg iter X.G x=Am x:7)):JS X (.ϥ [.γ x pos'] (.Ξ elt [#[tg,iter,ifs,0]] scope pos) ý) (tS K M H0 λρ=>ZX i (Zi n ø (λρ=>(fd ρ).L GI) b t e ρ) ρ):=by
 let(_,_,m,_,_,rfl,rfl,nd):=h;let(S,rfl,x):=q;ext hK;ext m;show wV _ _ _ S x hc nd a d f g k c l
end
def All{a:Type}(p:a->V'):U a->V'
 |[]=>True
 |x::r=>p x/\All p r
def
All.get{a:Type}{p:a->V'}:∀{l:U a}(i:I){x:a},All p l->l[i]?=Z x->p x
 |_::_,0,_,h,e=>by ext e;show h.1
 |_::_,i+1,_,h,e=>All.ό i h.2 (by exists e)
 |[],_,_,_,e=>by simp at e
def DX(K:Ap)(mg:Bt):Ae×Ay×U Ae->V'
 |(a,st,b)=>∃fn fd,DI K mg a st b fn fd
def MX(K:Ap)(C:Ac):Ae×Ae×Ay×U Ae->V'
 |(b,a,st,c)=>∃fn fd,MI K C b a st c fn fd
section
variable(P:AN)(w:Ai)(K:Ap)(mg:Bt)(base:Al)
def OF(k:I)(nm:Ae)(sp:Sp):V':=∃st a fn fd,DI K mg nm st a fn fd/\AY P w K mg base Bi k fn fd a sp
def OM(C:Ac)(c:D8)(k:I)(nm:Ae)(sp:Sp):V':=∃a st b fn fd,MI K C nm a st b fn fd/\AY P w K mg base c k fn fd b sp
end
variable {P:AN}{w:Ai}{K:Ap}{mg:Bt}{base:Al}{nm qual:Ae}{st:Ay}{k:I}{g:Av}{gi:Bn}(N:U Ae)
def
Bz(D:DX K mg (nm,st,ps)) (l:∀(fn:Ac) (i:Aa) (A:Ag) (outer:U Env) (s:Ab) (H:Hp) (E:XK) (M:Fb) (H0:Hp),XI P w K mg base (CV Bi P w K mg base N nm (Zg st) fn i A outer s H E).nox N (Zg st)->AJ k (A.ϖ (A7 nm (Zg st) s.r.O.o fn i))->JB (CV Bi P w K mg base N nm (Zg st) fn i A outer s H E).nox (ZJ st) (tS K M H0 g)) (S:↥(Z2 N ps (Zg st):10)) (j:⇑(ps.a<=N.a)):OF P w K mg base (k+1) nm (A6 K (AT ps.a N.a g)):=let⟨fn,fd,D⟩:=D
 #[st,ps,fn,fd,D,wk D S (λa b c d e f g h r=>l fn a b c d e f g h #[rfl,rfl,rfl,rfl,rfl,rfl,rfl,S.nd] r) rfl j]
def
Ml(D:MX K C (nm,qual,st,ps)) (l:∀(fn:Ac) (i:Aa) (A:Ag) (outer:U Env) (s:Ab) (H:Hp) (E:XK) (M:Fb) (H0:Hp),XI P w K mg base (CV Bi P w K mg base N qual (Zg st) fn i A outer s H E).nox N (Zg st)->AJ k (A.ϖ (A7 qual (Zg st) s.r.O.o fn i))->JB (CV Bi P w K mg base N qual (Zg st) fn i A outer s H E).nox (ZJ st) (tS K M H0 g)) (S:↥(Z2 N ps (Zg st):10)) (j:⇑(ps.a<=N.a)):OM P w K mg base C Bi (k+1) nm (A6 K (AT ps.a N.a g)):=let⟨fn,fd,D⟩:=D
 #[qual,st,ps,fn,fd,D,wT D S (λa b c d e f g h r=>l fn a b c d e f g h #[rfl,rfl,rfl,rfl,rfl,rfl,rfl,S.nd] r) rfl j]
def
fX{fn:Ac}{fd:Cm}(D:DI K mg nm st ps fn fd) (i:∀(g:Aa) (A:Ag) (outer:U Env) (s:Ab) (H:Hp) (E:XK),XI P w K mg base (CV Bi P w K mg base N nm (Zg st) fn g A outer s H E).nox N (Zg st)->AJ k (A.ϖ (A7 nm (Zg st) s.r.O.o fn g))->JB (CV Bi P w K mg base N nm (Zg st) fn g A outer s H E).nox (ZJ st) (tK K gi)) (S:↥(Z2 N ps (Zg st):10)) (h:⇑(ps.a<=N.a)):AY P w K mg base Bi (k+1) fn fd ps (DN K (FA ps.a N.a gi)):=xH D S (λa b c d e f r=>i a b c d e f #[rfl,rfl,rfl,rfl,rfl,rfl,rfl,S.nd] r) rfl h
def
R5(D:DX K mg (nm,st,ps)) (c:∀(fn:Ac) (a:Aa) (A:Ag) (outer:U Env) (s:Ab) (H:Hp) (E:XK),XI P w K mg base (CV Bi P w K mg base N nm (Zg st) fn a A outer s H E).nox N (Zg st)->AJ k (A.ϖ (A7 nm (Zg st) s.r.O.o fn a))->JB (CV Bi P w K mg base N nm (Zg st) fn a A outer s H E).nox (ZJ st) (tK K gi)) (S:↥(Z2 N ps (Zg st):10)) (b:⇑(ps.a<=N.a)):OF P w K mg base (k+1) nm (DN K (FA ps.a N.a gi)):=let⟨fn,fd,D⟩:=D
 #[st,ps,fn,fd,D,fX N D (c fn) S b]
def
R7(D:MX K C (nm,qual,st,ps)) (i:∀(fn:Ac) (g:Aa) (A:Ag) (outer:U Env) (s:Ab) (H:Hp) (E:XK),XI P w K mg base (CV Bi P w K mg base N qual (Zg st) fn g A outer s H E).nox N (Zg st)->AJ k (A.ϖ (A7 qual (Zg st) s.r.O.o fn g))->JB (CV Bi P w K mg base N qual (Zg st) fn g A outer s H E).nox (ZJ st) (tK K gi)) (S:↥(Z2 N ps (Zg st):10)) (h:⇑(ps.a<=N.a)):OM P w K mg base C Bi (k+1) nm (DN K (FA ps.a N.a gi)):=let⟨fn,fd,D⟩:=D
 #[qual,st,ps,fn,fd,D,xI D S (λa b c d e f r=>i fn a b c d e f #[rfl,rfl,rfl,rfl,rfl,rfl,rfl,S.nd] r) rfl h]
end
variable {P:AN}{w:Ai}{K K':Ap}{mg:Bt}{base:Al}{N:U Ae}{M:Fb}{k n:I}{c m x y:Ae}{F:U Sl->O Rv}{FF:FI}{e:Expr}{fe:AH}{ga:IS->O (U IV)}{p ü:Az}(h:XI P w K mg base X N sc)(r:AJ n X.A)
include h r
def
yj(G:OF P w K mg base k x (A6 K F))(a:K=K')(b:JA X (e::es) (C7 K' M H0 fa))(c:k<=n)(d:Gl X x)(hz:CA X x e es pos):JE X (.Φ (.γ x p) (e::es) [] pos) (tD K' M H0 (Zh F fa)):=by
 let(rfl,rfl,rfl,rfl,rfl,_,_,_):=h;let(_,_,_,_,D,G):=G;grind [wa]
def
yk(G:OF P w K mg base k x (A6 K F))(a:K=K')(b:JA X (e::es) (C7 K' M H0 fa))(c:k<=n)(d:Gl X x)(hz:CA X x e es pos):JE X (.Φ (.γ x p) (e::es) [] pos) (tF K' M H0 (Ef F fa)):=by
 let(rfl,rfl,rfl,rfl,rfl,_,_,_):=h;let(_,_,_,_,D,G):=G;grind [wb]
def
ym(G:OF P w K mg base k x (A6 K F))(a:K=K')(c:JA X (e::es) (C7 K' M H0 fa))(f:k<=n)(g:Gl X x)(hz:CA X x e es pos):JE X (.Φ (.γ x p) (e::es) [] pos) (Fm .d K' M H0 (Kn F fa)):=by
 let(rfl,rfl,rfl,rfl,rfl,_,_,_):=h;subst a;let(_,_,_,_,D,G):=G;show xW G (r.ν f) g D.m D.F.kp D.b (E:=E0) Jc c hz
def
yn(G:OF P w K mg base k x (DN K FF))(a:K=K')(c:JA X (e::es) (Fy K' ga))(d:k<=n)(f:Gl X x)(hz:CA X x e es pos):JE X (.Φ (.γ x p) (e::es) [] pos) (CL K' λs=>Jz FF (ga s) s):=by
 let(rfl,rfl,rfl,rfl,rfl,_,_,_):=h;subst a;let(_,_,_,_,D,G):=G;show xJ G (r.ν d) f D.m D.F.kp D.b (E:=E0) Jc c hz
def
fY(G:OF P w K mg base k y (A6 K F))(f:mg x=J)(g:K=K')(i:JE X e (tP K' M H0 fe))(j:⇑(k+2<=n))(l:↑(Gl X x))(o:↑(Em x=Z (.ξ "sorted")))(c:↑(Gl X y)) (q:⇑(x≠"__name__")) (d:⇑(CT x)) (a:⇑(CT y)) (s:↥(AQ [e] X.G=(O',As e X.G)::AQ [] X.G:12)):JE X (.Φ (.γ x p) [e] [#[Z "key",.γ y p2,ü]] pos) (tF K' M H0 (Me F fe)):=by
 let(rfl,rfl,rfl,rfl,rfl,_,_,_):=h;subst g;let(_,_,_,_,D,G):=G;show vA G (r.ν j) l f o c D.m D.b i q d a s
variable(cb:CI K mg c C)
include cb
def
yo(G:OM P w K mg base C Bi k "__init__" (DN K FF))(a:K=K')(d:JA X (e::es) (Fy K' ga))(f:⇑(k+1<=n))(g:↑(Gl X c))(hz:↥(CA X c e es pos:9)):JE X (.Φ (.γ c p) (e::es) [] pos) (CL K' λs=>RX c FF (ga s) s):=by
 let(rfl,rfl,rfl,rfl,rfl,_,_,_):=h;subst a;let(_,_,_,_,_,D,G):=G;show xM cb.cof (cb.mkB D) G (r.ν f) g cb.m D.b (E:=E0) Jc d hz
def
R8(G:OM P w K mg base C Bi k m (A6 K F))(f:K=K')(g:JE X o (GZ K' M H0 fo))(i:JA X (e::es) (C7 K' M H0 fa))(j:⇑(k<=n)) (a:↥(AQ (e::es) X.G=(O',As e X.G)::AQ es X.G:12)) (d:↑((AF pos (AQ es X.G)).any (·.1)=O')) (l:↑(ME X o m (e::es) pl å pos)):JE X (.Φ (.η o m å) (e::es) [] pos) (tD K' M H0 λρ=>(Ek c m F (fo ρ) (fa ρ)).j Cw):=by
 let(rfl,rfl,rfl,rfl,rfl,_,_,_):=h;subst f;let(_,_,_,_,_,D,G):=G;show wt cb.cof cb.cl D.M G (r.ν j) D.b (E:=E0) Jc g i a d l
def
VU(G:OM P w K mg base C Bi k m (A6 K F))(a:K=K')(d:JE X o (GZ K' M H0 fo))(e:⇑(k<=n))(f:↑(ME X o m [] pl å pos)):JE X (.Φ (.η o m å) [] [] pos) (tD K' M H0 λρ=>(Ek c m F (fo ρ) (Z [])).j Cw):=by
 let(rfl,rfl,rfl,rfl,rfl,_,_,_):=h;subst a;let(_,_,_,_,_,D,G):=G;show wu cb.cof cb.cl D.M G (r.ν e) D.b (E:=E0) Jc d f
def
fZ(G:OM P w K mg base C Bi k m (DN K FF))(f:K=K')(g:JE X o (Fx K' gp))(i:JA X (e::es) (Fy K' ga))(j:⇑(k<=n)) (a:↥(AQ (e::es) X.G=(O',As e X.G)::AQ es X.G:12)) (d:↑((AF pos (AQ es X.G)).any (·.1)=O')) (l:↑(ME X o m (e::es) pl å pos)):JE X (.Φ (.η o m å) (e::es) [] pos) (CL K' λs=>GK c m FF (gp s) (ga s) s):=by
 let(rfl,rfl,rfl,rfl,rfl,_,_,_):=h;subst f;let(_,_,_,_,_,D,G):=G;show xK cb.cof cb.cl D.M G (r.ν j) D.b (E:=E0) Jc g i a d l
def
yp(G:OM P w K mg base C Bi k m (DN K FF))(a:K=K')(d:JE X o (Fx K' gp))(e:⇑(k<=n))(f:↑(ME X o m [] pl å pos)):JE X (.Φ (.η o m å) [] [] pos) (CL K' λs=>GK c m FF (gp s) (Z []) s):=by
 let(rfl,rfl,rfl,rfl,rfl,_,_,_):=h;subst a;let(_,_,_,_,_,D,G):=G;show xL cb.cof cb.cl D.M G (r.ν e) D.b (E:=E0) Jc d f
def
yq(nx:Hb X)(G:OM P w K mg base C (Iz P w) k m (Fc K FX))(l:K=X.K)(f:JE X o (Fx X.K gp))(g:JA X (e::es) (Fy X.K ga))(i:⇑(k<=n)) (a:↥(AQ (e::es) X.G=(O',As e X.G)::AQ es X.G:12)) (d:↑((AF pos (AQ es X.G)).any (·.1)=O')) (j:↑(ME X o m (e::es) pl å pos)):KV X (.Φ (.η o m å) (e::es) [] pos) (λs=>Ps c m FX (gp s) (ga s) s):=by
 let(rfl,rfl,rfl,rfl,rfl,_,_,_):=h;let(_,_,_,_,_,D,G):=G;show x9 nx cb.cof cb.cl D.M G (r.ν i) D.b f g a d j
end
variable {K:Ap}{M:Fb}{st:Ay}{g:Av}{i:I}{cs:U Ae}{f:Ae->q'}{m n c:Ae}{np cp p:Az}
@[simp]def GN(i:I)(g:Av):Av:=λa=>g (Kp i a)
def
yr(h:JS X st (tS K M H0 g)):JS X st (tS K M H0 (GN i g)):=r9 i h
def
yt{ty:String}(k:X.mg m=J)(l:X.mg c=J)(o:∀c a,cs.Μ c=J'->BF K BZ c=Z (Z (.C a))->Ha K a/\kitOne K (.C a) (.ε ty)=Z (f c))(q:↑(Em c=Z (.ε ty)))(r:↑(X.K=K))(s:↑(X.N[i]?=Z n))(b:↑(X.G.Δ.ρ.S n=Z .ϐ))(d:↑(Gl X c))(t:↑(Gl X m))(w:↑(Em m=Z (.ξ "isinstance"))) (x:⇑(m≠"__name__")) (e:⇑(c≠"__name__")) (g:⇑(CT m)) (hd:⇑(CT n)) (h:⇑((n==("__classdict__":Ae))=O')) (j:⇑(CT c)):JE X (.Φ (.γ m p) [.γ n np,.γ c cp] [] pos) (tD K M H0 (GG i cs f)):=eL i cs f r s (Or.U b) (am (v:=.ty ty) d l q rfl e j) (λu z=>z) o t k w x g hd h
def
All.mem{a:Type}{p:a->V'}{x:a}:∀{l:U a},All p l->x∈l->p x
 |_::_,h,e=>by cases e with
  |head=>show h.1
  |tail _ e=>show All.mem h.2 e
def XX(K:Ap)(mg:Bt)(c:Ae):V':=∃a,mg c=Z (.C a)/\BF K BZ c=Z (Z (.C a))
def YY(K:Ap)(l:U Ae)(c:Ae):V':=∃a,BF K BZ c=Z (Z (.C a))/\VA K a/\Ha K a/\kitOne K (.C a) (.ε "ValueError")=Z (GH "ValueError" c)/\(∃B,BF K BZ "CubeError"=Z (Z (.C B))/\exmOne K (.C a) (.C B)=Z J')/\All (λb=>∃B,BF K BZ b=Z (Z (.C B))/\kitOne K (.C a) (.C B)=Z (GH b c)) l
def
yu{l:U Ae}(r:X.mg m=J)(s:All (XX K X.mg) l)(t:All (YY K l) cs)(o:↑(l.Μ c=J'))(w:↑(X.K=K))(x:↑(X.N[i]?=Z n))(a:↑(X.G.Δ.ρ.S n=Z .ϐ))(b:↑(Gl X c))(y:↑(Gl X m))(A:↑(Em m=Z (.ξ "isinstance"))) (B:⇑(m≠"__name__")) (d:⇑(CT m)) (hd:⇑(CT n)) (g:⇑((n==("__classdict__":Ae))=O')) (j:⇑(CT c)):JE X (.Φ (.γ m p) [.γ n np,.γ c cp] [] pos) (tD K M H0 (GG i cs (GH c))):=by
 let(C,E,G):=s.mem<|NE.mp o;apply eL i cs _ w x (Or.inl a) (Ug (v:=.ref C) b E rfl j) (λu z=>z) (λc F h e=>?_) y r A B d hd g;let(_,H,_,f,_,_,q):=t.mem<|NE.mp h;let(_,L,k):=q.mem<|NE.mp o;cases e.Γ.I H;cases G.Γ.I L;show⟨f,k⟩
def
yv{l:U Ae}(b:All (YY K l) cs):∀c a,cs.Μ c=J'->BF K BZ c=Z (Z (.C a))->Ha K a/\kitOne K (.C a) (.ε "ValueError")=Z (GH "ValueError" c):=λc a h e=>by
 let(_,d,_,f,v,_):=b.mem<|NE.mp h;cases e.Γ.I d;show⟨f,v⟩
def
yw{l:U Ae}{mg:Bt}(a:XX K mg "CubeError")(b:All (YY K l) cs):∃G,mg "CubeError"=Z (.C G)/\∀c D,cs.Μ c=J'->BF K BZ c=Z (Z (.C D))->exmOne K (.C D) (.C G)=Z J':=by
 let(_,d,f):=a;apply#[_,d,λc D h e=>?_];let(_,g,_,_,_,(_,i,x),_):=b.mem<|NE.mp h;cases e.Γ.I g;cases f.Γ.I i;show x
def
yx{l:U Ae}{e:Expr}{ga:IS->O (U IV)}(nx:Hb X)(g:X.Ϸ=J')(h:All (XX X.K X.mg) l)(i:All (YY X.K l) cs)(j:Gl X c)(m:JA X (e::es) (Fy X.K ga))(a:↑(l.Μ c=J'))(n:↑(cs.Μ c=J')) (b:⇑(CT c)) (o:↥(AQ (e::es) X.G=(O',As e X.G)::AQ es X.G:12)) (d:↑((AF p (AQ es X.G)).any (·.1)=O')):KW X (.Raise (Z (.Φ (.γ c np) (e::es) [] p)) J pos) (λs=>KY (ga s) c):=by
 let(_,a,q):=h.mem<|NE.mp a;let(_,f,k,_):=i.mem<|NE.mp n;cases q.Γ.I f;show x8 nx g k f j a m b o d
end
end Internal
variable{gx:Internal.IS->O (Internal.IV×Internal.Gh)}{gp:Internal.IS->O I}{FX:U Internal.IV->Internal.Gh->O Ae}{h1:Internal.IS->O Ae}{gf:Internal.IS->O (U Internal.D)}{G':Internal.Gh}
namespace Internal
open PySem PySem.Spec PyProof.Rows
def

ZHR(a b:W'):Bc (.u a) (.u b)=decide (a=b):=by show(a==b)=_;by_cases h:a=b<;>simp[h]
def

ZIn(a b:Ae):Bc (.ω a) (.ω b)=decide (a=b):=by show(a==b)=_;by_cases h:a=b<;>simp[h]
def

ZH6(a b:q'):Bc (.bl a) (.bl b)=decide (a=b):=by show(a==b)=_;by_cases h:a=b<;>simp[h]
def

ZIe:Bc .Ε .Ε=J':=id rfl
def

ZIi(a:q')(b:W'):Bc (.bl a) (.u b)=decide ((if a then 1 else 0)=b):=by show((if a then 1 else 0)==b)=_;by_cases h:(if a then 1 else 0)=b<;>simp[h]
def

ZIc(a:W')(b:q'):Bc (.u a) (.bl b)=decide (a=(if b then 1 else 0)):=by show(a==(if b then 1 else 0))=_;by_cases h:a=(if b then 1 else 0)<;>simp[h]
def

ZIk(a:W')(b:Ae):Bc (.u a) (.ω b)=O':=id rfl
def

ZIf(a:Ae)(b:W'):Bc (.ω a) (.u b)=O':=id rfl
def

ZH5(a:q')(b:Ae):Bc (.bl a) (.ω b)=O':=id rfl
def

ZHU(a:Ae)(b:q'):Bc (.ω a) (.bl b)=O':=id rfl
def

ZH2(b:W'):Bc .Ε (.u b)=O':=id rfl
def

ZH4(b:Ae):Bc .Ε (.ω b)=O':=id rfl
def

ZIb(b:q'):Bc .Ε (.bl b)=O':=id rfl
def

ZHS(b:W'):Bc (.u b) .Ε=O':=id rfl
def

ZHT(b:Ae):Bc (.ω b) .Ε=O':=id rfl
def

ZHP(b:q'):Bc (.bl b) .Ε=O':=id rfl
def

ZH9(a b:U D):Bc (.Q a) (.Q b)=CY a b:=id rfl
def

ZHV(a b:U D):Bc (.X a) (.X b)=CY a b:=id rfl
def

ZHX(a b:U D):Bc (.Q a) (.X b)=O':=id rfl
def

ZIg(a b:U D):Bc (.X a) (.Q b)=O':=id rfl
def

ZH0(a:U D)(b:W'):Bc (.Q a) (.u b)=O':=id rfl
def

ZIo(a:U D)(b:Ae):Bc (.Q a) (.ω b)=O':=id rfl
def

ZIl(a:U D):Bc (.Q a) .Ε=O':=id rfl
def

ZH1(a:U D)(b:q'):Bc (.Q a) (.bl b)=O':=id rfl
def

ZIh(a:U D)(b:W'):Bc (.u b) (.Q a)=O':=id rfl
def

ZHZ(a:U D)(b:Ae):Bc (.ω b) (.Q a)=O':=id rfl
def

ZIm(a:U D):Bc .Ε (.Q a)=O':=id rfl
def

ZHQ(a:U D)(b:q'):Bc (.bl b) (.Q a)=O':=id rfl
def

ZHY(a:U D)(b:W'):Bc (.X a) (.u b)=O':=id rfl
def

ZH8(a:U D)(b:Ae):Bc (.X a) (.ω b)=O':=id rfl
def

ZHW(a:U D):Bc (.X a) .Ε=O':=id rfl
def

ZIa(a:U D)(b:q'):Bc (.X a) (.bl b)=O':=id rfl
def

ZId(a:U D)(b:W'):Bc (.u b) (.X a)=O':=id rfl
def

ZH3(a:U D)(b:Ae):Bc (.ω b) (.X a)=O':=id rfl
def

ZIp(a:U D):Bc .Ε (.X a)=O':=id rfl
def

ZHH(a:U D)(b:q'):Bc (.bl b) (.X a)=O':=id rfl
def

ZGO:CY [] []=J':=by erw[CY]
def

ZGF(a b:D)(c bs:U D):CY (a::c) (b::bs)=(Bc a b&&CY c bs):=by erw[CY]
def

ZHG(b:D)(bs:U D):CY [] (b::bs)=O':=by erw[CY]
def

ZHI(b:D)(bs:U D):CY (b::bs) []=O':=by erw[CY]
def

yy:∀(a b:U W'),CY (a.j D.u) (b.j D.u)=decide (a=b)
  |[],[]=>by simp
  |[],_::_=>by simp
  |_::_,[]=>by simp
  |x::a,y::b=>by simp[yy a b]
def

ZHq(n:I)(a:U W'):(a.j D.u).ϝ (AL n)=J':=by
  rw[Dp];intro x b;let(i,_,rfl):=Bm.mp b;ext n<;>rfl
def

ZHM(t n:String):Na t n=(t==n||(t=="bool"&&n=="int")):=rfl
def

ZFB:HG=["NoneType","bool","int","str","tuple","list"]:=rfl
def

F0:ZS=12:=rfl
def

ZHd:Dx.tysL []=Z []:=rfl
def

ZGG(n:String)(r:U D):Dx.tysL (.ty n::r)=(Dx.tysL r).j (n::·):=rfl
def

ZHL(ns:U W'):Ik (ns.j D.u)=Z ns:=cK ns
def

f3:∀(ns:U q'),Jk (ns.j D.bl)=Z ns
  |[]=>rfl
  |n::ns=>by erw[Bf,Jk,f3 ns];rfl
def
Zy{c:Type}{b:D->VE->O VE}{e:AH}{ρ:VE}(G F:c->D):∀(xs:U c),(∀x∈xs,∃a,b (G x) ρ=Z a/\e a=Z (F x))->ZG b (λ_=>Z J') e ρ (xs.j G)=Z (xs.j F)
 |[],_=>rfl
 |x::xs,h=>by
  let(a,d,f):=h x Bo;erw[Bf,ZG,d,f,Zl,Eg,Zy G F xs λy g=>h y<|Bv _ g]
def

Zt{a:Type}(l:U a)(h:l.a<=1000000):Zf (Z l)=Z l:=by
  have:l.a<=AE:=Bu h (by ext);simp[this]
def
f4{a c:Type}(f:a->c)(xs:U a)(lo b:O W'):cutD (xs.j f) lo b=(cutD xs lo b).j f:=by simp_all [cutD]
def
VV{b:Type}(xs:U b)(k:W')(h:0<=k):cutD xs J (Z k)=xs.ϒ k.ζ:=by
 unfold cutD;rw[show HT.sIx xs.a 0 J=0 from rfl,show HT.sIx xs.a xs.a (Z k)=min k.ζ xs.a by erw[HT.sIx];split<;>lia,M4,M5];rcases Nat.le_total k.toNat xs.length with a|a
 .rw[Nat.min_eq_left a]
 .rw[Nat.min_eq_right a,List.take_length,Il a]
def
R9{b:Type}(xs:U b)(k:W')(h:0<=k):cutD xs (Z k) J=xs.Θ k.ζ:=by
 unfold cutD;rw[show HT.sIx xs.a xs.a J=xs.a from rfl,show HT.sIx xs.a 0 (Z k)=min k.ζ xs.a by erw[HT.sIx];split<;>lia];rcases Nat.le_total k.toNat xs.length with a|a
 .simp_all [Nat.min_eq_left,Il,List.length_drop,A4]
 .rw[Nat.min_eq_right a,List.drop_length,List.drop_of_length_le a,List.take_nil]
def
VW(j:W')(a:0<=j)(h:j<1000000000):EC [.u j]=Z ((Bl j.ζ).j λ(k:I)=>D.u k):=by grind [LY,EC,Q6]
def
IG(n:I)(h:n<1000000000):EC [.u n]=Z ((Bl n).j λ(k:I)=>D.u k):=by
 rw[VW _ (Sa n)<|Int.lt_toNat.mp h,KP]
def
yz(i j:W')(c:0<=i)(a:i<1000000000)(h:j<1000000000)(b : -1000000000<j):OC [.u i,.u j]=Z ((Bl (j-i).ζ).j λ(k:I)=>D.u (i+(k:W'))):=by
 erw[OC];rw[Q6 #[∅,by show Int.lt_of_add_one_le a,by show Int.le_of_lt b,by show Int.lt_of_add_one_le h]];rfl
def
yA(xs ys:U D)(h:xs.a+ys.a<=1000000):Zx (.X xs) (.X ys)=Z (.X (xs++ys)):=by
 erw[Zx];rw[if_pos<|Bu h (by ext)]
def
VX(neg:q')(c:I)(z:Ae):Db neg (.ω #[(T' [c])]) (.ω z)=Z (.bl (if neg then !decide (c∈z.ϱ.J)else decide (c∈z.ϱ.J))):=by
 let h:=StrLaws.found_one z c;simp_all
def

yB(d:D):Cw (.B d)=d:=rfl
def

EG(xs:U D)(b:Kd):Cw (.τ xs b)=.X xs b:=rfl
end Internal
set_option backward.eqns.nonrecursive true
set_option tactic.hygienic true
namespace Internal
open PySem PySem.Spec PyProof.Rows PySem.W
structure Pu(Y:Cx)(b:List Ay)(h:IS->Option Ae):V' where
 h:∀ß s Y' H φ S c,Inv Y ß Y' H s->Bb Y.K φ S Y' H->h S=Z c->wpAny (Af Y.Y Y.w) Y.A (execs b Y.G) (λ_ _=>False) (λe s'=>∃σ',D3 Y ß σ' H c e s') s
def yC(K:Ap)(g:IS->O (q'×Gh)):TT:=λc H Q=>∃d s r,Bb K d s c H/\g s=Z r/\∀a b,Bb K a (s.1,r.2) c b->Go d s.2 H a r.2 b->Q r.1 b
@[simp]def KZ(F:D->D->O D)(o:O (IV×Gh))(f:IS->O D)(s:IS):O (IV×Gh):=match o with
  |some (.val d,G)=>(f (s.1,G)).L λa=>(F d a).j λb=>(.B b,G)
  |_=>J
variable {e a b:Expr}{bs:U Ay}{h:IS->O Ae}{p:Az}{ga:IS->O (U IV)}{g:IS->O IV}{f:IS->O D}{t:IS->O q'}{x c m:Ae}
def
yD(z:JC Y bs h):Pu Y bs h:=#[λa s b H d S c e R q=>Cs (z.h a s b H d S c e R q) (λ_ _ z=>z) λ_ _ z=>#[b,z]]
def
yE{F:U IV->Gh->O Ae}{k:I}{fn:Ac}{fd:Cm}{y:U Ae}(nx:Hb Y)(G:AY Y.Y Y.w Y.K Y.mg Y.σ (Iz Y.Y Y.w) k fn fd y (Fc Y.K F))(T:AJ k Y.A)(W:Gl Y x)(hm:Y.mg x=Z (.C fn))(hk:keepIn Y.K (.C fn)=J')(hb:Binds Y.K fd y []) (ha:JA Y (e::es) (Fy Y.K ga)) (hz:↥(CA Y x e es pos:9)):KV Y (.Φ (.γ x p) (e::es) [] pos) (λs=>(ga s).L λxs=>F xs s.2):=#[λb s Y' H l S c X R q=>by
 let(xs,B,hF):=B8.mp q;apply MO<|ML X W hm ?_ hz.d;apply callWith_K (h₀:=Y.base) X.ok.mod.kin hk (Cs (ha.h pos b s Y' H (λi E=>Ak H E/\Paired (Bd Y.K l S.2.a (LV l S.2) E) xs i) X #[l,S,xs,R,B,λi E sm h1=>#[sm,h1]]) (λm N ⟨i,n,o,r,sm,h1⟩=>#[o.kIn,?_]) λe P z=>(nx e P z).ι) hz.s hz.p;let sp:Fc Y.K F i n (λ_ _=>False) (λv _ t=>∃D,v=.C D/\BF Y.K BZ c=Z (Z<|.ref D)/\Ak n t):=#[l,S.2,xs,c,R.g.same sm,h1,hF,λD t L M=>#[D,rfl,L,M]];let hl:(m++[]).a=y.a:=by rw[C6,<- r.a];show G.϶ _ _ _ _ sp
 let Q:=hb N m o.kIn hl;rw[C6]at Q;apply wpAny_call<|LH (G.run Y.A Y.stack N n ⟨m,[]⟩ m i _ _ T o.env0 Q r sp) λr P j=>?_;cases r with
 |error v=>
  let(a,C,t,L,os,ba,fl,D,M,e3,e4):=j;ext M;show#[C,e3,a,n,t,N,L,o,sm,os,ba,fl]
 |ok f=>
  cases f with
  |ret u=>let(_,_,_,_,_,_,_,z):=j;show z.ι
  |next=>show j.ι
  |brk=>show j.ι
  |cont=>show j.ι]
def
yF(z:KV Y e h)(b:↑(DR e J pos.ϩ Y.G=Am O')):KW Y (.Expr e pos) h:=#[λa s d H f S c g R q=>wpAny_Expr_any (Cs (z.h a s d H f S c g R q) (λ_ _ z=>z.ι) λ_ _ z=>z) g.quiet b]
def
yG{r:R2}{F:D->D->O D}(o:DE Y.K r F){H:Hp}{Q:VK}(t:CL Y.K (λs=>KZ F (gx s) f s) Y' H Q):Lz r (CL Y.K gx) (tJ Y.K f) Y' H Q:=by
 let(u,s,r,R,e,q):=t;unfold KZ at e;dsimp only at e;split at e
 .next d G w=>
  let(n,x,e):=B8.mp e;let(b,y,rfl):=B2.mp e;show#[u,s,_,R,w,λc z L j k l=>#[c,(s.1,G),n,j,x,λA B sm m=>o (LV c G) B z A d n b Q (λa h=>(j.g.δ sm).nh h) (AB.δ k sm).p m.p y λv C i E=>q c v C (j.δ<|sm.I i) E<|l.I<|Go.δ<|sm.I i]]
 .cases e
def
yH{op:CmpOp}{r:R2}{F:D->D->O D}(c:B7 Y (Du op) r)(d:DE Y.K r F)(e:JE Y a (CL Y.K gx))(g:JE Y b (tJ Y.K f))(i:Gr op b=O'):JE Y (.Κ a [op] [b] pos) (CL Y.K λs=>KZ F (gx s) f s):=#[(aM c e.h g.h i).ν λ_ _ _ z=>yG d z]
end
def
f5{P:AN}{w:Ai}{K:Ap}{mg:Bt}{base:Al}{nm a:Ae}{st:Ay}{fn:Ac}{fd:Cm}{N d:U Ae}{k:I}{h:IS->O Ae}(F:Ih K nm a st fn fd)(S:Z2 N d (Zg st)) (r:∀(b:Aa) (A:Ag) (outer:U Env) (s:Ab) (H:Hp) (E:XK),AJ k (A.ϖ (A7 a (Zg st) s.r.O.o fn b))->Pu (CV Bi P w K mg base N a (Zg st) fn b A outer s H E).nox (ZJ st) h):AY P w K mg base (Iz P w) (k+1) fn fd d (Fc K (JD d.a N.a h)):=by
 let(oc,od,kV,u,pm,an,b,ct,x,rfl,y,j):=F.ex;let len:∀e H Q E,Fc K (JD d.a N.a h) e H Q E->e.a=d.a:=λe H Q E z=>by
  let(l,G,p,c,R,m,i,q):=z;grind [JD,IB]
 apply Uv y j S len λA outer s H e Q E B z=>?_;let(l,G,p,c,R,m,i,q):=z;let(C,i):=ZV i;let W:FO N e=e.j Z++Ct (N.a-d.a) J:=by unfold FO;rw[<- IB m,C]
 apply#[λD n f=>D={nx:=λ_ o=>Q .Ε o,rt:=Q}/\f=H/\Bb K l (p++Ct (N.a-d.a) .no,G) n H,λg L n f D zB M=>?_,rfl,rfl,by rw[W];show VQ R m _];let(_,rfl,X):=M;apply Cs ((r b A outer s f E B).h g L n f l _ c (zB.wish _) X i) (λ_ _ z=>z.ι) λv T z=>?_;let(zA,D',e1,t):=z;show vW (Y:=(CV Bi P w K mg base N a (Zg st) fn b A outer s f E).nox) rfl rfl rfl (Ak.χ f) t λo e2=>q D' o e1 e2
def OX(P:AN)(w:Ai)(K:Ap)(mg:Bt)(base:Al)(k:I)(nm:Ae)(sp:Sp):V':=∃st a fn fd,DI K mg nm st a fn fd/\AY P w K mg base (Iz P w) k fn fd a sp
variable {P:AN}{w:Ai}{K:Ap}{mg:Bt}{base:Al}{nm qual:Ae}{st:Ay}{k:I}{hx:IS->O Ae}(N:U Ae)
def
f6(D:DX K mg (nm,st,ps)) (h:∀(fn:Ac) (g:Aa) (A:Ag) (outer:U Env) (s:Ab) (H:Hp) (E:XK),XI P w K mg base (CV Bi P w K mg base N nm (Zg st) fn g A outer s H E).nox N (Zg st)->AJ k (A.ϖ (A7 nm (Zg st) s.r.O.o fn g))->Pu (CV Bi P w K mg base N nm (Zg st) fn g A outer s H E).nox (ZJ st) hx) (S:↥(Z2 N ps (Zg st):10)):OX P w K mg base (k+1) nm (Fc K (JD ps.a N.a hx)):=let⟨fn,fd,D⟩:=D
 #[st,ps,fn,fd,D,f5 D.F S<|λa b c d e f r=>h fn a b c d e f #[rfl,rfl,rfl,rfl,rfl,rfl,rfl,S.nd] r]
def
yI(D:MX K C (nm,qual,st,ps)) (h:∀(fn:Ac) (g:Aa) (A:Ag) (outer:U Env) (s:Ab) (H:Hp) (E:XK),XI P w K mg base (CV Bi P w K mg base N qual (Zg st) fn g A outer s H E).nox N (Zg st)->AJ k (A.ϖ (A7 qual (Zg st) s.r.O.o fn g))->Pu (CV Bi P w K mg base N qual (Zg st) fn g A outer s H E).nox (ZJ st) hx) (S:↥(Z2 N ps (Zg st):10)):OM P w K mg base C (Iz P w) (k+1) nm (Fc K (JD ps.a N.a hx)):=let⟨fn,fd,D⟩:=D
 #[qual,st,ps,fn,fd,D,f5 D.F S<|λa b c d e f r=>h fn a b c d e f #[rfl,rfl,rfl,rfl,rfl,rfl,rfl,S.nd] r]
end
variable {P:AN}{w:Ai}{K:Ap}{mg:Bt}{base:Al}{N:U Ae}{k n:I}{c m x:Ae}{e:Expr}{ga:IS->O (U IV)}{p:Az}(h:XI P w K mg base X N sc)(r:AJ n X.A)
include h
include r in
def
VY(nx:Hb X)(G:OX P w K mg base k x (Fc K FX))(f:K=X.K)(a:JA X (e::es) (Fy X.K ga))(c:⇑(k<=n))(d:↑(Gl X x))(hz:↥(CA X x e es pos:9)):KV X (.Φ (.γ x p) (e::es) [] pos) (λs=>(ga s).L λxs=>FX xs s.2):=by
 let(rfl,rfl,rfl,rfl,rfl,_,_,_):=h;let(_,_,_,_,D,G):=G;show yE nx G (r.ν c) d D.m D.F.kp D.b a hz
end
variable {K:Ap}{M:Fb}{a b:Expr}{f g:AH}
def
f7:B7 X (Du .Is) (λx y H Q=>∃j,y=.bl j/\((∃i,x=.bl i/\Q (.bl (decide (i=j))) H)\/((∃a,x=.C a)/\Q (.bl O') H))):=by
 intro b s e H x y v u Q f c d h;obtain⟨j,rfl,⟨i,rfl,q⟩|⟨⟨a,rfl⟩,q⟩⟩:=h
 .cases c;ext d;ext i<;>ext j<;>show wpAny_of_eq (by rfl) #[.bl<|decide<|_=_,H,f,rfl,q]
 .cases c;ext d;ext j<;>show wpAny_of_eq (by rfl) #[.bl O',H,f,rfl,q]
def El:D->D->O D
 |.bl i,.bl j=>Z (.bl (decide (i=j)))
 |.tup _,.bl _=>Z (.bl O')
 |_,_=>J
def

Sb(i j:q'):El (.bl i) (.bl j)=Z (.bl (decide (i=j))):=rfl
def

ZH7(xs:U D)(j:q'):El (.Q xs) (.bl j)=Z (.bl O'):=rfl
def
f8:DE K (λx y H Q=>∃j,y=.bl j/\((∃i,x=.bl i/\Q (.bl (decide (i=j))) H)\/((∃a,x=.C a)/\Q (.bl O') H))) El:=by
 intro N H x y f g d Q h b c e q;unfold El at e;split at e
 .cases e;show#[_,c.bl,.U #[_,b.bl,q _ H (Ak.χ H) FU]]
 .cases e;let(a,_,rfl,_):=b.Q;show#[_,c.bl,.φ #[#[a,rfl],q _ H (Ak.χ H) FU]]
 .cases e
def
yJ(c:JE X a (tP K M H0 f))(d:JE X b (tP K M H0 g)):JT X (.Κ a [.Is] [b] pos) (BP K M H0 λρ=>AM (Za El f g ρ)):=#[HA f7 f8 c.h d.h<|Gq _ (by ext) (by ext)]
end
variable {K:Ap}{H:Hp}{Q:VK}{m i:I}{D':Ends}
def
yK(h:Pp fl K (jG m ff) Y' H Q):∃M H0,Fm fl K M H0 ff Y' H Q:=by
 let(o,s,p,R,e,q):=h;let(r,c,e):=B8.mp e;split at e
 .next d=>ext e;show#[_,_,_,_,R.vw,c,λa f i sm j k l=>q a f i sm j k<|Ad.up R.g sm _ _ d<|l.nw λb n=>.U<|n.imp .U id]
 .cases e
def
yL(h:CL K (λs=>xF fl (gf s) s) Y' H Q):Pp fl K gf Y' H Q:=by
 let(c,s,r,R,e,q):=h;let(l,d,rfl):=B2.mp e;apply#[c,s,l,R,d,λa f i sm j k m=>q c _ i (R.δ sm) ?_<|Go.same sm];erw[Bd,AB];show⟨a,f,rfl,.of (λz=>R.g.nh z j) k,m.nw λb n=>.U<|.U n⟩
def
yM(h:tK K (λs=>Eb i (gx s) s) D' Y' H):CL K gx Y' H λx c=>Lx i x Y' c D'.nx:=by
 let(d,s,R,q):=h;dsimp only at q;cases a:gx s with
 |none=>rw[a]at q;show q.ι
 |some r=>rw[a]at q;show#[d,s,r,R,a,λb v e f g go=>q b _ e (f.put i g) go]
end
variable {K:Ap}{f:VE->Ba}{b:D->VE->O VE}{t:VE->O q'}{e:AH}{ý:Az}{ø:U I}{n i m:I}{N:U Ae}{x:Ae}{P:AN}{w:Ai}{K0:Ap}{mg:Bt}{base:Al}
def
yN(h:XI P w K0 mg base X N sc)(q:CQ N sc scope n ø)(o:X.Ϸ=J')(E:K0=X.K)(c:N[i]?=Z x)(p:sc.ρ.S x=Z .ϐ)(r:∀M H0,JI X tg iter (tI X.K M H0 f))(d:CB X.K X (IF scope) (oN N ø) scope tg ifs elt ws b t e)(u:∀j∈ws,j<n)(k:↑(DR (.Ξ elt [#[tg,iter,ifs,0]] scope pos) (Z (.γ x pos')) ý.ϩ X.G=Am J'))(v:↥(∀x,Fg iter X.G x=Am x:7)):JS X (.ϥ [.γ x pos'] (.Ξ elt [#[tg,iter,ifs,0]] scope pos) ý) (tK X.K λs=>Eb i (xF .l (jG m (Zi n ø f b t e) s) s) s):=by
 let(_,_,G,_,_,rfl,rfl,nd):=h;let(S,rfl,y):=q;show#[λa s A H B F z=>by
  let(M,H0,C):=yK<|yL<|yM z;show QT _ _ ø S y o nd c p (r M H0).h d.g d.t d.e k v a s A H B F<|OH u (λ_ _ _ z=>z) C]
end
variable {K:Ap}{M:Fb}{e:Expr}
def Pw(i:I)(o:O (D×VE)):C8:=match o with
 |some (d,a)=>.α (a.Χ i (.B d))
 |none=>.ώ
def
f9{i:I}{x:Ae}{a:Az}(g:X.N.μ)(c:JE X e (tX K M H0 fx))(j:↑(X.N[i]?=Z x))(k:↥(Loc X.G.Δ x:5))(l:↑(DR e (Z (.Name x a)) pos.line X.env=Am O'))(b:↥(X.fn x=J'\/X.env.scope.names.lookup x=Z .local:6)):JS X (.Assign [.Name x a] e pos) (tS K M H0 λρ=>Pw i (fx ρ)):=#[have c:=c.h;(Ob g j k c l b).ν λu w H m=>by
 let(ρ,R,q):=m;try dsimp only at q
 cases b:fx ρ with|none=>rw[b]at q;show BV q|some p=>
  let(d,f):=p;rw[b]at q;apply#[ρ,d,f,R,b,λv n o S r=>?_];let(s,t):=o.setV (i:=i) (Ak.χ n) r;show q _ _ s<|S.I t]
end
variable {M:Fb}{a b:Expr}{f g:VE->O D}
def
yO(e:X.A.κ+64<Aw)(c:JE X a (tP X.K M H0 f))(d:JE X b (tP X.K M H0 g))(i:↥(Gr .In b=O':16)):JT X (.Κ a [.In] [b] pos) (BP X.K M H0 λρ=>AM (Za (Db O') f g ρ)):=#[have c:=c.h;let d:=d.h;HA ((UU O' e).or aL) (UV O') c d i]
end
variable {P:AN}{w:Ai}{K:Ap}{mg:Bt}{base:Al}{N:U Ae}{n:I}{c:Ae}(h:XI P w K mg base X N sc)(r:AJ n X.A)
variable(cb:CI K mg c C)
include cb
end
variable {α β:Type}{a:α}{b:q'}{x:D}{l:U α}{f:α->O β}{g:α->β}{n:I}{s:Sl}{k:Kd}{o:O Ac}{v:IV}{vs:U IV}{G:Gh}{m:I}{s2:IS}{p:IV×Gh}
def
yP:Eg (Z a) f=f a:=rfl
def
yQ:Eg J f=J:=rfl
def
yR:Fd g (Z a)=Z (g a):=rfl
def
yS:Fd g J=J:=rfl
def
yT:List.j g (a::l)=g a::List.j g l:=rfl
def
yU:List.j g []=[]:=rfl
def
yV:Zl (Z a) (Z l)=Z (a::l):=rfl
def
yW:(a::l)[0]?=Z a:=rfl
def
yX:(a::l)[n+1]?=l[n]?:=rfl
def
yY{b:α}:(a::l).Χ 0 b=b::l:=rfl
def
yZ{b:α}:(a::l).Χ (n+1) b=a::l.Χ n b:=rfl
def
y0:A5 (.B x::ρ) 0=Z x:=rfl
def
y1:A5 (.τ xs k o::ρ) 0=Z (.X xs k):=rfl
def
y3:A5 (.lent xs k::ρ) 0=Z (.X xs k):=rfl
def
y4:A5 (s::ρ) (n+1)=A5 ρ n:=rfl
def
y6:CH (.B x::ρ) 0=Z (.B x):=rfl
def
zc:CH (.τ xs k o::ρ) 0=Z (.lent xs k):=rfl
def
zd:CH (.lent xs k::ρ) 0=Z (.lent xs k):=rfl
def
ze:CH (s::ρ) (n+1)=CH ρ n:=rfl
def
zf:AZ (.B x::ρ) 0=Z x:=rfl
def
zh:AZ (s::ρ) (n+1)=AZ ρ n:=rfl
def
zi:BE (.B x::ρ) 0=Z x:=rfl
def
zj:BE (.lent xs k::ρ) 0=Z (.X xs k):=rfl
def
zk:BE (s::ρ) (n+1)=BE ρ n:=rfl
def
zl:DM (.Ϝ m::vs,G) 0=Z m:=rfl
def
zn:DM (v::vs,G) (n+1)=DM (vs,G) n:=rfl
def
zo:vw m (v::vs,G)=EY m G v::vw m (vs,G):=rfl
def
zq:vw m ([],G)=[]:=rfl
def
zr{h:Av}:Ze (.α ρ) h=h ρ:=rfl
def
zt{h:Av}{r:Rv}:Ze (.Ϯ r) h=.Ϯ r:=rfl
def
zu{h:Av}:Ze (.brk ρ) h=.brk ρ:=rfl
def
zv{h:Av}:Ze (.cont ρ) h=.cont ρ:=rfl
def
zw{p q:C8}:ZE (Z J') p q=p:=rfl
def
zy{p q:C8}:ZE (Z O') p q=q:=rfl
def
zA{h:Bn}:CM (.α s2) h=h s2:=rfl
def
zB{h:Bn}:CM (.Ϯ v G) h=.Ϯ v G:=rfl
def
zC{h:Bn}:CM (.cont s2) h=.cont s2:=rfl
def
zD{p q:RI}:Fz (Z J') p q=p:=rfl
def
zE{p q:RI}:Fz (Z O') p q=q:=rfl
def
zF:AM (Z (.bl b))=Z b:=rfl
def
zG:Eb n (Z p) s2=.α (s2.1.Χ n p.1,p.2):=rfl
def
zH:ZB n (Z x) ρ=.α (ρ.Χ n (.B x)):=rfl
def
zI:Zw (Z x)=.Ϯ (.B x):=rfl
def
zJ{p:O q'}:Ea (Z J') p=Z J':=rfl
def
zK{p:O q'}:Ea (Z O') p=p:=rfl
def
zL{p:O q'}:Dl (Z J') p=p:=rfl
def
zM{p:O q'}:Dl (Z O') p=Z O':=rfl
def
zN:C0 (Z b)=Z (!b):=rfl
def
zO:xD (Z x) s2=Z (.B x,s2.2):=rfl
def
zP:C1 (Z x)=Z (.B x):=rfl
def
zQ:KS (Z p) s2=.α (s2.1,p.2):=rfl
def
zR:Hc (Z p)=.Ϯ p.1 p.2:=rfl
def
zS{F:FI}:Jz F (Z vs) s2=F vs s2.2:=rfl
def
zT:DZ (Z b)=Z (.bl b):=rfl
def
zU:xC k (Z xs) s2=Z (.Ϝ s2.2.a,s2.2++[.ϯ k xs]):=rfl
end
def DO(Y:Cx)(φ:I->Ac)(G:Gh)(H:Hp)(c:Ae)(e:Aa)(s':Ab):V':=
 ∃b a g d h f D,(b=.Β\/b=AO Y.G.Λ)/\Go φ G H d h f/\BF Y.K BZ c=Z (Z (.C D))/\GC b Y a g f D e s'
structure Mm(Y:Cx)(st:Ay)(h:IS->Option Ae):V' where
 h:∀ß s Y' H φ S c,Inv Y ß Y' H s->Bb Y.K φ S Y' H->h S=Z c->wpAny (Af Y.Y Y.w) Y.A (exec st Y.G) (λ_ _=>False) (DO Y φ S.2 H c) s
structure IH(Y:Cx)(b:List Ay)(h:IS->Option Ae):V' where
 h:∀ß s Y' H φ S c,Inv Y ß Y' H s->Bb Y.K φ S Y' H->h S=Z c->wpAny (Af Y.Y Y.w) Y.A (execs b Y.G) (λ_ _=>False) (DO Y φ S.2 H c) s
def K1(a:O Ae)(r:RI)(h:IS->O Ae):O Ae:=match a with
 |some c=>Z c
 |none=>match r with
  |.next s=>h s
  |_=>J
def HP(i:I)(g:Bn)(h:IS->O Ae):U D->IS->O Ae
 |[],_=>J
 |d::b,s=>match h (s.1.Χ i (.B d),s.2)with
  |some c=>Z c
  |none=>match g (s.1.Χ i (.B d),s.2)with
   |.next a=>HP i g h b a
   |.cont a=>HP i g h b a
   |_=>J
def VZ(i:I)(g:Bn)(h:IS->O Ae)(o:Ba)(s:IS):O Ae:=o.L λa=>HP i g h a s
def F1(G:Gh):Gh:=G.j λ_=>.dead
def Sc(a n:I)(h:IS->O Ae):U IV->Gh->O Ae:=λb G=>JD a n h b (F1 G)
variable {st:Ay}{a b AD:U Ay}{h h2:IS->O Ae}{g:Bn}{e:Expr}{t:IS->O q'}{G G1:Gh}{H:Hp}{c:Ae}
def
DO.from{v:Aa}(go:Go φ G H φ1 G1 H1)(z:DO Y φ1 G1 H1 c v s'):DO Y φ G H c v s':=by
 let(d,a,e,b,f,g,D,h1,h2,h):=z;show#[d,a,e,b,f,g,D,h1,go.I h2,h]
def
D3.up{a:A1}{v:Aa}(z:D3 Y a Y' H c v s'):DO Y φ G H c v s':=by
 let(D,h1,h2):=z;show#[.Β,a,Y',φ,G,H,D,.U rfl,Go.δ<|Ak.χ H,h1,h2]
def
zV(z:KW Y st h):Mm Y st h:=#[λa s b H φ S c d R q=>Cs (z.h a s b H φ S c d R q) (λ_ _ z=>z) λ_ _ z=>z.up]
def
zW(z:JC Y b h):IH Y b h:=#[λa s d H φ S c e R q=>Cs (z.h a s d H φ S c e R q) (λ_ _ z=>z) λ_ _ z=>z.up]
def
zX(z:Mm Y st h):IH Y (st::AD) h:=#[λa s b H φ S c d R q=>N6<|Cs (z.h a s b H φ S c d R q) (λ_ _ z=>z.ι) λ_ _ z=>z]
def
zY:Mm Y st λ_=>J:=#[λ_ _ _ _ _ _ _ _ _ q=>nomatch q]
def
zZ{c:Expr}(nx:Hb Y)(o:JT Y c (RU Y.K t))(p:IH Y a h1)(r:IH Y b h2):Mm Y (.If c a b pos) (λs=>GD (t s) (h1 s) (h2 s)):=#[λf s g H φ S n x R q=>by
 cases i:t S with|none=>rw[i]at q;cases q|some k=>
  rw[i]at q;apply wpAny_If<|Cs (o.h f s g H (λu j=>u=k/\Ak H j) x #[φ,S,k,R,i,λj sm=>#[rfl,sm]]) (λd l ⟨H1,m,v,sm⟩=>?_) λe w z=>(nx e w z).ι;subst v;cases d with
  |true=>show Cs (p.h f l g H1 φ S n m (R.δ sm) q) (λ_ _ z=>z.ι) λ_ _ z=>z.v0<|Go.δ sm
  |false=>show Cs (r.h f l g H1 φ S n m (R.δ sm) q) (λ_ _ z=>z.ι) λ_ _ z=>z.v0<|Go.δ sm]
def
ZA6(nx:Hb Y)(p:JS Y st (tK Y.K g))(r:Mm Y st h1)(t:IH Y AD h2):IH Y (st::AD) (λs=>K1 (h1 s) (g s) h2):=#[λa s o H φ S c C R q=>by
 unfold K1 at q;cases i:h1 S with|some k=>rw[i]at q;ext q;show N6<|Cs (r.h a s o H φ S _ C R i) (λ_ _ z=>z.ι) λ_ _ z=>z|none=>
  rw[i]at q;dsimp only at q;split at q
  .next j v=>
   apply N6<|Cs (p.h a s o H {nx:=λd l=>∃b,Bb Y.K b j d l/\Go φ S.2 H b j.2 l,rt:=λ_ _=>False} C #[φ,S,R,by rw[v];show λb d l w go=>#[b,w,go]]) (λf x z=>?_) λe y z=>(nx e y z).ι;cases f with
   |next=>
    let(m,A,B,n,R2,go):=z;show Cs (t.h a x m A n j c B R2 q) (λ_ _ z=>z.ι) λ_ _ z=>z.v0 go
   |ret u=>let(_,_,_,_,_,z):=z;show z.ι
   |brk=>let(_,_,_,z):=z;show z.ι
   |cont=>let(_,_,_,z):=z;show z.ι
  .cases q]
def
Zxe(ys:Y.Ψ=Y.G::Y.g7)(m:Y.G.xv=Z Y.G.Λ):PassesOwn (Af Y.Y Y.w) Y.A Y.G (DO Y φ G H c):=λv C z=>by
 let(E,b,n,f,o,p,D,g,go,q,x,r,s,t,rfl,K,h,os,y,sm,u,B,k,l,d):=z;let e:=K.ok.ϴ;let a:=d;rw[ys]at e a;apply vS e g m a λF i j=>?_;rw[<- ys]at i;show#[_,b,n,f,o,p,D,.φ rfl,go,q,x,r,s,t,rfl,K,h,os,y,sm,Vz (Un.χ (fs:=Cy Y.Ψ)) u k l (λ_ _ _ _ z=>z) sm d i.stay j,B,k,l,i]
def
ZA4{a:A1}{D:Ends}{f:Flow}(z:SP Y a D f s'):SP (Y.wish E) a D f s':=by
 cases f with
 |next=>let(b,H,c,q):=z;show#[b,H,c.wish _,q]
 |brk=>let(b,H,c,q):=z;show#[b,H,c.wish _,q]
 |cont=>let(b,H,c,q):=z;show#[b,H,c.wish _,q]
 |ret u=>let(v,b,H,c,r,q):=z;show#[v,b,H,c.wish _,r,q]
def
ZCn{l:U Ay}{x:Ae}{f:IS->O D}{i:I}{tp:Az}(nx:Hb Y)(ys:Y.Ψ=Y.G::Y.g7)(yf:Y.G.xv=Z Y.G.Λ)(hc:Y.Ϸ=J')(he:JE Y e (tJ Y.K f))(hN:Y.N.μ)(hb:JB Y l (tK Y.K g))(zb:IH Y l h) (W:↑(Y.N[i]?=Z x)) (hx:↥(Loc Y.G.Δ x:5)) (hf:↥(Y.fn x=J'\/Y.env.scope.names.lookup x=Z .local:6)) (hs:↥(∀x,Fg e Y.env x=Am x:7)):Mm Y (.For (.Name x tp) e l [] pos) (λs=>VZ i g h ((f s).L Mi) s):=#[λd s E H φ S c zA R q=>by
 let(o,hfs,q):=B8.mp q;let he':JE (Y.wish<|DO Y φ S.2 H c) e (tJ Y.K f):=#[λd s E H Q zA q=>Cs (he.h d s E H Q zA.unwish q) (λu s1 ⟨v,H1,M,r⟩=>#[v,H1,M.wish _,r]) λe P z=>(nx e P z).ι];let bd:E3 (Y.wish<|DO Y φ S.2 H c) l λD t w=>∃a b,Bb Y.K a b t w/\Go φ S.2 H a b.2 w/\(h b=Z c\/Ds Y.K a b.2 w D (g b)):=λd s E H1 D M ⟨a,b,T,gn,j⟩=>by
  rcases j with j|j
  .show Cs (zb.h d s E H1 a b c M.unwish T j) (λ_ _ z=>z.ι) λ_ _ z=>z.v0 gn
  .show Cs (hb.h d s E H1 D M.unwish #[a,b,T,j]) (λ_ _ z=>ZA4 z) λe P z=>(nx e P z).ι
 apply Cs (Uk (X:=Y.wish<|DO Y φ S.2 H c) (Zxe ys yf) hc (fO (X:=Y.wish<|DO Y φ S.2 H c) he').h (MM (X:=Y.wish<|DO Y φ S.2 H c) hN W hx hf) bd hs d s E H {nx:=λ_ _=>False,rt:=λ_ _=>False} (zA.wish _)
  #[φ,S,o,R,hfs,λF H1 s1 ok=>?_]) (λfl P z=>?_) λ_ _ z=>z
 .apply#[λn m t w=>m=o.a-n/\n<=o.a/\∃a b,Bb Y.K a b t w/\Go φ S.2 H1 a b.2 w/\HP i g h (o.Θ n) b=Z c,#[o.a,by simp,Fi _,φ,S,R.δ s1,Go.δ<|Ak.χ H1,q],?_];intro n m t w zQ;let(rfl,hle,a,b,T,gn,j):=zQ;let(ok1,ok2):=ok _ _ gn.st n;by_cases p:n<o.a
  .let(go,y):=ok1 o[n]<|CG p;rw[Kk p]at j;erw[HP]at j;apply .inr ⟨go,λL G=>n+1<=o.a/\∃a b,Bb Y.K a b L G/\Go φ S.2 H1 a b.2 G/\HP i g h (o.Θ<|n+1) b=Z c,λL G z=>⟨o.a-(n+1),by show Nat.sub_succ_lt_self o.a n p,rfl,z⟩,λx G yl=>?_⟩;let(s3,hd):=y x G yl;let g3:Go a b.2 w a b.2 G:=Go.δ s3;apply#[a,(b.1.Χ i<|.B o[n],b.2),(T.δ s3).put i hd,(Go.δ s1).I<|gn.I g3,?_];cases e1:h (b.1.Χ i<|.B o[n],b.2)with
   |some k=>rw[e1]at j;ext j;show .U rfl
   |none=>
    rw[e1]at j;apply .φ ?_;dsimp only at j;split at j
    .next s2 A=>rw[A];show λB σ2 H2 R2 C=>#[p,B,s2,R2,gn.I<|g3.I C,j]
    .next s2 A=>rw[A];show λB σ2 H2 R2 C=>#[p,B,s2,R2,gn.I<|g3.I C,j]
    .cases j
  .let e:n=o.a:=∅
   subst e;rw[Oq<|A4 _]at j;ext j
 .cases fl with
  |next=>let(_,_,_,z):=z;show z.ι
  |brk=>let(_,_,_,z):=z;show z.ι
  |cont=>let(_,_,_,z):=z;show z.ι
  |ret u=>let(_,_,_,_,_,z):=z;show z.ι]
def
ZDY{f:Ae}{a:Az}(z:KV Y e h)(d:↑(DR e (Z (.η o f a)) pos.ϩ Y.G=Am O')):KW Y (.ϥ [.η o f a] e pos) h:=#[λb s g H φ S c i R q=>plainObj_wpAny_Assign_Attribute (Cs (z.h b s g H φ S c i R q) (λ_ _ z=>z.ι) λ_ _ z=>z) d]
end
def
V0{G:Gh}{n:I}{c:Cl}(e:(F1 G)[n]?=Z c):c=.dead:=by
 unfold F1 at e;rw[D9]at e;cases q:G[n]? with
 |none=>rw[q]at e;cases e
 |some _=>rw[q]at e;ext e;rfl
def
gc{G:Gh}(h:LV φ (F1 G) a):False:=by
 let(n,c,k,e,b,_):=h;cases V0 e;ext b
def
ZBl{P:AN}{w:Ai}{K:Ap}{mg:Bt}{base:Al}{nm f:Ae}{st:Ay}{fn:Ac}{fd:Cm}{N i:U Ae}{k:I}{h:IS->O Ae}(F:Ih K nm f st fn fd)(S:Z2 N i (Zg st)) (hb:∀(g:Aa) (A:Ag) (outer:U Env) (s:Ab) (H:Hp) (E:XK),AJ k (A.ϖ (A7 f (Zg st) s.r.O.o fn g))->IH (CV Bi P w K mg base N f (Zg st) fn g A outer s H E).nox (ZJ st) h):AY P w K mg base (Iz P w) (k+1) fn fd i (Fc K (Sc i.a N.a h)):=by
 let(oc,od,kV,doc,pm,an,g,ct,osl,rfl,lk,W):=F.ex;let len:∀j H Q E,Fc K (Sc i.a N.a h) j H Q E->j.a=i.a:=λj H Q E z=>by
  let(l,G,L,c,R,C,p,q):=z;let(M,p):=ZV p;rw[<- IB C];show M
 apply Uv lk W S len λA outer s H j Q E hr z=>?_;let(l,G,L,c,R,C,p,q):=z;let(M,p):=ZV p;let hs:FO N j=j.j Z++Ct (N.a-i.a) J:=by unfold FO;rw[<- IB C,M]
 let R':Bx K l (F1 G) H:=#[λn c e=>by cases V0 e;trivial,λn m c c' k k' e _ hk=>by cases V0 e;cases hk];let X:Paired (Bd K l (F1 G).a (LV l<|F1 G) H) L j:=Paired.mapP C λx v q=>by
  cases x with
  |no=>show q
  |val d=>show AB.nw q λa z=>(gc z).ι
  |cel n=>show#[by rw[F1,Bg];show q.1,q.2]
  |exc c=>show q
 apply#[λD T r=>D={nx:=λ_ u=>Q .Ε u,rt:=Q}/\r=H/\Bb K l (L++Ct (N.a-i.a) .no,F1 G) T H,λB s' T r D zB hz=>?_,rfl,rfl,by rw[hs];show VQ R' X _];let(_,rfl,R1):=hz;apply Cs ((hb g A outer s r E hr).h B s' T r l _ c (zB.wish _) R1 p) (λ_ _ z=>z.ι) λv s'' z=>?_;let(fl,zA,σ',φ',G',u,D',hfl,go,e1,t):=z;let sm:Ak r u:=λb o z=>go.st.kp b o z<|.inl λy=>gc y;show eJ (Y:=(CV Bi P w K mg base N f (Zg st) fn g A outer s r E).nox) rfl rfl rfl sm hfl t λu e2=>q D' u e1 e2
def
fxd{P:AN}{w:Ai}{K:Ap}{mg:Bt}{base:Al}{h:U Ae}{nm:Ae}{st:Ay}{k:I}{i:IS->O Ae}(N:U Ae)(D:DX K mg (nm,st,h)) (j:∀(fn:Ac) (g:Aa) (A:Ag) (outer:U Env) (s:Ab) (H:Hp) (E:XK),XI P w K mg base (CV Bi P w K mg base N nm (Zg st) fn g A outer s H E).nox N (Zg st)->AJ k (A.ϖ (A7 nm (Zg st) s.r.O.o fn g))->IH (CV Bi P w K mg base N nm (Zg st) fn g A outer s H E).nox (ZJ st) i) (S:↥(Z2 N h (Zg st):10)):OX P w K mg base (k+1) nm (Fc K (Sc h.a N.a i)):=let⟨fn,fd,D⟩:=D
 #[st,h,fn,fd,D,ZBl D.F S<|λa b c d e f r=>j fn a b c d e f #[rfl,rfl,rfl,rfl,rfl,rfl,rfl,S.nd] r]
@[simp]def NF(i j k:I)(o:O D)(s:IS):RI:=match o with
  |some (.tup [a,b,c])=>.α (((s.1.Χ i (.B a)).Χ j (.B b)).Χ k (.B c),s.2)
  |_=>.ώ
variable {e:Expr}{f:IS->O D}{i k n:I}{x y z:Ae}{p p1 p3:Az}
def
ZES(t:X.Ϸ=J')(g:X.N.μ)(u:JE X e (tJ X.K f))(w:↑(X.N[i]?=Z x))(A:↑(X.N[j]?=Z y))(B:↑(X.N[k]?=Z z)) (l:↑(X.G.Δ.ρ.S x=Z .ϐ)) (m:↑(X.G.Δ.ρ.S y=Z .ϐ)) (o:↑(X.G.Δ.ρ.S z=Z .ϐ)) (C:↑(N9 [.Tuple [.γ x p1,.γ y p2,.γ z p3] n p] e pos.ϩ X.G=Am O')) (E:↑(Oa [.Tuple [.γ x p1,.γ y p2,.γ z p3] n p] e X.G=Am J)):JS X (.ϥ [.Tuple [.γ x p1,.γ y p2,.γ z p3] n p] e pos) (tK X.K λs=>NF i j k (f s) s):=#[(N8 u.h (az (n:=3) t (QF (MM g w (.U l)<|.inr l)<|QF (MM g A (.inl m)<|.inr m)<|QF (MM g B (.inl o)<|.inr o) ay)) C E).mono λD Y' H G=>by
   let(r,s,R,q):=G;dsimp only at q;unfold NF at q;split at q
   .next a b c hd=>
    apply#[r,s,_,R,hd,λv H' sm d=>?_];let(ad,vs,W,F,d):=d;let(L,r1,M,P,d):=d;let(Q,r2,T,S,d):=d;let(Y,r3,e4,h3,d):=d;ext d;subst M T e4;show#[ad,_,W,F,rfl,L,_,rfl,Q,_,rfl,Y,_,rfl,rfl,q r _ _ ((((R.δ sm).put (x:=.B a) i P).put (x:=.B b) j S).put (x:=.B c) k h3) (Go.δ sm)]
   .show q.ι]
end
def He:D->D->O D
 |.bl i,.bl j=>Z (.bl !(decide (i=j)))
 |.tup _,.bl _=>Z (.bl J')
 |_,_=>J
def

ge(i j:q'):He (.bl i) (.bl j)=Z (.bl !(decide (i=j))):=rfl
def

ZHN(xs:U D)(j:q'):He (.Q xs) (.bl j)=Z (.bl J'):=rfl
def gg:R2:=λx y H Q=>∃j,y=.bl j/\((∃i,x=.bl i/\Q (.bl !(decide (i=j))) H)\/(∃a,x=.C a)/\Q (.bl J') H)
variable {K:Ap}{M:Fb}{a b:Expr}{f g:VE->O D}
def
ZBz:B7 X (Du .IsNot) gg:=by
 intro b s e H x y v u Q f c d h;obtain⟨j,rfl,⟨i,rfl,q⟩|⟨⟨a,rfl⟩,q⟩⟩:=h<;>ext c<;>ext d
 .cases i<;>ext j<;>show wpAny_of_eq (by rfl) #[.bl !(decide<|_=_),H,f,rfl,q]
 .cases j<;>show wpAny_of_eq (by rfl) #[.bl J',H,f,rfl,q]
def
ZA0:DE K gg He:=by
 intro N H x y g h d Q i b c e q;unfold He at e;split at e
 .cases e;show#[_,c.bl,.U #[_,b.bl,q _ H (Ak.χ H) FU]]
 .cases e;let(a,j,f,_):=b;show#[_,c.bl,.φ #[#[a,f],q _ H (Ak.χ H) FU]]
 .cases e
def
Zuj(c:JE X a (tP K M H0 f))(d:JE X b (tP K M H0 g)):JT X (.Κ a [.IsNot] [b] pos) (BP K M H0 λρ=>AM (Za He f g ρ)):=#[HA ZBz ZA0 c.h d.h<|Gq _ (by ext) (by ext)]
end
@[simp]def Px(o:O D)(r:O (IV×Gh))(s:IS):O (IV×Gh):=match o with
  |some (.bl J')=>r
  |some (.bl O')=>Z (.B (.bl O'),s.2)
  |_=>J
variable {a b:Expr}{f:IS->O D}
def
ZEP(c:JE Y a (CL Y.K gx))(d:JE Y b (tJ Y.K f)):JE Y (.Κ a [.Is] [b] pos) (CL Y.K λs=>KZ El (gx s) f s):=yH f7 f8 c d<|Gq _ (by ext) (by ext)
def
ZBV(l:JE Y a (tJ Y.K f))(m:JE Y b (CL Y.K gx)):JE Y (.ϔ .And [a,b] pos) (CL Y.K λs=>Px (f s) (gx s) s):=#[(aw l.h<|au m.h).mono λp H Q z=>by
 let(c,s,r,R,e,q):=z;unfold Px at e;dsimp only at e;split at e
 .next d=>show#[c,s,_,R,d,λv k sm g=>#[J',g,LR #[c,s,r,R.δ sm,e,λi n o R2 j go=>q i n o R2 j<|(Go.δ sm).I go]]]
 .next d=>ext e;show#[c,s,_,R,d,λv k sm g=>#[O',g,LS<|q c _ k (R.δ sm) (by erw[Bd,AB])<|Go.δ sm]]
 .cases e]
end
@[simp]def Py(b:D->VE->O VE)(o:O D)(ρ:VE):C8:=match o with
  |some d=>(match b d ρ with
   |some a=>.α a
   |none=>.ώ)
  |none=>.ώ
variable {K:Ap}{M:Fb}{e:Expr}{f:VE->O D}{b:D->VE->O VE}
def
Zx5(a:JE X e (tD K M H0 f))(c:JG X tg (tG K M H0 ws b))(l:↑(N9 [tg] e pos.ϩ X.G=Am O'))(m:↑(Oa [tg] e X.G=Am J)) (n:↑((Gu [tg] X.G).j (·.2)=[assign tg X.G])):JS X (.ϥ [tg] e pos) (tS K M H0 λρ=>Py b (f ρ) ρ):=#[have a:=a.h;let c:=c.h;(N8 a c l m n).ν λu w H ⟨ρ,R,q⟩=>by
 try dsimp only at q
 cases g:f ρ with|none=>rw[g]at q;show BV q|some d=>
  rw[g]at q;cases i:b d ρ with|none=>erw[Py,i]at q;show BV q|some j=>
   erw[Py,i]at q;show#[ρ,d,R,g,λv o s p=>#[ρ,d,j,R.st s,p,i,λk r t _=>q k o r<|(Step.ϑ s).I t]]]
end
variable {M:Fb}{e:Expr}{f:VE->O D}{i:I}{x:Ae}{ö:Az}
@[simp]def Pz(i:I)(o:O D)(ρ:VE):C8:=match ρ[i]?,o with
  |some (.own a .l b),Z d=>if AL ZS d&&a.ϝ (AL ZS)then(match a.findIdx? (λz=>Bc z d)with
   |some j=>.α (ρ.Χ i (.τ (a.ϛ j) .l b))
   |none=>.ώ)else .ώ
  |_,_=>.ώ
def
Zrj(t:X.A.κ+64<Aw)(u:JE X e (tP X.K M H0 f))(w:↥(NV X i x:8)) (y:↑(DR (.Φ (.η (.γ x ö) "remove" å) [e] [] ç) J pos.ϩ X.G=Am O')) (hz:↥(BA X x ö "remove" å e ç:11)):JS X (.Expr (.Φ (.η (.γ x ö) "remove" å) [e] [] ç) pos) (tS X.K M H0 λρ=>Pz i (f ρ) ρ):=#[(QB (Kg Q0 PySem.F.slot_list_remove PySem.F.type_list_remove (e8 t) (GU w) (EQ u.h Bq hz.s) hz.b hz.f hz.l hz.s hz.p) y).ν λL N H z=>by
   let(ρ,R,q):=z;try dsimp only at q
   unfold Pz at q;split at q
   .next k P d m B=>
    split at q
    .next c=>
     rw[C9]at c;split at q
     .next j C=>
      let(a,g,E,Q,T,n,o):=R.Ϡ i _ m;let r:=AG E;apply#[.C a,r,.U #[rfl,g,.U<|.inl n],ρ,d,R,B,λv S s G=>?_];let(R2,W):=(R.st s).chg (fl2:=.l) (ys:=k.ϛ j) (ws:=g.ϛ j) m r ((o.δ s).erase j);show#[a,g,v,_,d,k,j,rfl,rfl,s _ _ n,o.δ s,G,c.1,c.2,C,q _ _ R2<|(Step.ϑ s).I W]
     .show BV q
    .show BV q
   .show BV q]
end
def
ZGk(a:W')(t:Tok)(l:Ac)(b:Array Aa)(n:I)(dd:O Ac)(c:Array (O Aa)):Meets (Fl.«int.__rmul__» #[[.u a t,.C l],[]]) (λ_ R s=>s.r.R l=Z {cls:=.ε "list",dict:=dd,data:=.Ϲ b n,slots:=c}/\R (.ok (.Ϯ Value.notImplemented)) s):=.of_wp λprog w A R s z=>by
  let(e,g,d,f,os):=s;let(h,q):=z;wp_walk;show#[_,rfl,q]
def
ZDh(l:Ac)(a:Array Aa)(n:I)(dd:O Ac)(b:Array (O Aa))(x:W')(u:Tok)(f:¬(!Builtin.List.listFitsIndex x)=J')(h:¬a.o*x.ζ>(2^63-1)/8)(c:¬Uz (a.o*x.ζ)=J'):Meets (Fl.«list.__mul__» #[[.C l,.u x u],[]]) (λ_ R s=>s.r.R l=Z {cls:=.ε "list",dict:=dd,data:=.Ϲ a n,slots:=b}/\R (.ok (.Ϯ (Cp s.r.O.o))) {s with heap:=s.r.Ι {cls:=J2 "list",data:=Data.Ϲ (List.Ϗ (λy z=>y++z) (T' []) (Ct (if a.Ω=J' then 0 else x.ζ) a))},toks:=s.Ζ}):=.of_wp λprog w A R s z=>by
  let(i,g,d,j,os):=s;let(k,q):=z;let e:=AutoListH.joined_fits c;wp_walk;apply wpAny_ite_false (decide_eq_false<|Kh.Ϛ e) ?_;wp_walk;show⟨_,rfl,q⟩
def
gh{xs:U V}{us:U Aa}(r:Aq xs us):∀k:I,Aq (Ct k xs).flatten (Ct k us).flatten
 |0=>.Ϧ
 |k+1=>by simpa[JH]using r.append<|gh r k
def
Ad.rep{K:Ap}{N:Fb}{H:Hp}{xs:U D}{vs:U V}(h:Ad K N H xs vs):∀k:I,Ad K N H (Ct k xs).flatten (Ct k vs).flatten
 |0=>Ad.Ϧ
 |k+1=>by simpa[JH]using h.append<|Ad.rep h k
def
gj{a:Type}(xs:U a):∀k:I,(Ct k xs).flatten.a=k*xs.a
 |0=>by simp
 |k+1=>by simp[JH,gj xs k,Nat.succ_mul,MW]
variable {K:Ap}{M:Fb}{a b:Expr}{f g:VE->O D}
def
ZBa:B7 X (GS .Mult) (λx y H Q=>∃l xs n,x=.C l/\y=.u n/\BU X.K H l xs/\1<=xs.a/\xs.a<=1000/\0<=n/\n<=100/\∀p,H p=J->Q (.C p) (AX H p (.X (Ct n.ζ xs).flatten))):=by
 intro c s C H x y v u Q P i j h;let(l,xs,n,rfl,rfl,m,E,G,N,L,q):=h;ext i;let(t,rfl):=j;let(a,r,p1,M):=P.Ϩ m;let d:=r.a;let((cls,e,data,f),b,g,k,hd):=p1.ύ;simp only at g hd;subst g hd;let o:a.a*n.ζ<=1000*100:=Nat.mul_le_mul (by omega) (by omega);apply wpAny_binaryOp_repeat_ref (T:="list") (by ext) #[_,b,rfl] (λw=>typeIs_int w n t) noFill_list_mul F.fills_int_mul F.slot_int_rmul repeat_list F.slot_int_index.S ?_;apply BW F.slot_int_rmul (typeIs_int s n t) F.entry_int_rmul (F.args_int_rmul_2 _ _) (ZGk n t l a.E k e f) #[b,rfl,#[_,b,rfl],?_];apply BW F.slot_list_mul #[_,b,rfl] F.entry_list_mul (F.args_list_mul_2 _ _) (ZDh l a.E k e f n t (by simp[Builtin.List.listFitsIndex];omega) (by erw[B3];omega) (by simp[Uz,AE];omega)) #[b,?_];let A:a.E.Ω=O':=by
  cases a with
  |nil=>rw[Ii]at d;omega
  |cons _ _=>rfl
 rw[A];let B:List.Ϗ (λy z=>y++z) (T' []) (Ct (if O'=J' then 0 else n.ζ) a.E)=((Ct n.ζ a).flatten).E:=by
  have:=listMul_foldl a.E n.ζ (T' []);exists this
 rw[B];show#[.C _,_,P.lnew (t':=s.Ζ) (gh r n.ζ) (by rw[gj,IX];rw[<- d]at o;rw[Nat.mul_comm];omega),rfl,q _ P.Τ]
@[simp]def PB:D->D->O D
  |.lst a,.int n=>if 1<=a.a/\a.a<=1000/\0<=n/\n<=100 then Z (.X (Ct n.ζ a).flatten)else J
  |_,_=>J
def
ZAM:DE K (λx y H Q=>∃l xs n,x=.C l/\y=.u n/\BU K H l xs/\1<=xs.a/\xs.a<=1000/\0<=n/\n<=100/\∀p,H p=J->Q (.C p) (AX H p (.X (Ct n.ζ xs).flatten))) PB:=by
 intro N H x y o r d Q g h i e q;unfold PB at e;split at e
 .split at e
  .next b=>
   ext e;let(a,j,k,m,c):=h;let s:=c.a;show#[a,j,_,k,i.u,m,by omega,by omega,b.2.2.1,b.2.2.2,λp f=>q _ _ (ZW f)<|UP g f<|Ad.rep c _]
  .cases e
 .cases e
def
Zvp(c:JE X a (tP X.K M H0 f))(d:JE X b (tP X.K M H0 g)):JE X (.BinOp a .Mult b pos) (tD X.K M H0 (Za PB f g)):=#[LU ZBa ZAM c.h d.h]
end
end Internal
set_option tactic.hygienic false
namespace Internal.K51
open PySem PySem.Spec PyProof.Rows Internal
section
set_option hygiene false in
local macro_rules | `(#[$a,*])=>do let w:Lean.Term <- a.getElems.foldrM (λx w=>if x.raw.isNatLit?.isSome then `(Zl (CH r $x) $w)else `(Zl (C1 $x) $w)) (<- `(some []));return w
set_option hygiene false in
local macro_rules | `(#v[$a,*])=>`(λr=>#[$a,*])
local macro_rules | `(!$n:num)=>`(λr=>A5 r $n)
local macro_rules | `(~~~$n:num)=>`(λ_=>some (.int $n))
local macro_rules | `(∅)=>`(λr=>.next r)
local macro_rules | `($a >>> $b)=>`(λr=>Ze ($a r) $b)
local macro_rules | `($a <<< $b)=>`(λr=>CM ($a r) $b)
def CS:U Ae:=["NoRow","NoSuch","TooMuch"]
def Sd:Av:=λr=>Ze (Zw (DZ (Dl (AM ((Zn Dc #v[0,Z (.ty "int")]) r)) (AM (DZ (C0 (AM ((Zn Dc #v[0,Z (.ty "bool")]) r)))))))) ∅
def Hf:=AT 1 1 Sd
def Se:AH:=λr=>DZ (Ea (AM ((Za (Db O') (!0) (λ_=>Z (.ω "abcdefghijklmnopqrstuvwxyz"))) r)) (AM ((Za (Db O') (!0) (λ_=>Z (.ω "0123456789"))) r)))
def Mn:Av:=λr=>Ze (ZE (C0 (Z4 ((Zn Dc #v[0,Z (.ty "str")]) r))) (Ze (Zw (Z (.bl O'))) ∅) (.α r)) (λr=>Ze (ZE (Ea (AM ((Za HF (Zn Zv #v[0]) (~~~1)) r)) (AM ((Za HD (Zn Zv #v[0]) (~~~12)) r))) (Ze (Zw (Z (.bl O'))) ∅) (.α r)) (λr=>Ze (Zw (DZ (Dl (AM ((Za (Db O') (Za Ar (!0) (~~~0)) (λ_=>Z (.ω "abcdefghijklmnopqrstuvwxyz"))) r)) (AM ((Zn D1 #v[Zz ((Zi 1 [] (λr=>(BE r 0).L Zs) (Zd 0) (λ_=>Z J') Se) r)]) r))))) ∅))
def JJ:=AT 1 1 Mn
def gm:Av:=λr=>Ze (Zw ((Zn Zv #v[(Za Ar (!0) (~~~0)) r]) r)) ∅
def PF:=AT 1 1 gm
def Wa:Av:=λr=>Ze (Zw (LW (AM ((Za HF (!1) (Zn Zv #v[0])) r)) ((Za Ar (!0) (!1)) r) (Z .Ε))) ∅
def Gj:=AT 2 2 Wa
def gq:AH:=(~~~0)
def gt:Av:=λr=>Ze (Zw ((Zn EE #v[Zz ((Zi 1 [] (λr=>(BE r 0).L Zs) (Zd 0) (λ_=>Z J') gq) r)]) r)) ∅
def PH:=AT 1 1 gt
def gu:Av:=λr=>Ze (Zw ((Zf (#[(Zn Zv #v[0]) r,(Zn Rh #v[0]) r,(Zn OR #v[0]) r,(Zn OS #v[0]) r].L Zj)).j D.Q)) ∅
def Sf:=AT 1 1 gu
def gv:Av:=λr=>Ze (Zw ((Zf (#[(Za Zx (Za Ar (!0) (~~~0)) (Za Ar (!1) (~~~0))) r,(Za Zx (Za Ar (!0) (~~~1)) (Za Ar (!1) (~~~1))) r,(Zn Rg #v[(Za Ar (!0) (~~~2)) r,(Za Ar (!1) (~~~2)) r]) r,(Zn Rf #v[(Za Ar (!0) (~~~3)) r,(Za Ar (!1) (~~~3)) r]) r].L Zj)).j D.Q)) ∅
def NG:=AT 2 2 gv
def Mo:AH:=(Za (Dy O') (!1) (!0))
def PJ:Av:=λr=>Ze (Zw ((Zn D1 #v[Zz ((Zi 2 [] (Gf (λr=>BE r 0) (λr=>BE r 1)) (ZP 2 (Zk (Zd 0) (Zk (Zd 1) ZQ))) (λ_=>Z J') Mo) r)]) r)) ∅
def K2:=AT 2 2 PJ
def Wb:Bn:=λs=>CM (Fz (jT 2 (λr=>AM ((Za L0 (Zn Zv #v[0]) (~~~200)) r)) s) (CM (.ώ) ∅) (.α s)) (λs=>CM (KS (RY (DM s 0) ((jE 0 (λr=>AZ r 1)) s) s) s) ∅)
def Wc:=FA 2 2 Wb
def Sg:IS->O Ae:=λs=>GD (jT 2 (λr=>AM ((Za L0 (Zn Zv #v[0]) (~~~200)) r)) s) (KY (Zl (((jE 2 (λ_=>Z (.ω "two hundred rows stand at most"))) s).j .B) (Z [])) "TooMuch") (J)
def Wd:U IV->Gh->O Ae:=JD 2 2 Sg
def We:Bn:=λs=>CM (Fz (jT 2 (λr=>AM ((Za (Db J') (!1) (!0)) r)) s) (CM (.ώ) ∅) (.α s)) (λs=>CM (KS (Pq (DM s 0) ((jE 0 (λr=>AZ r 1)) s) s) s) ∅)
def Wf:=FA 2 2 We
def Sh:IS->O Ae:=λs=>GD (jT 2 (λr=>AM ((Za (Db J') (!1) (!0)) r)) s) (KY (Zl (((jE 2 (λ_=>Z (.ω "no such row stands"))) s).j .B) (Z [])) "NoSuch") (J)
def Wg:U IV->Gh->O Ae:=JD 2 2 Sh
def gw:AH:=λr=>Zz ((Do Er #v[0]) r)
def Wh:Av:=λr=>Ze (ZK ((Zi 1 [] (λr=>((A5 r 0).L (CJ "Book" "axes")).L Zs) (Zd 0) (λ_=>Z J') gw) r)) ∅
def Wi:=AT 1 1 Wh
def Wj:Av:=λr=>Ze (ZK ((Do Er #v[(A5 r 0).L (CJ "Book" "standing")]) r)) ∅
def Wk:=AT 1 1 Wj
def Wl:Av:=λr=>Ze (ZK (NB ((A5 r 0).L (CJ "Book" "tables")))) ∅
def Si:=AT 1 1 Wl
def Wm:Av:=λr=>Ze (ZE (AM ((Za HF (!1) (Zn Zv #v[0])) r)) (Ze (Zw ((Za Ar (!0) (!1)) r)) ∅) (.α r)) (λr=>Ze (Zw (Z (.u 0))) ∅)
def ZF:=AT 2 2 Wm
def Sj:Av:=λr=>Ze (ZB 2 ((Za ZL (Za Zx (Za Zx (Za Zx (Za ED (!2) (~~~45742)) (Za Fp (!2) (~~~46949))) (Za ED (~~~29) (!4))) (~~~11)) (~~~2147483647)) r) r) (λr=>Ze (Eo 3 ((Za Fp (!2) (~~~8)) r) r) ∅)
def gy:Av:=λr=>ZB 2 ((Za Zx (Za ZL (!0) (~~~2147483549)) (~~~17)) r) r
def gz:Av:=λr=>ZX 3 (Zf ((Z []).L Zj)) r
def gA:Av:=(C2 (λr=>(#[(Za Zx (!1) (~~~2)) r].L Zj).L EC) (Zd 4) Sj)
def gB:Av:=λr=>Zw ((Dw (!3) (λr=>DF (Z (.u 2))) (λ_=>Z J) D0) r)
def Zm5:Av:=λr=>.α r
def gC:=gB >>> Zm5
def gD:=gA >>> gC
def gE:=gz >>> gD
def gF:=gy >>> gE
def gG:Av:=gF
def Z7:=AT 2 5 gG
def Sk:AH:=(Za Ar (!1) (Za ZL (Za Zx (Za Fp (!2) (Za Zx (!0) (~~~2))) (Za ED (~~~4) (!0))) (Za Ar (λr=>Zz (Zf (#[Z (.u 36),Z (.u 26)].L Zj))) (Zn intD #v[(Za Cb (!0) (~~~0)) r]))))
def gH:Av:=λr=>ZE (AM ((Za Cb (!1) (~~~0)) r)) (Ze (Zw ((Za Zx (Za Kr (Za ZL (!0) (Za Jh (~~~10) (~~~30))) (Za ED (~~~5) (Za Jh (~~~10) (~~~29)))) (!2)) r)) ∅) (.α r)
def gI:Av:=λr=>ZB 3 (Z (.ω "abcdefghijklmnopqrstuvwxyz0123456789")) r
def gJ:Av:=λr=>ZB 4 ((Za Zx (~~~1) (Za ZL (!0) (~~~12))) r) r
def gK:Av:=λr=>ZB 5 ((Za ZL (Za Fp (!0) (~~~12)) (!4)) r) r
def gL:Av:=λr=>ZX 6 ((Zi 1 [3,0] (λr=>(#[AZ r 4].L Zj).L EC) (Zd 0) (λ_=>Z J') Sk) r) r
def gM:Av:=λr=>Rj 6 (A5 r 5) ((Za Ar (!3) (Za ZL (Za Zx (Za Zx (Za Fp (!0) (Za Zx (!5) (~~~2))) (Za ED (~~~4) (!5))) (Za ED (~~~5) (!2))) (Za Ar (λr=>Zz (Zf (#[Z (.u 36),Z (.u 26)].L Zj))) (Zn intD #v[(Za Cb (!5) (~~~0)) r])))) r) r
def gN:Av:=λr=>Zw ((Rk Rl (λ_=>Z (.ω "")) #v[6]) r)
def Zor:Av:=λr=>.α r
def gO:=gN >>> Zor
def gP:=gM >>> gO
def gQ:=gL >>> gP
def gR:=gK >>> gQ
def gS:=gJ >>> gR
def gT:=gI >>> gS
def gU:=gH >>> gT
def gW:Av:=gU
def K3:=AT 3 7 gW
def gX:Av:=λr=>Py (ZP 3 (Zk (Zd 3) (Zk (Zd 4) (Zk (Zd 5) ZQ)))) (AZ r 1) r
def gY:Av:=λr=>ZB 6 ((Za Ar (λr=>Zz (Zf (#[Z .Ε,Z (.bl J'),Z (.ω "zz zz"),(Zf (#[Z (.u 1)].L Zj)).j D.Q,(Za ED (~~~7) (Za Jh (~~~10) (~~~40))) r,AZ r 4,Zz (Zf (#[Z (.u 1)].L Zj)),Zz (Zf (#[AZ r 4].L Zj))].L Zj))) (Za ZL (Za Fp (!2) (~~~16)) (~~~8))) r) r
def gZ:Av:=λr=>ZB 7 (Zz (Zf (#[Z .Ε,Zz (Zf (#[AZ r 3,AZ r 4,AZ r 5].L Zj)),(Zf (#[AZ r 3,AZ r 4].L Zj)).j D.Q,(Zf (#[AZ r 3,AZ r 4,AZ r 5,Z (.u 1)].L Zj)).j D.Q,(Zf (#[Z (.ω ""),AZ r 4,AZ r 5].L Zj)).j D.Q,(Zf (#[Z (.u 1),AZ r 4,AZ r 5].L Zj)).j D.Q].L Zj))) r
def g5:Av:=λr=>ZB 7 ((Za Zx (!7) (λr=>Zz (Zf (#[(Zf (#[AZ r 3,(Dw (!4) (λr=>DF (Z (.u 1))) (λ_=>Z J) D0) r,AZ r 5].L Zj)).j D.Q,(Zf (#[AZ r 3,(Za Zx (!4) (Dw (!4) (λ_=>Z J) (λr=>DF (Z (.u 1))) D0)) r,AZ r 5].L Zj)).j D.Q,(Zf (#[AZ r 3,Zz ((Do Er #v[4]) r),AZ r 5].L Zj)).j D.Q].L Zj)))) r) r
def g6:Av:=λr=>ZB 7 ((Za Zx (!7) (λr=>Zz (Zf (#[(Zf (#[AZ r 3,(Za Zx (λr=>(Zf (#[AZ r 6].L Zj)).j D.Q) (Dw (!4) (λr=>DF (Z (.u 1))) (λ_=>Z J) D0)) r,AZ r 5].L Zj)).j D.Q,(Zf (#[AZ r 3,(Za Zx (Dw (!4) (λ_=>Z J) (λr=>DF (Ks (Z (.u 1)))) D0) (λr=>(Zf (#[AZ r 6].L Zj)).j D.Q)) r,AZ r 5].L Zj)).j D.Q,(Zf (#[AZ r 3,AZ r 4,Z (.bl J')].L Zj)).j D.Q].L Zj)))) r) r
def g8:Av:=λr=>Zw ((Za Ar (Za Zx (!7) (λr=>Zz (Zf (#[(Zf (#[AZ r 3,AZ r 4,Z .Ε].L Zj)).j D.Q,(Zf (#[AZ r 3,AZ r 4,Z (.ω "1")].L Zj)).j D.Q,(Zf (#[Z (.ω "*"),AZ r 4,AZ r 5].L Zj)).j D.Q,Z (.ω "+")].L Zj)))) (Za ZL (!2) (~~~16))) r)
def Zkq:Av:=λr=>.α r
def g9:=g8 >>> Zkq
def hD:=g6 >>> g9
def hE:=g5 >>> hD
def hG:=gZ >>> hE
def hH:=gY >>> hG
def hJ:=gX >>> hH
def Sn:Av:=hJ
def PM:=AT 3 8 Sn
def hQ:AH:=(Za Cb (!0) (!1))
def Wn:Av:=λr=>Ze (Zw ((Zf (#[Zz ((Zi 1 [0] (λr=>(#[Z (.u 8)].L Zj).L EC) (Zd 0) (λ_=>Z J') hQ) r),Z (.bl J')].L Zj)).j D.Q)) ∅
def ZM:=AT 1 1 Wn
def hR:Av:=λr=>Ze (Zw (DZ (Ea (AM ((Zh Hf #v[0]) r)) (AM ((Zh JJ #v[0]) r))))) ∅
def NH:=AT 1 1 hR
def hT:Av:=λr=>Ze (ZE (EA (A5 r 0)) (Ze (Zw ((Zf (#[Z (.u 0),Z (.u 0)].L Zj)).j D.Q)) ∅) (.α r)) (λr=>Ze (ZE (Z4 ((Zh Hf #v[0]) r)) (Ze (Zw ((Zf (#[Z (.u 1),AZ r 0].L Zj)).j D.Q)) ∅) (.α r)) (λr=>Ze (Zw ((Zf (#[Z (.u 2),AZ r 0].L Zj)).j D.Q)) ∅))
def So:=AT 1 1 hT
def Wo:AH:=λr=>(Zf (#[(Zh Gj #v[0,1]) r,(Zh Gj #v[0,2]) r].L Zj)).j D.Q
def hU:Av:=λr=>Ze (Ij ((FY (λr=>Zz ((Zi 1 [1,2] (λr=>(BE r 0).L Zs) (Zd 0) (λ_=>Z J') Wo) r))) r)) ∅
def Sq:=AT 3 3 hU
def Zwh:Av:=λr=>Ze (Zw (DZ (Dl (AM ((Zh Hf #v[1]) r)) (AM ((Nb OI HF (~~~0) (!1) (Zn Zv #v[0])) r))))) ∅
def hV:=AT 2 2 Zwh
def PN:Av:=λr=>Ze (Zw (DZ (Dl (AM ((Zh Hf #v[1]) r)) (AM ((Nb OI OI (~~~0) (!1) (Zh PF #v[0])) r))))) ∅
def Sr:=AT 2 2 PN
def Wp:AH:=(Zh PF #v[0])
def Wq:Av:=λr=>Ze (Zw ((Zn EE #v[Zz ((Zi 1 [] (λr=>(BE r 0).L Zs) (Zd 0) (λ_=>Z J') Wp) r)]) r)) ∅
def Wr:=AT 1 1 Wq
def Ws:AH:=λr=>(Zf (#[(Za Ar (!0) (~~~0)) r,(Zf (#[Z (.ω "out"),Z .Ε].L Zj)).j D.Q].L Zj)).j D.Q
def NI:Av:=λr=>Ze (ZE (AM ((Za (Db O') (Za Ar (!4) (~~~0)) (!2)) r)) (Ze (HL 3 ((Za Ar (!4) (~~~0)) r) ((Zf (#[Z (.ω "in"),(Zh Gj #v[4,1]) r].L Zj)).j D.Q) r) ∅) (.α r)) ∅
def Wt:Av:=λr=>Ze (ES 3 ((FY (λr=>Zz ((Zi 1 [] (λr=>(BE r 0).L Zs) (Zd 0) (λ_=>Z J') Ws) r))) r) r) (λr=>Ze ((C2 (λr=>(BE r 0).L Zs) (Zd 4) NI) r) (λr=>Ze (Ij (FS r 3)) ∅))
def Ss:=AT 3 5 Wt
def Wu:VE->O q':=λr=>AM ((Za (Db O') (Za Ar (!0) (~~~0)) (!3)) r)
def Wv:AH:=λr=>(Zf (#[(Zh Gj #v[0,1]) r,(Zh Gj #v[0,2]) r].L Zj)).j D.Q
def Ww:Av:=λr=>Ze (Ij ((FY (λr=>Zz ((Zi 1 [1,2,3] (λr=>(BE r 0).L Zs) (Zd 0) Wu Wv) r))) r)) ∅
def Wx:=AT 4 4 Ww
def Su:Av:=λr=>Ze (Eo 4 ((Za Zx (~~~1) (Za ZL (Za Ar (!1) (Za Zx (~~~2) (!5))) (Za Ar (!4) (Za Kr (!5) (~~~1))))) r) r) ∅
def PP:Av:=λr=>Ze (ZE (AM ((Za HD (!5) (~~~0)) r)) (Ze (ZB 9 ((Za ZL (Za Ar (!1) (Za Zx (Za Zx (~~~7) (Za ED (~~~7) (!5))) (!9))) (Za Ar (!4) (!5))) r) r) ∅) (.α r)) (λr=>Ze (Eo 8 ((Zh K3 #v[(Za Zx (!0) (Za ED (Za Ar (!1) (~~~2)) (Za ZL (Za Ar (!1) (~~~6)) (~~~2)))) r,(Za ZL (Za Zx (Za Ar (!1) (~~~7)) (Za ED (!5) (Za ZL (Za Ar (!1) (~~~8)) (~~~2)))) (~~~2)) r,9]) r) r) ∅)
def Sv:Av:=λr=>Ze (ZX 8 (Zf ((Z []).L Zj)) r) (λr=>Ze (ZB 9 ((Za ZL (Za Zx (!7) (Za Ar (!1) (~~~2))) (!2)) r) r) (λr=>Ze ((C2 (λr=>(#[AZ r 3].L Zj).L EC) (Zd 5) PP) r) (λr=>Ze (Eo 6 ((Zn EE #v[8]) r) r) ∅)))
def hW:Av:=λr=>ZB 1 ((Zh Z7 #v[0,Z (.u 40)]) r) r
def hX:Av:=λr=>ZB 2 ((Za Zx (~~~1) (Za ZL (Za Ar (!1) (~~~0)) (~~~6))) r) r
def hY:Av:=λr=>ZB 3 ((Za Ar (λr=>Zz (Zf (#[Z (.u 2),Z (.u 1),Z (.u 3),Z (.u 2),Z (.u 3),Z (.u 4),Z (.u 2),Z (.u 3)].L Zj))) (Za ZL (Za Ar (!1) (~~~1)) (~~~8))) r) r
def hZ:Av:=λr=>ZX 4 (Zf (#[AZ r 2].L Zj)) r
def h7:Av:=(C2 (λr=>(#[Z (.u 1),AZ r 3].L Zj).L OC) (Zd 5) Su)
def h8:Av:=λr=>ZX 6 (Zf ((Z []).L Zj)) r
def ie:Av:=(C2 (λr=>(#[AZ r 2].L Zj).L EC) (Zd 7) Sv)
def ig:Av:=λr=>ZK (EB r 6)
def ZmZ:Av:=λr=>.α r
def ii:=ig >>> ZmZ
def ij:=ie >>> ii
def ik:=h8 >>> ij
def im:=h7 >>> ik
def io:=hZ >>> im
def ip:=hY >>> io
def iq:=hX >>> ip
def ir:=hW >>> iq
def iu:Av:=ir
def Sw:=AT 1 10 iu
def Wz:AH:=(Za ZL (Za Ar (!1) (!0)) (Za Zx (Zn Zv #v[(Za Ar (Za Ar (!2) (!0)) (~~~0)) r]) (~~~1)))
def WA:Av:=λr=>Ze (ZB 2 ((Zh Z7 #v[1,(Zn Zv #v[0]) r]) r) r) (λr=>Ze (Zw ((Zn EE #v[Zz ((Zi 1 [2,0] (λr=>(#[(Zn Zv #v[0]) r].L Zj).L EC) (Zd 0) (λ_=>Z J') Wz) r)]) r)) ∅)
def Sx:=AT 2 3 WA
def Sy:AH:=(Za Ar (Za Ar (Za Ar (!1) (!0)) (Za ZL (Za Ar (!2) (!0)) (Zn Zv #v[(Za Ar (!1) (!0)) r]))) (~~~0))
def WB:Av:=λr=>Ze (ZB 2 ((Zh Z7 #v[1,Z (.u 6)]) r) r) (λr=>Ze (ZB 3 ((Zn EE #v[Zz ((Zi 1 [0,2] (λr=>(#[(Zn Zv #v[0]) r].L Zj).L EC) (Zd 0) (λ_=>Z J') Sy) r)]) r) r) (λr=>Ze (Zw ((Zf (#[AZ r 3,(Za Ar (λr=>Zz (Zf (#[(Za Kr (Za ZL (Za Ar (!2) (~~~4)) (~~~7)) (~~~3)) r,(Za ZL (!1) (Za Jh (~~~10) (~~~30))) r,(Za Kr (~~~0) (Za ZL (!1) (Za Jh (~~~10) (~~~30)))) r,(Za ZL (Za Ar (!2) (~~~4)) (~~~2)) r].L Zj))) (Za ZL (Za Ar (!2) (~~~5)) (~~~4))) r].L Zj)).j D.Q)) ∅))
def K4:=AT 2 4 WB
def WC:AH:=(Zh So #v[0])
def iv:Av:=λr=>Ze (Zw ((Zn EE #v[Zz ((Zi 1 [] (λr=>(BE r 0).L Zs) (Zd 0) (λ_=>Z J') WC) r)]) r)) ∅
def NJ:=AT 1 1 iv
def WD:AH:=(Zh NH #v[0])
def NK:Av:=λr=>Ze (ZE (C0 (Z4 ((Zn Dc #v[0,Z (.ty "tuple")]) r))) (Ze (Zw (Z (.bl O'))) ∅) (.α r)) (λr=>Ze (ZE (Ea (AM ((Za HF (Zn Zv #v[0]) (~~~1)) r)) (AM ((Za HD (Zn Zv #v[0]) (~~~4)) r))) (Ze (Zw (Z (.bl O'))) ∅) (.α r)) (λr=>Ze (Zw ((Zn D1 #v[Zz ((Zi 1 [] (λr=>(BE r 0).L Zs) (Zd 0) (λ_=>Z J') WD) r)]) r)) ∅))
def K5:=AT 1 1 NK
def WE:AH:=(Zh Sr #v[0,1])
def WF:Av:=λr=>Ze (ZE (Ea (C0 (Z4 ((Zn Dc #v[1,Z (.ty "tuple")]) r))) (AM ((Za Cc (Zn Zv #v[1]) (Zn Zv #v[0])) r))) (Ze (Zw (Z (.bl O'))) ∅) (.α r)) (λr=>Ze (Zw ((Zn D1 #v[Zz ((Zi 2 [] (Gf (λr=>BE r 0) (λr=>BE r 1)) (ZP 2 (Zk (Zd 0) (Zk (Zd 1) ZQ))) (λ_=>Z J') WE) r)]) r)) ∅)
def K6:=AT 2 2 WF
def Zrz:AH:=λr=>DZ (Ea (AM (DZ (EA (A5 r 0)))) (AM ((Zh NH #v[0]) r)))
def Zrt:Av:=λr=>ZE (Ea (C0 (Z4 ((Zn Dc #v[1,Z (.ty "tuple")]) r))) (AM ((Za Cc (Zn Zv #v[1]) (~~~3)) r))) (Ze (Zw (Z (.bl O'))) ∅) (.α r)
def ZrB:Av:=λr=>ZE (Ea (C0 (Z4 ((Zh hV #v[0,(Za Ar (!1) (~~~0)) r]) r))) (C0 (Z4 ((Zh Sr #v[(Za Ar (!0) (Za Ar (!1) (~~~0))) r,(Za Ar (!1) (~~~1)) r]) r)))) (Ze (Zw (Z (.bl O'))) ∅) (.α r)
def ZrL:Av:=λr=>ZE (C0 (Z4 ((Zn Dc #v[(Za Ar (!1) (~~~2)) r,(Zf (#[Z (.ty "list"),Z (.ty "tuple")].L Zj)).j D.Q]) r))) (Ze (Zw (Z (.bl O'))) ∅) (.α r)
def Zrr:Av:=λr=>Zw ((Zn D1 #v[Zz ((Zi 1 [] (λr=>((Za Ar (!1) (~~~2)) r).L Zs) (Zd 0) (λ_=>Z J') Zrz) r)]) r)
def Zra:Av:=λr=>.α r
def ZrI:=Zrr >>> Zra
def Zrs:=ZrL >>> ZrI
def ZrF:=ZrB >>> Zrs
def ZrD:=Zrt >>> ZrF
def Zu8:Av:=ZrD
def WG:=AT 2 2 Zu8
def HR:Av:=λr=>Ze (Pw 7 ((Jp 5 (Zh Gj #v[6,1]) (Za Ar (!6) (~~~0))) r)) (λr=>Ze (ZE (AM ((Za Cc (Za Dq (!4) (!7)) (Za Dq (!4) (Za Ar (!6) (~~~0)))) r)) (Ze (Zw ((Zf (#[AZ r 7,(Za Ar (!6) (~~~0)) r].L Zj)).j D.Q)) ∅) (.α r)) ∅)
def iw:Av:=λr=>ZB 4 ((Zh Ss #v[0,2,3]) r) r
def ix:Av:=λr=>ES 5 (Z []) r
def iy:Av:=(C2 (λr=>(BE r 0).L Zs) (Zd 6) HR)
def Zqd:Av:=λr=>Zw (Z .Ε)
def Zp4:Av:=λr=>.α r
def iz:=Zqd >>> Zp4
def iA:=iy >>> iz
def iB:=ix >>> iA
def iC:=iw >>> iB
def WH:Av:=iC
def Sz:=AT 4 8 WH
def SD:AH:=(Zh Sq #v[1,(Za Ar (!2) (!0)) r,(Za Ar (!3) (!0)) r])
def iD:Av:=λr=>Ze (ZK ((Zi 2 [1,2] (Jy (λr=>BE r 0)) (ZP 2 (Zk (Zd 0) (Zk (Zd 1) ZQ))) (λ_=>Z J') SD) r)) ∅
def SE:=AT 3 3 iD
def SF:AH:=(Zh Sw #v[(Za Zx (Zh ZF #v[1,(Za Zx (~~~1) (!0)) r]) (Za ED (~~~1000) (!0))) r])
def SG:AH:=(Dw (!0) (λ_=>Z J) (λr=>DF (Z (.u 3))) D0)
def WI:Av:=λr=>ZB 1 ((Za Ar (λr=>Zz (Zf (#[Z (.u 2),Z (.u 1),Z (.u 2),Z (.u 3),Z (.u 1),Z (.u 2),Z (.u 3),Z (.u 4)].L Zj))) (Za ZL (Zh ZF #v[0,Z (.u 0)]) (~~~8))) r) r
def WJ:Av:=λr=>ZX 2 ((Zi 1 [0] (λr=>(#[AZ r 1].L Zj).L EC) (Zd 0) (λ_=>Z J') SF) r) r
def WK:Av:=λr=>ZE (AM ((Za Cb (!1) (~~~4)) r)) (Ze ((GN 2 (λr=>ZX 2 ((Zi 1 [] (λr=>(BE r 2).L Zs) (Zd 0) (λ_=>Z J') SG) r) r)) r) ∅) (.α r)
def WL:Av:=λr=>ZK (EB r 2)
def ZlD:Av:=λr=>.α r
def WM:=WL >>> ZlD
def WN:=WK >>> WM
def WP:=WJ >>> WN
def WQ:=WI >>> WP
def WR:Av:=WQ
def PQ:=AT 1 3 WR
def Mp:Av:=λr=>Ze (ZB 7 ((Za Zx (Zh ZF #v[0,(Za Zx (~~~8) (!6)) r]) (Za ED (~~~31) (!6))) r) r) (λr=>Ze (ZB 8 ((Zh Z7 #v[7,Z (.u 4)]) r) r) (λr=>Ze (ZB 9 ((Za Zx (λr=>(Zf (#[Z (.ω "+")].L Zj)).j D.Q) (Zh K4 #v[1,(Za Fp (!7) (~~~2)) r])) r) r) (λr=>Ze (ZB 10 (Z (.bl J')) r) (λr=>Ze (ZE (Dl (AM ((Za Cb (Za ZL (Za Ar (!8) (~~~0)) (~~~4)) (~~~1)) r)) (AM ((Za Cc (!4) (λr=>Zz (Zf ((Z []).L Zj)))) r))) (Ze (ZB 9 ((Za Zx (λr=>(Zf (#[Z (.ω "-")].L Zj)).j D.Q) (Za Ar (!4) (Za ZL (Za Ar (!8) (~~~1)) (Zn Zv #v[4])))) r) r) ∅) (.α r)) (λr=>Ze (ZE (AM ((Za Cb (Za ZL (Za Ar (!8) (~~~0)) (~~~12)) (~~~3)) r)) (Ze (ZB 9 ((Zh PM #v[1,9,(Za Ar (!8) (~~~2)) r]) r) r) (λr=>Ze (ZB 10 ((Zh ZM #v[Z (.u 0)]) r) r) ∅)) (Ze (ZE (AM ((Za Cb (Za ZL (Za Ar (!8) (~~~0)) (~~~12)) (~~~7)) r)) (Ze (ZB 9 ((Za Zx (λr=>(Zf (#[Z (.ω "-")].L Zj)).j D.Q) (Zh K4 #v[1,(Za Fp (!7) (~~~5)) r])) r) r) ∅) (.α r)) ∅)) (λr=>Ze (ZE (Dl (AM ((Za El (!10) (λ_=>Z (.bl J'))) r)) (Dl (AM ((Za Cb (Za Ar (!9) (~~~0)) (λ_=>Z (.ω "-"))) r)) (AM ((Za (Db J') (Dw (!9) (λr=>DF (Z (.u 1))) (λ_=>Z J) D0) (!4)) r)))) (Ze (ZB 10 ((Zh ZM #v[Z (.u 1)]) r) r) ∅) (.α r)) (λr=>Ze (ZE (Dl (AM ((Za El (!10) (λ_=>Z (.bl J'))) r)) (Dl (AM ((Za Cb (Za Ar (!9) (~~~0)) (λ_=>Z (.ω "+"))) r)) (AM ((Za Cb (Zn Zv #v[4]) (~~~200)) r)))) (Ze (ZB 10 ((Zh ZM #v[Z (.u 2)]) r) r) ∅) (.α r)) (λr=>Ze (Eo 3 (AZ r 9) r) (λr=>Ze (ZE (AM ((Za He (!10) (λ_=>Z (.bl J'))) r)) (Ze ((GN 3 (λr=>Zw ((Zf (#[AZ r 3,AZ r 6,AZ r 10].L Zj)).j D.Q))) r) ∅) (.α r)) (λr=>Ze (ZE (AM ((Za Cb (Za Ar (!9) (~~~0)) (λ_=>Z (.ω "-"))) r)) (Ze (Pz 4 ((Dw (!9) (λr=>DF (Z (.u 1))) (λ_=>Z J) D0) r) r) ∅) (Ze (Eo 4 ((Dw (!9) (λr=>DF (Z (.u 1))) (λ_=>Z J) D0) r) r) ∅)) ∅))))))))))
def WS:Av:=λr=>ZX 3 (Zf ((Z []).L Zj)) r
def WT:Av:=λr=>ZX 4 ((Do Er #v[2]) r) r
def WU:Av:=λr=>ZB 5 (Z (.bl J')) r
def WV:Av:=(C2 (λr=>(#[(Za Zx (~~~1) (Za ZL (Zh ZF #v[0,Z (.u 7)]) (~~~9))) r].L Zj).L EC) (Zd 6) Mp)
def iE:Av:=(GN 3 (λr=>Zw ((Zf (#[AZ r 3,(Zn Zv #v[3]) r,AZ r 5].L Zj)).j D.Q)))
def iF:Av:=λr=>.α r
def WW:=iE >>> iF
def SH:=WV >>> WW
def SJ:=WU >>> SH
def SM:=WT >>> SJ
def BQ:=WS >>> SM
def NL:Av:=BQ
def WX:=AT 3 11 NL
def WY:AH:=(Zh K5 #v[0])
def PR:Av:=λr=>Ze (ZB 6 ((Dw (!3) (λr=>DF ((Za Zx (!4) (~~~1)) r)) (λ_=>Z J) D0) r) r) (λr=>Ze (Ky (OW (Jp 1 (λr=>(Zf (#[AZ r 4,AZ r 5].L Zj)).j D.Q) (λr=>AZ r 6)) (!6) r) (λr=>Ze (Zw (Z (.bl O'))) ∅) ∅) ∅)
def ZN:Av:=λr=>Ze (ZE (Ea (AM ((Za Cc (Zn Zv #v[3]) (Zn Zv #v[(Za Ar (!0) (~~~0)) r])) r)) (AM ((Za (Dy O') (Za Ar (!3) (~~~0)) (!2)) r))) (Ze (Zw (Z (.bl O'))) ∅) (.α r)) (λr=>Ze (HL 2 ((Za Ar (!3) (~~~0)) r) (Z (.bl J')) r) (λr=>Ze ((C2 (Jy (λr=>BE r 3)) (ZP 2 (Zk (Zd 4) (Zk (Zd 5) ZQ))) PR) r) ∅))
def PU:Av:=λr=>ZE (C0 (Z4 ((Zn D1 #v[Zz ((Zi 1 [] (λr=>(BE r 0).L Zs) (Zd 0) (λ_=>Z J') WY) r)]) r))) (Ze (Zw (Z (.bl O'))) ∅) (.α r)
def SN:Av:=λr=>ES 1 (Z []) r
def SO:Av:=λr=>ES 2 (Z []) r
def SQ:Av:=(C2 (λr=>(BE r 0).L Zs) (Zd 3) ZN)
def WZ:Av:=λr=>Zw (Z (.bl J'))
def Zml:Av:=λr=>.α r
def W0:=WZ >>> Zml
def SR:=SQ >>> W0
def SS:=SO >>> SR
def SU:=SN >>> SS
def PV:=PU >>> SU
def PX:Av:=PV
def JL:=AT 1 7 PX
def W3:AH:=(Zh WG #v[1,0])
def W4:Av:=λr=>Ze (Zw (DZ (Dl (AM ((Zn Dc #v[1,Z (.ty "list")]) r)) (AM ((Zn D1 #v[Zz ((Zi 1 [0] (λr=>(BE r 1).L Zs) (Zd 0) (λ_=>Z J') W3) r)]) r))))) ∅
def W5:=AT 2 2 W4
def W6:Av:=λr=>Ze (Zw ((Zf (#[(Zh NJ #v[(Za Ar (!0) (~~~0)) r]) r,(Za Ar (!0) (~~~1)) r].L Zj)).j D.Q)) ∅
def SV:=AT 1 1 W6
def W7:Av:=λr=>Ze (Zw (DZ (Dl (AM ((Zh K6 #v[(A5 r 0).L (CJ "Book" "axes"),1]) r)) (AM ((Za (Dy O') (!1) (λr=>(A5 r 0).L (CJ "Book" "tables"))) r))))) ∅
def W8:=AT 2 2 W7
def iG:Av:=λr=>Ze (ZE (C0 (Z4 ((Zn Dc #v[0,Z (.ty "list")]) r))) (Ze (Zw (Z (.bl O'))) ∅) (.α r)) (λr=>Ze (ZE (Ea (AM ((Za HF (Zn Zv #v[0]) (~~~1)) r)) (AM ((Za HD (Zn Zv #v[0]) (~~~40)) r))) (Ze (Zw (Z (.bl O'))) ∅) (.α r)) (λr=>Ze (Zw ((Zh JL #v[0]) r)) ∅))
def K7:=AT 1 1 iG
def W9:Av:=λr=>Ze (ZE (C0 (Z4 ((Ek "Book" "is_kept" W8 (CH r 0) #[1]).j Cw))) (Ze (.ώ) ∅) (.α r)) (λr=>Ze (ZK ((Do Er #v[(Za Dq (λr=>(A5 r 0).L (CJ "Book" "tables")) (!1)) r]) r)) ∅)
def Xa:=AT 2 2 W9
def K8:Av:=λr=>Ze (ZE (Ea (C0 (Z4 (A5 r 1))) (AM ((Za Cc (Za Ar (!1) (λr=>Ks (Z (.u 1)))) (!2)) r))) (Ze (Eo 1 (AZ r 2) r) ∅) (.α r)) ∅
def Xb:Av:=λr=>Ze (ZX 1 (Zf ((Z []).L Zj)) r) (λr=>Ze ((C2 (λr=>(Zz ((Me NJ (!0)) r)).L Zs) (Zd 2) K8) r) (λr=>Ze (ZK (EB r 1)) ∅))
def PY:=AT 1 3 Xb
def SW:AH:=(Zh K7 #v[0])
def iH:Av:=λr=>Ze (ZE (C0 (Z4 ((Zn Dc #v[0,Z (.ty "list")]) r))) (Ze (Zw (Z (.bl O'))) ∅) (.α r)) (λr=>Ze (ZE (Ea (AM ((Za HF (Zn Zv #v[0]) (~~~1)) r)) (AM ((Za HD (Zn Zv #v[0]) (~~~4)) r))) (Ze (Zw (Z (.bl O'))) ∅) (.α r)) (λr=>Ze (Zw ((Zn D1 #v[Zz ((Zi 1 [] (λr=>(BE r 0).L Zs) (Zd 0) (λ_=>Z J') SW) r)]) r)) ∅))
def PZ:=AT 1 1 iH
def Xc:AH:=λr=>(Zf (#[AZ r 0].L Zj)).j D.Q
def Xd:AH:=(Za Ar (!0) (~~~0))
def P0:Av:=λr=>Ze (ZK ((Zi 1 [] (λr=>((Zh PY #v[Zz ((Zi 1 [] (λr=>(BE r 0).L Zs) (Zd 0) (λ_=>Z J') Xc) r)]) r).L Zs) (Zd 0) (λ_=>Z J') Xd) r)) ∅
def P1:=AT 1 1 P0
def Z8:AH:=(Za Dq (!0) (!1))
def ZI:Av:=λr=>Ze (ZE (Z4 ((Zh K2 #v[0,3]) r)) (Ze (ZB 5 ((Zn EE #v[Zz ((Zi 2 [] (Gf (λr=>BE r 0) (λr=>BE r 3)) (ZP 2 (Zk (Zd 0) (Zk (Zd 1) ZQ))) (λ_=>Z J') Z8) r)]) r) r) (λr=>Ze (HL 2 (A5 r 5) (LW (AM ((Za (Dy O') (!5) (!2)) r)) ((Zh NG #v[(Za Dq (!2) (!5)) r,4]) r) (AZ r 4)) r) ∅)) (.α r)) ∅
def P2:AH:=λr=>(Zf (#[AZ r 0,(Za Dq (!1) (!0)) r].L Zj)).j D.Q
def P4:Av:=λr=>Ze (ES 2 (Z []) r) (λr=>Ze ((C2 (λr=>(BE r 1).L Zs) (ZP 2 (Zk (Zd 3) (Zk (Zd 4) ZQ))) ZI) r) (λr=>Ze (ZK ((Zi 1 [2] (λr=>((Zh PY #v[Zz ((Do Mf #v[2]) r)]) r).L Zs) (Zd 0) (λ_=>Z J') P2) r)) ∅))
def P5:=AT 2 6 P4
def Xe:VE->O q':=λr=>AM ((Za Cc (Za Pl (!1) (!0)) (Za Dq (!2) (!0))) r)
def iI:AH:=λr=>AZ r 0
def Xf:VE->O q':=λr=>AM ((Za (Dy J') (!0) (!1)) r)
def iJ:AH:=λr=>AZ r 0
def iK:Av:=λr=>ES 2 ((FY (!0)) r) r
def iL:Av:=λr=>ES 3 ((FY (!1)) r) r
def iM:Av:=(GN 2 (λr=>ZX 4 ((Zi 1 [3,2] (λr=>(BE r 2).L GI) (Zd 0) Xe iI) r) r))
def iN:Av:=(GN 3 (λr=>ZK ((Ef PY #v[(Za Zx (!4) (λr=>Zz ((Zi 1 [2] (λr=>(BE r 3).L GI) (Zd 0) Xf iJ) r))) r]) r)))
def Zk0:Av:=λr=>.α r
def iO:=iN >>> Zk0
def iP:=iM >>> iO
def iQ:=iL >>> iP
def iR:=iK >>> iQ
def Xg:Av:=iR
def SX:=AT 2 5 Xg
def Xh:VE->O q':=λr=>AM ((Za Cb (Zh Gj #v[0,1]) (!2)) r)
def Xi:AH:=(Za Ar (!0) (~~~0))
def P6:Av:=λr=>Ze (ZE (Dl (C0 (EA (A5 r 2))) (C0 (Z4 ((Zh NH #v[2]) r)))) (Ze (ZK (Zf ((Z []).L Zj))) ∅) (.α r)) (λr=>Ze (ZK ((Ef P1 #v[Zz ((Zi 1 [1,2] (λr=>(BE r 0).L Zs) (Zd 0) Xh Xi) r)]) r)) ∅)
def SY:=AT 3 3 P6
def Xj:AH:=λr=>(Zf (#[AZ r 0,Z (.bl J')].L Zj)).j D.Q
def Xk:VE->O q':=λr=>AM ((Za (Dy O') (Zh Gj #v[0,(Za Ar (!1) (~~~1)) r]) (!2)) r)
def iS:AH:=λr=>AZ r 0
def P7:Av:=λr=>Ze (ZE (AM ((Za Cb (Za Ar (!4) (~~~0)) (!2)) r)) (Ze (ES 5 ((FY (λr=>Zz ((Zi 1 [] (λr=>((Za Ar (!4) (~~~2)) r).L Zs) (Zd 0) (λ_=>Z J') Xj) r))) r) r) (λr=>Ze (ZB 3 (Zz ((Zi 1 [4,5] (λr=>(BE r 3).L Zs) (Zd 0) Xk iS) r)) r) ∅)) (.α r)) ∅
def Xl:AH:=(Za Ar (!0) (~~~0))
def Xm:Av:=λr=>Ze (ZB 3 ((Za Ar (!0) (!2)) r) r) (λr=>Ze ((C2 (λr=>(BE r 1).L Zs) (Zd 4) P7) r) (λr=>Ze (ZK ((Ef P1 #v[Zz ((Zi 1 [] (λr=>(BE r 3).L Zs) (Zd 0) (λ_=>Z J') Xl) r)]) r)) ∅))
def S0:=AT 3 6 Xm
def Xn:AH:=λr=>(Zf (#[AZ r 0,(Zh Sf #v[Zz (Zf (#[AZ r 1].L Zj))]) r].L Zj)).j D.Q
def Xo:Av:=λr=>Ze (ZB 3 (Zz ((Zi 2 [] (λr=>(BE r 1).L Zs) (ZP 2 (Zk (Zd 0) (Zk (Zd 1) ZQ))) (λ_=>Z J') Xn) r)) r) (λr=>Ze (ZK ((Ef P5 #v[(Zh SE #v[0,(Zh PH #v[0]) r,2]) r,3]) r)) ∅)
def S3:=AT 3 4 Xo
def Xp:AH:=λr=>(Zf (#[AZ r 1,AZ r 0].L Zj)).j D.Q
def S5:Av:=λr=>Ze (Nc 2 ((Zi 1 [3] (λr=>((Zh SX #v[(Za Dq (!0) (!3)) r,(Za Dq (!1) (!3)) r]) r).L Zs) (Zd 0) (λ_=>Z J') Xp) r) r) ∅
def Xq:Av:=λr=>Ze (ZX 2 (Zf ((Z []).L Zj)) r) (λr=>Ze ((C2 (λr=>(Zz (NB (A5 r 0))).L Zs) (Zd 3) S5) r) (λr=>Ze (ZK (EB r 2)) ∅))
def Xr:=AT 2 4 Xq
def P8:Av:=λr=>Ze (Zw ((Za HD (Zn Zv #v[(Zh SY #v[0,1,2]) r]) (~~~0)) r)) ∅
def K9:=AT 3 3 P8
def Xs:AH:=(Zh S0 #v[1,2,0])
def Xt:Av:=λr=>Ze (ZK ((Zi 1 [0,1] (λr=>(#[(Zn Zv #v[0]) r].L Zj).L EC) (Zd 0) (λ_=>Z J') Xs) r)) ∅
def S7:=AT 2 2 Xt
def Xu:AH:=λr=>(Zf (#[AZ r 0,(Zh S3 #v[1,2,0]) r].L Zj)).j D.Q
def Xv:Av:=λr=>Ze (Ij ((FY (λr=>Zz ((Zi 1 [0,1] (λr=>(BE r 2).L Zs) (Zd 0) (λ_=>Z J') Xu) r))) r)) ∅
def S8:=AT 3 3 Xv
def Xw:Bn:=λs=>Fz (jT 2 (λr=>C0 (Z4 ((Zh K6 #v[(A5 r 0).L (CJ "Book" "axes"),1]) r))) s) (CM (.ώ) ∅) (.α s)
def Xx:Bn:=λs=>Fz (jT 2 (λr=>AM ((Za (Dy J') (!1) (λr=>(A5 r 0).L (CJ "Book" "tables"))) r)) s) (CM (Fz (jT 2 (λr=>AM ((Za L0 (Zn NA #v[(A5 r 0).L (CJ "Book" "tables")]) (~~~12)) r)) s) (CM (.ώ) ∅) (.α s)) (λs=>CM (RZ (λs=>RV "Book" "tables" s (DM s 0)) ((jE 0 (λr=>AZ r 1)) s) ((jE 1 (Zh S3 #v[(A5 r 0).L (CJ "Book" "axes"),(A5 r 0).L (CJ "Book" "standing"),1])) s) s) ∅)) (.α s)
def iT:Bn:=λs=>Hc (xD ((jE 2 (Zn Zv #v[(Za Dq (λr=>(A5 r 0).L (CJ "Book" "tables")) (!1)) r])) s) s)
def Zop:Bn:=λs=>.α s
def Xy:=iT <<< Zop
def Xz:=Xx <<< Xy
def XA:=Xw <<< Xz
def P9:Bn:=XA
def Qa:=FA 2 2 P9
def La:Av:=λr=>Ze (ZB 7 ((Zh Sz #v[6,(Za Ar (!1) (!5)) r,(Za Ar (!2) (!5)) r,(Za Ar (!4) (!5)) r]) r) r) (λr=>Ze (ZE (C0 (EA (A5 r 7))) (Ze (Zw ((Zf (#[AZ r 5,(Za Ar (!7) (~~~0)) r,(Za Ar (!7) (~~~1)) r].L Zj)).j D.Q)) ∅) (.α r)) ∅)
def iU:Av:=λr=>ZB 4 ((Zh S7 #v[0,3]) r) r
def XB:Av:=λr=>ZE (AM ((Za (Db O') (λr=>Zz (Zf ((Z []).L Zj))) (!4)) r)) (Ze (Zw (Z .Ε)) ∅) (.α r)
def iV:Av:=(C2 (Jy (λr=>BE r 0)) (ZP 2 (Zk (Zd 5) (Zk (Zd 6) ZQ))) La)
def ZvU:Av:=λr=>Zw (Z .Ε)
def ZwB:Av:=λr=>.α r
def iW:=ZvU >>> ZwB
def iX:=iV >>> iW
def Qb:=XB >>> iX
def iY:=iU >>> Qb
def XC:Av:=iY
def Mq:=AT 4 8 XC
def Mr:AH:=(Zh K9 #v[0,Z (.u 0),1])
def Z6:Av:=λr=>Ze (ZE (Ea (C0 (Z4 ((Zn Dc #v[1,Z (.ty "tuple")]) r))) (AM ((Za Cc (Zn Zv #v[1]) (Zn Zv #v[0])) r))) (Ze (Zw (Z (.bl O'))) ∅) (.α r)) (λr=>Ze (Zw ((Zn D1 #v[Zz ((Zi 2 [] (Gf (λr=>BE r 0) (λr=>BE r 1)) (ZP 2 (Zk (Zd 0) (Zk (Zd 1) ZQ))) (λ_=>Z J') Mr) r)]) r)) ∅)
def Lb:=AT 2 2 Z6
def XD:AH:=(Zh Wx #v[1,(Za Ar (!2) (!0)) r,(Za Ar (!3) (!0)) r,(Za Ar (!4) (!0)) r])
def XE:Av:=λr=>Ze (ZB 4 ((Zh S7 #v[0,3]) r) r) (λr=>Ze (ZK ((Zi 2 [1,2,4] (Jy (λr=>BE r 0)) (ZP 2 (Zk (Zd 0) (Zk (Zd 1) ZQ))) (λ_=>Z J') XD) r)) ∅)
def S9:=AT 4 5 XE
def iZ:AH:=λr=>Zz ((Do Er #v[0]) r)
def i0:Bn:=λs=>Fz (jT 2 (λr=>C0 (Z4 ((Zh PZ #v[1]) r))) s) (CM (.ώ) ∅) (.α s)
def i3:Bn:=λs=>HN "Book" "axes" (λs=>DM s 0) (xF .l (jG 1 (Zi 1 [] (λr=>(BE r 1).L Zs) (Zd 0) (λ_=>Z J') iZ) s) s) s
def i4:Bn:=λs=>HN "Book" "standing" (λs=>DM s 0) (xF .l (jG 2 (λr=>Zf ((Z []).L Zj)) s) s) s
def i5:Bn:=λs=>HN "Book" "tables" (λs=>DM s 0) (xC .d (jG 1 (Kn S8 #v[(A5 r 0).L (CJ "Book" "axes"),Zz (Zf ((Z []).L Zj)),Zz (Zf (#[(Zh PH #v[(A5 r 0).L (CJ "Book" "axes")]) r].L Zj))]) s) s) s
def i6:Bn:=λs=>.α s
def i7:=i5 <<< i6
def i8:=i4 <<< i7
def i9:=i3 <<< i8
def ja:=i0 <<< i9
def Ta:Bn:=ja
def XF:=FA 2 2 Ta
def jc:Bn:=λs=>Eb 1 (xP (RV "Book" "tables" s (DM s 0)) s) s
def jd:Bn:=λs=>HN "Book" "tables" (λs=>DM s 0) (xC .d (jG 1 (Kn S8 #v[(A5 r 0).L (CJ "Book" "axes"),(A5 r 0).L (CJ "Book" "standing"),Zz ((Do Mf #v[1]) r)]) s) s) s
def je:Bn:=λs=>Hc (xC .l (jG 2 (Ef Xr #v[1,(A5 r 0).L (CJ "Book" "tables")]) s) s)
def Zgo:Bn:=λs=>.α s
def jf:=je <<< Zgo
def jg:=jd <<< jf
def jh:=jc <<< jg
def XG:Bn:=jh
def XH:=FA 1 2 XG
def ZZ:Av:=λr=>Ze (ZE (Ea (C0 (Z4 ((Zn Dc #v[1,Z (.ty "tuple")]) r))) (AM ((Za Cc (Zn Zv #v[1]) (~~~3)) r))) (Ze (Zw (Z (.bl O'))) ∅) (.α r)) (λr=>Ze (ZE (Dl (AM ((Za Cc (Za Ar (!1) (~~~0)) (λ_=>Z (.ω "+"))) r)) (AM ((Za Cc (Za Ar (!1) (~~~0)) (λ_=>Z (.ω "-"))) r))) (Ze (Zw (Z (.bl O'))) ∅) (.α r)) (λr=>Ze (Zw (DZ (Dl (AM ((Zh Lb #v[0,(Za Ar (!1) (~~~1)) r]) r)) (AM ((Zh Hf #v[(Za Ar (!1) (~~~2)) r]) r))))) ∅))
def Z3:=AT 2 2 ZZ
def XJ:Av:=λr=>Ze (ZE (C0 (EA ((Zh Mq #v[0,2,3,4]) r))) (Ze (.ώ) ∅) (.α r)) (λr=>Ze (ZK ((Ef P5 #v[(Zh S9 #v[0,2,3,4]) r,1]) r)) ∅)
def XM:=AT 5 5 XJ
def XN:VE->O q':=λr=>Z4 ((Zh K2 #v[2,0]) r)
def ji:AH:=λr=>(Zf (#[AZ r 0,AZ r 1].L Zj)).j D.Q
def XO:Av:=λr=>Ze (ZB 4 ((Zh S9 #v[0,2,(Zh Wr #v[0]) r,3]) r) r) (λr=>Ze (ZK ((Zi 2 [4] (λr=>(BE r 1).L Zs) (ZP 2 (Zk (Zd 0) (Zk (Zd 1) ZQ))) XN ji) r)) ∅)
def XP:=AT 4 5 XO
def Lc:Bn:=λs=>CM (Fz (jT 2 (λr=>C0 (Z4 ((Zh Z3 #v[0,4]) r))) s) (CM (.ώ) ∅) (.α s)) (λs=>CM (Fz (jT 2 (λr=>AM ((Za Cb (Za Ar (!4) (~~~0)) (λ_=>Z (.ω "+"))) r)) s) (CM (KS (Jz Wc (Zl ((DM s 3).j .Ϝ) (Zl (((jE 2 (λr=>(Zf (#[(Za Ar (!4) (~~~1)) r,(Za Ar (!4) (~~~2)) r].L Zj)).j D.Q)) s).j .B) (Z []))) s) s) ∅) (CM (KS (Jz Wf (Zl ((DM s 3).j .Ϝ) (Zl (((jE 2 (λr=>(Zf (#[(Za Ar (!4) (~~~1)) r,(Za Ar (!4) (~~~2)) r].L Zj)).j D.Q)) s).j .B) (Z []))) s) s) ∅)) ∅)
def jj:Bn:=λs=>Eb 3 (xC .l (jG 2 (Do Er #v[1]) s) s) s
def jl:Bn:=λs=>VP 4 Lc (((jE 0 (λr=>AZ r 2)) s).L Mi) s
def jm:Bn:=λs=>Hc (xF .l (jG 2 (Me SV (!3)) s) s)
def Zub:Bn:=λs=>.α s
def jn:=jm <<< Zub
def jo:=jl <<< jn
def jq:=jj <<< jo
def XQ:Bn:=jq
def XR:=FA 3 5 XQ
def II:IS->O Ae:=λs=>K1 (GD (jT 2 (λr=>C0 (Z4 ((Zh Z3 #v[0,4]) r))) s) (KY (Zl (((jE 2 (λ_=>Z (.ω "no change of a row"))) s).j .B) (Z [])) "NoRow") (J)) (Fz (jT 2 (λr=>C0 (Z4 ((Zh Z3 #v[0,4]) r))) s) (CM (.ώ) ∅) (.α s)) (λs=>GD (jT 2 (λr=>AM ((Za Cb (Za Ar (!4) (~~~0)) (λ_=>Z (.ω "+"))) r)) s) ((Zl ((DM s 3).j .Ϝ) (Zl (((jE 2 (λr=>(Zf (#[(Za Ar (!4) (~~~1)) r,(Za Ar (!4) (~~~2)) r].L Zj)).j D.Q)) s).j .B) (Z []))).L λa=>Wd a s.2) ((Zl ((DM s 3).j .Ϝ) (Zl (((jE 2 (λr=>(Zf (#[(Za Ar (!4) (~~~1)) r,(Za Ar (!4) (~~~2)) r].L Zj)).j D.Q)) s).j .B) (Z []))).L λa=>Wg a s.2))
def XU:IS->O Ae:=λs=>K1 (J) (Eb 3 (xC .l (jG 2 (Do Er #v[1]) s) s) s) (λs=>VZ 4 Lc II (((jE 0 (λr=>AZ r 2)) s).L Mi) s)
def NM:U IV->Gh->O Ae:=Sc 3 5 XU
def XV:Av:=λr=>Ze (Zw ((Zn Zv #v[(Zh XP #v[0,1,2,3]) r]) r)) ∅
def XW:=AT 4 4 XV
def XY:Bn:=λs=>CM (HN "Book" "standing" (λs=>DM s 0) (Jz XR (Zl (((jE 1 (λr=>(A5 r 0).L (CJ "Book" "axes"))) s).j .B) (Zl (((jE 1 (λr=>(A5 r 0).L (CJ "Book" "standing"))) s).j .B) (Zl (((jE 0 (λr=>AZ r 1)) s).j .B) (Z [])))) s) s) (λs=>CM (Hc (GK "Book" "tables_renewed" XH (DM s 0) (Z []) s)) ∅)
def Qc:=FA 2 2 XY
def XZ:IS->O Ae:=λs=>(Zl (((jE 1 (λr=>(A5 r 0).L (CJ "Book" "axes"))) s).j .B) (Zl (((jE 1 (λr=>(A5 r 0).L (CJ "Book" "standing"))) s).j .B) (Zl (((jE 0 (λr=>AZ r 1)) s).j .B) (Z [])))).L λa=>NM a s.2
def Qd:U IV->Gh->O Ae:=JD 2 2 XZ
def Ms:Av:=λr=>Ze (ZE (EA ((Zh Mq #v[(A5 r 0).L (CJ "Book" "axes"),4,1,2]) r)) (Ze (ZB 5 ((Zh XW #v[(A5 r 0).L (CJ "Book" "axes"),(Za Dq (λr=>(A5 r 0).L (CJ "Book" "tables")) (!4)) r,4,2]) r) r) (λr=>Ze (ZE (Ea (EA (A5 r 3)) (AM ((Za HF (!5) (Za Ar (!3) (~~~1))) r))) (Ze (ZB 3 ((Zf (#[AZ r 4,AZ r 5].L Zj)).j D.Q) r) ∅) (.α r)) ∅)) (.α r)) ∅
def jr:Av:=λr=>ZE (C0 (Z4 ((Zh K6 #v[(A5 r 0).L (CJ "Book" "axes"),1]) r))) (Ze (.ώ) ∅) (.α r)
def js:Av:=λr=>ZE (C0 (Z4 ((Zh W5 #v[(A5 r 0).L (CJ "Book" "axes"),2]) r))) (Ze (.ώ) ∅) (.α r)
def jt:Av:=λr=>ZB 3 (Z .Ε) r
def ju:Av:=(C2 (λr=>((Ek "Book" "kept" Si (CH r 0) (Z [])).j Cw).L Zs) (Zd 4) Ms)
def jv:Av:=λr=>Zw (AZ r 3)
def Zon:Av:=λr=>.α r
def jw:=jv >>> Zon
def jx:=ju >>> jw
def jy:=jt >>> jx
def jz:=js >>> jy
def jA:=jr >>> jz
def X0:Av:=jA
def Tb:=AT 3 6 X0
def X1:Av:=λr=>Ze (ZB 3 ((Za Ar (λr=>(Ek "Book" "plan" Tb (CH r 0) #[1,2]).j Cw) (~~~0)) r) r) (λr=>Ze (ZK ((Ef XM #v[(A5 r 0).L (CJ "Book" "axes"),(Za Dq (λr=>(A5 r 0).L (CJ "Book" "tables")) (!3)) r,3,1,2]) r)) ∅)
def X2:=AT 3 4 X1
def jB:Bn:=λs=>CM (Eb 4 (xF .l (jG 2 (λr=>Zf (#[(GG 3 CS (GH "NoRow")) r,(GG 3 CS (GH "NoSuch")) r,(GG 3 CS (GH "TooMuch")) r,(GG 3 CS (GH "NoLadder")) r].L Zj)) s) s) s) (λs=>CM (Eb 4 (xD ((jE 0 (Za Zx (!4) (λr=>Zz (Zf (#[(GG 3 CS (GH "NoValue")) r,(GG 3 CS (GH "NoGrain")) r,(GG 3 CS (GH "NoPick")) r].L Zj))))) s) s) s) (λs=>CM (Hc (xD ((jE 0 (λr=>(Zf (#[(Za Zx (!4) (λr=>Zz (Zf (#[(GG 3 CS (GH "NoText")) r].L Zj)))) r,(GG 3 CS (GH "ValueError")) r].L Zj)).j D.Q)) s) s)) ∅))
def X3:Bn:=λs=>Eb 2 (xD ((jE 2 (λ_=>Z .Ε)) s) s) s
def X4:Bn:=λs=>Pt CS 3 (Ps "Book" "pour" Qd (DM s 0) (Zl (((jE 0 (λr=>AZ r 1)) s).j .B) (Z [])) s) (CM (Eb 2 (GK "Book" "pour" Qc (DM s 0) (Zl (((jE 0 (λr=>AZ r 1)) s).j .B) (Z [])) s) s) ∅) jB s
def jC:Bn:=λs=>Hc (xD ((jE 2 (Zn Dc #v[2,Z (.ty "list")])) s) s)
def jD:Bn:=λs=>.α s
def X5:=jC <<< jD
def Tc:=X4 <<< X5
def Td:=X3 <<< Tc
def NN:Bn:=Td
def IJ:=FA 2 5 NN
def Te:AH:=λr=>(Zf (#[(Ek "Book" "plan" Tb (CH r 1) #[0,Zz (Zf ((Z []).L Zj))]).j Cw,(Ek "Book" "answer" X2 (CH r 1) #[0,Zz (Zf ((Z []).L Zj))]).j Cw].L Zj)).j D.Q
def X6:AH:=λr=>(Ek "Book" "table" Xa (CH r 1) #[0]).j Cw
def X7:Av:=λr=>Ze (ZB 2 (Zz ((Zi 1 [0] (λr=>(BE r 1).L Zs) (Zd 0) (λ_=>Z J') Te) r)) r) (λr=>Ze (Zw ((Zf (#[(Ek "Book" "rows" Wk (CH r 0) (Z [])).j Cw,Zz ((Zi 1 [0] (λr=>(BE r 1).L Zs) (Zd 0) (λ_=>Z J') X6) r),(Ek "Book" "kept" Si (CH r 0) (Z [])).j Cw,(Ek "Book" "ladders" Wi (CH r 0) (Z [])).j Cw,AZ r 2].L Zj)).j D.Q)) ∅)
def Qe:=AT 2 3 X7
def jF:AH:=(~~~0)
def jH:AH:=λr=>Zz ((Do Er #v[0]) r)
def Tf:AH:=(Zh K4 #v[1,(Za Zx (Za Fp (Zh ZF #v[2,Z (.u 6)]) (Za Zx (!0) (~~~1))) (!0)) r])
def Tg:AH:=(Zh K4 #v[1,(Za Zx (!2) (!0)) r])
def X8:AH:=(Za Zx (λr=>(Zf (#[Z (.ω "+")].L Zj)).j D.Q) (!0))
def jI:Bn:=λs=>Eb 1 (xF .l (jG 0 (Ef PQ #v[0]) s) s) s
def jJ:Bn:=λs=>Eb 2 (xF .l (jG 2 (λr=>Zf (#[(Zn EE #v[Zz ((Zi 1 [] (λr=>(BE r 1).L Zs) (Zd 0) (λ_=>Z J') jF) r)]) r,(Zh Sx #v[1,(Zh ZF #v[0,Z (.u 5)]) r]) r].L Zj)) s) s) s
def jK:Bn:=λs=>Eb 3 (RX "Book" XF (Zl (((jE 1 (λr=>Zz ((Zi 1 [] (λr=>(BE r 1).L Zs) (Zd 0) (λ_=>Z J') jH) r))) s).j .B) (Z [])) s) s
def jM:Bn:=λs=>KS (GK "Book" "keep" Qa (DM s 3) (Zl (((jE 2 (Za Ar (!2) (~~~1))) s).j .B) (Z [])) s) s
def jN:Bn:=λs=>Eb 4 (xF .l (jG 2 (Zi 1 [1,0] (λr=>(#[(Za ZL (Zh ZF #v[0,Z (.u 6)]) (~~~13)) r].L Zj).L EC) (Zd 0) (λ_=>Z J') Tf) s) s) s
def X9:Bn:=λs=>Fz (jT 2 (λr=>AM ((Za Cb (Za ZL (Za Fp (Zh ZF #v[0,Z (.u 0)]) (~~~4)) (~~~5)) (~~~2)) r)) s) (CM (Eb 5 (xD ((jE 2 (Za ZL (Za Fp (Zh ZF #v[0,Z (.u 6)]) (~~~13)) (~~~9))) s) s) s) (λs=>CM (Eb 4 (xD ((jE 0 (Za Zx (!4) (λr=>Zz ((Zi 1 [1,5] (λr=>(#[(Za Kr (Za Kr (~~~200) (Zn Zv #v[4])) (Za ZL (!5) (~~~3))) r].L Zj).L EC) (Zd 0) (λ_=>Z J') Tg) r)))) s) s) s) ∅)) (.α s)
def jP:Bn:=λs=>KS (GK "Book" "pour" Qc (DM s 3) (Zl (((jE 1 (λr=>Zz ((Zi 1 [] (λr=>(BE r 4).L Zs) (Zd 0) (λ_=>Z J') X8) r))) s).j .B) (Z [])) s) s
def Th:Bn:=λs=>Eb 6 (xD ((jE 1 (Zh Qe #v[3,2])) s) s) s
def Ti:Bn:=λs=>NF 7 8 9 ((jE 0 (Zh WX #v[0,1,4])) s) s
def Tj:Bn:=λs=>Eb 10 (xD ((jE 0 (Za Zx (!7) (Za PB (λr=>Zz (Zf (#[Z .Ε].L Zj))) (Za ZL (Za Fp (Zh ZF #v[0,Z (.u 7)]) (~~~9)) (~~~2))))) s) s) s
def Tk:Bn:=λs=>Fz (jT 2 (λr=>Dl (AM ((Za El (!9) (λ_=>Z (.bl J'))) r)) (AM ((Za Cc (!10) (!7)) r))) s) (CM (Eb 9 (xD ((jE 0 (Zh ZM #v[Z (.u 0)])) s) s) s) ∅) (.α s)
def Ya:Bn:=λs=>Eb 11 (xF .l (jG 0 (Do Er #v[10]) s) s) s
def Yb:Bn:=λs=>Eb 12 (Jz IJ (Zl ((DM s 3).j .Ϝ) (Zl (((jE 0 (λr=>AZ r 11)) s).j .B) (Z []))) s) s
def Yc:Bn:=λs=>Fz (jT 2 (λr=>Ea (AM ((Za Cc (!11) (!10)) r)) (Ea (Dl (AM ((Za El (!9) (λ_=>Z (.bl J'))) r)) (AM ((Za He (!12) (λ_=>Z (.bl J'))) r))) (Dl (AM ((Za He (!9) (λ_=>Z (.bl J'))) r)) (AM ((Za Cc (!12) (!9)) r))))) s) (CM (Hc (xD ((jE 2 (λ_=>Z (.bl O'))) s) s)) ∅) (.α s)
def Yd:Bn:=λs=>Fz (jT 2 (λr=>AM ((Za El (!9) (λ_=>Z (.bl J'))) r)) s) (CM (Hc (xD ((jE 2 (λ_=>Z (.bl J'))) s) s)) ∅) (.α s)
def jQ:Bn:=λs=>Hc (Px ((jE 1 (Za Cb (Zh Qe #v[3,2]) (!6))) s) (KZ El (Jz IJ (Zl ((DM s 3).j .Ϝ) (Zl (((jE 0 (Dw (!7) (λ_=>Z J) (λr=>DF (A5 r 8)) D0)) s).j .B) (Z []))) s) (jE 2 (λ_=>Z (.bl J'))) s) s)
def ZyT:Bn:=λs=>.α s
def jR:=jQ <<< ZyT
def Ye:=Yd <<< jR
def Yf:=Yc <<< Ye
def Yg:=Yb <<< Yf
def Qf:=Ya <<< Yg
def Tn:=Tk <<< Qf
def To:=Tj <<< Tn
def Tp:=Ti <<< To
def Qg:=Th <<< Tp
def Yh:=jP <<< Qg
def Tq:=X9 <<< Yh
def jS:=jN <<< Tq
def jU:=jM <<< jS
def jV:=jK <<< jU
def jW:=jJ <<< jV
def jX:=jI <<< jW
def Yi:Bn:=jX
def jY:=FA 1 13 Yi
def
vwv(m:I)(G:Gh)(d:D):EY m G (.B d)=.B d:=rfl
def
vwn(m:I)(G:Gh):EY m G .no=.no:=rfl
def
f2i(i:W'):BN 2 (.u i)=J':=rfl
def
sh1(x:D):Zf (Z [x])=Z [x]:=rfl
def
sh2(x y:D):Zf (Z [x,y])=Z [x,y]:=rfl
def
sh3(x y z:D):Zf (Z [x,y,z])=Z [x,y,z]:=rfl
def
ngI(i:W'):Ks (Z (.u i))=Z (.u (-i)):=rfl
def
Mt(x y:W'):Zx (.u x) (.u y)=Z (.u (x+y)):=rfl
def
Yj(x y:W'):Kr (.u x) (.u y)=Z (.u (x-y)):=rfl
def
e00:Cb (.u 0) (.u 0)=Z (.bl J'):=rfl
def
e01:Cb (.u 0) (.u 1)=Z (.bl O'):=rfl
def
e10:Cb (.u 1) (.u 0)=Z (.bl O'):=rfl
def
e11:Cb (.u 1) (.u 1)=Z (.bl J'):=rfl
end
section
local macro_rules | `(#v[$x])=>`(.val (.lst $x))
local macro_rules | `(‹$x›)=>`(.val (.int $x))
local macro_rules | `(tactic|rwa[$[$t:term],*] $[$l]?)=>do let c:Array Lean.Term:=("Internal.yP Internal.yQ Internal.yR Internal.yS Internal.yT Internal.yU Internal.yV Internal.yW Internal.yX Internal.yY Internal.yZ Internal.y0 Internal.y1 Internal.y3 Internal.y4 Internal.y6 Internal.zc Internal.zd Internal.ze Internal.zf Internal.zh Internal.zi Internal.zj Internal.zk Internal.zl Internal.zn Internal.zo Internal.zq Internal.zr Internal.zt Internal.zu Internal.zv Internal.zw Internal.zy Internal.zA Internal.zB Internal.zC Internal.zD Internal.zE Internal.zF Internal.zG Internal.zH Internal.zI Internal.zJ Internal.zK Internal.zL Internal.zM Internal.zN Internal.zO Internal.zP Internal.zQ Internal.zR Internal.zS Internal.zT Internal.zU if_true Internal.Za Internal.Zh Internal.yB Internal.jE Cr Internal.jT Internal.HB Internal.pk Internal.jO Internal.Zn Internal.Zz Ii Bool.not_true Hd Internal.Zs Bool.not_false decide_true Internal.Zd Internal.Zj Internal.K51.vwv Internal.K51.vwn Internal.Pr Internal.K51.f2i Internal.K51.sh1 Internal.K51.sh2 Internal.K51.sh3 Internal.K51.ngI Internal.K51.Mt Internal.K51.Yj Internal.K51.e00 Internal.K51.e01 Internal.K51.e10 Internal.K51.e11".splitOn " ").toArray.map λs=>⟨Lean.mkIdent s.toName⟩;`(tactic|simp only[$[$c:term],*,$[$t:term],*] $[$l]?)
abbrev AW:=U (U (U At))
abbrev BM:=U (U At)
def
JM(s:Sl)(ns:U W')(a:s=#v[ns.j D.u]\/s=.lent (ns.j D.u))(k:W')(b:0<=k):ZF [s,‹k›]=Z ‹ns.β k.ζ 0›:=by
 by_cases h:k<ns.a
 .rcases a with rfl|rfl<;>simp[ZF,AT,Wm,h,atI,Ey,b]
 .rcases a with rfl|rfl<;>simp[ZF,AT,Wm,h,show ns.length<=k.toNat by lia]
def BR:Ae:="abcdefghijklmnopqrstuvwxyz"
def Gk:Ae:="0123456789"
def signs:Ae:="abcdefghijklmnopqrstuvwxyz0123456789"
def
jZ:signs.a=36:=by symm
def FC:D->q'
 |.int _=>J'
 |_=>O'
def Gm(c:I):q':=decide (c∈BR.ϱ.J)||decide (c∈Gk.ϱ.J)
def Mu:U I->q'
 |[]=>O'
 |c::r=>decide (c∈BR.ϱ.J)&&(c::r).ϝ Gm&&decide ((c::r).a<=12)
def BG:D->q'
 |.str z=>Mu z.ϱ.J
 |_=>O'
def Sm:D->V'
 |.str z=>z.a<=100
 |.ty _=>False
 |.lst _ .d=>False
 |.lst _ (.i _ _)=>False
 |_=>True
def
NO(d:D)(h:Sm d):Hf [.B d]=Z (.B (.bl (FC d))):=by
 cases d with
 |lst a b=>cases b with
  |d=>show h.ι
  |i _ _=>show h.ι
  |l=>simp[Hf,AT,Sd,FC]
 |ty n=>show h.ι
 |_=>simp[Hf,AT,Sd,FC]
def
ZCB(c:I):Se [.B (.ω #[(T' [c])])]=Z (.bl (Gm c)):=by
 rwa[Se,VX];cases h:decide (c∈BR.ϱ.J)<;>simp[Gm,BR,Gk]at h ⊢<;>simp[h]
def
ZBg(L:U I):ZG (Zd 0) (λ_=>Z J') Se [.no] (L.j λc=>D.ω #[(T' [c])])=Z ((L.j Gm).j D.bl):=by
 rw[Zy (λc=>D.ω #[(T' [c])]) (λc=>D.bl<|Gm c) L λc _=>#[[.B<|.ω ⟨(T' [c])⟩],rfl,ZCB c]];simp
def
Zuh(d:D)(h:Sm d):JJ [.B d]=Z (.B (.bl (BG d))):=by
 cases d with
 |str z=>
  obtain⟨⟨L⟩⟩:=z;let a:L.a<=AE:=Bu h (by ext);let k:=ZBg L;cases L with|nil=>simp[JJ,AT,Mn,BG,Mu,Str.length]|cons c r=>
   erw[Cr]at h a;let f:¬ ((r.a:W')+1<1):=of_decide_eq_false rfl;by_cases e:r.a+1<=12
   .let g:¬ ((12:W')<(r.a:W')+1):=∅
    by_cases j:c∈(Kc "abcdefghijklmnopqrstuvwxyz").ϱ
    .simp[JJ,AT,Mn,BG,Mu,Str.length,a,f,g,-Db,VX,atI,Ey,k,-Bf,-B4,j,O1 e,BR]
    .simp[JJ,AT,Mn,BG,Mu,Str.length,a,f,g,-Db,VX,atI,Ey,j,O1 e,BR]
   .simp[JJ,AT,Mn,BG,Mu,Str.length,a,f,show(12:W')<(r.length:W')+1 by lia,show ¬ r.length<=11 by lia]
 |ty n=>show h.ι
 |lst m b=>cases b with
  |d=>show h.ι
  |i _ _=>show h.ι
  |l=>simp[JJ,AT,Mn,BG]
 |_=>simp[JJ,AT,Mn,BG]
def
Yk(d:D)(h:Sm d):NH [.B d]=Z (.B (.bl (FC d||BG d))):=by
 let a:=NO d h;cases b:FC d<;>simp[b]at a ⊢<;>simp[NH,AT,hR,a,Zuh d h]
def EH(d:D):q':=FC d||BG d
def Qh:D->V'
 |.tup a=>a.a<=1000/\∀x∈a,Sm x
 |d=>Sm d
def D5:D->q'
 |.tup a=>decide (1<=a.a)&&decide (a.a<=4)&&a.ϝ EH
 |_=>O'
def
Zv5{e:AH}(a:∀d,Sm d->e [.B d]=Z (.bl (EH d)))(xs:U D)(h:∀x∈xs,Sm x):ZG (Zd 0) (λ_=>Z J') e [.no] xs=Z ((xs.j EH).j D.bl):=by
 have:=Zy (b:=Zd 0) (e:=e) (ρ:=[.no]) (λd:D=>d) (λd=>D.bl<|EH d) xs λd hd=>#[[.B d],rfl,a d<|h d hd];simp_all
def
Zt5(d:D)(h:Qh d):K5 [.B d]=Z (.B (.bl (D5 d))):=by
 cases d with
 |tup a=>
  by_cases c:1<=a.a
  .by_cases f:a.a<=4
   .simp[K5,AT,NK,D5,show ¬ ((a.length:W')<1) by lia,show ¬ ((4:W')<(a.length:W')) by lia,c,f,show a.length<=AE from Bu h.1 (by ext),Zm,Zv5 (e:=WD) (λd hd=>by have:=Yk d hd;rwa[WD,this,Cw];rfl) a h.2,-B4]
   .simp[K5,AT,NK,D5,show ¬ ((a.length:W')<1) by lia,show(4:W')<(a.length:W') by lia,c,f]
  .simp[K5,AT,NK,D5,show(a.length:W')<1 by lia,c]
 |ty n=>show h.ι
 |lst a b=>cases b with
  |d=>show h.ι
  |i _ _=>show h.ι
  |l=>simp[K5,AT,NK,D5]
 |_=>simp[K5,AT,NK,D5]
def Aj(l:U At):D:=.Q (l.j aD)
abbrev EK:=I×At
def C4{T:Type}:U (EK×T)->EK->O T
 |[],_=>J
 |e::r,k=>if e.1=k then Z e.2 else C4 r k
def EI{T:Type}[DecidableEq T]:U (EK×T)->U (EK×T)->O (U (EK×T))
 |S,[]=>Z S
 |S,e::E=>match C4 S e.1 with
  |some t=>if t=e.2 then EI S E else J
  |none=>EI (S++[e]) E
def kE(k:EK):KT:=.Q [.u k.1,k.2]
def SK{T:Type}(f:T->D)(S:U (EK×T)):Bj:=S.j λe=>(kE e.1,f e.2)
def
ZDa{a b:EK}(h:kE a=kE b):a=b:=by grind [kE]
def
Yl{T:Type}(f:T->D)(k:EK):∀S:U (EK×T),Zo (SK f S) (kE k)=(C4 S k).j f
 |[]=>rfl
 |e::r=>by
  let a:=Yl f k r;erw[SK,Bf]at a ⊢;unfold Zo C4;grind [ZDa]
def
ZCr{T:Type}(f:T->D)(S:U (EK×T)):∀p∈SK f S,Fs p.1=O':=by
 intro p a;let(e,_,rfl):=Bm.mp a;rfl
def
ZD8{T:Type}(f:T->D)(S:U (EK×T))(e:EK×T)(h:C4 S e.1=J):ZT (SK f S) (kE e.1) (f e.2)=SK f (S++[e]):=by
 unfold ZT;grind [Yl,SK]
def
Hg(a:At):DT (aD a)=Z (.at a):=OU<|.at a
def
Ym:∀(a b:At),Bc (aD a) (aD b)=decide (a=b):=by
 intro a b;ext a<;>ext b<;>simp[aD]
def
Yn:∀(a b:U At),CY (a.j aD) (b.j aD)=decide (a=b)
 |[],[]=>by simp
 |[],_::_=>by simp
 |_::_,[]=>by simp
 |x::a,y::b=>by
  simp[Ym,Yn a b]
def
Ld(n:I)(a:At):AL n (aD a)=J':=by ext a<;>ext n<;>rfl
def
IK(n:I)(l:U At):AL (n+1) (Aj l)=J':=by
 show(l.j aD).ϝ (AL n)=J'
 rw[M7,Dp];show λa _=>Ld n a
def
Tr(a b:U At):Cc (Aj a) (Aj b)=Z (.bl (!decide (a=b))):=by
 let c:=IK 11 a;let d:=IK 11 b;simp_all [Aj,Yn]
def
ZGm{T:Type}[DecidableEq T](f:T->D)(k:∀a b,Cc (f a) (f b)=Z (.bl (!decide (a=b))))(S:U (EK×T))(n:S.a<100000)(e:EK×T)(i:I)(l m g:AH)(ρ:VE)(o:FS ρ i=Z (Zb (SK f S)))(p:l ρ=Z (kD (kE e.1)))(q:m ρ=Z (f e.2)) (r:∀xs,g (ρ.Χ i (.τ xs .d))=Z (f e.2)) (h:g ρ=Z (f e.2)):OW (Jp i l m) g ρ=match C4 S e.1 with
   |some t=>Z (!decide (t=e.2),ρ)
   |none=>Z (O',ρ.Χ i<|.τ (Zb<|SK f<|S++[e]) .d):=by
 let c:=Yl f e.1 S;unfold OW Jp;rwa[o,p,q,FV,OU,show DU (kE e.1) (SK f S)=J' from L7 _ (ZCr f S),show(SK f S).length<AE from BY (show(SK f S).length<100000 by simpa[SK]using n) (by ext)];cases j:C4 S e.1 with
 |some t=>
  rw[j]at c;erw[c,LN,h,k,AM,Fd]
 |none=>
  rw[j]at c;rwa[c,Option.map_none,r,k,LN,ZD8 f S e j]
def Ev:I->U At->U (EK×U At)
 |_,[]=>[]
 |i,a::r=>((i,a),r)::Ev (i+1) r
def
Yo(s0 e:Sl)(l:U At)(z:l.a<=4):∀(AD pre:U At)(S:U (EK×U At))(k m h:Sl),l=pre++AD->S.a+AD.a<100000->(∃n s u v,EI S (Ev pre.a AD)=Z n/\n.a<=S.a+AD.a/\ZC (ZP 2 (Zk (Zd 4) (Zk (Zd 5) ZQ))) PR (DG pre.a (AD.j aD)) [s0,.τ (Zb (SK Aj S)) .d,e,.B (Aj l),k,m,h]=.α [s0,.τ (Zb (SK Aj n)) .d,e,.B (Aj l),s,u,v]) \/(EI S (Ev pre.a AD)=J/\ZC (ZP 2 (Zk (Zd 4) (Zk (Zd 5) ZQ))) PR (DG pre.a (AD.j aD)) [s0,.τ (Zb (SK Aj S)) .d,e,.B (Aj l),k,m,h]=.Ϯ (.B (.bl O')))
 |[],pre,S,k,m,h,_,_=>.U #[S,k,m,h,rfl,by simp,rfl]
 |a::r,pre,S,k,m,h,i,B=>by
  erw[Cr]at B;let o:cutD (l.j aD) (Z<|(pre.a:W')+1) J=r.j aD:=by
   rw[f4,R9 _ _ ∅,i];simp_all
  let w:=ZGm Aj Tr S ∅ ((pre.a,a),r) 1 (λc=>(Zf<|((λc=>Zl (C1<|(λc=>AZ c 4) c) ((λc=>Zl (C1<|(λc=>AZ c 5) c) ((λ_=>Z []) c)) c)) c).L Zj).j D.Q) (λc=>AZ c 6) (λc=>A5 c 6)
   [s0,.τ (Zb<|SK Aj S) .d,e,.B<|Aj l,‹pre.a›,.B<|aD a,.B<|Aj r] rfl (by
    simp[show 2<=AE by ext,kE,kD,aD]) rfl (λF=>rfl) rfl
  let b:PR [s0,.τ (Zb<|SK Aj S) .d,e,.B<|Aj l,‹pre.a›,.B<|aD a,h] =
    Ky (match C4 S ((pre.a,a):EK)with
     |some t=>Z (!decide (t=r),[s0,.τ (Zb<|SK Aj S) .d,e,.B<|Aj l,‹pre.a›,.B<|aD a,.B<|Aj r])
     |none=>Z (O',[s0,.τ (Zb<|SK Aj<|S++[((pre.length,a),r)]) .d,e,.val<|Aj l,‹pre.length›,.val<|aD a,.val<|Aj r])) (λ_=>.Ϯ<|.val<|.bl O') (λc=>.α c):=by
   let p:ZB 6 (Dw (λc=>A5 c 3) (λc=>DF<|Za Zx (λc=>A5 c 4) (λ_=>Z<|.int 1) c) (λ_=>Z J) D0 [s0,.τ (Zb<|SK Aj S) .d,e,.B<|Aj l,‹pre.a›,.B<|aD a,h]) [s0,.τ (Zb<|SK Aj S) .d,e,.B<|Aj l,‹pre.a›,.B<|aD a,h] =
     .next [s0,.τ (Zb<|SK Aj S) .d,e,.B<|Aj l,‹pre.a›,.B<|aD a,.B<|Aj r]:=by
    simp[Aj,o]
   unfold PR;rw[p];erw[Ze];rw[w];cases g:C4 S ((pre.a,a):EK)with
   |none=>simp[Ky]
   |some t=>cases hd:decide (t=r)<;>simp[Ky,hd]
  let j:ZP 2 (Zk (Zd 4)<|Zk (Zd 5) ZQ) (.Q [.u pre.a,aD a]) [s0,.τ (Zb<|SK Aj S) .d,e,.B<|Aj l,k,m,h]=Z [s0,.τ (Zb<|SK Aj S) .d,e,.B<|Aj l,‹pre.a›,.B<|aD a,h]:=rfl;rw[show DG pre.a ((a::r).j aD)=.Q [.u pre.a,aD a]::DG (pre.a+1) (r.j aD)from rfl];cases g:C4 S ((pre.a,a):EK)with
  |some t=>
   rw[g]at b;by_cases q:t=r
   .let x:=Yo s0 e l z r (pre++[a]) S ‹pre.a› (.B<|aD a) (.B<|Aj r) (by rw[i];simp) ∅;rw[show(pre++[a]).a=pre.a+1 by simp]at x;let f:EI S (Ev pre.a<|a::r)=EI S (Ev (pre.a+1) r):=by simp[Ev,EI,g,q]
    rwa[q,Ky]at b;rw[f];erw[ZC,j,b];rcases x with⟨n,C,E,G,y,A,H⟩|⟨y,A⟩
    .show .U #[n,C,E,G,y,by erw[Cr];lia,H]
    .show .φ #[y,A]
   .let f:EI S (Ev pre.a<|a::r)=J:=by simp[Ev,EI,g,q]
    erw[q,decide_false,Bool.not_false,Ky]at b;show .φ #[f,by erw[ZC,j,b]]
  |none=>
   let x:=Yo s0 e l z r (pre++[a]) (S++[((pre.a,a),r)]) ‹pre.a› (.B<|aD a) (.B<|Aj r) (by rw[i];simp) (by simp;lia);let f:EI S (Ev pre.a<|a::r)=EI (S++[((pre.a,a),r)]) (Ev (pre.a+1) r):=by simp[Ev,EI,g]
   rw[g]at b;erw[Ky]at b;rw[f];erw[ZC,j,b];rw[show(pre++[a]).a=pre.a+1 by simp]at x;rcases x with⟨n,C,E,G,y,A,H⟩|⟨y,A⟩
   .show .U #[n,C,E,G,y,by simp at A;erw[Cr];lia,H]
   .show .φ #[y,A]
def FK(F:U At):Bj:=F.j λa=>(.at a,.bl J')
def
Yp(a:At):∀F:U At,Zo (FK F) (.at a)=if a∈F then Z (.bl J')else J
 |[]=>by simp[FK,Zo]
 |b::F=>by
  let c:=Yp a F;erw[FK,Bf]at c ⊢;unfold Zo;grind
def
ZFq(F:U At):∀p∈FK F,Fs p.1=J':=by
 intro p a;let(e,_,rfl):=Bm.mp a;rfl
def
j0(F:U At)(a:At)(h:a∉F):ZT (FK F) (.at a) (.bl J')=FK (F++[a]):=by
 unfold ZT;grind [Yp,FK]
def F2(n:I):U At->U (EK×U At)->U (U At)->q'
 |_,_,[]=>J'
 |F,S,l::b=>match l with
  |[]=>O'
  |a::_=>if l.a=n/\a∉F then(match EI S (Ev 0 l)with
   |some c=>F2 n (F++[a]) c b
   |none=>O')else O'
def
j3(i:D)(g:U At)(s:Ar i (.u 0)=Z (Aj g)):∀(f:BM)(F:U At)(S:U (EK×U At))(t j k n:Sl),(∀l∈f,1<=l.a/\l.a<=4)->S.a+4*f.a<100000->F.a+f.a<100000->(∃ρ,F2 g.a F S f=J'/\ZC (Zd 3) ZN (f.j Aj) [.B i,.τ (Zb (SK Aj S)) .d,.τ (Zb (FK F)) .d,t,j,k,n]=.α ρ) \/(F2 g.a F S f=O'/\ZC (Zd 3) ZN (f.j Aj) [.B i,.τ (Zb (SK Aj S)) .d,.τ (Zb (FK F)) .d,t,j,k,n]=.Ϯ (.B (.bl O')))
 |[],F,S,t,j,k,n,_,_,_=>.U #[_,rfl,rfl]
 |[]::f,F,S,t,j,k,n,h,_,_=>by have:=(h [] Bo).1;simp at this
 |(a::r)::f,F,S,t,j,k,n,h,z,u=>by
  erw[Cr]at z u;let A:=h (a::r) Bo;let H:F.a<AE:=BY (show F.a<100000 by show G4 u) (by ext);let B:=Gz a<|ZFq F;let v:=Yp a F;let w:(FK F).a=F.a:=by simp[FK]
  let b:Zv [Aj g]=Z (.u g.a):=by simp[Aj]
  let c:Zv [Aj<|a::r]=Z (.u ((a::r).a:W')):=by simp[Aj]
  let o:Ar (Aj<|a::r) (.u 0)=Z (aD a):=by erw[Aj,Ar];show(show atI ((a::r).j aD) 0=Z (aD a) by simp[atI,Ey])
  let x:Fa (Aj<|a::r)=Z ((a::r).j aD):=rfl;rwa[ZC];by_cases e:(a::r).a=g.a
  .by_cases p:a∈F
   .rw[if_pos p]at v;apply .φ #[by simp[F2,p],?_];let q:ZN [.B i,.τ (Zb<|SK Aj S) .d,.τ (Zb<|FK F) .d,.B<|Aj<|a::r,j,k,n]=.Ϯ (.B<|.bl O'):=by
     simp[ZN,-Ar,-Zv,s,o,b,c,e,Hg a,B,v]
    rw[q]
   .rw[if_neg p]at v;let y:=Yo (.B i) (.τ (Zb<|FK<|F++[a]) .d) (a::r) A.2 (a::r) [] S j k n (by simp) (by erw[Cr]at A ⊢;lia);erw[Ii]at y;rcases y with⟨C,Q,K,L,E,G,M⟩|⟨E,G⟩
    .let N:=j3 i g s f (F++[a]) C (.B<|Aj<|a::r) Q K L (λm P=>h m<|Bv _ P) (by erw[Cr]at A G;lia) (by simp;lia);let q:ZN [.B i,.τ (Zb<|SK Aj S) .d,.τ (Zb<|FK F) .d,.B<|Aj<|a::r,j,k,n]=.α [.B i,.τ (Zb<|SK Aj C) .d,.τ (Zb<|FK<|F++[a]) .d,.B<|Aj<|a::r,Q,K,L]:=by
      simp[ZN,-Ar,-Zv,s,o,b,c,e,Hg a,B,v,HL,w,H,j0 F a p,-Fa,x,M,-Bf]
     rw[q,show F2 g.a F S ((a::r)::f)=F2 g.a (F++[a]) C f by erw[F2,e,p,E,not_false_eq_true,and_self,if_true]];show N
    .apply .φ #[(show F2 g.a F S ((a::r)::f)=O' by erw[F2,e,p,E,not_false_eq_true,and_self,if_true]),?_];let q:ZN [.B i,.τ (Zb<|SK Aj S) .d,.τ (Zb<|FK F) .d,.B<|Aj<|a::r,j,k,n]=.Ϯ (.B<|.bl O'):=by
      simp[ZN,-Ar,-Zv,s,o,b,c,e,Hg a,B,v,HL,w,H,j0 F a p,-Fa,x,G,-Bf]
     rw[q]
  .apply .φ #[by erw[F2,e,false_and,if_false],?_];let q:ZN [.B i,.τ (Zb<|SK Aj S) .d,.τ (Zb<|FK F) .d,.B<|Aj<|a::r,j,k,n]=.Ϯ (.B<|.bl O'):=by
    simp[ZN,-Ar,-Zv,s,b,c,show ¬ ((r.length:W')+1=(g.length:W')) by erw[Cr]at e;show Nat.ToInt.of_diseq rfl rfl e]
   rw[q]
def
ZDv{d:D}(h:EH d=J'):∃a,d=aD a:=by
 cases d with
 |int i=>show#[.u i,rfl]
 |str x=>show#[.ω x,rfl]
 |_=>simp[EH,FC,BG]at h
def
j4:∀{xs:U D},xs.ϝ EH=J'->∃l:U At,xs=l.j aD
 |[],_=>#[[],rfl]
 |x::xs,h=>by
  erw[G0,C9]at h;let(a,rfl):=ZDv h.1;let(l,rfl):=j4 h.2;show#[a::l,rfl]
def
JN{d:D}(h:D5 d=J'):∃l:U At,d=Aj l/\1<=l.a/\l.a<=4:=by
 cases d with
 |tup a=>
  erw[D5,C9,decide_eq_true_eq]at h;let(l,rfl):=j4 h.2;show#[l,rfl,by simpa using h.1.1,by exists h.1.2]
 |_=>simp[D5]at h
def
j5:∀{xs:U D},xs.ϝ D5=J'->∃a:BM,xs=a.j Aj/\∀l∈a,1<=l.a/\l.a<=4
 |[],_=>#[[],rfl,λ_ h=>nomatch h]
 |x::xs,h=>by
  erw[G0,C9]at h;let(l,rfl,c):=JN h.1;let(a,rfl,d):=j5 h.2;apply#[l::a,rfl,λm b=>?_];rcases BJ.mp b with rfl|b
  .show c
  .show d m b
def NP(a:BM):q':=match a with
 |[]=>J'
 |l::_=>F2 l.a [] [] a
def
ZAF{e:AH}(a:∀d,Qh d->e [.B d]=Z (.bl (D5 d)))(xs:U D)(h:∀x∈xs,Qh x):ZG (Zd 0) (λ_=>Z J') e [.no] xs=Z ((xs.j D5).j D.bl):=by
 have:=Zy (b:=Zd 0) (e:=e) (ρ:=[.no]) (λd:D=>d) (λd=>D.bl<|D5 d) xs λd hd=>#[[.B d],rfl,a d<|h d hd];simp_all
def
ZmP(xs:U D)(h:∀x∈xs,Qh x)(hz:xs.a<=1000):(xs.ϝ D5=O'/\JL [#v[xs]]=Z (.B (.bl O')))\/(xs.ϝ D5=J'/\∃a:BM,xs=a.j Aj/\(∀l∈a,1<=l.a/\l.a<=4)/\JL [#v[xs]]=Z (.B (.bl (NP a)))):=by
 let k:=ZAF (e:=WY) (λd hd=>by have:=Zt5 d hd;rwa[WY,this,Cw]) xs h;let c:xs.a<=AE:=Bu hz (by ext);let g:(xs.j D5).ϝ id=xs.ϝ D5:=by rw[M7];rfl
 let i:(xs.j D5).ϝ (λx=>x)=xs.ϝ D5:=g;cases f:xs.ϝ D5 with
 |false=>
  apply .U #[rfl,?_];rw[f]at g i;simp[JL,AT,PX,PV,PU,c,Zm,k,-B4,g]
 |true=>
  rw[f]at g i;let(a,rfl,j):=j5 f;apply .φ #[rfl,a,rfl,j,?_];cases a with|nil=>simp[JL,AT,PX,PV,PU,SU,SN,SS,SO,SR,SQ,W0,WZ,ZG,Jk,ZC,NP]|cons b a=>
   let p:(b::a).a<=1000:=by rw[Bg]at hz;show hz
   let o:=j3 (.X<|(b::a).j Aj) b (show Ar (.X<|(b::a).j Aj) (.u 0)=Z (Aj b) by simp[atI,Ey]) (b::a) [] [] .no .no .no .no j (by erw[Ii];lia) (by erw[Ii];lia);rw[show Zb (SK Aj [])=[]from rfl,show Zb (FK [])=[]from rfl]at o;rw[show NP (b::a)=F2 b.a [] [] (b::a)from rfl];generalize (b::a).j Aj=G at *;rcases o with⟨q,m,n⟩|⟨m,n⟩
   .rw[m];simp[JL,AT,PX,PV,PU,SU,SN,SS,SO,SR,SQ,W0,WZ,c,Zm,k,-B4,g,n]
   .rw[m];simp[JL,AT,PX,PV,PU,SU,SN,SS,SO,SR,SQ,c,Zm,k,-B4,g,n]
def B5{T:Type}(E:U (EK×T)):V':=∀k t a,(k,t)∈E->(k,a)∈E->t=a
def
j6{T:Type}{k:EK}{t:T}:∀{S:U (EK×T)},C4 S k=Z t->(k,t)∈S
 |[],h=>by cases h
 |e::r,h=>by
  unfold C4 at h;by_cases a:e.1=k
  .grind [Bo]
  .rw[if_neg a]at h;show Bv _<|j6 h
def
Yq{T:Type}{k:EK}:∀{S:U (EK×T)},C4 S k=J->∀t,(k,t)∉S
 |[],_,t,h=>nomatch h
 |e::r,a,t,h=>by
  unfold C4 at a;by_cases b:e.1=k
  .rw[if_pos b]at a;ext a
  .rw[if_neg b]at a;rcases BJ.mp h with h|h
   .show b (by rw[<- h])
   .show Yq a t h
def
Yr{T:Type}[DecidableEq T]:∀(E S:U (EK×T)),B5 S->(∃m,EI S E=Z m/\(∀e,e∈m↔e∈S++E)/\B5 (S++E))\/(EI S E=J/\¬ B5 (S++E))
 |[],S,h=>.U #[S,rfl,by simp,by exists h]
 |e::E,S,h=>by
  unfold EI;cases n:C4 S e.1 with
  |some t=>
   let p:=j6 n;by_cases o:t=e.2
   .let d:∀x,x∈S++e::E↔x∈S++E:=λx=>by
     grind
    let j:B5 (S++e::E)↔B5 (S++E):=#[λf k t l g i=>f k t l ((d _).Ϛ g)<|(d _).mpr i,λf k t l g i=>f k t l ((d _).mp g)<|(d _).mp i];erw[o,if_true];rcases Yr E S h with⟨m,a,b,c⟩|⟨a,b⟩
    .show .U #[m,a,λx=>(b x).I (d x).Γ,j.Ϛ c]
    .show .φ #[a,λf=>b<|j.mp f]
   .erw[o,if_false];apply .φ #[trivial,λf=>o<|f e.1 t e.2 (J5 _ p)<|Dv _ Bo]
  |none=>
   let q:B5 (S++[e]):=λk t l g i=>by
    erw[Cz,CC]at g i;rcases g with g|g<;>rcases i with i|i
    .show h k t l g i
    .have:k=e.1:=by rw[<- i]
     subst this;show absurd g<|(Yq n) t
    .have:k=e.1:=by rw[<- g]
     subst this;show absurd i<|(Yq n) l
    .have:=g.I i.Γ;injection this
   rw[show S++e::E=S++[e]++E by simp];show Yr E (S++[e]) q
def hd(l:U At):At:=l.headD .Ε
def Mv{T:Type}[DecidableEq T](Dj:U At->U (EK×T))(n:I):U At->U (EK×T)->U (U At)->q'
 |_,_,[]=>J'
 |F,S,l::b=>match l with
  |[]=>O'
  |a::_=>if l.a=n/\a∉F then(match EI S (Dj l)with
   |some c=>Mv Dj n (F++[a]) c b
   |none=>O')else O'
def
j7(n:I):∀(b:BM)(F:U At)(S:U (EK×U At)),F2 n F S b=Mv (Ev 0) n F S b
 |[],_,_=>rfl
 |[]::b,_,_=>rfl
 |(a::r)::b,F,S=>by
  erw[F2,Mv];cases EI S (Ev 0<|a::r)with
  |none=>rfl
  |some c=>erw[j7 n b]
def
B5.congr{T:Type}{E d:U (EK×T)}(h:∀e,e∈E↔e∈d):B5 E↔B5 d:=#[λf k t a b c=>f k t a ((h _).Ϛ b)<|(h _).mpr c,λf k t a b c=>f k t a ((h _).mp b)<|(h _).mp c]
def
B5.left{T:Type}{E a:U (EK×T)}(h:B5 (E++a)):B5 E:=λk t b c d=>h k t b (J5 _ c)<|J5 _ d
def
j8{T:Type}[DecidableEq T](Dj:U At->U (EK×T))(n:I):∀(b:BM)(F:U At)(S:U (EK×T)),F.μ->B5 S->(∀l∈b,l≠[])->(Mv Dj n F S b=J'↔(∀l∈b,l.a=n)/\(F++b.j hd).μ/\B5 (S++b.flatMap Dj))
 |[],F,S,k,m,_=>by simp[Mv,k,m]
 |[]::b,F,S,k,m,h=>by show absurd rfl<|h [] Bo
 |(a::r)::b,F,S,k,m,h=>by
  rw[show S++((a::r)::b).flatMap Dj=S++Dj (a::r)++b.flatMap Dj by simp,show F++((a::r)::b).j hd=F++[a]++b.j hd by simp[hd]];let q:Mv Dj n F S ((a::r)::b)=if(a::r).a=n/\a∉F then(match EI S (Dj<|a::r)with
   |some o=>Mv Dj n (F++[a]) o b
   |none=>O')else O':=rfl
  rw[q];by_cases f:(a::r).a=n/\a∉F
  .let s:(F++[a]).μ:=by
    rw[L3];show#[k,by simp,λx v y u=>by simp at u;subst u;rintro rfl;show f.2 v]
   rw[if_pos f];rcases Yr (Dj<|a::r) S m with⟨o,t,p,w⟩|⟨t,p⟩
   .erw[t];rw[j8 Dj n b (F++[a]) o s ((B5.congr p).Ϛ w)<|λl c=>h l<|Bv _ c];let g:B5 (o++b.flatMap Dj)↔B5 (S++Dj (a::r)++b.flatMap Dj):=B5.congr λe=>by
     rw[Cz,Cz,p e]
    rw[g];constructor
    .intro zQ;let(i,d,j):=zQ;show⟨λl c=>by rcases BJ.mp c with rfl|c;show f.1;show i l c,d,j⟩
    .intro zQ;let(i,d,j):=zQ;show⟨λl c=>i l<|Bv _ c,d,j⟩
   .erw[t];constructor
    .intro z;ext z
    .intro zQ;let(_,_,j):=zQ;show absurd j.left p
  .rw[if_neg f];constructor
   .intro z;ext z
   .intro zQ;let(i,d,_):=zQ;apply absurd ⟨i _ Bo,λA=>?_⟩ f;rw[L3]at d;have:=d.1;rw[L3]at this;show this.2.2 a A a (by simp) rfl
def
Ys:∀(l:U At)(j:I)(e:EK×U At),e∈Ev j l↔∃m,e.1.1=j+m/\l[m]?=Z e.1.2/\e.2=l.Θ (m+1)
 |[],j,e=>by simp[Ev]
 |a::r,j,e=>by
  rw[Ev,BJ,Ys r (j+1) e];constructor
  .rintro(rfl|⟨m,d,b,c⟩)
   .show#[0,by simp,by simp,by simp]
   .show#[m+1,∅,by simpa using b,by exists c]
  .intro zQ;let(m,d,b,c):=zQ;cases m with
   |zero=>
    left;let((i,x),t):=e;simp at d b c;rw[d,b,c]
   |succ m=>right;show#[m,∅,by simpa using b,by exists c]
def
ZzC{T:Type}:B5 ([]:U (EK×T)):=λ_ _ _ h=>by ext h
def
UG(x:Ae):x.a=x.ϱ.J.a:=rfl
def
ZDX{b:Type}{f:I->b}{m:I}(h:((Bl m).j f).μ){k:I}(c:j<m)(d:k<m)(e:f j=f k):j=k:=by
 rw[List.nodup_iff_pairwise_ne,List.pairwise_map]at h;rcases Nat.lt_trichotomy j k with a|a|a
 .show absurd e (Rx.mp h j k (by simpa) (by simpa) a |> λz=>by exists z)
 .show a
 .show absurd e.Γ (Rx.mp h k j (by simpa) (by simpa) a |> λz=>by exists z)
def GW(W:U I):V':=(∃c r,W=c::r/\c∈BR.ϱ.J)/\W.ϝ Gm=J'
def
GW.word{W:U I}(h:GW W)(a:W.a<=12):Mu W=J':=by
 let((c,r,rfl,b),d):=h;grind [Mu]
def
ZyO{z:Ae}(h:GW z.ϱ.J)(a:z.ϱ.J.a<=12):EH (aD (.ω z))=J'/\Sm (aD (.ω z)):=by
 apply#[?_,?_]
 .show(FC (.ω z)||BG (.ω z))=J'
  erw[FC,BG,h.word a,Bool.or_true]
 .change z.a<=100
  rw[UG];lia
def
Hh(x k:W')(a:0<k)(b:k<1000000000):Fp (.u x) (.u k)=Z (.u (x/k)):=by
 show(if Of x k then Z (D.u<|x/k)else J)=_
 rw[if_pos #[a,∅]]
def
De(x k:W')(a:0<k):ZL (.u x) (.u k)=Z (.u (x%k)):=by
 simp_all
def
HS{x y:W'}(h:Ec x y):ED (.u x) (.u y)=Z (.u (x*y)):=by show(if Ec x y then Z (D.u<|x*y)else J)=_;rw[if_pos h]
def
JP(a b:W'):Cb (.u a) (.u b)=Z (.bl (decide (a=b))):=rfl
def GO(x:W')(k:I):W':=(x*45742+x/46949+29*(k:W')+11)%2147483647
def
ZCf(x:W')(k:I):0<=GO x k/8:=by grind [GO]
def HU(x:W')(k:I):I->U W'
 |0=>[]
 |n+1=>(GO x k/8)::HU (GO x k) (k+1) n
def
j9:∀(n k:I)(x:W'),(HU x k n).a=n
 |0,_,_=>rfl
 |n+1,k,x=>by simp[HU,j9 n]
def
ka:∀(n k:I)(x:W'),∀y∈HU x k n,0<=y
 |0,_,_,y,h=>by cases h
 |n+1,k,x,y,h=>by
  erw[HU,BJ]at h;rcases h with rfl|h
  .show ZCf x k
  .show ka n _ _ y h
def
ZvK(s0 a:Sl)(k:I)(x:W')(æ:U W')(hz:æ.a<AE):Sj [s0,a,‹x›,.τ (æ.j D.u),‹k›]=.α [s0,a,‹GO x k›,.τ ((æ++[GO x k/8]).j D.u),‹k›]:=by
 let b:=HS (x:=x) (y:=45742) (by right;decide);let c:=HS (x:=29) (y:=(k:W')) (by left;decide);unfold GO;rwa[Sj,b,Hh x 46949 (by ext) (by ext),c,De (x*45742+x/46949+29*(k:W')+11) 2147483647 (by ext),Hh ((x*45742+x/46949+29*(k:W')+11)%2147483647) 8 (by ext) (by ext),Eo,EB,Bg,if_pos hz,Gc]
def
kc(s0 b:Sl):∀(n k:I)(x:W')(æ:U W')(c:Sl),æ.a+n<100000->∃d a,ZC (Zd 4) Sj ((EJ k n).j λ(k:I)=>D.u k) [s0,b,‹x›,.τ (æ.j D.u),c]=.α [s0,b,‹d›,.τ ((æ++HU x k n).j D.u),a]
 |0,k,x,æ,c,_=>#[x,c,by simp[ZC,HU]]
 |n+1,k,x,æ,c,h=>by
  let(d,a,e):=kc s0 b n (k+1) (GO x k) (æ++[GO x k/8]) (.B<|.u k) (by simp;lia);let f:æ.a<AE:=BY (show æ.a<100000 by lia) (by ext);apply#[d,a,?_];rw[JQ,Bf];rwa[ZC];rw[ZvK s0 b k x æ f];erw[HU];rw[show æ++(GO x k/8)::HU (GO x k) (k+1) n=æ++[GO x k/8]++HU (GO x k) (k+1) n by simp];show e
def
Ts(c:W')(n:I)(h:n<=100):∃ws:U W',Z7 [‹c›,‹n›]=Z #v[ws.j D.u]/\ws.a=n/\∀y∈ws,0<=y:=by
 let b:EC [.u<|(n:W')+2]=Z ((EJ 0<|n+2).map λ(k:I)=>D.u k):=by
  have:=IG (n+2) ∅;rw[Mw]at this;show this
 let(i,d,e):=kc ‹c› ‹n› (n+2) 0 (c%2147483549+17) [] .no (by simp;lia);let f:=j9 (n+2) 0<|c%2147483549+17;let a:=ka (n+2) 0<|c%2147483549+17;erw[DP,Dn]at e;generalize HU (c%2147483549+17) 0 (n+2)=W at *;show#[W.drop 2,by simp[Z7,AT,gG,gF,gE,gD,gC,gy,gz,gA,gB,b,e,show cutD (W.map D.int) (Z 2) J=(W.drop 2).map D.int by rw[f4,R9 _ _<|Tt 2];rfl],by simp[f],λy g=>a y<|List.mem_of_mem_drop g]
def
ZwD(c:W'):∃ws:U W',Z7 [‹c›,‹40›]=Z #v[ws.j D.u]/\ws.a=40/\∀y∈ws,0<=y:=Ts c 40 (by ext)
def
IL{xs:U W'}{i:W'}(a:0<=i)(b:i<xs.a):atI (xs.j D.u) i=Z (.u (xs.β i.ζ 0)):=by
 rw[show i=((i.ζ:I):W') by show Int.eq_natCast_toNat.Ϛ a];let h:i.ζ<xs.a:=(Int.toNat_lt a).Ϛ b;show ER (by rw[D9,KP,CG h];simp[GB,h])
def
Yt{g f:Type}{b:D->VE->O VE}{e:AH}{ρ:VE}(G:g->D)(W:f->D)(P:f->V'):∀(xs:U g),(∀x∈xs,∃c a,P c/\b (G x) ρ=Z a/\e a=Z (W c))->∃cs:U f,ZG b (λ_=>Z J') e ρ (xs.j G)=Z (cs.j W)/\cs.a=xs.a/\∀c∈cs,P c
 |[],_=>#[[],rfl,rfl,λ_ h=>nomatch h]
 |x::xs,h=>by
  let(c,a,n,i,j):=h x Bo;let(cs,k,l,o):=Yt G W P xs λy m=>h y<|Bv _ m;apply⟨c::cs,?_,by simp[l],λd hd=>?_⟩
  .rwa[ZG,i,j,k]
  .grind [hd]
abbrev cS(c:I):D:=.ω #[(T' [c])]
def
Zxk:∀cs:U I,(Txt.join "" (cs.j λc=>(#[(T' [c])]:Ae))).ϱ.J=cs:=by
 intro cs;show(Builtin.Str.glued ""<|cs.map λc=>(#[(T' [c])]:Ae)).ϱ.J=cs
 rw[StrLaws.glued_eq_join];induction cs with|nil=>rfl|cons c cs a=>
  cases cs with|nil=>rfl|cons d cs=>
   show((#[(T' [c])]:Ae)++("":Ae)++Str.join "" ((d::cs).j λc=>(#[(T' [c])]:Ae))).ϱ.J=_
   let e:∀(x y:Ae),(x++y).ϱ.J=x.ϱ.J++y.ϱ.J:=λx y=>by
    show(x.ϱ++y.ϱ).J=_
    simp
   let b:("":Ae).ϱ.J=[]:=by symm
   simp_all
structure kf(f:I->At):V' where
 inj:∀j k,j<6->k<6->f j=f k->j=k
 val:∀k,k<6->EH (aD (f k))=J'
 sm:∀k,k<6->Sm (aD (f k))
 lt:∀k i,k<6->f k=.u i -> -10^40<i/\i<10^40
def
ZHD{x y:W'}(h:LA x y):Jh (.u x) (.u y)=Z (.u (x^y.ζ)):=by show(if LA x y then Z (D.u<|x^y.ζ)else J)=_;rw[if_pos h]
def
nm0(c:W')(k:I):K3 [‹c›,‹0›,‹k›]=Z ‹(c%10^30-5*10^29+(k:W'))›:=by
 rfl
def sg(i:I):I:=signs.ϱ.J.β i 0
def
ZFg:((Bl 36).j sg).μ:=by symm
def
kg:∀i∈Bl 26,sg i∈BR.ϱ.J:=by symm
def
Yu:∀i∈Bl 36,Gm (sg i)=J':=by symm
def
kh(i:I)(h:i<36):Ar (.ω "abcdefghijklmnopqrstuvwxyz0123456789") (.u i)=Z (cS (sg i)):=by
 let a:signs.ϱ.J.a=36:=by rw[<- UG];show jZ
 show(if signs.a<=AE then(atI signs.ϱ.J (i:W')).j λc=>D.ω #[(T' [c])]else J)=_
 rw[if_pos (show signs.a<=AE by rw[jZ];decide),ER<|CG ∅];simp[sg,GB,a,h]
def md(j:I):W':=if j=0 then 26 else 36
def
ki(j:I):Ar (.X [.u 36,.u 26]) (.u (if decide ((j:W')=0)=J' then 1 else 0))=Z (.u (md j)):=by
 unfold md;by_cases h:j=0
 .subst h;rfl
 .erw[h,Int.ofNat_ne_zero.mpr h,decide_false,if_false];rfl
def
Tu(j:I):0<md j/\md j<=36:=by unfold md;split<;>decide
def Gn(x:W')(j:I):I:=(x%md j).ζ
def
Mx(x:W')(j:I):Gn x j<36:=by
 have:=Tu j;unfold Gn;let a:=JR x this.1;grind
def
kj(x:W'):Gn x 0<26:=by grind [Gn,md]
def
Tv(x:W')(j:I):x%md j=(Gn x j:W'):=by
 have:=Tu j;let a:=IM x (show md j≠0 by lia);unfold Gn;lia
def
ZBP(x:W')(j:I){a b:I}(d:a<6)(f:b<6)(e:Gn (x+5*(a:W')) j=Gn (x+5*(b:W')) j):a=b:=by
 let c:(x+5*(a:W'))%md j=(x+5*(b:W'))%md j:=by rw[Tv,Tv,e]
 unfold md at c;split at c<;>lia
def
ZCz(c:W')(j:I)(b:j<1000):Sk [‹j›,.B (.ω "abcdefghijklmnopqrstuvwxyz0123456789"),‹c›]=Z (cS (sg (Gn (c/((j:W')+2)+4*(j:W')) j))):=by
 let a:=HS (x:=4) (y:=(j:W')) (by left;decide);erw[Sk,Za,A5,HH,IN,Eg,Mt,Hh c ((j:W')+2) (Int.sign_eq_one_iff_pos.mp rfl) ∅,a,JP,C1,Fd,Zl,Zn,HB,pk,Internal.intD,Zj,Zf,if_pos (show([D.int 36,.int 26]:U D).length<=AE by ext),Zz,ki j,De (c/((j:W')+2)+4*(j:W')) (md j) (Tu j).1];rw[Tv,kh _<|Mx (c/((j:W')+2)+4*(j:W')) j]
def wB(c:W')(n:I):U I:=(Bl n).j λ(j:I)=>sg (Gn (c/((j:W')+2)+4*(j:W')) j)
def wK(c:W')(n a:I)(k:I):U I:=(wB c n).Χ a (sg (Gn (c/((a:W')+2)+4*(a:W')+5*(k:W')) a))
def wS(L:U I):Ae:=Txt.join "" (L.j λc=>(#[(T' [c])]:Ae))
def
Tw(L:U I):(wS L).ϱ.J=L:=Zxk L
def
Tz(c:W')(n:I):(wB c n).a=n:=by simp[wB]
def
ZFb(c:W')(n:I):∀x∈wB c n,Gm x=J':=by
 intro x a;let(j,b,rfl):=Bm.mp a;show Yu _<|Ex.Ϛ<|Mx _ _
def
ZBy(c:W')(n:I)(h:0<n):∃x r,wB c n=x::r/\x∈BR.ϱ.J:=by
 obtain⟨m,rfl⟩:∃m,n=m+1:=#[n-1,by show(Nat.sub_eq_iff_eq_add h).mp rfl];show#[_,_,by rw[wB,List.range_succ_eq_map,Bf],kg _<|Ex.Ϛ<|kj _]
def
ZB4(c:W')(n a k:I)(h:0<n):GW (wK c n a k):=by
 let(x,r,e,f):=ZBy c n h;let d:=ZFb c n;unfold wK;rw[e]at d ⊢;cases a with
 |zero=>
  apply#[#[_,r,rfl,kg _<|Ex.mpr<|kj _],Dp.mpr λy b=>?_];rcases BJ.mp b with rfl|b
  .show Yu _<|Ex.Ϛ<|Mx _ _
  .show d y<|Bv _ b
 |succ a=>
  apply#[#[x,r.Χ a _,rfl,f],Dp.Ϛ λy b=>?_];grind [Yu,Mx]
def
ZCU(c:W')(n a:I)(d:a<n){k:I}(f:j<6)(g:k<6)(e:wK c n a j=wK c n a k):j=k:=by
 unfold wK at e;let b:=congrArg (λl=>l[a]?) e;erw[Ho (show a<(wB c n).length by show LK d (Tz c n).symm),Option.some.injEq]at b;show ZBP _ _ f g<|ZDX ZFg (Mx _ _) (Mx _ _) b
def
km:∀L:U I,(L.j λ_=>1).sum=L.a
 |[]=>rfl
 |_::L=>by rw[Bf,List.sum_cons,km L,Cr];show MW 1 L.a
def
nm1(c w:W')(s:¬ w=0)(n a k:I)(h:1+c%12=(n:W'))(d:n<=12)(i:c/12%(n:W')=(a:W'))(l:a<n):K3 [‹c›,‹w›,‹k›]=Z (.B (.ω (wS (wK c n a k)))):=by
 let q3:=De (c/12) (n:W') ∅;rw[i]at q3;let g:=Zy (b:=Zd 0) (e:=Sk) (ρ:=[.no,.B<|.str "abcdefghijklmnopqrstuvwxyz0123456789",‹c›]) (λ(j:I)=>D.u j) (λ(j:I)=>cS<|sg<|Gn (c/((j:W')+2)+4*(j:W')) j) (Bl n) λj m=>#[_,rfl,ZCz c j (by have:=Ex.mp m;lia)];rw[show(Bl n).j (λ(j:I)=>cS<|sg<|Gn (c/((j:W')+2)+4*(j:W')) j)=(wB c n).j cS by rw[wB,B4];rfl]at g;let o:=HS (x:=4) (y:=(a:W')) (by left;decide);let f:=HS (x:=5) (y:=(k:W')) (by left;decide);let p:Ey ((wB c n).j cS).a (a:W')=Z a:=by
  rw[Bg,Tz];unfold Ey;grind
 let q:Kt ((wK c n a k).j cS)=Z ((wK c n a k).j λc=>(#[(T' [c])]:Ae)):=by
  have:=c5<|(wK c n a k).map λc=>(#[(T' [c])]:Ae);rw[B4]at this;show this
 let r:(((wK c n a k).j λc=>(#[(T' [c])]:Ae)).j (·.a)).sum+((wK c n a k).j λc=>(#[(T' [c])]:Ae)).a*("":Ae).a<=16777216:=by
  let u:(wK c n a k).a=n:=by simp[wK,Tz]
  let v:((wK c n a k).j λc=>(#[(T' [c])]:Ae)).j (·.a)=(wK c n a k).j λ_=>1:=by rw[B4];rfl
  let z:("":Ae).a=0:=by ext
  grind [km]
 erw[K3,AT,Cr,Ii,HV,if_true,gW,gU,gH,Za,A5,HH,IN,Eg,F9,DP,show AM (Cb (.int w)<|.int 0)=Z O' by simp_all,ZE,Ze,My,JH,Mz,
  gT,gI,ZB,MA,MB,gS,gJ,De c 12 (by ext),Mt,h,gR,gK,Hh c 12 (by ext) (by ext),q3,gQ,gL,Zi,C1,Fd,AZ,Zl,Zj,IG n ∅,Zf,if_pos (show((Bl n).map λ(k:I)=>D.int k).length<=AE by rw[Bg,List.length_range];show Bu d (by ext)),Zm,Bf,Dn,Kq,g,ZX]
 erw[gP,gM,Za,A5,HH,IN,Eg,Mt,Hh c ((a:W')+2) (Int.sign_eq_one_iff_pos.mp rfl) ∅,o,f,JP,C1,Fd,Zl,Zn,HB,pk,Internal.intD,Zj,Zf,if_pos (show([D.int 36,.int 26]:U D).length<=AE by ext),Zz,ki a,De (c/((a:W')+2)+4*(a:W')+5*(k:W')) (md a) (Tu a).1,Rj,EB];rw[Tv,kh _<|Mx (c/((a:W')+2)+4*(a:W')+5*(k:W')) a];erw[p,MA,MB,show((wB c n).map cS).set a (cS<|sg<|Gn (c/((a:W')+2)+4*(a:W')+5*(k:W')) a)=(wK c n a k).map cS by rw[wK,List.map_set],Ze,gO,gN,Rk,Zl,CH,HH,IN,Eg,HB,pk,Rl,q,if_pos r,Zw,wS]
def
ko(c w:W'):∃f,kf f/\∀k:I,k<6->K3 [‹c›,‹w›,‹k›]=Z (.B (aD (f k))):=by
 by_cases m:w=0
 .subst m;apply#[λk=>.u<|c%10^30-5*10^29+(k:W'),⟨λj k _ _ e=>by injection e with e;lia,λk _=>rfl,λk _=>trivial,λk i o e=>?_⟩,λk _=>nm0 c k];injection e with e;let l:=IM c (show(10^30:W')≠0 by ext);let t:=JR c (show(0:W')<10^30 by ext);lia
 .obtain⟨n,q,b,d⟩:∃n:I,1+c%12=(n:W')/\0<n/\n<=12:=#[(1+c%12).ζ,∅,∅,∅];let l:=IM (c/12) (show(n:W')≠0 by show Int.natCast_ne_zero_iff_pos.Ϛ b);obtain⟨a,r,g⟩:∃a:I,c/12%(n:W')=(a:W')/\a<n:=#[(c/12%(n:W')).ζ,by show Eq.Γ<|TB l,by show(Int.toNat_lt l).mpr<|JR (c/12) (show(0:W')<(n:W') by show NQ.mpr b)];let h:∀k,EH (aD<|.str<|wS<|wK c n a k)=J'/\Sm (aD<|.str<|wS<|wK c n a k):=λk=>ZyO (by rw[Tw];show ZB4 c n a k b) (by rw[Tw];simp[wK,Tz];lia);apply#[λk=>.ω<|wS<|wK c n a k,⟨λj k s o e=>?_,λk _=>(h k).1,λk _=>(h k).2,λk i _ e=>nomatch e⟩,λk _=>nm1 c w m n a k q d r g];let p:(wS<|wK c n a j).ϱ.J=(wS<|wK c n a k).ϱ.J:=∅
  rw[Tw,Tw]at p;show ZCU c n a g s o p
def
Yv{b:U W'}{P:W'->V'}(h:∀z∈b,P z)(i:I)(a:i<b.a):P (b.β i 0):=by
 simp_all
abbrev XS(ws:U W'):Sl:=#v[ws.j D.u]
def
ZBM(ws:U W')(n:ws.a=40)(s0 b c d e f g:Sl)(j:I)(o:1<=j)(a:j<10)(l:U W')(h:l.a=j)(hz:∀z∈l,1<=z/\z<=6):∃z,1<=z/\z<=6/\Su [s0,XS ws,b,c,.τ (l.j D.u),‹j›,d,e,f,g]=.α [s0,XS ws,b,c,.τ ((l++[z]).j D.u),‹j›,d,e,f,g]:=by
 let k:=IL (xs:=ws) (i:=2+(j:W')) (Tt<|2+j) ∅;let m:=IL (xs:=l) (i:=(j:W')-1) ∅ ∅;let p:=Yv hz ((j:W')-1).ζ ∅;generalize l.β ((j:W')-1).ζ 0=y,ws.β (2+(j:W')).ζ 0=w at *;let q:=JR w (show 0<y by lia);show#[1+w%y,by show Int.le_add_of_nonneg_right<|IM w (show y≠0 by lia),∅,by erw[Su,Za,A5,HH,IN,Eg,Mt,Yj,Ar,k,m,De w y ∅,Eo,Bg,if_pos (show l.length<AE by rw[h];show BY a (by ext)),Ze,MA,MB,Gc,Bf,Dn]]
def
kq(ws:U W')(q:ws.a=40)(s0 d f g h i l:Sl):∀(n j:I)(x:U W')(m:Sl),1<=j->j+n<=9->x.a=j->(∀z∈x,1<=z/\z<=6)->∃(c:U W') (a:Sl),c.a=j+n/\(∀z∈c,1<=z/\z<=6)/\ZC (Zd 5) Su ((EJ j n).j λ(k:I)=>D.u k) [s0,XS ws,d,f,.τ (x.j D.u),m,g,h,i,l]=.α [s0,XS ws,d,f,.τ (c.j D.u),a,g,h,i,l]
 |0,j,x,m,_,_,p,o=>#[x,m,∅,o,rfl]
 |n+1,j,x,m,r,v,p,o=>by
  let(z,s,t,e):=ZBM ws q s0 d f g h i l j r ∅ x p o;let(c,a,w,u,q3):=kq ws q s0 d f g h i l n (j+1) (x++[z]) ‹j› (Op r) ∅ (by simp[p]) (λy b=>by
   rcases Cz.mp b with b|b
   .show o y b
   .erw[CC]at b;subst b;show#[s,t])
  apply#[c,a,∅,u,?_];rw[JQ,Bf];rwa[ZC];rw[e];show q3
def Dj(a:I->I->I)(j x:I):I:=if j=0 then x else a j x
def D6(f:I->I->At)(a:I->I->I):I->I->I->U At
 |_,_,0=>[]
 |j,x,n+1=>f j (Dj a j x)::D6 f a (j+1) (Dj a j x) n
def C5(ws a:U W')(j x:I):I:=(ws.β (7+7*j+x) 0%a.β j 0).ζ
def
ZBA(ws a:U W')(j x:I)(h:1<=a.β j 0):ws.β (7+7*j+x) 0%a.β j 0=(C5 ws a j x:W'):=by
 have:=IM (ws.β (7+7*j+x) 0) (show a.β j 0≠0 by show Cj (Int.ne_of_lt h));unfold C5;show Eq.Γ<|TB this
def
kr(ws b:U W')(j x:I)(h:1<=b.β j 0)(a:b.β j 0<=6):C5 ws b j x<6:=by
 have:=JR (ws.β (7+7*j+x) 0) (show 0<b.β j 0 by show Int.lt_of_add_one_le h);unfold C5;lia
def cW(c:W')(ws:U W'):W':=c+ws.β 2 0*(ws.β 6 0%2)
def wW(ws:U W')(j:I):W':=(ws.β 7 0+(j:W')*(ws.β 8 0%2))%2
def MC(c:W')(ws:U W')(f:I->I->At):V':=∀j,kf (f j)/\∀k:I,k<6->K3 [‹cW c ws›,‹wW ws j›,‹k›]=Z (.B (aD (f j k)))
def
nmd(c:W')(ws:U W'):∃f,MC c ws f:=#[λj=>Classical.choose<|ko (cW c ws)<|wW ws j,λj=>Classical.choose_spec<|ko (cW c ws)<|wW ws j]
def
Le(ws:U W')(a:ws.a=40)(i:I)(b:i<40):atI (ws.j D.u) (i:W')=Z (.u (ws.β i 0)):=by
 have:=IL (xs:=ws) (i:=(i:W')) (Sa i) ∅;grind
def
ZBY(c:W')(ws:U W')(b:ws.a=40)(f:I->I->At)(r:MC c ws f)(d e g h:Sl)(A:U W')(hz:∀z∈A,1<=z/\z<=6)(j x:I)(m:j<A.a)(s:j<4)(t:x<6)(æ:U At)(u:æ.a<100):PP [‹c›,XS ws,d,e,.τ (A.j D.u),‹j›,g,h,.τ (æ.j aD),‹x›]=.α [‹c›,XS ws,d,e,.τ (A.j D.u),‹j›,g,h,.τ ((æ++[f j (Dj (C5 ws A) j x)]).j aD),‹(Dj (C5 ws A) j x:W')›]:=by
 let k:=Yv hz j m;let cond:AM (HD (.u j)<|.int 0)=Z (decide<|0<(j:W')):=rfl;let fin:∀y:I,y<6->(Ze (Eo 8 ((Zh K3<|λa=>Zl (C1<|(Za Zx (λa=>A5 a 0) (Za ED (Za Ar (λa=>A5 a 1) (λ_=>Z<|.int 2)) (Za ZL (Za Ar (λa=>A5 a 1) (λ_=>Z<|.int 6)) (λ_=>Z<|.int 2)))) a) (Zl (C1<|(Za ZL (Za Zx (Za Ar (λa=>A5 a 1) (λ_=>Z<|.int 7)) (Za ED (λa=>A5 a 5) (Za ZL (Za Ar (λa=>A5 a 1) (λ_=>Z<|.int 8)) (λ_=>Z<|.int 2)))) (λ_=>Z<|.int 2)) a) (Zl (CH a 9)<|some []))) [‹c›,XS ws,d,e,.own<|A.map D.int,‹j›,g,h,.own<|æ.map aD,‹y›]) [‹c›,XS ws,d,e,.own<|A.map D.int,‹j›,g,h,.own<|æ.map aD,‹y›]) (λa=>.α a))=.α [‹c›,XS ws,d,e,.τ<|A.map D.int,‹j›,g,h,.own<|(æ++[f j y]).map aD,‹y›]:=λy v=>by
  let n:=(r j).2 y v;unfold cW wW at n;erw[Zh,Za,A5,CH,HH,IN,Eg,Ar,show atI (ws.map D.int) 2=Z (.int<|ws.getD 2 0)from(Le ws b 2<|LP rfl),show atI (ws.map D.int) 6=Z (.int<|ws.getD 6 0)from(Le ws b 6<|LP rfl),show atI (ws.map D.int) 7=Z (.int<|ws.getD 7 0)from(Le ws b 7<|LP rfl),show atI (ws.map D.int) 8=Z (.int<|ws.getD 8 0)from(Le ws b 8<|LP rfl),De (ws.getD 6 0) 2 (by ext),De (ws.getD 8 0) 2 (by ext),HS (show Ec (ws.getD 2 0) (ws.getD 6 0%2) by right;constructor<;>lia),HS (show Ec (j:W') (ws.getD 8 0%2) by right;constructor<;>lia),Mt,De (ws.getD 7 0+(j:W')*(ws.getD 8 0%2)) 2 (by ext),C1,Fd,Zl,n,Cw,Eo,Bg,if_pos (show æ.length<AE from BY u (by ext)),Ze,MA,MB,Gc,Bf,Dn]
 by_cases o:j=0
 .subst o;have:=fin x t;unfold PP;erw[Za,A5,HH,IN,Eg,cond]at this ⊢;show this
 .let l:atI (ws.j D.u) (7+7*(j:W')+(x:W'))=Z (.u<|ws.β (7+7*j+x) 0):=by
   rw[<- (Le ws b (7+7*j+x) ∅)];congr 1
  let p:=IL (xs:=A) (i:=(j:W')) (Sa j) (Int.ofNat_lt.Ϛ m);rw[KP]at p;let q:=De (ws.β (7+7*j+x) 0) (A.β j 0) ∅;rw[ZBA ws A j x k.1]at q;let w:=HS (x:=7) (y:=(j:W')) (by left;decide);have:=fin (C5 ws A j x)<|kr ws A j x k.1 k.2;unfold PP;rw[show Dj (C5 ws A) j x=C5 ws A j x from if_neg o];erw[Za,A5,HH,IN,Eg,cond,show decide (0<(j:W'))=J' from decide_eq_true ∅,ZE,w,Mt,Ar,l,p,q,ZB,Ze,MA,MB]at this ⊢;show this
def
Yw(ws d:U W')(hz:∀z∈d,1<=z/\z<=6)(j x:I)(b:j<d.a)(c:x<6):Dj (C5 ws d) j x<6:=by
 unfold Dj;split
 .show c
 .let a:=Yv hz j b;show kr ws d j x a.1 a.2
def
kt(c:W')(ws:U W')(l:ws.a=40)(f:I->I->At)(m:MC c ws f)(d e g h:Sl)(t:U W')(hz:∀z∈t,1<=z/\z<=6):∀(n j x:I)(æ:U At)(i:Sl),j+n<=t.a->j+n<=4->x<6->æ.a+n<100->∃(a:Sl) (b:Sl),ZC (Zd 5) PP ((EJ j n).j λ(k:I)=>D.u k) [‹c›,XS ws,d,e,.τ (t.j D.u),i,g,h,.τ (æ.j aD),‹x›]=.α [‹c›,XS ws,d,e,.τ (t.j D.u),a,g,h,.τ ((æ++D6 f (C5 ws t) j x n).j aD),b]
 |0,j,x,æ,i,_,_,_,_=>#[i,_,by simp[ZC,D6];rfl]
 |n+1,j,x,æ,i,o,r,p,s=>by
  let(a,b,q):=kt c ws l f m d e g h t hz n (j+1) (Dj (C5 ws t) j x) (æ++[f j<|Dj (C5 ws t) j x]) ‹j› ∅ ∅ (Yw ws t hz j x (G4 o) p) (by simp;lia);apply⟨a,b,?_⟩;rw[JQ,Bf];rwa[ZC];rw[ZBY c ws l f m d e g h t hz j x (G4 o) (G4 r) p æ<|G4 s];simp only;rw[q];erw[D6,DV,List.singleton_append]
structure GL(ls:BM)(p:I):V' where
 n1:1<=ls.a
 n6:ls.a<=40
 p1:1<=p
 p4:p<=4
 len:∀l∈ls,l.a=p
 val:∀l∈ls,∀a∈l,EH (aD a)=J'/\Sm (aD a)/\∀i,a=.u i->(-10^40<i/\i<10^40)\/10^45<=i/\i<10^46
 hdn:(ls.j hd).μ
 fn:B5 (ls.flatMap (Ev 0))
def
ZAR(l:U At)(a:BM)(b:∀x∈l::a,x≠[]):NP (l::a)=J'↔(∀x∈l::a,x.a=l.a)/\((l::a).j hd).μ/\B5 ((l::a).flatMap (Ev 0)):=by
 change F2 l.a [] [] (l::a)=J'↔_
 rw[j7,j8 (Ev 0) _ _ _ _ List.nodup_nil ZzC b,DP,DP]
def
GL.ne{a:BM}{p:I}(h:GL a p):∀x∈a,x≠[]:=λx b e=>by
 have:=h.϶ x b;have:=h.p1;grind
def
GL.go{a:BM}{p:I}(h:GL a p):NP a=J':=by
 cases a with|nil=>rfl|cons l a=>
  rw[ZAR l a h.ne];show#[λx b=>by rw[h.϶ x b,h.϶ l Bo],h.hdn,h.fn]
def
GL.take{b:BM}{p:I}(h:GL b p)(n:I)(g:1<=n):GL (b.ϒ n) p:=by
 let c:∀x∈b.ϒ n,x∈b:=λx i=>List.mem_of_mem_take i;apply#[?_,?_,h.p1,h.p4,λl a=>h.϶ l<|c l a,λl a=>h.B l<|c l a,?_,?_]
 .rw[List.length_take];have:=h.n1;show Nat.le_min_of_le_of_le g this
 .rw[List.length_take];have:=h.n6;lia
 .rw[List.map_take];show h.hdn.sublist<|List.take_sublist _ _
 .intro k t j m o;let(l,a,e):=Qi.mp m;let(f,d,q):=Qi.mp o;show h.fn k t j (Qi.Ϛ #[l,c l a,e])<|Qi.Ϛ ⟨f,c f d,q⟩
def
Qj(f:I->I->At)(a:I->I->I):∀(n j x:I),(D6 f a j x n).a=n
 |0,_,_=>rfl
 |n+1,j,x=>by simp[D6,Qj f a n]
def JU(a:I->I->I)(j x:I):I->I
 |0=>Dj a j x
 |i+1=>JU a (j+1) (Dj a j x) i
def
Qk(f:I->I->At)(a:I->I->I):∀(i n j x:I),i<n->(D6 f a j x n)[i]?=Z (f (j+i) (JU a j x i))/\(D6 f a j x n).Θ (i+1)=D6 f a (j+i+1) (JU a j x i) (n-i-1)
 |_,0,_,_,h=>∅
 |0,n+1,j,x,_=>by simp[D6,JU]
 |i+1,n+1,j,x,h=>by
  let(b,c):=Qk f a i n (j+1) (Dj a j x) ∅;apply#[?_,?_]
  .erw[D6,HH,JU];rw[b,show j+1+i=j+(i+1) by lia]
  .erw[D6,List.drop_succ_cons,JU];rw[c,show j+1+i+1=j+(i+1)+1 by lia,show n-i-1=n+1-(i+1)-1 by lia]
def
Yx(ws c:U W')(hz:∀z∈c,1<=z/\z<=6):∀(i j x:I),j+i<c.a->x<6->JU (C5 ws c) j x i<6
 |0,j,x,a,b=>Yw ws c hz j x (Nat.lt_of_succ_le a) b
 |i+1,j,x,a,b=>Yx ws c hz i (j+1) _ ∅<|Yw ws c hz j x (G4 a) b
def
ZCK(c:W')(ws:U W')(f:I->I->At)(o:MC c ws f)(R:U W')(hz:∀z∈R,1<=z/\z<=6)(p m:I)(hp:R.a=p)(p1:1<=p)(p4:p<=4)(T:1<=m)(m6:m<=6)(a:I->I)(B:∀k,k<m->a k<6)(r:∀j k,j<m->k<m->a j=a k->j=k):GL ((Bl m).j λk=>D6 f (C5 ws R) 0 (a k) p) p:=by
 let C:∀(k i:I),k<m->i<p->(D6 f (C5 ws R) 0 (a k) p)[i]?=Z (f i<|JU (C5 ws R) 0 (a k) i)/\JU (C5 ws R) 0 (a k) i<6:=λk i s d=>by
  have:=(Qk f (C5 ws R) i p 0 (a k) d).1;rw[Iy]at this;show#[this,Yx ws R hz i 0 (a k) ∅<|B k s]
 apply#[by simpa using T,by rw[Bg,List.length_range];lia,p1,p4,λl u=>?_,λl u b P=>?_,?_,?_]
 .let(k,_,rfl):=Bm.mp u;show Qj _ _ _ _ _
 .let(k,s,rfl):=Bm.mp u;let(i,r,e):=Vi.mp P;let d:i<p:=by rw[Qj]at r;show r
  let(h,w):=C k i (Ex.mp s) d;rw[CG r,e]at h;injection h with h
  subst h;show#[(o i).1.B _ w,(o i).1.sm _ w,λn Y=>.U<|(o i).1.lt _ n w Y]
 .rw[B4];apply List.pairwise_map.Ϛ<|List.Pairwise.imp_of_mem (λ{x y} L M E e=>E ?_) (List.nodup_range (n:=m));let h0:∀k,hd (D6 f (C5 ws R) 0 (a k) p)=f 0 (a k):=λk=>by
   obtain⟨q,rfl⟩:∃q,p=q+1:=#[p-1,by show(Nat.sub_eq_iff_eq_add p1).mp rfl];rfl
  let e:f 0 (a x)=f 0 (a y):=by grind
  show r x y (Ex.mp L) (Ex.mp M)<|(o 0).1.inj _ _ (B x<|Ex.mp L) (B y<|Ex.mp M) e
 .rintro⟨i,v⟩ t t' h1 h2;let(l,u,e):=Qi.mp h1;let(l',G,e'):=Qi.mp h2;let(k,s,rfl):=Bm.mp u;let(N,H,rfl):=Bm.mp G;let(n,a1,A,K):=(Ys _ _ _).mp e;let(g,b1,S,Q):=(Ys _ _ _).mp e';erw[Iy]at a1 b1 A S K Q;subst a1;let F:g=i:=∅
  subst F;let d:g<p:=by
   have:=(Dk.mp A).1;rw[Qj]at this;show this
  let(h,w):=C k g (Ex.mp s) d;let(g3,g4):=C N g (Ex.mp H) d;rw[h]at A;rw[g3]at S;rw[K,Q,(Qk f (C5 ws R) g p 0 (a k) d).2,(Qk f (C5 ws R) g p 0 (a N) d).2,(o g).1.inj _ _ w g4 (by rw[Gs A,Gs S])]
def Ql(b:BM):V':=∀l∈b,∀a∈l,∀i,a=.u i->i<10^40
def
ZE4(c:W')(ws:U W')(f:I->I->At)(o:MC c ws f)(A:U W')(hz:∀z∈A,1<=z/\z<=6)(p m:I)(v:A.a=p)(p1:1<=p)(p4:p<=4)(w:1<=m)(x:m<=6)(a:I->I)(q:∀k,k<m->a k<6)(y:∀j k,j<m->k<m->a j=a k->j=k):Ql ((Bl m).j λk=>D6 f (C5 ws A) 0 (a k) p):=by
 intro l r b s n t;let(k,u,rfl):=Bm.mp r;let(i,d,e):=Vi.mp s;let h:i<p:=by rw[Qj]at d;show d
 let(g,_):=Qk f (C5 ws A) i p 0 (a k) h;rw[CG d,e]at g;injection g with g
 rw[Iy]at g;show((o i).1.lt _ n (Yx ws A hz i 0 (a k) ∅<|q k<|Ex.mp u)<|g ▸ t).2
def aW(ws:U W')(m k:I):I:=(((k:W')+ws.β 2 0)%(m:W')).ζ
def
Yy(ws:U W')(m k:I)(a:0<m):((k:W')+ws.β 2 0)%(m:W')=(aW ws m k:W'):=by
 have:=IM ((k:W')+ws.β 2 0) (show(m:W')≠0 by show Int.natCast_ne_zero_iff_pos.Ϛ a);unfold aW;show Eq.Γ<|TB this
def
ku(ws:U W')(m k:I)(a:0<m):aW ws m k<m:=by simp_all [JR,aW]
def
ZBu(c:W')(m j k:I)(a:m<=6)(b:j<m)(d:k<m)(e:((j:W')+c)%(m:W')=((k:W')+c)%(m:W')):j=k:=by
 have:m=1\/m=2\/m=3\/m=4\/m=5\/m=6:=∅
 rcases this with rfl|rfl|rfl|rfl|rfl|rfl<;>lia
def
ZwP(c:W')(ws:U W')(g:ws.a=40)(f:I->I->At)(l:MC c ws f)(u:U W')(hz:∀z∈u,1<=z/\z<=6)(p m k:I)(t:u.a=p)(p4:p<=4)(d:1<=m)(n:m<=6)(æ:BM)(o:æ.a<100)(h r s:Sl):∃a e b,Sv [‹c›,XS ws,‹m›,‹p›,.τ (u.j D.u),h,.τ (æ.j Aj),‹k›,r,s]=.α [‹c›,XS ws,‹m›,‹p›,.τ (u.j D.u),a,.τ ((æ++[D6 f (C5 ws u) 0 (aW ws m k) p]).j Aj),‹k›,e,b]:=by
 let i:=De ((k:W')+ws.β 2 0) (m:W')<|NQ.Ϛ d;rw[Yy ws m k<|Ej d]at i;let j:=IG p ∅;rw[Mw]at j;let(a,b,q):=kt c ws g f l ‹m› ‹p› (.τ<|æ.j Aj) ‹k› u hz p 0 (aW ws m k) [] h ∅ ∅ (BY (ku ws m k<|Ej d) n) (by simp;lia);erw[Dn,DP]at q;apply⟨a,.τ<|(D6 f (C5 ws u) 0 (aW ws m k) p).j aD,b,?_⟩;rwa[Sv,Zf,if_pos<|Fi _,ZX,Ar,show atI (ws.map D.int) 2=Z (.int<|ws.getD 2 0)from Le ws g 2 (LP rfl),i,C2,j,q,Eo,EB,show EE [.lst<|(D6 f (C5 ws u) 0 (aW ws m k) p).map aD]=Z (Aj<|D6 f (C5 ws u) 0 (aW ws m k) p)from rfl,Bg,if_pos (show æ.length<AE from BY o (by ext)),Gc]
def
kw(c:W')(ws:U W')(r:ws.a=40)(f:I->I->At)(s:MC c ws f)(A:U W')(hz:∀z∈A,1<=z/\z<=6)(p m:I)(t:A.a=p)(p4:p<=4)(u:1<=m)(v:m<=6):∀(n k:I)(æ:BM)(i o j l:Sl),æ.a+n<100->∃(a b d g:Sl),ZC (Zd 7) Sv ((EJ k n).j λ(k:I)=>D.u k) [‹c›,XS ws,‹m›,‹p›,.τ (A.j D.u),i,.τ (æ.j Aj),o,j,l]=.α [‹c›,XS ws,‹m›,‹p›,.τ (A.j D.u),a,.τ ((æ++(EJ k n).j λk=>D6 f (C5 ws A) 0 (aW ws m k) p).j Aj),b,d,g]
 |0,k,æ,i,o,j,l,_=>#[i,o,j,l,by simp[ZC]]
 |n+1,k,æ,i,o,j,l,h=>by
  let(w,x,y,e):=ZwP c ws r f s A hz p m k t p4 u v æ ∅ i j l;let(a,b,d,g,q):=kw c ws r f s A hz p m t p4 u v n (k+1) (æ++[D6 f (C5 ws A) 0 (aW ws m k) p]) w (.B<|.u k) x y (by simp;lia);apply⟨a,b,d,g,?_⟩;rw[JQ,Bf];rwa[ZC];rw[e];simp only;rw[q];erw[DV,List.singleton_append,Bf]
def
kx{l:U I}(h:l.a=8)(c:∀m∈l,1<=m/\m<=4)(x:W'):∃p:I,1<=p/\p<=4/\atI (l.j λm:I=>D.u m) (x%8)=Z (.u p):=by
 obtain⟨i,d,a⟩:∃i:I,x%8=(i:W')/\i<l.a:=#[(x%8).ζ,∅,∅];let b:=c _<|HE a;show⟨_,b.1,b.2,d ▸ ER (by simp[a])⟩
def
ZET(x:W'):∃p:I,1<=p/\p<=4/\atI [D.u 2,.u 1,.u 3,.u 2,.u 3,.u 4,.u 2,.u 3] (x%8)=Z (.u p):=kx (l:=[2,1,3,2,3,4,2,3]) rfl (by ext) x
def
ZwF(c:W'):∃h p,(GL h p/\Ql h)/\Sw [‹c›]=Z (.τ (h.j Aj)):=by
 let(a,w,g,_):=ZwD c;let(f,i):=nmd c a;obtain⟨m,x,b,d⟩:∃m:I,1+a.β 0 0%6=(m:W')/\1<=m/\m<=6:=#[(1+a.β 0 0%6).ζ,∅,∅,∅];let(p,p1,p4,y):=ZET<|a.getD 1 0;let o:=yz 1 (p:W') (by ext) (by ext) ∅<|(Int.toNat_lt' p1).mp p1;let l:(Bl ((p:W')-1).toNat).map (λ(k:I)=>D.u<|1+(k:W'))=(EJ 1<|p-1).map λ(k:I)=>D.u k:=by
  simp_all [List.range'_eq_map_range,B4]
 rw[l]at o;let(K,A,F,n,r):=kq a g ‹c› ‹m› ‹p› .no .no .no .no (p-1) 1 [(m:W')] .no (Ip rfl) ∅ rfl (λz s=>by erw[CC]at s;subst s;lia);let t:=IG m ∅;rw[Mw]at t;let(B,C,E,G,q):=kw c a g f i K n p m ∅ p4 b d m 0 [] A .no .no .no (by simp;lia);erw[Dn,DP]at q;apply#[(EJ 0 m).j λk=>D6 f (C5 a K) 0 (aW a m k) p,p,?_,?_]
 .rw[<- Mw];let u:∀k,k<m->aW a m k<6:=λk _=>by have:=ku a m k<|Ej b;show BY this d
  let v:∀j k,j<m->k<m->aW a m j=aW a m k->j=k:=λj k H L e=>ZBu (a.β 2 0) m j k d H L (by rw[Yy a m j<|Ej b,Yy a m k<|Ej b,e]);show⟨ZCK c a f i K n p m ∅ p1 p4 b d (aW a m) u v,ZE4 c a f i K n p m ∅ p1 p4 b d (aW a m) u v⟩
 .erw[Bf,Dn]at r;rwa[Sw,AT,HV,iu,ir,hW,F9,DP,w,Cw,My,JH,Mz,iq,hX,Ar,show atI (a.map D.int) 0=Z (.int<|a.getD 0 0)from Le a g 0 (Nat.zero_lt_succ 39),De (a.getD 0 0) 6 (by ext),x,ip,hY,Zf,if_pos (show(8:I)<=AE by ext),show atI (a.map D.int) 1=Z (.int<|a.getD 1 0)from Le a g 1 (Nat.one_lt_succ_succ 38),De (a.getD 1 0) 8 (by ext),y,io,hZ,if_pos (show(1:I)<=AE by ext),ZX,im,h7,C2,o,r,ik,h8,Zf,if_pos<|Fi _,ZX,ij,ie,t,q,ii,ig,EB,ZK]
abbrev LD(a:BM):D:=.X (a.j Aj)
def
ZFu(ns:U W')(k:I):∃a,(∃p,GL a p/\Ql a)/\SF [‹k›,#v[ns.j D.u]]=Z (LD a):=by
 let b:=HS (x:=1000) (y:=(k:W')) (by left;decide);let(a,p,c,d):=ZwF<|ns.β (1+(k:W')).ζ 0+1000*(k:W');apply⟨a,⟨p,c⟩,?_⟩;rwa[SF,JM #v[ns.map D.int] ns (.inl rfl) (1+(k:W'))<|Tt<|1+k,b,Cw,d]
def
ZHy(x:W'):∃m:I,1<=m/\m<=4/\atI [D.u 2,.u 1,.u 2,.u 3,.u 1,.u 2,.u 3,.u 4] (x%8)=Z (.u m):=kx (l:=[2,1,2,3,1,2,3,4]) rfl (by ext) x
structure BX(Ls:AW):V' where
 n1:1<=Ls.a
 n4:Ls.a<=4
 good:∀ls∈Ls,∃p,GL ls p
def
tk3(a:BM):SG [.B (LD a)]=Z (LD (a.ϒ 3)):=by
 have:=VV (a.j Aj) 3 (by ext);rwa[SG,Dw,DF,D0,this];simp_all
def
Ztn(ns:U W'):∃c,(BX c/\∀a∈c,Ql a)/\PQ [#v[ns.j D.u]]=Z (.τ (c.j LD)):=by
 let t:=JM #v[ns.j D.u] ns (.U rfl) 0 (by ext);let(m,u,n,w):=ZHy<|ns.getD (0:W').toNat 0;let x:=De (ns.getD (0:W').toNat 0) 8 (by ext);let y:=IG m ∅;let(c,z,d,o):=Yt (b:=Zd 0) (e:=SF) (ρ:=[.no,#v[ns.map D.int]]) (λ(k:I)=>D.u k) LD (λa=>∃p,GL a p/\Ql a) (Bl m) λk _=>by
  let(a,(p,f,E),G):=ZFu ns k;show#[a,_,#[p,f,E],rfl,G]
 rw[List.length_range]at d;let g:(8:I)<=AE:=by ext
 let i:((Bl m).j λ(k:I)=>D.u k).a<=AE:=by rw[Bg,List.length_range];show Bu n (by ext)
 let A:=Zy (b:=Zd 0) (e:=SG) (ρ:=[.no]) LD (λa=>LD<|a.take 3) c λa _=>#[_,rfl,tk3 a];rw[show c.j (λa=>LD<|a.take 3)=(c.map λa=>a.ϒ 3).j LD by rw[B4];rfl]at A;let r:=JP (m:W') 4;by_cases B:(m:W')=4
 .apply#[c.j λa=>a.ϒ 3,#[#[by rw[Bg];show le_of_le_of_eq u d.Γ,by rw[Bg];show le_of_eq_of_le d n,λa h=>?_],λa h=>?_],?_]
  .let(s,f,rfl):=Bm.mp h;let(p,j,_):=o s f;show#[p,j.ϒ 3 (by ext)]
  .let(s,f,rfl):=Bm.mp h;let(p,_,j):=o s f;show λl H=>j l<|List.mem_of_mem_take H
  .rw[decide_eq_true B]at r;rwa[PQ,AT,HV,WR,WQ,WI,F9,DP,t,Cw,x,Zf,if_pos g,Ar,w,My,JH,Mz,WP,WJ,Zi,y,if_pos i,Zm,Kq,z,WN,WK,r,if_pos (show(c.map LD).length<=AE by rw[Bg,d];show Bu n (by ext)),A,WM,WL,ZK,EB,ZX,GN,Kp]
 .apply#[c,#[#[by show le_of_le_of_eq u d.Γ,by show le_of_eq_of_le d n,λa h=>let⟨p,j,_⟩:=o a h;#[p,j]],λa h=>let⟨_,_,q⟩:=o a h;q],?_];rw[decide_eq_false B]at r;rwa[PQ,AT,HV,WR,WQ,WI,F9,DP,t,Cw,x,Zf,if_pos g,Ar,w,My,JH,Mz,WP,WJ,Zi,y,if_pos i,Zm,Kq,z,WN,WK,r,WM,WL,ZK,EB,ZX,GN,Kp]
def
ZGe(xs:U D)(c:1<=xs.a)(d:xs.a<=40)(b:q')(a:JL [#v[xs]]=Z (.B (.bl b))):K7 [#v[xs]]=Z (.B (.bl b)):=by
 simp[K7,AT,iG,show ¬ ((xs.length:W')<1) by lia,show ¬ (40:W')<(xs.length:W') by lia,a]
def
Zyl{l:U At}(b:1<=l.a)(c:l.a<=4)(d:∀a∈l,EH (aD a)=J'):D5 (Aj l)=J':=by grind [Aj,D5]
def
ZAr{a b:U At}(h:Aj a=Aj b):a=b:=by
 have:=Tr a b;grind [Tr]
def
ky:∀{a b:BM},a.j Aj=b.j Aj->a=b
 |[],[],_=>rfl
 |[],_::_,h=>nomatch h
 |_::_,[],h=>nomatch h
 |x::a,y::b,h=>by
  erw[Bf,Rm]at h;rw[ZAr h.1,ky h.2]
structure Ln(l:List At):V' where
 l1:1<=l.a
 l4:l.a<=4
 val:∀a∈l,EH (aD a)=J'/\Sm (aD a)
def
Ln.sml{l:U At}(h:Ln l):Qh (Aj l):=#[by rw[Bg];have:=h.l4;lia,λx b=>by let(a,c,rfl):=Bm.mp b;show(h.B a c).2]
def
ZzK(b:BM)(f:1<=b.a)(i:b.a<=40)(c:∀l∈b,Ln l):K7 [.B (LD b)]=Z (.B (.bl (NP b))):=by
 apply ZGe _ (by exists f) (by exists i) _ ?_;rcases ZmP (b.j Aj) (λx d=>by let(l,h,rfl):=Bm.mp d;show(c l h).sml) (by rw[Bg];lia)with⟨a,_⟩|⟨_,j,e,_,g⟩
 .have:(b.j Aj).ϝ D5=J':=Dp.Ϛ λx d=>by
   let(l,h,rfl):=Bm.mp d;show Zyl (c l h).l1 (c l h).l4 λa k=>((c l h).B a k).1
  rw[this]at a;ext a
 .grind [ky]
def
GL.ln{c:BM}{p:I}(h:GL c p):∀l∈c,Ln l:=λl b=>#[h.϶ l b ▸ h.p1,h.϶ l b ▸ h.p4,λa d=>#[(h.B l b a d).1,(h.B l b a d).2.1]]
def
GL.il{a:BM}{p:I}(h:GL a p):K7 [.B (LD a)]=Z (.B (.bl J')):=by
 rw[ZzK a h.n1 (by have:=h.n6;lia) h.ln,h.go]
def
ZAU{a:Type}(G:a->D)(F:a->q')(xs:U a)(h:∀x∈xs,K7 [.B (G x)]=Z (.B (.bl (F x)))):ZG (Zd 0) (λ_=>Z J') SW [.no] (xs.j G)=Z ((xs.j F).j D.bl):=by
 have:=Zy (b:=Zd 0) (e:=SW) (ρ:=[.no]) G (λx=>D.bl<|F x) xs λx c=>#[[.B<|G x],rfl,by rwa[SW,h x c,Cw]];simp_all
def
ZCy{a:Type}(G:a->D)(F:a->q')(xs:U a)(c:1<=xs.a)(b:xs.a<=4)(h:∀x∈xs,K7 [.B (G x)]=Z (.B (.bl (F x)))):PZ [#v[xs.j G]]=Z (.B (.bl (xs.ϝ F))):=by
 simp[PZ,AT,iH,show ¬ ((xs.length:W')<1) by lia,show ¬ (4:W')<(xs.length:W') by lia,show xs.length<=AE from Bu b (by ext),Zm,ZAU G F xs h,-B4]
def
BX.al{a:AW}(h:BX a):PZ [#v[a.j LD]]=Z (.B (.bl J')):=by
 rw[ZCy LD (λ_=>J') a h.n1 h.n4 λb c=>by let(p,d):=h.good b c;show d.il];simp
abbrev Lf(a:AW):D:=.Q (a.j λ_=>D.u 0)
def
kz{a:AW}(h:BX a):PH [#v[a.j LD]]=Z (.B (Lf a)):=by
 rwa[PH,AT,HV,gt,My,Mz,C6,Zi,Zf,if_pos (show(a.map LD).length<=AE by rw[Bg];show Bu h.n4 (by ext)),Zm,JH,Zy (b:=Zd 0) (e:=gq) (ρ:=[.no]) LD (λ_=>D.int 0) a λc _=>#[[.val<|LD c],rfl,rfl],show EE [.lst<|a.map λ_=>D.int 0]=Z (Lf a)from rfl]
structure TO{α:Type}(lt:α->α->q'):V' where
 asym:∀a b,lt a b=J'->lt b a=O'
 neg:∀a b c,lt a c=J'->lt a b=J'\/lt b c=J'
 anti:∀a b,lt a b=O'->lt b a=O'->a=b
def NR{a:Type}(lt:a->a->q')(x:a):U a->U a
 |[]=>[x]
 |y::r=>if lt x y then x::y::r else y::NR lt x r
def ZA{a:Type}(lt:a->a->q'):U a->U a
 |[]=>[]
 |x::r=>NR lt x (ZA lt r)
def
kA{a:Type}(lt:a->a->q')(x:a):∀l,(NR lt x l).Perm (x::l)
 |[]=>.χ _
 |y::r=>by
  unfold NR;split
  .show .χ _
  .show((kA lt x r).Ο y).I<|.swap x y r
def
ZD{a:Type}(lt:a->a->q'):∀l,(ZA lt l).Perm l
 |[]=>.χ _
 |x::r=>(kA lt x _).I<|(ZD lt r).Ο x
def
kC{a:Type}(f:a->D)(lt:a->a->q')(b:D->D->q')(x:a):∀l:U a,(∀y∈l,b (f x) (f y)=lt x y)->Jx b (f x) (l.j f)=(NR lt x l).j f
 |[],_=>rfl
 |y::r,h=>by
  erw[Bf,Jx,NR,h y Bo,kC f lt b x r λz c=>h z<|Bv _ c];split<;>rfl
def
kF{a:Type}(f:a->D)(lt:a->a->q')(b:D->D->q'):∀l:U a,(∀x∈l,∀y∈l,b (f x) (f y)=lt x y)->Fu b (l.j f)=(ZA lt l).j f
 |[],_=>rfl
 |x::r,h=>by
  let d:=kF f lt b r λy c z e=>h y (Bv _ c) z<|Bv _ e;erw[Bf,Fu,ZA,d];show kC f lt b x _ λy c=>h x Bo y<|Bv _<|(ZD lt r).subset c
def
Yz{l:Type}{F:U Sl->O Rv}(f:l->D){lt:l->l->q'}(T:TO lt)(b:q')(xs:U l)(few:xs.a<500)(m:l->D)(tells:∀a∈xs,F [.B (f a)]=Z (.B (m a)))(mode:∀a∈xs,CF b (m a))(cmp:∀a∈xs,∀c∈xs,ltN 6 (m a) (m c)=Z (lt a c)):Ge F (xs.j f)=Z ((ZA lt xs).j f):=by
 let n:∀a∈xs,D2 F (f a)=m a:=λa d=>by unfold D2;rw[tells a d];rfl
 let j:∀a∈xs,∀c∈xs,CZ F (f a) (f c)=lt a c:=λa d c g=>dM (by rw[n a d,n c g];show cmp a d c g)
 let ok:Br F (xs.j f):={
  few:=by simp;lia
  tells:=λx i=>by let(a,d,rfl):=Bm.mp i;show#[_,tells a d]
  mode:=#[b,λx i=>by let(a,d,rfl):=Bm.mp i;rw[n a d];show mode a d]
  cmp:=λx i y k=>by
   grind
  asym:=λx i y k h=>by
   let(a,d,rfl):=Bm.mp i
   let(c,g,rfl):=Bm.mp k
   rw[j a d c g]at h;rw[j c g a d];show T.asym a c h
  neg:=λx i y k z r h=>by
   let(a,d,rfl):=Bm.mp i
   let(c,g,rfl):=Bm.mp k
   let(e,o,rfl):=Bm.mp r
   rw[j a d e o]at h;rw[j a d c g,j c g e o];show T.neg a c e h
  anti:=λx i y k p q=>by
   let(a,d,rfl):=Bm.mp i
   let(c,g,rfl):=Bm.mp k
   rw[j a d c g]at p;rw[j c g a d]at q;rw[T.anti a c p q]}
 rw[vn ok,kF f lt _ xs j]
def DB{b:Type}[DecidableEq b]:O b->U b->U b
 |_,[]=>[]
 |p,a::r=>if p=Z a then DB p r else a::DB (Z a) r
def
TC{c:Type}[DecidableEq c]:∀(l:U c)(p:O c),l.μ->(∀a,p=Z a->a∉l)->DB p l=l
 |[],_,_,_=>rfl
 |a::r,p,h,d=>by
  let(f,g):=Hv.mp h;unfold DB;rw[if_neg<|λe=>d a e Bo,TC r (Z a) g λb i=>by ext i;show f]
def
YA{c:Type}[DecidableEq c]:∀(l:U c)(p:O c)(a:c),a∈DB p l->a∈l
 |[],_,_,h=>h
 |b::r,p,a,h=>by
  unfold DB at h;split at h
  .show Bv _<|YA r p a h
  .rcases BJ.mp h with rfl|h
   .show Bo
   .show Bv _<|YA r _ a h
def
YB{c:Type}[DecidableEq c]:∀(l:U c)(p:O c)(a:c),a∈l->a∈DB p l\/p=Z a
 |[],_,_,h=>by cases h
 |b::r,p,a,h=>by
  unfold DB;split
  .next e=>
   rcases BJ.mp h with rfl|h
   .show .φ e
   .show YB r p a h
  .rcases BJ.mp h with rfl|h
   .show .U Bo
   .rcases YB r (Z b) a h with h|h
    .show .U<|Bv _ h
    .grind [Bo]
def
YC{b:Type}[DecidableEq b](l:U b)(a:b):a∈DB J l↔a∈l:=by grind [YA,YB]
def HW:At->At->q'
 |.non,.non=>O'
 |.non,_=>J'
 |.int i,.int j=>decide (i<j)
 |.int _,.str _=>J'
 |.str x,.str y=>decide (x.ϱ.J<y.ϱ.J)
 |_,_=>O'
def
ZHz{x y:Ae}(h:x.ϱ.J=y.ϱ.J):x=y:=by
 obtain⟨⟨a⟩⟩:=x;simp_all
def
JV:TO HW:={
 asym:=λa b h=>by
  ext a<;>ext b<;>erw[HW,decide_eq_true_eq,decide_eq_false_iff_not,FQ]at h ⊢
  .show Int.lt_asymm h
  .show List.lt_asymm h
 neg:=λa b c h=>by
  ext a<;>ext c<;>erw[HW,decide_eq_true_eq,FQ]at h<;>ext b<;>erw[HW,decide_eq_true_eq,FQ,true_or,or_true,or_false]
  .lia
  .grind [List.lt_of_le_of_lt,List.not_lt]
 anti:=λa b d e=>by
  ext a<;>ext b<;>erw[HW,decide_eq_false_iff_not,Bool.true_eq_false]at d e
  .rfl
  .rw[At.u.injEq];lia
  .rw[At.ω.injEq];show ZHz (List.le_antisymm (List.not_lt.mp e) (List.not_lt.mp d))}
def Bp:U At->U At->q'
 |[],[]=>O'
 |[],_::_=>J'
 |_::_,[]=>O'
 |a::r,b::s=>if a=b then Bp r s else HW a b
def
kG:∀a b,Bp a b=J'->Bp b a=O'
 |[],[],_=>rfl
 |[],_::_,_=>rfl
 |_::_,[],h=>by cases h
 |a::r,b::s,h=>by
  unfold Bp at h ⊢;by_cases e:a=b
  .subst e;erw[if_true]at h ⊢;show kG r s h
  .rw[if_neg e]at h;rw[if_neg<|λz=>e z.Γ];show JV.asym a b h
def
kH:∀a b c,Bp a c=J'->Bp a b=J'\/Bp b c=J'
 |[],[],c,h=>.φ h
 |[],_::_,_,_=>.U rfl
 |_::_,_,[],h=>by cases h
 |_::_,[],_::_,_=>.φ rfl
 |a::r,b::s,c::t,h=>by
  unfold Bp at h ⊢;by_cases e:a=b
  .subst e;by_cases d:a=c
   .erw[d,if_true]at h ⊢;show kH r s t h
   .rw[if_neg d]at h;right;rw[if_neg d];show h
  .rw[if_neg e];by_cases d:b=c
   .subst d;rw[if_neg e]at h;show .U h
   .rw[if_neg d];by_cases f:a=c
    .subst f;cases g:HW a b with|true=>show .U rfl|false=>
      cases hd:HW b a with
      |true=>show .φ rfl
      |false=>show absurd (JV.anti a b g hd) e
    .rw[if_neg f]at h;show JV.neg a b c h
def
kI:∀a b,Bp a b=O'->Bp b a=O'->a=b
 |[],[],_,_=>rfl
 |[],_::_,h,_=>by cases h
 |_::_,[],_,h=>by cases h
 |a::r,b::s,c,d=>by
  unfold Bp at c d;by_cases e:a=b
  .subst e;erw[if_true]at c d;rw[kI r s c d]
  .rw[if_neg e]at c;rw[if_neg<|λz=>e z.Γ]at d;show absurd (JV.anti a b c d) e
def
Fe:TO Bp:=#[kG,kH,kI]
def Dt:At->D
 |.non=>.Q [.u 0,.u 0]
 |.int i=>.Q [.u 1,.u i]
 |.str x=>.Q [.u 2,.ω x]
def
ZDU(n:I)(a b:At):ltN (n+2) (Dt a) (Dt b)=Z (HW a b):=by
 ext a<;>ext b<;>simp[Dt,HW]
 .intro e;show Int.le_of_eq e.Γ
 .intro e;subst e;simp
def
kJ(a b:At):Bc (Dt a) (Dt b)=decide (a=b):=by
 ext a<;>ext b<;>simp[Dt]
def
TD(n:I)(a:At):AL (n+1) (Dt a)=J':=by ext a<;>ext n<;>rfl
def
YD(n:I):∀l m:U At,Gb (ltN (n+2)) (l.j Dt) (m.j Dt)=Z (Bp l m)
 |[],[]=>rfl
 |[],_::_=>rfl
 |_::_,[]=>rfl
 |a::r,b::s=>by
  rwa[Gb,F0,TD 11 a,TD 11 b,kJ a b,ZDU n a b,YD n r s,Bp,decide_eq_true_eq];grind
def
TF{b:Type}[DecidableEq b]:∀(l:U b)(p:O b),(DB p l).a<=l.a
 |[],_=>A4 _
 |a::r,p=>by
  unfold DB;split
  .show KH<|TF r p
  .show QP<|TF r _
def mn(m y:W'):W':=if y<m then y else m
def mx(m y:W'):W':=if y>m then y else m
def
ZFA(m y:W'):mn m y=min m y:=by grind [mn]
def
ZF2(m y:W'):mx m y=max m y:=by grind [mx]
def cel(x:W')(xs:U W'):D:=.Q [.u (xs.a+1:I),.u ((x::xs).sum),.u (xs.Ϗ mn x),.u (xs.Ϗ mx x)]
def ZDx(s:Sl)(ns:U W'):V':=s=#v[ns.j D.u]\/s=.lent (ns.j D.u)
def
ZtV(s:Sl)(x:W')(xs:U W')(h:ZDx s (x::xs)):Sf [s]=Z (.B (cel x xs)):=by
 rcases h with rfl|rfl<;>(simp[Sf,AT,gu,Ik,UZ,U0,cel,show(4:I)<=AE by ext];show#[rfl,rfl])
def
ZG1:(4:I)<=AE:=by ext
def
kK(a:W'):∀(ys:U W')(b:W'),ys.Ϗ mn (mn a b)=mn a (ys.Ϗ mn b)
 |[],b=>rfl
 |y::ys,b=>by
  erw[Md,show mn (mn a b) y=mn a (mn b y) by erw[ZFA];show Int.min_assoc a b y,kK a ys]
def
kL(a:W'):∀(ys:U W')(b:W'),ys.Ϗ mx (mx a b)=mx a (ys.Ϗ mx b)
 |[],b=>rfl
 |y::ys,b=>by
  erw[Md,show mx (mx a b) y=mx a (mx b y) by erw[ZF2];show Int.max_assoc a b y,kL a ys]
def
kM(x y:W')(xs ys:U W'):NG [.B (cel x xs),.B (cel y ys)]=Z (.B (cel x (xs++y::ys))):=by
 simp[NG,AT,gv,cel,atI,Ey,ZG1,show(xs++y::ys).foldl mn x=mn (xs.foldl mn x) (ys.foldl mn y) by rw[List.foldl_append,Md,kK],show(xs++y::ys).foldl mx x=mx (xs.foldl mx x) (ys.foldl mx y) by rw[List.foldl_append,Md,kL]];apply#[∅,by show Int.add_assoc x xs.sum<|y+ys.sum,rfl,rfl]
def FD(æ:Bj)(b:U (At×D)):Bj:=b.Ϗ (λa p=>ZT a (.at p.1) p.2) æ
def
YE(a:At):DT (aD a)=Z (.at a):=OU<|.at a
def
Qm{a:At}{v:D}(h:∀p∈é,Fs p.1=J'):∀p∈ZT é (.at a) v,Fs p.1=J':=λp b=>by
 rcases uO b with b|rfl
 .show h p b
 .rfl
def
kN:∀(a:U (At×D))(æ:Bj),(∀p∈æ,Fs p.1=J')->æ.a+a.a<=100000->Fv æ (a.j λp=>.Q [aD p.1,p.2])=Z (FD æ a)
 |[],æ,_,_=>rfl
 |p::a,æ,h,b=>by
  erw[Cr]at b;let c:=Rp æ (.at p.1) p.2;rwa[Fv,YE,Gz p.1 h,show æ.length<AE from BY (show æ.length<100000 by show G4 b) (by ext),kN a (ZT æ (.at p.1) p.2) (Qm h) ∅];rfl
def
YF:∀(a:U (At×D))(æ:Bj),(∀p∈æ,Fs p.1=J')->∀p∈FD æ a,Fs p.1=J'
 |[],_,h=>h
 |p::a,æ,h=>YF a _<|Qm h
def
kO{a:At}:∀(b:U (At×D))(æ:Bj),a∉b.j (·.1)->Zo (FD æ b) (.at a)=Zo æ (.at a)
 |[],_,_=>rfl
 |p::b,æ,h=>by
  rw[Bf,BJ,not_or]at h;change Zo (FD (ZT æ (.at p.1) p.2) b) _=_
  rw[kO b (ZT æ (.at p.1) p.2) h.2,Nl,if_neg<|λe=>h.1 (KT.at.inj e).Γ]
def
kP{a:At}{v:D}:∀(b:U (At×D))(æ:Bj),(b.j (·.1)).μ->(a,v)∈b->Zo (FD æ b) (.at a)=Z v
 |p::b,æ,c,h=>by
  rw[Bf,Hv]at c;change Zo (FD (ZT æ (.at p.1) p.2) b) _=_
  rcases BJ.mp h with rfl|h
  .rw[kO b _ c.1,Nl,if_pos rfl]
  .show kP b _ c.2 h
def
kQ(a:At):∀(b:U (At×D))(æ:Bj),(Zo (FD æ b) (.at a)).υ=((Zo æ (.at a)).υ||decide (a∈b.j (·.1)))
 |[],æ=>by simp[FD]
 |p::b,æ=>by
  let c:=kQ a b<|ZT æ (.at p.1) p.2;show(Zo (FD (ZT æ (.at p.1) p.2) b) _).υ=_
  rw[c,Nl];by_cases e:p.1=a
  .subst e;simp
  .let d:¬ KT.at p.1=KT.at a:=λz=>e<|KT.at.inj z;let f:¬ a=p.1:=λz=>e z.Γ;rw[if_neg d,Bool.eq_iff_iff];simp[f]
def
ZxU{b:U (At×D)}{a:At}{v:D}(c:(b.j (·.1)).μ)(h:(a,v)∈b):Dq (.X (Zb (FD [] b)) .d) (aD a)=Z v:=by
 let e:=Gz (é:=FD [] b) a (YF b [] λ_ h=>nomatch h);rw[Ro,YE];erw[Eg,e,if_true,kP b [] c h]
def
ZAm(neg:q')(b:U (At×D))(a:At):Dy neg (aD a) (.X (Zb (FD [] b)) .d)=Z (.bl (neg != decide (a∈b.j (·.1)))):=by
 rw[L6,YE];rwa[Gz (é:=FD [] b) a (YF b [] λ_ h=>nomatch h),kQ a b []];rfl
def
kR{a:Type}(l:U a):D1 [.X ((l.j λ_=>J').j D.bl)]=Z (.bl J'):=by
 erw[D1,f3,LN];simp_all
def
Zp{a n:I}{g:Av}{b:U Sl}{r:Rv}(h:b.a=a)(e:g (b++Ct (n-a) .no)=.Ϯ r):AT a n g b=Z r:=by
 unfold AT;simp_all
def
Zya{a:Type}(x:a)(xs:U a):atI (x::xs) 0=Z x:=by
 have:(0:W')<(xs.a:W')+1:=Int.succ_ofNat_pos xs.a;simp[atI,Ey,this]
def
Zyx{a:Type}(xs:U a)(x:a):atI (xs++[x]) (-1)=Z x:=by
 let b:(-1+((xs.a:W')+1)).ζ=xs.a:=∅
 have c : -((xs.a:W')+1) <= -1:=∅
 simp[atI,Ey,b,c]
def
Zou(a:At):So [.B (aD a)]=Z (.B (Dt a)):=by
 ext a<;>simp[So,AT,hT,Hf,Sd,aD,Dt,show(2:I)<=AE by ext]
def
kS(l:U At)(h:l.a<=1000):NJ [.B (Aj l)]=Z (.B (.Q (l.j Dt))):=by
 let c:=Zy (b:=Zd 0) (e:=WC) (ρ:=[.no]) aD Dt l λa _=>#[[.B<|aD a],rfl,by
  have:=Zou a;rwa[WC,this,Cw]]
 simp[NJ,AT,iv,Aj,show l.length<=AE from Bu h (by ext),Zm,c,-B4]
def
TH(s0:Sl):∀(c æ:BM)(j:Sl),æ.a+c.a<100000->∃a,ZC (Zd 2) K8 (c.j Aj) [s0,.τ (æ.j Aj),j]=.α [s0,.τ ((æ++DB æ.getLast? c).j Aj),a]
 |[],æ,j,_=>#[j,by simp[ZC,DB]]
 |l::c,æ,j,d=>by
  erw[Cr]at d;let f:æ.a<AE:=BY (show æ.a<100000 by show G4 d) (by ext);let n:Ks (Z<|.u 1)=Z (.u (-1)):=rfl;rwa[ZC];rcases List.eq_nil_or_concat æ with rfl|⟨pre,x,rfl⟩
  .let(a,e):=TH s0 c [l] (.B<|Aj l) (by simp;lia);apply⟨a,?_⟩;let k:K8 [s0,.τ<|[].j Aj,.B<|Aj l]=.α [s0,.τ<|[l].j Aj,.B<|Aj l]:=by
    simp[K8,show(0:I)<AE by ext]
   show e
  .rw[List.concat_eq_append]at d f ⊢;let g:Ar (.X<|(pre++[x]).j Aj) (.u (-1))=Z (Aj x):=by
    rw[Gc];show Zyx _ _
   let h:Z4 (Z<|.X<|(pre++[x]).j Aj)=Z J':=by simp
   let i:=Tr x l;let b:(pre++[x]).getLast?=Z x:=by simp
   by_cases m:x=l
   .subst m;let(a,e):=TH s0 c (pre++[x]) (.B<|Aj x)<|G7 d;apply⟨a,?_⟩;let k:K8 [s0,.τ<|(pre++[x]).j Aj,.B<|Aj x]=.α [s0,.τ<|(pre++[x]).j Aj,.B<|Aj x]:=by
     rwa[K8,h,n,g,i]
    rw[k,b,DB,if_pos rfl,<- b];show e
   .let(a,e):=TH s0 c (pre++[x]++[l]) (.B<|Aj l) (by simp at d ⊢;lia);apply⟨a,?_⟩;let k:K8 [s0,.τ<|(pre++[x]).j Aj,.B<|Aj l]=.α [s0,.τ<|(pre++[x]++[l]).j Aj,.B<|Aj l]:=by
     rw[show((pre++[x]++[l]).j Aj)=(pre++[x]).j Aj++[Aj l] by simp];rwa[K8,h,n,g,i,m,decide_false,Eo,Bg,f]
    rw[k,b,DB,if_neg (by exists m)];rw[show(pre++[x]++[l]).getLast?=Z l by simp]at e;rw[show pre++[x]++l::DB (Z l) c=pre++[x]++[l]++DB (Z l) c by simp];show e
def
Qn(s:Sl)(b:BM)(f:s=#v[b.j Aj]\/s=.lent (b.j Aj))(g:b.a<500)(d:∀l∈b,l≠[]/\l.a<=1000):PY [s]=Z (.τ ((DB J (ZA Bp b)).j Aj)):=by
 let c:=Yz (F:=NJ) Aj Fe O' b g (λl=>.Q<|l.map Dt) (λl h=>kS l (d l h).2) (λl h=>by
  cases l with
  |nil=>show absurd rfl (d [] h).1
  |cons a r=>ext a<;>show#[_,_,rfl]) (λl _ m _=>YD 3 l m)
 let(i,e):=TH s (ZA Bp b) [] .no (by rw[(ZD Bp b).ϋ];simp;lia);erw[Dn,DP,List.getLast?_nil]at e;apply Zp rfl ?_;change Xb [s,.no,.no]=_
 rcases f with rfl|rfl<;>rwa[Xb,ZX,C2,Me,EB,ZK,show Zf (Z ([]:U D))=Z []from rfl,c,e]
def
Lg(l:U At)(j:I)(h:l.a<=1000):Gj [.B (Aj l),‹j›]=Z (.B (aD (l.β j .Ε))):=by
 by_cases a:j<l.a
 .have:Ar (Aj l) (.u j)=Z (aD<|l.β j .Ε):=by
   show ER (by simp[CG a,GB])
  simp[Gj,AT,Wa,-Ar,-Zv,show Zv [Aj l]=Z (.int l.length) by simp[Aj],this,Int.ofNat_lt.mpr a]
 .rw[show l.β j .Ε=.Ε by grind];simp[Gj,AT,Wa,-Ar,-Zv,show Zv [Aj l]=Z (.int l.length) by simp[Aj],show ¬ (j:W')<(l.length:W') by lia,aD]
abbrev B9:=U At×W'×U W'
def Zu(æ:U B9):BM:=æ.j (·.1)
def ZR:U B9->U At->O (W'×U W')
 |[],_=>J
 |e::r,k=>if e.1=k then Z e.2 else ZR r k
def D7:U B9->U At->W'->U B9
 |[],k,x=>[(k,x,[])]
 |e::r,k,x=>if e.1=k then(e.1,e.2.1,e.2.2++[x])::r else e::D7 r k x
def ZO(v:W'×U W'->D)(e:B9):KT×D:=(.Q e.1,v e.2)
def
Cn{k:U At}:∀{æ:U B9},ZR æ k=J↔k∉Zu æ
 |[]=>by simp[ZR,Zu]
 |e::r=>by
  let a:=Cn (k:=k) (æ:=r);grind [ZR,Zu]
def
Lh(v:W'×U W'->D)(k:U At):∀æ:U B9,Zo (æ.j (ZO v)) (.Q k)=(ZR æ k).j v
 |[]=>rfl
 |e::r=>by
  let a:=Lh v k r;erw[Bf,Zo,ZR,ZO,KT.tup.injEq];grind
def
kT{k:KT}{w:D}:∀{é:Bj},Zo é k=J->E9 é k w=é
 |[],_=>rfl
 |p::r,h=>by
  unfold Zo at h;by_cases e:p.1=k
  .rw[if_pos e]at h;ext h
  .rw[if_neg e]at h;unfold E9;rw[if_neg e,kT h]
def
kU(v:W'×U W'->D){k:U At}{x:W'}{p:W'×U W'}:∀{æ:U B9},(Zu æ).μ->ZR æ k=Z p->E9 (æ.j (ZO v)) (.Q k) (v (p.1,p.2++[x]))=(D7 æ k x).j (ZO v)
 |e::r,a,h=>by
  erw[Zu,Bf,Hv]at a;unfold ZR at h;by_cases c:e.1=k
  .rw[if_pos c]at h;ext h;let b:Zo (r.j<|ZO v) (.Q k)=J:=by
    rw[Lh,Cn.Ϛ<|c ▸ a.1];rfl
   rwa[E9,D7,ZO,c,kT b,KT.tup.injEq]
  .rw[if_neg c]at h;erw[Bf,E9,D7,ZO,c,if_false,KT.tup.injEq];rw[kU v (x:=x) a.2 h]
def
kW{k:U At}{x:W'}:∀{æ:U B9},ZR æ k=J->D7 æ k x=æ++[(k,x,[])]
 |[],_=>rfl
 |e::r,h=>by
  unfold ZR at h;by_cases c:e.1=k
  .rw[if_pos c]at h;ext h
  .rw[if_neg c]at h;unfold D7;rw[if_neg c,kW h];rfl
def
ZA8(v:W'×U W'->D){k:U At}{x:W'}{p:W'×U W'}{æ:U B9}(a:(Zu æ).μ)(h:ZR æ k=Z p):ZT (æ.j (ZO v)) (.Q k) (v (p.1,p.2++[x]))=(D7 æ k x).j (ZO v):=by
 unfold ZT;rw[Lh,h];show kU v a h
def
ZAC(v:W'×U W'->D){k:U At}{x:W'}{æ:U B9}(h:ZR æ k=J):ZT (æ.j (ZO v)) (.Q k) (v (x,[]))=(D7 æ k x).j (ZO v):=by
 unfold ZT;rw[Lh,h,kW h];simp[ZO]
def
YG(k:U At)(x:W'):∀æ:U B9,Zu (D7 æ k x)=if k∈Zu æ then Zu æ else Zu æ++[k]
 |[]=>rfl
 |e::r=>by
  let a:=YG k x r;grind [D7,Zu]
open J in
def
Zxa{k:U At}{x:W'}{æ:U B9}(h:(Zu æ).μ):(Zu (D7 æ k x)).μ:=by
 rw[YG];split
 .show h
 .next m=>show L3.Ϛ #[h,by simp,λa d b c=>by simp at c;subst c;show λe=>m<|e ▸ d]
def
kX(k:U At)(x:W'):∀æ:U B9,(D7 æ k x).a<=æ.a+1
 |[]=>by simp[D7]
 |e::r=>by
  have:=kX k x r;unfold D7;split<;>simp<;>lia
def
ZBT{k k':U At}{x:W'}{æ:U B9}(h:k'∈Zu (D7 æ k x)):k'=k\/k'∈Zu æ:=by grind [YG]
def NT:U B9->I
 |[]=>0
 |e::r=>e.2.2.a+1+NT r
def
kY(k:U At)(x:W'):∀æ:U B9,NT (D7 æ k x)=NT æ+1
 |[]=>rfl
 |e::r=>by
  have:=kY k x r;unfold D7;split<;>simp[NT]<;>lia
def
YH(v:W'×U W'->D)(k:U At)(æ:U B9):DU (.Q k) (æ.j (ZO v))=J':=L7 k λp a=>by
 let(e,_,rfl):=Bm.mp a;rfl
def
Hi(l:U At):DT (Aj l)=Z (.Q l):=OU<|.Q l
abbrev vC(p:W'×U W'):D:=cel p.1 p.2
abbrev EL(v:W'×U W'->D)(æ:U B9):Sl:=.τ (Zb (æ.j (ZO v))) .d
def Zc(r:U At×W'):D:=.Q [Aj r.1,.u r.2]
def MD(a:U (U At×W'))(æ:U B9):U B9:=a.Ϗ (λæ r=>D7 æ r.1 r.2) æ
structure BH(æ:List B9)(n m:I):V' where
 nd:(Zu æ).μ
 len:æ.a<=m
 sz:NT æ<=m
 kl:∀k∈Zu æ,k.a=n
def
BH.add{æ:U B9}{n m:I}(h:BH æ n m){k:U At}(b:k.a=n)(x:W'):BH (D7 æ k x) n (m+1):=#[Zxa h.nd,by have:=kX k x æ;have:=h.϶;lia,by rw[kY];have:=h.sz;show Nat.add_le_add_right this 1,λd a=>by
  rcases ZBT a with rfl|c
  .show b
  .show h.kl _ c]
def
BH.nil(n:I):BH [] n 0:=#[by simp[Zu],by simp,by simp[NT],λk a=>nomatch a]
def
BH.tab:∀(a:U (U At×W')){æ:U B9}{n m:I},BH æ n m->(∀r∈a,r.1.a=n)->BH (MD a æ) n (m+a.a)
 |[],_,_,_,h,_=>h
 |r::a,æ,n,m,h,b=>by
  have:=BH.tab a (h.add (b r Bo) r.2) λq c=>b q<|Bv _ c;rw[Cr,show m+(a.a+1)=m+1+a.a by show Eq.Γ (Nat.succ_add_eq_add_succ m a.a)];show this
def EZ(æ:U B9):U D:=(ZA Bp (Zu æ)).j λk=>.Q [Aj k,vC ((ZR æ k).β (0,[]))]
def
kZ{æ:U B9}{k:U At}(h:k∈ZA Bp (Zu æ)):∃p,ZR æ k=Z p:=by
 cases a:ZR æ k with
 |some p=>show#[p,rfl]
 |none=>show absurd ((ZD Bp<|Zu æ).Ϫ.mp h)<|Cn.mp a
def
k6(v:W'×U W'->D)(æ:U B9):((æ.j (ZO v)).j λp=>kD p.1)=(Zu æ).j Aj:=by
 unfold Zu;rw[B4,B4];rfl
def
TJ(v:W'×U W'->D){æ:U B9}{k:U At}{p:W'×U W'}(h:ZR æ k=Z p):Dq (.X (Zb (æ.j (ZO v))) .d) (Aj k)=Z (v p):=by simp_all [Hi,YH,Lh]
abbrev LG:=U (U (U At)×I)
def Qo(q:U (U At)×I)(a:At):At:=((q.1.find? λl=>decide (hd l=a)).β []).β q.2 .Ε
def Hj:LG->U At->U At
 |q::Q,a::s=>Qo q a::Hj Q s
 |_,_=>[]
def JX(q:U (U At)×I):U (At×D):=q.1.j λl=>(hd l,aD (l.β q.2 .Ε))
def DQ(q:U (U At)×I):D:=.X (Zb (FD [] (JX q))) .d
abbrev Ax(g:U I):D:=.Q (g.j λ(j:I)=>D.u j)
inductive AR:List (BM)->List At->V' where
 |nil:AR [] []
 |cons {ls Ls a as}:a∈ls.j hd->AR Ls as->AR (ls::Ls) (a::as)
def
AR.len{a:AW}{s:U At}(h:AR a s):s.a=a.a:=by
 induction h with
 |nil=>rfl
 |cons _ _ b=>simp[b]
def
TK:∀{Q:LG}{s:U At},s.a=Q.a->(Hj Q s).a=Q.a
 |[],_,h=>by cases(Ra.mp h);rfl
 |q::Q,a::s,h=>by erw[Hj,Cr];rw[TK (by exists h)]
 |_::_,[],h=>by simp at h
def
ZFG(q:U (U At)×I)(h:∀l∈q.1,Ln l)(i:q.1.a<=1000):Sq [.B (LD q.1),‹0›,‹q.2›]=Z (.τ (Zb (FD [] (JX q))) .d):=by
 let(a,j):=q;let k:=Zy (b:=Zd 0) (e:=Wo) (ρ:=[.no,‹0›,‹j›]) Aj (λl=>D.Q [aD<|hd l,aD<|l.getD j .non]) a λl g=>#[[.B<|Aj l,‹0›,‹j›],rfl,by
  let c:=Lg l j (by have:=(h l g).l4;lia);rwa[Wo,show Gj [.val<|Aj l,‹0›]=Z (.val<|aD<|hd l)from(show l.getD 0 .non=hd l by ext l<;>rfl) ▸ Lg l 0 (by have:=(h l g).l4;lia),c,Cw,Zf,HV,if_pos (show(2:I)<=AE by ext)]]
 let f:=kN (JX (a,j)) [] (λ_ h=>nomatch h) (by simp[JX];lia);unfold JX at f;rw[B4]at f;unfold JX;rwa[Sq,AT,HV,hU,My,Mz,C6,FY,Zi,Zf,if_pos (show(a.map Aj).length<=AE by rw[Bg];show Bu i (by ext)),Zm,JH,F9,DP,Kq,k,show Fv [] (a.map λl=>D.tup [aD<|hd l,aD<|l.getD j .non])=Z (FD []<|a.map λl=>(hd l,aD<|l.getD j .non))from f,Ij]
def
ZDD(n k:I)(a:k<n)(L:AW)(b:L.a=n):atI (L.j λ_=>D.u 0) (k:W')=Z (.u 0):=ER (by rw[D9,CG<|LK a b.Γ];rfl)
def
k7(L:AW)(g:U I):∀(Q:LG)(k:I),(∀q∈Q,∃p,GL q.1 p)->k+Q.a<=L.a->(∀i q,Q[i]?=Z q->g[k+i]?=Z q.2)->ZG (ZP 2 (Zk (Zd 0) (Zk (Zd 1) ZQ))) (λ_=>Z J') SD [.no,.no,.B (Lf L),.B (Ax g)] (DG k (Q.j λq=>LD q.1))=Z (Q.j DQ)
 |[],k,_,_,_=>rfl
 |q::Q,k,h,c,d=>by
  erw[Cr]at c;let n:=k7 L g Q (k+1) (λl b=>h l<|Bv _ b) ∅ λi f e=>by
   have:=d (i+1) f (by exists e);grind
  let(p,a):=h q Bo;let b:=ZFG q a.ln (by have:=a.n6;lia);let m:atI (g.j λ(j:I)=>D.u j) (k:W')=Z (.u q.2):=ER (by rw[D9,show g[k]?=Z q.2 from d 0 q rfl];rfl);let o:SD [‹k›,.B<|LD q.1,.B<|Lf L,.B<|Ax g]=Z (DQ q):=by
   rwa[SD,Ar,ZDD L.length k (G4 c) L rfl,m,b,Cw,DQ]
  rw[Bf,DG,ZG];simp_all
abbrev qs(L:AW)(g:U I):LG:=L.zip g
def
k8{L:AW}{g:U I}(h:g.a=L.a):(qs L g).j (·.1)=L:=List.map_fst_zip<|Nat.le_of_eq h.Γ
def
ZFd{L:AW}{g:U I}(h:g.a=L.a):(qs L g).j (λq=>LD q.1)=L.j LD:=by
 have:(qs L g).j (λq=>LD q.1)=((qs L g).j (·.1)).j LD:=by rw[B4];rfl
 rw[this,k8 h]
def
k9{L:AW}{g:U I}{q:U (U At)×I}(h:q∈qs L g):q.1∈L:=(Om h).1
def
ZBq{L:AW}(h:BX L){g:U I}(a:g.a=L.a):SE [#v[L.j LD],.B (Lf L),.B (Ax g)]=Z (.τ ((qs L g).j DQ)):=by
 let hd:=k7 L g (qs L g) 0 (λq b=>h.good q.1<|k9 b) (by simp;lia) λi q e=>by
  rw[Iy];have:=List.getElem?_zip_eq_some.mp e;show this.2
 rw[ZFd a]at hd;let c:=h.n4;let d:(DG 0<|L.j LD).a<=AE:=by rw[U3,Bg];show Bu c (by ext)
 let f:Fa (.X<|L.j LD)=Z (L.j LD):=rfl;rwa[SE,AT,HV,iD,My,Mz,C6,Zi,Jy,f,Zf,if_pos d,Zm,JH,F9,DP,Kq,hd,ZK]
def
ZF7{q:U (U At)×I}(h:(q.1.j hd).μ):((JX q).j (·.1)).μ:=by
 unfold JX;rw[B4];show h
def
ZFM{q:U (U At)×I}{a:At}(h:a∈q.1.j hd):Dy O' (aD a) (DQ q)=Z (.bl J'):=by grind [DQ,ZAm,JX]
def
lc:∀{a:BM}{l:U At},(a.j hd).μ->l∈a->a.find? (λx=>decide (hd x=hd l))=Z l
 |x::a,l,c,b=>by
  erw[Bf,Hv]at c;rcases BJ.mp b with rfl|b
  .rw[List.find?_cons_of_pos (by simp)]
  .rw[List.find?_cons_of_neg (by
    erw[decide_eq_true_eq];intro z;show c.1<|z ▸ TL b)]
   show lc c.2 b
def
ZGa{q:U (U At)×I}(a:(q.1.j hd).μ){l:U At}(h:l∈q.1):Qo q (hd l)=l.β q.2 .Ε:=by simp_all [Qo,lc]
def
ZEB{q:U (U At)×I}(b:(q.1.j hd).μ){a:At}(h:a∈q.1.j hd):Dq (DQ q) (aD a)=Z (aD (Qo q a)):=by
 let(l,c,rfl):=Bm.mp h;rw[ZGa b c];show ZxU (ZF7 b)<|Bm.Ϛ ⟨l,c,rfl⟩
def
lf:∀{Q:LG}{s:U At},AR (Q.j (·.1)) s->ZG (ZP 2 (Zk (Zd 0) (Zk (Zd 1) ZQ))) (λ_=>Z J') Mo [.no,.no] (DA (λx y=>D.Q [x,y]) (Q.j DQ) (s.j aD))=Z ((Q.j λ_=>J').j D.bl)
 |[],_,h=>by ext h;rfl
 |q::Q,_,h=>by
  cases h with
  |@cons _ _ a e b c=>
  let d:Mo [.B<|DQ q,.B<|aD a]=Z (.bl J'):=by
   have:=ZFM b;rwa[Mo,this]
  rwa[NU,ZG,ZP,Zk,ZQ,d,lf c]
def
lg:∀{Q:LG}{s:U At},(∀q∈Q,(q.1.j hd).μ)->AR (Q.j (·.1)) s->ZG (ZP 2 (Zk (Zd 0) (Zk (Zd 1) ZQ))) (λ_=>Z J') Z8 [.no,.no] (DA (λx y=>D.Q [x,y]) (Q.j DQ) (s.j aD))=Z ((Hj Q s).j aD)
 |[],_,_,h=>by ext h;rfl
 |q::Q,_,b,h=>by
  cases h with
  |@cons _ _ a g c d=>
  let e:Z8 [.B<|DQ q,.B<|aD a]=Z (aD<|Qo q a):=by
   have:=ZEB (b q Bo) c;rwa[Z8,this]
  rwa[NU,ZG,ZP,Zk,ZQ,e,lg (λq f=>b q<|Bv _ f) d,Hj]
def
Zog{Q:LG}{s:U At}(a:AR (Q.j (·.1)) s)(hz:Q.a<=4):K2 [#v[Q.j DQ],.B (Aj s)]=Z (.B (.bl J')):=by
 let b:=lf a;let c:=kR Q;let d:=Zt (DA (λx y=>D.Q [x,y]) (Q.j DQ) (s.j aD)) (by simp;lia);apply Zp rfl ?_;unfold Aj;generalize (Q.j λ_=>J').j D.bl=B,s.j aD=S,Q.j DQ=L at *;change PJ [#v[L],.B<|.Q S]=_
 rwa[PJ,Zi,Gf,Fa,show Zm 2 [] [#v[L],.val<|.tup S]=[.no,.no]from rfl,d,b,c]
def Li(r:U At×W'):D:=.Q [Aj r.1,cel r.2 []]
def
ZtZ{Q:LG}{s:U At}(h:∀q∈Q,(q.1.j hd).μ)(u:AR (Q.j (·.1)) s)(hz:Q.a<=4)(b j:Sl)(x:W'){æ:U B9}{n m:I}(A:BH æ n m)(B:m<1000):ZI [#v[Q.j DQ],b,EL vC æ,.B (Aj s),.B (cel x []),j]=.α [#v[Q.j DQ],b,EL vC (D7 æ (Hj Q s) x),.B (Aj s),.B (cel x []),.B (Aj (Hj Q s))]:=by
 let l:=Zog u hz;let F:=lg h u;let M:=Zt (DA (λx y=>D.Q [x,y]) (Q.j DQ) (s.j aD)) (by simp;lia);let C:∀x y z w,Zn EE (λa=>Zl (C1<|Zz<|(Zi 2 [] (Gf (λa=>BE a 0) (λa=>BE a 3)) (ZP 2<|Zk (Zd 0)<|Zk (Zd 1) ZQ) (λ_=>Z J') Z8) a) (Z [])) [#v[Q.j DQ],x,y,.B<|Aj s,z,w]=Z (Aj<|Hj Q s):=by
  simp_all [Aj,DQ,Eg,Fd]
 generalize Q.j DQ=L,Hj Q s=k at *;let e:=YH vC k æ;let f:(æ.j<|ZO vC).a<AE:=by rw[Bg];show Ee A.϶<|BY B (by ext)
 let o:=FV<|æ.j<|ZO vC;let g:Dy O' (Aj k) (.X (Zb<|æ.j<|ZO vC) .d)=Z (.bl (ZR æ k).υ):=by
  rw[L6,Hi k];show(if DU (.Q k) (æ.j<|ZO vC)=J' then _ else _)=_
  rw[if_pos e,Lh vC k æ,Option.isSome_map];cases(ZR æ k).υ<;>rfl
 let c:∀d,LW (Z (ZR æ k).υ) ((Zh NG<|λa=>Zl (C1<|(Za Dq (λa=>A5 a 2) (λa=>A5 a 5)) a) (Zl (CH a 4)<|some [])) [#v[L],b,EL vC æ,.B<|Aj s,.B<|cel x [],.B<|Aj k]) (Z<|cel x [])=Z d->ZT (æ.j<|ZO vC) (.Q k) d=(D7 æ k x).j (ZO vC)->ZI [#v[L],b,EL vC æ,.B<|Aj s,.B<|cel x [],j]=.α [#v[L],b,EL vC<|D7 æ k x,.B<|Aj s,.B<|cel x [],.B<|Aj k]:=by
  intro d E G;unfold EL at *;let r:=C b (.τ (Zb<|æ.map<|ZO vC) .d) (.val<|cel x []) j;generalize æ.map (ZO vC)=t at *;unfold ZI;let H:Z4 ((Zh K2<|λa=>Zl (CH a 0)<|Zl (CH a 3)<|some []) [#v[L],b,.τ (Zb t) .d,.B<|Aj s,.B<|cel x [],j])=Z J':=by
   rwa[l,Z4]
  erw[H,ZE,Ze,r,ZB,MA,MB];let K:Za (Dy O') (λa=>A5 a 5) (λa=>A5 a 2) [#v[L],b,.τ (Zb t) .d,.B<|Aj s,.B<|cel x [],.B<|Aj k]=Z (.bl (ZR æ k).υ):=by
   rwa[g]
  rw[K,show AZ [#v[L],b,.τ (Zb t) .d,.B<|Aj s,.B<|cel x [],.B<|Aj k] 4=Z (cel x [])from rfl];erw[AM];rw[E];rwa[HL,FS,o,Hi k,e,G,Bool.true_and,decide_eq_true f]
 cases i:ZR æ k with
 |none=>
  rw[i]at c;show c (vC (x,[])) rfl<|ZAC vC i
 |some p=>
  rw[i]at c;apply c (vC (p.1,p.2++[x])) ?_<|ZA8 vC A.nd i;unfold EL;rwa[LW,Option.isSome,TJ vC i,kM p.1 x p.2 []]
def HX(Q:LG)(a:U (U At×W')):U (U At×W'):=a.j λr=>(Hj Q r.1,r.2)
def
lh{Q:LG}(h:∀q∈Q,(q.1.j hd).μ)(hz:Q.a<=4)(f:Sl):∀(d:U (U At×W'))(æ:U B9)(m:I)(g i e:Sl),(∀r∈d,AR (Q.j (·.1)) r.1)->BH æ Q.a m->m+d.a<1000->∃j k l,ZC (ZP 2 (Zk (Zd 3) (Zk (Zd 4) ZQ))) ZI (d.j Li) [#v[Q.j DQ],f,EL vC æ,g,i,e]=.α [#v[Q.j DQ],f,EL vC (MD (HX Q d) æ),j,k,l]
 |[],æ,m,g,i,e,_,n,_=>#[g,i,e,rfl]
 |r::d,æ,m,g,i,e,o,n,p=>by
  erw[Cr]at p;let(a,b,c,s):=lh h hz f d (D7 æ (Hj Q r.1) r.2) (m+1) (.B<|Aj r.1) (.val<|cel r.2 []) (.val<|Aj<|Hj Q r.1) (λq t=>o q<|Bv _ t) (n.add (TK (by simpa using(o r Bo).϶)) r.2) ∅;apply⟨a,b,c,?_⟩;rwa[Li,ZC,ZP,Zk,ZQ];rw[ZtZ h (o r Bo) hz f e r.2 n<|G4 p];show s
def
Zmc{Q:LG}(h:∀q∈Q,(q.1.j hd).μ)(E:0<Q.a)(hz:Q.a<=4)(f:U (U At×W'))(m:∀r∈f,AR (Q.j (·.1)) r.1)(n:f.a<500):P5 [#v[Q.j DQ],#v[f.j Li]]=Z (.τ (EZ (MD (HX Q f) []))):=by
 let ok:=BH.tab (HX Q f) (BH.Ϧ Q.a) λr h=>by
  let(u,w,rfl):=Bm.mp h;show TK (by simpa using(m u w).϶)
 let la:(HX Q f).a=f.a:=Bg _;let(a,b,c,e):=lh h hz #v[f.j Li] f [] 0 .no .no .no m (BH.Ϧ _) ∅;generalize MD (HX Q f) []=g at *;let j:(Zu g).a<500:=by unfold Zu;rw[Bg];have:=ok.϶;lia
 let o:=Qn #v[(Zu g).j Aj] (Zu g) (.U rfl) j λl n=>by
  have:=ok.kl l n;show#[λz=>by rw[z]at this;simp at this;lia,∅]
 rw[TC _ _ ((ZD Bp _).nodup_iff.Ϛ ok.nd) (λ_ e=>by ext e),<- k6 vC]at o;let A:=Zy (b:=Zd 0) (e:=P2) (ρ:=[.no,.lent (Zb<|g.map<|ZO vC) .d]) Aj (λk=>.Q [Aj k,vC<|(ZR g k).getD (0,[])]) (ZA Bp<|Zu g) λk B=>#[[.B<|Aj k,.lent (Zb<|g.j<|ZO vC) .d],rfl,by
  let(p,s):=kZ B;rw[s];rwa[P2,TJ vC s,Option.getD]]
 let C:=Zt ((ZA Bp<|Zu g).map Aj) (by rw[Bg,(ZD _ _).length_eq];lia);let i:=VB<|g.map<|ZO vC;rw[show EL vC []=.own [] .d from rfl]at e;unfold EL at e;unfold EZ;apply Zp rfl ?_;generalize Q.map DQ=L,f.map Li=R,g.map (ZO vC)=t,(ZA Bp<|Zu g).map Aj=W,(ZA Bp<|Zu g).map (λk=>D.Q [Aj k,vC<|(ZR g k).β (0,[])])=T at *;change P4 [#v[L],#v[R],.no,.no,.no,.no]=_
 rwa[P4,ES,C2,ZK,Zi,show ∀x y z,Zm 1 [2] [#v[L],#v[R],.own (Zb t) .d,x,y,z]=[.no,.lent (Zb t) .d]from λ_ _ _=>rfl,Do,e,i,o,EG,C,A]
def
BX.hdn{L:AW}(h:BX L):∀a∈L,(a.j hd).μ:=λa b=>by let(p,c):=h.good a b;show c.hdn
abbrev CN(L:AW)(g:U I)(a:U (U At×W')):U D:=EZ (MD (HX (qs L g) a) [])
def
li{c:AW}(h:BX c){g:U I}(d:g.a=c.a)(a:U (U At×W'))(f:∀r∈a,AR c r.1)(i:a.a<500):S3 [#v[c.j LD],#v[a.j Zc],.B (Ax g)]=Z (.τ (CN c g a)):=by
 let n1:=h.n1;let n4:=h.n4;let j:=Zmc (Q:=qs c g) (λq k=>h.hdn q.1<|k9 k) (by simp;lia) (by simp;lia) a (by rw[k8 d];show f) i;let l:=kz h;let m:=ZBq h d;let n:=Zy (b:=ZP 2<|Zk (Zd 0)<|Zk (Zd 1) ZQ) (e:=Xn) (ρ:=[.no,.no]) Zc Li a λr _=>#[[.B<|Aj r.1,‹r.2›],rfl,by
  rwa[Xn,ZtV #v[[.int r.2]] r.2 []<|.inl rfl,Li]]
 let o:=Zt (a.j Zc) (by rw[Bg];lia);unfold CN;generalize c.j LD=L,Lf c=p,Ax g=Y,(qs c g).j DQ=W,a.j Li=C,a.j Zc=R,EZ (MD (HX (qs c g) a) [])=T at *;apply Zp rfl ?_;change Xo [#v[L],#v[R],.B Y,.no]=_
 rwa[Xo,ZK,Zi,show Zm 2 [] [#v[L],#v[R],.val Y,.no]=[.no,.no]from rfl,Ef,o,n,l,m,EG,j,Jf]
def
TM{a:Type}[DecidableEq a]:∀(l A:U a),l.μ->(∀x∈l,x∈A)->l.a<=A.a
 |[],_,_,_=>Fi _
 |x::l,A,h,c=>by
  let(d,f):=Hv.mp h;let g:=TM l (A.erase x) f λy b=>(List.mem_erase_of_ne (show y≠x from λe=>d<|e ▸ b)).Ϛ (c y<|Bv _ b);grind
def
MF{c:Type}{b:D->VE->O VE}{t:VE->O q'}{e:AH}{ρ:VE}(G F:c->D)(p:c->q'):∀xs:U c,(∀x∈xs,∃a,b (G x) ρ=Z a/\t a=Z (p x)/\e a=Z (F x))->ZG b t e ρ (xs.j G)=Z ((xs.Ϣ p).j F)
 |[],_=>rfl
 |x::xs,h=>by
  let(a,g,i,j):=h x Bo;let d:=MF G F p xs λy k=>h y<|Bv _ k;erw[Bf,ZG,g,i];cases f:p x with
  |true=>rwa[j,d,List.filter_cons,f]
  |false=>erw[d,List.filter_cons,f,FQ,if_false]
abbrev KE:=U At×D
def Hk(e:KE):D:=.Q [Aj e.1,e.2]
def Cd(es:U KE):Bj:=es.j λe=>(.Q e.1,e.2)
def
TN(es:U KE):∀p∈Cd es,Fs p.1=O':=λp a=>by
 let(e,_,rfl):=Bm.mp a;rfl
def
TQ:∀(es:U KE)(k:U At),(Zo (Cd es) (.Q k)).υ=decide (k∈es.j (·.1))
 |[],k=>rfl
 |e::r,k=>by
  let a:=TQ r k;erw[Cd,Bf,Zo,KT.tup.injEq]at a ⊢;by_cases h:e.1=k
  .simp[h]
  .let b:¬ k=e.1:=λz=>h z.Γ;rw[if_neg h,a];simp[b]
def
lj{es:U KE}(h:∀e∈es,AL 12 e.2=J'){k:U At}{d:D}(e:Zo (Cd es) (.Q k)=Z d):AL 12 d=J':=by
 induction es with|nil=>cases e|cons x r a=>
  erw[Cd,Bf,Zo,KT.tup.injEq]at e;by_cases c:x.1=k
  .grind [Bo]
  .rw[if_neg c]at e;show a (λy b=>h y<|Bv _ b) e
def
TR:∀(es a:U KE),((a++es).j (·.1)).μ->a.a+es.a<=100000->Fv (Cd a) (es.j Hk)=Z (Cd (a++es))
 |[],a,_,_=>by rw[C6];rfl
 |e::r,a,c,b=>by
  erw[Cr]at b;let d:(Cd a).a<AE:=by
   unfold Cd;rw[Bg];show BY (show a.a<100000 by show G4 b) (by ext)
  let h:Zo (Cd a) (.Q e.1)=J:=by
   have:=TQ a e.1;let f:e.1∉a.j (·.1):=λf=>by
    grind
   simp_all
  let g:ZT (Cd a) (.Q e.1) e.2=Cd (a++[e]):=by
   unfold ZT;grind [Cd]
  let i:=TR r (a++[e]) (by rw[DV];show c) (by simp;lia);rwa[Hk,Fv,Hi e.1,L7 e.1<|TN a,d,g];simp_all
def
ll(es:U KE):((Cd es).j λp=>kD p.1)=(es.j (·.1)).j Aj:=by
 unfold Cd;rw[B4,B4];rfl
def Lj(a b:U KE):BM:=ZA Bp ((a.j (·.1)).Ϣ (λk=>!Bc ((Zo (Cd b) (.Q k)).β .Ε) ((Zo (Cd a) (.Q k)).β .Ε))++(b.j (·.1)).Ϣ λk=>!decide (k∈a.j (·.1)))
def
ZFl(c f:U KE)(n1:(c.j (·.1)).μ)(n2:(f.j (·.1)).μ)(K:∀e∈c,AL 12 e.2=J')(Q:∀e∈f,AL 12 e.2=J')(A:BM)(a1:∀e∈c,e.1∈A)(L:∀e∈f,e.1∈A)(M:A.a<500)(g:∀k∈A,k≠[]/\k.a<=1000):SX [#v[c.j Hk],#v[f.j Hk]]=Z (.τ ((Lj c f).j Aj))/\(Lj c f).a<500:=by
 let b1:=TM _ A n1 λk g=>by let(e,n,rfl):=Bm.mp g;show a1 e n
 let T:=TM _ A n2 λk g=>by let(e,n,rfl):=Bm.mp g;show L e n
 rw[Bg]at b1 T;let y:=TR c [] (by exists n1) (by simp;lia);let z:=TR f [] (by exists n2) (by simp;lia);rw[DP]at y z;unfold Lj;generalize P:(λk:U At=>!Bc ((Zo (Cd f)<|.tup k).getD .non) ((Zo (Cd c)<|.tup k).getD .non))=p,q:(λk:U At=>!decide (k∈c.j (·.1)))=r;let Y:=MF (b:=Zd 0) (t:=Xe) (e:=iI) (ρ:=[.no,.lent (Zb<|Cd f) .d,.val<|.lst (Zb<|Cd c) .d]) Aj Aj p (c.map (·.1)) λk g=>#[[.B<|Aj k,.lent (Zb<|Cd f) .d,.B<|.X (Zb<|Cd c) .d],rfl,by
  let s:DU (.Q k) (Cd f)=J':=L7 k<|TN f;let(d,hd):=bf.mp (show(Zo (Cd c)<|.tup k).isSome=J' by rw[TQ c,decide_eq_true g]);let B:=(λk d=>lj K (k:=k) (d:=d)) k d hd;let C:AL 12 ((Zo (Cd f)<|.Q k).β .Ε)=J':=by
   cases hh:Zo (Cd f) (.Q k)with
   |none=>rfl
   |some x=>show(λk d=>lj Q (k:=k) (d:=d)) k x hh
  let E:Pl (.X (Zb<|Cd f) .d) (Aj k)=Z ((Zo (Cd f)<|.Q k).β .Ε):=by
   erw[Pl,FV,Hi k,s,if_true]
  let e2:Dq (.X (Zb<|Cd c) .d) (Aj k)=Z d:=by
   rw[Ro,Hi k];rwa[L7 k<|TN c,hd]
  rw[show p k=!Bc ((Zo (Cd f)<|.Q k).β .Ε) d by rw[<- P];dsimp only;rw[hd];rfl];apply⟨?_,rfl⟩;rwa[Xe,E,e2,Cc,F0,B,C]]
 let c2:=MF (b:=Zd 0) (t:=Xf) (e:=iJ) (ρ:=[.no,.B<|.lst (Zb<|Cd c) .d]) Aj Aj r (f.map (·.1)) λk g=>#[[.B<|Aj k,.B<|.X (Zb<|Cd c) .d],rfl,by
  apply#[?_,rfl];let E:Dy J' (Aj k) (.X (Zb<|Cd c) .d)=Z (.bl<|r k):=by
   rw[L6,Hi k];rwa[L7 k<|TN c,TQ c];rw[Bool.true_bne,<- q]
  rwa[Xf,E]]
 let i:((c.j (·.1)).Ϣ p++(f.j (·.1)).Ϣ r).μ:=L3.Ϛ #[n1.sublist List.filter_sublist,n2.sublist List.filter_sublist,λa G b hb e=>by
  subst e;let s:=(N4.mp hb).2;rw[<- q]at s;erw[decide_eq_true<|(N4.mp G).1]at s;cases s]
 let j:∀k∈(c.j (·.1)).Ϣ p++(f.j (·.1)).Ϣ r,k∈A:=λk g=>by
  rcases Cz.mp g with h|h
  .show(show ∀k∈c.j (·.1),k∈A from λk g=>by let(e,n,rfl):=Bm.mp g;show a1 e n) k (N4.mp h).1
  .show(show ∀k∈f.j (·.1),k∈A from λk g=>by let(e,n,rfl):=Bm.mp g;show L e n) k (N4.mp h).1
 let m:=TM _ A i j;let l1:((c.j (·.1)).Ϣ p).a<=c.a:=Bu (YI _ _) (by rw[Bg];show A4 _);let l2:((f.j (·.1)).Ϣ r).a<=f.a:=Bu (YI _ _) (by rw[Bg];show A4 _);generalize (f.j (·.1)).Ϣ r=u,(c.j (·.1)).Ϣ p=o at *;let N:=Qn #v[(o++u).j Aj] (o++u) (.U rfl) (Ee m M) λl hl=>g l<|j l hl;rw[TC _ _ ((ZD Bp _).nodup_iff.mpr i) λ_ h=>by cases h]at N;apply#[?_,by rw[(ZD Bp _).ϋ];show Ee m M];generalize ZA Bp (o++u)=R at *;let G:Zx (.X<|o.j Aj) (.X<|u.j Aj)=Z (.X<|(o++u).j Aj):=by
  rw[yA _ _ (by simp;lia),Gc]
 let s1:=Zt ((c.j (·.1)).j Aj) (by simp;lia);let s2:=Zt ((f.j (·.1)).j Aj) (by simp;lia);let B:GI (.X (Zb<|Cd c) .d)=Z ((c.j (·.1)).j Aj):=by erw[GI,FV,Fd,ll c]
 let C:GI (.X (Zb<|Cd f) .d)=Z ((f.j (·.1)).j Aj):=by erw[GI,FV,Fd,ll f]
 rw[show Cd []=[]from rfl]at y z;generalize f.j Hk=H,c.j Hk=S,Cd f=F,Cd c=w,(f.j (·.1)).j Aj=W2,(c.j (·.1)).j Aj=W1 at *;apply Zp rfl ?_;change Xg [#v[S],#v[H],.no,.no,.no]=_
 rwa[Xg,iR,iQ,iP,iO,iK,FY,y,ES,iL,z,iM,GN,Kp,Zi,show Zm 1 [3,2] [#v[S],#v[H],.val<|.lst (Zb w) .d,.own (Zb F) .d,.no]=[.no,.lent (Zb F) .d,.val<|.lst (Zb w) .d]from rfl,B,s1,Y,ZX,iN,show Zm 1 [2] [#v[S],#v[H],.val<|.lst (Zb w) .d,.val<|.lst (Zb F) .d,.own<|o.map Aj]=[.no,.val<|.lst (Zb w) .d]from rfl,C,s2,c2,G,Ef,N,Jf,ZK]
def Ff(æ:U B9):U KE:=(ZA Bp (Zu æ)).j λk=>(k,vC ((ZR æ k).β (0,[])))
def
lm(æ:U B9):EZ æ=(Ff æ).j Hk:=by
 unfold EZ Ff;rw[B4];rfl
def
TU(æ:U B9):(Ff æ).j (·.1)=ZA Bp (Zu æ):=by
 unfold Ff;rw[B4];show List.map_id _
def
lq(æ:U B9):∀e∈Ff æ,AL 12 e.2=J':=λe a=>by
 let(k,_,rfl):=Bm.mp a;rfl
def
ZE9(c:U At)(f:c.a<500):∃g:U D,P1 [#v[c.j aD]]=Z (.τ g)/\(0<g.a↔c≠[])/\g.a<500:=by
 let j:=Zy (b:=Zd 0) (e:=Xc) (ρ:=[.no]) aD (λa=>Aj [a]) c λa _=>#[[.B<|aD a],rfl,by
  rfl]
 rw[show c.j (λa=>Aj [a])=(c.j λa=>[a]).j Aj by rw[B4];rfl]at j;let n:=Qn #v[(c.j λa=>[a]).j Aj] (c.j λa=>[a]) (.U rfl) (by exists f) λl f=>by
  let(a,_,rfl):=Bm.mp f;show#[by simp,by simp]
 let o:∀k∈DB J (ZA Bp<|c.map λa=>[a]),∃a,k=[a]:=λk h=>by
  have:=(ZD Bp _).Ϫ.mp<|(YC _ k).mp h;let(a,_,rfl):=Bm.mp this;show#[a,rfl]
 let d:0<(DB J<|ZA Bp<|c.map λa=>[a]).a↔c≠[]:=by
  cases c with
  |nil=>simp[ZA,DB]
  |cons a r=>show#[λ_=>by simp,λ_=>List.length_pos_of_mem<|(YC _ [a]).Ϛ<|(ZD Bp _).Ϫ.Ϛ<|Bm.Ϛ ⟨a,Bo,rfl⟩]
 let i:(DB J<|ZA Bp<|c.map λa=>[a]).a<500:=Ee (TF _ _) (by rw[(ZD Bp _).ϋ,Bg];show f);generalize DB J (ZA Bp<|c.map λa=>[a])=m at *;let p:=Zy (b:=Zd 0) (e:=Xd) (ρ:=[.no]) Aj (λk=>aD<|hd k) m λk h=>#[[.B<|Aj k],rfl,by
  let(a,rfl):=o k h;rfl]
 let q:=Zt (c.j aD) (by simp;lia);let s:=Zt (m.j Aj) (by simp;lia);apply#[m.j λk=>aD<|hd k,?_,by simpa using d,by exists i];generalize c.map aD=M,(c.map λa=>[a]).j Aj=V,m.j Aj=W,(m.j λk=>aD<|hd k)=Y at *;apply Zp rfl ?_;change P0 [#v[M]]=_
 rwa[P0,Zi,show Zm 1 [] [#v[M]]=[.no]from rfl,q,j,n,EG,s,p,ZK]
def
ZCm{l:U At}(h:Ln l)(j:I):Gj [.B (Aj l),‹j›]=Z (.B (aD (l.β j .Ε))):=Lg l j (by have:=h.l4;lia)
def
MG{l:U At}(h:Ln l):Ar (Aj l) (.u 0)=Z (aD (hd l)):=by
 let b:=h.l1;cases l with
 |nil=>simp at b
 |cons a r=>show Zya (aD a)<|r.j aD
def
YJ{l:U At}(h:Ln l):hd l∈l:=by
 let b:=h.l1;cases l with
 |nil=>simp at b
 |cons a r=>show Bo
def
TV{c:BM}{p:I}(f:GL c p)(j:I)(a:At)(d:Sm (aD a)/\(EH (aD a)=J'\/a=.Ε)):K9 [.B (LD c),‹j›,.B (aD a)]=Z (.B (.bl (decide (∃l∈c,l.β j .Ε=a)))):=by
 let n:=MF (b:=Zd 0) (t:=Xh) (e:=Xi) (ρ:=[.no,‹j›,.B<|aD a]) Aj (λl=>aD<|hd l) (λl=>decide<|l.getD j .non=a) c λl o=>#[[.B<|Aj l,‹j›,.B<|aD a],rfl,by
  apply#[?_,?_]
  .rwa[Xh,ZCm (f.ln l o) j,Cb,F0,Ld,Ym]
  .rwa[Xi,MG<|f.ln l o]]
 rw[show(c.Ϣ λl=>decide<|l.getD j .non=a).map (λl=>aD<|hd l)=((c.filter λl=>decide<|l.getD j .non=a).map hd).map aD by rw[B4];rfl]at n;let(g,q,i,r):=ZE9 ((c.filter λl=>decide<|l.β j .Ε=a).j hd) (by
  rw[Bg];have:=YI (λl=>decide<|l.β j .Ε=a) c;have:=f.n6;lia)
 let k:(c.Ϣ λl=>decide<|l.β j .Ε=a).j hd≠[]↔∃l∈c,l.β j .Ε=a:=by
  simp
 rw[k]at i;let s:=Zt (c.j Aj) (by rw[Bg];have:=f.n6;lia);let u:SY [.B<|LD c,‹j›,.B<|aD a]=Z (.τ g):=by
  apply Zp rfl ?_;change P6 [.B<|LD c,‹j›,.B<|aD a]=_
  let m:Dl (C0<|EA<|some<|aD a) (Z<|!(FC (aD a)||BG (aD a)))=Z O':=by
   rcases d.2 with h|rfl
   .rw[show(FC (aD a)||BG (aD a))=J' from h];ext a<;>rfl
   .rfl
  rwa[P6,Yk (aD a) d.1,show Z4 (Z<|.bl<|FC (aD a)||BG (aD a))=Z (FC (aD a)||BG (aD a))from rfl]at *;rwa[m,Ef,Zi,show Zm 1 [1,2] [.val<|LD c,‹j›,.val<|aD a]=[.no,‹j›,.val<|aD a]from rfl,s,n,q,Jf,ZK]
 apply Zp rfl ?_;change P8 [.B<|LD c,‹j›,.B<|aD a]=_
 rwa[P8,u,EG,show Zv [.lst g]=Z (.int g.length)from rfl,HD,i2,show decide ((0:W')<(g.length:W'))=decide (∃l∈c,l.getD j .non=a)from decide_eq_decide.mpr #[λh=>i.mp<|NQ.mp h,λh=>by have:=i.mpr h;show NQ.mpr this]]
def
ZAD(L x d:D)(b:Sm d)(c:EH d=O')(e:d≠.Ε):K9 [.B L,.B x,.B d]=Z (.B (.bl O')):=by
 let a:=Yk d b;rw[show(FC d||BG d)=O' from c]at a;let f:SY [.B L,.B x,.B d]=Z (.τ []):=by
  apply Zp rfl ?_;change P6 [.B L,.B x,.B d]=_
  rwa[P6,a,EA,show isN d=O' by ext d<;>first|rfl|show absurd rfl e,Zf,ZK];rfl
 apply Zp rfl ?_;change P8 [.B L,.B x,.B d]=_
 rwa[P8,f,EG,HD,i2];rfl
def
YK{e:BM}{p:I}(f:GL e p){a:At}(g:a∈e.j hd):K9 [.B (LD e),‹0›,.B (aD a)]=Z (.B (.bl J')):=by
 let(c,b,rfl):=Bm.mp g;let d:=f.B c b (hd c)<|YJ<|f.ln c b;have:=TV f 0 (hd c) #[d.2.1,.U d.1];rw[decide_eq_true #[c,b,by ext c<;>rfl]]at this;show this
def
ZyK{L:AW}{s:U At}(h:∀b∈L,∃p,GL b p)(c:AR L s):ZG (ZP 2 (Zk (Zd 0) (Zk (Zd 1) ZQ))) (λ_=>Z J') Mr [.no,.no] (DA (λx y=>D.Q [x,y]) (L.j LD) (s.j aD))=Z ((L.j λ_=>J').j D.bl):=by
 induction c with|nil=>rfl|@cons b j a k d l e=>
  let(p,f):=h b Bo;let g:Mr [.B<|LD b,.B<|aD a]=Z (.bl J'):=by
   have:=YK f d;rwa[Mr,this]
  rwa[NU,ZG,ZP,Zk,ZQ,g,e λb i=>h b<|Bv _ i]
def
lr{L:AW}(h:BX L){s:U At}(c:AR L s):Lb [#v[L.j LD],.B (Aj s)]=Z (.B (.bl J')):=by
 let d:=ZyK h.good c;let e:=kR L;let j:=h.n4;let f:=Zt (DA (λx y=>D.Q [x,y]) (L.j LD) (s.j aD)) (by simp;lia);let g:Dc [.Q<|s.j aD,.ty "tuple"]=Z (.bl J'):=rfl;let l1:Zv [.Q<|s.j aD]=Z (.u ((s.j aD).a:W')):=rfl;let i:Zv [.X<|L.j LD]=Z (.u ((L.j LD).a:W')):=rfl;let a:Cc (.u ((s.j aD).a:W')) (.u ((L.j LD).a:W'))=Z (.bl O'):=by rw[show(s.j aD).a=(L.j LD).a by simp[c.len]];simp
 apply Zp rfl ?_;unfold Aj;generalize (L.j λ_=>J').j D.bl=B,s.j aD=S,(L.j LD)=k at *;change Z6 [#v[k],.B<|.Q S]=_
 rwa[Z6,g,show ∀b,Z4 (Z<|.bl b)=Z b from λ_=>rfl,l1,i,a,Zi,Gf,Fa,show Zm 2 [] [#v[k],.val<|.tup S]=[.no,.no]from rfl,f,d,e]
abbrev Row:=U At×W'
abbrev Ce:=q'×Row
def Co(b:q'):D:=if b then .ω "+" else .ω "-"
def AS(c:Ce):D:=.Q [Co c.1,Aj c.2.1,.u c.2.2]
def
YL:¬ ("+":Ae)="-":=by symm
def
lu:¬ ("-":Ae)="+":=by symm
def
YM(b:q'):Cc (Co b) (.ω "+")=Z (.bl (!b)):=by ext b<;>simp[Co,lu]
def
YN(b:q'):Cc (Co b) (.ω "-")=Z (.bl b):=by ext b<;>simp[Co,YL]
def
Qp(b:q'):Cb (Co b) (.ω "+")=Z (.bl b):=by ext b<;>simp[Co,lu]
def
lw{L:AW}(h:BX L)(c:Ce)(f:AR L c.2.1):Z3 [#v[L.j LD],.B (AS c)]=Z (.B (.bl J')):=by
 let g:=lr h f;let a:=NO (.u c.2.2) trivial;let i:Dc [AS c,.ty "tuple"]=Z (.bl J'):=rfl;let l1:Zv [AS c]=Z (.u 3):=rfl;let j:Ar (AS c) (.u 0)=Z (Co c.1):=rfl;let d:Ar (AS c) (.u 1)=Z (Aj c.2.1):=rfl;let e:Ar (AS c) (.u 2)=Z (.u c.2.2):=rfl;rw[show FC (.u c.2.2)=J' from rfl]at a;generalize AS c=C,L.j LD=k at *;apply Zp rfl ?_;change ZZ [#v[k],.B C]=_
 unfold ZZ;rwa[i,show ∀b,Z4 (Z<|.bl b)=Z b from λ_=>rfl,l1,show Cc (.int 3) (.int 3)=Z (.bl O')from rfl,j,d,e,YM,YN];cases c.1<;>rwa[d,e,g,a]
def Dm(r s:Row):q':=if r.1=s.1 then decide (r.2<s.2)else Bp r.1 s.1
def
ZHo:TO Dm:={
 asym:=λa b h=>by
  unfold Dm at h ⊢
  by_cases e:a.1=b.1
  .rw[if_pos e]at h;rw[if_pos e.Γ];simp at h ⊢;show Int.le_of_lt h
  .rw[if_neg e]at h;rw[if_neg (λz=>e z.Γ)];show Fe.asym _ _ h
 neg:=λa b c h=>by
  unfold Dm at h ⊢
  by_cases i:a.1=b.1
  .rw[if_pos i]
   by_cases f:b.1=c.1
   .rw[if_pos f];rw[if_pos (i.I f)]at h;simp at h ⊢;lia
   .rw[if_neg f];rw[if_neg (λz=>f (i.Γ.I z)),i]at h;show .φ h
  .rw[if_neg i]
   by_cases f:b.1=c.1
   .rw[if_neg (λz=>i (z.I f.Γ)),<- f]at h;show .U h
   .rw[if_neg f]
    by_cases j:a.1=c.1
    .cases g:Bp a.1 b.1 with
     |true=>show .U rfl
     |false=>
      cases d:Bp b.1 a.1 with
      |true=>rw[j]at d;show .φ d
      |false=>show absurd (Fe.anti _ _ g d) i
    .rw[if_neg j]at h;show Fe.neg _ _ _ h
 anti:=λa b g d=>by
  unfold Dm at g d
  by_cases e:a.1=b.1
  .rw[if_pos e]at g;rw[if_pos e.Γ]at d
   simp at g d
   show Prod.ext e (Int.le_antisymm d g)
  .rw[if_neg e]at g;rw[if_neg (λz=>e z.Γ)]at d;show absurd (Fe.anti _ _ g d) e}
def Qq(r:Row):D:=.Q [.Q (r.1.j Dt),.u r.2]
def
Zrb(r:Row)(h:r.1.a<=1000):SV [.B (Zc r)]=Z (.B (Qq r)):=by
 apply Zp rfl ?_;change W6 [.B<|Zc r]=_
 unfold Qq;rwa[W6,show Ar (Zc r) (.int 0)=Z (Aj r.1)from rfl,show Ar (Zc r) (.int 1)=Z (.int r.2)from rfl,kS r.1 h]
def
lx:∀a b:U At,CY (a.j Dt) (b.j Dt)=decide (a=b)
 |[],[]=>by simp
 |[],_::_=>by simp
 |_::_,[]=>by simp
 |x::a,y::b=>by
  simp[kJ,lx a b]
def
ZC7(r s:Row):ltN 6 (Qq r) (Qq s)=Z (Dm r s):=by
 let c:AL 12 (.Q<|r.1.j Dt)=J':=by
  show(r.1.j Dt).ϝ (AL 11)=J'
  grind [TD]
 let d:AL 12 (.Q<|s.1.j Dt)=J':=by
  show(s.1.j Dt).ϝ (AL 11)=J'
  rw[M7,Dp];show λa _=>TD 10 a
 let f:Bc (.Q<|r.1.j Dt) (.Q<|s.1.j Dt)=decide (r.1=s.1):=by
  rw[<- lx];erw[Bc]
 change Gb (ltN 5) [.Q<|r.1.j Dt,.u r.2] [.Q<|s.1.j Dt,.u s.2]=_
 unfold Dm;rwa[Gb,F0,c,d,f,show ltN 5 (.tup<|r.1.map Dt) (.tup<|s.1.map Dt)=Z (Bp r.1 s.1)from(YD 2 r.1 s.1),decide_eq_true_eq,AL];by_cases e:r.1=s.1
 .rw[if_pos e,if_pos e];by_cases b:r.2=s.2
  .simp[b]
  .simp[b]
 .rw[if_neg e,if_neg e]
def
ZvA(rs:U Row)(a:rs.a<500)(b:∀r∈rs,r.1.a<=1000):Ge SV (rs.j Zc)=Z ((ZA Dm rs).j Zc):=Yz Zc ZHo O' rs a Qq (λr h=>Zrb r<|b r h) (λr _=>#[_,_,rfl]) (λr _ s _=>ZC7 r s)
def
ly(L:AW)(h:∀a∈L,∃p,GL a p)(ws:U W')(l:L.a<=ws.a):∀(b pre:AW),L=pre++b->∃s,AR b s/\ZG (Zd 0) (λ_=>Z J') Sy [.no,#v[L.j LD],#v[ws.j D.u]] ((EJ pre.a b.a).j λk:I=>D.u k)=Z (s.j aD)
 |[],pre,_=>#[[],.Ϧ,rfl]
 |a::b,pre,e=>by
  let(s,m,g):=ly L h ws l b (pre++[a]) (by rw[e];simp);rw[F4]at g;let(p,f):=h a (by rw[e];simp);let d:pre.a<ws.a:=by
   have:L.a=pre.a+(b.a+1):=by rw[e];simp
   lia
  let n:Ar (.X<|L.j LD) (.u pre.a)=Z (LD a):=ER (by rw[e];simp);let o:Ar (.X<|ws.j D.u) (.u pre.a)=Z (.u<|ws.β pre.a 0):=ER (by rw[D9,CG d];simp[GB,d]);generalize ws.β pre.a 0=x at *;let q:Zv [LD a]=Z (.u a.a):=by simp
  let r:=De x (a.a:W')<|NQ.Ϛ f.n1;let t:=IM x (show(a.a:W')≠0 by show Cj (Int.ne_of_lt<|NQ.Ϛ f.n1));let i:=JR x<|NQ.Ϛ f.n1;generalize x%(a.a:W')=j at *;obtain⟨c,rfl⟩:∃c:I,j=(c:W'):=#[j.ζ,by show Int.eq_natCast_toNat.Ϛ t];let u:Ar (LD a) (.u c)=Z (Aj a[c]):=ER (by rw[D9,CG<|Int.ofNat_lt.mp i];rfl);apply⟨hd a[c]::s,.Ο (TL<|HE<|Int.ofNat_lt.mp i) m,?_⟩;let w:Sy [‹pre.a›,#v[L.j LD],#v[ws.j D.u]]=Z (aD<|hd a[c]):=by
   generalize LD a=B,ws.j D.u=W,L.j LD=y at *;rwa[Sy,n,o,q,r,u,MG<|f.ln _<|HE<|Int.ofNat_lt.mp i]
  rwa[JQ,ZG,w];erw[Cr,Ii]at g ⊢;rw[g];rfl
def
TW{L:AW}(h:BX L)(c:W'):∃r:Row,AR L r.1/\K4 [#v[L.j LD],‹c›]=Z (.B (Zc r)):=by
 let(e,t,H,_):=Ts c 6<|Ip rfl;let Q:=h.n4;let(s,m,o):=ly L h.good e ∅ L [] rfl;rw[show(EJ ([]:AW).a L.a)=Bl L.a by rw[Mw];rfl]at o;let f:Zv [.X<|L.j LD]=Z (.u L.a):=by simp
 let p:=VW (L.a:W') (Sa<|List.length L) ∅;rw[KP]at p;let u:=Zt ((Bl L.length).map λk:I=>D.u k) (by simp;lia);let w:EE [.X<|s.j aD]=Z (Aj s):=rfl;let x:Ar (.X<|e.j D.u) (.u 4)=Z (.u<|e.β 4 0):=IL (Tt 4) ∅;let y:Ar (.X<|e.j D.u) (.u 5)=Z (.u<|e.β 5 0):=IL (Tt 5) ∅;generalize e.β 5 0=i,e.β 4 0=l at *;let z:=De l 7 (by ext);let A:=De l 2 (by ext);let n:=De c (10^30) (by ext);let B:=De i 4 (by ext);let F:=IM i (show(4:W')≠0 by ext);let M:=JR i (show(0:W')<4 by ext);generalize c%10^30=g,l%2=C,l%7=E,i%4=j at *;obtain⟨v,G⟩:∃v,Ar (.X [.u<|E-3,.u g,.u<|0-g,.u C]) (.u j)=Z (.u v):=by
  rcases(show j=0\/j=1\/j=2\/j=3 by lia)with q|q|q|q<;>rw[q]
  .show#[_,rfl]
  .show#[_,rfl]
  .show#[_,rfl]
  .show#[_,rfl]
 apply#[(s,v),m,?_];change _=Z (Rv.B<|.Q [Aj s,.u v])
 generalize L.j LD=P,e.j D.u=W,(Bl L.a).j (λk:I=>D.u k)=N,Aj s=S,s.j aD=K at *;apply Zp rfl ?_;change WB [#v[P],‹c›,.no,.no]=_
 rwa[WB,show Z7 [‹c›,‹6›]=Z #v[W]from t,Zi,show Zm 1 [0,2] [#v[P],‹c›,#v[W],.no]=[.no,#v[P],#v[W]]from rfl,f,p,u,o,w,x,y,show Jh (.int 10) (.int 30)=Z (.int<|10^30)from ZHD (by ext),z,A,n,B,show ∀a b c d:D,Zf (Z [a,b,c,d])=Z [a,b,c,d]from λ_ _ _ _=>Zt _ (by simp),G]
abbrev wh(a:BM):I:=(a.headD []).a
def IP(p:I):D->q'
 |.int i=>decide (0<=i)&&decide (i<=(p:W'))
 |_=>O'
def
lz{a:BM}{p:I}(h:GL a p):PF [.B (LD a)]=Z ‹(wh a:W')›:=by
 let c:=h.n1;cases a with|nil=>simp at c|cons l a=>
  let b:Zv [Aj l]=Z (.u ((l.j aD).a:W')):=rfl;rw[Bg]at b;simp only[PF,AT,Cr,Ii,HV,if_true,gm,My,Mz,C6,Zn,Za,A5,IN,Eg,Ar,show atI ((l::a).map Aj) 0=Z (Aj l)from ER (j:=0) rfl,C1,Fd,Zl,HB,pk,b,Zw,Ze];rfl
def
ZyN{a:BM}{p:I}(h:GL a p)(d:D)(hd:Sm d):Sr [.B (LD a),.B d]=Z (.B (.bl (IP (wh a) d))):=by
 let b:=NO d hd;let c:=lz h;generalize (wh a)=n at *;cases d with
 |int i=>
  rw[show FC (.u i)=J' from rfl]at b;apply Zp rfl ?_;change PN [.B<|LD a,‹i›]=_
  unfold IP;rwa[PN,b,Nb,show OI (.int 0) (.int i)=Z (.bl<|decide<|0<=i)from rfl];cases decide (0<=i)with
  |true=>rwa[c,show OI (.int i) (.int n)=Z (.bl<|decide<|i<=(n:W'))from rfl,Bool.true_and]
  |false=>rwa[Bool.false_and]
 |_=>
  apply Zp rfl ?_;change PN [.B<|LD a,.B _]=_
  rwa[PN,show Hf [.val _]=Z (.val<|.bl O')from b,IP]
abbrev TX(L:AW)(a:U D):q':=((L.zip a).j λq=>IP (wh q.1) q.2).ϝ id
def
TY(bs:U q'):Jk (bs.j D.bl)=Z bs:=by
 simp_all
def
lA:∀(L:AW)(b:U D),DA (λx y=>D.Q [x,y]) (L.j LD) b=(L.zip b).j λq=>D.Q [LD q.1,q.2]
 |[],_=>by simp
 |_::_,[]=>by simp
 |a::L,z::b=>by simp[lA L b]
def
Zyc{L:AW}(h:BX L)(a:U D)(hz:∀z∈a,Sm z)(i:a.a=L.a):K6 [#v[L.j LD],.B (.Q a)]=Z (.B (.bl (TX L a))):=by
 let m:=h.n4;let c:=Zy (b:=ZP 2<|Zk (Zd 0)<|Zk (Zd 1) ZQ) (e:=WE) (ρ:=[.no,.no]) (λq:U (U At)×D=>D.Q [LD q.1,q.2]) (λq=>D.bl<|IP (wh q.1) q.2) (L.zip a) λq f=>#[[.B<|LD q.1,.B q.2],rfl,by
  let(p,j):=h.good q.1 (Om f).1;have:=ZyN j q.2<|hz _ (Om f).2;rwa[WE,this]]
 rw[show(L.zip a).j (λq=>D.bl<|IP (wh q.1) q.2)=((L.zip a).map λq=>IP (wh q.1) q.2).j D.bl by rw[B4];rfl]at c;let k:D1 [.X<|((L.zip a).map λq=>IP (wh q.1) q.2).j D.bl]=Z (.bl<|TX L a):=by
  erw[D1,TY,Fd]
 let g:=Zt ((L.zip a).j λq=>D.Q [LD q.1,q.2]) (by simp;lia);let l:Zv [.X<|L.j LD]=Z (.u ((L.j LD).a:W')):=rfl;let d:Cc (.u a.a) (.u ((L.j LD).a:W'))=Z (.bl O'):=by rw[i,Bg];simp
 rw[<- (lA L a)]at c g;generalize L.j LD=W,((L.zip a).j λq=>IP (wh q.1) q.2).j D.bl=o at *;apply Zp rfl ?_;change WF [#v[W],.B<|.Q a]=_
 rwa[WF,show Dc [.tup a,.ty "tuple"]=Z (.bl J')from rfl,show ∀b,Z4 (Z<|.bl b)=Z b from λ_=>rfl,show Zv [.tup a]=Z (.int a.length)from rfl,l,d,Zi,Gf,Fa,show Zm 2 [] [#v[W],.val<|.tup a]=[.no,.no]from rfl,g,c,k]
def E1(L:AW)(g:U I):V':=g.a=L.a/\∀q∈L.zip g,q.2<=wh q.1
def
lB:∀{L:AW}{g:U I},(∀q∈L.zip g,q.2<=wh q.1)->TX L (g.j λj:I=>D.u j)=J'
 |[],_,_=>by simp
 |_::_,[],_=>by simp
 |b::L,j::g,h=>by
  let c:=lB (L:=L) (g:=g) λq a=>h q<|Bv _ a;simp_all [IP,wh,TX,Int.ofNat_le]
def
Qr{L:AW}(h:BX L){g:U I}(a:E1 L g):K6 [#v[L.j LD],.B (Ax g)]=Z (.B (.bl J')):=by
 have:=Zyc h (g.j λj:I=>D.u j) (λz b=>by let(j,_,rfl):=Bm.mp b;trivial) (by rw[Bg];show a.1);rw[lB a.2]at this;show this
abbrev gk(g:U I):U At:=g.j λj:I=>At.u j
def
Lk(g:U I):Aj (gk g)=Ax g:=by unfold Aj gk;rw[B4];rfl
def
TZ:∀{g g':U I},gk g=gk g'->g=g'
 |[],[],_=>rfl
 |[],_::_,h=>by simp at h
 |_::_,[],h=>by simp at h
 |a::g,b::g',h=>by
  erw[gk,Bf,Rm,At.int.injEq]at h;rw[TZ (g:=g) (g':=g') h.2,Int.ofNat.inj h.1]
abbrev AI(L:AW)(rs:U Row)(gs:U (U I)):Bj:=gs.j λg=>(.Q (gk g),.X (CN L g rs))
section
variable(L:AW)(rs:U Row)
def
YO(k:U At)(gs:U (U I)):DU (.Q k) (AI L rs gs)=J':=L7 k λp a=>by
 let(g,_,rfl):=Bm.mp a;rfl
def
T0:∀(gs:U (U I))(g:U I),Zo (AI L rs gs) (.Q (gk g))=if g∈gs then Z (.X (CN L g rs))else J
 |[],g=>by simp[Zo]
 |x::gs,g=>by
  let a:=T0 gs g;erw[Bf,Zo,KT.tup.injEq];by_cases e:x=g
  .subst e;simp
  .rw[if_neg<|λz=>e<|TZ z,a];simp[Cj e]
def
YP(neg:q')(gs:U (U I))(g:U I):Dy neg (Ax g) (.X (Zb (AI L rs gs)) .d)=Z (.bl (neg != decide (g∈gs))):=by
 let hok:=Hi<|gk g;rw[Lk]at hok;rw[L6,hok];show(if DU (.Q<|gk g) (AI L rs gs)=J' then _ else _)=_
 rw[if_pos<|YO L rs _ gs,T0];by_cases c:g∈gs<;>simp[c]
def
NX{g:U I}(h:g∈gs):Dq (.X (Zb (AI L rs gs)) .d) (Ax g)=Z (.X (CN L g rs)):=by
 let hok:=Hi<|gk g;simp_all [Lk,gk,AI,YO,T0]
def
ZDf(gs:U (U I)):NA [.X (Zb (AI L rs gs)) .d]=Z (.u gs.a):=by
 have:(AI L rs gs).ϝ (λp=>!Fs p.1)=J':=by rw[M7,Dp];show λe _=>rfl
 rwa[NA,FV,this,Bg]
def
ZDl{g:U I}(h:g∉gs):ZT (AI L rs gs) (.Q (gk g)) (.X (CN L g rs))=AI L rs (gs++[g]):=by
 unfold ZT;rw[T0,if_neg h];simp
def
YQ(gs:U (U I)):((AI L rs gs).j λp=>kD p.1)=gs.j Ax:=by
 rw[B4];show List.map_congr_left λg _=>Lk g
end
abbrev FE:U Ae:=["axes","standing","tables"]
abbrev kB:Kd:=.i FE "Book"
abbrev CP(L:AW)(R:U D)(t:I):Cl:=.mix kB [#v[L.j LD],#v[R],.Ϝ t]
abbrev BD(L:AW)(R T:U D):D:=.X [.X (L.j LD),.X R,.X T .d] kB
def
ZFz:(("tables":Ae)=="axes")=O':=by symm
def
ZFp:(("tables":Ae)=="standing")=O':=by symm
variable {L:AW}{R T:U D}{G:Gh}{b t:I}
def
IQ:CJ "Book" "axes" (BD L R T)=Z (.X (L.j LD)):=rfl
def
Qs:CJ "Book" "standing" (BD L R T)=Z (.X R):=rfl
def
JY:CJ "Book" "tables" (BD L R T)=Z (.X T .d):=rfl
def
JZ(m:I)(a:m≠0)(c:G[b]?=Z (CP L R t))(e:G[t]?=Z (.ϯ .d T)):EY m G (.Ϝ b)=.B (BD L R T):=by
 simp_all
def
ZIj(a:G[b]?=Z (CP L R t)):EY 0 G (.Ϝ b)=.no:=by
 simp_all
def
lC{xs:U IV}(a:G[b]?=Z (CP L R t)):RV "Book" "tables" (xs,G) (Z b)=Z t:=by simp_all [List.lookup,ZFz,ZFp]
end
def
EM(b:q'):Z4 (Z (.bl b))=Z b:=rfl
def
ZAA:FE.Μ "keep"=O':=by symm
variable {L:AW}{R T:U D}{G:Gh}{b t:I}{x:D}
variable(h0:G[b]?=Z (CP L R t))(ht:G[t]?=Z (.ϯ .d T))
include h0 ht
def
lD:vw 2 ([.Ϝ b,.B x],G)=[.B (BD L R T),.B x]:=by erw[vw,Bf,Dn,JZ 2 (by ext) h0 ht];rfl
end
def
ZA7{L:AW}{g:U I}(e:g.a=L.a){a:U Row}(b:∀r∈a,AR L r.1):∀r∈HX (qs L g) a,r.1.a=L.a:=λr h=>by
 let(c,d,rfl):=Bm.mp h;have:=(b c d).϶;simp_all [qs,TK]
abbrev DC(L:AW)(g:U I)(a:U Row):U B9:=MD (HX (qs L g) a) []
def
T2{L:AW}{g:U I}(b:g.a=L.a){a:U Row}(c:∀r∈a,AR L r.1):BH (DC L g a) L.a a.a:=by
 have:=BH.tab (HX (qs L g) a) (BH.Ϧ L.a)<|ZA7 b c;rw[Iy,show(HX (qs L g) a).a=a.a from Bg _]at this;show this
def
J0(m:I)(k:U At):BN m (Aj k)=J':=by
 show FZ λd hd=>by let(a,_,rfl):=Bm.mp hd;ext a<;>rfl
def
ZBn(a b:U At):Bc (Aj a) (Aj b)=decide (a=b):=by simp_all [Aj,Yn]
abbrev zg(L:AW):U I:=L.j λ_=>0
def
lE(L:AW):Lf L=Ax (zg L):=by
 simp_all
def
T4{G:Gh}{b t:I}{c:Cl}(a:b≠t):(G.Χ t c)[b]?=G[b]?:=E2<|Cj a
def
Ll{G:Gh}{t:I}{c d:Cl}(h:G[t]?=Z d):(G.Χ t c)[t]?=Z c:=Ho (Dk.mp h).1
def
lF(L:AW)(g:U I)(rs:U Row):BN 1 (.X (CN L g rs))=J':=by
 show FZ λd hd=>by
  let(k,_,rfl):=Bm.mp hd;have:∀k:U At,BN 1 (Aj k)=J':=λk=>by
   show FZ λd hd=>by let(a,_,rfl):=Bm.mp hd;ext a<;>rfl
  show(BN 1 (Aj k)&&(BN 1 (vC _)&&J'))=J'
  rw[this];rfl
variable {L:AW}{G:Gh}{b t:I}{rs:U Row}{g:U I}
variable(h:BX L)(hg:E1 L g)(h0:G[b]?=Z (CP L (rs.j Zc) t))(ht:G[t]?=Z (.ϯ .d (Zb (AI L rs gs))))
include h hg h0 ht
def
lG{gs':U (U I)}(h0:G'[b]?=Z (CP L (rs.j Zc) t))(ht:G'[t]?=Z (.ϯ .d (Zb (AI L rs gs'))))(a:g∈gs'):Xy ([.Ϝ b,.B (Ax g)],G')=.Ϯ ‹((CN L g rs).a:W')› G':=by
 let c:=JY (L:=L) (R:=rs.j Zc) (T:=Zb<|AI L rs gs');let hd:=NX L rs a;let v:=lD (x:=Ax g) h0 ht;generalize CN L g rs=Y,Ax g=e,D.lst (Zb<|AI L rs gs') .d=TT,BD L (rs.map Zc) (Zb<|AI L rs gs')=B at *;erw[Xy,iT,v,Zn,Za,Zl,A5,HH,IN,Eg,Fd,C1,c,hd,HB,pk,show Zv [.lst Y]=Z (.int Y.length)from rfl,jE,jO,show ∀i,BN 2 (.int i)=J' from λ_=>rfl,if_true,xD,Hc,CM]
def
ZB7(a:g∈gs):Qa [.Ϝ b,.B (Ax g)] G=Z (‹((CN L g rs).a:W')›,G):=by
 let f:=Qr h hg;let i:=lG h hg h0 ht h0 ht a;let l1:=IQ (L:=L) (R:=rs.j Zc) (T:=Zb<|AI L rs gs);let j:=JY (L:=L) (R:=rs.j Zc) (T:=Zb<|AI L rs gs);let c:=YP L rs J' gs g;rw[decide_eq_true a]at c;let v:=lD (x:=Ax g) h0 ht;generalize Ax g=k,D.X (Zb<|AI L rs gs) .d=TT,BD L (rs.j Zc) (Zb<|AI L rs gs)=B at *;let e:P9 ([.Ϝ b,.B k],G)=.Ϯ ‹((CN L g rs).a:W')› G:=by
  rwa[P9,XA,Xz,Xw,v,l1,f,EM,Xx,j,c,bne_self_eq_false,i]
 show Eq.I (fi rfl e) rfl
def
ZxQ(p:∀r∈rs,AR L r.1)(q:rs.a<500)(j:b≠t)(o:g∉gs)(s:gs.a<12):Qa [.Ϝ b,.B (Ax g)] G=Z (‹((CN L g rs).a:W')›,G.Χ t (.ϯ .d (Zb (AI L rs (gs++[g]))))):=by
 let u:=Qr h hg;let a:=lG (gs':=gs++[g]) (G':=G.Χ t<|.ϯ .d<|Zb<|AI L rs<|gs++[g]) h hg h0 ht (by rw[T4 j];show h0) (Ll ht) (by simp);let l1:=IQ (L:=L) (R:=rs.j Zc) (T:=Zb<|AI L rs gs);let w:=JY (L:=L) (R:=rs.j Zc) (T:=Zb<|AI L rs gs);let x:=Qs (L:=L) (R:=rs.j Zc) (T:=Zb<|AI L rs gs);let y:Dy J' (Ax g) (.X (Zb<|AI L rs gs) .d)=Z (.bl J'):=by rw[YP,decide_eq_false o];rfl
 let z:=ZDf L rs gs;let c:=ZDl L rs o;let k:=FV<|AI L rs gs;let hok:=Hi<|gk g;rw[Lk]at hok;let l:=YO L rs (gk g) gs;let f:(AI L rs gs).a<AE:=by rw[Bg];show BY (show gs.a<1000 by lia) (by ext)
 let i:=li h hg.1 rs p q;let m:=lC (xs:=[.Ϝ b,.B<|Ax g]) h0;let A:L0 (.u gs.a) (.u 12)=Z (.bl O'):=by
  change Z (D.bl<|decide<|(12:W')<=(gs.a:W'))=_
  rw[decide_eq_false ∅]
 let C:=lF L g rs;let E:=JZ 2 (by ext) h0 ht;let H:=JZ 1 (by ext) h0 ht;generalize AI L rs (gs++[g])=n at *;generalize Ax g=v,CN L g rs=Y,rs.j Zc=R,AI L rs gs=M,BD L (rs.j Zc) (Zb<|AI L rs gs)=B at *;suffices e:P9 ([.Ϝ b,.B v],G)=.Ϯ ‹Y.a› (G.Χ t<|.ϯ .d<|Zb n)from Eq.I (fi rfl e) rfl
 rwa[P9,XA,Xw,E,l1,u,EM,Xz,Xx,H,w,x,y,z,A,i,EG,C,m,RZ,ht,k,hok,l,f,c,a]
end
def Ew(a b:U I):q':=Bp (gk a) (gk b)
def
ZHf:TO Ew:=#[λa b h=>Fe.asym _ _ h,λa b c h=>Fe.neg _ _ _ h,λa b d e=>TZ<|Fe.anti _ _ d e]
abbrev YR(g:U I):U D:=g.j λj:I=>D.u j
def
lH(n:I):∀a b:U I,Gb (ltN n) (YR a) (YR b)=Z (Ew a b)
 |[],[]=>rfl
 |[],_::_=>rfl
 |_::_,[]=>rfl
 |i::a,j::b=>by
  let d:=lH n a b;unfold Ew at d ⊢;rwa[YR,gk,Gb,Bp,AL,F0]at d ⊢;by_cases c:i=j
  .subst c;erw[Bc,beq_self_eq_true,if_true,d]
  .let e:¬ (i:W')=(j:W'):=Nat.ToInt.of_diseq rfl rfl c;simp_all [HW]
def
YS(h:gs.a<500)(c:∀g∈gs,g≠[]):Ge Gi (gs.j Ax)=Z ((ZA Ew gs).j Ax):=Yz Ax ZHf J' gs h Ax (λ_ _=>rfl) (λg d=>by
  cases g with
  |nil=>show absurd rfl<|c _ d
  |cons a r=>show#[_,_,rfl]) λa _ b _=>lH 5 a b
def
ZDE(a:BM):BN 1 (LD a)=J':=by
 show(!vk 1 .l&&Dr 1 (a.j Aj))=J'
 rw[FZ λd hd=>by let(l,_,rfl):=Bm.mp hd;show J0 1 l];rfl
def
T5(L:AW):Dr 1 (L.j LD)=J':=FZ λd hd=>by let(l,_,rfl):=Bm.mp hd;show ZDE l
def
YT(L:AW)(rs:U Row):∀gs:U (U I),Dr 1 (Zb (AI L rs gs))=J'
 |[]=>rfl
 |g::gs=>by
  show(BN 1 (Aj<|gk g)&&(BN 1 (.X<|CN L g rs)&&Dr 1 (Zb<|AI L rs gs)))=J'
  rw[J0,lF,YT L rs gs];rfl
def
lI{L:AW}(h:BX L)(rs:U Row)(j:∀r∈rs,AR L r.1)(k:rs.a<500)(gs:U (U I))(l:gs.μ)(m:∀g∈gs,g.a=L.a)(n:gs.a<=12):S8 [#v[L.j LD],#v[rs.j Zc],#v[gs.j Ax]]=Z (.τ (Zb (AI L rs gs)) .d):=by
 let f:=Zy (b:=Zd 0) (e:=Xu) (ρ:=[.no,#v[L.j LD],#v[rs.j Zc]]) Ax (λg=>Hk (gk g,.X<|CN L g rs)) gs λg o=>#[[.B<|Ax g,#v[L.j LD],#v[rs.j Zc]],rfl,by
  let p:=li h (m g o) rs j k;change _=Z (D.Q [Aj<|gk g,.X<|CN L g rs])
  rw[Lk];rwa[Xu,p,EG]]
 rw[show gs.j (λg=>Hk (gk g,.X<|CN L g rs))=(gs.map λg=>((gk g,.X<|CN L g rs):KE)).map Hk by rw[B4];rfl]at f;let i:=TR (gs.map λg=>((gk g,.X<|CN L g rs):KE)) [] (by
  rw[DP,B4];show List.pairwise_map.Ϛ<|l.imp λa e=>a<|TZ e) (by simp;lia)
 rw[DP,show Cd (gs.j λg=>((gk g,.X<|CN L g rs):KE))=AI L rs gs by unfold Cd;rw[B4];rfl]at i;let q:=Zt (gs.map Ax) (by simp;lia);let c:Fv [] ((gs.map λg=>((gk g,.X<|CN L g rs):KE)).map Hk)=Z (AI L rs gs):=i;generalize L.map LD=W,rs.map Zc=R,gs.map Ax=s,(gs.map λg=>((gk g,.X<|CN L g rs):KE)).j Hk=Y,AI L rs gs=t at *;apply Zp rfl ?_;change Xv [#v[W],#v[R],#v[s]]=_
 rwa[Xv,FY,Zi,q,show Zm 1 [0,1] [#v[W],#v[R],#v[s]]=[.no,#v[W],#v[R]]from rfl,f,c,Ij]
def GP(L a:AW)(rs ñ:U Row)(b:U (U I)):U D:=b.flatMap λg=>(Lj (Ff (DC L g rs)) (Ff (DC a g ñ))).j λk=>D.Q [Ax g,Aj k]
variable {L L':AW}{rs ñ:U Row}(h:BX L)(h':BX L')(hL:L.a=L'.a)(hr:∀r∈rs,AR L r.1)(hr':∀r∈ñ,AR L' r.1)(hl:rs.a+ñ.a<500)(hg:∀g∈gs,g.a=L.a)
include h h' hL hr hr' hl
def
ZC8{g:U I}(hg:g.a=L.a):SX [#v[CN L g rs],#v[CN L' g ñ]]=Z (.τ ((Lj (Ff (DC L g rs)) (Ff (DC L' g ñ))).j Aj))/\(Lj (Ff (DC L g rs)) (Ff (DC L' g ñ))).a<500:=by
 let i:=h.n4
 let f:=h.n1
 let ok:=T2 hg hr
 let a:=T2 (hg.I hL) hr'
 let p:=ZD Bp (Zu (DC L g rs))
 let c:=ZD Bp (Zu (DC L' g ñ))
 let l1:(Zu (DC L g rs)).a<=rs.a:=by unfold Zu;rw[Bg];show ok.϶
 let j:(Zu (DC L' g ñ)).a<=ñ.a:=by unfold Zu;rw[Bg];show a.϶
 have:=ZFl (Ff (DC L g rs)) (Ff (DC L' g ñ)) (by rw[TU];show p.nodup_iff.Ϛ ok.nd) (by rw[TU];show c.nodup_iff.Ϛ a.nd) (lq _) (lq _) (ZA Bp (Zu (DC L g rs))++ZA Bp (Zu (DC L' g ñ)))
  (λe d=>J5 _ (by rw[<- TU];show TL d)) (λe d=>Dv _ (by rw[<- TU];show TL d)) (by rw[F4,p.ϋ,c.ϋ];lia) λk b=>by
   have:k.a=L.a:=by
    rcases Cz.mp b with b|b
    .show ok.kl k (p.Ϫ.mp b)
    .rw[a.kl k (c.Ϫ.mp b),hL]
   show#[λz=>by rw[z]at this;simp at this;lia,∅]
 rw[<- lm,<- lm]at this
 show this
include hg
def
ZDy:∀(a:U (U I))(æ:U D)(l:Sl),(∀g∈a,g∈gs)->æ.a+500*a.a<=100000->(∀d∈æ,BN 2 d=J')->∃i,ZC (Zd 3) S5 (a.j Ax) [.B (.X (Zb (AI L rs gs)) .d),.B (.X (Zb (AI L' ñ gs)) .d),.τ æ,l]=.α [.B (.X (Zb (AI L rs gs)) .d),.B (.X (Zb (AI L' ñ gs)) .d),.τ (æ++GP L L' rs ñ a),i]/\∀d∈æ++GP L L' rs ñ a,BN 2 d=J':=by
 intro a;induction a with|nil=>show λæ l _ _ m=>#[l,by rw[GP,List.flatMap_nil,C6];rfl,by rw[GP,List.flatMap_nil,C6];show m]|cons g a q=>
  intro æ l p r m;let j:=p g Bo;let(e,E):=ZC8 h h' hL hr hr' hl<|hg g j;rw[show GP L L' rs ñ (g::a)=(Lj (Ff<|DC L g rs)<|Ff<|DC L' g ñ).map (λk=>D.Q [Ax g,Aj k])++GP L L' rs ñ a from List.flatMap_cons,<- DV];generalize Lj (Ff<|DC L g rs) (Ff<|DC L' g ñ)=c at *;let s:=NX L rs j;let t:=NX L' ñ j;let u:=Zy (b:=Zd 0) (e:=Xp) (ρ:=[.no,.val<|Ax g]) Aj (λk=>D.Q [Ax g,Aj k]) c λk _=>#[[.B<|Aj k,.B<|Ax g],rfl,by
   rwa[Xp]]
  let v:=Zt (c.j Aj) (by simp;lia);let w:∀d∈(c.j λk=>D.Q [Ax g,Aj k]),BN 2 d=J':=λd hd=>by
   let(k,_,rfl):=Bm.mp hd;show(BN 2 (Ax g)&&(BN 2 (Aj k)&&J'))=J'
   rw[<- Lk,J0,J0];rfl
  let f:(c.j λk=>D.Q [Ax g,Aj k]).a=c.a:=by simp
  rw[Cr]at r;let n:æ.a+(c.j λk=>D.Q [Ax g,Aj k]).a<=AE:=Bu (show _<=100000 by rw[f];lia) (by ext);let y:S5 [.B<|.lst (Zb<|AI L rs gs) .d,.val<|.lst (Zb<|AI L' ñ gs) .d,.own æ,.val<|Ax g]=.next [.val<|.lst (Zb<|AI L rs gs) .d,.val<|.lst (Zb<|AI L' ñ gs) .d,.own<|æ++c.map λk=>D.Q [Ax g,Aj k],.B<|Ax g]:=by
   generalize Ax g=F,D.X (Zb<|AI L' ñ gs) .d=z,D.lst (Zb<|AI L rs gs) .d=A,CN L g rs=H,CN L' g ñ=G,(c.map λk=>D.Q [Ax g,Aj k])=Y at *;erw[S5,Zi,show Zm 1 [3] [.val A,.val z,.own æ,.val F]=[.no,.val F]from rfl,Zh,Za,A5,HH,IN,Eg,s,t,C1,Fd,Zl,e,EG,Zs,v,u,Nc,EB,if_pos n,MA,MB,Ze]
  let(i,B,o):=q (æ++c.j λk=>D.Q [Ax g,Aj k]) (.B<|Ax g) (λx C=>p x<|Bv _ C) (by rw[F4,f];lia) (λd hd=>by
   rcases Cz.mp hd with hd|hd
   .show m d hd
   .show w d hd)
  apply#[i,?_,o];rw[Bf];erw[ZC,show Zd 3 (Ax g) [.val<|.lst (Zb<|AI L rs gs) .d,.val<|.lst (Zb<|AI L' ñ gs) .d,.own æ,l]=Z [.val<|.lst (Zb<|AI L rs gs) .d,.val<|.lst (Zb<|AI L' ñ gs) .d,.own æ,.val<|Ax g]from rfl,y,B]
def
ZFT(f:gs.a<=12):Xr [.B (.X (Zb (AI L rs gs)) .d),.B (.X (Zb (AI L' ñ gs)) .d)]=Z (.τ (GP L L' rs ñ (ZA Ew gs)))/\Dr 2 (GP L L' rs ñ (ZA Ew gs))=J':=by
 let i:=h.n1;let j:NB (Z<|.X (Zb<|AI L rs gs) .d)=Z ((ZA Ew gs).j Ax):=by
  show(EU<|Zb<|AI L rs gs).bind (λa=>Ge Gi<|a.map λp=>kD p.1)=_
  rw[FV];change Ge Gi ((AI L rs gs).j λp=>kD p.1)=_
  rw[YQ];show YS ∅ λg b z=>by have:=hg g b;rw[z]at this;simp at this;lia
 let(k,e,c):=ZDy h h' hL hr hr' hl hg (ZA Ew gs) [] .no (λg b=>(ZD Ew _).Ϫ.mp b) (by rw[(ZD Ew _).ϋ];simp;lia) (λ_ h=>nomatch h);rw[DP]at e c;apply#[?_,FZ c];generalize D.X (Zb<|AI L rs gs) .d=l,D.X (Zb<|AI L' ñ gs) .d=m,GP L L' rs ñ (ZA Ew gs)=n at *;apply Zp rfl ?_;change Xq [.B l,.B m,.no,.no]=_
 rwa[Xq,show Zf (Z ([]:U D))=Z []from rfl,ZX,C2,j,e,EB,ZK]
end
def
lJ{G:Gh}{q m:I}(a:m≠0)(h:G[q]?=Z (.ϯ .d xs)):EY m G (.Ϝ q)=.B (.X xs .d):=by
 simp_all
def
Lm{G:Gh}{n:I}{c d:Cl}(h:G[n]?=Z c):(G++[d])[n]?=Z c:=by
 rw[Hw (Dk.mp h).1];show h
def
ZER{L a:AW}(h:BX L)(h':BX a)(s:L.a=a.a){rs ñ:U Row}(A:∀r∈rs,AR L r.1)(c:∀r∈ñ,AR a r.1)(u:rs.a+ñ.a<500)(B:gs.μ)(v:∀g∈gs,g.a=L.a)(f:gs.a<=12){G:Gh}{b t:I}(i:G[b]?=Z (CP a (ñ.j Zc) t))(k:G[t]?=Z (.ϯ .d (Zb (AI L rs gs))))(n:b≠t):XH [.Ϝ b] G=Z (.Ϝ (G.a+1),G.Χ b (CP a (ñ.j Zc) G.a)++[.ϯ .d (Zb (AI a ñ gs)),.ϯ .l (GP L a rs ñ (ZA Ew gs))]):=by
 let(e,C):=ZFT h h' s A c u v f;generalize GP L a rs ñ (ZA Ew gs)=E at *;let o:=lI h' ñ c (Nat.lt_of_add_left_lt u) gs B (λg H=>(v g H).I s) f;let K:=YT a ñ gs;let p:Mf [.X (Zb<|AI L rs gs) .d]=Z (gs.j Ax):=by rw[VB,YQ]
 generalize N:ñ.j Zc=R at *;generalize Zb (AI a ñ gs)=j,Zb (AI L rs gs)=m at *;let q:(G.Χ b (CP a R G.a)++[Cl.ϯ .d j])[G.a]?=Z (.ϯ .d j):=by
  rw[IZ (by simp)];simp
 let F:EY 2 (G.Χ b (CP a R G.a)++[Cl.ϯ .d j]) (.Ϝ t)=.B (.X m .d):=lJ (by ext)<|Lm (by rw[T4<|Cj n];show k);suffices M:XG ([.Ϝ b,.no],G)=.Ϯ (.Ϝ<|G.a+1) (G.Χ b (CP a R G.a)++[.ϯ .d j,.ϯ .l E])from Eq.I (fi rfl M) rfl
 rwa[XG,jh,jc,lC i,xP,Option.bind_some,if_pos (Dk.mp k).1,jg,jd,JZ 1 (by ext) i k,show EY 1 G (.cel t)=.val (.lst m .d)from lJ (by ext) k,Kn,Do,IQ (L:=a) (R:=R) (T:=m),Qs (L:=a) (R:=R) (T:=m),p,o,UM,jG,jL,K,HN,Lm i,true_and,show(3:I)<1000 by ext,show Internal.putN "tables" FE=FE by symm,show ∀x y w z:IV,D4 "tables" z FE [x,y,w]=[x,y,z]from λx y w z=>by erw[D4,if_neg (show ¬ ("axes":Ae)="tables" by symm),if_neg (show ¬ ("standing":Ae)="tables" by symm),if_true],List.set_append_left _ _ (Dk.mp i).1,jf,je,JZ 2 (by ext) (Lm<|Ll i) q,F,Ef,JY (L:=a) (R:=R) (T:=j),e,Jf,C,F4,List.length_set,DV,F9,DP]
def
Lp{G:Gh}{q:I}(h:G[q]?=Z (.ϯ .l xs)):EY 2 G (.Ϝ q)=#v[xs]:=by
 simp_all
def
ZxV{G:Gh}{n:I}{c:Cl}(h:G[n]?=Z c):G.Χ n c=G:=by
 apply(LX);intro i;by_cases e:n=i
 .subst e;rw[Ll h,h]
 .rw[E2 e]
def
ZEz(rs:U Row)(r:Row)(d:rs.a<200){G:Gh}{n:I}(h:G[n]?=Z (.ϯ .l (rs.j Zc))):Wc [.Ϝ n,.B (Zc r)] G=Z (.B .Ε,G.Χ n (.ϯ .l ((rs++[r]).j Zc))):=by
 let b:L0 (.u ((rs.j Zc).a:W')) (.u 200)=Z (.bl O'):=by
  change Z (D.bl<|decide<|(200:W')<=((rs.j Zc).a:W'))=_
  grind [Bg]
 let c:(rs.j Zc).a<AE:=by rw[Bg];show BY (show rs.a<1000 by lia) (by ext)
 let a:Zv [.X<|rs.j Zc]=Z (.u ((rs.j Zc).a:W')):=rfl;rw[Gc,Bf,Dn];generalize rs.j Zc=R,Zc r=f at *;let e:Wb ([.Ϝ n,.B f],G)=.α ([.Ϝ n,.B f],G.Χ n<|.ϯ .l<|R++[f]):=by
  rwa[Wb,Lp h,a,b,RY,h,if_pos c]
 show Eq.I (fi rfl e) rfl
def
Qt(r:Row):BN 2 (Zc r)=J':=by
 show(BN 2 (Aj r.1)&&(BN 2 (.u r.2)&&J'))=J'
 rw[J0];rfl
def
T6(rs:U Row):Dr 2 (rs.j Zc)=J':=FZ λd hd=>by let(r,_,rfl):=Bm.mp hd;show Qt r
def
YU(r s:Row):Bc (Zc r) (Zc s)=decide (r=s):=by
 let(k,x):=r;let(l,y):=s;show(Bc (Aj k) (Aj l)&&(Bc (.u x) (.u y)&&J'))=_
 rw[ZBn];simp[Prod.ext_iff]
def
MH(n:I)(r:Row):AL (n+2) (Zc r)=J':=by
 show(AL (n+1) (Aj r.1)&&(AL (n+1) (.u r.2)&&J'))=J'
 rw[IK];rfl
def
Qu(rs:U Row):(rs.j Zc).ϝ (AL 12)=J':=by
 rw[Dp];intro d hd;let(r,_,rfl):=Bm.mp hd;show MH 10 r
def
YV(r:Row)(rs:U Row):G5 (Zc r) (rs.j Zc)=decide (r∈rs):=by
 unfold G5;induction rs with|nil=>rfl|cons s rs a=>
  rw[Bf,List.any_cons,a,YU];by_cases c:s=r
  .subst c;simp
  .have:¬ r=s:=λe=>c e.Γ;simp[c,this]
def
YW(r:Row):∀rs:U Row,r∈rs->∃j,(rs.j Zc).findIdx? (λz=>Bc z (Zc r))=Z j/\(rs.j Zc).ϛ j=(rs.erase r).j Zc
 |s::rs,h=>by
  by_cases c:s=r
  .subst c;show#[0,by simp[List.findIdx?_cons,YU],by simp]
  .let a:r∈rs:=by
    rcases BJ.mp h with e|h
    .show absurd e.Γ c
    .show h
   let(j,b,d):=YW r rs a;apply#[j+1,?_,?_]
   .erw[Bf,List.findIdx?_cons,YU,decide_eq_false c,b,FQ,if_false,Fd]
   .rw[List.erase_cons_tail (by exists c)];erw[Bf,List.eraseIdx_cons_succ,d]
def
ZCZ{rs:U Row}{r:Row}(a:r∈rs){G:Gh}{n:I}{xs:U IV}(h:G[n]?=Z (.ϯ .l (rs.j Zc))):Pq (Z n) (Z (Zc r)) (xs,G)=Z (.B .Ε,G.Χ n (.ϯ .l ((rs.erase r).j Zc))):=by
 let(j,b,c):=YW r rs a;rwa[Pq,h,F0,MH 10 r,Qu rs,b,c]
def
ZCa{rs:U Row}{r:Row}(a:r∈rs){G:Gh}{n:I}(h:G[n]?=Z (.ϯ .l (rs.j Zc))):Wf [.Ϝ n,.B (Zc r)] G=Z (.B .Ε,G.Χ n (.ϯ .l ((rs.erase r).j Zc))):=by
 let b:Db J' (Zc r) (.X<|rs.j Zc)=Z (.bl O'):=by
  rwa[Db,F0,MH 10 r,Qu rs,YV,decide_eq_true a]
 let c:=ZCZ a h (xs:=[.Ϝ n,.B<|Zc r]);generalize rs.j Zc=R,Zc r=f,(rs.erase r).j Zc=d at *;let e:We ([.Ϝ n,.B f],G)=.α ([.Ϝ n,.B f],G.Χ n<|.ϯ .l d):=by
  rwa[We,Lp h,b,c]
 show Eq.I (fi rfl e) rfl
def B6(rs:U Row)(c:Ce):U Row:=bif c.1 then rs++[c.2]else rs.erase c.2
def
ZBx(rs:U Row)(c:Ce):(B6 rs c).a<=rs.a+1:=by
 unfold B6;cases c.1
 .show KH<|List.length_erase_le ..
 .simp
def
lK{rs ñ:U Row}(c:Ce)(h:rs.Perm ñ):(B6 rs c).Perm (B6 ñ c):=by
 unfold B6;cases c.1
 .show h.erase _
 .show h.Ϭ _
def
lL{rs:U Row}{c:Ce}{r:Row}(h:r∈B6 rs c):r∈rs\/r=c.2:=by
 unfold B6 at h;cases a:c.1 with
 |true=>rw[a]at h;exists h
 |false=>rw[a]at h;show .U<|List.mem_of_mem_erase h
def FG(L:AW):U Row->U Ce->V'
 |_,[]=>True
 |a,c::b=>(AR L c.2.1/\(c.1=O'->c.2∈a)/\(c.1=J'->a.a<200))/\FG L (B6 a c) b
def
lM{L:AW}(h:BX L)(a x2:IV){rs:U Row}{c:Ce}(e:c.1=J'->rs.a<200)(g:AR L c.2.1)(i:c.1=O'->c.2∈rs){G:Gh}{n:I}(d:G[n]?=Z (.ϯ .l (rs.j Zc))):Lc ([#v[L.j LD],a,x2,.Ϝ n,.B (AS c)],G)=.α ([#v[L.j LD],a,x2,.Ϝ n,.B (AS c)],G.Χ n (.ϯ .l ((B6 rs c).j Zc))):=by
 unfold Lc B6;let f:=lw h c g;let(b,r):=c;cases b with
 |true=>rwa[f,EM,show Ar (AS (J',r)) (.int 0)=Z (Co J')from rfl,show Ar (AS (J',r)) (.int 1)=Z (Aj r.1)from rfl,show Ar (AS (J',r)) (.int 2)=Z (.int r.2)from rfl,Qp J',show D.tup [Aj r.1,.int r.2]=Zc r from rfl,Qt r,ZEz rs r (e rfl) d,cond_true]
 |false=>rwa[f,EM,show Ar (AS (O',r)) (.int 0)=Z (Co O')from rfl,show Ar (AS (O',r)) (.int 1)=Z (Aj r.1)from rfl,show Ar (AS (O',r)) (.int 2)=Z (.int r.2)from rfl,Qp O',show D.tup [Aj r.1,.int r.2]=Zc r from rfl,Qt r,ZCa (i rfl) d,cond_false]
def
lN{L:AW}(h:BX L)(b x2:IV){n:I}:∀(cs:U Ce)(rs:U Row)(d:IV)(G:Gh),FG L rs cs->G[n]?=Z (.ϯ .l (rs.j Zc))->∃a,KU 4 Lc (cs.j AS) ([#v[L.j LD],b,x2,.Ϝ n,d],G)=.α ([#v[L.j LD],b,x2,.Ϝ n,a],G.Χ n (.ϯ .l ((cs.Ϗ B6 rs).j Zc)))
 |[],rs,d,G,_,e=>#[d,by rw[List.foldl_nil,ZxV e];rfl]
 |c::cs,rs,d,G,⟨⟨g,i,j⟩,k⟩,e=>by
  let(a,f):=lN h b x2 cs (B6 rs c) (.B<|AS c) (G.Χ n<|.ϯ .l<|(B6 rs c).j Zc) k<|Ll e;apply⟨a,?_⟩;rw[List.set_set]at f;rwa[KU,lM h b x2 j g i e];show f
def
YX{L:AW}:∀(cs:U Ce){rs:U Row},(∀r∈rs,AR L r.1)->FG L rs cs->∀r∈cs.Ϗ B6 rs,AR L r.1
 |[],_,h,_=>h
 |c::cs,rs,h,⟨⟨b,_⟩,d⟩=>YX cs (λr a=>by
  rcases lL a with a|rfl
  .show h r a
  .show b) d
def
YZ:∀(cs:U Ce)(rs:U Row),(cs.Ϗ B6 rs).a<=rs.a+cs.a
 |[],_=>A4 _
 |c::cs,rs=>by
  have:=ZBx rs c;have:=YZ cs<|B6 rs c;rw[Md,Cr];lia
def
lO:∀(cs:U Ce){rs ñ:U Row},rs.Perm ñ->(cs.Ϗ B6 rs).Perm (cs.Ϗ B6 ñ)
 |[],_,_,h=>h
 |c::cs,_,_,h=>lO cs<|lK c h
def
Zwv{L:AW}(h:BX L){rs:U Row}(d:∀r∈rs,AR L r.1){cs:U Ce}(m:rs.a+cs.a<450)(c:FG L rs cs)(G:Gh):XR [#v[L.j LD],#v[rs.j Zc],#v[cs.j AS]] G=Z (#v[(ZA Dm (cs.Ϗ B6 rs)).j Zc],G++[.ϯ .l ((cs.Ϗ B6 rs).j Zc)]):=by
 let(o,e):=lN h #v[rs.j Zc] #v[cs.j AS] (n:=G.a) cs rs .no (G++[.ϯ .l<|rs.map Zc]) c (by simp);let sp:=YX cs d c;let p:=YZ cs rs;generalize cs.foldl B6 rs=a at *;rw[show(G++[Cl.dat .l<|rs.map Zc]).set G.length (.dat .l<|a.map Zc)=G++[.dat .l<|a.map Zc] by simp]at e;let q:=h.n4;let f:=ZvA a ∅ λr g=>by have:=(sp r g).϶;lia
 let b:EY 2 (G++[.ϯ .l<|a.j Zc]) (.Ϝ G.a)=#v[a.j Zc]:=Lp (by simp);let i:=T6<|ZA Dm a;let j:=T6 rs;generalize L.j LD=s,cs.j AS=C,a.j Zc=W,(ZA Dm a).j Zc=Y,rs.j Zc=R at *;suffices k:XQ ([#v[s],#v[R],#v[C],.no,.no],G)=.Ϯ #v[Y] (G++[.ϯ .l W])from Eq.I (fi rfl k) rfl
 rwa[XQ,jq,jj,Do,show Er [.lst R]=Z R from rfl,jG,jL,j,jo,jl,Mi,VP,e,jn,jm,b,Me,f,i,xF]
def
ZB8{L:AW}(h:BX L):XF [.Ϝ 0,#v[L.j LD]] [.mix (.i [] "Book") []]=Z (.B .Ε,[CP L [] 1,.ϯ .d (Zb (AI L [] [zg L]))]):=by
 let g:=h.al;let j:=kz h;let f:=lI h [] (λ_ h=>nomatch h) (by ext) [zg L] (by simp) (by simp) (by simp);rw[Dn,Bf,Dn,<- lE]at f;let k:=Zy (b:=Zd 0) (e:=iZ) (ρ:=[.no]) LD LD L λl _=>#[[.B<|LD l],rfl,rfl];let m:=Zt (L.j LD) (by have:=h.n4;simp;lia);let n:=T5 L;let o:=YT L [] [zg L];let p:CJ "Book" "axes" (.X [.X<|L.j LD,.X []]<|.i ["axes","standing"] "Book")=Z (.X<|L.j LD):=rfl;generalize Zb (AI L [] [zg L])=TT at *;generalize c:L.j LD=a at *;suffices e:Ta ([.Ϝ 0,#v[a]],[.mix (.i [] "Book") []])=.α ([.Ϝ 0,#v[a]],[.mix kB [#v[a],#v[[]],.Ϝ 1],.ϯ .d TT])from by
  show(match Ta ([.Ϝ 0,#v[a]],[.mix (.i [] "Book") []])with | .ret x q=>Z (x,q) | .next s=>Z (.B .Ε,s.2)|_=>J)=_
  rw[e,<- c]
 rwa[Ta,ja,i0,g,EM,i9,i3,Zi,show ∀V:Sl,Zm 1 [] [V,#v[a]]=[.no]from λ_=>rfl,m,k,jG,jL,n,xF,HN,and_self,true_and,putN,D4,show(0:I)<1000 by ext];rwa[i8,i4,show Zf (Z ([]:U D))=Z []from rfl,jG,jL,show Dr 2 []=J' from rfl,xF,HN,Iy,true_and,show(1:I)<1000 by ext,show Internal.putN "standing" ["axes"]=(["axes","standing"]:U Ae) by symm,show ∀x y:IV,D4 "standing" y ["axes"] [x]=[x,y]from λx y=>by erw[D4,if_neg (show ¬ ("axes":Ae)="standing" by symm)],i7,i5,show EY 1 [.mix (.i ["axes","standing"] "Book") [#v[a],#v[[]]]] (.cel 0)=.val (.lst [.lst a,.lst []]<|.i ["axes","standing"] "Book")from rfl,Kn,p,j,f,UM,o,F9,DP,HV,show(2:I)<1000 by ext,show Internal.putN "tables" ["axes","standing"]=(["axes","standing","tables"]:U Ae) by symm,show ∀x y z:IV,D4 "tables" z ["axes","standing"] [x,y]=[x,y,z]from λx y z=>by erw[D4,if_neg (show ¬ ("axes":Ae)="tables" by symm),if_neg (show ¬ ("standing":Ae)="tables" by symm)],i6]
def
ZEt:FE.Μ "tables_renewed"=O':=by symm
def
Y0:FE.Μ "pour"=O':=by symm
def
lP(rs:U Row):BN 1 (.X (rs.j Zc))=J':=by
 show(!vk 1 .l&&Dr 1 (rs.j Zc))=J'
 rw[FZ λd hd=>by
  let(r,_,rfl):=Bm.mp hd;show(BN 1 (Aj r.1)&&(BN 1 (.u r.2)&&J'))=J'
  rw[J0];rfl];rfl
structure BS(L:AW)(rs:List Row)(gs:List (List I))(b:I)(G:Gh):V' where
 gl:BX L
 sp:∀r∈rs,AR L r.1
 nd:gs.μ
 gn:∀g∈gs,g.a=L.a
 g12:gs.a<=12
 bk:∃t,G[b]?=Z (CP L (rs.j Zc) t)/\G[t]?=Z (.ϯ .d (Zb (AI L rs gs)))/\b≠t
structure RN(L:AW)(rs:List Row)(gs:List (List I))(b j:I)(Y:List D)(G G':Gh):V' where
 bs:BS L rs gs b G'
 tl:G'[j]?=Z (.ϯ .l Y)
 jb:G.a<=j
 tj:∀t,G'[b]?=Z (CP L (rs.j Zc) t)->t≠j/\G.a<=t
 ex:∀i,i≠b->i<G.a->G'[i]?=G[i]?
def
lQ{L:AW}{rs:U Row}{b:I}{G:Gh}(s:BS L rs gs b G){cs:U Ce}(hl:rs.a+cs.a<230)(A:FG L rs cs):∃j G',Qc [.Ϝ b,#v[cs.j AS]] G=Z (.Ϝ j,G')/\RN L (ZA Dm (cs.Ϗ B6 rs)) gs b j (GP L L rs (ZA Dm (cs.Ϗ B6 rs)) (ZA Ew gs)) G G':=by
 let(h,p,B,E,g,t,f,H,k):=s;let M:=Zwv h p ∅ A G;let lb:=(Dk.mp f).1;let m:=ZD Dm<|cs.foldl B6 rs;let ln:=YZ cs rs;let sp:=YX cs p A;generalize cs.foldl B6 rs=a at *;let n:∀r∈ZA Dm a,AR L r.1:=λr N=>sp r<|m.Ϫ.mp N;let e:=ZER h h rfl (rs:=rs) (ñ:=ZA Dm a) p n (by rw[m.ϋ];lia) (gs:=gs) B E g (Ll<|Lm f) (show((G++[Cl.ϯ .l<|a.j Zc]).Χ b<|CP L ((ZA Dm a).j Zc) t)[t]?=Z (.ϯ .d<|Zb<|AI L rs gs) by rw[T4<|Cj k];show Lm H) k;rw[List.set_set]at e;let P:((G++[Cl.ϯ .l<|a.j Zc]).Χ b<|CP L ((ZA Dm a).j Zc) t).a=G.a+1:=by simp
 rw[P]at e;generalize GP L L rs (ZA Dm a) (ZA Ew gs)=q at *;let c:((G++[Cl.ϯ .l<|a.j Zc]).Χ b (CP L ((ZA Dm a).j Zc)<|G.a+1)++[Cl.ϯ .d<|Zb<|AI L (ZA Dm a) gs,.ϯ .l q])[b]?=Z (CP L ((ZA Dm a).j Zc)<|G.a+1):=by
  rw[Hw (by simp;lia)];show Ll<|Lm f
 apply#[G.a+1+1,(G++[Cl.ϯ .l<|a.map Zc]).set b (CP L ((ZA Dm a).map Zc)<|G.length+1)++[Cl.dat .d<|Zb<|AI L (ZA Dm a) gs,.dat .l q],?_,⟨h,n,B,E,g,G.length+1,c,?_,∅⟩,?_,∅,λt' F=>?_,λi u o=>?_]
 .let Q:BN 1 (.X<|L.j LD)=J':=by
   show(!vk 1 .l&&Dr 1 (L.j LD))=J'
   rw[T5];rfl
  let K:=lP rs;let a1:=IQ (L:=L) (R:=rs.j Zc) (T:=Zb<|AI L rs gs);let Y:=Qs (L:=L) (R:=rs.j Zc) (T:=Zb<|AI L rs gs);let v1:EY 1 G (.Ϝ b)=.B (BD L (rs.j Zc)<|Zb<|AI L rs gs):=JZ 1 (by ext) f H;let u:Gg "Book" "tables_renewed" (CP L ((ZA Dm a).j Zc) t)=J':=by rwa[Gg,ZEt]
  clear c;generalize cs.j AS=C,(G++[Cl.ϯ .l<|a.j Zc]).Χ b (CP L ((ZA Dm a).j Zc)<|G.a+1)++[Cl.ϯ .d<|Zb<|AI L (ZA Dm a) gs,.ϯ .l q]=GF,BD L (rs.j Zc) (Zb<|AI L rs gs)=B1,rs.j Zc=R0 at *;suffices e2:XY ([.Ϝ b,#v[C]],G)=.Ϯ (.Ϝ<|G.a+1+1) GF from Eq.I (fi rfl e2) rfl
  rwa[XY,v1,a1,Y,Q,K,M,HN,Lm f,Iy,HV,true_and,show(3:I)<1000 by ext,and_self,show Internal.putN "standing" FE=FE by symm,show ∀x y w z:IV,D4 "standing" z FE [x,y,w]=[x,z,w]from λx y w z=>by erw[D4,if_neg (show ¬ ("axes":Ae)="standing" by symm),if_true],GK,Ll<|Lm f,u,show b<((G++[Cl.dat .l<|a.map Zc]).set b<|CP L ((ZA Dm a).map Zc) t).length by rw[P];show Nat.lt_add_right 1 lb,e]
 .rw[IZ (by simp)];simp
 .rw[IZ (by simp)];simp
 .rw[c]at F;have:=Gs F;simp[CP]at this;lia
 .rw[Hw (by simp;show Nat.lt_add_right 1 o),T4 u,Hw o]
def
T7{d:D}(h:AL 12 d=J'):Cc d d=Z (.bl O'):=by
 have:=OL 12 _ h;rwa[Cc,F0,h,this]
def
ZAp:FE.Μ "rows"=O':=by symm
variable {L:AW}{R T:U D}
def
Zys:Wk [.B (BD L R T)]=Z (.τ R):=by
 let l1:=Qs (L:=L) (R:=R) (T:=T);apply Zp rfl ?_;generalize BD L R T=B at *;change Wj [.B B]=_
 rwa[Wj,Do,l1,show Er [.lst R]=Z R from rfl,ZK]
end
def
E1.of{L:AW}{g:U I}(c:g.a=L.a)(h:∀k (a:k<L.a) (b:k<g.a),g[k]<=wh L[k]):E1 L g:=#[c,λq d=>by
 let(k,e,rfl):=List.getElem_of_mem d;let a:k<L.a:=by erw[List.length_zip]at e;lia
 let b:k<g.a:=∅
 have:=h k a b;simpa[List.getElem_zip]using this]
def
ZyH{L:AW}(h:BX L)(c:W'):∃g,E1 L g/\Sx [#v[L.j LD],‹c›]=Z (.B (Ax g)):=by
 let C:=h.n4;let(a,e,m,E):=Ts c L.a ∅;letI g:U I:=(Bl L.a).j λk=>(a.β k 0%((wh (L.β k [])+1:I):W')).ζ;apply#[g,E1.of (show g.a=L.a by simp[g]) λk o G=>?_,?_]
 .let H:=JR (a.β k 0) (show(0:W')<((wh L[k]+1:I):W') by show Int.ofNat_succ_pos (wh L[k]));rw[List.getElem_map,List.getElem_range,show L.β k []=L[k] by simp[GB,o]];lia
 .let q:=Zy (b:=Zd 0) (e:=Wz) (ρ:=[.no,#v[a.j D.u],#v[L.j LD]]) (λk:I=>D.u k) (λk=>D.u (((a.β k 0%((wh (L.β k [])+1:I):W')).ζ:I):W')) (Bl L.a) λk s=>#[[‹k›,#v[a.j D.u],#v[L.j LD]],rfl,by
   let d:=Ex.mp s;let(p,t):=h.good L[k]<|HE d;let u:Ar (.X<|L.j LD) (.u k)=Z (LD L[k]):=ER (by rw[D9,CG d];rfl);let w:Ar (.X<|a.j D.u) (.u k)=Z (.u a[k]):=ER (by rw[D9,CG<|LK d m.Γ];rfl);let n1:=t.n1;let i:∃l,Ar (LD L[k]) (.u 0)=Z (Aj l)/\l.a=wh L[k]:=by
    generalize L[k]=x at *;cases x with
    |nil=>simp at n1
    |cons l r=>show#[l,ER (j:=0) rfl,rfl]
   let(l,i,y):=i;let z:ZL (.u a[k]) (.u ((wh L[k]+1:I):W'))=Z (.u<|a[k]%((wh L[k]+1:I):W')):=by
    simp_all [wh]
   rw[show L.β k []=L[k] by simp[GB,d],show a.β k 0=a[k] by simp[GB,LK d m.symm],TB<|IM _ ∅];rwa[Wz,u,w,i,show Zv [Aj l]=Z (.int (wh L[k]:W')) by rw[<- y];simp[Aj],show Zx (.int (wh L[k]:W')) (.int 1)=Z (.int ((wh L[k]+1:I):W'))from rfl,z]]
  let n:=VW (L.a:W') (Sa<|List.length L) ∅;rw[KP]at n;let A:=Zt ((Bl L.length).map λk:I=>D.u k) (by simp;lia);let f:Zv [.X<|L.j LD]=Z (.u L.a):=by simp
  let B:g.j (λj:I=>D.u j)=(Bl L.a).j λk=>D.u (((a.β k 0%((wh (L.β k [])+1:I):W')).ζ:I):W'):=by
   rw[B4];rfl
  change Sx _=Z (.B<|.tup (g.map λj:I=>D.u j))
  rw[B];generalize a.j D.u=S,L.j LD=W,(Bl L.a).j (λk:I=>D.u k)=F,((Bl L.a).j λk=>D.u (((a.β k 0%((wh (L.β k [])+1:I):W')).ζ:I):W'))=Y at *;apply Zp rfl ?_;change WA [#v[W],‹c›,.no]=_
  rwa[WA,f,e,Zi,show Zm 1 [2,0] [#v[W],‹c›,#v[S]]=[.no,#v[S],#v[W]]from rfl,n,A,q,show EE [.lst Y]=Z (.tup Y)from rfl]
def
E1.zero(L:AW):E1 L (zg L):=E1.of (by simp) λk a b=>by simp
variable {L:AW}{ls:BM}{p k:I}{y:D}
def
ZHi(h:L[k]?=Z ls):Ar (.X (L.j LD)) (.u k)=Z (LD ls):=ER (by rw[D9,h];rfl)
variable(hL:L[k]?=Z ls)(hg:GL ls p)(sy:Sm y)
include hL hg sy
end
def
Zy3(W:U D)(a:U D)(v:D->q')(f:∀d∈a,WG [#v[W],.B d]=Z (.B (.bl (v d))))(h:a.a<=1000):W5 [#v[W],#v[a]]=Z (.B (.bl (a.ϝ v))):=by
 let c:=Zy (b:=Zd 0) (e:=W3) (ρ:=[.no,#v[W]]) (λd=>d) (λd=>D.bl<|v d) a λd hd=>#[[.B d,#v[W]],rfl,by rwa[W3,f d hd]];rw[List.map_id',show a.j (λd=>D.bl<|v d)=(a.j v).j D.bl by rw[B4];rfl]at c;let g:D1 [.X<|(a.j v).j D.bl]=Z (.bl<|a.ϝ v):=by
  erw[D1,TY,Fd,M7];rfl
 apply Zp rfl ?_;change W4 [#v[W],#v[a]]=_
 rwa[W4,show Dc [.lst a,.ty "list"]=Z (.bl J')from rfl,Zi,Zt a ∅,show Zm 1 [0] [#v[W],#v[a]]=[.no,#v[W]]from rfl,c,g]
def
vio(c:U At)(d:c.a<64):∃cs:U At,P1 [#v[c.j aD]]=Z (.τ (cs.j aD))/\cs.a<64/\∀a,a∈cs↔a∈c:=by
 let j:=Zy (b:=Zd 0) (e:=Xc) (ρ:=[.no]) aD (λa=>Aj [a]) c λa _=>#[[.B<|aD a],rfl,rfl];rw[show c.map (λa=>Aj [a])=(c.j λa=>[a]).j Aj by rw[B4];rfl]at j;let o:=Qn #v[(c.j λa=>[a]).j Aj] (c.j λa=>[a]) (.U rfl) (by simp;lia) λl d=>by
  let(a,_,rfl):=Bm.mp d;show#[by simp,by simp]
 let f:∀k,k∈DB J (ZA Bp<|c.map λa=>[a])↔∃a∈c,[a]=k:=λk=>by
  rw[YC,(ZD Bp _).Ϫ,Bm]
 let g:(DB J<|ZA Bp<|c.map λa=>[a]).a<64:=Ee (TF _ _) (by rw[(ZD Bp _).ϋ,Bg];show d);generalize DB J (ZA Bp<|c.map λa=>[a])=n at *;let m:=Zy (b:=Zd 0) (e:=Xd) (ρ:=[.no]) Aj (λk=>aD<|hd k) n λk i=>#[[.B<|Aj k],rfl,by
  let(a,_,rfl):=(f k).mp i;rfl]
 rw[show n.j (λk=>aD<|hd k)=(n.map hd).map aD by rw[B4];rfl]at m;let p:=Zt (c.map aD) (by simp;lia);let q:=Zt (n.map Aj) (by simp;lia);apply#[n.map hd,?_,by simpa using g,λa=>#[λh=>?_,λh=>Bm.mpr #[[a],(f _).mpr #[a,h,rfl],rfl]]]
 .generalize c.j aD=M,(c.j λa=>[a]).j Aj=V,n.j Aj=W,(n.j hd).j aD=Y at *;apply Zp rfl ?_;change P0 [#v[M]]=_
  rwa[P0,Zi,show Zm 1 [] [#v[M]]=[.no]from rfl,p,j,o,EG,q,m,ZK]
 .let(k,i,rfl):=Bm.mp h;let(a,r,rfl):=(f k).mp i;show r
abbrev Pk:=I×I×U At×q'
def Y1(vs:U At):q'->D
 |true=>.Q (vs.j aD)
 |false=>.X (vs.j aD)
abbrev Df(q:Pk):D:=.Q [.u q.1,.u q.2.1,Y1 q.2.2.1 q.2.2.2]
structure AK(é:Bj)(n:I):V' where
 at':∀p∈é,Fs p.1=J'
 len:é.a<=n
def
T8:∀(es:U (At×D))(é:Bj)(n:I),AK é n->n+es.a<=10000->∃b,Fv é (es.j λe=>D.Q [aD e.1,e.2])=Z b/\AK b (n+es.a)/\∀a,Zo b (.at a)=((es.ϙ.find? λe=>decide (e.1=a)).j (·.2)).or (Zo é (.at a))
 |[],é,n,h,_=>#[é,rfl,h,λa=>by simp]
 |e::es,é,n,h,d=>by
  erw[Cr]at d;let(b,f,g,i):=T8 es (ZT é (.at e.1) e.2) (n+1) #[Qm h.at',Bu (Rp _ _ _)<|QP h.len] ∅;apply⟨b,?_,by rw[Cr,MW es.length 1,<- Pb];show g,λa=>?_⟩
  .rwa[Fv,Hg,Gz e.1 h.at',decide_eq_true (show é.length<AE from Ee h.len (BY (show n<100000 by lia) (by ext))),f]
  .rw[i a,Nl,List.reverse_cons,List.find?_append];cases es.ϙ.find? λe=>decide (e.1=a)with
   |some x=>rfl
   |none=>by_cases c:e.1=a<;>simp[c]
def
ZrJ(W PS:U D)(k:I)(q:Pk)(H:q.2.2.1.a<=100)(i:BM)(s:∀l∈i,l.a<=4)(hz:i.a<=1000)(o:Sl):∃(m:BM)(n:Sl),P7 [#v[W],#v[PS],‹k›,#v[i.j Aj],.B (Df q),o]=.α [#v[W],#v[PS],‹k›,#v[m.j Aj],.B (Df q),n]/\m.Sublist i:=by
 let(a,j,g,b):=q;let p:Ar (Df (a,j,g,b)) (.u 0)=Z (.u a):=rfl;let u:Ar (Df (a,j,g,b)) (.u 2)=Z (Y1 g b):=rfl;let eq:=JP (a:W') (k:W');by_cases c:a=k
 .rw[decide_eq_true (by rw[c])]at eq;let(f,r,w,y):=T8 (g.j λv=>(v,.bl J')) [] 0 #[λ_ h=>(nomatch h),A4 _] (by simp;lia);rw[B4]at r;let x:=MF (b:=Zd 0) (t:=Xk) (e:=iS) (ρ:=[.no,.B<|Df (a,j,g,b),.lent (Zb f) .d]) Aj Aj (λl=>(Zo f<|.at<|l.getD j .non).isSome) i λl z=>#[[.B<|Aj l,.B<|Df (a,j,g,b),.lent (Zb f) .d],rfl,by
   let A:=Lg l j (by have:=s l z;lia);let B:Dy O' (aD<|l.β j .Ε) (.X (Zb f) .d)=Z (.bl (Zo f<|.at<|l.β j .Ε).υ):=by
    rw[L6,Hg];rwa[Gz _ w.at'];rw[Bool.false_bne]
   show#[by rwa[Xk,show Ar (Df (a,j,g,b)) (.int 1)=Z (.int j)from rfl,A,B],rfl]]
  let C:=Zt (g.j aD) (by simp;lia);let E:=Zt (i.j Aj) (by simp;lia);apply#[i.Ϣ λl=>(Zo f<|.at<|l.getD j .non).isSome,.own (Zb f) .d,?_,List.filter_sublist];generalize Df (a,j,g,b)=Q at *;ext b<;>rwa[P7,p,eq,u,Y1,FY,Zi,C,show ∀G,Zm 1 [] G=[.no]from λ_=>rfl,Zy (b:=Zd 0) (e:=Xj) (ρ:=[.no]) aD (λv=>D.tup [aD v,.bl J']) g λv _=>#[[.val<|aD v],rfl,by rwa[Xj]],show Fv [] (g.map λv=>D.tup [aD v,.bl J'])=Z f from r,ES,show Zm 1 [4,5] [#v[W],#v[PS],‹k›,#v[i.map Aj],.val Q,.own (Zb f) .d]=[.no,.val Q,.lent (Zb f) .d]from rfl,E,x]
 .rw[decide_eq_false ∅]at eq;apply#[i,o,?_,List.Sublist.χ _];rwa[P7,p,eq]
def
lR(W PS:U D)(k:I):∀(d:U Pk)(a:BM)(e b:Sl),(∀q∈d,q.2.2.1.a<=100)->(∀l∈a,l.a<=4)->a.a<=1000->∃(c:BM)(f g:Sl),ZC (Zd 4) P7 (d.j Df) [#v[W],#v[PS],‹k›,#v[a.j Aj],e,b]=.α [#v[W],#v[PS],‹k›,#v[c.j Aj],f,g]/\c.Sublist a
 |[],a,e,b,_,_,_=>#[a,e,b,rfl,List.Sublist.χ _]
 |q::d,a,e,b,i,j,m=>by
  let(n,o,p,h):=ZrJ W PS k q (i q Bo) a j m b;let(r,s,t,u,w):=lR W PS k d n (.B<|Df q) o (λx y=>i x<|Bv _ y) (λl z=>j l<|h.mem z) (Bu h.length_le m);apply⟨r,s,t,?_,w.I h⟩;rwa[Bf,ZC,Zd,p];show u
def
ZvC{L:AW}(h:BX L){k:I}{g:BM}(m:L[k]?=Z g)(f:U Pk)(o:∀q∈f,q.2.2.1.a<=100):∃cs:U At,S0 [#v[L.j LD],#v[f.j Df],‹k›]=Z (.τ (cs.j aD))/\cs.a<64/\∀a∈cs,a∈g.j hd:=by
 let(p,i):=h.good g<|Ka m;let n6:=i.n6;let(d,z,A,e,j):=lR (L.map LD) (f.map Df) k f g .no .no o (λl c=>i.϶ l c ▸ i.p4) ∅;let r:=j.length_le;let(cs,s,c,t):=vio (d.j hd) (by rw[Bg];lia);apply#[cs,?_,c,λa u=>?_]
 .let n:=Zy (b:=Zd 0) (e:=Xl) (ρ:=[.no]) Aj (λl=>aD<|hd l) d λl c=>#[[.B<|Aj l],rfl,by
   have:=MG<|i.ln l<|j.mem c;rwa[Xl,this]]
  rw[show d.j (λl=>aD<|hd l)=(d.j hd).j aD by rw[B4];rfl]at n;let w:=Zt (d.j Aj) (by simp;lia);let x:=ZHi m;apply Zp rfl ?_;generalize L.j LD=W,(d.j hd).j aD=V,cs.j aD=C,f.j Df=PS at *;change Xm [#v[W],#v[PS],‹k›,.no,.no,.no]=_
  rwa[Xm,x,C2,LD,e,Ef,Zi,w,show ∀y,Zm 1 [] y=[.no]from λ_=>rfl,n,s,Jf,ZK]
 .let(l,c,rfl):=Bm.mp<|(t a).mp u;show TL<|j.mem c
def
ZGc{P:I->U At->V'}{n:I}(h:∀k,k<n->∃x,P k x):∃f:I->U At,∀k,k<n->P k (f k):=#[λk=>if a:k<n then Classical.choose (h k a)else [],λk b=>by change P k (if a:k<n then _ else _);rw[dif_pos b];show Classical.choose_spec<|h k b]
abbrev Cf(cs:U At):D:=.X (cs.j aD)
structure Ch(L:AW)(f:I->List At):V' where
 len:∀k,k<L.a->(f k).a<64
 mem:∀k ls,L[k]?=Z ls->∀a∈f k,a∈ls.j hd
def
lS{L:AW}(h:BX L)(c:U Pk)(o:∀q∈c,q.2.2.1.a<=100):∃f,Ch L f/\S7 [#v[L.j LD],#v[c.j Df]]=Z (.τ ((Bl L.a).j λk=>Cf (f k))):=by
 let(f,l):=ZGc (n:=L.a) (P:=λk g=>S0 [#v[L.j LD],#v[c.j Df],‹k›]=Z (.τ<|g.map aD)/\g.length<64/\∀a∈g,∀i,L[k]?=Z i->a∈i.map hd) λk d=>by
  let(g,e,p,r):=ZvC h (CG d) c o;show#[g,e,p,λa m i j=>by rw[CG d]at j;ext j;show r a m]
 apply#[f,#[λk d=>(l k d).2.1,λk i j a m=>(l k (Dk.mp j).1).2.2 a m i j],?_];let w:=h.n4;let s:=Zy (b:=Zd 0) (e:=Xs) (ρ:=[.no,#v[L.j LD],#v[c.j Df]]) (λk:I=>D.u k) (λk=>Cf<|f k) (Bl L.length) λk d=>#[[‹k›,#v[L.j LD],#v[c.j Df]],rfl,by
  rwa[Xs,(l k<|Ex.mp d).1,EG]]
 let t:=Zt ((Bl L.a).j λk:I=>D.u k) (by simp;lia);let u:Zv [.X<|L.j LD]=Z (.u L.a):=by simp
 apply Zp rfl ?_;generalize L.j LD=W,c.j Df=PS,(Bl L.a).j (λk=>Cf<|f k)=V at *;change Xt [#v[W],#v[PS]]=_
 rwa[Xt,Zi,u,IG L.length ∅,t,show Zm 1 [0,1] [#v[W],#v[PS]]=[.no,#v[W],#v[PS]]from rfl,s,ZK]
structure Ask(ls:BM)(é:Bj)(n:I):V' extends AK é n where
 has:∀l∈ls,∃d,Zo é (.at (hd l))=Z d/\AL 12 d=J'
def NY:D:=.Q [.ω "out",.Ε]
def
ZEH(b:q')(a:At)(cs:U At):Db b (aD a) (Cf cs)=Z (.bl (b != decide (a∈cs))):=by
 let d:(cs.j aD).ϝ (AL 12)=J':=by simp[Ld]
 let f:G5 (aD a) (cs.j aD)=decide (a∈cs):=by
  unfold G5;induction cs with|nil=>rfl|cons b cs g=>
   rw[Bf,List.any_cons,g (by simp[Ld]),Ym];by_cases c:b=a
   .subst c;simp
   .have:¬ a=b:=λe=>c e.Γ;simp[c,this]
 erw[Db,F0,Ld,d,f,Hd,if_true];ext b<;>cases decide (a∈cs)<;>rfl
def
lT(a:At)(cs:U At):Db O' (aD a) (Cf cs)=Z (.bl (decide (a∈cs))):=by rw[ZEH,Bool.false_bne]
def
Zxo{b:BM}{p:I}(g:GL b p){l:U At}(i:l∈b)(A:D)(j:I)(cs:U At)(q:cs.a<64){n:I}(h:Ask b é n)(r:n<=1000):∃a,Ask b a (n+1)/\NI [.B A,‹j›,.B (Cf cs),.τ (Zb é) .d,.B (Aj l)]=.α [.B A,‹j›,.B (Cf cs),.τ (Zb a) .d,.B (Aj l)]:=by
 let k:=MG<|g.ln l i;let f:Db O' (aD<|hd l) (Cf cs)=Z (.bl<|decide<|hd l∈cs):=lT _ _;by_cases c:hd l∈cs
 .rw[decide_eq_true c]at f;let m:=Lg l j (by rw[g.϶ l i];have:=g.p4;lia);apply#[ZT é (.at<|hd l)<|.tup [.str "in",aD<|l.getD j .non],⟨⟨Qm h.at',Bu (Rp _ _ _)<|QP h.len⟩,λx o=>?_⟩,?_]
  .rw[Nl];by_cases e:hd l=hd x
   .rw[e,if_pos rfl];show#[_,rfl,by show(AL 11 (D.ω "in")&&(AL 11 (aD<|l.β j .Ε)&&J'))=J';rw[Ld];rfl]
   .rw[if_neg (by exists e)];show h.has x o
  .generalize Aj l=X,Cf cs=C at *;rwa[NI,k,f,m,HL,FS,FV,Hg,Gz _ h.at',decide_eq_true (show é.length<AE from Ee h.len (BY (show n<100000 by lia) (by ext)))]
 .rw[decide_eq_false c]at f;apply#[é,#[#[h.at',KH h.϶],h.has],?_];rwa[NI,k,f]
def
lU{c:BM}{p:I}(g:GL c p)(A:D)(j:I)(cs:U At)(i:cs.a<64):∀(b:BM)(é:Bj)(n:I)(e:Sl),(∀l∈b,l∈c)->Ask c é n->n+b.a<=1000->∃a f,Ask c a (n+b.a)/\ZC (Zd 4) NI (b.j Aj) [.B A,‹j›,.B (Cf cs),.τ (Zb é) .d,e]=.α [.B A,‹j›,.B (Cf cs),.τ (Zb a) .d,f]
 |[],é,n,e,_,h,_=>#[é,e,h,rfl]
 |l::b,é,n,e,k,h,m=>by
  erw[Cr]at m;let(o,q,r):=Zxo g (k l Bo) A j cs i h ∅;let(s,t,u,v):=lU g A j cs i b o (n+1) (.B<|Aj l) (λx w=>k x<|Bv _ w) q ∅;apply⟨s,t,by rw[Cr,MW b.a 1,<- Pb];show u,?_⟩;rwa[Bf,ZC,Zd,r];show v
def
Zx7{a:BM}{p:I}(c:GL a p)(j:I)(cs:U At)(o:cs.a<64):∃é,Ask a é 1000/\Ss [.B (LD a),‹j›,.B (Cf cs)]=Z (.τ (Zb é) .d):=by
 let n6:=c.n6;let q:=Zy (b:=Zd 0) (e:=Ws) (ρ:=[.no]) Aj (λl=>D.Q [aD<|hd l,NY]) a λl f=>#[[.B<|Aj l],rfl,by
  have:=MG<|c.ln l f;rwa[Ws,this,NY]]
 let(é,k,m,r):=T8 (a.j λl=>(hd l,NY)) [] 0 #[λ_ h=>(nomatch h),A4 _] (by simp;lia);rw[B4]at k;let s:Ask a é a.a:=#[#[m.at',by exists m.϶],λl f=>#[NY,?_,rfl]]
 .let(n,t,g,i):=lU c (LD a) j cs o a é a.a .no (λ_ h=>h) s ∅;apply#[n,#[#[g.at',Bu g.϶ ∅],g.has],?_];let u:=Zt (a.j Aj) (by simp;lia);apply Zp rfl ?_;change Wt [#v[a.j Aj],‹j›,.B<|Cf cs,.no,.no]=_
  let i:ZC (Zd 4) NI (a.j Aj) [#v[a.j Aj],‹j›,.B<|Cf cs,.own (Zb é) .d,.no]=.next [#v[a.map Aj],‹j›,.val<|Cf cs,.own (Zb n) .d,t]:=i;rwa[Wt,FY,Zi,u,show ∀w,Zm 1 [] w=[.no]from λ_=>rfl,q,show Fv [] (a.map λl=>D.tup [aD<|hd l,NY])=Z é from k,ES,C2,i,FS,Ij]
 .rw[r,<- List.map_reverse,List.find?_map];cases y:a.ϙ.find? ((λe=>decide<|e.1=hd l)∘λl=>(hd l,NY))with
  |some x=>rfl
  |none=>have:=List.find?_eq_none.mp y l (by exists f);simp at this
def
T9{d e:D}(a:AL 12 d=J')(b:AL 12 e=J'):Cc d e=Z (.bl (!Bc d e)):=by
 erw[Cc,F0,a,b,Hd,if_true]
def Y2(b:BM)(m:I)(c:Bj):V':=∀a v,Zo c (.at a)=Z v->∃x∈b,v=aD (hd x)/\(m=0->a=hd x)
def
lV{l:U At}:l.β 0 .Ε=hd l:=by ext l<;>rfl
def
ZBm{k:BM}{p:I}(B:GL k p){l:U At}(s:l∈k)(A C:D)(m j:I){b:Bj}{n q:I}(h:Ask k é n)(f:AK b q)(Y:q<=1000)(E:Y2 k m b)(M:Sl):(m≠0/\∃x y:At,HR [.B A,‹m›,‹j›,.B C,.B (.X (Zb é) .d),.τ (Zb b) .d,.B (Aj l),M]=.Ϯ (.B (.Q [aD x,aD y]))) \/∃i G,HR [.B A,‹m›,‹j›,.B C,.B (.X (Zb é) .d),.τ (Zb b) .d,.B (Aj l),M]=.α [.B A,‹m›,‹j›,.B C,.B (.X (Zb é) .d),.τ (Zb i) .d,.B (Aj l),G]/\AK i (q+1)/\Y2 k m i:=by
 let H:=MG<|B.ln l s;let R:=Lg l m (by rw[B.len l s];have:=B.p4;lia);let F:b.length<AE:=Ee f.len<|BY (show q<100000 by lia) (by ext);let g:∀x∈k,∃d,Dq (.lst (Zb é) .d) (aD<|hd x)=Z d/\AL 12 d=J':=λx L=>by
  let(d,e,o):=h.has x L;show#[d,by rw[Ro,Hg];rwa[Gz _ h.at',e],o]
 let(K,t,r):=g l s;cases u:Zo b (.at<|l.β m .Ε)with
 |some v=>
  let(x,L,rfl,Q):=E _ _ u;let(T,w,P):=g x L;let ne:=T9 P r;cases c:Bc T K with
  |true=>
   rw[c]at ne;apply .φ #[b,.B<|aD<|hd x,?_,⟨f.at',KH f.϶⟩,E];rwa[HR,Jp,FS,R,H,FV,Hg,Gz _ f.at',decide_eq_true F,u,Pw,w,t,ne]
  |false=>
   rw[c]at ne;apply .U #[λz=>?_,hd x,hd l,?_]
   .let N:=Q z;rw[z,lV]at N;rw[<- N,t]at w;ext w;rw[OL 12 _ r]at c;ext c
   .generalize Aj l=X at *;rwa[HR,Jp,FS,R,H,FV,Hg,Gz _ f.at',decide_eq_true F,u,Pw,w,t,ne]
 |none=>
  let ne:=T9 r r;rw[OL 12 _ r]at ne;apply .φ #[ZT b (.at<|l.getD m .non)<|aD<|hd l,.val<|aD<|hd l,?_,⟨Qm f.at',Bu (Rp _ _ _)<|QP f.len⟩,λa v e=>?_]
  .generalize Aj l=X at *;rwa[HR,Jp,FS,R,H,FV,Hg,Gz _ f.at',decide_eq_true F,u,Pw,t,ne]
  .rw[Nl]at e;by_cases c:KT.at (l.β m .Ε)=.at a
   .rw[if_pos c]at e;ext e;ext c;show#[l,s,rfl,λz=>by rw[z,lV]]
   .rw[if_neg c]at e;show E a v e
def
lW{f:BM}{p:I}(r:GL f p)(A C:D)(m j:I){é:Bj}{n:I}(h:Ask f é n):∀(a:BM)(b:Bj)(q:I)(g c:Sl),(∀l∈a,l∈f)->AK b q->q+a.a<=1000->Y2 f m b->(m≠0/\∃x y:At,ZC (Zd 6) HR (a.j Aj) [.B A,‹m›,‹j›,.B C,.B (.X (Zb é) .d),.τ (Zb b) .d,g,c]=.Ϯ (.B (.Q [aD x,aD y]))) \/∃ρ,ZC (Zd 6) HR (a.j Aj) [.B A,‹m›,‹j›,.B C,.B (.X (Zb é) .d),.τ (Zb b) .d,g,c]=.α ρ
 |[],b,q,g,c,_,_,_,_=>.φ #[_,rfl]
 |l::a,b,q,g,c,s,t,u,v=>by
  erw[Cr]at u;rcases ZBm r (s l Bo) A C m j h t ∅ v c with⟨w,x,y,e⟩|⟨i,z,e,k,o⟩
  .show .U #[w,x,y,by rwa[Bf,ZC,Zd,e]]
  .rwa[Bf,ZC,Zd,e];show(lW r A C m j h a i (q+1) (.B<|Aj l) z (λx B=>s x<|Bv _ B) k ∅ o)
def lX(m:I)(r:D):V':=r=.Ε\/m≠0/\∃x y:At,r=.Q [aD x,aD y]
def
Zrd{b:BM}{p:I}(g:GL b p)(m j:I)(cs:U At)(n:cs.a<64):∃r,Sz [.B (LD b),‹m›,‹j›,.B (Cf cs)]=Z (.B r)/\lX m r:=by
 let n6:=g.n6;let(c,o,i):=Zx7 g j cs n;let k:=lW g (LD b) (Cf cs) m j o b [] 0 .no .no (λ_ h=>h) #[λ_ h=>(nomatch h),A4 _] ∅ (λa v e=>nomatch e);let k:(m≠0/\∃x y:At,ZC (Zd 6) HR (b.j Aj) [#v[b.j Aj],‹m›,‹j›,.B<|Cf cs,.B<|.X (Zb c) .d,.τ [] .d,.no,.no]=.Ϯ (.B<|.Q [aD x,aD y]))\/∃l,ZC (Zd 6) HR (b.j Aj) [#v[b.j Aj],‹m›,‹j›,.B<|Cf cs,.B<|.X (Zb c) .d,.τ [] .d,.no,.no]=.α l:=k;let i:Ss [#v[b.j Aj],‹j›,.B<|Cf cs]=Z (.τ (Zb c) .d):=i;change ∃r,Sz [#v[b.j Aj],‹m›,‹j›,.B<|Cf cs]=Z (.B r)/\lX m r
 generalize b.j Aj=M,Cf cs=C at *;let f:∀r,ZC (Zd 6) HR M [#v[M],‹m›,‹j›,.B C,.B<|.lst (Zb c) .d,.own [] .d,.no,.no]=r->WH [#v[M],‹m›,‹j›,.val C,.no,.no,.no,.no]=Ze r iz:=λr e=>by
  rwa[WH,iC,iw,i,EG,iB,ix,ES,iA,iy,C2,e]
 rcases k with⟨q,x,y,e⟩|⟨l,e⟩
 .show#[_,Zp rfl<|f _ e,.φ ⟨q,x,y,rfl⟩]
 .show#[.Ε,Zp rfl<|f _ e,.U rfl]
def
Ua{g:U I}{k:I}(h:k<g.a):Ar (Ax g) (.u k)=Z (.u (g.β k 0)):=ER (by simp[GB,CG h])
def
lY{n k:I}(f:I->U At)(h:k<n):Ar (.X ((Bl n).j λk=>Cf (f k))) (.u k)=Z (Cf (f k)):=ER (by simp[h])
variable {L:AW}(h:BX L){g e:U I}(hg:g.a=L.a)(he:e.a=L.a){f:I->U At}(hf:Ch L f)
include h hg he hf
def
lZ(W PS:D):∀(AD pre:AW)(c d b:Sl),L=pre++AD->((∃n∈g,n≠0)/\∃(k:I) (x y:At),ZC (ZP 2 (Zk (Zd 5) (Zk (Zd 6) ZQ))) La (DG pre.a (AD.j LD)) [.B W,.B (Ax g),.B (Ax e),.B PS,#v[(Bl L.a).j λk=>Cf (f k)],c,d,b]=.Ϯ (.B (.Q [.u k,aD x,aD y]))) \/∃ρ,ZC (ZP 2 (Zk (Zd 5) (Zk (Zd 6) ZQ))) La (DG pre.a (AD.j LD)) [.B W,.B (Ax g),.B (Ax e),.B PS,#v[(Bl L.a).j λk=>Cf (f k)],c,d,b]=.α ρ
 |[],pre,c,d,b,_=>.φ #[_,rfl]
 |a::AD,pre,c,d,b,i=>by
  let j:pre.a<L.a:=by rw[i];simp
  let t:L[pre.a]?=Z a:=by rw[i];simp
  let(p,u):=h.good a<|Ka t;let(r,l,w):=Zrd u (g.getD pre.length 0) (e.getD pre.length 0) (f pre.length)<|hf.len _ j;let m:=Ua (g:=g) (k:=pre.length) ∅;let i2:=Ua (g:=e) (k:=pre.length) ∅;let o:=lY f j;let q:=lZ W PS AD (pre++[a]) ‹pre.length› (.val<|LD a) (.val r) (by rw[i];simp);rw[F4,UA]at q;rw[show DG pre.length ((a::AD).map LD)=.tup [.int pre.length,LD a]::DG (pre.length+1) (AD.map LD)from rfl];let s:∀A B C E F:Sl,ZP 2 (Zk (Zd 5)<|Zk (Zd 6) ZQ) (.tup [.int pre.length,LD a]) [A,B,C,E,F,c,d,b]=Z [A,B,C,E,F,‹pre.length›,.val<|LD a,b]:=λ_ _ _ _ _=>rfl;generalize LD a=A,(Bl L.a).j (λk=>Cf<|f k)=V,Cf (f pre.a)=G,Ax g=H,Ax e=E at *;rcases w with rfl|⟨z,x,y,rfl⟩
  .let st:La [.B W,.B H,.B E,.B PS,#v[V],‹pre.a›,.B A,b]=.α [.B W,.B H,.B E,.B PS,#v[V],‹pre.a›,.B A,.B .Ε]:=by
    rwa[La,m,i2,o,l,EA,isN]
   erw[ZC,s,st];show q
  .apply .U #[#[_,?_,z],pre.a,x,y,?_]
   .rw[GB,CG ∅];show HE _
   .let st:La [.B W,.B H,.B E,.B PS,#v[V],‹pre.a›,.B A,b]=.Ϯ (.B<|.Q [.u pre.a,aD x,aD y]):=by
     rwa[La,m,i2,o,l,EA,isN,show Ar (.tup [aD x,aD y]) (.int 0)=Z (aD x)from rfl,show Ar (.tup [aD x,aD y]) (.int 1)=Z (aD y)from rfl]
    erw[ZC,s,st]
end
def
ZEF(cs:U At):AL 12 (Cf cs)=J':=by
 simp[Ld]
def
Zzr{L:AW}(h:BX L){g e:U I}(j:g.a=L.a)(l:e.a=L.a)(c:U Pk)(m:∀q∈c,q.2.2.1.a<=100):∃r,Mq [#v[L.j LD],.B (Ax g),.B (Ax e),#v[c.j Df]]=Z (.B r)/\(r=.Ε\/(∃n∈g,n≠0)/\∃(k:I)(x y:At),r=.Q [.u k,aD x,aD y]):=by
 let(f,o,p):=lS h c m;let s:=lZ h j l o (.X<|L.map LD) (.lst<|c.map Df) L [] .no .no .no rfl;obtain⟨b,d⟩:∃b,Db O' (.lst []) (.lst<|(Bl L.length).map λk=>Cf<|f k)=Z (.bl b):=by
  show#[G5 (.X [])<|(Bl L.length).map λk=>Cf<|f k,by erw[Db,F0,show((Bl L.length).map λk=>Cf<|f k).all (AL 12)=J' by erw[M7,Dp];show λ_ _=>ZEF _,show AL 12 (.lst [])=J' from rfl,Hd,if_true];rfl]
 generalize (Bl L.a).j (λk=>Cf<|f k)=V,L.map LD=W,c.map Df=PS,Ax g=w,Ax e=E at *;let a:∀r,Qb [#v[W],.val w,.val E,#v[PS],#v[V],.no,.no,.no]=r->XC [#v[W],.val w,.val E,#v[PS],.no,.no,.no,.no]=r:=λr e=>by
  rwa[XC,iY,iU,p,EG,e]
 cases b with|true=>show#[.Ε,Zp rfl<|a _ (by rwa[Qb,XB,show Zf (Z ([]:U D))=Z []from rfl,d]),.inl rfl]|false=>
  let i:∀r,ZC (ZP 2<|Zk (Zd 5)<|Zk (Zd 6) ZQ) La (DG 0 W) [#v[W],.val w,.val E,#v[PS],#v[V],.no,.no,.no]=r->Qb [#v[W],.val w,.val E,#v[PS],#v[V],.no,.no,.no]=Ze r iW:=λr e=>by
   rwa[Qb,XB,show Zf (Z ([]:U D))=Z []from rfl,d,iX,iV,C2,Jy,Fa,e]
  rcases s with⟨t,k,x,y,e⟩|⟨u,e⟩
  .show#[_,Zp rfl<|a _<|i _ e,.φ ⟨t,k,x,y,rfl⟩]
  .show#[.Ε,Zp rfl<|a _<|i _ e,.U rfl]
structure Wy(é:Bj):V' extends AK é 1000 where
 to:∀a v,Zo é (.at a)=Z v->∃b,v=aD b
abbrev Dg(é:Bj):D:=.X (Zb é) .d
def
ZyL{c:BM}{p:I}(g:GL c p)(m j:I)(cs:U At):∃é,Wy é/\Wx [.B (LD c),‹m›,‹j›,.B (Cf cs)]=Z (.τ (Zb é) .d):=by
 let n6:=g.n6;let r:=MF (b:=Zd 0) (t:=Wu) (e:=Wv) (ρ:=[.no,‹m›,‹j›,.B<|Cf cs]) Aj (λl=>D.Q [aD<|l.getD m .non,aD<|l.getD j .non]) (λl=>decide<|hd l∈cs) c λl n=>#[[.B<|Aj l,‹m›,‹j›,.B<|Cf cs],rfl,by
  let f:l.a<=1000:=by rw[g.϶ l n];have:=g.p4;lia
  show#[by rwa[Wu,MG<|g.ln l n,lT],by rwa[Wv,Lg l m f,Lg l j f]]]
 let s:=YI (λl=>decide<|hd l∈cs) c;generalize c.filter (λl=>decide<|hd l∈cs)=i at *;let(é,o,q,u):=T8 (i.map λl=>(l.β m .Ε,aD<|l.getD j .non)) [] 0 ⟨λ_ h=>(nomatch h),A4 _⟩ (by simp;lia);rw[B4]at o;apply#[é,#[#[q.at',Bu q.϶ (by simp;lia)],λa v e=>?_],?_]
 .rw[u]at e;cases k:(i.j λl=>(l.β m .Ε,aD<|l.getD j .non)).reverse.find? λe=>decide (e.1=a)with
  |none=>rw[k]at e;cases e
  |some x=>
   rw[k]at e;have:=List.mem_of_find?_eq_some k;rw[List.mem_reverse]at this;let(l,_,rfl):=Bm.mp this;ext e;show#[_,rfl]
 .let w:=Zt (c.j Aj) (by simp;lia);apply Zp rfl ?_;change Ww [#v[c.j Aj],‹m›,‹j›,.B<|Cf cs]=_
  generalize c.j Aj=M,Cf cs=C at *;rwa[Ww,FY,Zi,w,show Zm 1 [1,2,3] [#v[M],‹m›,‹j›,.val C]=[.no,‹m›,‹j›,.val C]from rfl,r,show Fv [] (i.map λl=>D.tup [aD<|l.getD m .non,aD<|l.getD j .non])=Z é from o,Ij]
def
l0:∀(ws:U Bj)(s:U At),(∀é∈ws,Wy é)->ZG (ZP 2 (Zk (Zd 0) (Zk (Zd 1) ZQ))) (λ_=>Z J') Mo [.no,.no] (DA (λx y=>D.Q [x,y]) (ws.j Dg) (s.j aD))=Z ((DA (λé a=>(Zo é (.at a)).υ) ws s).j D.bl)
 |[],_,_=>by simp;rfl
 |_::_,[],_=>by simp;rfl
 |é::ws,a::s,h=>by
  let e:Mo [.B<|Dg é,.B<|aD a]=Z (.bl (Zo é<|.at a).υ):=by
   have:Dy O' (aD a) (Dg é)=Z (.bl (Zo é<|.at a).υ):=by
    rw[L6,Hg];rwa[Gz _ (h é Bo).at'];rw[Bool.false_bne]
   rwa[Mo,this]
  rwa[NU,ZG,show ZP 2 (Zk (Zd 0)<|Zk (Zd 1) ZQ) (.tup [Dg é,aD a]) [.no,.no]=Z [.val<|Dg é,.val<|aD a]from rfl,e,l0 ws s λx b=>h x<|Bv _ b]
def
l5(ws:U Bj)(s:U At)(h:∀é∈ws,Wy é)(hz:ws.a<=4):K2 [#v[ws.j Dg],.B (Aj s)]=Z (.B (.bl ((DA (λé a=>(Zo é (.at a)).υ) ws s).ϝ id))):=by
 let b:=l0 ws s h;let c:=Zt (DA (λx y=>D.Q [x,y]) (ws.j Dg) (s.j aD)) (by simp;lia);let d:D1 [.X<|(DA (λé a=>(Zo é<|.at a).isSome) ws s).map D.bl]=Z (.bl<|(DA (λé a=>(Zo é<|.at a).υ) ws s).ϝ id):=by
  erw[D1,TY,Fd]
 apply Zp rfl ?_;unfold Aj;generalize (DA (λé a=>(Zo é<|.at a).υ) ws s).j D.bl=B,s.j aD=S,ws.j Dg=M at *;change PJ [#v[M],.B<|.Q S]=_
 rwa[PJ,Zi,Gf,Fa,show Zm 2 [] [#v[M],.val<|.tup S]=[.no,.no]from rfl,c,b,d]
def
l6:∀(L:AW)(k:I),DG k (L.j LD)=(Bl L.a).j λi:I=>D.Q [.u ((k+i:I):W'),LD (L.β i [])]
 |[],_=>rfl
 |a::L,k=>by
  rw[Bf,DG,l6 L<|k+1,Cr,List.range_succ_eq_map,Bf,B4];show congrArg (_::·) (List.map_congr_left λi _=>by erw[Function.comp,Nat.succ_eq_add_one,List.getD_cons_succ,Pb,MW 1 i])
def
l7{L:AW}(h:BX L){g e:U I}(w:g.a=L.a)(x:e.a=L.a)(a:U Pk)(m:∀q∈a,q.2.2.1.a<=100):∃ws:U Bj,S9 [#v[L.j LD],.B (Ax g),.B (Ax e),#v[a.j Df]]=Z (.τ (ws.j Dg))/\ws.a=L.a/\∀é∈ws,Wy é:=by
 let(f,y,n):=lS h a m;let z:=h.n4;let(ws,j,d,i):=Yt (b:=ZP 2<|Zk (Zd 0)<|Zk (Zd 1) ZQ) (e:=XD) (ρ:=[.no,.no,.val<|Ax g,.val<|Ax e,#v[(Bl L.length).map λk=>Cf<|f k]]) (λk:I=>D.Q [.u k,LD<|L.getD k []]) Dg Wy (Bl L.length) λk c=>by
  let c:=Ex.mp c;let d:L[k]?=Z (L.β k []):=by simp[GB,c]
  let(p,o):=h.good _<|Ka d;let(é,i,r):=ZyL o (g.getD k 0) (e.getD k 0)<|f k;let s:=Ua (g:=g) (k:=k) ∅;let i2:=Ua (g:=e) (k:=k) ∅;let t:=lY f c;apply#[é,[‹k›,.val<|LD<|L.getD k [],.val<|Ax g,.val<|Ax e,#v[(Bl L.length).map λk=>Cf<|f k]],i,rfl,?_];rwa[XD,s,i2,t,r,EG]
 apply#[ws,?_,by simpa using d,i];let l:DG 0 (L.j LD)=(Bl L.a).j λk:I=>D.Q [.u k,LD<|L.β k []]:=by
  rw[l6];erw[Iy]
 let u:=Zt (DG 0<|L.map LD) (by rw[l];simp;lia);rw[<- l]at j;apply Zp rfl ?_;generalize (Bl L.length).map (λk=>Cf<|f k)=V,L.j LD=W,a.j Df=PS,Ax g=A,Ax e=E at *;change XE [#v[W],.B A,.B E,#v[PS],.no]=_
 rwa[XE,n,EG,Zi,Jy,Fa,show Zm 2 [1,2,4] [#v[W],.val A,.val E,#v[PS],#v[V]]=[.no,.no,.val A,.val E,#v[V]]from rfl,u,j,ZK]
def
Zrq{L:AW}(h:BX L):Wr [#v[L.j LD]]=Z (.B (Ax (L.j wh))):=by
 let l:=h.n4;let c:=Zy (b:=Zd 0) (e:=Wp) (ρ:=[.no]) LD (λa=>D.u<|wh a) L λa d=>#[[.B<|LD a],rfl,by
  let(p,f):=h.good a d;rwa[Wp,lz f]]
 let g:EE [.X<|L.map λa=>D.u<|wh a]=Z (Ax<|L.j wh):=by
  change Z (D.Q _)=Z (D.Q ((L.j wh).j λj:I=>D.u j))
  rw[B4];rfl
 let i:=Zt (L.j LD) (by simp;lia);apply Zp rfl ?_;generalize L.j LD=W,L.j (λa=>D.u<|wh a)=V,Ax (L.j wh)=m at *;change Wq [#v[W]]=_
 rwa[Wq,Zi,i,show ∀k,Zm 1 [] k=[.no]from λ_=>rfl,c,g]
abbrev HY(a:U (U At×D)):U D:=a.j λe=>.Q [Aj e.1,e.2]
def
ZxB{L:AW}(h:BX L){g:U I}(k:g.a=L.a)(i:U Pk)(l:∀q∈i,q.2.2.1.a<=100)(d:U (U At×D))(hz:d.a<=1000):∃n:I,XW [#v[L.j LD],#v[HY d],.B (Ax g),#v[i.j Df]]=Z ‹n›:=by
 let(f,m,u,o):=l7 h k (show(L.j wh).a=L.a by simp) i l;let w:=h.n4;let p:=Zrq h;let j:=MF (b:=ZP 2<|Zk (Zd 0)<|Zk (Zd 1) ZQ) (t:=XN) (e:=ji) (ρ:=[.no,.no,#v[f.map Dg]]) (λe:U At×D=>D.Q [Aj e.1,e.2]) (λe=>D.Q [Aj e.1,e.2]) (λe=>(DA (λc a=>(Zo c<|.at a).isSome) f e.1).all id) d λe _=>#[[.B<|Aj e.1,.B e.2,#v[f.j Dg]],rfl,by
  have:=l5 f e.1 o ∅;show#[by rwa[XN,this,EM],rfl]]
 rw[show d.j (λe=>D.Q [Aj e.1,e.2])=HY d from rfl]at j;apply#[((d.Ϣ λe=>(DA (λc a=>(Zo c<|.at a).isSome) f e.1).all id).map λe=>D.Q [Aj e.1,e.2]).a,?_];let r:=Zt (HY d) (by simp;lia);let s:XP [#v[L.j LD],#v[HY d],.B<|Ax g,#v[i.map Df]]=Z (.own<|(d.filter λe=>(DA (λc a=>(Zo c<|.at a).isSome) f e.1).all id).map λe=>D.Q [Aj e.1,e.2]):=by
  apply Zp rfl ?_;generalize (d.Ϣ λe=>(DA (λc a=>(Zo c<|.at a).isSome) f e.1).all id).map (λe=>D.Q [Aj e.1,e.2])=Y,HY d=T,f.j Dg=V,L.j LD=W,i.j Df=PS,Ax g=x,Ax (L.j wh)=E at *;change XO [#v[W],#v[T],.B x,#v[PS],.no]=_
  rwa[XO,p,m,EG,Zi,r,show Zm 2 [4] [#v[W],#v[T],.val x,#v[PS],#v[V]]=[.no,.no,#v[V]]from rfl,j,ZK]
 apply Zp rfl ?_;generalize (d.Ϣ λe=>(DA (λc a=>(Zo c<|.at a).isSome) f e.1).all id).map (λe=>D.Q [Aj e.1,e.2])=Y,HY d=T,L.j LD=W,i.j Df=PS,Ax g=x at *;change XV [#v[W],#v[T],.B x,#v[PS]]=_
 rwa[XV,s,EG,show Zv [.lst Y]=Z (.int Y.length)from rfl]
def
l8(k:U At)(p:W'×U W'):∀æ:U B9,E9 (æ.j (ZO vC)) (.Q k) (vC p)=(æ.j λe=>if e.1=k then(e.1,p)else e).j (ZO vC)
 |[]=>rfl
 |e::æ=>by
  rw[Bf,E9,l8 k p æ,Bf,Bf];congr 1;by_cases c:e.1=k
  .rw[if_pos c,if_pos (show(ZO vC e).1=.Q k by rw[ZO,c])];rfl
  .rw[if_neg c,if_neg<|λz=>c (by simpa[ZO]using z)]
structure Tl(æ:List B9)(n m:I):V' where
 nd:(Zu æ).μ
 len:æ.a<=m
 kl:∀k∈Zu æ,k.a=n
def
l9{æ:U B9}{n m:I}(h:Tl æ n m){k:U At}(l:k.a=n)(p:W'×U W'):∃c,ZT (æ.j (ZO vC)) (.Q k) (vC p)=c.j (ZO vC)/\Tl c n (m+1):=by
 let i:=Lh vC k æ;unfold ZT;cases g:ZR æ k with
 |none=>
  rw[i,g];apply#[æ++[(k,p)],by simp[ZO],#[?_,by simpa using h.len,λx d=>?_]]
  .rw[Zu,Gc];show L3.Ϛ #[h.nd,by simp,λa o b j e=>by subst e;simp at j;subst j;show(Cn.mp g) o]
  .rw[Zu,Gc]at d;rcases Cz.mp d with d|d
   .show h.kl x d
   .simp at d;subst d;show l
 |some q=>
  rw[i,g];let f:Zu (æ.j λe=>if e.1=k then(e.1,p)else e)=Zu æ:=by
   unfold Zu;rw[B4];show List.map_congr_left λe _=>by erw[Function.comp];split<;>rfl
  show#[_,l8 k p æ,#[f ▸ h.nd,by rw[Bg];show KH h.϶,f ▸ h.kl]]
def
mf:∀(ws:U Bj)(s:U At),(∀é∈ws,Wy é)->ws.a=s.a->(DA (λé a=>(Zo é (.at a)).υ) ws s).ϝ id=J'->∃bs:U At,ZG (ZP 2 (Zk (Zd 0) (Zk (Zd 1) ZQ))) (λ_=>Z J') Z8 [.no,.no] (DA (λx y=>D.Q [x,y]) (ws.j Dg) (s.j aD))=Z (bs.j aD)/\bs.a=s.a
 |[],[],_,_,_=>#[[],rfl,rfl]
 |é::ws,a::s,h,f,c=>by
  rw[NU,G0,C9]at c;let(v,d):=bf.mp c.1;let(b,rfl):=(h é Bo).to a v d;let(bs,e,g):=mf ws s (λx i=>h x<|Bv _ i) (by exists f) c.2;apply⟨b::bs,?_,by simp[g]⟩;let j:Z8 [.B<|Dg é,.B<|aD a]=Z (aD b):=by
   have:Dq (Dg é) (aD a)=Z (aD b):=by
    rw[Ro,Hg];rwa[Gz _ (h é Bo).at',d]
   rwa[Z8,this]
  rwa[NU,ZG,show ZP 2 (Zk (Zd 0)<|Zk (Zd 1) ZQ) (.tup [Dg é,aD a]) [.no,.no]=Z [.val<|Dg é,.val<|aD a]from rfl,j,e]
abbrev J1(e:U At×W'×U W'):D:=.Q [Aj e.1,vC e.2]
def
ZBc(ws:U Bj)(B:∀é∈ws,Wy é)(hz:ws.a<=4)(o q:Sl){æ:U B9}{m:I}(h:Tl æ ws.a m)(F:m<=1000)(e:U At×W'×U W')(r:e.1.a=ws.a):∃b s,ZI [#v[ws.j Dg],o,EL vC æ,.B (Aj e.1),.B (vC e.2),q]=.α [#v[ws.j Dg],o,EL vC b,.B (Aj e.1),.B (vC e.2),s]/\Tl b ws.a (m+1):=by
 let f:=l5 ws e.1 B hz;cases c:(DA (λé a=>(Zo é<|.at a).υ) ws e.1).ϝ id with
 |false=>
  rw[c]at f;apply#[æ,q,?_,#[h.nd,KH h.϶,h.kl]];rwa[ZI,f,Z4]
 |true=>
  rw[c]at f;let(k,C,E):=mf ws e.1 B r.Γ c;let G:=Zt (DA (λx y=>D.Q [x,y]) (ws.j Dg) (e.1.j aD)) (by simp;lia);let H:EE [.X<|k.j aD]=Z (Aj k):=rfl;let j:=YH vC k æ;let i:(æ.j<|ZO vC).a<AE:=by rw[Bg];show Ee h.϶<|BY (show m<100000 by lia) (by ext)
  let l:=FV<|æ.j<|ZO vC;let g:Dy O' (Aj k) (.X (Zb<|æ.j<|ZO vC) .d)=Z (.bl (ZR æ k).υ):=by
   rw[L6,Hi k];show(if DU (.Q k) (æ.j<|ZO vC)=J' then _ else _)=_
   rw[if_pos j,Lh vC k æ,Option.isSome_map];cases(ZR æ k).υ<;>rfl
  let n:∀K,Zm 2 [] K=[.no,.no]:=λ_=>rfl;let hok:=Hi k;cases t:ZR æ k with
  |none=>
   rw[t]at g;let(b,u,w):=l9 h (E.I r) e.2;apply#[b,.B<|Aj k,?_,w];unfold EL;rw[<- u];change ZI [#v[ws.j Dg],o,_,.B<|.Q<|e.1.j aD,_,q]=.α [_,_,_,.B<|.Q<|e.1.j aD,_,_]
   let f:K2 [#v[ws.j Dg],.B<|.Q<|e.1.j aD]=Z (.B<|.bl J'):=f;rwa[ZI,f,Z4,Zi,Gf,Fa,n,G,C,H,g,Option.isSome,LW,HL,FS,l,hok,j,decide_eq_true i]
  |some p=>
   rw[t]at g;let(b,u,w):=l9 h (E.I r) (p.1,p.2++e.2.1::e.2.2);apply#[b,.B<|Aj k,?_,w];let z:=TJ vC t;let A:NG [.B<|vC p,.B<|vC e.2]=Z (.B<|vC (p.1,p.2++e.2.1::e.2.2)):=kM p.1 e.2.1 p.2 e.2.2;unfold EL;rw[<- u];change ZI [#v[ws.j Dg],o,_,.B<|.Q<|e.1.j aD,_,q]=.α [_,_,_,.B<|.Q<|e.1.j aD,_,_]
   let f:K2 [#v[ws.j Dg],.B<|.Q<|e.1.j aD]=Z (.B<|.bl J'):=f;rwa[ZI,f,Z4,Zi,Gf,Fa,n,G,C,H,g,Option.isSome,LW,z,A,HL,FS,l,hok,j,decide_eq_true i]
def
mj(ws:U Bj)(l:∀é∈ws,Wy é)(hz:ws.a<=4)(g:Sl):∀(b:U (U At×W'×U W'))(æ:U B9)(m:I)(d f c:Sl),(∀e∈b,e.1.a=ws.a)->Tl æ ws.a m->m+b.a<=1000->∃a i j k,ZC (ZP 2 (Zk (Zd 3) (Zk (Zd 4) ZQ))) ZI (b.j J1) [#v[ws.j Dg],g,EL vC æ,d,f,c]=.α [#v[ws.j Dg],g,EL vC a,i,j,k]/\Tl a ws.a (m+b.a)
 |[],æ,m,d,f,c,_,h,_=>#[æ,d,f,c,rfl,h]
 |e::b,æ,m,d,f,c,n,h,o=>by
  erw[Cr]at o;let(a1,p,q,r):=ZBc ws l hz g c h ∅ e<|n e Bo;let(s,t,u,w,y,z):=mj ws l hz g b a1 (m+1) (.val<|Aj e.1) (.val<|vC e.2) p (λx E=>n x<|Bv _ E) r ∅;apply⟨s,t,u,w,?_,by rw[Cr,MW b.length 1,<- Pb];show z⟩;erw[Bf,ZC,show ∀A B C:Sl,ZP 2 (Zk (Zd 3)<|Zk (Zd 4) ZQ) (J1 e) [A,B,C,d,f,c]=Z [A,B,C,.val<|Aj e.1,.val<|vC e.2,c]from λ_ _ _=>rfl,q];show y
def
ZwK(ws:U Bj)(q:∀é∈ws,Wy é)(w:0<ws.a)(hz:ws.a<=4)(f:U (U At×W'×U W'))(r:∀e∈f,e.1.a=ws.a)(j:f.a<500):∃æ,P5 [#v[ws.j Dg],#v[f.j J1]]=Z (.τ (EZ æ)):=by
 let(æ,a,b,c,e,ok):=mj ws q hz #v[f.j J1] f [] 0 .no .no .no r #[by simp[Zu],A4 _,λ_ h=>(nomatch h)] ∅;apply#[æ,?_];let i:(Zu æ).a<500:=by unfold Zu;rw[Bg];have:=ok.϶;lia
 let m:=Qn #v[(Zu æ).j Aj] (Zu æ) (.U rfl) i λl j=>by
  have:=ok.kl l j;show#[λz=>by rw[z]at this;simp at this;lia,∅]
 rw[TC _ _ ((ZD Bp _).nodup_iff.Ϛ ok.nd) (λ_ e=>by ext e),<- k6 vC]at m;let s:=Zy (b:=Zd 0) (e:=P2) (ρ:=[.no,.lent (Zb<|æ.map<|ZO vC) .d]) Aj (λk=>.Q [Aj k,vC<|(ZR æ k).getD (0,[])]) (ZA Bp<|Zu æ) λk t=>#[[.B<|Aj k,.lent (Zb<|æ.j<|ZO vC) .d],rfl,by
  let(p,n):=kZ t;rw[n];rwa[P2,TJ vC n,Option.getD]]
 let u:=Zt ((ZA Bp<|Zu æ).map Aj) (by rw[Bg,(ZD _ _).length_eq];lia);let g:=VB<|æ.map<|ZO vC;rw[show EL vC []=.own [] .d from rfl]at e;unfold EL at e;unfold EZ;apply Zp rfl ?_;generalize ws.map Dg=L,f.map J1=R,æ.map (ZO vC)=o,(ZA Bp<|Zu æ).map Aj=W,(ZA Bp<|Zu æ).map (λk=>D.Q [Aj k,vC<|(ZR æ k).β (0,[])])=T at *;change P4 [#v[L],#v[R],.no,.no,.no,.no]=_
 rwa[P4,ES,C2,ZK,Zi,show ∀x y z,Zm 1 [2] [#v[L],#v[R],.own (Zb o) .d,x,y,z]=[.no,.lent (Zb o) .d]from λ_ _ _=>rfl,Do,e,g,m,EG,u,s]
def
ZCV(æ:U B9):EZ æ=((ZA Bp (Zu æ)).j λk=>(k,(ZR æ k).β (0,[]))).j J1:=by
 rw[B4];rfl
def
ZBH{L:AW}(h:BX L){g e:U I}(f:g.a=L.a)(i:e.a=L.a)(b:U Pk)(j:∀q∈b,q.2.2.1.a<=100)(c:U (U At×W'×U W'))(k:∀x∈c,x.1.a=L.a)(l:c.a<500)(m:Mq [#v[L.j LD],.B (Ax g),.B (Ax e),#v[b.j Df]]=Z (.B .Ε)):∃æ,XM [#v[L.j LD],#v[c.j J1],.B (Ax g),.B (Ax e),#v[b.j Df]]=Z (.τ (EZ æ)):=by
 let(d,n,a,o):=l7 h f i b j;let(æ,em):=ZwK d o (by rw[a];show h.n1) (by rw[a];show h.n4) c (by rw[a];show k) l;apply#[æ,?_];apply Zp rfl ?_;generalize d.j Dg=V,c.j J1=R,L.j LD=W,b.j Df=PS,Ax g=p,Ax e=E,EZ æ=T at *;change XJ [#v[W],#v[R],.B p,.B E,#v[PS]]=_
 rwa[XJ,m,EA,isN,n,EG,Ef,em,Jf,ZK]
def
mk:FE.Μ "kept"=O':=by symm
def
mm:FE.Μ "plan"=O':=by symm
variable {L:AW}{rs:U Row}
def
mo{R:U D}{ys:U D}(b:Ge Gi (gs.j Ax)=Z ys):Si [.B (BD L R (Zb (AI L rs gs)))]=Z (.τ ys):=by
 let c:=JY (L:=L) (R:=R) (T:=Zb<|AI L rs gs);let e:NB (Z<|.X (Zb<|AI L rs gs) .d)=Z ys:=by
  show(EU<|Zb<|AI L rs gs).bind (λa=>Ge Gi<|a.map λp=>kD p.1)=_
  rw[FV];change Ge Gi ((AI L rs gs).j λp=>kD p.1)=_
  rw[YQ,b]
 generalize D.X (Zb<|AI L rs gs) .d=TT,BD L R (Zb<|AI L rs gs)=B at *;apply Zp rfl ?_;change Wl [.B B]=_
 rwa[Wl,c,e,ZK]
def Ub(L:AW)(e:U I)(gs:U (U I))(d:D):V':=d=.Ε\/∃g∈gs,∃n:I,d=.Q [Ax g,.u n]/\Mq [#v[L.j LD],.B (Ax g),.B (Ax e),#v[[]]]=Z (.B .Ε)
variable(h:BX L)(hr:∀r∈rs,AR L r.1)(hrl:rs.a<=210)(hgs:∀g∈gs,g.a=L.a)
include h hr hrl hgs
def
ZwC{e:U I}(C:e.a=L.a){g:U I}(f:g∈gs)(d:D)(hd:Ub L e gs d)(w:Sl):∃d' m,Ms [.B (BD L (rs.j Zc) (Zb (AI L rs gs))),.B (Ax e),#v[[]],.B d,.B (Ax g),w]=.α [.B (BD L (rs.j Zc) (Zb (AI L rs gs))),.B (Ax e),#v[[]],.B d',.B (Ax g),m]/\Ub L e gs d'/\(d≠.Ε->d'≠.Ε)/\((∀n∈g,n=0)->d'≠.Ε):=by
 let(r,a,o):=Zzr h (hgs g f) C []<|λ_ z=>nomatch z;rw[Dn]at a;let a1:=IQ (L:=L) (R:=rs.j Zc) (T:=Zb<|AI L rs gs);rcases o with rfl|⟨⟨n,G,H⟩,k,x,y,rfl⟩
 .let p:=JY (L:=L) (R:=rs.j Zc) (T:=Zb<|AI L rs gs);let i:=NX L rs f;obtain⟨b,q,K⟩:∃b:U (U At×D),CN L g rs=HY b/\b.length<=1000:=#[(ZA Bp<|Zu<|DC L g rs).map λk=>(k,vC<|(ZR (DC L g rs) k).β (0,[])),by change EZ _=_;rw[EZ,HY,B4];rfl,by
   have:=(T2 (hgs g f) hr).϶;rw[Bg,(ZD _ _).ϋ,Zu,Bg];lia]
  let(c,j):=ZxB h (hgs g f) [] (λ_ z=>nomatch z) b K;rw[Dn]at j;rw[q]at i;rcases hd with rfl|⟨l,s,n,rfl,t⟩
  .apply#[.Q [Ax g,.u c],.B<|.int c,?_,(.inr ⟨g,f,c,rfl,a⟩),λ_ z=>(nomatch z),λ_ z=>(nomatch z)];generalize BD L (rs.j Zc) (Zb<|AI L rs gs)=B,L.j LD=W,Ax g=F,Ax e=E,HY b=T at *;rwa[Ms,a1,a,EA,isN,p,i,j]
  .let lt:HF (.u c) (.u n)=Z (.bl<|decide<|(c:W')<n):=rfl;cases A:decide ((c:W')<n)with
   |true=>
    rw[A]at lt;apply#[.Q [Ax g,.u c],.B<|.int c,?_,(.inr ⟨g,f,c,rfl,a⟩),λ_ z=>(nomatch z),λ_ z=>(nomatch z)];generalize BD L (rs.j Zc) (Zb<|AI L rs gs)=B,L.j LD=W,Ax g=F,Ax e=E,HY b=T,Ax l=u at *;rwa[Ms,a1,a,EA,isN,p,i,j,show Ar (.tup [u,.int n]) (.int 1)=Z (.int n)from rfl,lt]
   |false=>
    rw[A]at lt;apply#[.Q [Ax l,.u n],.B<|.int c,?_,(.inr ⟨l,s,n,rfl,t⟩),λ_ z=>(nomatch z),λ_ z=>(nomatch z)];generalize BD L (rs.j Zc) (Zb<|AI L rs gs)=B,L.j LD=W,Ax g=F,Ax e=E,HY b=T,Ax l=u at *;rwa[Ms,a1,a,EA,isN,p,i,j,show Ar (.tup [u,.int n]) (.int 1)=Z (.int n)from rfl,lt]
 .apply#[d,w,?_,hd,id,λz=>absurd (z n G) H];generalize BD L (rs.j Zc) (Zb<|AI L rs gs)=B,L.j LD=W,Ax g=F,Ax e=E at *;rwa[Ms,a1,a,EA,isN]
def
mq{e:U I}(k:e.a=L.a):∀(a:U (U I))(d:D)(f b:Sl),(∀g∈a,g∈gs)->Ub L e gs d->∃d' i j,ZC (Zd 4) Ms (a.j Ax) [.B (BD L (rs.j Zc) (Zb (AI L rs gs))),.B (Ax e),#v[[]],.B d,f,b]=.α [.B (BD L (rs.j Zc) (Zb (AI L rs gs))),.B (Ax e),#v[[]],.B d',i,j]/\Ub L e gs d'/\(d≠.Ε->d'≠.Ε)/\((∃g∈a,∀n∈g,n=0)->d'≠.Ε)
 |[],d,f,b,_,hd=>#[d,f,b,rfl,hd,id,λ⟨_,h,_⟩=>nomatch h]
 |g::a,d,f,b,l,hd=>by
  let(o,p,q,r,s,t):=ZwC h hr hrl hgs k (l g Bo) d hd b;let(u,w,y,A,B,m,C):=mq k a o (.B<|Ax g) p (λx c=>l x<|Bv _ c) r;apply⟨u,w,y,?_,B,λz=>m<|s z,λ⟨x,c,z⟩=>?_⟩
  .rwa[ZC,q];show A
  .rcases BJ.mp c with rfl|c
   .show m<|t z
   .show C #[x,c,z]
def
mr(p:gs.a<64)(hz:zg L∈gs){e:U I}(a:E1 L e):∃g∈gs,∃n:I,Tb [.B (BD L (rs.j Zc) (Zb (AI L rs gs))),.B (Ax e),#v[[]]]=Z (.B (.Q [Ax g,.u n]))/\Mq [#v[L.j LD],.B (Ax g),.B (Ax e),#v[[]]]=Z (.B .Ε):=by
 let n1:=h.n1;let i:=mo (L:=L) (rs:=rs) (R:=rs.j Zc) (YS (gs:=gs) ∅ λg b z=>by have:=hgs g b;rw[z]at this;simp at this;lia);let c:=ZD Ew gs;let(d,q,r,j,hd,_,f):=mq h hr hrl hgs a.1 (ZA Ew gs) .Ε .no .no (λg b=>c.Ϫ.mp b) (.U rfl);rcases hd with rfl|⟨g,b,n,rfl,k⟩
 .show absurd rfl<|f ⟨zg L,c.mem_iff.mpr hz,λn f=>by simp at f;show f.2.Γ⟩
 apply#[g,b,n,?_,k];let l:=Qr h a;let a1:=IQ (L:=L) (R:=rs.j Zc) (T:=Zb<|AI L rs gs);let m:=Zy3 (L.map LD) [] (λ_=>J') (λ_ z=>nomatch z) (by ext);let o:Es "Book" "kept" (.B<|BD L (rs.j Zc)<|Zb<|AI L rs gs)=J':=by rwa[Es,mk]
 generalize BD L (rs.j Zc) (Zb<|AI L rs gs)=B,L.j LD=W,(ZA Ew gs).j Ax=s,Ax g=t,Ax e=E at *;apply Zp rfl ?_;change X0 [.B B,.B E,#v[[]],.no,.no,.no]=_
 rwa[X0,jA,jr,a1,l,EM,jz,js,m,List.all_nil,jy,jt,jx,ju,Ek,o,i,EG,C2,j,jw,jv,Zw]
def
ZvB(f:gs.a<64)(hz:zg L∈gs){e:U I}(a:E1 L e):∃æ,X2 [.B (BD L (rs.j Zc) (Zb (AI L rs gs))),.B (Ax e),#v[[]]]=Z (.τ (EZ æ)):=by
 let(g,b,n,i,j):=mr h hr hrl hgs f hz a;let c:=NX L rs b;let ok:=T2 (hgs g b) hr;rw[show CN L g rs=_ from ZCV (DC L g rs)]at c;let(æ,d):=ZBH h (hgs g b) a.1 [] (λ_ z=>nomatch z) ((ZA Bp<|Zu<|DC L g rs).map λk=>(k,(ZR (DC L g rs) k).β (0,[]))) (λx l=>by
  let(k,m,rfl):=Bm.mp l;show ok.kl k<|(ZD _ _).Ϫ.mp m) (by rw[Bg,(ZD _ _).ϋ,Zu,Bg];have:=ok.϶;lia) j
 rw[Dn]at d;apply#[æ,?_];let o:Es "Book" "plan" (.B<|BD L (rs.j Zc)<|Zb<|AI L rs gs)=J':=by rwa[Es,mm]
 let a1:=IQ (L:=L) (R:=rs.j Zc) (T:=Zb<|AI L rs gs);let p:=JY (L:=L) (R:=rs.map Zc) (T:=Zb<|AI L rs gs);generalize BD L (rs.map Zc) (Zb<|AI L rs gs)=B,L.map LD=W,Ax g=q,Ax e=E,EZ æ=Y,(((ZA Bp<|Zu<|DC L g rs).map λk=>(k,(ZR (DC L g rs) k).β (0,[]))).j J1)=TT at *;apply Zp rfl ?_;change X1 [.B B,.B E,#v[[]],.no]=_
 rwa[X1,Ek,o,i,Cw,show Ar (.tup [q,.int n]) (.int 0)=Z q from rfl,a1,p,c,Ef,d,Jf,ZK]
end
def
Zyd:FE.Μ "table"=O':=by symm
def
Zw3:FE.Μ "answer"=O':=by symm
def
Zuw:FE.Μ "ladders"=O':=by symm
variable {L:AW}{R T:U D}{rs:U Row}{g:U I}
def
ZzH(b:K6 [#v[L.j LD],.B (Ax g)]=Z (.B (.bl J'))):W8 [.B (BD L R (Zb (AI L rs gs))),.B (Ax g)]=Z (.B (.bl (decide (g∈gs)))):=by
 let l1:=IQ (L:=L) (R:=R) (T:=Zb<|AI L rs gs);let c:=JY (L:=L) (R:=R) (T:=Zb<|AI L rs gs);let a:=YP L rs O' gs g;apply Zp rfl ?_;generalize Ax g=e,D.X (Zb<|AI L rs gs) .d=TT,BD L R (Zb<|AI L rs gs)=B at *;change W7 [.B B,.B e]=_
 rw[Bool.false_bne]at a;rwa[W7,l1,c,b,a]
def
ms(c:K6 [#v[L.j LD],.B (Ax g)]=Z (.B (.bl J')))(a:g∈gs):Xa [.B (BD L R (Zb (AI L rs gs))),.B (Ax g)]=Z (.τ (CN L g rs)):=by
 let b:=ZzH (R:=R) (rs:=rs) (gs:=gs) c;rw[decide_eq_true a]at b;let e:=JY (L:=L) (R:=R) (T:=Zb<|AI L rs gs);let hd:=NX L rs a;let f:Es "Book" "is_kept" (.B<|BD L R<|Zb<|AI L rs gs)=J':=rfl;apply Zp rfl ?_;generalize CN L g rs=Y,Ax g=h,D.X (Zb<|AI L rs gs) .d=TT,BD L R (Zb<|AI L rs gs)=B at *;change W9 [.B B,.B h]=_
 rwa[W9,Ek,Do,f,b,EM,e,hd,(show Er [.lst Y]=Z Y from rfl),ZK]
def
Zrl(f:L.a<=4):Wi [.B (BD L R T)]=Z (.τ (L.j LD)):=by
 let a:=Zy (b:=Zd 0) (e:=gw) (ρ:=[.no]) LD LD L λc _=>#[[.B<|LD c],rfl,rfl];let l1:=IQ (L:=L) (R:=R) (T:=T);let d:=Zt (L.j LD) (by simp;lia);apply Zp rfl ?_;generalize BD L R T=B,L.j LD=W at *;change Wh [.B B]=_
 rwa[Wh,Zi,(show Zm 1 [] [Sl.val B]=[.no]from rfl),l1,d,a,ZK]
end
def QD(n:I)(d:D):V':=AL n d=J'/\BN 1 d=J'
def
QD.lst{n:I}(h:∀d∈xs,QD n d):QD (n+1) (.X xs):=#[Dp.Ϛ λd hd=>(h d hd).1,by
 show(!vk 1 .l&&Dr 1 xs)=J'
 rw[FZ λd hd=>(h d hd).2];rfl]
def
QD.tup{n:I}(h:∀d∈xs,QD n d):QD (n+1) (.Q xs):=#[Dp.Ϛ λd hd=>(h d hd).1,FZ λd hd=>(h d hd).2]
def
QD.ln(n:I)(k:U At):QD (n+1) (Aj k):=#[IK n k,J0 1 k]
def
QD.gr(n:I)(g:U I):QD (n+1) (Ax g):=by rw[<- Lk];show .ln n _
def
QD.two{n:I}{a b:D}(c:QD n a)(e:QD n b):∀d∈[a,b],QD n d:=λd hd=>by
 rcases BJ.mp hd with rfl|hd
 .show c
 .rw[CC]at hd;subst hd;show e
def
QD.te(k:U At)(p:W'×U W'):QD 9 (.Q [Aj k,vC p]):=.Q<|.two (.ln 7 k) ⟨rfl,rfl⟩
def
QD.tb(æ:U B9):QD 10 (.X (EZ æ)):=.X λd hd=>by
 let(k,_,rfl):=Bm.mp hd;show .te k _
def
QD.rows(rs:U Row):QD 11 (.X (rs.j Zc)):=.X λd hd=>by
 let(r,_,rfl):=Bm.mp hd;show .Q<|.two (.ln 8 r.1) ⟨rfl,rfl⟩
def
QD.LDs(L:AW):QD 11 (.X (L.j LD)):=.X λd hd=>by
 let(a,_,rfl):=Bm.mp hd;show .X λd hd=>by
  let(l,_,rfl):=Bm.mp hd;show .ln 8 l
def
QD.grs(gs:U (U I)):QD 11 (.X (gs.j Ax)):=.X λd hd=>by
 let(g,_,rfl):=Bm.mp hd;show .gr 9 g
variable {L:AW}{rs:U Row}(h:BX L)(hr:∀r∈rs,AR L r.1)(hrl:rs.a<=210)(hgs:∀g∈gs,g.a=L.a)(hl:gs.a<64)(hz:zg L∈gs)
include h hr hrl hgs hl hz
def
mu{e:U I}(c:E1 L e):∃d,Te [.B (Ax e),.B (BD L (rs.j Zc) (Zb (AI L rs gs)))]=Z d/\QD 10 d:=by
 let(g,_,n,i,_):=mr h hr hrl hgs hl hz c;let(f,j):=ZvB h hr hrl hgs hl hz c;apply#[.Q [.Q [Ax g,.u n],.X<|EZ f],?_,.tup (.two (.tup<|.two (.gr 7 g) ⟨rfl,rfl⟩) (.lst λd hd=>by
  let(k,_,rfl):=Bm.mp hd;show .Q<|.two (.ln 6 k) ⟨rfl,rfl⟩))]
 let l:Es "Book" "plan" (.B<|BD L (rs.j Zc)<|Zb<|AI L rs gs)=J':=by rwa[Es,mm]
 let m:Es "Book" "answer" (.B<|BD L (rs.j Zc)<|Zb<|AI L rs gs)=J':=by rwa[Es,Zw3]
 generalize BD L (rs.j Zc) (Zb<|AI L rs gs)=B,Ax e=E,Ax g=o,EZ f=Y at *;rwa[Te,Ek,show Zf (Z ([]:U D))=Z []from rfl,l,m,i,j,Cw,show ∀a b:D,Zf (Z [a,b])=Z [a,b]from λ_ _=>rfl]
def
ZyF{g:U I}(f:E1 L g)(k:g∈gs):∃S,Qe [.B (BD L (rs.j Zc) (Zb (AI L rs gs))),#v[[Ax (zg L),Ax g]]]=Z (.B S)/\QD 12 S:=by
 let(i,l,m):=mu h hr hrl hgs hl hz<|E1.zero L;let(j,n,o):=mu h hr hrl hgs hl hz f;let n1:=h.n1;let p:=mo (L:=L) (rs:=rs) (R:=rs.map Zc) (YS (gs:=gs) ∅ λg f z=>by have:=hgs g f;rw[z]at this;simp at this;lia);let q:=ms (R:=rs.j Zc) (rs:=rs) (gs:=gs) (Qr h<|E1.zero L) hz;let r:=ms (R:=rs.j Zc) (rs:=rs) (gs:=gs) (Qr h f) k;let s:=Zrl (L:=L) (R:=rs.j Zc) (T:=Zb<|AI L rs gs) h.n4;let t:=Zys (L:=L) (R:=rs.j Zc) (T:=Zb<|AI L rs gs);let u:Es "Book" "rows" (.B<|BD L (rs.j Zc)<|Zb<|AI L rs gs)=J':=by rwa[Es,ZAp]
 let i2:Es "Book" "table" (.B<|BD L (rs.j Zc)<|Zb<|AI L rs gs)=J':=by rwa[Es,Zyd]
 let w:Es "Book" "kept" (.B<|BD L (rs.j Zc)<|Zb<|AI L rs gs)=J':=by rwa[Es,mk]
 let y:Es "Book" "ladders" (.B<|BD L (rs.j Zc)<|Zb<|AI L rs gs)=J':=by rwa[Es,Zuw]
 apply#[.Q [.X<|rs.map Zc,.lst [.lst<|CN L (zg L) rs,.lst<|CN L g rs],.lst<|(ZA Ew gs).map Ax,.lst<|L.map LD,.lst [i,j]],?_,.tup λd hd=>?_]
 .generalize BD L (rs.j Zc) (Zb<|AI L rs gs)=B,Ax (zg L)=F,Ax g=E,CN L (zg L) rs=A,CN L g rs=C,(ZA Ew gs).j Ax=G,L.j LD=W at *;generalize rs.j Zc=R at *;apply Zp rfl ?_;change X7 [.B B,#v[[F,E]],.no]=_
  rwa[X7,Zi,show ∀x:Sl,Zm 1 [0] [.val B,#v[[F,E]],x]=[.no,.val B]from λ_=>rfl,(show ZG (Zd 0) (λ_=>Z J') Te [.no,.val B] [F,E]=Z [i,j] by rwa[ZG,Zd,l,n]),(show ZG (Zd 0) (λ_=>Z J') X6 [.no,.val B] [F,E]=Z [.lst A,.lst C] by rwa[ZG,Zd,X6,Ek,i2,q,r,Cw]),Ek,u,w,y,t,p,s,Cw,(show ∀a b c d e:D,Zf (Z [a,b,c,d,e])=Z [a,b,c,d,e]from λ_ _ _ _ _=>rfl),Zw]
 .erw[BJ,G6,or_false]at hd;rcases hd with rfl|rfl|rfl|rfl|rfl
  .show .rows rs
  .show .X<|.two (.tb _)<|.tb _
  .show .grs _
  .show .LDs L
  .show .X<|.two m o
end
def Cg(k:I):D:=.Q [.X ((Bl 8).j λj=>.bl (decide (j=k))),.bl J']
def IR(L:AW)(rs:U Row)(d:D)(k:I)(c:Ae):V':=
 (k=0/\c="NoRow"/\Z3 [#v[L.j LD],.B d]=Z (.B (.bl O')))\/(k=1/\c="NoSuch"/\∃r:Row,d=AS (O',r)/\AR L r.1/\r∉rs)\/(k=2/\c="TooMuch"/\∃r:Row,d=AS (J',r)/\AR L r.1/\200<=rs.a)
def
IR.perm{L:AW}{rs ñ:U Row}{d:D}{k:I}{c:Ae}(p:rs.Perm ñ)(h:IR L rs d k c):IR L ñ d k c:=by
 rcases h with h|⟨a,b,r,e,f,g⟩|⟨a,b,r,e,f,g⟩
 .show .U h
 .show .φ<|.inl ⟨a,b,r,e,f,λz=>g<|p.Ϫ.Ϛ z⟩
 .show .φ<|.φ ⟨a,b,r,e,f,p.ϋ ▸ g⟩
def
FG.perm{L:AW}:∀{cs:U Ce}{rs ñ:U Row},rs.Perm ñ->FG L rs cs->FG L ñ cs
 |[],_,_,_,_=>trivial
 |c::cs,_,_,p,⟨⟨a,b,d⟩,e⟩=>#[#[a,λz=>p.Ϫ.mp<|b z,λz=>p.ϋ ▸ d z],FG.perm (lK c p) e]
def
D4(rs:U Row)(r:Row){G:Gh}{n:I}(h:G[n]?=Z (.ϯ .l (rs.j Zc))):Wd [.Ϝ n,.B (Zc r)] G=if 200<=rs.a then Z ("TooMuch":Ae)else J:=by
 let b:L0 (.u ((rs.j Zc).a:W')) (.u 200)=Z (.bl<|decide<|200<=rs.a):=by
  change Z (D.bl<|decide<|(200:W')<=((rs.j Zc).a:W'))=_
  rw[Bg,show decide ((200:W')<=(rs.a:W'))=decide (200<=rs.a)from decide_eq_decide.Ϛ ∅]
 let a:Zv [.X<|rs.j Zc]=Z (.u ((rs.j Zc).a:W')):=rfl;change Sg ([.Ϝ n,.B<|Zc r],G)=_
 generalize rs.j Zc=R,Zc r=d at *;by_cases c:200<=rs.a
 .rw[decide_eq_true c]at b;rwa[Sg,Lp h,a,b,GD,show ∀s:Ae,BN 2 (.str s)=J' from λ_=>rfl,KY,if_pos c]
 .rw[decide_eq_false c]at b;rwa[Sg,Lp h,a,b,GD,if_neg c]
def
ZFc(rs:U Row)(r:Row){G:Gh}{n:I}(h:G[n]?=Z (.ϯ .l (rs.j Zc))):Wg [.Ϝ n,.B (Zc r)] G=if r∈rs then J else Z ("NoSuch":Ae):=by
 let a:Db J' (Zc r) (.X<|rs.j Zc)=Z (.bl<|!decide (r∈rs)):=by
  erw[Db,F0,MH 10 r,Qu rs,YV,Hd,if_true,Bool.true_bne]
 change Sh ([.Ϝ n,.B<|Zc r],G)=_
 generalize rs.j Zc=R,Zc r=b at *;by_cases c:r∈rs
 .rw[decide_eq_true c]at a;rwa[Sh,Lp h,a,GD,if_pos c]
 .rw[decide_eq_false c]at a;rwa[Sh,Lp h,a,GD,show ∀s:Ae,BN 2 (.str s)=J' from λ_=>rfl,KY,if_neg c]
variable {L:AW}(h:BX L)(x1 x2:IV){rs:U Row}{G:Gh}{n:I}(hn:G[n]?=Z (.ϯ .l (rs.j Zc)))
include h hn
def
Y3(c:Ce)(a:AR L c.2.1):II ([#v[L.j LD],x1,x2,.Ϝ n,.B (AS c)],G)=bif c.1 then(if 200<=rs.a then Z ("TooMuch":Ae)else J)else(if c.2∈rs then J else Z ("NoSuch":Ae)):=by
 let f:=lw h c a;let(b,r):=c;cases b with
 |true=>rwa[II,f,EM,GD,K1,show Ar (AS (J',r)) (.int 0)=Z (Co J')from rfl,show Ar (AS (J',r)) (.int 1)=Z (Aj r.1)from rfl,show Ar (AS (J',r)) (.int 2)=Z (.int r.2)from rfl,Qp J',show D.tup [Aj r.1,.int r.2]=Zc r from rfl,Qt r,(D4 rs r hn),cond_true]
 |false=>rwa[II,f,EM,GD,K1,show Ar (AS (O',r)) (.int 0)=Z (Co O')from rfl,show Ar (AS (O',r)) (.int 1)=Z (Aj r.1)from rfl,show Ar (AS (O',r)) (.int 2)=Z (.int r.2)from rfl,Qp O',show D.tup [Aj r.1,.int r.2]=Zc r from rfl,Qt r,(ZFc rs r hn),cond_false]
def
ZuU{d:D}{k:I}{c:Ae}(e:IR L rs d k c):II ([#v[L.j LD],x1,x2,.Ϝ n,.B d],G)=Z c:=by
 rcases e with⟨_,rfl,f⟩|⟨_,rfl,r,rfl,a,b⟩|⟨_,rfl,r,rfl,a,b⟩
 .rwa[II,f,EM,GD,K1,show ∀s:Ae,BN 2 (.str s)=J' from λ_=>rfl,KY]
 .rw[Y3 h x1 x2 hn (O',r) a,cond_false,if_neg b]
 .rw[Y3 h x1 x2 hn (J',r) a,cond_true,if_pos b]
def
ZtH{c:Ce}(a:AR L c.2.1)(b:c.1=O'->c.2∈rs)(d:c.1=J'->rs.a<200):II ([#v[L.j LD],x1,x2,.Ϝ n,.B (AS c)],G)=J:=by
 rw[Y3 h x1 x2 hn c a];cases e:c.1 with
 |true=>rw[cond_true,if_neg (by have:=d e;lia)]
 |false=>rw[cond_false,if_pos<|b e]
end
def
Y4{L:AW}(h:BX L)(b x2:IV){n:I}(e:U D)(r:O Ae)(P:U Row->V')(g:∀(rs:U Row)(a:IV)(G:Gh),P rs->G[n]?=Z (.ϯ .l (rs.j Zc))->HP 4 Lc II e ([#v[L.j LD],b,x2,.Ϝ n,a],G)=r):∀(cs:U Ce)(rs:U Row)(a:IV)(G:Gh),FG L rs cs->P (cs.Ϗ B6 rs)->G[n]?=Z (.ϯ .l (rs.j Zc))->HP 4 Lc II (cs.j AS++e) ([#v[L.j LD],b,x2,.Ϝ n,a],G)=r
 |[],rs,a,G,_,f,d=>g rs a G f d
 |c::cs,rs,a,G,⟨⟨i,j,k⟩,m⟩,f,d=>by
  rwa[F9,HP,ZtH h b x2 d i j k,lM h b x2 k i j d];show(Y4 h b x2 e r P g cs (B6 rs c) (.B<|AS c) (G.Χ n<|.ϯ .l<|(B6 rs c).j Zc) m f<|Ll d)
def
mv{L:AW}(rs:U Row)(a:U D)(G:Gh):NM [#v[L.j LD],#v[rs.j Zc],#v[a]] G=HP 4 Lc II a ([#v[L.j LD],#v[rs.j Zc],#v[a],.Ϝ (F1 G).a,.no],F1 G++[.ϯ .l (rs.j Zc)]):=by
 let b:=T6 rs;change XU ([#v[L.j LD],#v[rs.j Zc],#v[a],.no,.no],F1 G)=_
 generalize L.j LD=d,rs.j Zc=R,F1 G=c at *;rwa[XU,Do,show Er [.lst R]=Z R from rfl,jG,jL,b,K1,Mi,VZ]
def
Zrm{L:AW}(h:BX L){rs:U Row}{cs:U Ce}(e:FG L rs cs){d:D}{k:I}{c:Ae}(a:IR L (cs.Ϗ B6 rs) d k c)(b:U D)(G:Gh):NM [#v[L.j LD],#v[rs.j Zc],#v[cs.j AS++d::b]] G=Z c:=by
 rw[mv];show Y4 h _ _ (d::b) (Z c) (λrs=>IR L rs d k c) (λrs g G a f=>by erw[HP,MA,MB,ZuU h _ _ f a]) cs rs .no _ e a (by simp)
def
Zt7{L:AW}(h:BX L){rs:U Row}{cs:U Ce}(a:FG L rs cs)(G:Gh):NM [#v[L.j LD],#v[rs.j Zc],#v[cs.j AS]] G=J:=by
 rw[mv];have:=Y4 h #v[rs.j Zc] #v[cs.j AS] (n:=(F1 G).a) [] J (λ_=>True) (λ_ _ _ _ _=>rfl) cs rs .no (F1 G++[.ϯ .l<|rs.j Zc]) a trivial (by simp);rw[C6]at this;show this
variable {L:AW}{rs:U Row}{T:U D}{G:Gh}{b t:I}(hb:G[b]?=Z (CP L (rs.j Zc) t))(ht:G[t]?=Z (.ϯ .d T))
include hb ht
def
mw(a:U D):Qd [.Ϝ b,#v[a]] G=NM [#v[L.j LD],#v[rs.j Zc],#v[a]] G:=by
 let c:=JZ 1 (by ext) hb ht;let a1:=IQ (L:=L) (R:=rs.j Zc) (T:=T);let d:=Qs (L:=L) (R:=rs.j Zc) (T:=T);let e:BN 1 (.X<|L.j LD)=J':=by
  show(!vk 1 .l&&Dr 1 (L.j LD))=J'
  rw[T5 L];rfl
 let f:=lP rs;change XZ ([.Ϝ b,#v[a]],G)=_
 generalize rs.j Zc=R,BD L (rs.j Zc) T=B,L.j LD=W at *;rwa[XZ,c,a1,d,e,f]
omit ht in
def
ZFR{a:U D}{k:I}{c:Ae}(d:(k=0/\c="NoRow")\/(k=1/\c="NoSuch")\/(k=2/\c="TooMuch"))(e:Qd [.Ϝ b,#v[a]] G=Z c):IJ [.Ϝ b,#v[a]] G=Z (.B (Cg k),G):=by
 let f:jB ([.Ϝ b,#v[a],.B .Ε,.exc c,.no],G)=.Ϯ (.B<|Cg k) G:=by
  rcases d with⟨rfl,rfl⟩|⟨rfl,rfl⟩|⟨rfl,rfl⟩<;>rfl
 suffices g:NN ([.Ϝ b,#v[a],.no,.no,.no],G)=.Ϯ (.B<|Cg k) G from Eq.I (fi rfl g) rfl
 generalize Cg k=Q at *;rwa[NN,Td,X3,show BN 2 .non=J' from rfl,Tc,X4,Ps,hb,(show Gg "Book" "pour" (CP L (rs.map Zc) t)=J' by rwa[Gg,Y0]),((Dk.mp hb).1),and_self,e,Pt,(show CS.contains c=J' by rcases d with⟨_,rfl⟩|⟨_,rfl⟩|⟨_,rfl⟩<;>decide +kernel),f,fW]
omit ht in
def
ZEI{a:U D}(c:Qd [.Ϝ b,#v[a]] G=J){Y:U D}(d:Qc [.Ϝ b,#v[a]] G=Z (.Ϝ j,G'))(e:G'[j]?=Z (.ϯ .l Y)):IJ [.Ϝ b,#v[a]] G=Z (.B (.bl J'),G'):=by
 suffices f:NN ([.Ϝ b,#v[a],.no,.no,.no],G)=.Ϯ (.B<|.bl J') G' from Eq.I (fi rfl f) rfl
 rwa[NN,Td,X3,show BN 2 .non=J' from rfl,Tc,X4,Ps,hb,(show Gg "Book" "pour" (CP L (rs.map Zc) t)=J' by rwa[Gg,Y0]),((Dk.mp hb).1),and_self,c,Pt,GK,d,X5,jC,(Lp e),Zn,show Dc [.lst Y,.ty "list"]=Z (.bl J')from rfl,show BN 2 (.bl J')=J' from rfl]
end
def Qv(d:D):V':=(Sm d/\EH d=O'/\d≠.Ε)\/d=.Ε\/d=.u (7*10^40)
def
my{f:BM}{p:I}(b:GL f p){d:D}(h:Qv d):K9 [.B (LD f),‹0›,.B d]=Z (.B (.bl O')):=by
 let no:∀a:At,(EH (aD a)=J'->∀i,a=.u i->i≠7*10^40)->(Sm (aD a)/\(EH (aD a)=J'\/a=.Ε))->(∀l∈f,hd l≠a)->K9 [.B<|LD f,‹0›,.val<|aD a]=Z (.val<|.bl O'):=λa _ j k=>by
  have:=TV b 0 a j;rw[decide_eq_false λ⟨l,c,e⟩=>k l c (by rw[<- e];ext l<;>rfl)]at this;show this
 rcases h with⟨m,n,o⟩|rfl|rfl
 .show ZAD _ _ d m n o
 .have:=TV b 0 .Ε #[trivial,.φ rfl];rw[decide_eq_false λ⟨l,c,e⟩=>by
   let g:=(b.B l c (hd l)<|YJ<|b.ln l c).1;rw[show hd l=.Ε by rw[<- e];ext l<;>rfl]at g;cases g]at this
  show this
 .have:=TV b 0 (.u<|7*10^40) ⟨trivial,.inl rfl⟩;rw[decide_eq_false λ⟨l,c,e⟩=>by
   let g:=(b.B l c (hd l)<|YJ<|b.ln l c).2.2 (7*10^40) (by rw[<- e];ext l<;>rfl);lia]at this
  show this
def Fk:AW->U D->U q'->V'
 |[],[],[]=>True
 |a::L,v::c,b::bs=>K9 [.B (LD a),‹0›,.B v]=Z (.B (.bl b))/\Fk L c bs
 |_,_,_=>False
def
Fk.len:∀{L:AW}{vs:U D}{bs:U q'},Fk L vs bs->vs.a=L.a
 |[],[],[],_=>rfl
 |_::_,_::_,_::_,⟨_,h⟩=>congrArg (·+1) h.϶
def
Fk.run:∀{L:AW}{vs:U D}{bs:U q'},Fk L vs bs->ZG (ZP 2 (Zk (Zd 0) (Zk (Zd 1) ZQ))) (λ_=>Z J') Mr [.no,.no] (DA (λx y=>D.Q [x,y]) (L.j LD) vs)=Z (bs.j D.bl)
 |[],[],[],_=>rfl
 |a::L,v::vs,b::bs,⟨e,h⟩=>by
  rwa[NU,ZG,ZP,Zk,ZQ,(show Mr [.val<|LD a,.val v]=Z (.bl b) by rwa[Mr,e]),h.run]
def
mz{L:AW}(h:BX L){vs:U D}{bs:U q'}(b:Fk L vs bs):Lb [#v[L.j LD],.B (.Q vs)]=Z (.B (.bl (bs.ϝ id))):=by
 let c:=b.run;let d:D1 [.X<|bs.j D.bl]=Z (.bl<|bs.ϝ id):=by erw[D1,TY,Fd]
 let g:=h.n4;let e:=Zt (DA (λx y=>D.Q [x,y]) (L.j LD) vs) (by rw[List.length_zipWith,Bg];lia);let f:Zv [.X<|L.j LD]=Z (.u ((L.j LD).a:W')):=rfl;let a:Cc (.u vs.a) (.u ((L.j LD).a:W'))=Z (.bl O'):=by rw[show vs.a=(L.j LD).a by simp[b.len]];simp
 apply Zp rfl ?_;generalize bs.j D.bl=B,(L.j LD)=i at *;change Z6 [#v[i],.B<|.Q vs]=_
 rwa[Z6,(show Dc [.tup vs,.ty "tuple"]=Z (.bl J')from rfl),EM,(show Zv [.tup vs]=Z (.int vs.length)from rfl),f,a,Zi,Gf,Fa,show Zm 2 [] [#v[i],.val<|.tup vs]=[.no,.no]from rfl,e,c,d]
def
ZBW(W:U D)(d:D)(a:Dc [d,.ty "tuple"]=Z (.bl O')):Lb [#v[W],.B d]=Z (.B (.bl O')):=by
 apply Zp rfl ?_;change Z6 [#v[W],.B d]=_
 rwa[Z6,a,EM]
def
mB(W vs:U D)(a:vs.a≠W.a):Lb [#v[W],.B (.Q vs)]=Z (.B (.bl O')):=by
 apply Zp rfl ?_;change Z6 [#v[W],.B<|.Q vs]=_
 rwa[Z6,show Dc [.tup vs,.ty "tuple"]=Z (.bl J')from rfl,EM,show Zv [.tup vs]=Z (.int vs.length)from rfl,show Zv [.lst W]=Z (.int W.length)from rfl,(show Cc (.int vs.length) (.int W.length)=Z (.bl J') by simp;lia)]
def
Fk.spot:∀{L:AW}{s:U At},(∀a∈L,∃p,GL a p)->AR L s->Fk L (s.j aD) (L.j λ_=>J')
 |_,_,_,.nil=>trivial
 |a::L,_,h,.cons b c=>#[let⟨_,d⟩:=h a Bo;YK d b,Fk.spot (λx e=>h x<|Bv _ e) c]
def
Fk.first{L:AW}{s:U At}(h:∀b∈L,∃p,GL b p)(c:AR L s)(d:s≠[]){o:D}(e:Qv o):∃bs,Fk L (o::(s.Θ 1).j aD) bs/\bs.ϝ id=O':=by
 cases c with|nil=>show absurd rfl d|@cons b f a k l g=>
  let(_,i):=h b Bo;show#[O'::f.j λ_=>J',#[my i e,Fk.spot (λx j=>h x<|Bv _ j) g],by simp]
def
Fk.last:∀{L:AW}{s:U At},(∀a∈L,∃p,GL a p)->AR L s->s≠[]->∀{o:D},Qv o->∃bs,Fk L (s.h9.j aD++[o]) bs/\bs.ϝ id=O'
 |_,_,_,.nil,e,_,_=>absurd rfl e
 |[a],_,h,.cons d .nil,_,_,b=>#[[O'],#[let⟨_,c⟩:=h a Bo;my c b,trivial],rfl]
 |a::l::L,_,h,.cons d (.cons f g),_,o,b=>by
  let(bs,i,j):=Fk.last (λx k=>h x<|Bv _ k) (.Ο f g) (by simp) b;let(_,c):=h a Bo;show#[J'::bs,#[YK c d,i],by exists j]
section
variable(W:U D){a b c:D}
def
Uc(d:D)(a:Dc [d,.ty "tuple"]=Z (.bl O')):Z3 [#v[W],.B d]=Z (.B (.bl O')):=by
 apply Zp rfl ?_;change ZZ [#v[W],.B d]=_
 rwa[ZZ,a,EM]
def
mC(vs:U D)(a:vs.a≠3):Z3 [#v[W],.B (.Q vs)]=Z (.B (.bl O')):=by
 apply Zp rfl ?_;change ZZ [#v[W],.B<|.Q vs]=_
 rwa[ZZ,show Dc [.tup vs,.ty "tuple"]=Z (.bl J')from rfl,EM,show Zv [.tup vs]=Z (.int vs.length)from rfl,(show Cc (.int vs.length) (.int 3)=Z (.bl J') by simp;lia)]
def
Y5(d:Cc a (.ω "+")=Z (.bl J'))(e:Cc a (.ω "-")=Z (.bl J')):Z3 [#v[W],.B (.Q [a,b,c])]=Z (.B (.bl O')):=by
 apply Zp rfl ?_;change ZZ [#v[W],.B<|.Q [a,b,c]]=_
 rwa[ZZ,show Dc [.tup [a,b,c],.ty "tuple"]=Z (.bl J')from rfl,EM,show Zv [.tup [a,b,c]]=Z (.int 3)from rfl,show Cc (.int 3) (.int 3)=Z (.bl O')from rfl,show Ar (.tup [a,b,c]) (.int 0)=Z a from rfl,d,e]
def
Qw(s:q')(d:Lb [#v[W],.B b]=Z (.B (.bl O'))):Z3 [#v[W],.B (.Q [Co s,b,c])]=Z (.B (.bl O')):=by
 let p1:=YM s;let e:=YN s;generalize Co s=a at *;apply Zp rfl ?_;change ZZ [#v[W],.B<|.Q [a,b,c]]=_
 rwa[ZZ,show Dc [.tup [a,b,c],.ty "tuple"]=Z (.bl J')from rfl,EM,show Zv [.tup [a,b,c]]=Z (.int 3)from rfl,show Cc (.int 3) (.int 3)=Z (.bl O')from rfl,show Ar (.tup [a,b,c]) (.int 0)=Z a from rfl,show Ar (.tup [a,b,c]) (.int 1)=Z b from rfl,p1,e];ext s<;>rwa[show Ar (.tup [a,b,c]) (.int 1)=Z b from rfl,d]
def
Y6(s:q')(d:Lb [#v[W],.B b]=Z (.B (.bl J')))(e:Hf [.B c]=Z (.B (.bl O'))):Z3 [#v[W],.B (.Q [Co s,b,c])]=Z (.B (.bl O')):=by
 let p1:=YM s;let f:=YN s;generalize Co s=a at *;apply Zp rfl ?_;change ZZ [#v[W],.B<|.Q [a,b,c]]=_
 rwa[ZZ,show Dc [.tup [a,b,c],.ty "tuple"]=Z (.bl J')from rfl,EM,show Zv [.tup [a,b,c]]=Z (.int 3)from rfl,show Cc (.int 3) (.int 3)=Z (.bl O')from rfl,show Ar (.tup [a,b,c]) (.int 0)=Z a from rfl,p1,f];ext s<;>rwa[show Ar (.tup [a,b,c]) (.int 1)=Z b from rfl,show Ar (.tup [a,b,c]) (.int 2)=Z c from rfl,d,e]
end
def MJ(s:U At):U D:=[.Ε,.bl J',.ω "zz zz",.Q [.u 1],.u (7*10^40),Aj s,.X [.u 1],.X [Aj s]]
def items(b:q')(s:U At)(n:W')(o:D):U D:=[.Ε,.X [Co b,Aj s,.u n],.Q [Co b,Aj s],.Q [Co b,Aj s,.u n,.u 1],.Q [.ω "",Aj s,.u n],.Q [.u 1,Aj s,.u n],.Q [Co b,Aj (s.Θ 1),.u n],.Q [Co b,Aj (s++s.ϒ 1),.u n],.Q [Co b,.X (s.j aD),.u n],.Q [Co b,.Q (o::(s.Θ 1).j aD),.u n],.Q [Co b,.Q (s.h9.j aD++[o]),.u n],.Q [Co b,Aj s,.bl J'],.Q [Co b,Aj s,.Ε],.Q [Co b,Aj s,.ω "1"],.Q [.ω "*",Aj s,.u n],.ω "+"]
def
ZxD(s:U At):∀o∈MJ s,Qv o:=λo a=>by
 erw[MJ,BJ,G6,or_false]at a;rcases a with rfl|rfl|rfl|rfl|rfl|rfl|rfl|rfl
 .show .φ<|.U rfl
 .show .U #[trivial,rfl,by simp]
 .show .U #[by show(5:I)<=100;decide,(show EH (.ω "zz zz")=O' by symm),by simp]
 .show .U #[trivial,rfl,by simp]
 .show .φ<|.φ rfl
 .show .U #[trivial,rfl,by simp[Aj]]
 .show .U #[trivial,rfl,by simp]
 .show .U #[trivial,rfl,by simp]
def
ZxY{L:AW}(h:BX L)(b:q'){s:U At}(a:AR L s)(n:W'){o:D}(g:Qv o):∀d∈items b s n o,Z3 [#v[L.j LD],.B d]=Z (.B (.bl O')):=λd hd=>by
 let n1:=h.n1;let i:=a.϶;let j:s≠[]:=λz=>by rw[z]at i;simp at i;lia
 let c:=lr h a;erw[items,BJ,G6,or_false]at hd;rcases hd with rfl|rfl|rfl|rfl|rfl|rfl|rfl|rfl|rfl|rfl|rfl|rfl|rfl|rfl|rfl|rfl
 .show Uc _ _ rfl
 .show Uc _ _ rfl
 .show mC _ _ (by simp)
 .show mC _ _ (by simp)
 .show Y5 _ (by simp[show ¬ ("":Ae)="+" by symm]) (by simp[show ¬ ("":Ae)="-" by symm])
 .show Y5 _ rfl rfl
 .show Qw _ b<|mB _ _ (by simp;lia)
 .show Qw _ b<|mB _ _ (by simp;lia)
 .show Qw _ b<|ZBW _ _ rfl
 .let(bs,e,f):=Fk.first h.good a j g;show Qw _ b<|f ▸ mz h e
 .let(bs,e,f):=Fk.last h.good a j g;show Qw _ b<|f ▸ mz h e
 .show Y6 _ b c<|NO (.bl J') trivial
 .show Y6 _ b c<|NO .Ε trivial
 .show Y6 _ b c<|NO (.ω "1") (by show(1:I)<=100;decide)
 .show Y5 _ (by simp[show ¬ ("*":Ae)="+" by symm]) (by simp[show ¬ ("*":Ae)="-" by symm])
 .show Uc _ _ rfl
def
ZGd(l:U At):D0 (Aj l) (Z 1) J=Z (Aj (l.Θ 1)):=by
 change Z (D.Q<|cutD (l.j aD) (Z 1) J)=_
 rw[R9 _ _ (by ext),<- List.map_drop];rfl
def
ZGh(l:U At):D0 (Aj l) J (Z 1)=Z (Aj (l.ϒ 1)):=by
 change Z (D.Q<|cutD (l.j aD) J<|some 1)=_
 rw[VV _ _ (by ext),<- List.map_take];rfl
def
Zyv{a:Type}(xs:U a):cutD xs J (Z (-1))=xs.h9:=by
 let e:HT.sIx xs.a 0 J=0:=rfl;let b:HT.sIx xs.a xs.a (Z (-1))=xs.a-1:=by erw[HT.sIx];split<;>lia
 unfold Internal.cutD;simp_all [M4,M5,List.dropLast_eq_take]
def
ZGq(l:U At):D0 (Aj l) J (Z (-1))=Z (.Q (l.h9.j aD)):=by
 change Z (D.Q<|cutD (l.j aD) J<|some (-1))=_
 rw[Zyv,List.map_dropLast]
def
mD(xs:U D)(i:W')(b:0<=i)(c:i<xs.a):∃d∈xs,Ar (.X xs) (.u i)=Z d:=by
 obtain⟨k,rfl⟩:∃k:I,i=k:=#[i.ζ,∅];let a:k<xs.a:=∅
 show#[xs[k],HE a,ER<|CG a]
def
Y7{a b:U D}(h:a.a+b.a<=1000):Zx (.Q a) (.Q b)=Z (.Q (a++b)):=by
 erw[Zx,if_pos<|Bu h (by decide:1000<=AE)]
def
Qx{a b:U D}(h:a.a+b.a<=1000):Zx (.X a) (.X b)=Z (.X (a++b)):=by
 erw[Zx,if_pos<|Bu h (by decide:1000<=AE)]
def
ZDR(W:U D)(b:q')(s:U At)(n:W')(y:s.a<=4)(w:W'):∃o∈MJ s,∃d∈items b s n o,PM [#v[W],.B (AS (b,s,n)),‹w›]=Z (.B d):=by
 let(o,p,i):=mD (MJ s) (w/16%8) ∅ (by change _<(8:W');lia);let(d,hd,j):=mD (items b s n o) (w%16) ∅ (by change _<(16:W');lia);apply#[o,p,d,hd,?_];let k:=ZGd s;let q:=ZGh s;let r:=ZGq s;let a1:Zx (Aj s) (Aj<|s.ϒ 1)=Z (Aj<|s++s.ϒ 1):=by
  unfold Aj;rw[Y7 (by simp;lia),<- Gc]
 let t:Zx (.Q [o]) (Aj<|s.Θ 1)=Z (.Q<|o::(s.Θ 1).j aD):=Y7 (by simp;lia);let u:Zx (.Q<|s.h9.j aD) (.Q [o])=Z (.Q<|s.h9.j aD++[o]):=Y7 (by simp;lia);let l1:Er [Aj s]=Z (s.j aD):=rfl;let x:ED (.u 7) (.u<|10^40)=Z (.u<|7*10^40):=HS (by left;decide);unfold MJ at i;unfold items at j;show(AT 3 8 Sn) [#v[W],.B<|AS (b,s,n),‹w›]=_
 unfold AS;generalize Co b=B,Aj s=S,Aj (s.Θ 1)=f,Aj (s.ϒ 1)=z,Aj (s++s.ϒ 1)=g,s.j aD=M,(.Q (o::(s.Θ 1).j aD):D)=l,(.Q (s.h9.j aD++[o]):D)=m,(.Q (s.h9.j aD):D)=T3 at *;apply Zp rfl ?_;change Sn [#v[W],.B<|.Q [B,S,.u n],‹w›,.no,.no,.no,.no,.no]=_
 let e:∀c:U D,c.a<=16->Zf (Z c)=Z c:=λc h=>Zt c<|Bu h (by ext);rwa[Sn,hJ,gX,Py,ZP,Zk,ZQ,hH,gY,(show Jh (.int 10) (.int 40)=Z (.int<|10^40) by simp[LA]),x,(Hh w 16 (by ext) (by ext)),(De (w/16) 8 (by ext)),e [.non,.bl J',.str "zz zz",.tup [.int 1],.int<|7*10^40,S,.lst [.int 1],.lst [S]]<|Ip rfl,i,hG,gZ,e [.non,.lst [B,S,.int n],.tup [B,S],.tup [B,S,.int n,.int 1],.tup [.str "",S,.int n],.tup [.int 1,S,.int n]]<|Ip rfl,e [B,S,.int n,.int 1]<|Ip rfl,hE,g5,Dw,DF,Ks,k,q,a1,Do,l1,Qx (a:=[.non,.lst [B,S,.int n],.tup [B,S],.tup [B,S,.int n,.int 1],.tup [.str "",S,.int n],.tup [.int 1,S,.int n]]) (b:=[.tup [B,f,.int n],.tup [B,g,.int n],.tup [B,.lst M,.int n]]) (Ip rfl),F9,DP];rwa[hD,g6,Dw,DF,Ks,k,r,t,u,Qx (a:=[.non,.lst [B,S,.int n],.tup [B,S],.tup [B,S,.int n,.int 1],.tup [.str "",S,.int n],.tup [.int 1,S,.int n],.tup [B,f,.int n],.tup [B,g,.int n],.tup [B,.lst M,.int n]]) (b:=[.tup [B,l,.int n],.tup [B,m,.int n],.tup [B,S,.bl J']]) (Ip rfl),F9,DP,g9,g8,(De w 16 (by ext)),e [.tup [B,S,.non],.tup [B,S,.str "1"],.tup [.str "*",S,.int n],.str "+"]<|Ip rfl,Qx (a:=[.non,.lst [B,S,.int n],.tup [B,S],.tup [B,S,.int n,.int 1],.tup [.str "",S,.int n],.tup [.int 1,S,.int n],.tup [B,f,.int n],.tup [B,g,.int n],.tup [B,.lst M,.int n],.tup [B,l,.int n],.tup [B,m,.int n],.tup [B,S,.bl J']]) (b:=[.tup [B,S,.non],.tup [B,S,.str "1"],.tup [.str "*",S,.int n],.str "+"]) (Ip rfl),F9,DP,j]
def
ZBk(s:U At):∀o∈MJ s,AL 6 o=J':=λo a=>by
 erw[MJ,BJ,G6,or_false]at a;rcases a with rfl|rfl|rfl|rfl|rfl|rfl|rfl|rfl
 .rfl
 .rfl
 .rfl
 .rfl
 .rfl
 .show(IK 5 s)
 .rfl
 .show([Aj s].ϝ<|AL 5)=J'
  rw[G0,(IK 4 s)];rfl
def
Hl{n:I}{a b c:D}(d:AL n a=J')(e:AL n b=J')(f:AL n c=J'):AL (n+1) (.Q [a,b,c])=J':=by
 show([a,b,c].ϝ<|AL n)=J'
 erw[G0,d,e,f,List.all_nil,Hd]
def
Jn(xs:U At):∀d∈xs.j aD,AL 6 d=J':=λd hd=>by let(a,_,rfl):=Bm.mp hd;show Ld 6 a
def
Zyu(b:q')(s:U At)(n:W'){o:D}(f:AL 6 o=J'):∀d∈items b s n o,AL 8 d=J':=λd hd=>by
 let a:AL 7 (Co b)=J':=by ext b<;>rfl
 let e:=IK 6 s;let c:AL 7 (.u n)=J':=rfl;erw[items,BJ,G6,or_false]at hd;rcases hd with rfl|rfl|rfl|rfl|rfl|rfl|rfl|rfl|rfl|rfl|rfl|rfl|rfl|rfl|rfl|rfl
 .rfl
 .show([Co b,Aj s,.u n].ϝ<|AL 7)=J'
  erw[G0,a,e,c,List.all_nil,Hd]
 .show([Co b,Aj s].ϝ<|AL 7)=J'
  erw[G0,a,e,List.all_nil,Hd]
 .show([Co b,Aj s,.u n,.u 1].ϝ<|AL 7)=J'
  erw[G0,a,e,c,show AL 7 (.int 1)=J' from rfl,List.all_nil,Hd]
 .show Hl rfl e c
 .show Hl rfl e c
 .show Hl a (IK 6 _) c
 .show Hl a (IK 6 _) c
 .show Hl a (Dp.Ϛ<|Jn s) c
 .show Hl a ((λg h=>Dp.Ϛ h) _ λd hd=>(BJ.mp hd).ι (λz=>z ▸ f) (Jn _ d)) c
 .show Hl a ((λg h=>Dp.Ϛ h) _ λd hd=>(Cz.mp hd).ι (Jn _ d) λz=>CC.mp z ▸ f) c
 .show Hl a e rfl
 .show Hl a e rfl
 .show Hl a e rfl
 .show Hl rfl e c
 .rfl
def
Y8(c:Ce):AL 8 (AS c)=J':=Hl (by cases c.1<;>rfl) (IK 6 _) rfl
def Lq:VE->C8:=λa=>Ze (Eo 3 (AZ a 9) a) (λa=>Ze (ZE (AM ((Za He (λa=>A5 a 10) (λ_=>Z (.bl J'))) a)) (Ze ((GN 3 (λa=>Zw ((Zf ((Zl (C1 (AZ a 3)) (Zl (C1 (AZ a 6)) (Zl (C1 (AZ a 10)) (Z [])))).L Zj)).j D.Q))) a) (λa=>.α a)) (.α a)) (λa=>Ze (ZE (AM ((Za Cb (Za Ar (λa=>A5 a 9) (λ_=>Z (.u 0))) (λ_=>Z (.ω "-"))) a)) (Ze (Pz 4 ((Dw (λa=>A5 a 9) (λa=>DF (Z (.u 1))) (λ_=>Z J) D0) a) a) (λa=>.α a)) (Ze (Eo 4 ((Dw (λa=>A5 a 9) (λa=>DF (Z (.u 1))) (λ_=>Z J) D0) a) a) (λa=>.α a))) (λa=>.α a)))
def IT:VE->C8:=λa=>Ze (ZE (Dl (AM ((Za El (λa=>A5 a 10) (λ_=>Z (.bl J'))) a)) (Dl (AM ((Za Cb (Za Ar (λa=>A5 a 9) (λ_=>Z (.u 0))) (λ_=>Z (.ω "-"))) a)) (AM ((Za (Db J') (Dw (λa=>A5 a 9) (λa=>DF (Z (.u 1))) (λ_=>Z J) D0) (λa=>A5 a 4)) a)))) (Ze (ZB 10 ((Zh ZM (λa=>Zl (C1 (Z (.u 1))) (Z []))) a) a) (λa=>.α a)) (.α a)) (λa=>Ze (ZE (Dl (AM ((Za El (λa=>A5 a 10) (λ_=>Z (.bl J'))) a)) (Dl (AM ((Za Cb (Za Ar (λa=>A5 a 9) (λ_=>Z (.u 0))) (λ_=>Z (.ω "+"))) a)) (AM ((Za Cb (Zn Zv (λa=>Zl (CH a 4) (Z []))) (λ_=>Z (.u 200))) a)))) (Ze (ZB 10 ((Zh ZM (λa=>Zl (C1 (Z (.u 2))) (Z []))) a) a) (λa=>.α a)) (.α a)) Lq)
def MK:VE->C8:=λa=>Ze (ZE (AM ((Za Cb (Za ZL (Za Ar (λa=>A5 a 8) (λ_=>Z (.u 0))) (λ_=>Z (.u 12))) (λ_=>Z (.u 3))) a)) (Ze (ZB 9 ((Zh PM (λa=>Zl (CH a 1) (Zl (CH a 9) (Zl (C1 ((Za Ar (λa=>A5 a 8) (λ_=>Z (.u 2))) a)) (Z []))))) a) a) (λa=>Ze (ZB 10 ((Zh ZM (λa=>Zl (C1 (Z (.u 0))) (Z []))) a) a) (λa=>.α a))) (Ze (ZE (AM ((Za Cb (Za ZL (Za Ar (λa=>A5 a 8) (λ_=>Z (.u 0))) (λ_=>Z (.u 12))) (λ_=>Z (.u 7))) a)) (Ze (ZB 9 ((Za Zx (λa=>(Zf ((Zl (C1 (Z (.ω "-"))) (Z [])).L Zj)).j D.Q) (Zh K4 (λa=>Zl (CH a 1) (Zl (C1 ((Za Fp (λa=>A5 a 7) (λ_=>Z (.u 5))) a)) (Z []))))) a) a) (λa=>.α a)) (.α a)) (λa=>.α a))) IT
def NZ:VE->C8:=λa=>Ze (ZE (Dl (AM ((Za Cb (Za ZL (Za Ar (λa=>A5 a 8) (λ_=>Z (.u 0))) (λ_=>Z (.u 4))) (λ_=>Z (.u 1))) a)) (AM ((Za Cc (λa=>A5 a 4) (λa=>Zz (Zf ((Z []).L Zj)))) a))) (Ze (ZB 9 ((Za Zx (λa=>(Zf ((Zl (C1 (Z (.ω "-"))) (Z [])).L Zj)).j D.Q) (Za Ar (λa=>A5 a 4) (Za ZL (Za Ar (λa=>A5 a 8) (λ_=>Z (.u 1))) (Zn Zv (λa=>Zl (CH a 4) (Z [])))))) a) a) (λa=>.α a)) (.α a)) MK
def
L0q:Mp=λρ=>Ze (ZB 7 ((Za Zx (Zh ZF (λρ=>Zl (CH ρ 0) (Zl (C1 ((Za Zx (λ_=>Z (.u 8)) (λρ=>A5 ρ 6)) ρ)) (Z [])))) (Za ED (λ_=>Z (.u 31)) (λρ=>A5 ρ 6))) ρ) ρ) (λρ=>Ze (ZB 8 ((Zh Z7 (λρ=>Zl (CH ρ 7) (Zl (C1 (Z (.u 4))) (Z [])))) ρ) ρ) (λρ=>Ze (ZB 9 ((Za Zx (λρ=>(Zf ((Zl (C1 (Z (.ω "+"))) (Z [])).L Zj)).j D.Q) (Zh K4 (λρ=>Zl (CH ρ 1) (Zl (C1 ((Za Fp (λρ=>A5 ρ 7) (λ_=>Z (.u 2))) ρ)) (Z []))))) ρ) ρ) (λρ=>Ze (ZB 10 (Z (.bl J')) ρ) NZ))):=rfl
def
Ud(k:I)(d:k<3):ZM [‹k›]=Z (.B (Cg k)):=by
 let a:EC [.u 8]=_:=IG 8 (by ext);let b:=Zt ((Bl 8).j λj:I=>D.u j) (by ext);let c:ZG (Zd 0) (λ_=>Z J') hQ [.no,‹k›] ((Bl 8).j λj:I=>D.u j)=Z ((Bl 8).j λj=>.bl<|decide<|j=k):=by
  rcases(by lia:k=0\/k=1\/k=2)with rfl|rfl|rfl<;>rfl
 apply Zp rfl ?_;change Wn [‹k›]=_
 unfold Cg;generalize (Bl 8).j (λj=>D.bl<|decide<|j=k)=Y,(Bl 8).map (λj:I=>D.u j)=X at *;rwa[Wn,Zi,show Zm 1 [0] [‹k›]=[.no,‹k›]from rfl,a,b,c,Zw]
def
mE(c:Ce):D0 (AS c) (Z 1) J=Z (Zc c.2):=by
 change Z (D.Q<|cutD [Co c.1,Aj c.2.1,.u c.2.2] (Z 1) J)=_
 rw[R9 _ _ (by ext)];rfl
variable {x0 x1 x2 s7 s8:Sl}{cs:U D}{left:U Row}{k:W'}(hl:left.a<=300)(hcs:cs.a<=100)
include hcs in
omit hl in
def
Y9(d:D)(j:I):Lq [x0,x1,x2,.τ cs,.τ (left.j Zc),.B (.bl J'),‹k›,s7,s8,.B d,.B (Cg j)]=.Ϯ (.B (.Q [.X (cs++[d]),.u k,Cg j])):=by
 let a:He (Cg j) (.bl J')=Z (.bl J'):=rfl;generalize Cg j=Q,left.j Zc=R at *;rwa[Lq,Eo,if_pos (show cs.length<AE from Ee hcs (by ext)),a,GN,Kp,Zw]
include hl hcs
def
mF(c:Ce)(f:c.1=O'->c.2∈left):Lq [x0,x1,x2,.τ cs,.τ (left.j Zc),.B (.bl J'),‹k›,s7,s8,.B (AS c),.B (.bl J')]=.α [x0,x1,x2,.τ (cs++[AS c]),.τ ((B6 left c).j Zc),.B (.bl J'),‹k›,s7,s8,.B (AS c),.B (.bl J')]:=by
 let d:cs.a<AE:=Ee hcs (by ext);let a:(left.j Zc).a<AE:=by rw[Bg];show Ee hl (by ext)
 let x0:Ar (AS c) (.u 0)=Z (Co c.1):=rfl;let e:=mE c;let em:Cb (Co c.1) (.ω "-")=Z (.bl !c.1):=by cases c.1<;>simp[Co,YL]
 unfold B6;cases b:c.1 with
 |true=>
  rw[b]at em x0;rw[cond_true,Gc,Bf,Dn];generalize left.j Zc=R,Zc c.2=m,AS c=C at *;rwa[Lq,Eo,if_pos d,ge,x0,em,Dw,DF,e,if_pos a]
 |false=>
  rw[b]at em x0;let(j,g,h):=YW c.2 left<|f b;let i:=MH 10 c.2;let l:=Qu left;rw[cond_false,<- h];generalize left.j Zc=R,Zc c.2=m,AS c=C at *;rwa[Lq,Eo,if_pos d,ge,x0,em,Dw,DF,e,Pz,F0,i,l,g]
def
ZFK(c:Ce):IT [x0,x1,x2,.τ cs,.τ (left.j Zc),.B (.bl J'),‹k›,s7,s8,.B (AS c),.B (.bl J')] = Lq [x0,x1,x2,.τ cs,.τ (left.j Zc),.B (.bl J'),‹k›,s7,s8,.B (AS c),.B (bif c.1 then(if left.a=200 then Cg 2 else .bl J')else(if c.2∈left then .bl J' else Cg 1))]:=by
 let x0:Ar (AS c) (.u 0)=Z (Co c.1):=rfl;let g:=mE c;let em:Cb (Co c.1) (.ω "-")=Z (.bl !c.1):=by cases c.1<;>simp[Co,YL]
 let d:=Qp c.1;let e:Db J' (Zc c.2) (.X<|left.j Zc)=Z (.bl<|!decide (c.2∈left)):=by
  erw[Db,F0,MH 10 c.2,Qu left,YV,Hd,if_true,Bool.true_bne]
 let f:Cb (.u ((left.j Zc).a:W')) (.u 200)=Z (.bl<|decide<|left.a=200):=by
  rw[Bg,JP,show decide ((left.a:W')=200)=decide (left.a=200)from decide_eq_decide.Ϛ ∅]
 let b:Zv [.X<|left.j Zc]=Z (.u ((left.j Zc).a:W')):=rfl;let i:ZM [.B<|.u 1]=Z (.B<|Cg 1):=Ud 1 (by ext);let j:ZM [.B<|.u 2]=Z (.B<|Cg 2):=Ud 2 (by ext);let b1:El (Cg 1) (.bl J')=Z (.bl O'):=rfl;cases h:c.1 with
 |true=>
  rw[h]at em d x0;rw[cond_true];by_cases a:left.a=200
  .rw[decide_eq_true a]at f;rw[if_pos a];generalize left.j Zc=R,Zc c.2=l,AS c=C,Cg 2=Q2 at *;rwa[IT,Sb,x0,em,d,b,f,j]
  .rw[decide_eq_false a]at f;rw[if_neg a];generalize left.j Zc=R,Zc c.2=l,AS c=C at *;rwa[IT,Sb,x0,em,d,b,f]
 |false=>
  rw[h]at em d x0;rw[cond_false];by_cases a:c.2∈left
  .rw[decide_eq_true a]at e;rw[if_pos a];generalize left.j Zc=R,Zc c.2=l,AS c=C at *;rwa[IT,Sb,x0,em,d,Dw,DF,g,e]
  .rw[decide_eq_false a]at e;rw[if_neg a];generalize left.j Zc=R,Zc c.2=l,AS c=C,Cg 1=Q1 at *;rwa[IT,Sb,x0,em,d,Dw,DF,g,e,i,b1]
end
variable {L:AW}(h:BX L){x0 x2 y7 y8 y9 y10:Sl}{cs:U D}{left:U Row}{k q:W'}{ws:U W'}(hl:left.a<=200)(hcs:cs.a<=100)(hsp:∀r∈left,AR L r.1)(hw:ws.a=4)
def
ZD3{a b c:Sl}(d:D):IT [x0,c,x2,.τ cs,.τ (left.j Zc),.B (.bl J'),‹k›,a,b,.B d,.B (Cg 0)]=Lq [x0,c,x2,.τ cs,.τ (left.j Zc),.B (.bl J'),‹k›,a,b,.B d,.B (Cg 0)]:=by
 let b1:El (Cg 0) (.bl J')=Z (.bl O'):=rfl;generalize Cg 0=Q at *;rwa[IT,b1]
include h hw hsp in
def
ZF5{c:Ce}(m:AR L c.2.1):∃c':Ce,AR L c'.2.1/\NZ [x0,#v[L.j LD],x2,.τ cs,.τ (left.j Zc),.B (.bl J'),‹k›,‹q›,#v[ws.j D.u],.B (AS c),.B (.bl J')]=MK [x0,#v[L.j LD],x2,.τ cs,.τ (left.j Zc),.B (.bl J'),‹k›,‹q›,#v[ws.j D.u],.B (AS c'),.B (.bl J')]:=by
 let h:Ar (.X<|ws.j D.u) (.u 0)=Z (.u<|ws.β (0:W').ζ 0):=IL (by ext) ∅;let a1:Ar (.X<|ws.j D.u) (.u 1)=Z (.u<|ws.β (1:W').ζ 0):=IL (by ext) ∅;generalize ws.β (0:W').ζ 0=a,ws.β (1:W').ζ 0=b at *;let j:=De a 4 (by ext);let e:=JP (a%4) 1;let no:Cc (.X<|left.j Zc) (.X [])=Z (.bl<|!decide (left=[])):=by
  rw[T9 (QD.rows left |>.1 |> λ_=>by show Dp.Ϛ λd hd=>by let(r,_,rfl):=Bm.mp hd;show MH 9 r) rfl];ext left<;>rfl
 by_cases n:a%4=1
 .rw[decide_eq_true n]at e;by_cases l:left=[]
  .rw[decide_eq_true l]at no;apply#[c,m,?_];generalize left.j Zc=R,L.j LD=W,ws.j D.u=o at *;rwa[NZ,h,j,e,show Zf (Z ([]:U D))=Z []from rfl,no]
  .rw[decide_eq_false l]at no;let u:0<left.a:=List.length_pos_iff.Ϛ l;let p:=De b (left.a:W') ∅;obtain⟨i,s,f⟩:∃i:I,b%(left.a:W')=(i:W')/\i<left.a:=#[(b%(left.a:W')).ζ,by rw[TB<|IM _ ∅],by have:=JR b (show(0:W')<left.a by lia);have:=IM b (show(left.a:W')≠0 by lia);lia];rw[s]at p;let t:Ar (.X<|left.j Zc) (.u i)=Z (Zc left[i]):=ER (by rw[D9,CG f];rfl);let g:Zv [.X<|left.j Zc]=Z (.u left.a):=by change Z (D.u ((left.j Zc).a:W'))=_;rw[Bg]
   apply#[(O',left[i]),hsp _<|HE f,?_];let ad:Zx (.Q [.ω "-"]) (Zc left[i])=Z (AS (O',left[i])):=rfl;generalize left.j Zc=R,L.j LD=W,ws.j D.u=o,Zc left[i]=w,AS (O',left[i])=C at *;rwa[NZ,h,a1,j,e,show Zf (Z ([]:U D))=Z []from rfl,no,g,p,t,ad]
 .rw[decide_eq_false n]at e;apply#[c,m,?_];generalize left.j Zc=R,L.j LD=W,ws.j D.u=o at *;rwa[NZ,h,j,e]
include h hw in
def
ZGn{c:Ce}(j:AR L c.2.1):(∃c':Ce,AR L c'.2.1/\MK [x0,#v[L.j LD],x2,.τ cs,.τ (left.j Zc),.B (.bl J'),‹k›,‹q›,#v[ws.j D.u],.B (AS c),.B (.bl J')]=IT [x0,#v[L.j LD],x2,.τ cs,.τ (left.j Zc),.B (.bl J'),‹k›,‹q›,#v[ws.j D.u],.B (AS c'),.B (.bl J')])\/∃d,(Z3 [#v[L.j LD],.B d]=Z (.B (.bl O'))/\AL 8 d=J')/\MK [x0,#v[L.j LD],x2,.τ cs,.τ (left.j Zc),.B (.bl J'),‹k›,‹q›,#v[ws.j D.u],.B (AS c),.B (.bl J')]=IT [x0,#v[L.j LD],x2,.τ cs,.τ (left.j Zc),.B (.bl J'),‹k›,‹q›,#v[ws.j D.u],.B d,.B (Cg 0)]:=by
 let l:Ar (.X<|ws.j D.u) (.u 0)=Z (.u<|ws.β (0:W').ζ 0):=IL (by ext) ∅;let t:Ar (.X<|ws.j D.u) (.u 2)=Z (.u<|ws.β (2:W').ζ 0):=IL (by ext) ∅;generalize ws.β (0:W').ζ 0=a,ws.β (2:W').ζ 0=b at *;let f:=De a 12 (by ext);let g:=JP (a%12) 3;let i:=JP (a%12) 7;by_cases m:a%12=3
 .rw[decide_eq_true m]at g;let(o,n,d,hd,e):=ZDR (L.j LD) c.1 c.2.1 c.2.2 (by have:=j.϶;have:=h.n4;lia) b;apply .φ #[d,#[ZxY h c.1 j c.2.2 (ZxD _ o n) d hd,Zyu _ _ _ (ZBk _ o n) d hd],?_];let e:PM [#v[L.j LD],.B<|AS c,‹b›]=Z (.B d):=e;let u:ZM [.B<|.u 0]=Z (.B<|Cg 0):=Ud 0 (by ext);generalize left.j Zc=R,L.j LD=W,ws.j D.u=p,AS c=C,Cg 0=Q at *;rwa[MK,l,t,f,g,e,u]
 .rw[decide_eq_false m]at g;by_cases s:a%12=7
  .rw[decide_eq_true s]at i;let(r,w,x):=TW h<|q/5;apply .U ⟨(O',r),w,?_⟩;let ad:Zx (.Q [.ω "-"]) (Zc r)=Z (AS (O',r)):=rfl;generalize left.j Zc=R,L.j LD=W,ws.j D.u=p,AS c=C,AS (O',r)=y,Zc r=z at *;rwa[MK,l,f,g,i,(Hh q 5 (by ext) (by ext)),x,ad]
  .rw[decide_eq_false s]at i;apply .U #[c,j,?_];generalize left.j Zc=R,L.j LD=W,ws.j D.u=p,AS c=C at *;rwa[MK,l,f,g,i]
include h hl hcs hsp
omit hw in
def
Zwa(ns:U W')(B:0<=k):(∃c:Ce,(AR L c.2.1/\(c.1=O'->c.2∈left)/\(c.1=J'->left.a<200))/\∃m o p f,Mp [#v[ns.j D.u],#v[L.j LD],x2,.τ cs,.τ (left.j Zc),.B (.bl J'),‹k›,y7,y8,y9,y10]=.α [#v[ns.j D.u],#v[L.j LD],x2,.τ (cs++[AS c]),.τ ((B6 left c).j Zc),.B (.bl J'),‹k›,m,o,p,f]) \/∃d j cn,(IR L left d j cn/\AL 8 d=J')/\Mp [#v[ns.j D.u],#v[L.j LD],x2,.τ cs,.τ (left.j Zc),.B (.bl J'),‹k›,y7,y8,y9,y10]=.Ϯ (.B (.Q [.X (cs++[d]),.u k,Cg j])):=by
 let s:=JM #v[ns.j D.u] ns (.U rfl) (8+k) ∅;generalize E:ns.β (8+k).ζ 0=n at *;let t:ED (.u 31) (.u k)=Z (.u<|31*k):=HS (by left;decide);let(ws,g,hw,_):=Ts (n+31*k) 4 (by ext);let g:Z7 [.B<|.u<|n+31*k,.B<|.u 4]=_:=g;let(r,u,w):=TW h<|(n+31*k)/2;let x:=Hh (n+31*k) 2 (by ext) (by ext);let(G,y,l):=ZF5 (x0:=#v[ns.j D.u]) (x2:=x2) (cs:=cs) (k:=k) (q:=n+31*k) h hsp hw (c:=(J',r)) u;let A:Mp [#v[ns.j D.u],#v[L.j LD],x2,.τ cs,.τ<|left.j Zc,.B<|.bl J',‹k›,y7,y8,y9,y10]=NZ [#v[ns.j D.u],#v[L.j LD],x2,.τ cs,.τ<|left.j Zc,.B<|.bl J',‹k›,.B<|.u<|n+31*k,#v[ws.j D.u],.B<|AS (J',r),.B<|.bl J']:=by
  let ad:Zx (.Q [.ω "+"]) (Zc r)=Z (AS (J',r)):=rfl;clear l;generalize left.j Zc=R,L.j LD=W,ws.j D.u=H,AS (J',r)=C,Zc r=F,ns.j D.u=K at *;rwa[L0q,s,t,g,x,w,ad]
 rw[A,l];rcases ZGn (x0:=#v[ns.j D.u]) (x2:=x2) (cs:=cs) (left:=left) (k:=k) (q:=n+31*k) h hw y with⟨c,e,i⟩|⟨d,⟨hd,ok⟩,i⟩
 .rw[i,ZFK ∅ hcs c];cases b:c.1 with
  |true=>
   rw[cond_true];by_cases a:left.a=200
   .rw[if_pos a];show .φ #[AS c,2,_,#[.φ<|.φ ⟨rfl,rfl,c.2,by rw[<- b],e,∅⟩,Y8 c],Y9 hcs (AS c) 2]
   .rw[if_neg a];show .U #[c,#[e,(λz=>by rw[b]at z;ext z),λ_=>∅],_,_,_,_,mF ∅ hcs c (λz=>by rw[b]at z;ext z)]
  |false=>
   rw[cond_false];by_cases a:c.2∈left
   .rw[if_pos a];show .U #[c,#[e,λ_=>a,(λz=>by rw[b]at z;ext z)],_,_,_,_,mF ∅ hcs c λ_=>a]
   .rw[if_neg a];show .φ #[AS c,1,_,#[.φ<|.U ⟨rfl,rfl,c.2,by rw[<- b],e,a⟩,Y8 c],Y9 hcs (AS c) 1]
 .rw[i,ZD3 d];show .φ #[d,0,_,#[.U #[rfl,rfl,hd],ok],Y9 hcs d 0]
end
def
ZAJ{rs:U Row}{c:Ce}(h:rs.a<=200)(a:c.1=J'->rs.a<200):(B6 rs c).a<=200:=by
 unfold B6;cases e:c.1 with
 |true=>have:=a e;simp;lia
 |false=>show Bu (List.length_erase_le ..) h
def
mG{L:AW}(h:BX L)(ns:U W')(x2:Sl):∀(n k:I)(cs:U Ce)(left:U Row)(p i l m b:Sl),k+n<=50->cs.a=k->left.a<=200->(∀r∈left,AR L r.1)->(∃a:U Ce,FG L left a/\a.a=n/\∃E q s t f,ZC (Zd 6) Mp ((EJ k n).j λk:I=>D.u k) [#v[ns.j D.u],#v[L.j LD],x2,.τ (cs.j AS),.τ (left.j Zc),.B (.bl J'),p,i,l,m,b]=.α [#v[ns.j D.u],#v[L.j LD],x2,.τ ((cs++a).j AS),.τ ((a.Ϗ B6 left).j Zc),.B (.bl J'),E,q,s,t,f]) \/∃(a:U Ce) (d:D) (j:I) (cn:Ae),FG L left a/\a.a<=n/\(IR L (a.Ϗ B6 left) d j cn/\AL 8 d=J')/\ZC (Zd 6) Mp ((EJ k n).j λk:I=>D.u k) [#v[ns.j D.u],#v[L.j LD],x2,.τ (cs.j AS),.τ (left.j Zc),.B (.bl J'),p,i,l,m,b]=.Ϯ (.B (.Q [.X ((cs++a).j AS++[d]),.u ((cs++a).a:W'),Cg j]))
 |0,k,cs,left,p,i,l,m,b,_,_,_,_=>.U #[[],trivial,rfl,_,_,_,_,_,by rw[C6];rfl]
 |n+1,k,cs,left,p,i,l,m,b,G,y,A,B=>by
  rcases Zwa (x2:=x2) (y7:=i) (y8:=l) (y9:=m) (y10:=b) (cs:=cs.j AS) (k:=(k:W')) h A (by rw[Bg];lia) B ns ∅with⟨c,g,q,s,t,f,e⟩|⟨d,j,cn,u,e⟩
  .rw[show cs.j AS++[AS c]=(cs++[c]).j AS by simp]at e;rcases mG h ns x2 n (k+1) (cs++[c]) (B6 left c) (.B<|.int k) q s t f ∅ (by simp[y]) (ZAJ A g.2.2) (λr H=>(lL H).ι (B r) λz=>z ▸ g.1)with⟨a,o,C,K,F,M,N,w,x⟩|⟨a,d,j,cn,o,C,u,x⟩
   .apply .U #[c::a,#[g,o],by simp[C],K,F,M,N,w,?_];rw[show cs++c::a=cs++[c]++a by simp,Md,<- x];rwa[JQ,ZC,e]
   .apply .φ #[c::a,d,j,cn,#[g,o],by simp;lia,u,?_];rw[show cs++c::a=cs++[c]++a by simp,<- x];rwa[JQ,ZC,e]
  .apply .φ #[[],d,j,cn,trivial,Fi _,u,?_];rw[C6,y];rwa[JQ,ZC,e]
def
ZAE{L:AW}(h:BX L)(ns:U W'){a:U Row}(s:a.a<=200)(t:∀r∈a,AR L r.1):∃(cs:U Ce)(tl:U D)(b:D),FG L a cs/\cs.a<=9/\((tl=[]/\b=.bl J')\/∃d j cn,tl=[d]/\b=Cg j/\IR L (cs.Ϗ B6 a) d j cn/\AL 8 d=J')/\WX [#v[ns.j D.u],#v[L.j LD],#v[a.j Zc]]=Z (.B (.Q [.X (cs.j AS++tl),.u cs.a,b])):=by
 let l:=JM #v[ns.j D.u] ns (.U rfl) 7 (by ext);generalize ns.β (7:W').ζ 0=f at *;let m:=De f 9 (by ext);obtain⟨n,p,u⟩:∃n:I,1+f%9=(n:W')/\n<=9:=#[(1+f%9).ζ,∅,∅];let g:=IG n ∅;rw[Mw]at g;let q:Er [.X<|a.j Zc]=Z (a.j Zc):=rfl;rcases mG h ns #v[a.j Zc] n 0 [] a .no .no .no .no .no ∅ rfl s t with⟨cs,o,w,A,B,E,G,x,e⟩|⟨cs,d,j,cn,o,w,⟨y,hd⟩,e⟩
 .apply#[cs,[],.bl J',o,∅,.U #[rfl,rfl],?_];rw[DP,Dn]at e;rw[C6];let c:Zv [.X<|cs.j AS]=Z (.u cs.a):=by change Z (D.u ((cs.j AS).a:W'))=_;rw[Bg]
  generalize (cs.Ϗ B6 a).j Zc=H,a.j Zc=R,L.j LD=W,ns.j D.u=i,cs.j AS=C,(EJ 0 n).j (λk:I=>D.u k)=z at *;apply Zp rfl ?_;change NL [#v[i],#v[W],#v[R],.no,.no,.no,.no,.no,.no,.no,.no]=_
  rwa[NL,BQ,WS,show Zf (Z ([]:U D))=Z []from rfl,ZX,SM,WT,Do,q,SJ,WU,SH,WV,l,m,p,g,C2,e,WW,iE,GN,Kp,c,Zw]
 .apply#[cs,[d],Cg j,o,∅,.φ #[d,j,cn,rfl,rfl,y,hd],?_];rw[DP,Dn]at e;generalize a.j Zc=R,L.j LD=W,ns.j D.u=i,cs.j AS++[d]=C,Cg j=Q,(EJ 0 n).j (λk:I=>D.u k)=z at *;apply Zp rfl ?_;change NL [#v[i],#v[W],#v[R],.no,.no,.no,.no,.no,.no,.no,.no]=_
  rwa[NL,BQ,WS,show Zf (Z ([]:U D))=Z []from rfl,ZX,SM,WT,Do,q,SJ,WU,SH,WV,l,m,p,g,C2,e]
def
ZAt{d:D}(h:AL 12 d=J'):Cb d d=Z (.bl J'):=by
 have:=OL 12 _ h;erw[Cb,F0,h,this,Hd,if_true]
def
Qy:∀(n:I)(d:D),AL n d=J'->AL (n+1) d=J'
 |_,.non,_=>rfl
 |_,.bl _,_=>rfl
 |_,.int _,_=>rfl
 |_,.str _,_=>rfl
 |0,.ty _,h=>by simp[AL]at h
 |_+1,.ty _,h=>by simp[AL]at h
 |0,.tup _,h=>by simp[AL]at h
 |0,.lst _ _,h=>by simp[AL]at h
 |n+1,.tup a,h=>Dp.Ϛ λd hd=>Qy n d<|Dp.mp h d hd
 |n+1,.lst a .l,h=>Dp.Ϛ λd hd=>Qy n d<|Dp.mp h d hd
 |n+1,.lst a .d,h=>by simp[AL]at h
 |n+1,.lst a (.i _ _),h=>by simp[AL]at h
def
N0(h:∀d∈xs,AL 8 d=J'):AL 12 (.X xs)=J':=Dp.Ϛ λd hd=>Qy 10 d<|Qy 9 d<|Qy 8 d<|h d hd
def
M6:∀{a b:U D},CY a b=J'->a.a=b.a
 |[],[],_=>rfl
 |[],_::_,h=>by simp[CY]at h
 |_::_,[],h=>by simp[CY]at h
 |x::a,y::b,h=>by
  erw[CY,C9]at h;simp[M6 h.2]
def
ZAy(X:U D)(h:∀d∈X,AL 8 d=J'):Cc (.X (X++[.Ε])) (.X X)=Z (.bl J'):=by
 rw[T9 (N0 λd hd=>(Cz.mp hd).ι (h d) λz=>CC.mp z ▸ rfl) (N0 h)];cases e:Bc (.X<|X++[.Ε]) (.X X)with
 |false=>rfl
 |true=>
  have:=M6 (show CY (X++[.Ε]) X=J' by simpa[Bc]using e);simp at this
variable {L:AW}{rs:U Row}{T:U D}{G:Gh}{t:I}{S:D}{X M:U D}{NS W GR RW x5:IV}{k:W'}
def
ZGv(e:G[0]?=Z (CP L (rs.j Zc) t))(b:IJ [.Ϝ 0,#v[M]] G=Z (.B (.bl J'),G'))(c:AL 12 (.X M)=J'):
  Qf ([NS,W,GR,.Ϝ 0,RW,x5,.B S,#v[X],‹k›,.B (.bl J'),#v[M],.no,.no],G)=.Ϯ (.B (.bl J')) G':=by
 rwa[Qf,Ya,Do,(show Er [.lst M]=Z M from rfl),jG,jL,(show ∀a,Dr 0 a=J' from λa=>FZ λd _=>Pr d),xF,Yg,Yb,b,Yf,Yc,(T7 c),(show El (.bl J') (.bl J')=Z (.bl J')from rfl),(show He (.bl J') (.bl J')=Z (.bl O')from rfl),Ye,Yd,show BN 2 (.bl J')=J' from rfl]
def
mH(b:G[0]?=Z (CP L (rs.j Zc) t))(c:G[t]?=Z (.ϯ .d T)){Z0 Z1:D}(e:Qe [.B (BD L (rs.j Zc) T),#v[[Z0,Z1]]]=Z (.B S))(f:AL 12 S=J'){q:I}(p:q<3)(g:IJ [.Ϝ 0,#v[M]] G=Z (.B (Cg q),G))(h:AL 12 (.X M)=J'){C tl:U D}(i:X=C++tl)(j:k=(C.a:W'))(l:IJ [.Ϝ 0,#v[C]] G=Z (.B (.bl J'),G')):
  Qf ([NS,W,#v[[Z0,Z1]],.Ϝ 0,RW,x5,.B S,#v[X],‹k›,.B (Cg q),#v[M],.no,.no],G)=.Ϯ (.B (.bl J')) G':=by
 let m:=JZ 1 (by ext) b c
 let n2:Cc (Cg q) (Cg q)=Z (.bl O'):=T7 (by rcases(by lia:q=0\/q=1\/q=2)with rfl|rfl|rfl<;>rfl)
 let b1:El (Cg q) (.bl J')=Z (.bl O'):=rfl
 let n:He (Cg q) (.bl J')=Z (.bl J'):=rfl
 let o:D0 (.X X) J (Z k)=Z (.X C):=by
  change Z (D.X (cutD X J (Z k)))=_
  rw[VV _ _ ∅,i,j,KP,List.take_left]
 generalize BD L (rs.j Zc) T=B,Cg q=Q at *
 rwa[Qf,Ya,Do,(show Er [.lst M]=Z M from rfl),jG,jL,(show ∀a,Dr 0 a=J' from λa=>FZ λd _=>Pr d),xF,Yg,Yb,g,Yf,Yc,(T7 h),n2,b1,n,Ye,Yd,jR,jQ,m,e,(ZAt f),show BN 1 (.bl J')=J' from rfl,Dw,DF,o,Px,KZ,l,show BN 2 (.bl J')=J' from rfl,(show El (.bl J') (.bl J')=Z (.bl J')from rfl)]
end
def
ZEx(cs:U Ce):∀d∈cs.j AS,AL 8 d=J':=λd hd=>by let(c,_,rfl):=Bm.mp hd;show Y8 c
def
ZGP{L:AW}{c rs:U Row}{G:Gh}(ns:U W')(s:BS L rs gs 0 G)(pm:c.Perm rs)(hl:c.a<=200)(hz:zg L∈gs){g:U I}(hg:E1 L g)(hm:g∈gs)(x5:IV):∃G',Qg ([#v[ns.j D.u],#v[L.j LD],#v[[Ax (zg L),Ax g]],.Ϝ 0,#v[c.j Zc],x5,.no,.no,.no,.no,.no,.no,.no],G)=.Ϯ (.B (.bl J')) G':=by
 let(t,i,p,hbt):=s.bk;let hr:rs.a<=200:=pm.ϋ ▸ hl;let(S,u,w):=ZyF s.gl s.sp ∅ s.gn (by have:=s.g12;lia) hz hg hm;let(f,tl,due,o,hc,hd,y):=ZAE s.gl ns hl λr hr=>s.sp r<|pm.mem_iff.mp hr;let K:=o.perm pm;let(j,G',ep,rn):=lQ s ∅ K;let T:IJ [.cel 0,#v[f.map AS]] G=Z (.val<|.bl J',G'):=ZEI i (by rw[mw i p];show Zt7 s.gl K G) ep rn.tl;let A:∀(d:D) (q:I) (cn:Ae) (P:U D),IR L (f.foldl B6 rs) d q cn->IJ [.cel 0,#v[f.map AS++d::P]] G=Z (.val<|Cg q,G):=λd q cn P E=>ZFR i (by
  rcases E with⟨a,b,_⟩|⟨a,b,_⟩|⟨a,b,_⟩
  .show .U #[a,b]
  .show .φ<|.U ⟨a,b⟩
  .show .φ<|.φ ⟨a,b⟩) (by rw[mw i p];show Zrm s.gl K E P G)
 let Y:=JM #v[ns.j D.u] ns (.U rfl) 7 (by ext);generalize ns.β (7:W').ζ 0=H at *;let d9:=Hh H 9 (by ext) (by ext);let m2:=De (H/9) 2 (by ext);let v1:=JZ 1 (by ext) i p;let Gm:=ZEx f;let h:∀tl:U D,tl.a<=1->∀m:U D,m.a<=1->Zx (.X<|f.map AS++tl) (.lst m)=Z (.lst<|f.map AS++tl++m):=λtl p m hm=>Qx (by simp;lia);let ml:∃m:U D,(m=[]\/m=[.Ε])/\PB (.X [.Ε]) (.u<|H/9%2)=Z (.X m):=by
  rcases(by lia:H/9%2=0\/H/9%2=1)with e|e<;>rw[e]
  .show#[[],.U rfl,rfl]
  .show#[[.Ε],.φ rfl,rfl]
 let(m,l,em):=ml;let r0:ZM [.B<|.int 0]=Z (.val<|Cg 0):=Ud 0 (by ext);let b1:El (.bl J') (.bl J')=Z (.bl J'):=rfl;let bq:∀q,El (Cg q) (.bl J')=Z (.bl O'):=λ_=>rfl;rcases hd with⟨rfl,rfl⟩|⟨d,q,cn,rfl,rfl,E,hd8⟩
 .rcases l with rfl|rfl
  .apply#[G',?_];let n:=h [] (by simp) [] (by simp);rw[C6,C6]at n;rw[C6]at y;let nm:=T7<|N0 Gm;let R:=ZGv (NS:=#v[ns.j D.u]) (W:=#v[L.j LD]) (GR:=#v[[Ax<|zg L,Ax g]]) (RW:=#v[c.j Zc]) (x5:=x5) (S:=S) (X:=f.j AS) (k:=f.a) i T (N0 Gm);generalize BD L (rs.j Zc) (Zb<|AI L rs gs)=B,ns.j D.u=F,L.j LD=W,Ax (zg L)=Z0,Ax g=Z1,c.j Zc=N,f.j AS=C at *;rwa[Qg,Th,v1,u,w.2,Tp,Ti,y,NF,To,Tj,Y,d9,m2,em,n,Tn,Tk,b1,nm,R]
  .apply#[G',?_];let n:=h [] (by simp) [.Ε] (by simp);rw[C6]at n y;let nm:=ZAy (f.j AS) Gm;let hM:AL 12 (.X<|f.map AS++[.non])=J':=N0 λd hd=>(Cz.mp hd).ι (Gm d) λz=>CC.mp z ▸ rfl;let R:=mH (NS:=#v[ns.j D.u]) (W:=#v[L.j LD]) (RW:=#v[c.j Zc]) (x5:=x5) (X:=f.j AS) (k:=f.a) i p u w.1 (by ext) (A .Ε 0 "NoRow" []<|.U ⟨rfl,rfl,Uc _ _ rfl⟩) hM (C6 _).Γ (by rw[Bg]) T;generalize BD L (rs.j Zc) (Zb<|AI L rs gs)=B,ns.j D.u=F,L.j LD=W,Ax (zg L)=Z0,Ax g=Z1,c.j Zc=N,f.j AS=C,Cg 0=Q at *;rwa[Qg,Th,v1,u,w.2,Tp,Ti,y,NF,To,Tj,Y,d9,m2,em,n,Tn,Tk,b1,nm,r0,R]
 .apply#[G',?_];let n:=h [d] (by simp) m (by rcases l with rfl|rfl<;>simp);let hM:AL 12 (.lst<|f.map AS++[d]++m)=J':=N0 λx hx=>(Cz.mp hx).ι (λz=>(Cz.mp z).ι (Gm x) λz=>CC.mp z ▸ hd8) λz=>by
   rcases l with rfl|rfl
   .cases z
   .show CC.mp z ▸ rfl
  let R:=mH (NS:=#v[ns.j D.u]) (W:=#v[L.j LD]) (RW:=#v[c.j Zc]) (x5:=x5) (X:=f.j AS++[d]) (k:=f.a) i p u w.1 (show q<3 by rcases E with⟨a,_⟩|⟨a,_⟩|⟨a,_⟩<;>lia) (by rw[DV];show A d q cn m<|E.perm<|lO f pm) hM rfl (by rw[Bg]) T;let bq:=bq q;generalize BD L (rs.j Zc) (Zb<|AI L rs gs)=B,ns.j D.u=F,L.j LD=W,Ax (zg L)=Z0,Ax g=Z1,c.j Zc=N,f.j AS++[d]++m=M,f.j AS++[d]=X,Cg q=Q at *;rwa[Qg,Th,v1,u,w.2,Tp,Ti,y,NF,To,Tj,Y,d9,m2,em,n,Tn,Tk,bq,R]
def
mI{L:AW}(h:BX L)(ns:U W')(c:W')(b:ZF [#v[ns.j D.u],‹6›]=Z ‹c›):∀n k:I,k+n<=100->∃a:U Row,a.a=n/\(∀r∈a,AR L r.1)/\ZG (Zd 0) (λ_=>Z J') Tf [.no,#v[L.j LD],#v[ns.j D.u]] ((EJ k n).j λk:I=>D.u k)=Z (a.j Zc)
 |0,k,_=>#[[],rfl,λ_ h=>(nomatch h),rfl]
 |n+1,k,i=>by
  let(a,d,j,f):=mI h ns c b n (k+1) ∅;let(r,l,e):=TW h<|c/((k:W')+1)+(k:W');apply⟨r::a,by simp[d],λq m=>?_,?_⟩
  .grind [BJ]
  .let g:Tf [‹k›,#v[L.j LD],#v[ns.j D.u]]=Z (Zc r):=by
    rwa[Tf,b,(Hh c ((k:W')+1) (Int.succ_ofNat_pos k) ∅),e]
   rwa[JQ,ZG,g,f]
def
mJ{L:AW}(h:BX L)(c:W'):∀n k:I,∃a:U Row,a.a=n/\(∀r∈a,AR L r.1)/\ZG (Zd 0) (λ_=>Z J') Tg [.no,#v[L.j LD],‹c›] ((EJ k n).j λk:I=>D.u k)=Z (a.j Zc)
 |0,k=>#[[],rfl,λ_ h=>(nomatch h),rfl]
 |n+1,k=>by
  let(a,b,f,d):=mJ h c n<|k+1;let(r,g,e):=TW h<|c+(k:W');apply⟨r::a,by simp[b],λq i=>?_,?_⟩
  .grind [BJ]
  .rwa[JQ,ZG,(show Tg [‹k›,#v[L.map LD],‹c›]=Z (Zc r) by rwa[Tg,e]),d]
def
mK:∀(a rs:U Row),(a.j λr=>((J',r):Ce)).Ϗ B6 rs=rs++a
 |[],rs=>by simp
 |r::a,rs=>by rw[Bf,Md,mK a];simp[B6]
def
mL{L:AW}:∀(a rs:U Row),rs.a+a.a<=200->(∀r∈a,AR L r.1)->FG L rs (a.j λr=>((J',r):Ce))
 |[],_,_,_=>trivial
 |r::a,rs,b,h=>#[#[h r Bo,(λz=>by ext z),λ_=>by rw[Cr]at b;lia],mL a _ (by rw[Cr]at b;simp[B6];lia) λx c=>h x<|Bv _ c]
def
ZBj{L:AW}(h:BX L){g:U I}(e:E1 L g):∃n gs G',Qa [.Ϝ 0,.B (Ax g)] [CP L [] 1,.ϯ .d (Zb (AI L [] [zg L]))]=Z (‹n›,G')/\BS L [] gs 0 G'/\zg L∈gs/\g∈gs/\G'[0]?=Z (CP L [] 1)/\G'[1]?=Z (.ϯ .d (Zb (AI L [] gs))):=by
 by_cases c:g∈[zg L]
 .show#[_,[zg L],_,ZB7 h e (rs:=[]) (b:=0) (t:=1) rfl rfl c,#[h,λ_ h=>(nomatch h),by simp,by simp,by simp,1,rfl,rfl,by ext],by simp,c,rfl,rfl]
 .apply#[_,[zg L]++[g],_,ZxQ h e (rs:=[]) (b:=0) (t:=1) rfl rfl (λ_ h=>(nomatch h)) (by ext) (by ext) c (by simp),#[h,λ_ h=>(nomatch h),?_,λx a=>?_,by simp,1,rfl,rfl,by ext],by simp,by simp,rfl,rfl]
  .erw[CC]at c;erw[F9,DP,Hv,CC,G6,not_false_eq_true,List.nodup_nil,and_true];show λz=>c z.Γ
  .rcases Cz.mp a with a|a
   .rw[CC]at a;subst a;simp
   .rw[CC]at a;subst a;show e.1
def
ZHs{L:AW}{G:Gh}(ns:U W')(s:BS L [] gs 0 G){a:U Row}(T:a.a<=12)(w:∀r∈a,AR L r.1)(hz:zg L∈gs){g:U I}(P:E1 L g)(z:g∈gs):∃G',Tq ([#v[ns.j D.u],#v[L.j LD],#v[[Ax (zg L),Ax g]],.Ϝ 0,#v[a.j Zc],.no,.no,.no,.no,.no,.no,.no,.no],G)=.Ϯ (.B (.bl J')) G':=by
 let h:∀(a:U Row) (A:IV),a.a<=200->(∀r∈a,AR L r.1)->∃G',Yh ([#v[ns.j D.u],#v[L.j LD],#v[[Ax<|zg L,Ax g]],.cel 0,#v[a.map Zc],A,.no,.no,.no,.no,.no,.no,.no],G)=.ret (.val<|.bl J') G':=λa A H w=>by
  let(t,m,Y,C):=s.bk;let m:G[0]?=Z (CP L [] t):=m;let(j,G3,ep,R):=lQ s (cs:=a.j λr=>((J',r):Ce)) (by simp;lia) (mL a [] (by exists H) w);rw[mK,DP]at R;let(G',e7):=ZGP ns R.bs (ZD Dm a).Γ H hz P z A;apply#[G',?_];let p:=Zy (b:=Zd 0) (e:=X8) (ρ:=[.no]) Zc (λr=>AS (J',r)) a λr _=>#[[.B<|Zc r],rfl,by
   rwa[X8,show Zx (.tup [.str "+"]) (Zc r)=Z (AS (J',r))from rfl]]
  rw[show a.j (λr=>AS (J',r))=(a.j λr=>((J',r):Ce)).j AS by rw[B4];rfl]at p;let fP:BN 1 (.X<|(a.map λr=>((J',r):Ce)).j AS)=J':=by
   show(!vk 1 .l&&Dr 1 _)=J'
   rw[FZ λd hd=>by
    let(c,hc,rfl):=Bm.mp hd;let(r,_,rfl):=Bm.mp hc;show(BN 1 (.ω "+")&&(BN 1 (Aj r.1)&&(BN 1 (.u r.2)&&J')))=J'
    rw[J0];rfl];rfl
  let qR:=Zt (a.j Zc) (by simp;lia);let o:∀xs,Zm 1 [] xs=[.no]:=λ_=>rfl;generalize (a.j λr=>((J',r):Ce)).j AS=PL,ns.j D.u=F,L.j LD=W,Ax (zg L)=Z0,Ax g=Z1,a.j Zc=M at *;rwa[Yh,jP,Zi,o,qR,p,fP,GK,m,(show Gg "Book" "pour" (CP L [] t)=J' by rwa[Gg,Y0]),((Dk.mp m).1),and_self,ep,e7]
 let(t,m,Y,C):=s.bk;let m:G[0]?=Z (CP L [] t):=m;let N:=JM #v[ns.j D.u] ns (.U rfl) 0 (by ext);let e6:=JM #v[ns.j D.u] ns (.U rfl) 6 (by ext);generalize ns.β (0:W').ζ 0=x,ns.β (6:W').ζ 0=i at *;let K:=Hh x 4 (by ext) (by ext);let Q:=De (x/4) 5 (by ext);let y:=JP (x/4%5) 2;by_cases c:x/4%5=2
 .rw[decide_eq_true c]at y;obtain⟨n,hn,hn2⟩:∃n:I,200-(a.a:W')-i/13%9%3=(n:W')/\n+a.a<=200:=#[(200-(a.a:W')-i/13%9%3).ζ,∅,∅];let(f,l3,h3,e3):=mJ s.gl (i/13%9) n 0;let q:=IG n ∅;rw[Mw]at q;let qN:=Zt ((EJ 0 n).j λk:I=>D.u k) (by simp;lia);let(G',e):=h (a++f) ‹i/13%9› (by simp;lia) λr z=>(Cz.mp z).ι (w r)<|h3 r;apply⟨G',?_⟩;rw[Gc]at e;let ha:Zx (.X<|a.j Zc) (.X<|f.j Zc)=Z (.X<|a.j Zc++f.j Zc):=Qx (by simp;lia);let u:Zv [.X<|a.j Zc]=Z (.u a.a):=by change Z (D.u ((a.j Zc).a:W'))=_;rw[Bg]
  let o:∀V1 V2 V3 V4 V5 V6 V7 V8 V9 E:Sl,Zm 1 [1,5] [#v[ns.j D.u],#v[L.j LD],V1,V2,V3,‹i/13%9›,V4,V5,V6,V7,V8,V9,E]=[.no,#v[L.j LD],‹i/13%9›]:=λ_ _ _ _ _ _ _ _ _ _=>rfl;clear h;generalize BD L [] (Zb<|AI L [] gs)=B,ns.map D.int=F,L.map LD=W,Ax (zg L)=Z0,Ax g=Z1,a.map Zc=M,f.map Zc=R3,(EJ 0 n).map (λk:I=>D.u k)=RG at *;rwa[Tq,X9,N,K,Q,y,e6,(Hh i 13 (by ext) (by ext)),(De (i/13) 9 (by ext)),u,(De (i/13%9) 3 (by ext)),Yj,hn,q,Zi,o,qN,e3,ha,e]
 .rw[decide_eq_false c]at y;let(G',e):=h a .no ∅ w;apply#[G',?_];clear h;generalize BD L [] (Zb<|AI L [] gs)=B,ns.j D.u=F,L.j LD=W,Ax (zg L)=Z0,Ax g=Z1,a.j Zc=M at *;rwa[Tq,X9,N,K,Q,y,e]
def
Zyz(ns:U W'):∃G',jY [.B (.X (ns.j D.u))] []=Z (.B (.bl J'),G'):=by
 let(L,(h,_),A):=Ztn ns;let h4:=h.n4;let B:=JM #v[ns.j D.u] ns (.U rfl) 5 (by ext);let u:=JM #v[ns.j D.u] ns (.U rfl) 6 (by ext);generalize ns.β (5:W').ζ 0=n5,ns.β (6:W').ζ 0=n6 at *;let(g,w,C):=ZyH h n5;let f:=De n6 13 (by ext);obtain⟨n,E,x⟩:∃n:I,n6%13=(n:W')/\n<13:=#[(n6%13).ζ,∅,∅];rw[E]at f;let(a,G,H,R):=mI h ns n6 u n 0 ∅;let F:=ZB8 h;let(kn,M,G1,N,K,Q,T,P,Y):=ZBj h w;let(G',e5):=ZHs ns K (by lia:a.a<=12) H Q w T;apply#[G',?_];let qL:=Zt (L.j LD) (by simp;lia);let m:=Zy (b:=Zd 0) (e:=jF) (ρ:=[.no]) LD (λ_=>D.u 0) L λo _=>#[[.B<|LD o],rfl,rfl];let p:=Zy (b:=Zd 0) (e:=jH) (ρ:=[.no]) LD LD L λo _=>#[[.B<|LD o],rfl,rfl];let q:BN 1 (.X<|L.j LD)=J':=by
  show(!vk 1 .l&&Dr 1 (L.j LD))=J'
  rw[T5 L];rfl
 let y:EE [.X<|L.map λ_=>D.u 0]=Z (Lf L):=rfl;rw[lE]at y;let fR:=T6 a;let i:=IG n ∅;rw[Mw]at i;let qN:=Zt ((EJ 0 n).j λk:I=>D.u k) (by simp;lia);let c:∀g:U I,BN 2 (Ax g)=J':=λg=>by rw[<- Lk];show J0 2 _
 let fz:=c<|zg L;let z:=c g;clear c;let r:Dr 2 [Ax<|zg L,Ax g]=J':=by
  show(BN 2 (Ax<|zg L)&&(BN 2 (Ax g)&&J'))=J'
  rw[fz,z];rfl
 let x1:Ar (.X [Ax<|zg L,Ax g]) (.u 1)=Z (Ax g):=rfl;clear P Y;generalize Zb (AI L [] [zg L])=T1,BD L [] (Zb<|AI L [] M)=B1,Ax (zg L)=Z0,Ax g=Z1 at *;suffices e:Yi ([#v[ns.j D.u],.no,.no,.no,.no,.no,.no,.no,.no,.no,.no,.no,.no],[])=.Ϯ (.B<|.bl J') G' from Eq.I (fi rfl e) rfl
 generalize L.j LD=W,ns.j D.u=S,a.j Zc=RR,(EJ 0 n).j (λk:I=>D.u k)=RG at *;rwa[Yi,jX,jI,Ef,A,Jf,jG,jL,(show ∀j,Dr 0 j=J' from λj=>FZ λd _=>Pr d),xF,jW,jJ,Zi,(show ∀j,Zm 1 [] j=[.no]from λ_=>rfl),qL,m,y,B,C,r,jV,jK,p,q,RX,DP,F,jU,jM,x1,z,GK,(show Gg "Book" "keep" (CP L [] 1)=J' by rwa[Gg,ZAA]),Iy,HV,show(0:I)<2 by ext,and_self,N];rwa[jS,jN,Zi,(show ∀V1 V2 V3 V4 V5 V6 V7 V8 V9 s t:Sl,Zm 1 [1,0] [#v[S],#v[W],V1,V2,V3,V4,V5,V6,V7,V8,V9,s,t]=[.no,#v[W],#v[S]]from λ_ _ _ _ _ _ _ _ _ _ _=>rfl),u,f,i,qN,R,jG,jL,fR,xF,e5]
end
variable{æ:U B9}{cs:U Ce}{ñ:U Row}
set_option tactic.hygienic true
def Bh(i:I):Ay:=PySem.Challenge.pw_cubebook_k51_refused_pours.main.body.β i (.Pass #[0,0,0,0])
abbrev mM:U Ae:=["ladder","level","other"]
abbrev mO:U Ae:=["ladder","level","value"]
abbrev mP:U Ae:=["ladder","level","thing"]
abbrev mQ:U Ae:=["ladders","thing"]
abbrev mR:U Ae:=["ladder","thing"]
abbrev mS:U Ae:=["ladders","thing"]
abbrev mT:U Ae:=["ladders","thing"]
abbrev mU:U Ae:=["ladders","thing"]
abbrev mV:U Ae:=["ladders","picks","axis"]
abbrev mW:U Ae:=["ladders","picks"]
abbrev mX:U Ae:=["ladder","level","chosen"]
abbrev mY:U Ae:=["ladder","kept_level","level","chosen"]
abbrev mZ:U Ae:=["ladders","kept","grain","picks"]
abbrev m1:U Ae:=["ladders","grain","to"]
abbrev m4:U Ae:=["ladders","rows","grain"]
abbrev m5:U Ae:=["ladders","thing"]
abbrev m7:U Ae:=["ladders","thing"]
abbrev aa:U Ae:=["standing","row"]
abbrev ac:U Ae:=["standing","row"]
abbrev ae:U Ae:=["ladders","rows","changes"]
abbrev ng:U Ae:=["ladders","rows","grains"]
abbrev ni:U Ae:=["ahead","behind"]
abbrev nj:U Ae:=["ahead","behind"]
abbrev nk:U Ae:=["ladder","level","other","chosen"]
abbrev nl:U Ae:=["ladders","kept","grain","picks"]
abbrev nq:U Ae:=["ladders","table","kept","grain","picks"]
abbrev nr:U Ae:=["ladders","table","kept","picks"]
abbrev nt:U Ae:=["ladders","table","kept","picks"]
abbrev nu:U Ae:=["self","ladders"]
abbrev af:U Ae:=["self","changes"]
abbrev nv:U Ae:=["self","grain","picks"]
abbrev ny:U Ae:=["self","grain","picks"]
abbrev nz:U Ae:=["_law_script","_law_k"]
abbrev nA:U Ae:=["_law_cell_here","_law_many"]
abbrev nB:U Ae:=["_law_cell_here","_law_way","_law_k"]
abbrev nC:U Ae:=["_law_cell_here"]
abbrev nE:U Ae:=["_law_ladders_here","_law_cell_here"]
abbrev nG:U Ae:=["_law_ladders_here","_law_cell_here"]
abbrev nH:U Ae:=["_law_ladders_here","_law_change","_law_cell_here"]
abbrev nI:U Ae:=["_law_book","_law_changes"]
abbrev nJ:U Ae:=["_law_script","_law_ladders_here","_law_rows"]
abbrev nK:U Ae:=["_law_book","_law_grains"]
abbrev fe(a:Ae)(s:Ay)(p:U Ae):Ae×Ay×U Ae:=(a,s,p)
abbrev me(a b:Ae)(s:Ay)(p:U Ae):Ae×Ae×Ay×U Ae:=(a,b,s,p)
def FT:U (Ae×Ay×U Ae):=[fe "is_whole" (Bh 5) ["thing"],fe "is_word" (Bh 6) ["thing"],fe "is_value" (Bh 7) ["thing"],fe "value_rank" (Bh 9) ["thing"],fe "key_rank" (Bh 10) ["key"],fe "in_order" (Bh 11) ["keys"],fe "is_line" (Bh 15) ["thing"],fe "go_together" (Bh 16) ["lines"],fe "is_ladder" (Bh 17) ["thing"],fe "whole_of" (Bh 18) ["ladder"],fe "line_at" (Bh 19) ["line","level"],fe "values_in_order" (Bh 20) ["values"],fe "lifts" (Bh 21) mM,fe "beneath" (Bh 22) mO,fe "is_value_at" (Bh 23) mP,fe "is_axis" (Bh 35) mQ,fe "is_level" (Bh 36) mR,fe "is_grain" (Bh 37) mS,fe "finest" (Bh 38) ["ladders"],fe "coarsest" (Bh 39) ["ladders"],fe "is_pick" (Bh 41) mT,fe "is_picks" (Bh 42) mU,fe "picked" (Bh 43) mV,fe "picked_everywhere" (Bh 44) mW,fe "asked_of" (Bh 46) mX,fe "apart_on" (Bh 47) mY,fe "apart" (Bh 48) mZ,fe "cell_of" (Bh 50) ["amounts"],fe "merged" (Bh 51) ["one","other"],fe "ways_up" (Bh 53) m1,fe "goes_along" (Bh 54) ["ways","key"],fe "merged_along" (Bh 55) ["ways","table"],fe "table_of" (Bh 56) m4,fe "is_finest_key" (Bh 59) m5,fe "is_change" (Bh 60) m7,fe "row_rank" (Bh 61) ["row"],fe "put_in" (Bh 62) aa,fe "take_out" (Bh 63) ac,fe "poured" (Bh 64) ae,fe "tables_at" (Bh 65) ng,fe "keys_changed" (Bh 66) ni,fe "cells_changed" (Bh 67) nj,fe "picked_lifts" (Bh 69) nk,fe "picked_ways" (Bh 70) nl,fe "read" (Bh 71) nq,fe "cells_picked" (Bh 72) nr,fe "cells_read" (Bh 73) nt,fe "are_ladders" (Bh 77) ["thing"],fe "_law_cell_at" (Bh 80) nz,fe "_law_stream" (Bh 81) nA,fe "_law_named" (Bh 82) nB,fe "_law_ladder" (Bh 83) nC,fe "_law_ladders" (Bh 84) ["_law_script"],fe "_law_grain" (Bh 87) nE,fe "_law_row" (Bh 88) nG,fe "_law_no_change" (Bh 91) nH,fe "_law_outcome" (Bh 92) nI,fe "_law_refusal" (Bh 93) ["_law_k"],fe "_law_case" (Bh 94) nJ,fe "_law_state" (Bh 95) nK,fe "law" (Bh 96) ["_law_script"]]
def MT:U (Ae×Ae×Ay×U Ae):=[me "__init__" "Book.__init__" (Hy (Bh 78) 0) nu,me "ladders" "Book.ladders" (Hy (Bh 78) 1) ["self"],me "rows" "Book.rows" (Hy (Bh 78) 2) ["self"],me "kept" "Book.kept" (Hy (Bh 78) 3) ["self"],me "pour" "Book.pour" (Hy (Bh 78) 4) af,me "keep" "Book.keep" (Hy (Bh 78) 5) ["self","grain"],me "table" "Book.table" (Hy (Bh 78) 9) ["self","grain"],me "plan" "Book.plan" (Hy (Bh 78) 10) nv,me "answer" "Book.answer" (Hy (Bh 78) 11) ny,me "is_kept" "Book.is_kept" (Hy (Bh 78) 12) ["self","thing"],me "tables_renewed" "Book.tables_renewed" (Hy (Bh 78) 14) ["self"]]
abbrev XT:U Ae:=["NoGrain","NoLadder","NoPick","NoRow","NoSuch","NoText","NoValue","TooMuch"]
structure Tx(K:Ap)(mg:Bt)(d:Ac):V' where
 cb:CI K mg "Book" d
 na_axes:BK K d "axes"
 na_standing:BK K d "standing"
 na_tables:BK K d "tables"
 f:All (DX K mg) FT
 m:All (MX K d) MT
 n:All (λx=>mg x=J) ["ValueError","all","bool","dict","enumerate","int","isinstance","len","list","max","min","range","sorted","str","sum","tuple","zip"]
 g:All (λx=>∃u,mg x.1=Z u/\RelV x.2 u) [("FIGURES",(.ω "0123456789")),("LETTERS",(.ω "abcdefghijklmnopqrstuvwxyz")),("LONGEST_LINE",(.u 4)),("LONGEST_WORD",(.u 12)),("MOST_LADDERS",(.u 4)),("MOST_LINES",(.u 40)),("MOST_ROWS",(.u 200)),("MOST_TABLES",(.u 12))]
 z:XX K mg "CubeError"
 x:All (XX K mg) XT
 y:All (YY K XT) CS
variable {P:AN}{w:Ai}{K:Ap}{mg:Bt}{base:Al}{d:Ac}(T:Tx K mg d)
include T
set_option hygiene false in
local macro_rules | `(tactic|exists $a,$b,*)=>do let c <- b.getElems.mapM λx=>`(tactic|with_reducible refine $a h r ($x T) ?_ ?_ ?_ ?_ ?_);`(tactic|first $[| $c:tactic]*)
local macro_rules | `(tactic|exists $t)=>`(tactic|with_reducible show JE _ _ (tD _ _ _ (Zn $t _)))
local macro_rules | `(mutual $c* end)=>return Lean.mkNullNode (<- c[1:].toArray.mapM (·.raw.replaceM λ| `(tactic|trivial)=>return c[0]!.raw.find? (·.isOfKind ``Lean.Parser.Tactic.paren)|_=>return none))
mutual
example:=by(intros;rename_i h r;repeat' first
 |(refine(?_:JE _ _ _);first|(refine(?_:JE _ (.Compare _ _ _ _) (CL _ (λs=>KZ _ _ _ s)));first|refine ZEP ?_ ?_)|(refine(?_:JE _ (.BoolOp _ _ _) (CL _ (λs=>Px _ _ s)));refine ZBV ?_ ?_)|(refine(?_:JE _ _ (GZ _ _ _ _));first|exact U2 _|refine bT ?_)|(refine(?_:JE _ _ (tP _ _ _ _));first|exact tZ _|exact we|refine bP ?_)|(refine(?_:JE _ _ (tQ _ _ _ _));first|exact t0 _|refine si ?_)|(refine(?_:JE _ _ (Fx _ _));first|exact xq|refine xr T.cb.cof T.cb.cl (by first|exact T.na_axes|exact T.na_standing|exact T.na_tables) ?_)|(refine(?_:JE _ _ (tJ _ _));first|refine xm _ λ_ _=>?_)|(refine(?_:JE _ (.Name _ _) _);first|exact tY _|exact tW (by rfl) (by first|exact T.g.get 0 rfl|exact T.g.get 1 rfl|exact T.g.get 2 rfl|exact T.g.get 3 rfl|exact T.g.get 4 rfl|exact T.g.get 5 rfl|exact T.g.get 6 rfl|exact T.g.get 7 rfl) (λ_ _=>by erw[AB])|exact U1 (by rfl) (T.n.get 15 rfl) (by rfl)|refine fJ ?_|refine VN ?_|exact U1 (by rfl) (by first|exact T.n.get 8 rfl|exact T.n.get 15 rfl) (by rfl))|(refine(?_:JE _ (.Constant _ _ _) _);first|exact bQ|exact rf|exact rb|exact re|refine VN ?_)|(refine(?_:JE _ (.ListComp _ _ _ _) (Fm _ _ _ _ _));first|refine' yh h (NC (by decide +kernel)) rfl rfl ?_ (ND h (by decide +kernel) (λ_ _ _ _ _ _ _ h=>?_) (λ_ _ _ _ _ _ _ h=>?_) (λ_ _ _ _ _ _ _ h=>?_)) ?_|refine' yc h (NC (by decide +kernel)) rfl rfl ?_ (ND h (by decide +kernel) (λ_ _ _ _ _ _ _ h=>?_) (λ_ _ _ _ _ _ _ h=>?_) (λ_ _ _ _ _ _ _ h=>?_)) ?_)|(refine(?_:JE _ (.Subscript _ _ _) _);first|refine wf ?_ ?_|refine uI r.units ?_ ?_ (λ_ _=>rfl)|refine tm ?_ ?_ ?_)|(refine(?_:JE _ (.BinOp _ _ _ _) _);first|refine sW ?_ ?_|refine sQ ?_ ?_|refine sO ?_ ?_|refine sP ?_ ?_|refine sN ?_ ?_|refine sR ?_ ?_|refine Zvp ?_ ?_)|(refine(?_:JE _ (.UnaryOp _ _ _) _);first|refine sS ?_|refine rp ?_)|(refine(?_:JE _ (.BoolOp _ _ _) _);first|refine rz ?_ ?_|refine rA ?_ ?_|refine rq ?_)|(refine(?_:JE _ (.Compare _ _ _ _) _);first|refine t6 r.units ?_ ?_|refine t8 r.units ?_ ?_|refine t7 r.units ?_ ?_|refine uJ r.units ?_ ?_|refine rC ?_|refine cZ Up Up (M3 _) (M3 _) ?_ ?_ ?_|refine cZ Up (cF r.units) (M3 _) cG ?_ ?_ ?_)|(refine(?_:JE _ (.Tuple _ _ _) _);first|refine rK ?_)|(refine(?_:JE _ (.List _ _) (Fm _ _ _ _ _));first|refine rJ ?_)|(refine(?_:JE _ (.Dict _ _ _) _);first|exact uM)|(refine(?_:JE _ (.IfExp _ _ _ _) _);first|refine rB ?_ ?_ ?_)|(refine(?_:JE _ (.Attribute _ _ _) _);first|refine wn T.cb.cof T.cb.cl (by first|exact T.na_axes|exact T.na_standing|exact T.na_tables) ?_|refine fJ ?_)|(refine(?_:JE _ (.Call (.Name _ _) _ [] _) _);first|(refine(?_:JE _ (.Call (.Name _ _) _ [] _) (tD _ _ _ (Zh _ _)));first|exists yj,Zrk,Zur,Zrh,Zud,Zv7,ZtY,ZwR,Zos,ZmY,Zok,Zp1,Zls,Zm8,ZrH,Zoq,ZxG,Ztm,Zrv,Zri,Zq9,Zlz,Zoi,Zpx,Zuy,nM,ZtU,Zrn,Zua,Zrc,Ztw,Zrp,Zm4,Zq8,ZqM,nN,Zm7,Zmh,Zt2,Zu4,Zrx,ZmN,ZhW,Zzt,ZkZ,Zm2,ZqF,Zl7,Zoo,ZqL)|(refine(?_:JE _ (.Call (.Name _ _) _ [] _) (Fm .l _ _ _ (Ef _ _)));first|exists yk,Znj,nN,Zi6,ZlC,ZkN,ZBZ)|(refine(?_:JE _ (.Call (.Name _ _) _ [] _) (Fm .d _ _ _ (Kn _ _)));first|exists ym,ZqK)|(refine(?_:JE _ (.Call (.Name _ _) _ [] _) (CL _ (λs=>Jz _ (_) s)));first|exists yn,Zvc,ZrC,ZvG,ZmO)|(refine(?_:JE _ (.Call (.Name _ _) _ [] _) _);first|exact wc _ (T.n.get 7 rfl)|exact wd _ (T.n.get 6 rfl) (by first|exact(T.n.get 5 rfl)|exact(T.n.get 2 rfl)|exact(T.n.get 15 rfl)|exact(T.n.get 8 rfl)|exact(T.n.get 13 rfl))|(exists Zv;refine HC aS cH (by rfl) (T.n.get 7 rfl) (by rfl) ?_)|(exists NA;refine HC wZ w5 (by rfl) (T.n.get 7 rfl) (by rfl) ?_)|(exists D1;refine HC (qV (b:=J') rfl) (tz (b:=J')) (by rfl) (T.n.get 1 rfl) (by rfl) ?_)|(exists Rh;refine HC (tM rfl) tT (by rfl) (T.n.get 14 rfl) (by rfl) ?_)|(exists OR;refine HC (cL (b:=J') rfl) (cO (b:=J')) (by rfl) (T.n.get 10 rfl) (by rfl) ?_)|(exists OS;refine HC (cL (b:=O') rfl) (cO (b:=O')) (by rfl) (T.n.get 9 rfl) (by rfl) ?_)|(exists Rg;refine HC (pD rfl) tH (by rfl) (T.n.get 10 rfl) (by rfl) ?_)|(exists Rf;refine HC (pC rfl) tE (by rfl) (T.n.get 9 rfl) (by rfl) ?_)|(exists Dc;refine HC cX cY (by rfl) (T.n.get 6 rfl) (by rfl) ?_)|(exists EE;refine bV qv tw (by rfl) (T.n.get 15 rfl) (by rfl) ?_)|(exists intD;refine bV pE tL (by rfl) (T.n.get 5 rfl) (by rfl) ?_)|refine bW qu tu (by rfl) (T.n.get 8 rfl) (by rfl) ?_|refine bW (v7 rfl) v8 (by rfl) (T.n.get 8 rfl) (by rfl) ?_|refine vH rfl r.units (by rfl) (T.n.get 3 rfl) ?_|refine xV rfl r.units (by rfl) (T.n.get 12 rfl) (by rfl) ?_|exact yu (T.n.get 6 rfl) T.x T.y|exact yt (T.n.get 6 rfl) (T.n.get 0 rfl) (yv T.y)|refine yo h r T.cb (ZqG T) rfl ?_))|(refine(?_:JE _ (.Call (.Name _ _) _ _ _) _);first|refine fY h r (nM T) (T.n.get 12 rfl) rfl ?_|refine fY h r (Zry T) (T.n.get 12 rfl) rfl ?_)|(refine(?_:JE _ (.Call (.Attribute _ _ _) _ _ _) _);first|refine VU h r T.cb (ZlT T) rfl ?_|refine VU h r T.cb (Zpt T) rfl ?_|refine VU h r T.cb (Zqs T) rfl ?_|refine R8 h r T.cb (Zl9 T) rfl ?_ ?_|refine R8 h r T.cb (Zoh T) rfl ?_ ?_|refine fZ h r T.cb (Zp7 T) rfl ?_ ?_|refine yp h r T.cb (ZgT T) rfl ?_|refine fZ h r T.cb (ZqS T) rfl ?_ ?_|refine R8 h r T.cb (ZqH T) rfl ?_ ?_|refine R8 h r T.cb (Zni T) rfl ?_ ?_|refine uk PySem.F.plainAttrs_str PySem.F.slot_str_join PySem.F.type_str_join qT um ?_ ?_|refine wH r.units ?_ ?_|refine xQ ?_ ?_|refine xR r.units ?_ ?_|refine dL r.units ?_ ?_)|(refine(?_:JE _ _ (CL _ _));first|refine VN ?_|refine xo (fH _ λ_ _=>?_)|refine xp (fH _ λ_ _=>?_))|(refine(?_:JE _ _ (tD _ _ _ _));first|refine q5 ?_))
 |(refine(?_:JA _ _ _);first|exact UK|refine QX ?_ ?_|exact xw|refine xx ?_ ?_)
 |(refine(?_:JT _ _ _);first|(refine(?_:JT _ (.Κ _ _ _ _) _);first|refine t9 r.κ ?_ ?_|refine ua r.κ ?_ ?_|refine ub r.κ ?_ ?_|refine uc r.κ ?_ ?_|refine ud r.κ ?_ ?_|refine ue r.κ ?_ ?_|refine uL r.κ ?_ ?_|refine uK r.κ ?_ ?_|refine rD ?_|refine rE ?_|refine uP r.κ ?_ ?_|refine yO r.κ ?_ ?_|refine yJ ?_ ?_|refine Zuj ?_ ?_)|(refine(?_:JT _ (.UnaryOp _ _ _) _);first|refine rh ?_)|(refine(?_:JT _ (.ϔ _ _ _) _);first|refine c0 ?_)|(refine(?_:JT _ _ _);first|refine ug ?_|refine c0 ?_))
 |(refine(?_:JS _ _ _);first|(refine(?_:JS _ _ (tS _ _ _ (GN _ _)));first|refine yr ?_)|(refine(?_:JS _ (.Return _ _) _);first|refine rS ?_|exact t5 _|refine rV ?_|exact vI _|refine rT ?_|refine xB ?_)|(refine(?_:JS _ (.If _ _ _ _) _);first|refine rW ?_ ?_ ?_|refine uQ ?_ ?_ ?_|refine xA (VM _ λ_ _=>?_) ?_ ?_)|(refine(?_:JS _ (.Assign [.Name _ _] (.ListComp _ _ _ _) _) _);first|refine' yi h (NC (by decide +kernel)) rfl rfl rfl rfl ?_ (ND h (by decide +kernel) (λ_ _ _ _ _ _ _ h=>?_) (λ_ _ _ _ _ _ _ h=>?_) (λ_ _ _ _ _ _ _ h=>?_)) ?_|refine' ye h (NC (by decide +kernel)) rfl rfl rfl rfl ?_ (ND h (by decide +kernel) (λ_ _ _ _ _ _ _ h=>?_) (λ_ _ _ _ _ _ _ h=>?_) (λ_ _ _ _ _ _ _ h=>?_)) ?_|refine' yg h (NC (by decide +kernel)) rfl rfl rfl rfl ?_ (ND h (by decide +kernel) (λ_ _ _ _ _ _ _ h=>?_) (λ_ _ _ _ _ _ _ h=>?_) (λ_ _ _ _ _ _ _ h=>?_)) ?_|refine' yN h (NC (by decide +kernel)) rfl rfl rfl rfl (λ_ _=>?_) (ND h (by decide +kernel) (λ_ _ _ _ _ _ _ h=>?_) (λ_ _ _ _ _ _ _ h=>?_) (λ_ _ _ _ _ _ _ h=>?_)) ?_|refine fM h.nd ?_)|(refine(?_:JS _ (.Assign [.Name _ _] _ _) _);first|refine f9 h.nd ?_|refine wj _ h.nd ?_|refine r6 h.nd rfl (by first|exact Or.inl rfl|exact Or.inr rfl) ?_|refine rY h.nd rfl (by first|exact Or.inl rfl|exact Or.inr rfl) ?_|refine fM h.nd ?_)|(refine(?_:JS _ (.Assign [.Attribute _ _ _] _ _) _);first|refine xO T.cb.cof T.cb.cl (by first|exact T.na_axes|exact T.na_standing|exact T.na_tables) ?_ ?_)|(refine(?_:JS _ (.Assign _ _ _) _);first|refine f9 h.nd ?_|refine uj ?_ ?_|refine uN r.units ?_ ?_|refine xS r.units ?_ ?_ ?_|refine ZES rfl h.nd ?_|refine' Zx5 ?_ ?_)|(refine(?_:JS _ (.For _ _ _ _ _) _);first|refine' sh PassesOwn.never rfl ?_ ?_ ?_|refine xG PassesOwn.never rfl ?_ h.nd ?_)|(refine(?_:JS _ (.Expr _ _) _);first|refine Zrj r.units ?_|refine sd E6 ?_|refine ui ?_|refine xE ?_)|(refine(?_:JS _ _ _);first|exact vJ|exact xz|(obtain⟨_,q1,q2⟩:=yw T.z T.y;refine ya _ CS IA rfl rfl ?_ ?_ q1 (by rfl) q2 h.nd rfl rfl (λ_=>?_))))
 |(refine(?_:JB _ _ _);first|exact rR|with_reducible refine bX ?_ ?_|refine bX ?_ ?_|exact xy|with_reducible refine fL ?_ ?_|refine fL ?_ ?_)
 |(refine(?_:JW _ _ _);first|refine ro ?_ ?_|refine rj ?_|refine rm ?_ ?_|refine ri ?_)
 |(refine(?_:JO _ _ _);first|refine tf ?_|exact s9)
 |(refine(?_:JG _ _ _);first|exact wg _ h.nd|refine' sD rfl ?_)
 |(refine(?_:JI _ _ _ _);first|refine sx (by rfl) (T.n.ό 11 rfl) ?_|refine sA (by rfl) (T.n.ό 11 rfl) ?_|refine wR (by rfl) (T.n.ό 16 rfl) ?_ ?_|refine xi (by rfl) (T.n.ό 4 rfl) ?_|refine uh ?_|refine fO ?_)
 |(refine(?_:JF _ _ _);first|exact sE|refine sF ?_)
 |(refine(?_:JK _ _ _);first|exact sB|refine' sC ?_ ?_)
 |(refine(?_:IH _ _ _);first|refine ZA6 IA ?_ ?_ ?_|refine zX ?_|refine zW ?_)
 |(refine(?_:Mm _ _ _);first|exact zY|refine zZ IA (VM _ λ_ _=>?_) ?_ ?_|refine ZCn IA rfl rfl rfl ?_ h.nd ?_ ?_|refine zV ?_)
 |(refine(?_:Pu _ _ _);first|refine yD ?_)
 |(refine(?_:JC _ _ _);first|exact xY|refine x3 IA (VM _ λ_ _=>?_) ?_ ?_|refine xZ ?_)
 |(refine(?_:KW _ _ _);first|refine x6 ?_|refine yx IA rfl T.x T.y (by rfl) ?_|refine yF ?_|refine ZDY ?_)
 |(refine(?_:KV _ _ _);first|refine yq h r T.cb IA (Zol T) rfl ?_ ?_|refine VY h r IA (ZtI T) rfl ?_|refine VY h r IA (Zpi T) rfl ?_|refine VY h r IA (ZtE T) rfl ?_)
 |refine xu ?_
 |refine xt ?_
 |refine dL r.κ ?_ ?_
 |rfl
 |exact Fn
 |exact A4 _
 |decide)
theorem Zrk:OF P w K mg base 1 "is_whole" (A6 K Hf):=Bz ["thing"] (T.f.ό 0 rfl) (by trivial)
theorem Zur:OF P w K mg base 1 "is_word" (A6 K JJ):=Bz ["thing"] (T.f.ό 1 rfl) (by trivial)
theorem Zrh:OF P w K mg base 1 "whole_of" (A6 K PF):=Bz ["ladder"] (T.f.ό 9 rfl) (by trivial)
theorem Zud:OF P w K mg base 1 "line_at" (A6 K Gj):=Bz ["line","level"] (T.f.ό 10 rfl) (by trivial)
theorem Zv7:OF P w K mg base 1 "finest" (A6 K PH):=Bz ["ladders"] (T.f.ό 18 rfl) (by trivial)
theorem ZtY:OF P w K mg base 1 "cell_of" (A6 K Sf):=Bz ["amounts"] (T.f.ό 27 rfl) (by trivial)
theorem ZwR:OF P w K mg base 1 "merged" (A6 K NG):=Bz ["one","other"] (T.f.ό 28 rfl) (by trivial)
theorem Zos:OF P w K mg base 1 "goes_along" (A6 K K2):=Bz ["ways","key"] (T.f.ό 30 rfl) (by trivial)
theorem Zvc:OF P w K mg base 1 "put_in" (DN K Wc):=R5 aa (T.f.ό 36 rfl) (by trivial)
theorem ZtI:OX P w K mg base 1 "put_in" (Fc K Wd):=f6 aa (T.f.ό 36 rfl) (by trivial)
theorem ZrC:OF P w K mg base 1 "take_out" (DN K Wf):=R5 ac (T.f.ό 37 rfl) (by trivial)
theorem Zpi:OX P w K mg base 1 "take_out" (Fc K Wg):=f6 ac (T.f.ό 37 rfl) (by trivial)
theorem ZlT:OM P w K mg base d Bi 1 "ladders" (A6 K Wi):=Ml ["self"] (T.m.ό 1 rfl) (by trivial)
theorem Zpt:OM P w K mg base d Bi 1 "rows" (A6 K Wk):=Ml ["self"] (T.m.ό 2 rfl) (by trivial)
theorem Zqs:OM P w K mg base d Bi 1 "kept" (A6 K Si):=Ml ["self"] (T.m.ό 3 rfl) (by trivial)
theorem ZmY:OF P w K mg base 1 "_law_cell_at" (A6 K ZF):=Bz nz (T.f.ό 48 rfl) (by trivial)
theorem Zok:OF P w K mg base 1 "_law_stream" (A6 K Z7):=Bz (nA.Η ["_law_number","_law_found","_law_k"]) (T.f.ό 49 rfl) (by trivial)
theorem Zp1:OF P w K mg base 1 "_law_named" (A6 K K3):=Bz (nB.Η ["_law_signs","_law_size","_law_at","_law_word"]) (T.f.ό 50 rfl) (by trivial)
theorem Zls:OF P w K mg base 1 "_law_no_change" (A6 K PM):=Bz (nH.Η ["_law_sign","_law_key","_law_amount","_law_odd","_law_some"]) (T.f.ό 55 rfl) (by trivial)
theorem Zm8:OF P w K mg base 1 "_law_refusal" (A6 K ZM):=Bz ["_law_k"] (T.f.ό 57 rfl) (by trivial)
theorem ZrH:OF P w K mg base 2 "is_value" (A6 K NH):=Bz ["thing"] (T.f.ό 2 rfl) (by trivial)
theorem Zoq:OF P w K mg base 2 "value_rank" (A6 K So):=Bz ["thing"] (T.f.ό 3 rfl) (by trivial)
theorem ZxG:OF P w K mg base 2 "lifts" (A6 K Sq):=Bz mM (T.f.ό 12 rfl) (by trivial)
theorem Ztm:OF P w K mg base 2 "is_axis" (A6 K hV):=Bz mQ (T.f.ό 15 rfl) (by trivial)
theorem Zrv:OF P w K mg base 2 "is_level" (A6 K Sr):=Bz mR (T.f.ό 16 rfl) (by trivial)
theorem Zri:OF P w K mg base 2 "coarsest" (A6 K Wr):=Bz ["ladders"] (T.f.ό 19 rfl) (by trivial)
theorem Zq9:OF P w K mg base 2 "asked_of" (A6 K Ss):=Bz (mX.Η ["asked","line"]) (T.f.ό 24 rfl) (by trivial)
theorem Zlz:OF P w K mg base 2 "picked_lifts" (A6 K Wx):=Bz nk (T.f.ό 42 rfl) (by trivial)
theorem Zoi:OF P w K mg base 2 "_law_ladder" (A6 K Sw):=Bz (nC.Η ["_law_xs","_law_many","_law_places","_law_sizes","_law_j","_law_lines","_law_k","_law_line","_law_at"]) (T.f.ό 51 rfl) (by trivial)
theorem Zpx:OF P w K mg base 2 "_law_grain" (A6 K Sx):=Bz (nE.Η ["_law_xs"]) (T.f.ό 53 rfl) (by trivial)
theorem Zuy:OF P w K mg base 2 "_law_row" (A6 K K4):=Bz (nG.Η ["_law_xs","_law_key"]) (T.f.ό 54 rfl) (by trivial)
theorem nM:OF P w K mg base 3 "key_rank" (A6 K NJ):=Bz ["key"] (T.f.ό 4 rfl) (by trivial)
theorem ZtU:OF P w K mg base 3 "is_line" (A6 K K5):=Bz ["thing"] (T.f.ό 6 rfl) (by trivial)
theorem Zrn:OF P w K mg base 3 "is_grain" (A6 K K6):=Bz mS (T.f.ό 17 rfl) (by trivial)
theorem Zua:OF P w K mg base 3 "is_pick" (A6 K WG):=Bz mT (T.f.ό 20 rfl) (by trivial)
theorem Zrc:OF P w K mg base 3 "apart_on" (A6 K Sz):=Bz (mY.Η ["asked","firsts","line","first"]) (T.f.ό 25 rfl) (by trivial)
theorem Ztw:OF P w K mg base 3 "ways_up" (A6 K SE):=Bz m1 (T.f.ό 29 rfl) (by trivial)
theorem Znj:OF P w K mg base 3 "_law_ladders" (A6 K PQ):=Bz ["_law_script","_law_many","_law_ladders_here"] (T.f.ό 52 rfl) (by trivial)
theorem Zrp:OF P w K mg base 3 "_law_case" (A6 K WX):=Bz (nJ.Η ["_law_changes","_law_left","_law_due","_law_k","_law_cell_here","_law_xs","_law_change","_law_bad"]) (T.f.ό 58 rfl) (by delta NL BQ SM SJ SH WW iF;trivial)
theorem Zm4:OF P w K mg base 4 "go_together" (A6 K JL):=Bz ["lines","seen","finest_seen","line","level","value","later"] (T.f.ό 7 rfl) (by trivial)
theorem Zq8:OF P w K mg base 4 "is_picks" (A6 K W5):=Bz mU (T.f.ό 21 rfl) (by trivial)
theorem Zry:OF P w K mg base 4 "row_rank" (A6 K SV):=Bz ["row"] (T.f.ό 35 rfl) (by trivial)
theorem Zl9:OM P w K mg base d Bi 4 "is_kept" (A6 K W8):=Ml ["self","thing"] (T.m.ό 9 rfl) (by trivial)
theorem ZqM:OF P w K mg base 5 "is_ladder" (A6 K K7):=Bz ["thing"] (T.f.ό 8 rfl) (by trivial)
theorem Zoh:OM P w K mg base d Bi 5 "table" (A6 K Xa):=Ml ["self","grain"] (T.m.ό 6 rfl) (by trivial)
theorem nN:OF P w K mg base 6 "in_order" (A6 K PY):=Bz ["keys","told","key"] (T.f.ό 5 rfl) (by trivial)
theorem Zm7:OF P w K mg base 6 "are_ladders" (A6 K PZ):=Bz ["thing"] (T.f.ό 47 rfl) (by trivial)
theorem Zi6:OF P w K mg base 7 "values_in_order" (A6 K P1):=Bz ["values"] (T.f.ό 11 rfl) (by trivial)
theorem ZlC:OF P w K mg base 7 "merged_along" (A6 K P5):=Bz ["ways","table","cells","key","cell","there"] (T.f.ό 31 rfl) (by trivial)
theorem Zmh:OF P w K mg base 7 "keys_changed" (A6 K SX):=Bz (ni.Η ["cells_ahead","cells_behind","keys"]) (T.f.ό 40 rfl) (by trivial)
theorem Zt2:OF P w K mg base 8 "beneath" (A6 K SY):=Bz mO (T.f.ό 13 rfl) (by trivial)
theorem Zu4:OF P w K mg base 8 "picked" (A6 K S0):=Bz (mV.Η ["lines","pick","among"]) (T.f.ό 22 rfl) (by trivial)
theorem Zrx:OF P w K mg base 8 "table_of" (A6 K S3):=Bz (m4.Η ["single"]) (T.f.ό 32 rfl) (by trivial)
theorem ZkN:OF P w K mg base 8 "cells_changed" (A6 K Xr):=Bz (nj.Η ["changed","grain"]) (T.f.ό 41 rfl) (by trivial)
theorem ZmN:OF P w K mg base 9 "is_value_at" (A6 K K9):=Bz mP (T.f.ό 14 rfl) (by trivial)
theorem ZhW:OF P w K mg base 9 "picked_everywhere" (A6 K S7):=Bz mW (T.f.ό 23 rfl) (by trivial)
theorem ZqK:OF P w K mg base 9 "tables_at" (A6 K S8):=Bz ng (T.f.ό 39 rfl) (by trivial)
theorem Zp7:OM P w K mg base d Bi 9 "keep" (DN K Qa):=R7 ["self","grain"] (T.m.ό 5 rfl) (by trivial)
theorem Zzt:OF P w K mg base 10 "apart" (A6 K Mq):=Bz (mZ.Η ["chosen","axis","ladder","two"]) (T.f.ό 26 rfl) (by trivial)
theorem ZkZ:OF P w K mg base 10 "is_finest_key" (A6 K Lb):=Bz m5 (T.f.ό 33 rfl) (by trivial)
theorem Zm2:OF P w K mg base 10 "picked_ways" (A6 K S9):=Bz (nl.Η ["chosen"]) (T.f.ό 43 rfl) (by trivial)
theorem ZqG:OM P w K mg base d Bi 10 "__init__" (DN K XF):=R7 nu (T.m.ό 0 rfl) (by trivial)
theorem ZgT:OM P w K mg base d Bi 10 "tables_renewed" (DN K XH):=R7 ["self","ahead"] (T.m.ό 10 rfl) (by trivial)
theorem ZqF:OF P w K mg base 11 "is_change" (A6 K Z3):=Bz m7 (T.f.ό 34 rfl) (by trivial)
theorem ZBZ:OF P w K mg base 11 "read" (A6 K XM):=Bz nq (T.f.ό 44 rfl) (by trivial)
theorem Zl7:OF P w K mg base 11 "cells_picked" (A6 K XP):=Bz (nr.Η ["ways"]) (T.f.ό 45 rfl) (by trivial)
theorem ZvG:OF P w K mg base 12 "poured" (DN K XR):=R5 (ae.Η ["standing","change"]) (T.f.ό 38 rfl) (by trivial)
theorem ZtE:OX P w K mg base 12 "poured" (Fc K NM):=fxd (ae.Η ["standing","change"]) (T.f.ό 38 rfl) (by trivial)
theorem Zoo:OF P w K mg base 12 "cells_read" (A6 K XW):=Bz nt (T.f.ό 46 rfl) (by trivial)
theorem ZqS:OM P w K mg base d Bi 13 "pour" (DN K Qc):=R7 af (T.m.ό 4 rfl) (by trivial)
theorem Zol:OM P w K mg base d (Iz P w) 13 "pour" (Fc K Qd):=yI af (T.m.ό 4 rfl) (by trivial)
theorem ZqH:OM P w K mg base d Bi 13 "plan" (A6 K Tb):=Ml (nv.Η ["best","kept","cells"]) (T.m.ό 7 rfl) (by trivial)
theorem Zni:OM P w K mg base d Bi 14 "answer" (A6 K X2):=Ml (ny.Η ["kept"]) (T.m.ό 8 rfl) (by trivial)
theorem ZmO:OF P w K mg base 14 "_law_outcome" (DN K IJ):=R5 (nI.Η ["_law_found","e","_law_kinds"]) (T.f.ό 56 rfl) (by delta NN Td Tc X5 jD;trivial)
theorem ZqL:OF P w K mg base 15 "_law_state" (A6 K Qe):=Bz (nK.Η ["_law_asked"]) (T.f.ό 59 rfl) (by trivial)
theorem ZCH{fn:Ac}{fd:Cm}(D:DI K mg "law" (Bh 96) ["_law_script"] fn fd):AY P w K mg base Bi 16 fn fd ["_law_script"] (DN K jY):=fX ["_law_script","_law_ladders_here","_law_grains","_law_book","_law_rows","_law_number","_law_ahead","_law_changes","_law_good","_law_due","_law_more","_law_handed","_law_found"] D (by trivial)
end
end
def
fin{l:PySem.W.OpenLaw}{w:Ai}{K:Ap}{h:Al}{mg:Bt}{b:Ac}(_:K.In h)(a:mg "law"=Z (.C b)):(∃d,Tx K mg d)->∃fd:Cm,(∀(s:Ab)(v:Aa),BindsTo s fd #[[v],[]] [("_law_script",v)])/\∀base:Al,K.In base->base.Ns BZ mg->AY l.Y w K mg base Bi 16 b fd ["_law_script"] (Ot K):=λ⟨_,T⟩=>let⟨_,_,D⟩:=T.f.ό 60 rfl;xX a D (λ_=>ZCH T D) (λns _=>Zyz ns) λ_ _ _ _ _ _ _=>rfl
def
walk{l:PySem.W.OpenLaw}{q:AN}{b:U Ae}{i:(Bt)->Al->V'}{e:Ai->Al->V'}{d:DefRec}{K:Params->Ap}(j:l.most=Z 63)(c:d.oo.defaults=[]) (m:∀(w:Ai) (h:Al),e w h->(K w.oo).In h) (F:∀(w:Ai) (mg:Bt) (g:Ac) (h:Al),(K w.oo).In h->h.Ns BZ mg->mg d.name=Z (.C g)->∃fd:Cm,(∀(s:Ab) (u:Aa),BindsTo s fd #[[u],[]] [("_law_script",u)])/\∀base:Al,(K w.oo).In base->base.Ns BZ mg->AY l.Y w (K w.oo) mg base Bi 16 g fd ["_law_script"] (Ot (K w.oo))):PySem.W.WalkO q b i e l.row.toRowW d [] (λf vs=>PySem.call f vs):=Internal.walk_of (n:=63) (k:=16) (x:="_law_script") (CX:=λ_=>Bi) (sp:=λw=>Ot<|K w.params) j (by ext) c ⟨rfl,by ext,by ext⟩ m F (λ_ _ a ns o _ p=>#[a,ns,rfl,p,o,λ_=>rfl]) λ_ _ _ _ _ z=>z
end Internal.K51
variable{æ:U Internal.K51.B9}{cs:U Internal.K51.Ce}{ñ:U Internal.K51.Row}
end
structure PySem.W.Fast:Prop where(tw17858164287958404382 tw13349659132006961774 tw13421336320221595794 tw18230034217236196307 tw15516039036658322076 tw7960948861290690835 tw1135121345132620980 tw17157293804488683110 tw12730159724444814917 tw8670602947333801642 tw11175557362902228410 tw11834111368064050798 tw16208791028426923427 tw4485153619773936412 tw7146751906001963213 tw17540371064848696956 tw11949826845527531566 tw18046022674066231648 tw11373557115331607309 tw17650163421186998075 tw17024385052542334222 tw2372295157104858092 tw11171608956204228868 tw9721470732900825302 tw15866139013222133440 tw2661491087972016653 tw9604461494024653069 tw3311064355763418501 tw5062591886117977653 tw18402299160468270255 tw560255505607835073 tw17625785760365202256 tw17071449369988349159 tw1489093442015384810 tw13971204183789484594 tw972162411571057105 tw15771532166125396713 tw18138195885839931432 tw6792081242027353718 tw10279686405402695331 tw1726277260948152272 tw15189679385141205818 tw18065330915322263370 tw5947740765036891342 tw16761771569179580847 tw7771819375852997135 tw4538355715776071703 tw14523535934862679170 tw15291908133129403270 tw5361354989386378859 tw6443151056067245890 tw7977619034299192376 tw16082628629747952313 tw14890733625166460889 tw4291829904232040830 tw12552499176507935057 tw12250971137603230495 tw3720555467242860317 tw792830370059255987 tw6001890794568698954 tw3096537995778855922 tw11132180748752530634 tw8544891864923032551 tw12116218684337218741 tw7509599802248777693 tw13731590928318364104 tw9219675258658843298 tw8647815585564884161 tw4389758041403212334 tw11817244727134461180 tw4552019941894073255 tw11142590547326467573 tw15884894142805573002 tw10366485993953486531 tw14771506666851112199 tw5544899106774311562 tw10981308902718487030 tw13848921669789094735 tw529115313195741417 tw11171920125449556638 tw14272216601678260752 tw7568104542472876936 tw17578285664609984361 tw6599768319923141108 tw5550503176094755130 tw5856063951002706641 tw10907636231606611587 tw17534849435971921214 tw3810925220028938218 tw14694494506904531927 tw5934464301894440538 tw16755231396683497608 tw10746696299771544586 tw783825554526036984 tw11553477139025477056 tw5800937390581772526 tw7872256251443217895 tw5299228771274600503 tw10059795634571182046 tw17881197937033770741 tw9129114073677315987 tw6337470516131582792 tw12558029813806034015 tw7318461012143399444 tw7307539016677539539 tw5283845333170906170 tw6596697125054967395 tw4692222523826987536 tw11786392059307459229 tw15041245290342570804 tw10319457039578950709 tw4534843952819106151 tw10220517371540330003 tw14491133840547853096 tw9283782363527738752 tw3087535727966260343 tw1661099298669636559 tw5374628114082306117 tw2771064411620508841 tw4194983918207397212 tw10827672586367444770 tw1719557501146115233 tw13194454341433251982 tw2980357321047337042 tw9726943665006913931 tw9396138964149573032 tw18429472698471643066 tw8674860738913588426 tw10661055365536770185 tw18167854324712526314 tw4298810182805110197 tw13375369713063839612 tw15440338737632426796 tw13194820029432963517 tw3345319903144875079 tw12166851101126296310 tw588093952578541853 tw6801200436511681776 tw5891385553118940241 tw7435197052477546613 tw7981112194836322909 tw11515342639335132067 tw7928640925086344204 tw3687808675256682297 tw13246328262113168365 tw8235711906225589297 tw957667121540135041 tw2592969751560073420 tw16703755162458914760 tw15285394171591295476 tw12681781530594668157 tw4418562735319451013 tw17403936943975586101 tw12733697168336131736 tw13100245510864661619 tw234865156931079634 tw4243053156895596058 tw3512770349271588936 tw13800883503030107570 tw16898855618860408683 tw16521988233196717710 tw14646356903013928076 tw5103940411439276218 tw2286798599633628455 tw17966581672303326493 tw16907529932831420639 tw16571674388401830149 tw5943685258254706243 tw6553734089930558426 tw11729628948262354083 tw1696920281055204409 tw12747235466161967198 tw17958361786478028065 tw6275303349646178824 tw13415123493648897755 tw16804741432607707483 tw2406164152261159882 tw9850265792710871963 tw2063061155969183244 tw16877198392392397416 tw2142531243392311142 tw13231856408003596732 tw11006637415555232259 tw7193252659946993792 tw7551204758239097306 tw9602229971099552082 tw5703929182804133365 tw1539452075360650754 tw17842558121464164350 tw10950274485618239909 tw1894166538204695541 tw17077584737560536111 tw17986901202067724508 tw11154681940044028118 tw4493016526354262386 tw16388303204552383466 tw2107748204198034342 tw13469518353719974722 tw4905375920468859363 tw2573099393762360612 tw13449368007723787339 tw11282424263791678353 tw5233510173198867852 tw16071551494568357178 tw18180673840280273344 tw3598682119188722272 tw14019104942637794905 tw14970500051750760474 tw12168217279555532127 tw17116644609959984780 tw2558071491383489646 tw12820630332392001214 tw6492325318904295213 tw4214747030567991846 tw3039030419278292206 tw2727625271323521595 tw4910660519495768094 tw3601060482653909400 tw5148398634068138257 tw13002045519535752748 tw9704648169851594395 tw16584724887322104409 tw17300921675911873351 tw11313716333475981941 tw784051954024762635 tw789001149465679953 tw11239995195790198531 tw7275900038031590651 tw12535037150547563387 tw14866646961528551552 tw14745240491812170378 tw14608297550682604782 tw15092057536737782123 tw10150120175997508849 tw16877206667647843322 tw15983890331011029004 tw10118786025729098929 tw6567176667342345310 tw3409298875803677366 tw16649010889506853423 tw12121339750612820773 tw2874053353231296480 tw10957276030217192014 tw15452787053780717653 tw14501795282250520014 tw9122135535485813161 tw5731029619194167409 tw532623633657201808 tw386312777273921753 tw18126010539413156693 tw16028543462492745347 tw14940376733774965826 tw14397907766691003560 tw10193653817023832654 tw12549738787497819221 tw13475409839797218383 tw6390298281774100306 tw17222016989139213295 tw13219400085006099406 tw13312153892147574245 tw244401823987351000 tw12313010308905954975 tw18244058795755767763 tw14941808092506594904 tw10443725508696057136 tw9064722310208010142 tw8862199426153288530 tw1825073580465727188 tw17850861470532931032 tw15362413011480110326 tw13676395457318288112 tw14395011929454634424 tw6759505469483025650 tw15637955687450603369 tw13594308424084898923 tw13558770433848172542 tw14917420680633394971 tw3625717700327371200 tw14170665971115254140 tw13495327858990925324 tw7738881348036739569 tw14260714703910486338 tw5689560520989207484 tw16407791997788251228 tw10243364576169604683 tw9236519376828649726 tw15169938519908889677 tw12576302603335687756 tw16119997881628385243 tw5110260582806459667 tw4211715601823724129 tw9505789493570902313 tw4612448227309105418 tw3619711149878674940 tw1521884405666165358 tw6855028390244935775 tw5459954164070264204 tw8705611746950574198 tw5637007699306032436 tw18014842398979139898 tw174364508081463175 tw16072087898669957902 tw13351393066042322433 tw12772450107506455345 tw11985675036026763590 tw2822378607078132596 tw13066952229329338079 tw2569374463166003066 tw3900820288188338746 tw14761108338154149406 tw8628912659897382300 tw7200022201472523415 tw1544832395461840101 tw634809773752815528 tw4934017768148433465 tw3993880466767965831 tw18005448798319202734 tw9035637440457259 tw9021774142117054734 tw6936934080644155293 tw6497769857633483289 tw5497931466583851956 tw4817998173794240019 tw13421709134630463830 tw9982932879526265552 tw4023217092327071269 tw17464668273495427286 tw15953888717284403988 tw14466164817086805661 tw10419954343916059020 tw4803457354108973012 tw3550463253151770876 tw7239065197560387773 tw5733391333898268098 tw4860106608407476355 tw3753247730051628405 tw366066895845074853 tw1937400957911700495 tw4910922637550827144 tw4028766156690744960 tw16466461372200841484 tw9791991527552274566 tw15987083932160545729 tw871447488804652677 tw1415129062831833795 tw6445803396236068845 tw2721915033458873579 tw1404062821079837582 tw11702116526617136152 tw7583565958937519278 tw911861772722312251 tw3905281756235943465 tw10024101415121871491 tw2375153060658747382 tw10065083883550984738 tw9637826277950122075 tw6423460988572263881 tw6157636973606590838 tw2429080202145262135 tw11807327969933105657 tw9275419899249774270 tw2477009803250791422 tw17062831248696600402 tw9995226833189404031 tw2463590722505875526 tw14968762126863648930 tw11002348020788699180 tw10320449660300130986 tw1298579611044294008 tw13943963405963344077 tw14834093245925897233 tw12517937106940326934 tw15762014296184511640 tw10556091219087996091 tw18256255457714837906 tw8074052390479456955 tw16098473616486785041 tw9780443685465891023 tw4205238173817450472 tw1918361127933540357 tw16654753379095885411 tw13498173627613788720 tw12034200961652942831 tw7947024745135743277 tw14445616199256700860 tw6063135818306136650 tw9153139865019088395 tw17613613841888103730 tw7692498957134239924 tw15342208956097308502 tw3269422289623545974 tw16145779393354936910 tw2492932130066699217 tw709514630214307976 tw13585718005421540084 tw8528684471283477122 tw18060604182246818868 tw5758968758693920707 tw551677962274295372 tw3440866708543621674 tw10720585881838076166 tw16006838052769812888 tw14241196857255608260 tw10133810799863638265 tw5392571955566750023 tw373409670774550745 tw15687426317552131052 tw333385032823152693 tw17547596031786605697 tw8795581119699562352 tw5706482902229429954 tw13159637666656230670 tw8643655054928180311 tw1169123067199921669 tw7062180497781878778 tw3789110995288302268 tw2231246828826364456 tw18326584582588421125 tw13241207344352647461 tw12260203676616552096 tw11622009961006999368 tw9233440289263044169 tw2399042241317757405 tw17450384765313181305 tw16692983439101803554 tw15093445285102379779 tw14241162188937468452 tw12200580830569915001 tw11860696716945815969 tw10400101059429517011:True)
open PySem PySem.W PyProof.Rows
set_option maxRecDepth 100000 in
set_option maxHeartbeats 0 in
theorem PySem.Challenge.cw_cubebook_k51_refused_pours_holds : PySem.Challenge.rw_cubebook_k51_refused_pours.Holds := by
 w_on;o_law;k_head;(case hw=>w_witness2)
 k_fill
 refine Internal.K51.walk (l:=PySem.Challenge.rw_cubebook_k51_refused_pours) rfl rfl (fun w h Y=>PySem.W.kIn_of Y) ?F
 case F =>
  intro w mg fa h KX G hmg
  open Internal in refine' Internal.K51.fin KX hmg ⟨_,⟨Internal.ci KX G ?_ ?_ ?_ ?_ ?_ ?_ ?_,?_,?_,?_,?_,?_,?_,?_,⟨_,mg_of KX G ?_,?_⟩,?_,?_⟩⟩
  open Internal in repeat (any_goals (show Internal.All _ _;first | exact True.intro | refine' ⟨⟨_,_,Internal.di KX G ?_ ?_ ?_ ?_⟩,?_⟩ | refine' ⟨⟨_,_,Internal.mi ?_ ?_ ?_ ?_ ?_⟩,?_⟩ | refine' ⟨mg_none_of KX G ?_,?_⟩ | refine' ⟨⟨_,mg_of KX G ?_,⟨_,rfl⟩⟩,?_⟩ | refine' ⟨⟨_,mg_of KX G ?_,?_⟩,?_⟩ | refine' ⟨⟨_,?_,Internal.mk_of ?_ ?_,⟨?_,?_,?_,?_,?_,?_,⟨_,?_⟩⟩,Internal.kit_V ?_,⟨_,?_,Internal.exm_of ?_ ?_ ?_ ?_⟩,?_⟩,?_⟩ | refine' ⟨⟨_,?_,?_⟩,?_⟩))
  all_goals try (show (_:Prop);first | k_is | rfl | k_exc | exact Internal.kit_self | (refine' Internal.kit_ne ?_ ?_ ?_ ?_<;>first | k_is | rfl))
#print axioms PySem.Challenge.cw_cubebook_k51_refused_pours_holds
