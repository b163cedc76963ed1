import PyProof.Rows.All
import Wide.All
import OpenK.AllK
import Wide.FinOn
import Lean
import PyProof.EqAt
import PyProof.EqKinds
import PyProof.TupleCall
import PyProof.TupleKey
import PyProof.DictRoadsH
import Wide.Seal
import PyProof.NeKinds
import PyProof.ZipIter
import PyProof.EnumMake
import PyProof.Rows.TupTab
import KE.KDictLaws
import PyProof.AutoListH
import PyProof.AttrMissHeap
import KE.KDictOf
import KE.KIntText
import PyProof.StrBlockL
import PyProof.StrLawsChain
import PyProof.FString
import PyProof.Rows.FStr
import OpenK.KOwn
import KE.KIsAll
import KE.KDictList
import PyProof.Draws
import PySem.Challenge.RW_cubebook_k52_kept_as_anew
import PyProof.MeetsSeq
open PySem.W renaming Frag→Ap,keepIn→Jb,findIn→J1,instObj→K2,fnOf→J4,emptyDict→NM
open PySem renaming wpAny_bind→Ao,sizeLine→Ay,Spec→Qai,wpAny_pure→AT,starEach→AJ,Program→AM,mainGlobals→CZ,foldedSetIterable→E1,wpAny_loadPart'→Fe,FuncData→Cs,compareOp→DT,attributeBase→FQ,bootBuiltins→Fp,wpAny_setField_rec→IN,wpAny_holding→F9,swapsWith→EJ,wpAny_truthy_bool→IZ,holding→DU,wpAny_field→Ga,wpAny_callSpecial?_slot→Mt,behindInMarks→Hy,keywordEach→GC,Keyword→Ei,mem_of_lookup→La,wpAny_rule→Gb,tupleKind_room_in1→Lz,assignEach→Gz,wpAny_newObj_type→Ld,wpAny_call_entry→Lc,sizeLine_eq→Ip,sysModules→Hv,codeAny_builtin→Lj,backToKw→GB,DictEntry→Hu,wpAny_Call_Name_kw→NO,Builtin→Gg,wpAny_dictEntries→Ol,binaryOp→HA,NameKind→HC,wpAny_getItem_str_slice→TH,plainId_quiet→Mw,wpAny_typeNameOfWhole_keyiter→cV,wpAny_pyIter_list→P5,atKey_none_of_get→QG,wpAny_typeOf→Mu,wpAny_notOrdered_dict→Uh,wpAny_attempt→OG,wpAny_passesOwn→P7
open List renaming mem_cons_of_mem→Bl,mem_cons_self→Bh,map_cons→AU,getElem?_eq_getElem→Cb,length_map→Bq,getElem?_eq_some_iff→Cr,mem_map→Bm,size_toArray→B5,mem_singleton→Ca,mem_cons→Bx,mem_append→Cn,mem_append_right→Dt,getElem?_map→CM,length_cons→Cw,range→BI,getElem?_cons_succ→Ej,getElem?_set_ne→DR,append_assoc→Dr,getElem?_cons_zero→EU,getElem?_append_left→Fd,all_eq_true→Du,map_map→CG,getElem?_set_self→Fa,length_append→EL,map_nil→Dj,getElem?_append_right→G8,append_nil→Eh,map_append→Ek,mem_map_of_mem→FG,nodup_cons→Eu,drop_eq_getElem_cons→HK,nil_append→EV,set_cons_zero→F5,take_of_length_le→Hf,replicate→EK,getElem_mem→Fy,set_cons_succ→Gv,mem_range→EY,mem_of_getElem?→HE,cons_append→GF,pairwise_append→IF,take_append_drop→Ju,extract→Fz,getD→Eo,perm_append_comm→Kr,nodup_append→Iy,getElem?_replicate→Lb,mem_append_left→J0,drop_eq_nil_of_le→Lh,range'→Gu,pairwise_singleton→M0,length_take→Jc,getElem?_append→Lr,zipWith→Hl,ext_getElem?→Kh,replicate_zero→Mg,length_set→Jg,length_replicate→Ms,length_singleton→Mv,getElem?_drop→Lf,zip_cons_cons→Lg,range_eq_range'→Nv,length_eq_zero_iff→Oa,length_nil→Kb,replicate_succ→Nw,pairwise_cons→Na,pairwise_iff_getElem→QP,mem_filter→K4,not_mem_nil→MN,range'_succ→Nu,zipWith_cons_cons→SJ,all_map→Kk,foldl_cons→M8,mem_or_eq_of_mem_set→UU,map_congr_left→SW,eraseIdx_cons_succ→U7,of_mem_zip→NP,drop_of_length_le→UE,drop_zero→Oc,length_drop→Q6,erase_cons_tail→XR,mem_iff_getElem→Uz,getElem?_take_of_lt→YP
open PySem.Heap renaming get?_push_of_some→BC,get?_push_size→Co,lt_size→BN,SameBut→Ee,size_push→K9,get?_update_self→Qf,get?_update_other→Tv
open Nat renaming le_refl→AX,lt_of_lt_of_le→B3,le_trans→Bv,ne_of_lt→Cf,zero_lt_of_lt→En,lt_of_add_right_lt→GI,lt_of_succ_lt→FA,sub_one_lt_of_lt→Hh,le_of_not_lt→FV,lt_of_le_of_lt→GO,lt_or_ge→ER,le_succ_of_le→GQ,zero_le→E3,lt_of_le_of_ne→IH,le_add_right→HS,eq_of_le_of_lt_succ→LO,reduceAdd→G5,le_of_lt→F8,lt_of_sub_eq_succ→Li,lt_of_lt_of_eq→J3,add_le_add_iff_left→M4,le_sub_one_of_lt→LN,lt_irrefl→Hw,one_le_iff_ne_zero→M6,le_of_succ_le→Kq,sub_one_lt_of_le→M5,le_add_right_of_le→NR,zero_add→IK,lt_of_not_le→LL,ne_of_gt→Ja,lt_trans→J9,add_lt_of_lt_sub'→QL,le_antisymm→M7,reduceSub→Mf,add_sub_of_le→NS,le_of_lt_succ→Ow,le_of_ble_eq_true→Ur
open Option renaming map_eq_some_iff→B7,bind_eq_some_iff→Ch,bind→Cp,map→Dy,map_some→Ka
open PyProof.Rows renaming wpS_bind→AY,wpS_pure→Bi,callWith_type1→NH,pendingOf→GP,SortKind→Gq,wpS_forRange→LM,failedOf→HW,setPending→Kw,listUpdate_at→OI
open False renaming elim→BX
open Bool renaming and_eq_true→Dp,false_eq_true→FU,and_self→GX,not_true→IC,false_ne_true→NC,not_eq_true'→QW
open Ne renaming symm→BM
open Array renaming toList_push→E6,toList_extract→IG,toList_append→Jt,size_map→II,length_toList→K5,toList_inj→Ks,getElem?_toList→N3,getD→Jr,toList_reverse→QR,getElem?_eq_getElem→cI
open Option.some renaming inj→EH,injEq→Qr
open PySem.Value renaming ref→DJ
open ForInStep renaming yield→Hb,done→Ku
open Int renaming toNat_natCast→IL,emod_lt_of_pos→JP,emod_nonneg→Ie,natCast_nonneg→KC,natCast_pos→KQ,toNat_of_nonneg→Nm,zero_le_ofNat→Sr,ofNat_lt→Ny,lt_of_not_ge→Qe,toNat_natCast_add_one→jN
open PySem.F renaming plainAttrs_list→Lq,slot_dict_setdefault→Uj,slot_enumerate_next→UW,slot_list_append→TV,type_list_append→TW,plainAttrs_dict→Up,args_tuple_add_2→aL,entry_tuple_add→aK,slot_dict_keyiterator_next→vz
open Break.runK renaming match_1→Js
open PySem.Heap.SameBut renaming update→Kn
open PySem.Paired renaming length→G7
open PySem.Obj renaming mapSeq→Gc,data_mapDictKeys→Ug,data_mapFields→UN
open Eq renaming trans→Fl
open PySem.Builtin.Str renaming occurrences→NK
open True renaming intro→HB
open PySem.NameKind renaming free→J8
open Classical renaming propDecidable→Qs
open PySem.Str renaming ofString→J5
open List.Perm renaming append_left→QQ
open PySem.Builtin.Slice renaming slicePlaces→Tt,sliceAdjust→YS
open LawfulBEq renaming eq_of_beq→IJ
open PySem.Builtin.List renaming listFitsIndex→et
open PySem.Builtin.SmallTypes renaming nextOf→dt
open PySem.Calls renaming call_function_entry→dG
open PySem.PassesOwn renaming never→Tc
open PySem renaming Value→Aa,Shared→Ab,Addr→Ac,model→Ae,Str→Af,Around→Ag,World→Aj,Heap→Al,eval→Ar,cLine→Av,Pos→AB,backTo→AD,Stmt→AF,Builtin→A0,rawInt→BB,Sem→BP,call_meets→BY,tupleKind→BZ,sliceBounds→B6
open PyProof.Rows renaming SortSt→Ah,Keyed→An,envOfC→Bj,elem'→BG
open Pure renaming pure→Am
open Option renaming some→Z,none→J
open Bool renaming true→J',false→O'
abbrev U:=@List
abbrev O:=@Option
set_option Elab.async false
set_option linter.all false
set_option backward.eqns.nonrecursive false
set_option tactic.hygienic false
set_option maxHeartbeats 4000000
set_option maxRecDepth 100000
abbrev AR:=PySem.Value->PySem.Shared->Prop
abbrev Ed(x:PySem.Str):Prop:=(x==("__debug__":PySem.Str))=O'
abbrev AZ:=U (PySem.Addr×PySem.Obj)
abbrev Bz:=PySem.Str->O PySem.Value
theorem Z0{b:Type}{c:Prop}[Decidable c]{a:O b}{r:b}(h:(if c then a else J)=Z r):c/\a=Z r:=by
 split at h
 ·exact⟨‹_›,h⟩
 ·cases h
noncomputable section
set_option bootstrap.genMatcherCode false
set_option genSizeOf false
set_option genSizeOfSpec false
set_option compiler.extract_closed false
open List renaming toArray->T'
local macro_rules|`(#[$a,*])=>`(⟨$a,*⟩)
local macro_rules|`(tactic|erw[$[$t:term],*]$[$l]?)=>`(tactic|simp only[$[$t:term],*]$[$l]?)
local macro_rules|`(tactic|ext)=>`(tactic|decide)
local macro_rules|`(tactic|let$d:letDecl)=>`(tactic|have$d:letDecl)
theorem zX1{A}{p:A->Prop}{G:Prop}(h:∃a,p a)(k:∀a,p a->G):G:=by obtain⟨a,h⟩:=h;exact k _ h
theorem zX2{A B}{p:A->B->Prop}{G:Prop}(h:∃a b,p a b)(k:∀a b,p a b->G):G:=by obtain⟨a,b,h⟩:=h;exact k _ _ h
theorem zX3{A B C}{p:A->B->C->Prop}{G:Prop}(h:∃a b c,p a b c)(k:∀a b c,p a b c->G):G:=by obtain⟨a,b,c,h⟩:=h;exact k _ _ _ h
theorem zX4{A B C D}{p:A->B->C->D->Prop}{G:Prop}(h:∃a b c d,p a b c d)(k:∀a b c d,p a b c d->G):G:=by obtain⟨a,b,c,d,h⟩:=h;exact k _ _ _ _ h
theorem zX5{A B C D E}{p:A->B->C->D->E->Prop}{G:Prop}(h:∃a b c d e,p a b c d e)(k:∀a b c d e,p a b c d e->G):G:=by obtain⟨a,b,c,d,e,h⟩:=h;exact k _ _ _ _ _ h
theorem zX6{A B C D E F}{p:A->B->C->D->E->F->Prop}{G:Prop}(h:∃a b c d e f,p a b c d e f)(k:∀a b c d e f,p a b c d e f->G):G:=by obtain⟨a,b,c,d,e,f,h⟩:=h;exact k _ _ _ _ _ _ h
theorem zX7{A B C D E F I}{p:A->B->C->D->E->F->I->Prop}{G:Prop}(h:∃a b c d e f i,p a b c d e f i)(k:∀a b c d e f i,p a b c d e f i->G):G:=by obtain⟨a,b,c,d,e,f,i,h⟩:=h;exact k _ _ _ _ _ _ _ h
theorem zN2{a b G:Prop}(h:a∧b)(k:a->b->G):G:=k h.1 h.2
theorem zN3{a b c G:Prop}(h:a∧b∧c)(k:a->b->c->G):G:=k h.1 h.2.1 h.2.2
theorem zN4{a b c d G:Prop}(h:a∧b∧c∧d)(k:a->b->c->d->G):G:=k h.1 h.2.1 h.2.2.1 h.2.2.2
theorem zN5{a b c d e G:Prop}(h:a∧b∧c∧d∧e)(k:a->b->c->d->e->G):G:=k h.1 h.2.1 h.2.2.1 h.2.2.2.1 h.2.2.2.2
theorem zN6{a b c d e f G:Prop}(h:a∧b∧c∧d∧e∧f)(k:a->b->c->d->e->f->G):G:=k h.1 h.2.1 h.2.2.1 h.2.2.2.1 h.2.2.2.2.1 h.2.2.2.2.2
theorem zN7{a b c d e f i G:Prop}(h:a∧b∧c∧d∧e∧f∧i)(k:a->b->c->d->e->f->i->G):G:=k h.1 h.2.1 h.2.2.1 h.2.2.2.1 h.2.2.2.2.1 h.2.2.2.2.2.1 h.2.2.2.2.2.2
theorem zN8{a b c d e f i j G:Prop}(h:a∧b∧c∧d∧e∧f∧i∧j)(k:a->b->c->d->e->f->i->j->G):G:=k h.1 h.2.1 h.2.2.1 h.2.2.2.1 h.2.2.2.2.1 h.2.2.2.2.2.1 h.2.2.2.2.2.2.1 h.2.2.2.2.2.2.2
theorem zN9{a b c d e f i j l G:Prop}(h:a∧b∧c∧d∧e∧f∧i∧j∧l)(k:a->b->c->d->e->f->i->j->l->G):G:=k h.1 h.2.1 h.2.2.1 h.2.2.2.1 h.2.2.2.2.1 h.2.2.2.2.2.1 h.2.2.2.2.2.2.1 h.2.2.2.2.2.2.2.1 h.2.2.2.2.2.2.2.2
open Lean Parser Tactic in def dZ'(n:Nat)(xs:Array Term)(e:Term)(fs:Array (TSyntax `tactic)):Nat->TSyntax `tactic->MacroM (TSyntax `tactic)|0,a=>return a|k+1,a=>do let m:=n-1-k;let f:=λ(s:String)(i:Nat)=>mkIdent (.mkSimple (s++toString i));let z:=mkIdent `zZ;let y←`(λ $(xs.extract m n)* =>?_);let t←(if m=0 then `($(f "zN" n) ($e :) $y) else if k=0 then `($(f "zX" m) ($e :) λ $xs* =>?_) else `($(f "zX" m) ($e :) λ $(xs.extract 0 m)* $z=>$(f "zN" (k+1)) $z $y));let b←dZ' n xs e fs k a;let c←`(tactic|try clear $z);`(tactic|first|(refine $t;$c;$[$fs]*)|$b:tactic)
local macro_rules|`(tactic|let($a,$b,*):=$e)=>do let cs:=(Array.mk [a])++b.getElems;let (xs,fs)←cs.foldlM (λ (xs,fs) c=>do let z:=Lean.mkIdent (.mkSimple (toString e.1.getId++"z"++toString xs.size));match c with|`(rfl)=>return (xs.push z.1,fs.push (←`(tactic|subst $z)))|`(($a,$b,*))=>return (xs.push z.1,fs.push (←`(tactic|let($a,$b,*):=$z)))|_=>return (xs.push c.1,fs)) ((Array.mk []:Array Lean.Syntax),(Array.mk []:Array (Lean.TSyntax `tactic)));let ps←xs.mapM λx=>if x.isIdent then`(Lean.Parser.Tactic.rcasesPatLo|$(⟨x⟩):ident)else`(Lean.Parser.Tactic.rcasesPatLo|_);let r←`(tactic|(obtain⟨$ps,*⟩:=$e;$[$fs]*));if (e.1.find? λs=>s.isOfKind ``Lean.Parser.Term.syntheticHole).isSome||e.1.isIdent&&cs.any λc=>(c.1.find? λs=>s.getId==e.1.getId).isSome then return r else let d←`(tactic|try clear $(⟨if e.1.isIdent then e else Lean.mkIdent `zZ⟩));dZ' cs.size (xs.map (⟨·⟩)) e ((Array.mk [d])++fs) cs.size r
local macro_rules|`(∅)=>`(by lia)
local macro_rules|`(tactic|apply$e)=>if e.raw.isOfKind ``Lean.Parser.Term.paren then Lean.Macro.throwUnsupported else`(tactic|refine $e)
local macro_rules|`(tactic|show$e)=>`(tactic|exact $e)
local macro_rules|`(tactic|exists$e)=>`(tactic|simpa using $e)
local macro_rules|`(tactic|symm)=>`(tactic|decide +kernel)
local macro_rules|`(tactic|ac_rfl)=>`(tactic|first|show .inl rfl|show .inr rfl|show .inr (.inl rfl)|show .inr (.inr rfl)|assumption|show Hx _ (by ext) (by ext)|rfl)
local macro_rules|`(command|open J in$c)=>`(command|set_option tactic.hygienic true in $c)
open Lean Parser Term in def dN(f:Bool):Name->Name|.str p s=>let u:=if s.length>2 then s else match " a=length j=map o=size r=int u=heap y=val B=toList C=toArray E=trans G=env I=ref J=objs L=bind O=lst Q=inl R=get? S=lookup U=next X=tup Y=getD α=Attribute β=prog γ=units δ=same ε=Name ζ=extract η=Nodup θ=toNat ι=type κ=mono μ=Subscript ν=set ξ=cel ρ=drop σ=inr τ=symm υ=names φ=extBut χ=base ψ=str ω=refl Α=non Β=builtin Γ=toks Δ=none Ε=eraseIdx Ζ=isSome Η=elim Θ=cons Ι=append Κ=own Λ=Call Μ=dat Ν=cell Ξ=scope Ο=push Ρ=get Τ=step Υ=isEmpty Φ=Compare Χ=foldl Ψ=fresh Ω=fail ϊ=ListComp ϋ=take ό=length_eq ύ=free ώ=of_same Ϗ=eraseIdxIfInBounds ϐ=setIfInBounds ϑ=isList ϒ=Constant ϓ=BoolOp ϔ=nil ϕ=slot ϖ=locals ϗ=tuple Ϙ=done ϙ=append_right Ϛ=Pairwise ϛ=typeIs Ϝ=cps ϝ=fields Ϟ=contains ϟ=stack Ϡ=local ϡ=mpr Ϣ=mem_iff ϣ=handled Ϥ=cells ϥ=bool Ϧ=Perm ϧ=reverse Ϩ=list ϩ=len Ϫ=hok ϫ=deeper Ϭ=Assign ϭ=all Ϯ=line ϯ=filter ϰ=update ϱ=kept ϲ=slot_list_getattribute ϳ=kind ϴ=endLine ϵ=calm ϶=DictOfH Ϸ=params ϸ=ret Ϲ=seq Ϻ=function jk=from xv=IsTupleIter v0=Return gV=lent g7=filterMap ".splitOn (" "++s++"=") with|[_,r]=>(r.splitOn " ").headD s|_=>s;if p.isAnonymous then .str p (if f then u else s) else .str (dN f p) u|n=>n
open Lean Parser Term in def dS(f:Bool):Nat->Syntax->Option Syntax|0,_=>none|n+1,x=>match x with|.ident i r v _=>if !f&&v.isAtomic then none else let w:=dN f v;if w==v then none else some (.ident i r w [])|_=>let k:=x.getKind;if k==``proj then match dS f n x[0],dS true n x[2] with|none,none=>none|a,b=>some ((x.setArg 0 (a.getD x[0])).setArg 2 (b.getD x[2]))else if k==``dotIdent then(dS true n x[1]).map (x.setArg 1)else if k==``explicit then(dS f n x[1]).map (x.setArg 1)else if k==``app then(dS f n x[0]).map (x.setArg 0)else none
local macro_rules(kind:=ident)|x=>match dS false 9 x with|some y=>return y|_=>Lean.Macro.throwUnsupported
local macro_rules(kind:=Lean.Parser.Term.proj)|x=>match dS false 9 x with|some y=>return y|_=>Lean.Macro.throwUnsupported
local macro_rules(kind:=Lean.Parser.Term.dotIdent)|x=>match dS false 9 x with|some y=>return y|_=>Lean.Macro.throwUnsupported
local macro_rules(kind:=Lean.Parser.Term.app)|x=>match dS false 9 x with|some y=>return y|_=>Lean.Macro.throwUnsupported
local macro_rules(kind:=Lean.Parser.Command.declaration)|x=>do let c:=(x[1].isOfKind ``Lean.Parser.Command.definition||x[1].isOfKind ``Lean.Parser.Command.abbrev)&&x[0][4].isNone&&(x[0][1].find? (·.isOfKind ``Lean.Parser.Attr.macro)).isNone;let y:=if c then x.setArg 0 (x[0].setArg 4 (Lean.mkNullNode (Array.mk [Lean.mkNode ``Lean.Parser.Command.noncomputable (Array.mk [Lean.mkAtom "noncomputable"])])))else x;match x.getHeadInfo with|.original ..=>return y.setHeadInfo .none|_=>if c then return y else Lean.Macro.throwUnsupported
variable{C a:Ac}{apos cpos p2 pos:AB}{gs gs':U (U Nat)}{E:AR}{elts es ifs:U PySem.Expr}{u:Aa}{Q:Unit->Ab->Prop}{ek elt iter o tg y:PySem.Expr}{j t':Nat}{φ:Nat->Ac}{pl:BP Bool}{pins:AZ}{ps:U Af}{ws:U Nat}{sc scope:PySem.Scope}{g':Array PySem.GenState}{items:Array Aa}{κ:Gq}{RR:Aa->Ac->PySem.Result->Ab->Prop}{isA:Nat->Aa->Prop}{ch:U Ac}{left:Bool}{B:Aa->BP PySem.Fin}{d':PySem.Drawn}{tn:Nat->Al->Prop}
namespace Internal
open PySem PySem.Spec PyProof.Rows
inductive V where
 |non|bl (b:Bool)|int (i:Int)|str (x:Af)|ref (a:Ac)|ty (n:String)
 deriving DecidableEq
variable{vs ys:U V}
def RelV:V->Aa->Prop
 |.non,u=>u=Value.Δ
 |.bl b,u=>u=Value.ϥ b
 |.int i,u=>∃t,u=Value.r i t
 |.str x,u=>∃t,u=Value.ψ x t
 |.ref a,u=>u=DJ a
 |.ty n,u=>u=Value.ι n
abbrev Aq:U V->U Aa->Prop:=Paired RelV
theorem Aq.length{xs:U V}{us:U Aa}(r:Aq xs us):xs.a=us.a:=G7 r
theorem Aq.get:∀{xs:U V}{us:U Aa}{i:Nat}{x:V},Aq xs us->xs[i]?=Z x->∃u,us[i]?=Z u/\RelV x u
 |_,_,_,_,.nil,e=>by simp at e
 |_,_,0,_,.cons r _,e=>by simp at e;subst e;show#[_,rfl,r]
 |_,_,i+1,x,.cons _ t,e=>by
  let(u,a,b):=Aq.Ρ (i:=i) (x:=x) t (by exists e);show#[u,by simpa using a,b]
theorem Aq.set{x:V}{u:Aa}(r:RelV x u):∀{xs:U V}{us:U Aa}(i:Nat),Aq xs us->Aq (xs.ν i x) (us.ν i u)
 |_,_,_,.nil=>.ϔ
 |_,_,0,.cons _ t=>.Θ r t
 |_,_,i+1,.cons q t=>.Θ q<|Aq.ν r i t
theorem Aq.append{xs:U V}{us ws:U Aa}(h:Aq xs us)(s:Aq ys ws):Aq (xs++ys) (us++ws):=by
 induction h with
 |nil=>show s
 |cons r _ a=>show .Θ r a
theorem Aq.take:∀{xs:U V}{us:U Aa}(n:Nat),Aq xs us->Aq (xs.ϋ n) (us.ϋ n)
 |_,_,0,_=>.ϔ
 |_,_,_+1,.nil=>.ϔ
 |_,_,n+1,.cons r t=>.Θ r<|Aq.ϋ n t
theorem Aq.drop:∀{xs:U V}{us:U Aa}(n:Nat),Aq xs us->Aq (xs.ρ n) (us.ρ n)
 |_,_,0,r=>r
 |_,_,_+1,.nil=>.ϔ
 |_,_,n+1,.cons _ t=>Aq.ρ n t
def CJ:O V->O Aa->Prop
 |some v,Z u=>RelV v u
 |none,J=>True
 |_,_=>False
inductive At where
 |non|int (i:Int)|str (x:Af)
 deriving DecidableEq
variable{us:U (U At×Ac×Aa)}
def JY:At->Aa->Bool
 |.non,.none=>J'
 |.int k,v=>Value.isInt k v
 |.str x,v=>Value.isStrOf x v
 |_,_=>O'
def Td(w:Aj):At->Int
 |.non=>reduceHash 4238894112
 |.int k=>hashInt k
 |.str x=>hashStr w x
theorem JZ:∀{k:At}{v:Aa},JY k v=J'->(k=.Α/\v=.Δ)\/(∃i t,k=.r i/\v=Value.r i t)\/(∃x t,k=.ψ x/\v=Value.ψ x t)
 |.non,v,h=>by cases v<;>first|show .Q ⟨rfl,rfl⟩|show absurd h NC
 |.int i,v,h=>by let(t,e):=Value.isInt_shape (k:=i) (v:=v) h;show .σ<|.Q ⟨i,t,rfl,e⟩
 |.str x,v,h=>by let(t,e):=Value.isStrOf_shape (x:=x) (v:=v) h;show .σ<|.σ ⟨x,t,rfl,e⟩
theorem m7(i:Int)(t:Tok):JY (.r i) (.r i t)=J':=by simp[JY,Value.isInt]
theorem m9(x:Af)(t:Tok):JY (.ψ x) (.ψ x t)=J':=by simp[JY,Value.isStrOf]
theorem ng{prog:AM}{w:Aj}{A:Ag}{s:Ab}{Q:Int->Ab->Prop}(h:Q (reduceHash 4238894112) {s with toks:=s.Γ+1}):wpAny (Ae prog w) A (PySem.pyHash .Δ) Q E s:=PySem.W.pyHash_slot (T:="NoneType") rfl F.slot_NoneType_hash F.entry_NoneType_hash (F.args_NoneType_hash_1 _) (beq_builtin_none _) (.Q rfl) (Ao<|AT<|Ao<|wpAny_mkInt<|AT ⟨_,_,rfl,h⟩)
theorem ni(a b:Int):decide ((At.r a)=.r b)=(a==b):=by
 grind
theorem nj(a b:Af):decide ((At.ψ a)=.ψ b)=decide (a=b):=by
 simp_all
def ZF(prog:AM)(w:Aj):PySem.KeyKind prog w At where
 is:=JY
 hash:=Td w
 inj:=λv a b d f=>by
  rcases JZ d with⟨rfl,rfl⟩|⟨i,t,rfl,rfl⟩|⟨x,t,rfl,rfl⟩<;>rcases JZ f with⟨rfl,e⟩|⟨j,u,rfl,e⟩|⟨y,u,rfl,e⟩ <;>
   first|rfl|(cases e;done)|(cases e;rfl)
 byValue:=λk v h=>by
  rcases JZ h with⟨rfl,rfl⟩|⟨i,t,rfl,rfl⟩|⟨x,t,rfl,rfl⟩<;>rfl
 pyHash:=λc h=>by
  rcases JZ c with⟨rfl,rfl⟩|⟨i,t,rfl,rfl⟩|⟨x,t,rfl,rfl⟩
  .show ng h
  .show wpAny_pyHash_int h
  .show wpAny_pyHash_str h
 eqBool:=λg c h=>by
  rcases JZ g with⟨rfl,rfl⟩|⟨i,t,rfl,rfl⟩|⟨x,t,rfl,rfl⟩<;>rcases JZ c with⟨rfl,rfl⟩|⟨j,u,rfl,rfl⟩|⟨y,u,rfl,rfl⟩
  .show SeqAt.EqAt.δ Value.Δ _ _ _ _ h
  .show SeqAt.EqAt.none_int j u _ _ _ _ h
  .show SeqAt.EqAt.none_str y u _ _ _ _ h
  .show SeqAt.EqAt.int_none i t _ _ _ _ h
  .rw[ni]at h;show wpAny_eqBool_int h
  .show SeqAt.EqAt.int_str i t y u _ _ _ _ h
  .show SeqAt.EqAt.str_none x t _ _ _ _ h
  .show SeqAt.EqAt.str_int x t j u _ _ _ _ h
  .rw[nj]at h;show wpAny_eqBool_str h
 «strs»:=λk x t v h=>by
  rcases JZ h with⟨rfl,e⟩|⟨i,u,rfl,e⟩|⟨y,u,rfl,e⟩
  .show nomatch e
  .show nomatch e
  .injection e with l _
   subst l
   cases v<;>rfl
inductive KT where
 |at(a:At)|tup (l:List At)
 deriving DecidableEq
def KT.hash(w:Aj):KT->Int
 |.at a=>Td w a
 |.tup l=>reduceHash (Builtin.Tuple.tupleHashOf (l.j (Td w)))
def FN:At->V
 |.non=>.Α
 |.int i=>.r i
 |.str x=>.ψ x
def nk:KT->V->Prop
 |.at a,v=>v=FN a
 |.tup _,v=>∃p,v=.I p
def K1(w:Aj):U KT->U V->U Hu->Prop
 |[],a,b=>a=[]/\b=[]
 |k::ks,a,b=>∃kv v r e t,a=kv::v::r/\b=e::t/\RelV kv e.key/\RelV v e.y/\e.hash=k.hash w/\nk k kv/\K1 w ks r t
set_option genInjectivity false
inductive HO where
 |lst (xs:List V)
 |tup (xs:List V)
 |dct (ks:List KT) (vs:List V)
 |ins (C dx:Ac) (fs:List (Af×V))
 |own (x:Ac)
 |xd (fs:List (Af×V))
 |met (f x:Ac)
 |rng (lo hi:Int)
 |frz (o:Obj) (u:HO)
 |tbl (ps:Array Aa)
 |ext (φ:Al->Prop)
abbrev Hp:=Ac->O HO
variable{H' H0:Hp}
def AK(H:Hp)(a:Ac)(o:HO):Hp:=λb=>if b=a then Z o else H b
theorem ZT{H:Hp}{o:HO}:AK H a o a=Z o:=by grind [AK]
theorem Zl{H:Hp}{b:Ac}{o:HO}(h:b≠a):AK H a o b=H b:=by grind [AK]
theorem nl{H:Hp}{o u:HO}:AK (AK H a o) a u=AK H a u:=by
 funext b;unfold AK;split<;>rfl
theorem Z6{H:Hp}{b:Ac}{o:HO}(h:H a=Z o)(h':H b=J):a≠b:=by
 grind
section
variable(P:AM)(w:Aj)
def Bc(P:AM)(w:Aj)(H:Hp)(h:Al)(a:Ac):HO->Prop
 |.lst d=>d.a<=Ay/\∃(b:U Aa) (n:Nat),Aq d b/\h.R a=Z {cls:=.ι "list",data:=.Ϲ b.C n}
 |.tup d=>d.a<=Ay/\∃b:U Aa,Aq d b/\IsTup h a b.C
 |.dct ks m=>ks.a<=Ay/\(a==Hv)=O'/\ks.η/\∃o j p,h.R a=Z o/\o.ExactDict/\o.data=.dict j p/\K1 w ks m j.B
 |.ins C g e=>H g=Z (.Κ a)/\e.a<=1000/\g≠a/\h.R a=Z (K2 C g) /\
   ∃c,h.Ns1 g c/\(∀f,CJ (e.S f) (c f))/\PySem.Within c (e.j (·.1))
 |.own _=>∃o,h.R a=Z o
 |.xd e=>∃c,h.Ns1 a c/\∀f,CJ (e.S f) (c f)
 |.rng lo q=>∃t u v,h.R a=Z {cls:=.ι "range",data:=.ϝ (T' [.r lo t,.r q u,.r 1 v])}
 |.frz o u=>h.R a=Z o/\Bc P w H h a u
 |.tbl r=>h.R a=Z {cls:=.Δ,data:=.ϝ r}
 |.met f x=>h.R a=Z (PySem.W.methodObj (.I f) (.I x))
 |.ext i=>i h/\(∃o,h.R a=Z o)/\∀k l:Al,i k->(∀o,k.R a=Z o->l.R a=Z o)->i l
def CL(H:Hp)(h:Al):Prop:=∀a o,H a=Z o->Bc P w H h a o
end
section
variable{P:AM}{w:Aj}{H:Hp}{h h':Al}{o:HO}
theorem Bc.lt(x:Bc P w H h a o):a<h.J.o:=by
 cases o with
 |lst b=>let(_,_,_,_,e):=x;show BN e
 |tup b=>let(_,_,_,p):=x;show p.lt
 |dct ks d=>let(_,_,_,o,_,_,e,_):=x;show BN e
 |ins C g c=>let(_,_,_,e,_):=x;show BN e
 |own y=>let(_,e):=x;show BN e
 |xd c=>let(_,(_,_,_,e,_),_):=x;show BN e
 |rng lo i=>let(_,_,_,e):=x;show BN e
 |frz j u=>let(e,_):=x;show BN e
 |tbl k=>show BN (show h.R a=Z _ from x)
 |met f y=>show BN (show h.R a=Z _ from x)
 |ext l=>let(_,(_,e),_):=x;show BN e
theorem Paired.mapP{e g:Type}{F G:e->g->Prop}{c:U e}{d:U g}(h:Paired F c d)(f:∀a b,F a b->G a b):Paired G c d:=by
 induction h with
 |nil=>show .ϔ
 |cons r _ i=>show .Θ (f _ _ r) i
theorem Bc.stay(x:Bc P w H h a o)(k:∀b u,(b=a\/H b=Z (.Κ a))->h.R b=Z u->h'.R b=Z u) (B:∀b,H b=Z (.Κ a)->H' b=Z (.Κ a)) (F:∀b xs,H b=Z (.X xs)->H' b=Z (.X xs)):Bc P w H' h' a o:=by
 induction o with
 |lst xs=>let(z,g,n,r,e):=x;show#[z,g,n,r,k _ _ (.Q rfl) e]
 |tup xs=>let(z,g,r,i,e,c):=x;show#[z,g,r,i,k _ _ (.Q rfl) e,c]
 |dct ks L=>let(z,y,n,i,j,l,e,c):=x;show#[z,y,n,i,j,l,k _ _ (.Q rfl) e,c]
 |ins C M E=>
  let(d,z,ne,e,m,(s,j,l,G,c),r):=x;show#[B _ d,z,ne,k _ _ (.Q rfl) e,m,#[s,j,l,k _ _ (.σ d) G,c],r]
 |own y=>let(i,e):=x;show#[i,k _ _ (.Q rfl) e]
 |xd E=>let(m,(s,j,l,e,c),r):=x;show#[m,#[s,j,l,k _ _ (.Q rfl) e,c],r]
 |rng lo N=>let(t,u,v,e):=x;show#[t,u,v,k _ _ (.Q rfl) e]
 |frz i u Q=>let(e,q):=x;show#[k _ _ (.Q rfl) e,Q q]
 |tbl A=>
  let e:h.R a=Z {cls:=.Δ,data:=.ϝ A}:=x;change h'.R a=Z {cls:=.Δ,data:=.ϝ A}
  grind
 |met f y=>
  let e:h.R a=Z (PySem.W.methodObj (.I f)<|.I y):=x;change h'.R a=Z (PySem.W.methodObj (.I f)<|.I y)
  simp_all
 |ext K=>let(p,(o,e),st):=x;show#[st _ _ p λo q=>k _ _ (.Q rfl) q,#[o,k _ _ (.Q rfl) e],st]
theorem CL.lt(x:CL P w H h)(e:H a=Z o):a<h.J.o:=(x a o e).lt
theorem CL.fresh(x:CL P w H h)(e:h.J.o<=a):H a=J:=by
 cases q:H a with
 |none=>rfl
 |some u=>show absurd (B3 (x.lt q) e)<|Hw _
theorem CL.kept(x:CL P w H h)(k:∀b u,h.R b=Z u->h'.R b=Z u):CL P w H h':=λa o e=>(x a o e).stay (λb u _ q=>k b u q) (λ_ q=>q) λ_ _ q=>q
theorem CL.laid(x:CL P w H h)(k:∀b u,h.R b=Z u->h'.R b=Z u)(d:h.J.o<=a)(new:Bc P w (AK H a o) h' a o):CL P w (AK H a o) h':=λb u e=>by
 by_cases f:b=a
 .subst f;rw[ZT]at e;cases e;show new
 .rw[Zl f]at e;show(x b u e).stay (λc v _ q=>k c v q) (λc q=>Zl (Z6 q<|x.fresh d) ▸ q) λc g q=>Zl (Z6 q<|x.Ψ d) ▸ q
end
def Rd(H:Hp)(a:Ac)(u:HO):Prop:=H a=Z u\/∃o,H a=Z (.frz o u)
theorem Rd.ok{P:AM}{w:Aj}{H:Hp}{h:Al}{u:HO}(r:Rd H a u)(x:CL P w H h):Bc P w H h a u:=by
 rcases r with r|⟨o,r⟩
 .show x a u r
 .let(_,q):=x a _ r;show q
def ND:O HO->Prop
 |some (.lst _)=>True
 |some (.dct _ _)=>True
 |some (.ins _ _ _)=>True
 |some (.ext _)=>True
 |_=>False
section
variable{P:AM}{w:Aj}{H:Hp}{h h':Al}{x e:Ac}{o':HO}
theorem CL.write(ok:CL P w H h)(d:ND (H x))(j:e=x\/H e=Z (.Κ x))(k:∀b u,b≠e->h.R b=Z u->h'.R b=Z u)(i:∃u,h'.R e=Z u) (new:Bc P w (AK H x o') h' x o'):CL P w (AK H x o') h':=λb u q=>by
 by_cases f:b=x
 .subst f;rw[ZT]at q;cases q;show new
 .rw[Zl f]at q;by_cases a:b=e
  .let l:H b=Z (.Κ x):=by
    rcases j with z|z
    .show absurd (a.E z) f
    .rw[a];show z
   rw[q]at l;cases l;let(v,n):=i;show#[v,a ▸ n]
  .refine(ok b u q).stay (λc v g r=>k c v ?_ r) (λc r=>by rw[Zl<|(λc y r z=>by subst z;rw[r]at d;show d) c b r];show r) λc m r=>by rw[Zl<|(λc m r z=>by subst z;rw[r]at d;show d) c m r];show r
   rcases g with rfl|g
   .show a
   .rintro rfl;rcases j with z|z
    .show(λc y r z=>by subst z;rw[r]at d;show d) c b g z
    .rw[g]at z;cases z;show f rfl
end
structure Un(fs ex:List Ac)(H H':Hp)(h h':Al):Prop where
 keep:∀b o,h.R b=Z o->H b=J->b∉fs->b∉ex->h'.R b=Z o
 slot:∀b o,h.R b=Z o->H b=J->b∈fs->b∉ex->∃sl,h'.R b=Z {o with slots:=sl}
 free:∀b o,h.R b=Z o->H b=J->b∉ex->H' b=J
 there:∀b o,h.R b=Z o->b∉ex->∃o',h'.R b=Z o'
 tups:∀b xs,H b=Z (.X xs)->H' b=Z (.X xs)
 frzs:∀b o u,H b=Z (.frz o u)->H' b=Z (.frz o u)
 tbls:∀b ps,H b=Z (.tbl ps)->∃more,H' b=Z (.tbl (ps++more))
section
variable{fs ex:U Ac}{H H1:Hp}{h h1 h':Al}{x e:Ac}{o:HO}
theorem Un.any(u:Un fs ex H H1 h h1){b:Ac}{a:Obj}(q:h.R b=Z a)(n:H b=J)(c:b∉ex):∃e,h1.R b=Z {a with slots:=e}:=by
 by_cases d:b∈fs
 .show u.ϕ b a q n d c
 .show#[a.slots,u.keep b a q n d c]
theorem Un.kept(k:∀b u,h.R b=Z u->h'.R b=Z u):Un fs ex H H h h':=#[λb a q _ _ _=>k b a q,λb a q _ _ _=>#[a.slots,k b a q],λ_ _ _ n _=>n,λb a q _=>#[a,k b a q],λ_ _ q=>q,λ_ _ _ q=>q,λ_ c q=>#[(T' []),by rw[q];simp]]
theorem Un.refl:Un fs ex H H h h:=Un.ϱ λ_ _ q=>q
theorem Un.laid(k:∀b u,h.R b=Z u->h'.R b=Z u)(d:h.J.o<=a)(c:H a=J):Un fs ex H (AK H a o) h h' where
 keep:=λb u q _ _ _=>k b u q;slot:=λb u q _ _ _=>#[u.slots,k b u q];free:=λb u q n _=>Zl (Cf<|B3 (BN q) d) ▸ n;there:=λb u q _=>#[u,k b u q];tups:=λb e q=>Zl (Z6 q c) ▸ q;frzs:=λb u e q=>Zl (Z6 q c) ▸ q;tbls:=λb f q=>#[(T' []),by rw[Zl<|Z6 q c,q];simp]
theorem Un.write(a:ND (H x))(l:e=x\/H e=Z (.Κ x))(k:∀b u,b≠e->h.R b=Z u->h'.R b=Z u)(f:∃u,h'.R e=Z u):Un fs ex H (AK H x o) h h':=by
 let g:∀b,H b=J->b≠x:=λb n z=>by subst z;rw[n]at a;show a
 let d:∀b,H b=J->b≠e:=λb n z=>by
  simp_all
 let c:∀b u,H b=Z u->¬ ND (Z u)->b≠x:=λb u q i z=>by subst z;rw[q]at a;show i a
 apply#[λb u q n _ _=>k b u (d b n) q,λb u q n _ _=>#[u.slots,k b u (d b n) q],λb u q n _=>Zl (g b n) ▸ n,λb u q _=>?_,
  λb j q=>Zl (c b _ q λz=>z) ▸ q,λb u j q=>Zl (c b _ q λz=>z) ▸ q,λb m q=>#[(T' []),by rw[Zl<|c b _ q λz=>z,q];simp]]
 grind
end
def PU(h:Al)(H:Hp):U Ac:=(BI h.J.o).ϯ λa=>(H a).Ζ
def K3(h:Al)(H:Hp):Al:=PySem.W.hideAll h (PU h H)
theorem nq(h:Al)(H:Hp):(K3 h H).J.o=h.J.o:=PySem.W.hideAll_size _ _
theorem Ya{h:Al}{H:Hp}{b:Ac}{o:Obj}(e:h.R b=Z o)(n:H b=J):(K3 h H).R b=Z o:=PySem.W.hideAll_get _ e λa=>by
  let q:(H b).Ζ=J':=(K4.mp a).2;simp_all
theorem nr{h:Al}{H:Hp}{b:Ac}{o:Obj}(e:(K3 h H).R b=Z o):h.R b=Z o/\H b=J:=by
 apply#[(PySem.W.of_hideAll (PU h H) e),?_];cases q:H b with|none=>rfl|some x=>
  let z:(K3 h H).R b=J:=PySem.W.hideAll_none (PU h H)<|K4.ϡ ⟨EY.ϡ<|BN<|PySem.W.of_hideAll (PU h H) e,by simp[q]⟩;simp_all
def nu(g h:Al)(L:Ac):AZ:=(BI h.J.o).g7 λa=>if a=L\/(g.R a).Ζ=J' then J else(h.R a).j λo=>(a,o)
def AW(g h:Al)(L d:Ac):AZ:=(nu g h L).ϯ λp=>decide (p.1≠d)
structure Mod(K:Ap)(mg:Bz)(base:Al):Prop where
 kin:K.In base
 glob:base.Ns CZ mg
 blt:∃mb,base.Ns builtinsNs mb/\∀x:Af,x≠"__name__"->mb x=Fp x
 nolimit:base.NoLimit
structure Cx where
 prog:AM
 w:Aj
 K:Ap
 mg:Bz
 base:Al
 A:Ag
 N:List Af
 s₀:Ab
 H₀:Hp
 env:Env
 outer:List Env
 stack:List Env
 ex:List Ac
 fn:Af->Bool
 calm:Bool
 pn:AZ
 xe:AR
variable{X Y:Cx}
def E9(l:U Env):U Ac:=l.g7 (·.frame)
abbrev Cx.fs(X:Cx):U Ac:=E9 X.outer
def PV(a:Scope)(x:Af):Prop:=a.υ.S x=Z .Ϡ\/a.υ.S x=Z .Ν\/a.υ.S x=Z .ύ
def Loc(a:Scope)(x:Af):Prop:=a.υ.S x=Z .Ϡ\/a.υ.S x=Z .Ν
def nv(env:Env)(h:Al)(m:Bz)(x:Af)(u:Aa):Prop:=
 (env.kindOf x=Z .Ϡ/\m x=Z u)\/((env.kindOf x=Z .Ν\/env.kindOf x=Z .ύ)/\∃c,env.Ϥ.S x=Z c/\h.IsCell c (Z u))
structure Cx.Ok(X:Cx):Prop where
 mod:Mod X.K X.mg X.χ
 kind:X.G.Ξ.ϳ=.Ϻ
 glob:X.G.globals=CZ
 blt:X.G.builtins=builtinsNs
 above:X.s₀.u.J.o<=X.G.ϖ
 inj:∀x y c,X.G.Ϥ.S x=Z c->X.G.Ϥ.S y=Z c->x=y
 has:∀x,(X.G.kindOf x=Z .Ν\/X.G.kindOf x=Z .ύ)->∃c,X.G.Ϥ.S x=Z c
 cab:∀x c,X.fn x=J'->X.G.Ϥ.S x=Z c->X.s₀.u.J.o<=c
 hd:X.ϵ=J'->X.A.ϣ=J
 frames:X.A.frames=Z X.ϟ
 stk:X.ϟ=X.outer\/(X.ϟ=X.G::X.outer/\X.G.frame=Z X.G.ϖ)
 exf:∀b∈X.ex,b≠X.G.ϖ/\∀x c,X.G.Ϥ.S x=Z c->c≠b
 bs:∀b o,X.χ.R b=Z o->X.s₀.u.R b=Z o/\X.H₀ b=J
 bsz:X.χ.J.o<=X.s₀.u.J.o
 noex:∀b o,X.χ.R b=Z o->b∉X.ex
 exfs:∀b∈X.ex,b∉X.fs
 funs:X.s₀.u.FunFrames X.χ X.outer
 frf:∀b∈X.fs,X.H₀ b=J
structure Inv(X:Cx)(pins:AZ)(I:List (Option V))(H:Hp)(s:Ab):Prop where
 ok:X.Ok
 os:s.os=X.s₀.os
 bare:AllBare s.gens
 base:Un X.fs X.ex X.H₀ H X.s₀.u s.u
 loc:∃m,s.u.Ns X.G.ϖ m/\∀(i:Nat) (x:Af) (v:V),X.N[i]?=Z x->I[i]?=Z (Z v)->PV X.G.Ξ x->∃u,RelV v u/\nv X.G s.u m x u
 cell:∀x c,X.G.Ϥ.S x=Z c->∃v,s.u.IsCell c v
 free:H X.G.ϖ=J
 freeC:∀x c,X.G.Ϥ.S x=Z c->H c=J
 pin:∀p∈X.pn++pins,s.u.R p.1=Z p.2/\H p.1=J/\p.1≠X.G.ϖ/\p.1∉X.fs/\∀v,p.2.data≠.Ν v
 hok:CL X.β X.w H s.u
 len:I.a=X.N.a
section
variable{I:U (O V)}{H:Hp}{s:Ab}{h':Al}
theorem Cx.Ok.nofr(ok:X.Ok){b:Ac}{o:Obj}(e:X.χ.R b=Z o):b∉X.fs:=λa=>by
 have:=(ok.funs.mem a).1;simp_all
theorem Inv.bs(a:Inv X pins I H s):∀b o,X.χ.R b=Z o->s.u.R b=Z o/\H b=J:=λb o e=>#[a.χ.keep b o (a.ok.bs b o e).1 (a.ok.bs b o e).2 (a.ok.nofr e)<|a.ok.noex b o e,a.χ.ύ b o (a.ok.bs b o e).1 (a.ok.bs b o e).2<|a.ok.noex b o e]
theorem Inv.bk(a:Inv X pins I H s):∀b o,X.χ.R b=Z o->s.u.R b=Z o:=λb o e=>(a.bs b o e).1
theorem Inv.mod(a:Inv X pins I H s):Mod X.K X.mg X.χ:=a.ok.mod
theorem Inv.kIn(a:Inv X pins I H s):X.K.In s.u:=a.ok.mod.kin.keeps a.bk
theorem Inv.lt(b:Inv X pins I H s):X.G.ϖ<s.u.J.o:=let⟨_,a,_⟩:=b.loc;a.lt
theorem Inv.sz(a:Inv X pins I H s):X.s₀.u.J.o<=s.u.J.o:=Bv a.ok.above<|F8 a.lt
theorem Inv.nofs(d:Inv X pins I H s)(h:s.u.J.o<=a):a∉X.fs:=λb=>by
 let(_,o,c,_):=d.ok.funs.mem b;show absurd (B3 (BN c)<|Bv d.sz h)<|Hw _
theorem Inv.cne(i:Inv X pins I H s):∀x c,X.G.Ϥ.S x=Z c->c≠X.G.ϖ:=λx c e z=>by
 let(v,o,d,hd):=i.Ν x c e;let(m,(f,g,h,a,b,_),_):=i.loc;simp_all
theorem Inv.funs(n:Inv X pins I H s):s.u.FunFrames X.χ X.outer:=by
 let all:∀(l:U Env),(∀b∈E9 l,b∈X.fs)->X.s₀.u.FunFrames X.χ l->s.u.FunFrames X.χ l:=by
  intro l;induction l with|nil=>intro _ _;trivial|cons env r g=>
   intro f zQ;let(h,(L,o,a,i,j,hd),k):=zQ;let c:L∈X.fs:=f L (by unfold E9;rw[List.filterMap_cons,a];show Bh);let(m,e):=n.χ.ϕ L o j (n.ok.frf L c) c λz=>n.ok.exfs L z c;show#[h,#[L,_,a,i,e,hd],g (λb d=>f b (by unfold E9;rw[List.filterMap_cons,a];show Bl _ d)) k]
 show all X.outer (λ_ d=>d) n.ok.funs
theorem Inv.stack(c:Inv X pins I H s):s.u.FunFrames X.χ X.ϟ:=by
 rcases c.ok.stk with e|⟨e,a⟩
 .rw[e];show c.funs
 .rw[e];let(m,b,_):=c.loc;show .Θ (by rw[c.ok.ϳ];decide) a b (Heap.get?_none_of_le<|Bv c.ok.bsz c.ok.above) c.funs
theorem Inv.stkSub(d:Inv X pins I H s):∀b∈E9 X.ϟ,b∈X.G.ϖ::X.fs:=λb a=>by
 rcases d.ok.stk with e|⟨e,c⟩
 .rw[e]at a;show Bl _ a
 .rw[e]at a;unfold E9 at a;rw[List.filterMap_cons,c]at a;show a
theorem Inv.stkFree(d:Inv X pins I H s):∀b∈E9 X.ϟ,H b=J:=λb a=>by
 rcases Bx.mp (d.stkSub b a)with e|a
 .rw[e];show d.ύ
 .let(_,o,c,_):=d.ok.funs.mem a;show d.χ.ύ b o c (d.ok.frf b a) λz=>d.ok.exfs b z a
theorem Inv.step(R:Inv X pins I H s) (f:∀b∈ch,(b∈X.ex\/X.s₀.u.J.o<=b)/\b≠X.G.ϖ/\(∀x c,X.G.Ϥ.S x=Z c->c≠b)/\∀p∈X.pn++pins,p.1≠b) (keep:∀b o,b≠X.G.ϖ->b∉X.fs->b∉ch->s.u.R b=Z o->H b=J->h'.R b=Z o) (slot:∀b o,b≠X.G.ϖ->b∈X.fs->b∉ch->s.u.R b=Z o->H b=J->∃F,h'.R b=Z {o with slots:=F}) (free:∀b o,b∉ch->s.u.R b=Z o->H b=J->H' b=J) (there:∀b o,b∉ch->s.u.R b=Z o->∃B,h'.R b=Z B) (tups:∀b xs,H b=Z (.X xs)->H' b=Z (.X xs)) (frzs:∀b o u,H b=Z (.frz o u)->H' b=Z (.frz o u)) (tbls:∀b G,H b=Z (.tbl G)->∃C,H' b=Z (.tbl (G++C))) (ns:∀m,s.u.Ns X.G.ϖ m->h'.Ns X.G.ϖ m) (hok:CL X.β X.w H' h') (K:AllBare g'):Inv X pins I H' {s with heap:=h',gens:=g',drawn:=d',toks:=t' }:=by
 let j:∀b o,X.s₀.u.R b=Z o->b∉X.ex->b∉ch:=λb o e a y=>by
  rcases(f b y).1 with z|z
  .show a z
  .show absurd (B3 (BN e) z)<|Hw _
 let g:∀x c,X.G.Ϥ.S x=Z c->∀v,s.u.IsCell c v->h'.IsCell c v:=λx c e v ⟨o,A,hd⟩=>by
  let h:c∉ch:=λz=>(f c z).2.2.1 x c e rfl;by_cases M:c∈X.fs
  .let(F,q):=slot c o (R.cne x c e) M h A<|R.freeC x c e;show⟨_,q,hd⟩
  .show#[o,keep c o (R.cne x c e) M h A<|R.freeC x c e,hd]
 apply#[R.ok,R.os,K,#[λb o e n y a=>?_,λb o e n y a=>?_,λb o e n a=>?_,λb o e a=>?_,λb xs e=>tups b xs<|R.base.tups b xs e,λb o xs e=>frzs b o xs<|R.base.frzs b o xs e,λb G e=>?_],?_,λx c e=>?_,?_,λx c e=>?_,λp N=>?_,hok,R.ϩ]
 .show keep b o ((λb o e=>Cf<|B3 (BN e) R.ok.above) b o e) y (j b o e a) (R.χ.keep b o e n y a) (R.χ.ύ b o e n a)
 .let(F,t):=R.χ.ϕ b o e n y a;let(L,E):=slot b _ ((λb o e=>Cf<|B3 (BN e) R.ok.above) b o e) y (j b o e a) t (R.χ.ύ b o e n a);show⟨L,E⟩
 .let(B,t):=R.χ.there b o e a;show free b B (j b o e a) t<|R.χ.ύ b o e n a
 .let(B,t):=R.χ.there b o e a;show there b B (j b o e a) t
 .let(m1,t):=R.χ.tbls b G e;let(m2,E):=tbls b _ t;show#[m1++m2,by rw[E,Array.append_assoc]]
 .let(m,Q,T):=R.loc;apply#[m,ns m Q,λi x v t E P=>?_];let(u,r,l):=T i x v t E P;apply#[u,r,?_];rcases l with l|⟨k,c,e,z⟩
  .show .Q l
  .show .σ #[k,c,e,g x c e _ z]
 .let(v,z):=R.Ν x c e;show#[v,g x c e v z]
 .let(m,(o,_,_,A,_),_):=R.loc;show free _ o (λz=>(f _ z).2.1 rfl) A R.ύ
 .let(v,o,A,hd):=R.Ν x c e;show free c o (λz=>(f c z).2.2.1 x c e rfl) A (R.freeC x c e)
 .let(e,n,ne,nf,d):=R.pin p N;let h:p.1∉ch:=λz=>(f p.1 z).2.2.2 p N rfl;show#[keep p.1 p.2 ne nf h e n,free p.1 p.2 h e n,ne,nf,d]
theorem Inv.un(q:Inv X pins I H s)(u:Un X.fs [] H H' s.u h')(hok:CL X.β X.w H' h'):Inv X pins I H' {s with heap:=h',toks:=t' }:=by
 let(m,(o,k,l,g,r),_):=id q.loc;let(p,h):=u.any g q.ύ (by simp);show q.Τ (g':=s.gens) (d':=s.drawn) (ch:=[]) (λ_ z=>nomatch z) (λb o _ c _ e n=>u.keep b o e n c (by simp)) (λb o _ c _ e n=>u.ϕ b o e n c (by simp)) (λb o _ e n=>u.ύ b o e n (by simp)) (λb o _ e=>u.there b o e (by simp)) u.tups u.frzs u.tbls (λx i=>by
  let(y,d,f,a,j):=i;rw[g]at a;cases a;show#[_,d,f,h,j]) hok q.bare
theorem Inv.call(E:Inv X pins I H s)(u:Un (E9 X.ϟ) ch H H' s.u h')(hok:CL X.β X.w H' h')(k:AllBare g') (d:∀b∈ch,(b∈X.ex\/X.s₀.u.J.o<=b)/\b≠X.G.ϖ/\(∀x c,X.G.Ϥ.S x=Z c->c≠b)/\∀p∈X.pn++pins,p.1≠b):Inv X pins I H' {s with heap:=h',gens:=g',drawn:=d',toks:=t' }:=by
 let(m,(o,v,y,j,r),_):=id E.loc;let(A,g):=u.any j E.ύ λz=>(d _ z).2.1 rfl;show E.Τ (ch:=ch) d (λb o g l a e n=>u.keep b o e n (λz=>(Bx.mp<|E.stkSub b z).elim g l) a) (λb o _ _ a e n=>u.any e n a) (λb o a e n=>u.ύ b o e n a) (λb o a e=>u.there b o e a) u.tups u.frzs u.tbls (λB q=>by
  let(C,h,i,f,t):=q;rw[j]at f;cases f;show#[_,h,i,g,t]) hok k
theorem Inv.turned{it:Ac}(B:Inv X pins I H s)(k:∀b o,b≠it->s.u.R b=Z o->h'.R b=Z o)(g:H it=J)(f:it≠X.G.ϖ) (h:it∈X.ex\/X.s₀.u.J.o<=it) (i:∀x c,X.G.Ϥ.S x=Z c->c≠it) (j:∀p∈X.pn++pins,p.1≠it):Inv X pins I H {s with heap:=h',toks:=t' }:=by
 let d:∀b u,H b=Z u->b≠it:=λb u e z=>by rw[z,g]at e;cases e
 apply B.Τ (g':=s.gens) (d':=s.drawn) (ch:=[it]) (λb l=>?_) (λb o _ _ a e _=>k b o (λz=>a (by simp[z])) e) (λb o _ _ a e _=>#[o.slots,k b o (λz=>a (by simp[z])) e]) (λ_ _ _ _ n=>n)
  (λb o a e=>#[o,k b o (λz=>a (by simp[z])) e]) (λ_ _ e=>e) (λ_ _ _ e=>e) (λb G e=>#[(T' []),by rw[e];simp]) (λm t=>?_) (λb u e=>?_) B.bare
 .let e:b=it:=by exists l
  subst e;show#[h,f,i,j]
 .let(o,w,y,A,r):=t;show#[o,w,y,k _ o (BM f) A,r]
 .refine(B.Ϫ b u e).stay (λc v a q=>k c v ?_ q) (λ_ q=>q) λ_ _ q=>q;rcases a with z|z
  .rw[z];show d b u e
  .show d c _ z
theorem Inv.tok(a:Inv X pins I H s)(t:Nat):Inv X pins I H {s with toks:=t}:=a.un (h':=s.u) (t':=t) Un.ω a.Ϫ
theorem Inv.kept(a:Inv X pins I H s)(k:∀b u,s.u.R b=Z u->h'.R b=Z u):Inv X pins I H {s with heap:=h',toks:=t' }:=a.un (Un.ϱ k) (a.Ϫ.ϱ k)
theorem Inv.laid{o:HO}(d:Inv X pins I H s)(k:∀b u,s.u.R b=Z u->h'.R b=Z u)(c:s.u.J.o<=a)(new:Bc X.β X.w (AK H a o) h' a o):Inv X pins I (AK H a o) {s with heap:=h',toks:=t' }:=d.un (Un.laid k c (d.Ϫ.Ψ c)) (d.Ϫ.laid k c new)
theorem Inv.write{x e:Ac}{o:HO}(f:Inv X pins I H s)(c:ND (H x))(d:e=x\/H e=Z (.Κ x))(k:∀b u,b≠e->s.u.R b=Z u->h'.R b=Z u)(a:∃u,h'.R e=Z u) (new:Bc X.β X.w (AK H x o) h' x o):Inv X pins I (AK H x o) {s with heap:=h',toks:=t' }:=f.un (Un.write c d k a) (f.Ϫ.write c d k a new)
theorem Inv.weak{a:U (O V)}(h:Inv X pins I H s)(c:a.a=I.a)(w:∀(i:Nat) v,a[i]?=Z (Z v)->I[i]?=Z (Z v)):Inv X pins a H s:=#[h.ok,h.os,h.bare,h.χ,let⟨m,d,b⟩:=h.loc;#[m,d,λi x v e f g=>b i x v e (w i v f) g],h.Ν,h.ύ,h.freeC,h.pin,h.Ϫ,c.E h.ϩ]
theorem Inv.pins_of{a:AZ}(c:Inv X pins I H s)(h:∀p∈a,s.u.R p.1=Z p.2/\H p.1=J/\p.1≠X.G.ϖ/\p.1∉X.fs/\∀v,p.2.data≠.Ν v):Inv X a I H s:=#[c.ok,c.os,c.bare,c.χ,c.loc,c.Ν,c.ύ,c.freeC,λp b=>(Cn.mp b).Η (λz=>c.pin p<|J0 _ z) (h p),c.Ϫ,c.ϩ]
theorem Yb{N:U Af}(c:N.η){i:Nat}{x:Af}(a:N[i]?=Z x)(b:N[j]?=Z x):i=j:=by
 let(f,d):=Cr.mp a;let(g,e):=Cr.mp b;show(List.getElem_inj c).mp<|d.E e.τ
theorem Yc{M:Model}{A:Ag}{i:Nat}{x:Af}{v:V}(R:Inv X pins I H s)(hN:X.N.η)(P:X.N[i]?=Z x)(t:Loc X.G.Ξ x)(r:RelV v u) (h:∀s',Inv X pins (I.ν i (Z v)) H s'->(∃a,Ee a s.u s'.u/\(a=X.G.ϖ\/X.G.Ϥ.S x=Z a))->Q () s') (hf:X.fn x=J'\/X.G.Ξ.υ.S x=Z .Ϡ:=by ac_rfl):wpAny M A (storeName X.G x u) Q E s:=by
 let(m,hn,hl):=id R.loc;let G:i<I.a:=R.ϩ ▸ (Cr.mp P).1;let g:∀{a:Ac} {h':Al},(∃o,s.u.R a=Z o/\H a=J)->Ee a s.u h'->CL X.β X.w H h':=λ{a h'} ha f b ob e=>by
  let(_,_,hfree):=ha;refine(R.Ϫ b ob e).stay (λc w' B q=>(f.2 c ?_).E q) (λ_ q=>q) λ_ _ q=>q;grind
 rcases t with F|F
 .apply wpAny_storeName_local F hn (λh' hn' f=>?_) (show(X.G.Ξ.ϳ==.class||(X.env.scope.kind==.module&&X.env.locals != X.env.globals))=O' by rw[R.ok.kind];rfl);let(oL,_,_,hoL,_):=id hn;apply h _ #[R.ok,R.os,R.bare,#[λb o e n L t=>?_,λb o e n L t=>?_,R.χ.ύ,λb o e t=>?_,R.χ.tups,R.χ.frzs,R.χ.tbls],#[_,hn',λj y v' l C e3=>?_],λy c e=>?_,R.ύ,R.freeC,λp hp=>?_,g #[oL,hoL,R.ύ] f,by exists R.ϩ] #[_,f,.Q rfl]
  .show(f.2 b<|Cf<|B3 (BN e) R.ok.above).E<|R.χ.keep b o e n L t
  .let(sl,l):=R.χ.ϕ b o e n L t;show#[sl,(f.2 b<|Cf<|B3 (BN e) R.ok.above).E l]
  .let(o',l):=R.χ.there b o e t;show#[o',(f.2 b<|Cf<|B3 (BN e) R.ok.above).E l]
  .by_cases K:j=i
   .subst K;rw[P]at l;cases l;rw[Fa G]at C;cases C;show#[u,r,.Q #[F,by simp]]
   .rw[DR<|BM K]at C;let(u',r',q):=hl j y v' l C e3;apply#[u',r',?_];rcases q with⟨k,e⟩|⟨k,c,e,z⟩
    .apply .Q #[k,?_];have:y≠x:=λe=>K<|Yb hN l<|e ▸ P;simp[this,e]
    .show .σ #[k,c,e,z.sameBut f<|R.cne y c e]
  .let(w',z):=R.Ν y c e;show#[w',z.sameBut f<|R.cne y c e]
  .let(e,n,ne,nf,d):=R.pin p hp;show#[(f.2 p.1 ne).E e,n,ne,nf,d]
 .let T:X.fn x=J':=by
   rcases hf with z|z
   .show z
   .rw[z]at F;cases F
  let(c,B):=R.ok.has x<|.inl F;let(w',z):=R.cell x c B;apply wpAny_storeName_cell R.ok.kind F B z<|λh' Y f=>?_;let(oc,hoc,hocd):=id z;apply h {s with heap:=h' } #[R.ok,R.os,R.bare,#[λb o e n L t=>?_,λb o e n L t=>?_,R.χ.ύ,λb o e t=>?_,R.χ.tups,R.χ.frzs,R.χ.tbls],#[m,hn.sameBut f (BM (R.cne x c B)),λj y v' l C e3=>?_],λy c' e=>?_,R.ύ,R.freeC,λp hp=>?_,g #[oc,hoc,R.freeC x c B] f,by exists R.ϩ] #[c,f,.σ B]
  .show(f.2 b<|Cf<|B3 (BN e)<|R.ok.cab x c T B).E<|R.χ.keep b o e n L t
  .let(sl,l):=R.χ.ϕ b o e n L t;show#[sl,(f.2 b<|Cf<|B3 (BN e)<|R.ok.cab x c T B).E l]
  .let(o',l):=R.χ.there b o e t;show#[o',(f.2 b<|Cf<|B3 (BN e)<|R.ok.cab x c T B).E l]
  .by_cases K:j=i
   .subst K;rw[P]at l;cases l;rw[Fa G]at C;cases C;show#[u,r,.σ #[.Q F,c,B,Y]]
   .rw[DR<|BM K]at C;let(u',r',q):=hl j y v' l C e3;apply#[u',r',?_];rcases q with q|⟨k,c',e,z'⟩
    .show .Q q
    .apply .σ #[k,c',e,z'.sameBut f ?_];rintro rfl;show K<|Yb hN l<|R.ok.inj _ _ _ e B ▸ P
  .by_cases hcc:c'=c
   .subst hcc;show#[_,Y]
   .let(w2,z2):=R.Ν y c' e;show#[w2,z2.sameBut f hcc]
  .let(e,n,ne,nf,d):=R.pin p hp;apply#[(f.2 p.1 ?_).E e,n,ne,nf,d];grind
theorem Yd{M:Model}{A:Ag}{i:Nat}{x:Af}{v:V}(g:Inv X pins I H s)(b:X.N.η)(c:X.N[i]?=Z x)(d:Loc X.G.Ξ x)(r:RelV v u) (h:∀a,Inv X pins (I.ν i (Z v)) H a->Q () a) (e:X.fn x=J'\/X.G.Ξ.υ.S x=Z .Ϡ:=by ac_rfl):wpAny M A (storeName X.env x u) Q E s:=Yc g b c d r (λa f _=>h a f) e
theorem Inv.call'{a:Ab}(k:Inv X pins I H s)(h:a.os=s.os)(u:Un (E9 X.ϟ) ch H H' s.u a.u)(hok:CL X.β X.w H' a.u)(i:AllBare a.gens) (d:∀b∈ch,(b∈X.ex\/X.s₀.u.J.o<=b)/\b≠X.G.ϖ/\(∀x c,X.G.Ϥ.S x=Z c->c≠b)/\∀p∈X.pn++pins,p.1≠b):Inv X pins I H' a:=by
 let(h',e,f,g,j):=a;subst h;show k.call (g':=e) (t':=g) (d':=f) u hok i d
end
abbrev XK:=Aa->O Ac->Hp->Prop
abbrev St:=U (O V)
variable{I:St}
abbrev VK:=V->Hp->Prop
abbrev TE:=St->Hp->VK->Prop
variable{ta tb te:TE}
abbrev TT:=St->Hp->(Bool->Hp->Prop)->Prop
abbrev TA:=St->Hp->(U V->Hp->Prop)->Prop
structure Ends where
 nx:St->Hp->Prop
 rt:VK
 bk:St->Hp->Prop:=λ_ _=>False
 ct:St->Hp->Prop:=λ_ _=>False
variable{D':Ends}
abbrev TS:=Ends->St->Hp->Prop
def EP(X:Cx)(a:AZ)(I:St)(Q:VK)(u:Aa)(c:Ab):Prop:=∃v b,Inv X a I b c/\RelV v u/\Q v b
def TP(X:Cx)(a:AZ)(I:St)(Q:Bool->Hp->Prop)(b:Bool)(d:Ab):Prop:=∃c,Inv X a I c d/\Q b c
def AP(X:Cx)(a:AZ)(I:St)(Q:U V->Hp->Prop)(us:U Aa)(d:Ab):Prop:=∃b c,Inv X a I c d/\Aq b us/\Q b c
def SP(X:Cx)(b:AZ)(D:Ends)(f:Flow)(d:Ab):Prop:=
 match f with
 |.next=>∃a c,Inv X b a c d/\D.nx a c
 |.brk=>∃a c,Inv X b a c d/\D.bk a c
 |.cont=>∃a c,Inv X b a c d/\D.ct a c
 |.ret u=>∃v a c,Inv X b a c d/\RelV v u/\D.rt v c
def PE(X:Cx)(e:Expr)(t:TE):Prop:=
 ∀(a:AZ) (s:Ab) (b:St) (H:Hp) (Q:VK),Inv X a b H s->t b H Q->wpAny (Ae X.β X.w) X.A (Ar e X.G) (EP X a b Q) X.xe s
def PT(X:Cx)(e:Expr)(t:TT):Prop:=
 ∀(a:AZ) (s:Ab) (b:St) (H:Hp) (Q:Bool->Hp->Prop),Inv X a b H s->t b H Q->wpAny (Ae X.β X.w) X.A (isTrue e X.G (Ar e X.G)) (TP X a b Q) X.xe s
def PW(X:Cx)(e:Expr)(t:TT):Prop:=
 ∀(b:BP Aa) (a:AZ) (s:Ab) (c:St) (H:Hp) (Q:Bool->Hp->Prop),Inv X a c H s->t c H Q->wpAny (Ae X.β X.w) X.A (isTrue e X.G b) (TP X a c Q) X.xe s
theorem PW.pt{e:Expr}{t:TT}(h:PW X e t):PT X e t:=h _
def PA(X:Cx)(es:U Expr)(t:TA):Prop:=
 ∀(b:AB) (a:AZ) (s:Ab) (c:St) (H:Hp) (Q:U V->Hp->Prop),Inv X a c H s->t c H Q->wpAny (Ae X.β X.w) X.A (spliced (AD b (AJ es X.G))) (AP X a c Q) X.xe s
def PS(X:Cx)(st:AF)(t:TS):Prop:=
 ∀(a:AZ) (s:Ab) (b:St) (H:Hp) (D:Ends),Inv X a b H s->t D b H->wpAny (Ae X.β X.w) X.A (exec st X.G) (SP X a D) X.xe s
def EZ(X:Cx)(st:U AF)(t:TS):Prop:=
 ∀(a:AZ) (s:Ab) (b:St) (H:Hp) (D:Ends),Inv X a b H s->t D b H->wpAny (Ae X.β X.w) X.A (execs st X.G) (SP X a D) X.xe s
theorem A1{b:Type}{t:BP b}{Q c:b->Ab->Prop}{M:Model}{A:Ag}{s:Ab}(h:wpAny M A t Q E s)(d:∀a s,Q a s->c a s):wpAny M A t c E s:=wpAny_mono h d λ_ _ x=>x
section
def Ye(i:Nat):TE:=λa H Q=>∃v,a[i]?=Z (Z v)/\Q v H
def tC(v:V):TE:=λ_ H Q=>Q v H
theorem ny{i:Nat}{x:Af}(j:X.N[i]?=Z x)(k:PV X.G.Ξ x)(hd:Ed x:=by ext)(d:(x==("__classdict__":Af))=O':=by ext):PE X (.ε x pos) (Ye i):=by
 intro f s q H Q t h;let(v,e,h):=h;let(m,n,o):=t.loc;let(u,r,l):=o i x v j e k;rcases l with⟨b,p⟩|⟨b,c,g,a⟩
 .show wpAny_Name (wpAny_loadName_local t.ok.ϳ b n p #[v,H,t,r,h]) hd
 .rcases b with b|b
  .show wpAny_Name (wpAny_loadName_cell t.ok.ϳ b g a #[v,H,t,r,h]) hd
  .show wpAny_Name (wpAny_loadName_free t.ok.ϳ b g a #[v,H,t,r,h] d) hd
theorem nz {i j pos}:PE X (.ϒ (.r i) j pos) (tC (.r i)):=λ_ _ _ H _ a h=>wpAny_Constant_int #[.r i,H,a.tok _,#[_,rfl],h]
theorem nA {b j pos}:PE X (.ϒ (.ϥ b) j pos) (tC (.bl b)):=λ_ _ _ H _ a h=>Constant_bool #[.bl b,H,a,rfl,h]
theorem nB {j pos}:PE X (.ϒ .Δ j pos) (tC .Α):=λ_ _ _ H _ a h=>Constant_none #[.Α,H,a,rfl,h]
theorem nC {x j pos}:PE X (.ϒ (.ψ x) j pos) (tC (.ψ x)):=λ_ _ _ H _ a h=>Calls.Constant_str #[.ψ x,H,a.tok _,#[_,rfl],h]
def Gl(X:Cx)(x:Af):Prop:=X.G.kindOf x=Z .globalImplicit
theorem Te{a:AZ}{s:Ab}{H:Hp}{x:Af}{Q:AR}(d:Inv X a I H s)(b:Gl X x)(c:X.mg x=Z u)(h:Q u s) (hd:Ed x:=by ext):wpAny (Ae X.β X.w) X.A (Ar (.ε x pos) X.G) Q E s:=Calls.Name_function_global d.ok.ϳ b (Calls.loadGlobal_global (d.ok.glob ▸ d.mod.glob.keeps d.bk) c h) hd
theorem Il{a:AZ}{s:Ab}{H:Hp}{x:Af}{Q:AR}(i:Inv X a I H s)(b:Gl X x)(c:X.mg x=J)(d:Fp x=Z u)(h:Q u s) (e:x≠"__name__":=by ext) (hd:Ed x:=by ext):wpAny (Ae X.β X.w) X.A (Ar (.ε x pos) X.G) Q E s:=by
 let(mb,f,g):=i.mod.blt;show Calls.Name_function_global i.ok.ϳ b (Calls.loadGlobal_builtin (i.ok.glob ▸ i.mod.glob.keeps i.bk) c (i.ok.blt ▸ f.keeps i.bk) ((g x e).E d) h) hd
theorem Yf{x:Af}{v:V}(a:Gl X x)(b:X.mg x=Z u)(r:RelV v u)(hd:Ed x:=by ext):PE X (.ε x pos) (tC v):=λ_ _ _ H _ c h=>Te c a b #[v,H,c,r,h] hd
theorem nE{x:Af}{v:V}(a:Gl X x)(b:X.mg x=J)(c:Fp x=Z u)(r:RelV v u)(d:x≠"__name__":=by ext)(hd:Ed x:=by ext):PE X (.ε x pos) (tC v):=λ_ _ _ H _ e h=>Il e a b c #[v,H,e,r,h] d hd
variable{a b:Expr}
def PC(X:Cx)(op:CmpOp)(a b:Expr)(t:TE):Prop:=
 ∀(c:AZ) (s:Ab) (f:St) (H:Hp) (Q:VK),Inv X c f H s->t f H Q ->
  wpAny (Ae X.β X.w) X.A (Ar a X.G) (λv d=>wpAny (Ae X.β X.w) X.A (Ar b X.G) (λu e=>wpAny (Ae X.β X.w) X.A (DT op v u) (EP X c f Q) X.xe e) X.xe d) X.xe s
theorem Hx(b:Expr){op:CmpOp}(h:op≠.In)(a:op≠.NotIn):Hy op b=O':=by
 cases b with
 |Set _ k _=>
  show(k==0&&(op==.In||op==.NotIn)&&_)=O'
  rw[beq_false_of_ne h,beq_false_of_ne a];simp
 |_=>rfl
def nG(ta:TE):TE:=λa H Q=>ta a H λx b=>Q (.bl (decide (x=.Α))) b
def nH(ta:TE):TE:=λa H Q=>ta a H λx b=>Q (.bl (!decide (x=.Α))) b
theorem RelV.none_iff{x:V}{v:Aa}(r:RelV x v):(v==Value.Δ)=decide (x=.Α):=by
 cases x with
 |non=>cases r;rfl
 |bl _=>cases r;rfl
 |int _=>let(t,rfl):=r;rfl
 |str _=>let(t,rfl):=r;rfl
 |ref _=>cases r;rfl
 |ty _=>cases r;rfl
theorem Yg {j b} (d:PE X a ta):PC X .Is a (.ϒ .Δ j b) (nG ta):=by
 intro c s e H Q n h;apply A1 (d c s e H _ n h) λv m f=>?_;let(x,g,i,k,l):=f;show Constant_none<|is_none_gen ⟨.bl _,g,i,by rw[k.none_iff];rfl,l⟩
theorem Yh {j b} (d:PE X a ta):PC X .IsNot a (.ϒ .Δ j b) (nH ta):=by
 intro c s e H Q n h;apply A1 (d c s e H _ n h) λv m f=>?_;let(x,g,i,k,l):=f;show Constant_none<|isnot_none_gen ⟨.bl _,g,i,by rw[k.none_iff];rfl,l⟩
def tB(t:TE):TT:=λa H Q=>t a H λx b=>∃c,x=.bl c/\Q c b
theorem Yi{op:CmpOp}{t:TE}(h:PC X op a b t)(d:Hy op b=O':=by ac_rfl):PE X (.Compare a [op] [b] pos) t:=λc s e H Q g f=>wpAny_Compare1 (h c s e H Q g f) d
theorem Yj{op:CmpOp}{t:TE}(h:PC X op a b t)(f:Hy op b=O':=by ac_rfl):PT X (.Φ a [op] [b] pos) (tB t):=by
 intro e s g H Q w i;apply wpAny_isTrue_Compare1 (A1 (h e s g H _ w i) λv o f=>A1 f λu p j=>A1 j λc r k=>?_) f;let(x,l,m,n,d,rfl,q):=k;cases n;show IZ #[l,m,q]
theorem nI{e:Expr}{t:TE}(h:PE X e t)(c:∀a,isTrue e X.G a=(do let v <- a;standAt e.pos;DU [v] (truthy v)):=by intro _;rfl):PT X e (tB t):=by
 intro b s f H Q n g;apply isTrue_plain (A1 (h b s f H _ n g) λv m i=>?_) (c _);let(x,j,k,l,d,rfl,q):=i;cases l;show IZ #[j,k,q]
variable{tA B4:TT}{AW:U Expr}
def Yk(t u:TT):TT:=λa H Q=>t a H λc b=>if c=J' then u a b Q else Q O' b
def Yl(t u:TT):TT:=λa H Q=>t a H λc b=>if c=J' then Q J' b else u a b Q
def nJ(t:TT):TT:=λa H Q=>t a H λc b=>Q (!c) b
theorem nK(d:PT X a tA):PW X (.ϓ .And [a] pos) tA:=by
 intro wh b s f H Q i h;apply isTrue_and<|A1 (d b s f H Q i h) λc g e=>?_;cases c with
 |true=>show isTrue_and_nil e
 |false=>show e
theorem nM(d:PT X a tA):PW X (.ϓ .Or [a] pos) tA:=by
 intro wh b s f H Q i h;apply isTrue_or<|A1 (d b s f H Q i h) λc g e=>?_;cases c with
 |false=>show isTrue_or_nil e
 |true=>show e
theorem nN(j:PT X a tA)(k:PW X (.ϓ .And (b::AW) pos) B4):PW X (.ϓ .And (a::b::AW) pos) (Yk tA B4):=by
 intro wh d s e H Q m h;apply isTrue_and<|A1 (j d s e H _ m h) λc l ⟨f,g,i⟩=>?_;cases c with
 |true=>show k wh d l e f Q g i
 |false=>show#[f,g,i]
theorem nO(j:PT X a tA)(k:PW X (.ϓ .Or (b::AW) pos) B4):PW X (.ϓ .Or (a::b::AW) pos) (Yl tA B4):=by
 intro wh d s e H Q m h;apply isTrue_or<|A1 (j d s e H _ m h) λc l ⟨f,g,i⟩=>?_;cases c with
 |true=>show#[f,g,i]
 |false=>show k wh d l e f Q g i
theorem Ym(d:PT X a tA):PT X (.UnaryOp .Not a pos) (nJ tA):=by
 intro b s e H Q g h;show isTrue_not<|d b s e H (λc f=>Q (!c) f) g h
def nP(ta tb:TE):TE:=λa H Q=>ta a H λx b=>∃c,x=.bl c/\if c=J' then tb a b Q else Q (.bl O') b
def nQ(ta tb:TE):TE:=λa H Q=>ta a H λx b=>∃c,x=.bl c/\if c=J' then Q (.bl J') b else tb a b Q
def nR(ta:TE):TE:=λa H Q=>ta a H λx b=>∃c,x=.bl c/\Q (.bl (!c)) b
theorem nS {op} {t:TE} (h:PE X a t):PE X (.ϓ op [a] pos) t:=λb s c H Q e d=>BoolOp_one<|h b s c H Q e d
theorem nT(j:PE X a ta)(k:PE X (.ϓ .And (b::AW) pos) tb):PE X (.ϓ .And (a::b::AW) pos) (nP ta tb):=by
 intro d s f H Q o h;apply BoolOp_and<|A1 (j d s f H _ o h) λv l m=>?_;let(x,g,i,n,e):=m;let(c,rfl,e):=e;cases n;apply IZ ?_;cases c with
 |true=>show k d l f g Q i e
 |false=>show#[.bl O',g,i,rfl,e]
theorem nU(j:PE X a ta)(k:PE X (.ϓ .Or (b::AW) pos) tb):PE X (.ϓ .Or (a::b::AW) pos) (nQ ta tb):=by
 intro d s f H Q o h;apply BoolOp_or<|A1 (j d s f H _ o h) λv l m=>?_;let(x,g,i,n,e):=m;let(c,rfl,e):=e;cases n;apply IZ ?_;cases c with
 |false=>show k d l f g Q i e
 |true=>show#[.bl J',g,i,rfl,e]
theorem nV(e:PE X a ta):PE X (.UnaryOp .Not a pos) (nR ta):=by
 intro b s f H Q m h;apply UnaryOp_<|A1 (e b s f H _ m h) λv l g=>?_;let(x,i,j,k,d):=g;let(c,rfl,d):=d;cases k;show not_of<|IZ ⟨.bl<|!c,i,j,rfl,d⟩
def nW(t:TT)(ta tb:TE):TE:=λa H Q=>t a H λc b=>if c=J' then ta a b Q else tb a b Q
theorem nX{c:Expr}(l:PT X c tA)(m:PE X a ta)(n:PE X b tb):PE X (.IfExp c a b pos) (nW tA ta tb):=by
 intro e s f H Q o h;apply wpAny_IfExp<|A1 (l e s f H _ o h) λd g ⟨i,j,k⟩=>?_;cases d with
 |true=>show m e g f i Q j k
 |false=>show n e g f i Q j k
end
def BW(K:Ap)(H:Hp)(a:Ac)(xs:U V):Prop:=
 Rd H a (.O xs) \/
  ∃(o:Obj) (b:Array Aa) (n:Nat),K.S a=Z o/\o.cls=.ι "list"/\o.dict=J/\o.data=.Ϲ b n/\b.o<=Ay/\Aq xs b.B
def Cg(K:Ap)(H:Hp)(a:Ac)(xs:U V):Prop:=
 Rd H a (.X xs) \/
  ∃(o:Obj) (b:Array Aa) (n:Nat),K.S a=Z o/\o.cls=.ι "tuple"/\o.data=.Ϲ b n/\b.o<=Ay/\Aq xs b.B
def nY:Aa->O V
 |.none=>Z .Α
 |.bool b=>Z (.bl b)
 |.int i _=>Z (.r i)
 |.str x _=>Z (.ψ x)
 |.ref a=>Z (.I a)
 |.type n=>Z (.ty n)
 |_=>J
theorem RelV.abs{x:V}(r:RelV x u):nY u=Z x:=by
 cases x with
 |non=>cases r;rfl
 |bl _=>cases r;rfl
 |int _=>let(t,rfl):=r;rfl
 |str _=>let(t,rfl):=r;rfl
 |ref _=>cases r;rfl
 |ty _=>cases r;rfl
theorem RelV.inj{x y:V}(r:RelV x u)(q:RelV y u):x=y:=EH<|r.abs.τ.E q.abs
theorem Aq.inj{xs:U V}{us:U Aa}(h:Aq xs us)(g:Aq ys us):xs=ys:=by
 induction h generalizing ys with|nil=>cases g;rfl|cons r _ a=>
  cases g with
  |cons q t=>rw[r.inj q,a t]
section
variable{H:Hp}{s:Ab}{xs:U V}
theorem Cg.of{K:Ap}(h:H a=Z (.X xs)):Cg K H a xs:=.Q<|.Q h
theorem Inv.list(g:Inv X pins I H s)(h:BW X.K H a xs):∃b:U Aa,Aq xs b/\PlainL s.u a b.C/\xs.a<=Ay:=by
 rcases h with h|⟨o,b,n,c,d,hd,f,hz,r⟩
 .let(z,b,n,r,e):=h.ok g.Ϫ;show#[b,r,#[_,n,e,rfl,rfl,rfl],z]
 .apply#[b.B,r,#[o,n,g.kIn a o c,d,hd,by exists f],?_];let e:=r.a;erw[K5]at e;lia
theorem Inv.tuple(g:Inv X pins I H s)(h:Cg X.K H a xs):∃b:U Aa,Aq xs b/\IsTup s.u a b.C/\xs.a<=Ay:=by
 rcases h with h|⟨o,b,n,c,d,f,hz,r⟩
 .let(z,b,r,p):=h.ok g.Ϫ;show#[b,r,p,z]
 .apply#[b.B,r,#[o,g.kIn a o c,d,n,by exists f],?_];let e:=r.a;erw[K5]at e;lia
theorem Inv.list_inj(m:Inv X pins I H s)(h:BW X.K H a xs)(h':BW X.K H a ys):xs=ys:=by
 let(c,r,(o,n,e,_,_,d),_):=m.Ϩ h;let(b,i,(k,l,f,_,_,g),_):=m.Ϩ h';rw[e]at f;cases f;rw[d]at g;injection g with j _
 have:c=b:=by exists congrArg Array.B j
 subst this;show r.inj i
theorem Inv.tuple_inj(m:Inv X pins I H s)(h:Cg X.K H a xs)(h':Cg X.K H a ys):xs=ys:=by
 let(c,r,(o,e,_,n,d),_):=m.ϗ h;let(b,i,(k,f,_,l,g),_):=m.ϗ h';rw[e]at f;cases f;rw[d]at g;injection g with j _
 have:c=b:=by exists congrArg Array.B j
 subst this;show r.inj i
end
abbrev Cx.wish(X:Cx)(E:AR):Cx:={X with xe:=E}
abbrev Cx.nox(X:Cx):Cx:=X.wish λ_ _=>False
theorem Cx.Ok.wish(ok:X.Ok)(E:AR):(X.wish E).Ok:=#[ok.mod,ok.ϳ,ok.glob,ok.blt,ok.above,ok.inj,ok.has,ok.cab,ok.hd,ok.frames,ok.stk,ok.exf,ok.bs,ok.bsz,ok.noex,ok.exfs,ok.funs,ok.frf]
theorem Cx.Ok.unwish(ok:(X.wish E).Ok):X.Ok:=#[ok.mod,ok.ϳ,ok.glob,ok.blt,ok.above,ok.inj,ok.has,ok.cab,ok.hd,ok.frames,ok.stk,ok.exf,ok.bs,ok.bsz,ok.noex,ok.exfs,ok.funs,ok.frf]
section
variable{H:Hp}{s:Ab}
theorem Inv.wish(a:Inv X pins I H s)(E:AR):Inv (X.wish E) pins I H s:=#[a.ok.wish E,a.os,a.bare,a.χ,a.loc,a.Ν,a.ύ,a.freeC,a.pin,a.Ϫ,a.ϩ]
theorem Inv.unwish(a:Inv (X.wish E) pins I H s):Inv X pins I H s:=#[a.ok.unwish,a.os,a.bare,a.χ,a.loc,a.Ν,a.ύ,a.freeC,a.pin,a.Ϫ,a.ϩ]
theorem SP.unwish{D:Ends}{f:Flow}{c:Ab}(h:SP (X.wish E) pins D f c):SP X pins D f c:=by
 cases f with
 |next=>let(a,b,d,q):=h;show#[a,b,d.unwish,q]
 |brk=>let(a,b,d,q):=h;show#[a,b,d.unwish,q]
 |cont=>let(a,b,d,q):=h;show#[a,b,d.unwish,q]
 |ret u=>let(v,a,b,d,r,q):=h;show#[v,a,b,d.unwish,r,q]
theorem EZ.nox{st:U AF}{t:TS}(h:EZ X.nox st t):EZ X st t:=λpins s I H D b a=>wpAny_mono (h pins s I H D (b.wish _) a) (λ_ _ q=>q.unwish) λ_ _ z=>BX z
end
section
variable{st:AF}{AW:U AF}{t u:TS}{e:Expr}
def nZ:TS:=λD a H=>D.nx a H
def n0(t u:TS):TS:=λD a H=>t {D with nx:=u D} a H
theorem EI:EZ X [] nZ:=λ_ _ a H _ b h=>wpAny_execs_nil #[a,H,b,h]
theorem Tf(c:PS X st t)(d:EZ X AW u):EZ X (st::AW) (n0 t u):=by
 intro a s e H D k h;apply wpAny_execs_cons<|A1 (c a s e H {D with nx:=u D} k h) λf g q=>?_;cases f with
 |next=>
  let(b,i,j,q):=q;show d a g b i D j q
 |ret v=>show q
 |brk=>show q
 |cont=>show q
theorem Inv.quiet{a:AZ}{H:Hp}{s:Ab}(b:Inv X a I H s):interactive X.G=O':=by simp[interactive,b.ok.kind]
def og(te:TE):TS:=λD a H=>te a H λ_ b=>D.nx a b
theorem PX(c:PE X e te)(d:EJ e J pos.Ϯ X.G=Am O':=by rfl):PS X (.Expr e pos) (og te):=by
 intro a s b H D l h;show wpAny_Expr_any (A1 (c a s b H _ l h) λv j ⟨x,f,g,k,i⟩=>#[b,f,g,i]) l.quiet d
def oh(te:TE):TS:=λD a H=>te a H D.rt
theorem PY(c:PE X e te):PS X (.v0 (Z e) pos) (oh te):=by
 intro a s b H D k h;show wpAny_Return_some<|A1 (c a s b H _ k h) λv j ⟨x,d,f,g,i⟩=>#[x,b,d,f,g,i]
def oi(c:TT)(t u:TS):TS:=λD a H=>c a H λb d=>if b=J' then t D a d else u D a d
theorem PZ{c:Expr}{a b:U AF}{g:TT}(m:PT X c g)(n:EZ X a t)(o:EZ X b u):PS X (.If c a b pos) (oi g t u):=by
 intro e s f H D p h;apply wpAny_If<|A1 (m e s f H _ p h) λd i ⟨j,k,l⟩=>?_;cases d with
 |true=>show n e i f j D k l
 |false=>show o e i f j D k l
def oj:TS:=λ_ _ _=>False
theorem Hz:PS X st oj:=λ_ _ _ _ _ _ h=>h.Η
end
abbrev TG:=V->St->Hp->(St->Hp->Prop)->Prop
abbrev I0:=U V->St->Hp->(St->Hp->Prop)->Prop
def PG(X:Cx)(a:Expr)(t:TG):Prop:=
 ∀(b:AZ) (s:Ab) (d:St) (H:Hp) (v:V) (u:Aa) (Q:St->Hp->Prop),Inv X b d H s->RelV v u->t v d H Q ->
  wpAny (Ae X.β X.w) X.A (assign a X.G u) (λ_ f=>∃c e,Inv X b c e f/\Q c e) X.xe s
def NE(X:Cx)(g:U Expr)(t:I0):Prop:=
 ∀(a:AZ) (s:Ab) (c:St) (H:Hp) (d:U V) (e:U Aa) (Q:St->Hp->Prop),Inv X a c H s->Aq d e->t d c H Q ->
  wpAny (Ae X.β X.w) X.A (assignInOrder ((Gz g X.G).j (·.2)) e) (λ_ h=>∃b f,Inv X a b f h/\Q b f) X.xe s
abbrev P0:=V->V->V->Hp->(Hp->Prop)->Prop
def Tg(X:Cx)(t:P0):Prop:=
 ∀(a:AZ) (s:Ab) (b:St) (H:Hp) (o i v:V) (c d u:Aa) (Q:Hp->Prop),Inv X a b H s->RelV o c->RelV i d->RelV v u->t o i v H Q ->
  wpAny (Ae X.β X.w) X.A (setItem c d u) (λ_ f=>∃e,Inv X a b e f/\Q e) X.xe s
section
def Mo(i:Nat):TG:=λv a H Q=>Q (a.ν i (Z v)) H
theorem Th{i:Nat}{x:Af}(b:X.N.η)(c:X.N[i]?=Z x)(d:Loc X.G.Ξ x)(e:X.fn x=J'\/X.G.Ξ.υ.S x=Z .Ϡ:=by ac_rfl):PG X (.ε x pos) (Mo i):=by
 intro a s g H v u Q k r h;show wpAny_assign_Name<|Yd k b c d r (λj f=>#[_,H,f,h]) e
def ol:I0:=λa b H Q=>a=[]/\Q b H
def om(t:TG)(u:I0):I0:=λb c H Q=>∃v r,b=v::r/\t v c H λa d=>u r a d Q
theorem on:NE X [] ol:=by
 intro a s b H c d Q e r h;let(rfl,h):=h;cases r;show assignInOrder_nil #[b,H,e,h]
theorem oq{e:Expr}{t:TG}{u:I0}(c:PG X e t)(d:NE X es u) (f:(Gz (e::es) X.G).j (·.2)=assign e X.G::(Gz es X.G).j (·.2):=by rfl):NE X (e::es) (om t u):=by
 intro a s g H o p Q w r h;let(v,q,rfl,h):=h;cases r with
 |cons r i=>
  rw[f];apply assignInOrder_cons<|A1 (c a s g H _ _ _ w r h) λ_ j k=>?_;let(b,l,m,n):=k;show d a j b l _ _ Q m i n
def ot(K:Ap)(n:Nat)(t:I0):TG:=λv c H Q=>∃a b,v=.I a/\Cg K H a b/\b.a=n/\t b c H Q
theorem ou{k:Nat}{t:I0}{n:Nat}(i:X.ϵ=J')(h:NE X es t) (j:(Gz es X.G).a=n:=by rfl) (d:(Gz es X.G).findIdx? (·.1)=J:=by rfl):PG X (.Tuple es k pos) (ot X.K n t):=by
 intro c s l H v u Q A r f;let(a,m,rfl,p,q,f):=f;cases r;let(w,g,x,hz):=A.ϗ p;show assign_Tuple_tuple (A.ok.hd i) x (by simp[j,<- q,g.length]) d λz y=>h c _ l H m _ Q (A.ϱ (t':=s.Γ) λb o e=>y b o (Cf<|BN e) e) (by exists g) f
def ov(b c:TE)(t:P0):TG:=λv a H Q=>b a H λo d=>c a d λi e=>t o i v e λf=>Q a f
theorem P1{i:Expr}{f g:TE}{t:P0}(j:PE X o f)(k:PE X i g)(l:Tg X t) (L:∀v,assign (.μ o i pos) X.G v=(do
   let b <- DU [v] (Ar o X.G);let c <- DU [v,b] (Ar i X.G);standAt pos
   DU [v,b,c] (setItem b c v)
   release [v,b,c] []):=by intro _;rfl):PG X (.μ o i pos) (ov f g t):=by
 intro a s d H v u Q K r h;apply Ao<|F9<|A1 (j a s d H _ K h) λb m e=>?_;let(x,n,p,q,w):=e;apply Ao<|F9<|A1 (k a m d n _ p w) λc z e=>?_;let(y,A,B,C,E):=e;show Ao<|wpAny_standAt<|Ao<|F9<|A1 (l a z d A x y v b c u _ B q C r E) λ_ M ⟨G,F,q3⟩=>wpAny_release #[d,G,F,q3]
def Mp(b:TE)(g:TG):TS:=λD a H=>b a H λx c=>g x a c D.nx
theorem P2{b e:Expr}{c:TE}{g:TG}(f:PE X e c)(i:PG X b g)(j:swapsWithSole [b] e pos.Ϯ X.G=Am O':=by rfl)(k:swappedStores [b] e X.G=Am J:=by rfl) (l:(Gz [b] X.G).j (·.2)=[assign b X.G]:=by rfl):PS X (.Ϭ [b] e pos) (Mp c g):=by
 intro a s d H D w h;apply wpAny_Assign_stores (A1 (f a s d H _ w h) λv m n=>?_) j k;let(x,o,p,r,t):=n;rw[l];show A1 (i a m d o x v _ p r t) λ_ u q=>q
theorem P4{i:Nat}{x:Af}{e:Expr}{c:TE}{a:AB}(d:X.N.η)(f:X.N[i]?=Z x)(g:Loc X.G.Ξ x)(j:PE X e c)(k:EJ e (Z (.ε x a)) pos.Ϯ X.G=Am O':=by rfl)(l:X.fn x=J'\/X.G.Ξ.υ.S x=Z .Ϡ:=by ac_rfl):PS X (.Ϭ [.ε x a] e pos) (Mp c (Mo i)):=by
 intro b s m H D z h;apply wpAny_Assign_Name (A1 (j b s m H _ z h) λv u n=>?_) k;let(y,o,p,q,r):=n;show Yd p d f g q (λw t=>#[_,o,t,r]) l
end
structure It where
 go:Nat->Hp->Prop
 yld:Nat->Hp->V->Hp->Prop
 stop:Nat->Hp->Prop
def GA(X:Cx)(a:AZ)(H:Hp)(b:Ac):Prop:=
 H b=J/\b≠X.G.ϖ/\b∉X.fs/\(b∈X.ex\/X.s₀.u.J.o<=b)/\(∀x c,X.G.Ϥ.S x=Z c->c≠b)/\∀p∈X.pn++a,p.1≠b
theorem Inv.fpOk{a:AZ}{H:Hp}{s:Ab}{b:Ac}(h:Inv X a I H s)(d:s.u.J.o<=b)(f:H' b=J):GA X a H' b:=by
 apply#[f,Ja<|B3 h.lt d,h.nofs d,.inr<|Bv h.sz d,λx c e z=>?_,λp g z=>?_]
 .let(v,q):=h.Ν x c e;show absurd (B3 q.lt<|z ▸ d)<|Hw _
 .show absurd (B3 (BN (h.pin p g).1)<|z ▸ d)<|Hw _
structure Im(P:AM)(w:Aj)(K:Ap)(tg:Expr)(a:It)(fp:List Ac)(it:Ac)(tn:Nat->Al->Prop):Prop where
 mem:it∈fp
 obj:∀i h,tn i h->∀b∈fp,∃o,h.R b=Z o/\∀v,o.data≠.Ν v
 keep:∀i h h',tn i h->(∀b∈fp,∀o,h.R b=Z o->h'.R b=Z o)->tn i h'
 item:∀(X:Cx),X.β=P->X.w=w->X.K=K->X.ϵ=J'->∀(i:Nat) (pins:AZ) (s:Ab) (I:St) (H:Hp) (E:AR),Inv X pins I H s->(∀b∈fp,GA X pins H b)->tn i s.u->a.go i H ->
  wpAny (Ae P w) X.A (pyNext (.I it)) (λr s1=>∃u,r=Z u /\
   wpAny (Ae P w) X.A (letOwnedTupleGo tg (.I it) u) (λ_ s2=>∃x H',Inv X pins I H' s2/\RelV x u/\a.yld i H x H'/\tn (i+1) s2.u/\∀b∈fp,H' b=J) E s1) E s
 done:∀(X:Cx),X.β=P->X.w=w->X.K=K->X.ϵ=J'->∀(i:Nat) (pins:AZ) (s:Ab) (I:St) (H:Hp) (E:AR),Inv X pins I H s->(∀b∈fp,GA X pins H b)->tn i s.u->a.stop i H ->
  wpAny (Ae P w) X.A (pyNext (.I it)) (λr s1=>r=J/\Inv X pins I H s1) E s
 self:∀(A:Ag) (i:Nat) (s:Ab) (Q:AR) (E:AR),tn i s.u->Q (.I it) s->wpAny (Ae P w) A (pyIter (.I it)) Q E s
abbrev TI:=St->Hp->(It->Hp->Prop)->Prop
variable{wi:TI}
def Yn(X:Cx)(a:AZ)(I:St)(i:Expr)(R:It->Hp->Prop)(c:Aa)(e:Ab):Prop:=
 ∃(f:Ac) (g:U Ac) (h:Nat->Al->Prop) (j:It) (d:Hp),c=.I f/\Inv X a I d e/\Im X.β X.w X.K i j g f h/\h 0 e.u/\(∀b∈g,GA X a d b)/\R j d
def PI(X:Cx)(c iter:Expr)(wi:TI):Prop:=
 ∀(a:AZ) (s:Ab) (b:St) (H:Hp) (R:It->Hp->Prop),Inv X a b H s->wi b H R ->
  wpAny (Ae X.β X.w) X.A (Ar iter X.G) (λv d=>wpAny (Ae X.β X.w) X.A (pyIter v) (Yn X a b c R) X.xe d) X.xe s
theorem ow{M:Model}{A:Ag}{s:Ab}{b:Expr}{it:Ac}{o:Obj}{n:String}{vs:Array Aa}(c:s.u.R it=Z o)(d:o.cls=.ι n)(hd:o.data=.ϝ vs) (e:["enumerate","zip","dict_itemiterator","dict_reverseitemiterator","odict_iterator","itertools.zip_longest","itertools.pairwise"].Ϟ n=O') (a:Q () s):wpAny M A (letOwnedTupleGo b (.I it) u) Q E s:=by
 cases b<;>first
  |show AT a
  |(cases u<;>first
    |show AT a
    |(apply Ao (wpAny_load c ?_)
      rw[d,hd];change wpAny M A (if(["enumerate","zip","dict_itemiterator","dict_reverseitemiterator","odict_iterator","itertools.zip_longest","itertools.pairwise"].Ϟ n&&vs[0]?==Z (BB _))=J' then _ else _) Q E s
      rw[if_neg (by intro h;rw[e,Bool.false_and]at h;cases h)];show AT a))
def Yo(K:Ap)(a:Ac):It:=
 #[λi H=>∃b x,BW K H a b/\b[i]?=Z x,λi H x c=>c=H/\∀b,BW K H a b->b[i]?=Z x,λi H=>∃b,BW K H a b/\b.a<=i]
def Yp(K:Ap)(a:Ac):It:=
 #[λi H=>∃b x,Cg K H a b/\b[i]?=Z x,λi H x c=>c=H/\∀b,Cg K H a b->b[i]?=Z x,λi H=>∃b,Cg K H a b/\b.a<=i]
def NF(lo:Int)(n:Nat):It:=#[λi _=>i<n,λi H x a=>a=H/\x=.r (lo+i),λi _=>n<=i]
theorem NG{P:AM}{w:Aj}{K:Ap}{T:Expr}{F:It}{it:Ac}{f:Nat->Al->Prop}{n:String}(S:["enumerate","zip","dict_itemiterator","dict_reverseitemiterator","odict_iterator","itertools.zip_longest","itertools.pairwise"].Ϟ n=O') (N:∀i h,f i h->∃o m,h.R it=Z o/\o.cls=.ι n/\o.data=.ϝ m) (kp:∀i h h',f i h->(∀o,h.R it=Z o->h'.R it=Z o)->f i h') (R:∀(X:Cx) (i:Nat) (a:AZ) (s:Ab) (I:St) (H:Hp) (E:AR) (Q:O Aa->Ab->Prop),X.K=K->X.A.ϣ=J->Inv X a I H s->f i s.u->(F.go i H->(∀u x h' g,f (i+1) h'->(∀b o,b≠it->s.u.R b=Z o->h'.R b=Z o)->RelV x u->F.yld i H x H->Q (Z u) {s with heap:=h',toks:=g})->wpAny (Ae P w) X.A (pyNext (.I it)) Q E s)/\(F.stop i H->(∀h' g,(∀b o,b≠it->s.u.R b=Z o->h'.R b=Z o)->Q J {s with heap:=h',toks:=g})->wpAny (Ae P w) X.A (pyNext (.I it)) Q E s)) (Y:∀(A:Ag) (i:Nat) (s:Ab) (Q:AR) (E:AR),f i s.u->Q (.I it) s->wpAny (Ae P w) A (pyIter (.I it)) Q E s):Im P w K T F [it] it f where
 mem:=by simp
 obj:=λi h st b p=>by
  let(o,m,e,_,d):=N i h st;rw[Ca.mp p];show#[o,e,λv z=>by rw[d]at z;cases z]
 keep:=λi h h' st k=>kp i h h' st<|k it (by simp);item:=by
  intro X hP hw q r i a s I H E W l st t;let(B,C,f2,G,L,M):=l it (by simp);refine(R X i a s I H E _ q (W.ok.hd r) W st).1 t λu x h' g j k ru y=>?_;let(o,m,e,c,d):=N _ _ j;show#[u,rfl,ow (s:={s with heap:=h',toks:=g}) e c d S #[x,H,W.turned k B C G L M,ru,y,j,λb p=>(l b p).1]]
 done:=by
  intro X hP hw q r i a s I H E W l st t;let(B,C,f2,G,L,M):=l it (by simp);show(R X i a s I H E _ q (W.ok.hd r) W st).2 t λh' g k=>#[rfl,W.turned k B C G L M]
 self:=Y
theorem oz{P:AM}{w:Aj}{K:Ap}(a it:Ac):Im P w K y (Yo K a) [it] it (λi h=>h.IsListIter it a i):=by
 apply NG (n:="list_iterator") (by ext) (λi h st=>?_) (λi h f st k=>st.at k) (λX i t s N H E Q z A S st=>?_) λ_ _ _ _ _ st h=>wpAny_pyIter_listiter st h
 .let(o,e,c,d):=st;show#[o,_,e,c,d]
 .subst z;constructor<;>intro v q
  .let(B,x,g,j):=v;let(l,m,p,hz):=S.Ϩ g;let(u,C,G):=m.Ρ j;show wpAny_pyNext_list_item st p.ϑ (x:=u) (by exists C) λf r sb=>q u x f s.Γ r (λb o F e=>(sb.2 b F).E e) G #[rfl,λR L=>S.list_inj L g ▸ j]
  .let(B,g,j):=v;let(l,m,p,hz):=S.Ϩ g;let T:=m.a;show wpAny_pyNext_list_end A st p.ϑ (by simp;lia) λf M=>q f s.Γ M
theorem oA{P:AM}{w:Aj}{K:Ap}(a it:Ac):Im P w K y (Yp K a) [it] it (λi h=>h.xv it a i):=by
 apply NG (n:="tuple_iterator") (by ext) (λi h st=>?_) (λi h g st k=>st.at k) (λX i t s N H E Q z A S st=>?_) λ_ _ _ _ _ st h=>wpAny_pyIter_tupleiter st h
 .let(o,e,c,d):=st;show#[o,_,e,c,d]
 .subst z;constructor<;>intro v q
  .let(B,x,j,l):=v;let(f,m,p,hz):=S.ϗ j;let(u,C,G):=m.Ρ l;show wpAny_pyNext_tuple_item st (show s.u.IsTuple a f.C from p) (x:=u) (by exists C) λg r sb=>q u x g s.Γ r (λb o F e=>(sb.2 b F).E e) G #[rfl,λR L=>S.tuple_inj L j ▸ l]
  .let(B,j,l):=v;let(f,m,p,hz):=S.ϗ j;let T:=m.a;show wpAny_pyNext_tuple_end A st (show s.u.IsTuple a f.C from p) (by simp;lia) λg M=>q g s.Γ M
theorem oB{P:AM}{w:Aj}{K:Ap}{j:Expr}(it:Ac)(lo:Int)(n:Nat):Im P w K j (NF lo n) [it] it (λi h=>IsRangeIter h it (lo+(i:Nat)*1) ((n:Int)-(i:Nat)) 1):=by
 apply NG (n:="range_iterator") (by ext) (λi h st=>#[_,_,st,rfl,rfl]) (λi h a st k=>k _ st) (λX i d s x H E Q y f z st=>?_) λ_ _ _ _ _ st h=>wpAny_pyIter_rangeiter st h;constructor<;>intro g q
 .refine(Walks.range f it lo 1 n).item i s _ _ g st λv a l m c p=>?_;let(t,rfl):=m;show q _ (.r<|lo+i) a l c (λb o r e=>p b o (by exists r) e) #[t,by simp] #[rfl,rfl]
 .show wpAny_pyNext_range_end f st (by have:n<=i:=g;lia) λa u=>q a s.Γ u
section
def oC(K:Ap)(tl:TE):TI:=λc H R=>tl c H λx b=>∃a,x=.I a/\(∃d,BW K b a d)/\R (Yo K a) b
def oD(K:Ap)(tl:TE):TI:=λc H R=>tl c H λx b=>∃a,x=.I a/\(∃d,Cg K b a d)/\R (Yp K a) b
theorem Ti{l:Expr}{tl:TE}(g:PE X l tl):PI X tg l (oC X.K tl):=by
 intro c s i H R y h;apply A1 (g c s i H _ y h) λv d j=>?_;let(x,k,f,m,a,e,(u,n),q):=j;subst e;cases m;let(r,w,p,hz):=f.Ϩ n;apply P5 p.ϑ ?_;apply#[d.u.J.o,[d.u.J.o],_,_,k,rfl,f.ϱ (t':=d.Γ) λb o e=>BC _ e,oz a _,#[_,Co _ rfl,rfl,rfl],λb t=>?_,q];let e:b=d.u.J.o:=by exists t
 subst e;show f.fpOk (AX _)<|f.Ϫ.Ψ<|AX _
theorem oE{l:Expr}{tl:TE}(i:PE X l tl):PI X tg l (oD X.K tl):=by
 intro c s j H R y h;apply A1 (i c s j H _ y h) λv d k=>?_;let(x,m,f,n,a,e,(u,r),q):=k;subst e;cases n;let(g,w,p,hz):=f.ϗ r;apply wpAny_pyIter_tuple (show d.u.IsTuple a g.C from p) ?_;apply#[d.u.J.o,[d.u.J.o],_,_,m,rfl,f.ϱ (t':=d.Γ) λb o e=>BC _ e,oA a _,#[_,Co _ rfl,rfl,rfl],λb t=>?_,q];let e:b=d.u.J.o:=by exists t
 subst e;show f.fpOk (AX _)<|f.Ϫ.Ψ<|AX _
theorem Yq{a:AZ}{H:Hp}{s:Ab}{R:It->Hp->Prop}{lo c:Int}{t u v:Tok}{d:Nat}(l:Inv X a I H s)(g : -(2^62)<=lo)(h:lo<2^62)(i : -(2^62)<=c)(j:c<2^62) (q:R (NF lo (c-lo).θ) H):wpAny (Ae X.β X.w) X.A (pyIter (.I s.u.J.o)) (Yn X a I tg R) E {s with heap:=s.u.Ο {cls:=.ι "range",data:=.ϝ (T' [.r lo t,.r c u,.r 1 v])},toks:=d}:=by
 apply wpAny_pyIter_range (IsRange.new ..) (small_one g h i j) ?_;let f:Inv X a I H {s with heap:=s.u.Ο {cls:=.ι "range",data:=.ϝ (T' [.r lo t,.r c u,.r 1 v])},toks:=d}:=l.ϱ λb o e=>BC _ e;apply#[(s.u.Ο {cls:=.ι "range",data:=.ϝ (T' [.r lo t,.r c u,.r 1 v])}).J.o,[(s.u.Ο {cls:=.ι "range",data:=.ϝ (T' [.r lo t,.r c u,.r 1 v])}).J.o],_,_,H,rfl,
  f.ϱ (t':=d) λb o e=>BC _ e,oB _ lo (c-lo).θ,?_,λb k=>?_,q]
 .rw[show lo+((0:Nat):Int)*1=lo by simp,show(((c-lo).θ:Nat):Int)-((0:Nat):Int)=Builtin.Range.rangeSize lo c 1 by rw[rangeSize_one];split<;>lia];show Co _ rfl
 .let e:b=(s.u.Ο {cls:=.ι "range",data:=.ϝ (T' [.r lo t,.r c u,.r 1 v])}).J.o:=by exists k
  subst e;show f.fpOk (AX _)<|f.Ϫ.Ψ<|AX _
def oF(a:TA):TI:=λb H R=>a b H λc d=>∃j:Int,c=[.r j] /\ -(2^62)<=j/\j<2^62/\R (NF 0 j.θ) d
def oG(a:TA):TI:=λb H R=>a b H λc d=>∃i j:Int,c=[.r i,.r j]/\(-(2^62)<=i/\i<2^62 /\ -(2^62)<=j/\j<2^62)/\R (NF i (j-i).θ) d
theorem Yr{a:Expr}{d:TA}{p:AB}(e:Gl X "range")(f:X.mg "range"=J)(g:PA X [a] d)(i:AJ [a] X.G=[(O',Ar a X.G)]:=by rfl):PI X tg (.Λ (.ε "range" p) [a] [] pos) (oF d):=by
 intro b s k H R z h;apply Call_<|Il z e f boot_range<|NH (A1 (g pos b s k H _ z h) λv w l=>?_) i rfl;let(x,y,m,n,c):=l;let(j,rfl,c,o,q):=c;cases n with
 |cons r u=>
  cases u;let(t,rfl):=r;show call_range_1<|Yq m (Int.neg_ofNat_le_ofNat (2^62) 0) (W.kbt_pos 62) c o (by exists q)
theorem oH{a b:Expr}{g:TA}{p:AB}(k:Gl X "range")(l:X.mg "range"=J)(m:PA X [a,b] g)(n:AJ [a,b] X.G=[(O',Ar a X.G),(O',Ar b X.G)]:=by rfl)(c:AJ [b] X.G=[(O',Ar b X.G)]:=by rfl):PI X tg (.Λ (.ε "range" p) [a,b] [] pos) (oG g):=by
 intro d s o H R F h;apply Call_<|Il F k l boot_range<|NH (A1 (m pos d s o H _ F h) λA B u=>?_) (by rw[n,c]) (by rw[c];rfl);let(C,E,v,w,e):=u;let(i,j,rfl,(e,x,q3,y),q):=e;cases w with
 |cons r f=>
  cases f with
  |cons z f=>
   cases f;let(t,rfl):=r;let(G,rfl):=z;show call_range_2<|Yq v e x q3 y q
def Ys(wi:TI)(g:TG)(tb:TS):TS:=λD a H=>wi a H λj f=>∃W:Nat->Nat->St->Hp->Prop,(∃m,W 0 m a f)/\∀i m a H,W i m a H ->
 (j.stop i H/\D.nx a H)\/(j.go i H/\∃N:St->Hp->Prop,(∀b c,N b c->∃e,e<m/\W (i+1) e b c)/\∀x c,j.yld i H x c->g x a c λd h=>tb {D with nx:=N,ct:=N,bk:=D.nx} d h)
def K6(a:U Ac)(h:Al):AZ:=a.g7 λb=>(h.R b).j λo=>(b,o)
theorem P6{a:U Ac}{h:Al}{b:Ac}{o:Obj}(c:b∈a)(e:h.R b=Z o):(b,o)∈K6 a h:=List.mem_filterMap.ϡ #[b,c,by rw[e];rfl]
theorem Yt{a:U Ac}{h:Al}{p:Ac×Obj}(c:p∈K6 a h):p.1∈a/\h.R p.1=Z p.2:=by
 let(b,d,e):=List.mem_filterMap.mp c;let(o,q,e):=B7.mp e;grind
theorem Inv.pinned{a:AZ}{H:Hp}{s:Ab}{c:U Ac}(n:Inv X a I H s)(h:∀b∈c,GA X a H b)(i:∀b∈c,∃o,s.u.R b=Z o/\∀v,o.data≠.Ν v):Inv X (a++K6 c s.u) I H s:=n.pins_of λp j=>(Cn.mp j).Η (λz=>n.pin p<|Dt _ z) λz=>by
  let(f,e):=Yt z;let(k,l,m,_):=h p.1 f;let(o,g,d):=i p.1 f;rw[e]at g;cases g;show#[e,k,l,m,d]
theorem Inv.unpinned{a pl:AZ}{H:Hp}{s:Ab}(c:Inv X (a++pl) I H s):Inv X a I H s:=c.pins_of λp b=>c.pin p<|Dt _<|J0 _ b
theorem NI{z:U AF}{g:TG}{tb:TS}(E:PassesOwn (Ae X.β X.w) X.A X.G X.xe)(hc:X.ϵ=J')(hi:PI X tg iter wi)(hg:PG X tg g)(j:EZ X z tb) (hs:∀x,E1 iter X.G x=Am x:=by intro _;rfl):PS X (.For tg iter z [] pos) (Ys wi g tb):=by
 intro a s I H D R h;apply wpAny_For (A1 (hi a s I H _ R h) λv s1 h1=>A1 h1 λitv s2 h2=>?_) hs;let(it,G,tn,F,H2,e,I2,T,Q,f2,W,(m0,w0),turn):=h2;subst e;let k:∀{y:Hp},(∀b∈G,y b=J)->∀b∈G,GA X a y b:=λhn b j=>#[hn b j,(f2 b j).2];apply codeAny_forLoop_any (λn s'=>∃i l y,Inv X a l y s'/\tn i s'.u/\(∀b∈G,y b=J)/\W i n l y) ?_ m0 #[0,I,H2,I2,Q,λb j=>(f2 b j).1,w0];intro n s3 zQ;let(i,p,K,I3,L,M,w3):=zQ;rcases turn i n p K w3 with⟨stop,qn⟩|⟨go,N,hN,step⟩
 .apply P7 E<|A1 (T.done X rfl rfl rfl hc i a s3 p K X.xe I3 (k M) L stop) λr s4 ⟨P,I4⟩=>?_;subst P;show wpAny_execs_nil #[p,K,I4,qn]
 .apply P7 E<|A1 (T.item X rfl rfl rfl hc i a s3 p K X.xe I3 (k M) L go) λr s4 ⟨u,P,h4⟩=>?_;subst P;apply P7 E<|A1 h4 λ_ s5 Y=>?_;let(x,H5,I5,r5,y5,C,fr5):=Y;apply P7 E<|A1 (hg _ s5 p H5 x u _ (I5.pinned (k fr5)<|T.obj _ _ C) r5<|step x H5 y5) λ_ s6 Y=>?_;let(σ6,H6,I6,q6):=Y;apply P7 E<|A1 (j _ s6 σ6 H6 _ I6 q6) λf s7 B=>?_;let again:∀{c:St} {q:Hp},Inv X (a++K6 G s5.u) c q s7->N c q->∃m,m<n/\∃i l y,Inv X a l y s7/\tn i s7.u/\(∀b∈G,y b=J)/\W i m l y:=λ{c q} t n7=>by
   let(m',hm,w7):=hN c q n7;apply#[m',hm,i+1,c,q,t.unpinned,T.keep _ _ _ C λb j o e=>(t.pin (b,o)<|Dt _<|Dt _<|P6 j e).1,λb j=>?_,w7];let(o,e,d):=T.obj _ _ C b j;show(t.pin (b,o)<|Dt _<|Dt _<|P6 j e).2.1
  cases f with
  |next=>let(c,q,t,n7):=B;show again t n7
  |cont=>let(c,q,t,n7):=B;show again t n7
  |brk=>let(c,q,t,B):=B;show#[c,q,t.unpinned,B]
  |ret v=>let(x7,c,q,t,r7,B):=B;show#[x7,c,q,t.unpinned,r7,B]
end
abbrev R2:=V->V->Hp->VK->Prop
def Ck(X:Cx)(f:Aa->Aa->BP Aa)(r:R2):Prop:=
 ∀(a:AZ) (s:Ab) (b:St) (H:Hp) (x y:V) (v u:Aa) (Q:VK),Inv X a b H s->RelV x v->RelV y u->r x y H Q ->
  wpAny (Ae X.β X.w) X.A (f v u) (EP X a b Q) X.xe s
def Tj(X:Cx)(f:Aa->BP Aa)(r:V->Hp->VK->Prop):Prop:=
 ∀(a:AZ) (s:Ab) (b:St) (H:Hp) (x:V) (v:Aa) (Q:VK),Inv X a b H s->RelV x v->r x H Q ->
  wpAny (Ae X.β X.w) X.A (f v) (EP X a b Q) X.xe s
def E2(X:Cx)(f:Aa)(r:U V->Hp->VK->Prop):Prop:=
 ∀(a:AZ) (s:Ab) (b:St) (H:Hp) (c:U V) (d:U Aa) (Q:VK),Inv X a b H s->Aq c d->r c H Q ->
  wpAny (Ae X.β X.w) X.A (call f d) (EP X a b Q) X.xe s
def oI(X:Cx)(r:V->Hp->(Bool->Hp->Prop)->Prop):Prop:=
 ∀(a:AZ) (s:Ab) (b:St) (H:Hp) (x:V) (v:Aa) (Q:Bool->Hp->Prop),Inv X a b H s->RelV x v->r x H Q ->
  wpAny (Ae X.β X.w) X.A (truthy v) (TP X a b Q) X.xe s
def Mq(r:R2)(b tb:TE):TE:=λa H Q=>b a H λx c=>tb a c λy d=>r x y d Q
def oJ(r:V->Hp->VK->Prop)(a:TE):TE:=λb H Q=>a b H λx c=>r x c Q
def rI(C:Int->Int->Prop)(g:Int->Int->V):R2:=λx y H Q=>∃i j,x=.r i/\y=.r j/\C i j/\Q (g i j) H
def Io(g:Int->Int->V):R2:=λx y H Q=>∃i j,x=.r i/\y=.r j/\Q (g i j) H
def rU(g:Int->V):V->Hp->VK->Prop:=λx H Q=>∃i,x=.r i/\Q (g i) H
section
variable{a b c:Expr}
theorem Tk(l:PE X a ta)(m:PE X b tb){c:AZ}{s:Ab}{H:Hp}{R:V->V->Hp->Prop}(C:Inv X c I H s)
  (h:ta I H λx j=>tb I j λy d=>R x y d) {Q:AR} {f:Aa->Aa->BP Aa}
  (n:∀v u i x y d,Inv X c I d i->RelV x v->RelV y u->R x y d->wpAny (Ae X.β X.w) X.A (f v u) Q X.xe i):
  wpAny (Ae X.β X.w) X.A (Ar a X.G) (λv e=>wpAny (Ae X.β X.w) X.A (Ar b X.G) (λu g=>wpAny (Ae X.β X.w) X.A (f v u) Q X.xe g) X.xe e) X.xe s:=by
 apply A1 (l c s I H _ C h) λv o k=>?_
 let(x,j,p,q,r):=k
 apply A1 (m c o I j _ p r) λu i k=>?_
 let(y,d,t,z,B):=k
 show n v u i x y d t q z B
theorem Yu{op:Operator}{r:R2}(d:Ck X (HA op) r)(e:PE X a ta)(f:PE X b tb):PE X (.BinOp a op b pos) (Mq r ta tb):=by
 intro c s g H Q n h;show wpAny_BinOp<|Tk e f n h λv u i x y j k l m q=>d c i g j x y v u Q k l m q
theorem oK{op:UnaryOp}{r:V->Hp->VK->Prop}(d:Tj X (unaryOp op) r)(e:PE X a ta):PE X (.UnaryOp op a pos) (oJ r ta):=by
 intro b s c H Q l h;show UnaryOp_<|A1 (e b s c H _ l h) λv f ⟨x,g,i,j,k⟩=>d b f c g x v Q i j k
theorem P8{f:Aa->Aa->BP Aa}{C:Int->Int->Prop}{g:Int->Int->Int} (rule:∀(i j:Int) (t u:Tok) (s:Ab) (Q:AR) (E:AR),C i j->Q (.r (g i j) s.Γ) {s with toks:=s.Γ+1}->wpAny (Ae X.β X.w) X.A (f (.r i t) (.r j u)) Q E s):Ck X f (rI C λi j=>.r (g i j)):=by
 intro a s h H x y v u Q k b c zQ;let(i,j,rfl,rfl,d,q):=zQ;let(t,rfl):=b;let(e,rfl):=c;show rule i j t e s _ _ d #[.r<|g i j,H,k.tok _,⟨_,rfl⟩,q]
theorem Yv{f:Aa->Aa->BP Aa}{g:Int->Int->Int} (rule:∀(i j:Int) (t u:Tok) (s:Ab) (Q:AR) (E:AR),Q (.r (g i j) s.Γ) {s with toks:=s.Γ+1}->wpAny (Ae X.β X.w) X.A (f (.r i t) (.r j u)) Q E s):Ck X f (Io λi j=>.r (g i j)):=by
 intro a s e H x y v u Q h b c zQ;let(i,j,rfl,rfl,q):=zQ;let(t,rfl):=b;let(d,rfl):=c;show rule i j t d s _ _ #[.r<|g i j,H,h.tok _,⟨_,rfl⟩,q]
theorem Tl{f:Aa->Aa->BP Aa}{g:Int->Int->Bool} (rule:∀(i j:Int) (t u:Tok) (s:Ab) (Q:AR) (E:AR),Q (.ϥ (g i j)) s->wpAny (Ae X.β X.w) X.A (f (.r i t) (.r j u)) Q E s):Ck X f (Io λi j=>.bl (g i j)):=by
 intro a s e H x y v u Q h b c zQ;let(i,j,rfl,rfl,q):=zQ;let(t,rfl):=b;let(d,rfl):=c;show rule i j t d s _ _ #[.bl<|g i j,H,h,rfl,q]
def NJ(i j:Int):Prop:=0<j/\j<1073741824
def Mr(i j:Int):Prop:=0<=j/\j<=1000000/\i.natAbs<2^64
def Ef(i j:Int):Prop:=(-(2^64)<i/\i<2^64)\/(-(2^64)<j/\j<2^64)
theorem Ef.ok{i j:Int}(h:Ef i j):IntMulOk i j:=by
 rcases h with⟨a,b⟩|⟨a,b⟩
 .show .of_left<|intBits_le_64 a b
 .show .of_right<|intBits_le_64 a b
theorem K7:Ck X (HA .Add) (Io λi j=>.r (i+j)):=Yv λ_ _ _ _ _ _ _ q=>add_int q
theorem oM:Ck X (HA .Sub) (Io λi j=>.r (i-j)):=Yv λ_ _ _ _ _ _ _ q=>sub_int q
theorem oO:Ck X (HA .Mult) (rI Ef λi j=>.r (i*j)):=P8 λ_ _ _ _ _ _ _ a q=>mul_int q a.ok
theorem oP:Ck X (HA .FloorDiv) (rI NJ λi j=>.r (i/j)):=P8 λi j _ _ _ _ _ a q=>by
 let b:(0:Int)<j:=a.1;let c:j<1073741824:=a.2;show floordiv_int (BM<|Int.ne_of_lt b) (Int.fdiv_eq_ediv_of_nonneg i (Int.le_of_lt b) ▸ q)<|.Q<|PyProof.noPylong_small ∅
theorem oQ:Ck X (HA .Mod) (rI (λ_ j=>0<j) λi j=>.r (i%j)):=P8 λi j _ _ _ _ _ a q=>by
 show mod_int' ∅ (by rw[Int.fmod_eq_emod_of_nonneg i ∅];show q)
theorem oR:Ck X (HA .Pow) (rI Mr λi j=>.r (i^j.θ)):=P8 λ_ _ _ _ _ _ _ a q=>pow_int_small a.1 a.2.1 a.2.2 q
theorem oS{f:Aa->BP Aa}{g:Int->Int} (rule:∀(i:Int) (t:Tok) (s:Ab) (Q:AR) (E:AR),Q (.r (g i) s.Γ) {s with toks:=s.Γ+1}->wpAny (Ae X.β X.w) X.A (f (.r i t)) Q E s):Tj X f (rU λi=>.r (g i)):=by
 intro a s c H x v Q d b zQ;let(i,rfl,q):=zQ;let(t,rfl):=b;show rule i t s _ _ #[.r<|g i,H,d.tok _,⟨_,rfl⟩,q]
theorem oU:Tj X (unaryOp .USub) (rU λi=>.r (-i)):=oS λ_ _ _ _ _ q=>neg_int q
end
section
variable{a b c:Expr}{tc:TE}
theorem Yw{a:AZ}{H:Hp}{s:Ab}{Q:VK}{k k':Bool}(b:Inv X a I H s)(q:Q (.bl k) H)(e:k=k'):EP X a I Q (.ϥ k') s:=by
 subst e;show#[.bl k,H,b,rfl,q]
theorem Tn:Ck X (DT .LtE) (Io λi j=>.bl (decide (i<=j))):=Tl λ_ _ _ _ _ _ _ q=>le_int q
theorem Yx:Ck X (DT .Gt) (Io λi j=>.bl (decide (j<i))):=Tl λ_ _ _ _ _ _ _ q=>gt_int q
theorem oV:Ck X (DT .GtE) (Io λi j=>.bl (decide (j<=i))):=Tl λ_ _ _ _ _ _ _ q=>ge_int q
theorem oW:Ck X (DT .In) (λx y H Q=>∃i j,x=.ψ i/\y=.ψ j/\Q (.bl (!(NK j i 0 j.a 1).Υ)) H):=by
 intro a s d H x y v u Q f b c zQ;let(i,j,rfl,rfl,q):=zQ;let(t,rfl):=b;let(e,rfl):=c;show in_str<|Yw f q rfl
theorem oX:Ck X (DT .NotIn) (λx y H Q=>∃i j,x=.ψ i/\y=.ψ j/\Q (.bl (!(!(NK j i 0 j.a 1).Υ))) H):=by
 intro a s d H x y v u Q f b c zQ;let(i,j,rfl,rfl,q):=zQ;let(t,rfl):=b;let(e,rfl):=c;show notIn_str<|Yw f q rfl
theorem Ck.or{f:Aa->Aa->BP Aa}{r b:R2}(h:Ck X f r)(h':Ck X f b):Ck X f (λx y H Q=>r x y H Q\/b x y H Q):=by
 intro a s c H x y v u Q g d e q;rcases q with q|q
 .show h a s c H x y v u Q g d e q
 .show h' a s c H x y v u Q g d e q
theorem oY{op:CmpOp}{r:R2}(d:Ck X (DT op) r)(e:PE X a ta)(f:PE X b tb)(g:Hy op b=O'):PE X (.Φ a [op] [b] pos) (Mq r ta tb):=by
 intro c s i H Q o h;show wpAny_Compare1 (Tk e f o h λv u j x y k l m n q=>d c j i k x y v u Q l m n q) g
def oZ(t:TE):TT:=λa H Q=>t a H λx b=>∃k,x=.bl k/\Q k b
theorem Yy{op:CmpOp}{r:R2}(g:Ck X (DT op) r)(i:PE X a ta)(j:PE X b tb)(l:Hy op b=O'):PT X (.Φ a [op] [b] pos) (oZ (Mq r ta tb)):=by
 intro d s f H Q K h;apply wpAny_isTrue_Compare1 (A1 (i d s f H _ K h) λv m ⟨x,n,o,p,q⟩=>A1 (j d m f n _ o q) λu t ⟨y,w,A,B,C⟩=>
  A1 (g d t f w x y v u _ A p B C) λc L ⟨z,E,G,F,k,e,q3⟩=>?_) l
 subst e;cases F;show IZ #[E,G,q3]
def Yz(r c:R2)(ta tb tc:TE):TE:=λa H Q=>ta a H λx d=>tb a d λy e=>r x y e λz b=>∃k,z=.bl k /\
 (if k=J' then tc a b λf g=>c y f g Q else Q (.bl O') b)
theorem o0{op g:CmpOp}{r l:R2}(p:Ck X (DT op) r)(j:Ck X (DT g) l)(q:PE X a ta)(t:PE X b tb)(w:PE X c tc) (A:lastMarks [op,g] [b,c]=O':=by with_unfolding_all rfl):PE X (.Φ a [op,g] [b,c] pos) (Yz r l ta tb tc):=by
 intro f s i H Q R h;apply Compare_chain (A1 (q f s i H _ R h) λv B ⟨x,C,E,G,F⟩=>chain_link (A1 (t f B i C _ E F) λu L ⟨y,M,N,m,K⟩=>
  A1 (p f L i M x y v u _ N G m K) λd T ⟨z,n,o,P,k,e,q3⟩=>?_)) A
 subst e;cases P;apply IZ ?_;cases k with
 |false=>show ite_ff #[.bl O',n,o,rfl,q3]
 |true=>show ite_tt<|chain_last<|A1 (w f T i n _ o q3) λY s4 ⟨z',H4,I4,r4,q4⟩=>j f s4 i H4 y z' u Y Q I4 m r4 q4
def YA(K:Ap)(x:V)(H:Hp)(k:Bool):Prop:=
 match x with
 |.non=>k=O'
 |.bl b=>k=b
 |.int i=>k=(i != 0)
 |.str y=>y.a<=Ay/\k=((y.a:Int) != 0)
 |.ref p=>(∃a,BW K H p a/\k=!a.isEmpty)\/(∃a,Cg K H p a/\k=!a.isEmpty)
 |_=>False
theorem YB{xs:U V}{a:U Aa}(r:Aq xs a):(!a.toArray.isEmpty)=!xs.isEmpty:=by
 cases r<;>simp
theorem NL:(Ay:Nat)<2^63:=by rw[Ip];decide
theorem o4:oI X (λx H Q=>∃k,YA X.K x H k/\Q k H):=by
 intro h s l H x v Q o a zQ;let(k,e,q):=zQ;let m:=NL;cases x with
 |non=>
  cases a;subst e;show truthy_none #[H,o,q]
 |bl b=>
  cases a;let e:k=b:=e;subst e;show IZ #[H,o,q]
 |int i=>
  let(t,rfl):=a;subst e;show PySem.P.truthy_int #[H,o,q]
 |str y=>
  let(t,rfl):=a;obtain⟨n,e⟩:y.a<=Ay/\k=((y.a:Int) != 0):=e;subst e;show PySem.P.truthy_str ∅ #[H,o.tok _,q]
 |ref p=>
  cases a;rcases e with⟨j,d,e⟩|⟨j,d,e⟩
  .subst e;let(f,r,g,hz):=o.Ϩ d;let c:=r.a;show wpAny_truthy_list g.ϑ (by erw[B5];lia) #[H,o.tok _,YB r ▸ q]
  .subst e;let(f,r,g,hz):=o.ϗ d;let c:=r.a;show truthy_tuple g (by erw[B5];lia) #[H,o.tok _,YB r ▸ q]
 |_=>show(show False from e).Η
theorem o5(d:PE X a ta)(e:∀b,isTrue a X.G b=(do let v <- b;standAt a.pos;DU [v] (truthy v))):PT X a (λI H Q=>ta I H λx H'=>∃k,YA X.K x H' k/\Q k H'):=by
 intro c s I H Q m h;show isTrue_plain (A1 (d c s I H _ m h) λv f ⟨x,g,i,j,l⟩=>o4 c f I g x v Q i j l) (e _)
theorem FO:Ck X (HA .Add) (λx y H Q=>∃i j,x=.ψ i/\y=.ψ j/\i.a+j.a<=Ay/\Q (.ψ (i++j)) H):=by
 intro a s e H x y v u Q g b c zQ;let(i,j,rfl,rfl,hz,q):=zQ;let(t,rfl):=b;let(d,rfl):=c;show add_str (λd f=>#[.ψ<|i++j,H,g.tok _,⟨_,rfl⟩,q]) hz
theorem Fc{x:V}{us:U Aa}(r:Aq [x] us):∃u,us=[u]/\RelV x u:=by
 cases r with
 |cons a b=>cases b;show#[_,rfl,a]
theorem P9{x y:V}{us:U Aa}(r:Aq [x,y] us):∃u a,us=[u,a]/\RelV x u/\RelV y a:=by
 cases r with
 |cons b c=>
  cases c with
  |cons d e=>cases e;show#[_,_,rfl,b,d]
theorem o6(c:X.ϵ=J'):E2 X (.Β "max") (λxs H Q=>∃i j,xs=[.r i,.r j]/\Q (.r (if j>i then j else i)) H):=by
 intro b s d H xs e Q m r zQ;let(i,j,rfl,q):=zQ;let(u,f,rfl,(t,rfl),(g,rfl)):=P9 r;apply max_two_ints (m.ok.hd c) λh l k=>#[_,H,m.ϱ k,?_,q];by_cases a:j>i
 .rw[if_pos a,if_pos a];show#[_,rfl]
 .rw[if_neg a,if_neg a];show#[_,rfl]
theorem o7(c:X.ϵ=J'):E2 X (.Β "min") (λxs H Q=>∃i j,xs=[.r i,.r j]/\Q (.r (if j<i then j else i)) H):=by
 intro b s d H xs e Q m r zQ;let(i,j,rfl,q):=zQ;let(u,f,rfl,(t,rfl),(g,rfl)):=P9 r;apply min_two_ints (m.ok.hd c) λh l k=>#[_,H,m.ϱ k,?_,q];by_cases a:j<i
 .rw[if_pos a,if_pos a];show#[_,rfl]
 .rw[if_neg a,if_neg a];show#[_,rfl]
theorem o8:E2 X (.ι "int") (λxs H Q=>(∃i,xs=[.r i]/\Q (.r i) H)\/∃k,xs=[.bl k]/\Q (.r (if k then 1 else 0)) H):=by
 intro a s c H xs d Q e r h;rcases h with⟨i,rfl,q⟩|⟨k,rfl,q⟩
 .let(u,rfl,t,rfl):=Fc r;show call_int_int #[.r i,H,e,#[_,rfl],q]
 .let(u,rfl,b):=Fc r;cases b;show call_int_bool #[.r<|if k then 1 else 0,H,e.tok _,⟨_,rfl⟩,q]
def YC(K:Ap)(x:V)(H:Hp)(n:Nat):Prop:=
 match x with
 |.str y=>y.a<=Ay/\n=y.a
 |.ref p=>(∃a,BW K H p a/\n=a.a)\/∃a,Cg K H p a/\n=a.a
 |_=>False
theorem YD:E2 X (.Β "len") (λxs H Q=>∃x n,xs=[x]/\YC X.K x H n/\Q (.r n) H):=by
 intro g s i H xs j Q m r zQ;let(x,n,rfl,e,q):=zQ;let(u,rfl,h):=Fc r;let k:Ay=16777216:=Ip;cases x with
 |str y=>
  let(t,rfl):=h;obtain⟨l,rfl⟩:y.a<=Ay/\n=y.a:=e;show len_str ∅ #[.r _,H,m.tok _,#[_,rfl],q]
 |ref p=>
  cases h;rcases e with⟨xs,b,e⟩|⟨xs,b,e⟩
  .subst e;let(c,d,f,hz):=m.Ϩ b;let a:=d.a;show Calls.call_len_list f.ϑ (by erw[B5];lia) #[.r xs.a,H,m.tok _,#[_,by erw[B5];rw[a]],q]
  .subst e;let(c,d,f,hz):=m.ϗ b;let a:=d.a;show len_tuple f (by erw[B5];lia) #[.r xs.a,H,m.tok _,#[_,by erw[B5];rw[a]],q]
 |_=>show(show False from e).Η
end
structure FP(h:Al)(x dx C:Ac)(mA:Bz):Prop where
 obj:h.R x=Z (K2 C dx)
 ns:h.Ns1 dx mA
 ne:dx≠x
open J in
theorem o9{h:Al}{c:Ac}{d:Bz}(n:h.Ns1 c d):∃f,h.R c=Z f/\∀name,PySem.W.lookIn name f=Z (d name):=by
 let(o,g,m,i,hd,j,_,k):=n;apply#[o,i,λname=>?_];let e:=k name;unfold nsFind findBy at e;rw[<- Array.find?_toList]at e;unfold PySem.W.lookIn;rw[hd];dsimp only;split
 .rename_i y q;rw[q]at e;show congrArg Z e
 .rename_i q;rw[q]at e;let a:g.B.any (·.refKey)=O':=by
   rw[List.any_eq_false];intro y l;let(z,t,b):=j y<|Array.mem_toList_iff.mp l;simp[DictEntry.refKey,b]
  rw[if_neg (show ¬ g.B.any (·.refKey)=J' by rw[a];show NC)];show congrArg Z e
theorem FP.look{h:Al}{x b:Ac}{c:Bz}(f:FP h x b C c):∃a,PySem.W.InstAt h x (K2 C b) C (Z a)/\∀name,PySem.W.lookIn name a=Z (c name):=let⟨a,d,e⟩:=o9 f.ns
 #[a,#[f.obj,rfl,rfl,d],e]
section
variable{prog:AM}{w:Aj}{A:Ag}{s:Ab}{K:Ap}{x dx f:Ac}{mA:Bz}{name:Af}{v:Aa}
theorem pc{a:Bool}{Q:AR}(X:K.In s.u)(k:FP s.u x dx C mA)(c:PySem.W.plainGet K C name=J')(d:PySem.W.hasDictIn K C=J')
  (e:J1 K (.I C) name=Z J) (f:mA name=Z v) (b:PySem.W.handedIn v=J') (h:Q v {s with toks:=s.Γ+1}):
  wpAny (Ae prog w) A (getAttr (.I x) name a) Q E s:=by
 let(i,j,g):=k.look
 show PySem.W.get_value X j (PySem.W.plainGet_of c).1 (PySem.W.findObj_own d e rfl (by rw[g,f])) b h
theorem pe{Q:Aa×U Aa->Ab->Prop}(X:K.In s.u)(j:FP s.u x dx C mA)(a:PySem.W.plainGet K C name=J')
  (b:J1 K (.I C) name=Z (Z (.I f))) (c:PySem.W.isFn K (.I f)=J') (d:mA name=J) (h:Q (.I f,[.I x]) s):
  wpAny (Ae prog w) A (getMethod (.I x) name pl) Q E s:=by
 let(e,i,g):=j.look
 show PySem.W.method_fn X i (PySem.W.plainGet_of a).1 (PySem.W.plainGet_of a).2 b (beq_iff_eq.mp c) (by show(PySem.W.lookIn name e).j (·.Ζ)=Z O';rw[g,d];rfl) h
theorem pf{ns:U Af}(X:K.In s.u)(G:FP s.u x dx C mA)
  (j:J1 K (.I C) "__setattr__"=Z (Z (.Β "object.__setattr__"))) (k:PySem.W.plainOver K C=J') (l:PySem.W.takerIn K C name=Z J) (m:PySem.W.hasDictIn K C=J')
  (n:PySem.Within mA ns) (hsz:ns.a<=Ay)
  (h:∀h',FP h' x dx C (λy=>if y=name then Z v else mA y)->Ee dx s.u h'->Q () {s with heap:=h',toks:=s.Γ+2}):
  wpAny (Ae prog w) A (setAttr (.I x) name v) Q E s:=by
 let(t,F,u):=G.look
 apply PySem.W.set_plain X F j (PySem.W.osa_open (s:={s with toks:=s.Γ+1}) (r:=J) X F k l λb=>?_)
 let(z,o,e):=PySem.W.any_some m
 apply Ao (AT (Ao (Ao (wpAny_loadPart G.obj (Ao (PySem.W.Looks.here (s:={s with toks:=s.Γ+1}) (PySem.W.looks_clsIn X o) ?_))))))
 rw[e]
 apply AT (a:=Z dx) (Ao (AT (Ao ?_)))
 apply wpAny_nsSet1 (s:={s with toks:=s.Γ+1}) G.ns λh' c d=>?_
 let(B,p,q,f,g,i):=c.count (PySem.Within.Θ name v n)
 show Ao (wpAny_lookBehind f (g ▸ pastItsLine_dict (Bv i (Cw ▸ Nat.add_le_add_right hsz 1))) (AT (h _ #[(d.2 _ (BM G.ne)).E G.obj,c,G.ne] d)))
theorem ph{R:Result->Ab->Prop}{vs:U Aa}{a:U (Af×Aa)}(X:K.In s.u)(b:PySem.W.makesIn K C=J') (c:J1 K (.I C) "__init__"=Z (Z (.I f))) (e:PySem.W.typeIn K (.I f)=Z (.ι "function")) (h:codeAny (Ae prog w) (A.under (.Β "type.__call__" #[.I C::vs,a])) (.call (.I f) #[.I (s.u.J.o+1)::vs,a]) (PySem.W.InitBack (s.u.J.o+1) R) {s with heap:=(s.u.Ο NM).Ο (K2 C s.u.J.o)}):codeAny (Ae prog w) A (.call (.I C) #[vs,a]) R s:=by
 let(i,g,d,t,os):=s;show PySem.W.make_core (PySem.W.makes_of X b) (PySem.W.looks_findIn X c) (λself=>PySem.W.bind_fn X self e) (.Q rfl) h
end
def Fq(f:Af)(v:V):U (Af×V)->U (Af×V)
 |[]=>[(f,v)]
 |(g,x)::r=>if g=f then(g,v)::r else(g,x)::Fq f v r
theorem YE(f g:Af)(v:V):∀a:U (Af×V),(Fq f v a).S g=if g=f then Z v else a.S g
 |[]=>by
  change List.S g [(f,v)]=_
  grind
 |(k,x)::r=>by
  let b:=YE f g v r;grind [Fq]
theorem To(f:Af)(v:V):∀a:U (Af×V),f∈(Fq f v a).j (·.1)/\∀g,g∈a.j (·.1)->g∈(Fq f v a).j (·.1)
 |[]=>#[by simp[Fq],λg h=>by simp at h]
 |(k,x)::r=>by
  let(b,i2):=To f v r;grind [Fq]
theorem YF(f:Af)(v:V):∀a:U (Af×V),(Fq f v a).a<=a.a+1
 |[]=>by simp[Fq]
 |(k,x)::r=>by
  let b:=YF f v r;grind [Fq]
theorem CJ.some_of{v:V}{o:O Aa}(r:CJ (Z v) o):∃u,o=Z u/\RelV v u:=by
 cases o with
 |none=>show(show False from r).Η
 |some u=>show#[u,rfl,r]
theorem CJ.none_of{o:O Aa}(r:CJ J o):o=J:=by
 cases o with
 |none=>rfl
 |some u=>show(show False from r).Η
theorem pi{v:V}(r:RelV v u):PySem.W.handedIn u=J':=by
 cases v with
 |non=>cases(show u=Value.Δ from r);rfl
 |bl b=>cases(show u=Value.ϥ b from r);rfl
 |int i=>let(t,e):=(show ∃t,u=Value.r i t from r);cases e;rfl
 |str x=>let(t,e):=(show ∃t,u=Value.ψ x t from r);cases e;rfl
 |ref a=>cases(show u=DJ a from r);rfl
 |ty n=>cases(show u=Value.ι n from r);rfl
section
variable{P:AM}{w:Aj}{H:Hp}{h:Al}{dx:Ac}{fs:U (Af×V)}
theorem Tp(hok:CL P w H h)(e:Rd H a (.ins C dx fs)):∃b,FP h a dx C b/\(∀f,CJ (fs.S f) (b f))/\PySem.Within b (fs.j (·.1))/\fs.a<=1000/\H dx=Z (.Κ a):=by
 let(d,z,ne,c,b,n,r,q):=(show Bc P w H h a (.ins C dx fs)from e.ok hok);show#[b,#[c,n,ne],r,q,z,d]
end
structure Fs(K:Ap)(C:Ac):Prop where
 pg:PySem.W.plainGet K C Str.empty=J'
 hd:PySem.W.hasDictIn K C=J'
 po:PySem.W.plainOver K C=J'
 sa:J1 K (.I C) "__setattr__"=Z (Z (.Β "object.__setattr__"))
theorem Fs.get{K:Ap}(c:Fs K C)(f:Af):PySem.W.plainGet K C f=J':=c.pg
def BQ(K:Ap)(C:Ac)(f:Af):Prop:=J1 K (.I C) f=Z J
theorem BQ.taker{K:Ap}{f:Af}(n:BQ K C f):PySem.W.takerIn K C f=Z J:=by
 unfold PySem.W.takerIn;rw[show J1 K (.I C) f=Z J from n];rfl
structure K8(K:Ap)(C:Ac)(m:Af)(f:Ac):Prop where
 at_:J1 K (.I C) m=Z (Z (.I f))
 fn:PySem.W.isFn K (.I f)=J'
 kp:Jb K (.I f)=J'
section
variable{H:Hp}{s:Ab}{dx:Ac}{fs:U (Af×V)}{f:Af}{v:V}{A:Ag}
theorem pj{b:Bool}{Q:AR}(m:Inv X pins I H s)(e:Rd H a (.ins C dx fs))(c:Fs X.K C)(n:BQ X.K C f)(l:fs.S f=Z v) (h:∀u d,Inv X pins I H d->RelV v u->Q u d):wpAny (Ae X.β X.w) A (getAttr (.I a) f b) Q E s:=by
 let(i,k,r,_,_,_):=Tp m.Ϫ e;let(u,j,g):=CJ.some_of (v:=v) (o:=i f) (l ▸ r f);show pc m.kIn k (c.Ρ f) c.hd n j (pi g)<|h u _ (m.tok _) g
theorem YG{m:Af}{g:Ac}{Q:Aa×U Aa->Ab->Prop}(i:Inv X pins I H s)(e:Rd H a (.ins C dx fs))(c:Fs X.K C)(k:K8 X.K C m g)(l:fs.S m=J) (h:Q (.I g,[.I a]) s):wpAny (Ae X.β X.w) A (getMethod (.I a) m pl) Q E s:=by
 let(b,f,r,_,_,_):=Tp i.Ϫ e;let d:b m=J:=CJ.none_of (by rw[<- l];show r m);show pe i.kIn f (c.Ρ m) k.at_ k.fn d h
theorem pq{y:V}(L:Inv X pins I H s)(e:H a=Z (.ins C dx fs))(c:Fs X.K C)(n:BQ X.K C f)(G:fs.a<1000)(m:RelV y u) (h:∀i,Inv X pins I (AK H a (.ins C dx (Fq f y fs))) i->Q () i):wpAny (Ae X.β X.w) A (setAttr (.I a) f u) Q E s:=by
 let(j,F,r,k,_,l):=Tp L.Ϫ<|.inl e;apply pf L.kIn F c.sa c.po n.taker c.hd k (show(fs.map (·.1)).length<=Ay by rw[Bq,Ip];lia) λp d sb=>h _ ?_;let hd:∃o,p.R dx=Z o:=let⟨o,_,_,t,_⟩:=d.ns;#[o,t];apply L.write (x:=a) (e:=dx) (e ▸ HB) (.σ l) (λb q v z=>(sb.2 b v).E z) hd ?_;apply#[Zl F.ne ▸ l,?_,F.ne,d.obj,_,d.ns,λg=>?_,λg B=>?_]
 .have:=YF f y fs;lia
 .change CJ ((Fq f y fs).S g)<|if g=f then Z u else j g
  rw[YE];by_cases q:g=f
  .rw[if_pos q,if_pos q];show m
  .rw[if_neg q,if_neg q];show r g
 .by_cases q:g=f
  .rw[q];show(To f y fs).1
  .refine(To f y fs).2 g<|k g λz=>B ?_;show(if g=f then Z u else j g)=J
   rw[if_neg q];show z
theorem Inv.made(d:Inv X pins I H s):Inv X pins I (AK (AK H s.u.J.o (.Κ (s.u.J.o+1))) (s.u.J.o+1) (.ins C s.u.J.o [])) {s with heap:=(s.u.Ο NM).Ο (K2 C s.u.J.o)}:=by
 let c:((s.u.Ο NM).Ο<|K2 C s.u.J.o).R (s.u.J.o+1)=Z (K2 C s.u.J.o):=by
  have:=Co (s.u.Ο NM) (o:=K2 C s.u.J.o) rfl;simp_all
 refine(d.laid (a:=s.u.J.o) (o:=.Κ<|s.heap.objs.size+1) (h':=s.heap.push NM) (t':=s.toks) (λb u q=>BC _ q) (AX _) #[_,(Co s.u rfl)]).laid (a:=s.u.J.o+1) (o:=.ins C s.u.J.o []) (t':=s.Γ) (λb u q=>BC _ q) (Nat.le_of_eq<|K9 _ _) ?_;apply⟨by rw[Zl<|Nat.ne_add_one s.heap.objs.size,ZT],E3 _,(Nat.ne_add_one s.heap.objs.size),c,λ_=>J,(Heap.Ns1.of_empty ⟨NM,(T' []),_,(Co s.u rfl),rfl,(λe f=>absurd f (by simp)),λ_=>rfl⟩).at λo q=>BC _ q,λ_=>HB,λy g=>absurd rfl g⟩
theorem pu{prog:AM}{w:Aj}{env:Env}{e:Expr}{f:Af}{s:Ab}{Q:AR}(b:FQ e f env (Ar e env)=Ar e env) (h:wpAny (Ae prog w) A (Ar e env) (λo a=>wpAny (Ae prog w) A (getAttr o f J') Q E a) E s):wpAny (Ae prog w) A (Ar (.α e f pos) env) Q E s:=Attribute_any_ h (by rw[arm_eval_Attribute,b])
end
def pv(K:Ap)(d:TE)(f:Af):TE:=λe H Q=>d e H λx b=>∃a C g c v,x=.I a/\Rd b a (.ins C g c)/\Fs K C/\BQ K C f/\c.S f=Z v/\Q v b
def px(K:Ap)(g h:TE)(f:Af):TS:=λD b H=>h b H λy i=>g b i λx d=>∃a C e c,x=.I a/\d a=Z (.ins C e c)/\Fs K C/\BQ K C f/\c.a<1000 /\
 D.nx b (AK d a (.ins C e (Fq f y c)))
section
variable{e value:Expr}{f:Af}{pos':AB}{tv:TE}
theorem YH(d:PE X e ta)(g:FQ e f X.G (Ar e X.G)=Ar e X.G):PE X (.α e f pos) (pv X.K ta f):=by
 intro b s i H Q E h;apply pu g<|A1 (d b s i H _ E h) λu w j=>?_;let(x,k,m,o,a,C,y,z,v,rfl,p,c,n,l,q):=j;obtain rfl:u=DJ a:=o;show pj m p c n l λA B r t=>#[v,k,r,t,q]
theorem py(e:PE X o ta)(g:PE X value tv)(i:EJ value (Z (.α o f pos')) pos.Ϯ X.G=Am O'):PS X (.Ϭ [.α o f pos'] value pos) (px X.K ta tv f):=by
 intro b s d H D N h;apply plainObj_wpAny_Assign_Attribute (A1 (g b s d H _ N h) λu j ⟨y,k,m,p,q⟩=>A1 (e b j d k _ m q) λr E t=>?_) i;let(x,G,v,w,a,C,F,L,rfl,z,c,n,l,A):=t;obtain rfl:r=DJ a:=w;show pq v z c n l p λM B=>#[d,_,B,A]
end
structure AL(k:Nat)(A:Ag):Prop where
 hd:A.ϣ=J
 dp:A.depth+3*k+5<recursionLimit
 un:A.γ+16*k+200<Av
theorem AL.mono{k:Nat}{A:Ag}(r:AL k A)(h:j<=k):AL j A:=#[r.hd,by have:=r.dp;lia,by have:=r.un;lia]
theorem AL.deeper{k:Nat}{A:Ag}(r:AL (k+1) A)(env:Env):AL k (A.ϫ env):=#[r.hd,by have:=r.dp;change A.depth+1+3*k+5<_;lia,by have:=r.un;change A.γ+3+16*k+200<_;lia]
theorem AL.in1{k:Nat}{A:Ag}(r:AL (k+1) A):AL k A.in1:=#[r.hd,by have:=r.dp;change A.depth+3*k+5<_;lia,by have:=r.un;change A.γ+1+16*k+200<_;lia]
theorem pz{A:Ag}{us:U Aa}{a:U (Af×Aa)}:(A.under (.Β "type.__call__" #[.I C::us,a])).depth=A.depth+1:=by
 rfl
theorem pA{A:Ag}{us:U Aa}{a:U (Af×Aa)}:(A.under (.Β "type.__call__" #[.I C::us,a])).γ=A.γ+1:=by
 rfl
theorem AL.make{k:Nat}{A:Ag}(r:AL (k+1) A)(C:Ac)(us:U Aa)(a:U (Af×Aa)):AL k (A.under (.Β "type.__call__" #[.I C::us,a])):=#[r.hd,by have:=r.dp;rw[pz];lia,by have:=r.un;rw[pA];lia]
theorem AL.depth{k:Nat}{A:Ag}(r:AL k A):A.depth<recursionLimit:=by have:=r.dp;lia
theorem AL.units{k:Nat}{A:Ag}(r:AL k A):A.γ+64<Av:=by have:=r.un;lia
def NN:TA:=λ_ H Q=>Q [] H
def YI(b:TE)(tr:TA):TA:=λa H Q=>b a H λx c=>tr a c λd e=>Q (x::d) e
section
variable{e:Expr}{t:TA}
theorem Ba:PA X [] NN:=λ_ _ _ _ H Q a h=>Calls.spliced_nil #[[],H,a,.ϔ,h]
theorem Z2(c:PE X e te)(d:PA X es t)(f:AJ (e::es) X.G=(O',Ar e X.G)::AJ es X.G:=by rfl):PA X (e::es) (YI te t):=by
 intro pos a s b H Q w h;rw[f];change wpAny _ _ (spliced<|(O',Ar e X.G)::AD pos (AJ es X.G)) _ _ s
 show Calls.spliced_cons<|A1 (c a s b H _ w h) λu g ⟨x,i,j,k,l⟩=>A1 (d pos a g b i _ j l) λr v ⟨m,n,o,p,q⟩=>#[x::m,n,o,.Θ k p,q]
def pB(t:TA):TE:=λc H Q=>t c H λa b=>a.a<=Ay/\∀p,b p=J->Q (.I p) (AK b p (.X a))
def pC(t:TA):TE:=λc H Q=>t c H λa b=>a.a<=Ay/\∀p,b p=J->Q (.I p) (AK b p (.O a))
theorem pD {f} (h:PA X es t):PE X (.Tuple es f pos) (pB t):=by
 intro a s g H Q m i;apply wpAny_Tuple_spliced<|A1 (h pos a s g H _ m i) λj c ⟨k,l,d,r,z,q⟩=>#[r.a ▸ z,?_];apply#[.I c.u.J.o,AK l c.u.J.o<|.tup k,d.laid (t':=c.toks) (λb u e=>BC _ e) (AX _) ?_,rfl,q _<|d.Ϫ.Ψ<|AX _];show⟨z,j,r,⟨_,Co _ rfl,rfl,_,rfl⟩⟩
theorem YJ(h:PA X es t):PE X (.List es pos) (pC t):=by
 intro a s f H Q l g;apply wpAny_List_spliced<|A1 (h pos a s f H _ l g) λi c ⟨j,k,d,r,z,q⟩=>#[r.a ▸ z,?_];apply#[.I c.u.J.o,AK k c.u.J.o<|.lst j,d.laid (t':=c.toks) (λb u e=>BC _ e) (AX _) ?_,rfl,q _<|d.Ϫ.Ψ<|AX _];show⟨z,i,0,r,Co _ rfl⟩
end
abbrev Sp:=U V->Hp->VK->XK->Prop
abbrev Eg:=U Env->Hp->Ab->XK->AR
variable{CX:Eg}
structure Dd(P:AM)(w:Aj)(K:Ap)(mg:Bz)(base:Al)(A:Ag)(outer:List Env)(s:Ab)(H:Hp):Prop where
 frames:A.frames=Z outer
 mod:Mod K mg base
 bs:∀b o,base.R b=Z o->s.u.R b=Z o/\H b=J
 bsz:base.J.o<=s.u.J.o
 funs:s.u.FunFrames base outer
 frf:∀b∈E9 outer,H b=J
 hok:CL P w H s.u
 bare:AllBare s.gens
def CE(outer:U Env)(P:AM)(w:Aj)(H:Hp)(s:Ab)(Q:VK)(u:Aa)(a:Ab):Prop:=
 ∃v b,a.os=s.os/\AllBare a.gens/\Un (E9 outer) [] H b s.u a.u/\CL P w b a.u/\RelV v u/\Q v b
def CR(CX:Eg)(outer:U Env)(P:AM)(w:Aj)(H:Hp)(s:Ab)(Q:VK)(E:XK)(r:Result)(a:Ab):Prop:=
 match r with
 |.ok (.ret u)=>CE outer P w H s Q u a
 |.ok _=>False
 |.error e=>CX outer H s E e a
structure A2(P:AM)(w:Aj)(K:Ap)(mg:Bz)(base:Al)(CX:Eg)(k:Nat)(f:Ac)(fd:Cs)(ps:List Af)(sp:Sp):Prop where
 len:∀vs H Q E,sp vs H Q E->vs.a=ps.a
 run:∀(A:Ag) (outer:List Env) (s:Ab) (H:Hp) (args:Args) (us:List Aa) (vs:List V) (Q:VK) (E:XK),AL k A->Dd P w K mg base A outer s H->BindsTo s fd args (ps.zip us)->Aq vs us->sp vs H Q E ->
  codeAny (Ae P w) A (.call (.I f) args) (CR CX outer P w H s Q E) s
theorem A2.imp{P:AM}{w:Aj}{K:Ap}{mg:Bz}{base:Al}{k:Nat}{f:Ac}{fd:Cs}{b:U Af}{sp a:Sp}(F:A2 P w K mg base CX k f fd b sp) (h:∀vs H Q E,a vs H Q E->sp vs H Q E):A2 P w K mg base CX k f fd b a:=#[λvs H Q E q=>F.ϩ vs H Q E<|h _ _ _ _ q,λA outer s H args c vs Q E d e g i j=>F.run A outer s H args c vs Q E d e g i<|h _ _ _ _ j]
theorem Dd.make{P:AM}{w:Aj}{K:Ap}{mg:Bz}{base:Al}{A:Ag}{outer:U Env}{s:Ab}{H:Hp}(e:Dd P w K mg base A outer s H)(C:Ac)(us:U Aa)(a:U (Af×Aa)):Dd P w K mg base (A.under (.Β "type.__call__" #[.I C::us,a])) outer s H:=#[by(simpa[Around.under,Code.envs,Code.isFrame,pushEnvs]using e.frames),e.mod,e.bs,e.bsz,e.funs,e.frf,e.hok,e.bare]
theorem Dd.in1{P:AM}{w:Aj}{K:Ap}{mg:Bz}{base:Al}{A:Ag}{outer:U Env}{s:Ab}{H:Hp}(e:Dd P w K mg base A outer s H):Dd P w K mg base A.in1 outer s H:=#[e.frames,e.mod,e.bs,e.bsz,e.funs,e.frf,e.Ϫ,e.bare]
section
variable{H:Hp}{s s':Ab}
theorem Inv.env0(a:Inv X pins I H s):Dd X.β X.w X.K X.mg X.χ X.A X.ϟ s H:=#[a.ok.frames,a.ok.mod,a.bs,Bv a.ok.bsz a.sz,a.ϟ,a.stkFree,a.Ϫ,a.bare]
theorem Inv.after{Q:VK}(f:Inv X pins I H s)(h:CE X.ϟ X.β X.w H s Q u s'):EP X pins I Q u s':=by
 let(v,c,os,bare,un,hok,r,q):=h;let(e,g,d,t,a):=s';obtain rfl:a=s.os:=os;show#[v,c,f.call (h':=e) (g':=g) (d':=d) (t':=t) (ch:=[]) un hok bare (λb z=>absurd z (by simp)),r,q]
end
def Qa(sp:Sp)(a:U V)(E:XK)(t:TA):TE:=λb H Q=>t b H λc d=>sp (c++a) d Q E
def J2(C:Ac)(m:Af)(sp:Sp)(b:U V)(E:XK)(f:TE)(t:TA):TE:=λc H Q=>f c H λx d=>∃a g e,x=.I a/\Rd d a (.ins C g e)/\e.S m=J /\
 t c d λh i=>sp (x::(h++b)) i Q E
def pE(C:Ac)(sp:Sp)(b:U V)(E:XK)(t:TA):TE:=λd H Q=>t d H λe c=>∀x a,c x=J->c a=J->x=a+1 ->
 sp (.I x::(e++b)) (AK (AK c a (.Κ x)) x (.ins C a [])) (λv f=>v=.Α/\Q (.I x) f) E
def Binds(K:Ap)(fd:Cs)(b:U Af)(c:U Aa):Prop:=
 ∀(s:Ab) (a:U Aa),K.In s.u->(a++c).a=b.a->BindsTo s fd #[a,[]] (b.zip (a++c))
theorem Binds.all{K:Ap}{fd:Cs}{a:U Af}(h:∀us:U Aa,us.a=a.a->bindArgs fd #[us,[]]=Am (a.zip us)):Binds K fd a []:=λs us _ b=>by
 rw[Eh]at b ⊢;show .of_eq<|h us b
def FR(CX:Eg)(X:Cx)(E:XK):Prop:=∀(a:AZ)(c:St)(H:Hp)(s:Ab)(e:Aa)(b:Ab),Inv X a c H s->CX X.ϟ H s E e b->X.xe e b
section
variable{k:Nat}{f:Ac}{fd:Cs}{sp:Sp}{dvs:U V}{ds:U Aa}{E:XK}{x m:Af}{p:AB}{e:Expr}{t:TA}
theorem Tq{a:AZ}{H:Hp}{s:Ab}{Q:VK}{us:U Aa}(F:A2 X.β X.w X.K X.mg X.χ CX k f fd ps sp)(c:AL k X.A)(d:Binds X.K fd ps ds)(hd:Aq dvs ds)(g:FR CX X E) (l:Inv X a I H s) (r:Aq vs us) (h:sp (vs++dvs) H Q E):wpAny (Ae X.β X.w) X.A (call (.I f) us) (EP X a I Q) X.xe s:=by
 apply wpAny_call<|codeAny_mono (F.run X.A X.stack s H ⟨us,[]⟩ (us++ds) (vs++dvs) Q E c l.env0 (d s us l.kIn (show(us++ds).length=ps.length by rw[<- (r.append hd).length];show F.len _ _ _ _ h)) (r.append hd) h) λr i b=>?_;cases r with|error e=>show g a I H s e i l b|ok j=>
  cases j with
  |ret u=>show l.after b
  |next=>show BX b
  |brk=>show BX b
  |cont=>show BX b
theorem Qb(F:A2 X.β X.w X.K X.mg X.χ CX k f fd ps sp)(i:AL k X.A)(j:Gl X x)(l:X.mg x=Z (.I f))(m:Jb X.K (.I f)=J')(n:Binds X.K fd ps ds)(hd:Aq dvs ds)(o:FR CX X E) (u:PA X (e::es) t) (b:Ed x:=by ext) (v:AJ (e::es) X.G=(O',Ar e X.G)::AJ es X.G:=by rfl) (c:(AD pos (AJ es X.G)).any (·.1)=O':=by rfl):PE X (.Λ (.ε x p) (e::es) [] pos) (Qa sp dvs E t):=by
 intro a s y H Q d h;show NO<|Te d j l (PySem.W.callWith_K (h₀:=X.base) d.ok.mod.kin m (A1 (u pos a s y H _ d h) λz B ⟨C,G,g,r,q⟩=>#[g.kIn,Tq F i n hd o g r q]) v c) b
theorem Tr(y:PE X o ta)(c:Fs X.K C)(j:K8 X.K C m f)(F:A2 X.β X.w X.K X.mg X.χ CX k f fd ps sp)(L:AL k X.A)(M:Binds X.K fd ps ds)(hd:Aq dvs ds)(N:FR CX X E)(P:PA X (e::es) t) (d:AJ (e::es) X.G=(O',Ar e X.G)::AJ es X.G:=by rfl) (g:(AD pos (AJ es X.G)).any (·.1)=O':=by rfl) (T:Ar (.Λ (.α o m apos) (e::es) [] pos) X.G=(do
   let n <- Ar o X.G;standAt apos.atName;let(f,i) <- DU [n] (getMethod n m pl);callWith pos f i (AD pos (AJ (e::es) X.G)) (GB pos (GC [] X.G))):=by rfl):PE X (.Λ (.α o m apos) (e::es) [] pos) (J2 C m sp dvs E ta t):=by
 intro b s p H Q S h;apply PySem.W.methodCall_KW (pl:=pl) (A1 (y b s p H _ S h) λu R Y=>?_) T;let(x,H1,v,rx,a,dx,fs,rfl,ea,l,q):=Y;obtain rfl:u=DJ a:=rx;show YG v ea c j l<|PySem.W.callWith_K (first:=[.ref a]) (h₀:=X.base) S.ok.mod.kin j.kp (A1 (P pos b R p H1 _ v q) λz s2 ⟨B,H2,G,r,q2⟩=>#[G.kIn,Tq (us:=.I a::z) (vs:=.I a::B) F L M hd N G (.Θ rfl r) q2]) d g
theorem Ts(j:PE X o ta)(c:Fs X.K C)(g:K8 X.K C m f)(F:A2 X.β X.w X.K X.mg X.χ CX k f fd ps sp)(n:AL k X.A)(p:Binds X.K fd ps ds)(hd:Aq dvs ds)(r:FR CX X E) (t:Ar (.Λ (.α o m apos) [] [] pos) X.G=(do
   let i <- Ar o X.G;standAt apos.atName;let(f,d) <- DU [i] (getMethod i m pl);callWith pos f d (AD pos (AJ [] X.G)) (GB pos (GC [] X.G))):=by rfl):PE X (.Λ (.α o m apos) [] [] pos) (J2 C m sp dvs E ta NN):=by
 intro b s v H Q P h;apply PySem.W.methodCall_KW (pl:=pl) (A1 (j b s v H _ P h) λu G y=>?_) t;let(x,N,e,z,a,L,M,rfl,B,l,q):=y;obtain rfl:u=DJ a:=z;show YG e B c g l<|PySem.W.callWith_K0 (first:=[.I a]) e.kIn g.kp (Tq (us:=[.I a]) (vs:=[.I a]) F n p hd r e (.Θ rfl .ϔ) q)
structure Mk(K:Ap)(C f:Ac):Prop where
 makes:PySem.W.makesIn K C=J'
 init:J1 K (.I C) "__init__"=Z (Z (.I f))
 fn:PySem.W.isFn K (.I f)=J'
 kp:Jb K (.I C)=J'
theorem pF{a:AZ}{H:Hp}{s:Ab}{Q:VK}{us:U Aa}(M:Mk X.K C f)(F:A2 X.β X.w X.K X.mg X.χ CX k f fd ps sp)(j:AL (k+1) X.A)(l:Binds X.K fd ps ds)(hd:Aq dvs ds)
  (m:FR CX X E) (B:Inv X a I H s) (r:Aq vs us)
  (h:∀x c,H x=J->H c=J->x=c+1->sp (.I x::(vs++dvs)) (AK (AK H c (.Κ x)) x (.ins C c [])) (λv n=>v=.Α/\Q (.I x) n) E):
  wpAny (Ae X.β X.w) X.A (call (.I C) us) (EP X a I Q) X.xe s:=by
 let g:=h (s.u.J.o+1) s.u.J.o (B.Ϫ.Ψ (Nat.le_succ _)) (B.Ϫ.Ψ (AX _)) rfl
 let d:=Inv.made (C:=C) B
 let i:Aq (V.I (s.u.J.o+1)::(vs++dvs)) (DJ (s.u.J.o+1)::(us++ds)):=.Θ rfl (r.Ι hd)
 let o:(DJ (s.u.J.o+1)::us++ds).a=ps.a:=by
  let e:=i.a
  rw[F.ϩ _ _ _ _ g]at e
  show e.τ
 apply wpAny_call (ph (f:=f) B.kIn M.makes M.init (beq_iff_eq.mp M.fn) (codeAny_mono (F.run _ X.ϟ _ _ #[DJ (s.u.J.o+1)::us,[]] (DJ (s.u.J.o+1)::(us++ds)) _ _ E (j.make C us [])
  (d.env0.make C us []) (l _ (DJ (s.u.J.o+1)::us) d.kIn o) i g) λr p b=>?_))
 cases r with
 |error e=>show m a I _ _ e p d b
 |ok q=>
  cases q with
  |ret u=>
   let(v,t,y,z,rfl,q3):=d.after b
   show#[z,#[V.I (s.u.J.o+1),t,y,rfl,q3]]
  |next=>show BX b
  |brk=>show BX b
  |cont=>show BX b
theorem pG(M:Mk X.K C f)(F:A2 X.β X.w X.K X.mg X.χ CX k f fd ps sp)(i:AL (k+1) X.A)(j:Gl X x)(l:X.mg x=Z (.I C))(m:Binds X.K fd ps ds)(hd:Aq dvs ds)(n:FR CX X E) (o:PA X (e::es) t) (b:Ed x:=by ext) (u:AJ (e::es) X.G=(O',Ar e X.G)::AJ es X.G:=by rfl) (c:(AD pos (AJ es X.G)).any (·.1)=O':=by rfl):PE X (.Λ (.ε x p) (e::es) [] pos) (pE C sp dvs E t):=by
 intro a s v H Q d h;show NO<|Te d j l (PySem.W.callWith_K (h₀:=X.base) d.ok.mod.kin M.kp (A1 (o pos a s v H _ d h) λy z ⟨B,G,g,r,q⟩=>#[g.kIn,pF M F i m hd n g r q]) u c) b
end
def PK(X:Cx)(b:U Ei)(t:TA):Prop:=
 ∀(c:AB) (a:AZ) (s:Ab) (d:St) (H:Hp) (Q:U V->Hp->Prop),Inv X a d H s->t d H Q->wpAny (Ae X.β X.w) X.A (evalAll ((GB c (GC b X.G)).j (·.2))) (AP X a d Q) X.xe s
section
variable{k:Nat}{f:Ac}{x m:Af}{p kpos:AB}{e:Expr}{kws:U Ei}{t:TA}{nm:O Af}
theorem pH:PK X [] NN:=λ_ _ _ _ H Q a h=>wpAny_evalAll_nil #[[],H,a,.ϔ,h]
theorem pI(c:PE X e te)(d:PK X kws t):PK X (#[nm,e,kpos]::kws) (YI te t):=by
 intro pos a s b H Q v h;show wpAny_evalAll_cons<|Ao<|A1 (c a s b H _ v h) λu f ⟨x,g,i,j,k⟩=>Ao<|wpAny_standAt<|AT<|A1 (d pos a f b g _ i k) λq r ⟨l,m,n,o,p⟩=>#[x::l,m,n,.Θ j o,p]
end
structure Ft(N P:List Af)(sc:Scope):Prop where
 kind:sc.ϳ=.Ϻ
 co:sc.isCoroutine=O'
 gen:sc.isGenerator=O'
 nd:N.η
 pre:N.ϋ P.a=P
 par:∀x∈P,sc.υ.S x=Z .Ϡ\/sc.υ.S x=Z .Ν
 nofree:∀y∈sc.υ,y.2≠.ύ
theorem YK{kindOf:Af->O HC}{x:Af}:∀{a:U (Af×Aa)}{m:Bz},(∀v,(x,v)∉a)->bindL kindOf a m x=m x
 |[],_,_=>rfl
 |(n,v)::r,m,h=>by
  unfold bindL;rw[YK λw b=>h w<|Bl _ b];split
  .grind [Bh]
  .rfl
theorem YL{kindOf:Af->O HC}{x:Af}:∀{a:U (Af×Aa)}{m:Bz},(∀v,(x,v)∉a)->bindC kindOf a m x=m x
 |[],_,_=>rfl
 |(n,v)::r,m,h=>by
  unfold bindC;rw[YL λw b=>h w<|Bl _ b];split
  .rfl
  .grind [Bh]
theorem YM{kindOf:Af->O HC}{x:Af}{v:Aa}:∀{P:U Af}{vs:U Aa}{i:Nat}{m:Bz},P.η->P[i]?=Z x->vs[i]?=Z v->kindOf x=Z .Ϡ->bindL kindOf (P.zip vs) m x=Z v
 |[],_,_,_,_,h,_,_=>by simp at h
 |_::_,[],_,_,_,_,h,_=>by simp at h
 |p::P,w::vs,0,m,nd,a,b,c=>by
  simp at a b;subst a;subst b;change bindL kindOf ((p,w)::P.zip vs) m p=_
  unfold bindL;rw[YK λv d=>(Eu.mp nd).1 (NP d).1,if_pos c];simp
 |p::P,w::vs,i+1,m,nd,a,b,c=>by
  unfold bindL;show YM (i:=i) (Eu.mp nd).2 (by exists a) (by exists b) c
theorem YN{kindOf:Af->O HC}{x:Af}{v:Aa}:∀{P:U Af}{vs:U Aa}{i:Nat}{m:Bz},P.η->P[i]?=Z x->vs[i]?=Z v->kindOf x≠Z .Ϡ->bindC kindOf (P.zip vs) m x=Z v
 |[],_,_,_,_,h,_,_=>by simp at h
 |_::_,[],_,_,_,_,h,_=>by simp at h
 |p::P,w::vs,0,m,nd,a,b,c=>by
  simp at a b;subst a;subst b;change bindC kindOf ((p,w)::P.zip vs) m p=_
  unfold bindC;rw[YL λv d=>(Eu.mp nd).1 (NP d).1,if_neg c];simp
 |p::P,w::vs,i+1,m,nd,a,b,c=>by
  unfold bindC;show YN (i:=i) (Eu.mp nd).2 (by exists a) (by exists b) c
def HD(N:U Af)(vs:U V):St:=vs.j Z++EK (N.a-vs.a) J
def D6(CX:Eg)(P:AM)(w:Aj)(K:Ap)(mg:Bz)(base:Al)(N:U Af)(a:Af)(scope:Scope)(f:Ac)(c:Aa)(A:Ag)(outer:U Env)(s:Ab)(H:Hp)(E:XK):Cx where
 prog:=P
 w:=w
 K:=K
 mg:=mg
 base:=base
 A:=A.ϫ (Bj a scope s.u.J.o f c)
 N:=N
 s₀:=s
 H₀:=H
 env:=Bj a scope s.u.J.o f c
 outer:=outer
 stack:=Bj a scope s.u.J.o f c::outer
 ex:=[]
 calm:=J'
 fn:=λ_=>J'
 pn:=[]
 xe:=λe d=>wpAny (Ae P w) (A.ϫ (Bj a scope s.u.J.o f c)) (leaving (Bj a scope s.u.J.o f c) e) (λ_ b=>CX outer H s E e b) (λg b=>CX outer H s E g b) d
theorem YO{a:Scope}{n:Nat}{x:Af}(h:a.υ.S x=Z .Ν):∃c,(cellsFrom n a.υ []).S x=Z c:=by
 let q:=PySem.W.cellsFrom_some a.υ n []<|.Q h;show Option.isSome_iff_exists.mp q
theorem pJ{P:AM}{w:Aj}{K:Ap}{mg:Bz}{base:Al}{N l:U Af}{d:Af}{f:Ac}{G:Aa}{A:Ag}{outer:U Env}{s F:Ab}{H:Hp}{E:XK}{us:U Aa} (S:Ft N l scope) (hd:A.ϣ=J) (j:Dd P w K mg base A outer s H) (R:vs.a=l.a) (r:Aq vs us) (x:InCallC s s.u.J.o (bindL (Bj d scope s.u.J.o f G).kindOf (l.zip us) λ_=>J) (cellsFrom (s.u.J.o+1) scope.υ []) (bindC (Bj d scope s.u.J.o f G).kindOf (l.zip us) λ_=>J) F):Inv (D6 CX P w K mg base N d scope f G A outer s H E) [] (HD N vs) H F:=by
 let Q:l.a<=N.a:=by have:=congrArg List.a S.pre;rw[Jc]at this;lia
 let(X,Y,rfl,L):=x.Ϙ;let m:∀b:Ac,b∉(D6 CX P w K mg base N d scope f G A outer s H E).ex:=λb z=>absurd (show b∈([]:U Ac)from z) (by simp);apply#[#[j.mod,S.ϳ,rfl,rfl,AX _,λy z c X g=>?_,λy o=>?_,λy c _ h=>?_,λ_=>hd,Around.frames_deeper j.frames,.σ #[rfl,rfl],λb z=>absurd z<|m b,j.bs,j.bsz,λb _ _=>m b,λb z=>absurd z<|m b,j.funs,j.frf],
  rfl,j.bare,Un.ϱ L,#[_,x.toInCall.ns,λi y v X g h3=>?_],λy c h=>#[_,x.Ν y c h],j.Ϫ.Ψ<|AX _,λy c h=>?_,λp t=>absurd (show p∈([]:AZ)from t) (by simp),j.Ϫ.ϱ L,?_]
 .show name_of_addr x.apart (La X)<|La g
 .rcases o with o|o
  .show YO o
  .show absurd rfl<|S.nofree _<|La o
 .show F8<|x.above y c<|La h
 .let B:i<vs.a:=by
   unfold HD at g;by_cases B:i<vs.a
   .show B
   .rw[G8 (by exists B),Lb]at g;split at g<;>cases g
  let T:vs[i]?=Z v:=by
   unfold HD at g;rw[Fd (by exists B),CM]at g;cases e:vs[i]? with
   |none=>rw[e]at g;cases g
   |some a=>rw[e]at g;cases g;rfl
  let(u,M,W):=r.Ρ T;let t:l[i]?=Z y:=by
   rw[<- S.pre,YP<|J3 B R];show X
  let C:l.η:=S.pre ▸ S.nd.sublist (List.take_sublist _ _);apply#[u,W,?_];rcases S.par y (HE t)with k|k
  .show .Q #[k,YM C t M k]
  .let(c,e):=YO (n:=s.u.J.o+1) k;apply .σ #[.Q k,c,e,?_];let q:=x.Ν y c e;rw[YN C t M (by change scope.υ.S y≠_;rw[k];decide)]at q;show q
 .show j.Ϫ.Ψ<|F8<|x.above y c<|La h
 .unfold HD;change _=N.a
  rw[EL,Bq,Ms];lia
theorem pK{P:AM}{w:Aj}{K:Ap}{mg:Bz}{base:Al}{k:Nat}{f:Ac}{name a:Af}{c:Arguments}{g:U AF}{R T m pm d ct oc:Aa}{X od:O Ac} {C:Array (O Aa)} {N B:U Af} {sp:Sp} (lk:K.S f=Z #[oc,od,.func (J4 name a c g scope R T m pm X d ct),C]) (G:PySem.W.codeIn K d a=J') (S:Ft N B scope) (len:∀vs H Q E,sp vs H Q E->vs.a=B.a) (i:∀(A:Ag) (outer:U Env) (s:Ab) (H:Hp) (vs:U V) (Q:VK) (E:XK),AL k (A.ϫ (Bj a scope s.u.J.o f d))->sp vs H Q E->∃t,EZ (D6 CX P w K mg base N a scope f d A outer s H E) g t/\t {nx:=λ_ H'=>Q .Α H',rt:=Q} (HD N vs) H):A2 P w K mg base CX (k+1) f (J4 name a c g scope R T m pm X d ct) B sp:=by
 apply#[len,λA outer s H args us vs Q E zA p hb r z=>?_];let Y:K.In s.u:=p.mod.kin.keeps λb o e=>(p.bs b o e).1;let j:∀y∈B.zip us,scope.υ.S y.1=Z .Ϡ\/(scope.υ.S y.1=Z .Ν/\((cellsFrom (s.u.J.o+1) scope.υ []).S y.1).Ζ=J'):=λ⟨n,v⟩ hy=>by
  rcases S.par n (NP hy).1 with q|q
  .show .Q q
  .show .σ #[q,PySem.W.cellsFrom_some _ _ _<|.Q q]
 apply codeAny_call_function zA.depth (Y _ _ lk) rfl S.co S.gen rfl (PySem.W.codeRec_of Y G)<|hb _ _ _ _ ?_;apply wpAny_newFunctionEnv_cells S.kind j λenv he s1 x=>?_;subst he;apply#[(p.mod.nolimit.keeps λb o e=>(p.bs b o e).1).keeps x.toInCall.keep,codeAny_func ?_];let(t,ht,hq):=i A outer s H vs Q E (zA.ϫ _) z;apply wpAny_mono (ht [] s1 (HD N vs) H _ (pJ S zA.hd p (len _ _ _ _ z) r x) hq) (λfl L l=>?_) λe L l=>l;let fin:∀{h:St} {H':Hp} {v:V} {u:Aa},Inv (D6 CX P w K mg base N a scope f d A outer s H E) [] h H' L->RelV v u->Q v H'->CE outer P w H s Q u L:=
  λ{h H' v u} F M q=>#[v,H',F.os,F.bare,F.χ,F.Ϫ,M,q]
 cases fl with
 |ret u=>
  let(v,h,H',F,M,q):=l;show fin F M q
 |next=>
  let(h,H',F,q):=l;show fin (v:=V.Α) (u:=Value.Δ) F rfl q
 |brk=>
  let(_,_,_,q):=l;show BX q
 |cont=>
  let(_,_,_,q):=l;show BX q
section
variable{x:Af}{p:AB}{e:Expr}{t:TA}{id T:String}{r:U V->Hp->VK->Prop}
def Qc(r:U V->Hp->VK->Prop)(t:TA):TE:=λa H Q=>t a H λb c=>r b c Q
theorem pL(f:E2 X (.Β id) r)(g:Gl X x)(i:X.mg x=J)(j:Fp x=Z (.Β id))(k:PA X (e::es) t)(l:x≠"__name__":=by ext)(b:Ed x:=by ext) (m:AJ (e::es) X.G=(O',Ar e X.G)::AJ es X.G:=by rfl) (c:(AD pos (AJ es X.G)).any (·.1)=O':=by rfl):PE X (.Λ (.ε x p) (e::es) [] pos) (Qc r t):=by
 intro a s d H Q z h;show NO<|Il z g i j (PyProof.Rows.callWith_builtin1 (A1 (k pos a s d H _ z h) λn o ⟨q,u,v,w,y⟩=>f a o d u q n Q v w y) m c) l b
theorem YQ(f:E2 X (.ι T) r)(g:Gl X x)(i:X.mg x=J)(j:Fp x=Z (.ι T))(k:PA X (e::es) t)(l:x≠"__name__":=by ext)(b:Ed x:=by ext) (m:AJ (e::es) X.G=(O',Ar e X.G)::AJ es X.G:=by rfl) (c:(AD pos (AJ es X.G)).any (·.1)=O':=by rfl):PE X (.Λ (.ε x p) (e::es) [] pos) (Qc r t):=by
 intro a s d H Q z h;show NO<|Il z g i j (NH (A1 (k pos a s d H _ z h) λn o ⟨q,u,v,w,y⟩=>f a o d u q n Q v w y) m c) l b
end
end Internal
variable{X Y:Internal.Cx}{I:Internal.St}{H' H0:Internal.Hp}{vs ys:U Internal.V}{us:U (U Internal.At×Ac×Aa)}{CX:Internal.Eg}{ta tb te:Internal.TE}{D':Internal.Ends}{wi:Internal.TI}
namespace HT
open PySem PyProof.Rows
theorem rcLt_int(A:Ag)(s:Ab)(a:Int)(t:Tok)(c:Int)(u:Tok)(prog:AM)(w:Aj)(E:AR)(Q:AR)(h:Q (.ϥ (decide (a<c))) s):wpAny (Ae prog w) A (richCompare .Lt (.r a t) (.r c u)) Q E s:=(PyProof.Rows.lt_int h:wpAny (Ae prog w) A (DT .Lt (.r a t)<|.r c u) Q E s)
section
variable{prog:AM}{w:Aj}{A:Ag}{s:Ab}
def sIx(n d:Nat):O Int->Nat
 |none=>d
 |some v=>if v<0 then(v+(n:Int)).θ else min v.θ n
theorem YR(v:Int)(n d:Nat):(if v<0 then max (v+(n:Int)) 0 else min v (n:Int))=((sIx n d (Z v):Nat):Int):=by
 show(if v<0 then max (v+(n:Int)) 0 else min v (n:Int))=(((if v<0 then(v+(n:Int)).θ else min v.θ n):Nat):Int)
 grind
theorem pM(lo a:O Int)(n:Nat):YS lo a 1 (n:Int)=(((sIx n 0 lo:Nat):Int),((sIx n n a:Nat):Int)):=by
 unfold YS;apply Prod.ext ?_ ?_
 .cases lo with
  |none=>rfl
  |some v=>show YR v n 0
 .cases a with
  |none=>rfl
  |some v=>show YR v n n
theorem pN(i j:Nat):Tt (i:Int) (j:Int) 1=j-i:=by
 unfold Tt;grind
theorem YT{v:Aa}{o:O Int}{Q:O Int->Ab->Prop}(p:IsPart v o)(h:Q o s):wpAny (Ae prog w) A (Builtin.Slice.slicePartIndex v) Q E s:=by
 cases p with
 |none=>show slicePart_none h
 |int i t=>show slicePart_int h
theorem pO{f:Ac}{d e:Aa}{lo a:O Int}{n:Nat}{Q:Int×Int×Nat->Ab->Prop}(g:s.u.IsSliceOf f d e .Δ)(pl:IsPart d lo)(i:IsPart e a) (h:Q (((sIx n 0 lo:Nat):Int),1,sIx n n a-sIx n 0 lo) s):wpAny (Ae prog w) A (Builtin.Slice.sliceApplied (.I f) (Am (n:Int))) Q E s:=by
 let(os,b,j,c):=id g;apply Ao<|Ao<|Ga b c (x:=d) rfl (Ao<|Ga b c (x:=e) rfl (Ao<|Ga b c (x:=.none) rfl (AT ?_)));apply Ao<|slicePart_none ?_;apply Ao<|YT pl<|Ao<|YT i<|Ao<|AT ?_;change wpAny _ _ (match YS lo a 1 (n:Int)with|(lo,a)=>Am (lo,(1:Int),Tt lo a 1)) _ _ s
 rw[pM lo a n];change wpAny _ _ (Am (((sIx n 0 lo:Nat):Int),(1:Int),Tt ((sIx n 0 lo:Nat):Int) ((sIx n n a:Nat):Int) 1)) _ _ s
 rw[pN];show AT h
theorem pP(xs:Array Aa)(i k:Nat):((BI k).g7 λ(m:Nat)=>xs[((i:Int)+(m:Int)*1).θ]?).C=((xs.B.ρ i).ϋ k).C:=by
 let e:(λ(m:Nat)=>xs[((i:Int)+(m:Int)*1).θ]?)=λm=>xs[i+m]?:=by
  grind
 have:=pick_run xs i k;let a:((λx=>xs[x]?)∘λx=>i+x)=λm=>xs[i+m]?:=rfl;simp_all
theorem getItem_tuple_cut{t g:Ac}{i j:Aa}{lo a:O Int}{Q:AR}(b:IsTup s.u t items)(k:s.u.IsSliceOf g i j .Δ)(pl:IsPart i lo)(o:IsPart j a) (p:sIx items.o 0 lo=0/\sIx items.o items.o a=items.o->Q (.I t) s) (h:¬ (sIx items.o 0 lo=0/\sIx items.o items.o a=items.o)->Q (.I s.u.J.o) {s with heap:=s.u.Ο {cls:=.ι "tuple",data:=.Ϲ ((items.B.ρ (sIx items.o 0 lo)).ϋ (sIx items.o items.o a-sIx items.o 0 lo)).C} }) (hsz:items.o<=Ay):wpAny (Ae prog w) A (getItem (.I t) (.I g)) Q E s:=by
 let(os,d,e,q):=id k;unfold getItem;try with_reducible apply F9 ?_
 apply Ao<|wpAny_sequenceKey b.ϛ (by ext) ?_;apply Ao (Mt (name:=J5 "__getitem__") b.ϛ PyProof.Rows.slot_tuple_getitem
  (Lc PyProof.Rows.slot_tuple_getitem b.ϛ entry_tuple_getitem ?_<|args_tuple_getitem _ _))
 change wpAny _ _ (Builtin.Tuple.tupleItemsOf (.I t) >>= _) _ _ s
 apply Ao<|tupleItemsOf_ b ?_;apply Ao<|Mu ⟨os,d,e⟩ ?_;apply Ao<|pO k pl o ?_;change wpAny _ _ (if(((sIx items.o 0 lo:Nat):Int)==0&&(1:Int)==1&&(sIx items.o items.o a-sIx items.o 0 lo)==items.o)=J' then _ else _) _ _ s
 by_cases n:sIx items.o 0 lo=0/\sIx items.o items.o a=items.o
 .let c:((((sIx items.o 0 lo:Nat):Int)==0&&(1:Int)==1&&(sIx items.o items.o a-sIx items.o 0 lo)==items.o)=J'):=by
   simp_all
  rw[if_pos c];show Ao<|Ao<|Mu b.ϛ<|AT<|Ao<|Gb<|AT ⟨_,rfl,AT<|p n⟩
 .let f:¬ ((((sIx items.o 0 lo:Nat):Int)==0&&(1:Int)==1&&(sIx items.o items.o a-sIx items.o 0 lo)==items.o)=J'):=by
   simp_all
  rw[if_neg f,pP];show Ao (m:=Builtin.Tuple.tupleExact _) (Ld (AT #[_,rfl,AT<|h n])<|Bv ((List.take_sublist _ _).E<|List.drop_sublist _ _).length_le hsz)
end
end HT
namespace Internal
open PySem PySem.Spec PyProof.Rows
abbrev TO:=St->Hp->(O Int->Hp->Prop)->Prop
def PO(X:Cx)(e:O Expr)(t:TO):Prop:=
 ∀(a:AZ) (s:Ab) (b:St) (H:Hp) (Q:O Int->Hp->Prop),Inv X a b H s->t b H Q ->
  wpAny (Ae X.β X.w) X.A (evalPart e X.G) (λu d=>∃o c,Inv X a b c d/\IsPart u o/\Q o c) X.xe s
def pQ:TO:=λ_ H Q=>Q J H
def pR(t:TE):TO:=λa H Q=>t a H λx b=>∃i,x=.r i/\Q (Z i) b
theorem Qd{ns:U Int}:∀{us:U Aa},Aq (ns.j V.r) us->IntsAre us ns:=by
 induction ns with|nil=>intro us r;rw[Dj]at r;cases r;show .ϔ|cons n ns a=>
  intro us r;cases r with
  |cons b c=>
   let(t,rfl):=b;show .Θ n t<|a c
section
variable{e:Expr}{lo hi:O Expr}{tl th:TO}
theorem pS:PO X J pQ:=by
 intro a s b H Q c h;show AT #[J,H,c,.Δ,h]
theorem pT(h:PE X e te):PO X (Z e) (pR te):=by
 intro a s b H Q l c;apply A1 (h a s b H _ l c) λu k d=>?_;let(x,f,g,j,i,rfl,q):=d;let(t,rfl):=j;show#[Z i,f,g,.r i t,q]
def J6(X:Cx)(r:V->O Int->O Int->Hp->VK->Prop):Prop:=
 ∀(a:AZ) (s:Ab) (b:St) (H:Hp) (x:V) (v c d:Aa) (lo hi:O Int) (e:Ac) (Q:VK),Inv X a b H s->RelV x v->s.u.IsSliceOf e c d .Δ->IsPart c lo->IsPart d hi->r x lo hi H Q ->
  ∃T id,typeLookup (.ι T) "__getitem__"=Am (Z (.Β id))/\s.TypeIs v T/\wpAny (Ae X.β X.w) X.A (getItem v (.I e)) (EP X a b Q) X.xe s
theorem J6.or{r b:V->O Int->O Int->Hp->VK->Prop}(h:J6 X r)(h':J6 X b):J6 X (λx lo hi H Q=>r x lo hi H Q\/b x lo hi H Q):=by
 intro a s c H x v d e lo hi f Q l g i j k q;rcases q with q|q
 .show h a s c H x v d e lo hi f Q l g i j k q
 .show h' a s c H x v d e lo hi f Q l g i j k q
def pU(r:V->O Int->O Int->Hp->VK->Prop)(te:TE)(tl th:TO):TE:=λa H Q=>te a H λx b=>tl a b λl c=>th a c λu d=>r x l u d Q
theorem pV{r:V->O Int->O Int->Hp->VK->Prop}(j:J6 X r)(k:PE X e te)(m:PO X lo tl)(n:PO X hi th):PE X (.μ e (.Slice lo hi J p2) pos) (pU r te tl th):=by
 intro a s d H Q P h;apply Subscript_<|A1 (k a s d H _ P h) λv o f=>?_;let(x,p,t,w,y):=f;apply wpAny_Slice<|A1 (m a o d p _ t y) λg z ⟨l,A,B,C,E⟩=>A1 (n a z d A _ B E) λi c f=>?_;let(u,G,F,L,q3):=f;apply AT ?_;let(T,id,M,N,K):=j a {c with heap:=c.u.Ο {cls:=.ι "slice",data:=.ϝ (T' [g,i,.Δ])} } d G x v g i l u c.u.J.o Q (F.ϱ (t':=c.Γ) λb ob q=>BC _ q) w (Heap.IsSliceOf.new ..) C L q3;show tail_any (ops:=[.I c.u.J.o,v]) N M K (by with_unfolding_all rfl)
def Jd(xs:U V)(lo hi:O Int):U V:=(xs.ρ (HT.sIx xs.a 0 lo)).ϋ (HT.sIx xs.a xs.a hi-HT.sIx xs.a 0 lo)
theorem YU(xs:U V)(lo hi:O Int):(Jd xs lo hi).a<=xs.a:=((List.take_sublist _ _).E<|List.drop_sublist _ _).length_le
end
def D7(n:Nat)(i:Int):O Nat:=if 0<=i then(if i<n then Z i.θ else J)else if -(n:Int)<=i then Z (i+n).θ else J
def atI{a:Type}(xs:U a)(i:Int):O a:=(D7 xs.a i).L λj=>xs[j]?
theorem YV{n:Nat}{i:Int}(h:D7 n i=Z j):seqIndex? i n=Z j/\j<n /\ -(n:Int)<=i/\i<n:=by
 unfold D7 at h;by_cases b:0<=i
 .rw[if_pos b]at h;by_cases a:i<n
  .rw[if_pos a]at h;show#[by rw[seqIndex_of b a,EH h],∅,∅,a]
  .rw[if_neg a]at h;cases h
 .rw[if_neg b]at h;by_cases a : -(n:Int)<=i
  .rw[if_pos a]at h;show#[by rw[seqIndex_neg (Qe b) a,EH h],∅,a,∅]
  .rw[if_neg a]at h;cases h
theorem Tu{a:Type}{xs:U a}{i:Int}{v:a}(h:atI xs i=Z v):∃j,seqIndex? i xs.a=Z j/\xs[j]?=Z v/\j<xs.a /\ -(xs.a:Int)<=i/\i<xs.a:=by
 unfold atI at h;cases e:D7 xs.a i with|none=>rw[e]at h;cases h|some j=>
  rw[e]at h;let(b,c,d,f):=YV e;show#[j,b,h,c,d,f]
theorem ZI{a:Type}{xs:U a}{v:a}(h:xs[j]?=Z v):atI xs (j:Int)=Z v:=by
 let b:j<xs.a:=(Cr.mp h).1;let e:D7 xs.a (j:Int)=Z j:=by
  unfold D7;rw[if_pos ∅,if_pos ∅];simp
 unfold atI;rw[e];show h
def NQ(b:Expr):Prop:=∀o i,subscripted b O' o i=operate [o,i] (getItem o i)
def HF(X:Cx)(r:R2):Prop:=
 ∀(b slice:Expr) (a:AZ) (s:Ab) (c:St) (H:Hp) (x y:V) (v u:Aa) (Q:VK),Inv X a c H s->RelV x v->RelV y u->r x y H Q ->
  subscripted slice O' v u=operate [v,u] (getItem v u)->wpAny (Ae X.β X.w) X.A (subscriptTail b slice v u) (EP X a c Q) X.xe s
def Je(X:Cx)(id:String)(r:V->U V->Hp->VK->Prop):Prop:=
 ∀(a:AZ) (s:Ab) (b:St) (H:Hp) (x:V) (c:U V) (v:Aa) (d:U Aa) (Q:VK),Inv X a b H s->RelV x v->Aq c d->r x c H Q ->
  wpAny (Ae X.β X.w) X.A (call (.Β id) (v::d)) (EP X a b Q) X.xe s
section
variable{a b:Expr}
theorem HF.or{r c:R2}(h:HF X r)(h':HF X c):HF X (λx y H Q=>r x y H Q\/c x y H Q):=by
 intro a slice b s d H x y v u Q i e f q g;rcases q with q|q
 .show h a slice b s d H x y v u Q i e f q g
 .show h' a slice b s d H x y v u Q i e f q g
theorem pW{r:R2}(d:HF X r)(e:PE X a ta)(f:PE X b tb)(g:NQ b):PE X (.μ a b pos) (Mq r ta tb):=by
 intro c s i H Q o h;show Subscript_<|Tk e f o h λv u j x y k l m n q=>d a b c j i k x y v u Q l m n q<|g _ _
def YW(K:Ap):R2:=λx y H Q=>∃p a i v,x=.I p/\y=.r i/\BW K H p a/\atI a i=Z v/\Q v H
def YX(K:Ap):R2:=λx y H Q=>∃p a i v,x=.I p/\y=.r i/\Cg K H p a/\atI a i=Z v/\Q v H
def YY:R2:=λx y H Q=>∃z i c,x=.ψ z/\y=.r i/\z.a<=Ay/\atI z.Ϝ.B i=Z c/\Q (.ψ #[(T' [c])]) H
theorem Jf:HF X (YW X.K):=by
 rintro e slice a s m H x y v u Q R n o ⟨p,M,i,z,rfl,rfl,A,B,q⟩ k;cases n;let(t,rfl):=o;let(f,r,g,hz):=R.Ϩ A;let(j,c,C,N,E,G):=Tu B;let(w,l,b):=r.Ρ C;let F:=r.a;let P:=NL;by_cases d:0<=i
 .let h:i.θ=j:=by
   rw[seqIndex_of d G]at c;show EH c
  show item_listR g.ϑ d ∅ (by rw[h];exists l) #[z,H,R,b,q] k
 .let h:(i+(f.C.o:Int)).θ=j:=by
   rw[seqIndex_neg (Qe d) E]at c;rw[B5,<- F];show EH c
  show subscriptTail_builtinR (x:=w) g.ϑ.ϛ slot_list_getitem.S
   (wpAny_getItem_list_neg (Q:=λr L=>r=w/\EP X a m Q r L) g.ϑ (Qe d) (by rw[B5]<;>lia) ∅ (by rw[h];exists l) #[rfl,#[z,H,R,b,q]]) k
theorem Le:HF X (YX X.K):=by
 rintro b slice a s e H x y v u Q M f g ⟨p,C,i,z,rfl,rfl,h,k,q⟩ l;cases f;let(t,rfl):=g;let(m,r,d,hz):=M.ϗ h;let(j,n,o,E,G,F):=Tu k;let(w,A,c):=r.Ρ o;let L:=NL;show subscriptTail_builtinR (x:=w) d.ϛ slot_tuple_getitem.S
  (getItem_tuple (j:=j) (Q:=λr B=>r=w/\EP X a e Q r B) d ∅ ∅ (by rw[B5,<- r.a];show n) (by exists A) #[rfl,#[z,H,M,c,q]]) l
theorem pX:HF X YY:=by
 rintro a slice b s n H x y v u Q w e f ⟨z,i,c,rfl,rfl,hz,g,q⟩ h;let(t,rfl):=e;let(o,rfl):=f;let(j,d,k,p,l,m):=Tu g;rw[show z.Ϝ.B.a=z.a by simp[Str.length]]at d l m;let r:=NL;show tail_any (typeIs_str s z t) slot_str_getitem.S (getItem_str (c:=c) (by
  grind) (by rw[d];exists k) #[.ψ #[(T' [c])],H,w.tok _,#[_,rfl],q]) h
def YZ(K:Ap):R2:=λx y H Q=>YW K x y H Q\/YX K x y H Q\/YY x y H Q
theorem pY:HF X (YZ X.K):=Jf.or<|Le.or pX
theorem pZ(a:U Aa)(n j:Nat)(u:Aa):Gc (·.ϐ j u) {cls:=.ι "list",data:=.Ϲ a.C n}={cls:=.ι "list",data:=.Ϲ (a.ν j u).C n}:=by
 simp[Gc]
theorem Inv.lst{b:AZ}{H:Hp}{s:Ab}{p:Ac}{xs:U V}(c:Inv X b I H s)(h:H p=Z (.O xs)):∃(a:U Aa) (n:Nat),Aq xs a/\s.u.R p=Z {cls:=.ι "list",data:=.Ϲ a.C n}/\xs.a<=Ay:=by
 let(z,a,n,r,e):=c.Ϫ p _ h;show#[a,n,r,e,z]
theorem Inv.lstUpd{a:AZ}{H:Hp}{s:Ab}{p:Ac}{xs:U V}{c its':U Aa}{n d:Nat}{f:Obj->Obj}(k:Inv X a I H s)(h:H p=Z (.O xs)) (i:s.u.R p=Z {cls:=.ι "list",data:=.Ϲ c.C n}) (g:f {cls:=.ι "list",data:=.Ϲ c.C n}={cls:=.ι "list",data:=.Ϲ its'.C d}) (r:Aq ys its') (hz:ys.a<=Ay) (t:Nat):Inv X a I (AK H p (.O ys)) {s with heap:=s.u.ϰ p f,toks:=t}:=by
 let e:(s.u.ϰ p f).R p=Z {cls:=.ι "list",data:=.Ϲ its'.C d}:=by
  rw[Qf f i (by rw[g]<;>rfl),g]
 apply k.write (x:=p) (e:=p) (by rw[h];trivial) (.Q rfl) (λb u j q=>(Tv _ _<|BM j).E q) ⟨_,e⟩ ?_;show⟨hz,its',d,r,e⟩
def p0:V->V->V->Hp->(Hp->Prop)->Prop:=λo i v H Q=>∃p a k j,o=.I p/\i=.r k/\H p=Z (.O a)/\D7 a.a k=Z j/\Q (AK H p (.O (a.ν j v)))
theorem Y0:Tg X p0:=by
 intro a s w H o i v C E u Q K x y z zQ;let(p,A,k,j,rfl,rfl,g,B,q):=zQ;cases x;let(t,rfl):=y;let(b,n,r,e,hz):=K.O g;let(c,G,h,l):=YV B;let F:=NL;let m:Inv X a w (AK H p<|.O<|A.ν j v) {s with heap:=s.u.ϰ p (Gc (·.ϐ j u))}:=
  K.lstUpd g e (pZ b n j u) (r.ν z j) (by rw[Jg];show hz) s.Γ
 by_cases d:0<=k
 .let f:k.θ=j:=by
   rw[seqIndex_of d l]at c;show EH c
  show PySem.W.ki_setAt e d ∅ (by rw[B5,<- r.a];show l)<|f ▸ ⟨_,m,q⟩
 .let f:(k+(b.C.o:Int)).θ=j:=by
   rw[seqIndex_neg (Qe d) h]at c;rw[B5,<- r.a];show EH c
  show PySem.W.ki_setBack e (Qe d) (by rw[B5,<- r.a];show h) ∅<|f ▸ ⟨_,m,q⟩
theorem p5(lo a:O Int)(n:Nat):(B6 lo a J n).1=((HT.sIx n 0 lo:Nat):Int)/\(B6 lo a J n).2.1=((HT.sIx n n a:Nat):Int)/\(B6 lo a J n).2.2=1:=by
 apply#[?_,?_,rfl]
 .cases lo with|none=>simp[B6,HT.sIx]|some i=>
   erw[B6,HT.sIx,Option.getD_none,show(1:Int)>0 by ext,if_true];grind
 .cases a with|none=>simp[B6,HT.sIx]|some i=>
   erw[B6,HT.sIx,Option.getD_none,show(1:Int)>0 by ext,if_true];grind
theorem p8(a:U Aa)(lo b:O Int):slicePick a.C lo b J=((a.ρ (HT.sIx a.a 0 lo)).ϋ (HT.sIx a.a a.a b-HT.sIx a.a 0 lo)).C:=by
 let(c,d,e):=p5 lo b a.C.o;unfold slicePick;rw[c,d,e];erw[sliceRange_one,pick_run,B5]<;>rfl
def p9(K:Ap):V->O Int->O Int->Hp->VK->Prop:=λx lo c H Q=>∃a b,x=.I a/\BW K H a b/\∀p,H p=J->Q (.I p) (AK H p (.O (Jd b lo c)))
theorem Jh:J6 X (p9 X.K):=by
 intro f s n H x v p t lo e u Q w h i j k zQ;let(a,c,rfl,l,q):=zQ;cases h;let(m,r,g,hz):=w.Ϩ l;let d:=r.a;apply#["list",_,slot_list_getitem.S,g.ϑ.ϛ,?_];apply wpAny_getItem_list_slice g.ϑ i j k .Δ (by simp) ?_ (by rw[B5]<;>lia);rw[p8,<- d];apply#[.I s.u.J.o,_,w.laid (t':=s.Γ) (o:=.O<|Jd c lo e) (λb y q=>BC _ q) (AX _) ?_,rfl,q _<|w.Ϫ.Ψ<|AX _];show⟨Bv (YU c lo e) hz,_,0,(r.ρ<|HT.sIx c.a 0 lo).ϋ<|HT.sIx c.a c.a e-HT.sIx c.a 0 lo,Co _ rfl⟩
def Y3:V->Bool
 |.non=>J'
 |.bl _=>J'
 |.int _=>J'
 |.str _=>J'
 |_=>O'
def qa:V->V->Bool
 |.non,.non=>J'
 |.bl a,.bl b=>a==b
 |.bl a,.int b=>(if a then 1 else 0)==b
 |.int a,.bl b=>a==(if b then 1 else 0)
 |.int a,.int b=>a==b
 |.str a,.str b=>a==b
 |_,_=>O'
theorem qc:E2 X (.ι "list") (λxs H Q=>∃p ys,xs=[.I p]/\(BW X.K H p ys\/Cg X.K H p ys)/\∀l,H l=J->Q (.I l) (AK H l (.O ys))):=by
 intro g s t H xs y Q z r zQ;let(p,ys,rfl,h,q):=zQ;let(u,rfl,v):=Fc r;cases v;let fin:∀(a:U Aa),Aq ys a->ys.a<=Ay->∀(c:Al) (d:Nat),(∀b m,s.u.R b=Z m->c.R b=Z m) ->
   c.R s.u.J.o=Z {cls:=.ι "list",dict:=J,data:=.Ϲ a.C d,slots:=(T' [])}->EP X g t Q (.I s.u.J.o) {s with heap:=c}:=λa f hz c d kp e=>
  #[.I s.u.J.o,_,z.laid (t':=s.Γ) kp (AX _) (show Bc X.β X.w _ c _ (.O ys)from#[hz,a,d,f,e]),rfl,q _<|z.Ϫ.Ψ<|AX _]
 rcases h with h|h
 .let(a,f,x,hz):=z.Ϩ h;let i:=f.a;let(o,j,k,n,hd):=x.ϑ;show call_list_seq p (.Q rfl) j k hd (λc d kp e=>fin a f hz c d kp e) (by erw[B5]<;>lia)
 .let(a,f,(o,j,k,n,hd),hz):=z.ϗ h;let i:=f.a;show call_list_seq p (.σ rfl) j k hd (λc d kp e=>fin a f hz c d kp e) (by erw[B5]<;>lia)
theorem qd:E2 X (.ι "tuple") (λxs H Q=>∃p ys,xs=[.I p]/\((BW X.K H p ys/\∀l,H l=J->Q (.I l) (AK H l (.X ys)))\/(Cg X.K H p ys/\Q (.I p) H))):=by
 intro g s n H xs t Q j r h;let(p,ys,rfl,h):=h;let(u,rfl,k):=Fc r;cases k;rcases h with⟨c,q⟩|⟨c,q⟩
 .let(a,d,f,hz):=j.Ϩ c;let i:=d.a;show call_tuple_list f.ϑ (λm kp=>#[.I m.J.o,_,((j.ϱ (t':=s.Γ) kp).laid (t':=s.Γ) (λb o e=>BC _ e) (AX _) (show Bc X.β X.w _ _ _ (.X ys)from#[hz,a,d,IsTup.new _ _])),rfl,q _<|(j.ϱ (t':=s.Γ) kp).Ϫ.Ψ (AX _)]) (by erw[B5]<;>lia)
 .let(a,d,f,hz):=j.ϗ c;show call_tuple_same f #[.I p,H,j,rfl,q]
def Qg(K:Ap)(T:String)(x:V)(H:Hp):Prop:=match x with
 |.str _=>T="str"
 |.int _=>T="int"
 |.ref p=>(T="list"/\∃a,BW K H p a)\/(T="tuple"/\∃o,K.S p=Z o/\o.cls=.ι "tuple"/\o.dict=J) \/
   (T="dict"/\(∃ks b,Rd H p (.dct ks b)))
 |_=>False
theorem Y4{b:AZ}{H:Hp}{s:Ab}{T:String}{x:V}{v:Aa}(q:Inv X b I H s)(r:RelV x v)(ty:Qg X.K T x H):s.TypeIs v T/\∀a,v=.I a->∃f,s.u.R a=Z f/\f.dict=J:=by
 cases x with
 |str z=>
  let(t,rfl):=r;cases(show T="str" from ty);show#[typeIs_str s z t,λ_ e=>nomatch e]
 |int i=>
  let(t,rfl):=r;cases(show T="int" from ty);show#[typeIs_int s i t,λ_ e=>nomatch e]
 |ref p=>
  cases r;rcases ty with⟨rfl,m,h⟩|⟨rfl,o,d,j,hd⟩|⟨rfl,_,_,d⟩
  .let(k,_,g,_):=q.Ϩ h;apply#[g.ϑ.ϛ,λa e=>?_];cases e;let(o,n,e,c,hd,_):=g;show#[o,e,hd]
  .apply#[#[o,q.kIn p o d,j],λa e=>?_];cases e;show#[o,q.kIn _ o d,hd]
  .let(_,_,_,o,_,_,e,ex,_):=d.ok q.Ϫ;apply#[#[o,e,ex.1],λa l=>?_];cases l;show#[o,e,ex.2.1]
 |_=>show BX ty
def qe(K:Ap)(T:String)(r:V->U V->Hp->VK->Prop)(c:TE)(t:TA):TE:=λa H Q=>c a H λx b=>Qg K T x b/\t a b λd e=>r x d e Q
variable{e:Expr}{to:TE}{t:TA}{name:Af}{T id:String}{r:V->U V->Hp->VK->Prop}
theorem G9(m:PlainAttrs T)(slot:Slot T name id)(g:typeOf (.Β id)=Am (.ι "method_descriptor"))(n:Je X id r)(p:PE X o to)(q:PA X (e::es) t) (c:FQ o name X.G (Ar o X.G)=Ar o X.G:=by rfl) (f:((AD cpos (AJ (e::es) X.G)).ϭ (λx=>!x.1)&&(GB cpos (GC [] X.G)).ϭ (λx=>x.1.Ζ) && decide ((e::es).a+([]:U Ei).a+(if([]:U Ei).Υ then 0 else 1)<30))=J':=by rfl) (d:(apos.ϴ==cpos.Ϯ)=J':=by rfl) (u:AJ (e::es) X.G=(O',Ar e X.G)::AJ es X.G:=by rfl) (b:(AD cpos (AJ es X.G)).any (·.1)=O':=by rfl):PE X (.Λ (.α o name apos) (e::es) [] cpos) (qe X.K T r to t):=by
 intro a s i H Q R h;apply wpAny_Call_method_late c f d rfl<|A1 (p a s i H _ R h) λv w y=>?_;let(x,z,j,k,ty,A):=y;let(B,C):=Y4 j k ty;apply#[T,id,m,slot,g,B,C,?_];let l:=q cpos a w i z _ j A;rw[u]at l ⊢;show Calls.callWith_builtin (by show(O'||(AD cpos<|AJ es X.env).any (·.1))=O';rw[b]<;>rfl)<|Calls.evalArgs_plain<|A1 l λE G ⟨F,L,M,N,P⟩=>n a G i L x F v E Q M k N P
end
def Qh(X:Cx)(id:String)(r:V->U V->Hp->VK->Prop):Prop:=
 ∀(a:AZ) (s:Ab) (b:St) (H:Hp) (x:V) (c:U V) (v:Aa) (d:U Aa) (Q:VK),Inv X a b H s->RelV x v->Aq c d->r x c H Q ->
  wpAny (Ae X.β X.w) X.A (call (.Β id) (v::d)) (EP X a b Q) X.xe s
theorem Aq.one{x:V}{us:U Aa}(h:Aq [x] us):∃u,us=[u]/\RelV x u:=by
 cases h with
 |cons r t=>cases t;show#[_,rfl,r]
theorem Aq.two{x y:V}{us:U Aa}(h:Aq [x,y] us):∃u v,us=[u,v]/\RelV x u/\RelV y v:=by
 cases h with
 |cons r t=>
  cases t with
  |cons q t=>cases t;show#[_,_,rfl,r,q]
theorem Aq.eraseIdx:∀{xs:U V}{us:U Aa}(i:Nat),Aq xs us->Aq (xs.Ε i) (us.Ε i)
 |_,_,_,.nil=>.ϔ
 |_,_,0,.cons _ t=>t
 |_,_,i+1,.cons r t=>.Θ r<|Aq.Ε i t
theorem Tw{a:Type}:∀(l:U a)(i:Nat),(l.Ε i).a<=l.a
 |[],_=>AX _
 |_::_,0=>Nat.le_succ _
 |_::r,i+1=>Nat.succ_le_succ<|Tw r i
section
variable{H:Hp}{s:Ab}{l b:Ac}{xs:U V}
theorem Inv.lset{a its':U Aa}{n:Nat}{f:Array Aa->Array Aa}(j:Inv X pins I H s)(b:H l=Z (.O xs)) (e:s.u.R l=Z {cls:=.ι "list",data:=.Ϲ a.C n}) (c:f a.C=its'.C) (d:Aq ys its') (hz:ys.a<=Ay):Inv X pins I (AK H l (.O ys)) {s with heap:=s.u.ϰ l (Gc f),toks:=t' }:=by
 let q:=PySem.IsL.ϰ e f;rw[c]at q;apply j.write (x:=l) (e:=l) (b ▸ trivial) (.Q rfl) (λi u g h=>(Tv s.u (Gc f)<|BM g).E h) ⟨_,q⟩ ?_;show⟨hz,its',_,d,q⟩
theorem Inv.lnew{a:U Aa}(c:Inv X pins I H s)(b:Aq ys a)(hz:ys.a<=Ay):Inv X pins I (AK H s.u.J.o (.O ys)) {s with heap:=s.u.Ο {cls:=.ι "list",data:=.Ϲ a.C},toks:=t' }:=c.laid (λ_ _ q=>BC _ q) (AX _) #[hz,a,0,b,Co _ rfl]
theorem Inv.fresh(a:Inv X pins I H s):H s.u.J.o=J:=a.Ϫ.Ψ<|AX _
theorem Inv.lstM(c:Inv X pins I H s)(b:H l=Z (.O xs)):xs.a<=Ay/\∃(a:U Aa)(n:Nat),Aq xs a/\xs.a=a.a/\s.u.R l=Z {cls:=.ι "list",data:=.Ϲ a.C n}:=by
 let(z,a,n,r,e):=c.Ϫ l _ b;show#[z,a,n,r,r.a,e]
theorem qf{n:Nat}(h:n<=Ay):Builtin.List.listTooLong n=O':=by
 show decide_eq_false<|Nat.not_lt.ϡ h
end
section
def qg:V->U V->Hp->VK->Prop:=λx b H Q=>∃l a y,x=.I l/\b=[y]/\H l=Z (.O a)/\a.a<Ay/\Q .Α (AK H l (.O (a++[y])))
theorem Qi:Qh X "list.append" qg:=by
 intro b s i H x j v k Q d f g zQ;let(l,m,y,rfl,rfl,c,hz,q):=zQ;cases f;let(u,rfl,h):=g.one;let(z,a,n,r,o,e):=d.lstM c;apply BY F.slot_list_append #[_,e,rfl] F.entry_list_append (F.args_list_append_2 _ _) (PySem.list_append l a.C n u (by rw[B5];lia)) #[e,?_];apply#[.Α,_,d.lset (its':=a++[u]) c e (by simp) (r.Ι<|.Θ h .ϔ) ?_,rfl,q];rw[EL,Mv];lia
def qh:V->U V->Hp->VK->Prop:=λx d H Q=>∃l b a c,x=.I l/\d=[.I b]/\H l=Z (.O a)/\H b=Z (.O c)/\a.a+c.a<=Ay/\Q .Α (AK H l (.O (a++c)))
theorem qi:Qh X "list.extend" qh:=by
 intro g s y H x A v B Q K j k zQ;let(l,b,C,E,rfl,rfl,h,m,hz,q):=zQ
 cases j
 let(u,rfl,o):=k.one
 cases o
 let(z,c,n,r,G,e):=K.lstM h
 let(i,a,n2,p,t,w):=K.lstM m
 let d:c.C.o+a.C.o<=Ay:=by rw[B5,B5];lia
 let f:¬ (!c.toArray.isEmpty&&Builtin.List.listTooLong (c.C.o+a.C.o))=J':=by
  rw[qf d,Bool.and_false]
  show NC
 apply BY F.slot_list_extend #[_,e,rfl] F.entry_list_extend (F.args_list_extend_2 _ _)
  (AutoSeq1.list_extend_list_list_0 l c.C n b a.C n2 f (B5 ▸ Nat.le_of_add_right_le d) (NR d)) #[e,w,?_]
 apply#[.Α,_,K.lset (its':=c++a) h e (by simp) (r.Ι p) ?_,rfl,q]
 rw[EL]
 show W.kdl_size hz
end
section
end
end Internal
namespace Att
open PySem PySem.W PySem.Calls PyProof.Rows
theorem qk{P:Params}{h:Al}:∀(ns:U Int)(vs:U Aa),WellAll P h vs (ns.j WData.r)->IntsAre vs ns:=by
 intro ns;induction ns with
 |nil=>
  intro vs w;cases w;show .ϔ
 |cons n ns c=>
  intro vs w;cases w with
  |cons a b=>
   cases a;show .Θ _ _<|c _ b
theorem ql{l:OpenLaw}{n:Nat}(s:l.most=Z n){P:Params}{h:Al}{args:U WData}{Zt:U Aa} (b:l.row.toRowW.claim.pre args=J') (f:WellAll P h Zt args):∃a vs ns,Zt=[DJ a]/\args=[WData.Ϩ (ns.j WData.r)]/\h.R a=Z {cls:=.ι "list",data:=.Ϲ vs.C}/\IntsAre vs ns/\ns.a<=n:=by
 let i:l.pre.holds [] {args:=args}=J':=(pre_splitW b).2;let(d,r,rfl,j,k):=hasAllW_cons<|(pre_splitW b).1;obtain rfl:=hasAllW_nil k;let(t,rfl,m):=hasW_list j;let(ns,rfl):=items_int m;let c:ns.a<=n:=by
  let g:(WTm.not<|.lt (.lit<|.r n)<|.ϩ<|.arg 0).holds [] {args:=[.Ϩ<|ns.j .r]}=J':=by
   let g:=(holds_andW i).1;grind
  let u:=condW_of g<|w_not<|w_lt w_lit<|w_len_list<|w_arg rfl;simp_all
 cases f with
 |cons o p=>
  cases p;cases o with
  |list q e=>show#[_,_,ns,rfl,rfl,q,qk ns _ e,c]
theorem qm(l:OpenLaw)(args:U WData):l.row.toRowW.claim.post args (.ϥ J') args=J':=postW_of (r:=l.row.toRowW) (X:=(J'==J')) (show WShape.has [] (.ϥ J') .ϥ=J' by rfl) (show(WTm.eq .res<|.lit<|.ϥ J').value [] {args:=args,res:=Z<|.ϥ J',after:=args}=Z (.ϥ<|true==J')from w_eq_bool (w_res rfl) w_lit) rfl
theorem attach_call{l:OpenLaw}{n:Nat}{q:AM}{c:U Af}{x:(Bz)->Al->Prop}{y:Aj->Al->Prop}{d:DefRec}
  (B:l.most=Z n) (s:d.Ϸ.defaults=[])
  (call:∀(w:Aj) (s₀ b:Ab) (mg mb:Bz) (h:Ac) (o:Obj) (pm m e:Aa) (a:Ac) (vs:U Aa) (ns:U Int),
   Ground q c [] x w s₀ mg mb b.u->y w b.u ->
   b.u.R h=Z o->o.data=.func (docDef d.name d.Ϸ d.body d.Ξ pm m e)->b.u.CodeRec m d.name->mg d.name=Z (.I h) ->
   b.u.R a=Z {cls:=.ι "list",data:=.Ϲ vs.C}->IntsAre vs ns->ns.a<=n->b.gens=(T' []) ->
   codeAny (Ae l.β w) callerA (.call (.I h) #[[.I a],[]]) (λr p=>r=.ok (.ϸ (.ϥ J'))/\OldK b.u p.u/\p.os=b.os/\AllBare p.gens) b):
  WalkO q c x y l.row.toRowW d [] (λf vs=>PySem.call f vs):=by
 intro w s₀ b mg mb G Y h o pm m e C E H hd t z u R args Zt P i A F v L
 obtain rfl:C=.Δ:=Dflts.Δ z s
 obtain rfl:E=.Δ:=Dflts.noKw z
 let(a,vs,ns,rfl,rfl,j,g,k):=ql B i v
 apply enter_call (codeAny_mono (call w s₀ b mg mb h o pm m e a vs ns G Y H (fd_plain hd) t u j g k R) λr p M=>?_)
 let(rfl,N,K,Q):=M
 show#[.Q #[.ϥ J',.ϥ J',[],rfl,λ_=>rfl,.ϥ J',qm l _,λ_=>#[List.Ϛ.ϔ,λ_ T=>(nomatch T)]],N,K,Q]
end Att
namespace Internal
open PySem PySem.Spec PyProof.Rows
theorem Y5{vs:U Aa}{ns:U Int}(h:IntsAre vs ns):Aq (ns.j V.r) vs:=by
 induction h with
 |nil=>show .ϔ
 |cons n t _ a=>show .Θ #[t,rfl] a
def Tz(H:Hp):Prop:=∀b,H b=J\/∃o a,H b=Z (.frz o (.O a))
theorem qo{P:AM}{w:Aj}{K:Ap}{mg mb:Bz}{k:Nat}{fd:Cs}{x:Af}{sp:Sp}{c:Ab}{vs:U Aa}{ns:U Int}
  (S:K.In c.u) (l:c.u.Ns CZ mg) (f:c.u.Ns builtinsNs mb) (E:∀x:Af,x≠"__name__"->mb x=Fp x) (p:c.u.NoLimit) (Y:c.gens=(T' []))
  (G:c.u.R a=Z {cls:=.ι "list",data:=.Ϲ vs.C}) (X:IntsAre vs ns) (Q:ns.a<=Ay) (hr:AL k callerA)
  (F:∀base:Al,K.In base->base.Ns CZ mg->A2 P w K mg base CX k C fd [x] sp) (j:∀(s:Ab) (u:Aa),BindsTo s fd #[[u],[]] [(x,u)])
  (R:∀H:Hp,Tz H->BW K H a (ns.j V.r)->sp [.I a] H (λv _=>v=.bl J') λ_ _ _=>False)
  (L:∀H e g,CX [] H c (λ_ _ _=>False) e g->False):
  codeAny (Ae P w) callerA (.call (.I C) #[[.I a],[]]) (λr g=>r=.ok (.ϸ (.ϥ J'))/\OldK c.u g.u/\g.os=c.os/\AllBare g.gens) c:=by
 let core:∀H:Hp,Tz H->BW K H a (ns.j V.r)->CL P w H c.u->(∀b,H b≠J->b=a)->(H a≠J->K.S a=J) ->
   codeAny (Ae P w) callerA (.call (.I C) #[[.I a],[]]) (λr g=>r=.ok (.ϸ (.ϥ J'))/\OldK c.u g.u/\g.os=c.os/\AllBare g.gens) c:=by
  intro H T hS hok hA hK
  let M:∀{b:Ac} {o:Obj} {A:Array Hu} {B:Nat},c.u.R b=Z o->o.data=.dict A B->H b=J:=λ{b o A B} e d=>by
   grind
  let i:∀{b:Ac} {m:Bz},c.u.Ns b m->(K3 c.u H).Ns b m:=λ{b m} ⟨o,A,B,e,d,r⟩=>#[o,A,B,(λe n=>Ya e n) e (M e d),d,r]
  let t:K.In (K3 c.u H):=λb o e=>(λe n=>Ya e n) (S b o e) (by
   cases q:H b with
   |none=>rfl
   |some u=>
    let e':b=a:=hA b (by rw[q];simp)
    subst e'
    rw[hK (by rw[q];simp)]at e;cases e)
  let hM:Mod K mg (K3 c.u H):=#[t,i l,#[mb,i f,E],let⟨mc,h1,h2⟩:=p;#[mc,i h1,h2]]
  apply codeAny_mono ((F _ t (i l)).run callerA [] c H #[[.I a],[]] [.I a] [.I a] _ _ hr #[rfl,hM,λb o e=>nr e,Nat.le_of_eq (nq _ _),trivial,λb f=>absurd (show b∈([]:U Ac)from f) (by simp),hok,.of_eq Y] (j c (.I a)) (.Θ rfl .ϔ) (R H T hS)) λr g h=>?_
  cases r with
  |error e=>show(L H e g h).Η
  |ok fl=>
   cases fl with
   |next=>show BX h
   |brk=>show BX h
   |cont=>show BX h
   |ret u=>
    let(v,H',os,bare,un,y,r',q):=h
    subst q
    obtain rfl:u=Value.ϥ J':=r'
    apply#[rfl,OldK.of_keep λb o e=>?_,os,bare]
    cases q:H b with
    |none=>show un.keep b o e q (by intro z;show absurd (show b∈([]:U Ac)from z) (by simp)) (by simp)
    |some u=>
     rcases T b with z|⟨ob,xs,z⟩
     .rw[q]at z;cases z
     .let(W,_):=hok b _ z
      let(e2,_):=y b _ (un.frzs b ob _ z)
      rw[e]at W;cases W
      show e2
 cases N:K.S a with
 |some o=>
  let e:=S a o N
  rw[G]at e
  cases e
  apply core (λ_=>J) (λ_=>.Q rfl) (.σ #[_,vs.C,_,N,rfl,rfl,rfl,by rw[B5,X.a];show Q,by simpa using(Y5 X)]) (λb u z=>by have z':(J:O HO)=Z u:=z;cases z') (λb z=>absurd rfl z) λz=>absurd rfl z
 |none=>
  apply core (λb=>if b=a then Z (.frz {cls:=.ι "list",data:=.Ϲ vs.C} (.O (ns.j V.r)))else J) (λb=>?_) (.Q (.σ #[{cls:=.ι "list",data:=.Ϲ vs.C},if_pos rfl])) (λb u z=>?_) (λb z=>?_) λ_=>N
  .by_cases f:b=a
   .show .σ #[_,_,if_pos f]
   .show .Q (if_neg f)
  .by_cases f:b=a
   .cases((if_pos f).τ.E z)
    subst f
    show#[G,by rw[Bq];show Q,vs,_,(Y5 X),G]
   .cases((if_neg f).τ.E z)
  .by_cases f:b=a
   .show f
   .show absurd (if_neg f) z
theorem walk_of{l:PySem.W.OpenLaw}{n k:Nat}{q:AM}{i:U Af}{P:(Bz)->Al->Prop}{E:Aj->Al->Prop}{d:DefRec}{K:Params->Ap}{CX:Aj->Eg}{sp:Aj->Sp}{x:Af} (L:l.most=Z n) (t:n<=Ay) (y:d.Ϸ.defaults=[]) (M:AL k callerA) (N:∀(w:Aj) (h:Al),E w h->(K w.Ϸ).In h) (F:∀(w:Aj) (mg:Bz) (r:Ac) (h:Al),(K w.Ϸ).In h->h.Ns CZ mg->mg d.name=Z (.I r)->∃fd:Cs,(∀(s:Ab) (u:Aa),BindsTo s fd #[[u],[]] [(x,u)])/\∀base:Al,(K w.Ϸ).In base->base.Ns CZ mg->A2 l.β w (K w.Ϸ) mg base (CX w) k r fd [x] (sp w)) (z:∀(w:Aj) (H:Hp) (a:Ac) (ns:U Int),ns.a<=n->Tz H->BW (K w.Ϸ) H a (ns.j V.r)->sp w [.I a] H (λv _=>v=.bl J') λ_ _ _=>False) (A:∀(w:Aj) (H:Hp) (s:Ab) (e:Aa) (B:Ab),CX w [] H s (λ_ _ _=>False) e B->False):PySem.W.WalkO q i P E l.row.toRowW d [] (λf vs=>PySem.call f vs):=by
 apply Att.attach_call L y λw s₀ m mg mb r o pm cd R a vs ns G Y ho hd Q C p j c S=>?_;let X:=N w _ Y;let(fd,hb,hF):=F w mg r _ X G.T.g C;show qo X G.T.g G.T.b G.T.builtins G.T.nolimit S p j (Bv c t) M hF hb (λH hO hS=>z w H a ns c hO hS) λH e B=>A w H m e B
def GD(s:AF)(j:Nat):AF:=match s with
 |.ClassDef _ _ _ a _ _ _ _ _ _ _=>a.Y j (.Pass #[0,0,0,0])
 |_=>.Pass #[0,0,0,0]
def Iq(s:AF):Arguments:=match s with
 |.FunctionDef _ a _ _ _ _ _ _ _ _=>a
 |_=>{posonlyargs:=[],args:=[],vararg:=J,kwonlyargs:=[],kw_defaults:=[],kwarg:=J,defaults:=[]}
def ZU(s:AF):U AF:=match s with
 |.FunctionDef _ _ b _ _ _ _ _ _ _=>b
 |_=>[]
def Zg(s:AF):Scope:=match s with
 |.FunctionDef _ _ _ _ _ _ a _ _ _=>a
 |_=>{kind:=.Ϻ,names:=[],isGenerator:=O',isCoroutine:=O'}
abbrev Bp:Eg:=λ_ _ _ _ _ _=>False
abbrev E0:XK:=λ_ _ _=>False
theorem HG:FR Bp X E0:=λ_ _ _ _ _ _ _ h=>h.Η
structure J7(K:Ap)(x qual:Af)(st:AF)(f:Ac)(fd:Cs):Prop where
 ex:∃(oc:Aa) (od:Option Ac) (kV doc pm:Aa) (an:Option Ac) (cdv ct:Aa) (osl:Array (Option Aa)),
  fd=J4 x qual (Iq st) (ZU st) (Zg st) .Δ kV doc pm an cdv ct/\K.S f=Z #[oc,od,.func fd,osl]/\PySem.W.codeIn K cdv qual=J'
 kp:Jb K (.I f)=J'
section
variable{P:AM}{w:Aj}{K:Ap}{mg:Bz}{base:Al}
theorem J7.ok{x a:Af}{st:AF}{f:Ac}{fd:Cs}{N d:U Af}{k:Nat}{sp:Sp}(F:J7 K x a st f fd)(S:Ft N d (Zg st))(len:∀vs H Q E,sp vs H Q E->vs.a=d.a) (c:∀(b:Aa) (A:Ag) (outer:U Env) (s:Ab) (H:Hp) (vs:U V) (Q:VK) (E:XK),AL k (A.ϫ (Bj a (Zg st) s.u.J.o f b))->sp vs H Q E->∃t,EZ (D6 Bp P w K mg base N a (Zg st) f b A outer s H E).nox (ZU st) t/\t {nx:=λ_ H'=>Q .Α H',rt:=Q} (HD N vs) H):A2 P w K mg base Bp (k+1) f fd d sp:=by
 let(m,n,o,i,pm,p,b,ct,j,rfl,lk,e):=F.ex;apply pK lk e S len λA outer s H vs Q E l g=>?_;let(t,h,q):=c b A outer s H vs Q E l g;show#[t,h.nox,q]
theorem Y6{x a:Af}{st:AF}{f:Ac}{i:Aa}{j g:O Ac}{e:Array (O Aa)}{h d pm b ct:Aa}(l:K.S f=Z #[i,j,.func (J4 x a (Iq st) (ZU st) (Zg st) .Δ h d pm g b ct),e]) (c:PySem.W.codeIn K b a=J') (k:Jb K (.I f)=J'):J7 K x a st f (J4 x a (Iq st) (ZU st) (Zg st) .Δ h d pm g b ct):=#[#[i,j,h,d,pm,g,b,ct,e,rfl,l,c],k]
end
def Ak(H H':Hp):Prop:=∀b o,H b=Z o->H' b=Z o
theorem Ak.refl(H:Hp):Ak H H:=λ_ _ h=>h
theorem Ak.trans{H d e:Hp}(a:Ak H d)(b:Ak d e):Ak H e:=λc o h=>b c o<|a c o h
theorem Ak.free{H:Hp}(e:Ak H H'){l:Ac}(h:H' l=Option.Δ):H l=Option.Δ:=by
 cases q:H l with|none=>rfl|some o=>
  rw[e l o q]at h;cases h
theorem Ak.seq{K:Ap}{H:Hp}{xs:U V}(e:Ak H H')(h:BW K H a xs):BW K H' a xs:=by
 rcases h with(h|⟨o,h⟩)|h
 .show .Q<|.Q<|e _ _ h
 .show .Q<|.σ ⟨o,e _ _ h⟩
 .show .σ h
structure NV(X:Cx)(i:Nat)(x:Af):Prop where
 n:X.N[i]?=Z x
 v:PV X.G.Ξ x
 d:Ed x
 c:(x==("__classdict__":Af))=O'
theorem EM{i:Nat}{x:Af}(n:X.N[i]?=Z x:=by rfl)(v:PV X.G.Ξ x:=by ac_rfl)(d:Ed x:=by ext)(c:(x==("__classdict__":Af))=O':=by ext):NV X i x:=#[n,v,d,c]
theorem Ha{i:Nat}{x:Af}(h:NV X i x):PE X (.ε x pos) (Ye i):=ny h.n h.v h.d h.c
def FS(env:Env):U (Af×HC)->U (Af×Ac)->U (Af×Ac)
 |[],a=>a
 |(n,k)::r,a=>if k=J8 then FS env r ((n,(env.Ϥ.S n).Y 0)::a)else FS env r a
theorem Y7{env:Env}(h:∀x∈scope.υ,x.2=.ύ->∃c,env.Ϥ.S x.1=Z c):closureFor scope env=Am (FS env scope.υ []):=by
 let all:∀(l:U (Af×HC)) (b:U (Af×Ac)),(∀x∈l,x.2=.ύ->∃c,env.Ϥ.S x.1=Z c) ->
   (forIn l b (λ(x:Af×HC) (b:U (Af×Ac))=>if(x.2==J8)=J' then(do let a <- cellOf env x.1;Am<|Hb<|(x.1,a)::b)else Am (Hb b)):BP (U<|Af×Ac))=Am (FS env l b):=by
  intro l;induction l with|nil=>intro b _;rfl|cons x l i=>
   intro b e;let(n,k):=x;rw[List.forIn_cons];let f:=λb=>i b<|λy j=>e y<|Bl _ j;by_cases d:k=.ύ
   .subst d;let(c,g):=e (n,.ύ) Bh rfl;erw[beq_self_eq_true,if_true,show cellOf env n=Am c by unfold cellOf;erw[g],pure_bind,f,FS,g,Option.getD_some]
   .erw[show(k==J8)=O' by simpa using d,FU,if_false,pure_bind,f,FS,d]
 have:=all scope.υ [] h;erw[closureFor];rw[<- bind_pure (Am (FS env scope.υ []):BP _),<- this]
theorem TB{env:Env}:∀(l:U (Af×HC))(cs:U (Af×Ac)),(∀x∈l,x.2=.ύ->∃c,env.Ϥ.S x.1=Z c)->(∀p∈cs,env.Ϥ.S p.1=Z p.2)->∀p∈FS env l cs,env.Ϥ.S p.1=Z p.2
 |[],cs,_,h=>h
 |(n,k)::r,cs,a,h=>by
  by_cases d:k=.ύ
  .subst d;let(c,e):=a (n,.ύ) Bh rfl;apply TB r _ (λy b=>a y<|Bl _ b) λp f=>?_;grind [Bx,Option.getD_some]
  .erw[FS,d,if_false];show TB r cs (λy b=>a y<|Bl _ b) h
theorem TC{env:Env}:∀(l:U (Af×HC))(cs:U (Af×Ac))(x:Af),((x,J8)∈l\/∃c,(x,c)∈cs)->∃c,(x,c)∈FS env l cs
 |[],cs,x,h=>by
  rcases h with h|h
  .cases h
  .show h
 |(n,k)::r,cs,x,h=>by
  by_cases a:k=.ύ
  .subst a;apply TC r _ x ?_;grind [Bx,Bh,Bl]
  .erw[FS,a,if_false];apply TC r cs x ?_;rcases h with h|h
   .rcases Bx.mp h with e|h
    .cases e;show absurd rfl a
    .show .Q h
   .show .σ h
theorem Y8{a:Type}:∀{l:U (Af×a)}{x:Af}{c:a},(x,c)∈l->∃d,l.S x=Z d
 |[],_,_,h=>by cases h
 |(n,b)::r,x,c,h=>by
  rw[List.lookup_cons];cases e:x==n with|true=>show#[b,rfl]|false=>
   rcases Bx.mp h with z|h
   .cases z;simp at e
   .show Y8 h
structure Ji(own outs:List Af)(sc osc:Scope):Prop where
 kind:sc.ϳ=.Ϻ
 nocell:∀x∈sc.υ,x.2≠.Ν
 free:∀x∈sc.υ,x.2=.ύ->osc.υ.S x.1=Z .Ν\/osc.υ.S x.1=Z .ύ
 loc:∀x∈sc.υ,x.2=.Ϡ->sc.υ.S x.1=Z .Ϡ
 out:∀x∈outs,sc.υ.S x=Z .ύ
 nd:(own++outs).η
theorem De{env:Env}:∀{names:U (Af×HC)}{x:Af},names.S x=Z .ύ->((names.j λ(n,k)=>if(k==J8&&env.Ξ.ϳ==.Ϻ&&env.kindOf n==Z .Ν)then(n,NameKind.Ν)else(n,k)).S x=Z .Ν \/(names.j λ(n,k)=>if(k==J8&&env.Ξ.ϳ==.Ϻ&&env.kindOf n==Z .Ν)then(n,NameKind.Ν)else(n,k)).S x=Z .ύ)
 |[],_,h=>by simp at h
 |(n,k)::r,x,h=>by
  let a:=@De env r x;grind
theorem Ct{env:Env}:∀{names:U (Af×HC)}{x:Af}{k:HC},k=.Ν\/k=.ύ->(∀y∈names,y.2≠.Ν)->(names.j λ(n,k)=>if(k==J8&&env.Ξ.ϳ==.Ϻ&&env.kindOf n==Z .Ν)then(n,NameKind.Ν)else(n,k)).S x=Z k->(x,J8)∈names
 |[],_,_,_,_,h=>by simp at h
 |(n,j)::r,x,k,a,b,h=>by
  let d:=@Ct env r x k a λy c=>b y<|Bl _ c;grind
def DA(X:Cx)(own a:U Af)(scope:Scope)(C:Ac)(c:Ab)(d:Hp)(e:U Ac)(b:AZ):Cx where
 prog:=X.β
 w:=X.w
 K:=X.K
 mg:=X.mg
 base:=X.χ
 A:=X.A
 N:=own++a
 s₀:=c
 H₀:=d
 env:=compEnvC scope (FS X.G scope.υ []) C X.G
 outer:=X.ϟ
 stack:=X.ϟ
 ex:=e
 fn:=λ_=>O'
 calm:=X.ϵ
 pn:=X.pn++b
 xe:=λ_ _=>False
def HJ(X:Cx)(b:U Expr)(e:TT):Prop:=
 ∀(a:AZ) (s:Ab) (d:St) (H:Hp) (Q:Bool->Hp->Prop),Inv X a d H s->e d H Q ->
  wpAny (Ae X.β X.w) X.A (forIn b J' λc r=>if r=J' then do let ok <- isTrue c X.G (Ar c X.G);Am (Hb ok)else Am (Hb r)) (TP X a d Q) X.xe s
def qp:TT:=λ_ H Q=>Q J' H
theorem qq:HJ X [] qp:=λ_ _ _ H _ a h=>wpAny_tests_nil #[H,a,h]
theorem qr{c:Expr}{b:TT}(h:PT X c b):HJ X [c] b:=λa s d H Q e q=>wpAny_tests_one<|h a s d H Q e q
def Fu(k:Nat)(oix:U Nat)(I:St):St:=EK k J++oix.j λj=>(I[j]?).join
def TD(k:Nat)(oix:U Nat)(g:TG)(l:TT)(m:TE)(r:It)(I:St)(H:Hp)(Q:VK):Prop:=
 ∃(n:Nat) (W:Nat->U V->Hp->Prop),W 0 [] H/\∀i c d,W i c d ->
  (r.stop i d/\c.a<=Ay/\∀p,d p=J->Q (.I p) (AK d p (.O c))) \/
  (r.go i d/\i<n/\c.a<Ay/\∃N:U V->Hp->Prop,(∀e f,N e f->W (i+1) e f)/\∀x h,r.yld i d x h->g x (Fu k oix I) h λa o=>a.ρ k=(Fu k oix I).ρ k /\
   l a o λb j=>if b=J' then m a j λy q=>N (c++[y]) q else N c j)
def Qj(k:Nat)(oix:U Nat)(wi:TI)(g:TG)(b:TT)(c:TE):TE:=λa H Q=>wi a H λe d=>TD k oix g b c e a d Q
def Ge(a:U Aa)(n:Nat):Obj:={cls:=.ι "list",data:=.Ϲ a.C n}
theorem CL.track{P:AM}{w:Aj}{H:Hp}{h:Al}{o:HO}(x:CL P w H h)(d:H a=J)(new:Bc P w (AK H a o) h a o):CL P w (AK H a o) h:=λb u e=>by
 by_cases f:b=a
 .grind [ZT]
 .rw[Zl f]at e;show(x b u e).stay (λc v _ q=>q) (λc q=>Zl (Z6 q d) ▸ q) λc g q=>Zl (Z6 q d) ▸ q
theorem Y9{f:AZ}{zA:Hp}{a:Ab}{P:It}{M:U Ac}{it:Ac}
  {own zB:U Af} {oix:U Nat} {g:TG} {tt:TT} {Q:VK}
  (S:Ji own zB scope X.G.Ξ) (hox:oix.j (λj=>X.N[j]?)=zB.j Z) (hc:X.ϵ=J')
  (hg:∀C a zA M f,PG (DA X own zB scope C a zA M f) tg g)
  (ht:∀C a zA M f,HJ (DA X own zB scope C a zA M f) ifs tt)
  (he:∀C a zA M f,PE (DA X own zB scope C a zA M f) elt te)
  (B:Inv X f I zA a) (T:Im X.β X.w X.K tg P M it tn) (st:tn 0 a.u) (f2:∀b∈M,GA X f zA b)
  (h:TD own.a oix g tt te P I zA Q)
  (hRR:∀(C:Ac) (s':Ab) (m:Bz) (H':Hp),s'.u.Ns C m->Inv X f I H' s'->H' C=J->C≠X.G.ϖ->X.s₀.u.J.o<=C ->
   (∀x c,X.G.Ϥ.S x=Z c->c≠C)->(∀p∈X.pn++f,p.1≠C)->Q (.I a.u.J.o) H'->RR (.I a.u.J.o) C (.ok .U) s'):
  wpAny (Ae X.β X.w) X.A (newList []) (λacc s₃=>wpAny (Ae X.β X.w) X.A (newFunctionEnv scope X.G.globals (FS X.G scope.υ []) [] X.G.qual J .Δ (Z X.G)) (λcenv s₄=>
   codeAny (Ae X.β X.w) X.A (.compStart (.ϊ elt [#[tg,iter,ifs,0]] scope pos) 0 (.I it) acc {cenv with scope:=relabel scope X.G}) (RR acc cenv.ϖ) s₄) E s₃) E a:=by
 let(n,W,w0,turn):=h
 apply Ld (wpAny_newFunctionEnv S.nocell (by intro y hy;simp at hy) (λh₁ R L=>?_) S.ϳ)
 generalize hP:a.u.Ο {cls:=.ι "list",dict:=J,data:=.Ϲ ([]:U Aa).C}=t at R L ⊢
 let hC:t.J.o=a.u.J.o+1:=by rw[<- hP,K9]
 generalize hCC:t.J.o=C at R L hC ⊢
 let hDC:a.u.J.o≠C:=hC ▸ Cf (Nat.lt_succ_self _)
 let H:a.u.J.o<C:=hC ▸ Nat.lt_succ_self _
 let old:∀b o,a.u.R b=Z o->h₁.R b=Z o:=λb o e=>
  L.φ b o (Cf (J9 (BN e) H)) (BC _ (hP ▸ BC _ e))
 let clX:∀x c,(FS X.G scope.υ []).S x=Z c->X.G.Ϥ.S x=Z c:=λx c e=>
  TB scope.υ [] (λx hx hf=>B.ok.has x.1 (S.ύ x hx hf)) (λp t=>by cases t) (x,c) (La e)
 let clHas:∀x,(x,J8)∈scope.υ->∃c,(FS X.G scope.υ []).S x=Z c:=λx hx=>by
  let(c,hc):=TC (env:=X.G) scope.υ [] x (.Q hx)
  show Y8 hc
 let fpLt:∀b∈M,b<a.u.J.o:=λb G=>by
  let(o,e,_):=T.obj 0 _ st b G
  show BN e
 let cLt:∀x c,X.G.Ϥ.S x=Z c->c<a.u.J.o:=λx c e=>by
  let(v,q):=B.Ν x c e
  show q.lt
 let fpStk:∀b∈M,b∉E9 X.ϟ:=λb G z=>by
  rcases Bx.mp (B.stkSub b z)with e|z
  .show(f2 b G).2.1 e
  .show(f2 b G).2.2.1 z
 let pinLt:∀p∈X.pn++f,p.1<a.u.J.o:=λp t=>BN (B.pin p t).1
 let pinStk:∀p∈X.pn++f,p.1∉E9 X.ϟ:=λp t z=>by
  rcases Bx.mp (B.stkSub _ z)with e|z
  .show(B.pin p t).2.2.1 e
  .show(B.pin p t).2.2.2.1 z
 let fsLt:∀b∈E9 X.ϟ,b<a.u.J.o:=λb G=>by
  let(_,o,ho,_):=B.ϟ.mem G
  show BN ho
 letI Y:Cx:=DA X own zB scope C a zA M f
 let okY:Y.Ok:={
  mod:=B.ok.mod
  kind:=S.ϳ
  glob:=B.ok.glob
  blt:=B.ok.blt
  above:=F8 H
  inj:=λx y c h1 h2=>B.ok.inj x y c (clX x c h1) (clX y c h2)
  has:=λx hx=>by
   apply clHas x ?_
   rcases hx with hx|hx
   .show Ct (env:=X.G) (.Q rfl) S.nocell hx
   .show Ct (env:=X.G) (.σ rfl) S.nocell hx
  cab:=λx c hf _=>absurd (show O'=J' from hf) NC
  hd:=B.ok.hd
  frames:=B.ok.frames
  stk:=.Q rfl
  exf:=λb G=>#[Cf (J9 (fpLt b G) H),λx c e=>(f2 b G).2.2.2.2.1 x c (clX x c e)]
  bs:=B.bs
  bsz:=Bv B.ok.bsz B.sz
  noex:=λb o e G=>by
   rcases(f2 b G).2.2.2.1 with z|z
   .show B.ok.noex b o e z
   .show absurd (B3 (BN e) (Bv B.ok.bsz z)) (Hw _)
  exfs:=fpStk
  funs:=B.ϟ
  frf:=B.stkFree}
 let lenS:(Fu own.a oix I).a=Y.N.a:=by
  let e:=congrArg List.a hox
  erw[Bq]at e
  show(EK own.a J++oix.j _).a=(own++zB).a
  rw[EL,EL,Ms,Bq,e]
 let I4:Inv Y [(a.u.J.o,Ge [] 0)] (Fu own.a oix I) zA {a with heap:=h₁}:={
  ok:=okY
  os:=rfl
  bare:=B.bare
  base:=Un.ϱ old
  loc:=by
   apply#[_,R,λi x v e1 e2 e3=>?_]
   let hi:own.a<=i:=by
    apply(FV)
    intro hlt
    unfold Fu at e2
    rw[Fd (Ms ▸ hlt),Lb,if_pos hlt]at e2
    cases e2
   unfold Fu at e2
   rw[G8 (Ms ▸ hi),Ms,CM]at e2
   let e1':zB[i-own.a]?=Z x:=by
    let e1:(own++zB)[i]?=Z x:=e1
    rwa[G8 hi]at e1
   cases ej:oix[i-own.a]? with
   |none=>rw[ej]at e2;cases e2
   |some j=>
    rw[ej]at e2
    let e2':(I[j]?).join=Z v:=EH e2
    let e2'':I[j]?=Z (Z v):=by
     cases eI:I[j]? with
     |none=>rw[eI]at e2';cases e2'
     |some z=>rw[eI]at e2';show congrArg Z e2'
    let eN:X.N[j]?=Z x:=by
     let q:=congrArg (λl=>l[i-own.a]?) hox
     erw[CM,ej,e1',Ka]at q
     show EH q
    let hfree:scope.υ.S x=Z .ύ:=S.out x (HE e1')
    let hk:X.G.Ξ.υ.S x=Z .Ν\/X.G.Ξ.υ.S x=Z .ύ:=S.ύ (x,.ύ) (La hfree) rfl
    let(m,hn,hl):=B.loc
    let(u,r,l):=hl j x v eN e2'' (by rcases hk with hk|hk;show .σ (.Q hk);show .σ (.σ hk))
    apply#[u,r,.σ #[De (env:=X.G) hfree,?_]]
    let(c,ec):=clHas x (La hfree)
    apply#[c,ec,?_]
    rcases l with⟨k,_⟩|⟨_,c',e',o,ho,hd⟩
    .rcases hk with hk|hk
     .show absurd (k.τ.E hk) (by ext)
     .show absurd (k.τ.E hk) (by ext)
    .rw[clX x c ec]at e'
     cases e'
     show#[o,old _ _ ho,hd]
  cell:=λx c e=>by
   let(v,o,ho,hd):=B.Ν x c (clX x c e)
   show#[v,o,old _ _ ho,hd]
  free:=B.Ϫ.Ψ (F8 H)
  freeC:=λx c e=>B.freeC x c (clX x c e)
  pin:=λp t=>by
   rcases Cn.mp t with t|t
   .let(e,n,_,_,d):=B.pin p t
    show#[old _ _ e,n,Cf (J9 (pinLt p t) H),pinStk p t,d]
   .let e:p=(a.u.J.o,Ge [] 0):=by exists t
    subst e
    apply#[(L.φ _ _ hDC (BC _ (hP ▸ Co _ rfl))),B.Ϫ.Ψ (AX _),hDC,λz=>absurd (fsLt _ z) (Hw _),λv z=>?_]
    cases z
  hok:=B.Ϫ.ϱ old
  len:=lenS}
 let fpY:∀{H':Hp} {s:U Aa} {k:Nat},(∀b∈M,H' b=J)->∀b∈M,GA Y [(a.u.J.o,Ge s k)] H' b:=λ{H' s k} hn b G=>by
  apply#[hn b G,Cf (J9 (fpLt b G) H),fpStk b G,.Q G,λx c e=>(f2 b G).2.2.2.2.1 x c (clX x c e),λp t=>?_]
  rcases Cn.mp t with t|t
  .show(f2 b G).2.2.2.2.2 p t
  .let e:p=(a.u.J.o,Ge s k):=by exists t
   subst e
   show Ja (fpLt b G)
 let fin:∀(i:Nat) (ys:U V) (s:U Aa) (k:Nat) (H':Hp) (s':Ab),Inv Y [(a.u.J.o,Ge s k)] (Fu own.a oix I) H' s'->Aq ys s->ys.a<=Ay ->
   Q (.I a.u.J.o) (AK H' a.u.J.o (.O ys))->RR (.I a.u.J.o) C (.ok .U) s':=λi ys s k H' s' I' rv hz q=>by
  let(m,hn,_):=I'.loc
  let(eD,nD,_):=I'.pin (a.u.J.o,Ge s k) (Dt _ (by simp))
  let neH:∀b o,zA b=Z o->b≠a.u.J.o:=λb o e=>Cf (B.Ϫ.lt e)
  let un':Un (E9 X.ϟ) M zA (AK H' a.u.J.o (.O ys)) a.u s'.u:=
   #[I'.χ.keep,I'.χ.ϕ,λb o e n hx=>Zl ((λb o e=>Cf (BN e)) b o e) ▸ I'.χ.ύ b o e n hx,I'.χ.there,λb xs e=>Zl (neH b _ e) ▸ I'.χ.tups b xs e,
    λb o u e=>Zl (neH b _ e) ▸ I'.χ.frzs b o u e,λb ps e=>Zl (neH b _ e) ▸ I'.χ.tbls b ps e]
  apply hRR C s' m _ hn (B.call' (ch:=M) I'.os un' (CL.track I'.Ϫ nD #[hz,s,k,rv,eD]) I'.bare λb G=>#[(f2 b G).2.2.2.1,(f2 b G).2.1,(f2 b G).2.2.2.2.1,(f2 b G).2.2.2.2.2]) ?_ ?_ ?_ ?_ ?_ q
  .rw[Zl (BM hDC)];show I'.ύ
  .show Ja (J9 B.lt H)
  .show Bv B.sz (F8 H)
  .show λx c e=>Cf (J9 (cLt x c e) H)
  .show λp t=>Cf (J9 (pinLt p t) H)
 let loop:codeAny (Ae X.β X.w) X.A (.compLoop (.ϊ elt [#[tg,iter,ifs,0]] scope pos) 0 (.I it) (.I a.u.J.o) Y.G) (RR (.I a.u.J.o) C) {a with heap:=h₁}:=by
  apply codeAny_loop rfl (λk s'=>∃(i:Nat) (ys:U V) (s:U Aa) (c:Nat) (H':Hp),Inv Y [(a.u.J.o,Ge s c)] (Fu own.a oix I) H' s'/\Aq ys s/\tn i s'.u/\(∀b∈M,H' b=J)/\W i ys H'/\k=n-i) (λk s' hI=>?_) n
   #[0,[],[],0,zA,I4,.ϔ,T.keep 0 _ _ st λb _ o e=>old b o e,λb G=>(f2 b G).1,w0,rfl]
  apply wpAny_noted ?_
  let(i,ys,s,c,H',I',rv,st',fr',w',ek):=hI
  rcases turn i ys H' w' with⟨stop,hz,q⟩|⟨go,hin,hz,N,hN,step⟩
  .apply Ao (wpAny_standAt (Ao (A1 (T.Ϙ Y rfl rfl rfl hc i _ s' _ H' _ I' (fpY fr') st' stop) λr s1 ⟨hr,I1⟩=>?_)))
   subst hr
   let(_,nD,_):=I1.pin (a.u.J.o,Ge s c) (Dt _ (by simp))
   show AT (fin i ys s c H' s1 I1 rv hz (q _ nD))
  .apply Ao (wpAny_standAt (Ao (A1 (T.item Y rfl rfl rfl hc i _ s' _ H' _ I' (fpY fr') st' go) λr s1 ⟨u,hr,h1⟩=>?_)))
   subst hr
   apply Ao (A1 h1 λ_ s5 z9=>?_)
   let(x,H5,I5,r5,y5,st5,fr5):=z9
   apply Ao (wpAny_noRaise (A1 (hg C a zA M f _ s5 _ H5 x u _ (I5.pinned (fpY fr5) (T.obj _ _ st5)) r5 (step x H5 y5)) λ_ s6 z9=>?_))
   let(σ6,H6,I6,dr6,q6):=z9
   apply Ao (wpAny_noRaise (A1 (ht C a zA M f _ s6 σ6 H6 _ I6 q6) λok s7 ⟨H7,I7,q7⟩=>?_))
   let back:∀{H8:Hp} {s8:Ab} {its8:U Aa} {c8:Nat},Inv Y ([(a.u.J.o,Ge its8 c8)]++K6 M s5.u) σ6 H8 s8 ->
     Inv Y [(a.u.J.o,Ge its8 c8)] (Fu own.a oix I) H8 s8/\tn (i+1) s8.u/\∀b∈M,H8 b=J:=λ{H8 s8 its8 c8} I8=>by
    apply#[I8.unpinned.weak ?_ λj v e=>?_,T.keep _ _ _ st5 λb G o e=>(I8.pin (b,o) (Dt _ (Dt _ (P6 G e)))).1,λb G=>?_]
    .show lenS.E I8.ϩ.τ
    .let hj:own.a<=j:=by
      apply(FV)
      intro hlt
      unfold Fu at e
      rw[Fd (Ms ▸ hlt),Lb,if_pos hlt]at e
      cases e
     let e':=congrArg (λl=>l[j-own.a]?) dr6
     erw[Lf]at e'
     rw[show own.a+(j-own.a)=j by show NS hj]at e'
     show e'.E e
    .let(o,e,d):=T.obj _ _ st5 b G
     show(I8.pin (b,o) (Dt _ (Dt _ (P6 G e)))).2.1
   cases ok with
   |false=>
    let(I8,st8,fr8):=back I7
    show AT #[rfl,n-(i+1),∅,i+1,ys,s,c,H7,I8,rv,st8,fr8,hN _ _ q7,rfl]
   |true=>
    apply Ao (Ao (wpAny_noRaise (A1 (he C a zA M f _ s7 σ6 H7 _ I7 q7) λy s8 z9=>?_)))
    let(z,H8,I8,r8,w8):=z9
    let(eD,nD,neL,nF,dD):=I8.pin (a.u.J.o,Ge s c) (Dt _ (J0 _ (by simp)))
    let hl:=rv.a
    apply Ao (BY F.slot_list_append #[_,eD,rfl] F.entry_list_append (F.args_list_append_2 _ _) (PySem.list_append _ s.C c y (by rw[B5];lia)) #[eD,?_])
    obtain⟨n',q⟩:∃n',(s8.u.ϰ a.u.J.o (Gc (·.Ο y))).R a.u.J.o=Z (Ge (s++[y]) n'):=by
     let q:=PySem.IsL.ϰ eD (·.Ο y)
     rw[show s.C.Ο y=(s++[y]).C by simp]at q
     show#[_,q]
    let I9:Inv Y (K6 M s5.u) σ6 H8 {s8 with heap:=s8.u.ϰ a.u.J.o (Gc (·.Ο y))}:=
     (I8.pins_of λp t=>I8.pin p (Dt _ (Dt _ t))).turned (t':=s8.Γ) (it:=a.u.J.o) (λb o G e=>(Tv _ _ (BM G)).E e) nD hDC (.σ (AX _))
      (λx c' e=>Cf (cLt x c' (clX x c' e))) λp t=>by
       rcases Cn.mp t with t|t
       .show Cf (pinLt p t)
       .show Cf (fpLt _ (Yt t).1)
    let I10:Inv Y ([(a.u.J.o,Ge (s++[y]) n')]++K6 M s5.u) σ6 H8 {s8 with heap:=s8.u.ϰ a.u.J.o (Gc (·.Ο y))}:=I9.pins_of λp t=>by
     rcases Cn.mp t with t|t
     .let e:p=(a.u.J.o,Ge (s++[y]) n'):=by exists t
      subst e
      show#[q,nD,neL,nF,λv z=>by
       cases z]
     .show I9.pin p (Dt _ t)
    let(I11,st11,fr11):=back I10
    show AT (AT #[rfl,n-(i+1),∅,i+1,ys++[z],s++[y],_,H8,I11,rv.Ι (.Θ r8 .ϔ),st11,fr11,hN _ _ w8,rfl])
 show codeAny_compStart_list loop (T.self _ 0 _ _ _ (T.keep 0 _ _ st λb _ o e=>old b o e) loop)
section
variable{oix:U Nat}{g:TG}{tt:TT}
theorem aa(own c:U Af)(oix:U Nat)(S:Ji own c scope X.G.Ξ)(t:oix.j (λj=>X.N[j]?)=c.j Z)(L:X.ϵ=J')(M:PI X tg iter wi) (K:∀C l i k a,PG (DA X own c scope C l i k a) tg g) (P:∀C l i k a,HJ (DA X own c scope C l i k a) ifs tt) (Y:∀C l i k a,PE (DA X own c scope C l i k a) elt te) (hs:∀x,E1 iter X.G x=Am x:=by intro _;rfl):PE X (.ϊ elt [#[tg,iter,ifs,0]] scope pos) (Qj own.a oix wi g tt te):=by
 intro a s z H Q R h;rw[eval_ListComp];apply wpAny_comprehension_free (use:=J) rfl hs (Y7 λx hx hf=>R.ok.has x.1<|S.free x hx hf) S.kind S.loc (A1 (M a s z H _ R h) λxv B n=>A1 n λitv E p=>?_);let(it,k,tn,F,i,e,I2,T,u,f2,d):=p;subst e;apply Y9 (RR:=λv C=>compPost (Ae X.β X.w) X.A X.xe J (EP X a z Q) v C) S t L K P Y I2 T u f2 d ?_;intro C s' m H' hn I' hC hL h0 f r q;show#[m,hn,λG y=>#[.I _,H',I'.turned (h':=G) (t':=s'.Γ) (it:=C) (λb o hb e=>y.φ b o hb e) hC hL (.σ h0) f r,rfl,q]]
theorem TF(own d:U Af)(oix:U Nat){i:Nat}{x:Af}{f k:AB}(S:Ji own d scope X.G.Ξ)(M:oix.j (λj=>X.N[j]?)=d.j Z)(hc:X.ϵ=J') (hN:X.N.η) (K:X.N[i]?=Z x) (hx:X.G.Ξ.υ.S x=Z .Ϡ) (hi:PI X tg iter wi) (hg:∀C u r t c,PG (DA X own d scope C u r t c) tg g) (ht:∀C u r t c,HJ (DA X own d scope C u r t c) ifs tt) (he:∀C u r t c,PE (DA X own d scope C u r t c) elt te) (P:EJ (.ϊ elt [#[tg,iter,ifs,0]] scope pos) (Z (.ε x f)) k.Ϯ X.G=Am J':=by rfl) (hs:∀x,E1 iter X.G x=Am x:=by intro _;rfl):PS X (.Ϭ [.ε x f] (.ϊ elt [#[tg,iter,ifs,0]] scope pos) k) (Mp (Qj own.a oix wi g tt te) (Mo i)):=by
 intro c s I H D R h;rw[exec_Assign_Name_used _ _ _ _ P];apply Ao<|wpAny_standAt<|Ao ?_;apply Ao (wpAny_mono (wpAny_comprehension_free (use:=Z<|assign (.Name x f) X.env) (Q:=λ_ z=>SP X c D .U z) rfl hs (Y7 λy hy hf=>R.ok.has y.1<|S.ύ y hy hf) S.ϳ S.loc
  (A1 (hi c s I H _ R h) λxv s₁ B=>A1 B λitv E G=>?_)) (λ_ z hq=>AT<|AT hq) λ_ _ e=>e)
 let(it,t,tn,F,r,e,I2,T,Y,f2,l):=G;subst e;apply Y9 (RR:=λacc C=>compPost (Ae X.β X.w) X.A X.xe (Z<|assign (.Name x f) X.env) (λ_ z=>SP X c D .U z) acc C) S M hc hg ht he I2 T Y f2 l ?_;intro C z m H' hn I' hC hL h0 n L q;apply wpAny_assign_Name<|Yc (v:=.ref E.heap.objs.size) I' hN K (.inl hx) rfl (λs'' I'' p=>?_) (.σ hx);let(a,p,ha):=p;let hCa:C≠a:=by
  grind
 show#[m,hn.sameBut p hCa,λh' hs'=>#[_,H',I''.turned (h':=h') (t':=s''.Γ) (it:=C) (λb o hb e=>hs'.φ b o hb e) hC hL (.σ h0) n L,q]]
end
def ac(x:Af):It:=#[λi _=>i<x.Ϝ.o,λi H v a=>a=H/\∃c,x.Ϝ[i]?=Z c/\v=.ψ #[(T' [c])],λi _=>x.Ϝ.o<=i]
theorem ae{P:AM}{w:Aj}{K:Ap}{u:Expr}{b:Bool}(it:Ac)(x:Af)(t:Tok):Im P w K u (ac x) [it] it (λi h=>h.IsStrIter it (bif b then "str_ascii_iterator" else "str_iterator") x t i):=by
 apply NG (n:=bif b then "str_ascii_iterator" else "str_iterator") (by cases b<;>decide) (λi h st=>?_) (λi h g st k=>?_) (λX i m s y H E Q z p A st=>?_) λ_ _ _ _ _ st h=>by
  cases b
  .show wpAny_pyIter_striter_wide st h
  .show wpAny_pyIter_striter_ascii st h
 .let(o,e,c,d):=st;show#[o,_,e,c,d]
 .let(o,e,r):=st;show#[o,k o e,r]
 .constructor<;>intro a q
  .let a:i<x.Ϝ.o:=a;let f:=λt g j (sb:Ee it s.u g)=>q (.ψ #[(T' [x.Ϝ[i]])] t) (.ψ #[(T' [x.Ϝ[i]])]) g (s.Γ+1) j (λb o v e=>(sb.2 b v).E e) #[_,rfl] #[rfl,_,by simp[a],rfl];cases b
   .show wpAny_pyNext_wide_item st (c:=x.Ϝ[i]) (by simp[a]) (f _)
   .show wpAny_pyNext_ascii_item st (c:=x.Ϝ[i]) (by simp[a]) (f _)
  .let a:x.Ϝ.o<=i:=a;cases b
   .show wpAny_pyNext_wide_end p st (by simp[a]) λg l=>q g s.Γ l
   .show wpAny_pyNext_ascii_end p st (by simp[a]) λg l=>q g s.Γ l
section
def qt(tl:TE):TI:=λa H R=>tl a H λv b=>∃x,v=.ψ x/\R (ac x) b
theorem qu{l:Expr}{tl:TE}(j:PE X l tl):PI X tg l (qt tl):=by
 intro a s k H R r h;apply A1 (j a s k H _ r h) λv c m=>?_;let(y,f,d,n,x,e,q):=m;subst e;let(t,rfl):=n;let g:∀{o:Obj} (b:Ac),b∈[c.u.J.o]->GA X a f b:=λ{o} b p=>by
  let e:b=c.u.J.o:=by exists p
  subst e;show d.fpOk (AX _)<|d.Ϫ.Ψ<|AX _
 cases i:x.Ϝ.ϭ (·<128)
 .show wpAny_pyIter_wide i #[c.u.J.o,[c.u.J.o],_,_,f,rfl,d.ϱ (t':=c.Γ) λb o e=>BC _ e,ae (b:=O') _ x t,#[_,Co _ rfl,rfl,rfl],g (o:=default),q]
 .show wpAny_pyIter_ascii i #[c.u.J.o,[c.u.J.o],_,_,f,rfl,d.ϱ (t':=c.Γ) λb o e=>BC _ e,ae (b:=J') _ x t,#[_,Co _ rfl,rfl,rfl],g (o:=default),q]
end
section
def qv:V->O Int->O Int->Hp->VK->Prop:=λx lo a H Q=>∃z,x=.ψ z/\z.a<=Ay/\Q (.ψ (Txt.slice z lo a)) H
theorem qw:J6 X qv:=by
 intro d s m H x v n o lo p r Q w g a h e zQ;let(z,rfl,hz,q):=zQ;let(t,rfl):=g;apply#["str",_,PySem.F.slot_str_getitem.S,typeIs_str s z t,?_];cases h with
 |none=>
  cases e with
  |none=>show TH (l:=J) (u:=J) (st:=J) a rfl (post_val_or_str #[Bv (Txt.slice_le z _ _) hz,λb k=>#[.ψ<|Txt.slice z J J,H,w.tok _,⟨_,rfl⟩,q]])
  |int j c=>show TH (l:=J) (u:=Z (j,c)) (st:=J) a rfl (post_val_or_str #[Bv (Txt.slice_le z _ _) hz,λb k=>#[.ψ<|Txt.slice z J<|some j,H,w.tok _,⟨_,rfl⟩,q]])
 |int i f=>
  cases e with
  |none=>show TH (l:=Z (i,f)) (u:=J) (st:=J) a rfl (post_val_or_str #[Bv (Txt.slice_le z _ _) hz,λb k=>#[.ψ<|Txt.slice z (Z i) J,H,w.tok _,⟨_,rfl⟩,q]])
  |int j c=>show TH (l:=Z (i,f)) (u:=Z (j,c)) (st:=J) a rfl (post_val_or_str #[Bv (Txt.slice_le z _ _) hz,λb k=>#[.ψ<|Txt.slice z (Z i)<|some j,H,w.tok _,⟨_,rfl⟩,q]])
def af:V->U V->Hp->VK->Prop:=λx a H Q=>∃z y,x=.ψ z/\a=[.ψ y]/\Q (.r (Txt.find z y)) H
theorem qx:Je X "str.find" af:=by
 intro a s d H x e v f Q i b c h;let(z,y,rfl,rfl,q):=h;let(t,rfl):=b;let(u,rfl,g,rfl):=Fc c;show SC.find #[.r _,H,i.tok _,#[_,rfl],q]
theorem qy{a:U Af}:∀{us:U Aa},Aq (a.j V.ψ) us->StrsAre us a:=by
 induction a with|nil=>intro us r;rw[Dj]at r;cases r;show .ϔ|cons n ns b=>
  intro us r;rw[AU]at r;cases r with
  |cons c d=>
   let(t,rfl):=c;show .Θ n t<|b d
def ag(K:Ap):V->U V->Hp->VK->Prop:=λx c H Q=>∃z a b,x=.ψ z/\c=[.I a]/\BW K H a (b.j V.ψ)/\(b.j (·.a)).sum+b.a*z.a<=16777216/\Q (.ψ (Txt.join z b)) H
theorem qA:Je X "str.join" (ag X.K):=by
 intro d s j H x l v m Q c e f zQ;let(z,a,n,rfl,rfl,g,hz,q):=zQ;let(t,rfl):=e;let(u,rfl,h):=Fc f;cases h;let(b,r,i,_):=c.Ϩ g;show join_list (items:=b.C) i.ϑ (qy r) hz λo k=>#[.ψ _,H,c.tok _,#[_,rfl],q]
end
theorem qB{bs:U Bool}:∀{us:U Aa},Aq (bs.j V.bl) us->LSm.BoolsAre us bs:=by
 induction bs with|nil=>intro us r;rw[Dj]at r;cases r;show .ϔ|cons n ns a=>
  intro us r;rw[AU]at r;cases r with
  |cons b c=>
   subst b;show .Θ n<|a c
section
theorem ah{b:Bool}(l:X.ϵ=J'):E2 X (.Β (bif b then "all" else "any")) (λxs H Q=>∃(a:Ac)(bs:U Bool),xs=[.I a]/\BW X.K H a (bs.j V.bl)/\Q (.bl (bif b then bs.ϭ id else bs.any id)) H):=by
 intro g s w H xs x Q F r zQ;let(a,bs,rfl,m,q):=zQ;let(u,rfl,n):=Fc r;cases n;let(c,o,d,hz):=F.Ϩ m;let h:=qB o;obtain⟨f,j⟩:∃f:Nat->Bool,f=λi=>(bs[i]?).Y b:=#[_,rfl];cases b;all_goals
  first|apply call_all_walk (P5 d.ϑ ?_)|apply call_any_walk (P5 d.ϑ ?_)
  apply#[s.u.J.o,[s.u.J.o,a],[s.u.J.o],c.C.o,_,_,f,rfl,Walks.Ϩ (A:=X.A.in1) (F.ok.hd l) _ a (Cf (show a<s.u.J.o by let(_,e,_):=d.ϑ;show BN e)) c.C,
   #[#[_,Co _ rfl,rfl,rfl],d.ϑ.Ο _],λi v y z B p k=>?_,λC E t=>#[.bl _,H,F.ϱ<|LSm.kept_iter t,rfl,?_]]
  .let(b,e,rfl):=h.Ρ i v (by exists p);erw[j,e,Option.getD_some]at k;show IZ k
  .rw[show c.C.o=bs.a by rw[B5,h.a],j];first|rw[LSm.range_all bs]|rw[LSm.range_any bs]
   show q
end
section
open PySem.SeqAt
inductive Gf(A:Ag)(s:Ab):List Aa->List Aa->Bool->Prop where
 |nn:Gf A s [] [] O'
 |nc {w ws}:Gf A s [] (w::ws) J'
 |cn {v vs}:Gf A s (v::vs) [] O'
 |eq {v w vs ws b}:EqAt A s v w J'->Gf A s vs ws b->Gf A s (v::vs) (w::ws) b
 |ne {v w vs ws b}:EqAt A s v w O'->(∀(prog:AM) (wo:Aj) (E Q:AR),Q (.ϥ b) s->wpAny (Ae prog wo) A (richCompare .Lt v w) Q E s)->Gf A s (v::vs) (w::ws) b
end
section
open PySem.SeqAt
open PySem.AutoSeq1 (wpAny_loadPart')
open PySem.MeetsSeq PySem.MeetsSeq2 PySem.MeetsSeq3
theorem qC(l b:Ac)(items a:Array Aa)(n n2:Nat)(G o:O Ac)(H p:Array (O Aa))(r:Bool):Meets (Gg.«tuple.__lt__» #[[.I l,.I b],[]]) (λA R s=>s.u.R l=Z {cls:=.ι "tuple",dict:=G,data:=.Ϲ items n,slots:=H}/\s.u.R b=Z {cls:=.ι "tuple",dict:=o,data:=.Ϲ a n2,slots:=p}/\Gf A.in1 s items.B a.B r/\R (.ok (.ϸ (.ϥ r))) s):=.of_wp λprog w A R s h=>by
  let(C,g,d,E,os):=s;let(K,F,q,h):=h;let M:=AutoSeq1.sub_tuple_tuple;wp_walk using Fe K,Fe F,wpAny_forIn_list _ (λAW b t=>b.1=J/\t=#[C,g,d,E,os]/\∃(k m:U Aa),AW=k.zip m /\
   Gf A.in1 #[C,g,d,E,os] k m r/\k.a+a.o=m.a+items.o) _
  case turn=>
   rintro⟨y,x⟩ AW b t ⟨i,rfl,k,m,hz,e,c⟩;cases e with
   |nn=>rw[List.zip_nil_left]at hz;cases hz
   |nc=>rw[List.zip_nil_left]at hz;cases hz
   |cn=>rw[List.zip_nil_right]at hz;cases hz
   |eq u v=>
    rw[Lg]at hz;injection hz with j f
    injection j with z B
    subst z B;erw[Cw]at c;apply Ao<|u prog w _ _ ?_;wp_walk;show⟨rfl,rfl,_,_,f,v,∅⟩
   |ne u v=>
    rw[Lg]at hz;injection hz with j f
    injection j with z B
    subst z B;apply Ao<|u prog w _ _ ?_;wp_walk using(v prog w);show⟨_,rfl,by exists h⟩
  case fin=>
   rintro⟨b1,N⟩ t ⟨i,rfl,k,m,hz,e,c⟩;simp only at i;subst i;let L:r=decide (items.o<a.o):=by
    cases e with
    |nn=>
     erw[Kb]at c;show(decide_eq_false ∅).τ
    |nc=>
     erw[Kb,Cw]at c;show(decide_eq_true ∅).τ
    |cn=>
     erw[Kb,Cw]at c;show(decide_eq_false ∅).τ
    |eq _ _=>rw[Lg]at hz;cases hz
    |ne _ _=>rw[Lg]at hz;cases hz
   rw[L]at h;wp_walk;show#[_,rfl,by simpa[Builtin.Tuple.tupleCompareSizes]using h]
  case h=>
   show#[rfl,rfl,items.B,a.B,rfl,q,by simp;show Nat.add_comm items.o a.o]
theorem qD(l b:Ac)(items c:Array Aa)(n n2:Nat)(B y:O Ac)(C z:Array (O Aa))(r:Bool)(k:Nat):∀i:Nat,items.o-i=k->Meets (Gg.«list.__eq__.loop» #[[.I l,.I b,BB i,BB 0],[]]) (λA R s=>s.u.R l=Z {cls:=.ι "list",dict:=B,data:=.Ϲ items n,slots:=C}/\s.u.R b=Z {cls:=.ι "list",dict:=y,data:=.Ϲ c n2,slots:=z}/\Gf A.in1 s (items.B.ρ i) (c.B.ρ i) r/\(i<=items.o/\i<=c.o)/\R (.ok (.ϸ (.ϥ r))) s):=by
 induction k with
 |zero=>
  intro i u prog w A R s h;let(E,g,d,G,os):=s;let(m,o,e,(H,K),h):=h;wp_walk using Fe m,Fe o;let j:items[((i:Nat):Int).θ]?=J:=by simp;show Nat.le_of_sub_eq_zero u
  let hd:items.B.ρ i=[]:=Lh (by simp;lia);rw[hd]at e;rw[j];let p:r=decide (items.o<c.o):=by
   cases x:c.B.ρ i with
   |nil=>
    rw[x]at e;have:=congrArg List.a x;simp at this;cases e;show(decide_eq_false ∅).τ
   |cons a t=>
    rw[x]at e;have:=congrArg List.a x;simp at this;cases e;show(decide_eq_true ∅).τ
  rw[p]at h;wp_walk using Fe m,Fe o;show h
 |succ k F=>
  intro i u prog w A R s h;let(E,g,d,G,os):=s;let(m,o,e,(H,K),h):=h;wp_walk using Fe m,Fe o;let j:items[((i:Nat):Int).θ]?=Z items[i]:=by simp[Li u]
  rw[show items.B.ρ i=items[i]::items.B.ρ (i+1) by rw[HK (by simpa using(Li u))];simp]at e;rw[j];by_cases f:i<c.o
  .let v:c[((i:Nat):Int).θ]?=Z c[i]:=by simp[f]
   let q:c.B.ρ i=c[i]::c.B.ρ (i+1):=by rw[HK (by exists f)];simp
   rw[q]at e;rw[v];cases e with
   |eq e p=>
    apply Ao<|e prog w _ _ ?_;wp_walk;rw[show((i:Int)+1)=((i+1:Nat):Int) by push_cast;rfl];show#[Mw plain_eq_loop _,Lj entry_eq_loop (by
     rw[Around.under_plainId plain_eq_loop _];show F (i+1) ∅ prog w A R _ #[m,o,p,#[(Li u),f],h])]
   |ne e p=>
    apply Ao<|e prog w _ _ ?_;wp_walk using Fe m,Fe o;rw[j,v];wp_walk using(p prog w);show h
  .let q:c.B.ρ i=[]:=Lh (by simp;lia);rw[q]at e;rw[show c[((i:Nat):Int).θ]?=J by simp;show FV f];let p:r=decide (items.o<c.o):=by
    cases e;show(decide_eq_false ∅).τ
   rw[p]at h;wp_walk using Fe m,Fe o;show h
theorem ai(l b:Ac)(items a:Array Aa)(n n2:Nat)(f c:O Ac)(i e:Array (O Aa))(r:Bool):Meets (Gg.«list.__lt__» #[[.I l,.I b],[]]) (λA R s=>s.u.R l=Z {cls:=.ι "list",dict:=f,data:=.Ϲ items n,slots:=i}/\s.u.R b=Z {cls:=.ι "list",dict:=c,data:=.Ϲ a n2,slots:=e}/\Gf A.in1 s items.B a.B r/\R (.ok (.ϸ (.ϥ r))) s):=by
 intro prog w A R s h;let(o,g,d,p,os):=s;let(j,k,m,h):=h;let q:=AutoSeq1.sub_list_list;wp_walk using Fe j,Fe k;show#[Mw plain_eq_loop _,Lj entry_eq_loop (by
  rw[Around.under_plainId plain_eq_loop _];show qD l b items a n n2 f c i e r _ 0 rfl prog w A R _ #[j,k,m,#[E3 _,E3 _],h])]
end
section
variable{prog:AM}{w:Aj}{A:Ag}{s:Ab}
theorem qE{l b:Ac}{a:Array Aa}{r:Bool}{Q:AR}(m:IsTup s.u l items)(o:IsTup s.u b a)(p:Gf A.in1 s items.B a.B r) (q:A.γ<Av) (h:Q (.ϥ r) s):wpAny (Ae prog w) A (richCompare .Lt (.I l) (.I b)) Q E s:=by
 let((cls,t,data,u),i,j,n,hd):=id m;let((k,f,data2,g),c,d,n2,e):=id o;simp only at j hd d e;subst j hd d e;show richCompare_meets_room (op:=.Lt) #[_,i,rfl] #[_,c,rfl] PySem.F.slot_tuple_lt PySem.F.entry_tuple_lt (PySem.F.args_tuple_lt_2 _ _) (qC l b items a n n2 t f u g r)
  #[i,c,p,show Value.ϥ r≠Value.notImplemented/\Q (.ϥ r) s from#[(λx=>nomatch x),h]] q
theorem qF{l b:Ac}{a:Array Aa}{r:Bool}{n n2:Nat}{e c:O Ac}{f d:Array (O Aa)}{Q:AR}(g:s.u.R l=Z {cls:=.ι "list",dict:=e,data:=.Ϲ items n,slots:=f})(i:s.u.R b=Z {cls:=.ι "list",dict:=c,data:=.Ϲ a n2,slots:=d})(j:Gf A.in1 s items.B a.B r) (k:A.γ<Av) (h:Q (.ϥ r) s):wpAny (Ae prog w) A (richCompare .Lt (.I l) (.I b)) Q E s:=richCompare_meets_room (op:=.Lt) #[_,g,rfl] #[_,i,rfl] PySem.F.slot_list_lt PySem.F.entry_list_lt (PySem.F.args_list_lt_2 _ _) (ai l b items a n n2 e c f d r) #[g,i,j,show Value.ϥ r≠Value.notImplemented/\Q (.ϥ r) s from#[(λx=>nomatch x),h]] k
end
def qG:V->V->O Bool
 |.int i,.int j=>Z (decide (i<j))
 |.str a,.str b=>Z (decide (a.Ϝ.B<b.Ϝ.B))
 |_,_=>J
def Bb:U V->U V->O Bool
 |[],[]=>Z O'
 |[],_::_=>Z J'
 |_::_,[]=>Z O'
 |x::a,y::b=>if(Y3 x&&Y3 y)=J' then(if qa x y=J' then Bb a b else qG x y)else J
theorem TJ(x:Af):x.Ϝ.B.a=x.a:=by simp[Str.length]
def NT(K:Ap):Sp:=λb H Q _=>∃(a:Ac)(ns:U Int),b=[.I a]/\BW K H a (ns.j V.r)/\ns.a<=63/\∀c,Q (.bl J') c
theorem aj{H:Hp}{p:Ac}{o:HO}(h:H p=J):Ak H (AK H p o):=λb u e=>Zl (Z6 e h) ▸ e
theorem Lk{A B:Prop}(h:A):(if J'=J' then A else B):=by grind
theorem Ll{A B:Prop}(h:B):(if O'=J' then A else B):=by grind
inductive Kd where
 |l|d|i (ns:List Af) (c:Af)
variable{fl k':Kd}
def Qk(K:Ap)(c:Af):Ac:=match PySem.W.nsIn K CZ c with
 |some (Z (.ref C))=>C
 |_=>0
set_option genInjectivity true in
inductive D where
 |non|bl (b:Bool)|int (i:Int)|str (x:Af)|ty (n:String)|tup (xs:List D)|lst (xs:List D) (b:Kd:=.l)
variable{xs:U D}
abbrev Ev:=U D->O D
abbrev A7:=O (U D)
def TK:D->At
 |.int i=>.r i
 |.str x=>.ψ x
 |_=>.Α
def NU:D->KT
 |.tup l=>.X (l.j TK)
 |d=>.at (TK d)
def Kc:U D->U KT
 |k::_::r=>NU k::Kc r
 |_=>[]
def CO(K:Ap)(b:Kd)(a:Ac)(xs:U D)(vs:U V):HO:=match b with
 |.l=>.O vs
 |.d=>.dct (Kc xs) vs
 |.i ns c=>.ins (Qk K c) (a-1) (ns.zip vs)
def Gi:HO->Bool
 |.lst _=>J'
 |.dct _ _=>J'
 |.ins _ _ _=>J'
 |_=>O'
theorem ak(K:Ap)(b:Kd)(a:Ac)(xs:U D)(vs:U V):Gi (CO K b a xs vs)=J':=by cases b<;>rfl
abbrev Fb:=Ac->Prop
def KL(K:Ap)(a:Ac)(vs:U V):Prop:=BW K (λ_=>J) a vs
def LstAt(K:Ap)(N:Fb)(H:Hp)(a:Ac)(o:HO):Prop:=(¬ N a/\Rd H a o)\/∃b,o=.O b/\KL K a b
theorem KL.sq{K:Ap}{H:Hp}(h:KL K a vs):BW K H a vs:=by
 rcases h with(h|⟨o,h⟩)|h
 .cases h
 .cases h
 .show .σ h
theorem LstAt.sq{K:Ap}{N:Fb}{H:Hp}(h:LstAt K N H a (.O vs)):BW K H a vs:=by
 rcases h with⟨_,h⟩|⟨b,e,h⟩
 .show .Q h
 .cases e;show h.sq
theorem LstAt.of{K:Ap}{N:Fb}{H:Hp}{o:HO}(n:¬ N a)(h:H a=Z o):LstAt K N H a o:=.Q #[n,.Q h]
theorem LstAt.of_sq{K:Ap}{H:Hp}(h:BW K H a vs):LstAt K (λ_=>False) H a (.O vs):=by
 rcases h with h|h
 .show .Q #[id,h]
 .show .σ #[vs,rfl,.σ h]
mutual
def Aw(K:Ap)(N:Fb)(H:Hp):D->V->Prop
 |.non,v=>v=.Α
 |.bl b,v=>v=.bl b
 |.int i,v=>v=.r i
 |.str x,v=>v=.ψ x
 |.ty n,v=>v=.ty n
 |.tup d,v=>∃a c,v=.I a/\Cg K H a c/\Ad K N H d c
 |.lst d b,v=>∃a c,v=.I a/\LstAt K N H a (CO K b a d c)/\Ad K N H d c
def Ad(K:Ap)(N:Fb)(H:Hp):U D->U V->Prop
 |[],a=>a=[]
 |x::b,a=>∃v r,a=v::r/\Aw K N H x v/\Ad K N H b r
end
structure Step(M N N':Fb)(H H':Hp):Prop where
 kp:∀a o,H a=Z o->(¬ N a\/M a\/Gi o=O')->H' a=Z o
 nw:∀a,N' a->N a\/H a=J
theorem Step.trans{M N d f:Fb}{H g i:Hp}(a:Step M N d H g)(b:Step M d f g i):Step M N f H i where
 kp:=λc o h z=>by
  apply b.kp c o (a.kp c o h z) ?_;rcases z with z|z|z
  .apply .Q λn1=>?_;rcases a.nw c n1 with q|q
   .show z q
   .rw[h]at q;cases q
  .show .σ<|.Q z
  .show .σ<|.σ z
 nw:=λc n2=>by
  rcases b.nw c n2 with q|q
  .show a.nw c q
  .cases e:H c with|none=>show .σ rfl|some o=>
    apply .Q<|Classical.byContradiction λz=>?_;rw[a.kp c o e<|.Q z]at q;cases q
theorem Step.of_same{M N:Fb}{H:Hp}(s:Ak H H'):Step M N N H H':=#[λa o h _=>s a o h,λa h=>.Q h]
theorem Step.refl{M N:Fb}{H:Hp}:Step M N N H H:=Step.ώ<|Ak.ω H
theorem Rd.step{M N b:Fb}{H:Hp}{u:HO}(s:Step M N b H H')(h:Rd H a u)(z:¬ N a\/M a\/Gi u=O'):Rd H' a u:=by
 rcases h with h|⟨o,h⟩
 .show .Q<|s.kp a u h z
 .show .σ #[o,s.kp a _ h<|.σ<|.σ rfl]
theorem Rd.same{H:Hp}{u:HO}(s:Ak H H')(h:Rd H a u):Rd H' a u:=by
 rcases h with h|⟨o,h⟩
 .show .Q<|s a u h
 .show .σ #[o,s a _ h]
theorem Cg.step{K:Ap}{M N b:Fb}{H:Hp}{xs:U V}(s:Step M N b H H')(h:Cg K H a xs):Cg K H' a xs:=by
 rcases h with h|h
 .show .Q<|h.Τ s<|.σ<|.σ rfl
 .show .σ h
theorem Cg.same{K:Ap}{H:Hp}{xs:U V}(s:Ak H H')(h:Cg K H a xs):Cg K H' a xs:=Cg.Τ (M:=λ_=>False) (N:=λ_=>False) (Step.ώ s) h
theorem Rd.has{H:Hp}{u:HO}(h:Rd H a u):H a≠J:=by
 rcases h with h|⟨o,h⟩<;>rw[h]<;>show λe=>nomatch e
mutual
theorem Aw.step{K:Ap}{M N f:Fb}{H H':Hp}(s:Step M N f H H'):∀(d:D)(v:V),Aw K N H d v->Aw K f H' d v
 |.non,_,h=>h
 |.bl _,_,h=>h
 |.int _,_,h=>h
 |.str _,_,h=>h
 |.ty _,_,h=>h
 |.tup c,v,h=>by
  erw[Aw]at h ⊢
  let(a,b,e,q,r):=h
  show#[a,b,e,q.Τ s,Ad.Τ s c b r]
 |.lst c i,v,h=>by
  erw[Aw]at h ⊢
  let(a,b,e,q,r):=h
  apply#[a,b,e,?_,Ad.Τ s c b r]
  rcases q with⟨n,q⟩|q
  .apply .Q #[λg=>?_,q.Τ s (.Q n)]
   rcases s.nw a g with z|z
   .show n z
   .show q.has z
  .show .σ q
theorem Ad.step{K:Ap}{M N a:Fb}{H H':Hp}(s:Step M N a H H'):∀(xs:U D)(vs:U V),Ad K N H xs vs->Ad K a H' xs vs
 |[],_,h=>h
 |x::xs,vs,h=>by
  erw[Ad]at h ⊢
  let(v,r,e,q,t):=h
  show#[v,r,e,Aw.Τ s x v q,Ad.Τ s xs r t]
end
section
variable{K:Ap}{M N N':Fb}{H:Hp}{d:D}{v:V}{ys:U D}{ws:U V}
theorem Aw.same(h:Aw K N H d v)(s:Ak H H'):Aw K N H' d v:=Aw.Τ (M:=N) (Step.ώ s) d v h
theorem Ad.same(h:Ad K N H xs vs)(s:Ak H H'):Ad K N H' xs vs:=Ad.Τ (M:=N) (Step.ώ s) xs vs h
theorem Aw.nw(h:Aw K N H d v)(z:∀a,N' a->N a\/H a=J):Aw K N' H d v:=Aw.Τ (M:=N) (H':=H) #[λ_ _ h _=>h,z] d v h
theorem Ad.nw(h:Ad K N H xs vs)(z:∀a,N' a->N a\/H a=J):Ad K N' H xs vs:=Ad.Τ (M:=N) (H':=H) #[λ_ _ h _=>h,z] xs vs h
theorem Ad.length:∀{xs:U D}{vs:U V},Ad K N H xs vs->xs.a=vs.a
 |[],_,h=>by erw[Ad]at h;subst h;rfl
 |_::xs,_,h=>by erw[Ad]at h;let(v,r,e,_,t):=h;subst e;simp[Ad.length t]
theorem Ad.get:∀{xs:U D}{vs:U V}{i:Nat}{d:D},Ad K N H xs vs->xs[i]?=Z d->∃v,vs[i]?=Z v/\Aw K N H d v
 |[],_,i,d,_,e=>by simp at e
 |x::xs,_,0,d,h,e=>by
  erw[Ad]at h;let(v,r,a,q,_):=h;subst a;simp at e;subst e;show#[v,rfl,q]
 |x::xs,_,i+1,d,h,e=>by
  erw[Ad]at h;let(v,r,a,_,t):=h;subst a;let(w,b,c):=Ad.Ρ (i:=i) t (by exists e);show#[w,by simpa using b,c]
theorem Ad.get':∀{xs:U D}{vs:U V}{i:Nat}{v:V},Ad K N H xs vs->vs[i]?=Z v->∃d,xs[i]?=Z d/\Aw K N H d v:=by
 intro xs vs i v h e;let f:=h.a;let g:i<vs.a:=(Cr.mp e).1;let a:xs[i]?=Z xs[i]:=Cb ∅;let(w,b,c):=h.Ρ a;rw[e]at b;cases b;show#[_,a,c]
theorem Ad.append:∀{xs ys:U D}{vs ws:U V},Ad K N H xs vs->Ad K N H ys ws->Ad K N H (xs++ys) (vs++ws)
 |[],_,_,_,h,a=>by erw[Ad]at h;subst h;show a
 |x::xs,ys,_,ws,h,a=>by
  erw[Ad]at h;let(v,r,e,q,t):=h;subst e;erw[GF,Ad];show#[v,r++ws,rfl,q,Ad.Ι t a]
theorem Ad.nil:Ad K N H [] []:=by erw[Ad]
theorem Ad.cons(h:Aw K N H d v)(t:Ad K N H xs vs):Ad K N H (d::xs) (v::vs):=by erw[Ad];show#[v,vs,rfl,h,t]
theorem Ad.take:∀{xs:U D}{vs:U V}(n:Nat),Ad K N H xs vs->Ad K N H (xs.ϋ n) (vs.ϋ n)
 |_,_,0,_=>by exists Ad.ϔ
 |[],_,n+1,h=>by erw[Ad]at h;subst h;exists Ad.ϔ
 |x::xs,_,n+1,h=>by
  erw[Ad]at h;let(v,r,e,q,t):=h;subst e;exists Ad.Θ q<|Ad.ϋ n t
theorem Ad.drop:∀{xs:U D}{vs:U V}(n:Nat),Ad K N H xs vs->Ad K N H (xs.ρ n) (vs.ρ n)
 |_,_,0,h=>by exists h
 |[],_,n+1,h=>by erw[Ad]at h;subst h;exists Ad.ϔ
 |x::xs,_,n+1,h=>by
  erw[Ad]at h;let(v,r,e,q,t):=h;subst e;exists Ad.ρ n t
theorem Ad.set:∀{xs:U D}{vs:U V}(i:Nat),Ad K N H xs vs->Aw K N H d v->Ad K N H (xs.ν i d) (vs.ν i v)
 |[],_,_,h,_=>by erw[Ad]at h;subst h;exists Ad.ϔ
 |x::xs,_,0,h,q=>by
  erw[Ad]at h;let(v,r,e,_,t):=h;subst e;exists Ad.Θ q t
 |x::xs,_,i+1,h,q=>by
  erw[Ad]at h;let(v,r,e,a,t):=h;subst e;exists Ad.Θ a<|Ad.ν i t q
theorem Ad.ints:∀(ns:U Int),Ad K N H (ns.j D.r) (ns.j V.r)
 |[]=>Ad.ϔ
 |n::ns=>Ad.Θ (by erw[Aw])<|Ad.ints ns
end
inductive Sl where
 |no|val (d:D)|own (xs:List D) (b:Kd:=.l) (oa:Option Ac:=J)|lent (xs:List D) (b:Kd:=.l)|exc (c:Af)
variable{ss:U Sl}
def am(e C:Ac)(h:Al):Prop:=∃o a,h.R e=Z o/\o.cls=.I C/\o.data=.ϝ a/\a[2]?=Z .Δ
abbrev VE:=U Sl
variable{ρ:VE}{fo:VE->O Sl}{lo:VE->O (O Int)}{fx:VE->O (D×VE)}
abbrev DK:=VE->O (U Sl)
variable{fa:DK}
abbrev AG:=VE->O D
def Nf(M:Fb)(ρ:VE)(I:St):Fb:=λa=>M a\/∃(i:Nat)(c:U D)(b:Kd)(d:O Ac),ρ[i]?=Z (Sl.Κ c b d)/\I[i]?=Z (Z (V.I a))
def TL(K:Ap)(M N:Fb)(H0 H:Hp):Sl->O V->Prop
 |.no,_=>True
 |.val d,o=>∃v,o=Z v/\Aw K N H d v
 |.own e b g,o=>∃a f,o=Z (.I a)/\(H0 a=J/\∀c,g=Z c->c=a)/\¬ M a/\H a=Z (CO K b a e f)/\Ad K N H e f
 |.lent e b,o=>∃a f,o=Z (.I a)/\(M a/\H0 a≠J)/\Rd H a (CO K b a e f)/\Ad K N H e f
 |.exc c,o=>∃a C,o=Z (.I a)/\PySem.W.nsIn K CZ c=Z (Z (.I C))/\H a=Z (.ext (am a C))
structure Bn(K:Ap)(M:Fb)(H0:Hp)(ρ:VE)(I:St)(H:Hp):Prop where
 len:ρ.a=I.a
 same:Ak H0 H
 mh:∀a,M a->H a≠J
 slot:∀(i:Nat) (s:Sl),ρ[i]?=Z s->TL K M (Nf M ρ I) H0 H s (I[i]?.join)
 inj:∀(i j:Nat) (xs ys:List D) (b b':Kd) (oa oa':Option Ac) (a:Ac),ρ[i]?=Z (Sl.Κ xs b oa)->ρ[j]?=Z (Sl.Κ ys b' oa')->I[i]?=Z (Z (V.I a))->I[j]?=Z (Z (V.I a))->i=j
section
variable{K:Ap}{M:Fb}{H:Hp}
theorem Bn.nh(R:Bn K M H0 ρ I H):∀a,Nf M ρ I a->H a≠J:=by
 rintro a (h|⟨i,f,g,j,c,d⟩)
 .show R.mh a h
 .let(b,k,e,_,_,q,_):=R.ϕ i _ c;rw[d]at e;rw[<- (show b=a by exists e.τ),q];show λz=>nomatch z
theorem Bn.st(R:Bn K M H0 ρ I H)(s:Ak H H'):Bn K M H0 ρ I H' where
 len:=R.ϩ;same:=R.δ.E s;mh:=λa h z=>R.mh a h<|s.free z;slot:=λi k e=>by
  let q:=R.ϕ i k e;cases k with
  |no=>trivial
  |val d=>let(v,e,h):=q;show#[v,e,h.δ s]
  |own l m o=>let(a,g,e,b,f,j,n):=q;show#[a,g,e,b,f,s _ _ j,n.δ s]
  |lent l m=>let(a,g,e,b,f,j):=q;show#[a,g,e,b,f.δ s,j.δ s]
  |exc c=>let(a,C,e,b,f):=q;show#[a,C,e,b,s _ _ f]
 inj:=R.inj
theorem Bn.fresh(R:Bn K M H0 ρ I H){p:Ac}(h:H p=J):¬ Nf M ρ I p:=λn=>R.nh p n h
end
def tD(K:Ap)(M:Fb)(H0:Hp)(f:AG):TE:=λc H Q=>∃a d,Bn K M H0 a c H/\f a=Z d/\∀v b,Ak H b->Aw K (Nf M a c) b d v->Q v b
def Az(K:Ap)(N:Fb)(H:Hp)(d:D)(v:V):Prop:=match d with
 |.lst e=>∃a c,v=.I a/\BW K H a c/\Ad K N H e c
 |.lst e b=>∃a c,v=.I a/\Rd H a (CO K b a e c)/\Ad K N H e c
 |d=>Aw K N H d v
theorem Aw.p{K:Ap}{N:Fb}{H:Hp}{d:D}{v:V}(h:Aw K N H d v):Az K N H d v:=by
 cases d with
 |lst f c=>
  let(a,b,e,q,r):=h;cases c with|l=>show#[a,b,e,LstAt.sq q,r]|_=>
   rcases q with⟨_,q⟩|⟨g,z,_⟩
   .show#[a,b,e,q,r]
   .cases z
 |_=>show h
theorem Az.same{K:Ap}{N:Fb}{H:Hp}{d:D}{v:V}(h:Az K N H d v)(s:Ak H H'):Az K N H' d v:=by
 cases d with
 |lst f c=>
  cases c with
  |l=>let(a,b,e,q,r):=h;show#[a,b,e,s.Ϲ q,r.δ s]
  |_=>let(a,b,e,q,r):=h;show#[a,b,e,q.δ s,r.δ s]
 |_=>show Aw.δ h s
theorem TM{K:Ap}{N:Fb}{H:Hp}(h:Rd H a (CO K fl a xs vs))(r:Ad K N H xs vs):Az K N H (.O xs fl) (.I a):=by
 cases fl with
 |l=>show#[a,vs,rfl,.Q h,r]
 |_=>show#[a,vs,rfl,h,r]
def tP(K:Ap)(M:Fb)(H0:Hp)(f:AG):TE:=λc H Q=>∃a d,Bn K M H0 a c H/\f a=Z d/\∀v b,Ak H b->Az K (Nf M a c) b d v->Q v b
def Fv(fl:Kd)(K:Ap)(M:Fb)(H0:Hp)(f:VE->A7):TE:=λg H Q=>∃d e,Bn K M H0 d g H/\f d=Z e /\
 ∀a h c,Ak H c->H a=J->c a=Z (CO K fl a e h)->Ad K (λb=>Nf M d g b\/b=a) c e h->Q (.I a) c
@[reducible] def tF(K:Ap)(M:Fb)(H0:Hp)(f:VE->A7):TE:=Fv .l K M H0 f
def B4(K:Ap)(M:Fb)(H0:Hp)(f:VE->O Bool):TT:=λd H Q=>∃a b,Bn K M H0 a d H/\f a=Z b/\∀c,Ak H c->Q b c
structure JE(X:Cx)(e:Expr)(t:TE):Prop where h:PE X e t
structure JT(X:Cx)(e:Expr)(t:TT):Prop where h:PT X e t
structure JW(X:Cx)(e:Expr)(t:TT):Prop where h:PW X e t
structure JA(X:Cx)(e:List Expr)(t:TA):Prop where h:PA X e t
structure JS(X:Cx)(e:AF)(t:TS):Prop where h:PS X e t
structure JB(X:Cx)(e:List AF)(t:TS):Prop where h:EZ X e t
structure JI(X:Cx)(tg e:Expr)(t:TI):Prop where h:PI X tg e t
structure JG(X:Cx)(e:Expr)(t:TG):Prop where h:PG X e t
structure JK(X:Cx)(e:List Expr)(t:I0):Prop where h:NE X e t
structure JO(X:Cx)(e:Option Expr)(t:TO):Prop where h:PO X e t
structure JF(X:Cx)(e:List Expr)(t:TT):Prop where h:HJ X e t
theorem PE.mono{e:Expr}{t t':TE}(h:PE X e t)(m:∀I H Q,t' I H Q->t I H Q):PE X e t':=λa s I H Q b q=>h a s I H Q b<|m I H Q q
theorem PT.mono{e:Expr}{t t':TT}(h:PT X e t)(m:∀I H Q,t' I H Q->t I H Q):PT X e t':=λa s I H Q b q=>h a s I H Q b<|m I H Q q
theorem PW.mono{e:Expr}{t t':TT}(h:PW X e t)(m:∀I H Q,t' I H Q->t I H Q):PW X e t':=λwh a s I H Q b q=>h wh a s I H Q b<|m I H Q q
theorem PA.mono{e:U Expr}{t t':TA}(h:PA X e t)(m:∀I H Q,t' I H Q->t I H Q):PA X e t':=λb a s I H Q c q=>h b a s I H Q c<|m I H Q q
theorem PS.mono{e:AF}{t t':TS}(h:PS X e t)(m:∀D I H,t' D I H->t D I H):PS X e t':=λa s I H D b q=>h a s I H D b<|m D I H q
theorem EZ.mono{e:U AF}{t t':TS}(h:EZ X e t)(m:∀D I H,t' D I H->t D I H):EZ X e t':=λa s I H D b q=>h a s I H D b<|m D I H q
section
variable{K:Ap}{M:Fb}{e a b:Expr}{f g:AG}
theorem PE.p(h:PE X e (tD K M H0 f)):PE X e (tP K M H0 f):=h.κ λc H Q ⟨a,d,R,e,q⟩=>#[a,d,R,e,λv b s z=>q v b s z.p]
theorem ao(h:JE X e (tD K M H0 f)):JE X e (tP K M H0 f):=#[PE.p h.h]
@[simp]def ZA(o:A7):O D:=o.j D.O
theorem PE.fd{f:VE->A7}(h:PE X e (tF K M H0 f)):PE X e (tD K M H0 λρ=>ZA (f ρ)):=h.κ λo H Q c=>by
 let(ρ,d,R,e,q):=c;let(g,i,e):=B7.mp e;cases e;apply#[ρ,g,R,i,λa j p s k l m=>q _ _ s ?_];apply#[a,j,rfl,.of (R.Ψ k) l,m.nw λb n=>.Q<|.Q n]
theorem qH{f:VE->A7}(h:JE X e (tF K M H0 f)):JE X e (tD K M H0 λρ=>ZA (f ρ)):=#[PE.fd h.h]
@[simp]def Bf(ρ:VE)(i:Nat):O D:=match ρ[i]? with
  |some (.val d)=>Z d
  |_=>J
@[simp]def A9(ρ:VE)(i:Nat):O D:=match ρ[i]? with
  |some (.val d)=>Z d
  |some (.own a b _)=>Z (.O a b)
  |some (.lent a b)=>Z (.O a b)
  |_=>J
theorem qI{i:Nat}{d:D}(h:Bf ρ i=Z d):ρ[i]?=Z (.y d):=by grind [Bf]
theorem qJ{i:Nat}{x:Af}(b:NV X i x):PE X (.ε x pos) (tD K M H0 λρ=>Bf ρ i):=(Ha b).κ λc H Q f=>by
  let(ρ,d,R,e,q):=f;try dsimp only at e q
  let(v,a,h):=R.ϕ i _<|qI e;apply⟨v,?_,q v H (Ak.ω H) h⟩;cases z:c[i]? with
  |none=>rw[z]at a;cases a
  |some o=>rw[z]at a;cases a;rfl
open J in
theorem qK{i:Nat}{x:Af}(j:NV X i x):PE X (.ε x pos) (tP K M H0 λρ=>A9 ρ i):=(Ha j).κ λc H Q k=>by
  let(ρ,d,R,e,q):=k;try dsimp only at e q
  let fin:∀v,c[i]?.join=Z v->Az K (Nf M ρ c) H d v->∃v,c[i]?=Z (Z v)/\Q v H:=λv b h=>by
   apply#[v,?_,q v H (Ak.ω H) h];cases z:c[i]? with
   |none=>rw[z]at b;cases b
   |some o=>rw[z]at b;cases b;rfl
  unfold A9 at e;split at e
  .next h=>cases e;let(v,b,h):=R.ϕ i _ h;show fin v b h.p
  .next h=>cases e;let(a,l,b,_,_,f,g):=R.ϕ i _ h;show fin _ b<|TM (.Q f) g
  .next h=>cases e;let(a,l,b,_,f,g):=R.ϕ i _ h;show fin _ b<|TM f g
  .cases e
theorem Mx{d:D}{v:V}{e:Expr}(h:PE X e (tC v))(hd:∀N H,Aw K N H d v):PE X e (tD K M H0 λ_=>Z d):=h.κ λa H Q ⟨b,c,R,e,q⟩=>by(try dsimp only at e q);cases e;show q v H (Ak.ω H)<|hd _ _
theorem aq {i j pos}:JE X (.ϒ (.r i) j pos) (tD K M H0 λ_=>Z (.r i)):=#[Mx nz λ_ _=>by erw[Aw]]
theorem qM {i j pos}:JE X (.ϒ (.ϥ i) j pos) (tD K M H0 λ_=>Z (.bl i)):=#[Mx nA λ_ _=>by erw[Aw]]
theorem qN {j pos}:JE X (.ϒ .Δ j pos) (tD K M H0 λ_=>Z .Α):=#[Mx nB λ_ _=>by erw[Aw]]
theorem qO {i j pos}:JE X (.ϒ (.ψ i) j pos) (tD K M H0 λ_=>Z (.ψ i)):=#[Mx nC λ_ _=>by erw[Aw]]
def Ew(K:Ap)(r:R2)(F:D->D->O D):Prop:=∀(N:Fb)(H:Hp)(x y:V)(c e d:D)(Q:VK),(∀a,N a->H a≠J)->Az K N H c x->Az K N H e y->F c e=Z d ->
 (∀v b,Ak H b->Aw K N b d v->Q v b)->r x y H Q
@[simp]def Za(F:D->D->O D)(f g:AG):AG:=λa=>(f a).L λx=>(g a).L λy=>F x y
theorem ar{F:D->D->O D}{f g:AG}{d:D}(h:Za F f g ρ=Z d):∃x y,f ρ=Z x/\g ρ=Z y/\F x y=Z d:=by
 unfold Za at h;cases a:f ρ with|none=>rw[a]at h;cases h|some x=>
  cases b:g ρ with
  |none=>rw[a,b]at h;cases h
  |some y=>rw[a,b]at h;show#[x,y,rfl,rfl,h]
theorem Ql{r:R2}{F:D->D->O D}(i:Ew K r F){H:Hp}{Q:VK}(h:tD K M H0 (Za F f g) I H Q):Mq r (tP K M H0 f) (tP K M H0 g) I H Q:=by
 let(a,d,R,e,q):=h;let(x,y,j,k,l):=ar e;show#[a,x,R,j,λv z b m=>#[a,y,R.st b,k,λu n c o=>i (Nf M a I) n v u x y d Q ((R.st b).st c).nh (m.δ c) o l λw p s t=>q w p ((b.E c).E s) t]]
theorem My{op:Operator}{r:R2}{F:D->D->O D}(c:Ck X (HA op) r)(d:Ew K r F)(e:PE X a (tP K M H0 f))(i:PE X b (tP K M H0 g)):PE X (.BinOp a op b pos) (tD K M H0 (Za F f g)):=(Yu c e i).κ λ_ _ _ h=>Ql d h
theorem NX{op:CmpOp}{r:R2}{F:D->D->O D}(c:Ck X (DT op) r)(d:Ew K r F)(e:PE X a (tP K M H0 f))(i:PE X b (tP K M H0 g))(j:Hy op b=O'):PE X (.Φ a [op] [b] pos) (tD K M H0 (Za F f g)):=(oY c e i j).κ λ_ _ _ h=>Ql d h
theorem au{r:R2}{F:D->D->O D}(c:HF X r)(d:Ew K r F)(e:PE X a (tP K M H0 f))(i:PE X b (tP K M H0 g))(j:NQ b):PE X (.μ a b pos) (tD K M H0 (Za F f g)):=(pW c e i j).κ λ_ _ _ h=>Ql d h
@[simp]def AI:O D->O Bool
  |some (.bl b)=>Z b
  |_=>J
theorem Mz{o:O D}{b:Bool}(h:AI o=Z b):o=Z (.bl b):=by
 unfold AI at h;grind
theorem qP{t:TE}{H:Hp}{Q:Bool->Hp->Prop}(a:∀I H Q,tD K M H0 f I H Q->t I H Q)(h:B4 K M H0 (λρ=>AI (f ρ)) I H Q):tB t I H Q:=by
 let(ρ,b,R,e,q):=h;apply a I H _ #[ρ,.bl b,R,Mz e,λv d s c=>?_];erw[Aw]at c;simp_all
theorem Ke{op:CmpOp}{r:R2}{F:D->D->O D}(c:Ck X (DT op) r)(d:Ew K r F)(e:PE X a (tP K M H0 f))(h:PE X b (tP K M H0 g))(i:Hy op b=O'):PT X (.Φ a [op] [b] pos) (B4 K M H0 λρ=>AI (Za F f g ρ)):=(Yy c e h i).κ λ_ _ _ q=>qP (t:=Mq r (tP K M H0 f)<|tP K M H0 g) (λ_ _ _ z=>Ql d z) q
@[simp]def ZM(o:O Bool):O Bool:=o.j (!·)
@[simp]def DL(o p:O Bool):O Bool:=match o with
  |some J'=>p
  |some O'=>Z O'
  |none=>J
@[simp]def CK(o p:O Bool):O Bool:=match o with
  |some J'=>Z J'
  |some O'=>p
  |none=>J
section
variable{c c':VE->O Bool}{AW:U Expr}
theorem qQ(h:JT X a (B4 K M H0 c)):JT X (.UnaryOp .Not a pos) (B4 K M H0 λρ=>ZM (c ρ)):=#[have h:=h.h;(Ym h).κ λg H Q d=>by
 let(ρ,b,R,e,q):=d;let(k,f,e):=B7.mp e;cases e;show#[ρ,k,R,f,q]]
theorem qR(h:JT X a (B4 K M H0 c)):JW X (.ϓ .And [a] pos) (B4 K M H0 c):=#[have h:=h.h;nK h]
theorem qS(h:JT X a (B4 K M H0 c)):JW X (.ϓ .Or [a] pos) (B4 K M H0 c):=#[have h:=h.h;nM h]
theorem qT{H:Hp}{Q:Bool->Hp->Prop}(h:B4 K M H0 (λρ=>DL (c ρ) (c' ρ)) I H Q):Yk (B4 K M H0 c) (B4 K M H0 c') I H Q:=by
 let(ρ,b,R,e,q):=h;try dsimp only at e q
 cases a:c ρ with|none=>rw[a]at e;cases e|some k=>
  rw[a]at e;apply#[ρ,k,R,a,λd s=>?_];cases k with
  |true=>show#[ρ,b,R.st s,e,λf g=>q f<|s.E g]
  |false=>cases e;show q d s
theorem qU{H:Hp}{Q:Bool->Hp->Prop}(h:B4 K M H0 (λρ=>CK (c ρ) (c' ρ)) I H Q):Yl (B4 K M H0 c) (B4 K M H0 c') I H Q:=by
 let(ρ,b,R,e,q):=h;try dsimp only at e q
 cases a:c ρ with|none=>rw[a]at e;cases e|some k=>
  rw[a]at e;apply#[ρ,k,R,a,λd s=>?_];cases k with
  |false=>show#[ρ,b,R.st s,e,λf g=>q f<|s.E g]
  |true=>cases e;show q d s
theorem qV(h:JT X a (B4 K M H0 c))(h':JW X (.ϓ .And (b::AW) pos) (B4 K M H0 c')):JW X (.ϓ .And (a::b::AW) pos) (B4 K M H0 λρ=>DL (c ρ) (c' ρ)):=#[have h:=h.h;let h':=h'.h;(nN h h').κ λ_ _ _ q=>qT q]
theorem qW(h:JT X a (B4 K M H0 c))(h':JW X (.ϓ .Or (b::AW) pos) (B4 K M H0 c')):JW X (.ϓ .Or (a::b::AW) pos) (B4 K M H0 λρ=>CK (c ρ) (c' ρ)):=#[have h:=h.h;let h':=h'.h;(nO h h').κ λ_ _ _ q=>qU q]
@[simp]def C8(o:O Bool):O D:=o.j D.bl
theorem MA{H:Hp}{Q:VK}(h:tD K M H0 (λρ=>C8 (c ρ)) I H Q):∃ρ b,Bn K M H0 ρ I H/\c ρ=Z b/\∀H',Ak H H'->Q (.bl b) H':=by
 let(ρ,d,R,e,q):=h;let(k,a,e):=B7.mp e;cases e;show#[ρ,k,R,a,λH' s=>q _ H' s (by erw[Aw])]
theorem qX(h:JE X a (tD K M H0 f)):JE X (.UnaryOp .Not a pos) (tD K M H0 λρ=>C8 (ZM (AI (f ρ)))):=#[have h:=h.h;(nV h).κ λg H Q q=>by
 let(ρ,b,R,e,q):=MA q;let(k,c,e):=B7.mp e;cases e;apply#[ρ,.bl k,R,Mz c,λv i s d=>?_];erw[Aw]at d;simp_all]
theorem qY {op} (h:JE X a (tD K M H0 f)):JE X (.ϓ op [a] pos) (tD K M H0 λρ=>C8 (AI (f ρ))):=#[have h:=h.h;(nS h).κ λg H Q q=>by
 let(ρ,b,R,e,q):=MA q;show#[ρ,.bl b,R,Mz e,λv d s c=>by erw[Aw]at c;subst c;show q d s]]
theorem qZ(h:JE X a (tD K M H0 f))(h':JE X (.ϓ .And (b::AW) pos) (tD K M H0 λρ=>C8 (c' ρ))):JE X (.ϓ .And (a::b::AW) pos) (tD K M H0 λρ=>C8 (DL (AI (f ρ)) (c' ρ))):=#[have h:=h.h;let h':=h'.h;(nT h h').κ λm H Q q=>by
 let(ρ,b,R,e,q):=MA q;cases c:AI (f ρ)with
 |none=>rw[c]at e;cases e
 |some k=>
  apply#[ρ,.bl k,R,Mz c,λv g s i=>?_];apply#[k,i,?_];rw[c]at e;cases k with
  |true=>show#[ρ,.bl b,R.st s,by change C8 (c' ρ)=_;rw[show c' ρ=Z b from e];rfl,λw j l d=>by erw[Aw]at d;subst d;show q j<|s.E l]
  |false=>cases e;show q g s]
theorem q0(h:JE X a (tD K M H0 f))(h':JE X (.ϓ .Or (b::AW) pos) (tD K M H0 λρ=>C8 (c' ρ))):JE X (.ϓ .Or (a::b::AW) pos) (tD K M H0 λρ=>C8 (CK (AI (f ρ)) (c' ρ))):=#[have h:=h.h;let h':=h'.h;(nU h h').κ λm H Q q=>by
 let(ρ,b,R,e,q):=MA q;cases c:AI (f ρ)with
 |none=>rw[c]at e;cases e
 |some k=>
  apply#[ρ,.bl k,R,Mz c,λv g s i=>?_];apply#[k,i,?_];rw[c]at e;cases k with
  |false=>show#[ρ,.bl b,R.st s,by change C8 (c' ρ)=_;rw[show c' ρ=Z b from e];rfl,λw j l d=>by erw[Aw]at d;subst d;show q j<|s.E l]
  |true=>cases e;show q g s]
@[simp]def Lm{d:Type}(c:O Bool)(a b:O d):O d:=match c with
  |some J'=>a
  |some O'=>b
  |none=>J
theorem q5{k:Expr}(i:JT X k (B4 K M H0 c))(j:JE X a (tD K M H0 f))(l:JE X b (tD K M H0 g)):JE X (.IfExp k a b pos) (tD K M H0 λρ=>Lm (c ρ) (f ρ) (g ρ)):=#[have i:=i.h;let j:=j.h;let l:=l.h;(nX i j l).κ λr H Q p=>by
 let(ρ,d,R,e,q):=p;try dsimp only at e q
 cases i:c ρ with|none=>rw[i]at e;cases e|some k=>
  apply#[ρ,k,R,i,λt s=>?_];cases k with
  |true=>rw[i]at e;apply Lk ?_;show#[ρ,d,R.st s,e,λw m n o=>q w m (s.E n) o]
  |false=>rw[i]at e;apply Ll ?_;show#[ρ,d,R.st s,e,λw m n o=>q w m (s.E n) o]]
@[simp]def isN:D->Bool
  |.non=>J'
  |_=>O'
@[simp]def HL(o:O D):O Bool:=o.j isN
theorem Az.isN{K:Ap}{N:Fb}{H:Hp}{d:D}{v:V}(h:Az K N H d v):decide (v=.Α)=Internal.isN d:=by
 cases d with
 |tup _=>erw[Az,Aw]at h;let(a,b,e,_):=h;subst e;rfl
 |lst _ c=>cases c<;>(let(a,b,e,_):=h;subst e;rfl)
 |_=>erw[Az,Aw]at h;subst h;rfl
theorem q8 {j c} (h:JE X a (tP K M H0 f)):JE X (.Φ a [.Is] [.ϒ .Δ j c] pos) (tD K M H0 λρ=>C8 (HL (f ρ))):=#[have h:=h.h;(Yi<|Yg h).mono λl H Q q=>by
 let(ρ,b,R,e,q):=MA q;let(d,g,e):=B7.mp e;cases e;show#[ρ,d,R,g,λv i s k=>by dsimp only;rw[k.isN];show q i s]]
theorem q9 {j c} (h:JE X a (tP K M H0 f)):JE X (.Φ a [.IsNot] [.ϒ .Δ j c] pos) (tD K M H0 λρ=>C8 (ZM (HL (f ρ)))):=#[have h:=h.h;(Yi<|Yh h).mono λl H Q q=>by
 let(ρ,b,R,e,q):=MA q;cases g:f ρ with
 |none=>rw[g]at e;cases e
 |some d=>rw[g]at e;cases e;show#[ρ,d,R,g,λv i s k=>by dsimp only;rw[k.isN];show q i s]]
theorem ra {j c} (h:JE X a (tP K M H0 f)):JT X (.Φ a [.Is] [.ϒ .Δ j c] pos) (B4 K M H0 λρ=>HL (f ρ)):=#[have h:=h.h;(Yj<|Yg h).mono λm H Q g=>by
 let(ρ,b,R,e,q):=g;let(d,i,e):=B7.mp e;cases e;show#[ρ,d,R,i,λv k s l=>#[_,rfl,l.isN ▸ q k s]]]
theorem rb {j c} (h:JE X a (tP K M H0 f)):JT X (.Φ a [.IsNot] [.ϒ .Δ j c] pos) (B4 K M H0 λρ=>ZM (HL (f ρ))):=#[have h:=h.h;(Yj<|Yh h).mono λm H Q i=>by
 let(ρ,b,R,e,q):=i;try dsimp only at e q
 cases g:f ρ with
 |none=>rw[g]at e;cases e
 |some d=>rw[g]at e;cases e;show#[ρ,d,R,g,λv k s l=>#[_,rfl,l.isN ▸ q k s]]]
end
end
theorem rf{e:Expr}{env:Env}(h:∀x p,e≠.Starred x p):AJ (e::es) env=(O',Ar e env)::AJ es env:=by
 cases e with
 |Starred x p=>show absurd rfl<|h x p
 |_=>rfl
def rg:Expr->Bool
 |.Starred _ _=>J'
 |_=>O'
theorem D8{e:Expr}{env:Env}(h:rg e=O'):AJ (e::es) env=(O',Ar e env)::AJ es env:=rf λx p z=>by subst z;cases h
structure CA(X:Cx)(x:Af)(e:Expr)(es:List Expr)(pos:AB):Prop where
 d:Ed x
 s:AJ (e::es) X.G=(O',Ar e X.G)::AJ es X.G
 p:(AD pos (AJ es X.G)).any (·.1)=O'
theorem Gj{x:Af}{e:Expr}(d:Ed x:=by ext)(s:AJ (e::es) X.G=(O',Ar e X.G)::AJ es X.G:=by show D8 rfl)(p:(AD pos (AJ es X.G)).any (·.1)=O':=by rfl):CA X x e es pos:=#[d,s,p]
structure BA(X:Cx)(x:Af)(vpos:AB)(m:Af)(apos:AB)(e:Expr)(cpos:AB):Prop where
 b:FQ (.ε x vpos) m X.G (Ar (.ε x vpos) X.G)=Ar (.ε x vpos) X.G
 f:((AD cpos (AJ [e] X.G)).ϭ (λx=>!x.1)&&(GB cpos (GC [] X.G)).ϭ (λx=>x.1.Ζ)&&decide ([e].a+([]:List Ei).a+(if([]:List Ei).Υ then 0 else 1)<30))=J'
 l:(apos.ϴ==cpos.Ϯ)=J'
 s:AJ [e] X.G=(O',Ar e X.G)::AJ [] X.G
 p:(AD cpos (AJ [] X.G)).any (·.1)=O'
theorem aw{x:Af}{a:AB}{m:Af}{e:Expr}(b:FQ (.ε x a) m X.G (Ar (.ε x a) X.G)=Ar (.ε x a) X.G:=by rfl) (f:((AD cpos (AJ [e] X.G)).ϭ (λx=>!x.1)&&(GB cpos (GC [] X.G)).ϭ (λx=>x.1.Ζ)&&decide ([e].a+([]:U Ei).a+(if([]:U Ei).Υ then 0 else 1)<30))=J':=by rfl) (l:(apos.ϴ==cpos.Ϯ)=J':=by rfl) (s:AJ [e] X.G=(O',Ar e X.G)::AJ [] X.G:=by show D8 rfl) (p:(AD cpos (AJ [] X.G)).any (·.1)=O':=by rfl):BA X x a m apos e cpos:=#[b,f,l,s,p]
def CN(K:Ap)(N:Fb)(H:Hp):Sl->V->Prop
 |.val d,v=>Aw K N H d v
 |.lent c b,v=>∃a e,v=.I a/\N a/\Rd H a (CO K b a c e)/\Ad K N H c e
 |_,_=>False
def BR(K:Ap)(N:Fb)(H:Hp):U Sl->U V->Prop
 |[],a=>a=[]
 |s::b,a=>∃v r,a=v::r/\CN K N H s v/\BR K N H b r
@[simp]def pk:Sl->O D
  |.val d=>Z d
  |.lent a b=>Z (.O a b)
  |.own a b _=>Z (.O a b)
  |.no=>J
  |.exc _=>J
theorem CN.same{K:Ap}{N:Fb}{H:Hp}{s:Sl}{v:V}(h:CN K N H s v)(sm:Ak H H'):CN K N H' s v:=by
 cases s with
 |val d=>show Aw.δ h sm
 |lent b f=>let(a,g,e,n,q,r):=h;show#[a,g,e,n,q.δ sm,r.δ sm]
 |no=>show h
 |own b f i=>show h
 |exc c=>show h
theorem CN.p{K:Ap}{N:Fb}{H:Hp}{s:Sl}{v:V}(h:CN K N H s v){d:D}(b:pk s=Z d):Az K N H d v:=by
 cases s with
 |val d=>cases b;show Aw.p h
 |lent f g=>cases b;let(a,i,e,n,q,r):=h;subst e;show TM q r
 |no=>show BX h
 |own f g j=>show BX h
 |exc c=>show BX h
theorem BR.length{K:Ap}{N:Fb}{H:Hp}:∀{ss:U Sl}{vs:U V},BR K N H ss vs->ss.a=vs.a
 |[],_,h=>by cases h;rfl
 |s::ss,_,⟨v,r,e,h,t⟩=>by subst e;simp[BR.length t]
theorem BR.get{K:Ap}{N:Fb}{H:Hp}:∀{ss:U Sl}{vs:U V}{i:Nat}{s:Sl},BR K N H ss vs->ss[i]?=Z s->∃v,vs[i]?=Z v/\CN K N H s v
 |[],_,i,s,h,e=>by simp at e
 |_::ss,_,0,s,⟨v,r,a,h,t⟩,e=>by subst a;simp at e;subst e;show#[v,rfl,h]
 |_::ss,_,i+1,s,⟨v,r,a,h,t⟩,e=>by
  subst a;let(w,b,c):=BR.Ρ (i:=i) t (by exists e);show#[w,by simpa using b,c]
def CP(K:Ap)(M:Fb)(H0:Hp)(f:DK):TA:=λc H Q=>∃a d,Bn K M H0 a c H/\f a=Z d/\∀e b,Ak H b->BR K (Nf M a c) b d e->Q e b
def Fw(K:Ap)(M:Fb)(H0:Hp)(f:VE->O Sl):TE:=λc H Q=>∃a s,Bn K M H0 a c H/\f a=Z s/\∀v b,Ak H b->CN K (Nf M a c) b s v->Q v b
@[simp]def C0(ρ:VE)(i:Nat):O Sl:=match ρ[i]? with
  |some (.val d)=>Z (.y d)
  |some (.own a b _)=>Z (.gV a b)
  |some (.lent a b)=>Z (.gV a b)
  |_=>J
@[simp]def DV(o:O D):O Sl:=o.j Sl.y
@[simp]def Zk{c:Type}(a:O c)(b:O (U c)):O (U c):=a.L λx=>b.L λy=>Z (x::y)
theorem Jj{c:Type}{a:O c}{b:O (U c)}{l:U c}(h:Zk a b=Z l):∃x y,a=Z x/\b=Z y/\l=x::y:=by
 cases a with|none=>cases h|some x=>
  cases b<;>simp_all
section
variable{K:Ap}{M:Fb}{e a b:Expr}{f g:AG}{f1:VE->O Sl}
theorem rh{i:Nat}{x:Af}(k:NV X i x):PE X (.ε x pos) (Fw K M H0 λρ=>C0 ρ i):=(Ha k).κ λc H Q l=>by
  let(ρ,d,R,e,q):=l;try dsimp only at e q
  let fin:∀v,c[i]?.join=Z v->CN K (Nf M ρ c) H d v->∃v,c[i]?=Z (Z v)/\Q v H:=λv b h=>by
   grind [Ak.refl]
  unfold C0 at e;split at e
  .next h=>cases e;let(v,b,h):=R.ϕ i _ h;show fin v b h
  .next h=>
   cases e;let(a,f,b,_,_,g,j):=R.ϕ i _ h;apply fin _ b #[a,f,rfl,.σ #[i,_,_,_,h,?_],.Q g,j];cases z:c[i]? with
   |none=>rw[z]at b;cases b
   |some o=>rw[z]at b;cases b;rfl
  .next h=>cases e;let(a,f,b,m,g,j):=R.ϕ i _ h;show fin _ b #[a,f,rfl,.Q m.1,g,j]
  .cases e
theorem ax(h:JE X e (tD K M H0 f)):JE X e (Fw K M H0 λρ=>DV (f ρ)):=#[have h:=h.h;h.κ λi H Q a=>by
 let(ρ,s,R,e,q):=a;let(d,b,e):=B7.mp e;cases e;show#[ρ,d,R,b,λv c s g=>q v c s g]]
theorem TN :JA X [] (CP K M H0 λ_=>Z []):=#[Ba.κ λb H Q a=>by
 let(c,d,R,e,q):=a;cases e;show q [] H (Ak.ω H) rfl]
theorem Qm(h:JE X e (Fw K M H0 f1))(a:JA X es (CP K M H0 fa))(f:AJ (e::es) X.G=(O',Ar e X.G)::AJ es X.G:=by show D8 rfl):JA X (e::es) (CP K M H0 λρ=>Zk (f1 ρ) (fa ρ)):=#[have h:=h.h;let a:=a.h;(Z2 h a f).κ λn H Q g=>by
 let(ρ,o,R,e,q):=g;let(s,r,i,j,rfl):=Jj e;show#[ρ,s,R,i,λv p b k=>#[ρ,r,R.st b,j,λc l d m=>q (v::c) l (b.E d) #[v,c,rfl,k.δ d,m]]]]
@[simp]def Zt:U Sl->A7
  |[]=>Z []
  |.val d::r=>Zk (Z d) (Zt r)
  |_=>J
theorem MB{K:Ap}{N:Fb}{H:Hp}:∀{ss:U Sl}{vs:U V}{a:U D},BR K N H ss vs->Zt ss=Z a->Ad K N H a vs
 |[],_,_,h,e=>by cases e;cases h;show Ad.ϔ
 |.val d::r,_,_,⟨v,t,b,h,c⟩,e=>by
  let(x,y,f,g,i):=Jj e;cases f;subst b i;show Ad.Θ h<|MB c g
 |.no::_,_,_,_,e=>nomatch e
 |.own _ _ _::_,_,_,_,e=>nomatch e
 |.lent _ _::_,_,_,_,e=>nomatch e
 |.exc _::_,_,_,_,e=>nomatch e
@[simp]def Zh{a:Type}(o:O (U a)):O (U a):=o.L λl=>if l.a<=Ay then Z l else J
theorem TQ{a:Type}{o:O (U a)}{l:U a}(h:Zh o=Z l):o=Z l/\l.a<=Ay:=by
 cases o with|none=>cases h|some x=>
  let b:(if x.a<=Ay then Z x else J)=Z l:=h;grind
theorem ZV{H:Hp}{p:Ac}{o:HO}(h:H p=J):Ak H (AK H p o):=λb u e=>Zl (Z6 e h) ▸ e
theorem NY{H d:Hp}{Q:VK}{p:Ac}(s:Ak H d)(e:d p=J)(h:Ad K (Nf M ρ I) d xs vs) (q:∀a vs H',Ak H H'->H a=J->H' a=Z (CO K fl a xs vs)->Ad K (λb=>Nf M ρ I b\/b=a) H' xs vs->Q (.I a) H'):Q (.I p) (AK d p (CO K fl p xs vs)):=by
 apply q p vs _ (s.E<|ZV e) (s.free e) ZT ?_;refine(h.nw λb c=>?_).δ (ZV e);rcases c with c|c
 .show .Q c
 .subst c;show .σ e
theorem ri(h:JA X es (CP K M H0 fa)):JE X (.List es pos) (tF K M H0 λρ=>Zh ((fa ρ).L Zt)):=#[have h:=h.h;(YJ h).κ λi H Q b=>by
 let(ρ,j,R,e,q):=b;let(e,hz):=TQ e;let(c,d,e):=Ch.mp e;show#[ρ,c,R,d,λk l f a=>#[(MB a e).a ▸ hz,λp g=>NY f g (MB a e) q]]]
theorem rj {b} (h:JA X es (CP K M H0 fa)):JE X (.Tuple es b pos) (tD K M H0 λρ=>(Zh ((fa ρ).L Zt)).j D.X):=#[have h:=h.h;(pD h).κ λl H Q c=>by
 let(ρ,d,R,e,q):=c;let(m,hz,e):=B7.mp e;cases e;let(e,hz):=TQ hz;let(f,g,e):=Ch.mp e;apply#[ρ,f,R,g,λi n j k=>?_];let hd:=MB k e;show#[hd.a ▸ hz,λp a=>q _ _ (j.E<|ZV a) ⟨p,i,rfl,Cg.of ZT,hd.δ<|ZV a⟩]]
end
set_option genInjectivity true in
inductive Rv where
 |val (d:D)|own (xs:List D) (b:Kd:=.l)
def EN(K:Ap)(N:Fb)(H0 H':Hp):Rv->V->Prop
 |.val d,v=>Aw K N H' d v
 |.own c b,v=>∃a e,v=.I a/\H0 a=J/\H' a=Z (CO K b a c e)/\Ad K (λb=>N b\/b=a) H' c e
def A4(K:Ap)(F:U Sl->O Rv):Sp:=λd H Q _=>∃N c r,(∀a,N a->H a≠J)/\BR K N H c d/\F c=Z r/\∀v b,Ak H b->EN K N H b r v->Q v b
@[simp]def Dk:Rv->D
  |.val d=>d
  |.own a b=>.O a b
@[simp]def FW:Rv->A7
  |.own a=>Z a
  |_=>J
@[simp]def Qn:Rv->A7
  |.own a .d=>Z a
  |_=>J
section
variable{K:Ap}{M:Fb}{e:Expr}{F:U Sl->O Rv}{k:Nat}{fn:Ac}{fd:Cs}{x:Af}{p:AB}{E:XK}
@[simp]def Zf(F:U Sl->O Rv)(fa:DK):AG:=λa=>(fa a).L λb=>(F b).j Dk
@[simp]def FY(F:U Sl->O Rv)(fa:DK):VE->A7:=λa=>(fa a).L λb=>(F b).L FW
theorem rk{H:Hp}{Q:VK}(h:tD K M H0 (Zf F fa) I H Q):Qa (A4 K F) [] E (CP K M H0 fa) I H Q:=by
 let(f,d,R,e,q):=h;let(g,j,e):=Ch.mp e;let(r,k,e):=B7.mp e;cases e;apply#[f,g,R,j,λx y c l=>#[Nf M f I,g,r,(R.st c).nh,by rw[Eh];show l,k,λv m n i=>q v m (c.E n) ?_]];cases r with|val d=>show i|own A B=>
  let(a,o,p,s,t,u):=i;show#[a,o,p,.of (λz=>(R.st c).Ψ s z) t,u.nw λb w=>.Q<|.Q w]
@[simp]def Ir(F:U Sl->O Rv)(fa:DK):VE->A7:=λa=>(fa a).L λb=>(F b).L Qn
theorem rm{H:Hp}{Q:VK}(h:Fv .d K M H0 (Ir F fa) I H Q):Qa (A4 K F) [] E (CP K M H0 fa) I H Q:=by
 let(g,d,R,e,q):=h;let(b,j,e):=Ch.mp e;cases c:F b with|none=>erw[Cp,c]at e;cases e|some r=>
  erw[Cp,c]at e;cases r with|val d=>cases e|own x k=>
   cases k with
   |l=>cases e
   |i _ _=>cases e
   |d=>
    cases e;apply#[g,b,R,j,λy z f m=>#[Nf M g I,b,_,(R.st f).nh,by rw[Eh];show m,c,λv n o p=>?_]];let(a,s,rfl,t,u,w):=p;show q a s n (f.E o) (f.ύ t) u w
theorem rn{H:Hp}{Q:VK}(h:tF K M H0 (FY F fa) I H Q):Qa (A4 K F) [] E (CP K M H0 fa) I H Q:=by
 let(g,d,R,e,q):=h;let(b,j,e):=Ch.mp e;cases c:F b with|none=>erw[Cp,c]at e;cases e|some r=>
  erw[Cp,c]at e;cases r with|val d=>cases e|own x k=>
   cases k with
   |d=>cases e
   |i _ _=>cases e
   |l=>
    cases e;apply#[g,b,R,j,λy z f m=>#[Nf M g I,b,_,(R.st f).nh,by rw[Eh];show m,c,λv n o p=>?_]];let(a,s,rfl,t,u,w):=p;show q a s n (f.E o) (f.ύ t) u w
theorem rp(G:A2 X.β X.w X.K X.mg X.χ CX k fn fd ps (A4 K F))(b:AL k X.A)(c:Gl X x)(f:X.mg x=Z (.I fn))(g:Jb X.K (.I fn)=J')(i:Binds X.K fd ps [])(j:FR CX X E)(a:JA X (e::es) (CP K M H0 fa))(hz:CA X x e es pos:=by show Gj):JE X (.Λ (.ε x p) (e::es) [] pos) (tD K M H0 (Zf F fa)):=#[have a:=a.h;(Qb G b c f g i .ϔ j a hz.d hz.s hz.p).κ λ_ _ _ h=>rk h]
theorem rq(G:A2 X.β X.w X.K X.mg X.χ CX k fn fd ps (A4 K F))(b:AL k X.A)(c:Gl X x)(f:X.mg x=Z (.I fn))(g:Jb X.K (.I fn)=J')(i:Binds X.K fd ps [])(j:FR CX X E)(a:JA X (e::es) (CP K M H0 fa))(hz:CA X x e es pos:=by show Gj):JE X (.Λ (.ε x p) (e::es) [] pos) (tF K M H0 (FY F fa)):=#[have a:=a.h;(Qb G b c f g i .ϔ j a hz.d hz.s hz.p).κ λ_ _ _ h=>rn h]
end
def Gk(K:Ap)(r:U V->Hp->VK->Prop)(F:Ev):Prop:=∀(N:Fb)(H:Hp)(c:U V)(e:U D)(d:D)(Q:VK),(∀a,N a->H a≠J)->Paired (Az K N H) e c->F e=Z d ->
 (∀v b,Ak H b->Aw K N b d v->Q v b)->r c H Q
def Qo(K:Ap)(r:U V->Hp->VK->Prop)(F:U D->A7):Prop:=∀(N:Fb)(H:Hp)(b:U V)(c:U D)(d:U D)(Q:VK),(∀a,N a->H a≠J)->Paired (Az K N H) c b->F c=Z d ->
 (∀e p,H p=J->Ad K N H d e->Q (.I p) (AK H p (.O e)))->r b H Q
@[simp]def GG:U Sl->A7
  |[]=>Z []
  |s::r=>Zk (pk s) (GG r)
theorem Qp{K:Ap}{N:Fb}{H:Hp}:∀{ss:U Sl}{vs:U V}{a:U D},BR K N H ss vs->GG ss=Z a->Paired (Az K N H) a vs
 |[],_,_,h,e=>by cases e;cases h;show .ϔ
 |s::r,_,_,⟨v,t,b,h,c⟩,e=>by
  let(x,y,d,f,g):=Jj e;subst b g;show .Θ (h.p d)<|Qp c f
section
variable{K:Ap}{M:Fb}{e:Expr}{x:Af}{p:AB}{r:U V->Hp->VK->Prop}{F:Ev}{G:U D->A7}{id:String}
@[simp]def Zi(F:Ev)(fa:DK):AG:=λa=>((fa a).L GG).L F
@[simp]def Ff(F:U D->A7)(fa:DK):VE->A7:=λa=>((fa a).L GG).L F
theorem ay(f:Gk K r F){H:Hp}{Q:VK}(h:tD K M H0 (Zi F fa) I H Q):Qc r (CP K M H0 fa) I H Q:=by
 let(a,d,R,e,q):=h;unfold Zi at e;cases b:fa a with|none=>rw[b]at e;cases e|some g=>
  rw[b]at e;let(i,j,e):=Ch.mp e;show#[a,g,R,b,λk l c m=>f (Nf M a I) l k i d Q (R.st c).nh (Qp m j) e λv n s o=>q v n (c.E s) o]
theorem rz(g:Qo K r G){H:Hp}{Q:VK}(h:tF K M H0 (Ff G fa) I H Q):Qc r (CP K M H0 fa) I H Q:=by
 let(a,d,R,e,q):=h;unfold Ff at e;cases b:fa a with|none=>rw[b]at e;cases e|some i=>
  rw[b]at e;let(j,c,e):=Ch.mp e;show#[a,i,R,b,λk l f m=>g (Nf M a I) l k j d Q (R.st f).nh (Qp m c) e λo p c n=>NY f c n q]
theorem Hc(b:E2 X (.Β id) r)(c:Gk K r F)(f:Gl X x)(g:X.mg x=J)(i:Fp x=Z (.Β id))(a:JA X (e::es) (CP K M H0 fa))(j:x≠"__name__":=by ext)(hz:CA X x e es pos:=by show Gj):JE X (.Λ (.ε x p) (e::es) [] pos) (tD K M H0 (Zi F fa)):=#[have a:=a.h;(pL b f g i a j hz.d hz.s hz.p).κ λ_ _ _ h=>ay c h]
theorem TR(b:E2 X (.ι id) r)(c:Gk K r F)(f:Gl X x)(g:X.mg x=J)(i:Fp x=Z (.ι id))(a:JA X (e::es) (CP K M H0 fa))(j:x≠"__name__":=by ext)(hz:CA X x e es pos:=by show Gj):JE X (.Λ (.ε x p) (e::es) [] pos) (tD K M H0 (Zi F fa)):=#[have a:=a.h;(YQ b f g i a j hz.d hz.s hz.p).κ λ_ _ _ h=>ay c h]
theorem az(b:E2 X (.ι id) r)(c:Qo K r G)(f:Gl X x)(g:X.mg x=J)(i:Fp x=Z (.ι id))(a:JA X (e::es) (CP K M H0 fa))(j:x≠"__name__":=by ext)(hz:CA X x e es pos:=by show Gj):JE X (.Λ (.ε x p) (e::es) [] pos) (tF K M H0 (Ff G fa)):=#[have a:=a.h;(YQ b f g i a j hz.d hz.s hz.p).κ λ_ _ _ h=>rz c h]
end
inductive DB where
 |fail|next(ρ:VE)|brk (ρ:VE)|cont (ρ:VE)|ret (r:Rv)
abbrev Ax:=VE->DB
def HM(K:Ap)(M:Fb)(H0:Hp)(ρ:VE)(I:St)(H:Hp)(b:VE)(Q:St->Hp->Prop):Prop:=∀a c,Bn K M H0 b a c->Step M (Nf M ρ I) (Nf M b a) H c->Q a c
def Bk(K:Ap)(M:Fb)(H0:Hp)(ρ:VE)(I:St)(H:Hp)(D:Ends):DB->Prop
 |.fail=>False
 |.next a=>HM K M H0 ρ I H a D.nx
 |.brk a=>HM K M H0 ρ I H a D.bk
 |.cont a=>HM K M H0 ρ I H a D.ct
 |.ret r=>∀v b,Ak H0 b->EN K M H0 b r v->D.rt v b
def tS(K:Ap)(M:Fb)(H0:Hp)(g:Ax):TS:=λD b H=>∃a,Bn K M H0 a b H/\Bk K M H0 a b H D (g a)
@[simp]def Ze(a:DB)(g:Ax):DB:=match a with
  |.next b=>g b
  |r=>r
theorem HM.from{K:Ap}{M:Fb}{a b:VE}{c:St}{H e:Hp}{Q:St->Hp->Prop}(s:Step M (Nf M ρ I) (Nf M a c) H e)(h:HM K M H0 ρ I H b Q):HM K M H0 a c e b Q:=λd f R g=>h d f R<|s.E g
theorem Bk.from{K:Ap}{M:Fb}{a:VE}{b:St}{H d:Hp}{D:Ends}{r:DB}(s:Step M (Nf M ρ I) (Nf M a b) H d)(h:Bk K M H0 ρ I H D r):Bk K M H0 a b d D r:=by
 cases r with
 |fail=>show h
 |next c=>show HM.jk s h
 |brk c=>show HM.jk s h
 |cont c=>show HM.jk s h
 |ret r=>show h
section
variable{K:Ap}{M:Fb}{st:AF}{AW:U AF}{g g1 g2:Ax}{e:Expr}{f:AG}
theorem rA :JB X [] (tS K M H0 λρ=>.U ρ):=#[EI.κ λD a H ⟨ρ,R,q⟩=>q a H R Step.ω]
theorem aA(c:JS X st (tS K M H0 g1))(d:JB X AW (tS K M H0 g2)):JB X (st::AW) (tS K M H0 λρ=>Ze (g1 ρ) g2):=#[have c:=c.h;let d:=d.h;(Tf c d).κ λD j H e=>by
 let(ρ,R,q):=e;try dsimp only at q
 apply#[ρ,R,?_];cases b:g1 ρ with
 |fail=>rw[b]at q;show q
 |next a=>rw[b]at q;show λf k g i=>#[a,g,q.jk i]
 |brk a=>rw[b]at q;show q
 |cont a=>rw[b]at q;show q
 |ret r=>rw[b]at q;show q]
@[simp]def Zv(o:O D):DB:=match o with
  |some d=>.ϸ (.y d)
  |none=>.Ω
theorem rB(h:JE X e (tD K M H0 f)):JS X (.v0 (Z e) pos) (tS K M H0 λρ=>Zv (f ρ)):=#[have h:=h.h;(PY h).κ λD k H c=>by
 let(ρ,R,q):=c;try dsimp only at q
 cases b:f ρ with|none=>rw[b]at q;show BX q|some d=>
  rw[b]at q;show#[ρ,d,R,b,λv g s i=>q v g (R.δ.E s)<|i.nw λa j=>.Q<|.Q j]]
@[simp]def Cy(o:A7):DB:=match o with
  |some a=>.ϸ (.Κ a)
  |none=>.Ω
@[simp]def Kf(o:A7):DB:=match o with
  |some a=>.ϸ (.Κ a .d)
  |none=>.Ω
theorem aB{k:Kd}{f:VE->A7}{r:A7->DB}(g:r J=.Ω)(i:∀xs,r (Z xs)=.ϸ (.Κ xs k))(h:PE X e (Fv k K M H0 f)):PS X (.v0 (Z e) pos) (tS K M H0 λρ=>r (f ρ)):=(PY h).κ λD t H j=>by
 let(ρ,R,q):=j;try dsimp only at q
 cases d:f ρ with|none=>rw[d,g]at q;show BX q|some xs=>
  rw[d,i]at q;show#[ρ,xs,R,d,λa l m s n o p=>q (.I a) m (R.δ.E s) #[a,l,rfl,R.δ.ύ n,o,p.nw λb c=>by
   rcases c with c|c
   .show .Q<|.Q<|.Q c
   .show .Q<|.σ c]]
theorem rC{f:VE->A7}(h:JE X e (Fv .d K M H0 f)):JS X (.v0 (Z e) pos) (tS K M H0 λρ=>Kf (f ρ)):=#[aB rfl (λ_=>rfl) h.h]
theorem rD{f:VE->A7}(h:JE X e (tF K M H0 f)):JS X (.v0 (Z e) pos) (tS K M H0 λρ=>Cy (f ρ)):=#[aB rfl (λ_=>rfl) h.h]
@[simp]def EO(ρ:VE)(i:Nat):A7:=match ρ[i]? with
  |some (.own a)=>Z a
  |_=>J
theorem NZ{i:Nat}(h:EO ρ i=Z xs):ρ[i]?=Z (.Κ xs):=by grind [EO]
@[simp]def Hd(ρ:VE)(i:Nat):A7:=match ρ[i]? with
  |some (.own a .d)=>Z a
  |_=>J
theorem N0{i:Nat}(h:Hd ρ i=Z xs):ρ[i]?=Z (.Κ xs .d):=by grind [Hd]
theorem AE{i:Nat}{v:V}(a:I[i]?.join=Z v):I[i]?=Z (Z v):=by
 cases z:I[i]? with
 |none=>rw[z]at a;cases a
 |some o=>rw[z]at a;cases a;rfl
theorem aC{k:Kd}{f:VE->Nat->A7}{r:A7->DB}(j:r J=.Ω)(l:∀xs,r (Z xs)=.ϸ (.Κ xs k))(g:∀{ρ i xs},f ρ i=Z xs->ρ[i]?=Z (.Κ xs k)){i:Nat}{x:Af}{c:AB}(m:NV X i x):PS X (.v0 (Z (.ε x c)) pos) (tS K M H0 λρ=>r (f ρ i)):=(PY<|Ha m).mono λD u H n=>by
 let(ρ,R,q):=n;try dsimp only at q
 cases e:f ρ i with|none=>rw[e,j]at q;show BX q|some xs=>
  rw[e,l]at q;let(a,o,h,(p,_),v,s,t):=R.ϕ i _<|g e;apply⟨.ref a,AE h,q (.ref a) H R.same ⟨a,o,rfl,p,s,t.nw λb d=>.Q ?_⟩⟩;rcases d with d|d
  .show .Q d
  .subst d;show .σ #[i,xs,_,_,g e,AE h]
@[simp]def ZH(c:O Bool)(a b:DB):DB:=match c with
  |some J'=>a
  |some O'=>b
  |none=>.Ω
theorem rE{c:Expr}{a b:U AF}{t:VE->O Bool}(d:JT X c (B4 K M H0 t))(e:JB X a (tS K M H0 g1))(f:JB X b (tS K M H0 g2)):JS X (.If c a b pos) (tS K M H0 λρ=>ZH (t ρ) (g1 ρ) (g2 ρ)):=#[have d:=d.h;let e:=e.h;let f:=f.h;(PZ d e f).κ λD j H i=>by
 let(ρ,R,q):=i;try dsimp only at q
 cases g:t ρ with|none=>rw[g]at q;show BX q|some k=>
  rw[g]at q;apply#[ρ,k,R,g,λl s=>?_];cases k with
  |true=>apply Lk ?_;show#[ρ,R.st s,Bk.jk (Step.ώ s) q]
  |false=>apply Ll ?_;show#[ρ,R.st s,Bk.jk (Step.ώ s) q]]
theorem Kg{b:Type}{l:U b}{i:Nat}{x y:b}(h:(l.ν i x)[i]?=Z y):i<l.a/\x=y:=by
 by_cases a:i<l.a
 .rw[Fa a]at h;show#[a,EH h]
 .rw[List.getElem?_eq_none (by exists FV a)]at h;cases h
theorem N1{M:Fb}{i:Nat}{s:Sl}{v:V}{b:Ac}(f:ρ.a=I.a)(h:Nf M (ρ.ν i s) (I.ν i (Z v)) b):Nf M ρ I b\/∃xs fl a,s=.Κ xs fl a/\v=.I b:=by
 rcases h with h|⟨j,xs,fl,a,c,d⟩
 .show .Q<|.Q h
 .by_cases e:i=j
  .subst e;cases((Kg c).2);cases((Kg d).2);show .σ #[xs,fl,a,rfl,rfl]
  .rw[DR e]at c d;show .Q<|.σ ⟨j,xs,fl,a,c,d⟩
theorem Bn.put{H:Hp}{i:Nat}{s:Sl}{v:V}(R:Bn K M H0 ρ I H)(S:Step M (Nf M ρ I) (Nf M (ρ.ν i s) (I.ν i (Z v))) H H')(sm:Ak H0 H') (E:∀j a vs xs fl m,j≠i->ρ[j]?=Z (.Κ xs fl m)->I[j]?=Z (Z (.I a))->H a=Z (CO K fl a xs vs)->H' a=Z (CO K fl a xs vs)) (G:i<ρ.a->TL K M (Nf M (ρ.ν i s) (I.ν i (Z v))) H0 H' s (Z v)) (n:∀xs fl m a j ys b f,s=.Κ xs fl m->v=.I a->j≠i->ρ[j]?=Z (.Κ ys b f)->I[j]?≠Z (Z (.I a))):Bn K M H0 (ρ.ν i s) (I.ν i (Z v)) H' where
 len:=by rw[Jg,Jg];show R.ϩ
 same:=sm;mh:=λa h z=>by
  cases e:H a with
  |none=>show R.mh a h e
  |some o=>rw[S.kp a o e<|.σ<|.Q h]at z;cases z
 slot:=λj A e=>by
  by_cases t:i=j
  .subst t;let(B,e):=Kg e;subst e;rw[Fa<|R.ϩ ▸ B];show G B
  .rw[DR t]at e ⊢;let q:=R.ϕ j A e;cases A with
   |no=>trivial
   |val d=>let(u,p,h):=q;show#[u,p,Aw.Τ S d u h]
   |own xs fl m=>let(a,vs,p,g,l,r,w):=q;show#[a,vs,p,g,l,E j a vs xs fl m (BM t) e (AE p) r,Ad.Τ S xs vs w]
   |lent xs fl=>let(a,vs,p,g,l,r):=q;show#[a,vs,p,g,l.Τ S<|.σ<|.Q g.1,Ad.Τ S xs vs r]
   |exc c=>let(a,C,p,g,l):=q;show#[a,C,p,g,S.kp _ _ l<|.σ<|.σ rfl]
 inj:=λj k xs ys fl b m f a g l r w=>by
  by_cases y:i=j
  .by_cases x:i=k
   .rw[<- y,x]
   .subst y;rw[DR x]at l w;cases((Kg g).2);cases((Kg r).2);show absurd w<|n xs fl m a k ys b f rfl rfl (BM x) l
  .rw[DR y]at g r;by_cases x:i=k
   .subst x;cases((Kg l).2);cases((Kg w).2);show absurd r<|n ys b f a j xs fl m rfl rfl (BM y) g
   .rw[DR x]at l w;show R.inj j k xs ys fl b m f a g l r w
theorem Bn.setV{H:Hp}{i:Nat}{d:D}{v:V}(R:Bn K M H0 ρ I H)(s:Ak H H')(h:Aw K (Nf M ρ I) H' d v):Bn K M H0 (ρ.ν i (.y d)) (I.ν i (Z v)) H'/\Step M (Nf M ρ I) (Nf M (ρ.ν i (.y d)) (I.ν i (Z v))) H H':=by
 let S:Step M (Nf M ρ I) (Nf M (ρ.ν i<|.val d)<|I.set i<|some v) H H':=#[λa o e _=>s a o e,λb c=>by
  rcases N1 R.len c with q|⟨f,_,_,e,_⟩
  .show .Q q
  .cases e]
 apply#[R.put S (R.δ.E s) (λj a l f g _ _ _ _ e=>s _ _ e) (λ_=>#[v,rfl,h.nw λb c=>?_]) (λf g _ a j m k _ e=>nomatch e),S];rcases N1 R.len c with q|⟨f,_,_,e,_⟩
 .show .Q q
 .cases e
theorem Bn.setO{H:Hp}{i:Nat}(R:Bn K M H0 ρ I H)(s:Ak H H')(d:H a=J)(l:H' a=Z (CO K fl a xs vs))(h:Ad K (λb=>Nf M ρ I b\/b=a) H' xs vs):Bn K M H0 (ρ.ν i (.Κ xs fl)) (I.ν i (Z (.I a))) H'/\Step M (Nf M ρ I) (Nf M (ρ.ν i (.Κ xs fl)) (I.ν i (Z (.I a)))) H H':=by
 let nf:∀b,Nf M (ρ.ν i<|.own xs fl) (I.set i<|some<|.ref a) b->Nf M ρ I b\/b=a:=λb c=>by
  rcases N1 R.len c with q|⟨xs,fl,_,e,f⟩
  .show .Q q
  .cases f;show .σ rfl
 let S:Step M (Nf M ρ I) (Nf M (ρ.ν i<|.own xs fl)<|I.set i<|some<|.ref a) H H':=#[λa o e _=>s a o e,λb c=>by
  rcases nf b c with q|q
  .show .Q q
  .subst q;show .σ d]
 apply#[R.put S (R.δ.E s) (λj a vs xs fl _ _ _ _ e=>s _ _ e) (λ_=>#[a,vs,rfl,#[R.δ.ύ d,λ_ z=>nomatch z],λm=>R.Ψ d<|.inl m,l,h.nw λb c=>.Q<|nf b c]) (λn p _ v j r g k e f w t u=>?_),S];cases f;show R.Ψ d<|.σ ⟨j,r,g,k,t,u⟩
theorem Bn.chg{fl2:Kd}{c:O Ac}{H:Hp}{i:Nat}{ys:U D}{ws:U V}(R:Bn K M H0 ρ I H)(m:ρ[i]?=Z (.Κ xs fl c))(g:I[i]?=Z (Z (.I a)))(h:Ad K (Nf M ρ I) H ys ws):Bn K M H0 (ρ.ν i (.Κ ys fl2 c)) I (AK H a (CO K fl2 a ys ws))/\Step M (Nf M ρ I) (Nf M (ρ.ν i (.Κ ys fl2 c)) I) H (AK H a (CO K fl2 a ys ws)):=by
 let(B,L,w,(x,C),y,E,N):=R.ϕ i _ m;rw[g]at w;let G:a=B:=by exists w
 subst G;let n:I.ν i (Z<|.I a)=I:=by
  apply(Kh);intro j;by_cases e:i=j
  .subst e;rw[Fa (Cr.mp g).1,g]
  .rw[DR e]
 let A:Nf M ρ I a:=.σ #[i,xs,fl,c,m,g];let nf:∀b,Nf M (ρ.ν i<|.own ys fl2 c) (I.set i<|some<|.ref a) b->Nf M ρ I b:=λb p=>by
  rcases N1 R.len p with q|⟨xs,_,_,e,r⟩
  .show q
  .cases r;show A
 let S:Step M (Nf M ρ I) (Nf M (ρ.ν i<|.own ys fl2 c)<|I.set i<|some<|.ref a) H (AK H a<|CO K fl2 a ys ws):=#[λb o e z=>by
   let ne:b≠a:=by
    rintro rfl;rcases z with z|z|z
    .show z A
    .show y z
    .rw[E]at e;cases e;rw[ak]at z;cases z
   rw[Zl ne];show e,λb p=>.Q<|nf b p]
 let k:Bn K M H0 (ρ.ν i<|.Κ ys fl2 c) (I.ν i<|some<|.I a) (AK H a<|CO K fl2 a ys ws):=by
  apply R.put S (λb o e=>?_) (λj b P l d f s t u Q=>?_) (λ_=>#[a,ws,rfl,#[x,C],y,ZT,Ad.Τ S ys ws h]) (λl F _ b j v d f e r s t u=>?_)
  .let ne:b≠a:=by
    rintro rfl;rw[x]at e;cases e
   rw[Zl ne];show R.δ b o e
  .let ne:b≠a:=by
    rintro rfl;show s<|R.inj j i l xs d fl f c b t m u g
   rw[Zl ne];show Q
  .cases r;show s<|R.inj j i v xs d fl f c _ t m u g
 rw[n]at k S;show#[k,S]
theorem Bn.frz{o:O Ac}{H:Hp}{i:Nat}(R:Bn K M H0 ρ I H)(l:ρ[i]?=Z (.Κ xs fl o)):Bn K M H0 (ρ.ν i (.y (.O xs fl))) I H/\Step M (Nf M ρ I) (Nf M (ρ.ν i (.y (.O xs fl))) I) H H:=by
 let(a,m,p,z,r,s,t):=R.ϕ i _ l;let d:I.ν i (Z<|.I a)=I:=by
  apply(Kh);grind
 let nf:∀b,Nf M (ρ.ν i<|.val<|.lst xs fl) (I.set i<|some<|.ref a) b->Nf M ρ I b:=λb f=>by
  rcases N1 R.len f with q|⟨xs,_,_,e,A⟩
  .show q
  .cases e
 let g:¬ Nf M (ρ.ν i<|.y<|.O xs fl) (I.ν i<|some<|.I a) a:=by
  rintro(h|⟨j,u,v,w,k,n⟩)
  .show r h
  .by_cases e:i=j
   .subst e;cases((Kg k).2)
   .rw[DR e]at k n;show e<|R.inj i j xs u _ _ _ _ a l k (AE p) n
 let S:Step M (Nf M ρ I) (Nf M (ρ.ν i<|.val<|.lst xs fl)<|I.set i<|some<|.ref a) H H:=#[λ_ _ e _=>e,λb f=>.Q<|nf b f];let c:Bn K M H0 (ρ.ν i<|.y<|.O xs fl) (I.ν i<|some<|.I a) H:=by
  show R.put S R.δ (λ_ _ _ _ _ _ _ _ _ h=>h) (λ_=>#[.I a,rfl,#[a,m,rfl,.of g s,Ad.Τ S xs m t]]) (λx _ _ b j y _ _ e=>nomatch e)
 rw[d]at c S;show#[c,S]
@[simp]def C1(i:Nat)(o:O D)(ρ:VE):DB:=match o with
  |some d=>.U (ρ.ν i (.y d))
  |none=>.Ω
@[simp]def Dn(i:Nat)(o:A7)(ρ:VE):DB:=match o with
  |some a=>.U (ρ.ν i (.Κ a))
  |none=>.Ω
@[simp]def Gm(i:Nat)(o:A7)(ρ:VE):DB:=match o with
  |some a=>.U (ρ.ν i (.Κ a .d))
  |none=>.Ω
theorem rF{f:VE->A7}{i:Nat}{H:Hp}(h:tS K M H0 (λρ=>Gm i (f ρ) ρ) D' I H):Mp (Fv .d K M H0 f) (Mo i) D' I H:=by
 let(ρ,R,q):=h;cases b:f ρ with|none=>erw[b,Gm]at q;show BX q|some d=>
  erw[b,Gm]at q;apply#[ρ,d,R,b,λa l m s c e g=>?_];let(j,k):=R.setO (i:=i) s c e g;show q _ _ j k
theorem rG{f:VE->A7}{i:Nat}{x:Af}{a:AB}(c:X.N.η)(g:X.N[i]?=Z x)(j:Loc X.G.Ξ x)(b:JE X e (Fv .d K M H0 f))(k:EJ e (Z (.ε x a)) pos.Ϯ X.G=Am O':=by rfl)(l:X.fn x=J'\/X.G.Ξ.υ.S x=Z .Ϡ:=by ac_rfl):JS X (.Assign [.Name x a] e pos) (tS K M H0 λρ=>Gm i (f ρ) ρ):=#[have b:=b.h;(P4 c g j b k l).κ λ_ _ _ q=>rF q]
theorem aE{i:Nat}{H:Hp}(h:tS K M H0 (λρ=>C1 i (f ρ) ρ) D' I H):Mp (tD K M H0 f) (Mo i) D' I H:=by
 let(ρ,R,q):=h;cases a:f ρ with|none=>erw[a,C1]at q;show BX q|some d=>
  erw[a,C1]at q;apply#[ρ,d,R,a,λv g s b=>?_];let(c,e):=R.setV (i:=i) s b;show q _ _ c e
theorem TU{f:VE->A7}{i:Nat}{H:Hp}(h:tS K M H0 (λρ=>Dn i (f ρ) ρ) D' I H):Mp (tF K M H0 f) (Mo i) D' I H:=by
 let(ρ,R,q):=h;cases b:f ρ with|none=>erw[b,Dn]at q;show BX q|some d=>
  erw[b,Dn]at q;apply#[ρ,d,R,b,λa l m s c e g=>?_];let(j,k):=R.setO (i:=i) s c e g;show q _ _ j k
theorem rH{i:Nat}{x:Af}{a:AB}(c:X.N.η)(d:X.N[i]?=Z x)(g:Loc X.G.Ξ x)(b:JE X e (tD K M H0 f))(j:EJ e (Z (.ε x a)) pos.Ϯ X.G=Am O':=by rfl)(k:X.fn x=J'\/X.G.Ξ.υ.S x=Z .Ϡ:=by ac_rfl):JS X (.Assign [.Name x a] e pos) (tS K M H0 λρ=>C1 i (f ρ) ρ):=#[have b:=b.h;(P4 c d g b j k).κ λ_ _ _ q=>aE q]
theorem rJ{f:VE->A7}{i:Nat}{x:Af}{a:AB}(c:X.N.η)(d:X.N[i]?=Z x)(g:Loc X.G.Ξ x)(b:JE X e (tF K M H0 f))(j:EJ e (Z (.ε x a)) pos.Ϯ X.G=Am O':=by rfl)(k:X.fn x=J'\/X.G.Ξ.υ.S x=Z .Ϡ:=by ac_rfl):JS X (.Assign [.Name x a] e pos) (tS K M H0 λρ=>Dn i (f ρ) ρ):=#[have b:=b.h;(P4 c d g b j k).κ λ_ _ _ q=>TU q]
@[simp]def Lp(i:Nat)(ρ:VE):VE:=match ρ[i]? with
  |some (.own a b _)=>ρ.ν i (.y (.O a b))
  |_=>ρ
open J in
theorem rK(i:Nat)(h:JS X st (tS K M H0 g)):JS X st (tS K M H0 λρ=>g (Lp i ρ)):=#[have h:=h.h;h.κ λe f H a=>by
 let(ρ,R,q):=a;try dsimp only at q
 unfold Lp at q;split at q
 .next j b=>
  let(c,d):=R.frz b;show#[_,c,q.jk d]
 .show#[ρ,R,q]]
@[simp]def GH(i:Nat)(o:O D)(ρ:VE):DB:=match ρ[i]?,o with
  |some (.own a .l b),Z d=>if a.a<Ay then .U (ρ.ν i (.Κ (a++[d]) .l b))else .Ω
  |_,_=>.Ω
open J in
theorem rL{i:Nat}{x:Af}{c:AB}(r:NV X i x)(g:JE X e (tD K M H0 f))(t:EJ (.Λ (.α (.ε x c) "append" apos) [e] [] cpos) J pos.Ϯ X.G=Am O':=by rfl)(hz:BA X x c "append" apos e cpos:=by show aw):JS X (.Expr (.Λ (.α (.ε x c) "append" apos) [e] [] cpos) pos) (tS K M H0 λρ=>GH i (f ρ) ρ):=#[have g:=g.h;(PX (G9 Lq TV TW Qi (Ha r) (Z2 g Ba hz.s) hz.b hz.f hz.l hz.s hz.p) t).κ λC E H u=>by
  let(ρ,R,q):=u;try dsimp only at q
  unfold GH at q;split at q
  .next w G d k y=>
   split at q
   .next hz=>
    let(a,j,m,F,B,n,o):=R.ϕ i _ k;apply#[.I a,(AE m),.Q #[rfl,j,.Q<|.inl n],ρ,d,R,y,λv L s z=>?_];let(R2,A):=(R.st s).chg (ys:=w++[d]) (ws:=j++[v]) (fl2:=.l) k (AE m) ((o.δ s).Ι<|Ad.Θ z Ad.ϔ);show⟨a,j,v,rfl,rfl,s _ _ n,o.a ▸ hz,q _ _ R2<|(Step.ώ s).E A⟩
   .show BX q
  .show BX q]
end
def MC(K:Ap)(M N:Fb)(f:Hp)(g:It)(c:U D):Prop:=∀e a,Step M N e f a->∀i,(∀d,c[i]?=Z d->g.go i a/\∀x b,g.yld i a x b->Ak a b/\Aw K e b d x)/\(i=c.a->g.stop i a)
def tI(K:Ap)(M:Fb)(H0:Hp)(f:VE->A7):TI:=λc H R=>∃a d,Bn K M H0 a c H/\f a=Z d/\∀e b,Ak H b->MC K M (Nf M a c) b e d->R e b
def tG(K:Ap)(M:Fb)(H0:Hp)(ws:U Nat)(b:D->VE->O VE):TG:=λv e H Q=>∃f d c,Bn K M H0 f e H/\Aw K (Nf M f e) H d v/\b d f=Z c/\∀a ,Bn K M H0 c a H->Step M (Nf M f e) (Nf M c a) H H->(∀j,j∉ws->a[j]?=e[j]?)->Q a H
@[simp]def Zc(i:Nat)(d:D)(ρ:VE):O VE:=Z (ρ.ν i (.y d))
def ZO(b:D->VE->O VE)(g:Ax):U D->Ax
 |[],c=>.U c
 |d::f,c=>match b d c with
  |none=>.Ω
  |some e=>match g e with
   |.next a=>ZO b g f a
   |.cont a=>ZO b g f a
   |.brk a=>.U a
   |r=>r
@[simp]def Z8(f:VE->A7)(b:D->VE->O VE)(g:Ax):Ax:=λa=>match f a with
  |some c=>ZO b g c a
  |none=>.Ω
section
variable{K:Ap}{M:Fb}{e:Expr}{f:VE->A7}{b:D->VE->O VE}{g:Ax}{body:U AF}
theorem rM{i:Nat}{x:Af}(b:X.N.η)(c:X.N[i]?=Z x)(f:Loc X.G.Ξ x)(g:X.fn x=J'\/X.G.Ξ.υ.S x=Z .Ϡ:=by ac_rfl):JG X (.ε x pos) (tG K M H0 [i] (Zc i)):=#[by
 intro a s h H v u Q p r #[o,d,k,R,hd,e,q];cases e;let(l,m):=R.setV (i:=i) (Ak.ω H) hd;show Th b c f g a s h H v u Q p r (q _ l m λj n=>by rw[DR<|λe=>n (by rw[e];simp)])]
theorem aF{H:Hp}{tg':TG}{tb:TS}(hi:∀I H R,tI K M H0 f I H R->wi I H R)(hg:∀v I H Q,tG K M H0 ws b v I H Q->tg' v I H Q)(hb:∀D I H,tS K M H0 g D I H->tb D I H) (h:tS K M H0 (Z8 f b g) D' I H):Ys wi tg' tb D' I H:=by
 let(B,R,q):=h;unfold Z8 at q;cases C:f B with|none=>rw[C]at q;show BX q|some d=>
  rw[C]at q;apply hi _ _ _ #[B,d,R,C,λF P T ok=>?_];apply#[λi m e A=>m=d.a-i/\i<=d.a/\∃a,Bn K M H0 a e A/\Step M (Nf M B I) (Nf M a e) P A/\Bk K M H0 a e A D' (ZO b g (d.ρ i) a),#[d.a,by simp,E3 _,B,R.st T,Step.ω,?_],?_]
  .show Bk.jk (Step.ώ T) q
  .intro i m e A zQ;let(rfl,hle,a,S,E,c):=zQ;let(G,W):=ok _ _ E i;by_cases l:i<d.a
   .let(go,y):=G d[i]<|Cb l;rw[HK l]at c;erw[ZO]at c;apply .inr ⟨go,λn s=>i+1<=d.a/\∃a,Bn K M H0 a n s/\Step M (Nf M B I) (Nf M a n) P s/\Bk K M H0 a n s D' (ZO b g (d.ρ<|i+1) a),λn s z=>⟨d.a-(i+1),∅,rfl,z⟩,λx s yl=>?_⟩;let(Y,hd):=y x s yl;cases t:b d[i] a with|none=>rw[t]at c;show BX c|some o=>
     rw[t]at c;simp only at c;apply hg _ _ _ _ #[a,d[i],o,S.st Y,hd,t,λL R1 S1 _=>hb _ _ _ #[o,R1,?_]];let j:Step M (Nf M a e) (Nf M o L) A s:=(Step.ώ Y).E S1;cases k:g o with
     |fail=>rw[k]at c;show c
     |next p=>rw[k]at c;show λu N R2 w=>#[l,p,R2,E.E<|j.E w,Bk.jk (j.E w) c]
     |cont p=>rw[k]at c;show λu N R2 w=>#[l,p,R2,E.E<|j.E w,Bk.jk (j.E w) c]
     |brk p=>rw[k]at c;show λu N R2 w=>c u N R2<|j.E w
     |ret r=>rw[k]at c;show c
   .rw[Lh ∅]at c;show .Q #[W (show i=d.a by lia),c e A S Step.ω]
theorem rN(e:PassesOwn (Ae X.β X.w) X.A X.G X.xe)(i:X.ϵ=J')(a:JI X tg iter (tI K M H0 f))(c:JG X tg (tG K M H0 ws b))(d:JB X body (tS K M H0 g))(j:∀x,E1 iter X.G x=Am x:=by intro _;rfl):JS X (.For tg iter body [] pos) (tS K M H0 (Z8 f b g)):=#[have a:=a.h;let c:=c.h;let d:=d.h;(NI e i a c d j).κ λ_ _ _ q=>aF (λ_ _ _ z=>z) (λ_ _ _ _ z=>z) (λ_ _ _ z=>z) q]
theorem PI.mono{a:TI}(h:PI X tg iter wi)(m:∀I H R,a I H R->wi I H R):PI X tg iter a:=λb s I H R c q=>h b s I H R c<|m I H R q
def Qq(K:Ap)(M N:Fb)(H:Hp)(d:D)(v:V):Prop:=match d with
 |.lst e=>∃a c,v=.I a/\(((¬ N a\/M a)/\Rd H a (.O c))\/KL K a c)/\Ad K N H e c
 |.lst e b=>∃a c,v=.I a/\(¬ N a\/M a)/\Rd H a (CO K b a e c)/\Ad K N H e c
 |d=>Aw K N H d v
def tQ(K:Ap)(M:Fb)(H0:Hp)(f:AG):TE:=λc H Q=>∃a d,Bn K M H0 a c H/\f a=Z d/\∀v b,Ak H b->Qq K M (Nf M a c) b d v->Q v b
theorem Aw.q{M N:Fb}{H:Hp}{d:D}{v:V}(h:Aw K N H d v):Qq K M N H d v:=by
 cases d with
 |lst g c=>
  let(a,b,e,q,r):=h;cases c with
  |l=>
   apply#[a,b,e,?_,r];rcases q with⟨n,q⟩|⟨f,z,q⟩
   .show .Q #[.Q n,q]
   .cases z;show .σ q
  |_=>
   rcases q with⟨n,q⟩|⟨f,z,_⟩
   .show#[a,b,e,.Q n,q,r]
   .cases z
 |_=>show h
theorem PE.q{f:AG}(h:PE X e (tD K M H0 f)):PE X e (tQ K M H0 f):=h.κ λc H Q ⟨a,d,R,e,q⟩=>#[a,d,R,e,λv b s z=>q v b s z.q]
theorem rO{f:AG}(h:JE X e (tD K M H0 f)):JE X e (tQ K M H0 f):=#[PE.q h.h]
theorem rP{M N:Fb}{H:Hp}(m:M a)(h:Rd H a (CO K fl a xs vs))(r:Ad K N H xs vs):Qq K M N H (.O xs fl) (.I a):=by
 cases fl with
 |l=>show#[a,vs,rfl,.Q #[.σ m,h],r]
 |_=>show#[a,vs,rfl,.σ m,h,r]
@[simp]def BV(ρ:VE)(i:Nat):O D:=match ρ[i]? with
  |some (.val d)=>Z d
  |some (.lent a b)=>Z (.O a b)
  |_=>J
theorem rQ{i:Nat}{x:Af}(c:NV X i x):PE X (.ε x pos) (tQ K M H0 λρ=>BV ρ i):=(Ha c).κ λl H Q f=>by
  let(ρ,d,R,e,q):=f;try dsimp only at e q
  unfold BV at e;split at e
  .next h=>cases e;let(v,b,h):=R.ϕ i _ h;show#[v,AE b,q v H (Ak.ω H) h.q]
  .next h=>cases e;let(a,m,b,g,j,k):=R.ϕ i _ h;show#[_,AE b,q _ H (Ak.ω H)<|rP g.1 j k]
  .cases e
def aG:D->A7
 |.lst a=>Z a
 |_=>J
def rR:D->A7
 |.tup a=>Z a
 |_=>J
def rS:D->A7
 |.str x=>Z (x.Ϝ.B.j λc=>D.ψ #[(T' [c])])
 |_=>J
theorem rT{l:Expr}{f:AG}(h:PE X l (tQ X.K M H0 f)):PI X tg l (tI X.K M H0 λρ=>(f ρ).L aG):=(Ti h).κ λs H P t=>by
 let(ρ,F,R,e,q):=t;let(d,u,e):=Ch.mp e;cases d with
 |lst L A=>
  cases A with
  |d=>cases e
  |i _ _=>cases e
  |l=>
  cases e;apply#[ρ,.O _,R,u,λv o B C=>?_];let(a,c,E,g,hd):=C;let p:∀k j,Step M (Nf M ρ s) k o j->BW X.K j a c:=λk j S=>by
   rcases g with⟨G,g⟩|g
   .show .Q<|g.Τ S (by rcases G with z|z;show .Q z;show .σ<|.Q z)
   .show g.sq
  apply#[a,E,#[c,p _ _ Step.ω],q _ o B λk j S i=>?_];let b:=p _ _ S;apply#[λd m=>?_,λm=>#[c,b,by rw[m,hd.a];show AX _]];let(w,r,n):=(Ad.Τ S _ _ hd).Ρ m;apply#[#[c,w,b,r],λx N y=>?_];let(rfl,y):=y;have:=y c b;rw[r]at this;cases this;show#[Ak.ω _,n]
 |_=>cases e
theorem rV{l:Expr}{f:AG}(h:PE X l (tQ X.K M H0 f)):PI X tg l (tI X.K M H0 λρ=>(f ρ).L rR):=(oE h).κ λt H u m=>by
 let(ρ,z,R,e,q):=m;let(d,n,e):=Ch.mp e;cases d with
 |tup A=>
  cases e;apply#[ρ,.X _,R,n,λv o p r=>?_];let(a,b,s,c,hd):=r;apply#[a,s,#[b,c],q _ o p λB C S i=>?_];apply#[λd g=>?_,λg=>#[b,(c.Τ S),by rw[g,hd.a];show AX _]];let(w,k,j):=(Ad.Τ S _ _ hd).Ρ g;apply#[#[b,w,(c.Τ S),k],λx E y=>?_];let(rfl,y):=y;have:=y b<|c.Τ S;rw[k]at this;cases this;show⟨Ak.ω _,j⟩
 |_=>cases e
theorem rW{l:Expr}{f:AG}(h:PE X l (tQ K M H0 f)):PI X tg l (tI K M H0 λρ=>(f ρ).L rS):=(qu h).κ λs H t j=>by
 let(ρ,u,R,e,q):=j;let(d,k,e):=Ch.mp e;cases d with
 |str x=>
  cases e;apply#[ρ,.ψ x,R,k,λv m n o=>?_];apply#[x,o,q _ m n λw z S i=>#[λd a=>?_,λa=>?_]]
  .rw[CM]at a;let(c,g,a):=B7.mp a;cases a;let p:i<x.Ϝ.o:=by
    have:=(Cr.mp g).1;exists this
   apply#[p,λv A y=>?_];let(r,B,b,y):=y;subst r y;rw[<- N3,g]at b;cases b;show#[Ak.ω _,by erw[Aw]]
  .have:i=x.Ϝ.o:=by exists a
   show Nat.le_of_eq this.τ
 |_=>cases e
def Iu(lo:Int)(n:Nat):U D:=(BI n).j (λ(k:Nat)=>D.r (lo+(k:Int)))
theorem TX{M N:Fb}{c:Hp}{lo:Int}{n:Nat}:MC K M N c (NF lo n) (Iu lo n):=λg h S i=>by
 apply#[λd a=>?_,λa=>?_]
 .let b:i<n:=by
   have:=(Cr.mp a).1;simpa[Iu]using this
  let e:d=D.r (lo+i):=by
   erw[Iu,CM,List.getElem?_range b,Ka,Qr]at a;show a.τ
  subst e;apply#[b,λx j y=>?_];let(f,y):=y;subst f y;show#[Ak.ω _,by erw[Aw]]
 .have:i=n:=by simpa[Iu]using a
  show Nat.le_of_eq this.τ
def gd{a:Type}(p:Prop)(o:O a):O a:=@ite _ p (Qs p) o J
theorem MD{a:Type}{p:Prop}{o:O a}(h:p):gd p o=o:=by grind [gd]
theorem Qt{a:Type}{p:Prop}{o:O a}{x:a}(h:gd p o=Z x):p/\o=Z x:=by grind [MD,gd]
def FZ:U D->A7
 |[.int j]=>gd (-1000000000<=j/\j<1000000000) (Z (Iu 0 j.θ))
 |_=>J
def N4:U D->A7
 |[.int i,.int j]=>gd (-1000000000<=i/\i<1000000000 /\ -1000000000<=j/\j<1000000000) (Z (Iu i (j-i).θ))
 |_=>J
open J in
theorem rX{a:Expr}{b:DK}{p:AB}(f:Gl X "range")(g:X.mg "range"=J)(c:JA X [a] (CP K M H0 b))(i:AJ [a] X.G=[(O',Ar a X.G)]:=by rfl):JI X tg (.Λ (.ε "range" p) [a] [] pos) (tI K M H0 λρ=>((b ρ).L Zt).L FZ):=#[have c:=c.h;(Yr f g c i).κ λy H z k=>by
  let(ρ,A,R,e,q):=k;try dsimp only at e q
  cases d:b ρ with|none=>rw[d]at e;cases e|some m=>
   rw[d]at e;let(l,n,e):=Ch.mp e;unfold FZ at e;split at e
   .next j=>
    let(hz,e):=Qt e;cases e;apply#[ρ,m,R,d,λB o s t=>?_];let(v,r,u,w,x):=(MB t n);subst u w x;show#[j,rfl,∅,∅,q _ o s TX]
   .cases e]
open J in
theorem rY{a b:Expr}{c:DK}{p:AB}(k:Gl X "range")(m:X.mg "range"=J)(d:JA X [a,b] (CP K M H0 c))(n:AJ [a,b] X.G=[(O',Ar a X.G),(O',Ar b X.G)]:=by rfl)(f:AJ [b] X.G=[(O',Ar b X.G)]:=by rfl):JI X tg (.Λ (.ε "range" p) [a,b] [] pos) (tI K M H0 λρ=>((c ρ).L Zt).L N4):=#[have d:=d.h;(oH k m d n f).κ λE H G o=>by
  let(ρ,P,R,e,q):=o;try dsimp only at e q
  cases g:c ρ with|none=>rw[g]at e;cases e|some s=>
   rw[g]at e;let(l,t,e):=Ch.mp e;unfold N4 at e;split at e
   .next i j=>
    let(hz,e):=Qt e;cases e;apply#[ρ,s,R,g,λF u w x=>?_];let(v,r,y,z,L,N,A,B,C):=(MB x t);subst z B C A y;show#[i,j,rfl,#[∅,∅,∅,∅],q _ u w TX]
   .cases e]
end
def Qu(K:Ap)(M:Fb)(H0:Hp)(ws:U Nat)(b:U D->VE->O VE):I0:=λg d H Q=>∃e f c,Bn K M H0 e d H/\Ad K (Nf M e d) H f g/\b f e=Z c/\∀a ,Bn K M H0 c a H->Step M (Nf M e d) (Nf M c a) H H->(∀j,j∉ws->a[j]?=d[j]?)->Q a H
@[simp]def Cz:U D->VE->O VE
  |[],a=>Z a
  |_,_=>J
@[simp]def Zq(b:D->VE->O VE)(c:U D->VE->O VE):U D->VE->O VE
  |d::r,a=>(b d a).L (c r)
  |_,_=>J
@[simp]def CD(n:Nat)(b:U D->VE->O VE):D->VE->O VE
  |.tup a,c=>if a.a=n then b a c else J
  |_,_=>J
section
variable{K:Ap}{M:Fb}{e:Expr}{ws':U Nat}{b:D->VE->O VE}{c:U D->VE->O VE}
theorem rZ :JK X [] (Qu K M H0 [] Cz):=#[by
 intro a s b H c d Q i r #[h,f,g,R,hd,e,q];cases f with
 |nil=>
  cases e;show on a s b H c d Q i r #[hd,q b R Step.ω λ_ _=>rfl]
 |cons=>cases e]
theorem r0(g:JG X e (tG K M H0 ws b))(i:JK X es (Qu K M H0 ws' c))(p:(Gz (e::es) X.G).j (·.2)=assign e X.G::(Gz es X.G).j (·.2):=by rfl):JK X (e::es) (Qu K M H0 (ws++ws') (Zq b c)):=#[have g:=g.h;let i:=i.h;by
 intro a s t H L u Q N r #[w,k,l,R,hd,e,q];cases k with|nil=>cases e|cons d k=>
  let(v,x,rfl,y,z):=hd;let(f,A,e):=Ch.mp e;apply oq g i p a s t H _ u Q N r #[v,x,rfl,w,d,f,R,y,A,λB C o E=>#[f,k,l,C,Ad.Τ o _ _ z,e,λm R2 G F=>q m R2 (o.E G) λj n=>?_]];rw[Cn,not_or]at n;rw[F j n.2,E j n.1]]
theorem r9{k n:Nat}(i:X.ϵ=J')(h:JK X es (Qu X.K M H0 ws c))(j:(Gz es X.G).a=n:=by rfl)(f:(Gz es X.G).findIdx? (·.1)=J:=by rfl):JG X (.Tuple es k pos) (tG X.K M H0 ws (CD n c)):=#[have h:=h.h;by
 intro b s l H v u Q y r #[m,d,g,R,hd,e,q];cases d with
 |tup o=>
  let(p,e):=Z0 e;let(a,t,w,x,hd):=hd;show ou i h j f b s l H v u Q y r #[a,t,w,x,hd.a ▸ p,m,o,g,R,hd,e,q]
 |_=>cases e]
end
@[simp]def Ki:O Sl->Sl
  |some (.val d)=>.y d
  |some (.own a b _)=>.gV a b
  |some (.lent a b)=>.gV a b
  |_=>.no
@[simp]def Zy(k:Nat)(oix:U Nat)(ρ:VE):VE:=EK k .no++oix.j λj=>Ki ρ[j]?
def DW(b:D->VE->O VE)(t:VE->O Bool)(e:AG)(ρ:VE):U D->A7
 |[]=>Z []
 |d::c=>match b d ρ with
  |none=>J
  |some a=>match t a with
   |some J'=>Zk (e a) (DW b t e ρ c)
   |some O'=>DW b t e ρ c
   |none=>J
@[simp]def Zj(k:Nat)(oix:U Nat)(f:VE->A7)(b:D->VE->O VE)(t:VE->O Bool)(e:AG):VE->A7:=λa=>(Zh (f a)).L (DW b t e (Zy k oix a))
section
variable{K:Ap}{M:Fb}{f:VE->A7}{b:D->VE->O VE}{t:VE->O Bool}{e:AG}{k:Nat}{oix:U Nat}
open J in
theorem Bn.comp{H:Hp}(R:Bn K M H0 ρ I H)(k:Nat)(oix:U Nat):Bn K (Nf M ρ I) H (Zy k oix ρ) (Fu k oix I) H/\∀a,Nf (Nf M ρ I) (Zy k oix ρ) (Fu k oix I) a->Nf M ρ I a:=by
 let b:∀(j:Nat) (c:U D) (e:Kd) (f:O Ac),(Zy k oix ρ)[j]?≠Z (Sl.Κ c e f):=λj c e f h=>by
  unfold Zy at h;rw[Lr]at h;split at h
  .rw[Lb]at h;split at h<;>cases h
  .rw[CM]at h;cases l:oix[j-(EK k Sl.no).a]? with|none=>rw[l]at h;cases h|some o=>
    rw[l]at h;erw[Ka,Qr]at h;unfold Ki at h;split at h<;>cases h
 let nf:∀a,Nf (Nf M ρ I) (Zy k oix ρ) (Fu k oix I) a->Nf M ρ I a:=λa h=>by
  rcases h with h|⟨j,c,e,f,h,_⟩
  .show h
  .show absurd h<|b j c e f
 apply#[#[by simp[Zy,Fu],Ak.ω H,R.nh,λj s h=>?_,λi j c B e x f y a h=>absurd h<|b i c e f],nf];unfold Zy at h;rw[Lr]at h;split at h
 .rw[Lb]at h;split at h
  .cases h;trivial
  .cases h
 .next p=>
  rw[CM]at h;let r:(Fu k oix I)[j]?=(oix[j-k]?).j λi=>(I[i]?).join:=by
   unfold Fu;rw[G8 (by exists p),CM];simp
  rw[r];erw[Ms]at h;cases l:oix[j-k]? with|none=>rw[l]at h;cases h|some o=>
   rw[l]at h;erw[Ka,Qr]at h;erw[Ka,Option.join_some];unfold Ki at h;split at h
   .next d hd=>subst h;let(v,g,q):=R.ϕ o _ hd;show#[v,g,q.nw λa m=>.Q<|nf a m]
   .next c e f hd=>
    subst h;let(a,t,g,u,w,n,A):=R.ϕ o _ hd;show#[a,t,g,#[.σ #[o,c,e,f,hd,AE g],λz=>by rw[n]at z;cases z],.Q n,A.nw λa m=>.Q<|nf a m]
   .next c hd=>
    subst h;let(a,t,g,u,w,n):=R.ϕ o _ hd;show#[a,t,g,#[.Q u.1,R.mh a u.1],w,n.nw λa m=>.Q<|nf a m]
   .subst h;trivial
def N5(K:Ap)(ws:U Nat)(b:D->VE->O VE):TG:=λv a H Q=>∃M H0,tG K M H0 ws b v a H Q
def N6(K:Ap)(t:VE->O Bool):TT:=λa H Q=>∃M H0,B4 K M H0 t a H Q
def N7(K:Ap)(e:AG):TE:=λa H Q=>∃M H0,tD K M H0 e a H Q
theorem Qv(hw:∀j∈ws,j<k)(hi:∀I H R,tI K M H0 f I H R->wi I H R){H:Hp}{Q:VK}(h:tF K M H0 (Zj k oix f b t e) I H Q):Qj k oix wi (N5 K ws b) (N6 K t) (N7 K e) I H Q:=by
 let(l,G,R,ex,q):=h;let(m,W,ex):=Ch.mp ex;let(W,hz):=TQ W;apply hi _ _ _ #[l,m,R,W,λF H1 s1 ok=>?_];apply#[m.a,λi L B=>i<=m.a/\L.a<=i/\Ak H1 B/\∃c AW,Ad K (Nf M l I) B c L/\DW b t e (Zy k oix l) (m.ρ i)=Z AW/\c++AW=G,#[E3 _,AX _,Ak.ω _,[],G,Ad.ϔ,ex,rfl],?_];intro i L B zQ;let(hle,hy,u,c,AW,g,d,C):=zQ;let(N,P):=ok _ B (Step.ώ u) i;by_cases n:i<m.a
 .let(go,y):=N m[i]<|Cb n;rw[HK n]at d;erw[DW]at d;apply .inr ⟨go,n,∅,λr T=>r.a<=i+1/\Ak H1 T/\∃c AW,Ad K (Nf M l I) T c r/\DW b t e (Zy k oix l) (m.ρ<|i+1)=Z AW/\c++AW=G,λr T z=>⟨n,z⟩,λx E yl=>?_⟩;let(w,hd):=y x E yl;let(Rc,nf):=(((R.st s1).st u).st w).comp k oix;cases S:b m[i] (Zy k oix l)with
  |none=>rw[S]at d;cases d
  |some o=>
   rw[S]at d;simp only at d;apply#[Nf M l I,E,Zy k oix l,m[i],o,Rc,hd.nw λa Y=>.Q<|nf a Y,S,λσ4 R4 S4 w4=>#[?_,?_]]
   .apply(Kh);intro j;rw[Lf,Lf];show w4 _ λhj=>absurd (hw _ hj) ∅
   .cases ht:t o with|none=>rw[ht]at d;cases d|some bb=>
     rw[ht]at d;apply#[Nf M l I,E,o,bb,R4,ht,λH5 A=>?_];cases bb with
     |true=>
      let(yd,s,e1,e2,e3):=Jj d;apply Lk ?_;apply#[Nf M l I,E,o,yd,R4.st A,e1,λv H6 s6 hv=>#[?_,((u.E w).E A).E s6,c++[yd],s,(g.δ<|(w.trans A).trans s6).append<|Ad.cons (hv.nw λa Y=>.Q<|.Q Y) Ad.ϔ,e2,?_]]
      .erw[EL,Mv];lia
      .subst e3;rw[<- C];simp
     |false=>
      show Ll #[∅,(u.E w).E A,c,AW,g.δ<|w.E A,d,C]
 .rw[Lh ∅]at d;cases d;rw[Eh]at C;subst C;show .Q #[P (show i=m.a by lia),∅,λp hp=>NY (s1.E u) hp g q]
theorem PG.all(h:∀M H0,PG Y tg (tG K M H0 ws b)):PG Y tg (N5 K ws b):=λa s c H v u Q d r ⟨M,H0,z⟩=>h M H0 a s c H v u Q d r z
theorem HJ.all(h:∀M H0,HJ Y ifs (B4 K M H0 t)):HJ Y ifs (N6 K t):=λa s b H Q c ⟨M,H0,z⟩=>h M H0 a s b H Q c z
theorem PE.all(h:∀M H0,PE Y elt (tD K M H0 e)):PE Y elt (N7 K e):=λa s b H Q c ⟨M,H0,z⟩=>h M H0 a s b H Q c z
theorem sd:JF Y [] (B4 K M H0 λ_=>Z J'):=#[λa s c H Q f ⟨d,b,R,e,q⟩=>qq a s c H Q f (by cases e;show q H<|Ak.ω H)]
theorem se{c:Expr}(h:JT Y c (B4 K M H0 t)):JF Y [c] (B4 K M H0 t):=#[have h:=h.h;qr h]
structure CB(K:Ap)(X:Cx)(own outs:List Af)(scope:Scope)(tg:Expr)(ifs:List Expr)(elt:Expr)(ws:List Nat)(b:D->VE->Option VE)(t:VE->Option Bool)(e:AG):Prop where
 g:∀C s2 H2 fp pins,PG (DA X own outs scope C s2 H2 fp pins) tg (N5 K ws b)
 t:∀C s2 H2 fp pins,HJ (DA X own outs scope C s2 H2 fp pins) ifs (N6 K t)
 e:∀C s2 H2 fp pins,PE (DA X own outs scope C s2 H2 fp pins) elt (N7 K e)
theorem sf{own c:U Af}(j:∀{C d f g a i H'},JG (DA X own c scope C d f g a) tg (tG K i H' ws b))(k:∀{C d f g a i H'},JF (DA X own c scope C d f g a) ifs (B4 K i H' t))(l:∀{C d f g a i H'},JE (DA X own c scope C d f g a) elt (tD K i H' e)):CB K X own c scope tg ifs elt ws b t e:=#[λ_ _ _ _ _=>PG.ϭ λ_ _=>j.h,λ_ _ _ _ _=>HJ.ϭ λ_ _=>k.h,λ_ _ _ _ _=>PE.ϭ λ_ _=>l.h]
theorem sh(own a:U Af)(oix:U Nat)(S:Ji own a scope X.G.Ξ)(c:oix.j (λj=>X.N[j]?)=a.j Z)(i:X.ϵ=J')(k:JI X tg iter (tI K M H0 f))(d:CB K X own a scope tg ifs elt ws b t e)(l:∀j∈ws,j<own.a)(m:∀x,E1 iter X.G x=Am x:=by intro _;rfl):JE X (.ϊ elt [#[tg,iter,ifs,0]] scope pos) (tF K M H0 (Zj own.a oix f b t e)):=#[(aa own a oix S c i k.h d.g d.t d.e m).κ λ_ _ _ z=>Qv l (λ_ _ _ z=>z) z]
theorem si(own a:U Af)(oix:U Nat){i:Nat}{x:Af}{c d:AB}(S:Ji own a scope X.G.Ξ)(k:oix.j (λj=>X.N[j]?)=a.j Z)(o:X.ϵ=J')(p:X.N.η)(l:X.N[i]?=Z x)(q:X.G.Ξ.υ.S x=Z .Ϡ)(r:JI X tg iter (tI K M H0 f))(m:CB K X own a scope tg ifs elt ws b t e)(s:∀j∈ws,j<own.a)(n:EJ (.ϊ elt [#[tg,iter,ifs,0]] scope pos) (Z (.ε x c)) d.Ϯ X.G=Am J':=by rfl)(u:∀x,E1 iter X.G x=Am x:=by intro _;rfl):JS X (.Ϭ [.ε x c] (.ϊ elt [#[tg,iter,ifs,0]] scope pos) d) (tS K M H0 λρ=>Dn i (Zj own.a oix f b t e ρ) ρ):=#[(TF own a oix S k o p l q r.h m.g m.t m.e n u).κ λv w H z=>Qv s (λ_ _ _ z=>z) (TU z)]
theorem sj(own c:U Af)(oix:U Nat){i:Nat}{x:Af}{k l:AB}(S:Ji own c scope X.G.Ξ)(n:oix.j (λj=>X.N[j]?)=c.j Z)(u:X.ϵ=J')(v:X.N.η)(o:X.N[i]?=Z x)(w:X.G.Ξ.υ.S x=Z .Ϡ)(y:JI X tg iter (tI K M H0 f))(m:CB K X own c scope tg ifs elt ws b t e)(A:∀j∈ws,j<own.a)(p:EJ (.ϊ elt [#[tg,iter,ifs,0]] scope pos) (Z (.ε x k)) l.Ϯ X.G=Am J':=by rfl)(B:∀x,E1 iter X.G x=Am x:=by intro _;rfl):JS X (.Ϭ [.ε x k] (.ϊ elt [#[tg,iter,ifs,0]] scope pos) l) (tS K M H0 λρ=>C1 i (ZA (Zj own.a oix f b t e ρ)) ρ):=#[(TF own c oix S n u v o w y.h m.g m.t m.e p B).κ λP Q H z=>by
   let(ρ,d,R,r,q):=(aE z);let(C,E,r):=B7.mp r;cases r;show Qv A (λ_ _ _ z=>z) #[ρ,C,R,E,λa G T s W F L=>q _ _ s #[a,G,rfl,.of (R.Ψ W) F,L.nw λb m=>.Q<|.Q m]]]
end
def A3(a n:Nat)(g:Ax):U Sl->O Rv:=λb=>if b.a=a then
  match g (b++EK (n-a) .no)with
  |.ret r=>Z r
  |.next _=>Z (.y .Α)
  |_=>J
 else J
theorem sk{K:Ap}{N:Fb}{H:Hp}(m:∀a,N a->H a≠J)(h:BR K N H ss vs)(n:Nat):Bn K N H (ss++EK n .no) (vs.j Z++EK n J) H:=by
 let b:∀(j:Nat) (f:U D) (g:Kd) (k:O Ac),(ss++EK n Sl.no)[j]?≠Z (Sl.Κ f g k):=λj f g k e=>by
  rw[Lr]at e;split at e
  .let(v,_,q):=h.Ρ e;show q
  .rw[Lb]at e;split at e<;>cases e
 let nf:∀a,Nf N (ss++EK n Sl.no) (vs.j Z++EK n J) a->N a:=λa z=>by
  rcases z with z|⟨j,f,g,k,z,_⟩
  .show z
  .show absurd z<|b j f g k
 apply#[by simp[h.length],Ak.ω H,m,λj s e=>?_,λi j f B g p k r a z=>absurd z<|b i f g k];rw[Lr]at e;split at e
 .next t=>
  let(v,u,q):=h.Ρ e;rw[Fd (by simpa[<- h.length]using t),CM,u];cases s with
  |val d=>show#[v,rfl,Aw.nw q λa l=>.Q<|nf a l]
  |lent f g=>let(a,w,x,o,y,A):=q;show#[a,w,by rw[x];rfl,#[o,m a o],y,A.nw λa l=>.Q<|nf a l]
  |no=>trivial
  |own f g k=>show BX q
  |exc c=>show BX q
 .rw[Lb]at e;let(_,e):=Z0 e;cases e;trivial
theorem sr{P:AM}{w:Aj}{K:Ap}{mg:Bz}{base:Al}{x b:Af}{st:AF}{f:Ac}{fd:Cs}{N d:U Af}{k:Nat}{g:Ax}(F:J7 K x b st f fd)(S:Ft N d (Zg st))(u:d.a<=N.a) (y:∀(c:Aa) (A:Ag) (outer:U Env) (s:Ab) (H:Hp) (E:XK) (M:Fb) (H0:Hp),AL k (A.ϫ (Bj b (Zg st) s.u.J.o f c))->EZ (D6 Bp P w K mg base N b (Zg st) f c A outer s H E).nox (ZU st) (tS K M H0 g)):A2 P w K mg base Bp (k+1) f fd d (A4 K (A3 d.a N.a g)):=by
 apply F.ok S (λl H Q E h=>?_) (λc A outer s H l Q E z h=>?_)
 .let(o,p,r,t,j,a,q):=h;let(m,a):=Z0 a;rw[<- j.a];show m
 .let(o,p,r,t,j,a,q):=h;apply#[_,y c A outer s H E o H z,?_];let(m,a):=Z0 a;rw[show HD N l=l.j Z++EK (N.a-d.a) J by unfold HD;rw[<- j.a,m]];apply#[_,sk t j<|N.a-d.a,?_];cases e:g (p++EK (N.a-d.a) .no)with
  |fail=>rw[e]at a;cases a
  |next i=>rw[e]at a;cases a;show λB n C R=>q .Α n C.δ (by erw[EN,Aw])
  |brk i=>rw[e]at a;cases a
  |cont i=>rw[e]at a;cases a
  |ret L=>rw[e]at a;cases a;show λv n s G=>q v n s G
theorem aH{P:AM}{w:Aj}{K:Ap}{mg:Bz}{base:Al}{x a:Af}{st:AF}{f:Ac}{fd:Cs}{N c:U Af}{k:Nat}{g:Ax}(F:J7 K x a st f fd)(S:Ft N c (Zg st))(d:c.a<=N.a) (e:∀(b:Aa) (A:Ag) (outer:U Env) (s:Ab) (H:Hp) (E:XK) (M:Fb) (H0:Hp),AL k (A.ϫ (Bj a (Zg st) s.u.J.o f b))->JB (D6 Bp P w K mg base N a (Zg st) f b A outer s H E).nox (ZU st) (tS K M H0 g)):A2 P w K mg base Bp (k+1) f fd c (A4 K (A3 c.a N.a g)):=sr F S d λb A outer s H E M H0 i=>(e b A outer s H E M H0 i).h
section
variable{K:Ap}
@[simp]def i2(g:Int->Int->O D):D->D->O D
  |.int i,.int j=>g i j
  |_,_=>J
theorem TY{g:Int->Int->O D}{x y d:D}(h:i2 g x y=Z d):∃i j,x=.r i/\y=.r j/\g i j=Z d:=by
 unfold i2 at h;split at h
 .show#[_,_,rfl,rfl,h]
 .cases h
theorem Az.int{N:Fb}{H:Hp}{i:Int}{v:V}(h:Az K N H (.r i) v):v=.r i:=by simpa only[Az,Aw]using h
theorem Az.str{N:Fb}{H:Hp}{i:Af}{v:V}(h:Az K N H (.ψ i) v):v=.ψ i:=by simpa only[Az,Aw]using h
theorem Az.bl{N:Fb}{H:Hp}{i:Bool}{v:V}(h:Az K N H (.bl i) v):v=.bl i:=by simpa only[Az,Aw]using h
theorem Az.non{N:Fb}{H:Hp}{v:V}(h:Az K N H .Α v):v=.Α:=by simpa only[Az,Aw]using h
theorem Az.ty{N:Fb}{H:Hp}{i:String}{v:V}(h:Az K N H (.ty i) v):v=.ty i:=by simpa only[Az,Aw]using h
theorem Az.tup{N:Fb}{H:Hp}{v:V}(h:Az K N H (.X xs) v):∃a vs,v=.I a/\Cg K H a vs/\Ad K N H xs vs:=by simpa only[Az,Aw]using h
theorem F0{N:Fb}{H:Hp}{i:Int}:Aw K N H (.r i) (.r i):=by erw[Aw]
theorem HN{N:Fb}{H:Hp}{i:Bool}:Aw K N H (.bl i) (.bl i):=by erw[Aw]
theorem N8{N:Fb}{H:Hp}{i:Af}:Aw K N H (.ψ i) (.ψ i):=by erw[Aw]
theorem su(g:Int->Int->Int):Ew K (Io λi j=>.r (g i j)) (i2 λi j=>Z (.r (g i j))):=by
 intro N H x y c f d Q h a b e q;let(i,j,rfl,rfl,e):=TY e;cases e;show#[i,j,a.r,b.r,q _ H (Ak.ω H) F0]
theorem MF(g:Int->Int->Bool):Ew K (Io λi j=>.bl (g i j)) (i2 λi j=>Z (.bl (g i j))):=by
 intro N H x y c f d Q h a b e q;let(i,j,rfl,rfl,e):=TY e;cases e;show#[i,j,a.r,b.r,q _ H (Ak.ω H) HN]
theorem Qw{C:Int->Int->Prop}[∀i j,Decidable (C i j)](g:Int->Int->Int):Ew K (rI C λi j=>.r (g i j)) (i2 λi j=>if C i j then Z (.r (g i j))else J):=by
 intro N H x y h k d Q l b c e q;let(i,j,rfl,rfl,a):=TY e;split at a
 .next f=>cases a;show#[i,j,b.r,c.r,f,q _ H (Ak.ω H) F0]
 .cases a
instance (i j:Int):Decidable (NJ i j):=by unfold NJ;show inferInstance
instance (i j:Int):Decidable (Ef i j):=by unfold Ef;show inferInstance
instance (i j:Int):Decidable (Mr i j):=by unfold Mr;show inferInstance
@[simp]def Iv:D->D->O D:=i2 λi j=>Z (.r (i-j))
@[simp]def Fx:D->D->O D:=i2 λi j=>if Ef i j then Z (.r (i*j))else J
@[simp]def Kj:D->D->O D:=i2 λi j=>if NJ i j then Z (.r (i/j))else J
@[simp]def ZP:D->D->O D:=i2 λi j=>if 0<j then Z (.r (i%j))else J
@[simp]def Lu:D->D->O D:=i2 λi j=>if Mr i j then Z (.r (i^j.θ))else J
@[simp]def Iw:D->D->O D:=i2 λi j=>Z (.bl (decide (i<=j)))
@[simp]def E4:D->D->O D:=i2 λi j=>Z (.bl (decide (j<i)))
@[simp]def N9:D->D->O D:=i2 λi j=>Z (.bl (decide (j<=i)))
section
variable{M:Fb}{a b:Expr}{f g:AG}
theorem sv(c:JE X a (tP K M H0 f))(d:JE X b (tP K M H0 g)):JE X (.BinOp a .Sub b pos) (tD K M H0 (Za Iv f g)):=#[have c:=c.h;let d:=d.h;My oM (su _) c d]
theorem sw(c:JE X a (tP K M H0 f))(d:JE X b (tP K M H0 g)):JE X (.BinOp a .Mult b pos) (tD K M H0 (Za Fx f g)):=#[have c:=c.h;let d:=d.h;My oO (Qw _) c d]
theorem sx(c:JE X a (tP K M H0 f))(d:JE X b (tP K M H0 g)):JE X (.BinOp a .FloorDiv b pos) (tD K M H0 (Za Kj f g)):=#[have c:=c.h;let d:=d.h;My oP (Qw _) c d]
theorem sA(c:JE X a (tP K M H0 f))(d:JE X b (tP K M H0 g)):JE X (.BinOp a .Mod b pos) (tD K M H0 (Za ZP f g)):=#[have c:=c.h;let d:=d.h;My oQ (Qw _) c d]
theorem sB(c:JE X a (tP K M H0 f))(d:JE X b (tP K M H0 g)):JE X (.BinOp a .Pow b pos) (tD K M H0 (Za Lu f g)):=#[have c:=c.h;let d:=d.h;My oR (Qw _) c d]
@[simp]def MG:O D->O D
  |some (.int i)=>Z (.r (-i))
  |_=>J
open J in
theorem sC(b:JE X a (tP K M H0 f)):JE X (.UnaryOp .USub a pos) (tD K M H0 λρ=>MG (f ρ)):=#[have b:=b.h;(oK oU b).κ λl H Q c=>by
 let(ρ,d,R,e,q):=c;try dsimp only at e q
 unfold MG at e;split at e
 .next i g=>cases e;show#[ρ,.r i,R,g,λv j s k=>#[i,k.r,q _ j s F0]]
 .cases e]
end
end
section
def aI(K:Ap):R2:=λx y H Q=>∃l b a c,x=.I l/\y=.I b/\BW K H l a/\BW K H b c/\a.a+c.a<=Ay/\∀p,H p=J->Q (.I p) (AK H p (.O (a++c)))
theorem Jk:Ck X (HA .Add) (aI X.K):=by
 intro i s G H x y v u Q S o p zQ;let(l,b,P,L,rfl,rfl,t,w,hz,q):=zQ;cases o;cases p;let(c,r,p1,M):=S.Ϩ t;let(a,j,z,N):=S.Ϩ w;let R:=r.a;let A:=j.a;let((cls,B,data,C),k,E,n,hd):=p1.ϑ;let((m,e,data2,f),d,g,n2,h):=z.ϑ;subst E hd g h;apply concat_meets #[_,k,rfl] #[_,d,rfl] noFill_list_add seq_list_add PySem.F.slot_list_add PySem.F.entry_list_add (PySem.F.args_list_add_2 _ _) (list_addW l b c.C a.C n n2 B e C f (by rw[B5,B5];lia)) #[k,d,?_];rw[show c.C++a.C=(c++a).C by simp];show#[.I _,_,S.lnew (t':=s.Γ) (r.Ι j) (EL ▸ W.kdl_size hz),rfl,q _ S.Ψ]
def aJ(K:Ap):R2:=λx y H Q=>∃l b a c,x=.I l/\y=.I b/\Cg K H l a/\Cg K H b c/\a.a+c.a<=Ay /\
 (a=[]->Q (.I b) H)/\(c=[]->Q (.I l) H)/\∀p,H p=J->Q (.I p) (AK H p (.X (a++c)))
theorem sD:Ck X (HA .Add) (aJ X.K):=by
 intro B s I H x y v u Q zA M N zQ;let(l,b,C,E,rfl,rfl,R,T,hz,S,qz,q):=zQ;cases M;cases N;let(c,r,p1,z1):=zA.ϗ R;let(a,G,Y,z2):=zA.ϗ T;let P:=r.a;let j:=G.a;let((cls,m,data,o),i,hc,n,hd):=id p1;let((L,f,data2,g),d,p,n2,t):=id Y;subst hc hd p t;by_cases w:C=[]
 .let k:c.C.Υ=J':=by
   subst w;have:c=[]:=Oa.mp P.τ;subst this;rfl
  show concat_meets #[_,i,rfl] #[_,d,rfl] noFill_tuple_add seq_tuple_add PySem.F.slot_tuple_add aK (aL _ _) (tuple_addW0 l b c.C a.C n n2 m f o g k) #[i,d,#[.I b,H,zA,rfl,S w]]
 .let k:¬ c.C.Υ=J':=by
   intro z;have:c=[]:=by exists z
   subst this;show w<|Oa.mp P
  by_cases A:E=[]
  .let h:a.C.Υ=J':=by
    subst A;have:a=[]:=Oa.mp j.τ;subst this;rfl
   show concat_meets #[_,i,rfl] #[_,d,rfl] noFill_tuple_add seq_tuple_add PySem.F.slot_tuple_add aK (aL _ _) (tuple_addW1 l b c.C a.C n n2 m f o g k h) #[i,d,#[.I l,H,zA,rfl,qz A]]
  .let h:¬ a.C.Υ=J':=by
    intro z;have:a=[]:=by exists z
    subst this;show A<|Oa.mp j
   let e:c.C++a.C=(c++a).C:=by simp
   apply concat_meets #[_,i,rfl] #[_,d,rfl] noFill_tuple_add seq_tuple_add PySem.F.slot_tuple_add aK (aL _ _) (tuple_addW2 l b c.C a.C n n2 m f o g k h (by rw[B5,B5];lia)) #[i,d,?_];rw[e];apply#[.I s.u.J.o,AK H s.u.J.o<|.tup<|C++E,zA.laid (t':=s.toks) (λb u e=>BC _ e) (AX _) ?_,rfl,q _ zA.Ψ];show#[EL ▸ W.kdl_size hz,c++a,r.Ι G,IsTup.new _ _]
end
@[simp]def Zs:D->D->O D
  |.int i,.int j=>Z (.r (i+j))
  |.str x,.str y=>if x.a+y.a<=Ay then Z (.ψ (x++y))else J
  |.lst a,.lst b=>if a.a+b.a<=Ay then Z (.O (a++b))else J
  |.tup a,.tup b=>if a.a+b.a<=Ay then Z (.X (a++b))else J
  |_,_=>J
def aM(K:Ap):R2:=λx y H Q=>Io (λi j=>.r (i+j)) x y H Q\/(∃i j,x=.ψ i/\y=.ψ j/\i.a+j.a<=Ay/\Q (.ψ (i++j)) H)\/aI K x y H Q\/aJ K x y H Q
theorem aN:Ck X (HA .Add) (aM X.K):=K7.or<|FO.or<|Jk.or sD
theorem aO{K:Ap}{N:Fb}{H:Hp}{p:Ac}(c:∀a,N a->H a≠J)(b:H p=J)(h:Ad K N H xs vs):Aw K N (AK H p (.O vs)) (.O xs) (.I p):=by
 show#[p,vs,rfl,.of (λz=>c p z b) ZT,h.δ<|ZV b]
theorem Ob{K:Ap}{N:Fb}{H:Hp}{p:Ac}(a:H p=J)(h:Ad K N H xs vs):Aw K N (AK H p (.X vs)) (.X xs) (.I p):=by
 show#[p,vs,rfl,Cg.of ZT,h.δ<|ZV a]
theorem aP{K:Ap}:Ew K (aM K) Zs:=by
 intro N H x y s t d Q r j k e q;rcases s with _|_|_|_|_|_|⟨_,_|_⟩<;>(try cases e;done)<;>rcases t with _|_|_|_|_|_|⟨_,_|_⟩<;>try(cases e;done)
 .cases e;show .Q #[_,_,j.r,k.r,q _ H (Ak.ω H) F0]
 .let(hz,e):=Z0 e;cases e;show .σ<|.Q ⟨_,_,j.ψ,k.ψ,hz,q _ H (Ak.ω H) N8⟩
 .let(hz,e):=Z0 e;cases e;let(a,g,n,l,c):=j.X;let(b,h,o,m,f):=k.X;apply .σ<|.inr<|.inr ⟨a,b,g,h,n,o,l,m,by rw[<- c.length,<- f.length];show hz,λz=>?_,λz=>?_,λp i=>q _ _ (ZV i)<|Ob i<|c.Ι f⟩
  .show q _ H (Ak.ω H) #[b,g++h,rfl,z ▸ m,c.Ι f]
  .show q _ H (Ak.ω H) #[a,g++h,rfl,by rw[z,Eh];show l,c.Ι f]
 .let(hz,e):=Z0 e;cases e;let(a,g,n,l,c):=j;let(b,h,o,m,f):=k;show .σ<|.inr<|.inl ⟨a,b,g,h,n,o,l,m,by rw[<- c.length,<- f.length];show hz,λp i=>q _ _ (ZV i)<|aO r i<|c.Ι f⟩
theorem sE{M:Fb}{a b:Expr}{f g:AG}(c:JE X a (tP X.K M H0 f))(d:JE X b (tP X.K M H0 g)):JE X (.BinOp a .Add b pos) (tD X.K M H0 (Za Zs f g)):=#[have c:=c.h;let d:=d.h;My aN aP c d]
def sF(K:Ap):V->O Int->O Int->Hp->VK->Prop:=λx lo c H Q=>∃a b,x=.I a/\Cg K H a b/\(Jd b lo c=b->Q (.I a) H)/\∀p,H p=J->Q (.I p) (AK H p (.X (Jd b lo c)))
theorem Jl:J6 X (sF X.K):=by
 intro h s t H x v u w lo e y Q z j k l m zQ;let(a,d,rfl,n,p,q):=zQ;cases j;let(f,r,i,hz):=z.ϗ n;let c:f.C.o=d.a:=B5 ▸ r.a.τ;apply#["tuple",_,PyProof.Rows.slot_tuple_getitem.S,i.ϛ,HT.getItem_tuple_cut i k l m (λg=>#[.I a,H,z,rfl,p ?_]) (λ_=>?_) (c ▸ hz)]
 .rw[c]at g;unfold Jd;rw[g.1,g.2,Oc,Nat.sub_zero,List.take_length]
 .rw[c];apply#[.I s.u.J.o,_,z.laid (t':=s.Γ) (o:=.X<|Jd d lo e) (λb A q=>BC _ q) (AX _) ?_,rfl,q _<|z.Ϫ.Ψ<|AX _];show⟨Bv (YU d lo e) hz,_,(r.ρ<|HT.sIx d.a 0 lo).ϋ<|HT.sIx d.a d.a e-HT.sIx d.a 0 lo,IsTup.new _ _⟩
@[simp]def As:D->D->O D
  |.lst a,.int i=>atI a i
  |.tup a,.int i=>atI a i
  |.str x,.int i=>if x.a<=Ay then(atI x.Ϝ.B i).j λc=>.ψ #[(T' [c])]else J
  |_,_=>J
theorem Ad.atI{K:Ap}{N:Fb}{H:Hp}{i:Int}{d:D}(h:Ad K N H xs vs)(e:Internal.atI xs i=Z d):∃v,Internal.atI vs i=Z v/\Aw K N H d v:=by
 unfold Internal.atI at e ⊢;rw[<- h.a];cases a:D7 xs.a i with
 |none=>rw[a]at e;cases e
 |some j=>rw[a]at e;show h.Ρ e
open J in
theorem sG{K:Ap}:Ew K (YZ K) As:=by
 intro N H x y o p d Q r b f e q;rcases o with _|_|_|_|_|_|⟨_,_|_⟩<;>rcases p with _|_|_|_|_|_|⟨_,_|_⟩<;>try(cases e;done)
 .let(hz,e):=Z0 e;let(c,n,e):=B7.mp e;cases e;show .σ<|.σ ⟨_,_,c,b.ψ,f.r,hz,n,q _ H (Ak.ω H) N8⟩
 .let(a,g,h,j,k):=b.X;let(v,l,m):=k.atI e;show .σ<|.Q ⟨a,g,_,v,h,f.r,j,l,q v H (Ak.ω H) m⟩
 .let(a,g,h,j,k):=b;let(v,l,m):=k.atI e;show .Q #[a,g,_,v,h,f.r,j,l,q v H (Ak.ω H) m]
section
variable{K:Ap}{M:Fb}{a b e:Expr}{f g:AG}
theorem sH(c:JE X a (tP X.K M H0 f))(d:JE X b (tP X.K M H0 g))(e:NQ b):JE X (.μ a b pos) (tD X.K M H0 (Za As f g)):=#[have c:=c.h;let d:=d.h;au pY sG c d e]
def tO(K:Ap)(M:Fb)(H0:Hp)(o:VE->O (O Int)):TO:=λc H Q=>∃a i,Bn K M H0 a c H/\o a=Z i/\∀b,Ak H b->Q i b
@[simp]def DM:O D->O (O Int)
  |some (.int i)=>Z (Z i)
  |_=>J
theorem PO.mono{e:O Expr}{t t':TO}(h:PO X e t)(m:∀I H Q,t' I H Q->t I H Q):PO X e t':=by
 intro a s I H Q b q;show h a s I H Q b<|m I H Q q
theorem sI :JO X J (tO K M H0 λ_=>Z J):=#[PO.κ pS λa H Q ⟨b,i,R,e,q⟩=>by(try dsimp only at e q);cases e;show q H<|Ak.ω H]
open J in
theorem sJ(h:JE X e (tP K M H0 f)):JO X (Z e) (tO K M H0 λρ=>DM (f ρ)):=#[have h:=h.h;PO.κ (pT h) λg H Q a=>by
 let(ρ,i,R,e,q):=a;try dsimp only at e q
 unfold DM at e;split at e
 .next j b=>cases e;show#[ρ,.r j,R,b,λv c s d=>#[j,d.r,q c s]]
 .cases e]
def EQ{a:Type}(xs:U a)(lo b:O Int):U a:=(xs.ρ (HT.sIx xs.a 0 lo)).ϋ (HT.sIx xs.a xs.a b-HT.sIx xs.a 0 lo)
@[simp]def Ex(x:D)(lo a:O Int):O D:=match x with
  |.lst b=>Z (.O (EQ b lo a))
  |.tup b=>Z (.X (EQ b lo a))
  |.str x=>if x.a<=Ay then Z (.ψ (Txt.slice x lo a))else J
  |_=>J
theorem Ad.cut{K:Ap}{N:Fb}{H:Hp}(h:Ad K N H xs vs)(lo a:O Int):Ad K N H (EQ xs lo a) (Jd vs lo a):=by
 unfold EQ Jd;rw[h.a];show(h.ρ _).ϋ _
@[simp]def DN{b:Type}(f:AG)(lo c:VE->O (O Int))(F:D->O Int->O Int->O b):VE->O b:=λa=>(f a).L λx=>(lo a).L λl=>(c a).L λh=>F x l h
theorem sK{e:Type}{f:AG}{b:VE->O (O Int)}{F:D->O Int->O Int->O e}{d:e}(h:DN f lo b F ρ=Z d):∃x l u,f ρ=Z x/\lo ρ=Z l/\b ρ=Z u/\F x l u=Z d:=by
 unfold DN at h;cases a:f ρ with|none=>rw[a]at h;cases h|some x=>
  cases c:lo ρ with|none=>rw[a,c]at h;cases h|some l=>
   cases g:b ρ with
   |none=>rw[a,c,g]at h;cases h
   |some u=>rw[a,c,g]at h;show#[x,l,u,rfl,rfl,rfl,h]
theorem sL{A B:O Expr}{C:VE->O (O Int)}(m:JE X e (tP X.K M H0 f))(n:JO X A (tO X.K M H0 lo))(o:JO X B (tO X.K M H0 C)):JE X (.μ e (.Slice A B J p2) pos) (tD X.K M H0 (DN f lo C Ex)):=#[have m:=m.h;let n:=n.h;let o:=o.h;(pV (Jh.or<|Jl.or qw) m n o).mono λN H Q G=>by
 let(r,d,R,ex,q):=G;let(x,l,u,W,F,L,b):=sK ex;apply#[r,x,R,W,λv P t c=>#[r,l,R.st t,F,λT w=>#[r,u,(R.st t).st w,L,λS E=>?_]]];let c:=(c.δ w).δ E;let s:=(t.E w).E E;unfold Ex at b;split at b
 .cases b;let(a,i,y,j,k):=c;show .Q #[a,i,y,j,λp g=>q _ _ (s.E<|ZV g)<|aO (R.st s).nh g<|k.cut l u]
 .cases b;let(a,i,y,j,k):=c.X;show .σ<|.inl ⟨a,i,y,j,λz=>q _ _ s ⟨a,i,rfl,j,z ▸ k.cut l u⟩,λp g=>q _ _ (s.E<|ZV g)<|Ob g<|k.cut l u⟩
 .let(hz,b):=Z0 b;cases b;show .σ<|.σ ⟨_,c.ψ,hz,q _ _ s N8⟩
 .cases b]
end
mutual
noncomputable def Be:D->D->Bool
 |.non,.non=>J'
 |.bl a,.bl b=>a==b
 |.bl a,.int b=>(if a then 1 else 0)==b
 |.int a,.bl b=>a==(if b then 1 else 0)
 |.int a,.int b=>a==b
 |.str a,.str b=>a==b
 |.tup c,.tup d=>Do c d
 |.lst c,.lst d=>Do c d
 |_,_=>O'
noncomputable def Do:U D->U D->Bool
 |[],[]=>J'
 |x::a,y::b=>Be x y&&Do a b
 |_,_=>O'
end
@[simp]def A5:Nat->D->Bool
  |_,.non=>J'
  |_,.bl _=>J'
  |_,.int _=>J'
  |_,.str _=>J'
  |n+1,.tup a=>a.ϭ (A5 n)
  |n+1,.lst a=>a.ϭ (A5 n)
  |_,_=>O'
mutual
theorem TZ:∀(n:Nat)(d:D),A5 n d=J'->Be d d=J'
 |_,.non,_=>id rfl
 |_,.bl _,_=>beq_self_eq_true _
 |_,.int _,_=>beq_self_eq_true _
 |_,.str _,_=>beq_self_eq_true _
 |0,.ty _,h=>by simp[A5]at h
 |_+1,.ty _,h=>by simp[A5]at h
 |0,.tup a,h=>by simp[A5]at h
 |0,.lst a _,h=>by simp[A5]at h
 |n+1,.tup a,h=>Od n a h
 |n+1,.lst a .l,h=>Od n a h
 |n+1,.lst a .d,h=>by simp[A5]at h
 |n+1,.lst a (.i _ _),h=>by simp[A5]at h
theorem Od:∀(n:Nat)(xs:U D),xs.ϭ (A5 n)=J'->Do xs xs=J'
 |_,[],_=>id rfl
 |n,x::xs,h=>by
  erw[List.all_cons,Dp]at h
  show(Dp _ _).ϡ #[TZ n x h.1,Od n xs h.2]
end
theorem T0:∀{xs ys:U D},xs.a≠ys.a->Do xs ys=O'
 |[],[],h=>absurd rfl h
 |[],_::_,_=>id rfl
 |_::_,[],_=>id rfl
 |x::xs,y::ys,h=>by
  change (_&&_)=_;rw[T0 (xs:=xs) (ys:=ys) (by exists h),Bool.and_false]
theorem T1:∀{xs ys:U D},xs.a=ys.a->Do xs ys=(BI xs.a).ϭ λj=>Be (xs.Y j .Α) (ys.Y j .Α)
 |[],[],_=>by simp[Do]
 |[],_::_,h=>by simp at h
 |_::_,[],h=>by simp at h
 |x::xs,y::ys,h=>by
  simp only[Do,Cw,List.range_succ_eq_map,List.all_cons,List.getD_cons_zero,Kk,T1 (xs:=xs) (ys:=ys) (by exists h)];rfl
section
variable{H:Hp}{s:Ab}
theorem Inv.apart(k:Inv X pins I H s){xs:U V}(h:BW X.K H a xs)(h':Cg X.K H a ys):False:=by
 let(d,r,(o,n,e,c,_),_):=k.Ϩ h;let(b,f,(g,i,j,_),_):=k.ϗ h';simp_all
theorem Inv.apartDL(k:Inv X pins I H s){ks:U KT}{xs:U V}(h:Rd H a (.dct ks xs))(h':BW X.K H a ys):False:=by
 let(_,_,_,o,_,_,e,c,_):=h.ok k.Ϫ;let(b,d,(f,g,i,j,_),_):=k.Ϩ h';simp_all
theorem Inv.apartDT(j:Inv X pins I H s){ks:U KT}{xs:U V}(h:Rd H a (.dct ks xs))(h':Cg X.K H a ys):False:=by
 let(_,_,_,o,_,_,e,c,_):=h.ok j.Ϫ;let(b,d,(f,g,i,_),_):=j.ϗ h';simp_all
theorem Inv.apartIL(l:Inv X pins I H s){b:Ac}{c:U (Af×V)}(h:Rd H a (.ins C b c))(h':BW X.K H a ys):False:=by
 let(_,_,_,e,_):=(show Bc X.β X.w H s.u a (.ins C b c)from h.ok l.Ϫ);let(d,f,(g,i,j,k,_),_):=l.Ϩ h';simp_all
theorem Inv.apartIT(k:Inv X pins I H s){b:Ac}{c:U (Af×V)}(h:Rd H a (.ins C b c))(h':Cg X.K H a ys):False:=by
 let(_,_,_,e,_):=(show Bc X.β X.w H s.u a (.ins C b c)from h.ok k.Ϫ);let(d,f,(g,i,j,_),_):=k.ϗ h';simp_all
def Lv:D->O V
 |.non=>Z .Α
 |.bl b=>Z (.bl b)
 |.int i=>Z (.r i)
 |.str x=>Z (.ψ x)
 |.ty n=>Z (.ty n)
 |_=>J
theorem sM{d d':D}{w:V}(h:Lv d=Z w)(h':Lv d'=Z w):d=d':=by
 cases d<;>cases h<;>cases d'<;>cases h'<;>rfl
theorem Az.av{K:Ap}{N:Fb}{d:D}{v:V}(h:Az K N H d v):match Lv d with
  |some w=>v=w
  |none=>∃a,v=.I a:=by
 cases d with
 |lst b c=>cases c<;>(let(a,_,e,_):=h;show#[a,e])
 |tup b=>let(a,_,e,_):=h.X;show#[a,e]
 |non=>show h.Α
 |bl _=>show h.bl
 |int _=>show h.r
 |str _=>show h.ψ
 |ty _=>show h.ty
theorem Az.at{K:Ap}{N c:Fb}{d d':D}{v w:V}(e:Lv d=Z w)(h:Az K N H d v)(h':Az K c H d' v):d=d':=by
 let h:=h.av;let h':=h'.av;rw[e]at h;subst h;cases b:Lv d' with
 |some u=>rw[b]at h';subst h';show sM e b
 |none=>rw[b]at h';let(a,z):=h';subst z;cases d<;>cases e
theorem Az.at'{K:Ap}{N:Fb}{d':D}(h':Az K N H d' (.I a)):Lv d'=J:=by
 let h:=h'.av;cases e:Lv d' with
 |none=>rfl
 |some w=>rw[e]at h;subst h;cases d'<;>cases e
mutual
theorem aQ(w:Inv X pins I H s){N u:Fb}:∀(n:Nat)(d d':D)(v:V),A5 n d=J'->Az X.K N H d v->Az X.K u H d' v->d=d'
 |_,.non,d',v,_,h,c=>Az.at rfl h c
 |_,.bl _,d',v,_,h,c=>Az.at rfl h c
 |_,.int _,d',v,_,h,c=>Az.at rfl h c
 |_,.str _,d',v,_,h,c=>Az.at rfl h c
 |_,.ty _,d',v,_,h,c=>Az.at rfl h c
 |0,.tup g,d',v,o,h,c=>by simp[A5]at o
 |0,.lst g _,d',v,o,h,c=>by simp[A5]at o
 |n+1,.tup g,d',v,o,h,c=>by
  let(a,p,e,q,r):=h.X
  subst e
  let z:=c.at'
  cases d' with
  |tup m=>
   let(b,j,e,f,k):=c.X
   cases e
   have:=w.tuple_inj q f
   subst this
   rw[Oe w n g m p o r k]
  |lst _ t=>
   cases t with
   |l=>let(b,j,e,f,_):=c;cases e;show(w.apart f q).Η
   |d=>let(b,j,e,f,_):=c;cases e;show(w.apartDT f q).Η
   |i=>let(b,j,e,f,_):=c;cases e;show(w.apartIT f q).Η
  |_=>cases z
 |n+1,.lst g .d,d',v,o,h,c=>by simp[A5]at o
 |n+1,.lst g (.i _ _),d',v,o,h,c=>by simp[A5]at o
 |n+1,.lst g .l,d',v,o,h,c=>by
  let(a,p,e,q,r):=h
  subst e
  let z:=c.at'
  cases d' with
  |tup m=>let(b,j,e,f,k):=c.X;cases e;show(w.apart q f).Η
  |lst m t=>
   cases t with
   |d=>let(b,j,e,f,k):=c;cases e;show(w.apartDL f q).Η
   |i=>let(b,j,e,f,k):=c;cases e;show(w.apartIL f q).Η
   |l=>
    let(b,j,e,f,k):=c
    cases e
    have:=w.list_inj q f
    subst this
    rw[Oe w n g m p o r k]
  |_=>cases z
theorem Oe(i:Inv X pins I H s){N b:Fb}:∀(n:Nat)(xs ys:U D)(vs:U V),xs.ϭ (A5 n)=J'->Ad X.K N H xs vs->Ad X.K b H ys vs->xs=ys
 |_,[],ys,vs,_,h,a=>by
  erw[Ad]at h;subst h
  cases ys with
  |nil=>rfl
  |cons y ys=>erw[Ad]at a;let(_,_,e,_):=a;cases e
 |n,x::xs,ys,vs,o,h,a=>by
  erw[List.all_cons,Dp]at o
  erw[Ad]at h
  let(v,r,e,q,t):=h
  subst e
  cases ys with
  |nil=>erw[Ad]at a;cases a
  |cons y ys=>
   erw[Ad]at a
   let(f,g,e,c,d):=a
   cases e
   rw[aQ i n x y v o.1 q.p c.p,Oe i n xs ys r o.2 t d]
end
open SeqAt
theorem Ey{a:Type}{xs:U a}{d e:a}(h:xs[j]?=Z e):xs.Y j d=e:=by simp[List.getD_eq_getElem?_getD,h]
theorem aR{a:U Aa}(b:j<a.C.o)(e:a[j]?=Z u):a.C[j]=u:=by
 let(_,e):=Cr.mp e;exists e
def Qx(A:Ag)(s:Ab)(u v:Aa)(b:Bool):Prop:=RcAt A s u v b/\EqAt A s u v b/\RcNeAt A s u v (!b)
theorem Of(A:Ag):A.in1.γ=A.γ+1:=rfl
theorem MH{N:Fb}{x:D}{v:V}(h:Az X.K N H x v)(r:RelV v u)(o:A5 0 x=J'):(x=.Α/\u=.Δ)\/(∃b,x=.bl b/\u=.ϥ b)\/(∃i t,x=.r i/\u=.r i t)\/∃c t,x=.ψ c/\u=.ψ c t:=by
 cases x with
 |non=>cases h.Α;show .Q #[rfl,r]
 |bl b=>cases h.bl;show .σ<|.Q ⟨b,rfl,r⟩
 |int i=>cases h.r;let(t,r):=r;show .σ<|.σ<|.Q ⟨i,t,rfl,r⟩
 |str c=>cases h.ψ;let(t,r):=r;show .σ<|.σ<|.σ ⟨c,t,rfl,r⟩
 |_=>simp[A5]at o
theorem aS(q:Inv X pins I H s){N:Fb}(A:Ag)(x y:D)(a d:V)(u v:Aa)(m:A.γ+0<Av)(e:A5 0 x=J')(f:A5 0 y=J')(g:Az X.K N H x a)(h:Az X.K N H y d)(j:RelV a u)(k:RelV d v):Qx A s u v (Be x y):=by
 rcases MH g j e with⟨rfl,rfl⟩|⟨b,rfl,rfl⟩|⟨i,t,rfl,rfl⟩|⟨c,t,rfl,rfl⟩<;>rcases MH h k f with⟨rfl,rfl⟩|⟨n,rfl,rfl⟩|⟨o,l,rfl,rfl⟩|⟨p,l,rfl,rfl⟩
 .show#[.none_none,.δ _,.none_none]
 .show#[.none_bool _,.none_bool _,.none_bool _]
 .show#[.none_int _ _,.none_int _ _,.none_int _ _]
 .show#[.none_str _ _,.none_str _ _,.none_str _ _]
 .show#[.bool_none _,.bool_none _,.bool_none _]
 .show#[.bool_bool _ _,.bool_bool _ _,.bool_bool _ _]
 .show#[.bool_int _ _ _,.bool_int _ _ _,.bool_int _ _ _]
 .show#[.bool_str _ _ _,.bool_str _ _ _,.bool_str _ _ _]
 .show#[.int_none _ _,.int_none _ _,.int_none _ _]
 .show#[.int_bool _ _ _,.int_bool _ _ _,.int_bool _ _ _]
 .show#[.int_int _ _ _ _,.int_int _ _ _ _,.int_int _ _ _ _]
 .show#[.int_str _ _ _ _,.int_str _ _ _ _,.int_str _ _ _ _]
 .show#[.str_none _ _,.str_none _ _,.str_none _ _]
 .show#[.str_bool _ _ _,.str_bool _ _ _,.str_bool _ _ _]
 .show#[.str_int _ _ _ _,.str_int _ _ _ _,.str_int _ _ _ _]
 .show#[.str_str _ _ _ _,.str_str _ _ _ _,.str_str _ _ _ _]
theorem Og(S:Inv X pins I H s){N:Fb}:∀(n:Nat)(A:Ag)(x y:D)(vx vy:V)(u v:Aa),A.γ+n<Av->A5 n x=J'->A5 n y=J'->Az X.K N H x vx->Az X.K N H y vy->RelV vx u->RelV vy v->Qx A s u v (Be x y):=by
 intro n;induction n with|zero=>show aS S|succ n ih=>
  intro A x y vx vy u v hu ox oy hx hy rx ry;let h:A.γ<Av:=GI hu;let P:∀{g k:U D} {B ws:U V} {m F:U Aa},g.ϭ (A5 n)=J'->k.ϭ (A5 n)=J'->Ad X.K N H g B->Ad X.K N H k ws->Aq B m->Aq ws F->m.a=g.a/\F.a=k.a/\∀j (h1:j<m.C.o) (h2:j<F.C.o),EqAt A.in1 s m.C[j] F.C[j] (Be (g.Y j .Α)<|k.getD j .non):=λox oy Q T Y r2=>by
   let l1:=Q.a.E Y.a;let l2:=T.a.E r2.a;apply#[l1.τ,l2.τ,λj h1 h2=>?_];let C:=h1;let G:=h2;rw[B5]at C G;rw[<- l1]at C;rw[<- l2]at G;let(w1,hw1,dw1):=Q.Ρ<|Cb C;let(w2,hw2,dw2):=T.Ρ<|Cb G;let(u1,hu1,ru1):=Y.Ρ hw1;let(u2,hu2,ru2):=r2.Ρ hw2;rw[aR h1 hu1,aR h2 hu2,Ey<|Cb C,Ey<|Cb G];show(ih A.in1 _ _ _ _ _ _ (by rw[Of];lia) (Du.mp ox _<|Fy C) (Du.mp oy _<|Fy G) dw1.p dw2.p ru1 ru2).2.1
  let con:∀{x:D} {v:V} {u:Aa},A5 (n+1) x=J'->Az X.K N H x v->RelV v u->A5 0 x=J'\/(∃g a B m,x=.X g/\u=.I a/\g.ϭ (A5 n)=J'/\Cg X.K H a B/\Ad X.K N H g B/\Aq B m/\s.u.IsTuple a m.C)\/∃g a B m,x=.O g/\u=.I a/\g.ϭ (A5 n)=J'/\BW X.K H a B/\Ad X.K N H g B/\Aq B m/\s.u.IsList a m.C:=λ{x v u} o h r=>by
   cases x with
   |tup g=>let(a,B,rfl,q,d):=h.X;let(m,z,p,_):=S.ϗ q;show .σ<|.Q ⟨g,a,B,m,rfl,r,o,q,d,z,p⟩
   |lst g f=>
    cases f with
    |l=>let(a,B,rfl,q,d):=h;let(m,z,p,_):=S.Ϩ q;show .σ<|.σ ⟨g,a,B,m,rfl,r,o,q,d,z,p.ϑ⟩
    |_=>simp[A5]at o
   |ty _=>simp[A5]at o
   |_=>show .Q rfl
  rcases con ox hx rx with L|⟨g,a1,B,m,rfl,rfl,L,q1,Q,Y,p1⟩|⟨g,a1,B,m,rfl,rfl,L,q1,Q,Y,p1⟩<;>rcases con oy hy ry with M|⟨k,a2,ws,F,rfl,rfl,M,q2,T,r2,w⟩|⟨k,a2,ws,F,rfl,rfl,M,q2,T,r2,w⟩
  .show aS S A x y vx vy u v h L M hx hy rx ry
  .rcases MH hx rx L with⟨rfl,rfl⟩|⟨b,rfl,rfl⟩|⟨i,t,rfl,rfl⟩|⟨c,t,rfl,rfl⟩<;>change RcAt _ _ _ _ O'/\EqAt _ _ _ _ O'/\RcNeAt _ _ _ _ J'<;>apply⟨?_,?_,?_⟩<;>with_reducible first|show .none_tuple w h|show .bool_tuple _ w h|show .int_tuple _ _ w h|show .str_tuple _ _ w h
  .rcases MH hx rx L with⟨rfl,rfl⟩|⟨b,rfl,rfl⟩|⟨i,t,rfl,rfl⟩|⟨c,t,rfl,rfl⟩<;>change RcAt _ _ _ _ O'/\EqAt _ _ _ _ O'/\RcNeAt _ _ _ _ J'<;>apply⟨?_,?_,?_⟩<;>with_reducible first|show .none_list w h|show .bool_list _ w h|show .int_list _ _ w h|show .str_list _ _ w h
  .rcases MH hy ry M with⟨rfl,rfl⟩|⟨b,rfl,rfl⟩|⟨i,t,rfl,rfl⟩|⟨c,t,rfl,rfl⟩<;>change RcAt _ _ _ _ O'/\EqAt _ _ _ _ O'/\RcNeAt _ _ _ _ J'<;>apply⟨?_,?_,?_⟩<;>with_reducible first|show .tuple_none p1 h|show .tuple_bool _ p1 h|show .tuple_int _ _ p1 h|show .tuple_str _ _ p1 h
  .let(l1,l2,E):=P L M Q T Y r2;let k1:=RcAt.tuples (e:=λj=>Be (g.Y j .Α)<|k.getD j .non) p1 w h E;let k2:=RcNeAt.tuples (e:=λj=>Be (g.Y j .Α)<|k.getD j .non) p1 w h E;let e:((BI<|min m.toArray.size F.toArray.size).all (λj=>Be (g.Y j .Α)<|k.Y j .Α)&&m.C.o==F.C.o)=Do g k:=by
    rw[B5,B5,l1,l2];by_cases R:g.a=k.a
    .rw[T1 R,R,Nat.min_self];simp
    .rw[T0 R,show(g.a==k.a)=O' by simp;show W.neN R,Bool.and_false]
   rw[e]at k1 k2;change Qx _ _ _ _<|Do g k;apply⟨k1,?_,k2⟩;by_cases ea:a1=a2
   .subst ea;cases S.tuple_inj q1 q2;rw[Oe S n g k _ L Q T,Od n k M];show .δ _
   .show .of_refs ea k1
  .change RcAt _ _ _ _ O'/\EqAt _ _ _ _ O'/\RcNeAt _ _ _ _ J';apply#[?_,?_,?_]<;>show .tuple_list p1 w h
  .rcases MH hy ry M with⟨rfl,rfl⟩|⟨b,rfl,rfl⟩|⟨i,t,rfl,rfl⟩|⟨c,t,rfl,rfl⟩<;>change RcAt _ _ _ _ O'/\EqAt _ _ _ _ O'/\RcNeAt _ _ _ _ J'<;>apply⟨?_,?_,?_⟩<;>with_reducible first|show .list_none p1 h|show .list_bool _ p1 h|show .list_int _ _ p1 h|show .list_str _ _ p1 h
  .change RcAt _ _ _ _ O'/\EqAt _ _ _ _ O'/\RcNeAt _ _ _ _ J';apply#[?_,?_,?_]<;>show .list_tuple p1 w h
  .let(l1,l2,E):=P L M Q T Y r2;change Qx _ _ _ _<|Do g k;let rc:RcAt A s (.I a1) (.I a2) (Do g k)/\RcNeAt A s (.I a1) (.I a2) (!Do g k):=by
    by_cases R:g.a=k.a
    .let hs:m.C.o=F.C.o:=by rw[B5,B5,l1,l2,R]
     let k1:=RcAt.lists (e:=λj=>Be (g.Y j .Α)<|k.getD j .non) p1 w hs h E;let k2:=RcNeAt.lists (e:=λj=>Be (g.Y j .Α)<|k.Y j .Α) p1 w hs h E;rw[B5,l1,<- T1 R]at k1 k2;show⟨k1,k2⟩
    .rw[T0 R];let hne:(m.C.o != F.C.o)=J':=by rw[B5,B5];simp;lia
     show#[.lists_lengths p1 w hne h,.lists_lengths p1 w hne h]
   apply#[rc.1,?_,rc.2];by_cases ea:a1=a2
   .subst ea;cases S.list_inj q1 q2;rw[Oe S n g k _ L Q T,Od n k M];show .δ _
   .show .of_refs ea rc.1
end
def ZY:Nat:=12
@[simp]def B8(x y:D):O D:=if A5 ZY x&&A5 ZY y then Z (.bl (Be x y))else J
@[simp]def Cc(x y:D):O D:=if A5 ZY x&&A5 ZY y then Z (.bl (!Be x y))else J
def Qy(K:Ap)(neg:Bool):R2:=λx y H Q=>∃N a b,Az K N H a x/\Az K N H b y/\A5 ZY a=J'/\A5 ZY b=J'/\Q (.bl (if neg then !Be a b else Be a b)) H
section
variable{K:Ap}{M:Fb}{a b:Expr}{f g:AG}
theorem aT(j:X.A.γ+64<Av):Ck X (DT .Eq) (Qy X.K O'):=by
 intro a s k H x y v u Q l b c zQ;let(N,d,e,f,g,h,i,q):=zQ;show(Og l ZY X.A d e x y v u (by unfold ZY;lia) h i f g b c).1 X.β X.w X.xe _ #[.bl _,H,l,rfl,q]
theorem aU(j:X.A.γ+64<Av):Ck X (DT .NotEq) (Qy X.K J'):=by
 intro a s k H x y v u Q l b c zQ;let(N,d,e,f,g,h,i,q):=zQ;show(Og l ZY X.A d e x y v u (by unfold ZY;lia) h i f g b c).2.2 X.β X.w X.xe _ #[.bl _,H,l,rfl,q]
theorem aV:Ew K (Qy K O') B8:=by
 intro N H x y b c d Q h f g e q;let(a,e):=Z0 e;rw[Dp]at a;cases e;show#[N,b,c,f,g,a.1,a.2,q _ H (Ak.ω H) HN]
theorem aX:Ew K (Qy K J') Cc:=by
 intro N H x y b c d Q h f g e q;let(a,e):=Z0 e;rw[Dp]at a;cases e;show#[N,b,c,f,g,a.1,a.2,q _ H (Ak.ω H) HN]
def GJ(x:D)(ys:U D):Bool:=ys.any λy=>Be y x
@[simp]def D9(neg:Bool)(x y:D):O D:=match y with
  |.lst a=>if A5 ZY x&&a.ϭ (A5 ZY)then Z (.bl (if neg then !GJ x a else GJ x a))else J
  |.tup a=>if A5 ZY x&&a.ϭ (A5 ZY)then Z (.bl (if neg then !GJ x a else GJ x a))else J
  |.str z=>match x with
   |.str w=>Z (.bl (if neg then !(!(NK z w 0 z.a 1).Υ)else !(NK z w 0 z.a 1).Υ))
   |_=>J
  |_=>J
def aY(K:Ap)(neg:Bool):R2:=λx y H Q=>∃N a b c p,Az K N H a x/\y=.I p/\(BW K H p c\/Cg K H p c)/\Ad K N H b c/\A5 ZY a=J'/\b.ϭ (A5 ZY)=J'/\Q (.bl (if neg then !GJ a b else GJ a b)) H
open Classical in
def GK(K:Ap)(N:Fb)(H:Hp)(x:D)(u:Aa):Bool:=decide (∃d w,Az K N H d w/\RelV w u/\Be d x=J')
theorem T2{a:AZ}{H:Hp}{s:Ab}(j:Inv X a I H s){N:Fb}{x d:D}{w:V}(hd:Az X.K N H d w)(r:RelV w u){n:Nat}(c:A5 n d=J'):GK X.K N H x u=Be d x:=by
 classical
 cases e:Be d x with
 |true=>show @decide_eq_true _ (Qs _) #[d,w,hd,r,e]
 |false=>
  apply @decide_eq_false _ (Qs _) ?_
  intro zQ;let(f,h,b,g,i):=zQ
  have:=g.inj r
  subst this
  have:=aQ j n d f _ c hd b
  simp_all
theorem T4{a:AZ}{I:St}{H:Hp}{s:Ab}(f:Inv X a I H s){N:Fb}{x:D}:∀{ys:U D}{vs:U V}{us:U Aa},Ad X.K N H ys vs->Aq vs us->ys.ϭ (A5 ZY)=J'->us.any (GK X.K N H x)=GJ x ys
 |[],_,_,h,r,_=>by erw[Ad]at h;subst h;cases r;rfl
 |y::ys,_,_,h,r,o=>by
  erw[List.all_cons,Dp]at o;let(v,t,rfl,b,c):=h;cases r with
  |cons d e=>
   rw[List.any_cons,T2 f b.p d o.1,T4 f c e o.2];rfl
theorem T5{a:AZ}{H:Hp}{s:Ab}(z:Inv X a I H s){N:Fb}{A:Ag}{x:D}{c:V}{v:Aa}(l:A.γ+ZY<Av)(m:A5 ZY x=J')(n:Az X.K N H x c)(o:RelV c v){ys:U D}{us:U Aa}(h:Ad X.K N H ys vs)(r:Aq vs us)(d:ys.ϭ (A5 ZY)=J'):∀u∈us,SeqAt.EqAt A s u v (GK X.K N H x u):=by
 intro u b;let(j,q):=List.getElem?_of_mem b;let t:=r.a;let e:=Cb (show j<vs.a by grind);let(w,f,g):=r.Ρ e;rw[q]at f;cases f;let(y,i,k):=h.get' e;rw[T2 z k.p g<|Du.mp d y<|HE i];show(Og z ZY A y x _ _ _ _ l (Du.mp d y<|HE i) m k.p n g o).2.1
theorem aZ(b:Bool)(o:X.A.γ+64<Av):Ck X (DT (bif b then .NotIn else .In)) (aY X.K b):=by
 intro j s t H x y v u Q C k n zQ;let(N,c,z,B,p,l,rfl,d,hd,m,h,q):=zQ;cases n;let e:X.A.in1.γ+ZY<Av:=by rw[Of];unfold ZY;lia
 rcases d with d|d
 .let(a,r,g,hz):=C.Ϩ d;let f:∀w∈a.C,_:=λw i=>T5 C e m l k hd r h w (by exists i);cases b;all_goals
   first|apply SeqAt.in_listAt (GK X.K N H c) g.ϑ f ⟨.bl _,H,C,rfl,?_⟩|apply SeqAt.notIn_listAt (GK X.K N H c) g.ϑ f ⟨.bl _,H,C,rfl,?_⟩
   rw[show a.C.any (GK X.K N H c)=a.any (GK X.K N H c) by simp,T4 C hd r h];show q
 .let(a,r,g,hz):=C.ϗ d;let f:∀w∈a.C,_:=λw i=>T5 C e m l k hd r h w (by exists i);cases b;all_goals
   first|apply SeqAt.in_tupleAt (GK X.K N H c) g f ⟨.bl _,H,C,rfl,?_⟩|apply SeqAt.notIn_tupleAt (GK X.K N H c) g f ⟨.bl _,H,C,rfl,?_⟩
   rw[show a.C.any (GK X.K N H c)=a.any (GK X.K N H c) by simp,T4 C hd r h];show q
theorem a0(b:Bool):Ew K (λx y H Q=>aY K b x y H Q\/∃i j,x=.ψ i/\y=.ψ j/\Q (.bl (if b then !(!(NK j i 0 j.a 1).Υ)else !(NK j i 0 j.a 1).Υ)) H) (D9 b):=by
 intro N H x y n o d Q p f g e q;unfold D9 at e;split at e
 .let(c,e):=Z0 e;rw[Dp]at c;cases e;let(a,h,k,l,m):=g;show .Q #[N,n,_,h,a,f,k,.Q l,m,c.1,c.2,q _ H (Ak.ω H) HN]
 .let(c,e):=Z0 e;rw[Dp]at c;cases e;let(a,h,k,l,m):=g.X;show .Q #[N,n,_,h,a,f,k,.σ l,m,c.1,c.2,q _ H (Ak.ω H) HN]
 .split at e
  .cases e;show .σ #[_,_,f.ψ,g.ψ,q _ H (Ak.ω H) HN]
  .cases e
 .cases e
@[simp]def Gn(lt:D->D->O Bool):U D->U D->O Bool
  |[],[]=>Z O'
  |[],_::_=>Z J'
  |_::_,[]=>Z O'
  |x::a,y::b=>if A5 ZY x&&A5 ZY y then(if Be x y then Gn lt a b else lt x y)else J
@[simp]def ltN:Nat->D->D->O Bool
  |_,.int i,.int j=>Z (decide (i<j))
  |_,.str a,.str b=>Z (decide (a.Ϝ.B<b.Ϝ.B))
  |n+1,.tup c,.tup d=>Gn (ltN n) c d
  |n+1,.lst c .l,.lst d .l=>Gn (ltN n) c d
  |_,_,_=>J
@[simp]def C9(x y:D):O D:=(ltN 6 x y).j D.bl
def a6(K:Ap):R2:=λx y H Q=>∃N a c b,Az K N H a x/\Az K N H c y/\ltN 6 a c=Z b/\Q (.bl b) H
abbrev a7(X:Cx)(N:Fb)(H:Hp)(s:Ab)(n:Nat):Prop:=∀(A:Ag)(x y:D)(a c:V)(u v:Aa)(b:Bool),A.γ+n+ZY<Av->ltN n x y=Z b->Az X.K N H x a->Az X.K N H y c->RelV a u->RelV c v ->
  ∀(prog:AM) (d:Aj) (E Q:AR),Q (.ϥ b) s->wpAny (Ae prog d) A (richCompare .Lt u v) Q E s
theorem a9{i:AZ}{H:Hp}{s:Ab}(S:Inv X i I H s){N:Fb}(n:Nat)(M:a7 X N H s n)(A:Ag)(Y:A.γ+n+1+ZY<Av){b:Bool}:∀(xs ys:U D)(a c:U V)(d f:U Aa),Gn (ltN n) xs ys=Z b->Ad X.K N H xs a->Ad X.K N H ys c->Aq a d->Aq c f->Gf A.in1 s d f b:=by
 intro xs;induction xs with
 |nil=>
  intro ys a c d f h j g v k;erw[Ad]at j;subst j;cases v;cases ys with
  |nil=>erw[Ad]at g;subst g;cases k;cases h;show .nn
  |cons y ys=>erw[Ad]at g;let(w,t,e,_,_):=g;subst e;cases k;cases h;show .nc
 |cons x xs z=>
  intro ys a c d f h j g v k;erw[Ad]at j;let(w1,t1,P,l,B):=j;subst P;cases v with
  |cons m C=>
   cases ys with|nil=>erw[Ad]at g;subst g;cases k;cases h;show .cn|cons y ys=>
    erw[Ad]at g;let(w2,t2,T,o,G):=g;subst T;cases k with
    |cons r F=>
     let(L,h):=Z0 h;rw[Dp]at L;let u:=(Og S ZY A.in1 x y _ _ _ _ (by rw[Of];lia) L.1 L.2 l.p o.p m r).2.1;split at h
     .next e=>rw[e]at u;show .eq u<|z ys _ _ _ _ h B G C F
     .next e=>
      rw[Bool.not_eq_true]at e;rw[e]at u;show .ne u λprog R E Q q=>M A.in1 x y _ _ _ _ b (by rw[Of];lia) h l.p o.p m r prog R E Q q
open J in
theorem T6{g:AZ}{H:Hp}{s:Ab}(R:Inv X g I H s){N:Fb}(n:Nat):a7 X N H s n:=by
 induction n with
 |zero=>
  intro A x y vx vy u v b hu h e f a c prog i E Q q;unfold ltN at h;split at h
  .cases h;rw[e.r]at a;rw[f.r]at c;let(t,rfl):=a;let(l,rfl):=c;show HT.rcLt_int A s _ _ _ _ prog i E Q q
  .cases h;rw[e.ψ]at a;rw[f.ψ]at c;let(t,rfl):=a;let(l,rfl):=c;show(PyProof.Rows.lt_str q:wpAny (Ae prog i) A (DT .Lt _ _) Q E s)
  .next o=>cases o
  .next o=>cases o
  .cases h
 |succ n ih=>
  intro A x y vx vy u v b hu h e f a c prog i E Q q;let d:=a9 (N:=N) R n ih A ∅ (b:=b);unfold ltN at h;split at h
  .cases h;rw[e.r]at a;rw[f.r]at c;let(t,rfl):=a;let(l,rfl):=c;show HT.rcLt_int A s _ _ _ _ prog i E Q q
  .cases h;rw[e.ψ]at a;rw[f.ψ]at c;let(t,rfl):=a;let(l,rfl):=c;show(PyProof.Rows.lt_str q:wpAny (Ae prog i) A (DT .Lt _ _) Q E s)
  .next m p r w=>
   cases w;let(a1,z,B,C,G):=e.X;let(a2,F,L,M,K):=f.X;subst B L;cases a;cases c;let(j,T,p1,_):=R.ϗ C;let(k,P,p2,_):=R.ϗ M;show qE p1 p2 (by exists d p r _ _ _ _ h G K T P) ∅ q
  .next m p r w=>
   cases w;let(a1,z,B,C,G):=e;let(a2,F,L,M,K):=f;subst B L;cases a;cases c;let(j,T,((cls,dd,data,sl),n1,Y,hc1,hdd1,hd1),_):=R.Ϩ C;let(k,P,((cls2,dd2,data2,sl2),n2,ho2,hc2,hdd2,hd2),_):=R.Ϩ M;subst hc1 hd1 hc2 hd2;show qF Y ho2 (by exists d p r _ _ _ _ h G K T P) ∅ q
  .cases h
theorem T7(j:X.A.γ+64<Av):Ck X (DT .Lt) (a6 X.K):=by
 intro a s k H x y v u Q l c d zQ;let(N,e,f,b,g,h,i,q):=zQ;show T6 l 6 X.A e f x y v u b (by unfold ZY;lia) i g h c d X.β X.w X.xe _ #[.bl b,H,l,rfl,q]
theorem T8:Ew K (a6 K) C9:=by
 intro N H x y a c d Q i f g e q;let(b,h,e):=B7.mp e;cases e;show#[N,a,c,b,f,g,h,q _ H (Ak.ω H) HN]
end
section
variable{K:Ap}{N:Fb}{H:Hp}
theorem Paired.one'{a b:Type}{F:a->b->Prop}{x:a}{vs:U b}(h:Paired F [x] vs):∃v,vs=[v]/\F x v:=by
 cases h with
 |cons r t=>cases t;show#[_,rfl,r]
theorem Paired.two'{a b:Type}{F:a->b->Prop}{x y:a}{vs:U b}(h:Paired F [x,y] vs):∃v w,vs=[v,w]/\F x v/\F y w:=by
 cases h with
 |cons r t=>
  let(w,e,q):=Paired.one' t;grind
@[simp]def Zn:Ev
  |[.lst a]=>Z (.r a.a)
  |[.tup a]=>Z (.r a.a)
  |[.str x]=>if x.a<=Ay then Z (.r x.a)else J
  |_=>J
theorem ba:Gk K (λxs H Q=>∃x n,xs=[x]/\YC K x H n/\Q (.r n) H) Zn:=by
 intro N H i j d Q k h e q;rcases j with _|⟨_|_|_|_|_|_|⟨_,_|_⟩,_|_⟩<;>try(cases e;done)
 .let(hz,e):=Z0 e;cases e;let(v,rfl,b):=Paired.one' h;show#[v,_,rfl,b.ψ ▸ #[hz,rfl],q _ H (Ak.ω H) F0]
 .cases e;let(v,rfl,b):=Paired.one' h;let(a,c,rfl,f,g):=b.X;show#[.I a,_,rfl,.σ #[c,f,rfl],g.a ▸ q _ H (Ak.ω H) F0]
 .cases e;let(v,rfl,b):=Paired.one' h;let(a,c,rfl,f,g):=b;show#[.I a,_,rfl,.Q #[c,f,rfl],g.a ▸ q _ H (Ak.ω H) F0]
@[simp]def He:U D->A7
  |[.lst a]=>Z a
  |[.tup a]=>Z a
  |_=>J
theorem sO:Qo K (λxs H Q=>∃p ys,xs=[.I p]/\(BW K H p ys\/Cg K H p ys)/\∀l,H l=J->Q (.I l) (AK H l (.O ys))) He:=by
 intro N H i j xs Q k h e q;unfold He at e;split at e
 .cases e;let(v,rfl,c):=Paired.one' h;let(a,b,rfl,d,f):=c;show#[a,b,rfl,.Q d,λl g=>q b l g f]
 .cases e;let(v,rfl,c):=Paired.one' h;let(a,b,rfl,d,f):=c.X;show#[a,b,rfl,.σ d,λl g=>q b l g f]
 .cases e
@[simp]def E5:Ev
  |[.lst a]=>Z (.X a)
  |[.tup a]=>Z (.X a)
  |_=>J
theorem sP:Gk K (λxs H Q=>∃p ys,xs=[.I p]/\((BW K H p ys/\∀l,H l=J->Q (.I l) (AK H l (.X ys)))\/(Cg K H p ys/\Q (.I p) H))) E5:=by
 intro N H j k d Q m h e q;unfold E5 at e;split at e
 .cases e;let(v,rfl,f):=Paired.one' h;let(a,b,rfl,c,g):=f;show#[a,b,rfl,.Q #[c,λl i=>q _ _ (ZV i)<|Ob i g]]
 .cases e;let(v,rfl,f):=Paired.one' h;let(a,b,rfl,c,g):=f.X;show#[a,b,rfl,.σ #[c,q _ _ (Ak.ω H) (by erw[Aw];show#[a,b,rfl,c,g])]]
 .cases e
def Kl:U D->O (U Bool)
 |[]=>Z []
 |.bl b::r=>(Kl r).j (b::·)
 |_=>J
theorem sQ{bs:U Bool}(h:Kl xs=Z bs):xs=bs.j D.bl:=by
 induction xs generalizing bs with
 |nil=>cases h;rfl
 |cons x r a=>cases x<;>first|cases h;done|(erw[Kl,B7]at h;let(_,e,rfl):=h;rw[a e];rfl)
theorem bc:∀{bs:U Bool}{vs:U V},Ad K N H (bs.j D.bl) vs->vs=bs.j V.bl
 |[],_,h=>by simpa only[Dj,Ad]using h
 |b::bs,_,h=>by
  let(v,r,e,a,t):=h;subst e a;rw[bc t];rfl
@[simp]def Fg:Ev
  |[.lst a]=>(Kl a).j λbs=>.bl (bs.ϭ id)
  |_=>J
@[simp]def Lw:Ev
  |[.lst a]=>(Kl a).j λbs=>.bl (bs.any id)
  |_=>J
open J in
theorem bd{b:Bool}:Gk K (λxs H Q=>∃(a:Ac)(bs:U Bool),xs=[.I a]/\BW K H a (bs.j V.bl)/\Q (.bl (bif b then bs.ϭ id else bs.any id)) H) (bif b then Fg else Lw):=by
 intro N H i j d Q k h e q;cases b;all_goals
  first|change Fg _=_ at e;unfold Fg at e|change Lw _=_ at e;unfold Lw at e
  split at e
  .next xs=>
   let(bs,g,rfl):=B7.mp e;let(v,rfl,a,l,rfl,c,f):=Paired.one' h;rw[sQ g]at f;rw[bc f]at c;show#[a,bs,rfl,c,q _ H (Ak.ω H) HN]
  .cases e
@[simp]def Qz:Ev
  |[.int i,.int j]=>Z (.r (if j>i then j else i))
  |_=>J
@[simp]def QA:Ev
  |[.int i,.int j]=>Z (.r (if j<i then j else i))
  |_=>J
theorem sR:Gk K (λxs H Q=>∃i j,xs=[.r i,.r j]/\Q (.r (if j>i then j else i)) H) Qz:=by
 intro N H c f d Q g h e q;unfold Qz at e;split at e
 .cases e;let(v,w,rfl,a,b):=Paired.two' h;show#[_,_,by rw[a.r,b.r],q _ H (Ak.ω H) F0]
 .cases e
theorem sS:Gk K (λxs H Q=>∃i j,xs=[.r i,.r j]/\Q (.r (if j<i then j else i)) H) QA:=by
 intro N H c f d Q g h e q;unfold QA at e;split at e
 .cases e;let(v,w,rfl,a,b):=Paired.two' h;show#[_,_,by rw[a.r,b.r],q _ H (Ak.ω H) F0]
 .cases e
@[simp]def intD:Ev
  |[.int i]=>Z (.r i)
  |[.bl k]=>Z (.r (if k then 1 else 0))
  |_=>J
theorem sT:Gk K (λxs H Q=>(∃i,xs=[.r i]/\Q (.r i) H)\/∃k,xs=[.bl k]/\Q (.r (if k then 1 else 0)) H) intD:=by
 intro N H b c d Q f h e q;unfold intD at e;split at e
 .cases e;let(v,rfl,a):=Paired.one' h;show .Q #[_,by rw[a.r],q _ H (Ak.ω H) F0]
 .cases e;let(v,rfl,a):=Paired.one' h;show .σ #[_,by rw[a.bl],q _ H (Ak.ω H) F0]
 .cases e
def HP:U D->O (U Int)
 |[]=>Z []
 |.int b::r=>(HP r).j (b::·)
 |_=>J
theorem be{bs:U Int}(h:HP xs=Z bs):xs=bs.j D.r:=by
 induction xs generalizing bs with
 |nil=>cases h;rfl
 |cons x r a=>cases x<;>first|cases h;done|(erw[HP,B7]at h;let(_,e,rfl):=h;rw[a e];rfl)
theorem T9:∀(ns:U Int),HP (ns.j D.r)=Z ns
 |[]=>rfl
 |n::ns=>by erw[AU,HP,T9 ns];rfl
theorem Ua:∀{bs:U Int}{vs:U V},Ad K N H (bs.j D.r) vs->vs=bs.j V.r
 |[],_,h=>by simpa only[Dj,Ad]using h
 |b::bs,_,h=>by
  let(v,r,e,a,t):=h;subst e a;rw[Ua t];rfl
end
section
theorem sU(g:X.ϵ=J'):E2 X (.Β "sum") (λxs H Q=>∃(a:Ac)(ns:U Int),xs=[.I a]/\BW X.K H a (ns.j V.r)/\Q (.r ns.sum) H):=by
 intro d s o H xs t Q w r zQ;let(a,ns,rfl,h,q):=zQ;let(u,rfl,i):=Fc r;cases i;let(b,e,p,hz):=w.Ϩ h;let(c,f):=(Qd e).allInts.items;apply sum_intListG (w.ok.hd g) (f ▸ p.ϑ) λv j k l=>?_;let m:ns=c.B.j (·.1):=by
  rw[<- nums_intItems,<- f];show(show numsOf b.C.B=ns from(Qd e).numsOf).τ
 let n:preSum (numAt c) c.o=ns.sum:=by
  rw[preSum_eq,Hf (by simp),m]
 rw[n];show#[.r ns.sum,H,w.ϱ (t':=j) l,#[_,rfl],q]
theorem bf{b:Bool}(h:X.ϵ=J'):E2 X (.Β (bif b then "min" else "max")) (λxs H Q=>∃(a:Ac)(ns:U Int),xs=[.I a]/\BW X.K H a (ns.j V.r)/\0<ns.a/\∀m,m∈ns->(∀a,a∈ns->bif b then m<=a else a<=m)->Q (.r m) H):=by
 intro i s G H xs F Q L r zQ;let(a,ns,rfl,x,y,q):=zQ;let(u,rfl,z):=Fc r;cases z;let(A,k,p,hz):=L.Ϩ x;let(d,e):=(Qd k).allInts.items;let f:ns=d.B.j (·.1):=by rw[<- (Qd k).numsOf,<- nums_intItems,<- e]
 let c:0<d.o:=by
  grind
 cases b;all_goals
  first|apply min_intList (L.ok.hd h) (e ▸ p.isList) c λv B l n o=>?_|apply max_intList (L.ok.hd h) (e ▸ p.isList) c λv B l n o=>?_
  let(t,rfl):=intItems_at n;let C:=argBest_lt (numAt d)<|d.size-1;let E:=argBest_gt (numAt d)<|d.size-1;apply⟨.int _,H,L.kept (t':=l) o,⟨t,rfl⟩,q _ ?_ λb w=>?_⟩
  .rw[f,numAt_eq];show getD_mem (by rw[Bq,K5];lia)
  .rw[f]at w;let(j,g,rfl):=mem_getD w;rw[Bq,K5]at g;rw[<- numAt_eq];first|show C.2 j ((Nat.le_sub_one_iff_lt c).ϡ g)|show E.2 j ((Nat.le_sub_one_iff_lt c).ϡ g)
end
def QB:U Int->O Int
 |[]=>J
 |x::a=>Z (a.Χ (λm y=>if y<m then y else m) x)
def QC:U Int->O Int
 |[]=>J
 |x::a=>Z (a.Χ (λm y=>if y>m then y else m) x)
theorem bg:∀(xs:U Int)(x:Int),(xs.Χ (λm y=>if y<m then y else m) x)∈x::xs/\∀a∈x::xs,(xs.Χ (λm y=>if y<m then y else m) x)<=a
 |[],x=>by simp
 |y::b,x=>by
  let(c,d):=bg b<|if y<x then y else x;grind [Bh]
theorem bh:∀(xs:U Int)(x:Int),(xs.Χ (λm y=>if y>m then y else m) x)∈x::xs/\∀a∈x::xs,a<=(xs.Χ (λm y=>if y>m then y else m) x)
 |[],x=>by simp
 |y::b,x=>by
  let(c,d):=bh b<|if y>x then y else x;grind [Bh]
theorem sV{ns:U Int}{m k:Int}(h:QB ns=Z k)(b:m∈ns)(c:∀a,a∈ns->m<=a):m=k:=by
 cases ns with|nil=>cases h|cons x d=>
  cases h;let(e,f):=bg d x;have:=c _ e;have:=f _ b;lia
theorem sW{ns:U Int}{m k:Int}(h:QC ns=Z k)(b:m∈ns)(c:∀a,a∈ns->a<=m):m=k:=by
 cases ns with|nil=>cases h|cons x d=>
  cases h;grind [bh]
section
variable{K:Ap}
@[simp]def Oh:Ev
  |[.lst a]=>(HP a).j λns=>.r ns.sum
  |_=>J
@[simp]def MJ:Ev
  |[.lst a]=>((HP a).L QB).j D.r
  |_=>J
@[simp]def MK:Ev
  |[.lst a]=>((HP a).L QC).j D.r
  |_=>J
open J in
theorem sX:Gk K (λxs H Q=>∃(a:Ac)(ns:U Int),xs=[.I a]/\BW K H a (ns.j V.r)/\Q (.r ns.sum) H) Oh:=by
 intro N H g i d Q j h e q;unfold Oh at e;split at e
 .next xs=>
  let(bs,f,rfl):=B7.mp e;let(v,rfl,a,k,rfl,b,c):=Paired.one' h;rw[be f]at c;rw[Ua c]at b;show#[a,bs,rfl,b,q _ H (Ak.ω H) F0]
 .cases e
open J in
theorem bi{b:Bool}:Gk K (λxs H Q=>∃(a:Ac)(ns:U Int),xs=[.I a]/\BW K H a (ns.j V.r)/\0<ns.a/\∀m,m∈ns->(∀a,a∈ns->bif b then m<=a else a<=m)->Q (.r m) H) (bif b then MJ else MK):=by
 intro N H o p d Q r h e q;cases b;all_goals
  first|change MJ _=_ at e;unfold MJ at e|change MK _=_ at e;unfold MK at e
  split at e
  .next xs=>
   let(k,l,rfl):=B7.mp e;let(bs,n,c):=Ch.mp l;let(v,rfl,a,s,rfl,f,g):=Paired.one' h;rw[be n]at g;rw[Ua g]at f;apply#[a,bs,rfl,f,?_,λm i j=>?_]
   .cases bs with
    |nil=>cases c
    |cons=>simp
   .first|rw[sV c i j]|rw[sW c i j]
    show q _ H (Ak.ω H) F0
  .cases e
@[simp]def ML:D->O String
  |.non=>Z "NoneType"
  |.bl _=>Z "bool"
  |.int _=>Z "int"
  |.str _=>Z "str"
  |.tup _=>Z "tuple"
  |.lst _=>Z "list"
  |.lst _ .d=>J
  |.lst _ (.i _ _)=>J
  |.ty _=>J
def MM(t n:String):Bool:=t==n||(t=="bool"&&n=="int")
end
def HR:U String:=["NoneType","bool","int","str","tuple","list"]
theorem bj(K:Ap):∀t∈HR,∀n∈HR,PySem.W.kitOne K (.ι t) (.ι n)=Z (MM t n):=by
 intro t a n b;erw[HR,Bx,MN,or_false]at a b;rcases a with rfl|rfl|rfl|rfl|rfl|rfl<;>rcases b with rfl|rfl|rfl|rfl|rfl|rfl<;>with_unfolding_all rfl
theorem bn(K:Ap){t:String}(a:t∈HR):∀(ns:U String),(∀n∈ns,n∈HR)->PySem.W.kitAny K (.ι t) (ns.j Value.ι)=Z (ns.any λn=>MM t n)
 |[],_=>rfl
 |n::ns,h=>by
  erw[AU,PySem.W.kitAny,bj K t a n<|h n Bh,bn K a ns λm b=>h m<|Bl _ b,List.any_cons];cases MM t n<;>rfl
theorem bo{d:D}{t:String}(h:ML d=Z t):t∈HR:=by
 cases d with
 |lst b a=>cases a<;>simp[ML]at h;subst h;simp[HR]
 |_=>simp[ML]at h<;>subst h<;>simp[HR]
section
variable{K:Ap}
theorem sY{h:AZ}{H:Hp}{s:Ab}(A:Inv X h I H s){N:Fb}{d:D}{x:V}{t:String}(g:Az X.K N H d x)(c:RelV x u)(f:ML d=Z t):∃p:Al->Prop,PySem.W.KitX X.K u (.ι t) p/\p s.u/\u≠.Β "__main__.__loader__#opaque":=by
 cases d with
 |non=>cases f;rw[g.Α]at c;cases c;show#[_,PySem.W.kitx_none,trivial,λz=>nomatch z]
 |bl b=>cases f;rw[g.bl]at c;cases c;show#[_,PySem.W.kitx_bool,trivial,λz=>nomatch z]
 |int b=>cases f;rw[g.r]at c;let(t,rfl):=c;show#[_,PySem.W.kitx_int,trivial,λz=>nomatch z]
 |str b=>cases f;rw[g.ψ]at c;let(t,rfl):=c;show#[_,PySem.W.kitx_str,trivial,λz=>nomatch z]
 |ty n=>cases f
 |tup v=>
  cases f;let(a,w,e,q,r):=g.X;subst e;cases c;let(j,_,(o,k,m,_),_):=A.ϗ q;show#[_,PySem.W.kitx_tuple,#[o,k,m],λz=>nomatch z]
 |lst v y=>
  cases y with
  |d=>cases f
  |i _ _=>cases f
  |l=>
  cases f;let(a,w,e,q,r):=g;subst e;cases c;let(j,_,(o,n,k,m,_),_):=A.Ϩ q;show#[_,PySem.W.kitx_list,#[o,k,m],λz=>nomatch z]
@[simp]def Dv:D->O (U String)
  |.ty n=>Z [n]
  |.tup a=>tysL a
  |_=>J
where tysL:U D->O (U String)
 |[]=>Z []
 |.ty n::r=>(tysL r).j (n::·)
 |_=>J
theorem sZ{ns:U String}(h:Dv.tysL xs=Z ns):xs=ns.j D.ty:=by
 induction xs generalizing ns with
 |nil=>cases h;rfl
 |cons x r a=>cases x<;>first|cases h;done|(erw[Dv.tysL,B7]at h;let(_,e,rfl):=h;rw[a e];rfl)
@[simp]def CT:Ev
  |[x,c]=>(Dv c).L λns=>if(∀n∈ns,n∈HR)then(ML x).j λt=>.bl (ns.any λn=>MM t n)else J
  |_=>J
def bp(K:Ap):U V->Hp->VK->Prop:=λa H Q=>∃N d c x y ns t,a=[x,y]/\Az K N H d x/\Az K N H c y/\Dv c=Z ns/\(∀n∈ns,n∈HR)/\ML d=Z t/\Q (.bl (ns.any λn=>MM t n)) H
theorem bq{N:Fb}{H:Hp}:∀{ns:U String}{vs:U V},Ad K N H (ns.j D.ty) vs->vs=ns.j V.ty
 |[],_,h=>by simpa only[Dj,Ad]using h
 |b::bs,_,h=>by
  let(v,r,e,a,t):=h;subst e a;rw[bq t];rfl
theorem br:∀{ns:U String}{us:U Aa},Aq (ns.j V.ty) us->us=ns.j Value.ι
 |[],_,r=>by cases r;rfl
 |n::ns,_,r=>by
  cases r with
  |cons a b=>cases a;rw[br b];rfl
theorem bt:E2 X (.Β "isinstance") (bp X.K):=by
 intro k s L H m M Q zA r zQ;let(N,d,c,x,y,ns,t,rfl,o,l,b,f,h,q):=zQ;let(u,P,rfl,v,i):=P9 r;let(T,S,p,g):=sY zA o v h;cases c with
 |ty n=>
  cases b;rw[l.ty]at i;cases i;show PySem.W.kia_one S zA.kIn p (bj X.K t (bo h) n<|f n (by simp)) g λj=>#[.bl _,H,zA.tok j,rfl,by exists q]
 |tup m=>
  let e:=sZ b;subst e;let(a,R,e,w,dl):=l.X;subst e;cases i;let(z,A,((cls,Y,data,sl),B,C,n,E),_):=zA.ϗ w;subst C E;let G:=bq dl;subst G;let F:=br A;subst F;show PySem.W.kia_tup S zA.kIn p B (bn X.K (bo h) ns f) g λj=>#[.bl _,H,zA.tok j,rfl,q]
 |non=>cases b
 |bl _=>cases b
 |int _=>cases b
 |str _=>cases b
 |lst _=>cases b
open J in
theorem bu:Gk K (bp K) CT:=by
 intro N H j k d Q l h e q;unfold CT at e;split at e
 .next x c=>
  cases a:Dv c with|none=>rw[a]at e;cases e|some ns=>
   rw[a]at e;let(b,e):=Z0 e;let(t,f,e):=B7.mp e;cases e;let(v,w,rfl,g,i):=Paired.two' h;show#[N,x,c,v,w,ns,t,rfl,g,i,a,b,f,q _ H (Ak.ω H) HN]
 .cases e
theorem bv{M:Fb}{x:Af}{n:String}(a:Gl X x)(b:X.mg x=J)(c:Fp x=Z (.ι n))(d:x≠"__name__":=by ext)(hd:Ed x:=by ext):JE X (.ε x pos) (tD K M H0 λ_=>Z (.ty n)):=#[Mx (nE a b c (v:=.ty n) rfl d hd) λ_ _=>by erw[Aw]]
theorem td{M:Fb}{x:Af}{v:V}{d:D}(b:Gl X x)(h:∃u,X.mg x=Z u/\RelV v u)(hd:∀N H,Aw K N H d v)(a:Ed x:=by ext):JE X (.ε x pos) (tD K M H0 λ_=>Z d):=#[by
 let(u,c,r):=h;show Mx (Yf b c r a) hd]
end
section
variable{K:Ap}{M:Fb}{a b c e:Expr}{f g h:AG}
theorem vv(i:Nat){x:Af}(a:NV X i x:=by show EM):PE X (.ε x pos) (tD K M H0 λρ=>Bf ρ i):=qJ a
theorem tf(i:Nat){x:Af}(a:NV X i x:=by show EM):JE X (.ε x pos) (tD K M H0 λρ=>Bf ρ i):=#[vv i a]
theorem vp(i:Nat){x:Af}(a:NV X i x:=by show EM):PE X (.ε x pos) (tP K M H0 λρ=>A9 ρ i):=qK a
theorem ti(i:Nat){x:Af}(a:NV X i x:=by show EM):JE X (.ε x pos) (tP K M H0 λρ=>A9 ρ i):=#[vp i a]
theorem vq(i:Nat){x:Af}(a:NV X i x:=by show EM):PE X (.ε x pos) (tQ K M H0 λρ=>BV ρ i):=rQ a
theorem tm(i:Nat){x:Af}(a:NV X i x:=by show EM):JE X (.ε x pos) (tQ K M H0 λρ=>BV ρ i):=#[vq i a]
theorem va(i:Nat){x:Af}(a:NV X i x:=by show EM):PE X (.ε x pos) (Fw K M H0 λρ=>C0 ρ i):=rh a
theorem Ub(i:Nat){x:Af}(a:NV X i x:=by show EM):JE X (.ε x pos) (Fw K M H0 λρ=>C0 ρ i):=#[va i a]
theorem tu(i:Nat){x:Af}{a:AB}(b:NV X i x:=by show EM):JS X (.v0 (Z (.ε x a)) pos) (tS K M H0 λρ=>Cy (EO ρ i)):=#[aC rfl (λ_=>rfl) NZ b]
theorem tw(e:X.A.γ+64<Av)(c:JE X a (tP X.K M H0 f))(d:JE X b (tP X.K M H0 g)):JE X (.Φ a [.Eq] [b] pos) (tD X.K M H0 (Za B8 f g)):=#[have c:=c.h;let d:=d.h;NX (aT e) aV c d<|Hx _ (by ext) (by ext)]
theorem tx(e:X.A.γ+64<Av)(c:JE X a (tP X.K M H0 f))(d:JE X b (tP X.K M H0 g)):JE X (.Φ a [.Lt] [b] pos) (tD X.K M H0 (Za C9 f g)):=#[have c:=c.h;let d:=d.h;NX (T7 e) T8 c d<|Hx _ (by ext) (by ext)]
theorem tz(e:X.A.γ+64<Av)(c:JE X a (tP X.K M H0 f))(d:JE X b (tP X.K M H0 g)):JE X (.Φ a [.Gt] [b] pos) (tD X.K M H0 (Za E4 f g)):=#[have c:=c.h;let d:=d.h;NX Yx (MF _) c d<|Hx _ (by ext) (by ext)]
theorem tE(e:X.A.γ+64<Av)(c:JE X a (tP X.K M H0 f))(d:JE X b (tP X.K M H0 g))(i:Hy .In b=O':=by with_unfolding_all rfl):JE X (.Φ a [.In] [b] pos) (tD X.K M H0 (Za (D9 O') f g)):=#[have c:=c.h;let d:=d.h;NX ((aZ O' e).or oW) (a0 O') c d i]
theorem tH(e:X.A.γ+64<Av)(c:JE X a (tP X.K M H0 f))(d:JE X b (tP X.K M H0 g)):JT X (.Φ a [.Eq] [b] pos) (B4 X.K M H0 λρ=>AI (Za B8 f g ρ)):=#[have c:=c.h;let d:=d.h;Ke (aT e) aV c d<|Hx _ (by ext) (by ext)]
theorem tL(e:X.A.γ+64<Av)(c:JE X a (tP X.K M H0 f))(d:JE X b (tP X.K M H0 g)):JT X (.Φ a [.NotEq] [b] pos) (B4 X.K M H0 λρ=>AI (Za Cc f g ρ)):=#[have c:=c.h;let d:=d.h;Ke (aU e) aX c d<|Hx _ (by ext) (by ext)]
theorem tM(e:X.A.γ+64<Av)(c:JE X a (tP X.K M H0 f))(d:JE X b (tP X.K M H0 g)):JT X (.Φ a [.Lt] [b] pos) (B4 X.K M H0 λρ=>AI (Za C9 f g ρ)):=#[have c:=c.h;let d:=d.h;Ke (T7 e) T8 c d<|Hx _ (by ext) (by ext)]
theorem tN(e:X.A.γ+64<Av)(c:JE X a (tP X.K M H0 f))(d:JE X b (tP X.K M H0 g)):JT X (.Φ a [.Gt] [b] pos) (B4 X.K M H0 λρ=>AI (Za E4 f g ρ)):=#[have c:=c.h;let d:=d.h;Ke Yx (MF _) c d<|Hx _ (by ext) (by ext)]
theorem tR(e:X.A.γ+64<Av)(c:JE X a (tP X.K M H0 f))(d:JE X b (tP X.K M H0 g)):JT X (.Φ a [.GtE] [b] pos) (B4 X.K M H0 λρ=>AI (Za N9 f g ρ)):=#[have c:=c.h;let d:=d.h;Ke oV (MF _) c d<|Hx _ (by ext) (by ext)]
theorem tT(e:X.A.γ+64<Av)(c:JE X a (tP X.K M H0 f))(d:JE X b (tP X.K M H0 g))(i:Hy .NotIn b=O':=by with_unfolding_all rfl):JT X (.Φ a [.NotIn] [b] pos) (B4 X.K M H0 λρ=>AI (Za (D9 J') f g ρ)):=#[have c:=c.h;let d:=d.h;Ke ((aZ J' e).or oX) (a0 J') c d i]
@[simp]def Jm(F b:D->D->O D)(f g h:AG):AG:=λa=>(f a).L λx=>(g a).L λy=>match F x y with
  |some (.bl J')=>(h a).L λz=>b y z
  |some (.bl O')=>Z (.bl O')
  |_=>J
theorem tU{r s:R2}{F t:D->D->O D}(A:Ew K r F)(k:Ew K s t){H:Hp}{Q:VK}(q:tD K M H0 (Jm F t f g h) I H Q):Yz r s (tP K M H0 f) (tP K M H0 g) (tP K M H0 h) I H Q:=by
 let(b,d,R,e,q):=q;unfold Jm at e;cases i:f b with|none=>rw[i]at e;cases e|some x=>
  cases l:g b with|none=>rw[i,l]at e;cases e|some y=>
   rw[i,l]at e;erw[Cp]at e;apply#[b,x,R,i,λv Y j B=>#[b,y,R.st j,l,λu C c m=>?_]];let R2:=(R.st j).st c;split at e
   .next n=>
    let(z,G,e):=Ch.mp e;show A _ C v u x y _ _ R2.nh (B.δ c) m n λw E a o=>#[J',by simpa only[Aw]using o,Lk #[b,z,R2.st a,G,λX P p L=>k _ P u X y z d Q (((R2.st a).st p)).nh ((m.same a).same p) L e λN S T W=>q N S ((((j.trans c).trans a).trans p).trans T) W]]
   .next n=>
    cases e;show A _ C v u x y _ _ R2.nh (B.δ c) m n λw E a o=>#[O',by simpa only[Aw]using o,Ll<|q _ E ((j.trans c).trans a) HN]
   .cases e
theorem bw{op d:CmpOp}{r m:R2}{F n:D->D->O D}(o:Ck X (DT op) r)(e:Ck X (DT d) m)(p:Ew K r F)(i:Ew K m n)(j:JE X a (tP K M H0 f))(k:JE X b (tP K M H0 g))(l:JE X c (tP K M H0 h))(s:lastMarks [op,d] [b,c]=O':=by with_unfolding_all rfl):JE X (.Φ a [op,d] [b,c] pos) (tD K M H0 (Jm F n f g h)):=#[have j:=j.h;let k:=k.h;let l:=l.h;(o0 o e j k l s).κ λ_ _ _ q=>tU p i q]
@[simp]def ZJ:O D->O Bool
  |some .non=>Z O'
  |some (.bl b)=>Z b
  |some (.int i)=>Z (i != 0)
  |some (.str y)=>if y.a<=Ay then Z ((y.a:Int) != 0)else J
  |some (.lst a)=>Z (!a.isEmpty)
  |some (.tup a)=>Z (!a.isEmpty)
  |_=>J
theorem Ad.isEmpty{N:Fb}{H:Hp}(h:Ad K N H xs vs):vs.Υ=xs.Υ:=by
 cases xs with
 |nil=>erw[Ad]at h;subst h;rfl
 |cons x xs=>erw[Ad]at h;let(_,_,e,_):=h;subst e;rfl
theorem tV(i:JE X a (tP X.K M H0 f))(n:∀b,isTrue a X.G b=(do let v <- b;standAt a.pos;DU [v] (truthy v)):=by intro _;rfl):JT X a (B4 X.K M H0 λρ=>ZJ (f ρ)):=#[have i:=i.h;(o5 i n).κ λr H Q o=>by
  let(ρ,k,R,e,q):=o;try dsimp only at e q
  generalize c:f ρ=F at e;rcases F with _|⟨_|_|_|_|_|_|⟨_,_|_⟩⟩<;>try(cases e;done)
  .cases e;show#[ρ,_,R,c,λv d s g=>#[_,by rw[g.Α];rfl,q d s]]
  .cases e;show#[ρ,_,R,c,λv d s g=>#[_,by rw[g.bl];rfl,q d s]]
  .cases e;show#[ρ,_,R,c,λv d s g=>#[_,by rw[g.r];rfl,q d s]]
  .let(hz,e):=Z0 e;cases e;show#[ρ,_,R,c,λv d s g=>#[_,g.ψ ▸ #[hz,rfl],q d s]]
  .cases e;apply#[ρ,_,R,c,λv d s g=>#[_,?_,q d s]];let(p,j,rfl,l,m):=g.X;show .σ #[j,l,by rw[m.Υ]]
  .cases e;apply#[ρ,_,R,c,λv d s g=>#[_,?_,q d s]];let(p,j,rfl,l,m):=g;show .Q #[j,l,by rw[m.Υ]]]
@[simp]def Zu:D->A7
  |.lst a=>Z a
  |.tup a=>Z a
  |.str x=>Z (x.Ϝ.B.j λc=>D.ψ #[(T' [c])])
  |_=>J
theorem tW{l:Expr}(b:JE X l (tQ X.K M H0 f)):JI X tg l (tI X.K M H0 λρ=>(f ρ).L Zu):=#[have b:=b.h;λa s c H g p m=>by
 let(ρ,j,R,e,q):=m;let(d,k,e):=Ch.mp e;cases d with
 |lst n o=>
  cases o with
  |d=>cases e
  |i _ _=>cases e
  |l=>show rT b a s c H g p #[ρ,j,R,by dsimp only;rw[k];show e,q]
 |tup n=>show rV b a s c H g p #[ρ,j,R,by dsimp only;rw[k];show e,q]
 |str x=>show rW b a s c H g p #[ρ,j,R,by dsimp only;rw[k];show e,q]
 |_=>cases e]
@[simp]def MO(i:Nat)(o:A7)(ρ:VE):DB:=match EO ρ i,o with
  |some a,Z b=>if a.a+b.a<=Ay then .U (ρ.ν i (.Κ (a++b)))else .Ω
  |_,_=>.Ω
theorem tY{fl:VE->A7}{i:Nat}{x:Af}{c:AB}(g:JE X e (tF K M H0 fl))(y:NV X i x:=by show EM)(z:EJ (.Λ (.α (.ε x c) "extend" apos) [e] [] cpos) J pos.Ϯ X.G=Am O':=by rfl)(hz:BA X x c "extend" apos e cpos:=by show aw):JS X (.Expr (.Λ (.α (.ε x c) "extend" apos) [e] [] cpos) pos) (tS K M H0 λρ=>MO i (fl ρ) ρ):=#[have g:=g.h;(PX (G9 Lq PySem.F.slot_list_extend PySem.F.type_list_extend qi (Ha y) (Z2 g Ba hz.s) hz.b hz.f hz.l hz.s hz.p) z).κ λG Q H A=>by
  let(ρ,R,q):=A;cases d:EO ρ i with|none=>erw[d,MO]at q;show BX q|some B=>
   cases j:fl ρ with|none=>erw[d,j,MO]at q;show BX q|some k=>
    erw[d,j,MO]at q;split at q
    .next hz=>
     let(a,m,t,P,L,u,v):=R.ϕ i _<|NZ d;apply⟨.ref a,(AE t),.inl ⟨rfl,m,.inl<|.inl u⟩,ρ,k,R,j,λp n N s C o w=>?_⟩;let(R2,E):=(R.st s).chg (ys:=B++k) (ws:=m++n) (NZ d) (AE t) ((v.δ s).Ι<|w.nw λb r=>.Q<|.inl r);show⟨a,p,m,n,rfl,rfl,s _ _ u,o,by rw[<- v.length,<- (w.nw λb r=>.Q<|.Q r).a];show hz,q _ _ R2<|(Step.ώ s).E E⟩
    .show BX q]
end
end Internal
variable{xs:U Internal.D}{ρ:Internal.VE}{fa:Internal.DK}{fl k':Internal.Kd}{fo:Internal.VE->O Internal.Sl}{lo:Internal.VE->O (O Int)}{fx:Internal.VE->O (Internal.D×Internal.VE)}{ss:U Internal.Sl}
namespace Internal
theorem bx{e:PySem.Expr}{t:TT}(h:JW X e t):JT X e t:=#[h.h.pt]
open PyProof.Rows PySem PySem.Spec
section
variable{K:Ap}
def QD(i:Nat)(b c:O D)(ρ:VE):DB:=match EO ρ i,b,c with
 |some a,Z (.int k),Z d=>match D7 a.a k with
  |some j=>.U (ρ.ν i (.Κ (a.ν j d)))
  |none=>.Ω
 |_,_,_=>.Ω
open J in
theorem tZ{M:Fb}{i:Nat}{x:Af}{b c:AB}{g e:Expr}{fi f:AG}(n:JE X g (tP K M H0 fi))(o:JE X e (tD K M H0 f))(C:NV X i x:=by show EM) (E:∀v,assign (.μ (.ε x b) g c) X.G v=(do
   let m <- DU [v] (Ar (.ε x b) X.G);let p <- DU [v,m] (Ar g X.G);standAt c
   DU [v,m,p] (setItem m p v)
   release [v,m,p] []):=by intro _;rfl) (G:swapsWithSole [.μ (.ε x b) g c] e pos.Ϯ X.G=Am O':=by rfl) (r:swappedStores [.μ (.ε x b) g c] e X.G=Am J:=by rfl) (W:(Gz [.μ (.ε x b) g c] X.G).j (·.2)=[assign (.μ (.ε x b) g c) X.G]:=by rfl):JS X (.Ϭ [.μ (.ε x b) g c] e pos) (tS K M H0 λρ=>QD i (fi ρ) (f ρ) ρ):=#[have n:=n.h;let o:=o.h;(P2 o (P1 (Ha C) n Y0 E) G r W).κ λD' I H F=>by
 let(ρ,R,q):=F;try dsimp only at q
 unfold QD at q;split at q
 .next L k d u s N=>
  split at q
  .next j P=>
   apply#[ρ,d,R,N,λv H1 y Q=>?_];let t:=R.st y;let(a,z,A,z1,z2,T,B):=t.ϕ i _<|NZ u;apply⟨.ref a,(AE A),ρ,.int k,t,s,λw H2 l r=>?_⟩;let(S,Y):=(t.st l).chg (ys:=L.ν j d) (ws:=z.ν j v) (NZ u) (AE A) (Ad.ν j (B.δ l)<|Q.δ l);show⟨a,z,k,j,rfl,r.r,l _ _ T,B.a ▸ P,q _ _ S<|(Step.ώ<|y.E l).E Y⟩
  .show BX q
 .show BX q]
def Uc(K:Ap)(r:V->U V->Hp->VK->Prop)(F:Af->Ev):Prop:=∀(N:Fb)(H:Hp)(z:Af)(c:U V)(e:U D)(d:D)(Q:VK),(∀a,N a->H a≠J)->Paired (Az K N H) e c->F z e=Z d ->
 (∀v b,Ak H b->Aw K N b d v->Q v b)->r (.ψ z) c H Q
@[simp]def Lx(F:Af->Ev)(f:AG)(b:DK):AG:=λa=>match f a with
  |some (.str z)=>((b a).L GG).L (F z)
  |_=>J
section
variable{M:Fb}{e:Expr}{f:AG}{name:Af}{id:String}{r:V->U V->Hp->VK->Prop}{F:Af->Ev}
open J in
theorem bz(s:PlainAttrs "str")(slot:Slot "str" name id)(i:typeOf (.Β id)=Am (.ι "method_descriptor"))(t:Je X id r)(u:Uc X.K r F)(j:JE X o (tP X.K M H0 f))(k:JA X (e::es) (CP X.K M H0 fa))(b:FQ o name X.G (Ar o X.G)=Ar o X.G:=by rfl) (g:((AD cpos (AJ (e::es) X.G)).ϭ (λx=>!x.1)&&(GB cpos (GC [] X.G)).ϭ (λx=>x.1.Ζ) && decide ((e::es).a+([]:U Ei).a+(if([]:U Ei).Υ then 0 else 1)<30))=J':=by rfl) (c:(apos.ϴ==cpos.Ϯ)=J':=by rfl) (y:AJ (e::es) X.G=(O',Ar e X.G)::AJ es X.G:=by show D8 rfl) (a:(AD cpos (AJ es X.G)).any (·.1)=O':=by rfl):JE X (.Λ (.α o name apos) (e::es) [] cpos) (tD X.K M H0 (Lx F f fa)):=#[have j:=j.h;let k:=k.h;(G9 s slot i t j k b g c y a).κ λW H Q A=>by
 let(l,d,R,ex,q):=A;unfold Lx at ex;split at ex
 .next z hz=>
  cases m:fa l with|none=>rw[m]at ex;cases ex|some B=>
   rw[m]at ex;let(C,E,ex):=Ch.mp ex;apply#[l,.ψ z,R,hz,λv Y n G=>?_];rw[G.ψ];show#[rfl,l,B,R.st n,m,λzA P p L=>u _ P z zA C d Q ((R.st n).st p).nh (Qp L E) ex λw N S T=>q w N ((n.E p).E S) T]
 .cases ex]
end
def Km:U D->O (U Af)
 |[]=>Z []
 |.str b::r=>(Km r).j (b::·)
 |_=>J
theorem t0{bs:U Af}(h:Km xs=Z bs):xs=bs.j D.ψ:=by
 induction xs generalizing bs with
 |nil=>cases h;rfl
 |cons x r a=>cases x<;>first|cases h;done|(erw[Km,B7]at h;let(_,e,rfl):=h;rw[a e];rfl)
@[simp]theorem bA:∀(ns:U Af),Km (ns.j D.ψ)=Z ns
  |[]=>rfl
  |n::ns=>by erw[AU,Km,bA ns];rfl
theorem bB{N:Fb}{H:Hp}:∀{bs:U Af}{vs:U V},Ad K N H (bs.j D.ψ) vs->vs=bs.j V.ψ
 |[],_,h=>by simpa only[Dj,Ad]using h
 |b::bs,_,h=>by
  let(v,r,e,a,t):=h;subst e a;rw[bB t];rfl
@[simp]def QE(z:Af):Ev
  |[.lst b]=>(Km b).L λa=>if(a.j (·.a)).sum+a.a*z.a<=16777216 then Z (.ψ (Txt.join z a))else J
  |_=>J
open J in
theorem t5:Uc K (ag K) QE:=by
 intro N H z j k d Q l h e q;unfold QE at e;split at e
 .next g=>
  cases b:Km g with|none=>rw[b]at e;cases e|some i=>
   rw[b]at e;let(hz,e):=Z0 e;cases e;let(v,rfl,a,m,rfl,c,f):=Paired.one' h;rw[t0 b]at f;rw[bB f]at c;show#[z,a,i,rfl,rfl,c,hz,q _ H (Ak.ω H) N8]
 .cases e
@[simp]def Oi(z:Af):Ev
  |[.str y]=>Z (.r (Txt.find z y))
  |_=>J
open J in
theorem t6:Uc K af Oi:=by
 intro N H z b c d Q f h e q;unfold Oi at e;split at e
 .next y=>
  cases e;let(v,rfl,a):=Paired.one' h;show#[z,y,rfl,by rw[a.ψ],q _ H (Ak.ω H) F0]
 .cases e
end
section
variable{H:Hp}{s:Ab}{h':Al}
theorem Inv.turnedL{f:U Ac}(A:Inv X pins I H s)(g:∀b∈f,GA X pins H b)(k:∀b o,b∉f->s.u.R b=Z o->h'.R b=Z o):Inv X pins I H {s with heap:=h' }:=by
 let d:∀b u,H b=Z u->b∉f:=λb u e z=>by rw[(g b z).1]at e;cases e
 apply A.Τ (g':=s.gens) (d':=s.drawn) (t':=s.Γ) (ch:=f) (λb h=>?_) (λb o _ _ a e _=>k b o a e) (λb o _ _ a e _=>#[o.slots,k b o a e]) (λ_ _ _ _ n=>n)
  (λb o a e=>#[o,k b o a e]) (λ_ _ e=>e) (λ_ _ _ e=>e) (λb G e=>#[(T' []),by rw[e];simp]) (λm i=>?_) (λb u e=>?_) A.bare
 .let(_,j,_,l,p,t):=g b h;show#[l,j,p,t]
 .let(o,w,x,y,r):=i;show#[o,w,x,k _ o (λz=>(g _ z).2.1 rfl) y,r]
 .refine(A.Ϫ b u e).stay (λc v a q=>k c v ?_ q) (λ_ q=>q) λ_ _ q=>q;rcases a with z|z
  .rw[z];show d b u e
  .show d c _ z
theorem Inv.yielded{g:U Ac}{p:Ac}(K:Inv X pins I H s)(i:∀b∈g,GA X pins H b)(k:∀b o,b∉g->s.u.R b=Z o->h'.R b=Z o)(j:s.u.J.o<=p) (new:Bc X.β X.w (AK H p (.X vs)) h' p (.X vs)):Inv X pins I (AK H p (.X vs)) {s with heap:=h' }:=by
 let d:∀b u,H b=Z u->b∉g:=λb u e z=>by rw[(i b z).1]at e;cases e
 let f:H p=J:=K.Ϫ.Ψ j;apply K.Τ (g':=s.gens) (d':=s.drawn) (t':=s.Γ) (ch:=g) (λb h=>?_) (λb o _ _ a e _=>k b o a e) (λb o _ _ a e _=>#[o.slots,k b o a e]) (λb o _ e n=>?_)
  (λb o a e=>#[o,k b o a e]) (λb l e=>?_) (λb o u e=>?_) (λb F e=>#[(T' []),?_]) (λm t=>?_) (λb u e=>?_) K.bare
 .let(_,x,_,y,A,B):=i b h;show#[y,x,A,B]
 .rw[Zl<|Cf<|B3 (BN e) j];show n
 .rw[Zl<|Z6 e f];show e
 .rw[Zl<|Z6 e f];show e
 .rw[Zl<|Z6 e f,e];simp
 .let(o,C,E,G,r):=t;show#[o,C,E,k _ o (λz=>(i _ z).2.1 rfl) G,r]
 .by_cases h:b=p
  .subst h;rw[ZT]at e;cases e;show new
  .rw[Zl h]at e;refine(K.Ϫ b u e).stay (λc v a q=>k c v ?_ q) (λc q=>Zl (Z6 q f) ▸ q) λc l q=>Zl (Z6 q f) ▸ q;rcases a with z|z
   .rw[z];show d b u e
   .show d c _ z
end
theorem t7:Fp "enumerate"=Z (.ι "enumerate"):=by symm
def Gp:Nat->U D->U D
 |_,[]=>[]
 |k,d::a=>.X [.r k,d]::Gp (k+1) a
theorem Ud:∀(xs:U D)(k:Nat),(Gp k xs).a=xs.a
 |[],_=>rfl
 |_::xs,k=>by simp[Gp,Ud xs]
theorem bC:∀(xs:U D)(k i:Nat),(Gp k xs)[i]?=(xs[i]?).j λd=>D.X [.r ((k+i:Nat):Int),d]
 |[],_,_=>by simp[Gp]
 |x::xs,k,0=>by simp[Gp]
 |x::xs,k,i+1=>by
  erw[Gp,Ej,bC xs];rw[show k+1+i=k+(i+1) by lia]
abbrev T3:=KT×V×V
def Ea:U T3->U V
 |[]=>[]
 |t::r=>t.2.1::t.2.2::Ea r
def Z9:U T3->KT->O V
 |[],_=>J
 |t::r,k=>if t.1=k then Z t.2.2 else Z9 r k
def Ix:U T3->KT->V->U T3
 |[],_,_=>[]
 |t::r,k,v=>(if t.1=k then(t.1,t.2.1,v)else t)::Ix r k v
def Ez(tr:U T3)(k:KT)(kv v:V):U T3:=if(Z9 tr k).Ζ=J' then Ix tr k v else tr++[(k,kv,v)]
theorem bD(k:KT)(v:V):∀tr:U T3,(Ix tr k v).j (·.1)=tr.j (·.1)
 |[]=>rfl
 |t::r=>by
  erw[Ix,AU,bD k v r];split<;>rfl
theorem bE{k:KT}:∀{tr:U T3},Z9 tr k=J->k∉tr.j (·.1)
 |[],_=>by simp
 |t::r,h=>by
  unfold Z9 at h;split at h
  .cases h
  .next e=>
   erw[AU,Bx,not_or];show#[λz=>e z.τ,bE h]
theorem MP{tr:U T3}{k:KT}{kv v:V}(h:(tr.j (·.1)).η):((Ez tr k kv v).j (·.1)).η:=by
 unfold Ez;split
 .rw[bD];show h
 .next e=>
  rw[Ek,Iy];apply#[h,by simp,λa c b d=>?_];let f:Z9 tr k=J:=by
   simp_all
  grind [bE]
theorem bF(k:KT)(v:V):∀tr:U T3,(Ix tr k v).a=tr.a
 |[]=>rfl
 |t::r=>by simp[Ix,bF k v r]
theorem bG(tr:U T3)(k:KT)(kv v:V):(Ez tr k kv v).a<=tr.a+1:=by
 unfold Ez;split
 .rw[bF];show HS tr.a 1
 .simp
theorem Iz{a:At}(h:RelV (FN a) u):JY a u=J':=by
 cases a with
 |non=>cases h;rfl
 |int i=>let(t,rfl):=h;show m7 i t
 |str x=>let(t,rfl):=h;show m9 x t
theorem t8{a:At}(h:JY a u=J'):RelV (FN a) u:=by
 rcases JZ h with⟨rfl,rfl⟩|⟨i,t,rfl,rfl⟩|⟨x,t,rfl,rfl⟩
 .rfl
 .show#[t,rfl]
 .show#[t,rfl]
abbrev RA:U T3->U (At×Aa)->Prop:=Paired λt u=>t.1=.at u.1/\t.2.1=FN u.1/\RelV t.2.2 u.2
theorem bH{P:AM}{w:Aj}:∀{tr:U T3}{es:U Hu},K1 w (tr.j (·.1)) (Ea tr) es->(∀t∈tr,∃a,t.1=KT.at a)->∃us,RA tr us/\Pairs (ZF P w) es us/\∀e∈es,∃k,(ZF P w).is k e.key=J'/\e.hash=(ZF P w).hash k
 |[],es,h,_=>by
  let(_,rfl):=h;show#[[],.ϔ,.ϔ,λ_ z=>nomatch z]
 |t::r,es,h,l=>by
  let(kv,v,q,e,n,c,o,f,p,g,d,s):=h;let(a,m):=l t Bh;erw[Ea,List.cons.injEq]at c;let(c,i,b):=c;subst c i o b;dsimp only at g d;rw[m]at g d;let(us,u,x,y):=bH (P:=P) s λt A=>l t<|Bl _ A;rw[d]at f;apply⟨(a,e.val)::us,.cons ⟨m,d,p⟩ u,.cons (Iz f) rfl x,λB j=>?_⟩;rcases Bx.mp j with rfl|j
  .show#[a,Iz f,g]
  .show y B j
theorem t9{P:AM}{w:Aj}{tr:U T3}{us:U (At×Aa)}{es:U Hu}(h:RA tr us)(g:Pairs (ZF P w) es us)(a:∀e∈es,∃k,(ZF P w).is k e.key=J'/\e.hash=(ZF P w).hash k):K1 w (tr.j (·.1)) (Ea tr) es:=by
 induction h generalizing es with|nil=>cases g;show#[rfl,rfl]|@cons t _ r _ h _ d=>
  let(b,c,f):=h;cases g with
  |@cons e _ es _ p1 i j=>
   apply#[t.2.1,t.2.2,Ea r,e,es,rfl,rfl,?_,?_,?_,?_,d j λe l=>a e<|Bl _ l]
   .rw[c];show t8 p1
   .rw[i];show f
   .let(k,m,n):=a e Bh;have:=(ZF P w).inj _ _ _ m p1;subst this;dsimp only;rw[b];show n
   .dsimp only;rw[b];show c
theorem RA.val{tr:U T3}{us:U (At×Aa)}(h:RA tr us)(a:At):CJ (Z9 tr (.at a)) (valueAt us a):=by
 induction h with|nil=>show HB|@cons t u _ _ h _ b=>
  unfold Z9 valueAt;rw[h.1,List.find?_cons];by_cases e:u.1=a
  .rw[if_pos (by rw[e])];erw[e,decide_true];show h.2.2
  .rw[if_neg<|λz=>e<|KT.at.inj z];erw[e,decide_false];show b
theorem CJ.isS:∀{o:O V}{u:O Aa},CJ o u->o.Ζ=u.Ζ
 |some _,Z _,_=>rfl
 |none,J,_=>rfl
 |some _,J,h=>h.Η
 |none,Z _,h=>h.Η
theorem RA.rep{a:At}{v:V}(d:RelV v u){tr:U T3}{us:U (At×Aa)}(h:RA tr us):RA (Ix tr (.at a) v) (us.j λkv=>if kv.1=a then(kv.1,u)else kv):=by
 induction h with|nil=>show .ϔ|@cons t w _ _ h _ f=>
  apply .Θ ?_ f;let(b,c,g):=h;dsimp only;by_cases e:w.1=a
  .rw[if_pos e,if_pos<|b.E<|congrArg _ e];show⟨b,c,d⟩
  .rw[if_neg e,if_neg λz=>e<|KT.at.inj<|b.τ.E z];show⟨b,c,g⟩
theorem Paired.snoc'{a b:Type}{F:a->b->Prop}{x:a}{y:b}(h:F x y){l:U a}{m:U b}(t:Paired F l m):Paired F (l++[x]) (m++[y]):=t.snoc h
theorem ua{us:U (At×Aa)}{a:At}:(us.any λkv=>decide (kv.1=a))=(valueAt us a).Ζ:=by
 unfold valueAt;grind
theorem RA.put{tr:U T3}{us:U (At×Aa)}{a:At}{v:V}(h:RA tr us)(b:RelV v u):RA (Ez tr (.at a) (FN a) v) (stored us a u):=by
 unfold Ez stored;rw[ua,(h.y a).isS];by_cases e:(valueAt us a).Ζ=J'
 .rw[if_pos e,if_pos e];show h.rep b
 .rw[if_neg e,if_neg e];show Paired.snoc' #[rfl,rfl,b] h
theorem RA.fst{tr:U T3}{us:U (At×Aa)}(h:RA tr us):tr.j (·.1)=(us.j (·.1)).j KT.at:=by
 induction h with
 |nil=>rfl
 |cons h _ a=>rw[AU,AU,AU,h.1,a]
abbrev RT:U T3->U (U At×Ac×Aa)->Prop:=Paired λt u=>t.1=.X u.1/\t.2.1=.I u.2.1/\RelV t.2.2 u.2.2
theorem bI{P:AM}{w:Aj}:∀{tr:U T3}{es:U Hu},K1 w (tr.j (·.1)) (Ea tr) es->(∀t∈tr,∃l,t.1=KT.X l)->∃us,RT tr us/\es=us.j (entryOfKey (BZ (ZF P w)))
 |[],es,h,_=>by
  let(_,rfl):=h;show#[[],.ϔ,rfl]
 |t::r,es,h,f=>by
  let(kv,v,q,(k,m,n),o,b,s,g,u,c,d,x):=h;let(l,i):=f t Bh;erw[Ea,List.cons.injEq]at b;let(b,e,a):=b;subst b e s a;dsimp only at c d;rw[i]at c d;let(us,y,z):=bI (P:=P) x λt A=>f t<|Bl _ A;let(p,j):=(d:∃p,t.2.1=.I p);rw[j]at g;cases(g:m=DJ p);apply#[(l,p,n)::us,.Θ #[i,j,u] y,?_];rw[AU,<- z];have:k=(KT.X l).hash w:=c;rw[this];rfl
theorem ub{P:AM}{w:Aj}{tr:U T3}(h:RT tr us):K1 w (tr.j (·.1)) (Ea tr) (us.j (entryOfKey (BZ (ZF P w)))):=by
 induction h with|nil=>show#[rfl,rfl]|@cons t _ r _ h _ a=>
  apply#[t.2.1,t.2.2,Ea r,_,_,rfl,rfl,?_,h.2.2,?_,?_,a]
  .rw[h.2.1];rfl
  .dsimp only;rw[h.1];rfl
  .dsimp only;rw[h.1];show#[_,h.2.1]
theorem RT.val{tr:U T3}(h:RT tr us)(l:U At):CJ (Z9 tr (.X l)) ((atKey us l).j (·.2)):=by
 induction h with|nil=>show HB|@cons t u _ _ h _ a=>
  unfold Z9 atKey;rw[h.1,List.find?_cons];by_cases e:u.1=l
  .rw[if_pos (by rw[e])];erw[e,decide_true];show h.2.2
  .rw[if_neg<|λz=>e<|KT.X.inj z];erw[e,decide_false];show a
theorem RT.rep{l:U At}{v:V}(c:RelV v u){tr:U T3}(h:RT tr us):RT (Ix tr (.X l) v) (us.j (putAt l u)):=by
 induction h with|nil=>show .ϔ|@cons t w _ _ h _ d=>
  apply .Θ ?_ d;let(a,b,f):=h;unfold putAt;by_cases e:w.1=l
  .rw[if_pos e,if_pos<|a.E<|congrArg _ e];show⟨a,b,c⟩
  .rw[if_neg e,if_neg λz=>e<|KT.X.inj<|a.τ.E z];show⟨a,b,f⟩
theorem RT.put{tr:U T3}{l:U At}{p:Ac}{v:V}(h:RT tr us)(a:RelV v u):RT (Ez tr (.X l) (.I p) v) (storedH us l p u):=by
 unfold Ez storedH;let b:=(h.y l).isS;rw[Option.isSome_map]at b;rw[b];by_cases e:(atKey us l).Ζ=J'
 .rw[if_pos e,if_pos e];show h.rep a
 .rw[if_neg e,if_neg e];show Paired.snoc' #[rfl,rfl,a] h
theorem RT.fst{tr:U T3}(h:RT tr us):tr.j (·.1)=(us.j (·.1)).j KT.X:=by
 induction h with
 |nil=>rfl
 |cons h _ a=>rw[AU,AU,AU,h.1,a]
theorem Ue{c d:Type}{f:c->d}(e:∀a b,f a=f b->a=b):∀{l:U c},(l.j f).η->l.η
 |[],_=>List.nodup_nil
 |a::l,h=>by
  rw[AU,Eu]at h;rw[Eu];show#[λz=>h.1<|Bm.ϡ ⟨a,z,rfl⟩,Ue e h.2]
def BJ(K:Ap)(H:Hp):KT->V->Prop
 |.at a,v=>v=FN a
 |.tup l,v=>∃p,v=.I p/\Cg K H p (l.j FN)
theorem bJ{P:AM}{w:Aj}:∀{ks:U At}{us:U Aa},Aq (ks.j FN) us->ItemsAre (ZF P w) ks us
 |[],_,r=>by rw[Dj]at r;cases r;show .ϔ
 |k::ks,_,r=>by
  cases r with
  |cons h t=>show .Θ (Iz h)<|bJ t
def HU:KT->U T3->Prop
 |.at _,tr=>∀t∈tr,∃a,t.1=KT.at a
 |.tup _,tr=>∀t∈tr,∃l,t.1=KT.X l
def C2(K:Ap)(H:Hp)(a:Ac)(tr:U T3):Prop:=Rd H a (.dct (tr.j (·.1)) (Ea tr))/\∀t∈tr,BJ K H t.1 t.2.1
section
variable{H:Hp}{s:Ab}{p:Ac}{y v:V}{r:Aa}{o:O V}{A:Ag}{tr:U T3}{k:KT}
theorem Jn{l:U At}(e:Inv X pins I H s)(h:Cg X.K H p (l.j FN)):(BZ (ZF X.β X.w)).is s.u l p:=by
 let(a,r,(o,b,c,n,d),_):=e.ϗ h;show#[o,a.C,n,b,c,d,by exists bJ r]
theorem Oj(q:Inv X pins I H s)(h:C2 X.K H a tr)(c:∀t∈tr,∃a,t.1=KT.at a):tr.a<=Ay/\(a==Hv)=O'/\(tr.j (·.1)).η/\∃us,RA tr us/\s.u.DictOf (ZF X.β X.w) a us:=by
 let(z,d,nd,o,f,g,i,j,k,l):=h.1.ok q.Ϫ;let(us,b,m,n):=bH (P:=X.β) l c;apply#[by simpa using z,d,nd,us,b,o,f,g,i,j,k,λe p=>n e (by exists p),m,?_];rw[b.fst]at nd;show Ue (λ_ _ z=>KT.at.inj z) nd
theorem Ly(L:Inv X pins I H s)(h:C2 X.K H a tr)(j:∀t∈tr,∃l,t.1=KT.X l):tr.a<=Ay/\(a==Hv)=O'/\(tr.j (·.1)).η/\∃us,RT tr us/\s.u.϶ (BZ (ZF X.β X.w)) a us:=by
 let(z,k,nd,o,n,d,r,v,y,A):=h.1.ok L.Ϫ;let(us,f,B):=bI (P:=X.β) A j;let c:=nd;rw[f.fst]at c;apply#[by simpa using z,k,nd,us,f,o,n,d,r,v,y,B,λx b=>?_,Ue (λ_ _ z=>KT.tup.inj z) c];let all:∀{l:U T3} {m:U (U At×Ac×Aa)},RT l m->(∀t∈l,BJ X.K H t.1 t.2.1)->∀x∈m,(BZ<|ZF X.β X.w).is s.u x.1 x.2.1:=by
  intro l m q;induction q with|nil=>intro _ x b;show nomatch b|@cons t u F us g tl C=>
   intro i x b;rcases Bx.mp b with e|b
   .subst e;have:=i t Bh;rw[g.1,g.2.1]at this;let(p,d,E):=this;cases d;show Jn L E
   .show C (λt G=>i t<|Bl _ G) x b
 show all f h.2 x b
theorem CJ.to:∀{v:V}{o:O Aa},CJ (Z v) o->∃w,o=Z w/\RelV v w
 |_,Z w,h=>#[w,rfl,h]
 |_,J,h=>h.Η
theorem ud{Q:AR}(t:A.γ+1<Av)(F:Inv X pins I H s)(h:C2 X.K H a tr)(j:HU k tr)(m:BJ X.K H k y)(n:RelV y u)(o:Z9 tr k=Z v)(q:∀d r,Inv X pins I H r->RelV v d->Q d r):wpAny (Ae X.β X.w) A (getItem (.I a) u) Q E s:=by
 cases k with
 | «at» b=>
  cases m;let(z,hd,nd,x,rel,f):=Oj F h j;let e:=rel.y b;rw[o]at e;let(d,g,c):=e.to;show wpAny_getItem_of (knd:=ZF X.β X.w) (Iz n) f.mapOf g (q d _ (F.tok _) c)
 |tup l=>
  let(p,rfl,C):=m;cases(show u=DJ p from n);let(z,hd,nd,x,rel,f):=Ly F h j;let e:=rel.y l;rw[o]at e;let(d,g,c):=e.to;let(B,G,i):=B7.mp g;apply wpAny_getItem_heap (Lz t) (Jn F C) f G ?_;rw[i];show q d _ (F.tok _) c
theorem bK(c:Bool){Q:AR}(g:A.γ+1<Av)(f:Inv X pins I H s)(h:C2 X.K H a tr)(i:HU k tr)(j:BJ X.K H k y)(e:RelV y u)(q:∀m,Inv X pins I H m->Q (.ϥ (bif c then !(Z9 tr k).Ζ else(Z9 tr k).Ζ)) m):wpAny (Ae X.β X.w) A (DT (bif c then .NotIn else .In) u (.I a)) Q E s:=by
 cases k with
 | «at» b=>
  cases j;let(z,hd,nd,o,rel,d):=Oj f h i;rw[(rel.y b).isS]at q;cases c
  .show wpAny_in_of (knd:=ZF X.β X.w) (Iz e) hd d.mapOf (q _<|f.tok _)
  .show wpAny_notIn_of (knd:=ZF X.β X.w) (Iz e) hd d.mapOf (q _<|f.tok _)
 |tup l=>
  let(p,rfl,n):=j;cases(show u=DJ p from e);let(z,hd,nd,o,rel,d):=Ly f h i;rw[(rel.y l).isS,Option.isSome_map]at q;cases c
  .show wpAny_in_heap (Lz g) (Jn f n) hd d<|q _<|f.tok _
  .show wpAny_notIn_heap (Lz g) (Jn f n) hd d<|q _<|f.tok _
theorem LB{h':Al}{c:HO}(i:Inv X pins I H s)(d:ND (H a))(f:Ee a s.u h')(g:∃q,h'.R a=Z q)(new:Bc X.β X.w (AK H a c) h' a c):Inv X pins I (AK H a c) {s with heap:=h',toks:=t' }:=i.write (x:=a) (e:=a) d (.Q rfl) (λb q h z=>(f.2 b h).E z) g new
def DY(tr:U T3):HO:=.dct (tr.j (·.1)) (Ea tr)
theorem Uf{P:AM}{w:Aj}{h':Al}{us:U (At×Aa)}(z:tr.a<=Ay)(hd:(a==Hv)=O')(nd:(tr.j (·.1)).η)(rel:RA tr us)(b:h'.DictOf (ZF P w) a us):Bc P w H' h' a (DY tr):=by
 let(o,c,d,f,g,h,i,j,l):=b;show#[by simpa using z,hd,nd,o,c,d,f,g,h,t9 rel j λe k=>i e (by exists k)]
theorem QF{P:AM}{w:Aj}{h':Al}(z:tr.a<=Ay)(hd:(a==Hv)=O')(nd:(tr.j (·.1)).η)(rel:RT tr us)(b:h'.϶ (BZ (ZF P w)) a us):Bc P w H' h' a (DY tr):=by
 let(o,c,d,e,f,g,h,i,j):=b;apply#[by simpa using z,hd,nd,o,c,d,e,f,g,?_];rw[h];show ub rel
theorem bL(b:Bool)(C:A.γ+1<Av)(B:Inv X pins I H s)(e:H a=Z (DY tr))(f:∀t∈tr,BJ X.K H t.1 t.2.1)(G:HU k tr)(i:BJ X.K H k y)(o:RelV y u)(n:RelV v r)(M:tr.a<Ay) (q:∀h' t',Inv X pins I (AK H a (DY (Ez tr k y v))) {s with heap:=h',toks:=t' }->Ee a s.u h'->Q () {s with heap:=h',toks:=t' }):wpAny (Ae X.β X.w) (bif b then A.in1 else A) (bif b then dictSet a u r else setItem (.I a) u r) Q E s:=by
 let h:(Ez tr k y v).a<=Ay:=by have:=bG tr k y v;lia
 cases k with
 | «at» c=>
  cases i;let(z,hd,nd,x,rel,m):=Oj B #[.Q e,f] G;let hz:x.a<=Ay:=G7 rel ▸ z;cases b
  .show wpAny_setItem_pairs (knd:=ZF X.β X.w) (hsz:=hz) (Iz o) m λh' d g=>q _ _ (LB B (e ▸ HB) g (let⟨q,_,_,j,_⟩:=d;#[q,j]) (Uf h hd (MP nd) (rel.put n) d)) g
  .show wpAny_dictSet_pairs (knd:=ZF X.β X.w) (hsz:=hz) (Iz o) m λh' d g=>q _ _ (LB B (e ▸ HB) g (let⟨q,_,_,j,_⟩:=d;#[q,j]) (Uf h hd (MP nd) (rel.put n) d)) g
 |tup l=>
  let(p,rfl,L):=i;cases(show u=DJ p from o);let(z,hd,nd,x,rel,m):=Ly B #[.Q e,f] G;let hz:x.a<=Ay:=G7 rel ▸ z;cases b
  .show wpAny_setItem_heap (hsz:=hz) (Lz C) (Jn B L) m λh' d g=>q _ _ (LB B (e ▸ HB) g (let⟨q,_,_,j,_⟩:=d;#[q,j]) (QF h hd (MP nd) (rel.put n) d)) g
  .show wpAny_dictSet_heap (hsz:=hz) (Lz C) (Jn B L) m λh' d g=>q _ _ (LB B (e ▸ HB) g (let⟨q,_,_,j,_⟩:=d;#[q,j]) (QF h hd (MP nd) (rel.put n) d)) g
end
end Internal
namespace PySem
section
variable{prog:AM}{w:Aj}{K:Type}[DecidableEq K]{knd:HeapKind prog w K}{A:Ag}{s:Ab}
theorem ue{d:Ac}{xs:U (K×Ac×Aa)}{k:K}{v:Aa}{Q:AR}(l:knd.room A)(b:knd.is s.u k a)(r:s.u.϶ knd d xs)(hsz:xs.a<=Ay)
  (t:∀p,atKey xs k=Z p->Q p.2 {s with toks:=s.Γ+knd.draws k})
  (u:atKey xs k=J->∀h',h'.϶ knd d (storedH xs k a v)->Ee d s.u h'->Q v {s with heap:=h',toks:=s.Γ+knd.draws k}):
  wpAny (Ae prog w) A (dictSetDefault d (.I a) v) Q E s:=by
 let(o,B,y,f,z,hd,i,h,m):=r
 unfold dictSetDefault
 try with_reducible apply F9 ?_
 apply Ao (knd.pyHash l b ?_)
 apply Ao (wpAny_dictFind_heap (s:={s with toks:=s.Γ+knd.draws k}) l b f hd i h m ?_ ?_)
 .intro c
  let n:k∉xs.j (·.1):=not_mem_keys_of_get c
  apply Ao (Gb (Ao (wpAny_updateDictKeys (hz:=by have e:=size_of_entries i;lia) (s:={s with toks:=s.Γ+knd.draws k}) f hd (AT (u (QG c) _ #[_,_,y+1,Qf _ f (Obj.isFreed_of_dict (Ug hd _)),
   z.mapDictKeys _,Ug hd _,?_,?_,?_] (Kn ..))))))
  .rw[storedH_new (QG c)]
   simp[i,entryOfKey]
  .rw[storedH_new (QG c)]
   intro x g
   rcases Cn.mp g with g|g
   .show knd.keeps (h x g) f hd (Kn ..)
   .erw[Ca]at g
    subst g
    show knd.keeps b f hd (Kn ..)
  .rw[storedH_new (QG c)]
   grind [Ek,Iy,AU,Dj,Ca]
 .intro j p q
  apply Ao (Ol (s:={s with toks:=s.Γ+knd.draws k}) f hd ?_)
  rw[entry_at i j,q]
  show Ao (Gb (AT (t p (atKey_of_get m q))))
theorem uf{k:K}(d:Ac)(hd:(d==Hv)=O')(dflt:Aa):
  MeetsIn prog w (Gg.«dict.setdefault» #[[.I d,.I a,dflt],[]]) (λA R s=>knd.room A.in1/\∃xs,knd.is s.u k a/\s.u.϶ knd d xs/\xs.a<=Ay /\
   (∀p,atKey xs k=Z p->R (.ok (.ϸ p.2)) {s with toks:=s.Γ+knd.draws k}) /\
   (atKey xs k=J->∀h',h'.϶ knd d (storedH xs k a dflt)->Ee d s.u h'->R (.ok (.ϸ dflt)) {s with heap:=h',toks:=s.Γ+knd.draws k})):=
 .of_wp λA R s g=>by
  let(h,xs,b,f,hz,i,j):=g
  apply Ao ?_
  apply Ao (Uh f.ϛ ?_)
  apply AT ?_
  change wpAny _ _ (if(d==Hv)=J' then _ else(dictSetDefault d (.I a) dflt >>= _)) _ _ s
  rw[if_neg (hd ▸ NC)]
  show Ao (ue h b f hz (λp l=>AT #[p.2,rfl,i p l]) λm h' c e=>AT #[dflt,rfl,j m h' c e])
end
end PySem
namespace Internal
open PySem PySem.Spec PyProof.Rows
def bM(K:Ap):R2:=λx y H Q=>∃a tr k v,x=.I a/\C2 K H a tr/\HU k tr/\BJ K H k y/\Z9 tr k=Z v/\Q v H
def Ui(K:Ap)(neg:Bool):R2:=λx y H Q=>∃a tr k,y=.I a/\C2 K H a tr/\HU k tr/\BJ K H k x/\Q (.bl (neg != (Z9 tr k).Ζ)) H
def ug(K:Ap):P0:=λo i v H Q=>∃a tr k,o=.I a/\H a=Z (DY tr)/\(∀t∈tr,BJ K H t.1 t.2.1)/\HU k tr/\BJ K H k i/\tr.a<Ay/\Q (AK H a (DY (Ez tr k i v)))
def uh(K:Ap):V->U V->Hp->VK->Prop:=λx b H Q=>∃a tr k y z,x=.I a/\b=[y,z]/\H a=Z (DY tr)/\(∀t∈tr,BJ K H t.1 t.2.1)/\HU k tr/\BJ K H k y/\tr.a<Ay /\
 (∀v,Z9 tr k=Z v->Q v H)/\(Z9 tr k=J->Q z (AK H a (DY (Ez tr k y z))))
theorem C2.typeIs{b:AZ}{H:Hp}{s:Ab}{tr:U T3}(d:Inv X b I H s)(h:C2 X.K H a tr):s.TypeIs (.I a) "dict":=by
 let(_,_,_,o,_,_,e,c,_):=h.1.ok d.Ϫ;show#[o,e,c.1]
section
theorem ui(o:X.A.γ+64<Av):HF X (bM X.K):=by
 rintro b slice c s f H x y v u Q B g h ⟨a,tr,k,z,rfl,hd,i,j,l,q⟩ m;cases g;apply Ao ?_;apply Ao<|wpAny_specialOf (hd.typeIs B) PySem.F.slot_dict_getitem.lookup ?_;let fin:wpAny (Ae X.prog X.w) X.A (subscripted slice O' (.ref a) u) (λr d=>wpAny (Ae X.β X.w) X.A (letTemporaryGo b (.I a) r >>= λ_=>Am r) (EP X c f Q) X.xe d) X.xe s:=by
  rw[m];show wpAny_operating<|ud ∅ B hd i j h l λp t n e=>Ao<|wpAny_letTemporaryGo<|AT ⟨z,H,n,e,q⟩
 show AT<|Ao fin
theorem bN(h:X.A.γ+64<Av):Ck X (DT .In) (Ui X.K O'):=by
 intro b s i H x y v u Q l c d zQ;let(a,tr,k,rfl,hd,e,f,q):=zQ;cases d;show bK O' ∅ l hd e f c λj g=>#[.bl (Z9 tr k).Ζ,H,g,rfl,by exists q]
theorem uj(h:X.A.γ+64<Av):Ck X (DT .NotIn) (Ui X.K J'):=by
 intro b s i H x y v u Q l c d zQ;let(a,tr,k,rfl,hd,e,f,q):=zQ;cases d;show bK J' ∅ l hd e f c λj g=>#[.bl<|!(Z9 tr k).Ζ,H,g,rfl,by exists q]
theorem bO(n:X.A.γ+64<Av):Tg X (ug X.K):=by
 intro c s p H o i v r t u Q y d f g zQ;let(a,tr,k,rfl,e,b,h,j,l,q):=zQ;cases d;show bL O' ∅ y e b h j f g l λw x m _=>#[_,m,q]
theorem bP(hu:X.A.γ+64<Av):Je X "dict.setdefault" (uh X.K):=by
 intro P s I H x xs v h Q W Y rs zQ;let(a,tr,k,y,z,rfl,rfl,e,i,L,M,hl,N,R):=zQ
 cases Y
 let(u1,T,rfl,S,o):=rs.two
 let j:(Ez tr k y z).a<=Ay:=by have:=bG tr k y z;show Bv this hl
 cases k with
 | «at» b=>
  cases M
  let(r,m,nd,h,rel,n):=Oj W #[.Q e,i] L
  let c:=rel.y b
  apply call_meetsIn Uj n.ϛ PySem.F.entry_dict_setdefault (PySem.F.args_dict_setdefault_3 _ _ _) (kt_meets_setdefault (ZF X.β X.w) a (Iz S) m T)
   #[h,n,(show h.a<=Ay by rw[<- G7 rel];show r),λv' t=>?_,λu B f g=>?_]
  .rw[t]at c
   cases d:Z9 tr (.at b)with
   |none=>rw[d]at c;show c.Η
   |some w=>rw[d]at c;show#[w,H,W.tok _,c,N w d]
  .rw[u]at c
   cases d:Z9 tr (.at b)with
   |some w=>rw[d]at c;show c.Η
   |none=>
    let C:∃q,B.R a=Z q:=let⟨q,_,_,E,_⟩:=f;#[q,E]
    show#[z,_,LB W (e ▸ HB) g C (Uf j m (MP nd) (rel.put o) f),o,R d]
 |tup l=>
  let(p,rfl,sq):=M
  cases(show u1=DJ p from S)
  let(r,m,nd,h,rel,n):=Ly W #[.Q e,i] L
  let c:=rel.y l
  apply call_meetsIn Uj n.ϛ PySem.F.entry_dict_setdefault (PySem.F.args_dict_setdefault_3 _ _ _) (uf (knd:=BZ (ZF X.β X.w)) (k:=l) a m T)
   #[Lz ∅,h,Jn W sq,n,(show h.a<=Ay by rw[<- G7 rel];show r),λp' G=>?_,λu B f g=>?_]
  .rw[G]at c
   cases d:Z9 tr (.X l)with
   |none=>rw[d]at c;show c.Η
   |some w=>rw[d]at c;show#[w,H,W.tok _,c,N w d]
  .rw[u]at c
   cases d:Z9 tr (.X l)with
   |some w=>rw[d]at c;show c.Η
   |none=>
    let C:∃q,B.R a=Z q:=let⟨q,_,_,E,_⟩:=f;#[q,E]
    show#[z,_,LB W (e ▸ HB) g C (QF j m (MP nd) (rel.put o) f),o,R d]
theorem Inv.big(b:Inv X pins I H s):Hv<s.u.J.o:=by
 show J9 (by ext) ((b.mod.glob.keeps b.bk).lt)
theorem Jo:PE X (.Dict [] [] pos) (λ_ H Q=>∀p,H p=J->Q (.I p) (AK H p (DY []))):=λb s c H Q d h=>wpAny_Dict_empty #[.I s.u.J.o,_,d.laid (a:=s.u.J.o) (o:=DY []) (t':=s.Γ) (λ_ _ q=>BC _ q) (AX _) #[E3 _,beq_eq_false_iff_ne.ϡ<|BM<|Cf d.big,List.nodup_nil,_,(T' []),0,Co _ rfl,⟨rfl,rfl,rfl⟩,rfl,rfl,rfl],rfl,h _<|d.Ϫ.Ψ<|AX _]
end
def Om:D->O At
 |.non=>Z .Α
 |.int i=>Z (.r i)
 |.str x=>Z (.ψ x)
 |_=>J
def MR:U D->O (U At)
 |[]=>Z []
 |d::r=>(Om d).L λa=>(MR r).j (a::·)
def Dq:D->O KT
 |.tup l=>(MR l).j KT.X
 |d=>(Om d).j KT.at
def aD:At->D
 |.non=>.Α
 |.int i=>.r i
 |.str x=>.ψ x
def kD:KT->D
 |.at a=>aD a
 |.tup l=>.X (l.j aD)
theorem bQ{d:D}{a:At}(h:Om d=Z a):d=aD a:=by
 unfold Om at h;split at h<;>cases h<;>rfl
theorem bR:∀{l:U D}{b:U At},MR l=Z b->l=b.j aD
 |[],_,h=>by cases h;rfl
 |d::r,b,h=>by
  let(a,c,h):=Ch.mp h;let(bs,e,h):=B7.mp h;cases h;rw[AU,<- bQ c,<- bR e]
open J in
theorem IA{d:D}{k:KT}(h:Dq d=Z k):d=kD k:=by
 unfold Dq at h;split at h
 .next l=>
  let(c,b,h):=B7.mp h;cases h;rw[bR b];rfl
 .let(a,b,h):=B7.mp h;cases h;rw[bQ b];rfl
theorem uk(a:At):Om (aD a)=Z a:=by cases a<;>rfl
theorem bS:∀(l:U At),MR (l.j aD)=Z l
 |[]=>rfl
 |a::l=>by rw[AU];unfold MR;rw[uk,bS l];rfl
@[simp]theorem On(k:KT):Dq (kD k)=Z k:=by
  cases k with
  | «at» a=>cases a<;>rfl
  |tup l=>show(MR<|l.j aD).j KT.X=_;rw[bS];rfl
@[simp]theorem ZGD:Dq .Α=Z (.at .Α):=rfl
@[simp]theorem ZGK(i:Int):Dq (.r i)=Z (.at (.r i)):=rfl
@[simp]theorem ZGH(x:Af):Dq (.ψ x)=Z (.at (.ψ x)):=rfl
theorem ul(a:At):TK (aD a)=a:=by cases a<;>rfl
theorem um(k:KT):NU (kD k)=k:=by
 cases k with
 | «at» a=>cases a<;>rfl
 |tup l=>
  unfold kD NU;induction l<;>grind [ul]
abbrev By:=U (KT×D)
variable{kvs:By}
def Zb:By->U D
 |[]=>[]
 |p::r=>kD p.1::p.2::Zb r
def EA:U D->O By
 |[]=>Z []
 |k::v::r=>(Dq k).L λa=>(EA r).j ((a,v)::·)
 |_=>J
@[simp]theorem Fh:∀kvs:By,EA (Zb kvs)=Z kvs
  |[]=>rfl
  |p::r=>by unfold Zb EA;rw[On,Fh r];rfl
@[simp]theorem ZGG:EA []=Z []:=rfl
theorem GN:∀{xs:U D}{kvs:By},EA xs=Z kvs->xs=Zb kvs
 |[],_,h=>by cases h;rfl
 |[_],_,h=>by cases h
 |k::v::r,kvs,h=>by
  let(c,a,h):=Ch.mp h;let(q,b,h):=B7.mp h;cases h;unfold Zb;rw[<- IA a,<- GN b]
theorem Uk:∀kvs:By,Kc (Zb kvs)=kvs.j (·.1)
 |[]=>rfl
 |p::r=>by unfold Zb Kc;rw[um,Uk r];rfl
def Zx:By->KT->O D
 |[],_=>J
 |t::r,k=>if t.1=k then Z t.2 else Zx r k
def F1:By->KT->D->By
 |[],_,_=>[]
 |t::r,k,v=>(if t.1=k then(t.1,v)else t)::F1 r k v
def ZZ(kvs:By)(k:KT)(v:D):By:=if(Zx kvs k).Ζ=J' then F1 kvs k v else kvs++[(k,v)]
def El:KT->Bool
 |.at _=>J'
 |_=>O'
def DZ(k:KT)(kvs:By):Bool:=kvs.ϭ λp=>El p.1==El k
section
variable{K:Ap}{N:Fb}{H:Hp}
abbrev PD(K:Ap)(N:Fb)(H:Hp):By->U T3->Prop:=Paired λp t=>p.1=t.1/\Aw K N H (kD p.1) t.2.1/\Aw K N H p.2 t.2.2
theorem bT{a:At}{v:V}(h:Aw K N H (aD a) v):v=FN a:=by cases a<;>simpa only[aD,Aw,FN]using h
theorem bU:∀{l:U At}{vs:U V},Ad K N H (l.j aD) vs->vs=l.j FN
 |[],_,h=>by simpa only[Dj,Ad]using h
 |a::l,vs,h=>by
  let(v,r,e,b,c):=h;rw[e,bT b,bU c];rfl
theorem HV{k:KT}{v:V}(h:Aw K N H (kD k) v):BJ K H k v:=by
 cases k with| «at» a=>show bT h|tup l=>
  let(p,d,e,b,c):=h;rw[bU c]at b;show#[p,e,b]
theorem Hg{k:KT}{v:V}(h:Az K N H (kD k) v):Aw K N H (kD k) v:=by
 cases k with
 | «at» a=>cases a<;>show h
 |tup l=>show h
theorem LC:∀{kvs:By}{vs:U V},Ad K N H (Zb kvs) vs->∃tr,vs=Ea tr/\PD K N H kvs tr
 |[],vs,h=>#[[],by simpa only[Zb,Ad,Ea]using h,.nil]
 |p::r,vs,h=>by
  let(v,t,e,a,b,i,c,d,f):=h;let(tr,g,q):=LC f;show#[(p.1,v,b)::tr,by rw[e,c,g];rfl,.Θ #[rfl,a,d] q]
theorem PD.flat{tr:U T3}(h:PD K N H kvs tr):Ad K N H (Zb kvs) (Ea tr):=by
 induction h with
 |nil=>show Ad.ϔ
 |cons h _ a=>show Ad.Θ h.2.1<|Ad.Θ h.2.2 a
theorem PD.fst{tr:U T3}(h:PD K N H kvs tr):kvs.j (·.1)=tr.j (·.1):=by
 induction h with
 |nil=>rfl
 |cons h _ a=>rw[AU,AU,h.1,a]
theorem PD.keys{tr:U T3}(h:PD K N H kvs tr):∀t∈tr,BJ K H t.1 t.2.1:=by
 induction h with|nil=>show λ_ h=>nomatch h|cons h _ b=>
  intro x a;rcases Bx.mp a with rfl|a
  .rw[<- h.1];show HV h.2.1
  .show b x a
def LF(K:Ap)(N:Fb)(H:Hp):O D->O V->Prop
 |some d,Z v=>Aw K N H d v
 |none,J=>True
 |_,_=>False
theorem PD.val{tr:U T3}(h:PD K N H kvs tr)(k:KT):LF K N H (Zx kvs k) (Z9 tr k):=by
 induction h with|nil=>show HB|cons h _ a=>
  unfold Zx Z9;rw[h.1];split
  .show h.2.2
  .show a
theorem LF.isS:∀{o:O D}{u:O V},LF K N H o u->o.Ζ=u.Ζ
 |some _,Z _,_=>rfl
 |none,J,_=>rfl
 |some _,J,h=>h.Η
 |none,Z _,h=>h.Η
theorem PD.rep{k:KT}{d:D}{v:V}(hd:Aw K N H d v){tr:U T3}(h:PD K N H kvs tr):PD K N H (F1 kvs k d) (Ix tr k v):=by
 induction h with|nil=>show .ϔ|cons h _ a=>
  unfold F1 Ix;rw[h.1];apply .Θ ?_ a;split
  .show#[rfl,h.1 ▸ h.2.1,hd]
  .show h
theorem PD.put{tr:U T3}{k:KT}{d:D}{kv v:V}(h:PD K N H kvs tr)(a:Aw K N H (kD k) kv)(hd:Aw K N H d v):PD K N H (ZZ kvs k d) (Ez tr k kv v):=by
 unfold ZZ Ez;rw[(h.y k).isS];split
 .show h.rep hd
 .show Paired.snoc' #[rfl,a,hd] h
theorem PD.hom{k:KT}:∀{kvs:By}{tr:U T3},PD K N H kvs tr->DZ k kvs=J'->HU k tr
 |_,_,.nil,_=>by cases k<;>show λ_ h=>nomatch h
 |p::kvs,t::tr,.cons ⟨g,_,_⟩ r,e=>by
  erw[DZ,List.all_cons,Dp]at e;let f:=PD.hom (k:=k) r e.2;let d:=e.1;rw[g]at d;cases k with
  | «at» a=>
   intro x c;rcases Bx.mp c with rfl|c
   .cases c:x.1 with
    | «at» b=>show#[b,rfl]
    |tup l=>rw[c]at d;cases d
   .show f x c
  |tup l=>
   intro x c;rcases Bx.mp c with rfl|c
   .cases c:x.1 with
    | «at» b=>rw[c]at d;cases d
    |tup l=>show#[l,rfl]
   .show f x c
theorem Jp(h:Rd H a (.dct (Kc (Zb kvs)) vs))(hd:Ad K N H (Zb kvs) vs):∃tr,C2 K H a tr/\PD K N H kvs tr:=by
 let(tr,rfl,p):=LC hd;rw[Uk,p.fst]at h;show#[tr,#[h,p.keys],p]
theorem IB{tr:U T3}(p:PD K N H kvs tr):CO K .d a (Zb kvs) (Ea tr)=DY tr:=by
 unfold CO DY;rw[Uk,p.fst]
end
def D0:D->D->O D
 |.lst b .d,y=>(EA b).L λa=>(Dq y).L λk=>if DZ k a then Zx a k else J
 |_,_=>J
@[simp]theorem bV(kvs:By)(y:D):D0 (.O (Zb kvs) .d) y=(Dq y).L λk=>if DZ k kvs then Zx kvs k else J:=by simp[D0]
@[simp]theorem ZFE(y:D):D0 (.O [] .d) y=(Dq y).L λk=>J:=by simp[D0,Zx]
def DC(neg:Bool):D->D->O D
 |y,.lst b .d=>(EA b).L λa=>(Dq y).L λk=>if DZ k a then Z (.bl (neg != (Zx a k).Ζ))else J
 |_,_=>J
@[simp]theorem MS(neg:Bool)(kvs:By)(y:D):DC neg y (.O (Zb kvs) .d)=(Dq y).L λk=>if DZ k kvs then Z (.bl (neg != (Zx kvs k).Ζ))else J:=by simp[DC]
@[simp]theorem ZGt(neg:Bool)(y:D):DC neg y (.O [] .d)=(Dq y).L λk=>Z (.bl neg):=by simp[DC,Zx,DZ]
section
variable{K:Ap}{M:Fb}{e a b:Expr}{f g:AG}
open J in
theorem uo:Ew K (bM K) D0:=by
 intro N H x y s i d Q t f g e q;unfold D0 at e;split at e
 .next u=>
  let(j,l,e):=Ch.mp e;cases b:Dq i with|none=>rw[b]at e;cases e|some k=>
   rw[b]at e;let(m,e):=Z0 e;rw[GN l]at f;let(p,v,n,r,hd):=f;let(tr,o,h):=Jp r hd;rw[IA b]at g;let a:=h.y k;rw[e]at a;cases c:Z9 tr k with
   |none=>rw[c]at a;show a.Η
   |some w=>rw[c]at a;show#[p,tr,k,w,n,o,h.hom m,HV<|Hg g,c,q w H (Ak.ω H) a]
 .cases e
open J in
theorem Ul{neg:Bool}:Ew K (Ui K neg) (DC neg):=by
 intro N H x y g n d Q o b c e q;unfold DC at e;split at e
 .next s=>
  let(h,i,e):=Ch.mp e;cases a:Dq g with|none=>rw[a]at e;cases e|some k=>
   rw[a]at e;let(j,e):=Z0 e;cases e;rw[GN i]at c;let(p,t,l,r,hd):=c;let(tr,m,f):=Jp r hd;rw[IA a]at b;apply#[p,tr,k,l,m,f.hom j,HV<|Hg b,?_];rw[<- (f.y k).isS];show q _ H (Ak.ω H) HN
 .cases e
theorem uq(e:X.A.γ+64<Av)(c:JE X a (tP X.K M H0 f))(d:JE X b (tP X.K M H0 g))(i:NQ b):JE X (.μ a b pos) (tD X.K M H0 (Za D0 f g)):=#[have c:=c.h;let d:=d.h;au (ui e) uo c d i]
theorem ur(e:X.A.γ+64<Av)(c:JE X a (tP X.K M H0 f))(d:JE X b (tP X.K M H0 g))(i:Hy .In b=O':=by with_unfolding_all rfl):JE X (.Φ a [.In] [b] pos) (tD X.K M H0 (Za (DC O') f g)):=#[have c:=c.h;let d:=d.h;NX (bN e) Ul c d i]
theorem ut(e:X.A.γ+64<Av)(c:JE X a (tP X.K M H0 f))(d:JE X b (tP X.K M H0 g))(i:Hy .In b=O':=by with_unfolding_all rfl):JT X (.Φ a [.In] [b] pos) (B4 X.K M H0 λρ=>AI (Za (DC O') f g ρ)):=#[have c:=c.h;let d:=d.h;Ke (bN e) Ul c d i]
theorem uu(e:X.A.γ+64<Av)(c:JE X a (tP X.K M H0 f))(d:JE X b (tP X.K M H0 g))(i:Hy .NotIn b=O':=by with_unfolding_all rfl):JT X (.Φ a [.NotIn] [b] pos) (B4 X.K M H0 λρ=>AI (Za (DC J') f g ρ)):=#[have c:=c.h;let d:=d.h;Ke (uj e) Ul c d i]
theorem uv:JE X (.Dict [] [] pos) (Fv .d K M H0 λ_=>Z []):=#[Jo.κ λf H Q a p b=>by
 let(g,c,R,e,q):=a;cases e;show NY (xs:=[]) (vs:=[]) (fl:=.d) (Ak.ω H) b Ad.ϔ q]
def Ko(i:Nat)(ok b:O D)(ρ:VE):DB:=match Hd ρ i,ok,b with
 |some c,Z y,Z d=>match EA c,Dq y with
  |some a,Z k=>if DZ k a&&decide (a.a<Ay)then .U (ρ.ν i (.Κ (Zb (ZZ a k d)) .d))else .Ω
  |_,_=>.Ω
 |_,_,_=>.Ω
open J in
theorem uw{i:Nat}{x:Af}{b c:AB}{j e:Expr}{fi f:AG}(T:X.A.γ+64<Av)(p:JE X j (tP X.K M H0 fi))(r:JE X e (tD X.K M H0 f))(S:NV X i x:=by show EM) (Y:∀v,assign (.μ (.ε x b) j c) X.G v=(do
   let o <- DU [v] (Ar (.ε x b) X.G);let s <- DU [v,o] (Ar j X.G);standAt c
   DU [v,o,s] (setItem o s v)
   release [v,o,s] []):=by intro _;rfl) (hs:swapsWithSole [.μ (.ε x b) j c] e pos.Ϯ X.G=Am O':=by rfl) (m:swappedStores [.μ (.ε x b) j c] e X.G=Am J:=by rfl) (h1:(Gz [.μ (.ε x b) j c] X.G).j (·.2)=[assign (.μ (.ε x b) j c) X.G]:=by rfl):JS X (.Ϭ [.μ (.ε x b) j c] e pos) (tS X.K M H0 λρ=>Ko i (fi ρ) (f ρ) ρ):=#[have p:=p.h;let r:=r.h;(P2 r (P1 (Ha S) p (bO T) Y) hs m h1).κ λD' I H z0=>by
 let(ρ,R,q):=z0;try dsimp only at q
 unfold Ko at q;split at q
 .next xs y d E t hf=>
  split at q
  .next u k z hk=>
   split at q
   .next B=>
    rw[Dp,decide_eq_true_eq]at B;apply#[ρ,d,R,hf,λv H1 G hv=>?_];let C:=R.st G;let ex:=GN z;subst ex;let(a,vs,W,z1,z2,F,L):=C.ϕ i _<|N0 E;apply⟨.ref a,(AE W),ρ,y,C,t,λw H2 l m=>?_⟩;let(tr,dc,pd):=Jp (K:=X.K) (.Q<|l _ _ F) (L.δ l);let(n,rfl,g):=LC<|L.δ l;rw[IA hk]at m;let N:=g.put (k:=k) (Hg m) (hv.δ l);let(P,Q):=(C.st l).chg (fl2:=.d) (ys:=Zb<|ZZ u k d) (ws:=Ea<|Ez n k w v) (N0 E) (AE W) N.flat;rw[IB N]at P Q;apply⟨a,n,k,rfl,?_,g.keys,g.hom B.1,HV<|Hg m,G7 g ▸ B.2,q _ _ P<|(Step.ώ<|G.E l).E Q⟩;rw[<- IB g];show l _ _ F
   .show BX q
  .show BX q
 .show BX q]
end
theorem bW(k:KT)(v:D)(k':KT):∀kvs:By,Zx (F1 kvs k v) k'=if k=k' then(Zx kvs k').j (λ_=>v)else Zx kvs k'
 |[]=>by simp[F1,Zx]
 |t::r=>by
  let a:=bW k v k' r;grind [F1,Zx]
theorem bX(k:KT):∀(a b:By),Zx (a++b) k=match Zx a k with|some v=>Z v|none=>Zx b k
 |[],b=>by simp[Zx]
 |t::r,b=>by
  let c:=bX k r b;grind [Zx]
theorem Oo(kvs:By)(k:KT)(v:D)(k':KT):Zx (ZZ kvs k v) k'=if k=k' then Z v else Zx kvs k':=by
 unfold ZZ;by_cases h:(Zx kvs k).Ζ=J'
 .rw[if_pos h,bW];by_cases e:k=k'
  .subst e;cases a:Zx kvs k with
   |none=>rw[a]at h;cases h
   |some w=>rfl
  .rw[if_neg e,if_neg e]
 .grind [bX,Zx]
theorem bY{k:KT}{v:D}{p:KT×D}:∀{kvs:By},p∈F1 kvs k v->p∈kvs\/p=(k,v)
 |[],h=>nomatch h
 |t::r,h=>by
  rcases Bx.mp h with a|h
  .grind [Bh]
  .rcases bY h with h|h
   .show .Q<|Bl _ h
   .show .σ h
theorem Um{k:KT}{v:D}{p:KT×D}(h:p∈ZZ kvs k v):p∈kvs\/p=(k,v):=by grind [ZZ,bY]
theorem bZ(k:KT)(v:D):∀kvs:By,(F1 kvs k v).a=kvs.a
 |[]=>rfl
 |t::r=>by simp[F1,bZ k v r]
theorem Uo(kvs:By)(k:KT)(v:D):(ZZ kvs k v).a<=kvs.a+1:=by
 unfold ZZ;split
 .rw[bZ];show HS (List.a kvs) 1
 .simp
theorem QH(a:At)(h:∀p∈kvs,El p.1=J'):DZ (.at a) kvs=J':=by
 unfold DZ;rw[Du];intro p b;rw[h p b];rfl
theorem LH(l:U At)(h:∀p∈kvs,El p.1=O'):DZ (.X l) kvs=J':=by
 unfold DZ;rw[Du];intro p a;rw[h p a];rfl
def tX(K:Ap)(M:Fb)(H0:Hp)(f:VE->O (D×VE)):TE:=λb H Q=>∃e d a,Bn K M H0 e b H/\f e=Z (d,a) /\
 ∀v c,Bn K M H0 a b c->Step M (Nf M e b) (Nf M a b) H c->Aw K (Nf M a b) c d v->Q v c
def b0(K:Ap)(M:Fb)(H0:Hp)(t:VE->O (Bool×VE)):TT:=λc H Q=>∃d b a,Bn K M H0 d c H/\t d=Z (b,a) /\
 ∀e,Bn K M H0 a c e->Step M (Nf M d c) (Nf M a c) H e->Q b e
def Op(i:Nat)(c e:AG):VE->O (D×VE):=λb=>match Hd b i,c b,e b with
 |some f,Z y,Z d=>match EA f,Dq y with
  |some a,Z k=>if DZ k a&&decide (a.a<Ay)then
    (match Zx a k with
    |some v=>Z (v,b)
    |none=>Z (d,b.ν i (.Κ (Zb (ZZ a k d)) .d)))
   else J
  |_,_=>J
 |_,_,_=>J
section
variable{K:Ap}{M:Fb}{e a b ev:Expr}{f g fk fv:AG}
open J in
theorem b4{i:Nat}{x:Af}{c:AB}(hu:X.A.γ+64<Av)(r:JE X ek (tP X.K M H0 fk))(f:JE X ev (tD X.K M H0 fv))(hN:NV X i x:=by show EM) (g:FQ (.ε x c) "setdefault" X.G (Ar (.ε x c) X.G)=Ar (.ε x c) X.G:=by rfl) (n:((AD cpos (AJ [ek,ev] X.G)).ϭ (λx=>!x.1)&&(GB cpos (GC [] X.G)).ϭ (λx=>x.1.Ζ) && decide ([ek,ev].a+([]:U Ei).a+(if([]:U Ei).Υ then 0 else 1)<30))=J':=by rfl) (j:(apos.ϴ==cpos.Ϯ)=J':=by rfl) (o:AJ [ek,ev] X.G=(O',Ar ek X.G)::AJ [ev] X.G:=by show D8 rfl) (p:AJ [ev] X.G=(O',Ar ev X.G)::AJ [] X.G:=by show D8 rfl) (t:(AD cpos (AJ [ev] X.G)).any (·.1)=O':=by rfl):JE X (.Λ (.α (.ε x c) "setdefault" apos) [ek,ev] [] cpos) (tX X.K M H0 (Op i fk fv)):=#[have r:=r.h;let f:=f.h;(G9 Up Uj PySem.F.type_dict_setdefault (bP hu) (Ha hN) (Z2 r (Z2 f Ba p) o) g n j o t).κ λI H Q z0=>by
  let(T,d,ρ',R,ex,q):=z0;unfold Op at ex;split at ex
  .next xs y dv W z B=>
   split at ex
   .next l k C E=>
    let(G,ex):=Z0 ex;rw[Dp,decide_eq_true_eq]at G;let zA:=GN C;subst zA;let(a,vs,Y,z1,z2,z3,z4):=R.ϕ i _<|N0 W;apply⟨.ref a,(AE Y),(.inr<|.inr ⟨rfl,_,_,.inl z3⟩),T,y,R,z,λw H1 s1 P=>⟨T,dv,R.st s1,B,λv H2 L hv=>?_⟩⟩;let s:=s1.E L;let(tr,rfl,m):=LC<|z4.same s;rw[IA E]at P;let b:=m.val k;apply#[a,tr,k,w,v,rfl,rfl,?_,m.keys,m.hom G.1,HV<|Hg<|P.same L,G7 m ▸ G.2,λu N=>?_,λhn=>?_]
    .rw[<- IB m];show s _ _ z3
    .rw[N]at b;cases e:Zx l k with|none=>rw[e]at b;show b.Η|some d0=>
      rw[e]at b ex;cases ex;show q u H2 (R.st s) (Step.ώ s) b
    .rw[hn]at b;cases e:Zx l k with|some d0=>rw[e]at b;show b.Η|none=>
      rw[e]at ex;cases ex;let pp:=m.put (k:=k) (Hg<|P.δ L) hv;let(R3,S):=(R.st s).chg (fl2:=.d) (ys:=Zb<|ZZ l k d) (ws:=Ea<|Ez tr k w v) (N0 W) (AE Y) pp.flat;rw[IB pp]at R3 S;show q v _ R3 ((Step.ώ s).E S)<|Aw.Τ S d v hv
   .cases ex
  .cases ex]
def Oq(fx:VE->O (D×VE))(g:AG):VE->O (Bool×VE):=λc=>match fx c with
 |some (d,a)=>match g a with
  |some y=>(AI (Cc d y)).j λb=>(b,a)
  |none=>J
 |none=>J
open J in
theorem ux(n:X.A.γ+64<Av)(f:JE X a (tX X.K M H0 fx))(i:JE X b (tP X.K M H0 g)):JT X (.Φ a [.NotEq] [b] pos) (b0 X.K M H0 (Oq fx g)):=#[have f:=f.h;let i:=i.h;(Yy (aU n) f i<|Hx _ (by ext) (by ext)).mono λo H Q r=>by
 let(s,l,c,R,ex,q):=r;unfold Oq at ex;split at ex
 .next d t x=>
  split at ex
  .next y z=>
   let(L,B,ex):=B7.mp ex;cases ex;apply#[s,d,c,R,x,λv N j C E=>#[c,y,j,z,λu G e k=>?_]];show aX (Nf M c o) G v u d y (.bl l) _ (j.st e).nh (E.p.δ e) k (Mz B) λw P m F=>by
    show#[l,F,q P ((j.st e).st m)<|C.E<|Step.ώ<|e.E m]
  .cases ex
 .cases ex]
def QI(c:O (Bool×VE))(b d:Ax):DB:=match c with
 |some (J',a)=>b a
 |some (O',a)=>d a
 |none=>.Ω
theorem uy{c:Expr}{g i:U AF}{t:VE->O (Bool×VE)}{j l:Ax}(b:JT X c (b0 K M H0 t))(d:JB X g (tS K M H0 j))(e:JB X i (tS K M H0 l)):JS X (.If c g i pos) (tS K M H0 λρ=>QI (t ρ) j l):=#[have b:=b.h;let d:=d.h;let e:=e.h;(PZ b d e).κ λo r H n=>by
 let(ρ,R,q):=n;try dsimp only at q
 cases f:t ρ with|none=>rw[f]at q;show BX q|some p=>
  let(k,a):=p;rw[f]at q;apply#[ρ,k,a,R,f,λs m S=>?_];cases k with
  |true=>apply Lk ?_;show#[a,m,Bk.jk S q]
  |false=>apply Ll ?_;show#[a,m,Bk.jk S q]]
end
open PySem.W
section
variable(lt:Nat->Nat->Bool)
structure WO(n:Nat):Prop where
 asym:∀a b,a<n->b<n->lt a b=J'->lt b a=O'
 neg:∀a b c,a<n->b<n->c<n->lt a c=J'->lt a b=J'\/lt b c=J'
def Ot(a b:Nat):Prop:=lt b a=O'
end
section
variable{lt:Nat->Nat->Bool}{n:Nat}(W:WO lt n)
include W
theorem WO.refl{a:Nat}(b:a<n):Ot lt a a:=by
 unfold Ot;cases h:lt a a with
 |false=>rfl
 |true=>have:=W.asym a a b b h;rw[h]at this;cases this
end
abbrev Au(p:Array Nat)(i:Nat):Nat:=p.Y i 0
def uz(lt:Nat->Nat->Bool)(p:Array Nat)(k:Nat):Prop:=∀i j,i<=j->j<k->Ot lt (Au p i) (Au p j)
def Bs(n:Nat)(p:Array Nat):Prop:=p.Ϧ (BI n).C
theorem Bs.size{n:Nat}{p:Array Nat}(h:Bs n p):p.o=n:=by have:=h.size_eq;exists this
theorem Bs.lt{n:Nat}{p:Array Nat}(h:Bs n p){i:Nat}(c:i<n):Au p i<n:=by
 let b:i<p.o:=J3 c h.o.τ;have:=(h.Ϣ (a:=p[i])).mp (Array.getElem_mem b);simp_all
theorem Jq{p q:Array Nat}{i:Nat}(h:p[i]?=q[j]?):Au p i=Au q j:=by
 simp_all
theorem LJ{p:Array Nat}{i:Nat}(a:j<=p.o)(k:Nat):Au (kas_rev p i j) k=if i<=k/\k<j then Au p (i+j-1-k)else Au p k:=by
 have:=getElem?_mirror_all (xs:=p) (i:=i) (j:=j) a k;by_cases h:i<=k/\k<j
 .rw[if_pos h]at this ⊢;show Jq this
 .rw[if_neg h]at this ⊢;show Jq this
theorem Uq{p:Array Nat}{k d:Nat}(b:k<p.o)(hd:d<=k)(i:Nat):Au (bubble p k d) i=if i=k-d then Au p k else if k-d<i/\i<=k then Au p (i-1)else Au p i:=by
 have:=getElem?_bubble (xs:=p) (src:=k) b d hd i;by_cases h:i=k-d
 .rw[if_pos h]at this ⊢;show Jq this
 .rw[if_neg h]at this ⊢;by_cases a:k-d<i/\i<=k
  .rw[if_pos a]at this ⊢;show Jq this
  .rw[if_neg a]at this ⊢;show Jq this
theorem Bs.rev{n:Nat}{p:Array Nat}(h:Bs n p)(i j:Nat):Bs n (kas_rev p i j):=(mirror_perm p i j _).E h
theorem Bs.bub{n:Nat}{p:Array Nat}(h:Bs n p)(k d:Nat):Bs n (bubble p k d):=(bubble_perm p k d).E h
section
variable{lt:Nat->Nat->Bool}{n:Nat}(W:WO lt n){cmp:Nat->Nat->(Bool->Ab->Prop)->Ab->Prop}{s:Ab}(hc:∀i j C,i<n->j<n->C (lt i j) s->cmp i j C s)
include W hc
open J in
open J in
open J in
open J in
end
section
variable{prog:AM}{w:Aj}{A:Ag}{s:Ab}
theorem uA{l b:Ac}{a:Array Aa}{r:Bool}{n n2:Nat}{f c:O Ac}{g d:Array (O Aa)}{Q:Bool->Ab->Prop}(e:s.u.R l=Z {cls:=.ι "list",dict:=f,data:=.Ϲ items n,slots:=g})(i:s.u.R b=Z {cls:=.ι "list",dict:=c,data:=.Ϲ a n2,slots:=d})(j:Gf A.in1 s items.B a.B r) (k:A.γ<Av) (h:Q r s):wpAny (Ae prog w) A (oneLt' J' (.I l) (.I b)) Q E s:=by
 rw[oneLt'_eq];apply Ao<|wpAny_cRoomFor k ?_;apply Ao<|wpAny_callSpecialIfBound?_slot (T:="list") #[_,e,rfl] PySem.F.slot_list_lt (BY PySem.F.slot_list_lt #[_,e,rfl] PySem.F.entry_list_lt (PySem.F.args_list_lt_2 _ _) (ai l b items a n n2 f c g d r) #[e,i,j,?_]);show IZ h
end
section
variable{H:Hp}{s:Ab}{N:Fb}
theorem uB(S:Inv X pins I H s){prog:AM}{w:Aj}(A:Ag)(hu:A.γ+40<Av)(b fin:Bool){Q:Bool->Ab->Prop}:∀(xs ys:U D)(a c:U V)(d f:U Aa)(i:Nat)(r:Bool),Gn (ltN 5) xs ys=Z r->Ad X.K N H xs a->Ad X.K N H ys c->Aq a d->Aq c f->fin=decide (xs.a<ys.a)->(b=O'\/i≠0\/((∀x,xs.head?=Z x->∃n,x=.r n)/\∀y,ys.head?=Z y->∃n,y=.r n))->Q r s->KatLex prog w A b fin Q (d.zip f) i s:=by
 intro xs;induction xs with
 |nil=>
  intro ys a c d f i r h m o C E t T q;erw[Ad]at m;subst m;cases C;apply kat_nil ?_;cases ys with
  |nil=>erw[Gn]at h;cases h;rw[t];show q
  |cons y ys=>erw[Gn]at h;cases h;rw[t];exists q
 |cons x xs R=>
  intro ys a c d f i r h m o C E t T q;erw[Ad]at m;let(w1,t1,Y,g,G):=m;subst Y;cases C with
  |cons j F=>
   cases ys with
   |nil=>
    erw[Ad]at o;subst o;cases E;erw[Gn]at h;cases h;show kat_nil (by rw[t];exists q)
   |cons y ys=>
    erw[Ad]at o;let(w2,t2,e2,k,L):=o;subst e2;cases E with
    |cons l M=>
     let(P,h):=Z0 h;rw[Dp]at P;let v:=(Og S ZY A x y _ _ _ _ (by unfold ZY;lia) P.1 P.2 g.p k.p j l).2.1;apply kat_cons ?_;split at h
     .next e=>
      rw[e]at v;apply v prog w _ _ ?_;unfold KatGo;show R ys _ _ _ _ (i+1) r h G L F M (by rw[t];simp) (.σ<|.Q<|BM<|Nat.zero_ne_add_one i) q
     .next e=>
      rw[Bool.not_eq_true]at e;rw[e]at v;apply v prog w _ _ ?_;apply kat_no ?_;by_cases B:(b&&i==0)=J'
      .rw[B];let u:b=J'/\i=0:=by exists B
       rcases T with z|z|⟨z1,z2⟩
       .rw[u.1]at z;cases z
       .show absurd u.2 z
       .let(n1,rfl):=z1 x rfl;let(n2,rfl):=z2 y rfl;let g1:=g.p.r;let g2:=k.p.r;subst g1 g2;let(k1,rfl):=j;let(k2,rfl):=l;cases h;show oneLt_int q
      .rw[Bool.not_eq_true]at B;rw[B];show kat_one _ _<|T6 S 5 A x y _ _ _ _ r (by unfold ZY;lia) h g.p k.p j l prog w _ (PySem.W.BoolBack Q) q
def Cu(b:O Bool)(k:D):Prop:=match b with
 |some J'=>∃i r,k=.X (.r i::r)
 |some O'=>∃f r,k=.X (.X f::r)
 |none=>∃r,k=.O r
abbrev Ou:O Bool->Gq
 |some b=>tuples' b
 |none=>oneType'
theorem Cu.tup{b:Bool}{k:D}(h:Cu (Z b) k):∃f r,k=.X (f::r):=by
 cases b with
 |true=>let(i,r,e):=h;show#[_,_,e]
 |false=>let(i,r,e):=h;show#[_,_,e]
theorem uC(S:Inv X pins I H s){prog:AM}{w:Aj}(A:Ag)(B:A.γ+40<Av)(b r:Bool){k l:D}{v x:V}{y z:Aa}{Q:Bool->Ab->Prop}(h:ltN 6 k l=Z r)(m1:Cu (Z b) k)(m2:Cu (Z b) l) (C:Aw X.K N H k v) (G:Aw X.K N H l x) (F:RelV v y) (L:RelV x z) (q:Q r s):wpAny (Ae prog w) A (keyLt' (tuples' b) y z) Q E s:=by
 let(M,P,i):=m1.X;let(T,R,j):=m2.X;subst i j;let(a1,m,i,Y,d):=C;let(a2,n,j,q2,e):=G;subst i j;cases F;cases L;let(a,f,(o1,o,_,n1,p),_):=S.ϗ Y;let(c,g,(o2,t,_,n2,u),_):=S.ϗ q2;apply kat_lt o p t u ?_;have:=uB S (prog:=prog) (w:=w) (N:=N) A B b (decide<|a.C.o<c.C.o) (Q:=Q) (M::P) (T::R) m n a c 0 r h d e f g (by rw[B5,B5,<- f.a,<- g.a,<- d.a,<- e.a]) (by
  cases b with|false=>show .Q rfl|true=>
   let(i1,_,i):=m1;let(i2,_,j):=m2;grind) q
 exists this
theorem uD(S:Inv X pins I H s){prog:AM}{w:Aj}(A:Ag)(R:A.γ+40<Av)(b:O Bool)(r:Bool){a c:D}{u v:V}{x y:Aa}{Q:Bool->Ab->Prop}(h:ltN 6 a c=Z r)(m1:Cu b a)(m2:Cu b c) (z:Aw X.K N H a u) (B:Aw X.K N H c v) (C:RelV u x) (G:RelV v y) (q:Q r s):wpAny (Ae prog w) A (keyLt' (Ou b) x y) Q E s:=by
 cases b with|some b=>show uC S A R b r h m1 m2 z B C G q|none=>
  let(Y,d):=m1;let(g2,e):=m2;subst d e;let(a1,vs1,d,q1,f):=z.p;let(a2,vs2,e,q2,g):=B.p;subst d e;cases C;cases G;let(F,i,((cls,dd,data,sl),n1,j,k,L,l),_):=S.Ϩ q1;let(M,m,((P,dd2,data2,sl2),n2,n,o,T,t),_):=S.Ϩ q2;subst k l o t;show uA j n (by exists a9 S 5 (T6 S 5) A (by unfold ZY;lia) Y g2 _ _ _ _ h f g i m) ∅ q
open J in
theorem uE(S:Inv X pins I H s){M:Model}(b:Bool):∀(ks:U D)(kvs:U V)(us:U Aa),Ad X.K N H ks kvs->Aq kvs us->(∀k∈ks,Cu (Z b) k)->∃c,KatTups s.u us c/\c.a=us.a/\∀v∈c,Looks M s.u (typeOf v) (.ι (if b then "int" else "tuple")):=by
 intro ks;induction ks with
 |nil=>
  intro kvs us d r _;erw[Ad]at d;subst d;cases r;show#[[],KatTups.ϔ,rfl,λ_ h=>nomatch h]
 |cons k ks L=>
  intro kvs us d r C;erw[Ad]at d;let(v,t,e,P,R):=d;subst e;cases r with
  |cons Y rt=>
   let(c,h1,h2,h3):=L t _ R rt λk l=>C k<|Bl _ l;let m:=C k Bh;let(f,g,e):=m.X;subst e;let(a,vs,e,q,dl):=P;subst e;cases Y;let(its,x,(o,ho,hc,n,hd),_):=S.ϗ q;let(w,vs',e,G,_):=dl;subst e;cases x with
   |cons j rt1=>
    rename_i u us';apply#[u::c,KatTups.Θ ho hc hd (by simp) h1,by simp[h2],λv y=>?_];rcases Bx.mp y with e|y
    .subst e;intro A Q E s' l F;cases b with
     |true=>
      let(i,_,e):=m;cases e;let g:=G.p.r;subst g;let(t,rfl):=j;show Mu (T:="int") rfl F
     |false=>
      let(i,_,e):=m;cases e;let(a2,vs2,rfl,q2,_):=G;cases j;let(_,_,(o2,z,B,_),_):=S.ϗ q2;show Mu (T:="tuple") #[o2,l _ _ z,B] F
    .show h3 v y
theorem uF(B:Inv X pins I H s){M:Model}:∀(ks:U D)(kvs:U V)(us:U Aa),Ad X.K N H ks kvs->Aq kvs us->(∀k∈ks,Cu J k)->∀u∈us,Looks M s.u (typeOf u) (.ι "list"):=by
 intro ks;induction ks with
 |nil=>
  intro kvs us d r _;erw[Ad]at d;subst d;cases r;simp_all
 |cons k ks h=>
  intro kvs us d r f;erw[Ad]at d;let(v,t,e,i,j):=d;subst e;cases r with
  |cons l rt=>
   intro u b;rcases Bx.mp b with e|b
   .subst e;let(g,rfl):=f k Bh;let(a,y,rfl,q,_):=i.p;cases l;let(_,_,(o,n,m,w,_),_):=B.Ϩ q;intro A Q E z c x;show Mu (T:="list") #[o,c _ _ m,w] x
   .show h t _ j rt (λk c=>f k<|Bl _ c) u b
theorem uG(i:Inv X pins I H s){M:Model}{A:Ag}(b:O Bool)(ks:U D)(kvs:U V)(us:U Aa)(d:Ad X.K N H ks kvs)(r:Aq kvs us)(a:∀k∈ks,Cu b k)(c:2<=us.a){Q:Gq->Ab->Prop}(q:Q (Ou b) s):wpAny M A (keyKind' us.C) Q E s:=by
 cases b with
 |some b=>
  let(g,e,h,f):=uE i (M:=M) b ks kvs us d r a;apply kat_kind e ∅ f (by cases b<;>rfl) ?_;rw[show(Value.ι (if b=J' then "int" else "tuple") != Value.ι "tuple")=b by cases b<;>rfl];show q
 |none=>show kas_kind c (uF i ks kvs us d r a) rfl rfl q
structure Off(X:Cx)(pins:AZ)(a:Ac):Prop where
 nL:a≠X.G.ϖ
 s0:X.s₀.u.J.o<=a
 cl:∀x c,X.G.Ϥ.S x=Z c->c≠a
 pn:∀p∈X.pn++pins,p.1≠a
 nf:a∉X.fs
theorem Inv.off(g:Inv X pins I H s)(h:s.u.J.o<=a):Off X pins a where
 nL:=λe=>by have b:=g.lt;rw[<- e]at b;show absurd (B3 b h)<|Hw _
 s0:=Bv g.sz h;cl:=λx c e z=>by
  let(v,o,d,_):=g.Ν x c e;let b:=BN d;rw[z]at b;show absurd (B3 b h)<|Hw _
 pn:=λp f z=>by
  let b:=BN (g.pin p f).1;rw[z]at b;show absurd (B3 b h)<|Hw _
 nf:=g.nofs h
theorem Inv.pin1{o:Obj}(g:Inv X pins I H s)(c:H a=J)(f:Off X pins a)(e:s.u.R a=Z o)(d:∀v,o.data≠.Ν v):Inv X (pins++[(a,o)]) I H s:=g.pins_of λp b=>by
  rcases Cn.mp b with b|b
  .show g.pin p<|Dt _ b
  .erw[Ca]at b;subst b;show#[e,c,f.nL,f.nf,d]
theorem Inv.catch{d:U Aa}{n:Nat}(l:Inv X pins I H s)(h:H a=J)(f:Off X pins a)(e:s.u.R a=Z {cls:=.ι "list",data:=.Ϲ d.C n})(i:Aq vs d)(hz:vs.a<=Ay):Inv X pins I (AK H a (.O vs)) s:=by
 let ne:∀b u,H b=Z u->b≠a:=λb u q z=>by rw[z,h]at q;cases q
 have:=l.Τ (h':=s.u) (g':=s.gens) (d':=s.drawn) (t':=s.Γ) (ch:=[a]) (H':=AK H a<|.lst vs) (λb g=>by
   let e:b=a:=by exists g
   subst e;show#[.σ f.s0,f.nL,f.cl,f.pn]) (λb o _ _ _ q _=>q) (λb o _ _ _ q _=>#[o.slots,q]) (λb o g _ n=>by rw[Zl<|λz=>g (by simp[z])];show n) (λb o _ q=>#[o,q])
  (λb j q=>Zl (ne _ _ q) ▸ q) (λb o u q=>Zl (ne _ _ q) ▸ q) (λb A q=>#[(T' []),by rw[Zl<|ne _ _ q,q];simp]) (λm k=>k) (λb u q=>by
   by_cases g:b=a
   .subst g;rw[ZT]at q;cases q;show#[hz,d,n,i,e]
   .rw[Zl g]at q;show(l.Ϫ b u q).stay (λc v _ r=>r) (λc r=>Zl (ne _ _ r) ▸ r) λc j r=>Zl (ne _ _ r) ▸ r) l.bare
 show this
end
def D1(F:U Sl->O Rv)(x:D):D:=((F [.y x]).j Dk).Y .Α
def CU(F:U Sl->O Rv)(x y:D):Bool:=match ltN 6 (D1 F x) (D1 F y)with
 |some J'=>J'
 |_=>O'
theorem b5{F:U Sl->O Rv}{x y:D}{r:Bool}(h:ltN 6 (D1 F x) (D1 F y)=Z r):CU F x y=r:=by
 unfold CU;rw[h];cases r<;>rfl
def Kp:Bool->An->Array An->Nat->Nat->Nat->StateT Ah BP (O Nat):=sortPriv% PySem.Builtin.gallop
def Ov(left:Bool)(a:An)(arr:Array An)(base i:Nat):StateT Ah BP (O Bool):=do
 let x <- BG arr (base+i)
 if left then lt' x a else return(<- lt' a x).j (!·)
def QJ(left:Bool)(c:An)(arr:Array An)(base n lo a:Nat):StateT Ah BP (O Nat):=do
 let mut lo:=lo
 let mut a:=a
 for _ in [0:n]do
  if lo≥a then break
  let m:=lo+(a-lo)/2
  let Z b <- Ov left c arr base m|return J
  if b then lo:=m+1 else a:=m
 return Z a
theorem uH(left:Bool)(d:An)(arr:Array An)(base n hint:Nat):Kp left d arr base n hint=(do
 let mut a:=0
 let mut c:=1
 let Z right <- Ov left d arr base hint|return J
 if right then
  let b:=n-hint
  for _ in [0:n]do
   if c≥b then break
   let Z f <- Ov left d arr base (hint+c)|return J
   if !f then break
   a:=c
   c:=2*c+1
  QJ left d arr base n (hint+a+1) (hint+min c b)
 else
  let b:=hint+1
  for _ in [0:n]do
   if c≥b then break
   let Z e <- Ov left d arr base (hint-c)|return J
   if e then break
   a:=c
   c:=2*c+1
  QJ left d arr base n (hint+1-min c b) (hint-a)):=rfl
def Lo(n:Nat)(p:Array Nat):Prop:=∀i,i<p.o->Au p i<n
section
variable{prog:AM}{w:Aj}{A:Ag}{E:Aa->Ab->Prop}{s:Ab}{item:Nat->An}{r:Nat->Nat}{n:Nat}
def LK(prog:AM)(w:Aj)(A:Ag)(E:Aa->Ab->Prop)(s:Ab)(κ:Gq)(item:Nat->An)(r:Nat->Nat)(n:Nat):Prop:=
 ∀(i j:Nat),i<n->j<n->∀(Q:O Bool->Ah->Prop) (st:Ah),kindOf st=κ->Q (Z (decide (r i<r j))) st->wpS (Ae prog w) A E s (lt' (item i) (item j)) Q st
theorem ZW{p:Array Nat}{i:Nat}(a:i<p.o){Q:An->Ah->Prop}{st:Ah}(h:Q (item (Au p i)) st):wpS (Ae prog w) A E s (BG (p.j item) i) Q st:=by
 rw[elem'_eq];let e:(p.j item)[i]?=Z (item<|Au p i):=by
  let e:Au p i=p[i]:=by simp[Au,Jr,a]
  rw[e];simp[a]
 rw[e];show Bi h
variable(H:LK prog w A E s κ item r n)
include H
theorem QK{k:Nat}{p:Array Nat}{base i:Nat}(b:k<n)(c:Lo n p)(a:base+i<p.o){Q:O Bool->Ah->Prop}{st:Ah}(d:kindOf st=κ) (h:Q (Z (decide (r (Au p (base+i))<if left then r k else r k+1))) st):wpS (Ae prog w) A E s (Ov left (item k) (p.j item) base i) Q st:=by
 apply AY<|ZW a ?_;cases left with|true=>show H _ _ (c _ a) b _ _ d h|false=>
  apply AY<|H _ _ b (c _ a) _ _ d<|Bi ?_;let e:(Z<|decide<|r k<r (Au p<|base+i)).j (!·)=Z (decide<|r (Au p<|base+i)<r k+1):=by
   congr 1;by_cases h:r k<r (Au p<|base+i)
   .rw[decide_eq_true h,decide_eq_false<|Nat.not_lt.ϡ h];rfl
   .rw[decide_eq_false h,decide_eq_true<|LL h];rfl
  rw[e];show h
theorem b9{k:Nat}{p:Array Nat}{base m lo e:Nat}(F:k<n)(L:Lo n p)(Y:base+m<=p.o)(C:∀i j,i<=j->j<m->r (Au p (base+i))<=r (Au p (base+j))) {c:Nat} (M:c=if left then r k else r k+1) (G:lo<=e) (q:e<=m) (N:∀i,i<lo->r (Au p (base+i))<c) (K:∀i,e<=i->i<m->¬ r (Au p (base+i))<c) {Q:O Nat->Ah->Prop} {st:Ah} (T:kindOf st=κ) (h:∀t,t<=m->(∀i,i<t->r (Au p (base+i))<c)->(∀i,t<=i->i<m->¬ r (Au p (base+i))<c)->Q (Z t) st):wpS (Ae prog w) A E s (QJ left (item k) (p.j item) base m lo e) Q st:=by
 unfold QJ;dsimp only;apply AY (wpS_mono (LM (λx b d=>d=st/\∃l u,b=(J,l,u)/\l<=u/\u<=m/\u+x<=m+l/\(∀i,i<l->r (Au p<|base+i)<c)/\(∀i,u<=i->i<m->¬ r (Au p<|base+i)<c))
  (Q:=λb d=>d=st/\∃l u,b=(J,l,u)/\u<=m/\(∀i,i<u->r (Au p<|base+i)<c)/\(∀i,u<=i->i<m->¬ r (Au p<|base+i)<c)) ?_ ?_ ⟨rfl,lo,e,rfl,G,q,by show NR q,N,K⟩) ?_)
 .intro x b d _ hx zQ;let(rfl,l,u,rfl,a1,g,R,f,o):=zQ;dsimp only;by_cases z:l≥u
  .rw[if_pos z];show Bi #[rfl,l,u,rfl,g,λi e=>f i<|B3 e z,o]
  .rw[if_neg z];let P:l<=l+(u-l)/2:=HS _ _;let B:l+(u-l)/2<u:=by clear R;lia
   generalize l+(u-l)/2=v at P B ⊢;apply AY<|QK H F L ∅ T ?_;rw[<- M];by_cases y:r (Au p<|base+v)<c
   .erw[y,decide_true,if_true];show Bi #[rfl,_,_,rfl,by show Nat.succ_le_of_lt B,∅,∅,λi e=>GO (C i v (Ow e)<|B3 B g) y,o]
   .erw[y,decide_false,FU,if_false];show Bi #[rfl,_,_,rfl,by show FV λa=>y<|f v a,∅,∅,f,λi G q=>by have:=C v i ∅<|Nat.lt_of_succ_le q;lia]
 .intro b d zQ;let(rfl,l,u,rfl,a1,g,R,f,o):=zQ;show⟨rfl,l,u,rfl,g,λi e=>f i ∅,o⟩
 .intro b d zQ;let(rfl,l,u,rfl,g,f,o):=zQ;show Bi<|h u g f o
theorem MU{k:Nat}{p:Array Nat}{base m hint:Nat}(u:k<n)(v:Lo n p)(G:base+m<=p.o)(K:hint<m)(g:∀i j,i<=j->j<m->r (Au p (base+i))<=r (Au p (base+j)))
  {Q:O Nat->Ah->Prop} {st:Ah} (y:kindOf st=κ)
  (h:∀t,t<=m->(∀i,i<t->r (Au p (base+i))<if left then r k else r k+1)->(∀i,t<=i->i<m->¬ r (Au p (base+i))<if left then r k else r k+1)->Q (Z t) st):wpS (Ae prog w) A E s (Kp left (item k) (p.j item) base m hint) Q st:=by
 rw[uH]
 obtain⟨c,q⟩:∃c,c=if left then r k else r k+1:=#[_,rfl]
 rw[<- q]at h
 apply AY (QK H u v ∅ y ?_)
 rw[<- q]
 by_cases z:r (Au p (base+hint))<c
 .erw[z,decide_true,if_true]
  apply AY (wpS_mono (LM (λx b a=>a=st/\∃l o,b=(J,l,o)/\l<o/\l<m-hint/\x+1<=o/\r (Au p (base+(hint+l)))<c)
   (Q:=λb a=>a=st/\∃l o,b=(J,l,o)/\l<o/\l<m-hint/\r (Au p (base+(hint+l)))<c/\(o<m-hint->¬ r (Au p (base+(hint+o)))<c)) ?_ ?_ #[rfl,0,1,rfl,by show Nat.one_pos,by show Nat.zero_lt_sub_of_lt K,by show Ur rfl,z]) ?_)
  .intro x b a _ M zQ;let(rfl,l,o,rfl,a1,d,B,e):=zQ
   by_cases f:o≥m-hint
   .rw[if_pos f]
    show Bi #[rfl,l,o,rfl,a1,d,e,λh=>∅]
   .rw[if_neg f]
    apply AY (QK H u v ∅ y ?_)
    rw[<- q]
    by_cases hz:r (Au p (base+(hint+o)))<c
    .erw[hz,decide_true,IC,FU,if_false]
     show Bi #[rfl,_,_,rfl,∅,by show LL f,∅,hz]
    .erw[hz,decide_false,Bool.not_false,if_true]
     show Bi #[rfl,l,o,rfl,a1,d,e,λ_=>hz]
  .intro b a zQ;let(rfl,l,o,rfl,a1,d,B,e):=zQ
   show#[rfl,l,o,rfl,a1,d,e,λh=>∅]
  .intro b a zQ;let(rfl,l,o,rfl,a1,d,e,F):=zQ
   apply b9 H u v G g q ∅ ∅ (λi L=>GO (g i (hint+l) (Ow L) (QL d)) e) (λi N C=>?_) y h
   have:=g (hint+o) i ∅ C
   lia
 .erw[z,decide_false,FU,if_false]
  apply AY (wpS_mono (LM (λx b a=>a=st/\∃l o,b=(J,l,o)/\l<o/\l<hint+1/\x+1<=o/\¬ r (Au p (base+(hint-l)))<c)
   (Q:=λb a=>a=st/\∃l o,b=(J,l,o)/\l<o/\l<hint+1/\¬ r (Au p (base+(hint-l)))<c/\(o<hint+1->r (Au p (base+(hint-o)))<c)) ?_ ?_ #[rfl,0,1,rfl,by show Nat.one_pos,by show Nat.zero_lt_succ hint,by show Ur rfl,z]) ?_)
  .intro x b a _ M zQ;let(rfl,l,o,rfl,a1,d,B,e):=zQ
   by_cases f:o≥hint+1
   .rw[if_pos f]
    show Bi #[rfl,l,o,rfl,a1,d,e,λh=>∅]
   .rw[if_neg f]
    apply AY (QK H u v ∅ y ?_)
    rw[<- q]
    by_cases hz:r (Au p (base+(hint-o)))<c
    .erw[hz,decide_true,if_true]
     show Bi #[rfl,l,o,rfl,a1,d,e,λ_=>hz]
    .erw[hz,decide_false,FU,if_false]
     show Bi #[rfl,_,_,rfl,∅,by show LL f,∅,hz]
  .intro b a zQ;let(rfl,l,o,rfl,a1,d,B,e):=zQ
   show#[rfl,l,o,rfl,a1,d,e,λh=>∅]
  .intro b a zQ;let(rfl,l,o,rfl,a1,d,e,F):=zQ
   apply b9 H u v G g q ∅ ∅ (λi L=>?_) (λi N C=>?_) y h
   .show GO (g i (hint-o) ∅ (Nat.sub_lt_of_lt K)) (F (show o<hint+1 by lia))
   .have:=g (hint-l) i ∅ C
    lia
end
def Us:Array An->Array An->StateT Ah BP (Array An):=sortPriv% PySem.Builtin.mergeLo
def Ut:Array An->Array An->StateT Ah BP (Array An):=sortPriv% PySem.Builtin.mergeHi
def Ox(g:Nat):StateT Ah BP Unit:=modify λst=>SortSt.mk' (kindOf st) (arrOf st) (GP st) g (HW st)
def ID(a b out:Array An)(c d:Nat):=out++a.ζ c a.o++b.ζ d b.o
def MV(a b out:Array An)(c d:Nat):=out++b.ζ d b.o++a.ζ c a.o
def IE(a b out:Array An)(c d:Nat):=a.ζ 0 c++b.ζ 0 d++out.ϧ
def MW(a b out:Array An)(c d:Nat):=b.ζ 0 d++a.ζ 0 c++out.ϧ
abbrev Oy:=O (Array An)×Array An×Nat×Nat×Nat×Nat×Nat
abbrev Uu:=O (Array An)×Array An×Nat×Nat×Nat×Nat
abbrev Oz:=O (Array An)×Array An×Nat×Nat×Nat
def Uv(a b:Array An)(mg d e:Nat)(out:Array An)(c f:Nat):StateT Ah BP (ForInStep Oy):=do
 let out:=out.Ο (<- BG a c)
 if c+1+1==a.o then Am (.Ϙ (Z (MV a b out (c+1) f),out,c+1,f,mg,d,e))
 else if d<7&&e<7 then Am (.Ϙ (J,out,c+1,f,mg,d,e))else Am (.yield (J,out,c+1,f,mg,d,e))
def Uw(a b:Array An)(mg e f:Nat)(out:Array An)(d c:Nat):StateT Ah BP (ForInStep Oy):=do
 let out:=out.Ο (<- BG b c)
 if c+1==b.o then Am (.Ϙ (Z (ID a b out d (c+1)),out,d,c+1,mg,e,f))else
  match <- Kp J' (<- BG a d) b (c+1) (b.o-(c+1)) 0 with
  |some k=>
   if k>0 then
    let out:=out++b.ζ (c+1) (c+1+k)
    if c+1+k==b.o then Am (.Ϙ (Z (ID a b out d (c+1+k)),out,d,c+1+k,mg,e,k))else Uv a b mg e k out d (c+1+k)
   else Uv a b mg e k out d (c+1)
  |_=>Am (.Ϙ (Z (ID a b out d (c+1)),out,d,c+1,mg,e,f))
def QM(a b:Array An)(mg f e:Nat)(out:Array An)(c d:Nat):StateT Ah BP (ForInStep Oy):=do
 Ox mg
 match <- Kp O' (<- BG b d) a c (a.o-c) 0 with
 |some k=>
  if k>0 then
   let out:=out++a.ζ c (c+k)
   if c+k+1==a.o then Am (.Ϙ (Z (MV a b out (c+k) d),out,c+k,d,mg,k,e))
   else if c+k==a.o then Am (.Ϙ (Z (ID a b out (c+k) d),out,c+k,d,mg,k,e))
   else Uw a b mg k e out (c+k) d
  else Uw a b mg k e out c d
 |_=>Am (.Ϙ (Z (ID a b out c d),out,c,d,mg,f,e))
def ca(a b:Array An)(mg:Nat):Uu->StateT Ah BP (ForInStep Uu):=λs=>do
 let out:=s.2.1
 let c:=s.2.2.1
 let d:=s.2.2.2.1
 match <- lt' (<- BG b d) (<- BG a c)with
 |some w=>
  if w then
   let out:=out.Ο (<- BG b d)
   if d+1==b.o then Am (.Ϙ (Z (ID a b out c (d+1)),out,c,d+1,0,s.2.2.2.2.2+1))else
    if s.2.2.2.2.2+1≥mg then Am (.Ϙ (J,out,c,d+1,0,s.2.2.2.2.2+1))else Am (.yield (J,out,c,d+1,0,s.2.2.2.2.2+1))
  else
   let out:=out.Ο (<- BG a c)
   if c+1+1==a.o then Am (.Ϙ (Z (MV a b out (c+1) d),out,c+1,d,s.2.2.2.2.1+1,0))else
    if s.2.2.2.2.1+1≥mg then Am (.Ϙ (J,out,c+1,d,s.2.2.2.2.1+1,0))else Am (.yield (J,out,c+1,d,s.2.2.2.2.1+1,0))
 |_=>Am (.Ϙ (Z (ID a b out c d),out,c,d,s.2.2.2.2.1,s.2.2.2.2.2))
def uI(a b:Array An):Oy->StateT Ah BP (ForInStep Oy):=λs=>
 if s.2.2.2.2.1>1 then QM a b (s.2.2.2.2.1-1) s.2.2.2.2.2.1 s.2.2.2.2.2.2 s.2.1 s.2.2.1 s.2.2.2.1 else QM a b s.2.2.2.2.1 s.2.2.2.2.2.1 s.2.2.2.2.2.2 s.2.1 s.2.2.1 s.2.2.2.1
def cc(a b:Array An):Oz->StateT Ah BP (ForInStep Oz):=λs=>do
 let t <- forIn [0:a.o+b.o] (J,s.2.1,s.2.2.1,s.2.2.2.1,0,0) λ_=>ca a b s.2.2.2.2
 Js (λ_=>StateT Ah BP (ForInStep Oz)) t.1 (λr=>Am (.Ϙ (Z r,t.2.1,t.2.2.1,t.2.2.2.1,s.2.2.2.2))) λ_=>do
  rule "list.sort.gallop"
  let t <- forIn [0:a.o+b.o] (J,t.2.1,t.2.2.1,t.2.2.2.1,s.2.2.2.2+1,t.2.2.2.2.1,t.2.2.2.2.2) λ_=>uI a b
  Js (λ_=>StateT Ah BP (ForInStep Oz)) t.1 (λr=>Am (.Ϙ (Z r,t.2.1,t.2.2.1,t.2.2.2.1,t.2.2.2.2.1))) λ_=>do
   Ox (t.2.2.2.2.1+1);Am (.yield (J,t.2.1,t.2.2.1,t.2.2.2.1,t.2.2.2.2.1+1))
theorem uJ(a b:Array An):Us a b=(do
 rule "list.sort.merge-lo";let out:=((T' [<- BG b 0]):Array An);if 1==b.o then Am (ID a b out 0 1)else
  if 0+1==a.o then Am (MV a b out 0 1)else do
   let t <- forIn [0:a.o+b.o] (J,out,0,1,gallopOf (<- get)) λ_=>cc a b
   Js (λ_=>StateT Ah BP (Array An)) t.1 Am λ_=>unsupported "internal:list.sort.merge-bound"):=rfl
theorem Zp{M:Model}{A:Ag}{E:Aa->Ab->Prop}{s:Ab}{I a:Type}{c:Prop}[Decidable c]{m1 m2:StateT I BP a}{Q:a->I->Prop}{st:I}(b:c->wpS M A E s m1 Q st)(d:¬ c->wpS M A E s m2 Q st):wpS M A E s (if c then m1 else m2) Q st:=by
 by_cases h:c
 .rw[if_pos h];show b h
 .rw[if_neg h];show d h
abbrev F2(st:Ah)(g:Nat):Ah:=SortSt.mk' (kindOf st) (arrOf st) (GP st) g (HW st)
section
variable{prog:AM}{w:Aj}{A:Ag}{E:Aa->Ab->Prop}{s:Ab}{item:Nat->An}{r:Nat->Nat}{n:Nat}
theorem QN{g:Nat}{Q:Unit->Ah->Prop}{st:Ah}(h:Q () (F2 st g)):wpS (Ae prog w) A E s (Ox g) Q st:=wpS_modify h
structure DD(r:Nat->Nat)(n:Nat)(pa pb:Array Nat):Prop where
 la:Lo n pa
 lb:Lo n pb
 sa:∀i j,i<=j->j<pa.o->r (Au pa i)<=r (Au pa j)
 sb:∀i j,i<=j->j<pb.o->r (Au pb i)<=r (Au pb j)
 a1:1<=pa.o
 b1:1<=pb.o
 fst:∀i,i<pa.o->r (Au pb 0)<r (Au pa i)
 lst:∀i,i<pb.o->r (Au pb i)<r (Au pa (pa.o-1))
structure Em(r:Nat->Nat)(pa pb pm:Array Nat):Prop where
 perm:pm.B.Ϧ (pa.B++pb.B)
 so:pm.B.Ϛ λx y=>r x<=r y
structure DE(r:Nat->Nat)(pa pb po:Array Nat)(ia ib:Nat):Prop where
 perm:po.B.Ϧ (pa.B.ϋ ia++pb.B.ϋ ib)
 so:po.B.Ϛ λx y=>r x<=r y
 ma:∀x∈po.B,ia<pa.o->r x<=r (Au pa ia)
 mb:∀x∈po.B,ib<pb.o->r x<=r (Au pb ib)
theorem Ux{p:Array Nat}{i:Nat}(a:i<p.o):p.B[i]?=Z (Au p i):=by
 rw[show Au p i=p[i] by simp[Au,Jr,a]];simp[a]
theorem Uy{p:Array Nat}{i:Nat}(a:i<p.o):p.B.ϋ (i+1)=p.B.ϋ i++[Au p i]:=by
 rw[List.take_add_one,Ux a];rfl
theorem QO{p:Array Nat}{i:Nat}(a:i<p.o):p.B.ρ i=Au p i::p.B.ρ (i+1):=by
 rw[HK (by exists a),show Au p i=p.B[i]'(by exists a) by simp[Au,Jr,a]]
theorem MY{p:Array Nat}(h:∀i j,i<=j->j<p.o->r (Au p i)<=r (Au p j)):p.B.Ϛ λx y=>r x<=r y:=by
 rw[QP];intro i j c a b;have:=h i j (Kq b) (by exists a);rw[show Au p i=p.B[i] by simp at c;simp[Au,Jr,c],show Au p j=p.B[j] by simp at a;simp[Au,Jr,a]]at this;show this
theorem MZ{p:Array Nat}{k x:Nat}(h:x∈p.B.ρ k):∃i,k<=i/\i<p.o/\x=Au p i:=by
 let(i,a,rfl):=Uz.mp h;simp at a;apply#[k+i,by show HS k i,by show QL a,?_];simp[Au,Jr,show k+i<p.size by show QL a]
variable{pa pb po:Array Nat}{ia ib:Nat}
theorem DE.stepB(P:DD r n pa pb)(f:DE r pa pb po ia ib)(d:ia<pa.o)(b:ib<pb.o)(h:r (Au pb ib)<=r (Au pa ia)):DE r pa pb (po.Ο (Au pb ib)) ia (ib+1):=by
 apply#[?_,?_,λx a _=>?_,λx a c=>?_]
 .rw[Uy b,E6,<- Dr];show f.perm.ϙ _
 .rw[E6,IF];show#[f.so,M0 _ _,λx a y e=>by rw[Ca.mp e];show f.mb x a b]
 .rw[E6,Cn,Ca]at a;rcases a with a|rfl
  .show f.ma x a d
  .show h
 .rw[E6,Cn,Ca]at a;rcases a with a|rfl
  .show Bv (f.mb x a b)<|P.sb _ _ (HS ib 1) c
  .show P.sb _ _ (HS ib 1) c
theorem DE.stepA(P:DD r n pa pb)(f:DE r pa pb po ia ib)(b:ia<pa.o)(d:ib<pb.o)(h:r (Au pa ia)<=r (Au pb ib)):DE r pa pb (po.Ο (Au pa ia)) (ia+1) ib:=by
 apply#[?_,?_,λx a c=>?_,λx a _=>?_]
 .rw[Uy b,E6,Dr];refine(f.perm.ϙ _).E ?_;rw[Dr];show QQ _ Kr
 .rw[E6,IF];show#[f.so,M0 _ _,λx a y e=>by rw[Ca.mp e];show f.ma x a b]
 .rw[E6,Cn,Ca]at a;rcases a with a|rfl
  .show Bv (f.ma x a b)<|P.sa _ _ (HS ia 1) c
  .show P.sa _ _ (HS ia 1) c
 .rw[E6,Cn,Ca]at a;rcases a with a|rfl
  .show f.mb x a d
  .show h
theorem ce{p q:Array Nat}{i k:Nat}(h:i+k<q.o):p++q.ζ i (i+(k+1))=(p++q.ζ i (i+k)).Ο (Au q (i+k)):=by
 apply(Ks.mp);erw[Jt,E6,IG,Fz,Dr];congr 1;rw[show i+(k+1)-i=k+1 by show Nat.add_sub_self_left i (k+1),show i+k-i=k by show Nat.add_sub_self_left i k,List.take_add_one,Lf,Ux h];rfl
theorem DE.blockA(P:DD r n pa pb):∀(k:Nat){po:Array Nat},DE r pa pb po ia ib->ia+k<=pa.o->ib<pb.o->(∀i,i<k->r (Au pa (ia+i))<=r (Au pb ib))->DE r pa pb (po++pa.ζ ia (ia+k)) (ia+k) ib
 |0,po,e,_,_,_=>by
  rw[show po++pa.ζ ia (ia+0)=po by simp<;>show Nat.min_le_left ia pa.o];show e
 |k+1,po,e,c,a,b=>by
  rw[ce ∅];show(DE.blockA P k e (Kq c) a λi d=>b i<|Nat.lt_add_right 1 d).stepA P ∅ a (b k<|Nat.lt_add_one k)
theorem DE.blockB(P:DD r n pa pb):∀(k:Nat){po:Array Nat},DE r pa pb po ia ib->ib+k<=pb.o->ia<pa.o->(∀i,i<k->r (Au pb (ib+i))<=r (Au pa ia))->DE r pa pb (po++pb.ζ ib (ib+k)) ia (ib+k)
 |0,po,e,_,_,_=>by
  rw[show po++pb.ζ ib (ib+0)=po by simp<;>show Nat.min_le_left ib pb.o];show e
 |k+1,po,e,c,a,b=>by
  rw[ce ∅];show(DE.blockB P k e (Kq c) a λi d=>b i<|Nat.lt_add_right 1 d).stepB P a ∅ (b k<|Nat.lt_add_one k)
theorem DE.done(P:DD r n pa pb)(e:DE r pa pb po ia ib)(h:ib=pb.o):∃pm:Array Nat,ID (pa.j item) (pb.j item) (po.j item) ia ib=pm.j item/\Em r pa pb pm:=by
 subst h;apply#[po++pa.ζ ia pa.o,?_,?_,?_]
 .apply(Ks.mp);simp[ID,Fz]
 .let h:=e.perm.ϙ<|pa.B.ρ ia;rw[Hf (l:=pb.B) (by simp),Dr]at h;erw[Jt,IG,Fz];rw[Hf (by simp)];apply h.E<|(QQ _ Kr).E ?_;rw[<- Dr,Ju _ _]
 .erw[Jt,IG,Fz];rw[Hf (by simp),IF];apply#[e.so,(MY P.sa).ρ,λx c y d=>?_];let(i,a,b,rfl):=MZ d;show Bv (e.ma x c<|GO a b)<|P.sa _ _ a b
theorem DE.last(P:DD r n pa pb)(g:DE r pa pb po ia ib)(h:ia+1=pa.o):∃pm:Array Nat,MV (pa.j item) (pb.j item) (po.j item) ia ib=pm.j item/\Em r pa pb pm:=by
 apply#[po++pb.ζ ib pb.o++pa.ζ ia pa.o,?_,?_,?_]
 .apply(Ks.mp);simp[MV,Fz]
 .let h:=(g.perm.ϙ<|pb.B.ρ ib).ϙ<|pa.B.ρ ia;erw[Jt,IG,Fz];rw[Hf (l:=List.ρ ib _) (by simp),Hf (l:=List.ρ ia _) (by simp)];apply h.E ?_;rw[Dr<|pa.B.ϋ ia,Ju _ _,Dr];refine(QQ _ Kr).E ?_;rw[<- Dr,Ju _ _]
 .erw[Jt,IG,Fz];rw[Hf (l:=List.ρ ib _) (by simp),Hf (l:=List.ρ ia _) (by simp),IF,IF];apply#[#[g.so,(MY P.sb).ρ,λx a y c=>?_],(MY P.sa).ρ,λx a y c=>?_]
  .let(i,d,b,rfl):=MZ c;show Bv (g.mb x a<|GO d b)<|P.sb _ _ d b
  .let(i,d,b,rfl):=MZ c;have:i=ia:=∅
   subst this;rcases Cn.mp a with a|a
   .show g.ma x a b
   .let(j,f,e,rfl):=MZ a;have:=P.O j e;rw[<- h]at this;show F8 this
end
def FB{a I:Type}(Q d:a->I->Prop)(c:ForInStep a):I->Prop:=match c with | .done b=>Q b | .yield b=>d b
theorem Jv{prog:AM}{w:Aj}{A:Ag}{E:Aa->Ab->Prop}{s:Ab}{a:Type}{b:Nat}{f:Nat->a->StateT Ah BP (ForInStep a)}(k:Nat->a->Ah->Prop)(Q:a->Ah->Prop){R:a->Ah->Prop}(d:∀i c st,i<b->k i c st->wpS (Ae prog w) A E s (f i c) (FB Q (k (i+1))) st)(e:∀c st,k b c st->Q c st){c:a}{st:Ah}(h:k 0 c st)(g:∀c st,Q c st->R c st):wpS (Ae prog w) A E s (forIn [0:b] c f) R st:=wpS_mono (LM k (λi c st _ j h=>wpS_mono (d i c st j h) λc _ h=>by cases c<;>show h) (λc st h=>e c st (by rwa[Nat.zero_max]at h)) h) g
theorem Kt{p:Array Nat}{i:Nat}:(p.j item).Ο (item i)=(p.Ο i).j item:=by simp
theorem cf{p q:Array Nat}{i:Nat}:p.j item++(q.j item).ζ i j=(p++q.ζ i j).j item:=by simp
section
variable(r:Nat->Nat)(item:Nat->An)(pa pb:Array Nat)(S:Ah)
def MQ{a:Type}(b:O (Array An)×a)(st:Ah):Prop:=∃g pm,st=F2 S g/\b.1=Z (pm.j item)/\Em r pa pb pm
def LI{e:Type}(x:Nat)(b:O (Array An)×Array An×Nat×Nat×e)(st:Ah):Prop:=∃g po a d c,st=F2 S g/\b=(J,po.j item,a,d,c)/\DE r pa pb po a d/\a+1<pa.o/\d<pb.o/\x<=a+d
def LQ{a:Type}(x:Nat)(b:O (Array An)×Array An×Nat×Nat×a)(st:Ah):Prop:=LI r item pa pb S x b st\/MQ r item pa pb S b st
end
section
variable{prog:AM}{w:Aj}{A:Ag}{E:Aa->Ab->Prop}{s:Ab}{item:Nat->An}{r:Nat->Nat}{n:Nat}{pa pb:Array Nat}
theorem cg(P:DD r n pa pb){st:Ah}{x y g mg f i a b:Nat}{po:Array Nat}(l:DE r pa pb po a b)(c:a+1<pa.o)(i2:b<pb.o)(j:x+1+(y+1)<=a+1+b)(h:r (Au pa a)<=r (Au pb b)):wpS (Ae prog w) A E s (Uv (pa.j item) (pb.j item) mg f i (po.j item) a b) (FB (LQ r item pa pb st (x+2)) (LI r item pa pb st (x+1+(y+1)))) (F2 st g):=by
 let k:=l.stepA P (FA c) i2 h;apply AY<|ZW (FA c) ?_;dsimp only;rw[Kt];apply Zp (λq=>?_) λq=>?_
 .let(pm,e,R):=k.last (item:=item) P (by exists q);rw[e];show Bi<|.σ ⟨g,pm,rfl,rfl,R⟩
 let d:a+1+1≠pa.o:=by exists q
 show Zp (λq=>Bi<|.inl ⟨g,_,_,_,_,rfl,rfl,k,by show IH c d,i2,∅⟩) λq=>Bi #[g,_,_,_,_,rfl,rfl,k,by show IH c d,i2,by show Nat.succ_le_of_lt j]
variable(H:LK prog w A E s κ item r n)
include H
theorem cj(P:DD r n pa pb){st:Ah}(p:kindOf st=κ){x y g mg t u b a:Nat}{po:Array Nat}(K:DE r pa pb po b a)(c:b+1<pa.o)(i2:a<pb.o)(G:x+1+y<=b+a)(h:r (Au pb a)<=r (Au pa b)):wpS (Ae prog w) A E s (Uw (pa.j item) (pb.j item) mg t u (po.j item) b a) (FB (LQ r item pa pb st (x+2)) (LI r item pa pb st (x+1+(y+1)))) (F2 st g):=by
 let v:(pb.j item).o=pb.o:=II;let F:=K.stepB P (FA c) i2 h;apply AY<|ZW i2 ?_;dsimp only;rw[Kt,v];apply Zp (λq=>?_) λq=>?_
 .let(pm,e,R):=F.Ϙ (item:=item) P (by exists q);rw[e];show Bi<|.σ ⟨g,pm,rfl,rfl,R⟩
 let f:a+1≠pb.o:=by exists q
 apply AY<|ZW (FA c)<|AY<|MU H (P.la _<|FA c) P.lb ∅ ∅ (λi j z B=>P.sb _ _ (M4.ϡ z)<|QL B) p λk l1 l m=>?_;erw[if_true]at l m;let o:=DE.blockB P k F ((Nat.le_sub_iff_add_le' i2).mp l1) (FA c) λi C=>F8<|l i C;let d:a+1+k<pb.size->r (Au pa b)<=r (Au pb<|a+1+k):=λ_=>by
  have:=m k (AX _) ∅;show FV this
 apply Zp (λq=>?_) λq=>?_
 .rw[cf];apply Zp (λq=>?_) λq=>?_
  .let(pm,e,R):=o.Ϙ (item:=item) P (by exists q);rw[e];show Bi<|.σ ⟨g,pm,rfl,rfl,R⟩
  let f:a+1+k≠pb.o:=by exists q
  show cg P o c ∅ ∅<|d ∅
 .let e:k=0:=Nat.eq_zero_of_not_pos q;subst e;show cg P F c (IH i2 f) ∅<|d<|IH i2 f
theorem ck(P:DD r n pa pb){st:Ah}(l:kindOf st=κ){x y g mg u v a b:Nat}{po:Array Nat}(K:DE r pa pb po a b)(B:a+1<pa.o)(i2:b<pb.o)(C:x+1+y<=a+b):wpS (Ae prog w) A E s (QM (pa.j item) (pb.j item) mg u v (po.j item) a b) (FB (LQ r item pa pb st (x+2)) (LI r item pa pb st (x+1+(y+1)))) (F2 st g):=by
 unfold QM;rw[II];apply AY<|QN<|AY<|ZW i2<|AY<|MU H (P.lb _ i2) P.la ∅ ∅ (λi j m o=>P.sa _ _ (M4.ϡ m)<|QL o) l λk G d p=>?_;erw[FU,if_false]at d p;let f:a+k+1<=pa.o:=by
  rcases ER (a+k) pa.size with h|h
  .show Nat.succ_le_of_lt h
  .let m:=d (pa.o-1-a) ∅;let o:=P.O b i2;rw[show a+(pa.o-1-a)=pa.o-1 by lia]at m;lia
 let F:=DE.blockA P k K (Kq f) i2 λi t=>by have:=d i t;show Ow<|d i t
 let c:a+k<pa.o->r (Au pb b)<=r (Au pa<|a+k):=λ_=>by
  have:=p k (AX _)<|Nat.lt_sub_iff_add_lt'.ϡ f;lia
 apply Zp (λq=>?_) λq=>?_
 .dsimp only;rw[cf];apply Zp (λq=>?_) λq=>?_
  .let(pm,e,R):=F.last (item:=item) P (by exists q);rw[e];show Bi<|.σ ⟨mg,pm,rfl,rfl,R⟩
  let z:a+k+1≠pa.o:=by exists q
  apply Zp (λq=>?_) λq=>cj H P l F (IH f z) i2 ∅<|c ∅;have:a+k=pa.o:=by exists q
  lia
 .let e:k=0:=Nat.eq_zero_of_not_pos q;subst e;show cj H P l K ∅ i2 ∅<|c<|Nat.add_lt_of_lt_sub f
theorem uK(P:DD r n pa pb){S:Ah}(i:kindOf S=κ){x mg:Nat}{b:Uu}{st:Ah}(h:LI r item pa pb S (x+1) b st):wpS (Ae prog w) A E s (ca (pa.j item) (pb.j item) mg b) (FB (LQ r item pa pb S (x+1)) (LI r item pa pb S (x+1))) st:=by
 let(g,po,j,k,c,rfl,rfl,m,a,i2,f):=h;apply AY<|ZW i2<|AY<|ZW (FA a)<|AY<|H _ _ (P.lb _ i2) (P.la _<|FA a) _ _ i ?_;apply Zp (λq=>?_) λq=>?_
 .let l:=m.stepB P (FA a) i2<|F8<|of_decide_eq_true q;apply AY<|ZW i2 ?_;dsimp only;rw[Kt];apply Zp (λq=>?_) λq=>?_
  .let(pm,e,R):=l.Ϙ (item:=item) P (by exists q);rw[e];show Bi<|.σ ⟨g,pm,rfl,rfl,R⟩
  let d:k+1≠pb.o:=by exists q
  show Zp (λq=>Bi<|.inl ⟨g,_,_,_,_,rfl,rfl,l,a,by show IH i2 d,by show GQ f⟩) λq=>Bi #[g,_,_,_,_,rfl,rfl,l,a,by show IH i2 d,by show GQ f]
 .let l:=m.stepA P (FA a) i2<|FV λh=>q<|decide_eq_true h;apply AY<|ZW (FA a) ?_;dsimp only;rw[Kt];apply Zp (λq=>?_) λq=>?_
  .let(pm,e,R):=l.last (item:=item) P (by exists q);rw[e];show Bi<|.σ ⟨g,pm,rfl,rfl,R⟩
  let d:j+1+1≠pa.o:=by exists q
  show Zp (λq=>Bi<|.inl ⟨g,_,_,_,_,rfl,rfl,l,by show IH a d,i2,∅⟩) λq=>Bi #[g,_,_,_,_,rfl,rfl,l,by show IH a d,i2,∅]
theorem uL(P:DD r n pa pb){S:Ah}(k:kindOf S=κ){x:Nat}{b:Oz}{st:Ah}(h:LI r item pa pb S (x+1) b st):wpS (Ae prog w) A E s (cc (pa.j item) (pb.j item) b) (FB (MQ r item pa pb S) (LI r item pa pb S (x+1+1))) st:=by
 let(g,po,f,j,mg,rfl,rfl,l,a,i2,d):=h;apply AY<|Jv (λ_=>LI r item pa pb S<|x+1) (LQ r item pa pb S<|x+1) (λi c st _ h=>uK H P k h) (λc st h=>.Q h) #[g,po,f,j,_,rfl,rfl,l,a,i2,d] λb st h=>?_;clear l a i2 d;rcases h with⟨g,po,f,j,c,rfl,rfl,l,a,i2,d⟩|⟨g,pm,rfl,e,R⟩
 .apply AY<|wpS_lift<|Gb ⟨rfl,AY<|Jv (λy=>LI r item pa pb S<|x+1+y) (LQ r item pa pb S<|x+2) (λi c st _ h=>?_) (λc st h=>?_) ⟨g,po,f,j,_,rfl,rfl,l,a,i2,d⟩ λb st h=>?_⟩;all_goals clear l a i2 d
  .let(g,po,f,j,c,rfl,rfl,l,a,i2,d):=h;show Zp (λ_=>ck H P k l a i2 d) λ_=>ck H P k l a i2 d
  .let(g,po,f,j,c,rfl,rfl,l,a,i2,d):=h;rw[II,II]at d;show .Q #[g,_,_,_,_,rfl,rfl,l,a,i2,∅]
  .rcases h with⟨g,po,f,j,c,rfl,rfl,l,a,i2,d⟩|⟨g,pm,rfl,e,R⟩
   .show AY<|QN<|Bi ⟨_,_,_,_,_,rfl,rfl,l,a,i2,d⟩
   .rw[e];show Bi #[g,pm,rfl,rfl,R]
 .rw[e];show Bi #[g,pm,rfl,rfl,R]
theorem uM(P:DD r n pa pb){Q:Array An->Ah->Prop}{st:Ah}(l:kindOf st=κ)(h:∀pm g,Em r pa pb pm->Q (pm.j item) (F2 st g)):wpS (Ae prog w) A E s (Us (pa.j item) (pb.j item)) Q st:=by
 let a1:=P.a1;let b1:=P.b1;let m:(pa.j item).o=pa.o:=II;let o:(pb.j item).o=pb.o:=II;rw[uJ,m,o];apply AY<|wpS_lift<|Gb ⟨rfl,AY<|ZW (En b1) ?_⟩;let p:((T' [item<|Au pb 0]):Array An)=((T' [Au pb 0]):Array Nat).j item:=by simp
 dsimp only;rw[p];let a:DE r pa pb (T' [Au pb 0]) 0 1:=by
  apply#[?_,M0 _ _,λx d f=>?_,λx d f=>?_]
  .rw[Uy<|En b1];simp
  .rw[Ca.mp d];show F8<|P.fst _ f
  .rw[Ca.mp d];show P.sb _ _ (E3 1) f
 apply Zp (λq=>?_) λt=>?_
 .let(pm,e,R):=a.Ϙ (item:=item) P (by exists q);rw[e];show Bi<|h pm (gallopOf st) R
 let j:1≠pb.o:=by exists t
 apply Zp (λq=>?_) λu=>?_
 .let(pm,e,R):=a.last (item:=item) P (by exists q);rw[e];show Bi<|h pm (gallopOf st) R
 let k:1≠pa.o:=by exists u
 apply AY<|wpS_get<|AY<|Jv (λx=>LI r item pa pb st<|x+1) (MQ r item pa pb st) (λi c st _ h=>uL H P l h) (λc st h=>?_) #[gallopOf st,_,0,1,_,rfl,rfl,a,by show IH a1 k,by show IH b1 j,by show Nat.le_add_left (0+1) 0] λb v y=>?_
 .let(g,po,z,B,mg,rfl,rfl,F,C,i2,G):=h;lia
 .let(g,pm,rfl,e,R):=y;rw[e];show Bi<|h pm g R
end
abbrev OA:=O (Array An)×Nat×Nat×Array An×Nat×Nat×Nat
def UA(a b:Array An)(mg d e:Nat)(c f:Nat)(out:Array An):StateT Ah BP (ForInStep OA):=do
 let out:=out.Ο (<- BG a (c-1))
 if c-1==0 then Am (.Ϙ (Z (IE a b out (c-1) f),c-1,f,out,mg,d,e))
 else if d<7&&e<7 then Am (.Ϙ (J,c-1,f,out,mg,d,e))else Am (.yield (J,c-1,f,out,mg,d,e))
def UB(a b:Array An)(mg e f:Nat)(d c:Nat)(out:Array An):StateT Ah BP (ForInStep OA):=do
 let out:=out.Ο (<- BG b (c-1))
 if c-1==1 then Am (.Ϙ (Z (MW a b out d (c-1)),d,c-1,out,mg,e,f))else
  match <- Kp J' (<- BG a (d-1)) b 0 (c-1) (c-1-1)with
  |some at_=>
   if c-1-at_>0 then
    let out:=out++(b.ζ at_ (c-1)).ϧ
    if at_==1 then Am (.Ϙ (Z (MW a b out d at_),d,at_,out,mg,e,c-1-at_))
    else if at_==0 then Am (.Ϙ (Z (IE a b out d at_),d,at_,out,mg,e,c-1-at_))
    else UA a b mg e (c-1-at_) d at_ out
   else UA a b mg e (c-1-at_) d (c-1) out
  |_=>Am (.Ϙ (Z (IE a b out d (c-1)),d,c-1,out,mg,e,f))
def UC(a b:Array An)(mg f e:Nat)(c d:Nat)(out:Array An):StateT Ah BP (ForInStep OA):=do
 Ox mg
 match <- Kp O' (<- BG b (d-1)) a 0 c (c-1)with
 |some at_=>
  if c-at_>0 then
   let out:=out++(a.ζ at_ c).ϧ
   if at_==0 then Am (.Ϙ (Z (IE a b out at_ d),at_,d,out,mg,c-at_,e))
   else UB a b mg (c-at_) e at_ d out
  else UB a b mg (c-at_) e c d out
 |_=>Am (.Ϙ (Z (IE a b out c d),c,d,out,mg,f,e))
abbrev UD:=O (Array An)×Nat×Nat×Array An×Nat×Nat
abbrev OB:=O (Array An)×Nat×Nat×Array An×Nat
def cm(a b:Array An)(mg:Nat):UD->StateT Ah BP (ForInStep UD):=λs=>do
 let c:=s.2.1
 let d:=s.2.2.1
 match <- lt' (<- BG b (d-1)) (<- BG a (c-1))with
 |some w=>
  if w then
   let out:=s.2.2.2.1.Ο (<- BG a (c-1))
   if c-1==0 then Am (.Ϙ (Z (IE a b out (c-1) d),c-1,d,out,s.2.2.2.2.1+1,0))else
    if s.2.2.2.2.1+1≥mg then Am (.Ϙ (J,c-1,d,out,s.2.2.2.2.1+1,0))else Am (.yield (J,c-1,d,out,s.2.2.2.2.1+1,0))
  else
   let out:=s.2.2.2.1.Ο (<- BG b (d-1))
   if d-1==1 then Am (.Ϙ (Z (MW a b out c (d-1)),c,d-1,out,0,s.2.2.2.2.2+1))else
    if s.2.2.2.2.2+1≥mg then Am (.Ϙ (J,c,d-1,out,0,s.2.2.2.2.2+1))else Am (.yield (J,c,d-1,out,0,s.2.2.2.2.2+1))
 |_=>Am (.Ϙ (Z (IE a b s.2.2.2.1 c d),s.2))
def uN(a b:Array An):OA->StateT Ah BP (ForInStep OA):=λs=>
 if s.2.2.2.2.1>1 then UC a b (s.2.2.2.2.1-1) s.2.2.2.2.2.1 s.2.2.2.2.2.2 s.2.1 s.2.2.1 s.2.2.2.1 else UC a b s.2.2.2.2.1 s.2.2.2.2.2.1 s.2.2.2.2.2.2 s.2.1 s.2.2.1 s.2.2.2.1
def cq(a b:Array An):OB->StateT Ah BP (ForInStep OB):=λs=>do
 let t <- forIn [0:a.o+b.o] (J,s.2.1,s.2.2.1,s.2.2.2.1,0,0) λ_=>cm a b s.2.2.2.2
 Js (λ_=>StateT Ah BP (ForInStep OB)) t.1 (λr=>Am (.Ϙ (Z r,t.2.1,t.2.2.1,t.2.2.2.1,s.2.2.2.2))) λ_=>do
  rule "list.sort.gallop"
  let t <- forIn [0:a.o+b.o] (J,t.2.1,t.2.2.1,t.2.2.2.1,s.2.2.2.2+1,t.2.2.2.2.1,t.2.2.2.2.2) λ_=>uN a b
  Js (λ_=>StateT Ah BP (ForInStep OB)) t.1 (λr=>Am (.Ϙ (Z r,t.2.1,t.2.2.1,t.2.2.2.1,t.2.2.2.2.1))) λ_=>do
   Ox (t.2.2.2.2.1+1);Am (.yield (J,t.2.1,t.2.2.1,t.2.2.2.1,t.2.2.2.2.1+1))
theorem uO(a b:Array An):Ut a b=(do
 rule "list.sort.merge-hi";let out:=((T' [<- BG a (a.o-1)]):Array An);if a.o-1==0 then Am (IE a b out (a.o-1) b.o)else
  if b.o==1 then Am (MW a b out (a.o-1) b.o)else do
   let t <- forIn [0:a.o+b.o] (J,a.o-1,b.o,out,gallopOf (<- get)) λ_=>cq a b
   Js (λ_=>StateT Ah BP (Array An)) t.1 Am λ_=>unsupported "internal:list.sort.merge-bound"):=rfl
section
variable{item:Nat->An}{r:Nat->Nat}{n:Nat}{pa pb po:Array Nat}{na nb:Nat}
structure DF(r:Nat->Nat)(pa pb po:Array Nat)(na nb:Nat):Prop where
 perm:po.B.Ϧ (pa.B.ρ na++pb.B.ρ nb)
 so:po.B.Ϛ λx y=>r y<=r x
 ma:∀x∈po.B,0<na->r (Au pa (na-1))<=r x
 mb:∀x∈po.B,0<nb->r (Au pb (nb-1))<=r x
 la:na<=pa.o
 lb:nb<=pb.o
theorem DF.stepA(P:DD r n pa pb)(f:DF r pa pb po na nb)(b:0<na)(c:0<nb)(h:r (Au pb (nb-1))<=r (Au pa (na-1))):DF r pa pb (po.Ο (Au pa (na-1))) (na-1) nb:=by
 let la:=f.la;apply#[?_,?_,λx a e=>?_,λx a _=>?_,∅,f.lb]
 .rw[QO (i:=na-1) ∅,show na-1+1=na by lia,E6,GF];show Kr.E<|f.perm.Θ _
 .rw[E6,IF];show#[f.so,M0 _ _,λx a y d=>by rw[Ca.mp d];show f.ma x a b]
 .rw[E6,Cn,Ca]at a;rcases a with a|rfl
  .show Bv (P.sa _ _ ∅ ∅)<|f.ma x a b
  .show P.sa _ _ ∅ ∅
 .rw[E6,Cn,Ca]at a;rcases a with a|rfl
  .show f.mb x a c
  .show h
theorem DF.stepB(P:DD r n pa pb)(f:DF r pa pb po na nb)(c:0<na)(b:0<nb)(h:r (Au pa (na-1))<=r (Au pb (nb-1))):DF r pa pb (po.Ο (Au pb (nb-1))) na (nb-1):=by
 let lb:=f.lb;apply#[?_,?_,λx a _=>?_,λx a e=>?_,f.la,∅]
 .rw[QO (i:=nb-1) ∅,show nb-1+1=nb by lia,E6];show Kr.E<|(f.perm.Θ _).E List.perm_middle.τ
 .rw[E6,IF];show#[f.so,M0 _ _,λx a y d=>by rw[Ca.mp d];show f.mb x a b]
 .rw[E6,Cn,Ca]at a;rcases a with a|rfl
  .show f.ma x a c
  .show h
 .rw[E6,Cn,Ca]at a;rcases a with a|rfl
  .show Bv (P.sb _ _ ∅ ∅)<|f.mb x a b
  .show P.sb _ _ ∅ ∅
theorem cr{p q:Array Nat}{i:Nat}(h:i<j)(a:j<=q.o):p++(q.ζ i j).ϧ=(p++(q.ζ (i+1) j).ϧ).Ο (Au q i):=by
 apply(Ks.mp);erw[Jt,E6,IG,QR,Fz,Dr];congr 1;rw[QO (i:=i) (B3 h a),show j-i=(j-(i+1))+1 by lia,List.take_succ_cons,List.reverse_cons]
theorem DF.blockA(P:DD r n pa pb):∀(k at_:Nat){po:Array Nat},DF r pa pb po na nb->at_+k=na->0<nb->(∀i,at_<=i->i<na->r (Au pb (nb-1))<=r (Au pa i))->DF r pa pb (po++(pa.ζ at_ na).ϧ) at_ nb
 |0,at_,po,g,e,_,_=>by
  let f:po++(pa.ζ at_ na).ϧ=po:=by
   apply(Ks.mp);simp[Fz];lia
  rw[f,show at_=na by show Nat.add_right_cancel e];show g
 |k+1,at_,po,g,e,c,d=>by
  rw[cr ∅ g.la];have:=(DF.blockA P k (at_+1) g ∅ c λi a b=>d i (Kq a) b).stepA P (Nat.zero_lt_succ at_) c (d _ (AX at_) ∅);show this
theorem DF.blockB(P:DD r n pa pb):∀(k at_:Nat){po:Array Nat},DF r pa pb po na nb->at_+k=nb->0<na->(∀i,at_<=i->i<nb->r (Au pa (na-1))<=r (Au pb i))->DF r pa pb (po++(pb.ζ at_ nb).ϧ) na at_
 |0,at_,po,g,e,_,_=>by
  let f:po++(pb.ζ at_ nb).ϧ=po:=by
   apply(Ks.mp);simp[Fz];lia
  rw[f,show at_=nb by show Nat.add_right_cancel e];show g
 |k+1,at_,po,g,e,c,d=>by
  rw[cr ∅ g.lb];have:=(DF.blockB P k (at_+1) g ∅ c λi a b=>d i (Kq a) b).stepB P c (Nat.zero_lt_succ at_) (d _ (AX at_) ∅);show this
theorem OC{p:Array Nat}{k x:Nat}(h:x∈p.B.ϋ k):∃i,i<k/\i<p.o/\x=Au p i:=by
 let(i,a,rfl):=Uz.mp h;simp at a;apply#[i,∅,∅,?_];simp[Au,Jr,show i<p.size by lia]
theorem cu{l:U Nat}(h:l.Ϛ λx y=>r y<=r x):l.ϧ.Ϛ λx y=>r x<=r y:=List.pairwise_reverse.ϡ h
theorem DF.done(P:DD r n pa pb)(e:DF r pa pb po na nb)(h:na=0):∃pm:Array Nat,IE (pa.j item) (pb.j item) (po.j item) na nb=pm.j item/\Em r pa pb pm:=by
 subst h;let lb:=e.lb;apply#[pb.ζ 0 nb++po.ϧ,?_,?_,?_]
 .apply(Ks.mp);simp[IE,Fz]
 .erw[Jt,IG,QR,Fz,Oc,Nat.sub_zero];let h:=(List.reverse_perm po.B).E e.perm;refine(h.append_left _).E ?_;apply Kr.E ?_;rw[Dr];apply QQ _ ?_;apply Kr.E ?_;rw[Ju]
 .erw[Jt,IG,QR,Fz,Oc,Nat.sub_zero];rw[IF];apply#[(MY P.sb).ϋ,cu e.so,λx b y c=>?_];let(i,a,d,rfl):=OC b;show Bv (P.sb i (nb-1) (LN a) ∅)<|e.mb y (List.mem_reverse.mp c)<|En a
theorem DF.fst(P:DD r n pa pb)(g:DF r pa pb po na nb)(h:nb=1):∃pm:Array Nat,MW (pa.j item) (pb.j item) (po.j item) na nb=pm.j item/\Em r pa pb pm:=by
 subst h;let la:=g.la;apply#[pb.ζ 0 1++pa.ζ 0 na++po.ϧ,?_,?_,?_]
 .apply(Ks.mp);simp[MW,Fz]
 .erw[Jt,IG,QR,Fz,Oc,Nat.sub_zero];refine(((List.reverse_perm po.B).E g.perm).append_left _).E ?_;rw[Dr,<- Dr (pa.B.ϋ na),Ju];apply Kr.E ?_;rw[Dr];apply QQ _ ?_;apply Kr.E ?_;rw[Ju]
 .erw[Jt,IG,QR,Fz,Oc,Nat.sub_zero];rw[IF,IF];apply#[#[(MY P.sb).ϋ,(MY P.sa).ϋ,λx a y c=>?_],cu g.so,λx a y c=>?_]
  .let(i,b,d,rfl):=OC a;let(j,f,e,rfl):=OC c;have:i=0:=Nat.lt_one_iff.mp b;subst this;show F8<|P.fst _ e
  .rcases Cn.mp a with a|a
   .let(i,b,d,rfl):=OC a;show Bv (P.sb i (1-1) (LN b)<|Nat.lt_of_add_left_lt d)<|g.mb y (List.mem_reverse.mp c) Nat.one_pos
   .let(i,b,d,rfl):=OC a;show Bv (P.sa i (na-1) (LN b) ∅)<|g.ma y (List.mem_reverse.mp c)<|En b
theorem cw{p q:Array Nat}{i:Nat}:p.j item++((q.j item).ζ i j).ϧ=(p++(q.ζ i j).ϧ).j item:=by simp
end
section
variable(r:Nat->Nat)(item:Nat->An)(pa pb:Array Nat)(S:Ah)
def HI{e:Type}(x:Nat)(b:O (Array An)×Nat×Nat×Array An×e)(st:Ah):Prop:=∃g a d po c,st=F2 S g/\b=(J,a,d,po.j item,c)/\DF r pa pb po a d/\1<=a/\2<=d/\x+a+d<=pa.o+pb.o
def HQ{a:Type}(x:Nat)(b:O (Array An)×Nat×Nat×Array An×a)(st:Ah):Prop:=HI r item pa pb S x b st\/MQ r item pa pb S b st
end
section
variable{prog:AM}{w:Aj}{A:Ag}{E:Aa->Ab->Prop}{s:Ab}{item:Nat->An}{r:Nat->Nat}{n:Nat}{pa pb:Array Nat}
variable{po:Array Nat}{na nb:Nat}
theorem cy(P:DD r n pa pb){st:Ah}{x y g mg c d:Nat}(j:DF r pa pb po na nb)(a:1<=na)(i2:2<=nb)(f:x+1+y+na+nb<=pa.o+pb.o)(h:r (Au pb (nb-1))<=r (Au pa (na-1))):wpS (Ae prog w) A E s (UA (pa.j item) (pb.j item) mg c d na nb (po.j item)) (FB (HQ r item pa pb st (x+2)) (HI r item pa pb st (x+1+(y+1)))) (F2 st g):=by
 let la:=j.la;let i:=j.stepA P (En a) (En i2) h;apply AY<|ZW (M5 a la) ?_;dsimp only;rw[Kt];apply Zp (λq=>?_) λq=>?_
 .let(pm,e,R):=i.Ϙ (item:=item) P (IJ q);rw[e];show Bi<|.σ ⟨g,pm,rfl,rfl,R⟩
 let b:na-1≠0:=λh=>q (by rw[h];rfl);show Zp (λq=>Bi<|.inl ⟨g,_,_,_,_,rfl,rfl,i,by show M6.mpr b,i2,∅⟩) λq=>Bi #[g,_,_,_,_,rfl,rfl,i,by show M6.ϡ b,i2,∅]
variable(H:LK prog w A E s κ item r n)
include H
theorem cz(P:DD r n pa pb){st:Ah}(t:kindOf st=κ){x y g mg u v:Nat}(G:DF r pa pb po na nb)(c:1<=na)(i2:2<=nb)(C:x+1+y+na+nb<=pa.o+pb.o)(h:r (Au pa (na-1))<=r (Au pb (nb-1))):wpS (Ae prog w) A E s (UB (pa.j item) (pb.j item) mg u v na nb (po.j item)) (FB (HQ r item pa pb st (x+2)) (HI r item pa pb st (x+1+(y+1)))) (F2 st g):=by
 let la:=G.la;let lb:=G.lb;let F:=G.stepB P (En c) (En i2) h;apply AY<|ZW ∅ ?_;dsimp only;rw[Kt];apply Zp (λq=>?_) λq=>?_
 .let(pm,e,R):=F.fst (item:=item) P (IJ q);rw[e];show Bi<|.σ ⟨g,pm,rfl,rfl,R⟩
 let z:nb-1≠1:=λh=>q (by rw[h];rfl);apply AY<|ZW (M5 c la)<|AY<|MU H (P.la _<|M5 c la) P.lb ∅ ∅ (λi j l m=>P.sb _ _ (M4.ϡ l) ∅) t λk l1 o f=>?_;erw[if_true,IK]at o f;let B:1<=k:=by
  rcases ER 0 k with h|h
  .show h
  .let l:=f 0 ∅<|Nat.zero_lt_sub_of_lt i2;let m:=P.fst (na-1)<|M5 c la;show M6.mpr λa=>l m
 let p:=DF.blockB P (nb-1-k) k F (NS l1) (En c) λi a b=>by have:=f i a b;show FV<|f i a b
 let d:r (Au pb<|k-1)<=r (Au pa<|na-1):=F8<|o (k-1)<|Hh B;apply Zp (λq=>?_) λq=>?_
 .rw[cw];apply Zp (λq=>?_) λq=>?_
  .let(pm,e,R):=p.fst (item:=item) P (IJ q);rw[e];show Bi<|.σ ⟨g,pm,rfl,rfl,R⟩
  let z:k≠1:=λh=>q (by rw[h];rfl);apply Zp (λq=>?_) λq=>cy P p c ∅ ∅ d;have:=IJ q;lia
 .let e:k=nb-1:=∅
  subst e;show cy P F c ∅ ∅ d
theorem cA(P:DD r n pa pb){st:Ah}(d:kindOf st=κ){x y g mg p t:Nat}(F:DF r pa pb po na nb)(f:1<=na)(i2:2<=nb)(z:x+1+y+na+nb<=pa.o+pb.o):wpS (Ae prog w) A E s (UC (pa.j item) (pb.j item) mg p t na nb (po.j item)) (FB (HQ r item pa pb st (x+2)) (HI r item pa pb st (x+1+(y+1)))) (F2 st g):=by
 let la:=F.la;let lb:=F.lb;apply AY<|QN<|AY<|ZW ∅<|AY<|MU H (P.lb _ ∅) P.la ∅ (Hh f) (λi j u B=>P.sa _ _ (M4.ϡ u) ∅) d λk v l m=>?_;erw[FU,if_false,IK]at l m;let C:=DF.blockA P (na-k) k F (NS v) (En i2) λi a b=>by have:=m i a b;lia
 let c:0<k->r (Au pa<|k-1)<=r (Au pb<|nb-1):=λ_=>by
  have:=l (k-1) ∅;show Ow this
 apply Zp (λq=>?_) λq=>?_
 .dsimp only;rw[cw];apply Zp (λq=>?_) λq=>?_
  .let(pm,e,R):=C.Ϙ (item:=item) P (IJ q);rw[e];show Bi<|.σ ⟨mg,pm,rfl,rfl,R⟩
  let o:k≠0:=λh=>q (by rw[h];rfl);show cz H P d C (M6.ϡ o) i2 ∅<|c<|Nat.zero_lt_of_ne_zero o
 .let e:k=na:=∅
  subst e;show cz H P d F (Nat.one_le_of_lt f) i2 ∅<|c<|En f
theorem uP(P:DD r n pa pb){S:Ah}(f:kindOf S=κ){x mg:Nat}{b:UD}{st:Ah}(h:HI r item pa pb S (x+1) b st):wpS (Ae prog w) A E s (cm (pa.j item) (pb.j item) mg b) (FB (HQ r item pa pb S (x+1)) (HI r item pa pb S (x+1))) st:=by
 let(g,na,nb,po,c,rfl,rfl,k,a,i2,i):=h;let la:=k.la;let lb:=k.lb;apply AY<|ZW ∅<|AY<|ZW (M5 a la)<|AY<|H _ _ (P.lb _ ∅) (P.la _<|M5 a la) _ _ f ?_;apply Zp (λq=>?_) λq=>?_
 .let j:=k.stepA P (En a) (En i2)<|F8<|of_decide_eq_true q;apply AY<|ZW (M5 a la) ?_;dsimp only;rw[Kt];apply Zp (λq=>?_) λq=>?_
  .let(pm,e,R):=j.Ϙ (item:=item) P (IJ q);rw[e];show Bi<|.σ ⟨g,pm,rfl,rfl,R⟩
  let d:na-1≠0:=λh=>q (by rw[h];rfl);show Zp (λq=>Bi<|.inl ⟨g,_,_,_,_,rfl,rfl,j,by show M6.mpr d,i2,∅⟩) λq=>Bi #[g,_,_,_,_,rfl,rfl,j,by show M6.ϡ d,i2,∅]
 .let j:=k.stepB P (En a) (En i2)<|FV λh=>q<|decide_eq_true h;apply AY<|ZW ∅ ?_;dsimp only;rw[Kt];apply Zp (λq=>?_) λq=>?_
  .let(pm,e,R):=j.fst (item:=item) P (IJ q);rw[e];show Bi<|.σ ⟨g,pm,rfl,rfl,R⟩
  let d:nb-1≠1:=λh=>q (by rw[h];rfl);show Zp (λq=>Bi<|.inl ⟨g,_,_,_,_,rfl,rfl,j,a,∅,∅⟩) λq=>Bi #[g,_,_,_,_,rfl,rfl,j,a,∅,∅]
theorem uQ(P:DD r n pa pb){S:Ah}(f:kindOf S=κ){x:Nat}{b:OB}{st:Ah}(h:HI r item pa pb S (x+1) b st):wpS (Ae prog w) A E s (cq (pa.j item) (pb.j item) b) (FB (MQ r item pa pb S) (HI r item pa pb S (x+1+1))) st:=by
 let(g,na,nb,po,mg,rfl,rfl,j,a,i2,d):=h;apply AY<|Jv (λ_=>HI r item pa pb S<|x+1) (HQ r item pa pb S<|x+1) (λi c st _ h=>uP H P f h) (λc st h=>.Q h) #[g,na,nb,po,_,rfl,rfl,j,a,i2,d] λb st h=>?_;clear j a i2 d;rcases h with⟨g,na,nb,po,c,rfl,rfl,j,a,i2,d⟩|⟨g,pm,rfl,e,R⟩
 .apply AY<|wpS_lift<|Gb ⟨rfl,AY<|Jv (λy=>HI r item pa pb S<|x+1+y) (HQ r item pa pb S<|x+2) (λi c st _ h=>?_) (λc st h=>?_) ⟨g,na,nb,po,_,rfl,rfl,j,a,i2,d⟩ λb st h=>?_⟩;all_goals clear j a i2 d
  .let(g,na,nb,po,c,rfl,rfl,j,a,i2,d):=h;show Zp (λ_=>cA H P f j a i2 d) λ_=>cA H P f j a i2 d
  .let(g,na,nb,po,c,rfl,rfl,j,a,i2,d):=h;rw[II,II]at d;show .Q #[g,_,_,_,_,rfl,rfl,j,a,i2,∅]
  .rcases h with⟨g,na,nb,po,c,rfl,rfl,j,a,i2,d⟩|⟨g,pm,rfl,e,R⟩
   .show AY<|QN<|Bi ⟨_,_,_,_,_,rfl,rfl,j,a,i2,d⟩
   .rw[e];show Bi #[g,pm,rfl,rfl,R]
 .rw[e];show Bi #[g,pm,rfl,rfl,R]
theorem uR(P:DD r n pa pb){Q:Array An->Ah->Prop}{st:Ah}(j:kindOf st=κ)(h:∀pm g,Em r pa pb pm->Q (pm.j item) (F2 st g)):wpS (Ae prog w) A E s (Ut (pa.j item) (pb.j item)) Q st:=by
 let a1:=P.a1;let b1:=P.b1;let k:(pa.j item).o=pa.o:=II;let l:(pb.j item).o=pb.o:=II;rw[uO,k,l];apply AY<|wpS_lift<|Gb ⟨rfl,AY<|ZW (Hh a1) ?_⟩;let m:((T' [item<|Au pa<|pa.o-1]):Array An)=((T' [Au pa<|pa.o-1]):Array Nat).j item:=by simp
 dsimp only;rw[m];let a:DF r pa pb (T' [Au pa<|pa.o-1]) (pa.o-1) pb.o:=by
  apply#[?_,M0 _ _,λx d o=>?_,λx d o=>?_,by show Nat.sub_le pa.o 1,AX _]
  .rw[QO<|Hh a1,show pa.o-1+1=pa.o by show Nat.sub_add_cancel a1,UE (by simp),UE (by simp)];simp
  .rw[Ca.mp d];show P.sa _ _ (Nat.sub_le_succ_sub (pa.o-1) 1)<|Hh a1
  .rw[Ca.mp d];show F8<|P.O _<|Hh b1
 apply Zp (λq=>?_) λp=>?_
 .let(pm,e,R):=a.Ϙ (item:=item) P (IJ q);rw[e];show Bi<|h pm (gallopOf st) R
 let f:pa.o-1≠0:=λh=>p (by rw[h];rfl);apply Zp (λq=>?_) λt=>?_
 .let(pm,e,R):=a.fst (item:=item) P (IJ q);rw[e];show Bi<|h pm (gallopOf st) R
 let u:pb.o≠1:=λh=>t (by rw[h];rfl);apply AY<|wpS_get<|AY<|Jv (λx=>HI r item pa pb st<|x+1) (MQ r item pa pb st) (λi c st _ h=>uQ H P j h) (λc st h=>?_) #[gallopOf st,_,_,_,_,rfl,rfl,a,by show M6.ϡ f,∅,∅] λb v y=>?_
 .let(g,na,nb,po,mg,rfl,rfl,C,z,i2,B):=h;lia
 .let(g,pm,rfl,e,R):=y;rw[e];show Bi<|h pm g R
end
def UF(lo a d:Nat):StateT Ah BP AscSt:=
 forIn [a:d] ((J,a):AscSt) λ_ b=>do
  let e <- ltAt' (lo+b.snd) (lo+b.snd-1)
  match e with
  |some c=>if c=J' then Am (Ku (J,b.snd))else Am (Hb (J,b.snd+1))
  |_=>Am (Ku (Z J,b.snd))
def UG(lo n a:Nat):StateT Ah BP (O Nat):=do
 reverseSlice' lo (lo+n)
 let b <- UF lo n a
 Js (λ_=>StateT Ah BP (O Nat)) b.fst Am λ_=>Am (Z b.snd)
def cB(lo n e:Nat):StateT Ah BP DescSt:=
 forIn [n:e] ((J,n,0):DescSt) λ_ a=>do
  let d <- ltAt' (lo+a.snd.fst) (lo+a.snd.fst-1)
  match d with
  |some b=>
   if b=J' then
    if a.snd.snd>0 then do
     reverseSlice' (lo+a.snd.fst-(a.snd.snd+1)) (lo+a.snd.fst)
     Am (Hb (J,a.snd.fst+1,0))
    else Am (Hb (J,a.snd.fst+1,0))
   else do
    let d <- ltAt' (lo+a.snd.fst-1) (lo+a.snd.fst)
    match d with
    |some c=>
     if c=J' then Am (Ku (J,a.snd.fst,a.snd.snd))
     else Am (Hb (J,a.snd.fst+1,a.snd.snd+1))
    |_=>Am (Ku (Z J,a.snd.fst,a.snd.snd))
  |_=>Am (Ku (Z J,a.snd.fst,a.snd.snd))
def UH(lo n b:Nat):StateT Ah BP (O Nat):=do
 liftM (rule "list.sort.descending-run")
 let a <- cB lo (n+1) b
 Js (λ_=>StateT Ah BP (O Nat)) a.fst Am λ_=>
  if a.snd.snd>0 then do
   reverseSlice' (lo+a.snd.fst-(a.snd.snd+1)) (lo+a.snd.fst)
   UG lo a.snd.fst b
  else UG lo a.snd.fst b
theorem uS(lo b:Nat):countRun' lo b=(do
  let a <- UF lo 1 b
  Js (λ_=>StateT Ah BP (O Nat)) a.fst Am λ_=>
   if(a.snd==b)=J' then Am (Z a.snd)
   else if a.snd>1 then do
    let d <- ltAt' lo (lo+a.snd-1);match d with
    |some c=>if c=J' then Am (Z a.snd)else do
      reverseSlice' lo (lo+a.snd)
      UH lo a.snd b
    |_=>Am J
   else UH lo a.snd b):=rfl
abbrev Dw(item:Nat->An)(st:Ah)(p:Array Nat):Ah:=setArr st (p.j item)
def E7(r:Nat->Nat)(p:Array Nat)(a b:Nat):Prop:=∀i j,a<=i->i<=j->j<b->r (Au p i)<=r (Au p j)
def OD(r:Nat->Nat)(p:Array Nat)(a b:Nat):Prop:=∀i j,a<=i->i<=j->j<b->r (Au p j)<=r (Au p i)
def Kv(p a:Array Nat)(lo:Nat):Prop:=∀i,i<lo->Au a i=Au p i
section
variable{prog:AM}{w:Aj}{A:Ag}{E:Aa->Ab->Prop}{s:Ab}{item:Nat->An}{r:Nat->Nat}{n:Nat}{p:Array Nat}{st:Ah}{lo nrem:Nat}
theorem QS{i:Nat}{Q:Unit->Ah->Prop}(h:Q () (Dw item st (kas_rev p i j))):wpS (Ae prog w) A E s (reverseSlice' i j) Q (Dw item st p):=by
 apply wpS_reverse ?_;rw[show mirror (p.j item) i j ((j-i)/2)=(kas_rev p i j).j item from kas_swaps_map item (λk=>i+k) (λk=>j-1-k) _ p];show h
theorem UI{i c:Nat}(b:j<=p.o)(h:∀k,i<=k->k<j->r (Au p k)=c)(k:Nat):r (Au (kas_rev p i j) k)=r (Au p k):=by
 rw[LJ b];by_cases a:i<=k/\k<j
 .rw[if_pos a,h k a.1 a.2,h _ ∅ ∅]
 .rw[if_neg a]
variable(H:LK prog w A E s κ item r n)
include H
theorem OE{i:Nat}{Q:O Bool->Ah->Prop}(a:Bs n p)(b:i<n)(c:j<n)(d:kindOf st=κ)(h:Q (Z (decide (r (Au p i)<r (Au p j)))) (Dw item st p)):wpS (Ae prog w) A E s (ltAt' i j) Q (Dw item st p):=by
 apply AY<|wpS_get ?_;apply AY<|ZW (by rw[a.o];show b)<|AY<|ZW (by rw[a.o];show c) ?_;show H _ _ (a.lt b) (a.lt c) _ _ d h
theorem cC{a:Nat}(o:Bs n p)(v:1<=a)(l:a<=nrem)(y:lo+nrem<=n)(t:kindOf st=κ)(d:E7 r p lo (lo+a)){Q:AscSt->Ah->Prop} (h:∀m,a<=m->m<=nrem->E7 r p lo (lo+m)->(m=nrem\/r (Au p (lo+m))<r (Au p (lo+m-1)))->Q (J,m) (Dw item st p)):wpS (Ae prog w) A E s (UF lo a nrem) Q (Dw item st p):=by
 apply LM (λx b e=>e=Dw item st p/\b=(J,x)/\E7 r p lo (lo+x)) ?_ ?_ #[rfl,rfl,d]
 .intro x b e g u zQ;let(rfl,rfl,d):=zQ;apply AY<|OE H o ∅ ∅ t ?_;apply Zp (λq=>?_) λq=>?_
  .show Bi<|h x g (Kq u) d<|.σ<|of_decide_eq_true q
  .apply Bi #[rfl,rfl,λi j a b c=>?_];rcases ER j (lo+x)with k|k
   .show d i j a b k
   .have:j=lo+x:=LO k c;subst this;rcases ER i (lo+x)with f|f
    .have:=d i (lo+x-1) a (LN f)<|Hh f;lia
    .have:i=lo+x:=Eq.τ<|M7 f b;subst this;show AX _
 .intro b e zQ;let(rfl,rfl,d):=zQ;rw[show max a nrem=nrem by show Nat.max_eq_right l]at d ⊢;show h nrem l (AX _) d<|.Q rfl
theorem cD{m:Nat}(e:Bs n p)(f:1<=m)(g:m<=nrem)(k:lo+nrem<=n)(l:kindOf st=κ)(hd:OD r p lo (lo+m)){Q:O Nat->Ah->Prop}
  (h:∀m d,1<=m->m<=nrem->Bs n d->Kv p d lo->E7 r d lo (lo+m)->Q (Z m) (Dw item st d)):wpS (Ae prog w) A E s (UG lo m nrem) Q (Dw item st p):=by
 apply AY (QS ?_)
 let z:=e.o
 apply AY (cC H (e.rev lo (lo+m)) f g k l (λi j a b c=>?_) λo a b c _=>?_)
 .rw[LJ ∅,LJ ∅,if_pos ∅,if_pos ∅]
  show hd _ _ ∅ (Nat.sub_le_sub_left b (lo+(lo+m)-1)) ∅
 .show Bi (h o _ (Bv f a) b (e.rev _ _) (λi q=>by rw[LJ ∅,if_neg ∅]) c)
theorem uT{m:Nat}(G:Bs n p)(K:1<=m)(B:m<=nrem)(L:lo+nrem<=n)(C:kindOf st=κ)(hd:OD r p lo (lo+m)){Q:DescSt->Ah->Prop}
  (h:∀o q f,m<=o->o<=nrem->Bs n f->Kv p f lo->OD r f lo (lo+o)->q+1<=o->(∀i,lo+o-(q+1)<=i->i<lo+o->r (Au f i)=r (Au f (lo+o-1)))->Q (J,o,q) (Dw item st f)):
  wpS (Ae prog w) A E s (cB lo m nrem) Q (Dw item st p):=by
 apply LM (λx b t=>∃q f,t=Dw item st f/\b=(J,x,q)/\Bs n f/\Kv p f lo/\OD r f lo (lo+x)/\q+1<=x/\∀i,lo+x-(q+1)<=i->i<lo+x->r (Au f i)=r (Au f (lo+x-1))) ?_ ?_
  #[0,p,rfl,rfl,G,λ_ _=>rfl,hd,K,λi a b=>by rw[show i=lo+m-1 by lia]]
 .intro x b t z F zQ;let(q,f,rfl,rfl,k,u,hd,y,v):=zQ
  apply AY (OE H k ∅ ∅ C ?_)
  apply Zp (λc=>?_) λc=>?_
  .apply Zp (λc2=>?_) λc2=>?_
   .apply AY (QS (Bi ?_))
    let e:=UI (p:=f) (r:=r) (i:=lo+x-(q+1)) (j:=lo+x) ∅ v
    apply#[0,_,rfl,rfl,k.rev _ _,λi g=>?_,λi j a b d=>?_,by show Nat.le_add_left (0+1) x,λi a b=>by rw[show i=lo+(x+1)-1 by show LO a b]]
    .rw[LJ ∅,if_neg ∅];show u i g
    .rw[e,e]
     rcases ER j (lo+x)with l|l
     .show hd i j a b l
     .have:j=lo+x:=LO l d
      subst this
      rcases ER i (lo+x)with g|g
      .have:=hd i (lo+x-1) a (LN g) (Hh g);lia
      .have:i=lo+x:=Eq.τ (M7 g b)
       subst this;show AX _
   .apply Bi #[0,_,rfl,rfl,k,u,λi j a b d=>?_,by show Nat.le_add_left (0+1) x,λi a b=>by rw[show i=lo+(x+1)-1 by show LO a b]]
    rcases ER j (lo+x)with l|l
    .show hd i j a b l
    .have:j=lo+x:=LO l d
     subst this
     rcases ER i (lo+x)with g|g
     .have:=hd i (lo+x-1) a (LN g) (Hh g);lia
     .have:i=lo+x:=Eq.τ (M7 g b)
      subst this;show AX _
  .apply AY (OE H k ∅ ∅ C ?_)
   apply Zp (λc2=>?_) λc2=>?_
   .show Bi (h x q f z (Kq F) k u hd y v)
   .apply Bi #[q+1,_,rfl,rfl,k,u,λi j a b d=>?_,by show Nat.add_le_add_right y 1,λi a b=>?_]
    .rcases ER j (lo+x)with l|l
     .show hd i j a b l
     .have:j=lo+x:=LO l d
      subst this
      rcases ER i (lo+x)with g|g
      .have:=hd i (lo+x-1) a (LN g) (Hh g);lia
      .have:i=lo+x:=Eq.τ (M7 g b)
       subst this;show AX _
    .rw[show lo+(x+1)-1=lo+x by show Nat.add_succ_sub_one lo x]
     rcases ER i (lo+x)with g|g
     .rw[show r (Au f (lo+x))=r (Au f (lo+x-1)) by lia];show v i ∅ g
     .rw[show i=lo+x by show LO g b]
 .intro b t zQ;let(q,f,rfl,rfl,k,u,hd,y,v):=zQ
  rw[show max m nrem=nrem by show Nat.max_eq_right B]at hd y v ⊢
  show h nrem q f B (AX _) k u hd y v
theorem cE{m:Nat}(K:Bs n p)(F:m+1<=nrem)(u:lo+nrem<=n)(v:kindOf st=κ)(hd:OD r p lo (lo+(m+1))){Q:O Nat->Ah->Prop}
  (h:∀m l,1<=m->m<=nrem->Bs n l->Kv p l lo->E7 r l lo (lo+m)->Q (Z m) (Dw item st l)):wpS (Ae prog w) A E s (UH lo m nrem) Q (Dw item st p):=by
 apply AY (wpS_lift (Gb #[rfl,?_]))
 apply AY (uT H K (Nat.le_add_left 1 m) F u v hd λG q l a b c d e f g=>?_)
 let z:=c.o
 apply Zp (λk=>?_) λk=>?_
 .apply AY (QS ?_)
  let o:=UI (p:=l) (r:=r) (i:=lo+G-(q+1)) (j:=lo+G) ∅ g
  apply cD H (c.rev _ _) (Nat.one_le_of_lt a) b u v (λi j a b d=>by rw[o,o];show e i j a b d) λm2 x y B c2 C o=>h m2 x y B c2 (λi t=>?_) o
  rw[C i t,LJ ∅,if_neg ∅];show d i t
 .show cD H c (Nat.one_le_of_lt a) b u v e λm2 x y B c2 C o=>h m2 x y B c2 (λi t=>by rw[C i t];show d i t) o
theorem uU(f:Bs n p)(B:1<=nrem)(y:lo+nrem<=n)(o:kindOf st=κ){Q:O Nat->Ah->Prop} (h:∀m t,1<=m->m<=nrem->Bs n t->Kv p t lo->E7 r t lo (lo+m)->Q (Z m) (Dw item st t)):wpS (Ae prog w) A E s (countRun' lo nrem) Q (Dw item st p):=by
 rw[uS];apply AY<|cC H f (AX 1) B y o (λi j a b c=>by rw[show i=j by lia];show AX _) λm a b c d=>?_;apply Zp (λq=>?_) λq=>?_
 .show Bi<|h m p a b f (λ_ _=>rfl) c
 let q:m≠nrem:=λe=>q (by rw[e];show beq_self_eq_true _);apply Zp (λk=>?_) λk=>?_
 .apply AY<|OE H f ∅ ∅ o ?_;apply Zp (λu=>?_) λu=>?_
  .show Bi<|h m p a b f (λ_ _=>rfl) c
  let eq:∀i,lo<=i->i<lo+m->r (Au p i)=r (Au p lo):=λi a1 b1=>by
   let L:=c lo i (AX _) a1 b1;let M:=c i (lo+m-1) a1 (LN b1)<|Hh b1;lia
  let v:=UI (p:=p) (r:=r) (i:=lo) (j:=lo+m) ∅ eq;apply AY<|QS<|cE H (f.rev _ _) ∅ y o (λi j a b g=>?_) λm2 C G K c2 F v=>h m2 C G K c2 (λi l=>?_) v
  .rw[v,v];rcases ER j (lo+m)with x|x
   .rw[eq i a<|GO b x,eq j (Bv a b) x];show AX _
   .have:j=lo+m:=LO x g;subst this;rcases ER i (lo+m)with l|l
    .rw[eq i a l];rw[eq (lo+m-1) ∅<|Hh l]at d;lia
    .rw[show i=lo+m by show Eq.τ (M7 l b)];show AX _
  .rw[F i l,LJ ∅,if_neg ∅]
 .apply cE H f ∅ y o (λi j a b g=>?_) h;have:m=1:=∅
  subst this;rcases ER i j with z|z
  .rw[show i=lo by lia,show j=lo+1 by lia];rw[show lo+1-1=lo by show Nat.add_sub_self_right lo 1]at d;lia
  .rw[show i=j by lia];show AX _
theorem uV{m ok:Nat}(L:Bs n p)(G:1<=ok)(M:ok<=m)(h3:lo+m<=n)(N:kindOf st=κ)(K:E7 r p lo (lo+ok)){Q:Bool->Ah->Prop}
  (h:∀d,Bs n d->Kv p d lo->E7 r d lo (lo+m)->Q J' (Dw item st d)):wpS (Ae prog w) A E s (binarySort' lo m ok) Q (Dw item st p):=by
 rw[binarySort'_eq]
 let T:max ok 1=ok:=Nat.max_eq_left G
 rw[T]
 apply AY (wpS_mono (LM (λk b f=>b=(J,())/\∃d,f=Dw item st d/\Bs n d/\Kv p d lo/\E7 r d lo (lo+k))
  (Q:=λb f=>b=(J,())/\∃d,f=Dw item st d/\Bs n d/\Kv p d lo/\E7 r d lo (lo+m)) ?_ ?_ #[rfl,p,rfl,L,λ_ _=>rfl,K]) ?_)
 .intro k b f P Y zQ;let(rfl,d,rfl,o,B,g):=zQ
  let z:=o.o
  apply AY (wpS_mono (LM (λx b f=>f=Dw item st d/\∃l u,b=(J,l,u)/\l<=u/\u<=k/\u+x<=k+l /\
    (∀i,i<l->r (Au d (lo+i))<=r (Au d (lo+k)))/\(∀i,u<=i->i<k->r (Au d (lo+k))<r (Au d (lo+i))))
   (Q:=λb f=>f=Dw item st d/\∃l u,b=(J,l,u)/\l<=k /\
    (∀i,i<l->r (Au d (lo+i))<=r (Au d (lo+k)))/\(∀i,l<=i->i<k->r (Au d (lo+k))<r (Au d (lo+i)))) ?_ ?_ #[rfl,0,k,rfl,by show E3 k,by show AX k,by show HS (k+0) 0,λi R=>∅,λi G M=>∅]) ?_)
  .intro x b f _ hx zQ;let(rfl,l,u,rfl,c1,c2,C,t,y):=zQ
   dsimp only
   apply Zp (λq=>?_) λq=>?_
   .show Bi #[rfl,l,u,rfl,by show Bv c1 c2,t,λi a b=>y i (Bv q a) b]
   .let v1:l<=(l+u)/2:=by clear C;lia
    let F:(l+u)/2<u:=by clear C;lia
    generalize (l+u)/2=v at v1 F ⊢
    apply AY (OE H o ∅ ∅ N ?_)
    dsimp only
    apply Zp (λq=>?_) λq=>?_
    .let q:=of_decide_eq_true q
     show Bi #[rfl,_,_,rfl,∅,∅,∅,t,λi a b=>B3 q (g _ _ (HS lo v) (M4.ϡ a) (Nat.add_lt_add_left b lo))]
    .let q:¬ r (Au d (lo+k))<r (Au d (lo+v)):=λh=>q (decide_eq_true h)
     show Bi #[rfl,_,_,rfl,by show Nat.succ_le_of_lt F,∅,∅,λi a=>Bv (g (lo+i) (lo+v) (HS lo i) ∅ ∅) (FV q),y]
  .intro b f zQ;let(rfl,l,u,rfl,c1,c2,C,t,y):=zQ
   show#[rfl,l,u,rfl,by show Bv c1 c2,t,λi a b=>y i ∅ b]
  .intro b f zQ;let(rfl,l,u,rfl,c1,t,y):=zQ
   change wpS _ _ _ _ (do moveDown' (lo+k) (lo+l);Am (Hb (J,()))) _ _
   rw[moveDown'_eq]
   apply AY (wpS_modify (Bi #[rfl,bubble d (lo+k) (k-l),?_,o.bub _ _,λi R=>?_,λi j a b c=>?_]))
   .let e:bubble (d.j item) (lo+k) (k-l)=(bubble d (lo+k) (k-l)).j item:=kas_swaps_map item (λi=>lo+k-i) (λi=>lo+k-i-1) _ d
    change setArr st (bubble (d.j item) (lo+k) (lo+k-(lo+l)))=_
    rw[show lo+k-(lo+l)=k-l by show Nat.add_sub_add_left lo k l,e]
   .rw[Uq ∅ ∅,if_neg ∅,if_neg ∅];show B i R
   .rw[Uq ∅ ∅,Uq ∅ ∅,show lo+k-(k-l)=lo+l by lia]
    let d4:∀i,lo<=i->i<lo+l->r (Au d i)<=r (Au d (lo+k)):=λi a b=>by have:=t (i-lo) (Nat.sub_lt_left_of_lt_add a b);rwa[show lo+(i-lo)=i by show NS a]at this
    let d5:∀i,lo+l<=i->i<lo+k->r (Au d (lo+k))<r (Au d i):=λi a b=>by have:=y (i-lo) (Nat.le_sub_of_add_le' a) ∅;rwa[show lo+(i-lo)=i by lia]at this
    repeat' split
    all_goals first
     |(exfalso;lia)
     |show AX _
     |show d4 _ ∅ ∅
     |show F8 (d5 _ ∅ ∅)
     |show g _ _ ∅ ∅ ∅
 .intro b f zQ;let(rfl,d,rfl,o,B,g):=zQ
  let e:max ok m=m:=∅
  rw[e]at g
  show#[rfl,d,rfl,o,B,g]
 .intro b f zQ;let(rfl,d,rfl,o,B,g):=zQ
  show Bi (h d o B g)
end
theorem uW(i:Nat):mergeAt' i=(do
 let s <- get
 let(Z (sa,b,c),Z (sb,d,_)):=((GP s)[i]?,(GP s)[i+1]?)|unsupported "internal:list.sort.pending"
 set (Kw s (((GP s).ϐ i (sa,b+d,c)).Ϗ (i+1)))
 let Z k <- Kp O' (<- BG (arrOf s) sb) (arrOf s) sa b 0|return O'
 let(sa,b):=(sa+k,b-k)
 if b==0 then return J'
 let Z d <- Kp J' (<- BG (arrOf s) (sa+b-1)) (arrOf s) sb d (d-1)|return O'
 if d==0 then return J'
 let x:=(arrOf s).ζ sa sb
 let y:=(arrOf s).ζ sb (sb+d)
 let merged <- if b<=d then Us x y else Ut x y
 modify λs=>setArr s (merged.B.zipIdx.Χ (λa (p,j)=>a.ϐ (sa+j) p) (arrOf s))
 return(HW (<- get)).isNone):=rfl
def AV(r:Nat->Nat)(p:Array Nat):U (Nat×Nat×Nat)->Nat->Nat->Prop
 |[],a,b=>a=b
 |x::l,a,b=>x.1=a/\1<=x.2.1/\E7 r p a (a+x.2.1)/\AV r p l (a+x.2.1) b
section
variable{r:Nat->Nat}{p p':Array Nat}
theorem AV.le:∀{l:U (Nat×Nat×Nat)}{a b:Nat},AV r p l a b->a+l.a<=b
 |[],a,b,h=>by rw[show a=b from h];show AX _
 |x::l,a,b,h=>by have:=AV.le h.2.2.2;have:=h.2.1;erw[Cw];lia
theorem AV.same:∀{l:U (Nat×Nat×Nat)}{a b:Nat},AV r p l a b->(∀i,a<=i->i<b->Au p' i=Au p i)->AV r p' l a b
 |[],a,b,h,_=>h
 |x::l,a,b,h,e=>#[h.1,h.2.1,λi j c d f=>by
   have:=AV.le h.2.2.2;rw[e i ∅ ∅,e j (Bv c d) ∅];show h.2.2.1 i j c d f,AV.δ h.2.2.2 λi c d=>e i (Nat.le_of_add_right_le c) d]
theorem AV.app:∀{l c:U (Nat×Nat×Nat)}{a b:Nat},AV r p (l++c) a b->∃m,AV r p l a m/\AV r p c m b
 |[],c,a,b,h=>#[a,rfl,h]
 |x::l,c,a,b,h=>by
  let(m,d,e):=AV.app h.2.2.2;show#[m,#[h.1,h.2.1,h.2.2.1,d],e]
theorem AV.join:∀{l c:U (Nat×Nat×Nat)}{a m b:Nat},AV r p l a m->AV r p c m b->AV r p (l++c) a b
 |[],c,a,m,b,h,d=>by rw[show a=m from h];show d
 |x::l,c,a,m,b,h,d=>#[h.1,h.2.1,h.2.2.1,AV.join h.2.2.2 d]
theorem AV.modify(f:Nat×Nat×Nat->Nat×Nat×Nat)(c:∀x,(f x).1=x.1/\(f x).2.1=x.2.1):∀{l:U (Nat×Nat×Nat)}{a b:Nat}(k:Nat),AV r p l a b->AV r p (l.modify k f) a b
 |[],a,b,k,h=>by cases k<;>show h
 |x::l,a,b,0,h=>by
  show(f x).1=a/\1<=(f x).2.1/\E7 r p a (a+(f x).2.1)/\AV r p l (a+(f x).2.1) b
  rw[(c x).1,(c x).2];show h
 |x::l,a,b,k+1,h=>#[h.1,h.2.1,h.2.2.1,AV.modify f c k h.2.2.2]
end
theorem cF{b:Type}(o:Nat):∀(l:U b)(k:Nat)(a:Array b),o+k+l.a<=a.o->((l.zipIdx k).Χ (λa (x:b×Nat)=>a.ϐ (o+x.2) x.1) a).B=a.B.ϋ (o+k)++l++a.B.ρ (o+k+l.a)
 |[],k,a,h=>by simp
 |x::l,k,a,h=>by
  erw[Cw]at h;rw[List.zipIdx_cons,M8,cF o l (k+1) _ (by erw[Array.size_setIfInBounds];lia)];erw[Array.toList_setIfInBounds];rw[List.drop_set_of_lt ∅,show o+(k+1)+l.a=o+k+(x::l).a by erw[Cw];show Nat.succ_add_eq_add_succ (o.add k) l.a];congr 1;rw[show o+(k+1)=o+k+1 by show Eq.τ (Nat.add_assoc o k 1),List.take_add_one,List.take_set_of_le<|AX _,Fa (by simp;show GI h)];simp
theorem uX{M:Model}{A:Ag}{E:Aa->Ab->Prop}{s:Ab}{I:Type}{x:I}{Q:PUnit->I->Prop}{st:I}(h:Q ⟨⟩ x):wpS M A E s (set x:StateT I BP PUnit) Q st:=by
 unfold wpS;rw[StateT.run_set];show AT #[rfl,h]
theorem Hj{p:Array Nat}{a b i:Nat}(h:i<b-a)(c:b<=p.o):Au (p.ζ a b) i=Au p (a+i):=by
 apply(Jq);rw[Array.getElem?_extract];rw[if_pos ∅]
theorem uY{p pm:Array Nat}{a e:Nat}(d:e<=p.o)(f:a<=e)(hz:pm.o=e-a)(i:Nat):Au (p.B.ϋ a++pm.B++p.B.ρ e).C i=if i<a then Au p i else if i<e then Au pm (i-a)else Au p i:=by
 by_cases b:i<a
 .rw[if_pos b];apply(Jq);rw[List.getElem?_toArray,Dr,Fd (by simp;lia),YP b,N3]
 .rw[if_neg b];by_cases c:i<e
  .rw[if_pos c];apply(Jq);rw[List.getElem?_toArray,Dr,G8 (by simp;lia),Fd (by simp;lia),N3];congr 1;simp;lia
  .rw[if_neg c];apply(Jq);rw[List.getElem?_toArray,G8 (by simp;lia),Lf,N3];congr 1;simp;lia
structure SI(κ:Gq)(item:Nat->An)(st:Ah)(p:Array Nat)(pend:Array (Nat×Nat×Nat)):Prop where
 kind:kindOf st=κ
 arr:arrOf st=p.j item
 pend:GP st=pend
 ok:HW st=J
section
variable{prog:AM}{w:Aj}{A:Ag}{E:Aa->Ab->Prop}{s:Ab}{item:Nat->An}{r:Nat->Nat}{n:Nat}{p:Array Nat}{st:Ah}{pend:Array (Nat×Nat×Nat)}
theorem Em.srt{d e pm:Array Nat}(R:Em r d e pm):∀i j,i<=j->j<pm.o->r (Au pm i)<=r (Au pm j):=by
 intro i j a b;rcases ER i j with h|h
 .have:=QP.mp R.so i j (by simp;show GO a b) (by exists b) h;let c:i<pm.o:=GO a b;rw[show Au pm i=pm.B[i]'(by exists c) by simp[Au,Jr,c],show Au pm j=pm.B[j]'(by exists b) by simp[Au,Jr,b]];show this
 .rw[show i=j by show M7 a h];show AX _
variable(H:LK prog w A E s κ item r n)
include H
theorem cG{i z:Nat}(S:SI κ item st p pend)(M:Bs n p)(R:AV r p pend.B 0 z)(hi':i+1<pend.o)(hn:z<=n){Q:Bool->Ah->Prop}
  (h:∀C o l,SI κ item C o l->Bs n o->AV r o l.B 0 z->l.o+1=pend.o->(∀j,z<=j->Au o j=Au p j)->Q J' C):wpS (Ae prog w) A E s (mergeAt' i) Q st:=by
 rw[uW]
 apply AY (wpS_get ?_)
 obtain⟨pre,x,y,G,e,el⟩:∃pre x y G,pend.B=pre++x::y::G/\pre.a=i:=by
  apply#[pend.B.ϋ i,pend.B[i]'(by simp;show FA hi'),pend.B[i+1]'(by simp;lia),pend.B.ρ (i+2),?_,by simp;lia]
  rw[<- HK,<- HK,Ju]
 let(sa,f,pw):=x
 let(sb,F,q):=y
 rw[S.pend,show pend[i]?=Z (sa,f,pw) by rw[<- N3,e];simp[<- el],show pend[i+1]?=Z (sb,F,q) by rw[<- N3,e];simp[<- el]]
 dsimp only
 obtain⟨l,hpe⟩:∃x,x=((pend.ϐ i (sa,f+F,pw)).Ϗ (i+1)):=#[_,rfl]
 let e':l.B=pre++(sa,f+F,pw)::G:=by
  rw[hpe]
  simp only[Array.toList_eraseIdxIfInBounds,Array.toList_setIfInBounds,e,<- el]
  simp[List.eraseIdx_append_of_length_le]
 let sz:l.o+1=pend.o:=by
  rw[show l.o=l.B.a by simp,show pend.o=pend.B.a by simp,e',e];simp;lia
 rw[<- hpe]
 apply AY (uX ?_)
 rw[S.arr]
 let zp:=M.o
 rw[e]at R
 let(m,R1,R2):=R.app
 let(c1,c2,Y,d1,d2,K,R3):=R2
 subst c1
 subst d1
 let le3:=R3.le
 let S1:SI κ item (Kw st l) p l:=#[S.ϳ,S.arr,rfl,S.ok]
 let fin:∀C o,SI κ item C o l->Bs n o->E7 r o sa (sa+(f+F))->(∀j,j<sa->Au o j=Au p j)->(∀j,sa+f+F<=j->Au o j=Au p j)->Q J' C:=λC o S' B so b1 b2=>by
  apply h C o l S' B ?_ sz λj L=>b2 j ∅
  rw[e']
  refine(R1.δ λj _ b=>b1 j b).join #[rfl,by dsimp only;show NR c2,so,?_]
  rw[show sa+(f+F)=sa+f+F by show Eq.τ (Nat.add_assoc sa f F)]
  show R3.δ λj a _=>b2 j a
 let hlo:Lo n p:=λi z=>M.lt (J3 z zp)
 apply AY (ZW ∅ ?_)
 apply AY (MU H (M.lt ∅) hlo ∅ (En c2) (λi j a b=>Y _ _ (HS (sa,f,pw).fst i) (M4.ϡ a) (Nat.add_lt_add_left b sa)) S1.ϳ λk k1 k2 k3=>?_)
 apply Zp (λu=>?_) λu=>?_
 .let u:f-k=0:=IJ u
  apply Bi (fin _ p S1 M (λi j a b c=>?_) (λ_ _=>rfl) λ_ _=>rfl)
  rcases ER j (sa+f)with L|L
  .show Y i j a b L
  .rcases ER i (sa+f)with z|z
   .let T:=k2 (i-sa) ∅
    rw[show sa+(i-sa)=i by show NS a]at T
    let x2:=K (sa+f) j (AX _) L ∅
    lia
   .show K i j z b ∅
 let hf:∀i,sa+k<=i->i<sa+f->r (Au p (sa+f))<r (Au p i):=λi a b=>by
  have:=k3 (i-sa) (Nat.le_sub_of_add_le' a) ∅
  rw[show sa+(i-sa)=i by lia]at this
  lia
 rw[show sa+k+(f-k)-1=sa+f-1 by lia]
 apply AY (ZW ∅ ?_)
 apply AY (MU H (M.lt ∅) hlo ∅ (Hh d2) (λi j a b=>K _ _ ∅ (M4.ϡ a) ∅) S1.ϳ λt t1 t2 t3=>?_)
 apply Zp (λv=>?_) λv=>?_
 .let v:t=0:=IJ v
  let T:=t3 0 (Nat.le_zero.ϡ v) (En d2)
  let x2:=hf (sa+f-1) ∅ ∅
  show absurd x2 T
 rw[show(p.j item).ζ (sa+k) (sa+f)=(p.ζ (sa+k) (sa+f)).j item by simp,show(p.j item).ζ (sa+f) (sa+f+t)=(p.ζ (sa+f) (sa+f+t)).j item by simp]
 let za:(p.ζ (sa+k) (sa+f)).o=f-k:=by simp;lia
 let zb:(p.ζ (sa+f) (sa+f+t)).o=t:=by simp;lia
 let P:DD r n (p.ζ (sa+k) (sa+f)) (p.ζ (sa+f) (sa+f+t)):=by
  apply#[λi z=>?_,λi z=>?_,λi j a b=>?_,λi j a b=>?_,∅,∅,λi z=>?_,λi z=>?_]
  .rw[Hj ∅ ∅];show M.lt ∅
  .rw[Hj ∅ ∅];show M.lt ∅
  .rw[Hj ∅ ∅,Hj ∅ ∅];show Y _ _ ∅ ∅ ∅
  .rw[Hj ∅ ∅,Hj ∅ ∅];show K _ _ ∅ ∅ ∅
  .rw[Hj ∅ ∅,Hj ∅ ∅];show hf _ ∅ ∅
  .rw[Hj ∅ ∅,Hj ∅ ∅,za]
   have:=t2 i ∅
   rw[show sa+k+(f-k-1)=sa+f-1 by lia];show this
 let cont:∀pm g,Em r (p.ζ (sa+k) (sa+f)) (p.ζ (sa+f) (sa+f+t)) pm->wpS (Ae prog w) A E s (do
   modify λs=>setArr s ((pm.j item).B.zipIdx.Χ (λa (x:An×Nat)=>a.ϐ (sa+k+x.2) x.1) (arrOf s))
   return(HW (<- get)).isNone) Q (F2 (Kw st l) g):=by
  intro pm g N
  let zm:pm.o=f-k+t:=by
   have:=N.perm.ό
   rw[EL,K5,K5,K5,za,zb]at this
   show this
  apply AY (wpS_modify (AY (wpS_get (Bi ?_))))
  obtain⟨o,W⟩:∃o,o=(p.B.ϋ (sa+k)++pm.B++p.B.ρ (sa+f+t)).C:=#[_,rfl]
  let ea:(pm.j item).B.zipIdx.Χ (λa (x:An×Nat)=>a.ϐ (sa+k+x.2) x.1) (p.j item)=o.j item:=by
   apply(Ks.mp)
   rw[cF (sa+k) _ 0 _ (by simp;lia),W]
   erw[Array.toList_map,Bq,K5,Ek,List.map_take,List.map_drop,Nat.add_zero,Array.toList_map]
   rw[zm,show sa+k+(f-k+t)=sa+f+t by lia]
  let X:=λi=>uY (p:=p) (pm:=pm) (a:=sa+k) (e:=sa+f+t) ∅ ∅ ∅ i
  rw[<- W]at X
  let inm:∀i,i<pm.o->∃j,sa+k<=j/\j<sa+f+t/\Au pm i=Au p j:=λi z=>by
   let m2:=N.perm.Ϣ.mp (HE (Ux z))
   rcases Cn.mp m2 with m3|m3
   .let(j,a,b,c):=MZ (k:=0) (p:=p.ζ (sa+k) (sa+f)) m3
    rw[Hj ∅ ∅]at c
    show#[sa+k+j,∅,∅,c]
   .let(j,a,b,c):=MZ (k:=0) (p:=p.ζ (sa+f) (sa+f+t)) m3
    rw[Hj ∅ ∅]at c
    show#[sa+f+j,∅,∅,c]
  let B:Bs n o:=by
   apply Array.Ϧ.E ?_ M
   rw[Array.perm_iff_toList_perm,W]
   let m2:(p.ζ (sa+k) (sa+f)).B++(p.ζ (sa+f) (sa+f+t)).B++p.B.ρ (sa+f+t)=p.B.ρ (sa+k):=by
    erw[IG,Fz]
    let q1:p.B.ρ (sa+f)=(p.B.ρ (sa+f)).ϋ (sa+f+t-(sa+f))++p.B.ρ (sa+f+t):=by
     have:=(Ju (sa+f+t-(sa+f)) (p.B.ρ (sa+f))).τ
     rw[List.drop_drop,show sa+f+(sa+f+t-(sa+f))=sa+f+t by lia]at this
     show this
    let q2:p.B.ρ (sa+k)=(p.B.ρ (sa+k)).ϋ (sa+f-(sa+k))++p.B.ρ (sa+f):=by
     have:=(Ju (sa+f-(sa+k)) (p.B.ρ (sa+k))).τ
     rw[List.drop_drop,show sa+k+(sa+f-(sa+k))=sa+f by lia]at this
     show this
    rw[Dr,<- q1,<- q2]
   rw[Dr]
   refine((N.perm.ϙ _).append_left _).E ?_
   rw[m2,Ju]
  let S2:SI κ item (setArr (F2 (Kw st l) g) (o.j item)) o l:=#[S.ϳ,rfl,rfl,S.ok]
  let res:=fin _ o S2 B (λi j a b c=>?_) (λj L=>by rw[X,if_pos ∅]) (λj L=>by rw[X,if_neg ∅,if_neg ∅])
  .rw[S.arr,ea,show(HW (setArr (F2 (Kw st l) g) (o.j item))).isNone=J' by rw[S2.ok];rfl]
   show res
  .let lo1:∀i j,sa<=i->i<sa+k->sa+k<=j->j<sa+f+F->r (Au p i)<=r (Au p j):=λi j a b c d=>by
    rcases ER j (sa+f)with L|L
    .show Y i j a ∅ L
    .let T:=k2 (i-sa) ∅
     rw[show sa+(i-sa)=i by lia]at T
     let x2:=K (sa+f) j (AX _) L ∅
     lia
   let hi1:∀i j,sa+k<=i->i<sa+f+t->sa+f+t<=j->j<sa+f+F->r (Au p i)<=r (Au p j):=λi j a b c d=>by
    rcases ER i (sa+f)with z|z
    .let T:=t3 (j-(sa+f)) ∅ ∅
     rw[show sa+f+(j-(sa+f))=j by lia]at T
     let x2:=Y i (sa+f-1) ∅ ∅ ∅
     lia
    .show K i j z ∅ ∅
   rw[X,X]
   by_cases i1:i<sa+k
   .rw[if_pos i1]
    by_cases j1:j<sa+k
    .rw[if_pos j1];show Y i j a b ∅
    .rw[if_neg j1]
     by_cases j2:j<sa+f+t
     .rw[if_pos j2]
      let(v,v1,v2,v3):=inm (j-(sa+k)) ∅
      rw[v3];show lo1 i v a i1 v1 ∅
     .rw[if_neg j2];show lo1 i j a i1 ∅ ∅
   .rw[if_neg i1]
    rw[if_neg (c:=j<sa+k) ∅]
    by_cases i2:i<sa+f+t
    .rw[if_pos i2]
     by_cases j2:j<sa+f+t
     .rw[if_pos j2];show N.srt _ _ ∅ ∅
     .rw[if_neg j2]
      let(v,v1,v2,v3):=inm (i-(sa+k)) ∅
      rw[v3];show hi1 v j v1 v2 ∅ ∅
    .rw[if_neg i2,if_neg ∅]
     show K i j ∅ b ∅
 apply Zp (λ_=>?_) λ_=>?_
 .show AY (uM H P S1.ϳ λpm g N=>cont pm g N)
 .show AY (uR H P S1.ϳ λpm g N=>cont pm g N)
end
def uZ(n lo m:Nat):StateT Ah BP (ForInStep (O Unit×Nat)):=do
 match(GP (<- get)).back? with
 |some (b,n1,_)=>
  let s <- forIn [:n] ((J,()):O Unit×Unit) λ_ _=>do
   let p:=GP (<- get)
   match if p.o>1 then p[p.o-2]? else J with
   |some (_,_,a)=>
    if a<=power' n (2*b+n1) (2*b+n1+n1+m) n then Am (Ku (J,()))
    else do
     if !(<- mergeAt' (p.o-2))then Am (Ku (Z (),()))else Am (Hb (J,()))
   |_=>Am (Ku (J,()))
  Js (λ_=>StateT Ah BP (ForInStep (O Unit×Nat))) s.fst (λr=>Am (Ku (Z r,lo))) λ_=>do
   modify λs=>Kw s ((GP s).modify ((GP s).o-1) λx=>(x.1,x.2.1,power' n (2*b+n1) (2*b+n1+n1+m) n))
   modify λs=>Kw s ((GP s).Ο (lo,m,0))
   Am (Hb (J,lo+m))
 |_=>do
  modify λs=>Kw s ((GP s).Ο (lo,m,0))
  Am (Hb (J,lo+m))
def M9(a:Gq)(item:Nat->An)(r:Nat->Nat)(n x:Nat)(b:O Unit×Nat)(st:Ah):Prop:=∃lo p pend,b=(J,lo)/\SI a item st p pend/\Bs n p/\AV r p pend.B 0 lo/\lo<=n/\x<=lo
def QT(a:Gq)(item:Nat->An)(r:Nat->Nat)(n lo:Nat)(P:Array Nat->Nat->Prop)(b:O Unit×Unit)(st:Ah):Prop:=∃p pend,b=(J,())/\SI a item st p pend/\Bs n p/\AV r p pend.B 0 lo/\P p pend.o
section
variable{prog:AM}{w:Aj}{A:Ag}{E:Aa->Ab->Prop}{s:Ab}{item:Nat->An}{r:Nat->Nat}{n:Nat}{p:Array Nat}{st:Ah}{pend:Array (Nat×Nat×Nat)}
variable(H:LK prog w A E s κ item r n)
include H
theorem cH{lo m x:Nat}(v:SI κ item st p pend)(q:Bs n p)(z:AV r p pend.B 0 lo)(m1:1<=m)(m2:lo+m<=n)(B:E7 r p lo (lo+m))(N:x<=lo):wpS (Ae prog w) A E s (uZ n lo m) (FB (M9 κ item r n n) (M9 κ item r n (x+1))) st:=by
 let C:∀(g:Ah) (p4:Array Nat) (d:Array (Nat×Nat×Nat)),SI κ item g p4 d->Bs n p4->AV r p4 d.B 0 lo->E7 r p4 lo (lo+m)->wpS (Ae prog w) A E s (do
   modify λs=>Kw s<|(GP s).Ο (lo,m,0)
   Am<|Hb (J,lo+m)) (FB (M9 κ item r n n)<|M9 κ item r n<|x+1) g:=by
  intro g p4 d f e k l;apply AY<|wpS_modify<|Bi ⟨lo+m,p4,d.Ο (lo,m,0),rfl,⟨f.ϳ,f.arr,?_,f.ok⟩,e,?_,m2,∅⟩
  .show(GP g).Ο _=_;rw[f.pend]
  .rw[E6];show k.join #[rfl,m1,l,rfl]
 apply AY<|wpS_get ?_;split
 .apply AY<|Jv (λ_=>QT κ item r n lo λp _=>E7 r p lo<|lo+m) (QT κ item r n lo λp _=>E7 r p lo<|lo+m) (λy b t K h=>?_) (λ_ _ h=>h) #[p,pend,rfl,v,q,z,B] λb t h=>?_
  .let(p4,d,rfl,f,e,k,l):=h;apply AY<|wpS_get ?_;rw[f.pend];dsimp only;by_cases hz:d.o>1
   .rw[if_pos hz,cI ∅];apply Zp (λ_=>?_) λ_=>?_
    .show Bi #[p4,d,rfl,f,e,k,l]
    .apply AY<|cG H f e k ∅ ∅ λP F o L u M Q G=>?_;apply Bi #[F,o,rfl,L,u,M,λi j a b c=>?_];rw[G i a,G j ∅];show l i j a b c
   .rw[if_neg hz];show Bi #[p4,d,rfl,f,e,k,l]
  .let(p4,d,rfl,f,e,k,l):=h;apply AY<|wpS_modify<|C _ p4 _ ⟨f.kind,f.arr,rfl,f.ok⟩ e ?_ l;rw[f.pend,Array.toList_modify];apply AV.modify _ ?_ _ k;show λx=>#[rfl,rfl]
 .show C _ p pend v q z B
theorem u0(S:SI κ item st p (T' []))(N:Bs n p)(h2:2<=n){Q:Unit->Ah->Prop}(h:∀d l,Bs n l->E7 r l 0 n->arrOf d=l.j item->HW d=J->Q () d):wpS (Ae prog w) A E s sortRuns' Q st:=by
 rw[sortRuns'_eq];apply AY<|wpS_get ?_;rw[show(arrOf st).size=n by rw[S.arr,II,N.size]];apply AY<|Jv (M9 κ item r n) (M9 κ item r n n) (λx b d hx h=>?_) (λ_ _ h=>h) #[0,p,(T' []),rfl,S,N,rfl,∅,∅] λb d B=>?_
 .let(lo,l,pend,rfl,g,k,R,l1,C):=h;apply Zp (λq=>Bi #[lo,l,pend,rfl,g,k,R,l1,q]) λq=>?_;rw[show d=Dw item d l by rw[Dw,setArr,<- g.arr]];apply AY<|uU H k ∅ ∅ g.kind λm G m1 m2 v P K=>?_;let R2:AV r G pend.B 0 lo:=R.δ λi _ W=>P i W;apply Zp (λc=>?_) λc=>?_
  .apply AY<|wpS_lift<|Gb ⟨rfl,?_⟩;apply AY<|uV H v m1 ∅ ∅ g.kind K λY F b3 s3=>?_;show cH (x:=x) H (st:=Dw item d Y) #[g.ϳ,rfl,g.pend,g.ok] F (R2.δ λi _ W=>b3 i W) ∅ ∅ s3 C
  .show cH (x:=x) H (show SI κ item (Dw item d G) G pend from#[g.ϳ,rfl,g.pend,g.ok]) v R2 m1 ∅ K C
 .let(lo,l,pend,rfl,g,k,R,l1,C):=B;let e:lo=n:=∅
  subst e;apply AY<|Jv (λy=>QT κ item r lo lo λ_ z=>z<=1\/z+y<=lo) (QT κ item r lo lo λ_ z=>z<=1) (λy b t hy h=>?_) (λb t h=>?_) #[l,pend,rfl,g,k,R,.σ (by have:=R.le;simp at this;lia)] λb t B=>?_
  .let(p4,a,rfl,o,f,j,L):=h;apply AY<|wpS_get ?_;rw[o.pend];apply Zp (λc=>Bi #[p4,a,rfl,o,f,j,c]) λc=>AY<|cG H o f j ?_ (AX _) λst6 p6 u S6 M R6 z6 b6=>Bi #[p6,u,rfl,S6,M,R6,∅];repeat' split;all_goals lia
  .let(p4,a,rfl,o,f,j,L):=h;show#[p4,a,rfl,o,f,j,∅]
  .let(p4,a,rfl,o,f,j,L):=B;apply Bi<|h t p4 f ?_ o.arr o.ok;match T:a.B,(show a.B.a<=1 by exists L)with
   |[],_=>rw[T]at j;have:0=lo:=j;lia
   |[x],_=>
    rw[T]at j;have:=j.2.2.1;rw[j.2.2.2]at this;show this
end
theorem cJ{b:Type}{p q:b->Bool}:∀{l:U b},(∀x∈l,p x=J'->q x=J')->∀{a:b},a∈l->q a=J'->p a=O'->l.countP p<l.countP q
 |x::l,h,a,c,f,g=>by
  let i:l.countP p<=l.countP q:=List.countP_mono_left λy d=>h y<|Bl _ d;rw[List.countP_cons,List.countP_cons];rcases Bx.mp c with rfl|c
  .rw[f,g];simp;show Nat.lt_succ_of_le i
  .have:=cJ (λy d=>h y<|Bl _ d) c f g;cases e:p x with
   |false=>simp;split<;>lia
   |true=>rw[h x (Bh ..) e];simp;show this
theorem cK{lt:Nat->Nat->Bool}{n:Nat}(W:WO lt n){i:Nat}(a:i<n)(c:j<n):decide ((BI n).countP (λk=>lt k i)<(BI n).countP (λk=>lt k j))=lt i j:=by
 cases h:lt i j with
 |true=>
  apply(decide_eq_true);apply cJ (λk b d=>?_) (EY.ϡ a) h ?_
  .let b:=EY.mp b;rcases W.neg k j i b c a d with z|z
   .show z
   .have:=W.asym i j a c h;rw[z]at this;cases this
  .show W.ω a
 |false=>
  apply(decide_eq_false);have:(BI n).countP (λk=>lt k j)<=(BI n).countP (λk=>lt k i):=List.countP_mono_left λk b e=>by
   rcases W.neg k i j (EY.mp b) a c e with z|z
   .show z
   .rw[z]at h;cases h
  show Nat.not_lt.ϡ this
theorem u3{prog:AM}{w:Aj}{A:Ag}{E:Aa->Ab->Prop}{s:Ab}{g:Gq}{it:Array An}{n:Nat}{lt:Nat->Nat->Bool}(W:WO lt n)(t:2<=n) (u:∀i j (C:Bool->Ab->Prop),i<n->j<n->C (lt i j) s->kas_cmp prog w A g it i j C s) {Q:Unit->Ah->Ab->Prop} (v:∀(p:Array Nat) (st:Ah),Bs n p->uz lt p n->arrOf st=p.j (kas_item it)->HW st=J->Q () st s):kasC (Ae prog w) A E sortRuns' Q (kas_st g it (List.C (BI n))) s:=by
 let H:LK prog w A E s g (kas_item it) (λi=>(BI n).countP<|λk=>lt k i) n:=by
  intro i j q c Q st x h;rw[cK W q c]at h;rw[lt'_eq];apply AY<|wpS_get ?_;rw[x];apply AY<|wpS_lift<|OG ?_;show wpAny_mono (u i j (λb l=>l=s/\b=lt i j) q c #[rfl,rfl]) (λb l m=>by let(rfl,rfl):=m;show#[rfl,Bi h]) λ_ _ e=>e.Η
 let d:=u0 H (st:=kas_st g it<|List.toArray<|BI n) (p:=(BI n).toArray) #[rfl,rfl,rfl,rfl] (Array.Perm.refl _) t (Q:=λ_ a=>Q () a s) (λa y o z B G=>v y a o (λi j f c=>?_) B G)
 .show wpAny_mono d (λr l m=>by let(rfl,h):=m;show h) λ_ _ e=>e
 .have:=z i j (E3 _) f c;unfold Ot;rw[<- (cK W (o.lt c)<|o.lt (i:=i) (GO f c))];show decide_eq_false<|Nat.not_lt.ϡ this
structure Bt(F:List Sl->Option Rv)(xs:List D):Prop where
 few:xs.a<1000
 tells:∀x∈xs,∃r,F [.y x]=Z r
 mode:∃b,∀x∈xs,Cu b (D1 F x)
 cmp:∀x∈xs,∀y∈xs,∃r,ltN 6 (D1 F x) (D1 F y)=Z r
 asym:∀x∈xs,∀y∈xs,CU F x y=J'->CU F y x=O'
 neg:∀x∈xs,∀y∈xs,∀z∈xs,CU F x z=J'->CU F x y=J'\/CU F y z=J'
 anti:∀x∈xs,∀y∈xs,CU F x y=O'->CU F y x=O'->x=y
def Jw(lt:D->D->Bool)(x:D):U D->U D
 |[]=>[x]
 |y::r=>if lt x y then x::y::r else y::Jw lt x r
def FC(lt:D->D->Bool):U D->U D
 |[]=>[]
 |x::r=>Jw lt x (FC lt r)
theorem UJ(lt:D->D->Bool)(x:D):∀l,(Jw lt x l).Ϧ (x::l)
 |[]=>.ω _
 |y::r=>by
  unfold Jw;split
  .show .ω _
  .show((UJ lt x r).Θ y).E<|.swap x y r
theorem QU(lt:D->D->Bool):∀l,(FC lt l).Ϧ l
 |[]=>.ω _
 |x::r=>(UJ lt x _).E<|(QU lt r).Θ x
theorem cL{F:U Sl->O Rv}{xs:U D}(h:Bt F xs){x:D}(d:x∈xs):∀l:U D,(∀y∈l,y∈xs)->l.Ϛ (λa b=>CU F b a=O')->(Jw (CU F) x l).Ϛ λa b=>CU F b a=O'
 |[],_,_=>by simp[Jw]
 |y::r,f,i=>by
  let(j,k):=Na.mp i;let g:=f y Bh;unfold Jw;split
  .next c=>
   apply Na.ϡ #[λz hz=>?_,i];rcases Bx.mp hz with e|hz
   .subst e;show h.asym x d z g c
   .cases m:CU F z x with|false=>rfl|true=>
     rcases h.neg z (f z<|Bl _ hz) y g x d m with q|q
     .rw[j z hz]at q;cases q
     .rw[h.asym x d y g c]at q;cases q
  .next c=>
   rw[Bool.not_eq_true]at c;apply Na.ϡ #[λz hz=>?_,cL h d r (λz hz=>f z<|Bl _ hz) k];rcases Bx.mp ((UJ (CU F) x r).subset hz)with e|hz
   .subst e;show c
   .show j z hz
theorem cM{F:U Sl->O Rv}{xs:U D}(h:Bt F xs):∀l:U D,(∀y∈l,y∈xs)->(FC (CU F) l).Ϛ λa b=>CU F b a=O'
 |[],_=>.ϔ
 |x::r,c=>cL h (c x Bh) _ (λy d=>c y<|Bl _<|(QU _ r).subset d) (cM h r λy d=>c y<|Bl _ d)
def Gr(F:U Sl->O Rv)(xs:U D):A7:=gd (Bt F xs) (Z (FC (CU F) xs))
theorem Bt.same{F:U Sl->O Rv}{ys:U D}(h:Bt F xs)(c:ys.Ϧ xs)(d:ys.Ϛ λa b=>CU F b a=O'):ys=FC (CU F) xs:=List.Ϧ.eq_of_pairwise (le:=λa b=>CU F b a=O') (λa b e f g i=>h.anti a (c.subset e) b ((QU _ xs).subset f) i g) d (cM h xs λ_ j=>j) (c.E (QU _ xs).τ)
theorem u4{F:U Sl->O Rv}(h:Bt F xs):Gr F xs=Z (FC (CU F) xs):=MD h
theorem UK{F:U Sl->O Rv}{ys:U D}(h:Gr F xs=Z ys):Bt F xs/\ys=FC (CU F) xs:=by grind [Gr,gd]
section
variable{H:Hp}{s:Ab}{N:Fb}
theorem UL{K:Ap}{b:U D}{vs:U V}(h:Ad K N H b vs):∀(a:U Nat),(∀j∈a,j<b.a)->Ad K N H (a.j λj=>b.Y j .Α) (a.j λj=>vs.Y j .Α)
 |[],_=>Ad.ϔ
 |j::a,c=>by
  let(v,e,d):=h.Ρ<|Cb<|c j Bh;show Ad.cons (by simp_all)<|UL h a λk f=>c k<|Bl _ f
theorem OH{vs:U V}{us:U Aa}(h:Aq vs us):∀(b:U Nat),Aq (b.j λj=>vs.Y j .Α) (b.j λj=>us.Y j .Δ)
 |[]=>.ϔ
 |j::b=>by
  apply .Θ ?_<|OH h b;induction h generalizing j with|nil=>simp;rfl|cons a _ c=>
   cases j<;>simp_all
theorem cN(zB:Inv X pins I H s){prog:AM}{w:Aj}(A:Ag)(hu:A.γ+40<Av){F:U Sl->O Rv}{f:U D}(h:Bt F f){kvs:U V}{us items:U Aa}
  (d:Ad X.K N H (f.j (D1 F)) kvs) (r:Aq kvs us) (g:items.a=f.a) {P:PySem.Fin->Ab->Prop} {T:Ah->BP PySem.Fin}
  (q:∀(p:U Nat) (st:Ah),p.Ϧ (BI f.a)->(p.j λj=>f.Y j .Α)=FC (CU F) f->Array.j (λx=>x.2) (arrOf st)=(p.j λj=>items.Y j .Δ).C->HW st=J->wpAny (Ae prog w) A (T st) P E s):
  wpAny (Ae prog w) A (do
   let kind <- if items.C.o<2 then Am general' else keyKind' us.C
   let((),s) <- (if items.C.o<2 then Am ()else sortRuns').run (SortSt.mk' kind (us.C.zip items.C) (T' []) 7 J)
   T s) P E s:=by
 let l1:=d.a
 let l2:=r.a
 rw[Bq]at l1
 by_cases t:items.C.o<2
 .rw[if_pos t]
  erw[t,if_true]
  let hz:us.a=items.a:=∅
  rw[B5]at t
  apply Ao (AT ?_)
  apply Ao ?_
  apply AT ?_
  apply q (BI f.a) (SortSt.mk' general' (us.C.zip items.C) (T' []) 7 J) (.ω _) ?_ ?_ rfl
  .let e:(BI f.a).j (λj=>f.Y j .Α)=f:=by
    apply(Kh)
    intro i
    by_cases g:i<f.a
    .simp[g]
    .simp[g]
   rw[e]
   apply h.δ (.ω _) ?_
   match f,g with
   |[],_=>show .ϔ
   |[a],_=>show M0 _ _
   |a::b::c,g=>simp at g;lia
  .change Array.j (λx=>x.2) (us.C.zip items.C)=_
   let e:(BI f.a).j (λj=>items.Y j .Δ)=items:=by
    rw[<- g]
    apply(Kh)
    intro i
    by_cases g:i<items.a
    .simp[g]
    .simp[g]
   rw[e,List.zip_toArray,List.map_toArray]
   congr 1
   show List.map_snd_zip (Nat.le_of_eq hz.τ)
 .rw[if_neg t]
  erw[t,if_false]
  rw[B5]at t
  let(b,m):=h.mode
  apply Ao (uG zB b (f.j (D1 F)) kvs us d r (λk hk=>by
   let(x,hx,rfl):=Bm.mp hk
   show m x hx) ∅ ?_)
  let hz:us.a=items.a:=∅
  let hr:=kas_range (us.C.zip items.C)
  rw[show(us.C.zip items.C).o=f.a by simp;lia]at hr
  let G:SortSt.mk' (Ou b) (us.C.zip items.C) (T' []) 7 J=kas_st (Ou b) (us.C.zip items.C) (BI f.a).C:=by
   unfold kas_st;rw[hr]
  apply Ao ?_
  rw[G]
  let W:WO (λi j=>CU F (f.Y i .Α) (f.Y j .Α)) f.a:=by
   let mem:∀i,i<f.a->f.Y i .Α∈f:=λi g=>by
    rw[show f.Y i .Α=f[i] by simp[Eo,g]];show Fy g
   show#[λa b u m R=>h.asym _ (mem a u) _ (mem b m) R,λa b c u m L R=>h.neg _ (mem a u) _ (mem b m) _ (mem c L) R]
  let L:∀i j (C:Bool->Ab->Prop),i<f.a->j<f.a->C (CU F (f.Y i .Α) (f.Y j .Α)) s->kas_cmp prog w A (Ou b) (us.C.zip items.C) i j C s:=λi j C n o hq=>by
   unfold kas_cmp
   rw[kat_item hz,kat_item hz]
   let mem:∀i,i<f.a->f.Y i .Α∈f:=λi g=>by
    rw[show f.Y i .Α=f[i] by simp[Eo,g]];show Fy g
   let(rr,y):=h.cmp _ (mem i n) _ (mem j o)
   rw[b5 y]at hq
   let z:∀i,i<f.a->∃v,Aw X.K N H (D1 F (f.Y i .Α)) v/\RelV v (us.Y i .Δ):=λi g=>by
    let(v,ev,dv):=d.Ρ (i:=i) (d:=D1 F f[i]) (by simp[g])
    apply#[v,by rw[show f.Y i .Α=f[i] by simp[Eo,g]];show dv,?_]
    have:=OH r [i]
    cases this with
    |cons a _=>
     rw[<- (show kvs.Y i .Α=v by simp[Eo,ev])]
     show a
   let(v1,M,S):=z i n
   let(v2,zA,Y):=z j o
   show uD zB A hu b rr y (m _ (mem i n)) (m _ (mem j o)) M zA S Y hq
  apply u3 (Q:=λ_ st s'=>wpAny (Ae prog w) A (T st) P E s') W ∅ L λp st hB hS u hf=>?_
  let hp:p.o=f.a:=by exists hB.B.ό
  let l:p.B.Ϧ (BI f.a):=by
   have:=hB.B
   exists this
  apply q p.B st l ?_ (kat_snds hz u) hf
  apply h.δ ?_ ?_
  .let e:(BI f.a).j (λj=>f.Y j .Α)=f:=by
    apply(Kh)
    intro i
    by_cases g:i<f.a
    .simp[g]
    .simp[g]
   have:=l.j λj=>f.Y j .Α
   rw[e]at this
   show this
  .rw[List.pairwise_map,QP]
   intro i j g B hij
   have:=hS i j (Kq hij) (by simp at B;show J3 B hp)
   unfold Ot Au at this
   simp at g B
   simpa[Jr,g,B]using this
theorem u5(i:Inv X pins I H s){prog:AM}{w:Aj}(A:Ag)(f:A.γ+40<Av){F:U Sl->O Rv}{b:U D}(h:Bt F b){kvs:U V}{us items:U Aa}
  (d:Ad X.K N H (b.j (D1 F)) kvs) (r:Aq kvs us) (g:items.a=b.a) {c:Nat} {e:Aa} {P:PySem.Fin->Ab->Prop}
  (q:∀(p:U Nat) (st:Ah),p.Ϧ (BI b.a)->(p.j λj=>b.Y j .Α)=FC (CU F) b->Array.j (λx=>x.2) (arrOf st)=(p.j λj=>items.Y j .Δ).C->HW st=J->wpAny (Ae prog w) A (ksk_tail a O' c e st) P E s):
  wpAny (Ae prog w) A (ksk_end a O' items.C c e us.C) P E s:=by
 unfold ksk_end
 show cN i A f h d r g q
end
section
variable{H:Hp}{s:Ab}{N:Fb}
abbrev DO(a:U Aa)(n:Nat):Obj:={cls:=.ι "list",data:=.Ϲ a.C n}
theorem Inv.rawset{c its':U Aa}{n:Nat}{f:Array Aa->Array Aa}(k:Inv X pins I H s)(d:H a=J)(o:Off X pins a)(e:s.u.R a=Z (DO c n))(g:f c.C=its'.C):∃h,(s.u.ϰ a (Gc f)).R a=Z (DO its' h)/\Inv X pins I H {s with heap:=s.u.ϰ a (Gc f)}:=by
 let q:=PySem.IsL.ϰ e f;rw[g]at q;show#[_,q,k.turned (t':=s.Γ) (λb u i j=>(Tv s.u (Gc f)<|BM i).E j) d o.nL (.σ o.s0) o.cl o.pn]
theorem UM(a:U Aa)(n:Nat)(v:O Aa):(DO a n).data≠.Ν v:=nofun
theorem Off.more{b:Ac}{o:Obj}(f:Off X pins a)(h:b≠a):Off X (pins++[(b,o)]) a:=#[f.nL,f.s0,f.cl,λp c=>by
  rw[<- Dr]at c;rcases Cn.mp c with c|c
  .show f.pn p c
  .erw[Ca]at c;subst c;show h,f.nf]
theorem Inv.pinGet{o:Obj}(b:Inv X pins I H s)(h:(a,o)∈pins):s.u.R a=Z o/\H a=J:=#[(b.pin _<|Dt _ h).1,(b.pin _<|Dt _ h).2.1]
theorem u6{prog:AM}{w:Aj}(A:Ag){D c:Ac}{e m:Nat}{us out:U Aa}{P:PySem.Fin->Ab->Prop}{st:Ah}(d:Inv X (pins++[(D,DO [] e)]++[(c,DO us m)]) I H s) (i:Off X pins D) (n:Off X pins c) (ne:D≠c) (g:us.a<=Ay) (h:Array.j (λx=>x.2) (arrOf st)=out.C) (o:HW st=J) (j:Aq vs out) (hz:vs.a<=Ay) (q:∀k,Inv X pins I (AK H D (.O vs)) k->P (.Ϙ (.ϸ .Δ)) k):wpAny (Ae prog w) A (ksk_tail D O' e (.I c) st) P E s:=by
 let(gk,p):=d.pinGet (a:=c) (Dt _ Bh);let(r,hd):=d.pinGet (a:=D) (J0 _<|Dt _ Bh);let(n2,v,l):=d.unpinned.rawset (f:=λ_=>(T' [])) (its':=[]) p (n.more ne) gk rfl;apply Ao<|OI gk rfl ?_ (by exists g) (by simp);apply Ao<|wpAny_letGo ?_;let(b,_):=l.pinGet (a:=D) (Dt _ Bh);apply Ao<|seqEpoch_at b rfl ?_;let(n3,t,u):=l.unpinned.rawset (f:=λ_=>out.C) (its':=out) hd i b rfl;erw[FU,if_false,h];apply Ao<|OI b rfl ?_ (by simp) (by simp;show NR (show out.a<=Ay by rw[<- j.a];show hz));rw[o];erw[show(e != e)=O' by simp,FU,if_false];show AT<|q _<|u.catch hd i t j hz
variable{k:Nat}{fn:Ac}{fd:Cs}{F:U Sl->O Rv}
open J in
theorem u7(m:A2 X.β X.w X.K X.mg X.χ Bp k fn fd ps (A4 X.K F))(i:Binds X.K fd ps [])(W:Inv X pins I H s)(A:Ag)(B:AL k A)(C:Dd X.β X.w X.K X.mg X.χ A X.ϟ s H)(n:∀a,N a->H a≠J){x:D}{v:V}(d:Aw X.K N H x v)(G:RelV v u){r:Rv}(o:F [.y x]=Z r) {Q:AR} (q:∀u' h c H',Inv X pins I H' h->Ak H H'->Aw X.K N H' (D1 F x) c->RelV c u'->Q u' h):wpAny (Ae X.β X.w) A (call (.I fn) [u]) Q E s:=by
 let f:A4 X.K F [v] H (λc H'=>Ak H H'/\Aw X.K N H' (D1 F x) c) E0:=by
  apply#[N,[.y x],r,n,?_,o,λc H' j p=>#[j,?_]]
  .show#[v,[],rfl,d,rfl]
  .let e:D1 F x=Dk r:=by unfold D1;rw[o];rfl
   rw[e];cases r with|val y=>show p|own ys t=>
    let(a,P,L,M,R,T):=p;erw[Dk,Aw];show#[a,P,L,.of (λz=>n a z M) R,T.nw λb i=>.Q<|.Q i]
 let S:([u]:U Aa).a=ps.a:=by
  have:=m.ϩ _ _ _ _ f;exists this
 apply wpAny_call<|codeAny_mono (m.run A X.stack s H ⟨[u],[]⟩ [u] [v] _ E0 B C (by exists i s [u] W.kIn (by exists S)) (.cons G .nil) f) λr h g=>?_;cases r with|error e=>show BX g|ok t=>
  cases t with
  |ret u'=>
   let(c,H',Y,l,j,hd):=W.after g;show q u' h c H' Y j hd l
  |next=>show BX g
  |brk=>show BX g
  |cont=>show BX g
open J in
theorem Ak.none{H H':Hp}(h:Ak H H'){a:Ac}(e:H' a=J):H a=J:=by
 cases q:H a with
 |none=>rfl
 |some o=>rw[h a o q]at e;cases e
theorem u8(Fo:A2 X.β X.w X.K X.mg X.χ Bp k fn fd ps (A4 X.K F))(hb:Binds X.K fd ps [])(A:Ag)(hr:AL k A)(hu:A.γ+40<Av)(hA:∀s H,Dd X.β X.w X.K X.mg X.χ X.A X.ϟ s H->Dd X.β X.w X.K X.mg X.χ A X.ϟ s H)
  {g h:Ac} {B e0:Nat} (zA:Inv X (pins++[(g,DO [] B)]++[(h,DO [] e0)]) I H s) (nh:∀a,N a->H a≠J) {items:U Aa} {xs:U V} {c:U D} (fD:Off X pins g) (C:Off X pins h) (ne:g≠h) (G:Aq xs items) (L:Ad X.K N H c xs) (ok:Bt F c) {P:PySem.Fin->Ab->Prop} (q:∀m H' vs,Inv X pins I (AK H' g (.O vs)) m->Ak H H'->H' g=J->Ad X.K N H' (FC (CU F) c) vs->P (.Ϙ (.ϸ .Δ)) m):
  wpAny (Ae X.β X.w) A (ksk_rest g (.I fn) O' items.C B (.I h)) P E s:=by
 let l1:=L.a
 let l2:=G.a
 let few:=ok.few
 let hsl:Ay=16777216:=Ip
 apply Ao (Gb ?_)
 apply Ao (wpAny_forIn_array' _ (λAW _ m=>∃(done:U Aa) (H':Hp) (i:U Aa) (d:U V) (M:Nat),items=done++AW/\i.a=done.a/\Inv X (pins++[(g,DO [] B)]++[(h,DO i M)]) I H' m/\Ak H H'/\Aq d i/\Ad X.K N H' ((c.ϋ done.a).j (D1 F)) d) _ ?_ ?_ items.C PUnit.unit ?_)
 .intro u AW b s1 zQ;let(done,H1,i,d,M,o,hl,l,sm,S,t):=zQ
  let Q:done.a<c.a:=by
   grind
  let y:c[done.a]?=Z c[done.a]:=Cb Q
  generalize c[done.a]=x at y
  let(v,hv,dv):=L.Ρ y
  let ru:RelV v u:=by
   have:=OH G [done.a]
   cases this with
   |cons a _=>
    simp_all
  let(r,hF):=ok.tells x (HE y)
  apply Ao (OG ?_)
  apply u7 (N:=N) Fo hb l A hr (hA _ _ l.env0) (λa T z=>nh a T (sm.Δ z)) (dv.δ sm) ru hF λW s2 v' H2 I2 n Y rv2=>?_
  let(gk,hk):=I2.pinGet (a:=h) (Dt _ Bh)
  let(n3,g3,I4):=I2.unpinned.rawset (f:=λx=>x.Ο W) (its':=i++[W]) hk (C.more ne) gk (by simp)
  apply Ao (OI gk rfl ?_ (by simp;lia) (by simp;lia))
  apply AT ?_
  apply#[done++[u],H2,i++[W],d++[v'],n3,by rw[o];simp,by simp[hl],I4.pin1 hk (C.more ne) g3 (UM _ _),sm.E n,S.Ι (.Θ rv2 .ϔ),?_]
  let e:(c.ϋ (done++[u]).a).j (D1 F)=(c.ϋ done.a).j (D1 F)++[D1 F x]:=by
   rw[EL,Mv,List.take_succ,y]
   simp
  rw[e]
  show(t.δ n).Ι (Ad.Θ Y Ad.ϔ)
 .intro b s1 zQ;let(done,H1,i,d,M,o,hl,l,sm,S,t):=zQ
  rw[Eh]at o
  subst o
  let(gk,hk):=l.pinGet (a:=h) (Dt _ Bh)
  let(gd',hd):=l.pinGet (a:=g) (J0 _ (Dt _ Bh))
  apply Ao (listItems_at gk rfl ?_)
  rw[Hf ∅]at t
  apply u5 (N:=N) l A hu ok t S ∅ λp st hp hs T hf=>?_
  let hpl:p.a=c.a:=by have:=hp.ό;exists this
  apply u6 A l fD C ne ∅ T hf (OH G p) (by rw[Bq];lia) λm R=>?_
  apply q m H1 _ R sm hd ?_
  rw[<- hs]
  show UL (L.δ sm) p λj hj=>by have:=hp.subset hj;exists this
 .show#[[],H,[],[],e0,by simp,rfl,zA,Ak.ω H,.ϔ,Ad.ϔ]
theorem u9(G:A2 X.β X.w X.K X.mg X.χ Bp k fn fd ps (A4 X.K F))(B:Binds X.K fd ps [])(A:Ag)(L:AL k A)(M:A.γ+40<Av)(R:∀s H,Dd X.β X.w X.K X.mg X.χ X.A X.ϟ s H->Dd X.β X.w X.K X.mg X.χ A X.ϟ s H) (W:Inv X pins I H s) (Q:∀a,N a->H a≠J) {c:Ac} {items:U Aa} {T:Nat} {xs:U V} {j:U D} (g:s.u.R c=Z (DO items T)) (r:H c=J) (l:Off X pins c) (t:Aq xs items) (v:Ad X.K N H j xs) (ok:Bt F j) {P:PySem.Fin->Ab->Prop} (q:∀y H' vs,Inv X pins I (AK H' c (.O vs)) y->Ak H H'->H' c=J->Ad X.K N H' (FC (CU F) j) vs->P (.Ϙ (.ϸ .Δ)) y):wpAny (Ae X.β X.w) A (ksk_tree c (.I fn) O') P E s:=by
 let l1:=v.a;let l2:=t.a;let few:=ok.few;let S:Ay=16777216:=Ip;apply Ao<|listItems_at g rfl ?_;let(n1,z,Y):=W.rawset (f:=λ_=>(T' [])) (its':=[]) r l g rfl;apply Ao<|OI g rfl ?_ (by simp;lia) (by simp);apply Ao<|seqEpoch_at z rfl ?_;apply Ao<|wpAny_newTuple ?_ (by simp;lia);generalize m:({heap:=s.heap.update c<|Gc λx=>(T' []),gens:=s.gens,drawn:=s.drawn,toks:=s.Γ,os:=s.os}:Ab)=d at *;let n:=Y.ϱ (t':=d.Γ) (λb u e=>BC {cls:=.ι "tuple",data:=.Ϲ items.C} e);generalize p:({heap:=d.u.Ο {cls:=.ι "tuple",data:=.Ϲ items.C},gens:=d.gens,drawn:=d.drawn,toks:=d.Γ,os:=d.os}:Ab)=i at *;let h:i.u.R c=Z (DO [] n1):=p ▸ (BC {cls:=.ι "tuple",data:=.Ϲ items.C} (show d.u.R c=Z (DO [] n1) by rw[<- m];show z));apply Ao<|wpAny_newList ?_ (by simp);let C:=n.off<|AX i.heap.objs.size;show F9<|u8 (N:=N) G B A L M R (((n.kept (t':=i.toks) (λb u e=>BC (DO [] 0) e)).pin1 r l (BC (DO [] 0) h) (UM _ _)).pin1 n.Ψ (C.more<|Cf<|BN h) (Co i.u (o:=DO [] 0) rfl) (UM _ _)) Q l C (Cf<|BN h) t v ok q
theorem vc(r:A2 X.β X.w X.K X.mg X.χ Bp k fn fd ps (A4 X.K F))(j:Binds X.K fd ps [])(m:AL (k+2) X.A)
  (S:Inv X pins I H s) (t:∀a,N a->H a≠J) {xs:U V} {h:U D} (v:BW X.K H a xs) (x:Ad X.K N H h xs) (ok:Bt F h) {Q:VK}
  (q:∀f vs H',Ak H H'->H f=J->H' f=Z (.O vs)->Ad X.K (λb=>N b\/b=f) H' (FC (CU F) h) vs->Q (.I f) H'):
  wpAny (Ae X.β X.w) X.A (call (.Β "sorted") [.I a] [("key",.I fn)]) (EP X pins I Q) X.xe s:=by
 let(c,p,(o,n,B,C,E,hd),hz):=S.Ϩ v
 let l2:=p.a
 apply wpAny_call (codeAny_call_builtin plain_sorted entry_sorted ?_)
 apply AT ?_
 change wpAny _ _ (do checkCount "sorted" 1 1 1;let y <- collect (.I a);let l <- newList y;let _ <- DU [l] (call (.Β "list.sort") [l] [("key",.I fn)]);ret l) _ _ _
 apply Ao (AT ?_)
 apply Ao (wpAny_collect_seq a (T:="list") (.Q rfl) B C hd (λG L=>?_) (by simp;lia))
 let d:=S.ϱ (t':=s.Γ) L
 apply Ao (wpAny_newList ?_ (by simp;lia))
 generalize R:({heap:=G,gens:=s.gens,drawn:=s.drawn,toks:=s.Γ,os:=s.os}:Ab)=i at *
 let g:=Co i.u (o:=DO c 0) rfl
 apply Ao (F9 ?_)
 apply wpAny_call (codeAny_call_builtin PySem.F.slot_list_sort.plain PySem.F.entry_list_sort ?_)
 apply PySem.F.slot_list_sort.check _ _ _ _ _ _ _ _ #[_,g,rfl] rfl ?_
 apply u9 (N:=N) r j X.A.in1.in1 m.in1.in1 ?_ (λs H e=>e.in1.in1) (d.ϱ (t':=i.Γ) (λb u e=>BC (DO c 0) e)) t g d.Ψ (d.off (AX i.u.J.o)) p x ok λs' H' vs P sm Y dv=>?_
 .have:=m.un;change X.A.γ+1+1+40<_;lia
 .apply AT ?_
  apply#[.I _,_,P,rfl,q _ vs _ (λb u e=>?_) d.Ψ ZT ?_]
  .rw[Zl (λz=>by rw[z,d.Ψ]at e;cases e)];show sm b u e
  .show Ad.Τ (M:=λ_=>False) #[λb u e z=>by
    rw[Zl (λz=>by rw[z,Y]at e;cases e)];show e,λb j=>by
    grind] _ _ dv
end
section
variable{M:Fb}{k:Nat}{fn:Ac}{fd:Cs}{F:U Sl->O Rv}{e:Expr}{f:AG}{x y:Af}{p kpos:AB}
def LP(F:U Sl->O Rv)(f:AG):VE->A7:=λa=>match f a with
 |some (.lst b)=>Gr F b
 |_=>J
open J in
theorem vd(W:A2 X.β X.w X.K X.mg X.χ Bp k fn fd ps (A4 X.K F))(Y:AL (k+2) X.A)(hg:Gl X x)(hm:X.mg x=J)(hv:Fp x=Z (.Β "sorted"))(l:Gl X y)(m:X.mg y=Z (.I fn))(hb:Binds X.K fd ps [])(n:JE X e (tP X.K M H0 f)) (hn:x≠"__name__":=by ext) (o:Ed x:=by ext) (d:Ed y:=by ext) (G:AJ [e] X.G=(O',Ar e X.G)::AJ [] X.G:=by show D8 rfl):JE X (.Λ (.ε x p) [e] [#[Z "key",.ε y p2,kpos]] pos) (tF X.K M H0 (LP F f)):=#[have n:=n.h;by
 intro b s g H Q zA zQ;let(r,ys,R,i,q):=zQ;apply NO<|Il zA hg hm hv ?_ hn o;unfold LP at i;split at i
 .next P hf=>
  let(ok,rfl):=UK i;let L:=(Z2 n (Ba (X:=X)) G) pos b s g H (λj c=>∃v,j=[v]/\Ak H c/\Az X.K (Nf M r g) c (.O P) v) zA #[r,.O P,R,hf,λv c t d1=>#[v,rfl,t,d1]];rw[G]at L ⊢;apply callWith_builtin_kwB rfl rfl ?_;apply Ao<|A1 L λus t z=>?_;let(j,c,I1,r1,v,rfl,sm,a,ws,rfl,sq,dl):=z;apply Ao<|AT ?_;apply F9 ?_;apply Ao<|A1 ((pI (nm:=Z "key") (kpos:=kpos) (Yf (v:=.ref fn) (pos:=p2) l m rfl d) (pH (X:=X))) pos b t g c (λS T=>S=[.I fn]/\T=c) I1 #[rfl,rfl]) λks s2 z=>?_;let(S,T,I2,r2,rfl,rfl):=z;apply Ao<|AT ?_;apply AT ?_;let(u,rfl,ru):=Fc r1;let(u2,rfl,B):=Fc r2;cases B;cases ru;show vc (N:=Nf M r g) W hb Y I2 (R.st sm).nh sq dl ok λda j H' s' C E dv=>q da j H' (sm.E s') (sm.Δ C) E dv
 .cases i]
end
end Internal
variable{kvs:Internal.By}
namespace Internal
open PySem PySem.Spec PyProof.Rows
section
@[simp]theorem ZBu(xs:U D):aG (.O xs)=Z xs:=rfl
end
open PySem.W
theorem ve:typeLookup (.ι "list") ("keys":Af)=Am J:=am_miss_of_fast (by kernel_rfl)
theorem vf{prog:AM}{w:Aj}{A:Ag}{s:Ab}{f:Array Aa}{Q:O Aa->Ab->Prop}(p:PlainL s.u a f)(i:A.ϣ=J) (q:∀h' h,(∀b o,s.u.R b=Z o->h'.R b=Z o)->Q J {s with heap:=h',toks:=h}):wpAny (Ae prog w) A (getAttr? (.I a) "keys") Q E s:=by
 let((c,u,v,j),n,e,k,hd,l):=p;subst k hd l;let(m,g,d,h,os):=s;let ty:∀t,(#[m,g,d,t,os]:Ab).TypeIs (.I a) "list":=λ_=>#[_,e,rfl];let l1:=sub_AttributeError;let x:=F.ϲ.S;let y:=F.ϲ.L<|.I a;let l4:=am_list_getattr_none;unfold getAttr? getAttrBy? getAttrBy;repeat(any_goals(first
  |assumption
  |show ty _
  |((with_reducible show wpAny _ _ (call (Value.Β "list.__getattribute__") _ _) _ _ _)
    apply BY F.ϲ (ty _) am_entry_list_getattribute (F.args_list_getattribute_2 _ _) (meets_getattribute_miss_list a f n j "keys" _ ve (by symm) (by symm)) #[e,i,λr z B new=>?_])
  |wp_step))
 let(C,G,ex):=new.there;unfold getattributeRaised;repeat(any_goals(wp_step))
 show q r _ new.keeps
theorem cO:entryFor table "dict.update.loop"=Z Gg.«dict.update.loop»:=entryFor_of_tree (by kernel_rfl)
theorem cP:plainId "dict.update.loop"=J':=by symm
theorem cQ{K:Ap}{H:Hp}{k:KT}{v:V}(h:BJ K H k v)(s:Ak H H'):BJ K H' k v:=by
 cases k with
 | «at» a=>show h
 |tup l=>let(p,e,b):=h;show#[p,e,b.δ s]
def HX:By->U D->O By
 |a,[]=>Z a
 |a,.tup [y,d]::r=>match Dq y with
  |some k=>if DZ k a&&decide (a.a<Ay)then HX (ZZ a k d) r else J
  |none=>J
 |_,_=>J
theorem vg{M:Model}{A:Ag}{s:Ab}{p:Ac}{a:Array Aa}{Q:U Aa->Ab->Prop}(h:IsTup s.u p a)(q:Q a.B s):wpAny M A (Builtin.Dict.pairItems (.I p)) Q E s:=by
 let(o,e,b,n,hd):=h;apply Ao<|Mu (T:="tuple") #[o,e,b] ?_;apply Ao<|Ao<|wpAny_load e ?_;rw[hd];show AT<|AT q
section
variable{H:Hp}{A:Ag}{it l:Ac}{N:Fb}{us:U Aa}{R:Result->Ab->Prop}
open J in
theorem cR(hu:A.γ+1<Av)(hA:A.in1.ϣ=J)(G:H a=J)(f:GA X pins H it)(h:it≠a)(n:l≠it)(x:l≠a):∀(F:U D)(vs:U V)(ws:U Aa)(i:Nat)(s:Ab)(kvs:By)(tr:U T3)(c:By),
  us.ρ i=ws->Aq vs ws->Ad X.K N H F vs->PD X.K N H kvs tr->Inv X pins I (AK H a (DY tr)) s->s.u.IsListIter it l i->s.u.IsList l us.C->HX kvs F=Z c ->
  (∀s' z,Inv X pins I (AK H a (DY z)) s'->PD X.K N H c z->R (.ok (.ϸ .Δ)) s') ->
  codeAny (Ae X.β X.w) A (.Β "dict.update.loop" #[[.I a,.I it,BB (i:Int),.Δ],[]]) R s
 |[],vs,ws,i,s,kvs,tr,c,hd,P,Q,m,W,j,L,g,q=>by
  cases Q
  cases P
  cases g
  apply Lj cO ?_
  let T:us.C[i]?=J:=by
   have:=List.drop_eq_nil_iff.mp hd
   simp[this]
  apply Ao (wpAny_pyNext_list_end hA j L T λh' ke=>?_)
  let M:=W.turned (t':=s.Γ) (λb o S e=>ke b o S e) (Zl h ▸ f.1) f.2.1 f.2.2.2.1 f.2.2.2.2.1 f.2.2.2.2.2
  show Ao (AT (AT (q _ tr M m)))
 |d::F,vs,ws,i,s,kvs,tr,c,hd,P,Q,m,W,j,L,g,q=>by
  let(v,Y,rfl,d1,dn'):=Q
  cases P with
  |@cons _ u _ B rv hv'=>
  unfold HX at g
  split at g
  .cases ‹_::_=[]›
  .next y dd r e1=>
   cases e1
   cases hk:Dq y with
   |none=>rw[hk]at g;cases g
   |some k=>
    rw[hk]at g
    let(hc,g):=Z0 g
    rw[Dp,decide_eq_true_eq]at hc
    let ey:=IA hk
    subst ey
    let(p,vs2,rfl,sq,kv,r2,rfl,dk,vv,r3,rfl,dv,rfl):=d1
    cases rv
    let hat:us.C[i]?=Z (.I p):=by
     simpa using(show(us.ρ i)[0]?=Z (DJ p) by rw[hd];rfl)
    let hd':us.ρ (i+1)=B:=by
     rw[<- List.tail_drop,hd];rfl
    apply Lj cO ?_
    apply Ao (wpAny_pyNext_list_item j L hat λh' C sb=>?_)
    let M:=W.turned (t':=s.Γ) (λb o S e=>(sb.2 b S).E e) (Zl h ▸ f.1) f.2.1 f.2.2.2.1 f.2.2.2.2.1 f.2.2.2.2.2
    let(its,rv2,ht,_):=M.ϗ (sq.δ (ZV G))
    let(u1,u2,rfl,r1,r2):=P9 rv2
    apply Ao (F9 ?_)
    apply Ao (wpAny_tryCatch (vg ht ?_))
    apply F9 ?_
    apply bL J' hu M ZT (λt ht=>cQ (m.keys t ht) (ZV G)) (m.hom hc.1) (cQ (HV dk) (ZV G)) r1 r2 (by have:=G7 m;lia) λh2 t2 I2 E=>?_
    rw[nl]at I2
    apply AT #[Mw cP _,?_]
    apply cR hu hA G f h n x F Y B (i+1) _ (ZZ _ k dd) (Ez tr k kv vv) c hd' hv' dn' (m.put dk dv) I2 ?_ ?_ g q
    .let(o,e,hh):=C
     show#[o,(E.2 it h).E e,hh]
    .show(L.at λo e=>(sb.2 l n).E e).at λo e=>(E.2 l x).E e
  .cases g
theorem vh(t:X.ϵ=J')(hu:X.A.γ+64<Av){s:Ab}{Q:VK}(P:Inv X pins I H s){j:U D}(G:BW X.K H l vs)(v:Ad X.K N H j vs)(L:HX [] j=Z kvs) (q:∀tr p,H p=J->PD X.K N H kvs tr->Q (.I p) (AK H p (DY tr))):wpAny (Ae X.β X.w) X.A (call (.ι "dict") [.I l]) (EP X pins I Q) E s:=by
 let(us,M,u,hz):=P.Ϩ G;let g:l<s.u.J.o:=by let(o,n,e,_):=u;show BN e
 apply callType_codes (Q₁:=λx y=>x=.I s.u.J.o/\y={s with heap:=s.u.Ο {cls:=.ι "dict",data:=.dict (T' [])} }) F.kt_called_dict (F.kt_typeCall_dict_1 (.I l)) F.entry_dict_init (kt_code_dict_new (.I l) #[rfl,rfl]) ?_;intro x y zQ;let(rfl,rfl):=zQ;let c:PlainL (s.u.Ο {cls:=.ι "dict",data:=.dict (T' [])}) l us.C:=by
  let(o,n,e,h):=u;show#[o,n,BC _ e,h]
 apply#[#[_,Co _ rfl,rfl],F.args_dict_init_2 _ _,?_];apply Ao<|Ao<|Uh ⟨_,Co _ rfl,rfl⟩ ?_;apply AT ?_;change wpAny _ _ (Builtin.Dict.updateFrom "dict.__init__" s.u.J.o (.I l) [] .Δ) _ _ _
 apply Ao<|Mu (T:="list") (by let(o,n,e,h,_):=c;show#[o,e,h]) ?_;apply Ao<|vf c (P.ok.hd t) λf B k=>?_;let m:=(P.laid (a:=s.u.J.o) (o:=DY []) (t':=s.Γ) (λ_ _ z=>BC _ z) (AX _) #[E3 _,beq_eq_false_iff_ne.ϡ<|BM<|Cf P.big,List.nodup_nil,_,(T' []),0,Co _ rfl,⟨rfl,rfl,rfl⟩,rfl,rfl,rfl]).ϱ (h':=f) (t':=B) k;let i:PlainL f l us.C:=by
  let(o,n,e,h):=c;show#[o,n,k _ _ e,h]
 apply Ao<|Gb ?_;apply Ao<|P5 i.ϑ ?_;let d:s.u.J.o<f.J.o:=BN<|k _ _<|Co _ rfl;let C:GA X pins H f.J.o:=m.fpOk (AX _) (by
  have:=m.Ϫ.Ψ (a:=f.J.o) (AX _);rw[Zl<|Ja d]at this;show this)
 apply AT #[Mw cP _,?_];apply cR (A:=X.A.in1) (N:=N) (us:=us) (by change X.A.γ+1+1<Av;lia) (P.ok.hd t) (P.Ϫ.Ψ<|AX _) C (Ja d) (Cf<|J9 g d) (Cf g) j vs us 0 _ [] [] kvs rfl M v .nil (m.kept (h':=f.push {cls:=.type "list_iterator",data:=.fields (T' [.ref l,.int 0 0])}) (t':=B) λb o e=>BC _ e) #[_,Co _ rfl,rfl,rfl] ?_ L λs' r Y pd=>?_
 .show i.ϑ.Ο _
 .show#[rfl,.I s.u.J.o,_,Y,rfl,q r _ (P.Ϫ.Ψ<|AX _) pd]
end
theorem vi:Fp "dict"=Z (.ι "dict"):=by kernel_rfl
def Jx(f:AG):VE->A7:=λa=>match f a with
 |some (.lst b)=>(HX [] b).j Zb
 |_=>J
section
variable{M:Fb}{e:Expr}{f:AG}{p:AB}
open J in
theorem vl(x:X.ϵ=J')(y:X.A.γ+64<Av)(z:Gl X "dict")(B:X.mg "dict"=J)(l:JE X e (tP X.K M H0 f))(r:AJ [e] X.G=(O',Ar e X.G)::AJ [] X.G:=by show D8 rfl):JE X (.Λ (.ε "dict" p) [e] [] pos) (Fv .d X.K M H0 (Jx f)):=#[have l:=l.h;by
 intro g s i H Q W zQ;let(j,Y,R,c,q):=zQ;unfold Jx at c;split at c
 .next m C=>
  let(n,E,c):=B7.mp c;cases c;apply Call_<|Il W z B vi<|NH (A1 ((Z2 l (Ba (X:=X)) r) pos g s i H (λo k=>∃v,o=[v]/\Ak H k/\Az X.K (Nf M j i) k (.O m) v) W #[j,.O m,R,C,λv k t G=>#[v,rfl,t,G]]) λus t F=>?_) (by rw[r]) rfl;let(o,k,L,N,v,rfl,sm,a,ws,rfl,P,dl):=F;let(u,rfl,T):=Fc N;cases T;apply vh x y L P dl E λtr b S w=>?_;have:=NY (K:=X.K) (M:=M) (ρ:=j) (I:=i) (fl:=.d) (Q:=Q) (xs:=Zb n) (vs:=Ea tr) (p:=b) sm S w.flat q;rw[IB w]at this;grind
 .cases c]
theorem vm{K:Ap}(i:Nat){x:Af}{a:AB}(b:NV X i x:=by show EM):JS X (.v0 (Z (.ε x a)) pos) (tS K M H0 λρ=>Kf (Hd ρ i)):=#[aC rfl (λ_=>rfl) N0 b]
end
section
variable{K:Ap}{M:Fb}
theorem vn{st:AF}:JS X st (tS K M H0 λ_=>.Ω):=#[λa s b H D d ⟨c,R,q⟩=>BX q]
end
structure vo(B:Al)(l:List Env)(e:Ac)(C fl:Aa)(h:Al):Prop where
 stay:B.StaysIn h
 new:B.R e=J
 fun_:h.FunFrames B l
 rcd:∃oe vs,h.R e=Z oe/\oe.cls=C/\oe.data=.ϝ vs/\vs[2]?=Z .Δ/\(vs[1]?=Z .Δ\/∃T oT ts,vs[1]?=Z (.I T)/\B.R T=J/\T≠e/\h.R T=Z oT/\oT.data=.ϝ ts/\ts[3]?=Z fl)
section
variable{s:Ab}{B:Al}{l:U Env}{e:Ac}{C:Aa}
def vr(P:AM)(w:Aj)(l:U Env)(H H':Hp)(s:Al)(e C:Ac)(h:Al):Prop:=
 Ak H H'/\Un (E9 l) [] H H' s h/\∃B,CL P w H' B/\(∀b o,s.R b=Z o->H b=J->b∉E9 l->B.R b=Z o)/\vo B l e (.I C) .Δ h
def vt(Y:Cx)(b:AZ)(I:St)(H:Hp)(C:Ac)(e:Aa)(c:Ab):Prop:=
 ∃a d g f,e=.I a/\Inv Y b I d f/\Ak H d/\c.os=f.os/\AllBare c.gens/\vr Y.β Y.w Y.ϟ d g f.u a C c.u
end
def vu(Y:Cx)(a:AZ)(I:St)(H:Hp)(c:Af)(e:Aa)(b:Ab):Prop:=∃D,nsIn Y.K CZ c=Z (Z (.I D))/\vt Y a I H D e b
structure XS(Y:Cx)(K:Ap)(M:Fb)(H0:Hp)(st:AF)(h:VE->Option Af):Prop where
 h:∀pins s I H ρ c,Inv Y pins I H s->Bn K M H0 ρ I H->h ρ=Z c->wpAny (Ae Y.β Y.w) Y.A (exec st Y.G) (λ_ _=>False) (λe s'=>∃σ' H1,Ak H0 H1/\vu Y pins σ' H1 c e s') s
section
variable{K:Ap}
structure XMk(K:Ap)(D:Ac):Prop where
 ex:∃nm q N bs bm hdct sn sub ab col dd k0 k1 k2 k3 k5,K.S D=Z (excClassObj nm q D N bs bm hdct sn sub ab col dd k0 k1 k2 k3 k5 "ValueError.__new__")/\tailIn K [.ι "ValueError",.ι "Exception",.ι "BaseException",.ι "object"] bm=J'/\nsOkIn K N=J'/\nsIn K N "__init__"=Z J
end
section
open J in
end
abbrev bmV:U Aa:=[.ι "ValueError",.ι "Exception",.ι "BaseException",.ι "object"]
end Internal
namespace Internal
open PySem PySem.Spec PyProof.Rows
def cT(i j:Int):Prop:=0<j/\j<2^100
instance (i j:Int):Decidable (cT i j):=by unfold cT;show inferInstance
open PySem.W
def ES(h:Al)(d:Ac)(es:Array Hu)(ep:Nat):Prop:=∃o,h.R d=Z o/\o.ExactDict/\o.data=.dict es ep
section
variable{prog:AM}{w:Aj}{A:Ag}{s:Ab}{d it:Ac}{es:Array Hu}{ep i:Nat}
theorem ES.type(x:ES s.u d es ep):s.TypeIs (.I d) "dict":=by
 let(o,a,b,_):=x;show#[o,a,b.1]
theorem ES.at{h h':Al}(x:ES h d es ep)(k:∀o,h.R d=Z o->h'.R d=Z o):ES h' d es ep:=by
 let(o,a,b):=x;show#[o,k o a,b]
theorem cU{Q:AR}(hd:(d==Hv)=O')(a:ES s.u d es ep) (e:Q (.I s.u.J.o) {s with heap:=s.u.Ο {cls:=.ι "dict_keyiterator",data:=.ϝ (T' [.I d,.r 0 0,.r es.o 0,.r ep 0])} }):wpAny (Ae prog w) A (pyIter (.I d)) Q E s:=by
 let ty:=a.ι;let(o,b,f,c):=a;apply wpAny_pyIter_slot ty PySem.F.slot_dict_iter<|Lc PySem.F.slot_dict_iter ty PySem.F.entry_dict_iter ?_<|PySem.F.args_dict_iter_1 _;unfold Gg.«dict.__iter__» Builtin.Dict.dictSlotNone;apply Ao<|Ao<|Uh ty ?_;refine(AT ?_:wpAny _ _ (Am<|DJ d) _ _ s);change wpAny _ _ (Builtin.Dict.showsAll d >>= _) _ _ s
 unfold Builtin.Dict.showsAll;rw[if_neg<|hd ▸ NC];apply Ao<|AT<|Ao<|Ol b c<|Ao<|wpAny_dictEpoch b c ?_;apply Ao<|Ld<|AT ⟨_,rfl,"dict_keyiterator",_,⟨_,Co _ rfl,rfl⟩,PySem.F.slot_dict_keyiterator_next.S,?_⟩;simpa[BB]using e
theorem QV{Q:O Aa->Ab->Prop}(g:s.u.IsKeyIter it d i es.o ep)(r:ES s.u d es ep)(q:∀(c:i<es.o) h',h'.IsKeyIter it d (i+1) es.o ep->Ee it s.u h'->Q (Z es[i].key) {s with heap:=h' }) (h:es.o<=i->A.ϣ=J/\∀h',Heap.ExtBut it s.u h'->Q J {s with heap:=h' }):wpAny (Ae prog w) A (pyNext (.I it)) Q E s:=by
 let ty:=g.ϛ;let(p,f,t,e):=g;let(o,j,u,k):=r;unfold pyNext;apply Ao<|OG<|Mt (name:=J5 "__next__") ty vz (Lc vz ty PySem.F.entry_dict_keyiterator_next ?_<|PySem.F.args_dict_keyiterator_next_1 _);apply Ao<|AT<|Ao<|Ao ?_;apply Ao<|cV ty<|AT ?_;apply Ao<|wpAny_fieldsOf f e ?_;erw[show Builtin.Dict_items.ownsTuple "dict_keyiterator"=O' by ext,FU,if_false];change wpAny _ _ (if(DJ d==Value.Δ)=J' then _ else _) _ _ s
 apply Ao<|AT<|Ao<|Ol j k ?_;rw[if_neg (by simp)];apply Ao<|AT<|Ao<|wpAny_dictEpoch j k ?_;rw[if_neg (by simp)];apply AT ?_;by_cases c:i<es.o
 .erw[show ¬ ((i:Int)<0)from ∅,if_false,IL,cI c];apply Ao ?_;first|apply Ao (cV ty<|AT ?_)|apply Ao (wpAny_typeNameOf_keyiter ty<|AT ?_)
  apply Ao<|wpAny_isOneOf_keyiter ty ?_;change wpAny _ _ (setField (.I it) 1 (BB<|(i:Int)+1) >>= _) _ _ s
  apply Ao<|wpAny_setField f e (by simp) ?_;let n:(s.u.ϰ it<|Obj.mapFields (·.ϐ 1 (BB<|(i:Int)+1))).IsKeyIter it d (i+1) es.o ep:=#[_,Qf _ f<|Obj.isFreed_of_fields<|UN e _,(Obj.cls_mapFields ..).E t,by rw[UN e];simp[BB]];show Ao<|F9<|Ao<|wpAny_isOneOf_keyiter (s:={s with heap:=s.u.ϰ it (Obj.mapFields (·.ϐ 1 (BB ((i:Int)+1))))}) n.ϛ (AT (AT #[_,rfl,AT (q c _ n (Kn ..))]))
 .erw[show ¬ ((i:Int)<0)from ∅,if_false,IL,Array.getElem?_eq_none<|FV c];apply Ao ?_;first|apply Ao (cV ty<|AT ?_)|apply Ao (wpAny_typeNameOf_keyiter ty<|AT ?_)
  change wpAny _ _ (setField (.I it) 0 .Δ >>= _) _ _ s
  apply Ao<|wpAny_setField f e (by simp) ?_;apply Ao ?_;apply Ao<|Ld ?_ (by size_fits);apply Ao (m:=firstArgMember _ _) (wpAny_of_eq (a:=Value.Δ) (by first|rfl|(erw[firstArgMember];rfl)) ?_);apply Ld ?_ (by size_fits);apply Ao<|wpAny_handled ?_;rw[show A.in1.ϣ=J from(h<|FV c).1];apply Ao<|AT<|wpAny_throw ?_;apply Ao<|wpAny_isInstance (T:="StopIteration") (b:=J') #[_,Co _ rfl,rfl] isSubtype_stop ?_;show AT<|(h<|FV c).2 _<|(Heap.ExtBut.Ο (Heap.SameBut.φ<|Kn ..) _).Ο _
theorem vA(m:A.ϣ=J)(p:Ac)(f:d≠p):Walks prog w A p [p,d] [p] es.o (λi v=>∃e,es[i]?=Z e/\v=e.key) (λi h=>h.IsKeyIter p d i es.o ep/\ES h d es ep) where
 sub:=λb a=>by simp at a;simp[a]
 frame:=λ_ _ _ st k=>#[st.1.at λo e=>k p (by simp) o e,st.2.at λo e=>k d (by simp) o e];item:=λi s Q E l st c=>QV st.1 st.2 (λ_ g n sb=>c _ g s.Γ #[es[i],cI l,rfl] #[n,st.2.at λo e=>sb.φ _ _ f e] λb o a e=>sb.φ b o (λh=>a (by simp[h])) e) λz=>absurd l<|Nat.not_lt.mpr z;done:=λs Q E st c=>QV st.1 st.2 (λz=>absurd z<|Hw _) λ_=>#[m,λg j=>c g s.Γ λb o a e=>j b o (λh=>a (by simp[h])) e];self:=λ_ _ _ _ st c=>wpAny_pyIter_keyiter st.1 c
theorem cX(lo:(d==Hv)=O'):KdlSrc prog w "dict" d d es.o (λi v=>∃e,es[i]?=Z e/\v=e.key) (λh=>ES h d es ep) where
 type:=λ_ a=>a.ι;there:=λ_ a=>by let(o,b,_):=a;show#[BN b,BN b]
 keep:=λ_ _ a f=>a.at λo e=>f d (.Q rfl) o e;notList:=by ext
 notTuple:=by ext
 hint:=λ_ _ _ _ a c=>kdl_hint_dict a.ι c;iter:=λ_ s g a=>#[_,_,(λ_ _ c=>cU lo a c),vA g _ (by let(o,b,_):=a;show Cf<|BN b),⟨⟨_,Co _ rfl,rfl,rfl⟩,a.at λo e=>BC _ e⟩]
end
theorem OJ{w:Aj}:∀{tr:U T3}{es:U Hu},K1 w (tr.j (·.1)) (Ea tr) es->Aq (tr.j λt=>t.2.1) (es.j λe=>e.key):=by
 intro tr;induction tr with
 |nil=>
  intro es zQ;let(_,e):=zQ;subst e;show .ϔ
 |cons t r b=>
  intro es zQ;let(kv,v,j,e,k,a,c,d,_,_,_,f):=zQ;erw[Ea,List.cons.injEq]at a;let(g,h,i):=a;subst c g h i;show .Θ d<|b f
section
theorem cY{es:Array Hu}{acc:Array Aa}(h:ItemsOf (λi v=>∃e,es[i]?=Z e/\v=e.key) acc es.o):acc.B=es.B.j λe=>e.key:=by
 apply Kh λi=>?_;cases a:acc[i]? with
 |some v=>
  let(e,b,c):=h.2 i v a;simp_all
 |none=>
  let d:es[i]?=J:=Array.getElem?_eq_none_iff.ϡ<|h.1 ▸ (show acc.o<=i by grind);grind
theorem vB(g:X.ϵ=J'):E2 X (.ι "list") (λxs H Q=>∃a tr,xs=[.I a]/\C2 X.K H a tr/\∀l,H l=J->Q (.I l) (AK H l (.O (tr.j λt=>t.2.1)))):=by
 intro d s A H xs B Q C r zQ;let(a,tr,rfl,hd,q):=zQ;let(u,rfl,h):=Fc r;cases h;let(z,i,nd,o,c,e,j,k,m,f):=hd.1.ok C.Ϫ;let hz:tr.a<=Ay:=by exists z
 apply kdl_call (cX (es:=c) (ep:=e) i) (C.ok.hd g) #[o,j,k,m] ((show tr.a=c.o by have:=(OJ f).a;exists this) ▸ hz) λn p b v kp x y=>?_;apply#[.I s.u.J.o,_,C.laid (t':=p) kp (AX _) (show Bc X.β X.w _ n _ (.O<|tr.map λt=>t.2.1)from#[by simpa using hz,b.toList,v,cY y ▸ (OJ f),by exists x]),rfl,q _<|C.hok.fresh<|AX _]
end
def LR:U D->A7
 |[.lst b .d]=>(EA b).j λa=>a.j λp=>kD p.1
 |_=>J
@[simp]theorem cZ(kvs:By):LR [.O (Zb kvs) .d]=Z (kvs.j λp=>kD p.1):=by simp[LR]
section
variable{K:Ap}{N:Fb}{H:Hp}
theorem PD.kden{tr:U T3}(h:PD K N H kvs tr):Ad K N H (kvs.j λp=>kD p.1) (tr.j λt=>t.2.1):=by
 induction h with
 |nil=>show Ad.ϔ
 |cons h _ a=>show Ad.Θ h.2.1 a
open J in
theorem vD:Qo K (λxs H Q=>∃a tr,xs=[.I a]/\C2 K H a tr/\∀l,H l=J->Q (.I l) (AK H l (.O (tr.j λt=>t.2.1)))) LR:=by
 intro N H j k xs Q m h e q;unfold LR at e;split at e
 .next n=>
  let(c,d,e):=B7.mp e;cases e;let(v,rfl,b):=Paired.one' h;rw[GN d]at b;let(p,o,rfl,r,hd):=b;let(tr,f,g):=Jp r hd;show#[p,tr,rfl,f,λl i=>q _ l i g.kden]
 .cases e
end
section
variable{prog:AM}{w:Aj}{A:Ag}{s:Ab}{T:String}{r d:Ac}{n:Nat}{P:Nat->Aa->Prop}{OK:Al->Prop}
theorem vE{Q:U Aa->Ab->Prop}(K:KdlSrc prog w T r d n P OK)(t:A.ϣ=J)(hok:OK s.u)(u:n<=Ay) (v:∀h' g acc,(∀b o,s.u.R b=Z o->h'.R b=Z o)->ItemsOf P acc n->Q acc.B {s with heap:=h',toks:=g}):wpAny (Ae prog w) A (collect (.I r)) Q E s:=by
 let(lr,ld):=K.there _ hok;apply Ao<|wpAny_runValue<|Lj F.entry_proto_collect ?_;apply Ao<|Ld ?_;apply AT ⟨Mw F.plain_list_iadd _,Lj F.entry_list_iadd ?_⟩;let i:∀j,(∃h' g acc l,j={s with heap:=h',toks:=g}/\(∀b o,s.u.R b=Z o->h'.R b=Z o)/\h'.R s.u.J.o=Z {cls:=.ι "list",dict:=J,data:=.Ϲ acc l,slots:=(T' [])}/\ItemsOf P acc n)->wpAny (Ae prog w) A (match DJ s.u.J.o with
   |DJ a=>do
    match(<- load a).data with
     |Data.seq x _=>Am x.B
     |_=>unsupported "internal:collect"
   |_=>unsupported "internal:collect") Q E j:=by
  intro j zQ;let(h',g,acc,l,rfl,m,k,p):=zQ;show Ao<|wpAny_load k<|AT<|v h' g acc m p
 apply wpAny_mono (kdl_extend (R:=λr j=>r=.ok (.ϸ<|.ref s.heap.objs.size)/\∃h' g acc l,j={s with heap:=h',toks:=g}/\(∀b o,s.heap.get? b=Z o->h'.get? b=Z o)/\h'.get? s.heap.objs.size=Z {cls:=.type "list",dict:=J,data:=.seq acc l,slots:=(T' [])}/\ItemsOf P acc n) (s:={s with heap:=s.heap.push {cls:=.type "list",data:=.seq ([]:U Aa).toArray} }) K t (K.keep _ _ hok λb _ o e=>BC _ e) s.u.J.o (Ja lr) (Ja ld) _ 0 (Co _ rfl) (λh' g acc l m k p=>#[rfl,h',g,acc,l,rfl,λb o e=>m b o (Cf (BN e)) (BC _ e),k,p]) u) (λfin j h=>?_) (λe j h=>?_)
 .cases fin with
  |done f=>
   let(e,h):=h;cases e;show i j h
  |again c=>
   apply#[h.1,codeAny_mono h.2 λr q y=>?_];let(rfl,h):=y;show i q h
 .show nomatch h.1
end
end Internal
namespace Internal
open PySem PySem.Spec PyProof.Rows
def c0:Nat->(U Aa->Prop)->Prop
 |0,P=>P []
 |n+1,P=>∀a,c0 n λl=>P (a::l)
theorem c3{n:Nat}{P:U Aa->Prop}(h:c0 n P)(us:U Aa)(e:us.a=n):P us:=by
 induction us generalizing n P with
 |nil=>cases e;show h
 |cons a r b=>cases e;show b (h a) rfl
structure DI(K:Ap)(mg:Bz)(nm:Af)(st:AF)(ps:List Af)(a:Ac)(fd:Cs):Prop where
 m:mg nm=Z (.I a)
 F:J7 K nm nm st a fd
 b:Binds K fd ps []
theorem di{K:Ap}{mg:Bz}{h:Al}{nm:Af}{st:AF}{g:U Af}{j:Aa}{m e:O Ac}{i:Array (O Aa)}{f d pm b ct:Aa}(X:K.In h)(G:h.Ns CZ mg) (A:PySem.W.nsIn K CZ nm=Z (Z (.I a))) (l:K.S a=Z #[j,m,.func (J4 nm nm (Iq st) (ZU st) (Zg st) .Δ f d pm e b ct),i]) (c:PySem.W.codeIn K b nm=J') (k:Jb K (.I a)=J') (n:∀(f d pm:Aa) (e:O Ac) (b ct:Aa) (us:U Aa),us.a=g.a->bindArgs (J4 nm nm (Iq st) (ZU st) (Zg st) .Δ f d pm e b ct) #[us,[]]=Am (g.zip us)):DI K mg nm st g a (J4 nm nm (Iq st) (ZU st) (Zg st) .Δ f d pm e b ct):=#[PySem.W.mg_of X G A,Y6 l c k,.ϭ<|n f d pm e b ct]
theorem OL{N P:U Af}{a:Scope}(b:a.ϳ=.Ϻ:=by rfl)(c:a.isCoroutine=O':=by rfl)(d:a.isGenerator=O':=by rfl)(e:N.η:=by symm)(f:N.ϋ P.a=P:=by rfl) (g:∀x∈P,a.υ.S x=Z .Ϡ\/a.υ.S x=Z .Ν:=by symm) (h:∀y∈a.υ,y.2≠.ύ:=by symm):Ft N P a:=#[b,c,d,e,f,g,h]
section
variable{K:Ap}{M:Fb}{k n:Nat}{fn:Ac}{fd:Cs}{x nm:Af}{st:AF}{F:U Sl->O Rv}{e a b:Expr}{p:AB}{f g:AG}
theorem vF(G:A2 X.β X.w X.K X.mg X.χ Bp k fn fd ps (A4 K F))(a:AL n X.A)(D:DI X.K X.mg x st ps fn fd)(c:JA X (e::es) (CP K M H0 fa))(d:k<=n:=by ext)(f:Gl X x:=by rfl)(hz:CA X x e es pos:=by show Gj):JE X (.Λ (.ε x p) (e::es) [] pos) (tD K M H0 (Zf F fa)):=rp G (a.κ d) f D.m D.F.kp D.b (E:=E0) HG c hz
theorem vG(G:A2 X.β X.w X.K X.mg X.χ Bp k fn fd ps (A4 K F))(a:AL n X.A)(D:DI X.K X.mg x st ps fn fd)(c:JA X (e::es) (CP K M H0 fa))(d:k<=n:=by ext)(f:Gl X x:=by rfl)(hz:CA X x e es pos:=by show Gj):JE X (.Λ (.ε x p) (e::es) [] pos) (tF K M H0 (FY F fa)):=rq G (a.κ d) f D.m D.F.kp D.b (E:=E0) HG c hz
theorem vH(i:Nat){y:Af}{p vp:AB}(a:X.mg "len"=J)(b:NV X i y:=by show EM)(c:Gl X "len":=by rfl)(hz:CA X "len" (.ε y vp) [] pos:=by show Gj):JE X (.Λ (.ε "len" p) [.ε y vp] [] pos) (tD X.K M H0 (Zi Zn λρ=>Zk (C0 ρ i) (Z []))):=Hc YD ba c a rfl (Qm (Ub i b) TN) (hz:=hz)
theorem vI(i:Nat){y t:Af}{n:String}{p vp tp:AB}(b:X.mg "isinstance"=J)(c:X.mg t=J)(d:Fp t=Z (.ι n):=by rfl)(e:t≠"__name__":=by ext)(hd:Ed t:=by ext)(f:NV X i y:=by show EM)(g:Gl X "isinstance":=by rfl)(a:Gl X t:=by rfl)(hz:CA X "isinstance" (.ε y vp) [.ε t tp] pos:=by show Gj):JE X (.Λ (.ε "isinstance" p) [.ε y vp,.ε t tp] [] pos) (tD X.K M H0 (Zi CT λρ=>Zk (C0 ρ i) (Zk (DV (Z (.ty n))) (Z [])))):=Hc bt bu g b rfl (Qm (Ub i f)<|Qm (ax<|bv a c d e hd) TN) (hz:=hz)
theorem vJ {i j pos}:JE X (.ϒ (.r i) j pos) (tP K M H0 λ_=>Z (.r i)):=ao aq
theorem vK(c:JE X a (tP X.K M H0 f))(d:JE X b (tP X.K M H0 g))(e:NQ b:=by show λ_ _=>rfl):JE X (.μ a b pos) (tD X.K M H0 (Za As f g)):=sH c d e
theorem vM(i:Nat){x:Af}(a:X.N.η)(b:X.N[i]?=Z x:=by rfl)(c:Loc X.G.Ξ x:=by ac_rfl)(d:X.fn x=J'\/X.G.Ξ.υ.S x=Z .Ϡ:=by ac_rfl):JG X (.ε x pos) (tG K M H0 [i] (Zc i)):=rM a b c d
theorem vN(i:Nat){x:Af}{a:AB}(b:X.N.η)(c:JE X e (tD K M H0 f))(d:X.N[i]?=Z x:=by rfl)(g:Loc X.G.Ξ x:=by ac_rfl)(h:EJ e (Z (.Name x a)) pos.line X.env=Am O':=by rfl) (j:X.fn x=J'\/X.env.scope.names.lookup x=Z .local:=by ac_rfl):JS X (.Assign [.Name x a] e pos) (tS K M H0 λρ=>C1 i (f ρ) ρ):=rH b d g c h j
theorem vO{P:AM}{w:Aj}{mg:Bz}{base:Al}{N:U Af}{g c:Ax}(D:DI K mg nm st ps fn fd)(S:Ft N ps (Zg st)) (d:∀(a:Aa) (A:Ag) (outer:U Env) (s:Ab) (H:Hp) (E:XK) (M:Fb) (H0:Hp),AL k (A.ϫ (Bj nm (Zg st) s.u.J.o fn a))->JB (D6 Bp P w K mg base N nm (Zg st) fn a A outer s H E).nox (ZU st) (tS K M H0 c)) (e:c=g:=by rfl) (b:ps.a<=N.a:=by ext):A2 P w K mg base Bp (k+1) fn fd ps (A4 K (A3 ps.a N.a g)):=aH D.F S b<|e ▸ d
end
open PySem.W
abbrev ME(X:Cx)(o:Expr)(m:Af)(es:U Expr)(pl:BP Bool)(apos pos:AB):Prop:=Ar (.Λ (.α o m apos) es [] pos) X.G=(do
 let b <- Ar o X.G
 standAt apos.atName
 let(f,a) <- DU [b] (getMethod b m pl)
 callWith pos f a (AD pos (AJ es X.G)) (GB pos (GC [] X.G)))
theorem Kx{K:Ap}{c:Af}(h:nsIn K CZ c=Z (Z (.I C))):Qk K c=C:=by unfold Qk;rw[h]
@[simp]def Db(c f:Af):D->O D
  |.lst a (.i ns b)=>if b=c then(ns.zip a).S f else J
  |_=>J
section
variable{K:Ap}{N:Fb}{H:Hp}
theorem c4{f:Af}{d:D}:∀{ns:U Af}{xs:U D}{vs:U V},Ad K N H xs vs->(ns.zip xs).S f=Z d->∃v,(ns.zip vs).S f=Z v/\Aw K N H d v
 |[],_,_,_,e=>by simp at e
 |_::_,[],_,_,e=>by simp at e
 |n::ns,x::xs,vs,h,e=>by
  let(v,r,rfl,q,t):=h;erw[Lg,List.lookup_cons]at e ⊢;cases a:f==n with
  |true=>rw[a]at e;cases e;show#[v,rfl,q]
  |false=>rw[a]at e;show c4 t e
theorem ON{m:Af}:∀{ns:U Af}{vs:U V},ns.Ϟ m=O'->(ns.zip vs).S m=J
 |[],_,_=>by simp
 |_::_,[],_=>by simp
 |n::ns,v::vs,h=>by
  erw[List.contains_cons,Bool.or_eq_false_iff]at h;erw[Lg,List.lookup_cons,h.1];show ON h.2
@[simp]def FD(c m:Af):Sl->Bool
  |.val (.lst _ (.i ns a))=>decide (a=c)&&!ns.contains m
  |.lent _ (.i ns a)=>decide (a=c)&&!ns.contains m
  |_=>O'
theorem vP{c m:Af}{s:Sl}{v:V}(h:FD c m s=J')(b:CN K N H s v):∃a f d,v=.I a/\Rd H a (.ins (Qk K c) f d)/\d.S m=J:=by
 unfold FD at h;split at h
 .erw[Dp,decide_eq_true_eq,QW]at h;let(rfl,h):=h;let(a,g,e,q,_):=b;rcases q with⟨_,q⟩|⟨i,z,_⟩
  .show#[a,_,_,e,q,ON h]
  .cases z
 .erw[Dp,decide_eq_true_eq,QW]at h;let(rfl,h):=h;let(a,g,e,_,q,_):=b;show#[a,_,_,e,q,ON h]
 .cases h
theorem vQ{r:Rv}{v:V}(c:∀a,N a->H a≠J)(h:EN K N H H' r v):Aw K N H' (Dk r) v:=by
 cases r with|val d=>show h|own l m=>
  let(a,f,e,g,i,j):=h;show#[a,f,e,.of (λn=>c a n g) i,j.nw λb k=>.Q<|.Q k]
end
@[simp]def DP(c m:Af)(F:U Sl->O Rv)(o:O Sl)(a:O (U Sl)):O Rv:=o.L λs=>if FD c m s=J' then a.L λb=>F (s::b)else J
section
variable{K:Ap}{M:Fb}{e:Expr}{f go:AG}{F:U Sl->O Rv}{k:Nat}{fn:Ac}{fd:Cs}{c m:Af}{E:XK}
theorem vR{f:Af}(j:nsIn X.K CZ c=Z (Z (.I C)))(k:Fs X.K C)(l:BQ X.K C f)(m:JE X o (tP X.K M H0 go))(n:FQ o f X.G (Ar o X.G)=Ar o X.G:=by rfl):JE X (.α o f pos) (tD X.K M H0 λρ=>(go ρ).L (Db c f)):=#[(YH m.h n).κ λB H Q p=>by
   let(ρ,d,R,e,q):=p;let(E,t,b):=Ch.mp e;unfold Db at b;split at b
   .split at b
    .next g=>
     subst g;apply#[ρ,_,R,t,λv w s x=>?_];let(a,G,y,i,r):=x;let(u,z,A):=c4 r b;erw[CO,Kx j]at i;show#[a,C,_,_,u,y,i,k,l,z,q u w s A]
    .cases b
   .cases b]
theorem c7(j:nsIn K CZ c=Z (Z (.I C))){r:Rv}{H:Hp}{Q:VK}(R:Bn K M H0 ρ I H)(e:DP c m F (fo ρ) (fa ρ)=Z r)(q:∀v b H',Ak H b->Ak b H'->EN K (Nf M ρ I) b H' r v->Q v H'):J2 C m (A4 K F) [] E (Fw K M H0 fo) (CP K M H0 fa) I H Q:=by
 let(s,k,e):=Ch.mp e;let(l,e):=Z0 e;let(g,n,o):=Ch.mp e;apply#[ρ,s,R,k,λv b d h=>?_];let(a,p,t,u,i,x):=vP l h;rw[Kx j]at i;show#[a,p,t,u,i,x,ρ,g,R.st d,n,λy z f A=>#[Nf M ρ I,s::g,r,((R.st d).st f).nh,#[v,y++[],rfl,h.δ f,by rw[Eh];show A],o,λw B G L=>q w z B (d.E f) G L]]
theorem vS{H:Hp}{Q:U V->Hp->Prop}(h:CP K M H0 (λ_=>Z []) I H Q):NN I H Q:=by
 let(a,b,R,e,q):=h;cases e;show q [] H (Ak.ω H) rfl
theorem c9{sp:Sp}{H:Hp}{Q:VK}(h:J2 C m sp [] E (Fw K M H0 fo) (CP K M H0 λ_=>Z []) I H Q):J2 C m sp [] E (Fw K M H0 fo) NN I H Q:=by
 let(b,d,R,e,q):=h;apply#[b,d,R,e,λv c s f=>?_];let(a,g,i,j,k,l,t):=q v c s f;show#[a,g,i,j,k,l,vS t]
theorem db(b:nsIn K CZ c=Z (Z (.I C))){H:Hp}{Q:VK}(h:tD K M H0 (λρ=>(DP c m F (fo ρ) (fa ρ)).j Dk) I H Q):J2 C m (A4 K F) [] E (Fw K M H0 fo) (CP K M H0 fa) I H Q:=by
 let(ρ,d,R,e,q):=h;let(r,f,rfl):=B7.mp e;show c7 b R f λv j g a i h=>q v g (a.E i)<|vQ (R.st a).nh h
section
variable(hC:nsIn X.K CZ c=Z (Z (.I C)))(cl:Fs X.K C)(hm:K8 X.K C m fn)(G:A2 X.β X.w X.K X.mg X.χ CX k fn fd ps (A4 X.K F))(hr:AL k X.A)(hb:Binds X.K fd ps [])(hx:FR CX X E)(ho:JE X o (Fw X.K M H0 fo))
include hC cl hm G hr hb hx ho
theorem vT(d:JA X (e::es) (CP X.K M H0 fa)) (a:AJ (e::es) X.G=(O',Ar e X.G)::AJ es X.G:=by show D8 rfl) (b:(AD pos (AJ es X.G)).any (·.1)=O':=by rfl) (f:ME X o m (e::es) pl apos pos:=by rfl):JE X (.Λ (.α o m apos) (e::es) [] pos) (tD X.K M H0 λρ=>(DP c m F (fo ρ) (fa ρ)).j Dk):=#[(Tr ho.h cl hm G hr hb .ϔ hx d.h a b f).κ λ_ _ _ h=>db hC h]
theorem vU (a:ME X o m [] pl apos pos:=by rfl):JE X (.Λ (.α o m apos) [] [] pos) (tD X.K M H0 λρ=>(DP c m F (fo ρ) (Z [])).j Dk):=#[(Ts ho.h cl hm G hr hb .ϔ hx a).κ λ_ _ _ h=>c9<|db hC h]
end
end
def vV(H:Hp)(x:Ac):Hp:=λb=>if b=x then J else H b
structure vW(K:Ap)(N:Fb)(a:Ac)(H H':Hp)(ys:List D)(b:Kd)(d:D)(v:V):Prop where
 sm:Ak (vV H a) H'
 at_:∃ws,H' a=Z (CO K b a ys ws)/\Ad K N H' ys ws
 de:Aw K N H' d v
abbrev RB:=U D×Kd×D
def df(K:Ap)(N:Fb)(a:Ac)(H:Hp):Sl->V->Prop
 |.val d,v=>Aw K N H d v
 |.lent e b,v=>∃c f,v=.I c/\(N c/\c≠a)/\Rd H c (CO K b c e f)/\Ad K N H e f
 |_,_=>False
def vX(K:Ap)(F:U Sl->Sl->U Sl->O RB):Sp:=λk H Q _=>∃N a g h d e f b i r,k=d++.I a::e/\(∀c,N c->H c≠J)/\N a/\H a=Z (CO K b a f i)/\Ad K N H f i/\Paired (df K N a H) g d/\Paired (df K N a H) h e /\
 F g (.Κ f b (Z a)) h=Z r/\∀v j,vW K N a H j r.1 r.2.1 r.2.2 v->Q v j
section
variable{b:Kd}
theorem Nb{a b:Type}{F:a->b->Prop}{l:U a}{m:U b}(h:Paired F l m):l.a=m.a:=h.a
theorem dg{a b:Type}{F:a->b->Prop}{x:a}:∀{l:U a}{m:U b}{i:Nat},Paired F l m->l[i]?=Z x->∃y,m[i]?=Z y/\F x y
 |_,_,0,.cons h _,e=>by cases e;show#[_,rfl,h]
 |_,_,i+1,.cons _ t,e=>by exists dg (i:=i) t (by exists e)
end
section
variable{K:Ap}{F:U Sl->Sl->U Sl->O RB}{n:Nat}{fn:Ac}{fd:Cs}{c m:Af}{E:XK}
section
variable(hC:nsIn X.K CZ c=Z (Z (.I C)))(cl:Fs X.K C)(hm:K8 X.K C m fn)(G:A2 X.β X.w X.K X.mg X.χ CX n fn fd ps (vX X.K F))(hr:AL n X.A)(hb:Binds X.K fd ps [])(hx:FR CX X E)
include hC cl hm G hr hb hx
end
end
@[simp]def putN(f:Af):U Af->U Af
  |[]=>[f]
  |n::ns=>if n=f then n::ns else n::putN f ns
@[simp]def D2{a:Type}(f:Af)(y:a):U Af->U a->U a
  |n::ns,x::b=>if n=f then y::b else x::D2 f y ns b
  |_,_=>[y]
theorem dh{f:Af}{y:V}:∀{ns:U Af}{vs:U V},ns.a=vs.a->Fq f y (ns.zip vs)=(putN f ns).zip (D2 f y ns vs)
 |[],[],_=>rfl
 |n::ns,v::vs,h=>by
  erw[Lg,Fq,putN,D2];by_cases e:n=f
  .rw[if_pos e,if_pos e,if_pos e];rfl
  .rw[if_neg e,if_neg e,if_neg e,dh (by exists h)];rfl
def M3(M:Fb)(a:Ac)(bs:U Ac):Fb:=λx=>M x\/x=a\/x∈bs
@[simp]def vY:Sl->Bool
  |_=>O'
@[simp]def LU(ρ:VE):Bool:=ρ.ϭ λs=>!vY s
open AutoSeq1 (wpAny_loadPart')
open PySem.MeetsSeq in
theorem vZ(l:Ac)(items:Array Aa)(n:Nat)(x:Aa)(e:Aa->Bool)(j:Nat)(q:j<items.o)(u:e items[j]=J')(f:items.o<=Ay)(k:Nat):∀i:Nat,j-i=k->i<=j->(∀m (r:m<items.o),i<=m->m<j->e items[m]=O')->Meets (Gg.«list.remove.loop» #[[.I l,x,BB i],[]]) (λA R s=>s.u.R l=Z {cls:=.ι "list",dict:=J,data:=.Ϲ items n,slots:=(T' [])}/\(∀y,y∈items->SeqAt.EqAt A.in1 s y x (e y))/\R (.ok (.ϸ .Δ)) {s with heap:=s.u.ϰ l (Gc λxs=>xs.Ϗ j)}):=by
 induction k with
 |zero=>
  intro i v p a prog w A R s h;let(z,g,d,B,os):=s;let(c,o,h):=h;let C:i=j:=∅
  subst C;wp_walk using Fe c;rw[show items[((i:Nat):Int).θ]?=Z items[i] by simp[q]];apply Ao<|o _ (Array.getElem_mem q) prog w _ _ ?_;let hz:(items.Ϗ i).o<=Ay+1:=Bv (size_erased items _)<|GQ f;wp_walk using(wpAny_updateSeq c rfl (hz:=f) (_hz':=hz)),Fe c;exists h
 |succ k E=>
  intro i v p a prog w A R s h;let(z,g,d,B,os):=s;let(c,o,h):=h;let b:i<items.o:=∅
  wp_walk using Fe c;rw[show items[((i:Nat):Int).θ]?=Z items[i] by simp[b]];apply Ao<|o _ (Array.getElem_mem b) prog w _ _ ?_;rw[a i b (AX _) ∅];wp_walk;show⟨Mw plain_remove_loop _,Lj entry_remove_loop (by
   show E (i+1) ∅ ∅ (λm r H G=>a m r ∅ G) prog w A R _ ⟨c,o,h⟩)⟩
open PySem.MeetsSeq in
theorem v4(l:Ac)(items:Array Aa)(n:Nat)(x:Aa)(e:Aa->Bool)(j:Nat)(k:j<items.o)(a:e items[j]=J')(b:∀m (f:m<items.o),m<j->e items[m]=O')(c:items.o<=Ay):Meets (Gg.«list.remove» #[[.I l,x],[]]) (λA R s=>s.u.R l=Z {cls:=.ι "list",dict:=J,data:=.Ϲ items n,slots:=(T' [])}/\(∀y,y∈items->SeqAt.EqAt A.in1 s y x (e y))/\R (.ok (.ϸ .Δ)) {s with heap:=s.u.ϰ l (Gc λxs=>xs.Ϗ j)}):=by
 intro prog w A R s h;let(q,g,d,r,os):=s;let(i,o,h):=h;wp_walk using Fe i;show#[Mw plain_remove_loop _,Lj entry_remove_loop (by
  show vZ l items n x e j k a c _ 0 rfl (E3 _) (λm f _ p=>b m f p) prog w A R _ #[i,o,h])]
def v6(K:Ap):V->U V->Hp->VK->Prop:=λx c H Q=>∃l a y N d b j,x=.I l/\c=[y]/\H l=Z (.O a)/\Ad K N H b a/\Az K N H d y/\A5 ZY d=J'/\b.ϭ (A5 ZY)=J'/\b.findIdx? (λz=>Be z d)=Z j/\Q .Α (AK H l (.O (a.Ε j)))
section
variable{K:Ap}{M:Fb}{e:Expr}{f:AG}{i:Nat}{x:Af}
theorem v8(hu:X.A.γ+64<Av):Qh X "list.remove" (v6 X.K):=by
 intro G s I H x vs v us Q S P T zQ;let(l,R,y,N,d,M,j,rfl,rfl,L,hd,Y,od,c,hj,q):=zQ
 cases P
 let(u,rfl,ru):=T.one
 let(z,a,n,r,hl,e):=S.lstM L
 let(h,i,k):=List.findIdx?_eq_some_iff_getElem.mp hj
 let hln:=hd.a
 let f:∀m (o:m<a.C.o) (b:m<M.a),GK X.K N H d a.C[m]=Be M[m] d:=λm o b=>by
  let(w,t,dw):=hd.Ρ (Cb b)
  let(w',B,C):=r.Ρ t
  have:a.C[m]=w':=by
   rw[List.getElem_toArray];show(Cr.mp B).2
  rw[this]
  show T2 S dw.p C (Du.mp c _ (Fy b))
 let g:j<a.C.o:=by rw[B5];lia
 apply BY F.slot_list_remove #[_,e,rfl] F.entry_list_remove (F.args_list_remove_2 _ _)
  (v4 l a.C n u (GK X.K N H d) j g (f j g h ▸ i) (λm o E=>by rw[f m o ∅];exists k m E) (by rw[B5];lia)) #[e,λw t=>T5 S (show X.A.in1.γ+ZY<Av by rw[Of];unfold ZY;lia) od Y ru hd r c w (by exists t),?_]
 apply#[.Α,_,S.lset (its':=a.Ε j) L e ?_ (r.Ε j) ?_,rfl,q]
 .change a.C.Ϗ j=(a.Ε j).C
  rw[List.eraseIdxIfInBounds_toArray]
 .have:=Tw R j
  lia
theorem Ad.erase{N:Fb}{H:Hp}(h:Ad K N H xs vs)(j:Nat):Ad K N H (xs.Ε j) (vs.Ε j):=by
 rw[List.eraseIdx_eq_take_drop_succ,List.eraseIdx_eq_take_drop_succ];show(h.ϋ j).Ι<|h.ρ<|j+1
end
end Internal
namespace Internal
open PySem PySem.Spec PyProof.Rows PySem.W
section
open J in
end
end Internal
namespace Internal
open PySem PySem.Spec PyProof.Rows
def Cm(a:Ac)(o:Obj)(u:HO)(H:Hp):Hp:=λb=>@ite _ (b=a/\H b=Z u) (Qs _) (Z (.frz o u)) (H b)
def HY(a:Ac)(o:Obj)(u:HO)(H:Hp):Hp:=λb=>@ite _ (b=a/\H b=Z (.frz o u)) (Qs _) (Z u) (H b)
section
variable{o:Obj}{u:HO}{H:Hp}{b:Ac}{v:HO}
theorem Jy(h:H a=Z u):Cm a o u H a=Z (.frz o u):=if_pos #[rfl,h]
theorem F3(h:¬ (b=a/\H b=Z u)):Cm a o u H b=H b:=if_neg h
theorem LW(h:H a=Z (.frz o u)):HY a o u H a=Z u:=if_pos #[rfl,h]
theorem Ky(h:¬ (b=a/\H b=Z (.frz o u))):HY a o u H b=H b:=if_neg h
theorem B9:Cm a o u H b=J↔H b=J:=by grind [Jy,F3]
theorem HZ:HY a o u H b=J↔H b=J:=by
 by_cases h:b=a/\H b=Z (.frz o u)
 .let(rfl,h):=h;rw[LW h,h];show#[λz=>(nomatch z),λz=>(nomatch z)]
 .rw[Ky h]
theorem dj(h:H b=Z v)(c:Gi v=O')(d:Gi u=J'):Cm a o u H b=Z v:=by grind [F3]
theorem OO(h:H b=Z v)(c:∀o u,v≠.frz o u):HY a o u H b=Z v:=by grind [Ky]
theorem Rd.fz(c:Gi u=J')(h:Rd H b v):Rd (Cm a o u H) b v:=by
 rcases h with h|⟨d,h⟩
 .by_cases z:b=a/\H b=Z u
  .let(rfl,z):=z;rw[h]at z;cases z;show .σ #[o,Jy h]
  .show .Q<|F3 z ▸ h
 .show .σ #[d,dj h rfl c]
theorem Rd.ufz(c:∀o u,v≠.frz o u)(h:Rd H b v):Rd (HY a o u H) b v:=by
 rcases h with h|⟨d,h⟩
 .show .Q<|OO h c
 .by_cases z:b=a/\H b=Z (.frz o u)
  .let(rfl,z):=z;rw[h]at z;cases z;show .Q<|LW h
  .show .σ #[d,Ky z ▸ h]
theorem Ak.fz(f:Gi u=J')(s:Ak H0 H)(b:∀w,H0 a=Z w->H a=Z u->w=u):Ak (Cm a o u H0) (Cm a o u H):=by
 intro c w e;by_cases z:c=a/\H0 c=Z u
 .let(rfl,z):=z;rw[Jy z]at e;cases e;show Jy<|s _ _ z
 .rw[F3 z]at e;rw[F3]
  .show(s _ _ e)
  .intro zQ;let(rfl,d):=zQ;show z ⟨rfl,by rw[e,b w e d]⟩
end
mutual
theorem Aw.rd{K:Ap}{N:Fb}{H H':Hp}(k:∀b v,(∀o u,v≠HO.frz o u)->Rd H b v->Rd H' b v):∀(d:D)(v:V),Aw K N H d v->Aw K N H' d v
 |.non,_,h=>h
 |.bl _,_,h=>h
 |.int _,_,h=>h
 |.str _,_,h=>h
 |.ty _,_,h=>h
 |.tup f,v,h=>by
  erw[Aw]at h ⊢
  let(a,c,e,q,r):=h
  apply#[a,c,e,?_,Ad.rd k f c r]
  rcases q with q|q
  .show .Q (k _ _ (λ_ _ z=>nomatch z) q)
  .show .σ q
 |.lst f g,v,h=>by
  erw[Aw]at h ⊢
  let(a,c,e,q,r):=h
  apply#[a,c,e,?_,Ad.rd k f c r]
  rcases q with⟨n,q⟩|q
  .show .Q #[n,k _ _ (λ_ _ z=>by cases g<;>cases z) q]
  .show .σ q
theorem Ad.rd{K:Ap}{N:Fb}{H H':Hp}(k:∀b v,(∀o u,v≠HO.frz o u)->Rd H b v->Rd H' b v):∀(xs:U D)(vs:U V),Ad K N H xs vs->Ad K N H' xs vs
 |[],_,h=>h
 |x::xs,vs,h=>by
  erw[Ad]at h ⊢
  let(v,r,e,q,t):=h
  show#[v,r,e,Aw.rd k x v q,Ad.rd k xs r t]
end
theorem OP(K:Ap)(b:Kd)(a:Ac)(xs:U D)(vs:U V):∀o u,CO K b a xs vs≠HO.frz o u:=λ_ _ z=>by cases b<;>cases z
section
variable{K:Ap}{M N N':Fb}{o:Obj}{u:HO}{H:Hp}
theorem Bn.fz(m:Gi u=J')(R:Bn K M H0 ρ I H)(t:H a=Z u)(y:∀(i:Nat)(xs:U D)(b:Kd)(r:O Ac),ρ[i]?=Z (Sl.Κ xs b r)->I[i]?≠Z (Z (V.I a))):Bn K M (Cm a o u H0) ρ I (Cm a o u H) where
 len:=R.ϩ;same:=R.δ.fz m λw e _=>by have:=R.δ _ _ e;rw[t]at this;cases this;rfl
 mh:=λc h z=>R.mh c h<|B9.mp z;slot:=λi s e=>by
  let q:=R.ϕ i s e;let l:∀b v,(∀o u,v≠HO.frz o u)->Rd H b v->Rd (Cm a o u H) b v:=λb v _ h=>Rd.fz m h;cases s with
  |no=>trivial
  |val d=>let(v,e,h):=q;show#[v,e,Aw.rd l d v h]
  |own xs A r=>
   let(c,g,j,f,k,n,p):=q;apply#[c,g,j,#[B9.ϡ f.1,f.2],k,?_,Ad.rd l xs g p];rw[F3,n];grind
  |lent xs A=>let(c,g,j,(f,k),n,p):=q;show#[c,g,j,#[f,λz=>k<|B9.mp z],l _ _ (OP _ _ _ _ _) n,Ad.rd l xs g p]
  |exc c=>let(x,C,j,f,k):=q;show#[x,C,j,f,dj k rfl m]
 inj:=R.inj
theorem Bn.ufz(R:Bn K M (Cm a o u H0) ρ I H')(s:H' a=Z (.frz o u))(t:∀w,H0 a=Z w->w=u):Bn K M H0 ρ I (HY a o u H') where
 len:=R.ϩ;same:=λc w e=>by
  by_cases z:c=a
  .subst z;have:=t w e;subst this;show LW s
  .let f:=R.δ c w (by rw[F3 λy=>z y.1];show e);rw[Ky λy=>z y.1];show f
 mh:=λc h z=>R.mh c h<|HZ.mp z;slot:=λi r e=>by
  let q:=R.ϕ i r e;cases r with
  |no=>trivial
  |val d=>let(v,e,h):=q;show#[v,e,Aw.rd (λb v g h=>Rd.ufz g h) d v h]
  |own m A B=>let(c,j,k,f,l,n,p):=q;show#[c,j,k,#[B9.mp f.1,f.2],l,OO n<|OP _ _ _ _ _,Ad.rd (λb v g h=>Rd.ufz g h) m j p]
  |lent m A=>let(c,j,k,(f,l),n,p):=q;show#[c,j,k,#[f,λz=>l<|B9.mpr z],(λb v g h=>Rd.ufz g h) _ _ (OP _ _ _ _ _) n,Ad.rd (λb v g h=>Rd.ufz g h) m j p]
  |exc c=>let(x,C,k,f,l):=q;show#[x,C,k,f,OO l λ_ _ z=>nomatch z]
 inj:=R.inj
theorem Step.ufz(s:Step M N N' (Cm a o u H) H')(b:H a=Z u):Step M N N' H (HY a o u H')/\H' a=Z (.frz o u):=by
 let d:=s.kp a _ (Jy b)<|.inr<|.inr rfl;apply⟨⟨λc w e z=>?_,λc n=>(s.nw c n).imp id B9.mp⟩,d⟩;by_cases y:c=a
 .subst y;rw[b]at e;cases e;show LW d
 .have:=s.kp c w (by rw[F3 λx=>y x.1];show e) z;rw[Ky λx=>y x.1];show this
theorem EN.ufz{r:Rv}{v:V}(h:EN K M (Cm a o u H0) H' r v):EN K M H0 (HY a o u H') r v:=by
 cases r with
 |val d=>show Aw.rd (λb v f h=>Rd.ufz f h) d v h
 |own i m=>let(c,g,e,j,k,l):=h;show#[c,g,e,B9.mp j,OO k<|OP _ _ _ _ _,Ad.rd (λb v f h=>Rd.ufz f h) i g l]
end
section
variable{H:Hp}{s:Ab}{o:Obj}{u:HO}
theorem CL.swap{P:AM}{w:Aj}{h:Al}{H:Hp}{u u':HO}(x:CL P w H h)(f:H a=Z u)(i:∀y,u≠.Κ y)(j:∀xs,u≠.X xs)(ne:∀b,b≠a->H' b=H b)(d:H' a=Z u')(new:Bc P w H' h a u'):CL P w H' h:=λb v e=>by
 by_cases g:b=a
 .subst g;rw[d]at e;cases e;show new
 .rw[ne b g]at e;refine(x b v e).stay (λc v _ q=>q) (λc q=>?_) λc xs q=>?_
  .rw[ne c λz=>by rw[z,f]at q;cases q;show i _ rfl];show q
  .rw[ne c λz=>by rw[z,f]at q;cases q;show j _ rfl];show q
theorem UO(a:Gi u=J'):(∀y,u≠.Κ y)/\(∀xs,u≠.X xs)/\(∀o v,u≠.frz o v)/\∀b,u≠.tbl b:=by
 apply#[λ_ z=>?_,λ_ z=>?_,λ_ _ z=>?_,λ_ z=>?_]<;>rw[z]at a<;>cases a
theorem Inv.plain(h:Inv X pins I H s)(b:H a=Z u)(d:Gi u=J'):(∀xs,X.H₀ a≠Z (.X xs))/\(∀o v,X.H₀ a≠Z (.frz o v))/\∀c,X.H₀ a≠Z (.tbl c):=by
 let(_,e,f,g):=UO d;apply#[λxs z=>?_,λo v z=>?_,λc z=>?_]
 .have:=h.χ.tups a xs z;rw[b]at this;cases this;show e _ rfl
 .have:=h.χ.frzs a o v z;rw[b]at this;cases this;show f _ _ rfl
 .let(_,this):=h.χ.tbls a c z;rw[b]at this;cases this;show g _ rfl
theorem Inv.swap{u u':HO}(q:Inv X pins I H s)(d:H a=Z u)(i:∀y,u≠.Κ y)(j:∀xs,u≠.X xs)(pl:(∀xs,X.H₀ a≠Z (.X xs))/\(∀o v,X.H₀ a≠Z (.frz o v))/\∀f,X.H₀ a≠Z (.tbl f))(ne:∀b,b≠a->H' b=H b)(g:H' a=Z u')(new:Bc X.β X.w H' s.u a u'):Inv X pins I H' s where
 ok:=q.ok;os:=q.os;bare:=q.bare;base:=#[q.χ.keep,q.χ.ϕ,λb o e n k=>by
   have:=q.χ.ύ b o e n k;rw[ne b λz=>by rw[z,d]at this;cases this];show this,q.χ.there,
  λb xs e=>by rw[ne b λz=>pl.1 xs<|z ▸ e];show q.base.tups b xs e,λb o v e=>by rw[ne b λz=>pl.2.1 o v<|z ▸ e];show q.base.frzs b o v e,λb f e=>by rw[ne b λz=>pl.2.2 f<|z ▸ e];show q.χ.tbls b f e]
 loc:=q.loc;cell:=q.Ν;free:=by rw[ne _ λz=>by have:=q.ύ;rw[z,d]at this;cases this];show q.ύ
 freeC:=λx c e=>by
  have:=q.freeC x c e;rw[ne c λz=>by rw[z,d]at this;cases this];show this
 pin:=λp l=>by
  let(p1,h,m):=q.pin p l;show#[p1,by rw[ne _ λz=>by rw[z,d]at h;cases h];show h,m]
 hok:=q.Ϫ.swap d i j ne g new;len:=q.ϩ
theorem Inv.fz(e:Gi u=J')(m:Inv X pins I H s)(d:H a=Z u)(h:s.u.R a=Z o):Inv X pins I (Cm a o u H) s:=by
 let(f,g,j,k):=UO e;let ne:∀b,b≠a->Cm a o u H b=H b:=λb i=>F3 λz=>i z.1;apply m.swap d f g (m.plain d e) ne (Jy d) #[h,(m.Ϫ a u d).stay (λ_ _ _ q=>q) (λc q=>?_) λc l q=>?_]
 .rw[ne c λz=>by rw[z,d]at q;cases q;show f _ rfl];show q
 .rw[ne c λz=>by rw[z,d]at q;cases q;show g _ rfl];show q
theorem Inv.ufz(g:Inv X pins I H s)(d:H a=Z (.frz o u))(pl:(∀xs,X.H₀ a≠Z (.X xs))/\(∀o v,X.H₀ a≠Z (.frz o v))/\∀e,X.H₀ a≠Z (.tbl e)):Inv X pins I (HY a o u H) s:=by
 let ne:∀b,b≠a->HY a o u H b=H b:=λb f=>Ky λz=>f z.1;apply g.swap d (λ_ z=>nomatch z) (λ_ z=>nomatch z) pl ne (LW d) ((g.Ϫ a _ d).2.stay (λ_ _ _ q=>q) (λc q=>?_) λc xs q=>?_)
 .rw[ne c λz=>by rw[z,d]at q;cases q];show q
 .rw[ne c λz=>by rw[z,d]at q;cases q];show q
end
open PySem.W
def LX(a:Ac)(o:Obj)(u:HO)(ks:U V):It:=#[λi H=>H a=Z (.frz o u)/\i<ks.a,λi H x b=>b=H/\ks[i]?=Z x,λi H=>H a=Z (.frz o u)/\ks.a<=i]
theorem wa{P:AM}{w:Aj}{K:Ap}{it:Ac}{o:Obj}{u:HO}{es:Array Hu}{ep:Nat}{ks:U V}(m:o.ExactDict)(p:o.data=.dict es ep)(r:Aq ks (es.B.j λe=>e.key)):Im P w K y (LX a o u ks) [it] it (λi h=>h.IsKeyIter it a i es.o ep):=by
 apply NG (n:="dict_keyiterator") (by ext) (λi h st=>?_) (λi h g st k=>st.at k) (λX i t s L H E Q M A N st=>?_) λ_ _ _ _ _ st h=>wpAny_pyIter_keyiter st h
 .let(o,e,c,d):=st;show#[o,_,e,c,d]
 .let f:=r.a;simp at f;constructor<;>intro v q
  .let(hz,j):=v;let(k,B,C):=r.Ρ<|Cb j;let x:i<es.o:=∅
   show QV st #[o,(N.Ϫ a _ hz).1,m,p] (λ_ g l sb=>q _ _ g s.Γ l (λb o G e=>(sb.2 b G).E e) (by rw[show es[i].key=k by simpa[x]using B];show C) #[rfl,Cb j]) λz=>absurd x<|Nat.not_lt.ϡ z
  .let(hz,j):=v;show QV st #[o,(N.Ϫ a _ hz).1,m,p] (λz=>absurd z ∅) λ_=>#[A,λg F=>q g s.Γ F]
abbrev Dl(tr:U T3):HO:=.dct (tr.j (·.1)) (Ea tr)
section
variable{l:Expr}
def dm(K:Ap)(tl:TE):TI:=λc H R=>tl c H λx b=>∃a tr,x=.I a/\C2 K b a tr/\∀o,(Cm a o (Dl tr) b) a=Z (.frz o (Dl tr))->R (LX a o (Dl tr) (tr.j λt=>t.2.1)) (Cm a o (Dl tr) b)
theorem UP{tl:TE}(r:PE X l tl):PI X tg l (dm X.K tl):=by
 intro c s m H R F h;apply A1 (r c s m H _ F h) λv f t=>?_;let(x,g,i,u,a,tr,e,hd,q):=t;subst e;cases u;let(z,w,nd,o,C,E,j,n,p,A):=hd.1.ok i.Ϫ;obtain⟨k,hz⟩:Inv X c m (Cm a o (Dl tr) g) f/\(Cm a o (Dl tr) g) a=Z (.frz o<|Dl tr):=by
  rcases hd.1 with d|⟨G,d⟩
  .show#[i.fz rfl d j,Jy d]
  .have:=(i.Ϫ a _ d).1;rw[j]at this;cases this;have:Cm a o (Dl tr) g=g:=funext λb=>F3 (by rintro⟨rfl,y⟩;rw[d]at y;cases y);rw[this];show⟨i,d⟩
 apply cU w #[o,j,n,p] ?_;apply#[f.u.J.o,[f.u.J.o],_,_,_,rfl,k.ϱ (t':=f.Γ) λb o e=>BC _ e,wa n p<|OJ A,⟨_,Co _ rfl,rfl,rfl⟩,λb B=>?_,q o hz];let e:b=f.u.J.o:=by exists B
 subst e;show k.fpOk (AX _)<|k.Ϫ.Ψ<|AX _
end
def Cv(X:Cx)(Q:Hp->Prop)(H':Hp):Prop:=Q H'\/∃a o u,((∀b,X.H₀ a≠Z (.X b))/\(∀o v,X.H₀ a≠Z (.frz o v))/\∀c,X.H₀ a≠Z (.tbl c))/\H' a=Z (.frz o u)/\Q (HY a o u H')
def Ends.cv(X:Cx)(D:Ends):Ends:={nx:=λa=>Cv X (D.nx a),rt:=λv=>Cv X (D.rt v),bk:=λa=>Cv X (D.bk a),ct:=λa=>Cv X (D.ct a)}
theorem SP.cv{c:AZ}{D:Ends}{f:Flow}{s:Ab}(h:SP X c (D.cv X) f s):SP X c D f s:=by
 let k:∀{j:St} {H:Hp} {Q:Hp->Prop},Inv X c j H s->Cv X Q H->∃i,Inv X c j i s/\Q i:=λn q=>by
  rcases q with q|⟨a,o,u,l,m,q⟩
  .show#[_,n,q]
  .show#[_,n.ufz m l,q]
 cases f with
 |next=>let(b,i,n,q):=h;let(d,e,g):=k n q;show#[b,d,e,g]
 |brk=>let(b,i,n,q):=h;let(d,e,g):=k n q;show#[b,d,e,g]
 |cont=>let(b,i,n,q):=h;let(d,e,g):=k n q;show#[b,d,e,g]
 |ret u=>let(v,b,i,n,r,q):=h;let(d,e,g):=k n q;show#[v,b,d,e,r,g]
section
variable{K:Ap}{M:Fb}{H:Hp}{D:Ends}{r:DB}{o:Obj}{u:HO}
theorem Bk.cv(h:Bk K M H0 ρ I H D r):Bk K M H0 ρ I H (D.cv X) r:=by
 cases r with
 |fail=>show h
 |next c=>show λa b R S=>.Q<|h a b R S
 |brk c=>show λa b R S=>.Q<|h a b R S
 |cont c=>show λa b R S=>.Q<|h a b R S
 |ret r=>show λv b s q=>.Q<|h v b s q
theorem Bk.fz(m:Gi u=J')(h:Bk K M H0 ρ I H D r)(i:H a=Z u)(j:∀w,H0 a=Z w->w=u)(pl:(∀xs,X.H₀ a≠Z (.X xs))/\(∀o v,X.H₀ a≠Z (.frz o v))/\∀k,X.H₀ a≠Z (.tbl k)):Bk K M (Cm a o u H0) ρ I (Cm a o u H) (D.cv X) r:=by
 let nx:∀(c:VE) (Q:St->Hp->Prop),HM K M H0 ρ I H c Q->HM K M (Cm a o u H0) ρ I (Cm a o u H) c (λI=>Cv X<|Q I):=λc Q h f g R S=>by
  let(l,d):=S.ufz i;show .σ #[a,o,u,pl,d,h f _ (R.ufz d j) l]
 cases r with
 |fail=>show h
 |next c=>show nx _ _ h
 |brk c=>show nx _ _ h
 |cont c=>show nx _ _ h
 |ret r=>
  intro v g s q;by_cases z:H0 a=Z u
  .let d:=s a _<|Jy z;apply .inr ⟨a,o,u,pl,d,h v _ (λb w e=>?_) (EN.ufz q)⟩;by_cases y:b=a
   .grind [LW]
   .rw[Ky λx=>y x.1];show s b w (by rw[F3 λx=>y x.1];show e)
  .let e:Cm a o u H0=H0:=funext λb=>F3 (by rintro⟨rfl,y⟩;show z y);rw[e]at s q;show .Q<|h v g s q
end
def EB(d:D):A7:=match d with
 |.lst b .d=>(EA b).j λa=>a.j λp=>kD p.1
 |_=>J
theorem Aw.at_any{K:Ap}{N b:Fb}{H:Hp}{a:At}{v:V}(h:Aw K N H (aD a) v):Aw K b H (aD a) v:=by cases a<;>show h
theorem Ad.at_any{K:Ap}{N b:Fb}{H:Hp}:∀{l:U At}{vs:U V},Ad K N H (l.j aD) vs->Ad K b H (l.j aD) vs
 |[],_,h=>h
 |a::l,vs,h=>by
  let(v,r,e,q,t):=h;show#[v,r,e,q.at_any,Ad.at_any t]
theorem Aw.key_any{K:Ap}{N b:Fb}{H:Hp}{k:KT}{v:V}(h:Aw K N H (kD k) v):Aw K b H (kD k) v:=by
 cases k with| «at» a=>show Aw.at_any h|tup l=>
  let(p,c,e,q,r):=h;show#[p,c,e,q,Ad.at_any r]
theorem dn{K:Ap}{M N k:Fb}{f:Hp}{o:Obj}{tr:U T3}(g:PD K k f kvs tr)(hz:Cm a o (Dl tr) f a=Z (.frz o (Dl tr))):MC K M N (Cm a o (Dl tr) f) (LX a o (Dl tr) (tr.j λt=>t.2.1)) (kvs.j λp=>kD p.1):=λq r S i=>by
 let c:=S.kp a _ hz<|.inr<|.inr rfl;apply⟨λd hd=>?_,λe=>⟨c,by rw[<- g.kden.a];lia⟩⟩;apply#[#[c,g.kden.a ▸ ((Cr.mp hd).1)],λx s y=>?_];let(rfl,l):=y;apply#[Ak.ω _,?_];let(w,j,m):=g.kden.Ρ hd;rw[l]at j;cases j;rw[CM]at hd;let(p,n,hd):=B7.mp hd;cases hd;show Aw.Τ S _ _<|(Aw.rd (λb v _ h=>Rd.fz rfl h) _ _ m).key_any
theorem dr{K:Ap}{M:Fb}{H:Hp}(R:Bn K M H0 ρ I H)(d:¬ Nf M ρ I a\/M a):∀(i:Nat)(xs:U D)(b:Kd)(e:O Ac),ρ[i]?=Z (Sl.Κ xs b e)->I[i]?≠Z (Z (V.I a)):=λi xs j e f g=>by
 rcases d with d|d
 .show d<|.σ ⟨i,xs,j,e,f,g⟩
 .let(c,k,h,_,l,_):=R.ϕ i _ f;rw[g]at h;cases h;show l d
theorem Inv.plain2{b:AZ}{H g:Hp}{s:Ab}{u:HO}(l:Inv X b I H s)(c:Ak H g)(d:g a=Z u)(h:Gi u=J'):(∀xs,X.H₀ a≠Z (.X xs))/\(∀o v,X.H₀ a≠Z (.frz o v))/\∀f,X.H₀ a≠Z (.tbl f):=by
 let(_,i,j,k):=UO h;apply#[λxs z=>?_,λo v z=>?_,λf z=>?_]
 .let y:=c _ _<|l.χ.tups a xs z;rw[d]at y;cases y;show i _ rfl
 .let y:=c _ _<|l.χ.frzs a o v z;rw[d]at y;cases y;show j _ _ rfl
 .let(m,e):=l.χ.tbls a f z;let y:=c _ _ e;rw[d]at y;cases y;show k _ rfl
section
variable{M:Fb}{l:Expr}{body:U AF}{f:AG}{b:D->VE->O VE}{g:Ax}
open J in
theorem wb(hp:PassesOwn (Ae X.β X.w) X.A X.G X.xe)(hc:X.ϵ=J')(hl:PE X l (tQ X.K M H0 f))(hg:∀H0,PG X tg (tG X.K M H0 ws b))(hb:∀H0,EZ X body (tS X.K M H0 g)) (hs:∀x,E1 l X.G x=Am x:=by intro _;rfl):PS X (.For tg l body [] pos) (tS X.K M H0 (Z8 (λρ=>(f ρ).L EB) b g)):=by
 intro j s c H zA zB #[ρ,R,q];unfold Z8 at q;dsimp only at q;cases S:f ρ with|none=>rw[S]at q;show BX q|some d=>
 rw[S]at q;erw[Cp]at q;cases B:EB d with|none=>rw[B]at q;show BX q|some ds=>
 rw[B]at q;unfold EB at B;split at B
 .next xs=>
  cases Y:EA xs with|none=>rw[Y]at B;cases B|some C=>
  rw[Y]at B;cases B;apply A1 (NI hp hc (UP hl) (show PG X tg (λv c H Q=>∃H0,tG X.K M H0 ws b v c H Q)from λj s c H v u Q zB r ⟨H0,h⟩=>hg H0 j s c H v u Q zB r h) (show EZ X body (λD c H=>∃H0,tS X.K M H0 g D c H)from λj s c H D zB ⟨H0,h⟩=>hb H0 j s c H D zB h) hs j s c H (zA.cv X) zB ?_) λfl s' h=>h.cv;apply#[ρ,_,R,S,λv E P dq=>?_];rw[GN Y]at dq;let(a,vs,rfl,hN,hr,dl):=dq;let(tr,dc,pd):=Jp hr dl;apply#[a,tr,rfl,dc,λo hz=>?_];let T:=R.st P;let fin:∀n,Bn X.K M n ρ c (Cm a o (Dl tr) E)->Bk X.K M n ρ c (Cm a o (Dl tr) E) (zA.cv X) (ZO b g (C.j λp=>kD p.1) ρ) ->
    ∃W:Nat->Nat->St->Hp->Prop,(∃m,W 0 m c<|Cm a o (Dl tr) E)/\∀i m c H,W i m c H->((LX a o (Dl tr)<|tr.map λt=>t.2.1).stop i H/\(zA.cv X).nx c H)\/((LX a o (Dl tr)<|tr.map λt=>t.2.1).go i H/\∃N:St->Hp->Prop,(∀F L,N F L->∃m',m'<m/\W (i+1) m' F L)/\∀x L,(LX a o (Dl tr)<|tr.map λt=>t.2.1).yld i H x L->(∃H0,tG X.K M H0 ws b x c L λσ2 H2=>∃H0,tS X.K M H0 g {zA.cv X with nx:=N,ct:=N,bk:=(zA.cv X).nx} σ2 H2)):=λn R2 q2=>by
   let core:=aF (K:=X.K) (M:=M) (H0:=n) (f:=λ_=>Z<|C.map λ(p:KT×D)=>kD p.1) (b:=b) (g:=g) (ws:=ws) (D':=zA.cv X) (I:=c) (H:=Cm a o (Dl tr) E) (wi:=tI X.K M n λ_=>Z<|C.map λ(p:KT×D)=>kD p.1)
    (tg':=λv c H Q=>∃H0,tG X.K M H0 ws b v c H Q) (tb:=λD c H=>∃H0,tS X.K M H0 g D c H) (λ_ _ _ z=>z) (λ_ _ _ _ z=>#[n,z]) (λ_ _ _ z=>#[n,z]) #[ρ,R2,q2]
   let(ρ',ds',R',e',k):=core;cases e';show k _ _ (Ak.ω _)<|(λN=>dn (M:=M) (N:=N) pd hz) _
  rcases dc.1 with G|⟨o',G⟩
  .show fin _ (T.fz rfl G<|dr T hN)<|Bk.fz rfl (Bk.from (Step.of_same P) q) G (λw e=>by have y:=T.δ _ _ e;rw[G]at y;cases y;rfl) (zB.plain2 P G rfl)
  .let e:Cm a o (Dl tr) E=E:=funext λb=>F3 (by rintro⟨rfl,y⟩;rw[G]at y;cases y);rw[e]at fin ⊢;show fin _ T (Bk.jk (Step.ώ P) q).cv
 .cases B
theorem wc(a:PassesOwn (Ae X.β X.w) X.A X.G X.xe)(c:X.ϵ=J')(d:JE X l (tQ X.K M H0 f))(e:∀H0,JG X tg (tG X.K M H0 ws b))(i:∀H0,JB X body (tS X.K M H0 g)) (j:∀x,E1 l X.G x=Am x:=by intro _;rfl):JS X (.For tg l body [] pos) (tS X.K M H0 (Z8 (λρ=>(f ρ).L EB) b g)):=#[wb a c d.h (λH0=>(e H0).h) (λH0=>(i H0).h) j]
end
def wd(K:Ap):V->U V->Hp->VK->Prop:=λx b H Q=>∃a tr k y,x=.I a/\b=[y]/\C2 K H a tr/\HU k tr/\BJ K H k y/\Q ((Z9 tr k).Y .Α) H
@[simp]def OQ(x y:D):O D:=match x with
  |.lst b .d=>match EA b,Dq y with
   |some a,Z k=>if DZ k a then Z ((Zx a k).Y .Α)else J
   |_,_=>J
  |_=>J
section
variable{M:Fb}{fo fk:AG}
theorem we(C:X.A.γ+64<Av):Je X "dict.get" (wd X.K):=by
 intro i s E H x G v f Q L o r zQ;let(a,tr,k,y,rfl,rfl,hd,j,m,q):=zQ;cases o;let(t,rfl,n):=r.one;cases k with
 | «at» b=>
  cases m;let(u,h,nd,f,rel,g):=Oj L hd j;let c:=rel.y b;apply call_meetsIn PySem.F.slot_dict_get g.ϛ PySem.F.entry_dict_get (PySem.F.args_dict_get_2 _ _) (meets_dict_get (ZF X.β X.w) a (Iz n) h) #[_,g.mapOf,?_];cases d:Z9 tr (.at b)with
  |none=>
   rw[d]at q;cases e:valueAt f b with
   |none=>show#[.Α,H,L.tok _,rfl,q]
   |some w=>rw[d,e]at c;show c.Η
  |some w=>
   rw[d]at q;cases e:valueAt f b with
   |none=>rw[d,e]at c;show c.Η
   |some z=>rw[d,e]at c;show#[w,H,L.tok _,c,q]
 |tup l=>
  let(p,rfl,B):=m;cases(show t=DJ p from n);let(u,h,nd,f,rel,g):=Ly L hd j;let c:=rel.y l;apply call_meetsIn PySem.F.slot_dict_get g.ϛ PySem.F.entry_dict_get (PySem.F.args_dict_get_2 _ _) (meetsH_dict_get (BZ<|ZF X.β X.w) a p h) ⟨Lz ∅,l,f,Jn L B,g,?_⟩;cases d:Z9 tr (.X l)with
  |none=>
   rw[d]at q;cases e:atKey f l with
   |none=>show#[.Α,H,L.tok _,rfl,q]
   |some w=>rw[d,e]at c;show c.Η
  |some w=>
   rw[d]at q;cases e:atKey f l with
   |none=>rw[d,e]at c;show c.Η
   |some z=>rw[d,e]at c;show#[w,H,L.tok _,c,q]
open J in
theorem wf(G:X.A.γ+64<Av)(zA:JE X o (tP X.K M H0 fo))(P:JE X ek (tP X.K M H0 fk)) (c:FQ o "get" X.G (Ar o X.G)=Ar o X.G:=by rfl) (f:((AD cpos (AJ [ek] X.G)).ϭ (λx=>!x.1)&&(GB cpos (GC [] X.G)).ϭ (λx=>x.1.Ζ) && decide ([ek].a+([]:U Ei).a+(if([]:U Ei).Υ then 0 else 1)<30))=J':=by rfl) (e:(apos.ϴ==cpos.Ϯ)=J':=by rfl) (g:AJ [ek] X.G=(O',Ar ek X.G)::AJ [] X.G:=by show D8 rfl) (l:(AD cpos (AJ [] X.G)).any (·.1)=O':=by rfl):JE X (.Λ (.α o "get" apos) [ek] [] cpos) (tD X.K M H0 (Za OQ fo fk)):=#[(G9 Up PySem.F.slot_dict_get PySem.F.type_dict_get (we G) zA.h (Z2 P.h Ba g) c f e g l).κ λI H Q L=>by
   let(t,d,R,ex,q):=L;let(x,y,N,S,ex):=ar ex;unfold OQ at ex;split at ex
   .next xs=>
    split at ex
    .next m k n p=>
     let(T,ex):=Z0 ex;cases ex;let r:=GN n;subst r;apply#[t,_,R,N,λv H1 z W=>?_];let(a,vs,rfl,B,hd):=W;apply#[.σ<|.inr ⟨rfl,_,_,B⟩,t,y,R.st z,S,λw Y s C=>?_];let(tr,dc,E):=Jp (B.δ s)<|hd.δ s;rw[IA p]at C;let b:=E.y k;apply#[a,tr,k,w,rfl,rfl,dc,E.hom T,HV<|Hg C,q _ Y (z.E s) ?_];cases i:Zx m k with
     |none=>
      rw[i]at b;cases j:Z9 tr k with
      |none=>erw[Option.getD,Aw]
      |some u=>rw[j]at b;show b.Η
     |some d0=>
      rw[i]at b;cases j:Z9 tr k with
      |none=>rw[j]at b;show b.Η
      |some u=>rw[j]at b;show b
    .cases ex
   .cases ex]
end
end Internal
namespace Internal
open PySem PySem.Spec PyProof.Rows
structure IM(P:AM)(w:Aj)(i:Ac)(fp:List Ac)(n:Nat)(is:Nat->Aa->Prop)(st:Nat->Al->Prop):Prop where
 frame:∀k h h',st k h->(∀b,b=i\/b∈fp->∀o,h.R b=Z o->h'.R b=Z o)->st k h'
 lt:∀k h,st k h->i<h.J.o
 item:∀(A:Ag) (E:AR) (s:Ab) (k:Nat) (Q:AR),k<n->st k s.u->(∀v h' tk,is k v->st (k+1) h'->Ee i s.u h'->Q v {s with heap:=h',toks:=tk})->wpAny (Ae P w) A (dt (.I i)) Q E s
 fin:∀(A:Ag) (E:AR) (s:Ab) (k:Nat) (Q:AR),A.ϣ=J->n<=k->st k s.u->(∀h' e,Heap.ExtBut i s.u h'->(∃o,h'.R e=Z o/\o.cls=.ι "StopIteration")->E (.I e) {s with heap:=h' }) ->
  wpAny (Ae P w) A (dt (.I i)) Q E s
section
variable{prog:AM}{w:Aj}{A:Ag}{s:Ab}
theorem du{i f:Ac}{k:Nat}{b:Array Aa}{Q:AR}(h:s.u.xv i f k)(n:s.u.IsTuple f b)(q:∀v,b[k]?=Z v->∀h',h'.xv i f (k+1)->Ee i s.u h'->Q v {s with heap:=h' }) (j:b[k]?=J->A.ϣ=J/\∀h' e,Heap.ExtBut i s.u h'->(∃o,h'.R e=Z o/\o.cls=.ι "StopIteration")->E (.I e) {s with heap:=h' }):wpAny (Ae prog w) A (dt (.I i)) Q E s:=by
 let(u,d,p,c):=id h;let(y,r,_,m1,t):=n;apply Ao<|Mt (name:=J5 "__next__") h.ϛ PySem.F.slot_tuple_iterator_next (Lc PySem.F.slot_tuple_iterator_next h.ϛ PySem.F.entry_tuple_iterator_next ?_<|PySem.F.args_tuple_iterator_next_1 _);change wpAny _ _ (field (.I i) 0 >>= _) _ _ s
 apply Ao<|Ga d c (x:=.I f) rfl ?_;apply Ao<|Ga d c (x:=.r k 0) rfl ?_;apply Ao<|wpAny_seqItems r t ?_;erw[IL];cases g:b[k]? with
 |some v=>
  show Ao<|wpAny_setField d c (by simp)<|AT ⟨v,rfl,AT<|q _ g _ ⟨_,Qf _ d<|Obj.isFreed_of_fields<|UN c _,(Obj.cls_mapFields ..).E p,by rw[UN c];simp[BB]⟩<|Kn ..⟩
 |none=>
  apply Ao<|Gb<|Ao<|wpAny_setField d c (by simp) ?_;apply Ao ?_;apply Ao<|Ld ?_ (show(0:Nat)<=Ay by ext);apply Ao (m:=firstArgMember _ _) (wpAny_of_eq (a:=Value.Δ) (by first|rfl|(unfold firstArgMember;rfl)) ?_);apply Ld ?_ (by size_fits);apply Ao<|wpAny_handled ?_;first|rw[(j g).1]|rw[show A.in1.ϣ=J from(j g).1]
  show Ao<|AT<|wpAny_throw<|(j g).2 _ _ ((Heap.ExtBut.Ο (Heap.SameBut.φ<|Kn ..) _).Ο _) ⟨_,Co _ rfl,rfl⟩
theorem wg{P:AM}{w:Aj}{i l:Ac}{xs:U V}(d:Array Aa)(r:Aq xs d.B):IM P w i [l] xs.a (λk v=>∃x,xs[k]?=Z x/\RelV x v) (λk h=>h.IsListIter i l k/\h.IsList l d) where
 frame:=λk h j ⟨a,b⟩ kp=>#[a.at λo e=>kp i (.Q rfl) o e,b.at λo e=>kp l (.σ (by simp)) o e];lt:=λk h ⟨⟨o,e,_⟩,_⟩=>BN e;item:=λA E s k Q g ⟨a,b⟩ q=>by
  let(u,p,t):=r.Ρ<|Cb g;apply wpAny_nextOf_list_item a b (x:=u) (by exists p) λj y sb=>?_;by_cases f:l=i
  .subst f;let(o,e,c,_):=a;let(B,m,n,_):=b;rw[e]at m;cases m;rw[c]at n;show absurd n (by ext)
  .show q _ j s.Γ #[_,Cb g,t] #[y,b.φ sb.φ f] sb
 fin:=λA E s k Q z g ⟨a,b⟩ q=>wpAny_nextOf_list_end z a b (Array.getElem?_eq_none (by have f:=r.a;simp at f;show le_of_eq_of_le f.τ g)) q
theorem wj{P:AM}{w:Aj}{i l:Ac}{xs:U V}(d:Array Aa)(r:Aq xs d.B):IM P w i [l] xs.a (λk v=>∃x,xs[k]?=Z x/\RelV x v) (λk h=>h.xv i l k/\h.IsTuple l d) where
 frame:=λk h n ⟨a,b⟩ kp=>#[a.at λo e=>kp i (.Q rfl) o e,b.at λo e=>kp l (.σ (by simp)) o e];lt:=λk h ⟨⟨o,e,_⟩,_⟩=>BN e;item:=λA E s k Q j ⟨a,b⟩ q=>by
  let(u,m,y):=r.Ρ<|Cb j;let m:d[k]?=Z u:=by exists m
  apply du a b (λv f n B sb=>?_) λz=>by rw[m]at z;cases z
  rw[m]at f;cases f;by_cases g:l=i
  .subst g;let(o,e,c,_):=a;let(G,p,t,_):=b;rw[e]at p;cases p;rw[c]at t;show absurd t (by ext)
  .show q _ n s.Γ #[_,Cb j,y] #[B,b.at λo e=>sb.φ _ _ g e] sb
 fin:=λA E s k Q C j ⟨a,b⟩ q=>du a b (λv f=>by rw[Array.getElem?_eq_none (by have g:=r.a;simp at g;show le_of_eq_of_le g.τ j)]at f;cases f) λ_=>#[C,q]
def Nc(x:Af):String:=if x.Ϝ.ϭ (·<128)=J' then "str_ascii_iterator" else "str_iterator"
def GR(x:Af):U V:=x.Ϝ.B.j λc=>.ψ #[(T' [c])]
theorem wk{P:AM}{w:Aj}{i:Ac}(x:Af):IM P w i [] (GR x).a (λk v=>∃y,(GR x)[k]?=Z y/\RelV y v) (λk h=>∃t,h.IsStrIter i (Nc x) x t k) where
 frame:=λk h f ⟨t,o,e,r⟩ kp=>#[t,o,kp i (.Q rfl) o e,r];lt:=λk h ⟨t,o,e,_⟩=>BN e;item:=λA E s k Q g ⟨t,a⟩ q=>by
  let b:k<x.Ϝ.o:=by simpa[GR]using g
  unfold Nc at a q;by_cases d:x.Ϝ.ϭ (·<128)=J'
  .rw[if_pos d]at a q;show wpAny_nextOf_ascii_item a (c:=x.Ϝ[k]) (by simp[b]) λf j sb=>q _ f (s.Γ+1) #[.ψ #[(T' [x.Ϝ[k]])],by simp[GR,b],_,rfl] #[t,j] sb
  .rw[if_neg d]at a q;show wpAny_nextOf_wide_item a (c:=x.Ϝ[k]) (by simp[b]) λf j sb=>q _ f (s.Γ+1) #[.ψ #[(T' [x.Ϝ[k]])],by simp[GR,b],_,rfl] #[t,j] sb
 fin:=λA E s k Q l g ⟨t,a⟩ q=>by
  let b:x.Ϝ.o<=k:=by simpa[GR]using g
  unfold Nc at a;by_cases d:x.Ϝ.ϭ (·<128)=J'
  .rw[if_pos d]at a;show wpAny_nextOf_ascii_end l a (by simp[b]) q
  .rw[if_neg d]at a;show wpAny_nextOf_wide_end l a (by simp[b]) q
structure CF(z tin tout ia ib:Ac)(fa fb:List Ac):Prop where
 n1:tin≠z
 n2:tout≠z
 n3:ia≠z
 n4:ib≠z
 n5:tin≠tout
 n6:tin≠ia
 n7:tin≠ib
 n8:tout≠ia
 n9:tout≠ib
 n10:ia≠ib
 fz:∀b,b∈fa\/b∈fb->b≠z/\b≠tout/\b≠ia/\b≠ib
section
variable{z tin tout ia ib:Ac}{fa fb:U Ac}{n m k:Nat}{isB:Nat->Aa->Prop}{sa sb:Nat->Al->Prop}{a b:Aa}
theorem CF.keepA(D:CF z tin tout ia ib fa fb)(f:IM prog w ia fa n isA sa){h h':Al}(st:sa k h){c:Ac}(d:c=z\/c=tout\/c=ib)(a:Ee c h h'):sa k h':=f.frame k h h' st λx b o e=>by
  apply a.φ x o ?_ e;rcases b with rfl|b
  .rcases d with rfl|rfl|rfl
   .show D.n3
   .show BM D.n8
   .show D.n10
  .let(g,i,q3,j):=D.fz x<|.Q b;rcases d with rfl|rfl|rfl
   .show g
   .show i
   .show j
theorem CF.keepB(D:CF z tin tout ia ib fa fb)(SB:IM prog w ib fb n isB sb){h h':Al}(st:sb k h){c:Ac}(d:c=z\/c=tout\/c=ia)(a:Ee c h h'):sb k h':=SB.frame k h h' st λx b o e=>by
  apply a.φ x o ?_ e;rcases b with rfl|b
  .rcases d with rfl|rfl|rfl
   .show D.n4
   .show BM D.n9
   .show BM D.n10
  .let(f,g,q3,i):=D.fz x<|.σ b;rcases d with rfl|rfl|rfl
   .show f
   .show g
   .show q3
theorem dy{Q:O Aa->Ab->Prop}(D:CF z tin tout ia ib fa fb)(h:IM prog w ia fa n isA sa)(SB:IM prog w ib fb m isB sb)
  (hz:IsZip s.u z tin tout .Δ) (hi:IsPair s.u tin (.I ia) (.I ib)) (ho:IsPair s.u tout a b) (ha:sa k s.u) (hb:sb k s.u)
  (q:k<n->k<m->∀x y h' l,isA k x->isB k y->IsZip h' z tin tout (BB s.u.J.o)->IsPair h' tout x y->sa (k+1) h'->sb (k+1) h'->IsPair h' s.u.J.o x y->h'.J.o=s.u.J.o+1 ->
   (∀c o,c≠z->c≠tout->c≠ia->c≠ib->s.u.R c=Z o->h'.R c=Z o)->Q (Z (.I s.u.J.o)) {s with heap:=h',toks:=l})
  (M:n<=k\/m<=k->A.ϣ=J/\∀h' l,(∀c o,c≠z->c≠tout->c≠ia->c≠ib->s.u.R c=Z o->h'.R c=Z o)->Q J {s with heap:=h',toks:=l}):
  wpAny (Ae prog w) A (pyNext (.I z)) Q E s:=by
 let i:n<=k\/m<=k->∀(h':Al) (l:Nat) (e:Ac),(∀c o,c≠z->c≠tout->c≠ia->c≠ib->s.u.R c=Z o->h'.R c=Z o)->(∃o,h'.R e=Z o/\o.cls=.ι "StopIteration") ->
   wpAny (Ae prog w) A (do if(<- isInstance (.I e) (.ι "StopIteration"))=J' then Am (J:O Aa)else throw (DJ e)) Q E {s with heap:=h',toks:=l}:=λkn h' l e kp ⟨o,f,c1⟩=>
  Ao (wpAny_isInstance (T:="StopIteration") (b:=J') #[o,f,c1] isSubtype_stop (AT ((M kn).2 h' l kp)))
 apply Ao (OG (Mt (name:=J5 "__next__") #[_,hz,rfl] PySem.F.slot_zip_next (Lc PySem.F.slot_zip_next #[_,hz,rfl] PySem.F.entry_zip_next ?_ (PySem.F.args_zip_next_1 _))))
 change wpAny _ _ (field (.I z) 2 >>= _) _ _ _
 apply Ao (Ga hz rfl (x:=.ϥ O') rfl ?_)
 apply Ao (Ga hz rfl (x:=.I tin) rfl ?_)
 apply Ao (wpAny_seqItems hi rfl ?_)
 apply Ao ?_
 apply Ao (Ga hz rfl (x:=.Δ) rfl (AT ?_))
 apply Ao (Gb ?_)
 apply Ao (Ga hz rfl (x:=.I tout) rfl ?_)
 apply Ao (IN hz (by simp) λg1 S b1=>?_)
 apply Ao ?_
 apply Ao (Ao (wpAny_onRaise ?_))
 by_cases B:n<=k
 .apply Ao (h.fin A.in1 _ _ k _ (M (.Q B)).1 B (D.keepA h ha (.Q rfl) b1) λg2 e N P=>?_)
  let(R,f,c1):=P
  show IN (N _ _ (BM D.n3) S) (by simp) λY _ d=>i (.Q B) Y s.Γ e (λc o c1 _ p _ x=>d.φ _ _ c1 (N _ _ p (b1.φ _ _ c1 x))) #[R,d.φ _ _ (λx=>by subst x;rw[N _ _ (BM D.n3) S]at f;cases f;simp at c1) f,c1]
 .apply Ao (h.item _ _ _ k _ (LL B) (D.keepA h ha (.Q rfl) b1) λx g2 tk2 hx a2 r=>AT ?_)
  let o2:IsPair g2 tout a b:=r.φ _ _ D.n8 (b1.φ _ _ D.n2 ho)
  apply Ao (wpAny_seqItems o2 rfl ?_)
  apply Ao (wpAny_updateSeq_pair o2 λY o3 d=>?_)
  apply Ao (wpAny_letGo (AT ?_))
  apply Ao (Ao (wpAny_onRaise ?_))
  let C:sb k Y:=D.keepB SB (D.keepB SB (D.keepB SB hb (.Q rfl) b1) (.σ (.σ rfl)) r) (.σ (.Q rfl)) d
  by_cases G:m<=k
  .apply Ao (SB.fin A.in1 _ _ k _ (M (.σ G)).1 G C λg4 e x4 P=>?_)
   let(R,f,c1):=P
   let z4:IsZip g4 z tin tout .ellipsis:=x4 _ _ (BM D.n4) (d.φ _ _ (BM D.n2) (r.φ _ _ (BM D.n3) S))
   show IN z4 (by simp) λg _ j=>i (.σ G) g tk2 e (λc o c1 c2 p H x=>j.φ _ _ c1 (x4 _ _ H (d.φ _ _ c2 (r.φ _ _ p (b1.φ _ _ c1 x))))) #[R,j.φ _ _ (λx=>by subst x;rw[z4]at f;cases f;simp at c1) f,c1]
  .apply Ao (SB.item _ _ _ k _ (LL G) C λy g4 tk4 hy a4 u=>AT ?_)
   apply Ao (wpAny_seqItems (u.φ _ _ D.n9 o3) rfl ?_)
   apply Ao (wpAny_updateSeq_pair (u.φ _ _ D.n9 o3) λg K j=>?_)
   let K:IsPair g tout x y:=K
   apply Ao (wpAny_letGo (AT (AT ?_)))
   apply Ao (wpAny_seqItems K rfl ?_)
   apply Ao (wpAny_newTuple ?_)
   let sz:g.J.o=s.u.J.o:=by rw[j.1,u.1,d.1,r.1,b1.1]
   let z5:IsZip g z tin tout .ellipsis:=j.φ _ _ (BM D.n2) (u.φ _ _ (BM D.n4) (d.φ _ _ (BM D.n2) (r.φ _ _ (BM D.n3) S)))
   let kp:∀c o,c≠z->c≠tout->c≠ia->c≠ib->s.u.R c=Z o->g.R c=Z o:=λc o c1 c2 p H e=>
    j.φ _ _ c2 (u.φ _ _ H (d.φ _ _ c2 (r.φ _ _ p (b1.φ _ _ c1 e))))
   apply Ao ?_
   apply Ao (IN (BC _ z5) (by simp) λg7 z7 b7=>?_)
   apply IN z7 (by simp) λv z8 b8=>?_
   let L:∀c o,c≠z->g.R c=Z o->v.R c=Z o:=λc o c1 e=>b8.φ _ _ c1 (b7.φ _ _ c1 (BC _ e))
   let new:IsPair v g.J.o x y:=b8.φ _ _ (Ja (BN z5)) (b7.φ _ _ (Ja (BN z5)) (Co _ rfl))
   let s8:v.J.o=g.J.o+1:=by rw[b8.1,b7.1,K9]
   let a8:sa (k+1) v:=h.frame _ _ _ (D.keepA h (D.keepA h (D.keepA h a2 (.σ (.Q rfl)) d) (.σ (.σ rfl)) u) (.σ (.Q rfl)) j) λc t o e=>L c o (by
    rcases t with rfl|t
    .show D.n3
    .show(D.fz c (.Q t)).1) e
   let b8':sb (k+1) v:=SB.frame _ _ _ (D.keepB SB a4 (.σ (.Q rfl)) j) λc t o e=>L c o (by
    rcases t with rfl|t
    .show D.n4
    .show(D.fz c (.σ t)).1) e
   rw[sz]at z8 new s8
   apply AT #[_,rfl,AT ?_]
   rw[sz]
   show q (LL B) (LL G) x y v tk4 hx hy z8 (L _ _ D.n2 K) a8 b8' new s8 λc o c1 c2 p H e=>L c o c1 (kp c o c1 c2 p H e)
end
end
inductive AN where
 |l (a:Ac)
 |t (a:Ac)
 |x (s:Af)
@[reducible] def AN.v:AN->V
  |.l a=>.I a
  |.t a=>.I a
  |.x s=>.ψ s
@[reducible] def AN.fp:AN->U Ac
  |.l a=>[a]
  |.t a=>[a]
  |.x _=>[]
def AN.sq(K:Ap)(H:Hp):AN->U V->Prop
 |.l a=>BW K H a
 |.t a=>Cg K H a
 |.x s=>λb=>b=GR s
def AN.nm:AN->String
 |.l _=>"list_iterator"
 |.t _=>"tuple_iterator"
 |.x s=>Nc s
def AN.ok(h:Al)(xs:U V):AN->Prop
 |.l a=>∃b:Array Aa,Aq xs b.B/\h.IsList a b
 |.t a=>∃b:Array Aa,Aq xs b.B/\h.IsTuple a b
 |.x s=>xs=GR s
def AN.it(h:Al)(i:Ac)(k:Nat):AN->Prop
 |.l a=>h.IsListIter i a k
 |.t a=>h.xv i a k
 |.x s=>∃t,h.IsStrIter i (Nc s) s t k
theorem AN.of(S:AN){c:AZ}{H:Hp}{s:Ab}{xs:U V}(d:Inv X c I H s)(h:S.sq X.K H xs):S.ok s.u xs:=by
 cases S with
 |l a=>let(b,r,p,z):=d.Ϩ h;show#[b.C,r,p.ϑ]
 |t a=>let(b,r,p,z):=d.ϗ h;show#[b.C,r,(show s.u.IsTuple a b.C from p)]
 |x s=>show h
theorem AN.inj(S:AN){b:AZ}{H:Hp}{s:Ab}{xs:U V}(c:Inv X b I H s)(h:S.sq X.K H xs)(h':S.sq X.K H ys):xs=ys:=by
 cases S with
 |l a=>show c.list_inj h h'
 |t a=>show c.tuple_inj h h'
 |x s=>show(show xs=GR s from h).E (show ys=GR s from h').τ
theorem AN.lt(S:AN){h:Al}{xs:U V}(p:S.ok h xs):∀b∈S.fp,b<h.J.o:=by
 intro b c;cases S with
 |l a=>rw[Ca.mp c];let(d,_,o,e,_):=p;show BN e
 |t a=>rw[Ca.mp c];let(d,_,o,e,_):=p;show BN e
 |x s=>cases c
theorem AN.okAt(S:AN){h h':Al}{xs:U V}(p:S.ok h xs)(k:∀b∈S.fp,∀o,h.R b=Z o->h'.R b=Z o):S.ok h' xs:=by
 cases S with
 |l a=>let(c,r,q):=p;show#[c,r,Heap.IsList.at q<|k a (by simp)]
 |t a=>let(c,r,q):=p;show#[c,r,Heap.IsTuple.at q<|k a (by simp)]
 |x s=>show p
theorem AN.itAt(S:AN){h h':Al}{i:Ac}{n:Nat}(p:S.it h i n)(k:∀o,h.R i=Z o->h'.R i=Z o):S.it h' i n:=by
 cases S with
 |l a=>show Heap.IsListIter.at p k
 |t a=>show Heap.xv.at p k
 |x s=>let(t,o,e,r):=p;show#[t,o,k o e,r]
theorem AN.itOb(S:AN){h:Al}{i:Ac}{n:Nat}(p:S.it h i n):∃o,h.R i=Z o/\∀v,o.data≠.Ν v:=by
 cases S with
 |l a=>let(o,e,c,d):=p;show#[o,e,λv z=>by rw[d]at z;cases z]
 |t a=>let(o,e,c,d):=p;show#[o,e,λv z=>by rw[d]at z;cases z]
 |x s=>let(t,o,e,c,d):=p;show#[o,e,λv z=>by rw[d]at z;cases z]
theorem AN.sub(S:AN){P:AM}{w:Aj}{i:Ac}{h:Al}{xs:U V}(p:S.ok h xs):∃st:Nat->Al->Prop,IM P w i S.fp xs.a (λk v=>∃x,xs[k]?=Z x/\RelV x v) st/\(∀k,S.it h i k->st k h)/\∀k h',st k h'->S.it h' i k:=by
 cases S with
 |l a=>let(b,r,q):=p;show#[_,wg b r,λk e=>#[e,q],λk h' e=>e.1]
 |t a=>let(b,r,q):=p;show#[_,wj b r,λk e=>#[e,q],λk h' e=>e.1]
 |x s=>rw[show xs=GR s from p];show#[_,wk s,λk e=>e,λk h' e=>e]
def AN.obj(S:AN)(u:Aa):Obj:={cls:=.ι S.nm,data:=.ϝ (T' [u,.r 0 0])}
open J in
theorem AN.pyIter(S:AN){prog:AM}{w:Aj}{A:Ag}{E:AR}{s:Ab}{xs:U V}{u:Aa}(c:RelV S.v u){Q:AR}(p:S.ok s.u xs) (q:Q (.I s.u.J.o) {s with heap:=s.u.Ο (S.obj u)}):wpAny (Ae prog w) A (pyIter u) Q E s:=by
 cases S with
 |l a=>let(d,r,p):=p;let e:u=.I a:=c;subst e;show P5 p q
 |t a=>let(d,r,p):=p;let e:u=.I a:=c;subst e;show wpAny_pyIter_tuple p q
 |x x=>
  let(t,rfl):=(show ∃t,u=Value.ψ x t from c);unfold AN.obj AN.nm Nc at q;by_cases b:x.Ϝ.ϭ (·<128)=J'
  .erw[b,if_true]at q;show wpAny_pyIter_ascii b q
  .erw[b,if_false]at q;show wpAny_pyIter_wide (by exists b) q
theorem AN.new(S:AN){h:Al}(b:RelV S.v u):S.it (h.Ο (S.obj u)) h.J.o 0:=by
 cases S with
 |l a=>have e:u=.I a:=b;subst e;show#[_,Co _ rfl,rfl,rfl]
 |t a=>have e:u=.I a:=b;subst e;show#[_,Co _ rfl,rfl,rfl]
 |x x=>let(t,rfl):=(show ∃t,u=Value.ψ x t from b);show#[t,_,Co _ rfl,rfl,rfl]
@[reducible] def OR(h:Al)(A:AN)(u:Aa):Al:=h.Ο (A.obj u)
@[reducible] def OS(h:Al)(A B:AN)(u v:Aa):Al:=(OR h A u).Ο (B.obj v)
@[reducible] def QX(h:Al)(A B:AN)(u v:Aa):Al:=(OS h A B u v).Ο {cls:=.ι "tuple",data:=.Ϲ (T' [.I h.J.o,.I (OR h A u).J.o])}
@[reducible] def QY(h:Al)(A B:AN)(u v:Aa):Al:=(QX h A B u v).Ο {cls:=.ι "tuple",data:=.Ϲ (T' [.Δ,.Δ])}
@[reducible] def Nd(h:Al)(A B:AN)(u v:Aa):Al:=(QY h A B u v).Ο {cls:=.ι "zip",data:=.ϝ (T' [.Δ,.ϥ O',.ϥ O',.I (OS h A B u v).J.o,.I (QX h A B u v).J.o])}
theorem wl(A B:AN){v:Aa}(a:RelV A.v u)(c:RelV B.v v)(xs ys:U V):Meets (Gg.«zip.__new__» #[[.ι "zip",u,v],[]]) (λ_ R s=>A.ok s.u xs/\B.ok s.u ys/\R (.ok (.ϸ (.I (QY s.u A B u v).J.o))) {s with heap:=Nd s.u A B u v}):=.of_wp λprog w j R s h=>by
  let(k,g,d,l,os):=s;let(f,i,q):=h;let m:=sub_zip;wp_walk using A.pyIter a f,B.pyIter c<|B.okAt i λb _ o e=>BC _ e;show#[_,rfl,q]
section
variable{prog:AM}{w:Aj}{A:Ag}{s:Ab}
theorem wm{S T:AN}{xs:U V}{v:Aa}(i:RelV S.v u)(j:RelV T.v v){Q:AR}(p1:S.ok s.u xs)(p:T.ok s.u ys) (q:∀h',IsZip h' (s.u.J.o+4) (s.u.J.o+2) (s.u.J.o+3) .Δ->IsPair h' (s.u.J.o+2) (.I s.u.J.o) (.I (s.u.J.o+1))->IsPair h' (s.u.J.o+3) .Δ .Δ->S.it h' s.u.J.o 0->T.it h' (s.u.J.o+1) 0->(∀c o,s.u.R c=Z o->h'.R c=Z o)->Q (.I (s.u.J.o+4)) {s with heap:=h' }):wpAny (Ae prog w) A (call (.ι "zip") [u,v]) Q E s:=by
 apply callType_new PySem.F.called_zip (by ext) (PySem.F.typeCall_zip_2 _ _) (PySem.F.newCall_zip_2 _ _) (λobj=>PySem.F.args_object_init_3 obj _ _) PySem.F.entry_zip_new (wl S T i j xs ys) #[p1,p,?_];let a:(OR s.u S u).J.o=s.u.J.o+1:=K9 ..;let b:(OS s.u S T u v).J.o=s.u.J.o+2:=by rw[K9,a]
 let d:(QX s.u S T u v).J.o=s.u.J.o+3:=by rw[K9,b]
 let k:(QY s.u S T u v).J.o=s.u.J.o+4:=by rw[K9,d]
 let f:(Nd s.u S T u v).R (QY s.u S T u v).J.o=Z _:=Co _ rfl;let l:(Nd s.u S T u v).R (QX s.u S T u v).J.o=Z _:=BC _<|Co _ rfl;let m:(Nd s.heap S T u v).get? (OS s.heap S T u v).objs.size=Z _:=BC _<|BC _<|Co _ rfl;let g:∀c o,(OS s.heap S T u v).get? c=Z o->(Nd s.heap S T u v).get? c=Z o:=λc o e=>BC _<|BC _<|BC _ e;let n:T.it (Nd s.heap S T u v) (OR s.heap S u).objs.size 0:=T.itAt (T.new (h:=OR s.heap S u) j) λo e=>g _ o e;rw[b,d,k]at f;rw[a,b]at m;rw[d]at l;rw[a]at n;rw[k];show#[#[_,f,rfl],q _ f m l (S.itAt (S.new (h:=s.u) i) λo e=>g _ o<|BC _ e) n λc o e=>g _ _<|BC _<|BC _ e]
end
def dz(K:Ap)(S T:AN):It:=
 #[λi H=>∃a b x y,S.sq K H a/\T.sq K H b/\a[i]?=Z x/\b[i]?=Z y,
  λi H v c=>∃p x y,v=.I p/\H p=J/\c=AK H p (.X [x,y])/\(∀a,S.sq K H a->a[i]?=Z x)/\∀b,T.sq K H b->b[i]?=Z y,
  λi H=>∃a b,S.sq K H a/\T.sq K H b/\(a.a<=i\/b.a<=i)]
theorem dA{n:Nat}{S T:AN}(a:∀b∈S.fp,b<n)(c:∀b∈T.fp,b<n):CF (n+4) (n+2) (n+3) n (n+1) S.fp T.fp where
 n1:=by(show @Ne Nat _ _;show W.Z.off_ne n 2 4 rfl)
 n2:=by(show @Ne Nat _ _;show W.Z.off_ne n 3 4 rfl)
 n3:=by(show @Ne Nat _ _;lia)
 n4:=by(show @Ne Nat _ _;show W.Z.off_ne n 1 4 rfl)
 n5:=by(show @Ne Nat _ _;show W.Z.off_ne n 2 3 rfl)
 n6:=by(show @Ne Nat _ _;lia)
 n7:=by(show @Ne Nat _ _;show W.Z.off_ne n 2 1 rfl)
 n8:=by(show @Ne Nat _ _;lia)
 n9:=by(show @Ne Nat _ _;show W.Z.off_ne n 3 1 rfl)
 n10:=by(show @Ne Nat _ _;show Nat.ne_add_one n)
 fz:=λb d=>by
  grind
theorem wn{P:AM}{w:Aj}{K:Ap}{m:U Expr} {x1} (S T:AN) (n:Nat) (h1:∀b∈S.fp,b<n) (h2:∀b∈T.fp,b<n):
  Im P w K (.Tuple m x1 pos) (dz K S T) [n+4,n+2,n+3,n,n+1] (n+4) (λi h=>IsZip h (n+4) (n+2) (n+3) .Δ/\IsPair h (n+2) (.I n) (.I (n+1))/\(∃a b,IsPair h (n+3) a b)/\S.it h n i/\T.it h (n+1) i) where
 mem:=by simp
 obj:=λi h z0 q f=>by
  let(z,a,(x,y,b),c,d):=z0
  erw[Bx,MN,or_false]at f
  rcases f with rfl|rfl|rfl|rfl|rfl
  .show#[_,z,λv e=>nomatch (show Data.ϝ _=Data.Ν v from e)]
  .show#[_,a,λv e=>nomatch (show Data.Ϲ _ _=Data.Ν v from e)]
  .show#[_,b,λv e=>nomatch (show Data.Ϲ _ _=Data.Ν v from e)]
  .show S.itOb c
  .show T.itOb d
 keep:=λi h t ⟨z,a,⟨x,y,b⟩,c,d⟩ k=>#[k _ (by simp) _ z,k _ (by simp) _ a,#[x,y,k _ (by simp) _ b],S.itAt c λo e=>k _ (by simp) o e,T.itAt d λo e=>k _ (by simp) o e]
 item:=by
  intro X F L M hc i g s I H E zB A #[z,a,#[u,v,b],c,d] #[xs,ys,x,y,B,C,ex,N]
  subst F L M
  let(sa,R,c1,c2):=S.sub (P:=X.β) (w:=X.w) (i:=n) (S.of zB B)
  let(sb,SB,Q,d2):=T.sub (P:=X.β) (w:=X.w) (i:=n+1) (T.of zB C)
  let l1:=(Cr.mp ex).1
  let l2:=(Cr.mp N).1
  apply dy (dA h1 h2) R SB z a b (c1 _ c) (Q _ d) (λ_ _ x' y' t G zA Y z' to' c' d' new sz kp=>?_) λhl=>absurd hl ∅
  let(x2,p,ru1):=zA
  let(y2,r,ru2):=Y
  rw[ex]at p;cases p
  rw[N]at r;cases r
  apply#[_,rfl,wpAny_letOwnedTupleGo_zip z' λj z2 sb=>?_]
  let hlt:n+4<s.u.J.o:=BN z
  let l:∀q o,q≠n+4->t.R q=Z o->j.R q=Z o:=λq o f e=>sb.φ _ _ f e
  let I1:Inv X g I (AK H s.u.J.o (.X [x,y])) {s with heap:=j,toks:=G}:=by
   apply Inv.tok (s:={s with heap:=j}) ?_ G
   show zB.yielded A (λq o f e=>l q o (λz=>f (by simp[z])) (kp q o (λz=>f (by simp[z])) (λz=>f (by simp[z])) (λz=>f (by simp[z])) (λz=>f (by simp[z])) e)) (AX _) #[show 2<=Ay by ext,[x',y'],.Θ ru1 (.Θ ru2 .ϔ),#[_,l _ _ (by(show @Ne Nat _ _;show BM (Cf hlt))) new,rfl,_,rfl]]
  apply#[.I s.u.J.o,_,I1,rfl,#[_,x,y,rfl,zB.Ϫ.Ψ (AX _),rfl,λzs hz=>S.inj zB hz B ▸ ex,λzs hz=>T.inj zB hz C ▸ N],#[z2,l _ _ (by(show @Ne Nat _ _;show W.Z.off_ne n 2 4 rfl)) (kp _ _ (by(show @Ne Nat _ _;show W.Z.off_ne n 2 4 rfl)) (by(show @Ne Nat _ _;show W.Z.off_ne n 2 3 rfl)) (by(show @Ne Nat _ _;lia)) (by(show @Ne Nat _ _;show W.Z.off_ne n 2 1 rfl)) a),#[x',y',l _ _ (by(show @Ne Nat _ _;show W.Z.off_ne n 3 4 rfl)) to'],S.itAt (c2 _ _ c') λo e=>l _ o (by(show @Ne Nat _ _;lia)) e,T.itAt (d2 _ _ d') λo e=>l _ o (by(show @Ne Nat _ _;lia)) e],λq f=>?_]
  rw[Zl]
  .show(A q f).1
  .erw[Bx,MN,or_false]at f
   rcases f with rfl|rfl|rfl|rfl|rfl<;>(show @Ne Nat _ _;lia)
 done:=by
  intro X F L M hc i g s I H E zB A #[z,a,#[u,v,b],c,d] #[xs,ys,B,C,hl]
  subst F L M
  let(sa,R,c1,c2):=S.sub (P:=X.β) (w:=X.w) (i:=n) (S.of zB B)
  let(sb,SB,Q,d2):=T.sub (P:=X.β) (w:=X.w) (i:=n+1) (T.of zB C)
  show dy (dA h1 h2) R SB z a b (c1 _ c) (Q _ d) (λz1 z2=>absurd hl ∅) λ_=>#[zB.ok.hd hc,λt G kp=>#[rfl,Inv.tok (s:={s with heap:=t}) (zB.turnedL A λq o f e=>kp q o (λz=>f (by simp[z])) (λz=>f (by simp[z])) (λz=>f (by simp[z])) (λz=>f (by simp[z])) e) G]]
 self:=λ_ _ _ _ _ ⟨z,_⟩ q=>wpAny_pyIter_zip z q
theorem wp:Fp "zip"=Z (.ι "zip"):=by symm
@[simp]def Hk:D->A7
  |.lst a=>Z a
  |.tup a=>Z a
  |.str s=>Z (s.Ϝ.B.j λc=>.ψ #[(T' [c])])
  |_=>J
theorem UQ{K:Ap}{M N:Fb}{H:Hp}{d:D}{v:V}(h:Qq K M N H d v)(e:Hk d=Z xs):∃(S:AN) (vs:U V),v=S.v/\Ad K N H xs vs/\∀g f,Step M N g H f->S.sq K f vs:=by
 cases d with
 |lst k m=>
  cases m with
  |d=>cases e
  |i _ _=>cases e
  |l=>
  cases e;let(a,vs,j,b,hd):=h;apply#[.l a,vs,j,hd,λg f S=>?_];rcases b with⟨n,b⟩|b
  .show .Q<|b.Τ S (by rcases n with z|z;show .Q z;show .σ<|.Q z)
  .show b.sq
 |tup k=>
  cases e;let(a,vs,j,b,hd):=h;show#[.t a,vs,j,hd,λg f S=>b.Τ S]
 |str s=>
  cases e;apply#[.x s,GR s,h,?_,λ_ _ _=>rfl];unfold GR;generalize s.Ϝ.B=l;induction l with
  |nil=>show Ad.ϔ
  |cons c l o=>show Ad.Θ (by erw[Aw]) o
 |_=>cases e
@[simp]def FE(f g:AG):VE->A7:=λa=>match(f a).L Hk,(g a).L Hk with
  |some b,Z c=>Z (Hl (λx y=>D.X [x,y]) b c)
  |_,_=>J
theorem wq{K:Ap}{M N:Fb}{H:Hp}{S T:AN}{ys:U D}{us:U V}(h:Ad K N H xs us)(j:Ad K N H ys vs)(n:∀c b,Step M N c H b->S.sq K b us)(o:∀c b,Step M N c H b->T.sq K b vs):MC K M N H (dz K S T) (Hl (λx y=>D.X [x,y]) xs ys):=λc b St i=>by
 let e:=n _ _ St;let f:=o _ _ St;apply#[λd a=>?_,λa=>#[us,vs,e,f,?_]]
 .rw[List.getElem?_zipWith]at a;cases ex:xs[i]? with|none=>rw[ex]at a;cases a|some x=>
   cases g:ys[i]? with|none=>rw[ex,g]at a;cases a|some y=>
    rw[ex,g]at a;cases a;let(u,k,q):=(Ad.Τ St _ _ h).Ρ ex;let(v,l,r):=(Ad.Τ St _ _ j).Ρ g;apply#[#[us,vs,u,v,e,f,k,l],λz C s=>?_];let(p,E,G,t,m,w,A,B):=s;have:=A us e;rw[k]at this;cases this;have:=B vs f;rw[l]at this;cases this;subst t w;show#[aj m,Ob m<|Ad.Θ q<|Ad.Θ r Ad.ϔ]
 .let l1:=h.a;let F:=j.a;erw[List.length_zipWith]at a;lia
section
variable{M:Fb}{f g:AG}{a b:Expr}{p tpos:AB}
open J in
theorem wr {x1} (hg:Gl X "zip") (hm:X.mg "zip"=J) (E:JE X a (tQ X.K M H0 f)) (l:JE X b (tQ X.K M H0 g)) (Y:AJ [a,b] X.G=[(O',Ar a X.G),(O',Ar b X.G)]:=by rfl) (c:AJ [b] X.G=[(O',Ar b X.G)]:=by rfl) (G:AJ [] X.G=[]:=by rfl):JI X (.Tuple elts x1 tpos) (.Λ (.ε "zip" p) [a,b] [] pos) (tI X.K M H0 (FE f g)):=#[have E:=E.h;let l:=l.h;by
 intro o s t H Q zA #[d,ds,R,e,q];unfold FE at e;split at e
 .next xs ys ex y=>
  cases e;cases F:f d with|none=>rw[F]at ex;cases ex|some d1=>
   cases i:g d with|none=>rw[i]at y;cases y|some d2=>
    rw[F]at ex;rw[i]at y;apply Call_<|Il zA hg hm wp<|NH (A1 ((Z2 E (Z2 l Ba (by rw[c,G])) (by rw[Y,c])) pos o s t H (λvs m=>∃S T u w,vs=[AN.v S,AN.v T]/\Ak H m/\Ad X.K (Nf M d t) m xs u/\Ad X.K (Nf M d t) m ys w/\(∀A n,Step M (Nf M d t) A m n->S.sq X.K n u)/\∀A n,Step M (Nf M d t) A m n->T.sq X.K n w) zA ?_) λu L ⟨vs,H1,x,r1,N⟩=>?_) (by rw[Y,c]) (by rw[c];rfl)
    .apply#[d,d1,R,F,λv1 H1 z1 N=>#[d,d2,R.st z1,i,λv2 m P q2=>?_]];let(S,u,e1,j,B):=UQ N ex;let(T,w,e2,k,C):=UQ q2 y;show#[S,T,u,w,by rw[e1,e2],z1.E P,j.δ P,k,λA n St=>B _ _<|(Step.ώ P).E St,C]
    .let(S,T,us',w,rfl,z,j,k,B,C):=N;cases r1 with
     |cons r W=>
      cases W with
      |cons r' W=>
       cases W;let o1:=S.of x<|B _ _ Step.refl;let o2:=T.of x<|C _ _ Step.refl;apply wm r r' o1 o2 λh' a1 a2 a3 a4 a5 kp=>wpAny_pyIter_zip a1 ?_;apply#[_,_,_,_,H1,rfl,x.ϱ (t':=L.Γ) kp,wn S T L.u.J.o (S.lt o1)<|T.lt o2,⟨a1,a2,⟨_,_,a3⟩,a4,a5⟩,λb l=>?_,q _ _ z<|wq j k B C];let hl:L.u.J.o<=b:=by
        erw[Bx,MN,or_false]at l;rcases l with rfl|rfl|rfl|rfl|rfl<;>(show @LE.le Nat _ _ _;lia)
       show x.fpOk hl<|x.Ϫ.Ψ hl
 .cases e]
end
open PySem.W
abbrev ZL:=U (KT×U D)
def GU:ZL->KT->D->ZL
 |[],k,d=>[(k,[d])]
 |t::r,k,d=>if t.1=k then(t.1,t.2++[d])::r else t::GU r k d
def Jz(a:ZL):By:=a.j λz=>(z.1,.O z.2)
def UR(k:KT)(a:ZL):Bool:=a.ϭ λz=>El z.1==El k
def QZ(b c:AG)(ρ:VE)(a:ZL):O ZL:=match b ρ,c ρ with
 |some y,Z d=>match Dq y with
  |some k=>if UR k a=J' then gd (a.a<Ay/\∀z∈a,z.2.a<Ay) (Z (GU a k d))else J
  |none=>J
 |_,_=>J
def JC(k:Nat)(b:D->VE->O VE)(g h:AG):U D->VE->ZL->O (VE×ZL)
 |[],c,e=>Z (c,e)
 |d::i,c,e=>match b d c with
  |some a=>match a[k]?,LU a with
   |some .no,J'=>(QZ g h a e).L λf=>JC k b g h i a f
   |_,_=>J
  |none=>J
def Q0(k:Nat)(f:VE->A7)(b:D->VE->O VE)(a c:AG)(ρ:VE):DB:=match ρ[k]?,f ρ with
 |some (.own [] .d J),Z e=>if LU ρ=J' then(match JC k b a c e (ρ.ν k .no) []with
  |some p=>.U (p.1.ν k (.Κ (Zb (Jz p.2)) .d))
  |none=>.Ω)else .Ω
 |_,_=>.Ω
structure Q4 where
 k:KT
 kv:V
 b:Ac
 z:List D
def q3(q:Q4):T3:=(q.k,q.kv,.I q.b)
def qz(q:Q4):KT×U D:=(q.k,q.z)
def Hm:U Q4->KT->D->U Q4
 |[],_,_=>[]
 |q::r,k,d=>if q.k=k then{q with z:=q.z++[d]}::r else q::Hm r k d
theorem dB(k:KT)(d:D):∀qs:U Q4,(Hm qs k d).j Q4.b=qs.j Q4.b/\(Hm qs k d).j Q4.k=qs.j Q4.k/\(Hm qs k d).j q3=qs.j q3
 |[]=>#[rfl,rfl,rfl]
 |q::r=>by
  let(a,c,e):=dB k d r;unfold Hm;split
  .show#[rfl,rfl,rfl]
  .erw[AU,a,c,e];show#[trivial,trivial,trivial]
theorem US{k:KT}{d:D}:∀{qs:U Q4},k∈qs.j Q4.k->(Hm qs k d).j qz=GU (qs.j qz) k d
 |[],h=>nomatch h
 |q::r,h=>by
  unfold Hm;split
  .grind [GU,qz]
  .next e=>
   have:k∈r.j Q4.k:=by
    grind
   erw[AU,GU];rw[US this,if_neg (show ¬ (qz q).1=k from e)]
theorem dC{k:KT}{d:D}:∀{qs:U Q4},k∉qs.j Q4.k->GU (qs.j qz) k d=qs.j qz++[(k,[d])]
 |[],_=>rfl
 |q::r,h=>by
  erw[AU,Bx,not_or]at h;erw[AU,GU,GF];rw[if_neg (show ¬ (qz q).1=k from λz=>h.1 z.τ),dC h.2]
theorem dE{k:KT}{d:D}:∀{qs:U Q4},(qs.j Q4.k).η->∀c∈Hm qs k d,(c∈qs/\c.k≠k)\/∃q∈qs,q.k=k/\c={q with z:=q.z++[d]}
 |[],_,_,h=>nomatch h
 |q::r,nd,c,h=>by
  erw[AU,Eu]at nd;unfold Hm at h;split at h
  .next e=>
   rcases Bx.mp h with z|z
   .show .σ #[q,Bh,e,z]
   .show .Q #[Bl _ z,λf=>nd.1 (by rw[e,<- f];show FG z)]
  .next e=>
   rcases Bx.mp h with z|z
   .rw[z];show .Q #[Bh,e]
   .rcases dE nd.2 c z with⟨a,b⟩|⟨g,a,b⟩
    .show .Q #[Bl _ a,b]
    .show .σ #[g,Bl _ a,b]
theorem D3{k:KT}:∀{qs:U Q4},(∀v,Z9 (qs.j q3) k=Z v->∃q∈qs,q.k=k/\v=.I q.b)/\(Z9 (qs.j q3) k=J->k∉qs.j Q4.k)
 |[]=>#[λ_ h=>(nomatch h),λ_ h=>nomatch h]
 |q::r=>by
  let(c,i2):=D3 (k:=k) (qs:=r);erw[AU,Z9];apply#[λv h=>?_,λh=>?_]
  .split at h
   .next e=>cases h;show#[q,Bh,e,rfl]
   .let(d,a,b):=c v h;show#[d,Bl _ a,b]
  .split at h
   .cases h
   .next e=>show λz=>(Bx.mp z).Η (λz=>e z.τ) (i2 h)
theorem BJ.step{K:Ap}{M N b:Fb}{H:Hp}(S:Step M N b H H'){k:KT}{v:V}(h:BJ K H k v):BJ K H' k v:=by
 cases k with
 | «at» a=>show h
 |tup l=>let(p,e,q):=h;show#[p,e,q.Τ S]
theorem wt{K:Ap}{N:Fb}{H:Hp}{k:KT}{v:V}(h:BJ K H k v):Aw K N H (kD k) v:=by
 let at_:∀(a:At),Aw K N H (aD a) (FN a):=λa=>by cases a<;>erw[aD,FN,Aw]
 cases k with| «at» a=>rw[show v=FN a from h];show at_ a|tup l=>
  let(p,e,q):=h;apply#[p,_,e,q,?_];clear q;induction l with
  |nil=>show Ad.ϔ
  |cons a l b=>show Ad.Θ (at_ a) b
theorem UT{d g:Type}{f:d->g}:∀{l:U d},(l.j f).η->∀{x y:d},x∈l->y∈l->f x=f y->x=y
 |[],_,_,_,h,_,_=>nomatch h
 |c::l,nd,x,y,i,j,e=>by
  erw[AU,Eu]at nd;rcases Bx.mp i with a|a<;>rcases Bx.mp j with b|b
  .rw[a,b]
  .rw[a]at e;show absurd (e ▸ FG b) nd.1
  .rw[b]at e;show absurd (e ▸ FG a) nd.1
  .show UT nd.2 a b e
structure BK(K:Ap)(M:Fb)(H0:Hp)(k:Nat)(a:Ac)(ρ:VE)(qs:List Q4)(I:St)(H:Hp):Prop where
 rel:Bn K (M3 M a (qs.j Q4.b)) H0 ρ I H
 pin:ρ[k]?=Z .no/\I[k]?=Z (Z (.I a))
 out:H a=Z (DY (qs.j q3))
 ins:∀q∈qs,BJ K H q.k q.kv/\∃vs,H q.b=Z (.O vs)/\Ad K (Nf (M3 M a (qs.j Q4.b)) ρ I) H q.z vs
 nd:(qs.j Q4.b).η
 ne:a∉qs.j Q4.b
 kn:(qs.j Q4.k).η
 fr:∀y,y=a\/y∈qs.j Q4.b->H0 y=J/\¬ M y
 dp:LU ρ=J'
section
variable{K:Ap}{M:Fb}{H:Hp}{k:Nat}{ρ':VE}{qs:U Q4}{σ':St}
theorem BK.over(R:BK K M H0 k a ρ qs I H)(d:Bn K (M3 M a (qs.j Q4.b)) H0 ρ' σ' H')(S:Step (M3 M a (qs.j Q4.b)) (Nf (M3 M a (qs.j Q4.b)) ρ I) (Nf (M3 M a (qs.j Q4.b)) ρ' σ') H H')(p:ρ'[k]?=Z .no/\σ'[k]?=Z (Z (.I a)))(dp:LU ρ'=J'):BK K M H0 k a ρ' qs σ' H':=#[d,p,S.kp _ _ R.out<|.inr<|.inl<|.inr<|.inl rfl,λq c=>by
  let(e,f,g,h):=R.ins q c;show#[e.Τ S,f,S.kp _ _ g<|.σ<|.Q<|.σ<|.σ<|FG c,Ad.Τ S _ _ h],R.nd,R.ne,R.kn,R.fr,dp]
theorem BK.st(R:BK K M H0 k a ρ qs I H)(s:Ak H H'):BK K M H0 k a ρ qs I H':=R.over (R.rel.st s) (Step.ώ s) R.pin R.dp
theorem BK.chg{c:Ac}{u u':HO}(R:BK K M H0 k a ρ qs I H)(l:c=a\/c∈qs.j Q4.b)(t:H c=Z u)(v:Gi u=J'):Bn K (M3 M a (qs.j Q4.b)) H0 ρ I (AK H c u')/\Step M (Nf (M3 M a (qs.j Q4.b)) ρ I) (Nf (M3 M a (qs.j Q4.b)) ρ I) H (AK H c u'):=by
 let(r,A):=R.fr c l;let S:Step (λy=>M3 M a (qs.j Q4.b) y/\y≠c) (Nf (M3 M a<|qs.map Q4.b) ρ I) (Nf (M3 M a<|qs.map Q4.b) ρ I) H (AK H c u'):=#[λd o e z=>by
  by_cases hd:d=c
  .subst hd;rcases z with z|z|z
   .show absurd (.Q<|.σ l) z
   .show absurd rfl z.2
   .rw[t]at e;cases e;rw[v]at z;cases z
  .rw[Zl hd];show e,λ_ h=>.Q h]
 apply#[#[R.rel.ϩ,λd o e=>?_,λd h=>?_,λj s e=>?_,R.rel.inj],#[λd o e z=>S.kp d o e<|z.imp id<|Or.imp (λm=>#[.Q m,λw=>A<|w ▸ m]) id,S.nw]]
 .have:d≠c:=λz=>by rw[z,r]at e;cases e
  rw[Zl this];show R.rel.δ d o e
 .by_cases hd:d=c
  .rw[hd,ZT];show λz=>nomatch z
  .rw[Zl hd];show R.rel.mh d h
 .let q:=R.rel.ϕ j s e;cases s with
  |no=>trivial
  |val d=>let(w,g,f):=q;show#[w,g,Aw.Τ S _ _ f]
  |own B E F=>
   let(d,n,g,f,i,p,G):=q;have:d≠c:=λz=>i<|z ▸ .σ l;show⟨d,n,g,f,i,by rw[Zl this];show p,Ad.Τ S _ _ G⟩
  |lent B E=>
   let(d,n,g,f,i,p):=q;have:d≠c:=λz=>f.2 (by rw[z];show r);show#[d,n,g,f,i.Τ S<|.σ<|.Q ⟨f.1,this⟩,Ad.Τ S _ _ p]
  |exc d=>let(x,C,g,f,i):=q;show#[x,C,g,f,S.kp _ _ i<|.σ<|.σ rfl]
theorem BK.app{q:Q4}{d:D}{v:V}(R:BK K M H0 k a ρ qs I H)(f:q∈qs)(m:H q.b=Z (.O vs))(hd:Aw K (Nf (M3 M a (qs.j Q4.b)) ρ I) H d v):BK K M H0 k a ρ (Hm qs q.k d) I (AK H q.b (.O (vs++[v])))/\Step M (Nf (M3 M a (qs.j Q4.b)) ρ I) (Nf (M3 M a ((Hm qs q.k d).j Q4.b)) ρ I) H (AK H q.b (.O (vs++[v]))):=by
 let(b1,p,r):=dB q.k d qs;let(s,c):=R.chg (u':=.O<|vs++[v]) (.inr<|FG f) m rfl;rw[b1];apply⟨⟨by rw[b1];show s,R.pin,by rw[r,Zl (show a≠q.b from λe=>R.ne<|e ▸ (FG f))];show R.out,λg i=>?_,by rw[b1];show R.nd,by rw[b1];show R.ne,by rw[p];show R.kn,by rw[b1];show R.fr,R.dp⟩,c⟩;rw[b1];rcases dE R.kn g i with⟨m1,m2⟩|⟨n,m1,m2,t⟩
 .let(j,o,h,l):=R.ins g m1;have:g.b≠q.b:=λe=>m2 (by rw[UT R.nd m1 f e]);show#[j.Τ c,o,by rw[Zl this];show h,Ad.Τ c _ _ l]
 .let u:=(λg i e=>UT R.kn i f e) n m1 m2;subst u t;let(j,o,h,l):=R.ins n m1;rw[m]at h;cases h;show#[j.Τ c,_,ZT,Ad.Τ c _ _<|l.Ι<|Ad.Θ hd Ad.ϔ]
theorem BK.new{g:KT}{w:V}{p:Ac}(R:BK K M H0 k a ρ qs I H)(n:H p=J)(hk:BJ K H g w)(hn:g∉qs.j Q4.k):BK K M H0 k a ρ (qs++[(#[g,w,p,[]]:Q4)]) I (AK (AK H p (.O [])) a (DY (qs.j q3++[(g,w,.I p)])))/\Step M (Nf (M3 M a (qs.j Q4.b)) ρ I) (Nf (M3 M a ((qs++[(#[g,w,p,[]]:Q4)]).j Q4.b)) ρ I) H (AK (AK H p (.O [])) a (DY (qs.j q3++[(g,w,.I p)]))):=by
 let G:p≠a:=λe=>by rw[e,R.out]at n;cases n
 let L:p∉qs.j Q4.b:=λh=>by
  let(q,hq,e):=Bm.mp h;let(_,vs,f,_):=R.ins q hq;grind
 let A:Ak H (AK H p<|.O []):=ZV n;let S:=R.st A;let(r,S1):=S.chg (u':=DY<|qs.j q3++[(g,w,.I p)]) (.Q rfl) S.out rfl;generalize B:AK (AK H p<|.O []) a (DY<|qs.j q3++[(g,w,.I p)])=Y at *;let ep:Y p=Z (.O []):=by rw[<- B,Zl G,ZT]
 let mb:(qs++[(#[g,w,p,[]]:Q4)]).j Q4.b=qs.j Q4.b++[p]:=by simp
 let nf:∀y,Nf (M3 M a<|qs.j Q4.b++[p]) ρ I y->Nf (M3 M a<|qs.j Q4.b) ρ I y\/y=p:=by
  rintro y ((h|h|h)|h)
  .show .Q<|.Q<|.Q h
  .show .Q<|.Q<|.σ<|.Q h
  .rcases Cn.mp h with h|h
   .show .Q<|.Q<|.σ<|.σ h
   .show .σ<|Ca.mp h
  .show .Q<|.σ h
 let t:Step M (Nf (M3 M a<|qs.map Q4.b) ρ I) (Nf (M3 M a<|qs.map Q4.b++[p]) ρ I) H Y:=#[λc o e z=>S1.kp c o (A c o e) z,λy h=>(nf y h).imp id λ(z:y=p)=>by rw[z];show n];rw[mb];apply#[#[?_,R.pin,?_,λq' C=>?_,?_,?_,?_,λy l=>?_,R.dp],t]
 .rw[mb];apply#[r.ϩ,r.δ,λy l=>?_,λj s e=>?_,r.inj]
  .rcases l with h|h|h
   .show r.mh y<|.Q h
   .show r.mh y<|.σ<|.Q h
   .rcases Cn.mp h with h|h
    .show r.mh y<|.σ<|.σ h
    .rw[Ca.mp h,ep];show λz=>nomatch z
  .let N:=R.rel.ϕ j s e;let q:=r.ϕ j s e;cases s with
   |no=>trivial
   |val d=>let(w,E,i):=N;show#[w,E,Aw.Τ t _ _ i]
   |own xs fl oo=>
    let(c,W,E,i,f,u,h4):=N;let(F,P,v,_,Q,h3',_):=q;let ec:F=c:=by rw[E]at v;exists v.τ
    subst ec;apply#[F,W,E,i,λz=>?_,?_,Ad.Τ t _ _ h4]
    .rcases z with z|z|z
     .show f<|.Q z
     .show f<|.σ<|.Q z
     .rcases Cn.mp z with z|z
      .show f<|.σ<|.σ z
      .rw[Ca.mp z,n]at u;cases u
    .let n1:F≠a:=λz=>f<|.σ<|.Q z;rw[<- B,Zl n1];show A _ _ u
   |lent xs fl=>
    let(c,W,E,i,f,u):=N;let(F,P,v,_,Q,_):=q;apply#[c,W,E,#[i.1.imp id<|Or.imp id λh=>J0 _ h,i.2],?_,Ad.Τ t _ _ u];let n1:c≠a:=λz=>i.2 (by rw[z];show(R.fr a<|.Q rfl).1);rcases f with f|⟨o,f⟩
    .show .Q (by rw[<- B,Zl n1];show A _ _ f)
    .show .σ #[o,by rw[<- B,Zl n1];show A _ _ f]
   |exc c=>show q
 .rw[<- B,ZT];simp[q3]
 .rw[mb];rcases Cn.mp C with C|C
  .let(i,W,f,u):=R.ins q' C;show#[i.Τ t,W,by rw[<- B,Zl (show q'.b≠a from λe=>R.ne<|e ▸ FG C)];show A _ _ f,Ad.Τ t _ _ u]
  .rw[Ca.mp C];show#[hk.Τ t,[],ep,Ad.ϔ]
 .rw[mb];show Iy.ϡ #[R.nd,by simp,λx T y l=>by rw[Ca.mp l];show λz=>L<|z ▸ T]
 .rw[mb];intro h;rcases Cn.mp h with h|h
  .show R.ne h
  .show G (Ca.mp h).τ
 .have:(qs++[(#[g,w,p,[]]:Q4)]).j Q4.k=qs.j Q4.k++[g]:=by simp
  rw[this];show Iy.ϡ #[R.kn,by simp,λx T y l=>by rw[Ca.mp l];show λz=>hn<|z ▸ T]
 .rw[mb]at l;rcases l with h|h
  .show R.fr y<|.Q h
  .rcases Cn.mp h with h|h
   .show R.fr y<|.σ h
   .rw[Ca.mp h];show#[R.rel.δ.ύ n,λm=>(R.rel.Ψ n)<|.Q<|.Q m]
end
section
variable{K:Ap}{M:Fb}{H:Hp}{k:Nat}{qs:U Q4}
theorem BK.open(R:Bn K M H0 ρ I H)(n:ρ[k]?=Z (.Κ [] .d J))(o:I[k]?=Z (Z (.I a)))(dp:LU ρ=J'):BK K M H0 k a (ρ.ν k .no) [] I H/\Nf (M3 M a []) (ρ.ν k .no) I=Nf M ρ I:=by
 let(G,vs,l,(W,_),F,C,L):=R.ϕ k _ n;rw[o]at l;let N:a=G:=by exists l
 subst N;subst L;let t:∀{i b f g},(ρ.ν k .no)[i]?=Z (Sl.Κ b f g)->ρ[i]?=Z (Sl.Κ b f g)/\i≠k:=λ{i b f g} z=>by
  grind
 let E:Nf (M3 M a []) (ρ.ν k .no) I=Nf M ρ I:=by
  funext y;apply propext #[?_,?_]
  .rintro((h|h|h)|⟨i,b,f,g,p,m⟩)
   .show .Q h
   .show .σ #[k,[],.d,J,n,by rw[h];show o]
   .cases h
   .show .σ #[i,b,f,g,(t p).1,m]
  .rintro(h|⟨i,b,f,g,p,m⟩)
   .show .Q<|.Q h
   .by_cases e:k=i
    .subst e;rw[o]at m;cases m;show .Q<|.σ<|.Q rfl
    .show .σ #[i,b,f,g,by rw[DR e];show p,m]
 apply#[#[#[by rw[Jg];show R.ϩ,R.δ,λy u=>?_,λj s e=>?_,λi j b P f v g w c p m Q T=>R.inj i j b P f v g w c (t p).1 (t m).1 Q T],#[Fa<|(Cr.mp n).1,o],C,λq h=>(nomatch h),.ϔ,λh=>(nomatch h),.ϔ,λy u=>?_,?_],E]
 .rcases u with h|h|h
  .show R.mh y h
  .rw[h,C];show λz=>nomatch z
  .cases h
 .change TL K (M3 M a []) (Nf (M3 M a []) (ρ.ν k .no) I) H0 H s _
  rw[E];by_cases x:k=j
  .subst x;rw[Fa<|(Cr.mp n).1]at e;cases e;trivial
  .rw[DR x]at e;let q:=R.ϕ j s e;cases s with
   |own b f g=>
    let(c,A,l,r,B,S):=q;apply#[c,A,l,r,λz=>?_,S];rcases z with z|z|z
    .show B z
    .show x<|R.inj k j [] b .d f J g a n e o (by rw[<- z];show AE l)
    .cases z
   |lent b f=>let(c,A,l,r,B):=q;show#[c,A,l,#[.Q r.1,r.2],B]
   |no=>trivial
   |val d=>show q
   |exc c=>show q
 .rcases u with h|h
  .rw[h];show#[W,F]
  .cases h
 .apply Du.ϡ λs Y=>?_;rcases UU Y with h|h
  .show Du.mp dp s h
  .rw[h];rfl
theorem BK.pd{N:Fb}(d:∀q∈qs,¬ N q.b)(h:∀q∈qs,BJ K H q.k q.kv/\∃vs,H q.b=Z (.O vs)/\Ad K N H q.z vs):PD K N H (Jz (qs.j qz)) (qs.j q3):=by
 induction qs with|nil=>show .ϔ|cons q r e=>
  let(f,vs,g,i):=h q Bh;apply .Θ #[rfl,wt f,?_]<|e (λa c=>d a<|Bl _ c) λa c=>h a<|Bl _ c;show⟨q.b,vs,rfl,.of (d q Bh) g,i⟩
theorem BK.close(R:BK K M H0 k a ρ qs I H):Bn K M H0 (ρ.ν k (.Κ (Zb (Jz (qs.j qz))) .d)) I H/\∀y,Nf M (ρ.ν k (.Κ (Zb (Jz (qs.j qz))) .d)) I y->Nf (M3 M a (qs.j Q4.b)) ρ I y:=by
 let x:∀{i g l n},(ρ.ν k<|.own (Zb<|Jz<|qs.map qz) .d)[i]?=Z (Sl.own g l n)->i=k\/(i≠k/\ρ[i]?=Z (Sl.own g l n)):=λ{i g l n} z=>by
  grind
 let t:∀y,Nf M (ρ.ν k<|.Κ (Zb<|Jz<|qs.j qz) .d) I y->Nf (M3 M a<|qs.j Q4.b) ρ I y/\y∉qs.j Q4.b:=by
  rintro y (h|⟨i,g,l,n,A,u⟩)
  .show#[.Q<|.inl h,λm=>(R.fr y<|.σ m).2 h]
  .rcases x A with e|⟨e,w⟩
   .subst e;rw[R.pin.2]at u;cases u;show#[.Q<|.σ<|.Q rfl,R.ne]
   .apply#[.σ #[i,g,l,n,w,u],λm=>?_];let(c,v,f,_,p,_):=R.rel.ϕ i _ w;rw[u]at f;have:c=y:=by exists f.τ
    show p<|this ▸ .σ (.σ m)
 apply#[#[by rw[Jg];show R.rel.ϩ,R.rel.δ,λy h=>R.rel.mh y<|.inl h,λj s e=>?_,λi j g Y l B n C c A u E G=>?_],λy h=>(t y h).1]
 .by_cases P:k=j
  .subst P;rw[Fa<|(Cr.mp R.pin.1).1]at e;cases e;let Q:=BK.pd (N:=Nf M (ρ.set k<|.own (Zb<|Jz<|qs.map qz) .d) I) (λq W h=>(t _ h).2<|FG W) λq W=>by
    let(o,vs,p,r):=R.ins q W;show#[o,vs,p,r.nw<|λy h=>.Q (t y h).1]
   show#[a,Ea<|qs.map q3,by rw[R.pin.2];rfl,⟨(R.fr a<|.inl rfl).1,λ_ z=>(nomatch z)⟩,(R.fr a<|.Q rfl).2,by rw[IB Q];show R.out,Q.flat]
  .rw[DR P]at e;let q:=R.rel.ϕ j s e;cases s with
   |no=>trivial
   |val d=>let(w,f,o):=q;show#[w,f,o.nw<|λy h=>.Q (t y h).1]
   |own g l n=>let(c,v,f,o,p,r,F):=q;show#[c,v,f,o,λz=>p<|.inl z,r,F.nw<|λy h=>.Q (t y h).1]
   |lent g l=>let(c,v,f,o,p,r):=q;show#[c,v,f,#[o.1.Η id λhc=>absurd (R.fr c hc).1 o.2,o.2],p,r.nw<|λy h=>.Q (t y h).1]
   |exc c=>show q
 .let no:∀{i g l n},ρ[i]?=Z (Sl.Κ g l n)->I[i]?=Z (Z<|V.ref c)->I[k]?≠Z (Z<|V.ref c):=λ{i g l n} o p r=>by
   rw[R.pin.2]at r;cases r;let(c',v,f,_,F,_):=R.rel.ϕ i _ o;rw[p]at f;have:c'=a:=by exists f.τ
   show F<|this ▸ .σ (.Q rfl)
  rcases x A with f|⟨f,T⟩<;>rcases x u with L|⟨L,S⟩
  .rw[f,L]
  .subst f;show absurd E<|no S G
  .subst L;show absurd G<|no T E
  .show R.rel.inj i j g Y l B n C c T S E G
variable{ev:Expr}{f:VE->A7}{b:D->VE->O VE}{fk fv:AG}{x:Af}{lp vp a1 c1 a2 c2 ep:AB}
open J in
theorem wu(hu:X.A.γ+64<Av)(hp:PassesOwn (Ae X.β X.w) X.A X.G X.xe)(hc:X.ϵ=J')(hi:JI X tg iter (tI X.K M H0 f))(hg:∀M,JG X tg (tG X.K M H0 ws b))(hek:∀M,JE X ek (tP X.K M H0 fk))(hev:∀M,JE X ev (tD X.K M H0 fv))(hw:k∉ws:=by ext) (hN:NV X k x:=by show EM) (hbase:FQ (.ε x vp) "setdefault" X.G (Ar (.ε x vp) X.G)=Ar (.ε x vp) X.G:=by rfl) (hfew:((AD c1 (AJ [ek,.List [] lp] X.G)).ϭ (λx=>!x.1)&&(GB c1 (GC [] X.G)).ϭ (λx=>x.1.Ζ) && decide ([ek,.List [] lp].a+([]:U Ei).a+(if([]:U Ei).Υ then 0 else 1)<30))=J':=by rfl) (hline:(a1.ϴ==c1.Ϯ)=J':=by rfl) (hst:AJ [ek,.List [] lp] X.G=(O',Ar ek X.G)::AJ [.List [] lp] X.G:=by show D8 rfl) (hst2:AJ [.List [] lp] X.G=(O',Ar (.List [] lp) X.G)::AJ [] X.G:=by show D8 rfl) (hpl:(AD c1 (AJ [.List [] lp] X.G)).any (·.1)=O':=by rfl) (W:FQ (.Λ (.α (.ε x vp) "setdefault" a1) [ek,.List [] lp] [] c1) "append" X.G (Ar (.Λ (.α (.ε x vp) "setdefault" a1) [ek,.List [] lp] [] c1) X.G)=Ar (.Λ (.α (.ε x vp) "setdefault" a1) [ek,.List [] lp] [] c1) X.G:=by rfl) (hfew2:((AD c2 (AJ [ev] X.G)).ϭ (λx=>!x.1)&&(GB c2 (GC [] X.G)).ϭ (λx=>x.1.Ζ) && decide ([ev].a+([]:U Ei).a+(if([]:U Ei).Υ then 0 else 1)<30))=J':=by rfl) (Y:(a2.ϴ==c2.Ϯ)=J':=by rfl) (hst3:AJ [ev] X.G=(O',Ar ev X.G)::AJ [] X.G:=by show D8 rfl) (hpl2:(AD c2 (AJ [] X.G)).any (·.1)=O':=by rfl) (hsw:EJ (.Λ (.α (.Λ (.α (.ε x vp) "setdefault" a1) [ek,.List [] lp] [] c1) "append" a2) [ev] [] c2) J ep.Ϯ X.G=Am O':=by rfl) (hs:∀x,E1 iter X.G x=Am x:=by intro _;rfl):JS X (.For tg iter [.Expr (.Λ (.α (.Λ (.α (.ε x vp) "setdefault" a1) [ek,.List [] lp] [] c1) "append" a2) [ev] [] c2) ep] [] pos) (tS X.K M H0 (Q0 k f b fk fv)):=#[by
 let pb:=Tf (PX (pos:=ep) (G9 (apos:=a2) (cpos:=c2) Lq TV TW Qi
  (G9 (apos:=a1) (cpos:=c1) Up Uj PySem.F.type_dict_setdefault (bP hu) (Ha (pos:=vp) hN) (Z2 (show PE X ek (λI H Q=>∃M,tP X.K M H0 fk I H Q)from λB s I H Q zA ⟨M,z⟩=>(hek M).h B s I H Q zA z) (Z2 (YJ (pos:=lp) Ba) Ba hst2) hst) hbase hfew hline hst hpl) (Z2 (show PE X ev (λI H Q=>∃M,tD X.K M H0 fv I H Q)from λB s I H Q zA ⟨M,z⟩=>(hev M).h B s I H Q zA z) Ba hst3) W hfew2 Y hst3 hpl2) hsw) (EI (X:=X))
 refine(NI hp hc hi.h (show PG X tg (λv I H Q=>∃M,tG X.K M H0 ws b v I H Q)from λB s I H v u Q zA r ⟨M,h⟩=>(hg M).h B s I H v u Q zA r h) pb hs).κ λD I H ⟨ρ,R,q⟩=>?_;unfold Q0 at q;split at q
 .next G hk hf=>
  split at q
  .next dp=>
   split at q
   .next pr hfor=>
    apply#[ρ,G,R,hf,λP H1 s1 ok=>?_];let(a,vs,e1,_):=(R.st s1).ϕ k _ hk;let(G0,en):=BK.open (R.st s1) hk (AE e1) dp;apply#[λi m σi Hi=>m=G.a-i/\i<=G.a/\∃d j,BK X.K M H0 k a d j σi Hi/\Step M (Nf M ρ I) (Nf (M3 M a<|j.j Q4.b) d σi) H1 Hi/\JC k b fk fv (G.ρ i) d (j.j qz)=Z pr,#[G.a,by simp,E3 _,_,[],G0,by rw[<- en];show Step.ω,hfor],?_];intro i m σi Hi zQ;let(rfl,hle,d,j,Ri,Si,fi):=zQ;let(ok1,ok2):=ok _ _ Si i;by_cases S:i<G.a
    .let(go,y):=ok1 G[i]<|Cb S;rw[HK S]at fi;erw[JC]at fi;split at fi
     .next C hb=>
      split at fi
      .next h1k h1d=>
       let(zs',g,fi):=Ch.mp fi;apply .σ #[go,λσ' H'=>i+1<=G.a/\∃d j,BK X.K M H0 k a d j σ' H'/\Step M (Nf M ρ I) (Nf (M3 M a<|j.map Q4.b) d σ') H1 H'/\JC k b fk fv (G.drop<|i+1) d (j.map qz)=Z pr,λσ' H' z=>#[G.a-(i+1),by show Nat.sub_succ_lt_self G.a i S,rfl,z],λv H' yl=>?_];let(s3,hd):=y v H' yl;let R3:=Ri.st s3;apply#[_,d,G[i],C,R3.rel,hd,hb,λL Rb Sb fx=>?_];let R4:BK X.K M H0 k a C j L H':=R3.over Rb Sb #[h1k,by rw[fx k hw];show R3.pin.2] h1d;let S4:Step M (Nf M ρ I) (Nf (M3 M a<|j.map Q4.b) C L) H1 H':=Si.trans<|(Step.of_same s3).trans ⟨λc o e z=>Sb.kp c o e<|z.imp id<|Or.imp .Q id,Sb.nw⟩;unfold QZ at g;split at g
       .next yk dv hfk hfv=>
        split at g
        .next E hkt=>
         split at g
         .next hom=>
          let((hl1,hl2),e'):=Qt g;cases e';apply#[.I a,R4.pin.2,.σ<|.inr ⟨rfl,_,_,.inl R4.out⟩,M3 M a<|j.map Q4.b,C,yk,R4.rel,hfk,λw H5 s5 hw5=>#[E3 _,λp hp5=>?_]];let R5:=R4.st s5;rw[IA hkt]at hw5;let homk:HU E (j.j q3):=by
           have:=Du.mp hom;cases E with
           | «at» u=>
            intro t ht;let(T,n,rfl):=Bm.mp ht;have:=this (qz T)<|FG n;cases hq:T.k with
            | «at» v=>show#[v,by rw[<- hq];rfl]
            |tup l=>simp[qz,hq,El]at this
           |tup u=>
            intro t ht;let(T,n,rfl):=Bm.mp ht;have:=this (qz T)<|FG n;cases hq:T.k with
            | «at» v=>simp[qz,hq,El]at this
            |tup l=>show#[l,by rw[<- hq];rfl]
          let s6:Ak H5 (AK H5 p<|.O []):=ZV hp5;let R6:=R5.st s6;let fin:∀(q:Q4) (qj:U Q4) (H6:Hp),q∈qj->q.k=E->BK X.K M H0 k a C qj L H6->Step M (Nf M ρ I) (Nf (M3 M a<|qj.j Q4.b) C L) H1 H6->(Hm qj E dv).j qz=GU (j.j qz) E dv->q.z.a<Ay ->
            Qg X.K "list" (.I q.b) H6/\∃M',tD X.K M' H0 fv L H6 λv H7=>∃l xs y,(V.I q.b=.I l/\[v]=[y]/\H7 l=Z (.O xs)/\xs.a<Ay/\(i+1<=G.a/\∃d j,BK X.K M H0 k a d j L (AK H7 l<|.lst<|xs++[y])/\Step M (Nf M ρ I) (Nf (M3 M a<|j.map Q4.b) d L) H1 (AK H7 l<|.lst<|xs++[y])/\JC k b fk fv (G.drop<|i+1) d (j.map qz)=Z pr)):=λq qj H6 hq hqk R6 S6 hz hzl=>by
           let(_,us,hus,hdl):=R6.ins q hq;apply#[.Q #[rfl,us,.Q<|.inl hus],_,C,dv,R6.rel,hfv,λv H7 s7 hv7=>?_];let(R8,S8):=(R6.st s7).app hq (s7 _ _ hus) hv7;apply#[q.b,us,v,rfl,rfl,s7 _ _ hus,by rw[<- hdl.a];show hzl,S,C,_,R8,S6.E<|(Step.ώ s7).E S8,?_];rw[hqk,hz];show fi
          apply#[a,j.j q3,E,w,.I p,rfl,rfl,by rw[Zl<|BM (λe=>by rw[e,R5.out]at hp5;cases hp5)];show R5.out,λt ht=>?_,homk,(HV<|Hg hw5).step<|Step.of_same (M:=M) (N:=M) s6,by simpa using hl1,λu hu'=>?_,λhn=>?_]
          .let(T,n,rfl):=Bm.mp ht;show(R6.ins T n).1
          .let(T,n,hk0,rfl):=D3.1 u hu';show fin T j _ n hk0 R6 (S4.E<|Step.ώ<|s5.E s6) (US<|hk0 ▸ FG n)<|hl2 (qz T)<|FG n
          .let(R9,S9):=R5.new hp5 (HV<|Hg hw5)<|D3.2 hn;rw[show Ez (j.j q3) E w (.I p)=j.j q3++[(E,w,.I p)] by unfold Ez;rw[hn];rfl];apply fin #[E,w,p,[]] (j++[#[E,w,p,[]]]) _ (Dt _ Bh) rfl R9 ((S4.E<|Step.ώ s5).E S9) ?_ (by rw[Ip];simp);rw[US (show E∈(j++[(⟨E,w,p,[]⟩:Q4)]).j Q4.k by simp),Ek,dC<|D3.2 hn];have:∀{l:U Q4},E∉l.j Q4.k->GU (l.j qz++[(E,[])]) E dv=l.j qz++[(E,[dv])]:=by
            intro l;induction l with|nil=>intro _;simp[GU]|cons q r ih=>
             intro h;erw[AU,Bx,not_or]at h;erw[AU,GF,GU];rw[if_neg (show ¬ (qz q).1=E from λz=>h.1 z.τ),ih h.2]
           show this<|D3.2 hn
         .cases g
        .cases g
       .cases g
      .cases fi
     .cases fi
    .let e:i=G.a:=∅
     rw[Lh<|FV S]at fi;erw[JC,Qr]at fi;subst fi;apply .inl ⟨ok2 e,?_⟩;let(Rc,uc):=Ri.close;show q _ _ Rc<|(Step.of_same s1).trans<|Si.trans ⟨λc o e _=>e,λy h=>.Q<|uc y h⟩
   .show BX q
  .show BX q
 .show BX q]
end
structure MI(K:Ap)(C:Ac)(nm qual:Af)(st:AF)(ps:List Af)(a:Ac)(fd:Cs):Prop where
 M:K8 K C nm a
 F:J7 K nm qual st a fd
 b:Binds K fd ps []
theorem mi{K:Ap}{nm b:Af}{st:AF}{h:U Af}{m:Aa}{n f:O Ac}{j:Array (O Aa)}{g e pm d ct:Aa} (A:findIn K (.I C) nm=Z (Z (.I a))) (i:isFn K (.I a)=J') (l:K.S a=Z #[m,n,.func (fnOf nm b (Iq st) (ZU st) (Zg st) .Δ g e pm f d ct),j]) (c:codeIn K d b=J') (k:keepIn K (.I a)=J') (o:∀(g e pm:Aa) (f:O Ac) (d ct:Aa) (us:U Aa),us.a=h.a->bindArgs (fnOf nm b (Iq st) (ZU st) (Zg st) .Δ g e pm f d ct) #[us,[]]=Am (h.zip us)):MI K C nm b st h a (fnOf nm b (Iq st) (ZU st) (Zg st) .Δ g e pm f d ct):=#[#[A,i,k],Y6 l c k,.ϭ<|o g e pm f d ct]
structure CI(K:Ap)(mg:Bz)(c:Af)(C:Ac):Prop where
 cof:nsIn K CZ c=Z (Z (.I C))
 cl:Fs K C
 m:mg c=Z (.I C)
 mks:makesIn K C=J'
 kp:keepIn K (.I C)=J'
theorem ci{K:Ap}{mg:Bz}{h:Al}{c:Af}(X:K.In h)(G:h.Ns CZ mg)(A:nsIn K CZ c=Z (Z (.I C)))(pg:plainGet K C Str.empty=J')(hd:hasDictIn K C=J')(po:plainOver K C=J')(sa:findIn K (.I C) "__setattr__"=Z (Z (.Β "object.__setattr__")))(a:makesIn K C=J')(b:keepIn K (.I C)=J'):CI K mg c C:=#[A,#[pg,hd,po,sa],mg_of X G A,a,b]
theorem CI.mkB{K:Ap}{mg:Bz}{b:Af}{st:AF}{d:U Af}{fd:Cs}{c':Af}(c:CI K mg c' C)(q:MI K C "__init__" b st d a fd):Mk K C a:=#[c.mks,q.M.at_,q.M.fn,c.kp]
theorem wv{K:Ap}{k:Nat}{fn:Ac}{fd:Cs}{b:U Af}{nm a:Af}{st:AF}{P:AM}{w:Aj}{mg:Bz}{base:Al}{N:U Af}{g f:Ax}(D:MI K C nm a st b fn fd)(S:Ft N b (Zg st)) (h:∀(c:Aa) (A:Ag) (outer:U Env) (s:Ab) (H:Hp) (E:XK) (M:Fb) (H0:Hp),AL k (A.ϫ (Bj a (Zg st) s.u.J.o fn c))->JB (D6 Bp P w K mg base N a (Zg st) fn c A outer s H E).nox (ZU st) (tS K M H0 f)) (e:f=g:=by rfl) (d:b.a<=N.a:=by ext):A2 P w K mg base Bp (k+1) fn fd b (A4 K (A3 b.a N.a g)):=aH D.F S d<|e ▸ h
section
variable{M:Fb}{l:Expr}{f:AG}{b:D->VE->O VE}{t:VE->O Bool}{e:AG}
open J in
theorem dF{n:Nat}{oix:U Nat}(hw:∀j∈ws,j<n){E:AZ}{s:Ab}{H:Hp}{Q:VK}(W:Inv X E I H s)(h:tF X.K M H0 (Zj n oix (λρ=>(f ρ).L EB) b t e) I H Q):Qj n oix (dm X.K (tQ X.K M H0 f)) (N5 X.K ws b) (N6 X.K t) (N7 X.K e) I H (λv=>Cv X (Q v)):=by
 let(ρ,N,R,g,q):=h;unfold Zj at g;dsimp only at g;cases P:f ρ with|none=>rw[P]at g;cases g|some d=>
 rw[P]at g;erw[Cp]at g;cases i:EB d with|none=>rw[i]at g;cases g|some ds=>
 rw[i]at g;unfold EB at i;split at i
 .next ys=>
  cases T:EA ys with|none=>rw[T]at i;cases i|some G=>
  rw[T]at i;cases i;apply#[ρ,_,R,P,λv r C dq=>?_];rw[GN T]at dq;let(a,u,rfl,hN,hr,dl):=dq;let(tr,dc,pd):=Jp hr dl;apply#[a,tr,rfl,dc,λo hz=>?_];let S:=R.st C;let fin:∀m,Bn X.K M m ρ I (Cm a o (Dl tr) r)->(∀p u A,Ak (Cm a o (Dl tr) r) A->Cm a o (Dl tr) r p=J->A p=Z (CO X.K .l p N u)->Ad X.K (λb=>Nf M ρ I b\/b=p) A N u->Cv X (Q<|.I p) A) ->
    TD n oix (N5 X.K ws b) (N6 X.K t) (N7 X.K e) (LX a o (Dl tr)<|tr.map λt=>t.2.1) I (Cm a o (Dl tr) r) (λv=>Cv X<|Q v):=λm R2 q2=>by
   let(ρ',ds',R',e',k):=(Qv (K:=X.K) (M:=M) (H0:=m) (f:=λ_=>Z<|G.map λ(p:KT×D)=>kD p.1) (b:=b) (t:=t) (e:=e) (oix:=oix) (k:=n) hw (wi:=tI X.K M m λ_=>Z<|G.map λ(p:KT×D)=>kD p.1) (λ_ _ _ z=>z) (I:=I) (H:=Cm a o (Dl tr) r) (Q:=λv=>Cv X<|Q v) ⟨ρ,N,R2,g,q2⟩);cases e';show k _ _ (Ak.ω _)<|dn pd hz
  rcases dc.1 with F|⟨o',F⟩
  .apply fin _ (S.fz rfl F<|dr S hN) λp u A sm Y L B=>?_;let hf':=sm a _<|Jy F;apply .inr ⟨a,o,Dl tr,W.plain2 C F rfl,hf',q p u _ (λc w e=>?_) (C.Δ<|B9.mp Y) (OO L<|OP _ _ _ _ _) (Ad.rd (λb v L h=>Rd.ufz L h) _ _ B)⟩;let e1:=C c w e;by_cases y:c=a
   .grind [LW]
   .rw[Ky λx=>y x.1];show sm c w (by rw[F3 λx=>y x.1];show e1)
  .let e:Cm a o (Dl tr) r=r:=funext λb=>F3 (by rintro⟨rfl,y⟩;rw[F]at y;cases y);rw[e]at fin ⊢;show fin _ S λp u A sm Y L B=>.Q<|q p u A (C.E sm) (C.Δ Y) L B
 .cases i
variable(own outs:U Af)(oix:U Nat)(S:Ji own outs scope X.G.Ξ)(hox:oix.j (λj=>X.N[j]?)=outs.j Z)(hc:X.ϵ=J')
include S hox hc
theorem ww(k:JE X l (tQ X.K M H0 f)) (d:CB X.K X own outs scope tg ifs elt ws b t e) (m:∀j∈ws,j<own.a) (n:∀x,E1 l X.G x=Am x:=by intro _;rfl):JE X (.ϊ elt [#[tg,l,ifs,0]] scope pos) (tF X.K M H0 (Zj own.a oix (λρ=>(f ρ).L EB) b t e)):=#[λc s p H Q B h=>by
 apply A1 (aa own outs oix S hox hc (UP k.h) d.g d.t d.e n c s p H (λv=>Cv X<|Q v) B (dF m B h)) λu A h=>?_;let(v,q,i,r,z):=h;rcases z with z|⟨a,o,u,w,y,z⟩
 .show#[v,q,i,r,z]
 .show#[v,_,i.ufz y w,r,z]]
theorem wx{i:Nat}{x:Af}{a c:AB}(o:X.N.η)(k:X.N[i]?=Z x)(p:X.G.Ξ.υ.S x=Z .Ϡ)(q:JE X l (tQ X.K M H0 f)) (m:CB X.K X own outs scope tg ifs elt ws b t e) (r:∀j∈ws,j<own.a) (n:EJ (.ϊ elt [#[tg,l,ifs,0]] scope pos) (Z (.ε x a)) c.Ϯ X.G=Am J':=by rfl) (u:∀x,E1 l X.G x=Am x:=by intro _;rfl):JS X (.Ϭ [.ε x a] (.ϊ elt [#[tg,l,ifs,0]] scope pos) c) (tS X.K M H0 λρ=>Dn i (Zj own.a oix (λρ=>(f ρ).L EB) b t e ρ) ρ):=#[λd s v H D w h=>A1 (TF own outs oix S hox hc o k p (UP q.h) m.g m.t m.e n u d s v H (D.cv X) w<|dF r w<|TU h) λ_ _ h=>SP.cv h]
end
section
variable{P:AM}{w:Aj}{T:Type}[DecidableEq T]{hk:HeapKind P w T}{A:Ag}{s:Ab}{us:U (T×Ac×Aa)}
theorem wy(hk:HeapKind P w T)(b:(a==Hv)=O'):MeetsIn P w (Gg.«dict.__len__» #[[.I a],[]]) (λ_ R t=>∃us,t.u.϶ hk a us/\R (.ok (.ϸ (.r us.a t.Γ))) {t with toks:=t.Γ+1}):=.of_wp λA R t c=>by
 let(us,(o,g,h,d,_,e,f,_),q):=c;rw[(size_of_entries f).τ]at q;change wpAny _ _ (dictSize a >>= _) _ _ t;unfold dictSize;apply Ao<|Ao<|Ol d e<|AT (?_:wpAny _ _ (Builtin.Dict.pendingCount a >>= _) _ _ t);show Ao<|wpAny_pendingCount_other b<|wpAny_ret_mkInt (by rw[Nat.add_zero];show q)
theorem wz{Q:AR}(c:(a==Hv)=O')(d:s.u.϶ hk a us)(z:(us.a:Int)<2^63)(q:Q (.r us.a (s.Γ+1)) {s with toks:=s.Γ+1+1}):wpAny (Ae P w) A (Gg.«len» #[[.I a],[]]) (λf t=>∃r,f=.Ϙ (.ϸ r)/\Q r t) E s:=by
 unfold Gg.«len»;apply Ao (m:=oneArg "len" _) (AT<|Ao (m:=callSpecial? (.I a)<|J5 "__len__") (Mt (name:=J5 "__len__") d.ϛ F.slot_dict_len (call_meetsIn F.slot_dict_len d.ϛ F.entry_dict_len (F.args_dict_len_1 _) (wy hk c) #[us,d,?_])));change wpAny _ _ _ _ _ {s with toks:=s.Γ+1};apply Ao<|F9<|AT<|Ao<|wpAny_letGo ?_;change wpAny _ _ (if((us.a:Nat):Int)<0 then _ else _) _ _ _;change wpAny _ _ (if((us.a:Nat):Int)≥2^63 then _ else _) _ _ _;rw[if_neg (by show Int.not_le.ϡ z:¬ ((us.a:Nat):Int)≥2^63)];show Ao<|wpAny_mkInt<|AT ⟨_,rfl,q⟩
end
section
variable{K:Ap}
theorem wA:E2 X (.Β "len") (λxs H Q=>∃a tr,xs=[.I a]/\C2 X.K H a tr/\(∀t∈tr,∃l,t.1=KT.X l)/\Q (.r tr.a) H):=by
 intro b s h H xs c Q i r zQ;let(a,tr,rfl,hd,d,q):=zQ;let(u,rfl,e):=Fc r;cases e;let(z,f,nd,c,rel,g):=Ly i hd d;apply dG kind_len plain_len entry_len (args_len1 _)<|wz f g (by rw[<- (G7 rel)];rw[Ip]at z;lia) ?_;rw[<- (G7 rel)];show⟨.r _,H,i.tok _,⟨_,rfl⟩,q⟩
def Hn:Ev
 |[.lst b .d]=>(EA b).L λa=>if a.ϭ (λp=>!El p.1)then Z (.r a.a)else J
 |_=>J
open J in
theorem wC:Gk K (λxs H Q=>∃a tr,xs=[.I a]/\C2 K H a tr/\(∀t∈tr,∃l,t.1=KT.X l)/\Q (.r tr.a) H) Hn:=by
 intro N H m n d Q o h e q;unfold Hn at e;split at e
 .next xs=>
  let(c,f,e):=Ch.mp e;let(g,e):=Z0 e;cases e;let(v,rfl,b):=Paired.one' h;rw[GN f]at b;let(p,s,rfl,r,hd):=b;let(tr,i,j):=Jp r hd;apply#[p,tr,rfl,i,j.hom (k:=.X []) (by simpa[DZ,El]using g),?_];grind [G7,Ak.refl,F0]
 .cases e
end
end Internal
namespace Internal
open PySem PySem.Spec PyProof.Rows
section
variable{prog:AM}{w:Aj}{A:Ag}{s:Ab}
abbrev UV(i:Ac):Obj:={cls:=.ι "enumerate",data:=.ϝ (T' [.Δ,.ϥ O',.I i,BB 0,.Δ,.Δ])}
open J in
theorem XL{M}{a:Bool}{Q:Bool->Ab->Prop}(h:∀b,Q b s):wpAny M A (pure a) Q E s:=AT (h a)
theorem wD(S:AN)(a:RelV S.v u)(xs:U V):Meets (Gg.«enumerate.__new__» #[[.ι "enumerate",u],[]]) (λ_ R s=>S.ok s.u xs/\R (.ok (.ϸ (.I (s.u.Ο (S.obj u)).J.o))) {s with heap:=(s.u.Ο (S.obj u)).Ο (UV s.u.J.o)}):=.of_wp λprog w A R s h=>by
  let(b,g,d,f,os):=s;let(e,q):=h;let i:=sub_enumerate;wp_walk using S.pyIter a e;apply wpAny_stack_any λst=>XL λb=>?_;cases b<;>(wp_walk using S.pyIter a e;show#[_,rfl,q])
theorem wE{S:AN}(c:RelV S.v u){xs:U V}{Q:AR}(p:S.ok s.u xs)
  (q:∀h',IsEnum h' (s.u.J.o+1) s.u.J.o 0 .Δ->S.it h' s.u.J.o 0->(∀b o,s.u.R b=Z o->h'.R b=Z o)->Q (.I (s.u.J.o+1)) {s with heap:=h' }):
  wpAny (Ae prog w) A (call (.ι "enumerate") [u]) Q E s:=by
 let hz:(s.u.Ο (S.obj u)).J.o=s.u.J.o+1:=K9 ..
 let d:IsEnum ((s.u.Ο (S.obj u)).Ο (UV s.u.J.o)) (s.u.J.o+1) s.u.J.o 0 .Δ:=by
  have:=Co (s.u.Ο (S.obj u)) (o:=UV s.u.J.o) rfl
  rw[hz]at this;show this
 let a:=q _ d (S.itAt (S.new (h:=s.u) c) λo e=>BC _ e) λb o e=>BC _ (BC _ e)
 apply callType_new PySem.F.called_enumerate (by ext) (PySem.F.typeCall_enumerate_1 _) (PySem.F.newCall_enumerate_1 _) (λobj=>PySem.F.args_object_init_2 obj _) PySem.F.entry_enumerate_new (wD S c xs) #[p,?_]
 change _/\_
 rw[hz]
 show#[#[_,d,rfl],a]
section
variable{e it:Ac}{fa:U Ac}{n k:Nat}{sa:Nat->Al->Prop}{old:Aa}
theorem wF{Q:O Aa->Ab->Prop}(SA:IM prog w it fa n isA sa)(a:IsEnum s.u e it k old)(ha:sa k s.u)(kn:k<n)(u:e≠it)(hfe:e∉fa) (q:∀x h' t' v,isA k x->IsEnumOut h' e it ((k:Int)+1) x s.u.J.o->sa (k+1) h'->h'.R s.u.J.o=Z {cls:=.ι "tuple",data:=.Ϲ (T' [.r k t',x])}->(∀b o,b≠e->b≠it->s.u.R b=Z o->h'.R b=Z o)->Q (Z (.I s.u.J.o)) {s with heap:=h',toks:=v}):wpAny (Ae prog w) A (pyNext (.I e)) Q E s:=by
 let(i,g,d,tk,os):=s;apply Ao<|OG<|Mt (name:=J5 "__next__") #[_,a,rfl] UW (Lc UW #[_,a,rfl] PySem.F.entry_enumerate_next ?_<|PySem.F.args_enumerate_next_1 _);let fr:∀{h h':Al},sa (k+1) h->(∀b o,b≠e->h.get? b=Z o->h'.get? b=Z o)->sa (k+1) h':=λst kp=>SA.frame _ _ _ st λb c o x=>kp b o (by
  grind) x
 change wpAny _ _ (field (.I e) 2 >>= _) _ _ _
 apply Ao<|Ga a rfl (x:=.ref it) rfl ?_;apply Ao<|SA.item _ _ _ k _ kn ha λx y j hx a1 l=>?_;replace l:Ee it i y:=l;let B:IsEnum y e it k old:=(l.2 e u).E a;apply Ao<|Ga B rfl (x:=BB k) rfl ?_;apply Ao<|Ga B rfl (x:=.none) rfl ?_;apply Ao<|wpAny_mkInt ?_;apply Ao<|IN B (by simp) λC G m=>?_;replace m:Ee e y C:=m;replace G:IsEnum C e it ((k:Int)+1) old:=G;apply Ao<|IN G (by simp) λf H p=>?_;replace p:Ee e C f:=p;replace H:IsEnum f e it ((k:Int)+1) old:=H;apply Ao<|wpAny_newTuple ?_;let sz:f.J.o=i.J.o:=by rw[p.1,m.1,l.1]
 let r:IsEnum (f.Ο {cls:=.ι "tuple",data:=.Ϲ (T' [.r k j,x])}) e it ((k:Int)+1) old:=BC _ H;let t4:(f.Ο {cls:=.ι "tuple",data:=.Ϲ (T' [.r k j,x])}).R i.J.o=Z {cls:=.ι "tuple",data:=.Ϲ (T' [.r k j,x])}:=sz ▸ Co _ rfl;let k4:∀b o,b≠e->b≠it->i.R b=Z o->(f.Ο {cls:=.ι "tuple",data:=.Ϲ (T' [.r k j,x])}).R b=Z o:=λb o a S c=>
  BC _<|p.φ b o a<|m.φ b o a<|l.φ b o S c
 let a4:sa (k+1) (f.Ο {cls:=.ι "tuple",data:=.Ϲ (T' [.r k j,x])}):=fr a1 λb o c z=>BC _<|p.extBut b o c<|m.extBut b o c z;generalize (f.push {cls:=.type "tuple",data:=.seq (T' [.int k j,x])})=h4 at r t4 k4 a4 ⊢;rw[sz];apply Ao ?_;apply Ao<|Ga r rfl (x:=.none) rfl (AT ?_);apply Ao<|Gb ?_;apply Ao<|Ga r rfl (x:=old) rfl ?_;apply Ao<|IN r (by simp) λK L M=>?_;replace M:Ee e h4 K:=M;replace L:IsEnum K e it ((k:Int)+1) x:=L;apply Ao ?_;apply Ao<|IN L (by simp) λN P T=>?_;replace T:Ee e K N:=T;replace P:IsEnumOut N e it ((k:Int)+1) x i.J.o:=P;apply IN P (by simp) λt R Y=>?_;replace Y:Ee e N t:=Y;replace R:IsEnumOut t e it ((k:Int)+1) x i.J.o:=R;let up:∀b o,b≠e->h4.R b=Z o->t.R b=Z o:=λb o c z=>Y.φ b o c<|T.extBut b o c<|M.extBut b o c z;apply Ao<|wpAny_letGo<|AT ⟨_,rfl,AT<|q x t _ _ hx R (fr a4 up) (up _ _ (Ja<|BN a) t4) λb o a S z=>up b o a<|k4 b o a S z⟩
theorem wG{Q:O Aa->Ab->Prop}(d:A.ϣ=J)(f:IM prog w it fa n isA sa)(a:IsEnum s.u e it k old)(g:sa k s.u)(kn:n<=k) (q:∀h',Heap.ExtBut it s.u h'->Q J {s with heap:=h' }):wpAny (Ae prog w) A (pyNext (.I e)) Q E s:=by
 apply Ao<|OG<|Mt (name:=J5 "__next__") #[_,a,rfl] UW (Lc UW #[_,a,rfl] PySem.F.entry_enumerate_next ?_<|PySem.F.args_enumerate_next_1 _);change wpAny _ _ (field (.I e) 2 >>= _) _ _ _
 apply Ao<|Ga a rfl (x:=.ref it) rfl ?_;apply Ao<|f.fin _ _ _ k _ (by show d) kn g λh' x h i=>?_;let(o,j,l):=i;show Ao<|wpAny_isInstance (T:="StopIteration") (b:=J') #[o,j,l] isSubtype_stop (AT<|q _ h)
theorem wH{a:U Expr} {b} {i:Int} {v:Aa} {T:Ac} (hz:IsEnumOut s.u e it i v T) (q:∀h',IsEnum h' e it i v->Ee e s.u h'->Q () {s with heap:=h' }):wpAny (Ae prog w) A (letOwnedTupleGo (.Tuple a b pos) (.I e) (.I T)) Q E s:=by
 apply Ao<|wpAny_load hz ?_;change wpAny _ _ (if(["enumerate","zip","dict_itemiterator","dict_reverseitemiterator","odict_iterator","itertools.zip_longest","itertools.pairwise"].Ϟ "enumerate"&&((T' [BB T,.ϥ O',.I it,BB i,.Δ,v]):Array Aa)[0]?==Z (BB T))=J' then _ else _) Q E s
 rw[if_pos (by simp)];show Ao<|Gb<|IN hz (by simp) λh' z sb=>q h' z sb
end
end
def dH(K:Ap)(S:AN):It:=
 #[λi H=>∃a x,S.sq K H a/\a[i]?=Z x,
  λi H v b=>∃p x,v=.I p/\H p=J/\b=AK H p (.X [.r i,x])/\(∀a,S.sq K H a->a[i]?=Z x),
  λi H=>∃a,S.sq K H a/\a.a<=i]
theorem wI{P:AM}{w:Aj}{K:Ap}{g:U Expr} {R} (S:AN) (n:Nat) (Q:∀b∈S.fp,b<n):Im P w K (.Tuple g R pos) (dH K S) [n+1,n] (n+1) (λi h=>(∃f,IsEnum h (n+1) n i f)/\S.it h n i) where
 mem:=by simp
 obj:=λi h T q a=>by
  let((x,z),c):=T;erw[Bx,MN,or_false]at a;rcases a with rfl|rfl
  .show#[_,z,λv e=>nomatch (show Data.ϝ _=Data.Ν v from e)]
  .show S.itOb c
 keep:=λi h m ⟨⟨x,z⟩,c⟩ k=>#[#[x,k _ (by simp) _ z],S.itAt c λo e=>k _ (by simp) o e];item:=by
  intro X t u y F i d s L H E zA p #[#[f,z],c] #[W,x,r,ex];subst t u y;let(sa,A,c1,c2):=S.sub (P:=X.β) (w:=X.w) (i:=n) (S.of zA r);let Y:n+1<s.u.J.o:=BN z;apply wF A z (c1 _ c) ((Cr.mp ex).1) (by(show @Ne Nat _ _;lia)) (λz=>absurd (show @LT.lt Nat _ _ _ from Q _ z) (by change ¬ @LT.lt Nat _ _ _;lia)) λM m t1 N B z' c' new kp=>?_;let(x2,j,C):=B;rw[ex]at j;cases j;apply#[_,rfl,wH (s:={s with heap:=m,toks:=N}) z' λl z2 sb=>?_];let G:∀q o,q≠n+1->m.R q=Z o->l.R q=Z o:=λq o a e=>sb.φ _ _ a e;let I1:Inv X d L (AK H s.u.J.o<|.X [.r i,x]) {s with heap:=l}:=by
   show zA.yielded p (λq o a e=>G q o (λz=>a (by simp[z])) (kp q o (λz=>a (by simp[z])) (λz=>a (by simp[z])) e)) (AX _) #[show 2<=Ay by ext,[.r i t1,M],.Θ #[_,rfl]<|.Θ C .ϔ,⟨_,G _ _ (by(show @Ne Nat _ _;lia)) new,rfl,_,rfl⟩]
  apply#[.I s.u.J.o,_,I1.tok N,rfl,#[_,x,rfl,zA.Ϫ.Ψ<|AX _,rfl,λzs hz=>S.inj zA hz r ▸ ex],#[#[M,?_],S.itAt (c2 _ _ c') λo e=>G _ o (by(show @Ne Nat _ _;lia)) e],λq a=>?_]
  .have:((i+1:Nat):Int)=(i:Int)+1:=∅
   show z2
  rw[Zl]
  .show(p q a).1
  .erw[Bx,MN,or_false]at a;rcases a with rfl|rfl<;>(show @Ne Nat _ _;lia)
 done:=by
  intro X t u y F i d s L H E zA p #[#[f,z],c] #[W,r,hl];subst t u y;let(sa,A,c1,c2):=S.sub (P:=X.β) (w:=X.w) (i:=n) (S.of zA r);apply wG (zA.ok.hd F) A z (c1 _ c) hl λm kp=>#[rfl,zA.turnedL p λq o a e=>kp q o (λz=>a (by simp[z])) e]
 self:=λ_ _ _ _ _ ⟨⟨_,z⟩,_⟩ q=>wpAny_pyIter_enum z q
@[simp]def Ng(f:AG):VE->A7:=λa=>match(f a).L Hk with
  |some b=>Z (Gp 0 b)
  |none=>J
theorem wJ{K:Ap}{M N:Fb}{H:Hp}{S:AN}{us:U V}(e:Ad K N H xs us)(j:∀f b,Step M N f H b->S.sq K b us):MC K M N H (dH K S) (Gp 0 xs):=λf b St i=>by
 let c:=j _ _ St;apply#[λd a=>?_,λa=>#[us,c,?_]]
 .rw[bC]at a;let(x,ex,a):=B7.mp a;cases a;let(u,g,k):=(Ad.Τ St _ _ e).Ρ ex;apply#[#[us,u,c,g],λz q l=>?_];let(p,r,m,h,n,o):=l;have:=o us c;rw[g]at this;cases this;subst m n;show#[aj h,Ob h<|Ad.Θ (by simp[Aw])<|Ad.Θ k Ad.ϔ]
 .let l1:=e.a;rw[Ud]at a;lia
section
variable{M:Fb}{f:AG}{a:Expr}{p tpos:AB}
open J in
theorem wL {N} (P:Gl X "enumerate") (T:X.mg "enumerate"=J) (l:JE X a (tQ X.K M H0 f)) (A:AJ [a] X.G=[(O',Ar a X.G)]:=by rfl) (m:AJ [] X.G=[]:=by rfl):
  JI X (.Tuple elts N tpos) (.Λ (.ε "enumerate" p) [a] [] pos) (tI X.K M H0 (Ng f)):=#[have l:=l.h;by
 intro d s n H Q zA #[i,ds,R,e,q]
 unfold Ng at e
 split at e
 .next W ex=>
  cases e
  cases o:f i with
  |none=>rw[o]at ex;cases ex
  |some Y=>
   rw[o]at ex
   let t:=Z2 l Ba (by rw[A,m])
   apply Call_ (Il zA P T t7 (NH (A1 (t pos d s n H (λB u=>∃S g,B=[AN.v S]/\Ak H u/\Ad X.K (Nf M i n) u W g/\(∀N2 C,Step M (Nf M i n) N2 u C->S.sq X.K C g)) zA ?_) λg w ⟨B,E,j,r1,x⟩=>?_) A rfl))
   .apply#[i,Y,R,o,λv1 E z1 x=>?_]
    let(S,g,y,c,k):=UQ x ex
    show#[S,g,by rw[y],z1,c,k]
   .let(S,us',y,z,c,k):=x
    subst y
    cases r1 with
    |cons r rr=>
     cases rr
     let G:=S.of j (k _ _ Step.ω)
     apply wE r G λh' a1 a4 kp=>wpAny_pyIter_enum a1 ?_
     apply#[_,_,_,_,E,rfl,j.ϱ (t':=w.Γ) kp,wI S w.u.J.o (S.lt G),#[#[_,a1],a4],λb F=>?_,q _ _ z (wJ c k)]
     let L:w.u.J.o<=b:=by
      erw[Bx,MN,or_false]at F
      rcases F with rfl|rfl<;>(show @LE.le Nat _ _ _;lia)
     show j.fpOk L (j.Ϫ.Ψ L)
 .cases e]
end
open PySem.W
set_option genInjectivity true in
inductive IV where
 |no|val (d:D)|cel (n:Nat)|exc (c:Af)
variable{x3 x4 x7:IV}
set_option genInjectivity true in
inductive Cl where
 |dead|dat (k:Kd) (xs:List D)|mix (k:Kd) (xs:List IV)
abbrev Gh:=U Cl
variable{G':Gh}
abbrev IS:=U IV×Gh
variable{gp:IS->O Nat}{gx:IS->O (IV×Gh)}{ga:IS->O (U IV)}{gi:IS->O D}
@[simp]def un:IV->D
  |.val d=>d
  |_=>.Α
@[simp]def Cl.kd:Cl->O Kd
  |.dead=>J
  |.dat k _=>Z k
  |.mix k _=>Z k
def LV(φ:Nat->Ac)(G:Gh):Fb:=λa=>∃n c k,G[n]?=Z c/\c.kd=Z k/\φ n=a
def AS(K:Ap)(φ:Nat->Ac)(L:Nat)(N:Fb)(H:Hp):IV->V->Prop
 |.no,_=>False
 |.val d,v=>Aw K N H d v
 |.cel n,v=>n<L/\v=.I (φ n)
 |.exc c,v=>∃a C,v=.I a/\nsIn K CZ c=Z (Z (.I C))/\H a=Z (.ext (am a C))
def UX(K:Ap)(φ:Nat->Ac)(L:Nat)(N:Fb)(H:Hp)(a:Ac):Cl->Prop
 |.dead=>True
 |.dat k b=>∃c,H a=Z (CO K k a b c)/\Ad K N H b c
 |.mix k b=>∃c,H a=Z (CO K k a (b.j un) c)/\Paired (AS K φ L N H) b c
structure Bo(K:Ap)(φ:Nat->Ac)(G:Gh)(H:Hp):Prop where
 cell:∀n c,G[n]?=Z c->UX K φ G.a (LV φ G) H (φ n) c
 inj:∀n m c c' k k',G[n]?=Z c->G[m]?=Z c'->c.kd=Z k->c'.kd=Z k'->φ n=φ m->n=m
structure Bu(K:Ap)(φ:Nat->Ac)(s:IS)(I:St)(H:Hp):Prop where
 len:s.1.a=I.a
 g:Bo K φ s.2 H
 slot:∀(i:Nat) (x:IV),s.1[i]?=Z x->x=.no\/∃v,I[i]?.join=Z v/\AS K φ s.2.a (LV φ s.2) H x v
structure Go(φ:Nat->Ac)(G:Gh)(H:Hp)(φ':Nat->Ac)(G':Gh)(H':Hp):Prop where
 ext:∀n,n<G.a->φ' n=φ n
 len:G.a<=G'.a
 st:Step (λ_=>False) (LV φ G) (LV φ' G') H H'
section
variable{K:Ap}{φ1 φ2:Nat->Ac}{G G1 G2:Gh}{H H1 H2:Hp}{s:IS}
theorem Go.same(sm:Ak H H'):Go φ G H φ G H':=#[λ_ _=>rfl,AX _,Step.ώ sm]
theorem Go.trans(a:Go φ G H φ1 G1 H1)(b:Go φ1 G1 H1 φ2 G2 H2):Go φ G H φ2 G2 H2:=#[λn h=>(b.ext n<|B3 h a.ϩ).E<|a.ext n h,Bv a.ϩ b.ϩ,a.st.E b.st]
theorem AS.go(g:Go φ G H φ1 G1 H1){x:IV}{v:V}(h:AS K φ G.a (LV φ G) H x v):AS K φ1 G1.a (LV φ1 G1) H1 x v:=by
 cases x with
 |no=>show h
 |val d=>show Aw.Τ g.st d v h
 |cel n=>show#[B3 h.1 g.ϩ,g.ext n h.1 ▸ h.2]
 |exc c=>let(a,C,e,b,f):=h;show#[a,C,e,b,g.st.kp _ _ f<|.σ<|.σ rfl]
theorem Bo.same(R:Bo K φ G H)(sm:Ak H H'):Bo K φ G H':=#[λn c e=>by
 let h:=R.Ν n c e;cases c with
 |dead=>trivial
 |dat k f=>let(a,b,d):=h;show#[a,sm _ _ b,d.δ sm]
 |mix k f=>let(a,b,d):=h;show#[a,sm _ _ b,Paired.mapP d λ_ _ q=>AS.go (Go.δ sm) q],R.inj]
theorem Bu.go(R:Bu K φ s I H)(a:Bo K φ1 G1 H1)(g:Go φ s.2 H φ1 G1 H1):Bu K φ1 (s.1,G1) I H1:=#[R.ϩ,a,λi x e=>(R.ϕ i x e).imp id λ⟨v,b,c⟩=>#[v,b,c.go g]]
theorem Bu.same(R:Bu K φ s I H)(sm:Ak H H'):Bu K φ s I H':=R.go (R.g.δ sm)<|Go.δ sm
theorem Bo.has(R:Bo K φ G H){n:Nat}{c:Cl}{k:Kd}(e:G[n]?=Z c)(a:c.kd=Z k):∃xs vs,H (φ n)=Z (CO K k (φ n) xs vs):=by
 let h:=R.Ν n c e;cases c with
 |dead=>cases a
 |dat k xs=>cases a;let(vs,b,_):=h;show#[_,vs,b]
 |mix k xs=>cases a;let(vs,b,_):=h;show#[_,vs,b]
theorem Bo.nh(R:Bo K φ G H)(h:LV φ G a):H a≠J:=by
 let(n,c,k,e,b,rfl):=h;let(d,f,q):=R.has e b;simp_all
end
@[simp]def vk:Nat->Kd->Bool
  |0,_=>O'
  |1,.l=>O'
  |_,_=>J'
@[simp]def OT:U (O D)->A7
  |[]=>Z []
  |o::r=>Zk o (OT r)
@[simp]def tr(m:Nat)(G:Gh):Nat->IV->O D
  |_,.val d=>Z d
  |f+1,.cel n=>match G[n]? with
   |some (.dat k a)=>if vk m k=J' then Z (.O a k)else J
   |some (.mix k a)=>if vk m k=J' then(OT (a.j (tr m G f))).j λl=>.O l k else J
   |_=>J
  |_,_=>J
@[simp]def Dx(m:Nat)(G:Gh):IV->Sl
  |.val d=>.y d
  |.no=>.no
  |.exc c=>.exc c
  |.cel n=>match tr m G 3 (.ξ n)with
   |some d=>.y d
   |none=>match G[n]? with
    |some (.dat k a)=>if vk m k=J' then .no else .gV a k
    |_=>.no
@[simp]def vw(m:Nat)(s:IS):VE:=s.1.j (Dx m s.2)
def NW(m:Nat)(φ:Nat->Ac)(G:Gh):Fb:=λa=>∃n c k,G[n]?=Z c/\c.kd=Z k/\vk m k=O'/\φ n=a
mutual
noncomputable def BE(m:Nat):D->Bool
 |.lst a k=>!vk m k&&Dc m a
 |.tup a=>Dc m a
 |.non=>J'
 |.bl _=>J'
 |.int _=>J'
 |.str _=>J'
 |.ty _=>J'
noncomputable def Dc(m:Nat):U D->Bool
 |[]=>J'
 |x::a=>BE m x&&Dc m a
end
section
variable{K:Ap}{G:Gh}{H:Hp}{s:IS}{m:Nat}{B:Fb}
theorem NW.lv(h:NW m φ G a):LV φ G a:=let⟨n,c,k,b,d,_,e⟩:=h;#[n,c,k,b,d,e]
theorem wM:∀{f:Nat}{x:IV}{d:D},tr m G f x=Z d->NU (un x)=NU d
 |f,.val d,_,h=>by erw[tr]at h;cases h;rfl
 |0,.cel n,_,h=>by erw[tr]at h;cases h
 |f+1,.cel n,d,h=>by
  unfold tr at h;split at h
  .split at h<;>cases h;rfl
  .let(_,h):=Z0 h;let(l,_,rfl):=B7.mp h;rfl
  .cases h
 |f,.no,_,h=>by erw[tr]at h;cases h
 |f,.exc _,_,h=>by erw[tr]at h;cases h
theorem dI{f:Nat}:∀{xs:U IV}{b:U D},OT (xs.j (tr m G f))=Z b->Kc (xs.j un)=Kc b
 |[],_,h=>by cases h;rfl
 |[x],_,h=>by
  let(d,r,c,a,rfl):=Jj h;cases a;rfl
 |x::y::r,_,h=>by
  let(d,l,c,a,rfl):=Jj h;let(g,i,j,e,rfl):=Jj a;erw[AU,Kc,wM c,dI e]
theorem wN{f:Nat}{xs:U IV}{b:U D}{k:Kd}(h:OT (xs.j (tr m G f))=Z b):CO K k a (xs.j un) vs=CO K k a b vs:=by
 cases k<;>erw[CO,dI h]
theorem Bo.nnv(R:Bo K φ G H){n:Nat}{c:Cl}{k:Kd}(e:G[n]?=Z c)(a:c.kd=Z k)(i:vk m k=J'):¬ NW m φ G (φ n):=λ⟨j,b,d,f,g,l,h⟩=>by
 have:=R.inj j n b c d k f e g a h;simp_all
open J in
theorem dJ(R:Bo K φ G H):∀{f:Nat}{x:IV}{d:D}{v:V},tr m G f x=Z d->AS K φ G.a (LV φ G) H x v->Aw K (NW m φ G) H d v
 |f,.val d,_,v,h,q=>by erw[tr]at h;cases h;show Aw.nw q λa i=>.Q i.lv
 |0,.cel n,_,_,h,_=>by erw[tr]at h;cases h
 |f,.no,_,_,h,_=>by erw[tr]at h;cases h
 |f,.exc _,_,_,h,_=>by erw[tr]at h;cases h
 |f+1,.cel n,d,v,h,q=>by
  let(_,rfl):=q;unfold tr at h;split at h
  .next k c e=>
   let(j,h):=Z0 h;cases h;let(b,g,o):=R.Ν n _ e;show#[_,b,rfl,.of (R.nnv e rfl j) g,o.nw λa i=>.Q i.lv]
  .next k c e=>
   let(j,h):=Z0 h;let(l,p,rfl):=B7.mp h;let(b,g,o):=R.Ν n _ e;rw[wN p]at g;apply#[_,b,rfl,.of (R.nnv e rfl j) g,?_];let all:∀{c:U IV} {b:U V} {l:U D},Paired (AS K φ G.a (LV φ G) H) c b->OT (c.j<|tr m G f)=Z l->Ad K (NW m φ G) H l b:=by
    intro c b l h;induction h generalizing l with|nil=>intro e;cases e;show Ad.ϔ|cons q t s=>
     intro e;let(d,r,u,w,rfl):=Jj e;show Ad.Θ (dJ R u q)<|s w
   show all o p
  .cases h
theorem wO{k:Kd}{b:Ac}{ys:U D}{ws:U V}(h:CO K k a xs vs=CO K k' b ys ws):vk m k=vk m k':=by
 cases k<;>cases k'<;>first|rfl|cases h|(cases m with|zero=>rfl|succ j=>cases j<;>rfl)
mutual
theorem Aw.up(R:Bo K φ G H)(sm:Ak H H'):∀(d:D)(v:V),BE m d=J'->Aw K (λa=>NW m φ G a\/B a) H' d v->Aw K (λa=>LV φ G a\/B a) H' d v
 |.non,_,_,h=>by simpa only[Aw]using h
 |.bl _,_,_,h=>by simpa only[Aw]using h
 |.int _,_,_,h=>by simpa only[Aw]using h
 |.str _,_,_,h=>by simpa only[Aw]using h
 |.ty _,_,_,h=>by simpa only[Aw]using h
 |.tup g,v,b,h=>by
  erw[BE]at b
  erw[Aw]at h ⊢
  let(a,f,e,q,r):=h
  show#[a,f,e,q,Ad.up R sm g f b r]
 |.lst g k,v,b,h=>by
  erw[BE,Dp,QW]at b
  erw[Aw]at h ⊢
  let(a,f,e,q,r):=h
  apply#[a,f,e,?_,Ad.up R sm g f b.2 r]
  rcases q with⟨n,q⟩|q
  .apply .Q #[λz=>z.Η (λ⟨j,c,l,p,s,t⟩=>n (.Q #[j,c,l,p,s,?_,t])) λz=>n (.σ z),q]
   let(u,w,z):=R.has p s
   let i:=sm _ _ z
   rw[t]at i
   rcases q with q|⟨o,q⟩
   .rw[i]at q;rw[wO (EH q)];show b.1
   .rw[i]at q;cases l<;>cases q
  .show .σ q
theorem Ad.up(R:Bo K φ G H)(sm:Ak H H'):∀(xs:U D)(vs:U V),Dc m xs=J'->Ad K (λa=>NW m φ G a\/B a) H' xs vs->Ad K (λa=>LV φ G a\/B a) H' xs vs
 |[],_,_,h=>by simpa only[Ad]using h
 |x::xs,vs,b,h=>by
  erw[Dc,Dp]at b
  erw[Ad]at h ⊢
  let(v,r,e,q,t):=h
  show#[v,r,e,Aw.up R sm x v b.1 q,Ad.up R sm xs r b.2 t]
end
theorem dK{i:Nat}{b:Kd}{a:O Ac}:(vw m s)[i]?≠Z (Sl.Κ xs b a):=λh=>by
 erw[vw,CM]at h;cases e:s.1[i]? with|none=>rw[e]at h;cases h|some x=>
  rw[e]at h;let h:=EH h;unfold Dx at h;split at h
  .cases h
  .cases h
  .cases h
  .split at h
   .cases h
   .split at h
    .split at h<;>cases h
    .cases h
theorem UY(h:Nf (NW m φ s.2) (vw m s) I a):NW m φ s.2 a:=h.Η id λ⟨_,_,_,_,h,_⟩=>(dK h).Η
open J in
theorem Bu.vw(R:Bu K φ s I H):Bn K (NW m φ s.2) H (vw m s) I H:=by
 apply#[by erw[Internal.vw,Bq];show R.ϩ,Ak.ω H,λa h=>R.g.nh h.lv,λi A e=>?_,λi j p B b E _ _ a h=>(dK h).Η];erw[Internal.vw,CM]at e;let(x,w,e):=B7.mp e;subst e;rcases R.slot i x w with rfl|⟨v,l,q⟩
 .trivial
 .cases x with
  |no=>show q.Η
  |val d=>show#[v,l,Aw.nw q λa f=>.Q (UY f).lv]
  |exc c=>let(a,C,rfl,o,r):=q;show#[a,C,l,o,r]
  |cel n=>
   cases t:tr m s.2 3 (.ξ n)with
   |some d=>
    let z:Dx m s.2 (.ξ n)=.y d:=by unfold Dx;dsimp only;rw[t]
    rw[z];show#[v,l,(dJ R.g t q).nw λa f=>.Q<|UY f]
   |none=>
    let(_,rfl):=q;let z:Dx m s.2 (.ξ n)=(match s.2[n]? with
     |some (.dat k p)=>if vk m k=J' then .no else .gV p k
     |_=>.no):=by unfold Dx;dsimp only;rw[t]
    rw[z];split
    .next k p e=>
     split
     .trivial
     .next u=>
      let u:vk m k=O':=by exists u
      let(y,o,r):=R.g.Ν n _ e;show#[_,y,l,#[#[n,_,k,e,rfl,u,rfl],by rw[o];show λz=>nomatch z],.Q o,r.nw λa f=>.Q (UY f).lv]
    .trivial
end
@[simp]def jO(m:Nat)(o:O D):O D:=o.L λd=>if BE m d=J' then Z d else J
@[simp]def jL(m:Nat)(o:A7):A7:=o.L λd=>if Dc m d=J' then Z d else J
def jE(m:Nat)(f:AG)(s:IS):O D:=jO m (f (vw m s))
def jG(m:Nat)(f:VE->A7)(s:IS):A7:=jL m (f (vw m s))
def jT(m:Nat)(t:VE->O Bool)(s:IS):O Bool:=t (vw m s)
def tJ(K:Ap)(g:IS->O D):TE:=λc H Q=>∃b s d,Bu K b s c H/\g s=Z d/\∀v a,Ak H a->Aw K (LV b s.2) a d v->Q v a
def UZ(fl:Kd)(K:Ap)(g:IS->A7):TE:=λh H Q=>∃e s d,Bu K e s h H/\g s=Z d /\
 ∀a f c,Ak H c->H a=J->c a=Z (CO K fl a d f)->Ad K (λb=>LV e s.2 b\/b=a) c d f->Q (.I a) c
def dL(K:Ap)(g:IS->O Bool):TT:=λc H Q=>∃d s b,Bu K d s c H/\g s=Z b/\∀a,Ak H a->Q b a
def EC(K:Ap)(g:IS->O Nat):TE:=λb H Q=>∃a s n,Bu K a s b H/\g s=Z n/\(n<s.2.a->Q (.I (a n)) H)
def C3(K:Ap)(g:IS->O (IV×Gh)):TE:=λc H Q=>∃d s r,Bu K d s c H/\g s=Z r /\
 ∀a v b,Bu K a (s.1,r.2) c b->AS K a r.2.a (LV a r.2) b r.1 v->Go d s.2 H a r.2 b->Q v b
def IP(K:Ap)(g:IS->O (U IV)):TA:=λe H Q=>∃a s c,Bu K a s e H/\g s=Z c /\
 ∀d b,Ak H b->Paired (AS K a s.2.a (LV a s.2) b) c d->Q d b
def U0(K:Ap)(g:IS->O IV):TE:=λc H Q=>∃a s x,Bu K a s c H/\g s=Z x /\
 ∀v b,Ak H b->AS K a s.2.a (LV a s.2) b x v->Q v b
section
variable{e:Expr}{f:AG}{ff:VE->A7}{t:VE->O Bool}{g:IS->O D}
theorem wP(m:Nat)(h:∀M H0,JE X e (tD X.K M H0 f)):JE X e (tJ X.K (jE m f)):=#[λb st i H Q t j=>by
 let(p,s,d,R,e,q):=j;let(r,k,e):=Ch.mp e;split at e
 .next l=>cases e;show(h _ _).h b st i H Q t #[_,_,R.vw,k,λv n sm o=>q v n sm<|(Aw.up (B:=λ_=>False) R.g sm _ _ l (o.nw λa c=>.Q<|.inl<|c.resolve_right id)).nw λa c=>.Q<|.Q c]
 .cases e]
theorem dM(m:Nat)(h:∀M H0,JE X e (Fv fl X.K M H0 ff)):JE X e (UZ fl X.K (jG m ff)):=#[λc st d H Q w f=>by
 let(t,s,u,R,e,q):=f;let(v,i,e):=Ch.mp e;split at e
 .next j=>
  cases e;show(h _ _).h c st d H Q w #[_,_,R.vw,i,λa k l sm n o p=>q a k l sm n o<|Ad.up R.g sm _ _ j<|p.nw λb r=>.Q<|r.imp .Q id]
 .cases e]
theorem wQ(m:Nat)(h:∀M H0,JT X e (B4 X.K M H0 t)):JT X e (dL X.K (jT m t)):=#[λa st c H Q g d=>by
 let(f,s,b,R,e,q):=d;show(h _ _).h a st c H Q g #[_,b,R.vw,e,q]]
end
section
variable{K:Ap}{G:Gh}{H:Hp}{s:IS}
theorem Bu.put(R:Bu K φ s I H){x:IV}{v:V}(i:Nat)(h:AS K φ s.2.a (LV φ s.2) H x v):Bu K φ (s.1.ν i x,s.2) (I.ν i (Z v)) H:=by
 apply#[by simp[R.len],R.g,λj y e=>?_];by_cases a:i=j
 .subst a;let b:i<s.1.a:=by have:=(Cr.mp e).1;exists this
  rw[Fa b]at e;cases e;show .σ #[v,by rw[Fa<|R.ϩ ▸ b];rfl,h]
 .rw[DR a]at e;rw[DR a];show R.ϕ j y e
@[simp]def ED(φ:Nat->Ac)(n:Nat)(a:Ac):Nat->Ac:=λj=>if j=n then a else φ j
theorem dN{c:Cl}{k:Kd}(l:c.kd=Z k){b:Ac}:LV (ED φ G.a a) (G++[c]) b↔LV φ G b\/b=a:=by
 constructor
 .intro zQ;let(n,g,h,e,d,f):=zQ;rw[Lr]at e;split at e
  .next i=>
   have:n≠G.a:=Cf i;erw[ED,if_neg this]at f;show .Q #[n,g,h,e,d,f]
  .next i=>
   cases hz:n-G.a with
   |zero=>
    have:n=G.a:=∅
    erw[ED,if_pos this]at f;show .σ f.τ
   |succ j=>rw[hz]at e;cases e
 .rintro(⟨n,g,h,e,d,f⟩|rfl)
  .show#[n,g,h,Fd ((Cr.mp e).1) ▸ e,d,by erw[ED,if_neg<|Cf<|(Cr.mp e).1];show f]
  .show#[G.a,c,k,by rw[G8<|AX _,Nat.sub_self];rfl,l,by erw[ED,if_true]]
theorem Go.new(sm:Ak H H'){c:Cl}{k:Kd}(f:H a=J)(g:c.kd=Z k):Go φ G H (ED φ G.a a) (G++[c]) H':=by
 apply#[λn d=>by erw[ED,if_neg<|Cf d],by simp,λb o e _=>sm b o e,λb h=>?_];grind [dN]
theorem Bo.new(R:Bo K φ G H)(sm:Ak H H'){c:Cl}{k:Kd}(l:H a=J)(u:c.kd=Z k)(E:UX K (ED φ G.a a) (G++[c]).a (LV (ED φ G.a a) (G++[c])) H' a c):Bo K (ED φ G.a a) (G++[c]) H':=by
 apply#[λn d e=>?_,λn m c1 c2 v w x y f g h=>?_]
 .rw[Lr]at e;split at e
  .next b=>
   let q:=R.Ν n d e;let z:ED φ G.a a n=φ n:=by erw[ED,if_neg<|Cf b]
   rw[z];cases d with
   |dead=>trivial
   |dat k A=>let(o,f,g):=q;show#[o,sm _ _ f,Ad.Τ (Go.new sm l u).st _ _ g]
   |mix k A=>let(o,f,g):=q;show#[o,sm _ _ f,Paired.mapP g λ_ _ q=>AS.go (Go.new sm l u) q]
  .next b=>
   cases hz:n-G.a with
   |zero=>
    let b:n=G.a:=∅
    simp_all
   |succ j=>rw[hz]at e;cases e
 .let at_:∀{n:Nat} {d:Cl} {p:Kd},(G++[c])[n]?=Z d->d.kd=Z p->(n<G.a/\G[n]?=Z d/\ED φ G.a a n≠a)\/n=G.a:=λ{n d p} e r=>by
   rw[Lr]at e;split at e
   .next b=>
    apply .Q #[b,e,?_];erw[ED,if_neg<|Cf b];intro z;show R.nh ⟨n,d,p,e,r,z⟩ l
   .next b=>
    cases hz:n-G.a with
    |zero=>show .σ ∅
    |succ j=>rw[hz]at e;cases e
  rcases at_ x f with⟨b,s,B⟩|b<;>rcases at_ y g with⟨i,t,C⟩|i
  .erw[ED,if_neg<|Cf b,if_neg<|Cf i]at h;show R.inj n m c1 c2 v w s t f g h
  .show(B (by rw[h,i];erw[ED,if_true])).Η
  .show(C (by rw[<- h,b];erw[ED,if_true])).Η
  .rw[b,i]
theorem wR{n:Nat}{c c':Cl}{k:Kd}(e:G[n]?=Z c)(l:c.kd=Z k)(g:c'.kd=Z k'){b:Ac}:LV φ (G.ν n c') b↔LV φ G b:=by
 constructor
 .intro zQ;let(j,c1,h,f,i,a):=zQ;by_cases d:n=j
  .subst d;show#[n,c,k,e,l,a]
  .rw[DR d]at f;show#[j,c1,h,f,i,a]
 .intro zQ;let(j,c1,h,f,i,a):=zQ;by_cases d:n=j
  .subst d;show#[n,c',k',by rw[Fa<|(Cr.mp e).1],g,a]
  .show#[j,c1,h,by rw[DR d];show f,i,a]
theorem Bo.chg(R:Bo K φ G H){n:Nat}{c c':Cl}{k:Kd}{u:HO}(e:G[n]?=Z c)(i:c.kd=Z k)(t:c'.kd=Z k') (x:∀L N H',Go φ G H φ (G.ν n c') H'->H' (φ n)=Z u->L=(G.ν n c').a->N=LV φ (G.ν n c')->UX K φ L N H' (φ n) c'):Bo K φ (G.ν n c') (AK H (φ n) u)/\Go φ G H φ (G.ν n c') (AK H (φ n) u):=by
 let go:Go φ G H φ (G.ν n c') (AK H (φ n) u):=by
  apply#[λ_ _=>rfl,by simp,λa o v z=>?_,λb y=>.Q<|(wR e i t).mp y];let ne:a≠φ n:=by
   rintro rfl;rcases z with z|z|z
   .show z #[n,c,k,e,i,rfl]
   .show z
   .let(w,p,q):=R.has e i;rw[v]at q;cases q;rw[ak]at z;cases z
  rw[Zl ne];show v
 apply#[#[λj c1 d=>?_,λj m c1 c2 r s d A f l h=>?_],go]
 .by_cases g:n=j
  .subst g;rw[Fa (Cr.mp e).1]at d;cases d;show x _ _ _ go ZT rfl rfl
  .rw[DR g]at d;let q:=R.Ν j c1 d;cases c1 with
   |dead=>trivial
   |dat s w=>
    let(p,f,l):=q;show#[p,by rw[Zl λz=>g (R.inj j n _ _ _ _ d e rfl i z).τ];show f,Ad.Τ go.st _ _ l]
   |mix s w=>
    let(p,f,l):=q;show#[p,by rw[Zl λz=>g (R.inj j n _ _ _ _ d e rfl i z).τ];show f,Paired.mapP l λ_ _ q=>AS.go go q]
 .let at_:∀{j:Nat} {c1:Cl} {r:Kd},(G.ν n c')[j]?=Z c1->c1.kd=Z r->∃c2 s,G[j]?=Z c2/\c2.kd=Z s:=λ{j c1 r} d f=>by
   by_cases g:n=j
   .subst g;show#[c,k,e,i]
   .rw[DR g]at d;show#[c1,r,d,f]
  let(B,l1,C,E):=at_ d f;let(Q,F,M,P):=at_ A l;show R.inj j m B Q l1 F C M E P h
end
@[simp]def xD(o:O D)(s:IS):O (IV×Gh):=o.j λd=>(.y d,s.2)
@[simp]def xF(fl:Kd)(o:A7)(s:IS):O (IV×Gh):=o.j λl=>(.y (.O l fl),s.2)
@[simp]def xC(fl:Kd)(o:A7)(s:IS):O (IV×Gh):=o.j λl=>(.ξ s.2.a,s.2++[.Μ fl l])
@[simp]def xP(o:O Nat)(s:IS):O (IV×Gh):=o.L λn=>if n<s.2.a then Z (.ξ n,s.2)else J
@[simp]def Bw(s:IS)(i:Nat):O Nat:=match s.1[i]? with
  |some (.cel n)=>Z n
  |_=>J
@[simp]def OU(c f:Af)(s:IS)(o:O Nat):O Nat:=o.L λn=>match s.2[n]? with
  |some (.mix (.i ns a) b)=>if a=c then match(ns.zip b).S f with
   |some (.cel j)=>Z j
   |_=>J
   else J
  |_=>J
section
variable{e:Expr}{g:IS->O D}{gf:IS->A7}{g1:IS->O IV}
theorem U1(h:JE X e (tJ X.K g)):JE X e (C3 X.K λs=>xD (g s) s):=#[h.h.κ λi H Q b=>by
 let(a,s,r,R,e,q):=b;let(d,hd,rfl):=B7.mp e;show#[a,s,d,R,hd,λv c sm f=>q a v c (R.δ sm) f<|Go.δ sm]]
theorem wT(h:JE X e (UZ fl X.K gf)):JE X e (C3 X.K λs=>xF fl (gf s) s):=#[h.h.κ λp H Q d=>by
 let(c,s,r,R,e,q):=d;let(l,f,rfl):=B7.mp e;apply#[c,s,l,R,f,λa i j sm k m n=>q c _ j (R.δ sm) ?_<|Go.same sm];show⟨a,i,rfl,.of (λz=>R.g.nh z k) m,n.nw λb o=>.Q<|.Q o⟩]
theorem wU(h:JE X e (UZ fl X.K gf)):JE X e (C3 X.K λs=>xC fl (gf s) s):=#[h.h.κ λp H Q d=>by
 let(f,s,r,R,e,q):=d;let(l,i,rfl):=B7.mp e;apply#[f,s,l,R,i,λa j k sm c m n=>?_];apply q _ _ k (R.go (R.g.new sm c rfl #[j,m,n.nw λb o=>.Q<|(dN rfl).mp o]) (Go.new sm c rfl)) ⟨by simp,by erw[ED,if_true]⟩ (Go.new sm c rfl)]
theorem dO(h:JE X e (EC X.K gp)):JE X e (C3 X.K λs=>xP (gp s) s):=#[h.h.κ λf H Q c=>by
 let(a,s,r,R,e,q):=c;let(n,d,e):=Ch.mp e;split at e
 .next b=>cases e;show#[a,s,n,R,d,λb=>q a _ H R #[b,rfl]<|Go.δ<|Ak.ω H]
 .cases e]
open J in
theorem dP{i:Nat}{x:Af}(b:NV X i x:=by show EM):JE X (.ε x pos) (EC X.K λs=>Bw s i):=#[(Ha b).κ λc H Q d=>by
 let(f,s,n,R,e,q):=d;dsimp only at e;unfold Bw at e;split at e
 .next j g=>
  cases e;rcases R.slot i _ g with z|⟨v,a,h,rfl⟩
  .cases z
  .apply#[.I<|f n,?_,q h];cases z:c[i]? with
   |none=>rw[z]at a;cases a
   |some o=>rw[z]at a;cases a;rfl
 .cases e]
theorem dQ{K:Ap}{φ:Nat->Ac}{L:Nat}{N:Fb}{H:Hp}{f:Af}{x:IV}:∀{ns:U Af}{xs:U IV}{vs:U V},Paired (AS K φ L N H) xs vs->(ns.zip xs).S f=Z x->∃v,(ns.zip vs).S f=Z v/\AS K φ L N H x v
 |[],_,_,_,e=>by simp at e
 |_::_,[],_,_,e=>by simp at e
 |n::ns,y::b,_,.cons q t,e=>by
  erw[Lg,List.lookup_cons]at e ⊢;cases a:f==n with
  |true=>rw[a]at e;cases e;show#[_,rfl,q]
  |false=>rw[a]at e;show dQ t e
open J in
theorem wV{c f:Af}(i:nsIn X.K CZ c=Z (Z (.I C)))(l:Fs X.K C)(m:BQ X.K C f)(p:JE X o (EC X.K gp))(r:FQ o f X.G (Ar o X.G)=Ar o X.G:=by rfl):JE X (.α o f pos) (EC X.K λs=>OU c f s (gp s)):=#[(YH p.h r).κ λE H Q t=>by
 let(u,s,n,R,e,q):=t;let(j,x,w):=Ch.mp e;split at w
 .next ns G M y=>
  split at w
  .next a=>
   subst a;split at w
   .next k z=>
    cases w;apply#[u,s,j,R,x,λF=>?_];let(L,d,A):=R.g.Ν j _ y;let(v,B,b,rfl):=dQ A z;erw[CO,Kx i]at d;show#[_,C,_,_,_,rfl,.Q d,l,m,B,q b]
   .cases w
  .cases w
 .cases w]
theorem dR(h:JE X e (tJ X.K g)):JE X e (U0 X.K λs=>(g s).j .y):=#[h.h.κ λi H Q a=>by
 let(b,s,r,R,e,q):=a;let(d,hd,rfl):=B7.mp e;show#[b,s,d,R,hd,λv c sm f=>q v c sm f]]
theorem wX(h:JE X e (EC X.K gp)):JE X e (U0 X.K λs=>(gp s).j .ξ):=#[h.h.κ λf H Q a=>by
 let(b,s,r,R,e,q):=a;let(n,c,rfl):=B7.mp e;show#[b,s,n,R,c,λd=>q _ H (Ak.ω H) #[d,rfl]]]
theorem dS:JA X [] (IP X.K λ_=>Z []):=#[Ba.κ λb H Q a=>by
 let(c,s,d,R,e,q):=a;cases e;show q [] H (Ak.ω H) .ϔ]
theorem dT(h:JE X e (U0 X.K g1))(d:JA X es (IP X.K ga))(f:AJ (e::es) X.G=(O',Ar e X.G)::AJ es X.G:=by show D8 rfl):JA X (e::es) (IP X.K λs=>Zk (g1 s) (ga s)):=#[(Z2 h.h d.h f).κ λn H Q g=>by
 let(a,s,o,R,e,q):=g;let(x,r,i,j,rfl):=Jj e;show#[a,s,x,R,i,λv p b k=>#[a,s,r,R.δ b,j,λt l c m=>q _ l (b.E c)<|.Θ (k.go<|Go.δ c) m]]]
end
inductive RI where
 |fail|next(s:IS)|brk (s:IS)|cont (s:IS)|ret (x:IV) (G:Gh)
abbrev A8:=IS->RI
def U2(K:Ap)(φ:Nat->Ac)(G:Gh)(H:Hp)(d:IS)(Q:St->Hp->Prop):Prop:=∀a b c,Bu K a d b c->Go φ G H a d.2 c->Q b c
def Ci(K:Ap)(φ:Nat->Ac)(G:Gh)(H:Hp)(D:Ends):RI->Prop
 |.fail=>False
 |.next b=>U2 K φ G H b D.nx
 |.brk b=>U2 K φ G H b D.bk
 |.cont b=>U2 K φ G H b D.ct
 |.ret x c=>∀a v d,Bo K a c d->AS K a c.a (LV a c) d x v->Go φ G H a c d->D.rt v d
def tK(K:Ap)(g:A8):TS:=λD b H=>∃a s,Bu K a s b H/\Ci K a s.2 H D (g s)
set_option backward.eqns.nonrecursive true in
@[simp]def Zo(a:RI)(g:A8):RI:=match a with
  |.next s=>g s
  |r=>r
@[simp]def C4(c:O Bool)(a b:RI):RI:=match c with
  |some J'=>a
  |some O'=>b
  |none=>.Ω
@[simp]def CV(i:Nat)(o:O (IV×Gh))(s:IS):RI:=match o with
  |some r=>.U (s.1.ν i r.1,r.2)
  |none=>.Ω
@[simp]def Fi(o:O (IV×Gh)):RI:=match o with
  |some r=>.ϸ r.1 r.2
  |none=>.Ω
@[simp]def C5(o:O (IV×Gh))(s:IS):RI:=match o with
  |some r=>.U (s.1,r.2)
  |none=>.Ω
def F4(i:Nat)(g:A8):U D->A8
 |[],s=>.U s
 |d::b,s=>match g (s.1.ν i (.y d),s.2)with
  |.next a=>F4 i g b a
  |.cont a=>F4 i g b a
  |.brk a=>.U a
  |r=>r
@[simp]def JD(i:Nat)(g:A8)(o:A7)(s:IS):RI:=match o with
  |some a=>F4 i g a s
  |none=>.Ω
@[simp]def Kz:D->A7
  |.lst a .l=>Z a
  |_=>J
@[simp]def Q1:D->A7
  |.int j=>gd (-1000000000<=j/\j<1000000000) (Z (Iu 0 j.θ))
  |_=>J
section
variable{K:Ap}{φ1:Nat->Ac}{G G1:Gh}{H H1:Hp}{D:Ends}{r:RI}
theorem Ci.from(g:Go φ G H φ1 G1 H1)(h:Ci K φ G H D r):Ci K φ1 G1 H1 D r:=by
 cases r with
 |fail=>show h
 |next s=>show λa b c R go=>h a b c R<|g.E go
 |brk s=>show λa b c R go=>h a b c R<|g.E go
 |cont s=>show λa b c R go=>h a b c R<|g.E go
 |ret x e=>show λa v c R d go=>h a v c R d<|g.E go
end
section
variable{st:AF}{AW a b:U AF}{g g1 g2:A8}{gd':IS->O D}{c:Expr}{t:IS->O Bool}{pos':AB}{e:Expr}{x:Af}
theorem wY:JB X [] (tK X.K λs=>.U s):=#[EI.κ λD a H ⟨b,s,R,q⟩=>q b a H R<|Go.δ<|Ak.ω H]
theorem dU(d:JS X st (tK X.K g1))(e:JB X AW (tK X.K g2)):JB X (st::AW) (tK X.K λs=>Zo (g1 s) g2):=#[(Tf d.h e.h).κ λD k H f=>by
 let(g,s,R,q):=f;dsimp only at q;apply#[g,s,R,?_];cases a:g1 s with
 |fail=>rw[a]at q;show q
 |next b=>rw[a]at q;show λc i l j go=>#[c,b,j,Ci.jk go q]
 |brk b=>rw[a]at q;show q
 |cont b=>rw[a]at q;show q
 |ret x m=>rw[a]at q;show q]
theorem wZ:JS X st (tK X.K λ_=>.Ω):=#[Hz.κ λD a H ⟨b,s,R,q⟩=>q]
theorem w5(f:JT X c (dL X.K t))(g:JB X a (tK X.K g1))(i:JB X b (tK X.K g2)):JS X (.If c a b pos) (tK X.K λs=>C4 (t s) (g1 s) (g2 s)):=#[(PZ f.h g.h i.h).κ λD l H j=>by
 let(d,s,R,q):=j;dsimp only at q;cases e:t s with|none=>rw[e]at q;show q.Η|some k=>
  rw[e]at q;apply#[d,s,k,R,e,λm sm=>?_];cases k with
  |true=>show Lk #[d,s,R.δ sm,Ci.jk (Go.δ sm) q]
  |false=>show Ll #[d,s,R.δ sm,Ci.jk (Go.δ sm) q]]
theorem dV{i:Nat}(c:X.N.η)(d:JE X e (C3 X.K gx))(f:X.N[i]?=Z x:=by rfl)(g:Loc X.G.Ξ x:=by ac_rfl)(j:EJ e (Z (.Name x pos')) pos.line X.env=Am O':=by rfl)(k:X.fn x=J'\/X.env.scope.names.lookup x=Z .local:=by ac_rfl):JS X (.Assign [.Name x pos'] e pos) (tK X.K λs=>CV i (gx s) s):=#[(P4 c f g d.h j k).κ λD t H l=>by
 let(m,s,R,q):=l;dsimp only at q;cases a:gx s with
 |none=>rw[a]at q;show q.Η
 |some r=>rw[a]at q;show#[m,s,r,R,a,λb v n o p go=>q b _ n (o.put i p) go]]
theorem w6(c:JE X e (C3 X.K gx)):JS X (.v0 (Z e) pos) (tK X.K λs=>Fi (gx s)):=#[(PY c.h).κ λD l H d=>by
 let(f,s,R,q):=d;dsimp only at q;cases a:gx s with
 |none=>rw[a]at q;show q.Η
 |some r=>rw[a]at q;show#[f,s,r,R,a,λb v i j k go=>q b v i j.g k go]]
theorem w9(c:JE X e (C3 X.K gx))(d:EJ e J pos.Ϯ X.G=Am O':=by rfl):JS X (.Expr e pos) (tK X.K λs=>C5 (gx s) s):=#[(PX c.h d).κ λD k H f=>by
 let(g,s,R,q):=f;dsimp only at q;cases a:gx s with
 |none=>rw[a]at q;show q.Η
 |some r=>rw[a]at q;show#[g,s,r,R,a,λb v i j l go=>q b _ i j go]]
def U3(K:Ap)(f:IS->A7):TI:=λd H R=>∃b s c,Bu K b s d H/\f s=Z c/\∀e a,Ak H a->MC K (λ_=>False) (LV b s.2) a e c->R e a
theorem xa{t:Expr}(h:JE X e (tJ X.K gd')):JI X t e (U3 X.K λs=>(gd' s).L Kz):=#[(Ti h.h).κ λG H N u=>by
 let(m,s,F,R,e,q):=u;let(d,hd,e):=Ch.mp e;unfold Kz at e;split at e
 .cases e;apply#[m,s,_,R,hd,λv n A B=>?_];let(a,c,C,f,o):=B;let p:∀j g,Step (λ_=>False) (LV m s.2) j n g->BW X.K g a c:=λj g S=>by
   rcases f with⟨E,f⟩|⟨L,z,f⟩
   .show .Q<|f.Τ S<|.Q E
   .cases z;show f.sq
  apply#[a,C,#[c,p _ _ Step.ω],q _ n A λj g S i=>?_];let b:=p _ _ S;apply#[λd k=>?_,λk=>#[c,b,by rw[k,o.a];show AX _]];let(w,r,l):=(Ad.Τ S _ _ o).Ρ k;apply#[#[c,w,b,r],λx M y=>?_];let(rfl,y):=y;have:=y c b;rw[r]at this;cases this;show#[Ak.ω _,l]
 .cases e]
open J in
theorem xc{c a:Expr}{p:AB}(f:Gl X "range")(g:X.mg "range"=J)(i:JE X a (tJ X.K gd'))(k:AJ [a] X.G=[(O',Ar a X.G)]:=by rfl)(b:AJ (a::[]) X.G=(O',Ar a X.G)::AJ [] X.G:=by show D8 rfl):JI X c (.Λ (.ε "range" p) [a] [] pos) (U3 X.K λs=>(gd' s).L Q1):=#[(Yr f g (dT (dR i) dS b).h k).κ λu H v l=>by
   let(m,s,w,R,e,q):=l;let(d,hd,e):=Ch.mp e;unfold Q1 at e;split at e
   .next j=>
    let(x,e):=Qt e;cases e;apply#[m,s,[.y<|.int j],R,by erw[hd,Ka,Zk,Cp],λy n sm o=>?_];cases o with
    |cons r t=>
     cases t;subst r;show#[j,rfl,∅,∅,q _ n sm TX]
   .cases e]
theorem xf{p:U AF}{f:IS->A7}{i:Nat}{tp:AB}(hp:PassesOwn (Ae X.β X.w) X.A X.G X.xe)(hc:X.ϵ=J')(hi:JI X (.ε x tp) iter (U3 X.K f))(hN:X.N.η)(hb:JB X p (tK X.K g)) (P:X.N[i]?=Z x:=by rfl) (hx:Loc X.G.Ξ x:=by ac_rfl) (hf:X.fn x=J'\/X.env.scope.names.lookup x=Z .local:=by ac_rfl) (hs:∀x,E1 iter X.env x=Am x:=by intro _;rfl):JS X (.For (.Name x tp) iter p [] pos) (tK X.K λs=>JD i g (f s) s):=#[(NI hp hc hi.h (Th hN P hx hf) hb.h hs).κ λY I H z0=>by
 let(L,s,R,q):=z0;dsimp only at q;cases r:f s with|none=>rw[r]at q;show q.Η|some j=>
  rw[r]at q;apply#[L,s,j,R,r,λF Q s1 ok=>?_];apply#[λn m t u=>m=j.a-n/\n<=j.a/\∃a c,Bu X.K a c t u/\Go L s.2 Q a c.2 u/\Ci X.K a c.2 u Y (F4 i g (j.ρ n) c),#[j.a,by simp,E3 _,L,s,R.δ s1,Go.δ<|Ak.ω Q,Ci.jk (Go.δ s1) q],?_];intro n m t u zQ;let(rfl,hle,a,c,Rn,gn,k):=zQ;let(T,S):=ok _ _ gn.st n;by_cases l:n<j.a
  .let(go,y):=T j[n]<|Cb l;rw[HK l]at k;erw[F4]at k;apply .inr ⟨go,λG B=>n+1<=j.a/\∃a c,Bu X.K a c G B/\Go L s.2 Q a c.2 B/\Ci X.K a c.2 B Y (F4 i g (j.ρ<|n+1) c),λG B z=>⟨j.a-(n+1),by show Nat.sub_succ_lt_self j.a n l,rfl,z⟩,λx B yl=>?_⟩;let(s3,hd):=y x B yl;let E:Go a c.2 u a c.2 B:=Go.δ s3;apply#[a,(c.1.ν i<|.y j[n],c.2),(Rn.δ s3).put i hd,?_];cases o:g (c.1.ν i<|.y j[n],c.2)with
   |fail=>rw[o]at k;show k
   |next M=>rw[o]at k;show λd C W R2 b=>#[l,d,M,R2,gn.E<|E.E b,Ci.jk (E.E b) k]
   |cont M=>rw[o]at k;show λd C W R2 b=>#[l,d,M,R2,gn.E<|E.E b,Ci.jk (E.E b) k]
   |brk M=>rw[o]at k;show λd C W R2 b=>k d C W R2<|E.E b
   |ret x G'=>rw[o]at k;show λd v W R2 hv b=>k d v W R2 hv<|E.E b
  .let e:n=j.a:=∅
   subst e;rw[Lh<|AX _]at k;show .Q ⟨S rfl,k a t u Rn<|Go.δ<|Ak.ω u⟩]
end
abbrev FI:=U IV->Gh->O (IV×Gh)
def CW(K:Ap)(F:FI):Sp:=λe H Q _=>∃b G d r,Bo K b G H/\Paired (AS K b G.a (LV b G) H) d e/\F d G=Z r /\
 ∀a v c,Bo K a r.2 c->AS K a r.2.a (LV a r.2) c r.1 v->Go b G H a r.2 c->Q v c
def D4(a n:Nat)(g:A8):FI:=λb G=>if b.a=a then
  match g (b++EK (n-a) .no,G)with
  |.ret x c=>Z (x,c)
  |.next s=>Z (.y .Α,s.2)
  |_=>J
 else J
theorem fi{a n:Nat}{g:A8}{xs:U IV}{G:Gh}{r:RI}(h:xs.a=a):g (xs++EK (n-a) .no,G)=r->D4 a n g xs G=match r with
  |.ret x b=>Z (x,b)
  |.next s=>Z (.y .Α,s.2)
  |_=>J:=λe=>by subst h e;show if_pos rfl
theorem xg{K:Ap}{G:Gh}{H:Hp}{xs:U IV}(R:Bo K φ G H)(h:Paired (AS K φ G.a (LV φ G) H) xs vs)(n:Nat):Bu K φ (xs++EK n .no,G) (vs.j Z++EK n J) H:=by
 apply#[by simp[Nb h],R,λi x e=>?_];rw[Lr]at e;split at e
 .next a=>
  let(v,b,q):=dg h e;show .σ #[v,by rw[Fd (by simpa[<- (Nb h)]using a),CM,b];rfl,q]
 .rw[Lb]at e;let(_,e):=Z0 e;cases e;show .Q rfl
section
variable{P:AM}{w:Aj}{K:Ap}{mg:Bz}{base:Al}{x qual nm:Af}{st:AF}{f fn:Ac}{fd:Cs}{N:U Af}{k:Nat}{g g0:A8}
theorem dW(F:J7 K x qual st f fd)(S:Ft N ps (Zg st))(t:ps.a<=N.a) (u:∀(b:Aa) (A:Ag) (outer:U Env) (s:Ab) (H:Hp) (E:XK),AL k (A.ϫ (Bj qual (Zg st) s.u.J.o f b))->JB (D6 Bp P w K mg base N qual (Zg st) f b A outer s H E).nox (ZU st) (tK K g)):A2 P w K mg base Bp (k+1) f fd ps (CW K (D4 ps.a N.a g)):=by
 apply F.ok S (λi H Q E h=>?_) (λb A outer s H i Q E y h=>?_)
 .let(n,G,o,r,R,e,a,q):=h;let(j,a):=Z0 a;rw[<- Nb e];show j
 .let(n,G,o,r,R,e,a,q):=h;apply#[_,(u b A outer s H E y).h,?_];let(j,a):=Z0 a;rw[show HD N i=i.j Z++EK (N.a-ps.a) J by unfold HD;rw[<- Nb e,j]];apply#[n,_,xg R e<|N.a-ps.a,?_];cases d:g (o++EK (N.a-ps.a) .no,G)with
  |fail=>rw[d]at a;cases a
  |next p=>rw[d]at a;cases a;show λc z l m go=>q c .Α l m.g (by erw[AS,Aw]) go
  |brk p=>rw[d]at a;cases a
  |cont p=>rw[d]at a;cases a
  |ret x C=>rw[d]at a;cases a;show λc v l m B go=>q c v l m B go
theorem xh(D:DI K mg nm st ps fn fd)(S:Ft N ps (Zg st)) (c:∀(a:Aa) (A:Ag) (outer:U Env) (s:Ab) (H:Hp) (E:XK),AL k (A.ϫ (Bj nm (Zg st) s.u.J.o fn a))->JB (D6 Bp P w K mg base N nm (Zg st) fn a A outer s H E).nox (ZU st) (tK K g0)) (e:g0=g:=by rfl) (b:ps.a<=N.a:=by ext):A2 P w K mg base Bp (k+1) fn fd ps (CW K (D4 ps.a N.a g)):=dW D.F S b (e ▸ c)
theorem xi(D:MI K C nm qual st ps fn fd)(S:Ft N ps (Zg st)) (c:∀(a:Aa) (A:Ag) (outer:U Env) (s:Ab) (H:Hp) (E:XK),AL k (A.ϫ (Bj qual (Zg st) s.u.J.o fn a))->JB (D6 Bp P w K mg base N qual (Zg st) fn a A outer s H E).nox (ZU st) (tK K g0)) (e:g0=g:=by rfl) (b:ps.a<=N.a:=by ext):A2 P w K mg base Bp (k+1) fn fd ps (CW K (D4 ps.a N.a g)):=dW D.F S b (e ▸ c)
end
@[simp]def Ho(F:FI)(o:O (U IV))(s:IS):O (IV×Gh):=o.L λa=>F a s.2
@[simp]def Ep(c m:Af):Cl->Bool
  |.dat (.i ns a) _=>decide (a=c)&&!ns.contains m
  |.mix (.i ns a) _=>decide (a=c)&&!ns.contains m
  |_=>O'
@[simp]def DQ(c m:Af)(F:FI)(p:O Nat)(o:O (U IV))(s:IS):O (IV×Gh):=p.L λn=>match s.2[n]? with
  |some cl=>if Ep c m cl=J'/\n<s.2.a then o.L λa=>F (.ξ n::a) s.2 else J
  |none=>J
@[simp]def Nh(c:Af)(F:FI)(o:O (U IV))(s:IS):O (IV×Gh):=o.L λa=>(F (.ξ s.2.a::a) (s.2++[.mix (.i [] c) []])).L λr=>match r.1 with
  |.val .non=>Z (.ξ s.2.a,r.2)
  |_=>J
@[simp]def GV(c f:Af)(p:IS->O Nat)(o:O (IV×Gh))(s:IS):RI:=match o with
  |some r=>match p (s.1,r.2)with
   |some n=>match r.2[n]? with
    |some (.mix (.i ns b) a)=>if b=c/\ns.a=a.a/\ns.a<1000 then .U (s.1,r.2.ν n (.mix (.i (putN f ns) c) (D2 f r.1 ns a)))else .Ω
    |_=>.Ω
   |none=>.Ω
  |none=>.Ω
section
variable{e:Expr}{pos' p:AB}{F:FI}{k n:Nat}{fn:Ac}{fd:Cs}{x c m f:Af}{E:XK}
theorem xj(G:A2 X.β X.w X.K X.mg X.χ CX k fn fd ps (CW X.K F))(j:AL k X.A)(l:Gl X x)(m:X.mg x=Z (.I fn))(n:Jb X.K (.I fn)=J')(o:Binds X.K fd ps [])(a:FR CX X E) (t:JA X (e::es) (IP X.K ga)) (hz:CA X x e es pos:=by show Gj):JE X (.Λ (.ε x p) (e::es) [] pos) (C3 X.K λs=>Ho F (ga s) s):=#[(Qb G j l m n o .ϔ a t.h hz.d hz.s hz.p).κ λN H Q u=>by
 let(f,s,r,R,e,q):=u;let(i,a,y):=Ch.mp e;show#[f,s,i,R,a,λM L sm z=>#[f,s.2,i,r,R.g.δ sm,by rw[Eh];show z,y,λb v B C c go=>q b v B (R.go C<|(Go.δ sm).E go) c<|(Go.δ sm).E go]]]
theorem xk{K:Ap}{G:Gh}{H:Hp}{cl:Cl}(b:nsIn K CZ c=Z (Z (.I C)))(R:Bo K φ G H)(e:G[n]?=Z cl)(h:Ep c m cl=J'):∃f d,H (φ n)=Z (.ins C f d)/\d.S m=J:=by
 let q:=R.Ν n cl e;unfold Ep at h;split at h
 .erw[Dp,decide_eq_true_eq,QW]at h;let(rfl,h):=h;let(g,a,_):=q;erw[CO,Kx b]at a;show#[_,_,a,ON h]
 .erw[Dp,decide_eq_true_eq,QW]at h;let(rfl,h):=h;let(g,a,_):=q;erw[CO,Kx b]at a;show#[_,_,a,ON h]
 .cases h
theorem dX(i:nsIn X.K CZ c=Z (Z (.I C))){H:Hp}{Q:VK}(h:C3 X.K (λs=>DQ c m F (gp s) (ga s) s) I H Q):J2 C m (CW X.K F) [] E (EC X.K gp) (IP X.K ga) I H Q:=by
 let(a,s,r,R,e,q):=h;let(n,j,e):=Ch.mp e;split at e
 .next cl k=>
  let(l,e):=Z0 e;let(f,o,p):=Ch.mp e;apply#[a,s,n,R,j,λt=>?_];let(u,w,x,y):=xk i R.g k l.1;apply#[a n,u,w,rfl,.Q x,y,a,s,f,R,o,λG L sm z=>#[a,s.2,.ξ n::f,r,R.g.δ sm,.Θ #[t,rfl] (by rw[Eh];show z),p,λb v A B d go=>q b v A (R.go B<|(Go.δ sm).E go) d<|(Go.δ sm).E go]]
 .cases e
section
variable(hC:nsIn X.K CZ c=Z (Z (.I C)))(cl:Fs X.K C)(hm:K8 X.K C m fn)(G:A2 X.β X.w X.K X.mg X.χ CX k fn fd ps (CW X.K F))(hr:AL k X.A)(hb:Binds X.K fd ps [])(hx:FR CX X E)(ho:JE X o (EC X.K gp))
include hC cl hm G hr hb hx ho
theorem xm(d:JA X (e::es) (IP X.K ga)) (a:AJ (e::es) X.G=(O',Ar e X.G)::AJ es X.G:=by show D8 rfl) (b:(AD pos (AJ es X.G)).any (·.1)=O':=by rfl) (f:ME X o m (e::es) pl apos pos:=by rfl):JE X (.Λ (.α o m apos) (e::es) [] pos) (C3 X.K λs=>DQ c m F (gp s) (ga s) s):=#[(Tr ho.h cl hm G hr hb .ϔ hx d.h a b f).κ λ_ _ _ h=>dX hC h]
theorem xn(b:ME X o m [] pl apos pos:=by rfl):JE X (.Λ (.α o m apos) [] [] pos) (C3 X.K λs=>DQ c m F (gp s) (Z []) s):=#[(Ts ho.h cl hm G hr hb .ϔ hx b).κ λu H Q h=>by
 let(d,s,n,R,e,q):=dX (E:=E) hC h;apply#[d,s,n,R,e,λf=>?_];let(a,g,i,j,k,l,p,v,w,R2,r,t):=q f;cases r;show#[a,g,i,j,k,l,t [] H (Ak.ω H) .ϔ]]
end
theorem xo(L:nsIn X.K CZ c=Z (Z (.I C)))(M:Mk X.K C fn)(G:A2 X.β X.w X.K X.mg X.χ CX n fn fd ps (CW X.K F))(N:AL (n+1) X.A)(S:Gl X x)(T:X.mg x=Z (.I C))(W:Binds X.K fd ps [])(Y:FR CX X E) (f:JA X (e::es) (IP X.K ga)) (hz:CA X x e es pos:=by show Gj):JE X (.Λ (.ε x p) (e::es) [] pos) (C3 X.K λs=>Nh c F (ga s) s):=#[(pG M G N S T W .ϔ Y f.h hz.d hz.s hz.p).κ λI H Q z0=>by
 let(φ,s,r,R,e,q):=z0;let(u,l,e):=Ch.mp e;let((y,G'),hF,e):=Ch.mp e;dsimp only at e;split at e
 .cases e;apply#[φ,s,u,R,l,λvs z B hv a k f hd m=>?_];generalize j:AK (AK z k<|.own a) a (.ins C k [])=zA;let sm:Ak z zA:=j ▸ (ZV hd).trans (ZV<|Zl (show a≠k by lia) ▸ f);apply⟨_,_,.cel s.2.length::u,_,((R.g.same B).new sm f (c:=.mix (.i [] c) []) rfl ⟨[],by rw[show zA a=Z (.ins C k []) by rw[<- j,ZT],m];erw[CO,Kx L,Nat.add_sub_cancel];rfl,.nil⟩),.cons ⟨by simp,by erw[ED,if_true]⟩ (by rw[Eh];show Paired.mapP hv λ_ _ q=>AS.go (Go.new sm f rfl) q),hF,λo v H3 R3 t b=>?_⟩;let P:=((Go.δ B).E<|Go.new sm f rfl).E b;show⟨t,q o _ H3 (R.go R3 P) ⟨B3 (by simp) b.ϩ,by rw[b.ext _ (by simp)];erw[ED,if_true]⟩ P⟩
 .cases e]
theorem xp{K:Ap}{L:Nat}{N:Fb}{H:Hp}{y:IV}{v:V}{ns:U Af}{xs:U IV}(a:ns.a=xs.a)(h:Paired (AS K φ L N H) xs vs)(q:AS K φ L N H y v):Paired (AS K φ L N H) (D2 f y ns xs) (D2 f v ns vs):=by
 induction h generalizing ns with
 |nil=>cases ns with
  |nil=>show .Θ q .ϔ
  |cons=>cases a
 |cons h t b=>cases ns with|nil=>cases a|cons=>
   erw[D2];split
   .show .Θ q t
   .show .Θ h<|b (by exists a)
open J in
theorem xq(t:nsIn X.K CZ c=Z (Z (.I C)))(cl:Fs X.K C)(A:BQ X.K C f)(B:JE X o (EC X.K gp))(E:JE X e (C3 X.K gx)) (G:EJ e (Z (.α o f pos')) pos.Ϯ X.G=Am O':=by rfl):JS X (.Ϭ [.α o f pos'] e pos) (tK X.K λs=>GV c f gp (gx s) s):=#[(py B.h E.h G).κ λD W H F=>by
   let(M,s,R,q):=F;unfold GV at q;dsimp only at q;split at q
   .next r P=>
    apply#[M,s,r,R,P,λa v l j Q go=>?_];split at q
    .next n m=>
     apply#[a,(s.1,r.2),n,j,m,λhl=>?_];split at q
     .next ns k p w=>
      split at q
      .next T=>
       let(rfl,x,h2):=T;let(b,S,y):=j.g.Ν n _ w;let(R2,d):=j.g.chg (u:=CO X.K (.i (putN f ns) k) (a n) ((D2 f r.1 ns p).j un)<|D2 f v ns b) (c':=.mix (.i (putN f ns) k)<|D2 f r.1 ns p) w rfl rfl
        (λL N H' z Y hL hN=>by subst hL hN;show#[_,Y,xp x (Paired.mapP y λ_ _ q=>AS.go z q) (AS.go z Q)])
       apply#[a n,C,a n-1,ns.zip b,rfl,(show l (a n)=Z (.ins C (a n-1)<|ns.zip b) by rw[S];erw[CO,Kx t]),cl,A,by rw[List.length_zip];lia,?_];let ew:AK l (a n) (CO X.K (.i (putN f ns) k) (a n) ((D2 f r.1 ns p).j un)<|D2 f v ns b)=AK l (a n) (.ins C (a n-1)<|Fq f v<|ns.zip b):=by
        rw[dh<|x.E<|Nb y];erw[CO,Kx t]
       rw[<- ew];show q a W _ (j.go R2 d)<|go.E d
      .show q.Η
     .show q.Η
    .show q.Η
   .show q.Η]
end
structure BO(X:Cx)(o:Expr)(m:Af)(apos:AB)(e:Expr)(cpos:AB):Prop where
 b:FQ o m X.G (Ar o X.G)=Ar o X.G
 f:((AD cpos (AJ [e] X.G)).ϭ (λx=>!x.1)&&(GB cpos (GC [] X.G)).ϭ (λx=>x.1.Ζ)&&decide ([e].a+([]:List Ei).a+(if([]:List Ei).Υ then 0 else 1)<30))=J'
 l:(apos.ϴ==cpos.Ϯ)=J'
 s:AJ [e] X.G=(O',Ar e X.G)::AJ [] X.G
 p:(AD cpos (AJ [] X.G)).any (·.1)=O'
theorem OV{m:Af}{e:Expr}(b:FQ o m X.G (Ar o X.G)=Ar o X.G:=by rfl) (f:((AD cpos (AJ [e] X.G)).ϭ (λx=>!x.1)&&(GB cpos (GC [] X.G)).ϭ (λx=>x.1.Ζ)&&decide ([e].a+([]:U Ei).a+(if([]:U Ei).Υ then 0 else 1)<30))=J':=by rfl) (l:(apos.ϴ==cpos.Ϯ)=J':=by rfl) (s:AJ [e] X.G=(O',Ar e X.G)::AJ [] X.G:=by show D8 rfl) (p:(AD cpos (AJ [] X.G)).any (·.1)=O':=by rfl):BO X o m apos e cpos:=#[b,f,l,s,p]
@[simp]def Fj(p:O Nat)(o:O D)(s:IS):O (IV×Gh):=match p,o with
  |some n,Z d=>match s.2[n]? with
   |some (.dat .l a)=>if a.a<Ay then Z (.y .Α,s.2.ν n (.Μ .l (a++[d])))else J
   |_=>J
  |_,_=>J
@[simp]def OW(p:O Nat)(o:O D)(s:IS):O (IV×Gh):=match p,o with
  |some n,Z d=>match s.2[n]? with
   |some (.dat .l a)=>if A5 ZY d&&a.ϭ (A5 ZY)then(a.findIdx? λz=>Be z d).j λj=>(.y .Α,s.2.ν n (.Μ .l (a.Ε j)))else J
   |_=>J
  |_,_=>J
section
variable{e ei:Expr}{g:IS->O D}{tpos:AB}
theorem LY{K:Ap}{G:Gh}{H:Hp}{n:Nat}{k:Kd}{ys:U D}{ws:U V}(R:Bo K φ G H)(e:G[n]?=Z (.Μ k xs))(h:Ad K (LV φ G) H ys ws):Bo K φ (G.ν n (.Μ k' ys)) (AK H (φ n) (CO K k' (φ n) ys ws))/\Go φ G H φ (G.ν n (.Μ k' ys)) (AK H (φ n) (CO K k' (φ n) ys ws)):=R.chg e rfl rfl λL N f a b c d=>by subst c d;show#[ws,b,Ad.Τ a.st _ _ h]
open J in
theorem xr(t:JE X o (EC X.K gp))(u:JE X e (tJ X.K g))(hz:BO X o "append" apos e cpos:=by show OV):JE X (.Λ (.α o "append" apos) [e] [] cpos) (C3 X.K λs=>Fj (gp s) (g s) s):=#[(G9 Lq TV TW Qi t.h (Z2 u.h Ba hz.s) hz.b hz.f hz.l hz.s hz.p).κ λA H Q w=>by
   let(a,s,r,R,ex,q):=w;dsimp only at ex;unfold Fj at ex;split at ex
   .next n d x hd=>
    split at ex
    .next B c=>
     let(y,ex):=Z0 ex;cases ex;let(i,j,k):=R.g.Ν n _ c;apply#[a,s,n,R,x,λ_=>#[.Q #[rfl,i,.Q<|.inl j],a,s,d,R,hd,λv C sm z=>?_]];let(R2,m):=LY (k':=.l) (R.g.δ sm) c ((k.δ sm).Ι<|Ad.Θ z Ad.ϔ);show⟨a n,i,v,rfl,rfl,sm _ _ j,k.a ▸ y,q a _ _ (R.go R2<|(Go.δ sm).E m) (by erw[AS,Aw])<|(Go.δ sm).E m⟩
    .cases ex
   .cases ex]
open J in
theorem xt(w:X.A.γ+64<Av)(x:JE X o (EC X.K gp))(y:JE X e (tJ X.K g))(hz:BO X o "remove" apos e cpos:=by show OV):JE X (.Λ (.α o "remove" apos) [e] [] cpos) (C3 X.K λs=>OW (gp s) (g s) s):=#[(G9 Lq PySem.F.slot_list_remove PySem.F.type_list_remove (v8 w) x.h (Z2 y.h Ba hz.s) hz.b hz.f hz.l hz.s hz.p).κ λM H Q z=>by
   let(a,s,r,R,ex,q):=z;dsimp only at ex;unfold OW at ex;split at ex
   .next n d B hd=>
    split at ex
    .next C i=>
     let(c,ex):=Z0 ex;rw[Dp]at c;let(j,E,rfl):=B7.mp ex;let(k,m,t):=R.g.Ν n _ i;apply#[a,s,n,R,B,λ_=>#[.Q #[rfl,k,.Q<|.inl m],a,s,d,R,hd,λv L sm G=>?_]];let(R2,u):=LY (k':=.l) (R.g.δ sm) i ((t.δ sm).erase j);show#[a n,k,v,_,d,C,j,rfl,rfl,sm _ _ m,t.δ sm,G.p,c.1,c.2,E,q a _ _ (R.go R2<|(Go.δ sm).E u) (by erw[AS,Aw])<|(Go.δ sm).E u]
    .cases ex
   .cases ex]
@[simp]def Q2(p:IS->O Nat)(ok b:O D)(s:IS):RI:=match p s,ok,b with
  |some n,Z y,Z d=>match s.2[n]? with
   |some (.dat .d c)=>match EA c,Dq y with
    |some a,Z k=>if DZ k a&&decide (a.a<Ay)then .U (s.1,s.2.ν n (.Μ .d (Zb (ZZ a k d))))else .Ω
    |_,_=>.Ω
   |_=>.Ω
  |_,_,_=>.Ω
open J in
theorem xw(E:X.A.γ+64<Av)(W:JE X o (EC X.K gp))(F:JE X ei (tJ X.K gi))(L:JE X e (tJ X.K g)) (M:∀v,assign (.μ o ei tpos) X.G v=(do
   let f <- DU [v] (Ar o X.G);let j <- DU [v,f] (Ar ei X.G);standAt tpos
   DU [v,f,j] (setItem f j v)
   release [v,f,j] []):=by intro _;rfl) (N:swapsWithSole [.μ o ei tpos] e pos.Ϯ X.G=Am O':=by rfl) (c:swappedStores [.μ o ei tpos] e X.G=Am J:=by rfl) (P:(Gz [.μ o ei tpos] X.G).j (·.2)=[assign (.μ o ei tpos) X.G]:=by rfl):JS X (.Ϭ [.μ o ei tpos] e pos) (tK X.K λs=>Q2 gp (gi s) (g s) s):=#[(P2 L.h (P1 W.h F.h (bO E) M) N c P).κ λD' Q H T=>by
 let(b,s,R,q):=T;unfold Q2 at q;dsimp only at q;split at q
 .next n y d S Y hd=>
  split at q
  .next xs u=>
   split at q
   .next kvs k l hk=>
    split at q
    .next m=>
     rw[Dp,decide_eq_true_eq]at m;apply#[b,s,d,R,hd,λv H1 i hv=>#[b,s,n,R.δ i,S,λ_=>#[b,s,y,R.δ i,Y,λw H2 r c=>?_]]];let ex:=GN l;subst ex;let R2:=(R.δ i).δ r;let(vs,z3,z4):=R2.g.Ν n _ u;let(t,rfl,a):=LC z4;rw[IA hk]at c;let x:=a.put (k:=k) (Hg c.p) (hv.δ r);let(z,B):=LY (k':=.d) R2.g u x.flat;rw[IB x]at z B;let C:=(Go.δ (φ:=b) (G:=s.2) (i.E r)).E B;apply#[b n,t,k,rfl,?_,a.keys,a.hom m.1,HV<|Hg c.p,G7 a ▸ m.2,q b Q _ (R.go z C) C];rw[<- IB a];show z3
    .show q.Η
   .show q.Η
  .show q.Η
 .show q.Η]
end
theorem xx{P:AM}{w:Aj}{K:Ap}{mg:Bz}{base:Al}{k:Nat}{f:Ac}{fd:Cs}{F:FI}(G:A2 P w K mg base Bp k f fd ["_law_script"] (CW K F)) (h:∀ns:U Int,ns.a<=63->∃G',F [.y (.O (ns.j D.r))] []=Z (.y (.bl J'),G')):A2 P w K mg base Bp k f fd ["_law_script"] (NT K):=G.imp λp H Q E d=>by
  let(a,ns,e,g,i,q):=d;let(G',j):=h ns i;subst e;apply#[λ_=>0,[],[.y<|.lst<|ns.map D.int],_,⟨λn c e=>by simp at e,λn m c r k s e=>by simp at e⟩,.Θ ?_ .ϔ,j,λl v o t b go=>?_]
  .erw[AS,Aw];show#[a,_,rfl,(LstAt.of_sq g).imp (λz=>#[λ⟨n,c,k,e,_⟩=>by simp at e,z.2]) id,Ad.ints ns]
  .erw[AS,Aw]at b;subst b;show q o
section
variable{H:Hp}{s:Ab}{N:Fb}
def Gs:U Sl->O Rv
 |[.val x]=>Z (.y x)
 |_=>J
theorem LZ(a:U D):a.j (D1 Gs)=a:=by induction a with
 |nil=>rfl
 |cons x c b=>rw[AU,b];rfl
theorem xA(W:Inv X pins I H s)(A:Ag)(R:A.γ+40<Av){items:U Aa}{Q:Nat}{xs:U V}{l:U D}(g:s.u.R a=Z (DO items Q))(m:H a=J)(n:Off X pins a)(o:Aq xs items)(r:Ad X.K N H l xs)(ok:Bt Gs l) {P:PySem.Fin->Ab->Prop} (q:∀C vs,Inv X pins I (AK H a (.O vs)) C->Ad X.K N H (FC (CU Gs) l) vs->P (.Ϙ (.ϸ .Δ)) C):wpAny (Ae X.β X.w) A (Gg.«list.sort» #[[.I a],[]]) P E s:=by
 let l1:=r.a;let l2:=o.a;let few:=ok.few;let S:Ay=16777216:=Ip;rw[list_sort_plain];apply Ao<|listItems_at g rfl ?_;let(n1,G,Y):=W.rawset (f:=λ_=>(T' [])) (its':=[]) m n g rfl;apply Ao<|OI g rfl ?_ (by simp;lia) (by simp);apply Ao<|seqEpoch_at G rfl ?_;apply Ao<|wpAny_newTuple ?_ (by simp;lia);generalize t:({heap:=s.heap.update a<|Gc λx=>(T' []),gens:=s.gens,drawn:=s.drawn,toks:=s.Γ,os:=s.os}:Ab)=d at *;let I2:=Y.ϱ (t':=d.Γ) (λb u e=>BC {cls:=.ι "tuple",data:=.Ϲ items.C} e);generalize v:({heap:=d.u.Ο {cls:=.ι "tuple",data:=.Ϲ items.C},gens:=d.gens,drawn:=d.drawn,toks:=d.Γ,os:=d.os}:Ab)=i at *;apply Ao<|wpAny_newList ?_ (by simp);let L:=I2.kept (t':=i.toks) (λb u e=>BC (DO [] 0) e);let B:=BC (DO [] 0) (show i.u.R a=Z (DO [] n1) by rw[<- v];show(BC {cls:=.ι "tuple",data:=.Ϲ items.C} (show d.u.R a=Z (DO [] n1) by rw[<- t];show G)));apply F9 ?_;apply cN (N:=N) (F:=Gs) (kvs:=xs) (us:=items) (items:=items) (T:=λz=>do
  let k:=(arrOf z).j λy=>y.2;let h:=(<- seqEpoch a) != n1
  Builtin.List.listUpdate (.I a) λ_=>k
  if let Z x:=HW z then
   rule "list.sort.comparison-raised";throw x
  if h then
   rule "list.sort.modified";raiseError "ValueError" "list modified during sort"
  ret .Δ) L A R ok (by rw[LZ];show r) o ∅ λp st M hs ha hf=>?_
 let hpl:p.a=l.a:=by have:=M.ό;exists this
 apply Ao<|seqEpoch_at B rfl ?_;generalize c:p.map (λj=>items.Y j .Δ)=out at *;let(n3,g4,I4):=L.rawset (f:=λ_=>out.C) (its':=out) m n B rfl;rw[ha];apply Ao<|OI B rfl ?_ (by simp) (by simp;show NR (show out.length<=Ay by rw[<- c,Bq];lia));rw[hf];erw[show(n1 != n1)=O' by simp,FU,if_false];apply AT<|q _ _ (I4.catch m n g4 (show Aq (p.map λj=>xs.Y j .Α) out by rw[<- c];show OH o p) (by rw[Bq];lia)) ?_;rw[<- hs];show UL r p λj hj=>by have:=M.subset hj;exists this
theorem dY(r:Inv X pins I H s)(m:X.A.γ+64<Av){a:U Aa}{xs:U V}{d:U D}(h:Aq xs a)(i:Ad X.K N H d xs)(ok:Bt Gs d){P:PySem.Fin->Ab->Prop}
  (q:∀f c vs,H f=J->Inv X pins I (AK H f (.O vs)) c->Ad X.K N H (FC (CU Gs) d) vs->wpAny (Ae X.β X.w) X.A.in1 (B (.I f)) P X.xe c):
  wpAny (Ae X.β X.w) X.A.in1 (do
   let l <- newList a
   let _ <- DU [l] (call (.Β "list.sort") [l])
   B l) P X.xe s:=by
 let l1:=i.a
 let n:=h.a
 let few:=ok.few
 let j:Ay=16777216:=Ip
 apply Ao (wpAny_newList ?_ ∅)
 let g:=Co s.u (o:=DO a 0) rfl
 apply Ao (F9 (Lc slot_list_sort #[_,g,rfl] entry_list_sort (xA (N:=N) (r.ϱ (t':=s.Γ) (λb u e=>BC (DO a 0) e)) _ ?_ g r.Ψ (r.off (AX s.u.J.o)) h i ok λc vs p k=>#[_,rfl,q _ c vs r.Ψ p k]) (args_list_sort _)))
 change X.A.γ+1+1+40<_;lia
end
section
variable{M:Fb}{e:Expr}{f:AG}{x:Af}{p:AB}
def JH(o:O D):A7:=match o with
 |some (.lst a .l)=>Gr Gs a
 |some (.lst a .d)=>(EA a).L λb=>Gr Gs (b.j λp=>kD p.1)
 |_=>J
open J in
theorem xB(hc:X.ϵ=J')(hu:X.A.γ+64<Av)(hg:Gl X x)(hm:X.mg x=J)(hv:Fp x=Z (.Β "sorted"))(he:JE X e (tP X.K M H0 f))
  (hn:x≠"__name__":=by ext) (G:Ed x:=by ext) (hs:AJ [e] X.G=(O',Ar e X.G)::AJ [] X.G:=by show D8 rfl):
  JE X (.Λ (.ε x p) [e] [] pos) (tF X.K M H0 λρ=>JH (f ρ)):=#[by
 intro g s r H Q W zQ;let(ρ,ys,R,i,q):=zQ
 dsimp only at i
 let hsl:Ay=16777216:=Ip
 cases L:f ρ with
 |none=>rw[L]at i;cases i
 |some d=>
 rw[L]at i
 apply NO (Il W hg hm hv ?_ hn G)
 apply PyProof.Rows.callWith_builtin1 ?_ hs rfl
 apply A1 ((Z2 he.h (Ba (X:=X)) hs) pos g s r H (λj t=>∃v,j=[v]/\Ak H t/\Az X.K (Nf M ρ r) t d v) W #[ρ,d,R,L,λv t P y=>#[v,rfl,P,y]]) λus P hh=>?_
 let(j,t,C,r1,v,rfl,sm,y):=hh
 let(u,rfl,ru):=Fc r1
 let fin:∀k w j,t k=J->Inv X g r (AK t k (.O j)) w->Ad X.K (Nf M ρ r) t ys j->EP X g r Q (.I k) w:=λk w j c F E=>
  #[.I k,_,F,rfl,q k j _ (sm.E (ZV c)) (sm.Δ c) ZT ((E.nw λb hb=>hb.imp id λz=>by subst z;show c).δ (ZV c))]
 unfold JH at i
 split at i
 .next xs hd=>
  cases hd
  let(ok,rfl):=UK i
  let(a,ws,rfl,S,dl):=y
  cases ru
  let(its,rv,(o,n,ho,Y,hdd,hd),hz):=C.Ϩ S
  let l2:=rv.a
  show dG kind_sorted plain_sorted entry_sorted (args_sorted1 _) (Ao (m:=checkCount "sorted" 1 1 _) (AT (Ao (wpAny_collect_seq a (T:="list") (.Q rfl) ho Y hd (λh1 k1=>dY (N:=Nf M ρ r) (B:=λl=>ret l) (C.ϱ (t':=P.Γ) k1) hu rv dl ok λk w j c F E=>AT #[_,rfl,fin k w j c F E]) (by simp;lia)))))
 .next xs hd=>
  cases hd
  let(kvs,hun,i):=Ch.mp i
  let(ok,rfl):=UK i
  rw[GN hun]at y
  let(a,ws,rfl,S,dl):=y
  cases ru
  let(tr,dc,pd):=Jp S dl
  let(z,hs',nd,o,es,ep,e1,e2,e3,e4):=dc.1.ok C.Ϫ
  let few:=ok.few
  let hl:kvs.a=es.o:=by have h1:=pd.kden.a;let h2:=(OJ e4).a;simp at h1 h2;lia
  apply dG kind_sorted plain_sorted entry_sorted (args_sorted1 _) ?_
  apply Ao (m:=checkCount "sorted" 1 1 _) (AT ?_)
  apply Ao (vE (cX (es:=es) (ep:=ep) hs') (by change X.A.ϣ=J;show C.ok.hd hc) #[o,e1,e2,e3] (by simp at few;lia) λh1 tk acc k1 hi=>?_)
  rw[cY hi]
  show dY (N:=Nf M ρ r) (B:=λl=>ret l) (C.ϱ (t':=tk) k1) hu (OJ e4) pd.kden ok λk w j c F E=>AT #[_,rfl,fin k w j c F E]
 .cases i]
end
mutual
theorem OX:∀(d:D),BE 0 d=J'
 |.non=>rfl
 |.bl _=>rfl
 |.int _=>rfl
 |.str _=>rfl
 |.ty _=>rfl
 |.tup a=>by erw[BE];show U4 a
 |.lst a k=>by erw[BE,vk,Bool.not_false,Bool.true_and];show U4 a
theorem U4:∀(xs:U D),Dc 0 xs=J'
 |[]=>rfl
 |x::xs=>by erw[Dc,OX x,U4 xs,GX]
end
theorem H9{m:Nat}:∀{xs:U D},(∀x∈xs,BE m x=J')->Dc m xs=J'
 |[],_=>rfl
 |x::xs,h=>by erw[Dc,h x Bh,H9 λy a=>h y<|Bl _ a,GX]
section
variable{K:Ap}{M:Fb}{e:Expr}{F:U Sl->O Rv}{k:Nat}{fn:Ac}{fd:Cs}{x:Af}{p:AB}{E:XK}
theorem xE(G:A2 X.β X.w X.K X.mg X.χ CX k fn fd ps (A4 K F))(a:AL k X.A)(b:Gl X x)(c:X.mg x=Z (.I fn))(f:Jb X.K (.I fn)=J')(g:Binds X.K fd ps [])(i:FR CX X E) (j:JA X (e::es) (CP K M H0 fa)) (hz:CA X x e es pos:=by show Gj):JE X (.Λ (.ε x p) (e::es) [] pos) (Fv .d K M H0 (Ir F fa)):=#[(Qb G a b c f g .ϔ i j.h hz.d hz.s hz.p).κ λ_ _ _ h=>rm h]
end
theorem xG{l:PySem.W.OpenLaw}{w:Aj}{K:Ap}{mg:Bz}{f:Ac}{fd:Cs}{st:AF}{n:Nat}{F:FI}(d:mg "law"=Z (.I f))(q:DI K mg "law" st ["_law_script"] a fd) (G:∀base:Al,A2 l.β w K mg base Bp n a fd ["_law_script"] (CW K F)) (h:∀ns:U Int,ns.a<=63->∃G',F [.y (.O (ns.j D.r))] []=Z (.y (.bl J'),G')) (e:∀(g b pm:Aa) (i:O Ac) (c ct v:Aa),bindArgs (J4 "law" "law" (Iq st) (ZU st) (Zg st) .Δ g b pm i c ct) #[[v],[]]=Am [(("_law_script":Af),v)]):∃fd:Cs,(∀(s:Ab) (v:Aa),BindsTo s fd #[[v],[]] [("_law_script",v)])/\∀base:Al,K.In base->base.Ns CZ mg->A2 l.β w K mg base Bp n f fd ["_law_script"] (NT K):=by
 cases d.τ.E q.m;let(o,p,g,b,pm,i,c,ct,j,rfl,lk,k):=q.F.ex;show#[_,λs v=>.of_eq<|e _ _ _ _ _ _ _,λbase _ _=>xx (G base) h]
end Internal
variable{gp:Internal.IS->O Nat}{gx:Internal.IS->O (Internal.IV×Internal.Gh)}{ga:Internal.IS->O (U Internal.IV)}{G':Internal.Gh}{x3 x4 x7:Internal.IV}{gi:Internal.IS->O Internal.D}
def Eb{a b:Type}[DecidableEq a]:U (a×b)->a->U (a×b)
 |[],_=>[]
 |t::r,k=>if t.1=k then r else t::Eb r k
theorem U5{a b:Type}[DecidableEq a]{k:a}{x:a×b}:∀{l:U (a×b)},x∈Eb l k->x∈l
 |[],h=>nomatch h
 |t::r,h=>by
  unfold Eb at h;split at h
  .show Bl _ h
  .rcases Bx.mp h with rfl|h
   .show Bh
   .show Bl _<|U5 h
theorem U6{a b:Type}[DecidableEq a]{k:a}:∀{l:U (a×b)},(l.j (·.1)).η->((Eb l k).j (·.1)).η
 |[],h=>h
 |t::r,h=>by
  rw[AU,Eu]at h;unfold Eb;split
  .show h.2
  .rw[AU,Eu];apply#[λz=>h.1 ?_,U6 h.2];let(x,c,e):=Bm.mp z;show Bm.ϡ #[x,U5 c,e]
theorem dZ{a c:Type}[DecidableEq a]{k:a}{p:c}:∀{l:U (a×c)}{j:Nat},(l.j (·.1)).η->l[j]?=Z (k,p)->l.Ε j=Eb l k
 |[],_,_,h=>by simp at h
 |t::r,0,_,h=>by cases h;simp[Eb]
 |t::r,j+1,b,h=>by
  rw[AU,Eu]at b;unfold Eb;rw[if_neg (show t.1≠k from λe=>b.1<|e ▸ Bm.ϡ ⟨(k,p),HE h,rfl⟩),U7,dZ b.2 h]
theorem d3{b c:Type}(f:b->c):∀(l:U b)(j:Nat),(l.j f).Ε j=(l.Ε j).j f
 |[],_=>rfl
 |_::_,0=>rfl
 |a::l,j+1=>by simp[d3 f l j]
theorem d6{a b:Type}[DecidableEq a]{k:a}:∀l:U (a×b),(Eb l k).a<=l.a
 |[]=>AX _
 |t::r=>by
  have:=d6 (k:=k) r;unfold Eb;split<;>simp<;>lia
namespace PySem
section
variable{prog:AM}{w:Aj}{K:Type}[DecidableEq K]{knd:HeapKind prog w K}{A:Ag}{s:Ab}
theorem xH{d:Ac}{xs:U (K×Ac×Aa)}{k:K}{p:Ac×Aa}{Q:O Hu->Ab->Prop}(n:knd.room A)(b:knd.is s.u k a)(r:s.u.϶ knd d xs)(hsz:xs.a<=Ay)(i:atKey xs k=Z p)
  (t:∀e:Hu,e.y=p.2->∀h',h'.϶ knd d (Eb xs k)->Ee d s.u h'->Q (Z e) {s with heap:=h',toks:=s.Γ+knd.draws k}):
  wpAny (Ae prog w) A (Builtin.Dict.takeOut d (.I a)) Q E s:=by
 let(o,z,u,c,v,hd,g,f,h):=r
 unfold Builtin.Dict.takeOut
 try with_reducible apply F9 ?_
 apply Ao (knd.pyHash n b ?_)
 apply Ao (wpAny_dictFind_heap (s:={s with toks:=s.Γ+knd.draws k}) n b c hd g f h ?_ ?_)
 .intro l
  rw[QG l]at i;cases i
 .intro j B m
  let q:=atKey_of_get h m
  rw[i]at q
  cases q
  apply Ao (Ol (s:={s with toks:=s.Γ+knd.draws k}) c hd ?_)
  rw[entry_at g j,m]
  apply Ao (wpAny_updateDictKeys (hz:=by have e:=size_of_entries g;lia) (s:={s with toks:=s.Γ+knd.draws k}) c hd (AT (t _ rfl _ #[_,_,u+1,Qf _ c (Obj.isFreed_of_dict (Ug hd _)),
   v.mapDictKeys _,Ug hd _,?_,?_,U6 h] (Kn ..))))
  .rw[<- dZ h m,Array.toList_eraseIdxIfInBounds,g,d3]
  .show λx y=>knd.keeps (f x (U5 y)) c hd (Kn ..)
theorem xI{k:K}(d:Ac):
  MeetsIn prog w (Gg.«dict.pop» #[[.I d,.I a],[]]) (λA R s=>knd.room A.in1/\∃xs p,knd.is s.u k a/\s.u.϶ knd d xs/\xs.a<=Ay/\atKey xs k=Z p /\
   ∀h',h'.϶ knd d (Eb xs k)->Ee d s.u h'->R (.ok (.ϸ p.2)) {s with heap:=h',toks:=s.Γ+knd.draws k}):=
 .of_wp λA R s j=>by
  let(l,xs,p,c,f,hz,i,m):=j
  apply Ao ?_
  apply Ao (Uh f.ϛ ?_)
  apply AT ?_
  let n:xs≠[]:=λe=>by subst e;cases i
  let b:=f
  let(o,q,x,r,y,hd,t,u,z):=b
  let g:q.Υ=O':=by
   have:=size_of_entries t
   grind
  apply Ao (Ol r hd (Ao (AT ?_)))
  rw[g]
  apply Ao (xH l c f hz i λe v h' b h=>?_)
  show Ao (wpAny_letGo (AT #[e.y,rfl,by rw[v];show m h' b h]))
end
end PySem
namespace Internal
open PySem PySem.Spec PyProof.Rows PySem.W
theorem RT.out{l:U At}{tr:U T3}(h:RT tr us):RT (Eb tr (.X l)) (Eb us l):=by
 induction h with|nil=>show .ϔ|@cons t u _ _ h a b=>
  unfold Eb;by_cases e:u.1=l
  .rw[if_pos (by rw[h.1,e]),if_pos e];show a
  .rw[if_neg<|λz=>e<|KT.X.inj<|h.1.τ.E z,if_neg e];show .Θ h b
def xJ(K:Ap):V->U V->Hp->VK->Prop:=λx b H Q=>∃a tr l y v,x=.I a/\b=[y]/\H a=Z (DY tr)/\(∀t∈tr,BJ K H t.1 t.2.1)/\HU (.X l) tr/\BJ K H (.X l) y/\Z9 tr (.X l)=Z v/\Q v (AK H a (DY (Eb tr (.X l))))
section
theorem xK(Y:X.A.γ+64<Av):Je X "dict.pop" (xJ X.K):=by
 intro j s I H x xs v d Q S o r h
 let(a,tr,l,y,z,rfl,rfl,e,f,t,u,B,q):=h
 cases o
 let(C,rfl,E):=Fc r
 let(p,G,N):=u
 subst G
 cases(show C=DJ p from E)
 let(m,L,nd,d,rel,n):=Ly S #[.Q e,f] t
 let b:=rel.y l
 rw[B]at b
 cases g:atKey d l with
 |none=>rw[g]at b;show b.Η
 |some M=>
  rw[g]at b
  apply call_meetsIn PySem.F.slot_dict_pop n.ϛ PySem.F.entry_dict_pop (PySem.F.args_dict_pop_2 _ _) (xI (knd:=BZ (ZF X.β X.w)) (k:=l) a)
   #[Lz ∅,d,M,Jn S N,n,(show d.a<=Ay by rw[<- G7 rel];show m),g,λP c i=>?_]
  let T:∃q,P.R a=Z q:=let⟨q,_,_,R,_⟩:=c;#[q,R]
  show#[z,_,LB S (by rw[e];show HB) i T (QF (Bv (d6 _) m) L (U6 nd) rel.out c),b,q]
end
section
variable{K:Ap}{N:Fb}{H:Hp}
theorem PD.out{k:KT}{tr:U T3}(h:PD K N H kvs tr):PD K N H (Eb kvs k) (Eb tr k):=by
 induction h with|nil=>show .ϔ|cons h a b=>
  unfold Eb;rw[h.1];split
  .show a
  .show .Θ h b
end
@[simp]def d7:KT->Bool
  |.tup _=>J'
  |_=>O'
@[simp]def Q3(p:O Nat)(o:O D)(s:IS):O (IV×Gh):=match p,o with
  |some n,Z y=>match s.2[n]? with
   |some (.dat .d b)=>match EA b,Dq y with
    |some a,Z k=>if DZ k a&&d7 k then(Zx a k).j λd=>(.y d,s.2.ν n (.Μ .d (Zb (Eb a k))))else J
    |_,_=>J
   |_=>J
  |_,_=>J
section
variable{e:Expr}{g:IS->O D}
open J in
theorem xL(L:X.A.γ+64<Av)(M:JE X o (EC X.K gp))(N:JE X e (tJ X.K g))(hz:BO X o "pop" apos e cpos:=by show OV):JE X (.Λ (.α o "pop" apos) [e] [] cpos) (C3 X.K λs=>Q3 (gp s) (g s) s):=#[(G9 Up PySem.F.slot_dict_pop PySem.F.type_dict_pop (xK L) M.h (Z2 N.h Ba hz.s) hz.b hz.f hz.l hz.s hz.p).κ λI H Q S=>by
   let(i,s,r,R,ex,q):=S;dsimp only at ex;unfold Q3 at ex;split at ex
   .next n y T W=>
    split at ex
    .next xs u=>
     split at ex
     .next Y k x hk=>
      let(z,ex):=Z0 ex;rw[Dp]at z;let(d,hd,rfl):=B7.mp ex;cases k with| «at» b=>show absurd z.2 (by simp)|tup l=>
       let ex:=GN x;subst ex;let(vs,t,B):=R.g.Ν n _ u;let(tr0,e0,pd0):=LC B;subst e0;apply#[i,s,n,R,T,λ_=>#[.σ<|.inr ⟨rfl,_,_,.inl t⟩,i,s,y,R,W,λw H1 sm E=>?_]];let(vs,t,B):=(R.δ sm).g.Ν n _ u;let(j,e',a):=LC B;subst e';rw[IA hk]at E;let(zA,C):=LY (k':=.d) (R.δ sm).g u (a.out (k:=.X l)).flat;rw[IB<|a.out (k:=.X l)]at zA C;rw[IB a]at t;let P:=(Go.δ (φ:=i) (G:=s.2) sm).E C;let m:=a.y<|.X l;rw[hd]at m;cases c:Z9 j (.X l)with
       |none=>rw[c]at m;show m.Η
       |some v=>
        rw[c]at m;show#[i n,j,l,w,v,rfl,rfl,t,a.keys,a.hom z.1,HV<|Hg E.p,c,q i v _ (R.go zA P) (Aw.Τ C.st _ _ m) P]
     .cases ex
    .cases ex
   .cases ex]
end
@[simp]def Q5(o:O (IV×Gh))(b c:A8)(s:IS):RI:=match o with
  |some (.val (.bl k),a)=>if k=J' then c (s.1,a)else b (s.1,a)
  |_=>.Ω
section
variable{e:Expr}{a b:U AF}{h:IS->O Af}{g g1 g2:A8}{p:AB}
open J in
theorem xM(g:JE Y e (C3 Y.K gx))(i:JB Y a (tK Y.K g1))(j:JB Y b (tK Y.K g2))(l:∀c,isTrue e Y.G c=(do let v <- c;standAt e.pos;DU [v] (truthy v)):=by intro _;rfl):JS Y (.If (.UnaryOp .Not e p) a b pos) (tK Y.K λs=>Q5 (gx s) g1 g2 s):=#[(PZ (Ym<|nI g.h l) i.h j.h).mono λD t H m=>by
 let(n,s,R,q):=m;unfold Q5 at q;dsimp only at q;split at q
 .next k u o=>
  apply#[n,s,_,R,o,λd v w f r go=>?_];subst r;apply#[k,rfl,?_];cases k with
  |true=>show Ll #[d,_,f,Ci.jk go q]
  |false=>show Lk #[d,_,f,Ci.jk go q]
 .show q.Η]
end
def JJ(a:Scope):U Af:=(a.υ.tail.ϯ λp=>match p.2 with | .local=>J'|_=>O').j (·.1)
def U8(own a:U Af)(b c:Scope):Bool:=decide (b.ϳ=.Ϻ)&&b.υ.ϭ (λx=>decide (x.2≠.Ν))&&b.υ.ϭ (λx=>decide (x.2≠.ύ)||decide (c.υ.S x.1=Z .Ν)||decide (c.υ.S x.1=Z .ύ))
 && b.υ.ϭ (λx=>decide (x.2≠.Ϡ)||decide (b.names.lookup x.1=Z .local))&&a.all (λx=>decide (b.υ.S x=Z .ύ))&&decide (own++a).η
theorem xN{own a:U Af}{d b:Scope}(h:U8 own a d b=J'):Ji own a d b:=by
 erw[U8,Dp,Du,Bool.or_eq_true,decide_eq_true_eq]at h;let(((((f,g),i),j),k),l):=h;show#[f,g,λx c e=>(i x c).Η (λz=>z.Η (λz=>absurd e z) .Q) .σ,λx c e=>(j x c).Η (λz=>absurd e z) id,k,l]
structure XI(P:AM)(w:Aj)(K:Ap)(mg:Bz)(base:Al)(X:Cx)(N:List Af)(sc:Scope):Prop where
 p:X.β=P
 w:X.w=w
 k:X.K=K
 m:X.mg=mg
 b:X.χ=base
 n:X.N=N
 s:X.G.Ξ=sc
 d:N.η
theorem XI.nd{P:AM}{w:Aj}{K:Ap}{mg:Bz}{base:Al}{N:U Af}{a:Scope}(h:XI P w K mg base X N a):X.N.η:=h.n ▸ h.d
def oN(N:U Af)(oix:U Nat):U Af:=oix.g7 (N[·]?)
structure CQ(N:List Af)(sc scope:Scope)(n:Nat)(oix:List Nat):Prop where
 S:Ji (JJ scope) (oN N oix) scope sc
 l:(JJ scope).a=n
 x:oix.j (λj=>N[j]?)=(oN N oix).j Z
theorem OY{N:U Af}{a:Scope}{n:Nat}{oix:U Nat}(h:(U8 (JJ scope) (oN N oix) scope a&&decide ((JJ scope).a=n)&&decide (oix.j (λj=>N[j]?)=(oN N oix).j Z))=J'):CQ N a scope n oix:=by
 erw[Dp,decide_eq_true_eq]at h;show#[xN h.1.1,h.1.2,h.2]
section
variable{K:Ap}{M:Fb}{f:VE->A7}{fd:AG}{b:D->VE->O VE}{t:VE->O Bool}{e:AG}{spos pos':AB}{oix:U Nat}{n i:Nat}{N:U Af}{x:Af}
variable{P:AM}{w:Aj}{K0:Ap}{mg:Bz}{base:Al}
theorem OZ{own a:U Af}(h:XI P w K0 mg base X N sc)(d:(own++a).η)(l:∀C f g i c j H',XI P w K0 mg base (DA X own a scope C f g i c) (own++a) (DA X own a scope C f g i c).G.Ξ->JG (DA X own a scope C f g i c) tg (tG K j H' ws b))(n:∀C f g i c j H',XI P w K0 mg base (DA X own a scope C f g i c) (own++a) (DA X own a scope C f g i c).G.Ξ->JF (DA X own a scope C f g i c) ifs (B4 K j H' t))(o:∀C f g i c j H',XI P w K0 mg base (DA X own a scope C f g i c) (own++a) (DA X own a scope C f g i c).G.Ξ->JE (DA X own a scope C f g i c) elt (tD K j H' e)):CB K X own a scope tg ifs elt ws b t e:=sf (l _ _ _ _ _ _ _ #[h.p,h.w,h.k,h.m,h.b,rfl,rfl,d]) (n _ _ _ _ _ _ _ #[h.p,h.w,h.k,h.m,h.b,rfl,rfl,d])<|o _ _ _ _ _ _ _ ⟨h.p,h.w,h.k,h.m,h.b,rfl,rfl,d⟩
variable(h:XI P w K0 mg base X N sc)(q:CQ N sc scope n oix)(hc:X.ϵ=J')(hK:K0=K)
include h q hc hK
theorem xO(a:JI X tg iter (tI K M H0 f))(c:CB K X (JJ scope) (oN N oix) scope tg ifs elt ws b t e)(d:∀j∈ws,j<n)(g:∀x,E1 iter X.G x=Am x:=by intro _;rfl):JE X (.ϊ elt [#[tg,iter,ifs,0]] scope pos) (tF K M H0 (Zj n oix f b t e)):=by
 let(_,_,i,_,_,rfl,rfl,_):=h;let(S,rfl,x):=q;grind [sh]
theorem xQ(a:N[i]?=Z x)(d:sc.υ.S x=Z .Ϡ)(g:JI X tg iter (tI K M H0 f))(k:CB K X (JJ scope) (oN N oix) scope tg ifs elt ws b t e)(l:∀j∈ws,j<n)(c:EJ (.ϊ elt [#[tg,iter,ifs,0]] scope pos) (Z (.ε x pos')) spos.Ϯ X.G=Am J':=by rfl)(m:∀x,E1 iter X.G x=Am x:=by intro _;rfl):JS X (.Ϭ [.ε x pos'] (.ϊ elt [#[tg,iter,ifs,0]] scope pos) spos) (tS K M H0 λρ=>Dn i (Zj n oix f b t e ρ) ρ):=by
 let(_,_,o,_,_,rfl,rfl,nd):=h;let(S,rfl,x):=q;grind [si]
theorem xR(a:N[i]?=Z x)(d:sc.υ.S x=Z .Ϡ)(g:JI X tg iter (tI K M H0 f))(k:CB K X (JJ scope) (oN N oix) scope tg ifs elt ws b t e)(l:∀j∈ws,j<n)(c:EJ (.ϊ elt [#[tg,iter,ifs,0]] scope pos) (Z (.ε x pos')) spos.Ϯ X.G=Am J':=by rfl)(m:∀x,E1 iter X.G x=Am x:=by intro _;rfl):JS X (.Ϭ [.ε x pos'] (.ϊ elt [#[tg,iter,ifs,0]] scope pos) spos) (tS K M H0 λρ=>C1 i (ZA (Zj n oix f b t e ρ)) ρ):=by
 let(_,_,o,_,_,rfl,rfl,nd):=h;let(S,rfl,x):=q;grind [sj]
theorem xS(a:JE X iter (tQ K M H0 fd))(c:CB K X (JJ scope) (oN N oix) scope tg ifs elt ws b t e)(d:∀j∈ws,j<n)(f:∀x,E1 iter X.G x=Am x:=by intro _;rfl):JE X (.ϊ elt [#[tg,iter,ifs,0]] scope pos) (tF K M H0 (Zj n oix (λρ=>(fd ρ).L EB) b t e)):=by
 let(_,_,g,_,_,rfl,rfl,_):=h;let(S,rfl,x):=q;grind [ww]
theorem xT(a:N[i]?=Z x)(d:sc.υ.S x=Z .Ϡ)(f:JE X iter (tQ K M H0 fd))(g:CB K X (JJ scope) (oN N oix) scope tg ifs elt ws b t e)(k:∀j∈ws,j<n)(c:EJ (.ϊ elt [#[tg,iter,ifs,0]] scope pos) (Z (.ε x pos')) spos.Ϯ X.G=Am J':=by rfl)(l:∀x,E1 iter X.G x=Am x:=by intro _;rfl):JS X (.Ϭ [.ε x pos'] (.ϊ elt [#[tg,iter,ifs,0]] scope pos) spos) (tS K M H0 λρ=>Dn i (Zj n oix (λρ=>(fd ρ).L EB) b t e ρ) ρ):=by
 let(_,_,m,_,_,rfl,rfl,nd):=h;let(S,rfl,x):=q;grind [wx]
end
def All{a:Type}(p:a->Prop):U a->Prop
 |[]=>True
 |x::r=>p x/\All p r
theorem All.get{a:Type}{p:a->Prop}:∀{l:U a}(i:Nat){x:a},All p l->l[i]?=Z x->p x
 |_::_,0,_,h,e=>by cases e;show h.1
 |_::_,i+1,_,h,e=>All.Ρ i h.2 (by exists e)
 |[],_,_,_,e=>by simp at e
def DX(K:Ap)(mg:Bz):Af×AF×U Af->Prop
 |(a,st,b)=>∃fn fd,DI K mg a st b fn fd
def MX(K:Ap)(C:Ac):Af×Af×AF×U Af->Prop
 |(b,a,st,c)=>∃fn fd,MI K C b a st c fn fd
section
variable(P:AM)(w:Aj)(K:Ap)(mg:Bz)(base:Al)
def OF(k:Nat)(nm:Af)(sp:Sp):Prop:=∃st a fn fd,DI K mg nm st a fn fd/\A2 P w K mg base Bp k fn fd a sp
def OM(C:Ac)(c:Eg)(k:Nat)(nm:Af)(sp:Sp):Prop:=∃a st b fn fd,MI K C nm a st b fn fd/\A2 P w K mg base c k fn fd b sp
end
section
variable{P:AM}{w:Aj}{K:Ap}{mg:Bz}{base:Al}{nm qual:Af}{st:AF}{k:Nat}{g:Ax}{gi:A8}(N:U Af)
theorem BU(D:DX K mg (nm,st,ps)) (l:∀(fn:Ac) (i:Aa) (A:Ag) (outer:U Env) (s:Ab) (H:Hp) (E:XK) (M:Fb) (H0:Hp),XI P w K mg base (D6 Bp P w K mg base N nm (Zg st) fn i A outer s H E).nox N (Zg st)->AL k (A.ϫ (Bj nm (Zg st) s.u.J.o fn i))->JB (D6 Bp P w K mg base N nm (Zg st) fn i A outer s H E).nox (ZU st) (tS K M H0 g)) (S:Ft N ps (Zg st):=by show OL) (j:ps.a<=N.a:=by ext):OF P w K mg base (k+1) nm (A4 K (A3 ps.a N.a g)):=let⟨fn,fd,D⟩:=D
 #[st,ps,fn,fd,D,vO D S (λa b c d e f g h r=>l fn a b c d e f g h #[rfl,rfl,rfl,rfl,rfl,rfl,rfl,S.nd] r) rfl j]
theorem O0(D:MX K C (nm,qual,st,ps)) (l:∀(fn:Ac) (i:Aa) (A:Ag) (outer:U Env) (s:Ab) (H:Hp) (E:XK) (M:Fb) (H0:Hp),XI P w K mg base (D6 Bp P w K mg base N qual (Zg st) fn i A outer s H E).nox N (Zg st)->AL k (A.ϫ (Bj qual (Zg st) s.u.J.o fn i))->JB (D6 Bp P w K mg base N qual (Zg st) fn i A outer s H E).nox (ZU st) (tS K M H0 g)) (S:Ft N ps (Zg st):=by show OL) (j:ps.a<=N.a:=by ext):OM P w K mg base C Bp (k+1) nm (A4 K (A3 ps.a N.a g)):=let⟨fn,fd,D⟩:=D
 #[qual,st,ps,fn,fd,D,wv D S (λa b c d e f g h r=>l fn a b c d e f g h #[rfl,rfl,rfl,rfl,rfl,rfl,rfl,S.nd] r) rfl j]
theorem d8{fn:Ac}{fd:Cs}(D:DI K mg nm st ps fn fd) (i:∀(g:Aa) (A:Ag) (outer:U Env) (s:Ab) (H:Hp) (E:XK),XI P w K mg base (D6 Bp P w K mg base N nm (Zg st) fn g A outer s H E).nox N (Zg st)->AL k (A.ϫ (Bj nm (Zg st) s.u.J.o fn g))->JB (D6 Bp P w K mg base N nm (Zg st) fn g A outer s H E).nox (ZU st) (tK K gi)) (S:Ft N ps (Zg st):=by show OL) (h:ps.a<=N.a:=by ext):A2 P w K mg base Bp (k+1) fn fd ps (CW K (D4 ps.a N.a gi)):=xh D S (λa b c d e f r=>i a b c d e f #[rfl,rfl,rfl,rfl,rfl,rfl,rfl,S.nd] r) rfl h
theorem L0(D:DX K mg (nm,st,ps)) (c:∀(fn:Ac) (a:Aa) (A:Ag) (outer:U Env) (s:Ab) (H:Hp) (E:XK),XI P w K mg base (D6 Bp P w K mg base N nm (Zg st) fn a A outer s H E).nox N (Zg st)->AL k (A.ϫ (Bj nm (Zg st) s.u.J.o fn a))->JB (D6 Bp P w K mg base N nm (Zg st) fn a A outer s H E).nox (ZU st) (tK K gi)) (S:Ft N ps (Zg st):=by show OL) (b:ps.a<=N.a:=by ext):OF P w K mg base (k+1) nm (CW K (D4 ps.a N.a gi)):=let⟨fn,fd,D⟩:=D
 #[st,ps,fn,fd,D,d8 N D (c fn) S b]
theorem KA(D:MX K C (nm,qual,st,ps)) (i:∀(fn:Ac) (g:Aa) (A:Ag) (outer:U Env) (s:Ab) (H:Hp) (E:XK),XI P w K mg base (D6 Bp P w K mg base N qual (Zg st) fn g A outer s H E).nox N (Zg st)->AL k (A.ϫ (Bj qual (Zg st) s.u.J.o fn g))->JB (D6 Bp P w K mg base N qual (Zg st) fn g A outer s H E).nox (ZU st) (tK K gi)) (S:Ft N ps (Zg st):=by show OL) (h:ps.a<=N.a:=by ext):OM P w K mg base C Bp (k+1) nm (CW K (D4 ps.a N.a gi)):=let⟨fn,fd,D⟩:=D
 #[qual,st,ps,fn,fd,D,xi D S (λa b c d e f r=>i fn a b c d e f #[rfl,rfl,rfl,rfl,rfl,rfl,rfl,S.nd] r) rfl h]
end
section
variable{P:AM}{w:Aj}{K K':Ap}{mg:Bz}{base:Al}{N:U Af}{M:Fb}{k n:Nat}{c m x y:Af}{F:U Sl->O Rv}{FF:FI}{e:Expr}{fe:AG}{p kpos:AB}(h:XI P w K mg base X N sc)(r:AL n X.A)
include h r
theorem xU(G:OF P w K mg base k x (A4 K F))(a:K=K')(b:JA X (e::es) (CP K' M H0 fa))(c:k<=n)(d:Gl X x)(hz:CA X x e es pos):JE X (.Λ (.ε x p) (e::es) [] pos) (tD K' M H0 (Zf F fa)):=by
 let(rfl,rfl,rfl,rfl,rfl,_,_,_):=h;let(_,_,_,_,D,G):=G;grind [vF]
theorem xV(G:OF P w K mg base k x (A4 K F))(a:K=K')(b:JA X (e::es) (CP K' M H0 fa))(c:k<=n)(d:Gl X x)(hz:CA X x e es pos):JE X (.Λ (.ε x p) (e::es) [] pos) (tF K' M H0 (FY F fa)):=by
 let(rfl,rfl,rfl,rfl,rfl,_,_,_):=h;let(_,_,_,_,D,G):=G;grind [vG]
theorem xW(G:OF P w K mg base k x (A4 K F))(a:K=K')(c:JA X (e::es) (CP K' M H0 fa))(f:k<=n)(g:Gl X x)(hz:CA X x e es pos):JE X (.Λ (.ε x p) (e::es) [] pos) (Fv .d K' M H0 (Ir F fa)):=by
 let(rfl,rfl,rfl,rfl,rfl,_,_,_):=h;subst a;let(_,_,_,_,D,G):=G;show xE G (r.κ f) g D.m D.F.kp D.b (E:=E0) HG c hz
theorem xX(G:OF P w K mg base k x (CW K FF))(a:K=K')(c:JA X (e::es) (IP K' ga))(d:k<=n)(f:Gl X x)(hz:CA X x e es pos):JE X (.Λ (.ε x p) (e::es) [] pos) (C3 K' λs=>Ho FF (ga s) s):=by
 let(rfl,rfl,rfl,rfl,rfl,_,_,_):=h;subst a;let(_,_,_,_,D,G):=G;show xj G (r.κ d) f D.m D.F.kp D.b (E:=E0) HG c hz
theorem d9(G:OF P w K mg base k y (A4 K F))(f:mg x=J)(g:K=K')(i:JE X e (tP K' M H0 fe))(j:k+2<=n:=by ext)(l:Gl X x:=by rfl)(o:Fp x=Z (.Β "sorted"):=by rfl)(c:Gl X y:=by rfl) (q:x≠"__name__":=by ext) (d:Ed x:=by ext) (a:Ed y:=by ext) (s:AJ [e] X.G=(O',Ar e X.G)::AJ [] X.G:=by show D8 rfl):JE X (.Λ (.ε x p) [e] [#[Z "key",.ε y p2,kpos]] pos) (tF K' M H0 (LP F fe)):=by
 let(rfl,rfl,rfl,rfl,rfl,_,_,_):=h;subst g;let(_,_,_,_,D,G):=G;show vd G (r.κ j) l f o c D.m D.b i q d a s
variable(cb:CI K mg c C)
include cb
theorem xY(G:OM P w K mg base C Bp k "__init__" (CW K FF))(a:K=K')(d:JA X (e::es) (IP K' ga))(f:k+1<=n:=by ext)(g:Gl X c:=by rfl)(hz:CA X c e es pos:=by show Gj):JE X (.Λ (.ε c p) (e::es) [] pos) (C3 K' λs=>Nh c FF (ga s) s):=by
 let(rfl,rfl,rfl,rfl,rfl,_,_,_):=h;subst a;let(_,_,_,_,_,D,G):=G;show xo cb.cof (cb.mkB D) G (r.κ f) g cb.m D.b (E:=E0) HG d hz
theorem eb(G:OM P w K mg base C Bp k m (A4 K F))(f:K=K')(g:JE X o (Fw K' M H0 fo))(i:JA X (e::es) (CP K' M H0 fa))(j:k<=n:=by ext) (a:AJ (e::es) X.G=(O',Ar e X.G)::AJ es X.G:=by show D8 rfl) (d:(AD pos (AJ es X.G)).any (·.1)=O':=by rfl) (l:ME X o m (e::es) pl apos pos:=by rfl):JE X (.Λ (.α o m apos) (e::es) [] pos) (tD K' M H0 λρ=>(DP c m F (fo ρ) (fa ρ)).j Dk):=by
 let(rfl,rfl,rfl,rfl,rfl,_,_,_):=h;subst f;let(_,_,_,_,_,D,G):=G;show vT cb.cof cb.cl D.M G (r.κ j) D.b (E:=E0) HG g i a d l
theorem U9(G:OM P w K mg base C Bp k m (A4 K F))(a:K=K')(d:JE X o (Fw K' M H0 fo))(e:k<=n:=by ext)(f:ME X o m [] pl apos pos:=by rfl):JE X (.Λ (.α o m apos) [] [] pos) (tD K' M H0 λρ=>(DP c m F (fo ρ) (Z [])).j Dk):=by
 let(rfl,rfl,rfl,rfl,rfl,_,_,_):=h;subst a;let(_,_,_,_,_,D,G):=G;show vU cb.cof cb.cl D.M G (r.κ e) D.b (E:=E0) HG d f
theorem Ni(G:OM P w K mg base C Bp k m (CW K FF))(f:K=K')(g:JE X o (EC K' gp))(i:JA X (e::es) (IP K' ga))(j:k<=n:=by ext) (a:AJ (e::es) X.G=(O',Ar e X.G)::AJ es X.G:=by show D8 rfl) (d:(AD pos (AJ es X.G)).any (·.1)=O':=by rfl) (l:ME X o m (e::es) pl apos pos:=by rfl):JE X (.Λ (.α o m apos) (e::es) [] pos) (C3 K' λs=>DQ c m FF (gp s) (ga s) s):=by
 let(rfl,rfl,rfl,rfl,rfl,_,_,_):=h;subst f;let(_,_,_,_,_,D,G):=G;show xm cb.cof cb.cl D.M G (r.κ j) D.b (E:=E0) HG g i a d l
theorem xZ(G:OM P w K mg base C Bp k m (CW K FF))(a:K=K')(d:JE X o (EC K' gp))(e:k<=n:=by ext)(f:ME X o m [] pl apos pos:=by rfl):JE X (.Λ (.α o m apos) [] [] pos) (C3 K' λs=>DQ c m FF (gp s) (Z []) s):=by
 let(rfl,rfl,rfl,rfl,rfl,_,_,_):=h;subst a;let(_,_,_,_,_,D,G):=G;show xn cb.cof cb.cl D.M G (r.κ e) D.b (E:=E0) HG d f
end
section
variable{K:Ap}{M:Fb}{st:AF}{g:Ax}{i:Nat}
@[simp]def IQ(i:Nat)(g:Ax):Ax:=λa=>g (Lp i a)
theorem ya(h:JS X st (tS K M H0 g)):JS X st (tS K M H0 (IQ i g)):=rK i h
end
end Internal
namespace Internal
open PySem PySem.Spec PyProof.Rows
@[simp]theorem ZHb(a b:Int):Be (.r a) (.r b)=decide (a=b):=by show(a==b)=_;by_cases h:a=b<;>simp[h]
@[simp]theorem ZHg(a b:Af):Be (.ψ a) (.ψ b)=decide (a=b):=by show(a==b)=_;by_cases h:a=b<;>simp[h]
@[simp]theorem ZG8(a b:Bool):Be (.bl a) (.bl b)=decide (a=b):=by show(a==b)=_;by_cases h:a=b<;>simp[h]
@[simp]theorem ZHc:Be .Α .Α=J':=id rfl
@[simp]theorem ZGO(a:Bool)(b:Int):Be (.bl a) (.r b)=decide ((if a then 1 else 0)=b):=by show((if a then 1 else 0)==b)=_;by_cases h:(if a then 1 else 0)=b<;>simp[h]
@[simp]theorem ZGT(a:Int)(b:Bool):Be (.r a) (.bl b)=decide (a=(if b then 1 else 0)):=by show(a==(if b then 1 else 0))=_;by_cases h:a=(if b then 1 else 0)<;>simp[h]
@[simp]theorem ZGL(a:Int)(b:Af):Be (.r a) (.ψ b)=O':=id rfl
@[simp]theorem ZG7(a:Af)(b:Int):Be (.ψ a) (.r b)=O':=id rfl
@[simp]theorem ZHf(a:Bool)(b:Af):Be (.bl a) (.ψ b)=O':=id rfl
@[simp]theorem ZGN(a:Af)(b:Bool):Be (.ψ a) (.bl b)=O':=id rfl
@[simp]theorem ZHa(b:Int):Be .Α (.r b)=O':=id rfl
@[simp]theorem ZGY(b:Af):Be .Α (.ψ b)=O':=id rfl
@[simp]theorem ZG9(b:Bool):Be .Α (.bl b)=O':=id rfl
@[simp]theorem ZHe(b:Int):Be (.r b) .Α=O':=id rfl
@[simp]theorem ZHi(b:Af):Be (.ψ b) .Α=O':=id rfl
@[simp]theorem ZG5(b:Bool):Be (.bl b) .Α=O':=id rfl
@[simp]theorem ZGS(a b:U D):Be (.X a) (.X b)=Do a b:=id rfl
@[simp]theorem ZG6(a b:U D):Be (.O a) (.O b)=Do a b:=id rfl
@[simp]theorem ZGQ(a b:U D):Be (.X a) (.O b)=O':=id rfl
@[simp]theorem ZG1(a b:U D):Be (.O a) (.X b)=O':=id rfl
@[simp]theorem ZGU(a:U D)(b:Int):Be (.X a) (.r b)=O':=id rfl
@[simp]theorem ZGW(a:U D)(b:Af):Be (.X a) (.ψ b)=O':=id rfl
@[simp]theorem ZGX(a:U D):Be (.X a) .Α=O':=id rfl
@[simp]theorem ZGP(a:U D)(b:Bool):Be (.X a) (.bl b)=O':=id rfl
@[simp]theorem ZGR(a:U D)(b:Int):Be (.r b) (.X a)=O':=id rfl
@[simp]theorem ZHj(a:U D)(b:Af):Be (.ψ b) (.X a)=O':=id rfl
@[simp]theorem ZHd(a:U D):Be .Α (.X a)=O':=id rfl
@[simp]theorem ZGV(a:U D)(b:Bool):Be (.bl b) (.X a)=O':=id rfl
@[simp]theorem ZG2(a:U D)(b:Int):Be (.O a) (.r b)=O':=id rfl
@[simp]theorem ZG0(a:U D)(b:Af):Be (.O a) (.ψ b)=O':=id rfl
@[simp]theorem ZGM(a:U D):Be (.O a) .Α=O':=id rfl
@[simp]theorem ZG3(a:U D)(b:Bool):Be (.O a) (.bl b)=O':=id rfl
@[simp]theorem ZGZ(a:U D)(b:Int):Be (.r b) (.O a)=O':=id rfl
@[simp]theorem ZHh(a:U D)(b:Af):Be (.ψ b) (.O a)=O':=id rfl
@[simp]theorem ZG4(a:U D):Be .Α (.O a)=O':=id rfl
@[simp]theorem ZGJ(a:U D)(b:Bool):Be (.bl b) (.O a)=O':=id rfl
@[simp]theorem ZF7:Do [] []=J':=by erw[Do]
@[simp]theorem ZFG(a b:D)(c bs:U D):Do (a::c) (b::bs)=(Be a b&&Do c bs):=by erw[Do]
@[simp]theorem ZGF(b:D)(bs:U D):Do [] (b::bs)=O':=by erw[Do]
@[simp]theorem ZGE(b:D)(bs:U D):Do (b::bs) []=O':=by erw[Do]
@[simp]theorem yb:∀(a b:U Int),Do (a.j D.r) (b.j D.r)=decide (a=b)
  |[],[]=>by simp
  |[],_::_=>by simp
  |_::_,[]=>by simp
  |x::a,y::b=>by simp[yb a b]
@[simp]theorem ZFM(n:Nat)(a:U Int):(a.j D.r).ϭ (A5 n)=J':=by
  rw[Du];intro x b;let(i,_,rfl):=Bm.mp b;cases n<;>rfl
@[simp]theorem ZGI(t n:String):MM t n=(t==n||(t=="bool"&&n=="int")):=rfl
@[simp]theorem ZE7:HR=["NoneType","bool","int","str","tuple","list"]:=rfl
@[simp]theorem FH:ZY=12:=rfl
@[simp]theorem ZGB:Dv.tysL []=Z []:=rfl
@[simp]theorem ZFF(n:String)(r:U D):Dv.tysL (.ty n::r)=(Dv.tysL r).j (n::·):=rfl
@[simp]theorem ZGC(ns:U Int):HP (ns.j D.r)=Z ns:=T9 ns
@[simp]theorem Va:∀(ns:U Bool),Kl (ns.j D.bl)=Z ns
  |[]=>rfl
  |n::ns=>by erw[AU,Kl,Va ns];rfl
theorem Zz{c:Type}{b:D->VE->O VE}{e:AG}{ρ:VE}(G F:c->D):∀(xs:U c),(∀x∈xs,∃a,b (G x) ρ=Z a/\e a=Z (F x))->DW b (λ_=>Z J') e ρ (xs.j G)=Z (xs.j F)
 |[],_=>rfl
 |x::xs,h=>by
  let(a,d,f):=h x Bh;erw[AU,DW,d,f,Zk,Cp,Zz G F xs λy g=>h y<|Bl _ g]
@[simp]theorem ZD{a:Type}(l:U a)(h:l.a<=1000000):Zh (Z l)=Z l:=by
  have:l.a<=Ay:=Bv h (by ext);simp[this]
theorem yc{a c:Type}(f:a->c)(xs:U a)(lo b:O Int):EQ (xs.j f) lo b=(EQ xs lo b).j f:=by simp_all [EQ]
theorem Vb{b:Type}(xs:U b)(k:Int)(h:0<=k):EQ xs J (Z k)=xs.ϋ k.θ:=by
 unfold EQ;rw[show HT.sIx xs.a 0 J=0 from rfl,show HT.sIx xs.a xs.a (Z k)=min k.θ xs.a by erw[HT.sIx];split<;>lia,Oc,Nat.sub_zero];rcases Nat.le_total k.toNat xs.length with a|a
 .rw[Nat.min_eq_left a]
 .rw[Nat.min_eq_right a,List.take_length,Hf a]
theorem Vc{b:Type}(xs:U b)(k:Int)(h:0<=k):EQ xs (Z k) J=xs.ρ k.θ:=by
 unfold EQ;rw[show HT.sIx xs.a xs.a J=xs.a from rfl,show HT.sIx xs.a 0 (Z k)=min k.θ xs.a by erw[HT.sIx];split<;>lia];rcases Nat.le_total k.toNat xs.length with a|a
 .simp_all [Nat.min_eq_left,Hf,Q6,AX]
 .rw[Nat.min_eq_right a,List.drop_length,UE a,List.take_nil]
theorem ye{c:Type}(xs:U c)(i j:Int)(d:0<=i)(e:0<=j):EQ xs (Z i) (Z j)=(xs.ρ i.θ).ϋ (j.θ-i.θ):=by
 unfold EQ;rw[show HT.sIx xs.a 0 (Z i)=min i.θ xs.a by erw[HT.sIx];split<;>lia,show HT.sIx xs.a xs.a (Z j)=min j.θ xs.a by erw[HT.sIx];split<;>lia];rcases Nat.le_total i.toNat xs.length with a|a
 .rw[Nat.min_eq_left a];rcases Nat.le_total j.toNat xs.length with b|b
  .rw[Nat.min_eq_left b]
  .rw[Nat.min_eq_right b,Hf<|Q6 ▸ AX _,Hf (by rw[Q6];lia)]
 .rw[Nat.min_eq_right a,List.drop_length,UE a,List.take_nil,List.take_nil]
theorem O1(j:Int)(a:0<=j)(h:j<1000000000):FZ [.r j]=Z ((BI j.θ).j λ(k:Nat)=>D.r k):=by grind [Iu,FZ,MD]
theorem O2(n:Nat)(h:n<1000000000):FZ [.r n]=Z ((BI n).j λ(k:Nat)=>D.r k):=by
 rw[O1 _ (KC n)<|Int.lt_toNat.mp h,IL]
theorem yf(i j:Int)(c:0<=i)(a:i<1000000000)(h:j<1000000000)(b : -1000000000<j):N4 [.r i,.r j]=Z ((BI (j-i).θ).j λ(k:Nat)=>D.r (i+(k:Int))):=by
 erw[N4];rw[MD #[∅,by show Int.lt_of_add_one_le a,by show Int.le_of_lt b,by show Int.lt_of_add_one_le h]];rfl
theorem yg(xs ys:U D)(h:xs.a+ys.a<=1000000):Zs (.O xs) (.O ys)=Z (.O (xs++ys)):=by
 erw[Zs];rw[if_pos<|Bv h (by ext)]
theorem Vd(neg:Bool)(c:Nat)(z:Af):D9 neg (.ψ #[(T' [c])]) (.ψ z)=Z (.bl (if neg then !decide (c∈z.Ϝ.B)else decide (c∈z.Ϝ.B))):=by
 let h:=StrLaws.found_one z c;simp_all
@[simp]theorem O3(d:D):Dk (.y d)=d:=rfl
@[simp]theorem Ia(xs:U D)(b:Kd):Dk (.Κ xs b)=.O xs b:=rfl
end Internal
set_option backward.eqns.nonrecursive true
set_option tactic.hygienic true
namespace Internal
open PySem PySem.Spec PyProof.Rows PySem.W
section
variable{P:AM}{w:Aj}{K:Ap}{mg:Bz}{base:Al}{N:U Af}{n:Nat}(h:XI P w K mg base X N sc)(r:AL n X.A)
include h
include r in
end
@[simp]def L1:Cl->O (U IV)
  |.dat .l a=>Z (a.j .y)
  |.mix .l a=>Z a
  |_=>J
@[simp]def setIt(c:Cl)(j:Nat)(x:IV):Cl:=match c,x with
  |.dat .l a,.val d=>.Μ .l (a.ν j d)
  |.dat .l a,x=>.mix .l ((a.j .y).ν j x)
  |.mix .l a,x=>.mix .l (a.ν j x)
  |c,_=>c
@[simp]def Nj(p:IS->O Nat)(fi:IS->O D)(o:O (IV×Gh))(s:IS):RI:=match o with
  |some r=>match p (s.1,r.2),fi (s.1,r.2)with
   |some n,Z (.int k)=>match r.2[n]? with
    |some c=>match L1 c with
     |some a=>match D7 a.a k with
      |some j=>.U (s.1,r.2.ν n (setIt c j r.1))
      |none=>.Ω
     |none=>.Ω
    |none=>.Ω
   |_,_=>.Ω
  |none=>.Ω
section
variable{K:Ap}{L:Nat}{N:Fb}{H:Hp}{G:Gh}
theorem eo:∀{xs:U D}{vs:U V},Ad K N H xs vs->Paired (AS K φ L N H) (xs.j IV.y) vs
 |[],_,h=>by erw[Ad]at h;subst h;show .ϔ
 |x::xs,_,h=>by erw[Ad]at h;let(v,r,rfl,q,t):=h;show .Θ q<|eo t
theorem Q7{x:IV}{v:V}:∀{xs:U IV}{vs:U V}(j:Nat),Paired (AS K φ L N H) xs vs->AS K φ L N H x v->Paired (AS K φ L N H) (xs.ν j x) (vs.ν j v)
 |_,_,_,.nil,_=>.ϔ
 |_,_,0,.cons _ t,q=>.Θ q t
 |_,_,j+1,.cons h t,q=>.Θ h<|Q7 j t q
theorem Bo.its(R:Bo K φ G H){n:Nat}{c:Cl}{xs:U IV}(e:G[n]?=Z c)(h:L1 c=Z xs):∃vs,H (φ n)=Z (.O vs)/\Paired (AS K φ G.a (LV φ G) H) xs vs/\c.kd=Z .l:=by
 let q:=R.Ν n c e;unfold L1 at h;split at h
 .cases h;let(vs,a,b):=q;show#[vs,a,eo b,rfl]
 .cases h;let(vs,a,b):=q;show#[vs,a,b,rfl]
 .cases h
theorem Bo.setIt(R:Bo K φ G H){n j:Nat}{c:Cl}{xs:U IV}{vs:U V}{x:IV}{v:V}(e:G[n]?=Z c)(h:L1 c=Z xs)(w:H (φ n)=Z (.O vs))(o:Paired (AS K φ G.a (LV φ G) H) xs vs)(k:AS K φ G.a (LV φ G) H x v):Bo K φ (G.ν n (setIt c j x)) (AK H (φ n) (.O (vs.ν j v)))/\Go φ G H φ (G.ν n (setIt c j x)) (AK H (φ n) (.O (vs.ν j v))):=by
 unfold L1 at h;split at h
 .next b=>
  cases h;let(p,t,y):=R.Ν n _ e;rw[w]at t;let z:vs=p:=by cases t;rfl
  subst z;cases x with
  |no=>show k.Η
  |val d=>show R.chg (c':=.Μ .l<|b.set j d) (u:=CO K .l (φ n) (b.set j d)<|vs.set j v) e rfl rfl λL N s a f g i=>by subst g i;show#[_,f,Ad.ν j (Ad.Τ a.st _ _ y)<|Aw.Τ a.st _ _ k]
  |exc m=>show R.chg (c':=.mix .l<|(b.map .val).set j<|.exc m) (u:=CO K .l (φ n) (((b.map IV.val).set j<|.exc m).map un)<|vs.set j v) e rfl rfl λL N s a f g i=>by subst g i;show#[_,f,Q7 j (Paired.mapP o λ_ _ q=>AS.go a q) (AS.go a k)]
  |cel m=>show R.chg (c':=.mix .l<|(b.map .val).set j<|.cel m) (u:=CO K .l (φ n) (((b.map IV.val).set j<|.cel m).map un)<|vs.set j v) e rfl rfl λL N s a f g i=>by subst g i;show#[_,f,Q7 j (Paired.mapP o λ_ _ q=>AS.go a q) (AS.go a k)]
 .next b=>
  cases h;let A:Internal.setIt (.mix .l xs) j x=.mix .l (xs.ν j x):=by cases x<;>rfl
  rw[A];show R.chg (c':=.mix .l<|xs.set j x) (u:=CO K .l (φ n) ((xs.set j x).map un)<|vs.set j v) e rfl rfl λL N s a f g i=>by subst g i;show#[_,f,Q7 j (Paired.mapP o λ_ _ q=>AS.go a q) (AS.go a k)]
 .cases h
end
section
variable{e ei:Expr}{tpos:AB}{b:U AF}{g:IS->RI}
theorem yh(z:JE X o (EC X.K gp))(A:JE X ei (tJ X.K gi))(B:JE X e (C3 X.K gx)) (C:∀v,assign (.μ o ei tpos) X.G v=(do
   let b <- DU [v] (Ar o X.G);let f <- DU [v,b] (Ar ei X.G);standAt tpos
   DU [v,b,f] (setItem b f v)
   release [v,b,f] []):=by intro _;rfl) (E:swapsWithSole [.μ o ei tpos] e pos.Ϯ X.G=Am O':=by rfl) (d:swappedStores [.μ o ei tpos] e X.G=Am J:=by rfl) (G:(Gz [.μ o ei tpos] X.G).j (·.2)=[assign (.μ o ei tpos) X.G]:=by rfl):JS X (.Ϭ [.μ o ei tpos] e pos) (tK X.K λs=>Nj gp gi (gx s) s):=#[(P2 B.h (P1 z.h A.h Y0 C) E d G).κ λD' W H F=>by
 let(L,s,R,q):=F;unfold Nj at q;dsimp only at q;split at q
 .next r M=>
  apply#[L,s,r,R,M,λa v H1 i N l=>?_];split at q
  .next n k P Q=>
   apply#[a,(s.1,r.2),n,i,P,λ_=>#[a,(s.1,r.2),.r k,i,Q,λw H2 m d=>?_]];erw[Aw]at d;subst d;split at q
   .next c p=>
    split at q
    .next xs t=>
     split at q
     .next j T=>
      let R2:=i.δ m;let(S,u,x,_):=R2.g.its p t;let(Y,g3):=R2.g.setIt (j:=j) p t u x (AS.go (Go.δ m) N);let y:=(l.E<|Go.δ m).E g3;show⟨a n,S,k,j,rfl,rfl,u,by rw[<- Nb x];show T,q a W _ (R.go Y y) y⟩
     .show q.Η
    .show q.Η
   .show q.Η
  .show q.Η
 .show q.Η]
end
section
theorem yi(k:Nat)(h:k<16777217):¬ (!Builtin.List.listFitsIndex (k:Int))=J':=by
 let a:et (k:Int)=J':=by
  unfold et;rw[Dp,decide_eq_true_eq,decide_eq_true_eq];constructor<;>lia
 rw[a];decide
end
section
def yj:V->U V->Hp->VK->Prop:=λx a H Q=>∃l b,x=.I l/\a=[]/\H l=Z (.O b)/\Q .Α (AK H l (.O []))
theorem ym:Je X "list.clear" yj:=by
 intro b s i H x j v k Q d f g h;let(l,m,rfl,rfl,c,q):=h;cases f;cases g;let(z,a,n,r,o,e):=d.lstM c;apply BY F.slot_list_clear #[_,e,rfl] F.entry_list_clear (F.args_list_clear_1 _) (AutoSeq1.list_clear_list_0 l a.C n (by rw[B5];lia)) #[e,?_];show#[.Α,_,d.lset (its':=[]) (ys:=[]) c e rfl .ϔ (E3 _),rfl,q]
end
section
variable{a b:Expr}{e:Expr}{to:TE}{t:TA}{name:Af}{T id:String}{r:V->U V->Hp->VK->Prop}
def yn(K:Ap)(T:String)(r:V->U V->Hp->VK->Prop)(to:TE):TE:=λb H Q=>to b H λx a=>Qg K T x a/\r x [] a Q
theorem yo(i:PlainAttrs T)(slot:Slot T name id)(d:typeOf (.Β id)=Am (.ι "method_descriptor"))(j:Je X id r)(k:PE X o to) (b:FQ o name X.G (Ar o X.G)=Ar o X.G:=by rfl) (c:(apos.ϴ==cpos.Ϯ)=J':=by rfl):PE X (.Λ (.α o name apos) [] [] cpos) (yn X.K T r to):=by
 intro a s e H Q t h;apply wpAny_Call_method0_late b c<|A1 (k a s e H _ t h) λv l ⟨x,m,f,g,ty,n⟩=>?_;let(p,q):=Y4 f g ty;show#[T,id,i,slot,d,p,q,Calls.callWith_builtin rfl<|PySem.evalArgs_none<|j a l e m x [] v [] Q f g .ϔ n]
end
@[simp]def Nk(p:O Nat)(s:IS):O (IV×Gh):=match p with
  |some n=>match s.2[n]? with
   |some (.dat .l _)=>Z (.y .Α,s.2.ν n (.Μ .l []))
   |_=>J
  |none=>J
section
theorem yp(j:JE X o (EC X.K gp))(a:FQ o "clear" X.G (Ar o X.G)=Ar o X.G:=by rfl)(b:(apos.ϴ==cpos.Ϯ)=J':=by rfl):JE X (.Λ (.α o "clear" apos) [] [] cpos) (C3 X.K λs=>Nk (gp s) s):=#[(yo Lq PySem.F.slot_list_clear PySem.F.type_list_clear ym j.h a b).κ λp H Q k=>by
   let(c,s,r,R,ex,q):=k;dsimp only at ex;unfold Nk at ex;split at ex
   .next n m=>
    split at ex
    .next t d=>
     cases ex;let(e,f,u):=R.g.Ν n _ d;apply#[c,s,n,R,m,λ_=>?_];let(R2,i):=LY (k':=.l) (ys:=[]) (ws:=[]) R.g d Ad.ϔ;show#[.Q #[rfl,e,.Q<|.Q f],c n,e,rfl,rfl,f,q c _ _ (R.go R2 i) (by erw[AS,Aw]) i]
    .cases ex
   .cases ex]
end
@[simp]def O4(i:Nat)(s:IS):O IS:=match s.1[i]? with
  |some (.cel n)=>match s.2[n]? with
   |some (.dat k a)=>Z (s.1.ν i (.y (.O a k)),s.2.ν n .dead)
   |_=>J
  |_=>J
@[simp]def Nl(i:Nat)(g:IS->RI)(s:IS):RI:=match O4 i s with
  |some a=>g a
  |none=>.Ω
theorem Bu.frs{K:Ap}{s u:IS}{H:Hp}{i:Nat}(R:Bu K φ s I H)(h:O4 i s=Z u):Bu K φ u I H/\Go φ s.2 H φ u.2 H:=by
 unfold O4 at h;split at h
 .next n B=>
  split at h
  .next k C w=>
   cases h;let E:n<s.2.a:=(Cr.mp w).1;let d:∀{j:Nat} {c:Cl} {p:Kd},(s.2.ν n .dead)[j]?=Z c->c.kd=Z p->j≠n/\s.2[j]?=Z c:=λ{j c p} e f=>by
    by_cases b:n=j
    .subst b;rw[Fa E]at e;cases e;cases f
    .rw[DR b]at e;show#[BM b,e]
   let sub:∀a,LV φ (s.2.ν n .dead) a->LV φ s.2 a:=λa ⟨j,c,p,e,f,r⟩=>#[j,c,p,(d e f).2,f,r];let S:¬ LV φ (s.2.ν n .dead) (φ n):=λ⟨j,c,p,e,f,r⟩=>(d e f).1<|R.g.inj j n c _ p k (d e f).2 w f rfl r;let go:Go φ s.2 H φ (s.2.set n .dead) H:=#[λ_ _=>rfl,by simp,λa o e _=>e,λa y=>.Q<|sub a y];let R2:Bo K φ (s.2.set n .dead) H:=#[λj c e=>by
    by_cases b:n=j
    .subst b;rw[Fa E]at e;cases e;trivial
    .rw[DR b]at e;let q:=R.g.Ν j c e;cases c with
     |dead=>trivial
     |dat k C=>let(t,b,l):=q;show#[t,b,Ad.Τ go.st _ _ l]
     |mix k C=>let(t,b,l):=q;show#[t,b,Paired.mapP l λ_ _ q=>AS.go go q],
    λj m c F L M e N b l r=>R.g.inj j m c F L M (d e b).2 (d N l).2 b l r]
   let P:=R.go R2 go;apply#[#[by simp[R.len],R2,λj x e=>?_],go];by_cases G:i=j
   .subst G;let A:i<s.1.a:=(Cr.mp B).1;rw[Fa A]at e;cases e;rcases R.slot i _ B with z|⟨v,Q,T,rfl⟩
    .cases z
    .let(t,b,l):=R.g.Ν n _ w;apply .σ #[_,Q,?_];erw[AS,Aw];show#[φ n,t,rfl,.of S b,l.nw λa y=>.Q<|sub a y]
   .rw[DR G]at e;show P.ϕ j x e
  .cases h
 .cases h
theorem yq{b:U AF}{g:IS->RI}(i:Nat)(h:JB X b (tK X.K g)):JB X b (tK X.K λs=>Nl i g s):=#[λa st c H D j d=>by
 let(e,s,R,q):=d;unfold Nl at q;dsimp only at q;split at q
 .next f=>
  let(R2,go):=R.frs f;show h.h a st c H D j #[e,_,R2,Ci.jk go q]
 .show q.Η]
def yr:V->U V->Hp->VK->Prop:=λx b H Q=>∃l a k v,x=.I l/\b=[.r ((k:Nat):Int)]/\H l=Z (.O a)/\a[k]?=Z v/\Q v (AK H l (.O (a.Ε k)))
section
variable{e:Expr}{g:IS->O D}
theorem yt:Qh X "list.pop" yr:=by
 intro c s K H x T v P Q R m o h
 let(l,p,k,y,rfl,rfl,d,t,q):=h
 cases m
 let(u,rfl,A):=o.one
 let(w,rfl):=A
 let(z,a,n,r,Y,e):=R.lstM d
 let(f,b,B):=r.Ρ t
 let C:=(Cr.mp b).1
 let E:Ay=16777216:=Ip
 let g:et (k:Int)=J':=by have:=yi k ∅;exists this
 let i:seqIndex? (k:Int) a.C.o=Z k:=by
  unfold seqIndex?
  erw[show ¬ ((k:Int)<0) by lia,if_false,B5]
  rw[if_pos (by simp;lia)];simp
 let G:a.C[k]?=Z f:=by exists b
 let j:a.C.o<=Ay:=by rw[B5];lia
 generalize L:((k:Nat):Int)=N at g i ⊢
 let M:=@PySem.MeetsSeq.list_pop_at l a.C n N w k f g i G j
 apply BY F.slot_list_pop #[_,e,rfl] F.entry_list_pop (F.args_list_pop_2 _ _)
  M #[e,?_]
 apply#[y,_,R.lset (its':=a.Ε k) d e ?_ (r.Ε k) ?_,B,q]
 .change a.C.Ϗ k=(a.Ε k).C
  rw[List.eraseIdxIfInBounds_toArray]
 .have:=Tw p k
  lia
@[simp]def KG(p:O Nat)(o:O D)(s:IS):O (IV×Gh):=match p,o with
  |some n,Z (.int i)=>match s.2[n]? with
   |some (.dat .l a)=>if 0<=i then(a[i.θ]?).j λd=>(.y d,s.2.ν n (.Μ .l (a.Ε i.θ)))else J
   |_=>J
  |_,_=>J
theorem yu(y:JE X o (EC X.K gp))(z:JE X e (tJ X.K g))(hz:BO X o "pop" apos e cpos:=by show OV):JE X (.Λ (.α o "pop" apos) [e] [] cpos) (C3 X.K λs=>KG (gp s) (g s) s):=#[(G9 Lq PySem.F.slot_list_pop PySem.F.type_list_pop yt y.h (Z2 z.h Ba hz.s) hz.b hz.f hz.l hz.s hz.p).κ λN H Q A=>by
   let(a,s,r,R,ex,q):=A;dsimp only at ex;unfold KG at ex;split at ex
   .next n i B hd=>
    split at ex
    .next L k=>
     let(C,ex):=Z0 ex;let(d,E,rfl):=B7.mp ex;let(m,t,u):=R.g.Ν n _ k;apply#[a,s,n,R,B,λ_=>#[.Q #[rfl,m,.Q<|.inl t],a,s,_,R,hd,λv M sm x=>?_]];let(R2,c):=LY (k':=.l) (R.g.δ sm) k ((u.δ sm).erase i.θ);let(w,G,P):=(u.δ sm).Ρ E;let j:v=.r ((i.θ:Nat):Int):=by
      erw[Aw]at x;rw[Nm C];show x
     show#[a n,m,i.θ,w,rfl,by rw[j],sm _ _ t,G,q a _ _ (R.go R2<|(Go.δ sm).E c) (Aw.Τ c.st _ _ P)<|(Go.δ sm).E c]
    .cases ex
   .cases ex]
@[simp]def O5(o:O D)(x:O (IV×Gh)):O (IV×Gh):=match o,x with
  |some d,Z (.val a,G)=>(Zs d a).j λb=>(.y b,G)
  |_,_=>J
@[simp]def O6(p:O Nat)(x:O (IV×Gh))(s:IS):O (IV×Gh):=match p,x with
  |some n,Z (.val d,G)=>match s.2[n]?,G[n]? with
   |some (.dat .l _),Z (.dat .l a)=>if a.a<Ay then Z (.y .Α,G.ν n (.Μ .l (a++[d])))else J
   |_,_=>J
  |_,_=>J
variable{a b:Expr}{f:IS->O D}
theorem yv(o:JE X a (tJ X.K f))(t:JE X b (C3 X.K gx)):JE X (.BinOp a .Add b pos) (C3 X.K λs=>O5 (f s) (gx s)):=#[(Yu aN o.h t.h).κ λC H Q u=>by
 let(k,s,r,R,ex,q):=u;unfold O5 at ex;dsimp only at ex;split at ex
 .next d l G hd w=>
  let(y,x,rfl):=B7.mp ex;show#[k,s,d,R,hd,λz E sm i=>#[k,s,_,R.δ sm,w,λc m n R2 j go=>aP (LV c G) n z m d l y Q (λa h=>R2.g.nh h) (Aw.Τ go.st _ _ i).p (show Aw X.K (LV c G) n l m from j).p x λv A e B=>q c v A (R2.δ e) B<|((Go.δ sm).E go).E<|Go.δ e]]
 .cases ex]
theorem yw(y:JE X o (EC X.K gp))(z:JE X e (C3 X.K gx))(hz:BO X o "append" apos e cpos:=by show OV):JE X (.Λ (.α o "append" apos) [e] [] cpos) (C3 X.K λs=>O6 (gp s) (gx s) s):=#[(G9 Lq TV TW Qi y.h (Z2 z.h Ba hz.s) hz.b hz.f hz.l hz.s hz.p).κ λM H Q A=>by
   let(a,s,r,R,ex,q):=A;dsimp only at ex;unfold O6 at ex;split at ex
   .next n d G B hd=>
    split at ex
    .next N P c u=>
     let(C,ex):=Z0 ex;cases ex;let(i,E,_):=R.g.Ν n _ c;apply#[a,s,n,R,B,λj=>#[.Q #[rfl,i,.Q<|.inl E],a,s,_,R,hd,λk v T m S go=>?_]];let(F,w,x):=m.g.Ν n _ u;let(R2,t):=LY (k':=.l) m.g u (x.Ι<|Ad.Θ S Ad.ϔ);let L:=go.ext n j;rw[L]at w R2 t;show#[a n,F,v,rfl,rfl,w,by rw[<- x.a];show C,q k _ _ (m.go R2 t) (by erw[AS,Aw])<|go.E t]
    .cases ex
   .cases ex]
theorem yx:JS X (.v0 J pos) (tK X.K λs=>.ϸ (.y .Α) s.2):=#[λa s0 b H D d h=>by
 let(c,s,R,q):=h;show wpAny_Return_none #[.Α,b,H,d,rfl,q c _ H R.g (by erw[AS,Aw])<|Go.same λ_ _ e=>e]]
theorem yy:E2 X (.ι "str") (λxs H Q=>∃i,xs=[.r i]/\i.natAbs.log2<1920/\Q (.ψ (toString i)) H):=by
 intro a s b H xs c Q d r h;let(i,rfl,hz,q):=h;let(u,rfl,t,rfl):=r.one;show PySem.P.str_of_int hz #[.ψ _,H,d.tok _,#[_,rfl],q]
@[simp]def L3:U D->O D
  |[.int i]=>if i.natAbs.log2<1920 then Z (.ψ (toString i))else J
  |_=>J
theorem yz{K:Ap}:Gk K (λxs H Q=>∃i,xs=[.r i]/\i.natAbs.log2<1920/\Q (.ψ (toString i)) H) L3:=by
 intro N H b c d Q f h e q;unfold L3 at e;split at e
 .let(hz,e):=Z0 e;cases e;let(v,rfl,a):=Paired.one' h;show#[_,by rw[a.r],hz,q _ H (Ak.ω H) N8]
 .cases e
end
section
variable{P:AM}{w:Aj}{K K':Ap}{mg:Bz}{base:Al}{N:U Af}{M:Fb}{k n:Nat}{c m:Af}{F:U Sl->O Rv}{e:Expr}{p:AB}(h:XI P w K mg base X N sc)(r:AL n X.A)
theorem eu{E:XK}(g:nsIn K CZ c=Z (Z (.I C))){H:Hp}{Q:VK}(h:tF K M H0 (λρ=>(DP c m F (fo ρ) (fa ρ)).L FW) I H Q):J2 C m (A4 K F) [] E (Fw K M H0 fo) (CP K M H0 fa) I H Q:=by
 let(ρ,d,R,e,q):=h;let(r,i,b):=Ch.mp e;unfold FW at b;split at b
 .cases b;show c7 g R i λv t j f k ⟨a,l,n,o,p,s⟩=>by subst n;show q a l j (f.E k) (f.ύ o) p s
 .cases b
include h r
variable(cb:CI K mg c C)
include cb
theorem yA(G:OM P w K mg base C Bp k m (A4 K F))(f:K=K')(g:JE X o (Fw K' M H0 fo))(i:JA X (e::es) (CP K' M H0 fa))(j:k<=n:=by ext) (a:AJ (e::es) X.G=(O',Ar e X.G)::AJ es X.G:=by show D8 rfl) (d:(AD pos (AJ es X.G)).any (·.1)=O':=by rfl) (l:ME X o m (e::es) pl apos pos:=by rfl):JE X (.Λ (.α o m apos) (e::es) [] pos) (tF K' M H0 λρ=>(DP c m F (fo ρ) (fa ρ)).L FW):=by
 let(rfl,rfl,rfl,rfl,rfl,_,_,_):=h;subst f;let(_,_,_,_,_,D,G):=G;show#[(Tr g.h cb.cl D.M G (r.κ j) D.b .ϔ (E:=E0) HG i.h a d l).κ λ_ _ _ h=>eu cb.cof h]
theorem yB(G:OM P w K mg base C Bp k m (A4 K F))(a:K=K')(d:JE X o (Fw K' M H0 fo))(e:k<=n:=by ext)(f:ME X o m [] pl apos pos:=by rfl):JE X (.Λ (.α o m apos) [] [] pos) (tF K' M H0 λρ=>(DP c m F (fo ρ) (Z [])).L FW):=by
 let(rfl,rfl,rfl,rfl,rfl,_,_,_):=h;subst a;let(_,_,_,_,_,D,G):=G;show#[(Ts d.h cb.cl D.M G (r.κ e) D.b .ϔ (E:=E0) HG f).κ λ_ _ _ h=>c9<|eu cb.cof h]
end
open Classical in
def Hq(i n:Nat)(xs:U D)(g:IS->RI):U D->IS->RI
 |[],s=>if s.2[n]?=Z (.Μ .l xs)then .U s else .Ω
 |d::b,s=>if s.2[n]?=Z (.Μ .l xs)then match g (s.1.ν i (.y d),s.2)with
  |.next a=>Hq i n xs g b a
  |.cont a=>Hq i n xs g b a
  |.brk a=>.U a
  |r=>r
  else .Ω
@[simp]def Q8(i:Nat)(g:IS->RI)(p:O Nat)(s:IS):RI:=match p with
  |some n=>match s.2[n]? with
   |some (.dat .l a)=>Hq i n a g a s
   |_=>.Ω
  |none=>.Ω
section
variable{x:Af}{g:IS->RI}
theorem yC{B:U AF}{i:Nat}{tp:AB}(hp:PassesOwn (Ae X.β X.w) X.A X.G X.xe)(hc:X.ϵ=J')(ho:JE X o (EC X.K gp))(hN:X.N.η)(hb:JB X B (tK X.K g)) (T:X.N[i]?=Z x:=by rfl) (S:Loc X.G.Ξ x:=by ac_rfl) (hf:X.fn x=J'\/X.env.scope.names.lookup x=Z .local:=by ac_rfl) (hs:∀x,E1 o X.env x=Am x:=by intro _;rfl):JS X (.For (.Name x tp) o B [] pos) (tK X.K λs=>Q8 i g (gp s) s):=#[(NI hp hc (Ti ho.h) (Th hN T S hf) hb.h hs).κ λD' I H z0=>by
 let(W,s,R,q):=z0;dsimp only at q;unfold Q8 at q;split at q
 .next n hn=>
  split at q
  .next j S=>
   let(vs,h1,h2):=R.g.Ν n _ S;apply#[W,s,n,R,hn,λhl=>#[W n,rfl,#[vs,.Q<|.inl h1],?_]];apply⟨λk m C E=>m=j.a-k/\k<=j.a/\∃a p,Bu X.K a p C E/\Go W s.2 H a p.2 E/\Ci X.K a p.2 E D' (Hq i n j g (j.ρ k) p),⟨j.a,by simp,E3 _,W,s,R,Go.δ<|Ak.ω H,q⟩,?_⟩;intro k m C E zQ;let(rfl,hle,a,p,Y,gn,f):=zQ;by_cases c:p.2[n]?=Z (.Μ .l j)
   .let(P,g1,g2):=Y.g.Ν n _ c;rw[gn.ext n hl]at g1;let sq:BW X.K E (W n) P:=.Q<|.Q g1;by_cases u:k<j.a
    .let(w,hw,hdw):=g2.Ρ<|Cb u;rw[HK u,Hq,if_pos c]at f;apply .inr ⟨⟨P,w,sq,hw⟩,λF L=>k+1<=j.a/\∃a p,Bu X.K a p F L/\Go W s.2 H a p.2 L/\Ci X.K a p.2 L D' (Hq i n j g (j.ρ<|k+1) p),λF L z=>⟨j.a-(k+1),∅,rfl,z⟩,λx L yl=>?_⟩;let(e3,y):=yl;subst e3;let e4:=y P sq;rw[hw]at e4;cases e4;apply#[a,(p.1.ν i<|.y j[k],p.2),Y.put i hdw,?_];cases t:g (p.1.ν i<|.y j[k],p.2)with
     |fail=>rw[t]at f;show f
     |next Q=>rw[t]at f;show λr G M R2 b=>#[u,r,Q,R2,gn.E b,Ci.jk b f]
     |cont Q=>rw[t]at f;show λr G M R2 b=>#[u,r,Q,R2,gn.E b,Ci.jk b f]
     |brk Q=>rw[t]at f;show λr G M R2 b=>f r G M R2 b
     |ret x G'=>rw[t]at f;show λr v M R2 hv b=>f r v M R2 hv b
    .let e:k=j.a:=∅
     subst e;rw[Lh<|AX _,Hq,if_pos c]at f;show .Q ⟨⟨P,sq,by rw[<- g2.a];show AX _⟩,f a C E Y<|Go.δ<|Ak.ω E⟩
   .cases hd:j.ρ k with
    |nil=>rw[hd,Hq,if_neg c]at f;show f.Η
    |cons d ds=>rw[hd,Hq,if_neg c]at f;show f.Η
  .show q.Η
 .show q.Η]
end
section
variable{α β:Type}{a:α}{b:Bool}{x:D}{l:U α}{f:α->O β}{g:α->β}{n:Nat}{s:Sl}{k:Kd}{o:O Ac}{v:IV}{vs:U IV}{G:Gh}{m:Nat}{s2:IS}{p:IV×Gh}
theorem yD:Cp (Z a) f=f a:=rfl
theorem yE:Cp J f=J:=rfl
theorem yF:Dy g (Z a)=Z (g a):=rfl
theorem yG:Dy g J=J:=rfl
theorem yH:List.j g (a::l)=g a::List.j g l:=rfl
theorem yI:List.j g []=[]:=rfl
theorem yJ:Zk (Z a) (Z l)=Z (a::l):=rfl
theorem yK:(a::l)[0]?=Z a:=rfl
theorem yL:(a::l)[n+1]?=l[n]?:=rfl
theorem yM{b:α}:(a::l).ν 0 b=b::l:=rfl
theorem yN{b:α}:(a::l).ν (n+1) b=a::l.ν n b:=rfl
theorem yO:A9 (.y x::ρ) 0=Z x:=rfl
theorem yP:A9 (.Κ xs k o::ρ) 0=Z (.O xs k):=rfl
theorem yQ:A9 (.gV xs k::ρ) 0=Z (.O xs k):=rfl
theorem yR:A9 (s::ρ) (n+1)=A9 ρ n:=rfl
theorem yS:C0 (.y x::ρ) 0=Z (.y x):=rfl
theorem yT:C0 (.Κ xs k o::ρ) 0=Z (.gV xs k):=rfl
theorem yU:C0 (.gV xs k::ρ) 0=Z (.gV xs k):=rfl
theorem yV:C0 (s::ρ) (n+1)=C0 ρ n:=rfl
theorem yW:Bf (.y x::ρ) 0=Z x:=rfl
theorem yX:Bf (s::ρ) (n+1)=Bf ρ n:=rfl
theorem yY:BV (.y x::ρ) 0=Z x:=rfl
theorem yZ:BV (.gV xs k::ρ) 0=Z (.O xs k):=rfl
theorem y1:BV (s::ρ) (n+1)=BV ρ n:=rfl
theorem y3:Bw (.ξ m::vs,G) 0=Z m:=rfl
theorem y4:Bw (v::vs,G) (n+1)=Bw (vs,G) n:=rfl
theorem y7:vw m (v::vs,G)=Dx m G v::vw m (vs,G):=rfl
theorem y8:vw m ([],G)=[]:=rfl
theorem zc{h:Ax}:Ze (.U ρ) h=h ρ:=rfl
theorem zd{h:Ax}{r:Rv}:Ze (.ϸ r) h=.ϸ r:=rfl
theorem ze{h:Ax}:Ze (.brk ρ) h=.brk ρ:=rfl
theorem zf{h:Ax}:Ze (.cont ρ) h=.cont ρ:=rfl
theorem zh{p q:DB}:ZH (Z J') p q=p:=rfl
theorem zi{p q:DB}:ZH (Z O') p q=q:=rfl
theorem zj{h:A8}:Zo (.U s2) h=h s2:=rfl
theorem zk{h:A8}:Zo (.ϸ v G) h=.ϸ v G:=rfl
theorem zn{h:A8}:Zo (.cont s2) h=.cont s2:=rfl
theorem zo{p q:RI}:C4 (Z J') p q=p:=rfl
theorem zq{p q:RI}:C4 (Z O') p q=q:=rfl
theorem zr:AI (Z (.bl b))=Z b:=rfl
theorem zt:CV n (Z p) s2=.U (s2.1.ν n p.1,p.2):=rfl
theorem zu:C1 n (Z x) ρ=.U (ρ.ν n (.y x)):=rfl
theorem zv:Zv (Z x)=.ϸ (.y x):=rfl
theorem zw{p:O Bool}:CK (Z J') p=Z J':=rfl
theorem zx{p:O Bool}:CK (Z O') p=p:=rfl
theorem zy{p:O Bool}:DL (Z J') p=p:=rfl
theorem zz{p:O Bool}:DL (Z O') p=Z O':=rfl
theorem zA:ZM (Z b)=Z (!b):=rfl
theorem zB:xD (Z x) s2=Z (.y x,s2.2):=rfl
theorem zC:DV (Z x)=Z (.y x):=rfl
theorem zD:C5 (Z p) s2=.U (s2.1,p.2):=rfl
theorem zE:Fi (Z p)=.ϸ p.1 p.2:=rfl
theorem zF{F:FI}:Ho F (Z vs) s2=F vs s2.2:=rfl
theorem zG:C8 (Z b)=Z (.bl b):=rfl
theorem zH:xC k (Z xs) s2=Z (.ξ s2.2.a,s2.2++[.Μ k xs]):=rfl
end
end Internal
set_option tactic.hygienic false
namespace Internal.K52
open PySem PySem.Spec PyProof.Rows Internal
section
set_option hygiene false in
local macro_rules | `(#[$a,*])=>do let w:Lean.Term <- a.getElems.foldrM (λx w=>if x.raw.isNatLit?.isSome then `(Zk (C0 r $x) $w)else `(Zk (DV $x) $w)) (<- `(some []));return w
set_option hygiene false in
local macro_rules | `(#v[$a,*])=>`(λr=>#[$a,*])
local macro_rules | `(!$n:num)=>`(λr=>A9 r $n)
local macro_rules | `(~~~$n:num)=>`(λ_=>some (.int $n))
local macro_rules | `(∅)=>`(λr=>.next r)
local macro_rules | `($a >>> $b)=>`(λr=>Ze ($a r) $b)
local macro_rules | `($a <<< $b)=>`(λr=>Zo ($a r) $b)
def Q9:Ax:=λr=>Ze (Zv (C8 (DL (AI ((Zi CT #v[0,Z (.ty "int")]) r)) (AI (C8 (ZM (AI ((Zi CT #v[0,Z (.ty "bool")]) r)))))))) ∅
def Z5:=A3 1 1 Q9
def Ra:AG:=λr=>C8 (CK (AI ((Za (D9 O') (!0) (λ_=>Z (.ψ "abcdefghijklmnopqrstuvwxyz"))) r)) (AI ((Za (D9 O') (!0) (λ_=>Z (.ψ "0123456789"))) r)))
def L4:Ax:=λr=>Ze (ZH (ZM (ZJ ((Zi CT #v[0,Z (.ty "str")]) r))) (Ze (Zv (Z (.bl O'))) ∅) (.U r)) (λr=>Ze (ZH (CK (AI ((Za C9 (Zi Zn #v[0]) (~~~1)) r)) (AI ((Za E4 (Zi Zn #v[0]) (~~~12)) r))) (Ze (Zv (Z (.bl O'))) ∅) (.U r)) (λr=>Ze (Zv (C8 (DL (AI ((Za (D9 O') (Za As (!0) (~~~0)) (λ_=>Z (.ψ "abcdefghijklmnopqrstuvwxyz"))) r)) (AI ((Zi Fg #v[ZA ((Zj 1 [] (λr=>(BV r 0).L Zu) (Zc 0) (λ_=>Z J') Ra) r)]) r))))) ∅))
def JL:=A3 1 1 L4
def ez:Ax:=λr=>Ze (Zv ((Zi Zn #v[(Za As (!0) (~~~0)) r]) r)) ∅
def O7:=A3 1 1 ez
def Ve:Ax:=λr=>Ze (Zv (Lm (AI ((Za C9 (!1) (Zi Zn #v[0])) r)) ((Za As (!0) (!1)) r) (Z .Α))) ∅
def JM:=A3 2 2 Ve
def eA:AG:=(~~~0)
def eB:Ax:=λr=>Ze (Zv ((Zi E5 #v[ZA ((Zj 1 [] (λr=>(BV r 0).L Zu) (Zc 0) (λ_=>Z J') eA) r)]) r)) ∅
def Nn:=A3 1 1 eB
def eC:Ax:=λr=>Ze (Zv ((Zh (#[(Zi Zn #v[0]) r,(Zi Oh #v[0]) r,(Zi MJ #v[0]) r,(Zi MK #v[0]) r].L Zt)).j D.X)) ∅
def Re:=A3 1 1 eC
def eE:Ax:=λr=>Ze (Zv ((Zh (#[(Za Zs (Za As (!0) (~~~0)) (Za As (!1) (~~~0))) r,(Za Zs (Za As (!0) (~~~1)) (Za As (!1) (~~~1))) r,(Zi QA #v[(Za As (!0) (~~~2)) r,(Za As (!1) (~~~2)) r]) r,(Zi Qz #v[(Za As (!0) (~~~3)) r,(Za As (!1) (~~~3)) r]) r].L Zt)).j D.X)) ∅
def O8:=A3 2 2 eE
def Rf:AG:=(Za (DC O') (!1) (!0))
def Vf:Ax:=λr=>Ze (Zv ((Zi Fg #v[ZA ((Zj 2 [] (FE (λr=>BV r 0) (λr=>BV r 1)) (CD 2 (Zq (Zc 0) (Zq (Zc 1) Cz))) (λ_=>Z J') Rf) r)]) r)) ∅
def Rg:=A3 2 2 Vf
def Vg:A8:=λs=>Zo (C4 (jT 2 (λr=>AI ((Za N9 (Zi Zn #v[0]) (~~~200)) r)) s) (Zo (.Ω) ∅) (.U s)) (λs=>Zo (C5 (Fj (Bw s 0) ((jE 0 (λr=>Bf r 1)) s) s) s) ∅)
def Vh:=D4 2 2 Vg
def Vi:A8:=λs=>Zo (C4 (jT 2 (λr=>AI ((Za (D9 J') (!1) (!0)) r)) s) (Zo (.Ω) ∅) (.U s)) (λs=>Zo (C5 (OW (Bw s 0) ((jE 0 (λr=>Bf r 1)) s) s) s) ∅)
def Vj:=D4 2 2 Vi
def eF:AG:=λr=>ZA ((Ff He #v[0]) r)
def Vk:Ax:=λr=>Ze (Cy ((Zj 1 [] (λr=>((A9 r 0).L (Db "Book" "axes")).L Zu) (Zc 0) (λ_=>Z J') eF) r)) ∅
def Vl:=A3 1 1 Vk
def Vm:Ax:=λr=>Ze (Cy ((Ff He #v[(A9 r 0).L (Db "Book" "standing")]) r)) ∅
def Vn:=A3 1 1 Vm
def Vo:Ax:=λr=>Ze (Cy (JH ((A9 r 0).L (Db "Book" "tables")))) ∅
def Rh:=A3 1 1 Vo
def Vp:A8:=λs=>Zo (GV "Book" "axes" (λs=>Bw s 0) (xD ((jE 1 (Za Zs (Za Zs (DN (λr=>(A9 r 0).L (Db "Book" "axes")) (λ_=>Z J) (λr=>DM (A9 r 1)) Ex) (λr=>ZA (Zh (#[Bf r 2].L Zt)))) (DN (λr=>(A9 r 0).L (Db "Book" "axes")) (λr=>DM ((Za Zs (!1) (~~~1)) r)) (λ_=>Z J) Ex))) s) s) s) ∅
def No:=D4 3 3 Vp
def Vq:Ax:=λr=>Ze (ZH (AI ((Za C9 (!1) (Zi Zn #v[0])) r)) (Ze (Zv ((Za As (!0) (!1)) r)) ∅) (.U r)) (λr=>Ze (Zv (Z (.r 0))) ∅)
def ZK:=A3 2 2 Vq
def Rj:Ax:=λr=>Ze (C1 2 ((Za ZP (Za Zs (Za Zs (Za Zs (Za Fx (!2) (~~~45742)) (Za Kj (!2) (~~~46949))) (Za Fx (~~~29) (!4))) (~~~11)) (~~~2147483647)) r) r) (λr=>Ze (GH 3 ((Za Kj (!2) (~~~8)) r) r) ∅)
def eG:Ax:=λr=>C1 2 ((Za Zs (Za ZP (!0) (~~~2147483549)) (~~~17)) r) r
def eH:Ax:=λr=>Dn 3 (Zh ((Z []).L Zt)) r
def eI:Ax:=(Z8 (λr=>(#[(Za Zs (!1) (~~~2)) r].L Zt).L FZ) (Zc 4) Rj)
def eJ:Ax:=λr=>Zv ((DN (!3) (λr=>DM (Z (.r 2))) (λ_=>Z J) Ex) r)
def zI:Ax:=λr=>.U r
def eK:=eJ >>> zI
def eM:=eI >>> eK
def eO:=eH >>> eM
def eP:=eG >>> eO
def eQ:Ax:=eP
def ZC:=A3 2 5 eQ
def Rk:AG:=(Za As (!1) (Za ZP (Za Zs (Za Kj (!2) (Za Zs (!0) (~~~2))) (Za Fx (~~~4) (!0))) (Za As (λr=>ZA (Zh (#[Z (.r 36),Z (.r 26)].L Zt))) (Zi intD #v[(Za B8 (!0) (~~~0)) r]))))
def eR:Ax:=λr=>ZH (AI ((Za B8 (!1) (~~~0)) r)) (Ze (Zv ((Za Zs (Za Iv (Za ZP (!0) (Za Lu (~~~10) (~~~30))) (Za Fx (~~~5) (Za Lu (~~~10) (~~~29)))) (!2)) r)) ∅) (.U r)
def eS:Ax:=λr=>C1 3 (Z (.ψ "abcdefghijklmnopqrstuvwxyz0123456789")) r
def eT:Ax:=λr=>C1 4 ((Za Zs (~~~1) (Za ZP (!0) (~~~12))) r) r
def eU:Ax:=λr=>C1 5 ((Za ZP (Za Kj (!0) (~~~12)) (!4)) r) r
def eV:Ax:=λr=>Dn 6 ((Zj 1 [3,0] (λr=>(#[Bf r 4].L Zt).L FZ) (Zc 0) (λ_=>Z J') Rk) r) r
def eW:Ax:=λr=>QD 6 (A9 r 5) ((Za As (!3) (Za ZP (Za Zs (Za Zs (Za Kj (!0) (Za Zs (!5) (~~~2))) (Za Fx (~~~4) (!5))) (Za Fx (~~~5) (!2))) (Za As (λr=>ZA (Zh (#[Z (.r 36),Z (.r 26)].L Zt))) (Zi intD #v[(Za B8 (!5) (~~~0)) r])))) r) r
def eX:Ax:=λr=>Zv ((Lx QE (λ_=>Z (.ψ "")) #v[6]) r)
def zJ:Ax:=λr=>.U r
def eY:=eX >>> zJ
def eZ:=eW >>> eY
def e6:=eV >>> eZ
def e7:=eU >>> e6
def e8:=eT >>> e7
def fh:=eS >>> e8
def fj:=eR >>> fh
def fm:Ax:=fj
def KH:=A3 3 7 fm
def L5:Ax:=λr=>Ze (ZH (DL (AI ((Za B8 (Za As (!3) (~~~0)) (!1)) r)) (AI ((Za C9 (!2) (Zi Zn #v[3])) r))) (Ze (Zv ((Za As (!3) (!2)) r)) ∅) (.U r)) ∅
def Rl:Ax:=λr=>Ze ((Z8 (λr=>(BV r 0).L Zu) (Zc 3) L5) r) (λr=>Ze (Zv (Z .Α)) ∅)
def Vr:=A3 3 4 Rl
def fq:Ax:=λr=>Ze (Zv ((Zh (#[(Zi Zn #v[0]) r,(Zi Oh #v[0]) r,(Zi MJ #v[0]) r,(Zi MK #v[0]) r].L Zt)).j D.X)) ∅
def Rm:=A3 1 1 fq
def Z4:Ax:=λr=>Ze (ZH (AI ((Za Cc (!3) (!4)) r)) (Ze (Zv ((Za C9 (Lx Oi (!2) #v[3]) (Lx Oi (!2) #v[4])) r)) ∅) (.U r)) ∅
def O9:Ax:=λr=>ZH (CK (HL (A9 r 0)) (HL (A9 r 1))) (Ze (Zv (C8 (DL (AI (C8 (HL (A9 r 0)))) (AI (C8 (ZM (HL (A9 r 1)))))))) ∅) (.U r)
def Vs:Ax:=λr=>ZH (AI ((Za Cc (Zi CT #v[0,Z (.ty "str")]) (Zi CT #v[1,Z (.ty "str")])) r)) (Ze (Zv ((Zi CT #v[1,Z (.ty "str")]) r)) ∅) (.U r)
def ft:Ax:=λr=>ZH (ZJ ((Zi CT #v[0,Z (.ty "int")]) r)) (Ze (Zv ((Za C9 (!0) (!1)) r)) ∅) (.U r)
def zK:Ax:=λr=>C1 2 (Z (.ψ "0123456789abcdefghijklmnopqrstuvwxyz")) r
def Vt:Ax:=(Z8 (FE (λr=>BV r 0) (λr=>BV r 1)) (CD 2 (Zq (Zc 3) (Zq (Zc 4) Cz))) Z4)
def fu:Ax:=λr=>Zv ((Za C9 (Zi Zn #v[0]) (Zi Zn #v[1])) r)
def zL:Ax:=λr=>.U r
def fA:=fu >>> zL
def Ro:=Vt >>> fA
def zM:=zK >>> Ro
def fB:=ft >>> zM
def Vu:=Vs >>> fB
def Z3:=O9 >>> Vu
def zN:Ax:=Z3
def Vv:=A3 2 5 zN
def zO:Ax:=λr=>Ze (Zv (C8 (DL (AI ((Zi CT #v[0,Z (.ty "int")]) r)) (AI (C8 (ZM (AI ((Zi CT #v[0,Z (.ty "bool")]) r)))))))) ∅
def Rp:=A3 1 1 zO
def fC:Ax:=λr=>Ze (Zv (C8 (CK (AI ((Zf Z5 #v[0]) r)) (AI ((Zf JL #v[0]) r))))) ∅
def Pa:=A3 1 1 fC
def fE:Ax:=λr=>Ze (ZH (HL (A9 r 0)) (Ze (Zv ((Zh (#[Z (.r 0),Z (.r 0)].L Zt)).j D.X)) ∅) (.U r)) (λr=>Ze (ZH (ZJ ((Zf Z5 #v[0]) r)) (Ze (Zv ((Zh (#[Z (.r 1),Bf r 0].L Zt)).j D.X)) ∅) (.U r)) (λr=>Ze (Zv ((Zh (#[Z (.r 2),Bf r 0].L Zt)).j D.X)) ∅))
def Rq:=A3 1 1 fE
def Vw:AG:=λr=>(Zh (#[(Zf JM #v[0,1]) r,(Zf JM #v[0,2]) r].L Zt)).j D.X
def fF:Ax:=λr=>Ze (Kf ((Jx (λr=>ZA ((Zj 1 [1,2] (λr=>(BV r 0).L Zu) (Zc 0) (λ_=>Z J') Vw) r))) r)) ∅
def Rr:=A3 3 3 fF
def Pb:Ax:=λr=>Ze (Zv (C8 (DL (AI ((Zf Z5 #v[1]) r)) (AI ((Jm Iw C9 (~~~0) (!1) (Zi Zn #v[0])) r))))) ∅
def Vx:=A3 2 2 Pb
def Pc:Ax:=λr=>Ze (Zv (C8 (DL (AI ((Zf Z5 #v[1]) r)) (AI ((Jm Iw Iw (~~~0) (!1) (Zf O7 #v[0])) r))))) ∅
def Vy:=A3 2 2 Pc
def Pd:Ax:=λr=>Ze (Zv (C8 (DL (AI ((Zf Z5 #v[1]) r)) (AI ((Jm Iw Iw (~~~0) (!1) (Za Iv (Zf O7 #v[0]) (~~~2))) r))))) ∅
def Rs:=A3 2 2 Pd
def Rt:Ax:=λr=>Ze (GH 4 ((Za Zs (~~~1) (Za ZP (Za As (!1) (Za Zs (~~~2) (!5))) (Za As (!4) (Za Iv (!5) (~~~1))))) r) r) ∅
def Pe:Ax:=λr=>Ze (ZH (AI ((Za E4 (!5) (~~~0)) r)) (Ze (C1 9 ((Za ZP (Za As (!1) (Za Zs (Za Zs (~~~7) (Za Fx (~~~7) (!5))) (!9))) (Za As (!4) (!5))) r) r) ∅) (.U r)) (λr=>Ze (GH 8 ((Zf KH #v[(Za Zs (!0) (Za Fx (Za As (!1) (~~~2)) (Za ZP (Za As (!1) (~~~6)) (~~~2)))) r,(Za ZP (Za Zs (Za As (!1) (~~~7)) (Za Fx (!5) (Za ZP (Za As (!1) (~~~8)) (~~~2)))) (~~~2)) r,9]) r) r) ∅)
def Ru:Ax:=λr=>Ze (Dn 8 (Zh ((Z []).L Zt)) r) (λr=>Ze (C1 9 ((Za ZP (Za Zs (!7) (Za As (!1) (~~~2))) (!2)) r) r) (λr=>Ze ((Z8 (λr=>(#[Bf r 3].L Zt).L FZ) (Zc 5) Pe) r) (λr=>Ze (GH 6 ((Zi E5 #v[8]) r) r) ∅)))
def fG:Ax:=λr=>C1 1 ((Zf ZC #v[0,Z (.r 40)]) r) r
def fH:Ax:=λr=>C1 2 ((Za Zs (~~~1) (Za ZP (Za As (!1) (~~~0)) (~~~6))) r) r
def fI:Ax:=λr=>C1 3 ((Za As (λr=>ZA (Zh (#[Z (.r 2),Z (.r 1),Z (.r 3),Z (.r 2),Z (.r 3),Z (.r 4),Z (.r 2),Z (.r 3)].L Zt))) (Za ZP (Za As (!1) (~~~1)) (~~~8))) r) r
def fJ:Ax:=λr=>Dn 4 (Zh (#[Bf r 2].L Zt)) r
def fK:Ax:=(Z8 (λr=>(#[Z (.r 1),Bf r 3].L Zt).L N4) (Zc 5) Rt)
def fM:Ax:=λr=>Dn 6 (Zh ((Z []).L Zt)) r
def fN:Ax:=(Z8 (λr=>(#[Bf r 2].L Zt).L FZ) (Zc 7) Ru)
def fO:Ax:=λr=>Cy (EO r 6)
def zP:Ax:=λr=>.U r
def fP:=fO >>> zP
def fQ:=fN >>> fP
def fR:=fM >>> fQ
def fS:=fK >>> fR
def fT:=fJ >>> fS
def fU:=fI >>> fT
def fV:=fH >>> fU
def fW:=fG >>> fV
def fX:Ax:=fW
def Rw:=A3 1 10 fX
def Vz:AG:=(Zf Vr #v[(Za As (!1) (!0)) r,(Za As (!2) (!0)) r,(Za As (!3) (!0)) r])
def VA:Ax:=λr=>Ze (Zv ((Zi E5 #v[ZA ((Zj 1 [0,1,2] (λr=>(#[(Zi Zn #v[1]) r].L Zt).L FZ) (Zc 0) (λ_=>Z J') Vz) r)]) r)) ∅
def VB:=A3 3 3 VA
def VC:AG:=(Za ZP (Za As (!1) (!0)) (Za Zs (Zi Zn #v[(Za As (Za As (!2) (!0)) (~~~0)) r]) (~~~1)))
def VD:Ax:=λr=>Ze (C1 2 ((Zf ZC #v[1,(Zi Zn #v[0]) r]) r) r) (λr=>Ze (Zv ((Zi E5 #v[ZA ((Zj 1 [2,0] (λr=>(#[(Zi Zn #v[0]) r].L Zt).L FZ) (Zc 0) (λ_=>Z J') VC) r)]) r)) ∅)
def L6:=A3 2 3 VD
def Rx:AG:=(Za As (Za As (Za As (!1) (!0)) (Za ZP (Za As (!2) (!0)) (Zi Zn #v[(Za As (!1) (!0)) r]))) (~~~0))
def VF:Ax:=λr=>Ze (C1 2 ((Zf ZC #v[1,Z (.r 6)]) r) r) (λr=>Ze (C1 3 ((Zi E5 #v[ZA ((Zj 1 [0,2] (λr=>(#[(Zi Zn #v[0]) r].L Zt).L FZ) (Zc 0) (λ_=>Z J') Rx) r)]) r) r) (λr=>Ze (Zv ((Zh (#[Bf r 3,(Za As (λr=>ZA (Zh (#[(Za Iv (Za ZP (Za As (!2) (~~~4)) (~~~7)) (~~~3)) r,(Za ZP (!1) (Za Lu (~~~10) (~~~30))) r,(Za Iv (~~~0) (Za ZP (!1) (Za Lu (~~~10) (~~~30)))) r,(Za ZP (Za As (!2) (~~~4)) (~~~2)) r].L Zt))) (Za ZP (Za As (!2) (~~~5)) (~~~4))) r].L Zt)).j D.X)) ∅))
def VG:=A3 2 4 VF
def L7:Ax:=λr=>Ze (ZH (AI ((Za Cc (!2) (!3)) r)) (Ze (Zv ((Zf Vv #v[2,3]) r)) ∅) (.U r)) ∅
def Ry:Ax:=λr=>Ze ((Z8 (FE (λr=>BV r 0) (λr=>BV r 1)) (CD 2 (Zq (Zc 2) (Zq (Zc 3) Cz))) L7) r) (λr=>Ze (Zv (Z (.bl O'))) ∅)
def VH:=A3 2 4 Ry
def VI:AG:=(Zf Rq #v[0])
def fY:Ax:=λr=>Ze (Zv ((Zi E5 #v[ZA ((Zj 1 [] (λr=>(BV r 0).L Zu) (Zc 0) (λ_=>Z J') VI) r)]) r)) ∅
def Np:=A3 1 1 fY
def VJ:AG:=(Zf Pa #v[0])
def VL:Ax:=λr=>Ze (ZH (ZM (ZJ ((Zi CT #v[0,Z (.ty "tuple")]) r))) (Ze (Zv (Z (.bl O'))) ∅) (.U r)) (λr=>Ze (ZH (CK (AI ((Za C9 (Zi Zn #v[0]) (~~~1)) r)) (AI ((Za E4 (Zi Zn #v[0]) (~~~4)) r))) (Ze (Zv (Z (.bl O'))) ∅) (.U r)) (λr=>Ze (Zv ((Zi Fg #v[ZA ((Zj 1 [] (λr=>(BV r 0).L Zu) (Zc 0) (λ_=>Z J') VJ) r)]) r)) ∅))
def VM:=A3 1 1 VL
def VN:Ax:=λr=>Ze (ZH (ZM (ZJ ((Zf Vx #v[0,1]) r))) (Ze (.Ω) ∅) (.U r)) (λr=>Ze (Zv ((Za As (!0) (!1)) r)) ∅)
def Rz:=A3 2 2 VN
def VO:AG:=(Zf Vy #v[0,1])
def VP:Ax:=λr=>Ze (ZH (CK (ZM (ZJ ((Zi CT #v[1,Z (.ty "tuple")]) r))) (AI ((Za Cc (Zi Zn #v[1]) (Zi Zn #v[0])) r))) (Ze (Zv (Z (.bl O'))) ∅) (.U r)) (λr=>Ze (Zv ((Zi Fg #v[ZA ((Zj 2 [] (FE (λr=>BV r 0) (λr=>BV r 1)) (CD 2 (Zq (Zc 0) (Zq (Zc 1) Cz))) (λ_=>Z J') VO) r)]) r)) ∅)
def L8:=A3 2 2 VP
def RC:AG:=(Zf Rr #v[1,(Za As (!2) (!0)) r,(Za As (!3) (!0)) r])
def fZ:Ax:=λr=>Ze (Cy ((Zj 2 [1,2] (Ng (λr=>BV r 0)) (CD 2 (Zq (Zc 0) (Zq (Zc 1) Cz))) (λ_=>Z J') RC) r)) ∅
def RD:=A3 3 3 fZ
def RF:AG:=(Zf Rw #v[(Za Zs (Zf ZK #v[1,(Za Zs (~~~1) (!0)) r]) (Za Fx (~~~1000) (!0))) r])
def RH:AG:=(DN (!0) (λ_=>Z J) (λr=>DM (Z (.r 3))) Ex)
def VQ:Ax:=λr=>C1 1 ((Za As (λr=>ZA (Zh (#[Z (.r 2),Z (.r 1),Z (.r 2),Z (.r 3),Z (.r 1),Z (.r 2),Z (.r 3),Z (.r 4)].L Zt))) (Za ZP (Zf ZK #v[0,Z (.r 0)]) (~~~8))) r) r
def VR:Ax:=λr=>Dn 2 ((Zj 1 [0] (λr=>(#[Bf r 1].L Zt).L FZ) (Zc 0) (λ_=>Z J') RF) r) r
def VS:Ax:=λr=>ZH (AI ((Za B8 (!1) (~~~4)) r)) (Ze ((IQ 2 (λr=>Dn 2 ((Zj 1 [] (λr=>(BV r 2).L Zu) (Zc 0) (λ_=>Z J') RH) r) r)) r) ∅) (.U r)
def VT:Ax:=λr=>Cy (EO r 2)
def zQ:Ax:=λr=>.U r
def VU:=VT >>> zQ
def VV:=VS >>> VU
def VX:=VR >>> VV
def VY:=VQ >>> VX
def VZ:Ax:=VY
def Pf:=A3 1 3 VZ
def Pg:AG:=(Zf VB #v[0,4,2])
def RJ:AG:=λr=>Bf r 5
def RK:Ax:=λr=>Ze (Ko 6 (A9 r 4) ((Zf Rm #v[(Za D0 (!3) (!4)) r]) r) r) ∅
def f3:Ax:=λr=>Gm 3 (Z []) r
def V0:Ax:=(Q0 3 (λr=>(BV r 1).L Zu) (CD 2 (Zq (Zc 4) (Zq (Zc 5) Cz))) Pg RJ)
def f4:Ax:=λr=>Gm 6 (Z []) r
def V1:Ax:=(IQ 3 (Z8 (λr=>(BV r 3).L EB) (Zc 4) RK))
def f5:Ax:=λr=>Kf (Hd r 6)
def zR:Ax:=λr=>.U r
def f6:=f5 >>> zR
def V2:=V1 >>> f6
def V3:=f4 >>> V2
def V4:=V0 >>> V3
def RL:=f3 >>> V4
def f7:Ax:=RL
def RM:=A3 3 7 f7
def V5:AG:=(Zf Rp #v[0])
def f8:AG:=(Zi CT #v[0,Z (.ty "bool")])
def V6:Ax:=λr=>Ze (ZH (CK (ZM (ZJ ((Zi CT #v[(Za As (!0) (!2)) r,Z (.ty "tuple")]) r))) (CK (AI ((Za Cc (Zi Zn #v[(Za As (!0) (!2)) r]) (~~~2)) r)) (ZM (ZJ ((Zi CT #v[(Za As (Za As (!0) (!2)) (~~~1)) r,Z (.ty "tuple")]) r))))) (Ze (Zv (Z (.bl O'))) ∅) (.U r)) (λr=>Ze (ZH (CK (ZM (ZJ ((Zi Fg #v[ZA ((Zj 1 [] (λr=>((Za As (Za As (!0) (!2)) (~~~1)) r).L Zu) (Zc 0) (λ_=>Z J') V5) r)]) r))) (ZJ ((Zi Lw #v[ZA ((Zj 1 [] (λr=>((Za As (Za As (!0) (!2)) (~~~0)) r).L Zu) (Zc 0) (λ_=>Z J') f8) r)]) r))) (Ze (Zv (Z (.bl O'))) ∅) (.U r)) (λr=>Ze (ZH (CK (AI ((Za (DC J') (Za As (Za As (!0) (!2)) (~~~0)) (!1)) r)) (AI ((Za Cc (Za D0 (!1) (Za As (Za As (!0) (!2)) (~~~0))) (Za As (Za As (!0) (!2)) (~~~1))) r))) (Ze (Zv (Z (.bl O'))) ∅) (.U r)) (λr=>Ze (ZH (DL (AI ((Za E4 (!2) (~~~0)) r)) (ZM (ZJ ((Zf VH #v[(Za As (Za As (!0) (Za Iv (!2) (~~~1))) (~~~0)) r,(Za As (Za As (!0) (!2)) (~~~0)) r]) r)))) (Ze (Zv (Z (.bl O'))) ∅) (.U r)) ∅)))
def V7:Ax:=λr=>Ze (ZH (CK (ZM (ZJ ((Zi CT #v[0,Z (.ty "list")]) r))) (AI ((Za Cc (Zi Zn #v[0]) (Zi Hn #v[1])) r))) (Ze (Zv (Z (.bl O'))) ∅) (.U r)) (λr=>Ze ((Z8 (λr=>(#[(Zi Zn #v[0]) r].L Zt).L FZ) (Zc 2) V6) r) (λr=>Ze (Zv (Z (.bl J'))) ∅))
def Ph:=A3 2 3 V7
def V8:AG:=(Zf VM #v[0])
def Pj:Ax:=λr=>Ze (C1 6 ((DN (!3) (λr=>DM ((Za Zs (!4) (~~~1)) r)) (λ_=>Z J) Ex) r) r) (λr=>Ze (QI (Oq (Op 1 (λr=>(Zh (#[Bf r 4,Bf r 5].L Zt)).j D.X) (λr=>Bf r 6)) (!6) r) (λr=>Ze (Zv (Z (.bl O'))) ∅) ∅) ∅)
def RO:Ax:=λr=>Ze (ZH (CK (AI ((Za Cc (Zi Zn #v[3]) (Zi Zn #v[(Za As (!0) (~~~0)) r])) r)) (AI ((Za (DC O') (Za As (!3) (~~~0)) (!2)) r))) (Ze (Zv (Z (.bl O'))) ∅) (.U r)) (λr=>Ze (Ko 2 ((Za As (!3) (~~~0)) r) (Z (.bl J')) r) (λr=>Ze ((Z8 (Ng (λr=>BV r 3)) (CD 2 (Zq (Zc 4) (Zq (Zc 5) Cz))) Pj) r) ∅))
def f9:Ax:=λr=>ZH (ZM (ZJ ((Zi Fg #v[ZA ((Zj 1 [] (λr=>(BV r 0).L Zu) (Zc 0) (λ_=>Z J') V8) r)]) r))) (Ze (Zv (Z (.bl O'))) ∅) (.U r)
def gc:Ax:=λr=>Gm 1 (Z []) r
def ge:Ax:=λr=>Gm 2 (Z []) r
def gg:Ax:=(Z8 (λr=>(BV r 0).L Zu) (Zc 3) RO)
def gh:Ax:=λr=>Zv (Z (.bl J'))
def zS:Ax:=λr=>.U r
def gj:=gh >>> zS
def gm:=gg >>> gj
def gq:=ge >>> gm
def gt:=gc >>> gq
def gu:=f9 >>> gt
def V9:Ax:=gu
def Nq:=A3 1 7 V9
def Wa:Ax:=λr=>Ze (Zv ((Zh (#[(Zf Np #v[(Za As (!0) (~~~0)) r]) r,(Za As (!0) (~~~1)) r].L Zt)).j D.X)) ∅
def RP:=A3 1 1 Wa
def Wb:Ax:=λr=>Ze (Zv (C8 (DL (AI ((Zf L8 #v[(A9 r 0).L (Db "Book" "axes"),1]) r)) (AI ((Za (DC O') (!1) (λr=>(A9 r 0).L (Db "Book" "tables"))) r))))) ∅
def RQ:=A3 2 2 Wb
def Wc:Ax:=λr=>Ze (ZH (ZM (ZJ ((Zi CT #v[0,Z (.ty "list")]) r))) (Ze (Zv (Z (.bl O'))) ∅) (.U r)) (λr=>Ze (ZH (CK (AI ((Za C9 (Zi Zn #v[0]) (~~~1)) r)) (AI ((Za E4 (Zi Zn #v[0]) (~~~40)) r))) (Ze (Zv (Z (.bl O'))) ∅) (.U r)) (λr=>Ze (Zv ((Zf Nq #v[0]) r)) ∅))
def Wd:=A3 1 1 Wc
def gv:Ax:=λr=>C1 2 ((Za Zs (!0) (λr=>ZA (Zh (#[Bf r 1].L Zt)))) r) r
def gw:Ax:=λr=>ZH (ZM (ZJ ((Zf Nq #v[2]) r))) (Ze (.Ω) ∅) (.U r)
def gy:Ax:=λr=>ZH (AI ((Za E4 (Zi Zn #v[2]) (~~~40)) r)) (Ze (.Ω) ∅) (.U r)
def gz:Ax:=λr=>Zv (Bf r 2)
def zT:Ax:=λr=>.U r
def gA:=gz >>> zT
def gB:=gy >>> gA
def gC:=gw >>> gB
def gD:=gv >>> gC
def We:Ax:=gD
def Wf:=A3 2 3 We
def Wg:A8:=λs=>Zo (C4 (jT 2 (λr=>CK (ZM (ZJ ((DP "Book" "is_kept" RQ (C0 r 0) #[1]).j Dk))) (AI ((Za B8 (!1) (Zf Nn #v[(A9 r 0).L (Db "Book" "axes")])) r))) s) (Zo (.Ω) ∅) (.U s)) (λs=>Zo (C5 (Q3 (OU "Book" "tables" s (Bw s 0)) ((jE 0 (λr=>Bf r 1)) s) s) s) ∅)
def Wh:=D4 2 2 Wg
def Wi:Ax:=λr=>Ze (ZH (ZM (ZJ ((DP "Book" "is_kept" RQ (C0 r 0) #[1]).j Dk))) (Ze (.Ω) ∅) (.U r)) (λr=>Ze (Cy ((Ff He #v[(Za D0 (λr=>(A9 r 0).L (Db "Book" "tables")) (!1)) r]) r)) ∅)
def Pk:=A3 2 2 Wi
def KI:Ax:=λr=>Ze (ZH (CK (ZM (ZJ (A9 r 1))) (AI ((Za Cc (Za As (!1) (λr=>MG (Z (.r 1)))) (!2)) r))) (Ze (GH 1 (Bf r 2) r) ∅) (.U r)) ∅
def Wj:Ax:=λr=>Ze (Dn 1 (Zh ((Z []).L Zt)) r) (λr=>Ze ((Z8 (λr=>(ZA ((LP Np (!0)) r)).L Zu) (Zc 2) KI) r) (λr=>Ze (Cy (EO r 1)) ∅))
def Pl:=A3 1 3 Wj
def Wk:AG:=(Zf Wd #v[0])
def Wl:Ax:=λr=>Ze (ZH (ZM (ZJ ((Zi CT #v[0,Z (.ty "list")]) r))) (Ze (Zv (Z (.bl O'))) ∅) (.U r)) (λr=>Ze (ZH (CK (AI ((Za C9 (Zi Zn #v[0]) (~~~1)) r)) (AI ((Za E4 (Zi Zn #v[0]) (~~~4)) r))) (Ze (Zv (Z (.bl O'))) ∅) (.U r)) (λr=>Ze (Zv ((Zi Fg #v[ZA ((Zj 1 [] (λr=>(BV r 0).L Zu) (Zc 0) (λ_=>Z J') Wk) r)]) r)) ∅))
def Wm:=A3 1 1 Wl
def Wn:A8:=λs=>Zo (C5 (DQ "Book" "put_ladder" No (Bw s 0) (Zk (((jE 0 (λr=>Bf r 1)) s).j .y) (Zk (((jE 1 (Zf Wf #v[(Zf Rz #v[(A9 r 0).L (Db "Book" "axes"),1]) r,2])) s).j .y) (Z []))) s) s) ∅
def Wo:=D4 3 3 Wn
def gE:AG:=λr=>(Zh (#[Bf r 0].L Zt)).j D.X
def gF:AG:=(Za As (!0) (~~~0))
def Wp:Ax:=λr=>Ze (Cy ((Zj 1 [] (λr=>((Zf Pl #v[ZA ((Zj 1 [] (λr=>(BV r 0).L Zu) (Zc 0) (λ_=>Z J') gE) r)]) r).L Zu) (Zc 0) (λ_=>Z J') gF) r)) ∅
def Wq:=A3 1 1 Wp
def Pm:AG:=(Za D0 (!0) (!1))
def Pn:Ax:=λr=>Ze (ZH (ZJ ((Zf Rg #v[0,3]) r)) (Ze (C1 5 ((Zi E5 #v[ZA ((Zj 2 [] (FE (λr=>BV r 0) (λr=>BV r 3)) (CD 2 (Zq (Zc 0) (Zq (Zc 1) Cz))) (λ_=>Z J') Pm) r)]) r) r) (λr=>Ze (Ko 2 (A9 r 5) (Lm (AI ((Za (DC O') (!5) (!2)) r)) ((Zf O8 #v[(Za D0 (!2) (!5)) r,4]) r) (Bf r 4)) r) ∅)) (.U r)) ∅
def Wr:AG:=λr=>(Zh (#[Bf r 0,(Za D0 (!1) (!0)) r].L Zt)).j D.X
def Ws:Ax:=λr=>Ze (Gm 2 (Z []) r) (λr=>Ze ((Z8 (λr=>(BV r 1).L Zu) (CD 2 (Zq (Zc 3) (Zq (Zc 4) Cz))) Pn) r) (λr=>Ze (Cy ((Zj 1 [2] (λr=>((Zf Pl #v[ZA ((Ff LR #v[2]) r)]) r).L Zu) (Zc 0) (λ_=>Z J') Wr) r)) ∅))
def Wt:=A3 2 6 Ws
def Wu:VE->O Bool:=λr=>AI ((Za Cc (Za OQ (!1) (!0)) (Za D0 (!2) (!0))) r)
def gG:AG:=λr=>Bf r 0
def Wv:VE->O Bool:=λr=>AI ((Za (DC J') (!0) (!1)) r)
def gH:AG:=λr=>Bf r 0
def gI:Ax:=λr=>Gm 2 ((Jx (!0)) r) r
def gJ:Ax:=λr=>Gm 3 ((Jx (!1)) r) r
def gK:Ax:=(IQ 2 (λr=>Dn 4 ((Zj 1 [3,2] (λr=>(BV r 2).L EB) (Zc 0) Wu gG) r) r))
def gL:Ax:=(IQ 3 (λr=>Cy ((FY Pl #v[(Za Zs (!4) (λr=>ZA ((Zj 1 [2] (λr=>(BV r 3).L EB) (Zc 0) Wv gH) r))) r]) r)))
def zU:Ax:=λr=>.U r
def gM:=gL >>> zU
def gN:=gK >>> gM
def gO:=gJ >>> gN
def gP:=gI >>> gO
def Ww:Ax:=gP
def RS:=A3 2 5 Ww
def Wx:AG:=(Za As (!0) (~~~0))
def Wy:A8:=λs=>CV 3 (xD ((jE 0 (Zf ZC #v[2,Z (.r 3)])) s) s) s
def Wz:A8:=λs=>CV 4 (xD ((jE 2 (Za ZP (Za As (!3) (~~~0)) (Zi Zn #v[1]))) s) s) s
def WA:A8:=λs=>CV 5 (xD ((jE 2 (Za Zs (λ_=>Z (.ψ "new")) (Zi L3 #v[(Zi Zn #v[(Za As (!1) (!4)) r]) r]))) s) s) s
def WB:A8:=λs=>CV 6 (xD ((jE 2 (Za Zs (λr=>(Zh (#[Bf r 5].L Zt)).j D.X) (DN (Za As (Za As (!1) (!4)) (Za ZP (Za As (!3) (~~~1)) (Zi Zn #v[(Za As (!1) (!4)) r]))) (λr=>DM (Z (.r 1))) (λ_=>Z J) Ex))) s) s) s
def WC:A8:=λs=>C4 (jT 2 (λr=>AI ((Za (D9 J') (!5) (λr=>ZA ((Zj 1 [] (λr=>((Za As (!1) (!4)) r).L Zu) (Zc 0) (λ_=>Z J') Wx) r))) r)) s) (Zo (C5 (DQ "Book" "grow" Wo (Bw s 0) (Zk (((jE 0 (λr=>Bf r 4)) s).j .y) (Zk (((jE 0 (λr=>Bf r 6)) s).j .y) (Z []))) s) s) (λs=>Zo (Nj (λs=>Bw s 1) (jE 0 (λr=>Bf r 4)) (xD ((jE 1 (Za Zs (Za As (!1) (!4)) (λr=>ZA (Zh (#[Bf r 6].L Zt))))) s) s) s) ∅)) (.U s)
def WD:A8:=λs=>.U s
def WE:=WC <<< WD
def WF:=WB <<< WE
def WG:=WA <<< WF
def WH:=Wz <<< WG
def WI:=Wy <<< WH
def Po:A8:=WI
def WJ:=D4 3 7 Po
def WK:VE->O Bool:=λr=>AI ((Za B8 (Zf JM #v[0,1]) (!2)) r)
def WL:AG:=(Za As (!0) (~~~0))
def WM:Ax:=λr=>Ze (ZH (DL (ZM (HL (A9 r 2))) (ZM (ZJ ((Zf Pa #v[2]) r)))) (Ze (Cy (Zh ((Z []).L Zt))) ∅) (.U r)) (λr=>Ze (Cy ((FY Wq #v[ZA ((Zj 1 [1,2] (λr=>(BV r 0).L Zu) (Zc 0) WK WL) r)]) r)) ∅)
def WN:=A3 3 3 WM
def WP:AG:=λr=>(Zh (#[Bf r 0,(Zf Re #v[ZA (Zh (#[Bf r 1].L Zt))]) r].L Zt)).j D.X
def WQ:Ax:=λr=>Ze (C1 3 (ZA ((Zj 2 [] (λr=>(BV r 1).L Zu) (CD 2 (Zq (Zc 0) (Zq (Zc 1) Cz))) (λ_=>Z J') WP) r)) r) (λr=>Ze (Cy ((FY Wt #v[(Zf RD #v[0,(Zf Nn #v[0]) r,2]) r,3]) r)) ∅)
def RU:=A3 3 4 WQ
def WR:AG:=λr=>(Zh (#[Bf r 1,Bf r 0].L Zt)).j D.X
def RV:Ax:=λr=>Ze (MO 2 ((Zj 1 [3] (λr=>((Zf RS #v[(Za D0 (!0) (!3)) r,(Za D0 (!1) (!3)) r]) r).L Zu) (Zc 0) (λ_=>Z J') WR) r) r) ∅
def WT:Ax:=λr=>Ze (Dn 2 (Zh ((Z []).L Zt)) r) (λr=>Ze ((Z8 (λr=>(ZA (JH (A9 r 0))).L Zu) (Zc 3) RV) r) (λr=>Ze (Cy (EO r 2)) ∅))
def WU:=A3 2 4 WT
def WV:Ax:=λr=>Ze (Zv ((Za E4 (Zi Zn #v[(Zf WN #v[0,1,2]) r]) (~~~0)) r)) ∅
def KJ:=A3 3 3 WV
def WW:AG:=λr=>(Zh (#[Bf r 0,(Zf RU #v[1,2,0]) r].L Zt)).j D.X
def WX:Ax:=λr=>Ze (Kf ((Jx (λr=>ZA ((Zj 1 [0,1] (λr=>(BV r 2).L Zu) (Zc 0) (λ_=>Z J') WW) r))) r)) ∅
def RW:=A3 3 3 WX
def WY:A8:=λs=>C4 (jT 2 (λr=>ZM (ZJ ((Zf L8 #v[(A9 r 0).L (Db "Book" "axes"),1]) r))) s) (Zo (.Ω) ∅) (.U s)
def WZ:A8:=λs=>C4 (jT 2 (λr=>AI ((Za (DC J') (!1) (λr=>(A9 r 0).L (Db "Book" "tables"))) r)) s) (Zo (C4 (jT 2 (λr=>AI ((Za N9 (Zi Hn #v[(A9 r 0).L (Db "Book" "tables")]) (~~~12)) r)) s) (Zo (.Ω) ∅) (.U s)) (λs=>Zo (Q2 (λs=>OU "Book" "tables" s (Bw s 0)) ((jE 0 (λr=>Bf r 1)) s) ((jE 1 (Zf RU #v[(A9 r 0).L (Db "Book" "axes"),(A9 r 0).L (Db "Book" "standing"),1])) s) s) ∅)) (.U s)
def gQ:A8:=λs=>Fi (xD ((jE 2 (Zi Zn #v[(Za D0 (λr=>(A9 r 0).L (Db "Book" "tables")) (!1)) r])) s) s)
def zV:A8:=λs=>.U s
def W0:=gQ <<< zV
def W3:=WZ <<< W0
def W4:=WY <<< W3
def Pp:A8:=W4
def L9:=D4 2 2 Pp
def RX:AG:=(Zf KJ #v[0,Z (.r 0),1])
def W5:Ax:=λr=>Ze (ZH (CK (ZM (ZJ ((Zi CT #v[1,Z (.ty "tuple")]) r))) (AI ((Za Cc (Zi Zn #v[1]) (Zi Zn #v[0])) r))) (Ze (Zv (Z (.bl O'))) ∅) (.U r)) (λr=>Ze (Zv ((Zi Fg #v[ZA ((Zj 2 [] (FE (λr=>BV r 0) (λr=>BV r 1)) (CD 2 (Zq (Zc 0) (Zq (Zc 1) Cz))) (λ_=>Z J') RX) r)]) r)) ∅)
def W6:=A3 2 2 W5
def W7:VE->O Bool:=λr=>AI ((Za B8 (Za As (!0) (Za Zs (!1) (~~~1))) (!2)) r)
def W8:AG:=(DN (!0) (λr=>DM ((Za Zs (!1) (~~~1)) r)) (λ_=>Z J) Ex)
def W9:AG:=λr=>Lm (AI ((Za B8 (Za As (!0) (!1)) (!2)) r)) ((Za Zs (DN (!0) (λ_=>Z J) (λr=>DM ((Za Zs (!1) (~~~1)) r)) Ex) (!3)) r) (Bf r 0)
def gR:Ax:=λr=>ZH (ZM (ZJ ((Zf Rs #v[0,1]) r))) (Ze (.Ω) ∅) (.U r)
def gS:Ax:=λr=>ZH (ZM (ZJ ((Zf KJ #v[0,1,2]) r))) (Ze (.Ω) ∅) (.U r)
def gT:Ax:=λr=>ZH (ZM (ZJ ((Zf KJ #v[0,(Za Zs (!1) (~~~1)) r,3]) r))) (Ze (.Ω) ∅) (.U r)
def gU:Ax:=λr=>C1 4 ((Za As (λr=>ZA ((Zj 1 [1,3] (λr=>(BV r 0).L Zu) (Zc 0) W7 W8) r)) (~~~0)) r) r
def gW:Ax:=λr=>Cy ((Zj 1 [1,2,4] (λr=>(BV r 0).L Zu) (Zc 0) (λ_=>Z J') W9) r)
def zW:Ax:=λr=>.U r
def gX:=gW >>> zW
def gY:=gU >>> gX
def gZ:=gT >>> gY
def g6:=gS >>> gZ
def g8:=gR >>> g6
def Xa:Ax:=g8
def Xb:=A3 4 5 Xa
def g9:AG:=λr=>ZA ((Ff He #v[0]) r)
def hD:A8:=λs=>C4 (jT 2 (λr=>ZM (ZJ ((Zf Wm #v[1]) r))) s) (Zo (.Ω) ∅) (.U s)
def hE:A8:=λs=>GV "Book" "axes" (λs=>Bw s 0) (xF .l (jG 1 (Zj 1 [] (λr=>(BV r 1).L Zu) (Zc 0) (λ_=>Z J') g9) s) s) s
def hG:A8:=λs=>GV "Book" "standing" (λs=>Bw s 0) (xF .l (jG 2 (λr=>Zh ((Z []).L Zt)) s) s) s
def hH:A8:=λs=>GV "Book" "tables" (λs=>Bw s 0) (xC .d (jG 1 (Ir RW #v[(A9 r 0).L (Db "Book" "axes"),ZA (Zh ((Z []).L Zt)),ZA (Zh (#[(Zf Nn #v[(A9 r 0).L (Db "Book" "axes")]) r].L Zt))]) s) s) s
def hJ:A8:=λs=>.U s
def hQ:=hH <<< hJ
def hR:=hG <<< hQ
def hU:=hE <<< hR
def hV:=hD <<< hU
def RY:A8:=hV
def Nr:=D4 2 2 RY
def hW:A8:=λs=>CV 1 (xP (OU "Book" "tables" s (Bw s 0)) s) s
def hX:A8:=λs=>GV "Book" "tables" (λs=>Bw s 0) (xC .d (jG 1 (Ir RW #v[(A9 r 0).L (Db "Book" "axes"),(A9 r 0).L (Db "Book" "standing"),ZA ((Ff LR #v[1]) r)]) s) s) s
def hZ:A8:=λs=>Fi (xC .l (jG 2 (FY WU #v[1,(A9 r 0).L (Db "Book" "tables")]) s) s)
def zX:A8:=λs=>.U s
def h7:=hZ <<< zX
def h8:=hX <<< h7
def h9:=hW <<< h8
def Xc:A8:=h9
def RZ:=D4 1 2 Xc
def Xd:Ax:=λr=>Ze (ZH (CK (ZM (ZJ ((Zi CT #v[1,Z (.ty "tuple")]) r))) (AI ((Za Cc (Zi Zn #v[1]) (~~~3)) r))) (Ze (Zv (Z (.bl O'))) ∅) (.U r)) (λr=>Ze (ZH (DL (AI ((Za Cc (Za As (!1) (~~~0)) (λ_=>Z (.ψ "+"))) r)) (AI ((Za Cc (Za As (!1) (~~~0)) (λ_=>Z (.ψ "-"))) r))) (Ze (Zv (Z (.bl O'))) ∅) (.U r)) (λr=>Ze (Zv (C8 (DL (AI ((Zf W6 #v[0,(Za As (!1) (~~~1)) r]) r)) (AI ((Zf Z5 #v[(Za As (!1) (~~~2)) r]) r))))) ∅))
def Xe:=A3 2 2 Xd
def Xf:A8:=λs=>Zo (C5 (DQ "Book" "put_ladder" No (Bw s 0) (Zk (((jE 0 (λr=>Bf r 1)) s).j .y) (Zk (((jE 1 (Zf Xb #v[(Zf Rz #v[(A9 r 0).L (Db "Book" "axes"),1]) r,2,3,4])) s).j .y) (Z []))) s) s) (λs=>Zo (Fi (DQ "Book" "tables_renewed" RZ (Bw s 0) (Z []) s)) ∅)
def R7:=D4 5 5 Xf
def Sa:A8:=λs=>Zo (C4 (jT 2 (λr=>ZM (ZJ ((Zf Xe #v[0,4]) r))) s) (Zo (.Ω) ∅) (.U s)) (λs=>Zo (C4 (jT 2 (λr=>AI ((Za B8 (Za As (!4) (~~~0)) (λ_=>Z (.ψ "+"))) r)) s) (Zo (C5 (Ho Vh (Zk ((Bw s 3).j .ξ) (Zk (((jE 2 (λr=>(Zh (#[(Za As (!4) (~~~1)) r,(Za As (!4) (~~~2)) r].L Zt)).j D.X)) s).j .y) (Z []))) s) s) ∅) (Zo (C5 (Ho Vj (Zk ((Bw s 3).j .ξ) (Zk (((jE 2 (λr=>(Zh (#[(Za As (!4) (~~~1)) r,(Za As (!4) (~~~2)) r].L Zt)).j D.X)) s).j .y) (Z []))) s) s) ∅)) ∅)
def ie:A8:=λs=>CV 3 (xC .l (jG 2 (Ff He #v[1]) s) s) s
def ig:A8:=λs=>JD 4 Sa (((jE 0 (λr=>Bf r 2)) s).L Kz) s
def ii:A8:=λs=>Fi (xF .l (jG 2 (LP RP (!3)) s) s)
def zY:A8:=λs=>.U s
def ik:=ii <<< zY
def im:=ig <<< ik
def io:=ie <<< im
def Xg:A8:=io
def Xh:=D4 3 5 Xg
def Pq:A8:=λs=>Zo (C4 (jT 2 (λr=>AI ((Za B8 (Za As (!10) (!6)) (!7)) r)) s) (Zo (C5 (Fj (Bw s 9) ((jE 2 (Za Zs (DN (!10) (λ_=>Z J) (λr=>DM ((Za Zs (!6) (~~~1)) r)) Ex) (DN (!8) (λr=>DM ((Za Zs (!6) (~~~1)) r)) (λ_=>Z J) Ex))) s) s) s) ∅) (Zo (C5 (Fj (Bw s 9) ((jE 0 (λr=>Bf r 10)) s) s) s) ∅)) ∅
def Pr:A8:=λs=>Zo (CV 3 (xD ((jE 0 (Zf ZC #v[2,Z (.r 4)])) s) s) s) (λs=>Zo (CV 4 (xD ((jE 2 (Za ZP (Za As (!3) (~~~0)) (Zi Zn #v[1]))) s) s) s) (λs=>Zo (CV 5 (xD ((jE 1 (Za As (!1) (!4))) s) s) s) (λs=>Zo (C4 (jT 2 (λr=>AI ((Za C9 (Zi Zn #v[(Za As (!5) (~~~0)) r]) (~~~2)) r)) s) (Zo (.ϸ (.y .Α) s.2) ∅) (.U s)) (λs=>Zo (CV 6 (xD ((jE 2 (Za ZP (Za As (!3) (~~~1)) (Za Iv (Zi Zn #v[(Za As (!5) (~~~0)) r]) (~~~1)))) s) s) s) (λs=>Zo (CV 7 (xD ((jE 2 (Za As (Za As (!5) (Za ZP (Za As (!3) (~~~2)) (Zi Zn #v[5]))) (!6))) s) s) s) (λs=>Zo (CV 8 (xD ((jE 2 (Za As (!5) (Za ZP (Za As (!3) (~~~3)) (Zi Zn #v[5])))) s) s) s) (λs=>Zo (C5 (DQ "Book" "regroup" R7 (Bw s 0) (Zk (((jE 0 (λr=>Bf r 4)) s).j .y) (Zk (((jE 0 (λr=>Bf r 6)) s).j .y) (Zk (((jE 0 (λr=>Bf r 7)) s).j .y) (Zk (((jE 2 (Za As (!8) (Za Zs (!6) (~~~1)))) s).j .y) (Z []))))) s) s) (λs=>Zo (CV 9 (xC .l (jG 2 (λr=>Zh ((Z []).L Zt)) s) s) s) (λs=>Zo (JD 10 Pq (((jE 0 (λr=>Bf r 5)) s).L Kz) s) (λs=>Nl 9 (λs=>Zo (Nj (λs=>Bw s 1) (jE 0 (λr=>Bf r 4)) (xD ((jE 0 (λr=>Bf r 9)) s) s) s) ∅) s))))))))))
def Xi:=D4 3 11 Pr
def Xj:A8:=λs=>Zo (GV "Book" "standing" (λs=>Bw s 0) (Ho Xh (Zk (((jE 1 (λr=>(A9 r 0).L (Db "Book" "axes"))) s).j .y) (Zk (((jE 1 (λr=>(A9 r 0).L (Db "Book" "standing"))) s).j .y) (Zk (((jE 0 (λr=>Bf r 1)) s).j .y) (Z [])))) s) s) (λs=>Zo (Fi (DQ "Book" "tables_renewed" RZ (Bw s 0) (Z []) s)) ∅)
def Xk:=D4 2 2 Xj
def Ps:A8:=λs=>Zo (C4 (jT 2 (λr=>DL (AI ((Za Cc (!2) (λr=>ZA (Zh ((Z []).L Zt)))) r)) (AI ((Za C9 (Za ZP (Za As (!4) (Za Zs (~~~1) (!6))) (~~~5)) (~~~2)) r))) s) (Zo (C5 (O6 (Bw s 5) (O5 ((jE 2 (λr=>(Zh (#[Z (.ψ "-")].L Zt)).j D.X)) s) (KG (Bw s 2) ((jE 2 (Za ZP (Za As (!4) (Za Zs (~~~6) (!6))) (Zi Zn #v[2]))) s) s)) s) s) ∅) (Zo (C5 (Fj (Bw s 2) ((jE 2 (Zf VG #v[1,(Za Zs (Za Zs (Za Kj (!3) (Za Zs (!6) (~~~2))) (Za Fx (~~~5) (!6))) (Za As (!4) (Za Zs (~~~6) (!6)))) r])) s) s) s) (λs=>Zo (C5 (Fj (Bw s 5) ((jE 2 (Za Zs (λr=>(Zh (#[Z (.ψ "+")].L Zt)).j D.X) (Za As (!2) (λr=>MG (Z (.r 1)))))) s) s) s) ∅))) ∅
def Xl:A8:=λs=>Zo (CV 4 (xD ((jE 0 (Zf ZC #v[3,Z (.r 12)])) s) s) s) (λs=>Zo (CV 5 (xC .l (jG 2 (λr=>Zh ((Z []).L Zt)) s) s) s) (λs=>Zo (JD 6 Ps (((jE 2 (Za Zs (~~~2) (Za ZP (Za As (!4) (~~~0)) (~~~4)))) s).L Q1) s) (λs=>Nl 5 (λs=>Zo (C5 (DQ "Book" "pour" Xk (Bw s 0) (Zk (((jE 0 (λr=>Bf r 5)) s).j .y) (Z [])) s) s) ∅) s)))
def Pt:=D4 4 7 Xl
def ip:A8:=λs=>CV 5 (xD ((jE 2 (Za ZP (Za As (Zf ZC #v[4,Z (.r 1)]) (~~~0)) (~~~8))) s) s) s
def Sc:A8:=λs=>C4 (jT 2 (λr=>AI ((Za C9 (!5) (~~~3)) r)) s) (Zo (C5 (Ho Pt (Zk ((Bw s 0).j .ξ) (Zk ((Bw s 1).j .ξ) (Zk ((Bw s 2).j .ξ) (Zk (((jE 0 (λr=>Bf r 4)) s).j .y) (Z []))))) s) s) ∅) (.U s)
def Sd:A8:=λs=>C4 (jT 2 (λr=>CK (AI ((Za B8 (!5) (~~~3)) r)) (AI ((Za B8 (!5) (~~~4)) r))) s) (Zo (CV 6 (xD ((jE 2 (Zf L6 #v[1,4])) s) s) s) (λs=>Zo (C4 (jT 2 (λr=>AI ((Za (D9 J') (!6) (!3)) r)) s) (Zo (C5 (Fj (Bw s 3) ((jE 0 (λr=>Bf r 6)) s) s) s) ∅) (.U s)) (λs=>Zo (CV 7 (DQ "Book" "keep" L9 (Bw s 0) (Zk (((jE 0 (λr=>Bf r 6)) s).j .y) (Z [])) s) s) (λs=>Zo (Fi (xD ((jE 2 (λr=>C8 (DL (AI ((Zf Rp #v[7]) r)) (AI ((Za B8 (!7) (Zi Hn #v[(Zf RM #v[1,2,6]) r])) r))))) s) s)) ∅)))) (.U s)
def Pu:A8:=λs=>C4 (jT 2 (λr=>DL (AI ((Za B8 (!5) (~~~5)) r)) (AI ((Za E4 (Zi Zn #v[3]) (~~~1)) r))) s) (Zo (CV 6 (KG (Bw s 3) ((jE 2 (Za Zs (~~~1) (Za ZP (!4) (Za Iv (Zi Zn #v[3]) (~~~1))))) s) s) s) (λs=>Zo (C5 (DQ "Book" "forget" Wh (Bw s 0) (Zk (((jE 0 (λr=>Bf r 6)) s).j .y) (Z [])) s) s) ∅)) (.U s)
def Se:A8:=λs=>C4 (jT 2 (λr=>AI ((Za B8 (!5) (~~~6)) r)) s) (Zo (C5 (Ho Xi (Zk ((Bw s 0).j .ξ) (Zk ((Bw s 1).j .ξ) (Zk (((jE 0 (λr=>Bf r 4)) s).j .y) (Z [])))) s) s) ∅) (.U s)
def Xm:A8:=λs=>C4 (jT 2 (λr=>AI ((Za B8 (!5) (~~~7)) r)) s) (Zo (C5 (Ho WJ (Zk ((Bw s 0).j .ξ) (Zk ((Bw s 1).j .ξ) (Zk (((jE 0 (λr=>Bf r 4)) s).j .y) (Z [])))) s) s) ∅) (.U s)
def Xn:A8:=λs=>Fi (xD ((jE 2 (λ_=>Z (.bl J'))) s) s)
def zZ:A8:=λs=>.U s
def Xo:=Xn <<< zZ
def Sf:=Xm <<< Xo
def Pw:=Se <<< Sf
def Ma:=Pu <<< Pw
def Mb:=Sd <<< Ma
def KN:=Sc <<< Mb
def iq:=ip <<< KN
def Xp:A8:=iq
def Sg:=D4 5 8 Xp
def ir:AG:=λr=>ZA ((Ff He #v[0]) r)
def iu:AG:=λr=>ZA ((Ff He #v[0]) r)
def iv:AG:=(~~~0)
def Sh:A8:=λs=>Zo (CV 11 (xF .d (jG 2 (Ir RM #v[1,6,10]) s) s) s) (λs=>Zo (CV 9 (xC .l (jG 2 (λr=>(DP "Book" "table" Pk (C0 r 2) #[10]).L FW) s) s) s) (λs=>Zo (C4 (jT 2 (λr=>ZM (ZJ ((Zf Ph #v[9,11]) r))) s) (Zo (Fi (xD ((jE 2 (λ_=>Z (.bl O'))) s) s)) ∅) (.U s)) (λs=>Zo (C5 (Nk (Bw s 9) s) s) (λs=>Zo (C4 (jT 2 (λr=>ZM (ZJ ((Zf Ph #v[(DP "Book" "table" Pk (C0 r 2) #[10]).j Dk,11]) r))) s) (Zo (Fi (xD ((jE 2 (λ_=>Z (.bl O'))) s) s)) ∅) (.U s)) ∅))))
def Sj:A8:=λs=>Zo (Q5 (Ho Sg (Zk ((Bw s 2).j .ξ) (Zk ((Bw s 1).j .ξ) (Zk ((Bw s 6).j .ξ) (Zk ((Bw s 5).j .ξ) (Zk (((jE 0 (λr=>Bf r 8)) s).j .y) (Z [])))))) s) (λs=>Zo (Fi (xD ((jE 2 (λ_=>Z (.bl O'))) s) s)) ∅) ∅ s) (λs=>Zo (CV 9 (xC .l (jG 2 (λr=>(DP "Book" "kept" Rh (C0 r 2) (Z [])).L FW) s) s) s) (λs=>Zo (C4 (jT 2 (λr=>CK (AI ((Za Cc (!9) (λr=>ZA (JH (A9 r 5)))) r)) (AI ((Za Cc (λr=>(DP "Book" "ladders" Vl (C0 r 2) (Z [])).j Dk) (!1)) r))) s) (Zo (Fi (xD ((jE 2 (λ_=>Z (.bl O'))) s) s)) ∅) (.U s)) (λs=>Zo (C5 (Nk (Bw s 9) s) s) (λs=>Zo (C4 (jT 2 (λr=>AI ((Za Cc (λr=>(DP "Book" "kept" Rh (C0 r 2) (Z [])).j Dk) (λr=>ZA (JH (A9 r 5)))) r)) s) (Zo (Fi (xD ((jE 2 (λ_=>Z (.bl O'))) s) s)) ∅) (.U s)) (λs=>Zo (Q8 10 Sh (Bw s 5) s) ∅)))))
def iw:A8:=λs=>CV 1 (xC .l (jG 1 (FY Pf #v[0]) s) s) s
def ix:A8:=λs=>CV 2 (Nh "Book" Nr (Zk (((jE 1 (λr=>ZA ((Zj 1 [] (λr=>(BV r 1).L Zu) (Zc 0) (λ_=>Z J') ir) r))) s).j .y) (Z [])) s) s
def iy:A8:=λs=>CV 3 (Nh "Book" Nr (Zk (((jE 1 (λr=>ZA ((Zj 1 [] (λr=>(BV r 1).L Zu) (Zc 0) (λ_=>Z J') iu) r))) s).j .y) (Z [])) s) s
def iz:A8:=λs=>CV 4 (xD ((jE 2 (Zi E5 #v[ZA ((Zj 1 [] (λr=>(BV r 1).L Zu) (Zc 0) (λ_=>Z J') iv) r)])) s) s) s
def iA:A8:=λs=>CV 5 (xC .l (jG 2 (λr=>Zh (#[Bf r 4].L Zt)) s) s) s
def iB:A8:=λs=>CV 6 (xC .l (jG 2 (λr=>Zh ((Z []).L Zt)) s) s) s
def iC:A8:=λs=>C5 (DQ "Book" "keep" L9 (Bw s 2) (Zk (((jE 2 (Zf L6 #v[1,(Zf ZK #v[0,Z (.r 5)]) r])) s).j .y) (Z [])) s) s
def Sk:A8:=λs=>C4 (jT 2 (λr=>AI ((Za (D9 J') (Zf L6 #v[1,(Zf ZK #v[0,Z (.r 5)]) r]) (!5)) r)) s) (Zo (C5 (Fj (Bw s 5) ((jE 2 (Zf L6 #v[1,(Zf ZK #v[0,Z (.r 5)]) r])) s) s) s) ∅) (.U s)
def iD:A8:=λs=>C5 (Ho Pt (Zk ((Bw s 2).j .ξ) (Zk ((Bw s 1).j .ξ) (Zk ((Bw s 6).j .ξ) (Zk (((jE 2 (Zf ZK #v[0,Z (.r 6)])) s).j .y) (Z []))))) s) s
def iE:A8:=λs=>CV 7 (xD ((jE 0 (DN (!0) (λr=>DM (Z (.r 7))) (λr=>DM (Z (.r 17))) Ex)) s) s) s
def So:A8:=λs=>C4 (jT 2 (λr=>AI ((Za C9 (Zi Zn #v[7]) (Za ZP (Zf ZK #v[0,Z (.r 6)]) (~~~8))) r)) s) (Zo (CV 7 (xD ((jE 0 (Zf ZC #v[(Zf ZK #v[0,Z (.r 6)]) r,(Za ZP (Zf ZK #v[0,Z (.r 6)]) (~~~8)) r])) s) s) s) ∅) (.U s)
def iF:A8:=λs=>JD 8 Sj (((jE 0 (λr=>Bf r 7)) s).L Kz) s
def iG:A8:=λs=>Fi (xD ((jE 2 (λr=>C8 (DL (AI ((Za B8 (λr=>(DP "Book" "table" Pk (C0 r 3) #[4]).j Dk) (λr=>ZA (Zh ((Z []).L Zt)))) r)) (AI ((Za B8 (λr=>(DP "Book" "rows" Vn (C0 r 3) (Z [])).j Dk) (λr=>ZA (Zh ((Z []).L Zt)))) r))))) s) s)
def Zxk:A8:=λs=>.U s
def iH:=iG <<< Zxk
def iI:=iF <<< iH
def iJ:=So <<< iI
def iK:=iE <<< iJ
def iL:=iD <<< iK
def iM:=Sk <<< iL
def iN:=iC <<< iM
def iO:=iB <<< iN
def iP:=iA <<< iO
def iQ:=iz <<< iP
def iR:=iy <<< iQ
def iS:=ix <<< iR
def iT:=iw <<< iS
def Xq:A8:=iT
def iU:=D4 1 12 Xq
theorem vwv(m:Nat)(G:Gh)(d:D):Dx m G (.y d)=.y d:=rfl
theorem vwn(m:Nat)(G:Gh):Dx m G .no=.no:=rfl
theorem f2i(i:Int):BE 2 (.r i)=J':=rfl
theorem sh1(x:D):Zh (Z [x])=Z [x]:=rfl
theorem sh2(x y:D):Zh (Z [x,y])=Z [x,y]:=rfl
theorem sh3(x y z:D):Zh (Z [x,y,z])=Z [x,y,z]:=rfl
theorem ngI(i:Int):MG (Z (.r i))=Z (.r (-i)):=rfl
theorem Mc(x y:Int):Zs (.r x) (.r y)=Z (.r (x+y)):=rfl
theorem iV(x y:Int):Iv (.r x) (.r y)=Z (.r (x-y)):=rfl
theorem e00:B8 (.r 0) (.r 0)=Z (.bl J'):=rfl
theorem e01:B8 (.r 0) (.r 1)=Z (.bl O'):=rfl
theorem Xr:B8 (.r 1) (.r 0)=Z (.bl O'):=rfl
theorem Xs:B8 (.r 1) (.r 1)=Z (.bl J'):=rfl
end
section
local macro_rules | `(#v[$x])=>`(.val (.lst $x))
local macro_rules | `(‹$x›)=>`(.val (.int $x))
local macro_rules | `(tactic|rwa[$[$t:term],*] $[$l]?)=>do let c:Array Lean.Term:=("Internal.yD Internal.yE Internal.yF Internal.yG Internal.yH Internal.yI Internal.yJ Internal.yK Internal.yL Internal.yM Internal.yN Internal.yO Internal.yP Internal.yQ Internal.yR Internal.yS Internal.yT Internal.yU Internal.yV Internal.yW Internal.yX Internal.yY Internal.yZ Internal.y1 Internal.y3 Internal.y4 Internal.y7 Internal.y8 Internal.zc Internal.zd Internal.ze Internal.zf Internal.zh Internal.zi Internal.zj Internal.zk Internal.zn Internal.zo Internal.zq Internal.zr Internal.zt Internal.zu Internal.zv Internal.zw Internal.zx Internal.zy Internal.zz Internal.zA Internal.zB Internal.zC Internal.zD Internal.zE Internal.zF Internal.zG Internal.zH if_true Internal.Za Internal.Zf Internal.O3 Internal.jE Cw Internal.jT Internal.GG Internal.pk Internal.jO Internal.Zi Internal.ZA Kb IC GX Internal.Zu Bool.not_false decide_true Internal.Zc Internal.Zt Internal.K52.vwv Internal.K52.vwn Internal.OX Internal.K52.f2i Internal.K52.sh1 Internal.K52.sh2 Internal.K52.sh3 Internal.K52.ngI Internal.K52.Mc Internal.K52.iV Internal.K52.e00 Internal.K52.e01 Internal.K52.Xr Internal.K52.Xs".splitOn " ").toArray.map λs=>⟨Lean.mkIdent s.toName⟩;`(tactic|simp only[$[$c:term],*,$[$t:term],*] $[$l]?)
abbrev AQ:=U (U (U At))
abbrev BF:=U (U At)
theorem Sq(s:Sl)(ns:U Int)(a:s=#v[ns.j D.r]\/s=.gV (ns.j D.r))(k:Int)(b:0<=k):ZK [s,‹k›]=Z ‹ns.Y k.θ 0›:=by
 by_cases h:k<ns.a
 .rcases a with rfl|rfl<;>simp[ZK,A3,Vq,h,atI,D7,b]
 .rcases a with rfl|rfl<;>simp[ZK,A3,Vq,h,show ns.length<=k.toNat by lia]
def BH:Af:="abcdefghijklmnopqrstuvwxyz"
def ET:Af:="0123456789"
def signs:Af:="abcdefghijklmnopqrstuvwxyz0123456789"
theorem iW:signs.a=36:=by symm
theorem Zyv:signs.Ϝ.B=BH.Ϝ.B++ET.Ϝ.B:=by symm
def E8:D->Bool
 |.int _=>J'
 |_=>O'
def IR(c:Nat):Bool:=decide (c∈BH.Ϝ.B)||decide (c∈ET.Ϝ.B)
def IT:U Nat->Bool
 |[]=>O'
 |c::r=>decide (c∈BH.Ϝ.B)&&(c::r).ϭ IR&&decide ((c::r).a<=12)
def BL:D->Bool
 |.str z=>IT z.Ϝ.B
 |_=>O'
theorem Zvn(c:Nat):IR c=decide (c∈signs.Ϝ.B):=by
 unfold IR;rw[Zyv,Bool.eq_iff_iff];simp[Cn]
def Sm:D->Prop
 |.str z=>z.a<=100
 |.ty _=>False
 |.lst _ .d=>False
 |.lst _ (.i _ _)=>False
 |_=>True
theorem Px(d:D)(h:Sm d):Z5 [.y d]=Z (.y (.bl (E8 d))):=by
 cases d with
 |lst a b=>cases b with
  |d=>show h.Η
  |i _ _=>show h.Η
  |l=>simp[Z5,A3,Q9,E8]
 |ty n=>show h.Η
 |_=>simp[Z5,A3,Q9,E8]
theorem ZB2(c:Nat):Ra [.y (.ψ #[(T' [c])])]=Z (.bl (IR c)):=by
 erw[Ra,Za,A9,EU,Cp,Vd,AI,CK,C8,Dy];cases h:decide (c∈BH.Ϝ.B)<;>simp[IR,BH,ET]at h ⊢<;>simp[h]
theorem ZAG(L:U Nat):DW (Zc 0) (λ_=>Z J') Ra [.no] (L.j λc=>D.ψ #[(T' [c])])=Z ((L.j IR).j D.bl):=by
 rw[Zz (λc=>D.ψ #[(T' [c])]) (λc=>D.bl<|IR c) L λc _=>#[[.y<|.ψ ⟨(T' [c])⟩],rfl,ZB2 c]];simp
theorem Ztr(d:D)(h:Sm d):JL [.y d]=Z (.y (.bl (BL d))):=by
 cases d with
 |str z=>
  obtain⟨⟨L⟩⟩:=z;let a:L.a<=Ay:=Bv h (by ext);let k:=ZAG L;cases L with|nil=>simp[JL,A3,L4,BL,IT,Str.length]|cons c r=>
   erw[Cw]at h a;let f:¬ ((r.a:Int)+1<1):=of_decide_eq_false rfl;by_cases e:r.a+1<=12
   .let g:¬ ((12:Int)<(r.a:Int)+1):=∅
    by_cases j:c∈(J5 "abcdefghijklmnopqrstuvwxyz").Ϝ
    .simp[JL,A3,L4,BL,IT,Str.length,a,f,g,-D9,Vd,atI,D7,k,-AU,-CG,j,Ow e,BH]
    .simp[JL,A3,L4,BL,IT,Str.length,a,f,g,-D9,Vd,atI,D7,j,Ow e,BH]
   .simp[JL,A3,L4,BL,IT,Str.length,a,f,show(12:Int)<(r.length:Int)+1 by lia,show ¬ r.length<=11 by lia]
 |ty n=>show h.Η
 |lst m b=>cases b with
  |d=>show h.Η
  |i _ _=>show h.Η
  |l=>simp[JL,A3,L4,BL]
 |_=>simp[JL,A3,L4,BL]
theorem iX(d:D)(h:Sm d):Pa [.y d]=Z (.y (.bl (E8 d||BL d))):=by
 let a:=Px d h;cases b:E8 d<;>simp[b]at a ⊢<;>simp[Pa,A3,fC,a,Ztr d h]
def GY(d:D):Bool:=E8 d||BL d
def Ai(l:U At):D:=.X (l.j aD)
theorem iY(a:At):Dq (aD a)=Z (.at a):=On<|.at a
theorem KO:∀(a b:At),Be (aD a) (aD b)=decide (a=b):=by
 intro a b;cases a<;>cases b<;>simp[aD]
theorem Xt:∀(a b:U At),Do (a.j aD) (b.j aD)=decide (a=b)
 |[],[]=>by simp
 |[],_::_=>by simp
 |_::_,[]=>by simp
 |x::a,y::b=>by
  simp[KO,Xt a b]
theorem JN(n:Nat)(a:At):A5 n (aD a)=J':=by cases a<;>cases n<;>rfl
theorem Md(n:Nat)(l:U At):A5 (n+1) (Ai l)=J':=by
 show(l.j aD).ϭ (A5 n)=J'
 rw[Kk,Du];show λa _=>JN n a
theorem iZ(a b:U At):Cc (Ai a) (Ai b)=Z (.bl (!decide (a=b))):=by
 let c:=Md 11 a;let d:=Md 11 b;simp_all [Ai,Xt]
theorem ZDa(a b:At):Cc (aD a) (aD b)=Z (.bl (!decide (a=b))):=by simp_all [JN,KO,GX]
def hd(l:U At):At:=l.headD .Α
theorem TJ(x:Af):x.a=x.Ϝ.B.a:=rfl
theorem ZDW{b:Type}{f:Nat->b}{m:Nat}(h:((BI m).j f).η){k:Nat}(c:j<m)(d:k<m)(e:f j=f k):j=k:=by
 rw[List.nodup_iff_pairwise_ne,List.pairwise_map]at h;rcases Nat.lt_trichotomy j k with a|a|a
 .show absurd e (QP.mp h j k (by simpa) (by simpa) a |> λz=>by exists z)
 .show a
 .show absurd e.τ (QP.mp h k j (by simpa) (by simpa) a |> λz=>by exists z)
def GW(W:U Nat):Prop:=(∃c r,W=c::r/\c∈BH.Ϝ.B)/\W.ϭ IR=J'
theorem GW.word{W:U Nat}(h:GW W)(a:W.a<=12):IT W=J':=by
 let((c,r,rfl,b),d):=h;grind [IT]
theorem ZyA{z:Af}(h:GW z.Ϝ.B)(a:z.Ϝ.B.a<=12):GY (aD (.ψ z))=J'/\Sm (aD (.ψ z)):=by
 apply#[?_,?_]
 .show(E8 (.ψ z)||BL (.ψ z))=J'
  erw[E8,BL,h.word a,Bool.or_true]
 .change z.a<=100
  rw[TJ];lia
theorem Nt(x k:Int)(a:0<k)(b:k<1000000000):Kj (.r x) (.r k)=Z (.r (x/k)):=by
 show(if NJ x k then Z (D.r<|x/k)else J)=_
 rw[if_pos #[a,∅]]
theorem C6(x k:Int)(a:0<k):ZP (.r x) (.r k)=Z (.r (x%k)):=by
 simp_all
theorem IU{x y:Int}(h:Ef x y):Fx (.r x) (.r y)=Z (.r (x*y)):=by show(if Ef x y then Z (D.r<|x*y)else J)=_;rw[if_pos h]
theorem Ib(a b:Int):B8 (.r a) (.r b)=Z (.bl (decide (a=b))):=rfl
def GZ(x:Int)(k:Nat):Int:=(x*45742+x/46949+29*(k:Int)+11)%2147483647
theorem ZA1(x:Int)(k:Nat):0<=GZ x k/8:=by grind [GZ]
def Ic(x:Int)(k:Nat):Nat->U Int
 |0=>[]
 |n+1=>(GZ x k/8)::Ic (GZ x k) (k+1) n
theorem i0:∀(n k:Nat)(x:Int),(Ic x k n).a=n
 |0,_,_=>rfl
 |n+1,k,x=>by simp[Ic,i0 n]
theorem i4:∀(n k:Nat)(x:Int),∀y∈Ic x k n,0<=y
 |0,_,_,y,h=>by cases h
 |n+1,k,x,y,h=>by
  erw[Ic,Bx]at h;rcases h with rfl|h
  .show ZA1 x k
  .show i4 n _ _ y h
theorem ZuQ(s0 a:Sl)(k:Nat)(x:Int)(acc:U Int)(hz:acc.a<Ay):Rj [s0,a,‹x›,.Κ (acc.j D.r),‹k›]=.U [s0,a,‹GZ x k›,.Κ ((acc++[GZ x k/8]).j D.r),‹k›]:=by
 let b:=IU (x:=x) (y:=45742) (by right;decide);let c:=IU (x:=29) (y:=(k:Int)) (by left;decide);unfold GZ;rwa[Rj,b,Nt x 46949 (by ext) (by ext),c,C6 (x*45742+x/46949+29*(k:Int)+11) 2147483647 (by ext),Nt ((x*45742+x/46949+29*(k:Int)+11)%2147483647) 8 (by ext) (by ext),GH,EO,Bq,if_pos hz,Ek]
theorem i5(s0 b:Sl):∀(n k:Nat)(x:Int)(acc:U Int)(c:Sl),acc.a+n<100000->∃d a,ZO (Zc 4) Rj ((Gu k n).j λ(k:Nat)=>D.r k) [s0,b,‹x›,.Κ (acc.j D.r),c]=.U [s0,b,‹d›,.Κ ((acc++Ic x k n).j D.r),a]
 |0,k,x,acc,c,_=>#[x,c,by simp[ZO,Ic]]
 |n+1,k,x,acc,c,h=>by
  let(d,a,e):=i5 s0 b n (k+1) (GZ x k) (acc++[GZ x k/8]) (.y<|.r k) (by simp;lia);let hz:acc.a<Ay:=B3 (show acc.a<100000 by lia) (by ext);apply#[d,a,?_];rw[Nu,AU];erw[ZO,Zc,Gv,F5];rw[ZuQ s0 b k x acc hz];erw[Ic];rw[show acc++(GZ x k/8)::Ic (GZ x k) (k+1) n=acc++[GZ x k/8]++Ic (GZ x k) (k+1) n by simp];show e
theorem KP(c:Int)(n:Nat)(h:n<=100):∃ws:U Int,ZC [‹c›,‹n›]=Z #v[ws.j D.r]/\ws.a=n/\∀y∈ws,0<=y:=by
 let b:FZ [.r<|(n:Int)+2]=Z ((Gu 0<|n+2).map λ(k:Nat)=>D.r k):=by
  have:=O2 (n+2) ∅;rw[Nv]at this;show this
 let(i,d,e):=i5 ‹c› ‹n› (n+2) 0 (c%2147483549+17) [] .no (by simp;lia);let f:=i0 (n+2) 0<|c%2147483549+17;let a:=i4 (n+2) 0<|c%2147483549+17;erw[EV,Dj]at e;generalize Ic (c%2147483549+17) 0 (n+2)=W at *;show#[W.drop 2,by simp[ZC,A3,eQ,eP,eO,eM,eK,eG,eH,eI,eJ,b,e,show EQ (W.map D.int) (Z 2) J=(W.drop 2).map D.int by rw[yc,Vc _ _<|Sr 2];rfl],by simp[f],λy g=>a y<|List.mem_of_mem_drop g]
theorem Zwc(c:Int):∃ws:U Int,ZC [‹c›,‹40›]=Z #v[ws.j D.r]/\ws.a=40/\∀y∈ws,0<=y:=KP c 40 (by ext)
theorem FJ{xs:U Int}{i:Int}(a:0<=i)(b:i<xs.a):atI (xs.j D.r) i=Z (.r (xs.Y i.θ 0)):=by
 rw[show i=((i.θ:Nat):Int) by show Int.eq_natCast_toNat.ϡ a];let h:i.θ<xs.a:=(Int.toNat_lt a).ϡ b;show ZI (by rw[CM,IL,Cb h];simp[Eo,h])
theorem i6{g f:Type}{b:D->VE->O VE}{e:AG}{ρ:VE}(G:g->D)(W:f->D)(P:f->Prop):∀(xs:U g),(∀x∈xs,∃c a,P c/\b (G x) ρ=Z a/\e a=Z (W c))->∃cs:U f,DW b (λ_=>Z J') e ρ (xs.j G)=Z (cs.j W)/\cs.a=xs.a/\∀c∈cs,P c
 |[],_=>#[[],rfl,rfl,λ_ h=>nomatch h]
 |x::xs,h=>by
  let(c,a,n,i,j):=h x Bh;let(cs,k,l,o):=i6 G W P xs λy m=>h y<|Bl _ m;apply⟨c::cs,?_,by simp[l],λd hd=>?_⟩
  .rwa[DW,i,j,k]
  .grind [hd]
abbrev cS(c:Nat):D:=.ψ #[(T' [c])]
theorem Zyh:∀cs:U Nat,(Txt.join "" (cs.j λc=>(#[(T' [c])]:Af))).Ϝ.B=cs:=by
 intro cs;show(Builtin.Str.glued ""<|cs.map λc=>(#[(T' [c])]:Af)).Ϝ.B=cs
 rw[StrLaws.glued_eq_join];induction cs with|nil=>rfl|cons c cs a=>
  cases cs with|nil=>rfl|cons d cs=>
   show((#[(T' [c])]:Af)++("":Af)++Str.join "" ((d::cs).j λc=>(#[(T' [c])]:Af))).Ϝ.B=_
   let e:∀(x y:Af),(x++y).Ϝ.B=x.Ϝ.B++y.Ϝ.B:=λx y=>by
    show(x.Ϝ++y.Ϝ).B=_
    simp
   let b:("":Af).Ϝ.B=[]:=by symm
   simp_all
structure i7(f:Nat->At):Prop where
 inj:∀j k,j<6->k<6->f j=f k->j=k
 val:∀k,k<6->GY (aD (f k))=J'
 sm:∀k,k<6->Sm (aD (f k))
theorem ZFJ{x y:Int}(h:Mr x y):Lu (.r x) (.r y)=Z (.r (x^y.θ)):=by show(if Mr x y then Z (D.r<|x^y.θ)else J)=_;rw[if_pos h]
theorem nm0(c:Int)(k:Nat):KH [‹c›,‹0›,‹k›]=Z ‹(c%10^30-5*10^29+(k:Int))›:=by
 rfl
def sg(i:Nat):Nat:=signs.Ϝ.B.Y i 0
theorem ZES:((BI 36).j sg).η:=by symm
theorem i8:∀i∈BI 26,sg i∈BH.Ϝ.B:=by symm
theorem Xu:∀i∈BI 36,IR (sg i)=J':=by symm
theorem i9(i:Nat)(h:i<36):As (.ψ "abcdefghijklmnopqrstuvwxyz0123456789") (.r i)=Z (cS (sg i)):=by
 let a:signs.Ϝ.B.a=36:=by rw[<- TJ];show iW
 show(if signs.a<=Ay then(atI signs.Ϝ.B (i:Int)).j λc=>D.ψ #[(T' [c])]else J)=_
 rw[if_pos (show signs.a<=Ay by rw[iW];decide),ZI<|Cb ∅];simp[sg,Eo,a,h]
def md(j:Nat):Int:=if j=0 then 26 else 36
theorem ja(j:Nat):As (.O [.r 36,.r 26]) (.r (if decide ((j:Int)=0)=J' then 1 else 0))=Z (.r (md j)):=by
 unfold md;by_cases h:j=0
 .subst h;rfl
 .erw[h,Int.ofNat_ne_zero.mpr h,decide_false,if_false];rfl
theorem Ss(j:Nat):0<md j/\md j<=36:=by unfold md;split<;>decide
def Gw(x:Int)(j:Nat):Nat:=(x%md j).θ
theorem Me(x:Int)(j:Nat):Gw x j<36:=by
 have:=Ss j;unfold Gw;let a:=JP x this.1;grind
theorem jc(x:Int):Gw x 0<26:=by grind [Gw,md]
theorem Su(x:Int)(j:Nat):x%md j=(Gw x j:Int):=by
 have:=Ss j;let a:=Ie x (show md j≠0 by lia);unfold Gw;lia
theorem ZA3(x:Int)(j:Nat){a b:Nat}(d:a<6)(f:b<6)(e:Gw (x+5*(a:Int)) j=Gw (x+5*(b:Int)) j):a=b:=by
 let c:(x+5*(a:Int))%md j=(x+5*(b:Int))%md j:=by rw[Su,Su,e]
 unfold md at c;split at c<;>lia
theorem ZCW(c:Int)(j:Nat)(b:j<1000):Rk [‹j›,.y (.ψ "abcdefghijklmnopqrstuvwxyz0123456789"),‹c›]=Z (cS (sg (Gw (c/((j:Int)+2)+4*(j:Int)) j))):=by
 let a:=IU (x:=4) (y:=(j:Int)) (by left;decide);erw[Rk,Za,A9,Ej,EU,Cp,Mc,Nt c ((j:Int)+2) (Int.sign_eq_one_iff_pos.mp rfl) ∅,a,Ib,DV,Dy,Zk,Zi,GG,pk,Internal.intD,Zt,Zh,if_pos (show([D.int 36,.int 26]:U D).length<=Ay by ext),ZA,ja j,C6 (c/((j:Int)+2)+4*(j:Int)) (md j) (Ss j).1];rw[Su,i9 _<|Me (c/((j:Int)+2)+4*(j:Int)) j]
def wB(c:Int)(n:Nat):U Nat:=(BI n).j λ(j:Nat)=>sg (Gw (c/((j:Int)+2)+4*(j:Int)) j)
def wK(c:Int)(n a:Nat)(k:Nat):U Nat:=(wB c n).ν a (sg (Gw (c/((a:Int)+2)+4*(a:Int)+5*(k:Int)) a))
def wS(L:U Nat):Af:=Txt.join "" (L.j λc=>(#[(T' [c])]:Af))
theorem Sv(L:U Nat):(wS L).Ϝ.B=L:=Zyh L
theorem Sw(c:Int)(n:Nat):(wB c n).a=n:=by simp[wB]
theorem ZET(c:Int)(n:Nat):∀x∈wB c n,IR x=J':=by
 intro x a;let(j,b,rfl):=Bm.mp a;show Xu _<|EY.ϡ<|Me _ _
theorem ZAg(c:Int)(n:Nat)(h:0<n):∃x r,wB c n=x::r/\x∈BH.Ϝ.B:=by
 obtain⟨m,rfl⟩:∃m,n=m+1:=#[n-1,by show(Nat.sub_eq_iff_eq_add h).mp rfl];show#[_,_,by rw[wB,List.range_succ_eq_map,AU],i8 _<|EY.ϡ<|jc _]
theorem ZBg(c:Int)(n a k:Nat)(h:0<n):GW (wK c n a k):=by
 let(x,r,e,f):=ZAg c n h;let d:=ZET c n;unfold wK;rw[e]at d ⊢;cases a with
 |zero=>
  apply#[#[_,r,rfl,i8 _<|EY.mpr<|jc _],Du.mpr λy b=>?_];rcases Bx.mp b with rfl|b
  .show Xu _<|EY.ϡ<|Me _ _
  .show d y<|Bl _ b
 |succ a=>
  apply#[#[x,r.ν a _,rfl,f],Du.ϡ λy b=>?_];grind [Xu,Me]
theorem ZDT(c:Int)(n a:Nat)(d:a<n){k:Nat}(f:j<6)(g:k<6)(e:wK c n a j=wK c n a k):j=k:=by
 unfold wK at e;let b:=congrArg (λl=>l[a]?) e;erw[Fa (show a<(wB c n).length by show J3 d (Sw c n).symm),Qr]at b;show ZA3 _ _ f g<|ZDW ZES (Me _ _) (Me _ _) b
theorem jd:∀L:U Nat,(L.j λ_=>1).sum=L.a
 |[]=>rfl
 |_::L=>by rw[AU,List.sum_cons,jd L,Cw];show Nat.add_comm 1 L.a
theorem nm1(c w:Int)(s:¬ w=0)(n a k:Nat)(h:1+c%12=(n:Int))(d:n<=12)(i:c/12%(n:Int)=(a:Int))(l:a<n):KH [‹c›,‹w›,‹k›]=Z (.y (.ψ (wS (wK c n a k)))):=by
 let q3:=C6 (c/12) (n:Int) ∅;rw[i]at q3;let g:=Zz (b:=Zc 0) (e:=Rk) (ρ:=[.no,.y<|.str "abcdefghijklmnopqrstuvwxyz0123456789",‹c›]) (λ(j:Nat)=>D.r j) (λ(j:Nat)=>cS<|sg<|Gw (c/((j:Int)+2)+4*(j:Int)) j) (BI n) λj m=>#[_,rfl,ZCW c j (by have:=EY.mp m;lia)];rw[show(BI n).j (λ(j:Nat)=>cS<|sg<|Gw (c/((j:Int)+2)+4*(j:Int)) j)=(wB c n).j cS by rw[wB,CG];rfl]at g;let o:=IU (x:=4) (y:=(a:Int)) (by left;decide);let f:=IU (x:=5) (y:=(k:Int)) (by left;decide);let p:D7 ((wB c n).j cS).a (a:Int)=Z a:=by
  rw[Bq,Sw];unfold D7;grind
 let q:Km ((wK c n a k).j cS)=Z ((wK c n a k).j λc=>(#[(T' [c])]:Af)):=by
  have:=bA<|(wK c n a k).map λc=>(#[(T' [c])]:Af);rw[CG]at this;show this
 let r:(((wK c n a k).j λc=>(#[(T' [c])]:Af)).j (·.a)).sum+((wK c n a k).j λc=>(#[(T' [c])]:Af)).a*("":Af).a<=16777216:=by
  let u:(wK c n a k).a=n:=by simp[wK,Sw]
  let v:((wK c n a k).j λc=>(#[(T' [c])]:Af)).j (·.a)=(wK c n a k).j λ_=>1:=by rw[CG];rfl
  let z:("":Af).a=0:=by ext
  grind [jd]
 erw[KH,A3,Cw,Kb,G5,if_true,fm,fj,eR,Za,A9,Ej,EU,Cp,GF,EV,show AI (B8 (.int w)<|.int 0)=Z O' by simp_all,ZH,Ze,Mf,Nw,Mg,
  fh,eS,C1,Gv,F5,e8,eT,C6 c 12 (by ext),Mc,h,e7,eU,Nt c 12 (by ext) (by ext),q3,e6,eV,Zj,DV,Dy,Bf,Zk,Zt,O2 n ∅,Zh,if_pos (show((BI n).map λ(k:Nat)=>D.int k).length<=Ay by rw[Bq,List.length_range];show Bv d (by ext)),Zy,AU,Dj,Ki,g,Dn]
 erw[eZ,eW,Za,A9,Ej,EU,Cp,Mc,Nt c ((a:Int)+2) (Int.sign_eq_one_iff_pos.mp rfl) ∅,o,f,Ib,DV,Dy,Zk,Zi,GG,pk,Internal.intD,Zt,Zh,if_pos (show([D.int 36,.int 26]:U D).length<=Ay by ext),ZA,ja a,C6 (c/((a:Int)+2)+4*(a:Int)+5*(k:Int)) (md a) (Ss a).1,QD,EO];rw[Su,i9 _<|Me (c/((a:Int)+2)+4*(a:Int)+5*(k:Int)) a];erw[p,Gv,F5,show((wB c n).map cS).set a (cS<|sg<|Gw (c/((a:Int)+2)+4*(a:Int)+5*(k:Int)) a)=(wK c n a k).map cS by rw[wK,List.map_set],Ze,eY,eX,Lx,Zk,C0,Ej,EU,Cp,GG,pk,QE,q,if_pos r,Zv,wS]
theorem je(c w:Int):∃f,i7 f/\∀k:Nat,k<6->KH [‹c›,‹w›,‹k›]=Z (.y (aD (f k))):=by
 by_cases i:w=0
 .subst i;apply#[λk=>.r<|c%10^30-5*10^29+(k:Int),⟨λj k _ _ e=>by injection e with e;lia,λk _=>rfl,λk _=>trivial⟩,λk _=>nm0 c k]
 .obtain⟨n,o,b,d⟩:∃n:Nat,1+c%12=(n:Int)/\0<n/\n<=12:=#[(1+c%12).θ,∅,∅,∅];let l:=Ie (c/12) (show(n:Int)≠0 by show Int.natCast_ne_zero_iff_pos.ϡ b);obtain⟨a,p,g⟩:∃a:Nat,c/12%(n:Int)=(a:Int)/\a<n:=#[(c/12%(n:Int)).θ,by show Eq.τ<|Nm l,by show(Int.toNat_lt l).mpr<|JP (c/12) (show(0:Int)<(n:Int) by show KQ.mpr b)];let h:∀k,GY (aD<|.str<|wS<|wK c n a k)=J'/\Sm (aD<|.str<|wS<|wK c n a k):=λk=>ZyA (by rw[Sv];show ZBg c n a k b) (by rw[Sv];simp[wK,Sw];lia);apply#[λk=>.ψ<|wS<|wK c n a k,⟨λj k q r e=>?_,λk _=>(h k).1,λk _=>(h k).2⟩,λk _=>nm1 c w i n a k o d p g];let m:(wS<|wK c n a j).Ϝ.B=(wS<|wK c n a k).Ϝ.B:=∅
  rw[Sv,Sv]at m;show ZDT c n a g q r m
theorem Xv{b:U Int}{P:Int->Prop}(h:∀z∈b,P z)(i:Nat)(a:i<b.a):P (b.Y i 0):=by
 simp_all
abbrev XS(ws:U Int):Sl:=#v[ws.j D.r]
theorem ZzY(ws:U Int)(n:ws.a=40)(s0 b c d e f g:Sl)(j:Nat)(o:1<=j)(a:j<10)(l:U Int)(h:l.a=j)(hz:∀z∈l,1<=z/\z<=6):∃z,1<=z/\z<=6/\Rt [s0,XS ws,b,c,.Κ (l.j D.r),‹j›,d,e,f,g]=.U [s0,XS ws,b,c,.Κ ((l++[z]).j D.r),‹j›,d,e,f,g]:=by
 let k:=FJ (xs:=ws) (i:=2+(j:Int)) (Sr<|2+j) ∅;let m:=FJ (xs:=l) (i:=(j:Int)-1) ∅ ∅;let p:=Xv hz ((j:Int)-1).θ ∅;generalize l.Y ((j:Int)-1).θ 0=y,ws.Y (2+(j:Int)).θ 0=w at *;let q:=JP w (show 0<y by lia);show#[1+w%y,by show Int.le_add_of_nonneg_right<|Ie w (show y≠0 by lia),∅,by erw[Rt,Za,A9,Ej,EU,Cp,Mc,iV,As,k,m,C6 w y ∅,GH,Bq,if_pos (show l.length<Ay by rw[h];show B3 a (by ext)),Ze,Gv,F5,Ek,AU,Dj]]
theorem jf(ws:U Int)(p:ws.a=40)(s0 d f g h i l:Sl):∀(n j:Nat)(w:U Int)(m:Sl),1<=j->j+n<=9->w.a=j->(∀z∈w,1<=z/\z<=6)->∃(c:U Int) (a:Sl),c.a=j+n/\(∀z∈c,1<=z/\z<=6)/\ZO (Zc 5) Rt ((Gu j n).j λ(k:Nat)=>D.r k) [s0,XS ws,d,f,.Κ (w.j D.r),m,g,h,i,l]=.U [s0,XS ws,d,f,.Κ (c.j D.r),a,g,h,i,l]
 |0,j,w,m,_,_,o,hz=>#[w,m,∅,hz,rfl]
 |n+1,j,w,m,q,u,o,hz=>by
  let(z,r,s,e):=ZzY ws p s0 d f g h i l j q ∅ w o hz;let(c,a,v,t,q3):=jf ws p s0 d f g h i l n (j+1) (w++[z]) ‹j› (NR q) ∅ (by simp[o]) (λy b=>by
   rcases Cn.mp b with b|b
   .show hz y b
   .erw[Ca]at b;subst b;show#[r,s])
  apply#[c,a,∅,t,?_];rw[Nu,AU];erw[ZO,Zc,Gv,F5];rw[e];show q3
def Hr(a:Nat->Nat->Nat)(j x:Nat):Nat:=if j=0 then x else a j x
def Ec(f:Nat->Nat->At)(a:Nat->Nat->Nat):Nat->Nat->Nat->U At
 |_,_,0=>[]
 |j,x,n+1=>f j (Hr a j x)::Ec f a (j+1) (Hr a j x) n
def Df(ws a:U Int)(j x:Nat):Nat:=(ws.Y (7+7*j+x) 0%a.Y j 0).θ
theorem ZAW(ws a:U Int)(j x:Nat)(h:1<=a.Y j 0):ws.Y (7+7*j+x) 0%a.Y j 0=(Df ws a j x:Int):=by
 have:=Ie (ws.Y (7+7*j+x) 0) (show a.Y j 0≠0 by show BM (Int.ne_of_lt h));unfold Df;show Eq.τ<|Nm this
theorem jg(ws b:U Int)(j x:Nat)(h:1<=b.Y j 0)(a:b.Y j 0<=6):Df ws b j x<6:=by
 have:=JP (ws.Y (7+7*j+x) 0) (show 0<b.Y j 0 by show Int.lt_of_add_one_le h);unfold Df;lia
def cW(c:Int)(ws:U Int):Int:=c+ws.Y 2 0*(ws.Y 6 0%2)
def wW(ws:U Int)(j:Nat):Int:=(ws.Y 7 0+(j:Int)*(ws.Y 8 0%2))%2
def Nx(c:Int)(ws:U Int)(f:Nat->Nat->At):Prop:=∀j,i7 (f j)/\∀k:Nat,k<6->KH [‹cW c ws›,‹wW ws j›,‹k›]=Z (.y (aD (f j k)))
theorem nmd(c:Int)(ws:U Int):∃f,Nx c ws f:=#[λj=>Classical.choose<|je (cW c ws)<|wW ws j,λj=>Classical.choose_spec<|je (cW c ws)<|wW ws j]
theorem KR(ws:U Int)(a:ws.a=40)(i:Nat)(b:i<40):atI (ws.j D.r) (i:Int)=Z (.r (ws.Y i 0)):=by
 have:=FJ (xs:=ws) (i:=(i:Int)) (KC i) ∅;grind
theorem ZBc(c:Int)(ws:U Int)(b:ws.a=40)(f:Nat->Nat->At)(r:Nx c ws f)(d e g h:Sl)(A:U Int)(hz:∀z∈A,1<=z/\z<=6)(j x:Nat)(m:j<A.a)(s:j<4)(t:x<6)(acc:U At)(u:acc.a<100):Pe [‹c›,XS ws,d,e,.Κ (A.j D.r),‹j›,g,h,.Κ (acc.j aD),‹x›]=.U [‹c›,XS ws,d,e,.Κ (A.j D.r),‹j›,g,h,.Κ ((acc++[f j (Hr (Df ws A) j x)]).j aD),‹(Hr (Df ws A) j x:Int)›]:=by
 let k:=Xv hz j m;let cond:AI (E4 (.r j)<|.int 0)=Z (decide<|0<(j:Int)):=rfl;let fin:∀y:Nat,y<6->(Ze (GH 8 ((Zf KH<|λa=>Zk (DV<|(Za Zs (λa=>A9 a 0) (Za Fx (Za As (λa=>A9 a 1) (λ_=>Z<|.int 2)) (Za ZP (Za As (λa=>A9 a 1) (λ_=>Z<|.int 6)) (λ_=>Z<|.int 2)))) a) (Zk (DV<|(Za ZP (Za Zs (Za As (λa=>A9 a 1) (λ_=>Z<|.int 7)) (Za Fx (λa=>A9 a 5) (Za ZP (Za As (λa=>A9 a 1) (λ_=>Z<|.int 8)) (λ_=>Z<|.int 2)))) (λ_=>Z<|.int 2)) a) (Zk (C0 a 9)<|some []))) [‹c›,XS ws,d,e,.own<|A.map D.int,‹j›,g,h,.own<|acc.map aD,‹y›]) [‹c›,XS ws,d,e,.own<|A.map D.int,‹j›,g,h,.own<|acc.map aD,‹y›]) (λa=>.U a))=.U [‹c›,XS ws,d,e,.Κ<|A.map D.int,‹j›,g,h,.own<|(acc++[f j y]).map aD,‹y›]:=λy v=>by
  let n:=(r j).2 y v;unfold cW wW at n;erw[Zf,Za,A9,C0,Ej,EU,Cp,As,show atI (ws.map D.int) 2=Z (.int<|ws.getD 2 0)from(KR ws b 2<|Li rfl),show atI (ws.map D.int) 6=Z (.int<|ws.getD 6 0)from(KR ws b 6<|Li rfl),show atI (ws.map D.int) 7=Z (.int<|ws.getD 7 0)from(KR ws b 7<|Li rfl),show atI (ws.map D.int) 8=Z (.int<|ws.getD 8 0)from(KR ws b 8<|Li rfl),C6 (ws.getD 6 0) 2 (by ext),C6 (ws.getD 8 0) 2 (by ext),IU (show Ef (ws.getD 2 0) (ws.getD 6 0%2) by right;constructor<;>lia),IU (show Ef (j:Int) (ws.getD 8 0%2) by right;constructor<;>lia),Mc,C6 (ws.getD 7 0+(j:Int)*(ws.getD 8 0%2)) 2 (by ext),DV,Dy,Zk,n,Dk,GH,Bq,if_pos (show acc.length<Ay from B3 u (by ext)),Ze,Gv,F5,Ek,AU,Dj]
 by_cases o:j=0
 .subst o;have:=fin x t;unfold Pe;erw[Za,A9,Ej,EU,Cp,cond]at this ⊢;show this
 .let l:atI (ws.j D.r) (7+7*(j:Int)+(x:Int))=Z (.r<|ws.Y (7+7*j+x) 0):=by
   rw[<- (KR ws b (7+7*j+x) ∅)];congr 1
  let p:=FJ (xs:=A) (i:=(j:Int)) (KC j) (Ny.ϡ m);rw[IL]at p;let q:=C6 (ws.Y (7+7*j+x) 0) (A.Y j 0) ∅;rw[ZAW ws A j x k.1]at q;let w:=IU (x:=7) (y:=(j:Int)) (by left;decide);have:=fin (Df ws A j x)<|jg ws A j x k.1 k.2;unfold Pe;rw[show Hr (Df ws A) j x=Df ws A j x from if_neg o];erw[Za,A9,Ej,EU,Cp,cond,show decide (0<(j:Int))=J' from decide_eq_true ∅,ZH,w,Mc,As,l,p,q,C1,Ze,Gv,F5]at this ⊢;show this
theorem Xw(ws d:U Int)(hz:∀z∈d,1<=z/\z<=6)(j x:Nat)(b:j<d.a)(c:x<6):Hr (Df ws d) j x<6:=by
 unfold Hr;split
 .show c
 .let a:=Xv hz j b;show jg ws d j x a.1 a.2
theorem jh(c:Int)(ws:U Int)(l:ws.a=40)(f:Nat->Nat->At)(m:Nx c ws f)(d e g h:Sl)(t:U Int)(hz:∀z∈t,1<=z/\z<=6):∀(n j x:Nat)(acc:U At)(i:Sl),j+n<=t.a->j+n<=4->x<6->acc.a+n<100->∃(a:Sl) (b:Sl),ZO (Zc 5) Pe ((Gu j n).j λ(k:Nat)=>D.r k) [‹c›,XS ws,d,e,.Κ (t.j D.r),i,g,h,.Κ (acc.j aD),‹x›]=.U [‹c›,XS ws,d,e,.Κ (t.j D.r),a,g,h,.Κ ((acc++Ec f (Df ws t) j x n).j aD),b]
 |0,j,x,acc,i,_,_,_,_=>#[i,_,by simp[ZO,Ec];rfl]
 |n+1,j,x,acc,i,o,r,p,s=>by
  let(a,b,q):=jh c ws l f m d e g h t hz n (j+1) (Hr (Df ws t) j x) (acc++[f j<|Hr (Df ws t) j x]) ‹j› ∅ ∅ (Xw ws t hz j x (GI o) p) (by simp;lia);apply⟨a,b,?_⟩;rw[Nu,AU];erw[ZO,Zc,Gv,F5];rw[ZBc c ws l f m d e g h t hz j x (GI o) (GI r) p acc<|GI s];simp only;rw[q];erw[Ec,Dr,List.singleton_append]
structure GL(ls:BF)(p:Nat):Prop where
 n1:1<=ls.a
 n6:ls.a<=40
 p1:1<=p
 p4:p<=4
 len:∀l∈ls,l.a=p
 val:∀l∈ls,∀a∈l,GY (aD a)=J'/\Sm (aD a)
 hdn:(ls.j hd).η
 fn:∀l∈ls,∀l'∈ls,∀m a,l[m]?=Z a->l'[m]?=Z a->l.ρ (m+1)=l'.ρ (m+1)
theorem GL.take{b:BF}{p:Nat}(h:GL b p)(n:Nat)(f:1<=n):GL (b.ϋ n) p:=by
 let c:∀x∈b.ϋ n,x∈b:=λx g=>List.mem_of_mem_take g;apply#[?_,?_,h.p1,h.p4,λl a=>h.ϩ l<|c l a,λl a=>h.y l<|c l a,?_,?_]
 .rw[Jc];have:=h.n1;show Nat.le_min_of_le_of_le f this
 .rw[Jc];have:=h.n6;lia
 .rw[List.map_take];show h.hdn.sublist<|List.take_sublist _ _
 .show λl a e d=>h.fn l (c l a) e<|c e d
theorem Sx(f:Nat->Nat->At)(a:Nat->Nat->Nat):∀(n j x:Nat),(Ec f a j x n).a=n
 |0,_,_=>rfl
 |n+1,j,x=>by simp[Ec,Sx f a n]
def JQ(a:Nat->Nat->Nat)(j x:Nat):Nat->Nat
 |0=>Hr a j x
 |i+1=>JQ a (j+1) (Hr a j x) i
theorem Sy(f:Nat->Nat->At)(a:Nat->Nat->Nat):∀(i n j x:Nat),i<n->(Ec f a j x n)[i]?=Z (f (j+i) (JQ a j x i))/\(Ec f a j x n).ρ (i+1)=Ec f a (j+i+1) (JQ a j x i) (n-i-1)
 |_,0,_,_,h=>∅
 |0,n+1,j,x,_=>by simp[Ec,JQ]
 |i+1,n+1,j,x,h=>by
  let(b,c):=Sy f a i n (j+1) (Hr a j x) ∅;apply#[?_,?_]
  .erw[Ec,Ej,JQ];rw[b,show j+1+i=j+(i+1) by lia]
  .erw[Ec,List.drop_succ_cons,JQ];rw[c,show j+1+i+1=j+(i+1)+1 by lia,show n-i-1=n+1-(i+1)-1 by lia]
theorem ji(ws c:U Int)(hz:∀z∈c,1<=z/\z<=6):∀(i j x:Nat),j+i<c.a->x<6->JQ (Df ws c) j x i<6
 |0,j,x,a,b=>Xw ws c hz j x (Nat.lt_of_succ_le a) b
 |i+1,j,x,a,b=>ji ws c hz i (j+1) _ ∅<|Xw ws c hz j x (GI a) b
theorem ZCK(c:Int)(ws:U Int)(f:Nat->Nat->At)(s:Nx c ws f)(R:U Int)(hz:∀z∈R,1<=z/\z<=6)(p m:Nat)(K:R.a=p)(p1:1<=p)(p4:p<=4)(m1:1<=m)(Q:m<=6)(a:Nat->Nat)(u:∀k,k<m->a k<6)(h:∀j k,j<m->k<m->a j=a k->j=k):GL ((BI m).j λk=>Ec f (Df ws R) 0 (a k) p) p:=by
 let w:∀(k i:Nat),k<m->i<p->(Ec f (Df ws R) 0 (a k) p)[i]?=Z (f i<|JQ (Df ws R) 0 (a k) i)/\JQ (Df ws R) 0 (a k) i<6:=λk i o d=>by
  have:=(Sy f (Df ws R) i p 0 (a k) d).1;rw[IK]at this;show#[this,ji ws R hz i 0 (a k) ∅<|u k o]
 apply#[by simpa using m1,by rw[Bq,List.length_range];lia,p1,p4,λl r=>?_,λl r b L=>?_,?_,?_]
 .let(k,_,rfl):=Bm.mp r;show Sx _ _ _ _ _
 .let(k,o,rfl):=Bm.mp r;let(i,h,e):=Uz.mp L;let d:i<p:=by rw[Sx]at h;show h
  let(g,t):=w k i (EY.mp o) d;rw[Cb h,e]at g;injection g with g
  subst g;show#[(s i).1.y _ t,(s i).1.sm _ t]
 .rw[CG];apply List.pairwise_map.ϡ<|List.Pairwise.imp_of_mem (λ{x y} G H A e=>A ?_) (List.nodup_range (n:=m));let T:∀k,hd (Ec f (Df ws R) 0 (a k) p)=f 0 (a k):=λk=>by
   obtain⟨q,rfl⟩:∃q,p=q+1:=#[p-1,by show(Nat.sub_eq_iff_eq_add p1).mp rfl];rfl
  let e:f 0 (a x)=f 0 (a y):=by grind
  show h x y (EY.mp G) (EY.mp H)<|(s 0).1.inj _ _ (u x<|EY.mp G) (u y<|EY.mp H) e
 .intro l r P B n v C S;let(k,o,rfl):=Bm.mp r;let(F,E,rfl):=Bm.mp B;let d:n<p:=by
   have:=(Cr.mp C).1;rw[Sx]at this;show this
  let(g,t):=w k n (EY.mp o) d;let(M,N):=w F n (EY.mp E) d;rw[g]at C;rw[M]at S;rw[(Sy f (Df ws R) n p 0 (a k) d).2,(Sy f (Df ws R) n p 0 (a F) d).2,(s n).1.inj _ _ t N (by rw[EH C,EH S])]
def aW(ws:U Int)(m k:Nat):Nat:=(((k:Int)+ws.Y 2 0)%(m:Int)).θ
theorem Xx(ws:U Int)(m k:Nat)(a:0<m):((k:Int)+ws.Y 2 0)%(m:Int)=(aW ws m k:Int):=by
 have:=Ie ((k:Int)+ws.Y 2 0) (show(m:Int)≠0 by show Int.natCast_ne_zero_iff_pos.ϡ a);unfold aW;show Eq.τ<|Nm this
theorem jl(ws:U Int)(m k:Nat)(a:0<m):aW ws m k<m:=by simp_all [JP,aW]
theorem ZAR(c:Int)(m j k:Nat)(a:m<=6)(b:j<m)(d:k<m)(e:((j:Int)+c)%(m:Int)=((k:Int)+c)%(m:Int)):j=k:=by
 have:m=1\/m=2\/m=3\/m=4\/m=5\/m=6:=∅
 rcases this with rfl|rfl|rfl|rfl|rfl|rfl<;>lia
theorem Zvw(c:Int)(ws:U Int)(e:ws.a=40)(f:Nat->Nat->At)(j:Nx c ws f)(t:U Int)(hz:∀z∈t,1<=z/\z<=6)(p m k:Nat)(s:t.a=p)(p4:p<=4)(m1:1<=m)(l:m<=6)(acc:BF)(n:acc.a<100)(g o r:Sl):∃a d b,Ru [‹c›,XS ws,‹m›,‹p›,.Κ (t.j D.r),g,.Κ (acc.j Ai),‹k›,o,r]=.U [‹c›,XS ws,‹m›,‹p›,.Κ (t.j D.r),a,.Κ ((acc++[Ec f (Df ws t) 0 (aW ws m k) p]).j Ai),‹k›,d,b]:=by
 let h:=C6 ((k:Int)+ws.Y 2 0) (m:Int)<|KQ.ϡ m1;rw[Xx ws m k<|En m1]at h;let i:=O2 p ∅;rw[Nv]at i;let(a,b,q):=jh c ws e f j ‹m› ‹p› (.Κ<|acc.j Ai) ‹k› t hz p 0 (aW ws m k) [] g ∅ ∅ (B3 (jl ws m k<|En m1) l) (by simp;lia);erw[Dj,EV]at q;apply⟨a,.Κ<|(Ec f (Df ws t) 0 (aW ws m k) p).j aD,b,?_⟩;rwa[Ru,Zh,if_pos<|E3 _,Dn,As,show atI (ws.map D.int) 2=Z (.int<|ws.getD 2 0)from KR ws e 2 (Li rfl),h,Z8,i,q,GH,EO,show E5 [.lst<|(Ec f (Df ws t) 0 (aW ws m k) p).map aD]=Z (Ai<|Ec f (Df ws t) 0 (aW ws m k) p)from rfl,Bq,if_pos (show acc.length<Ay from B3 n (by ext)),Ek]
theorem jm(c:Int)(ws:U Int)(r:ws.a=40)(f:Nat->Nat->At)(s:Nx c ws f)(y:U Int)(hz:∀z∈y,1<=z/\z<=6)(p m:Nat)(t:y.a=p)(p4:p<=4)(m1:1<=m)(u:m<=6):∀(n k:Nat)(acc:BF)(i o j l:Sl),acc.a+n<100->∃(a b d g:Sl),ZO (Zc 7) Ru ((Gu k n).j λ(k:Nat)=>D.r k) [‹c›,XS ws,‹m›,‹p›,.Κ (y.j D.r),i,.Κ (acc.j Ai),o,j,l]=.U [‹c›,XS ws,‹m›,‹p›,.Κ (y.j D.r),a,.Κ ((acc++(Gu k n).j λk=>Ec f (Df ws y) 0 (aW ws m k) p).j Ai),b,d,g]
 |0,k,acc,i,o,j,l,_=>#[i,o,j,l,by simp[ZO]]
 |n+1,k,acc,i,o,j,l,h=>by
  let(v,w,x,e):=Zvw c ws r f s y hz p m k t p4 m1 u acc ∅ i j l;let(a,b,d,g,q):=jm c ws r f s y hz p m t p4 m1 u n (k+1) (acc++[Ec f (Df ws y) 0 (aW ws m k) p]) v (.y<|.r k) w x (by simp;lia);apply⟨a,b,d,g,?_⟩;rw[Nu,AU];erw[ZO,Zc,Gv,F5];rw[e];simp only;rw[q];erw[Dr,List.singleton_append,AU]
theorem jn{l:U Nat}(h:l.a=8)(c:∀m∈l,1<=m/\m<=4)(x:Int):∃p:Nat,1<=p/\p<=4/\atI (l.j λm:Nat=>D.r m) (x%8)=Z (.r p):=by
 obtain⟨i,d,a⟩:∃i:Nat,x%8=(i:Int)/\i<l.a:=#[(x%8).θ,∅,∅];let b:=c _<|Fy a;show⟨_,b.1,b.2,d ▸ ZI (by simp[a])⟩
theorem ZCE(x:Int):∃p:Nat,1<=p/\p<=4/\atI [D.r 2,.r 1,.r 3,.r 2,.r 3,.r 4,.r 2,.r 3] (x%8)=Z (.r p):=jn (l:=[2,1,3,2,3,4,2,3]) rfl (by ext) x
theorem Zww(c:Int):∃g p,GL g p/\g.a<=6/\Rw [‹c›]=Z (.Κ (g.j Ai)):=by
 let(a,s,d,_):=Zwc c;let(f,i):=nmd c a;obtain⟨m,t,m1,b⟩:∃m:Nat,1+a.Y 0 0%6=(m:Int)/\1<=m/\m<=6:=#[(1+a.Y 0 0%6).θ,∅,∅,∅];let(p,p1,p4,u):=ZCE<|a.getD 1 0;let l:=yf 1 (p:Int) (by ext) (by ext) ∅<|(Int.toNat_lt' p1).mp p1;let h:(BI ((p:Int)-1).toNat).map (λ(k:Nat)=>D.r<|1+(k:Int))=(Gu 1<|p-1).map λ(k:Nat)=>D.r k:=by
  simp_all [List.range'_eq_map_range,CG]
 rw[h]at l;let(F,v,H,n,o):=jf a d ‹c› ‹m› ‹p› .no .no .no .no (p-1) 1 [(m:Int)] .no (Ur rfl) ∅ rfl (λz hz=>by erw[Ca]at hz;subst hz;lia);let r:=O2 m ∅;rw[Nv]at r;let(w,x,y,A,q):=jm c a d f i F n p m ∅ p4 m1 b m 0 [] v .no .no .no (by simp;lia);erw[Dj,EV]at q;apply#[(Gu 0 m).j λk=>Ec f (Df a F) 0 (aW a m k) p,p,?_,by simpa using b,?_]
 .rw[<- Nv];let B:∀k,k<m->aW a m k<6:=λk _=>by have:=jl a m k<|En m1;show B3 this b
  let C:∀j k,j<m->k<m->aW a m j=aW a m k->j=k:=λj k E G e=>ZAR (a.Y 2 0) m j k b E G (by rw[Xx a m j<|En m1,Xx a m k<|En m1,e]);show ZCK c a f i F n p m ∅ p1 p4 m1 b (aW a m) B C
 .erw[AU,Dj]at o;rwa[Rw,A3,G5,fX,fW,fG,GF,EV,s,Dk,Mf,Nw,Mg,fV,fH,As,show atI (a.map D.int) 0=Z (.int<|a.getD 0 0)from KR a d 0 (Nat.zero_lt_succ 39),C6 (a.getD 0 0) 6 (by ext),t,fU,fI,Zh,if_pos (show(8:Nat)<=Ay by ext),show atI (a.map D.int) 1=Z (.int<|a.getD 1 0)from KR a d 1 (Nat.one_lt_succ_succ 38),C6 (a.getD 1 0) 8 (by ext),u,fT,fJ,if_pos (show(1:Nat)<=Ay by ext),Dn,fS,fK,Z8,l,o,fR,fM,Zh,if_pos<|E3 _,Dn,fQ,fN,r,q,fP,fO,EO,Cy]
abbrev LD(a:BF):D:=.O (a.j Ai)
theorem ZEj(ns:U Int)(k:Nat):∃a,((∃p,GL a p)/\a.a<=6)/\RF [‹k›,#v[ns.j D.r]]=Z (LD a):=by
 let b:=IU (x:=1000) (y:=(k:Int)) (by left;decide);let(a,p,c,d,e):=Zww<|ns.Y (1+(k:Int)).θ 0+1000*(k:Int);apply⟨a,⟨⟨p,c⟩,d⟩,?_⟩;rwa[RF,Sq #v[ns.map D.int] ns (.inl rfl) (1+(k:Int))<|Sr<|1+k,b,Dk,e]
theorem ZGf(x:Int):∃m:Nat,1<=m/\m<=4/\atI [D.r 2,.r 1,.r 2,.r 3,.r 1,.r 2,.r 3,.r 4] (x%8)=Z (.r m):=jn (l:=[2,1,2,3,1,2,3,4]) rfl (by ext) x
structure Cq(Ls:AQ):Prop where
 n1:1<=Ls.a
 n4:Ls.a<=4
 good:∀ls∈Ls,∃p,GL ls p
theorem tk3(a:BF):RH [.y (LD a)]=Z (LD (a.ϋ 3)):=by
 have:=Vb (a.j Ai) 3 (by ext);rwa[RH,DN,DM,Ex,this];simp_all
theorem Zts(ns:U Int):∃c,Cq c/\(∀a∈c,a.a<=6)/\Pf [#v[ns.j D.r]]=Z (.Κ (c.j LD)):=by
 let o:=Sq #v[ns.j D.r] ns (.Q rfl) 0 (by ext);let(m,m1,i,q):=ZGf<|ns.getD (0:Int).toNat 0;let r:=C6 (ns.getD (0:Int).toNat 0) 8 (by ext);let s:=O2 m ∅;let(c,c1,c2,j):=i6 (b:=Zc 0) (e:=RF) (ρ:=[.no,#v[ns.map D.int]]) (λ(k:Nat)=>D.r k) LD (λa=>(∃p,GL a p)/\a.a<=6) (BI m) λk _=>by
  let(a,d,x):=ZEj ns k;show#[a,_,d,rfl,x]
 rw[List.length_range]at c2;let f:(8:Nat)<=Ay:=by ext
 let g:((BI m).j λ(k:Nat)=>D.r k).a<=Ay:=by rw[Bq,List.length_range];show Bv i (by ext)
 let t:=Zz (b:=Zc 0) (e:=RH) (ρ:=[.no]) LD (λa=>LD<|a.take 3) c λa _=>#[_,rfl,tk3 a];rw[show c.j (λa=>LD<|a.take 3)=(c.map λa=>a.ϋ 3).j LD by rw[CG];rfl]at t;let l:=Ib (m:Int) 4;by_cases u:(m:Int)=4
 .apply#[c.j λa=>a.ϋ 3,#[by rw[Bq];show le_of_le_of_eq m1 c2.τ,by rw[Bq];show le_of_eq_of_le c2 i,λa h=>?_],λa h=>?_,?_]
  .let(n,d,rfl):=Bm.mp h;let((p,y),_):=j n d;show#[p,y.ϋ 3 (by ext)]
  .let(n,d,rfl):=Bm.mp h;rw[Jc];have:=(j n d).2;lia
  .rw[decide_eq_true u]at l;rwa[Pf,A3,G5,VZ,VY,VQ,GF,EV,o,Dk,r,Zh,if_pos f,As,q,Mf,Nw,Mg,VX,VR,Zj,s,if_pos g,Zy,Ki,c1,VV,VS,l,if_pos (show(c.map LD).length<=Ay by rw[Bq,c2];show Bv i (by ext)),t,VU,VT,Cy,EO,Dn,IQ,Lp]
 .apply#[c,#[by show le_of_le_of_eq m1 c2.τ,by show le_of_eq_of_le c2 i,λa h=>(j a h).1],λa h=>(j a h).2,?_];rw[decide_eq_false u]at l;rwa[Pf,A3,G5,VZ,VY,VQ,GF,EV,o,Dk,r,Zh,if_pos f,As,q,Mf,Nw,Mg,VX,VR,Zj,s,if_pos g,Zy,Ki,c1,VV,VS,l,VU,VT,Cy,EO,Dn,IQ,Lp]
structure Ln(l:List At):Prop where
 l1:1<=l.a
 l4:l.a<=4
 val:∀a∈l,GY (aD a)=J'/\Sm (aD a)
theorem GL.ln{c:BF}{p:Nat}(h:GL c p):∀l∈c,Ln l:=λl b=>#[h.ϩ l b ▸ h.p1,h.ϩ l b ▸ h.p4,λa d=>h.y l b a d]
abbrev KU(a:AQ):D:=.X (a.j λ_=>D.r 0)
theorem Xy{a:AQ}(h:Cq a):Nn [#v[a.j LD]]=Z (.y (KU a)):=by
 rwa[Nn,A3,G5,eB,Mf,Mg,Eh,Zj,Zh,if_pos (show(a.map LD).length<=Ay by rw[Bq];show Bv h.n4 (by ext)),Zy,Nw,Zz (b:=Zc 0) (e:=eA) (ρ:=[.no]) LD (λ_=>D.int 0) a λc _=>#[[.val<|LD c],rfl,rfl],show E5 [.lst<|a.map λ_=>D.int 0]=Z (KU a)from rfl]
structure TO{α:Type}(lt:α->α->Bool):Prop where
 asym:∀a b,lt a b=J'->lt b a=O'
 neg:∀a b c,lt a c=J'->lt a b=J'\/lt b c=J'
 anti:∀a b,lt a b=O'->lt b a=O'->a=b
def JR{a:Type}(lt:a->a->Bool)(x:a):U a->U a
 |[]=>[x]
 |y::r=>if lt x y then x::y::r else y::JR lt x r
def Zr{a:Type}(lt:a->a->Bool):U a->U a
 |[]=>[]
 |x::r=>JR lt x (Zr lt r)
theorem Xz{a:Type}(lt:a->a->Bool)(x:a):∀l,(JR lt x l).Ϧ (x::l)
 |[]=>.ω _
 |y::r=>by
  unfold JR;split
  .show .ω _
  .show((Xz lt x r).Θ y).E<|.swap x y r
theorem ZE{a:Type}(lt:a->a->Bool):∀l,(Zr lt l).Ϧ l
 |[]=>.ω _
 |x::r=>(Xz lt x _).E<|(ZE lt r).Θ x
theorem jo{c:Type}{lt:c->c->Bool}(T:TO lt)(x:c):∀l:U c,l.Ϛ (λa b=>lt b a=O')->(JR lt x l).Ϛ λa b=>lt b a=O'
 |[],_=>by simp[JR]
 |y::r,f=>by
  let(g,h):=Na.mp f;unfold JR;split
  .next d=>
   apply Na.ϡ #[λz hz=>?_,f];rcases Bx.mp hz with e|hz
   .subst e;show T.asym x z d
   .cases i:lt z x with|false=>rfl|true=>
     rcases T.neg z y x i with q|q
     .rw[g z hz]at q;cases q
     .rw[T.asym x y d]at q;cases q
  .next d=>
   apply Na.ϡ #[λz hz=>?_,jo T x r h];grind [Xz]
theorem Py{c:Type}{lt:c->c->Bool}(T:TO lt):∀l:U c,(Zr lt l).Ϛ λa b=>lt b a=O'
 |[]=>.ϔ
 |x::r=>jo T x _<|Py T r
theorem jq{c:Type}{lt:c->c->Bool}(T:TO lt){xs ys:U c}(d:ys.Ϧ xs)(e:ys.Ϛ λa b=>lt b a=O'):ys=Zr lt xs:=List.Ϧ.eq_of_pairwise (le:=λa b=>lt b a=O') (λa b _ _ f g=>T.anti a b g f) e (Py T xs) (d.E (ZE _ xs).τ)
theorem jr{a:Type}(f:a->D)(lt:a->a->Bool)(lk:D->D->Bool)(x:a):∀l:U a,(∀y∈l,lk (f x) (f y)=lt x y)->Jw lk (f x) (l.j f)=(JR lt x l).j f
 |[],_=>rfl
 |y::r,h=>by
  erw[AU,Jw,JR,h y Bh,jr f lt lk x r λz hz=>h z<|Bl _ hz];split<;>rfl
theorem js{a:Type}(f:a->D)(lt:a->a->Bool)(lk:D->D->Bool):∀l:U a,(∀x∈l,∀y∈l,lk (f x) (f y)=lt x y)->FC lk (l.j f)=(Zr lt l).j f
 |[],_=>rfl
 |x::r,h=>by
  let c:=js f lt lk r λy b z hz=>h y (Bl _ b) z<|Bl _ hz;erw[AU,FC,Zr,c];show jr f lt lk x _ λy b=>h x Bh y<|Bl _<|(ZE lt r).subset b
theorem XA{l:Type}{F:U Sl->O Rv}(f:l->D){lt:l->l->Bool}(T:TO lt)(b:Bool)(xs:U l)(few:xs.a<500)(m:l->D)(tells:∀a∈xs,F [.y (f a)]=Z (.y (m a)))(mode:∀a∈xs,Cu b (m a))(cmp:∀a∈xs,∀c∈xs,ltN 6 (m a) (m c)=Z (lt a c)):Gr F (xs.j f)=Z ((Zr lt xs).j f):=by
 let n:∀a∈xs,D1 F (f a)=m a:=λa d=>by unfold D1;rw[tells a d];rfl
 let j:∀a∈xs,∀c∈xs,CU F (f a) (f c)=lt a c:=λa d c g=>b5 (by rw[n a d,n c g];show cmp a d c g)
 let ok:Bt F (xs.j f):={
  few:=by simp;lia
  tells:=λx i=>by let(a,d,rfl):=Bm.mp i;show#[_,tells a d]
  mode:=#[b,λx i=>by let(a,d,rfl):=Bm.mp i;rw[n a d];show mode a d]
  cmp:=λx i y k=>by
   grind
  asym:=λx i y k h=>by
   let(a,d,rfl):=Bm.mp i
   let(c,g,rfl):=Bm.mp k
   rw[j a d c g]at h;rw[j c g a d];show T.asym a c h
  neg:=λx i y k z hz h=>by
   let(a,d,rfl):=Bm.mp i
   let(c,g,rfl):=Bm.mp k
   let(e,o,rfl):=Bm.mp hz
   rw[j a d e o]at h;rw[j a d c g,j c g e o];show T.neg a c e h
  anti:=λx i y k p q=>by
   let(a,d,rfl):=Bm.mp i
   let(c,g,rfl):=Bm.mp k
   rw[j a d c g]at p;rw[j c g a d]at q;rw[T.anti a c p q]}
 rw[u4 ok,js f lt _ xs j]
def D5{b:Type}[DecidableEq b]:O b->U b->U b
 |_,[]=>[]
 |p,a::r=>if p=Z a then D5 p r else a::D5 (Z a) r
theorem XB{c:Type}[DecidableEq c]:∀(l:U c)(p:O c),l.η->(∀a,p=Z a->a∉l)->D5 p l=l
 |[],_,_,_=>rfl
 |a::r,p,h,d=>by
  let(f,g):=Eu.mp h;unfold D5;rw[if_neg<|λe=>d a e Bh,XB r (Z a) g λb i=>by cases i;show f]
theorem XC{c:Type}[DecidableEq c]:∀(l:U c)(p:O c)(a:c),a∈D5 p l->a∈l
 |[],_,_,h=>h
 |b::r,p,a,h=>by
  unfold D5 at h;split at h
  .show Bl _<|XC r p a h
  .rcases Bx.mp h with rfl|h
   .show Bh
   .show Bl _<|XC r _ a h
theorem XD{c:Type}[DecidableEq c]:∀(l:U c)(p:O c)(a:c),a∈l->a∈D5 p l\/p=Z a
 |[],_,_,h=>by cases h
 |b::r,p,a,h=>by
  unfold D5;split
  .next e=>
   rcases Bx.mp h with rfl|h
   .show .σ e
   .show XD r p a h
  .rcases Bx.mp h with rfl|h
   .show .Q Bh
   .rcases XD r (Z b) a h with h|h
    .show .Q<|Bl _ h
    .grind [Bh]
theorem jt{b:Type}[DecidableEq b](l:U b)(a:b):a∈D5 J l↔a∈l:=by grind [XC,XD]
def EE:At->At->Bool
 |.non,.non=>O'
 |.non,_=>J'
 |.int i,.int j=>decide (i<j)
 |.int _,.str _=>J'
 |.str x,.str y=>decide (x.Ϝ.B<y.Ϝ.B)
 |_,_=>O'
theorem ZGA{x y:Af}(h:x.Ϝ.B=y.Ϝ.B):x=y:=by
 obtain⟨⟨a⟩⟩:=x;simp_all
theorem JU:TO EE:={
 asym:=λa b h=>by
  cases a<;>cases b<;>erw[EE,decide_eq_true_eq,decide_eq_false_iff_not,FU]at h ⊢
  .show Int.lt_asymm h
  .show List.lt_asymm h
 neg:=λa b c h=>by
  cases a<;>cases c<;>erw[EE,decide_eq_true_eq,FU]at h<;>cases b<;>erw[EE,decide_eq_true_eq,FU,true_or,or_true,or_false]
  .lia
  .grind [List.lt_of_le_of_lt,List.not_lt]
 anti:=λa b d e=>by
  cases a<;>cases b<;>erw[EE,decide_eq_false_iff_not,Bool.true_eq_false]at d e
  .rfl
  .rw[At.r.injEq];lia
  .rw[At.ψ.injEq];show ZGA (List.le_antisymm (List.not_lt.mp e) (List.not_lt.mp d))}
def Bb:U At->U At->Bool
 |[],[]=>O'
 |[],_::_=>J'
 |_::_,[]=>O'
 |a::r,b::s=>if a=b then Bb r s else EE a b
theorem ju:∀a b,Bb a b=J'->Bb b a=O'
 |[],[],_=>rfl
 |[],_::_,_=>rfl
 |_::_,[],h=>by cases h
 |a::r,b::s,h=>by
  unfold Bb at h ⊢;by_cases e:a=b
  .subst e;erw[if_true]at h ⊢;show ju r s h
  .rw[if_neg e]at h;rw[if_neg<|λz=>e z.τ];show JU.asym a b h
theorem jv:∀a b c,Bb a c=J'->Bb a b=J'\/Bb b c=J'
 |[],[],c,h=>.σ h
 |[],_::_,_,_=>.Q rfl
 |_::_,_,[],h=>by cases h
 |_::_,[],_::_,_=>.σ rfl
 |a::r,b::s,c::t,h=>by
  unfold Bb at h ⊢;by_cases e:a=b
  .subst e;by_cases d:a=c
   .erw[d,if_true]at h ⊢;show jv r s t h
   .rw[if_neg d]at h;right;rw[if_neg d];show h
  .rw[if_neg e];by_cases d:b=c
   .subst d;rw[if_neg e]at h;show .Q h
   .rw[if_neg d];by_cases f:a=c
    .subst f;cases g:EE a b with|true=>show .Q rfl|false=>
      cases hd:EE b a with
      |true=>show .σ rfl
      |false=>show absurd (JU.anti a b g hd) e
    .rw[if_neg f]at h;show JU.neg a b c h
theorem jw:∀a b,Bb a b=O'->Bb b a=O'->a=b
 |[],[],_,_=>rfl
 |[],_::_,h,_=>by cases h
 |_::_,[],_,h=>by cases h
 |a::r,b::s,c,d=>by
  unfold Bb at c d;by_cases e:a=b
  .subst e;erw[if_true]at c d;rw[jw r s c d]
  .rw[if_neg e]at c;rw[if_neg<|λz=>e z.τ]at d;show absurd (JU.anti a b c d) e
theorem Dg:TO Bb:=#[ju,jv,jw]
def Ds:At->D
 |.non=>.X [.r 0,.r 0]
 |.int i=>.X [.r 1,.r i]
 |.str x=>.X [.r 2,.ψ x]
theorem ZC4(n:Nat)(a b:At):ltN (n+2) (Ds a) (Ds b)=Z (EE a b):=by
 cases a<;>cases b<;>simp[Ds,EE]
 .intro e;show Int.le_of_eq e.τ
 .intro e;subst e;simp
theorem jx(a b:At):Be (Ds a) (Ds b)=decide (a=b):=by
 cases a<;>cases b<;>simp[Ds]
theorem Sz(n:Nat)(a:At):A5 (n+1) (Ds a)=J':=by cases a<;>cases n<;>rfl
theorem XE(n:Nat):∀l m:U At,Gn (ltN (n+2)) (l.j Ds) (m.j Ds)=Z (Bb l m)
 |[],[]=>rfl
 |[],_::_=>rfl
 |_::_,[]=>rfl
 |a::r,b::s=>by
  rwa[Gn,FH,Sz 11 a,Sz 11 b,jx a b,ZC4 n a b,XE n r s,Bb,decide_eq_true_eq];grind
theorem XF{b:Type}[DecidableEq b]:∀(l:U b)(p:O b),(D5 p l).a<=l.a
 |[],_=>AX _
 |a::r,p=>by
  unfold D5;split
  .show GQ<|XF r p
  .show Nat.succ_le_succ<|XF r _
def mn(m y:Int):Int:=if y<m then y else m
def mx(m y:Int):Int:=if y>m then y else m
theorem jy(m y:Int):mn m y=min m y:=by grind [mn]
theorem jz(m y:Int):mx m y=max m y:=by grind [mx]
def cel(x:Int)(xs:U Int):D:=.X [.r (xs.a+1:Nat),.r ((x::xs).sum),.r (xs.Χ mn x),.r (xs.Χ mx x)]
def ZDn(s:Sl)(ns:U Int):Prop:=s=#v[ns.j D.r]\/s=.gV (ns.j D.r)
theorem Zt5(s:Sl)(x:Int)(xs:U Int)(h:ZDn s (x::xs)):Re [s]=Z (.y (cel x xs)):=by
 rcases h with rfl|rfl<;>(simp[Re,A3,eC,HP,QB,QC,cel,show(4:Nat)<=Ay by ext];show#[rfl,rfl])
theorem ZFW:(4:Nat)<=Ay:=by ext
theorem jA(a:Int):∀(ys:U Int)(b:Int),ys.Χ mn (mn a b)=mn a (ys.Χ mn b)
 |[],b=>rfl
 |y::ys,b=>by
  erw[M8,show mn (mn a b) y=mn a (mn b y) by erw[jy];show Int.min_assoc a b y,jA a ys]
theorem jB(a:Int):∀(ys:U Int)(b:Int),ys.Χ mx (mx a b)=mx a (ys.Χ mx b)
 |[],b=>rfl
 |y::ys,b=>by
  erw[M8,show mx (mx a b) y=mx a (mx b y) by erw[jz];show Int.max_assoc a b y,jB a ys]
theorem Zwo(x y:Int)(xs ys:U Int):O8 [.y (cel x xs),.y (cel y ys)]=Z (.y (cel x (xs++y::ys))):=by
 simp[O8,A3,eE,cel,atI,D7,ZFW,show(xs++y::ys).foldl mn x=mn (xs.foldl mn x) (ys.foldl mn y) by rw[List.foldl_append,M8,jA],show(xs++y::ys).foldl mx x=mx (xs.foldl mx x) (ys.foldl mx y) by rw[List.foldl_append,M8,jB]];apply#[∅,by show Int.add_assoc x xs.sum<|y+ys.sum,rfl,rfl]
def FK(acc:By)(b:U (At×D)):By:=b.Χ (λa p=>ZZ a (.at p.1) p.2) acc
theorem XG(a:At):Dq (aD a)=Z (.at a):=On<|.at a
theorem jC{a:At}{v:D}(h:∀p∈kvs,El p.1=J'):∀p∈ZZ kvs (.at a) v,El p.1=J':=λp b=>by
 rcases Um b with b|rfl
 .show h p b
 .rfl
theorem jD:∀(a:U (At×D))(acc:By),(∀p∈acc,El p.1=J')->acc.a+a.a<=100000->HX acc (a.j λp=>.X [aD p.1,p.2])=Z (FK acc a)
 |[],acc,_,_=>rfl
 |p::a,acc,h,hz=>by
  erw[Cw]at hz;let b:=Uo acc (.at p.1) p.2;erw[AU,HX,XG,QH p.1 h,show acc.length<Ay from B3 (show acc.length<100000 by show GI hz) (by ext),decide_true,GX,if_true,jD a (ZZ acc (.at p.1) p.2) (jC h) ∅];rfl
theorem XH:∀(a:U (At×D))(acc:By),(∀p∈acc,El p.1=J')->∀p∈FK acc a,El p.1=J'
 |[],_,h=>h
 |p::a,acc,h=>XH a _<|jC h
theorem jF{a:At}:∀(b:U (At×D))(acc:By),a∉b.j (·.1)->Zx (FK acc b) (.at a)=Zx acc (.at a)
 |[],_,_=>rfl
 |p::b,acc,h=>by
  rw[AU,Bx,not_or]at h;change Zx (FK (ZZ acc (.at p.1) p.2) b) _=_
  rw[jF b (ZZ acc (.at p.1) p.2) h.2,Oo,if_neg<|λe=>h.1 (KT.at.inj e).τ]
theorem jH{a:At}{v:D}:∀(b:U (At×D))(acc:By),(b.j (·.1)).η->(a,v)∈b->Zx (FK acc b) (.at a)=Z v
 |p::b,acc,c,h=>by
  rw[AU,Eu]at c;change Zx (FK (ZZ acc (.at p.1) p.2) b) _=_
  rcases Bx.mp h with rfl|h
  .rw[jF b _ c.1,Oo,if_pos rfl]
  .show jH b _ c.2 h
theorem jI(a:At):∀(b:U (At×D))(acc:By),(Zx (FK acc b) (.at a)).Ζ=((Zx acc (.at a)).Ζ||decide (a∈b.j (·.1)))
 |[],acc=>by simp[FK]
 |p::b,acc=>by
  let c:=jI a b<|ZZ acc (.at p.1) p.2;show(Zx (FK (ZZ acc (.at p.1) p.2) b) _).Ζ=_
  rw[c,Oo];by_cases e:p.1=a
  .subst e;simp
  .let d:¬ KT.at p.1=KT.at a:=λz=>e<|KT.at.inj z;let f:¬ a=p.1:=λz=>e z.τ;rw[if_neg d,Bool.eq_iff_iff];simp[f]
theorem ZxM{b:U (At×D)}{a:At}{v:D}(c:(b.j (·.1)).η)(h:(a,v)∈b):D0 (.O (Zb (FK [] b)) .d) (aD a)=Z v:=by
 let e:=QH (kvs:=FK [] b) a (XH b [] λ_ h=>nomatch h);rw[bV,XG];erw[Cp,e,if_true,jH b [] c h]
theorem ZA9(neg:Bool)(b:U (At×D))(a:At):DC neg (aD a) (.O (Zb (FK [] b)) .d)=Z (.bl (neg != decide (a∈b.j (·.1)))):=by
 rw[MS,XG];rwa[QH (kvs:=FK [] b) a (XH b [] λ_ h=>nomatch h),jI a b []];rfl
theorem Nz{a:Type}(l:U a):Fg [.O ((l.j λ_=>J').j D.bl)]=Z (.bl J'):=by
 erw[Fg,Va,Ka];simp_all
theorem ZB{a n:Nat}{g:Ax}{r:Rv}(h:ss.a=a)(e:g (ss++EK (n-a) .no)=.ϸ r):A3 a n g ss=Z r:=by
 unfold A3;simp_all
theorem jJ{a:Type}(x:a)(xs:U a):atI (x::xs) 0=Z x:=by
 have:(0:Int)<(xs.a:Int)+1:=Int.succ_ofNat_pos xs.a;simp[atI,D7,this]
theorem jK{a:Type}(xs:U a)(x:a):atI (xs++[x]) (-1)=Z x:=by
 let b:(-1+((xs.a:Int)+1)).θ=xs.a:=∅
 have c : -((xs.a:Int)+1) <= -1:=∅
 simp[atI,D7,b,c]
theorem Zn5(a:At):Rq [.y (aD a)]=Z (.y (Ds a)):=by
 cases a<;>simp[Rq,A3,fE,Z5,Q9,aD,Ds,show(2:Nat)<=Ay by ext]
theorem jM(l:U At)(h:l.a<=1000):Np [.y (Ai l)]=Z (.y (.X (l.j Ds))):=by
 let c:=Zz (b:=Zc 0) (e:=VI) (ρ:=[.no]) aD Ds l λa _=>#[[.y<|aD a],rfl,by
  have:=Zn5 a;rwa[VI,this,Dk]]
 simp[Np,A3,fY,Ai,show l.length<=Ay from Bv h (by ext),Zy,c,-CG]
theorem SD(s0:Sl):∀(c acc:BF)(i:Sl),acc.a+c.a<100000->∃a,ZO (Zc 2) KI (c.j Ai) [s0,.Κ (acc.j Ai),i]=.U [s0,.Κ ((acc++D5 acc.getLast? c).j Ai),a]
 |[],acc,i,_=>#[i,by simp[ZO,D5]]
 |l::c,acc,i,hz=>by
  erw[Cw]at hz;let d:acc.a<Ay:=B3 (show acc.a<100000 by show GI hz) (by ext);let m:MG (Z<|.r 1)=Z (.r (-1)):=rfl;erw[AU,ZO,Zc,Gv,F5];rcases List.eq_nil_or_concat acc with rfl|⟨pre,x,rfl⟩
  .let(a,e):=SD s0 c [l] (.y<|Ai l) (by simp;lia);apply⟨a,?_⟩;let j:KI [s0,.Κ<|[].j Ai,.y<|Ai l]=.U [s0,.Κ<|[l].j Ai,.y<|Ai l]:=by
    simp[KI,show(0:Nat)<Ay by ext]
   show e
  .rw[List.concat_eq_append]at hz d ⊢;let f:As (.O<|(pre++[x]).j Ai) (.r (-1))=Z (Ai x):=by
    rw[Ek];show jK _ _
   let g:ZJ (Z<|.O<|(pre++[x]).j Ai)=Z J':=by simp
   let h:=iZ x l;let b:(pre++[x]).getLast?=Z x:=by simp
   by_cases k:x=l
   .subst k;let(a,e):=SD s0 c (pre++[x]) (.y<|Ai x)<|FA hz;apply⟨a,?_⟩;let j:KI [s0,.Κ<|(pre++[x]).j Ai,.y<|Ai x]=.U [s0,.Κ<|(pre++[x]).j Ai,.y<|Ai x]:=by
     erw[KI,Ze,ZH,CK,ZM,AI,Za,A9,Ej,EU,Cp,Dy,g,m,f,h,decide_true,IC]
    rw[j,b,D5,if_pos rfl,<- b];show e
   .let(a,e):=SD s0 c (pre++[x]++[l]) (.y<|Ai l) (by simp at hz ⊢;lia);apply⟨a,?_⟩;let j:KI [s0,.Κ<|(pre++[x]).j Ai,.y<|Ai l]=.U [s0,.Κ<|(pre++[x]++[l]).j Ai,.y<|Ai l]:=by
     rw[show((pre++[x]++[l]).j Ai)=(pre++[x]).j Ai++[Ai l] by simp];erw[KI,Ze,ZH,CK,ZM,AI,Za,A9,Bf,Ej,EU,Cp,Dy,g,m,f,h,k,decide_false,Bool.not_false,IC,GH,Bq,d,if_true,Gv,F5]
    rw[j,b,D5,if_neg (by exists k)];rw[show(pre++[x]++[l]).getLast?=Z l by simp]at e;rw[show pre++[x]++l::D5 (Z l) c=pre++[x]++[l]++D5 (Z l) c by simp];show e
theorem XJ(s:Sl)(b:BF)(f:s=#v[b.j Ai]\/s=.gV (b.j Ai))(g:b.a<500)(d:∀l∈b,l≠[]/\l.a<=1000):Pl [s]=Z (.Κ ((D5 J (Zr Bb b)).j Ai)):=by
 let c:=XA (F:=Np) Ai Dg O' b g (λl=>.X<|l.map Ds) (λl h=>jM l (d l h).2) (λl h=>by
  cases l with
  |nil=>show absurd rfl (d [] h).1
  |cons a r=>cases a<;>show#[_,_,rfl]) (λl _ m _=>XE 3 l m)
 let(i,e):=SD s (Zr Bb b) [] .no (by rw[(ZE Bb b).ό];simp;lia);erw[Dj,EV,List.getLast?_nil]at e;apply ZB rfl ?_;change Wj [s,.no,.no]=_
 rcases f with rfl|rfl<;>rwa[Wj,Dn,Z8,LP,EO,Cy,show Zh (Z ([]:U D))=Z []from rfl,c,e]
theorem XM(l:U At)(j:Nat)(h:l.a<=1000):JM [.y (Ai l),‹j›]=Z (.y (aD (l.Y j .Α))):=by
 by_cases a:j<l.a
 .have:As (Ai l) (.r j)=Z (aD<|l.Y j .Α):=by
   show ZI (by simp[Cb a,Eo])
  simp[JM,A3,Ve,-As,-Zn,show Zn [Ai l]=Z (.int l.length) by simp[Ai],this,Ny.mpr a]
 .rw[show l.Y j .Α=.Α by grind];simp[JM,A3,Ve,-As,-Zn,show Zn [Ai l]=Z (.int l.length) by simp[Ai],show ¬ (j:Int)<(l.length:Int) by lia,aD]
theorem SE(l:U At)(n:Nat):Ex (Ai l) (Z ((n:Int)+1)) J=Z (Ai (l.ρ (n+1))):=by
 change Z (D.X<|EQ (l.j aD) (Z<|(n:Int)+1) J)=_
 rw[Vc _ _ ∅,<- List.map_drop,show((n:Int)+1).θ=n+1 by show jN];rfl
theorem Zxp{l:U At}(h:Ln l):VM [.y (Ai l)]=Z (.y (.bl J')):=by
 let l1:=h.l1;let l4:=h.l4;let d:=Zz (b:=Zc 0) (e:=VJ) (ρ:=[.no]) aD (λ_=>D.bl J') l λa c=>#[[.y<|aD a],rfl,by
  have:=iX (aD a) (h.y a c).2;rw[show(E8 (aD a)||BL (aD a))=J' from(h.y a c).1]at this;rwa[VJ,this]]
 rw[show l.j (λ_=>D.bl J')=(l.j λ_=>J').j D.bl by rw[CG];rfl]at d;let c:=Nz l;let q:=ZD (l.j aD) (by simp;lia);let f:Zn [.X<|l.j aD]=Z (.r l.a):=by simp
 let g:C9 (.r l.a) (.r 1)=Z (.bl O'):=by
  change Z (D.bl<|decide<|(l.a:Int)<1)=_
  rw[decide_eq_false ∅]
 let i:E4 (.r l.a) (.r 4)=Z (.bl O'):=by
  change Z (D.bl<|decide<|(4:Int)<(l.a:Int))=_
  rw[decide_eq_false ∅]
 apply ZB rfl ?_;change VL [.y<|.X<|l.j aD]=_
 generalize (l.j λ_=>J').j D.bl=m,l.j aD=A at *;rwa[VL,show CT [.tup A,.ty "tuple"]=Z (.bl J')from rfl,show ZJ (Z<|.bl J')=Z J' from rfl,f,g,i,Zj,q,show ∀j,Zy 1 [] j=[.no]from λ_=>rfl,d,c]
structure Sn(ls:BF)(S:By)(n:Nat):Prop where
 tp:∀p∈S,El p.1=O'
 ln:S.a<=n
 sy:∀(j:Nat) (a:At) (d:D),Zx S (.X [.r j,a])=Z d->∃l∈ls,l[j]?=Z a/\d=Ai (l.ρ (j+1))
section
variable{ls:BF}{p:Nat}(hg:GL ls p)
include hg
theorem jP{l:U At}(u:l∈ls)(s0 f:Sl):∀(r:U At)(j:Nat)(S:By)(n:Nat)(k m g:Sl),l.ρ j=r->Sn ls S n->n+r.a<=10000->∃s v w y,Sn ls s (n+r.a)/\ZO (CD 2 (Zq (Zc 4) (Zq (Zc 5) Cz))) Pj (Gp j (r.j aD)) [s0,.Κ (Zb S) .d,f,.y (Ai l),k,m,g]=.U [s0,.Κ (Zb s) .d,f,.y (Ai l),v,w,y]
 |[],j,S,n,k,m,g,_,h,_=>#[S,k,m,g,h,rfl]
 |a::r,j,S,n,k,m,g,H,h,hz=>by
  rw[Cw]at hz;let R:l[j]?=Z a:=by
   have:=congrArg (λx=>x[0]?) H;exists this
  let hd:l.ρ (j+1)=r:=by rw[<- List.drop_drop,H];rfl
  let z:=SE l j;rw[hd]at z;let o:=LH [.r j,a] h.tp;let F:S.a<Ay:=GO h.ln<|B3 (show n<100000 by lia) (by ext);let L:Dq (.X [.r j,aD a])=Z (.X [.r j,a]):=On<|.X [.r j,a];let ne:Cc (Ai r) (Ai r)=Z (.bl O'):=by rw[iZ];simp
  obtain⟨t,M,C⟩:∃t,Sn ls t (n+1)/\Pj [s0,.Κ (Zb S) .d,f,.y<|Ai l,‹j›,.y<|aD a,g]=.U [s0,.Κ (Zb t) .d,f,.y<|Ai l,‹j›,.y<|aD a,.y<|Ai r]:=by
   cases e:Zx S (.X [.r j,a])with
   |some d=>
    let(N,E,C,rfl):=h.sy j a d e;rw[hg.fn N E l u j a C R,hd]at e;apply#[S,#[h.tp,GQ h.ln,h.sy],?_];generalize Ai l=A,Ai r=B at *;rwa[Pj,DN,DM,z,Oq,Op,Hd,Fh,L,o,F,e,ne,QI]
   |none=>
    apply#[ZZ S (.X [.r j,a])<|Ai r,⟨λq G=>?_,Bv (Uo _ _ _)<|Nat.succ_le_succ h.ln,λi b d p=>?_⟩,?_]
    .rcases Um G with G|rfl
     .show h.tp q G
     .rfl
    .rw[Oo]at p;by_cases c:(KT.X [.r j,a])=.X [.r i,b]
     .rw[if_pos c]at p;simp at c;let(c,rfl):=c;obtain rfl:j=i:=∅
      show#[l,u,R,by rw[hd];show(EH p).τ]
     .rw[if_neg c]at p;show h.sy i b d p
    .generalize Ai l=A,Ai r=B at *;rwa[Pj,DN,DM,z,Oq,Op,Hd,Fh,L,o,F,e,ne,QI]
  let(s,K,Q,T,P,Y):=jP u s0 f r (j+1) t (n+1) ‹j› (.y<|aD a) (.y<|Ai r) hd M ∅;apply⟨s,K,Q,T,?_,?_⟩
  .rw[Cw,Nat.add_comm r.a 1,<- Nat.add_assoc];show P
  .rw[AU,Gp,ZO,show CD 2 (Zq (Zc 4)<|Zq (Zc 5) Cz) (.X [.r j,aD a]) [s0,.Κ (Zb S) .d,f,.y<|Ai l,k,m,g]=Z [s0,.Κ (Zb S) .d,f,.y<|Ai l,‹j›,.y<|aD a,g]from rfl];erw[C];show Y
theorem jQ{W:U D}{l0:U At}(w:As (.O W) (.r 0)=Z (Ai l0))(x:l0.a=p):∀(i pre:BF)(S F:By)(n:Nat)(m b f g:Sl),ls=pre++i->Sn ls S n->n+4*i.a<=1000->(∀q∈F,El q.1=J')->F.a+i.a<=1000->(∀a,(Zx F (.at a)).Ζ=J'->a∈pre.j hd)->∃ρ,ZO (Zc 3) RO (i.j Ai) [#v[W],.Κ (Zb S) .d,.Κ (Zb F) .d,m,b,f,g]=.U ρ
 |[],_,S,F,n,m,b,f,g,_,_,_,_,_,_=>#[_,rfl]
 |l::i,pre,S,F,n,m,b,f,g,s,h,hz,y,X,z=>by
  rw[Cw]at hz X;let B:l∈ls:=by rw[s];simp
  let len:=hg.ϩ l B;let p4:=hg.p4;let p1:=hg.p1;let l1:Zn [Ai l]=Z (.r p):=by simp[Ai,len]
  let K:Zn [Ai l0]=Z (.r p):=by simp[Ai,x]
  let L:Cc (.r p) (.r p)=Z (.bl O'):=by simp
  let M:As (Ai l) (.r 0)=Z (aD<|hd l):=by
   cases l with
   |nil=>simp at len;lia
   |cons a r=>show ZI (j:=0) rfl
  let N:Zx F (.at<|hd l)=J:=by
   cases e:Zx F (.at<|hd l)with
   |none=>rfl
   |some d=>
    let P:=z (hd l) (by rw[e];rfl);let o:=hg.hdn;rw[s,Ek,Iy]at o;show absurd rfl<|o.2.2 _ P _ (by simp)
  let k:=QH (hd l) y;let di:DC O' (aD<|hd l) (.O (Zb F) .d)=Z (.bl O'):=by
   rw[MS,iY];erw[Cp,k,if_true,N];rfl
  let Q:F.a<Ay:=B3 (show F.a<100000 by lia) (by ext);let(C,E,G,H,o,T):=jP hg B #v[W] (.Κ (Zb<|ZZ F (.at<|hd l)<|.bl J') .d) l 0 S n b f g rfl h ∅;let(ρ,R):=jQ w x i (pre++[l]) C (ZZ F (.at<|hd l)<|.bl J') (n+l.length) (.val<|Ai l) E G H (by rw[s];simp) o ∅ (λq t=>by
   rcases Um t with t|rfl
   .show y q t
   .rfl) (by have:=Uo F (.at<|hd l)<|.bl J';lia) λa u=>by
   rw[Oo]at u;by_cases c:(KT.at<|hd l)=.at a
   .cases c;simp
   .rw[if_neg c]at u;rw[Ek];show J0 _<|z a u
  apply#[ρ,?_];let Y:Hk (Ai l)=Z (l.j aD):=rfl;let ok:=iY<|hd l;let e1:RO [#v[W],.Κ (Zb S) .d,.Κ (Zb F) .d,.y<|Ai l,b,f,g]=.U [#v[W],.Κ (Zb C) .d,.Κ (Zb<|ZZ F (.at<|hd l)<|.bl J') .d,.y<|Ai l,E,G,H]:=by
   generalize Ai l=A,aD (hd l)=V,l.j aD=LA at *;rwa[RO,l1,w,K,L,M,di,Ko,Hd,Fh,ok,k,Q,Z8,Ng,Y,T]
  rw[AU,ZO,show Zc 3 (Ai l) [#v[W],.Κ (Zb S) .d,.Κ (Zb F) .d,m,b,f,g]=Z [#v[W],.Κ (Zb S) .d,.Κ (Zb F) .d,.y<|Ai l,b,f,g]from rfl];erw[e1];show R
theorem GL.go:Nq [.y (LD ls)]=Z (.y (.bl J')):=by
 let n1:=hg.n1;let n6:=hg.n6;obtain⟨a,r,rfl⟩:∃a r,ls=a::r:=by
  cases ls with
  |nil=>simp at n1
  |cons l r=>show#[l,r,rfl]
 let c:=Zz (b:=Zc 0) (e:=V8) (ρ:=[.no]) Ai (λ_=>D.bl J') (a::r) λl f=>#[[.y<|Ai l],rfl,by
  have:=Zxp<|hg.ln l f;rwa[V8,this]]
 rw[show(a::r).j (λ_=>D.bl J')=((a::r).j λ_=>J').j D.bl by rw[CG];rfl]at c;let g:=Nz<|a::r;let q:=ZD ((a::r).map Ai) (by rw[Bq];lia);let(d,e):=jQ hg (W:=(a::r).map Ai) (l0:=a) (ZI (j:=0) rfl) (hg.len a Bh) (a::r) [] [] [] 0 .no .no .no .no rfl #[λ_ h=>(nomatch h),AX _,λ_ _ _ h=>by cases h] ∅ (λ_ h=>(nomatch h)) (by rw[Kb];lia) λ_ h=>by cases h
 rw[show Zb []=[]from rfl]at e;change Nq [#v[(a::r).j Ai]]=_
 generalize (a::r).j Ai=W,((a::r).j λ_=>J').j D.bl=k at *;apply ZB rfl ?_;change V9 [#v[W],.no,.no,.no,.no,.no,.no]=_
 rwa[V9,gu,f9,Zj,q,show ∀i,Zy 1 [] i=[.no]from λ_=>rfl,c,g,show ZJ (Z<|.bl J')=Z J' from rfl,gt,gc,Gm,gq,ge,gm,gg,Z8,e,gj,gh]
theorem GL.il:Wd [.y (LD ls)]=Z (.y (.bl J')):=by
 let n1:=hg.n1;let n6:=hg.n6;let b:Zn [LD ls]=Z (.r ls.a):=by simp
 let c:C9 (.r ls.a) (.r 1)=Z (.bl O'):=by
  change Z (D.bl<|decide<|(ls.a:Int)<1)=_
  rw[decide_eq_false ∅]
 let d:E4 (.r ls.a) (.r 40)=Z (.bl O'):=by
  change Z (D.bl<|decide<|(40:Int)<(ls.a:Int))=_
  rw[decide_eq_false ∅]
 let a:=hg.go;let i:=show CT [LD ls,.ty "list"]=Z (.bl J')from rfl
 generalize LD ls=W at *;apply ZB rfl ?_;change Wc [.y W]=_
 rwa[Wc,i,show ZJ (Z<|.bl J')=Z J' from rfl,b,c,d,a]
end
theorem Cq.al{a:AQ}(h:Cq a):Wm [#v[a.j LD]]=Z (.y (.bl J')):=by
 let n1:=h.n1;let n4:=h.n4;let d:=Zz (b:=Zc 0) (e:=Wk) (ρ:=[.no]) LD (λ_=>D.bl J') a λf c=>#[[.y<|LD f],rfl,by
  let(p,g):=h.good f c;rwa[Wk,g.il]]
 rw[show a.j (λ_=>D.bl J')=(a.j λ_=>J').j D.bl by rw[CG];rfl]at d;let i:=Nz a;let q:=ZD (a.j LD) (by rw[Bq];lia);let c:Zn [.O<|a.j LD]=Z (.r a.a):=by simp
 let j:C9 (.r a.a) (.r 1)=Z (.bl O'):=by
  change Z (D.bl<|decide<|(a.a:Int)<1)=_
  rw[decide_eq_false ∅]
 let k:E4 (.r a.a) (.r 4)=Z (.bl O'):=by
  change Z (D.bl<|decide<|(4:Int)<(a.a:Int))=_
  rw[decide_eq_false ∅]
 apply ZB rfl ?_;generalize a.j LD=W,(a.j λ_=>J').j D.bl=n at *;change Wl [#v[W]]=_
 rwa[Wl,show CT [.lst W,.ty "list"]=Z (.bl J')from rfl,show ZJ (Z<|.bl J')=Z J' from rfl,c,j,k,Zj,q,show ∀l,Zy 1 [] l=[.no]from λ_=>rfl,d,i]
abbrev Br:=U At×Int×U Int
def Zm(acc:U Br):BF:=acc.j (·.1)
def Z1:U Br->U At->O (Int×U Int)
 |[],_=>J
 |e::r,k=>if e.1=k then Z e.2 else Z1 r k
def C7:U Br->U At->Int->U Br
 |[],k,x=>[(k,x,[])]
 |e::r,k,x=>if e.1=k then(e.1,e.2.1,e.2.2++[x])::r else e::C7 r k x
def Zw(v:Int×U Int->D)(e:Br):KT×D:=(.X e.1,v e.2)
theorem Cj{k:U At}:∀{acc:U Br},Z1 acc k=J↔k∉Zm acc
 |[]=>by simp[Z1,Zm]
 |e::r=>by
  let a:=Cj (k:=k) (acc:=r);grind [Z1,Zm]
theorem KV(v:Int×U Int->D)(k:U At):∀acc:U Br,Zx (acc.j (Zw v)) (.X k)=(Z1 acc k).j v
 |[]=>rfl
 |e::r=>by
  let a:=KV v k r;erw[AU,Zx,Z1,Zw,KT.tup.injEq];grind
theorem jR{k:KT}{w:D}:∀{kvs:By},Zx kvs k=J->F1 kvs k w=kvs
 |[],_=>rfl
 |p::r,h=>by
  unfold Zx at h;by_cases e:p.1=k
  .rw[if_pos e]at h;cases h
  .rw[if_neg e]at h;unfold F1;rw[if_neg e,jR h]
theorem jS(v:Int×U Int->D){k:U At}{x:Int}{p:Int×U Int}:∀{acc:U Br},(Zm acc).η->Z1 acc k=Z p->F1 (acc.j (Zw v)) (.X k) (v (p.1,p.2++[x]))=(C7 acc k x).j (Zw v)
 |e::r,a,h=>by
  erw[Zm,AU,Eu]at a;unfold Z1 at h;by_cases c:e.1=k
  .rw[if_pos c]at h;cases h;let b:Zx (r.j<|Zw v) (.X k)=J:=by
    rw[KV,Cj.ϡ<|c ▸ a.1];rfl
   rwa[F1,C7,Zw,c,jR b,KT.tup.injEq]
  .rw[if_neg c]at h;erw[AU,F1,C7,Zw,c,if_false,KT.tup.injEq];rw[jS v (x:=x) a.2 h]
theorem jU{k:U At}{x:Int}:∀{acc:U Br},Z1 acc k=J->C7 acc k x=acc++[(k,x,[])]
 |[],_=>rfl
 |e::r,h=>by
  unfold Z1 at h;by_cases c:e.1=k
  .rw[if_pos c]at h;cases h
  .rw[if_neg c]at h;unfold C7;rw[if_neg c,jU h];rfl
theorem ZzS(v:Int×U Int->D){k:U At}{x:Int}{p:Int×U Int}{acc:U Br}(a:(Zm acc).η)(h:Z1 acc k=Z p):ZZ (acc.j (Zw v)) (.X k) (v (p.1,p.2++[x]))=(C7 acc k x).j (Zw v):=by
 unfold ZZ;rw[KV,h];show jS v a h
theorem ZzW(v:Int×U Int->D){k:U At}{x:Int}{acc:U Br}(h:Z1 acc k=J):ZZ (acc.j (Zw v)) (.X k) (v (x,[]))=(C7 acc k x).j (Zw v):=by
 unfold ZZ;rw[KV,h,jU h];simp[Zw]
theorem XN(k:U At)(x:Int):∀acc:U Br,Zm (C7 acc k x)=if k∈Zm acc then Zm acc else Zm acc++[k]
 |[]=>rfl
 |e::r=>by
  let a:=XN k x r;grind [C7,Zm]
open J in
theorem ZuI{k:U At}{x:Int}{acc:U Br}(h:(Zm acc).η):(Zm (C7 acc k x)).η:=by
 rw[XN];split
 .show h
 .next m=>show Iy.ϡ #[h,by simp,λa d b c=>by simp at c;subst c;show λe=>m<|e ▸ d]
theorem jV(k:U At)(x:Int):∀acc:U Br,(C7 acc k x).a<=acc.a+1
 |[]=>by simp[C7]
 |e::r=>by
  have:=jV k x r;unfold C7;split<;>simp<;>lia
theorem jW{k k':U At}{x:Int}{acc:U Br}(h:k'∈Zm (C7 acc k x)):k'=k\/k'∈Zm acc:=by grind [XN]
def KW:U Br->Nat
 |[]=>0
 |e::r=>e.2.2.a+1+KW r
theorem jX(k:U At)(x:Int):∀acc:U Br,KW (C7 acc k x)=KW acc+1
 |[]=>rfl
 |e::r=>by
  have:=jX k x r;unfold C7;split<;>simp[KW]<;>lia
theorem SF(v:Int×U Int->D)(k:U At)(acc:U Br):DZ (.X k) (acc.j (Zw v))=J':=LH k λp a=>by
 let(e,_,rfl):=Bm.mp a;rfl
theorem Gx(l:U At):Dq (Ai l)=Z (.X l):=On<|.X l
abbrev vL(p:Int×U Int):D:=.O ((p.1::p.2).j D.r)
abbrev vC(p:Int×U Int):D:=cel p.1 p.2
abbrev Ig(v:Int×U Int->D)(acc:U Br):Sl:=.Κ (Zb (acc.j (Zw v))) .d
def Zd(r:U At×Int):D:=.X [Ai r.1,.r r.2]
def Dz(a:U (U At×Int))(acc:U Br):U Br:=a.Χ (λacc r=>C7 acc r.1 r.2) acc
structure Bd(acc:List Br)(n m:Nat):Prop where
 nd:(Zm acc).η
 len:acc.a<=m
 sz:KW acc<=m
 kl:∀k∈Zm acc,k.a=n
theorem Bd.add{acc:U Br}{n m:Nat}(h:Bd acc n m){k:U At}(b:k.a=n)(x:Int):Bd (C7 acc k x) n (m+1):=#[ZuI h.nd,by have:=jV k x acc;have:=h.ϩ;lia,by rw[jX];have:=h.sz;show Nat.add_le_add_right this 1,λd a=>by
  rcases jW a with rfl|c
  .show b
  .show h.kl _ c]
theorem Bd.nil(n:Nat):Bd [] n 0:=#[by simp[Zm],by simp,by simp[KW],λk a=>nomatch a]
theorem Bd.tab:∀(a:U (U At×Int)){acc:U Br}{n m:Nat},Bd acc n m->(∀r∈a,r.1.a=n)->Bd (Dz a acc) n (m+a.a)
 |[],_,_,_,h,_=>h
 |r::a,acc,n,m,h,b=>by
  have:=Bd.tab a (h.add (b r Bh) r.2) λq c=>b q<|Bl _ c;rw[Cw,show m+(a.a+1)=m+1+a.a by show Eq.τ (Nat.succ_add_eq_add_succ m a.a)];show this
def DG(acc:U Br):U D:=(Zr Bb (Zm acc)).j λk=>.X [Ai k,vC ((Z1 acc k).Y (0,[]))]
theorem SG{acc:U Br}{k:U At}(h:k∈Zr Bb (Zm acc)):∃p,Z1 acc k=Z p:=by
 cases a:Z1 acc k with
 |some p=>show#[p,rfl]
 |none=>show absurd ((ZE Bb<|Zm acc).Ϣ.mp h)<|Cj.mp a
theorem jY(v:Int×U Int->D)(acc:U Br):((acc.j (Zw v)).j λp=>kD p.1)=(Zm acc).j Ai:=by
 unfold Zm;rw[CG,CG];rfl
theorem SH(v:Int×U Int->D){acc:U Br}{k:U At}{p:Int×U Int}(h:Z1 acc k=Z p):D0 (.O (Zb (acc.j (Zw v))) .d) (Ai k)=Z (v p):=by simp_all [Gx,SF,KV]
abbrev LG:=U (U (U At)×Nat)
def FL(q:U (U At)×Nat)(a:At):At:=((q.1.find? λl=>decide (hd l=a)).Y []).Y q.2 .Α
def ZX:LG->U At->U At
 |q::Q,a::s=>FL q a::ZX Q s
 |_,_=>[]
def JV(q:U (U At)×Nat):U (At×D):=q.1.j λl=>(hd l,aD (l.Y q.2 .Α))
def DH(q:U (U At)×Nat):D:=.O (Zb (FK [] (JV q))) .d
abbrev AA(g:U Nat):D:=.X (g.j λ(j:Nat)=>D.r j)
inductive AO:List (BF)->List At->Prop where
 |nil:AO [] []
 |cons {ls Ls a as}:a∈ls.j hd->AO Ls as->AO (ls::Ls) (a::as)
theorem AO.len{a:AQ}{s:U At}(h:AO a s):s.a=a.a:=by
 induction h with
 |nil=>rfl
 |cons _ _ b=>simp[b]
theorem Mh:∀{Q:LG}{s:U At},s.a=Q.a->(ZX Q s).a=Q.a
 |[],_,h=>by cases(Oa.mp h);rfl
 |q::Q,a::s,h=>by erw[ZX,Cw];rw[Mh (by exists h)]
 |_::_,[],h=>by simp at h
theorem ZEi(q:U (U At)×Nat)(h:∀l∈q.1,Ln l)(i:q.1.a<=1000):Rr [.y (LD q.1),‹0›,‹q.2›]=Z (.Κ (Zb (FK [] (JV q))) .d):=by
 let(a,j):=q;let k:=Zz (b:=Zc 0) (e:=Vw) (ρ:=[.no,‹0›,‹j›]) Ai (λl=>D.X [aD<|hd l,aD<|l.getD j .non]) a λl g=>#[[.y<|Ai l,‹0›,‹j›],rfl,by
  let c:=XM l j (by have:=(h l g).l4;lia);rwa[Vw,show JM [.val<|Ai l,‹0›]=Z (.val<|aD<|hd l)from(show l.getD 0 .non=hd l by cases l<;>rfl) ▸ XM l 0 (by have:=(h l g).l4;lia),c,Dk,Zh,G5,if_pos (show(2:Nat)<=Ay by ext)]]
 let f:=jD (JV (a,j)) [] (λ_ h=>nomatch h) (by simp[JV];lia);unfold JV at f;rw[CG]at f;unfold JV;rwa[Rr,A3,G5,fF,Mf,Mg,Eh,Jx,Zj,Zh,if_pos (show(a.map Ai).length<=Ay by rw[Bq];show Bv i (by ext)),Zy,Nw,GF,EV,Ki,k,show HX [] (a.map λl=>D.tup [aD<|hd l,aD<|l.getD j .non])=Z (FK []<|a.map λl=>(hd l,aD<|l.getD j .non))from f,Kf]
theorem ZD7(n k:Nat)(a:k<n)(L:AQ)(b:L.a=n):atI (L.j λ_=>D.r 0) (k:Int)=Z (.r 0):=ZI (by rw[CM,Cb<|J3 a b.τ];rfl)
theorem jZ(L:AQ)(g:U Nat):∀(Q:LG)(k:Nat),(∀q∈Q,∃p,GL q.1 p)->k+Q.a<=L.a->(∀i q,Q[i]?=Z q->g[k+i]?=Z q.2)->DW (CD 2 (Zq (Zc 0) (Zq (Zc 1) Cz))) (λ_=>Z J') RC [.no,.no,.y (KU L),.y (AA g)] (Gp k (Q.j λq=>LD q.1))=Z (Q.j DH)
 |[],k,_,_,_=>rfl
 |q::Q,k,h,c,d=>by
  erw[Cw]at c;let n:=jZ L g Q (k+1) (λl b=>h l<|Bl _ b) ∅ λi f e=>by
   have:=d (i+1) f (by exists e);grind
  let(p,a):=h q Bh;let b:=ZEi q a.ln (by have:=a.n6;lia);let m:atI (g.j λ(j:Nat)=>D.r j) (k:Int)=Z (.r q.2):=ZI (by rw[CM,show g[k]?=Z q.2 from d 0 q rfl];rfl);let o:RC [‹k›,.y<|LD q.1,.y<|KU L,.y<|AA g]=Z (DH q):=by
   rwa[RC,As,ZD7 L.length k (GI c) L rfl,m,b,Dk,DH]
  rw[AU,Gp,DW];simp_all
abbrev qs(L:AQ)(g:U Nat):LG:=L.zip g
theorem j0{L:AQ}{g:U Nat}(h:g.a=L.a):(qs L g).j (·.1)=L:=List.map_fst_zip<|Nat.le_of_eq h.τ
theorem ZFr{L:AQ}{g:U Nat}(h:g.a=L.a):(qs L g).j (λq=>LD q.1)=L.j LD:=by
 have:(qs L g).j (λq=>LD q.1)=((qs L g).j (·.1)).j LD:=by rw[CG];rfl
 rw[this,j0 h]
theorem j3{L:AQ}{g:U Nat}{q:U (U At)×Nat}(h:q∈qs L g):q.1∈L:=(NP h).1
theorem Zzy{L:AQ}(h:Cq L){g:U Nat}(a:g.a=L.a):RD [#v[L.j LD],.y (KU L),.y (AA g)]=Z (.Κ ((qs L g).j DH)):=by
 let hd:=jZ L g (qs L g) 0 (λq b=>h.good q.1<|j3 b) (by simp;lia) λi q e=>by
  rw[IK];have:=List.getElem?_zip_eq_some.mp e;show this.2
 rw[ZFr a]at hd;let c:=h.n4;let hz:(Gp 0<|L.j LD).a<=Ay:=by rw[Ud,Bq];show Bv c (by ext)
 let d:Hk (.O<|L.j LD)=Z (L.j LD):=rfl;erw[RD,A3,Cw,Kb,G5,if_true,fZ,Mf,Mg,Eh,Zj,Ng,BV,Ej,EU,Cp,d,Zh,if_pos hz,Zy,Nw,AU,Dj,GF,EV,Ki,hd,Cy,Ze]
theorem ZEg{q:U (U At)×Nat}(h:(q.1.j hd).η):((JV q).j (·.1)).η:=by
 unfold JV;rw[CG];show h
theorem ZEY{q:U (U At)×Nat}{a:At}(h:a∈q.1.j hd):DC O' (aD a) (DH q)=Z (.bl J'):=by grind [DH,ZA9,JV]
theorem j4:∀{a:BF}{l:U At},(a.j hd).η->l∈a->a.find? (λx=>decide (hd x=hd l))=Z l
 |x::a,l,c,b=>by
  erw[AU,Eu]at c;rcases Bx.mp b with rfl|b
  .rw[List.find?_cons_of_pos (by simp)]
  .rw[List.find?_cons_of_neg (by
    erw[decide_eq_true_eq];intro z;show c.1<|z ▸ FG b)]
   show j4 c.2 b
theorem XO{q:U (U At)×Nat}(a:(q.1.j hd).η){l:U At}(h:l∈q.1):FL q (hd l)=l.Y q.2 .Α:=by simp_all [FL,j4]
theorem ZCo{q:U (U At)×Nat}(b:(q.1.j hd).η){a:At}(h:a∈q.1.j hd):D0 (DH q) (aD a)=Z (aD (FL q a)):=by
 let(l,c,rfl):=Bm.mp h;rw[XO b c];show ZxM (ZEg b)<|Bm.ϡ ⟨l,c,rfl⟩
theorem j5:∀{Q:LG}{s:U At},AO (Q.j (·.1)) s->DW (CD 2 (Zq (Zc 0) (Zq (Zc 1) Cz))) (λ_=>Z J') Rf [.no,.no] (Hl (λx y=>D.X [x,y]) (Q.j DH) (s.j aD))=Z ((Q.j λ_=>J').j D.bl)
 |[],_,h=>by cases h;rfl
 |q::Q,_,h=>by
  cases h with
  |@cons _ _ a e b c=>
  let d:Rf [.y<|DH q,.y<|aD a]=Z (.bl J'):=by
   have:=ZEY b;rwa[Rf,this]
  rwa[SJ,DW,CD,Zq,Cz,d,j5 c]
theorem j6:∀{Q:LG}{s:U At},(∀q∈Q,(q.1.j hd).η)->AO (Q.j (·.1)) s->DW (CD 2 (Zq (Zc 0) (Zq (Zc 1) Cz))) (λ_=>Z J') Pm [.no,.no] (Hl (λx y=>D.X [x,y]) (Q.j DH) (s.j aD))=Z ((ZX Q s).j aD)
 |[],_,_,h=>by cases h;rfl
 |q::Q,_,b,h=>by
  cases h with
  |@cons _ _ a g c d=>
  let e:Pm [.y<|DH q,.y<|aD a]=Z (aD<|FL q a):=by
   have:=ZCo (b q Bh) c;rwa[Pm,this]
  rwa[SJ,DW,CD,Zq,Cz,e,j6 (λq f=>b q<|Bl _ f) d,ZX]
theorem Zob{Q:LG}{s:U At}(a:AO (Q.j (·.1)) s)(hz:Q.a<=4):Rg [#v[Q.j DH],.y (Ai s)]=Z (.y (.bl J')):=by
 let b:=j5 a;let c:=Nz Q;let d:=ZD (Hl (λx y=>D.X [x,y]) (Q.j DH) (s.j aD)) (by simp;lia);apply ZB rfl ?_;unfold Ai;generalize (Q.j λ_=>J').j D.bl=B,s.j aD=S,Q.j DH=L at *;change Vf [#v[L],.y<|.X S]=_
 rwa[Vf,Zj,FE,Hk,show Zy 2 [] [#v[L],.val<|.tup S]=[.no,.no]from rfl,d,b,c]
def KY(r:U At×Int):D:=.X [Ai r.1,cel r.2 []]
theorem Zti{Q:LG}{s:U At}(h:∀q∈Q,(q.1.j hd).η)(u:AO (Q.j (·.1)) s)(hz:Q.a<=4)(b j:Sl)(x:Int){acc:U Br}{n m:Nat}(A:Bd acc n m)(B:m<1000):Pn [#v[Q.j DH],b,Ig vC acc,.y (Ai s),.y (cel x []),j]=.U [#v[Q.j DH],b,Ig vC (C7 acc (ZX Q s) x),.y (Ai s),.y (cel x []),.y (Ai (ZX Q s))]:=by
 let l:=Zob u hz;let F:=j6 h u;let M:=ZD (Hl (λx y=>D.X [x,y]) (Q.j DH) (s.j aD)) (by simp;lia);let C:∀x y z w,Zi E5 (λa=>Zk (DV<|ZA<|(Zj 2 [] (FE (λa=>BV a 0) (λa=>BV a 3)) (CD 2<|Zq (Zc 0)<|Zq (Zc 1) Cz) (λ_=>Z J') Pm) a) (Z [])) [#v[Q.j DH],x,y,.y<|Ai s,z,w]=Z (Ai<|ZX Q s):=by
  simp_all [Ai,DH,Cp,Dy]
 generalize Q.j DH=L,ZX Q s=k at *;let e:=SF vC k acc;let f:(acc.j<|Zw vC).a<Ay:=by rw[Bq];show GO A.ϩ<|B3 B (by ext)
 let o:=Fh<|acc.j<|Zw vC;let g:DC O' (Ai k) (.O (Zb<|acc.j<|Zw vC) .d)=Z (.bl (Z1 acc k).Ζ):=by
  rw[MS,Gx k];show(if DZ (.X k) (acc.j<|Zw vC)=J' then _ else _)=_
  rw[if_pos e,KV vC k acc,Option.isSome_map];cases(Z1 acc k).Ζ<;>rfl
 let c:∀d,Lm (Z (Z1 acc k).Ζ) ((Zf O8<|λa=>Zk (DV<|(Za D0 (λa=>A9 a 2) (λa=>A9 a 5)) a) (Zk (C0 a 4)<|some [])) [#v[L],b,Ig vC acc,.y<|Ai s,.y<|cel x [],.y<|Ai k]) (Z<|cel x [])=Z d->ZZ (acc.j<|Zw vC) (.X k) d=(C7 acc k x).j (Zw vC)->Pn [#v[L],b,Ig vC acc,.y<|Ai s,.y<|cel x [],j]=.U [#v[L],b,Ig vC<|C7 acc k x,.y<|Ai s,.y<|cel x [],.y<|Ai k]:=by
  intro d E G;unfold Ig at *;let r:=C b (.Κ (Zb<|acc.map<|Zw vC) .d) (.val<|cel x []) j;generalize acc.map (Zw vC)=t at *;unfold Pn;let H:ZJ ((Zf Rg<|λa=>Zk (C0 a 0)<|Zk (C0 a 3)<|some []) [#v[L],b,.Κ (Zb t) .d,.y<|Ai s,.y<|cel x [],j])=Z J':=by
   rwa[l,ZJ]
  erw[H,ZH,Ze,r,C1,Gv,F5];let K:Za (DC O') (λa=>A9 a 5) (λa=>A9 a 2) [#v[L],b,.Κ (Zb t) .d,.y<|Ai s,.y<|cel x [],.y<|Ai k]=Z (.bl (Z1 acc k).Ζ):=by
   rwa[g]
  rw[K,show Bf [#v[L],b,.Κ (Zb t) .d,.y<|Ai s,.y<|cel x [],.y<|Ai k] 4=Z (cel x [])from rfl];erw[AI];rw[E];rwa[Ko,Hd,o,Gx k,e,G,Bool.true_and,decide_eq_true f]
 cases i:Z1 acc k with
 |none=>
  rw[i]at c;show c (vC (x,[])) rfl<|ZzW vC i
 |some p=>
  rw[i]at c;apply c (vC (p.1,p.2++[x])) ?_<|ZzS vC A.nd i;unfold Ig;rwa[Lm,Option.isSome,SH vC i,Zwo p.1 x p.2 []]
def Dh(Q:LG)(a:U (U At×Int)):U (U At×Int):=a.j λr=>(ZX Q r.1,r.2)
theorem j7{Q:LG}(h:∀q∈Q,(q.1.j hd).η)(hz:Q.a<=4)(f:Sl):∀(d:U (U At×Int))(acc:U Br)(m:Nat)(g i e:Sl),(∀r∈d,AO (Q.j (·.1)) r.1)->Bd acc Q.a m->m+d.a<1000->∃j k l,ZO (CD 2 (Zq (Zc 3) (Zq (Zc 4) Cz))) Pn (d.j KY) [#v[Q.j DH],f,Ig vC acc,g,i,e]=.U [#v[Q.j DH],f,Ig vC (Dz (Dh Q d) acc),j,k,l]
 |[],acc,m,g,i,e,_,n,_=>#[g,i,e,rfl]
 |r::d,acc,m,g,i,e,o,n,p=>by
  erw[Cw]at p;let(a,b,c,s):=j7 h hz f d (C7 acc (ZX Q r.1) r.2) (m+1) (.y<|Ai r.1) (.val<|cel r.2 []) (.val<|Ai<|ZX Q r.1) (λq t=>o q<|Bl _ t) (n.add (Mh (by simpa using(o r Bh).ϩ)) r.2) ∅;apply⟨a,b,c,?_⟩;rwa[KY,ZO,CD,Zq,Cz];rw[Zti h (o r Bh) hz f e r.2 n<|GI p];show s
theorem ZlV{Q:LG}(h:∀q∈Q,(q.1.j hd).η)(E:0<Q.a)(hz:Q.a<=4)(f:U (U At×Int))(m:∀r∈f,AO (Q.j (·.1)) r.1)(n:f.a<500):Wt [#v[Q.j DH],#v[f.j KY]]=Z (.Κ (DG (Dz (Dh Q f) []))):=by
 let ok:=Bd.tab (Dh Q f) (Bd.ϔ Q.a) λr h=>by
  let(u,w,rfl):=Bm.mp h;show Mh (by simpa using(m u w).ϩ)
 let la:(Dh Q f).a=f.a:=Bq _;let(a,b,c,e):=j7 h hz #v[f.j KY] f [] 0 .no .no .no m (Bd.ϔ _) ∅;generalize Dz (Dh Q f) []=g at *;let j:(Zm g).a<500:=by unfold Zm;rw[Bq];have:=ok.ϩ;lia
 let o:=XJ #v[(Zm g).j Ai] (Zm g) (.Q rfl) j λl n=>by
  have:=ok.kl l n;show#[λz=>by rw[z]at this;simp at this;lia,∅]
 rw[XB _ _ ((ZE Bb _).nodup_iff.ϡ ok.nd) (λ_ e=>by cases e),<- jY vC]at o;let A:=Zz (b:=Zc 0) (e:=Wr) (ρ:=[.no,.gV (Zb<|g.map<|Zw vC) .d]) Ai (λk=>.X [Ai k,vC<|(Z1 g k).getD (0,[])]) (Zr Bb<|Zm g) λk B=>#[[.y<|Ai k,.gV (Zb<|g.j<|Zw vC) .d],rfl,by
  let(p,s):=SG B;rw[s];rwa[Wr,SH vC s,Option.getD]]
 let C:=ZD ((Zr Bb<|Zm g).map Ai) (by rw[Bq,(ZE _ _).length_eq];lia);let i:=cZ<|g.map<|Zw vC;rw[show Ig vC []=.own [] .d from rfl]at e;unfold Ig at e;unfold DG;apply ZB rfl ?_;generalize Q.map DH=L,f.map KY=R,g.map (Zw vC)=t,(Zr Bb<|Zm g).map Ai=W,(Zr Bb<|Zm g).map (λk=>D.X [Ai k,vC<|(Z1 g k).Y (0,[])])=T at *;change Ws [#v[L],#v[R],.no,.no,.no,.no]=_
 rwa[Ws,Gm,Z8,Cy,Zj,show ∀x y z,Zy 1 [2] [#v[L],#v[R],.own (Zb t) .d,x,y,z]=[.no,.lent (Zb t) .d]from λ_ _ _=>rfl,Ff,e,i,o,Ia,C,A]
theorem Cq.hdn{L:AQ}(h:Cq L):∀a∈L,(a.j hd).η:=λa b=>by let(p,c):=h.good a b;show c.hdn
abbrev ZQ(L:AQ)(g:U Nat)(a:U (U At×Int)):U D:=DG (Dz (Dh (qs L g) a) [])
theorem j8{c:AQ}(h:Cq c){g:U Nat}(d:g.a=c.a)(a:U (U At×Int))(f:∀r∈a,AO c r.1)(i:a.a<500):RU [#v[c.j LD],#v[a.j Zd],.y (AA g)]=Z (.Κ (ZQ c g a)):=by
 let n1:=h.n1;let n4:=h.n4;let j:=ZlV (Q:=qs c g) (λq k=>h.hdn q.1<|j3 k) (by simp;lia) (by simp;lia) a (by rw[j0 d];show f) i;let l:=Xy h;let m:=Zzy h d;let n:=Zz (b:=CD 2<|Zq (Zc 0)<|Zq (Zc 1) Cz) (e:=WP) (ρ:=[.no,.no]) Zd KY a λr _=>#[[.y<|Ai r.1,‹r.2›],rfl,by
  rwa[WP,Zt5 #v[[.int r.2]] r.2 []<|.inl rfl,KY]]
 let o:=ZD (a.j Zd) (by rw[Bq];lia);unfold ZQ;generalize c.j LD=L,KU c=p,AA g=Y,(qs c g).j DH=W,a.j KY=C,a.j Zd=R,DG (Dz (Dh (qs c g) a) [])=T at *;apply ZB rfl ?_;change WQ [#v[L],#v[R],.y Y,.no]=_
 rwa[WQ,Cy,Zj,show Zy 2 [] [#v[L],#v[R],.val Y,.no]=[.no,.no]from rfl,FY,o,n,l,m,Ia,j,FW]
theorem SK{a:Type}[DecidableEq a]:∀(l A:U a),l.η->(∀x∈l,x∈A)->l.a<=A.a
 |[],_,_,_=>E3 _
 |x::l,A,h,c=>by
  let(d,f):=Eu.mp h;let g:=SK l (A.erase x) f λy b=>(List.mem_erase_of_ne (show y≠x from λe=>d<|e ▸ b)).ϡ (c y<|Bl _ b);grind
theorem Pz{c:Type}{b:D->VE->O VE}{t:VE->O Bool}{e:AG}{ρ:VE}(G F:c->D)(p:c->Bool):∀xs:U c,(∀x∈xs,∃a,b (G x) ρ=Z a/\t a=Z (p x)/\e a=Z (F x))->DW b t e ρ (xs.j G)=Z ((xs.ϯ p).j F)
 |[],_=>rfl
 |x::xs,h=>by
  let(a,g,i,j):=h x Bh;let d:=Pz G F p xs λy k=>h y<|Bl _ k;erw[AU,DW,g,i];cases f:p x with
  |true=>rwa[j,d,List.filter_cons,f]
  |false=>erw[d,List.filter_cons,f,FU,if_false]
abbrev KE:=U At×D
def Hs(e:KE):D:=.X [Ai e.1,e.2]
def Cd(es:U KE):By:=es.j λe=>(.X e.1,e.2)
theorem SM(es:U KE):∀p∈Cd es,El p.1=O':=λp a=>by
 let(e,_,rfl):=Bm.mp a;rfl
theorem SN:∀(es:U KE)(k:U At),(Zx (Cd es) (.X k)).Ζ=decide (k∈es.j (·.1))
 |[],k=>rfl
 |e::r,k=>by
  let a:=SN r k;erw[Cd,AU,Zx,KT.tup.injEq]at a ⊢;by_cases h:e.1=k
  .simp[h]
  .let b:¬ k=e.1:=λz=>h z.τ;rw[if_neg h,a];simp[b]
theorem j9{es:U KE}(h:∀e∈es,A5 12 e.2=J'){k:U At}{d:D}(e:Zx (Cd es) (.X k)=Z d):A5 12 d=J':=by
 induction es with|nil=>cases e|cons x r a=>
  erw[Cd,AU,Zx,KT.tup.injEq]at e;by_cases c:x.1=k
  .grind [Bh]
  .rw[if_neg c]at e;show a (λy b=>h y<|Bl _ b) e
theorem SO:∀(es a:U KE),((a++es).j (·.1)).η->a.a+es.a<=100000->HX (Cd a) (es.j Hs)=Z (Cd (a++es))
 |[],a,_,_=>by rw[Eh];rfl
 |e::r,a,b,hz=>by
  erw[Cw]at hz;let c:(Cd a).a<Ay:=by
   unfold Cd;rw[Bq];show B3 (show a.a<100000 by show GI hz) (by ext)
  let g:Zx (Cd a) (.X e.1)=J:=by
   have:=SN a e.1;let d:e.1∉a.j (·.1):=λd=>by
    grind
   simp_all
  let f:ZZ (Cd a) (.X e.1) e.2=Cd (a++[e]):=by
   unfold ZZ;grind [Cd]
  let h:=SO r (a++[e]) (by rw[Dr];show b) (by simp;lia);rwa[Hs,HX,Gx e.1,LH e.1<|SM a,c,f];simp_all
theorem ka(es:U KE):((Cd es).j λp=>kD p.1)=(es.j (·.1)).j Ai:=by
 unfold Cd;rw[CG,CG];rfl
def KZ(a b:U KE):BF:=Zr Bb ((a.j (·.1)).ϯ (λk=>!Be ((Zx (Cd b) (.X k)).Y .Α) ((Zx (Cd a) (.X k)).Y .Α))++(b.j (·.1)).ϯ λk=>!decide (k∈a.j (·.1)))
theorem ZFo(c f:U KE)(n1:(c.j (·.1)).η)(n2:(f.j (·.1)).η)(K:∀e∈c,A5 12 e.2=J')(Q:∀e∈f,A5 12 e.2=J')(A:BF)(a1:∀e∈c,e.1∈A)(L:∀e∈f,e.1∈A)(M:A.a<500)(g:∀k∈A,k≠[]/\k.a<=1000):RS [#v[c.j Hs],#v[f.j Hs]]=Z (.Κ ((KZ c f).j Ai))/\(KZ c f).a<500:=by
 let b1:=SK _ A n1 λk g=>by let(e,n,rfl):=Bm.mp g;show a1 e n
 let T:=SK _ A n2 λk g=>by let(e,n,rfl):=Bm.mp g;show L e n
 rw[Bq]at b1 T;let y:=SO c [] (by exists n1) (by simp;lia);let z:=SO f [] (by exists n2) (by simp;lia);rw[EV]at y z;unfold KZ;generalize P:(λk:U At=>!Be ((Zx (Cd f)<|.tup k).getD .non) ((Zx (Cd c)<|.tup k).getD .non))=p,q:(λk:U At=>!decide (k∈c.j (·.1)))=r;let c1:=Pz (b:=Zc 0) (t:=Wu) (e:=gG) (ρ:=[.no,.gV (Zb<|Cd f) .d,.val<|.lst (Zb<|Cd c) .d]) Ai Ai p (c.map (·.1)) λk g=>#[[.y<|Ai k,.gV (Zb<|Cd f) .d,.y<|.O (Zb<|Cd c) .d],rfl,by
  let s:DZ (.X k) (Cd f)=J':=LH k<|SM f;let(d,hd):=Option.isSome_iff_exists.mp (show(Zx (Cd c)<|.tup k).isSome=J' by rw[SN c,decide_eq_true g]);let B:=(λk d=>j9 K (k:=k) (d:=d)) k d hd;let C:A5 12 ((Zx (Cd f)<|.X k).Y .Α)=J':=by
   cases hh:Zx (Cd f) (.X k)with
   |none=>rfl
   |some x=>show(λk d=>j9 Q (k:=k) (d:=d)) k x hh
  let E:OQ (.O (Zb<|Cd f) .d) (Ai k)=Z ((Zx (Cd f)<|.X k).Y .Α):=by
   erw[OQ,Fh,Gx k,s,if_true]
  let e2:D0 (.O (Zb<|Cd c) .d) (Ai k)=Z d:=by
   rw[bV,Gx k];rwa[LH k<|SM c,hd]
  rw[show p k=!Be ((Zx (Cd f)<|.X k).Y .Α) d by rw[<- P];dsimp only;rw[hd];rfl];apply⟨?_,rfl⟩;rwa[Wu,E,e2,Cc,FH,B,C]]
 let c2:=Pz (b:=Zc 0) (t:=Wv) (e:=gH) (ρ:=[.no,.y<|.lst (Zb<|Cd c) .d]) Ai Ai r (f.map (·.1)) λk g=>#[[.y<|Ai k,.y<|.O (Zb<|Cd c) .d],rfl,by
  apply#[?_,rfl];let E:DC J' (Ai k) (.O (Zb<|Cd c) .d)=Z (.bl<|r k):=by
   rw[MS,Gx k];rwa[LH k<|SM c,SN c];rw[Bool.true_bne,<- q]
  rwa[Wv,E]]
 let i:((c.j (·.1)).ϯ p++(f.j (·.1)).ϯ r).η:=Iy.ϡ #[n1.sublist List.filter_sublist,n2.sublist List.filter_sublist,λa G b hb e=>by
  subst e;let s:=(K4.mp hb).2;rw[<- q]at s;erw[decide_eq_true<|(K4.mp G).1]at s;cases s]
 let j:∀k∈(c.j (·.1)).ϯ p++(f.j (·.1)).ϯ r,k∈A:=λk g=>by
  rcases Cn.mp g with h|h
  .show(show ∀k∈c.j (·.1),k∈A from λk g=>by let(e,n,rfl):=Bm.mp g;show a1 e n) k (K4.mp h).1
  .show(show ∀k∈f.j (·.1),k∈A from λk g=>by let(e,n,rfl):=Bm.mp g;show L e n) k (K4.mp h).1
 let m:=SK _ A i j;let l1:((c.j (·.1)).ϯ p).a<=c.a:=Bv (List.length_filter_le _ _) (by rw[Bq];show AX _);let l2:((f.j (·.1)).ϯ r).a<=f.a:=Bv (List.length_filter_le _ _) (by rw[Bq];show AX _);generalize (f.j (·.1)).ϯ r=u,(c.j (·.1)).ϯ p=o at *;let N:=XJ #v[(o++u).j Ai] (o++u) (.Q rfl) (GO m M) λl hl=>g l<|j l hl;rw[XB _ _ ((ZE Bb _).nodup_iff.mpr i) λ_ h=>by cases h]at N;apply#[?_,by rw[(ZE Bb _).ό];show GO m M];generalize Zr Bb (o++u)=R at *;let G:Zs (.O<|o.j Ai) (.O<|u.j Ai)=Z (.O<|(o++u).j Ai):=by
  rw[yg _ _ (by simp;lia),Ek]
 let s1:=ZD ((c.j (·.1)).j Ai) (by simp;lia);let s2:=ZD ((f.j (·.1)).j Ai) (by simp;lia);let B:EB (.O (Zb<|Cd c) .d)=Z ((c.j (·.1)).j Ai):=by erw[EB,Fh,Dy,ka c]
 let C:EB (.O (Zb<|Cd f) .d)=Z ((f.j (·.1)).j Ai):=by erw[EB,Fh,Dy,ka f]
 rw[show Cd []=[]from rfl]at y z;generalize f.j Hs=H,c.j Hs=S,Cd f=F,Cd c=w,(f.j (·.1)).j Ai=W2,(c.j (·.1)).j Ai=W1 at *;apply ZB rfl ?_;change Ww [#v[S],#v[H],.no,.no,.no]=_
 rwa[Ww,gP,gO,gN,gM,gI,Jx,y,Gm,gJ,z,gK,IQ,Lp,Zj,show Zy 1 [3,2] [#v[S],#v[H],.val<|.lst (Zb w) .d,.own (Zb F) .d,.no]=[.no,.lent (Zb F) .d,.val<|.lst (Zb w) .d]from rfl,B,s1,c1,Dn,gL,show Zy 1 [2] [#v[S],#v[H],.val<|.lst (Zb w) .d,.val<|.lst (Zb F) .d,.own<|o.map Ai]=[.no,.val<|.lst (Zb w) .d]from rfl,C,s2,c2,G,FY,N,FW,Cy]
def Fk(acc:U Br):U KE:=(Zr Bb (Zm acc)).j λk=>(k,vC ((Z1 acc k).Y (0,[])))
theorem kc(acc:U Br):DG acc=(Fk acc).j Hs:=by
 unfold DG Fk;rw[CG];rfl
theorem SQ(acc:U Br):(Fk acc).j (·.1)=Zr Bb (Zm acc):=by
 unfold Fk;rw[CG];show List.map_id _
theorem ZBR(x:Int)(xs:U Int):A5 12 (cel x xs)=J':=rfl
theorem kf(acc:U Br):∀e∈Fk acc,A5 12 e.2=J':=λe a=>by
 let(k,_,rfl):=Bm.mp a;rfl
theorem ZCT(c:U At)(f:c.a<500):∃g:U D,Wq [#v[c.j aD]]=Z (.Κ g)/\(0<g.a↔c≠[])/\g.a<500:=by
 let c1:=Zz (b:=Zc 0) (e:=gE) (ρ:=[.no]) aD (λa=>Ai [a]) c λa _=>#[[.y<|aD a],rfl,by
  rfl]
 rw[show c.j (λa=>Ai [a])=(c.j λa=>[a]).j Ai by rw[CG];rfl]at c1;let m:=XJ #v[(c.j λa=>[a]).j Ai] (c.j λa=>[a]) (.Q rfl) (by exists f) λl f=>by
  let(a,_,rfl):=Bm.mp f;show#[by simp,by simp]
 let n:∀k∈D5 J (Zr Bb<|c.map λa=>[a]),∃a,k=[a]:=λk h=>by
  have:=(ZE Bb _).Ϣ.mp<|(jt _ k).mp h;let(a,_,rfl):=Bm.mp this;show#[a,rfl]
 let d:0<(D5 J<|Zr Bb<|c.map λa=>[a]).a↔c≠[]:=by
  cases c with
  |nil=>simp[Zr,D5]
  |cons a r=>show#[λ_=>by simp,λ_=>List.length_pos_of_mem<|(jt _ [a]).ϡ<|(ZE Bb _).Ϣ.ϡ<|Bm.ϡ ⟨a,Bh,rfl⟩]
 let i:(D5 J<|Zr Bb<|c.map λa=>[a]).a<500:=GO (XF _ _) (by rw[(ZE Bb _).ό,Bq];show f);generalize D5 J (Zr Bb<|c.map λa=>[a])=j at *;let c2:=Zz (b:=Zc 0) (e:=gF) (ρ:=[.no]) Ai (λk=>aD<|hd k) j λk h=>#[[.y<|Ai k],rfl,by
  let(a,rfl):=n k h;rfl]
 let o:=ZD (c.j aD) (by simp;lia);let p:=ZD (j.j Ai) (by simp;lia);apply#[j.j λk=>aD<|hd k,?_,by simpa using d,by exists i];generalize c.map aD=M,(c.map λa=>[a]).j Ai=V,j.j Ai=W,(j.j λk=>aD<|hd k)=Y at *;apply ZB rfl ?_;change Wp [#v[M]]=_
 rwa[Wp,Zj,show Zy 1 [] [#v[M]]=[.no]from rfl,o,c1,m,Ia,p,c2,Cy]
theorem ZDA{l:U At}(h:Ln l)(j:Nat):JM [.y (Ai l),‹j›]=Z (.y (aD (l.Y j .Α))):=XM l j (by have:=h.l4;lia)
theorem SR{l:U At}(h:Ln l):As (Ai l) (.r 0)=Z (aD (hd l)):=by
 let b:=h.l1;cases l with
 |nil=>simp at b
 |cons a r=>show jJ (aD a)<|r.j aD
theorem ZB7{l:U At}(h:Ln l):hd l∈l:=by
 let b:=h.l1;cases l with
 |nil=>simp at b
 |cons a r=>show Bh
theorem XP{c:BF}{p:Nat}(f:GL c p)(j:Nat)(a:At)(d:Sm (aD a)/\(GY (aD a)=J'\/a=.Α)):KJ [.y (LD c),‹j›,.y (aD a)]=Z (.y (.bl (decide (∃l∈c,l.Y j .Α=a)))):=by
 let c1:=Pz (b:=Zc 0) (t:=WK) (e:=WL) (ρ:=[.no,‹j›,.y<|aD a]) Ai (λl=>aD<|hd l) (λl=>decide<|l.getD j .non=a) c λl m=>#[[.y<|Ai l,‹j›,.y<|aD a],rfl,by
  apply#[?_,?_]
  .rwa[WK,ZDA (f.ln l m) j,B8,FH,JN,KO]
  .rwa[WL,SR<|f.ln l m]]
 rw[show(c.ϯ λl=>decide<|l.getD j .non=a).map (λl=>aD<|hd l)=((c.filter λl=>decide<|l.getD j .non=a).map hd).map aD by rw[CG];rfl]at c1;let(g,n,hz,o):=ZCT ((c.filter λl=>decide<|l.Y j .Α=a).j hd) (by
  rw[Bq];have:=List.length_filter_le (λl=>decide<|l.Y j .Α=a) c;have:=f.n6;lia)
 let i:(c.ϯ λl=>decide<|l.Y j .Α=a).j hd≠[]↔∃l∈c,l.Y j .Α=a:=by
  simp
 rw[i]at hz;let q:=ZD (c.j Ai) (by rw[Bq];have:=f.n6;lia);let r:WN [.y<|LD c,‹j›,.y<|aD a]=Z (.Κ g):=by
  apply ZB rfl ?_;change WM [.y<|LD c,‹j›,.y<|aD a]=_
  let k:DL (ZM<|HL<|some<|aD a) (Z<|!(E8 (aD a)||BL (aD a)))=Z O':=by
   rcases d.2 with h|rfl
   .rw[show(E8 (aD a)||BL (aD a))=J' from h];cases a<;>rfl
   .rfl
  rwa[WM,iX (aD a) d.1,show ZJ (Z<|.bl<|E8 (aD a)||BL (aD a))=Z (E8 (aD a)||BL (aD a))from rfl]at *;rwa[k,FY,Zj,show Zy 1 [1,2] [.val<|LD c,‹j›,.val<|aD a]=[.no,‹j›,.val<|aD a]from rfl,q,c1,n,FW,Cy]
 apply ZB rfl ?_;change WV [.y<|LD c,‹j›,.y<|aD a]=_
 rwa[WV,r,Ia,show Zn [.lst g]=Z (.int g.length)from rfl,E4,i2,show decide ((0:Int)<(g.length:Int))=decide (∃l∈c,l.getD j .non=a)from decide_eq_decide.mpr #[λh=>hz.mp<|KQ.mp h,λh=>by have:=hz.mpr h;show KQ.mpr this]]
theorem ZCi{e:BF}{p:Nat}(f:GL e p){a:At}(g:a∈e.j hd):KJ [.y (LD e),‹0›,.y (aD a)]=Z (.y (.bl J')):=by
 let(c,b,rfl):=Bm.mp g;let d:=f.y c b (hd c)<|ZB7<|f.ln c b;have:=XP f 0 (hd c) #[d.2,.Q d.1];rw[decide_eq_true #[c,b,by cases c<;>rfl]]at this;show this
theorem Zxr{L:AQ}{s:U At}(h:∀b∈L,∃p,GL b p)(c:AO L s):DW (CD 2 (Zq (Zc 0) (Zq (Zc 1) Cz))) (λ_=>Z J') RX [.no,.no] (Hl (λx y=>D.X [x,y]) (L.j LD) (s.j aD))=Z ((L.j λ_=>J').j D.bl):=by
 induction c with|nil=>rfl|@cons b j a k d l e=>
  let(p,f):=h b Bh;let g:RX [.y<|LD b,.y<|aD a]=Z (.bl J'):=by
   have:=ZCi f d;rwa[RX,this]
  rwa[SJ,DW,CD,Zq,Cz,g,e λb i=>h b<|Bl _ i]
theorem ZAL{L:AQ}(h:Cq L){s:U At}(c:AO L s):W6 [#v[L.j LD],.y (Ai s)]=Z (.y (.bl J')):=by
 let d:=Zxr h.good c;let e:=Nz L;let j:=h.n4;let f:=ZD (Hl (λx y=>D.X [x,y]) (L.j LD) (s.j aD)) (by simp;lia);let g:CT [.X<|s.j aD,.ty "tuple"]=Z (.bl J'):=rfl;let l1:Zn [.X<|s.j aD]=Z (.r ((s.j aD).a:Int)):=rfl;let i:Zn [.O<|L.j LD]=Z (.r ((L.j LD).a:Int)):=rfl;let a:Cc (.r ((s.j aD).a:Int)) (.r ((L.j LD).a:Int))=Z (.bl O'):=by rw[show(s.j aD).a=(L.j LD).a by simp[c.len]];simp
 apply ZB rfl ?_;unfold Ai;generalize (L.j λ_=>J').j D.bl=B,s.j aD=S,(L.j LD)=k at *;change W5 [#v[k],.y<|.X S]=_
 rwa[W5,g,show ∀b,ZJ (Z<|.bl b)=Z b from λ_=>rfl,l1,i,a,Zj,FE,Hk,show Zy 2 [] [#v[k],.val<|.tup S]=[.no,.no]from rfl,f,d,e]
abbrev Row:=U At×Int
abbrev Er:=Bool×Row
def Ih(b:Bool):D:=if b then .ψ "+" else .ψ "-"
def Ce(c:Er):D:=.X [Ih c.1,Ai c.2.1,.r c.2.2]
theorem ZEC:¬ ("+":Af)="-":=by symm
theorem kg:¬ ("-":Af)="+":=by symm
theorem ZFV(b:Bool):Cc (Ih b) (.ψ "+")=Z (.bl (!b)):=by cases b<;>simp[Ih,kg]
theorem ZF4(b:Bool):Cc (Ih b) (.ψ "-")=Z (.bl b):=by cases b<;>simp[Ih,ZEC]
theorem kh(b:Bool):B8 (Ih b) (.ψ "+")=Z (.bl b):=by cases b<;>simp[Ih,kg]
theorem ZBt{L:AQ}(h:Cq L)(c:Er)(f:AO L c.2.1):Xe [#v[L.j LD],.y (Ce c)]=Z (.y (.bl J')):=by
 let g:=ZAL h f;let a:=Px (.r c.2.2) trivial;let i:CT [Ce c,.ty "tuple"]=Z (.bl J'):=rfl;let l1:Zn [Ce c]=Z (.r 3):=rfl;let j:As (Ce c) (.r 0)=Z (Ih c.1):=rfl;let d:As (Ce c) (.r 1)=Z (Ai c.2.1):=rfl;let e:As (Ce c) (.r 2)=Z (.r c.2.2):=rfl;rw[show E8 (.r c.2.2)=J' from rfl]at a;generalize Ce c=C,L.j LD=k at *;apply ZB rfl ?_;change Xd [#v[k],.y C]=_
 unfold Xd;rwa[i,show ∀b,ZJ (Z<|.bl b)=Z b from λ_=>rfl,l1,show Cc (.int 3) (.int 3)=Z (.bl O')from rfl,j,d,e,ZFV,ZF4];cases c.1<;>rwa[d,e,g,a]
def Dm(r s:Row):Bool:=if r.1=s.1 then decide (r.2<s.2)else Bb r.1 s.1
theorem ZFQ:TO Dm:={
 asym:=λa b h=>by
  unfold Dm at h ⊢
  by_cases e:a.1=b.1
  .rw[if_pos e]at h;rw[if_pos e.τ];simp at h ⊢;show Int.le_of_lt h
  .rw[if_neg e]at h;rw[if_neg (λz=>e z.τ)];show Dg.asym _ _ h
 neg:=λa b c h=>by
  unfold Dm at h ⊢
  by_cases i:a.1=b.1
  .rw[if_pos i]
   by_cases f:b.1=c.1
   .rw[if_pos f];rw[if_pos (i.E f)]at h;simp at h ⊢;lia
   .rw[if_neg f];rw[if_neg (λz=>f (i.τ.E z)),i]at h;show .σ h
  .rw[if_neg i]
   by_cases f:b.1=c.1
   .rw[if_neg (λz=>i (z.E f.τ)),<- f]at h;show .Q h
   .rw[if_neg f]
    by_cases j:a.1=c.1
    .cases g:Bb a.1 b.1 with
     |true=>show .Q rfl
     |false=>
      cases d:Bb b.1 a.1 with
      |true=>rw[j]at d;show .σ d
      |false=>show absurd (Dg.anti _ _ g d) i
    .rw[if_neg j]at h;show Dg.neg _ _ _ h
 anti:=λa b g d=>by
  unfold Dm at g d
  by_cases e:a.1=b.1
  .rw[if_pos e]at g;rw[if_pos e.τ]at d
   simp at g d
   show Prod.ext e (Int.le_antisymm d g)
  .rw[if_neg e]at g;rw[if_neg (λz=>e z.τ)]at d;show absurd (Dg.anti _ _ g d) e}
def PB(r:Row):D:=.X [.X (r.1.j Ds),.r r.2]
theorem Zq0(r:Row)(h:r.1.a<=1000):RP [.y (Zd r)]=Z (.y (PB r)):=by
 apply ZB rfl ?_;change Wa [.y<|Zd r]=_
 unfold PB;rwa[Wa,show As (Zd r) (.int 0)=Z (Ai r.1)from rfl,show As (Zd r) (.int 1)=Z (.int r.2)from rfl,jM r.1 h]
theorem ki:∀a b:U At,Do (a.j Ds) (b.j Ds)=decide (a=b)
 |[],[]=>by simp
 |[],_::_=>by simp
 |_::_,[]=>by simp
 |x::a,y::b=>by
  simp[jx,ki a b]
theorem ZBZ(r s:Row):ltN 6 (PB r) (PB s)=Z (Dm r s):=by
 let c:A5 12 (.X<|r.1.j Ds)=J':=by
  show(r.1.j Ds).ϭ (A5 11)=J'
  grind [Sz]
 let d:A5 12 (.X<|s.1.j Ds)=J':=by
  show(s.1.j Ds).ϭ (A5 11)=J'
  rw[Kk,Du];show λa _=>Sz 10 a
 let f:Be (.X<|r.1.j Ds) (.X<|s.1.j Ds)=decide (r.1=s.1):=by
  rw[<- ki];rfl
 change Gn (ltN 5) [.X<|r.1.j Ds,.r r.2] [.X<|s.1.j Ds,.r s.2]=_
 unfold Dm;rwa[Gn,FH,c,d,f,show ltN 5 (.tup<|r.1.map Ds) (.tup<|s.1.map Ds)=Z (Bb r.1 s.1)from(XE 2 r.1 s.1),decide_eq_true_eq,A5];by_cases e:r.1=s.1
 .rw[if_pos e,if_pos e];by_cases b:r.2=s.2
  .simp[b]
  .simp[b]
 .rw[if_neg e,if_neg e]
theorem Zwa(rs:U Row)(a:rs.a<500)(b:∀r∈rs,r.1.a<=1000):Gr RP (rs.j Zd)=Z ((Zr Dm rs).j Zd):=XA Zd ZFQ O' rs a PB (λr h=>Zq0 r<|b r h) (λr _=>#[_,_,rfl]) (λr _ s _=>ZBZ r s)
def Gd:At->Prop
 |.str z=>(∀c∈z.Ϝ.B,c∈signs.Ϝ.B)/\z.a<=12
 |_=>True
abbrev F6:Af:="0123456789abcdefghijklmnopqrstuvwxyz"
theorem ZAB:∀c∈signs.Ϝ.B,∀d∈signs.Ϝ.B,decide (Txt.find F6 #[(T' [c])]<Txt.find F6 #[(T' [d])])=decide (c<d):=by symm
theorem kj(s0 a:Sl):∀(xs ys:U Nat),(∀c∈xs,c∈signs.Ϝ.B)->(∀c∈ys,c∈signs.Ϝ.B)->∀b d:Sl,(∃g i,ZO (CD 2 (Zq (Zc 3) (Zq (Zc 4) Cz))) Z4 (Hl (λx y=>D.X [x,y]) (xs.j cS) (ys.j cS)) [s0,a,.y (.ψ F6),b,d]=.U [s0,a,.y (.ψ F6),g,i]/\decide (xs<ys)=decide (xs.a<ys.a)) \/ZO (CD 2 (Zq (Zc 3) (Zq (Zc 4) Cz))) Z4 (Hl (λx y=>D.X [x,y]) (xs.j cS) (ys.j cS)) [s0,a,.y (.ψ F6),b,d]=.ϸ (.y (.bl (decide (xs<ys))))
 |[],ys,_,_,b,d=>.Q #[b,d,rfl,by cases ys<;>simp]
 |x::xs,[],_,_,b,d=>.Q #[b,d,rfl,by simp]
 |x::xs,y::ys,l,m,b,d=>by
  let f:Cc (cS x) (cS y)=Z (.bl<|!decide (x=y)):=by
   simp[cS]
  erw[AU,SJ,ZO,show CD 2 (Zq (Zc 3)<|Zq (Zc 4) Cz) (D.tup [cS x,cS y]) [s0,a,.val<|.str F6,b,d]=Z [s0,a,.val<|.str F6,.val<|cS x,.val<|cS y]from rfl];by_cases e:x=y
  .subst e;let j:Z4 [s0,a,.y<|.ψ F6,.y<|cS x,.y<|cS x]=.U [s0,a,.y<|.ψ F6,.y<|cS x,.y<|cS x]:=by
    rwa[Z4,f]
   rw[j];let hd:decide (x::xs<x::ys)=decide (xs<ys):=by
    simp_all
   rw[hd,show decide ((x::xs).a<(x::ys).a)=decide (xs.a<ys.a) by simp];show kj s0 a xs ys (λc k=>l c<|Bl _ k) (λc k=>m c<|Bl _ k) (.y<|cS x) (.y<|cS x)
  .let hd:decide (x::xs<y::ys)=decide (x<y):=by
    rw[decide_eq_decide,List.cons_lt_cons_iff];show#[λh=>h.Η id λh=>absurd h.1 e,λh=>.Q h]
   apply .σ ?_;let j:Z4 [s0,a,.y<|.ψ F6,.y<|cS x,.y<|cS y]=.ϸ (.y<|.bl<|decide<|x<y):=by
    rwa[Z4,Lx,f,e,decide_false,show ∀c,Oi F6 [cS c]=Z (.int<|Txt.find F6 ⟨(T' [c])⟩)from λ_=>rfl,show C9 (.int<|Txt.find F6 ⟨(T' [x])⟩) (.int<|Txt.find F6 ⟨(T' [y])⟩)=Z (.bl<|decide<|x<y) by rw[<- (ZAB x (l x Bh) y<|m y Bh)];rfl]
   rw[j,hd]
theorem ZmA(a b:At)(d:Gd a)(e:Gd b):Vv [.y (aD a),.y (aD b)]=Z (.y (.bl (EE a b))):=by
 apply ZB rfl ?_;change Z3 [.y<|aD a,.y<|aD b,.no,.no,.no]=_
 cases a with
 |non=>cases b<;>simp[Z3,O9,aD,EE]
 |int i=>cases b<;>simp[Z3,O9,Vu,Vs,fB,ft,aD,EE]
 |str x=>
  cases b with
  |non=>simp[Z3,O9,aD,EE]
  |int j=>simp[Z3,O9,Vu,Vs,aD,EE]
  |str y=>
   rw[show Z3 [.y<|aD<|.str x,.val<|aD<|.str y,.no,.no,.no]=Ro [.val<|.str x,.val<|.str y,.val<|.str F6,.no,.no]from rfl];let f:∀z:Af,z.length<=12->Zn [.str z]=Z (.int z.cps.toList.length):=λz hz=>by
    simp[Str.length,show z.cps.size<=Ay from Bv hz (by ext)]
   rcases kj (.y<|.ψ x) (.y<|.ψ y) x.Ϝ.B y.Ϝ.B d.1 e.1 .no .no with⟨h,k,c,g⟩|c
   .let lt:C9 (.r x.Ϝ.B.a) (.r y.Ϝ.B.a)=Z (.bl<|decide<|x.Ϝ.B<y.Ϝ.B):=by
     rw[g];change Z (D.bl<|decide<|(x.Ϝ.B.a:Int)<(y.Ϝ.B.a:Int))=_
     congr 2;rw[decide_eq_decide];show Ny
    rwa[Ro,Vt,fA,fu,Z8,FE,Hk,c,f x d.2,f y e.2,lt,EE]
   .rwa[Ro,Vt,Z8,FE,Hk,c,EE]
theorem kk(s0 a:Sl):∀(xs ys:U At),(∀c∈xs,Gd c)->(∀c∈ys,Gd c)->∀b d:Sl,(∃g h,ZO (CD 2 (Zq (Zc 2) (Zq (Zc 3) Cz))) L7 (Hl (λx y=>D.X [x,y]) (xs.j aD) (ys.j aD)) [s0,a,b,d]=.U [s0,a,g,h]/\Bb xs ys=decide (xs.a<ys.a)) \/ZO (CD 2 (Zq (Zc 2) (Zq (Zc 3) Cz))) L7 (Hl (λx y=>D.X [x,y]) (xs.j aD) (ys.j aD)) [s0,a,b,d]=.ϸ (.y (.bl (Bb xs ys)))
 |[],ys,_,_,b,d=>.Q #[b,d,rfl,by cases ys<;>simp[Bb]]
 |x::xs,[],_,_,b,d=>.Q #[b,d,rfl,by simp[Bb]]
 |x::xs,y::ys,j,k,b,d=>by
  let f:=ZDa x y;erw[AU,SJ,ZO,show CD 2 (Zq (Zc 2)<|Zq (Zc 3) Cz) (D.tup [aD x,aD y]) [s0,a,b,d]=Z [s0,a,.val<|aD x,.val<|aD y]from rfl];by_cases e:x=y
  .subst e;let l:L7 [s0,a,.y<|aD x,.y<|aD x]=.U [s0,a,.y<|aD x,.y<|aD x]:=by
    rwa[L7,f]
   rw[l,show Bb (x::xs) (x::ys)=Bb xs ys by simp[Bb],show decide ((x::xs).a<(x::ys).a)=decide (xs.a<ys.a) by simp];show kk s0 a xs ys (λc i=>j c<|Bl _ i) (λc i=>k c<|Bl _ i) (.y<|aD x) (.y<|aD x)
  .apply .σ ?_;let l:L7 [s0,a,.y<|aD x,.y<|aD y]=.ϸ (.y<|.bl<|EE x y):=by
    rwa[L7,f,e,decide_false,ZmA x y (j x Bh)<|k y Bh]
   grind [show Bb (x::xs) (y::ys)=EE x y by simp[Bb,e]]
theorem Zyy(l m:U At)(e:∀a∈l,Gd a)(f:∀a∈m,Gd a)(g:l.a=m.a):VH [.y (Ai l),.y (Ai m)]=Z (.y (.bl (Bb l m))):=by
 apply ZB rfl ?_;change Ry [.y<|Ai l,.y<|Ai m,.no,.no]=_
 let c:∀l:U At,Hk (Ai l)=Z (l.j aD):=λ_=>rfl;rcases kk (.y<|Ai l) (.y<|Ai m) l m e f .no .no with⟨h,i,b,d⟩|b
 .rw[g,decide_eq_false<|Hw _]at d;rw[d];rwa[Ry,Z8,FE,c,b]
 .rwa[Ry,Z8,FE,c,b]
theorem ZC6{a:At}(h:GY (aD a)=J'):Gd a:=by
 cases a with
 |non=>trivial
 |int i=>trivial
 |str z=>
  let b:IT z.Ϝ.B=J':=by
   erw[GY,aD,E8,BL,Bool.false_or]at h;show h
  obtain⟨⟨l⟩⟩:=z;cases l with|nil=>simp[IT]at b|cons c r=>
   erw[IT,Dp,decide_eq_true_eq]at b;apply#[λd hd=>?_,b.2];grind [hd,Zvn]
def JX:U (U At)->Nat->At->O At
 |[],_,_=>J
 |l::r,j,a=>if hd l=a/\j<l.a then Z (l.Y j .Α)else JX r j a
theorem km:∀{b:BF}{j:Nat}{a:At},a∉b.j hd->JX b j a=J
 |[],_,_,_=>rfl
 |l::r,j,a,h=>by
  erw[AU,Bx,not_or]at h;rw[JX,if_neg λz=>h.1 z.1.τ,km h.2]
theorem ko:∀{d:BF}{j:Nat}{l:U At},(d.j hd).η->l∈d->(JX d j (hd l)).Y .Α=l.Y j .Α
 |x::r,j,l,a,b=>by
  erw[AU,Eu]at a;unfold JX;rcases Bx.mp b with rfl|b
  .by_cases c:j<l.a
   .rw[if_pos #[rfl,c]];rfl
   .rw[if_neg λz=>c z.2,km a.1];simp[Eo,FV c]
  .rw[if_neg λz=>a.1 (by rw[z.1];show FG b)];show ko a.2 b
theorem kq{ls0:BF}(a:At)(j:Nat):∀(d:BF)(g:Sl),(∀l∈d,Ln l)->match JX d j a with
  |some x=>ZO (Zc 3) L5 (d.j Ai) [.y<|LD ls0,.y<|aD a,‹j›,g]=.ϸ (.y<|aD x)
  |none=>∃k,ZO (Zc 3) L5 (d.j Ai) [.y<|LD ls0,.y<|aD a,‹j›,g]=.U [.y<|LD ls0,.y<|aD a,‹j›,k]
 |[],g,_=>#[g,rfl]
 |l::d,g,o=>by
  let s:=kq (ls0:=ls0) a j d (.y<|Ai l) λm p=>o m<|Bl _ p;let n:=SR<|o l Bh;let f:B8 (aD<|hd l) (aD a)=Z (.bl<|decide<|hd l=a):=by rwa[B8,FH,JN,KO]
  let b:Zn [Ai l]=Z (.r l.a):=by simp[Ai]
  let i:C9 (.r j) (.r l.a)=Z (.bl<|decide<|j<l.a):=by
   simp_all
  let q:j<l.a->As (Ai l) (.r j)=Z (aD<|l.getD j .non):=λh=>ZI (by rw[CM,Cb h];simp[Eo,h]);let r:L5 [.y<|LD ls0,.y<|aD a,‹j›,.y<|Ai l]=if hd l=a/\j<l.a then .ϸ (.y<|aD<|l.Y j .Α)else .U [.y<|LD ls0,.y<|aD a,‹j›,.y<|Ai l]:=by
   by_cases e:hd l=a
   .by_cases c:j<l.a
    .rw[if_pos #[e,c]];rw[decide_eq_true e]at f;rw[decide_eq_true c]at i;rwa[L5,n,b,f,i,q c]
    .rw[if_neg λz=>c z.2];rw[decide_eq_true e]at f;rw[decide_eq_false c]at i;rwa[L5,n,b,f,i]
   .rw[if_neg λz=>e z.1];rw[decide_eq_false e]at f;rwa[L5,n,b,f]
  unfold JX;rwa[ZO,r];grind
theorem ZEf{b:BF}{p:Nat}(c:GL b p)(j:Nat){a:At}(g:a∈b.j hd):Vr [.y (LD b),.y (aD a),‹j›]=Z (.y (aD (FL (b,j) a))):=by
 let(l,d,rfl):=Bm.mp g;let e:=kq (ls0:=b) (hd l) j b .no c.ln;rw[show FL (b,j) (hd l)=(JX b j<|hd l).Y .Α by rw[XO c.hdn d,ko c.hdn d]];apply ZB rfl ?_;change Rl [.y<|LD b,.y<|aD<|hd l,‹j›,.no]=_
 cases f:JX b j (hd l)with
 |some x=>
  rw[f]at e;rwa[Rl,Z8,e,Option.getD]
 |none=>
  rw[f]at e;let(i,e):=e;rwa[Rl,Z8,e,Option.getD];rfl
theorem kr:∀{L:AQ}{g:U Nat}{s:U At}{k:Nat}{e:BF}{j:Nat}{a:At},L[k]?=Z e->g[k]?=Z j->s[k]?=Z a->(ZX (qs L g) s)[k]?=Z (FL (e,j) a)
 |_::_,_::_,_::_,0,_,_,_,b,c,d=>by cases b;cases c;cases d;rfl
 |_::L,_::g,_::s,k+1,_,_,_,b,c,d=>by
  have:=kr (L:=L) (g:=g) (s:=s) (k:=k) (by exists b) (by exists c) (by exists d);simpa[qs,ZX]using this
 |[],_,_,_,_,_,_,b,_,_=>by simp at b
 |_::_,[],_,_,_,_,_,_,c,_=>by simp at c
 |_::_,_::_,[],_,_,_,_,_,_,d=>by simp at d
theorem AO.get{L:AQ}{s:U At}(d:AO L s):∀k,k<L.a->∃c a,L[k]?=Z c/\s[k]?=Z a/\c∈L/\a∈c.j hd:=by
 induction d with|nil=>show λk h=>absurd h<|Nat.not_lt_zero k|@cons c o a p e q f=>
  intro k g;cases k with|zero=>show#[c,a,rfl,rfl,Bh,e]|succ k=>
   let(l,b,i,j,m,n):=f k (by exists g);show#[l,b,by simpa using i,by simpa using j,Bl _ m,n]
theorem Zvi{L:AQ}(h:Cq L){g:U Nat}(x:g.a=L.a){s:U At}(o:AO L s):VB [#v[L.j LD],.y (Ai s),.y (AA g)]=Z (.y (Ai (ZX (qs L g) s))):=by
 let f:=o.ϩ;let P:=h.n4;let y:(ZX (qs L g) s).a=L.a:=by rw[Mh (by simp[qs];lia)];simp[qs];lia
 let q:=Zz (b:=Zc 0) (e:=Vz) (ρ:=[.no,#v[L.j LD],.y<|Ai s,.val<|AA g]) (λk:Nat=>D.r k) (λk=>aD<|(ZX (qs L g) s).getD k .non) (BI s.length) λk z=>#[[‹k›,#v[L.j LD],.y<|Ai s,.y<|AA g],rfl,by
  let l:=EY.mp z;let(m,a,r,t,A,B):=o.Ρ k<|J3 l f;let(p,C):=h.good m A;obtain⟨j,u⟩:∃j,g[k]?=Z j:=#[g[k]'∅,Cb ∅];let E:As (.O<|L.j LD) (.r k)=Z (LD m):=ZI (by rw[CM,r];rfl);let G:As (Ai s) (.r k)=Z (aD a):=ZI (by rw[CM,t];rfl);let H:As (AA g) (.r k)=Z (.r j):=ZI (by rw[CM,u];rfl);let X:=ZEf C j B;let F:(ZX (qs L g) s).Y k .Α=FL (m,j) a:=by simp[Eo,kr r u t]
  rw[F];rwa[Vz,E,G,H,X]]
 let M:(BI s.a).j (λk=>aD<|(ZX (qs L g) s).Y k .Α)=(ZX (qs L g) s).j aD:=by
  apply(Kh);intro i;by_cases N:i<s.a
  .have:i<(ZX (qs L g) s).a:=∅
   simp[N,this]
  .simp_all [ZX,qs]
 rw[M]at q;let c:Zn [Ai s]=Z (.r s.a):=by simp[Ai]
 let w:=O1 (s.a:Int) (KC s.a) ∅;rw[IL]at w;let K:=ZD ((BI s.a).j λk:Nat=>D.r k) (by simp;lia);let Q:∀d:D,Zt [Sl.y d]=Z [d]:=λ_=>rfl;let T:E5 [.O<|(ZX (qs L g) s).map aD]=Z (Ai<|ZX (qs L g) s):=rfl;generalize Ai s=S,L.map LD=W,AA g=R,(BI s.length).map (λk:Nat=>D.r k)=RG,(ZX (qs L g) s).j aD=SA,Ai (ZX (qs L g) s)=KK at *;apply ZB rfl ?_;change VA [#v[W],.y S,.y R]=_
 let n:Zy 1 [0,1,2] [#v[W],.y S,.y R]=[.no,#v[W],.y S,.y R]:=rfl;rwa[VA,Zj,n,c,Q,w,K,q,T]
theorem Zrf(p:Int×U Int):Rm [.y (vL p)]=Z (.y (vC p)):=by
 let(x,a):=p;simp[Rm,A3,fq,HP,T9,QB,QC,cel,show(4:Nat)<=Ay by ext];show#[rfl,rfl]
def Gy(e:Br):KT×U D:=(.X e.1,(e.2.1::e.2.2).j D.r)
theorem kt(k:U At)(x:Int):∀acc:U Br,GU (acc.j Gy) (.X k) (.r x)=(C7 acc k x).j Gy
 |[]=>rfl
 |e::r=>by
  erw[AU,GU,C7,Gy,KT.tup.injEq];by_cases c:e.1=k
  .rw[if_pos c,if_pos c];simp[Gy]
  .rw[if_neg c,if_neg c,AU];show congrArg _<|kt k x r
theorem ZD0(acc:U Br):Jz (acc.j Gy)=acc.j (Zw vL):=by
 unfold Jz;rw[CG];rfl
theorem ZBA(k:U At)(acc:U Br):UR (.X k) (acc.j Gy)=J':=by
 unfold UR;rw[Kk,Du];show λe _=>rfl
theorem ku{L:AQ}(h:Cq L){g:U Nat}(d:g.a=L.a)(R:U D):∀(a:U Row)(acc:U Br)(m:Nat)(f i:Sl),(∀r∈a,AO L r.1)->Bd acc L.a m->m+a.a<1000->∃b c,JC 3 (CD 2 (Zq (Zc 4) (Zq (Zc 5) Cz))) Pg RJ (a.j Zd) [#v[L.j LD],#v[R],.y (AA g),.no,f,i,.no] (acc.j Gy)=Z ([#v[L.j LD],#v[R],.y (AA g),.no,b,c,.no],(Dz (Dh (qs L g) a) acc).j Gy)
 |[],acc,m,f,i,_,_,_=>#[f,i,rfl]
 |r::a,acc,m,f,i,s,j,u=>by
  erw[Cw]at u;let t:=s r Bh;let k:(ZX (qs L g) r.1).a=L.a:=by have:=t.ϩ;rw[Mh (by simp[qs];lia)];simp[qs];lia
  let(b,c,w):=ku h d R a (C7 acc (ZX (qs L g) r.1) r.2) (m+1) (.y<|Ai r.1) ‹r.2› (λq x=>s q<|Bl _ x) (j.add k r.2) ∅;apply⟨b,c,?_⟩;let y:CD 2 (Zq (Zc 4)<|Zq (Zc 5) Cz) (Zd r) [#v[L.j LD],#v[R],.y<|AA g,.no,f,i,.no]=Z [#v[L.j LD],#v[R],.y<|AA g,.no,.y<|Ai r.1,‹r.2›,.no]:=rfl;let A:=Zvi h d t;let hok:=Gx<|ZX (qs L g) r.1;let B:=ZBA (ZX (qs L g) r.1) acc;let hz:(acc.j Gy).a<Ay/\∀z∈acc.j Gy,z.2.a<Ay:=by
   let C:1000<=Ay:=by ext
   apply#[by rw[Bq];have:=j.ϩ;lia,λz hz=>?_];let(e,E,rfl):=Bm.mp hz;let n:∀(l:U Br),e∈l->e.2.2.a+1<=KW l:=by
    intro l;induction l<;>grind [KW]
   let K:=n acc E;let F:=j.sz;erw[Gy,Bq,Cw];lia
  let G:Pg [#v[L.j LD],#v[R],.y<|AA g,.no,.y<|Ai r.1,‹r.2›,.no]=Z (Ai<|ZX (qs L g) r.1):=by
   rwa[Pg,A]
  let H:RJ [#v[L.j LD],#v[R],.y<|AA g,.no,.y<|Ai r.1,‹r.2›,.no]=Z (.r r.2):=rfl;let o:QZ Pg RJ [#v[L.j LD],#v[R],.y<|AA g,.no,.y<|Ai r.1,‹r.2›,.no] (acc.j Gy)=Z ((C7 acc (ZX (qs L g) r.1) r.2).j Gy):=by
   erw[QZ,G,H,hok,B,if_true,MD hz,kt]
  let p:LU [#v[L.j LD],#v[R],.y<|AA g,.no,.y<|Ai r.1,‹r.2›,.no]=J':=rfl;rw[AU,JC,y];rwa[p,o];show w
theorem kw(s0 i j:Sl)(acc:U Br)(h:(Zm acc).η)(hz:acc.a<=1000):∀(a pre:U Br)(n c:Sl),acc=pre++a->∃f g,ZO (Zc 4) RK ((Zm a).j Ai) [s0,i,j,.y (.O (Zb (acc.j (Zw vL))) .d),n,c,.Κ (Zb (pre.j (Zw vC))) .d]=.U [s0,i,j,.y (.O (Zb (acc.j (Zw vL))) .d),f,g,.Κ (Zb (acc.j (Zw vC))) .d]
 |[],pre,n,c,b=>#[n,c,by rw[Eh]at b;subst b;rfl]
 |e::a,pre,n,c,b=>by
  let(f,g,p):=kw s0 i j acc h hz a (pre++[e]) (.y<|Ai e.1) c (by rw[b];simp);apply⟨f,g,?_⟩;let k:e.1∉Zm pre:=by
   intro q;rw[b]at h;unfold Zm at h q;rw[Ek,AU]at h;show(Iy.mp h).2.2 _ q _ Bh rfl
  let o:Z1 acc e.1=Z e.2:=by
   rw[b];clear p h hz b;induction pre<;>grind [Z1,Zm]
  let l:(pre.j<|Zw vC).a<Ay:=by
   have:acc.a=pre.a+(a.a+1):=by rw[b];simp
   rw[Bq];show B3 (show pre.a<1000 by lia) (by ext)
  let m:ZZ (pre.j<|Zw vC) (.X e.1) (vC e.2)=(pre++[e]).j (Zw vC):=by
   unfold ZZ;rw[KV,Cj.ϡ k];simp[Zw]
  let r:RK [s0,i,j,.y<|.O (Zb<|acc.j<|Zw vL) .d,.y<|Ai e.1,c,.Κ (Zb<|pre.j<|Zw vC) .d]=.U [s0,i,j,.y<|.O (Zb<|acc.j<|Zw vL) .d,.y<|Ai e.1,c,.Κ (Zb<|(pre++[e]).j<|Zw vC) .d]:=by
   rw[<- m];rwa[RK,Hd,SH vL o,Zrf e.2,Ko,Fh<|pre.map<|Zw vC,Gx e.1,SF vC e.1 pre,l]
  rw[show Zm (e::a)=e.1::Zm a from rfl,AU,ZO];rwa[r];show p
theorem kx{L:AQ}(h:Cq L){g:U Nat}(f:g.a=L.a)(a:U Row)(o:∀r∈a,AO L r.1)(A:a.a<500):RM [#v[L.j LD],#v[a.j Zd],.y (AA g)]=Z (.Κ (Zb ((Dz (Dh (qs L g) a) []).j (Zw vC))) .d):=by
 let ok:=Bd.tab (Dh (qs L g) a) (Bd.ϔ L.a) λr h=>by
  let(s,t,rfl):=Bm.mp h;have:=(o s t).ϩ;simp_all [ZX,qs,Mh]
 let la:(Dh (qs L g) a).a=a.a:=Bq _;let(c,e,p):=ku h f (a.j Zd) a [] 0 .no .no o (Bd.ϔ _) ∅;let(i,j,q):=kw (#v[L.j LD]) (#v[a.j Zd]) (.y<|AA g) (Dz (Dh (qs L g) a) []) ok.nd (by have:=ok.ϩ;lia) (Dz (Dh (qs L g) a) []) [] c e rfl;let k:=ZD0<|Dz (Dh (qs L g) a) [];let l:EB (.O (Zb<|(Dz (Dh (qs L g) a) []).j<|Zw vL) .d)=Z ((Zm<|Dz (Dh (qs L g) a) []).j Ai):=by
  erw[EB,Fh,Dy,jY]
 let m:LU [#v[L.j LD],#v[a.j Zd],.y<|AA g,.Κ [] .d,.no,.no,.no]=J':=rfl;generalize a.j Zd=R,Dz (Dh (qs L g) a) []=b at *;let u:([]:U Br).j Gy=[]:=rfl;let n:Zb (([]:U Br).j<|Zw vC)=[]:=rfl;rw[u]at p;rw[n]at q;generalize L.j LD=W,AA g=B at *;apply ZB rfl ?_;change RL [#v[W],#v[R],.y B,.no,.no,.no,.no]=_
 let w:f3 [#v[W],#v[R],.y B,.no,.no,.no,.no]=.U [#v[W],#v[R],.y B,.Κ [] .d,.no,.no,.no]:=rfl;let x:V0 [#v[W],#v[R],.y B,.Κ [] .d,.no,.no,.no]=.U [#v[W],#v[R],.y B,.Κ (Zb<|b.j<|Zw vL) .d,c,e,.no]:=by
  rwa[V0,Q0,m,p,k]
 let y:f4 [#v[W],#v[R],.y B,.Κ (Zb<|b.j<|Zw vL) .d,c,e,.no]=.U [#v[W],#v[R],.y B,.Κ (Zb<|b.j<|Zw vL) .d,c,e,.Κ [] .d]:=rfl;let z:V1 [#v[W],#v[R],.y B,.Κ (Zb<|b.j<|Zw vL) .d,c,e,.Κ [] .d]=.U [#v[W],#v[R],.y B,.y<|.O (Zb<|b.j<|Zw vL) .d,i,j,.Κ (Zb<|b.j<|Zw vC) .d]:=by
  rwa[V1,IQ,Lp,Z8,l,q]
 rwa[RL,V4,V3,V2,f6,w,x,y,z,f5,Hd,Kf]
theorem ky(L:AQ)(h:∀a∈L,∃p,GL a p)(ws:U Int)(i:L.a<=ws.a):∀(b pre:AQ),L=pre++b->∃s,AO b s/\DW (Zc 0) (λ_=>Z J') Rx [.no,#v[L.j LD],#v[ws.j D.r]] ((Gu pre.a b.a).j λk:Nat=>D.r k)=Z (s.j aD)
 |[],pre,_=>#[[],.ϔ,rfl]
 |a::b,pre,e=>by
  let(s,l,g):=ky L h ws i b (pre++[a]) (by rw[e];simp);rw[EL]at g;let(p,f):=h a (by rw[e];simp);let d:pre.a<ws.a:=by
   have:L.a=pre.a+(b.a+1):=by rw[e];simp
   lia
  let m:As (.O<|L.j LD) (.r pre.a)=Z (LD a):=ZI (by rw[e];simp);let n:As (.O<|ws.j D.r) (.r pre.a)=Z (.r<|ws.Y pre.a 0):=ZI (by rw[CM,Cb d];simp[Eo,d]);generalize ws.Y pre.a 0=x at *;let o:Zn [LD a]=Z (.r a.a):=by simp
  let q:=C6 x (a.a:Int)<|KQ.ϡ f.n1;let r:=Ie x (show(a.a:Int)≠0 by show BM (Int.ne_of_lt<|KQ.ϡ f.n1));let m1:=JP x<|KQ.ϡ f.n1;generalize x%(a.a:Int)=j at *;obtain⟨c,rfl⟩:∃c:Nat,j=(c:Int):=#[j.θ,by show Int.eq_natCast_toNat.ϡ r];let t:As (LD a) (.r c)=Z (Ai a[c]):=ZI (by rw[CM,Cb<|Ny.mp m1];rfl);apply⟨hd a[c]::s,.Θ (FG<|Fy<|Ny.mp m1) l,?_⟩;let u:Rx [‹pre.a›,#v[L.j LD],#v[ws.j D.r]]=Z (aD<|hd a[c]):=by
   generalize LD a=B,ws.j D.r=W,L.j LD=w at *;rwa[Rx,m,n,o,q,t,SR<|f.ln _<|Fy<|Ny.mp m1]
  erw[Cw,Nu,AU,DW,Zc,F5,u];erw[Cw,Kb]at g ⊢;rw[g];rfl
theorem ZAj{L:AQ}(h:Cq L)(c:Int):∃r:Row,AO L r.1/\VG [#v[L.j LD],‹c›]=Z (.y (Zd r)):=by
 let(e,t,G,_):=KP c 6<|Ur rfl;let H:=h.n4;let(s,m,o):=ky L h.good e ∅ L [] rfl;rw[show(Gu ([]:AQ).a L.a)=BI L.a by rw[Nv];rfl]at o;let f:Zn [.O<|L.j LD]=Z (.r L.a):=by simp
 let p:=O1 (L.a:Int) (KC<|List.length L) ∅;rw[IL]at p;let u:=ZD ((BI L.length).map λk:Nat=>D.r k) (by simp;lia);let w:E5 [.O<|s.j aD]=Z (Ai s):=rfl;let x:As (.O<|e.j D.r) (.r 4)=Z (.r<|e.Y 4 0):=FJ (Sr 4) ∅;let y:As (.O<|e.j D.r) (.r 5)=Z (.r<|e.Y 5 0):=FJ (Sr 5) ∅;generalize e.Y 5 0=i,e.Y 4 0=l at *;let z:=C6 l 7 (by ext);let m2:=C6 l 2 (by ext);let n:=C6 c (10^30) (by ext);let A:=C6 i 4 (by ext);let P:=Ie i (show(4:Int)≠0 by ext);let F:=JP i (show(0:Int)<4 by ext);generalize c%10^30=g,l%2=B,l%7=C,i%4=j at *;obtain⟨v,E⟩:∃v,As (.O [.r<|C-3,.r g,.r<|0-g,.r B]) (.r j)=Z (.r v):=by
  rcases(show j=0\/j=1\/j=2\/j=3 by lia)with q|q|q|q<;>rw[q]
  .show#[_,rfl]
  .show#[_,rfl]
  .show#[_,rfl]
  .show#[_,rfl]
 apply#[(s,v),m,?_];change _=Z (Rv.y<|.X [Ai s,.r v])
 generalize L.j LD=K,e.j D.r=W,(BI L.a).j (λk:Nat=>D.r k)=M,Ai s=S,s.j aD=N at *;apply ZB rfl ?_;change VF [#v[K],‹c›,.no,.no]=_
 rwa[VF,show ZC [‹c›,‹6›]=Z #v[W]from t,Zj,show Zy 1 [0,2] [#v[K],‹c›,#v[W],.no]=[.no,#v[K],#v[W]]from rfl,f,p,u,o,w,x,y,show Lu (.int 10) (.int 30)=Z (.int<|10^30)from ZFJ (by ext),z,m2,n,A,show ∀a b c d:D,Zh (Z [a,b,c,d])=Z [a,b,c,d]from λ_ _ _ _=>ZD _ (by simp),E]
abbrev wh(a:BF):Nat:=(a.headD []).a
def IW(p:Nat):D->Bool
 |.int i=>decide (0<=i)&&decide (i<=(p:Int))
 |_=>O'
theorem GL.wh{a:BF}{p:Nat}(h:GL a p):wh a=p:=by
 let b:=h.n1;cases a with
 |nil=>simp at b
 |cons l r=>show h.ϩ l Bh
theorem kz{a:BF}{p:Nat}(h:GL a p):O7 [.y (LD a)]=Z ‹(wh a:Int)›:=by
 let c:=h.n1;cases a with|nil=>simp at c|cons l a=>
  let b:Zn [Ai l]=Z (.r ((l.j aD).a:Int)):=rfl;rw[Bq]at b;simp only[O7,A3,Cw,Kb,G5,if_true,ez,Mf,Mg,Eh,Zi,Za,A9,EU,Cp,As,show atI ((l::a).map Ai) 0=Z (Ai l)from ZI (j:=0) rfl,DV,Dy,Zk,GG,pk,b,Zv,Ze];rfl
theorem Zw5{a:BF}{p:Nat}(h:GL a p)(d:D)(hd:Sm d):Vy [.y (LD a),.y d]=Z (.y (.bl (IW (wh a) d))):=by
 let b:=Px d hd;let c:=kz h;generalize (wh a)=n at *;cases d with
 |int i=>
  rw[show E8 (.r i)=J' from rfl]at b;apply ZB rfl ?_;change Pc [.y<|LD a,‹i›]=_
  unfold IW;rwa[Pc,b,Jm,show Iw (.int 0) (.int i)=Z (.bl<|decide<|0<=i)from rfl];cases decide (0<=i)with
  |true=>rwa[c,show Iw (.int i) (.int n)=Z (.bl<|decide<|i<=(n:Int))from rfl,Bool.true_and]
  |false=>rwa[Bool.false_and]
 |_=>
  apply ZB rfl ?_;change Pc [.y<|LD a,.y _]=_
  rwa[Pc,show Z5 [.val _]=Z (.val<|.bl O')from b,IW]
abbrev SS(L:AQ)(a:U D):Bool:=((L.zip a).j λq=>IW (wh q.1) q.2).ϭ id
theorem ZAh(bs:U Bool):Kl (bs.j D.bl)=Z bs:=by
 simp_all
theorem kA:∀(L:AQ)(b:U D),Hl (λx y=>D.X [x,y]) (L.j LD) b=(L.zip b).j λq=>D.X [LD q.1,q.2]
 |[],_=>by simp
 |_::_,[]=>by simp
 |a::L,z::b=>by simp[kA L b]
theorem ZxR{L:AQ}(h:Cq L)(a:U D)(hz:∀z∈a,Sm z)(i:a.a=L.a):L8 [#v[L.j LD],.y (.X a)]=Z (.y (.bl (SS L a))):=by
 let m:=h.n4;let c:=Zz (b:=CD 2<|Zq (Zc 0)<|Zq (Zc 1) Cz) (e:=VO) (ρ:=[.no,.no]) (λq:U (U At)×D=>D.X [LD q.1,q.2]) (λq=>D.bl<|IW (wh q.1) q.2) (L.zip a) λq f=>#[[.y<|LD q.1,.y q.2],rfl,by
  let(p,j):=h.good q.1 (NP f).1;have:=Zw5 j q.2<|hz _ (NP f).2;rwa[VO,this]]
 rw[show(L.zip a).j (λq=>D.bl<|IW (wh q.1) q.2)=((L.zip a).map λq=>IW (wh q.1) q.2).j D.bl by rw[CG];rfl]at c;let k:Fg [.O<|((L.zip a).map λq=>IW (wh q.1) q.2).j D.bl]=Z (.bl<|SS L a):=by
  erw[Fg,ZAh,Dy]
 let g:=ZD ((L.zip a).j λq=>D.X [LD q.1,q.2]) (by simp;lia);let l:Zn [.O<|L.j LD]=Z (.r ((L.j LD).a:Int)):=rfl;let d:Cc (.r a.a) (.r ((L.j LD).a:Int))=Z (.bl O'):=by rw[i,Bq];simp
 rw[<- (kA L a)]at c g;generalize L.j LD=W,((L.zip a).j λq=>IW (wh q.1) q.2).j D.bl=o at *;apply ZB rfl ?_;change VP [#v[W],.y<|.X a]=_
 rwa[VP,show CT [.tup a,.ty "tuple"]=Z (.bl J')from rfl,show ∀b,ZJ (Z<|.bl b)=Z b from λ_=>rfl,show Zn [.tup a]=Z (.int a.length)from rfl,l,d,Zj,FE,Hk,show Zy 2 [] [#v[W],.val<|.tup a]=[.no,.no]from rfl,g,c,k]
def Es(L:AQ)(g:U Nat):Prop:=g.a=L.a/\∀q∈L.zip g,q.2<=wh q.1
theorem kC:∀{L:AQ}{g:U Nat},(∀q∈L.zip g,q.2<=wh q.1)->SS L (g.j λj:Nat=>D.r j)=J'
 |[],_,_=>by simp
 |_::_,[],_=>by simp
 |b::L,j::g,h=>by
  let c:=kC (L:=L) (g:=g) λq a=>h q<|Bl _ a;simp_all [IW,wh,SS,Int.ofNat_le]
theorem PF{L:AQ}(h:Cq L){g:U Nat}(a:Es L g):L8 [#v[L.j LD],.y (AA g)]=Z (.y (.bl J')):=by
 have:=ZxR h (g.j λj:Nat=>D.r j) (λz hz=>by let(j,_,rfl):=Bm.mp hz;trivial) (by rw[Bq];show a.1);rw[kC a.2]at this;show this
abbrev gk(g:U Nat):U At:=g.j λj:Nat=>At.r j
theorem F7(g:U Nat):Ai (gk g)=AA g:=by unfold Ai gk;rw[CG];rfl
theorem Mi:∀{g g':U Nat},gk g=gk g'->g=g'
 |[],[],_=>rfl
 |[],_::_,h=>by simp at h
 |_::_,[],h=>by simp at h
 |a::g,b::g',h=>by
  erw[gk,AU,List.cons.injEq,At.int.injEq]at h;rw[Mi (g:=g) (g':=g') h.2,Int.ofNat.inj h.1]
abbrev AH(L:AQ)(rs:U Row)(gs:U (U Nat)):By:=gs.j λg=>(.X (gk g),.O (ZQ L g rs))
section
variable(L:AQ)(rs:U Row)
theorem SU(k:U At)(gs:U (U Nat)):DZ (.X k) (AH L rs gs)=J':=LH k λp a=>by
 let(g,_,rfl):=Bm.mp a;rfl
theorem PH:∀(gs:U (U Nat))(g:U Nat),Zx (AH L rs gs) (.X (gk g))=if g∈gs then Z (.O (ZQ L g rs))else J
 |[],g=>by simp[Zx]
 |x::gs,g=>by
  let a:=PH gs g;erw[AU,Zx,KT.tup.injEq];by_cases e:x=g
  .subst e;simp
  .rw[if_neg<|λz=>e<|Mi z,a];simp[BM e]
theorem XQ(neg:Bool)(gs:U (U Nat))(g:U Nat):DC neg (AA g) (.O (Zb (AH L rs gs)) .d)=Z (.bl (neg != decide (g∈gs))):=by
 let hok:=Gx<|gk g;rw[F7]at hok;rw[MS,hok];show(if DZ (.X<|gk g) (AH L rs gs)=J' then _ else _)=_
 rw[if_pos<|SU L rs _ gs,PH];by_cases c:g∈gs<;>simp[c]
theorem SV{g:U Nat}(h:g∈gs):D0 (.O (Zb (AH L rs gs)) .d) (AA g)=Z (.O (ZQ L g rs)):=by
 let hok:=Gx<|gk g;simp_all [F7,gk,AH,SU,PH]
theorem ZCF(gs:U (U Nat)):Hn [.O (Zb (AH L rs gs)) .d]=Z (.r gs.a):=by
 have:(AH L rs gs).ϭ (λp=>!El p.1)=J':=by rw[Kk,Du];show λe _=>rfl
 rwa[Hn,Fh,this,Bq]
theorem ZC7{g:U Nat}(h:g∉gs):ZZ (AH L rs gs) (.X (gk g)) (.O (ZQ L g rs))=AH L rs (gs++[g]):=by
 unfold ZZ;rw[PH,if_neg h];simp
theorem kE(g:U Nat):∀(gs:U (U Nat)),Eb (AH L rs gs) (.X (gk g))=AH L rs (gs.erase g)
 |[]=>rfl
 |x::gs=>by
  let a:=kE g gs;erw[AU,Eb,KT.tup.injEq];by_cases e:x=g
  .subst e;simp
  .rw[if_neg<|λz=>e<|Mi z,XR (by exists e)];show congrArg _ a
theorem XT(gs:U (U Nat)):((AH L rs gs).j λp=>kD p.1)=gs.j AA:=by
 rw[CG];show SW λg _=>F7 g
end
abbrev Et:U Af:=["axes","standing","tables"]
abbrev kB:Kd:=.i Et "Book"
abbrev A6(L:AQ)(R:U D)(t:Nat):Cl:=.mix kB [#v[L.j LD],#v[R],.ξ t]
abbrev BD(L:AQ)(R T:U D):D:=.O [.O (L.j LD),.O R,.O T .d] kB
theorem ZFa:(("tables":Af)=="axes")=O':=by symm
theorem ZFq:(("tables":Af)=="standing")=O':=by symm
section
variable{L:AQ}{R T:U D}{G:Gh}{b t:Nat}
theorem IX:Db "Book" "axes" (BD L R T)=Z (.O (L.j LD)):=rfl
theorem SX:Db "Book" "standing" (BD L R T)=Z (.O R):=rfl
theorem Mj:Db "Book" "tables" (BD L R T)=Z (.O T .d):=rfl
theorem G6(m:Nat)(a:m≠0)(c:G[b]?=Z (A6 L R t))(e:G[t]?=Z (.Μ .d T)):Dx m G (.ξ b)=.y (BD L R T):=by
 simp_all
theorem kF(a:G[b]?=Z (A6 L R t)):Dx 0 G (.ξ b)=.no:=by
 simp_all
theorem XU{xs:U IV}(a:G[b]?=Z (A6 L R t)):OU "Book" "tables" (xs,G) (Z b)=Z t:=by simp_all [List.lookup,ZFa,ZFq]
end
abbrev EF(n:Nat)(v:At)(q l:U At):U At:=if l.Y n .Α=v then l.ϋ (n+1)++q.ρ (n+1)else l
def rgp(a:BF)(n:Nat)(v:At)(q:U At):BF:=a.j (EF n v q)
theorem kG{p n m:Nat}{v:At}{q l:U At}(b:l.a=p)(c:n+1<p)(a:m<=n):(EF n v q l)[m]?=l[m]?:=by
 unfold EF;split
 .rw[Fd (by rw[Jc];lia),YP<|Nat.lt_succ_of_le a]
 .rfl
theorem SY{p n m:Nat}{v:At}{q l:U At}(b:l.a=p)(c:n+1<p)(a:n<m):(EF n v q l)[m]?=(if l.Y n .Α=v then q else l)[m]?/\(EF n v q l).ρ (m+1)=(if l.Y n .Α=v then q else l).ρ (m+1):=by
 split
 .let e:(l.ϋ<|n+1).a=n+1:=by rw[Jc];lia
  constructor
  .rw[G8<|le_of_eq_of_le e a,e,Lf];congr 1;show NS a
  .rw[List.drop_append,e,Lh ∅,List.drop_drop,EV];congr 1;lia
 .show#[rfl,rfl]
theorem ZBS{p n:Nat}{v:At}{q l:U At}(a:l.a=p)(b:q.a=p)(c:n+1<p):(EF n v q l).a=p:=by
 unfold EF;split
 .rw[EL,Jc,Q6];lia
 .show a
theorem ZEy{n:Nat}{v:At}{q l:U At}(b:1<=l.a):hd (EF n v q l)=hd l:=by
 unfold EF;split
 .cases l with
  |nil=>simp at b
  |cons a r=>rfl
 .rfl
theorem XV{a:BF}{n:Nat}{v:At}{q:U At}(h:∀l∈a,1<=l.a):(rgp a n v q).j hd=a.j hd:=by
 rw[rgp,CG];show SW λl b=>ZEy<|h l b
theorem GL.rgp{o:BF}{p n:Nat}(h:GL o p)(e:n+1<p)(v:At){q:U At}(w:q∈o):GL (rgp o n v q) p:=by
 let F:=h.fn;let s:∀l∈o,(if l.Y n .Α=v then q else l)∈o:=λl f=>by split<;>assumption
 apply#[by simpa[Internal.K52.rgp]using h.n1,by simpa[Internal.K52.rgp]using h.n6,h.p1,h.p4,λx g=>?_,λx g a c=>?_,?_,?_]
 .let(l,f,rfl):=Bm.mp g;show ZBS (h.ϩ l f) (h.ϩ q w) e
 .let(l,f,rfl):=Bm.mp g;unfold EF at c;split at c
  .rcases Cn.mp c with c|c
   .show h.y l f a<|List.mem_of_mem_take c
   .show h.y q w a<|List.mem_of_mem_drop c
  .show h.y l f a c
 .rw[XV λl f=>by rw[h.ϩ l f];show h.p1];show h.hdn
 .apply λy z A B m a r t=>?_;let(l1,j,rfl):=Bm.mp z;let(i,k,rfl):=Bm.mp B;by_cases b:m<=n
  .rw[kG (h.ϩ l1 j) e b]at r;rw[kG (h.ϩ i k) e b]at t;let d:=F l1 j i k m a r t;let C:l1.Y n .Α=i.Y n .Α:=by
    rcases ER m n with E|u
    .have:=congrArg (λl=>l[n-(m+1)]?) d;erw[Lf]at this;rw[show m+1+(n-(m+1))=n by lia]at this;erw[Eo,this]
    .obtain rfl:m=n:=M7 b u;erw[Eo,r,t]
   unfold EF;rw[C];split
   .rw[List.drop_append_of_le_length (by rw[Jc,h.ϩ l1 j];lia),List.drop_append_of_le_length (by rw[Jc,h.ϩ i k];lia),List.drop_take,List.drop_take,d]
   .show d
  .let b:n<m:=LL b;rw[(SY (h.ϩ l1 j) e b).1]at r;rw[(SY (h.ϩ i k) e b).1]at t;rw[(SY (h.ϩ l1 j) e b).2,(SY (h.ϩ i k) e b).2];show F _ (s l1 j) _ (s i k) m a r t
theorem Ii(b:Bool):ZJ (Z (.bl b))=Z b:=rfl
def PJ(n:Nat):D->Bool
 |.int i=>decide (0<=i)&&decide (i<(n:Int))
 |_=>O'
theorem ZzJ(L:U D)(d:D)(hd:Sm d):Vx [#v[L],.y d]=Z (.y (.bl (PJ L.a d))):=by
 let a:=Px d hd;cases d with
 |int i=>
  rw[show E8 (.r i)=J' from rfl]at a;apply ZB rfl ?_;change Pb [#v[L],‹i›]=_
  unfold PJ;rwa[Pb,a,Jm,show Iw (.int 0) (.int i)=Z (.bl<|decide<|0<=i)from rfl];cases decide (0<=i)with
  |true=>rwa[show Zn [.lst L]=Z (.int L.length)from rfl,show C9 (.int i) (.int L.length)=Z (.bl<|decide<|i<(L.length:Int))from rfl,Bool.true_and]
  |false=>rwa[Bool.false_and]
 |_=>
  apply ZB rfl ?_;change Pb [#v[L],.y _]=_
  rwa[Pb,show Z5 [.val _]=Z (.val<|.bl O')from a,PJ]
theorem ZAd{n k:Nat}(h:k<n):PJ n (.r k)=J':=by
 unfold PJ;simp;show Nat.lt_of_succ_le h
theorem kH(L:U D)(k:Nat){d:D}(h:L[k]?=Z d):Rz [#v[L],‹k›]=Z (.y d):=by
 let a:=ZzJ L (.r k) trivial;rw[ZAd<|(Cr.mp h).1]at a;apply ZB rfl ?_;change VN [#v[L],‹k›]=_
 rwa[VN,a,Ii,show As (.lst L) (.int k)=Z d from ZI h]
def PL(p:Nat):D->Bool
 |.int i=>decide (0<=i)&&decide (i<=(p:Int)-2)
 |_=>O'
theorem ZE5{a:BF}{p:Nat}(h:GL a p)(d:D)(hd:Sm d):Rs [.y (LD a),.y d]=Z (.y (.bl (PL p d))):=by
 let b:=Px d hd;let c:=kz h;rw[h.wh]at c;cases d with
 |int i=>
  rw[show E8 (.r i)=J' from rfl]at b;apply ZB rfl ?_;change Pd [.y<|LD a,‹i›]=_
  unfold PL;rwa[Pd,b,Jm,show Iw (.int 0) (.int i)=Z (.bl<|decide<|0<=i)from rfl];cases decide (0<=i)with
  |true=>rwa[c,show Iw (.int i) (.int<|(p:Int)-2)=Z (.bl<|decide<|i<=(p:Int)-2)from rfl,Bool.true_and]
  |false=>rwa[Bool.false_and]
 |_=>
  apply ZB rfl ?_;change Pd [.y<|LD a,.y _]=_
  rwa[Pd,show Z5 [.val _]=Z (.val<|.bl O')from b,PL]
theorem ZzB{p n:Nat}(h:n+1<p):PL p (.r n)=J':=by
 unfold PL;simp;lia
theorem NA{l:U At}(h:j<l.a):As (Ai l) (.r j)=Z (aD (l.Y j .Α)):=by
 show ZI (show(l.j aD)[j]?=Z (aD<|l.Y j .Α) by simp[Eo,h])
theorem kI(l:U At)(n:Nat):Ex (Ai l) J (Z ((n:Int)+1))=Z (Ai (l.ϋ (n+1))):=by
 change Z (D.X<|EQ (l.j aD) J<|some<|(n:Int)+1)=_
 rw[Vb _ _ ∅,<- List.map_take,show((n:Int)+1).θ=n+1 by show jN];rfl
theorem XW(a b:U At)(h:a.a+b.a<=1000):Zs (Ai a) (Ai b)=Z (Ai (a++b)):=by
 show(if(a.j aD).a+(b.j aD).a<=Ay then Z (D.X<|a.j aD++b.j aD)else J)=_
 rw[if_pos (show(a.j aD).a+(b.j aD).a<=Ay by simp;show Bv h (by ext)),<- Ek];rfl
theorem ZEE{a:BF}{p n:Nat}(h:GL a p)(i:n+1<p){l q:U At}(m:l∈a)(f:q∈a):Xb [.y (LD a),‹n›,.y (aD (l.Y n .Α)),.y (aD (q.Y (n+1) .Α))]=Z (.Κ ((rgp a n (l.Y n .Α) q).j Ai)):=by
 let o:=ZE5 h (.r n) trivial;rw[ZzB i]at o;let s:∀(x:U At) (j:Nat),x∈a->j<p->Sm (aD<|x.getD j .non)/\(GY (aD<|x.getD j .non)=J'\/x.getD j .non=.non):=λx j d E=>by
  let u:x.Y j .Α∈x:=by simp[Eo,show j<x.length by rw[h.len x d];show E]
  show#[(h.y x d _ u).2,.Q (h.y x d _ u).1]
 let y:=XP h n _<|s l n m<|FA i;rw[decide_eq_true ⟨l,m,rfl⟩]at y;let z:=XP h (n+1) _<|s q (n+1) f i;rw[decide_eq_true ⟨q,f,rfl⟩]at z;generalize T:l.getD n .non=v at *;generalize A:q.getD (n+1) .non=w at *;let lt:∀x∈a,n+1<x.length:=λx d=>h.ϩ x d ▸ i;let c1:=Pz (b:=Zc 0) (t:=W7) (e:=W8) (ρ:=[.no,‹n›,.y<|aD w]) Ai (λx=>Ai<|x.drop<|n+1) (λx=>decide<|x.getD (n+1) .non=w) a λx d=>#[[.y<|Ai x,‹n›,.y<|aD w],rfl,by
  let H:As (Ai x) (.r<|(n:Int)+1)=Z (aD<|x.Y (n+1) .Α):=NA<|lt x d;let i2:=SE x n;apply#[?_,?_]
  .rwa[W7,H,B8,FH,JN,KO]
  .rwa[W8,DN,DM,i2]]
 let same:∀x∈a,x.Y (n+1) .Α=w->x.ρ (n+1)=q.ρ (n+1):=λx d e=>by
  let a1:x[n+1]?=Z w:=by rw[<- e];simp[Eo,lt x d]
  let g:q[n+1]?=Z w:=by rw[<- A];simp[Eo,lt q f]
  rw[HK<|lt x d,HK<|lt q f,h.fn x d q f (n+1) w a1 g];congr 1;rw[Cb<|lt x d]at a1;rw[Cb<|lt q f]at g;show EH<|a1.E g.τ
 obtain⟨r,k⟩:∃r,a.ϯ (λx=>decide<|x.getD (n+1) .non=w)=r:=#[_,rfl];let K:∀x∈r,x.drop (n+1)=q.drop (n+1):=λx d=>by
  rw[<- k]at d;let(F,L):=K4.mp d;show same x F<|of_decide_eq_true L
 let N:q∈r:=k ▸ K4.ϡ #[f,decide_eq_true A];rw[k]at c1;let G:As (.O<|r.map λx=>Ai<|x.ρ<|n+1) (.r 0)=Z (Ai<|q.ρ<|n+1):=by
  cases r with
  |nil=>cases N
  |cons x t=>rw[AU,K x Bh];show jJ _ _
 let c2:=Zz (b:=Zc 0) (e:=W9) (ρ:=[.no,‹n›,.y<|aD v,.val<|Ai<|q.drop<|n+1]) Ai (λx=>Ai<|EF n v q x) a λx d=>#[[.y<|Ai x,‹n›,.y<|aD v,.y<|Ai<|q.ρ<|n+1],rfl,by
  let Q:=XW (x.ϋ<|n+1) (q.ρ<|n+1) (by have:=h.ϩ x d;have:=h.ϩ q f;have:=h.p4;simp;lia);unfold EF;rwa[W9,NA<|FA<|lt x d,B8,FH,JN,KO,Lm];by_cases c:x.Y n .Α=v
  .rw[decide_eq_true c,if_pos c];rwa[DN,DM,kI x n,Q]
  .rw[decide_eq_false c,if_neg c]]
 let B:=ZD (a.j Ai) (by rw[Bq];have:=h.n6;lia);rw[show a.j (λx=>Ai<|EF n v q x)=(rgp a n v q).j Ai by rw[rgp,CG];rfl]at c2;let C:Rs [#v[a.j Ai],‹n›]=Z (.y<|.bl J'):=o;let a1:KJ [#v[a.j Ai],‹n›,.y<|aD v]=Z (.y<|.bl J'):=y;let g:KJ [#v[a.j Ai],‹(n:Int)+1›,.y<|aD w]=Z (.y<|.bl J'):=z;apply ZB rfl ?_;change Xa [#v[a.j Ai],‹n›,.y<|aD v,.y<|aD w,.no]=_
 generalize a.j Ai=M at C a1 g B c1 c2 ⊢;rwa[Xa,g8,gR,C,Ii,g6,gS,a1,gZ,gT,g,gY,gU,Zj,show Zy 1 [1,3] [#v[M],‹n›,.val<|aD v,.val<|aD w,.no]=[.no,‹n›,.val<|aD w]from rfl,B,c1,G,gX,gW,show Zy 1 [1,2,4] [#v[M],‹n›,.val<|aD v,.val<|aD w,.val<|Ai<|q.drop<|n+1]=[.no,‹n›,.val<|aD v,.val<|Ai<|q.drop<|n+1]from rfl,c2,Cy]
theorem kJ:Et.Ϟ "keep"=O':=by symm
section
variable{L:AQ}{R T:U D}{G:Gh}{b t:Nat}{x:D}
variable(h0:G[b]?=Z (A6 L R t))(ht:G[t]?=Z (.Μ .d T))
include h0 ht
theorem XX:vw 2 ([.ξ b,.y x],G)=[.y (BD L R T),.y x]:=by erw[vw,AU,Dj,G6 2 (by ext) h0 ht];rfl
theorem ZGr:vw 0 ([.ξ b,.y x],G)=[.no,.y x]:=by erw[vw,AU,Dj,kF h0];rfl
end
theorem kK{L:AQ}{g:U Nat}(e:g.a=L.a){a:U Row}(b:∀r∈a,AO L r.1):∀r∈Dh (qs L g) a,r.1.a=L.a:=λr h=>by
 let(c,d,rfl):=Bm.mp h;have:=(b c d).ϩ;simp_all [qs,Mh]
abbrev EW(L:AQ)(g:U Nat)(a:U Row):U Br:=Dz (Dh (qs L g) a) []
theorem XY{L:AQ}{g:U Nat}(b:g.a=L.a){a:U Row}(c:∀r∈a,AO L r.1):Bd (EW L g a) L.a a.a:=by
 have:=Bd.tab (Dh (qs L g) a) (Bd.ϔ L.a)<|kK b c;rw[IK,show(Dh (qs L g) a).a=a.a from Bq _]at this;show this
theorem FM(m:Nat)(k:U At):BE m (Ai k)=J':=by
 show H9 λd hd=>by let(a,_,rfl):=Bm.mp hd;cases a<;>rfl
theorem XZ(a b:U At):Be (Ai a) (Ai b)=decide (a=b):=by simp_all [Ai,Xt]
theorem ZBX(g g':U Nat):Be (AA g) (AA g')=decide (g=g'):=by
 rw[<- F7,<- F7,XZ,decide_eq_decide];show#[Mi,λe=>by rw[e]]
theorem ZCz(n:Nat)(g:U Nat):A5 (n+1) (AA g)=J':=by rw[<- F7];show Md n _
theorem ZEO(g g':U Nat):B8 (AA g) (AA g')=Z (.bl (decide (g=g'))):=by
 let a:=ZBX g g';simp_all [AA,GX]
abbrev zg(L:AQ):U Nat:=L.j λ_=>0
theorem X0(L:AQ):KU L=AA (zg L):=by
 simp_all
theorem ZN{G:Gh}{b t:Nat}{c:Cl}(a:b≠t):(G.ν t c)[b]?=G[b]?:=DR<|BM a
theorem EG{G:Gh}{t:Nat}{c d:Cl}(h:G[t]?=Z d):(G.ν t c)[t]?=Z c:=Fa (Cr.mp h).1
theorem kL(L:AQ)(g:U Nat)(rs:U Row):BE 1 (.O (ZQ L g rs))=J':=by
 show H9 λd hd=>by
  let(k,_,rfl):=Bm.mp hd;have:∀k:U At,BE 1 (Ai k)=J':=λk=>by
   show H9 λd hd=>by let(a,_,rfl):=Bm.mp hd;cases a<;>rfl
  show(BE 1 (Ai k)&&(BE 1 (vC _)&&J'))=J'
  rw[this];rfl
section
variable{L:AQ}{G:Gh}{b t:Nat}{rs:U Row}{g:U Nat}
variable(h:Cq L)(hg:Es L g)(h0:G[b]?=Z (A6 L (rs.j Zd) t))(ht:G[t]?=Z (.Μ .d (Zb (AH L rs gs))))
include h hg h0 ht
theorem kM(h0:G'[b]?=Z (A6 L (rs.j Zd) t))(ht:G'[t]?=Z (.Μ .d (Zb (AH L rs gs'))))(a:g∈gs'):W0 ([.ξ b,.y (AA g)],G')=.ϸ ‹((ZQ L g rs).a:Int)› G':=by
 let c:=Mj (L:=L) (R:=rs.j Zd) (T:=Zb<|AH L rs gs');let hd:=SV L rs a;let v:=XX (x:=AA g) h0 ht;generalize ZQ L g rs=Y,AA g=e,D.lst (Zb<|AH L rs gs') .d=TT,BD L (rs.map Zd) (Zb<|AH L rs gs')=B at *;erw[W0,gQ,v,Zi,Za,Zk,A9,Ej,EU,Cp,Dy,DV,c,hd,GG,pk,show Zn [.lst Y]=Z (.int Y.length)from rfl,jE,jO,show ∀i,BE 2 (.int i)=J' from λ_=>rfl,if_true,xD,Fi,Zo]
theorem kN(a:g∈gs):L9 [.ξ b,.y (AA g)] G=Z (‹((ZQ L g rs).a:Int)›,G):=by
 let f:=PF h hg;let i:=kM h hg h0 ht h0 ht a;let l1:=IX (L:=L) (R:=rs.j Zd) (T:=Zb<|AH L rs gs);let j:=Mj (L:=L) (R:=rs.j Zd) (T:=Zb<|AH L rs gs);let c:=XQ L rs J' gs g;rw[decide_eq_true a]at c;let v:=XX (x:=AA g) h0 ht;generalize AA g=k,D.O (Zb<|AH L rs gs) .d=TT,BD L (rs.j Zd) (Zb<|AH L rs gs)=B at *;let e:Pp ([.ξ b,.y k],G)=.ϸ ‹((ZQ L g rs).a:Int)› G:=by
  erw[Pp,W4,W3,WY,v,Zf,Zk,C0,A9,Ej,EU,Cp,Dy,DV,l1,f,O3,Ii,ZM,IC,jT,C4,WZ,Za,j,c,AI,bne_self_eq_false,Zo,i]
 show Fl (fi rfl e) rfl
theorem kO(p:∀r∈rs,AO L r.1)(q:rs.a<500)(j:b≠t)(o:g∉gs)(s:gs.a<12):L9 [.ξ b,.y (AA g)] G=Z (‹((ZQ L g rs).a:Int)›,G.ν t (.Μ .d (Zb (AH L rs (gs++[g]))))):=by
 let u:=PF h hg;let a:=kM (gs':=gs++[g]) (G':=G.ν t<|.Μ .d<|Zb<|AH L rs<|gs++[g]) h hg h0 ht (by rw[ZN j];show h0) (EG ht) (by simp);let l1:=IX (L:=L) (R:=rs.j Zd) (T:=Zb<|AH L rs gs);let w:=Mj (L:=L) (R:=rs.j Zd) (T:=Zb<|AH L rs gs);let x:=SX (L:=L) (R:=rs.j Zd) (T:=Zb<|AH L rs gs);let y:DC J' (AA g) (.O (Zb<|AH L rs gs) .d)=Z (.bl J'):=by rw[XQ,decide_eq_false o];rfl
 let z:=ZCF L rs gs;let c:=ZC7 L rs o;let k:=Fh<|AH L rs gs;let hok:=Gx<|gk g;rw[F7]at hok;let l:=SU L rs (gk g) gs;let f:(AH L rs gs).a<Ay:=by rw[Bq];show B3 (show gs.a<1000 by lia) (by ext)
 let i:=j8 h hg.1 rs p q;let m:=XU (xs:=[.ξ b,.y<|AA g]) h0;let A:N9 (.r gs.a) (.r 12)=Z (.bl O'):=by
  change Z (D.bl<|decide<|(12:Int)<=(gs.a:Int))=_
  rw[decide_eq_false ∅]
 let C:=kL L g rs;let E:=G6 2 (by ext) h0 ht;let H:=G6 1 (by ext) h0 ht;generalize AH L rs (gs++[g])=n at *;generalize AA g=v,ZQ L g rs=Y,rs.j Zd=R,AH L rs gs=M,BD L (rs.j Zd) (Zb<|AH L rs gs)=B at *;suffices e:Pp ([.ξ b,.y v],G)=.ϸ ‹Y.a› (G.ν t<|.Μ .d<|Zb n)from Fl (fi rfl e) rfl
 rwa[Pp,W4,WY,E,l1,u,Ii,W3,WZ,H,w,x,y,z,A,i,Ia,C,m,Q2,ht,k,hok,l,f,c,a]
end
def Di(a b:U Nat):Bool:=Bb (gk a) (gk b)
theorem ZFK:TO Di:=#[λa b h=>Dg.asym _ _ h,λa b c h=>Dg.neg _ _ _ h,λa b d e=>Mi<|Dg.anti _ _ d e]
abbrev X1(g:U Nat):U D:=g.j λj:Nat=>D.r j
theorem kP(n:Nat):∀a b:U Nat,Gn (ltN n) (X1 a) (X1 b)=Z (Di a b)
 |[],[]=>rfl
 |[],_::_=>rfl
 |_::_,[]=>rfl
 |i::a,j::b=>by
  let d:=kP n a b;unfold Di at d ⊢;rwa[X1,gk,Gn,Bb,A5,FH]at d ⊢;by_cases c:i=j
  .subst c;erw[show ∀i:Int,Be (.int i) (.int i)=J' from λi=>beq_self_eq_true i,if_true,d]
  .let e:¬ (i:Int)=(j:Int):=Nat.ToInt.of_diseq rfl rfl c;simp_all [EE]
theorem kQ(h:gs.a<500)(c:∀g∈gs,g≠[]):Gr Gs (gs.j AA)=Z ((Zr Di gs).j AA):=XA AA ZFK J' gs h AA (λ_ _=>rfl) (λg d=>by
  cases g with
  |nil=>show absurd rfl<|c _ d
  |cons a r=>show#[_,_,rfl]) λa _ b _=>kP 5 a b
theorem PM(a:BF):BE 1 (LD a)=J':=by
 show(!vk 1 .l&&Dc 1 (a.j Ai))=J'
 rw[H9 λd hd=>by let(l,_,rfl):=Bm.mp hd;show FM 1 l];rfl
theorem S0(L:AQ):Dc 1 (L.j LD)=J':=H9 λd hd=>by let(l,_,rfl):=Bm.mp hd;show PM l
theorem X2(L:AQ)(rs:U Row):∀gs:U (U Nat),Dc 1 (Zb (AH L rs gs))=J'
 |[]=>rfl
 |g::gs=>by
  show(BE 1 (Ai<|gk g)&&(BE 1 (.O<|ZQ L g rs)&&Dc 1 (Zb<|AH L rs gs)))=J'
  rw[FM,kL,X2 L rs gs];rfl
theorem kR{L:AQ}(h:Cq L)(rs:U Row)(j:∀r∈rs,AO L r.1)(k:rs.a<500)(gs:U (U Nat))(l:gs.η)(m:∀g∈gs,g.a=L.a)(n:gs.a<=12):RW [#v[L.j LD],#v[rs.j Zd],#v[gs.j AA]]=Z (.Κ (Zb (AH L rs gs)) .d):=by
 let f:=Zz (b:=Zc 0) (e:=WW) (ρ:=[.no,#v[L.j LD],#v[rs.j Zd]]) AA (λg=>Hs (gk g,.O<|ZQ L g rs)) gs λg o=>#[[.y<|AA g,#v[L.j LD],#v[rs.j Zd]],rfl,by
  let p:=j8 h (m g o) rs j k;change _=Z (D.X [Ai<|gk g,.O<|ZQ L g rs])
  rw[F7];rwa[WW,p,Ia]]
 rw[show gs.j (λg=>Hs (gk g,.O<|ZQ L g rs))=(gs.map λg=>((gk g,.O<|ZQ L g rs):KE)).map Hs by rw[CG];rfl]at f;let i:=SO (gs.map λg=>((gk g,.O<|ZQ L g rs):KE)) [] (by
  rw[EV,CG];show List.pairwise_map.ϡ<|l.imp λa e=>a<|Mi e) (by simp;lia)
 rw[EV,show Cd (gs.j λg=>((gk g,.O<|ZQ L g rs):KE))=AH L rs gs by unfold Cd;rw[CG];rfl]at i;let q:=ZD (gs.map AA) (by simp;lia);let c:HX [] ((gs.map λg=>((gk g,.O<|ZQ L g rs):KE)).map Hs)=Z (AH L rs gs):=i;generalize L.map LD=W,rs.map Zd=R,gs.map AA=s,(gs.map λg=>((gk g,.O<|ZQ L g rs):KE)).j Hs=Y,AH L rs gs=t at *;apply ZB rfl ?_;change WX [#v[W],#v[R],#v[s]]=_
 rwa[WX,Jx,Zj,q,show Zy 1 [0,1] [#v[W],#v[R],#v[s]]=[.no,#v[W],#v[R]]from rfl,f,c,Kf]
def Fm(L a:AQ)(rs rs':U Row)(b:U (U Nat)):U D:=b.flatMap λg=>(KZ (Fk (EW L g rs)) (Fk (EW a g rs'))).j λk=>D.X [AA g,Ai k]
section
variable{L L':AQ}{rs rs':U Row}(h:Cq L)(h':Cq L')(hL:L.a=L'.a)(hr:∀r∈rs,AO L r.1)(hr':∀r∈rs',AO L' r.1)(hl:rs.a+rs'.a<500)(hg:∀g∈gs,g.a=L.a)
include h h' hL hr hr' hl
theorem ZBx{g:U Nat}(hg:g.a=L.a):RS [#v[ZQ L g rs],#v[ZQ L' g rs']]=Z (.Κ ((KZ (Fk (EW L g rs)) (Fk (EW L' g rs'))).j Ai))/\(KZ (Fk (EW L g rs)) (Fk (EW L' g rs'))).a<500:=by
 let i:=h.n4
 let f:=h.n1
 let ok:=XY hg hr
 let a:=XY (hg.E hL) hr'
 let p:=ZE Bb (Zm (EW L g rs))
 let c:=ZE Bb (Zm (EW L' g rs'))
 let l1:(Zm (EW L g rs)).a<=rs.a:=by unfold Zm;rw[Bq];show ok.ϩ
 let j:(Zm (EW L' g rs')).a<=rs'.a:=by unfold Zm;rw[Bq];show a.ϩ
 have:=ZFo (Fk (EW L g rs)) (Fk (EW L' g rs')) (by rw[SQ];show p.nodup_iff.ϡ ok.nd) (by rw[SQ];show c.nodup_iff.ϡ a.nd) (kf _) (kf _) (Zr Bb (Zm (EW L g rs))++Zr Bb (Zm (EW L' g rs')))
  (λe d=>J0 _ (by rw[<- SQ];show FG d)) (λe d=>Dt _ (by rw[<- SQ];show FG d)) (by rw[EL,p.ό,c.ό];lia) λk b=>by
   have:k.a=L.a:=by
    rcases Cn.mp b with b|b
    .show ok.kl k (p.Ϣ.mp b)
    .rw[a.kl k (c.Ϣ.mp b),hL]
   show#[λz=>by rw[z]at this;simp at this;lia,∅]
 rw[<- kc,<- kc]at this
 show this
include hg
theorem ZDR:∀(a:U (U Nat))(acc:U D)(j:Sl),(∀g∈a,g∈gs)->acc.a+500*a.a<=100000->(∀d∈acc,BE 2 d=J')->∃f,ZO (Zc 3) RV (a.j AA) [.y (.O (Zb (AH L rs gs)) .d),.y (.O (Zb (AH L' rs' gs)) .d),.Κ acc,j]=.U [.y (.O (Zb (AH L rs gs)) .d),.y (.O (Zb (AH L' rs' gs)) .d),.Κ (acc++Fm L L' rs rs' a),f]/\∀d∈acc++Fm L L' rs rs' a,BE 2 d=J':=by
 intro a;induction a with|nil=>show λacc j _ _ l=>#[j,by rw[Fm,List.flatMap_nil,Eh];rfl,by rw[Fm,List.flatMap_nil,Eh];show l]|cons g a p=>
  intro acc j o hz l;let i:=o g Bh;let(e,B):=ZBx h h' hL hr hr' hl<|hg g i;rw[show Fm L L' rs rs' (g::a)=(KZ (Fk<|EW L g rs)<|Fk<|EW L' g rs').map (λk=>D.X [AA g,Ai k])++Fm L L' rs rs' a from List.flatMap_cons,<- Dr];generalize KZ (Fk<|EW L g rs) (Fk<|EW L' g rs')=ks at *;let q:=SV L rs i;let r:=SV L' rs' i;let s:=Zz (b:=Zc 0) (e:=WR) (ρ:=[.no,.val<|AA g]) Ai (λk=>D.X [AA g,Ai k]) ks λk _=>#[[.y<|Ai k,.y<|AA g],rfl,by
   rwa[WR]]
  let t:=ZD (ks.j Ai) (by simp;lia);let u:∀d∈(ks.j λk=>D.X [AA g,Ai k]),BE 2 d=J':=λd hd=>by
   let(k,_,rfl):=Bm.mp hd;show(BE 2 (AA g)&&(BE 2 (Ai k)&&J'))=J'
   rw[<- F7,FM,FM];rfl
  let c:(ks.j λk=>D.X [AA g,Ai k]).a=ks.a:=by simp
  rw[Cw]at hz;let m:acc.a+(ks.j λk=>D.X [AA g,Ai k]).a<=Ay:=Bv (show _<=100000 by rw[c];lia) (by ext);let v:RV [.y<|.lst (Zb<|AH L rs gs) .d,.val<|.lst (Zb<|AH L' rs' gs) .d,.own acc,.val<|AA g]=.next [.val<|.lst (Zb<|AH L rs gs) .d,.val<|.lst (Zb<|AH L' rs' gs) .d,.own<|acc++ks.map λk=>D.X [AA g,Ai k],.y<|AA g]:=by
   generalize AA g=C,D.O (Zb<|AH L' rs' gs) .d=w,D.lst (Zb<|AH L rs gs) .d=y,ZQ L g rs=E,ZQ L' g rs'=G,(ks.map λk=>D.X [AA g,Ai k])=Y at *;erw[RV,Zj,show Zy 1 [3] [.val y,.val w,.own acc,.val C]=[.no,.val C]from rfl,Zf,Za,A9,Ej,EU,Cp,q,r,DV,Dy,Zk,e,Ia,Zu,t,s,MO,EO,if_pos m,Gv,F5,Ze]
  let(f,z,n):=p (acc++ks.j λk=>D.X [AA g,Ai k]) (.y<|AA g) (λx A=>o x<|Bl _ A) (by rw[EL,c];lia) (λd hd=>by
   rcases Cn.mp hd with hd|hd
   .show l d hd
   .show u d hd)
  apply#[f,?_,n];rw[AU];erw[ZO,show Zc 3 (AA g) [.val<|.lst (Zb<|AH L rs gs) .d,.val<|.lst (Zb<|AH L' rs' gs) .d,.own acc,j]=Z [.val<|.lst (Zb<|AH L rs gs) .d,.val<|.lst (Zb<|AH L' rs' gs) .d,.own acc,.val<|AA g]from rfl,v,z]
theorem ZE4(f:gs.a<=12):WU [.y (.O (Zb (AH L rs gs)) .d),.y (.O (Zb (AH L' rs' gs)) .d)]=Z (.Κ (Fm L L' rs rs' (Zr Di gs)))/\Dc 2 (Fm L L' rs rs' (Zr Di gs))=J':=by
 let i:=h.n1;let j:JH (Z<|.O (Zb<|AH L rs gs) .d)=Z ((Zr Di gs).j AA):=by
  show(EA<|Zb<|AH L rs gs).bind (λa=>Gr Gs<|a.map λp=>kD p.1)=_
  rw[Fh];change Gr Gs ((AH L rs gs).j λp=>kD p.1)=_
  rw[XT];show kQ ∅ λg b z=>by have:=hg g b;rw[z]at this;simp at this;lia
 let(k,e,c):=ZDR h h' hL hr hr' hl hg (Zr Di gs) [] .no (λg b=>(ZE Di _).Ϣ.mp b) (by rw[(ZE Di _).ό];simp;lia) (λ_ h=>nomatch h);rw[EV]at e c;apply#[?_,H9 c];generalize D.O (Zb<|AH L rs gs) .d=l,D.O (Zb<|AH L' rs' gs) .d=m,Fm L L' rs rs' (Zr Di gs)=n at *;apply ZB rfl ?_;change WT [.y l,.y m,.no,.no]=_
 rwa[WT,show Zh (Z ([]:U D))=Z []from rfl,Dn,Z8,j,e,EO,Cy]
end
theorem kS{G:Gh}{q m:Nat}(a:m≠0)(h:G[q]?=Z (.Μ .d xs)):Dx m G (.ξ q)=.y (.O xs .d):=by
 simp_all
theorem IY{G:Gh}{n:Nat}{c d:Cl}(h:G[n]?=Z c):(G++[d])[n]?=Z c:=by
 rw[Fd (Cr.mp h).1];show h
theorem kT{L a:AQ}(h:Cq L)(h':Cq a)(s:L.a=a.a){rs rs':U Row}(A:∀r∈rs,AO L r.1)(c:∀r∈rs',AO a r.1)(u:rs.a+rs'.a<500)(B:gs.η)(v:∀g∈gs,g.a=L.a)(f:gs.a<=12){G:Gh}{b t:Nat}(i:G[b]?=Z (A6 a (rs'.j Zd) t))(k:G[t]?=Z (.Μ .d (Zb (AH L rs gs))))(n:b≠t):RZ [.ξ b] G=Z (.ξ (G.a+1),G.ν b (A6 a (rs'.j Zd) G.a)++[.Μ .d (Zb (AH a rs' gs)),.Μ .l (Fm L a rs rs' (Zr Di gs))]):=by
 let(e,C):=ZE4 h h' s A c u v f;generalize Fm L a rs rs' (Zr Di gs)=E at *;let o:=kR h' rs' c (Nat.lt_of_add_left_lt u) gs B (λg H=>(v g H).E s) f;let K:=X2 a rs' gs;let p:LR [.O (Zb<|AH L rs gs) .d]=Z (gs.j AA):=by rw[cZ,XT]
 generalize N:rs'.j Zd=R at *;generalize Zb (AH a rs' gs)=j,Zb (AH L rs gs)=m at *;let q:(G.ν b (A6 a R G.a)++[Cl.Μ .d j])[G.a]?=Z (.Μ .d j):=by
  rw[G8 (by simp)];simp
 let F:Dx 2 (G.ν b (A6 a R G.a)++[Cl.Μ .d j]) (.ξ t)=.y (.O m .d):=kS (by ext)<|IY (by rw[ZN<|BM n];show k);suffices M:Xc ([.ξ b,.no],G)=.ϸ (.ξ<|G.a+1) (G.ν b (A6 a R G.a)++[.Μ .d j,.Μ .l E])from Fl (fi rfl M) rfl
 rwa[Xc,h9,hW,XU i,xP,Option.bind_some,if_pos (Cr.mp k).1,h8,hX,G6 1 (by ext) i k,show Dx 1 G (.cel t)=.val (.lst m .d)from kS (by ext) k,Ir,Ff,IX (L:=a) (R:=R) (T:=m),SX (L:=a) (R:=R) (T:=m),p,o,Qn,jG,jL,K,GV,IY i,true_and,show(3:Nat)<1000 by ext,show Internal.putN "tables" Et=Et by symm,show ∀x y w z:IV,D2 "tables" z Et [x,y,w]=[x,y,z]from λx y w z=>by erw[D2,if_neg (show ¬ ("axes":Af)="tables" by symm),if_neg (show ¬ ("standing":Af)="tables" by symm),if_true],List.set_append_left _ _ (Cr.mp i).1,h7,hZ,G6 2 (by ext) (IY<|EG i) q,F,FY,Mj (L:=a) (R:=R) (T:=j),e,FW,C,EL,Jg,Dr,GF,EV]
theorem ZCM:Et.Ϟ "put_ladder"=O':=by symm
theorem kU:Et.Ϟ "tables_renewed"=O':=by symm
theorem ZF9{L:AQ}{k:Nat}(b:k<L.a)(a:BF):((L.j LD).ϋ k++[LD a])++(L.j LD).ρ (k+1)=(L.ν k a).j LD:=by
 rw[List.map_set,List.set_eq_take_append_cons_drop,if_pos (by exists b)];simp
section
variable{L:AQ}{R T:U D}{G:Gh}{b t k:Nat}(hb:G[b]?=Z (A6 L R t))(ht:G[t]?=Z (.Μ .d T))
include hb ht
theorem kW(m:Nat)(a:m≠0):Dx m G (.ξ b)=.y (BD L R T):=G6 m a hb ht
theorem kX(d:k<L.a)(m:L.a<=4)(a:BF):No [.ξ b,‹k›,.y (LD a)] G=Z (.y .Α,G.ν b (A6 (L.ν k a) R t)):=by
 let e:=kW hb ht 1 (by ext);let a1:=IX (L:=L) (R:=R) (T:=T);let c1:EQ (L.j LD) J (Z (k:Int))=(L.j LD).ϋ k:=Vb _ _<|KC k;let c2:EQ (L.j LD) (Z<|(k:Int)+1) J=(L.j LD).ρ (k+1):=by rw[Vc _ _ ∅,show((k:Int)+1).θ=k+1 by show jN]
 let f:=ZF9 d a;let g:BE 1 (.O<|(L.ν k a).j LD)=J':=by
  show(!vk 1 .l&&Dc 1 ((L.ν k a).j LD))=J'
  rw[S0];rfl
 let h:Zs (.O<|(L.j LD).ϋ k) (.O [LD a])=Z (.O<|(L.j LD).ϋ k++[LD a]):=by erw[Zs,if_pos (show((L.map LD).take k).length+[LD a].length<=Ay from Bv (show _<=10 by simp;lia) (by ext))]
 let i:Zs (.O<|(L.j LD).ϋ k++[LD a]) (.O<|(L.j LD).ρ<|k+1)=Z (.O<|(L.ν k a).j LD):=by erw[Zs,if_pos (show((L.map LD).take k++[LD a]).length+((L.map LD).drop<|k+1).length<=Ay from Bv (show _<=10 by simp;lia) (by ext)),f]
 let c:G[b]?=Z (.mix kB [#v[L.j LD],#v[R],.ξ t]):=hb;change _=Z (IV.y .Α,G.ν b<|.mix kB [#v[(L.ν k a).j LD],#v[R],.ξ t])
 generalize LD a=X,L.j LD=n,(L.ν k a).j LD=Y,(L.j LD).ϋ k=o,(L.j LD).ρ (k+1)=p at *;let j:Vp ([.ξ b,‹k›,.y X],G)=.U ([.ξ b,‹k›,.y X],G.ν b<|.mix kB [#v[Y],#v[R],.ξ t]):=by
  rwa[Vp,e,a1,DN,DM,Ex,c1,c2,h,i,g,GV,c,true_and,show(3:Nat)<1000 by ext,show Internal.putN "axes" Et=Et by symm,show ∀x y w z:IV,D2 "axes" z Et [x,y,w]=[z,y,w]from λx y w z=>by erw[D2,if_true]]
 show Fl (fi rfl j) rfl
theorem vw5(m:Nat)(a:m≠0)(x y z u:D):vw m ([.ξ b,.y x,.y y,.y z,.y u],G)=[.y (BD L R T),.y x,.y y,.y z,.y u]:=by
 simp_all
theorem ZGc(x y z u:D):vw 0 ([.ξ b,.y x,.y y,.y z,.y u],G)=[.no,.y x,.y y,.y z,.y u]:=by
 simp_all
theorem kY:Ep "Book" "put_ladder" (A6 L R t)=J':=by rwa[Ep,ZCM]
end
theorem Cq.set{L:AQ}(h:Cq L)(k:Nat){b:BF}{p:Nat}(c:GL b p):Cq (L.ν k b):=#[by simpa using h.n1,by simpa using h.n4,λx a=>by
 rcases UU a with a|rfl
 .show h.good x a
 .show#[p,c]]
theorem AO.set{b c:BF}(d:∀a∈c.j hd,a∈b.j hd):∀{L:AQ}{s:U At}{k:Nat},AO L s->L[k]?=Z c->AO (L.ν k b) s
 |_,_,_,.nil,_=>.ϔ
 |_,_,0,.cons h t,e=>by cases e;show .Θ (d _ h) t
 |_,_,k+1,.cons h t,e=>.Θ h<|AO.ν d t (by exists e)
section
variable{L:AQ}{G:Gh}{b t k n p:Nat}{rs:U Row}(h:Cq L)(hb:G[b]?=Z (A6 L (rs.j Zd) t))(ht:G[t]?=Z (.Μ .d (Zb (AH L rs gs))))(hbt:b≠t)(hr:∀r∈rs,AO L r.1)(hl:rs.a<=100)(hn:gs.η)(hgs:∀g∈gs,g.a=L.a)(h12:gs.a<=12){ls:BF}(hL:L[k]?=Z ls)(hg:GL ls p)
include h hb ht hbt hr hl hn hgs h12 hL hg
theorem ZCe(f:n+1<p){l q:U At}(i:l∈ls)(m:q∈ls){v:At}(o:l.Y n .Α=v):R7 [.ξ b,‹k›,‹n›,.y (aD v),.y (aD (q.Y (n+1) .Α))] G = Z (.ξ (G.a+1),G.ν b (A6 (L.ν k (rgp ls n v q)) (rs.j Zd) G.a)++[.Μ .d (Zb (AH (L.ν k (rgp ls n v q)) rs gs)),.Μ .l (Fm L (L.ν k (rgp ls n v q)) rs rs (Zr Di gs))]):=by
 let g:=ZEE hg f i m;rw[o]at g;let e:=kT h (h.ν k<|hg.rgp f v m) (by simp) hr (λr i=>(hr r i).ν (λa s=>by rw[XV λl hl=>hg.ϩ l hl ▸ hg.p1];show s) hL) ∅ hn hgs h12 (G:=G.ν b<|A6 (L.ν k<|rgp ls n v q) (rs.j Zd) t) (EG hb) (by rw[ZN<|BM hbt];show ht) hbt;rw[Jg,List.set_set]at e;generalize Fm L (L.ν k<|rgp ls n v q) rs rs (Zr Di gs)=u at *;let w:=vw5 hb ht 1 (by ext) (.r k) (.r n) (aD v)<|aD<|q.Y (n+1) .Α;let x:=ZGc hb ht (.r k) (.r n) (aD v)<|aD<|q.Y (n+1) .Α;let a1:=IX (L:=L) (R:=rs.j Zd) (T:=Zb<|AH L rs gs);let y:=kH (L.j LD) k (d:=LD ls) (by rw[CM,hL];rfl);let z:BE 1 (.O<|(rgp ls n v q).j Ai)=J':=PM _;let lb:=(Cr.mp hb).1;let j:No [.ξ b,‹k›,#v[(rgp ls n v q).j Ai]] G=Z (.y .Α,G.ν b<|A6 (L.ν k<|rgp ls n v q) (rs.j Zd) t):=(kX hb ht ((Cr.mp hL).1) h.n4<|rgp ls n v q);generalize aD (q.Y (n+1) .Α)=W,(rgp ls n v q).j Ai=Y,LD ls=A,aD v=V at *;let B:Xf ([.ξ b,‹k›,‹n›,.y V,.y W],G)=.ϸ (.ξ<|G.a+1) (G.ν b (A6 (L.ν k<|rgp ls n v q) (rs.j Zd) G.a)++[.Μ .d<|Zb<|AH (L.ν k<|rgp ls n v q) rs gs,.Μ .l u]):=by
  simp only[Xf,DQ,show ∀C:Gh,Bw (([.cel b,‹k›,‹n›,.val V,.val W]:U IV),C) 0=Z b from λ_=>rfl,hb,kY hb ht,lb,and_self,if_true,jE,w,x,Bf,A9,C0,Ej,EU,Cp,a1,jO,OX,z,Dy,Zk,DV,Zf,y,O3,g,Ia,j,C5,Zo,EG (c:=A6 (L.set k<|rgp ls n v q) (rs.map Zd) t) hb,show Ep "Book" "tables_renewed" (A6 (L.set k<|rgp ls n v q) (rs.map Zd) t)=J' by rwa[Ep,kU],show b<(G.set b<|A6 (L.set k<|rgp ls n v q) (rs.map Zd) t).length by rw[Jg];show lb,e,Fi]
 show Fl (fi rfl B) rfl
end
theorem Z7{G:Gh}{q:Nat}(h:G[q]?=Z (.Μ .l xs)):Dx 2 G (.ξ q)=#v[xs]:=by
 simp_all
theorem PN{G:Gh}{q:Nat}(h:G[q]?=Z (.Μ .l xs)):Dx 1 G (.ξ q)=.gV xs:=by
 simp_all
theorem kZ{G:Gh}{n:Nat}{c:Cl}(h:G[n]?=Z c):G.ν n c=G:=by
 apply(Kh);intro i;by_cases e:n=i
 .subst e;rw[EG h,h]
 .rw[DR e]
theorem ZCj(rs:U Row)(r:Row)(d:rs.a<100){G:Gh}{n:Nat}(h:G[n]?=Z (.Μ .l (rs.j Zd))):Vh [.ξ n,.y (Zd r)] G=Z (.y .Α,G.ν n (.Μ .l ((rs++[r]).j Zd))):=by
 let b:N9 (.r ((rs.j Zd).a:Int)) (.r 200)=Z (.bl O'):=by
  change Z (D.bl<|decide<|(200:Int)<=((rs.j Zd).a:Int))=_
  grind [Bq]
 let c:(rs.j Zd).a<Ay:=by rw[Bq];show B3 (show rs.a<1000 by lia) (by ext)
 let a:Zn [.O<|rs.j Zd]=Z (.r ((rs.j Zd).a:Int)):=rfl;rw[Ek,AU,Dj];generalize rs.j Zd=R,Zd r=f at *;let e:Vg ([.ξ n,.y f],G)=.U ([.ξ n,.y f],G.ν n<|.Μ .l<|R++[f]):=by
  rwa[Vg,Z7 h,a,b,Fj,h,if_pos c]
 show Fl (fi rfl e) rfl
theorem S3(r:Row):BE 2 (Zd r)=J':=by
 show(BE 2 (Ai r.1)&&(BE 2 (.r r.2)&&J'))=J'
 rw[FM];rfl
theorem k6(rs:U Row):Dc 2 (rs.j Zd)=J':=H9 λd hd=>by let(r,_,rfl):=Bm.mp hd;show S3 r
theorem X3(r s:Row):Be (Zd r) (Zd s)=decide (r=s):=by
 let(k,x):=r;let(l,y):=s;show(Be (Ai k) (Ai l)&&(Be (.r x) (.r y)&&J'))=_
 rw[XZ];simp[Prod.ext_iff]
theorem S5(n:Nat)(r:Row):A5 (n+2) (Zd r)=J':=by
 show(A5 (n+1) (Ai r.1)&&(A5 (n+1) (.r r.2)&&J'))=J'
 rw[Md];rfl
theorem k7(rs:U Row):(rs.j Zd).ϭ (A5 12)=J':=by
 rw[Du];intro d hd;let(r,_,rfl):=Bm.mp hd;show S5 10 r
theorem ZCd(r:Row)(rs:U Row):GJ (Zd r) (rs.j Zd)=decide (r∈rs):=by
 unfold GJ;induction rs with|nil=>rfl|cons s rs a=>
  rw[AU,List.any_cons,a,X3];by_cases c:s=r
  .subst c;simp
  .have:¬ r=s:=λe=>c e.τ;simp[c,this]
theorem k8(r:Row):∀rs:U Row,r∈rs->∃j,(rs.j Zd).findIdx? (λz=>Be z (Zd r))=Z j/\(rs.j Zd).Ε j=(rs.erase r).j Zd
 |s::rs,h=>by
  by_cases c:s=r
  .subst c;show#[0,by simp[List.findIdx?_cons,X3],by simp]
  .let a:r∈rs:=by
    rcases Bx.mp h with e|h
    .show absurd e.τ c
    .show h
   let(j,b,d):=k8 r rs a;apply#[j+1,?_,?_]
   .erw[AU,List.findIdx?_cons,X3,decide_eq_false c,b,FU,if_false,Dy]
   .rw[XR (by exists c)];erw[AU,U7,d]
theorem ZCw{rs:U Row}{r:Row}(a:r∈rs){G:Gh}{n:Nat}{xs:U IV}(h:G[n]?=Z (.Μ .l (rs.j Zd))):OW (Z n) (Z (Zd r)) (xs,G)=Z (.y .Α,G.ν n (.Μ .l ((rs.erase r).j Zd))):=by
 let(j,b,c):=k8 r rs a;erw[OW,h,FH,S5 10 r,k7 rs,GX,if_true,b,Dy,c]
theorem Zzu{rs:U Row}{r:Row}(a:r∈rs){G:Gh}{n:Nat}(h:G[n]?=Z (.Μ .l (rs.j Zd))):Vj [.ξ n,.y (Zd r)] G=Z (.y .Α,G.ν n (.Μ .l ((rs.erase r).j Zd))):=by
 let b:D9 J' (Zd r) (.O<|rs.j Zd)=Z (.bl O'):=by
  erw[D9,FH,S5 10 r,k7 rs,ZCd,decide_eq_true a,GX,if_true,IC]
 let c:=ZCw a h (xs:=[.ξ n,.y<|Zd r]);generalize rs.j Zd=R,Zd r=f,(rs.erase r).j Zd=d at *;let e:Vi ([.ξ n,.y f],G)=.U ([.ξ n,.y f],G.ν n<|.Μ .l d):=by
  rwa[Vi,Z7 h,b,c]
 show Fl (fi rfl e) rfl
def CY(rs:U Row)(c:Er):U Row:=bif c.1 then rs++[c.2]else rs.erase c.2
theorem k9(rs:U Row)(c:Er):(CY rs c).a<=rs.a+1:=by
 unfold CY;cases c.1
 .show GQ<|List.length_erase_le ..
 .simp
theorem X4{rs rs':U Row}(c:Er)(h:rs.Ϧ rs'):(CY rs c).Ϧ (CY rs' c):=by
 unfold CY;cases c.1
 .show h.erase _
 .show h.ϙ _
theorem ZAi{rs:U Row}{c:Er}{r:Row}(h:r∈CY rs c):r∈rs\/r=c.2:=by
 unfold CY at h;cases a:c.1 with
 |true=>rw[a]at h;exists h
 |false=>rw[a]at h;show .Q<|List.mem_of_mem_erase h
def Ij(L:AQ):U Row->U Er->Prop
 |_,[]=>True
 |a,c::b=>(AO L c.2.1/\(c.1=O'->c.2∈a))/\Ij L (CY a c) b
theorem Zvj{L:AQ}(h:Cq L)(a d:IV){rs:U Row}(g:rs.a<100){c:Er}(i:AO L c.2.1)(j:c.1=O'->c.2∈rs){G:Gh}{n:Nat}(e:G[n]?=Z (.Μ .l (rs.j Zd))):Sa ([#v[L.j LD],a,d,.ξ n,.y (Ce c)],G)=.U ([#v[L.j LD],a,d,.ξ n,.y (Ce c)],G.ν n (.Μ .l ((CY rs c).j Zd))):=by
 unfold Sa CY;let f:=ZBt h c i;let(b,r):=c;cases b with
 |true=>rwa[f,Ii,show As (Ce (J',r)) (.int 0)=Z (Ih J')from rfl,show As (Ce (J',r)) (.int 1)=Z (Ai r.1)from rfl,show As (Ce (J',r)) (.int 2)=Z (.int r.2)from rfl,kh J',show D.tup [Ai r.1,.int r.2]=Zd r from rfl,S3 r,ZCj rs r g e,cond_true]
 |false=>rwa[f,Ii,show As (Ce (O',r)) (.int 0)=Z (Ih O')from rfl,show As (Ce (O',r)) (.int 1)=Z (Ai r.1)from rfl,show As (Ce (O',r)) (.int 2)=Z (.int r.2)from rfl,kh O',show D.tup [Ai r.1,.int r.2]=Zd r from rfl,S3 r,Zzu (j rfl) e,cond_false]
theorem lc{L:AQ}(h:Cq L)(b d:IV){n:Nat}:∀(cs:U Er)(rs:U Row)(e:IV)(G:Gh),rs.a+cs.a<100->Ij L rs cs->G[n]?=Z (.Μ .l (rs.j Zd))->∃a,F4 4 Sa (cs.j Ce) ([#v[L.j LD],b,d,.ξ n,e],G)=.U ([#v[L.j LD],b,d,.ξ n,a],G.ν n (.Μ .l ((cs.Χ CY rs).j Zd)))
 |[],rs,e,G,_,_,f=>#[e,by rw[List.foldl_nil,kZ f];rfl]
 |c::cs,rs,e,G,g,⟨⟨j,k⟩,m⟩,f=>by
  erw[Cw]at g;have:=k9 rs c;let(a,i):=lc h b d cs (CY rs c) (.y<|Ce c) (G.ν n<|.Μ .l<|(CY rs c).j Zd) ∅ m<|EG f;apply⟨a,?_⟩;rw[List.set_set]at i;erw[AU,F4,Gv,F5,Zvj h b d (GI g) j k f];show i
theorem S7{L:AQ}:∀(cs:U Er){rs:U Row},(∀r∈rs,AO L r.1)->Ij L rs cs->∀r∈cs.Χ CY rs,AO L r.1
 |[],_,h,_=>h
 |c::cs,rs,h,⟨⟨b,_⟩,d⟩=>S7 cs (λr a=>by
  rcases ZAi a with a|rfl
  .show h r a
  .show b) d
theorem PP:∀(cs:U Er)(rs:U Row),(cs.Χ CY rs).a<=rs.a+cs.a
 |[],_=>AX _
 |c::cs,rs=>by
  have:=k9 rs c;have:=PP cs<|CY rs c;rw[M8,Cw];lia
theorem lf:∀(cs:U Er){rs rs':U Row},rs.Ϧ rs'->(cs.Χ CY rs).Ϧ (cs.Χ CY rs')
 |[],_,_,h=>h
 |c::cs,_,_,h=>lf cs<|X4 c h
theorem ZuS{L:AQ}(h:Cq L){rs:U Row}(d:∀r∈rs,AO L r.1){cs:U Er}(f:rs.a+cs.a<100)(c:Ij L rs cs)(G:Gh):Xh [#v[L.j LD],#v[rs.j Zd],#v[cs.j Ce]] G=Z (#v[(Zr Dm (cs.Χ CY rs)).j Zd],G++[.Μ .l ((cs.Χ CY rs).j Zd)]):=by
 let(o,e):=lc h #v[rs.j Zd] #v[cs.j Ce] (n:=G.a) cs rs .no (G++[.Μ .l<|rs.map Zd]) f c (by simp);let sp:=S7 cs d c;let ln:=PP cs rs;generalize cs.foldl CY rs=a at *;rw[show(G++[Cl.dat .l<|rs.map Zd]).set G.length (.dat .l<|a.map Zd)=G++[.dat .l<|a.map Zd] by simp]at e;let p:=h.n4;let g:=Zwa a ∅ λr i=>by have:=(sp r i).ϩ;lia
 let b:Dx 2 (G++[.Μ .l<|a.j Zd]) (.ξ G.a)=#v[a.j Zd]:=Z7 (by simp);let j:=k6<|Zr Dm a;let k:=k6 rs;generalize L.j LD=q,cs.j Ce=C,a.j Zd=W,(Zr Dm a).j Zd=Y,rs.j Zd=R at *;suffices m:Xg ([#v[q],#v[R],#v[C],.no,.no],G)=.ϸ #v[Y] (G++[.Μ .l W])from Fl (fi rfl m) rfl
 rwa[Xg,io,ie,Ff,show He [.lst R]=Z R from rfl,jG,jL,k,im,ig,Kz,JD,e,ik,ii,b,LP,g,j,xF]
theorem ZzE:Et.Ϟ "pour"=O':=by symm
theorem ZwB(rs:U Row):BE 1 (.O (rs.j Zd))=J':=by
 show(!vk 1 .l&&Dc 1 (rs.j Zd))=J'
 rw[H9 λd hd=>by
  let(r,_,rfl):=Bm.mp hd;show(BE 1 (Ai r.1)&&(BE 1 (.r r.2)&&J'))=J'
  rw[FM];rfl];rfl
structure BS(L:AQ)(rs:List Row)(gs:List (List Nat))(b:Nat)(G:Gh):Prop where
 gl:Cq L
 sp:∀r∈rs,AO L r.1
 nd:gs.η
 gn:∀g∈gs,g.a=L.a
 g12:gs.a<=12
 bk:∃t,G[b]?=Z (A6 L (rs.j Zd) t)/\G[t]?=Z (.Μ .d (Zb (AH L rs gs)))/\b≠t
structure RN(L:AQ)(rs:List Row)(gs:List (List Nat))(b j:Nat)(Y:List D)(G G':Gh):Prop where
 bs:BS L rs gs b G'
 tl:G'[j]?=Z (.Μ .l Y)
 jb:G.a<=j
 tj:∀t,G'[b]?=Z (A6 L (rs.j Zd) t)->t≠j/\G.a<=t
 ex:∀i,i≠b->i<G.a->G'[i]?=G[i]?
theorem ZzD{L:AQ}{rs:U Row}{b:Nat}{G:Gh}(s:BS L rs gs b G){cs:U Er}(F:rs.a+cs.a<100)(A:Ij L rs cs):∃j G',Xk [.ξ b,#v[cs.j Ce]] G=Z (.ξ j,G')/\RN L (Zr Dm (cs.Χ CY rs)) gs b j (Fm L L rs (Zr Dm (cs.Χ CY rs)) (Zr Di gs)) G G':=by
 let(h,o,B,E,k,t,g,H,m):=s;let M:=ZuS h o F A G;let lb:=(Cr.mp g).1;let c:=ZE Dm<|cs.foldl CY rs;let ln:=PP cs rs;let sp:=S7 cs o A;generalize cs.foldl CY rs=a at *;let e:=kT h h rfl (rs:=rs) (rs':=Zr Dm a) o (λr p=>sp r<|c.Ϣ.mp p) (by rw[c.ό];lia) (gs:=gs) B E k (EG<|IY g) (show((G++[Cl.Μ .l<|a.j Zd]).ν b<|A6 L ((Zr Dm a).j Zd) t)[t]?=Z (.Μ .d<|Zb<|AH L rs gs) by rw[ZN<|BM m];show IY H) m;rw[List.set_set]at e;let ll:((G++[Cl.Μ .l<|a.j Zd]).ν b<|A6 L ((Zr Dm a).j Zd) t).a=G.a+1:=by simp
 rw[ll]at e;generalize Fm L L rs (Zr Dm a) (Zr Di gs)=q at *;let f:((G++[Cl.Μ .l<|a.j Zd]).ν b (A6 L ((Zr Dm a).j Zd)<|G.a+1)++[Cl.Μ .d<|Zb<|AH L (Zr Dm a) gs,.Μ .l q])[b]?=Z (A6 L ((Zr Dm a).j Zd)<|G.a+1):=by
  rw[Fd (by simp;lia)];show EG<|IY g
 apply#[G.a+1+1,(G++[Cl.Μ .l<|a.map Zd]).set b (A6 L ((Zr Dm a).map Zd)<|G.length+1)++[Cl.dat .d<|Zb<|AH L (Zr Dm a) gs,.dat .l q],?_,⟨h,(λr p=>sp r<|c.mem_iff.mp p),B,E,k,G.length+1,f,?_,∅⟩,?_,∅,λt' P=>?_,λi u n=>?_]
 .let K:BE 1 (.O<|L.j LD)=J':=by
   show(!vk 1 .l&&Dc 1 (L.j LD))=J'
   rw[S0];rfl
  let Q:=ZwB rs;let a1:=IX (L:=L) (R:=rs.j Zd) (T:=Zb<|AH L rs gs);let N:=SX (L:=L) (R:=rs.j Zd) (T:=Zb<|AH L rs gs);let u:Ep "Book" "tables_renewed" (A6 L ((Zr Dm a).j Zd) t)=J':=by rwa[Ep,kU]
  clear f;generalize cs.j Ce=C,(G++[Cl.Μ .l<|a.j Zd]).ν b (A6 L ((Zr Dm a).j Zd)<|G.a+1)++[Cl.Μ .d<|Zb<|AH L (Zr Dm a) gs,.Μ .l q]=Y,BD L (rs.j Zd) (Zb<|AH L rs gs)=B1,rs.j Zd=R0 at *;suffices e2:Xj ([.ξ b,#v[C]],G)=.ϸ (.ξ<|G.a+1+1) Y from Fl (fi rfl e2) rfl
  rwa[Xj,G6 1 (by ext) g H,a1,N,K,Q,M,GV,IY g,IK,G5,true_and,show(3:Nat)<1000 by ext,and_self,show Internal.putN "standing" Et=Et by symm,show ∀x y w z:IV,D2 "standing" z Et [x,y,w]=[x,z,w]from λx y w z=>by erw[D2,if_neg (show ¬ ("axes":Af)="standing" by symm),if_true],DQ,EG<|IY g,u,show b<((G++[Cl.dat .l<|a.map Zd]).set b<|A6 L ((Zr Dm a).map Zd) t).length by rw[ll];show Nat.lt_add_right 1 lb,e]
 .rw[G8 (by simp)];simp
 .rw[G8 (by simp)];simp
 .rw[f]at P;have:=EH P;simp[A6]at this;lia
 .rw[Fd (by simp;show Nat.lt_add_right 1 n),ZN u,Fd n]
theorem lg{d:D}(h:A5 12 d=J'):Cc d d=Z (.bl O'):=by
 have:=TZ 12 _ h;erw[Cc,FH,h,this,GX,if_true,IC]
theorem Es.of{L:AQ}{g:U Nat}(c:g.a=L.a)(h:∀k (a:k<L.a) (b:k<g.a),g[k]<=wh L[k]):Es L g:=#[c,λq d=>by
 let(k,e,rfl):=List.getElem_of_mem d;let a:k<L.a:=by erw[List.length_zip]at e;lia
 let b:k<g.a:=∅
 have:=h k a b;simpa[List.getElem_zip]using this]
theorem lh{L:AQ}(h:Cq L)(c:Int):∃g,Es L g/\L6 [#v[L.j LD],‹c›]=Z (.y (AA g)):=by
 let C:=h.n4;let(a,e,m,E):=KP c L.a ∅;letI g:U Nat:=(BI L.a).j λk=>(a.Y k 0%((wh (L.Y k [])+1:Nat):Int)).θ;apply#[g,Es.of (show g.a=L.a by simp[g]) λk o G=>?_,?_]
 .let H:=JP (a.Y k 0) (show(0:Int)<((wh L[k]+1:Nat):Int) by show Int.ofNat_succ_pos (wh L[k]));rw[List.getElem_map,List.getElem_range,show L.Y k []=L[k] by simp[Eo,o]];lia
 .let q:=Zz (b:=Zc 0) (e:=VC) (ρ:=[.no,#v[a.j D.r],#v[L.j LD]]) (λk:Nat=>D.r k) (λk=>D.r (((a.Y k 0%((wh (L.Y k [])+1:Nat):Int)).θ:Nat):Int)) (BI L.a) λk s=>#[[‹k›,#v[a.j D.r],#v[L.j LD]],rfl,by
   let d:=EY.mp s;let(p,t):=h.good L[k]<|Fy d;let u:As (.O<|L.j LD) (.r k)=Z (LD L[k]):=ZI (by rw[CM,Cb d];rfl);let w:As (.O<|a.j D.r) (.r k)=Z (.r a[k]):=ZI (by rw[CM,Cb<|J3 d m.τ];rfl);let n1:=t.n1;let i:∃l,As (LD L[k]) (.r 0)=Z (Ai l)/\l.a=wh L[k]:=by
    generalize L[k]=x at *;cases x with
    |nil=>simp at n1
    |cons l r=>show#[l,ZI (j:=0) rfl,rfl]
   let(l,i,y):=i;let z:ZP (.r a[k]) (.r ((wh L[k]+1:Nat):Int))=Z (.r<|a[k]%((wh L[k]+1:Nat):Int)):=by
    simp_all [wh]
   rw[show L.Y k []=L[k] by simp[Eo,d],show a.Y k 0=a[k] by simp[Eo,J3 d m.symm],Nm<|Ie _ ∅];rwa[VC,u,w,i,show Zn [Ai l]=Z (.int (wh L[k]:Int)) by rw[<- y];simp[Ai],show Zs (.int (wh L[k]:Int)) (.int 1)=Z (.int ((wh L[k]+1:Nat):Int))from rfl,z]]
  let n:=O1 (L.a:Int) (KC<|List.length L) ∅;rw[IL]at n;let A:=ZD ((BI L.length).map λk:Nat=>D.r k) (by simp;lia);let f:Zn [.O<|L.j LD]=Z (.r L.a):=by simp
  let B:g.j (λj:Nat=>D.r j)=(BI L.a).j λk=>D.r (((a.Y k 0%((wh (L.Y k [])+1:Nat):Int)).θ:Nat):Int):=by
   rw[CG];rfl
  change L6 _=Z (.y<|.tup (g.map λj:Nat=>D.r j))
  rw[B];generalize a.j D.r=S,L.j LD=W,(BI L.a).j (λk:Nat=>D.r k)=F,((BI L.a).j λk=>D.r (((a.Y k 0%((wh (L.Y k [])+1:Nat):Int)).θ:Nat):Int))=Y at *;apply ZB rfl ?_;change VD [#v[W],‹c›,.no]=_
  rwa[VD,f,e,Zj,show Zy 1 [2,0] [#v[W],‹c›,#v[S]]=[.no,#v[S],#v[W]]from rfl,n,A,q,show E5 [.lst Y]=Z (.tup Y)from rfl]
theorem Es.zero(L:AQ):Es L (zg L):=Es.of (by simp) λk a b=>by simp
structure Ends(as:List Int)(m M:Int):Prop where
 m1:m∈as
 m2:∀a∈as,m<=a
 M1:M∈as
 M2:∀a∈as,a<=M
theorem Ends.uniq{a:U Int}{m M b c:Int}(h:Ends a m M)(h':Ends a b c):m=b/\M=c:=by
 let a1:=h.m2 _ h'.m1;let d:=h'.m2 _ h.m1;let e:=h.M2 _ h'.M1;let f:=h'.M2 _ h.M1;lia
theorem li(x:Int):∀xs:U Int,Ends (x::xs) (xs.Χ mn x) (xs.Χ mx x):=by
 intro xs;induction xs generalizing x with|nil=>show#[by simp,by simp,by simp,by simp]|cons y f c=>
  let a:=c<|mn x y;let b:=c<|mx x y;let c1:=jy x y;let c2:=jz x y;erw[M8];apply#[?_,λz hz=>?_,?_,λz hz=>?_]
  .rcases Bx.mp a.m1 with e|e
   .rw[e,c1];rcases Int.le_total x y with z|z
    .rw[show min x y=x by show Int.min_eq_left z];simp
    .rw[show min x y=y by show Int.min_eq_right z];simp
   .show Bl _<|Bl _ e
  .let d:=a.m2 (mn x y) Bh;rcases Bx.mp hz with rfl|hz
   .lia
   .rcases Bx.mp hz with rfl|hz
    .lia
    .show a.m2 z<|Bl _ hz
  .rcases Bx.mp b.M1 with e|e
   .rw[e,c2];rcases Int.le_total x y with z|z
    .rw[show max x y=y by show Int.max_eq_right z];simp
    .rw[show max x y=x by show Int.max_eq_left z];simp
   .show Bl _<|Bl _ e
  .let d:=b.M2 (mx x y) Bh;rcases Bx.mp hz with rfl|hz
   .lia
   .rcases Bx.mp hz with rfl|hz
    .lia
    .show b.M2 z<|Bl _ hz
theorem ZuU{a b:U Int}(h:a.Ϧ b):a.sum=b.sum:=by
 induction h with
 |nil=>rfl
 |cons x _ c=>simp[c]
 |swap x y l=>erw[List.sum_cons];show Int.add_left_comm y x l.sum
 |trans _ _ d i2=>rw[d,i2]
def Fn(acc:U Br):U (U At×Int):=acc.flatMap λe=>(e.2.1::e.2.2).j λx=>(e.1,x)
theorem Ml(e:Br)(r:U Br):Fn (e::r)=(e.2.1::e.2.2).j (λx=>(e.1,x))++Fn r:=rfl
def NB:U Br->U At->Int->U Int->U Br
 |[],k,x,a=>[(k,x,a)]
 |e::r,k,x,a=>if e.1=k then(e.1,e.2.1,e.2.2++x::a)::r else e::NB r k x a
theorem lm(k:U At)(x:Int):∀acc:U Br,C7 acc k x=NB acc k x []
 |[]=>rfl
 |e::r=>by unfold C7 NB;rw[lm k x r]
theorem lu(k:U At)(x:Int)(xs:U Int):∀acc:U Br,(Fn (NB acc k x xs)).Ϧ ((x::xs).j (λy=>(k,y))++Fn acc)
 |[]=>by simp[NB,Fn]
 |e::r=>by
  unfold NB;by_cases c:e.1=k
  .rw[if_pos c,Ml,Ml];subst c;show((e.2.1::(e.2.2++x::xs)).j (λy=>(e.1,y))++Fn r).Ϧ _
   rw[show e.2.1::(e.2.2++x::xs)=(e.2.1::e.2.2)++(x::xs) by simp,Ek,<- Dr];show List.perm_append_comm.ϙ _
  .rw[if_neg c,Ml,Ml];refine((lu k x xs r).append_left _).E ?_;rw[<- Dr,<- Dr];show List.perm_append_comm.ϙ _
theorem ZyL{x y:Int}{xs ys:U Int}(h:(x::xs).Ϧ (y::ys)):cel x xs=cel y ys:=by
 let b:=li y ys;let(d,e):=(li x xs).uniq #[h.Ϣ.ϡ b.m1,λa c=>b.m2 a<|h.mem_iff.mp c,h.mem_iff.mpr b.M1,λa c=>b.M2 a<|h.Ϣ.mp c];let f:=ZuU h;let g:=h.ό;grind [cel]
def Ht(k:U At)(l:U (U At×Int)):U Int:=l.g7 λp=>if p.1=k then Z p.2 else J
theorem lw(k:U At)(a b:U (U At×Int)):Ht k (a++b)=Ht k a++Ht k b:=by simp[Ht]
theorem lx(k:U At):∀xs:U Int,Ht k (xs.j λx=>(k,x))=xs
 |[]=>rfl
 |x::xs=>by
  let a:=lx k xs;grind [Ht]
theorem ly{k k':U At}(h:k'≠k):∀xs:U Int,Ht k (xs.j λx=>(k',x))=[]
 |[]=>rfl
 |x::xs=>by
  simp_all [Ht]
theorem lA{k:U At}:∀{acc:U Br},k∉Zm acc->Ht k (Fn acc)=[]
 |[],_=>rfl
 |e::r,h=>by
  erw[Zm,AU,Bx,not_or]at h;rw[Ml,lw,ly<|BM h.1,lA (acc:=r) h.2];rfl
theorem lB{k:U At}{p:Int×U Int}:∀{acc:U Br},(Zm acc).η->Z1 acc k=Z p->Ht k (Fn acc)=p.1::p.2
 |e::r,a,h=>by
  erw[Zm,AU,Eu]at a;unfold Z1 at h;rw[Ml,lw];by_cases c:e.1=k
  .rw[if_pos c]at h;cases h;subst c;rw[lx,lA a.1,Eh]
  .rw[if_neg c]at h;rw[ly c,lB a.2 h];rfl
theorem X5{k:U At}:∀{acc:U Br},k∈Zm acc↔∃x,(k,x)∈Fn acc
 |[]=>by simp[Zm,Fn]
 |e::r=>by
  let a:=X5 (k:=k) (acc:=r);grind [Ml,Zm]
theorem Zyc{acc a:U Br}(d:(Zm acc).η)(f:(Zm a).η)(h:(Fn acc).Ϧ (Fn a)):DG acc=DG a:=by
 let c:(Zm acc).Ϧ (Zm a):=(List.perm_ext_iff_of_nodup d f).ϡ λk=>by
  rw[X5,X5];grind
 unfold DG;rw[jq Dg ((ZE Bb _).E c)<|Py Dg _];apply SW λk b=>?_;let(g,i):=SG b;let(p,e):=SG (acc:=acc) (by rw[jq Dg ((ZE Bb _).E c)<|Py Dg _];show b);let j:(Ht k<|Fn acc).Ϧ (Ht k<|Fn a):=h.g7 _;grind [lB,Ai,cel,ZyL]
theorem X6:∀(a:U Row)(acc:U Br),(Fn (Dz a acc)).Ϧ (a++Fn acc)
 |[],acc=>.ω _
 |r::a,acc=>by
  refine(X6 a<|C7 acc r.1 r.2).E ?_;rw[lm];show((lu _ _ [] acc).append_left _).E (by simp_all)
theorem Zul{n:Nat}{rs rs':U Row}(h:rs.Ϧ rs')(a:∀r∈rs,r.1.a=n):DG (Dz rs [])=DG (Dz rs' []):=by
 apply Zyc (Bd.tab rs (Bd.ϔ n) a).nd (Bd.tab rs' (Bd.ϔ n) λr d=>a r<|h.Ϣ.ϡ d).nd ?_;let e:Fn []=[]:=rfl;let b:=X6 rs [];let c:=X6 rs' [];rw[e,Eh]at b c;show b.E<|h.E c.τ
theorem lC:∀{L:AQ}{g:U Nat}{s:U At},(∀b∈L,∃p,GL b p)->AO L s->∀a∈ZX (qs L g) s,Gd a
 |_,[],_,_,_=>λa h=>by simp[qs,ZX]at h
 |_,j::g,_,f,.nil=>λa h=>by simp[qs,ZX]at h
 |b::L,j::g,a::s,f,.cons k m=>λc h=>by
  let(p,i):=f b Bh;rcases Bx.mp h with e|h
  .let(l,d,rfl):=Bm.mp k;subst e;rw[XO i.hdn d];by_cases c:j<l.a
   .have:l.Y j .Α=l[j]:=by simp[Eo,c]
    rw[this];show ZC6 (i.y l d _<|Fy c).1
   .have:l.Y j .Α=.Α:=by simp[Eo,FV c]
    rw[this];trivial
  .show lC (λb d=>f b<|Bl _ d) m c h
theorem lD:∀(a:U Row)(acc:U Br),∀k∈Zm (Dz a acc),k∈Zm acc\/∃r∈a,k=r.1
 |[],acc,k,b=>.Q b
 |r::a,acc,k,b=>by
  rcases lD a (C7 acc r.1 r.2) k b with h|⟨q,c,e⟩
  .rcases jW h with h|h
   .show .σ #[r,Bh,h]
   .show .Q h
  .show .σ #[q,Bl _ c,e]
theorem ZCq{d e:D}(a:A5 12 d=J')(b:A5 12 e=J'):Cc d e=Z (.bl (!Be d e)):=by
 erw[Cc,FH,a,b,GX,if_true]
theorem lE{L:AQ}{c:Er}:∀(cs:U Er){rs:U Row},Ij L rs cs->AO L c.2.1->(c.1=O'->c.2∈cs.Χ CY rs)->Ij L rs (cs++[c])
 |[],_,_,a,b=>#[#[a,b],trivial]
 |_::cs,_,⟨g,h⟩,a,b=>#[g,lE cs h a b]
theorem lF{L:AQ}:∀(cs:U Er){rs rs':U Row},rs.Ϧ rs'->Ij L rs cs->Ij L rs' cs
 |[],_,_,_,_=>trivial
 |c::cs,_,_,h,⟨⟨a,b⟩,g⟩=>#[#[a,λe=>h.Ϣ.mp<|b e],lF cs (X4 c h) g]
theorem ZC9(R:U Row):Cc (.O (R.j Zd)) (.O [])=Z (.bl (!R.isEmpty)):=by
 rw[ZCq (show A5 12 (.O<|R.j Zd)=J' from by
  show(R.j Zd).ϭ (A5 11)=J'
  rw[Du];intro d hd;let(r,_,rfl):=Bm.mp hd;show S5 9 r) rfl]
 cases R<;>rfl
theorem Ta{G:Gh}{n:Nat}{ss:U IV}(h:G[n]?=Z (.Μ .l xs))(a:xs.a<1000)(d:D):Fj (Z n) (Z d) (ss,G)=Z (.y .Α,G.ν n (.Μ .l (xs++[d]))):=by
 erw[Fj,h,if_pos (show xs.length<Ay from B3 a (by ext))]
theorem BS.same{L:AQ}{rs:U Row}{b:Nat}{G:Gh}(s:BS L rs gs b G)(d:G'[b]?=G[b]?)(e:∀t,G[b]?=Z (A6 L (rs.j Zd) t)->G'[t]?=G[t]?):BS L rs gs b G':=by
 let(f,g,h,i,j,t,c,k,a):=s;show#[f,g,h,i,j,t,d.E c,(e t c).E k,a]
theorem ZG{G:Gh}{i:Nat}{c:Cl}(h:G[i]?=Z c):i<G.a:=(Cr.mp h).1
theorem Ik{L:AQ}{rs:U Row}{b q t:Nat}{G:Gh}(s:BS L rs gs b G)(c:G[q]?=Z (.Μ .l xs))(d:G[b]?=Z (A6 L (rs.j Zd) t)):t≠q/\b≠q:=by
 let(_,_,_,_,_,f,a,e,_):=s;rw[a]at d;have:f=t:=by simpa[A6]using d
 subst this;show#[λz=>(by rw[z,c]at e;cases e),λz=>(by rw[z,c]at a;cases a)]
theorem X7{r:Row}:∀{R:U Row}{i:Nat},R[i]?=Z r->(R.Ε i).Ϧ (R.erase r)
 |x::R,0,e=>by
  have:x=r:=by exists e
  subst this;simp
 |x::R,i+1,e=>by
  let e:R[i]?=Z r:=by exists e
  rw[U7];by_cases z:x=r
  .subst z;rw[List.erase_cons_head];show((X7 e).Θ x).E (List.perm_cons_erase<|HE e).τ
  .rw[XR (by exists z)];show(X7 e).Θ x
theorem ZDc{R:U Row}{i:Nat}(a:i<R.a){G:Gh}{n:Nat}{xs:U IV}(h:G[n]?=Z (.Μ .l (R.j Zd))):KG (Z n) (Z (.r i)) (xs,G)=Z (.y (Zd R[i]),G.ν n (.Μ .l ((R.Ε i).j Zd))):=by
 let e:∀(R:U Row) (i:Nat),(R.j Zd).Ε i=(R.Ε i).j Zd:=λR=>by
  induction R with
  |nil=>intro i;simp
  |cons x R b=>intro i;cases i with
   |zero=>simp
   |succ i=>simp[b i]
 simp[KG,h,a,e]
theorem ZB1{ys:U D}{G:Gh}{n:Nat}{ss:U IV}(a:G[n]?=Z (.Μ .l ys))(h:G'[n]?=Z (.Μ .l xs))(b:xs.a<1000)(d:D):O6 (Z n) (Z (.y d,G')) (ss,G)=Z (.y .Α,G'.ν n (.Μ .l (xs++[d]))):=by
 erw[O6,a,h,if_pos (show xs.length<Ay from B3 b (by ext))]
section
variable{L:AQ}{a b q m:Nat}{G:Gh}{R:U Row}{cs:U Er}{ws:U Int}{c:Int}
theorem ZzO(h:Cq L)(Q:G[a]?=Z (.Μ .l (L.j LD)))(p:G[q]?=Z (.Μ .l (R.j Zd)))(E:G[m]?=Z (.Μ .l (cs.j Ce)))(x:q≠m)(T:a≠q)(K:∀r∈R,AO L r.1)(hl:R.a<100)(hc:cs.a<100)(hw:ws.a=12){k:Nat}(hk:k<6):∃(d:Er) (H:U Row),Ps ([.ξ b,.ξ a,.ξ q,‹c›,#v[ws.j D.r],.ξ m,‹k›],G)=.U ([.ξ b,.ξ a,.ξ q,‹c›,#v[ws.j D.r],.ξ m,‹k›],(G.ν q (.Μ .l (H.j Zd))).ν m (.Μ .l ((cs++[d]).j Ce)))/\H.Ϧ (CY R d)/\AO L d.2.1/\(d.1=O'->d.2∈R):=by
 obtain⟨n,P⟩:∃w,As (.O<|ws.j D.r) (.r<|1+(k:Int))=Z (.r w):=#[_,FJ ∅ ∅];obtain⟨o,s⟩:∃w,As (.O<|ws.j D.r) (.r<|6+(k:Int))=Z (.r w):=#[_,FJ ∅ ∅];let nn:=ZC9 R;let F:=C6 n 5 (by ext);let g:C9 (.r<|n%5) (.r 2)=Z (.bl<|decide<|n%5<2):=rfl;let M:(cs.j Ce).a<1000:=by simp;lia
 let t:∀X,(G.ν q X)[m]?=Z (.Μ .l<|cs.map Ce):=λX=>by rw[ZN<|BM x];show E
 by_cases c1:R.Υ=O'/\n%5<2
 .let hn:R.a≠0:=λz=>by rw[Oa.mp z]at c1;cases c1.1
  rw[c1.1]at nn;rw[decide_eq_true c1.2]at g;let u:Zn [.O<|R.j Zd]=Z (.r R.a):=by simp
  let N:=C6 o (R.a:Int) ∅;obtain⟨i,Y,j⟩:∃i:Nat,o%(R.a:Int)=(i:Int)/\i<R.a:=#[(o%(R.a:Int)).θ,by rw[Nm<|Ie _ ∅],by have:=JP o (show(0:Int)<R.length by lia);have:=Ie o (show(R.length:Int)≠0 by lia);lia];rw[Y]at N;let hp:=ZDc (xs:=[.cel b,.cel a,.cel q,‹c›,#v[ws.map D.int],.cel m,‹k›]) j p;let f:R[i]∈R:=Fy j;let y:=X7<|Cb j;generalize R[i]=r at *;let ad:Zs (.tup [.str "-"]) (Zd r)=Z (Ce (O',r)):=rfl;let A:=ZB1 (ss:=[.cel b,.cel a,.cel q,‹c›,#v[ws.map D.int],.cel m,‹k›]) E (t<|.dat .l<|(R.eraseIdx i).map Zd) M (Ce (O',r));apply⟨(O',r),R.eraseIdx i,?_,y,K r f,λ_=>f⟩;rw[Ek,AU,Dj];generalize Ce (O',r)=CH,(R.Ε i).j Zd=RE,cs.j Ce=CS,R.j Zd=RR,Zd r=ZR,ws.j D.r=WS,L.j LD=W at *;rwa[Ps,Z7 p,show Zh (Z ([]:U D))=Z []from rfl,nn,P,F,g,s,u,N,hp,show BE 2 (.tup [.str "-"])=J' from rfl,O5,ad,A]
 .let(r,hr,er):=ZAj h<|c/((k:Int)+2)+5*(k:Int)+o;let f2:=S3 r;let B:BE 2 (Ce (J',r))=J':=by
   show(BE 2 (Ih J')&&(BE 2 (Ai r.1)&&(BE 2 (.r r.2)&&J')))=J'
   rw[FM];rfl
  let re:=Ta (ss:=[.ξ b,.ξ a,.ξ q,‹c›,#v[ws.j D.r],.ξ m,‹k›]) p (show(R.j Zd).a<1000 by simp;lia) (Zd r);let A:=Ta (ss:=[.ξ b,.ξ a,.ξ q,‹c›,#v[ws.j D.r],.ξ m,‹k›]) (t<|.Μ .l<|R.j Zd++[Zd r]) M (Ce (J',r));let ad:Zs (.X [.ψ "+"]) (Zd r)=Z (Ce (J',r)):=rfl;let mu:Fx (.r 5) (.r k)=Z (.r<|5*(k:Int)):=IU (by left;decide);let la:As (.O<|R.j Zd++[Zd r]) (.r (-1))=Z (Zd r):=jK _ _;let C:DL (Z<|!R.isEmpty) (Z<|decide<|n%5<2)=Z O':=by
   cases e:R.Υ with
   |true=>rfl
   |false=>rw[decide_eq_false λz=>c1 #[e,z]];rfl
  apply#[(J',r),CY R (J',r),?_,.ω _,hr,λz=>by cases z];unfold CY;rw[Ek,AU,Dj,cond_true,Ek,AU,Dj];generalize Ce (J',r)=CH,cs.j Ce=CS,R.j Zd=RR,Zd r=ZR,ws.j D.r=WS,L.j LD=W,(!R.isEmpty)=e1,decide (n%5<2)=e2 at *;rwa[Ps,Z7 p,Z7 Q,show Zh (Z ([]:U D))=Z []from rfl,nn,P,F,g,Nt c ((k:Int)+2) ∅ ∅,mu,s,er,f2,re,Z7<|EG p,la,ad,B,A];revert C;cases e1<;>cases e2<;>intro C<;>first|rfl|cases C
end
theorem lG{L:AQ}(h:Cq L){a b q m:Nat}(f:q≠m)(g:a≠q)(p:a≠m){ws:U Int}(C:ws.a=12){c:Int}{j:U Row}(E:∀r∈j,AO L r.1)(y:j.a<90):∀(n k:Nat)(cs:U Er)(R:U Row)(G:Gh)(s:IV),k+n<=6->cs.a+n<=6->Ij L j cs->R.Ϧ (cs.Χ CY j)->G[a]?=Z (.Μ .l (L.j LD))->G[q]?=Z (.Μ .l (R.j Zd))->G[m]?=Z (.Μ .l (cs.j Ce))->∃(e:U Er) (t:U Row) (G':Gh) (A:IV),F4 6 Ps ((Gu k n).j λk:Nat=>D.r k) ([.ξ b,.ξ a,.ξ q,‹c›,#v[ws.j D.r],.ξ m,s],G)=.U ([.ξ b,.ξ a,.ξ q,‹c›,#v[ws.j D.r],.ξ m,A],G')/\Ij L j e/\e.a<=6/\t.Ϧ (e.Χ CY j)/\G'[q]?=Z (.Μ .l (t.j Zd))/\G'[m]?=Z (.Μ .l (e.j Ce))/\G'.a=G.a/\∀i,i≠q->i≠m->G'[i]?=G[i]?
 |0,k,cs,R,G,s,_,H,u,o,B,w,x=>#[cs,R,G,s,rfl,u,H,o,w,x,rfl,λ_ _ _=>rfl]
 |n+1,k,cs,R,G,s,hk,H,u,o,B,w,x=>by
  let ln:=PP cs j;let lp:=o.ό;let(d,S,N,p1,K,Q):=ZzO (b:=b) (c:=c) h B w x f g (λr T=>(S7 cs E u) r<|o.mem_iff.mp T) ∅ ∅ C (show k<6 by lia);let(e,t,G',P,Y,r1,r2,r3,r4,r5,r6,r7):=lG h (b:=b) f g p C (c:=c) E y n (k+1) (cs++[d]) S ((G.set q<|.dat .l<|S.map Zd).set m<|.dat .l<|(cs++[d]).map Ce) ‹k› ∅ (by simp;lia) (lE cs u K λz=>o.Ϣ.mp<|Q z) (by rw[List.foldl_append];show p1.trans<|X4 d o) (by rw[ZN p,ZN g];show B) (by rw[ZN f];show EG w) (EG (by rw[ZN<|BM f];show x));apply⟨e,t,G',P,?_,r1,r2,r3,r4,r5,by rw[r6];simp,λi F M=>by rw[r7 i F M,ZN M,ZN F]⟩;rw[Nu,AU];rwa[F4,N,Y]
theorem Zui{L:AQ}{R rs:U Row}{a b q:Nat}{G:Gh}(s:BS L rs gs b G)(pm:R.Ϧ rs)(F:G[a]?=Z (.Μ .l (L.j LD)))(N:G[q]?=Z (.Μ .l (R.j Zd)))(u:a≠q)(hl:R.a<90)(c:Int):∃(K rs':U Row) (G':Gh),Pt [.ξ b,.ξ a,.ξ q,‹c›] G=Z (.y .Α,G')/\BS L rs' gs b G'/\K.Ϧ rs'/\G'[a]?=Z (.Μ .l (L.j LD))/\G'[q]?=Z (.Μ .l (K.j Zd))/\K.a<=R.a+6/\G.a<=G'.a/\(∀t,G'[b]?=Z (A6 L (rs'.j Zd) t)->G.a<=t)/\∀i,i≠b->i≠q->i<G.a->G'[i]?=G[i]?:=by
 let(g,es,hw,_):=KP c 12 (by ext);let Q:=FJ (xs:=g) (i:=0) (by ext) ∅;let Q:As (.O<|g.j D.r) (.r 0)=_:=Q;let m4:=C6 (g.Y (0:Int).θ 0) 4 (by ext);obtain⟨n,hn,hn6⟩:∃n:Nat,2+g.Y (0:Int).θ 0%4=(n:Int)/\n<=6:=#[(2+g.Y (0:Int).θ 0%4).θ,∅,∅];let lb:b<G.a:=by let(t,h,_):=s.bk;show ZG h
 let la:=ZG F;let lq:=ZG N;let(f,R1,w,y6,e,ho,hc6,x,y,A,B,E):=lG s.gl (b:=b) (a:=a) (q:=q) (m:=G.a) (c:=c) ∅ u ∅ hw (λr hm=>s.sp r<|pm.mem_iff.mp hm) hl n 0 [] R (G++[.dat .l []]) .no ∅ (by simp;lia) trivial (.refl _) (IY F) (IY N) (by simp);rw[EL,Mv]at B;let(t,h,hT,hbt):=s.bk;let(tq,T):=Ik s N h;let H:∀i,i≠q->i<G.length->(w.set G.length .dead)[i]?=G[i]?:=λi P Y=>by rw[ZN ∅,E i P ∅,Fd Y]
 let s2:BS L rs gs b (w.ν G.a .dead):=s.δ (H b T lb) λt' M=>by
  have:t=t':=by rw[h]at M;simpa[A6]using M
  subst this;show H t tq<|ZG hT
 let(j,G',ep,o):=ZzD s2 (cs:=f) (by have:=pm.ό;lia) (lF f pm ho);let d:(w.ν G.a Cl.dead).a=G.a+1:=by simp[B]
 let hjn:=o.jb;rw[d]at hjn;let p:∀i,i≠b->i≠q->i<G.a->G'[i]?=G[i]?:=λi P Y h3=>by rw[o.ex i P (by rw[d];lia),H i Y h3]
 let lj:=ZG o.tl;apply#[R1,Zr Dm<|f.foldl CY rs,G',?_,o.bs,x.trans<|(lf f pm).trans (ZE Dm _).symm,?_,?_,?_,∅,λt' M=>by have:=(o.tj t' M).2;rw[d]at this;lia,p]
 .let fs:w[G.a]?=Z (.Μ .l<|f.map Ce):=A;let hri:Q1 (.int n)=Z ((Gu 0 n).map λk:Nat=>D.r k):=by
   change gd (-1000000000<=(n:Int)/\(n:Int)<1000000000) (Z<|Iu 0 (n:Int).θ)=_
   rw[MD ∅,IL,Nv.τ];simp[Iu]
  let S:(w.ν G.a Cl.dead)[b]?=Z (A6 L (rs.j Zd) t):=(H b T lb).E h;clear y E A o p d H s2;generalize f.j Ce=C,g.j D.r=WS,(Gu 0 n).j (λk:Nat=>D.r k)=RG,g.Y (0:Int).θ 0=w0 at *;suffices e2:Xl ([.ξ b,.ξ a,.ξ q,‹c›,.no,.no,.no],G)=.U ([.ξ b,.ξ a,.ξ q,‹c›,#v[WS],.y<|.O C,y6],G')from Fl (fi rfl e2) rfl
  rwa[Xl,show ZC [‹c›,‹12›]=Z #v[WS]from es,show Zh (Z ([]:U D))=Z []from rfl,jG,jL,show Dc 2 []=J' from rfl,Q,m4,hn,hri,JD,e,Nl,O4,fs,DQ,S,show Ep "Book" "pour" (A6 L (rs.map Zd) t)=J' by rwa[Ep,ZzE],ZG S,and_self,ep]
 .by_cases z:a=b
  .subst z;rw[F]at h;cases h
  .show(p a z u la).E F
 .rw[o.ex q (BM T) (by rw[d];lia),ZN ∅];show y
 .have:=x.ό;have:=PP f R;lia
theorem ZDf{L:AQ}{rs:U Row}{b k n p:Nat}{G:Gh}(s:BS L rs gs b G)(w:rs.a<=100){c:BF}(A:L[k]?=Z c)(u:GL c p)(e:n+1<p){l q:U At}(f:l∈c)(B:q∈c){v:At}(F:l.Y n .Α=v):∃j G',R7 [.ξ b,‹k›,‹n›,.y (aD v),.y (aD (q.Y (n+1) .Α))] G=Z (.ξ j,G')/\RN (L.ν k (rgp c n v q)) rs gs b j (Fm L (L.ν k (rgp c n v q)) rs rs (Zr Di gs)) G G':=by
 let(h,C,E,m,o,t,x,M,y):=s;let lb:=ZG x;let H:(G.ν b (A6 (L.ν k<|rgp c n v q) (rs.j Zd) G.a)++[.Μ .d<|Zb<|AH (L.ν k<|rgp c n v q) rs gs,.Μ .l<|Fm L (L.ν k<|rgp c n v q) rs rs<|Zr Di gs])[b]?=Z (A6 (L.ν k<|rgp c n v q) (rs.j Zd) G.a):=by
  rw[Fd (by exists lb)];show EG x
 apply#[_,_,(ZCe h x M y C w E m o A u e f B F),#[#[h.ν k<|u.rgp e v B,λr f=>(C r f).ν (λa N=>by rw[XV λl w=>u.ϩ l w ▸ u.p1];show N) A,E,λg f=>by rw[Jg];show m g f,o,G.a,H,?_,∅],?_,∅,λQ P=>?_,λi K z=>?_]]
 .rw[G8 (by simp)];simp
 .rw[G8 (by simp)];simp
 .rw[H]at P;have:=EH P;simp[A6]at this;lia
 .rw[Fd (by exists z),ZN K]
theorem Mm(w:Int){n:Nat}(h:0<n):∃i:Nat,w%(n:Int)=(i:Int)/\i<n:=#[(w%(n:Int)).θ,by rw[Nm<|Ie _ ∅],by have:=JP w (show(0:Int)<n by lia);have:=Ie w (show(n:Int)≠0 by lia);lia]
section
variable{G:Gh}{a b k n:Nat}{c:Int}{x5:IV}{v:At}{q:U At}
theorem ZzI{acc:U D}(e:G[j]?=Z (.Μ .l acc))(g:acc.a<100){l:U At}(f:n+1<l.a)(i:l.a<=4)(h:q.a<=4):Pq ([.ξ b,.ξ a,‹c›,x3,‹k›,x5,‹n›,.y (aD v),.y (Ai q),.ξ j,.y (Ai l)],G)=.U ([.ξ b,.ξ a,‹c›,x3,‹k›,x5,‹n›,.y (aD v),.y (Ai q),.ξ j,.y (Ai l)],G.ν j (.Μ .l (acc++[Ai (EF n v q l)]))):=by
 let eq:B8 (aD<|l.Y n .Α) (aD v)=Z (.bl<|decide<|l.Y n .Α=v):=by
  erw[B8,FH,JN,GX,if_true,KO]
 let ad:=XW (l.ϋ<|n+1) (q.ρ<|n+1) (by simp;lia);let hz:acc.a<Ay:=B3 g (by ext);unfold EF;by_cases d:l.Y n .Α=v
 .rw[decide_eq_true d]at eq;rw[if_pos d];rwa[Pq,NA<|FA f,eq,DN,DM,kI l n,SE q n,ad,FM 2,Fj,e,if_pos hz]
 .rw[decide_eq_false d]at eq;rw[if_neg d];rwa[Pq,NA<|FA f,eq,FM 2,Fj,e,if_pos hz]
theorem ZAQ(h:q.a<=4):∀(f:BF)(acc:U D)(G:Gh)(x10:IV),(∀l∈f,n+1<l.a/\l.a<=4)->acc.a+f.a<100->G[j]?=Z (.Μ .l acc)->∃d,F4 10 Pq (f.j Ai) ([.ξ b,.ξ a,‹c›,x3,‹k›,x5,‹n›,.y (aD v),.y (Ai q),.ξ j,x10],G)=.U ([.ξ b,.ξ a,‹c›,x3,‹k›,x5,‹n›,.y (aD v),.y (Ai q),.ξ j,d],G.ν j (.Μ .l (acc++(f.j (EF n v q)).j Ai))):=by
 intro f;induction f with|nil=>show λacc G x10 _ _ g=>#[x10,by erw[Dj,Eh,kZ g,F4]]|cons l f o=>
  intro acc G x10 i m g;rw[Cw]at m;let(d,e):=o (acc++[Ai<|EF n v q l]) (G.set j<|.dat .l<|acc++[Ai<|EF n v q l]) (.val<|Ai l) (λx p=>i x<|Bl _ p) (by rw[EL,Mv];lia) (EG g);rw[List.set_set,Dr]at e;have:=ZzI (a:=a) (b:=b) (c:=c) (k:=k) (x3:=x3) (x5:=x5) (v:=v) g (GI m) (i l Bh).1 (i l Bh).2 h;show#[d,by rwa[F4,this,e,List.singleton_append]]
end
abbrev nt(b n:Nat)(G:Gh):Prop:=∀L R t,G[b]?=Z (A6 L R t)->t≠n
theorem Mn{G:Gh}{b t:Nat}{L a:AQ}{R c:U D}(h:G[b]?=Z (A6 L R t))(h':G[b]?=Z (A6 a c t')):t=t':=by
 rw[h]at h';have:=EH h';simp[A6]at this;show this.2.2
structure DS(L L':AQ)(rs:List Row)(gs:List (List Nat))(a b:Nat)(G G':Gh):Prop where
 bs:BS L' rs gs b G'
 la:G'[a]?=Z (.Μ .l (L'.j LD))
 nt:∀n,n<G.a->nt b n G->nt b n G'
 ll:G.a<=G'.a
 ex:∀i,i≠a->i≠b->i<G.a->G'[i]?=G[i]?
 gr:∀g,Es L g->Es L' g
 zl:L'.a=L.a
 mx:∀M,(∀x∈L,x.a<=M)->∀x∈L',x.a<=M+1
theorem Es.set{L:AQ}{g:U Nat}{k:Nat}{b a:BF}(h:Es L g)(c:L[k]?=Z b)(e:wh a=wh b):Es (L.ν k a) g:=Es.of (by exists h.1) λi d j=>by
  let f:i<L.a:=by exists d
  have:=h.2 (L[i],g[i])<|Uz.ϡ ⟨i,by simp;lia,by simp⟩;rw[List.getElem_set];split
  .next z=>
   subst z;rw[Cb f]at c;cases c;rw[e];show this
  .show this
theorem ZxN{L:AQ}{rs:U Row}{a b:Nat}{G:Gh}(s:BS L rs gs b G)(C:G[a]?=Z (.Μ .l (L.j LD)))(hl:rs.a<=100)(c:Int):∃L' G',Xi [.ξ b,.ξ a,‹c›] G=Z (.y .Α,G')/\DS L L' rs gs a b G G':=by
 let(E,es,hw,_):=KP c 4 (by ext);obtain⟨w0,x0⟩:∃w,As (.O<|E.j D.r) (.r 0)=Z (.r w):=#[_,FJ (by ext) ∅];obtain⟨w1,x1⟩:∃w,As (.O<|E.j D.r) (.r 1)=Z (.r w):=#[_,FJ (by ext) ∅];obtain⟨w2,x2⟩:∃w,As (.O<|E.j D.r) (.r 2)=Z (.r w):=#[_,FJ (by ext) ∅];obtain⟨w3,x3⟩:∃w,As (.O<|E.j D.r) (.r 3)=Z (.r w):=#[_,FJ (by ext) ∅];let h:=s.gl;let la:=ZG C;let(t,hB,hT,hbt):=s.bk;let ne:b≠a:=(Ik s C hB).2;let lL:Zn [.O<|L.j LD]=Z (.r L.a):=by simp
 let mS:=C6 w0 (L.a:Int)<|KQ.ϡ h.n1;let(k,hi,hk):=Mm w0 h.n1;rw[hi]at mS;let K:L[k]?=Z L[k]:=Cb hk;generalize L[k]=e at *;let(p,f):=h.good e<|HE K;let n1:=f.n1;let i1:As (.O<|L.j LD) (.r k)=Z (LD e):=ZI (by rw[CM,K];rfl);obtain⟨H,Q,i2⟩:∃H,H∈e/\As (LD e) (.r 0)=Z (Ai H):=#[e[0],Fy _,ZI (j:=0) (by rw[CM,Cb n1];rfl)];let i3:Zn [Ai H]=Z (.r p):=by rw[<- f.ϩ H Q];simp[Ai]
 let l2:C9 (.r p) (.r 2)=Z (.bl<|decide<|p<2):=by
  change Z (D.bl<|decide<|(p:Int)<2)=_
  congr 2;rw[decide_eq_decide];lia
 let fl:BE 1 (LD e)=J':=PM e;by_cases c2:p<2
 .apply#[L,G,?_,#[s,C,λn _ h=>h,AX _,λi _ _ _=>rfl,λg h=>h,rfl,λM h x T=>GQ<|h x T]];rw[decide_eq_true c2]at l2;clear s Q;generalize LD e=A,Ai H=B1,E.j D.r=WS,L.j LD=W at *;suffices P:Pr ([.ξ b,.ξ a,‹c›,.no,.no,.no,.no,.no,.no,.no,.no],G)=.ϸ (.y .Α) G from Fl (fi rfl P) rfl
  rwa[Pr,show ZC [‹c›,‹4›]=Z #v[WS]from es,PN C,Z7 C,x0,lL,mS,i1,fl,i2,i3,l2]
 .rw[decide_eq_false c2]at l2;let mp:=C6 w1 ((p:Int)-1) ∅;let(n,hn,hn2):=Mm w1 (show 0<p-1 by lia);rw[show((p-1:Nat):Int)=(p:Int)-1 by lia]at hn;rw[hn]at mp;let lls:Zn [LD e]=Z (.r e.a):=by simp
  let ml2:=C6 w2 (e.a:Int) ∅;let ml3:=C6 w3 (e.a:Int) ∅;let(u,hu,hu2):=Mm w2 n1;let(z,hz,hz2):=Mm w3 n1;rw[hu]at ml2;rw[hz]at ml3;let xu:As (LD e) (.r u)=Z (Ai e[u]):=ZI (by rw[CM,Cb hu2];rfl);let xz:As (LD e) (.r z)=Z (Ai e[z]):=ZI (by rw[CM,Cb hz2];rfl);let mu:e[u]∈e:=Fy hu2;let mz:e[z]∈e:=Fy hz2;generalize e[u]=l,e[z]=y at *;let xl:As (Ai l) (.r n)=Z (aD<|l.getD n .non):=NA (by rw[f.len l mu];lia);let xy:As (Ai y) (.int<|(n:Int)+1)=Z (aD<|y.getD (n+1) .non):=NA (j:=n+1) (by rw[f.len y mz];lia);obtain⟨v,hv⟩:∃v,l.getD n .non=v:=#[_,rfl];rw[hv]at xl;let(jj,o,er,F):=ZDf s hl K f (show n+1<p by lia) mu mz hv;let(t1,q,hT1,_):=F.bs.bk;let ht1:=(F.tj t1 q).2;let lt1:=ZG hT1;obtain⟨Y,hY⟩:∃Y,(rgp e n v y).map Ai=Y:=#[_,rfl];let(x10,el):=ZAQ (b:=b) (a:=a) (c:=c) (k:=k) (x3:=#v[E.map D.int]) (x5:=.val<|LD e) (n:=n) (v:=v) (j:=o.length) (f.len y mz ▸ f.p4) e [] (o++[.dat .l []]) .no (λl hl=>f.ϩ l hl ▸ #[∅,f.p4]) (by have:=f.n6;simp;lia) (by simp);rw[EV,show(e.j<|EF n v y).map Ai=Y from hY]at el;obtain⟨G3,r⟩:∃G3,(o++[Cl.dat .l []]).set o.length (.dat .l Y)=G3:=#[_,rfl];obtain⟨G4,R⟩:∃G4,G3.set o.length .dead=G4:=#[_,rfl];obtain⟨N,B⟩:∃N,G4.set a (.dat .l<|(L.map LD).set k<|.lst Y)=N:=#[_,rfl];let g4:∀i,i<o.length->G4[i]?=o[i]?:=λi h2=>by rw[<- R,<- r,ZN ∅,ZN ∅,Fd h2]
  let g5:∀i,i≠a->i<o.a->N[i]?=o[i]?:=λi h1 h2=>by rw[<- B,ZN h1,g4 i h2]
  let g4a:G4[a]?=Z (.Μ .l<|L.j LD):=(g4 a ∅).E<|(F.ex a (BM ne) la).E C;let l5:N.a=o.a+1:=by rw[<- B,<- R,<- r];simp
  let hB5:=(g5 b ne<|ZG q).E q;let lk:(L.j LD).ν k (.O Y)=(L.ν k<|rgp e n v y).j LD:=by rw[List.map_set,<- hY]
  apply#[L.ν k<|rgp e n v y,N,?_,⟨F.bs.same (g5 b ne<|ZG q) λt' e'=>?_,by rw[<- B,EG g4a,lk],λm hm _ Internal R2 t2 P=>?_,∅,λi h1 h2 h3=>(g5 i h1 ∅).E<|F.ex i h2 h3,λg h=>h.ν K<|(f.rgp (show n+1<p by lia) v mz).wh.trans f.wh.symm,by simp,λM h x T=>?_⟩]
  .let fv:BE 2 (aD v)=J':=by cases v<;>rfl
   let fy:BE 2 (Ai y)=J':=FM 2 y;let fw:BE 2 (aD<|y.Y (n+1) .Α)=J':=by cases y.Y (n+1) .Α<;>rfl
   let its:L1 (.Μ .l<|L.j LD)=Z ((L.j LD).j IV.y):=rfl;let st:setIt (.Μ .l<|L.j LD) k (.y<|.O Y)=.Μ .l ((L.j LD).ν k<|.O Y):=rfl;let ij:D7 ((L.j LD).j IV.y).a (k:Int)=Z k:=by
    erw[D7,Bq];rw[if_pos<|KC k,if_pos<|Ny.ϡ hk];rfl
   let lsI:Kz (LD e)=Z (e.j Ai):=rfl;clear F g5 g4 lk hB5 s hY;generalize E.j D.r=WS,LD e=A,Ai H=B0,Ai l=B1,Ai y=B2,aD v=V,aD (y.Y (n+1) .Α)=VW,e.j Ai=LS,L.j LD=W at *;suffices P:Pr ([.ξ b,.ξ a,‹c›,.no,.no,.no,.no,.no,.no,.no,.no],G)=.U ([.ξ b,.ξ a,‹c›,#v[WS],‹k›,.y A,‹n›,.y V,.y B2,#v[Y],x10],N)from Fl (fi rfl P) rfl
   rwa[Pr,show ZC [‹c›,‹4›]=Z #v[WS]from es,PN C,Z7 C,x0,lL,mS,i1,fl,i2,i3,l2,x1,mp,x2,lls,ml2,xu,xl,fv,x3,ml3,xz,fy,DQ,hB,show Ep "Book" "regroup" (A6 L (rs.map Zd) t)=J' by rwa[Ep,show Et.contains "regroup"=O' by symm],ZG hB,and_self,xy,fw,er,show Zh (Z ([]:U D))=Z []from rfl,jG,jL,show Dc 2 []=J' from rfl,JD,lsI,el,r,Nl,O4,show G3[o.length]?=Z (.dat .l Y) by rw[<- r];show EG (d:=.dat .l []) (by simp),R,Nj,g4a,its,ij,st,B]
  .have:=Mn q e';subst this;show g5 t1 ∅ lt1
  .have:=Mn hB5 P;lia
  .rcases UU T with T|rfl
   .show GQ<|h x T
   .rw[rgp,Bq];show GQ<|h e<|HE K
theorem GL.app{g:BF}{p:Nat}(h:GL g p)(r:g.a<40){l:U At}(s:l.a=p)(t:∀a∈l,GY (aD a)=J'/\Sm (aD a))(u:hd l∉g.j hd) (k:∀n∈g,∀m a,l[m]?=Z a->n[m]?=Z a->l.ρ (m+1)=n.ρ (m+1)):GL (g++[l]) p:=by
 apply#[by simp,by simp;lia,h.p1,h.p4,λx c=>?_,λx c=>?_,?_,?_]
 .rcases Cn.mp c with c|c
  .show h.ϩ x c
  .rw[Ca.mp c];show s
 .rcases Cn.mp c with c|c
  .show h.y x c
  .rw[Ca.mp c];show t
 .rw[Ek,Iy];show#[h.hdn,by simp,λa v b o e=>u (by simp at o;rw[<- o,<- e];show v)]
 .intro l1 d q f m a i j;rcases Cn.mp d with d|d<;>rcases Cn.mp f with f|f
  .show h.fn l1 d q f m a i j
  .rw[Ca.mp f]at j ⊢;show(k l1 d m a j i).τ
  .rw[Ca.mp d]at i ⊢;show k q f m a i j
  .rw[Ca.mp d,Ca.mp f]
section
variable{M:U D}{d:D}
theorem ZDP(a:M.a<1000):Za Zs (λρ=>A9 ρ 0) (λρ=>ZA (Zh ((Zk (DV (Bf ρ 1)) (Z [])).L Zt))) [#v[M],.y d,.no]=Z (.O (M++[d])):=by
 let b:Zs (.O M) (.O [d])=Z (.O<|M++[d]):=by
  show(if M.a+[d].a<=Ay then Z (D.O<|M++[d])else J)=_
  rw[if_pos (show M.a+[d].a<=Ay from Bv (show M.a+1<=1000 from a) (by ext))]
 erw[Za,A9,Bf,DV,Zk,Zt,Ej,EU,Cp,Dy,show Zh (Z [d])=Z [d]from ZD _ (by simp),ZA,b]
theorem ZD4(e:M.a+1<=40)(a:Nq [#v[M++[d]]]=Z (.y (.bl J'))):Wf [#v[M],.y d]=Z (.y (.O (M++[d]))):=by
 let b:Zn [.O<|M++[d]]=Z (.r (((M++[d]).a:Nat):Int)):=rfl;let c:E4 (.r (((M++[d]).a:Nat):Int)) (.r 40)=Z (.bl O'):=by
  change Z (D.bl<|decide<|(40:Int)<((M++[d]).a:Int))=_
  rw[decide_eq_false (by rw[EL,Mv];lia)]
 apply ZB rfl ?_;change We [#v[M],.y d,.no]=_
 rw[We,gD,gv,ZDP (M:=M) (d:=d) ∅];generalize M++[d]=f at *;rwa[gC,gw,a,Ii,gB,gy,b,c,gA,gz]
end
section
variable{L:AQ}{R T:U D}{G:Gh}{b t k:Nat}(hb:G[b]?=Z (A6 L R t))(ht:G[t]?=Z (.Μ .d T))
include hb ht
theorem vw3(m:Nat)(a:m≠0)(x y:D):vw m ([.ξ b,.y x,.y y],G)=[.y (BD L R T),.y x,.y y]:=by
 have:=kW hb ht m a;simp_all
theorem ZFU(x y:D):vw 0 ([.ξ b,.y x,.y y],G)=[.no,.y x,.y y]:=by
 have:=kF hb;simp_all
theorem ZzZ(h:Cq L){a:BF}{p:Nat}(e:L[k]?=Z a)(f:a.a<40){l:U At}(c:GL (a++[l]) p):Wo [.ξ b,‹k›,.y (Ai l)] G=Z (.y .Α,G.ν b (A6 (L.ν k (a++[l])) R t)):=by
 let g:=ZD4 (M:=a.j Ai) (d:=Ai l) (by simp;lia) (by have:=c.go;rw[show LD (a++[l])=.O (a.j Ai++[Ai l]) by simp[LD]]at this;show this);let i:No [.ξ b,‹k›,#v[a.j Ai++[Ai l]]] G=Z (.y .Α,G.ν b<|A6 (L.ν k<|a++[l]) R t):=by
  have:=kX hb ht ((Cr.mp e).1) h.n4<|a++[l];rw[show LD (a++[l])=.O (a.j Ai++[Ai l]) by simp[LD]]at this;show this
 let j:=vw3 hb ht 1 (by ext) (.r k)<|Ai l;let m:=ZFU hb ht (.r k)<|Ai l;let a1:=IX (L:=L) (R:=R) (T:=T);let n:=kH (L.j LD) k (d:=.O<|a.j Ai) (by rw[CM,e];rfl);let o:BE 1 (.O<|a.j Ai++[Ai l])=J':=by
  have:=PM<|a++[l];rw[show LD (a++[l])=.O (a.j Ai++[Ai l]) by simp[LD]]at this;show this
 generalize a.j Ai++[Ai l]=Y,a.j Ai=M,Ai l=X,BD L R T=B at *;let q:Wn ([.ξ b,‹k›,.y X],G)=.U ([.ξ b,‹k›,.y X],G.ν b<|A6 (L.ν k<|a++[l]) R t):=by
  erw[Wn,DQ,show Bw (([.cel b,‹k›,.val X]:U IV),G) 0=Z b from rfl,hb,kY hb ht,(Cr.mp hb).1,and_self,if_true,Option.bind_some,jE,j,m,Bf,A9,C0,Ej,EU,Cp,a1,jO,OX,o,Dy,Zk,DV,Zf,n,O3,g,i,C5,Zo]
 show Fl (fi rfl q) rfl
end
theorem ZDs{b:BF}{l:U At}{a:At}(h:a∈b.j hd):FL (b++[l],j) a=FL (b,j) a:=by
 let(x,c,rfl):=Bm.mp h;unfold FL;dsimp only;rw[List.find?_append];cases d:b.find? (λy=>decide<|hd y=hd x)with
 |none=>show absurd (List.find?_eq_none.mp d x c) (by simp)
 |some y=>rfl
theorem lH{a:BF}{l:U At}:∀{L:AQ}{g:U Nat}{s:U At}{k:Nat},AO L s->L[k]?=Z a->ZX (qs (L.ν k (a++[l])) g) s=ZX (qs L g) s
 |_,_,_,_,.nil,_=>rfl
 |_,[],_,0,.cons _ _,_=>rfl
 |_,[],_,_+1,.cons _ _,_=>rfl
 |_,j::g,_,0,.cons h t,e=>by
  cases e;change FL (a++[l],j) _::_=FL (a,j) _::_
  rw[ZDs h]
 |_,j::g,_,k+1,.cons h t,e=>by
  change FL _ _::ZX (qs _ g) _=FL _ _::ZX (qs _ g) _
  rw[lH t (by exists e)]
theorem ZAT{a:BF}{l:U At}{L:AQ}{k:Nat}(b:L[k]?=Z a){rs:U Row}(c:∀r∈rs,AO L r.1)(g:U Nat):ZQ (L.ν k (a++[l])) g rs=ZQ L g rs:=by
 unfold ZQ Dh;rw[SW λr d=>by rw[lH (c r d) b]]
theorem Zz7{a:BF}{l:U At}{L:AQ}{k:Nat}(b:L[k]?=Z a){rs:U Row}(c:∀r∈rs,AO L r.1)(gs:U (U Nat)):AH (L.ν k (a++[l])) rs gs=AH L rs gs:=by
 unfold AH;show SW λg _=>by rw[ZAT b c]
theorem ZEX:∀n∈BI 41,(match L3 [.r n]with|some s=>(match Zs (.ψ "new") s with|some (.str z)=>GY (.ψ z)&&decide (z.a<=100)|_=>O')|none=>O')=J':=by symm
theorem ZEM{n:Nat}(h:n<41):∃(s:D)(z:Af),L3 [.r n]=Z s/\Zs (.ψ "new") s=Z (.ψ z)/\GY (aD (.ψ z))=J'/\Sm (aD (.ψ z)):=by
 let e:=ZEX n<|EY.ϡ h;revert e;cases L3 [.r n]with
 |none=>show λz=>nomatch z
 |some s=>
  dsimp only;cases a:Zs (.ψ "new") s with
  |none=>show λz=>nomatch z
  |some d=>cases d with
   |str z=>
    intro e;rw[Dp,decide_eq_true_eq]at e;show#[s,z,rfl,a,e.1,e.2]
   |_=>show λz=>nomatch z
theorem ZFz(a:At)(l:U At):D9 J' (aD a) (.O (l.j aD))=Z (.bl (!decide (a∈l))):=by
 let d:GJ (aD a) (l.j aD)=decide (a∈l):=by
  unfold GJ;induction l with|nil=>rfl|cons b l f=>
   rw[AU,List.any_cons,f,KO];by_cases c:b=a
   .subst c;simp
   .have:¬ a=b:=λe=>c e.τ;simp[c,this]
 let g:(l.j aD).ϭ (A5 12)=J':=by
  rw[Kk,Du];show λb _=>JN 12 b
 erw[D9,FH,JN 12 a,g,d,GX,if_true]
theorem ZCf{l:U At}(h:1<=l.a):l[0]?=Z (hd l):=by
 cases l with
 |nil=>simp at h
 |cons a r=>rfl
theorem ZEc{f:BF}{p:Nat}(c:GL f p)(g:f.a<40){l:U At}(h:l∈f){z:Af}(r:GY (aD (.ψ z))=J'/\Sm (aD (.ψ z)))(q:At.ψ z∉f.j hd):GL (f++[.ψ z::l.ρ 1]) p:=by
 let i:=c.p1;let e:=c.ϩ l h;apply c.app g (by rw[Cw,Q6];lia) (λa j=>?_) q λk b m a n o=>?_
 .rcases Bx.mp j with rfl|j
  .show r
  .show c.y l h a<|List.mem_of_mem_drop j
 .cases m with
  |zero=>
   cases n;rw[ZCf (by rw[c.ϩ k b];show i)]at o;show absurd (Bm.ϡ #[k,b,EH o]) q
  |succ m=>
   rw[Ej,Lf]at n;let d:=c.fn l h k b (m+1) a (by rw[Nat.add_comm];show n) o;rw[List.drop_succ_cons,List.drop_drop,<- d];congr 1;lia
theorem ZEP(l:U At):Ex (Ai l) (Z 1) J=Z (Ai (l.ρ 1)):=SE l 0
theorem ZuR{L:AQ}{rs:U Row}{a b:Nat}{G:Gh}(s:BS L rs gs b G)(C:G[a]?=Z (.Μ .l (L.j LD)))(h40:∀d∈L,d.a<40)(c:Int):∃L' G',WJ [.ξ b,.ξ a,‹c›] G=Z (.y .Α,G')/\DS L L' rs gs a b G G':=by
 let(ws,es,hw,_):=KP c 3 (by ext);obtain⟨w0,x0⟩:∃w,As (.O<|ws.j D.r) (.r 0)=Z (.r w):=#[_,FJ (by ext) ∅];obtain⟨w1,x1⟩:∃w,As (.O<|ws.j D.r) (.r 1)=Z (.r w):=#[_,FJ (by ext) ∅];let h:=s.gl;let(t,E,hT,P):=s.bk;let lL:Zn [.O<|L.j LD]=Z (.r L.a):=by simp
 let mS:=C6 w0 (L.a:Int)<|KQ.ϡ h.n1;let(k,hi,hk):=Mm w0 h.n1;rw[hi]at mS;let K:L[k]?=Z L[k]:=Cb hk;generalize L[k]=d at *;let H:=HE K;let l40:=h40 d H;let(p,Q):=h.good d H;let n1:=Q.n1;let i1:As (.O<|L.j LD) (.r k)=Z (LD d):=ZI (by rw[CM,K];rfl);let lls:Zn [LD d]=Z (.r d.a):=by simp
 let(sN,z,hs,hz,hv):=ZEM (n:=d.a) ∅;let ml:=C6 w1 (d.a:Int) ∅;let(u,hu,hu2):=Mm w1 n1;rw[hu]at ml;let xu:As (LD d) (.r u)=Z (Ai d[u]):=ZI (by rw[CM,Cb hu2];rfl);let mu:d[u]∈d:=Fy hu2;generalize d[u]=l at *;let c1:=ZEP l;let ad:Zs (.X [.ψ z]) (Ai<|l.drop 1)=Z (Ai<|.str z::l.drop 1):=XW [.str z] (l.drop 1) (by have:=Q.len l mu;have:=Q.p4;simp;lia);let fl:BE 2 (Ai<|.str z::l.drop 1)=J':=FM 2 _;let hc:=Zz (b:=Zc 0) (e:=Wx) (ρ:=[.no]) Ai (λl=>aD<|hd l) d λl hl=>#[[.y<|Ai l],rfl,by
  have:=SR<|Q.ln l hl;rwa[Wx,this]]
 rw[show d.j (λl=>aD<|hd l)=(d.map hd).map aD by rw[CG];rfl]at hc;let q:=ZD (d.map Ai) (by simp;lia);let f:=ZFz (.str z)<|d.map hd;let fz:BE 2 (.str z)=J':=rfl;let hin:∀xs,Zy 1 [] xs=[.no]:=λ_=>rfl;by_cases m:At.ψ z∈d.j hd
 .apply#[L,G,?_,#[s,C,λn _ h=>h,AX _,λi _ _ _=>rfl,λg h=>h,rfl,λM h x hx=>GQ<|h x hx]];rw[decide_eq_true m]at f;rw[show aD (.ψ z)=.ψ z from rfl]at f;clear s;generalize Ai (.ψ z::l.ρ 1)=Y,Ai (l.ρ 1)=Y1,Ai l=Y2,(d.j hd).j aD=HH,ws.j D.r=WS,L.j LD=W at *;suffices e2:Po ([.ξ b,.ξ a,‹c›,.no,.no,.no,.no],G)=.U ([.ξ b,.ξ a,‹c›,#v[WS],‹k›,.y<|.ψ z,.y Y],G)from Fl (fi rfl e2) rfl
  rwa[Po,WI,Wy,show ZC [‹c›,‹3›]=Z #v[WS]from es,WH,Wz,Z7 C,x0,lL,mS,WG,WA,i1,lls,hs,hz,fz,WF,WB,x1,ml,xu,DN,DM,c1,ad,fl,WE,WC,Zj,q,hin,hc,f,WD]
 .rw[decide_eq_false m]at f;rw[show aD (.ψ z)=.ψ z from rfl]at f;let o:=ZEc Q l40 mu hv m;obtain⟨N,hN⟩:∃N,At.ψ z::l.ρ 1=N:=#[_,rfl];rw[hN]at o ad fl;obtain⟨G1,y⟩:∃G1,G.ν b (A6 (L.ν k<|d++[N]) (rs.j Zd) t)=G1:=#[_,rfl];let eg:=ZzZ E hT h K l40 o;rw[y]at eg;let R:G1[a]?=Z (.Μ .l<|L.j LD):=by rw[<- y,ZN<|BM<|(Ik s C E).2];show C
  let ad2:Zs (LD d) (.O [Ai N])=Z (LD<|d++[N]):=by
   show(if(d.j Ai).a+[Ai N].a<=Ay then Z (D.O<|d.j Ai++[Ai N])else J)=_
   rw[if_pos<|Bv (show _<=100 by simp;lia) (by ext)];simp[LD]
  let fl2:=PM<|d++[N];let ij:D7 ((L.j LD).j IV.y).a (k:Int)=Z k:=by
   erw[D7,Bq];rw[if_pos ∅,if_pos ∅];rfl
  let its:L1 (.Μ .l<|L.map LD)=Z ((L.map LD).map IV.val):=rfl;let st:∀A:D,setIt (.dat .l<|L.map LD) k (.val A)=.dat .l ((L.map LD).set k A):=λ_=>rfl;obtain⟨T,j⟩:∃T,G1.ν a (.Μ .l<|(L.ν k<|d++[N]).j LD)=T:=#[_,rfl];let F:T[b]?=Z (A6 (L.ν k<|d++[N]) (rs.j Zd) t):=by rw[<- j,<- y,ZN<|(Ik s C E).2];show EG E
  let ex:∀i,i≠a->i≠b->T[i]?=G[i]?:=λi h1 h2=>by rw[<- j,<- y,ZN h1,ZN h2]
  apply#[L.ν k<|d++[N],T,?_,⟨⟨h.set k o,λr hr=>(s.sp r hr).ν (λa C=>by rw[Ek];show J0 _ C) K,s.nd,λg hm=>by rw[Jg];show s.gn g hm,s.g12,t,F,by rw[Zz7 K s.sp,ex t ((Ik s C E).1)<|BM P];show hT,P⟩,by rw[<- j];show EG R,λn _ hn Internal R2 t2 e2=>?_,by rw[<- j,<- y];simp,λi h1 h2 _=>ex i h1 h2,λg h=>h.ν K<|o.wh.trans Q.wh.symm,by simp,λM h x hx=>?_⟩]
  .clear s o F ex hT;rw[<- (show(L.j LD).ν k (LD<|d++[N])=(L.ν k<|d++[N]).j LD by rw[List.map_set])]at j;generalize LD (d++[N])=B,Ai N=Y,Ai (l.ρ 1)=Y1,Ai l=Y2,(d.j hd).j aD=HH,ws.j D.r=WS,L.j LD=W at *;suffices e2:Po ([.ξ b,.ξ a,‹c›,.no,.no,.no,.no],G)=.U ([.ξ b,.ξ a,‹c›,#v[WS],‹k›,.y<|.ψ z,.y Y],T)from Fl (fi rfl e2) rfl
   rwa[Po,WI,Wy,show ZC [‹c›,‹3›]=Z #v[WS]from es,WH,Wz,Z7 C,x0,lL,mS,WG,WA,i1,lls,hs,hz,fz,WF,WB,x1,ml,xu,DN,DM,c1,ad,fl,WE,WC,Zj,q,hin,hc,f,DQ,E,show Ep "Book" "grow" (A6 L (rs.map Zd) t)=J' by rwa[Ep,show Et.contains "grow"=O' by symm],ZG E,and_self,eg,PN R,ad2,fl2,Nj,R,its,ij,st,j,WD]
  .rw[<- Mn F e2];show hn L _ t E
  .rcases UU hx with hx|rfl
   .show GQ<|h x hx
   .have:=h d H;rw[EL,Mv];lia
theorem lI(x:Int):Rp [‹x›]=Z (.y (.bl J')):=rfl
theorem ZvN{a:Type}(l:U a):Lw [.O ((l.j λ_=>O').j D.bl)]=Z (.bl O'):=by
 erw[Lw,Va,Ka];simp_all
theorem Tb{c:O Bool}{a:DB}{g:Ax}(h:c=Z O'):Ze (ZH c a (.U ρ)) g=g ρ:=by subst h;rfl
theorem ZwZ(s0:Sl)(T:U D)(h:∀r,A9 (s0::r) 0=Z (.O T))(acc:U Br)(k:Nat)(a:U At)(p:Int×U Int)(i:As (.O T) (.r k)=Z (.X [Ai a,vC p]))(f:Z1 acc a=Z p)(Q:a.a<=1000)(z:k=0\/∃q d,As (.O T) (.r ((k:Int)-1))=Z (.X [Ai q,d])/\(∀x∈q,Gd x)/\(∀x∈a,Gd x)/\q.a=a.a/\Bb q a=J'):V6 [s0,.y (.O (Zb (acc.j (Zw vC))) .d),‹k›]=.U [s0,.y (.O (Zb (acc.j (Zw vC))) .d),‹k›]:=by
 let u:As (.X [Ai a,vC p]) (.r 0)=Z (Ai a):=rfl;let j:As (.X [Ai a,vC p]) (.r 1)=Z (vC p):=rfl;let A:CT [.X [Ai a,vC p],.ty "tuple"]=Z (.bl J'):=rfl;let l:CT [vC p,.ty "tuple"]=Z (.bl J'):=rfl;let l1:Zn [.X [Ai a,vC p]]=Z (.r 2):=rfl;let v:∀b,ZJ (Z<|.bl b)=Z b:=λ_=>rfl;let m:Zu (vC p)=Z ([((p.2.a+1:Nat):Int),(p.1::p.2).sum,p.2.Χ mn p.1,p.2.Χ mx p.1].j D.r):=rfl;let n:=Zz (b:=Zc 0) (e:=V5) (ρ:=[.no]) D.r (λ_=>D.bl J') [((p.2.a+1:Nat):Int),(p.1::p.2).sum,p.2.Χ mn p.1,p.2.Χ mx p.1] λx _=>#[[‹x›],rfl,by
  have:=lI x;rwa[V5,this]]
 let E:=ZD ([((p.2.a+1:Nat):Int),(p.1::p.2).sum,p.2.Χ mn p.1,p.2.Χ mx p.1].j D.r) (by simp);let g:Fg [.O<|[((p.2.length+1:Nat):Int),(p.1::p.2).sum,p.2.foldl mn p.1,p.2.foldl mx p.1].map λ_=>D.bl J']=Z (.bl J'):=(Nz [((p.2.a+1:Nat):Int),(p.1::p.2).sum,p.2.Χ mn p.1,p.2.Χ mx p.1]);let w:=Zz (b:=Zc 0) (e:=f8) (ρ:=[.no]) aD (λ_=>D.bl O') a λa _=>#[[.y<|aD a],rfl,by cases a<;>rfl];rw[show a.map (λ_=>D.bl O')=(a.j λ_=>O').j D.bl by rw[CG];rfl]at w;let G:=ZD (a.j aD) (by simp;lia);let H:=SH vC f;let o:DC J' (Ai a) (.O (Zb<|acc.j<|Zw vC) .d)=Z (.bl O'):=by
  rw[MS,Gx a];rwa[SF vC a acc,KV,f];rfl
 let y:=ZBR p.1 p.2;let s:Cc (vC p) (vC p)=Z (.bl O'):=by
  have:Be (vC p) (vC p)=J':=TZ 12 _ y;rwa[Cc,FH,y,this]
 generalize vC p=C,([((p.2.a+1:Nat):Int),(p.1::p.2).sum,p.2.Χ mn p.1,p.2.Χ mx p.1].j D.r)=CI,([((p.2.a+1:Nat):Int),(p.1::p.2).sum,p.2.Χ mn p.1,p.2.Χ mx p.1].j λ_=>D.bl J')=K,acc.j (Zw vC)=P at *;let t:∀a b:Sl,A9 [a,b,‹k›] 2=Z (.r k):=λ_ _=>rfl;refine(Tb ?_).E<|(Tb ?_).E<|(Tb ?_).E<|Tb ?_
 .erw[Zi,Za,h,t,Cp,i,DV,Dy,Zk,GG,pk,A,v,ZM,IC,CK,l1,show Cc (.int 2) (.int 2)=Z (.bl O')from rfl,AI,j,l]
 .erw[Zi,Zj,show Zy 1 [] [s0,.val<|.lst (Zb P) .d,‹k›]=[.no]from rfl,Za,h,t,Cp,i,u,j,m,E,n,show Zu (Ai a)=Z (a.map aD)from rfl,G,w,ZA,Dy,DV,Zk,GG,pk,g,ZvN a,v,ZM,IC,CK]
 .erw[Za,h,show ∀(a c:Sl) (X:D),A9 [a,.val X,c] 1=Z X from λ_ _ _=>rfl,t,Cp,i,u,j,o,H,s,AI,CK]
 .by_cases e:k=0
  .subst e;rfl
  .rcases z with B|⟨q,d,Y,L,M,N,g5⟩
   .show absurd B e
   .let hk:(0:Int)<(k:Int):=∅
    let y0:As (.X [Ai q,d]) (.r 0)=Z (Ai q):=rfl;let F:=Zyy q a L M N;simp_all [Ai,Cp,Dy,IC]
theorem lJ(n:Nat)(u:n<=1000)(s0:Sl)(acc:U Br)(v:∀r,A9 (s0::r) 0=Z (.O (DG acc)))(i:(Zm acc).η)(w:∀k∈Zm acc,(∀a∈k,Gd a)/\k.a=n):∀(b pre:BF) (o:Sl),Zr Bb (Zm acc)=pre++b->∃f,ZO (Zc 2) V6 ((Gu pre.a b.a).j λk:Nat=>D.r k) [s0,.y (.O (Zb (acc.j (Zw vC))) .d),o]=.U [s0,.y (.O (Zb (acc.j (Zw vC))) .d),f]
 |[],pre,o,_=>#[o,rfl]
 |a::b,pre,o,g=>by
  let c:∀k∈Zr Bb (Zm acc),(∀a∈k,Gd a)/\k.a=n:=λk C=>w k<|(ZE Bb _).Ϣ.mp C;let e:a∈Zr Bb (Zm acc):=by rw[g];simp
  let(p,j):=SG e;let l:∀(pre b:BF) (a:U At),Zr Bb (Zm acc)=pre++a::b->As (.O<|DG acc) (.int pre.length)=Z (.tup [Ai a,vC<|(Z1 acc a).getD (0,[])]):=λpre b a g=>by
   apply ZI ?_;unfold DG;rw[g];simp
  let y:=l pre b a g;rw[j]at y;let E:pre.a=0\/∃q d,As (.O<|DG acc) (.r<|(pre.a:Int)-1)=Z (.X [Ai q,d])/\(∀x∈q,Gd x)/\(∀x∈a,Gd x)/\q.a=a.a/\Bb q a=J':=by
   rcases List.eq_nil_or_concat pre with rfl|⟨s,q,rfl⟩
   .show .Q rfl
   .right;rw[List.concat_eq_append]at g ⊢;let h:Zr Bb (Zm acc)=s++q::(a::b):=by rw[g];simp
    let m:q∈Zr Bb (Zm acc):=by rw[h];simp
    let t:(((s++[q]).a:Nat):Int)-1=(s.a:Int):=by simp
    rw[t];let A:=Py Dg<|Zm acc;let hd:(Zr Bb<|Zm acc).Nodup:=(ZE Bb _).nodup_iff.mpr i;rw[h]at A hd;let G:q≠a:=λz=>(Eu.mp (Iy.mp hd).2.1).1 (by rw[z];show Bh);apply#[q,_,l s (a::b) q h,(c q m).1,(c a e).1,by rw[(c q m).2,(c a e).2],?_];cases H:Bb q a with
    |true=>rfl
    |false=>show absurd (Dg.anti _ _ H<|(Na.mp (IF.mp A).2.1).1 a Bh) G
  let t:=ZwZ s0 (DG acc) v acc pre.a a p y j (by rw[(c a e).2];show u) E;let(f,B):=lJ n u s0 acc v i w b (pre++[a]) ‹pre.a› (by rw[g];simp);apply#[f,?_];erw[Cw,Nu,AU,ZO,Zc,Gv,F5,t];rw[EL]at B;show B
theorem ZCh(n:Nat)(j:n<=1000)(s0:Sl)(acc:U Br)(h:s0=#v[DG acc]\/s0=.gV (DG acc))(f:(Zm acc).η)(l:∀k∈Zm acc,(∀a∈k,Gd a)/\k.a=n)(s:acc.a<=1000):Ph [s0,.y (.O (Zb (acc.j (Zw vC))) .d)]=Z (.y (.bl J')):=by
 let(m,e):=lJ n j s0 acc (λr=>by rcases h with rfl|rfl<;>rfl) f l (Zr Bb<|Zm acc) [] .no rfl;let c:(Zr Bb<|Zm acc).a=acc.a:=by rw[(ZE Bb _).ό];unfold Zm;rw[Bq]
 rw[c]at e;rw[show(Gu ([]:BF).a acc.a)=BI acc.a by rw[Nv];rfl]at e;let i:=O1 (acc.a:Int) (KC acc.a) ∅;rw[IL]at i;let o:Zn [.O<|DG acc]=Z (.r acc.a):=by
  simp_all [DG,Bq]
 let l1:Hn [.O (Zb<|acc.j<|Zw vC) .d]=Z (.r acc.a):=by
  have:(acc.j<|Zw vC).all (λp=>!El p.1)=J':=by rw[Kk,Du];show λe _=>rfl
  rwa[Hn,Fh,this,Bq]
 let g:Cc (.r acc.a) (.r acc.a)=Z (.bl O'):=by simp
 let q:CT [.O<|DG acc,.ty "list"]=Z (.bl J'):=rfl;generalize (acc.length:Int)=N,D.lst (Zb<|acc.map<|Zw vC) .d=R,DG acc=T,((BI acc.length).map λk:Nat=>D.r k)=t at *;apply ZB rfl ?_;change V7 [s0,.y R,.no]=_
 rcases h with rfl|rfl<;>rwa[V7,q,show ∀b,ZJ (Z<|.bl b)=Z b from λ_=>rfl,o,l1,g,Z8,i,e]
theorem lK:Et.Ϟ "table"=O':=by symm
theorem ZuM:Et.Ϟ "forget"=O':=by symm
theorem lM{L:AQ}{R T:U D}:FD "Book" "is_kept" (.y (BD L R T))=J':=rfl
section
variable{L:AQ}{R T:U D}{b:Nat}{rs:U Row}{g:U Nat}
theorem lN(b:L8 [#v[L.j LD],.y (AA g)]=Z (.y (.bl J'))):RQ [.y (BD L R (Zb (AH L rs gs))),.y (AA g)]=Z (.y (.bl (decide (g∈gs)))):=by
 let l1:=IX (L:=L) (R:=R) (T:=Zb<|AH L rs gs);let c:=Mj (L:=L) (R:=R) (T:=Zb<|AH L rs gs);let a:=XQ L rs O' gs g;apply ZB rfl ?_;generalize AA g=e,D.O (Zb<|AH L rs gs) .d=TT,BD L R (Zb<|AH L rs gs)=B at *;change Wb [.y B,.y e]=_
 rw[Bool.false_bne]at a;rwa[Wb,l1,c,b,a]
theorem lO(c:L8 [#v[L.j LD],.y (AA g)]=Z (.y (.bl J')))(a:g∈gs):Pk [.y (BD L R (Zb (AH L rs gs))),.y (AA g)]=Z (.Κ (ZQ L g rs)):=by
 let b:=lN (R:=R) (rs:=rs) (gs:=gs) c;rw[decide_eq_true a]at b;let e:=Mj (L:=L) (R:=R) (T:=Zb<|AH L rs gs);let hd:=SV L rs a;let f:FD "Book" "is_kept" (.y<|BD L R<|Zb<|AH L rs gs)=J':=lM;apply ZB rfl ?_;generalize ZQ L g rs=Y,AA g=h,D.O (Zb<|AH L rs gs) .d=TT,BD L R (Zb<|AH L rs gs)=B at *;change Wi [.y B,.y h]=_
 rwa[Wi,DP,Ff,f,b,Ii,e,hd,show He [.lst Y]=Z Y from rfl,Cy]
end
section
variable{L:AQ}{G:Gh}{b t:Nat}{rs:U Row}{g:U Nat}
variable(h:Cq L)(hg:Es L g)(h0:G[b]?=Z (A6 L (rs.j Zd) t))(ht:G[t]?=Z (.Μ .d (Zb (AH L rs gs))))
include h hg h0 ht
theorem ZtH(k:g∈gs)(hz:g≠zg L):Wh [.ξ b,.y (AA g)] G=Z (.y .Α,G.ν t (.Μ .d (Zb (AH L rs (gs.erase g))))):=by
 let l:=lN (R:=rs.j Zd) (rs:=rs) (gs:=gs) (PF h hg);rw[decide_eq_true k]at l;let l1:=IX (L:=L) (R:=rs.j Zd) (T:=Zb<|AH L rs gs);let m:=Xy h;let n:=ZEO g<|zg L;rw[decide_eq_false hz]at n;rw[X0]at m;let p:=XX (x:=AA g) h0 ht;let q:=ZGr (x:=AA g) h0 ht;let c:=XU (xs:=[.ξ b,.y<|AA g]) h0;let f:=Fh<|AH L rs gs;let hok:=Gx<|gk g;rw[F7]at hok;let i:=SU L rs (gk g) gs;let o:=PH L rs gs g;rw[if_pos k]at o;let a:=kE L rs g gs;let r:FD "Book" "is_kept" (.y<|BD L (rs.j Zd)<|Zb<|AH L rs gs)=J':=lM;generalize AH L rs (gs.erase g)=j at *;generalize AA g=s,AA (zg L)=Y,AH L rs gs=u,BD L (rs.j Zd) (Zb<|AH L rs gs)=B at *;let e:Wg ([.ξ b,.y s],G)=.U ([.ξ b,.y s],G.ν t<|.Μ .d<|Zb j):=by
  erw[Wg,p,q,DP,Zf,Za,Zk,DV,C0,A9,Bf,Ej,EU,Cp,Dy,r,l,l1,m,n,O3,Ii,ZM,CK,AI,if_true,IC,jT,C4,Zo,show Bw ([.cel b,.val s],G) 0=Z b from rfl,c,jE,jO,OX _,Q3,ht,f,hok,i,d7,GX,o,a,C5]
 show Fl (fi rfl e) rfl
end
theorem ZEr(k:U At)(ks:BF):D9 J' (Ai k) (.O (ks.j Ai))=Z (.bl (!decide (k∈ks))):=by
 let a:GJ (Ai k) (ks.j Ai)=decide (k∈ks):=by
  unfold GJ;induction ks with|nil=>rfl|cons b ks f=>
   rw[AU,List.any_cons,f,XZ];by_cases c:b=k
   .subst c;simp
   .have:¬ k=b:=λe=>c e.τ;simp[c,this]
 let g:(ks.j Ai).ϭ (A5 12)=J':=by
  rw[Du];intro d hd;let(l,_,rfl):=Bm.mp hd;show Md 11 l
 erw[D9,FH,Md 11 k,g,a,GX,if_true]
theorem lP(g:U Nat)(gs:U (U Nat)):D9 J' (AA g) (.O (gs.j AA))=Z (.bl (!decide (g∈gs))):=by
 have:=ZEr (gk g)<|gs.map gk;rw[F7,CG,show Ai∘gk=AA from funext F7]at this;rw[this];congr 3;rw[decide_eq_decide,Bm];show#[λ⟨x,a,e⟩=>Mi e ▸ a,λh=>#[g,h,rfl]]
theorem ZtG:Et.Ϟ "ladders"=O':=by symm
theorem Zzw:Et.Ϟ "rows"=O':=by symm
section
variable{L:AQ}{R T:U D}
theorem Zri(f:L.a<=4):Vl [.y (BD L R T)]=Z (.Κ (L.j LD)):=by
 let a:=Zz (b:=Zc 0) (e:=eF) (ρ:=[.no]) LD LD L λc _=>#[[.y<|LD c],rfl,rfl];let l1:=IX (L:=L) (R:=R) (T:=T);let d:=ZD (L.j LD) (by simp;lia);apply ZB rfl ?_;generalize BD L R T=B,L.j LD=W at *;change Vk [.y B]=_
 rwa[Vk,Zj,show Zy 1 [] [Sl.val B]=[.no]from rfl,l1,d,a,Cy]
theorem Zyu:Vn [.y (BD L R T)]=Z (.Κ R):=by
 let l1:=SX (L:=L) (R:=R) (T:=T);apply ZB rfl ?_;generalize BD L R T=B at *;change Vm [.y B]=_
 rwa[Vm,Ff,l1,show He [.lst R]=Z R from rfl,Cy]
end
theorem ZED:Et.Ϟ "kept"=O':=by symm
theorem ZA4{L:AQ}{rs:U Row}{R:U D}{ys:U D}(b:Gr Gs (gs.j AA)=Z ys):Rh [.y (BD L R (Zb (AH L rs gs)))]=Z (.Κ ys):=by
 let c:=Mj (L:=L) (R:=R) (T:=Zb<|AH L rs gs);let e:JH (Z<|.O (Zb<|AH L rs gs) .d)=Z ys:=by
  show(EA<|Zb<|AH L rs gs).bind (λa=>Gr Gs<|a.map λp=>kD p.1)=_
  rw[Fh];change Gr Gs ((AH L rs gs).j λp=>kD p.1)=_
  rw[XT,b]
 generalize D.O (Zb<|AH L rs gs) .d=TT,BD L R (Zb<|AH L rs gs)=B at *;apply ZB rfl ?_;change Vo [.y B]=_
 rwa[Vo,c,e,Cy]
theorem ZEh(L:AQ):A5 12 (.O (L.j LD))=J':=by
 show(L.j LD).ϭ (A5 11)=J'
 rw[Du];intro d hd;let(a,_,rfl):=Bm.mp hd;show(a.j Ai).ϭ (A5 10)=J'
 rw[Du];intro d hd;let(l,_,rfl):=Bm.mp hd;show Md 9 l
theorem lQ{L:AQ}{g:U Nat}(a:g.a=L.a){R rs:U Row}(pm:R.Ϧ rs)(b:∀r∈R,AO L r.1):ZQ L g rs=ZQ L g R:=(Zul (n:=L.a) (pm.j _) (kK a b)).τ
theorem ZAS(acc:U Br):(DG acc).a=acc.a:=by
 rw[DG,Bq,(ZE Bb _).ό,Zm,Bq]
theorem ZyK(acc:U Br):Hn [.O (Zb (acc.j (Zw vC))) .d]=Z (.r acc.a):=by
 have:(acc.j<|Zw vC).all (λp=>!El p.1)=J':=by rw[Kk,Du];show λe _=>rfl
 rwa[Hn,Fh,this,Bq]
theorem lR{a b:Type}(f:a->b):∀(R:U a)(i:Nat),(R.j f).Ε i=(R.Ε i).j f
 |[],i=>by simp
 |x::R,0=>by simp
 |x::R,i+1=>by simp[lR f R i]
theorem ZFd:∀{i:Nat}(a:i<gs.a),gs.η->gs.erase gs[i]=gs.Ε i:=by
 induction gs with|nil=>show λa=>absurd a<|Nat.not_lt_zero _|cons x gs b=>
  intro i a c;cases i with|zero=>simp|succ i=>
   let(d,e):=Eu.mp c;rw[List.getElem_cons_succ,U7,XR (by
    erw[beq_iff_eq];show λz=>d<|z ▸ Fy _),b (by exists a) e]
structure KS(L:AQ)(R rs:List Row)(gs:List (List Nat))(a b q p:Nat)(G:Gh):Prop where
 bs:BS L rs gs b G
 pm:R.Ϧ rs
 la:G[a]?=Z (.Μ .l (L.j LD))
 lr:G[q]?=Z (.Μ .l (R.j Zd))
 lk:G[p]?=Z (.Μ .l (gs.j AA))
 gb:∀g∈gs,Es L g
 hz:∃r,gs=zg L::r
structure KD(L L':AQ)(R R' rs':List Row)(gs gs':List (List Nat))(a b q p:Nat)(G G':Gh):Prop where
 ks:KS L' R' rs' gs' a b q p G'
 rl:R'.a<=R.a+6
 gl:gs'.a<=gs.a+1
 mx:∀M,(∀x∈L,x.a<=M)->∀x∈L',x.a<=M+1
 ll:G.a<=G'.a
 nf:∀n,n<G.a->nt b n G->nt b n G'
 ex:∀i,i≠a->i≠b->i≠q->i≠p->i<G.a->nt b i G->G'[i]?=G[i]?
section
variable{x0 x1 x2 x6:IV}{d:Int}{G:Gh}
theorem PQ(h:¬ d<3):Sc ([x0,x1,x2,x3,x4,‹d›,x6,x7],G)=.U ([x0,x1,x2,x3,x4,‹d›,x6,x7],G):=by
 let e:C9 (.r d) (.r 3)=Z (.bl<|decide<|d<3):=rfl;rw[decide_eq_false h]at e;rwa[Sc,e]
theorem PR(h:¬ d=3)(b:¬ d=4):Sd ([x0,x1,x2,x3,x4,‹d›,x6,x7],G)=.U ([x0,x1,x2,x3,x4,‹d›,x6,x7],G):=by
 let e:=Ib d 3;let a:=Ib d 4;rw[decide_eq_false h]at e;rw[decide_eq_false b]at a;rwa[Sd,e,a]
theorem X8(h:¬ d=5):Pu ([x0,x1,x2,x3,x4,‹d›,x6,x7],G)=.U ([x0,x1,x2,x3,x4,‹d›,x6,x7],G):=by
 let e:=Ib d 5;rw[decide_eq_false h]at e;rwa[Pu,e]
theorem lS(h:¬ d=7):Sf ([x0,x1,x2,x3,x4,‹d›,x6,x7],G)=.ϸ (.y (.bl J')) G:=by
 let e:=Ib d 7;rw[decide_eq_false h]at e;rwa[Sf,Xm,e,Xo,Xn];rfl
theorem X9(a:¬ d=6)(b:¬ d=7):Pw ([x0,x1,x2,x3,x4,‹d›,x6,x7],G)=.ϸ (.y (.bl J')) G:=by
 let e:=Ib d 6;rw[decide_eq_false a]at e;rwa[Pw,Se,e,lS b]
theorem dS3(a:¬ d=5)(b:¬ d=6)(c:¬ d=7):Ma ([x0,x1,x2,x3,x4,‹d›,x6,x7],G)=.ϸ (.y (.bl J')) G:=by
 rwa[Ma,X8 a,X9 b c]
end
theorem ZCl{L a:AQ}(h:a.a=L.a):zg L=zg a:=by simp[List.map_const',h]
section
variable{L:AQ}{R rs:U Row}{a b q p:Nat}{G:Gh}(k:KS L R rs gs a b q p G)(haq:a≠q)(hap:a≠p)(hqp:q≠p)
include k
theorem KS.ne:a≠b/\q≠b/\p≠b:=by
 let(t,c,_):=k.bs.bk;show#[λz=>(Ik k.bs k.la c).2 z.τ,λz=>(Ik k.bs k.lr c).2 z.τ,λz=>(Ik k.bs k.lk c).2 z.τ]
include haq hap in
theorem KS.ds{d:AQ}(c:DS L d rs gs a b G G'):KD L d R R rs gs gs a b q p G G':=by
 let(_,f,j):=k.ne;let(r,e):=k.hz;show#[#[c.bs,k.pm,c.la,(c.ex q (BM haq) f<|ZG k.lr).trans k.lr,(c.ex p (BM hap) j<|ZG k.lk).trans k.lk,λg h=>c.gr g<|k.gb g h,r,by rw[e,ZCl c.zl]],∅,∅,c.mx,c.ll,c.nt,λi l m _ _ n _=>c.ex i l m n]
include haq hqp in
theorem KS.pour(o:R.a<90)(c:Int):∃g rs' G',Pt [.ξ b,.ξ a,.ξ q,‹c›] G=Z (.y .Α,G')/\KD L L R g rs' gs gs a b q p G G':=by
 let(_,_,r):=k.ne;let(g,rs',G',e,d,j,l,m,s,ll,tj,ex):=Zui k.bs k.pm k.la k.lr haq o c;apply#[g,rs',G',e,#[#[d,j,l,m,(ex p r (BM hqp)<|ZG k.lk).trans k.lk,k.gb,k.hz],s,∅,λM h x t=>GQ<|h x t,ll,λn A _ Internal R2 B u=>?_,λi _ v w _ y _=>ex i v w y]];let(z,f,_):=d.bk;have:=Mn f u;have:=tj z f;lia
include haq hap hqp
theorem KS.upd{t:Nat}(e:G[b]?=Z (A6 L (rs.j Zd) t))(o:G[t]?=Z (.Μ .d (Zb (AH L rs gs))))(c:b≠t)(nd:gs'.η)(j:gs'.a<=12)(gb:∀g∈gs',Es L g)(hz:∃r,gs'=zg L::r)(w:gs'.a<=gs.a+1):∃f s,G.ν p (.Μ .l (gs'.j AA))=f/\f.ν t (.Μ .d (Zb (AH L rs gs')))=s/\f[b]?=Z (A6 L (rs.j Zd) t)/\f[t]?=Z (.Μ .d (Zb (AH L rs gs)))/\KD L L R R rs gs gs' a b q p G s:=by
 let(tp,m):=Ik k.bs k.lk e;let(y,_):=Ik k.bs k.la e;let(A,_):=Ik k.bs k.lr e;apply#[_,_,rfl,rfl,(ZN m).E e,(ZN tp).E o,?_];let ex:∀i,i≠p->i≠t->((G.ν p<|.dat .l<|gs'.map AA).set t<|.dat .d<|Zb<|AH L rs gs')[i]?=G[i]?:=λi u v=>by rw[ZN v,ZN u]
 apply#[#[#[k.bs.gl,k.bs.sp,nd,λg h=>(gb g h).1,j,t,(ex b m c).E e,EG<|(ZN tp).trans o,c],k.pm,(ex a hap<|BM y).trans k.la,(ex q hqp<|BM A).trans k.lr,(ZN<|BM tp).trans<|EG k.lk,gb,hz],∅,w,λM h x B=>GQ<|h x B,by simp,λn _ C Internal R2 E H=>C Internal R2 E<|(ex b m c).symm.trans H,λi u v N K _ F=>ex i K λz=>F L _ t e z.τ]
omit haq hap hqp in
theorem KD.id:KD L L R R rs gs gs a b q p G G:=#[k,∅,∅,λM h x c=>GQ<|h x c,AX _,λn _ h=>h,λ_ _ _ _ _ _ _=>rfl]
theorem ZAf(hl:R.a<80)(T:∀ls∈L,ls.a<40)(P:gs.a<12)(c:Int):∃X Y rs' gs' G',Sg [.ξ b,.ξ a,.ξ q,.ξ p,‹c›] G=Z (.y (.bl J'),G')/\KD L X R Y rs' gs gs' a b q p G G':=by
 let(ws,es,hw,_):=KP c 1 (by ext);obtain⟨w,x0⟩:∃w,As (.O<|ws.j D.r) (.r 0)=Z (.r w):=#[_,FJ (by ext) ∅];let m8:=C6 w 8 (by ext);let dd:w%8<3\/(w%8=3\/w%8=4)\/w%8=5\/w%8=6\/w%8=7:=∅
 generalize w%8=d at *;let es:ZC [‹c›,‹1›]=Z #v[ws.j D.r]:=es;generalize ws.j D.r=WS at *;let(ab,qb,pb):=k.ne;let h:=k.bs.gl;let(t,M,N,u):=k.bs.bk;let lp:=ZG k.lk;let y:∀r∈R,AO L r.1:=λr hr=>k.bs.sp r<|k.pm.mem_iff.mp hr;let pl:=k.pm.length_eq;let fin:∀G',KN ([.cel b,.cel a,.cel q,.cel p,‹c›,‹d›,.no,.no],G)=.ret (.val<|.bl J') G'->Sg [.cel b,.cel a,.cel q,.cel p,‹c›] G=Z (.val<|.bl J',G'):=λG' e=>Fl (fi rfl (show Xp ([.ξ b,.ξ a,.ξ q,.ξ p,‹c›,.no,.no,.no],G)=.ϸ (.y<|.bl J') G' by rwa[Xp,iq,ip,es,x0,m8,e])) rfl;rcases dd with h3|hd|rfl|rfl|rfl
 .let(Y,rs',G',e,l):=k.pour haq hqp ∅ c;let lt:C9 (.r d) (.r 3)=Z (.bl<|decide<|d<3):=rfl;rw[decide_eq_true h3]at lt;show#[L,Y,rs',gs,G',fin G' (by rwa[KN,Sc,lt,e,Mb,PR (show ¬ d=3 by lia) (show ¬ d=4 by lia),dS3 (show ¬ d=5 by lia) (show ¬ d=6 by lia) (show ¬ d=7 by lia)]),l]
 .let(g,F,eg):=lh h c;let va:=Z7 k.la;let vp:=Z7 k.lk;let fg:BE 2 (AA g)=J':=by rw[<- F7];show FM 2 _
  let inn:=lP g gs;let cs:=kx h F.1 R y ∅;let hn:(ZQ L g rs).a=(Dz (Dh (qs L g) R) []).a:=by rw[lQ F.1 k.pm y];show ZAS _
  let dl:=ZyK<|Dz (Dh (qs L g) R) [];let eN:∀n:Nat,B8 (.int n) (.int n)=Z (.bl J'):=λn=>by rw[Ib,decide_eq_true rfl]
  let E:Ep "Book" "keep" (A6 L (rs.j Zd) t)=J':=by rwa[Ep,kJ]
  suffices key:∃gs' o A,(g∈gs->o=G)/\(∀i,g∉gs->Fj (Z p) (Z<|AA g) (i,G)=Z (.y .Α,o))/\o[b]?=Z (A6 L (rs.j Zd) t)/\L9 [.ξ b,.y<|AA g] o=Z (‹((ZQ L g rs).a:Int)›,A)/\KD L L R R rs gs gs' a b q p G A by
   let(gs',o,A,ea,ap,f,ek,l):=key;let va2:=Z7 l.ks.la;let vq:=Z7 l.ks.lr;let lb:=ZG f;rw[hn]at ek;apply#[L,R,rs,gs',A,fin A ?_,l];clear l fin y hn N k;generalize Zb ((Dz (Dh (qs L g) R) []).j<|Zw vC)=CC,(Dz (Dh (qs L g) R) []).a=n,AA g=S,gs.j AA=GS,L.j LD=W,R.j Zd=RR at *;let e3:=Ib d 3;let e4:=Ib d 4;let oo:CK (Z<|decide<|d=3) (Z<|decide<|d=4)=Z J':=by rcases hd with rfl|rfl<;>rfl
   let st:∀i:U IV,C4 (Z<|!decide (g∈gs)) (Zo (C5 (Fj (Z p) (Z S) (i,G)) (i,G)) λs=>.U s) (.U (i,G))=.U (i,o):=λi=>by
    by_cases m:g∈gs
    .rw[decide_eq_true m,ea m];rfl
    .rw[decide_eq_false m,ap i m];rfl
   clear ea ap;rwa[KN,PQ (show ¬ d<3 by lia),Mb,Sd,e3,e4,oo,va,eg,fg,vp,inn,st,DQ,f,E,lb,and_self,ek,lI,va2,vq,cs,Dk,dl,eN,show BE 2 (.bl J')=J' from rfl]
  by_cases m:g∈gs
  .show#[gs,G,G,λ_=>rfl,λ_ z=>absurd m z,M,kN h F M N m,KD.id k]
  .let(r,H):=k.hz;let(o,A,K,rfl,f,B,l):=k.upd haq hap hqp M N u (gs':=gs++[g]) (Iy.ϡ #[k.bs.nd,by simp,λa ha b hb e=>m (by simp at hb;rw[<- hb,<- e];show ha)]) (by simp;lia) (λx C=>by
    rcases Cn.mp C with C|C
    .show k.gb x C
    .rw[Ca.mp C];show F) #[r++[g],by rw[H];rfl] (by simp)
   rw[Ek]at K;show#[_,o,_,λz=>absurd z m,λi _=>K ▸ Ta k.lk (by simp;lia) (AA g),f,kO h F f B k.bs.sp ∅ u m P,l]
 .let vp:=Z7 k.lk;let ln:Zn [.O<|gs.j AA]=Z (.r gs.a):=by simp
  let Q:E4 (.r gs.a) (.r 1)=Z (.bl<|decide<|1<gs.a):=by
   change Z (D.bl<|decide<|(1:Int)<(gs.a:Int))=_
   congr 2;rw[decide_eq_decide];lia
  by_cases m1:1<gs.a
  .rw[decide_eq_true m1]at Q;let ms:=C6 c ((gs.a:Int)-1) ∅;let(j,hj,hj2):=Mm c (show 0<gs.a-1 by lia);rw[show((gs.a-1:Nat):Int)=(gs.a:Int)-1 by lia]at hj;rw[hj]at ms;let E:1+j<gs.a:=∅
   let hm:gs[1+j]∈gs:=Fy E;let(r,H):=k.hz;let hz:gs[1+j]≠zg L:=λz=>by
    let z2:gs[1+j]?=Z (zg L):=by rw[Cb E,z]
    rw[H,Nat.add_comm,Ej]at z2;let nd:=k.bs.nd;rw[H]at nd;show(Eu.mp nd).1<|HE z2
   let le:=List.length_eraseIdx_le gs<|1+j;let(o,A,K,rfl,f,B,l):=k.upd haq hap hqp M N u (gs':=gs.eraseIdx<|1+j) (k.bs.nd.sublist<|List.eraseIdx_sublist _ _) ∅ (λx C=>k.gb x<|List.mem_of_mem_eraseIdx C) ⟨r.eraseIdx j,by rw[H,Nat.add_comm];rfl⟩ ∅;let ef:=ZtH h (k.gb _ hm) f B hm hz;rw[ZFd E k.bs.nd]at ef;let pp:∀i,KG (Z p) (Z<|.int<|1+(j:Int)) (i,G)=Z (.val<|AA gs[1+j],o):=λi=>by
    let t1:(1+(j:Int)).θ=1+j:=∅
    erw[KG,k.lk,if_pos (show(0:Int)<=1+(j:Int) by lia),t1,CM,Cb E,Ka,lR,K]
   let lb:=ZG f;let fi2:Ep "Book" "forget" (A6 L (rs.j Zd) t)=J':=by rwa[Ep,ZuM]
   apply#[L,R,rs,_,_,fin _ ?_,l];clear l H hz hm fin;generalize AA gs[1+j]=S,gs.j AA=GS at *;rwa[KN,PQ (show ¬ (5:Int)<3 by ext),Mb,PR (show ¬ (5:Int)=3 by ext) (show ¬ (5:Int)=4 by ext),Ma,Pu,show B8 (.int 5) (.int 5)=Z (.bl J')from rfl,vp,ln,Q,ms,pp,DQ,f,fi2,lb,and_self,ef,X9 (show ¬ (5:Int)=6 by ext) (show ¬ (5:Int)=7 by ext)]
  .rw[decide_eq_false m1]at Q;show#[L,R,rs,gs,G,fin G (by rwa[KN,PQ (show ¬ (5:Int)<3 by ext),Mb,PR (show ¬ (5:Int)=3 by ext) (show ¬ (5:Int)=4 by ext),Ma,Pu,show B8 (.int 5) (.int 5)=Z (.bl J')from rfl,vp,ln,Q,X9 (show ¬ (5:Int)=6 by ext) (show ¬ (5:Int)=7 by ext)]),KD.id k]
 .let(X,G',e,ds):=ZxN k.bs k.la ∅ c;show#[X,R,rs,gs,G',fin G' (by rwa[KN,PQ (show ¬ (6:Int)<3 by ext),Mb,PR (show ¬ (6:Int)=3 by ext) (show ¬ (6:Int)=4 by ext),Ma,X8 (show ¬ (6:Int)=5 by ext),Pw,Se,show B8 (.int 6) (.int 6)=Z (.bl J')from rfl,e,lS (show ¬ (6:Int)=7 by ext)]),k.ds haq hap ds]
 .let(X,G',e,ds):=ZuR k.bs k.la T c;apply#[X,R,rs,gs,G',fin G' ?_,k.ds haq hap ds];rwa[KN,PQ (show ¬ (7:Int)<3 by ext),Mb,PR (show ¬ (7:Int)=3 by ext) (show ¬ (7:Int)=4 by ext),Ma,X8 (show ¬ (7:Int)=5 by ext),Pw,Se,show B8 (.int 7) (.int 6)=Z (.bl O')from rfl,Sf,Xm,show B8 (.int 7) (.int 7)=Z (.bl J')from rfl,e,Xo,Xn];rfl
end
theorem lT:∀acc:U Br,Dc 2 (Zb (acc.j (Zw vC)))=J'
 |[]=>rfl
 |e::acc=>by
  show(BE 2 (Ai e.1)&&(BE 2 (vC e.2)&&Dc 2 (Zb<|acc.j<|Zw vC)))=J'
  rw[FM,lT acc];rfl
theorem ZBh(acc:U Br):Dc 2 (DG acc)=J':=H9 λd hd=>by
 let(k,_,rfl):=Bm.mp hd;show(BE 2 (Ai k)&&(BE 2 (vC _)&&J'))=J'
 rw[FM];rfl
theorem ZDg{L:AQ}(h:Cq L){R:U Row}(b:∀r∈R,AO L r.1)(j:R.a<1000){g:U Nat}(e:g.a=L.a):Ph [#v[ZQ L g R],.y (.O (Zb ((Dz (Dh (qs L g) R) []).j (Zw vC))) .d)]=Z (.y (.bl J')):=by
 let ok:=XY e b;apply ZCh L.a (by have:=h.n4;lia) #v[ZQ L g R] _ (.Q rfl) ok.nd (λk c=>#[?_,ok.kl k c]) (by have:=ok.ϩ;lia);rcases lD _ _ k c with a|⟨r,a,rfl⟩
 .cases a
 .let(f,i,rfl):=Bm.mp a;show lC h.good<|b f i
structure EX(G G':Gh):Prop where
 ll:G.a<=G'.a
 ex:∀i,i<G.a->G'[i]?=G[i]?
theorem EX.trans{G a b:Gh}(h:EX G a)(c:EX a b):EX G b:=#[Bv h.ll c.ll,λi d=>(c.ex i<|B3 d h.ll).E<|h.ex i d]
theorem EX.app(G:Gh)(c:Cl):EX G (G++[c]):=#[by simp,λi a=>Fd a]
section
variable{L:AQ}{R rs:U Row}{a b q p:Nat}{G:Gh}(k:KS L R rs gs a b q p G)
include k
theorem KS.ext(e:EX G G'):KS L R rs gs a b q p G':=by
 let(t,c,d,_):=k.bs.bk;show#[k.bs.δ (e.ex b<|ZG c) λg f=>by rw[<- Mn c f];show e.ex t<|ZG d,k.pm,(e.ex a<|ZG k.la).E k.la,(e.ex q<|ZG k.lr).E k.lr,(e.ex p<|ZG k.lk).E k.lk,k.gb,k.hz]
theorem ZBe{s0 x8 x9 x11:IV}(F:R.a<100){g:U Nat}(u:g∈gs):∃m e G',Sh ([s0,.ξ a,.ξ b,x3,x4,.ξ p,.ξ q,x7,x8,x9,.y (AA g),x11],G)=.U ([s0,.ξ a,.ξ b,x3,x4,.ξ p,.ξ q,x7,x8,m,.y (AA g),e],G')/\EX G G':=by
 let h:=k.gb g u;let c:∀r∈R,AO L r.1:=λr w=>k.bs.sp r<|k.pm.Ϣ.mp w;let va:=Z7 k.la;let vq:=Z7 k.lr;let(t,n,o,x):=k.bs.bk;let i:=EX.app G<|.Μ .l [];obtain⟨j,f⟩:∃j,G++[Cl.Μ .l []]=j:=#[_,rfl];rw[f]at i;let y:=G6 2 (by ext) n o;let s:=G6 2 (by ext) ((i.ex b<|ZG n).E n)<|(i.ex t<|ZG o).E o;let z:=kx k.bs.gl h.1 R c ∅;let A:=lT<|Dz (Dh (qs L g) R) [];let ty:=lO (R:=rs.j Zd) (rs:=rs) (gs:=gs) (PF k.bs.gl h) u;let C:=ZDg k.bs.gl c ∅ h.1;let E:Dc 2 (ZQ L g R)=J':=ZBh _;rw[lQ h.1 k.pm c]at ty;let H:FD "Book" "table" (.y<|BD L (rs.j Zd)<|Zb<|AH L rs gs)=J':=by rwa[FD,lK]
 generalize Zb ((Dz (Dh (qs L g) R) []).j<|Zw vC)=N,ZQ L g R=T,AA g=K,L.j LD=W,R.j Zd=M,BD L (rs.j Zd) (Zb<|AH L rs gs)=B at *;apply#[.ξ G.a,.y<|.O N .d,j,?_,i];rwa[Sh,Ir,va,vq,z,Qn,jG,jL,A,xF,DP,y,H,ty,FW,E,show Dx 2 (G++[.dat .l T]) (.cel G.length)=#v[T]from Z7 (by simp),C,Ii,Nk,show(G++[Cl.dat .l T])[G.length]?=Z (.dat .l T) by simp,show(G++[Cl.dat .l T]).set G.length (.dat .l [])=j by rw[<- f];simp,s,Ia]
theorem ZBK{s0 x8:IV}(n:R.a<100):∀(c:U (U Nat))(x9 x10 x11:IV)(G':Gh),(∀g∈c,g∈gs)->EX G G'->∃i d f h,Hq 10 p (gs.j AA) Sh (c.j AA) ([s0,.ξ a,.ξ b,x3,x4,.ξ p,.ξ q,x7,x8,x9,x10,x11],G')=.U ([s0,.ξ a,.ξ b,x3,x4,.ξ p,.ξ q,x7,x8,i,d,f],h)/\EX G h:=by
 intro c;induction c with|nil=>show λx9 x10 x11 G' _ e=>#[x9,x10,x11,G',by rw[Dj,Hq,if_pos (k.ext e).lk],e]|cons g c o=>
  intro x9 x10 x11 G' hz e;let(r,j,s,t,u):=ZBe (k.ext e) (s0:=s0) (x3:=x3) (x4:=x4) (x7:=x7) (x8:=x8) (x9:=x9) (x11:=x11) n (hz g Bh);let(v,l,m,h,w,x):=o r (.y<|AA g) j s (λg y=>hz g<|Bl _ y) (e.E u);apply⟨v,l,m,h,?_,x⟩;rw[AU,Hq,if_pos (k.ext e).lk];rwa[t,w]
end
theorem ZDy(gs:U (U Nat)):A5 12 (.O (gs.j AA))=J':=by
 show(gs.j AA).ϭ (A5 11)=J'
 rw[Kk,Du];show λg _=>ZCz 10 g
section
variable{L:AQ}{R rs:U Row}{a b q p:Nat}{G:Gh}(k:KS L R rs gs a b q p G)(haq:a≠q)(hap:a≠p)(hqp:q≠p)
include k haq hap hqp
theorem Zx4{s0 x9 x10 x11:IV}(hl:R.a<80)(C:∀ls∈L,ls.a<40)(E:gs.a<12)(c:Int):∃e H rs' gs' G' S r s,Sj ([s0,.ξ a,.ξ b,x3,x4,.ξ p,.ξ q,x7,‹c›,x9,x10,x11],G)=.U ([s0,.ξ a,.ξ b,x3,x4,.ξ p,.ξ q,x7,‹c›,S,r,s],G')/\KD L e R H rs' gs gs' a b q p G G':=by
 let(e,H,rs',gs',f,ed,d):=ZAf k haq hap hqp hl C E c;let j:=d.ks;let(t,o,u,hbt):=j.bs.bk;let w:=EX.app f<|.dat .l [];let F:=EX.app f<|.dat .l<|(Zr Di gs').map AA;let x:=j.ext w;let m:=j.ext F;let(y9,M,N,G3,er,e3):=ZBK x (s0:=s0) (x3:=x3) (x4:=x4) (x7:=x7) (x8:=‹c›) (by have:=d.rl;lia) gs' (.cel f.length) x10 x11 (f++[.dat .l []]) (λg K=>K) #[AX _,λ_ _=>rfl];let h:=w.E e3;let y:=kQ (gs:=gs') (by have:=j.bs.g12;lia) (λg K z=>by have A:=j.bs.gn g K;have:=j.bs.gl.n1;rw[z]at A;simp at A;lia);let so:JH (Z<|.O<|gs'.j AA)=Z ((Zr Di gs').j AA):=y;let hk:=ZA4 (L:=e) (rs:=rs') (R:=rs'.j Zd) y;let Q:=Zri (L:=e) (R:=rs'.j Zd) (T:=Zb<|AH e rs' gs') j.bs.gl.n4;let vb:=G6 2 (by ext) o u;let P:=G6 2 (by ext) ((F.ex b<|ZG o).E o)<|(F.ex t<|ZG u).E u;let vb2:=G6 2 (by ext) ((w.ex b<|ZG o).E o)<|(w.ex t<|ZG u).E u;let vp1:=Z7 m.lk;let vp2:=Z7 x.lk;let va1:=Z7 m.la;let hi:FD "Book" "kept" (.y<|BD e (rs'.j Zd)<|Zb<|AH e rs' gs')=J':=by rwa[FD,ZED]
 let hi2:FD "Book" "ladders" (.y<|BD e (rs'.j Zd)<|Zb<|AH e rs' gs')=J':=by rwa[FD,ZtG]
 let n1:=lg<|ZDy<|Zr Di gs';let n2:=lg<|ZEh e;let fg:Dc 2 ((Zr Di gs').map AA)=J':=H9 λd hd=>by let(g,_,rfl):=Bm.mp hd;rw[<- F7];show FM 2 _
 apply#[e,H,rs',gs',G3,y9,M,N,?_,#[j.ext h,d.rl,d.gl,d.mx,Bv d.ll h.ll,λn hn z Internal R2 t2 ee=>?_,λi A h2 h3 h4 h5 h6=>(h.ex i<|B3 h5 d.ll).E<|d.ex i A h2 h3 h4 h5 h6]]
 .let lp:=x.lk;let vj:Dx 2 (f++[.Μ .l<|(Zr Di gs').j AA]) (.ξ f.a)=#v[(Zr Di gs').j AA]:=Z7 (by simp);let hj:(f++[Cl.Μ .l<|(Zr Di gs').j AA])[f.a]?=Z (.Μ .l<|(Zr Di gs').j AA):=by simp
  let y:(f++[Cl.Μ .l<|(Zr Di gs').j AA]).ν f.a (.Μ .l [])=f++[.Μ .l []]:=by simp
  clear j x m d h e3;generalize f++[Cl.Μ .l []]=G2,(Zr Di gs').j AA=Y,gs'.j AA=GS,e.j LD=W,BD e (rs'.j Zd) (Zb<|AH e rs' gs')=B at *;rwa[Sj,ed,Q5,DP,vb,hi,hk,FW,jG,jL,fg,vj,vp1,so,n1,P,hi2,Q,Ia,va1,n2,Nk,hj,y,vb2,vp2,Q8,lp,er]
 .rw[h.ex b<|ZG o]at ee;show d.nf n hn z Internal R2 t2 ee
end
section
variable{L:AQ}{R rs:U Row}{a b q p:Nat}{G:Gh}(k:KS L R rs gs a b q p G)(haq:a≠q)(hap:a≠p)(hqp:q≠p)
structure B2(a b q p m n:Nat)(c d:Cl)(G:Gh):Prop where
 c1:G[m]?=Z c
 c2:G[n]?=Z d
 n1:nt b m G
 n2:nt b n G
theorem B2.kd{c d:Cl}{m n:Nat}{g:AQ}{h rs':U Row}(s:B2 a b q p m n c d G)(e:m≠a/\m≠b/\m≠q/\m≠p)(f:n≠a/\n≠b/\n≠q/\n≠p)(k:KD L g R h rs' gs gs' a b q p G G'):B2 a b q p m n c d G':=#[(k.ex m e.1 e.2.1 e.2.2.1 e.2.2.2 (ZG s.c1) s.n1).E s.c1,(k.ex n f.1 f.2.1 f.2.2.1 f.2.2.2 (ZG s.c2) s.n2).E s.c2,k.nf m (ZG s.c1) s.n1,k.nf n (ZG s.c2) s.n2]
include haq hap hqp
theorem ZzX{s0:IV}{c d:Cl}{m n:Nat}(y:m≠a/\m≠b/\m≠q/\m≠p)(A:n≠a/\n≠b/\n≠q/\n≠p):∀(cs:U Int)(L:AQ)(R rs:U Row)(gs:U (U Nat))(G:Gh)(x8 x9 x10 x11:IV),KS L R rs gs a b q p G->B2 a b q p m n c d G->R.a+6*cs.a<80->(∀M,M+cs.a=39->∀e∈L,e.a<=M)->gs.a+cs.a<=12->∃G' i j f g,F4 8 Sj (cs.j D.r) ([s0,.ξ a,.ξ b,x3,x4,.ξ p,.ξ q,x7,x8,x9,x10,x11],G)=.U ([s0,.ξ a,.ξ b,x3,x4,.ξ p,.ξ q,x7,i,j,f,g],G')/\B2 a b q p m n c d G':=by
 intro cs;induction cs with|nil=>show λL R rs gs G x8 x9 x10 x11 _ s _ _ _=>#[G,x8,x9,x10,x11,rfl,s]|cons z cs B=>
  intro L R rs gs G x8 x9 x10 x11 k s C l E;rw[Cw]at C l E;let(H,S,o,r,F,K,t,u,Q,h):=Zx4 k haq hap hqp (s0:=s0) (x3:=x3) (x4:=x4) (x7:=x7) (x9:=x9) (x10:=x10) (x11:=x11) ∅ (λe v=>by have:=l (39-(cs.a+1)) ∅ e v;lia) ∅ z;let r1:=h.rl;let r2:=h.gl;let(T,P,Y,w,x,e2,s2):=B H S o r F ‹z› K t u h.ks (s.kd y A h) ∅ (λM hM e v=>by
   obtain⟨N,rfl⟩:∃N,M=N+1:=#[M-1,∅];show h.mx N (l N ∅) e v) ∅
  apply#[T,P,Y,w,x,?_,s2];rw[AU];rwa[F4,Q,e2]
end
theorem lU{L:AQ}(h:Cq L)(G:Gh):Nr [.ξ G.a,#v[L.j LD]] (G++[.mix (.i [] "Book") []])=Z (.y .Α,G++[A6 L [] (G.a+1),.Μ .d (Zb (AH L [] [zg L]))]):=by
 let l:=h.al;let m:=Xy h;let j:=kR h [] (λ_ h=>nomatch h) (by ext) [zg L] (by simp) (by simp) (by simp);rw[Dj,AU,Dj,<- X0]at j;let n:=Zz (b:=Zc 0) (e:=g9) (ρ:=[.no]) LD LD L λo _=>#[[.y<|LD o],rfl,rfl];let p:=ZD (L.map LD) (by have:=h.n4;simp;lia);let q:=S0 L;let r:=X2 L [] [zg L];let lk:Db "Book" "axes" (.lst [.lst<|L.map LD,.lst []]<|.i ["axes","standing"] "Book")=Z (.lst<|L.map LD):=rfl;let f:∀c:Cl,(G++[c])[G.length]?=Z c:=λc=>by simp
 let k:∀c d:Cl,(G++[c]).ν G.a d=G++[d]:=λc d=>by simp
 let t:∀a:U D,Dx 1 (G++[.mix (.i ["axes","standing"] "Book") [#v[a],#v[[]]]]) (.ξ G.a)=.y (.O [.O a,.O []]<|.i ["axes","standing"] "Book"):=λa=>by
  have:=f<|.mix (.i ["axes","standing"] "Book") [#v[a],#v[[]]];simp_all
 generalize Zb (AH L [] [zg L])=TT at *;generalize g:L.j LD=a at *;suffices e:RY ([.ξ G.a,#v[a]],G++[.mix (.i [] "Book") []])=.U ([.ξ G.a,#v[a]],G++[.mix kB [#v[a],#v[[]],.ξ<|G.a+1],.Μ .d TT])from by
  show(match RY ([.ξ G.a,#v[a]],G++[.mix (.i [] "Book") []])with | .ret x u=>Z (x,u) | .next s=>Z (.y .Α,s.2)|_=>J)=_
  rw[e,<- g]
 rwa[RY,hV,hD,l,Ii,hU,hE,Zj,show ∀V:Sl,Zy 1 [] [V,#v[a]]=[.no]from λ_=>rfl,p,n,jG,jL,q,xF,GV,f,k,and_self,true_and,putN,D2,show(0:Nat)<1000 by ext];rwa[hR,hG,show Zh (Z ([]:U D))=Z []from rfl,jG,jL,show Dc 2 []=J' from rfl,xF,GV,f,k,IK,true_and,show(1:Nat)<1000 by ext,show Internal.putN "standing" ["axes"]=(["axes","standing"]:U Af) by symm,show ∀x y:IV,D2 "standing" y ["axes"] [x]=[x,y]from λx y=>by erw[D2,if_neg (show ¬ ("axes":Af)="standing" by symm)],hQ,hH,t,Ir,lk,m,j,Qn,r,show ∀c:Cl,(G++[c]).length=G.length+1 from λc=>by simp,show ∀c d:Cl,G++[c]++[d]=G++[c,d]from λc d=>by simp,show ∀c d:Cl,(G++[c,d])[G.length]?=Z c from λc d=>by simp,show ∀c e d:Cl,(G++[c,e]).set G.length d=G++[d,e]from λc e d=>by simp,G5,show(2:Nat)<1000 by ext,show Internal.putN "tables" ["axes","standing"]=(["axes","standing","tables"]:U Af) by symm,show ∀x y z:IV,D2 "tables" z ["axes","standing"] [x,y]=[x,y,z]from λx y z=>by erw[D2,if_neg (show ¬ ("axes":Af)="tables" by symm),if_neg (show ¬ ("standing":Af)="tables" by symm)],hJ]
theorem ZyF(ns:U Int):∃G',iU [.y (.O (ns.j D.r))] []=Z (.y (.bl J'),G'):=by
 let(L,h,h6,eL):=Zts ns;let h4:=h.n4;let c5:=Sq #v[ns.j D.r] ns (.Q rfl) 5 (by ext);let c6:=Sq #v[ns.j D.r] ns (.Q rfl) 6 (by ext);generalize ns.Y (5:Int).θ 0=n5,ns.Y (6:Int).θ 0=n6 at *;obtain⟨T,H⟩:∃T,Cl.Μ .d (Zb<|AH L [] [zg L])=T:=#[_,rfl];let ei:Nr [.cel 1,#v[L.map LD]] [.dat .l<|L.map LD,.mix (.i [] "Book") []]=Z (.val .non,[.dat .l<|L.map LD,A6 L [] 2,T]):=H ▸ lU h [.dat .l<|L.map LD];let ei2:Nr [.cel 3,#v[L.map LD]] [.dat .l<|L.map LD,A6 L [] 2,T,.mix (.i [] "Book") []]=Z (.val .non,[.dat .l<|L.map LD,A6 L [] 2,T,A6 L [] 4,T]):=H ▸ lU h [.dat .l<|L.map LD,A6 L [] 2,T];let(g,hg,eg):=lh h n5;let fg:∀g,BE 2 (AA g)=J':=λg=>by rw[<- F7];show FM 2 _
 let zB:∀(X Y:Cl),nt 1 3 [.Μ .l<|L.map LD,A6 L [] 2,X,A6 L [] 4,T,Y,.dat .l []]/\nt 1 4 [.dat .l<|L.map LD,A6 L [] 2,X,A6 L [] 4,T,Y,.dat .l []]:=λX Y=>#[λL2 R2 t e=>by rw[<- Mn (t:=2) (L:=L) (R:=[]) rfl e];decide,λL2 R2 t e=>by rw[<- Mn (t:=2) (L:=L) (R:=[]) rfl e];decide];let s7:BS L [] [zg L] 1 [.Μ .l<|L.map LD,A6 L [] 2,T,A6 L [] 4,T,.dat .l [AA<|zg L],.dat .l []]:=#[h,λ_ h=>(nomatch h),by simp,by simp,by simp,2,rfl,by rw[<- H];rfl,by ext];let keep:∃A w,L9 [.ξ 1,.y<|AA g] [.Μ .l<|L.j LD,A6 L [] 2,T,A6 L [] 4,T,.Μ .l [AA<|zg L],.Μ .l []]=Z (‹((ZQ L g []).a:Int)›,w)/\w[5]?=Z (.Μ .l [AA<|zg L])/\A.a<=2/\(Dx 2 w (.ξ 0)=#v[L.j LD])/\D9 J' (AA g) (.O [AA<|zg L])=Z (.bl<|!decide (g∈[zg L])) /\
   ∃j,(g∈[zg L]->j=w)/\(g∉[zg L]->j=w.ν 5 (.Μ .l [AA<|zg L,AA g]))/\KS L [] [] A 0 1 6 5 j/\B2 0 1 6 5 3 4 (A6 L [] 4) T j:=by
  let f:=lP g [zg L];rw[show [zg L].j AA=[AA<|zg L]from rfl]at f;by_cases m:g∈[zg L]
  .let F:=kN (rs:=[]) h hg (b:=1) (t:=2) (gs:=[zg L]) (G:=[.Μ .l<|L.map LD,A6 L [] 2,T,A6 L [] 4,T,.dat .l [AA<|zg L],.dat .l []]) rfl (by rw[<- H];rfl) m;show⟨[zg L],_,F,rfl,by simp,Z7 rfl,f,_,λ_=>rfl,λz=>absurd m z,⟨s7,.ω _,rfl,rfl,rfl,λx o=>by rw[Ca.mp o];show Es.zero L,[],rfl⟩,⟨rfl,rfl,(zB _ _).1,(zB _ _).2⟩⟩
  .let F:=kO (rs:=[]) h hg (b:=1) (t:=2) (gs:=[zg L]) (G:=[.Μ .l<|L.map LD,A6 L [] 2,T,A6 L [] 4,T,.dat .l [AA<|zg L],.dat .l []]) rfl (by rw[<- H];rfl) (λ_ h=>(nomatch h)) (by ext) (by ext) m (by simp);apply#[[zg L,g],_,F,rfl,by simp,Z7 rfl,f,_,λz=>absurd z m,λ_=>rfl,#[#[h,λ_ h=>(nomatch h),by simp at m;simp[BM m],λx o=>?_,by simp,2,rfl,rfl,by ext],.ω _,rfl,rfl,rfl,λx o=>?_,[g],rfl],#[rfl,rfl,(zB _ _).1,(zB _ _).2]]
   .rcases Bx.mp o with rfl|o
    .simp
    .rw[Ca.mp o];show hg.1
   .rcases Bx.mp o with rfl|o
    .show Es.zero L
    .rw[Ca.mp o];show hg
 let(A,w,F,e5,g2,v9,f,j,i1,i2,N,K):=keep;let(R',rs',G11,ep,r):=N.pour (by ext) (by ext) (by ext) n6;let Q:=K.kd (by ext) (by ext) r;obtain⟨y,hcl,e9,Xr⟩:∃y:U Int,y.a<=10/\Ex (.O<|ns.j D.r) (Z 7) (Z 17)=Z (.O<|((ns.ρ 7).ϋ 10).j D.r)/\∀(x1 x2 P x4 x5 x6 x8 x9 s u:IV) (G:Gh),So ([#v[ns.j D.r],x1,x2,P,x4,x5,x6,#v[((ns.ρ 7).ϋ 10).j D.r],x8,x9,s,u],G)=.U ([#v[ns.j D.r],x1,x2,P,x4,x5,x6,#v[y.j D.r],x8,x9,s,u],G):=by
  let s9:Ex (.O<|ns.j D.r) (Z 7) (Z 17)=Z (.O<|((ns.ρ 7).ϋ 10).j D.r):=by
   change Z (D.O<|EQ (ns.j D.r) (Z 7)<|some 17)=_
   rw[ye _ _ _ (by ext) (by ext),<- List.map_drop,<- List.map_take];rfl
  obtain⟨k,hz⟩:∃k,(ns.ρ 7).ϋ 10=k:=#[_,rfl];rw[hz]at s9 ⊢;let m8:=C6 n6 8 (by ext);obtain⟨n,hn,hn8⟩:∃n:Nat,n6%8=(n:Int)/\n<8:=#[(n6%8).θ,∅,∅];rw[hn]at m8;let lz:Zn [.O<|k.j D.r]=Z (.r k.a):=by simp
  let lt:C9 (.r k.a) (.r n)=Z (.bl<|decide<|(k.a:Int)<(n:Int)):=rfl;by_cases c:(k.a:Int)<(n:Int)
  .let(ws,es,hw,_):=KP n6 n ∅;apply#[ws,∅,s9,λx1 x2 P x4 x5 x6 x8 x9 s u G=>?_];rw[decide_eq_true c]at lt;generalize ns.j D.r=S,k.j D.r=ZS,ws.j D.r=WS at *;rwa[So,lz,c6,m8,lt,es]
  .apply#[k,(show k.a<=10 by rw[<- hz,Jc];lia),s9,λx1 x2 P x4 x5 x6 x8 x9 s u G=>?_];rw[decide_eq_false c]at lt;generalize ns.j D.r=S,k.j D.r=ZS at *;rwa[So,lz,c6,m8,lt]
 let(G12,z8,z9,z10,z11,Xs,B):=ZzX (a:=0) (b:=1) (q:=6) (p:=5) (by ext) (by ext) (by ext) (s0:=#v[ns.j D.r]) (x3:=.ξ 3) (x4:=.y<|AA<|zg L) (x7:=#v[y.map D.int]) (m:=3) (n:=4) (by ext) (by ext) y L R' rs' A G11 .no .no .no .no r.ks Q (by have:=r.rl;simp at this;lia) (λM hM C hl=>by have:=h6 C hl;lia) ∅;apply#[G12,?_];let fL:=S0 L;let fL1:BE 1 (.O<|L.j LD)=J':=by
  show(!vk 1 .l&&Dc 1 (L.j LD))=J'
  rw[fL];rfl
 let qL:=ZD (L.j LD) (by simp;lia);let hc0:=Zz (b:=Zc 0) (e:=ir) (ρ:=[.no]) LD LD L λC _=>#[[.y<|LD C],rfl,rfl];let hc1:=Zz (b:=Zc 0) (e:=iu) (ρ:=[.no]) LD LD L λC _=>#[[.y<|LD C],rfl,rfl];let hc2:=Zz (b:=Zc 0) (e:=iv) (ρ:=[.no]) LD (λ_=>D.r 0) L λC _=>#[[.y<|LD C],rfl,rfl];let ht:E5 [.lst<|L.map λ_=>D.r 0]=Z (KU L):=rfl;rw[X0]at ht;let E:∀xs,Zy 1 [] xs=[.no]:=λ_=>rfl;let fz:Dc 2 [AA<|zg L]=J':=by
  show(BE 2 (AA<|zg L)&&J')=J'
  rw[fg];rfl
 let fgz:=fg<|zg L;let fgg:=fg g;let v1:Dx 1 [Cl.Μ .l<|L.j LD] (.ξ 0)=.gV (L.j LD):=PN rfl;let v2:Dx 1 [Cl.Μ .l<|L.j LD,A6 L [] 2,T] (.ξ 0)=.gV (L.j LD):=PN rfl;let v3:Dx 2 [Cl.Μ .l<|L.j LD,A6 L [] 2,T,A6 L [] 4,T] (.ξ 0)=#v[L.j LD]:=Z7 rfl;let v7:Dx 2 [Cl.Μ .l<|L.j LD,A6 L [] 2,T,A6 L [] 4,T,.Μ .l [AA<|zg L],.Μ .l []] (.ξ 0)=#v[L.j LD]:=Z7 rfl;let v5:=Z7 e5;let lstc:Kz (.O<|y.j D.r)=Z (y.j D.r):=rfl;subst H;let vb:=G6 2 (by ext) B.c1 B.c2;let ty:=lO (R:=[]) (rs:=[]) (gs:=[zg L]) (PF h<|Es.zero L) (by simp);let ro:=Zyu (L:=L) (R:=[]) (T:=Zb<|AH L [] [zg L]);let h1:FD "Book" "table" (.y<|BD L []<|Zb<|AH L [] [zg L])=J':=by rwa[FD,lK]
 let h2:FD "Book" "rows" (.y<|BD L []<|Zb<|AH L [] [zg L])=J':=by rwa[FD,Zzw]
 rw[show ZQ L (zg L) []=[]from rfl]at ty;let p7:Sk ([#v[ns.j D.r],.ξ 0,.ξ 1,.ξ 3,.y<|AA<|zg L,.ξ 5,.ξ 6,.no,.no,.no,.no,.no],w)=.U ([#v[ns.j D.r],.ξ 0,.ξ 1,.ξ 3,.y<|AA<|zg L,.ξ 5,.ξ 6,.no,.no,.no,.no,.no],j):=by
  by_cases m:g∈[zg L]
  .rw[decide_eq_true m]at f;rw[i1 m];generalize L.j LD=W,AA g=zA,ns.j D.r=S at *;rwa[Sk,v9,v5,c5,eg,f]
  .rw[decide_eq_false m]at f;let ap:∀ss,Fj (Z 5) (Z<|AA g) (ss,w)=Z (.val .non,j):=λss=>by rw[i2 m];show Ta e5 (show 1<1000 by ext)<|AA g
   generalize L.j LD=W,AA g=zA,ns.j D.r=S at *;rwa[Sk,v9,v5,c5,eg,f,fgg,ap]
 clear i1 i2 N K r Q B s7 zB f v9 v5 e5;generalize ns.j D.r=S,y.j D.r=CS,((ns.ρ 7).ϋ 10).j D.r=ZS,AA g=zA,AA (zg L)=Y,Zb (AH L [] [zg L])=TT,L.j LD=W at *;suffices e:Xq ([#v[S],.no,.no,.no,.no,.no,.no,.no,.no,.no,.no,.no],[])=.ϸ (.y<|.bl J') G12 from Fl (fi rfl e) rfl
 rwa[Xq,iT,iw,FY,eL,FW,jG,jL,fL,EV,iS,ix,v1,Zj,E,qL,hc0,fL1,Nh,GF,IK,ei];rwa[iR,iy,v2,Zj,E,qL,hc1,fL1,Nh,GF,EV,IK,G5,ei2];rwa[iQ,iz,v3,Zj,E,qL,hc2,ht,fgz,iP,iA,jG,jL,fz,GF,EV,IK,G5,iO,iB,show Zh (Z ([]:U D))=Z []from rfl,show Dc 2 []=J' from rfl];rwa[iN,iC,v7,c5,eg,fgg,DQ,show Ep "Book" "keep" (A6 L [] 2)=J' by rwa[Ep,kJ],show(1:Nat)<7 by ext,IK,G5,and_self,F,iM,p7];rwa[iL,iD,c6,ep,iK,iE,DN,DM,e9,iJ,Xr,iI,iF,lstc,JD,Xs,iH,iG,DP,vb,h1,ty,h2,ro,Ia,show Zh (Z ([]:U D))=Z []from rfl,show B8 (.lst []) (.lst [])=Z (.bl J')from rfl,show BE 2 (.bl J')=J' from rfl]
end
variable{acc:U Br}{R rs':U Row}{cs:U Er}
set_option tactic.hygienic true
def Bg(i:Nat):AF:=PySem.Challenge.pw_cubebook_k52_kept_as_anew.main.body.Y i (.Pass #[0,0,0,0])
abbrev lV:U Af:=["ladder","level","other"]
abbrev lW:U Af:=["ladder","level","value"]
abbrev lX:U Af:=["ladder","level","thing"]
abbrev lY:U Af:=["ladders","thing"]
abbrev lZ:U Af:=["ladders","axis"]
abbrev l3:U Af:=["ladder","thing"]
abbrev l6:U Af:=["ladders","thing"]
abbrev l7:U Af:=["ladders","grain","to"]
abbrev l8:U Af:=["ladders","rows","grain"]
abbrev l9:U Af:=["ladders","thing"]
abbrev mf:U Af:=["ladders","thing"]
abbrev mj:U Af:=["standing","row"]
abbrev mk:U Af:=["standing","row"]
abbrev mm:U Af:=["ladders","rows","changes"]
abbrev mo:U Af:=["ladders","rows","grains"]
abbrev mq:U Af:=["ahead","behind"]
abbrev mr:U Af:=["ahead","behind"]
abbrev mv:U Af:=["ladder","level"]
abbrev mw:U Af:=["ladder","level","value","parent"]
abbrev my:U Af:=["ladder","line"]
abbrev mB:U Af:=["self","ladders"]
abbrev mC:U Af:=["self","changes"]
abbrev mD:U Af:=["self","axis","level","value","parent"]
abbrev mE:U Af:=["self","axis","line"]
abbrev mF:U Af:=["self","axis","ladder"]
abbrev mG:U Af:=["_law_script","_law_k"]
abbrev mH:U Af:=["_law_cell_here","_law_many"]
abbrev mI:U Af:=["_law_cell_here","_law_way","_law_k"]
abbrev mJ:U Af:=["_law_cell_here"]
abbrev mK:U Af:=["_law_ladder_here","_law_value","_law_level"]
abbrev mL:U Af:=["_law_ladders_here","_law_key","_law_grain_here"]
abbrev mM:U Af:=["_law_ladders_here","_law_cell_here"]
abbrev mN:U Af:=["_law_ladders_here","_law_cell_here"]
abbrev mO:U Af:=["_law_ladders_here","_law_rows","_law_grain_here"]
abbrev mP:U Af:=["_law_one","_law_other"]
abbrev mQ:U Af:=["_law_one","_law_other"]
abbrev mR:U Af:=["_law_table","_law_cells_here"]
abbrev mT:U Af:=["_law_book","_law_ladders_here","_law_rows","_law_cell_here"]
abbrev mU:U Af:=["_law_book","_law_ladders_here","_law_cell_here"]
abbrev mV:U Af:=["_law_book","_law_ladders_here","_law_cell_here"]
abbrev mW:U Af:=["_law_book","_law_ladders_here","_law_rows","_law_kept","_law_cell_here"]
abbrev fe(a:Af)(s:AF)(p:U Af):Af×AF×U Af:=(a,s,p)
abbrev me(a b:Af)(s:AF)(p:U Af):Af×Af×AF×U Af:=(a,b,s,p)
def FT:U (Af×AF×U Af):=[fe "is_whole" (Bg 5) ["thing"],fe "is_word" (Bg 6) ["thing"],fe "is_value" (Bg 7) ["thing"],fe "value_rank" (Bg 9) ["thing"],fe "key_rank" (Bg 10) ["key"],fe "in_order" (Bg 11) ["keys"],fe "is_line" (Bg 15) ["thing"],fe "go_together" (Bg 16) ["lines"],fe "is_ladder" (Bg 17) ["thing"],fe "whole_of" (Bg 18) ["ladder"],fe "line_at" (Bg 19) ["line","level"],fe "values_in_order" (Bg 20) ["values"],fe "lifts" (Bg 21) lV,fe "beneath" (Bg 22) lW,fe "is_value_at" (Bg 23) lX,fe "is_axis" (Bg 33) lY,fe "ladder_on" (Bg 34) lZ,fe "is_level" (Bg 35) l3,fe "is_grain" (Bg 36) l6,fe "finest" (Bg 37) ["ladders"],fe "cell_of" (Bg 39) ["amounts"],fe "merged" (Bg 40) ["one","other"],fe "ways_up" (Bg 42) l7,fe "goes_along" (Bg 43) ["ways","key"],fe "merged_along" (Bg 44) ["ways","table"],fe "table_of" (Bg 45) l8,fe "is_finest_key" (Bg 48) l9,fe "is_change" (Bg 49) mf,fe "row_rank" (Bg 50) ["row"],fe "put_in" (Bg 51) mj,fe "take_out" (Bg 52) mk,fe "poured" (Bg 53) mm,fe "tables_at" (Bg 54) mo,fe "keys_changed" (Bg 55) mq,fe "cells_changed" (Bg 56) mr,fe "has_parents" (Bg 58) mv,fe "regrouped" (Bg 59) mw,fe "grown" (Bg 60) my,fe "are_ladders" (Bg 64) ["thing"],fe "_law_cell_at" (Bg 67) mG,fe "_law_stream" (Bg 68) mH,fe "_law_named" (Bg 69) mI,fe "_law_ladder" (Bg 70) mJ,fe "_law_ladders" (Bg 71) ["_law_script"],fe "_law_up" (Bg 72) mK,fe "_law_key_at" (Bg 73) mL,fe "_law_grain" (Bg 74) mM,fe "_law_row" (Bg 75) mN,fe "_law_cell" (Bg 76) ["_law_amounts"],fe "_law_cells" (Bg 77) mO,fe "_law_thing_ahead" (Bg 78) mP,fe "_law_ahead" (Bg 79) mQ,fe "_law_whole" (Bg 80) ["_law_thing"],fe "_law_is_table" (Bg 81) mR,fe "_law_poured" (Bg 82) mT,fe "_law_regrouped" (Bg 83) mU,fe "_law_grown" (Bg 84) mV,fe "_law_deed" (Bg 85) mW,fe "law" (Bg 86) ["_law_script"]]
def MT:U (Af×Af×AF×U Af):=[me "__init__" "Book.__init__" (GD (Bg 65) 0) mB,me "ladders" "Book.ladders" (GD (Bg 65) 1) ["self"],me "rows" "Book.rows" (GD (Bg 65) 2) ["self"],me "kept" "Book.kept" (GD (Bg 65) 3) ["self"],me "pour" "Book.pour" (GD (Bg 65) 4) mC,me "keep" "Book.keep" (GD (Bg 65) 5) ["self","grain"],me "forget" "Book.forget" (GD (Bg 65) 6) ["self","grain"],me "regroup" "Book.regroup" (GD (Bg 65) 7) mD,me "grow" "Book.grow" (GD (Bg 65) 8) mE,me "table" "Book.table" (GD (Bg 65) 9) ["self","grain"],me "is_kept" "Book.is_kept" (GD (Bg 65) 12) ["self","thing"],me "put_ladder" "Book.put_ladder" (GD (Bg 65) 13) mF,me "tables_renewed" "Book.tables_renewed" (GD (Bg 65) 14) ["self"]]
structure Tx(K:Ap)(mg:Bz)(d:Ac):Prop where
 cb:CI K mg "Book" d
 na_axes:BQ K d "axes"
 na_standing:BQ K d "standing"
 na_tables:BQ K d "tables"
 f:All (DX K mg) FT
 m:All (MX K d) MT
 n:All (λx=>mg x=J) ["all","any","bool","dict","enumerate","int","isinstance","len","list","max","min","range","sorted","str","sum","tuple","zip"]
 g:All (λx=>∃u,mg x.1=Z u/\RelV x.2 u) [("FIGURES",(.ψ "0123456789")),("LETTERS",(.ψ "abcdefghijklmnopqrstuvwxyz")),("LONGEST_LINE",(.r 4)),("LONGEST_WORD",(.r 12)),("MOST_LADDERS",(.r 4)),("MOST_LINES",(.r 40)),("MOST_ROWS",(.r 200)),("MOST_TABLES",(.r 12))]
section
variable{P:AM}{w:Aj}{K:Ap}{mg:Bz}{base:Al}{d:Ac}(T:Tx K mg d)
include T
set_option hygiene false in
local macro_rules | `(tactic|exists $a,$b,*)=>do let c <- b.getElems.mapM λx=>`(tactic|with_reducible refine $a h r ($x T) ?_ ?_ ?_ ?_ ?_);`(tactic|first $[| $c:tactic]*)
local macro_rules | `(tactic|exists $t)=>`(tactic|with_reducible show JE _ _ (tD _ _ _ (Zi $t _)))
local macro_rules | `(mutual $c* end)=>return Lean.mkNullNode (<- c[1:].toArray.mapM (·.raw.replaceM λ| `(tactic|trivial)=>return c[0]!.raw.find? (·.isOfKind ``Lean.Parser.Tactic.paren)|_=>return none))
mutual
example:=by(intros;rename_i h r;repeat' first
 |(refine(?_:JS _ (.v0 J _) _);exact yx)
 |(refine(?_:JE _ (.Call (.Attribute _ _ _) _ _ _) (Fv .l _ _ _ (λρ=>(DP _ _ _ _ _).L FW)));first|refine yB h r T.cb (mX T) rfl ?_|refine yA h r T.cb (mY T) rfl ?_ ?_)
 |(refine(?_:JE _ (.BinOp _ _ _ _) (C3 _ (λs=>O5 _ _)));refine yv ?_ ?_)
 |(refine(?_:JB _ _ _);first|with_reducible refine yq _ ?_|exact rA|with_reducible refine aA ?_ ?_|refine aA ?_ ?_|exact wY|with_reducible refine dU ?_ ?_|refine dU ?_ ?_)
 |(refine(?_:JA _ _ _);first|exact TN|refine Qm ?_ ?_|exact dS|refine dT ?_ ?_)
 |(refine(?_:JE _ _ (Fw _ _ _ _));first|exact Ub _|refine ax ?_)
 |(refine(?_:JE _ _ (tP _ _ _ _));first|exact ti _|exact vJ|refine ao ?_)
 |(refine(?_:JE _ _ (tQ _ _ _ _));first|exact tm _|refine rO ?_)
 |(refine(?_:JE _ _ (EC _ _));first|exact dP|refine wV T.cb.cof T.cb.cl (by first|exact T.na_axes|exact T.na_standing|exact T.na_tables) ?_)
 |(refine(?_:JE _ _ (tJ _ _));first|refine wP _ λ_ _=>?_)
 |(refine(?_:JS _ _ (tS _ _ _ (IQ _ _)));first|refine ya ?_)
 |(refine(?_:JS _ (.v0 _ _) _);first|refine rB ?_|exact tu _|refine rD ?_|exact vm _|refine rC ?_|refine w6 ?_)
 |(refine(?_:JS _ (.If _ _ _ _) _);first|refine rE ?_ ?_ ?_|refine uy ?_ ?_ ?_|refine w5 (wQ _ λ_ _=>?_) ?_ ?_|refine xM ?_ ?_ ?_)
 |(refine(?_:JS _ (.Assign [.Name _ _] (.ListComp _ _ _ _) _) _);first|refine' xT h (OY (by decide +kernel)) rfl rfl rfl rfl ?_ (OZ h (by decide +kernel) (λ_ _ _ _ _ _ _ h=>?_) (λ_ _ _ _ _ _ _ h=>?_) (λ_ _ _ _ _ _ _ h=>?_)) ?_|refine' xQ h (OY (by decide +kernel)) rfl rfl rfl rfl ?_ (OZ h (by decide +kernel) (λ_ _ _ _ _ _ _ h=>?_) (λ_ _ _ _ _ _ _ h=>?_) (λ_ _ _ _ _ _ _ h=>?_)) ?_|refine' xR h (OY (by decide +kernel)) rfl rfl rfl rfl ?_ (OZ h (by decide +kernel) (λ_ _ _ _ _ _ _ h=>?_) (λ_ _ _ _ _ _ _ h=>?_) (λ_ _ _ _ _ _ _ h=>?_)) ?_|refine dV h.nd ?_)
 |(refine(?_:JS _ (.Ϭ [.ε _ _] _ _) _);first|refine vN _ h.nd ?_|refine rJ h.nd rfl (by first|exact Or.Q rfl|exact Or.σ rfl) ?_|refine rG h.nd rfl (by first|exact Or.Q rfl|exact Or.σ rfl) ?_|refine dV h.nd ?_)
 |(refine(?_:JS _ (.Ϭ [.α _ _ _] _ _) _);first|refine xq T.cb.cof T.cb.cl (by first|exact T.na_axes|exact T.na_standing|exact T.na_tables) ?_ ?_)
 |(refine(?_:JS _ (.Ϭ _ _ _) _);first|refine tZ ?_ ?_|refine uw r.γ ?_ ?_|refine xw r.γ ?_ ?_ ?_|refine yh ?_ ?_ ?_)
 |(refine(?_:JS _ (.For _ _ _ _ _) _);first|refine' wu r.units Tc rfl ?_ (λ_=>?_) (λ_=>?_) (λ_=>?_) ?_|refine' wc Tc rfl ?_ (λ_=>?_) (λ_=>?_)|refine' rN Tc rfl ?_ ?_ ?_|refine xf Tc rfl ?_ h.nd ?_|refine yC Tc rfl dP h.nd ?_)
 |(refine(?_:JS _ (.Expr _ _) _);first|refine rL EM ?_|refine tY ?_|refine w9 ?_)
 |(refine(?_:JS _ _ _);first|exact vn|exact wZ)
 |(refine(?_:JT _ (.Φ _ _ _ _) _);first|refine tH r.γ ?_ ?_|refine tL r.γ ?_ ?_|refine tM r.γ ?_ ?_|refine tN r.γ ?_ ?_|refine tR r.γ ?_ ?_|refine tT r.γ ?_ ?_|refine uu r.γ ?_ ?_|refine ut r.γ ?_ ?_|refine ra ?_|refine rb ?_|refine ux r.γ ?_ ?_)
 |(refine(?_:JT _ (.UnaryOp _ _ _) _);first|refine qQ ?_)
 |(refine(?_:JT _ (.ϓ _ _ _) _);first|refine bx ?_)
 |(refine(?_:JT _ _ _);first|refine tV ?_|refine bx ?_)
 |(refine(?_:JW _ _ _);first|refine qW ?_ ?_|refine qS ?_|refine qV ?_ ?_|refine qR ?_)
 |(refine(?_:JI _ _ _ _);first|refine rX (by rfl) (T.n.Ρ 11 rfl) ?_|refine rY (by rfl) (T.n.Ρ 11 rfl) ?_|refine wr (by rfl) (T.n.Ρ 16 rfl) ?_ ?_|refine wL (by rfl) (T.n.Ρ 4 rfl) ?_|refine tW ?_|refine xa ?_|refine xc (by rfl) (T.n.Ρ 11 rfl) ?_)
 |(refine(?_:JG _ _ _);first|exact vM _ h.nd|refine' r9 rfl ?_)
 |(refine(?_:JK _ _ _);first|exact rZ|refine' r0 ?_ ?_)
 |(refine(?_:JF _ _ _);first|exact sd|refine se ?_)
 |(refine(?_:JE _ (.Name _ _) _);first|exact tf _|exact td (by rfl) (by first|exact T.g.get 0 rfl|exact T.g.get 1 rfl|exact T.g.get 2 rfl|exact T.g.get 3 rfl|exact T.g.get 4 rfl|exact T.g.get 5 rfl|exact T.g.get 6 rfl|exact T.g.get 7 rfl) (λ_ _=>by erw[Aw])|exact bv (by rfl) (T.n.Ρ 15 rfl) (by rfl)|refine dO ?_|refine U1 ?_)
 |(refine(?_:JE _ (.ϒ _ _ _) _);first|exact aq|exact qO|exact qM|exact qN|refine U1 ?_)
 |(refine(?_:JE _ (.ListComp _ _ _ _) (Fv _ _ _ _ _));first|refine' xS h (OY (by decide +kernel)) rfl rfl ?_ (OZ h (by decide +kernel) (λ_ _ _ _ _ _ _ h=>?_) (λ_ _ _ _ _ _ _ h=>?_) (λ_ _ _ _ _ _ _ h=>?_)) ?_|refine' xO h (OY (by decide +kernel)) rfl rfl ?_ (OZ h (by decide +kernel) (λ_ _ _ _ _ _ _ h=>?_) (λ_ _ _ _ _ _ _ h=>?_) (λ_ _ _ _ _ _ _ h=>?_)) ?_)
 |(refine(?_:JE _ (.Subscript _ _ _) _);first|refine vK ?_ ?_|refine uq r.units ?_ ?_ (λ_ _=>rfl)|refine sL ?_ ?_ ?_)
 |(refine(?_:JO _ _ _);first|refine sJ ?_|exact sI)
 |(refine(?_:JE _ (.BinOp _ _ _ _) _);first|refine sE ?_ ?_|refine sA ?_ ?_|refine sw ?_ ?_|refine sx ?_ ?_|refine sv ?_ ?_|refine sB ?_ ?_)
 |(refine(?_:JE _ (.UnaryOp _ _ _) _);first|refine sC ?_|refine qX ?_)
 |(refine(?_:JE _ (.ϓ _ _ _) _);first|refine qZ ?_ ?_|refine q0 ?_ ?_|refine qY ?_)
 |(refine(?_:JE _ (.Φ _ _ _ _) _);first|refine tw r.γ ?_ ?_|refine tE r.γ ?_ ?_|refine tx r.γ ?_ ?_|refine tz r.γ ?_ ?_|refine ur r.γ ?_ ?_|refine q8 ?_|refine q9 ?_|refine bw Tn Tn (MF _) (MF _) ?_ ?_ ?_|refine bw Tn (T7 r.γ) (MF _) T8 ?_ ?_ ?_)
 |(refine(?_:JE _ (.Tuple _ _ _) _);first|refine rj ?_)
 |(refine(?_:JE _ (.List _ _) (Fv _ _ _ _ _));first|refine ri ?_)
 |(refine(?_:JE _ (.Dict _ _ _) _);first|exact uv)
 |(refine(?_:JE _ (.IfExp _ _ _ _) _);first|refine q5 ?_ ?_ ?_)
 |(refine(?_:JE _ (.α _ _ _) _);first|refine vR T.cb.cof T.cb.cl (by first|exact T.na_axes|exact T.na_standing|exact T.na_tables) ?_|refine dO ?_)
 |(refine(?_:JE _ (.Λ (.ε _ _) _ [] _) (tD _ _ _ (Zf _ _)));first|exists xU,Zq1,Ztt,Zq5,ZtP,Zu6,Zth,Zwz,Zn9,Zm3,Zn0,ZqP,Zv5,Zq4,ZjH,Zpo,Zq9,Zn4,ZxZ,Zuf,ZqY,Zmw,Zn8,ZnZ,Zow,Ztv,ZpY,mZ,Zt3,ZpB,Zq3,ZtX,m5,Zlt,Zmq,ZpJ,Zx8,m6,ZmO,ZlN,ZtA,Zrk,ZmC,ZkH,Zo5,ZpK)
 |(refine(?_:JE _ (.Λ (.ε _ _) _ [] _) (Fv .l _ _ _ (FY _ _)));first|exists xV,ZmR,m6,Zi8,Zma,Zlp)
 |(refine(?_:JE _ (.Λ (.ε _ _) _ [] _) (Fv .d _ _ _ (Ir _ _)));first|exists xW,m5,ZoD)
 |(refine(?_:JE _ (.Call (.Name _ _) _ [] _) (C3 _ (λs=>Ho _ (_) s)));first|exists xX,ZuN,ZqX,Zqi,ZwI,ZkO,Zn3,Zq2)
 |(refine(?_:JE _ (.Λ (.ε _ _) _ [] _) _);first|(exists L3;refine TR yy yz (by rfl) (T.n.Ρ 13 rfl) (by rfl) ?_)|exact vH _ (T.n.Ρ 7 rfl)|exact vI _ (T.n.Ρ 6 rfl) (by first|exact(T.n.Ρ 5 rfl)|exact(T.n.Ρ 2 rfl)|exact(T.n.Ρ 15 rfl)|exact(T.n.Ρ 8 rfl)|exact(T.n.Ρ 13 rfl))|(exists Zn;refine Hc YD ba (by rfl) (T.n.Ρ 7 rfl) (by rfl) ?_)|(exists Hn;refine Hc wA wC (by rfl) (T.n.Ρ 7 rfl) (by rfl) ?_)|(exists Fg;refine Hc (ah (b:=J') rfl) (bd (b:=J')) (by rfl) (T.n.Ρ 0 rfl) (by rfl) ?_)|(exists Lw;refine Hc (ah (b:=O') rfl) (bd (b:=O')) (by rfl) (T.n.Ρ 1 rfl) (by rfl) ?_)|(exists Oh;refine Hc (sU rfl) sX (by rfl) (T.n.Ρ 14 rfl) (by rfl) ?_)|(exists MJ;refine Hc (bf (b:=J') rfl) (bi (b:=J')) (by rfl) (T.n.Ρ 10 rfl) (by rfl) ?_)|(exists MK;refine Hc (bf (b:=O') rfl) (bi (b:=O')) (by rfl) (T.n.Ρ 9 rfl) (by rfl) ?_)|(exists QA;refine Hc (o7 rfl) sS (by rfl) (T.n.Ρ 10 rfl) (by rfl) ?_)|(exists Qz;refine Hc (o6 rfl) sR (by rfl) (T.n.Ρ 9 rfl) (by rfl) ?_)|(exists CT;refine Hc bt bu (by rfl) (T.n.Ρ 6 rfl) (by rfl) ?_)|(exists E5;refine TR qd sP (by rfl) (T.n.Ρ 15 rfl) (by rfl) ?_)|(exists intD;refine TR o8 sT (by rfl) (T.n.Ρ 5 rfl) (by rfl) ?_)|refine az qc sO (by rfl) (T.n.Ρ 8 rfl) (by rfl) ?_|refine az (vB rfl) vD (by rfl) (T.n.Ρ 8 rfl) (by rfl) ?_|refine vl rfl r.γ (by rfl) (T.n.Ρ 3 rfl) ?_|refine xB rfl r.γ (by rfl) (T.n.Ρ 12 rfl) (by rfl) ?_|refine xY h r T.cb (Zqo T) rfl ?_)
 |(refine(?_:JE _ (.Λ (.ε _ _) _ _ _) _);first|refine d9 h r (mZ T) (T.n.Ρ 12 rfl) rfl ?_|refine d9 h r (Zre T) (T.n.Ρ 12 rfl) rfl ?_)
 |(refine(?_:JE _ (.Λ (.α _ _ _) _ _ _) _);first|refine U9 h r T.cb (Zmm T) rfl ?_|refine U9 h r T.cb (Zpm T) rfl ?_|refine U9 h r T.cb (mX T) rfl ?_|refine Ni h r T.cb (Zjn T) rfl ?_ ?_|refine eb h r T.cb (ZlG T) rfl ?_ ?_|refine Ni h r T.cb (Zm2 T) rfl ?_ ?_|refine eb h r T.cb (mY T) rfl ?_ ?_|refine Ni h r T.cb (Zpg T) rfl ?_ ?_|refine Ni h r T.cb (Zpd T) rfl ?_ ?_|refine xZ h r T.cb (Zg0 T) rfl ?_|refine Ni h r T.cb (Zmh T) rfl ?_ ?_|refine Ni h r T.cb (Zov T) rfl ?_ ?_|refine bz PySem.F.plainAttrs_str PySem.F.slot_str_find PySem.F.type_str_find qx t6 ?_ ?_|refine bz PySem.F.plainAttrs_str PySem.F.slot_str_join PySem.F.type_str_join qA t5 ?_ ?_|refine wf r.γ ?_ ?_|refine xr ?_ ?_|refine xt r.γ ?_ ?_|refine xL r.γ ?_ ?_|refine b4 r.γ ?_ ?_|refine yp ?_|refine yu ?_ ?_|refine yw ?_ ?_)
 |(refine(?_:JE _ _ (C3 _ _));first|refine U1 ?_|refine wT (dM _ λ_ _=>?_)|refine wU (dM _ λ_ _=>?_))
 |(refine(?_:JE _ _ (tD _ _ _ _));first|refine qH ?_)
 |refine wX ?_
 |refine dR ?_
 |refine b4 r.γ ?_ ?_
 |rfl
 |exact Gj
 |exact AX _
 |decide)
theorem Zq1:OF P w K mg base 1 "is_whole" (A4 K Z5):=BU ["thing"] (T.f.Ρ 0 rfl) (by trivial)
theorem Ztt:OF P w K mg base 1 "is_word" (A4 K JL):=BU ["thing"] (T.f.Ρ 1 rfl) (by trivial)
theorem Zq5:OF P w K mg base 1 "whole_of" (A4 K O7):=BU ["ladder"] (T.f.Ρ 9 rfl) (by trivial)
theorem ZtP:OF P w K mg base 1 "line_at" (A4 K JM):=BU ["line","level"] (T.f.Ρ 10 rfl) (by trivial)
theorem Zu6:OF P w K mg base 1 "finest" (A4 K Nn):=BU ["ladders"] (T.f.Ρ 19 rfl) (by trivial)
theorem Zth:OF P w K mg base 1 "cell_of" (A4 K Re):=BU ["amounts"] (T.f.Ρ 20 rfl) (by trivial)
theorem Zwz:OF P w K mg base 1 "merged" (A4 K O8):=BU ["one","other"] (T.f.Ρ 21 rfl) (by trivial)
theorem Zn9:OF P w K mg base 1 "goes_along" (A4 K Rg):=BU ["ways","key"] (T.f.Ρ 23 rfl) (by trivial)
theorem ZuN:OF P w K mg base 1 "put_in" (CW K Vh):=L0 mj (T.f.Ρ 29 rfl) (by trivial)
theorem ZqX:OF P w K mg base 1 "take_out" (CW K Vj):=L0 mk (T.f.Ρ 30 rfl) (by trivial)
theorem Zmm:OM P w K mg base d Bp 1 "ladders" (A4 K Vl):=O0 ["self"] (T.m.Ρ 1 rfl) (by trivial)
theorem Zpm:OM P w K mg base d Bp 1 "rows" (A4 K Vn):=O0 ["self"] (T.m.Ρ 2 rfl) (by trivial)
theorem mX:OM P w K mg base d Bp 1 "kept" (A4 K Rh):=O0 ["self"] (T.m.Ρ 3 rfl) (by trivial)
theorem Zjn:OM P w K mg base d Bp 1 "put_ladder" (CW K No):=KA mF (T.m.Ρ 11 rfl) (by trivial)
theorem Zm3:OF P w K mg base 1 "_law_cell_at" (A4 K ZK):=BU mG (T.f.Ρ 39 rfl) (by trivial)
theorem Zn0:OF P w K mg base 1 "_law_stream" (A4 K ZC):=BU (mH.Ι ["_law_number","_law_found","_law_k"]) (T.f.Ρ 40 rfl) (by trivial)
theorem ZqP:OF P w K mg base 1 "_law_named" (A4 K KH):=BU (mI.Ι ["_law_signs","_law_size","_law_at","_law_word"]) (T.f.Ρ 41 rfl) (by trivial)
theorem Zv5:OF P w K mg base 1 "_law_up" (A4 K Vr):=BU (mK.Ι ["_law_line"]) (T.f.Ρ 44 rfl) (by trivial)
theorem Zq4:OF P w K mg base 1 "_law_cell" (A4 K Rm):=BU ["_law_amounts"] (T.f.Ρ 48 rfl) (by trivial)
theorem ZjH:OF P w K mg base 1 "_law_thing_ahead" (A4 K Vv):=BU (mP.Ι ["_law_signs","_law_mine","_law_yours"]) (T.f.Ρ 50 rfl) (by trivial)
theorem Zpo:OF P w K mg base 1 "_law_whole" (A4 K Rp):=BU ["_law_thing"] (T.f.Ρ 52 rfl) (by trivial)
theorem Zq9:OF P w K mg base 2 "is_value" (A4 K Pa):=BU ["thing"] (T.f.Ρ 2 rfl) (by trivial)
theorem Zn4:OF P w K mg base 2 "value_rank" (A4 K Rq):=BU ["thing"] (T.f.Ρ 3 rfl) (by trivial)
theorem ZxZ:OF P w K mg base 2 "lifts" (A4 K Rr):=BU lV (T.f.Ρ 12 rfl) (by trivial)
theorem Zuf:OF P w K mg base 2 "is_axis" (A4 K Vx):=BU lY (T.f.Ρ 15 rfl) (by trivial)
theorem ZqY:OF P w K mg base 2 "is_level" (A4 K Vy):=BU l3 (T.f.Ρ 17 rfl) (by trivial)
theorem Zmw:OF P w K mg base 2 "has_parents" (A4 K Rs):=BU mv (T.f.Ρ 35 rfl) (by trivial)
theorem Zn8:OF P w K mg base 2 "_law_ladder" (A4 K Rw):=BU (mJ.Ι ["_law_xs","_law_many","_law_places","_law_sizes","_law_j","_law_lines","_law_k","_law_line","_law_at"]) (T.f.Ρ 42 rfl) (by trivial)
theorem ZnZ:OF P w K mg base 2 "_law_key_at" (A4 K VB):=BU mL (T.f.Ρ 45 rfl) (by trivial)
theorem Zow:OF P w K mg base 2 "_law_grain" (A4 K L6):=BU (mM.Ι ["_law_xs"]) (T.f.Ρ 46 rfl) (by trivial)
theorem Ztv:OF P w K mg base 2 "_law_row" (A4 K VG):=BU (mN.Ι ["_law_xs","_law_key"]) (T.f.Ρ 47 rfl) (by trivial)
theorem ZpY:OF P w K mg base 2 "_law_ahead" (A4 K VH):=BU (mQ.Ι ["_law_mine","_law_yours"]) (T.f.Ρ 51 rfl) (by trivial)
theorem mZ:OF P w K mg base 3 "key_rank" (A4 K Np):=BU ["key"] (T.f.Ρ 4 rfl) (by trivial)
theorem Zt3:OF P w K mg base 3 "is_line" (A4 K VM):=BU ["thing"] (T.f.Ρ 6 rfl) (by trivial)
theorem ZpB:OF P w K mg base 3 "ladder_on" (A4 K Rz):=BU lZ (T.f.Ρ 16 rfl) (by trivial)
theorem Zq3:OF P w K mg base 3 "is_grain" (A4 K L8):=BU l6 (T.f.Ρ 18 rfl) (by trivial)
theorem ZtX:OF P w K mg base 3 "ways_up" (A4 K RD):=BU l7 (T.f.Ρ 22 rfl) (by trivial)
theorem ZmR:OF P w K mg base 3 "_law_ladders" (A4 K Pf):=BU ["_law_script","_law_many","_law_ladders_here"] (T.f.Ρ 43 rfl) (by trivial)
theorem m5:OF P w K mg base 3 "_law_cells" (A4 K RM):=BU (mO.Ι ["_law_amounts","_law_key","_law_amount","_law_cells_here"]) (T.f.Ρ 49 rfl) (by delta f7 RL V4 V3 V2;trivial)
theorem Zlt:OF P w K mg base 3 "_law_is_table" (A4 K Ph):=BU (mR.Ι ["_law_k"]) (T.f.Ρ 53 rfl) (by trivial)
theorem Zmq:OF P w K mg base 4 "go_together" (A4 K Nq):=BU ["lines","seen","finest_seen","line","level","value","later"] (T.f.Ρ 7 rfl) (by trivial)
theorem Zre:OF P w K mg base 4 "row_rank" (A4 K RP):=BU ["row"] (T.f.Ρ 28 rfl) (by trivial)
theorem ZlG:OM P w K mg base d Bp 4 "is_kept" (A4 K RQ):=O0 ["self","thing"] (T.m.Ρ 10 rfl) (by trivial)
theorem ZpJ:OF P w K mg base 5 "is_ladder" (A4 K Wd):=BU ["thing"] (T.f.Ρ 8 rfl) (by trivial)
theorem Zx8:OF P w K mg base 5 "grown" (A4 K Wf):=BU (my.Ι ["lines"]) (T.f.Ρ 37 rfl) (by trivial)
theorem Zm2:OM P w K mg base d Bp 5 "forget" (CW K Wh):=KA ["self","grain"] (T.m.Ρ 6 rfl) (by trivial)
theorem mY:OM P w K mg base d Bp 5 "table" (A4 K Pk):=O0 ["self","grain"] (T.m.Ρ 9 rfl) (by trivial)
theorem m6:OF P w K mg base 6 "in_order" (A4 K Pl):=BU ["keys","told","key"] (T.f.Ρ 5 rfl) (by trivial)
theorem ZmO:OF P w K mg base 6 "are_ladders" (A4 K Wm):=BU ["thing"] (T.f.Ρ 38 rfl) (by trivial)
theorem Zpg:OM P w K mg base d Bp 6 "grow" (CW K Wo):=KA mE (T.m.Ρ 8 rfl) (by trivial)
theorem Zi8:OF P w K mg base 7 "values_in_order" (A4 K Wq):=BU ["values"] (T.f.Ρ 11 rfl) (by trivial)
theorem Zma:OF P w K mg base 7 "merged_along" (A4 K Wt):=BU ["ways","table","cells","key","cell","there"] (T.f.Ρ 24 rfl) (by trivial)
theorem ZlN:OF P w K mg base 7 "keys_changed" (A4 K RS):=BU (mq.Ι ["cells_ahead","cells_behind","keys"]) (T.f.Ρ 33 rfl) (by trivial)
theorem Zqi:OF P w K mg base 7 "_law_grown" (CW K WJ):=L0 (mV.Ι ["_law_xs","_law_axis","_law_new","_law_line"]) (T.f.Ρ 56 rfl) (by trivial)
theorem ZtA:OF P w K mg base 8 "beneath" (A4 K WN):=BU lW (T.f.Ρ 13 rfl) (by trivial)
theorem Zrk:OF P w K mg base 8 "table_of" (A4 K RU):=BU (l8.Ι ["single"]) (T.f.Ρ 25 rfl) (by trivial)
theorem Zlp:OF P w K mg base 8 "cells_changed" (A4 K WU):=BU (mr.Ι ["changed","grain"]) (T.f.Ρ 34 rfl) (by trivial)
theorem ZmC:OF P w K mg base 9 "is_value_at" (A4 K KJ):=BU lX (T.f.Ρ 14 rfl) (by trivial)
theorem ZoD:OF P w K mg base 9 "tables_at" (A4 K RW):=BU mo (T.f.Ρ 32 rfl) (by trivial)
theorem Zpd:OM P w K mg base d Bp 9 "keep" (CW K L9):=KA ["self","grain"] (T.m.Ρ 5 rfl) (by trivial)
theorem ZkH:OF P w K mg base 10 "is_finest_key" (A4 K W6):=BU l9 (T.f.Ρ 26 rfl) (by trivial)
theorem Zo5:OF P w K mg base 10 "regrouped" (A4 K Xb):=BU (mw.Ι ["rest"]) (T.f.Ρ 36 rfl) (by trivial)
theorem Zqo:OM P w K mg base d Bp 10 "__init__" (CW K Nr):=KA mB (T.m.Ρ 0 rfl) (by trivial)
theorem Zg0:OM P w K mg base d Bp 10 "tables_renewed" (CW K RZ):=KA ["self","ahead"] (T.m.Ρ 12 rfl) (by trivial)
theorem ZpK:OF P w K mg base 11 "is_change" (A4 K Xe):=BU mf (T.f.Ρ 27 rfl) (by trivial)
theorem Zmh:OM P w K mg base d Bp 11 "regroup" (CW K R7):=KA mD (T.m.Ρ 7 rfl) (by trivial)
theorem ZwI:OF P w K mg base 12 "poured" (CW K Xh):=L0 (mm.Ι ["standing","change"]) (T.f.Ρ 31 rfl) (by trivial)
theorem ZkO:OF P w K mg base 12 "_law_regrouped" (CW K Xi):=L0 (mU.Ι ["_law_xs","_law_axis","_law_ladder_here","_law_level","_law_value","_law_line","_law_found","_law_one"]) (T.f.Ρ 55 rfl) (by trivial)
theorem Zov:OM P w K mg base d Bp 13 "pour" (CW K Xk):=KA mC (T.m.Ρ 4 rfl) (by trivial)
theorem Zn3:OF P w K mg base 14 "_law_poured" (CW K Pt):=L0 (mT.Ι ["_law_xs","_law_changes","_law_k"]) (T.f.Ρ 54 rfl) (by trivial)
theorem Zq2:OF P w K mg base 15 "_law_deed" (CW K Sg):=L0 (mW.Ι ["_law_way","_law_grain_here","_law_many"]) (T.f.Ρ 57 rfl) (by trivial)
theorem ZDY{fn:Ac}{fd:Cs}(D:DI K mg "law" (Bg 86) ["_law_script"] fn fd):A2 P w K mg base Bp 16 fn fd ["_law_script"] (CW K iU):=d8 ["_law_script","_law_ladders_here","_law_book","_law_beside","_law_low","_law_kept","_law_rows","_law_cells_here","_law_cell_here","_law_told","_law_grain_here","_law_due"] D (by trivial)
end
end
theorem fin{l:PySem.W.OpenLaw}{w:Aj}{K:Ap}{h:Al}{mg:Bz}{b:Ac}(_:K.In h)(a:mg "law"=Z (.I b)):(∃d,Tx K mg d)->∃fd:Cs,(∀(s:Ab)(v:Aa),BindsTo s fd #[[v],[]] [("_law_script",v)])/\∀base:Al,K.In base->base.Ns CZ mg->A2 l.β w K mg base Bp 16 b fd ["_law_script"] (NT K):=λ⟨_,T⟩=>let⟨_,_,D⟩:=T.f.Ρ 58 rfl;xG a D (λ_=>ZDY T D) (λns _=>ZyF ns) λ_ _ _ _ _ _ _=>rfl
theorem walk{l:PySem.W.OpenLaw}{q:AM}{b:U Af}{i:(Bz)->Al->Prop}{e:Aj->Al->Prop}{d:DefRec}{K:Params->Ap}(j:l.most=Z 63)(c:d.Ϸ.defaults=[]) (m:∀(w:Aj) (h:Al),e w h->(K w.Ϸ).In h) (F:∀(w:Aj) (mg:Bz) (g:Ac) (h:Al),(K w.Ϸ).In h->h.Ns CZ mg->mg d.name=Z (.I g)->∃fd:Cs,(∀(s:Ab) (u:Aa),BindsTo s fd #[[u],[]] [("_law_script",u)])/\∀base:Al,(K w.Ϸ).In base->base.Ns CZ mg->A2 l.β w (K w.Ϸ) mg base Bp 16 g fd ["_law_script"] (NT (K w.Ϸ))):PySem.W.WalkO q b i e l.row.toRowW d [] (λf vs=>PySem.call f vs):=Internal.walk_of (n:=63) (k:=16) (x:="_law_script") (CX:=λ_=>Bp) (sp:=λw=>NT<|K w.params) j (by ext) c ⟨rfl,by ext,by ext⟩ m F (λ_ _ a ns o _ p=>#[a,ns,rfl,p,o,λ_=>rfl]) λ_ _ _ _ _ z=>z
end Internal.K52
variable{acc:U Internal.K52.Br}{R rs':U Internal.K52.Row}{cs:U Internal.K52.Er}
end
structure PySem.W.Fast:Prop where(tw16747027885336918289 tw11533412034252983972 tw12550108402453938368 tw10570953119016099646 tw6276351055526790793 tw9582037596496702690 tw12925472598244720865 tw10122123912757720714 tw10778794356704167008 tw16263089001280533259 tw8831189582841167766 tw14592451427505007072 tw4603651919682822295 tw1766864612246440036 tw13314512727957690156 tw11486370350095241421 tw419285148514713486 tw243555572211277469 tw10741800685634335370 tw4644042932043973325 tw16441995022202764234 tw10440681127795772607 tw3997988208966755734 tw1814753280370161893 tw9561076276095707407 tw6938408774054539339 tw6209215853586508714 tw7002225217111157151 tw12729179710044491513 tw4352936664828118691 tw2766820482470709273 tw2334483550587742106 tw1399751428886001840 tw18402182317090430848 tw644327943350903235 tw10663547045161593412 tw2762232398567480910 tw6078009908799935973 tw3328175192734515469 tw18057417175422974853 tw1690881823564274318 tw8287632688463446093 tw14385208501495737714 tw18130756340715264184 tw129714857117542364 tw435167222606881148 tw740156799089717516 tw4776139591084235017 tw217329765514329862 tw7252263059600030273 tw12112650922752704650 tw10026655654211128570 tw5733150751573909821 tw829250108299830827 tw4386207357327444096 tw10946876866326337489 tw10747091241680589661 tw7599449125389713639 tw3537960579181200191 tw13207733245652081387 tw4694895299230275413 tw7646264430582816359 tw9294358427809387520 tw14659994320836623400 tw6460227705598542166 tw4391387284626680490 tw16106552064113236245 tw5227450073531594585 tw16512864253116666139 tw16201795884369340256 tw10181299246418792820 tw6629681789019253901 tw15513301948576805447 tw3679470304497978032 tw17615282506624234646 tw17211624145091192195 tw16003384964066641352 tw8513703829615845535 tw9452003253948301398 tw14426699654887988934 tw7419499392256438564 tw11493292788104602386 tw18329431061647481456 tw18175648930064800800 tw14302271068878679914 tw14775518575974235709 tw14722011292886362503 tw10882558946706904025 tw10617188433119008336 tw11790784159561876912 tw14585906169265737157 tw1390598134076932637 tw14959238539618205466 tw9579583007912846363 tw14497640862016410039 tw4518025998105093556 tw10807420981949875836 tw4288791200007376870 tw1065252505367789527 tw5370893538696329541 tw10213154884037352563 tw15657585236101966603 tw16920384728254982887 tw18244441105610421374 tw6842022384494578605 tw15527999429780490386 tw1885607763398681834 tw13727955493179387744 tw15489918527282349014 tw13503686661635982640 tw4567670174662096659 tw10118850506449308336 tw5825177549380964901 tw12480738289848500076 tw4425575908418577812 tw10104875451788790598 tw9379274621284361778 tw15292261846347978533 tw16455407707591432810 tw6219568631122418991 tw9538501679322483837 tw10118751777198764958 tw11128426577247513145 tw14229642124974273774 tw8876499147698366745 tw9148519781452641712 tw18146780237815257812 tw17590448385547520813 tw7085612052447095415 tw13362590417078201008 tw2038918790907133584 tw12593956921714537059 tw794193491346735017 tw8831618055056876321 tw4004951216151679040 tw17562715094353290683 tw12118676562216139711 tw8696204538744010018 tw16374807533684435422 tw8085925119178542295 tw17278505584726491374 tw6019007685181863020 tw15685103031795065737 tw16948085447943972328 tw5063390417400284273 tw15172318272392554075 tw16206030568137662143 tw5773585634778644016 tw4612657816469314612 tw8078832724122127993 tw916708725840775003 tw377535092461567050 tw8093644596397427225 tw8392922985547291889 tw13489676354852520204 tw5618265884891293931 tw5780290286361383480 tw5906394130926352027 tw16235752004421503513 tw7263145653267560243 tw6617116271901337336 tw499746900193163961 tw1067718598664228434 tw14106173541555792142 tw14367060467719759324 tw14053184179268139899 tw57970261259778234 tw9953147715054896826 tw7400135138276567568 tw14632158126623476544 tw9004003330314931844 tw2074986285807676316 tw9064756310329140184 tw5237048474872118911 tw7487458335825777222 tw18250761944501486975 tw10566337796020408744 tw16251836792859882428 tw3117049193811425977 tw8942284443258541238 tw17478872606987980446 tw14089115654011713789 tw16141259603326208651 tw5749205706329626100 tw17984885062840425543 tw7550666193463923111 tw9889502254599513430 tw15597571092198479358 tw12301835201187476874 tw4421448213079047845 tw4158916122661874190 tw5594633438538462777 tw8572495812680048021 tw13099186784594874502 tw7900736752933127766 tw17473478890811761401 tw16498699027887473637 tw4332357228634851766 tw15770499706860364682 tw8234448850527485067 tw2079550133779346792 tw927974301579143639 tw2158077756298559491 tw1400283767631326500 tw14486026007918163983 tw3607943875216780157 tw5715434256523369727 tw14119421898988109441 tw11031605431300000210 tw11510438472990176881 tw16247364871377569009 tw8350935030628514118 tw3117617045578902415 tw18321933445691531681 tw177396226468015472 tw11872692147730271380 tw10294168761970135867 tw17261048913992667180 tw1670693453203655269 tw1120048185666918127 tw4364684988854578134 tw11669733747971191233 tw375022062060616436 tw4367434694599571231 tw315674867318293347 tw18204094775788795994 tw16730068400940127346 tw14123232424489476859 tw10345939971245733235 tw2494271270824776413 tw4301595297950015688 tw7489503737942889509 tw4186119928970069316 tw14465655699369097647 tw13657768100854001762 tw15029568224088008405 tw9900939512746945762 tw16104085647299008442 tw12271702560359512393 tw18152867948264916168 tw6910723789999855994 tw584669948684612204 tw926454725998156446 tw11454623524958993794 tw16714292176882112832 tw3229491205734860595 tw322544795102622545 tw1615659347009321746 tw7909413687463651465 tw14085438588883100073 tw1053799922598404197 tw16185876353023423299 tw869667068108730842 tw11315050049493141174 tw4372422606124638503 tw17258195926798465443 tw14442864514254206834 tw1235264749556762465 tw7608088054255275826 tw4411460978384055939 tw9075403913197120328 tw17845935196765242469 tw13903450225989919684 tw11277402240702286616 tw8567144163522169123 tw5527367890956571372 tw244758993820212077 tw1615278446704262894 tw16143222833441487105 tw14865353935510065297 tw14199664153116183808 tw12920655391750328759 tw10442660554484680335 tw10002580369456857782 tw16407797602561940942 tw13247735648886230654 tw41899439932012453 tw6318586840442675781 tw4607303298667514645 tw1543575718063066708 tw1454400431396621332 tw6620864575155235340 tw4744614417779674800 tw18442316055156045576 tw12401171723137487023 tw8925228394008351665 tw8285933039032709509 tw3071016223039208485 tw13607269636200054882 tw11482431739030559066 tw8791157614005162380 tw6287894786056697441 tw16172323042178486433 tw16109585088747557438 tw15349849696854793444 tw10694842347369293181 tw1897579397266361881 tw7978573886508910234 tw2073184358671530163 tw13261944098510578134 tw13161608315680607295 tw3017357390016689085 tw15448270665183976646 tw1154301685554520171 tw2758217544725335353 tw17082677598006190079 tw1707809853637948738 tw11545986587781642072 tw691080842175363556 tw14756066654507582117 tw13789583812558205671 tw11955523640070698326 tw17102329421354447091 tw15834977527137045692 tw13099819292831408531 tw11725148508645966368 tw8802427653797160975 tw18007151469797318945 tw17316044606681726626 tw16237107479912308694 tw6721893960784708848 tw550951819100663363 tw15104765903017685425 tw7637255947507877138 tw6530221980785262644 tw5953365520127718004 tw10485810000599815672 tw6455090923885764847 tw15218018955703599156 tw10365458166112937288 tw1210908365160783039 tw6695090180526690476 tw2000002493210995564 tw4911904555354422235 tw2968488440561130572 tw9015074844282097442 tw17362568231881319985 tw10260962931268624706 tw16520272256345405403 tw10273107905198321221 tw9015342764117257402 tw6560649162124421450 tw6312481851886833542 tw11244148620356001829 tw10595578951659086464 tw8924385197249724343 tw1898606458499479289 tw11345661940229906112 tw2856572259584876720 tw9539316255810827148 tw17480518966959107607 tw16415573625266318269 tw1611509615144310830 tw14239344835396856300 tw12550661814722604618 tw14632763574985792321 tw16431623597256723885 tw17225280522251281442 tw13413202783755419503 tw5514411132128535224 tw12710878392111043262 tw9695735891940721174 tw17336011723724036000 tw14684237395572980028 tw2599580058803486915 tw13794192088195415033 tw14339549996974163069 tw10150473288853373220 tw10231575364699704567 tw16170767569229381663 tw13534906932391360561 tw6573394134570213403 tw5318839332252890816 tw1652518506378019696 tw4932710435206562514 tw317776793351137429 tw8818873180612211286 tw7918102341866500028 tw7452574999487515395 tw6360963245289107131 tw3708903436735877252 tw18434624470697514240 tw18023356898474851058 tw14741524019015922158 tw8907675308782745811 tw5671645071425632835 tw488114493845030417 tw3990148524805058361 tw1572890594592681309 tw13373152651463758951 tw13062002379428968521 tw10880950389437520280 tw370703963153326477 tw15841895361437629583 tw11545182992328879032:True)
open PySem PySem.W PyProof.Rows
set_option maxRecDepth 100000 in
set_option maxHeartbeats 0 in
theorem PySem.Challenge.cw_cubebook_k52_kept_as_anew_holds : PySem.Challenge.rw_cubebook_k52_kept_as_anew.Holds := by
 w_on;o_law;k_head;(case hw=>w_witness2)
 k_fill
 refine Internal.K52.walk (l:=PySem.Challenge.rw_cubebook_k52_kept_as_anew) rfl rfl (fun w h Y=>PySem.W.kIn_of Y) ?F
 case F =>
  intro w mg fa h KX G hmg
  open Internal in refine' Internal.K52.fin KX hmg ⟨_,⟨Internal.ci KX G ?_ ?_ ?_ ?_ ?_ ?_ ?_,?_,?_,?_,?_,?_,?_,?_⟩⟩
  open Internal in repeat (any_goals (show Internal.All _ _;first | exact True.intro | refine' ⟨⟨_,_,Internal.di KX G ?_ ?_ ?_ ?_ (λ_ _ _ _ _ _=>Internal.c3 (by(repeat intro _);rfl))⟩,?_⟩ | refine' ⟨⟨_,_,Internal.mi ?_ ?_ ?_ ?_ ?_ (λ_ _ _ _ _ _=>Internal.c3 (by(repeat intro _);rfl))⟩,?_⟩ | refine' ⟨mg_none_of KX G ?_,?_⟩ | refine' ⟨⟨_,mg_of KX G ?_,⟨_,rfl⟩⟩,?_⟩ | refine' ⟨⟨_,mg_of KX G ?_,?_⟩,?_⟩ | refine' ⟨⟨_,?_,Internal.mk_of ?_ ?_,⟨?_,?_,?_,?_,?_,?_,⟨_,?_⟩⟩,Internal.kit_V ?_,⟨_,?_,Internal.exm_of ?_ ?_ ?_ ?_⟩,?_⟩,?_⟩ | refine' ⟨⟨_,?_,?_⟩,?_⟩))
  all_goals try (show (_:Prop);first | k_is | rfl | k_exc | exact Internal.kit_self | (refine' Internal.kit_ne ?_ ?_ ?_ ?_<;>first | k_is | rfl))
#print axioms PySem.Challenge.cw_cubebook_k52_kept_as_anew_holds
