import PyProof.Rows.All
import Wide.All
import OpenK.AllK
import Wide.FinOn
import Lean
import PyProof.EqAt
import PyProof.EqKinds
import PyProof.TupleCall
import PyProof.TupleKey
import PyProof.DictRoadsH
import Wide.Seal
import PyProof.NeKinds
import PyProof.ZipIter
import PyProof.EnumMake
import PyProof.Rows.TupTab
import KE.KDictLaws
import PyProof.AutoListH
import PyProof.AttrMissHeap
import KE.KDictOf
import KE.KIntText
import PyProof.StrBlockL
import PyProof.StrLawsChain
import PyProof.FString
import PyProof.Rows.FStr
import OpenK.KOwn
import KE.KIsAll
import KE.KDictList
import PyProof.Draws
import PySem.Challenge.RW_cubebook_k57_plan_reads_the_fewest
import PyProof.MeetsSeq
open PySem.W renaming Frag→Ao,keepIn→IU,findIn→JL,instObj→Kz,fnOf→JN,emptyDict→NA
open PySem renaming wpAny_bind→An,sizeLine→Av,Spec→Qan,wpAny_pure→AV,starEach→AH,Program→AS,mainGlobals→C4,foldedSetIterable→EU,wpAny_loadPart'→Fl,FuncData→CH,assignEach→Ef,compareOp→DT,attributeBase→FQ,bootBuiltins→Fs,swapsWith→Ey,wpAny_setField_rec→IC,wpAny_holding→F2,behindInMarks→Gw,wpAny_truthy_bool→IQ,holding→D1,wpAny_field→F3,wpAny_callSpecial?_slot→L6,keywordEach→Gz,Keyword→EA,mem_of_lookup→KN,tupleKind_room_in1→Le,wpAny_newObj_type→KU,wpAny_call_entry→KR,sysModules→Hy,codeAny_builtin→K3,backToKw→Gy,sizeLine_eq→IT,DictEntry→Hx,wpAny_Call_Name_kw→NC,Builtin→F8,wpAny_dictEntries→N6,binaryOp→HB,NameKind→HD,wpAny_getItem_str_slice→Th,plainId_quiet→Md,wpAny_rule→JQ,wpAny_typeNameOfWhole_keyiter→cy,wpAny_pyIter_list→Pu,atKey_none_of_get→Qs,wpAny_typeOf→L7,wpAny_notOrdered_dict→TY,swapsWithSole→Np,swappedStores→Nq,wpAny_passesOwn→Px
open List renaming getElem?_eq_some_iff→Bp,mem_cons_self→Bb,mem_cons_of_mem→Bk,map_cons→AQ,getElem?_eq_getElem→BZ,mem_map→Be,length_map→Bx,range→AW,mem_cons→Bw,mem_singleton→Cg,size_toArray→Ce,length_cons→Ct,map_map→B7,getElem?_set_ne→Dn,getElem?_map→CW,mem_append_right→DK,mem_append→C0,all_eq_true→Dr,mem_of_getElem?→Ej,mem_map_of_mem→Es,getElem?_append_left→Fx,getElem?_set_self→Fh,mem_range→DS,map_nil→Do,append_nil→Eh,getElem?_cons_succ→Gd,map_append→Er,length_append→E8,nil_append→EJ,getElem?_cons_zero→Hs,getElem_mem→Fn,getD→C6,nodup_cons→E7,replicate→EV,nodup_append→Ge,zipWith→Fe,mem_filter→F1,mem_append_left→Ie,filterMap_cons→Ic,getElem?_append_right→KO,cons_append→Ha,length_singleton→JU,getElem?_replicate→KP,range'→FZ,drop_eq_getElem_cons→Mc,ext_getElem?→Jc,append_assoc→Jm,length_set→Il,foldl_cons→IH,getElem?_append→K6,range_eq_range'→LM,drop_eq_nil_of_le→Mb,replicate_zero→LP,length_nil→Ja,length_replicate→L5,length_filter_le→M9,zip_cons_cons→K1,set_cons_succ→LQ,set_cons_zero→LR,replicate_succ→M6,take_of_length_le→N3,not_mem_nil→Lb,range'_succ→LK,all_map→Jg,length_eq_zero_iff→Qc,range_succ_eq_map→Qd,filterMap_append→SG,length_range→O4,eraseIdx_eq_take_drop_succ→cJ,of_mem_zip→ND,zipWith_cons_cons→XF,singleton_append→Xq,length_take→PH,length_drop→QM,any_eq_true→Sz,all_cons→NX,map_congr_left→XJ,pairwise_iff_getElem→cf,mem_or_eq_of_mem_set→cY,getElem?_drop→Tg
open PySem.Heap renaming get?_push_of_some→BR,get?_push_size→CD,lt_size→BX,SameBut→Ex,size_push→KI,get?_update_self→PN,get?_update_other→Ta
open Option renaming map_eq_some_iff→B2,bind_eq_some_iff→Cm,bind→DB,map→Ec,map_some→L9,bind_some→Pe,isSome_map→Qq
open Nat renaming lt_of_lt_of_le→BM,le_refl→Bg,le_trans→BN,ne_of_lt→Cq,lt_of_add_right_lt→EF,lt_of_le_of_lt→Hg,zero_le→Fk,le_add_right_of_le→KY,le_succ_of_le→Jo,lt_of_sub_eq_succ→K2,lt_irrefl→Hz,reduceAdd→Ia,lt_of_lt_of_eq→KQ,ne_of_gt→Ii,le_of_not_lt→KZ,lt_trans→I0,zero_lt_of_lt→Mx,succ_le_succ→L8,zero_add→Km,le_sub_one_iff_lt→Qi,reduceSub→LO,lt_or_ge→Lk,eq_of_le_of_lt_succ→T8,le_antisymm→Oc,le_of_add_right_le→Tb,add_comm→Ma,le_add_right→Qo
open False renaming elim→B6
open Bool renaming and_eq_true→Dv,false_eq_true→F5,false_ne_true→JJ,and_self→HZ,not_eq_true'→Qy,eq_iff_iff→Se
open Ne renaming symm→B8
open Option.some renaming inj→E6,injEq→P6
open Int renaming emod_nonneg→FH,emod_lt_of_pos→Hr,toNat_natCast→Jn,toNat_of_nonneg→LS,natCast_nonneg→MK,natCast_pos→LU,zero_le_ofNat→RX,lt_of_not_ge→PM
open PySem.W.KasT renaming kasWp→D7,kasWp_bind→Qv
open PySem.Value renaming ref→DR
open PySem.Heap.SameBut renaming update→J5
open PySem.Paired renaming length→G8
open PyProof.Rows renaming callWith_type1→Nv,listUpdate_at→Of
open PySem.F renaming plainAttrs_list→Mi,slot_dict_setdefault→T0,slot_enumerate_next→Uo,slot_list_append→Tq,type_list_append→Tr,plainAttrs_dict→T6,args_tuple_add_2→aP,entry_tuple_add→aO,slot_dict_keyiterator_next→uV
open PySem.Obj renaming mapSeq→F4,data_mapDictKeys→TX,data_mapFields→Uf
open PySem.Builtin.Str renaming occurrences→Ny
open True renaming intro→HC
open PySem.NameKind renaming free→JX
open Classical renaming propDecidable→P7
open Eq renaming trans→G5
open PySem.Str renaming ofString→JP
open PySem.Builtin.Slice renaming slicePlaces→S5,sliceAdjust→YV
open Array renaming length_toList→SN
open List.cons renaming injEq→Qp
open PySem.Builtin.SmallTypes renaming nextOf→cO
open PySem.Calls renaming call_function_entry→c4
open PySem.PassesOwn renaming never→SJ
open PySem renaming Value→Aa,Shared→Ab,Addr→Ac,Str→Ae,Around→Ag,model→Ah,World→Ai,Heap→Al,eval→Aq,cLine→Ar,backTo→AA,Pos→AC,Stmt→AE,Builtin→Bf,assign→BC,rawInt→BQ,tupleKind→Cb,sliceBounds→Cf
open Pure renaming pure→Ax
open PyProof.Rows renaming envOfC→Bt
open Option renaming some→Z,none→J
open Bool renaming true→J',false→O'
abbrev U:=@List
abbrev O:=@Option
set_option Elab.async false
set_option linter.all false
set_option backward.eqns.nonrecursive false
set_option tactic.hygienic false
set_option maxHeartbeats 4000000
set_option maxRecDepth 100000
abbrev AR:=PySem.Value->PySem.Shared->Prop
abbrev Ew(x:PySem.Str):Prop:=(x==("__debug__":PySem.Str))=O'
abbrev A1:=U (PySem.Addr×PySem.Obj)
abbrev BP:=PySem.Str->O PySem.Value
theorem Z1{b:Type}{c:Prop}[Decidable c]{a:O b}{r:b}(h:(if c then a else J)=Z r):c/\a=Z r:=by
 split at h
 ·exact⟨‹_›,h⟩
 ·cases h
noncomputable section
set_option bootstrap.genMatcherCode false
set_option genSizeOf false
set_option genSizeOfSpec false
set_option compiler.extract_closed false
set_option bootstrap.genMatcherCode false
set_option genSizeOf false
set_option genSizeOfSpec false
open List renaming toArray->T'
local macro_rules|`(#[$a,*])=>`(⟨$a,*⟩)
local macro_rules|`(tactic|erw[$[$t:term],*]$[$l]?)=>`(tactic|simp only[$[$t:term],*]$[$l]?)
local macro_rules|`(tactic|ext)=>`(tactic|decide)
local macro_rules|`(tactic|let$d:letDecl)=>`(tactic|have$d:letDecl)
theorem zX1{A}{p:A->Prop}{G:Prop}(h:∃a,p a)(k:∀a,p a->G):G:=by obtain⟨a,h⟩:=h;exact k _ h
theorem zX2{A B}{p:A->B->Prop}{G:Prop}(h:∃a b,p a b)(k:∀a b,p a b->G):G:=by obtain⟨a,b,h⟩:=h;exact k _ _ h
theorem zX3{A B C}{p:A->B->C->Prop}{G:Prop}(h:∃a b c,p a b c)(k:∀a b c,p a b c->G):G:=by obtain⟨a,b,c,h⟩:=h;exact k _ _ _ h
theorem zX4{A B C D}{p:A->B->C->D->Prop}{G:Prop}(h:∃a b c d,p a b c d)(k:∀a b c d,p a b c d->G):G:=by obtain⟨a,b,c,d,h⟩:=h;exact k _ _ _ _ h
theorem zX5{A B C D E}{p:A->B->C->D->E->Prop}{G:Prop}(h:∃a b c d e,p a b c d e)(k:∀a b c d e,p a b c d e->G):G:=by obtain⟨a,b,c,d,e,h⟩:=h;exact k _ _ _ _ _ h
theorem zX6{A B C D E F}{p:A->B->C->D->E->F->Prop}{G:Prop}(h:∃a b c d e f,p a b c d e f)(k:∀a b c d e f,p a b c d e f->G):G:=by obtain⟨a,b,c,d,e,f,h⟩:=h;exact k _ _ _ _ _ _ h
theorem zX7{A B C D E F I}{p:A->B->C->D->E->F->I->Prop}{G:Prop}(h:∃a b c d e f i,p a b c d e f i)(k:∀a b c d e f i,p a b c d e f i->G):G:=by obtain⟨a,b,c,d,e,f,i,h⟩:=h;exact k _ _ _ _ _ _ _ h
theorem zN2{a b G:Prop}(h:a∧b)(k:a->b->G):G:=k h.1 h.2
theorem zN3{a b c G:Prop}(h:a∧b∧c)(k:a->b->c->G):G:=k h.1 h.2.1 h.2.2
theorem zN4{a b c d G:Prop}(h:a∧b∧c∧d)(k:a->b->c->d->G):G:=k h.1 h.2.1 h.2.2.1 h.2.2.2
theorem zN5{a b c d e G:Prop}(h:a∧b∧c∧d∧e)(k:a->b->c->d->e->G):G:=k h.1 h.2.1 h.2.2.1 h.2.2.2.1 h.2.2.2.2
theorem zN6{a b c d e f G:Prop}(h:a∧b∧c∧d∧e∧f)(k:a->b->c->d->e->f->G):G:=k h.1 h.2.1 h.2.2.1 h.2.2.2.1 h.2.2.2.2.1 h.2.2.2.2.2
theorem zN7{a b c d e f i G:Prop}(h:a∧b∧c∧d∧e∧f∧i)(k:a->b->c->d->e->f->i->G):G:=k h.1 h.2.1 h.2.2.1 h.2.2.2.1 h.2.2.2.2.1 h.2.2.2.2.2.1 h.2.2.2.2.2.2
theorem zN8{a b c d e f i j G:Prop}(h:a∧b∧c∧d∧e∧f∧i∧j)(k:a->b->c->d->e->f->i->j->G):G:=k h.1 h.2.1 h.2.2.1 h.2.2.2.1 h.2.2.2.2.1 h.2.2.2.2.2.1 h.2.2.2.2.2.2.1 h.2.2.2.2.2.2.2
theorem zN9{a b c d e f i j l G:Prop}(h:a∧b∧c∧d∧e∧f∧i∧j∧l)(k:a->b->c->d->e->f->i->j->l->G):G:=k h.1 h.2.1 h.2.2.1 h.2.2.2.1 h.2.2.2.2.1 h.2.2.2.2.2.1 h.2.2.2.2.2.2.1 h.2.2.2.2.2.2.2.1 h.2.2.2.2.2.2.2.2
open Lean Parser Tactic in def dZ'(n:Nat)(xs:Array Term)(e:Term)(fs:Array (TSyntax `tactic)):Nat->TSyntax `tactic->MacroM (TSyntax `tactic)|0,a=>return a|k+1,a=>do let m:=n-1-k;let f:=λ(s:String)(i:Nat)=>mkIdent (.mkSimple (s++toString i));let z:=mkIdent `zZ;let y←`(λ $(xs.extract m n)* =>?_);let t←(if m=0 then `($(f "zN" n) ($e :) $y) else if k=0 then `($(f "zX" m) ($e :) λ $xs* =>?_) else `($(f "zX" m) ($e :) λ $(xs.extract 0 m)* $z=>$(f "zN" (k+1)) $z $y));let b←dZ' n xs e fs k a;let c←`(tactic|try clear $z);`(tactic|first|(refine $t;$c;$[$fs]*)|$b:tactic)
local macro_rules|`(tactic|let($a,$b,*):=$e)=>do let cs:=(Array.mk [a])++b.getElems;let (xs,fs)←cs.foldlM (λ (xs,fs) c=>do let z:=Lean.mkIdent (.mkSimple (toString e.1.getId++"z"++toString xs.size));match c with|`(rfl)=>return (xs.push z.1,fs.push (←`(tactic|subst $z)))|`(($a,$b,*))=>return (xs.push z.1,fs.push (←`(tactic|let($a,$b,*):=$z)))|_=>return (xs.push c.1,fs)) ((Array.mk []:Array Lean.Syntax),(Array.mk []:Array (Lean.TSyntax `tactic)));let ps←xs.mapM λx=>if x.isIdent then`(Lean.Parser.Tactic.rcasesPatLo|$(⟨x⟩):ident)else`(Lean.Parser.Tactic.rcasesPatLo|_);let r←`(tactic|(obtain⟨$ps,*⟩:=$e;$[$fs]*));if (e.1.find? λs=>s.isOfKind ``Lean.Parser.Term.syntheticHole).isSome||e.1.isIdent&&cs.any λc=>(c.1.find? λs=>s.getId==e.1.getId).isSome then return r else let d←`(tactic|try clear $(⟨if e.1.isIdent then e else Lean.mkIdent `zZ⟩));dZ' cs.size (xs.map (⟨·⟩)) e ((Array.mk [d])++fs) cs.size r
local macro_rules|`(∅)=>`(by lia)
local macro_rules|`(tactic|apply$e)=>if e.raw.isOfKind ``Lean.Parser.Term.paren then Lean.Macro.throwUnsupported else`(tactic|refine $e)
local macro_rules|`(tactic|show$e)=>`(tactic|exact $e)
local macro_rules|`(tactic|exists$e)=>`(tactic|simpa using $e)
local macro_rules|`(tactic|symm)=>`(tactic|decide +kernel)
local macro_rules|`(command|open J in$c)=>`(command|set_option tactic.hygienic true in $c)
open Lean Parser Term in def dN(f:Bool):Name->Name|.str p s=>let u:=if s.length>2 then s else match " a=length j=map o=int r=val u=heap y=size B=getD C=env E=toArray G=trans I=ref J=bind L=objs O=inl Q=next R=lst S=tup U=get? X=lookup Y=cel α=toList β=Name γ=Attribute δ=prog ε=units ζ=mono η=same θ=Nodup ι=type κ=non μ=Subscript ν=toNat ξ=set ρ=inr σ=refl τ=names υ=isSome φ=own χ=filter ψ=extBut ω=base Α=cons Β=append Γ=builtin Δ=elim Ε=toks Ζ=symm Η=none Θ=scope Ι=str Κ=Compare Λ=ListComp Μ=step Ν=Call Ξ=fresh Ο=cell Ρ=fail Τ=eraseIdx Υ=dat Φ=isEmpty Χ=get Ψ=drop Ω=foldl ϊ=free ϋ=of_same ό=isList ύ=push ώ=nil Ϗ=filterMap ϐ=locals ϑ=BoolOp ϒ=tuple ϓ=slot ϔ=local ϕ=typeIs ϖ=mem_iff ϗ=length_eq Ϙ=fields ϙ=Constant Ϛ=all ϛ=stack Ϝ=handled ϝ=eraseIdxIfInBounds Ϟ=contains ϟ=cells Ϡ=bool ϡ=line Ϣ=mpr ϣ=take Ϥ=list ϥ=hok Ϧ=deeper ϧ=len Ϩ=cps ϩ=Assign Ϫ=calm ϫ=Tuple Ϭ=update ϭ=kept Ϯ=slot_list_getattribute ϯ=endLine ϰ=DictOfH ϱ=ret ϲ=params ϳ=getElem?_eq_none ϴ=seq ϵ=lent ϶=le_of_lt Ϸ=function ϸ=IsTupleIter Ϲ=FunFrames Ϻ=slot_tuple_getitem jk=good xv=from v0=off_ne gV=kindOf g7=kind ".splitOn (" "++s++"=") with|[_,r]=>(r.splitOn " ").headD s|_=>s;if p.isAnonymous then .str p (if f then u else s) else .str (dN f p) u|n=>n
open Lean Parser Term in def dS(f:Bool):Nat->Syntax->Option Syntax|0,_=>none|n+1,x=>match x with|.ident i r v _=>if !f&&v.isAtomic then(match v with|`Y=>some (mkIdent ``Nat)|`W'=>some (mkIdent ``Int)|`V'=>some (Lean.mkNode ``prop (Array.mk [Lean.mkAtom "Prop"]))|`j'=>some (mkIdent ``Bool)|_=>none)else let w:=dN f v;if w==v then none else some (.ident i r w [])|_=>let k:=x.getKind;if k==``proj then match dS f n x[0],dS true n x[2] with|none,none=>none|a,b=>some ((x.setArg 0 (a.getD x[0])).setArg 2 (b.getD x[2]))else if k==``dotIdent then(dS true n x[1]).map (x.setArg 1)else if k==``explicit then(dS f n x[1]).map (x.setArg 1)else if k==``app then(dS f n x[0]).map (x.setArg 0)else none
local macro_rules(kind:=ident)|x=>match dS false 9 x with|some y=>return y|_=>Lean.Macro.throwUnsupported
local macro_rules(kind:=Lean.Parser.Term.proj)|x=>match dS false 9 x with|some y=>return y|_=>Lean.Macro.throwUnsupported
local macro_rules(kind:=Lean.Parser.Term.dotIdent)|x=>match dS false 9 x with|some y=>return y|_=>Lean.Macro.throwUnsupported
local macro_rules(kind:=Lean.Parser.Term.app)|x=>match dS false 9 x with|some y=>return y|_=>Lean.Macro.throwUnsupported
local macro_rules(kind:=Lean.Parser.Command.variable)|x=>match x[0].getHeadInfo with|.original _ _ t _=>if t.isEmpty then Lean.Macro.throwUnsupported else do return Lean.mkNullNode (Array.mk [←`(section),x.setArg 0 (Lean.mkAtom "variable")])|_=>Lean.Macro.throwUnsupported
local macro_rules|`(tactic|ext$x:rintroPat)=>match x.raw.find? (·.isIdent) with|some i=>let i:Lean.Ident:=.mk i;`(tactic|cases $i:ident)|_=>Lean.Macro.throwUnsupported
local macro_rules(kind:=Lean.Parser.Command.declaration)|x=>do let d:=x[1];let u:=match d[0].getHeadInfo with|.original _ _ t _=>if d.isOfKind ``Lean.Parser.Command.definition then(t.toString.splitOn "\n").length-1 else 0|_=>0;let x:=if 0<u then x.setArg 1 (Lean.mkNode ``Lean.Parser.Command.theorem (Array.mk [Lean.mkAtom "theorem",d[1],Lean.mkNode ``Lean.Parser.Command.declSig (Array.mk [d[2][0],d[2][1][0]]),d[3]]))else x;let q←`(command|@[simp]def a:=1);let x:=if 1<u then x.setArg 0 (x[0].setArg 1 q.raw[0][1]) else x;let c:=(x[1].isOfKind ``Lean.Parser.Command.definition||x[1].isOfKind ``Lean.Parser.Command.abbrev)&&x[0][4].isNone&&(x[0][1].find? (·.isOfKind ``Lean.Parser.Attr.macro)).isNone;let y:=if c then x.setArg 0 (x[0].setArg 4 (Lean.mkNullNode (Array.mk [Lean.mkNode ``Lean.Parser.Command.noncomputable (Array.mk [Lean.mkAtom "noncomputable"])])))else x;match x.getHeadInfo with|.original ..=>return y.setHeadInfo .none|_=>if c||0<u then return y else Lean.Macro.throwUnsupported
variable{a:Ac}{apos cpos p2 pos pos':AC}{gs:U (U Y)}{E:AR}{elts es ifs:U PySem.Expr}{u:Aa}{φ:Y->Ac}{ek elt iter o tg:PySem.Expr}{pl:PySem.Sem j'}{n0 t':Y}{ws:U Y}{pins:A1}{sc scope:PySem.Scope}{g':Array PySem.GenState}{items:Array Aa}{RR:Aa->Ac->PySem.Result->Ab->V'}{isA:Y->Aa->V'}{y:Ae}{ch:U Ac}{body:U AE}{B:Aa->PySem.Sem PySem.Fin}{d':PySem.Drawn}{tn:Y->Al->V'}
namespace Internal
open PySem PySem.Spec PyProof.Rows
inductive V where
 |non|bl (b:j')|int (i:W')|str (x:Ae)|ref (a:Ac)|ty (n:String)
 deriving DecidableEq
variable{vs ys:U V}
def RelV:V->Aa->V'
 |.non,u=>u=Value.Η
 |.bl b,u=>u=Value.Ϡ b
 |.int i,u=>∃t,u=Value.o i t
 |.str x,u=>∃t,u=Value.Ι x t
 |.ref a,u=>u=DR a
 |.ty n,u=>u=Value.ι n
abbrev Ap:U V->U Aa->V':=Paired RelV
def
Ap.length{xs:U V}{us:U Aa}(r:Ap xs us):xs.a=us.a:=G8 r
def
Ap.get:∀{xs:U V}{us:U Aa}{i:Y}{x:V},Ap xs us->xs[i]?=Z x->∃u,us[i]?=Z u/\RelV x u
 |_,_,_,_,.nil,e=>by simp at e
 |_,_,0,_,.cons r _,e=>by simp at e;subst e;show#[_,rfl,r]
 |_,_,i+1,x,.cons _ t,e=>by
  let(u,a,b):=Ap.Χ (i:=i) (x:=x) t (by exists e);show#[u,by simpa using a,b]
def
Ap.set{x:V}{u:Aa}(r:RelV x u):∀{xs:U V}{us:U Aa}(i:Y),Ap xs us->Ap (xs.ξ i x) (us.ξ i u)
 |_,_,_,.nil=>.ώ
 |_,_,0,.cons _ t=>.Α r t
 |_,_,i+1,.cons q t=>.Α q<|Ap.ξ r i t
def
Ap.append{xs:U V}{us ws:U Aa}(h:Ap xs us)(s:Ap ys ws):Ap (xs++ys) (us++ws):=by
 induction h with
 |nil=>show s
 |cons r _ a=>show .Α r a
def
Ap.take:∀{xs:U V}{us:U Aa}(n:Y),Ap xs us->Ap (xs.ϣ n) (us.ϣ n)
 |_,_,0,_=>.ώ
 |_,_,_+1,.nil=>.ώ
 |_,_,n+1,.cons r t=>.Α r<|Ap.ϣ n t
def
Ap.drop:∀{xs:U V}{us:U Aa}(n:Y),Ap xs us->Ap (xs.Ψ n) (us.Ψ n)
 |_,_,0,r=>r
 |_,_,_+1,.nil=>.ώ
 |_,_,n+1,.cons _ t=>Ap.Ψ n t
def CV:O V->O Aa->V'
 |some v,Z u=>RelV v u
 |none,J=>True
 |_,_=>False
inductive At where
 |non|int (i:W')|str (x:Ae)
 deriving DecidableEq
variable{us:U (U At×Ac×Aa)}
def JD:At->Aa->j'
 |.non,.none=>J'
 |.int k,v=>Value.isInt k v
 |.str x,v=>Value.isStrOf x v
 |_,_=>O'
def SK(w:Ai):At->W'
 |.non=>reduceHash 4238894112
 |.int k=>hashInt k
 |.str x=>hashStr w x
def
JH:∀{k:At}{v:Aa},JD k v=J'->(k=.κ/\v=.Η)\/(∃i t,k=.o i/\v=Value.o i t)\/(∃x t,k=.Ι x/\v=Value.Ι x t)
 |.non,v,h=>by ext v<;>first|show .O ⟨rfl,rfl⟩|show absurd h JJ
 |.int i,v,h=>by let(t,e):=Value.isInt_shape (k:=i) (v:=v) h;show .ρ<|.O ⟨i,t,rfl,e⟩
 |.str x,v,h=>by let(t,e):=Value.isStrOf_shape (x:=x) (v:=v) h;show .ρ<|.ρ ⟨x,t,rfl,e⟩
def
m4(i:W')(t:Tok):JD (.o i) (.o i t)=J':=by simp[JD,Value.isInt]
def
m5(x:Ae)(t:Tok):JD (.Ι x) (.Ι x t)=J':=by simp[JD,Value.isStrOf]
def
m8{prog:AS}{w:Ai}{A:Ag}{s:Ab}{Q:W'->Ab->V'}(h:Q (reduceHash 4238894112) {s with toks:=s.Ε+1}):wpAny (Ah prog w) A (PySem.pyHash .Η) Q E s:=PySem.W.pyHash_slot (T:="NoneType") rfl F.slot_NoneType_hash F.entry_NoneType_hash (F.args_NoneType_hash_1 _) (beq_builtin_none _) (.O rfl) (An<|AV<|An<|wpAny_mkInt<|AV ⟨_,_,rfl,h⟩)
def
m9(a b:W'):decide ((At.o a)=.o b)=(a==b):=by
 grind
def
na(a b:Ae):decide ((At.Ι a)=.Ι b)=decide (a=b):=by
 simp_all
def ZH(prog:AS)(w:Ai):PySem.KeyKind prog w At where
 is:=JD
 hash:=SK w
 inj:=λv a b c d=>by
  rcases JH c with⟨rfl,rfl⟩|⟨i,t,rfl,rfl⟩|⟨x,t,rfl,rfl⟩<;>rcases JH d with⟨rfl,e⟩|⟨j,u,rfl,e⟩|⟨y,u,rfl,e⟩ <;>
   first|rfl|(ext e;done)|(ext e;rfl)
 byValue:=λk v h=>by
  rcases JH h with⟨rfl,rfl⟩|⟨i,t,rfl,rfl⟩|⟨x,t,rfl,rfl⟩<;>rfl
 pyHash:=λhv h=>by
  rcases JH hv with⟨rfl,rfl⟩|⟨i,t,rfl,rfl⟩|⟨x,t,rfl,rfl⟩
  .show m8 h
  .show wpAny_pyHash_int h
  .show wpAny_pyHash_str h
 eqBool:=λf hv h=>by
  rcases JH f with⟨rfl,rfl⟩|⟨i,t,rfl,rfl⟩|⟨x,t,rfl,rfl⟩<;>rcases JH hv with⟨rfl,rfl⟩|⟨j,u,rfl,rfl⟩|⟨y,u,rfl,rfl⟩
  .show SeqAt.EqAt.η Value.Η _ _ _ _ h
  .show SeqAt.EqAt.none_int j u _ _ _ _ h
  .show SeqAt.EqAt.none_str y u _ _ _ _ h
  .show SeqAt.EqAt.int_none i t _ _ _ _ h
  .rw[m9]at h;show wpAny_eqBool_int h
  .show SeqAt.EqAt.int_str i t y u _ _ _ _ h
  .show SeqAt.EqAt.str_none x t _ _ _ _ h
  .show SeqAt.EqAt.str_int x t j u _ _ _ _ h
  .rw[na]at h;show wpAny_eqBool_str h
 «strs»:=λk x t v h=>by
  rcases JH h with⟨rfl,e⟩|⟨i,u,rfl,e⟩|⟨y,u,rfl,e⟩
  .show nomatch e
  .show nomatch e
  .injection e with g _
   subst g
   ext v<;>rfl
inductive KT where
 |at(a:At)|tup (l:List At)
 deriving DecidableEq
def KT.hash(w:Ai):KT->W'
 |.at a=>SK w a
 |.tup l=>reduceHash (Builtin.ϫ.tupleHashOf (l.j (SK w)))
def FN:At->V
 |.non=>.κ
 |.int i=>.o i
 |.str x=>.Ι x
def ng:KT->V->V'
 |.at a,v=>v=FN a
 |.tup _,v=>∃p,v=.I p
def Ky(w:Ai):U KT->U V->U Hx->V'
 |[],a,b=>a=[]/\b=[]
 |k::ks,a,b=>∃kv v r e t,a=kv::v::r/\b=e::t/\RelV kv e.key/\RelV v e.r/\e.hash=k.hash w/\ng k kv/\Ky w ks r t
inductive HO where
 |lst (xs:List V)
 |tup (xs:List V)
 |dct (ks:List KT) (vs:List V)
 |ins (C dx:Ac) (fs:List (Ae×V))
 |own (x:Ac)
 |xd (fs:List (Ae×V))
 |met (f x:Ac)
 |rng (lo hi:W')
 |frz (o:Obj) (u:HO)
 |tbl (ps:Array Aa)
 |ext (φ:Al->V')
abbrev Hp:=Ac->O HO
variable{H H' H0:Hp}
def AL(H:Hp)(a:Ac)(o:HO):Hp:=λb=>if b=a then Z o else H b
def
ZQ{o:HO}:AL H a o a=Z o:=by grind [AL]
def
Zp{b:Ac}{o:HO}(h:b≠a):AL H a o b=H b:=by grind [AL]
def
ni{o u:HO}:AL (AL H a o) a u=AL H a u:=by
 funext b;unfold AL;split<;>rfl
def
Z9{b:Ac}{o:HO}(h:H a=Z o)(h':H b=J):a≠b:=by
 grind
section
variable(P:AS)(w:Ai)
def Bo(P:AS)(w:Ai)(H:Hp)(h:Al)(a:Ac):HO->V'
 |.lst d=>d.a<=Av/\∃(b:U Aa) (n:Y),Ap d b/\h.U a=Z {cls:=.ι "list",data:=.ϴ b.E n}
 |.tup d=>d.a<=Av/\∃b:U Aa,Ap d b/\IsTup h a b.E
 |.dct ks m=>ks.a<=Av/\(a==Hy)=O'/\ks.θ/\∃o j p,h.U a=Z o/\o.ExactDict/\o.data=.dict j p/\Ky w ks m j.α
 |.ins C g e=>H g=Z (.φ a)/\e.a<=1000/\g≠a/\h.U a=Z (Kz C g) /\
   ∃c,h.Ns1 g c/\(∀f,CV (e.X f) (c f))/\PySem.Within c (e.j (·.1))
 |.own _=>∃o,h.U a=Z o
 |.xd e=>∃c,h.Ns1 a c/\∀f,CV (e.X f) (c f)
 |.rng lo q=>∃t u v,h.U a=Z {cls:=.ι "range",data:=.Ϙ (T' [.o lo t,.o q u,.o 1 v])}
 |.frz o u=>h.U a=Z o/\Bo P w H h a u
 |.tbl r=>h.U a=Z {cls:=.Η,data:=.Ϙ r}
 |.met f x=>h.U a=Z (PySem.W.methodObj (.I f) (.I x))
 |.ext i=>i h/\(∃o,h.U a=Z o)/\∀k l:Al,i k->(∀o,k.U a=Z o->l.U a=Z o)->i l
def CZ(H:Hp)(h:Al):V':=∀a o,H a=Z o->Bo P w H h a o
end
variable {P:AS}{w:Ai}{h h':Al}{o:HO}
def
Bo.lt(x:Bo P w H h a o):a<h.L.y:=by
 cases o with
 |lst b=>let(_,_,_,_,e):=x;show BX e
 |tup b=>let(_,_,_,p):=x;show p.lt
 |dct ks d=>let(_,_,_,o,_,_,e,_):=x;show BX e
 |ins C g c=>let(_,_,_,e,_):=x;show BX e
 |own y=>let(_,e):=x;show BX e
 |xd c=>let(_,(_,_,_,e,_),_):=x;show BX e
 |rng lo i=>let(_,_,_,e):=x;show BX e
 |frz j u=>let(e,_):=x;show BX e
 |tbl k=>show BX (show h.U a=Z _ from x)
 |met f y=>show BX (show h.U a=Z _ from x)
 |ext l=>let(_,(_,e),_):=x;show BX e
def
Paired.mapP{e g:Type}{F G:e->g->V'}{c:U e}{d:U g}(h:Paired F c d)(f:∀a b,F a b->G a b):Paired G c d:=by
 induction h with
 |nil=>show .ώ
 |cons r _ i=>show .Α (f _ _ r) i
def
Bo.stay(x:Bo P w H h a o)(k:∀b u,(b=a\/H b=Z (.φ a))->h.U b=Z u->h'.U b=Z u) (B:∀b,H b=Z (.φ a)->H' b=Z (.φ a)) (F:∀b xs,H b=Z (.S xs)->H' b=Z (.S xs)):Bo P w H' h' a o:=by
 induction o with
 |lst xs=>let(z,g,n,r,e):=x;show#[z,g,n,r,k _ _ (.O rfl) e]
 |tup xs=>let(z,g,r,i,e,c):=x;show#[z,g,r,i,k _ _ (.O rfl) e,c]
 |dct ks L=>let(z,y,n,i,j,l,e,c):=x;show#[z,y,n,i,j,l,k _ _ (.O rfl) e,c]
 |ins C M E=>
  let(d,z,ne,e,m,(s,j,l,G,c),r):=x;show#[B _ d,z,ne,k _ _ (.O rfl) e,m,#[s,j,l,k _ _ (.ρ d) G,c],r]
 |own y=>let(i,e):=x;show#[i,k _ _ (.O rfl) e]
 |xd E=>let(m,(s,j,l,e,c),r):=x;show#[m,#[s,j,l,k _ _ (.O rfl) e,c],r]
 |rng lo N=>let(t,u,v,e):=x;show#[t,u,v,k _ _ (.O rfl) e]
 |frz i u Q=>let(e,q):=x;show#[k _ _ (.O rfl) e,Q q]
 |tbl A=>
  let e:h.U a=Z {cls:=.Η,data:=.Ϙ A}:=x;change h'.U a=Z {cls:=.Η,data:=.Ϙ A}
  grind
 |met f y=>
  let e:h.U a=Z (PySem.W.methodObj (.I f)<|.I y):=x;change h'.U a=Z (PySem.W.methodObj (.I f)<|.I y)
  simp_all
 |ext K=>let(p,(o,e),st):=x;show#[st _ _ p λo q=>k _ _ (.O rfl) q,#[o,k _ _ (.O rfl) e],st]
def
CZ.lt(x:CZ P w H h)(e:H a=Z o):a<h.L.y:=(x a o e).lt
def
CZ.fresh(x:CZ P w H h)(e:h.L.y<=a):H a=J:=by
 cases q:H a with
 |none=>rfl
 |some u=>show absurd (BM (x.lt q) e)<|Hz _
def
CZ.kept(x:CZ P w H h)(k:∀b u,h.U b=Z u->h'.U b=Z u):CZ P w H h':=λa o e=>(x a o e).stay (λb u _ q=>k b u q) (λ_ q=>q) λ_ _ q=>q
def
CZ.laid(x:CZ P w H h)(k:∀b u,h.U b=Z u->h'.U b=Z u)(hp:h.L.y<=a)(new:Bo P w (AL H a o) h' a o):CZ P w (AL H a o) h':=λb u e=>by
 by_cases d:b=a
 .subst d;rw[ZQ]at e;ext e;show new
 .rw[Zp d]at e;show(x b u e).stay (λc v _ q=>k c v q) (λc q=>Zp (Z9 q<|x.fresh hp) ▸ q) λc f q=>Zp (Z9 q<|x.Ξ hp) ▸ q
end
def Rd(H:Hp)(a:Ac)(u:HO):V':=H a=Z u\/∃o,H a=Z (.frz o u)
def
Rd.ok{P:AS}{w:Ai}{h:Al}{u:HO}(r:Rd H a u)(x:CZ P w H h):Bo P w H h a u:=by
 rcases r with r|⟨o,r⟩
 .show x a u r
 .let(_,q):=x a _ r;show q
def Nl:O HO->V'
 |some (.lst _)=>True
 |some (.dct _ _)=>True
 |some (.ins _ _ _)=>True
 |some (.ext _)=>True
 |_=>False
variable {P:AS}{w:Ai}{h h':Al}{x e:Ac}{o':HO}
def
CZ.write(ok:CZ P w H h)(d:Nl (H x))(i:e=x\/H e=Z (.φ x))(k:∀b u,b≠e->h.U b=Z u->h'.U b=Z u)(g:∃u,h'.U e=Z u) (new:Bo P w (AL H x o') h' x o'):CZ P w (AL H x o') h':=λb u q=>by
 by_cases f:b=x
 .subst f;rw[ZQ]at q;ext q;show new
 .rw[Zp f]at q;by_cases a:b=e
  .let j:H b=Z (.φ x):=by
    rcases i with z|z
    .show absurd (a.G z) f
    .rw[a];show z
   rw[q]at j;ext j;let(v,hv):=g;show#[v,a ▸ hv]
  .refine(ok b u q).stay (λc v hc r=>k c v ?_ r) (λc r=>by rw[Zp<|(λc y r z=>by subst z;rw[r]at d;show d) c b r];show r) λc l r=>by rw[Zp<|(λc l r z=>by subst z;rw[r]at d;show d) c l r];show r
   rcases hc with rfl|hc
   .show a
   .rintro rfl;rcases i with z|z
    .show(λc y r z=>by subst z;rw[r]at d;show d) c b hc z
    .rw[hc]at z;ext z;show f rfl
end
structure Un(fs ex:List Ac)(H H':Hp)(h h':Al):V' where
 keep:∀b o,h.U b=Z o->H b=J->b∉fs->b∉ex->h'.U b=Z o
 slot:∀b o,h.U b=Z o->H b=J->b∈fs->b∉ex->∃sl,h'.U b=Z {o with slots:=sl}
 free:∀b o,h.U b=Z o->H b=J->b∉ex->H' b=J
 there:∀b o,h.U b=Z o->b∉ex->∃o',h'.U b=Z o'
 tups:∀b xs,H b=Z (.S xs)->H' b=Z (.S xs)
 frzs:∀b o u,H b=Z (.frz o u)->H' b=Z (.frz o u)
 tbls:∀b ps,H b=Z (.tbl ps)->∃more,H' b=Z (.tbl (ps++more))
variable {fs ex:U Ac}{H1:Hp}{h h1 h':Al}{x e:Ac}{o:HO}
def
Un.any(u:Un fs ex H H1 h h1){b:Ac}{a:Obj}(q:h.U b=Z a)(n:H b=J)(c:b∉ex):∃e,h1.U b=Z {a with slots:=e}:=by
 by_cases d:b∈fs
 .show u.ϓ b a q n d c
 .show#[a.slots,u.keep b a q n d c]
def
Un.kept(k:∀b u,h.U b=Z u->h'.U b=Z u):Un fs ex H H h h':=#[λb a q _ _ _=>k b a q,λb a q _ _ _=>#[a.slots,k b a q],λ_ _ _ n _=>n,λb a q _=>#[a,k b a q],λ_ _ q=>q,λ_ _ _ q=>q,λ_ c q=>#[(T' []),by rw[q];simp]]
def
Un.refl:Un fs ex H H h h:=Un.ϭ λ_ _ q=>q
def
Un.laid(k:∀b u,h.U b=Z u->h'.U b=Z u)(hp:h.L.y<=a)(c:H a=J):Un fs ex H (AL H a o) h h' where
 keep:=λb u q _ _ _=>k b u q;slot:=λb u q _ _ _=>#[u.slots,k b u q];free:=λb u q n _=>Zp (Cq<|BM (BX q) hp) ▸ n;there:=λb u q _=>#[u,k b u q];tups:=λb d q=>Zp (Z9 q c) ▸ q;frzs:=λb u d q=>Zp (Z9 q c) ▸ q;tbls:=λb e q=>#[(T' []),by rw[Zp<|Z9 q c,q];simp]
def
Un.write(a:Nl (H x))(l:e=x\/H e=Z (.φ x))(k:∀b u,b≠e->h.U b=Z u->h'.U b=Z u)(f:∃u,h'.U e=Z u):Un fs ex H (AL H x o) h h':=by
 let g:∀b,H b=J->b≠x:=λb n z=>by subst z;rw[n]at a;show a
 let d:∀b,H b=J->b≠e:=λb n z=>by
  simp_all
 let c:∀b u,H b=Z u->¬ Nl (Z u)->b≠x:=λb u q i z=>by subst z;rw[q]at a;show i a
 apply#[λb u q n _ _=>k b u (d b n) q,λb u q n _ _=>#[u.slots,k b u (d b n) q],λb u q n _=>Zp (g b n) ▸ n,λb u q _=>?_,
  λb j q=>Zp (c b _ q λz=>z) ▸ q,λb u j q=>Zp (c b _ q λz=>z) ▸ q,λb m q=>#[(T' []),by rw[Zp<|c b _ q λz=>z,q];simp]]
 grind
end
def Pl(h:Al)(H:Hp):U Ac:=(AW h.L.y).χ λa=>(H a).υ
def KA(h:Al)(H:Hp):Al:=PySem.W.hideAll h (Pl h H)
def
nj(h:Al)(H:Hp):(KA h H).L.y=h.L.y:=PySem.W.hideAll_size _ _
def
X9{h:Al}{b:Ac}{o:Obj}(e:h.U b=Z o)(n:H b=J):(KA h H).U b=Z o:=PySem.W.hideAll_get _ e λa=>by
  let q:(H b).υ=J':=(F1.mp a).2;simp_all
def
nk{h:Al}{b:Ac}{o:Obj}(e:(KA h H).U b=Z o):h.U b=Z o/\H b=J:=by
 apply#[(PySem.W.of_hideAll (Pl h H) e),?_];cases q:H b with|none=>rfl|some x=>
  let z:(KA h H).U b=J:=PySem.W.hideAll_none (Pl h H)<|F1.Ϣ ⟨DS.Ϣ<|BX<|PySem.W.of_hideAll (Pl h H) e,by simp[q]⟩;simp_all
def nl(g h:Al)(L:Ac):A1:=(AW h.L.y).Ϗ λa=>if a=L\/(g.U a).υ=J' then J else(h.U a).j λo=>(a,o)
def AF(g h:Al)(L d:Ac):A1:=(nl g h L).χ λp=>decide (p.1≠d)
structure Mod(K:Ao)(mg:BP)(base:Al):V' where
 kin:K.In base
 glob:base.Ns C4 mg
 blt:∃mb,base.Ns builtinsNs mb/\∀x:Ae,x≠"__name__"->mb x=Fs x
 nolimit:base.NoLimit
set_option genInjectivity false in
structure Cx where
 prog:AS
 w:Ai
 K:Ao
 mg:BP
 base:Al
 A:Ag
 N:List Ae
 s₀:Ab
 H₀:Hp
 env:Env
 outer:List Env
 stack:List Env
 ex:List Ac
 fn:Ae->j'
 calm:j'
 pn:A1
 xe:AR
variable{X Y':Cx}
def Fg(l:U Env):U Ac:=l.Ϗ (·.frame)
abbrev Cx.fs(X:Cx):U Ac:=Fg X.outer
def Pm(a:Scope)(x:Ae):V':=a.τ.X x=Z .ϔ\/a.τ.X x=Z .Ο\/a.τ.X x=Z .ϊ
def Loc(a:Scope)(x:Ae):V':=a.τ.X x=Z .ϔ\/a.τ.X x=Z .Ο
def nq(env:Env)(h:Al)(m:BP)(x:Ae)(u:Aa):V':=
 (env.gV x=Z .ϔ/\m x=Z u)\/((env.gV x=Z .Ο\/env.gV x=Z .ϊ)/\∃c,env.ϟ.X x=Z c/\h.IsCell c (Z u))
structure Cx.Ok(X:Cx):V' where
 mod:Mod X.K X.mg X.ω
 kind:X.C.Θ.g7=.Ϸ
 glob:X.C.globals=C4
 blt:X.C.builtins=builtinsNs
 above:X.s₀.u.L.y<=X.C.ϐ
 inj:∀x y c,X.C.ϟ.X x=Z c->X.C.ϟ.X y=Z c->x=y
 has:∀x,(X.C.gV x=Z .Ο\/X.C.gV x=Z .ϊ)->∃c,X.C.ϟ.X x=Z c
 cab:∀x c,X.fn x=J'->X.C.ϟ.X x=Z c->X.s₀.u.L.y<=c
 hd:X.Ϫ=J'->X.A.Ϝ=J
 frames:X.A.frames=Z X.ϛ
 stk:X.ϛ=X.outer\/(X.ϛ=X.C::X.outer/\X.C.frame=Z X.C.ϐ)
 exf:∀b∈X.ex,b≠X.C.ϐ/\∀x c,X.C.ϟ.X x=Z c->c≠b
 bs:∀b o,X.ω.U b=Z o->X.s₀.u.U b=Z o/\X.H₀ b=J
 bsz:X.ω.L.y<=X.s₀.u.L.y
 noex:∀b o,X.ω.U b=Z o->b∉X.ex
 exfs:∀b∈X.ex,b∉X.fs
 funs:X.s₀.u.Ϲ X.ω X.outer
 frf:∀b∈X.fs,X.H₀ b=J
structure Inv(X:Cx)(pins:A1)(I:List (Option V))(H:Hp)(s:Ab):V' where
 ok:X.Ok
 os:s.os=X.s₀.os
 bare:AllBare s.gens
 base:Un X.fs X.ex X.H₀ H X.s₀.u s.u
 loc:∃m,s.u.Ns X.C.ϐ m/\∀(i:Y) (x:Ae) (v:V),X.N[i]?=Z x->I[i]?=Z (Z v)->Pm X.C.Θ x->∃u,RelV v u/\nq X.C s.u m x u
 cell:∀x c,X.C.ϟ.X x=Z c->∃v,s.u.IsCell c v
 free:H X.C.ϐ=J
 freeC:∀x c,X.C.ϟ.X x=Z c->H c=J
 pin:∀p∈X.pn++pins,s.u.U p.1=Z p.2/\H p.1=J/\p.1≠X.C.ϐ/\p.1∉X.fs/\∀v,p.2.data≠.Ο v
 hok:CZ X.δ X.w H s.u
 len:I.a=X.N.a
variable {I:U (O V)}{s:Ab}{h':Al}
def
Cx.Ok.nofr(ok:X.Ok){b:Ac}{o:Obj}(e:X.ω.U b=Z o):b∉X.fs:=λa=>by
 have:=(ok.funs.mem a).1;simp_all
def
Inv.bs(a:Inv X pins I H s):∀b o,X.ω.U b=Z o->s.u.U b=Z o/\H b=J:=λb o e=>#[a.ω.keep b o (a.ok.bs b o e).1 (a.ok.bs b o e).2 (a.ok.nofr e)<|a.ok.noex b o e,a.ω.ϊ b o (a.ok.bs b o e).1 (a.ok.bs b o e).2<|a.ok.noex b o e]
def
Inv.bk(a:Inv X pins I H s):∀b o,X.ω.U b=Z o->s.u.U b=Z o:=λb o e=>(a.bs b o e).1
def
Inv.mod(a:Inv X pins I H s):Mod X.K X.mg X.ω:=a.ok.mod
def
Inv.kIn(a:Inv X pins I H s):X.K.In s.u:=a.ok.mod.kin.keeps a.bk
def
Inv.lt(b:Inv X pins I H s):X.C.ϐ<s.u.L.y:=let⟨_,a,_⟩:=b.loc;a.lt
def
Inv.sz(a:Inv X pins I H s):X.s₀.u.L.y<=s.u.L.y:=BN a.ok.above<|Nat.϶ a.lt
def
Inv.nofs(d:Inv X pins I H s)(h:s.u.L.y<=a):a∉X.fs:=λb=>by
 let(_,o,c,_):=d.ok.funs.mem b;show absurd (BM (BX c)<|BN d.sz h)<|Hz _
def
Inv.cne(i:Inv X pins I H s):∀x c,X.C.ϟ.X x=Z c->c≠X.C.ϐ:=λx c e z=>by
 let(v,o,d,hd):=i.Ο x c e;let(m,(f,g,h,a,b,_),_):=i.loc;simp_all
def
Inv.funs(m:Inv X pins I H s):s.u.Ϲ X.ω X.outer:=by
 let all:∀(l:U Env),(∀b∈Fg l,b∈X.fs)->X.s₀.u.Ϲ X.ω l->s.u.Ϲ X.ω l:=by
  intro l;induction l with|nil=>intro _ _;trivial|cons env r f=>
   intro d zQ;let(g,(L,o,a,h,i,hd),j):=zQ;let hL:L∈X.fs:=d L (by unfold Fg;rw[Ic,a];show Bb);let(k,e):=m.ω.ϓ L o i (m.ok.frf L hL) hL λz=>m.ok.exfs L z hL;show#[g,#[L,_,a,h,e,hd],f (λb c=>d b (by unfold Fg;rw[Ic,a];show Bk _ c)) j]
 show all X.outer (λ_ c=>c) m.ok.funs
def
Inv.stack(c:Inv X pins I H s):s.u.Ϲ X.ω X.ϛ:=by
 rcases c.ok.stk with e|⟨e,a⟩
 .rw[e];show c.funs
 .rw[e];let(m,b,_):=c.loc;show .Α (by rw[c.ok.g7];decide) a b (Heap.get?_none_of_le<|BN c.ok.bsz c.ok.above) c.funs
def
Inv.stkSub(d:Inv X pins I H s):∀b∈Fg X.ϛ,b∈X.C.ϐ::X.fs:=λb a=>by
 rcases d.ok.stk with e|⟨e,c⟩
 .rw[e]at a;show Bk _ a
 .rw[e]at a;unfold Fg at a;rw[Ic,c]at a;show a
def
Inv.stkFree(d:Inv X pins I H s):∀b∈Fg X.ϛ,H b=J:=λb a=>by
 rcases Bw.mp (d.stkSub b a)with e|a
 .rw[e];show d.ϊ
 .let(_,o,c,_):=d.ok.funs.mem a;show d.ω.ϊ b o c (d.ok.frf b a) λz=>d.ok.exfs b z a
def
Inv.step(P:Inv X pins I H s) (f:∀b∈ch,(b∈X.ex\/X.s₀.u.L.y<=b)/\b≠X.C.ϐ/\(∀x c,X.C.ϟ.X x=Z c->c≠b)/\∀p∈X.pn++pins,p.1≠b) (keep:∀b o,b≠X.C.ϐ->b∉X.fs->b∉ch->s.u.U b=Z o->H b=J->h'.U b=Z o) (slot:∀b o,b≠X.C.ϐ->b∈X.fs->b∉ch->s.u.U b=Z o->H b=J->∃G,h'.U b=Z {o with slots:=G}) (free:∀b o,b∉ch->s.u.U b=Z o->H b=J->H' b=J) (there:∀b o,b∉ch->s.u.U b=Z o->∃B,h'.U b=Z B) (tups:∀b xs,H b=Z (.S xs)->H' b=Z (.S xs)) (frzs:∀b o u,H b=Z (.frz o u)->H' b=Z (.frz o u)) (tbls:∀b ps,H b=Z (.tbl ps)->∃C,H' b=Z (.tbl (ps++C))) (ns:∀m,s.u.Ns X.C.ϐ m->h'.Ns X.C.ϐ m) (hok:CZ X.δ X.w H' h') (L:AllBare g'):Inv X pins I H' {s with heap:=h',gens:=g',drawn:=d',toks:=t' }:=by
 let j:∀b o,X.s₀.u.U b=Z o->b∉X.ex->b∉ch:=λb o e a y=>by
  rcases(f b y).1 with z|z
  .show a z
  .show absurd (BM (BX e) z)<|Hz _
 let g:∀x c,X.C.ϟ.X x=Z c->∀v,s.u.IsCell c v->h'.IsCell c v:=λx c e v ⟨o,A,hd⟩=>by
  let h:c∉ch:=λz=>(f c z).2.2.1 x c e rfl;by_cases hc:c∈X.fs
  .let(G,q):=slot c o (P.cne x c e) hc h A<|P.freeC x c e;show⟨_,q,hd⟩
  .show#[o,keep c o (P.cne x c e) hc h A<|P.freeC x c e,hd]
 apply#[P.ok,P.os,L,#[λb o e n y a=>?_,λb o e n y a=>?_,λb o e n a=>?_,λb o e a=>?_,λb xs e=>tups b xs<|P.base.tups b xs e,λb o xs e=>frzs b o xs<|P.base.frzs b o xs e,λb ps e=>?_],?_,λx c e=>?_,?_,λx c e=>?_,λp hp=>?_,hok,P.ϧ]
 .show keep b o ((λb o e=>Cq<|BM (BX e) P.ok.above) b o e) y (j b o e a) (P.ω.keep b o e n y a) (P.ω.ϊ b o e n a)
 .let(G,t):=P.ω.ϓ b o e n y a;let(F,E):=slot b _ ((λb o e=>Cq<|BM (BX e) P.ok.above) b o e) y (j b o e a) t (P.ω.ϊ b o e n a);show⟨F,E⟩
 .let(B,t):=P.ω.there b o e a;show free b B (j b o e a) t<|P.ω.ϊ b o e n a
 .let(B,t):=P.ω.there b o e a;show there b B (j b o e a) t
 .let(M,t):=P.ω.tbls b ps e;let(N,E):=tbls b _ t;show#[M++N,by rw[E,Array.append_assoc]]
 .let(m,K,Q):=P.loc;apply#[m,ns m K,λi x v t E T=>?_];let(u,r,l):=Q i x v t E T;apply#[u,r,?_];rcases l with l|⟨k,c,e,z⟩
  .show .O l
  .show .ρ #[k,c,e,g x c e _ z]
 .let(v,z):=P.Ο x c e;show#[v,g x c e v z]
 .let(m,(o,_,_,A,_),_):=P.loc;show free _ o (λz=>(f _ z).2.1 rfl) A P.ϊ
 .let(v,o,A,hd):=P.Ο x c e;show free c o (λz=>(f c z).2.2.1 x c e rfl) A (P.freeC x c e)
 .let(e,n,ne,nf,d):=P.pin p hp;let h:p.1∉ch:=λz=>(f p.1 z).2.2.2 p hp rfl;show#[keep p.1 p.2 ne nf h e n,free p.1 p.2 h e n,ne,nf,d]
def
Inv.un(p:Inv X pins I H s)(u:Un X.fs [] H H' s.u h')(hok:CZ X.δ X.w H' h'):Inv X pins I H' {s with heap:=h',toks:=t' }:=by
 let(m,(o,j,k,g,r),_):=id p.loc;let(l,hL):=u.any g p.ϊ (by simp);show p.Μ (g':=s.gens) (d':=s.drawn) (ch:=[]) (λ_ z=>nomatch z) (λb o _ c _ e n=>u.keep b o e n c (by simp)) (λb o _ c _ e n=>u.ϓ b o e n c (by simp)) (λb o _ e n=>u.ϊ b o e n (by simp)) (λb o _ e=>u.there b o e (by simp)) u.tups u.frzs u.tbls (λv h=>by
  let(x,d,f,a,i):=h;rw[g]at a;ext a;show#[_,d,f,hL,i]) hok p.bare
def
Inv.call(B:Inv X pins I H s)(u:Un (Fg X.ϛ) ch H H' s.u h')(hok:CZ X.δ X.w H' h')(i:AllBare g') (a:∀b∈ch,(b∈X.ex\/X.s₀.u.L.y<=b)/\b≠X.C.ϐ/\(∀x c,X.C.ϟ.X x=Z c->c≠b)/\∀p∈X.pn++pins,p.1≠b):Inv X pins I H' {s with heap:=h',gens:=g',drawn:=d',toks:=t' }:=by
 let(m,(o,q,t,h,r),_):=id B.loc;let(v,hL):=u.any h B.ϊ λz=>(a _ z).2.1 rfl;show B.Μ (ch:=ch) a (λb o hL j hc e n=>u.keep b o e n (λz=>(Bw.mp<|B.stkSub b z).elim hL j) hc) (λb o _ _ hc e n=>u.any e n hc) (λb o hc e n=>u.ϊ b o e n hc) (λb o hc e=>u.there b o e hc) u.tups u.frzs u.tbls (λy k=>by
  let(A,f,g,d,l):=k;rw[h]at d;ext d;show#[_,f,g,hL,l]) hok i
def
Inv.turned{it:Ac}(y:Inv X pins I H s)(k:∀b o,b≠it->s.u.U b=Z o->h'.U b=Z o)(d:H it=J)(hL:it≠X.C.ϐ) (f:it∈X.ex\/X.s₀.u.L.y<=it) (g:∀x c,X.C.ϟ.X x=Z c->c≠it) (h:∀p∈X.pn++pins,p.1≠it):Inv X pins I H {s with heap:=h',toks:=t' }:=by
 let a:∀b u,H b=Z u->b≠it:=λb u e z=>by rw[z,d]at e;ext e
 apply y.Μ (g':=s.gens) (d':=s.drawn) (ch:=[it]) (λb i=>?_) (λb o _ _ hc e _=>k b o (λz=>hc (by simp[z])) e) (λb o _ _ hc e _=>#[o.slots,k b o (λz=>hc (by simp[z])) e]) (λ_ _ _ _ n=>n)
  (λb o hc e=>#[o,k b o (λz=>hc (by simp[z])) e]) (λ_ _ e=>e) (λ_ _ _ e=>e) (λb C e=>#[(T' []),by rw[e];simp]) (λm j=>?_) (λb u e=>?_) y.bare
 .let e:b=it:=by exists i
  subst e;show#[f,hL,g,h]
 .let(o,l,t,w,r):=j;show#[o,l,t,k _ o (B8 hL) w,r]
 .refine(y.ϥ b u e).stay (λc v hc q=>k c v ?_ q) (λ_ q=>q) λ_ _ q=>q;rcases hc with z|z
  .rw[z];show a b u e
  .show a c _ z
def
Inv.tok(a:Inv X pins I H s)(t:Y):Inv X pins I H {s with toks:=t}:=a.un (h':=s.u) (t':=t) Un.σ a.ϥ
def
Inv.kept(a:Inv X pins I H s)(k:∀b u,s.u.U b=Z u->h'.U b=Z u):Inv X pins I H {s with heap:=h',toks:=t' }:=a.un (Un.ϭ k) (a.ϥ.ϭ k)
def
Inv.laid{o:HO}(c:Inv X pins I H s)(k:∀b u,s.u.U b=Z u->h'.U b=Z u)(hp:s.u.L.y<=a)(new:Bo X.δ X.w (AL H a o) h' a o):Inv X pins I (AL H a o) {s with heap:=h',toks:=t' }:=c.un (Un.laid k hp (c.ϥ.Ξ hp)) (c.ϥ.laid k hp new)
def
Inv.write{x e:Ac}{o:HO}(f:Inv X pins I H s)(c:Nl (H x))(d:e=x\/H e=Z (.φ x))(k:∀b u,b≠e->s.u.U b=Z u->h'.U b=Z u)(a:∃u,h'.U e=Z u) (new:Bo X.δ X.w (AL H x o) h' x o):Inv X pins I (AL H x o) {s with heap:=h',toks:=t' }:=f.un (Un.write c d k a) (f.ϥ.write c d k a new)
def
Inv.weak{a:U (O V)}(h:Inv X pins I H s)(c:a.a=I.a)(w:∀(i:Y) v,a[i]?=Z (Z v)->I[i]?=Z (Z v)):Inv X pins a H s:=#[h.ok,h.os,h.bare,h.ω,let⟨m,d,b⟩:=h.loc;#[m,d,λi x v e f g=>b i x v e (w i v f) g],h.Ο,h.ϊ,h.freeC,h.pin,h.ϥ,c.G h.ϧ]
def
Inv.pins_of{a:A1}(b:Inv X pins I H s)(h:∀p∈a,s.u.U p.1=Z p.2/\H p.1=J/\p.1≠X.C.ϐ/\p.1∉X.fs/\∀v,p.2.data≠.Ο v):Inv X a I H s:=#[b.ok,b.os,b.bare,b.ω,b.loc,b.Ο,b.ϊ,b.freeC,λp hp=>(C0.mp hp).Δ (λz=>b.pin p<|Ie _ z) (h p),b.ϥ,b.ϧ]
def
Ya{N:U Ae}(c:N.θ){i j:Y}{x:Ae}(a:N[i]?=Z x)(b:N[j]?=Z x):i=j:=by
 let(f,d):=Bp.mp a;let(g,e):=Bp.mp b;show(List.getElem_inj c).mp<|d.G e.Ζ
def
Yb{M:Model}{A:Ag}{i:Y}{x:Ae}{v:V}{Q:Unit->Ab->V'}(R:Inv X pins I H s)(hN:X.N.θ)(T:X.N[i]?=Z x)(t:Loc X.C.Θ x)(r:RelV v u) (h:∀s',Inv X pins (I.ξ i (Z v)) H s'->(∃a,Ex a s.u s'.u/\(a=X.C.ϐ\/X.C.ϟ.X x=Z a))->Q () s') (hf:X.fn x=J'\/X.C.Θ.τ.X x=Z .ϔ:=by first|show .O rfl|show .ρ rfl|assumption):wpAny M A (storeName X.C x u) Q E s:=by
 let(m,hn,hl):=id R.loc;let C:i<I.a:=R.ϧ ▸ (Bp.mp T).1;let g:∀{a:Ac} {h':Al},(∃o,s.u.U a=Z o/\H a=J)->Ex a s.u h'->CZ X.δ X.w H h':=λ{a h'} ha f b ob e=>by
  let(_,_,hfree):=ha;refine(R.ϥ b ob e).stay (λc w' hc q=>(f.2 c ?_).G q) (λ_ q=>q) λ_ _ q=>q;grind
 rcases t with G|G
 .apply wpAny_storeName_local G hn (λh' hn' f=>?_) (show(X.C.Θ.g7==.class||(X.env.scope.kind==.module&&X.env.locals != X.env.globals))=O' by rw[R.ok.kind];rfl);let(oL,_,_,hoL,_):=id hn;apply h _ #[R.ok,R.os,R.bare,#[λb o e n F t=>?_,λb o e n F t=>?_,R.ω.ϊ,λb o e t=>?_,R.ω.tups,R.ω.frzs,R.ω.tbls],#[_,hn',λj y v' l B e3=>?_],λy c e=>?_,R.ϊ,R.freeC,λp hp=>?_,g #[oL,hoL,R.ϊ] f,by exists R.ϧ] #[_,f,.O rfl]
  .show(f.2 b<|Cq<|BM (BX e) R.ok.above).G<|R.ω.keep b o e n F t
  .let(sl,l):=R.ω.ϓ b o e n F t;show#[sl,(f.2 b<|Cq<|BM (BX e) R.ok.above).G l]
  .let(o',l):=R.ω.there b o e t;show#[o',(f.2 b<|Cq<|BM (BX e) R.ok.above).G l]
  .by_cases L:j=i
   .subst L;rw[T]at l;ext l;rw[Fh C]at B;ext B;show#[u,r,.O #[G,by simp]]
   .rw[Dn<|B8 L]at B;let(u',r',q):=hl j y v' l B e3;apply#[u',r',?_];rcases q with⟨k,e⟩|⟨k,c,e,z⟩
    .apply .O #[k,?_];have:y≠x:=λe=>L<|Ya hN l<|e ▸ T;simp[this,e]
    .show .ρ #[k,c,e,z.sameBut f<|R.cne y c e]
  .let(w',z):=R.Ο y c e;show#[w',z.sameBut f<|R.cne y c e]
  .let(e,n,ne,nf,d):=R.pin p hp;show#[(f.2 p.1 ne).G e,n,ne,nf,d]
 .let K:X.fn x=J':=by
   rcases hf with z|z
   .show z
   .rw[z]at G;ext G
  let(c,hc):=R.ok.has x<|.inl G;let(w',z):=R.cell x c hc;apply wpAny_storeName_cell R.ok.kind G hc z<|λh' P f=>?_;let(oc,hoc,hocd):=id z;apply h {s with heap:=h' } #[R.ok,R.os,R.bare,#[λb o e n F t=>?_,λb o e n F t=>?_,R.ω.ϊ,λb o e t=>?_,R.ω.tups,R.ω.frzs,R.ω.tbls],#[m,hn.sameBut f (B8 (R.cne x c hc)),λj y v' l B e3=>?_],λy c' e=>?_,R.ϊ,R.freeC,λp hp=>?_,g #[oc,hoc,R.freeC x c hc] f,by exists R.ϧ] #[c,f,.ρ hc]
  .show(f.2 b<|Cq<|BM (BX e)<|R.ok.cab x c K hc).G<|R.ω.keep b o e n F t
  .let(sl,l):=R.ω.ϓ b o e n F t;show#[sl,(f.2 b<|Cq<|BM (BX e)<|R.ok.cab x c K hc).G l]
  .let(o',l):=R.ω.there b o e t;show#[o',(f.2 b<|Cq<|BM (BX e)<|R.ok.cab x c K hc).G l]
  .by_cases L:j=i
   .subst L;rw[T]at l;ext l;rw[Fh C]at B;ext B;show#[u,r,.ρ #[.O G,c,hc,P]]
   .rw[Dn<|B8 L]at B;let(u',r',q):=hl j y v' l B e3;apply#[u',r',?_];rcases q with q|⟨k,c',e,z'⟩
    .show .O q
    .apply .ρ #[k,c',e,z'.sameBut f ?_];rintro rfl;show L<|Ya hN l<|R.ok.inj _ _ _ e hc ▸ T
  .by_cases Y':c'=c
   .subst Y';show#[_,P]
   .let(w2,z2):=R.Ο y c' e;show#[w2,z2.sameBut f Y']
  .let(e,n,ne,nf,d):=R.pin p hp;apply#[(f.2 p.1 ?_).G e,n,ne,nf,d];grind
def
Yc{M:Model}{A:Ag}{i:Y}{x:Ae}{v:V}{Q:Unit->Ab->V'}(g:Inv X pins I H s)(b:X.N.θ)(c:X.N[i]?=Z x)(d:Loc X.C.Θ x)(r:RelV v u) (h:∀a,Inv X pins (I.ξ i (Z v)) H a->Q () a) (e:X.fn x=J'\/X.C.Θ.τ.X x=Z .ϔ:=by first|show .inl rfl|show .inr rfl|assumption):wpAny M A (storeName X.env x u) Q E s:=Yb g b c d r (λa f _=>h a f) e
def
Inv.call'{a:Ab}(k:Inv X pins I H s)(h:a.os=s.os)(u:Un (Fg X.ϛ) ch H H' s.u a.u)(hok:CZ X.δ X.w H' a.u)(i:AllBare a.gens) (d:∀b∈ch,(b∈X.ex\/X.s₀.u.L.y<=b)/\b≠X.C.ϐ/\(∀x c,X.C.ϟ.X x=Z c->c≠b)/\∀p∈X.pn++pins,p.1≠b):Inv X pins I H' a:=by
 let(h',e,f,g,j):=a;subst h;show k.call (g':=e) (t':=g) (d':=f) u hok i d
end
abbrev XK:=Aa->O Ac->Hp->V'
abbrev St:=U (O V)
variable{I:St}
abbrev VK:=V->Hp->V'
variable{Q:VK}
abbrev TE:=St->Hp->VK->V'
variable{ta tb te:TE}
abbrev TT:=St->Hp->(j'->Hp->V')->V'
abbrev TA:=St->Hp->(U V->Hp->V')->V'
structure Ends where
 nx:St->Hp->V'
 rt:VK
 bk:St->Hp->V':=λ_ _=>False
 ct:St->Hp->V':=λ_ _=>False
variable{D':Ends}
abbrev TS:=Ends->St->Hp->V'
def EP(X:Cx)(a:A1)(I:St)(Q:VK)(u:Aa)(c:Ab):V':=∃v b,Inv X a I b c/\RelV v u/\Q v b
def TP(X:Cx)(a:A1)(I:St)(Q:j'->Hp->V')(b:j')(d:Ab):V':=∃c,Inv X a I c d/\Q b c
def AP(X:Cx)(a:A1)(I:St)(Q:U V->Hp->V')(us:U Aa)(d:Ab):V':=∃b c,Inv X a I c d/\Ap b us/\Q b c
def SP(X:Cx)(b:A1)(D:Ends)(f:Flow)(d:Ab):V':=
 match f with
 |.next=>∃a c,Inv X b a c d/\D.nx a c
 |.brk=>∃a c,Inv X b a c d/\D.bk a c
 |.cont=>∃a c,Inv X b a c d/\D.ct a c
 |.ret u=>∃v a c,Inv X b a c d/\RelV v u/\D.rt v c
def PE(X:Cx)(e:Expr)(t:TE):V':=
 ∀(a:A1) (s:Ab) (b:St) (H:Hp) (Q:VK),Inv X a b H s->t b H Q->wpAny (Ah X.δ X.w) X.A (Aq e X.C) (EP X a b Q) X.xe s
def PT(X:Cx)(e:Expr)(t:TT):V':=
 ∀(a:A1) (s:Ab) (b:St) (H:Hp) (Q:j'->Hp->V'),Inv X a b H s->t b H Q->wpAny (Ah X.δ X.w) X.A (isTrue e X.C (Aq e X.C)) (TP X a b Q) X.xe s
def PW(X:Cx)(e:Expr)(t:TT):V':=
 ∀(b:Sem Aa) (a:A1) (s:Ab) (c:St) (H:Hp) (Q:j'->Hp->V'),Inv X a c H s->t c H Q->wpAny (Ah X.δ X.w) X.A (isTrue e X.C b) (TP X a c Q) X.xe s
def
PW.pt{e:Expr}{t:TT}(h:PW X e t):PT X e t:=h _
def PA(X:Cx)(es:U Expr)(t:TA):V':=
 ∀(b:AC) (a:A1) (s:Ab) (c:St) (H:Hp) (Q:U V->Hp->V'),Inv X a c H s->t c H Q->wpAny (Ah X.δ X.w) X.A (spliced (AA b (AH es X.C))) (AP X a c Q) X.xe s
def PS(X:Cx)(st:AE)(t:TS):V':=
 ∀(a:A1) (s:Ab) (b:St) (H:Hp) (D:Ends),Inv X a b H s->t D b H->wpAny (Ah X.δ X.w) X.A (exec st X.C) (SP X a D) X.xe s
def E5(X:Cx)(st:U AE)(t:TS):V':=
 ∀(a:A1) (s:Ab) (b:St) (H:Hp) (D:Ends),Inv X a b H s->t D b H->wpAny (Ah X.δ X.w) X.A (execs st X.C) (SP X a D) X.xe s
def
Ba{b:Type}{t:Sem b}{Q c:b->Ab->V'}{M:Model}{A:Ag}{s:Ab}(h:wpAny M A t Q E s)(d:∀a s,Q a s->c a s):wpAny M A t c E s:=wpAny_mono h d λ_ _ x=>x
section
def Yd(i:Y):TE:=λa H Q=>∃v,a[i]?=Z (Z v)/\Q v H
def tC(v:V):TE:=λ_ H Q=>Q v H
def
nr{i:Y}{x:Ae}(g:X.N[i]?=Z x)(hv:Pm X.C.Θ x)(hd:Ew x:=by ext)(d:(x==("__classdict__":Ae))=O':=by ext):PE X (.β x pos) (Yd i):=by
 intro f s o H Q p h;let(v,e,h):=h;let(m,j,k):=p.loc;let(u,r,l):=k i x v g e hv;rcases l with⟨b,n⟩|⟨b,c,hc,a⟩
 .show wpAny_Name (wpAny_loadName_local p.ok.g7 b j n #[v,H,p,r,h]) hd
 .rcases b with b|b
  .show wpAny_Name (wpAny_loadName_cell p.ok.g7 b hc a #[v,H,p,r,h]) hd
  .show wpAny_Name (wpAny_loadName_free p.ok.g7 b hc a #[v,H,p,r,h] d) hd
def
nt {i j pos}:PE X (.ϙ (.o i) j pos) (tC (.o i)):=λ_ _ _ H _ a h=>wpAny_Constant_int #[.o i,H,a.tok _,#[_,rfl],h]
def
nu {b j pos}:PE X (.ϙ (.Ϡ b) j pos) (tC (.bl b)):=λ_ _ _ H _ a h=>Constant_bool #[.bl b,H,a,rfl,h]
def
nv {j pos}:PE X (.ϙ .Η j pos) (tC .κ):=λ_ _ _ H _ a h=>Constant_none #[.κ,H,a,rfl,h]
def
ny {x j pos}:PE X (.ϙ (.Ι x) j pos) (tC (.Ι x)):=λ_ _ _ H _ a h=>Calls.Constant_str #[.Ι x,H,a.tok _,#[_,rfl],h]
def Gl(X:Cx)(x:Ae):V':=X.C.gV x=Z .globalImplicit
def
SM{a:A1}{s:Ab}{x:Ae}{Q:AR}(d:Inv X a I H s)(b:Gl X x)(c:X.mg x=Z u)(h:Q u s) (hd:Ew x:=by ext):wpAny (Ah X.δ X.w) X.A (Aq (.β x pos) X.C) Q E s:=Calls.Name_function_global d.ok.g7 b (Calls.loadGlobal_global (d.ok.glob ▸ d.mod.glob.keeps d.bk) c h) hd
def
Ig{a:A1}{s:Ab}{x:Ae}{Q:AR}(i:Inv X a I H s)(b:Gl X x)(c:X.mg x=J)(hv:Fs x=Z u)(h:Q u s) (d:x≠"__name__":=by ext) (hd:Ew x:=by ext):wpAny (Ah X.δ X.w) X.A (Aq (.β x pos) X.C) Q E s:=by
 let(g,e,f):=i.mod.blt;show Calls.Name_function_global i.ok.g7 b (Calls.loadGlobal_builtin (i.ok.glob ▸ i.mod.glob.keeps i.bk) c (i.ok.blt ▸ e.keeps i.bk) ((f x d).G hv) h) hd
def
Ye{x:Ae}{v:V}(a:Gl X x)(b:X.mg x=Z u)(r:RelV v u)(hd:Ew x:=by ext):PE X (.β x pos) (tC v):=λ_ _ _ H _ c h=>SM c a b #[v,H,c,r,h] hd
def
nz{x:Ae}{v:V}(a:Gl X x)(b:X.mg x=J)(hv:Fs x=Z u)(r:RelV v u)(c:x≠"__name__":=by ext)(hd:Ew x:=by ext):PE X (.β x pos) (tC v):=λ_ _ _ H _ d h=>Ig d a b hv #[v,H,d,r,h] c hd
variable{a b:Expr}
def PC(X:Cx)(op:CmpOp)(a b:Expr)(t:TE):V':=
 ∀(c:A1) (s:Ab) (f:St) (H:Hp) (Q:VK),Inv X c f H s->t f H Q ->
  wpAny (Ah X.δ X.w) X.A (Aq a X.C) (λv d=>wpAny (Ah X.δ X.w) X.A (Aq b X.C) (λu e=>wpAny (Ah X.δ X.w) X.A (DT op v u) (EP X c f Q) X.xe e) X.xe d) X.xe s
def
G9(b:Expr){op:CmpOp}(h:op≠.In)(a:op≠.NotIn):Gw op b=O':=by
 cases b with
 |Set _ k _=>
  show(k==0&&(op==.In||op==.NotIn)&&_)=O'
  rw[beq_false_of_ne h,beq_false_of_ne a];simp
 |_=>rfl
def nA(ta:TE):TE:=λa H Q=>ta a H λx b=>Q (.bl (decide (x=.κ))) b
def nB(ta:TE):TE:=λa H Q=>ta a H λx b=>Q (.bl (!decide (x=.κ))) b
def
RelV.none_iff{x:V}{v:Aa}(r:RelV x v):(v==Value.Η)=decide (x=.κ):=by
 cases x with
 |non=>ext r;rfl
 |bl _=>ext r;rfl
 |int _=>let(t,rfl):=r;rfl
 |str _=>let(t,rfl):=r;rfl
 |ref _=>ext r;rfl
 |ty _=>ext r;rfl
def
Yf {j b} (d:PE X a ta):PC X .Is a (.ϙ .Η j b) (nA ta):=by
 intro c s e H Q n h;apply Ba (d c s e H _ n h) λv m f=>?_;let(x,g,i,k,l):=f;show Constant_none<|is_none_gen ⟨.bl _,g,i,by rw[k.none_iff];rfl,l⟩
def
nC {j b} (d:PE X a ta):PC X .IsNot a (.ϙ .Η j b) (nB ta):=by
 intro c s e H Q n h;apply Ba (d c s e H _ n h) λv m f=>?_;let(x,g,i,k,l):=f;show Constant_none<|isnot_none_gen ⟨.bl _,g,i,by rw[k.none_iff];rfl,l⟩
def tB(t:TE):TT:=λa H Q=>t a H λx b=>∃c,x=.bl c/\Q c b
def
nE{op:CmpOp}{t:TE}(h:PC X op a b t)(d:Gw op b=O':=by first|show G9 _ (by ext) (by ext)|rfl):PE X (.Compare a [op] [b] pos) t:=λc s e H Q g f=>wpAny_Compare1 (h c s e H Q g f) d
def
Yg{op:CmpOp}{t:TE}(h:PC X op a b t)(f:Gw op b=O':=by first|show G9 _ (by ext) (by ext)|rfl):PT X (.Κ a [op] [b] pos) (tB t):=by
 intro e s g H Q w i;apply wpAny_isTrue_Compare1 (Ba (h e s g H _ w i) λv o f=>Ba f λu p j=>Ba j λc r k=>?_) f;let(x,l,m,n,d,rfl,q):=k;ext n;show IQ #[l,m,q]
def
nG{e:Expr}{t:TE}(h:PE X e t)(c:∀a,isTrue e X.C a=(do let v <- a;standAt e.pos;D1 [v] (truthy v)):=by intro _;rfl):PT X e (tB t):=by
 intro b s f H Q n g;apply isTrue_plain (Ba (h b s f H _ n g) λv m i=>?_) (c _);let(x,j,k,l,d,rfl,q):=i;ext l;show IQ #[j,k,q]
variable{tA B9:TT}{AF:U Expr}
def Yh(t u:TT):TT:=λa H Q=>t a H λc b=>if c=J' then u a b Q else Q O' b
def Yi(t u:TT):TT:=λa H Q=>t a H λc b=>if c=J' then Q J' b else u a b Q
def nH(t:TT):TT:=λa H Q=>t a H λc b=>Q (!c) b
def
nI(d:PT X a tA):PW X (.ϑ .And [a] pos) tA:=by
 intro wh b s f H Q i h;apply isTrue_and<|Ba (d b s f H Q i h) λc g e=>?_;cases c with
 |true=>show isTrue_and_nil e
 |false=>show e
def
nJ(d:PT X a tA):PW X (.ϑ .Or [a] pos) tA:=by
 intro wh b s f H Q i h;apply isTrue_or<|Ba (d b s f H Q i h) λc g e=>?_;cases c with
 |false=>show isTrue_or_nil e
 |true=>show e
def
nK(j:PT X a tA)(k:PW X (.ϑ .And (b::AF) pos) B9):PW X (.ϑ .And (a::b::AF) pos) (Yh tA B9):=by
 intro wh d s e H Q m h;apply isTrue_and<|Ba (j d s e H _ m h) λc l ⟨f,g,i⟩=>?_;cases c with
 |true=>show k wh d l e f Q g i
 |false=>show#[f,g,i]
def
nM(j:PT X a tA)(k:PW X (.ϑ .Or (b::AF) pos) B9):PW X (.ϑ .Or (a::b::AF) pos) (Yi tA B9):=by
 intro wh d s e H Q m h;apply isTrue_or<|Ba (j d s e H _ m h) λc l ⟨f,g,i⟩=>?_;cases c with
 |true=>show#[f,g,i]
 |false=>show k wh d l e f Q g i
def
Yj(d:PT X a tA):PT X (.UnaryOp .Not a pos) (nH tA):=by
 intro b s e H Q g h;show isTrue_not<|d b s e H (λc f=>Q (!c) f) g h
def nN(ta tb:TE):TE:=λa H Q=>ta a H λx b=>∃c,x=.bl c/\if c=J' then tb a b Q else Q (.bl O') b
def nO(ta tb:TE):TE:=λa H Q=>ta a H λx b=>∃c,x=.bl c/\if c=J' then Q (.bl J') b else tb a b Q
def nP(ta:TE):TE:=λa H Q=>ta a H λx b=>∃c,x=.bl c/\Q (.bl (!c)) b
def
nQ {op} {t:TE} (h:PE X a t):PE X (.ϑ op [a] pos) t:=λb s c H Q e d=>BoolOp_one<|h b s c H Q e d
def
nR(j:PE X a ta)(k:PE X (.ϑ .And (b::AF) pos) tb):PE X (.ϑ .And (a::b::AF) pos) (nN ta tb):=by
 intro d s f H Q o h;apply BoolOp_and<|Ba (j d s f H _ o h) λv l m=>?_;let(x,g,i,n,e):=m;let(c,rfl,e):=e;ext n;apply IQ ?_;cases c with
 |true=>show k d l f g Q i e
 |false=>show#[.bl O',g,i,rfl,e]
def
nS(j:PE X a ta)(k:PE X (.ϑ .Or (b::AF) pos) tb):PE X (.ϑ .Or (a::b::AF) pos) (nO ta tb):=by
 intro d s f H Q o h;apply BoolOp_or<|Ba (j d s f H _ o h) λv l m=>?_;let(x,g,i,n,e):=m;let(c,rfl,e):=e;ext n;apply IQ ?_;cases c with
 |false=>show k d l f g Q i e
 |true=>show#[.bl J',g,i,rfl,e]
def
nT(e:PE X a ta):PE X (.UnaryOp .Not a pos) (nP ta):=by
 intro b s f H Q m h;apply UnaryOp_<|Ba (e b s f H _ m h) λv l g=>?_;let(x,i,j,k,d):=g;let(c,rfl,d):=d;ext k;show not_of<|IQ ⟨.bl<|!c,i,j,rfl,d⟩
def nU(t:TT)(ta tb:TE):TE:=λa H Q=>t a H λc b=>if c=J' then ta a b Q else tb a b Q
def
nV{c:Expr}(hc:PT X c tA)(l:PE X a ta)(m:PE X b tb):PE X (.IfExp c a b pos) (nU tA ta tb):=by
 intro e s f H Q n h;apply wpAny_IfExp<|Ba (hc e s f H _ n h) λd g ⟨i,j,k⟩=>?_;cases d with
 |true=>show l e g f i Q j k
 |false=>show m e g f i Q j k
end
def Ca(K:Ao)(H:Hp)(a:Ac)(xs:U V):V':=
 Rd H a (.R xs) \/
  ∃(o:Obj) (b:Array Aa) (n:Y),K.X a=Z o/\o.cls=.ι "list"/\o.dict=J/\o.data=.ϴ b n/\b.y<=Av/\Ap xs b.α
def Ck(K:Ao)(H:Hp)(a:Ac)(xs:U V):V':=
 Rd H a (.S xs) \/
  ∃(o:Obj) (b:Array Aa) (n:Y),K.X a=Z o/\o.cls=.ι "tuple"/\o.data=.ϴ b n/\b.y<=Av/\Ap xs b.α
def nW:Aa->O V
 |.none=>Z .κ
 |.bool b=>Z (.bl b)
 |.int i _=>Z (.o i)
 |.str x _=>Z (.Ι x)
 |.ref a=>Z (.I a)
 |.type n=>Z (.ty n)
 |_=>J
def
RelV.abs{x:V}(r:RelV x u):nW u=Z x:=by
 cases x with
 |non=>ext r;rfl
 |bl _=>ext r;rfl
 |int _=>let(t,rfl):=r;rfl
 |str _=>let(t,rfl):=r;rfl
 |ref _=>ext r;rfl
 |ty _=>ext r;rfl
def
RelV.inj{x y:V}(r:RelV x u)(q:RelV y u):x=y:=E6<|r.abs.Ζ.G q.abs
def
Ap.inj{xs:U V}{us:U Aa}(h:Ap xs us)(g:Ap ys us):xs=ys:=by
 induction h generalizing ys with|nil=>ext g;rfl|cons r _ a=>
  cases g with
  |cons q t=>rw[r.inj q,a t]
variable {s:Ab}{xs:U V}
def
Ck.of{K:Ao}(h:H a=Z (.S xs)):Ck K H a xs:=.O<|.O h
def
Inv.list(f:Inv X pins I H s)(h:Ca X.K H a xs):∃b:U Aa,Ap xs b/\PlainL s.u a b.E/\xs.a<=Av:=by
 rcases h with h|⟨o,b,n,c,hc,hd,d,hz,r⟩
 .let(z,b,n,r,e):=h.ok f.ϥ;show#[b,r,#[_,n,e,rfl,rfl,rfl],z]
 .apply#[b.α,r,#[o,n,f.kIn a o c,hc,hd,by exists d],?_];let e:=r.a;erw[SN]at e;lia
def
Inv.tuple(f:Inv X pins I H s)(h:Ck X.K H a xs):∃b:U Aa,Ap xs b/\IsTup s.u a b.E/\xs.a<=Av:=by
 rcases h with h|⟨o,b,n,c,hc,d,hz,r⟩
 .let(z,b,r,p):=h.ok f.ϥ;show#[b,r,p,z]
 .apply#[b.α,r,#[o,f.kIn a o c,hc,n,by exists d],?_];let e:=r.a;erw[SN]at e;lia
def
Inv.list_inj(m:Inv X pins I H s)(h:Ca X.K H a xs)(h':Ca X.K H a ys):xs=ys:=by
 let(c,r,(o,n,e,_,_,d),_):=m.Ϥ h;let(b,i,(k,l,f,_,_,g),_):=m.Ϥ h';rw[e]at f;ext f;rw[d]at g;injection g with j _
 have:c=b:=by exists congrArg Array.α j
 subst this;show r.inj i
def
Inv.tuple_inj(m:Inv X pins I H s)(h:Ck X.K H a xs)(h':Ck X.K H a ys):xs=ys:=by
 let(c,r,(o,e,_,n,d),_):=m.ϒ h;let(b,i,(k,f,_,l,g),_):=m.ϒ h';rw[e]at f;ext f;rw[d]at g;injection g with j _
 have:c=b:=by exists congrArg Array.α j
 subst this;show r.inj i
end
abbrev Cx.wish(X:Cx)(E:AR):Cx:={X with xe:=E}
abbrev Cx.nox(X:Cx):Cx:=X.wish λ_ _=>False
def
Cx.Ok.wish(ok:X.Ok)(E:AR):(X.wish E).Ok:=#[ok.mod,ok.g7,ok.glob,ok.blt,ok.above,ok.inj,ok.has,ok.cab,ok.hd,ok.frames,ok.stk,ok.exf,ok.bs,ok.bsz,ok.noex,ok.exfs,ok.funs,ok.frf]
def
Cx.Ok.unwish(ok:(X.wish E).Ok):X.Ok:=#[ok.mod,ok.g7,ok.glob,ok.blt,ok.above,ok.inj,ok.has,ok.cab,ok.hd,ok.frames,ok.stk,ok.exf,ok.bs,ok.bsz,ok.noex,ok.exfs,ok.funs,ok.frf]
variable {s:Ab}
def
Inv.wish(a:Inv X pins I H s)(E:AR):Inv (X.wish E) pins I H s:=#[a.ok.wish E,a.os,a.bare,a.ω,a.loc,a.Ο,a.ϊ,a.freeC,a.pin,a.ϥ,a.ϧ]
def
Inv.unwish(a:Inv (X.wish E) pins I H s):Inv X pins I H s:=#[a.ok.unwish,a.os,a.bare,a.ω,a.loc,a.Ο,a.ϊ,a.freeC,a.pin,a.ϥ,a.ϧ]
def
SP.unwish{D:Ends}{f:Flow}{c:Ab}(h:SP (X.wish E) pins D f c):SP X pins D f c:=by
 cases f with
 |next=>let(a,b,d,q):=h;show#[a,b,d.unwish,q]
 |brk=>let(a,b,d,q):=h;show#[a,b,d.unwish,q]
 |cont=>let(a,b,d,q):=h;show#[a,b,d.unwish,q]
 |ret u=>let(v,a,b,d,r,q):=h;show#[v,a,b,d.unwish,r,q]
def
E5.nox{st:U AE}{t:TS}(h:E5 X.nox st t):E5 X st t:=λpins s I H D b a=>wpAny_mono (h pins s I H D (b.wish _) a) (λ_ _ q=>q.unwish) λ_ _ z=>B6 z
end
variable {st:AE}{AF:U AE}{t u:TS}{e:Expr}
def nX:TS:=λD a H=>D.nx a H
def nY(t u:TS):TS:=λD a H=>t {D with nx:=u D} a H
def
ET:E5 X [] nX:=λ_ _ a H _ b h=>wpAny_execs_nil #[a,H,b,h]
def
SO(c:PS X st t)(d:E5 X AF u):E5 X (st::AF) (nY t u):=by
 intro a s e H D k h;apply wpAny_execs_cons<|Ba (c a s e H {D with nx:=u D} k h) λf g q=>?_;cases f with
 |next=>
  let(b,i,j,q):=q;show d a g b i D j q
 |ret v=>show q
 |brk=>show q
 |cont=>show q
def
Inv.quiet{a:A1}{s:Ab}(b:Inv X a I H s):interactive X.C=O':=by simp[interactive,b.ok.kind]
def nZ(te:TE):TS:=λD a H=>te a H λ_ b=>D.nx a b
def
Pn(c:PE X e te)(d:Ey e J pos.ϡ X.C=Ax O':=by rfl):PS X (.Expr e pos) (nZ te):=by
 intro a s b H D l h;show wpAny_Expr_any (Ba (c a s b H _ l h) λv j ⟨x,f,g,k,i⟩=>#[b,f,g,i]) l.quiet d
def og(te:TE):TS:=λD a H=>te a H D.rt
def
Po(c:PE X e te):PS X (.Return (Z e) pos) (og te):=by
 intro a s b H D k h;show wpAny_Return_some<|Ba (c a s b H _ k h) λv j ⟨x,d,f,g,i⟩=>#[x,b,d,f,g,i]
def oh(c:TT)(t u:TS):TS:=λD a H=>c a H λb d=>if b=J' then t D a d else u D a d
def
Pp{c:Expr}{a b:U AE}{g:TT}(hc:PT X c g)(m:E5 X a t)(n:E5 X b u):PS X (.If c a b pos) (oh g t u):=by
 intro e s f H D o h;apply wpAny_If<|Ba (hc e s f H _ o h) λd i ⟨j,k,l⟩=>?_;cases d with
 |true=>show m e i f j D k l
 |false=>show n e i f j D k l
def oi:TS:=λ_ _ _=>False
def
HA:PS X st oi:=λ_ _ _ _ _ _ h=>h.Δ
end
abbrev TG:=V->St->Hp->(St->Hp->V')->V'
abbrev IR:=U V->St->Hp->(St->Hp->V')->V'
def PG(X:Cx)(a:Expr)(t:TG):V':=
 ∀(b:A1) (s:Ab) (d:St) (H:Hp) (v:V) (u:Aa) (Q:St->Hp->V'),Inv X b d H s->RelV v u->t v d H Q ->
  wpAny (Ah X.δ X.w) X.A (BC a X.C u) (λ_ f=>∃c e,Inv X b c e f/\Q c e) X.xe s
def Nm(X:Cx)(g:U Expr)(t:IR):V':=
 ∀(a:A1) (s:Ab) (c:St) (H:Hp) (d:U V) (e:U Aa) (Q:St->Hp->V'),Inv X a c H s->Ap d e->t d c H Q ->
  wpAny (Ah X.δ X.w) X.A (assignInOrder ((Ef g X.C).j (·.2)) e) (λ_ h=>∃b f,Inv X a b f h/\Q b f) X.xe s
abbrev Pq:=V->V->V->Hp->(Hp->V')->V'
def SQ(X:Cx)(t:Pq):V':=
 ∀(a:A1) (s:Ab) (b:St) (H:Hp) (o i v:V) (c d u:Aa) (Q:Hp->V'),Inv X a b H s->RelV o c->RelV i d->RelV v u->t o i v H Q ->
  wpAny (Ah X.δ X.w) X.A (setItem c d u) (λ_ f=>∃e,Inv X a b e f/\Q e) X.xe s
section
def Ih(i:Y):TG:=λv a H Q=>Q (a.ξ i (Z v)) H
def
Nn{i:Y}{x:Ae}(b:X.N.θ)(c:X.N[i]?=Z x)(d:Loc X.C.Θ x)(e:X.fn x=J'\/X.C.Θ.τ.X x=Z .ϔ:=by first|show .O rfl|show .ρ rfl|assumption):PG X (.β x pos) (Ih i):=by
 intro a s g H v u Q k r h;show wpAny_assign_Name<|Yc k b c d r (λj f=>#[_,H,f,h]) e
def Yk:IR:=λa b H Q=>a=[]/\Q b H
def Pr(t:TG)(u:IR):IR:=λb c H Q=>∃v r,b=v::r/\t v c H λa d=>u r a d Q
def
Yl:Nm X [] Yk:=by
 intro a s b H c d Q e r h;let(rfl,h):=h;ext r;show assignInOrder_nil #[b,H,e,h]
def
Ps{e:Expr}{t:TG}{u:IR}(c:PG X e t)(d:Nm X es u) (f:(Ef (e::es) X.C).j (·.2)=BC e X.C::(Ef es X.C).j (·.2):=by rfl):Nm X (e::es) (Pr t u):=by
 intro a s g H o p Q w r h;let(v,q,rfl,h):=h;cases r with
 |cons r i=>
  rw[f];apply assignInOrder_cons<|Ba (c a s g H _ _ _ w r h) λ_ j k=>?_;let(b,l,m,n):=k;show d a j b l _ _ Q m i n
def Ym(K:Ao)(n:Y)(t:IR):TG:=λv c H Q=>∃a b,v=.I a/\Ck K H a b/\b.a=n/\t b c H Q
def
Yn{k:Y}{t:IR}{n:Y}(hc:X.Ϫ=J')(h:Nm X es t) (i:(Ef es X.C).a=n:=by rfl) (d:(Ef es X.C).findIdx? (·.1)=J:=by rfl):PG X (.ϫ es k pos) (Ym X.K n t):=by
 intro c s j H v u Q z r f;let(a,l,rfl,m,p,f):=f;ext r;let(q,g,w,hz):=z.ϒ m;show assign_Tuple_tuple (z.ok.hd hc) w (by simp[i,<- p,g.length]) d λy x=>h c _ j H l _ Q (z.ϭ (t':=s.Ε) λb o e=>x b o (Cq<|BX e) e) (by exists g) f
def oj(to b:TE)(t:Pq):TG:=λv a H Q=>to a H λo c=>b a c λi d=>t o i v d λe=>Q a e
def
Pt{i:Expr}{to f:TE}{t:Pq}(g:PE X o to)(j:PE X i f)(k:SQ X t) (F:∀v,BC (.μ o i pos) X.C v=(do
   let b <- D1 [v] (Aq o X.C);let c <- D1 [v,b] (Aq i X.C);standAt pos
   D1 [v,b,c] (setItem b c v)
   release [v,b,c] []):=by intro _;rfl):PG X (.μ o i pos) (oj to f t):=by
 intro a s d H v u Q K r h;apply An<|F2<|Ba (g a s d H _ K h) λb l e=>?_;let(x,m,n,p,q):=e;apply An<|F2<|Ba (j a l d m _ n q) λc w e=>?_;let(y,z,A,B,C):=e;show An<|wpAny_standAt<|An<|F2<|Ba (k a w d z x y v b c u _ A p B r C) λ_ L ⟨E,G,q3⟩=>wpAny_release #[d,E,G,q3]
def L4(b:TE)(g:TG):TS:=λD a H=>b a H λx c=>g x a c D.nx
def
No{b e:Expr}{c:TE}{g:TG}(f:PE X e c)(i:PG X b g)(j:Np [b] e pos.ϡ X.C=Ax O':=by rfl)(k:Nq [b] e X.C=Ax J:=by rfl) (l:(Ef [b] X.C).j (·.2)=[BC b X.C]:=by rfl):PS X (.ϩ [b] e pos) (L4 c g):=by
 intro a s d H D w h;apply wpAny_Assign_stores (Ba (f a s d H _ w h) λv m n=>?_) j k;let(x,o,p,r,t):=n;rw[l];show Ba (i a m d o x v _ p r t) λ_ u q=>q
def
Nr{i:Y}{x:Ae}{e:Expr}{c:TE}{a:AC}(d:X.N.θ)(f:X.N[i]?=Z x)(g:Loc X.C.Θ x)(j:PE X e c)(k:Ey e (Z (.β x a)) pos.ϡ X.C=Ax O':=by rfl)(l:X.fn x=J'\/X.C.Θ.τ.X x=Z .ϔ:=by first|show .O rfl|show .ρ rfl|assumption):PS X (.ϩ [.β x a] e pos) (L4 c (Ih i)):=by
 intro b s m H D z h;apply wpAny_Assign_Name (Ba (j b s m H _ z h) λv u n=>?_) k;let(y,o,p,q,r):=n;show Yc p d f g q (λw t=>#[_,o,t,r]) l
end
structure It where
 go:Y->Hp->V'
 yld:Y->Hp->V->Hp->V'
 stop:Y->Hp->V'
def Gx(X:Cx)(a:A1)(H:Hp)(b:Ac):V':=
 H b=J/\b≠X.C.ϐ/\b∉X.fs/\(b∈X.ex\/X.s₀.u.L.y<=b)/\(∀x c,X.C.ϟ.X x=Z c->c≠b)/\∀p∈X.pn++a,p.1≠b
def
Inv.fpOk{a:A1}{s:Ab}{b:Ac}(g:Inv X a I H s)(d:s.u.L.y<=b)(f:H' b=J):Gx X a H' b:=by
 apply#[f,Ii<|BM g.lt d,g.nofs d,.inr<|BN g.sz d,λx c e z=>?_,λp hp z=>?_]
 .let(v,q):=g.Ο x c e;show absurd (BM q.lt<|z ▸ d)<|Hz _
 .show absurd (BM (BX (g.pin p hp).1)<|z ▸ d)<|Hz _
structure Ij(P:AS)(w:Ai)(K:Ao)(tg:Expr)(a:It)(fp:List Ac)(it:Ac)(tn:Y->Al->V'):V' where
 mem:it∈fp
 obj:∀i h,tn i h->∀b∈fp,∃o,h.U b=Z o/\∀v,o.data≠.Ο v
 keep:∀i h h',tn i h->(∀b∈fp,∀o,h.U b=Z o->h'.U b=Z o)->tn i h'
 item:∀(X:Cx),X.δ=P->X.w=w->X.K=K->X.Ϫ=J'->∀(i:Y) (pins:A1) (s:Ab) (I:St) (H:Hp) (E:AR),Inv X pins I H s->(∀b∈fp,Gx X pins H b)->tn i s.u->a.go i H ->
  wpAny (Ah P w) X.A (pyNext (.I it)) (λr s1=>∃u,r=Z u /\
   wpAny (Ah P w) X.A (letOwnedTupleGo tg (.I it) u) (λ_ s2=>∃x H',Inv X pins I H' s2/\RelV x u/\a.yld i H x H'/\tn (i+1) s2.u/\∀b∈fp,H' b=J) E s1) E s
 done:∀(X:Cx),X.δ=P->X.w=w->X.K=K->X.Ϫ=J'->∀(i:Y) (pins:A1) (s:Ab) (I:St) (H:Hp) (E:AR),Inv X pins I H s->(∀b∈fp,Gx X pins H b)->tn i s.u->a.stop i H ->
  wpAny (Ah P w) X.A (pyNext (.I it)) (λr s1=>r=J/\Inv X pins I H s1) E s
 self:∀(A:Ag) (i:Y) (s:Ab) (Q:AR) (E:AR),tn i s.u->Q (.I it) s->wpAny (Ah P w) A (pyIter (.I it)) Q E s
abbrev TI:=St->Hp->(It->Hp->V')->V'
variable{wi:TI}
def Yo(X:Cx)(a:A1)(I:St)(h:Expr)(R:It->Hp->V')(c:Aa)(s2:Ab):V':=
 ∃(e:Ac) (f:U Ac) (g:Y->Al->V') (i:It) (d:Hp),c=.I e/\Inv X a I d s2/\Ij X.δ X.w X.K h i f e g/\g 0 s2.u/\(∀b∈f,Gx X a d b)/\R i d
def PI(X:Cx)(c iter:Expr)(wi:TI):V':=
 ∀(a:A1) (s:Ab) (b:St) (H:Hp) (R:It->Hp->V'),Inv X a b H s->wi b H R ->
  wpAny (Ah X.δ X.w) X.A (Aq iter X.C) (λv d=>wpAny (Ah X.δ X.w) X.A (pyIter v) (Yo X a b c R) X.xe d) X.xe s
def
om{M:Model}{A:Ag}{s:Ab}{b:Expr}{it:Ac}{o:Obj}{n:String}{vs:Array Aa}{Q:Unit->Ab->V'}(c:s.u.U it=Z o)(hc:o.cls=.ι n)(hd:o.data=.Ϙ vs) (d:["enumerate","zip","dict_itemiterator","dict_reverseitemiterator","odict_iterator","itertools.zip_longest","itertools.pairwise"].Ϟ n=O') (a:Q () s):wpAny M A (letOwnedTupleGo b (.I it) u) Q E s:=by
 ext b<;>first
  |show AV a
  |(ext u<;>first
    |show AV a
    |(apply An (wpAny_load c ?_)
      rw[hc,hd];change wpAny M A (if(["enumerate","zip","dict_itemiterator","dict_reverseitemiterator","odict_iterator","itertools.zip_longest","itertools.pairwise"].Ϟ n&&vs[0]?==Z (BQ _))=J' then _ else _) Q E s
      rw[if_neg (by intro h;rw[d,Bool.false_and]at h;ext h)];show AV a))
def Yp(K:Ao)(a:Ac):It:=
 #[λi H=>∃b x,Ca K H a b/\b[i]?=Z x,λi H x c=>c=H/\∀b,Ca K H a b->b[i]?=Z x,λi H=>∃b,Ca K H a b/\b.a<=i]
def Yq(K:Ao)(a:Ac):It:=
 #[λi H=>∃b x,Ck K H a b/\b[i]?=Z x,λi H x c=>c=H/\∀b,Ck K H a b->b[i]?=Z x,λi H=>∃b,Ck K H a b/\b.a<=i]
def Nt(lo:W')(n:Y):It:=#[λi _=>i<n,λi H x a=>a=H/\x=.o (lo+i),λi _=>n<=i]
def
Nu{P:AS}{w:Ai}{K:Ao}{R:Expr}{F:It}{it:Ac}{f:Y->Al->V'}{n:String}(T:["enumerate","zip","dict_itemiterator","dict_reverseitemiterator","odict_iterator","itertools.zip_longest","itertools.pairwise"].Ϟ n=O') (M:∀i h,f i h->∃o m,h.U it=Z o/\o.cls=.ι n/\o.data=.Ϙ m) (kp:∀i h h',f i h->(∀o,h.U it=Z o->h'.U it=Z o)->f i h') (N:∀(X:Cx) (i:Y) (a:A1) (s:Ab) (I:St) (H:Hp) (E:AR) (Q:O Aa->Ab->V'),X.K=K->X.A.Ϝ=J->Inv X a I H s->f i s.u->(F.go i H->(∀u x h' g,f (i+1) h'->(∀b o,b≠it->s.u.U b=Z o->h'.U b=Z o)->RelV x u->F.yld i H x H->Q (Z u) {s with heap:=h',toks:=g})->wpAny (Ah P w) X.A (pyNext (.I it)) Q E s)/\(F.stop i H->(∀h' g,(∀b o,b≠it->s.u.U b=Z o->h'.U b=Z o)->Q J {s with heap:=h',toks:=g})->wpAny (Ah P w) X.A (pyNext (.I it)) Q E s)) (S:∀(A:Ag) (i:Y) (s:Ab) (Q:AR) (E:AR),f i s.u->Q (.I it) s->wpAny (Ah P w) A (pyIter (.I it)) Q E s):Ij P w K R F [it] it f where
 mem:=by simp
 obj:=λi h st b p=>by
  let(o,m,e,_,d):=M i h st;rw[Cg.mp p];show#[o,e,λv z=>by rw[d]at z;cases z]
 keep:=λi h h' st k=>kp i h h' st<|k it (by simp);item:=by
  intro X Y' hw q hc i a s I H E W l st r;let(t,B,f2,C,G,L):=l it (by simp);refine(N X i a s I H E _ q (W.ok.hd hc) W st).1 r λu x h' g j k ru y=>?_;let(o,m,e,c,d):=M _ _ j;show#[u,rfl,om (s:={s with heap:=h',toks:=g}) e c d T #[x,H,W.turned k t B C G L,ru,y,j,λb p=>(l b p).1]]
 done:=by
  intro X Y' hw q hc i a s I H E W l st r;let(t,B,f2,C,G,L):=l it (by simp);show(N X i a s I H E _ q (W.ok.hd hc) W st).2 r λh' g k=>#[rfl,W.turned k t B C G L]
 self:=S
def
on{P:AS}{w:Ai}{K:Ao}{y:Expr}(a it:Ac):Ij P w K y (Yp K a) [it] it (λi h=>h.IsListIter it a i):=by
 apply Nu (n:="list_iterator") (by ext) (λi h st=>?_) (λi h f st k=>st.at k) (λX i t s R H E Q z A W st=>?_) λ_ _ _ _ _ st h=>wpAny_pyIter_listiter st h
 .let(o,e,c,d):=st;show#[o,_,e,c,d]
 .subst z;constructor<;>intro v q
  .let(B,x,g,j):=v;let(l,m,p,hz):=W.Ϥ g;let(u,C,G):=m.Χ j;show wpAny_pyNext_list_item st p.ό (x:=u) (by exists C) λf r F=>q u x f s.Ε r (λb o L e=>(F.2 b L).G e) G #[rfl,λT M=>W.list_inj M g ▸ j]
  .let(B,g,j):=v;let(l,m,p,hz):=W.Ϥ g;let S:=m.a;show wpAny_pyNext_list_end A st p.ό (by simp;lia) λf N=>q f s.Ε N
def
oq{P:AS}{w:Ai}{K:Ao}{y:Expr}(a it:Ac):Ij P w K y (Yq K a) [it] it (λi h=>h.ϸ it a i):=by
 apply Nu (n:="tuple_iterator") (by ext) (λi h st=>?_) (λi h g st k=>st.at k) (λX i t s R H E Q z A W st=>?_) λ_ _ _ _ _ st h=>wpAny_pyIter_tupleiter st h
 .let(o,e,c,d):=st;show#[o,_,e,c,d]
 .subst z;constructor<;>intro v q
  .let(B,x,j,l):=v;let(f,m,p,hz):=W.ϒ j;let(u,C,G):=m.Χ l;show wpAny_pyNext_tuple_item st (show s.u.IsTuple a f.E from p) (x:=u) (by exists C) λg r F=>q u x g s.Ε r (λb o L e=>(F.2 b L).G e) G #[rfl,λT M=>W.tuple_inj M j ▸ l]
  .let(B,j,l):=v;let(f,m,p,hz):=W.ϒ j;let S:=m.a;show wpAny_pyNext_tuple_end A st (show s.u.IsTuple a f.E from p) (by simp;lia) λg N=>q g s.Ε N
def
ot{P:AS}{w:Ai}{K:Ao}{j:Expr}(it:Ac)(lo:W')(n:Y):Ij P w K j (Nt lo n) [it] it (λi h=>IsRangeIter h it (lo+(i:Y)*1) ((n:W')-(i:Y)) 1):=by
 apply Nu (n:="range_iterator") (by ext) (λi h st=>#[_,_,st,rfl,rfl]) (λi h a st k=>k _ st) (λX i d s u H E Q x f y st=>?_) λ_ _ _ _ _ st h=>wpAny_pyIter_rangeiter st h;constructor<;>intro g q
 .refine(Walks.range f it lo 1 n).item i s _ _ g st λv a l hv c m=>?_;let(t,rfl):=hv;show q _ (.o<|lo+i) a l c (λb o p e=>m b o (by exists p) e) #[t,by simp] #[rfl,rfl]
 .show wpAny_pyNext_range_end f st (by have:n<=i:=g;lia) λa r=>q a s.Ε r
section
def ou(K:Ao)(tl:TE):TI:=λc H R=>tl c H λx b=>∃a,x=.I a/\(∃d,Ca K b a d)/\R (Yp K a) b
def ov(K:Ao)(tl:TE):TI:=λc H R=>tl c H λx b=>∃a,x=.I a/\(∃d,Ck K b a d)/\R (Yq K a) b
def
SR{l:Expr}{tl:TE}(g:PE X l tl):PI X tg l (ou X.K tl):=by
 intro c s i H R y h;apply Ba (g c s i H _ y h) λv d j=>?_;let(x,k,f,m,a,e,(u,n),q):=j;subst e;ext m;let(r,w,p,hz):=f.Ϥ n;apply Pu p.ό ?_;apply#[d.u.L.y,[d.u.L.y],_,_,k,rfl,f.ϭ (t':=d.Ε) λb o e=>BR _ e,on a _,#[_,CD _ rfl,rfl,rfl],λb t=>?_,q];let e:b=d.u.L.y:=by exists t
 subst e;show f.fpOk (Bg _)<|f.ϥ.Ξ<|Bg _
def
ow{l:Expr}{tl:TE}(i:PE X l tl):PI X tg l (ov X.K tl):=by
 intro c s j H R y h;apply Ba (i c s j H _ y h) λv d k=>?_;let(x,m,f,n,a,e,(u,r),q):=k;subst e;ext n;let(g,w,p,hz):=f.ϒ r;apply wpAny_pyIter_tuple (show d.u.IsTuple a g.E from p) ?_;apply#[d.u.L.y,[d.u.L.y],_,_,m,rfl,f.ϭ (t':=d.Ε) λb o e=>BR _ e,oq a _,#[_,CD _ rfl,rfl,rfl],λb t=>?_,q];let e:b=d.u.L.y:=by exists t
 subst e;show f.fpOk (Bg _)<|f.ϥ.Ξ<|Bg _
def
Yr{a:A1}{s:Ab}{R:It->Hp->V'}{lo c:W'}{t u v:Tok}{d:Y}(l:Inv X a I H s)(g : -(2^62)<=lo)(h:lo<2^62)(i : -(2^62)<=c)(j:c<2^62) (q:R (Nt lo (c-lo).ν) H):wpAny (Ah X.δ X.w) X.A (pyIter (.I s.u.L.y)) (Yo X a I tg R) E {s with heap:=s.u.ύ {cls:=.ι "range",data:=.Ϙ (T' [.o lo t,.o c u,.o 1 v])},toks:=d}:=by
 apply wpAny_pyIter_range (IsRange.new ..) (small_one g h i j) ?_;let f:Inv X a I H {s with heap:=s.u.ύ {cls:=.ι "range",data:=.Ϙ (T' [.o lo t,.o c u,.o 1 v])},toks:=d}:=l.ϭ λb o e=>BR _ e;apply#[(s.u.ύ {cls:=.ι "range",data:=.Ϙ (T' [.o lo t,.o c u,.o 1 v])}).L.y,[(s.u.ύ {cls:=.ι "range",data:=.Ϙ (T' [.o lo t,.o c u,.o 1 v])}).L.y],_,_,H,rfl,
  f.ϭ (t':=d) λb o e=>BR _ e,ot _ lo (c-lo).ν,?_,λb k=>?_,q]
 .rw[show lo+((0:Y):W')*1=lo by simp,show(((c-lo).ν:Y):W')-((0:Y):W')=Builtin.Range.rangeSize lo c 1 by rw[rangeSize_one];split<;>lia];show CD _ rfl
 .let e:b=(s.u.ύ {cls:=.ι "range",data:=.Ϙ (T' [.o lo t,.o c u,.o 1 v])}).L.y:=by exists k
  subst e;show f.fpOk (Bg _)<|f.ϥ.Ξ<|Bg _
def oz(a:TA):TI:=λb H R=>a b H λc d=>∃j:W',c=[.o j] /\ -(2^62)<=j/\j<2^62/\R (Nt 0 j.ν) d
def oA(a:TA):TI:=λb H R=>a b H λc d=>∃i j:W',c=[.o i,.o j]/\(-(2^62)<=i/\i<2^62 /\ -(2^62)<=j/\j<2^62)/\R (Nt i (j-i).ν) d
def
Ys{a:Expr}{d:TA}{p:AC}(e:Gl X "range")(f:X.mg "range"=J)(g:PA X [a] d)(i:AH [a] X.C=[(O',Aq a X.C)]:=by rfl):PI X tg (.Ν (.β "range" p) [a] [] pos) (oz d):=by
 intro b s k H R z h;apply Call_<|Ig z e f boot_range<|Nv (Ba (g pos b s k H _ z h) λv w l=>?_) i rfl;let(x,y,m,n,c):=l;let(j,rfl,c,o,q):=c;cases n with
 |cons r u=>
  ext u;let(t,rfl):=r;show call_range_1<|Yr m (Int.neg_ofNat_le_ofNat (2^62) 0) (W.kbt_pos 62) c o (by exists q)
def
oB{a b:Expr}{g:TA}{p:AC}(k:Gl X "range")(l:X.mg "range"=J)(m:PA X [a,b] g)(n:AH [a,b] X.C=[(O',Aq a X.C),(O',Aq b X.C)]:=by rfl)(c:AH [b] X.C=[(O',Aq b X.C)]:=by rfl):PI X tg (.Ν (.β "range" p) [a,b] [] pos) (oA g):=by
 intro d s o H R F h;apply Call_<|Ig F k l boot_range<|Nv (Ba (m pos d s o H _ F h) λA B u=>?_) (by rw[n,c]) (by rw[c];rfl);let(C,E,v,w,e):=u;let(i,j,rfl,(e,x,q3,y),q):=e;cases w with
 |cons r f=>
  cases f with
  |cons z f=>
   ext f;let(t,rfl):=r;let(G,rfl):=z;show call_range_2<|Yr v e x q3 y q
def Yt(wi:TI)(g:TG)(tb:TS):TS:=λD a H=>wi a H λj f=>∃W:Y->Y->St->Hp->V',(∃m,W 0 m a f)/\∀i m a H,W i m a H ->
 (j.stop i H/\D.nx a H)\/(j.go i H/\∃N:St->Hp->V',(∀b c,N b c->∃e,e<m/\W (i+1) e b c)/\∀x c,j.yld i H x c->g x a c λd h=>tb {D with nx:=N,ct:=N,bk:=D.nx} d h)
def KC(a:U Ac)(h:Al):A1:=a.Ϗ λb=>(h.U b).j λo=>(b,o)
def
Pw{a:U Ac}{h:Al}{b:Ac}{o:Obj}(c:b∈a)(e:h.U b=Z o):(b,o)∈KC a h:=List.mem_filterMap.Ϣ #[b,c,by rw[e];rfl]
def
Yu{a:U Ac}{h:Al}{p:Ac×Obj}(hp:p∈KC a h):p.1∈a/\h.U p.1=Z p.2:=by
 let(b,c,e):=List.mem_filterMap.mp hp;let(o,q,e):=B2.mp e;grind
def
Inv.pinned{a:A1}{s:Ab}{c:U Ac}(m:Inv X a I H s)(h:∀b∈c,Gx X a H b)(i:∀b∈c,∃o,s.u.U b=Z o/\∀v,o.data≠.Ο v):Inv X (a++KC c s.u) I H s:=m.pins_of λp hp=>(C0.mp hp).Δ (λz=>m.pin p<|DK _ z) λz=>by
  let(f,e):=Yu z;let(j,k,l,_):=h p.1 f;let(o,g,d):=i p.1 f;rw[e]at g;ext g;show#[e,j,k,l,d]
def
Inv.unpinned{a pl:A1}{s:Ab}(b:Inv X (a++pl) I H s):Inv X a I H s:=b.pins_of λp hp=>b.pin p<|DK _<|Ie _ hp
def
Nw{z:U AE}{g:TG}{tb:TS}(hp:PassesOwn (Ah X.δ X.w) X.A X.C X.xe)(hc:X.Ϫ=J')(hi:PI X tg iter wi)(hg:PG X tg g)(j:E5 X z tb) (hs:∀x,EU iter X.C x=Ax x:=by intro _;rfl):PS X (.For tg iter z [] pos) (Yt wi g tb):=by
 intro a s I H D R h;apply wpAny_For (Ba (hi a s I H _ R h) λv s1 h1=>Ba h1 λitv s2 h2=>?_) hs;let(it,E,tn,F,H2,e,I2,T,K,f2,W,(m0,w0),turn):=h2;subst e;let k:∀{y:Hp},(∀b∈E,y b=J)->∀b∈E,Gx X a y b:=λhn b j=>#[hn b j,(f2 b j).2];apply codeAny_forLoop_any (λn s'=>∃i l y,Inv X a l y s'/\tn i s'.u/\(∀b∈E,y b=J)/\W i n l y) ?_ m0 #[0,I,H2,I2,K,λb j=>(f2 b j).1,w0];intro n s3 zQ;let(i,p,M,I3,G,L,w3):=zQ;rcases turn i n p M w3 with⟨stop,qn⟩|⟨go,N,hN,step⟩
 .apply Px hp<|Ba (T.done X rfl rfl rfl hc i a s3 p M X.xe I3 (k L) G stop) λr s4 ⟨Q,I4⟩=>?_;subst Q;show wpAny_execs_nil #[p,M,I4,qn]
 .apply Px hp<|Ba (T.item X rfl rfl rfl hc i a s3 p M X.xe I3 (k L) G go) λr s4 ⟨u,Q,h4⟩=>?_;subst Q;apply Px hp<|Ba h4 λ_ s5 P=>?_;let(x,H5,I5,r5,y5,C,Y'):=P;apply Px hp<|Ba (hg _ s5 p H5 x u _ (I5.pinned (k Y')<|T.obj _ _ C) r5<|step x H5 y5) λ_ s6 P=>?_;let(σ6,H6,I6,q6):=P;apply Px hp<|Ba (j _ s6 σ6 H6 _ I6 q6) λf s7 B=>?_;let again:∀{c:St} {q:Hp},Inv X (a++KC E s5.u) c q s7->N c q->∃m,m<n/\∃i l y,Inv X a l y s7/\tn i s7.u/\(∀b∈E,y b=J)/\W i m l y:=λ{c q} t n7=>by
   let(m',hm,w7):=hN c q n7;apply#[m',hm,i+1,c,q,t.unpinned,T.keep _ _ _ C λb j o e=>(t.pin (b,o)<|DK _<|DK _<|Pw j e).1,λb j=>?_,w7];let(o,e,d):=T.obj _ _ C b j;show(t.pin (b,o)<|DK _<|DK _<|Pw j e).2.1
  cases f with
  |next=>let(c,q,t,n7):=B;show again t n7
  |cont=>let(c,q,t,n7):=B;show again t n7
  |brk=>let(c,q,t,B):=B;show#[c,q,t.unpinned,B]
  |ret v=>let(x7,c,q,t,r7,B):=B;show#[x7,c,q,t.unpinned,r7,B]
end
abbrev R2:=V->V->Hp->VK->V'
def Cs(X:Cx)(f:Aa->Aa->Sem Aa)(r:R2):V':=
 ∀(a:A1) (s:Ab) (b:St) (H:Hp) (x y:V) (v u:Aa) (Q:VK),Inv X a b H s->RelV x v->RelV y u->r x y H Q ->
  wpAny (Ah X.δ X.w) X.A (f v u) (EP X a b Q) X.xe s
def SS(X:Cx)(f:Aa->Sem Aa)(r:V->Hp->VK->V'):V':=
 ∀(a:A1) (s:Ab) (b:St) (H:Hp) (x:V) (v:Aa) (Q:VK),Inv X a b H s->RelV x v->r x H Q ->
  wpAny (Ah X.δ X.w) X.A (f v) (EP X a b Q) X.xe s
def Fi(X:Cx)(f:Aa)(r:U V->Hp->VK->V'):V':=
 ∀(a:A1) (s:Ab) (b:St) (H:Hp) (c:U V) (d:U Aa) (Q:VK),Inv X a b H s->Ap c d->r c H Q ->
  wpAny (Ah X.δ X.w) X.A (call f d) (EP X a b Q) X.xe s
def oC(X:Cx)(r:V->Hp->(j'->Hp->V')->V'):V':=
 ∀(a:A1) (s:Ab) (b:St) (H:Hp) (x:V) (v:Aa) (Q:j'->Hp->V'),Inv X a b H s->RelV x v->r x H Q ->
  wpAny (Ah X.δ X.w) X.A (truthy v) (TP X a b Q) X.xe s
def KD(r:R2)(b tb:TE):TE:=λa H Q=>b a H λx c=>tb a c λy d=>r x y d Q
def oD(r:V->Hp->VK->V')(a:TE):TE:=λb H Q=>a b H λx c=>r x c Q
def rI(C:W'->W'->V')(g:W'->W'->V):R2:=λx y H Q=>∃i j,x=.o i/\y=.o j/\C i j/\Q (g i j) H
def Ik(g:W'->W'->V):R2:=λx y H Q=>∃i j,x=.o i/\y=.o j/\Q (g i j) H
def rU(g:W'->V):V->Hp->VK->V':=λx H Q=>∃i,x=.o i/\Q (g i) H
variable {a b c:Expr}
def
SU(k:PE X a ta)(l:PE X b tb){c:A1}{s:Ab}{R:V->V->Hp->V'}(B:Inv X c I H s)
  (h:ta I H λx i=>tb I i λy d=>R x y d) {Q:AR} {f:Aa->Aa->Sem Aa}
  (m:∀v u s2 x y d,Inv X c I d s2->RelV x v->RelV y u->R x y d->wpAny (Ah X.δ X.w) X.A (f v u) Q X.xe s2):
  wpAny (Ah X.δ X.w) X.A (Aq a X.C) (λv e=>wpAny (Ah X.δ X.w) X.A (Aq b X.C) (λu g=>wpAny (Ah X.δ X.w) X.A (f v u) Q X.xe g) X.xe e) X.xe s:=by
 apply Ba (k c s I H _ B h) λv n j=>?_
 let(x,i,o,p,q):=j
 apply Ba (l c n I i _ o q) λu s2 j=>?_
 let(y,d,r,t,z):=j
 show m v u s2 x y d r p t z
def
oE{op:Operator}{r:R2}(d:Cs X (HB op) r)(e:PE X a ta)(f:PE X b tb):PE X (.BinOp a op b pos) (KD r ta tb):=by
 intro c s g H Q n h;show wpAny_BinOp<|SU e f n h λv u i x y j k l m q=>d c i g j x y v u Q k l m q
def
oF{op:UnaryOp}{r:V->Hp->VK->V'}(d:SS X (unaryOp op) r)(e:PE X a ta):PE X (.UnaryOp op a pos) (oD r ta):=by
 intro b s c H Q l h;show UnaryOp_<|Ba (e b s c H _ l h) λv f ⟨x,g,i,j,k⟩=>d b f c g x v Q i j k
def
Py{f:Aa->Aa->Sem Aa}{C:W'->W'->V'}{g:W'->W'->W'} (rule:∀(i j:W') (t u:Tok) (s:Ab) (Q:AR) (E:AR),C i j->Q (.o (g i j) s.Ε) {s with toks:=s.Ε+1}->wpAny (Ah X.δ X.w) X.A (f (.o i t) (.o j u)) Q E s):Cs X f (rI C λi j=>.o (g i j)):=by
 intro a s e H x y v u Q h b c zQ;let(i,j,rfl,rfl,hc,q):=zQ;let(t,rfl):=b;let(d,rfl):=c;show rule i j t d s _ _ hc #[.o<|g i j,H,h.tok _,⟨_,rfl⟩,q]
def
Yv{f:Aa->Aa->Sem Aa}{g:W'->W'->W'} (rule:∀(i j:W') (t u:Tok) (s:Ab) (Q:AR) (E:AR),Q (.o (g i j) s.Ε) {s with toks:=s.Ε+1}->wpAny (Ah X.δ X.w) X.A (f (.o i t) (.o j u)) Q E s):Cs X f (Ik λi j=>.o (g i j)):=by
 intro a s e H x y v u Q h b c zQ;let(i,j,rfl,rfl,q):=zQ;let(t,rfl):=b;let(d,rfl):=c;show rule i j t d s _ _ #[.o<|g i j,H,h.tok _,⟨_,rfl⟩,q]
def
SW{f:Aa->Aa->Sem Aa}{g:W'->W'->j'} (rule:∀(i j:W') (t u:Tok) (s:Ab) (Q:AR) (E:AR),Q (.Ϡ (g i j)) s->wpAny (Ah X.δ X.w) X.A (f (.o i t) (.o j u)) Q E s):Cs X f (Ik λi j=>.bl (g i j)):=by
 intro a s e H x y v u Q h b c zQ;let(i,j,rfl,rfl,q):=zQ;let(t,rfl):=b;let(d,rfl):=c;show rule i j t d s _ _ #[.bl<|g i j,H,h,rfl,q]
def Nx(i j:W'):V':=0<j/\j<1073741824
def KG(i j:W'):V':=0<=j/\j<=1000000/\i.natAbs<2^64
def Ez(i j:W'):V':=(-(2^64)<i/\i<2^64)\/(-(2^64)<j/\j<2^64)
def
Ez.ok{i j:W'}(h:Ez i j):IntMulOk i j:=by
 rcases h with⟨a,b⟩|⟨a,b⟩
 .show .of_left<|intBits_le_64 a b
 .show .of_right<|intBits_le_64 a b
def
KH:Cs X (HB .Add) (Ik λi j=>.o (i+j)):=Yv λ_ _ _ _ _ _ _ q=>add_int q
def
oG:Cs X (HB .Sub) (Ik λi j=>.o (i-j)):=Yv λ_ _ _ _ _ _ _ q=>sub_int q
def
oH:Cs X (HB .Mult) (rI Ez λi j=>.o (i*j)):=Py λ_ _ _ _ _ _ _ hc q=>mul_int q hc.ok
def
oI:Cs X (HB .FloorDiv) (rI Nx λi j=>.o (i/j)):=Py λi j _ _ _ _ _ hc q=>by
 let a:(0:W')<j:=hc.1;let b:j<1073741824:=hc.2;show floordiv_int (B8<|Int.ne_of_lt a) (Int.fdiv_eq_ediv_of_nonneg i (Int.϶ a) ▸ q)<|.O<|PyProof.noPylong_small ∅
def
oJ:Cs X (HB .Mod) (rI (λ_ j=>0<j) λi j=>.o (i%j)):=Py λi j _ _ _ _ _ hc q=>by
 show mod_int' ∅ (by rw[Int.fmod_eq_emod_of_nonneg i ∅];show q)
def
oK:Cs X (HB .Pow) (rI KG λi j=>.o (i^j.ν)):=Py λ_ _ _ _ _ _ _ hc q=>pow_int_small hc.1 hc.2.1 hc.2.2 q
def
oM{f:Aa->Sem Aa}{g:W'->W'} (rule:∀(i:W') (t:Tok) (s:Ab) (Q:AR) (E:AR),Q (.o (g i) s.Ε) {s with toks:=s.Ε+1}->wpAny (Ah X.δ X.w) X.A (f (.o i t)) Q E s):SS X f (rU λi=>.o (g i)):=by
 intro a s c H x v Q d b zQ;let(i,rfl,q):=zQ;let(t,rfl):=b;show rule i t s _ _ #[.o<|g i,H,d.tok _,⟨_,rfl⟩,q]
def
oO:SS X (unaryOp .USub) (rU λi=>.o (-i)):=oM λ_ _ _ _ _ q=>neg_int q
end
variable {a b c:Expr}{tc:TE}
def
Yw{a:A1}{s:Ab}{k k':j'}(b:Inv X a I H s)(q:Q (.bl k) H)(e:k=k'):EP X a I Q (.Ϡ k') s:=by
 subst e;show#[.bl k,H,b,rfl,q]
def
SX:Cs X (DT .LtE) (Ik λi j=>.bl (decide (i<=j))):=SW λ_ _ _ _ _ _ _ q=>le_int q
def
Yx:Cs X (DT .Gt) (Ik λi j=>.bl (decide (j<i))):=SW λ_ _ _ _ _ _ _ q=>gt_int q
def
oP:Cs X (DT .GtE) (Ik λi j=>.bl (decide (j<=i))):=SW λ_ _ _ _ _ _ _ q=>ge_int q
def
Yy:Cs X (DT .In) (λx y H Q=>∃i j,x=.Ι i/\y=.Ι j/\Q (.bl (!(Ny j i 0 j.a 1).Φ)) H):=by
 intro a s d H x y v u Q f b c zQ;let(i,j,rfl,rfl,q):=zQ;let(t,rfl):=b;let(e,rfl):=c;show in_str<|Yw f q rfl
def
oQ:Cs X (DT .NotIn) (λx y H Q=>∃i j,x=.Ι i/\y=.Ι j/\Q (.bl (!(!(Ny j i 0 j.a 1).Φ))) H):=by
 intro a s d H x y v u Q f b c zQ;let(i,j,rfl,rfl,q):=zQ;let(t,rfl):=b;let(e,rfl):=c;show notIn_str<|Yw f q rfl
def
Cs.or{f:Aa->Aa->Sem Aa}{r b:R2}(h:Cs X f r)(h':Cs X f b):Cs X f (λx y H Q=>r x y H Q\/b x y H Q):=by
 intro a s c H x y v u Q g d e q;rcases q with q|q
 .show h a s c H x y v u Q g d e q
 .show h' a s c H x y v u Q g d e q
def
Yz{op:CmpOp}{r:R2}(d:Cs X (DT op) r)(e:PE X a ta)(f:PE X b tb)(g:Gw op b=O'):PE X (.Κ a [op] [b] pos) (KD r ta tb):=by
 intro c s i H Q o h;show wpAny_Compare1 (SU e f o h λv u j x y k l m n q=>d c j i k x y v u Q l m n q) g
def oR(t:TE):TT:=λa H Q=>t a H λx b=>∃k,x=.bl k/\Q k b
def
YA{op:CmpOp}{r:R2}(g:Cs X (DT op) r)(i:PE X a ta)(j:PE X b tb)(l:Gw op b=O'):PT X (.Κ a [op] [b] pos) (oR (KD r ta tb)):=by
 intro d s f H Q K h;apply wpAny_isTrue_Compare1 (Ba (i d s f H _ K h) λv m ⟨x,n,o,p,q⟩=>Ba (j d m f n _ o q) λu t ⟨y,w,A,B,C⟩=>
  Ba (g d t f w x y v u _ A p B C) λc L ⟨z,E,G,F,k,e,q3⟩=>?_) l
 subst e;ext F;show IQ #[E,G,q3]
def YB(r c:R2)(ta tb tc:TE):TE:=λa H Q=>ta a H λx d=>tb a d λy e=>r x y e λz b=>∃k,z=.bl k /\
 (if k=J' then tc a b λf g=>c y f g Q else Q (.bl O') b)
def
oS{op g:CmpOp}{r l:R2}(p:Cs X (DT op) r)(j:Cs X (DT g) l)(q:PE X a ta)(t:PE X b tb)(hc:PE X c tc) (w:lastMarks [op,g] [b,c]=O':=by with_unfolding_all rfl):PE X (.Κ a [op,g] [b,c] pos) (YB r l ta tb tc):=by
 intro f s i H Q R h;apply Compare_chain (Ba (q f s i H _ R h) λv A ⟨x,B,C,E,G⟩=>chain_link (Ba (t f A i B _ C G) λu F ⟨y,L,M,m,N⟩=>
  Ba (p f F i L x y v u _ M E m N) λd K ⟨z,n,o,T,k,e,q3⟩=>?_)) w
 subst e;ext T;apply IQ ?_;cases k with
 |false=>show ite_ff #[.bl O',n,o,rfl,q3]
 |true=>show ite_tt<|chain_last<|Ba (hc f K i n _ o q3) λP Y' ⟨z',H4,I4,r4,q4⟩=>j f Y' i H4 y z' u P Q I4 m r4 q4
def YC(K:Ao)(x:V)(H:Hp)(k:j'):V':=
 match x with
 |.non=>k=O'
 |.bl b=>k=b
 |.int i=>k=(i != 0)
 |.str y=>y.a<=Av/\k=((y.a:W') != 0)
 |.ref p=>(∃a,Ca K H p a/\k=!a.isEmpty)\/(∃a,Ck K H p a/\k=!a.isEmpty)
 |_=>False
def
YD{xs:U V}{a:U Aa}(r:Ap xs a):(!a.toArray.isEmpty)=!xs.isEmpty:=by
 ext r<;>simp
def
Nz:(Av:Y)<2^63:=by rw[IT];decide
def
oU:oC X (λx H Q=>∃k,YC X.K x H k/\Q k H):=by
 intro h s l H x v Q o a zQ;let(k,e,q):=zQ;let m:=Nz;cases x with
 |non=>
  ext a;subst e;show truthy_none #[H,o,q]
 |bl b=>
  ext a;let e:k=b:=e;subst e;show IQ #[H,o,q]
 |int i=>
  let(t,rfl):=a;subst e;show PySem.P.truthy_int #[H,o,q]
 |str y=>
  let(t,rfl):=a;obtain⟨n,e⟩:y.a<=Av/\k=((y.a:W') != 0):=e;subst e;show PySem.P.truthy_str ∅ #[H,o.tok _,q]
 |ref p=>
  ext a;rcases e with⟨j,d,e⟩|⟨j,d,e⟩
  .subst e;let(f,r,g,hz):=o.Ϥ d;let c:=r.a;show wpAny_truthy_list g.ό (by erw[Ce];lia) #[H,o.tok _,YD r ▸ q]
  .subst e;let(f,r,g,hz):=o.ϒ d;let c:=r.a;show truthy_tuple g (by erw[Ce];lia) #[H,o.tok _,YD r ▸ q]
 |_=>show(show False from e).Δ
def
oV(d:PE X a ta)(e:∀b,isTrue a X.C b=(do let v <- b;standAt a.pos;D1 [v] (truthy v))):PT X a (λI H Q=>ta I H λx H'=>∃k,YC X.K x H' k/\Q k H'):=by
 intro c s I H Q m h;show isTrue_plain (Ba (d c s I H _ m h) λv f ⟨x,g,i,j,l⟩=>oU c f I g x v Q i j l) (e _)
def
FO:Cs X (HB .Add) (λx y H Q=>∃i j,x=.Ι i/\y=.Ι j/\i.a+j.a<=Av/\Q (.Ι (i++j)) H):=by
 intro a s e H x y v u Q g b c zQ;let(i,j,rfl,rfl,hz,q):=zQ;let(t,rfl):=b;let(d,rfl):=c;show add_str (λd f=>#[.Ι<|i++j,H,g.tok _,⟨_,rfl⟩,q]) hz
def
Ft{x:V}{us:U Aa}(r:Ap [x] us):∃u,us=[u]/\RelV x u:=by
 cases r with
 |cons a b=>ext b;show#[_,rfl,a]
def
Pz{x y:V}{us:U Aa}(r:Ap [x,y] us):∃u a,us=[u,a]/\RelV x u/\RelV y a:=by
 cases r with
 |cons b c=>
  cases c with
  |cons d e=>ext e;show#[_,_,rfl,b,d]
def
oW(hc:X.Ϫ=J'):Fi X (.Γ "max") (λxs H Q=>∃i j,xs=[.o i,.o j]/\Q (.o (if j>i then j else i)) H):=by
 intro b s c H xs d Q l r zQ;let(i,j,rfl,q):=zQ;let(u,e,rfl,(t,rfl),(f,rfl)):=Pz r;apply max_two_ints (l.ok.hd hc) λg h k=>#[_,H,l.ϭ k,?_,q];by_cases a:j>i
 .rw[if_pos a,if_pos a];show#[_,rfl]
 .rw[if_neg a,if_neg a];show#[_,rfl]
def
oX(hc:X.Ϫ=J'):Fi X (.Γ "min") (λxs H Q=>∃i j,xs=[.o i,.o j]/\Q (.o (if j<i then j else i)) H):=by
 intro b s c H xs d Q l r zQ;let(i,j,rfl,q):=zQ;let(u,e,rfl,(t,rfl),(f,rfl)):=Pz r;apply min_two_ints (l.ok.hd hc) λg h k=>#[_,H,l.ϭ k,?_,q];by_cases a:j<i
 .rw[if_pos a,if_pos a];show#[_,rfl]
 .rw[if_neg a,if_neg a];show#[_,rfl]
def
oY:Fi X (.ι "int") (λxs H Q=>(∃i,xs=[.o i]/\Q (.o i) H)\/∃k,xs=[.bl k]/\Q (.o (if k then 1 else 0)) H):=by
 intro a s c H xs d Q e r h;rcases h with⟨i,rfl,q⟩|⟨k,rfl,q⟩
 .let(u,rfl,t,rfl):=Ft r;show call_int_int #[.o i,H,e,#[_,rfl],q]
 .let(u,rfl,b):=Ft r;ext b;show call_int_bool #[.o<|if k then 1 else 0,H,e.tok _,⟨_,rfl⟩,q]
def YE(K:Ao)(x:V)(H:Hp)(n:Y):V':=
 match x with
 |.str y=>y.a<=Av/\n=y.a
 |.ref p=>(∃a,Ca K H p a/\n=a.a)\/∃a,Ck K H p a/\n=a.a
 |_=>False
def
YF:Fi X (.Γ "len") (λxs H Q=>∃x n,xs=[x]/\YE X.K x H n/\Q (.o n) H):=by
 intro g s i H xs j Q m r zQ;let(x,n,rfl,e,q):=zQ;let(u,rfl,h):=Ft r;let k:Av=16777216:=IT;cases x with
 |str y=>
  let(t,rfl):=h;obtain⟨l,rfl⟩:y.a<=Av/\n=y.a:=e;show len_str ∅ #[.o _,H,m.tok _,#[_,rfl],q]
 |ref p=>
  ext h;rcases e with⟨xs,b,e⟩|⟨xs,b,e⟩
  .subst e;let(c,d,f,hz):=m.Ϥ b;let a:=d.a;show Calls.call_len_list f.ό (by erw[Ce];lia) #[.o xs.a,H,m.tok _,#[_,by erw[Ce];rw[a]],q]
  .subst e;let(c,d,f,hz):=m.ϒ b;let a:=d.a;show len_tuple f (by erw[Ce];lia) #[.o xs.a,H,m.tok _,#[_,by erw[Ce];rw[a]],q]
 |_=>show(show False from e).Δ
end
structure FP(h:Al)(x dx C:Ac)(mA:BP):V' where
 obj:h.U x=Z (Kz C dx)
 ns:h.Ns1 dx mA
 ne:dx≠x
open J in
def
oZ{h:Al}{c:Ac}{d:BP}(n:h.Ns1 c d):∃f,h.U c=Z f/\∀name,PySem.W.lookIn name f=Z (d name):=by
 let(o,g,m,i,hd,j,_,k):=n;apply#[o,i,λname=>?_];let e:=k name;unfold nsFind findBy at e;rw[<- Array.find?_toList]at e;unfold PySem.W.lookIn;rw[hd];dsimp only;split
 .rename_i y q;rw[q]at e;show congrArg Z e
 .rename_i q;rw[q]at e;let a:g.α.any (·.refKey)=O':=by
   rw[List.any_eq_false];intro y l;let(z,t,b):=j y<|Array.mem_toList_iff.mp l;simp[DictEntry.refKey,b]
  rw[if_neg (show ¬ g.α.any (·.refKey)=J' by rw[a];show JJ)];show congrArg Z e
def
FP.look{h:Al}{x b C:Ac}{c:BP}(f:FP h x b C c):∃a,PySem.W.InstAt h x (Kz C b) C (Z a)/\∀name,PySem.W.lookIn name a=Z (c name):=let⟨a,d,e⟩:=oZ f.ns
 #[a,#[f.obj,rfl,rfl,d],e]
variable {prog:AS}{w:Ai}{A:Ag}{s:Ab}{K:Ao}{x dx C f:Ac}{mA:BP}{name:Ae}{v:Aa}
def
o4{a:j'}{Q:AR}(X:K.In s.u)(j:FP s.u x dx C mA)(c:PySem.W.plainGet K C name=J')(d:PySem.W.hasDictIn K C=J')
  (e:JL K (.I C) name=Z J) (hv:mA name=Z v) (b:PySem.W.handedIn v=J') (h:Q v {s with toks:=s.Ε+1}):
  wpAny (Ah prog w) A (getAttr (.I x) name a) Q E s:=by
 let(g,i,f):=j.look
 show PySem.W.get_value X i (PySem.W.plainGet_of c).1 (PySem.W.findObj_own d e rfl (by rw[f,hv])) b h
def
o5{Q:Aa×U Aa->Ab->V'}(X:K.In s.u)(i:FP s.u x dx C mA)(a:PySem.W.plainGet K C name=J')
  (b:JL K (.I C) name=Z (Z (.I f))) (c:PySem.W.isFn K (.I f)=J') (hv:mA name=J) (h:Q (.I f,[.I x]) s):
  wpAny (Ah prog w) A (getMethod (.I x) name pl) Q E s:=by
 let(d,g,e):=i.look
 show PySem.W.method_fn X g (PySem.W.plainGet_of a).1 (PySem.W.plainGet_of a).2 b (beq_iff_eq.mp c) (by show(PySem.W.lookIn name d).j (·.υ)=Z O';rw[e,hv];rfl) h
def
o6{ns:U Ae}{Q:Unit->Ab->V'}(X:K.In s.u)(B:FP s.u x dx C mA)
  (j:JL K (.I C) "__setattr__"=Z (Z (.Γ "object.__setattr__"))) (hp:PySem.W.plainOver K C=J') (k:PySem.W.takerIn K C name=Z J) (l:PySem.W.hasDictIn K C=J')
  (m:PySem.Within mA ns) (hsz:ns.a<=Av)
  (h:∀h',FP h' x dx C (λy=>if y=name then Z v else mA y)->Ex dx s.u h'->Q () {s with heap:=h',toks:=s.Ε+2}):
  wpAny (Ah prog w) A (setAttr (.I x) name v) Q E s:=by
 let(p,z,q):=B.look
 apply PySem.W.set_plain X z j (PySem.W.osa_open (s:={s with toks:=s.Ε+1}) (r:=J) X z hp k λb=>?_)
 let(t,hc,e):=PySem.W.any_some l
 apply An (AV (An (An (wpAny_loadPart B.obj (An (PySem.W.Looks.here (s:={s with toks:=s.Ε+1}) (PySem.W.looks_clsIn X hc) ?_))))))
 rw[e]
 apply AV (a:=Z dx) (An (AV (An ?_)))
 apply wpAny_nsSet1 (s:={s with toks:=s.Ε+1}) B.ns λh' c d=>?_
 let(u,n,o,f,g,i):=c.count (PySem.Within.Α name v m)
 show An (wpAny_lookBehind f (g ▸ pastItsLine_dict (BN i (Ct ▸ Nat.add_le_add_right hsz 1))) (AV (h _ #[(d.2 _ (B8 B.ne)).G B.obj,c,B.ne] d)))
def
o7{R:Result->Ab->V'}{vs:U Aa}{a:U (Ae×Aa)}(X:K.In s.u)(b:PySem.W.makesIn K C=J') (c:JL K (.I C) "__init__"=Z (Z (.I f))) (e:PySem.W.typeIn K (.I f)=Z (.ι "function")) (h:codeAny (Ah prog w) (A.under (.Γ "type.__call__" #[.I C::vs,a])) (.call (.I f) #[.I (s.u.L.y+1)::vs,a]) (PySem.W.InitBack (s.u.L.y+1) R) {s with heap:=(s.u.ύ NA).ύ (Kz C s.u.L.y)}):codeAny (Ah prog w) A (.call (.I C) #[vs,a]) R s:=by
 let(i,g,d,t,os):=s;show PySem.W.make_core (PySem.W.makes_of X b) (PySem.W.looks_findIn X c) (λself=>PySem.W.bind_fn X self e) (.O rfl) h
end
def Fu(f:Ae)(v:V):U (Ae×V)->U (Ae×V)
 |[]=>[(f,v)]
 |(g,x)::r=>if g=f then(g,v)::r else(g,x)::Fu f v r
def
YG(f g:Ae)(v:V):∀a:U (Ae×V),(Fu f v a).X g=if g=f then Z v else a.X g
 |[]=>by
  change List.X g [(f,v)]=_
  grind
 |(k,x)::r=>by
  let b:=YG f g v r;grind [Fu]
def
SY(f:Ae)(v:V):∀a:U (Ae×V),f∈(Fu f v a).j (·.1)/\∀g,g∈a.j (·.1)->g∈(Fu f v a).j (·.1)
 |[]=>#[by simp[Fu],λg h=>by simp at h]
 |(k,x)::r=>by
  let(b,i2):=SY f v r;grind [Fu]
def
YH(f:Ae)(v:V):∀a:U (Ae×V),(Fu f v a).a<=a.a+1
 |[]=>by simp[Fu]
 |(k,x)::r=>by
  let b:=YH f v r;grind [Fu]
def
CV.some_of{v:V}{o:O Aa}(r:CV (Z v) o):∃u,o=Z u/\RelV v u:=by
 cases o with
 |none=>show(show False from r).Δ
 |some u=>show#[u,rfl,r]
def
CV.none_of{o:O Aa}(r:CV J o):o=J:=by
 cases o with
 |none=>rfl
 |some u=>show(show False from r).Δ
def
o8{v:V}(r:RelV v u):PySem.W.handedIn u=J':=by
 cases v with
 |non=>cases(show u=Value.Η from r);rfl
 |bl b=>cases(show u=Value.Ϡ b from r);rfl
 |int i=>let(t,e):=(show ∃t,u=Value.o i t from r);ext e;rfl
 |str x=>let(t,e):=(show ∃t,u=Value.Ι x t from r);ext e;rfl
 |ref a=>cases(show u=DR a from r);rfl
 |ty n=>cases(show u=Value.ι n from r);rfl
variable {P:AS}{w:Ai}{h:Al}{C dx:Ac}{fs:U (Ae×V)}
def
S0(hok:CZ P w H h)(e:Rd H a (.ins C dx fs)):∃b,FP h a dx C b/\(∀f,CV (fs.X f) (b f))/\PySem.Within b (fs.j (·.1))/\fs.a<=1000/\H dx=Z (.φ a):=by
 let(d,z,ne,c,b,n,r,q):=(show Bo P w H h a (.ins C dx fs)from e.ok hok);show#[b,#[c,n,ne],r,q,z,d]
end
structure Fj(K:Ao)(C:Ac):V' where
 pg:PySem.W.plainGet K C Str.empty=J'
 hd:PySem.W.hasDictIn K C=J'
 po:PySem.W.plainOver K C=J'
 sa:JL K (.I C) "__setattr__"=Z (Z (.Γ "object.__setattr__"))
def
Fj.get{K:Ao}{C:Ac}(c:Fj K C)(f:Ae):PySem.W.plainGet K C f=J':=c.pg
def BY(K:Ao)(C:Ac)(f:Ae):V':=JL K (.I C) f=Z J
def
BY.taker{K:Ao}{C:Ac}{f:Ae}(n:BY K C f):PySem.W.takerIn K C f=Z J:=by
 unfold PySem.W.takerIn;rw[show JL K (.I C) f=Z J from n];rfl
structure JM(K:Ao)(C:Ac)(m:Ae)(f:Ac):V' where
 at_:JL K (.I C) m=Z (Z (.I f))
 fn:PySem.W.isFn K (.I f)=J'
 kp:IU K (.I f)=J'
variable {s:Ab}{C dx:Ac}{fs:U (Ae×V)}{f:Ae}{v:V}{A:Ag}
def
o9{b:j'}{Q:AR}(m:Inv X pins I H s)(e:Rd H a (.ins C dx fs))(c:Fj X.K C)(n:BY X.K C f)(l:fs.X f=Z v) (h:∀u d,Inv X pins I H d->RelV v u->Q u d):wpAny (Ah X.δ X.w) A (getAttr (.I a) f b) Q E s:=by
 let(i,k,r,_,_,_):=S0 m.ϥ e;let(u,j,g):=CV.some_of (v:=v) (o:=i f) (l ▸ r f);show o4 m.kIn k (c.Χ f) c.hd n j (o8 g)<|h u _ (m.tok _) g
def
YI{m:Ae}{g:Ac}{Q:Aa×U Aa->Ab->V'}(i:Inv X pins I H s)(e:Rd H a (.ins C dx fs))(c:Fj X.K C)(k:JM X.K C m g)(l:fs.X m=J) (h:Q (.I g,[.I a]) s):wpAny (Ah X.δ X.w) A (getMethod (.I a) m pl) Q E s:=by
 let(b,f,r,_,_,_):=S0 i.ϥ e;let d:b m=J:=CV.none_of (by rw[<- l];show r m);show o5 i.kIn f (c.Χ m) k.at_ k.fn d h
def
pa{y:V}{Q:Unit->Ab->V'}(M:Inv X pins I H s)(e:H a=Z (.ins C dx fs))(c:Fj X.K C)(n:BY X.K C f)(F:fs.a<1000)(m:RelV y u) (h:∀i,Inv X pins I (AL H a (.ins C dx (Fu f y fs))) i->Q () i):wpAny (Ah X.δ X.w) A (setAttr (.I a) f u) Q E s:=by
 let(j,L,r,k,_,l):=S0 M.ϥ<|.inl e;apply o6 M.kIn L c.sa c.po n.taker c.hd k (show(fs.map (·.1)).length<=Av by rw[Bx,IT];lia) λp d t=>h _ ?_;let hd:∃o,p.U dx=Z o:=let⟨o,_,_,v,_⟩:=d.ns;#[o,v];apply M.write (x:=a) (e:=dx) (e ▸ HC) (.ρ l) (λb q B z=>(t.2 b B).G z) hd ?_;apply#[Zp L.ne ▸ l,?_,L.ne,d.obj,_,d.ns,λg=>?_,λg G=>?_]
 .have:=YH f y fs;lia
 .change CV ((Fu f y fs).X g)<|if g=f then Z u else j g
  rw[YG];by_cases q:g=f
  .rw[if_pos q,if_pos q];show m
  .rw[if_neg q,if_neg q];show r g
 .by_cases q:g=f
  .rw[q];show(SY f y fs).1
  .refine(SY f y fs).2 g<|k g λz=>G ?_;show(if g=f then Z u else j g)=J
   rw[if_neg q];show z
def
Inv.made(d:Inv X pins I H s):Inv X pins I (AL (AL H s.u.L.y (.φ (s.u.L.y+1))) (s.u.L.y+1) (.ins C s.u.L.y [])) {s with heap:=(s.u.ύ NA).ύ (Kz C s.u.L.y)}:=by
 let c:((s.u.ύ NA).ύ<|Kz C s.u.L.y).U (s.u.L.y+1)=Z (Kz C s.u.L.y):=by
  have:=CD (s.u.ύ NA) (o:=Kz C s.u.L.y) rfl;simp_all
 refine(d.laid (a:=s.u.L.y) (o:=.φ<|s.heap.objs.size+1) (h':=s.heap.push NA) (t':=s.toks) (λb u q=>BR _ q) (Bg _) #[_,(CD s.u rfl)]).laid (a:=s.u.L.y+1) (o:=.ins C s.u.L.y []) (t':=s.Ε) (λb u q=>BR _ q) (Nat.le_of_eq<|KI _ _) ?_;apply⟨by rw[Zp<|Nat.ne_add_one s.heap.objs.size,ZQ],Fk _,(Nat.ne_add_one s.heap.objs.size),c,λ_=>J,(Heap.Ns1.of_empty ⟨NA,(T' []),_,(CD s.u rfl),rfl,(λe f=>absurd f (by simp)),λ_=>rfl⟩).at λo q=>BR _ q,λ_=>HC,λy g=>absurd rfl g⟩
def
pe{prog:AS}{w:Ai}{env:Env}{e:Expr}{f:Ae}{s:Ab}{Q:AR}(b:FQ e f env (Aq e env)=Aq e env) (h:wpAny (Ah prog w) A (Aq e env) (λo a=>wpAny (Ah prog w) A (getAttr o f J') Q E a) E s):wpAny (Ah prog w) A (Aq (.γ e f pos) env) Q E s:=Attribute_any_ h (by rw[arm_eval_Attribute,b])
end
def pf(K:Ao)(d:TE)(f:Ae):TE:=λe H Q=>d e H λx b=>∃a C g c v,x=.I a/\Rd b a (.ins C g c)/\Fj K C/\BY K C f/\c.X f=Z v/\Q v b
def ph(K:Ao)(g h:TE)(f:Ae):TS:=λD b H=>h b H λy i=>g b i λx d=>∃a C e c,x=.I a/\d a=Z (.ins C e c)/\Fj K C/\BY K C f/\c.a<1000 /\
 D.nx b (AL d a (.ins C e (Fu f y c)))
variable {e value:Expr}{f:Ae}{tv:TE}
def
YJ(d:PE X e ta)(g:FQ e f X.C (Aq e X.C)=Aq e X.C):PE X (.γ e f pos) (pf X.K ta f):=by
 intro b s i H Q E h;apply pe g<|Ba (d b s i H _ E h) λu w j=>?_;let(x,k,m,o,a,C,y,z,v,rfl,p,c,n,l,q):=j;obtain rfl:u=DR a:=o;show o9 m p c n l λA B r t=>#[v,k,r,t,q]
def
pi(e:PE X o ta)(hv:PE X value tv)(g:Ey value (Z (.γ o f pos')) pos.ϡ X.C=Ax O'):PS X (.ϩ [.γ o f pos'] value pos) (ph X.K ta tv f):=by
 intro b s d H D M h;apply plainObj_wpAny_Assign_Attribute (Ba (hv b s d H _ M h) λu i ⟨y,j,k,m,q⟩=>Ba (e b i d j _ k q) λp B r=>?_) g;let(x,E,t,v,a,C,G,F,rfl,w,c,n,l,z):=r;obtain rfl:p=DR a:=v;show pa t w c n l m λL A=>#[d,_,A,z]
end
structure AJ(k:Y)(A:Ag):V' where
 hd:A.Ϝ=J
 dp:A.depth+3*k+5<recursionLimit
 un:A.ε+16*k+200<Ar
def
AJ.mono{j k:Y}{A:Ag}(r:AJ k A)(h:j<=k):AJ j A:=#[r.hd,by have:=r.dp;lia,by have:=r.un;lia]
def
AJ.deeper{k:Y}{A:Ag}(r:AJ (k+1) A)(env:Env):AJ k (A.Ϧ env):=#[r.hd,by have:=r.dp;change A.depth+1+3*k+5<_;lia,by have:=r.un;change A.ε+3+16*k+200<_;lia]
def
AJ.in1{k:Y}{A:Ag}(r:AJ (k+1) A):AJ k A.in1:=#[r.hd,by have:=r.dp;change A.depth+3*k+5<_;lia,by have:=r.un;change A.ε+1+16*k+200<_;lia]
def
pj{A:Ag}{C:Ac}{us:U Aa}{a:U (Ae×Aa)}:(A.under (.Γ "type.__call__" #[.I C::us,a])).depth=A.depth+1:=by
 rfl
def
pq{A:Ag}{C:Ac}{us:U Aa}{a:U (Ae×Aa)}:(A.under (.Γ "type.__call__" #[.I C::us,a])).ε=A.ε+1:=by
 rfl
def
AJ.make{k:Y}{A:Ag}(r:AJ (k+1) A)(C:Ac)(us:U Aa)(a:U (Ae×Aa)):AJ k (A.under (.Γ "type.__call__" #[.I C::us,a])):=#[r.hd,by have:=r.dp;rw[pj];lia,by have:=r.un;rw[pq];lia]
def
AJ.depth{k:Y}{A:Ag}(r:AJ k A):A.depth<recursionLimit:=by have:=r.dp;lia
def
AJ.units{k:Y}{A:Ag}(r:AJ k A):A.ε+64<Ar:=by have:=r.un;lia
def NB:TA:=λ_ H Q=>Q [] H
def YK(b:TE)(tr:TA):TA:=λa H Q=>b a H λx c=>tr a c λd e=>Q (x::d) e
variable {e:Expr}{t:TA}
def
Bn:PA X [] NB:=λ_ _ _ _ H Q a h=>Calls.spliced_nil #[[],H,a,.ώ,h]
def
Z5(c:PE X e te)(d:PA X es t)(f:AH (e::es) X.C=(O',Aq e X.C)::AH es X.C:=by rfl):PA X (e::es) (YK te t):=by
 intro pos a s b H Q w h;rw[f];change wpAny _ _ (spliced<|(O',Aq e X.C)::AA pos (AH es X.C)) _ _ s
 show Calls.spliced_cons<|Ba (c a s b H _ w h) λu g ⟨x,i,j,k,l⟩=>Ba (d pos a g b i _ j l) λr v ⟨m,n,o,p,q⟩=>#[x::m,n,o,.Α k p,q]
def pu(t:TA):TE:=λc H Q=>t c H λa b=>a.a<=Av/\∀p,b p=J->Q (.I p) (AL b p (.S a))
def pv(t:TA):TE:=λc H Q=>t c H λa b=>a.a<=Av/\∀p,b p=J->Q (.I p) (AL b p (.R a))
def
YL {f} (h:PA X es t):PE X (.ϫ es f pos) (pu t):=by
 intro a s g H Q m i;apply wpAny_Tuple_spliced<|Ba (h pos a s g H _ m i) λj c ⟨k,l,d,r,z,q⟩=>#[r.a ▸ z,?_];apply#[.I c.u.L.y,AL l c.u.L.y<|.tup k,d.laid (t':=c.toks) (λb u e=>BR _ e) (Bg _) ?_,rfl,q _<|d.ϥ.Ξ<|Bg _];show⟨z,j,r,⟨_,CD _ rfl,rfl,_,rfl⟩⟩
def
YM(h:PA X es t):PE X (.List es pos) (pv t):=by
 intro a s f H Q l g;apply wpAny_List_spliced<|Ba (h pos a s f H _ l g) λi c ⟨j,k,d,r,z,q⟩=>#[r.a ▸ z,?_];apply#[.I c.u.L.y,AL k c.u.L.y<|.lst j,d.laid (t':=c.toks) (λb u e=>BR _ e) (Bg _) ?_,rfl,q _<|d.ϥ.Ξ<|Bg _];show⟨z,i,0,r,CD _ rfl⟩
end
abbrev Sp:=U V->Hp->VK->XK->V'
abbrev Eg:=U Env->Hp->Ab->XK->AR
variable{CX:Eg}
structure Dj(P:AS)(w:Ai)(K:Ao)(mg:BP)(base:Al)(A:Ag)(outer:List Env)(s:Ab)(H:Hp):V' where
 frames:A.frames=Z outer
 mod:Mod K mg base
 bs:∀b o,base.U b=Z o->s.u.U b=Z o/\H b=J
 bsz:base.L.y<=s.u.L.y
 funs:s.u.Ϲ base outer
 frf:∀b∈Fg outer,H b=J
 hok:CZ P w H s.u
 bare:AllBare s.gens
def CE(outer:U Env)(P:AS)(w:Ai)(H:Hp)(s:Ab)(Q:VK)(u:Aa)(a:Ab):V':=
 ∃v b,a.os=s.os/\AllBare a.gens/\Un (Fg outer) [] H b s.u a.u/\CZ P w b a.u/\RelV v u/\Q v b
def CR(CX:Eg)(outer:U Env)(P:AS)(w:Ai)(H:Hp)(s:Ab)(Q:VK)(E:XK)(r:Result)(a:Ab):V':=
 match r with
 |.ok (.ret u)=>CE outer P w H s Q u a
 |.ok _=>False
 |.error e=>CX outer H s E e a
structure AY(P:AS)(w:Ai)(K:Ao)(mg:BP)(base:Al)(CX:Eg)(k:Y)(f:Ac)(fd:CH)(ps:List Ae)(sp:Sp):V' where
 len:∀vs H Q E,sp vs H Q E->vs.a=ps.a
 run:∀(A:Ag) (outer:List Env) (s:Ab) (H:Hp) (args:Args) (us:List Aa) (vs:List V) (Q:VK) (E:XK),AJ k A->Dj P w K mg base A outer s H->BindsTo s fd args (ps.zip us)->Ap vs us->sp vs H Q E ->
  codeAny (Ah P w) A (.call (.I f) args) (CR CX outer P w H s Q E) s
def
AY.imp{P:AS}{w:Ai}{K:Ao}{mg:BP}{base:Al}{k:Y}{f:Ac}{fd:CH}{ps:U Ae}{sp a:Sp}(F:AY P w K mg base CX k f fd ps sp) (h:∀vs H Q E,a vs H Q E->sp vs H Q E):AY P w K mg base CX k f fd ps a:=#[λvs H Q E q=>F.ϧ vs H Q E<|h _ _ _ _ q,λA outer s H args b vs Q E c d e hv g=>F.run A outer s H args b vs Q E c d e hv<|h _ _ _ _ g]
def
Dj.make{P:AS}{w:Ai}{K:Ao}{mg:BP}{base:Al}{A:Ag}{outer:U Env}{s:Ab}(e:Dj P w K mg base A outer s H)(C:Ac)(us:U Aa)(a:U (Ae×Aa)):Dj P w K mg base (A.under (.Γ "type.__call__" #[.I C::us,a])) outer s H:=#[by(simpa[Around.under,Code.envs,Code.isFrame,pushEnvs]using e.frames),e.mod,e.bs,e.bsz,e.funs,e.frf,e.hok,e.bare]
def
Dj.in1{P:AS}{w:Ai}{K:Ao}{mg:BP}{base:Al}{A:Ag}{outer:U Env}{s:Ab}(e:Dj P w K mg base A outer s H):Dj P w K mg base A.in1 outer s H:=#[e.frames,e.mod,e.bs,e.bsz,e.funs,e.frf,e.ϥ,e.bare]
variable {s s':Ab}
def
Inv.env0(a:Inv X pins I H s):Dj X.δ X.w X.K X.mg X.ω X.A X.ϛ s H:=#[a.ok.frames,a.ok.mod,a.bs,BN a.ok.bsz a.sz,a.ϛ,a.stkFree,a.ϥ,a.bare]
def
Inv.after(f:Inv X pins I H s)(h:CE X.ϛ X.δ X.w H s Q u s'):EP X pins I Q u s':=by
 let(v,c,os,bare,un,hok,r,q):=h;let(e,g,d,t,a):=s';obtain rfl:a=s.os:=os;show#[v,c,f.call (h':=e) (g':=g) (d':=d) (t':=t) (ch:=[]) un hok bare (λb z=>absurd z (by simp)),r,q]
end
def PB(sp:Sp)(a:U V)(E:XK)(t:TA):TE:=λb H Q=>t b H λc d=>sp (c++a) d Q E
def KJ(C:Ac)(m:Ae)(sp:Sp)(b:U V)(E:XK)(f:TE)(t:TA):TE:=λc H Q=>f c H λx d=>∃a g e,x=.I a/\Rd d a (.ins C g e)/\e.X m=J /\
 t c d λh i=>sp (x::(h++b)) i Q E
def px(C:Ac)(sp:Sp)(b:U V)(E:XK)(t:TA):TE:=λd H Q=>t d H λe c=>∀x a,c x=J->c a=J->x=a+1 ->
 sp (.I x::(e++b)) (AL (AL c a (.φ x)) x (.ins C a [])) (λv f=>v=.κ/\Q (.I x) f) E
def Binds(K:Ao)(fd:CH)(ps:U Ae)(b:U Aa):V':=
 ∀(s:Ab) (a:U Aa),K.In s.u->(a++b).a=ps.a->BindsTo s fd #[a,[]] (ps.zip (a++b))
def
Binds.all{K:Ao}{fd:CH}{ps:U Ae}(h:∀us:U Aa,us.a=ps.a->bindArgs fd #[us,[]]=Ax (ps.zip us)):Binds K fd ps []:=λs us _ a=>by
 rw[Eh]at a ⊢;show .of_eq<|h us a
def Fv(CX:Eg)(X:Cx)(E:XK):V':=∀(a:A1)(c:St)(H:Hp)(s:Ab)(e:Aa)(b:Ab),Inv X a c H s->CX X.ϛ H s E e b->X.xe e b
variable {k:Y}{f C:Ac}{fd:CH}{ps:U Ae}{sp:Sp}{dvs:U V}{ds:U Aa}{E:XK}{x m:Ae}{p:AC}{e:Expr}{t:TA}
def
S2{a:A1}{s:Ab}{us:U Aa}(F:AY X.δ X.w X.K X.mg X.ω CX k f fd ps sp)(c:AJ k X.A)(d:Binds X.K fd ps ds)(hd:Ap dvs ds)(g:Fv CX X E) (l:Inv X a I H s) (r:Ap vs us) (h:sp (vs++dvs) H Q E):wpAny (Ah X.δ X.w) X.A (call (.I f) us) (EP X a I Q) X.xe s:=by
 apply wpAny_call<|codeAny_mono (F.run X.A X.stack s H ⟨us,[]⟩ (us++ds) (vs++dvs) Q E c l.env0 (d s us l.kIn (show(us++ds).length=ps.length by rw[<- (r.append hd).length];show F.len _ _ _ _ h)) (r.append hd) h) λr i b=>?_;cases r with|error e=>show g a I H s e i l b|ok j=>
  cases j with
  |ret u=>show l.after b
  |next=>show B6 b
  |brk=>show B6 b
  |cont=>show B6 b
def
PF(F:AY X.δ X.w X.K X.mg X.ω CX k f fd ps sp)(i:AJ k X.A)(j:Gl X x)(l:X.mg x=Z (.I f))(m:IU X.K (.I f)=J')(n:Binds X.K fd ps ds)(hd:Ap dvs ds)(o:Fv CX X E) (u:PA X (e::es) t) (b:Ew x:=by ext) (v:AH (e::es) X.C=(O',Aq e X.C)::AH es X.C:=by rfl) (c:(AA pos (AH es X.C)).any (·.1)=O':=by rfl):PE X (.Ν (.β x p) (e::es) [] pos) (PB sp dvs E t):=by
 intro a s y H Q d h;show NC<|SM d j l (PySem.W.callWith_K (h₀:=X.base) d.ok.mod.kin m (Ba (u pos a s y H _ d h) λz B ⟨C,G,g,r,q⟩=>#[g.kIn,S2 F i n hd o g r q]) v c) b
def
S3(y:PE X o ta)(c:Fj X.K C)(j:JM X.K C m f)(F:AY X.δ X.w X.K X.mg X.ω CX k f fd ps sp)(L:AJ k X.A)(M:Binds X.K fd ps ds)(hd:Ap dvs ds)(N:Fv CX X E)(P:PA X (e::es) t) (d:AH (e::es) X.C=(O',Aq e X.C)::AH es X.C:=by rfl) (g:(AA pos (AH es X.C)).any (·.1)=O':=by rfl) (T:Aq (.Ν (.γ o m apos) (e::es) [] pos) X.C=(do
   let n <- Aq o X.C;standAt apos.atName;let(f,i) <- D1 [n] (getMethod n m pl);callWith pos f i (AA pos (AH (e::es) X.C)) (Gy pos (Gz [] X.C))):=by rfl):PE X (.Ν (.γ o m apos) (e::es) [] pos) (KJ C m sp dvs E ta t):=by
 intro b s p H Q S h;apply PySem.W.methodCall_KW (pl:=pl) (Ba (y b s p H _ S h) λu R Y'=>?_) T;let(x,H1,v,rx,a,dx,fs,rfl,ea,l,q):=Y';obtain rfl:u=DR a:=rx;show YI v ea c j l<|PySem.W.callWith_K (first:=[.ref a]) (h₀:=X.base) S.ok.mod.kin j.kp (Ba (P pos b R p H1 _ v q) λz s2 ⟨B,H2,G,r,q2⟩=>#[G.kIn,S2 (us:=.I a::z) (vs:=.I a::B) F L M hd N G (.Α rfl r) q2]) d g
def
YN(j:PE X o ta)(c:Fj X.K C)(g:JM X.K C m f)(F:AY X.δ X.w X.K X.mg X.ω CX k f fd ps sp)(n:AJ k X.A)(p:Binds X.K fd ps ds)(hd:Ap dvs ds)(r:Fv CX X E) (t:Aq (.Ν (.γ o m apos) [] [] pos) X.C=(do
   let i <- Aq o X.C;standAt apos.atName;let(f,d) <- D1 [i] (getMethod i m pl);callWith pos f d (AA pos (AH [] X.C)) (Gy pos (Gz [] X.C))):=by rfl):PE X (.Ν (.γ o m apos) [] [] pos) (KJ C m sp dvs E ta NB):=by
 intro b s v H Q P h;apply PySem.W.methodCall_KW (pl:=pl) (Ba (j b s v H _ P h) λu G y=>?_) t;let(x,N,e,z,a,L,M,rfl,B,l,q):=y;obtain rfl:u=DR a:=z;show YI e B c g l<|PySem.W.callWith_K0 (first:=[.I a]) e.kIn g.kp (S2 (us:=[.I a]) (vs:=[.I a]) F n p hd r e (.Α rfl .ώ) q)
structure Mk(K:Ao)(C f:Ac):V' where
 makes:PySem.W.makesIn K C=J'
 init:JL K (.I C) "__init__"=Z (Z (.I f))
 fn:PySem.W.isFn K (.I f)=J'
 kp:IU K (.I C)=J'
def
py{a:A1}{s:Ab}{us:U Aa}(M:Mk X.K C f)(F:AY X.δ X.w X.K X.mg X.ω CX k f fd ps sp)(j:AJ (k+1) X.A)(l:Binds X.K fd ps ds)(hd:Ap dvs ds)
  (m:Fv CX X E) (B:Inv X a I H s) (r:Ap vs us)
  (h:∀x c,H x=J->H c=J->x=c+1->sp (.I x::(vs++dvs)) (AL (AL H c (.φ x)) x (.ins C c [])) (λv n=>v=.κ/\Q (.I x) n) E):
  wpAny (Ah X.δ X.w) X.A (call (.I C) us) (EP X a I Q) X.xe s:=by
 let g:=h (s.u.L.y+1) s.u.L.y (B.ϥ.Ξ (Nat.le_succ _)) (B.ϥ.Ξ (Bg _)) rfl
 let d:=Inv.made (C:=C) B
 let i:Ap (V.I (s.u.L.y+1)::(vs++dvs)) (DR (s.u.L.y+1)::(us++ds)):=.Α rfl (r.Β hd)
 let o:(DR (s.u.L.y+1)::us++ds).a=ps.a:=by
  let e:=i.a
  rw[F.ϧ _ _ _ _ g]at e
  show e.Ζ
 apply wpAny_call (o7 (f:=f) B.kIn M.makes M.init (beq_iff_eq.mp M.fn) (codeAny_mono (F.run _ X.ϛ _ _ #[DR (s.u.L.y+1)::us,[]] (DR (s.u.L.y+1)::(us++ds)) _ _ E (j.make C us [])
  (d.env0.make C us []) (l _ (DR (s.u.L.y+1)::us) d.kIn o) i g) λr p b=>?_))
 cases r with
 |error e=>show m a I _ _ e p d b
 |ok q=>
  cases q with
  |ret u=>
   let(v,t,y,z,rfl,q3):=d.after b
   show#[z,#[V.I (s.u.L.y+1),t,y,rfl,q3]]
  |next=>show B6 b
  |brk=>show B6 b
  |cont=>show B6 b
def
pz(M:Mk X.K C f)(F:AY X.δ X.w X.K X.mg X.ω CX k f fd ps sp)(i:AJ (k+1) X.A)(j:Gl X x)(l:X.mg x=Z (.I C))(m:Binds X.K fd ps ds)(hd:Ap dvs ds)(n:Fv CX X E) (o:PA X (e::es) t) (b:Ew x:=by ext) (u:AH (e::es) X.C=(O',Aq e X.C)::AH es X.C:=by rfl) (c:(AA pos (AH es X.C)).any (·.1)=O':=by rfl):PE X (.Ν (.β x p) (e::es) [] pos) (px C sp dvs E t):=by
 intro a s v H Q d h;show NC<|SM d j l (PySem.W.callWith_K (h₀:=X.base) d.ok.mod.kin M.kp (Ba (o pos a s v H _ d h) λy z ⟨B,G,g,r,q⟩=>#[g.kIn,py M F i m hd n g r q]) u c) b
end
def PK(X:Cx)(b:U EA)(t:TA):V':=
 ∀(c:AC) (a:A1) (s:Ab) (d:St) (H:Hp) (Q:U V->Hp->V'),Inv X a d H s->t d H Q->wpAny (Ah X.δ X.w) X.A (evalAll ((Gy c (Gz b X.C)).j (·.2))) (AP X a d Q) X.xe s
variable {k:Y}{f:Ac}{x m:Ae}{p kpos:AC}{e:Expr}{kws:U EA}{t:TA}{nm:O Ae}
def
pA:PK X [] NB:=λ_ _ _ _ H Q a h=>wpAny_evalAll_nil #[[],H,a,.ώ,h]
def
pB(c:PE X e te)(d:PK X kws t):PK X (#[nm,e,kpos]::kws) (YK te t):=by
 intro pos a s b H Q v h;show wpAny_evalAll_cons<|An<|Ba (c a s b H _ v h) λu f ⟨x,g,i,j,k⟩=>An<|wpAny_standAt<|AV<|Ba (d pos a f b g _ i k) λq r ⟨l,m,n,o,p⟩=>#[x::l,m,n,.Α j o,p]
end
structure Fw(N P:List Ae)(sc:Scope):V' where
 kind:sc.g7=.Ϸ
 co:sc.isCoroutine=O'
 gen:sc.isGenerator=O'
 nd:N.θ
 pre:N.ϣ P.a=P
 par:∀x∈P,sc.τ.X x=Z .ϔ\/sc.τ.X x=Z .Ο
 nofree:∀y∈sc.τ,y.2≠.ϊ
def
YO{kindOf:Ae->O HD}{x:Ae}:∀{a:U (Ae×Aa)}{m:BP},(∀v,(x,v)∉a)->bindL kindOf a m x=m x
 |[],_,_=>rfl
 |(n,v)::r,m,h=>by
  unfold bindL;rw[YO λw b=>h w<|Bk _ b];split
  .grind [Bb]
  .rfl
def
YP{kindOf:Ae->O HD}{x:Ae}:∀{a:U (Ae×Aa)}{m:BP},(∀v,(x,v)∉a)->bindC kindOf a m x=m x
 |[],_,_=>rfl
 |(n,v)::r,m,h=>by
  unfold bindC;rw[YP λw b=>h w<|Bk _ b];split
  .rfl
  .grind [Bb]
def
YQ{kindOf:Ae->O HD}{x:Ae}{v:Aa}:∀{P:U Ae}{vs:U Aa}{i:Y}{m:BP},P.θ->P[i]?=Z x->vs[i]?=Z v->kindOf x=Z .ϔ->bindL kindOf (P.zip vs) m x=Z v
 |[],_,_,_,_,h,_,_=>by simp at h
 |_::_,[],_,_,_,_,h,_=>by simp at h
 |p::P,w::vs,0,m,nd,a,b,c=>by
  simp at a b;subst a;subst b;change bindL kindOf ((p,w)::P.zip vs) m p=_
  unfold bindL;rw[YO λv hv=>(E7.mp nd).1 (ND hv).1,if_pos c];simp
 |p::P,w::vs,i+1,m,nd,a,b,c=>by
  unfold bindL;show YQ (i:=i) (E7.mp nd).2 (by exists a) (by exists b) c
def
YR{kindOf:Ae->O HD}{x:Ae}{v:Aa}:∀{P:U Ae}{vs:U Aa}{i:Y}{m:BP},P.θ->P[i]?=Z x->vs[i]?=Z v->kindOf x≠Z .ϔ->bindC kindOf (P.zip vs) m x=Z v
 |[],_,_,_,_,h,_,_=>by simp at h
 |_::_,[],_,_,_,_,h,_=>by simp at h
 |p::P,w::vs,0,m,nd,a,b,c=>by
  simp at a b;subst a;subst b;change bindC kindOf ((p,w)::P.zip vs) m p=_
  unfold bindC;rw[YP λv hv=>(E7.mp nd).1 (ND hv).1,if_neg c];simp
 |p::P,w::vs,i+1,m,nd,a,b,c=>by
  unfold bindC;show YR (i:=i) (E7.mp nd).2 (by exists a) (by exists b) c
def HE(N:U Ae)(vs:U V):St:=vs.j Z++EV (N.a-vs.a) J
def Ei(CX:Eg)(P:AS)(w:Ai)(K:Ao)(mg:BP)(base:Al)(N:U Ae)(a:Ae)(scope:Scope)(f:Ac)(c:Aa)(A:Ag)(outer:U Env)(s:Ab)(H:Hp)(E:XK):Cx where
 prog:=P
 w:=w
 K:=K
 mg:=mg
 base:=base
 A:=A.Ϧ (Bt a scope s.u.L.y f c)
 N:=N
 s₀:=s
 H₀:=H
 env:=Bt a scope s.u.L.y f c
 outer:=outer
 stack:=Bt a scope s.u.L.y f c::outer
 ex:=[]
 calm:=J'
 fn:=λ_=>J'
 pn:=[]
 xe:=λe d=>wpAny (Ah P w) (A.Ϧ (Bt a scope s.u.L.y f c)) (leaving (Bt a scope s.u.L.y f c) e) (λ_ b=>CX outer H s E e b) (λg b=>CX outer H s E g b) d
def
YS{a:Scope}{n:Y}{x:Ae}(h:a.τ.X x=Z .Ο):∃c,(cellsFrom n a.τ []).X x=Z c:=by
 let q:=PySem.W.cellsFrom_some a.τ n []<|.O h;show Option.isSome_iff_exists.mp q
def
pC{P:AS}{w:Ai}{K:Ao}{mg:BP}{base:Al}{N ps:U Ae}{d:Ae}{f:Ac}{B:Aa}{A:Ag}{outer:U Env}{s s1:Ab}{E:XK}{us:U Aa} (S:Fw N ps scope) (hd:A.Ϝ=J) (j:Dj P w K mg base A outer s H) (F:vs.a=ps.a) (r:Ap vs us) (x:InCallC s s.u.L.y (bindL (Bt d scope s.u.L.y f B).gV (ps.zip us) λ_=>J) (cellsFrom (s.u.L.y+1) scope.τ []) (bindC (Bt d scope s.u.L.y f B).gV (ps.zip us) λ_=>J) s1):Inv (Ei CX P w K mg base N d scope f B A outer s H E) [] (HE N vs) H s1:=by
 let L:ps.a<=N.a:=by have:=congrArg List.a S.pre;rw[PH]at this;lia
 let(C,Q,rfl,G):=x.done;let l:∀b:Ac,b∉(Ei CX P w K mg base N d scope f B A outer s H E).ex:=λb z=>absurd (show b∈([]:U Ac)from z) (by simp);apply#[#[j.mod,S.g7,rfl,rfl,Bg _,λy z c C g=>?_,λy m=>?_,λy c _ h=>?_,λ_=>hd,Around.frames_deeper j.frames,.ρ #[rfl,rfl],λb z=>absurd z<|l b,j.bs,j.bsz,λb _ _=>l b,λb z=>absurd z<|l b,j.funs,j.frf],
  rfl,j.bare,Un.ϭ G,#[_,x.toInCall.ns,λi y v C g T=>?_],λy c h=>#[_,x.Ο y c h],j.ϥ.Ξ<|Bg _,λy c h=>?_,λp hp=>absurd (show p∈([]:A1)from hp) (by simp),j.ϥ.ϭ G,?_]
 .show name_of_addr x.apart (KN C)<|KN g
 .rcases m with m|m
  .show YS m
  .show absurd rfl<|S.nofree _<|KN m
 .show Nat.϶<|x.above y c<|KN h
 .let o:i<vs.a:=by
   unfold HE at g;by_cases o:i<vs.a
   .show o
   .rw[KO (by exists o),KP]at g;split at g<;>ext g
  let M:vs[i]?=Z v:=by
   unfold HE at g;rw[Fx (by exists o),CW]at g;cases e:vs[i]? with
   |none=>rw[e]at g;cases g
   |some a=>rw[e]at g;ext g;rfl
  let(u,W,R):=r.Χ M;let hp:ps[i]?=Z y:=by
   rw[<- S.pre,List.getElem?_take_of_lt<|KQ o F];show C
  let t:ps.θ:=S.pre ▸ S.nd.sublist (List.take_sublist _ _);apply#[u,R,?_];rcases S.par y (Ej hp)with k|k
  .show .O #[k,YQ t hp W k]
  .let(c,e):=YS (n:=s.u.L.y+1) k;apply .ρ #[.O k,c,e,?_];let q:=x.Ο y c e;rw[YR t hp W (by change scope.τ.X y≠_;rw[k];decide)]at q;show q
 .show j.ϥ.Ξ<|Nat.϶<|x.above y c<|KN h
 .unfold HE;change _=N.a
  rw[E8,Bx,L5];lia
def
pD{P:AS}{w:Ai}{K:Ao}{mg:BP}{base:Al}{k:Y}{f:Ac}{name a:Ae}{c:Arguments}{g:U AE}{M R m pm d ct Y':Aa}{T od:O Ac} {B:Array (O Aa)} {N ps:U Ae} {sp:Sp} (lk:K.X f=Z #[Y',od,.func (JN name a c g scope M R m pm T d ct),B]) (C:PySem.W.codeIn K d a=J') (S:Fw N ps scope) (len:∀vs H Q E,sp vs H Q E->vs.a=ps.a) (i:∀(A:Ag) (outer:U Env) (s:Ab) (H:Hp) (vs:U V) (Q:VK) (E:XK),AJ k (A.Ϧ (Bt a scope s.u.L.y f d))->sp vs H Q E->∃t,E5 (Ei CX P w K mg base N a scope f d A outer s H E) g t/\t {nx:=λ_ H'=>Q .κ H',rt:=Q} (HE N vs) H):AY P w K mg base CX (k+1) f (JN name a c g scope M R m pm T d ct) ps sp:=by
 apply#[len,λA outer s H args us vs Q E G p hb r z=>?_];let X:K.In s.u:=p.mod.kin.keeps λb o e=>(p.bs b o e).1;let j:∀y∈ps.zip us,scope.τ.X y.1=Z .ϔ\/(scope.τ.X y.1=Z .Ο/\((cellsFrom (s.u.L.y+1) scope.τ []).X y.1).υ=J'):=λ⟨n,v⟩ hy=>by
  rcases S.par n (ND hy).1 with q|q
  .show .O q
  .show .ρ #[q,PySem.W.cellsFrom_some _ _ _<|.O q]
 apply codeAny_call_function G.depth (X _ _ lk) rfl S.co S.gen rfl (PySem.W.codeRec_of X C)<|hb _ _ _ _ ?_;apply wpAny_newFunctionEnv_cells S.kind j λenv he s1 x=>?_;subst he;apply#[(p.mod.nolimit.keeps λb o e=>(p.bs b o e).1).keeps x.toInCall.keep,codeAny_func ?_];let(t,ht,hq):=i A outer s H vs Q E (G.Ϧ _) z;apply wpAny_mono (ht [] s1 (HE N vs) H _ (pC S G.hd p (len _ _ _ _ z) r x) hq) (λfl zA l=>?_) λe zA l=>l;let fin:∀{h:St} {H':Hp} {v:V} {u:Aa},Inv (Ei CX P w K mg base N a scope f d A outer s H E) [] h H' zA->RelV v u->Q v H'->CE outer P w H s Q u zA:=
  λ{h H' v u} F L q=>#[v,H',F.os,F.bare,F.ω,F.ϥ,L,q]
 cases fl with
 |ret u=>
  let(v,h,H',F,L,q):=l;show fin F L q
 |next=>
  let(h,H',F,q):=l;show fin (v:=V.κ) (u:=Value.Η) F rfl q
 |brk=>
  let(_,_,_,q):=l;show B6 q
 |cont=>
  let(_,_,_,q):=l;show B6 q
variable {x:Ae}{p:AC}{e:Expr}{t:TA}{id T:String}{r:U V->Hp->VK->V'}
def PJ(r:U V->Hp->VK->V')(t:TA):TE:=λa H Q=>t a H λb c=>r b c Q
def
pE(hc:Fi X (.Γ id) r)(f:Gl X x)(g:X.mg x=J)(hv:Fs x=Z (.Γ id))(i:PA X (e::es) t)(j:x≠"__name__":=by ext)(b:Ew x:=by ext) (k:AH (e::es) X.C=(O',Aq e X.C)::AH es X.C:=by rfl) (c:(AA pos (AH es X.C)).any (·.1)=O':=by rfl):PE X (.Ν (.β x p) (e::es) [] pos) (PJ r t):=by
 intro a s d H Q w h;show NC<|Ig w f g hv (PyProof.Rows.callWith_builtin1 (Ba (i pos a s d H _ w h) λl m ⟨n,o,q,u,v⟩=>hc a m d o n l Q q u v) k c) j b
def
YT(hc:Fi X (.ι T) r)(f:Gl X x)(g:X.mg x=J)(hv:Fs x=Z (.ι T))(i:PA X (e::es) t)(j:x≠"__name__":=by ext)(b:Ew x:=by ext) (k:AH (e::es) X.C=(O',Aq e X.C)::AH es X.C:=by rfl) (c:(AA pos (AH es X.C)).any (·.1)=O':=by rfl):PE X (.Ν (.β x p) (e::es) [] pos) (PJ r t):=by
 intro a s d H Q w h;show NC<|Ig w f g hv (Nv (Ba (i pos a s d H _ w h) λl m ⟨n,o,q,u,v⟩=>hc a m d o n l Q q u v) k c) j b
end
end Internal
variable{H H' H0:Internal.Hp}{X Y':Internal.Cx}{I:Internal.St}{vs ys:U Internal.V}{us:U (U Internal.At×Ac×Aa)}{Q:Internal.VK}{CX:Internal.Eg}{D':Internal.Ends}{ta tb te:Internal.TE}{wi:Internal.TI}
namespace HT
open PySem PyProof.Rows
def
rcLt_int(A:Ag)(s:Ab)(a:W')(t:Tok)(c:W')(u:Tok)(prog:AS)(w:Ai)(E:AR)(Q:AR)(h:Q (.Ϡ (decide (a<c))) s):wpAny (Ah prog w) A (richCompare .Lt (.o a t) (.o c u)) Q E s:=(PyProof.Rows.lt_int h:wpAny (Ah prog w) A (DT .Lt (.o a t)<|.o c u) Q E s)
variable {prog:AS}{w:Ai}{A:Ag}{s:Ab}
def sIx(n d:Y):O W'->Y
 |none=>d
 |some v=>if v<0 then(v+(n:W')).ν else min v.ν n
def
YU(v:W')(n d:Y):(if v<0 then max (v+(n:W')) 0 else min v (n:W'))=((sIx n d (Z v):Y):W'):=by
 show(if v<0 then max (v+(n:W')) 0 else min v (n:W'))=(((if v<0 then(v+(n:W')).ν else min v.ν n):Y):W')
 grind
def
pF(lo a:O W')(n:Y):YV lo a 1 (n:W')=(((sIx n 0 lo:Y):W'),((sIx n n a:Y):W')):=by
 unfold YV;apply Prod.ext ?_ ?_
 .cases lo with
  |none=>rfl
  |some v=>show YU v n 0
 .cases a with
  |none=>rfl
  |some v=>show YU v n n
def
pG(i j:Y):S5 (i:W') (j:W') 1=j-i:=by
 unfold S5;grind
def
YW{v:Aa}{o:O W'}{Q:O W'->Ab->V'}(p:IsPart v o)(h:Q o s):wpAny (Ah prog w) A (Builtin.Slice.slicePartIndex v) Q E s:=by
 cases p with
 |none=>show slicePart_none h
 |int i t=>show slicePart_int h
def
pH{f:Ac}{d e:Aa}{lo a:O W'}{n:Y}{Q:W'×W'×Y->Ab->V'}(g:s.u.IsSliceOf f d e .Η)(pl:IsPart d lo)(i:IsPart e a) (h:Q (((sIx n 0 lo:Y):W'),1,sIx n n a-sIx n 0 lo) s):wpAny (Ah prog w) A (Builtin.Slice.sliceApplied (.I f) (Ax (n:W'))) Q E s:=by
 let(os,b,j,c):=id g;apply An<|An<|F3 b c (x:=d) rfl (An<|F3 b c (x:=e) rfl (An<|F3 b c (x:=.none) rfl (AV ?_)));apply An<|slicePart_none ?_;apply An<|YW pl<|An<|YW i<|An<|AV ?_;change wpAny _ _ (match YV lo a 1 (n:W')with|(lo,a)=>Ax (lo,(1:W'),S5 lo a 1)) _ _ s
 rw[pF lo a n];change wpAny _ _ (Ax (((sIx n 0 lo:Y):W'),(1:W'),S5 ((sIx n 0 lo:Y):W') ((sIx n n a:Y):W') 1)) _ _ s
 rw[pG];show AV h
def
pI(xs:Array Aa)(i k:Y):((AW k).Ϗ λ(m:Y)=>xs[((i:W')+(m:W')*1).ν]?).E=((xs.α.Ψ i).ϣ k).E:=by
 let e:(λ(m:Y)=>xs[((i:W')+(m:W')*1).ν]?)=λm=>xs[i+m]?:=by
  grind
 have:=pick_run xs i k;let a:((λx=>xs[x]?)∘λx=>i+x)=λm=>xs[i+m]?:=rfl;simp_all
def
getItem_tuple_cut{t g:Ac}{i j:Aa}{lo a:O W'}{Q:AR}(b:IsTup s.u t items)(k:s.u.IsSliceOf g i j .Η)(pl:IsPart i lo)(o:IsPart j a) (p:sIx items.y 0 lo=0/\sIx items.y items.y a=items.y->Q (.I t) s) (h:¬ (sIx items.y 0 lo=0/\sIx items.y items.y a=items.y)->Q (.I s.u.L.y) {s with heap:=s.u.ύ {cls:=.ι "tuple",data:=.ϴ ((items.α.Ψ (sIx items.y 0 lo)).ϣ (sIx items.y items.y a-sIx items.y 0 lo)).E} }) (hsz:items.y<=Av):wpAny (Ah prog w) A (getItem (.I t) (.I g)) Q E s:=by
 let(os,d,e,q):=id k;unfold getItem;try with_reducible apply F2 ?_
 apply An<|wpAny_sequenceKey b.ϕ (by ext) ?_;apply An (L6 (name:=JP "__getitem__") b.ϕ PyProof.Rows.Ϻ
  (KR PyProof.Rows.Ϻ b.ϕ entry_tuple_getitem ?_<|args_tuple_getitem _ _))
 change wpAny _ _ (Builtin.ϫ.tupleItemsOf (.I t) >>= _) _ _ s
 apply An<|tupleItemsOf_ b ?_;apply An<|L7 ⟨os,d,e⟩ ?_;apply An<|pH k pl o ?_;change wpAny _ _ (if(((sIx items.y 0 lo:Y):W')==0&&(1:W')==1&&(sIx items.y items.y a-sIx items.y 0 lo)==items.y)=J' then _ else _) _ _ s
 by_cases n:sIx items.y 0 lo=0/\sIx items.y items.y a=items.y
 .let c:((((sIx items.y 0 lo:Y):W')==0&&(1:W')==1&&(sIx items.y items.y a-sIx items.y 0 lo)==items.y)=J'):=by
   simp_all
  rw[if_pos c];show An<|An<|L7 b.ϕ<|AV<|An<|JQ<|AV ⟨_,rfl,AV<|p n⟩
 .let f:¬ ((((sIx items.y 0 lo:Y):W')==0&&(1:W')==1&&(sIx items.y items.y a-sIx items.y 0 lo)==items.y)=J'):=by
   simp_all
  rw[if_neg f,pI];show An (m:=Builtin.ϫ.tupleExact _) (KU (AV #[_,rfl,AV<|h n])<|BN ((List.take_sublist _ _).G<|List.drop_sublist _ _).length_le hsz)
end
end HT
namespace Internal
open PySem PySem.Spec PyProof.Rows
abbrev TO:=St->Hp->(O W'->Hp->V')->V'
def PO(X:Cx)(e:O Expr)(t:TO):V':=
 ∀(a:A1) (s:Ab) (b:St) (H:Hp) (Q:O W'->Hp->V'),Inv X a b H s->t b H Q ->
  wpAny (Ah X.δ X.w) X.A (evalPart e X.C) (λu d=>∃o c,Inv X a b c d/\IsPart u o/\Q o c) X.xe s
def pJ:TO:=λ_ H Q=>Q J H
def pK(t:TE):TO:=λa H Q=>t a H λx b=>∃i,x=.o i/\Q (Z i) b
def
PL{ns:U W'}:∀{us:U Aa},Ap (ns.j V.o) us->IntsAre us ns:=by
 induction ns with|nil=>intro us r;rw[Do]at r;ext r;show .ώ|cons n ns a=>
  intro us r;cases r with
  |cons b c=>
   let(t,rfl):=b;show .Α n t<|a c
variable {e:Expr}{lo hi:O Expr}{tl th:TO}
def
pL:PO X J pJ:=by
 intro a s b H Q c h;show AV #[J,H,c,.Η,h]
def
pM(h:PE X e te):PO X (Z e) (pK te):=by
 intro a s b H Q l c;apply Ba (h a s b H _ l c) λu k d=>?_;let(x,f,g,j,i,rfl,q):=d;let(t,rfl):=j;show#[Z i,f,g,.o i t,q]
def JR(X:Cx)(r:V->O W'->O W'->Hp->VK->V'):V':=
 ∀(a:A1) (s:Ab) (b:St) (H:Hp) (x:V) (v c d:Aa) (lo hi:O W') (e:Ac) (Q:VK),Inv X a b H s->RelV x v->s.u.IsSliceOf e c d .Η->IsPart c lo->IsPart d hi->r x lo hi H Q ->
  ∃T id,typeLookup (.ι T) "__getitem__"=Ax (Z (.Γ id))/\s.TypeIs v T/\wpAny (Ah X.δ X.w) X.A (getItem v (.I e)) (EP X a b Q) X.xe s
def
JR.or{r b:V->O W'->O W'->Hp->VK->V'}(h:JR X r)(h':JR X b):JR X (λx lo hi H Q=>r x lo hi H Q\/b x lo hi H Q):=by
 intro a s c H x v d e lo hi f Q l g i j k q;rcases q with q|q
 .show h a s c H x v d e lo hi f Q l g i j k q
 .show h' a s c H x v d e lo hi f Q l g i j k q
def pN(r:V->O W'->O W'->Hp->VK->V')(te:TE)(tl th:TO):TE:=λa H Q=>te a H λx b=>tl a b λl c=>th a c λu d=>r x l u d Q
def
pO{r:V->O W'->O W'->Hp->VK->V'}(j:JR X r)(k:PE X e te)(m:PO X lo tl)(n:PO X hi th):PE X (.μ e (.Slice lo hi J p2) pos) (pN r te tl th):=by
 intro a s d H Q P h;apply Subscript_<|Ba (k a s d H _ P h) λv o f=>?_;let(x,p,t,w,y):=f;apply wpAny_Slice<|Ba (m a o d p _ t y) λg z ⟨l,A,B,C,E⟩=>Ba (n a z d A _ B E) λi c f=>?_;let(u,G,F,L,q3):=f;apply AV ?_;let(T,id,M,N,K):=j a {c with heap:=c.u.ύ {cls:=.ι "slice",data:=.Ϙ (T' [g,i,.Η])} } d G x v g i l u c.u.L.y Q (F.ϭ (t':=c.Ε) λb ob q=>BR _ q) w (Heap.IsSliceOf.new ..) C L q3;show tail_any (ops:=[.I c.u.L.y,v]) N M K (by with_unfolding_all rfl)
def IW(xs:U V)(lo hi:O W'):U V:=(xs.Ψ (HT.sIx xs.a 0 lo)).ϣ (HT.sIx xs.a xs.a hi-HT.sIx xs.a 0 lo)
def
YX(xs:U V)(lo hi:O W'):(IW xs lo hi).a<=xs.a:=((List.take_sublist _ _).G<|List.drop_sublist _ _).length_le
end
def Ek(n:Y)(i:W'):O Y:=if 0<=i then(if i<n then Z i.ν else J)else if -(n:W')<=i then Z (i+n).ν else J
def atI{a:Type}(xs:U a)(i:W'):O a:=(Ek xs.a i).J λj=>xs[j]?
def
YY{n:Y}{i:W'}{j:Y}(h:Ek n i=Z j):seqIndex? i n=Z j/\j<n /\ -(n:W')<=i/\i<n:=by
 unfold Ek at h;by_cases b:0<=i
 .rw[if_pos b]at h;by_cases a:i<n
  .rw[if_pos a]at h;show#[by rw[seqIndex_of b a,E6 h],∅,∅,a]
  .rw[if_neg a]at h;ext h
 .rw[if_neg b]at h;by_cases a : -(n:W')<=i
  .rw[if_pos a]at h;show#[by rw[seqIndex_neg (PM b) a,E6 h],∅,a,∅]
  .rw[if_neg a]at h;ext h
def
S7{a:Type}{xs:U a}{i:W'}{v:a}(h:atI xs i=Z v):∃j,seqIndex? i xs.a=Z j/\xs[j]?=Z v/\j<xs.a /\ -(xs.a:W')<=i/\i<xs.a:=by
 unfold atI at h;cases e:Ek xs.a i with|none=>rw[e]at h;cases h|some j=>
  rw[e]at h;let(b,c,d,f):=YY e;show#[j,b,h,c,d,f]
def
ZE{a:Type}{xs:U a}{j:Y}{v:a}(h:xs[j]?=Z v):atI xs (j:W')=Z v:=by
 let b:j<xs.a:=(Bp.mp h).1;let e:Ek xs.a (j:W')=Z j:=by
  unfold Ek;rw[if_pos ∅,if_pos ∅];simp
 unfold atI;rw[e];show h
def NE(b:Expr):V':=∀o i,subscripted b O' o i=operate [o,i] (getItem o i)
def HF(X:Cx)(r:R2):V':=
 ∀(b slice:Expr) (a:A1) (s:Ab) (c:St) (H:Hp) (x y:V) (v u:Aa) (Q:VK),Inv X a c H s->RelV x v->RelV y u->r x y H Q ->
  subscripted slice O' v u=operate [v,u] (getItem v u)->wpAny (Ah X.δ X.w) X.A (subscriptTail b slice v u) (EP X a c Q) X.xe s
def KV(X:Cx)(id:String)(r:V->U V->Hp->VK->V'):V':=
 ∀(a:A1) (s:Ab) (b:St) (H:Hp) (x:V) (c:U V) (v:Aa) (d:U Aa) (Q:VK),Inv X a b H s->RelV x v->Ap c d->r x c H Q ->
  wpAny (Ah X.δ X.w) X.A (call (.Γ id) (v::d)) (EP X a b Q) X.xe s
variable {a b:Expr}
def
HF.or{r c:R2}(h:HF X r)(h':HF X c):HF X (λx y H Q=>r x y H Q\/c x y H Q):=by
 intro a slice b s d H x y v u Q i e f q g;rcases q with q|q
 .show h a slice b s d H x y v u Q i e f q g
 .show h' a slice b s d H x y v u Q i e f q g
def
pP{r:R2}(d:HF X r)(e:PE X a ta)(f:PE X b tb)(g:NE b):PE X (.μ a b pos) (KD r ta tb):=by
 intro c s i H Q o h;show Subscript_<|SU e f o h λv u j x y k l m n q=>d a b c j i k x y v u Q l m n q<|g _ _
def YZ(K:Ao):R2:=λx y H Q=>∃p a i v,x=.I p/\y=.o i/\Ca K H p a/\atI a i=Z v/\Q v H
def Y0(K:Ao):R2:=λx y H Q=>∃p a i v,x=.I p/\y=.o i/\Ck K H p a/\atI a i=Z v/\Q v H
def Y1:R2:=λx y H Q=>∃z i c,x=.Ι z/\y=.o i/\z.a<=Av/\atI z.Ϩ.α i=Z c/\Q (.Ι #[(T' [c])]) H
def
IX:HF X (YZ X.K):=by
 rintro e slice a s m H x y v u Q R n o ⟨p,M,i,z,rfl,rfl,A,B,q⟩ k;ext n;let(t,rfl):=o;let(f,r,g,hz):=R.Ϥ A;let(j,c,C,N,E,G):=S7 B;let(w,l,b):=r.Χ C;let F:=r.a;let P:=Nz;by_cases d:0<=i
 .let h:i.ν=j:=by
   rw[seqIndex_of d G]at c;show E6 c
  show item_listR g.ό d ∅ (by rw[h];exists l) #[z,H,R,b,q] k
 .let h:(i+(f.E.y:W')).ν=j:=by
   rw[seqIndex_neg (PM d) E]at c;rw[Ce,<- F];show E6 c
  show subscriptTail_builtinR (x:=w) g.ό.ϕ slot_list_getitem.X
   (wpAny_getItem_list_neg (Q:=λr L=>r=w/\EP X a m Q r L) g.ό (PM d) (by rw[Ce]<;>lia) ∅ (by rw[h];exists l) #[rfl,#[z,H,R,b,q]]) k
def
KW:HF X (Y0 X.K):=by
 rintro b slice a s e H x y v u Q M f g ⟨p,C,i,z,rfl,rfl,h,k,q⟩ l;ext f;let(t,rfl):=g;let(m,r,d,hz):=M.ϒ h;let(j,n,o,E,G,F):=S7 k;let(w,A,c):=r.Χ o;let L:=Nz;show subscriptTail_builtinR (x:=w) d.ϕ slot_tuple_getitem.X
  (getItem_tuple (j:=j) (Q:=λr B=>r=w/\EP X a e Q r B) d ∅ ∅ (by rw[Ce,<- r.a];show n) (by exists A) #[rfl,#[z,H,M,c,q]]) l
def
pQ:HF X Y1:=by
 rintro a slice b s n H x y v u Q w e f ⟨z,i,c,rfl,rfl,hz,g,q⟩ h;let(t,rfl):=e;let(o,rfl):=f;let(j,d,k,p,l,m):=S7 g;rw[show z.Ϩ.α.a=z.a by simp[Str.length]]at d l m;let r:=Nz;show tail_any (typeIs_str s z t) slot_str_getitem.X (getItem_str (c:=c) (by
  grind) (by rw[d];exists k) #[.Ι #[(T' [c])],H,w.tok _,#[_,rfl],q]) h
def Y2(K:Ao):R2:=λx y H Q=>YZ K x y H Q\/Y0 K x y H Q\/Y1 x y H Q
def
pR:HF X (Y2 X.K):=IX.or<|KW.or pQ
def
pS(a:U Aa)(n j:Y)(u:Aa):F4 (·.setIfInBounds j u) {cls:=.ι "list",data:=.ϴ a.E n}={cls:=.ι "list",data:=.ϴ (a.ξ j u).E n}:=by
 simp[F4]
def
Inv.lst{b:A1}{s:Ab}{p:Ac}{xs:U V}(c:Inv X b I H s)(h:H p=Z (.R xs)):∃(a:U Aa) (n:Y),Ap xs a/\s.u.U p=Z {cls:=.ι "list",data:=.ϴ a.E n}/\xs.a<=Av:=by
 let(z,a,n,r,e):=c.ϥ p _ h;show#[a,n,r,e,z]
def
Inv.lstUpd{a:A1}{s:Ab}{p:Ac}{xs:U V}{c its':U Aa}{n d:Y}{f:Obj->Obj}(k:Inv X a I H s)(h:H p=Z (.R xs)) (i:s.u.U p=Z {cls:=.ι "list",data:=.ϴ c.E n}) (g:f {cls:=.ι "list",data:=.ϴ c.E n}={cls:=.ι "list",data:=.ϴ its'.E d}) (r:Ap ys its') (hz:ys.a<=Av) (t:Y):Inv X a I (AL H p (.R ys)) {s with heap:=s.u.Ϭ p f,toks:=t}:=by
 let e:(s.u.Ϭ p f).U p=Z {cls:=.ι "list",data:=.ϴ its'.E d}:=by
  rw[PN f i (by rw[g]<;>rfl),g]
 apply k.write (x:=p) (e:=p) (by rw[h];trivial) (.O rfl) (λb u j q=>(Ta _ _<|B8 j).G q) ⟨_,e⟩ ?_;show⟨hz,its',d,r,e⟩
def pT:V->V->V->Hp->(Hp->V')->V':=λo i v H Q=>∃p a k j,o=.I p/\i=.o k/\H p=Z (.R a)/\Ek a.a k=Z j/\Q (AL H p (.R (a.ξ j v)))
def
Y3:SQ X pT:=by
 intro a s m H o i v B C u Q F w x y zQ;let(p,z,k,j,rfl,rfl,hp,A,q):=zQ;ext w;let(t,rfl):=x;let(b,n,r,e,hz):=F.R hp;let(c,E,g,h):=YY A;let G:=Nz;let l:Inv X a m (AL H p<|.R<|z.ξ j v) {s with heap:=s.u.Ϭ p (F4 (·.setIfInBounds j u))}:=
  F.lstUpd hp e (pS b n j u) (r.ξ y j) (by rw[Il];show hz) s.Ε
 by_cases d:0<=k
 .let f:k.ν=j:=by
   rw[seqIndex_of d h]at c;show E6 c
  show PySem.W.ki_setAt e d ∅ (by rw[Ce,<- r.a];show h)<|f ▸ ⟨_,l,q⟩
 .let f:(k+(b.E.y:W')).ν=j:=by
   rw[seqIndex_neg (PM d) g]at c;rw[Ce,<- r.a];show E6 c
  show PySem.W.ki_setBack e (PM d) (by rw[Ce,<- r.a];show g) ∅<|f ▸ ⟨_,l,q⟩
def
pU(lo a:O W')(n:Y):(Cf lo a J n).1=((HT.sIx n 0 lo:Y):W')/\(Cf lo a J n).2.1=((HT.sIx n n a:Y):W')/\(Cf lo a J n).2.2=1:=by
 apply#[?_,?_,rfl]
 .cases lo with|none=>simp[Cf,HT.sIx]|some i=>
   erw[Cf,HT.sIx,Option.getD_none,show(1:W')>0 by ext,if_true];grind
 .cases a with|none=>simp[Cf,HT.sIx]|some i=>
   erw[Cf,HT.sIx,Option.getD_none,show(1:W')>0 by ext,if_true];grind
def
pV(a:U Aa)(lo b:O W'):slicePick a.E lo b J=((a.Ψ (HT.sIx a.a 0 lo)).ϣ (HT.sIx a.a a.a b-HT.sIx a.a 0 lo)).E:=by
 let(c,d,e):=pU lo b a.E.y;unfold slicePick;rw[c,d,e];erw[sliceRange_one,pick_run,Ce]<;>rfl
def pW(K:Ao):V->O W'->O W'->Hp->VK->V':=λx lo c H Q=>∃a b,x=.I a/\Ca K H a b/\∀p,H p=J->Q (.I p) (AL H p (.R (IW b lo c)))
def
IY:JR X (pW X.K):=by
 intro f s n H x v p t lo e u Q w h i j k zQ;let(a,c,rfl,l,q):=zQ;ext h;let(m,r,g,hz):=w.Ϥ l;let d:=r.a;apply#["list",_,slot_list_getitem.X,g.ό.ϕ,?_];apply wpAny_getItem_list_slice g.ό i j k .Η (by simp) ?_ (by rw[Ce]<;>lia);rw[pV,<- d];apply#[.I s.u.L.y,_,w.laid (t':=s.Ε) (o:=.R<|IW c lo e) (λb y q=>BR _ q) (Bg _) ?_,rfl,q _<|w.ϥ.Ξ<|Bg _];show⟨BN (YX c lo e) hz,_,0,(r.Ψ<|HT.sIx c.a 0 lo).ϣ<|HT.sIx c.a c.a e-HT.sIx c.a 0 lo,CD _ rfl⟩
def Y4:V->j'
 |.non=>J'
 |.bl _=>J'
 |.int _=>J'
 |.str _=>J'
 |_=>O'
def pX:V->V->j'
 |.non,.non=>J'
 |.bl a,.bl b=>a==b
 |.bl a,.int b=>(if a then 1 else 0)==b
 |.int a,.bl b=>a==(if b then 1 else 0)
 |.int a,.int b=>a==b
 |.str a,.str b=>a==b
 |_,_=>O'
def
pY:Fi X (.ι "list") (λxs H Q=>∃p ys,xs=[.I p]/\(Ca X.K H p ys\/Ck X.K H p ys)/\∀l,H l=J->Q (.I l) (AL H l (.R ys))):=by
 intro g s m H xs x Q y r zQ;let(p,ys,rfl,h,q):=zQ;let(u,rfl,t):=Ft r;ext t;let fin:∀(a:U Aa),Ap ys a->ys.a<=Av->∀(c:Al) (d:Y),(∀b k,s.u.U b=Z k->c.U b=Z k) ->
   c.U s.u.L.y=Z {cls:=.ι "list",dict:=J,data:=.ϴ a.E d,slots:=(T' [])}->EP X g m Q (.I s.u.L.y) {s with heap:=c}:=λa f hz c d kp e=>
  #[.I s.u.L.y,_,y.laid (t':=s.Ε) kp (Bg _) (show Bo X.δ X.w _ c _ (.R ys)from#[hz,a,d,f,e]),rfl,q _<|y.ϥ.Ξ<|Bg _]
 rcases h with h|h
 .let(a,f,v,hz):=y.Ϥ h;let i:=f.a;let(o,j,hc,n,hd):=v.ό;show call_list_seq p (.O rfl) j hc hd (λc d kp e=>fin a f hz c d kp e) (by erw[Ce]<;>lia)
 .let(a,f,(o,j,hc,n,hd),hz):=y.ϒ h;let i:=f.a;show call_list_seq p (.ρ rfl) j hc hd (λc d kp e=>fin a f hz c d kp e) (by erw[Ce]<;>lia)
def
pZ:Fi X (.ι "tuple") (λxs H Q=>∃p ys,xs=[.I p]/\((Ca X.K H p ys/\∀l,H l=J->Q (.I l) (AL H l (.S ys)))\/(Ck X.K H p ys/\Q (.I p) H))):=by
 intro g s n H xs t Q j r h;let(p,ys,rfl,h):=h;let(u,rfl,k):=Ft r;ext k;rcases h with⟨c,q⟩|⟨c,q⟩
 .let(a,d,f,hz):=j.Ϥ c;let i:=d.a;show call_tuple_list f.ό (λm kp=>#[.I m.L.y,_,((j.ϭ (t':=s.Ε) kp).laid (t':=s.Ε) (λb o e=>BR _ e) (Bg _) (show Bo X.δ X.w _ _ _ (.S ys)from#[hz,a,d,IsTup.new _ _])),rfl,q _<|(j.ϭ (t':=s.Ε) kp).ϥ.Ξ (Bg _)]) (by erw[Ce]<;>lia)
 .let(a,d,f,hz):=j.ϒ c;show call_tuple_same f #[.I p,H,j,rfl,q]
def PQ(K:Ao)(T:String)(x:V)(H:Hp):V':=match x with
 |.str _=>T="str"
 |.int _=>T="int"
 |.ref p=>(T="list"/\∃a,Ca K H p a)\/(T="tuple"/\∃o,K.X p=Z o/\o.cls=.ι "tuple"/\o.dict=J) \/
   (T="dict"/\(∃ks b,Rd H p (.dct ks b)))
 |_=>False
def
Y5{b:A1}{s:Ab}{T:String}{x:V}{v:Aa}(m:Inv X b I H s)(r:RelV x v)(ty:PQ X.K T x H):s.TypeIs v T/\∀a,v=.I a->∃f,s.u.U a=Z f/\f.dict=J:=by
 cases x with
 |str z=>
  let(t,rfl):=r;cases(show T="str" from ty);show#[typeIs_str s z t,λ_ e=>nomatch e]
 |int i=>
  let(t,rfl):=r;cases(show T="int" from ty);show#[typeIs_int s i t,λ_ e=>nomatch e]
 |ref p=>
  ext r;rcases ty with⟨rfl,l,h⟩|⟨rfl,o,d,hc,hd⟩|⟨rfl,_,_,d⟩
  .let(j,_,g,_):=m.Ϥ h;apply#[g.ό.ϕ,λa e=>?_];ext e;let(o,n,e,c,hd,_):=g;show#[o,e,hd]
  .apply#[#[o,m.kIn p o d,hc],λa e=>?_];ext e;show#[o,m.kIn _ o d,hd]
  .let(_,_,_,o,_,_,e,ex,_):=d.ok m.ϥ;apply#[#[o,e,ex.1],λa k=>?_];ext k;show#[o,e,ex.2.1]
 |_=>show B6 ty
def p0(K:Ao)(T:String)(r:V->U V->Hp->VK->V')(to:TE)(t:TA):TE:=λa H Q=>to a H λx b=>PQ K T x b/\t a b λc d=>r x c d Q
variable{e:Expr}{to:TE}{t:TA}{name:Ae}{T id:String}{r:V->U V->Hp->VK->V'}
def
HG(m:PlainAttrs T)(slot:Slot T name id)(g:typeOf (.Γ id)=Ax (.ι "method_descriptor"))(n:KV X id r)(p:PE X o to)(q:PA X (e::es) t) (c:FQ o name X.C (Aq o X.C)=Aq o X.C:=by rfl) (f:((AA cpos (AH (e::es) X.C)).Ϛ (λx=>!x.1)&&(Gy cpos (Gz [] X.C)).Ϛ (λx=>x.1.υ) && decide ((e::es).a+([]:U EA).a+(if([]:U EA).Φ then 0 else 1)<30))=J':=by rfl) (d:(apos.ϯ==cpos.ϡ)=J':=by rfl) (u:AH (e::es) X.C=(O',Aq e X.C)::AH es X.C:=by rfl) (b:(AA cpos (AH es X.C)).any (·.1)=O':=by rfl):PE X (.Ν (.γ o name apos) (e::es) [] cpos) (p0 X.K T r to t):=by
 intro a s i H Q R h;apply wpAny_Call_method_late c f d rfl<|Ba (p a s i H _ R h) λv w y=>?_;let(x,z,j,k,ty,A):=y;let(B,C):=Y5 j k ty;apply#[T,id,m,slot,g,B,C,?_];let l:=q cpos a w i z _ j A;rw[u]at l ⊢;show Calls.callWith_builtin (by show(O'||(AA cpos<|AH es X.env).any (·.1))=O';rw[b]<;>rfl)<|Calls.evalArgs_plain<|Ba l λE G ⟨F,L,M,N,P⟩=>n a G i L x F v E Q M k N P
end
def PR(X:Cx)(id:String)(r:V->U V->Hp->VK->V'):V':=
 ∀(a:A1) (s:Ab) (b:St) (H:Hp) (x:V) (c:U V) (v:Aa) (d:U Aa) (Q:VK),Inv X a b H s->RelV x v->Ap c d->r x c H Q ->
  wpAny (Ah X.δ X.w) X.A (call (.Γ id) (v::d)) (EP X a b Q) X.xe s
def
Ap.one{x:V}{us:U Aa}(h:Ap [x] us):∃u,us=[u]/\RelV x u:=by
 cases h with
 |cons r t=>ext t;show#[_,rfl,r]
def
Ap.two{x y:V}{us:U Aa}(h:Ap [x,y] us):∃u v,us=[u,v]/\RelV x u/\RelV y v:=by
 cases h with
 |cons r t=>
  cases t with
  |cons q t=>ext t;show#[_,_,rfl,r,q]
def
Ap.eraseIdx:∀{xs:U V}{us:U Aa}(i:Y),Ap xs us->Ap (xs.Τ i) (us.Τ i)
 |_,_,_,.nil=>.ώ
 |_,_,0,.cons _ t=>t
 |_,_,i+1,.cons r t=>.Α r<|Ap.Τ i t
def
Y6{a:Type}:∀(l:U a)(i:Y),(l.Τ i).a<=l.a
 |[],_=>Bg _
 |_::_,0=>Nat.le_succ _
 |_::r,i+1=>L8<|Y6 r i
variable {s:Ab}{l b:Ac}{xs:U V}
def
Inv.lset{a its':U Aa}{n:Y}{f:Array Aa->Array Aa}(i:Inv X pins I H s)(b:H l=Z (.R xs)) (e:s.u.U l=Z {cls:=.ι "list",data:=.ϴ a.E n}) (c:f a.E=its'.E) (hv:Ap ys its') (hz:ys.a<=Av):Inv X pins I (AL H l (.R ys)) {s with heap:=s.u.Ϭ l (F4 f),toks:=t' }:=by
 let q:=PySem.IsL.Ϭ e f;rw[c]at q;apply i.write (x:=l) (e:=l) (b ▸ trivial) (.O rfl) (λh u d g=>(Ta s.u (F4 f)<|B8 d).G g) ⟨_,q⟩ ?_;show⟨hz,its',_,hv,q⟩
def
Inv.lnew{a:U Aa}(b:Inv X pins I H s)(hv:Ap ys a)(hz:ys.a<=Av):Inv X pins I (AL H s.u.L.y (.R ys)) {s with heap:=s.u.ύ {cls:=.ι "list",data:=.ϴ a.E},toks:=t' }:=b.laid (λ_ _ q=>BR _ q) (Bg _) #[hz,a,0,hv,CD _ rfl]
def
Inv.fresh(a:Inv X pins I H s):H s.u.L.y=J:=a.ϥ.Ξ<|Bg _
def
Inv.lstM(c:Inv X pins I H s)(b:H l=Z (.R xs)):xs.a<=Av/\∃(a:U Aa)(n:Y),Ap xs a/\xs.a=a.a/\s.u.U l=Z {cls:=.ι "list",data:=.ϴ a.E n}:=by
 let(z,a,n,r,e):=c.ϥ l _ b;show#[z,a,n,r,r.a,e]
def
p5{n:Y}(h:n<=Av):Builtin.List.listTooLong n=O':=by
 show decide_eq_false<|Nat.not_lt.Ϣ h
end
section
def p6:V->U V->Hp->VK->V':=λx b H Q=>∃l a y,x=.I l/\b=[y]/\H l=Z (.R a)/\a.a<Av/\Q .κ (AL H l (.R (a++[y])))
def
PU:PR X "list.append" p6:=by
 intro b s i H x j v k Q d f g zQ;let(l,m,y,rfl,rfl,c,hz,q):=zQ;ext f;let(u,rfl,h):=g.one;let(z,a,n,r,o,e):=d.lstM c;apply call_meets F.slot_list_append #[_,e,rfl] F.entry_list_append (F.args_list_append_2 _ _) (PySem.list_append l a.E n u (by rw[Ce];lia)) #[e,?_];apply#[.κ,_,d.lset (its':=a++[u]) c e (by simp) (r.Β<|.Α h .ώ) ?_,rfl,q];rw[E8,JU];lia
def p7:V->U V->Hp->VK->V':=λx d H Q=>∃l b a c,x=.I l/\d=[.I b]/\H l=Z (.R a)/\H b=Z (.R c)/\a.a+c.a<=Av/\Q .κ (AL H l (.R (a++c)))
def
p8:PR X "list.extend" p7:=by
 intro g s y H x A v B Q K j k zQ;let(l,b,C,E,rfl,rfl,h,m,hz,q):=zQ
 ext j
 let(u,rfl,o):=k.one
 ext o
 let(z,c,n,r,G,e):=K.lstM h
 let(i,a,n2,p,t,w):=K.lstM m
 let d:c.E.y+a.E.y<=Av:=by rw[Ce,Ce];lia
 let f:¬ (!c.toArray.isEmpty&&Builtin.List.listTooLong (c.E.y+a.E.y))=J':=by
  rw[p5 d,Bool.and_false]
  show JJ
 apply call_meets F.slot_list_extend #[_,e,rfl] F.entry_list_extend (F.args_list_extend_2 _ _)
  (AutoSeq1.list_extend_list_list_0 l c.E n b a.E n2 f (Ce ▸ Tb d) (KY d)) #[e,w,?_]
 apply#[.κ,_,K.lset (its':=c++a) h e (by simp) (r.Β p) ?_,rfl,q]
 rw[E8]
 show W.kdl_size hz
end
section
set_option maxRecDepth 100000 in
end
end Internal
namespace Att
open PySem PySem.W PySem.Calls PyProof.Rows
def
p9{P:Params}{h:Al}:∀(ns:U W')(vs:U Aa),WellAll P h vs (ns.j WData.o)->IntsAre vs ns:=by
 intro ns;induction ns with
 |nil=>
  intro vs w;ext w;show .ώ
 |cons n ns c=>
  intro vs w;cases w with
  |cons a b=>
   ext a;show .Α _ _<|c _ b
def
qa{l:OpenLaw}{n:Y}(q:l.most=Z n){P:Params}{h:Al}{args:U WData}{Zm:U Aa} (b:l.row.toRowW.claim.pre args=J') (f:WellAll P h Zm args):∃a vs ns,Zm=[DR a]/\args=[WData.Ϥ (ns.j WData.o)]/\h.U a=Z {cls:=.ι "list",data:=.ϴ vs.E}/\IntsAre vs ns/\ns.a<=n:=by
 let hc:l.pre.holds [] {args:=args}=J':=(pre_splitW b).2;let(d,r,rfl,i,j):=hasAllW_cons<|(pre_splitW b).1;obtain rfl:=hasAllW_nil j;let(s,rfl,k):=hasW_list i;let(ns,rfl):=items_int k;let c:ns.a<=n:=by
  let g:(WTm.not<|.lt (.lit<|.o n)<|.ϧ<|.arg 0).holds [] {args:=[.Ϥ<|ns.j .o]}=J':=by
   let g:=(holds_andW hc).1;grind
  let t:=condW_of g<|w_not<|w_lt w_lit<|w_len_list<|w_arg rfl;simp_all
 cases f with
 |cons m o=>
  ext o;cases m with
  |list p e=>show#[_,_,ns,rfl,rfl,p,p9 ns _ e,c]
def
qb(l:OpenLaw)(args:U WData):l.row.toRowW.claim.post args (.Ϡ J') args=J':=postW_of (r:=l.row.toRowW) (X:=(J'==J')) (show WShape.has [] (.Ϡ J') .Ϡ=J' by rfl) (show(WTm.eq .res<|.lit<|.Ϡ J').value [] {args:=args,res:=Z<|.Ϡ J',after:=args}=Z (.Ϡ<|true==J')from w_eq_bool (w_res rfl) w_lit) rfl
def
attach_call{l:OpenLaw}{n:Y}{q:AS}{c:U Ae}{y:(BP)->Al->V'}{z:Ai->Al->V'}{d:DefRec}
  (C:l.most=Z n) (s:d.ϲ.defaults=[])
  (call:∀(w:Ai) (s₀ b:Ab) (mg t:BP) (h:Ac) (o:Obj) (pm m e:Aa) (a:Ac) (vs:U Aa) (ns:U W'),
   Ground q c [] y w s₀ mg t b.u->z w b.u ->
   b.u.U h=Z o->o.data=.func (docDef d.name d.ϲ d.body d.Θ pm m e)->b.u.CodeRec m d.name->mg d.name=Z (.I h) ->
   b.u.U a=Z {cls:=.ι "list",data:=.ϴ vs.E}->IntsAre vs ns->ns.a<=n->b.gens=(T' []) ->
   codeAny (Ah l.δ w) callerA (.call (.I h) #[[.I a],[]]) (λr p=>r=.ok (.ϱ (.Ϡ J'))/\OldK b.u p.u/\p.os=b.os/\AllBare p.gens) b):
  WalkO q c y z l.row.toRowW d [] (λf vs=>PySem.call f vs):=by
 intro w s₀ b mg t G Y' h o pm m e E H R hd u A v F args Zm as i B L x M
 obtain rfl:E=.Η:=Dflts.Η A s
 obtain rfl:H=.Η:=Dflts.noKw A
 let(a,vs,ns,rfl,rfl,j,g,k):=qa C i x
 apply enter_call (codeAny_mono (call w s₀ b mg t h o pm m e a vs ns G Y' R (fd_plain hd) u v j g k F) λr p N=>?_)
 let(rfl,K,Q,T):=N
 show#[.O #[.Ϡ J',.Ϡ J',[],rfl,λ_=>rfl,.Ϡ J',qb l _,λ_=>#[List.Pairwise.ώ,λ_ P=>(nomatch P)]],K,Q,T]
end Att
namespace Internal
open PySem PySem.Spec PyProof.Rows
def
Y7{vs:U Aa}{ns:U W'}(h:IntsAre vs ns):Ap (ns.j V.o) vs:=by
 induction h with
 |nil=>show .ώ
 |cons n t _ a=>show .Α #[t,rfl] a
def Tc(H:Hp):V':=∀b,H b=J\/∃o a,H b=Z (.frz o (.R a))
def
qc{P:AS}{w:Ai}{K:Ao}{mg C:BP}{k:Y}{E:Ac}{fd:CH}{x:Ae}{sp:Sp}{c:Ab}{vs:U Aa}{ns:U W'}
  (Q:K.In c.u) (l:c.u.Ns C4 mg) (f:c.u.Ns builtinsNs C) (G:∀x:Ae,x≠"__name__"->C x=Fs x) (p:c.u.NoLimit) (hg:c.gens=(T' []))
  (X:c.u.U a=Z {cls:=.ι "list",data:=.ϴ vs.E}) (R:IntsAre vs ns) (T:ns.a<=Av) (hr:AJ k callerA)
  (F:∀base:Al,K.In base->base.Ns C4 mg->AY P w K mg base CX k E fd [x] sp) (j:∀(s:Ab) (u:Aa),BindsTo s fd #[[u],[]] [(x,u)])
  (L:∀H:Hp,Tc H->Ca K H a (ns.j V.o)->sp [.I a] H (λv _=>v=.bl J') λ_ _ _=>False)
  (M:∀H e g,CX [] H c (λ_ _ _=>False) e g->False):
  codeAny (Ah P w) callerA (.call (.I E) #[[.I a],[]]) (λr g=>r=.ok (.ϱ (.Ϡ J'))/\OldK c.u g.u/\g.os=c.os/\AllBare g.gens) c:=by
 let core:∀H:Hp,Tc H->Ca K H a (ns.j V.o)->CZ P w H c.u->(∀b,H b≠J->b=a)->(H a≠J->K.X a=J) ->
   codeAny (Ah P w) callerA (.call (.I E) #[[.I a],[]]) (λr g=>r=.ok (.ϱ (.Ϡ J'))/\OldK c.u g.u/\g.os=c.os/\AllBare g.gens) c:=by
  intro H W hS hok hA hK
  let N:∀{b:Ac} {o:Obj} {A:Array Hx} {B:Y},c.u.U b=Z o->o.data=.dict A B->H b=J:=λ{b o A B} e d=>by
   grind
  let i:∀{b:Ac} {m:BP},c.u.Ns b m->(KA c.u H).Ns b m:=λ{b m} ⟨o,A,B,e,d,r⟩=>#[o,A,B,(λe n=>X9 e n) e (N e d),d,r]
  let t:K.In (KA c.u H):=λb o e=>(λe n=>X9 e n) (Q b o e) (by
   cases q:H b with
   |none=>rfl
   |some u=>
    let e':b=a:=hA b (by rw[q];simp)
    subst e'
    rw[hK (by rw[q];simp)]at e;ext e)
  let hM:Mod K mg (KA c.u H):=#[t,i l,#[C,i f,G],let⟨mc,h1,h2⟩:=p;#[mc,i h1,h2]]
  apply codeAny_mono ((F _ t (i l)).run callerA [] c H #[[.I a],[]] [.I a] [.I a] _ _ hr #[rfl,hM,λb o e=>nk e,Nat.le_of_eq (nj _ _),trivial,λb f=>absurd (show b∈([]:U Ac)from f) (by simp),hok,.of_eq hg] (j c (.I a)) (.Α rfl .ώ) (L H W hS)) λr g h=>?_
  cases r with
  |error e=>show(M H e g h).Δ
  |ok fl=>
   cases fl with
   |next=>show B6 h
   |brk=>show B6 h
   |cont=>show B6 h
   |ret u=>
    let(v,H',os,bare,un,y,r',q):=h
    subst q
    obtain rfl:u=Value.Ϡ J':=r'
    apply#[rfl,OldK.of_keep λb o e=>?_,os,bare]
    cases q:H b with
    |none=>show un.keep b o e q (by intro z;show absurd (show b∈([]:U Ac)from z) (by simp)) (by simp)
    |some u=>
     rcases W b with z|⟨ob,xs,z⟩
     .rw[q]at z;ext z
     .let(Y',_):=hok b _ z
      let(e2,_):=y b _ (un.frzs b ob _ z)
      rw[e]at Y';ext Y'
      show e2
 cases S:K.X a with
 |some o=>
  let e:=Q a o S
  rw[X]at e
  ext e
  apply core (λ_=>J) (λ_=>.O rfl) (.ρ #[_,vs.E,_,S,rfl,rfl,rfl,by rw[Ce,R.a];show T,by simpa using(Y7 R)]) (λb u z=>by have z':(J:O HO)=Z u:=z;ext z') (λb z=>absurd rfl z) λz=>absurd rfl z
 |none=>
  apply core (λb=>if b=a then Z (.frz {cls:=.ι "list",data:=.ϴ vs.E} (.R (ns.j V.o)))else J) (λb=>?_) (.O (.ρ #[{cls:=.ι "list",data:=.ϴ vs.E},if_pos rfl])) (λb u z=>?_) (λb z=>?_) λ_=>S
  .by_cases f:b=a
   .show .ρ #[_,_,if_pos f]
   .show .O (if_neg f)
  .by_cases f:b=a
   .cases((if_pos f).Ζ.G z)
    subst f
    show#[X,by rw[Bx];show T,vs,_,(Y7 R),X]
   .cases((if_neg f).Ζ.G z)
  .by_cases f:b=a
   .show f
   .show absurd (if_neg f) z
def
walk_of{l:PySem.W.OpenLaw}{n k:Y}{q:AS}{i:U Ae}{P:(BP)->Al->V'}{E:Ai->Al->V'}{d:DefRec}{K:Params->Ao}{CX:Ai->Eg}{sp:Ai->Sp}{x:Ae} (L:l.most=Z n) (t:n<=Av) (y:d.ϲ.defaults=[]) (M:AJ k callerA) (N:∀(w:Ai) (h:Al),E w h->(K w.ϲ).In h) (F:∀(w:Ai) (mg:BP) (r:Ac) (h:Al),(K w.ϲ).In h->h.Ns C4 mg->mg d.name=Z (.I r)->∃fd:CH,(∀(s:Ab) (u:Aa),BindsTo s fd #[[u],[]] [(x,u)])/\∀base:Al,(K w.ϲ).In base->base.Ns C4 mg->AY l.δ w (K w.ϲ) mg base (CX w) k r fd [x] (sp w)) (z:∀(w:Ai) (H:Hp) (a:Ac) (ns:U W'),ns.a<=n->Tc H->Ca (K w.ϲ) H a (ns.j V.o)->sp w [.I a] H (λv _=>v=.bl J') λ_ _ _=>False) (A:∀(w:Ai) (H:Hp) (s:Ab) (e:Aa) (B:Ab),CX w [] H s (λ_ _ _=>False) e B->False):PySem.W.WalkO q i P E l.row.toRowW d [] (λf vs=>PySem.call f vs):=by
 apply Att.attach_call L y λw s₀ m mg mb r o pm cd R a vs ns G Y' ho hd Q C p j c S=>?_;let X:=N w _ Y';let(fd,hb,hF):=F w mg r _ X G.T.g C;show qc X G.T.g G.T.b G.T.builtins G.T.nolimit S p j (BN c t) M hF hb (λH hO hS=>z w H a ns c hO hS) λH e B=>A w H m e B
def Im(s:AE)(j:Y):AE:=match s with
 |.ClassDef _ _ _ a _ _ _ _ _ _ _=>a.B j (.Pass #[0,0,0,0])
 |_=>.Pass #[0,0,0,0]
def Io(s:AE):Arguments:=match s with
 |.FunctionDef _ a _ _ _ _ _ _ _ _=>a
 |_=>{posonlyargs:=[],args:=[],vararg:=J,kwonlyargs:=[],kw_defaults:=[],kwarg:=J,defaults:=[]}
def ZV(s:AE):U AE:=match s with
 |.FunctionDef _ _ b _ _ _ _ _ _ _=>b
 |_=>[]
def Zj(s:AE):Scope:=match s with
 |.FunctionDef _ _ _ _ _ _ a _ _ _=>a
 |_=>{kind:=.Ϸ,names:=[],isGenerator:=O',isCoroutine:=O'}
abbrev BI:Eg:=λ_ _ _ _ _ _=>False
abbrev E0:XK:=λ_ _ _=>False
def
Ip:Fv BI X E0:=λ_ _ _ _ _ _ _ h=>h.Δ
structure JV(K:Ao)(x qual:Ae)(st:AE)(f:Ac)(fd:CH):V' where
 ex:∃(oc:Aa) (od:Option Ac) (kV doc pm:Aa) (an:Option Ac) (cdv ct:Aa) (osl:Array (Option Aa)),
  fd=JN x qual (Io st) (ZV st) (Zj st) .Η kV doc pm an cdv ct/\K.X f=Z #[oc,od,.func fd,osl]/\PySem.W.codeIn K cdv qual=J'
 kp:IU K (.I f)=J'
variable {P:AS}{w:Ai}{K:Ao}{mg:BP}{base:Al}
def
JV.ok{x a:Ae}{st:AE}{f:Ac}{fd:CH}{N ps:U Ae}{k:Y}{sp:Sp}(F:JV K x a st f fd)(S:Fw N ps (Zj st))(len:∀vs H Q E,sp vs H Q E->vs.a=ps.a) (c:∀(b:Aa) (A:Ag) (outer:U Env) (s:Ab) (H:Hp) (vs:U V) (Q:VK) (E:XK),AJ k (A.Ϧ (Bt a (Zj st) s.u.L.y f b))->sp vs H Q E->∃t,E5 (Ei BI P w K mg base N a (Zj st) f b A outer s H E).nox (ZV st) t/\t {nx:=λ_ H'=>Q .κ H',rt:=Q} (HE N vs) H):AY P w K mg base BI (k+1) f fd ps sp:=by
 let(l,m,n,g,pm,o,b,ct,i,rfl,lk,d):=F.ex;apply pD lk d S len λA outer s H vs Q E j e=>?_;let(t,h,q):=c b A outer s H vs Q E j e;show#[t,h.nox,q]
def
Y8{x a:Ae}{st:AE}{f:Ac}{i:Aa}{j g:O Ac}{e:Array (O Aa)}{h d pm b ct:Aa}(l:K.X f=Z #[i,j,.func (JN x a (Io st) (ZV st) (Zj st) .Η h d pm g b ct),e]) (c:PySem.W.codeIn K b a=J') (k:IU K (.I f)=J'):JV K x a st f (JN x a (Io st) (ZV st) (Zj st) .Η h d pm g b ct):=#[#[i,j,h,d,pm,g,b,ct,e,rfl,l,c],k]
end
def Aj(H H':Hp):V':=∀b o,H b=Z o->H' b=Z o
def
Aj.refl(H:Hp):Aj H H:=λ_ _ h=>h
def
Aj.trans{d e:Hp}(a:Aj H d)(b:Aj d e):Aj H e:=λc o h=>b c o<|a c o h
def
Aj.free(e:Aj H H'){l:Ac}(h:H' l=Option.Η):H l=Option.Η:=by
 cases q:H l with|none=>rfl|some o=>
  rw[e l o q]at h;ext h
def
Aj.seq{K:Ao}{xs:U V}(e:Aj H H')(h:Ca K H a xs):Ca K H' a xs:=by
 rcases h with(h|⟨o,h⟩)|h
 .show .O<|.O<|e _ _ h
 .show .O<|.ρ ⟨o,e _ _ h⟩
 .show .ρ h
structure NV(X:Cx)(i:Y)(x:Ae):V' where
 n:X.N[i]?=Z x
 v:Pm X.C.Θ x
 d:Ew x
 c:(x==("__classdict__":Ae))=O'
def
EW{i:Y}{x:Ae}(n:X.N[i]?=Z x:=by rfl)(v:Pm X.C.Θ x:=by first|show Or.O rfl|show Or.ρ (Or.O rfl)|show Or.ρ (Or.ρ rfl))(d:Ew x:=by ext)(c:(x==("__classdict__":Ae))=O':=by ext):NV X i x:=#[n,v,d,c]
def
GA{i:Y}{x:Ae}(h:NV X i x):PE X (.β x pos) (Yd i):=nr h.n h.v h.d h.c
def FR(env:Env):U (Ae×HD)->U (Ae×Ac)->U (Ae×Ac)
 |[],a=>a
 |(n,k)::r,a=>if k=JX then FR env r ((n,(env.ϟ.X n).B 0)::a)else FR env r a
def
Y9{env:Env}(h:∀x∈scope.τ,x.2=.ϊ->∃c,env.ϟ.X x.1=Z c):closureFor scope env=Ax (FR env scope.τ []):=by
 let all:∀(l:U (Ae×HD)) (b:U (Ae×Ac)),(∀x∈l,x.2=.ϊ->∃c,env.ϟ.X x.1=Z c) ->
   (forIn l b (λ(x:Ae×HD) (b:U (Ae×Ac))=>if(x.2==JX)=J' then(do let a <- cellOf env x.1;Ax<|ForInStep.yield<|(x.1,a)::b)else Ax (ForInStep.yield b)):Sem (U<|Ae×Ac))=Ax (FR env l b):=by
  intro l;induction l with|nil=>intro b _;rfl|cons x l g=>
   intro b e;let(n,k):=x;rw[List.forIn_cons];let f:=λb=>g b<|λy i=>e y<|Bk _ i;by_cases d:k=.ϊ
   .subst d;let(c,hc):=e (n,.ϊ) Bb rfl;erw[beq_self_eq_true,if_true,show cellOf env n=Ax c by unfold cellOf;erw[hc],pure_bind,f,FR,hc,Option.getD_some]
   .erw[show(k==JX)=O' by simpa using d,F5,if_false,pure_bind,f,FR,d]
 have:=all scope.τ [] h;erw[closureFor];rw[<- bind_pure (Ax (FR env scope.τ []):Sem _),<- this]
def
Td{env:Env}:∀(l:U (Ae×HD))(cs:U (Ae×Ac)),(∀x∈l,x.2=.ϊ->∃c,env.ϟ.X x.1=Z c)->(∀p∈cs,env.ϟ.X p.1=Z p.2)->∀p∈FR env l cs,env.ϟ.X p.1=Z p.2
 |[],cs,_,h=>h
 |(n,k)::r,cs,a,h=>by
  by_cases d:k=.ϊ
  .subst d;let(c,hc):=a (n,.ϊ) Bb rfl;apply Td r _ (λy b=>a y<|Bk _ b) λp hp=>?_;grind [Bw,Option.getD_some]
  .erw[FR,d,if_false];show Td r cs (λy b=>a y<|Bk _ b) h
def
Te{env:Env}:∀(l:U (Ae×HD))(cs:U (Ae×Ac))(x:Ae),((x,JX)∈l\/∃c,(x,c)∈cs)->∃c,(x,c)∈FR env l cs
 |[],cs,x,h=>by
  rcases h with h|h
  .cases h
  .show h
 |(n,k)::r,cs,x,h=>by
  by_cases a:k=.ϊ
  .subst a;apply Te r _ x ?_;grind [Bw,Bb,Bk]
  .erw[FR,a,if_false];apply Te r cs x ?_;rcases h with h|h
   .rcases Bw.mp h with e|h
    .cases e;show absurd rfl a
    .show .O h
   .show .ρ h
def
aa{a:Type}:∀{l:U (Ae×a)}{x:Ae}{c:a},(x,c)∈l->∃d,l.X x=Z d
 |[],_,_,h=>by cases h
 |(n,b)::r,x,c,h=>by
  rw[List.lookup_cons];cases e:x==n with|true=>show#[b,rfl]|false=>
   rcases Bw.mp h with z|h
   .cases z;simp at e
   .show aa h
structure IZ(own outs:List Ae)(sc osc:Scope):V' where
 kind:sc.g7=.Ϸ
 nocell:∀x∈sc.τ,x.2≠.Ο
 free:∀x∈sc.τ,x.2=.ϊ->osc.τ.X x.1=Z .Ο\/osc.τ.X x.1=Z .ϊ
 loc:∀x∈sc.τ,x.2=.ϔ->sc.τ.X x.1=Z .ϔ
 out:∀x∈outs,sc.τ.X x=Z .ϊ
 nd:(own++outs).θ
def
Dk{env:Env}:∀{names:U (Ae×HD)}{x:Ae},names.X x=Z .ϊ->((names.j λ(n,k)=>if(k==JX&&env.Θ.g7==.Ϸ&&env.gV n==Z .Ο)then(n,NameKind.Ο)else(n,k)).X x=Z .Ο \/(names.j λ(n,k)=>if(k==JX&&env.Θ.g7==.Ϸ&&env.gV n==Z .Ο)then(n,NameKind.Ο)else(n,k)).X x=Z .ϊ)
 |[],_,h=>by simp at h
 |(n,k)::r,x,h=>by
  let a:=@Dk env r x;grind
def
CJ{env:Env}:∀{names:U (Ae×HD)}{x:Ae}{k:HD},k=.Ο\/k=.ϊ->(∀y∈names,y.2≠.Ο)->(names.j λ(n,k)=>if(k==JX&&env.Θ.g7==.Ϸ&&env.gV n==Z .Ο)then(n,NameKind.Ο)else(n,k)).X x=Z k->(x,JX)∈names
 |[],_,_,_,_,h=>by simp at h
 |(n,j)::r,x,k,a,b,h=>by
  let d:=@CJ env r x k a λy c=>b y<|Bk _ c;grind
def DL(X:Cx)(own a:U Ae)(scope:Scope)(C:Ac)(s2:Ab)(c:Hp)(d:U Ac)(b:A1):Cx where
 prog:=X.δ
 w:=X.w
 K:=X.K
 mg:=X.mg
 base:=X.ω
 A:=X.A
 N:=own++a
 s₀:=s2
 H₀:=c
 env:=compEnvC scope (FR X.C scope.τ []) C X.C
 outer:=X.ϛ
 stack:=X.ϛ
 ex:=d
 fn:=λ_=>O'
 calm:=X.Ϫ
 pn:=X.pn++b
 xe:=λ_ _=>False
def HH(X:Cx)(b:U Expr)(e:TT):V':=
 ∀(a:A1) (s:Ab) (d:St) (H:Hp) (Q:j'->Hp->V'),Inv X a d H s->e d H Q ->
  wpAny (Ah X.δ X.w) X.A (forIn b J' λc r=>if r=J' then do let ok <- isTrue c X.C (Aq c X.C);Ax (ForInStep.yield ok)else Ax (ForInStep.yield r)) (TP X a d Q) X.xe s
def qd:TT:=λ_ H Q=>Q J' H
def
qe:HH X [] qd:=λ_ _ _ H _ a h=>wpAny_tests_nil #[H,a,h]
def
qf{c:Expr}{b:TT}(h:PT X c b):HH X [c] b:=λa s d H Q e q=>wpAny_tests_one<|h a s d H Q e q
def Fy(k:Y)(oix:U Y)(I:St):St:=EV k J++oix.j λj=>(I[j]?).join
def Tf(k:Y)(oix:U Y)(g:TG)(l:TT)(m:TE)(r:It)(I:St)(H:Hp)(Q:VK):V':=
 ∃(n:Y) (W:Y->U V->Hp->V'),W 0 [] H/\∀i c d,W i c d ->
  (r.stop i d/\c.a<=Av/\∀p,d p=J->Q (.I p) (AL d p (.R c))) \/
  (r.go i d/\i<n/\c.a<Av/\∃N:U V->Hp->V',(∀e f,N e f->W (i+1) e f)/\∀x h,r.yld i d x h->g x (Fy k oix I) h λa o=>a.Ψ k=(Fy k oix I).Ψ k /\
   l a o λb j=>if b=J' then m a j λy q=>N (c++[y]) q else N c j)
def PV(k:Y)(oix:U Y)(wi:TI)(g:TG)(b:TT)(c:TE):TE:=λa H Q=>wi a H λe d=>Tf k oix g b c e a d Q
def F6(a:U Aa)(n:Y):Obj:={cls:=.ι "list",data:=.ϴ a.E n}
def
CZ.track{P:AS}{w:Ai}{h:Al}{o:HO}(x:CZ P w H h)(d:H a=J)(new:Bo P w (AL H a o) h a o):CZ P w (AL H a o) h:=λb u e=>by
 by_cases f:b=a
 .grind [ZQ]
 .rw[Zp f]at e;show(x b u e).stay (λc v _ q=>q) (λc q=>Zp (Z9 q d) ▸ q) λc g q=>Zp (Z9 q d) ▸ q
def
ac{a:A1}{M:Hp}{s2:Ab}{P:It}{zB:U Ac}{it:Ac}
  {own G:U Ae} {oix:U Y} {g:TG} {tt:TT}
  (S:IZ own G scope X.C.Θ) (hox:oix.j (λj=>X.N[j]?)=G.j Z) (hc:X.Ϫ=J')
  (hg:∀C s2 M zB a,PG (DL X own G scope C s2 M zB a) tg g)
  (ht:∀C s2 M zB a,HH (DL X own G scope C s2 M zB a) ifs tt)
  (he:∀C s2 M zB a,PE (DL X own G scope C s2 M zB a) elt te)
  (s:Inv X a I M s2) (T:Ij X.δ X.w X.K tg P zB it tn) (st:tn 0 s2.u) (f2:∀b∈zB,Gx X a M b)
  (h:Tf own.a oix g tt te P I M Q)
  (hRR:∀(C:Ac) (s':Ab) (m:BP) (H':Hp),s'.u.Ns C m->Inv X a I H' s'->H' C=J->C≠X.C.ϐ->X.s₀.u.L.y<=C ->
   (∀x c,X.C.ϟ.X x=Z c->c≠C)->(∀p∈X.pn++a,p.1≠C)->Q (.I s2.u.L.y) H'->RR (.I s2.u.L.y) C (.ok .Q) s'):
  wpAny (Ah X.δ X.w) X.A (newList []) (λacc s₃=>wpAny (Ah X.δ X.w) X.A (newFunctionEnv scope X.C.globals (FR X.C scope.τ []) [] X.C.qual J .Η (Z X.C)) (λcenv s₄=>
   codeAny (Ah X.δ X.w) X.A (.compStart (.Λ elt [#[tg,iter,ifs,0]] scope pos) 0 (.I it) acc {cenv with scope:=relabel scope X.C}) (RR acc cenv.ϐ) s₄) E s₃) E s2:=by
 let(n,W,w0,turn):=h
 apply KU (wpAny_newFunctionEnv S.nocell (by intro y hy;simp at hy) (λh₁ L H=>?_) S.g7)
 generalize hP:s2.u.ύ {cls:=.ι "list",dict:=J,data:=.ϴ ([]:U Aa).E}=hp at L H ⊢
 let hC:hp.L.y=s2.u.L.y+1:=by rw[<- hP,KI]
 generalize hCC:hp.L.y=C at L H hC ⊢
 let hDC:s2.u.L.y≠C:=hC ▸ Cq (Nat.lt_succ_self _)
 let B:s2.u.L.y<C:=hC ▸ Nat.lt_succ_self _
 let old:∀b o,s2.u.U b=Z o->h₁.U b=Z o:=λb o e=>
  H.ψ b o (Cq (I0 (BX e) B)) (BR _ (hP ▸ BR _ e))
 let R:∀x c,(FR X.C scope.τ []).X x=Z c->X.C.ϟ.X x=Z c:=λx c e=>
  Td scope.τ [] (λx hx hf=>s.ok.has x.1 (S.ϊ x hx hf)) (λp hp=>by ext hp) (x,c) (KN e)
 let clHas:∀x,(x,JX)∈scope.τ->∃c,(FR X.C scope.τ []).X x=Z c:=λx hx=>by
  let(c,hc):=Te (env:=X.C) scope.τ [] x (.O hx)
  show aa hc
 let fpLt:∀b∈zB,b<s2.u.L.y:=λb t=>by
  let(o,e,_):=T.obj 0 _ st b t
  show BX e
 let cLt:∀x c,X.C.ϟ.X x=Z c->c<s2.u.L.y:=λx c e=>by
  let(v,q):=s.Ο x c e
  show q.lt
 let fpStk:∀b∈zB,b∉Fg X.ϛ:=λb t z=>by
  rcases Bw.mp (s.stkSub b z)with e|z
  .show(f2 b t).2.1 e
  .show(f2 b t).2.2.1 z
 let pinLt:∀p∈X.pn++a,p.1<s2.u.L.y:=λp hp=>BX (s.pin p hp).1
 let pinStk:∀p∈X.pn++a,p.1∉Fg X.ϛ:=λp hp z=>by
  rcases Bw.mp (s.stkSub _ z)with e|z
  .show(s.pin p hp).2.2.1 e
  .show(s.pin p hp).2.2.2.1 z
 let fsLt:∀b∈Fg X.ϛ,b<s2.u.L.y:=λb t=>by
  let(_,o,ho,_):=s.ϛ.mem t
  show BX ho
 letI Y':Cx:=DL X own G scope C s2 M zB a
 let okY:Y'.Ok:={
  mod:=s.ok.mod
  kind:=S.g7
  glob:=s.ok.glob
  blt:=s.ok.blt
  above:=Nat.϶ B
  inj:=λx y c h1 h2=>s.ok.inj x y c (R x c h1) (R y c h2)
  has:=λx hx=>by
   apply clHas x ?_
   rcases hx with hx|hx
   .show CJ (env:=X.C) (.O rfl) S.nocell hx
   .show CJ (env:=X.C) (.ρ rfl) S.nocell hx
  cab:=λx c hf _=>absurd (show O'=J' from hf) JJ
  hd:=s.ok.hd
  frames:=s.ok.frames
  stk:=.O rfl
  exf:=λb t=>#[Cq (I0 (fpLt b t) B),λx c e=>(f2 b t).2.2.2.2.1 x c (R x c e)]
  bs:=s.bs
  bsz:=BN s.ok.bsz s.sz
  noex:=λb o e t=>by
   rcases(f2 b t).2.2.2.1 with z|z
   .show s.ok.noex b o e z
   .show absurd (BM (BX e) (BN s.ok.bsz z)) (Hz _)
  exfs:=fpStk
  funs:=s.ϛ
  frf:=s.stkFree}
 let lenS:(Fy own.a oix I).a=Y'.N.a:=by
  let e:=congrArg List.a hox
  erw[Bx]at e
  show(EV own.a J++oix.j _).a=(own++G).a
  rw[E8,E8,L5,Bx,e]
 let I4:Inv Y' [(s2.u.L.y,F6 [] 0)] (Fy own.a oix I) M {s2 with heap:=h₁}:={
  ok:=okY
  os:=rfl
  bare:=s.bare
  base:=Un.ϭ old
  loc:=by
   apply#[_,L,λi x v e1 e2 e3=>?_]
   let hi:own.a<=i:=by
    apply(KZ)
    intro hlt
    unfold Fy at e2
    rw[Fx (L5 ▸ hlt),KP,if_pos hlt]at e2
    ext e2
   unfold Fy at e2
   rw[KO (L5 ▸ hi),L5,CW]at e2
   let e1':G[i-own.a]?=Z x:=by
    let e1:(own++G)[i]?=Z x:=e1
    rwa[KO hi]at e1
   cases ej:oix[i-own.a]? with
   |none=>rw[ej]at e2;cases e2
   |some j=>
    rw[ej]at e2
    let e2':(I[j]?).join=Z v:=E6 e2
    let e2'':I[j]?=Z (Z v):=by
     cases eI:I[j]? with
     |none=>rw[eI]at e2';cases e2'
     |some z=>rw[eI]at e2';show congrArg Z e2'
    let eN:X.N[j]?=Z x:=by
     let q:=congrArg (λl=>l[i-own.a]?) hox
     erw[CW,ej,e1',L9]at q
     show E6 q
    let hfree:scope.τ.X x=Z .ϊ:=S.out x (Ej e1')
    let hk:X.C.Θ.τ.X x=Z .Ο\/X.C.Θ.τ.X x=Z .ϊ:=S.ϊ (x,.ϊ) (KN hfree) rfl
    let(m,hn,hl):=s.loc
    let(u,r,l):=hl j x v eN e2'' (by rcases hk with hk|hk;show .ρ (.O hk);show .ρ (.ρ hk))
    apply#[u,r,.ρ #[Dk (env:=X.C) hfree,?_]]
    let(c,ec):=clHas x (KN hfree)
    apply#[c,ec,?_]
    rcases l with⟨k,_⟩|⟨_,c',e',o,ho,hd⟩
    .rcases hk with hk|hk
     .show absurd (k.Ζ.G hk) (by ext)
     .show absurd (k.Ζ.G hk) (by ext)
    .rw[R x c ec]at e'
     ext e'
     show#[o,old _ _ ho,hd]
  cell:=λx c e=>by
   let(v,o,ho,hd):=s.Ο x c (R x c e)
   show#[v,o,old _ _ ho,hd]
  free:=s.ϥ.Ξ (Nat.϶ B)
  freeC:=λx c e=>s.freeC x c (R x c e)
  pin:=λp hp=>by
   rcases C0.mp hp with hp|hp
   .let(e,n,_,_,d):=s.pin p hp
    show#[old _ _ e,n,Cq (I0 (pinLt p hp) B),pinStk p hp,d]
   .let e:p=(s2.u.L.y,F6 [] 0):=by exists hp
    subst e
    apply#[(H.ψ _ _ hDC (BR _ (hP ▸ CD _ rfl))),s.ϥ.Ξ (Bg _),hDC,λz=>absurd (fsLt _ z) (Hz _),λv z=>?_]
    ext z
  hok:=s.ϥ.ϭ old
  len:=lenS}
 let fpY:∀{H':Hp} {f:U Aa} {k:Y},(∀b∈zB,H' b=J)->∀b∈zB,Gx Y' [(s2.u.L.y,F6 f k)] H' b:=λ{H' f k} hn b t=>by
  apply#[hn b t,Cq (I0 (fpLt b t) B),fpStk b t,.O t,λx c e=>(f2 b t).2.2.2.2.1 x c (R x c e),λp hp=>?_]
  rcases C0.mp hp with hp|hp
  .show(f2 b t).2.2.2.2.2 p hp
  .let e:p=(s2.u.L.y,F6 f k):=by exists hp
   subst e
   show Ii (fpLt b t)
 let fin:∀(i:Y) (ys:U V) (f:U Aa) (k:Y) (H':Hp) (s':Ab),Inv Y' [(s2.u.L.y,F6 f k)] (Fy own.a oix I) H' s'->Ap ys f->ys.a<=Av ->
   Q (.I s2.u.L.y) (AL H' s2.u.L.y (.R ys))->RR (.I s2.u.L.y) C (.ok .Q) s':=λi ys f k H' s' zA rv hz q=>by
  let(m,hn,_):=zA.loc
  let(eD,nD,_):=zA.pin (s2.u.L.y,F6 f k) (DK _ (by simp))
  let neH:∀b o,M b=Z o->b≠s2.u.L.y:=λb o e=>Cq (s.ϥ.lt e)
  let un':Un (Fg X.ϛ) zB M (AL H' s2.u.L.y (.R ys)) s2.u s'.u:=
   #[zA.ω.keep,zA.ω.ϓ,λb o e n hx=>Zp ((λb o e=>Cq (BX e)) b o e) ▸ zA.ω.ϊ b o e n hx,zA.ω.there,λb xs e=>Zp (neH b _ e) ▸ zA.ω.tups b xs e,
    λb o u e=>Zp (neH b _ e) ▸ zA.ω.frzs b o u e,λb ps e=>Zp (neH b _ e) ▸ zA.ω.tbls b ps e]
  apply hRR C s' m _ hn (s.call' (ch:=zB) zA.os un' (CZ.track zA.ϥ nD #[hz,f,k,rv,eD]) zA.bare λb t=>#[(f2 b t).2.2.2.1,(f2 b t).2.1,(f2 b t).2.2.2.2.1,(f2 b t).2.2.2.2.2]) ?_ ?_ ?_ ?_ ?_ q
  .rw[Zp (B8 hDC)];show zA.ϊ
  .show Ii (I0 s.lt B)
  .show BN s.sz (Nat.϶ B)
  .show λx c e=>Cq (I0 (cLt x c e) B)
  .show λp hp=>Cq (I0 (pinLt p hp) B)
 let loop:codeAny (Ah X.δ X.w) X.A (.compLoop (.Λ elt [#[tg,iter,ifs,0]] scope pos) 0 (.I it) (.I s2.u.L.y) Y'.C) (RR (.I s2.u.L.y) C) {s2 with heap:=h₁}:=by
  apply codeAny_loop rfl (λk s'=>∃(i:Y) (ys:U V) (f:U Aa) (c:Y) (H':Hp),Inv Y' [(s2.u.L.y,F6 f c)] (Fy own.a oix I) H' s'/\Ap ys f/\tn i s'.u/\(∀b∈zB,H' b=J)/\W i ys H'/\k=n-i) (λk s' hI=>?_) n
   #[0,[],[],0,M,I4,.ώ,T.keep 0 _ _ st λb _ o e=>old b o e,λb t=>(f2 b t).1,w0,rfl]
  apply wpAny_noted ?_
  let(i,ys,f,c,H',zA,rv,st',fr',w',ek):=hI
  rcases turn i ys H' w' with⟨stop,hz,q⟩|⟨go,hin,hz,N,hN,step⟩
  .apply An (wpAny_standAt (An (Ba (T.done Y' rfl rfl rfl hc i _ s' _ H' _ zA (fpY fr') st' stop) λr s1 ⟨hr,I1⟩=>?_)))
   subst hr
   let(_,nD,_):=I1.pin (s2.u.L.y,F6 f c) (DK _ (by simp))
   show AV (fin i ys f c H' s1 I1 rv hz (q _ nD))
  .apply An (wpAny_standAt (An (Ba (T.item Y' rfl rfl rfl hc i _ s' _ H' _ zA (fpY fr') st' go) λr s1 ⟨u,hr,h1⟩=>?_)))
   subst hr
   apply An (Ba h1 λ_ s5 z9=>?_)
   let(x,H5,I5,r5,y5,st5,fr5):=z9
   apply An (wpAny_noRaise (Ba (hg C s2 M zB a _ s5 _ H5 x u _ (I5.pinned (fpY fr5) (T.obj _ _ st5)) r5 (step x H5 y5)) λ_ s6 z9=>?_))
   let(σ6,H6,I6,dr6,q6):=z9
   apply An (wpAny_noRaise (Ba (ht C s2 M zB a _ s6 σ6 H6 _ I6 q6) λok s7 ⟨H7,I7,q7⟩=>?_))
   let back:∀{H8:Hp} {s8:Ab} {its8:U Aa} {c8:Y},Inv Y' ([(s2.u.L.y,F6 its8 c8)]++KC zB s5.u) σ6 H8 s8 ->
     Inv Y' [(s2.u.L.y,F6 its8 c8)] (Fy own.a oix I) H8 s8/\tn (i+1) s8.u/\∀b∈zB,H8 b=J:=λ{H8 s8 its8 c8} I8=>by
    apply#[I8.unpinned.weak ?_ λj v e=>?_,T.keep _ _ _ st5 λb t o e=>(I8.pin (b,o) (DK _ (DK _ (Pw t e)))).1,λb t=>?_]
    .show lenS.G I8.ϧ.Ζ
    .let hj:own.a<=j:=by
      apply(KZ)
      intro hlt
      unfold Fy at e
      rw[Fx (L5 ▸ hlt),KP,if_pos hlt]at e
      ext e
     let e':=congrArg (λl=>l[j-own.a]?) dr6
     erw[Tg]at e'
     rw[show own.a+(j-own.a)=j by show Nat.add_sub_of_le hj]at e'
     show e'.G e
    .let(o,e,d):=T.obj _ _ st5 b t
     show(I8.pin (b,o) (DK _ (DK _ (Pw t e)))).2.1
   cases ok with
   |false=>
    let(I8,st8,fr8):=back I7
    show AV #[rfl,n-(i+1),∅,i+1,ys,f,c,H7,I8,rv,st8,fr8,hN _ _ q7,rfl]
   |true=>
    apply An (An (wpAny_noRaise (Ba (he C s2 M zB a _ s7 σ6 H7 _ I7 q7) λy s8 z9=>?_)))
    let(z,H8,I8,r8,w8):=z9
    let(eD,nD,neL,nF,dD):=I8.pin (s2.u.L.y,F6 f c) (DK _ (Ie _ (by simp)))
    let hl:=rv.a
    apply An (call_meets F.slot_list_append #[_,eD,rfl] F.entry_list_append (F.args_list_append_2 _ _) (PySem.list_append _ f.E c y (by rw[Ce];lia)) #[eD,?_])
    obtain⟨n',q⟩:∃n',(s8.u.Ϭ s2.u.L.y (F4 (·.ύ y))).U s2.u.L.y=Z (F6 (f++[y]) n'):=by
     let q:=PySem.IsL.Ϭ eD (·.ύ y)
     rw[show f.E.ύ y=(f++[y]).E by simp]at q
     show#[_,q]
    let I9:Inv Y' (KC zB s5.u) σ6 H8 {s8 with heap:=s8.u.Ϭ s2.u.L.y (F4 (·.ύ y))}:=
     (I8.pins_of λp hp=>I8.pin p (DK _ (DK _ hp))).turned (t':=s8.Ε) (it:=s2.u.L.y) (λb o t e=>(Ta _ _ (B8 t)).G e) nD hDC (.ρ (Bg _))
      (λx c' e=>Cq (cLt x c' (R x c' e))) λp hp=>by
       rcases C0.mp hp with hp|hp
       .show Cq (pinLt p hp)
       .show Cq (fpLt _ (Yu hp).1)
    let I10:Inv Y' ([(s2.u.L.y,F6 (f++[y]) n')]++KC zB s5.u) σ6 H8 {s8 with heap:=s8.u.Ϭ s2.u.L.y (F4 (·.ύ y))}:=I9.pins_of λp hp=>by
     rcases C0.mp hp with hp|hp
     .let e:p=(s2.u.L.y,F6 (f++[y]) n'):=by exists hp
      subst e
      show#[q,nD,neL,nF,λv z=>by
       cases z]
     .show I9.pin p (DK _ hp)
    let(I11,st11,fr11):=back I10
    show AV (AV #[rfl,n-(i+1),∅,i+1,ys++[z],f++[y],_,H8,I11,rv.Β (.Α r8 .ώ),st11,fr11,hN _ _ w8,rfl])
 show codeAny_compStart_list loop (T.self _ 0 _ _ _ (T.keep 0 _ _ st λb _ o e=>old b o e) loop)
variable {oix:U Y}{g:TG}{tt:TT}
def
ae(own c:U Ae)(oix:U Y)(S:IZ own c scope X.C.Θ)(r:oix.j (λj=>X.N[j]?)=c.j Z)(hc:X.Ϫ=J')(G:PI X tg iter wi) (L:∀C s2 i k a,PG (DL X own c scope C s2 i k a) tg g) (M:∀C s2 i k a,HH (DL X own c scope C s2 i k a) ifs tt) (K:∀C s2 i k a,PE (DL X own c scope C s2 i k a) elt te) (P:∀x,EU iter X.C x=Ax x:=by intro _;rfl):PE X (.Λ elt [#[tg,iter,ifs,0]] scope pos) (PV own.a oix wi g tt te):=by
 intro a s y H Q R h;rw[eval_ListComp];apply wpAny_comprehension_free (use:=J) rfl P (Y9 λx hx hf=>R.ok.has x.1<|S.free x hx hf) S.kind S.loc (Ba (G a s y H _ R h) λxv z l=>Ba l λitv B n=>?_);let(it,k,tn,F,i,e,I2,T,t,f2,d):=n;subst e;apply ac (RR:=λu C=>compPost (Ah X.δ X.w) X.A X.xe J (EP X a y Q) u C) S r hc L M K I2 T t f2 d ?_;intro C s' m H' hn I' hC hL h0 f p q;show#[m,hn,λE v=>#[.I _,H',I'.turned (h':=E) (t':=s'.Ε) (it:=C) (λb o hb e=>v.ψ b o hb e) hC hL (.ρ h0) f p,rfl,q]]
def
PX(own d:U Ae)(oix:U Y){i:Y}{x:Ae}{f k:AC}(S:IZ own d scope X.C.Θ)(L:oix.j (λj=>X.N[j]?)=d.j Z)(hc:X.Ϫ=J') (hN:X.N.θ) (M:X.N[i]?=Z x) (hx:X.C.Θ.τ.X x=Z .ϔ) (hi:PI X tg iter wi) (hg:∀C s2 r t c,PG (DL X own d scope C s2 r t c) tg g) (ht:∀C s2 r t c,HH (DL X own d scope C s2 r t c) ifs tt) (he:∀C s2 r t c,PE (DL X own d scope C s2 r t c) elt te) (K:Ey (.Λ elt [#[tg,iter,ifs,0]] scope pos) (Z (.β x f)) k.ϡ X.C=Ax J':=by rfl) (hs:∀x,EU iter X.C x=Ax x:=by intro _;rfl):PS X (.ϩ [.β x f] (.Λ elt [#[tg,iter,ifs,0]] scope pos) k) (L4 (PV own.a oix wi g tt te) (Ih i)):=by
 intro c s I H D R h;rw[exec_Assign_Name_used _ _ _ _ K];apply An<|wpAny_standAt<|An ?_;apply An (wpAny_mono (wpAny_comprehension_free (use:=Z<|BC (.Name x f) X.env) (Q:=λ_ u=>SP X c D .Q u) rfl hs (Y9 λy hy hf=>R.ok.has y.1<|S.ϊ y hy hf) S.g7 S.loc
  (Ba (hi c s I H _ R h) λxv s₁ z=>Ba z λitv B E=>?_)) (λ_ u hq=>AV<|AV hq) λ_ _ e=>e)
 let(it,t,tn,F,r,e,I2,T,P,f2,l):=E;subst e;apply ac (RR:=λY' C=>compPost (Ah X.δ X.w) X.A X.xe (Z<|BC (.Name x f) X.env) (λ_ u=>SP X c D .Q u) Y' C) S L hc hg ht he I2 T P f2 l ?_;intro C u m H' hn I' hC hL h0 n G q;apply wpAny_assign_Name<|Yb (v:=.ref B.heap.objs.size) I' hN M (.inl hx) rfl (λs'' I'' p=>?_) (.ρ hx);let(a,p,ha):=p;let hCa:C≠a:=by
  grind
 show#[m,hn.sameBut p hCa,λh' hs'=>#[_,H',I''.turned (h':=h') (t':=s''.Ε) (it:=C) (λb o hb e=>hs'.ψ b o hb e) hC hL (.ρ h0) n G,q]]
end
def af(x:Ae):It:=#[λi _=>i<x.Ϩ.y,λi H v a=>a=H/\∃c,x.Ϩ[i]?=Z c/\v=.Ι #[(T' [c])],λi _=>x.Ϩ.y<=i]
def
ag{P:AS}{w:Ai}{K:Ao}{u:Expr}{b:j'}(it:Ac)(x:Ae)(t:Tok):Ij P w K u (af x) [it] it (λi h=>h.IsStrIter it (bif b then "str_ascii_iterator" else "str_iterator") x t i):=by
 apply Nu (n:=bif b then "str_ascii_iterator" else "str_iterator") (by ext b<;>decide) (λi h st=>?_) (λi h g st k=>?_) (λX i m s z H E Q A p B st=>?_) λ_ _ _ _ _ st h=>by
  ext b
  .show wpAny_pyIter_striter_wide st h
  .show wpAny_pyIter_striter_ascii st h
 .let(o,e,c,d):=st;show#[o,_,e,c,d]
 .let(o,e,r):=st;show#[o,k o e,r]
 .constructor<;>intro a q
  .let a:i<x.Ϩ.y:=a;let f:=λt g j (v:Ex it s.u g)=>q (.Ι #[(T' [x.Ϩ[i]])] t) (.Ι #[(T' [x.Ϩ[i]])]) g (s.Ε+1) j (λb o y e=>(v.2 b y).G e) #[_,rfl] #[rfl,_,by simp[a],rfl];ext b
   .show wpAny_pyNext_wide_item st (c:=x.Ϩ[i]) (by simp[a]) (f _)
   .show wpAny_pyNext_ascii_item st (c:=x.Ϩ[i]) (by simp[a]) (f _)
  .let a:x.Ϩ.y<=i:=a;ext b
   .show wpAny_pyNext_wide_end p st (by simp[a]) λg l=>q g s.Ε l
   .show wpAny_pyNext_ascii_end p st (by simp[a]) λg l=>q g s.Ε l
section
def qg(tl:TE):TI:=λa H R=>tl a H λv b=>∃x,v=.Ι x/\R (af x) b
def
qh{l:Expr}{tl:TE}(j:PE X l tl):PI X tg l (qg tl):=by
 intro a s k H R r h;apply Ba (j a s k H _ r h) λv c m=>?_;let(y,f,d,n,x,e,q):=m;subst e;let(t,rfl):=n;let g:∀{o:Obj} (b:Ac),b∈[c.u.L.y]->Gx X a f b:=λ{o} b p=>by
  let e:b=c.u.L.y:=by exists p
  subst e;show d.fpOk (Bg _)<|d.ϥ.Ξ<|Bg _
 cases i:x.Ϩ.Ϛ (·<128)
 .show wpAny_pyIter_wide i #[c.u.L.y,[c.u.L.y],_,_,f,rfl,d.ϭ (t':=c.Ε) λb o e=>BR _ e,ag (b:=O') _ x t,#[_,CD _ rfl,rfl,rfl],g (o:=default),q]
 .show wpAny_pyIter_ascii i #[c.u.L.y,[c.u.L.y],_,_,f,rfl,d.ϭ (t':=c.Ε) λb o e=>BR _ e,ag (b:=J') _ x t,#[_,CD _ rfl,rfl,rfl],g (o:=default),q]
end
section
def qi:V->O W'->O W'->Hp->VK->V':=λx lo a H Q=>∃z,x=.Ι z/\z.a<=Av/\Q (.Ι (Txt.slice z lo a)) H
def
qk:JR X qi:=by
 intro d s m H x v n o lo p r Q w g a h e zQ;let(z,rfl,hz,q):=zQ;let(t,rfl):=g;apply#["str",_,PySem.F.slot_str_getitem.X,typeIs_str s z t,?_];cases h with
 |none=>
  cases e with
  |none=>show Th (l:=J) (u:=J) (st:=J) a rfl (post_val_or_str #[BN (Txt.slice_le z _ _) hz,λb k=>#[.Ι<|Txt.slice z J J,H,w.tok _,⟨_,rfl⟩,q]])
  |int j c=>show Th (l:=J) (u:=Z (j,c)) (st:=J) a rfl (post_val_or_str #[BN (Txt.slice_le z _ _) hz,λb k=>#[.Ι<|Txt.slice z J<|some j,H,w.tok _,⟨_,rfl⟩,q]])
 |int i f=>
  cases e with
  |none=>show Th (l:=Z (i,f)) (u:=J) (st:=J) a rfl (post_val_or_str #[BN (Txt.slice_le z _ _) hz,λb k=>#[.Ι<|Txt.slice z (Z i) J,H,w.tok _,⟨_,rfl⟩,q]])
  |int j c=>show Th (l:=Z (i,f)) (u:=Z (j,c)) (st:=J) a rfl (post_val_or_str #[BN (Txt.slice_le z _ _) hz,λb k=>#[.Ι<|Txt.slice z (Z i)<|some j,H,w.tok _,⟨_,rfl⟩,q]])
def
ql{zs:U Ae}:∀{us:U Aa},Ap (zs.j V.Ι) us->StrsAre us zs:=by
 induction zs with|nil=>intro us r;rw[Do]at r;ext r;show .ώ|cons n ns a=>
  intro us r;rw[AQ]at r;cases r with
  |cons b c=>
   let(t,rfl):=b;show .Α n t<|a c
def ah(K:Ao):V->U V->Hp->VK->V':=λx c H Q=>∃z a b,x=.Ι z/\c=[.I a]/\Ca K H a (b.j V.Ι)/\(b.j (·.a)).sum+b.a*z.a<=16777216/\Q (.Ι (Txt.join z b)) H
def
qm:KV X "str.join" (ah X.K):=by
 intro d s j H x l v m Q c e f zQ;let(z,a,n,rfl,rfl,g,hz,q):=zQ;let(t,rfl):=e;let(u,rfl,h):=Ft f;ext h;let(b,r,i,_):=c.Ϥ g;show join_list (items:=b.E) i.ό (ql r) hz λo k=>#[.Ι _,H,c.tok _,#[_,rfl],q]
end
def
qo{bs:U j'}:∀{us:U Aa},Ap (bs.j V.bl) us->LSm.BoolsAre us bs:=by
 induction bs with|nil=>intro us r;rw[Do]at r;ext r;show .ώ|cons n ns a=>
  intro us r;rw[AQ]at r;cases r with
  |cons b c=>
   subst b;show .Α n<|a c
section
def
ai{b:j'}(hc:X.Ϫ=J'):Fi X (.Γ (bif b then "all" else "any")) (λxs H Q=>∃(a:Ac)(bs:U j'),xs=[.I a]/\Ca X.K H a (bs.j V.bl)/\Q (.bl (bif b then bs.Ϛ id else bs.any id)) H):=by
 intro g s t H xs w Q E r zQ;let(a,bs,rfl,l,q):=zQ;let(u,rfl,m):=Ft r;ext m;let(c,n,d,hz):=E.Ϥ l;let h:=qo n;obtain⟨f,j⟩:∃f:Y->j',f=λi=>(bs[i]?).B b:=#[_,rfl];ext b;all_goals
  first|apply call_all_walk (Pu d.ό ?_)|apply call_any_walk (Pu d.ό ?_)
  apply#[s.u.L.y,[s.u.L.y,a],[s.u.L.y],c.E.y,_,_,f,rfl,Walks.Ϥ (A:=X.A.in1) (E.ok.hd hc) _ a (Cq (show a<s.u.L.y by let(_,e,_):=d.ό;show BX e)) c.E,
   #[#[_,CD _ rfl,rfl,rfl],d.ό.ύ _],λi v x y z o k=>?_,λB C p=>#[.bl _,H,E.ϭ<|LSm.kept_iter p,rfl,?_]]
  .let(b,e,rfl):=h.Χ i v (by exists o);erw[j,e,Option.getD_some]at k;show IQ k
  .rw[show c.E.y=bs.a by rw[Ce,h.a],j];first|rw[LSm.range_all bs]|rw[LSm.range_any bs]
   show q
end
section
open PySem.SeqAt
inductive F7(A:Ag)(s:Ab):List Aa->List Aa->j'->V' where
 |nn:F7 A s [] [] O'
 |nc {w ws}:F7 A s [] (w::ws) J'
 |cn {v vs}:F7 A s (v::vs) [] O'
 |eq {v w vs ws b}:EqAt A s v w J'->F7 A s vs ws b->F7 A s (v::vs) (w::ws) b
 |ne {v w vs ws b}:EqAt A s v w O'->(∀(prog:AS) (wo:Ai) (E Q:AR),Q (.Ϡ b) s->wpAny (Ah prog wo) A (richCompare .Lt v w) Q E s)->F7 A s (v::vs) (w::ws) b
end
section
open PySem.SeqAt
open PySem.AutoSeq1 (wpAny_loadPart')
open PySem.MeetsSeq PySem.MeetsSeq2 PySem.MeetsSeq3
def
qq(l b:Ac)(items a:Array Aa)(n n2:Y)(E o:O Ac)(G p:Array (O Aa))(r:j'):Meets (F8.«tuple.__lt__» #[[.I l,.I b],[]]) (λA R s=>s.u.U l=Z {cls:=.ι "tuple",dict:=E,data:=.ϴ items n,slots:=G}/\s.u.U b=Z {cls:=.ι "tuple",dict:=o,data:=.ϴ a n2,slots:=p}/\F7 A.in1 s items.α a.α r/\R (.ok (.ϱ (.Ϡ r))) s):=.of_wp λprog w A R s h=>by
  let(hp,g,d,C,os):=s;let(H,K,q,h):=h;let F:=AutoSeq1.sub_tuple_tuple;wp_walk using Fl H,Fl K,wpAny_forIn_list _ (λAF b t=>b.1=J/\t=#[hp,g,d,C,os]/\∃(k m:U Aa),AF=k.zip m /\
   F7 A.in1 #[hp,g,d,C,os] k m r/\k.a+a.y=m.a+items.y) _
  case turn=>
   rintro⟨y,x⟩ AF b t ⟨i,rfl,k,m,hz,e,c⟩;cases e with
   |nn=>rw[List.zip_nil_left]at hz;cases hz
   |nc=>rw[List.zip_nil_left]at hz;cases hz
   |cn=>rw[List.zip_nil_right]at hz;cases hz
   |eq u v=>
    rw[K1]at hz;injection hz with j f
    injection j with z B
    subst z B;erw[Ct]at c;apply An<|u prog w _ _ ?_;wp_walk;show⟨rfl,rfl,_,_,f,v,∅⟩
   |ne u v=>
    rw[K1]at hz;injection hz with j f
    injection j with z B
    subst z B;apply An<|u prog w _ _ ?_;wp_walk using(v prog w);show⟨_,rfl,by exists h⟩
  case fin=>
   rintro⟨L,M⟩ t ⟨i,rfl,k,m,hz,e,c⟩;simp only at i;subst i;let hv:r=decide (items.y<a.y):=by
    cases e with
    |nn=>
     erw[Ja]at c;show(decide_eq_false ∅).Ζ
    |nc=>
     erw[Ja,Ct]at c;show(decide_eq_true ∅).Ζ
    |cn=>
     erw[Ja,Ct]at c;show(decide_eq_false ∅).Ζ
    |eq _ _=>rw[K1]at hz;cases hz
    |ne _ _=>rw[K1]at hz;ext hz
   rw[hv]at h;wp_walk;show#[_,rfl,by simpa[Builtin.Tuple.tupleCompareSizes]using h]
  case h=>
   show#[rfl,rfl,items.α,a.α,rfl,q,by simp;show Ma items.y a.y]
def
qt(l b:Ac)(items c:Array Aa)(n n2:Y)(B y:O Ac)(C z:Array (O Aa))(r:j')(k:Y):∀i:Y,items.y-i=k->Meets (F8.«list.__eq__.loop» #[[.I l,.I b,BQ i,BQ 0],[]]) (λA R s=>s.u.U l=Z {cls:=.ι "list",dict:=B,data:=.ϴ items n,slots:=C}/\s.u.U b=Z {cls:=.ι "list",dict:=y,data:=.ϴ c n2,slots:=z}/\F7 A.in1 s (items.α.Ψ i) (c.α.Ψ i) r/\(i<=items.y/\i<=c.y)/\R (.ok (.ϱ (.Ϡ r))) s):=by
 induction k with
 |zero=>
  intro i u prog w A R s h;let(hp,g,d,E,os):=s;let(m,o,e,(G,H),h):=h;wp_walk using Fl m,Fl o;let j:items[((i:Y):W').ν]?=J:=by simp;show Nat.le_of_sub_eq_zero u
  let hd:items.α.Ψ i=[]:=Mb (by simp;lia);rw[hd]at e;rw[j];let p:r=decide (items.y<c.y):=by
   cases x:c.α.Ψ i with
   |nil=>
    rw[x]at e;have:=congrArg List.a x;simp at this;ext e;show(decide_eq_false ∅).Ζ
   |cons a t=>
    rw[x]at e;have:=congrArg List.a x;simp at this;ext e;show(decide_eq_true ∅).Ζ
  rw[p]at h;wp_walk using Fl m,Fl o;show h
 |succ k F=>
  intro i u prog w A R s h;let(hp,g,d,E,os):=s;let(m,o,e,(G,H),h):=h;wp_walk using Fl m,Fl o;let j:items[((i:Y):W').ν]?=Z items[i]:=by simp[K2 u]
  rw[show items.α.Ψ i=items[i]::items.α.Ψ (i+1) by rw[Mc (by simpa using(K2 u))];simp]at e;rw[j];by_cases f:i<c.y
  .let v:c[((i:Y):W').ν]?=Z c[i]:=by simp[f]
   let q:c.α.Ψ i=c[i]::c.α.Ψ (i+1):=by rw[Mc (by exists f)];simp
   rw[q]at e;rw[v];cases e with
   |eq e p=>
    apply An<|e prog w _ _ ?_;wp_walk;rw[show((i:W')+1)=((i+1:Y):W') by push_cast;rfl];show#[Md plain_eq_loop _,K3 entry_eq_loop (by
     rw[Around.under_plainId plain_eq_loop _];show F (i+1) ∅ prog w A R _ #[m,o,p,#[(K2 u),f],h])]
   |ne e p=>
    apply An<|e prog w _ _ ?_;wp_walk using Fl m,Fl o;rw[j,v];wp_walk using(p prog w);show h
  .let q:c.α.Ψ i=[]:=Mb (by simp;lia);rw[q]at e;rw[show c[((i:Y):W').ν]?=J by simp;show KZ f];let p:r=decide (items.y<c.y):=by
    ext e;show(decide_eq_false ∅).Ζ
   rw[p]at h;wp_walk using Fl m,Fl o;show h
def
aj(l b:Ac)(items a:Array Aa)(n n2:Y)(f c:O Ac)(i e:Array (O Aa))(r:j'):Meets (F8.«list.__lt__» #[[.I l,.I b],[]]) (λA R s=>s.u.U l=Z {cls:=.ι "list",dict:=f,data:=.ϴ items n,slots:=i}/\s.u.U b=Z {cls:=.ι "list",dict:=c,data:=.ϴ a n2,slots:=e}/\F7 A.in1 s items.α a.α r/\R (.ok (.ϱ (.Ϡ r))) s):=by
 intro prog w A R s h;let(hp,g,d,o,os):=s;let(j,k,m,h):=h;let p:=AutoSeq1.sub_list_list;wp_walk using Fl j,Fl k;show#[Md plain_eq_loop _,K3 entry_eq_loop (by
  rw[Around.under_plainId plain_eq_loop _];show qt l b items a n n2 f c i e r _ 0 rfl prog w A R _ #[j,k,m,#[Fk _,Fk _],h])]
end
variable {prog:AS}{w:Ai}{A:Ag}{s:Ab}
def
qu{l b:Ac}{a:Array Aa}{r:j'}{Q:AR}(k:IsTup s.u l items)(m:IsTup s.u b a)(o:F7 A.in1 s items.α a.α r) (p:A.ε<Ar) (h:Q (.Ϡ r) s):wpAny (Ah prog w) A (richCompare .Lt (.I l) (.I b)) Q E s:=by
 let((cls,q,data,t),i,hc,n,hd):=id k;let((j,f,data2,g),c,d,n2,e):=id m;simp only at hc hd d e;subst hc hd d e;show richCompare_meets_room (op:=.Lt) #[_,i,rfl] #[_,c,rfl] PySem.F.slot_tuple_lt PySem.F.entry_tuple_lt (PySem.F.args_tuple_lt_2 _ _) (qq l b items a n n2 q f t g r)
  #[i,c,o,show Value.Ϡ r≠Value.notImplemented/\Q (.Ϡ r) s from#[(λx=>nomatch x),h]] p
def
qv{l b:Ac}{a:Array Aa}{r:j'}{n n2:Y}{e c:O Ac}{f d:Array (O Aa)}{Q:AR}(g:s.u.U l=Z {cls:=.ι "list",dict:=e,data:=.ϴ items n,slots:=f})(i:s.u.U b=Z {cls:=.ι "list",dict:=c,data:=.ϴ a n2,slots:=d})(j:F7 A.in1 s items.α a.α r) (k:A.ε<Ar) (h:Q (.Ϡ r) s):wpAny (Ah prog w) A (richCompare .Lt (.I l) (.I b)) Q E s:=richCompare_meets_room (op:=.Lt) #[_,g,rfl] #[_,i,rfl] PySem.F.slot_list_lt PySem.F.entry_list_lt (PySem.F.args_list_lt_2 _ _) (aj l b items a n n2 e c f d r) #[g,i,j,show Value.Ϡ r≠Value.notImplemented/\Q (.Ϡ r) s from#[(λx=>nomatch x),h]] k
end
def qw:V->V->O j'
 |.int i,.int j=>Z (decide (i<j))
 |.str a,.str b=>Z (decide (a.Ϩ.α<b.Ϩ.α))
 |_,_=>J
def BU:U V->U V->O j'
 |[],[]=>Z O'
 |[],_::_=>Z J'
 |_::_,[]=>Z O'
 |x::a,y::b=>if(Y4 x&&Y4 y)=J' then(if pX x y=J' then BU a b else qw x y)else J
def
Ti(x:Ae):x.Ϩ.α.a=x.a:=by simp[Str.length]
def NF(K:Ao):Sp:=λb H Q _=>∃(a:Ac)(ns:U W'),b=[.I a]/\Ca K H a (ns.j V.o)/\ns.a<=63/\∀c,Q (.bl J') c
def
ak{p:Ac}{o:HO}(h:H p=J):Aj H (AL H p o):=λb u e=>Zp (Z9 e h) ▸ e
def
K4{A B:V'}(h:A):(if J'=J' then A else B):=by grind
def
K5{A B:V'}(h:B):(if O'=J' then A else B):=by grind
inductive Kd where
 |l|d|i (ns:List Ae) (c:Ae)
variable{fl k':Kd}
def PY(K:Ao)(c:Ae):Ac:=match PySem.W.nsIn K C4 c with
 |some (Z (.ref C))=>C
 |_=>0
inductive D where
 |non|bl (b:j')|int (i:W')|str (x:Ae)|ty (n:String)|tup (xs:List D)|lst (xs:List D) (b:Kd:=.l)
variable{xs:U D}
abbrev EX:=U D->O D
abbrev Bh:=O (U D)
def PZ:D->At
 |.int i=>.o i
 |.str x=>.Ι x
 |_=>.κ
def JY:D->KT
 |.tup l=>.S (l.j PZ)
 |d=>.at (PZ d)
def JZ:U D->U KT
 |k::_::r=>JY k::JZ r
 |_=>[]
def CO(K:Ao)(b:Kd)(a:Ac)(xs:U D)(vs:U V):HO:=match b with
 |.l=>.R vs
 |.d=>.dct (JZ xs) vs
 |.i ns c=>.ins (PY K c) (a-1) (ns.zip vs)
def F9:HO->j'
 |.lst _=>J'
 |.dct _ _=>J'
 |.ins _ _ _=>J'
 |_=>O'
def
am(K:Ao)(b:Kd)(a:Ac)(xs:U D)(vs:U V):F9 (CO K b a xs vs)=J':=by ext b<;>rfl
abbrev Fb:=Ac->V'
def KL(K:Ao)(a:Ac)(vs:U V):V':=Ca K (λ_=>J) a vs
def LstAt(K:Ao)(N:Fb)(H:Hp)(a:Ac)(o:HO):V':=(¬ N a/\Rd H a o)\/∃b,o=.R b/\KL K a b
def
KL.sq{K:Ao}(h:KL K a vs):Ca K H a vs:=by
 rcases h with(h|⟨o,h⟩)|h
 .cases h
 .cases h
 .show .ρ h
def
LstAt.sq{K:Ao}{N:Fb}(h:LstAt K N H a (.R vs)):Ca K H a vs:=by
 rcases h with⟨_,h⟩|⟨b,e,h⟩
 .show .O h
 .cases e;show h.sq
def
LstAt.of{K:Ao}{N:Fb}{o:HO}(n:¬ N a)(h:H a=Z o):LstAt K N H a o:=.O #[n,.O h]
def
LstAt.of_sq{K:Ao}(h:Ca K H a vs):LstAt K (λ_=>False) H a (.R vs):=by
 rcases h with h|h
 .show .O #[id,h]
 .show .ρ #[vs,rfl,.ρ h]
mutual
def Au(K:Ao)(N:Fb)(H:Hp):D->V->V'
 |.non,v=>v=.κ
 |.bl b,v=>v=.bl b
 |.int i,v=>v=.o i
 |.str x,v=>v=.Ι x
 |.ty n,v=>v=.ty n
 |.tup d,v=>∃a c,v=.I a/\Ck K H a c/\Ad K N H d c
 |.lst d b,v=>∃a c,v=.I a/\LstAt K N H a (CO K b a d c)/\Ad K N H d c
def Ad(K:Ao)(N:Fb)(H:Hp):U D->U V->V'
 |[],a=>a=[]
 |x::b,a=>∃v r,a=v::r/\Au K N H x v/\Ad K N H b r
end
structure Step(M N N':Fb)(H H':Hp):V' where
 kp:∀a o,H a=Z o->(¬ N a\/M a\/F9 o=O')->H' a=Z o
 nw:∀a,N' a->N a\/H a=J
def
Step.trans{M N d f:Fb}{g i:Hp}(a:Step M N d H g)(b:Step M d f g i):Step M N f H i where
 kp:=λc o h z=>by
  apply b.kp c o (a.kp c o h z) ?_;rcases z with z|z|z
  .apply .O λn1=>?_;rcases a.nw c n1 with q|q
   .show z q
   .rw[h]at q;ext q
  .show .ρ<|.O z
  .show .ρ<|.ρ z
 nw:=λc n2=>by
  rcases b.nw c n2 with q|q
  .show a.nw c q
  .cases e:H c with|none=>show .ρ rfl|some o=>
    apply .O<|Classical.byContradiction λz=>?_;rw[a.kp c o e<|.O z]at q;ext q
def
Step.of_same{M N:Fb}(s:Aj H H'):Step M N N H H':=#[λa o h _=>s a o h,λa h=>.O h]
def
Step.refl{M N:Fb}:Step M N N H H:=Step.ϋ<|Aj.σ H
def
Rd.step{M N b:Fb}{u:HO}(s:Step M N b H H')(h:Rd H a u)(z:¬ N a\/M a\/F9 u=O'):Rd H' a u:=by
 rcases h with h|⟨o,h⟩
 .show .O<|s.kp a u h z
 .show .ρ #[o,s.kp a _ h<|.ρ<|.ρ rfl]
def
Rd.same{u:HO}(s:Aj H H')(h:Rd H a u):Rd H' a u:=by
 rcases h with h|⟨o,h⟩
 .show .O<|s a u h
 .show .ρ #[o,s a _ h]
def
Ck.step{K:Ao}{M N b:Fb}{xs:U V}(s:Step M N b H H')(h:Ck K H a xs):Ck K H' a xs:=by
 rcases h with h|h
 .show .O<|h.Μ s<|.ρ<|.ρ rfl
 .show .ρ h
def
Ck.same{K:Ao}{xs:U V}(s:Aj H H')(h:Ck K H a xs):Ck K H' a xs:=Ck.Μ (M:=λ_=>False) (N:=λ_=>False) (Step.ϋ s) h
def
Rd.has{u:HO}(h:Rd H a u):H a≠J:=by
 rcases h with h|⟨o,h⟩<;>rw[h]<;>show λe=>nomatch e
mutual
theorem Au.step{K:Ao}{M N f:Fb}{H H':Hp}(s:Step M N f H H'):∀(d:D)(v:V),Au K N H d v->Au K f H' d v
 |.non,_,h=>h
 |.bl _,_,h=>h
 |.int _,_,h=>h
 |.str _,_,h=>h
 |.ty _,_,h=>h
 |.tup c,v,h=>by
  erw[Au]at h ⊢
  let(a,b,e,q,r):=h
  show#[a,b,e,q.Μ s,Ad.Μ s c b r]
 |.lst c i,v,h=>by
  erw[Au]at h ⊢
  let(a,b,e,q,r):=h
  apply#[a,b,e,?_,Ad.Μ s c b r]
  rcases q with⟨n,q⟩|q
  .apply .O #[λg=>?_,q.Μ s (.O n)]
   rcases s.nw a g with z|z
   .show n z
   .show q.has z
  .show .ρ q
theorem Ad.step{K:Ao}{M N a:Fb}{H H':Hp}(s:Step M N a H H'):∀(xs:U D)(vs:U V),Ad K N H xs vs->Ad K a H' xs vs
 |[],_,h=>h
 |x::xs,vs,h=>by
  erw[Ad]at h ⊢
  let(v,r,e,q,t):=h
  show#[v,r,e,Au.Μ s x v q,Ad.Μ s xs r t]
end
variable {K:Ao}{M N N':Fb}{d:D}{v:V}{ys:U D}{ws:U V}
def
Au.same(h:Au K N H d v)(s:Aj H H'):Au K N H' d v:=Au.Μ (M:=N) (Step.ϋ s) d v h
def
Ad.same(h:Ad K N H xs vs)(s:Aj H H'):Ad K N H' xs vs:=Ad.Μ (M:=N) (Step.ϋ s) xs vs h
def
Au.nw(h:Au K N H d v)(z:∀a,N' a->N a\/H a=J):Au K N' H d v:=Au.Μ (M:=N) (H':=H) #[λ_ _ h _=>h,z] d v h
def
Ad.nw(h:Ad K N H xs vs)(z:∀a,N' a->N a\/H a=J):Ad K N' H xs vs:=Ad.Μ (M:=N) (H':=H) #[λ_ _ h _=>h,z] xs vs h
def
Ad.length:∀{xs:U D}{vs:U V},Ad K N H xs vs->xs.a=vs.a
 |[],_,h=>by erw[Ad]at h;subst h;rfl
 |_::xs,_,h=>by erw[Ad]at h;let(v,r,e,_,t):=h;subst e;simp[Ad.length t]
def
Ad.get:∀{xs:U D}{vs:U V}{i:Y}{d:D},Ad K N H xs vs->xs[i]?=Z d->∃v,vs[i]?=Z v/\Au K N H d v
 |[],_,i,d,_,e=>by simp at e
 |x::xs,_,0,d,h,e=>by
  erw[Ad]at h;let(v,r,a,q,_):=h;subst a;simp at e;subst e;show#[v,rfl,q]
 |x::xs,_,i+1,d,h,e=>by
  erw[Ad]at h;let(v,r,a,_,t):=h;subst a;let(w,b,c):=Ad.Χ (i:=i) t (by exists e);show#[w,by simpa using b,c]
def
Ad.get':∀{xs:U D}{vs:U V}{i:Y}{v:V},Ad K N H xs vs->vs[i]?=Z v->∃d,xs[i]?=Z d/\Au K N H d v:=by
 intro xs vs i v h e;let f:=h.a;let g:i<vs.a:=(Bp.mp e).1;let a:xs[i]?=Z xs[i]:=BZ ∅;let(w,b,c):=h.Χ a;rw[e]at b;ext b;show#[_,a,c]
def
Ad.append:∀{xs ys:U D}{vs ws:U V},Ad K N H xs vs->Ad K N H ys ws->Ad K N H (xs++ys) (vs++ws)
 |[],_,_,_,h,a=>by erw[Ad]at h;subst h;show a
 |x::xs,ys,_,ws,h,a=>by
  erw[Ad]at h;let(v,r,e,q,t):=h;subst e;erw[Ha,Ad];show#[v,r++ws,rfl,q,Ad.Β t a]
def
Ad.nil:Ad K N H [] []:=by erw[Ad]
def
Ad.cons(h:Au K N H d v)(t:Ad K N H xs vs):Ad K N H (d::xs) (v::vs):=by erw[Ad];show#[v,vs,rfl,h,t]
def
Ad.take:∀{xs:U D}{vs:U V}(n:Y),Ad K N H xs vs->Ad K N H (xs.ϣ n) (vs.ϣ n)
 |_,_,0,_=>by exists Ad.ώ
 |[],_,n+1,h=>by erw[Ad]at h;subst h;exists Ad.ώ
 |x::xs,_,n+1,h=>by
  erw[Ad]at h;let(v,r,e,q,t):=h;subst e;exists Ad.Α q<|Ad.ϣ n t
def
Ad.drop:∀{xs:U D}{vs:U V}(n:Y),Ad K N H xs vs->Ad K N H (xs.Ψ n) (vs.Ψ n)
 |_,_,0,h=>by exists h
 |[],_,n+1,h=>by erw[Ad]at h;subst h;exists Ad.ώ
 |x::xs,_,n+1,h=>by
  erw[Ad]at h;let(v,r,e,q,t):=h;subst e;exists Ad.Ψ n t
def
Ad.set:∀{xs:U D}{vs:U V}(i:Y),Ad K N H xs vs->Au K N H d v->Ad K N H (xs.ξ i d) (vs.ξ i v)
 |[],_,_,h,_=>by erw[Ad]at h;subst h;exists Ad.ώ
 |x::xs,_,0,h,q=>by
  erw[Ad]at h;let(v,r,e,_,t):=h;subst e;exists Ad.Α q t
 |x::xs,_,i+1,h,q=>by
  erw[Ad]at h;let(v,r,e,a,t):=h;subst e;exists Ad.Α a<|Ad.ξ i t q
def
Ad.ints:∀(ns:U W'),Ad K N H (ns.j D.o) (ns.j V.o)
 |[]=>Ad.ώ
 |n::ns=>Ad.Α (by erw[Au])<|Ad.ints ns
end
inductive Sl where
 |no|val (d:D)|own (xs:List D) (b:Kd:=.l) (oa:Option Ac:=J)|lent (xs:List D) (b:Kd:=.l)|exc (c:Ae)
variable{ss:U Sl}
def ao(e C:Ac)(h:Al):V':=∃o a,h.U e=Z o/\o.cls=.I C/\o.data=.Ϙ a/\a[2]?=Z .Η
abbrev VE:=U Sl
variable{ρ:VE}{fx:VE->O (D×VE)}{fo:VE->O Sl}{lo:VE->O (O W')}{ff:VE->O (U D)}
abbrev DU:=VE->O (U Sl)
variable{fa:DU}
abbrev Az:=VE->O D
def Nf(M:Fb)(ρ:VE)(I:St):Fb:=λa=>M a\/∃(i:Y)(c:U D)(b:Kd)(d:O Ac),ρ[i]?=Z (Sl.φ c b d)/\I[i]?=Z (Z (V.I a))
def Tj(K:Ao)(M N:Fb)(H0 H:Hp):Sl->O V->V'
 |.no,_=>True
 |.val d,o=>∃v,o=Z v/\Au K N H d v
 |.own e b g,o=>∃a f,o=Z (.I a)/\(H0 a=J/\∀c,g=Z c->c=a)/\¬ M a/\H a=Z (CO K b a e f)/\Ad K N H e f
 |.lent e b,o=>∃a f,o=Z (.I a)/\(M a/\H0 a≠J)/\Rd H a (CO K b a e f)/\Ad K N H e f
 |.exc c,o=>∃a C,o=Z (.I a)/\PySem.W.nsIn K C4 c=Z (Z (.I C))/\H a=Z (.ext (ao a C))
structure By(K:Ao)(M:Fb)(H0:Hp)(ρ:VE)(I:St)(H:Hp):V' where
 len:ρ.a=I.a
 same:Aj H0 H
 mh:∀a,M a->H a≠J
 slot:∀(i:Y) (s:Sl),ρ[i]?=Z s->Tj K M (Nf M ρ I) H0 H s (I[i]?.join)
 inj:∀(i j:Y) (xs ys:List D) (b b':Kd) (oa oa':Option Ac) (a:Ac),ρ[i]?=Z (Sl.φ xs b oa)->ρ[j]?=Z (Sl.φ ys b' oa')->I[i]?=Z (Z (V.I a))->I[j]?=Z (Z (V.I a))->i=j
variable {K:Ao}{M:Fb}
def
By.nh(R:By K M H0 ρ I H):∀a,Nf M ρ I a->H a≠J:=by
 rintro a (h|⟨i,f,g,j,c,d⟩)
 .show R.mh a h
 .let(b,k,e,_,_,q,_):=R.ϓ i _ c;rw[d]at e;rw[<- (show b=a by exists e.Ζ),q];show λz=>nomatch z
def
By.st(R:By K M H0 ρ I H)(s:Aj H H'):By K M H0 ρ I H' where
 len:=R.ϧ;same:=R.η.G s;mh:=λa h z=>R.mh a h<|s.free z;slot:=λi k e=>by
  let q:=R.ϓ i k e;cases k with
  |no=>trivial
  |val d=>let(v,e,h):=q;show#[v,e,h.η s]
  |own l m o=>let(a,g,e,b,f,j,n):=q;show#[a,g,e,b,f,s _ _ j,n.η s]
  |lent l m=>let(a,g,e,b,f,j):=q;show#[a,g,e,b,f.η s,j.η s]
  |exc c=>let(a,C,e,b,f):=q;show#[a,C,e,b,s _ _ f]
 inj:=R.inj
def
By.fresh(R:By K M H0 ρ I H){p:Ac}(h:H p=J):¬ Nf M ρ I p:=λn=>R.nh p n h
end
def tD(K:Ao)(M:Fb)(H0:Hp)(f:Az):TE:=λc H Q=>∃a d,By K M H0 a c H/\f a=Z d/\∀v b,Aj H b->Au K (Nf M a c) b d v->Q v b
def Ay(K:Ao)(N:Fb)(H:Hp)(d:D)(v:V):V':=match d with
 |.lst e=>∃a c,v=.I a/\Ca K H a c/\Ad K N H e c
 |.lst e b=>∃a c,v=.I a/\Rd H a (CO K b a e c)/\Ad K N H e c
 |d=>Au K N H d v
def
Au.p{K:Ao}{N:Fb}{d:D}{v:V}(h:Au K N H d v):Ay K N H d v:=by
 cases d with
 |lst f c=>
  let(a,b,e,q,r):=h;cases c with|l=>show#[a,b,e,LstAt.sq q,r]|_=>
   rcases q with⟨_,q⟩|⟨g,z,_⟩
   .show#[a,b,e,q,r]
   .cases z
 |_=>show h
def
Ay.same{K:Ao}{N:Fb}{d:D}{v:V}(h:Ay K N H d v)(s:Aj H H'):Ay K N H' d v:=by
 cases d with
 |lst f c=>
  cases c with
  |l=>let(a,b,e,q,r):=h;show#[a,b,e,s.ϴ q,r.η s]
  |_=>let(a,b,e,q,r):=h;show#[a,b,e,q.η s,r.η s]
 |_=>show Au.η h s
def
Tk{K:Ao}{N:Fb}(h:Rd H a (CO K fl a xs vs))(r:Ad K N H xs vs):Ay K N H (.R xs fl) (.I a):=by
 cases fl with
 |l=>show#[a,vs,rfl,.O h,r]
 |_=>show#[a,vs,rfl,h,r]
def tP(K:Ao)(M:Fb)(H0:Hp)(f:Az):TE:=λc H Q=>∃a d,By K M H0 a c H/\f a=Z d/\∀v b,Aj H b->Ay K (Nf M a c) b d v->Q v b
def Fm(fl:Kd)(K:Ao)(M:Fb)(H0:Hp)(f:VE->Bh):TE:=λg H Q=>∃d e,By K M H0 d g H/\f d=Z e /\
 ∀a h c,Aj H c->H a=J->c a=Z (CO K fl a e h)->Ad K (λb=>Nf M d g b\/b=a) c e h->Q (.I a) c
@[reducible] def tF(K:Ao)(M:Fb)(H0:Hp)(f:VE->Bh):TE:=Fm .l K M H0 f
def B9(K:Ao)(M:Fb)(H0:Hp)(f:VE->O j'):TT:=λd H Q=>∃a b,By K M H0 a d H/\f a=Z b/\∀c,Aj H c->Q b c
structure JE(X:Cx)(e:Expr)(t:TE):V' where h:PE X e t
structure JT(X:Cx)(e:Expr)(t:TT):V' where h:PT X e t
structure JW(X:Cx)(e:Expr)(t:TT):V' where h:PW X e t
structure JA(X:Cx)(e:List Expr)(t:TA):V' where h:PA X e t
structure JS(X:Cx)(e:AE)(t:TS):V' where h:PS X e t
structure JB(X:Cx)(e:List AE)(t:TS):V' where h:E5 X e t
structure JI(X:Cx)(tg e:Expr)(t:TI):V' where h:PI X tg e t
structure JG(X:Cx)(e:Expr)(t:TG):V' where h:PG X e t
structure JK(X:Cx)(e:List Expr)(t:IR):V' where h:Nm X e t
structure JO(X:Cx)(e:Option Expr)(t:TO):V' where h:PO X e t
structure JF(X:Cx)(e:List Expr)(t:TT):V' where h:HH X e t
def
PE.mono{e:Expr}{t t':TE}(h:PE X e t)(m:∀I H Q,t' I H Q->t I H Q):PE X e t':=λa s I H Q b q=>h a s I H Q b<|m I H Q q
def
PT.mono{e:Expr}{t t':TT}(h:PT X e t)(m:∀I H Q,t' I H Q->t I H Q):PT X e t':=λa s I H Q b q=>h a s I H Q b<|m I H Q q
def
PW.mono{e:Expr}{t t':TT}(h:PW X e t)(m:∀I H Q,t' I H Q->t I H Q):PW X e t':=λwh a s I H Q b q=>h wh a s I H Q b<|m I H Q q
def
PA.mono{e:U Expr}{t t':TA}(h:PA X e t)(m:∀I H Q,t' I H Q->t I H Q):PA X e t':=λb a s I H Q c q=>h b a s I H Q c<|m I H Q q
def
PS.mono{e:AE}{t t':TS}(h:PS X e t)(m:∀D I H,t' D I H->t D I H):PS X e t':=λa s I H D b q=>h a s I H D b<|m D I H q
def
E5.mono{e:U AE}{t t':TS}(h:E5 X e t)(m:∀D I H,t' D I H->t D I H):E5 X e t':=λa s I H D b q=>h a s I H D b<|m D I H q
variable {K:Ao}{M:Fb}{e a b:Expr}{f g:Az}
def
PE.p(h:PE X e (tD K M H0 f)):PE X e (tP K M H0 f):=h.ζ λc H Q ⟨a,d,R,e,q⟩=>#[a,d,R,e,λv b s z=>q v b s z.p]
def
ar(h:JE X e (tD K M H0 f)):JE X e (tP K M H0 f):=#[PE.p h.h]
@[simp]def ZA(o:Bh):O D:=o.j D.R
def
PE.fd{f:VE->Bh}(h:PE X e (tF K M H0 f)):PE X e (tD K M H0 λρ=>ZA (f ρ)):=h.ζ λo H Q c=>by
 let(ρ,d,R,e,q):=c;let(g,i,e):=B2.mp e;ext e;apply#[ρ,g,R,i,λa j p s k l m=>q _ _ s ?_];apply#[a,j,rfl,.of (R.Ξ k) l,m.nw λb n=>.O<|.O n]
def
qx{f:VE->Bh}(h:JE X e (tF K M H0 f)):JE X e (tD K M H0 λρ=>ZA (f ρ)):=#[PE.fd h.h]
@[simp]def Bd(ρ:VE)(i:Y):O D:=match ρ[i]? with
  |some (.val d)=>Z d
  |_=>J
@[simp]def Bi(ρ:VE)(i:Y):O D:=match ρ[i]? with
  |some (.val d)=>Z d
  |some (.own a b _)=>Z (.R a b)
  |some (.lent a b)=>Z (.R a b)
  |_=>J
def
qy{i:Y}{d:D}(h:Bd ρ i=Z d):ρ[i]?=Z (.r d):=by grind [Bd]
def
qA{i:Y}{x:Ae}(b:NV X i x):PE X (.β x pos) (tD K M H0 λρ=>Bd ρ i):=(GA b).ζ λc H Q f=>by
  let(ρ,d,R,e,q):=f;try dsimp only at e q
  let(v,a,h):=R.ϓ i _<|qy e;apply⟨v,?_,q v H (Aj.σ H) h⟩;cases z:c[i]? with
  |none=>rw[z]at a;cases a
  |some o=>rw[z]at a;ext a;rfl
open J in
def
qB{i:Y}{x:Ae}(j:NV X i x):PE X (.β x pos) (tP K M H0 λρ=>Bi ρ i):=(GA j).ζ λc H Q k=>by
  let(ρ,d,R,e,q):=k;try dsimp only at e q
  let fin:∀v,c[i]?.join=Z v->Ay K (Nf M ρ c) H d v->∃v,c[i]?=Z (Z v)/\Q v H:=λv b h=>by
   apply#[v,?_,q v H (Aj.σ H) h];cases z:c[i]? with
   |none=>rw[z]at b;cases b
   |some o=>rw[z]at b;ext b;rfl
  unfold Bi at e;split at e
  .next h=>ext e;let(v,b,h):=R.ϓ i _ h;show fin v b h.p
  .next h=>ext e;let(a,l,b,_,_,f,g):=R.ϓ i _ h;show fin _ b<|Tk (.O f) g
  .next h=>ext e;let(a,l,b,_,f,g):=R.ϓ i _ h;show fin _ b<|Tk f g
  .cases e
def
Me{d:D}{v:V}{e:Expr}(h:PE X e (tC v))(hd:∀N H,Au K N H d v):PE X e (tD K M H0 λ_=>Z d):=h.ζ λa H Q ⟨b,c,R,e,q⟩=>by(try dsimp only at e q);ext e;show q v H (Aj.σ H)<|hd _ _
def
au {i j pos}:JE X (.ϙ (.o i) j pos) (tD K M H0 λ_=>Z (.o i)):=#[Me nt λ_ _=>by erw[Au]]
def
qC {i j pos}:JE X (.ϙ (.Ϡ i) j pos) (tD K M H0 λ_=>Z (.bl i)):=#[Me nu λ_ _=>by erw[Au]]
def
qD {j pos}:JE X (.ϙ .Η j pos) (tD K M H0 λ_=>Z .κ):=#[Me nv λ_ _=>by erw[Au]]
def
qE {i j pos}:JE X (.ϙ (.Ι i) j pos) (tD K M H0 λ_=>Z (.Ι i)):=#[Me ny λ_ _=>by erw[Au]]
def El(K:Ao)(r:R2)(F:D->D->O D):V':=∀(N:Fb)(H:Hp)(x y:V)(c e d:D)(Q:VK),(∀a,N a->H a≠J)->Ay K N H c x->Ay K N H e y->F c e=Z d ->
 (∀v b,Aj H b->Au K N b d v->Q v b)->r x y H Q
@[simp]def Za(F:D->D->O D)(f g:Az):Az:=λa=>(f a).J λx=>(g a).J λy=>F x y
def
aw{F:D->D->O D}{f g:Az}{d:D}(h:Za F f g ρ=Z d):∃x y,f ρ=Z x/\g ρ=Z y/\F x y=Z d:=by
 unfold Za at h;cases a:f ρ with|none=>rw[a]at h;cases h|some x=>
  cases b:g ρ with
  |none=>rw[a,b]at h;cases h
  |some y=>rw[a,b]at h;show#[x,y,rfl,rfl,h]
def
P0{r:R2}{F:D->D->O D}(i:El K r F)(h:tD K M H0 (Za F f g) I H Q):KD r (tP K M H0 f) (tP K M H0 g) I H Q:=by
 let(a,d,R,e,q):=h;let(x,y,j,k,l):=aw e;show#[a,x,R,j,λv z b m=>#[a,y,R.st b,k,λu n c o=>i (Nf M a I) n v u x y d Q ((R.st b).st c).nh (m.η c) o l λw p s t=>q w p ((b.G c).G s) t]]
def
Mf{op:Operator}{r:R2}{F:D->D->O D}(c:Cs X (HB op) r)(d:El K r F)(e:PE X a (tP K M H0 f))(i:PE X b (tP K M H0 g)):PE X (.BinOp a op b pos) (tD K M H0 (Za F f g)):=(oE c e i).ζ λ_ _ _ h=>P0 d h
def
NG{op:CmpOp}{r:R2}{F:D->D->O D}(c:Cs X (DT op) r)(d:El K r F)(e:PE X a (tP K M H0 f))(i:PE X b (tP K M H0 g))(j:Gw op b=O'):PE X (.Κ a [op] [b] pos) (tD K M H0 (Za F f g)):=(Yz c e i j).ζ λ_ _ _ h=>P0 d h
def
ay{r:R2}{F:D->D->O D}(c:HF X r)(d:El K r F)(e:PE X a (tP K M H0 f))(i:PE X b (tP K M H0 g))(j:NE b):PE X (.μ a b pos) (tD K M H0 (Za F f g)):=(pP c e i j).ζ λ_ _ _ h=>P0 d h
@[simp]def AI:O D->O j'
  |some (.bl b)=>Z b
  |_=>J
def
Mg{o:O D}{b:j'}(h:AI o=Z b):o=Z (.bl b):=by
 unfold AI at h;grind
def
qF{t:TE}{Q:j'->Hp->V'}(a:∀I H Q,tD K M H0 f I H Q->t I H Q)(h:B9 K M H0 (λρ=>AI (f ρ)) I H Q):tB t I H Q:=by
 let(ρ,b,R,e,q):=h;apply a I H _ #[ρ,.bl b,R,Mg e,λv c s hv=>?_];erw[Au]at hv;simp_all
def
Jb{op:CmpOp}{r:R2}{F:D->D->O D}(c:Cs X (DT op) r)(d:El K r F)(e:PE X a (tP K M H0 f))(h:PE X b (tP K M H0 g))(i:Gw op b=O'):PT X (.Κ a [op] [b] pos) (B9 K M H0 λρ=>AI (Za F f g ρ)):=(YA c e h i).ζ λ_ _ _ q=>qF (t:=KD r (tP K M H0 f)<|tP K M H0 g) (λ_ _ _ z=>P0 d z) q
@[simp]def CP(o:O j'):O j':=o.j (!·)
@[simp]def EB(o p:O j'):O j':=match o with
  |some J'=>p
  |some O'=>Z O'
  |none=>J
@[simp]def DA(o p:O j'):O j':=match o with
  |some J'=>Z J'
  |some O'=>p
  |none=>J
variable {c c':VE->O j'}{AF:U Expr}
def
qG(h:JT X a (B9 K M H0 c)):JT X (.UnaryOp .Not a pos) (B9 K M H0 λρ=>CP (c ρ)):=#[have h:=h.h;(Yj h).ζ λf H Q d=>by
 let(ρ,b,R,e,q):=d;let(k,hc,e):=B2.mp e;ext e;show#[ρ,k,R,hc,q]]
def
qH(h:JT X a (B9 K M H0 c)):JW X (.ϑ .And [a] pos) (B9 K M H0 c):=#[have h:=h.h;nI h]
def
qI(h:JT X a (B9 K M H0 c)):JW X (.ϑ .Or [a] pos) (B9 K M H0 c):=#[have h:=h.h;nJ h]
def
qJ{Q:j'->Hp->V'}(h:B9 K M H0 (λρ=>EB (c ρ) (c' ρ)) I H Q):Yh (B9 K M H0 c) (B9 K M H0 c') I H Q:=by
 let(ρ,b,R,e,q):=h;try dsimp only at e q
 cases hc:c ρ with|none=>rw[hc]at e;cases e|some k=>
  rw[hc]at e;apply#[ρ,k,R,hc,λa s=>?_];cases k with
  |true=>show#[ρ,b,R.st s,e,λd f=>q d<|s.G f]
  |false=>ext e;show q a s
def
qK{Q:j'->Hp->V'}(h:B9 K M H0 (λρ=>DA (c ρ) (c' ρ)) I H Q):Yi (B9 K M H0 c) (B9 K M H0 c') I H Q:=by
 let(ρ,b,R,e,q):=h;try dsimp only at e q
 cases hc:c ρ with|none=>rw[hc]at e;cases e|some k=>
  rw[hc]at e;apply#[ρ,k,R,hc,λa s=>?_];cases k with
  |false=>show#[ρ,b,R.st s,e,λd f=>q d<|s.G f]
  |true=>ext e;show q a s
def
qM(h:JT X a (B9 K M H0 c))(h':JW X (.ϑ .And (b::AF) pos) (B9 K M H0 c')):JW X (.ϑ .And (a::b::AF) pos) (B9 K M H0 λρ=>EB (c ρ) (c' ρ)):=#[have h:=h.h;let h':=h'.h;(nK h h').ζ λ_ _ _ q=>qJ q]
def
qN(h:JT X a (B9 K M H0 c))(h':JW X (.ϑ .Or (b::AF) pos) (B9 K M H0 c')):JW X (.ϑ .Or (a::b::AF) pos) (B9 K M H0 λρ=>DA (c ρ) (c' ρ)):=#[have h:=h.h;let h':=h'.h;(nM h h').ζ λ_ _ _ q=>qK q]
@[simp]def DM(o:O j'):O D:=o.j D.bl
def
NH(h:tD K M H0 (λρ=>DM (c ρ)) I H Q):∃ρ b,By K M H0 ρ I H/\c ρ=Z b/\∀H',Aj H H'->Q (.bl b) H':=by
 let(ρ,d,R,e,q):=h;let(k,hc,e):=B2.mp e;ext e;show#[ρ,k,R,hc,λH' s=>q _ H' s (by erw[Au])]
def
qO(h:JE X a (tD K M H0 f)):JE X (.UnaryOp .Not a pos) (tD K M H0 λρ=>DM (CP (AI (f ρ)))):=#[have h:=h.h;(nT h).ζ λc H Q q=>by
 let(ρ,b,R,e,q):=NH q;let(k,hc,e):=B2.mp e;ext e;apply#[ρ,.bl k,R,Mg hc,λv d s hv=>?_];erw[Au]at hv;simp_all]
def
qP {op} (h:JE X a (tD K M H0 f)):JE X (.ϑ op [a] pos) (tD K M H0 λρ=>DM (AI (f ρ))):=#[have h:=h.h;(nQ h).ζ λd H Q q=>by
 let(ρ,b,R,e,q):=NH q;show#[ρ,.bl b,R,Mg e,λv c s hv=>by erw[Au]at hv;subst hv;show q c s]]
def
qQ(h:JE X a (tD K M H0 f))(h':JE X (.ϑ .And (b::AF) pos) (tD K M H0 λρ=>DM (c' ρ))):JE X (.ϑ .And (a::b::AF) pos) (tD K M H0 λρ=>DM (EB (AI (f ρ)) (c' ρ))):=#[have h:=h.h;let h':=h'.h;(nR h h').ζ λj H Q q=>by
 let(ρ,b,R,e,q):=NH q;cases hc:AI (f ρ)with
 |none=>rw[hc]at e;cases e
 |some k=>
  apply#[ρ,.bl k,R,Mg hc,λv d s hv=>?_];apply#[k,hv,?_];rw[hc]at e;cases k with
  |true=>show#[ρ,.bl b,R.st s,by change DM (c' ρ)=_;rw[show c' ρ=Z b from e];rfl,λw g i c=>by erw[Au]at c;subst c;show q g<|s.G i]
  |false=>ext e;show q d s]
def
qR(h:JE X a (tD K M H0 f))(h':JE X (.ϑ .Or (b::AF) pos) (tD K M H0 λρ=>DM (c' ρ))):JE X (.ϑ .Or (a::b::AF) pos) (tD K M H0 λρ=>DM (DA (AI (f ρ)) (c' ρ))):=#[have h:=h.h;let h':=h'.h;(nS h h').ζ λj H Q q=>by
 let(ρ,b,R,e,q):=NH q;cases hc:AI (f ρ)with
 |none=>rw[hc]at e;cases e
 |some k=>
  apply#[ρ,.bl k,R,Mg hc,λv d s hv=>?_];apply#[k,hv,?_];rw[hc]at e;cases k with
  |false=>show#[ρ,.bl b,R.st s,by change DM (c' ρ)=_;rw[show c' ρ=Z b from e];rfl,λw g i c=>by erw[Au]at c;subst c;show q g<|s.G i]
  |true=>ext e;show q d s]
@[simp]def NI{d:Type}(c:O j')(a b:O d):O d:=match c with
  |some J'=>a
  |some O'=>b
  |none=>J
def
qS{k:Expr}(hc:JT X k (B9 K M H0 c))(i:JE X a (tD K M H0 f))(j:JE X b (tD K M H0 g)):JE X (.IfExp k a b pos) (tD K M H0 λρ=>NI (c ρ) (f ρ) (g ρ)):=#[have hc:=hc.h;let i:=i.h;let j:=j.h;(nV hc i j).ζ λp H Q o=>by
 let(ρ,d,R,e,q):=o;try dsimp only at e q
 cases hc:c ρ with|none=>rw[hc]at e;cases e|some k=>
  apply#[ρ,k,R,hc,λr s=>?_];cases k with
  |true=>rw[hc]at e;apply K4 ?_;show#[ρ,d,R.st s,e,λw l m n=>q w l (s.G m) n]
  |false=>rw[hc]at e;apply K5 ?_;show#[ρ,d,R.st s,e,λw l m n=>q w l (s.G m) n]]
@[simp]def isN:D->j'
  |.non=>J'
  |_=>O'
@[simp]def EC(o:O D):O j':=o.j isN
def
Ay.isN{K:Ao}{N:Fb}{d:D}{v:V}(h:Ay K N H d v):decide (v=.κ)=Internal.isN d:=by
 cases d with
 |tup _=>erw[Ay,Au]at h;let(a,b,e,_):=h;subst e;rfl
 |lst _ c=>ext c<;>(let(a,b,e,_):=h;subst e;rfl)
 |_=>erw[Ay,Au]at h;subst h;rfl
def
qT {j c} (h:JE X a (tP K M H0 f)):JE X (.Κ a [.Is] [.ϙ .Η j c] pos) (tD K M H0 λρ=>DM (EC (f ρ))):=#[have h:=h.h;(nE<|Yf h).mono λk H Q q=>by
 let(ρ,b,R,e,q):=NH q;let(d,g,e):=B2.mp e;ext e;show#[ρ,d,R,g,λv i s hv=>by dsimp only;rw[hv.isN];show q i s]]
def
qU {j c} (h:JE X a (tP K M H0 f)):JT X (.Κ a [.Is] [.ϙ .Η j c] pos) (B9 K M H0 λρ=>EC (f ρ)):=#[have h:=h.h;(Yg<|Yf h).mono λl H Q g=>by
 let(ρ,b,R,e,q):=g;let(d,i,e):=B2.mp e;ext e;show#[ρ,d,R,i,λv k s hv=>#[_,rfl,hv.isN ▸ q k s]]]
def
qV {j c} (h:JE X a (tP K M H0 f)):JT X (.Κ a [.IsNot] [.ϙ .Η j c] pos) (B9 K M H0 λρ=>CP (EC (f ρ))):=#[have h:=h.h;(Yg<|nC h).mono λl H Q i=>by
 let(ρ,b,R,e,q):=i;try dsimp only at e q
 cases g:f ρ with
 |none=>rw[g]at e;cases e
 |some d=>rw[g]at e;ext e;show#[ρ,d,R,g,λv k s hv=>#[_,rfl,hv.isN ▸ q k s]]]
end
end
def
qW{e:Expr}{env:Env}(h:∀x p,e≠.Starred x p):AH (e::es) env=(O',Aq e env)::AH es env:=by
 cases e with
 |Starred x p=>show absurd rfl<|h x p
 |_=>rfl
def qX:Expr->j'
 |.Starred _ _=>J'
 |_=>O'
def
D2{e:Expr}{env:Env}(h:qX e=O'):AH (e::es) env=(O',Aq e env)::AH es env:=qW λx p z=>by subst z;ext h
structure CA(X:Cx)(x:Ae)(e:Expr)(es:List Expr)(pos:AC):V' where
 d:Ew x
 s:AH (e::es) X.C=(O',Aq e X.C)::AH es X.C
 p:(AA pos (AH es X.C)).any (·.1)=O'
def
Ga{x:Ae}{e:Expr}(d:Ew x:=by ext)(s:AH (e::es) X.C=(O',Aq e X.C)::AH es X.C:=by show D2 rfl)(p:(AA pos (AH es X.C)).any (·.1)=O':=by rfl):CA X x e es pos:=#[d,s,p]
structure BA(X:Cx)(x:Ae)(vpos:AC)(m:Ae)(apos:AC)(e:Expr)(cpos:AC):V' where
 b:FQ (.β x vpos) m X.C (Aq (.β x vpos) X.C)=Aq (.β x vpos) X.C
 f:((AA cpos (AH [e] X.C)).Ϛ (λx=>!x.1)&&(Gy cpos (Gz [] X.C)).Ϛ (λx=>x.1.υ)&&decide ([e].a+([]:List EA).a+(if([]:List EA).Φ then 0 else 1)<30))=J'
 l:(apos.ϯ==cpos.ϡ)=J'
 s:AH [e] X.C=(O',Aq e X.C)::AH [] X.C
 p:(AA cpos (AH [] X.C)).any (·.1)=O'
def
az{x:Ae}{a:AC}{m:Ae}{e:Expr}(b:FQ (.β x a) m X.C (Aq (.β x a) X.C)=Aq (.β x a) X.C:=by rfl) (f:((AA cpos (AH [e] X.C)).Ϛ (λx=>!x.1)&&(Gy cpos (Gz [] X.C)).Ϛ (λx=>x.1.υ)&&decide ([e].a+([]:U EA).a+(if([]:U EA).Φ then 0 else 1)<30))=J':=by rfl) (l:(apos.ϯ==cpos.ϡ)=J':=by rfl) (s:AH [e] X.C=(O',Aq e X.C)::AH [] X.C:=by show D2 rfl) (p:(AA cpos (AH [] X.C)).any (·.1)=O':=by rfl):BA X x a m apos e cpos:=#[b,f,l,s,p]
def C1(K:Ao)(N:Fb)(H:Hp):Sl->V->V'
 |.val d,v=>Au K N H d v
 |.lent c b,v=>∃a e,v=.I a/\N a/\Rd H a (CO K b a c e)/\Ad K N H c e
 |_,_=>False
def B0(K:Ao)(N:Fb)(H:Hp):U Sl->U V->V'
 |[],a=>a=[]
 |s::b,a=>∃v r,a=v::r/\C1 K N H s v/\B0 K N H b r
@[simp]def pk:Sl->O D
  |.val d=>Z d
  |.lent a b=>Z (.R a b)
  |.own a b _=>Z (.R a b)
  |.no=>J
  |.exc _=>J
def
C1.same{K:Ao}{N:Fb}{s:Sl}{v:V}(h:C1 K N H s v)(sm:Aj H H'):C1 K N H' s v:=by
 cases s with
 |val d=>show Au.η h sm
 |lent b f=>let(a,g,e,n,q,r):=h;show#[a,g,e,n,q.η sm,r.η sm]
 |no=>show h
 |own b f i=>show h
 |exc c=>show h
def
C1.p{K:Ao}{N:Fb}{s:Sl}{v:V}(h:C1 K N H s v){d:D}(hp:pk s=Z d):Ay K N H d v:=by
 cases s with
 |val d=>ext hp;show Au.p h
 |lent b f=>ext hp;let(a,g,e,n,q,r):=h;subst e;show Tk q r
 |no=>show B6 h
 |own b f i=>show B6 h
 |exc c=>show B6 h
def
B0.length{K:Ao}{N:Fb}{H:Hp}:∀{ss:U Sl}{vs:U V},B0 K N H ss vs->ss.a=vs.a
 |[],_,h=>by ext h;rfl
 |s::ss,_,⟨v,r,e,h,t⟩=>by subst e;simp[B0.length t]
def
B0.get{K:Ao}{N:Fb}{H:Hp}:∀{ss:U Sl}{vs:U V}{i:Y}{s:Sl},B0 K N H ss vs->ss[i]?=Z s->∃v,vs[i]?=Z v/\C1 K N H s v
 |[],_,i,s,h,e=>by simp at e
 |_::ss,_,0,s,⟨v,r,a,h,t⟩,e=>by subst a;simp at e;subst e;show#[v,rfl,h]
 |_::ss,_,i+1,s,⟨v,r,a,h,t⟩,e=>by
  subst a;let(w,b,c):=B0.Χ (i:=i) t (by exists e);show#[w,by simpa using b,c]
def De(K:Ao)(M:Fb)(H0:Hp)(f:DU):TA:=λc H Q=>∃a d,By K M H0 a c H/\f a=Z d/\∀e b,Aj H b->B0 K (Nf M a c) b d e->Q e b
def GB(K:Ao)(M:Fb)(H0:Hp)(f:VE->O Sl):TE:=λc H Q=>∃a s,By K M H0 a c H/\f a=Z s/\∀v b,Aj H b->C1 K (Nf M a c) b s v->Q v b
@[simp]def Df(ρ:VE)(i:Y):O Sl:=match ρ[i]? with
  |some (.val d)=>Z (.r d)
  |some (.own a b _)=>Z (.ϵ a b)
  |some (.lent a b)=>Z (.ϵ a b)
  |_=>J
@[simp]def DN(o:O D):O Sl:=o.j Sl.r
@[simp]def Zi{c:Type}(a:O c)(b:O (U c)):O (U c):=a.J λx=>b.J λy=>Z (x::y)
def
GC{c:Type}{a:O c}{b:O (U c)}{l:U c}(h:Zi a b=Z l):∃x y,a=Z x/\b=Z y/\l=x::y:=by
 cases a with|none=>cases h|some x=>
  ext b<;>simp_all
variable {K:Ao}{M:Fb}{e a b:Expr}{f g:Az}{f1:VE->O Sl}
def
qY{i:Y}{x:Ae}(k:NV X i x):PE X (.β x pos) (GB K M H0 λρ=>Df ρ i):=(GA k).ζ λc H Q l=>by
  let(ρ,d,R,e,q):=l;try dsimp only at e q
  let fin:∀v,c[i]?.join=Z v->C1 K (Nf M ρ c) H d v->∃v,c[i]?=Z (Z v)/\Q v H:=λv b h=>by
   grind [Aj.refl]
  unfold Df at e;split at e
  .next h=>ext e;let(v,b,h):=R.ϓ i _ h;show fin v b h
  .next h=>
   ext e;let(a,f,b,_,_,g,j):=R.ϓ i _ h;apply fin _ b #[a,f,rfl,.ρ #[i,_,_,_,h,?_],.O g,j];cases z:c[i]? with
   |none=>rw[z]at b;cases b
   |some o=>rw[z]at b;ext b;rfl
  .next h=>ext e;let(a,f,b,m,g,j):=R.ϓ i _ h;show fin _ b #[a,f,rfl,.O m.1,g,j]
  .cases e
def
aA(h:JE X e (tD K M H0 f)):JE X e (GB K M H0 λρ=>DN (f ρ)):=#[have h:=h.h;h.ζ λg H Q a=>by
 let(ρ,s,R,e,q):=a;let(d,b,e):=B2.mp e;ext e;show#[ρ,d,R,b,λv c s hv=>q v c s hv]]
def
Tl :JA X [] (De K M H0 λ_=>Z []):=#[Bn.ζ λb H Q a=>by
 let(c,d,R,e,q):=a;ext e;show q [] H (Aj.σ H) rfl]
def
P1(h:JE X e (GB K M H0 f1))(a:JA X es (De K M H0 fa))(f:AH (e::es) X.C=(O',Aq e X.C)::AH es X.C:=by show D2 rfl):JA X (e::es) (De K M H0 λρ=>Zi (f1 ρ) (fa ρ)):=#[have h:=h.h;let a:=a.h;(Z5 h a f).ζ λn H Q g=>by
 let(ρ,o,R,e,q):=g;let(s,r,i,j,rfl):=GC e;show#[ρ,s,R,i,λv p b k=>#[ρ,r,R.st b,j,λc l d m=>q (v::c) l (b.G d) #[v,c,rfl,k.η d,m]]]]
@[simp]def Zm:U Sl->Bh
  |[]=>Z []
  |.val d::r=>Zi (Z d) (Zm r)
  |_=>J
def
Mh{K:Ao}{N:Fb}{H:Hp}:∀{ss:U Sl}{vs:U V}{a:U D},B0 K N H ss vs->Zm ss=Z a->Ad K N H a vs
 |[],_,_,h,e=>by ext e;ext h;show Ad.ώ
 |.val d::r,_,_,⟨v,t,b,h,c⟩,e=>by
  let(x,y,f,g,i):=GC e;ext f;subst b i;show Ad.Α h<|Mh c g
 |.no::_,_,_,_,e=>nomatch e
 |.own _ _ _::_,_,_,_,e=>nomatch e
 |.lent _ _::_,_,_,_,e=>nomatch e
 |.exc _::_,_,_,_,e=>nomatch e
@[simp]def Zf{a:Type}(o:O (U a)):O (U a):=o.J λl=>if l.a<=Av then Z l else J
def
Tn{a:Type}{o:O (U a)}{l:U a}(h:Zf o=Z l):o=Z l/\l.a<=Av:=by
 cases o with|none=>cases h|some x=>
  let b:(if x.a<=Av then Z x else J)=Z l:=h;grind
def
ZO{p:Ac}{o:HO}(h:H p=J):Aj H (AL H p o):=λb u e=>Zp (Z9 e h) ▸ e
def
NJ{d:Hp}{p:Ac}(s:Aj H d)(hp:d p=J)(h:Ad K (Nf M ρ I) d xs vs) (q:∀a vs H',Aj H H'->H a=J->H' a=Z (CO K fl a xs vs)->Ad K (λb=>Nf M ρ I b\/b=a) H' xs vs->Q (.I a) H'):Q (.I p) (AL d p (CO K fl p xs vs)):=by
 apply q p vs _ (s.G<|ZO hp) (s.free hp) ZQ ?_;refine(h.nw λb c=>?_).η (ZO hp);rcases c with c|c
 .show .O c
 .subst c;show .ρ hp
def
qZ(h:JA X es (De K M H0 fa)):JE X (.List es pos) (tF K M H0 λρ=>Zf ((fa ρ).J Zm)):=#[have h:=h.h;(YM h).ζ λg H Q b=>by
 let(ρ,i,R,e,q):=b;let(e,hz):=Tn e;let(c,d,e):=Cm.mp e;show#[ρ,c,R,d,λj k f a=>#[(Mh a e).a ▸ hz,λp hp=>NJ f hp (Mh a e) q]]]
def
q5 {a} (h:JA X es (De K M H0 fa)):JE X (.ϫ es a pos) (tD K M H0 λρ=>(Zf ((fa ρ).J Zm)).j D.S):=#[have h:=h.h;(YL h).ζ λk H Q b=>by
 let(ρ,d,R,e,q):=b;let(l,hz,e):=B2.mp e;ext e;let(e,hz):=Tn hz;let(c,f,e):=Cm.mp e;apply#[ρ,c,R,f,λg m i j=>?_];let hd:=Mh j e;show#[hd.a ▸ hz,λp hp=>q _ _ (i.G<|ZO hp) ⟨p,g,rfl,Ck.of ZQ,hd.η<|ZO hp⟩]]
end
inductive Rv where
 |val (d:D)|own (xs:List D) (b:Kd:=.l)
def EY(K:Ao)(N:Fb)(H0 H':Hp):Rv->V->V'
 |.val d,v=>Au K N H' d v
 |.own c b,v=>∃a e,v=.I a/\H0 a=J/\H' a=Z (CO K b a c e)/\Ad K (λb=>N b\/b=a) H' c e
def AX(K:Ao)(F:U Sl->O Rv):Sp:=λd H Q _=>∃N c r,(∀a,N a->H a≠J)/\B0 K N H c d/\F c=Z r/\∀v b,Aj H b->EY K N H b r v->Q v b
@[simp]def Em:Rv->D
  |.val d=>d
  |.own a b=>.R a b
@[simp]def HJ:Rv->Bh
  |.own a=>Z a
  |_=>J
@[simp]def To:Rv->Bh
  |.own a .d=>Z a
  |_=>J
variable {K:Ao}{M:Fb}{e:Expr}{F:U Sl->O Rv}{k:Y}{fn:Ac}{fd:CH}{ps:U Ae}{x:Ae}{p:AC}{E:XK}
@[simp]def Zg(F:U Sl->O Rv)(fa:DU):Az:=λa=>(fa a).J λb=>(F b).j Em
@[simp]def En(F:U Sl->O Rv)(fa:DU):VE->Bh:=λa=>(fa a).J λb=>(F b).J HJ
def
q8(h:tD K M H0 (Zg F fa) I H Q):PB (AX K F) [] E (De K M H0 fa) I H Q:=by
 let(f,d,R,e,q):=h;let(g,j,e):=Cm.mp e;let(r,k,e):=B2.mp e;ext e;apply#[f,g,R,j,λx y c l=>#[Nf M f I,g,r,(R.st c).nh,by rw[Eh];show l,k,λv m n i=>q v m (c.G n) ?_]];cases r with|val d=>show i|own A B=>
  let(a,o,p,s,t,u):=i;show#[a,o,p,.of (λz=>(R.st c).Ξ s z) t,u.nw λb w=>.O<|.O w]
@[simp]def J0(F:U Sl->O Rv)(fa:DU):VE->Bh:=λa=>(fa a).J λb=>(F b).J To
def
q9(h:Fm .d K M H0 (J0 F fa) I H Q):PB (AX K F) [] E (De K M H0 fa) I H Q:=by
 let(g,d,R,e,q):=h;let(b,j,e):=Cm.mp e;cases c:F b with|none=>erw[DB,c]at e;cases e|some r=>
  erw[DB,c]at e;cases r with|val d=>cases e|own x k=>
   cases k with
   |l=>cases e
   |i _ _=>cases e
   |d=>
    ext e;apply#[g,b,R,j,λy z f m=>#[Nf M g I,b,_,(R.st f).nh,by rw[Eh];show m,c,λv n o p=>?_]];let(a,s,rfl,t,u,w):=p;show q a s n (f.G o) (f.ϊ t) u w
def
ra(h:tF K M H0 (En F fa) I H Q):PB (AX K F) [] E (De K M H0 fa) I H Q:=by
 let(g,d,R,e,q):=h;let(b,j,e):=Cm.mp e;cases c:F b with|none=>erw[DB,c]at e;cases e|some r=>
  erw[DB,c]at e;cases r with|val d=>cases e|own x k=>
   cases k with
   |d=>cases e
   |i _ _=>cases e
   |l=>
    ext e;apply#[g,b,R,j,λy z f m=>#[Nf M g I,b,_,(R.st f).nh,by rw[Eh];show m,c,λv n o p=>?_]];let(a,s,rfl,t,u,w):=p;show q a s n (f.G o) (f.ϊ t) u w
def
rb(G:AY X.δ X.w X.K X.mg X.ω CX k fn fd ps (AX K F))(b:AJ k X.A)(c:Gl X x)(f:X.mg x=Z (.I fn))(g:IU X.K (.I fn)=J')(i:Binds X.K fd ps [])(j:Fv CX X E)(a:JA X (e::es) (De K M H0 fa))(hz:CA X x e es pos:=by show Ga):JE X (.Ν (.β x p) (e::es) [] pos) (tD K M H0 (Zg F fa)):=#[have a:=a.h;(PF G b c f g i .ώ j a hz.d hz.s hz.p).ζ λ_ _ _ h=>q8 h]
def
re(G:AY X.δ X.w X.K X.mg X.ω CX k fn fd ps (AX K F))(b:AJ k X.A)(c:Gl X x)(f:X.mg x=Z (.I fn))(g:IU X.K (.I fn)=J')(i:Binds X.K fd ps [])(j:Fv CX X E)(a:JA X (e::es) (De K M H0 fa))(hz:CA X x e es pos:=by show Ga):JE X (.Ν (.β x p) (e::es) [] pos) (tF K M H0 (En F fa)):=#[have a:=a.h;(PF G b c f g i .ώ j a hz.d hz.s hz.p).ζ λ_ _ _ h=>ra h]
end
def GD(K:Ao)(r:U V->Hp->VK->V')(F:EX):V':=∀(N:Fb)(H:Hp)(c:U V)(e:U D)(d:D)(Q:VK),(∀a,N a->H a≠J)->Paired (Ay K N H) e c->F e=Z d ->
 (∀v b,Aj H b->Au K N b d v->Q v b)->r c H Q
def P2(K:Ao)(r:U V->Hp->VK->V')(F:U D->Bh):V':=∀(N:Fb)(H:Hp)(b:U V)(c:U D)(d:U D)(Q:VK),(∀a,N a->H a≠J)->Paired (Ay K N H) c b->F c=Z d ->
 (∀e p,H p=J->Ad K N H d e->Q (.I p) (AL H p (.R e)))->r b H Q
@[simp]def HK:U Sl->Bh
  |[]=>Z []
  |s::r=>Zi (pk s) (HK r)
def
P4{K:Ao}{N:Fb}{H:Hp}:∀{ss:U Sl}{vs:U V}{a:U D},B0 K N H ss vs->HK ss=Z a->Paired (Ay K N H) a vs
 |[],_,_,h,e=>by ext e;ext h;show .ώ
 |s::r,_,_,⟨v,t,b,h,c⟩,e=>by
  let(x,y,d,f,g):=GC e;subst b g;show .Α (h.p d)<|P4 c f
variable {K:Ao}{M:Fb}{e:Expr}{x:Ae}{p:AC}{r:U V->Hp->VK->V'}{F:EX}{G:U D->Bh}{id:String}
@[simp]def Zk(F:EX)(fa:DU):Az:=λa=>((fa a).J HK).J F
@[simp]def GH(F:U D->Bh)(fa:DU):VE->Bh:=λa=>((fa a).J HK).J F
def
aB(f:GD K r F)(h:tD K M H0 (Zk F fa) I H Q):PJ r (De K M H0 fa) I H Q:=by
 let(a,d,R,e,q):=h;unfold Zk at e;cases b:fa a with|none=>rw[b]at e;cases e|some g=>
  rw[b]at e;let(i,hp,e):=Cm.mp e;show#[a,g,R,b,λj k c l=>f (Nf M a I) k j i d Q (R.st c).nh (P4 l hp) e λv m s hv=>q v m (c.G s) hv]
def
rf(f:P2 K r G)(h:tF K M H0 (GH G fa) I H Q):PJ r (De K M H0 fa) I H Q:=by
 let(a,d,R,e,q):=h;unfold GH at e;cases b:fa a with|none=>rw[b]at e;cases e|some g=>
  rw[b]at e;let(i,hp,e):=Cm.mp e;show#[a,g,R,b,λj k c l=>f (Nf M a I) k j i d Q (R.st c).nh (P4 l hp) e λm p hp hv=>NJ c hp hv q]
def
Hb(hc:Fi X (.Γ id) r)(b:GD K r F)(c:Gl X x)(f:X.mg x=J)(hv:Fs x=Z (.Γ id))(a:JA X (e::es) (De K M H0 fa))(g:x≠"__name__":=by ext)(hz:CA X x e es pos:=by show Ga):JE X (.Ν (.β x p) (e::es) [] pos) (tD K M H0 (Zk F fa)):=#[have a:=a.h;(pE hc c f hv a g hz.d hz.s hz.p).ζ λ_ _ _ h=>aB b h]
def
aC(hc:Fi X (.ι id) r)(b:GD K r F)(c:Gl X x)(f:X.mg x=J)(hv:Fs x=Z (.ι id))(a:JA X (e::es) (De K M H0 fa))(g:x≠"__name__":=by ext)(hz:CA X x e es pos:=by show Ga):JE X (.Ν (.β x p) (e::es) [] pos) (tD K M H0 (Zk F fa)):=#[have a:=a.h;(YT hc c f hv a g hz.d hz.s hz.p).ζ λ_ _ _ h=>aB b h]
def
aE(hc:Fi X (.ι id) r)(b:P2 K r G)(c:Gl X x)(f:X.mg x=J)(hv:Fs x=Z (.ι id))(a:JA X (e::es) (De K M H0 fa))(g:x≠"__name__":=by ext)(hz:CA X x e es pos:=by show Ga):JE X (.Ν (.β x p) (e::es) [] pos) (tF K M H0 (GH G fa)):=#[have a:=a.h;(YT hc c f hv a g hz.d hz.s hz.p).ζ λ_ _ _ h=>rf b h]
end
inductive Dp where
 |fail|next(ρ:VE)|brk (ρ:VE)|cont (ρ:VE)|ret (r:Rv)
abbrev As:=VE->Dp
def HL(K:Ao)(M:Fb)(H0:Hp)(ρ:VE)(I:St)(H:Hp)(b:VE)(Q:St->Hp->V'):V':=∀a c,By K M H0 b a c->Step M (Nf M ρ I) (Nf M b a) H c->Q a c
def Bu(K:Ao)(M:Fb)(H0:Hp)(ρ:VE)(I:St)(H:Hp)(D:Ends):Dp->V'
 |.fail=>False
 |.next a=>HL K M H0 ρ I H a D.nx
 |.brk a=>HL K M H0 ρ I H a D.bk
 |.cont a=>HL K M H0 ρ I H a D.ct
 |.ret r=>∀v b,Aj H0 b->EY K M H0 b r v->D.rt v b
def tS(K:Ao)(M:Fb)(H0:Hp)(g:As):TS:=λD b H=>∃a,By K M H0 a b H/\Bu K M H0 a b H D (g a)
@[simp]def Zd(a:Dp)(g:As):Dp:=match a with
  |.next b=>g b
  |r=>r
def
HL.from{K:Ao}{M:Fb}{a b:VE}{c:St}{e:Hp}{Q:St->Hp->V'}(s:Step M (Nf M ρ I) (Nf M a c) H e)(h:HL K M H0 ρ I H b Q):HL K M H0 a c e b Q:=λd f R g=>h d f R<|s.G g
def
Bu.from{K:Ao}{M:Fb}{a:VE}{b:St}{d:Hp}{D:Ends}{r:Dp}(s:Step M (Nf M ρ I) (Nf M a b) H d)(h:Bu K M H0 ρ I H D r):Bu K M H0 a b d D r:=by
 cases r with
 |fail=>show h
 |next c=>show HL.xv s h
 |brk c=>show HL.xv s h
 |cont c=>show HL.xv s h
 |ret r=>show h
variable {K:Ao}{M:Fb}{st:AE}{AF:U AE}{g g1 g2:As}{e:Expr}{f:Az}
def
rg :JB X [] (tS K M H0 λρ=>.Q ρ):=#[ET.ζ λD a H ⟨ρ,R,q⟩=>q a H R Step.σ]
def
aF(c:JS X st (tS K M H0 g1))(d:JB X AF (tS K M H0 g2)):JB X (st::AF) (tS K M H0 λρ=>Zd (g1 ρ) g2):=#[have c:=c.h;let d:=d.h;(SO c d).ζ λD j H e=>by
 let(ρ,R,q):=e;try dsimp only at q
 apply#[ρ,R,?_];cases b:g1 ρ with
 |fail=>rw[b]at q;show q
 |next a=>rw[b]at q;show λf k g i=>#[a,g,q.xv i]
 |brk a=>rw[b]at q;show q
 |cont a=>rw[b]at q;show q
 |ret r=>rw[b]at q;show q]
@[simp]def Zy(o:O D):Dp:=match o with
  |some d=>.ϱ (.r d)
  |none=>.Ρ
def
rh(h:JE X e (tD K M H0 f)):JS X (.Return (Z e) pos) (tS K M H0 λρ=>Zy (f ρ)):=#[have h:=h.h;(Po h).ζ λD j H c=>by
 let(ρ,R,q):=c;try dsimp only at q
 cases b:f ρ with|none=>rw[b]at q;show B6 q|some d=>
  rw[b]at q;show#[ρ,d,R,b,λv g s hv=>q v g (R.η.G s)<|hv.nw λa i=>.O<|.O i]]
@[simp]def ZZ(o:Bh):Dp:=match o with
  |some a=>.ϱ (.φ a)
  |none=>.Ρ
@[simp]def Hc(o:Bh):Dp:=match o with
  |some a=>.ϱ (.φ a .d)
  |none=>.Ρ
def
aG{k:Kd}{f:VE->Bh}{r:Bh->Dp}(g:r J=.Ρ)(i:∀xs,r (Z xs)=.ϱ (.φ xs k))(h:PE X e (Fm k K M H0 f)):PS X (.Return (Z e) pos) (tS K M H0 λρ=>r (f ρ)):=(Po h).ζ λD t H j=>by
 let(ρ,R,q):=j;try dsimp only at q
 cases d:f ρ with|none=>rw[d,g]at q;show B6 q|some xs=>
  rw[d,i]at q;show#[ρ,xs,R,d,λa l m s n o p=>q (.I a) m (R.η.G s) #[a,l,rfl,R.η.ϊ n,o,p.nw λb c=>by
   rcases c with c|c
   .show .O<|.O<|.O c
   .show .O<|.ρ c]]
def
ri{f:VE->Bh}(h:JE X e (Fm .d K M H0 f)):JS X (.Return (Z e) pos) (tS K M H0 λρ=>Hc (f ρ)):=#[aG rfl (λ_=>rfl) h.h]
def
rj{f:VE->Bh}(h:JE X e (tF K M H0 f)):JS X (.Return (Z e) pos) (tS K M H0 λρ=>ZZ (f ρ)):=#[aG rfl (λ_=>rfl) h.h]
@[simp]def D3(ρ:VE)(i:Y):Bh:=match ρ[i]? with
  |some (.own a)=>Z a
  |_=>J
def
NK{i:Y}(h:D3 ρ i=Z xs):ρ[i]?=Z (.φ xs):=by grind [D3]
@[simp]def E9(ρ:VE)(i:Y):Bh:=match ρ[i]? with
  |some (.own a .d)=>Z a
  |_=>J
def
NL{i:Y}(h:E9 ρ i=Z xs):ρ[i]?=Z (.φ xs .d):=by grind [E9]
def
AD{i:Y}{v:V}(a:I[i]?.join=Z v):I[i]?=Z (Z v):=by
 cases z:I[i]? with
 |none=>rw[z]at a;cases a
 |some o=>rw[z]at a;ext a;rfl
def
aH{k:Kd}{f:VE->Y->Bh}{r:Bh->Dp}(j:r J=.Ρ)(l:∀xs,r (Z xs)=.ϱ (.φ xs k))(g:∀{ρ i xs},f ρ i=Z xs->ρ[i]?=Z (.φ xs k)){i:Y}{x:Ae}{c:AC}(m:NV X i x):PS X (.Return (Z (.β x c)) pos) (tS K M H0 λρ=>r (f ρ i)):=(Po<|GA m).mono λD u H n=>by
 let(ρ,R,q):=n;try dsimp only at q
 cases e:f ρ i with|none=>rw[e,j]at q;show B6 q|some xs=>
  rw[e,l]at q;let(a,o,h,(p,_),v,s,t):=R.ϓ i _<|g e;apply⟨.ref a,AD h,q (.ref a) H R.same ⟨a,o,rfl,p,s,t.nw λb d=>.O ?_⟩⟩;rcases d with d|d
  .show .O d
  .subst d;show .ρ #[i,xs,_,_,g e,AD h]
@[simp]def ZF(c:O j')(a b:Dp):Dp:=match c with
  |some J'=>a
  |some O'=>b
  |none=>.Ρ
def
rk{c:Expr}{a b:U AE}{t:VE->O j'}(hc:JT X c (B9 K M H0 t))(d:JB X a (tS K M H0 g1))(e:JB X b (tS K M H0 g2)):JS X (.If c a b pos) (tS K M H0 λρ=>ZF (t ρ) (g1 ρ) (g2 ρ)):=#[have hc:=hc.h;let d:=d.h;let e:=e.h;(Pp hc d e).ζ λD i H g=>by
 let(ρ,R,q):=g;try dsimp only at q
 cases f:t ρ with|none=>rw[f]at q;show B6 q|some k=>
  rw[f]at q;apply#[ρ,k,R,f,λj s=>?_];cases k with
  |true=>apply K4 ?_;show#[ρ,R.st s,Bu.xv (Step.ϋ s) q]
  |false=>apply K5 ?_;show#[ρ,R.st s,Bu.xv (Step.ϋ s) q]]
def
Iq{a:Type}{l:U a}{i:Y}{x y:a}(h:(l.ξ i x)[i]?=Z y):i<l.a/\x=y:=by
 grind
def
NM{M:Fb}{i:Y}{s:Sl}{v:V}{b:Ac}(f:ρ.a=I.a)(h:Nf M (ρ.ξ i s) (I.ξ i (Z v)) b):Nf M ρ I b\/∃xs fl a,s=.φ xs fl a/\v=.I b:=by
 rcases h with h|⟨j,xs,fl,a,c,d⟩
 .show .O<|.O h
 .by_cases e:i=j
  .subst e;cases((Iq c).2);cases((Iq d).2);show .ρ #[xs,fl,a,rfl,rfl]
  .rw[Dn e]at c d;show .O<|.ρ ⟨j,xs,fl,a,c,d⟩
def
By.put{i:Y}{s:Sl}{v:V}(R:By K M H0 ρ I H)(S:Step M (Nf M ρ I) (Nf M (ρ.ξ i s) (I.ξ i (Z v))) H H')(sm:Aj H0 H') (E:∀j a vs xs fl m,j≠i->ρ[j]?=Z (.φ xs fl m)->I[j]?=Z (Z (.I a))->H a=Z (CO K fl a xs vs)->H' a=Z (CO K fl a xs vs)) (G:i<ρ.a->Tj K M (Nf M (ρ.ξ i s) (I.ξ i (Z v))) H0 H' s (Z v)) (n:∀xs fl m a j ys b f,s=.φ xs fl m->v=.I a->j≠i->ρ[j]?=Z (.φ ys b f)->I[j]?≠Z (Z (.I a))):By K M H0 (ρ.ξ i s) (I.ξ i (Z v)) H' where
 len:=by rw[Il,Il];show R.ϧ
 same:=sm;mh:=λa h z=>by
  cases e:H a with
  |none=>show R.mh a h e
  |some o=>rw[S.kp a o e<|.ρ<|.O h]at z;ext z
 slot:=λj A e=>by
  by_cases t:i=j
  .subst t;let(B,e):=Iq e;subst e;rw[Fh<|R.ϧ ▸ B];show G B
  .rw[Dn t]at e ⊢;let q:=R.ϓ j A e;cases A with
   |no=>trivial
   |val d=>let(u,p,h):=q;show#[u,p,Au.Μ S d u h]
   |own xs fl m=>let(a,vs,p,g,l,r,w):=q;show#[a,vs,p,g,l,E j a vs xs fl m (B8 t) e (AD p) r,Ad.Μ S xs vs w]
   |lent xs fl=>let(a,vs,p,g,l,r):=q;show#[a,vs,p,g,l.Μ S<|.ρ<|.O g.1,Ad.Μ S xs vs r]
   |exc c=>let(a,C,p,g,l):=q;show#[a,C,p,g,S.kp _ _ l<|.ρ<|.ρ rfl]
 inj:=λj k xs ys fl b m f a g l r w=>by
  by_cases y:i=j
  .by_cases x:i=k
   .rw[<- y,x]
   .subst y;rw[Dn x]at l w;cases((Iq g).2);cases((Iq r).2);show absurd w<|n xs fl m a k ys b f rfl rfl (B8 x) l
  .rw[Dn y]at g r;by_cases x:i=k
   .subst x;cases((Iq l).2);cases((Iq w).2);show absurd r<|n ys b f a j xs fl m rfl rfl (B8 y) g
   .rw[Dn x]at l w;show R.inj j k xs ys fl b m f a g l r w
def
By.setV{i:Y}{d:D}{v:V}(R:By K M H0 ρ I H)(s:Aj H H')(h:Au K (Nf M ρ I) H' d v):By K M H0 (ρ.ξ i (.r d)) (I.ξ i (Z v)) H'/\Step M (Nf M ρ I) (Nf M (ρ.ξ i (.r d)) (I.ξ i (Z v))) H H':=by
 let S:Step M (Nf M ρ I) (Nf M (ρ.ξ i<|.val d)<|I.set i<|some v) H H':=#[λa o e _=>s a o e,λb c=>by
  rcases NM R.len c with q|⟨f,_,_,e,_⟩
  .show .O q
  .cases e]
 apply#[R.put S (R.η.G s) (λj a l f g _ _ _ _ e=>s _ _ e) (λ_=>#[v,rfl,h.nw λb c=>?_]) (λf g _ a j m k _ e=>nomatch e),S];rcases NM R.len c with q|⟨f,_,_,e,_⟩
 .show .O q
 .cases e
def
By.setO{i:Y}(R:By K M H0 ρ I H)(s:Aj H H')(d:H a=J)(l:H' a=Z (CO K fl a xs vs))(h:Ad K (λb=>Nf M ρ I b\/b=a) H' xs vs):By K M H0 (ρ.ξ i (.φ xs fl)) (I.ξ i (Z (.I a))) H'/\Step M (Nf M ρ I) (Nf M (ρ.ξ i (.φ xs fl)) (I.ξ i (Z (.I a)))) H H':=by
 let nf:∀b,Nf M (ρ.ξ i<|.own xs fl) (I.set i<|some<|.ref a) b->Nf M ρ I b\/b=a:=λb c=>by
  rcases NM R.len c with q|⟨xs,fl,_,e,f⟩
  .show .O q
  .cases f;show .ρ rfl
 let S:Step M (Nf M ρ I) (Nf M (ρ.ξ i<|.own xs fl)<|I.set i<|some<|.ref a) H H':=#[λa o e _=>s a o e,λb c=>by
  rcases nf b c with q|q
  .show .O q
  .subst q;show .ρ d]
 apply#[R.put S (R.η.G s) (λj a vs xs fl _ _ _ _ e=>s _ _ e) (λ_=>#[a,vs,rfl,#[R.η.ϊ d,λ_ z=>nomatch z],λm=>R.Ξ d<|.inl m,l,h.nw λb c=>.O<|nf b c]) (λn p _ v j r g k e f w t u=>?_),S];ext f;show R.Ξ d<|.ρ ⟨j,r,g,k,t,u⟩
def
By.chg{fl2:Kd}{c:O Ac}{i:Y}{ys:U D}{ws:U V}(R:By K M H0 ρ I H)(m:ρ[i]?=Z (.φ xs fl c))(g:I[i]?=Z (Z (.I a)))(h:Ad K (Nf M ρ I) H ys ws):By K M H0 (ρ.ξ i (.φ ys fl2 c)) I (AL H a (CO K fl2 a ys ws))/\Step M (Nf M ρ I) (Nf M (ρ.ξ i (.φ ys fl2 c)) I) H (AL H a (CO K fl2 a ys ws)):=by
 let(B,L,w,(x,C),y,E,N):=R.ϓ i _ m;rw[g]at w;let G:a=B:=by exists w
 subst G;let n:I.ξ i (Z<|.I a)=I:=by
  apply(Jc);intro j;by_cases e:i=j
  .subst e;rw[Fh (Bp.mp g).1,g]
  .rw[Dn e]
 let A:Nf M ρ I a:=.ρ #[i,xs,fl,c,m,g];let nf:∀b,Nf M (ρ.ξ i<|.own ys fl2 c) (I.set i<|some<|.ref a) b->Nf M ρ I b:=λb p=>by
  rcases NM R.len p with q|⟨xs,_,_,e,r⟩
  .show q
  .cases r;show A
 let S:Step M (Nf M ρ I) (Nf M (ρ.ξ i<|.own ys fl2 c)<|I.set i<|some<|.ref a) H (AL H a<|CO K fl2 a ys ws):=#[λb o e z=>by
   let ne:b≠a:=by
    rintro rfl;rcases z with z|z|z
    .show z A
    .show y z
    .rw[E]at e;ext e;rw[am]at z;ext z
   rw[Zp ne];show e,λb p=>.O<|nf b p]
 let k:By K M H0 (ρ.ξ i<|.φ ys fl2 c) (I.ξ i<|some<|.I a) (AL H a<|CO K fl2 a ys ws):=by
  apply R.put S (λb o e=>?_) (λj b P l d f s t u Q=>?_) (λ_=>#[a,ws,rfl,#[x,C],y,ZQ,Ad.Μ S ys ws h]) (λl F _ b j v d f e r s t u=>?_)
  .let ne:b≠a:=by
    rintro rfl;rw[x]at e;ext e
   rw[Zp ne];show R.η b o e
  .let ne:b≠a:=by
    rintro rfl;show s<|R.inj j i l xs d fl f c b t m u g
   rw[Zp ne];show Q
  .cases r;show s<|R.inj j i v xs d fl f c _ t m u g
 rw[n]at k S;show#[k,S]
def
By.frz{o:O Ac}{i:Y}(R:By K M H0 ρ I H)(l:ρ[i]?=Z (.φ xs fl o)):By K M H0 (ρ.ξ i (.r (.R xs fl))) I H/\Step M (Nf M ρ I) (Nf M (ρ.ξ i (.r (.R xs fl))) I) H H:=by
 let(a,m,p,z,r,s,t):=R.ϓ i _ l;let d:I.ξ i (Z<|.I a)=I:=by
  apply(Jc);grind
 let nf:∀b,Nf M (ρ.ξ i<|.val<|.lst xs fl) (I.set i<|some<|.ref a) b->Nf M ρ I b:=λb f=>by
  rcases NM R.len f with q|⟨xs,_,_,e,A⟩
  .show q
  .cases e
 let g:¬ Nf M (ρ.ξ i<|.r<|.R xs fl) (I.ξ i<|some<|.I a) a:=by
  rintro(h|⟨j,u,v,w,k,n⟩)
  .show r h
  .by_cases e:i=j
   .subst e;cases((Iq k).2)
   .rw[Dn e]at k n;show e<|R.inj i j xs u _ _ _ _ a l k (AD p) n
 let S:Step M (Nf M ρ I) (Nf M (ρ.ξ i<|.val<|.lst xs fl)<|I.set i<|some<|.ref a) H H:=#[λ_ _ e _=>e,λb f=>.O<|nf b f];let c:By K M H0 (ρ.ξ i<|.r<|.R xs fl) (I.ξ i<|some<|.I a) H:=by
  show R.put S R.η (λ_ _ _ _ _ _ _ _ _ h=>h) (λ_=>#[.I a,rfl,#[a,m,rfl,.of g s,Ad.Μ S xs m t]]) (λx _ _ b j y _ _ e=>nomatch e)
 rw[d]at c S;show#[c,S]
@[simp]def ZJ(i:Y)(o:O D)(ρ:VE):Dp:=match o with
  |some d=>.Q (ρ.ξ i (.r d))
  |none=>.Ρ
@[simp]def ZN(i:Y)(o:Bh)(ρ:VE):Dp:=match o with
  |some a=>.Q (ρ.ξ i (.φ a))
  |none=>.Ρ
@[simp]def EL(i:Y)(o:Bh)(ρ:VE):Dp:=match o with
  |some a=>.Q (ρ.ξ i (.φ a .d))
  |none=>.Ρ
def
rm{f:VE->Bh}{i:Y}(h:tS K M H0 (λρ=>EL i (f ρ) ρ) D' I H):L4 (Fm .d K M H0 f) (Ih i) D' I H:=by
 let(ρ,R,q):=h;cases b:f ρ with|none=>erw[b,EL]at q;show B6 q|some d=>
  erw[b,EL]at q;apply#[ρ,d,R,b,λa l m s c e g=>?_];let(j,k):=R.setO (i:=i) s c e g;show q _ _ j k
def
ro{f:VE->Bh}{i:Y}{x:Ae}{a:AC}(c:X.N.θ)(g:X.N[i]?=Z x)(j:Loc X.C.Θ x)(b:JE X e (Fm .d K M H0 f))(k:Ey e (Z (.β x a)) pos.ϡ X.C=Ax O':=by rfl)(l:X.fn x=J'\/X.C.Θ.τ.X x=Z .ϔ:=by first|show .inl rfl|show .inr rfl|assumption):JS X (.Assign [.Name x a] e pos) (tS K M H0 λρ=>EL i (f ρ) ρ):=#[have b:=b.h;(Nr c g j b k l).ζ λ_ _ _ q=>rm q]
def
aI{i:Y}(h:tS K M H0 (λρ=>ZJ i (f ρ) ρ) D' I H):L4 (tD K M H0 f) (Ih i) D' I H:=by
 let(ρ,R,q):=h;cases a:f ρ with|none=>erw[a,ZJ]at q;show B6 q|some d=>
  erw[a,ZJ]at q;apply#[ρ,d,R,a,λv e s hv=>?_];let(b,c):=R.setV (i:=i) s hv;show q _ _ b c
def
Tp{f:VE->Bh}{i:Y}(h:tS K M H0 (λρ=>ZN i (f ρ) ρ) D' I H):L4 (tF K M H0 f) (Ih i) D' I H:=by
 let(ρ,R,q):=h;cases b:f ρ with|none=>erw[b,ZN]at q;show B6 q|some d=>
  erw[b,ZN]at q;apply#[ρ,d,R,b,λa l m s c e g=>?_];let(j,k):=R.setO (i:=i) s c e g;show q _ _ j k
def
rp{i:Y}{x:Ae}{a:AC}(c:X.N.θ)(d:X.N[i]?=Z x)(g:Loc X.C.Θ x)(b:JE X e (tD K M H0 f))(j:Ey e (Z (.β x a)) pos.ϡ X.C=Ax O':=by rfl)(k:X.fn x=J'\/X.C.Θ.τ.X x=Z .ϔ:=by first|show .inl rfl|show .inr rfl|assumption):JS X (.Assign [.Name x a] e pos) (tS K M H0 λρ=>ZJ i (f ρ) ρ):=#[have b:=b.h;(Nr c d g b j k).ζ λ_ _ _ q=>aI q]
def
rq{f:VE->Bh}{i:Y}{x:Ae}{a:AC}(c:X.N.θ)(d:X.N[i]?=Z x)(g:Loc X.C.Θ x)(b:JE X e (tF K M H0 f))(j:Ey e (Z (.β x a)) pos.ϡ X.C=Ax O':=by rfl)(k:X.fn x=J'\/X.C.Θ.τ.X x=Z .ϔ:=by first|show .inl rfl|show .inr rfl|assumption):JS X (.Assign [.Name x a] e pos) (tS K M H0 λρ=>ZN i (f ρ) ρ):=#[have b:=b.h;(Nr c d g b j k).ζ λ_ _ _ q=>Tp q]
@[simp]def Jd(i:Y)(ρ:VE):VE:=match ρ[i]? with
  |some (.own a b _)=>ρ.ξ i (.r (.R a b))
  |_=>ρ
open J in
def
rz(i:Y)(h:JS X st (tS K M H0 g)):JS X st (tS K M H0 λρ=>g (Jd i ρ)):=#[have h:=h.h;h.ζ λe f H a=>by
 let(ρ,R,q):=a;try dsimp only at q
 unfold Jd at q;split at q
 .next j b=>
  let(c,d):=R.frz b;show#[_,c,q.xv d]
 .show#[ρ,R,q]]
@[simp]def Eo(i:Y)(o:O D)(ρ:VE):Dp:=match ρ[i]?,o with
  |some (.own a .l b),Z d=>if a.a<Av then .Q (ρ.ξ i (.φ (a++[d]) .l b))else .Ρ
  |_,_=>.Ρ
open J in
def
rA{i:Y}{x:Ae}{c:AC}(r:NV X i x)(g:JE X e (tD K M H0 f))(t:Ey (.Ν (.γ (.β x c) "append" apos) [e] [] cpos) J pos.ϡ X.C=Ax O':=by rfl)(hz:BA X x c "append" apos e cpos:=by show az):JS X (.Expr (.Ν (.γ (.β x c) "append" apos) [e] [] cpos) pos) (tS K M H0 λρ=>Eo i (f ρ) ρ):=#[have g:=g.h;(Pn (HG Mi Tq Tr PU (GA r) (Z5 g Bn hz.s) hz.b hz.f hz.l hz.s hz.p) t).ζ λB C H u=>by
  let(ρ,R,q):=u;try dsimp only at q
  unfold Eo at q;split at q
  .next w E d k y=>
   split at q
   .next hz=>
    let(a,j,m,G,F,n,o):=R.ϓ i _ k;apply#[.I a,(AD m),.O #[rfl,j,.O<|.inl n],ρ,d,R,y,λv A s hv=>?_];let(R2,z):=(R.st s).chg (ys:=w++[d]) (ws:=j++[v]) (fl2:=.l) k (AD m) ((o.η s).Β<|Ad.Α hv Ad.ώ);show⟨a,j,v,rfl,rfl,s _ _ n,o.a ▸ hz,q _ _ R2<|(Step.ϋ s).G z⟩
   .show B6 q
  .show B6 q]
end
def Mj(K:Ao)(M N:Fb)(f:Hp)(g:It)(c:U D):V':=∀e a,Step M N e f a->∀i,(∀d,c[i]?=Z d->g.go i a/\∀x b,g.yld i a x b->Aj a b/\Au K e b d x)/\(i=c.a->g.stop i a)
def tI(K:Ao)(M:Fb)(H0:Hp)(f:VE->Bh):TI:=λc H R=>∃a d,By K M H0 a c H/\f a=Z d/\∀e b,Aj H b->Mj K M (Nf M a c) b e d->R e b
def tG(K:Ao)(M:Fb)(H0:Hp)(ws:U Y)(b:D->VE->O VE):TG:=λv e H Q=>∃f d c,By K M H0 f e H/\Au K (Nf M f e) H d v/\b d f=Z c/\∀a ,By K M H0 c a H->Step M (Nf M f e) (Nf M c a) H H->(∀j,j∉ws->a[j]?=e[j]?)->Q a H
@[simp]def Zc(i:Y)(d:D)(ρ:VE):O VE:=Z (ρ.ξ i (.r d))
def ZB(b:D->VE->O VE)(g:As):U D->As
 |[],c=>.Q c
 |d::f,c=>match b d c with
  |none=>.Ρ
  |some e=>match g e with
   |.next a=>ZB b g f a
   |.cont a=>ZB b g f a
   |.brk a=>.Q a
   |r=>r
@[simp]def ZD(f:VE->Bh)(b:D->VE->O VE)(g:As):As:=λa=>match f a with
  |some c=>ZB b g c a
  |none=>.Ρ
variable {K:Ao}{M:Fb}{e:Expr}{f:VE->Bh}{b:D->VE->O VE}{g:As}
def
rB{i:Y}{x:Ae}(b:X.N.θ)(c:X.N[i]?=Z x)(f:Loc X.C.Θ x)(g:X.fn x=J'\/X.C.Θ.τ.X x=Z .ϔ:=by first|show .O rfl|show .ρ rfl|assumption):JG X (.β x pos) (tG K M H0 [i] (Zc i)):=#[by
 intro a s h H v u Q p r #[o,d,k,R,hd,e,q];ext e;let(l,m):=R.setV (i:=i) (Aj.σ H) hd;show Nn b c f g a s h H v u Q p r (q _ l m λj n=>by rw[Dn<|λe=>n (by rw[e];simp)])]
def
aJ{tg':TG}{tb:TS}(hi:∀I H R,tI K M H0 f I H R->wi I H R)(hg:∀v I H Q,tG K M H0 ws b v I H Q->tg' v I H Q)(hb:∀D I H,tS K M H0 g D I H->tb D I H) (h:tS K M H0 (ZD f b g) D' I H):Yt wi tg' tb D' I H:=by
 let(B,R,q):=h;unfold ZD at q;cases C:f B with|none=>rw[C]at q;show B6 q|some d=>
  rw[C]at q;apply hi _ _ _ #[B,d,R,C,λF P T ok=>?_];apply#[λi m e A=>m=d.a-i/\i<=d.a/\∃a,By K M H0 a e A/\Step M (Nf M B I) (Nf M a e) P A/\Bu K M H0 a e A D' (ZB b g (d.Ψ i) a),#[d.a,by simp,Fk _,B,R.st T,Step.σ,?_],?_]
  .show Bu.xv (Step.ϋ T) q
  .intro i m e A zQ;let(rfl,hle,a,S,E,c):=zQ;let(G,W):=ok _ _ E i;by_cases l:i<d.a
   .let(go,y):=G d[i]<|BZ l;rw[Mc l]at c;erw[ZB]at c;apply .inr ⟨go,λn s=>i+1<=d.a/\∃a,By K M H0 a n s/\Step M (Nf M B I) (Nf M a n) P s/\Bu K M H0 a n s D' (ZB b g (d.Ψ<|i+1) a),λn s z=>⟨d.a-(i+1),∅,rfl,z⟩,λx s yl=>?_⟩;let(Y',hd):=y x s yl;cases t:b d[i] a with|none=>rw[t]at c;show B6 c|some o=>
     rw[t]at c;simp only at c;apply hg _ _ _ _ #[a,d[i],o,S.st Y',hd,t,λL R1 S1 _=>hb _ _ _ #[o,R1,?_]];let j:Step M (Nf M a e) (Nf M o L) A s:=(Step.ϋ Y').G S1;cases k:g o with
     |fail=>rw[k]at c;show c
     |next p=>rw[k]at c;show λu N R2 w=>#[l,p,R2,E.G<|j.G w,Bu.xv (j.G w) c]
     |cont p=>rw[k]at c;show λu N R2 w=>#[l,p,R2,E.G<|j.G w,Bu.xv (j.G w) c]
     |brk p=>rw[k]at c;show λu N R2 w=>c u N R2<|j.G w
     |ret r=>rw[k]at c;show c
   .rw[Mb ∅]at c;show .O #[W (show i=d.a by lia),c e A S Step.σ]
def
rC(hp:PassesOwn (Ah X.δ X.w) X.A X.C X.xe)(hc:X.Ϫ=J')(a:JI X tg iter (tI K M H0 f))(c:JG X tg (tG K M H0 ws b))(d:JB X body (tS K M H0 g))(e:∀x,EU iter X.C x=Ax x:=by intro _;rfl):JS X (.For tg iter body [] pos) (tS K M H0 (ZD f b g)):=#[have a:=a.h;let c:=c.h;let d:=d.h;(Nw hp hc a c d e).ζ λ_ _ _ q=>aJ (λ_ _ _ z=>z) (λ_ _ _ _ z=>z) (λ_ _ _ z=>z) q]
def
PI.mono{a:TI}(h:PI X tg iter wi)(m:∀I H R,a I H R->wi I H R):PI X tg iter a:=λb s I H R c q=>h b s I H R c<|m I H R q
def P5(K:Ao)(M N:Fb)(H:Hp)(d:D)(v:V):V':=match d with
 |.lst e=>∃a c,v=.I a/\(((¬ N a\/M a)/\Rd H a (.R c))\/KL K a c)/\Ad K N H e c
 |.lst e b=>∃a c,v=.I a/\(¬ N a\/M a)/\Rd H a (CO K b a e c)/\Ad K N H e c
 |d=>Au K N H d v
def tQ(K:Ao)(M:Fb)(H0:Hp)(f:Az):TE:=λc H Q=>∃a d,By K M H0 a c H/\f a=Z d/\∀v b,Aj H b->P5 K M (Nf M a c) b d v->Q v b
def
Au.q{M N:Fb}{H:Hp}{d:D}{v:V}(h:Au K N H d v):P5 K M N H d v:=by
 cases d with
 |lst g c=>
  let(a,b,e,q,r):=h;cases c with
  |l=>
   apply#[a,b,e,?_,r];rcases q with⟨n,q⟩|⟨f,z,q⟩
   .show .O #[.O n,q]
   .cases z;show .ρ q
  |_=>
   rcases q with⟨n,q⟩|⟨f,z,_⟩
   .show#[a,b,e,.O n,q,r]
   .cases z
 |_=>show h
def
PE.q{f:Az}(h:PE X e (tD K M H0 f)):PE X e (tQ K M H0 f):=h.ζ λc H Q ⟨a,d,R,e,q⟩=>#[a,d,R,e,λv b s z=>q v b s z.q]
def
rD{f:Az}(h:JE X e (tD K M H0 f)):JE X e (tQ K M H0 f):=#[PE.q h.h]
def
rE{M N:Fb}(m:M a)(h:Rd H a (CO K fl a xs vs))(r:Ad K N H xs vs):P5 K M N H (.R xs fl) (.I a):=by
 cases fl with
 |l=>show#[a,vs,rfl,.O #[.ρ m,h],r]
 |_=>show#[a,vs,rfl,.ρ m,h,r]
@[simp]def BK(ρ:VE)(i:Y):O D:=match ρ[i]? with
  |some (.val d)=>Z d
  |some (.lent a b)=>Z (.R a b)
  |_=>J
def
rF{i:Y}{x:Ae}(c:NV X i x):PE X (.β x pos) (tQ K M H0 λρ=>BK ρ i):=(GA c).ζ λl H Q f=>by
  let(ρ,d,R,e,q):=f;try dsimp only at e q
  unfold BK at e;split at e
  .next h=>ext e;let(v,b,h):=R.ϓ i _ h;show#[v,AD b,q v H (Aj.σ H) h.q]
  .next h=>ext e;let(a,m,b,g,j,k):=R.ϓ i _ h;show#[_,AD b,q _ H (Aj.σ H)<|rE g.1 j k]
  .cases e
def aK:D->Bh
 |.lst a=>Z a
 |_=>J
def rG:D->Bh
 |.tup a=>Z a
 |_=>J
def rH:D->Bh
 |.str x=>Z (x.Ϩ.α.j λc=>D.Ι #[(T' [c])])
 |_=>J
def
rJ{l:Expr}{f:Az}(h:PE X l (tQ X.K M H0 f)):PI X tg l (tI X.K M H0 λρ=>(f ρ).J aK):=(SR h).ζ λs H G t=>by
 let(ρ,N,R,e,q):=t;let(d,u,e):=Cm.mp e;cases d with
 |lst F A=>
  cases A with
  |d=>cases e
  |i _ _=>cases e
  |l=>
  ext e;apply#[ρ,.R _,R,u,λv o B hv=>?_];let(a,c,C,g,hd):=hv;let p:∀k j,Step M (Nf M ρ s) k o j->Ca X.K j a c:=λk j S=>by
   rcases g with⟨E,g⟩|g
   .show .O<|g.Μ S (by rcases E with z|z;show .O z;show .ρ<|.O z)
   .show g.sq
  apply#[a,C,#[c,p _ _ Step.σ],q _ o B λk j S i=>?_];let b:=p _ _ S;apply#[λd m=>?_,λm=>#[c,b,by rw[m,hd.a];show Bg _]];let(w,r,n):=(Ad.Μ S _ _ hd).Χ m;apply#[#[c,w,b,r],λx L y=>?_];let(rfl,y):=y;have:=y c b;rw[r]at this;ext this;show#[Aj.σ _,n]
 |_=>ext e
def
rK{l:Expr}{f:Az}(h:PE X l (tQ X.K M H0 f)):PI X tg l (tI X.K M H0 λρ=>(f ρ).J rG):=(ow h).ζ λs H t m=>by
 let(ρ,u,R,e,q):=m;let(d,n,e):=Cm.mp e;cases d with
 |tup z=>
  ext e;apply#[ρ,.S _,R,n,λv o p hv=>?_];let(a,b,r,c,hd):=hv;apply#[a,r,#[b,c],q _ o p λA B S i=>?_];apply#[λd g=>?_,λg=>#[b,(c.Μ S),by rw[g,hd.a];show Bg _]];let(w,k,j):=(Ad.Μ S _ _ hd).Χ g;apply#[#[b,w,(c.Μ S),k],λx C y=>?_];let(rfl,y):=y;have:=y b<|c.Μ S;rw[k]at this;ext this;show⟨Aj.σ _,j⟩
 |_=>ext e
def
rL{l:Expr}{f:Az}(h:PE X l (tQ K M H0 f)):PI X tg l (tI K M H0 λρ=>(f ρ).J rH):=(qh h).ζ λp H r g=>by
 let(ρ,s,R,e,q):=g;let(d,j,e):=Cm.mp e;cases d with
 |str x=>
  ext e;apply#[ρ,.Ι x,R,j,λv k m hv=>?_];apply#[x,hv,q _ k m λt u S i=>#[λd a=>?_,λa=>?_]]
  .rw[CW]at a;let(c,hc,a):=B2.mp a;ext a;let n:i<x.Ϩ.y:=by
    have:=(Bp.mp hc).1;exists this
   apply#[n,λv w y=>?_];let(o,z,b,y):=y;subst o y;rw[<- Array.getElem?_toList,hc]at b;ext b;show#[Aj.σ _,by erw[Au]]
  .have:i=x.Ϩ.y:=by exists a
   show Nat.le_of_eq this.Ζ
 |_=>ext e
def Ir(lo:W')(n:Y):U D:=(AW n).j (λ(k:Y)=>D.o (lo+(k:W')))
def
Ts{M N:Fb}{c:Hp}{lo:W'}{n:Y}:Mj K M N c (Nt lo n) (Ir lo n):=λg h S i=>by
 apply#[λd a=>?_,λa=>?_]
 .let b:i<n:=by
   have:=(Bp.mp a).1;simpa[Ir]using this
  let e:d=D.o (lo+i):=by
   erw[Ir,CW,List.getElem?_range b,L9,P6]at a;show a.Ζ
  subst e;apply#[b,λx j y=>?_];let(f,y):=y;subst f y;show#[Aj.σ _,by erw[Au]]
 .have:i=n:=by simpa[Ir]using a
  show Nat.le_of_eq this.Ζ
def gd{a:Type}(p:V')(o:O a):O a:=@ite _ p (P7 p) o J
def
Ml{a:Type}{p:V'}{o:O a}(h:p):gd p o=o:=by grind [gd]
def
P8{a:Type}{p:V'}{o:O a}{x:a}(h:gd p o=Z x):p/\o=Z x:=by grind [Ml,gd]
def ED:U D->Bh
 |[.int j]=>gd (-1000000000<=j/\j<1000000000) (Z (Ir 0 j.ν))
 |_=>J
def NN:U D->Bh
 |[.int i,.int j]=>gd (-1000000000<=i/\i<1000000000 /\ -1000000000<=j/\j<1000000000) (Z (Ir i (j-i).ν))
 |_=>J
open J in
def
rM{a:Expr}{b:DU}{p:AC}(f:Gl X "range")(g:X.mg "range"=J)(c:JA X [a] (De K M H0 b))(i:AH [a] X.C=[(O',Aq a X.C)]:=by rfl):JI X tg (.Ν (.β "range" p) [a] [] pos) (tI K M H0 λρ=>((b ρ).J Zm).J ED):=#[have c:=c.h;(Ys f g c i).ζ λx H y k=>by
  let(ρ,z,R,e,q):=k;try dsimp only at e q
  cases d:b ρ with|none=>rw[d]at e;cases e|some m=>
   rw[d]at e;let(l,hv,e):=Cm.mp e;unfold ED at e;split at e
   .next j=>
    let(hz,e):=P8 e;ext e;apply#[ρ,m,R,d,λA n o s=>?_];let(v,r,t,u,w):=(Mh s hv);subst t u w;show#[j,rfl,∅,∅,q _ n o Ts]
   .cases e]
open J in
def
rN{a b:Expr}{c:DU}{p:AC}(k:Gl X "range")(m:X.mg "range"=J)(d:JA X [a,b] (De K M H0 c))(n:AH [a,b] X.C=[(O',Aq a X.C),(O',Aq b X.C)]:=by rfl)(f:AH [b] X.C=[(O',Aq b X.C)]:=by rfl):JI X tg (.Ν (.β "range" p) [a,b] [] pos) (tI K M H0 λρ=>((c ρ).J Zm).J NN):=#[have d:=d.h;(oB k m d n f).ζ λC H E o=>by
  let(ρ,G,R,e,q):=o;try dsimp only at e q
  cases g:c ρ with|none=>rw[g]at e;cases e|some s=>
   rw[g]at e;let(l,hv,e):=Cm.mp e;unfold NN at e;split at e
   .next i j=>
    let(hz,e):=P8 e;ext e;apply#[ρ,s,R,g,λN t u w=>?_];let(v,r,x,y,F,L,z,A,B):=(Mh w hv);subst y A B z x;show#[i,j,rfl,#[∅,∅,∅,∅],q _ t u Ts]
   .cases e]
end
def P9(K:Ao)(M:Fb)(H0:Hp)(ws:U Y)(b:U D->VE->O VE):IR:=λg d H Q=>∃e f c,By K M H0 e d H/\Ad K (Nf M e d) H f g/\b f e=Z c/\∀a ,By K M H0 c a H->Step M (Nf M e d) (Nf M c a) H H->(∀j,j∉ws->a[j]?=d[j]?)->Q a H
@[simp]def Z7:U D->VE->O VE
  |[],a=>Z a
  |_,_=>J
@[simp]def Zu(b:D->VE->O VE)(c:U D->VE->O VE):U D->VE->O VE
  |d::r,a=>(b d a).J (c r)
  |_,_=>J
@[simp]def Z8(n:Y)(b:U D->VE->O VE):D->VE->O VE
  |.tup a,c=>if a.a=n then b a c else J
  |_,_=>J
variable {K:Ao}{M:Fb}{e:Expr}{ws':U Y}{b:D->VE->O VE}{c:U D->VE->O VE}
def
rO :JK X [] (P9 K M H0 [] Z7):=#[by
 intro a s b H c d Q i r #[h,f,g,R,hd,e,q];cases f with
 |nil=>
  ext e;show Yl a s b H c d Q i r #[hd,q b R Step.σ λ_ _=>rfl]
 |cons=>cases e]
def
rP(g:JG X e (tG K M H0 ws b))(i:JK X es (P9 K M H0 ws' c))(p:(Ef (e::es) X.C).j (·.2)=BC e X.C::(Ef es X.C).j (·.2):=by rfl):JK X (e::es) (P9 K M H0 (ws++ws') (Zu b c)):=#[have g:=g.h;let i:=i.h;by
 intro a s t H F u Q L r #[w,k,l,R,hd,e,q];cases k with|nil=>cases e|cons d k=>
  let(v,x,rfl,hv,y):=hd;let(f,z,e):=Cm.mp e;apply Ps g i p a s t H _ u Q L r #[v,x,rfl,w,d,f,R,hv,z,λA B o C=>#[f,k,l,B,Ad.Μ o _ _ y,e,λm R2 E G=>q m R2 (o.G E) λj n=>?_]];rw[C0,not_or]at n;rw[G j n.2,C j n.1]]
def
rQ{k n:Y}(hc:X.Ϫ=J')(h:JK X es (P9 X.K M H0 ws c))(i:(Ef es X.C).a=n:=by rfl)(f:(Ef es X.C).findIdx? (·.1)=J:=by rfl):JG X (.ϫ es k pos) (tG X.K M H0 ws (Z8 n c)):=#[have h:=h.h;by
 intro b s j H v u Q x r #[l,d,g,R,hd,e,q];cases d with
 |tup m=>
  let(o,e):=Z1 e;let(a,p,t,w,hd):=hd;show Yn hc h i f b s j H v u Q x r #[a,p,t,w,hd.a ▸ o,l,m,g,R,hd,e,q]
 |_=>cases e]
end
@[simp]def J1:O Sl->Sl
  |some (.val d)=>.r d
  |some (.own a b _)=>.ϵ a b
  |some (.lent a b)=>.ϵ a b
  |_=>.no
@[simp]def Zq(k:Y)(oix:U Y)(ρ:VE):VE:=EV k .no++oix.j λj=>J1 ρ[j]?
def Z4(b:D->VE->O VE)(t:VE->O j')(e:Az)(ρ:VE):U D->Bh
 |[]=>Z []
 |d::c=>match b d ρ with
  |none=>J
  |some a=>match t a with
   |some J'=>Zi (e a) (Z4 b t e ρ c)
   |some O'=>Z4 b t e ρ c
   |none=>J
@[simp]def Zh(k:Y)(oix:U Y)(f:VE->Bh)(b:D->VE->O VE)(t:VE->O j')(e:Az):VE->Bh:=λa=>(Zf (f a)).J (Z4 b t e (Zq k oix a))
variable {K:Ao}{M:Fb}{f:VE->Bh}{b:D->VE->O VE}{t:VE->O j'}{e:Az}{k:Y}{oix:U Y}
open J in
def
By.comp(R:By K M H0 ρ I H)(k:Y)(oix:U Y):By K (Nf M ρ I) H (Zq k oix ρ) (Fy k oix I) H/\∀a,Nf (Nf M ρ I) (Zq k oix ρ) (Fy k oix I) a->Nf M ρ I a:=by
 let b:∀(j:Y) (c:U D) (e:Kd) (f:O Ac),(Zq k oix ρ)[j]?≠Z (Sl.φ c e f):=λj c e f h=>by
  unfold Zq at h;rw[K6]at h;split at h
  .rw[KP]at h;split at h<;>ext h
  .rw[CW]at h;cases l:oix[j-(EV k Sl.no).a]? with|none=>rw[l]at h;cases h|some o=>
    rw[l]at h;erw[L9,P6]at h;unfold J1 at h;split at h<;>ext h
 let nf:∀a,Nf (Nf M ρ I) (Zq k oix ρ) (Fy k oix I) a->Nf M ρ I a:=λa h=>by
  rcases h with h|⟨j,c,e,f,h,_⟩
  .show h
  .show absurd h<|b j c e f
 apply#[#[by simp[Zq,Fy],Aj.σ H,R.nh,λj s h=>?_,λi j c B e x f y a h=>absurd h<|b i c e f],nf];unfold Zq at h;rw[K6]at h;split at h
 .rw[KP]at h;split at h
  .cases h;trivial
  .cases h
 .next p=>
  rw[CW]at h;let r:(Fy k oix I)[j]?=(oix[j-k]?).j λi=>(I[i]?).join:=by
   unfold Fy;rw[KO (by exists p),CW];simp
  rw[r];erw[L5]at h;cases l:oix[j-k]? with|none=>rw[l]at h;cases h|some o=>
   rw[l]at h;erw[L9,P6]at h;erw[L9,Option.join_some];unfold J1 at h;split at h
   .next d hd=>subst h;let(v,g,q):=R.ϓ o _ hd;show#[v,g,q.nw λa m=>.O<|nf a m]
   .next c e f hd=>
    subst h;let(a,t,g,u,w,n,A):=R.ϓ o _ hd;show#[a,t,g,#[.ρ #[o,c,e,f,hd,AD g],λz=>by rw[n]at z;cases z],.O n,A.nw λa m=>.O<|nf a m]
   .next c hd=>
    subst h;let(a,t,g,u,w,n):=R.ϓ o _ hd;show#[a,t,g,#[.O u.1,R.mh a u.1],w,n.nw λa m=>.O<|nf a m]
   .subst h;trivial
def NO(K:Ao)(ws:U Y)(b:D->VE->O VE):TG:=λv a H Q=>∃M H0,tG K M H0 ws b v a H Q
def NP(K:Ao)(t:VE->O j'):TT:=λa H Q=>∃M H0,B9 K M H0 t a H Q
def NQ(K:Ao)(e:Az):TE:=λa H Q=>∃M H0,tD K M H0 e a H Q
def
NR(hw:∀j∈ws,j<k)(hi:∀I H R,tI K M H0 f I H R->wi I H R)(h:tF K M H0 (Zh k oix f b t e) I H Q):PV k oix wi (NO K ws b) (NP K t) (NQ K e) I H Q:=by
 let(g,E,R,ex,q):=h;let(l,G,ex):=Cm.mp ex;let(G,hz):=Tn G;apply hi _ _ _ #[g,l,R,G,λF H1 s1 ok=>?_];apply#[l.a,λi W A=>i<=l.a/\W.a<=i/\Aj H1 A/\∃c AF,Ad K (Nf M g I) A c W/\Z4 b t e (Zq k oix g) (l.Ψ i)=Z AF/\c++AF=E,#[Fk _,Bg _,Aj.σ _,[],E,Ad.ώ,ex,rfl],?_];intro i W A zQ;let(hle,hy,s,c,AF,d,hc,B):=zQ;let(L,N):=ok _ A (Step.ϋ s) i;by_cases m:i<l.a
 .let(go,y):=L l[i]<|BZ m;rw[Mc m]at hc;erw[Z4]at hc;apply .inr ⟨go,m,∅,λo P=>o.a<=i+1/\Aj H1 P/\∃c AF,Ad K (Nf M g I) P c o/\Z4 b t e (Zq k oix g) (l.Ψ<|i+1)=Z AF/\c++AF=E,λo P z=>⟨m,z⟩,λx C yl=>?_⟩;let(u,hd):=y x C yl;let(Rc,nf):=(((R.st s1).st s).st u).comp k oix;cases T:b l[i] (Zq k oix g)with
  |none=>rw[T]at hc;cases hc
  |some n=>
   rw[T]at hc;simp only at hc;apply#[Nf M g I,C,Zq k oix g,l[i],n,Rc,hd.nw λa S=>.O<|nf a S,T,λσ4 R4 S4 w4=>#[?_,?_]]
   .apply(Jc);intro j;rw[Tg,Tg];show w4 _ λhj=>absurd (hw _ hj) ∅
   .cases Y':t n with|none=>rw[Y']at hc;cases hc|some bb=>
     rw[Y']at hc;apply#[Nf M g I,C,n,bb,R4,Y',λH5 w=>?_];cases bb with
     |true=>
      let(yd,r,e1,e2,e3):=GC hc;apply K4 ?_;apply#[Nf M g I,C,n,yd,R4.st w,e1,λv H6 s6 hv=>#[?_,((s.G u).G w).G s6,c++[yd],r,(d.η<|(u.trans w).trans s6).append<|Ad.cons (hv.nw λa S=>.O<|.O S) Ad.ώ,e2,?_]]
      .erw[E8,JU];lia
      .subst e3;rw[<- B];simp
     |false=>
      show K5 #[∅,(s.G u).G w,c,AF,d.η<|u.G w,hc,B]
 .rw[Mb ∅]at hc;ext hc;rw[Eh]at B;subst B;show .O #[N (show i=l.a by lia),∅,λp hp=>NJ (s1.G s) hp d q]
def
PG.all(h:∀M H0,PG Y' tg (tG K M H0 ws b)):PG Y' tg (NO K ws b):=λa s c H v u Q d r ⟨M,H0,z⟩=>h M H0 a s c H v u Q d r z
def
HH.all(h:∀M H0,HH Y' ifs (B9 K M H0 t)):HH Y' ifs (NP K t):=λa s b H Q c ⟨M,H0,z⟩=>h M H0 a s b H Q c z
def
PE.all(h:∀M H0,PE Y' elt (tD K M H0 e)):PE Y' elt (NQ K e):=λa s b H Q c ⟨M,H0,z⟩=>h M H0 a s b H Q c z
def
rR:JF Y' [] (B9 K M H0 λ_=>Z J'):=#[λa s c H Q f ⟨d,b,R,e,q⟩=>qe a s c H Q f (by ext e;show q H<|Aj.σ H)]
def
rS{c:Expr}(h:JT Y' c (B9 K M H0 t)):JF Y' [c] (B9 K M H0 t):=#[have h:=h.h;qf h]
structure CB(K:Ao)(X:Cx)(own outs:List Ae)(scope:Scope)(tg:Expr)(ifs:List Expr)(elt:Expr)(ws:List Y)(b:D->VE->Option VE)(t:VE->Option j')(e:Az):V' where
 g:∀C s2 H2 fp pins,PG (DL X own outs scope C s2 H2 fp pins) tg (NO K ws b)
 t:∀C s2 H2 fp pins,HH (DL X own outs scope C s2 H2 fp pins) ifs (NP K t)
 e:∀C s2 H2 fp pins,PE (DL X own outs scope C s2 H2 fp pins) elt (NQ K e)
def
rT{own c:U Ae}(i:∀{C s2 d f a g H'},JG (DL X own c scope C s2 d f a) tg (tG K g H' ws b))(j:∀{C s2 d f a g H'},JF (DL X own c scope C s2 d f a) ifs (B9 K g H' t))(k:∀{C s2 d f a g H'},JE (DL X own c scope C s2 d f a) elt (tD K g H' e)):CB K X own c scope tg ifs elt ws b t e:=#[λ_ _ _ _ _=>PG.Ϛ λ_ _=>i.h,λ_ _ _ _ _=>HH.Ϛ λ_ _=>j.h,λ_ _ _ _ _=>PE.Ϛ λ_ _=>k.h]
def
rV(own a:U Ae)(oix:U Y)(S:IZ own a scope X.C.Θ)(c:oix.j (λj=>X.N[j]?)=a.j Z)(hc:X.Ϫ=J')(i:JI X tg iter (tI K M H0 f))(d:CB K X own a scope tg ifs elt ws b t e)(k:∀j∈ws,j<own.a)(l:∀x,EU iter X.C x=Ax x:=by intro _;rfl):JE X (.Λ elt [#[tg,iter,ifs,0]] scope pos) (tF K M H0 (Zh own.a oix f b t e)):=#[(ae own a oix S c hc i.h d.g d.t d.e l).ζ λ_ _ _ z=>NR k (λ_ _ _ z=>z) z]
def
rW(own a:U Ae)(oix:U Y){i:Y}{x:Ae}{c d:AC}(S:IZ own a scope X.C.Θ)(k:oix.j (λj=>X.N[j]?)=a.j Z)(hc:X.Ϫ=J')(o:X.N.θ)(l:X.N[i]?=Z x)(p:X.C.Θ.τ.X x=Z .ϔ)(q:JI X tg iter (tI K M H0 f))(m:CB K X own a scope tg ifs elt ws b t e)(r:∀j∈ws,j<own.a)(n:Ey (.Λ elt [#[tg,iter,ifs,0]] scope pos) (Z (.β x c)) d.ϡ X.C=Ax J':=by rfl)(s:∀x,EU iter X.C x=Ax x:=by intro _;rfl):JS X (.ϩ [.β x c] (.Λ elt [#[tg,iter,ifs,0]] scope pos) d) (tS K M H0 λρ=>ZN i (Zh own.a oix f b t e ρ) ρ):=#[(PX own a oix S k hc o l p q.h m.g m.t m.e n s).ζ λu v H z=>NR r (λ_ _ _ z=>z) (Tp z)]
def
rX(own c:U Ae)(oix:U Y){i:Y}{x:Ae}{k l:AC}(S:IZ own c scope X.C.Θ)(n:oix.j (λj=>X.N[j]?)=c.j Z)(hc:X.Ϫ=J')(u:X.N.θ)(o:X.N[i]?=Z x)(v:X.C.Θ.τ.X x=Z .ϔ)(w:JI X tg iter (tI K M H0 f))(m:CB K X own c scope tg ifs elt ws b t e)(y:∀j∈ws,j<own.a)(p:Ey (.Λ elt [#[tg,iter,ifs,0]] scope pos) (Z (.β x k)) l.ϡ X.C=Ax J':=by rfl)(A:∀x,EU iter X.C x=Ax x:=by intro _;rfl):JS X (.ϩ [.β x k] (.Λ elt [#[tg,iter,ifs,0]] scope pos) l) (tS K M H0 λρ=>ZJ i (ZA (Zh own.a oix f b t e ρ)) ρ):=#[(PX own c oix S n hc u o v w.h m.g m.t m.e p A).ζ λL P H z=>by
   let(ρ,d,R,r,q):=(aI z);let(B,C,r):=B2.mp r;ext r;show NR y (λ_ _ _ z=>z) #[ρ,B,R,C,λa E Q s G T F=>q _ _ s #[a,E,rfl,.of (R.Ξ G) T,F.nw λb m=>.O<|.O m]]]
end
def AU(a n:Y)(g:As):U Sl->O Rv:=λb=>if b.a=a then
  match g (b++EV (n-a) .no)with
  |.ret r=>Z r
  |.next _=>Z (.r .κ)
  |_=>J
 else J
def
rY{K:Ao}{N:Fb}(m:∀a,N a->H a≠J)(h:B0 K N H ss vs)(n:Y):By K N H (ss++EV n .no) (vs.j Z++EV n J) H:=by
 let b:∀(j:Y) (f:U D) (g:Kd) (k:O Ac),(ss++EV n Sl.no)[j]?≠Z (Sl.φ f g k):=λj f g k e=>by
  rw[K6]at e;split at e
  .let(v,_,q):=h.Χ e;show q
  .rw[KP]at e;split at e<;>ext e
 let nf:∀a,Nf N (ss++EV n Sl.no) (vs.j Z++EV n J) a->N a:=λa z=>by
  rcases z with z|⟨j,f,g,k,z,_⟩
  .show z
  .show absurd z<|b j f g k
 apply#[by simp[h.length],Aj.σ H,m,λj s e=>?_,λi j f B g p k r a z=>absurd z<|b i f g k];rw[K6]at e;split at e
 .next t=>
  let(v,u,q):=h.Χ e;rw[Fx (by simpa[<- h.length]using t),CW,u];cases s with
  |val d=>show#[v,rfl,Au.nw q λa l=>.O<|nf a l]
  |lent f g=>let(a,w,x,o,y,A):=q;show#[a,w,by rw[x];rfl,#[o,m a o],y,A.nw λa l=>.O<|nf a l]
  |no=>trivial
  |own f g k=>show B6 q
  |exc c=>show B6 q
 .rw[KP]at e;let(_,e):=Z1 e;ext e;trivial
def
rZ{P:AS}{w:Ai}{K:Ao}{mg:BP}{base:Al}{x b:Ae}{st:AE}{f:Ac}{fd:CH}{N ps:U Ae}{k:Y}{g:As}(F:JV K x b st f fd)(S:Fw N ps (Zj st))(t:ps.a<=N.a) (u:∀(c:Aa) (A:Ag) (outer:U Env) (s:Ab) (H:Hp) (E:XK) (M:Fb) (H0:Hp),AJ k (A.Ϧ (Bt b (Zj st) s.u.L.y f c))->E5 (Ei BI P w K mg base N b (Zj st) f c A outer s H E).nox (ZV st) (tS K M H0 g)):AY P w K mg base BI (k+1) f fd ps (AX K (AU ps.a N.a g)):=by
 apply F.ok S (λj H Q E h=>?_) (λc A outer s H j Q E y h=>?_)
 .let(n,o,r,p,i,a,q):=h;let(l,a):=Z1 a;rw[<- i.a];show l
 .let(n,o,r,p,i,a,q):=h;apply#[_,u c A outer s H E n H y,?_];let(l,a):=Z1 a;rw[show HE N j=j.j Z++EV (N.a-ps.a) J by unfold HE;rw[<- i.a,l]];apply#[_,rY p i<|N.a-ps.a,?_];cases d:g (o++EV (N.a-ps.a) .no)with
  |fail=>rw[d]at a;cases a
  |next e=>rw[d]at a;ext a;show λz m B C=>q .κ m B.η (by erw[EY,Au])
  |brk e=>rw[d]at a;cases a
  |cont e=>rw[d]at a;cases a
  |ret G=>rw[d]at a;ext a;show λv m s hv=>q v m s hv
def
aL{P:AS}{w:Ai}{K:Ao}{mg:BP}{base:Al}{x a:Ae}{st:AE}{f:Ac}{fd:CH}{N ps:U Ae}{k:Y}{g:As}(F:JV K x a st f fd)(S:Fw N ps (Zj st))(c:ps.a<=N.a) (d:∀(b:Aa) (A:Ag) (outer:U Env) (s:Ab) (H:Hp) (E:XK) (M:Fb) (H0:Hp),AJ k (A.Ϧ (Bt a (Zj st) s.u.L.y f b))->JB (Ei BI P w K mg base N a (Zj st) f b A outer s H E).nox (ZV st) (tS K M H0 g)):AY P w K mg base BI (k+1) f fd ps (AX K (AU ps.a N.a g)):=rZ F S c λb A outer s H E M H0 e=>(d b A outer s H E M H0 e).h
variable {K:Ao}
@[simp]def i2(g:W'->W'->O D):D->D->O D
  |.int i,.int j=>g i j
  |_,_=>J
def
Tt{g:W'->W'->O D}{x y d:D}(h:i2 g x y=Z d):∃i j,x=.o i/\y=.o j/\g i j=Z d:=by
 unfold i2 at h;split at h
 .show#[_,_,rfl,rfl,h]
 .cases h
def
Ay.int{N:Fb}{i:W'}{v:V}(h:Ay K N H (.o i) v):v=.o i:=by simpa only[Ay,Au]using h
def
Ay.str{N:Fb}{i:Ae}{v:V}(h:Ay K N H (.Ι i) v):v=.Ι i:=by simpa only[Ay,Au]using h
def
Ay.bl{N:Fb}{i:j'}{v:V}(h:Ay K N H (.bl i) v):v=.bl i:=by simpa only[Ay,Au]using h
def
Ay.non{N:Fb}{v:V}(h:Ay K N H .κ v):v=.κ:=by simpa only[Ay,Au]using h
def
Ay.ty{N:Fb}{i:String}{v:V}(h:Ay K N H (.ty i) v):v=.ty i:=by simpa only[Ay,Au]using h
def
Ay.tup{N:Fb}{v:V}(h:Ay K N H (.S xs) v):∃a vs,v=.I a/\Ck K H a vs/\Ad K N H xs vs:=by simpa only[Ay,Au]using h
def
Gb{N:Fb}{i:W'}:Au K N H (.o i) (.o i):=by erw[Au]
def
HM{N:Fb}{i:j'}:Au K N H (.bl i) (.bl i):=by erw[Au]
def
Qa{N:Fb}{i:Ae}:Au K N H (.Ι i) (.Ι i):=by erw[Au]
def
r0(g:W'->W'->W'):El K (Ik λi j=>.o (g i j)) (i2 λi j=>Z (.o (g i j))):=by
 intro N H x y c f d Q h a b e q;let(i,j,rfl,rfl,e):=Tt e;ext e;show#[i,j,a.o,b.o,q _ H (Aj.σ H) Gb]
def
Mm(g:W'->W'->j'):El K (Ik λi j=>.bl (g i j)) (i2 λi j=>Z (.bl (g i j))):=by
 intro N H x y c f d Q h a b e q;let(i,j,rfl,rfl,e):=Tt e;ext e;show#[i,j,a.o,b.o,q _ H (Aj.σ H) HM]
def
Qb{C:W'->W'->V'}[∀i j,Decidable (C i j)](g:W'->W'->W'):El K (rI C λi j=>.o (g i j)) (i2 λi j=>if C i j then Z (.o (g i j))else J):=by
 intro N H x y f h d Q k b c e q;let(i,j,rfl,rfl,a):=Tt e;split at a
 .next hc=>ext a;show#[i,j,b.o,c.o,hc,q _ H (Aj.σ H) Gb]
 .cases a
instance (i j:W'):Decidable (Nx i j):=by unfold Nx;show inferInstance
instance (i j:W'):Decidable (Ez i j):=by unfold Ez;show inferInstance
instance (i j:W'):Decidable (KG i j):=by unfold KG;show inferInstance
@[simp]def K7:D->D->O D:=i2 λi j=>Z (.o (i-j))
@[simp]def DV:D->D->O D:=i2 λi j=>if Ez i j then Z (.o (i*j))else J
@[simp]def EE:D->D->O D:=i2 λi j=>if Nx i j then Z (.o (i/j))else J
@[simp]def ZI:D->D->O D:=i2 λi j=>if 0<j then Z (.o (i%j))else J
@[simp]def HN:D->D->O D:=i2 λi j=>if KG i j then Z (.o (i^j.ν))else J
@[simp]def Mn:D->D->O D:=i2 λi j=>Z (.bl (decide (i<=j)))
@[simp]def Fa:D->D->O D:=i2 λi j=>Z (.bl (decide (j<i)))
@[simp]def NS:D->D->O D:=i2 λi j=>Z (.bl (decide (j<=i)))
variable {M:Fb}{a b:Expr}{f g:Az}
def
r6(c:JE X a (tP K M H0 f))(d:JE X b (tP K M H0 g)):JE X (.BinOp a .Sub b pos) (tD K M H0 (Za K7 f g)):=#[have c:=c.h;let d:=d.h;Mf oG (r0 _) c d]
def
r9(c:JE X a (tP K M H0 f))(d:JE X b (tP K M H0 g)):JE X (.BinOp a .Mult b pos) (tD K M H0 (Za DV f g)):=#[have c:=c.h;let d:=d.h;Mf oH (Qb _) c d]
def
sd(c:JE X a (tP K M H0 f))(d:JE X b (tP K M H0 g)):JE X (.BinOp a .FloorDiv b pos) (tD K M H0 (Za EE f g)):=#[have c:=c.h;let d:=d.h;Mf oI (Qb _) c d]
def
se(c:JE X a (tP K M H0 f))(d:JE X b (tP K M H0 g)):JE X (.BinOp a .Mod b pos) (tD K M H0 (Za ZI f g)):=#[have c:=c.h;let d:=d.h;Mf oJ (Qb _) c d]
def
sf(c:JE X a (tP K M H0 f))(d:JE X b (tP K M H0 g)):JE X (.BinOp a .Pow b pos) (tD K M H0 (Za HN f g)):=#[have c:=c.h;let d:=d.h;Mf oK (Qb _) c d]
@[simp]def K8:O D->O D
  |some (.int i)=>Z (.o (-i))
  |_=>J
open J in
def
sh(b:JE X a (tP K M H0 f)):JE X (.UnaryOp .USub a pos) (tD K M H0 λρ=>K8 (f ρ)):=#[have b:=b.h;(oF oO b).ζ λk H Q c=>by
 let(ρ,d,R,e,q):=c;try dsimp only at e q
 unfold K8 at e;split at e
 .next i g=>ext e;show#[ρ,.o i,R,g,λv j s hv=>#[i,hv.o,q _ j s Gb]]
 .cases e]
end
end
section
def aM(K:Ao):R2:=λx y H Q=>∃l b a c,x=.I l/\y=.I b/\Ca K H l a/\Ca K H b c/\a.a+c.a<=Av/\∀p,H p=J->Q (.I p) (AL H p (.R (a++c)))
def
Je:Cs X (HB .Add) (aM X.K):=by
 intro i s E H x y v u Q R o p zQ;let(l,b,G,P,rfl,rfl,t,w,hz,q):=zQ;ext o;ext p;let(c,r,p1,L):=R.Ϥ t;let(a,j,z,M):=R.Ϥ w;let N:=r.a;let A:=j.a;let((cls,B,data,C),k,hc,n,hd):=p1.ό;let((m,e,data2,f),d,g,n2,h):=z.ό;subst hc hd g h;apply concat_meets #[_,k,rfl] #[_,d,rfl] noFill_list_add seq_list_add PySem.F.slot_list_add PySem.F.entry_list_add (PySem.F.args_list_add_2 _ _) (list_addW l b c.E a.E n n2 B e C f (by rw[Ce,Ce];lia)) #[k,d,?_];rw[show c.E++a.E=(c++a).E by simp];show#[.I _,_,R.lnew (t':=s.Ε) (r.Β j) (E8 ▸ W.kdl_size hz),rfl,q _ R.Ξ]
def aN(K:Ao):R2:=λx y H Q=>∃l b a c,x=.I l/\y=.I b/\Ck K H l a/\Ck K H b c/\a.a+c.a<=Av /\
 (a=[]->Q (.I b) H)/\(c=[]->Q (.I l) H)/\∀p,H p=J->Q (.I p) (AL H p (.S (a++c)))
def
si:Cs X (HB .Add) (aN X.K):=by
 intro B s I H x y v u Q zA M N zQ;let(l,b,C,E,rfl,rfl,R,T,hz,S,qz,q):=zQ;ext M;ext N;let(c,r,p1,z1):=zA.ϒ R;let(a,G,Y',z2):=zA.ϒ T;let P:=r.a;let j:=G.a;let((cls,m,data,o),i,hc,n,hd):=id p1;let((L,f,data2,g),d,p,n2,t):=id Y';subst hc hd p t;by_cases w:C=[]
 .let k:c.E.Φ=J':=by
   subst w;have:c=[]:=Qc.mp P.Ζ;subst this;rfl
  show concat_meets #[_,i,rfl] #[_,d,rfl] noFill_tuple_add seq_tuple_add PySem.F.slot_tuple_add aO (aP _ _) (tuple_addW0 l b c.E a.E n n2 m f o g k) #[i,d,#[.I b,H,zA,rfl,S w]]
 .let k:¬ c.E.Φ=J':=by
   intro z;have:c=[]:=by exists z
   subst this;show w<|Qc.mp P
  by_cases A:E=[]
  .let h:a.E.Φ=J':=by
    subst A;have:a=[]:=Qc.mp j.Ζ;subst this;rfl
   show concat_meets #[_,i,rfl] #[_,d,rfl] noFill_tuple_add seq_tuple_add PySem.F.slot_tuple_add aO (aP _ _) (tuple_addW1 l b c.E a.E n n2 m f o g k h) #[i,d,#[.I l,H,zA,rfl,qz A]]
  .let h:¬ a.E.Φ=J':=by
    intro z;have:a=[]:=by exists z
    subst this;show A<|Qc.mp j
   let e:c.E++a.E=(c++a).E:=by simp
   apply concat_meets #[_,i,rfl] #[_,d,rfl] noFill_tuple_add seq_tuple_add PySem.F.slot_tuple_add aO (aP _ _) (tuple_addW2 l b c.E a.E n n2 m f o g k h (by rw[Ce,Ce];lia)) #[i,d,?_];rw[e];apply#[.I s.u.L.y,AL H s.u.L.y<|.tup<|C++E,zA.laid (t':=s.toks) (λb u e=>BR _ e) (Bg _) ?_,rfl,q _ zA.Ξ];show#[E8 ▸ W.kdl_size hz,c++a,r.Β G,IsTup.new _ _]
end
@[simp]def Zt:D->D->O D
  |.int i,.int j=>Z (.o (i+j))
  |.str x,.str y=>if x.a+y.a<=Av then Z (.Ι (x++y))else J
  |.lst a,.lst b=>if a.a+b.a<=Av then Z (.R (a++b))else J
  |.tup a,.tup b=>if a.a+b.a<=Av then Z (.S (a++b))else J
  |_,_=>J
def aQ(K:Ao):R2:=λx y H Q=>Ik (λi j=>.o (i+j)) x y H Q\/(∃i j,x=.Ι i/\y=.Ι j/\i.a+j.a<=Av/\Q (.Ι (i++j)) H)\/aM K x y H Q\/aN K x y H Q
def
sj:Cs X (HB .Add) (aQ X.K):=KH.or<|FO.or<|Je.or si
def
aR{K:Ao}{N:Fb}{p:Ac}(b:∀a,N a->H a≠J)(hp:H p=J)(h:Ad K N H xs vs):Au K N (AL H p (.R vs)) (.R xs) (.I p):=by
 show#[p,vs,rfl,.of (λz=>b p z hp) ZQ,h.η<|ZO hp]
def
NT{K:Ao}{N:Fb}{p:Ac}(hp:H p=J)(h:Ad K N H xs vs):Au K N (AL H p (.S vs)) (.S xs) (.I p):=by
 show#[p,vs,rfl,Ck.of ZQ,h.η<|ZO hp]
def
sk{K:Ao}:El K (aQ K) Zt:=by
 intro N H x y r s d Q o i j e q;unfold Zt at e;split at e
 .cases e;show .O #[_,_,i.o,j.o,q _ H (Aj.σ H) Gb]
 .let(hz,e):=Z1 e;ext e;show .ρ<|.O ⟨_,_,i.Ι,j.Ι,hz,q _ H (Aj.σ H) Qa⟩
 .let(hz,e):=Z1 e;ext e;let(a,g,m,k,c):=i;let(b,h,n,l,f):=j;show .ρ<|.inr<|.inl ⟨a,b,g,h,m,n,k,l,by rw[<- c.length,<- f.length];show hz,λp hp=>q _ _ (ZO hp)<|aR o hp<|c.Β f⟩
 .let(hz,e):=Z1 e;ext e;let(a,g,m,k,c):=i.S;let(b,h,n,l,f):=j.S;apply .ρ<|.inr<|.inr ⟨a,b,g,h,m,n,k,l,by rw[<- c.length,<- f.length];show hz,λz=>?_,λz=>?_,λp hp=>q _ _ (ZO hp)<|NT hp<|c.Β f⟩
  .show q _ H (Aj.σ H) #[b,g++h,rfl,z ▸ l,c.Β f]
  .show q _ H (Aj.σ H) #[a,g++h,rfl,by rw[z,Eh];show k,c.Β f]
 .cases e
def
so{M:Fb}{a b:Expr}{f g:Az}(c:JE X a (tP X.K M H0 f))(d:JE X b (tP X.K M H0 g)):JE X (.BinOp a .Add b pos) (tD X.K M H0 (Za Zt f g)):=#[have c:=c.h;let d:=d.h;Mf sj sk c d]
def sr(K:Ao):V->O W'->O W'->Hp->VK->V':=λx lo c H Q=>∃a b,x=.I a/\Ck K H a b/\(IW b lo c=b->Q (.I a) H)/\∀p,H p=J->Q (.I p) (AL H p (.S (IW b lo c)))
def
Jf:JR X (sr X.K):=by
 intro h s t H x v u w lo e y Q z j k l m zQ;let(a,d,rfl,n,p,q):=zQ;ext j;let(f,r,i,hz):=z.ϒ n;let c:f.E.y=d.a:=Ce ▸ r.a.Ζ;apply#["tuple",_,PyProof.Rows.Ϻ.X,i.ϕ,HT.getItem_tuple_cut i k l m (λg=>#[.I a,H,z,rfl,p ?_]) (λ_=>?_) (c ▸ hz)]
 .rw[c]at g;unfold IW;rw[g.1,g.2,List.drop_zero,Nat.sub_zero,List.take_length]
 .rw[c];apply#[.I s.u.L.y,_,z.laid (t':=s.Ε) (o:=.S<|IW d lo e) (λb A q=>BR _ q) (Bg _) ?_,rfl,q _<|z.ϥ.Ξ<|Bg _];show⟨BN (YX d lo e) hz,_,(r.Ψ<|HT.sIx d.a 0 lo).ϣ<|HT.sIx d.a d.a e-HT.sIx d.a 0 lo,IsTup.new _ _⟩
@[simp]def Am:D->D->O D
  |.lst a,.int i=>atI a i
  |.tup a,.int i=>atI a i
  |.str x,.int i=>if x.a<=Av then(atI x.Ϩ.α i).j λc=>.Ι #[(T' [c])]else J
  |_,_=>J
def
Ad.atI{K:Ao}{N:Fb}{i:W'}{d:D}(h:Ad K N H xs vs)(e:Internal.atI xs i=Z d):∃v,Internal.atI vs i=Z v/\Au K N H d v:=by
 unfold Internal.atI at e ⊢;rw[<- h.a];cases a:Ek xs.a i with
 |none=>rw[a]at e;cases e
 |some j=>rw[a]at e;show h.Χ e
open J in
def
su{K:Ao}:El K (Y2 K) Am:=by
 intro N H x y m n d Q o b f e q;unfold Am at e;split at e
 .let(a,g,h,j,k):=b;let(v,l,hv):=k.atI e;show .O #[a,g,_,v,h,f.o,j,l,q v H (Aj.σ H) hv]
 .let(a,g,h,j,k):=b.S;let(v,l,hv):=k.atI e;show .ρ<|.O ⟨a,g,_,v,h,f.o,j,l,q v H (Aj.σ H) hv⟩
 .split at e
  .next z i hz=>
   let(c,hc,e):=B2.mp e;ext e;show .ρ<|.ρ ⟨z,i,c,b.Ι,f.o,hz,hc,q _ H (Aj.σ H) Qa⟩
  .cases e
 .cases e
variable {K:Ao}{M:Fb}{a b e:Expr}{f g:Az}
def
sw(c:JE X a (tP X.K M H0 f))(d:JE X b (tP X.K M H0 g))(e:NE b):JE X (.μ a b pos) (tD X.K M H0 (Za Am f g)):=#[have c:=c.h;let d:=d.h;ay pR su c d e]
def tO(K:Ao)(M:Fb)(H0:Hp)(o:VE->O (O W')):TO:=λc H Q=>∃a i,By K M H0 a c H/\o a=Z i/\∀b,Aj H b->Q i b
@[simp]def EZ:O D->O (O W')
  |some (.int i)=>Z (Z i)
  |_=>J
def
PO.mono{e:O Expr}{t t':TO}(h:PO X e t)(m:∀I H Q,t' I H Q->t I H Q):PO X e t':=by
 intro a s I H Q b q;show h a s I H Q b<|m I H Q q
def
sx :JO X J (tO K M H0 λ_=>Z J):=#[PO.ζ pL λa H Q ⟨b,i,R,e,q⟩=>by(try dsimp only at e q);ext e;show q H<|Aj.σ H]
open J in
def
sA(h:JE X e (tP K M H0 f)):JO X (Z e) (tO K M H0 λρ=>EZ (f ρ)):=#[have h:=h.h;PO.ζ (pM h) λd H Q a=>by
 let(ρ,i,R,e,q):=a;try dsimp only at e q
 unfold EZ at e;split at e
 .next j b=>ext e;show#[ρ,.o j,R,b,λv c s hv=>#[j,hv.o,q c s]]
 .cases e]
def Fc{a:Type}(xs:U a)(lo b:O W'):U a:=(xs.Ψ (HT.sIx xs.a 0 lo)).ϣ (HT.sIx xs.a xs.a b-HT.sIx xs.a 0 lo)
@[simp]def Fz(x:D)(lo a:O W'):O D:=match x with
  |.lst b=>Z (.R (Fc b lo a))
  |.tup b=>Z (.S (Fc b lo a))
  |.str x=>if x.a<=Av then Z (.Ι (Txt.slice x lo a))else J
  |_=>J
def
Ad.cut{K:Ao}{N:Fb}(h:Ad K N H xs vs)(lo a:O W'):Ad K N H (Fc xs lo a) (IW vs lo a):=by
 unfold Fc IW;rw[h.a];show(h.Ψ _).ϣ _
@[simp]def E1{b:Type}(f:Az)(lo c:VE->O (O W'))(F:D->O W'->O W'->O b):VE->O b:=λa=>(f a).J λx=>(lo a).J λl=>(c a).J λh=>F x l h
def
sB{e:Type}{f:Az}{b:VE->O (O W')}{F:D->O W'->O W'->O e}{d:e}(h:E1 f lo b F ρ=Z d):∃x l u,f ρ=Z x/\lo ρ=Z l/\b ρ=Z u/\F x l u=Z d:=by
 unfold E1 at h;cases a:f ρ with|none=>rw[a]at h;cases h|some x=>
  cases c:lo ρ with|none=>rw[a,c]at h;cases h|some l=>
   cases g:b ρ with
   |none=>rw[a,c,g]at h;cases h
   |some u=>rw[a,c,g]at h;show#[x,l,u,rfl,rfl,rfl,h]
def
sC{w y:O Expr}{A:VE->O (O W')}(j:JE X e (tP X.K M H0 f))(k:JO X w (tO X.K M H0 lo))(m:JO X y (tO X.K M H0 A)):JE X (.μ e (.Slice w y J p2) pos) (tD X.K M H0 (E1 f lo A Fz)):=#[have j:=j.h;let k:=k.h;let m:=m.h;(pO (IY.or<|Jf.or qk) j k m).mono λF H Q C=>by
 let(n,d,R,ex,q):=C;let(x,l,u,E,G,S,b):=sB ex;apply#[n,x,R,E,λv L o hv=>#[n,l,R.st o,G,λN r=>#[n,u,(R.st o).st r,S,λP B=>?_]]];let hv:=(hv.η r).η B;let s:=(o.G r).G B;unfold Fz at b;split at b
 .cases b;let(a,c,t,g,i):=hv;show .O #[a,c,t,g,λp hp=>q _ _ (s.G<|ZO hp)<|aR (R.st s).nh hp<|i.cut l u]
 .cases b;let(a,c,t,g,i):=hv.S;show .ρ<|.inl ⟨a,c,t,g,λz=>q _ _ s ⟨a,c,rfl,g,z ▸ i.cut l u⟩,λp hp=>q _ _ (s.G<|ZO hp)<|NT hp<|i.cut l u⟩
 .let(hz,b):=Z1 b;ext b;show .ρ<|.ρ ⟨_,hv.Ι,hz,q _ _ s Qa⟩
 .cases b]
end
mutual
def Bl:D->D->j'
 |.non,.non=>J'
 |.bl a,.bl b=>a==b
 |.bl a,.int b=>(if a then 1 else 0)==b
 |.int a,.bl b=>a==(if b then 1 else 0)
 |.int a,.int b=>a==b
 |.str a,.str b=>a==b
 |.tup c,.tup d=>Dq c d
 |.lst c,.lst d=>Dq c d
 |_,_=>O'
def Dq:U D->U D->j'
 |[],[]=>J'
 |x::a,y::b=>Bl x y&&Dq a b
 |_,_=>O'
end
@[simp]def AZ:Y->D->j'
  |_,.non=>J'
  |_,.bl _=>J'
  |_,.int _=>J'
  |_,.str _=>J'
  |n+1,.tup a=>a.Ϛ (AZ n)
  |n+1,.lst a=>a.Ϛ (AZ n)
  |_,_=>O'
mutual
theorem Tu:∀(n:Y)(d:D),AZ n d=J'->Bl d d=J'
 |_,.non,_=>id rfl
 |_,.bl _,_=>beq_self_eq_true _
 |_,.int _,_=>beq_self_eq_true _
 |_,.str _,_=>beq_self_eq_true _
 |0,.ty _,h=>by simp[AZ]at h
 |_+1,.ty _,h=>by simp[AZ]at h
 |0,.tup a,h=>by simp[AZ]at h
 |0,.lst a _,h=>by simp[AZ]at h
 |n+1,.tup a,h=>NU n a h
 |n+1,.lst a .l,h=>NU n a h
 |n+1,.lst a .d,h=>by simp[AZ]at h
 |n+1,.lst a (.i _ _),h=>by simp[AZ]at h
theorem NU:∀(n:Y)(xs:U D),xs.Ϛ (AZ n)=J'->Dq xs xs=J'
 |_,[],_=>id rfl
 |n,x::xs,h=>by
  erw[NX,Dv]at h
  show(Dv _ _).Ϣ #[Tu n x h.1,NU n xs h.2]
end
def
Tv:∀{xs ys:U D},xs.a≠ys.a->Dq xs ys=O'
 |[],[],h=>absurd rfl h
 |[],_::_,_=>id rfl
 |_::_,[],_=>id rfl
 |x::xs,y::ys,h=>by
  change (_&&_)=_;rw[Tv (xs:=xs) (ys:=ys) (by exists h),Bool.and_false]
def
Tw:∀{xs ys:U D},xs.a=ys.a->Dq xs ys=(AW xs.a).Ϛ λj=>Bl (xs.B j .κ) (ys.B j .κ)
 |[],[],_=>by simp[Dq]
 |[],_::_,h=>by simp at h
 |_::_,[],h=>by simp at h
 |x::xs,y::ys,h=>by
  simp only[Dq,Ct,Qd,NX,List.getD_cons_zero,Jg,Tw (xs:=xs) (ys:=ys) (by exists h)];rfl
variable {s:Ab}
def
Inv.apart(k:Inv X pins I H s){xs:U V}(h:Ca X.K H a xs)(h':Ck X.K H a ys):False:=by
 let(d,r,(o,n,e,c,_),_):=k.Ϥ h;let(b,f,(g,i,j,_),_):=k.ϒ h';simp_all
def
Inv.apartDL(k:Inv X pins I H s){ks:U KT}{xs:U V}(h:Rd H a (.dct ks xs))(h':Ca X.K H a ys):False:=by
 let(_,_,_,o,_,_,e,c,_):=h.ok k.ϥ;let(b,d,(f,g,i,j,_),_):=k.Ϥ h';simp_all
def
Inv.apartDT(j:Inv X pins I H s){ks:U KT}{xs:U V}(h:Rd H a (.dct ks xs))(h':Ck X.K H a ys):False:=by
 let(_,_,_,o,_,_,e,c,_):=h.ok j.ϥ;let(b,d,(f,g,i,_),_):=j.ϒ h';simp_all
def
Inv.apartIL(l:Inv X pins I H s){C b:Ac}{c:U (Ae×V)}(h:Rd H a (.ins C b c))(h':Ca X.K H a ys):False:=by
 let(_,_,_,e,_):=(show Bo X.δ X.w H s.u a (.ins C b c)from h.ok l.ϥ);let(d,f,(g,i,j,k,_),_):=l.Ϥ h';simp_all
def
Inv.apartIT(k:Inv X pins I H s){C b:Ac}{c:U (Ae×V)}(h:Rd H a (.ins C b c))(h':Ck X.K H a ys):False:=by
 let(_,_,_,e,_):=(show Bo X.δ X.w H s.u a (.ins C b c)from h.ok k.ϥ);let(d,f,(g,i,j,_),_):=k.ϒ h';simp_all
def K9:D->O V
 |.non=>Z .κ
 |.bl b=>Z (.bl b)
 |.int i=>Z (.o i)
 |.str x=>Z (.Ι x)
 |.ty n=>Z (.ty n)
 |_=>J
def
sD{d d':D}{w:V}(h:K9 d=Z w)(h':K9 d'=Z w):d=d':=by
 ext d<;>ext h<;>ext d'<;>ext h'<;>rfl
def
Ay.av{K:Ao}{N:Fb}{d:D}{v:V}(h:Ay K N H d v):match K9 d with
  |some w=>v=w
  |none=>∃a,v=.I a:=by
 cases d with
 |lst b c=>ext c<;>(let(a,_,e,_):=h;show#[a,e])
 |tup b=>let(a,_,e,_):=h.S;show#[a,e]
 |non=>show h.κ
 |bl _=>show h.bl
 |int _=>show h.o
 |str _=>show h.Ι
 |ty _=>show h.ty
def
Ay.at{K:Ao}{N c:Fb}{d d':D}{v w:V}(e:K9 d=Z w)(h:Ay K N H d v)(h':Ay K c H d' v):d=d':=by
 let h:=h.av;let h':=h'.av;rw[e]at h;subst h;cases b:K9 d' with
 |some u=>rw[b]at h';subst h';show sD e b
 |none=>rw[b]at h';let(a,z):=h';subst z;ext d<;>ext e
def
Ay.at'{K:Ao}{N:Fb}{d':D}(h':Ay K N H d' (.I a)):K9 d'=J:=by
 let h:=h'.av;cases e:K9 d' with
 |none=>rfl
 |some w=>rw[e]at h;subst h;ext d'<;>ext e
mutual
/-- what an address denotes is one thing -/
theorem aS(w:Inv X pins I H s){N u:Fb}:∀(n:Y)(d d':D)(v:V),AZ n d=J'->Ay X.K N H d v->Ay X.K u H d' v->d=d'
 |_,.non,d',v,_,h,c=>Ay.at rfl h c
 |_,.bl _,d',v,_,h,c=>Ay.at rfl h c
 |_,.int _,d',v,_,h,c=>Ay.at rfl h c
 |_,.str _,d',v,_,h,c=>Ay.at rfl h c
 |_,.ty _,d',v,_,h,c=>Ay.at rfl h c
 |0,.tup g,d',v,o,h,c=>by simp[AZ]at o
 |0,.lst g _,d',v,o,h,c=>by simp[AZ]at o
 |n+1,.tup g,d',v,o,h,c=>by
  let(a,p,e,q,r):=h.S
  subst e
  let z:=c.at'
  cases d' with
  |tup m=>
   let(b,j,e,f,k):=c.S
   ext e
   have:=w.tuple_inj q f
   subst this
   rw[NY w n g m p o r k]
  |lst _ t=>
   cases t with
   |l=>let(b,j,e,f,_):=c;ext e;show(w.apart f q).Δ
   |d=>let(b,j,e,f,_):=c;ext e;show(w.apartDT f q).Δ
   |i=>let(b,j,e,f,_):=c;ext e;show(w.apartIT f q).Δ
  |_=>cases z
 |n+1,.lst g .d,d',v,o,h,c=>by simp[AZ]at o
 |n+1,.lst g (.i _ _),d',v,o,h,c=>by simp[AZ]at o
 |n+1,.lst g .l,d',v,o,h,c=>by
  let(a,p,e,q,r):=h
  subst e
  let z:=c.at'
  cases d' with
  |tup m=>let(b,j,e,f,k):=c.S;ext e;show(w.apart q f).Δ
  |lst m t=>
   cases t with
   |d=>let(b,j,e,f,k):=c;ext e;show(w.apartDL f q).Δ
   |i=>let(b,j,e,f,k):=c;ext e;show(w.apartIL f q).Δ
   |l=>
    let(b,j,e,f,k):=c
    ext e
    have:=w.list_inj q f
    subst this
    rw[NY w n g m p o r k]
  |_=>ext z
theorem NY(i:Inv X pins I H s){N b:Fb}:∀(n:Y)(xs ys:U D)(vs:U V),xs.Ϛ (AZ n)=J'->Ad X.K N H xs vs->Ad X.K b H ys vs->xs=ys
 |_,[],ys,vs,_,h,a=>by
  erw[Ad]at h;subst h
  cases ys with
  |nil=>rfl
  |cons y ys=>erw[Ad]at a;let(_,_,e,_):=a;cases e
 |n,x::xs,ys,vs,o,h,a=>by
  erw[NX,Dv]at o
  erw[Ad]at h
  let(v,r,e,q,t):=h
  subst e
  cases ys with
  |nil=>erw[Ad]at a;cases a
  |cons y ys=>
   erw[Ad]at a
   let(f,g,e,c,d):=a
   ext e
   rw[aS i n x y v o.1 q.p c.p,NY i n xs ys r o.2 t d]
end
open SeqAt
def
EM{a:Type}{xs:U a}{j:Y}{d e:a}(h:xs[j]?=Z e):xs.B j d=e:=by simp[List.getD_eq_getElem?_getD,h]
def
aT{a:U Aa}{j:Y}(b:j<a.E.y)(e:a[j]?=Z u):a.E[j]=u:=by
 let(_,e):=Bp.mp e;exists e
def Qe(A:Ag)(s:Ab)(u v:Aa)(b:j'):V':=RcAt A s u v b/\EqAt A s u v b/\RcNeAt A s u v (!b)
def
NZ(A:Ag):A.in1.ε=A.ε+1:=rfl
def
Mo{N:Fb}{x:D}{v:V}(h:Ay X.K N H x v)(r:RelV v u)(o:AZ 0 x=J'):(x=.κ/\u=.Η)\/(∃b,x=.bl b/\u=.Ϡ b)\/(∃i t,x=.o i/\u=.o i t)\/∃c t,x=.Ι c/\u=.Ι c t:=by
 cases x with
 |non=>cases h.κ;show .O #[rfl,r]
 |bl b=>cases h.bl;show .ρ<|.O ⟨b,rfl,r⟩
 |int i=>cases h.o;let(t,r):=r;show .ρ<|.ρ<|.O ⟨i,t,rfl,r⟩
 |str c=>cases h.Ι;let(t,r):=r;show .ρ<|.ρ<|.ρ ⟨c,t,rfl,r⟩
 |_=>simp[AZ]at o
def
aU(q:Inv X pins I H s){N:Fb}(A:Ag)(x y:D)(a d:V)(u v:Aa)(m:A.ε+0<Ar)(e:AZ 0 x=J')(f:AZ 0 y=J')(g:Ay X.K N H x a)(h:Ay X.K N H y d)(j:RelV a u)(k:RelV d v):Qe A s u v (Bl x y):=by
 rcases Mo g j e with⟨rfl,rfl⟩|⟨b,rfl,rfl⟩|⟨i,t,rfl,rfl⟩|⟨c,t,rfl,rfl⟩<;>rcases Mo h k f with⟨rfl,rfl⟩|⟨n,rfl,rfl⟩|⟨o,l,rfl,rfl⟩|⟨p,l,rfl,rfl⟩
 .show#[.none_none,.η _,.none_none]
 .show#[.none_bool _,.none_bool _,.none_bool _]
 .show#[.none_int _ _,.none_int _ _,.none_int _ _]
 .show#[.none_str _ _,.none_str _ _,.none_str _ _]
 .show#[.bool_none _,.bool_none _,.bool_none _]
 .show#[.bool_bool _ _,.bool_bool _ _,.bool_bool _ _]
 .show#[.bool_int _ _ _,.bool_int _ _ _,.bool_int _ _ _]
 .show#[.bool_str _ _ _,.bool_str _ _ _,.bool_str _ _ _]
 .show#[.int_none _ _,.int_none _ _,.int_none _ _]
 .show#[.int_bool _ _ _,.int_bool _ _ _,.int_bool _ _ _]
 .show#[.int_int _ _ _ _,.int_int _ _ _ _,.int_int _ _ _ _]
 .show#[.int_str _ _ _ _,.int_str _ _ _ _,.int_str _ _ _ _]
 .show#[.str_none _ _,.str_none _ _,.str_none _ _]
 .show#[.str_bool _ _ _,.str_bool _ _ _,.str_bool _ _ _]
 .show#[.str_int _ _ _ _,.str_int _ _ _ _,.str_int _ _ _ _]
 .show#[.str_str _ _ _ _,.str_str _ _ _ _,.str_str _ _ _ _]
def
N0(S:Inv X pins I H s){N:Fb}:∀(n:Y)(A:Ag)(x y:D)(vx vy:V)(u v:Aa),A.ε+n<Ar->AZ n x=J'->AZ n y=J'->Ay X.K N H x vx->Ay X.K N H y vy->RelV vx u->RelV vy v->Qe A s u v (Bl x y):=by
 intro n;induction n with|zero=>show aU S|succ n ih=>
  intro A x y vx vy u v hu ox oy hx hy rx ry;let h:A.ε<Ar:=EF hu;let P:∀{g k:U D} {B ws:U V} {m F:U Aa},g.Ϛ (AZ n)=J'->k.Ϛ (AZ n)=J'->Ad X.K N H g B->Ad X.K N H k ws->Ap B m->Ap ws F->m.a=g.a/\F.a=k.a/\∀j (h1:j<m.E.y) (h2:j<F.E.y),EqAt A.in1 s m.E[j] F.E[j] (Bl (g.B j .κ)<|k.getD j .non):=λox oy Q T Y' r2=>by
   let l1:=Q.a.G Y'.a;let l2:=T.a.G r2.a;apply#[l1.Ζ,l2.Ζ,λj h1 h2=>?_];let C:=h1;let G:=h2;rw[Ce]at C G;rw[<- l1]at C;rw[<- l2]at G;let(w1,hw1,dw1):=Q.Χ<|BZ C;let(w2,hw2,dw2):=T.Χ<|BZ G;let(u1,hu1,ru1):=Y'.Χ hw1;let(u2,hu2,ru2):=r2.Χ hw2;rw[aT h1 hu1,aT h2 hu2,EM<|BZ C,EM<|BZ G];show(ih A.in1 _ _ _ _ _ _ (by rw[NZ];lia) (Dr.mp ox _<|Fn C) (Dr.mp oy _<|Fn G) dw1.p dw2.p ru1 ru2).2.1
  let con:∀{x:D} {v:V} {u:Aa},AZ (n+1) x=J'->Ay X.K N H x v->RelV v u->AZ 0 x=J'\/(∃g a B m,x=.S g/\u=.I a/\g.Ϛ (AZ n)=J'/\Ck X.K H a B/\Ad X.K N H g B/\Ap B m/\s.u.IsTuple a m.E)\/∃g a B m,x=.R g/\u=.I a/\g.Ϛ (AZ n)=J'/\Ca X.K H a B/\Ad X.K N H g B/\Ap B m/\s.u.IsList a m.E:=λ{x v u} o h r=>by
   cases x with
   |tup g=>let(a,B,rfl,q,d):=h.S;let(m,z,p,_):=S.ϒ q;show .ρ<|.O ⟨g,a,B,m,rfl,r,o,q,d,z,p⟩
   |lst g f=>
    cases f with
    |l=>let(a,B,rfl,q,d):=h;let(m,z,p,_):=S.Ϥ q;show .ρ<|.ρ ⟨g,a,B,m,rfl,r,o,q,d,z,p.ό⟩
    |_=>simp[AZ]at o
   |ty _=>simp[AZ]at o
   |_=>show .O rfl
  rcases con ox hx rx with L|⟨g,a1,B,m,rfl,rfl,L,q1,Q,Y',p1⟩|⟨g,a1,B,m,rfl,rfl,L,q1,Q,Y',p1⟩<;>rcases con oy hy ry with M|⟨k,a2,ws,F,rfl,rfl,M,q2,T,r2,w⟩|⟨k,a2,ws,F,rfl,rfl,M,q2,T,r2,w⟩
  .show aU S A x y vx vy u v h L M hx hy rx ry
  .rcases Mo hx rx L with⟨rfl,rfl⟩|⟨b,rfl,rfl⟩|⟨i,t,rfl,rfl⟩|⟨c,t,rfl,rfl⟩<;>change RcAt _ _ _ _ O'/\EqAt _ _ _ _ O'/\RcNeAt _ _ _ _ J'<;>apply⟨?_,?_,?_⟩<;>with_reducible first|show .none_tuple w h|show .bool_tuple _ w h|show .int_tuple _ _ w h|show .str_tuple _ _ w h
  .rcases Mo hx rx L with⟨rfl,rfl⟩|⟨b,rfl,rfl⟩|⟨i,t,rfl,rfl⟩|⟨c,t,rfl,rfl⟩<;>change RcAt _ _ _ _ O'/\EqAt _ _ _ _ O'/\RcNeAt _ _ _ _ J'<;>apply⟨?_,?_,?_⟩<;>with_reducible first|show .none_list w h|show .bool_list _ w h|show .int_list _ _ w h|show .str_list _ _ w h
  .rcases Mo hy ry M with⟨rfl,rfl⟩|⟨b,rfl,rfl⟩|⟨i,t,rfl,rfl⟩|⟨c,t,rfl,rfl⟩<;>change RcAt _ _ _ _ O'/\EqAt _ _ _ _ O'/\RcNeAt _ _ _ _ J'<;>apply⟨?_,?_,?_⟩<;>with_reducible first|show .tuple_none p1 h|show .tuple_bool _ p1 h|show .tuple_int _ _ p1 h|show .tuple_str _ _ p1 h
  .let(l1,l2,E):=P L M Q T Y' r2;let k1:=RcAt.tuples (e:=λj=>Bl (g.B j .κ)<|k.getD j .non) p1 w h E;let k2:=RcNeAt.tuples (e:=λj=>Bl (g.B j .κ)<|k.getD j .non) p1 w h E;let e:((AW<|min m.toArray.size F.toArray.size).all (λj=>Bl (g.B j .κ)<|k.B j .κ)&&m.E.y==F.E.y)=Dq g k:=by
    rw[Ce,Ce,l1,l2];by_cases R:g.a=k.a
    .rw[Tw R,R,Nat.min_self];simp
    .rw[Tv R,show(g.a==k.a)=O' by simp;show W.neN R,Bool.and_false]
   rw[e]at k1 k2;change Qe _ _ _ _<|Dq g k;apply⟨k1,?_,k2⟩;by_cases ea:a1=a2
   .subst ea;cases S.tuple_inj q1 q2;rw[NY S n g k _ L Q T,NU n k M];show .η _
   .show .of_refs ea k1
  .change RcAt _ _ _ _ O'/\EqAt _ _ _ _ O'/\RcNeAt _ _ _ _ J';apply#[?_,?_,?_]<;>show .tuple_list p1 w h
  .rcases Mo hy ry M with⟨rfl,rfl⟩|⟨b,rfl,rfl⟩|⟨i,t,rfl,rfl⟩|⟨c,t,rfl,rfl⟩<;>change RcAt _ _ _ _ O'/\EqAt _ _ _ _ O'/\RcNeAt _ _ _ _ J'<;>apply⟨?_,?_,?_⟩<;>with_reducible first|show .list_none p1 h|show .list_bool _ p1 h|show .list_int _ _ p1 h|show .list_str _ _ p1 h
  .change RcAt _ _ _ _ O'/\EqAt _ _ _ _ O'/\RcNeAt _ _ _ _ J';apply#[?_,?_,?_]<;>show .list_tuple p1 w h
  .let(l1,l2,E):=P L M Q T Y' r2;change Qe _ _ _ _<|Dq g k;let rc:RcAt A s (.I a1) (.I a2) (Dq g k)/\RcNeAt A s (.I a1) (.I a2) (!Dq g k):=by
    by_cases R:g.a=k.a
    .let hs:m.E.y=F.E.y:=by rw[Ce,Ce,l1,l2,R]
     let k1:=RcAt.lists (e:=λj=>Bl (g.B j .κ)<|k.getD j .non) p1 w hs h E;let k2:=RcNeAt.lists (e:=λj=>Bl (g.B j .κ)<|k.B j .κ) p1 w hs h E;rw[Ce,l1,<- Tw R]at k1 k2;show⟨k1,k2⟩
    .rw[Tv R];let hne:(m.E.y != F.E.y)=J':=by rw[Ce,Ce];simp;lia
     show#[.lists_lengths p1 w hne h,.lists_lengths p1 w hne h]
   apply#[rc.1,?_,rc.2];by_cases ea:a1=a2
   .subst ea;cases S.list_inj q1 q2;rw[NY S n g k _ L Q T,NU n k M];show .η _
   .show .of_refs ea rc.1
end
def ZY:Y:=12
@[simp]def Co(x y:D):O D:=if AZ ZY x&&AZ ZY y then Z (.bl (Bl x y))else J
@[simp]def Cp(x y:D):O D:=if AZ ZY x&&AZ ZY y then Z (.bl (!Bl x y))else J
def Qf(K:Ao)(neg:j'):R2:=λx y H Q=>∃N a b,Ay K N H a x/\Ay K N H b y/\AZ ZY a=J'/\AZ ZY b=J'/\Q (.bl (if neg then !Bl a b else Bl a b)) H
variable {K:Ao}{M:Fb}{a b:Expr}{f g:Az}
def
Tz(j:X.A.ε+64<Ar):Cs X (DT .Eq) (Qf X.K O'):=by
 intro a s k H x y v u Q l b c zQ;let(N,d,e,f,g,h,i,q):=zQ;show(N0 l ZY X.A d e x y v u (by unfold ZY;lia) h i f g b c).1 X.δ X.w X.xe _ #[.bl _,H,l,rfl,q]
def
TB(j:X.A.ε+64<Ar):Cs X (DT .NotEq) (Qf X.K J'):=by
 intro a s k H x y v u Q l b c zQ;let(N,d,e,f,g,h,i,q):=zQ;show(N0 l ZY X.A d e x y v u (by unfold ZY;lia) h i f g b c).2.2 X.δ X.w X.xe _ #[.bl _,H,l,rfl,q]
def
N1:El K (Qf K O') Co:=by
 intro N H x y b c d Q h f g e q;let(a,e):=Z1 e;rw[Dv]at a;ext e;show#[N,b,c,f,g,a.1,a.2,q _ H (Aj.σ H) HM]
def
TC:El K (Qf K J') Cp:=by
 intro N H x y b c d Q h f g e q;let(a,e):=Z1 e;rw[Dv]at a;ext e;show#[N,b,c,f,g,a.1,a.2,q _ H (Aj.σ H) HM]
def FS(x:D)(ys:U D):j':=ys.any λy=>Bl y x
@[simp]def CF(neg:j')(x y:D):O D:=match y with
  |.lst a=>if AZ ZY x&&a.Ϛ (AZ ZY)then Z (.bl (if neg then !FS x a else FS x a))else J
  |.tup a=>if AZ ZY x&&a.Ϛ (AZ ZY)then Z (.bl (if neg then !FS x a else FS x a))else J
  |.str z=>match x with
   |.str w=>Z (.bl (if neg then !(!(Ny z w 0 z.a 1).Φ)else !(Ny z w 0 z.a 1).Φ))
   |_=>J
  |_=>J
def aV(K:Ao)(neg:j'):R2:=λx y H Q=>∃N a b c p,Ay K N H a x/\y=.I p/\(Ca K H p c\/Ck K H p c)/\Ad K N H b c/\AZ ZY a=J'/\b.Ϛ (AZ ZY)=J'/\Q (.bl (if neg then !FS a b else FS a b)) H
open Classical in
def GI(K:Ao)(N:Fb)(H:Hp)(x:D)(u:Aa):j':=decide (∃d w,Ay K N H d w/\RelV w u/\Bl d x=J')
def
TD{a:A1}{s:Ab}(j:Inv X a I H s){N:Fb}{x d:D}{w:V}(hd:Ay X.K N H d w)(r:RelV w u){n:Y}(c:AZ n d=J'):GI X.K N H x u=Bl d x:=by
 classical
 cases e:Bl d x with
 |true=>show @decide_eq_true _ (P7 _) #[d,w,hd,r,e]
 |false=>
  apply @decide_eq_false _ (P7 _) ?_
  intro zQ;let(f,h,b,g,i):=zQ
  have:=g.inj r
  subst this
  have:=aS j n d f _ c hd b
  simp_all
def
TF{a:A1}{I:St}{H:Hp}{s:Ab}(e:Inv X a I H s){N:Fb}{x:D}:∀{ys:U D}{vs:U V}{us:U Aa},Ad X.K N H ys vs->Ap vs us->ys.Ϛ (AZ ZY)=J'->us.any (GI X.K N H x)=FS x ys
 |[],_,_,h,r,_=>by erw[Ad]at h;subst h;ext r;rfl
 |y::ys,_,_,h,r,o=>by
  erw[NX,Dv]at o;let(v,t,rfl,hv,b):=h;cases r with
  |cons c d=>
   rw[List.any_cons,TD e hv.p c o.1,TF e b d o.2];rfl
def
TH{a:A1}{s:Ab}(w:Inv X a I H s){N:Fb}{A:Ag}{x:D}{c:V}{v:Aa}(k:A.ε+ZY<Ar)(l:AZ ZY x=J')(m:Ay X.K N H x c)(n:RelV c v){ys:U D}{us:U Aa}(h:Ad X.K N H ys vs)(r:Ap vs us)(d:ys.Ϛ (AZ ZY)=J'):∀u∈us,SeqAt.EqAt A s u v (GI X.K N H x u):=by
 intro u b;let(j,o):=List.getElem?_of_mem b;let q:=r.a;let hv:=BZ (show j<vs.a by grind);let(t,e,f):=r.Χ hv;rw[o]at e;ext e;let(y,g,i):=h.get' hv;rw[TD w i.p f<|Dr.mp d y<|Ej g];show(N0 w ZY A y x _ _ _ _ k (Dr.mp d y<|Ej g) l i.p m f n).2.1
def
TJ(b:j')(o:X.A.ε+64<Ar):Cs X (DT (bif b then .NotIn else .In)) (aV X.K b):=by
 intro j s t H x y v u Q C k n zQ;let(N,c,z,B,p,l,rfl,d,hd,m,h,q):=zQ;ext n;let e:X.A.in1.ε+ZY<Ar:=by rw[NZ];unfold ZY;lia
 rcases d with d|d
 .let(a,r,g,hz):=C.Ϥ d;let f:∀w∈a.E,_:=λw i=>TH C e m l k hd r h w (by exists i);ext b;all_goals
   first|apply SeqAt.in_listAt (GI X.K N H c) g.ό f ⟨.bl _,H,C,rfl,?_⟩|apply SeqAt.notIn_listAt (GI X.K N H c) g.ό f ⟨.bl _,H,C,rfl,?_⟩
   rw[show a.E.any (GI X.K N H c)=a.any (GI X.K N H c) by simp,TF C hd r h];show q
 .let(a,r,g,hz):=C.ϒ d;let f:∀w∈a.E,_:=λw i=>TH C e m l k hd r h w (by exists i);ext b;all_goals
   first|apply SeqAt.in_tupleAt (GI X.K N H c) g f ⟨.bl _,H,C,rfl,?_⟩|apply SeqAt.notIn_tupleAt (GI X.K N H c) g f ⟨.bl _,H,C,rfl,?_⟩
   rw[show a.E.any (GI X.K N H c)=a.any (GI X.K N H c) by simp,TF C hd r h];show q
def
TK(b:j'):El K (λx y H Q=>aV K b x y H Q\/∃i j,x=.Ι i/\y=.Ι j/\Q (.bl (if b then !(!(Ny j i 0 j.a 1).Φ)else !(Ny j i 0 j.a 1).Φ)) H) (CF b):=by
 intro N H x y n o d Q p f g e q;unfold CF at e;split at e
 .let(c,e):=Z1 e;rw[Dv]at c;ext e;let(a,h,k,l,m):=g;show .O #[N,n,_,h,a,f,k,.O l,m,c.1,c.2,q _ H (Aj.σ H) HM]
 .let(c,e):=Z1 e;rw[Dv]at c;ext e;let(a,h,k,l,m):=g.S;show .O #[N,n,_,h,a,f,k,.ρ l,m,c.1,c.2,q _ H (Aj.σ H) HM]
 .split at e
  .cases e;show .ρ #[_,_,f.Ι,g.Ι,q _ H (Aj.σ H) HM]
  .cases e
 .cases e
@[simp]def Gc(lt:D->D->O j'):U D->U D->O j'
  |[],[]=>Z O'
  |[],_::_=>Z J'
  |_::_,[]=>Z O'
  |x::a,y::b=>if AZ ZY x&&AZ ZY y then(if Bl x y then Gc lt a b else lt x y)else J
@[simp]def ltN:Y->D->D->O j'
  |_,.int i,.int j=>Z (decide (i<j))
  |_,.str a,.str b=>Z (decide (a.Ϩ.α<b.Ϩ.α))
  |n+1,.tup c,.tup d=>Gc (ltN n) c d
  |n+1,.lst c .l,.lst d .l=>Gc (ltN n) c d
  |_,_,_=>J
@[simp]def E2(x y:D):O D:=(ltN 6 x y).j D.bl
def aX(K:Ao):R2:=λx y H Q=>∃N a c b,Ay K N H a x/\Ay K N H c y/\ltN 6 a c=Z b/\Q (.bl b) H
abbrev aY(X:Cx)(N:Fb)(H:Hp)(s:Ab)(n:Y):V':=∀(A:Ag)(x y:D)(a c:V)(u v:Aa)(b:j'),A.ε+n+ZY<Ar->ltN n x y=Z b->Ay X.K N H x a->Ay X.K N H y c->RelV a u->RelV c v ->
  ∀(prog:AS) (d:Ai) (E Q:AR),Q (.Ϡ b) s->wpAny (Ah prog d) A (richCompare .Lt u v) Q E s
def
aZ{i:A1}{s:Ab}(S:Inv X i I H s){N:Fb}(n:Y)(M:aY X N H s n)(A:Ag)(Y':A.ε+n+1+ZY<Ar){b:j'}:∀(xs ys:U D)(a c:U V)(d f:U Aa),Gc (ltN n) xs ys=Z b->Ad X.K N H xs a->Ad X.K N H ys c->Ap a d->Ap c f->F7 A.in1 s d f b:=by
 intro xs;induction xs with
 |nil=>
  intro ys a c d f h j g v k;erw[Ad]at j;subst j;ext v;cases ys with
  |nil=>erw[Ad]at g;subst g;ext k;ext h;show .nn
  |cons y ys=>erw[Ad]at g;let(w,t,e,_,_):=g;subst e;ext k;ext h;show .nc
 |cons x xs z=>
  intro ys a c d f h j g v k;erw[Ad]at j;let(w1,t1,P,l,B):=j;subst P;cases v with
  |cons m C=>
   cases ys with|nil=>erw[Ad]at g;subst g;ext k;ext h;show .cn|cons y ys=>
    erw[Ad]at g;let(w2,t2,T,o,G):=g;subst T;cases k with
    |cons r F=>
     let(L,h):=Z1 h;rw[Dv]at L;let u:=(N0 S ZY A.in1 x y _ _ _ _ (by rw[NZ];lia) L.1 L.2 l.p o.p m r).2.1;split at h
     .next e=>rw[e]at u;show .eq u<|z ys _ _ _ _ h B G C F
     .next e=>
      rw[Bool.not_eq_true]at e;rw[e]at u;show .ne u λprog R E Q q=>M A.in1 x y _ _ _ _ b (by rw[NZ];lia) h l.p o.p m r prog R E Q q
open J in
def
TL{g:A1}{s:Ab}(R:Inv X g I H s){N:Fb}(n:Y):aY X N H s n:=by
 induction n with
 |zero=>
  intro A x y vx vy u v b hu h e f a c prog i E Q q;unfold ltN at h;split at h
  .cases h;rw[e.o]at a;rw[f.o]at c;let(t,rfl):=a;let(l,rfl):=c;show HT.rcLt_int A s _ _ _ _ prog i E Q q
  .cases h;rw[e.Ι]at a;rw[f.Ι]at c;let(t,rfl):=a;let(l,rfl):=c;show(PyProof.Rows.lt_str q:wpAny (Ah prog i) A (DT .Lt _ _) Q E s)
  .next o=>ext o
  .next o=>ext o
  .cases h
 |succ n ih=>
  intro A x y vx vy u v b hu h e f a c prog i E Q q;let d:=aZ (N:=N) R n ih A ∅ (b:=b);unfold ltN at h;split at h
  .cases h;rw[e.o]at a;rw[f.o]at c;let(t,rfl):=a;let(l,rfl):=c;show HT.rcLt_int A s _ _ _ _ prog i E Q q
  .cases h;rw[e.Ι]at a;rw[f.Ι]at c;let(t,rfl):=a;let(l,rfl):=c;show(PyProof.Rows.lt_str q:wpAny (Ah prog i) A (DT .Lt _ _) Q E s)
  .next m p r w=>
   ext w;let(a1,z,B,C,G):=e.S;let(a2,F,L,M,K):=f.S;subst B L;ext a;ext c;let(j,T,p1,_):=R.ϒ C;let(k,P,p2,_):=R.ϒ M;show qu p1 p2 (by exists d p r _ _ _ _ h G K T P) ∅ q
  .next m p r w=>
   ext w;let(a1,z,B,C,G):=e;let(a2,F,L,M,K):=f;subst B L;ext a;ext c;let(j,T,((cls,dd,data,sl),n1,Y',hc1,hdd1,hd1),_):=R.Ϥ C;let(k,P,((cls2,dd2,data2,sl2),n2,ho2,hc2,hdd2,hd2),_):=R.Ϥ M;subst hc1 hd1 hc2 hd2;show qv Y' ho2 (by exists d p r _ _ _ _ h G K T P) ∅ q
  .cases h
def
a0(j:X.A.ε+64<Ar):Cs X (DT .Lt) (aX X.K):=by
 intro a s k H x y v u Q l c d zQ;let(N,e,f,b,g,h,i,q):=zQ;show TL l 6 X.A e f x y v u b (by unfold ZY;lia) i g h c d X.δ X.w X.xe _ #[.bl b,H,l,rfl,q]
def
a6:El K (aX K) E2:=by
 intro N H x y a c d Q i f g e q;let(b,h,e):=B2.mp e;ext e;show#[N,a,c,b,f,g,h,q _ H (Aj.σ H) HM]
end
variable {K:Ao}{N:Fb}
def
Paired.one'{a b:Type}{F:a->b->V'}{x:a}{vs:U b}(h:Paired F [x] vs):∃v,vs=[v]/\F x v:=by
 cases h with
 |cons r t=>ext t;show#[_,rfl,r]
def
Paired.two'{a b:Type}{F:a->b->V'}{x y:a}{vs:U b}(h:Paired F [x,y] vs):∃v w,vs=[v,w]/\F x v/\F y w:=by
 cases h with
 |cons r t=>
  let(w,e,q):=Paired.one' t;grind
@[simp]def Zo:EX
  |[.lst a]=>Z (.o a.a)
  |[.tup a]=>Z (.o a.a)
  |[.str x]=>if x.a<=Av then Z (.o x.a)else J
  |_=>J
def
a7:GD K (λxs H Q=>∃x n,xs=[x]/\YE K x H n/\Q (.o n) H) Zo:=by
 intro N H g i d Q j h e q;unfold Zo at e;split at e
 .cases e;let(v,rfl,hv):=Paired.one' h;let(a,b,rfl,c,f):=hv;show#[.I a,_,rfl,.O #[b,c,rfl],f.a ▸ q _ H (Aj.σ H) Gb]
 .cases e;let(v,rfl,hv):=Paired.one' h;let(a,b,rfl,c,f):=hv.S;show#[.I a,_,rfl,.ρ #[b,c,rfl],f.a ▸ q _ H (Aj.σ H) Gb]
 .let(hz,e):=Z1 e;ext e;let(v,rfl,hv):=Paired.one' h;show#[v,_,rfl,hv.Ι ▸ #[hz,rfl],q _ H (Aj.σ H) Gb]
 .cases e
@[simp]def J2:U D->Bh
  |[.lst a]=>Z a
  |[.tup a]=>Z a
  |_=>J
def
sE:P2 K (λxs H Q=>∃p ys,xs=[.I p]/\(Ca K H p ys\/Ck K H p ys)/\∀l,H l=J->Q (.I l) (AL H l (.R ys))) J2:=by
 intro N H g i xs Q j h e q;unfold J2 at e;split at e
 .cases e;let(v,rfl,hv):=Paired.one' h;let(a,b,rfl,c,d):=hv;show#[a,b,rfl,.O c,λl f=>q b l f d]
 .cases e;let(v,rfl,hv):=Paired.one' h;let(a,b,rfl,c,d):=hv.S;show#[a,b,rfl,.ρ c,λl f=>q b l f d]
 .cases e
@[simp]def DC:EX
  |[.lst a]=>Z (.S a)
  |[.tup a]=>Z (.S a)
  |_=>J
def
sF:GD K (λxs H Q=>∃p ys,xs=[.I p]/\((Ca K H p ys/\∀l,H l=J->Q (.I l) (AL H l (.S ys)))\/(Ck K H p ys/\Q (.I p) H))) DC:=by
 intro N H i j d Q k h e q;unfold DC at e;split at e
 .cases e;let(v,rfl,hv):=Paired.one' h;let(a,b,rfl,c,f):=hv;show#[a,b,rfl,.O #[c,λl g=>q _ _ (ZO g)<|NT g f]]
 .cases e;let(v,rfl,hv):=Paired.one' h;let(a,b,rfl,c,f):=hv.S;show#[a,b,rfl,.ρ #[c,q _ _ (Aj.σ H) (by erw[Au];show#[a,b,rfl,c,f])]]
 .cases e
def J3:U D->O (U j')
 |[]=>Z []
 |.bl b::r=>(J3 r).j (b::·)
 |_=>J
def
sG{bs:U j'}(h:J3 xs=Z bs):xs=bs.j D.bl:=by
 induction xs generalizing bs with
 |nil=>ext h;rfl
 |cons x r a=>ext x<;>first|ext h;done|(erw[J3,B2]at h;let(_,e,rfl):=h;rw[a e];rfl)
def
a9:∀{bs:U j'}{vs:U V},Ad K N H (bs.j D.bl) vs->vs=bs.j V.bl
 |[],_,h=>by simpa only[Do,Ad]using h
 |b::bs,_,h=>by
  let(v,r,e,hv,t):=h;subst e hv;rw[a9 t];rfl
@[simp]def DD:EX
  |[.lst a]=>(J3 a).j λbs=>.bl (bs.Ϛ id)
  |_=>J
@[simp]def La:EX
  |[.lst a]=>(J3 a).j λbs=>.bl (bs.any id)
  |_=>J
open J in
def
ba{b:j'}:GD K (λxs H Q=>∃(a:Ac)(bs:U j'),xs=[.I a]/\Ca K H a (bs.j V.bl)/\Q (.bl (bif b then bs.Ϛ id else bs.any id)) H) (bif b then DD else La):=by
 intro N H i j d Q k h e q;ext b;all_goals
  first|change DD _=_ at e;unfold DD at e|change La _=_ at e;unfold La at e
  split at e
  .next xs=>
   let(bs,g,rfl):=B2.mp e;let(v,rfl,a,l,rfl,c,f):=Paired.one' h;rw[sG g]at f;rw[a9 f]at c;show#[a,bs,rfl,c,q _ H (Aj.σ H) HM]
  .cases e
@[simp]def Qg:EX
  |[.int i,.int j]=>Z (.o (if j>i then j else i))
  |_=>J
@[simp]def Qh:EX
  |[.int i,.int j]=>Z (.o (if j<i then j else i))
  |_=>J
def
sH:GD K (λxs H Q=>∃i j,xs=[.o i,.o j]/\Q (.o (if j>i then j else i)) H) Qg:=by
 intro N H b c d Q f h e q;unfold Qg at e;split at e
 .cases e;let(v,w,rfl,hv,a):=Paired.two' h;show#[_,_,by rw[hv.o,a.o],q _ H (Aj.σ H) Gb]
 .cases e
def
sI:GD K (λxs H Q=>∃i j,xs=[.o i,.o j]/\Q (.o (if j<i then j else i)) H) Qh:=by
 intro N H b c d Q f h e q;unfold Qh at e;split at e
 .cases e;let(v,w,rfl,hv,a):=Paired.two' h;show#[_,_,by rw[hv.o,a.o],q _ H (Aj.σ H) Gb]
 .cases e
@[simp]def intD:EX
  |[.int i]=>Z (.o i)
  |[.bl k]=>Z (.o (if k then 1 else 0))
  |_=>J
def
sJ:GD K (λxs H Q=>(∃i,xs=[.o i]/\Q (.o i) H)\/∃k,xs=[.bl k]/\Q (.o (if k then 1 else 0)) H) intD:=by
 intro N H a b d Q c h e q;unfold intD at e;split at e
 .cases e;let(v,rfl,hv):=Paired.one' h;show .O #[_,by rw[hv.o],q _ H (Aj.σ H) Gb]
 .cases e;let(v,rfl,hv):=Paired.one' h;show .ρ #[_,by rw[hv.bl],q _ H (Aj.σ H) Gb]
 .cases e
def HP:U D->O (U W')
 |[]=>Z []
 |.int b::r=>(HP r).j (b::·)
 |_=>J
def
bc{bs:U W'}(h:HP xs=Z bs):xs=bs.j D.o:=by
 induction xs generalizing bs with
 |nil=>ext h;rfl
 |cons x r a=>ext x<;>first|ext h;done|(erw[HP,B2]at h;let(_,e,rfl):=h;rw[a e];rfl)
def
TM:∀(ns:U W'),HP (ns.j D.o)=Z ns
 |[]=>rfl
 |n::ns=>by erw[AQ,HP,TM ns];rfl
def
TN:∀{bs:U W'}{vs:U V},Ad K N H (bs.j D.o) vs->vs=bs.j V.o
 |[],_,h=>by simpa only[Do,Ad]using h
 |b::bs,_,h=>by
  let(v,r,e,hv,t):=h;subst e hv;rw[TN t];rfl
end
section
def
sK(hc:X.Ϫ=J'):Fi X (.Γ "sum") (λxs H Q=>∃(a:Ac)(ns:U W'),xs=[.I a]/\Ca X.K H a (ns.j V.o)/\Q (.o ns.sum) H):=by
 intro d s n H xs o Q v r zQ;let(a,ns,rfl,g,q):=zQ;let(u,rfl,h):=Ft r;ext h;let(b,e,p,hz):=v.Ϥ g;let(c,f):=(PL e).allInts.items;apply sum_intListG (v.ok.hd hc) (f ▸ p.ό) λt i j k=>?_;let l:ns=c.α.j (·.1):=by
  rw[<- nums_intItems,<- f];show(show numsOf b.E.α=ns from(PL e).numsOf).Ζ
 let m:preSum (numAt c) c.y=ns.sum:=by
  rw[preSum_eq,N3 (by simp),l]
 rw[m];show#[.o ns.sum,H,v.ϭ (t':=i) k,#[_,rfl],q]
def
bd{b:j'}(hc:X.Ϫ=J'):Fi X (.Γ (bif b then "min" else "max")) (λxs H Q=>∃(a:Ac)(ns:U W'),xs=[.I a]/\Ca X.K H a (ns.j V.o)/\0<ns.a/\∀m,m∈ns->(∀a,a∈ns->bif b then m<=a else a<=m)->Q (.o m) H):=by
 intro h s C H xs E Q F r zQ;let(a,ns,rfl,o,w,q):=zQ;let(u,rfl,x):=Ft r;ext x;let(y,i,p,hz):=F.Ϥ o;let(d,e):=(PL i).allInts.items;let f:ns=d.α.j (·.1):=by rw[<- (PL i).numsOf,<- nums_intItems,<- e]
 let c:0<d.y:=by
  grind
 ext b;all_goals
  first|apply min_intList (F.ok.hd hc) (e ▸ p.isList) c λv z k hv l=>?_|apply max_intList (F.ok.hd hc) (e ▸ p.isList) c λv z k hv l=>?_
  let(t,rfl):=intItems_at hv;let A:=argBest_lt (numAt d)<|d.size-1;let B:=argBest_gt (numAt d)<|d.size-1;apply⟨.int _,H,F.kept (t':=k) l,⟨t,rfl⟩,q _ ?_ λb n=>?_⟩
  .rw[f,numAt_eq];show getD_mem (by rw[Bx,SN];lia)
  .rw[f]at n;let(j,g,rfl):=mem_getD n;rw[Bx,SN]at g;rw[<- numAt_eq];first|show A.2 j ((Qi c).Ϣ g)|show B.2 j ((Qi c).Ϣ g)
end
def Qj:U W'->O W'
 |[]=>J
 |x::a=>Z (a.Ω (λm y=>if y<m then y else m) x)
def Qk:U W'->O W'
 |[]=>J
 |x::a=>Z (a.Ω (λm y=>if y>m then y else m) x)
def
be:∀(xs:U W')(x:W'),(xs.Ω (λm y=>if y<m then y else m) x)∈x::xs/\∀a∈x::xs,(xs.Ω (λm y=>if y<m then y else m) x)<=a
 |[],x=>by simp
 |y::b,x=>by
  let(c,d):=be b<|if y<x then y else x;grind [Bb]
def
bf:∀(xs:U W')(x:W'),(xs.Ω (λm y=>if y>m then y else m) x)∈x::xs/\∀a∈x::xs,a<=(xs.Ω (λm y=>if y>m then y else m) x)
 |[],x=>by simp
 |y::b,x=>by
  let(c,d):=bf b<|if y>x then y else x;grind [Bb]
def
sL{ns:U W'}{m k:W'}(h:Qj ns=Z k)(b:m∈ns)(c:∀a,a∈ns->m<=a):m=k:=by
 cases ns with|nil=>cases h|cons x d=>
  ext h;let(e,f):=be d x;have:=c _ e;have:=f _ b;lia
def
sM{ns:U W'}{m k:W'}(h:Qk ns=Z k)(b:m∈ns)(c:∀a,a∈ns->a<=m):m=k:=by
 cases ns with|nil=>cases h|cons x d=>
  ext h;grind [bf]
variable {K:Ao}
@[simp]def N4:EX
  |[.lst a]=>(HP a).j λns=>.o ns.sum
  |_=>J
@[simp]def Mp:EX
  |[.lst a]=>((HP a).J Qj).j D.o
  |_=>J
@[simp]def Mq:EX
  |[.lst a]=>((HP a).J Qk).j D.o
  |_=>J
open J in
def
sN:GD K (λxs H Q=>∃(a:Ac)(ns:U W'),xs=[.I a]/\Ca K H a (ns.j V.o)/\Q (.o ns.sum) H) N4:=by
 intro N H g i d Q j h e q;unfold N4 at e;split at e
 .next xs=>
  let(bs,f,rfl):=B2.mp e;let(v,rfl,a,k,rfl,b,c):=Paired.one' h;rw[bc f]at c;rw[TN c]at b;show#[a,bs,rfl,b,q _ H (Aj.σ H) Gb]
 .cases e
open J in
def
bg{b:j'}:GD K (λxs H Q=>∃(a:Ac)(ns:U W'),xs=[.I a]/\Ca K H a (ns.j V.o)/\0<ns.a/\∀m,m∈ns->(∀a,a∈ns->bif b then m<=a else a<=m)->Q (.o m) H) (bif b then Mp else Mq):=by
 intro N H o p d Q r h e q;ext b;all_goals
  first|change Mp _=_ at e;unfold Mp at e|change Mq _=_ at e;unfold Mq at e
  split at e
  .next xs=>
   let(k,l,rfl):=B2.mp e;let(bs,n,c):=Cm.mp l;let(v,rfl,a,s,rfl,f,g):=Paired.one' h;rw[bc n]at g;rw[TN g]at f;apply#[a,bs,rfl,f,?_,λm i j=>?_]
   .cases bs with
    |nil=>cases c
    |cons=>simp
   .first|rw[sL c i j]|rw[sM c i j]
    show q _ H (Aj.σ H) Gb
  .cases e
@[simp]def Mr:D->O String
  |.non=>Z "NoneType"
  |.bl _=>Z "bool"
  |.int _=>Z "int"
  |.str _=>Z "str"
  |.tup _=>Z "tuple"
  |.lst _=>Z "list"
  |.lst _ .d=>J
  |.lst _ (.i _ _)=>J
  |.ty _=>J
def Ms(t n:String):j':=t==n||(t=="bool"&&n=="int")
end
def HQ:U String:=["NoneType","bool","int","str","tuple","list"]
def
bh(K:Ao):∀t∈HQ,∀n∈HQ,PySem.W.kitOne K (.ι t) (.ι n)=Z (Ms t n):=by
 intro t a n b;erw[HQ,Bw,Lb,or_false]at a b;rcases a with rfl|rfl|rfl|rfl|rfl|rfl<;>rcases b with rfl|rfl|rfl|rfl|rfl|rfl<;>with_unfolding_all rfl
def
bi(K:Ao){t:String}(a:t∈HQ):∀(ns:U String),(∀n∈ns,n∈HQ)->PySem.W.kitAny K (.ι t) (ns.j Value.ι)=Z (ns.any λn=>Ms t n)
 |[],_=>rfl
 |n::ns,h=>by
  erw[AQ,PySem.W.kitAny,bh K t a n<|h n Bb,bi K a ns λm b=>h m<|Bk _ b,List.any_cons];cases Ms t n<;>rfl
def
bj{d:D}{t:String}(h:Mr d=Z t):t∈HQ:=by
 cases d with
 |lst b a=>ext a<;>simp[Mr]at h;subst h;simp[HQ]
 |_=>simp[Mr]at h<;>subst h<;>simp[HQ]
variable {K:Ao}
def
sO{h:A1}{s:Ab}(A:Inv X h I H s){N:Fb}{d:D}{x:V}{t:String}(g:Ay X.K N H d x)(c:RelV x u)(f:Mr d=Z t):∃p:Al->V',PySem.W.KitX X.K u (.ι t) p/\p s.u/\u≠.Γ "__main__.__loader__#opaque":=by
 cases d with
 |non=>ext f;rw[g.κ]at c;ext c;show#[_,PySem.W.kitx_none,trivial,λz=>nomatch z]
 |bl b=>ext f;rw[g.bl]at c;ext c;show#[_,PySem.W.kitx_bool,trivial,λz=>nomatch z]
 |int b=>ext f;rw[g.o]at c;let(t,rfl):=c;show#[_,PySem.W.kitx_int,trivial,λz=>nomatch z]
 |str b=>ext f;rw[g.Ι]at c;let(t,rfl):=c;show#[_,PySem.W.kitx_str,trivial,λz=>nomatch z]
 |ty n=>cases f
 |tup v=>
  ext f;let(a,w,e,q,r):=g.S;subst e;ext c;let(j,_,(o,k,m,_),_):=A.ϒ q;show#[_,PySem.W.kitx_tuple,#[o,k,m],λz=>nomatch z]
 |lst v y=>
  cases y with
  |d=>cases f
  |i _ _=>cases f
  |l=>
  ext f;let(a,w,e,q,r):=g;subst e;ext c;let(j,_,(o,n,k,m,_),_):=A.Ϥ q;show#[_,PySem.W.kitx_list,#[o,k,m],λz=>nomatch z]
@[simp]def DE:D->O (U String)
  |.ty n=>Z [n]
  |.tup a=>tysL a
  |_=>J
where tysL:U D->O (U String)
 |[]=>Z []
 |.ty n::r=>(tysL r).j (n::·)
 |_=>J
def
sP{ns:U String}(h:DE.tysL xs=Z ns):xs=ns.j D.ty:=by
 induction xs generalizing ns with
 |nil=>ext h;rfl
 |cons x r a=>ext x<;>first|ext h;done|(erw[DE.tysL,B2]at h;let(_,e,rfl):=h;rw[a e];rfl)
@[simp]def Cy:EX
  |[x,c]=>(DE c).J λns=>if(∀n∈ns,n∈HQ)then(Mr x).j λt=>.bl (ns.any λn=>Ms t n)else J
  |_=>J
def bn(K:Ao):U V->Hp->VK->V':=λa H Q=>∃N d c x y ns t,a=[x,y]/\Ay K N H d x/\Ay K N H c y/\DE c=Z ns/\(∀n∈ns,n∈HQ)/\Mr d=Z t/\Q (.bl (ns.any λn=>Ms t n)) H
def
bo{N:Fb}{H:Hp}:∀{ns:U String}{vs:U V},Ad K N H (ns.j D.ty) vs->vs=ns.j V.ty
 |[],_,h=>by simpa only[Do,Ad]using h
 |b::bs,_,h=>by
  let(v,r,e,hv,t):=h;subst e hv;rw[bo t];rfl
def
bp:∀{ns:U String}{us:U Aa},Ap (ns.j V.ty) us->us=ns.j Value.ι
 |[],_,r=>by ext r;rfl
 |n::ns,_,r=>by
  cases r with
  |cons a b=>ext a;rw[bp b];rfl
def
bq:Fi X (.Γ "isinstance") (bn X.K):=by
 intro k s L H m M Q zA r zQ;let(N,d,c,x,y,ns,t,rfl,o,l,b,f,h,q):=zQ;let(u,P,rfl,v,i):=Pz r;let(T,S,p,g):=sO zA o v h;cases c with
 |ty n=>
  ext b;rw[l.ty]at i;ext i;show PySem.W.kia_one S zA.kIn p (bh X.K t (bj h) n<|f n (by simp)) g λj=>#[.bl _,H,zA.tok j,rfl,by exists q]
 |tup m=>
  let e:=sP b;subst e;let(a,R,e,w,dl):=l.S;subst e;ext i;let(z,A,((cls,Y',data,sl),B,C,n,E),_):=zA.ϒ w;subst C E;let G:=bo dl;subst G;let F:=bp A;subst F;show PySem.W.kia_tup S zA.kIn p B (bi X.K (bj h) ns f) g λj=>#[.bl _,H,zA.tok j,rfl,q]
 |non=>cases b
 |bl _=>cases b
 |int _=>cases b
 |str _=>cases b
 |lst _=>ext b
open J in
def
br:GD K (bn K) Cy:=by
 intro N H g i d Q j h e q;unfold Cy at e;split at e
 .next x c=>
  cases hc:DE c with|none=>rw[hc]at e;cases e|some ns=>
   rw[hc]at e;let(a,e):=Z1 e;let(t,b,e):=B2.mp e;ext e;let(v,w,rfl,hv,f):=Paired.two' h;show#[N,x,c,v,w,ns,t,rfl,hv,f,hc,a,b,q _ H (Aj.σ H) HM]
 .cases e
def
TQ{M:Fb}{x:Ae}{n:String}(a:Gl X x)(b:X.mg x=J)(hv:Fs x=Z (.ι n))(c:x≠"__name__":=by ext)(hd:Ew x:=by ext):JE X (.β x pos) (tD K M H0 λ_=>Z (.ty n)):=#[Me (nz a b hv (v:=.ty n) rfl c hd) λ_ _=>by erw[Au]]
def
sQ{M:Fb}{x:Ae}{v:V}{d:D}(b:Gl X x)(h:∃u,X.mg x=Z u/\RelV v u)(hd:∀N H,Au K N H d v)(a:Ew x:=by ext):JE X (.β x pos) (tD K M H0 λ_=>Z d):=#[by
 let(u,c,r):=h;show Me (Ye b c r a) hd]
end
variable {K:Ao}{M:Fb}{a b c e:Expr}{f g h:Az}
def
vv(i:Y){x:Ae}(a:NV X i x:=by show EW):PE X (.β x pos) (tD K M H0 λρ=>Bd ρ i):=qA a
def
sR(i:Y){x:Ae}(a:NV X i x:=by show EW):JE X (.β x pos) (tD K M H0 λρ=>Bd ρ i):=#[vv i a]
def
vp(i:Y){x:Ae}(a:NV X i x:=by show EW):PE X (.β x pos) (tP K M H0 λρ=>Bi ρ i):=qB a
def
sS(i:Y){x:Ae}(a:NV X i x:=by show EW):JE X (.β x pos) (tP K M H0 λρ=>Bi ρ i):=#[vp i a]
def
sT(i:Y){x:Ae}(a:NV X i x:=by show EW):JE X (.β x pos) (tQ K M H0 λρ=>BK ρ i):=#[rF a]
def
va(i:Y){x:Ae}(a:NV X i x:=by show EW):PE X (.β x pos) (GB K M H0 λρ=>Df ρ i):=qY a
def
TR(i:Y){x:Ae}(a:NV X i x:=by show EW):JE X (.β x pos) (GB K M H0 λρ=>Df ρ i):=#[va i a]
def
sU(i:Y){x:Ae}{a:AC}(b:NV X i x:=by show EW):JS X (.Return (Z (.β x a)) pos) (tS K M H0 λρ=>ZZ (D3 ρ i)):=#[aH rfl (λ_=>rfl) NK b]
def
sV(e:X.A.ε+64<Ar)(c:JE X a (tP X.K M H0 f))(d:JE X b (tP X.K M H0 g)):JE X (.Κ a [.Eq] [b] pos) (tD X.K M H0 (Za Co f g)):=#[have c:=c.h;let d:=d.h;NG (Tz e) N1 c d<|G9 _ (by ext) (by ext)]
def
sW(e:X.A.ε+64<Ar)(c:JE X a (tP X.K M H0 f))(d:JE X b (tP X.K M H0 g)):JE X (.Κ a [.Gt] [b] pos) (tD X.K M H0 (Za Fa f g)):=#[have c:=c.h;let d:=d.h;NG Yx (Mm _) c d<|G9 _ (by ext) (by ext)]
def
sX(e:X.A.ε+64<Ar)(c:JE X a (tP X.K M H0 f))(d:JE X b (tP X.K M H0 g))(i:Gw .In b=O':=by with_unfolding_all rfl):JE X (.Κ a [.In] [b] pos) (tD X.K M H0 (Za (CF O') f g)):=#[have c:=c.h;let d:=d.h;NG ((TJ O' e).or Yy) (TK O') c d i]
def
sY(e:X.A.ε+64<Ar)(c:JE X a (tP X.K M H0 f))(d:JE X b (tP X.K M H0 g)):JT X (.Κ a [.Eq] [b] pos) (B9 X.K M H0 λρ=>AI (Za Co f g ρ)):=#[have c:=c.h;let d:=d.h;Jb (Tz e) N1 c d<|G9 _ (by ext) (by ext)]
def
sZ(e:X.A.ε+64<Ar)(c:JE X a (tP X.K M H0 f))(d:JE X b (tP X.K M H0 g)):JT X (.Κ a [.NotEq] [b] pos) (B9 X.K M H0 λρ=>AI (Za Cp f g ρ)):=#[have c:=c.h;let d:=d.h;Jb (TB e) TC c d<|G9 _ (by ext) (by ext)]
def
td(e:X.A.ε+64<Ar)(c:JE X a (tP X.K M H0 f))(d:JE X b (tP X.K M H0 g)):JT X (.Κ a [.Lt] [b] pos) (B9 X.K M H0 λρ=>AI (Za E2 f g ρ)):=#[have c:=c.h;let d:=d.h;Jb (a0 e) a6 c d<|G9 _ (by ext) (by ext)]
def
tf(e:X.A.ε+64<Ar)(c:JE X a (tP X.K M H0 f))(d:JE X b (tP X.K M H0 g)):JT X (.Κ a [.Gt] [b] pos) (B9 X.K M H0 λρ=>AI (Za Fa f g ρ)):=#[have c:=c.h;let d:=d.h;Jb Yx (Mm _) c d<|G9 _ (by ext) (by ext)]
def
ti(e:X.A.ε+64<Ar)(c:JE X a (tP X.K M H0 f))(d:JE X b (tP X.K M H0 g)):JT X (.Κ a [.GtE] [b] pos) (B9 X.K M H0 λρ=>AI (Za NS f g ρ)):=#[have c:=c.h;let d:=d.h;Jb oP (Mm _) c d<|G9 _ (by ext) (by ext)]
def
tm(e:X.A.ε+64<Ar)(c:JE X a (tP X.K M H0 f))(d:JE X b (tP X.K M H0 g))(i:Gw .NotIn b=O':=by with_unfolding_all rfl):JT X (.Κ a [.NotIn] [b] pos) (B9 X.K M H0 λρ=>AI (Za (CF J') f g ρ)):=#[have c:=c.h;let d:=d.h;Jb ((TJ J' e).or oQ) (TK J') c d i]
@[simp]def Lc(F b:D->D->O D)(f g h:Az):Az:=λa=>(f a).J λx=>(g a).J λy=>match F x y with
  |some (.bl J')=>(h a).J λz=>b y z
  |some (.bl O')=>Z (.bl O')
  |_=>J
def
tq{r s:R2}{F t:D->D->O D}(A:El K r F)(k:El K s t)(q:tD K M H0 (Lc F t f g h) I H Q):YB r s (tP K M H0 f) (tP K M H0 g) (tP K M H0 h) I H Q:=by
 let(b,d,R,e,q):=q;unfold Lc at e;cases i:f b with|none=>rw[i]at e;cases e|some x=>
  cases l:g b with|none=>rw[i,l]at e;cases e|some y=>
   rw[i,l]at e;erw[DB]at e;apply#[b,x,R,i,λv Y' j B=>#[b,y,R.st j,l,λu C c m=>?_]];let R2:=(R.st j).st c;split at e
   .next n=>
    let(z,G,e):=Cm.mp e;show A _ C v u x y _ _ R2.nh (B.η c) m n λw E a o=>#[J',by simpa only[Au]using o,K4 #[b,z,R2.st a,G,λX P p L=>k _ P u X y z d Q (((R2.st a).st p)).nh ((m.same a).same p) L e λN S T W=>q N S ((((j.trans c).trans a).trans p).trans T) W]]
   .next n=>
    ext e;show A _ C v u x y _ _ R2.nh (B.η c) m n λw E a o=>#[O',by simpa only[Au]using o,K5<|q _ E ((j.trans c).trans a) HM]
   .cases e
def
bt{op d:CmpOp}{r l:R2}{F m:D->D->O D}(n:Cs X (DT op) r)(e:Cs X (DT d) l)(o:El K r F)(i:El K l m)(j:JE X a (tP K M H0 f))(k:JE X b (tP K M H0 g))(hc:JE X c (tP K M H0 h))(p:lastMarks [op,d] [b,c]=O':=by with_unfolding_all rfl):JE X (.Κ a [op,d] [b,c] pos) (tD K M H0 (Lc F m f g h)):=#[have j:=j.h;let k:=k.h;let hc:=hc.h;(oS n e j k hc p).ζ λ_ _ _ q=>tq o i q]
@[simp]def ZK:O D->O j'
  |some .non=>Z O'
  |some (.bl b)=>Z b
  |some (.int i)=>Z (i != 0)
  |some (.str y)=>if y.a<=Av then Z ((y.a:W') != 0)else J
  |some (.lst a)=>Z (!a.isEmpty)
  |some (.tup a)=>Z (!a.isEmpty)
  |_=>J
def
Ad.isEmpty{N:Fb}(h:Ad K N H xs vs):vs.Φ=xs.Φ:=by
 cases xs with
 |nil=>erw[Ad]at h;subst h;rfl
 |cons x xs=>erw[Ad]at h;let(_,_,e,_):=h;subst e;rfl
def
tw(g:JE X a (tP X.K M H0 f))(m:∀b,isTrue a X.C b=(do let v <- b;standAt a.pos;D1 [v] (truthy v)):=by intro _;rfl):JT X a (B9 X.K M H0 λρ=>ZK (f ρ)):=#[have g:=g.h;(oV g m).ζ λo H Q n=>by
  let(ρ,k,R,e,q):=n;try dsimp only at e q
  unfold ZK at e;split at e
  .next c=>ext e;show#[ρ,_,R,c,λv d s hv=>#[_,by rw[hv.κ];rfl,q d s]]
  .next c=>ext e;show#[ρ,_,R,c,λv d s hv=>#[_,by rw[hv.bl];rfl,q d s]]
  .next c=>ext e;show#[ρ,_,R,c,λv d s hv=>#[_,by rw[hv.o];rfl,q d s]]
  .next c=>
   let(hz,e):=Z1 e;ext e;show#[ρ,_,R,c,λv d s hv=>#[_,hv.Ι ▸ #[hz,rfl],q d s]]
  .next c=>
   ext e;apply#[ρ,_,R,c,λv d s hv=>#[_,?_,q d s]];let(p,i,rfl,j,l):=hv;show .O #[i,j,by rw[l.Φ]]
  .next c=>
   ext e;apply#[ρ,_,R,c,λv d s hv=>#[_,?_,q d s]];let(p,i,rfl,j,l):=hv.S;show .ρ #[i,j,by rw[l.Φ]]
  .cases e]
@[simp]def Zn:D->Bh
  |.lst a=>Z a
  |.tup a=>Z a
  |.str x=>Z (x.Ϩ.α.j λc=>D.Ι #[(T' [c])])
  |_=>J
def
tx{l:Expr}(b:JE X l (tQ X.K M H0 f)):JI X tg l (tI X.K M H0 λρ=>(f ρ).J Zn):=#[have b:=b.h;λa s c H g p m=>by
 let(ρ,j,R,e,q):=m;let(d,k,e):=Cm.mp e;cases d with
 |lst n o=>
  cases o with
  |d=>cases e
  |i _ _=>cases e
  |l=>show rJ b a s c H g p #[ρ,j,R,by dsimp only;rw[k];show e,q]
 |tup n=>show rK b a s c H g p #[ρ,j,R,by dsimp only;rw[k];show e,q]
 |str x=>show rL b a s c H g p #[ρ,j,R,by dsimp only;rw[k];show e,q]
 |_=>cases e]
@[simp]def Mt(i:Y)(o:Bh)(ρ:VE):Dp:=match D3 ρ i,o with
  |some a,Z b=>if a.a+b.a<=Av then .Q (ρ.ξ i (.φ (a++b)))else .Ρ
  |_,_=>.Ρ
def
tz{fl:VE->Bh}{i:Y}{x:Ae}{c:AC}(g:JE X e (tF K M H0 fl))(y:NV X i x:=by show EW)(z:Ey (.Ν (.γ (.β x c) "extend" apos) [e] [] cpos) J pos.ϡ X.C=Ax O':=by rfl)(hz:BA X x c "extend" apos e cpos:=by show az):JS X (.Expr (.Ν (.γ (.β x c) "extend" apos) [e] [] cpos) pos) (tS K M H0 λρ=>Mt i (fl ρ) ρ):=#[have g:=g.h;(Pn (HG Mi PySem.F.slot_list_extend PySem.F.type_list_extend p8 (GA y) (Z5 g Bn hz.s) hz.b hz.f hz.l hz.s hz.p) z).ζ λG Q H A=>by
  let(ρ,R,q):=A;cases d:D3 ρ i with|none=>erw[d,Mt]at q;show B6 q|some B=>
   cases j:fl ρ with|none=>erw[d,j,Mt]at q;show B6 q|some k=>
    erw[d,j,Mt]at q;split at q
    .next hz=>
     let(a,m,t,P,L,u,v):=R.ϓ i _<|NK d;apply⟨.ref a,(AD t),.inl ⟨rfl,m,.inl<|.inl u⟩,ρ,k,R,j,λp n N s C o w=>?_⟩;let(R2,E):=(R.st s).chg (ys:=B++k) (ws:=m++n) (NK d) (AD t) ((v.η s).Β<|w.nw λb r=>.O<|.inl r);show⟨a,p,m,n,rfl,rfl,s _ _ u,o,by rw[<- v.length,<- (w.nw λb r=>.O<|.O r).a];show hz,q _ _ R2<|(Step.ϋ s).G E⟩
    .show B6 q]
end
end Internal
variable{xs:U Internal.D}{ρ:Internal.VE}{fl k':Internal.Kd}{fa:Internal.DU}{fx:Internal.VE->O (Internal.D×Internal.VE)}{fo:Internal.VE->O Internal.Sl}{lo:Internal.VE->O (O W')}{ss:U Internal.Sl}{ff:Internal.VE->O (U Internal.D)}
namespace Internal
def
bu{e:PySem.Expr}{t:TT}(h:JW X e t):JT X e t:=#[h.h.pt]
open PyProof.Rows PySem PySem.Spec
variable {K:Ao}
def Ql(i:Y)(b c:O D)(ρ:VE):Dp:=match D3 ρ i,b,c with
 |some a,Z (.int k),Z d=>match Ek a.a k with
  |some j=>.Q (ρ.ξ i (.φ (a.ξ j d)))
  |none=>.Ρ
 |_,_,_=>.Ρ
open J in
def
tE{M:Fb}{i:Y}{x:Ae}{b c:AC}{g e:Expr}{fi f:Az}(n:JE X g (tP K M H0 fi))(o:JE X e (tD K M H0 f))(C:NV X i x:=by show EW) (E:∀v,BC (.μ (.β x b) g c) X.C v=(do
   let m <- D1 [v] (Aq (.β x b) X.C);let p <- D1 [v,m] (Aq g X.C);standAt c
   D1 [v,m,p] (setItem m p v)
   release [v,m,p] []):=by intro _;rfl) (G:Np [.μ (.β x b) g c] e pos.ϡ X.C=Ax O':=by rfl) (r:Nq [.μ (.β x b) g c] e X.C=Ax J:=by rfl) (W:(Ef [.μ (.β x b) g c] X.C).j (·.2)=[BC (.μ (.β x b) g c) X.C]:=by rfl):JS X (.ϩ [.μ (.β x b) g c] e pos) (tS K M H0 λρ=>Ql i (fi ρ) (f ρ) ρ):=#[have n:=n.h;let o:=o.h;(No o (Pt (GA C) n Y3 E) G r W).ζ λY' I H F=>by
 let(ρ,R,q):=F;try dsimp only at q
 unfold Ql at q;split at q
 .next L k d u s N=>
  split at q
  .next j P=>
   apply#[ρ,d,R,N,λv H1 y hv=>?_];let t:=R.st y;let(a,z,A,z1,z2,Q,B):=t.ϓ i _<|NK u;apply⟨.ref a,(AD A),ρ,.int k,t,s,λw H2 l r=>?_⟩;let(T,S):=(t.st l).chg (ys:=L.ξ j d) (ws:=z.ξ j v) (NK u) (AD A) (Ad.ξ j (B.η l)<|hv.η l);show⟨a,z,k,j,rfl,r.o,l _ _ Q,B.a ▸ P,q _ _ T<|(Step.ϋ<|y.G l).G S⟩
  .show B6 q
 .show B6 q]
def bv(K:Ao)(r:V->U V->Hp->VK->V')(F:Ae->EX):V':=∀(N:Fb)(H:Hp)(z:Ae)(c:U V)(e:U D)(d:D)(Q:VK),(∀a,N a->H a≠J)->Paired (Ay K N H) e c->F z e=Z d ->
 (∀v b,Aj H b->Au K N b d v->Q v b)->r (.Ι z) c H Q
@[simp]def Qm(F:Ae->EX)(f:Az)(b:DU):Az:=λa=>match f a with
  |some (.str z)=>((b a).J HK).J (F z)
  |_=>J
variable {M:Fb}{e:Expr}{f:Az}{name:Ae}{id:String}{r:V->U V->Hp->VK->V'}{F:Ae->EX}
open J in
def
tH(s:PlainAttrs "str")(slot:Slot "str" name id)(i:typeOf (.Γ id)=Ax (.ι "method_descriptor"))(t:KV X id r)(u:bv X.K r F)(j:JE X o (tP X.K M H0 f))(k:JA X (e::es) (De X.K M H0 fa))(b:FQ o name X.C (Aq o X.C)=Aq o X.C:=by rfl) (g:((AA cpos (AH (e::es) X.C)).Ϛ (λx=>!x.1)&&(Gy cpos (Gz [] X.C)).Ϛ (λx=>x.1.υ) && decide ((e::es).a+([]:U EA).a+(if([]:U EA).Φ then 0 else 1)<30))=J':=by rfl) (c:(apos.ϯ==cpos.ϡ)=J':=by rfl) (y:AH (e::es) X.C=(O',Aq e X.C)::AH es X.C:=by show D2 rfl) (a:(AA cpos (AH es X.C)).any (·.1)=O':=by rfl):JE X (.Ν (.γ o name apos) (e::es) [] cpos) (tD X.K M H0 (Qm F f fa)):=#[have j:=j.h;let k:=k.h;(HG s slot i t j k b g c y a).ζ λS H Q A=>by
 let(l,d,R,ex,q):=A;unfold Qm at ex;split at ex
 .next z hz=>
  cases m:fa l with|none=>rw[m]at ex;cases ex|some B=>
   rw[m]at ex;let(C,hp,ex):=Cm.mp ex;apply#[l,.Ι z,R,hz,λv T n hv=>?_];rw[hv.Ι];show#[rfl,l,B,R.st n,m,λE G p W=>u _ G z E C d Q ((R.st n).st p).nh (P4 W hp) ex λw P L N=>q w P ((n.G p).G L) N]
 .cases ex]
end
def J4:U D->O (U Ae)
 |[]=>Z []
 |.str b::r=>(J4 r).j (b::·)
 |_=>J
def
tL{bs:U Ae}(h:J4 xs=Z bs):xs=bs.j D.Ι:=by
 induction xs generalizing bs with
 |nil=>ext h;rfl
 |cons x r a=>ext x<;>first|ext h;done|(erw[J4,B2]at h;let(_,e,rfl):=h;rw[a e];rfl)
def

bw:∀(ns:U Ae),J4 (ns.j D.Ι)=Z ns
  |[]=>rfl
  |n::ns=>by erw[AQ,J4,bw ns];rfl
def
bx{N:Fb}{H:Hp}:∀{bs:U Ae}{vs:U V},Ad K N H (bs.j D.Ι) vs->vs=bs.j V.Ι
 |[],_,h=>by simpa only[Do,Ad]using h
 |b::bs,_,h=>by
  let(v,r,e,hv,t):=h;subst e hv;rw[bx t];rfl
@[simp]def Qn(z:Ae):EX
  |[.lst b]=>(J4 b).J λa=>if(a.j (·.a)).sum+a.a*z.a<=16777216 then Z (.Ι (Txt.join z a))else J
  |_=>J
open J in
def
tM:bv K (ah K) Qn:=by
 intro N H z j k d Q l h e q;unfold Qn at e;split at e
 .next g=>
  cases b:J4 g with|none=>rw[b]at e;cases e|some i=>
   rw[b]at e;let(hz,e):=Z1 e;ext e;let(v,rfl,a,m,rfl,c,f):=Paired.one' h;rw[tL b]at f;rw[bx f]at c;show#[z,a,i,rfl,rfl,c,hz,q _ H (Aj.σ H) Qa]
 .cases e
open J in
end
variable {s:Ab}{h':Al}
def
Inv.turnedL{d:U Ac}(y:Inv X pins I H s)(f:∀b∈d,Gx X pins H b)(k:∀b o,b∉d->s.u.U b=Z o->h'.U b=Z o):Inv X pins I H {s with heap:=h' }:=by
 let a:∀b u,H b=Z u->b∉d:=λb u e z=>by rw[(f b z).1]at e;ext e
 apply y.Μ (g':=s.gens) (d':=s.drawn) (t':=s.Ε) (ch:=d) (λb g=>?_) (λb o _ _ hc e _=>k b o hc e) (λb o _ _ hc e _=>#[o.slots,k b o hc e]) (λ_ _ _ _ n=>n)
  (λb o hc e=>#[o,k b o hc e]) (λ_ _ e=>e) (λ_ _ _ e=>e) (λb E e=>#[(T' []),by rw[e];simp]) (λm h=>?_) (λb u e=>?_) y.bare
 .let(_,i,_,j,l,p):=f b g;show#[j,i,l,p]
 .let(o,t,w,x,r):=h;show#[o,t,w,k _ o (λz=>(f _ z).2.1 rfl) x,r]
 .refine(y.ϥ b u e).stay (λc v hc q=>k c v ?_ q) (λ_ q=>q) λ_ _ q=>q;rcases hc with z|z
  .rw[z];show a b u e
  .show a c _ z
def
Inv.yielded{f:U Ac}{p:Ac}(E:Inv X pins I H s)(h:∀b∈f,Gx X pins H b)(k:∀b o,b∉f->s.u.U b=Z o->h'.U b=Z o)(hp:s.u.L.y<=p) (new:Bo X.δ X.w (AL H p (.S vs)) h' p (.S vs)):Inv X pins I (AL H p (.S vs)) {s with heap:=h' }:=by
 let a:∀b u,H b=Z u->b∉f:=λb u e z=>by rw[(h b z).1]at e;ext e
 let d:H p=J:=E.ϥ.Ξ hp;apply E.Μ (g':=s.gens) (d':=s.drawn) (t':=s.Ε) (ch:=f) (λb g=>?_) (λb o _ _ hc e _=>k b o hc e) (λb o _ _ hc e _=>#[o.slots,k b o hc e]) (λb o _ e n=>?_)
  (λb o hc e=>#[o,k b o hc e]) (λb i e=>?_) (λb o u e=>?_) (λb M e=>#[(T' []),?_]) (λm j=>?_) (λb u e=>?_) E.bare
 .let(_,l,_,t,x,y):=h b g;show#[t,l,x,y]
 .rw[Zp<|Cq<|BM (BX e) hp];show n
 .rw[Zp<|Z9 e d];show e
 .rw[Zp<|Z9 e d];show e
 .rw[Zp<|Z9 e d,e];simp
 .let(o,A,B,C,r):=j;show#[o,A,B,k _ o (λz=>(h _ z).2.1 rfl) C,r]
 .by_cases g:b=p
  .subst g;rw[ZQ]at e;ext e;show new
  .rw[Zp g]at e;refine(E.ϥ b u e).stay (λc v hc q=>k c v ?_ q) (λc q=>Zp (Z9 q d) ▸ q) λc i q=>Zp (Z9 q d) ▸ q;rcases hc with z|z
   .rw[z];show a b u e
   .show a c _ z
end
def
tN:Fs "enumerate"=Z (.ι "enumerate"):=by symm
def D4:Y->U D->U D
 |_,[]=>[]
 |k,d::a=>.S [.o k,d]::D4 (k+1) a
def
TU:∀(xs:U D)(k:Y),(D4 k xs).a=xs.a
 |[],_=>rfl
 |_::xs,k=>by simp[D4,TU xs]
def
bz:∀(xs:U D)(k i:Y),(D4 k xs)[i]?=(xs[i]?).j λd=>D.S [.o ((k+i:Y):W'),d]
 |[],_,_=>by simp[D4]
 |x::xs,k,0=>by simp[D4]
 |x::xs,k,i+1=>by
  erw[D4,Gd,bz xs];rw[show k+1+i=k+(i+1) by lia]
abbrev T3:=KT×V×V
def Ep:U T3->U V
 |[]=>[]
 |t::r=>t.2.1::t.2.2::Ep r
def CK:U T3->KT->O V
 |[],_=>J
 |t::r,k=>if t.1=k then Z t.2.2 else CK r k
def Iu:U T3->KT->V->U T3
 |[],_,_=>[]
 |t::r,k,v=>(if t.1=k then(t.1,t.2.1,v)else t)::Iu r k v
def EN(tr:U T3)(k:KT)(kv v:V):U T3:=if(CK tr k).υ=J' then Iu tr k v else tr++[(k,kv,v)]
def
bA(k:KT)(v:V):∀tr:U T3,(Iu tr k v).j (·.1)=tr.j (·.1)
 |[]=>rfl
 |t::r=>by
  erw[Iu,AQ,bA k v r];split<;>rfl
def
bB{k:KT}:∀{tr:U T3},CK tr k=J->k∉tr.j (·.1)
 |[],_=>by simp
 |t::r,h=>by
  unfold CK at h;split at h
  .cases h
  .next e=>
   erw[AQ,Bw,not_or];show#[λz=>e z.Ζ,bB h]
def
Mu{tr:U T3}{k:KT}{kv v:V}(h:(tr.j (·.1)).θ):((EN tr k kv v).j (·.1)).θ:=by
 unfold EN;split
 .rw[bA];show h
 .next e=>
  rw[Er,Ge];apply#[h,by simp,λa c b d=>?_];let f:CK tr k=J:=by
   simp_all
  grind [bB]
def
bC(k:KT)(v:V):∀tr:U T3,(Iu tr k v).a=tr.a
 |[]=>rfl
 |t::r=>by simp[Iu,bC k v r]
def
bE(tr:U T3)(k:KT)(kv v:V):(EN tr k kv v).a<=tr.a+1:=by
 unfold EN;split
 .rw[bC];show Qo tr.a 1
 .simp
def
Iv{a:At}(h:RelV (FN a) u):JD a u=J':=by
 cases a with
 |non=>ext h;rfl
 |int i=>let(t,rfl):=h;show m4 i t
 |str x=>let(t,rfl):=h;show m5 x t
def
tR{a:At}(h:JD a u=J'):RelV (FN a) u:=by
 rcases JH h with⟨rfl,rfl⟩|⟨i,t,rfl,rfl⟩|⟨x,t,rfl,rfl⟩
 .rfl
 .show#[t,rfl]
 .show#[t,rfl]
abbrev RA:U T3->U (At×Aa)->V':=Paired λt u=>t.1=.at u.1/\t.2.1=FN u.1/\RelV t.2.2 u.2
def
bF{P:AS}{w:Ai}:∀{tr:U T3}{es:U Hx},Ky w (tr.j (·.1)) (Ep tr) es->(∀t∈tr,∃a,t.1=KT.at a)->∃us,RA tr us/\Pairs (ZH P w) es us/\∀e∈es,∃k,(ZH P w).is k e.key=J'/\e.hash=(ZH P w).hash k
 |[],es,h,_=>by
  let(_,rfl):=h;show#[[],.ώ,.ώ,λ_ z=>nomatch z]
 |t::r,es,h,l=>by
  let(kv,v,q,e,n,c,o,f,p,g,d,s):=h;let(a,m):=l t Bb;erw[Ep,Qp]at c;let(c,i,b):=c;subst c i o b;dsimp only at g d;rw[m]at g d;let(us,u,x,y):=bF (P:=P) s λt A=>l t<|Bk _ A;rw[d]at f;apply⟨(a,e.val)::us,.cons ⟨m,d,p⟩ u,.cons (Iv f) rfl x,λB j=>?_⟩;rcases Bw.mp j with rfl|j
  .show#[a,Iv f,g]
  .show y B j
def
tT{P:AS}{w:Ai}{tr:U T3}{us:U (At×Aa)}{es:U Hx}(h:RA tr us)(g:Pairs (ZH P w) es us)(a:∀e∈es,∃k,(ZH P w).is k e.key=J'/\e.hash=(ZH P w).hash k):Ky w (tr.j (·.1)) (Ep tr) es:=by
 induction h generalizing es with|nil=>ext g;show#[rfl,rfl]|@cons t _ r _ h _ d=>
  let(b,c,f):=h;cases g with
  |@cons e _ es _ p1 i pr=>
   apply#[t.2.1,t.2.2,Ep r,e,es,rfl,rfl,?_,?_,?_,?_,d pr λe j=>a e<|Bk _ j]
   .rw[c];show tR p1
   .rw[i];show f
   .let(k,l,m):=a e Bb;have:=(ZH P w).inj _ _ _ l p1;subst this;dsimp only;rw[b];show m
   .dsimp only;rw[b];show c
def
RA.val{tr:U T3}{us:U (At×Aa)}(h:RA tr us)(a:At):CV (CK tr (.at a)) (valueAt us a):=by
 induction h with|nil=>show HC|@cons t u _ _ h _ b=>
  unfold CK valueAt;rw[h.1,List.find?_cons];by_cases e:u.1=a
  .rw[if_pos (by rw[e])];erw[e,decide_true];show h.2.2
  .rw[if_neg<|λz=>e<|KT.at.inj z];erw[e,decide_false];show b
def
CV.isS:∀{o:O V}{u:O Aa},CV o u->o.υ=u.υ
 |some _,Z _,_=>rfl
 |none,J,_=>rfl
 |some _,J,h=>h.Δ
 |none,Z _,h=>h.Δ
def
RA.rep{a:At}{v:V}(d:RelV v u){tr:U T3}{us:U (At×Aa)}(h:RA tr us):RA (Iu tr (.at a) v) (us.j λkv=>if kv.1=a then(kv.1,u)else kv):=by
 induction h with|nil=>show .ώ|@cons t w _ _ h _ f=>
  apply .Α ?_ f;let(b,c,g):=h;dsimp only;by_cases e:w.1=a
  .rw[if_pos e,if_pos<|b.G<|congrArg _ e];show⟨b,c,d⟩
  .rw[if_neg e,if_neg λz=>e<|KT.at.inj<|b.Ζ.G z];show⟨b,c,g⟩
def
Paired.snoc'{a b:Type}{F:a->b->V'}{x:a}{y:b}(h:F x y){l:U a}{m:U b}(t:Paired F l m):Paired F (l++[x]) (m++[y]):=t.snoc h
def
tU{us:U (At×Aa)}{a:At}:(us.any λkv=>decide (kv.1=a))=(valueAt us a).υ:=by
 unfold valueAt;grind
def
RA.put{tr:U T3}{us:U (At×Aa)}{a:At}{v:V}(h:RA tr us)(b:RelV v u):RA (EN tr (.at a) (FN a) v) (stored us a u):=by
 unfold EN stored;rw[tU,(h.r a).isS];by_cases e:(valueAt us a).υ=J'
 .rw[if_pos e,if_pos e];show h.rep b
 .rw[if_neg e,if_neg e];show Paired.snoc' #[rfl,rfl,b] h
def
RA.fst{tr:U T3}{us:U (At×Aa)}(h:RA tr us):tr.j (·.1)=(us.j (·.1)).j KT.at:=by
 induction h with
 |nil=>rfl
 |cons h _ a=>rw[AQ,AQ,AQ,h.1,a]
abbrev RT:U T3->U (U At×Ac×Aa)->V':=Paired λt u=>t.1=.S u.1/\t.2.1=.I u.2.1/\RelV t.2.2 u.2.2
def
bG{P:AS}{w:Ai}:∀{tr:U T3}{es:U Hx},Ky w (tr.j (·.1)) (Ep tr) es->(∀t∈tr,∃l,t.1=KT.S l)->∃us,RT tr us/\es=us.j (entryOfKey (Cb (ZH P w)))
 |[],es,h,_=>by
  let(_,rfl):=h;show#[[],.ώ,rfl]
 |t::r,es,h,f=>by
  let(kv,v,q,(k,m,hv),n,b,o,g,s,c,d,u):=h;let(l,i):=f t Bb;erw[Ep,Qp]at b;let(b,e,a):=b;subst b e o a;dsimp only at c d;rw[i]at c d;let(us,x,y):=bG (P:=P) u λt z=>f t<|Bk _ z;let(p,j):=(d:∃p,t.2.1=.I p);rw[j]at g;cases(g:m=DR p);apply#[(l,p,hv)::us,.Α #[i,j,s] x,?_];rw[AQ,<- y];have:k=(KT.S l).hash w:=c;rw[this];rfl
def
tV{P:AS}{w:Ai}{tr:U T3}(h:RT tr us):Ky w (tr.j (·.1)) (Ep tr) (us.j (entryOfKey (Cb (ZH P w)))):=by
 induction h with|nil=>show#[rfl,rfl]|@cons t _ r _ h _ a=>
  apply#[t.2.1,t.2.2,Ep r,_,_,rfl,rfl,?_,h.2.2,?_,?_,a]
  .rw[h.2.1];rfl
  .dsimp only;rw[h.1];rfl
  .dsimp only;rw[h.1];show#[_,h.2.1]
def
RT.val{tr:U T3}(h:RT tr us)(l:U At):CV (CK tr (.S l)) ((atKey us l).j (·.2)):=by
 induction h with|nil=>show HC|@cons t u _ _ h _ a=>
  unfold CK atKey;rw[h.1,List.find?_cons];by_cases e:u.1=l
  .rw[if_pos (by rw[e])];erw[e,decide_true];show h.2.2
  .rw[if_neg<|λz=>e<|KT.S.inj z];erw[e,decide_false];show a
def
RT.rep{l:U At}{v:V}(c:RelV v u){tr:U T3}(h:RT tr us):RT (Iu tr (.S l) v) (us.j (putAt l u)):=by
 induction h with|nil=>show .ώ|@cons t w _ _ h _ d=>
  apply .Α ?_ d;let(a,b,f):=h;unfold putAt;by_cases e:w.1=l
  .rw[if_pos e,if_pos<|a.G<|congrArg _ e];show⟨a,b,c⟩
  .rw[if_neg e,if_neg λz=>e<|KT.S.inj<|a.Ζ.G z];show⟨a,b,f⟩
def
RT.put{tr:U T3}{l:U At}{p:Ac}{v:V}(h:RT tr us)(a:RelV v u):RT (EN tr (.S l) (.I p) v) (storedH us l p u):=by
 unfold EN storedH;let b:=(h.r l).isS;rw[Qq]at b;rw[b];by_cases e:(atKey us l).υ=J'
 .rw[if_pos e,if_pos e];show h.rep a
 .rw[if_neg e,if_neg e];show Paired.snoc' #[rfl,rfl,a] h
def
RT.fst{tr:U T3}(h:RT tr us):tr.j (·.1)=(us.j (·.1)).j KT.S:=by
 induction h with
 |nil=>rfl
 |cons h _ a=>rw[AQ,AQ,AQ,h.1,a]
def
TV{c d:Type}{f:c->d}(e:∀a b,f a=f b->a=b):∀{l:U c},(l.j f).θ->l.θ
 |[],_=>List.nodup_nil
 |a::l,h=>by
  rw[AQ,E7]at h;rw[E7];show#[λz=>h.1<|Be.Ϣ ⟨a,z,rfl⟩,TV e h.2]
def BV(K:Ao)(H:Hp):KT->V->V'
 |.at a,v=>v=FN a
 |.tup l,v=>∃p,v=.I p/\Ck K H p (l.j FN)
def
bH{P:AS}{w:Ai}:∀{ks:U At}{us:U Aa},Ap (ks.j FN) us->ItemsAre (ZH P w) ks us
 |[],_,r=>by rw[Do]at r;ext r;show .ώ
 |k::ks,_,r=>by
  cases r with
  |cons h t=>show .Α (Iv h)<|bH t
def HR:KT->U T3->V'
 |.at _,tr=>∀t∈tr,∃a,t.1=KT.at a
 |.tup _,tr=>∀t∈tr,∃l,t.1=KT.S l
def C5(K:Ao)(H:Hp)(a:Ac)(tr:U T3):V':=Rd H a (.dct (tr.j (·.1)) (Ep tr))/\∀t∈tr,BV K H t.1 t.2.1
variable {s:Ab}{p:Ac}{y v:V}{r:Aa}{o:O V}{A:Ag}{tr:U T3}{k:KT}
def
Jh{l:U At}(e:Inv X pins I H s)(h:Ck X.K H p (l.j FN)):(Cb (ZH X.δ X.w)).is s.u l p:=by
 let(a,r,(o,b,c,n,d),_):=e.ϒ h;show#[o,a.E,n,b,c,d,by exists bH r]
def
N5(q:Inv X pins I H s)(h:C5 X.K H a tr)(c:∀t∈tr,∃a,t.1=KT.at a):tr.a<=Av/\(a==Hy)=O'/\(tr.j (·.1)).θ/\∃us,RA tr us/\s.u.DictOf (ZH X.δ X.w) a us:=by
 let(z,d,nd,o,f,g,i,j,k,l):=h.1.ok q.ϥ;let(us,b,m,n):=bF (P:=X.δ) l c;apply#[by simpa using z,d,nd,us,b,o,f,g,i,j,k,λe p=>n e (by exists p),m,?_];rw[b.fst]at nd;show TV (λ_ _ z=>KT.at.inj z) nd
def
Ld(L:Inv X pins I H s)(h:C5 X.K H a tr)(j:∀t∈tr,∃l,t.1=KT.S l):tr.a<=Av/\(a==Hy)=O'/\(tr.j (·.1)).θ/\∃us,RT tr us/\s.u.ϰ (Cb (ZH X.δ X.w)) a us:=by
 let(z,k,nd,o,n,d,r,v,y,A):=h.1.ok L.ϥ;let(us,f,B):=bG (P:=X.δ) A j;let c:=nd;rw[f.fst]at c;apply#[by simpa using z,k,nd,us,f,o,n,d,r,v,y,B,λx b=>?_,TV (λ_ _ z=>KT.tup.inj z) c];let all:∀{l:U T3} {m:U (U At×Ac×Aa)},RT l m->(∀t∈l,BV X.K H t.1 t.2.1)->∀x∈m,(Cb<|ZH X.δ X.w).is s.u x.1 x.2.1:=by
  intro l m q;induction q with|nil=>intro _ x b;show nomatch b|@cons t u F us g tl C=>
   intro i x b;rcases Bw.mp b with e|b
   .subst e;have:=i t Bb;rw[g.1,g.2.1]at this;let(p,d,E):=this;ext d;show Jh L E
   .show C (λt G=>i t<|Bk _ G) x b
 show all f h.2 x b
def
CV.to:∀{v:V}{o:O Aa},CV (Z v) o->∃w,o=Z w/\RelV v w
 |_,Z w,h=>#[w,rfl,h]
 |_,J,h=>h.Δ
def
tW{Q:AR}(r:A.ε+1<Ar)(x:Inv X pins I H s)(h:C5 X.K H a tr)(j:HR k tr)(m:BV X.K H k y)(n:RelV y u)(hv:CK tr k=Z v)(q:∀d o,Inv X pins I H o->RelV v d->Q d o):wpAny (Ah X.δ X.w) A (getItem (.I a) u) Q E s:=by
 cases k with
 | «at» b=>
  ext m;let(z,hd,nd,t,rel,f):=N5 x h j;let e:=rel.r b;rw[hv]at e;let(d,g,c):=e.to;show wpAny_getItem_of (knd:=ZH X.δ X.w) (Iv n) f.mapOf g (q d _ (x.tok _) c)
 |tup l=>
  let(p,rfl,B):=m;cases(show u=DR p from n);let(z,hd,nd,t,rel,f):=Ld x h j;let e:=rel.r l;rw[hv]at e;let(d,g,c):=e.to;let(C,hp,i):=B2.mp g;apply wpAny_getItem_heap (Le r) (Jh x B) f hp ?_;rw[i];show q d _ (x.tok _) c
def
bI(c:j'){Q:AR}(g:A.ε+1<Ar)(f:Inv X pins I H s)(h:C5 X.K H a tr)(i:HR k tr)(j:BV X.K H k y)(e:RelV y u)(q:∀m,Inv X pins I H m->Q (.Ϡ (bif c then !(CK tr k).υ else(CK tr k).υ)) m):wpAny (Ah X.δ X.w) A (DT (bif c then .NotIn else .In) u (.I a)) Q E s:=by
 cases k with
 | «at» b=>
  ext j;let(z,hd,nd,o,rel,d):=N5 f h i;rw[(rel.r b).isS]at q;ext c
  .show wpAny_in_of (knd:=ZH X.δ X.w) (Iv e) hd d.mapOf (q _<|f.tok _)
  .show wpAny_notIn_of (knd:=ZH X.δ X.w) (Iv e) hd d.mapOf (q _<|f.tok _)
 |tup l=>
  let(p,rfl,n):=j;cases(show u=DR p from e);let(z,hd,nd,o,rel,d):=Ld f h i;rw[(rel.r l).isS,Qq]at q;ext c
  .show wpAny_in_heap (Le g) (Jh f n) hd d<|q _<|f.tok _
  .show wpAny_notIn_heap (Le g) (Jh f n) hd d<|q _<|f.tok _
def
Lf{h':Al}{c:HO}(i:Inv X pins I H s)(d:Nl (H a))(f:Ex a s.u h')(g:∃q,h'.U a=Z q)(new:Bo X.δ X.w (AL H a c) h' a c):Inv X pins I (AL H a c) {s with heap:=h',toks:=t' }:=i.write (x:=a) (e:=a) d (.O rfl) (λb q h z=>(f.2 b h).G z) g new
def D5(tr:U T3):HO:=.dct (tr.j (·.1)) (Ep tr)
def
TW{P:AS}{w:Ai}{h':Al}{us:U (At×Aa)}(z:tr.a<=Av)(hd:(a==Hy)=O')(nd:(tr.j (·.1)).θ)(rel:RA tr us)(b:h'.DictOf (ZH P w) a us):Bo P w H' h' a (D5 tr):=by
 let(o,c,d,f,g,h,i,j,l):=b;show#[by simpa using z,hd,nd,o,c,d,f,g,h,tT rel j λe k=>i e (by exists k)]
def
Qr{P:AS}{w:Ai}{h':Al}(z:tr.a<=Av)(hd:(a==Hy)=O')(nd:(tr.j (·.1)).θ)(rel:RT tr us)(b:h'.ϰ (Cb (ZH P w)) a us):Bo P w H' h' a (D5 tr):=by
 let(o,c,d,e,f,g,h,i,j):=b;apply#[by simpa using z,hd,nd,o,c,d,e,f,g,?_];rw[h];show tV rel
def
bJ(b:j'){Q:Unit->Ab->V'}(C:A.ε+1<Ar)(B:Inv X pins I H s)(e:H a=Z (D5 tr))(f:∀t∈tr,BV X.K H t.1 t.2.1)(G:HR k tr)(i:BV X.K H k y)(o:RelV y u)(n:RelV v r)(M:tr.a<Av) (q:∀h' t',Inv X pins I (AL H a (D5 (EN tr k y v))) {s with heap:=h',toks:=t' }->Ex a s.u h'->Q () {s with heap:=h',toks:=t' }):wpAny (Ah X.δ X.w) (bif b then A.in1 else A) (bif b then dictSet a u r else setItem (.I a) u r) Q E s:=by
 let h:(EN tr k y v).a<=Av:=by have:=bE tr k y v;lia
 cases k with
 | «at» c=>
  ext i;let(z,hd,nd,x,rel,m):=N5 B #[.O e,f] G;let hz:x.a<=Av:=G8 rel ▸ z;ext b
  .show wpAny_setItem_pairs (knd:=ZH X.δ X.w) (hsz:=hz) (Iv o) m λh' d g=>q _ _ (Lf B (e ▸ HC) g (let⟨q,_,_,j,_⟩:=d;#[q,j]) (TW h hd (Mu nd) (rel.put n) d)) g
  .show wpAny_dictSet_pairs (knd:=ZH X.δ X.w) (hsz:=hz) (Iv o) m λh' d g=>q _ _ (Lf B (e ▸ HC) g (let⟨q,_,_,j,_⟩:=d;#[q,j]) (TW h hd (Mu nd) (rel.put n) d)) g
 |tup l=>
  let(p,rfl,L):=i;cases(show u=DR p from o);let(z,hd,nd,x,rel,m):=Ld B #[.O e,f] G;let hz:x.a<=Av:=G8 rel ▸ z;ext b
  .show wpAny_setItem_heap (hsz:=hz) (Le C) (Jh B L) m λh' d g=>q _ _ (Lf B (e ▸ HC) g (let⟨q,_,_,j,_⟩:=d;#[q,j]) (Qr h hd (Mu nd) (rel.put n) d)) g
  .show wpAny_dictSet_heap (hsz:=hz) (Le C) (Jh B L) m λh' d g=>q _ _ (Lf B (e ▸ HC) g (let⟨q,_,_,j,_⟩:=d;#[q,j]) (Qr h hd (Mu nd) (rel.put n) d)) g
end
end Internal
namespace PySem
variable {prog:AS}{w:Ai}{K:Type}[DecidableEq K]{knd:HeapKind prog w K}{A:Ag}{s:Ab}
def
tY{d:Ac}{xs:U (K×Ac×Aa)}{k:K}{v:Aa}{Q:AR}(l:knd.room A)(b:knd.is s.u k a)(r:s.u.ϰ knd d xs)(hsz:xs.a<=Av)
  (t:∀p,atKey xs k=Z p->Q p.2 {s with toks:=s.Ε+knd.draws k})
  (u:atKey xs k=J->∀h',h'.ϰ knd d (storedH xs k a v)->Ex d s.u h'->Q v {s with heap:=h',toks:=s.Ε+knd.draws k}):
  wpAny (Ah prog w) A (dictSetDefault d (.I a) v) Q E s:=by
 let(o,z,y,f,hc,hd,i,h,m):=r
 unfold dictSetDefault
 try with_reducible apply F2 ?_
 apply An (knd.pyHash l b ?_)
 apply An (wpAny_dictFind_heap (s:={s with toks:=s.Ε+knd.draws k}) l b f hd i h m ?_ ?_)
 .intro c
  let n:k∉xs.j (·.1):=not_mem_keys_of_get c
  apply An (JQ (An (wpAny_updateDictKeys (hz:=by have e:=size_of_entries i;lia) (s:={s with toks:=s.Ε+knd.draws k}) f hd (AV (u (Qs c) _ #[_,_,y+1,PN _ f (Obj.isFreed_of_dict (TX hd _)),
   hc.mapDictKeys _,TX hd _,?_,?_,?_] (J5 ..))))))
  .rw[storedH_new (Qs c)]
   simp[i,entryOfKey]
  .rw[storedH_new (Qs c)]
   intro x g
   rcases C0.mp g with g|g
   .show knd.keeps (h x g) f hd (J5 ..)
   .erw[Cg]at g
    subst g
    show knd.keeps b f hd (J5 ..)
  .rw[storedH_new (Qs c)]
   grind [Er,Ge,AQ,Do,Cg]
 .intro j p q
  apply An (N6 (s:={s with toks:=s.Ε+knd.draws k}) f hd ?_)
  rw[entry_at i j,q]
  show An (JQ (AV (t p (atKey_of_get m q))))
def
tZ{k:K}(d:Ac)(hd:(d==Hy)=O')(dflt:Aa):
  MeetsIn prog w (F8.«dict.setdefault» #[[.I d,.I a,dflt],[]]) (λA R s=>knd.room A.in1/\∃xs,knd.is s.u k a/\s.u.ϰ knd d xs/\xs.a<=Av /\
   (∀p,atKey xs k=Z p->R (.ok (.ϱ p.2)) {s with toks:=s.Ε+knd.draws k}) /\
   (atKey xs k=J->∀h',h'.ϰ knd d (storedH xs k a dflt)->Ex d s.u h'->R (.ok (.ϱ dflt)) {s with heap:=h',toks:=s.Ε+knd.draws k})):=
 .of_wp λA R s g=>by
  let(h,xs,b,f,hz,i,j):=g
  apply An ?_
  apply An (TY f.ϕ ?_)
  apply AV ?_
  change wpAny _ _ (if(d==Hy)=J' then _ else(dictSetDefault d (.I a) dflt >>= _)) _ _ s
  rw[if_neg (hd ▸ JJ)]
  show An (tY h b f hz (λp hp=>AV #[p.2,rfl,i p hp]) λl h' c e=>AV #[dflt,rfl,j l h' c e])
end
end PySem
namespace Internal
open PySem PySem.Spec PyProof.Rows
def bK(K:Ao):R2:=λx y H Q=>∃a tr k v,x=.I a/\C5 K H a tr/\HR k tr/\BV K H k y/\CK tr k=Z v/\Q v H
def TZ(K:Ao)(neg:j'):R2:=λx y H Q=>∃a tr k,y=.I a/\C5 K H a tr/\HR k tr/\BV K H k x/\Q (.bl (neg != (CK tr k).υ)) H
def t0(K:Ao):Pq:=λo i v H Q=>∃a tr k,o=.I a/\H a=Z (D5 tr)/\(∀t∈tr,BV K H t.1 t.2.1)/\HR k tr/\BV K H k i/\tr.a<Av/\Q (AL H a (D5 (EN tr k i v)))
def t3(K:Ao):V->U V->Hp->VK->V':=λx b H Q=>∃a tr k y z,x=.I a/\b=[y,z]/\H a=Z (D5 tr)/\(∀t∈tr,BV K H t.1 t.2.1)/\HR k tr/\BV K H k y/\tr.a<Av /\
 (∀v,CK tr k=Z v->Q v H)/\(CK tr k=J->Q z (AL H a (D5 (EN tr k y z))))
def
C5.typeIs{b:A1}{s:Ab}{tr:U T3}(d:Inv X b I H s)(h:C5 X.K H a tr):s.TypeIs (.I a) "dict":=by
 let(_,_,_,o,_,_,e,c,_):=h.1.ok d.ϥ;show#[o,e,c.1]
section
def
t5(n:X.A.ε+64<Ar):HF X (bK X.K):=by
 rintro b slice c s f H x y v u Q t g h ⟨a,tr,k,z,rfl,hd,i,j,hv,q⟩ l;ext g;apply An ?_;apply An<|wpAny_specialOf (hd.typeIs t) PySem.F.slot_dict_getitem.lookup ?_;let fin:wpAny (Ah X.prog X.w) X.A (subscripted slice O' (.ref a) u) (λr d=>wpAny (Ah X.δ X.w) X.A (letTemporaryGo b (.I a) r >>= λ_=>Ax r) (EP X c f Q) X.xe d) X.xe s:=by
  rw[l];show wpAny_operating<|tW ∅ t hd i j h hv λo p m e=>An<|wpAny_letTemporaryGo<|AV ⟨z,H,m,e,q⟩
 show AV<|An fin
def
bL(h:X.A.ε+64<Ar):Cs X (DT .In) (TZ X.K O'):=by
 intro b s i H x y v u Q l c d zQ;let(a,tr,k,rfl,hd,e,f,q):=zQ;ext d;show bI O' ∅ l hd e f c λj g=>#[.bl (CK tr k).υ,H,g,rfl,by exists q]
def
t6(h:X.A.ε+64<Ar):Cs X (DT .NotIn) (TZ X.K J'):=by
 intro b s i H x y v u Q l c d zQ;let(a,tr,k,rfl,hd,e,f,q):=zQ;ext d;show bI J' ∅ l hd e f c λj g=>#[.bl<|!(CK tr k).υ,H,g,rfl,by exists q]
def
bM(n:X.A.ε+64<Ar):SQ X (t0 X.K):=by
 intro c s p H o i v r t u Q y d f g zQ;let(a,tr,k,rfl,e,b,h,j,l,q):=zQ;ext d;show bJ O' ∅ y e b h j f g l λw x m _=>#[_,m,q]
def
bN(hu:X.A.ε+64<Ar):KV X "dict.setdefault" (t3 X.K):=by
 intro G s I H x xs v g Q W S Y' zQ;let(a,tr,k,y,z,rfl,rfl,e,h,P,L,hl,M,N):=zQ
 ext S
 let(u1,R,rfl,T,n):=Y'.two
 let i:(EN tr k y z).a<=Av:=by have:=bE tr k y z;show BN this hl
 cases k with
 | «at» b=>
  ext L
  let(o,j,nd,g,rel,m):=N5 W #[.O e,h] P
  let c:=rel.r b
  apply call_meetsIn T0 m.ϕ PySem.F.entry_dict_setdefault (PySem.F.args_dict_setdefault_3 _ _ _) (kt_meets_setdefault (ZH X.δ X.w) a (Iv T) j R)
   #[g,m,(show g.a<=Av by rw[<- G8 rel];show o),λv' r=>?_,λt u d f=>?_]
  .rw[r]at c
   cases hv:CK tr (.at b)with
   |none=>rw[hv]at c;show c.Δ
   |some w=>rw[hv]at c;show#[w,H,W.tok _,c,M w hv]
  .rw[t]at c
   cases hv:CK tr (.at b)with
   |some w=>rw[hv]at c;show c.Δ
   |none=>
    let B:∃q,u.U a=Z q:=let⟨q,_,_,C,_⟩:=d;#[q,C]
    show#[z,_,Lf W (e ▸ HC) f B (TW i j (Mu nd) (rel.put n) d),n,N hv]
 |tup l=>
  let(p,rfl,sq):=L
  cases(show u1=DR p from T)
  let(o,j,nd,g,rel,m):=Ld W #[.O e,h] P
  let c:=rel.r l
  apply call_meetsIn T0 m.ϕ PySem.F.entry_dict_setdefault (PySem.F.args_dict_setdefault_3 _ _ _) (tZ (knd:=Cb (ZH X.δ X.w)) (k:=l) a j R)
   #[Le ∅,g,Jh W sq,m,(show g.a<=Av by rw[<- G8 rel];show o),λp' E=>?_,λt u d f=>?_]
  .rw[E]at c
   cases hv:CK tr (.S l)with
   |none=>rw[hv]at c;show c.Δ
   |some w=>rw[hv]at c;show#[w,H,W.tok _,c,M w hv]
  .rw[t]at c
   cases hv:CK tr (.S l)with
   |some w=>rw[hv]at c;show c.Δ
   |none=>
    let B:∃q,u.U a=Z q:=let⟨q,_,_,C,_⟩:=d;#[q,C]
    show#[z,_,Lf W (e ▸ HC) f B (Qr i j (Mu nd) (rel.put n) d),n,N hv]
def
Inv.big(b:Inv X pins I H s):Hy<s.u.L.y:=by
 show I0 (by ext) ((b.mod.glob.keeps b.bk).lt)
def
Ji:PE X (.Dict [] [] pos) (λ_ H Q=>∀p,H p=J->Q (.I p) (AL H p (D5 []))):=λb s c H Q d h=>wpAny_Dict_empty #[.I s.u.L.y,_,d.laid (a:=s.u.L.y) (o:=D5 []) (t':=s.Ε) (λ_ _ q=>BR _ q) (Bg _) #[Fk _,beq_eq_false_iff_ne.Ϣ<|B8<|Cq d.big,List.nodup_nil,_,(T' []),0,CD _ rfl,⟨rfl,rfl,rfl⟩,rfl,rfl,rfl],rfl,h _<|d.ϥ.Ξ<|Bg _]
end
def N7:D->O At
 |.non=>Z .κ
 |.int i=>Z (.o i)
 |.str x=>Z (.Ι x)
 |_=>J
def Mv:U D->O (U At)
 |[]=>Z []
 |d::r=>(N7 d).J λa=>(Mv r).j (a::·)
def Dw:D->O KT
 |.tup l=>(Mv l).j KT.S
 |d=>(N7 d).j KT.at
def aD:At->D
 |.non=>.κ
 |.int i=>.o i
 |.str x=>.Ι x
def kD:KT->D
 |.at a=>aD a
 |.tup l=>.S (l.j aD)
def
bO{d:D}{a:At}(h:N7 d=Z a):d=aD a:=by
 unfold N7 at h;split at h<;>ext h<;>rfl
def
bP:∀{l:U D}{b:U At},Mv l=Z b->l=b.j aD
 |[],_,h=>by ext h;rfl
 |d::r,b,h=>by
  let(a,c,h):=Cm.mp h;let(bs,e,h):=B2.mp h;ext h;rw[AQ,<- bO c,<- bP e]
open J in
def
Iw{d:D}{k:KT}(h:Dw d=Z k):d=kD k:=by
 unfold Dw at h;split at h
 .next l=>
  let(c,b,h):=B2.mp h;ext h;rw[bP b];rfl
 .let(a,b,h):=B2.mp h;ext h;rw[bO b];rfl
def
ua(a:At):N7 (aD a)=Z a:=by ext a<;>rfl
def
bQ:∀(l:U At),Mv (l.j aD)=Z l
 |[]=>rfl
 |a::l=>by rw[AQ];unfold Mv;rw[ua,bQ l];rfl
def

N8(k:KT):Dw (kD k)=Z k:=by
  cases k with
  | «at» a=>ext a<;>rfl
  |tup l=>show(Mv<|l.j aD).j KT.S=_;rw[bQ];rfl
def

ZHk:Dw .κ=Z (.at .κ):=rfl
def

ZHn(i:W'):Dw (.o i)=Z (.at (.o i)):=rfl
def

ZHh(x:Ae):Dw (.Ι x)=Z (.at (.Ι x)):=rfl
def
ub(a:At):PZ (aD a)=a:=by ext a<;>rfl
def
ud(k:KT):JY (kD k)=k:=by
 cases k with
 | «at» a=>ext a<;>rfl
 |tup l=>
  unfold kD JY;induction l<;>grind [ub]
abbrev Br:=U (KT×D)
variable{kvs:Br}
def Zb:Br->U D
 |[]=>[]
 |p::r=>kD p.1::p.2::Zb r
def EO:U D->O Br
 |[]=>Z []
 |k::v::r=>(Dw k).J λa=>(EO r).j ((a,v)::·)
 |_=>J
def

ZW:∀kvs:Br,EO (Zb kvs)=Z kvs
  |[]=>rfl
  |p::r=>by unfold Zb EO;rw[N8,ZW r];rfl
def

ZHf:EO []=Z []:=rfl
def
GJ:∀{xs:U D}{kvs:Br},EO xs=Z kvs->xs=Zb kvs
 |[],_,h=>by ext h;rfl
 |[_],_,h=>by cases h
 |k::v::r,kvs,h=>by
  let(c,a,h):=Cm.mp h;let(q,b,h):=B2.mp h;ext h;unfold Zb;rw[<- Iw a,<- GJ b]
def
T1:∀kvs:Br,JZ (Zb kvs)=kvs.j (·.1)
 |[]=>rfl
 |p::r=>by unfold Zb JZ;rw[ud,T1 r];rfl
def Zs:Br->KT->O D
 |[],_=>J
 |t::r,k=>if t.1=k then Z t.2 else Zs r k
def FU:Br->KT->D->Br
 |[],_,_=>[]
 |t::r,k,v=>(if t.1=k then(t.1,v)else t)::FU r k v
def ZU(kvs:Br)(k:KT)(v:D):Br:=if(Zs kvs k).υ=J' then FU kvs k v else kvs++[(k,v)]
def EQ:KT->j'
 |.at _=>J'
 |_=>O'
def D6(k:KT)(kvs:Br):j':=kvs.Ϛ λp=>EQ p.1==EQ k
variable {K:Ao}{N:Fb}
abbrev PD(K:Ao)(N:Fb)(H:Hp):Br->U T3->V':=Paired λp t=>p.1=t.1/\Au K N H (kD p.1) t.2.1/\Au K N H p.2 t.2.2
def
bR{a:At}{v:V}(h:Au K N H (aD a) v):v=FN a:=by ext a<;>simpa only[aD,Au,FN]using h
def
bS:∀{l:U At}{vs:U V},Ad K N H (l.j aD) vs->vs=l.j FN
 |[],_,h=>by simpa only[Do,Ad]using h
 |a::l,vs,h=>by
  let(v,r,e,b,c):=h;rw[e,bR b,bS c];rfl
def
HS{k:KT}{v:V}(h:Au K N H (kD k) v):BV K H k v:=by
 cases k with| «at» a=>show bR h|tup l=>
  let(p,d,e,b,c):=h;rw[bS c]at b;show#[p,e,b]
def
He{k:KT}{v:V}(h:Ay K N H (kD k) v):Au K N H (kD k) v:=by
 cases k with
 | «at» a=>ext a<;>show h
 |tup l=>show h
def
Lg:∀{kvs:Br}{vs:U V},Ad K N H (Zb kvs) vs->∃tr,vs=Ep tr/\PD K N H kvs tr
 |[],vs,h=>#[[],by simpa only[Zb,Ad,Ep]using h,.nil]
 |p::r,vs,h=>by
  let(v,t,e,a,b,i,c,d,f):=h;let(tr,g,q):=Lg f;show#[(p.1,v,b)::tr,by rw[e,c,g];rfl,.Α #[rfl,a,d] q]
def
PD.flat{tr:U T3}(h:PD K N H kvs tr):Ad K N H (Zb kvs) (Ep tr):=by
 induction h with
 |nil=>show Ad.ώ
 |cons h _ a=>show Ad.Α h.2.1<|Ad.Α h.2.2 a
def
PD.fst{tr:U T3}(h:PD K N H kvs tr):kvs.j (·.1)=tr.j (·.1):=by
 induction h with
 |nil=>rfl
 |cons h _ a=>rw[AQ,AQ,h.1,a]
def
PD.keys{tr:U T3}(h:PD K N H kvs tr):∀t∈tr,BV K H t.1 t.2.1:=by
 induction h with|nil=>show λ_ h=>nomatch h|cons h _ b=>
  intro x a;rcases Bw.mp a with rfl|a
  .rw[<- h.1];show HS h.2.1
  .show b x a
def Lh(K:Ao)(N:Fb)(H:Hp):O D->O V->V'
 |some d,Z v=>Au K N H d v
 |none,J=>True
 |_,_=>False
def
PD.val{tr:U T3}(h:PD K N H kvs tr)(k:KT):Lh K N H (Zs kvs k) (CK tr k):=by
 induction h with|nil=>show HC|cons h _ a=>
  unfold Zs CK;rw[h.1];split
  .show h.2.2
  .show a
def
Lh.isS:∀{o:O D}{u:O V},Lh K N H o u->o.υ=u.υ
 |some _,Z _,_=>rfl
 |none,J,_=>rfl
 |some _,J,h=>h.Δ
 |none,Z _,h=>h.Δ
def
PD.rep{k:KT}{d:D}{v:V}(hd:Au K N H d v){tr:U T3}(h:PD K N H kvs tr):PD K N H (FU kvs k d) (Iu tr k v):=by
 induction h with|nil=>show .ώ|cons h _ a=>
  unfold FU Iu;rw[h.1];apply .Α ?_ a;split
  .show#[rfl,h.1 ▸ h.2.1,hd]
  .show h
def
PD.put{tr:U T3}{k:KT}{d:D}{kv v:V}(h:PD K N H kvs tr)(a:Au K N H (kD k) kv)(hd:Au K N H d v):PD K N H (ZU kvs k d) (EN tr k kv v):=by
 unfold ZU EN;rw[(h.r k).isS];split
 .show h.rep hd
 .show Paired.snoc' #[rfl,a,hd] h
def
PD.hom{k:KT}:∀{kvs:Br}{tr:U T3},PD K N H kvs tr->D6 k kvs=J'->HR k tr
 |_,_,.nil,_=>by ext k<;>show λ_ h=>nomatch h
 |p::kvs,t::tr,.cons ⟨g,_,_⟩ r,e=>by
  erw[D6,NX,Dv]at e;let f:=PD.hom (k:=k) r e.2;let d:=e.1;rw[g]at d;cases k with
  | «at» a=>
   intro x c;rcases Bw.mp c with rfl|c
   .cases c:x.1 with
    | «at» b=>show#[b,rfl]
    |tup l=>rw[c]at d;ext d
   .show f x c
  |tup l=>
   intro x c;rcases Bw.mp c with rfl|c
   .cases c:x.1 with
    | «at» b=>rw[c]at d;cases d
    |tup l=>show#[l,rfl]
   .show f x c
def
Jj(h:Rd H a (.dct (JZ (Zb kvs)) vs))(hd:Ad K N H (Zb kvs) vs):∃tr,C5 K H a tr/\PD K N H kvs tr:=by
 let(tr,rfl,p):=Lg hd;rw[T1,p.fst]at h;show#[tr,#[h,p.keys],p]
def
Ix{tr:U T3}(p:PD K N H kvs tr):CO K .d a (Zb kvs) (Ep tr)=D5 tr:=by
 unfold CO D5;rw[T1,p.fst]
end
def DO:D->D->O D
 |.lst b .d,y=>(EO b).J λa=>(Dw y).J λk=>if D6 k a then Zs a k else J
 |_,_=>J
def

T2(kvs:Br)(y:D):DO (.R (Zb kvs) .d) y=(Dw y).J λk=>if D6 k kvs then Zs kvs k else J:=by simp[DO]
def

ZGh(y:D):DO (.R [] .d) y=(Dw y).J λk=>J:=by simp[DO,Zs]
def DF(neg:j'):D->D->O D
 |y,.lst b .d=>(EO b).J λa=>(Dw y).J λk=>if D6 k a then Z (.bl (neg != (Zs a k).υ))else J
 |_,_=>J
def

Li(neg:j')(kvs:Br)(y:D):DF neg y (.R (Zb kvs) .d)=(Dw y).J λk=>if D6 k kvs then Z (.bl (neg != (Zs kvs k).υ))else J:=by simp[DF]
def

ZGx(neg:j')(y:D):DF neg y (.R [] .d)=(Dw y).J λk=>Z (.bl neg):=by simp[DF,Zs,D6]
variable {K:Ao}{M:Fb}{e a b:Expr}{f g:Az}
open J in
def
ue:El K (bK K) DO:=by
 intro N H x y o h d Q s c f e q;unfold DO at e;split at e
 .next t=>
  let(i,j,e):=Cm.mp e;cases a:Dw h with|none=>rw[a]at e;cases e|some k=>
   rw[a]at e;let(l,e):=Z1 e;rw[GJ j]at c;let(p,u,m,r,hd):=c;let(tr,n,g):=Jj r hd;rw[Iw a]at f;let hv:=g.r k;rw[e]at hv;cases b:CK tr k with
   |none=>rw[b]at hv;show hv.Δ
   |some w=>rw[b]at hv;show#[p,tr,k,w,m,n,g.hom l,HS<|He f,b,q w H (Aj.σ H) hv]
 .cases e
open J in
def
T4{neg:j'}:El K (TZ K neg) (DF neg):=by
 intro N H x y g n d Q o b c e q;unfold DF at e;split at e
 .next s=>
  let(h,i,e):=Cm.mp e;cases a:Dw g with|none=>rw[a]at e;cases e|some k=>
   rw[a]at e;let(j,e):=Z1 e;ext e;rw[GJ i]at c;let(p,t,l,r,hd):=c;let(tr,m,f):=Jj r hd;rw[Iw a]at b;apply#[p,tr,k,l,m,f.hom j,HS<|He b,?_];rw[<- (f.r k).isS];show q _ H (Aj.σ H) HM
 .cases e
def
uf(e:X.A.ε+64<Ar)(c:JE X a (tP X.K M H0 f))(d:JE X b (tP X.K M H0 g))(i:NE b):JE X (.μ a b pos) (tD X.K M H0 (Za DO f g)):=#[have c:=c.h;let d:=d.h;ay (t5 e) ue c d i]
def
ug(e:X.A.ε+64<Ar)(c:JE X a (tP X.K M H0 f))(d:JE X b (tP X.K M H0 g))(i:Gw .In b=O':=by with_unfolding_all rfl):JE X (.Κ a [.In] [b] pos) (tD X.K M H0 (Za (DF O') f g)):=#[have c:=c.h;let d:=d.h;NG (bL e) T4 c d i]
def
uh(e:X.A.ε+64<Ar)(c:JE X a (tP X.K M H0 f))(d:JE X b (tP X.K M H0 g))(i:Gw .In b=O':=by with_unfolding_all rfl):JT X (.Κ a [.In] [b] pos) (B9 X.K M H0 λρ=>AI (Za (DF O') f g ρ)):=#[have c:=c.h;let d:=d.h;Jb (bL e) T4 c d i]
def
ui(e:X.A.ε+64<Ar)(c:JE X a (tP X.K M H0 f))(d:JE X b (tP X.K M H0 g))(i:Gw .NotIn b=O':=by with_unfolding_all rfl):JT X (.Κ a [.NotIn] [b] pos) (B9 X.K M H0 λρ=>AI (Za (DF J') f g ρ)):=#[have c:=c.h;let d:=d.h;Jb (t6 e) T4 c d i]
def
uj:JE X (.Dict [] [] pos) (Fm .d K M H0 λ_=>Z []):=#[Ji.ζ λc H Q a p hp=>by
 let(f,b,R,e,q):=a;ext e;show NJ (xs:=[]) (vs:=[]) (fl:=.d) (Aj.σ H) hp Ad.ώ q]
def Iy(i:Y)(ok b:O D)(ρ:VE):Dp:=match E9 ρ i,ok,b with
 |some c,Z y,Z d=>match EO c,Dw y with
  |some a,Z k=>if D6 k a&&decide (a.a<Av)then .Q (ρ.ξ i (.φ (Zb (ZU a k d)) .d))else .Ρ
  |_,_=>.Ρ
 |_,_,_=>.Ρ
open J in
def
uk{i:Y}{x:Ae}{b c:AC}{j e:Expr}{fi f:Az}(T:X.A.ε+64<Ar)(p:JE X j (tP X.K M H0 fi))(r:JE X e (tD X.K M H0 f))(S:NV X i x:=by show EW) (Y':∀v,BC (.μ (.β x b) j c) X.C v=(do
   let o <- D1 [v] (Aq (.β x b) X.C);let s <- D1 [v,o] (Aq j X.C);standAt c
   D1 [v,o,s] (setItem o s v)
   release [v,o,s] []):=by intro _;rfl) (hs:Np [.μ (.β x b) j c] e pos.ϡ X.C=Ax O':=by rfl) (m:Nq [.μ (.β x b) j c] e X.C=Ax J:=by rfl) (h1:(Ef [.μ (.β x b) j c] X.C).j (·.2)=[BC (.μ (.β x b) j c) X.C]:=by rfl):JS X (.ϩ [.μ (.β x b) j c] e pos) (tS X.K M H0 λρ=>Iy i (fi ρ) (f ρ) ρ):=#[have p:=p.h;let r:=r.h;(No r (Pt (GA S) p (bM T) Y') hs m h1).ζ λD' I H z0=>by
 let(ρ,R,q):=z0;try dsimp only at q
 unfold Iy at q;split at q
 .next xs y d E t hf=>
  split at q
  .next u k z hk=>
   split at q
   .next B=>
    rw[Dv,decide_eq_true_eq]at B;apply#[ρ,d,R,hf,λv H1 G hv=>?_];let C:=R.st G;let ex:=GJ z;subst ex;let(a,vs,W,z1,z2,F,L):=C.ϓ i _<|NL E;apply⟨.ref a,(AD W),ρ,y,C,t,λw H2 l m=>?_⟩;let(tr,dc,pd):=Jj (K:=X.K) (.O<|l _ _ F) (L.η l);let(n,rfl,g):=Lg<|L.η l;rw[Iw hk]at m;let N:=g.put (k:=k) (He m) (hv.η l);let(P,Q):=(C.st l).chg (fl2:=.d) (ys:=Zb<|ZU u k d) (ws:=Ep<|EN n k w v) (NL E) (AD W) N.flat;rw[Ix N]at P Q;apply⟨a,n,k,rfl,?_,g.keys,g.hom B.1,HS<|He m,G8 g ▸ B.2,q _ _ P<|(Step.ϋ<|G.G l).G Q⟩;rw[<- Ix g];show l _ _ F
   .show B6 q
  .show B6 q
 .show B6 q]
end
def
bT(k:KT)(v:D)(k':KT):∀kvs:Br,Zs (FU kvs k v) k'=if k=k' then(Zs kvs k').j (λ_=>v)else Zs kvs k'
 |[]=>by simp[FU,Zs]
 |t::r=>by
  let a:=bT k v k' r;grind [FU,Zs]
def
bU(k:KT):∀(a b:Br),Zs (a++b) k=match Zs a k with|some v=>Z v|none=>Zs b k
 |[],b=>by simp[Zs]
 |t::r,b=>by
  let c:=bU k r b;grind [Zs]
def
Iz(kvs:Br)(k:KT)(v:D)(k':KT):Zs (ZU kvs k v) k'=if k=k' then Z v else Zs kvs k':=by
 unfold ZU;by_cases h:(Zs kvs k).υ=J'
 .rw[if_pos h,bT];by_cases e:k=k'
  .subst e;cases hv:Zs kvs k with
   |none=>rw[hv]at h;cases h
   |some w=>rfl
  .rw[if_neg e,if_neg e]
 .grind [bU,Zs]
def
bV{k:KT}{v:D}{p:KT×D}:∀{kvs:Br},p∈FU kvs k v->p∈kvs\/p=(k,v)
 |[],h=>nomatch h
 |t::r,h=>by
  rcases Bw.mp h with hp|h
  .grind [Bb]
  .rcases bV h with h|h
   .show .O<|Bk _ h
   .show .ρ h
def
T5{k:KT}{v:D}{p:KT×D}(h:p∈ZU kvs k v):p∈kvs\/p=(k,v):=by grind [ZU,bV]
def
bW(k:KT)(v:D):∀kvs:Br,(FU kvs k v).a=kvs.a
 |[]=>rfl
 |t::r=>by simp[FU,bW k v r]
def
Mw(kvs:Br)(k:KT)(v:D):(ZU kvs k v).a<=kvs.a+1:=by
 unfold ZU;split
 .rw[bW];show Qo (List.a kvs) 1
 .simp
def
Hf(a:At)(h:∀p∈kvs,EQ p.1=J'):D6 (.at a) kvs=J':=by
 unfold D6;rw[Dr];intro p hp;rw[h p hp];rfl
def
Lj(l:U At)(h:∀p∈kvs,EQ p.1=O'):D6 (.S l) kvs=J':=by
 unfold D6;rw[Dr];intro p hp;rw[h p hp];rfl
def tX(K:Ao)(M:Fb)(H0:Hp)(f:VE->O (D×VE)):TE:=λb H Q=>∃e d a,By K M H0 e b H/\f e=Z (d,a) /\
 ∀v c,By K M H0 a b c->Step M (Nf M e b) (Nf M a b) H c->Au K (Nf M a b) c d v->Q v c
def bX(K:Ao)(M:Fb)(H0:Hp)(t:VE->O (j'×VE)):TT:=λc H Q=>∃d b a,By K M H0 d c H/\t d=Z (b,a) /\
 ∀e,By K M H0 a c e->Step M (Nf M d c) (Nf M a c) H e->Q b e
def Jk(i:Y)(c e:Az):VE->O (D×VE):=λb=>match E9 b i,c b,e b with
 |some f,Z y,Z d=>match EO f,Dw y with
  |some a,Z k=>if D6 k a&&decide (a.a<Av)then
    (match Zs a k with
    |some v=>Z (v,b)
    |none=>Z (d,b.ξ i (.φ (Zb (ZU a k d)) .d)))
   else J
  |_,_=>J
 |_,_,_=>J
variable {K:Ao}{M:Fb}{e a b ev:Expr}{f g fk fv:Az}
open J in
def
bY{i:Y}{x:Ae}{c:AC}(hu:X.A.ε+64<Ar)(r:JE X ek (tP X.K M H0 fk))(f:JE X ev (tD X.K M H0 fv))(hN:NV X i x:=by show EW) (g:FQ (.β x c) "setdefault" X.C (Aq (.β x c) X.C)=Aq (.β x c) X.C:=by rfl) (n:((AA cpos (AH [ek,ev] X.C)).Ϛ (λx=>!x.1)&&(Gy cpos (Gz [] X.C)).Ϛ (λx=>x.1.υ) && decide ([ek,ev].a+([]:U EA).a+(if([]:U EA).Φ then 0 else 1)<30))=J':=by rfl) (j:(apos.ϯ==cpos.ϡ)=J':=by rfl) (o:AH [ek,ev] X.C=(O',Aq ek X.C)::AH [ev] X.C:=by show D2 rfl) (p:AH [ev] X.C=(O',Aq ev X.C)::AH [] X.C:=by show D2 rfl) (t:(AA cpos (AH [ev] X.C)).any (·.1)=O':=by rfl):JE X (.Ν (.γ (.β x c) "setdefault" apos) [ek,ev] [] cpos) (tX X.K M H0 (Jk i fk fv)):=#[have r:=r.h;let f:=f.h;(HG T6 T0 PySem.F.type_dict_setdefault (bN hu) (GA hN) (Z5 r (Z5 f Bn p) o) g n j o t).ζ λI H Q z0=>by
  let(T,d,ρ',R,ex,q):=z0;unfold Jk at ex;split at ex
  .next xs y dv W z B=>
   split at ex
   .next l k C E=>
    let(G,ex):=Z1 ex;rw[Dv,decide_eq_true_eq]at G;let zA:=GJ C;subst zA;let(a,vs,Y',z1,z2,z3,z4):=R.ϓ i _<|NL W;apply⟨.ref a,(AD Y'),(.inr<|.inr ⟨rfl,_,_,.inl z3⟩),T,y,R,z,λw H1 s1 P=>⟨T,dv,R.st s1,B,λv H2 L hv=>?_⟩⟩;let s:=s1.G L;let(tr,rfl,m):=Lg<|z4.same s;rw[Iw E]at P;let b:=m.val k;apply#[a,tr,k,w,v,rfl,rfl,?_,m.keys,m.hom G.1,HS<|He<|P.same L,G8 m ▸ G.2,λu N=>?_,λhn=>?_]
    .rw[<- Ix m];show s _ _ z3
    .rw[N]at b;cases e:Zs l k with|none=>rw[e]at b;show b.Δ|some d0=>
      rw[e]at b ex;ext ex;show q u H2 (R.st s) (Step.ϋ s) b
    .rw[hn]at b;cases e:Zs l k with|some d0=>rw[e]at b;show b.Δ|none=>
      rw[e]at ex;ext ex;let pp:=m.put (k:=k) (He<|P.η L) hv;let(R3,S):=(R.st s).chg (fl2:=.d) (ys:=Zb<|ZU l k d) (ws:=Ep<|EN tr k w v) (NL W) (AD Y') pp.flat;rw[Ix pp]at R3 S;show q v _ R3 ((Step.ϋ s).G S)<|Au.Μ S d v hv
   .cases ex
  .cases ex]
def N9(fx:VE->O (D×VE))(g:Az):VE->O (j'×VE):=λc=>match fx c with
 |some (d,a)=>match g a with
  |some y=>(AI (Cp d y)).j λb=>(b,a)
  |none=>J
 |none=>J
open J in
def
ul(n:X.A.ε+64<Ar)(f:JE X a (tX X.K M H0 fx))(i:JE X b (tP X.K M H0 g)):JT X (.Κ a [.NotEq] [b] pos) (bX X.K M H0 (N9 fx g)):=#[have f:=f.h;let i:=i.h;(YA (TB n) f i<|G9 _ (by ext) (by ext)).mono λo H Q r=>by
 let(s,l,c,R,ex,q):=r;unfold N9 at ex;split at ex
 .next d t x=>
  split at ex
  .next y z=>
   let(F,B,ex):=B2.mp ex;ext ex;apply#[s,d,c,R,x,λv L j C hv=>#[c,y,j,z,λu E e k=>?_]];show TC (Nf M c o) E v u d y (.bl l) _ (j.st e).nh (hv.p.η e) k (Mg B) λw G m N=>by
    show#[l,N,q G ((j.st e).st m)<|C.G<|Step.ϋ<|e.G m]
  .cases ex
 .cases ex]
def Qt(c:O (j'×VE))(b d:As):Dp:=match c with
 |some (J',a)=>b a
 |some (O',a)=>d a
 |none=>.Ρ
def
um{c:Expr}{s1 s2:U AE}{t:VE->O (j'×VE)}{f g:As}(hc:JT X c (bX K M H0 t))(b:JB X s1 (tS K M H0 f))(d:JB X s2 (tS K M H0 g)):JS X (.If c s1 s2 pos) (tS K M H0 λρ=>Qt (t ρ) f g):=#[have hc:=hc.h;let b:=b.h;let d:=d.h;(Pp hc b d).ζ λl m H j=>by
 let(ρ,R,q):=j;try dsimp only at q
 cases e:t ρ with|none=>rw[e]at q;show B6 q|some p=>
  let(k,a):=p;rw[e]at q;apply#[ρ,k,a,R,e,λn i S=>?_];cases k with
  |true=>apply K4 ?_;show#[a,i,Bu.xv S q]
  |false=>apply K5 ?_;show#[a,i,Bu.xv S q]]
end
open PySem.W
section
variable(lt:Y->Y->j')
structure WO(n:Y):V' where
 asym:∀a b,a<n->b<n->lt a b=J'->lt b a=O'
 neg:∀a b c,a<n->b<n->c<n->lt a c=J'->lt a b=J'\/lt b c=J'
def Fd(a b:Y):V':=lt b a=O'
end
variable {lt:Y->Y->j'}{n:Y}(W:WO lt n)
include W
def
WO.refl{a:Y}(b:a<n):Fd lt a a:=by
 unfold Fd;cases h:lt a a with
 |false=>rfl
 |true=>have:=W.asym a a b b h;rw[h]at this;ext this
def
WO.trans{a b c:Y}(f:a<n)(g:b<n)(hc:c<n)(d:Fd lt a b)(e:Fd lt b c):Fd lt a c:=by
 unfold Fd at *;cases h:lt c a with|false=>rfl|true=>
  rcases W.neg c b a hc g f h with z|z
  .rw[z]at e;ext e
  .rw[z]at d;ext d
def
WO.of_lt{a b:Y}(c:a<n)(d:b<n)(h:lt a b=J'):Fd lt a b:=W.asym a b c d h
end
abbrev Bv(p:Array Y)(i:Y):Y:=p.B i 0
def IA(lt:Y->Y->j')(p:Array Y)(k:Y):V':=∀i j,i<=j->j<k->Fd lt (Bv p i) (Bv p j)
def J6(lt:Y->Y->j')(p:Array Y)(k:Y):V':=∀i j,i<=j->j<k->Fd lt (Bv p j) (Bv p i)
def Eqv(lt:Y->Y->j')(a b:Y):V':=Fd lt a b/\Fd lt b a
def Bs(n:Y)(p:Array Y):V':=p.Perm (AW n).E
def
Bs.size{n:Y}{p:Array Y}(h:Bs n p):p.y=n:=by have:=h.size_eq;exists this
def
Bs.lt{n:Y}{p:Array Y}(h:Bs n p){i:Y}(c:i<n):Bv p i<n:=by
 let b:i<p.y:=KQ c h.y.Ζ;have:=(h.ϖ (a:=p[i])).mp (Array.getElem_mem b);simp_all
def
Oa{p q:Array Y}{i j:Y}(h:p[i]?=q[j]?):Bv p i=Bv q j:=by
 simp_all
def
Ob{p:Array Y}{i j:Y}(a:j<=p.y)(k:Y):Bv (kas_rev p i j) k=if i<=k/\k<j then Bv p (i+j-1-k)else Bv p k:=by
 have:=getElem?_mirror_all (xs:=p) (i:=i) (j:=j) a k;by_cases h:i<=k/\k<j
 .rw[if_pos h]at this ⊢;show Oa this
 .rw[if_neg h]at this ⊢;show Oa this
def
bZ{p:Array Y}{k d:Y}(b:k<p.y)(hd:d<=k)(i:Y):Bv (bubble p k d) i=if i=k-d then Bv p k else if k-d<i/\i<=k then Bv p (i-1)else Bv p i:=by
 have:=getElem?_bubble (xs:=p) (src:=k) b d hd i;by_cases h:i=k-d
 .rw[if_pos h]at this ⊢;show Oa this
 .rw[if_neg h]at this ⊢;by_cases a:k-d<i/\i<=k
  .rw[if_pos a]at this ⊢;show Oa this
  .rw[if_neg a]at this ⊢;show Oa this
def
Bs.rev{n:Y}{p:Array Y}(h:Bs n p)(i j:Y):Bs n (kas_rev p i j):=(mirror_perm p i j _).G h
def
Bs.bub{n:Y}{p:Array Y}(h:Bs n p)(k d:Y):Bs n (bubble p k d):=(bubble_perm p k d).G h
variable {lt:Y->Y->j'}{n:Y}(W:WO lt n){cmp:Y->Y->(j'->Ab->V')->Ab->V'}{s:Ab}(hc:∀i j C,i<n->j<n->C (lt i j) s->cmp i j C s)
include W hc
open J in
def
T7{p:Array Y}(hp:Bs n p):∀(f m:Y){Q:Y->Ab->V'},1<=m->m+f<=n->IA lt p m->(∀g,m<=g->g<=m+f->IA lt p g->(g=m+f\/lt (Bv p g) (Bv p (g-1))=J')->Q g s)->D7 cmp (kas_asc p f m) Q s
 |0,m,Q,l,o,h,q=>by
  rw[kas_asc,D7];show q m (Bg _) (Qo m 0) h<|.O rfl
 |f+1,m,Q,l,o,h,q=>by
  rw[kas_asc,D7];apply hc _ _ _ (hp.lt<|EF o) (hp.lt ∅) ?_;cases r:lt (Bv p m) (Bv p<|m-1)with
  |true=>
   erw[if_true,D7];show q m (Bg _) (Qo m<|f+1) h<|.ρ r
  |false=>
   erw[F5,if_false];apply T7 hp f (m+1) (KY l) ∅ (λi j k t=>?_) λg a b c d=>q g (Nat.le_of_succ_le a) ∅ c (by rcases d with d|d;show .O ∅;show .ρ d);rcases Lk j m with z|z
   .show h i j k z
   .let e:j=m:=T8 z t;subst e;rcases Lk i j with y|y
    .show W.G (hp.lt ∅) (hp.lt (i:=j-1) ∅) (hp.lt<|EF o) (h i (j-1) ((Qi l).Ϣ y)<|Nat.sub_one_lt_of_lt l) r
    .let e:i=j:=Oc k y;subst e;show W.σ<|hp.lt<|EF o
def
T9{p:Array Y}(hp:Bs n p){i j:Y}(e:i<j)(f:j<=n)(d:∀k,i<=k->k<j->Eqv lt (Bv p k) (Bv p (j-1)))(k:Y)(c:k<n):Eqv lt (Bv (kas_rev p i j) k) (Bv p k):=by
 rw[Ob<|hp.y ▸ f];by_cases h:i<=k/\k<j
 .rw[if_pos h];let a:=d (i+j-1-k) ∅ ∅;let b:=d k h.1 h.2;show#[W.G (hp.lt ∅) (hp.lt ∅) (hp.lt<|Nat.lt_of_succ_le c) a.1 b.2,W.G (hp.lt<|Nat.lt_of_succ_le c) (hp.lt ∅) (hp.lt ∅) b.1 a.2]
 .rw[if_neg h];show#[W.σ<|hp.lt c,W.σ<|hp.lt c]
def
b2{p q:Array Y}(hp:Bs n p)(c:Bs n q){k:Y}(b:k<=n)(e:∀i,i<n->Eqv lt (Bv q i) (Bv p i))(h:J6 lt p k):J6 lt q k:=λi j d a=>W.G (c.lt<|BM a b) (hp.lt (i:=j) (BM a b)) (c.lt ∅) (e j<|BM a b).1 (W.G (hp.lt<|BM a b) (hp.lt (i:=i) ∅) (c.lt ∅) (h i j d a) (e i ∅).2)
open J in
def
Qu:∀(f:Y)(p:Array Y)(m q:Y){Q:Array Y×Y×Y->Ab->V'},Bs n p->1<=m->m+f<=n->q+1<=m->J6 lt p m->(∀i,m-(q+1)<=i->i<m->Eqv lt (Bv p i) (Bv p (m-1)))->(∀o t M,Bs n o->m<=t->t<=m+f->M+1<=t->J6 lt o t->(∀i,t-(M+1)<=i->i<t->Eqv lt (Bv o i) (Bv o (t-1)))->Q (o,t,M) s)->D7 cmp (kas_desc f p m q) Q s
 |0,p,m,q,Q,hp,u,r,N,v,x,w=>by
  rw[kas_desc,D7];show w p m q hp (Bg _) (Qo m 0) N v x
 |f+1,p,m,q,Q,hp,u,r,N,v,x,w=>by
  rw[kas_desc,D7];apply hc _ _ _ (hp.lt<|EF r) (hp.lt ∅) ?_;let step:∀(o:Array Y),Bs n o->J6 lt o m->Fd lt (Bv o m) (Bv o<|m-1)->J6 lt o (m+1):=λo l h L i j A P=>by
   rcases Lk j m with z|z
   .show h i j A z
   .let e:j=m:=T8 z P;subst e;rcases Lk i j with y|y
    .show W.G (l.lt<|EF r) (l.lt (i:=j-1) ∅) (l.lt ∅) L (h i (j-1) ((Qi u).Ϣ y)<|Nat.sub_one_lt_of_lt u)
    .let e:i=j:=Oc A y;subst e;show W.σ<|l.lt<|EF r
  cases L:lt (Bv p m) (Bv p<|m-1)with
  |true=>
   let B:=W.of_lt (hp.lt<|EF r) (hp.lt ∅) L;erw[if_true];let C:∀(o:Array Y),Bs n o->∀i,m+1-(0+1)<=i->i<m+1->Eqv lt (Bv o i) (Bv o<|m+1-1):=λo l i a b=>by
    let e:i=m:=T8 a b;subst e;show#[W.σ<|l.lt<|EF r,W.σ<|l.lt<|EF r]
   by_cases T:q>0
   .erw[T,if_true];let l:=hp.rev (m-(q+1)) m;let E:=T9 W hc hp (i:=m-(q+1)) (j:=m) ∅ (Tb r) x;let K:=b2 W hc hp l (k:=m) (Tb r) (λi Y'=>E i Y') v;let em:Bv (kas_rev p (m-(q+1)) m) m=Bv p m:=by rw[Ob (by rw[hp.y];show Tb r),if_neg ∅]
    let G:Fd lt (Bv (kas_rev p (m-(q+1)) m) m) (Bv (kas_rev p (m-(q+1)) m)<|m-1):=by
     rw[em];show W.G (hp.lt<|EF r) (hp.lt ∅) (l.lt ∅) B (E (m-1) ∅).2
    show Qu f _ (m+1) 0 l (KY u) ∅ (KY u) (step _ l K G) (C _ l) λH R F a b c d e g=>w H R F a (Nat.le_of_succ_le b) ∅ d e g
   .erw[T,if_false];show Qu f _ (m+1) 0 hp (KY u) ∅ ∅ (step _ hp v B) (C _ hp) λH R F a b c d e g=>w H R F a ∅ ∅ d e g
  |false=>
   erw[F5,if_false,D7];apply hc _ _ _ (hp.lt ∅) (hp.lt ∅) ?_;cases hd:lt (Bv p<|m-1) (Bv p m)with
   |true=>
    erw[if_true,D7];show w p m q hp (Bg _) ∅ N v x
   |false=>
    erw[F5,if_false];apply Qu f _ (m+1) (q+1) hp ∅ ∅ ∅ (step _ hp v hd) (λi a b=>?_) λH R F a b c d e g=>w H R F a ∅ ∅ d e g;change Eqv lt (Bv p i)<|Bv p m
    rcases Lk i m with z|z
    .have:=x i ∅ z;show#[W.G (hp.lt ∅) (hp.lt (i:=m-1) ∅) (hp.lt ∅) this.1 L,W.G (hp.lt ∅) (hp.lt (i:=m-1) ∅) (hp.lt ∅) hd this.2]
    .let e:i=m:=∅
     subst e;show#[W.σ<|hp.lt ∅,W.σ<|hp.lt ∅]
def
b4{p:Array Y}{m e:Y}{Q:Y×Array Y->Ab->V'}(hp:Bs n p)(g:1<=m)(l:m<=e)(o:e<=n)(h:J6 lt p m) (q:∀d f,Bs n f->1<=d->d<=e->IA lt f d->Q (d,f) s):D7 cmp (kas_tail3 m e p) Q s:=by
 unfold kas_tail3;rw[Qv];apply T7 W hc (hp.rev 0 m) (e-m) m g ∅ (λi j k r=>?_) λd a b c _=>?_
 .rw[Ob (by rw[hp.y];lia),Ob (by rw[hp.y];lia),if_pos ∅,if_pos ∅];show h (0+m-1-j) (0+m-1-i) ∅ ∅
 .rw[D7];show q d _ (hp.rev 0 m) ∅ ∅ c
def
uo{p:Array Y}{m f:Y}{Q:Y×Array Y->Ab->V'}(hp:Bs n p)(u:m+1<=f)(k:f<=n)(o:J6 lt p (m+1)) (q:∀h j,Bs n j->1<=h->h<=f->IA lt j h->Q (h,j) s):D7 cmp (kas_descPart m f p) Q s:=by
 unfold kas_descPart;rw[Qv];apply Qu W hc (f-(m+1)) p (m+1) 0 hp ∅ ∅ ∅ o (λi a b=>?_) λj h r a b c d e g=>?_
 .let e:i=m:=∅
  subst e;show#[W.σ<|hp.lt ∅,W.σ<|hp.lt ∅]
 .by_cases l:r>0
  .erw[l,if_true];show b4 W hc (a.rev _ _) ∅ ∅ k (b2 W hc a (a.rev _ _) ∅ (λi t=>T9 W hc a ∅ ∅ g i t) e) q
  .erw[l,if_false];show b4 W hc a ∅ ∅ k e q
def
uq{p:Array Y}{Q:Y×Array Y->Ab->V'}(hp:Bs n p)(C:1<=n)(q:∀v g,Bs n g->1<=v->v<=n->IA lt g v->Q (v,g) s):D7 cmp (kas_count n p) Q s:=by
 unfold kas_count;rw[Qv];apply T7 W hc hp (n-1) 1 (Nat.le_of_ble_eq_true rfl) ∅ (λi j o w=>?_) λm a b c d=>?_
 .let e:i=0:=∅
  let G:j=0:=Nat.lt_one_iff.mp w;subst e G;show W.σ<|hp.lt<|Mx C
 .by_cases x:m=n
  .subst x;erw[beq_self_eq_true,if_true,D7];show q m p hp a (Bg m) c
  .let u:lt (Bv p m) (Bv p<|m-1)=J':=by
    rcases d with d|d
    .show absurd ∅ x
    .show d
   erw[show(m==n)=O' by simpa using x,F5,if_false];let l:∀(g:Array Y),Bs n g->(∀i,i<m->Eqv lt (Bv g i) (Bv g<|m-1))->lt (Bv g m) (Bv g<|m-1)=J'->D7 cmp (kas_descPart m n g) Q s:=λg f r H=>
    uo W hc f ∅ (Bg n) (λi j o w=>by
     rcases Lk j m with z|z
     .show W.G (f.lt ∅) (f.lt (i:=m-1) ∅) (f.lt ∅) (r j z).1 (r i<|Hg o z).2
     .let e:j=m:=T8 z w;subst e;rcases Lk i j with y|y
      .show W.G (f.lt ∅) (f.lt (i:=j-1) ∅) (f.lt ∅) (W.of_lt (f.lt ∅) (f.lt ∅) H) (r i y).2
      .let e:i=j:=Oc o y;subst e;show W.σ<|f.lt ∅) q
   by_cases A:m>1
   .erw[A,if_true,D7];apply hc _ _ _ (hp.lt<|Mx C) (hp.lt ∅) ?_;cases F:lt (Bv p 0) (Bv p<|m-1)with
    |true=>
     show q m p hp a ∅ c
    |false=>
     let f:=hp.rev 0 m;let r:∀i,i<m->Eqv lt (Bv p i) (Bv p<|m-1):=λi t=>#[c i (m-1) ((Qi a).Ϣ t)<|Nat.sub_one_lt_of_lt a,W.trans (hp.lt ∅) (hp.lt (i:=0) ∅) (hp.lt ∅) F (c 0 i ∅ t)];let h:=λk B=>T9 W hc hp (i:=0) (j:=m) ∅ ∅ (λk _ B=>r k B) k B;apply l _ f (λi t=>?_) ?_
     .let E:=h (m-1) ∅;show#[W.G (f.lt ∅) (hp.lt (i:=i) ∅) (f.lt ∅) (h i ∅).1 (W.G (hp.lt ∅) (hp.lt (i:=m-1) ∅) (f.lt ∅) (r i t).1 E.2),
       W.G (f.lt ∅) (hp.lt (i:=m-1) ∅) (f.lt ∅) E.1 (W.G (hp.lt ∅) (hp.lt (i:=i) ∅) (f.lt ∅) (r i t).2 (h i ∅).2)]
     .rw[show Bv (kas_rev p 0 m) m=Bv p m by rw[Ob (by rw[hp.y];lia),if_neg ∅]];rcases W.neg (Bv p m) (Bv (kas_rev p 0 m)<|m-1) (Bv p<|m-1) (hp.lt ∅) (f.lt ∅) (hp.lt ∅) u with z|z
      .show z
      .have:=(h (m-1) ∅).2;unfold Fd at this;rw[z]at this;ext this
   .let e:m=1:=∅
    subst e;apply l p hp (λi t=>?_) u;let e:i=0:=∅
    subst e;show#[W.σ<|hp.lt ∅,W.σ<|hp.lt ∅]
open J in
def
Ua{p:Array Y}(hp:Bs n p){k:Y}(g:k<n)(h:IA lt p k):∀(f l r:Y){Q:Y->Ab->V'},l<=r->r<=k->r<=l+f->(∀i,i<l->Fd lt (Bv p i) (Bv p k))->(∀i,r<=i->i<k->lt (Bv p k) (Bv p i)=J')->(∀j,j<=k->(∀i,i<j->Fd lt (Bv p i) (Bv p k))->(∀i,j<=i->i<k->lt (Bv p k) (Bv p i)=J')->Q j s)->D7 cmp (kas_place p k f l r) Q s
 |0,l,r,Q,u,m,v,o,t,q=>by
  rw[kas_place,D7];let e:l=r:=Oc u v;subst e;show q l m o t
 |f+1,l,r,Q,u,m,v,o,t,q=>by
  rw[kas_place];by_cases c:l≥r
  .let e:l=r:=Oc u c;subst e;rw[if_pos c,D7];show q l m o t
  .rw[if_neg c,D7];apply hc _ _ _ (hp.lt g) (hp.lt ∅) ?_;cases w:lt (Bv p k) (Bv p<|(l+r)/2)with
   |true=>
    erw[if_true];apply Ua hp g h f l ((l+r)/2) ∅ ∅ ∅ o (λi a b=>?_) q;let d:=h ((l+r)/2) i a b;rcases W.neg (Bv p k) (Bv p i) (Bv p<|(l+r)/2) (hp.lt g) (hp.lt<|I0 b g) (hp.lt ∅) w with z|z
    .show z
    .unfold Fd at d;rw[z]at d;cases d
   |false=>
    erw[F5,if_false];apply Ua hp g h f ((l+r)/2+1) r ∅ m ∅ (λi a=>?_) t q;show W.G (hp.lt ∅) (hp.lt (i:=(l+r)/2) ∅) (hp.lt g) (h i ((l+r)/2) (Nat.le_of_lt_succ a) ∅) w
open J in
def
b5:∀(f:Y)(p:Array Y)(k:Y){Q:Array Y->Ab->V'},Bs n p->k+f=n->IA lt p k->(∀t,Bs n t->IA lt t n->Q t s)->D7 cmp (kas_bin f p k) Q s
 |0,p,k,Q,hp,v,g,q=>by
  rw[kas_bin,D7];let e:k=n:=Nat.add_right_cancel v;subst e;show q p hp g
 |f+1,p,k,Q,hp,v,g,q=>by
  rw[kas_bin,Qv];apply Ua W hc hp (k:=k) ∅ g k 0 k (Fk k) (Bg _) (Nat.le_add_left k 0) (λi z=>∅) (λi a b=>∅) λl a b c=>?_;apply b5 f _ (k+1) (hp.bub _ _) ∅ (λi j h x=>?_) q;let m:k<p.y:=by rw[hp.y];lia
  let u:k-(k-l)=l:=Nat.sub_sub_self a;rw[bZ m<|Nat.sub_le k l,bZ m<|Nat.sub_le k l,u];by_cases w:i=l
  .rw[if_pos w];by_cases d:j=l
   .rw[if_pos d];show W.σ<|hp.lt ∅
   .rw[if_neg d,if_pos ∅];show W.of_lt (hp.lt ∅) (hp.lt ∅)<|c (j-1) ∅ ∅
  .rw[if_neg w];by_cases o:l<i/\i<=k
   .rw[if_pos o,if_neg ∅,if_pos ∅];show g (i-1) (j-1) (Nat.sub_le_sub_right h 1) ∅
   .rw[if_neg o];by_cases d:j=l
    .rw[if_pos d];show b i ∅
    .rw[if_neg d];by_cases r:l<j/\j<=k
     .rw[if_pos r];show g i (j-1) ∅ ∅
     .rw[if_neg r];show g i j h ∅
def
ur{Q:Array Y->Ab->V'}(g:1<=n)(q:∀f,Bs n f->IA lt f n->Q f s):D7 cmp (kas_sort n) Q s:=by
 unfold kas_sort;rw[Qv];apply uq W hc (p:=(AW n).E) (Array.Perm.σ _) g λm f a b c d=>?_;by_cases h:m<n
 .erw[h,if_true];let e:max m 1=m:=Nat.max_eq_left b;rw[e];show b5 W hc (n-m) f m a (Nat.add_sub_of_le c) d q
 .let e:m=n:=∅
  subst e;erw[Hz,if_false,D7];show q f a d
end
variable {prog:AS}{w:Ai}{A:Ag}{s:Ab}
def
uu{l b:Ac}{a:Array Aa}{r:j'}{n n2:Y}{f c:O Ac}{g d:Array (O Aa)}{Q:j'->Ab->V'}(e:s.u.U l=Z {cls:=.ι "list",dict:=f,data:=.ϴ items n,slots:=g})(i:s.u.U b=Z {cls:=.ι "list",dict:=c,data:=.ϴ a n2,slots:=d})(j:F7 A.in1 s items.α a.α r) (k:A.ε<Ar) (h:Q r s):wpAny (Ah prog w) A (oneLt' J' (.I l) (.I b)) Q E s:=by
 rw[oneLt'_eq];apply An<|wpAny_cRoomFor k ?_;apply An<|wpAny_callSpecialIfBound?_slot (T:="list") #[_,e,rfl] PySem.F.slot_list_lt (call_meets PySem.F.slot_list_lt #[_,e,rfl] PySem.F.entry_list_lt (PySem.F.args_list_lt_2 _ _) (aj l b items a n n2 f c g d r) #[e,i,j,?_]);show IQ h
end
variable {s:Ab}{N:Fb}
def
uv(S:Inv X pins I H s){prog:AS}{w:Ai}(A:Ag)(hu:A.ε+40<Ar)(b fin:j'){Q:j'->Ab->V'}:∀(xs ys:U D)(a c:U V)(d f:U Aa)(i:Y)(r:j'),Gc (ltN 5) xs ys=Z r->Ad X.K N H xs a->Ad X.K N H ys c->Ap a d->Ap c f->fin=decide (xs.a<ys.a)->(b=O'\/i≠0\/((∀x,xs.head?=Z x->∃n,x=.o n)/\∀y,ys.head?=Z y->∃n,y=.o n))->Q r s->KatLex prog w A b fin Q (d.zip f) i s:=by
 intro xs;induction xs with
 |nil=>
  intro ys a c d f i r h m o C E t T q;erw[Ad]at m;subst m;ext C;apply kat_nil ?_;cases ys with
  |nil=>erw[Gc]at h;ext h;rw[t];show q
  |cons y ys=>erw[Gc]at h;ext h;rw[t];exists q
 |cons x xs R=>
  intro ys a c d f i r h m o C E t T q;erw[Ad]at m;let(w1,t1,Y',g,G):=m;subst Y';cases C with
  |cons j F=>
   cases ys with
   |nil=>
    erw[Ad]at o;subst o;ext E;erw[Gc]at h;ext h;show kat_nil (by rw[t];exists q)
   |cons y ys=>
    erw[Ad]at o;let(w2,t2,e2,k,L):=o;subst e2;cases E with
    |cons l M=>
     let(P,h):=Z1 h;rw[Dv]at P;let v:=(N0 S ZY A x y _ _ _ _ (by unfold ZY;lia) P.1 P.2 g.p k.p j l).2.1;apply kat_cons ?_;split at h
     .next e=>
      rw[e]at v;apply v prog w _ _ ?_;unfold KatGo;show R ys _ _ _ _ (i+1) r h G L F M (by rw[t];simp) (.ρ<|.O<|B8<|Nat.zero_ne_add_one i) q
     .next e=>
      rw[Bool.not_eq_true]at e;rw[e]at v;apply v prog w _ _ ?_;apply kat_no ?_;by_cases B:(b&&i==0)=J'
      .rw[B];let u:b=J'/\i=0:=by exists B
       rcases T with z|z|⟨z1,z2⟩
       .rw[u.1]at z;ext z
       .show absurd u.2 z
       .let(n1,rfl):=z1 x rfl;let(n2,rfl):=z2 y rfl;let g1:=g.p.o;let g2:=k.p.o;subst g1 g2;let(k1,rfl):=j;let(k2,rfl):=l;ext h;show oneLt_int q
      .rw[Bool.not_eq_true]at B;rw[B];show kat_one _ _<|TL S 5 A x y _ _ _ _ r (by unfold ZY;lia) h g.p k.p j l prog w _ (PySem.W.BoolBack Q) q
def CL(b:O j')(k:D):V':=match b with
 |some J'=>∃i r,k=.S (.o i::r)
 |some O'=>∃f r,k=.S (.S f::r)
 |none=>∃r,k=.R r
abbrev Od:O j'->SortKind
 |some b=>tuples' b
 |none=>oneType'
def
CL.tup{b:j'}{k:D}(h:CL (Z b) k):∃f r,k=.S (f::r):=by
 cases b with
 |true=>let(i,r,e):=h;show#[_,_,e]
 |false=>let(i,r,e):=h;show#[_,_,e]
def
uw(S:Inv X pins I H s){prog:AS}{w:Ai}(A:Ag)(G:A.ε+40<Ar)(b r:j'){k l:D}{v x:V}{y z:Aa}{Q:j'->Ab->V'}(h:ltN 6 k l=Z r)(B:CL (Z b) k)(C:CL (Z b) l) (F:Au X.K N H k v) (L:Au X.K N H l x) (M:RelV v y) (P:RelV x z) (q:Q r s):wpAny (Ah prog w) A (keyLt' (tuples' b) y z) Q E s:=by
 let(T,R,i):=B.S;let(Y',g2,j):=C.S;subst i j;let(a1,m,i,q1,d):=F;let(a2,n,j,q2,e):=L;subst i j;ext M;ext P;let(a,f,(o1,o,_,n1,p),_):=S.ϒ q1;let(c,g,(o2,t,_,n2,u),_):=S.ϒ q2;apply kat_lt o p t u ?_;have:=uv S (prog:=prog) (w:=w) (N:=N) A G b (decide<|a.E.y<c.E.y) (Q:=Q) (T::R) (Y'::g2) m n a c 0 r h d e f g (by rw[Ce,Ce,<- f.a,<- g.a,<- d.a,<- e.a]) (by
  cases b with|false=>show .O rfl|true=>
   let(i1,_,i):=B;let(i2,_,j):=C;grind) q
 exists this
def
ux(S:Inv X pins I H s){prog:AS}{w:Ai}(A:Ag)(hu:A.ε+40<Ar)(b:O j')(r:j'){a c:D}{u v:V}{x y:Aa}{Q:j'->Ab->V'}(h:ltN 6 a c=Z r)(z:CL b a)(B:CL b c) (C:Au X.K N H a u) (G:Au X.K N H c v) (F:RelV u x) (L:RelV v y) (q:Q r s):wpAny (Ah prog w) A (keyLt' (Od b) x y) Q E s:=by
 cases b with|some b=>show uw S A hu b r h z B C G F L q|none=>
  let(g1,d):=z;let(g2,e):=B;subst d e;let(a1,vs1,d,q1,f):=C.p;let(a2,vs2,e,q2,g):=G.p;subst d e;ext F;ext L;let(M,i,((cls,dd,data,sl),n1,j,k,P,l),_):=S.Ϥ q1;let(T,m,((R,dd2,data2,sl2),n2,n,o,Y',t),_):=S.Ϥ q2;subst k l o t;show uu j n (by exists aZ S 5 (TL S 5) A (by unfold ZY;lia) g1 g2 _ _ _ _ h f g i m) ∅ q
open J in
def
uy(S:Inv X pins I H s){M:Model}(b:j'):∀(ks:U D)(kvs:U V)(us:U Aa),Ad X.K N H ks kvs->Ap kvs us->(∀k∈ks,CL (Z b) k)->∃c,KatTups s.u us c/\c.a=us.a/\∀v∈c,Looks M s.u (typeOf v) (.ι (if b then "int" else "tuple")):=by
 intro ks;induction ks with
 |nil=>
  intro kvs us d r _;erw[Ad]at d;subst d;ext r;show#[[],KatTups.ώ,rfl,λ_ h=>nomatch h]
 |cons k ks F=>
  intro kvs us d r B;erw[Ad]at d;let(v,t,e,L,P):=d;subst e;cases r with
  |cons R rt=>
   let(c,Y',h2,h3):=F t _ P rt λk l=>B k<|Bk _ l;let m:=B k Bb;let(f,g,e):=m.S;subst e;let(a,vs,e,q,dl):=L;subst e;ext R;let(its,x,(o,ho,hc,n,hd),_):=S.ϒ q;let(w,vs',e,C,_):=dl;subst e;cases x with
   |cons j rt1=>
    rename_i u us';apply#[u::c,KatTups.Α ho hc hd (by simp) Y',by simp[h2],λv hv=>?_];rcases Bw.mp hv with e|hv
    .subst e;intro A Q E s' l G;cases b with
     |true=>
      let(i,_,e):=m;ext e;let g:=C.p.o;subst g;let(t,rfl):=j;show L7 (T:="int") rfl G
     |false=>
      let(i,_,e):=m;ext e;let(a2,vs2,rfl,q2,_):=C;ext j;let(_,_,(o2,y,z,_),_):=S.ϒ q2;show L7 (T:="tuple") #[o2,l _ _ y,z] G
    .show h3 v hv
def
uz(z:Inv X pins I H s){M:Model}:∀(ks:U D)(kvs:U V)(us:U Aa),Ad X.K N H ks kvs->Ap kvs us->(∀k∈ks,CL J k)->∀u∈us,Looks M s.u (typeOf u) (.ι "list"):=by
 intro ks;induction ks with
 |nil=>
  intro kvs us d r _;erw[Ad]at d;subst d;ext r;simp_all
 |cons k ks h=>
  intro kvs us d r f;erw[Ad]at d;let(v,t,e,i,j):=d;subst e;cases r with
  |cons l rt=>
   intro u b;rcases Bw.mp b with e|b
   .subst e;let(g,rfl):=f k Bb;let(a,x,rfl,q,_):=i.p;ext l;let(_,_,(o,n,m,hc,_),_):=z.Ϥ q;intro A Q E y c w;show L7 (T:="list") #[o,c _ _ m,hc] w
   .show h t _ j rt (λk c=>f k<|Bk _ c) u b
def
uA(i:Inv X pins I H s){M:Model}{A:Ag}(b:O j')(ks:U D)(kvs:U V)(us:U Aa)(d:Ad X.K N H ks kvs)(r:Ap kvs us)(a:∀k∈ks,CL b k)(c:2<=us.a){Q:SortKind->Ab->V'}(q:Q (Od b) s):wpAny M A (keyKind' us.E) Q E s:=by
 cases b with
 |some b=>
  let(g,e,h,f):=uy i (M:=M) b ks kvs us d r a;apply kat_kind e ∅ f (by ext b<;>rfl) ?_;rw[show(Value.ι (if b=J' then "int" else "tuple") != Value.ι "tuple")=b by ext b<;>rfl];show q
 |none=>show kas_kind c (uz i ks kvs us d r a) rfl rfl q
structure Off(X:Cx)(pins:A1)(a:Ac):V' where
 nL:a≠X.C.ϐ
 s0:X.s₀.u.L.y<=a
 cl:∀x c,X.C.ϟ.X x=Z c->c≠a
 pn:∀p∈X.pn++pins,p.1≠a
 nf:a∉X.fs
def
Inv.off(f:Inv X pins I H s)(h:s.u.L.y<=a):Off X pins a where
 nL:=λe=>by have b:=f.lt;rw[<- e]at b;show absurd (BM b h)<|Hz _
 s0:=BN f.sz h;cl:=λx c e z=>by
  let(v,o,d,_):=f.Ο x c e;let b:=BX d;rw[z]at b;show absurd (BM b h)<|Hz _
 pn:=λp hp z=>by
  let b:=BX (f.pin p hp).1;rw[z]at b;show absurd (BM b h)<|Hz _
 nf:=f.nofs h
def
Inv.pin1{o:Obj}(c:Inv X pins I H s)(b:H a=J)(f:Off X pins a)(e:s.u.U a=Z o)(hc:∀v,o.data≠.Ο v):Inv X (pins++[(a,o)]) I H s:=c.pins_of λp hp=>by
  rcases C0.mp hp with hp|hp
  .show c.pin p<|DK _ hp
  .erw[Cg]at hp;subst hp;show#[e,b,f.nL,f.nf,hc]
def
Inv.catch{d:U Aa}{n:Y}(k:Inv X pins I H s)(h:H a=J)(f:Off X pins a)(e:s.u.U a=Z {cls:=.ι "list",data:=.ϴ d.E n})(hv:Ap vs d)(hz:vs.a<=Av):Inv X pins I (AL H a (.R vs)) s:=by
 let ne:∀b u,H b=Z u->b≠a:=λb u q z=>by rw[z,h]at q;ext q
 have:=k.Μ (h':=s.u) (g':=s.gens) (d':=s.drawn) (t':=s.Ε) (ch:=[a]) (H':=AL H a<|.lst vs) (λb g=>by
   let e:b=a:=by exists g
   subst e;show#[.ρ f.s0,f.nL,f.cl,f.pn]) (λb o _ _ _ q _=>q) (λb o _ _ _ q _=>#[o.slots,q]) (λb o g _ n=>by rw[Zp<|λz=>g (by simp[z])];show n) (λb o _ q=>#[o,q])
  (λb i q=>Zp (ne _ _ q) ▸ q) (λb o u q=>Zp (ne _ _ q) ▸ q) (λb y q=>#[(T' []),by rw[Zp<|ne _ _ q,q];simp]) (λm j=>j) (λb u q=>by
   by_cases g:b=a
   .subst g;rw[ZQ]at q;ext q;show#[hz,d,n,hv,e]
   .rw[Zp g]at q;show(k.ϥ b u q).stay (λc v _ r=>r) (λc r=>Zp (ne _ _ r) ▸ r) λc i r=>Zp (ne _ _ r) ▸ r) k.bare
 show this
end
def D8(F:U Sl->O Rv)(x:D):D:=((F [.r x]).j Em).B .κ
def CY(F:U Sl->O Rv)(x y:D):j':=match ltN 6 (D8 F x) (D8 F y)with
 |some J'=>J'
 |_=>O'
def
b6{F:U Sl->O Rv}{x y:D}{r:j'}(h:ltN 6 (D8 F x) (D8 F y)=Z r):CY F x y=r:=by
 unfold CY;rw[h];ext r<;>rfl
structure BE(F:List Sl->Option Rv)(xs:List D):V' where
 few:xs.a<64
 tells:∀x∈xs,∃r,F [.r x]=Z r
 mode:∃b,∀x∈xs,CL b (D8 F x)
 cmp:∀x∈xs,∀y∈xs,∃r,ltN 6 (D8 F x) (D8 F y)=Z r
 asym:∀x∈xs,∀y∈xs,CY F x y=J'->CY F y x=O'
 neg:∀x∈xs,∀y∈xs,∀z∈xs,CY F x z=J'->CY F x y=J'\/CY F y z=J'
 anti:∀x∈xs,∀y∈xs,CY F x y=O'->CY F y x=O'->x=y
def Jl(lt:D->D->j')(x:D):U D->U D
 |[]=>[x]
 |y::r=>if lt x y then x::y::r else y::Jl lt x r
def FA(lt:D->D->j'):U D->U D
 |[]=>[]
 |x::r=>Jl lt x (FA lt r)
def
Ub(lt:D->D->j')(x:D):∀l,(Jl lt x l).Perm (x::l)
 |[]=>.σ _
 |y::r=>by
  unfold Jl;split
  .show .σ _
  .show((Ub lt x r).Α y).G<|.swap x y r
def
Qw(lt:D->D->j'):∀l,(FA lt l).Perm l
 |[]=>.σ _
 |x::r=>(Ub lt x _).G<|(Qw lt r).Α x
def
b9{F:U Sl->O Rv}{xs:U D}(h:BE F xs){x:D}(d:x∈xs):∀l:U D,(∀y∈l,y∈xs)->l.Pairwise (λa b=>CY F b a=O')->(Jl (CY F) x l).Pairwise λa b=>CY F b a=O'
 |[],_,_=>by simp[Jl]
 |y::r,f,hp=>by
  let(i,j):=List.pairwise_cons.mp hp;let g:=f y Bb;unfold Jl;split
  .next c=>
   apply List.pairwise_cons.Ϣ #[λz hz=>?_,hp];rcases Bw.mp hz with e|hz
   .subst e;show h.asym x d z g c
   .cases hc:CY F z x with|false=>rfl|true=>
     rcases h.neg z (f z<|Bk _ hz) y g x d hc with q|q
     .rw[i z hz]at q;ext q
     .rw[h.asym x d y g c]at q;ext q
  .next c=>
   rw[Bool.not_eq_true]at c;apply List.pairwise_cons.Ϣ #[λz hz=>?_,b9 h d r (λz hz=>f z<|Bk _ hz) j];rcases Bw.mp ((Ub (CY F) x r).subset hz)with e|hz
   .subst e;show c
   .show i z hz
def
cc{F:U Sl->O Rv}{xs:U D}(h:BE F xs):∀l:U D,(∀y∈l,y∈xs)->(FA (CY F) l).Pairwise λa b=>CY F b a=O'
 |[],_=>.ώ
 |x::r,c=>b9 h (c x Bb) _ (λy d=>c y<|Bk _<|(Qw _ r).subset d) (cc h r λy d=>c y<|Bk _ d)
def Gf(F:U Sl->O Rv)(xs:U D):Bh:=gd (BE F xs) (Z (FA (CY F) xs))
def
BE.same{F:U Sl->O Rv}{ys:U D}(h:BE F xs)(hp:ys.Perm xs)(c:ys.Pairwise λa b=>CY F b a=O'):ys=FA (CY F) xs:=List.Perm.eq_of_pairwise (le:=λa b=>CY F b a=O') (λa b d e f g=>h.anti a (hp.subset d) b ((Qw _ xs).subset e) g f) c (cc h xs λ_ i=>i) (hp.G (Qw _ xs).Ζ)
def
uB{F:U Sl->O Rv}(h:BE F xs):Gf F xs=Z (FA (CY F) xs):=Ml h
def
Uc{F:U Sl->O Rv}{ys:U D}(h:Gf F xs=Z ys):BE F xs/\ys=FA (CY F) xs:=by grind [Gf,gd]
variable {s:Ab}{N:Fb}
def
Ud{K:Ao}{b:U D}{vs:U V}(h:Ad K N H b vs):∀(a:U Y),(∀j∈a,j<b.a)->Ad K N H (a.j λj=>b.B j .κ) (a.j λj=>vs.B j .κ)
 |[],_=>Ad.ώ
 |j::a,c=>by
  let(v,e,d):=h.Χ<|BZ<|c j Bb;show Ad.cons (by simp_all)<|Ud h a λk f=>c k<|Bk _ f
def
Oe{vs:U V}{us:U Aa}(h:Ap vs us):∀(b:U Y),Ap (b.j λj=>vs.B j .κ) (b.j λj=>us.B j .Η)
 |[]=>.ώ
 |j::b=>by
  apply .Α ?_<|Oe h b;induction h generalizing j with|nil=>simp;rfl|cons a _ c=>
   ext j<;>simp_all
def
ce(zB:Inv X pins I H s){prog:AS}{w:Ai}(A:Ag)(hu:A.ε+40<Ar){F:U Sl->O Rv}{f:U D}(h:BE F f){kvs:U V}{us items:U Aa}
  (d:Ad X.K N H (f.j (D8 F)) kvs) (r:Ap kvs us) (g:items.a=f.a) {P:PySem.Fin->Ab->V'} {T:SortSt->Sem PySem.Fin}
  (q:∀(p:U Y) (st:SortSt),p.Perm (AW f.a)->(p.j λj=>f.B j .κ)=FA (CY F) f->Array.j (λx=>x.2) (arrOf st)=(p.j λj=>items.B j .Η).E->failedOf st=J->wpAny (Ah prog w) A (T st) P E s):
  wpAny (Ah prog w) A (do
   let kind <- if items.E.y<2 then Ax general' else keyKind' us.E
   let((),s) <- (if items.E.y<2 then Ax ()else sortRuns').run (SortSt.mk' kind (us.E.zip items.E) (T' []) 7 J)
   T s) P E s:=by
 let l1:=d.a
 let l2:=r.a
 rw[Bx]at l1
 by_cases t:items.E.y<2
 .rw[if_pos t]
  erw[t,if_true]
  let hz:us.a=items.a:=∅
  rw[Ce]at t
  apply An (AV ?_)
  apply An ?_
  apply AV ?_
  apply q (AW f.a) (SortSt.mk' general' (us.E.zip items.E) (T' []) 7 J) (.σ _) ?_ ?_ rfl
  .let e:(AW f.a).j (λj=>f.B j .κ)=f:=by
    apply(Jc)
    intro i
    by_cases g:i<f.a
    .simp[g]
    .simp[g]
   rw[e]
   apply h.η (.σ _) ?_
   match f,g with
   |[],_=>show .ώ
   |[a],_=>show List.pairwise_singleton _ _
   |a::b::c,g=>simp at g;lia
  .change Array.j (λx=>x.2) (us.E.zip items.E)=_
   let e:(AW f.a).j (λj=>items.B j .Η)=items:=by
    rw[<- g]
    apply(Jc)
    intro i
    by_cases g:i<items.a
    .simp[g]
    .simp[g]
   rw[e,List.zip_toArray,List.map_toArray]
   congr 1
   show List.map_snd_zip (Nat.le_of_eq hz.Ζ)
 .rw[if_neg t]
  erw[t,if_false]
  rw[Ce]at t
  let(b,m):=h.mode
  apply An (uA zB b (f.j (D8 F)) kvs us d r (λk hk=>by
   let(x,hx,rfl):=Be.mp hk
   show m x hx) ∅ ?_)
  let hz:us.a=items.a:=∅
  let hr:=kas_range (us.E.zip items.E)
  rw[show(us.E.zip items.E).y=f.a by simp;lia]at hr
  let L:SortSt.mk' (Od b) (us.E.zip items.E) (T' []) 7 J=kas_st (Od b) (us.E.zip items.E) (AW f.a).E:=by
   unfold kas_st;rw[hr]
  apply An ?_
  rw[L]
  let W:WO (λi j=>CY F (f.B i .κ) (f.B j .κ)) f.a:=by
   let mem:∀i,i<f.a->f.B i .κ∈f:=λi g=>by
    rw[show f.B i .κ=f[i] by simp[C6,g]];show Fn g
   show#[λa b u m M=>h.asym _ (mem a u) _ (mem b m) M,λa b c u m hc M=>h.neg _ (mem a u) _ (mem b m) _ (mem c hc) M]
  let hc:∀i j (C:j'->Ab->V'),i<f.a->j<f.a->C (CY F (f.B i .κ) (f.B j .κ)) s->kas_cmp prog w A (Od b) (us.E.zip items.E) i j C s:=λi j C n o hq=>by
   unfold kas_cmp
   rw[kat_item hz,kat_item hz]
   let mem:∀i,i<f.a->f.B i .κ∈f:=λi g=>by
    rw[show f.B i .κ=f[i] by simp[C6,g]];show Fn g
   let(rr,y):=h.cmp _ (mem i n) _ (mem j o)
   rw[b6 y]at hq
   let z:∀i,i<f.a->∃v,Au X.K N H (D8 F (f.B i .κ)) v/\RelV v (us.B i .Η):=λi g=>by
    let(v,ev,dv):=d.Χ (i:=i) (d:=D8 F f[i]) (by simp[g])
    apply#[v,by rw[show f.B i .κ=f[i] by simp[C6,g]];show dv,?_]
    have:=Oe r [i]
    cases this with
    |cons a _=>
     rw[<- (show kvs.B i .κ=v by simp[C6,ev])]
     show a
   let(v1,S,zA):=z i n
   let(v2,Y',rv2):=z j o
   show ux zB A hu b rr y (m _ (mem i n)) (m _ (mem j o)) S Y' zA rv2 hq
  apply kas_runs (Q:=λ_ st B=>wpAny (Ah prog w) A (T st) P E B) (G:=λp B=>B=s/\Bs f.a p/\IA (λi j=>CY F (f.B i .κ) (f.B j .κ)) p f.a) ∅ h.few (λp st B hp u hf hg=>?_) (ur W hc ∅ λp a b=>#[rfl,a,b])
  let(rfl,hB,hS):=hg
  let l:p.α.Perm (AW f.a):=by
   have:=hB.α
   exists this
  apply q p.α st l ?_ (kat_snds hz u) hf
  apply h.η ?_ ?_
  .let e:(AW f.a).j (λj=>f.B j .κ)=f:=by
    apply(Jc)
    intro i
    by_cases g:i<f.a
    .simp[g]
    .simp[g]
   have:=l.j λj=>f.B j .κ
   rw[e]at this
   show this
  .rw[List.pairwise_map,cf]
   intro i j g R hij
   have:=hS i j (Nat.le_of_succ_le hij) (by simp at R;show KQ R hp)
   unfold Fd Bv at this
   simp at g R
   simpa[Array.getD,g,R]using this
def
uC(i:Inv X pins I H s){prog:AS}{w:Ai}(A:Ag)(f:A.ε+40<Ar){F:U Sl->O Rv}{b:U D}(h:BE F b){kvs:U V}{us items:U Aa}
  (d:Ad X.K N H (b.j (D8 F)) kvs) (r:Ap kvs us) (g:items.a=b.a) {c:Y} {e:Aa} {P:PySem.Fin->Ab->V'}
  (q:∀(p:U Y) (st:SortSt),p.Perm (AW b.a)->(p.j λj=>b.B j .κ)=FA (CY F) b->Array.j (λx=>x.2) (arrOf st)=(p.j λj=>items.B j .Η).E->failedOf st=J->wpAny (Ah prog w) A (ksk_tail a O' c e st) P E s):
  wpAny (Ah prog w) A (ksk_end a O' items.E c e us.E) P E s:=by
 unfold ksk_end
 show ce i A f h d r g q
end
variable {s:Ab}{N:Fb}
abbrev DW(a:U Aa)(n:Y):Obj:={cls:=.ι "list",data:=.ϴ a.E n}
def
Inv.rawset{c its':U Aa}{n:Y}{f:Array Aa->Array Aa}(k:Inv X pins I H s)(d:H a=J)(o:Off X pins a)(e:s.u.U a=Z (DW c n))(g:f c.E=its'.E):∃h,(s.u.Ϭ a (F4 f)).U a=Z (DW its' h)/\Inv X pins I H {s with heap:=s.u.Ϭ a (F4 f)}:=by
 let q:=PySem.IsL.Ϭ e f;rw[g]at q;show#[_,q,k.turned (t':=s.Ε) (λb u i j=>(Ta s.u (F4 f)<|B8 i).G j) d o.nL (.ρ o.s0) o.cl o.pn]
def
Ue(a:U Aa)(n:Y)(v:O Aa):(DW a n).data≠.Ο v:=nofun
def
Off.more{b:Ac}{o:Obj}(f:Off X pins a)(h:b≠a):Off X (pins++[(b,o)]) a:=#[f.nL,f.s0,f.cl,λp hp=>by
  rw[<- Jm]at hp;rcases C0.mp hp with hp|hp
  .show f.pn p hp
  .erw[Cg]at hp;subst hp;show h,f.nf]
def
Inv.pinGet{o:Obj}(b:Inv X pins I H s)(h:(a,o)∈pins):s.u.U a=Z o/\H a=J:=#[(b.pin _<|DK _ h).1,(b.pin _<|DK _ h).2.1]
def
uD{prog:AS}{w:Ai}(A:Ag){D c:Ac}{e l:Y}{us out:U Aa}{P:PySem.Fin->Ab->V'}{st:SortSt}(d:Inv X (pins++[(D,DW [] e)]++[(c,DW us l)]) I H s) (i:Off X pins D) (m:Off X pins c) (ne:D≠c) (g:us.a<=Av) (h:Array.j (λx=>x.2) (arrOf st)=out.E) (n:failedOf st=J) (hv:Ap vs out) (hz:vs.a<=Av) (q:∀j,Inv X pins I (AL H D (.R vs)) j->P (.done (.ϱ .Η)) j):wpAny (Ah prog w) A (ksk_tail D O' e (.I c) st) P E s:=by
 let(gk,o):=d.pinGet (a:=c) (DK _ Bb);let(p,hd):=d.pinGet (a:=D) (Ie _<|DK _ Bb);let(n2,u,k):=d.unpinned.rawset (f:=λ_=>(T' [])) (its':=[]) o (m.more ne) gk rfl;apply An<|Of gk rfl ?_ (by exists g) (by simp);apply An<|wpAny_letGo ?_;let(b,_):=k.pinGet (a:=D) (DK _ Bb);apply An<|seqEpoch_at b rfl ?_;let(n3,r,t):=k.unpinned.rawset (f:=λ_=>out.E) (its':=out) hd i b rfl;erw[F5,if_false,h];apply An<|Of b rfl ?_ (by simp) (by simp;show KY (show out.a<=Av by rw[<- hv.a];show hz));rw[n];erw[show(e != e)=O' by simp,F5,if_false];show AV<|q _<|t.catch hd i r hv hz
variable{k:Y}{fn:Ac}{fd:CH}{ps:U Ae}{F:U Sl->O Rv}
open J in
def
uE(m:AY X.δ X.w X.K X.mg X.ω BI k fn fd ps (AX X.K F))(i:Binds X.K fd ps [])(W:Inv X pins I H s)(A:Ag)(B:AJ k A)(C:Dj X.δ X.w X.K X.mg X.ω A X.ϛ s H)(n:∀a,N a->H a≠J){x:D}{v:V}(d:Au X.K N H x v)(G:RelV v u){r:Rv}(o:F [.r x]=Z r) {Q:AR} (q:∀u' h c H',Inv X pins I H' h->Aj H H'->Au X.K N H' (D8 F x) c->RelV c u'->Q u' h):wpAny (Ah X.δ X.w) A (call (.I fn) [u]) Q E s:=by
 let f:AX X.K F [v] H (λc H'=>Aj H H'/\Au X.K N H' (D8 F x) c) E0:=by
  apply#[N,[.r x],r,n,?_,o,λc H' j p=>#[j,?_]]
  .show#[v,[],rfl,d,rfl]
  .let e:D8 F x=Em r:=by unfold D8;rw[o];rfl
   rw[e];cases r with|val y=>show p|own ys t=>
    let(a,P,L,M,R,T):=p;erw[Em,Au];show#[a,P,L,.of (λz=>n a z M) R,T.nw λb i=>.O<|.O i]
 let S:([u]:U Aa).a=ps.a:=by
  have:=m.ϧ _ _ _ _ f;exists this
 apply wpAny_call<|codeAny_mono (m.run A X.stack s H ⟨[u],[]⟩ [u] [v] _ E0 B C (by exists i s [u] W.kIn (by exists S)) (.cons G .nil) f) λr h g=>?_;cases r with|error e=>show B6 g|ok t=>
  cases t with
  |ret u'=>
   let(c,H',Y',l,j,hd):=W.after g;show q u' h c H' Y' j hd l
  |next=>show B6 g
  |brk=>show B6 g
  |cont=>show B6 g
open J in
def
Aj.none{H H':Hp}(h:Aj H H'){a:Ac}(e:H' a=J):H a=J:=by
 cases q:H a with
 |none=>rfl
 |some o=>rw[h a o q]at e;ext e
def
uF(Fo:AY X.δ X.w X.K X.mg X.ω BI k fn fd ps (AX X.K F))(hb:Binds X.K fd ps [])(A:Ag)(hr:AJ k A)(hu:A.ε+40<Ar)(hA:∀s H,Dj X.δ X.w X.K X.mg X.ω X.A X.ϛ s H->Dj X.δ X.w X.K X.mg X.ω A X.ϛ s H)
  {g h:Ac} {B e0:Y} (zA:Inv X (pins++[(g,DW [] B)]++[(h,DW [] e0)]) I H s) (nh:∀a,N a->H a≠J) {items:U Aa} {xs:U V} {c:U D} (fD:Off X pins g) (C:Off X pins h) (ne:g≠h) (G:Ap xs items) (L:Ad X.K N H c xs) (ok:BE F c) {P:PySem.Fin->Ab->V'} (q:∀m H' vs,Inv X pins I (AL H' g (.R vs)) m->Aj H H'->H' g=J->Ad X.K N H' (FA (CY F) c) vs->P (.done (.ϱ .Η)) m):
  wpAny (Ah X.δ X.w) A (ksk_rest g (.I fn) O' items.E B (.I h)) P E s:=by
 let l1:=L.a
 let l2:=G.a
 let few:=ok.few
 let hsl:Av=16777216:=IT
 apply An (JQ ?_)
 apply An (wpAny_forIn_array' _ (λAF _ m=>∃(done:U Aa) (H':Hp) (i:U Aa) (d:U V) (M:Y),items=done++AF/\i.a=done.a/\Inv X (pins++[(g,DW [] B)]++[(h,DW i M)]) I H' m/\Aj H H'/\Ap d i/\Ad X.K N H' ((c.ϣ done.a).j (D8 F)) d) _ ?_ ?_ items.E PUnit.unit ?_)
 .intro u AF b s1 zQ;let(done,H1,i,d,M,o,hl,l,sm,S,t):=zQ
  let Q:done.a<c.a:=by
   grind
  let y:c[done.a]?=Z c[done.a]:=BZ Q
  generalize c[done.a]=x at y
  let(v,hv,dv):=L.Χ y
  let ru:RelV v u:=by
   have:=Oe G [done.a]
   cases this with
   |cons a _=>
    simp_all
  let(r,hF):=ok.tells x (Ej y)
  apply An (wpAny_attempt ?_)
  apply uE (N:=N) Fo hb l A hr (hA _ _ l.env0) (λa T z=>nh a T (sm.Η z)) (dv.η sm) ru hF λW s2 v' H2 I2 n Y' rv2=>?_
  let(gk,hk):=I2.pinGet (a:=h) (DK _ Bb)
  let(n3,g3,I4):=I2.unpinned.rawset (f:=λx=>x.ύ W) (its':=i++[W]) hk (C.more ne) gk (by simp)
  apply An (Of gk rfl ?_ (by simp;lia) (by simp;lia))
  apply AV ?_
  apply#[done++[u],H2,i++[W],d++[v'],n3,by rw[o];simp,by simp[hl],I4.pin1 hk (C.more ne) g3 (Ue _ _),sm.G n,S.Β (.Α rv2 .ώ),?_]
  let e:(c.ϣ (done++[u]).a).j (D8 F)=(c.ϣ done.a).j (D8 F)++[D8 F x]:=by
   rw[E8,JU,List.take_succ,y]
   simp
  rw[e]
  show(t.η n).Β (Ad.Α Y' Ad.ώ)
 .intro b s1 zQ;let(done,H1,i,d,M,o,hl,l,sm,S,t):=zQ
  rw[Eh]at o
  subst o
  let(gk,hk):=l.pinGet (a:=h) (DK _ Bb)
  let(gd',hd):=l.pinGet (a:=g) (Ie _ (DK _ Bb))
  apply An (listItems_at gk rfl ?_)
  rw[N3 ∅]at t
  apply uC (N:=N) l A hu ok t S ∅ λp st hp hs T hf=>?_
  let hpl:p.a=c.a:=by have:=hp.ϗ;exists this
  apply uD A l fD C ne ∅ T hf (Oe G p) (by rw[Bx];lia) λm R=>?_
  apply q m H1 _ R sm hd ?_
  rw[<- hs]
  show Ud (L.η sm) p λj hj=>by have:=hp.subset hj;exists this
 .show#[[],H,[],[],e0,by simp,rfl,zA,Aj.σ H,.ώ,Ad.ώ]
def
uG(G:AY X.δ X.w X.K X.mg X.ω BI k fn fd ps (AX X.K F))(B:Binds X.K fd ps [])(A:Ag)(L:AJ k A)(M:A.ε+40<Ar)(R:∀s H,Dj X.δ X.w X.K X.mg X.ω X.A X.ϛ s H->Dj X.δ X.w X.K X.mg X.ω A X.ϛ s H) (W:Inv X pins I H s) (Q:∀a,N a->H a≠J) {c:Ac} {items:U Aa} {xs:U V} {j:U D} (g:s.u.U c=Z (DW items n0)) (r:H c=J) (l:Off X pins c) (t:Ap xs items) (v:Ad X.K N H j xs) (ok:BE F j) {P:PySem.Fin->Ab->V'} (q:∀y H' vs,Inv X pins I (AL H' c (.R vs)) y->Aj H H'->H' c=J->Ad X.K N H' (FA (CY F) j) vs->P (.done (.ϱ .Η)) y):wpAny (Ah X.δ X.w) A (ksk_tree c (.I fn) O') P E s:=by
 let l1:=v.a;let l2:=t.a;let few:=ok.few;let T:Av=16777216:=IT;apply An<|listItems_at g rfl ?_;let(n1,z,S):=W.rawset (f:=λ_=>(T' [])) (its':=[]) r l g rfl;apply An<|Of g rfl ?_ (by simp;lia) (by simp);apply An<|seqEpoch_at z rfl ?_;apply An<|wpAny_newTuple ?_ (by simp;lia);generalize m:({heap:=s.heap.update c<|F4 λx=>(T' []),gens:=s.gens,drawn:=s.drawn,toks:=s.Ε,os:=s.os}:Ab)=d at *;let n:=S.ϭ (t':=d.Ε) (λb u e=>BR {cls:=.ι "tuple",data:=.ϴ items.E} e);generalize p:({heap:=d.u.ύ {cls:=.ι "tuple",data:=.ϴ items.E},gens:=d.gens,drawn:=d.drawn,toks:=d.Ε,os:=d.os}:Ab)=i at *;let h:i.u.U c=Z (DW [] n1):=p ▸ (BR {cls:=.ι "tuple",data:=.ϴ items.E} (show d.u.U c=Z (DW [] n1) by rw[<- m];show z));apply An<|wpAny_newList ?_ (by simp);let C:=n.off<|Bg i.heap.objs.size;show F2<|uF (N:=N) G B A L M R (((n.kept (t':=i.toks) (λb u e=>BR (DW [] 0) e)).pin1 r l (BR (DW [] 0) h) (Ue _ _)).pin1 n.Ξ (C.more<|Cq<|BX h) (CD i.u (o:=DW [] 0) rfl) (Ue _ _)) Q l C (Cq<|BX h) t v ok q
def
uH(r:AY X.δ X.w X.K X.mg X.ω BI k fn fd ps (AX X.K F))(j:Binds X.K fd ps [])(m:AJ (k+2) X.A)
  (S:Inv X pins I H s) (t:∀a,N a->H a≠J) {xs:U V} {h:U D} (v:Ca X.K H a xs) (x:Ad X.K N H h xs) (ok:BE F h)
  (q:∀f vs H',Aj H H'->H f=J->H' f=Z (.R vs)->Ad X.K (λb=>N b\/b=f) H' (FA (CY F) h) vs->Q (.I f) H'):
  wpAny (Ah X.δ X.w) X.A (call (.Γ "sorted") [.I a] [("key",.I fn)]) (EP X pins I Q) X.xe s:=by
 let(c,p,(o,n,B,hc,C,hd),hz):=S.Ϥ v
 let l2:=p.a
 apply wpAny_call (codeAny_call_builtin plain_sorted entry_sorted ?_)
 apply AV ?_
 change wpAny _ _ (do checkCount "sorted" 1 1 1;let y <- collect (.I a);let l <- newList y;let _ <- D1 [l] (call (.Γ "list.sort") [l] [("key",.I fn)]);ret l) _ _ _
 apply An (AV ?_)
 apply An (wpAny_collect_seq a (T:="list") (.O rfl) B hc hd (λE G=>?_) (by simp;lia))
 let d:=S.ϭ (t':=s.Ε) G
 apply An (wpAny_newList ?_ (by simp;lia))
 generalize P:({heap:=E,gens:=s.gens,drawn:=s.drawn,toks:=s.Ε,os:=s.os}:Ab)=i at *
 let g:=CD i.u (o:=DW c 0) rfl
 apply An (F2 ?_)
 apply wpAny_call (codeAny_call_builtin PySem.F.slot_list_sort.plain PySem.F.entry_list_sort ?_)
 apply PySem.F.slot_list_sort.check _ _ _ _ _ _ _ _ #[_,g,rfl] rfl ?_
 apply uG (N:=N) r j X.A.in1.in1 m.in1.in1 ?_ (λs H e=>e.in1.in1) (d.ϭ (t':=i.Ε) (λb u e=>BR (DW c 0) e)) t g d.Ξ (d.off (Bg i.u.L.y)) p x ok λs' H' vs L sm R Y'=>?_
 .have:=m.un;change X.A.ε+1+1+40<_;lia
 .apply AV ?_
  apply#[.I _,_,L,rfl,q _ vs _ (λb u e=>?_) d.Ξ ZQ ?_]
  .rw[Zp (λz=>by rw[z,d.Ξ]at e;ext e)];show sm b u e
  .show Ad.Μ (M:=λ_=>False) #[λb u e z=>by
    rw[Zp (λz=>by rw[z,R]at e;ext e)];show e,λb j=>by
    grind] _ _ Y'
end
variable {M:Fb}{k:Y}{fn:Ac}{fd:CH}{ps:U Ae}{F:U Sl->O Rv}{e:Expr}{f:Az}{x:Ae}{p kpos:AC}
def Ll(F:U Sl->O Rv)(f:Az):VE->Bh:=λa=>match f a with
 |some (.lst b)=>Gf F b
 |_=>J
open J in
def
uI(W:AY X.δ X.w X.K X.mg X.ω BI k fn fd ps (AX X.K F))(Y':AJ (k+2) X.A)(hg:Gl X x)(hm:X.mg x=J)(hv:Fs x=Z (.Γ "sorted"))(l:Gl X y)(m:X.mg y=Z (.I fn))(hb:Binds X.K fd ps [])(n:JE X e (tP X.K M H0 f)) (hn:x≠"__name__":=by ext) (o:Ew x:=by ext) (d:Ew y:=by ext) (G:AH [e] X.C=(O',Aq e X.C)::AH [] X.C:=by show D2 rfl):JE X (.Ν (.β x p) [e] [#[Z "key",.β y p2,kpos]] pos) (tF X.K M H0 (Ll F f)):=#[have n:=n.h;by
 intro b s g H Q zA zQ;let(r,ys,R,i,q):=zQ;apply NC<|Ig zA hg hm hv ?_ hn o;unfold Ll at i;split at i
 .next P hf=>
  let(ok,rfl):=Uc i;let L:=(Z5 n (Bn (X:=X)) G) pos b s g H (λj c=>∃v,j=[v]/\Aj H c/\Ay X.K (Nf M r g) c (.R P) v) zA #[r,.R P,R,hf,λv c t d1=>#[v,rfl,t,d1]];rw[G]at L ⊢;apply callWith_builtin_kwB rfl rfl ?_;apply An<|Ba L λus t z=>?_;let(j,c,I1,r1,v,rfl,sm,a,ws,rfl,sq,dl):=z;apply An<|AV ?_;apply F2 ?_;apply An<|Ba ((pB (nm:=Z "key") (kpos:=kpos) (Ye (v:=.ref fn) (pos:=p2) l m rfl d) (pA (X:=X))) pos b t g c (λS T=>S=[.I fn]/\T=c) I1 #[rfl,rfl]) λks s2 z=>?_;let(S,T,I2,r2,rfl,rfl):=z;apply An<|AV ?_;apply AV ?_;let(u,rfl,ru):=Ft r1;let(u2,rfl,B):=Ft r2;ext B;ext ru;show uH (N:=Nf M r g) W hb Y' I2 (R.st sm).nh sq dl ok λda j H' s' C E dv=>q da j H' (sm.G s') (sm.Η C) E dv
 .cases i]
end
end Internal
variable{kvs:Internal.Br}
namespace Internal
open PySem PySem.Spec PyProof.Rows
section
def

ZCn(xs:U D):aK (.R xs)=Z xs:=rfl
end
open PySem.W
def
uJ:typeLookup (.ι "list") ("keys":Ae)=Ax J:=am_miss_of_fast (by kernel_rfl)
def
uK{prog:AS}{w:Ai}{A:Ag}{s:Ab}{f:Array Aa}{Q:O Aa->Ab->V'}(p:PlainL s.u a f)(i:A.Ϝ=J) (q:∀h' h,(∀b o,s.u.U b=Z o->h'.U b=Z o)->Q J {s with heap:=h',toks:=h}):wpAny (Ah prog w) A (getAttr? (.I a) "keys") Q E s:=by
 let((c,m,r,j),n,e,hc,hd,k):=p;subst hc hd k;let(hp,g,d,h,os):=s;let ty:∀t,(#[hp,g,d,t,os]:Ab).TypeIs (.I a) "list":=λ_=>#[_,e,rfl];let l1:=sub_AttributeError;let u:=F.Ϯ.X;let v:=F.Ϯ.J<|.I a;let l4:=am_list_getattr_none;unfold getAttr? getAttrBy? getAttrBy;repeat(any_goals(first
  |assumption
  |show ty _
  |((with_reducible show wpAny _ _ (call (Value.Γ "list.__getattribute__") _ _) _ _ _)
    apply call_meets F.Ϯ (ty _) am_entry_list_getattribute (F.args_list_getattribute_2 _ _) (meets_getattribute_miss_list a f n j "keys" _ uJ (by symm) (by symm)) #[e,i,λl x y new=>?_])
  |wp_step))
 let(z,B,ex):=new.there;unfold getattributeRaised;repeat(any_goals(wp_step))
 show q l _ new.keeps
def
cg:entryFor table "dict.update.loop"=Z F8.«dict.update.loop»:=entryFor_of_tree (by kernel_rfl)
def
cj:plainId "dict.update.loop"=J':=by symm
def
ck{K:Ao}{k:KT}{v:V}(h:BV K H k v)(s:Aj H H'):BV K H' k v:=by
 cases k with
 | «at» a=>show h
 |tup l=>let(p,e,b):=h;show#[p,e,b.η s]
def FC:Br->U D->O Br
 |a,[]=>Z a
 |a,.tup [y,d]::r=>match Dw y with
  |some k=>if D6 k a&&decide (a.a<Av)then FC (ZU a k d) r else J
  |none=>J
 |_,_=>J
def
uL{M:Model}{A:Ag}{s:Ab}{p:Ac}{a:Array Aa}{Q:U Aa->Ab->V'}(h:IsTup s.u p a)(q:Q a.α s):wpAny M A (Builtin.Dict.pairItems (.I p)) Q E s:=by
 let(o,e,hc,n,hd):=h;apply An<|L7 (T:="tuple") #[o,e,hc] ?_;apply An<|An<|wpAny_load e ?_;rw[hd];show AV<|AV q
variable {A:Ag}{it l:Ac}{N:Fb}{us:U Aa}{R:Result->Ab->V'}
open J in
def
cr(hu:A.ε+1<Ar)(hA:A.in1.Ϝ=J)(G:H a=J)(f:Gx X pins H it)(h:it≠a)(n:l≠it)(x:l≠a):∀(F:U D)(vs:U V)(ws:U Aa)(i:Y)(s:Ab)(kvs:Br)(tr:U T3)(c:Br),
  us.Ψ i=ws->Ap vs ws->Ad X.K N H F vs->PD X.K N H kvs tr->Inv X pins I (AL H a (D5 tr)) s->s.u.IsListIter it l i->s.u.IsList l us.E->FC kvs F=Z c ->
  (∀s' z,Inv X pins I (AL H a (D5 z)) s'->PD X.K N H c z->R (.ok (.ϱ .Η)) s') ->
  codeAny (Ah X.δ X.w) A (.Γ "dict.update.loop" #[[.I a,.I it,BQ (i:W'),.Η],[]]) R s
 |[],vs,ws,i,s,kvs,tr,c,hd,hv,P,m,W,j,L,g,q=>by
  ext P
  ext hv
  ext g
  apply K3 cg ?_
  let Q:us.E[i]?=J:=by
   have:=List.drop_eq_nil_iff.mp hd
   simp[this]
  apply An (wpAny_pyNext_list_end hA j L Q λh' ke=>?_)
  let M:=W.turned (t':=s.Ε) (λb o T e=>ke b o T e) (Zp h ▸ f.1) f.2.1 f.2.2.2.1 f.2.2.2.2.1 f.2.2.2.2.2
  show An (AV (AV (q _ tr M m)))
 |d::F,vs,ws,i,s,kvs,tr,c,hd,hv,P,m,W,j,L,g,q=>by
  let(v,S,rfl,d1,Y'):=P
  cases hv with
  |@cons _ u _ B rv hv'=>
  unfold FC at g
  split at g
  .cases ‹_::_=[]›
  .next y dd r e1=>
   ext e1
   cases hk:Dw y with
   |none=>rw[hk]at g;cases g
   |some k=>
    rw[hk]at g
    let(hc,g):=Z1 g
    rw[Dv,decide_eq_true_eq]at hc
    let ey:=Iw hk
    subst ey
    let(p,vs2,rfl,sq,kv,r2,rfl,dk,vv,r3,rfl,dv,rfl):=d1
    ext rv
    let hat:us.E[i]?=Z (.I p):=by
     simpa using(show(us.Ψ i)[0]?=Z (DR p) by rw[hd];rfl)
    let hd':us.Ψ (i+1)=B:=by
     rw[<- List.tail_drop,hd];rfl
    apply K3 cg ?_
    apply An (wpAny_pyNext_list_item j L hat λh' C sb=>?_)
    let M:=W.turned (t':=s.Ε) (λb o T e=>(sb.2 b T).G e) (Zp h ▸ f.1) f.2.1 f.2.2.2.1 f.2.2.2.2.1 f.2.2.2.2.2
    let(its,rv2,ht,_):=M.ϒ (sq.η (ZO G))
    let(u1,u2,rfl,r1,r2):=Pz rv2
    apply An (F2 ?_)
    apply An (wpAny_tryCatch (uL ht ?_))
    apply F2 ?_
    apply bJ J' hu M ZQ (λt ht=>ck (m.keys t ht) (ZO G)) (m.hom hc.1) (ck (HS dk) (ZO G)) r1 r2 (by have:=G8 m;lia) λh2 t2 I2 E=>?_
    rw[ni]at I2
    apply AV #[Md cj _,?_]
    apply cr hu hA G f h n x F S B (i+1) _ (ZU _ k dd) (EN tr k kv vv) c hd' hv' Y' (m.put dk dv) I2 ?_ ?_ g q
    .let(o,e,hh):=C
     show#[o,(E.2 it h).G e,hh]
    .show(L.at λo e=>(sb.2 l n).G e).at λo e=>(E.2 l x).G e
  .cases g
def
uM(hc:X.Ϫ=J')(hu:X.A.ε+64<Ar){s:Ab}(P:Inv X pins I H s){j:U D}(C:Ca X.K H l vs)(G:Ad X.K N H j vs)(u:FC [] j=Z kvs) (q:∀tr p,H p=J->PD X.K N H kvs tr->Q (.I p) (AL H p (D5 tr))):wpAny (Ah X.δ X.w) X.A (call (.ι "dict") [.I l]) (EP X pins I Q) E s:=by
 let(us,L,t,hz):=P.Ϥ C;let g:l<s.u.L.y:=by let(o,n,e,_):=t;show BX e
 apply callType_codes (Q₁:=λx v=>x=.I s.u.L.y/\v={s with heap:=s.u.ύ {cls:=.ι "dict",data:=.dict (T' [])} }) F.kt_called_dict (F.kt_typeCall_dict_1 (.I l)) F.entry_dict_init (kt_code_dict_new (.I l) #[rfl,rfl]) ?_;intro x v zQ;let(rfl,rfl):=zQ;let c:PlainL (s.u.ύ {cls:=.ι "dict",data:=.dict (T' [])}) l us.E:=by
  let(o,n,e,h):=t;show#[o,n,BR _ e,h]
 apply#[#[_,CD _ rfl,rfl],F.args_dict_init_2 _ _,?_];apply An<|An<|TY ⟨_,CD _ rfl,rfl⟩ ?_;apply AV ?_;change wpAny _ _ (Builtin.Dict.updateFrom "dict.__init__" s.u.L.y (.I l) [] .Η) _ _ _
 apply An<|L7 (T:="list") (by let(o,n,e,h,_):=c;show#[o,e,h]) ?_;apply An<|uK c (P.ok.hd hc) λf y k=>?_;let m:=(P.laid (a:=s.u.L.y) (o:=D5 []) (t':=s.Ε) (λ_ _ z=>BR _ z) (Bg _) #[Fk _,beq_eq_false_iff_ne.Ϣ<|B8<|Cq P.big,List.nodup_nil,_,(T' []),0,CD _ rfl,⟨rfl,rfl,rfl⟩,rfl,rfl,rfl]).ϭ (h':=f) (t':=y) k;let i:PlainL f l us.E:=by
  let(o,n,e,h):=c;show#[o,n,k _ _ e,h]
 apply An<|JQ ?_;apply An<|Pu i.ό ?_;let d:s.u.L.y<f.L.y:=BX<|k _ _<|CD _ rfl;let B:Gx X pins H f.L.y:=m.fpOk (Bg _) (by
  have:=m.ϥ.Ξ (a:=f.L.y) (Bg _);rw[Zp<|Ii d]at this;show this)
 apply AV #[Md cj _,?_];apply cr (A:=X.A.in1) (N:=N) (us:=us) (by change X.A.ε+1+1<Ar;lia) (P.ok.hd hc) (P.ϥ.Ξ<|Bg _) B (Ii d) (Cq<|I0 g d) (Cq g) j vs us 0 _ [] [] kvs rfl L G .nil (m.kept (h':=f.push {cls:=.type "list_iterator",data:=.fields (T' [.ref l,.int 0 0])}) (t':=y) λb o e=>BR _ e) #[_,CD _ rfl,rfl,rfl] ?_ u λs' r M Y'=>?_
 .show i.ό.ύ _
 .show#[rfl,.I s.u.L.y,_,M,rfl,q r _ (P.ϥ.Ξ<|Bg _) Y']
end
def
uN:Fs "dict"=Z (.ι "dict"):=by kernel_rfl
def FV(f:Az):VE->Bh:=λa=>match f a with
 |some (.lst b)=>(FC [] b).j Zb
 |_=>J
variable {M:Fb}{e:Expr}{f:Az}{p:AC}
open J in
def
uO(hc:X.Ϫ=J')(x:X.A.ε+64<Ar)(y:Gl X "dict")(z:X.mg "dict"=J)(l:JE X e (tP X.K M H0 f))(r:AH [e] X.C=(O',Aq e X.C)::AH [] X.C:=by show D2 rfl):JE X (.Ν (.β "dict" p) [e] [] pos) (Fm .d X.K M H0 (FV f)):=#[have l:=l.h;by
 intro g s i H Q W zQ;let(j,T,R,c,q):=zQ;unfold FV at c;split at c
 .next m B=>
  let(n,hp,c):=B2.mp c;ext c;apply Call_<|Ig W y z uN<|Nv (Ba ((Z5 l (Bn (X:=X)) r) pos g s i H (λo k=>∃v,o=[v]/\Aj H k/\Ay X.K (Nf M j i) k (.R m) v) W #[j,.R m,R,B,λv k t C=>#[v,rfl,t,C]]) λS t E=>?_) (by rw[r]) rfl;let(o,k,G,F,v,rfl,sm,a,Y',rfl,L,dl):=E;let(u,rfl,N):=Ft F;ext N;apply uM hc x G L dl hp λtr b P w=>?_;have:=NJ (K:=X.K) (M:=M) (ρ:=j) (I:=i) (fl:=.d) (Q:=Q) (xs:=Zb n) (vs:=Ep tr) (p:=b) sm P w.flat q;rw[Ix w]at this;grind
 .cases c]
def
uP{K:Ao}(i:Y){x:Ae}{a:AC}(b:NV X i x:=by show EW):JS X (.Return (Z (.β x a)) pos) (tS K M H0 λρ=>Hc (E9 ρ i)):=#[aH rfl (λ_=>rfl) NL b]
end
variable {K:Ao}{M:Fb}
def
uQ{st:AE}:JS X st (tS K M H0 λ_=>.Ρ):=#[λa s b H D d ⟨c,R,q⟩=>B6 q]
end
structure uR(B:Al)(l:List Env)(e:Ac)(C fl:Aa)(h:Al):V' where
 stay:B.StaysIn h
 new:B.U e=J
 fun_:h.Ϲ B l
 rcd:∃oe vs,h.U e=Z oe/\oe.cls=C/\oe.data=.Ϙ vs/\vs[2]?=Z .Η/\(vs[1]?=Z .Η\/∃T oT ts,vs[1]?=Z (.I T)/\B.U T=J/\T≠e/\h.U T=Z oT/\oT.data=.Ϙ ts/\ts[3]?=Z fl)
variable {s:Ab}{B:Al}{l:U Env}{e:Ac}{C:Aa}
def uS(P:AS)(w:Ai)(l:U Env)(H H':Hp)(s:Al)(e C:Ac)(h:Al):V':=
 Aj H H'/\Un (Fg l) [] H H' s h/\∃B,CZ P w H' B/\(∀b o,s.U b=Z o->H b=J->b∉Fg l->B.U b=Z o)/\uR B l e (.I C) .Η h
def uT(Y':Cx)(b:A1)(I:St)(H:Hp)(C:Ac)(e:Aa)(c:Ab):V':=
 ∃a d g f,e=.I a/\Inv Y' b I d f/\Aj H d/\c.os=f.os/\AllBare c.gens/\uS Y'.δ Y'.w Y'.ϛ d g f.u a C c.u
end
def uU(Y':Cx)(a:A1)(I:St)(H:Hp)(c:Ae)(e:Aa)(b:Ab):V':=∃D,nsIn Y'.K C4 c=Z (Z (.I D))/\uT Y' a I H D e b
structure XS(Y':Cx)(K:Ao)(M:Fb)(H0:Hp)(st:AE)(h:VE->Option Ae):V' where
 h:∀pins s I H ρ c,Inv Y' pins I H s->By K M H0 ρ I H->h ρ=Z c->wpAny (Ah Y'.δ Y'.w) Y'.A (exec st Y'.C) (λ_ _=>False) (λe s'=>∃σ' H1,Aj H0 H1/\uU Y' pins σ' H1 c e s') s
variable {K:Ao}
structure XMk(K:Ao)(D:Ac):V' where
 ex:∃nm q N bs bm hdct sn sub ab col dd k0 k1 k2 k3 k5,K.X D=Z (excClassObj nm q D N bs bm hdct sn sub ab col dd k0 k1 k2 k3 k5 "ValueError.__new__")/\tailIn K [.ι "ValueError",.ι "Exception",.ι "BaseException",.ι "object"] bm=J'/\nsOkIn K N=J'/\nsIn K N "__init__"=Z J
end
section
open J in
end
abbrev bmV:U Aa:=[.ι "ValueError",.ι "Exception",.ι "BaseException",.ι "object"]
end Internal
namespace Internal
open PySem PySem.Spec PyProof.Rows
def cu(i j:W'):V':=0<j/\j<2^100
instance (i j:W'):Decidable (cu i j):=by unfold cu;show inferInstance
open PySem.W
def E3(h:Al)(d:Ac)(es:Array Hx)(ep:Y):V':=∃o,h.U d=Z o/\o.ExactDict/\o.data=.dict es ep
variable {prog:AS}{w:Ai}{A:Ag}{s:Ab}{d it:Ac}{es:Array Hx}{ep i:Y}
def
E3.type(x:E3 s.u d es ep):s.TypeIs (.I d) "dict":=by
 let(o,a,b,_):=x;show#[o,a,b.1]
def
E3.at{h h':Al}(x:E3 h d es ep)(k:∀o,h.U d=Z o->h'.U d=Z o):E3 h' d es ep:=by
 let(o,a,b):=x;show#[o,k o a,b]
def
cw{Q:AR}(hd:(d==Hy)=O')(a:E3 s.u d es ep) (e:Q (.I s.u.L.y) {s with heap:=s.u.ύ {cls:=.ι "dict_keyiterator",data:=.Ϙ (T' [.I d,.o 0 0,.o es.y 0,.o ep 0])} }):wpAny (Ah prog w) A (pyIter (.I d)) Q E s:=by
 let ty:=a.ι;let(o,b,f,c):=a;apply wpAny_pyIter_slot ty PySem.F.slot_dict_iter<|KR PySem.F.slot_dict_iter ty PySem.F.entry_dict_iter ?_<|PySem.F.args_dict_iter_1 _;unfold F8.«dict.__iter__» Builtin.Dict.dictSlotNone;apply An<|An<|TY ty ?_;refine(AV ?_:wpAny _ _ (Ax<|DR d) _ _ s);change wpAny _ _ (Builtin.Dict.showsAll d >>= _) _ _ s
 unfold Builtin.Dict.showsAll;rw[if_neg<|hd ▸ JJ];apply An<|AV<|An<|N6 b c<|An<|wpAny_dictEpoch b c ?_;apply An<|KU<|AV ⟨_,rfl,"dict_keyiterator",_,⟨_,CD _ rfl,rfl⟩,PySem.F.slot_dict_keyiterator_next.X,?_⟩;simpa[BQ]using e
def
Qx{Q:O Aa->Ab->V'}(g:s.u.IsKeyIter it d i es.y ep)(r:E3 s.u d es ep)(q:∀(c:i<es.y) h',h'.IsKeyIter it d (i+1) es.y ep->Ex it s.u h'->Q (Z es[i].key) {s with heap:=h' }) (h:es.y<=i->A.Ϝ=J/\∀h',Heap.ExtBut it s.u h'->Q J {s with heap:=h' }):wpAny (Ah prog w) A (pyNext (.I it)) Q E s:=by
 let ty:=g.ϕ;let(p,f,t,e):=g;let(o,j,u,k):=r;unfold pyNext;apply An<|wpAny_attempt<|L6 (name:=JP "__next__") ty uV (KR uV ty PySem.F.entry_dict_keyiterator_next ?_<|PySem.F.args_dict_keyiterator_next_1 _);apply An<|AV<|An<|An ?_;apply An<|cy ty<|AV ?_;apply An<|wpAny_fieldsOf f e ?_;erw[show Builtin.Dict_items.ownsTuple "dict_keyiterator"=O' by ext,F5,if_false];change wpAny _ _ (if(DR d==Value.Η)=J' then _ else _) _ _ s
 apply An<|AV<|An<|N6 j k ?_;rw[if_neg (by simp)];apply An<|AV<|An<|wpAny_dictEpoch j k ?_;rw[if_neg (by simp)];apply AV ?_;by_cases c:i<es.y
 .erw[show ¬ ((i:W')<0)from ∅,if_false,Jn,Array.getElem?_eq_getElem c];apply An ?_;first|apply An (cy ty<|AV ?_)|apply An (wpAny_typeNameOf_keyiter ty<|AV ?_)
  apply An<|wpAny_isOneOf_keyiter ty ?_;change wpAny _ _ (setField (.I it) 1 (BQ<|(i:W')+1) >>= _) _ _ s
  apply An<|wpAny_setField f e (by simp) ?_;let n:(s.u.Ϭ it<|Obj.mapFields (·.setIfInBounds 1 (BQ<|(i:W')+1))).IsKeyIter it d (i+1) es.y ep:=#[_,PN _ f<|Obj.isFreed_of_fields<|Uf e _,(Obj.cls_mapFields ..).G t,by rw[Uf e];simp[BQ]];show An<|F2<|An<|wpAny_isOneOf_keyiter (s:={s with heap:=s.u.Ϭ it (Obj.mapFields (·.setIfInBounds 1 (BQ ((i:W')+1))))}) n.ϕ (AV (AV #[_,rfl,AV (q c _ n (J5 ..))]))
 .erw[show ¬ ((i:W')<0)from ∅,if_false,Jn,Array.getElem?_eq_none<|KZ c];apply An ?_;first|apply An (cy ty<|AV ?_)|apply An (wpAny_typeNameOf_keyiter ty<|AV ?_)
  change wpAny _ _ (setField (.I it) 0 .Η >>= _) _ _ s
  apply An<|wpAny_setField f e (by simp) ?_;apply An ?_;apply An<|KU ?_ (by size_fits);apply An (m:=firstArgMember _ _) (wpAny_of_eq (a:=Value.Η) (by first|rfl|(erw[firstArgMember];rfl)) ?_);apply KU ?_ (by size_fits);apply An<|wpAny_handled ?_;rw[show A.in1.Ϝ=J from(h<|KZ c).1];apply An<|AV<|wpAny_throw ?_;apply An<|wpAny_isInstance (T:="StopIteration") (b:=J') #[_,CD _ rfl,rfl] isSubtype_stop ?_;show AV<|(h<|KZ c).2 _<|(Heap.ExtBut.ύ (Heap.SameBut.ψ<|J5 ..) _).ύ _
def
uW(n:A.Ϝ=J)(q:Ac)(f:d≠q):Walks prog w A q [q,d] [q] es.y (λi v=>∃e,es[i]?=Z e/\v=e.key) (λi h=>h.IsKeyIter q d i es.y ep/\E3 h d es ep) where
 sub:=λb a=>by simp at a;simp[a]
 frame:=λ_ _ _ st k=>#[st.1.at λo e=>k q (by simp) o e,st.2.at λo e=>k d (by simp) o e];item:=λi s Q E l st c=>Qx st.1 st.2 (λ_ g p m=>c _ g s.Ε #[es[i],Array.getElem?_eq_getElem l,rfl] #[p,st.2.at λo e=>m.ψ _ _ f e] λb o a e=>m.ψ b o (λh=>a (by simp[h])) e) λz=>absurd l<|Nat.not_lt.mpr z;done:=λs Q E st c=>Qx st.1 st.2 (λz=>absurd z<|Hz _) λ_=>#[n,λg j=>c g s.Ε λb o a e=>j b o (λh=>a (by simp[h])) e];self:=λ_ _ _ _ st c=>wpAny_pyIter_keyiter st.1 c
def
cz(lo:(d==Hy)=O'):KdlSrc prog w "dict" d d es.y (λi v=>∃e,es[i]?=Z e/\v=e.key) (λh=>E3 h d es ep) where
 type:=λ_ a=>a.ι;there:=λ_ a=>by let(o,b,_):=a;show#[BX b,BX b]
 keep:=λ_ _ a f=>a.at λo e=>f d (.O rfl) o e;notList:=by ext
 notTuple:=by ext
 hint:=λ_ _ _ _ a c=>kdl_hint_dict a.ι c;iter:=λ_ s g a=>#[_,_,(λ_ _ c=>cw lo a c),uW g _ (by let(o,b,_):=a;show Cq<|BX b),⟨⟨_,CD _ rfl,rfl,rfl⟩,a.at λo e=>BR _ e⟩]
end
def
Og{w:Ai}:∀{tr:U T3}{es:U Hx},Ky w (tr.j (·.1)) (Ep tr) es->Ap (tr.j λt=>t.2.1) (es.j λe=>e.key):=by
 intro tr;induction tr with
 |nil=>
  intro es zQ;let(_,e):=zQ;subst e;show .ώ
 |cons t r b=>
  intro es zQ;let(kv,v,j,e,k,a,c,d,_,_,_,f):=zQ;erw[Ep,Qp]at a;let(g,h,i):=a;subst c g h i;show .Α d<|b f
section
def
cA{es:Array Hx}{acc:Array Aa}(h:ItemsOf (λi v=>∃e,es[i]?=Z e/\v=e.key) acc es.y):acc.α=es.α.j λe=>e.key:=by
 apply Jc λi=>?_;cases a:acc[i]? with
 |some v=>
  let(e,b,hv):=h.2 i v a;simp_all
 |none=>
  let c:es[i]?=J:=Array.getElem?_eq_none_iff.Ϣ<|h.1 ▸ (show acc.y<=i by grind);grind
def
uX(hc:X.Ϫ=J'):Fi X (.ι "list") (λxs H Q=>∃a tr,xs=[.I a]/\C5 X.K H a tr/\∀l,H l=J->Q (.I l) (AL H l (.R (tr.j λt=>t.2.1)))):=by
 intro d s y H xs A Q B r zQ;let(a,tr,rfl,hd,q):=zQ;let(u,rfl,g):=Ft r;ext g;let(z,h,nd,o,c,e,i,j,k,f):=hd.1.ok B.ϥ;let hz:tr.a<=Av:=by exists z
 apply kdl_call (cz (es:=c) (ep:=e) h) (B.ok.hd hc) #[o,i,j,k] ((show tr.a=c.y by have:=(Og f).a;exists this) ▸ hz) λm n b p kp v x=>?_;apply#[.I s.u.L.y,_,B.laid (t':=n) kp (Bg _) (show Bo X.δ X.w _ m _ (.R<|tr.map λt=>t.2.1)from#[by simpa using hz,b.toList,p,cA x ▸ (Og f),by exists v]),rfl,q _<|B.hok.fresh<|Bg _]
end
def Lm:U D->Bh
 |[.lst b .d]=>(EO b).j λa=>a.j λp=>kD p.1
 |_=>J
def

cB(kvs:Br):Lm [.R (Zb kvs) .d]=Z (kvs.j λp=>kD p.1):=by simp[Lm]
variable {K:Ao}{N:Fb}
def
PD.kden{tr:U T3}(h:PD K N H kvs tr):Ad K N H (kvs.j λp=>kD p.1) (tr.j λt=>t.2.1):=by
 induction h with
 |nil=>show Ad.ώ
 |cons h _ a=>show Ad.Α h.2.1 a
open J in
def
uY:P2 K (λxs H Q=>∃a tr,xs=[.I a]/\C5 K H a tr/\∀l,H l=J->Q (.I l) (AL H l (.R (tr.j λt=>t.2.1)))) Lm:=by
 intro N H i j xs Q k h e q;unfold Lm at e;split at e
 .next m=>
  let(b,c,e):=B2.mp e;ext e;let(v,rfl,hv):=Paired.one' h;rw[GJ c]at hv;let(p,n,rfl,r,hd):=hv;let(tr,d,f):=Jj r hd;show#[p,tr,rfl,d,λl g=>q _ l g f.kden]
 .cases e
end
variable {prog:AS}{w:Ai}{A:Ag}{s:Ab}{T:String}{r d:Ac}{n:Y}{P:Y->Aa->V'}{OK:Al->V'}
def
uZ{Q:U Aa->Ab->V'}(K:KdlSrc prog w T r d n P OK)(t:A.Ϝ=J)(hok:OK s.u)(u:n<=Av) (v:∀h' g acc,(∀b o,s.u.U b=Z o->h'.U b=Z o)->ItemsOf P acc n->Q acc.α {s with heap:=h',toks:=g}):wpAny (Ah prog w) A (collect (.I r)) Q E s:=by
 let(lr,ld):=K.there _ hok;apply An<|wpAny_runValue<|K3 F.entry_proto_collect ?_;apply An<|KU ?_;apply AV ⟨Md F.plain_list_iadd _,K3 F.entry_list_iadd ?_⟩;let i:∀j,(∃h' g acc l,j={s with heap:=h',toks:=g}/\(∀b o,s.u.U b=Z o->h'.U b=Z o)/\h'.U s.u.L.y=Z {cls:=.ι "list",dict:=J,data:=.ϴ acc l,slots:=(T' [])}/\ItemsOf P acc n)->wpAny (Ah prog w) A (match DR s.u.L.y with
   |DR a=>do
    match(<- load a).data with
     |Data.seq x _=>Ax x.α
     |_=>unsupported "internal:collect"
   |_=>unsupported "internal:collect") Q E j:=by
  intro j zQ;let(h',g,acc,l,rfl,m,k,p):=zQ;show An<|wpAny_load k<|AV<|v h' g acc m p
 apply wpAny_mono (kdl_extend (R:=λr j=>r=.ok (.ϱ<|.ref s.heap.objs.size)/\∃h' g acc l,j={s with heap:=h',toks:=g}/\(∀b o,s.heap.get? b=Z o->h'.get? b=Z o)/\h'.get? s.heap.objs.size=Z {cls:=.type "list",dict:=J,data:=.seq acc l,slots:=(T' [])}/\ItemsOf P acc n) (s:={s with heap:=s.heap.push {cls:=.type "list",data:=.seq ([]:U Aa).toArray} }) K t (K.keep _ _ hok λb _ o e=>BR _ e) s.u.L.y (Ii lr) (Ii ld) _ 0 (CD _ rfl) (λh' g acc l m k p=>#[rfl,h',g,acc,l,rfl,λb o e=>m b o (Cq (BX e)) (BR _ e),k,p]) u) (λfin j h=>?_) (λe j h=>?_)
 .cases fin with
  |done f=>
   let(e,h):=h;ext e;show i j h
  |again c=>
   apply#[h.1,codeAny_mono h.2 λr q y=>?_];let(rfl,h):=y;show i q h
 .show nomatch h.1
end
end Internal
namespace Internal
open PySem PySem.Spec PyProof.Rows
def cC:Y->(U Aa->V')->V'
 |0,P=>P []
 |n+1,P=>∀a,cC n λl=>P (a::l)
def
cD{n:Y}{P:U Aa->V'}(h:cC n P)(us:U Aa)(e:us.a=n):P us:=by
 induction us generalizing n P with
 |nil=>ext e;show h
 |cons a r b=>ext e;show b (h a) rfl
structure DI(K:Ao)(mg:BP)(nm:Ae)(st:AE)(ps:List Ae)(a:Ac)(fd:CH):V' where
 m:mg nm=Z (.I a)
 F:JV K nm nm st a fd
 b:Binds K fd ps []
def
di{K:Ao}{mg:BP}{h:Al}{nm:Ae}{st:AE}{ps:U Ae}{i:Aa}{j e:O Ac}{g:Array (O Aa)}{f d pm b ct:Aa}(X:K.In h)(G:h.Ns C4 mg) (A:PySem.W.nsIn K C4 nm=Z (Z (.I a))) (l:K.X a=Z #[i,j,.func (JN nm nm (Io st) (ZV st) (Zj st) .Η f d pm e b ct),g]) (c:PySem.W.codeIn K b nm=J') (k:IU K (.I a)=J') (m:∀(f d pm:Aa) (e:O Ac) (b ct:Aa) (us:U Aa),us.a=ps.a->bindArgs (JN nm nm (Io st) (ZV st) (Zj st) .Η f d pm e b ct) #[us,[]]=Ax (ps.zip us):=by
   exact λ_ _ _ _ _ _=>cD (by(repeat intro _);rfl)):DI K mg nm st ps a (JN nm nm (Io st) (ZV st) (Zj st) .Η f d pm e b ct):=#[PySem.W.mg_of X G A,Y8 l c k,.Ϛ<|m f d pm e b ct]
def
Oh{N P:U Ae}{a:Scope}(b:a.g7=.Ϸ:=by rfl)(c:a.isCoroutine=O':=by rfl)(d:a.isGenerator=O':=by rfl)(e:N.θ:=by symm)(f:N.ϣ P.a=P:=by rfl) (g:∀x∈P,a.τ.X x=Z .ϔ\/a.τ.X x=Z .Ο:=by symm) (h:∀y∈a.τ,y.2≠.ϊ:=by symm):Fw N P a:=#[b,c,d,e,f,g,h]
variable {K:Ao}{M:Fb}{k n:Y}{fn:Ac}{fd:CH}{ps:U Ae}{x nm:Ae}{st:AE}{F:U Sl->O Rv}{e a b:Expr}{p:AC}{f g:Az}
def
u0(G:AY X.δ X.w X.K X.mg X.ω BI k fn fd ps (AX K F))(a:AJ n X.A)(D:DI X.K X.mg x st ps fn fd)(c:JA X (e::es) (De K M H0 fa))(d:k<=n:=by ext)(f:Gl X x:=by rfl)(hz:CA X x e es pos:=by show Ga):JE X (.Ν (.β x p) (e::es) [] pos) (tD K M H0 (Zg F fa)):=rb G (a.ζ d) f D.m D.F.kp D.b (E:=E0) Ip c hz
def
u3(G:AY X.δ X.w X.K X.mg X.ω BI k fn fd ps (AX K F))(a:AJ n X.A)(D:DI X.K X.mg x st ps fn fd)(c:JA X (e::es) (De K M H0 fa))(d:k<=n:=by ext)(f:Gl X x:=by rfl)(hz:CA X x e es pos:=by show Ga):JE X (.Ν (.β x p) (e::es) [] pos) (tF K M H0 (En F fa)):=re G (a.ζ d) f D.m D.F.kp D.b (E:=E0) Ip c hz
def
u4(i:Y){p vp:AC}(a:X.mg "len"=J)(b:NV X i y:=by show EW)(c:Gl X "len":=by rfl)(hz:CA X "len" (.β y vp) [] pos:=by show Ga):JE X (.Ν (.β "len" p) [.β y vp] [] pos) (tD X.K M H0 (Zk Zo λρ=>Zi (Df ρ i) (Z []))):=Hb YF a7 c a rfl (P1 (TR i b) Tl) (hz:=hz)
def
u5(i:Y){t:Ae}{n:String}{p vp tp:AC}(b:X.mg "isinstance"=J)(c:X.mg t=J)(hv:Fs t=Z (.ι n):=by rfl)(d:t≠"__name__":=by ext)(hd:Ew t:=by ext)(e:NV X i y:=by show EW)(f:Gl X "isinstance":=by rfl)(a:Gl X t:=by rfl)(hz:CA X "isinstance" (.β y vp) [.β t tp] pos:=by show Ga):JE X (.Ν (.β "isinstance" p) [.β y vp,.β t tp] [] pos) (tD X.K M H0 (Zk Cy λρ=>Zi (Df ρ i) (Zi (DN (Z (.ty n))) (Z [])))):=Hb bq br f b rfl (P1 (TR i e)<|P1 (aA<|TQ a c hv d hd) Tl) (hz:=hz)
def
u6 {i j pos}:JE X (.ϙ (.o i) j pos) (tP K M H0 λ_=>Z (.o i)):=ar au
def
vb(c:JE X a (tP X.K M H0 f))(d:JE X b (tP X.K M H0 g))(e:NE b:=by show λ_ _=>rfl):JE X (.μ a b pos) (tD X.K M H0 (Za Am f g)):=sw c d e
def
vc(i:Y){x:Ae}(a:X.N.θ)(b:X.N[i]?=Z x:=by rfl)(c:Loc X.C.Θ x:=by first|show .O rfl|show .ρ rfl)(d:X.fn x=J'\/X.C.Θ.τ.X x=Z .ϔ:=by first|show .O rfl|show .ρ rfl|assumption):JG X (.β x pos) (tG K M H0 [i] (Zc i)):=rB a b c d
def
vd(i:Y){x:Ae}{a:AC}(b:X.N.θ)(c:JE X e (tD K M H0 f))(d:X.N[i]?=Z x:=by rfl)(g:Loc X.C.Θ x:=by first|show .inl rfl|show .inr rfl)(h:Ey e (Z (.Name x a)) pos.line X.env=Ax O':=by rfl) (j:X.fn x=J'\/X.env.scope.names.lookup x=Z .local:=by first|show .inl rfl|show .inr rfl|assumption):JS X (.Assign [.Name x a] e pos) (tS K M H0 λρ=>ZJ i (f ρ) ρ):=rp b d g c h j
def
ve{P:AS}{w:Ai}{mg:BP}{base:Al}{N:U Ae}{g c:As}(D:DI K mg nm st ps fn fd)(S:Fw N ps (Zj st)) (d:∀(a:Aa) (A:Ag) (outer:U Env) (s:Ab) (H:Hp) (E:XK) (M:Fb) (H0:Hp),AJ k (A.Ϧ (Bt nm (Zj st) s.u.L.y fn a))->JB (Ei BI P w K mg base N nm (Zj st) fn a A outer s H E).nox (ZV st) (tS K M H0 c)) (e:c=g:=by rfl) (b:ps.a<=N.a:=by ext):AY P w K mg base BI (k+1) fn fd ps (AX K (AU ps.a N.a g)):=aL D.F S b<|e ▸ d
end
open PySem.W
abbrev ME(X:Cx)(o:Expr)(m:Ae)(es:U Expr)(pl:Sem j')(apos pos:AC):V':=Aq (.Ν (.γ o m apos) es [] pos) X.C=(do
 let b <- Aq o X.C
 standAt apos.atName
 let(f,a) <- D1 [b] (getMethod b m pl)
 callWith pos f a (AA pos (AH es X.C)) (Gy pos (Gz [] X.C)))
def
J7{K:Ao}{c:Ae}{C:Ac}(h:nsIn K C4 c=Z (Z (.I C))):PY K c=C:=by unfold PY;rw[h]
@[simp]def C7(c f:Ae):D->O D
  |.lst a (.i ns b)=>if b=c then(ns.zip a).X f else J
  |_=>J
variable {K:Ao}{N:Fb}
def
cE{f:Ae}{d:D}:∀{ns:U Ae}{xs:U D}{vs:U V},Ad K N H xs vs->(ns.zip xs).X f=Z d->∃v,(ns.zip vs).X f=Z v/\Au K N H d v
 |[],_,_,_,e=>by simp at e
 |_::_,[],_,_,e=>by simp at e
 |n::ns,x::xs,vs,h,e=>by
  let(v,r,rfl,q,t):=h;erw[K1,List.lookup_cons]at e ⊢;cases a:f==n with
  |true=>rw[a]at e;ext e;show#[v,rfl,q]
  |false=>rw[a]at e;show cE t e
def
Oi{m:Ae}:∀{ns:U Ae}{vs:U V},ns.Ϟ m=O'->(ns.zip vs).X m=J
 |[],_,_=>by simp
 |_::_,[],_=>by simp
 |n::ns,v::vs,h=>by
  erw[List.contains_cons,Bool.or_eq_false_iff]at h;erw[K1,List.lookup_cons,h.1];show Oi h.2
@[simp]def Lo(c m:Ae):Sl->j'
  |.val (.lst _ (.i ns a))=>decide (a=c)&&!ns.contains m
  |.lent _ (.i ns a)=>decide (a=c)&&!ns.contains m
  |_=>O'
def
vf{c m:Ae}{s:Sl}{v:V}(h:Lo c m s=J')(b:C1 K N H s v):∃a f d,v=.I a/\Rd H a (.ins (PY K c) f d)/\d.X m=J:=by
 unfold Lo at h;split at h
 .erw[Dv,decide_eq_true_eq,Qy]at h;let(rfl,h):=h;let(a,g,e,q,_):=b;rcases q with⟨_,q⟩|⟨i,z,_⟩
  .show#[a,_,_,e,q,Oi h]
  .cases z
 .erw[Dv,decide_eq_true_eq,Qy]at h;let(rfl,h):=h;let(a,g,e,_,q,_):=b;show#[a,_,_,e,q,Oi h]
 .cases h
def
vh{r:Rv}{v:V}(c:∀a,N a->H a≠J)(h:EY K N H H' r v):Au K N H' (Em r) v:=by
 cases r with|val d=>show h|own l m=>
  let(a,f,e,g,i,j):=h;show#[a,f,e,.of (λn=>c a n g) i,j.nw λb k=>.O<|.O k]
end
@[simp]def HU(c m:Ae)(F:U Sl->O Rv)(o:O Sl)(a:O (U Sl)):O Rv:=o.J λs=>if Lo c m s=J' then a.J λb=>F (s::b)else J
variable {K:Ao}{M:Fb}{e:Expr}{f go:Az}{F:U Sl->O Rv}{k:Y}{fn C:Ac}{fd:CH}{ps:U Ae}{c m:Ae}{E:XK}
def
vi{f:Ae}(j:nsIn X.K C4 c=Z (Z (.I C)))(hc:Fj X.K C)(k:BY X.K C f)(l:JE X o (tP X.K M H0 go))(m:FQ o f X.C (Aq o X.C)=Aq o X.C:=by rfl):JE X (.γ o f pos) (tD X.K M H0 λρ=>(go ρ).J (C7 c f)):=#[(YJ l.h m).ζ λz H Q n=>by
   let(ρ,d,R,e,q):=n;let(A,p,b):=Cm.mp e;unfold C7 at b;split at b
   .split at b
    .next g=>
     subst g;apply#[ρ,_,R,p,λv t s hv=>?_];let(a,B,w,i,r):=hv;let(u,x,y):=cE r b;erw[CO,J7 j]at i;show#[a,C,_,_,u,w,i,hc,k,x,q u t s y]
    .cases b
   .cases b]
def
vj(i:nsIn K C4 c=Z (Z (.I C))){r:Rv}(R:By K M H0 ρ I H)(e:HU c m F (fo ρ) (fa ρ)=Z r)(q:∀v b H',Aj H b->Aj b H'->EY K (Nf M ρ I) b H' r v->Q v H'):KJ C m (AX K F) [] E (GB K M H0 fo) (De K M H0 fa) I H Q:=by
 let(s,j,e):=Cm.mp e;let(k,e):=Z1 e;let(g,l,n):=Cm.mp e;apply#[ρ,s,R,j,λv b d hv=>?_];let(a,o,p,t,h,u):=vf k hv;rw[J7 i]at h;show#[a,o,p,t,h,u,ρ,g,R.st d,l,λx y f z=>#[Nf M ρ I,s::g,r,((R.st d).st f).nh,#[v,x++[],rfl,hv.η f,by rw[Eh];show z],n,λw A B G=>q w y A (d.G f) B G]]
def
vl{Q:U V->Hp->V'}(h:De K M H0 (λ_=>Z []) I H Q):NB I H Q:=by
 let(a,b,R,e,q):=h;ext e;show q [] H (Aj.σ H) rfl
def
vm{sp:Sp}(h:KJ C m sp [] E (GB K M H0 fo) (De K M H0 λ_=>Z []) I H Q):KJ C m sp [] E (GB K M H0 fo) NB I H Q:=by
 let(b,d,R,e,q):=h;apply#[b,d,R,e,λv c s hv=>?_];let(a,f,g,i,j,k,t):=q v c s hv;show#[a,f,g,i,j,k,vl t]
def
cF(b:nsIn K C4 c=Z (Z (.I C)))(h:tD K M H0 (λρ=>(HU c m F (fo ρ) (fa ρ)).j Em) I H Q):KJ C m (AX K F) [] E (GB K M H0 fo) (De K M H0 fa) I H Q:=by
 let(ρ,d,R,e,q):=h;let(r,f,rfl):=B2.mp e;show vj b R f λv j g a i h=>q v g (a.G i)<|vh (R.st a).nh h
section
variable(hC:nsIn X.K C4 c=Z (Z (.I C)))(cl:Fj X.K C)(hm:JM X.K C m fn)(G:AY X.δ X.w X.K X.mg X.ω CX k fn fd ps (AX X.K F))(hr:AJ k X.A)(hb:Binds X.K fd ps [])(hx:Fv CX X E)(ho:JE X o (GB X.K M H0 fo))
include hC cl hm G hr hb hx ho
def
vn(d:JA X (e::es) (De X.K M H0 fa)) (a:AH (e::es) X.C=(O',Aq e X.C)::AH es X.C:=by show D2 rfl) (b:(AA pos (AH es X.C)).any (·.1)=O':=by rfl) (f:ME X o m (e::es) pl apos pos:=by rfl):JE X (.Ν (.γ o m apos) (e::es) [] pos) (tD X.K M H0 λρ=>(HU c m F (fo ρ) (fa ρ)).j Em):=#[(S3 ho.h cl hm G hr hb .ώ hx d.h a b f).ζ λ_ _ _ h=>cF hC h]
def
vo (a:ME X o m [] pl apos pos:=by rfl):JE X (.Ν (.γ o m apos) [] [] pos) (tD X.K M H0 λρ=>(HU c m F (fo ρ) (Z [])).j Em):=#[(YN ho.h cl hm G hr hb .ώ hx a).ζ λ_ _ _ h=>vm<|cF hC h]
end
end
def vq(H:Hp)(x:Ac):Hp:=λb=>if b=x then J else H b
structure vt(K:Ao)(N:Fb)(a:Ac)(H H':Hp)(ys:List D)(b:Kd)(d:D)(v:V):V' where
 sm:Aj (vq H a) H'
 at_:∃ws,H' a=Z (CO K b a ys ws)/\Ad K N H' ys ws
 de:Au K N H' d v
abbrev RB:=U D×Kd×D
def cG(K:Ao)(N:Fb)(a:Ac)(H:Hp):Sl->V->V'
 |.val d,v=>Au K N H d v
 |.lent e b,v=>∃c f,v=.I c/\(N c/\c≠a)/\Rd H c (CO K b c e f)/\Ad K N H e f
 |_,_=>False
def vu(K:Ao)(F:U Sl->Sl->U Sl->O RB):Sp:=λk H Q _=>∃N a g h d e f b i r,k=d++.I a::e/\(∀c,N c->H c≠J)/\N a/\H a=Z (CO K b a f i)/\Ad K N H f i/\Paired (cG K N a H) g d/\Paired (cG K N a H) h e /\
 F g (.φ f b (Z a)) h=Z r/\∀v j,vt K N a H j r.1 r.2.1 r.2.2 v->Q v j
variable {b:Kd}
def
My{a b:Type}{F:a->b->V'}{l:U a}{m:U b}(h:Paired F l m):l.a=m.a:=h.a
def
cH{a b:Type}{F:a->b->V'}{x:a}:∀{l:U a}{m:U b}{i:Y},Paired F l m->l[i]?=Z x->∃y,m[i]?=Z y/\F x y
 |_,_,0,.cons h _,e=>by ext e;show#[_,rfl,h]
 |_,_,i+1,.cons _ t,e=>by exists cH (i:=i) t (by exists e)
end
variable {K:Ao}{F:U Sl->Sl->U Sl->O RB}{n:Y}{fn C:Ac}{fd:CH}{ps:U Ae}{c m:Ae}{E:XK}
section
variable(hC:nsIn X.K C4 c=Z (Z (.I C)))(cl:Fj X.K C)(hm:JM X.K C m fn)(G:AY X.δ X.w X.K X.mg X.ω CX n fn fd ps (vu X.K F))(hr:AJ n X.A)(hb:Binds X.K fd ps [])(hx:Fv CX X E)
include hC cl hm G hr hb hx
end
end
@[simp]def putN(f:Ae):U Ae->U Ae
  |[]=>[f]
  |n::ns=>if n=f then n::ns else n::putN f ns
@[simp]def D9{a:Type}(f:Ae)(y:a):U Ae->U a->U a
  |n::ns,x::b=>if n=f then y::b else x::D9 f y ns b
  |_,_=>[y]
def
cI{f:Ae}{y:V}:∀{ns:U Ae}{vs:U V},ns.a=vs.a->Fu f y (ns.zip vs)=(putN f ns).zip (D9 f y ns vs)
 |[],[],_=>rfl
 |n::ns,v::vs,h=>by
  erw[K1,Fu,putN,D9];by_cases e:n=f
  .rw[if_pos e,if_pos e,if_pos e];rfl
  .rw[if_neg e,if_neg e,if_neg e,cI (by exists h)];rfl
def M3(M:Fb)(a:Ac)(bs:U Ac):Fb:=λx=>M x\/x=a\/x∈bs
@[simp]def vz:Sl->j'
  |_=>O'
@[simp]def Mz(ρ:VE):j':=ρ.Ϛ λs=>!vz s
open AutoSeq1 (wpAny_loadPart')
open PySem.MeetsSeq in
def
vA(l:Ac)(items:Array Aa)(n:Y)(x:Aa)(e:Aa->j')(j:Y)(q:j<items.y)(u:e items[j]=J')(f:items.y<=Av)(k:Y):∀i:Y,j-i=k->i<=j->(∀m (r:m<items.y),i<=m->m<j->e items[m]=O')->Meets (F8.«list.remove.loop» #[[.I l,x,BQ i],[]]) (λA R s=>s.u.U l=Z {cls:=.ι "list",dict:=J,data:=.ϴ items n,slots:=(T' [])}/\(∀y,y∈items->SeqAt.EqAt A.in1 s y x (e y))/\R (.ok (.ϱ .Η)) {s with heap:=s.u.Ϭ l (F4 λxs=>xs.ϝ j)}):=by
 induction k with
 |zero=>
  intro i v p a prog w A R s h;let(hp,g,d,z,os):=s;let(c,o,h):=h;let B:i=j:=∅
  subst B;wp_walk using Fl c;rw[show items[((i:Y):W').ν]?=Z items[i] by simp[q]];apply An<|o _ (Array.getElem_mem q) prog w _ _ ?_;let hz:(items.ϝ i).y<=Av+1:=BN (size_erased items _)<|Jo f;wp_walk using(wpAny_updateSeq c rfl (hz:=f) (_hz':=hz)),Fl c;exists h
 |succ k C=>
  intro i v p a prog w A R s h;let(hp,g,d,z,os):=s;let(c,o,h):=h;let b:i<items.y:=∅
  wp_walk using Fl c;rw[show items[((i:Y):W').ν]?=Z items[i] by simp[b]];apply An<|o _ (Array.getElem_mem b) prog w _ _ ?_;rw[a i b (Bg _) ∅];wp_walk;show⟨Md plain_remove_loop _,K3 entry_remove_loop (by
   show C (i+1) ∅ ∅ (λm r G E=>a m r ∅ E) prog w A R _ ⟨c,o,h⟩)⟩
open PySem.MeetsSeq in
def
vB(l:Ac)(items:Array Aa)(n:Y)(x:Aa)(e:Aa->j')(j:Y)(k:j<items.y)(a:e items[j]=J')(b:∀m (f:m<items.y),m<j->e items[m]=O')(c:items.y<=Av):Meets (F8.«list.remove» #[[.I l,x],[]]) (λA R s=>s.u.U l=Z {cls:=.ι "list",dict:=J,data:=.ϴ items n,slots:=(T' [])}/\(∀y,y∈items->SeqAt.EqAt A.in1 s y x (e y))/\R (.ok (.ϱ .Η)) {s with heap:=s.u.Ϭ l (F4 λxs=>xs.ϝ j)}):=by
 intro prog w A R s h;let(hp,g,d,q,os):=s;let(i,o,h):=h;wp_walk using Fl i;show#[Md plain_remove_loop _,K3 entry_remove_loop (by
  show vA l items n x e j k a c _ 0 rfl (Fk _) (λm f _ p=>b m f p) prog w A R _ #[i,o,h])]
def vD(K:Ao):V->U V->Hp->VK->V':=λx c H Q=>∃l a y N d b j,x=.I l/\c=[y]/\H l=Z (.R a)/\Ad K N H b a/\Ay K N H d y/\AZ ZY d=J'/\b.Ϛ (AZ ZY)=J'/\b.findIdx? (λz=>Bl z d)=Z j/\Q .κ (AL H l (.R (a.Τ j)))
variable {K:Ao}{M:Fb}{e:Expr}{f:Az}{i:Y}{x:Ae}
def
vE(hu:X.A.ε+64<Ar):PR X "list.remove" (vD X.K):=by
 intro G s I H x vs v us Q S P T zQ;let(l,R,y,N,d,M,j,rfl,rfl,L,hd,Y',od,c,hj,q):=zQ
 ext P
 let(u,rfl,ru):=T.one
 let(z,a,n,r,hl,e):=S.lstM L
 let(h,i,k):=List.findIdx?_eq_some_iff_getElem.mp hj
 let hln:=hd.a
 let f:∀m (o:m<a.E.y) (b:m<M.a),GI X.K N H d a.E[m]=Bl M[m] d:=λm o b=>by
  let(w,t,dw):=hd.Χ (BZ b)
  let(w',B,C):=r.Χ t
  have:a.E[m]=w':=by
   rw[List.getElem_toArray];show(Bp.mp B).2
  rw[this]
  show TD S dw.p C (Dr.mp c _ (Fn b))
 let g:j<a.E.y:=by rw[Ce];lia
 apply call_meets F.slot_list_remove #[_,e,rfl] F.entry_list_remove (F.args_list_remove_2 _ _)
  (vB l a.E n u (GI X.K N H d) j g (f j g h ▸ i) (λm o E=>by rw[f m o ∅];exists k m E) (by rw[Ce];lia)) #[e,λw t=>TH S (show X.A.in1.ε+ZY<Ar by rw[NZ];unfold ZY;lia) od Y' ru hd r c w (by exists t),?_]
 apply#[.κ,_,S.lset (its':=a.Τ j) L e ?_ (r.Τ j) ?_,rfl,q]
 .change a.E.ϝ j=(a.Τ j).E
  rw[List.eraseIdxIfInBounds_toArray]
 .have:=Y6 R j
  lia
def
Ad.erase{N:Fb}(h:Ad K N H xs vs)(j:Y):Ad K N H (xs.Τ j) (vs.Τ j):=by
 rw[cJ,cJ];show(h.ϣ j).Β<|h.Ψ<|j+1
end
end Internal
namespace Internal
open PySem PySem.Spec PyProof.Rows PySem.W
section
open J in
end
end Internal
namespace Internal
open PySem PySem.Spec PyProof.Rows
def Cz(a:Ac)(o:Obj)(u:HO)(H:Hp):Hp:=λb=>@ite _ (b=a/\H b=Z u) (P7 _) (Z (.frz o u)) (H b)
def HV(a:Ac)(o:Obj)(u:HO)(H:Hp):Hp:=λb=>@ite _ (b=a/\H b=Z (.frz o u)) (P7 _) (Z u) (H b)
variable {o:Obj}{u:HO}{b:Ac}{v:HO}
def
Jp(h:H a=Z u):Cz a o u H a=Z (.frz o u):=if_pos #[rfl,h]
def
FW(h:¬ (b=a/\H b=Z u)):Cz a o u H b=H b:=if_neg h
def
Lp(h:H a=Z (.frz o u)):HV a o u H a=Z u:=if_pos #[rfl,h]
def
J8(h:¬ (b=a/\H b=Z (.frz o u))):HV a o u H b=H b:=if_neg h
def
Ci:Cz a o u H b=J↔H b=J:=by grind [Jp,FW]
def
HW:HV a o u H b=J↔H b=J:=by
 by_cases h:b=a/\H b=Z (.frz o u)
 .let(rfl,h):=h;rw[Lp h,h];show#[λz=>(nomatch z),λz=>(nomatch z)]
 .rw[J8 h]
def
cK(h:H b=Z v)(hv:F9 v=O')(c:F9 u=J'):Cz a o u H b=Z v:=by grind [FW]
def
Oj(h:H b=Z v)(hv:∀o u,v≠.frz o u):HV a o u H b=Z v:=by grind [J8]
def
Rd.fz(c:F9 u=J')(h:Rd H b v):Rd (Cz a o u H) b v:=by
 rcases h with h|⟨d,h⟩
 .by_cases z:b=a/\H b=Z u
  .let(rfl,z):=z;rw[h]at z;ext z;show .ρ #[o,Jp h]
  .show .O<|FW z ▸ h
 .show .ρ #[d,cK h rfl c]
def
Rd.ufz(hv:∀o u,v≠.frz o u)(h:Rd H b v):Rd (HV a o u H) b v:=by
 rcases h with h|⟨c,h⟩
 .show .O<|Oj h hv
 .by_cases z:b=a/\H b=Z (.frz o u)
  .let(rfl,z):=z;rw[h]at z;ext z;show .O<|Lp h
  .show .ρ #[c,J8 z ▸ h]
def
Aj.fz(f:F9 u=J')(s:Aj H0 H)(b:∀w,H0 a=Z w->H a=Z u->w=u):Aj (Cz a o u H0) (Cz a o u H):=by
 intro c w e;by_cases z:c=a/\H0 c=Z u
 .let(rfl,z):=z;rw[Jp z]at e;ext e;show Jp<|s _ _ z
 .rw[FW z]at e;rw[FW]
  .show(s _ _ e)
  .intro zQ;let(rfl,d):=zQ;show z ⟨rfl,by rw[e,b w e d]⟩
end
mutual
theorem Au.rd{K:Ao}{N:Fb}{H H':Hp}(k:∀b v,(∀o u,v≠HO.frz o u)->Rd H b v->Rd H' b v):∀(d:D)(v:V),Au K N H d v->Au K N H' d v
 |.non,_,h=>h
 |.bl _,_,h=>h
 |.int _,_,h=>h
 |.str _,_,h=>h
 |.ty _,_,h=>h
 |.tup f,v,h=>by
  erw[Au]at h ⊢
  let(a,c,e,q,r):=h
  apply#[a,c,e,?_,Ad.rd k f c r]
  rcases q with q|q
  .show .O (k _ _ (λ_ _ z=>nomatch z) q)
  .show .ρ q
 |.lst f g,v,h=>by
  erw[Au]at h ⊢
  let(a,c,e,q,r):=h
  apply#[a,c,e,?_,Ad.rd k f c r]
  rcases q with⟨n,q⟩|q
  .show .O #[n,k _ _ (λ_ _ z=>by ext g<;>ext z) q]
  .show .ρ q
theorem Ad.rd{K:Ao}{N:Fb}{H H':Hp}(k:∀b v,(∀o u,v≠HO.frz o u)->Rd H b v->Rd H' b v):∀(xs:U D)(vs:U V),Ad K N H xs vs->Ad K N H' xs vs
 |[],_,h=>h
 |x::xs,vs,h=>by
  erw[Ad]at h ⊢
  let(v,r,e,q,t):=h
  show#[v,r,e,Au.rd k x v q,Ad.rd k xs r t]
end
def
Ol(K:Ao)(b:Kd)(a:Ac)(xs:U D)(vs:U V):∀o u,CO K b a xs vs≠HO.frz o u:=λ_ _ z=>by ext b<;>ext z
variable {K:Ao}{M N N':Fb}{o:Obj}{u:HO}
def
By.fz(m:F9 u=J')(R:By K M H0 ρ I H)(t:H a=Z u)(y:∀(i:Y)(xs:U D)(b:Kd)(r:O Ac),ρ[i]?=Z (Sl.φ xs b r)->I[i]?≠Z (Z (V.I a))):By K M (Cz a o u H0) ρ I (Cz a o u H) where
 len:=R.ϧ;same:=R.η.fz m λw e _=>by have:=R.η _ _ e;rw[t]at this;ext this;rfl
 mh:=λc h z=>R.mh c h<|Ci.mp z;slot:=λi s e=>by
  let q:=R.ϓ i s e;let l:∀b v,(∀o u,v≠HO.frz o u)->Rd H b v->Rd (Cz a o u H) b v:=λb v _ h=>Rd.fz m h;cases s with
  |no=>trivial
  |val d=>let(v,e,h):=q;show#[v,e,Au.rd l d v h]
  |own xs A r=>
   let(c,g,j,f,k,n,p):=q;apply#[c,g,j,#[Ci.Ϣ f.1,f.2],k,?_,Ad.rd l xs g p];rw[FW,n];grind
  |lent xs A=>let(c,g,j,(f,k),n,p):=q;show#[c,g,j,#[f,λz=>k<|Ci.mp z],l _ _ (Ol _ _ _ _ _) n,Ad.rd l xs g p]
  |exc c=>let(x,C,j,f,k):=q;show#[x,C,j,f,cK k rfl m]
 inj:=R.inj
def
By.ufz(R:By K M (Cz a o u H0) ρ I H')(r:H' a=Z (.frz o u))(s:∀w,H0 a=Z w->w=u):By K M H0 ρ I (HV a o u H') where
 len:=R.ϧ;same:=λc w e=>by
  by_cases z:c=a
  .subst z;have:=s w e;subst this;show Lp r
  .let f:=R.η c w (by rw[FW λy=>z y.1];show e);rw[J8 λy=>z y.1];show f
 mh:=λc h z=>R.mh c h<|HW.mp z;slot:=λi p e=>by
  let q:=R.ϓ i p e;cases p with
  |no=>trivial
  |val d=>let(v,e,h):=q;show#[v,e,Au.rd (λb v hv h=>Rd.ufz hv h) d v h]
  |own l t A=>let(c,g,j,f,k,m,n):=q;show#[c,g,j,#[Ci.mp f.1,f.2],k,Oj m<|Ol _ _ _ _ _,Ad.rd (λb v hv h=>Rd.ufz hv h) l g n]
  |lent l t=>let(c,g,j,(f,k),m,n):=q;show#[c,g,j,#[f,λz=>k<|Ci.mpr z],(λb v hv h=>Rd.ufz hv h) _ _ (Ol _ _ _ _ _) m,Ad.rd (λb v hv h=>Rd.ufz hv h) l g n]
  |exc c=>let(x,C,j,f,k):=q;show#[x,C,j,f,Oj k λ_ _ z=>nomatch z]
 inj:=R.inj
def
Step.ufz(s:Step M N N' (Cz a o u H) H')(b:H a=Z u):Step M N N' H (HV a o u H')/\H' a=Z (.frz o u):=by
 let d:=s.kp a _ (Jp b)<|.inr<|.inr rfl;apply⟨⟨λc w e z=>?_,λc n=>(s.nw c n).imp id Ci.mp⟩,d⟩;by_cases y:c=a
 .subst y;rw[b]at e;ext e;show Lp d
 .have:=s.kp c w (by rw[FW λx=>y x.1];show e) z;rw[J8 λx=>y x.1];show this
def
EY.ufz{r:Rv}{v:V}(h:EY K M (Cz a o u H0) H' r v):EY K M H0 (HV a o u H') r v:=by
 cases r with
 |val d=>show Au.rd (λb v hv h=>Rd.ufz hv h) d v h
 |own g l=>let(c,f,e,i,j,k):=h;show#[c,f,e,Ci.mp i,Oj j<|Ol _ _ _ _ _,Ad.rd (λb v hv h=>Rd.ufz hv h) g f k]
end
variable {s:Ab}{o:Obj}{u:HO}
def
CZ.swap{P:AS}{w:Ai}{h:Al}{u u':HO}(x:CZ P w H h)(f:H a=Z u)(i:∀y,u≠.φ y)(j:∀xs,u≠.S xs)(ne:∀b,b≠a->H' b=H b)(d:H' a=Z u')(new:Bo P w H' h a u'):CZ P w H' h:=λb v e=>by
 by_cases g:b=a
 .subst g;rw[d]at e;ext e;show new
 .rw[ne b g]at e;refine(x b v e).stay (λc v _ q=>q) (λc q=>?_) λc xs q=>?_
  .rw[ne c λz=>by rw[z,f]at q;ext q;show i _ rfl];show q
  .rw[ne c λz=>by rw[z,f]at q;ext q;show j _ rfl];show q
def
Ug(a:F9 u=J'):(∀y,u≠.φ y)/\(∀xs,u≠.S xs)/\(∀o v,u≠.frz o v)/\∀ps,u≠.tbl ps:=by
 apply#[λ_ z=>?_,λ_ z=>?_,λ_ _ z=>?_,λ_ z=>?_]<;>rw[z]at a<;>ext a
def
Inv.plain(g:Inv X pins I H s)(b:H a=Z u)(c:F9 u=J'):(∀xs,X.H₀ a≠Z (.S xs))/\(∀o v,X.H₀ a≠Z (.frz o v))/\∀ps,X.H₀ a≠Z (.tbl ps):=by
 let(_,d,e,f):=Ug c;apply#[λxs z=>?_,λo v z=>?_,λps z=>?_]
 .have:=g.ω.tups a xs z;rw[b]at this;ext this;show d _ rfl
 .have:=g.ω.frzs a o v z;rw[b]at this;ext this;show e _ _ rfl
 .let(_,this):=g.ω.tbls a ps z;rw[b]at this;ext this;show f _ rfl
def
Inv.swap{u u':HO}(l:Inv X pins I H s)(d:H a=Z u)(h:∀y,u≠.φ y)(i:∀xs,u≠.S xs)(pl:(∀xs,X.H₀ a≠Z (.S xs))/\(∀o v,X.H₀ a≠Z (.frz o v))/\∀ps,X.H₀ a≠Z (.tbl ps))(ne:∀b,b≠a->H' b=H b)(f:H' a=Z u')(new:Bo X.δ X.w H' s.u a u'):Inv X pins I H' s where
 ok:=l.ok;os:=l.os;bare:=l.bare;base:=#[l.ω.keep,l.ω.ϓ,λb o e n j=>by
   have:=l.ω.ϊ b o e n j;rw[ne b λz=>by rw[z,d]at this;cases this];show this,l.ω.there,
  λb xs e=>by rw[ne b λz=>pl.1 xs<|z ▸ e];show l.base.tups b xs e,λb o v e=>by rw[ne b λz=>pl.2.1 o v<|z ▸ e];show l.base.frzs b o v e,λb ps e=>by rw[ne b λz=>pl.2.2 ps<|z ▸ e];show l.ω.tbls b ps e]
 loc:=l.loc;cell:=l.Ο;free:=by rw[ne _ λz=>by have:=l.ϊ;rw[z,d]at this;cases this];show l.ϊ
 freeC:=λx c e=>by
  have:=l.freeC x c e;rw[ne c λz=>by rw[z,d]at this;cases this];show this
 pin:=λp hp=>by
  let(p1,g,k):=l.pin p hp;show#[p1,by rw[ne _ λz=>by rw[z,d]at g;cases g];show g,k]
 hok:=l.ϥ.swap d h i ne f new;len:=l.ϧ
def
Inv.fz(e:F9 u=J')(m:Inv X pins I H s)(d:H a=Z u)(h:s.u.U a=Z o):Inv X pins I (Cz a o u H) s:=by
 let(f,g,j,k):=Ug e;let ne:∀b,b≠a->Cz a o u H b=H b:=λb i=>FW λz=>i z.1;apply m.swap d f g (m.plain d e) ne (Jp d) #[h,(m.ϥ a u d).stay (λ_ _ _ q=>q) (λc q=>?_) λc l q=>?_]
 .rw[ne c λz=>by rw[z,d]at q;ext q;show f _ rfl];show q
 .rw[ne c λz=>by rw[z,d]at q;ext q;show g _ rfl];show q
def
Inv.ufz(f:Inv X pins I H s)(d:H a=Z (.frz o u))(pl:(∀xs,X.H₀ a≠Z (.S xs))/\(∀o v,X.H₀ a≠Z (.frz o v))/\∀ps,X.H₀ a≠Z (.tbl ps)):Inv X pins I (HV a o u H) s:=by
 let ne:∀b,b≠a->HV a o u H b=H b:=λb e=>J8 λz=>e z.1;apply f.swap d (λ_ z=>nomatch z) (λ_ z=>nomatch z) pl ne (Lp d) ((f.ϥ a _ d).2.stay (λ_ _ _ q=>q) (λc q=>?_) λc xs q=>?_)
 .rw[ne c λz=>by rw[z,d]at q;cases q];show q
 .rw[ne c λz=>by rw[z,d]at q;cases q];show q
end
open PySem.W
def Lq(a:Ac)(o:Obj)(u:HO)(ks:U V):It:=#[λi H=>H a=Z (.frz o u)/\i<ks.a,λi H x b=>b=H/\ks[i]?=Z x,λi H=>H a=Z (.frz o u)/\ks.a<=i]
def
vF{P:AS}{w:Ai}{K:Ao}{x:Expr}{it:Ac}{o:Obj}{u:HO}{es:Array Hx}{ep:Y}{ks:U V}(m:o.ExactDict)(p:o.data=.dict es ep)(hv:Ap ks (es.α.j λe=>e.key)):Ij P w K x (Lq a o u ks) [it] it (λi h=>h.IsKeyIter it a i es.y ep):=by
 apply Nu (n:="dict_keyiterator") (by ext) (λi h st=>?_) (λi h g st k=>st.at k) (λX i r s L H E Q M y N st=>?_) λ_ _ _ _ _ st h=>wpAny_pyIter_keyiter st h
 .let(o,e,c,d):=st;show#[o,_,e,c,d]
 .let f:=hv.a;simp at f;constructor<;>intro t q
  .let(hz,j):=t;let(k,A,B):=hv.Χ<|BZ j;let v:i<es.y:=∅
   show Qx st #[o,(N.ϥ a _ hz).1,m,p] (λ_ g l C=>q _ _ g s.Ε l (λb o G e=>(C.2 b G).G e) (by rw[show es[i].key=k by simpa[v]using A];show B) #[rfl,BZ j]) λz=>absurd v<|Nat.not_lt.Ϣ z
  .let(hz,j):=t;show Qx st #[o,(N.ϥ a _ hz).1,m,p] (λz=>absurd z ∅) λ_=>#[y,λg F=>q g s.Ε F]
abbrev Ds(tr:U T3):HO:=.dct (tr.j (·.1)) (Ep tr)
variable {l:Expr}
def cL(K:Ao)(tl:TE):TI:=λc H R=>tl c H λx b=>∃a tr,x=.I a/\C5 K b a tr/\∀o,(Cz a o (Ds tr) b) a=Z (.frz o (Ds tr))->R (Lq a o (Ds tr) (tr.j λt=>t.2.1)) (Cz a o (Ds tr) b)
def
Uh{tl:TE}(r:PE X l tl):PI X tg l (cL X.K tl):=by
 intro c s m H R F h;apply Ba (r c s m H _ F h) λv f t=>?_;let(x,g,i,u,a,tr,e,hd,q):=t;subst e;ext u;let(z,w,nd,o,C,E,j,n,p,A):=hd.1.ok i.ϥ;obtain⟨k,hz⟩:Inv X c m (Cz a o (Ds tr) g) f/\(Cz a o (Ds tr) g) a=Z (.frz o<|Ds tr):=by
  rcases hd.1 with d|⟨G,d⟩
  .show#[i.fz rfl d j,Jp d]
  .have:=(i.ϥ a _ d).1;rw[j]at this;ext this;have:Cz a o (Ds tr) g=g:=funext λb=>FW (by rintro⟨rfl,y⟩;rw[d]at y;ext y);rw[this];show⟨i,d⟩
 apply cw w #[o,j,n,p] ?_;apply#[f.u.L.y,[f.u.L.y],_,_,_,rfl,k.ϭ (t':=f.Ε) λb o e=>BR _ e,vF n p<|Og A,⟨_,CD _ rfl,rfl,rfl⟩,λb B=>?_,q o hz];let e:b=f.u.L.y:=by exists B
 subst e;show k.fpOk (Bg _)<|k.ϥ.Ξ<|Bg _
end
def Cv(X:Cx)(Q:Hp->V')(H':Hp):V':=Q H'\/∃a o u,((∀b,X.H₀ a≠Z (.S b))/\(∀o v,X.H₀ a≠Z (.frz o v))/\∀c,X.H₀ a≠Z (.tbl c))/\H' a=Z (.frz o u)/\Q (HV a o u H')
def Ends.cv(X:Cx)(D:Ends):Ends:={nx:=λa=>Cv X (D.nx a),rt:=λv=>Cv X (D.rt v),bk:=λa=>Cv X (D.bk a),ct:=λa=>Cv X (D.ct a)}
def
SP.cv{c:A1}{D:Ends}{f:Flow}{s:Ab}(h:SP X c (D.cv X) f s):SP X c D f s:=by
 let k:∀{j:St} {H:Hp} {Q:Hp->V'},Inv X c j H s->Cv X Q H->∃i,Inv X c j i s/\Q i:=λn q=>by
  rcases q with q|⟨a,o,u,l,m,q⟩
  .show#[_,n,q]
  .show#[_,n.ufz m l,q]
 cases f with
 |next=>let(b,i,n,q):=h;let(d,e,g):=k n q;show#[b,d,e,g]
 |brk=>let(b,i,n,q):=h;let(d,e,g):=k n q;show#[b,d,e,g]
 |cont=>let(b,i,n,q):=h;let(d,e,g):=k n q;show#[b,d,e,g]
 |ret u=>let(v,b,i,n,r,q):=h;let(d,e,g):=k n q;show#[v,b,d,e,r,g]
variable {K:Ao}{M:Fb}{D:Ends}{r:Dp}{o:Obj}{u:HO}
def
Bu.cv(h:Bu K M H0 ρ I H D r):Bu K M H0 ρ I H (D.cv X) r:=by
 cases r with
 |fail=>show h
 |next c=>show λa b R S=>.O<|h a b R S
 |brk c=>show λa b R S=>.O<|h a b R S
 |cont c=>show λa b R S=>.O<|h a b R S
 |ret r=>show λv b s q=>.O<|h v b s q
def
Bu.fz(l:F9 u=J')(h:Bu K M H0 ρ I H D r)(i:H a=Z u)(j:∀w,H0 a=Z w->w=u)(pl:(∀xs,X.H₀ a≠Z (.S xs))/\(∀o v,X.H₀ a≠Z (.frz o v))/\∀ps,X.H₀ a≠Z (.tbl ps)):Bu K M (Cz a o u H0) ρ I (Cz a o u H) (D.cv X) r:=by
 let nx:∀(c:VE) (Q:St->Hp->V'),HL K M H0 ρ I H c Q->HL K M (Cz a o u H0) ρ I (Cz a o u H) c (λI=>Cv X<|Q I):=λc Q h f g R S=>by
  let(k,d):=S.ufz i;show .ρ #[a,o,u,pl,d,h f _ (R.ufz d j) k]
 cases r with
 |fail=>show h
 |next c=>show nx _ _ h
 |brk c=>show nx _ _ h
 |cont c=>show nx _ _ h
 |ret r=>
  intro v g s q;by_cases z:H0 a=Z u
  .let d:=s a _<|Jp z;apply .inr ⟨a,o,u,pl,d,h v _ (λb w e=>?_) (EY.ufz q)⟩;by_cases y:b=a
   .grind [Lp]
   .rw[J8 λx=>y x.1];show s b w (by rw[FW λx=>y x.1];show e)
  .let e:Cz a o u H0=H0:=funext λb=>FW (by rintro⟨rfl,y⟩;show z y);rw[e]at s q;show .O<|h v g s q
end
def Ea(d:D):Bh:=match d with
 |.lst b .d=>(EO b).j λa=>a.j λp=>kD p.1
 |_=>J
def
Au.at_any{K:Ao}{N b:Fb}{a:At}{v:V}(h:Au K N H (aD a) v):Au K b H (aD a) v:=by ext a<;>show h
def
Ad.at_any{K:Ao}{N b:Fb}{H:Hp}:∀{l:U At}{vs:U V},Ad K N H (l.j aD) vs->Ad K b H (l.j aD) vs
 |[],_,h=>h
 |a::l,vs,h=>by
  let(v,r,e,q,t):=h;show#[v,r,e,q.at_any,Ad.at_any t]
def
Au.key_any{K:Ao}{N b:Fb}{k:KT}{v:V}(h:Au K N H (kD k) v):Au K b H (kD k) v:=by
 cases k with| «at» a=>show Au.at_any h|tup l=>
  let(p,c,e,q,r):=h;show#[p,c,e,q,Ad.at_any r]
def
cM{K:Ao}{M N k:Fb}{f:Hp}{o:Obj}{tr:U T3}(g:PD K k f kvs tr)(hz:Cz a o (Ds tr) f a=Z (.frz o (Ds tr))):Mj K M N (Cz a o (Ds tr) f) (Lq a o (Ds tr) (tr.j λt=>t.2.1)) (kvs.j λp=>kD p.1):=λq r S i=>by
 let c:=S.kp a _ hz<|.inr<|.inr rfl;apply⟨λd hd=>?_,λe=>⟨c,by rw[<- g.kden.a];lia⟩⟩;apply#[#[c,g.kden.a ▸ ((Bp.mp hd).1)],λx s y=>?_];let(rfl,l):=y;apply#[Aj.σ _,?_];let(w,j,m):=g.kden.Χ hd;rw[l]at j;ext j;rw[CW]at hd;let(p,n,hd):=B2.mp hd;ext hd;show Au.Μ S _ _<|(Au.rd (λb v _ h=>Rd.fz rfl h) _ _ m).key_any
def
cN{K:Ao}{M:Fb}(R:By K M H0 ρ I H)(d:¬ Nf M ρ I a\/M a):∀(i:Y)(xs:U D)(b:Kd)(e:O Ac),ρ[i]?=Z (Sl.φ xs b e)->I[i]?≠Z (Z (V.I a)):=λi xs j e f g=>by
 rcases d with d|d
 .show d<|.ρ ⟨i,xs,j,e,f,g⟩
 .let(c,k,h,_,l,_):=R.ϓ i _ f;rw[g]at h;ext h;show l d
def
Inv.plain2{b:A1}{d:Hp}{s:Ab}{u:HO}(j:Inv X b I H s)(s1:Aj H d)(c:d a=Z u)(f:F9 u=J'):(∀xs,X.H₀ a≠Z (.S xs))/\(∀o v,X.H₀ a≠Z (.frz o v))/\∀ps,X.H₀ a≠Z (.tbl ps):=by
 let(_,g,h,i):=Ug f;apply#[λxs z=>?_,λo v z=>?_,λps z=>?_]
 .let y:=s1 _ _<|j.ω.tups a xs z;rw[c]at y;ext y;show g _ rfl
 .let y:=s1 _ _<|j.ω.frzs a o v z;rw[c]at y;ext y;show h _ _ rfl
 .let(m,e):=j.ω.tbls a ps z;let y:=s1 _ _ e;rw[c]at y;ext y;show i _ rfl
variable {M:Fb}{l:Expr}{f:Az}{b:D->VE->O VE}{g:As}
open J in
def
vG(hp:PassesOwn (Ah X.δ X.w) X.A X.C X.xe)(hc:X.Ϫ=J')(hl:PE X l (tQ X.K M H0 f))(hg:∀H0,PG X tg (tG X.K M H0 ws b))(hb:∀H0,E5 X body (tS X.K M H0 g)) (hs:∀x,EU l X.C x=Ax x:=by intro _;rfl):PS X (.For tg l body [] pos) (tS X.K M H0 (ZD (λρ=>(f ρ).J Ea) b g)):=by
 intro j s c H zA zB #[ρ,R,q];unfold ZD at q;dsimp only at q;cases S:f ρ with|none=>rw[S]at q;show B6 q|some d=>
 rw[S]at q;erw[DB]at q;cases B:Ea d with|none=>rw[B]at q;show B6 q|some ds=>
 rw[B]at q;unfold Ea at B;split at B
 .next xs=>
  cases Y':EO xs with|none=>rw[Y']at B;cases B|some C=>
  rw[Y']at B;ext B;apply Ba (Nw hp hc (Uh hl) (show PG X tg (λv c H Q=>∃H0,tG X.K M H0 ws b v c H Q)from λj s c H v u Q zB r ⟨H0,h⟩=>hg H0 j s c H v u Q zB r h) (show E5 X body (λD c H=>∃H0,tS X.K M H0 g D c H)from λj s c H D zB ⟨H0,h⟩=>hb H0 j s c H D zB h) hs j s c H (zA.cv X) zB ?_) λfl s' h=>h.cv;apply#[ρ,_,R,S,λv E P dq=>?_];rw[GJ Y']at dq;let(a,vs,rfl,hN,hr,dl):=dq;let(tr,dc,pd):=Jj hr dl;apply#[a,tr,rfl,dc,λo hz=>?_];let T:=R.st P;let fin:∀n,By X.K M n ρ c (Cz a o (Ds tr) E)->Bu X.K M n ρ c (Cz a o (Ds tr) E) (zA.cv X) (ZB b g (C.j λp=>kD p.1) ρ) ->
    ∃W:Y->Y->St->Hp->V',(∃m,W 0 m c<|Cz a o (Ds tr) E)/\∀i m c H,W i m c H->((Lq a o (Ds tr)<|tr.map λt=>t.2.1).stop i H/\(zA.cv X).nx c H)\/((Lq a o (Ds tr)<|tr.map λt=>t.2.1).go i H/\∃N:St->Hp->V',(∀F L,N F L->∃m',m'<m/\W (i+1) m' F L)/\∀x L,(Lq a o (Ds tr)<|tr.map λt=>t.2.1).yld i H x L->(∃H0,tG X.K M H0 ws b x c L λσ2 H2=>∃H0,tS X.K M H0 g {zA.cv X with nx:=N,ct:=N,bk:=(zA.cv X).nx} σ2 H2)):=λn R2 q2=>by
   let core:=aJ (K:=X.K) (M:=M) (H0:=n) (f:=λ_=>Z<|C.map λ(p:KT×D)=>kD p.1) (b:=b) (g:=g) (ws:=ws) (D':=zA.cv X) (I:=c) (H:=Cz a o (Ds tr) E) (wi:=tI X.K M n λ_=>Z<|C.map λ(p:KT×D)=>kD p.1)
    (tg':=λv c H Q=>∃H0,tG X.K M H0 ws b v c H Q) (tb:=λD c H=>∃H0,tS X.K M H0 g D c H) (λ_ _ _ z=>z) (λ_ _ _ _ z=>#[n,z]) (λ_ _ _ z=>#[n,z]) #[ρ,R2,q2]
   let(ρ',ds',R',e',k):=core;ext e';show k _ _ (Aj.σ _)<|(λN=>cM (M:=M) (N:=N) pd hz) _
  rcases dc.1 with G|⟨o',G⟩
  .show fin _ (T.fz rfl G<|cN T hN)<|Bu.fz rfl (Bu.from (Step.of_same P) q) G (λw e=>by have y:=T.η _ _ e;rw[G]at y;ext y;rfl) (zB.plain2 P G rfl)
  .let e:Cz a o (Ds tr) E=E:=funext λb=>FW (by rintro⟨rfl,y⟩;rw[G]at y;ext y);rw[e]at fin ⊢;show fin _ T (Bu.xv (Step.ϋ P) q).cv
 .cases B
def
vH(hp:PassesOwn (Ah X.δ X.w) X.A X.C X.xe)(hc:X.Ϫ=J')(a:JE X l (tQ X.K M H0 f))(c:∀H0,JG X tg (tG X.K M H0 ws b))(d:∀H0,JB X body (tS X.K M H0 g)) (e:∀x,EU l X.C x=Ax x:=by intro _;rfl):JS X (.For tg l body [] pos) (tS X.K M H0 (ZD (λρ=>(f ρ).J Ea) b g)):=#[vG hp hc a.h (λH0=>(c H0).h) (λH0=>(d H0).h) e]
end
def vI(K:Ao):V->U V->Hp->VK->V':=λx b H Q=>∃a tr k y,x=.I a/\b=[y]/\C5 K H a tr/\HR k tr/\BV K H k y/\Q ((CK tr k).B .κ) H
@[simp]def Om(x y:D):O D:=match x with
  |.lst b .d=>match EO b,Dw y with
   |some a,Z k=>if D6 k a then Z ((Zs a k).B .κ)else J
   |_,_=>J
  |_=>J
variable {M:Fb}{fo fk:Az}
def
vJ(B:X.A.ε+64<Ar):KV X "dict.get" (vI X.K):=by
 intro h s C H x E v e Q G n o zQ;let(a,tr,k,y,rfl,rfl,hd,i,j,q):=zQ;ext n;let(r,rfl,m):=o.one;cases k with
 | «at» b=>
  ext j;let(t,g,nd,e,rel,f):=N5 G hd i;let c:=rel.r b;apply call_meetsIn PySem.F.slot_dict_get f.ϕ PySem.F.entry_dict_get (PySem.F.args_dict_get_2 _ _) (meets_dict_get (ZH X.δ X.w) a (Iv m) g) #[_,f.mapOf,?_];cases hv:CK tr (.at b)with
  |none=>
   rw[hv]at q;cases d:valueAt e b with
   |none=>show#[.κ,H,G.tok _,rfl,q]
   |some w=>rw[hv,d]at c;show c.Δ
  |some w=>
   rw[hv]at q;cases d:valueAt e b with
   |none=>rw[hv,d]at c;show c.Δ
   |some u=>rw[hv,d]at c;show#[w,H,G.tok _,c,q]
 |tup l=>
  let(p,rfl,z):=j;cases(show r=DR p from m);let(t,g,nd,e,rel,f):=Ld G hd i;let c:=rel.r l;apply call_meetsIn PySem.F.slot_dict_get f.ϕ PySem.F.entry_dict_get (PySem.F.args_dict_get_2 _ _) (meetsH_dict_get (Cb<|ZH X.δ X.w) a p g) ⟨Le ∅,l,e,Jh G z,f,?_⟩;cases hv:CK tr (.S l)with
  |none=>
   rw[hv]at q;cases d:atKey e l with
   |none=>show#[.κ,H,G.tok _,rfl,q]
   |some w=>rw[hv,d]at c;show c.Δ
  |some w=>
   rw[hv]at q;cases d:atKey e l with
   |none=>rw[hv,d]at c;show c.Δ
   |some u=>rw[hv,d]at c;show#[w,H,G.tok _,c,q]
open J in
def
vK(G:X.A.ε+64<Ar)(zA:JE X o (tP X.K M H0 fo))(P:JE X ek (tP X.K M H0 fk)) (c:FQ o "get" X.C (Aq o X.C)=Aq o X.C:=by rfl) (f:((AA cpos (AH [ek] X.C)).Ϛ (λx=>!x.1)&&(Gy cpos (Gz [] X.C)).Ϛ (λx=>x.1.υ) && decide ([ek].a+([]:U EA).a+(if([]:U EA).Φ then 0 else 1)<30))=J':=by rfl) (e:(apos.ϯ==cpos.ϡ)=J':=by rfl) (g:AH [ek] X.C=(O',Aq ek X.C)::AH [] X.C:=by show D2 rfl) (l:(AA cpos (AH [] X.C)).any (·.1)=O':=by rfl):JE X (.Ν (.γ o "get" apos) [ek] [] cpos) (tD X.K M H0 (Za Om fo fk)):=#[(HG T6 PySem.F.slot_dict_get PySem.F.type_dict_get (vJ G) zA.h (Z5 P.h Bn g) c f e g l).ζ λI H Q L=>by
   let(t,d,R,ex,q):=L;let(x,y,N,S,ex):=aw ex;unfold Om at ex;split at ex
   .next xs=>
    split at ex
    .next m k n p=>
     let(T,ex):=Z1 ex;ext ex;let r:=GJ n;subst r;apply#[t,_,R,N,λv H1 z hv=>?_];let(a,vs,rfl,B,hd):=hv;apply#[.ρ<|.inr ⟨rfl,_,_,B⟩,t,y,R.st z,S,λw W s C=>?_];let(tr,Y',E):=Jj (B.η s)<|hd.η s;rw[Iw p]at C;let b:=E.r k;apply#[a,tr,k,w,rfl,rfl,Y',E.hom T,HS<|He C,q _ W (z.G s) ?_];cases i:Zs m k with
     |none=>
      rw[i]at b;cases j:CK tr k with
      |none=>erw[Option.getD,Au]
      |some u=>rw[j]at b;show b.Δ
     |some d0=>
      rw[i]at b;cases j:CK tr k with
      |none=>rw[j]at b;show b.Δ
      |some u=>rw[j]at b;show b
    .cases ex
   .cases ex]
end
end Internal
namespace Internal
open PySem PySem.Spec PyProof.Rows
structure IB(P:AS)(w:Ai)(i:Ac)(fp:List Ac)(n:Y)(is:Y->Aa->V')(st:Y->Al->V'):V' where
 frame:∀k h h',st k h->(∀b,b=i\/b∈fp->∀o,h.U b=Z o->h'.U b=Z o)->st k h'
 lt:∀k h,st k h->i<h.L.y
 item:∀(A:Ag) (E:AR) (s:Ab) (k:Y) (Q:AR),k<n->st k s.u->(∀v h' tk,is k v->st (k+1) h'->Ex i s.u h'->Q v {s with heap:=h',toks:=tk})->wpAny (Ah P w) A (cO (.I i)) Q E s
 fin:∀(A:Ag) (E:AR) (s:Ab) (k:Y) (Q:AR),A.Ϝ=J->n<=k->st k s.u->(∀h' e,Heap.ExtBut i s.u h'->(∃o,h'.U e=Z o/\o.cls=.ι "StopIteration")->E (.I e) {s with heap:=h' }) ->
  wpAny (Ah P w) A (cO (.I i)) Q E s
variable {prog:AS}{w:Ai}{A:Ag}{s:Ab}
def
cP{i tu:Ac}{k:Y}{b:Array Aa}{Q:AR}(f:s.u.ϸ i tu k)(j:s.u.IsTuple tu b)(q:∀v,b[k]?=Z v->∀h',h'.ϸ i tu (k+1)->Ex i s.u h'->Q v {s with heap:=h' }) (g:b[k]?=J->A.Ϝ=J/\∀h' e,Heap.ExtBut i s.u h'->(∃o,h'.U e=Z o/\o.cls=.ι "StopIteration")->E (.I e) {s with heap:=h' }):wpAny (Ah prog w) A (cO (.I i)) Q E s:=by
 let(r,d,l,c):=id f;let(t,n,_,u,p):=j;apply An<|L6 (name:=JP "__next__") f.ϕ PySem.F.slot_tuple_iterator_next (KR PySem.F.slot_tuple_iterator_next f.ϕ PySem.F.entry_tuple_iterator_next ?_<|PySem.F.args_tuple_iterator_next_1 _);change wpAny _ _ (field (.I i) 0 >>= _) _ _ s
 apply An<|F3 d c (x:=.I tu) rfl ?_;apply An<|F3 d c (x:=.o k 0) rfl ?_;apply An<|wpAny_seqItems n p ?_;erw[Jn];cases hv:b[k]? with
 |some v=>
  show An<|wpAny_setField d c (by simp)<|AV ⟨v,rfl,AV<|q _ hv _ ⟨_,PN _ d<|Obj.isFreed_of_fields<|Uf c _,(Obj.cls_mapFields ..).G l,by rw[Uf c];simp[BQ]⟩<|J5 ..⟩
 |none=>
  apply An<|JQ<|An<|wpAny_setField d c (by simp) ?_;apply An ?_;apply An<|KU ?_ (show(0:Y)<=Av by ext);apply An (m:=firstArgMember _ _) (wpAny_of_eq (a:=Value.Η) (by first|rfl|(unfold firstArgMember;rfl)) ?_);apply KU ?_ (by size_fits);apply An<|wpAny_handled ?_;first|rw[(g hv).1]|rw[show A.in1.Ϝ=J from(g hv).1]
  show An<|AV<|wpAny_throw<|(g hv).2 _ _ ((Heap.ExtBut.ύ (Heap.SameBut.ψ<|J5 ..) _).ύ _) ⟨_,CD _ rfl,rfl⟩
def
vM{P:AS}{w:Ai}{i l:Ac}{xs:U V}(d:Array Aa)(r:Ap xs d.α):IB P w i [l] xs.a (λk v=>∃x,xs[k]?=Z x/\RelV x v) (λk h=>h.IsListIter i l k/\h.IsList l d) where
 frame:=λk h j ⟨a,b⟩ kp=>#[a.at λo e=>kp i (.O rfl) o e,b.at λo e=>kp l (.ρ (by simp)) o e];lt:=λk h ⟨⟨o,e,_⟩,_⟩=>BX e;item:=λA E s k Q g ⟨a,b⟩ q=>by
  let(u,t,y):=r.Χ<|BZ g;apply wpAny_nextOf_list_item a b (x:=u) (by exists t) λj z m=>?_;by_cases f:l=i
  .subst f;let(o,e,c,_):=a;let(C,n,p,_):=b;rw[e]at n;ext n;rw[c]at p;show absurd p (by ext)
  .show q _ j s.Ε #[_,BZ g,y] #[z,b.ψ m.ψ f] m
 fin:=λA E s k Q B g ⟨a,b⟩ q=>wpAny_nextOf_list_end B a b (Array.ϳ (by have f:=r.a;simp at f;show le_of_eq_of_le f.Ζ g)) q
def
vN{P:AS}{w:Ai}{i l:Ac}{xs:U V}(d:Array Aa)(r:Ap xs d.α):IB P w i [l] xs.a (λk v=>∃x,xs[k]?=Z x/\RelV x v) (λk h=>h.ϸ i l k/\h.IsTuple l d) where
 frame:=λk h n ⟨a,b⟩ kp=>#[a.at λo e=>kp i (.O rfl) o e,b.at λo e=>kp l (.ρ (by simp)) o e];lt:=λk h ⟨⟨o,e,_⟩,_⟩=>BX e;item:=λA E s k Q j ⟨a,b⟩ q=>by
  let(u,m,B):=r.Χ<|BZ j;let m:d[k]?=Z u:=by exists m
  apply cP a b (λv f n C p=>?_) λz=>by rw[m]at z;ext z
  rw[m]at f;ext f;by_cases g:l=i
  .subst g;let(o,e,c,_):=a;let(H,t,y,_):=b;rw[e]at t;ext t;rw[c]at y;show absurd y (by ext)
  .show q _ n s.Ε #[_,BZ j,B] #[C,b.at λo e=>p.ψ _ _ g e] p
 fin:=λA E s k Q G j ⟨a,b⟩ q=>cP a b (λv f=>by rw[Array.ϳ (by have g:=r.a;simp at g;show le_of_eq_of_le g.Ζ j)]at f;ext f) λ_=>#[G,q]
def MA(x:Ae):String:=if x.Ϩ.Ϛ (·<128)=J' then "str_ascii_iterator" else "str_iterator"
def GK(x:Ae):U V:=x.Ϩ.α.j λc=>.Ι #[(T' [c])]
def
vO{P:AS}{w:Ai}{i:Ac}(x:Ae):IB P w i [] (GK x).a (λk v=>∃y,(GK x)[k]?=Z y/\RelV y v) (λk h=>∃t,h.IsStrIter i (MA x) x t k) where
 frame:=λk h f ⟨t,o,e,r⟩ kp=>#[t,o,kp i (.O rfl) o e,r];lt:=λk h ⟨t,o,e,_⟩=>BX e;item:=λA E s k Q g ⟨t,a⟩ q=>by
  let b:k<x.Ϩ.y:=by simpa[GK]using g
  unfold MA at a q;by_cases d:x.Ϩ.Ϛ (·<128)=J'
  .rw[if_pos d]at a q;show wpAny_nextOf_ascii_item a (c:=x.Ϩ[k]) (by simp[b]) λf j l=>q _ f (s.Ε+1) #[.Ι #[(T' [x.Ϩ[k]])],by simp[GK,b],_,rfl] #[t,j] l
  .rw[if_neg d]at a q;show wpAny_nextOf_wide_item a (c:=x.Ϩ[k]) (by simp[b]) λf j l=>q _ f (s.Ε+1) #[.Ι #[(T' [x.Ϩ[k]])],by simp[GK,b],_,rfl] #[t,j] l
 fin:=λA E s k Q m g ⟨t,a⟩ q=>by
  let b:x.Ϩ.y<=k:=by simpa[GK]using g
  unfold MA at a;by_cases d:x.Ϩ.Ϛ (·<128)=J'
  .rw[if_pos d]at a;show wpAny_nextOf_ascii_end m a (by simp[b]) q
  .rw[if_neg d]at a;show wpAny_nextOf_wide_end m a (by simp[b]) q
structure CT(z tin tout ia ib:Ac)(fa fb:List Ac):V' where
 n1:tin≠z
 n2:tout≠z
 n3:ia≠z
 n4:ib≠z
 n5:tin≠tout
 n6:tin≠ia
 n7:tin≠ib
 n8:tout≠ia
 n9:tout≠ib
 n10:ia≠ib
 fz:∀b,b∈fa\/b∈fb->b≠z/\b≠tout/\b≠ia/\b≠ib
variable {z tin tout ia ib:Ac}{fa fb:U Ac}{n m k:Y}{isB:Y->Aa->V'}{sa sb:Y->Al->V'}{a b:Aa}
def
CT.keepA(D:CT z tin tout ia ib fa fb)(d:IB prog w ia fa n isA sa){h h':Al}(st:sa k h){c:Ac}(hc:c=z\/c=tout\/c=ib)(a:Ex c h h'):sa k h':=d.frame k h h' st λx b o e=>by
  apply a.ψ x o ?_ e;rcases b with rfl|b
  .rcases hc with rfl|rfl|rfl
   .show D.n3
   .show B8 D.n8
   .show D.n10
  .let(f,g,q3,i):=D.fz x<|.O b;rcases hc with rfl|rfl|rfl
   .show f
   .show g
   .show i
def
CT.keepB(D:CT z tin tout ia ib fa fb)(SB:IB prog w ib fb n isB sb){h h':Al}(st:sb k h){c:Ac}(hc:c=z\/c=tout\/c=ia)(a:Ex c h h'):sb k h':=SB.frame k h h' st λx b o e=>by
  apply a.ψ x o ?_ e;rcases b with rfl|b
  .rcases hc with rfl|rfl|rfl
   .show D.n4
   .show B8 D.n9
   .show B8 D.n10
  .let(d,f,q3,g):=D.fz x<|.ρ b;rcases hc with rfl|rfl|rfl
   .show d
   .show f
   .show q3
def
cQ{Q:O Aa->Ab->V'}(D:CT z tin tout ia ib fa fb)(i:IB prog w ia fa n isA sa)(SB:IB prog w ib fb m isB sb)
  (hz:IsZip s.u z tin tout .Η) (hi:IsPair s.u tin (.I ia) (.I ib)) (ho:IsPair s.u tout a b) (ha:sa k s.u) (hb:sb k s.u)
  (q:k<n->k<m->∀x y h' r,isA k x->isB k y->IsZip h' z tin tout (BQ s.u.L.y)->IsPair h' tout x y->sa (k+1) h'->sb (k+1) h'->IsPair h' s.u.L.y x y->h'.L.y=s.u.L.y+1 ->
   (∀c o,c≠z->c≠tout->c≠ia->c≠ib->s.u.U c=Z o->h'.U c=Z o)->Q (Z (.I s.u.L.y)) {s with heap:=h',toks:=r})
  (P:n<=k\/m<=k->A.Ϝ=J/\∀h' r,(∀c o,c≠z->c≠tout->c≠ia->c≠ib->s.u.U c=Z o->h'.U c=Z o)->Q J {s with heap:=h',toks:=r}):
  wpAny (Ah prog w) A (pyNext (.I z)) Q E s:=by
 let j:n<=k\/m<=k->∀(h':Al) (r:Y) (e:Ac),(∀c o,c≠z->c≠tout->c≠ia->c≠ib->s.u.U c=Z o->h'.U c=Z o)->(∃o,h'.U e=Z o/\o.cls=.ι "StopIteration") ->
   wpAny (Ah prog w) A (do if(<- isInstance (.I e) (.ι "StopIteration"))=J' then Ax (J:O Aa)else throw (DR e)) Q E {s with heap:=h',toks:=r}:=λkn h' r e kp ⟨o,g,d⟩=>
  An (wpAny_isInstance (T:="StopIteration") (b:=J') #[o,g,d] isSubtype_stop (AV ((P kn).2 h' r kp)))
 apply An (wpAny_attempt (L6 (name:=JP "__next__") #[_,hz,rfl] PySem.F.slot_zip_next (KR PySem.F.slot_zip_next #[_,hz,rfl] PySem.F.entry_zip_next ?_ (PySem.F.args_zip_next_1 _))))
 change wpAny _ _ (field (.I z) 2 >>= _) _ _ _
 apply An (F3 hz rfl (x:=.Ϡ O') rfl ?_)
 apply An (F3 hz rfl (x:=.I tin) rfl ?_)
 apply An (wpAny_seqItems hi rfl ?_)
 apply An ?_
 apply An (F3 hz rfl (x:=.Η) rfl (AV ?_))
 apply An (JQ ?_)
 apply An (F3 hz rfl (x:=.I tout) rfl ?_)
 apply An (IC hz (by simp) λg1 L l=>?_)
 apply An ?_
 apply An (An (wpAny_onRaise ?_))
 by_cases G:n<=k
 .apply An (i.fin A.in1 _ _ k _ (P (.O G)).1 G (D.keepA i ha (.O rfl) l) λg2 e R Y'=>?_)
  let(oe,g,d):=Y'
  show IC (R _ _ (B8 D.n3) L) (by simp) λg3 _ f=>j (.O G) g3 s.Ε e (λc o d _ t _ x=>f.ψ _ _ d (R _ _ t (l.ψ _ _ d x))) #[oe,f.ψ _ _ (λx=>by subst x;rw[R _ _ (B8 D.n3) L]at g;ext g;simp at d) g,d]
 .apply An (i.item _ _ _ k _ (Nat.lt_of_not_le G) (D.keepA i ha (.O rfl) l) λx g2 tk2 hx a2 u=>AV ?_)
  let o2:IsPair g2 tout a b:=u.ψ _ _ D.n8 (l.ψ _ _ D.n2 ho)
  apply An (wpAny_seqItems o2 rfl ?_)
  apply An (wpAny_updateSeq_pair o2 λg3 o3 f=>?_)
  apply An (wpAny_letGo (AV ?_))
  apply An (An (wpAny_onRaise ?_))
  let H:sb k g3:=D.keepB SB (D.keepB SB (D.keepB SB hb (.O rfl) l) (.ρ (.ρ rfl)) u) (.ρ (.O rfl)) f
  by_cases S:m<=k
  .apply An (SB.fin A.in1 _ _ k _ (P (.ρ S)).1 S H λg4 e x4 Y'=>?_)
   let(oe,g,d):=Y'
   let z4:IsZip g4 z tin tout .ellipsis:=x4 _ _ (B8 D.n4) (f.ψ _ _ (B8 D.n2) (u.ψ _ _ (B8 D.n3) L))
   show IC z4 (by simp) λh _ p=>j (.ρ S) h tk2 e (λc o d v t K x=>p.ψ _ _ d (x4 _ _ K (f.ψ _ _ v (u.ψ _ _ t (l.ψ _ _ d x))))) #[oe,p.ψ _ _ (λx=>by subst x;rw[z4]at g;ext g;simp at d) g,d]
  .apply An (SB.item _ _ _ k _ (Nat.lt_of_not_le S) H λy g4 tk4 hy a4 B=>AV ?_)
   apply An (wpAny_seqItems (B.ψ _ _ D.n9 o3) rfl ?_)
   apply An (wpAny_updateSeq_pair (B.ψ _ _ D.n9 o3) λh M p=>?_)
   let M:IsPair h tout x y:=M
   apply An (wpAny_letGo (AV (AV ?_)))
   apply An (wpAny_seqItems M rfl ?_)
   apply An (wpAny_newTuple ?_)
   let sz:h.L.y=s.u.L.y:=by rw[p.1,B.1,f.1,u.1,l.1]
   let z5:IsZip h z tin tout .ellipsis:=p.ψ _ _ (B8 D.n2) (B.ψ _ _ (B8 D.n4) (f.ψ _ _ (B8 D.n2) (u.ψ _ _ (B8 D.n3) L)))
   let kp:∀c o,c≠z->c≠tout->c≠ia->c≠ib->s.u.U c=Z o->h.U c=Z o:=λc o d v t K e=>
    p.ψ _ _ v (B.ψ _ _ K (f.ψ _ _ v (u.ψ _ _ t (l.ψ _ _ d e))))
   apply An ?_
   apply An (IC (BR _ z5) (by simp) λg7 z7 b7=>?_)
   apply IC z7 (by simp) λC z8 b8=>?_
   let N:∀c o,c≠z->h.U c=Z o->C.U c=Z o:=λc o d e=>b8.ψ _ _ d (b7.ψ _ _ d (BR _ e))
   let new:IsPair C h.L.y x y:=b8.ψ _ _ (Ii (BX z5)) (b7.ψ _ _ (Ii (BX z5)) (CD _ rfl))
   let s8:C.L.y=h.L.y+1:=by rw[b8.1,b7.1,KI]
   let a8:sa (k+1) C:=i.frame _ _ _ (D.keepA i (D.keepA i (D.keepA i a2 (.ρ (.O rfl)) f) (.ρ (.ρ rfl)) B) (.ρ (.O rfl)) p) λc hc o e=>N c o (by
    rcases hc with rfl|hc
    .show D.n3
    .show(D.fz c (.O hc)).1) e
   let b8':sb (k+1) C:=SB.frame _ _ _ (D.keepB SB a4 (.ρ (.O rfl)) p) λc hc o e=>N c o (by
    rcases hc with rfl|hc
    .show D.n4
    .show(D.fz c (.ρ hc)).1) e
   rw[sz]at z8 new s8
   apply AV #[_,rfl,AV ?_]
   rw[sz]
   show q (Nat.lt_of_not_le G) (Nat.lt_of_not_le S) x y C tk4 hx hy z8 (N _ _ D.n2 M) a8 b8' new s8 λc o d v t K e=>N c o d (kp c o d v t K e)
end
end
inductive AO where
 |l (a:Ac)
 |t (a:Ac)
 |x (s:Ae)
@[reducible] def AO.v:AO->V
  |.l a=>.I a
  |.t a=>.I a
  |.x s=>.Ι s
@[reducible] def AO.fp:AO->U Ac
  |.l a=>[a]
  |.t a=>[a]
  |.x _=>[]
def AO.sq(K:Ao)(H:Hp):AO->U V->V'
 |.l a=>Ca K H a
 |.t a=>Ck K H a
 |.x s=>λb=>b=GK s
def AO.nm:AO->String
 |.l _=>"list_iterator"
 |.t _=>"tuple_iterator"
 |.x s=>MA s
def AO.ok(h:Al)(xs:U V):AO->V'
 |.l a=>∃b:Array Aa,Ap xs b.α/\h.IsList a b
 |.t a=>∃b:Array Aa,Ap xs b.α/\h.IsTuple a b
 |.x s=>xs=GK s
def AO.it(h:Al)(i:Ac)(k:Y):AO->V'
 |.l a=>h.IsListIter i a k
 |.t a=>h.ϸ i a k
 |.x s=>∃t,h.IsStrIter i (MA s) s t k
def
AO.of(S:AO){c:A1}{s:Ab}{xs:U V}(d:Inv X c I H s)(h:S.sq X.K H xs):S.ok s.u xs:=by
 cases S with
 |l a=>let(b,r,p,z):=d.Ϥ h;show#[b.E,r,p.ό]
 |t a=>let(b,r,p,z):=d.ϒ h;show#[b.E,r,(show s.u.IsTuple a b.E from p)]
 |x s=>show h
def
AO.inj(S:AO){b:A1}{s:Ab}{xs:U V}(c:Inv X b I H s)(h:S.sq X.K H xs)(h':S.sq X.K H ys):xs=ys:=by
 cases S with
 |l a=>show c.list_inj h h'
 |t a=>show c.tuple_inj h h'
 |x s=>show(show xs=GK s from h).G (show ys=GK s from h').Ζ
def
AO.lt(S:AO){h:Al}{xs:U V}(p:S.ok h xs):∀b∈S.fp,b<h.L.y:=by
 intro b c;cases S with
 |l a=>rw[Cg.mp c];let(d,_,o,e,_):=p;show BX e
 |t a=>rw[Cg.mp c];let(d,_,o,e,_):=p;show BX e
 |x s=>ext c
def
AO.okAt(S:AO){h h':Al}{xs:U V}(p:S.ok h xs)(k:∀b∈S.fp,∀o,h.U b=Z o->h'.U b=Z o):S.ok h' xs:=by
 cases S with
 |l a=>let(c,r,q):=p;show#[c,r,Heap.IsList.at q<|k a (by simp)]
 |t a=>let(c,r,q):=p;show#[c,r,Heap.IsTuple.at q<|k a (by simp)]
 |x s=>show p
def
AO.itAt(S:AO){h h':Al}{i:Ac}{n:Y}(p:S.it h i n)(k:∀o,h.U i=Z o->h'.U i=Z o):S.it h' i n:=by
 cases S with
 |l a=>show Heap.IsListIter.at p k
 |t a=>show Heap.ϸ.at p k
 |x s=>let(t,o,e,r):=p;show#[t,o,k o e,r]
def
AO.itOb(S:AO){h:Al}{i:Ac}{n:Y}(p:S.it h i n):∃o,h.U i=Z o/\∀v,o.data≠.Ο v:=by
 cases S with
 |l a=>let(o,e,c,d):=p;show#[o,e,λv z=>by rw[d]at z;cases z]
 |t a=>let(o,e,c,d):=p;show#[o,e,λv z=>by rw[d]at z;cases z]
 |x s=>let(t,o,e,c,d):=p;show#[o,e,λv z=>by rw[d]at z;cases z]
def
AO.sub(S:AO){P:AS}{w:Ai}{i:Ac}{h:Al}{xs:U V}(p:S.ok h xs):∃st:Y->Al->V',IB P w i S.fp xs.a (λk v=>∃x,xs[k]?=Z x/\RelV x v) st/\(∀k,S.it h i k->st k h)/\∀k h',st k h'->S.it h' i k:=by
 cases S with
 |l a=>let(b,r,q):=p;show#[_,vM b r,λk e=>#[e,q],λk h' e=>e.1]
 |t a=>let(b,r,q):=p;show#[_,vN b r,λk e=>#[e,q],λk h' e=>e.1]
 |x s=>rw[show xs=GK s from p];show#[_,vO s,λk e=>e,λk h' e=>e]
def AO.obj(S:AO)(u:Aa):Obj:={cls:=.ι S.nm,data:=.Ϙ (T' [u,.o 0 0])}
open J in
def
AO.pyIter(S:AO){prog:AS}{w:Ai}{A:Ag}{E:AR}{s:Ab}{xs:U V}{u:Aa}(c:RelV S.v u){Q:AR}(p:S.ok s.u xs) (q:Q (.I s.u.L.y) {s with heap:=s.u.ύ (S.obj u)}):wpAny (Ah prog w) A (pyIter u) Q E s:=by
 cases S with
 |l a=>let(d,r,p):=p;let e:u=.I a:=c;subst e;show Pu p q
 |t a=>let(d,r,p):=p;let e:u=.I a:=c;subst e;show wpAny_pyIter_tuple p q
 |x x=>
  let(t,rfl):=(show ∃t,u=Value.Ι x t from c);unfold AO.obj AO.nm MA at q;by_cases b:x.Ϩ.Ϛ (·<128)=J'
  .erw[b,if_true]at q;show wpAny_pyIter_ascii b q
  .erw[b,if_false]at q;show wpAny_pyIter_wide (by exists b) q
def
AO.new(S:AO){h:Al}(b:RelV S.v u):S.it (h.ύ (S.obj u)) h.L.y 0:=by
 cases S with
 |l a=>have e:u=.I a:=b;subst e;show#[_,CD _ rfl,rfl,rfl]
 |t a=>have e:u=.I a:=b;subst e;show#[_,CD _ rfl,rfl,rfl]
 |x x=>let(t,rfl):=(show ∃t,u=Value.Ι x t from b);show#[t,_,CD _ rfl,rfl,rfl]
@[reducible] def On(h:Al)(A:AO)(u:Aa):Al:=h.ύ (A.obj u)
@[reducible] def Oo(h:Al)(A B:AO)(u v:Aa):Al:=(On h A u).ύ (B.obj v)
@[reducible] def Qz(h:Al)(A B:AO)(u v:Aa):Al:=(Oo h A B u v).ύ {cls:=.ι "tuple",data:=.ϴ (T' [.I h.L.y,.I (On h A u).L.y])}
@[reducible] def QA(h:Al)(A B:AO)(u v:Aa):Al:=(Qz h A B u v).ύ {cls:=.ι "tuple",data:=.ϴ (T' [.Η,.Η])}
@[reducible] def MB(h:Al)(A B:AO)(u v:Aa):Al:=(QA h A B u v).ύ {cls:=.ι "zip",data:=.Ϙ (T' [.Η,.Ϡ O',.Ϡ O',.I (Oo h A B u v).L.y,.I (Qz h A B u v).L.y])}
def
vP(A B:AO){v:Aa}(a:RelV A.v u)(c:RelV B.v v)(xs ys:U V):Meets (F8.«zip.__new__» #[[.ι "zip",u,v],[]]) (λ_ R s=>A.ok s.u xs/\B.ok s.u ys/\R (.ok (.ϱ (.I (QA s.u A B u v).L.y))) {s with heap:=MB s.u A B u v}):=.of_wp λprog w j R s h=>by
  let(hp,g,d,k,os):=s;let(f,i,q):=h;let l:=sub_zip;wp_walk using A.pyIter a f,B.pyIter c<|B.okAt i λb _ o e=>BR _ e;show#[_,rfl,q]
variable {prog:AS}{w:Ai}{A:Ag}{s:Ab}
def
vQ{S T:AO}{xs:U V}{v:Aa}(i:RelV S.v u)(j:RelV T.v v){Q:AR}(p1:S.ok s.u xs)(p:T.ok s.u ys) (q:∀h',IsZip h' (s.u.L.y+4) (s.u.L.y+2) (s.u.L.y+3) .Η->IsPair h' (s.u.L.y+2) (.I s.u.L.y) (.I (s.u.L.y+1))->IsPair h' (s.u.L.y+3) .Η .Η->S.it h' s.u.L.y 0->T.it h' (s.u.L.y+1) 0->(∀c o,s.u.U c=Z o->h'.U c=Z o)->Q (.I (s.u.L.y+4)) {s with heap:=h' }):wpAny (Ah prog w) A (call (.ι "zip") [u,v]) Q E s:=by
 apply callType_new PySem.F.called_zip (by ext) (PySem.F.typeCall_zip_2 _ _) (PySem.F.newCall_zip_2 _ _) (λobj=>PySem.F.args_object_init_3 obj _ _) PySem.F.entry_zip_new (vP S T i j xs ys) #[p1,p,?_];let a:(On s.u S u).L.y=s.u.L.y+1:=KI ..;let b:(Oo s.u S T u v).L.y=s.u.L.y+2:=by rw[KI,a]
 let d:(Qz s.u S T u v).L.y=s.u.L.y+3:=by rw[KI,b]
 let k:(QA s.u S T u v).L.y=s.u.L.y+4:=by rw[KI,d]
 let f:(MB s.u S T u v).U (QA s.u S T u v).L.y=Z _:=CD _ rfl;let l:(MB s.u S T u v).U (Qz s.u S T u v).L.y=Z _:=BR _<|CD _ rfl;let m:(MB s.heap S T u v).get? (Oo s.heap S T u v).objs.size=Z _:=BR _<|BR _<|CD _ rfl;let g:∀c o,(Oo s.heap S T u v).get? c=Z o->(MB s.heap S T u v).get? c=Z o:=λc o e=>BR _<|BR _<|BR _ e;let n:T.it (MB s.heap S T u v) (On s.heap S u).objs.size 0:=T.itAt (T.new (h:=On s.heap S u) j) λo e=>g _ o e;rw[b,d,k]at f;rw[a,b]at m;rw[d]at l;rw[a]at n;rw[k];show#[#[_,f,rfl],q _ f m l (S.itAt (S.new (h:=s.u) i) λo e=>g _ o<|BR _ e) n λc o e=>g _ _<|BR _<|BR _ e]
end
def cR(K:Ao)(S T:AO):It:=
 #[λi H=>∃a b x y,S.sq K H a/\T.sq K H b/\a[i]?=Z x/\b[i]?=Z y,
  λi H v c=>∃p x y,v=.I p/\H p=J/\c=AL H p (.S [x,y])/\(∀a,S.sq K H a->a[i]?=Z x)/\∀b,T.sq K H b->b[i]?=Z y,
  λi H=>∃a b,S.sq K H a/\T.sq K H b/\(a.a<=i\/b.a<=i)]
def
cT{n:Y}{S T:AO}(a:∀b∈S.fp,b<n)(c:∀b∈T.fp,b<n):CT (n+4) (n+2) (n+3) n (n+1) S.fp T.fp where
 n1:=by(show @Ne Y _ _;show W.Z.v0 n 2 4 rfl)
 n2:=by(show @Ne Y _ _;show W.Z.v0 n 3 4 rfl)
 n3:=by(show @Ne Y _ _;lia)
 n4:=by(show @Ne Y _ _;show W.Z.v0 n 1 4 rfl)
 n5:=by(show @Ne Y _ _;show W.Z.v0 n 2 3 rfl)
 n6:=by(show @Ne Y _ _;lia)
 n7:=by(show @Ne Y _ _;show W.Z.v0 n 2 1 rfl)
 n8:=by(show @Ne Y _ _;lia)
 n9:=by(show @Ne Y _ _;show W.Z.v0 n 3 1 rfl)
 n10:=by(show @Ne Y _ _;show Nat.ne_add_one n)
 fz:=λb d=>by
  grind
def
vR{P:AS}{w:Ai}{K:Ao}{m:U Expr} {x1} (S T:AO) (n:Y) (h1:∀b∈S.fp,b<n) (h2:∀b∈T.fp,b<n):
  Ij P w K (.ϫ m x1 pos) (cR K S T) [n+4,n+2,n+3,n,n+1] (n+4) (λi h=>IsZip h (n+4) (n+2) (n+3) .Η/\IsPair h (n+2) (.I n) (.I (n+1))/\(∃a b,IsPair h (n+3) a b)/\S.it h n i/\T.it h (n+1) i) where
 mem:=by simp
 obj:=λi h z0 q f=>by
  let(z,a,(x,y,b),c,d):=z0
  erw[Bw,Lb,or_false]at f
  rcases f with rfl|rfl|rfl|rfl|rfl
  .show#[_,z,λv e=>nomatch (show Data.Ϙ _=Data.Ο v from e)]
  .show#[_,a,λv e=>nomatch (show Data.ϴ _ _=Data.Ο v from e)]
  .show#[_,b,λv e=>nomatch (show Data.ϴ _ _=Data.Ο v from e)]
  .show S.itOb c
  .show T.itOb d
 keep:=λi h t ⟨z,a,⟨x,y,b⟩,c,d⟩ k=>#[k _ (by simp) _ z,k _ (by simp) _ a,#[x,y,k _ (by simp) _ b],S.itAt c λo e=>k _ (by simp) o e,T.itAt d λo e=>k _ (by simp) o e]
 item:=by
  intro X F L M hc i g s I H E zB A #[z,a,#[u,v,b],c,d] #[xs,ys,x,y,B,C,ex,N]
  subst F L M
  let(sa,R,Q,c2):=S.sub (P:=X.δ) (w:=X.w) (i:=n) (S.of zB B)
  let(zA,SB,Y',d2):=T.sub (P:=X.δ) (w:=X.w) (i:=n+1) (T.of zB C)
  let l1:=(Bp.mp ex).1
  let l2:=(Bp.mp N).1
  apply cQ (cT h1 h2) R SB z a b (Q _ c) (Y' _ d) (λ_ _ x' y' t G hx' hy' z' to' c' d' new sz kp=>?_) λhl=>absurd hl ∅
  let(x2,p,ru1):=hx'
  let(y2,r,ru2):=hy'
  rw[ex]at p;ext p
  rw[N]at r;ext r
  apply#[_,rfl,wpAny_letOwnedTupleGo_zip z' λj z2 zA=>?_]
  let hlt:n+4<s.u.L.y:=BX z
  let l:∀q o,q≠n+4->t.U q=Z o->j.U q=Z o:=λq o f e=>zA.ψ _ _ f e
  let I1:Inv X g I (AL H s.u.L.y (.S [x,y])) {s with heap:=j,toks:=G}:=by
   apply Inv.tok (s:={s with heap:=j}) ?_ G
   show zB.yielded A (λq o f e=>l q o (λz=>f (by simp[z])) (kp q o (λz=>f (by simp[z])) (λz=>f (by simp[z])) (λz=>f (by simp[z])) (λz=>f (by simp[z])) e)) (Bg _) #[show 2<=Av by ext,[x',y'],.Α ru1 (.Α ru2 .ώ),#[_,l _ _ (by(show @Ne Y _ _;show B8 (Cq hlt))) new,rfl,_,rfl]]
  apply#[.I s.u.L.y,_,I1,rfl,#[_,x,y,rfl,zB.ϥ.Ξ (Bg _),rfl,λzs hz=>S.inj zB hz B ▸ ex,λzs hz=>T.inj zB hz C ▸ N],#[z2,l _ _ (by(show @Ne Y _ _;show W.Z.v0 n 2 4 rfl)) (kp _ _ (by(show @Ne Y _ _;show W.Z.v0 n 2 4 rfl)) (by(show @Ne Y _ _;show W.Z.v0 n 2 3 rfl)) (by(show @Ne Y _ _;lia)) (by(show @Ne Y _ _;show W.Z.v0 n 2 1 rfl)) a),#[x',y',l _ _ (by(show @Ne Y _ _;show W.Z.v0 n 3 4 rfl)) to'],S.itAt (c2 _ _ c') λo e=>l _ o (by(show @Ne Y _ _;lia)) e,T.itAt (d2 _ _ d') λo e=>l _ o (by(show @Ne Y _ _;lia)) e],λq f=>?_]
  rw[Zp]
  .show(A q f).1
  .erw[Bw,Lb,or_false]at f
   rcases f with rfl|rfl|rfl|rfl|rfl<;>(show @Ne Y _ _;lia)
 done:=by
  intro X F L M hc i g s I H E zB A #[z,a,#[u,v,b],c,d] #[xs,ys,B,C,hl]
  subst F L M
  let(sa,R,Q,c2):=S.sub (P:=X.δ) (w:=X.w) (i:=n) (S.of zB B)
  let(zA,SB,Y',d2):=T.sub (P:=X.δ) (w:=X.w) (i:=n+1) (T.of zB C)
  show cQ (cT h1 h2) R SB z a b (Q _ c) (Y' _ d) (λz1 z2=>absurd hl ∅) λ_=>#[zB.ok.hd hc,λt G kp=>#[rfl,Inv.tok (s:={s with heap:=t}) (zB.turnedL A λq o f e=>kp q o (λz=>f (by simp[z])) (λz=>f (by simp[z])) (λz=>f (by simp[z])) (λz=>f (by simp[z])) e) G]]
 self:=λ_ _ _ _ _ ⟨z,_⟩ q=>wpAny_pyIter_zip z q
def
vS:Fs "zip"=Z (.ι "zip"):=by symm
@[simp]def Hh:D->Bh
  |.lst a=>Z a
  |.tup a=>Z a
  |.str s=>Z (s.Ϩ.α.j λc=>.Ι #[(T' [c])])
  |_=>J
def
Ui{K:Ao}{M N:Fb}{d:D}{v:V}(h:P5 K M N H d v)(e:Hh d=Z xs):∃(S:AO) (vs:U V),v=S.v/\Ad K N H xs vs/\∀g f,Step M N g H f->S.sq K f vs:=by
 cases d with
 |lst k m=>
  cases m with
  |d=>cases e
  |i _ _=>cases e
  |l=>
  ext e;let(a,vs,j,b,hd):=h;apply#[.l a,vs,j,hd,λg f S=>?_];rcases b with⟨n,b⟩|b
  .show .O<|b.Μ S (by rcases n with z|z;show .O z;show .ρ<|.O z)
  .show b.sq
 |tup k=>
  ext e;let(a,vs,j,b,hd):=h;show#[.t a,vs,j,hd,λg f S=>b.Μ S]
 |str s=>
  ext e;apply#[.x s,GK s,h,?_,λ_ _ _=>rfl];unfold GK;generalize s.Ϩ.α=l;induction l with
  |nil=>show Ad.ώ
  |cons c l o=>show Ad.Α (by erw[Au]) o
 |_=>ext e
@[simp]def HX(f g:Az):VE->Bh:=λa=>match(f a).J Hh,(g a).J Hh with
  |some b,Z c=>Z (Fe (λx y=>D.S [x,y]) b c)
  |_,_=>J
def
vT{K:Ao}{M N:Fb}{S T:AO}{ys:U D}{us:U V}(h:Ad K N H xs us)(j:Ad K N H ys vs)(m:∀c b,Step M N c H b->S.sq K b us)(n:∀c b,Step M N c H b->T.sq K b vs):Mj K M N H (cR K S T) (Fe (λx y=>D.S [x,y]) xs ys):=λc b St i=>by
 let e:=m _ _ St;let f:=n _ _ St;apply#[λd a=>?_,λa=>#[us,vs,e,f,?_]]
 .rw[List.getElem?_zipWith]at a;cases ex:xs[i]? with|none=>rw[ex]at a;cases a|some x=>
   cases g:ys[i]? with|none=>rw[ex,g]at a;cases a|some y=>
    rw[ex,g]at a;ext a;let(u,k,o):=(Ad.Μ St _ _ h).Χ ex;let(v,l,q):=(Ad.Μ St _ _ j).Χ g;apply#[#[us,vs,u,v,e,f,k,l],λz B r=>?_];let(p,C,E,s,hp,t,w,A):=r;have:=w us e;rw[k]at this;ext this;have:=A vs f;rw[l]at this;ext this;subst s t;show#[ak hp,NT hp<|Ad.Α o<|Ad.Α q Ad.ώ]
 .let l1:=h.a;let G:=j.a;erw[List.length_zipWith]at a;lia
variable {M:Fb}{f g:Az}{a b:Expr}{p tpos:AC}
open J in
def
vU {x1} (hg:Gl X "zip") (hm:X.mg "zip"=J) (E:JE X a (tQ X.K M H0 f)) (l:JE X b (tQ X.K M H0 g)) (Y':AH [a,b] X.C=[(O',Aq a X.C),(O',Aq b X.C)]:=by rfl) (c:AH [b] X.C=[(O',Aq b X.C)]:=by rfl) (G:AH [] X.C=[]:=by rfl):JI X (.ϫ elts x1 tpos) (.Ν (.β "zip" p) [a,b] [] pos) (tI X.K M H0 (HX f g)):=#[have E:=E.h;let l:=l.h;by
 intro o s t H Q zA #[d,ds,R,e,q];unfold HX at e;split at e
 .next xs ys ex y=>
  ext e;cases F:f d with|none=>rw[F]at ex;cases ex|some d1=>
   cases i:g d with|none=>rw[i]at y;cases y|some d2=>
    rw[F]at ex;rw[i]at y;apply Call_<|Ig zA hg hm vS<|Nv (Ba ((Z5 E (Z5 l Bn (by rw[c,G])) (by rw[Y',c])) pos o s t H (λvs m=>∃S T u w,vs=[AO.v S,AO.v T]/\Aj H m/\Ad X.K (Nf M d t) m xs u/\Ad X.K (Nf M d t) m ys w/\(∀A n,Step M (Nf M d t) A m n->S.sq X.K n u)/\∀A n,Step M (Nf M d t) A m n->T.sq X.K n w) zA ?_) λu L ⟨vs,H1,x,r1,N⟩=>?_) (by rw[Y',c]) (by rw[c];rfl)
    .apply#[d,d1,R,F,λv1 H1 z1 N=>#[d,d2,R.st z1,i,λv2 m P q2=>?_]];let(S,u,e1,j,B):=Ui N ex;let(T,w,e2,k,C):=Ui q2 y;show#[S,T,u,w,by rw[e1,e2],z1.G P,j.η P,k,λA n St=>B _ _<|(Step.ϋ P).G St,C]
    .let(S,T,us',w,rfl,z,j,k,B,C):=N;cases r1 with
     |cons r W=>
      cases W with
      |cons r' W=>
       ext W;let o1:=S.of x<|B _ _ Step.refl;let o2:=T.of x<|C _ _ Step.refl;apply vQ r r' o1 o2 λh' a1 a2 a3 a4 a5 kp=>wpAny_pyIter_zip a1 ?_;apply#[_,_,_,_,H1,rfl,x.ϭ (t':=L.Ε) kp,vR S T L.u.L.y (S.lt o1)<|T.lt o2,⟨a1,a2,⟨_,_,a3⟩,a4,a5⟩,λb l=>?_,q _ _ z<|vT j k B C];let hl:L.u.L.y<=b:=by
        erw[Bw,Lb,or_false]at l;rcases l with rfl|rfl|rfl|rfl|rfl<;>(show @LE.le Y _ _ _;lia)
       show x.fpOk hl<|x.ϥ.Ξ hl
 .cases e]
end
open PySem.W
abbrev ZL:=U (KT×U D)
def GP:ZL->KT->D->ZL
 |[],k,d=>[(k,[d])]
 |t::r,k,d=>if t.1=k then(t.1,t.2++[d])::r else t::GP r k d
def Jq(zs:ZL):Br:=zs.j λz=>(z.1,.R z.2)
def Uj(k:KT)(zs:ZL):j':=zs.Ϛ λz=>EQ z.1==EQ k
def QB(a b:Az)(ρ:VE)(zs:ZL):O ZL:=match a ρ,b ρ with
 |some y,Z d=>match Dw y with
  |some k=>if Uj k zs=J' then gd (zs.a<Av/\∀z∈zs,z.2.a<Av) (Z (GP zs k d))else J
  |none=>J
 |_,_=>J
def Jr(k:Y)(b:D->VE->O VE)(g h:Az):U D->VE->ZL->O (VE×ZL)
 |[],c,e=>Z (c,e)
 |d::i,c,e=>match b d c with
  |some a=>match a[k]?,Mz a with
   |some .no,J'=>(QB g h a e).J λf=>Jr k b g h i a f
   |_,_=>J
  |none=>J
def QC(k:Y)(f:VE->Bh)(b:D->VE->O VE)(a c:Az)(ρ:VE):Dp:=match ρ[k]?,f ρ with
 |some (.own [] .d J),Z e=>if Mz ρ=J' then(match Jr k b a c e (ρ.ξ k .no) []with
  |some p=>.Q (p.1.ξ k (.φ (Zb (Jq p.2)) .d))
  |none=>.Ρ)else .Ρ
 |_,_=>.Ρ
structure Q4 where
 k:KT
 kv:V
 b:Ac
 z:List D
def q3(q:Q4):T3:=(q.k,q.kv,.I q.b)
def qz(q:Q4):KT×U D:=(q.k,q.z)
def Hj:U Q4->KT->D->U Q4
 |[],_,_=>[]
 |q::r,k,d=>if q.k=k then{q with z:=q.z++[d]}::r else q::Hj r k d
def
cU(k:KT)(d:D):∀qs:U Q4,(Hj qs k d).j Q4.b=qs.j Q4.b/\(Hj qs k d).j Q4.k=qs.j Q4.k/\(Hj qs k d).j q3=qs.j q3
 |[]=>#[rfl,rfl,rfl]
 |q::r=>by
  let(a,c,e):=cU k d r;unfold Hj;split
  .show#[rfl,rfl,rfl]
  .erw[AQ,a,c,e];show#[trivial,trivial,trivial]
def
Uk{k:KT}{d:D}:∀{qs:U Q4},k∈qs.j Q4.k->(Hj qs k d).j qz=GP (qs.j qz) k d
 |[],h=>nomatch h
 |q::r,h=>by
  unfold Hj;split
  .grind [GP,qz]
  .next e=>
   have:k∈r.j Q4.k:=by
    grind
   erw[AQ,GP];rw[Uk this,if_neg (show ¬ (qz q).1=k from e)]
def
cV{k:KT}{d:D}:∀{qs:U Q4},k∉qs.j Q4.k->GP (qs.j qz) k d=qs.j qz++[(k,[d])]
 |[],_=>rfl
 |q::r,h=>by
  erw[AQ,Bw,not_or]at h;erw[AQ,GP,Ha];rw[if_neg (show ¬ (qz q).1=k from λz=>h.1 z.Ζ),cV h.2]
def
cX{k:KT}{d:D}:∀{qs:U Q4},(qs.j Q4.k).θ->∀c∈Hj qs k d,(c∈qs/\c.k≠k)\/∃q∈qs,q.k=k/\c={q with z:=q.z++[d]}
 |[],_,_,h=>nomatch h
 |q::r,nd,c,h=>by
  erw[AQ,E7]at nd;unfold Hj at h;split at h
  .next e=>
   rcases Bw.mp h with z|z
   .show .ρ #[q,Bb,e,z]
   .show .O #[Bk _ z,λf=>nd.1 (by rw[e,<- f];show Es z)]
  .next e=>
   rcases Bw.mp h with z|z
   .rw[z];show .O #[Bb,e]
   .rcases cX nd.2 c z with⟨a,b⟩|⟨g,a,b⟩
    .show .O #[Bk _ a,b]
    .show .ρ #[g,Bk _ a,b]
def
Eb{k:KT}:∀{qs:U Q4},(∀v,CK (qs.j q3) k=Z v->∃q∈qs,q.k=k/\v=.I q.b)/\(CK (qs.j q3) k=J->k∉qs.j Q4.k)
 |[]=>#[λ_ h=>(nomatch h),λ_ h=>nomatch h]
 |q::r=>by
  let(c,i2):=Eb (k:=k) (qs:=r);erw[AQ,CK];apply#[λv h=>?_,λh=>?_]
  .split at h
   .next e=>ext h;show#[q,Bb,e,rfl]
   .let(d,a,b):=c v h;show#[d,Bk _ a,b]
  .split at h
   .cases h
   .next e=>show λz=>(Bw.mp z).Δ (λz=>e z.Ζ) (i2 h)
def
BV.step{K:Ao}{M N b:Fb}(S:Step M N b H H'){k:KT}{v:V}(h:BV K H k v):BV K H' k v:=by
 cases k with
 | «at» a=>show h
 |tup l=>let(p,e,q):=h;show#[p,e,q.Μ S]
def
vV{K:Ao}{N:Fb}{k:KT}{v:V}(h:BV K H k v):Au K N H (kD k) v:=by
 let at_:∀(a:At),Au K N H (aD a) (FN a):=λa=>by ext a<;>erw[aD,FN,Au]
 cases k with| «at» a=>rw[show v=FN a from h];show at_ a|tup l=>
  let(p,e,q):=h;apply#[p,_,e,q,?_];clear q;induction l with
  |nil=>show Ad.ώ
  |cons a l b=>show Ad.Α (at_ a) b
def
Ul{d g:Type}{f:d->g}:∀{l:U d},(l.j f).θ->∀{x y:d},x∈l->y∈l->f x=f y->x=y
 |[],_,_,_,h,_,_=>nomatch h
 |c::l,nd,x,y,i,j,e=>by
  erw[AQ,E7]at nd;rcases Bw.mp i with a|a<;>rcases Bw.mp j with b|b
  .rw[a,b]
  .rw[a]at e;show absurd (e ▸ Es b) nd.1
  .rw[b]at e;show absurd (e ▸ Es a) nd.1
  .show Ul nd.2 a b e
structure BW(K:Ao)(M:Fb)(H0:Hp)(k:Y)(a:Ac)(ρ:VE)(qs:List Q4)(I:St)(H:Hp):V' where
 rel:By K (M3 M a (qs.j Q4.b)) H0 ρ I H
 pin:ρ[k]?=Z .no/\I[k]?=Z (Z (.I a))
 out:H a=Z (D5 (qs.j q3))
 ins:∀q∈qs,BV K H q.k q.kv/\∃vs,H q.b=Z (.R vs)/\Ad K (Nf (M3 M a (qs.j Q4.b)) ρ I) H q.z vs
 nd:(qs.j Q4.b).θ
 ne:a∉qs.j Q4.b
 kn:(qs.j Q4.k).θ
 fr:∀y,y=a\/y∈qs.j Q4.b->H0 y=J/\¬ M y
 dp:Mz ρ=J'
variable {K:Ao}{M:Fb}{k:Y}{ρ':VE}{qs:U Q4}{σ':St}
def
BW.over(R:BW K M H0 k a ρ qs I H)(d:By K (M3 M a (qs.j Q4.b)) H0 ρ' σ' H')(S:Step (M3 M a (qs.j Q4.b)) (Nf (M3 M a (qs.j Q4.b)) ρ I) (Nf (M3 M a (qs.j Q4.b)) ρ' σ') H H')(p:ρ'[k]?=Z .no/\σ'[k]?=Z (Z (.I a)))(dp:Mz ρ'=J'):BW K M H0 k a ρ' qs σ' H':=#[d,p,S.kp _ _ R.out<|.inr<|.inl<|.inr<|.inl rfl,λq c=>by
  let(e,f,g,h):=R.ins q c;show#[e.Μ S,f,S.kp _ _ g<|.ρ<|.O<|.ρ<|.ρ<|Es c,Ad.Μ S _ _ h],R.nd,R.ne,R.kn,R.fr,dp]
def
BW.st(R:BW K M H0 k a ρ qs I H)(s:Aj H H'):BW K M H0 k a ρ qs I H':=R.over (R.rel.st s) (Step.ϋ s) R.pin R.dp
def
BW.chg{c:Ac}{u u':HO}(R:BW K M H0 k a ρ qs I H)(hc:c=a\/c∈qs.j Q4.b)(r:H c=Z u)(t:F9 u=J'):By K (M3 M a (qs.j Q4.b)) H0 ρ I (AL H c u')/\Step M (Nf (M3 M a (qs.j Q4.b)) ρ I) (Nf (M3 M a (qs.j Q4.b)) ρ I) H (AL H c u'):=by
 let(p,v):=R.fr c hc;let S:Step (λy=>M3 M a (qs.j Q4.b) y/\y≠c) (Nf (M3 M a<|qs.map Q4.b) ρ I) (Nf (M3 M a<|qs.map Q4.b) ρ I) H (AL H c u'):=#[λd o e z=>by
  by_cases hd:d=c
  .subst hd;rcases z with z|z|z
   .show absurd (.O<|.ρ hc) z
   .show absurd rfl z.2
   .rw[r]at e;ext e;rw[t]at z;ext z
  .rw[Zp hd];show e,λ_ h=>.O h]
 apply#[#[R.rel.ϧ,λd o e=>?_,λd h=>?_,λj s e=>?_,R.rel.inj],#[λd o e z=>S.kp d o e<|z.imp id<|Or.imp (λm=>#[.O m,λw=>v<|w ▸ m]) id,S.nw]]
 .have:d≠c:=λz=>by rw[z,p]at e;ext e
  rw[Zp this];show R.rel.η d o e
 .by_cases hd:d=c
  .rw[hd,ZQ];show λz=>nomatch z
  .rw[Zp hd];show R.rel.mh d h
 .let q:=R.rel.ϓ j s e;cases s with
  |no=>trivial
  |val d=>let(w,g,f):=q;show#[w,g,Au.Μ S _ _ f]
  |own A B G=>
   let(d,l,g,f,i,n,E):=q;have:d≠c:=λz=>i<|z ▸ .ρ hc;show⟨d,l,g,f,i,by rw[Zp this];show n,Ad.Μ S _ _ E⟩
  |lent A B=>
   let(d,l,g,f,i,n):=q;have:d≠c:=λz=>f.2 (by rw[z];show p);show#[d,l,g,f,i.Μ S<|.ρ<|.O ⟨f.1,this⟩,Ad.Μ S _ _ n]
  |exc d=>let(x,C,g,f,i):=q;show#[x,C,g,f,S.kp _ _ i<|.ρ<|.ρ rfl]
def
BW.app{q:Q4}{d:D}{v:V}(R:BW K M H0 k a ρ qs I H)(h:q∈qs)(hv:H q.b=Z (.R vs))(hd:Au K (Nf (M3 M a (qs.j Q4.b)) ρ I) H d v):BW K M H0 k a ρ (Hj qs q.k d) I (AL H q.b (.R (vs++[v])))/\Step M (Nf (M3 M a (qs.j Q4.b)) ρ I) (Nf (M3 M a ((Hj qs q.k d).j Q4.b)) ρ I) H (AL H q.b (.R (vs++[v]))):=by
 let(c,s,t):=cU q.k d qs;let(u,f):=R.chg (u':=.R<|vs++[v]) (.inr<|Es h) hv rfl;rw[c];apply⟨⟨by rw[c];show u,R.pin,by rw[t,Zp (show a≠q.b from λe=>R.ne<|e ▸ (Es h))];show R.out,λi l=>?_,by rw[c];show R.nd,by rw[c];show R.ne,by rw[s];show R.kn,by rw[c];show R.fr,R.dp⟩,f⟩;rw[c];rcases cX R.kn i l with⟨g,m⟩|⟨p,g,m,w⟩
 .let(n,r,j,o):=R.ins i g;have:i.b≠q.b:=λe=>m (by rw[Ul R.nd g h e]);show#[n.Μ f,r,by rw[Zp this];show j,Ad.Μ f _ _ o]
 .let x:=(λi l e=>Ul R.kn l h e) p g m;subst x w;let(n,r,j,o):=R.ins p g;rw[hv]at j;ext j;show#[n.Μ f,_,ZQ,Ad.Μ f _ _<|o.Β<|Ad.Α hd Ad.ώ]
def
BW.new{g:KT}{w:V}{p:Ac}(R:BW K M H0 k a ρ qs I H)(hp:H p=J)(hk:BV K H g w)(hn:g∉qs.j Q4.k):BW K M H0 k a ρ (qs++[(#[g,w,p,[]]:Q4)]) I (AL (AL H p (.R [])) a (D5 (qs.j q3++[(g,w,.I p)])))/\Step M (Nf (M3 M a (qs.j Q4.b)) ρ I) (Nf (M3 M a ((qs++[(#[g,w,p,[]]:Q4)]).j Q4.b)) ρ I) H (AL (AL H p (.R [])) a (D5 (qs.j q3++[(g,w,.I p)]))):=by
 let G:p≠a:=λe=>by rw[e,R.out]at hp;ext hp
 let L:p∉qs.j Q4.b:=λh=>by
  let(q,hq,e):=Be.mp h;let(_,vs,f,_):=R.ins q hq;grind
 let v:Aj H (AL H p<|.R []):=ZO hp;let S:=R.st v;let(n,S1):=S.chg (u':=D5<|qs.j q3++[(g,w,.I p)]) (.O rfl) S.out rfl;generalize A:AL (AL H p<|.R []) a (D5<|qs.j q3++[(g,w,.I p)])=Y' at *;let ep:Y' p=Z (.R []):=by rw[<- A,Zp G,ZQ]
 let B:(qs++[(#[g,w,p,[]]:Q4)]).j Q4.b=qs.j Q4.b++[p]:=by simp
 let nf:∀y,Nf (M3 M a<|qs.j Q4.b++[p]) ρ I y->Nf (M3 M a<|qs.j Q4.b) ρ I y\/y=p:=by
  rintro y ((h|h|h)|h)
  .show .O<|.O<|.O h
  .show .O<|.O<|.ρ<|.O h
  .rcases C0.mp h with h|h
   .show .O<|.O<|.ρ<|.ρ h
   .show .ρ<|Cg.mp h
  .show .O<|.ρ h
 let r:Step M (Nf (M3 M a<|qs.map Q4.b) ρ I) (Nf (M3 M a<|qs.map Q4.b++[p]) ρ I) H Y':=#[λc o e z=>S1.kp c o (v c o e) z,λy h=>(nf y h).imp id λ(z:y=p)=>by rw[z];show hp];rw[B];apply#[#[?_,R.pin,?_,λq' C=>?_,?_,?_,?_,λy l=>?_,R.dp],r]
 .rw[B];apply#[n.ϧ,n.η,λy l=>?_,λj s e=>?_,n.inj]
  .rcases l with h|h|h
   .show n.mh y<|.O h
   .show n.mh y<|.ρ<|.O h
   .rcases C0.mp h with h|h
    .show n.mh y<|.ρ<|.ρ h
    .rw[Cg.mp h,ep];show λz=>nomatch z
  .let N:=R.rel.ϓ j s e;let q:=n.ϓ j s e;cases s with
   |no=>trivial
   |val d=>let(w,E,i):=N;show#[w,E,Au.Μ r _ _ i]
   |own xs fl oo=>
    let(c,W,E,i,f,t,h4):=N;let(F,P,u,_,Q,h3',_):=q;let ec:F=c:=by rw[E]at u;exists u.Ζ
    subst ec;apply#[F,W,E,i,λz=>?_,?_,Ad.Μ r _ _ h4]
    .rcases z with z|z|z
     .show f<|.O z
     .show f<|.ρ<|.O z
     .rcases C0.mp z with z|z
      .show f<|.ρ<|.ρ z
      .rw[Cg.mp z,hp]at t;ext t
    .let n1:F≠a:=λz=>f<|.ρ<|.O z;rw[<- A,Zp n1];show v _ _ t
   |lent xs fl=>
    let(c,W,E,i,f,t):=N;let(F,P,u,_,Q,_):=q;apply#[c,W,E,#[i.1.imp id<|Or.imp id λh=>Ie _ h,i.2],?_,Ad.Μ r _ _ t];let n1:c≠a:=λz=>i.2 (by rw[z];show(R.fr a<|.O rfl).1);rcases f with f|⟨o,f⟩
    .show .O (by rw[<- A,Zp n1];show v _ _ f)
    .show .ρ #[o,by rw[<- A,Zp n1];show v _ _ f]
   |exc c=>show q
 .rw[<- A,ZQ];simp[q3]
 .rw[B];rcases C0.mp C with C|C
  .let(i,W,f,t):=R.ins q' C;show#[i.Μ r,W,by rw[<- A,Zp (show q'.b≠a from λe=>R.ne<|e ▸ Es C)];show v _ _ f,Ad.Μ r _ _ t]
  .rw[Cg.mp C];show#[hk.Μ r,[],ep,Ad.ώ]
 .rw[B];show Ge.Ϣ #[R.nd,by simp,λx T y l=>by rw[Cg.mp l];show λz=>L<|z ▸ T]
 .rw[B];intro h;rcases C0.mp h with h|h
  .show R.ne h
  .show G (Cg.mp h).Ζ
 .have:(qs++[(#[g,w,p,[]]:Q4)]).j Q4.k=qs.j Q4.k++[g]:=by simp
  rw[this];show Ge.Ϣ #[R.kn,by simp,λx T y l=>by rw[Cg.mp l];show λz=>hn<|z ▸ T]
 .rw[B]at l;rcases l with h|h
  .show R.fr y<|.O h
  .rcases C0.mp h with h|h
   .show R.fr y<|.ρ h
   .rw[Cg.mp h];show#[R.rel.η.ϊ hp,λm=>(R.rel.Ξ hp)<|.O<|.O m]
end
variable {K:Ao}{M:Fb}{k:Y}{qs:U Q4}
def
BW.open(R:By K M H0 ρ I H)(n:ρ[k]?=Z (.φ [] .d J))(o:I[k]?=Z (Z (.I a)))(dp:Mz ρ=J'):BW K M H0 k a (ρ.ξ k .no) [] I H/\Nf (M3 M a []) (ρ.ξ k .no) I=Nf M ρ I:=by
 let(G,vs,l,(W,_),F,C,L):=R.ϓ k _ n;rw[o]at l;let N:a=G:=by exists l
 subst N;subst L;let t:∀{i b f g},(ρ.ξ k .no)[i]?=Z (Sl.φ b f g)->ρ[i]?=Z (Sl.φ b f g)/\i≠k:=λ{i b f g} z=>by
  grind
 let E:Nf (M3 M a []) (ρ.ξ k .no) I=Nf M ρ I:=by
  funext y;apply propext #[?_,?_]
  .rintro((h|h|h)|⟨i,b,f,g,p,m⟩)
   .show .O h
   .show .ρ #[k,[],.d,J,n,by rw[h];show o]
   .cases h
   .show .ρ #[i,b,f,g,(t p).1,m]
  .rintro(h|⟨i,b,f,g,p,m⟩)
   .show .O<|.O h
   .by_cases e:k=i
    .subst e;rw[o]at m;ext m;show .O<|.ρ<|.O rfl
    .show .ρ #[i,b,f,g,by rw[Dn e];show p,m]
 apply#[#[#[by rw[Il];show R.ϧ,R.η,λy u=>?_,λj s e=>?_,λi j b P f v g w c p m Q T=>R.inj i j b P f v g w c (t p).1 (t m).1 Q T],#[Fh<|(Bp.mp n).1,o],C,λq h=>(nomatch h),.ώ,λh=>(nomatch h),.ώ,λy u=>?_,?_],E]
 .rcases u with h|h|h
  .show R.mh y h
  .rw[h,C];show λz=>nomatch z
  .cases h
 .change Tj K (M3 M a []) (Nf (M3 M a []) (ρ.ξ k .no) I) H0 H s _
  rw[E];by_cases x:k=j
  .subst x;rw[Fh<|(Bp.mp n).1]at e;ext e;trivial
  .rw[Dn x]at e;let q:=R.ϓ j s e;cases s with
   |own b f g=>
    let(c,A,l,r,B,S):=q;apply#[c,A,l,r,λz=>?_,S];rcases z with z|z|z
    .show B z
    .show x<|R.inj k j [] b .d f J g a n e o (by rw[<- z];show AD l)
    .cases z
   |lent b f=>let(c,A,l,r,B):=q;show#[c,A,l,#[.O r.1,r.2],B]
   |no=>trivial
   |val d=>show q
   |exc c=>show q
 .rcases u with h|h
  .rw[h];show#[W,F]
  .cases h
 .apply Dr.Ϣ λs Y'=>?_;rcases cY Y' with h|h
  .show Dr.mp dp s h
  .rw[h];rfl
def
BW.pd{N:Fb}(d:∀q∈qs,¬ N q.b)(h:∀q∈qs,BV K H q.k q.kv/\∃vs,H q.b=Z (.R vs)/\Ad K N H q.z vs):PD K N H (Jq (qs.j qz)) (qs.j q3):=by
 induction qs with|nil=>show .ώ|cons q r e=>
  let(f,vs,g,i):=h q Bb;apply .Α #[rfl,vV f,?_]<|e (λa c=>d a<|Bk _ c) λa c=>h a<|Bk _ c;show⟨q.b,vs,rfl,.of (d q Bb) g,i⟩
def
BW.close(R:BW K M H0 k a ρ qs I H):By K M H0 (ρ.ξ k (.φ (Zb (Jq (qs.j qz))) .d)) I H/\∀y,Nf M (ρ.ξ k (.φ (Zb (Jq (qs.j qz))) .d)) I y->Nf (M3 M a (qs.j Q4.b)) ρ I y:=by
 let x:∀{i g l n},(ρ.ξ k<|.own (Zb<|Jq<|qs.map qz) .d)[i]?=Z (Sl.own g l n)->i=k\/(i≠k/\ρ[i]?=Z (Sl.own g l n)):=λ{i g l n} z=>by
  grind
 let t:∀y,Nf M (ρ.ξ k<|.φ (Zb<|Jq<|qs.j qz) .d) I y->Nf (M3 M a<|qs.j Q4.b) ρ I y/\y∉qs.j Q4.b:=by
  rintro y (h|⟨i,g,l,n,A,u⟩)
  .show#[.O<|.inl h,λm=>(R.fr y<|.ρ m).2 h]
  .rcases x A with e|⟨e,w⟩
   .subst e;rw[R.pin.2]at u;ext u;show#[.O<|.ρ<|.O rfl,R.ne]
   .apply#[.ρ #[i,g,l,n,w,u],λm=>?_];let(c,v,f,_,p,_):=R.rel.ϓ i _ w;rw[u]at f;have:c=y:=by exists f.Ζ
    show p<|this ▸ .ρ (.ρ m)
 apply#[#[by rw[Il];show R.rel.ϧ,R.rel.η,λy h=>R.rel.mh y<|.inl h,λj s e=>?_,λi j g Y' l B n C c A u E G=>?_],λy h=>(t y h).1]
 .by_cases P:k=j
  .subst P;rw[Fh<|(Bp.mp R.pin.1).1]at e;ext e;let Q:=BW.pd (N:=Nf M (ρ.set k<|.own (Zb<|Jq<|qs.map qz) .d) I) (λq W h=>(t _ h).2<|Es W) λq W=>by
    let(o,vs,p,r):=R.ins q W;show#[o,vs,p,r.nw<|λy h=>.O (t y h).1]
   show#[a,Ep<|qs.map q3,by rw[R.pin.2];rfl,⟨(R.fr a<|.inl rfl).1,λ_ z=>(nomatch z)⟩,(R.fr a<|.O rfl).2,by rw[Ix Q];show R.out,Q.flat]
  .rw[Dn P]at e;let q:=R.rel.ϓ j s e;cases s with
   |no=>trivial
   |val d=>let(w,f,o):=q;show#[w,f,o.nw<|λy h=>.O (t y h).1]
   |own g l n=>let(c,v,f,o,p,r,F):=q;show#[c,v,f,o,λz=>p<|.inl z,r,F.nw<|λy h=>.O (t y h).1]
   |lent g l=>let(c,v,f,o,p,r):=q;show#[c,v,f,#[o.1.Δ id λhc=>absurd (R.fr c hc).1 o.2,o.2],p,r.nw<|λy h=>.O (t y h).1]
   |exc c=>show q
 .let no:∀{i g l n},ρ[i]?=Z (Sl.φ g l n)->I[i]?=Z (Z<|V.ref c)->I[k]?≠Z (Z<|V.ref c):=λ{i g l n} o p r=>by
   rw[R.pin.2]at r;ext r;let(c',v,f,_,F,_):=R.rel.ϓ i _ o;rw[p]at f;have:c'=a:=by exists f.Ζ
   show F<|this ▸ .ρ (.O rfl)
  rcases x A with f|⟨f,T⟩<;>rcases x u with L|⟨L,S⟩
  .rw[f,L]
  .subst f;show absurd E<|no S G
  .subst L;show absurd G<|no T E
  .show R.rel.inj i j g Y' l B n C c T S E G
variable{ev:Expr}{f:VE->Bh}{b:D->VE->O VE}{fk fv:Az}{x:Ae}{lp vp a1 c1 a2 c2 ep:AC}
open J in
def
vW(hu:X.A.ε+64<Ar)(hp:PassesOwn (Ah X.δ X.w) X.A X.C X.xe)(hc:X.Ϫ=J')(hi:JI X tg iter (tI X.K M H0 f))(hg:∀M,JG X tg (tG X.K M H0 ws b))(hek:∀M,JE X ek (tP X.K M H0 fk))(hev:∀M,JE X ev (tD X.K M H0 fv))(hw:k∉ws:=by ext) (hN:NV X k x:=by show EW) (hbase:FQ (.β x vp) "setdefault" X.C (Aq (.β x vp) X.C)=Aq (.β x vp) X.C:=by rfl) (hfew:((AA c1 (AH [ek,.List [] lp] X.C)).Ϛ (λx=>!x.1)&&(Gy c1 (Gz [] X.C)).Ϛ (λx=>x.1.υ) && decide ([ek,.List [] lp].a+([]:U EA).a+(if([]:U EA).Φ then 0 else 1)<30))=J':=by rfl) (hline:(a1.ϯ==c1.ϡ)=J':=by rfl) (hst:AH [ek,.List [] lp] X.C=(O',Aq ek X.C)::AH [.List [] lp] X.C:=by show D2 rfl) (hst2:AH [.List [] lp] X.C=(O',Aq (.List [] lp) X.C)::AH [] X.C:=by show D2 rfl) (hpl:(AA c1 (AH [.List [] lp] X.C)).any (·.1)=O':=by rfl) (W:FQ (.Ν (.γ (.β x vp) "setdefault" a1) [ek,.List [] lp] [] c1) "append" X.C (Aq (.Ν (.γ (.β x vp) "setdefault" a1) [ek,.List [] lp] [] c1) X.C)=Aq (.Ν (.γ (.β x vp) "setdefault" a1) [ek,.List [] lp] [] c1) X.C:=by rfl) (hfew2:((AA c2 (AH [ev] X.C)).Ϛ (λx=>!x.1)&&(Gy c2 (Gz [] X.C)).Ϛ (λx=>x.1.υ) && decide ([ev].a+([]:U EA).a+(if([]:U EA).Φ then 0 else 1)<30))=J':=by rfl) (Y':(a2.ϯ==c2.ϡ)=J':=by rfl) (hst3:AH [ev] X.C=(O',Aq ev X.C)::AH [] X.C:=by show D2 rfl) (hpl2:(AA c2 (AH [] X.C)).any (·.1)=O':=by rfl) (hsw:Ey (.Ν (.γ (.Ν (.γ (.β x vp) "setdefault" a1) [ek,.List [] lp] [] c1) "append" a2) [ev] [] c2) J ep.ϡ X.C=Ax O':=by rfl) (hs:∀x,EU iter X.C x=Ax x:=by intro _;rfl):JS X (.For tg iter [.Expr (.Ν (.γ (.Ν (.γ (.β x vp) "setdefault" a1) [ek,.List [] lp] [] c1) "append" a2) [ev] [] c2) ep] [] pos) (tS X.K M H0 (QC k f b fk fv)):=#[by
 let pb:=SO (Pn (pos:=ep) (HG (apos:=a2) (cpos:=c2) Mi Tq Tr PU
  (HG (apos:=a1) (cpos:=c1) T6 T0 PySem.F.type_dict_setdefault (bN hu) (GA (pos:=vp) hN) (Z5 (show PE X ek (λI H Q=>∃M,tP X.K M H0 fk I H Q)from λB s I H Q zA ⟨M,z⟩=>(hek M).h B s I H Q zA z) (Z5 (YM (pos:=lp) Bn) Bn hst2) hst) hbase hfew hline hst hpl) (Z5 (show PE X ev (λI H Q=>∃M,tD X.K M H0 fv I H Q)from λB s I H Q zA ⟨M,z⟩=>(hev M).h B s I H Q zA z) Bn hst3) W hfew2 Y' hst3 hpl2) hsw) (ET (X:=X))
 refine(Nw hp hc hi.h (show PG X tg (λv I H Q=>∃M,tG X.K M H0 ws b v I H Q)from λB s I H v u Q zA r ⟨M,h⟩=>(hg M).h B s I H v u Q zA r h) pb hs).ζ λD I H ⟨ρ,R,q⟩=>?_;unfold QC at q;split at q
 .next G hk hf=>
  split at q
  .next dp=>
   split at q
   .next pr hfor=>
    apply#[ρ,G,R,hf,λP H1 s1 ok=>?_];let(a,vs,e1,_):=(R.st s1).ϓ k _ hk;let(G0,en):=BW.open (R.st s1) hk (AD e1) dp;apply#[λi m σi Hi=>m=G.a-i/\i<=G.a/\∃d j,BW X.K M H0 k a d j σi Hi/\Step M (Nf M ρ I) (Nf (M3 M a<|j.j Q4.b) d σi) H1 Hi/\Jr k b fk fv (G.Ψ i) d (j.j qz)=Z pr,#[G.a,by simp,Fk _,_,[],G0,by rw[<- en];show Step.σ,hfor],?_];intro i m σi Hi zQ;let(rfl,hle,d,j,Ri,Si,fi):=zQ;let(ok1,ok2):=ok _ _ Si i;by_cases S:i<G.a
    .let(go,y):=ok1 G[i]<|BZ S;rw[Mc S]at fi;erw[Jr]at fi;split at fi
     .next C hb=>
      split at fi
      .next h1k h1d=>
       let(zs',g,fi):=Cm.mp fi;apply .ρ #[go,λσ' H'=>i+1<=G.a/\∃d j,BW X.K M H0 k a d j σ' H'/\Step M (Nf M ρ I) (Nf (M3 M a<|j.map Q4.b) d σ') H1 H'/\Jr k b fk fv (G.drop<|i+1) d (j.map qz)=Z pr,λσ' H' z=>#[G.a-(i+1),by show Nat.sub_succ_lt_self G.a i S,rfl,z],λv H' yl=>?_];let(s3,hd):=y v H' yl;let R3:=Ri.st s3;apply#[_,d,G[i],C,R3.rel,hd,hb,λL Rb Sb fx=>?_];let R4:BW X.K M H0 k a C j L H':=R3.over Rb Sb #[h1k,by rw[fx k hw];show R3.pin.2] h1d;let S4:Step M (Nf M ρ I) (Nf (M3 M a<|j.map Q4.b) C L) H1 H':=Si.trans<|(Step.of_same s3).trans ⟨λc o e z=>Sb.kp c o e<|z.imp id<|Or.imp .O id,Sb.nw⟩;unfold QB at g;split at g
       .next yk dv hfk hfv=>
        split at g
        .next E hkt=>
         split at g
         .next hom=>
          let((hl1,hl2),e'):=P8 g;ext e';apply#[.I a,R4.pin.2,.ρ<|.inr ⟨rfl,_,_,.inl R4.out⟩,M3 M a<|j.map Q4.b,C,yk,R4.rel,hfk,λw H5 s5 hw5=>#[Fk _,λp hp5=>?_]];let R5:=R4.st s5;rw[Iw hkt]at hw5;let homk:HR E (j.j q3):=by
           have:=Dr.mp hom;cases E with
           | «at» u=>
            intro t ht;let(T,n,rfl):=Be.mp ht;have:=this (qz T)<|Es n;cases hq:T.k with
            | «at» v=>show#[v,by rw[<- hq];rfl]
            |tup l=>simp[qz,hq,EQ]at this
           |tup u=>
            intro t ht;let(T,n,rfl):=Be.mp ht;have:=this (qz T)<|Es n;cases hq:T.k with
            | «at» v=>simp[qz,hq,EQ]at this
            |tup l=>show#[l,by rw[<- hq];rfl]
          let s6:Aj H5 (AL H5 p<|.R []):=ZO hp5;let R6:=R5.st s6;let fin:∀(q:Q4) (qj:U Q4) (H6:Hp),q∈qj->q.k=E->BW X.K M H0 k a C qj L H6->Step M (Nf M ρ I) (Nf (M3 M a<|qj.j Q4.b) C L) H1 H6->(Hj qj E dv).j qz=GP (j.j qz) E dv->q.z.a<Av ->
            PQ X.K "list" (.I q.b) H6/\∃M',tD X.K M' H0 fv L H6 λv H7=>∃l xs y,(V.I q.b=.I l/\[v]=[y]/\H7 l=Z (.R xs)/\xs.a<Av/\(i+1<=G.a/\∃d j,BW X.K M H0 k a d j L (AL H7 l<|.lst<|xs++[y])/\Step M (Nf M ρ I) (Nf (M3 M a<|j.map Q4.b) d L) H1 (AL H7 l<|.lst<|xs++[y])/\Jr k b fk fv (G.drop<|i+1) d (j.map qz)=Z pr)):=λq qj H6 hq hqk R6 S6 hz hzl=>by
           let(_,us,hus,hdl):=R6.ins q hq;apply#[.O #[rfl,us,.O<|.inl hus],_,C,dv,R6.rel,hfv,λv H7 s7 hv7=>?_];let(R8,S8):=(R6.st s7).app hq (s7 _ _ hus) hv7;apply#[q.b,us,v,rfl,rfl,s7 _ _ hus,by rw[<- hdl.a];show hzl,S,C,_,R8,S6.G<|(Step.ϋ s7).G S8,?_];rw[hqk,hz];show fi
          apply#[a,j.j q3,E,w,.I p,rfl,rfl,by rw[Zp<|B8 (λe=>by rw[e,R5.out]at hp5;ext hp5)];show R5.out,λt ht=>?_,homk,(HS<|He hw5).step<|Step.of_same (M:=M) (N:=M) s6,by simpa using hl1,λu hu'=>?_,λhn=>?_]
          .let(T,n,rfl):=Be.mp ht;show(R6.ins T n).1
          .let(T,n,hk0,rfl):=Eb.1 u hu';show fin T j _ n hk0 R6 (S4.G<|Step.ϋ<|s5.G s6) (Uk<|hk0 ▸ Es n)<|hl2 (qz T)<|Es n
          .let(R9,S9):=R5.new hp5 (HS<|He hw5)<|Eb.2 hn;rw[show EN (j.j q3) E w (.I p)=j.j q3++[(E,w,.I p)] by unfold EN;rw[hn];rfl];apply fin #[E,w,p,[]] (j++[#[E,w,p,[]]]) _ (DK _ Bb) rfl R9 ((S4.G<|Step.ϋ s5).G S9) ?_ (by rw[IT];simp);rw[Uk (show E∈(j++[(⟨E,w,p,[]⟩:Q4)]).j Q4.k by simp),Er,cV<|Eb.2 hn];have:∀{l:U Q4},E∉l.j Q4.k->GP (l.j qz++[(E,[])]) E dv=l.j qz++[(E,[dv])]:=by
            intro l;induction l with|nil=>intro _;simp[GP]|cons q r ih=>
             intro h;erw[AQ,Bw,not_or]at h;erw[AQ,Ha,GP];rw[if_neg (show ¬ (qz q).1=E from λz=>h.1 z.Ζ),ih h.2]
           show this<|Eb.2 hn
         .cases g
        .cases g
       .cases g
      .cases fi
     .cases fi
    .let e:i=G.a:=∅
     rw[Mb<|KZ S]at fi;erw[Jr,P6]at fi;subst fi;apply .inl ⟨ok2 e,?_⟩;let(Rc,uc):=Ri.close;show q _ _ Rc<|(Step.of_same s1).trans<|Si.trans ⟨λc o e _=>e,λy h=>.O<|uc y h⟩
   .show B6 q
  .show B6 q
 .show B6 q]
end
structure MI(K:Ao)(C:Ac)(nm qual:Ae)(st:AE)(ps:List Ae)(a:Ac)(fd:CH):V' where
 M:JM K C nm a
 F:JV K nm qual st a fd
 b:Binds K fd ps []
def
mi{K:Ao}{C:Ac}{nm b:Ae}{st:AE}{ps:U Ae}{j:Aa}{m f:O Ac}{h:Array (O Aa)}{g e pm d ct:Aa} (A:findIn K (.I C) nm=Z (Z (.I a))) (i:isFn K (.I a)=J') (l:K.X a=Z #[j,m,.func (fnOf nm b (Io st) (ZV st) (Zj st) .Η g e pm f d ct),h]) (c:codeIn K d b=J') (k:keepIn K (.I a)=J') (n:∀(g e pm:Aa) (f:O Ac) (d ct:Aa) (us:U Aa),us.a=ps.a->bindArgs (fnOf nm b (Io st) (ZV st) (Zj st) .Η g e pm f d ct) #[us,[]]=Ax (ps.zip us):=by
   exact λ_ _ _ _ _ _=>cD (by(repeat intro _);rfl)):MI K C nm b st ps a (fnOf nm b (Io st) (ZV st) (Zj st) .Η g e pm f d ct):=#[#[A,i,k],Y8 l c k,.Ϛ<|n g e pm f d ct]
structure CI(K:Ao)(mg:BP)(c:Ae)(C:Ac):V' where
 cof:nsIn K C4 c=Z (Z (.I C))
 cl:Fj K C
 m:mg c=Z (.I C)
 mks:makesIn K C=J'
 kp:keepIn K (.I C)=J'
def
ci{K:Ao}{mg:BP}{h:Al}{c:Ae}{C:Ac}(X:K.In h)(G:h.Ns C4 mg)(A:nsIn K C4 c=Z (Z (.I C)))(pg:plainGet K C Str.empty=J')(hd:hasDictIn K C=J')(po:plainOver K C=J')(sa:findIn K (.I C) "__setattr__"=Z (Z (.Γ "object.__setattr__")))(a:makesIn K C=J')(b:keepIn K (.I C)=J'):CI K mg c C:=#[A,#[pg,hd,po,sa],mg_of X G A,a,b]
def
CI.mkB{K:Ao}{mg:BP}{C:Ac}{b:Ae}{st:AE}{ps:U Ae}{fd:CH}{c':Ae}(c:CI K mg c' C)(q:MI K C "__init__" b st ps a fd):Mk K C a:=#[c.mks,q.M.at_,q.M.fn,c.kp]
def
vX{K:Ao}{k:Y}{C fn:Ac}{fd:CH}{ps:U Ae}{nm a:Ae}{st:AE}{P:AS}{w:Ai}{mg:BP}{base:Al}{N:U Ae}{g d:As}(D:MI K C nm a st ps fn fd)(S:Fw N ps (Zj st)) (f:∀(b:Aa) (A:Ag) (outer:U Env) (s:Ab) (H:Hp) (E:XK) (M:Fb) (H0:Hp),AJ k (A.Ϧ (Bt a (Zj st) s.u.L.y fn b))->JB (Ei BI P w K mg base N a (Zj st) fn b A outer s H E).nox (ZV st) (tS K M H0 d)) (e:d=g:=by rfl) (c:ps.a<=N.a:=by ext):AY P w K mg base BI (k+1) fn fd ps (AX K (AU ps.a N.a g)):=aL D.F S c<|e ▸ f
variable {M:Fb}{l:Expr}{f:Az}{b:D->VE->O VE}{t:VE->O j'}{e:Az}
open J in
def
cZ{n:Y}{oix:U Y}(hw:∀j∈ws,j<n){E:A1}{s:Ab}(W:Inv X E I H s)(h:tF X.K M H0 (Zh n oix (λρ=>(f ρ).J Ea) b t e) I H Q):PV n oix (cL X.K (tQ X.K M H0 f)) (NO X.K ws b) (NP X.K t) (NQ X.K e) I H (λv=>Cv X (Q v)):=by
 let(ρ,L,R,g,q):=h;unfold Zh at g;dsimp only at g;cases N:f ρ with|none=>rw[N]at g;cases g|some d=>
 rw[N]at g;erw[DB]at g;cases i:Ea d with|none=>rw[i]at g;cases g|some ds=>
 rw[i]at g;unfold Ea at i;split at i
 .next ys=>
  cases P:EO ys with|none=>rw[P]at i;cases i|some G=>
  rw[P]at i;ext i;apply#[ρ,_,R,N,λv r C Y'=>?_];rw[GJ P]at Y';let(a,u,rfl,hN,hr,dl):=Y';let(tr,dc,pd):=Jj hr dl;apply#[a,tr,rfl,dc,λo hz=>?_];let T:=R.st C;let fin:∀m,By X.K M m ρ I (Cz a o (Ds tr) r)->(∀p u A,Aj (Cz a o (Ds tr) r) A->Cz a o (Ds tr) r p=J->A p=Z (CO X.K .l p L u)->Ad X.K (λb=>Nf M ρ I b\/b=p) A L u->Cv X (Q<|.I p) A) ->
    Tf n oix (NO X.K ws b) (NP X.K t) (NQ X.K e) (Lq a o (Ds tr)<|tr.map λt=>t.2.1) I (Cz a o (Ds tr) r) (λv=>Cv X<|Q v):=λm R2 q2=>by
   let(ρ',ds',R',e',k):=(NR (K:=X.K) (M:=M) (H0:=m) (f:=λ_=>Z<|G.map λ(p:KT×D)=>kD p.1) (b:=b) (t:=t) (e:=e) (oix:=oix) (k:=n) hw (wi:=tI X.K M m λ_=>Z<|G.map λ(p:KT×D)=>kD p.1) (λ_ _ _ z=>z) (I:=I) (H:=Cz a o (Ds tr) r) (Q:=λv=>Cv X<|Q v) ⟨ρ,L,R2,g,q2⟩);ext e';show k _ _ (Aj.σ _)<|cM pd hz
  rcases dc.1 with F|⟨o',F⟩
  .apply fin _ (T.fz rfl F<|cN T hN) λp u A sm hp hv B=>?_;let S:=sm a _<|Jp F;apply .inr ⟨a,o,Ds tr,W.plain2 C F rfl,S,q p u _ (λc w e=>?_) (C.Η<|Ci.mp hp) (Oj hv<|Ol _ _ _ _ _) (Ad.rd (λb v hv h=>Rd.ufz hv h) _ _ B)⟩;let e1:=C c w e;by_cases y:c=a
   .grind [Lp]
   .rw[J8 λx=>y x.1];show sm c w (by rw[FW λx=>y x.1];show e1)
  .let e:Cz a o (Ds tr) r=r:=funext λb=>FW (by rintro⟨rfl,y⟩;rw[F]at y;ext y);rw[e]at fin ⊢;show fin _ T λp u A sm hp hv B=>.O<|q p u A (C.G sm) (C.Η hp) hv B
 .cases i
variable(own outs:U Ae)(oix:U Y)(S:IZ own outs scope X.C.Θ)(hox:oix.j (λj=>X.N[j]?)=outs.j Z)(hc:X.Ϫ=J')
include S hox hc
def
vY(k:JE X l (tQ X.K M H0 f)) (d:CB X.K X own outs scope tg ifs elt ws b t e) (m:∀j∈ws,j<own.a) (n:∀x,EU l X.C x=Ax x:=by intro _;rfl):JE X (.Λ elt [#[tg,l,ifs,0]] scope pos) (tF X.K M H0 (Zh own.a oix (λρ=>(f ρ).J Ea) b t e)):=#[λc s p H Q B h=>by
 apply Ba (ae own outs oix S hox hc (Uh k.h) d.g d.t d.e n c s p H (λv=>Cv X<|Q v) B (cZ m B h)) λu A h=>?_;let(v,q,i,r,z):=h;rcases z with z|⟨a,o,u,w,y,z⟩
 .show#[v,q,i,r,z]
 .show#[v,_,i.ufz y w,r,z]]
def
vZ{i:Y}{x:Ae}{a c:AC}(o:X.N.θ)(k:X.N[i]?=Z x)(p:X.C.Θ.τ.X x=Z .ϔ)(q:JE X l (tQ X.K M H0 f)) (m:CB X.K X own outs scope tg ifs elt ws b t e) (r:∀j∈ws,j<own.a) (n:Ey (.Λ elt [#[tg,l,ifs,0]] scope pos) (Z (.β x a)) c.ϡ X.C=Ax J':=by rfl) (u:∀x,EU l X.C x=Ax x:=by intro _;rfl):JS X (.ϩ [.β x a] (.Λ elt [#[tg,l,ifs,0]] scope pos) c) (tS X.K M H0 λρ=>ZN i (Zh own.a oix (λρ=>(f ρ).J Ea) b t e ρ) ρ):=#[λd s v H D w h=>Ba (PX own outs oix S hox hc o k p (Uh q.h) m.g m.t m.e n u d s v H (D.cv X) w<|cZ r w<|Tp h) λ_ _ h=>SP.cv h]
end
variable {P:AS}{w:Ai}{T:Type}[DecidableEq T]{hk:HeapKind P w T}{A:Ag}{s:Ab}{us:U (T×Ac×Aa)}
def
v4(hk:HeapKind P w T)(b:(a==Hy)=O'):MeetsIn P w (F8.«dict.__len__» #[[.I a],[]]) (λ_ R t=>∃us,t.u.ϰ hk a us/\R (.ok (.ϱ (.o us.a t.Ε))) {t with toks:=t.Ε+1}):=.of_wp λA R t c=>by
 let(us,(o,g,h,d,_,e,f,_),q):=c;rw[(size_of_entries f).Ζ]at q;change wpAny _ _ (dictSize a >>= _) _ _ t;unfold dictSize;apply An<|An<|N6 d e<|AV (?_:wpAny _ _ (Builtin.Dict.pendingCount a >>= _) _ _ t);show An<|wpAny_pendingCount_other b<|wpAny_ret_mkInt (by rw[Nat.add_zero];show q)
def
v5{Q:AR}(c:(a==Hy)=O')(d:s.u.ϰ hk a us)(z:(us.a:W')<2^63)(q:Q (.o us.a (s.Ε+1)) {s with toks:=s.Ε+1+1}):wpAny (Ah P w) A (F8.«len» #[[.I a],[]]) (λf t=>∃r,f=.done (.ϱ r)/\Q r t) E s:=by
 unfold F8.«len»;apply An (m:=oneArg "len" _) (AV<|An (m:=callSpecial? (.I a)<|JP "__len__") (L6 (name:=JP "__len__") d.ϕ F.slot_dict_len (call_meetsIn F.slot_dict_len d.ϕ F.entry_dict_len (F.args_dict_len_1 _) (v4 hk c) #[us,d,?_])));change wpAny _ _ _ _ _ {s with toks:=s.Ε+1};apply An<|F2<|AV<|An<|wpAny_letGo ?_;change wpAny _ _ (if((us.a:Y):W')<0 then _ else _) _ _ _;change wpAny _ _ (if((us.a:Y):W')≥2^63 then _ else _) _ _ _;rw[if_neg (by show Int.not_le.Ϣ z:¬ ((us.a:Y):W')≥2^63)];show An<|wpAny_mkInt<|AV ⟨_,rfl,q⟩
end
variable {K:Ao}
def
v6:Fi X (.Γ "len") (λxs H Q=>∃a tr,xs=[.I a]/\C5 X.K H a tr/\(∀t∈tr,∃l,t.1=KT.S l)/\Q (.o tr.a) H):=by
 intro b s h H xs c Q i r zQ;let(a,tr,rfl,hd,d,q):=zQ;let(u,rfl,e):=Ft r;ext e;let(z,f,nd,c,rel,g):=Ld i hd d;apply c4 kind_len plain_len entry_len (args_len1 _)<|v5 f g (by rw[<- (G8 rel)];rw[IT]at z;lia) ?_;rw[<- (G8 rel)];show⟨.o _,H,i.tok _,⟨_,rfl⟩,q⟩
def MC:EX
 |[.lst b .d]=>(EO b).J λa=>if a.Ϛ (λp=>!EQ p.1)then Z (.o a.a)else J
 |_=>J
open J in
def
v7:GD K (λxs H Q=>∃a tr,xs=[.I a]/\C5 K H a tr/\(∀t∈tr,∃l,t.1=KT.S l)/\Q (.o tr.a) H) MC:=by
 intro N H j m d Q n h e q;unfold MC at e;split at e
 .next xs=>
  let(b,c,e):=Cm.mp e;let(f,e):=Z1 e;ext e;let(v,rfl,hv):=Paired.one' h;rw[GJ c]at hv;let(p,o,rfl,r,hd):=hv;let(tr,g,i):=Jj r hd;apply#[p,tr,rfl,g,i.hom (k:=.S []) (by simpa[D6,EQ]using f),?_];grind [G8,Aj.refl,Gb]
 .cases e
end
end Internal
namespace Internal
open PySem PySem.Spec PyProof.Rows
variable {prog:AS}{w:Ai}{A:Ag}{s:Ab}
abbrev Um(i:Ac):Obj:={cls:=.ι "enumerate",data:=.Ϙ (T' [.Η,.Ϡ O',.I i,BQ 0,.Η,.Η])}
open J in
def
v8(S:AO)(a:RelV S.v u)(xs:U V):Meets (F8.«enumerate.__new__» #[[.ι "enumerate",u],[]]) (λ_ R s=>S.ok s.u xs/\R (.ok (.ϱ (.I (s.u.ύ (S.obj u)).L.y))) {s with heap:=(s.u.ύ (S.obj u)).ύ (Um s.u.L.y)}):=.of_wp λprog w A R s h=>by
  let(hp,g,d,b,os):=s;let(e,q):=h;let f:=sub_enumerate;wp_walk using S.pyIter a e;apply wpAny_stack_any λst=>AV ?_;split
  .rename_i c _ _ _ _ _;cases(c==Value.ι "enumerate")
   .wp_walk using S.pyIter a e;show#[_,rfl,q]
   .wp_walk using S.pyIter a e;show#[_,rfl,q]
  .wp_walk using S.pyIter a e;show#[_,rfl,q]
def
v9{S:AO}(c:RelV S.v u){xs:U V}{Q:AR}(p:S.ok s.u xs)
  (q:∀h',IsEnum h' (s.u.L.y+1) s.u.L.y 0 .Η->S.it h' s.u.L.y 0->(∀b o,s.u.U b=Z o->h'.U b=Z o)->Q (.I (s.u.L.y+1)) {s with heap:=h' }):
  wpAny (Ah prog w) A (call (.ι "enumerate") [u]) Q E s:=by
 let hz:(s.u.ύ (S.obj u)).L.y=s.u.L.y+1:=KI ..
 let d:IsEnum ((s.u.ύ (S.obj u)).ύ (Um s.u.L.y)) (s.u.L.y+1) s.u.L.y 0 .Η:=by
  have:=CD (s.u.ύ (S.obj u)) (o:=Um s.u.L.y) rfl
  rw[hz]at this;show this
 let a:=q _ d (S.itAt (S.new (h:=s.u) c) λo e=>BR _ e) λb o e=>BR _ (BR _ e)
 apply callType_new PySem.F.called_enumerate (by ext) (PySem.F.typeCall_enumerate_1 _) (PySem.F.newCall_enumerate_1 _) (λobj=>PySem.F.args_object_init_2 obj _) PySem.F.entry_enumerate_new (v8 S c xs) #[p,?_]
 change _/\_
 rw[hz]
 show#[#[_,d,rfl],a]
variable {e it:Ac}{fa:U Ac}{n k:Y}{sa:Y->Al->V'}{old:Aa}
def
wa{Q:O Aa->Ab->V'}(SA:IB prog w it fa n isA sa)(a:IsEnum s.u e it k old)(ha:sa k s.u)(kn:k<n)(t:e≠it)(hfe:e∉fa) (q:∀x h' t' u,isA k x->IsEnumOut h' e it ((k:W')+1) x s.u.L.y->sa (k+1) h'->h'.U s.u.L.y=Z {cls:=.ι "tuple",data:=.ϴ (T' [.o k t',x])}->(∀b o,b≠e->b≠it->s.u.U b=Z o->h'.U b=Z o)->Q (Z (.I s.u.L.y)) {s with heap:=h',toks:=u}):wpAny (Ah prog w) A (pyNext (.I e)) Q E s:=by
 let(hp,g,d,tk,os):=s;apply An<|wpAny_attempt<|L6 (name:=JP "__next__") #[_,a,rfl] Uo (KR Uo #[_,a,rfl] PySem.F.entry_enumerate_next ?_<|PySem.F.args_enumerate_next_1 _);let fr:∀{h h':Al},sa (k+1) h->(∀b o,b≠e->h.get? b=Z o->h'.get? b=Z o)->sa (k+1) h':=λst kp=>SA.frame _ _ _ st λb c o x=>kp b o (by
  grind) x
 change wpAny _ _ (field (.I e) 2 >>= _) _ _ _
 apply An<|F3 a rfl (x:=.ref it) rfl ?_;apply An<|SA.item _ _ _ k _ kn ha λx v i hx a1 j=>?_;replace j:Ex it hp v:=j;let y:IsEnum v e it k old:=(j.2 e t).G a;apply An<|F3 y rfl (x:=BQ k) rfl ?_;apply An<|F3 y rfl (x:=.none) rfl ?_;apply An<|wpAny_mkInt ?_;apply An<|IC y (by simp) λB C l=>?_;replace l:Ex e v B:=l;replace C:IsEnum B e it ((k:W')+1) old:=C;apply An<|IC C (by simp) λf G m=>?_;replace m:Ex e B f:=m;replace G:IsEnum f e it ((k:W')+1) old:=G;apply An<|wpAny_newTuple ?_;let sz:f.L.y=hp.L.y:=by rw[m.1,l.1,j.1]
 let p:IsEnum (f.ύ {cls:=.ι "tuple",data:=.ϴ (T' [.o k i,x])}) e it ((k:W')+1) old:=BR _ G;let t4:(f.ύ {cls:=.ι "tuple",data:=.ϴ (T' [.o k i,x])}).U hp.L.y=Z {cls:=.ι "tuple",data:=.ϴ (T' [.o k i,x])}:=sz ▸ CD _ rfl;let k4:∀b o,b≠e->b≠it->hp.U b=Z o->(f.ύ {cls:=.ι "tuple",data:=.ϴ (T' [.o k i,x])}).U b=Z o:=λb o a H c=>
  BR _<|m.ψ b o a<|l.ψ b o a<|j.ψ b o H c
 let a4:sa (k+1) (f.ύ {cls:=.ι "tuple",data:=.ϴ (T' [.o k i,x])}):=fr a1 λb o c z=>BR _<|m.extBut b o c<|l.extBut b o c z;generalize (f.push {cls:=.type "tuple",data:=.seq (T' [.int k i,x])})=h4 at p t4 k4 a4 ⊢;rw[sz];apply An ?_;apply An<|F3 p rfl (x:=.none) rfl (AV ?_);apply An<|JQ ?_;apply An<|F3 p rfl (x:=old) rfl ?_;apply An<|IC p (by simp) λS K L=>?_;replace L:Ex e h4 S:=L;replace K:IsEnum S e it ((k:W')+1) x:=K;apply An ?_;apply An<|IC K (by simp) λM N P=>?_;replace P:Ex e S M:=P;replace N:IsEnumOut M e it ((k:W')+1) x hp.L.y:=N;apply IC N (by simp) λr T R=>?_;replace R:Ex e M r:=R;replace T:IsEnumOut r e it ((k:W')+1) x hp.L.y:=T;let Y':∀b o,b≠e->h4.U b=Z o->r.U b=Z o:=λb o c z=>R.ψ b o c<|P.extBut b o c<|L.extBut b o c z;apply An<|wpAny_letGo<|AV ⟨_,rfl,AV<|q x r _ _ hx T (fr a4 Y') (Y' _ _ (Ii<|BX a) t4) λb o a H z=>Y' b o a<|k4 b o a H z⟩
def
wb{Q:O Aa->Ab->V'}(d:A.Ϝ=J)(f:IB prog w it fa n isA sa)(a:IsEnum s.u e it k old)(g:sa k s.u)(kn:n<=k) (q:∀h',Heap.ExtBut it s.u h'->Q J {s with heap:=h' }):wpAny (Ah prog w) A (pyNext (.I e)) Q E s:=by
 apply An<|wpAny_attempt<|L6 (name:=JP "__next__") #[_,a,rfl] Uo (KR Uo #[_,a,rfl] PySem.F.entry_enumerate_next ?_<|PySem.F.args_enumerate_next_1 _);change wpAny _ _ (field (.I e) 2 >>= _) _ _ _
 apply An<|F3 a rfl (x:=.ref it) rfl ?_;apply An<|f.fin _ _ _ k _ (by show d) kn g λh' x h i=>?_;let(o,j,hc):=i;show An<|wpAny_isInstance (T:="StopIteration") (b:=J') #[o,j,hc] isSubtype_stop (AV<|q _ h)
def
wc{a:U Expr} {b} {i:W'} {v:Aa} {T:Ac} {Q:Unit->Ab->V'} (hz:IsEnumOut s.u e it i v T) (q:∀h',IsEnum h' e it i v->Ex e s.u h'->Q () {s with heap:=h' }):wpAny (Ah prog w) A (letOwnedTupleGo (.ϫ a b pos) (.I e) (.I T)) Q E s:=by
 apply An<|wpAny_load hz ?_;change wpAny _ _ (if(["enumerate","zip","dict_itemiterator","dict_reverseitemiterator","odict_iterator","itertools.zip_longest","itertools.pairwise"].Ϟ "enumerate"&&((T' [BQ T,.Ϡ O',.I it,BQ i,.Η,v]):Array Aa)[0]?==Z (BQ T))=J' then _ else _) Q E s
 rw[if_pos (by simp)];show An<|JQ<|IC hz (by simp) λh' z c=>q h' z c
end
end
def c7(K:Ao)(S:AO):It:=
 #[λi H=>∃a x,S.sq K H a/\a[i]?=Z x,
  λi H v b=>∃p x,v=.I p/\H p=J/\b=AL H p (.S [.o i,x])/\(∀a,S.sq K H a->a[i]?=Z x),
  λi H=>∃a,S.sq K H a/\a.a<=i]
def
wd{P:AS}{w:Ai}{K:Ao}{g:U Expr} {Q} (S:AO) (n:Y) (T:∀b∈S.fp,b<n):Ij P w K (.ϫ g Q pos) (c7 K S) [n+1,n] (n+1) (λi h=>(∃f,IsEnum h (n+1) n i f)/\S.it h n i) where
 mem:=by simp
 obj:=λi h W q a=>by
  let((x,z),c):=W;erw[Bw,Lb,or_false]at a;rcases a with rfl|rfl
  .show#[_,z,λv e=>nomatch (show Data.Ϙ _=Data.Ο v from e)]
  .show S.itOb c
 keep:=λi h m ⟨⟨x,z⟩,c⟩ k=>#[#[x,k _ (by simp) _ z],S.itAt c λo e=>k _ (by simp) o e];item:=by
  intro X t u y hc i d s L H E zA p #[#[f,z],c] #[Y',x,r,ex];subst t u y;let(sa,A,B,M):=S.sub (P:=X.δ) (w:=X.w) (i:=n) (S.of zA r);let hlt:n+1<s.u.L.y:=BX z;apply wa A z (B _ c) ((Bp.mp ex).1) (by(show @Ne Y _ _;lia)) (λz=>absurd (show @LT.lt Y _ _ _ from T _ z) (by change ¬ @LT.lt Y _ _ _;lia)) λN m t1 R C z' c' new kp=>?_;let(x2,j,G):=C;rw[ex]at j;ext j;apply#[_,rfl,wc (s:={s with heap:=m,toks:=R}) z' λl z2 sb=>?_];let F:∀q o,q≠n+1->m.U q=Z o->l.U q=Z o:=λq o a e=>sb.ψ _ _ a e;let I1:Inv X d L (AL H s.u.L.y<|.S [.o i,x]) {s with heap:=l}:=by
   show zA.yielded p (λq o a e=>F q o (λz=>a (by simp[z])) (kp q o (λz=>a (by simp[z])) (λz=>a (by simp[z])) e)) (Bg _) #[show 2<=Av by ext,[.o i t1,N],.Α #[_,rfl]<|.Α G .ώ,⟨_,F _ _ (by(show @Ne Y _ _;lia)) new,rfl,_,rfl⟩]
  apply#[.I s.u.L.y,_,I1.tok R,rfl,#[_,x,rfl,zA.ϥ.Ξ<|Bg _,rfl,λzs hz=>S.inj zA hz r ▸ ex],#[#[N,?_],S.itAt (M _ _ c') λo e=>F _ o (by(show @Ne Y _ _;lia)) e],λq a=>?_]
  .have:((i+1:Y):W')=(i:W')+1:=∅
   show z2
  rw[Zp]
  .show(p q a).1
  .erw[Bw,Lb,or_false]at a;rcases a with rfl|rfl<;>(show @Ne Y _ _;lia)
 done:=by
  intro X t u y hc i d s L H E zA p #[#[f,z],c] #[Y',r,hl];subst t u y;let(sa,A,B,M):=S.sub (P:=X.δ) (w:=X.w) (i:=n) (S.of zA r);apply wb (zA.ok.hd hc) A z (B _ c) hl λm kp=>#[rfl,zA.turnedL p λq o a e=>kp q o (λz=>a (by simp[z])) e]
 self:=λ_ _ _ _ _ ⟨⟨_,z⟩,_⟩ q=>wpAny_pyIter_enum z q
@[simp]def ID(f:Az):VE->Bh:=λa=>match(f a).J Hh with
  |some b=>Z (D4 0 b)
  |none=>J
def
we{K:Ao}{M N:Fb}{S:AO}{us:U V}(e:Ad K N H xs us)(h:∀f b,Step M N f H b->S.sq K b us):Mj K M N H (c7 K S) (D4 0 xs):=λf b St i=>by
 let c:=h _ _ St;apply#[λd a=>?_,λa=>#[us,c,?_]]
 .rw[bz]at a;let(x,ex,a):=B2.mp a;ext a;let(u,g,j):=(Ad.Μ St _ _ e).Χ ex;apply#[#[us,u,c,g],λz o k=>?_];let(p,q,l,hp,m,n):=k;have:=n us c;rw[g]at this;ext this;subst l m;show#[ak hp,NT hp<|Ad.Α (by simp[Au])<|Ad.Α j Ad.ώ]
 .let l1:=e.a;rw[TU]at a;lia
variable {M:Fb}{f:Az}{a:Expr}{p tpos:AC}
open J in
def
wf {P} (T:Gl X "enumerate") (W:X.mg "enumerate"=J) (l:JE X a (tQ X.K M H0 f)) (A:AH [a] X.C=[(O',Aq a X.C)]:=by rfl) (m:AH [] X.C=[]:=by rfl):
  JI X (.ϫ elts P tpos) (.Ν (.β "enumerate" p) [a] [] pos) (tI X.K M H0 (ID f)):=#[have l:=l.h;by
 intro d s n H Q zA #[i,ds,R,e,q]
 unfold ID at e
 split at e
 .next Y' ex=>
  ext e
  cases o:f i with
  |none=>rw[o]at ex;cases ex
  |some d1=>
   rw[o]at ex
   let t:=Z5 l Bn (by rw[A,m])
   apply Call_ (Ig zA T W tN (Nv (Ba (t pos d s n H (λB u=>∃S g,B=[AO.v S]/\Aj H u/\Ad X.K (Nf M i n) u Y' g/\(∀N2 C,Step M (Nf M i n) N2 u C->S.sq X.K C g)) zA ?_) λg w ⟨B,E,j,r1,x⟩=>?_) A rfl))
   .apply#[i,d1,R,o,λv1 E z1 x=>?_]
    let(S,g,y,c,k):=Ui x ex
    show#[S,g,by rw[y],z1,c,k]
   .let(S,us',y,z,c,k):=x
    subst y
    cases r1 with
    |cons r rr=>
     ext rr
     let G:=S.of j (k _ _ Step.σ)
     apply v9 r G λh' F a4 kp=>wpAny_pyIter_enum F ?_
     apply#[_,_,_,_,E,rfl,j.ϭ (t':=w.Ε) kp,wd S w.u.L.y (S.lt G),#[#[_,F],a4],λb L=>?_,q _ _ z (we c k)]
     let N:w.u.L.y<=b:=by
      erw[Bw,Lb,or_false]at L
      rcases L with rfl|rfl<;>(show @LE.le Y _ _ _;lia)
     show j.fpOk N (j.ϥ.Ξ N)
 .cases e]
end
open PySem.W
inductive IV where
 |no|val (d:D)|cel (n:Y)|exc (c:Ae)|tu (xs:List (D×Option Y))
inductive Cl where
 |dead|dat (k:Kd) (xs:List D)|mix (k:Kd) (xs:List IV)
abbrev Gh:=U Cl
variable{G' G1:Gh}
abbrev IS:=U IV×Gh
variable{gx:IS->O (IV×Gh)}{gp:IS->O Y}{ga:IS->O (U IV)}{gf:IS->Bh}{gi:IS->O D}
@[simp]def un:IV->D
  |.val d=>d
  |.tu a=>.S (a.j λc=>match c.2 with
   |none=>c.1
   |some _=>.κ)
  |_=>.κ
@[simp]def Cl.kd:Cl->O Kd
  |.dead=>J
  |.dat k _=>Z k
  |.mix k _=>Z k
def LV(φ:Y->Ac)(G:Gh):Fb:=λa=>∃n c k,G[n]?=Z c/\c.kd=Z k/\φ n=a
def Up(K:Ao)(φ:Y->Ac)(L:Y)(N:Fb)(H:Hp)(c:D×O Y)(v:V):V':=match c.2 with
 |none=>Au K N H c.1 v
 |some n=>n<L/\v=.I (φ n)
def AG(K:Ao)(φ:Y->Ac)(L:Y)(N:Fb)(H:Hp):IV->V->V'
 |.no,_=>False
 |.val d,v=>Au K N H d v
 |.cel n,v=>n<L/\v=.I (φ n)
 |.exc c,v=>∃a C,v=.I a/\nsIn K C4 c=Z (Z (.I C))/\H a=Z (.ext (ao a C))
 |.tu e,v=>∃a b,v=.I a/\Ck K H a b/\Paired (Up K φ L N H) e b
def Uq(K:Ao)(φ:Y->Ac)(L:Y)(N:Fb)(H:Hp)(a:Ac):Cl->V'
 |.dead=>True
 |.dat k b=>∃c,H a=Z (CO K k a b c)/\Ad K N H b c
 |.mix k b=>∃c,H a=Z (CO K k a (b.j un) c)/\Paired (AG K φ L N H) b c
structure Bz(K:Ao)(φ:Y->Ac)(G:Gh)(H:Hp):V' where
 cell:∀n c,G[n]?=Z c->Uq K φ G.a (LV φ G) H (φ n) c
 inj:∀n m c c' k k',G[n]?=Z c->G[m]?=Z c'->c.kd=Z k->c'.kd=Z k'->φ n=φ m->n=m
structure BL(K:Ao)(φ:Y->Ac)(s:IS)(I:St)(H:Hp):V' where
 len:s.1.a=I.a
 g:Bz K φ s.2 H
 slot:∀(i:Y) (x:IV),s.1[i]?=Z x->x=.no\/∃v,I[i]?.join=Z v/\AG K φ s.2.a (LV φ s.2) H x v
structure Go(φ:Y->Ac)(G:Gh)(H:Hp)(φ':Y->Ac)(G':Gh)(H':Hp):V' where
 ext:∀n,n<G.a->φ' n=φ n
 len:G.a<=G'.a
 st:Step (λ_=>False) (LV φ G) (LV φ' G') H H'
variable {K:Ao}{φ1 φ2:Y->Ac}{G G2:Gh}{H1 H2:Hp}{s:IS}
def
Go.same(sm:Aj H H'):Go φ G H φ G H':=#[λ_ _=>rfl,Bg _,Step.ϋ sm]
def
Go.trans(a:Go φ G H φ1 G1 H1)(b:Go φ1 G1 H1 φ2 G2 H2):Go φ G H φ2 G2 H2:=#[λn h=>(b.ext n<|BM h a.ϧ).G<|a.ext n h,BN a.ϧ b.ϧ,a.st.G b.st]
def
AG.go(g:Go φ G H φ1 G1 H1){x:IV}{v:V}(h:AG K φ G.a (LV φ G) H x v):AG K φ1 G1.a (LV φ1 G1) H1 x v:=by
 cases x with
 |no=>show h
 |val d=>show Au.Μ g.st d v h
 |cel n=>show#[BM h.1 g.ϧ,by rw[g.ext n h.1];show h.2]
 |exc c=>let(a,C,e,b,f):=h;show#[a,C,e,b,g.st.kp _ _ f<|.ρ<|.ρ rfl]
 |tu j=>
  let(a,i,e,b,f):=h;apply#[a,i,e,Ck.Μ g.st b,Paired.mapP f λc w q=>?_];let(d,o):=c;cases o with
  |none=>show Au.Μ g.st d w q
  |some n=>show#[BM q.1 g.ϧ,by rw[g.ext n q.1];show q.2]
def
Bz.same(R:Bz K φ G H)(sm:Aj H H'):Bz K φ G H':=#[λn c e=>by
 let h:=R.Ο n c e;cases c with
 |dead=>trivial
 |dat k f=>let(a,b,d):=h;show#[a,sm _ _ b,d.η sm]
 |mix k f=>let(a,b,d):=h;show#[a,sm _ _ b,Paired.mapP d λ_ _ q=>AG.go (Go.η sm) q],R.inj]
def
BL.go(R:BL K φ s I H)(a:Bz K φ1 G1 H1)(g:Go φ s.2 H φ1 G1 H1):BL K φ1 (s.1,G1) I H1:=#[R.ϧ,a,λi x e=>(R.ϓ i x e).imp id λ⟨v,b,c⟩=>#[v,b,c.go g]]
def
BL.same(R:BL K φ s I H)(sm:Aj H H'):BL K φ s I H':=R.go (R.g.η sm)<|Go.η sm
def
Bz.has(R:Bz K φ G H){n:Y}{c:Cl}{k:Kd}(e:G[n]?=Z c)(a:c.kd=Z k):∃xs vs,H (φ n)=Z (CO K k (φ n) xs vs):=by
 let h:=R.Ο n c e;cases c with
 |dead=>cases a
 |dat k xs=>ext a;let(vs,b,_):=h;show#[_,vs,b]
 |mix k xs=>ext a;let(vs,b,_):=h;show#[_,vs,b]
def
Bz.nh(R:Bz K φ G H)(h:LV φ G a):H a≠J:=by
 let(n,c,k,e,b,rfl):=h;let(d,f,q):=R.has e b;simp_all
end
@[simp]def vk:Y->Kd->j'
  |0,_=>O'
  |1,.l=>O'
  |_,_=>J'
@[simp]def Hk:U (O D)->Bh
  |[]=>Z []
  |o::r=>Zi o (Hk r)
@[simp]def tr(m:Y)(G:Gh):Y->IV->O D
  |_,.val d=>Z d
  |f+1,.cel n=>match G[n]? with
   |some (.dat k a)=>if vk m k=J' then Z (.R a k)else J
   |some (.mix k a)=>if vk m k=J' then(Hk (a.j (tr m G f))).j λl=>.R l k else J
   |_=>J
  |f+1,.tu a=>(Hk (a.j λc=>match c.2 with
   |none=>Z c.1
   |some n=>tr m G f (.Y n))).j .S
  |_,_=>J
@[simp]def C8(m:Y)(G:Gh):IV->Sl
  |.val d=>.r d
  |.no=>.no
  |.exc c=>.exc c
  |.cel n=>match tr m G 3 (.Y n)with
   |some d=>.r d
   |none=>match G[n]? with
    |some (.dat k a)=>if vk m k=J' then .no else .ϵ a k
    |_=>.no
  |.tu a=>match tr m G 3 (.tu a)with
   |some d=>.r d
   |none=>.no
@[simp]def vw(m:Y)(s:IS):VE:=s.1.j (C8 m s.2)
def NW(m:Y)(φ:Y->Ac)(G:Gh):Fb:=λa=>∃n c k,G[n]?=Z c/\c.kd=Z k/\vk m k=O'/\φ n=a
mutual
/-- no container within of a kind that m reads as data -/
def B4(m:Y):D->j'
 |.lst a k=>!vk m k&&Dg m a
 |.tup a=>Dg m a
 |.non=>J'
 |.bl _=>J'
 |.int _=>J'
 |.str _=>J'
 |.ty _=>J'
def Dg(m:Y):U D->j'
 |[]=>J'
 |x::a=>B4 m x&&Dg m a
end
variable {K:Ao}{G:Gh}{s:IS}{m:Y}{B:Fb}
def
NW.lv(h:NW m φ G a):LV φ G a:=let⟨n,c,k,b,d,_,e⟩:=h;#[n,c,k,b,d,e]
def QD(m:Y)(G:Gh)(f:Y)(c:D×O Y):O D:=match c.2 with
 |none=>Z c.1
 |some n=>tr m G f (.Y n)
def
QE{f:Y}{xs:U (D×O Y)}:tr m G (f+1) (.tu xs)=(Hk (xs.j (QD m G f))).j .S:=by rw[tr];rfl
def
wg{f:Y}{n:Y}{d:D}(h:tr m G f (.Y n)=Z d):PZ d=.κ:=by
 cases f with|zero=>erw[tr]at h;cases h|succ f=>
  unfold tr at h;split at h
  .split at h<;>ext h;rfl
  .let(_,h):=Z1 h;let(l,_,rfl):=B2.mp h;rfl
  .cases h
def
c9{f:Y}:∀{xs:U (D×O Y)}{a:U D},Hk (xs.j (QD m G f))=Z a->JY (un (.tu xs))=JY (.S a)
 |[],_,h=>by ext h;rfl
 |(d,o)::r,_,h=>by
  let(g,l,b,e,rfl):=GC h;let c:=c9 e;erw[un,JY,AQ,KT.tup.injEq,Qp]at c ⊢;apply#[?_,c];cases o with
  |none=>ext b;rfl
  |some n=>show(wg b).Ζ
def
wj:∀{f:Y}{x:IV}{d:D},tr m G f x=Z d->JY (un x)=JY d
 |f,.val d,_,h=>by erw[tr]at h;ext h;rfl
 |0,.cel n,_,h=>by erw[tr]at h;cases h
 |f+1,.cel n,d,h=>by
  unfold tr at h;split at h
  .split at h<;>ext h;rfl
  .let(_,h):=Z1 h;let(l,_,rfl):=B2.mp h;rfl
  .cases h
 |f,.no,_,h=>by erw[tr]at h;cases h
 |f,.exc _,_,h=>by erw[tr]at h;cases h
 |0,.tu _,_,h=>by erw[tr]at h;cases h
 |f+1,.tu b,_,h=>by
  rw[QE]at h;let(l,a,rfl):=B2.mp h;show c9 a
def
db{f:Y}:∀{xs:U IV}{b:U D},Hk (xs.j (tr m G f))=Z b->JZ (xs.j un)=JZ b
 |[],_,h=>by ext h;rfl
 |[x],_,h=>by
  let(d,r,c,a,rfl):=GC h;ext a;rfl
 |x::y::r,_,h=>by
  let(d,l,c,a,rfl):=GC h;let(g,i,j,e,rfl):=GC a;erw[AQ,JZ,wj c,db e]
def
wk{f:Y}{xs:U IV}{b:U D}{k:Kd}(h:Hk (xs.j (tr m G f))=Z b):CO K k a (xs.j un) vs=CO K k a b vs:=by
 ext k<;>erw[CO,db h]
def
Bz.nnv(R:Bz K φ G H){n:Y}{c:Cl}{k:Kd}(e:G[n]?=Z c)(a:c.kd=Z k)(hv:vk m k=J'):¬ NW m φ G (φ n):=λ⟨j,b,d,f,g,i,h⟩=>by
 have:=R.inj j n b c d k f e g a h;simp_all
open J in
def
QF(R:Bz K φ G H):∀{f:Y}{x:IV}{d:D}{v:V},tr m G f x=Z d->AG K φ G.a (LV φ G) H x v->Au K (NW m φ G) H d v
 |f,.val d,_,v,h,q=>by erw[tr]at h;ext h;show Au.nw q λa j=>.O j.lv
 |0,.cel n,_,_,h,_=>by erw[tr]at h;cases h
 |f,.no,_,_,h,_=>by erw[tr]at h;cases h
 |f,.exc _,_,_,h,_=>by erw[tr]at h;cases h
 |0,.tu _,_,_,h,_=>by erw[tr]at h;cases h
 |f+1,.tu g,d,v,h,q=>by
  rw[QE]at h;let(l,s,rfl):=B2.mp h;let(a,b,e,i,p):=q;apply#[a,b,e,i,?_];let all:∀{g:U (D×O Y)} {b:U V} {l:U D},Paired (Up K φ G.a (LV φ G) H) g b->Hk (g.j<|QD m G f)=Z l->Ad K (NW m φ G) H l b:=by
   intro g b l h;induction h generalizing l with|nil=>intro e;ext e;show Ad.ώ|@cons c w _ _ q t u=>
    intro e;let(d,r,z,A,rfl):=GC e;let(y,o):=c;cases o with
    |none=>ext z;show Ad.Α (Au.nw q λa j=>.O j.lv) (u A)
    |some n=>show Ad.Α (QF R (x:=.Y n) z q) (u A)
  show all p s
 |f+1,.cel n,d,v,h,q=>by
  let(_,rfl):=q;unfold tr at h;split at h
  .next k g e=>
   let(hv,h):=Z1 h;ext h;let(b,i,p):=R.Ο n _ e;show#[_,b,rfl,.of (R.nnv e rfl hv) i,p.nw λa j=>.O j.lv]
  .next k g e=>
   let(hv,h):=Z1 h;let(l,s,rfl):=B2.mp h;let(b,i,p):=R.Ο n _ e;rw[wk s]at i;apply#[_,b,rfl,.of (R.nnv e rfl hv) i,?_];let all:∀{g:U IV} {b:U V} {l:U D},Paired (AG K φ G.a (LV φ G) H) g b->Hk (g.j<|tr m G f)=Z l->Ad K (NW m φ G) H l b:=by
    intro g b l h;induction h generalizing l with|nil=>intro e;ext e;show Ad.ώ|cons q t u=>
     intro e;let(d,r,z,A,rfl):=GC e;show Ad.Α (QF R z q)<|u A
   show all p s
  .cases h
def
wl{k:Kd}{b:Ac}{ys:U D}{ws:U V}(h:CO K k a xs vs=CO K k' b ys ws):vk m k=vk m k':=by
 ext k<;>ext k'<;>first|rfl|cases h|(cases m with|zero=>rfl|succ j=>ext j<;>rfl)
mutual
theorem Au.up(R:Bz K φ G H)(sm:Aj H H'):∀(d:D)(v:V),B4 m d=J'->Au K (λa=>NW m φ G a\/B a) H' d v->Au K (λa=>LV φ G a\/B a) H' d v
 |.non,_,_,h=>by simpa only[Au]using h
 |.bl _,_,_,h=>by simpa only[Au]using h
 |.int _,_,_,h=>by simpa only[Au]using h
 |.str _,_,_,h=>by simpa only[Au]using h
 |.ty _,_,_,h=>by simpa only[Au]using h
 |.tup g,v,b,h=>by
  erw[B4]at b
  erw[Au]at h ⊢
  let(a,f,e,q,r):=h
  show#[a,f,e,q,Ad.up R sm g f b r]
 |.lst g k,v,b,h=>by
  erw[B4,Dv,Qy]at b
  erw[Au]at h ⊢
  let(a,f,e,q,r):=h
  apply#[a,f,e,?_,Ad.up R sm g f b.2 r]
  rcases q with⟨n,q⟩|q
  .apply .O #[λz=>z.Δ (λ⟨j,c,l,p,s,t⟩=>n (.O #[j,c,l,p,s,?_,t])) λz=>n (.ρ z),q]
   let(u,w,z):=R.has p s
   let i:=sm _ _ z
   rw[t]at i
   rcases q with q|⟨o,q⟩
   .rw[i]at q;rw[wl (E6 q)];show b.1
   .rw[i]at q;ext l<;>ext q
  .show .ρ q
theorem Ad.up(R:Bz K φ G H)(sm:Aj H H'):∀(xs:U D)(vs:U V),Dg m xs=J'->Ad K (λa=>NW m φ G a\/B a) H' xs vs->Ad K (λa=>LV φ G a\/B a) H' xs vs
 |[],_,_,h=>by simpa only[Ad]using h
 |x::xs,vs,b,h=>by
  erw[Dg,Dv]at b
  erw[Ad]at h ⊢
  let(v,r,e,q,t):=h
  show#[v,r,e,Au.up R sm x v b.1 q,Ad.up R sm xs r b.2 t]
end
def
df{i:Y}{b:Kd}{a:O Ac}:(vw m s)[i]?≠Z (Sl.φ xs b a):=λh=>by
 erw[vw,CW]at h;cases e:s.1[i]? with|none=>rw[e]at h;cases h|some x=>
  rw[e]at h;unfold C8 at h;grind
def
QG(h:Nf (NW m φ s.2) (vw m s) I a):NW m φ s.2 a:=h.Δ id λ⟨_,_,_,_,h,_⟩=>(df h).Δ
open J in
def
BL.vw(R:BL K φ s I H):By K (NW m φ s.2) H (vw m s) I H:=by
 apply#[by erw[Internal.vw,Bx];show R.ϧ,Aj.σ H,λa h=>R.g.nh h.lv,λi y e=>?_,λi j f A b B _ _ a h=>(df h).Δ];erw[Internal.vw,CW]at e;let(x,u,e):=B2.mp e;subst e;rcases R.slot i x u with rfl|⟨v,hv,q⟩
 .trivial
 .cases x with
  |no=>show q.Δ
  |val d=>show#[v,hv,Au.nw q λa l=>.O (QG l).lv]
  |exc c=>let(a,C,rfl,p,r):=q;show#[a,C,hv,p,r]
  |tu f=>
   cases o:tr m s.2 3 (.tu f)with
   |some d=>
    let z:C8 m s.2 (.tu f)=.r d:=by unfold C8;dsimp only;rw[o]
    rw[z];show#[v,hv,(QF R.g o q).nw λa l=>.O<|QG l]
   |none=>
    let z:C8 m s.2 (.tu f)=.no:=by unfold C8;dsimp only;rw[o]
    rw[z];trivial
  |cel n=>
   cases o:tr m s.2 3 (.Y n)with
   |some d=>
    let z:C8 m s.2 (.Y n)=.r d:=by unfold C8;dsimp only;rw[o]
    rw[z];show#[v,hv,(QF R.g o q).nw λa l=>.O<|QG l]
   |none=>
    let(_,rfl):=q;let z:C8 m s.2 (.Y n)=(match s.2[n]? with
     |some (.dat k f)=>if vk m k=J' then .no else .ϵ f k
     |_=>.no):=by unfold C8;dsimp only;rw[o]
    rw[z];split
    .next k f e=>
     split
     .trivial
     .next t=>
      let t:vk m k=O':=by exists t
      let(w,p,r):=R.g.Ο n _ e;show#[_,w,hv,#[#[n,_,k,e,rfl,t,rfl],by rw[p];show λz=>nomatch z],.O p,r.nw λa l=>.O (QG l).lv]
    .trivial
end
@[simp]def jO(m:Y)(o:O D):O D:=o.J λd=>if B4 m d=J' then Z d else J
@[simp]def jL(m:Y)(o:Bh):Bh:=o.J λd=>if Dg m d=J' then Z d else J
def jE(m:Y)(f:Az)(s:IS):O D:=jO m (f (vw m s))
def jG(m:Y)(f:VE->Bh)(s:IS):Bh:=jL m (f (vw m s))
def jT(m:Y)(t:VE->O j')(s:IS):O j':=t (vw m s)
def tJ(K:Ao)(g:IS->O D):TE:=λc H Q=>∃b s d,BL K b s c H/\g s=Z d/\∀v a,Aj H a->Au K (LV b s.2) a d v->Q v a
def Op(fl:Kd)(K:Ao)(g:IS->Bh):TE:=λh H Q=>∃e s d,BL K e s h H/\g s=Z d /\
 ∀a f c,Aj H c->H a=J->c a=Z (CO K fl a d f)->Ad K (λb=>LV e s.2 b\/b=a) c d f->Q (.I a) c
def dg(K:Ao)(g:IS->O j'):TT:=λc H Q=>∃d s b,BL K d s c H/\g s=Z b/\∀a,Aj H a->Q b a
def EG(K:Ao)(g:IS->O Y):TE:=λb H Q=>∃a s n,BL K a s b H/\g s=Z n/\(n<s.2.a->Q (.I (a n)) H)
def Cn(K:Ao)(g:IS->O (IV×Gh)):TE:=λc H Q=>∃d s r,BL K d s c H/\g s=Z r /\
 ∀a v b,BL K a (s.1,r.2) c b->AG K a r.2.a (LV a r.2) b r.1 v->Go d s.2 H a r.2 b->Q v b
def HY(K:Ao)(g:IS->O (U IV)):TA:=λe H Q=>∃a s c,BL K a s e H/\g s=Z c /\
 ∀d b,Aj H b->Paired (AG K a s.2.a (LV a s.2) b) c d->Q d b
def QH(K:Ao)(g:IS->O IV):TE:=λc H Q=>∃a s x,BL K a s c H/\g s=Z x /\
 ∀v b,Aj H b->AG K a s.2.a (LV a s.2) b x v->Q v b
variable {e:Expr}{f:Az}{ff:VE->Bh}{t:VE->O j'}{g:IS->O D}
def
wm(m:Y)(h:∀M H0,JE X e (tD X.K M H0 f)):JE X e (tJ X.K (jE m f)):=#[λb st i H Q r j=>by
 let(o,s,d,R,e,q):=j;let(p,k,e):=Cm.mp e;split at e
 .next l=>ext e;show(h _ _).h b st i H Q r #[_,_,R.vw,k,λv n sm hv=>q v n sm<|(Au.up (B:=λ_=>False) R.g sm _ _ l (hv.nw λa c=>.O<|.inl<|c.resolve_right id)).nw λa c=>.O<|.O c]
 .cases e]
def
dh(m:Y)(h:∀M H0,JE X e (Fm fl X.K M H0 ff)):JE X e (Op fl X.K (jG m ff)):=#[λc st d H Q w f=>by
 let(t,s,u,R,e,q):=f;let(v,i,e):=Cm.mp e;split at e
 .next j=>
  ext e;show(h _ _).h c st d H Q w #[_,_,R.vw,i,λa k l sm n o p=>q a k l sm n o<|Ad.up R.g sm _ _ j<|p.nw λb r=>.O<|r.imp .O id]
 .cases e]
def
wn(m:Y)(h:∀M H0,JT X e (B9 X.K M H0 t)):JT X e (dg X.K (jT m t)):=#[λa st c H Q g d=>by
 let(f,s,b,R,e,q):=d;show(h _ _).h a st c H Q g #[_,b,R.vw,e,q]]
end
variable {K:Ao}{G:Gh}{s:IS}
def
BL.put(R:BL K φ s I H){x:IV}{v:V}(i:Y)(h:AG K φ s.2.a (LV φ s.2) H x v):BL K φ (s.1.ξ i x,s.2) (I.ξ i (Z v)) H:=by
 apply#[by simp[R.len],R.g,λj y e=>?_];by_cases a:i=j
 .subst a;let b:i<s.1.a:=by have:=(Bp.mp e).1;exists this
  rw[Fh b]at e;ext e;show .ρ #[v,by rw[Fh<|R.ϧ ▸ b];rfl,h]
 .rw[Dn a]at e;rw[Dn a];show R.ϓ j y e
@[simp]def Et(φ:Y->Ac)(n:Y)(a:Ac):Y->Ac:=λj=>if j=n then a else φ j
def
Ur{c:Cl}{k:Kd}(l:c.kd=Z k){b:Ac}:LV (Et φ G.a a) (G++[c]) b↔LV φ G b\/b=a:=by
 constructor
 .intro zQ;let(n,g,h,e,d,f):=zQ;rw[K6]at e;split at e
  .next i=>
   have:n≠G.a:=Cq i;erw[Et,if_neg this]at f;show .O #[n,g,h,e,d,f]
  .next i=>
   cases hz:n-G.a with
   |zero=>
    have:n=G.a:=∅
    erw[Et,if_pos this]at f;show .ρ f.Ζ
   |succ j=>rw[hz]at e;ext e
 .rintro(⟨n,g,h,e,d,f⟩|rfl)
  .show#[n,g,h,Fx ((Bp.mp e).1) ▸ e,d,by erw[Et,if_neg<|Cq<|(Bp.mp e).1];show f]
  .show#[G.a,c,k,by rw[KO<|Bg _,Nat.sub_self];rfl,l,by erw[Et,if_true]]
def
Go.new(sm:Aj H H'){c:Cl}{k:Kd}(f:H a=J)(g:c.kd=Z k):Go φ G H (Et φ G.a a) (G++[c]) H':=by
 apply#[λn d=>by erw[Et,if_neg<|Cq d],by simp,λb o e _=>sm b o e,λb h=>?_];grind [Ur]
def
Bz.new(R:Bz K φ G H)(sm:Aj H H'){c:Cl}{k:Kd}(l:H a=J)(u:c.kd=Z k)(hc:Uq K (Et φ G.a a) (G++[c]).a (LV (Et φ G.a a) (G++[c])) H' a c):Bz K (Et φ G.a a) (G++[c]) H':=by
 apply#[λn d e=>?_,λn m v w x y A B f g h=>?_]
 .rw[K6]at e;split at e
  .next b=>
   let q:=R.Ο n d e;let z:Et φ G.a a n=φ n:=by erw[Et,if_neg<|Cq b]
   rw[z];cases d with
   |dead=>trivial
   |dat k C=>let(o,f,g):=q;show#[o,sm _ _ f,Ad.Μ (Go.new sm l u).st _ _ g]
   |mix k C=>let(o,f,g):=q;show#[o,sm _ _ f,Paired.mapP g λ_ _ q=>AG.go (Go.new sm l u) q]
  .next b=>
   cases hz:n-G.a with
   |zero=>
    let b:n=G.a:=∅
    simp_all
   |succ j=>rw[hz]at e;ext e
 .let at_:∀{n:Y} {d:Cl} {p:Kd},(G++[c])[n]?=Z d->d.kd=Z p->(n<G.a/\G[n]?=Z d/\Et φ G.a a n≠a)\/n=G.a:=λ{n d p} e r=>by
   rw[K6]at e;split at e
   .next b=>
    apply .O #[b,e,?_];erw[Et,if_neg<|Cq b];intro z;show R.nh ⟨n,d,p,e,r,z⟩ l
   .next b=>
    cases hz:n-G.a with
    |zero=>show .ρ ∅
    |succ j=>rw[hz]at e;ext e
  rcases at_ A f with⟨b,s,E⟩|b<;>rcases at_ B g with⟨i,t,F⟩|i
  .erw[Et,if_neg<|Cq b,if_neg<|Cq i]at h;show R.inj n m v w x y s t f g h
  .show(E (by rw[h,i];erw[Et,if_true])).Δ
  .show(F (by rw[<- h,b];erw[Et,if_true])).Δ
  .rw[b,i]
def
wp{n:Y}{c c':Cl}{k:Kd}(e:G[n]?=Z c)(m:c.kd=Z k)(g:c'.kd=Z k'){b:Ac}:LV φ (G.ξ n c') b↔LV φ G b:=by
 constructor
 .intro zQ;let(j,h,i,f,l,a):=zQ;by_cases d:n=j
  .subst d;show#[n,c,k,e,m,a]
  .rw[Dn d]at f;show#[j,h,i,f,l,a]
 .intro zQ;let(j,h,i,f,l,a):=zQ;by_cases d:n=j
  .subst d;show#[n,c',k',by rw[Fh<|(Bp.mp e).1],g,a]
  .show#[j,h,i,by rw[Dn d];show f,l,a]
def
Bz.chg(R:Bz K φ G H){n:Y}{c c':Cl}{k:Kd}{u:HO}(e:G[n]?=Z c)(l:c.kd=Z k)(v:c'.kd=Z k') (hc:∀L N H',Go φ G H φ (G.ξ n c') H'->H' (φ n)=Z u->L=(G.ξ n c').a->N=LV φ (G.ξ n c')->Uq K φ L N H' (φ n) c'):Bz K φ (G.ξ n c') (AL H (φ n) u)/\Go φ G H φ (G.ξ n c') (AL H (φ n) u):=by
 let go:Go φ G H φ (G.ξ n c') (AL H (φ n) u):=by
  apply#[λ_ _=>rfl,by simp,λa o x z=>?_,λb A=>.O<|(wp e l v).mp A];let ne:a≠φ n:=by
   rintro rfl;rcases z with z|z|z
   .show z #[n,c,k,e,l,rfl]
   .show z
   .let(y,r,q):=R.has e l;rw[x]at q;ext q;rw[am]at z;ext z
  rw[Zp ne];show x
 apply#[#[λj f d=>?_,λj m f w s t d B g p h=>?_],go]
 .by_cases i:n=j
  .subst i;rw[Fh (Bp.mp e).1]at d;ext d;show hc _ _ _ go ZQ rfl rfl
  .rw[Dn i]at d;let q:=R.Ο j f d;cases f with
   |dead=>trivial
   |dat t y=>
    let(r,g,p):=q;show#[r,by rw[Zp λz=>i (R.inj j n _ _ _ _ d e rfl l z).Ζ];show g,Ad.Μ go.st _ _ p]
   |mix t y=>
    let(r,g,p):=q;show#[r,by rw[Zp λz=>i (R.inj j n _ _ _ _ d e rfl l z).Ζ];show g,Paired.mapP p λ_ _ q=>AG.go go q]
 .let at_:∀{j:Y} {f:Cl} {s:Kd},(G.ξ n c')[j]?=Z f->f.kd=Z s->∃w t,G[j]?=Z w/\w.kd=Z t:=λ{j f s} d g=>by
   by_cases i:n=j
   .subst i;show#[c,k,e,l]
   .rw[Dn i]at d;show#[f,s,d,g]
  let(C,l1,E,S):=at_ d g;let(F,M,P,Q):=at_ B p;show R.inj j m C F l1 M E P S Q h
end
@[simp]def xD(o:O D)(s:IS):O (IV×Gh):=o.j λd=>(.r d,s.2)
@[simp]def xF(fl:Kd)(o:Bh)(s:IS):O (IV×Gh):=o.j λl=>(.r (.R l fl),s.2)
@[simp]def xC(fl:Kd)(o:Bh)(s:IS):O (IV×Gh):=o.j λl=>(.Y s.2.a,s.2++[.Υ fl l])
@[simp]def xP(o:O Y)(s:IS):O (IV×Gh):=o.J λn=>if n<s.2.a then Z (.Y n,s.2)else J
@[simp]def Bq(s:IS)(i:Y):O Y:=match s.1[i]? with
  |some (.cel n)=>Z n
  |_=>J
@[simp]def Oq(c f:Ae)(s:IS)(o:O Y):O Y:=o.J λn=>match s.2[n]? with
  |some (.mix (.i ns a) b)=>if a=c then match(ns.zip b).X f with
   |some (.cel j)=>Z j
   |_=>J
   else J
  |_=>J
variable {e:Expr}{g:IS->O D}{g1:IS->O IV}
def
Us(h:JE X e (tJ X.K g)):JE X e (Cn X.K λs=>xD (g s) s):=#[h.h.ζ λf H Q b=>by
 let(a,s,r,R,e,q):=b;let(d,hd,rfl):=B2.mp e;show#[a,s,d,R,hd,λv c sm hv=>q a v c (R.η sm) hv<|Go.η sm]]
def
wq(h:JE X e (Op fl X.K gf)):JE X e (Cn X.K λs=>xF fl (gf s) s):=#[h.h.ζ λp H Q d=>by
 let(c,s,r,R,e,q):=d;let(l,f,rfl):=B2.mp e;apply#[c,s,l,R,f,λa i j sm k m n=>q c _ j (R.η sm) ?_<|Go.same sm];show⟨a,i,rfl,.of (λz=>R.g.nh z k) m,n.nw λb o=>.O<|.O o⟩]
def
wr(h:JE X e (Op fl X.K gf)):JE X e (Cn X.K λs=>xC fl (gf s) s):=#[h.h.ζ λp H Q d=>by
 let(f,s,r,R,e,q):=d;let(l,i,rfl):=B2.mp e;apply#[f,s,l,R,i,λa j k sm c m n=>?_];apply q _ _ k (R.go (R.g.new sm c rfl #[j,m,n.nw λb o=>.O<|(Ur rfl).mp o]) (Go.new sm c rfl)) ⟨by simp,by erw[Et,if_true]⟩ (Go.new sm c rfl)]
def
dj(h:JE X e (EG X.K gp)):JE X e (Cn X.K λs=>xP (gp s) s):=#[h.h.ζ λf H Q c=>by
 let(a,s,r,R,e,q):=c;let(n,d,e):=Cm.mp e;split at e
 .next b=>ext e;show#[a,s,n,R,d,λb=>q a _ H R #[b,rfl]<|Go.η<|Aj.σ H]
 .cases e]
open J in
def
dm{i:Y}{x:Ae}(a:NV X i x:=by show EW):JE X (.β x pos) (EG X.K λs=>Bq s i):=#[(GA a).ζ λb H Q c=>by
 let(d,s,n,R,e,q):=c;dsimp only at e;unfold Bq at e;split at e
 .next j f=>
  ext e;rcases R.slot i _ f with z|⟨v,hv,g,rfl⟩
  .cases z
  .apply#[.I<|d n,?_,q g];cases z:b[i]? with
   |none=>rw[z]at hv;cases hv
   |some o=>rw[z]at hv;ext hv;rfl
 .cases e]
def
dr{K:Ao}{φ:Y->Ac}{L:Y}{N:Fb}{H:Hp}{f:Ae}{x:IV}:∀{ns:U Ae}{xs:U IV}{vs:U V},Paired (AG K φ L N H) xs vs->(ns.zip xs).X f=Z x->∃v,(ns.zip vs).X f=Z v/\AG K φ L N H x v
 |[],_,_,_,e=>by simp at e
 |_::_,[],_,_,e=>by simp at e
 |n::ns,y::b,_,.cons q t,e=>by
  erw[K1,List.lookup_cons]at e ⊢;cases a:f==n with
  |true=>rw[a]at e;ext e;show#[_,rfl,q]
  |false=>rw[a]at e;show dr t e
open J in
def
wt{c f:Ae}{C:Ac}(i:nsIn X.K C4 c=Z (Z (.I C)))(hc:Fj X.K C)(l:BY X.K C f)(m:JE X o (EG X.K gp))(p:FQ o f X.C (Aq o X.C)=Aq o X.C:=by rfl):JE X (.γ o f pos) (EG X.K λs=>Oq c f s (gp s)):=#[(YJ m.h p).ζ λA H Q r=>by
 let(t,s,n,R,e,q):=r;let(j,u,w):=Cm.mp e;split at w
 .next ns B E x=>
  split at w
  .next a=>
   subst a;split at w
   .next k y=>
    ext w;apply#[t,s,j,R,u,λG=>?_];let(F,d,z):=R.g.Ο j _ x;let(v,hv,b,rfl):=dr z y;erw[CO,J7 i]at d;show#[_,C,_,_,_,rfl,.O d,hc,l,hv,q b]
   .cases w
  .cases w
 .cases w]
def
dt(h:JE X e (tJ X.K g)):JE X e (QH X.K λs=>(g s).j .r):=#[h.h.ζ λf H Q a=>by
 let(b,s,r,R,e,q):=a;let(d,hd,rfl):=B2.mp e;show#[b,s,d,R,hd,λv c sm hv=>q v c sm hv]]
def
wu(h:JE X e (EG X.K gp)):JE X e (QH X.K λs=>(gp s).j .Y):=#[h.h.ζ λf H Q a=>by
 let(b,s,r,R,e,q):=a;let(n,c,rfl):=B2.mp e;show#[b,s,n,R,c,λd=>q _ H (Aj.σ H) #[d,rfl]]]
def
du:JA X [] (HY X.K λ_=>Z []):=#[Bn.ζ λb H Q a=>by
 let(c,s,d,R,e,q):=a;ext e;show q [] H (Aj.σ H) .ώ]
def
dy(h:JE X e (QH X.K g1))(d:JA X es (HY X.K ga))(f:AH (e::es) X.C=(O',Aq e X.C)::AH es X.C:=by show D2 rfl):JA X (e::es) (HY X.K λs=>Zi (g1 s) (ga s)):=#[(Z5 h.h d.h f).ζ λn H Q g=>by
 let(a,s,o,R,e,q):=g;let(x,r,i,j,rfl):=GC e;show#[a,s,x,R,i,λv p b k=>#[a,s,r,R.η b,j,λt l c m=>q _ l (b.G c)<|.Α (k.go<|Go.η c) m]]]
end
inductive RI where
 |fail|next(s:IS)|brk (s:IS)|cont (s:IS)|ret (x:IV) (G:Gh)
abbrev Bc:=IS->RI
def Ut(K:Ao)(φ:Y->Ac)(G:Gh)(H:Hp)(d:IS)(Q:St->Hp->V'):V':=∀a b c,BL K a d b c->Go φ G H a d.2 c->Q b c
def CG(K:Ao)(φ:Y->Ac)(G:Gh)(H:Hp)(D:Ends):RI->V'
 |.fail=>False
 |.next b=>Ut K φ G H b D.nx
 |.brk b=>Ut K φ G H b D.bk
 |.cont b=>Ut K φ G H b D.ct
 |.ret x c=>∀a v d,Bz K a c d->AG K a c.a (LV a c) d x v->Go φ G H a c d->D.rt v d
def tK(K:Ao)(g:Bc):TS:=λD b H=>∃a s,BL K a s b H/\CG K a s.2 H D (g s)
set_option backward.eqns.nonrecursive true in
@[simp]def Zr(a:RI)(g:Bc):RI:=match a with
  |.next s=>g s
  |r=>r
@[simp]def C9(c:O j')(a b:RI):RI:=match c with
  |some J'=>a
  |some O'=>b
  |none=>.Ρ
@[simp]def CU(i:Y)(o:O (IV×Gh))(s:IS):RI:=match o with
  |some r=>.Q (s.1.ξ i r.1,r.2)
  |none=>.Ρ
@[simp]def ER(o:O (IV×Gh)):RI:=match o with
  |some r=>.ϱ r.1 r.2
  |none=>.Ρ
@[simp]def DY(o:O (IV×Gh))(s:IS):RI:=match o with
  |some r=>.Q (s.1,r.2)
  |none=>.Ρ
def FD(i:Y)(g:Bc):U D->Bc
 |[],s=>.Q s
 |d::b,s=>match g (s.1.ξ i (.r d),s.2)with
  |.next a=>FD i g b a
  |.cont a=>FD i g b a
  |.brk a=>.Q a
  |r=>r
@[simp]def Js(i:Y)(g:Bc)(o:Bh)(s:IS):RI:=match o with
  |some a=>FD i g a s
  |none=>.Ρ
@[simp]def MD:D->Bh
  |.lst a .l=>Z a
  |_=>J
@[simp]def MF:D->Bh
  |.int j=>gd (-1000000000<=j/\j<1000000000) (Z (Ir 0 j.ν))
  |_=>J
variable {K:Ao}{φ1:Y->Ac}{G:Gh}{H1:Hp}{D:Ends}{r:RI}
def
CG.from(g:Go φ G H φ1 G1 H1)(h:CG K φ G H D r):CG K φ1 G1 H1 D r:=by
 cases r with
 |fail=>show h
 |next s=>show λa b c R go=>h a b c R<|g.G go
 |brk s=>show λa b c R go=>h a b c R<|g.G go
 |cont s=>show λa b c R go=>h a b c R<|g.G go
 |ret x d=>show λa v c R hv go=>h a v c R hv<|g.G go
end
variable {st:AE}{AF a b:U AE}{g g1 g2:Bc}{gd':IS->O D}{c:Expr}{t:IS->O j'}{e:Expr}{x:Ae}
def
wv:JB X [] (tK X.K λs=>.Q s):=#[ET.ζ λD a H ⟨b,s,R,q⟩=>q b a H R<|Go.η<|Aj.σ H]
def
dz(d:JS X st (tK X.K g1))(e:JB X AF (tK X.K g2)):JB X (st::AF) (tK X.K λs=>Zr (g1 s) g2):=#[(SO d.h e.h).ζ λD k H f=>by
 let(g,s,R,q):=f;dsimp only at q;apply#[g,s,R,?_];cases a:g1 s with
 |fail=>rw[a]at q;show q
 |next b=>rw[a]at q;show λc i l j go=>#[c,b,j,CG.xv go q]
 |brk b=>rw[a]at q;show q
 |cont b=>rw[a]at q;show q
 |ret x m=>rw[a]at q;show q]
def
ww:JS X st (tK X.K λ_=>.Ρ):=#[HA.ζ λD a H ⟨b,s,R,q⟩=>q]
def
wy(hc:JT X c (dg X.K t))(f:JB X a (tK X.K g1))(g:JB X b (tK X.K g2)):JS X (.If c a b pos) (tK X.K λs=>C9 (t s) (g1 s) (g2 s)):=#[(Pp hc.h f.h g.h).ζ λD j H i=>by
 let(d,s,R,q):=i;dsimp only at q;cases e:t s with|none=>rw[e]at q;show q.Δ|some k=>
  rw[e]at q;apply#[d,s,k,R,e,λl sm=>?_];cases k with
  |true=>show K4 #[d,s,R.η sm,CG.xv (Go.η sm) q]
  |false=>show K5 #[d,s,R.η sm,CG.xv (Go.η sm) q]]
def
dA{i:Y}(c:X.N.θ)(d:JE X e (Cn X.K gx))(f:X.N[i]?=Z x:=by rfl)(g:Loc X.C.Θ x:=by first|show .inl rfl|show .inr rfl)(j:Ey e (Z (.Name x pos')) pos.line X.env=Ax O':=by rfl)(k:X.fn x=J'\/X.env.scope.names.lookup x=Z .local:=by first|show .inl rfl|show .inr rfl|assumption):JS X (.Assign [.Name x pos'] e pos) (tK X.K λs=>CU i (gx s) s):=#[(Nr c f g d.h j k).ζ λD p H l=>by
 let(m,s,R,q):=l;dsimp only at q;cases a:gx s with
 |none=>rw[a]at q;show q.Δ
 |some r=>rw[a]at q;show#[m,s,r,R,a,λb v n o hv go=>q b _ n (o.put i hv) go]]
def
wz(c:JE X e (Cn X.K gx)):JS X (.Return (Z e) pos) (tK X.K λs=>ER (gx s)):=#[(Po c.h).ζ λD k H d=>by
 let(f,s,R,q):=d;dsimp only at q;cases a:gx s with
 |none=>rw[a]at q;show q.Δ
 |some r=>rw[a]at q;show#[f,s,r,R,a,λb v i j hv go=>q b v i j.g hv go]]
def
wA(c:JE X e (Cn X.K gx))(d:Ey e J pos.ϡ X.C=Ax O':=by rfl):JS X (.Expr e pos) (tK X.K λs=>DY (gx s) s):=#[(Pn c.h d).ζ λD k H f=>by
 let(g,s,R,q):=f;dsimp only at q;cases a:gx s with
 |none=>rw[a]at q;show q.Δ
 |some r=>rw[a]at q;show#[g,s,r,R,a,λb v i j hv go=>q b _ i j go]]
def Uu(K:Ao)(f:IS->Bh):TI:=λd H R=>∃b s c,BL K b s d H/\f s=Z c/\∀e a,Aj H a->Mj K (λ_=>False) (LV b s.2) a e c->R e a
def
wC{t:Expr}(h:JE X e (tJ X.K gd')):JI X t e (Uu X.K λs=>(gd' s).J MD):=#[(SR h.h).ζ λE H G u=>by
 let(m,s,M,R,e,q):=u;let(d,hd,e):=Cm.mp e;unfold MD at e;split at e
 .cases e;apply#[m,s,_,R,hd,λv n A hv=>?_];let(a,c,B,f,o):=hv;let p:∀j g,Step (λ_=>False) (LV m s.2) j n g->Ca X.K g a c:=λj g S=>by
   rcases f with⟨C,f⟩|⟨F,z,f⟩
   .show .O<|f.Μ S<|.O C
   .cases z;show f.sq
  apply#[a,B,#[c,p _ _ Step.σ],q _ n A λj g S i=>?_];let b:=p _ _ S;apply#[λd k=>?_,λk=>#[c,b,by rw[k,o.a];show Bg _]];let(w,r,l):=(Ad.Μ S _ _ o).Χ k;apply#[#[c,w,b,r],λx L y=>?_];let(rfl,y):=y;have:=y c b;rw[r]at this;ext this;show#[Aj.σ _,l]
 .cases e]
open J in
def
wD{c a:Expr}{p:AC}(f:Gl X "range")(g:X.mg "range"=J)(i:JE X a (tJ X.K gd'))(k:AH [a] X.C=[(O',Aq a X.C)]:=by rfl)(b:AH (a::[]) X.C=(O',Aq a X.C)::AH [] X.C:=by show D2 rfl):JI X c (.Ν (.β "range" p) [a] [] pos) (Uu X.K λs=>(gd' s).J MF):=#[(Ys f g (dy (dt i) du b).h k).ζ λt H u l=>by
   let(m,s,v,R,e,q):=l;let(d,hd,e):=Cm.mp e;unfold MF at e;split at e
   .next j=>
    let(w,e):=P8 e;ext e;apply#[m,s,[.r<|.int j],R,by erw[hd,L9,Zi,DB],λx n sm hv=>?_];cases hv with
    |cons o r=>
     ext r;subst o;show#[j,rfl,∅,∅,q _ n sm Ts]
   .cases e]
def
wE{p:U AE}{f:IS->Bh}{i:Y}{tp:AC}(hp:PassesOwn (Ah X.δ X.w) X.A X.C X.xe)(hc:X.Ϫ=J')(hi:JI X (.β x tp) iter (Uu X.K f))(hN:X.N.θ)(hb:JB X p (tK X.K g)) (P:X.N[i]?=Z x:=by rfl) (hx:Loc X.C.Θ x:=by first|show .inl rfl|show .inr rfl) (hf:X.fn x=J'\/X.env.scope.names.lookup x=Z .local:=by first|show .inl rfl|show .inr rfl|assumption) (hs:∀x,EU iter X.env x=Ax x:=by intro _;rfl):JS X (.For (.Name x tp) iter p [] pos) (tK X.K λs=>Js i g (f s) s):=#[(Nw hp hc hi.h (Nn hN P hx hf) hb.h hs).ζ λY' I H z0=>by
 let(L,s,R,q):=z0;dsimp only at q;cases r:f s with|none=>rw[r]at q;show q.Δ|some j=>
  rw[r]at q;apply#[L,s,j,R,r,λF Q s1 ok=>?_];apply#[λn m t u=>m=j.a-n/\n<=j.a/\∃a c,BL X.K a c t u/\Go L s.2 Q a c.2 u/\CG X.K a c.2 u Y' (FD i g (j.Ψ n) c),#[j.a,by simp,Fk _,L,s,R.η s1,Go.η<|Aj.σ Q,CG.xv (Go.η s1) q],?_];intro n m t u zQ;let(rfl,hle,a,c,Rn,gn,k):=zQ;let(T,S):=ok _ _ gn.st n;by_cases l:n<j.a
  .let(go,y):=T j[n]<|BZ l;rw[Mc l]at k;erw[FD]at k;apply .inr ⟨go,λG B=>n+1<=j.a/\∃a c,BL X.K a c G B/\Go L s.2 Q a c.2 B/\CG X.K a c.2 B Y' (FD i g (j.Ψ<|n+1) c),λG B z=>⟨j.a-(n+1),by show Nat.sub_succ_lt_self j.a n l,rfl,z⟩,λx B yl=>?_⟩;let(s3,hd):=y x B yl;let E:Go a c.2 u a c.2 B:=Go.η s3;apply#[a,(c.1.ξ i<|.r j[n],c.2),(Rn.η s3).put i hd,?_];cases o:g (c.1.ξ i<|.r j[n],c.2)with
   |fail=>rw[o]at k;show k
   |next M=>rw[o]at k;show λd C W R2 b=>#[l,d,M,R2,gn.G<|E.G b,CG.xv (E.G b) k]
   |cont M=>rw[o]at k;show λd C W R2 b=>#[l,d,M,R2,gn.G<|E.G b,CG.xv (E.G b) k]
   |brk M=>rw[o]at k;show λd C W R2 b=>k d C W R2<|E.G b
   |ret x G'=>rw[o]at k;show λd v W R2 hv b=>k d v W R2 hv<|E.G b
  .let e:n=j.a:=∅
   subst e;rw[Mb<|Bg _]at k;show .O ⟨S rfl,k a t u Rn<|Go.η<|Aj.σ u⟩]
end
abbrev FI:=U IV->Gh->O (IV×Gh)
def C2(K:Ao)(F:FI):Sp:=λe H Q _=>∃b G d r,Bz K b G H/\Paired (AG K b G.a (LV b G) H) d e/\F d G=Z r /\
 ∀a v c,Bz K a r.2 c->AG K a r.2.a (LV a r.2) c r.1 v->Go b G H a r.2 c->Q v c
def EH(a n:Y)(g:Bc):FI:=λb G=>if b.a=a then
  match g (b++EV (n-a) .no,G)with
  |.ret x c=>Z (x,c)
  |.next s=>Z (.r .κ,s.2)
  |_=>J
 else J
def
fi{a n:Y}{g:Bc}{xs:U IV}{G:Gh}{r:RI}(h:xs.a=a):g (xs++EV (n-a) .no,G)=r->EH a n g xs G=match r with
  |.ret x b=>Z (x,b)
  |.next s=>Z (.r .κ,s.2)
  |_=>J:=λe=>by subst h e;show if_pos rfl
def
wF{K:Ao}{G:Gh}{xs:U IV}(R:Bz K φ G H)(h:Paired (AG K φ G.a (LV φ G) H) xs vs)(n:Y):BL K φ (xs++EV n .no,G) (vs.j Z++EV n J) H:=by
 apply#[by simp[My h],R,λi x e=>?_];rw[K6]at e;split at e
 .next a=>
  let(v,b,q):=cH h e;show .ρ #[v,by rw[Fx (by simpa[<- (My h)]using a),CW,b];rfl,q]
 .rw[KP]at e;let(_,e):=Z1 e;ext e;show .O rfl
variable {P:AS}{w:Ai}{K:Ao}{mg:BP}{base:Al}{x qual nm:Ae}{st:AE}{f fn C:Ac}{fd:CH}{N ps:U Ae}{k:Y}{g g0:Bc}
def
dB(F:JV K x qual st f fd)(S:Fw N ps (Zj st))(t:ps.a<=N.a) (u:∀(b:Aa) (A:Ag) (outer:U Env) (s:Ab) (H:Hp) (E:XK),AJ k (A.Ϧ (Bt qual (Zj st) s.u.L.y f b))->JB (Ei BI P w K mg base N qual (Zj st) f b A outer s H E).nox (ZV st) (tK K g)):AY P w K mg base BI (k+1) f fd ps (C2 K (EH ps.a N.a g)):=by
 apply F.ok S (λi H Q E h=>?_) (λb A outer s H i Q E y h=>?_)
 .let(n,G,o,r,R,e,a,q):=h;let(j,a):=Z1 a;rw[<- My e];show j
 .let(n,G,o,r,R,e,a,q):=h;apply#[_,(u b A outer s H E y).h,?_];let(j,a):=Z1 a;rw[show HE N i=i.j Z++EV (N.a-ps.a) J by unfold HE;rw[<- My e,j]];apply#[n,_,wF R e<|N.a-ps.a,?_];cases d:g (o++EV (N.a-ps.a) .no,G)with
  |fail=>rw[d]at a;cases a
  |next p=>rw[d]at a;ext a;show λc z l m go=>q c .κ l m.g (by erw[AG,Au]) go
  |brk p=>rw[d]at a;cases a
  |cont p=>rw[d]at a;cases a
  |ret x B=>rw[d]at a;ext a;show λc v l m hv go=>q c v l m hv go
def
wG(D:DI K mg nm st ps fn fd)(S:Fw N ps (Zj st)) (c:∀(a:Aa) (A:Ag) (outer:U Env) (s:Ab) (H:Hp) (E:XK),AJ k (A.Ϧ (Bt nm (Zj st) s.u.L.y fn a))->JB (Ei BI P w K mg base N nm (Zj st) fn a A outer s H E).nox (ZV st) (tK K g0)) (e:g0=g:=by rfl) (b:ps.a<=N.a:=by ext):AY P w K mg base BI (k+1) fn fd ps (C2 K (EH ps.a N.a g)):=dB D.F S b (e ▸ c)
def
wH(D:MI K C nm qual st ps fn fd)(S:Fw N ps (Zj st)) (c:∀(a:Aa) (A:Ag) (outer:U Env) (s:Ab) (H:Hp) (E:XK),AJ k (A.Ϧ (Bt qual (Zj st) s.u.L.y fn a))->JB (Ei BI P w K mg base N qual (Zj st) fn a A outer s H E).nox (ZV st) (tK K g0)) (e:g0=g:=by rfl) (b:ps.a<=N.a:=by ext):AY P w K mg base BI (k+1) fn fd ps (C2 K (EH ps.a N.a g)):=dB D.F S b (e ▸ c)
end
@[simp]def Gg(F:FI)(o:O (U IV))(s:IS):O (IV×Gh):=o.J λa=>F a s.2
@[simp]def ES(c m:Ae):Cl->j'
  |.dat (.i ns a) _=>decide (a=c)&&!ns.contains m
  |.mix (.i ns a) _=>decide (a=c)&&!ns.contains m
  |_=>O'
@[simp]def DZ(c m:Ae)(F:FI)(p:O Y)(o:O (U IV))(s:IS):O (IV×Gh):=p.J λn=>match s.2[n]? with
  |some cl=>if ES c m cl=J'/\n<s.2.a then o.J λa=>F (.Y n::a) s.2 else J
  |none=>J
@[simp]def QI(c:Ae)(F:FI)(o:O (U IV))(s:IS):O (IV×Gh):=o.J λa=>(F (.Y s.2.a::a) (s.2++[.mix (.i [] c) []])).J λr=>match r.1 with
  |.val .non=>Z (.Y s.2.a,r.2)
  |_=>J
@[simp]def GQ(c f:Ae)(p:IS->O Y)(o:O (IV×Gh))(s:IS):RI:=match o with
  |some r=>match p (s.1,r.2)with
   |some n=>match r.2[n]? with
    |some (.mix (.i ns b) a)=>if b=c/\ns.a=a.a/\ns.a<1000 then .Q (s.1,r.2.ξ n (.mix (.i (putN f ns) c) (D9 f r.1 ns a)))else .Ρ
    |_=>.Ρ
   |none=>.Ρ
  |none=>.Ρ
variable {e:Expr}{p:AC}{F:FI}{k n:Y}{fn C:Ac}{fd:CH}{ps:U Ae}{x c m f:Ae}{E:XK}
def
wI(G:AY X.δ X.w X.K X.mg X.ω CX k fn fd ps (C2 X.K F))(j:AJ k X.A)(l:Gl X x)(m:X.mg x=Z (.I fn))(n:IU X.K (.I fn)=J')(o:Binds X.K fd ps [])(a:Fv CX X E) (t:JA X (e::es) (HY X.K ga)) (hz:CA X x e es pos:=by show Ga):JE X (.Ν (.β x p) (e::es) [] pos) (Cn X.K λs=>Gg F (ga s) s):=#[(PF G j l m n o .ώ a t.h hz.d hz.s hz.p).ζ λC H Q u=>by
 let(f,s,r,R,e,q):=u;let(i,a,y):=Cm.mp e;show#[f,s,i,R,a,λM L sm hv=>#[f,s.2,i,r,R.g.η sm,by rw[Eh];show hv,y,λb v z B c go=>q b v z (R.go B<|(Go.η sm).G go) c<|(Go.η sm).G go]]]
def
dC{K:Ao}{G:Gh}{cl:Cl}(b:nsIn K C4 c=Z (Z (.I C)))(R:Bz K φ G H)(e:G[n]?=Z cl)(h:ES c m cl=J'):∃f d,H (φ n)=Z (.ins C f d)/\d.X m=J:=by
 let q:=R.Ο n cl e;unfold ES at h;split at h
 .erw[Dv,decide_eq_true_eq,Qy]at h;let(rfl,h):=h;let(g,a,_):=q;erw[CO,J7 b]at a;show#[_,_,a,Oi h]
 .erw[Dv,decide_eq_true_eq,Qy]at h;let(rfl,h):=h;let(g,a,_):=q;erw[CO,J7 b]at a;show#[_,_,a,Oi h]
 .cases h
def
dE(i:nsIn X.K C4 c=Z (Z (.I C)))(h:Cn X.K (λs=>DZ c m F (gp s) (ga s) s) I H Q):KJ C m (C2 X.K F) [] E (EG X.K gp) (HY X.K ga) I H Q:=by
 let(a,s,r,R,e,q):=h;let(n,j,e):=Cm.mp e;split at e
 .next cl hc=>
  let(k,e):=Z1 e;let(f,l,o):=Cm.mp e;apply#[a,s,n,R,j,λp=>?_];let(t,u,w,x):=dC i R.g hc k.1;apply#[a n,t,u,rfl,.O w,x,a,s,f,R,l,λA B sm hv=>#[a,s.2,.Y n::f,r,R.g.η sm,.Α #[p,rfl] (by rw[Eh];show hv),o,λb v y z d go=>q b v y (R.go z<|(Go.η sm).G go) d<|(Go.η sm).G go]]
 .cases e
section
variable(hC:nsIn X.K C4 c=Z (Z (.I C)))(cl:Fj X.K C)(hm:JM X.K C m fn)(G:AY X.δ X.w X.K X.mg X.ω CX k fn fd ps (C2 X.K F))(hr:AJ k X.A)(hb:Binds X.K fd ps [])(hx:Fv CX X E)(ho:JE X o (EG X.K gp))
include hC cl hm G hr hb hx ho
def
wJ(d:JA X (e::es) (HY X.K ga)) (a:AH (e::es) X.C=(O',Aq e X.C)::AH es X.C:=by show D2 rfl) (b:(AA pos (AH es X.C)).any (·.1)=O':=by rfl) (f:ME X o m (e::es) pl apos pos:=by rfl):JE X (.Ν (.γ o m apos) (e::es) [] pos) (Cn X.K λs=>DZ c m F (gp s) (ga s) s):=#[(S3 ho.h cl hm G hr hb .ώ hx d.h a b f).ζ λ_ _ _ h=>dE hC h]
def
wL(b:ME X o m [] pl apos pos:=by rfl):JE X (.Ν (.γ o m apos) [] [] pos) (Cn X.K λs=>DZ c m F (gp s) (Z []) s):=#[(YN ho.h cl hm G hr hb .ώ hx b).ζ λu H Q h=>by
 let(d,s,n,R,e,q):=dE (E:=E) hC h;apply#[d,s,n,R,e,λf=>?_];let(a,g,i,j,k,l,p,v,w,R2,r,t):=q f;ext r;show#[a,g,i,j,k,l,t [] H (Aj.σ H) .ώ]]
end
def
wM(L:nsIn X.K C4 c=Z (Z (.I C)))(M:Mk X.K C fn)(G:AY X.δ X.w X.K X.mg X.ω CX n fn fd ps (C2 X.K F))(N:AJ (n+1) X.A)(S:Gl X x)(T:X.mg x=Z (.I C))(W:Binds X.K fd ps [])(Y':Fv CX X E) (f:JA X (e::es) (HY X.K ga)) (hz:CA X x e es pos:=by show Ga):JE X (.Ν (.β x p) (e::es) [] pos) (Cn X.K λs=>QI c F (ga s) s):=#[(pz M G N S T W .ώ Y' f.h hz.d hz.s hz.p).ζ λI H Q z0=>by
 let(φ,s,r,R,e,q):=z0;let(u,l,e):=Cm.mp e;let((y,G'),hF,e):=Cm.mp e;dsimp only at e;split at e
 .cases e;apply#[φ,s,u,R,l,λvs z B hv a k f hd m=>?_];generalize j:AL (AL z k<|.own a) a (.ins C k [])=zA;let sm:Aj z zA:=j ▸ (ZO hd).trans (ZO<|Zp (show a≠k by lia) ▸ f);apply⟨_,_,.cel s.2.length::u,_,((R.g.same B).new sm f (c:=.mix (.i [] c) []) rfl ⟨[],by rw[show zA a=Z (.ins C k []) by rw[<- j,ZQ],m];erw[CO,J7 L,Nat.add_sub_cancel];rfl,.nil⟩),.cons ⟨by simp,by erw[Et,if_true]⟩ (by rw[Eh];show Paired.mapP hv λ_ _ q=>AG.go (Go.new sm f rfl) q),hF,λo v H3 R3 t b=>?_⟩;let P:=((Go.η B).G<|Go.new sm f rfl).G b;show⟨t,q o _ H3 (R.go R3 P) ⟨BM (by simp) b.ϧ,by rw[b.ext _ (by simp)];erw[Et,if_true]⟩ P⟩
 .cases e]
def
wN{K:Ao}{L:Y}{N:Fb}{y:IV}{v:V}{ns:U Ae}{xs:U IV}(a:ns.a=xs.a)(h:Paired (AG K φ L N H) xs vs)(q:AG K φ L N H y v):Paired (AG K φ L N H) (D9 f y ns xs) (D9 f v ns vs):=by
 induction h generalizing ns with
 |nil=>cases ns with
  |nil=>show .Α q .ώ
  |cons=>cases a
 |cons h t b=>cases ns with|nil=>cases a|cons=>
   erw[D9];split
   .show .Α q t
   .show .Α h<|b (by exists a)
open J in
def
wO(t:nsIn X.K C4 c=Z (Z (.I C)))(cl:Fj X.K C)(z:BY X.K C f)(A:JE X o (EG X.K gp))(B:JE X e (Cn X.K gx)) (E:Ey e (Z (.γ o f pos')) pos.ϡ X.C=Ax O':=by rfl):JS X (.ϩ [.γ o f pos'] e pos) (tK X.K λs=>GQ c f gp (gx s) s):=#[(pi A.h B.h E).ζ λD G H W=>by
   let(F,s,R,q):=W;unfold GQ at q;dsimp only at q;split at q
   .next r M=>
    apply#[F,s,r,R,M,λa v l j hv go=>?_];split at q
    .next n m=>
     apply#[a,(s.1,r.2),n,j,m,λhl=>?_];split at q
     .next ns k p hc=>
      split at q
      .next P=>
       let(rfl,w,h2):=P;let(b,Q,x):=j.g.Ο n _ hc;let(R2,d):=j.g.chg (u:=CO X.K (.i (putN f ns) k) (a n) ((D9 f r.1 ns p).j un)<|D9 f v ns b) (c':=.mix (.i (putN f ns) k)<|D9 f r.1 ns p) hc rfl rfl
        (λL N H' y T hL S=>by subst hL S;show#[_,T,wN w (Paired.mapP x λ_ _ q=>AG.go y q) (AG.go y hv)])
       apply#[a n,C,a n-1,ns.zip b,rfl,(show l (a n)=Z (.ins C (a n-1)<|ns.zip b) by rw[Q];erw[CO,J7 t]),cl,z,by rw[List.length_zip];lia,?_];let Y':AL l (a n) (CO X.K (.i (putN f ns) k) (a n) ((D9 f r.1 ns p).j un)<|D9 f v ns b)=AL l (a n) (.ins C (a n-1)<|Fu f v<|ns.zip b):=by
        rw[cI<|w.G<|My x];erw[CO,J7 t]
       rw[<- Y'];show q a G _ (j.go R2 d)<|go.G d
      .show q.Δ
     .show q.Δ
    .show q.Δ
   .show q.Δ]
end
structure BO(X:Cx)(o:Expr)(m:Ae)(apos:AC)(e:Expr)(cpos:AC):V' where
 b:FQ o m X.C (Aq o X.C)=Aq o X.C
 f:((AA cpos (AH [e] X.C)).Ϛ (λx=>!x.1)&&(Gy cpos (Gz [] X.C)).Ϛ (λx=>x.1.υ)&&decide ([e].a+([]:List EA).a+(if([]:List EA).Φ then 0 else 1)<30))=J'
 l:(apos.ϯ==cpos.ϡ)=J'
 s:AH [e] X.C=(O',Aq e X.C)::AH [] X.C
 p:(AA cpos (AH [] X.C)).any (·.1)=O'
def
QJ{m:Ae}{e:Expr}(b:FQ o m X.C (Aq o X.C)=Aq o X.C:=by rfl) (f:((AA cpos (AH [e] X.C)).Ϛ (λx=>!x.1)&&(Gy cpos (Gz [] X.C)).Ϛ (λx=>x.1.υ)&&decide ([e].a+([]:U EA).a+(if([]:U EA).Φ then 0 else 1)<30))=J':=by rfl) (l:(apos.ϯ==cpos.ϡ)=J':=by rfl) (s:AH [e] X.C=(O',Aq e X.C)::AH [] X.C:=by show D2 rfl) (p:(AA cpos (AH [] X.C)).any (·.1)=O':=by rfl):BO X o m apos e cpos:=#[b,f,l,s,p]
@[simp]def Hl(p:O Y)(o:O D)(s:IS):O (IV×Gh):=match p,o with
  |some n,Z d=>match s.2[n]? with
   |some (.dat .l a)=>if a.a<Av then Z (.r .κ,s.2.ξ n (.Υ .l (a++[d])))else J
   |_=>J
  |_,_=>J
@[simp]def Ot(p:O Y)(o:O D)(s:IS):O (IV×Gh):=match p,o with
  |some n,Z d=>match s.2[n]? with
   |some (.dat .l a)=>if AZ ZY d&&a.Ϛ (AZ ZY)then(a.findIdx? λz=>Bl z d).j λj=>(.r .κ,s.2.ξ n (.Υ .l (a.Τ j)))else J
   |_=>J
  |_,_=>J
variable {e ei:Expr}{g:IS->O D}{tpos:AC}
def
Ou{K:Ao}{G:Gh}{n:Y}{k:Kd}{ys:U D}{ws:U V}(R:Bz K φ G H)(e:G[n]?=Z (.Υ k xs))(h:Ad K (LV φ G) H ys ws):Bz K φ (G.ξ n (.Υ k' ys)) (AL H (φ n) (CO K k' (φ n) ys ws))/\Go φ G H φ (G.ξ n (.Υ k' ys)) (AL H (φ n) (CO K k' (φ n) ys ws)):=R.chg e rfl rfl λL N d a b hL c=>by subst hL c;show#[ws,b,Ad.Μ a.st _ _ h]
open J in
def
wP(m:JE X o (EG X.K gp))(t:JE X e (tJ X.K g))(hz:BO X o "append" apos e cpos:=by show QJ):JE X (.Ν (.γ o "append" apos) [e] [] cpos) (Cn X.K λs=>Hl (gp s) (g s) s):=#[(HG Mi Tq Tr PU m.h (Z5 t.h Bn hz.s) hz.b hz.f hz.l hz.s hz.p).ζ λy H Q u=>by
   let(a,s,r,R,ex,q):=u;dsimp only at ex;unfold Hl at ex;split at ex
   .next n d w hd=>
    split at ex
    .next z hc=>
     let(x,ex):=Z1 ex;ext ex;let(c,i,j):=R.g.Ο n _ hc;apply#[a,s,n,R,w,λ_=>#[.O #[rfl,c,.O<|.inl i],a,s,d,R,hd,λv A sm hv=>?_]];let(R2,k):=Ou (k':=.l) (R.g.η sm) hc ((j.η sm).Β<|Ad.Α hv Ad.ώ);show⟨a n,c,v,rfl,rfl,sm _ _ i,j.a ▸ x,q a _ _ (R.go R2<|(Go.η sm).G k) (by erw[AG,Au])<|(Go.η sm).G k⟩
    .cases ex
   .cases ex]
open J in
def
wQ(u:X.A.ε+64<Ar)(w:JE X o (EG X.K gp))(x:JE X e (tJ X.K g))(hz:BO X o "remove" apos e cpos:=by show QJ):JE X (.Ν (.γ o "remove" apos) [e] [] cpos) (Cn X.K λs=>Ot (gp s) (g s) s):=#[(HG Mi PySem.F.slot_list_remove PySem.F.type_list_remove (vE u) w.h (Z5 x.h Bn hz.s) hz.b hz.f hz.l hz.s hz.p).ζ λE H Q y=>by
   let(a,s,r,R,ex,q):=y;dsimp only at ex;unfold Ot at ex;split at ex
   .next n d z hd=>
    split at ex
    .next B hc=>
     let(c,ex):=Z1 ex;rw[Dv]at c;let(j,C,rfl):=B2.mp ex;let(i,k,m):=R.g.Ο n _ hc;apply#[a,s,n,R,z,λ_=>#[.O #[rfl,i,.O<|.inl k],a,s,d,R,hd,λv G sm hv=>?_]];let(R2,t):=Ou (k':=.l) (R.g.η sm) hc ((m.η sm).erase j);show#[a n,i,v,_,d,B,j,rfl,rfl,sm _ _ k,m.η sm,hv.p,c.1,c.2,C,q a _ _ (R.go R2<|(Go.η sm).G t) (by erw[AG,Au])<|(Go.η sm).G t]
    .cases ex
   .cases ex]
@[simp]def QK(p:IS->O Y)(ok b:O D)(s:IS):RI:=match p s,ok,b with
  |some n,Z y,Z d=>match s.2[n]? with
   |some (.dat .d c)=>match EO c,Dw y with
    |some a,Z k=>if D6 k a&&decide (a.a<Av)then .Q (s.1,s.2.ξ n (.Υ .d (Zb (ZU a k d))))else .Ρ
    |_,_=>.Ρ
   |_=>.Ρ
  |_,_,_=>.Ρ
open J in
def
wR(C:X.A.ε+64<Ar)(E:JE X o (EG X.K gp))(W:JE X ei (tJ X.K gi))(F:JE X e (tJ X.K g)) (L:∀v,BC (.μ o ei tpos) X.C v=(do
   let f <- D1 [v] (Aq o X.C);let j <- D1 [v,f] (Aq ei X.C);standAt tpos
   D1 [v,f,j] (setItem f j v)
   release [v,f,j] []):=by intro _;rfl) (M:Np [.μ o ei tpos] e pos.ϡ X.C=Ax O':=by rfl) (c:Nq [.μ o ei tpos] e X.C=Ax J:=by rfl) (N:(Ef [.μ o ei tpos] X.C).j (·.2)=[BC (.μ o ei tpos) X.C]:=by rfl):JS X (.ϩ [.μ o ei tpos] e pos) (tK X.K λs=>QK gp (gi s) (g s) s):=#[(No F.h (Pt E.h W.h (bM C) L) M c N).ζ λD' P H Q=>by
 let(b,s,R,q):=Q;unfold QK at q;dsimp only at q;split at q
 .next n y d T S hd=>
  split at q
  .next xs hc=>
   split at q
   .next Y' k l hk=>
    split at q
    .next m=>
     rw[Dv,decide_eq_true_eq]at m;apply#[b,s,d,R,hd,λv H1 i hv=>#[b,s,n,R.η i,T,λ_=>#[b,s,y,R.η i,S,λw H2 r c=>?_]]];let ex:=GJ l;subst ex;let R2:=(R.η i).η r;let(vs,z3,z4):=R2.g.Ο n _ hc;let(t,rfl,a):=Lg z4;rw[Iw hk]at c;let u:=a.put (k:=k) (He c.p) (hv.η r);let(x,z):=Ou (k':=.d) R2.g hc u.flat;rw[Ix u]at x z;let B:=(Go.η (φ:=b) (G:=s.2) (i.G r)).G z;apply#[b n,t,k,rfl,?_,a.keys,a.hom m.1,HS<|He c.p,G8 a ▸ m.2,q b P _ (R.go x B) B];rw[<- Ix a];show z3
    .show q.Δ
   .show q.Δ
  .show q.Δ
 .show q.Δ]
end
def
wT{P:AS}{w:Ai}{K:Ao}{mg:BP}{base:Al}{k:Y}{f:Ac}{fd:CH}{F:FI}(G:AY P w K mg base BI k f fd ["_law_script"] (C2 K F)) (h:∀ns:U W',ns.a<=63->∃G',F [.r (.R (ns.j D.o))] []=Z (.r (.bl J'),G')):AY P w K mg base BI k f fd ["_law_script"] (NF K):=G.imp λo H Q E b=>by
  let(a,ns,e,d,g,q):=b;let(G',i):=h ns g;subst e;apply#[λ_=>0,[],[.r<|.lst<|ns.map D.int],_,⟨λn c e=>by simp at e,λn m c p k r e=>by simp at e⟩,.Α ?_ .ώ,i,λj v l s hv go=>?_]
  .erw[AG,Au];show#[a,_,rfl,(LstAt.of_sq d).imp (λz=>#[λ⟨n,c,k,e,_⟩=>by simp at e,z.2]) id,Ad.ints ns]
  .erw[AG,Au]at hv;subst hv;show q l
variable {s:Ab}{N:Fb}
def Gi:U Sl->O Rv
 |[.val x]=>Z (.r x)
 |_=>J
def
Lr(a:U D):a.j (D8 Gi)=a:=by induction a with
 |nil=>rfl
 |cons x c b=>rw[AQ,b];rfl
def
wU(W:Inv X pins I H s)(A:Ag)(M:A.ε+40<Ar){items:U Aa}{xs:U V}{l:U D}(g:s.u.U a=Z (DW items n0))(m:H a=J)(n:Off X pins a)(o:Ap xs items)(r:Ad X.K N H l xs)(ok:BE Gi l) {P:PySem.Fin->Ab->V'} (q:∀C vs,Inv X pins I (AL H a (.R vs)) C->Ad X.K N H (FA (CY Gi) l) vs->P (.done (.ϱ .Η)) C):wpAny (Ah X.δ X.w) A (F8.«list.sort» #[[.I a],[]]) P E s:=by
 let l1:=r.a;let l2:=o.a;let few:=ok.few;let R:Av=16777216:=IT;rw[list_sort_plain];apply An<|listItems_at g rfl ?_;let(n1,G,Q):=W.rawset (f:=λ_=>(T' [])) (its':=[]) m n g rfl;apply An<|Of g rfl ?_ (by simp;lia) (by simp);apply An<|seqEpoch_at G rfl ?_;apply An<|wpAny_newTuple ?_ (by simp;lia);generalize t:({heap:=s.heap.update a<|F4 λx=>(T' []),gens:=s.gens,drawn:=s.drawn,toks:=s.Ε,os:=s.os}:Ab)=d at *;let S:=Q.ϭ (t':=d.Ε) (λb u e=>BR {cls:=.ι "tuple",data:=.ϴ items.E} e);generalize v:({heap:=d.u.ύ {cls:=.ι "tuple",data:=.ϴ items.E},gens:=d.gens,drawn:=d.drawn,toks:=d.Ε,os:=d.os}:Ab)=i at *;apply An<|wpAny_newList ?_ (by simp);let L:=S.kept (t':=i.toks) (λb u e=>BR (DW [] 0) e);let B:=BR (DW [] 0) (show i.u.U a=Z (DW [] n1) by rw[<- v];show(BR {cls:=.ι "tuple",data:=.ϴ items.E} (show d.u.U a=Z (DW [] n1) by rw[<- t];show G)));apply F2 ?_;apply ce (N:=N) (F:=Gi) (kvs:=xs) (us:=items) (items:=items) (T:=λz=>do
  let k:=(arrOf z).j λy=>y.2;let h:=(<- seqEpoch a) != n1
  Builtin.List.listUpdate (.I a) λ_=>k
  if let Z x:=failedOf z then
   rule "list.sort.comparison-raised";throw x
  if h then
   rule "list.sort.modified";raiseError "ValueError" "list modified during sort"
  ret .Η) L A M ok (by rw[Lr];show r) o ∅ λp st hp hs ha hf=>?_
 let hpl:p.a=l.a:=by have:=hp.ϗ;exists this
 apply An<|seqEpoch_at B rfl ?_;generalize c:p.map (λj=>items.B j .Η)=out at *;let(n3,g4,I4):=L.rawset (f:=λ_=>out.E) (its':=out) m n B rfl;rw[ha];apply An<|Of B rfl ?_ (by simp) (by simp;show KY (show out.length<=Av by rw[<- c,Bx];lia));rw[hf];erw[show(n1 != n1)=O' by simp,F5,if_false];apply AV<|q _ _ (I4.catch m n g4 (show Ap (p.map λj=>xs.B j .κ) out by rw[<- c];show Oe o p) (by rw[Bx];lia)) ?_;rw[<- hs];show Ud r p λj hj=>by have:=hp.subset hj;exists this
def
dF(r:Inv X pins I H s)(m:X.A.ε+64<Ar){a:U Aa}{xs:U V}{d:U D}(h:Ap xs a)(i:Ad X.K N H d xs)(ok:BE Gi d){P:PySem.Fin->Ab->V'}
  (q:∀f c vs,H f=J->Inv X pins I (AL H f (.R vs)) c->Ad X.K N H (FA (CY Gi) d) vs->wpAny (Ah X.δ X.w) X.A.in1 (B (.I f)) P X.xe c):
  wpAny (Ah X.δ X.w) X.A.in1 (do
   let l <- newList a
   let _ <- D1 [l] (call (.Γ "list.sort") [l])
   B l) P X.xe s:=by
 let l1:=i.a
 let n:=h.a
 let few:=ok.few
 let j:Av=16777216:=IT
 apply An (wpAny_newList ?_ ∅)
 let g:=CD s.u (o:=DW a 0) rfl
 apply An (F2 (KR slot_list_sort #[_,g,rfl] entry_list_sort (wU (N:=N) (r.ϭ (t':=s.Ε) (λb u e=>BR (DW a 0) e)) _ ?_ g r.Ξ (r.off (Bg s.u.L.y)) h i ok λc vs p k=>#[_,rfl,q _ c vs r.Ξ p k]) (args_list_sort _)))
 change X.A.ε+1+1+40<_;lia
end
variable {M:Fb}{e:Expr}{f:Az}{x:Ae}{p:AC}
def J9(o:O D):Bh:=match o with
 |some (.lst a .l)=>Gf Gi a
 |some (.lst a .d)=>(EO a).J λb=>Gf Gi (b.j λp=>kD p.1)
 |_=>J
open J in
def
wV(hc:X.Ϫ=J')(hu:X.A.ε+64<Ar)(hg:Gl X x)(hm:X.mg x=J)(hv:Fs x=Z (.Γ "sorted"))(he:JE X e (tP X.K M H0 f))
  (hn:x≠"__name__":=by ext) (G:Ew x:=by ext) (hs:AH [e] X.C=(O',Aq e X.C)::AH [] X.C:=by show D2 rfl):
  JE X (.Ν (.β x p) [e] [] pos) (tF X.K M H0 λρ=>J9 (f ρ)):=#[by
 intro g s r H Q W zQ;let(ρ,ys,R,i,q):=zQ
 dsimp only at i
 let hsl:Av=16777216:=IT
 cases L:f ρ with
 |none=>rw[L]at i;cases i
 |some d=>
 rw[L]at i
 apply NC (Ig W hg hm hv ?_ hn G)
 apply PyProof.Rows.callWith_builtin1 ?_ hs rfl
 apply Ba ((Z5 he.h (Bn (X:=X)) hs) pos g s r H (λj t=>∃v,j=[v]/\Aj H t/\Ay X.K (Nf M ρ r) t d v) W #[ρ,d,R,L,λv t P y=>#[v,rfl,P,y]]) λus P hh=>?_
 let(j,t,C,r1,v,rfl,sm,y):=hh
 let(u,rfl,ru):=Ft r1
 let fin:∀k w j,t k=J->Inv X g r (AL t k (.R j)) w->Ad X.K (Nf M ρ r) t ys j->EP X g r Q (.I k) w:=λk w j c F E=>
  #[.I k,_,F,rfl,q k j _ (sm.G (ZO c)) (sm.Η c) ZQ ((E.nw λb hb=>hb.imp id λz=>by subst z;show c).η (ZO c))]
 unfold J9 at i
 split at i
 .next xs hd=>
  ext hd
  let(ok,rfl):=Uc i
  let(a,ws,rfl,S,dl):=y
  ext ru
  let(its,rv,(o,n,ho,Y',hdd,hd),hz):=C.Ϥ S
  let l2:=rv.a
  show c4 kind_sorted plain_sorted entry_sorted (args_sorted1 _) (An (m:=checkCount "sorted" 1 1 _) (AV (An (wpAny_collect_seq a (T:="list") (.O rfl) ho Y' hd (λh1 k1=>dF (N:=Nf M ρ r) (B:=λl=>ret l) (C.ϭ (t':=P.Ε) k1) hu rv dl ok λk w j c F E=>AV #[_,rfl,fin k w j c F E]) (by simp;lia)))))
 .next xs hd=>
  ext hd
  let(kvs,hun,i):=Cm.mp i
  let(ok,rfl):=Uc i
  rw[GJ hun]at y
  let(a,ws,rfl,S,dl):=y
  ext ru
  let(tr,dc,pd):=Jj S dl
  let(z,hs',nd,o,es,ep,e1,e2,e3,e4):=dc.1.ok C.ϥ
  let few:=ok.few
  let hl:kvs.a=es.y:=by have h1:=pd.kden.a;let h2:=(Og e4).a;simp at h1 h2;lia
  apply c4 kind_sorted plain_sorted entry_sorted (args_sorted1 _) ?_
  apply An (m:=checkCount "sorted" 1 1 _) (AV ?_)
  apply An (uZ (cz (es:=es) (ep:=ep) hs') (by change X.A.Ϝ=J;show C.ok.hd hc) #[o,e1,e2,e3] (by simp at few;lia) λh1 tk acc k1 hi=>?_)
  rw[cA hi]
  show dF (N:=Nf M ρ r) (B:=λl=>ret l) (C.ϭ (t':=tk) k1) hu (Og e4) pd.kden ok λk w j c F E=>AV #[_,rfl,fin k w j c F E]
 .cases i]
end
mutual
theorem MG:∀(d:D),B4 0 d=J'
 |.non=>rfl
 |.bl _=>rfl
 |.int _=>rfl
 |.str _=>rfl
 |.ty _=>rfl
 |.tup a=>by erw[B4];show Uv a
 |.lst a k=>by erw[B4,vk,Bool.not_false,Bool.true_and];show Uv a
theorem Uv:∀(xs:U D),Dg 0 xs=J'
 |[]=>rfl
 |x::xs=>by erw[Dg,MG x,Uv xs,HZ]
end
def
ZM{m:Y}:∀{xs:U D},(∀x∈xs,B4 m x=J')->Dg m xs=J'
 |[],_=>rfl
 |x::xs,h=>by erw[Dg,h x Bb,ZM λy a=>h y<|Bk _ a,HZ]
variable {K:Ao}{M:Fb}{e:Expr}{F:U Sl->O Rv}{k:Y}{fn:Ac}{fd:CH}{ps:U Ae}{x:Ae}{p:AC}{E:XK}
def
wX(G:AY X.δ X.w X.K X.mg X.ω CX k fn fd ps (AX K F))(a:AJ k X.A)(b:Gl X x)(c:X.mg x=Z (.I fn))(f:IU X.K (.I fn)=J')(g:Binds X.K fd ps [])(i:Fv CX X E) (j:JA X (e::es) (De K M H0 fa)) (hz:CA X x e es pos:=by show Ga):JE X (.Ν (.β x p) (e::es) [] pos) (Fm .d K M H0 (J0 F fa)):=#[(PF G a b c f g .ώ i j.h hz.d hz.s hz.p).ζ λ_ _ _ h=>q9 h]
end
def
wY{l:PySem.W.OpenLaw}{w:Ai}{K:Ao}{mg:BP}{f:Ac}{fd:CH}{st:AE}{n:Y}{F:FI}(d:mg "law"=Z (.I f))(q:DI K mg "law" st ["_law_script"] a fd) (G:∀base:Al,AY l.δ w K mg base BI n a fd ["_law_script"] (C2 K F)) (h:∀ns:U W',ns.a<=63->∃G',F [.r (.R (ns.j D.o))] []=Z (.r (.bl J'),G')) (e:∀(g b pm:Aa) (i:O Ac) (c ct v:Aa),bindArgs (JN "law" "law" (Io st) (ZV st) (Zj st) .Η g b pm i c ct) #[[v],[]]=Ax [(("_law_script":Ae),v)]):∃fd:CH,(∀(s:Ab) (v:Aa),BindsTo s fd #[[v],[]] [("_law_script",v)])/\∀base:Al,K.In base->base.Ns C4 mg->AY l.δ w K mg base BI n f fd ["_law_script"] (NF K):=by
 cases d.Ζ.G q.m;let(o,p,g,b,pm,i,c,ct,j,rfl,lk,k):=q.F.ex;show#[_,λs v=>.of_eq<|e _ _ _ _ _ _ _,λbase _ _=>wT (G base) h]
end Internal
variable{gx:Internal.IS->O (Internal.IV×Internal.Gh)}{gp:Internal.IS->O Y}{ga:Internal.IS->O (U Internal.IV)}{G' G1:Internal.Gh}{gf:Internal.IS->Internal.Bh}{gi:Internal.IS->O Internal.D}
def Eu{a b:Type}[DecidableEq a]:U (a×b)->a->U (a×b)
 |[],_=>[]
 |t::r,k=>if t.1=k then r else t::Eu r k
def
Uw{a b:Type}[DecidableEq a]{k:a}{x:a×b}:∀{l:U (a×b)},x∈Eu l k->x∈l
 |[],h=>nomatch h
 |t::r,h=>by
  unfold Eu at h;split at h
  .show Bk _ h
  .rcases Bw.mp h with rfl|h
   .show Bb
   .show Bk _<|Uw h
def
Ux{a b:Type}[DecidableEq a]{k:a}:∀{l:U (a×b)},(l.j (·.1)).θ->((Eu l k).j (·.1)).θ
 |[],h=>h
 |t::r,h=>by
  rw[AQ,E7]at h;unfold Eu;split
  .show h.2
  .rw[AQ,E7];apply#[λz=>h.1 ?_,Ux h.2];let(x,c,e):=Be.mp z;show Be.Ϣ #[x,Uw c,e]
def
dG{a c:Type}[DecidableEq a]{k:a}{p:c}:∀{l:U (a×c)}{j:Y},(l.j (·.1)).θ->l[j]?=Z (k,p)->l.Τ j=Eu l k
 |[],_,_,h=>by simp at h
 |t::r,0,_,h=>by ext h;simp[Eu]
 |t::r,j+1,b,h=>by
  rw[AQ,E7]at b;unfold Eu;rw[if_neg (show t.1≠k from λe=>b.1<|e ▸ Be.Ϣ ⟨(k,p),Ej h,rfl⟩),List.eraseIdx_cons_succ,dG b.2 h]
def
dH{b c:Type}(f:b->c):∀(l:U b)(j:Y),(l.j f).Τ j=(l.Τ j).j f
 |[],_=>rfl
 |_::_,0=>rfl
 |a::l,j+1=>by simp[dH f l j]
def
dI{a b:Type}[DecidableEq a]{k:a}:∀l:U (a×b),(Eu l k).a<=l.a
 |[]=>Bg _
 |t::r=>by
  have:=dI (k:=k) r;unfold Eu;split<;>simp<;>lia
namespace PySem
variable {prog:AS}{w:Ai}{K:Type}[DecidableEq K]{knd:HeapKind prog w K}{A:Ag}{s:Ab}
def
wZ{d:Ac}{xs:U (K×Ac×Aa)}{k:K}{p:Ac×Aa}{Q:O Hx->Ab->V'}(m:knd.room A)(b:knd.is s.u k a)(q:s.u.ϰ knd d xs)(hsz:xs.a<=Av)(hp:atKey xs k=Z p)
  (r:∀e:Hx,e.r=p.2->∀h',h'.ϰ knd d (Eu xs k)->Ex d s.u h'->Q (Z e) {s with heap:=h',toks:=s.Ε+knd.draws k}):
  wpAny (Ah prog w) A (Builtin.Dict.takeOut d (.I a)) Q E s:=by
 let(o,v,t,c,hc,hd,g,f,h):=q
 unfold Builtin.Dict.takeOut
 try with_reducible apply F2 ?_
 apply An (knd.pyHash m b ?_)
 apply An (wpAny_dictFind_heap (s:={s with toks:=s.Ε+knd.draws k}) m b c hd g f h ?_ ?_)
 .intro i
  rw[Qs i]at hp;ext hp
 .intro j y l
  let n:=atKey_of_get h l
  rw[hp]at n
  ext n
  apply An (N6 (s:={s with toks:=s.Ε+knd.draws k}) c hd ?_)
  rw[entry_at g j,l]
  apply An (wpAny_updateDictKeys (hz:=by have e:=size_of_entries g;lia) (s:={s with toks:=s.Ε+knd.draws k}) c hd (AV (r _ rfl _ #[_,_,t+1,PN _ c (Obj.isFreed_of_dict (TX hd _)),
   hc.mapDictKeys _,TX hd _,?_,?_,Ux h] (J5 ..))))
  .rw[<- dG h l,Array.toList_eraseIdxIfInBounds,g,dH]
  .show λx u=>knd.keeps (f x (Uw u)) c hd (J5 ..)
def
w6{k:K}(d:Ac):
  MeetsIn prog w (F8.«dict.pop» #[[.I d,.I a],[]]) (λA R s=>knd.room A.in1/\∃xs p,knd.is s.u k a/\s.u.ϰ knd d xs/\xs.a<=Av/\atKey xs k=Z p /\
   ∀h',h'.ϰ knd d (Eu xs k)->Ex d s.u h'->R (.ok (.ϱ p.2)) {s with heap:=h',toks:=s.Ε+knd.draws k}):=
 .of_wp λA R s i=>by
  let(j,xs,p,c,f,hz,hp,l):=i
  apply An ?_
  apply An (TY f.ϕ ?_)
  apply AV ?_
  let m:xs≠[]:=λe=>by subst e;ext hp
  let b:=f
  let(o,n,v,q,hc,hd,r,t,x):=b
  let g:n.Φ=O':=by
   have:=size_of_entries r
   grind
  apply An (N6 q hd (An (AV ?_)))
  rw[g]
  apply An (wZ j c f hz hp λe u h' b h=>?_)
  show An (wpAny_letGo (AV #[e.r,rfl,by rw[u];show l h' b h]))
end
end PySem
namespace Internal
open PySem PySem.Spec PyProof.Rows PySem.W
def
RT.out{l:U At}{tr:U T3}(h:RT tr us):RT (Eu tr (.S l)) (Eu us l):=by
 induction h with|nil=>show .ώ|@cons t u _ _ h a b=>
  unfold Eu;by_cases e:u.1=l
  .rw[if_pos (by rw[h.1,e]),if_pos e];show a
  .rw[if_neg<|λz=>e<|KT.S.inj<|h.1.Ζ.G z,if_neg e];show .Α h b
def xa(K:Ao):V->U V->Hp->VK->V':=λx b H Q=>∃a tr l y v,x=.I a/\b=[y]/\H a=Z (D5 tr)/\(∀t∈tr,BV K H t.1 t.2.1)/\HR (.S l) tr/\BV K H (.S l) y/\CK tr (.S l)=Z v/\Q v (AL H a (D5 (Eu tr (.S l))))
section
def
xc(T:X.A.ε+64<Ar):KV X "dict.pop" (xa X.K):=by
 intro i s R H x Y' v d Q S n o h
 let(a,tr,l,y,z,rfl,rfl,e,f,r,t,hv,q):=h
 ext n
 let(u,rfl,B):=Ft o
 let(p,C,E):=t
 subst C
 cases(show u=DR p from B)
 let(j,G,nd,d,rel,m):=Ld S #[.O e,f] r
 let b:=rel.r l
 rw[hv]at b
 cases hp:atKey d l with
 |none=>rw[hp]at b;show b.Δ
 |some L=>
  rw[hp]at b
  apply call_meetsIn PySem.F.slot_dict_pop m.ϕ PySem.F.entry_dict_pop (PySem.F.args_dict_pop_2 _ _) (w6 (knd:=Cb (ZH X.δ X.w)) (k:=l) a)
   #[Le ∅,d,L,Jh S E,m,(show d.a<=Av by rw[<- G8 rel];show j),hp,λM c g=>?_]
  let N:∃q,M.U a=Z q:=let⟨q,_,_,P,_⟩:=c;#[q,P]
  show#[z,_,Lf S (by rw[e];show HC) g N (Qr (BN (dI _) j) G (Ux nd) rel.out c),b,q]
end
variable {K:Ao}{N:Fb}
def
PD.out{k:KT}{tr:U T3}(h:PD K N H kvs tr):PD K N H (Eu kvs k) (Eu tr k):=by
 induction h with|nil=>show .ώ|cons h a b=>
  unfold Eu;rw[h.1];split
  .show a
  .show .Α h b
end
@[simp]def dJ:KT->j'
  |.tup _=>J'
  |_=>O'
@[simp]def QL(p:O Y)(o:O D)(s:IS):O (IV×Gh):=match p,o with
  |some n,Z y=>match s.2[n]? with
   |some (.dat .d b)=>match EO b,Dw y with
    |some a,Z k=>if D6 k a&&dJ k then(Zs a k).j λd=>(.r d,s.2.ξ n (.Υ .d (Zb (Eu a k))))else J
    |_,_=>J
   |_=>J
  |_,_=>J
variable {e:Expr}{g:IS->O D}
open J in
def
xf(zA:X.A.ε+64<Ar)(P:JE X o (EG X.K gp))(L:JE X e (tJ X.K g))(hz:BO X o "pop" apos e cpos:=by show QJ):JE X (.Ν (.γ o "pop" apos) [e] [] cpos) (Cn X.K λs=>QL (gp s) (g s) s):=#[(HG T6 PySem.F.slot_dict_pop PySem.F.type_dict_pop (xc zA) P.h (Z5 L.h Bn hz.s) hz.b hz.f hz.l hz.s hz.p).ζ λI H Q M=>by
   let(i,s,r,R,ex,q):=M;dsimp only at ex;unfold QL at ex;split at ex
   .next n y N S=>
    split at ex
    .next xs hc=>
     split at ex
     .next T k t W=>
      let(u,ex):=Z1 ex;rw[Dv]at u;let(d,hd,rfl):=B2.mp ex;cases k with| «at» b=>show absurd u.2 (by simp)|tup l=>
       let ex:=GJ t;subst ex;let(Y',m,x):=R.g.Ο n _ hc;let(tr0,e0,pd0):=Lg x;subst e0;apply#[i,s,n,R,N,λ_=>#[.ρ<|.inr ⟨rfl,_,_,.inl m⟩,i,s,y,R,S,λw H1 sm B=>?_]];let(Y',m,x):=(R.η sm).g.Ο n _ hc;let(j,e',a):=Lg x;subst e';rw[Iw W]at B;let(C,z):=Ou (k':=.d) (R.η sm).g hc (a.out (k:=.S l)).flat;rw[Ix<|a.out (k:=.S l)]at C z;rw[Ix a]at m;let E:=(Go.η (φ:=i) (G:=s.2) sm).G z;let hv:=a.r<|.S l;rw[hd]at hv;cases c:CK j (.S l)with
       |none=>rw[c]at hv;show hv.Δ
       |some v=>
        rw[c]at hv;show#[i n,j,l,w,v,rfl,rfl,m,a.keys,a.hom u.1,HS<|He B.p,c,q i v _ (R.go C E) (Au.Μ z.st _ _ hv) E]
     .cases ex
    .cases ex
   .cases ex]
end
@[simp]def Ka(o:O (IV×Gh))(b c:Bc)(s:IS):RI:=match o with
  |some (.val (.bl k),a)=>if k=J' then c (s.1,a)else b (s.1,a)
  |_=>.Ρ
variable {e:Expr}{a b:U AE}{h:IS->O Ae}{g g1 g2:Bc}{p:AC}
open J in
def
xh(hc:JE Y' e (Cn Y'.K gx))(g:JB Y' a (tK Y'.K g1))(i:JB Y' b (tK Y'.K g2))(j:∀c,isTrue e Y'.C c=(do let v <- c;standAt e.pos;D1 [v] (truthy v)):=by intro _;rfl):JS Y' (.If (.UnaryOp .Not e p) a b pos) (tK Y'.K λs=>Ka (gx s) g1 g2 s):=#[(Pp (Yj<|nG hc.h j) g.h i.h).mono λD o H l=>by
 let(m,s,R,q):=l;unfold Ka at q;dsimp only at q;split at q
 .next k r n=>
  apply#[m,s,_,R,n,λd v t f hv go=>?_];subst hv;apply#[k,rfl,?_];cases k with
  |true=>show K5 #[d,_,f,CG.xv go q]
  |false=>show K4 #[d,_,f,CG.xv go q]
 .show q.Δ]
end
def IE(a:Scope):U Ae:=(a.τ.tail.χ λp=>match p.2 with | .local=>J'|_=>O').j (·.1)
def Uy(own a:U Ae)(b c:Scope):j':=decide (b.g7=.Ϸ)&&b.τ.Ϛ (λx=>decide (x.2≠.Ο))&&b.τ.Ϛ (λx=>decide (x.2≠.ϊ)||decide (c.τ.X x.1=Z .Ο)||decide (c.τ.X x.1=Z .ϊ))
 && b.τ.Ϛ (λx=>decide (x.2≠.ϔ)||decide (b.names.lookup x.1=Z .local))&&a.all (λx=>decide (b.τ.X x=Z .ϊ))&&decide (own++a).θ
def
xi{own a:U Ae}{d b:Scope}(h:Uy own a d b=J'):IZ own a d b:=by
 erw[Uy,Dv,Dr,Bool.or_eq_true,decide_eq_true_eq]at h;let(((((f,g),i),j),k),l):=h;show#[f,g,λx c e=>(i x c).Δ (λz=>z.Δ (λz=>absurd e z) .O) .ρ,λx c e=>(j x c).Δ (λz=>absurd e z) id,k,l]
structure XI(P:AS)(w:Ai)(K:Ao)(mg:BP)(base:Al)(X:Cx)(N:List Ae)(sc:Scope):V' where
 p:X.δ=P
 w:X.w=w
 k:X.K=K
 m:X.mg=mg
 b:X.ω=base
 n:X.N=N
 s:X.C.Θ=sc
 d:N.θ
def
XI.nd{P:AS}{w:Ai}{K:Ao}{mg:BP}{base:Al}{N:U Ae}{a:Scope}(h:XI P w K mg base X N a):X.N.θ:=h.n ▸ h.d
def oN(N:U Ae)(oix:U Y):U Ae:=oix.Ϗ (N[·]?)
structure CQ(N:List Ae)(sc scope:Scope)(n:Y)(oix:List Y):V' where
 S:IZ (IE scope) (oN N oix) scope sc
 l:(IE scope).a=n
 x:oix.j (λj=>N[j]?)=(oN N oix).j Z
def
MH{N:U Ae}{a:Scope}{n:Y}{oix:U Y}(h:(Uy (IE scope) (oN N oix) scope a&&decide ((IE scope).a=n)&&decide (oix.j (λj=>N[j]?)=(oN N oix).j Z))=J'):CQ N a scope n oix:=by
 erw[Dv,decide_eq_true_eq]at h;show#[xi h.1.1,h.1.2,h.2]
variable {K:Ao}{M:Fb}{f:VE->Bh}{fd:Az}{b:D->VE->O VE}{t:VE->O j'}{e:Az}{spos:AC}{oix:U Y}{n i:Y}{N:U Ae}{x:Ae}
variable{P:AS}{w:Ai}{K0:Ao}{mg:BP}{base:Al}
def
MJ{own a:U Ae}(h:XI P w K0 mg base X N sc)(d:(own++a).θ)(j:∀C s2 f g c i H',XI P w K0 mg base (DL X own a scope C s2 f g c) (own++a) (DL X own a scope C s2 f g c).C.Θ->JG (DL X own a scope C s2 f g c) tg (tG K i H' ws b))(l:∀C s2 f g c i H',XI P w K0 mg base (DL X own a scope C s2 f g c) (own++a) (DL X own a scope C s2 f g c).C.Θ->JF (DL X own a scope C s2 f g c) ifs (B9 K i H' t))(n:∀C s2 f g c i H',XI P w K0 mg base (DL X own a scope C s2 f g c) (own++a) (DL X own a scope C s2 f g c).C.Θ->JE (DL X own a scope C s2 f g c) elt (tD K i H' e)):CB K X own a scope tg ifs elt ws b t e:=rT (j _ _ _ _ _ _ _ #[h.p,h.w,h.k,h.m,h.b,rfl,rfl,d]) (l _ _ _ _ _ _ _ #[h.p,h.w,h.k,h.m,h.b,rfl,rfl,d])<|n _ _ _ _ _ _ _ ⟨h.p,h.w,h.k,h.m,h.b,rfl,rfl,d⟩
variable(h:XI P w K0 mg base X N sc)(q:CQ N sc scope n oix)(hc:X.Ϫ=J')(hK:K0=K)
include h q hc hK
def
xj(a:JI X tg iter (tI K M H0 f))(c:CB K X (IE scope) (oN N oix) scope tg ifs elt ws b t e)(d:∀j∈ws,j<n)(g:∀x,EU iter X.C x=Ax x:=by intro _;rfl):JE X (.Λ elt [#[tg,iter,ifs,0]] scope pos) (tF K M H0 (Zh n oix f b t e)):=by
 let(_,_,i,_,_,rfl,rfl,_):=h;let(S,rfl,x):=q;grind [rV]
def
xk(a:N[i]?=Z x)(d:sc.τ.X x=Z .ϔ)(g:JI X tg iter (tI K M H0 f))(k:CB K X (IE scope) (oN N oix) scope tg ifs elt ws b t e)(l:∀j∈ws,j<n)(c:Ey (.Λ elt [#[tg,iter,ifs,0]] scope pos) (Z (.β x pos')) spos.ϡ X.C=Ax J':=by rfl)(m:∀x,EU iter X.C x=Ax x:=by intro _;rfl):JS X (.ϩ [.β x pos'] (.Λ elt [#[tg,iter,ifs,0]] scope pos) spos) (tS K M H0 λρ=>ZN i (Zh n oix f b t e ρ) ρ):=by
 let(_,_,o,_,_,rfl,rfl,nd):=h;let(S,rfl,x):=q;grind [rW]
def
xm(a:N[i]?=Z x)(d:sc.τ.X x=Z .ϔ)(g:JI X tg iter (tI K M H0 f))(k:CB K X (IE scope) (oN N oix) scope tg ifs elt ws b t e)(l:∀j∈ws,j<n)(c:Ey (.Λ elt [#[tg,iter,ifs,0]] scope pos) (Z (.β x pos')) spos.ϡ X.C=Ax J':=by rfl)(m:∀x,EU iter X.C x=Ax x:=by intro _;rfl):JS X (.ϩ [.β x pos'] (.Λ elt [#[tg,iter,ifs,0]] scope pos) spos) (tS K M H0 λρ=>ZJ i (ZA (Zh n oix f b t e ρ)) ρ):=by
 let(_,_,o,_,_,rfl,rfl,nd):=h;let(S,rfl,x):=q;grind [rX]
def
xn(a:JE X iter (tQ K M H0 fd))(c:CB K X (IE scope) (oN N oix) scope tg ifs elt ws b t e)(d:∀j∈ws,j<n)(f:∀x,EU iter X.C x=Ax x:=by intro _;rfl):JE X (.Λ elt [#[tg,iter,ifs,0]] scope pos) (tF K M H0 (Zh n oix (λρ=>(fd ρ).J Ea) b t e)):=by
 let(_,_,g,_,_,rfl,rfl,_):=h;let(S,rfl,x):=q;grind [vY]
def
xo(a:N[i]?=Z x)(d:sc.τ.X x=Z .ϔ)(f:JE X iter (tQ K M H0 fd))(g:CB K X (IE scope) (oN N oix) scope tg ifs elt ws b t e)(k:∀j∈ws,j<n)(c:Ey (.Λ elt [#[tg,iter,ifs,0]] scope pos) (Z (.β x pos')) spos.ϡ X.C=Ax J':=by rfl)(l:∀x,EU iter X.C x=Ax x:=by intro _;rfl):JS X (.ϩ [.β x pos'] (.Λ elt [#[tg,iter,ifs,0]] scope pos) spos) (tS K M H0 λρ=>ZN i (Zh n oix (λρ=>(fd ρ).J Ea) b t e ρ) ρ):=by
 let(_,_,m,_,_,rfl,rfl,nd):=h;let(S,rfl,x):=q;grind [vZ]
end
def All{a:Type}(p:a->V'):U a->V'
 |[]=>True
 |x::r=>p x/\All p r
def
All.get{a:Type}{p:a->V'}:∀{l:U a}(i:Y){x:a},All p l->l[i]?=Z x->p x
 |_::_,0,_,h,e=>by ext e;show h.1
 |_::_,i+1,_,h,e=>All.Χ i h.2 (by exists e)
 |[],_,_,_,e=>by simp at e
def DX(K:Ao)(mg:BP):Ae×AE×U Ae->V'
 |(a,st,b)=>∃fn fd,DI K mg a st b fn fd
def MX(K:Ao)(C:Ac):Ae×Ae×AE×U Ae->V'
 |(b,a,st,c)=>∃fn fd,MI K C b a st c fn fd
section
variable(P:AS)(w:Ai)(K:Ao)(mg:BP)(base:Al)
def OF(k:Y)(nm:Ae)(sp:Sp):V':=∃st a fn fd,DI K mg nm st a fn fd/\AY P w K mg base BI k fn fd a sp
def OM(C:Ac)(c:Eg)(k:Y)(nm:Ae)(sp:Sp):V':=∃a st b fn fd,MI K C nm a st b fn fd/\AY P w K mg base c k fn fd b sp
end
variable {P:AS}{w:Ai}{K:Ao}{mg:BP}{base:Al}{ps:U Ae}{nm qual:Ae}{st:AE}{k:Y}{C:Ac}{g:As}{gi:Bc}(N:U Ae)
def
BG(D:DX K mg (nm,st,ps)) (l:∀(fn:Ac) (i:Aa) (A:Ag) (outer:U Env) (s:Ab) (H:Hp) (E:XK) (M:Fb) (H0:Hp),XI P w K mg base (Ei BI P w K mg base N nm (Zj st) fn i A outer s H E).nox N (Zj st)->AJ k (A.Ϧ (Bt nm (Zj st) s.u.L.y fn i))->JB (Ei BI P w K mg base N nm (Zj st) fn i A outer s H E).nox (ZV st) (tS K M H0 g)) (S:Fw N ps (Zj st):=by show Oh) (j:ps.a<=N.a:=by ext):OF P w K mg base (k+1) nm (AX K (AU ps.a N.a g)):=let⟨fn,fd,D⟩:=D
 #[st,ps,fn,fd,D,ve D S (λa b c d e f g h r=>l fn a b c d e f g h #[rfl,rfl,rfl,rfl,rfl,rfl,rfl,S.nd] r) rfl j]
def
dK(D:MX K C (nm,qual,st,ps)) (l:∀(fn:Ac) (i:Aa) (A:Ag) (outer:U Env) (s:Ab) (H:Hp) (E:XK) (M:Fb) (H0:Hp),XI P w K mg base (Ei BI P w K mg base N qual (Zj st) fn i A outer s H E).nox N (Zj st)->AJ k (A.Ϧ (Bt qual (Zj st) s.u.L.y fn i))->JB (Ei BI P w K mg base N qual (Zj st) fn i A outer s H E).nox (ZV st) (tS K M H0 g)) (S:Fw N ps (Zj st):=by show Oh) (j:ps.a<=N.a:=by ext):OM P w K mg base C BI (k+1) nm (AX K (AU ps.a N.a g)):=let⟨fn,fd,D⟩:=D
 #[qual,st,ps,fn,fd,D,vX D S (λa b c d e f g h r=>l fn a b c d e f g h #[rfl,rfl,rfl,rfl,rfl,rfl,rfl,S.nd] r) rfl j]
def
dL{fn:Ac}{fd:CH}(D:DI K mg nm st ps fn fd) (i:∀(g:Aa) (A:Ag) (outer:U Env) (s:Ab) (H:Hp) (E:XK),XI P w K mg base (Ei BI P w K mg base N nm (Zj st) fn g A outer s H E).nox N (Zj st)->AJ k (A.Ϧ (Bt nm (Zj st) s.u.L.y fn g))->JB (Ei BI P w K mg base N nm (Zj st) fn g A outer s H E).nox (ZV st) (tK K gi)) (S:Fw N ps (Zj st):=by show Oh) (h:ps.a<=N.a:=by ext):AY P w K mg base BI (k+1) fn fd ps (C2 K (EH ps.a N.a gi)):=wG D S (λa b c d e f r=>i a b c d e f #[rfl,rfl,rfl,rfl,rfl,rfl,rfl,S.nd] r) rfl h
def
Ov(D:DX K mg (nm,st,ps)) (c:∀(fn:Ac) (a:Aa) (A:Ag) (outer:U Env) (s:Ab) (H:Hp) (E:XK),XI P w K mg base (Ei BI P w K mg base N nm (Zj st) fn a A outer s H E).nox N (Zj st)->AJ k (A.Ϧ (Bt nm (Zj st) s.u.L.y fn a))->JB (Ei BI P w K mg base N nm (Zj st) fn a A outer s H E).nox (ZV st) (tK K gi)) (S:Fw N ps (Zj st):=by show Oh) (b:ps.a<=N.a:=by ext):OF P w K mg base (k+1) nm (C2 K (EH ps.a N.a gi)):=let⟨fn,fd,D⟩:=D
 #[st,ps,fn,fd,D,dL N D (c fn) S b]
def
Kb(D:MX K C (nm,qual,st,ps)) (i:∀(fn:Ac) (g:Aa) (A:Ag) (outer:U Env) (s:Ab) (H:Hp) (E:XK),XI P w K mg base (Ei BI P w K mg base N qual (Zj st) fn g A outer s H E).nox N (Zj st)->AJ k (A.Ϧ (Bt qual (Zj st) s.u.L.y fn g))->JB (Ei BI P w K mg base N qual (Zj st) fn g A outer s H E).nox (ZV st) (tK K gi)) (S:Fw N ps (Zj st):=by show Oh) (h:ps.a<=N.a:=by ext):OM P w K mg base C BI (k+1) nm (C2 K (EH ps.a N.a gi)):=let⟨fn,fd,D⟩:=D
 #[qual,st,ps,fn,fd,D,wH D S (λa b c d e f r=>i fn a b c d e f #[rfl,rfl,rfl,rfl,rfl,rfl,rfl,S.nd] r) rfl h]
end
variable {P:AS}{w:Ai}{K K':Ao}{mg:BP}{base:Al}{N:U Ae}{M:Fb}{k n:Y}{C:Ac}{c m x:Ae}{F:U Sl->O Rv}{FF:FI}{e:Expr}{fe:Az}{p kpos:AC}(h:XI P w K mg base X N sc)(r:AJ n X.A)
include h r
def
xp(G:OF P w K mg base k x (AX K F))(a:K=K')(b:JA X (e::es) (De K' M H0 fa))(c:k<=n)(d:Gl X x)(hz:CA X x e es pos):JE X (.Ν (.β x p) (e::es) [] pos) (tD K' M H0 (Zg F fa)):=by
 let(rfl,rfl,rfl,rfl,rfl,_,_,_):=h;let(_,_,_,_,D,G):=G;grind [u0]
def
xq(G:OF P w K mg base k x (AX K F))(a:K=K')(b:JA X (e::es) (De K' M H0 fa))(c:k<=n)(d:Gl X x)(hz:CA X x e es pos):JE X (.Ν (.β x p) (e::es) [] pos) (tF K' M H0 (En F fa)):=by
 let(rfl,rfl,rfl,rfl,rfl,_,_,_):=h;let(_,_,_,_,D,G):=G;grind [u3]
def
xr(G:OF P w K mg base k x (AX K F))(a:K=K')(c:JA X (e::es) (De K' M H0 fa))(f:k<=n)(g:Gl X x)(hz:CA X x e es pos):JE X (.Ν (.β x p) (e::es) [] pos) (Fm .d K' M H0 (J0 F fa)):=by
 let(rfl,rfl,rfl,rfl,rfl,_,_,_):=h;subst a;let(_,_,_,_,D,G):=G;show wX G (r.ζ f) g D.m D.F.kp D.b (E:=E0) Ip c hz
def
xt(G:OF P w K mg base k x (C2 K FF))(a:K=K')(c:JA X (e::es) (HY K' ga))(d:k<=n)(f:Gl X x)(hz:CA X x e es pos):JE X (.Ν (.β x p) (e::es) [] pos) (Cn K' λs=>Gg FF (ga s) s):=by
 let(rfl,rfl,rfl,rfl,rfl,_,_,_):=h;subst a;let(_,_,_,_,D,G):=G;show wI G (r.ζ d) f D.m D.F.kp D.b (E:=E0) Ip c hz
def
dM(G:OF P w K mg base k y (AX K F))(f:mg x=J)(g:K=K')(i:JE X e (tP K' M H0 fe))(j:k+2<=n:=by ext)(l:Gl X x:=by rfl)(hv:Fs x=Z (.Γ "sorted"):=by rfl)(c:Gl X y:=by rfl) (o:x≠"__name__":=by ext) (d:Ew x:=by ext) (a:Ew y:=by ext) (q:AH [e] X.C=(O',Aq e X.C)::AH [] X.C:=by show D2 rfl):JE X (.Ν (.β x p) [e] [#[Z "key",.β y p2,kpos]] pos) (tF K' M H0 (Ll F fe)):=by
 let(rfl,rfl,rfl,rfl,rfl,_,_,_):=h;subst g;let(_,_,_,_,D,G):=G;show uI G (r.ζ j) l f hv c D.m D.b i o d a q
variable(cb:CI K mg c C)
include cb
def
xw(G:OM P w K mg base C BI k "__init__" (C2 K FF))(a:K=K')(d:JA X (e::es) (HY K' ga))(f:k+1<=n:=by ext)(g:Gl X c:=by rfl)(hz:CA X c e es pos:=by show Ga):JE X (.Ν (.β c p) (e::es) [] pos) (Cn K' λs=>QI c FF (ga s) s):=by
 let(rfl,rfl,rfl,rfl,rfl,_,_,_):=h;subst a;let(_,_,_,_,_,D,G):=G;show wM cb.cof (cb.mkB D) G (r.ζ f) g cb.m D.b (E:=E0) Ip d hz
def
xx(G:OM P w K mg base C BI k m (AX K F))(f:K=K')(g:JE X o (GB K' M H0 fo))(i:JA X (e::es) (De K' M H0 fa))(j:k<=n:=by ext) (a:AH (e::es) X.C=(O',Aq e X.C)::AH es X.C:=by show D2 rfl) (d:(AA pos (AH es X.C)).any (·.1)=O':=by rfl) (l:ME X o m (e::es) pl apos pos:=by rfl):JE X (.Ν (.γ o m apos) (e::es) [] pos) (tD K' M H0 λρ=>(HU c m F (fo ρ) (fa ρ)).j Em):=by
 let(rfl,rfl,rfl,rfl,rfl,_,_,_):=h;subst f;let(_,_,_,_,_,D,G):=G;show vn cb.cof cb.cl D.M G (r.ζ j) D.b (E:=E0) Ip g i a d l
def
xy(G:OM P w K mg base C BI k m (AX K F))(a:K=K')(d:JE X o (GB K' M H0 fo))(e:k<=n:=by ext)(f:ME X o m [] pl apos pos:=by rfl):JE X (.Ν (.γ o m apos) [] [] pos) (tD K' M H0 λρ=>(HU c m F (fo ρ) (Z [])).j Em):=by
 let(rfl,rfl,rfl,rfl,rfl,_,_,_):=h;subst a;let(_,_,_,_,_,D,G):=G;show vo cb.cof cb.cl D.M G (r.ζ e) D.b (E:=E0) Ip d f
def
Ow(G:OM P w K mg base C BI k m (C2 K FF))(f:K=K')(g:JE X o (EG K' gp))(i:JA X (e::es) (HY K' ga))(j:k<=n:=by ext) (a:AH (e::es) X.C=(O',Aq e X.C)::AH es X.C:=by show D2 rfl) (d:(AA pos (AH es X.C)).any (·.1)=O':=by rfl) (l:ME X o m (e::es) pl apos pos:=by rfl):JE X (.Ν (.γ o m apos) (e::es) [] pos) (Cn K' λs=>DZ c m FF (gp s) (ga s) s):=by
 let(rfl,rfl,rfl,rfl,rfl,_,_,_):=h;subst f;let(_,_,_,_,_,D,G):=G;show wJ cb.cof cb.cl D.M G (r.ζ j) D.b (E:=E0) Ip g i a d l
def
xz(G:OM P w K mg base C BI k m (C2 K FF))(a:K=K')(d:JE X o (EG K' gp))(e:k<=n:=by ext)(f:ME X o m [] pl apos pos:=by rfl):JE X (.Ν (.γ o m apos) [] [] pos) (Cn K' λs=>DZ c m FF (gp s) (Z []) s):=by
 let(rfl,rfl,rfl,rfl,rfl,_,_,_):=h;subst a;let(_,_,_,_,_,D,G):=G;show wL cb.cof cb.cl D.M G (r.ζ e) D.b (E:=E0) Ip d f
end
variable {K:Ao}{M:Fb}{st:AE}{g:As}{i:Y}
@[simp]def Gj(i:Y)(g:As):As:=λa=>g (Jd i a)
def
xA(h:JS X st (tS K M H0 g)):JS X st (tS K M H0 (Gj i g)):=rz i h
end
end Internal
namespace Internal
open PySem PySem.Spec PyProof.Rows
def

ZHV(a b:W'):Bl (.o a) (.o b)=decide (a=b):=by show(a==b)=_;by_cases h:a=b<;>simp[h]
def

ZHW(a b:Ae):Bl (.Ι a) (.Ι b)=decide (a=b):=by show(a==b)=_;by_cases h:a=b<;>simp[h]
def

ZHv(a b:j'):Bl (.bl a) (.bl b)=decide (a=b):=by show(a==b)=_;by_cases h:a=b<;>simp[h]
def

ZHO:Bl .κ .κ=J':=id rfl
def

ZHq(a:j')(b:W'):Bl (.bl a) (.o b)=decide ((if a then 1 else 0)=b):=by show((if a then 1 else 0)==b)=_;by_cases h:(if a then 1 else 0)=b<;>simp[h]
def

ZHP(a:W')(b:j'):Bl (.o a) (.bl b)=decide (a=(if b then 1 else 0)):=by show(a==(if b then 1 else 0))=_;by_cases h:a=(if b then 1 else 0)<;>simp[h]
def

ZHz(a:W')(b:Ae):Bl (.o a) (.Ι b)=O':=id rfl
def

ZHs(a:Ae)(b:W'):Bl (.Ι a) (.o b)=O':=id rfl
def

ZHA(a:j')(b:Ae):Bl (.bl a) (.Ι b)=O':=id rfl
def

ZHp(a:Ae)(b:j'):Bl (.Ι a) (.bl b)=O':=id rfl
def

ZHw(b:W'):Bl .κ (.o b)=O':=id rfl
def

ZHU(b:Ae):Bl .κ (.Ι b)=O':=id rfl
def

ZHJ(b:j'):Bl .κ (.bl b)=O':=id rfl
def

ZHD(b:W'):Bl (.o b) .κ=O':=id rfl
def

ZHo(b:Ae):Bl (.Ι b) .κ=O':=id rfl
def

ZHK(b:j'):Bl (.bl b) .κ=O':=id rfl
def

ZHC(a b:U D):Bl (.S a) (.S b)=Dq a b:=id rfl
def

ZHS(a b:U D):Bl (.R a) (.R b)=Dq a b:=id rfl
def

ZHR(a b:U D):Bl (.S a) (.R b)=O':=id rfl
def

ZHt(a b:U D):Bl (.R a) (.S b)=O':=id rfl
def

ZHF(a:U D)(b:W'):Bl (.S a) (.o b)=O':=id rfl
def

ZHu(a:U D)(b:Ae):Bl (.S a) (.Ι b)=O':=id rfl
def

ZHr(a:U D):Bl (.S a) .κ=O':=id rfl
def

ZHI(a:U D)(b:j'):Bl (.S a) (.bl b)=O':=id rfl
def

ZHN(a:U D)(b:W'):Bl (.o b) (.S a)=O':=id rfl
def

ZHB(a:U D)(b:Ae):Bl (.Ι b) (.S a)=O':=id rfl
def

ZHG(a:U D):Bl .κ (.S a)=O':=id rfl
def

ZHQ(a:U D)(b:j'):Bl (.bl b) (.S a)=O':=id rfl
def

ZHT(a:U D)(b:W'):Bl (.R a) (.o b)=O':=id rfl
def

ZHx(a:U D)(b:Ae):Bl (.R a) (.Ι b)=O':=id rfl
def

ZHE(a:U D):Bl (.R a) .κ=O':=id rfl
def

ZHM(a:U D)(b:j'):Bl (.R a) (.bl b)=O':=id rfl
def

ZHH(a:U D)(b:W'):Bl (.o b) (.R a)=O':=id rfl
def

ZHL(a:U D)(b:Ae):Bl (.Ι b) (.R a)=O':=id rfl
def

ZHy(a:U D):Bl .κ (.R a)=O':=id rfl
def

ZHi(a:U D)(b:j'):Bl (.bl b) (.R a)=O':=id rfl
def

ZGM:Dq [] []=J':=by erw[Dq]
def

ZGg(a b:D)(c bs:U D):Dq (a::c) (b::bs)=(Bl a b&&Dq c bs):=by erw[Dq]
def

ZHg(b:D)(bs:U D):Dq [] (b::bs)=O':=by erw[Dq]
def

ZHj(b:D)(bs:U D):Dq (b::bs) []=O':=by erw[Dq]
def

xB:∀(a b:U W'),Dq (a.j D.o) (b.j D.o)=decide (a=b)
  |[],[]=>by simp
  |[],_::_=>by simp
  |_::_,[]=>by simp
  |x::a,y::b=>by simp[xB a b]
def

ZGj(n:Y)(a:U W'):(a.j D.o).Ϛ (AZ n)=J':=by
  rw[Dr];intro x b;let(i,_,rfl):=Be.mp b;ext n<;>rfl
def

ZHm(t n:String):Ms t n=(t==n||(t=="bool"&&n=="int")):=rfl
def

ZFL:HQ=["NoneType","bool","int","str","tuple","list"]:=rfl
def

FY:ZY=12:=rfl
def

ZGr:DE.tysL []=Z []:=rfl
def

ZGi(n:String)(r:U D):DE.tysL (.ty n::r)=(DE.tysL r).j (n::·):=rfl
def

ZHl(ns:U W'):HP (ns.j D.o)=Z ns:=TM ns
def

dN:∀(ns:U j'),J3 (ns.j D.bl)=Z ns
  |[]=>rfl
  |n::ns=>by erw[AQ,J3,dN ns];rfl
def
Zw{c:Type}{b:D->VE->O VE}{e:Az}{ρ:VE}(G F:c->D):∀(xs:U c),(∀x∈xs,∃a,b (G x) ρ=Z a/\e a=Z (F x))->Z4 b (λ_=>Z J') e ρ (xs.j G)=Z (xs.j F)
 |[],_=>rfl
 |x::xs,h=>by
  let(a,d,f):=h x Bb;erw[AQ,Z4,d,f,Zi,DB,Zw G F xs λy g=>h y<|Bk _ g]
def
xE(lo:W')(n:Y):Ir lo n=(AW n).j λ(k:Y)=>D.o (lo+(k:W')):=rfl
def

Zl{a:Type}(l:U a)(h:l.a<=1000000):Zf (Z l)=Z l:=by
  have:l.a<=Av:=BN h (by ext);simp[this]
def
xG{a c:Type}(f:a->c)(xs:U a)(lo b:O W'):Fc (xs.j f) lo b=(Fc xs lo b).j f:=by simp_all [Fc]
def
dO{b:Type}(xs:U b)(k:W')(h:0<=k):Fc xs J (Z k)=xs.ϣ k.ν:=by
 unfold Fc;rw[show HT.sIx xs.a 0 J=0 from rfl,show HT.sIx xs.a xs.a (Z k)=min k.ν xs.a by erw[HT.sIx];split<;>lia,List.drop_zero,Nat.sub_zero];rcases Nat.le_total k.toNat xs.length with a|a
 .rw[Nat.min_eq_left a]
 .rw[Nat.min_eq_right a,List.take_length,N3 a]
def
Uz{b:Type}(xs:U b)(k:W')(h:0<=k):Fc xs (Z k) J=xs.Ψ k.ν:=by
 unfold Fc;rw[show HT.sIx xs.a xs.a J=xs.a from rfl,show HT.sIx xs.a 0 (Z k)=min k.ν xs.a by erw[HT.sIx];split<;>lia];rcases Nat.le_total k.toNat xs.length with a|a
 .simp_all [Nat.min_eq_left,N3,QM,Bg]
 .rw[Nat.min_eq_right a,List.drop_length,List.drop_of_length_le a,List.take_nil]
def
xH{c:Type}(xs:U c)(i j:W')(d:0<=i)(e:0<=j):Fc xs (Z i) (Z j)=(xs.Ψ i.ν).ϣ (j.ν-i.ν):=by
 unfold Fc;rw[show HT.sIx xs.a 0 (Z i)=min i.ν xs.a by erw[HT.sIx];split<;>lia,show HT.sIx xs.a xs.a (Z j)=min j.ν xs.a by erw[HT.sIx];split<;>lia];rcases Nat.le_total i.toNat xs.length with a|a
 .rw[Nat.min_eq_left a];rcases Nat.le_total j.toNat xs.length with b|b
  .rw[Nat.min_eq_left b]
  .rw[Nat.min_eq_right b,N3<|QM ▸ Bg _,N3 (by rw[QM];lia)]
 .rw[Nat.min_eq_right a,List.drop_length,List.drop_of_length_le a,List.take_nil,List.take_nil]
def
QN(j:W')(a:0<=j)(h:j<1000000000):ED [.o j]=Z ((AW j.ν).j λ(k:Y)=>D.o k):=by grind [Ir,ED,Ml]
def
Hm(n:Y)(h:n<1000000000):ED [.o n]=Z ((AW n).j λ(k:Y)=>D.o k):=by
 rw[QN _ (MK n)<|Int.lt_toNat.mp h,Jn]
def
xI(i j:W')(c:0<=i)(a:i<1000000000)(h:j<1000000000)(b : -1000000000<j):NN [.o i,.o j]=Z ((AW (j-i).ν).j λ(k:Y)=>D.o (i+(k:W'))):=by
 erw[NN];rw[Ml #[∅,by show Int.lt_of_add_one_le a,by show Int.϶ b,by show Int.lt_of_add_one_le h]];rfl
def
xJ(xs ys:U D)(h:xs.a+ys.a<=1000000):Zt (.R xs) (.R ys)=Z (.R (xs++ys)):=by
 erw[Zt];rw[if_pos<|BN h (by ext)]
def
UA(neg:j')(c:Y)(z:Ae):CF neg (.Ι #[(T' [c])]) (.Ι z)=Z (.bl (if neg then !decide (c∈z.Ϩ.α)else decide (c∈z.Ϩ.α))):=by
 let h:=StrLaws.found_one z c;simp_all
def

UB(d:D):Em (.r d)=d:=rfl
def

EI(xs:U D)(b:Kd):Em (.φ xs b)=.R xs b:=rfl
end Internal
set_option backward.eqns.nonrecursive true
set_option tactic.hygienic true
namespace Internal
open PySem PySem.Spec PyProof.Rows PySem.W
@[simp]def Lu(F:D->D->O D)(o:O (IV×Gh))(f:IS->O D)(s:IS):O (IV×Gh):=match o with
  |some (.val d,G)=>(f (s.1,G)).J λa=>(F d a).j λb=>(.r b,G)
  |_=>J
variable {e a b:Expr}{h:IS->O Ae}{p:AC}{g:IS->O IV}{f:IS->O D}{t:IS->O j'}{x c m:Ae}
def
xK{r:R2}{F:D->D->O D}(o:El Y'.K r F)(t:Cn Y'.K (λs=>Lu F (gx s) f s) I H Q):KD r (Cn Y'.K gx) (tJ Y'.K f) I H Q:=by
 let(u,s,r,R,e,q):=t;unfold Lu at e;dsimp only at e;split at e
 .next d G w=>
  let(n,x,e):=Cm.mp e;let(b,y,rfl):=B2.mp e;show#[u,s,_,R,w,λc z E j k l=>#[c,(s.1,G),n,j,x,λA B sm m=>o (LV c G) B z A d n b Q (λa h=>(j.g.η sm).nh h) (Au.η k sm).p m.p y λv C i hv=>q c v C (j.η<|sm.G i) hv<|l.G<|Go.η<|sm.G i]]
 .cases e
def
xL{op:CmpOp}{r:R2}{F:D->D->O D}(c:Cs Y' (DT op) r)(d:El Y'.K r F)(e:JE Y' a (Cn Y'.K gx))(g:JE Y' b (tJ Y'.K f))(i:Gw op b=O'):JE Y' (.Κ a [op] [b] pos) (Cn Y'.K λs=>Lu F (gx s) f s):=#[(Yz c e.h g.h i).ζ λ_ _ _ z=>xK d z]
def
xM(c:Y'.A.ε+64<Ar)(d:JE Y' a (Cn Y'.K gx))(e:JE Y' b (tJ Y'.K f)):JE Y' (.Κ a [.Eq] [b] pos) (Cn Y'.K λs=>Lu Co (gx s) f s):=xL (Tz c) N1 d e<|G9 _ (by ext) (by ext)
end
variable {P:AS}{w:Ai}{K:Ao}{mg:BP}{base:Al}{N:U Ae}{n:Y}(h:XI P w K mg base X N sc)(r:AJ n X.A)
include h
include r in
end
@[simp]def Gk:Cl->O (U IV)
  |.dat .l a=>Z (a.j .r)
  |.mix .l a=>Z a
  |_=>J
@[simp]def setIt(c:Cl)(j:Y)(x:IV):Cl:=match c,x with
  |.dat .l a,.val d=>.Υ .l (a.ξ j d)
  |.dat .l a,x=>.mix .l ((a.j .r).ξ j x)
  |.mix .l a,x=>.mix .l (a.ξ j x)
  |c,_=>c
@[simp]def Ox(p:IS->O Y)(fi:IS->O D)(o:O (IV×Gh))(s:IS):RI:=match o with
  |some r=>match p (s.1,r.2),fi (s.1,r.2)with
   |some n,Z (.int k)=>match r.2[n]? with
    |some c=>match Gk c with
     |some a=>match Ek a.a k with
      |some j=>.Q (s.1,r.2.ξ n (setIt c j r.1))
      |none=>.Ρ
     |none=>.Ρ
    |none=>.Ρ
   |_,_=>.Ρ
  |none=>.Ρ
variable {K:Ao}{L:Y}{N:Fb}{G:Gh}
def
UC:∀{xs:U D}{vs:U V},Ad K N H xs vs->Paired (AG K φ L N H) (xs.j IV.r) vs
 |[],_,h=>by erw[Ad]at h;subst h;show .ώ
 |x::xs,_,h=>by erw[Ad]at h;let(v,r,rfl,q,t):=h;show .Α q<|UC t
def
Oy{x:IV}{v:V}:∀{xs:U IV}{vs:U V}(j:Y),Paired (AG K φ L N H) xs vs->AG K φ L N H x v->Paired (AG K φ L N H) (xs.ξ j x) (vs.ξ j v)
 |_,_,_,.nil,_=>.ώ
 |_,_,0,.cons _ t,q=>.Α q t
 |_,_,j+1,.cons h t,q=>.Α h<|Oy j t q
def
dP{x:IV}:∀{xs:U IV}{vs:U V}{j:Y},Paired (AG K φ L N H) xs vs->xs[j]?=Z x->∃v,vs[j]?=Z v/\AG K φ L N H x v
 |_,_,0,.cons h _,e=>by ext e;show#[_,rfl,h]
 |_,_,j+1,.cons _ t,e=>by exists dP (j:=j) t (by exists e)
def
Bz.its(R:Bz K φ G H){n:Y}{c:Cl}{xs:U IV}(e:G[n]?=Z c)(h:Gk c=Z xs):∃vs,H (φ n)=Z (.R vs)/\Paired (AG K φ G.a (LV φ G) H) xs vs/\c.kd=Z .l:=by
 let q:=R.Ο n c e;unfold Gk at h;split at h
 .cases h;let(vs,a,b):=q;show#[vs,a,UC b,rfl]
 .cases h;let(vs,a,b):=q;show#[vs,a,b,rfl]
 .cases h
def
Bz.setIt(R:Bz K φ G H){n j:Y}{c:Cl}{xs:U IV}{vs:U V}{x:IV}{v:V}(e:G[n]?=Z c)(h:Gk c=Z xs)(hv:H (φ n)=Z (.R vs))(hp:Paired (AG K φ G.a (LV φ G) H) xs vs)(i:AG K φ G.a (LV φ G) H x v):Bz K φ (G.ξ n (setIt c j x)) (AL H (φ n) (.R (vs.ξ j v)))/\Go φ G H φ (G.ξ n (setIt c j x)) (AL H (φ n) (.R (vs.ξ j v))):=by
 unfold Gk at h;split at h
 .next b=>
  ext h;let(p,r,s):=R.Ο n _ e;rw[hv]at r;let t:vs=p:=by simpa[CO]using r
  subst t;cases x with
  |no=>show i.Δ
  |val d=>show R.chg (c':=.Υ .l<|b.set j d) (u:=CO K .l (φ n) (b.set j d)<|vs.set j v) e rfl rfl λL N o a f hL g=>by subst hL g;show#[_,f,Ad.ξ j (Ad.Μ a.st _ _ s)<|Au.Μ a.st _ _ i]
  |exc m=>show R.chg (c':=.mix .l<|(b.map .val).set j<|.exc m) (u:=CO K .l (φ n) (((b.map IV.val).set j<|.exc m).map un)<|vs.set j v) e rfl rfl λL N o a f hL g=>by subst hL g;show#[_,f,Oy j (Paired.mapP hp λ_ _ q=>AG.go a q) (AG.go a i)]
  |tu m=>show R.chg (c':=.mix .l<|(b.map .val).set j<|.tu m) (u:=CO K .l (φ n) (((b.map IV.val).set j<|.tu m).map un)<|vs.set j v) e rfl rfl λL N o a f hL g=>by subst hL g;show#[_,f,Oy j (Paired.mapP hp λ_ _ q=>AG.go a q) (AG.go a i)]
  |cel m=>show R.chg (c':=.mix .l<|(b.map .val).set j<|.cel m) (u:=CO K .l (φ n) (((b.map IV.val).set j<|.cel m).map un)<|vs.set j v) e rfl rfl λL N o a f hL g=>by subst hL g;show#[_,f,Oy j (Paired.mapP hp λ_ _ q=>AG.go a q) (AG.go a i)]
 .next b=>
  ext h;let w:Internal.setIt (.mix .l xs) j x=.mix .l (xs.ξ j x):=by ext x<;>rfl
  rw[w];show R.chg (c':=.mix .l<|xs.set j x) (u:=CO K .l (φ n) ((xs.set j x).map un)<|vs.set j v) e rfl rfl λL N o a f hL g=>by subst hL g;show#[_,f,Oy j (Paired.mapP hp λ_ _ q=>AG.go a q) (AG.go a i)]
 .cases h
end
variable {e ei:Expr}{tpos:AC}{b:U AE}{g:IS->RI}
def
xN(y:JE X o (EG X.K gp))(z:JE X ei (tJ X.K gi))(A:JE X e (Cn X.K gx)) (B:∀v,BC (.μ o ei tpos) X.C v=(do
   let b <- D1 [v] (Aq o X.C);let f <- D1 [v,b] (Aq ei X.C);standAt tpos
   D1 [v,b,f] (setItem b f v)
   release [v,b,f] []):=by intro _;rfl) (C:Np [.μ o ei tpos] e pos.ϡ X.C=Ax O':=by rfl) (d:Nq [.μ o ei tpos] e X.C=Ax J:=by rfl) (E:(Ef [.μ o ei tpos] X.C).j (·.2)=[BC (.μ o ei tpos) X.C]:=by rfl):JS X (.ϩ [.μ o ei tpos] e pos) (tK X.K λs=>Ox gp gi (gx s) s):=#[(No A.h (Pt y.h z.h Y3 B) C d E).ζ λY' G H W=>by
 let(F,s,R,q):=W;unfold Ox at q;dsimp only at q;split at q
 .next r L=>
  apply#[F,s,r,R,L,λa v H1 i hv l=>?_];split at q
  .next n k M N=>
   apply#[a,(s.1,r.2),n,i,M,λ_=>#[a,(s.1,r.2),.o k,i,N,λw H2 m d=>?_]];erw[Au]at d;subst d;split at q
   .next c hc=>
    split at q
    .next xs p=>
     split at q
     .next j P=>
      let R2:=i.η m;let(Q,t,u,_):=R2.g.its hc p;let(T,S):=R2.g.setIt (j:=j) hc p t u (AG.go (Go.η m) hv);let x:=(l.G<|Go.η m).G S;show⟨a n,Q,k,j,rfl,rfl,t,by rw[<- My u];show P,q a G _ (R.go T x) x⟩
     .show q.Δ
    .show q.Δ
   .show q.Δ
  .show q.Δ
 .show q.Δ]
end
variable {K:Ao}{m i:Y}
def
xO(h:Op fl K (jG m ff) I H Q):∃M H0,Fm fl K M H0 ff I H Q:=by
 let(o,s,p,R,e,q):=h;let(r,c,e):=Cm.mp e;split at e
 .next d=>ext e;show#[_,_,_,_,R.vw,c,λa f i sm j k l=>q a f i sm j k<|Ad.up R.g sm _ _ d<|l.nw λb n=>.O<|n.imp .O id]
 .cases e
def
xQ(h:tK K (λs=>CU i (gx s) s) D' I H):Cn K gx I H λx c=>Ih i x I c D'.nx:=by
 let(d,s,R,q):=h;dsimp only at q;cases a:gx s with
 |none=>rw[a]at q;show q.Δ
 |some r=>rw[a]at q;show#[d,s,r,R,a,λb v e f hv go=>q b _ e (f.put i hv) go]
end
variable {K:Ao}{M:Fb}{e:Expr}
def Oz(i:Y)(o:O (D×VE)):Dp:=match o with
 |some (d,a)=>.Q (a.ξ i (.r d))
 |none=>.Ρ
def
dQ{i:Y}{x:Ae}{a:AC}(g:X.N.θ)(c:JE X e (tX K M H0 fx))(j:X.N[i]?=Z x:=by rfl)(k:Loc X.C.Θ x:=by first|show .inl rfl|show .inr rfl)(l:Ey e (Z (.Name x a)) pos.line X.env=Ax O':=by rfl)(b:X.fn x=J'\/X.env.scope.names.lookup x=Z .local:=by first|show .inl rfl|show .inr rfl|assumption):JS X (.Assign [.Name x a] e pos) (tS K M H0 λρ=>Oz i (fx ρ)):=#[have c:=c.h;(Nr g j k c l b).ζ λt u H m=>by
 let(ρ,R,q):=m;try dsimp only at q
 cases b:fx ρ with|none=>rw[b]at q;show B6 q|some p=>
  let(d,f):=p;rw[b]at q;apply#[ρ,d,f,R,b,λv n o S hv=>?_];let(r,s):=o.setV (i:=i) (Aj.σ n) hv;show q _ _ r<|S.G s]
end
variable {M:Fb}{a b:Expr}{f g:VE->O D}
def
xR(e:X.A.ε+64<Ar)(c:JE X a (tP X.K M H0 f))(d:JE X b (tP X.K M H0 g))(i:Gw .In b=O':=by with_unfolding_all rfl):JT X (.Κ a [.In] [b] pos) (B9 X.K M H0 λρ=>AI (Za (CF O') f g ρ)):=#[have c:=c.h;let d:=d.h;Jb ((TJ O' e).or Yy) (TK O') c d i]
end
def xS(c:D×O Y):IV:=match c.2 with
 |none=>.r c.1
 |some n=>.Y n
@[simp]def Kc:IV->O (U IV)
  |.val (.tup a)=>Z (a.j .r)
  |.tu b=>Z (b.j xS)
  |_=>J
@[simp]def QO:U IV->O (U (D×O Y))
  |[]=>Z []
  |.val d::r=>Zi (Z (d,J)) (QO r)
  |.cel n::r=>Zi (Z (.κ,Z n)) (QO r)
  |_=>J
@[simp]def Lv(o:O (U IV))(s:IS):O (IV×Gh):=o.J λa=>if a.a<=Av then(QO a).j λb=>(.tu b,s.2)else J
@[simp]def Lw(s:IS)(i:Y):O IV:=match s.1[i]? with
  |some .no=>J
  |o=>o
variable {K:Ao}{L:Y}{N:Fb}
def
UD:∀{xs:U IV}{vs:U V}{cs:U (D×O Y)},QO xs=Z cs->Paired (AG K φ L N H) xs vs->Paired (Up K φ L N H) cs vs
 |[],_,_,e,.nil=>by ext e;show .ώ
 |.val d::r,_,_,e,.cons h t=>by
  let(x,y,a,b,rfl):=GC e;ext a;show .Α h<|UD b t
 |.cel n::r,_,_,e,.cons h t=>by
  let(x,y,a,b,rfl):=GC e;ext a;show .Α h<|UD b t
 |.no::_,_,_,e,_=>by cases e
 |.exc _::_,_,_,e,_=>by cases e
 |.tu _::_,_,_,e,_=>by ext e
def
xT{x:IV}{ys:U IV}{v:V}(e:Kc x=Z ys)(h:AG K φ L N H x v):∃a vs,v=.I a/\Ck K H a vs/\Paired (AG K φ L N H) ys vs:=by
 unfold Kc at e;split at e
 .cases e;erw[AG,Au]at h;let(a,vs,f,b,g):=h;show#[a,vs,f,b,UC g]
 .cases e;let(a,vs,f,b,g):=h;apply#[a,vs,f,b,?_];clear b;induction g with|nil=>show .ώ|@cons c w _ _ q t i=>
   apply .Α ?_ i;let(d,o):=c;ext o<;>show q
 .cases e
end
variable {e:Expr}{g:IS->RI}{x z:Ae}{i j k n:Y}{p1 p3 tp:AC}
def
xU(a:NV X i x:=by show EW):JE X (.β x pos) (QH X.K λs=>Lw s i):=#[(GA a).ζ λc H Q b=>by
 let(f,s,y,R,e,q):=b;dsimp only at e;unfold Lw at e;split at e
 .cases e
 .next h=>
  rcases R.slot i y e with rfl|⟨v,hv,d⟩
  .show(h e).Δ
  .show#[v,Option.join_eq_some_iff.mp hv,q v H (Aj.σ H) d]]
def
xV{m:Y}(h:JA X es (HY X.K ga)):JE X (.ϫ es m pos) (Cn X.K λs=>Lv (ga s) s):=#[(YL h.h).ζ λk H Q d=>by
 let(a,s,r,R,e,q):=d;let(f,g,e):=Cm.mp e;let(i,e):=Z1 e;let(l,hc,rfl):=B2.mp e;apply#[a,s,f,R,g,λb j sm hv=>#[by rw[<- hv.a];show i,λp hp=>?_]];let c:Aj H (AL j p<|.tup b):=sm.trans<|ZO hp;show q a _ _ (R.same c) ⟨p,b,rfl,Ck.of ZQ,UD hc<|Paired.mapP hv λ_ _ h=>AG.go (Go.η<|ZO hp) h⟩ (Go.η c)]
@[simp]def Ke(p:O Y)(r:O (IV×Gh))(s:IS):O (IV×Gh):=match p,r with
  |some n,Z (y,G)=>match(s.2[n]?).J Gk,(G[n]?).J Gk with
   |some _,Z a=>if a.a<Av then Z (.r .κ,G.ξ n (.mix .l (a++[y])))else J
   |_,_=>J
  |_,_=>J
def
xW{K:Ao}{L:Y}{N:Fb}{xs:U IV}{x:IV}{v:V}(h:Paired (AG K φ L N H) xs vs)(q:AG K φ L N H x v):Paired (AG K φ L N H) (xs++[x]) (vs++[v]):=by
 induction h with
 |nil=>show .Α q .ώ
 |cons h _ a=>show .Α h a
def
xX(C:JE X o (EG X.K gp))(E:JE X e (Cn X.K gx))(hz:BO X o "append" apos e cpos:=by show QJ):JE X (.Ν (.γ o "append" apos) [e] [] cpos) (Cn X.K λs=>Ke (gp s) (gx s) s):=#[(HG Mi Tq Tr PU C.h (Z5 E.h Bn hz.s) hz.b hz.f hz.l hz.s hz.p).ζ λI H Q W=>by
   let(d,s,r,R,ex,q):=W;dsimp only at ex;unfold Ke at ex;split at ex
   .next n y G F hd=>
    split at ex
    .next ys M i hc=>
     let(P,ex):=Z1 ex;ext ex;let(c0,T,S):=Cm.mp i;let(c,x,Y'):=Cm.mp hc;let(j,h0,_):=R.g.its T S;apply#[d,s,n,R,F,λk=>#[.O #[rfl,j,.O<|.inl h0],d,s,_,R,hd,λm v H1 t hv go=>?_]];let(z,A,B,hk):=t.g.its x Y';let(R2,w):=t.g.chg (c':=.mix .l<|M++[y]) (u:=.lst<|z++[v]) x hk rfl λL N H' a e3 hL hN=>by subst hL hN;show#[_,e3,xW (Paired.mapP B λ_ _ h=>AG.go a h) (AG.go a hv)]
     let en:=go.ext n k;rw[en]at A R2 w;show#[d n,z,v,rfl,rfl,A,by rw[<- B.a];show P,q m _ _ (t.go R2 w) (by erw[AG,Au])<|go.G w]
    .cases ex
   .cases ex]
structure SV(X:Cx)(i:Y)(x:Ae):V' where
 n:X.N.θ
 i:X.N[i]?=Z x
 l:Loc X.C.Θ x
 f:X.fn x=J'\/X.C.Θ.τ.X x=Z .ϔ
def QP(K:Ao)(i j k:Y):TG:=Ym K 3 (Pr (Ih i) (Pr (Ih j) (Pr (Ih k) Yk)))
def
dR{m:Y}(hc:X.Ϫ=J')(a:SV X i x)(b:SV X j y)(c:SV X k z) (e:(Ef [.β x p1,.β y p2,.β z p3] X.C).j (·.2)=BC (.β x p1) X.C::(Ef [.β y p2,.β z p3] X.C).j (·.2):=by rfl) (g:(Ef [.β y p2,.β z p3] X.C).j (·.2)=BC (.β y p2) X.C::(Ef [.β z p3] X.C).j (·.2):=by rfl) (h:(Ef [.β z p3] X.C).j (·.2)=BC (.β z p3) X.C::(Ef [] X.C).j (·.2):=by rfl) (o:(Ef [.β x p1,.β y p2,.β z p3] X.C).a=3:=by rfl) (d:(Ef [.β x p1,.β y p2,.β z p3] X.C).findIdx? (·.1)=J:=by rfl):PG X (.ϫ [.β x p1,.β y p2,.β z p3] m pos) (QP X.K i j k):=Yn hc (Ps (Nn a.n a.i a.l a.f) (Ps (Nn b.n b.i b.l b.f) (Ps (Nn c.n c.i c.l c.f) Yl h) g) e) o d
def
dS{K:Ao}{s:IS}{y a b c:IV}{v:V}{Q:St->Hp->V'}(R:BL K φ s I H)(e:Kc y=Z [a,b,c])(h:AG K φ s.2.a (LV φ s.2) H y v)(q:∀f,BL K φ (((s.1.ξ i a).ξ j b).ξ k c,s.2) f H->Q f H):QP K i j k v I H Q:=by
 let(p,o,rfl,g,d):=xT e h;cases d with
 |cons l d=>cases d with
  |cons m d=>cases d with
   |cons n d=>
    ext d;show#[p,_,rfl,g,rfl,_,_,rfl,_,_,rfl,_,_,rfl,rfl,q _<|((R.put i l).put j m).put k n]
@[simp]def ML(i j k:Y)(r:O (IV×Gh))(s:IS):RI:=match r with
  |some (y,G)=>match Kc y with
   |some [a,b,c]=>.Q (((s.1.ξ i a).ξ j b).ξ k c,G)
   |_=>.Ρ
  |none=>.Ρ
def
xY{m:Y}(hc:X.Ϫ=J')(g:JE X e (Cn X.K gx))(a:SV X i x)(b:SV X j y)(c:SV X k z) (l:SV X i x->SV X j y->SV X k z->PG X (.ϫ [.β x p1,.β y p2,.β z p3] m tp) (QP X.K i j k)) (n:Np [.ϫ [.β x p1,.β y p2,.β z p3] m tp] e pos.ϡ X.C=Ax O':=by rfl) (o:Nq [.ϫ [.β x p1,.β y p2,.β z p3] m tp] e X.C=Ax J:=by rfl) (p:(Ef [.ϫ [.β x p1,.β y p2,.β z p3] m tp] X.C).j (·.2)=[BC (.ϫ [.β x p1,.β y p2,.β z p3] m tp) X.C]:=by rfl):JS X (.ϩ [.ϫ [.β x p1,.β y p2,.β z p3] m tp] e pos) (tK X.K λs=>ML i j k (gx s) s):=#[(No g.h (l a b c) n o p).ζ λC E H r=>by
 let(t,s,R,q):=r;dsimp only at q;unfold ML at q;split at q
 .next y G u=>
  split at q
  .next a b c w=>show#[t,s,_,R,u,λd v A B hv go=>dS B w hv λf R2=>q d f A R2 go]
  .show q.Δ
 .show q.Δ]
open Classical in
def FE(i j k n:Y)(c:Cl)(g:IS->RI):U IV->IS->RI
 |[],s=>if s.2[n]?=Z c then .Q s else .Ρ
 |y::f,s=>if s.2[n]?=Z c then match Kc y with
  |some [a,b,d]=>match g (((s.1.ξ i a).ξ j b).ξ k d,s.2)with
   |.next e=>FE i j k n c g f e
   |.cont e=>FE i j k n c g f e
   |.brk e=>.Q e
   |r=>r
  |_=>.Ρ
  else .Ρ
@[simp]def Jt(i j k:Y)(g:IS->RI)(p:O Y)(s:IS):RI:=match p with
  |some n=>match s.2[n]? with
   |some c=>match Gk c with
    |some a=>FE i j k n c g a s
    |none=>.Ρ
   |none=>.Ρ
  |none=>.Ρ
def
xZ{m:Y}(hp:PassesOwn (Ah X.δ X.w) X.A X.C X.xe)(hc:X.Ϫ=J')(ho:JE X o (EG X.K gp))(a:SV X i x)(b:SV X j y)(c:SV X k z)(hb:JB X body (tK X.K g)) (hg:SV X i x->SV X j y->SV X k z->PG X (.ϫ [.β x p1,.β y p2,.β z p3] m tp) (QP X.K i j k)) (hs:∀x,EU o X.C x=Ax x:=by intro _;rfl):JS X (.For (.ϫ [.β x p1,.β y p2,.β z p3] m tp) o body [] pos) (tK X.K λs=>Jt i j k g (gp s) s):=#[(Nw hp hc (SR ho.h) (hg a b c) hb.h hs).ζ λD' I H z0=>by
 let(M,s,R,q):=z0;dsimp only at q;unfold Jt at q;split at q
 .next n hn=>
  split at q
  .next cl hx=>
   split at q
   .next C hi=>
    let(vs,h1,h2,_):=R.g.its hx hi;apply#[M,s,n,R,hn,λhl=>#[M n,rfl,#[vs,.O<|.inl h1],?_]];apply⟨λt m G W=>m=C.a-t/\t<=C.a/\∃f u,BL X.K f u G W/\Go M s.2 H f u.2 W/\CG X.K f u.2 W D' (FE i j k n cl g (C.Ψ t) u),⟨C.a,by simp,Fk _,M,s,R,Go.η<|Aj.σ H,q⟩,?_⟩;intro t m G W zQ;let(rfl,hle,f,u,S,gn,l):=zQ;by_cases c:u.2[n]?=Z cl
    .let(Q,g1,g2,_):=S.g.its c hi;rw[gn.ext n hl]at g1;let Y':Ca X.K W (M n) Q:=.O<|.O g1;by_cases E:t<C.a
     .let(w,hw,hdw):=dP g2<|BZ E;rw[Mc E,FE,if_pos c]at l;apply .inr ⟨⟨Q,w,Y',hw⟩,λF N=>t+1<=C.a/\∃f u,BL X.K f u F N/\Go M s.2 H f u.2 N/\CG X.K f u.2 N D' (FE i j k n cl g (C.Ψ<|t+1) u),λF N z=>⟨C.a-(t+1),∅,rfl,z⟩,λx N yl=>?_⟩;let(e3,y):=yl;subst e3;let e4:=y Q Y';rw[hw]at e4;ext e4;split at l
      .next a b d hu=>
       apply dS S hu hdw λF R'=>#[f,_,R',?_];cases B:g (((u.1.ξ i a).ξ j b).ξ k d,u.2)with
       |fail=>rw[B]at l;show l
       |next T=>rw[B]at l;show λr L P R2 p=>#[E,r,T,R2,gn.G p,CG.xv p l]
       |cont T=>rw[B]at l;show λr L P R2 p=>#[E,r,T,R2,gn.G p,CG.xv p l]
       |brk T=>rw[B]at l;show λr L P R2 p=>l r L P R2 p
       |ret x G'=>rw[B]at l;show λr v P R2 hv p=>l r v P R2 hv p
      .show l.Δ
     .let e:t=C.a:=∅
      subst e;rw[Mb<|Bg _,FE,if_pos c]at l;show .O ⟨⟨Q,Y',by rw[<- g2.a];show Bg _⟩,l f G W S<|Go.η<|Aj.σ W⟩
    .cases hd:C.Ψ t with
     |nil=>rw[hd,FE,if_neg c]at l;show l.Δ
     |cons d ds=>rw[hd,FE,if_neg c]at l;show l.Δ
   .show q.Δ
  .show q.Δ
 .show q.Δ]
end
variable {a b:Expr}{e:Expr}{to:TE}{t:TA}{name:Ae}{T id:String}{r:V->U V->Hp->VK->V'}
def ya(K:Ao)(T:String)(r:V->U V->Hp->VK->V')(to:TE):TE:=λb H Q=>to b H λx a=>PQ K T x a/\r x [] a Q
def
yb(i:PlainAttrs T)(slot:Slot T name id)(d:typeOf (.Γ id)=Ax (.ι "method_descriptor"))(j:KV X id r)(k:PE X o to) (b:FQ o name X.C (Aq o X.C)=Aq o X.C:=by rfl) (c:(apos.ϯ==cpos.ϡ)=J':=by rfl):PE X (.Ν (.γ o name apos) [] [] cpos) (ya X.K T r to):=by
 intro a s e H Q t h;apply wpAny_Call_method0_late b c<|Ba (k a s e H _ t h) λv l ⟨x,m,f,g,ty,n⟩=>?_;let(p,q):=Y5 f g ty;show#[T,id,i,slot,d,p,q,Calls.callWith_builtin rfl<|PySem.evalArgs_none<|j a l e m x [] v [] Q f g .ώ n]
end
def yc:V->U V->Hp->VK->V':=λx b H Q=>∃l a v,x=.I l/\b=[]/\H l=Z (.R a)/\a[a.a-1]?=Z v/\Q v (AL H l (.R (a.Τ (a.a-1))))
@[simp]def OA(p:O Y)(s:IS):O (IV×Gh):=match p with
  |some n=>match s.2[n]? with
   |some (.dat .l a)=>a[a.a-1]?.map λd=>(.r d,s.2.ξ n (.Υ .l (a.Τ (a.a-1))))
   |_=>J
  |none=>J
@[simp]def MM(c m:Ae)(F:FI)(p:O Y)(r:O (IV×Gh))(s:IS):O (IV×Gh):=match p,r with
  |some n,Z (y,G)=>match s.2[n]? with
   |some cl=>if ES c m cl=J'/\n<s.2.a then F [.Y n,y] G else J
   |none=>J
  |_,_=>J
variable {e:Expr}{F:FI}{k n:Y}{fn C:Ac}{fd:CH}{ps:U Ae}{c m:Ae}{E:XK}
def
ye:PR X "list.pop" yc:=by
 intro f s w H x A v B Q j k m h
 let(l,c,y,rfl,rfl,g,o,q):=h
 ext k
 ext m
 let(z,a,n,r,C,e):=j.lstM g
 let(i,d,p):=r.Χ o
 let b:=r.a
 let t:a.E.y<=Av:=by rw[Ce];lia
 let u:a.E[a.E.y-1]?=Z i:=by rw[Ce,<- b];exists d
 apply call_meets F.slot_list_pop #[_,e,rfl] F.entry_list_pop (F.args_list_pop_1 _) (@PySem.MeetsSeq.list_pop_last l a.E n i u t) #[e,?_]
 apply#[y,_,j.lset (its':=a.Τ (c.a-1)) g e ?_ (r.Τ _) ?_,p,q]
 .change a.E.ϝ (a.E.y-1)=(a.Τ (c.a-1)).E
  rw[List.eraseIdxIfInBounds_toArray,Ce,<- b]
 .have:=List.length_eraseIdx_le c (c.a-1)
  lia
def
yf(m:JE X o (EG X.K gp))(a:FQ o "pop" X.C (Aq o X.C)=Aq o X.C:=by rfl)(b:(apos.ϯ==cpos.ϡ)=J':=by rfl):
  JE X (.Ν (.γ o "pop" apos) [] [] cpos) (Cn X.K λs=>OA (gp s) s):=
 #[(yb Mi PySem.F.slot_list_pop PySem.F.type_list_pop ye m.h a b).ζ λv H Q p=>by
   let(c,s,r,R,ex,q):=p
   dsimp only at ex
   unfold OA at ex
   split at ex
   .next n t=>
    split at ex
    .next x hc=>
     let(d,hd,rfl):=B2.mp ex
     let(i,j,e):=R.g.Ο n _ hc
     let(w,k,u):=e.Χ hd
     rw[e.a]at k q
     let(R2,f):=Ou (k':=.l) R.g hc (e.erase (i.a-1))
     show#[c,s,n,R,t,λ_=>#[.O #[rfl,_,.O (.O j)],c n,i,w,rfl,rfl,j,k,q c _ _ (R.go R2 f) (Au.Μ f.st _ _ u) f]]
    .cases ex
   .cases ex]
def
yg(t:nsIn X.K C4 c=Z (Z (.I C)))(cl:Fj X.K C)(u:JM X.K C m fn)(G:AY X.δ X.w X.K X.mg X.ω CX k fn fd ps (C2 X.K F))(x:AJ k X.A)(z:Binds X.K fd ps [])(B:Fv CX X E)(zA:JE X o (EG X.K gp))
  (P:JE X e (Cn X.K gx)) (a:AH [e] X.C=(O',Aq e X.C)::AH [] X.C:=by show D2 rfl) (d:(AA pos (AH [] X.C)).any (·.1)=O':=by rfl) (L:ME X o m [e] pl apos pos:=by rfl):
  JE X (.Ν (.γ o m apos) [e] [] pos) (Cn X.K λs=>MM c m F (gp s) (gx s) s):=#[(S3 zA.h cl u G x z .ώ B (Z5 P.h Bn a) a d L).ζ λI H Q M=>by
 let(f,s,r,R,e,q):=M
 dsimp only at e
 unfold MM at e
 split at e
 .next n y N S T=>
  split at e
  .next cl hc=>
   let(W,Y'):=Z1 e
   apply#[f,s,n,R,S,λp=>?_]
   let(dx,fs,h1,h2):=dC t R.g hc W.1
   show#[f n,dx,fs,rfl,.O h1,h2,f,s,_,R,T,λi v H' R' hv go=>#[i,N,[.Y n,y],r,R'.g,.Α #[BM p go.ϧ,by rw[go.ext n p]] (.Α hv .ώ),Y',λj v2 H2 R2 l b=>q j v2 H2 (R.go R2 (go.G b)) l (go.G b)]]
  .cases e
 .cases e]
end
variable {P:AS}{w:Ai}{K K':Ao}{mg:BP}{base:Al}{N:U Ae}{M:Fb}{k n:Y}{C:Ac}{c m:Ae}{FF:FI}{e:Expr}(h:XI P w K mg base X N sc)(r:AJ n X.A)
include h r
variable(cb:CI K mg c C)
include cb
def
yh(G:OM P w K mg base C BI k m (C2 K FF))(f:K=K')(g:JE X o (EG K' gp))(i:JE X e (Cn K' gx))(j:k<=n:=by ext) (a:AH [e] X.C=(O',Aq e X.C)::AH [] X.C:=by show D2 rfl) (d:(AA pos (AH [] X.C)).any (·.1)=O':=by rfl) (l:ME X o m [e] pl apos pos:=by rfl):JE X (.Ν (.γ o m apos) [e] [] pos) (Cn K' λs=>MM c m FF (gp s) (gx s) s):=by
 let(rfl,rfl,rfl,rfl,rfl,_,_,_):=h;subst f;let(_,_,_,_,_,D,G):=G;show yg cb.cof cb.cl D.M G (r.ζ j) D.b (E:=E0) Ip g i a d l
end
variable {i:Y}{x:Ae}
def
sv(n:X.N.θ)(a:X.N[i]?=Z x:=by rfl)(l:Loc X.C.Θ x:=by first|show .O rfl|show .ρ rfl)(f:X.fn x=J'\/X.C.Θ.τ.X x=Z .ϔ:=by first|show .O rfl|show .ρ rfl|assumption):SV X i x:=#[n,a,l,f]
end
variable {K:Ao}
def
yi(h:Cn K (λs=>xC fl (gf s) s) I H Q):Op fl K gf I H Q:=by
 let(c,s,r,R,e,q):=h;let(l,i,rfl):=B2.mp e;apply#[c,s,l,R,i,λa j d sm f k m=>?_];let go:Go c s.2 H (Et c s.2.a a) (s.2++[.Υ fl l]) d:=Go.new sm f rfl;show q _ _ d (R.go (R.g.new sm f rfl #[j,k,m.nw λb n=>.O<|(Ur rfl).mp n]) go) ⟨by simp,by erw[Et,if_true]⟩ go
end
variable {K:Ao}{f:VE->Bh}{b:D->VE->O VE}{t:VE->O j'}{e:Az}{spos:AC}{oix:U Y}{n i m:Y}{N:U Ae}{x:Ae}{P:AS}{w:Ai}{K0:Ao}{mg:BP}{base:Al}
def
yj(h:XI P w K0 mg base X N sc)(q:CQ N sc scope n oix)(hc:X.Ϫ=J')(C:K0=X.K)(c:N[i]?=Z x)(o:sc.τ.X x=Z .ϔ)(p:∀M H0,JI X tg iter (tI X.K M H0 f))(d:CB X.K X (IE scope) (oN N oix) scope tg ifs elt ws b t e)(r:∀j∈ws,j<n)(k:Ey (.Λ elt [#[tg,iter,ifs,0]] scope pos) (Z (.β x pos')) spos.ϡ X.C=Ax J':=by rfl)(u:∀x,EU iter X.C x=Ax x:=by intro _;rfl):JS X (.ϩ [.β x pos'] (.Λ elt [#[tg,iter,ifs,0]] scope pos) spos) (tK X.K λs=>CU i (xC .l (jG m (Zh n oix f b t e) s) s) s):=by
 let(_,_,E,_,_,rfl,rfl,nd):=h;let(S,rfl,y):=q;show#[λa s v H A F z=>by
  let(M,H0,B):=xO<|yi<|xQ z;show PX _ _ oix S y hc nd c o (p M H0).h d.g d.t d.e k u a s v H A F<|NR r (λ_ _ _ z=>z) B]
end
def
ym{a b:Expr}{M:Fb}{f g:Az}(c:X.A.ε+64<Ar)(d:JE X a (tP X.K M H0 f))(e:JE X b (tP X.K M H0 g)):JE X (.Κ a [.NotEq] [b] pos) (tD X.K M H0 (Za Cp f g)):=#[NG (TB c) TC d.h e.h<|G9 _ (by ext) (by ext)]
variable {α β:Type}{a:α}{b:j'}{x:D}{l:U α}{f:α->O β}{g:α->β}{n:Y}{s:Sl}{k:Kd}{o:O Ac}{v:IV}{vs:U IV}{G:Gh}{m:Y}{s2:IS}{p:IV×Gh}
def
yn:DB (Z a) f=f a:=rfl
def
yo:DB J f=J:=rfl
def
yp:Ec g (Z a)=Z (g a):=rfl
def
yq:Ec g J=J:=rfl
def
yr:List.j g (a::l)=g a::List.j g l:=rfl
def
yt:List.j g []=[]:=rfl
def
yu:Zi (Z a) (Z l)=Z (a::l):=rfl
def
yv:(a::l)[0]?=Z a:=rfl
def
yw:(a::l)[n+1]?=l[n]?:=rfl
def
yx{b:α}:(a::l).ξ 0 b=b::l:=rfl
def
yy{b:α}:(a::l).ξ (n+1) b=a::l.ξ n b:=rfl
def
yz:Bi (.r x::ρ) 0=Z x:=rfl
def
yA:Bi (.φ xs k o::ρ) 0=Z (.R xs k):=rfl
def
yB:Bi (.ϵ xs k::ρ) 0=Z (.R xs k):=rfl
def
yC:Bi (s::ρ) (n+1)=Bi ρ n:=rfl
def
yD:Df (.r x::ρ) 0=Z (.r x):=rfl
def
yE:Df (.φ xs k o::ρ) 0=Z (.ϵ xs k):=rfl
def
yF:Df (.ϵ xs k::ρ) 0=Z (.ϵ xs k):=rfl
def
yG:Df (s::ρ) (n+1)=Df ρ n:=rfl
def
yH:Bd (.r x::ρ) 0=Z x:=rfl
def
yI:Bd (s::ρ) (n+1)=Bd ρ n:=rfl
def
yJ:BK (.r x::ρ) 0=Z x:=rfl
def
yK:BK (.ϵ xs k::ρ) 0=Z (.R xs k):=rfl
def
yL:BK (s::ρ) (n+1)=BK ρ n:=rfl
def
yM:Bq (.Y m::vs,G) 0=Z m:=rfl
def
yN:Bq (v::vs,G) (n+1)=Bq (vs,G) n:=rfl
def
yO:vw m (v::vs,G)=C8 m G v::vw m (vs,G):=rfl
def
yP:vw m ([],G)=[]:=rfl
def
yQ{h:As}:Zd (.Q ρ) h=h ρ:=rfl
def
yR{h:As}{r:Rv}:Zd (.ϱ r) h=.ϱ r:=rfl
def
yS{h:As}:Zd (.brk ρ) h=.brk ρ:=rfl
def
yT{h:As}:Zd (.cont ρ) h=.cont ρ:=rfl
def
yU{p q:Dp}:ZF (Z J') p q=p:=rfl
def
yV{p q:Dp}:ZF (Z O') p q=q:=rfl
def
yW{h:Bc}:Zr (.Q s2) h=h s2:=rfl
def
yX{h:Bc}:Zr (.ϱ v G) h=.ϱ v G:=rfl
def
yY{h:Bc}:Zr (.cont s2) h=.cont s2:=rfl
def
yZ{p q:RI}:C9 (Z J') p q=p:=rfl
def
y0{p q:RI}:C9 (Z O') p q=q:=rfl
def
y1:AI (Z (.bl b))=Z b:=rfl
def
y3:CU n (Z p) s2=.Q (s2.1.ξ n p.1,p.2):=rfl
def
y6:ZJ n (Z x) ρ=.Q (ρ.ξ n (.r x)):=rfl
def
y7:Zy (Z x)=.ϱ (.r x):=rfl
def
za{p:O j'}:DA (Z J') p=Z J':=rfl
def
zb{p:O j'}:DA (Z O') p=p:=rfl
def
zc{p:O j'}:EB (Z J') p=p:=rfl
def
zd{p:O j'}:EB (Z O') p=Z O':=rfl
def
ze:CP (Z b)=Z (!b):=rfl
def
zf:xD (Z x) s2=Z (.r x,s2.2):=rfl
def
zh:DN (Z x)=Z (.r x):=rfl
def
zi:DY (Z p) s2=.Q (s2.1,p.2):=rfl
def
zj:ER (Z p)=.ϱ p.1 p.2:=rfl
def
zk{F:FI}:Gg F (Z vs) s2=F vs s2.2:=rfl
def
zm:DM (Z b)=Z (.bl b):=rfl
def
zn:xC k (Z xs) s2=Z (.Y s2.2.a,s2.2++[.Υ k xs]):=rfl
end
end Internal
set_option tactic.hygienic false
namespace Internal.K57
open PySem PySem.Spec PyProof.Rows Internal
section
set_option hygiene false in
local macro_rules | `(#[$a,*])=>do let w:Lean.Term <- a.getElems.foldrM (λx w=>if x.raw.isNatLit?.isSome then `(Zi (Df r $x) $w)else `(Zi (DN $x) $w)) (<- `(some []));return w
set_option hygiene false in
local macro_rules | `(#v[$a,*])=>`(λr=>#[$a,*])
local macro_rules | `(!$n:num)=>`(λr=>Bi r $n)
local macro_rules | `(~~~$n:num)=>`(λ_=>some (.int $n))
local macro_rules | `(∅)=>`(λr=>.next r)
local macro_rules | `($a >>> $b)=>`(λr=>Zd ($a r) $b)
local macro_rules | `($a <<< $b)=>`(λr=>Zr ($a r) $b)
def QQ:As:=λr=>Zd (Zy (DM (EB (AI ((Zk Cy #v[0,Z (.ty "int")]) r)) (AI (DM (CP (AI ((Zk Cy #v[0,Z (.ty "bool")]) r)))))))) ∅
def Hn:=AU 1 1 QQ
def QR:Az:=λr=>DM (DA (AI ((Za (CF O') (!0) (λ_=>Z (.Ι "abcdefghijklmnopqrstuvwxyz"))) r)) (AI ((Za (CF O') (!0) (λ_=>Z (.Ι "0123456789"))) r)))
def Lx:As:=λr=>Zd (ZF (CP (ZK ((Zk Cy #v[0,Z (.ty "str")]) r))) (Zd (Zy (Z (.bl O'))) ∅) (.Q r)) (λr=>Zd (ZF (DA (AI ((Za E2 (Zk Zo #v[0]) (~~~1)) r)) (AI ((Za Fa (Zk Zo #v[0]) (~~~12)) r))) (Zd (Zy (Z (.bl O'))) ∅) (.Q r)) (λr=>Zd (Zy (DM (EB (AI ((Za (CF O') (Za Am (!0) (~~~0)) (λ_=>Z (.Ι "abcdefghijklmnopqrstuvwxyz"))) r)) (AI ((Zk DD #v[ZA ((Zh 1 [] (λr=>(BK r 0).J Zn) (Zc 0) (λ_=>Z J') QR) r)]) r))))) ∅))
def Ju:=AU 1 1 Lx
def dT:As:=λr=>Zd (Zy ((Zk Zo #v[(Za Am (!0) (~~~0)) r]) r)) ∅
def OB:=AU 1 1 dT
def UE:As:=λr=>Zd (Zy (NI (AI ((Za E2 (!1) (Zk Zo #v[0])) r)) ((Za Am (!0) (!1)) r) (Z .κ))) ∅
def Gm:=AU 2 2 UE
def dU:Az:=(~~~0)
def dV:As:=λr=>Zd (Zy ((Zk DC #v[ZA ((Zh 1 [] (λr=>(BK r 0).J Zn) (Zc 0) (λ_=>Z J') dU) r)]) r)) ∅
def MN:=AU 1 1 dV
def dW:As:=λr=>Zd (Zy ((Zf (#[(Zk Zo #v[0]) r,(Zk N4 #v[0]) r,(Zk Mp #v[0]) r,(Zk Mq #v[0]) r].J Zm)).j D.S)) ∅
def QS:=AU 1 1 dW
def dX:As:=λr=>Zd (Zy ((Zf (#[(Za Zt (Za Am (!0) (~~~0)) (Za Am (!1) (~~~0))) r,(Za Zt (Za Am (!0) (~~~1)) (Za Am (!1) (~~~1))) r,(Zk Qh #v[(Za Am (!0) (~~~2)) r,(Za Am (!1) (~~~2)) r]) r,(Zk Qg #v[(Za Am (!0) (~~~3)) r,(Za Am (!1) (~~~3)) r]) r].J Zm)).j D.S)) ∅
def OC:=AU 2 2 dX
def Ly:Az:=(Za (DF O') (!1) (!0))
def OD:As:=λr=>Zd (Zy ((Zk DD #v[ZA ((Zh 2 [] (HX (λr=>BK r 0) (λr=>BK r 1)) (Z8 2 (Zu (Zc 0) (Zu (Zc 1) Z7))) (λ_=>Z J') Ly) r)]) r)) ∅
def MO:=AU 2 2 OD
def UF:Bc:=λs=>Zr (C9 (jT 2 (λr=>AI ((Za NS (Zk Zo #v[0]) (~~~200)) r)) s) (Zr (.Ρ) ∅) (.Q s)) (λs=>Zr (DY (Hl (Bq s 0) ((jE 0 (λr=>Bd r 1)) s) s) s) ∅)
def UG:=EH 2 2 UF
def UH:Bc:=λs=>Zr (C9 (jT 2 (λr=>AI ((Za (CF J') (!1) (!0)) r)) s) (Zr (.Ρ) ∅) (.Q s)) (λs=>Zr (DY (Ot (Bq s 0) ((jE 0 (λr=>Bd r 1)) s) s) s) ∅)
def UI:=EH 2 2 UH
def UJ:As:=λr=>Zd (ZZ (J9 ((Bi r 0).J (C7 "Book" "tables")))) ∅
def UK:=AU 1 1 UJ
def UL:Bc:=λs=>Zr (GQ "Book" "axes" (λs=>Bq s 0) (xD ((jE 1 (Za Zt (Za Zt (E1 (λr=>(Bi r 0).J (C7 "Book" "axes")) (λ_=>Z J) (λr=>EZ (Bi r 1)) Fz) (λr=>ZA (Zf (#[Bd r 2].J Zm)))) (E1 (λr=>(Bi r 0).J (C7 "Book" "axes")) (λr=>EZ ((Za Zt (!1) (~~~1)) r)) (λ_=>Z J) Fz))) s) s) s) ∅
def QT:=EH 3 3 UL
def UM:As:=λr=>Zd (ZF (AI ((Za E2 (!1) (Zk Zo #v[0])) r)) (Zd (Zy ((Za Am (!0) (!1)) r)) ∅) (.Q r)) (λr=>Zd (Zy (Z (.o 0))) ∅)
def ZT:=AU 2 2 UM
def QU:As:=λr=>Zd (ZJ 2 ((Za ZI (Za Zt (Za Zt (Za Zt (Za DV (!2) (~~~45742)) (Za EE (!2) (~~~46949))) (Za DV (~~~29) (!4))) (~~~11)) (~~~2147483647)) r) r) (λr=>Zd (Eo 3 ((Za EE (!2) (~~~8)) r) r) ∅)
def dY:As:=λr=>ZJ 2 ((Za Zt (Za ZI (!0) (~~~2147483549)) (~~~17)) r) r
def dZ:As:=λr=>ZN 3 (Zf ((Z []).J Zm)) r
def d4:As:=(ZD (λr=>(#[(Za Zt (!1) (~~~2)) r].J Zm).J ED) (Zc 4) QU)
def d6:As:=λr=>Zy ((E1 (!3) (λr=>EZ (Z (.o 2))) (λ_=>Z J) Fz) r)
def zo:As:=λr=>.Q r
def d7:=d6 >>> zo
def d8:=d4 >>> d7
def d9:=dZ >>> d8
def ed:=dY >>> d9
def ef:As:=ed
def ZP:=AU 2 5 ef
def QV:Az:=(Za Am (!1) (Za ZI (Za Zt (Za EE (!2) (Za Zt (!0) (~~~2))) (Za DV (~~~4) (!0))) (Za Am (λr=>ZA (Zf (#[Z (.o 36),Z (.o 26)].J Zm))) (Zk intD #v[(Za Co (!0) (~~~0)) r]))))
def eo:As:=λr=>ZF (AI ((Za Co (!1) (~~~0)) r)) (Zd (Zy ((Za Zt (Za K7 (Za ZI (!0) (Za HN (~~~10) (~~~30))) (Za DV (~~~5) (Za HN (~~~10) (~~~29)))) (!2)) r)) ∅) (.Q r)
def et:As:=λr=>ZJ 3 (Z (.Ι "abcdefghijklmnopqrstuvwxyz0123456789")) r
def eu:As:=λr=>ZJ 4 ((Za Zt (~~~1) (Za ZI (!0) (~~~12))) r) r
def ez:As:=λr=>ZJ 5 ((Za ZI (Za EE (!0) (~~~12)) (!4)) r) r
def eA:As:=λr=>ZN 6 ((Zh 1 [3,0] (λr=>(#[Bd r 4].J Zm).J ED) (Zc 0) (λ_=>Z J') QV) r) r
def eB:As:=λr=>Ql 6 (Bi r 5) ((Za Am (!3) (Za ZI (Za Zt (Za Zt (Za EE (!0) (Za Zt (!5) (~~~2))) (Za DV (~~~4) (!5))) (Za DV (~~~5) (!2))) (Za Am (λr=>ZA (Zf (#[Z (.o 36),Z (.o 26)].J Zm))) (Zk intD #v[(Za Co (!5) (~~~0)) r])))) r) r
def eC:As:=λr=>Zy ((Qm Qn (λ_=>Z (.Ι "")) #v[6]) r)
def zp:As:=λr=>.Q r
def eE:=eC >>> zp
def eF:=eB >>> eE
def eH:=eA >>> eF
def eI:=ez >>> eH
def eJ:=eu >>> eI
def eK:=et >>> eJ
def eM:=eo >>> eK
def eO:As:=eM
def Kf:=AU 3 7 eO
def Lz:As:=λr=>Zd (ZF (EB (AI ((Za Co (Za Am (!3) (~~~0)) (!1)) r)) (AI ((Za E2 (!2) (Zk Zo #v[3])) r))) (Zd (Zy ((Za Am (!3) (!2)) r)) ∅) (.Q r)) ∅
def QW:As:=λr=>Zd ((ZD (λr=>(BK r 0).J Zn) (Zc 3) Lz) r) (λr=>Zd (Zy (Z .κ)) ∅)
def UN:=AU 3 4 QW
def eP:As:=λr=>Zd (Zy ((Zf (#[(Zk Zo #v[0]) r,(Zk N4 #v[0]) r,(Zk Mp #v[0]) r,(Zk Mq #v[0]) r].J Zm)).j D.S)) ∅
def QX:=AU 1 1 eP
def QY:As:=λr=>Zd (ZF (AI ((Za Co (!1) (Zk Zo #v[0])) r)) (Zd (Zy (Z .κ)) ∅) (.Q r)) (λr=>Zd (Zy ((Za Am (!0) (!1)) r)) ∅)
def IF:=AU 2 2 QY
def QZ:Az:=(Za Zt (!1) (Za DV (~~~1000) (!0)))
def Q0:Az:=(Za Am (Za Am (!0) (Za ZI (Za Am (!1) (~~~3)) (Zk Zo #v[0]))) (~~~0))
def UO:Bc:=λs=>CU 2 (xD ((jE 2 (Za ZI (Za Am (!1) (~~~0)) (Zk Zo #v[0]))) s) s) s
def UP:Bc:=λs=>CU 3 (xD ((jE 1 (Za Am (!0) (!2))) s) s) s
def UQ:Bc:=λs=>CU 4 (xD ((jE 2 (Za Zt (Za HN (~~~10) (~~~41)) (Zk Zo #v[3]))) s) s) s
def UR:Bc:=λs=>CU 5 (xD ((jE 2 (Za Zt (λr=>(Zf (#[Bd r 4].J Zm)).j D.S) (E1 (Za Am (!3) (Za ZI (Za Am (!1) (~~~1)) (Zk Zo #v[3]))) (λr=>EZ (Z (.o 1))) (λ_=>Z J) Fz))) s) s) s
def US:Bc:=λs=>C9 (jT 2 (λr=>AI ((Za Co (Za ZI (Za Am (!1) (~~~2)) (~~~3)) (~~~0)) r)) s) (Zr (CU 5 (xD ((jE 2 (Zk DC #v[ZA ((Zh 1 [4] (λr=>(#[(Zk Zo #v[5]) r].J Zm).J ED) (Zc 0) (λ_=>Z J') QZ) r)])) s) s) s) ∅) (.Q s)
def eQ:Bc:=λs=>Ox (λs=>Bq s 0) (jE 0 (λr=>Bd r 2)) (xD ((jE 1 (Za Zt (!3) (λr=>ZA (Zf (#[Bd r 5].J Zm))))) s) s) s
def eR:Bc:=λs=>CU 6 (xC .l (jG 2 (Zh 1 [1] (λr=>(BK r 0).J Zn) (Zc 0) (λ_=>Z J') Q0) s) s) s
def eS:Bc:=λs=>Ox (λs=>Bq s 6) (jE 0 (λr=>Bd r 2)) (xD ((jE 0 (λr=>Bd r 4)) s) s) s
def eT:Bc:=λs=>ER (xD ((jE 2 (λr=>(Zf (#[Bd r 2,Bd r 5,(Zf (#[(Zk DC #v[6]) r,(Za K7 (Za ZI (Za Am (!1) (~~~3)) (~~~1000)) (~~~500)) r].J Zm)).j D.S].J Zm)).j D.S)) s) s)
def zq:Bc:=λs=>.Q s
def eU:=eT <<< zq
def eV:=eS <<< eU
def eW:=eR <<< eV
def Q1:=eQ <<< eW
def UT:=US <<< Q1
def UU:=UR <<< UT
def UV:=UQ <<< UU
def UW:=UP <<< UV
def UX:=UO <<< UW
def Q2:Bc:=UX
def Q3:=EH 2 7 Q2
def eX:As:=λr=>Zd (Zy (DM (DA (AI ((Zg Hn #v[0]) r)) (AI ((Zg Ju #v[0]) r))))) ∅
def MP:=AU 1 1 eX
def eY:As:=λr=>Zd (ZF (EC (Bi r 0)) (Zd (Zy ((Zf (#[Z (.o 0),Z (.o 0)].J Zm)).j D.S)) ∅) (.Q r)) (λr=>Zd (ZF (ZK ((Zg Hn #v[0]) r)) (Zd (Zy ((Zf (#[Z (.o 1),Bd r 0].J Zm)).j D.S)) ∅) (.Q r)) (λr=>Zd (Zy ((Zf (#[Z (.o 2),Bd r 0].J Zm)).j D.S)) ∅))
def Q5:=AU 1 1 eY
def UY:Az:=λr=>(Zf (#[(Zg Gm #v[0,1]) r,(Zg Gm #v[0,2]) r].J Zm)).j D.S
def eZ:As:=λr=>Zd (Hc ((FV (λr=>ZA ((Zh 1 [1,2] (λr=>(BK r 0).J Zn) (Zc 0) (λ_=>Z J') UY) r))) r)) ∅
def Q6:=AU 3 3 eZ
def OE:As:=λr=>Zd (Zy (DM (EB (AI ((Zg Hn #v[1]) r)) (AI ((Lc Mn E2 (~~~0) (!1) (Zk Zo #v[0])) r))))) ∅
def Q7:=AU 2 2 OE
def OG:As:=λr=>Zd (Zy (DM (EB (AI ((Zg Hn #v[1]) r)) (AI ((Lc Mn Mn (~~~0) (!1) (Zg OB #v[0])) r))))) ∅
def Q8:=AU 2 2 OG
def UZ:Az:=(Zg OB #v[0])
def U0:As:=λr=>Zd (Zy ((Zk DC #v[ZA ((Zh 1 [] (λr=>(BK r 0).J Zn) (Zc 0) (λ_=>Z J') UZ) r)]) r)) ∅
def U1:=AU 1 1 U0
def U2:Az:=λr=>(Zf (#[(Za Am (!0) (~~~0)) r,(Zf (#[Z (.Ι "out"),Z .κ].J Zm)).j D.S].J Zm)).j D.S
def MQ:As:=λr=>Zd (ZF (AI ((Za (CF O') (Za Am (!4) (~~~0)) (!2)) r)) (Zd (Iy 3 ((Za Am (!4) (~~~0)) r) ((Zf (#[Z (.Ι "in"),(Zg Gm #v[4,1]) r].J Zm)).j D.S) r) ∅) (.Q r)) ∅
def U3:As:=λr=>Zd (EL 3 ((FV (λr=>ZA ((Zh 1 [] (λr=>(BK r 0).J Zn) (Zc 0) (λ_=>Z J') U2) r))) r) r) (λr=>Zd ((ZD (λr=>(BK r 0).J Zn) (Zc 4) MQ) r) (λr=>Zd (Hc (E9 r 3)) ∅))
def Q9:=AU 3 5 U3
def U4:VE->O j':=λr=>AI ((Za (CF O') (Za Am (!0) (~~~0)) (!3)) r)
def U5:Az:=λr=>(Zf (#[(Zg Gm #v[0,1]) r,(Zg Gm #v[0,2]) r].J Zm)).j D.S
def U6:As:=λr=>Zd (Hc ((FV (λr=>ZA ((Zh 1 [1,2,3] (λr=>(BK r 0).J Zn) (Zc 0) U4 U5) r))) r)) ∅
def Ra:=AU 4 4 U6
def Re:As:=λr=>Zd (Eo 4 ((Za Zt (~~~1) (Za ZI (Za Am (!1) (Za Zt (~~~2) (!5))) (Za Am (!4) (Za K7 (!5) (~~~1))))) r) r) ∅
def Rf:As:=λr=>Zd (ZF (AI ((Za Fa (!5) (~~~0)) r)) (Zd (ZJ 9 ((Za ZI (Za Am (!1) (Za Zt (Za Zt (~~~7) (Za DV (~~~7) (!5))) (!9))) (Za Am (!4) (!5))) r) r) ∅) (.Q r)) (λr=>Zd (Eo 8 ((Zg Kf #v[(Za Zt (!0) (Za DV (Za Am (!1) (~~~2)) (Za ZI (Za Am (!1) (~~~6)) (~~~2)))) r,(Za ZI (Za Zt (Za Am (!1) (~~~7)) (Za DV (!5) (Za ZI (Za Am (!1) (~~~8)) (~~~2)))) (~~~2)) r,9]) r) r) ∅)
def Rg:As:=λr=>Zd (ZN 8 (Zf ((Z []).J Zm)) r) (λr=>Zd (ZJ 9 ((Za ZI (Za Zt (!7) (Za Am (!1) (~~~2))) (!2)) r) r) (λr=>Zd ((ZD (λr=>(#[Bd r 3].J Zm).J ED) (Zc 5) Rf) r) (λr=>Zd (Eo 6 ((Zk DC #v[8]) r) r) ∅)))
def e8:As:=λr=>ZJ 1 ((Zg ZP #v[0,Z (.o 40)]) r) r
def e9:As:=λr=>ZJ 2 ((Za Zt (~~~1) (Za ZI (Za Am (!1) (~~~0)) (~~~6))) r) r
def fg:As:=λr=>ZJ 3 ((Za Am (λr=>ZA (Zf (#[Z (.o 2),Z (.o 1),Z (.o 3),Z (.o 2),Z (.o 3),Z (.o 4),Z (.o 2),Z (.o 3)].J Zm))) (Za ZI (Za Am (!1) (~~~1)) (~~~8))) r) r
def fh:As:=λr=>ZN 4 (Zf (#[Bd r 2].J Zm)) r
def fj:As:=(ZD (λr=>(#[Z (.o 1),Bd r 3].J Zm).J NN) (Zc 5) Re)
def fm:As:=λr=>ZN 6 (Zf ((Z []).J Zm)) r
def fq:As:=(ZD (λr=>(#[Bd r 2].J Zm).J ED) (Zc 7) Rg)
def ft:As:=λr=>ZZ (D3 r 6)
def zr:As:=λr=>.Q r
def fu:=ft >>> zr
def fw:=fq >>> fu
def fy:=fm >>> fw
def fA:=fj >>> fy
def fB:=fh >>> fA
def fE:=fg >>> fB
def fF:=e9 >>> fE
def fG:=e8 >>> fF
def fH:As:=fG
def Rh:=AU 1 10 fH
def U7:Az:=(Zg UN #v[(Za Am (!1) (!0)) r,(Za Am (!2) (!0)) r,(Za Am (!3) (!0)) r])
def U8:As:=λr=>Zd (Zy ((Zk DC #v[ZA ((Zh 1 [0,1,2] (λr=>(#[(Zk Zo #v[1]) r].J Zm).J ED) (Zc 0) (λ_=>Z J') U7) r)]) r)) ∅
def U9:=AU 3 3 U8
def Va:Az:=(Za ZI (Za Am (!1) (!0)) (Za Zt (Zk Zo #v[(Za Am (Za Am (!2) (!0)) (~~~0)) r]) (~~~1)))
def Vb:As:=λr=>Zd (ZJ 2 ((Zg ZP #v[1,(Zk Zo #v[0]) r]) r) r) (λr=>Zd (Zy ((Zk DC #v[ZA ((Zh 1 [2,0] (λr=>(#[(Zk Zo #v[0]) r].J Zm).J ED) (Zc 0) (λ_=>Z J') Va) r)]) r)) ∅)
def MR:=AU 2 3 Vb
def Rj:Az:=(Za Am (Za Am (Za Am (!1) (!0)) (Za ZI (Za Am (!2) (!0)) (Zk Zo #v[(Za Am (!1) (!0)) r]))) (~~~0))
def Vc:As:=λr=>Zd (ZJ 2 ((Zg ZP #v[1,Z (.o 6)]) r) r) (λr=>Zd (ZJ 3 ((Zk DC #v[ZA ((Zh 1 [0,2] (λr=>(#[(Zk Zo #v[0]) r].J Zm).J ED) (Zc 0) (λ_=>Z J') Rj) r)]) r) r) (λr=>Zd (Zy ((Zf (#[Bd r 3,(Za Am (λr=>ZA (Zf (#[(Za K7 (Za ZI (Za Am (!2) (~~~4)) (~~~7)) (~~~3)) r,(Za ZI (!1) (Za HN (~~~10) (~~~30))) r,(Za K7 (~~~0) (Za ZI (!1) (Za HN (~~~10) (~~~30)))) r,(Za ZI (Za Am (!2) (~~~4)) (~~~2)) r].J Zm))) (Za ZI (Za Am (!2) (~~~5)) (~~~4))) r].J Zm)).j D.S)) ∅))
def OH:=AU 2 4 Vc
def OI:As:=λr=>Zd (ZJ 10 ((Za ZI (Za EE (Za Am (!2) (Za Zt (~~~4) (Za DV (~~~7) (!4)))) (Za Zt (!9) (~~~1))) (Zk Zo #v[6])) r) r) (λr=>Zd (ZJ 11 ((Zg IF #v[(Za Am (!6) (!10)) r,7]) r) r) (λr=>Zd (ZF (AI ((Za (CF J') (!11) (!8)) r)) (Zd (Eo 8 (Bd r 11) r) ∅) (.Q r)) ∅))
def Rk:As:=λr=>Zd (ZJ 5 ((Za ZI (Za Am (!2) (Za Zt (~~~1) (Za DV (~~~7) (!4)))) (Zk Zo #v[0])) r) r) (λr=>Zd (ZJ 6 ((Za Am (!0) (!5)) r) r) (λr=>Zd (ZJ 7 ((Za ZI (Za Am (!2) (Za Zt (~~~2) (Za DV (~~~7) (!4)))) (Za Zt (Zk Zo #v[(Za Am (!6) (~~~0)) r]) (~~~1))) r) r) (λr=>Zd (ZN 8 (Zf ((Z []).J Zm)) r) (λr=>Zd ((ZD (λr=>(#[(Za Zt (~~~1) (Za ZI (Za Am (!2) (Za Zt (~~~3) (Za DV (~~~7) (!4)))) (~~~4))) r].J Zm).J ED) (Zc 9) OI) r) (λr=>Zd (ZF (AI ((Za Co (Za ZI (Za Am (!2) (Za Zt (~~~5) (Za DV (~~~7) (!4)))) (~~~7)) (~~~0)) r)) (Zd (Eo 8 ((Za Zt (Za HN (~~~10) (~~~41)) (Za Am (!2) (Za Zt (~~~5) (Za DV (~~~7) (!4))))) r) r) ∅) (.Q r)) (λr=>Zd (ZF (AI ((Za Co (Za ZI (Za Am (!2) (Za Zt (~~~5) (Za DV (~~~7) (!4)))) (~~~11)) (~~~3)) r)) (Zd (ZN 8 (Zf ((Z []).J Zm)) r) ∅) (.Q r)) (λr=>Zd (ZF (AI ((Za Co (Za ZI (Za Am (!2) (Za Zt (~~~6) (Za DV (~~~7) (!4)))) (~~~2)) (~~~0)) r)) (Zd (ZJ 8 ((Zk DC #v[8]) r) r) ∅) (.Q r)) (λr=>Zd ((Gj 8 (λr=>Eo 3 ((Zf (#[Bd r 5,Bd r 7,Bd r 8].J Zm)).j D.S) r)) r) ∅))))))))
def fI:As:=λr=>ZJ 2 ((Zg ZP #v[1,Z (.o 24)]) r) r
def fJ:As:=λr=>ZN 3 (Zf ((Z []).J Zm)) r
def fK:As:=(ZD (λr=>(#[(Za Am (λr=>ZA (Zf (#[Z (.o 1),Z (.o 0),Z (.o 2),Z (.o 1),Z (.o 3)].J Zm))) (Za ZI (Za Am (!2) (~~~0)) (~~~5))) r].J Zm).J ED) (Zc 4) Rk)
def fM:As:=λr=>ZZ (D3 r 3)
def zt:As:=λr=>.Q r
def fN:=fM >>> zt
def fO:=fK >>> fN
def fP:=fJ >>> fO
def fQ:=fI >>> fP
def Vd:As:=fQ
def Rl:=AU 2 12 Vd
def Ve:VE->O j':=λr=>AI ((Za Co (Za Am (!0) (~~~0)) (!1)) r)
def Vf:Az:=λr=>Bd r 0
def Vg:Az:=(Za (CF O') (Zg IF #v[1,(Za Am (!0) (~~~1)) r]) (Za Am (!0) (~~~2)))
def OJ:As:=λr=>Zd (ZF (ZK ((Zk DD #v[ZA ((Zh 1 [6] (λr=>(BK r 4).J Zn) (Zc 0) (λ_=>Z J') Vg) r)]) r)) (Zd (Eo 5 ((Za Am (!6) (~~~0)) r) r) ∅) (.Q r)) ∅
def Rm:As:=λr=>Zd (ZJ 4 (ZA ((Zh 1 [3] (λr=>(BK r 1).J Zn) (Zc 0) Ve Vf) r)) r) (λr=>Zd (ZN 5 (Zf ((Z []).J Zm)) r) (λr=>Zd ((ZD (λr=>((Za Am (!0) (!3)) r).J Zn) (Zc 6) OJ) r) (λr=>Zd ((Gj 5 (λr=>Eo 2 (Bd r 5) r)) r) ∅)))
def Vh:As:=λr=>Zd (ZN 2 (Zf ((Z []).J Zm)) r) (λr=>Zd ((ZD (λr=>(#[(Zk Zo #v[0]) r].J Zm).J ED) (Zc 3) Rm) r) (λr=>Zd (ZZ (D3 r 2)) ∅))
def OL:=AU 2 7 Vh
def ZX:As:=λr=>Zd (ZF (AI ((Za Co (Zg IF #v[5,(Za Am (!2) (!4)) r]) (Zg IF #v[6,(Za Am (!2) (!4)) r])) r)) (Zd (ZF (AI ((Za Cp (Za (CF O') (Za Am (!5) (~~~0)) (Za Am (!1) (!4))) (Za (CF O') (Za Am (!6) (~~~0)) (Za Am (!1) (!4)))) r)) (Zd (Zy (Z (.bl O'))) ∅) (.Q r)) (λr=>Zd (ZJ 7 ((Za Cp (Zg IF #v[5,(Za Am (!3) (!4)) r]) (Zg IF #v[6,(Za Am (!3) (!4)) r])) r) r) (λr=>Zd (ZF (EB (AI ((Za (CF O') (Za Am (!5) (~~~0)) (Za Am (!1) (!4))) r)) (ZK (Bi r 7))) (Zd (Zy (Z (.bl O'))) ∅) (.Q r)) ∅))) (.Q r)) ∅
def Ro:As:=λr=>Zd ((ZD (λr=>((Za Am (!0) (!4)) r).J Zn) (Zc 6) ZX) r) ∅
def MS:As:=λr=>Zd ((ZD (λr=>((Za Am (!0) (!4)) r).J Zn) (Zc 5) Ro) r) ∅
def ON:As:=λr=>Zd (ZF (AI ((Za (CF O') (λr=>ZA (Zf ((Z []).J Zm))) (!1)) r)) (Zd (Zy (Z (.bl J'))) ∅) (.Q r)) (λr=>Zd ((ZD (λr=>(#[(Zk Zo #v[0]) r].J Zm).J ED) (Zc 4) MS) r) (λr=>Zd (Zy (Z (.bl J'))) ∅))
def Rp:=AU 4 8 ON
def Vi:VE->O j':=λr=>AI ((Za (CF O') (Za Am (!0) (~~~0)) (Za Am (!2) (!3))) r)
def Vj:Az:=(Zg IF #v[0,1])
def MU:As:=λr=>Zd (ZJ 5 ((Za Am (!2) (!4)) r) r) (λr=>Zd (ZJ 6 (ZA ((Zh 1 [5,1,4] (λr=>((Za Am (!0) (!4)) r).J Zn) (Zc 0) Vi Vj) r)) r) (λr=>Zd (ZF (AI ((Za (CF J') (Za Am (!3) (!4)) (!6)) r)) (Zd (Zy (Z (.bl O'))) ∅) (.Q r)) ∅))
def Rq:As:=λr=>Zd ((ZD (λr=>(#[(Zk Zo #v[0]) r].J Zm).J ED) (Zc 4) MU) r) (λr=>Zd (Zy (Z (.bl J'))) ∅)
def Vk:=AU 4 7 Rq
def Vl:Az:=(Zg Q5 #v[0])
def fS:As:=λr=>Zd (Zy ((Zk DC #v[ZA ((Zh 1 [] (λr=>(BK r 0).J Zn) (Zc 0) (λ_=>Z J') Vl) r)]) r)) ∅
def MV:=AU 1 1 fS
def Vm:Az:=(Zg MP #v[0])
def Vn:As:=λr=>Zd (ZF (CP (ZK ((Zk Cy #v[0,Z (.ty "tuple")]) r))) (Zd (Zy (Z (.bl O'))) ∅) (.Q r)) (λr=>Zd (ZF (DA (AI ((Za E2 (Zk Zo #v[0]) (~~~1)) r)) (AI ((Za Fa (Zk Zo #v[0]) (~~~4)) r))) (Zd (Zy (Z (.bl O'))) ∅) (.Q r)) (λr=>Zd (Zy ((Zk DD #v[ZA ((Zh 1 [] (λr=>(BK r 0).J Zn) (Zc 0) (λ_=>Z J') Vm) r)]) r)) ∅))
def Vo:=AU 1 1 Vn
def Vp:As:=λr=>Zd (ZF (CP (ZK ((Zg Q7 #v[0,1]) r))) (Zd (.Ρ) ∅) (.Q r)) (λr=>Zd (Zy ((Za Am (!0) (!1)) r)) ∅)
def Vq:=AU 2 2 Vp
def Vr:Az:=(Zg Q8 #v[0,1])
def Vs:As:=λr=>Zd (ZF (DA (CP (ZK ((Zk Cy #v[1,Z (.ty "tuple")]) r))) (AI ((Za Cp (Zk Zo #v[1]) (Zk Zo #v[0])) r))) (Zd (Zy (Z (.bl O'))) ∅) (.Q r)) (λr=>Zd (Zy ((Zk DD #v[ZA ((Zh 2 [] (HX (λr=>BK r 0) (λr=>BK r 1)) (Z8 2 (Zu (Zc 0) (Zu (Zc 1) Z7))) (λ_=>Z J') Vr) r)]) r)) ∅)
def LA:=AU 2 2 Vs
def Rr:Az:=λr=>DM (DA (AI (DM (EC (Bi r 0)))) (AI ((Zg MP #v[0]) r)))
def fT:As:=λr=>ZF (DA (CP (ZK ((Zk Cy #v[1,Z (.ty "tuple")]) r))) (AI ((Za Cp (Zk Zo #v[1]) (~~~3)) r))) (Zd (Zy (Z (.bl O'))) ∅) (.Q r)
def fU:As:=λr=>ZF (DA (CP (ZK ((Zg Q7 #v[0,(Za Am (!1) (~~~0)) r]) r))) (CP (ZK ((Zg Q8 #v[(Za Am (!0) (Za Am (!1) (~~~0))) r,(Za Am (!1) (~~~1)) r]) r)))) (Zd (Zy (Z (.bl O'))) ∅) (.Q r)
def Vt:As:=λr=>ZF (CP (ZK ((Zk Cy #v[(Za Am (!1) (~~~2)) r,(Zf (#[Z (.ty "list"),Z (.ty "tuple")].J Zm)).j D.S]) r))) (Zd (Zy (Z (.bl O'))) ∅) (.Q r)
def Vu:As:=λr=>Zy ((Zk DD #v[ZA ((Zh 1 [] (λr=>((Za Am (!1) (~~~2)) r).J Zn) (Zc 0) (λ_=>Z J') Rr) r)]) r)
def zu:As:=λr=>.Q r
def Vv:=Vu >>> zu
def Rs:=Vt >>> Vv
def fV:=fU >>> Rs
def fW:=fT >>> fV
def Vw:As:=fW
def MW:=AU 2 2 Vw
def Jv:As:=λr=>Zd (Oz 7 ((Jk 5 (Zg Gm #v[6,1]) (Za Am (!6) (~~~0))) r)) (λr=>Zd (ZF (AI ((Za Cp (Za DO (!4) (!7)) (Za DO (!4) (Za Am (!6) (~~~0)))) r)) (Zd (Zy ((Zf (#[Bd r 7,(Za Am (!6) (~~~0)) r].J Zm)).j D.S)) ∅) (.Q r)) ∅)
def fX:As:=λr=>ZJ 4 ((Zg Q9 #v[0,2,3]) r) r
def fY:As:=λr=>EL 5 (Z []) r
def fZ:As:=(ZD (λr=>(BK r 0).J Zn) (Zc 6) Jv)
def zv:As:=λr=>Zy (Z .κ)
def zw:As:=λr=>.Q r
def f4:=zv >>> zw
def f5:=fZ >>> f4
def f6:=fY >>> f5
def f7:=fX >>> f6
def Vx:As:=f7
def Vy:=AU 4 8 Vx
def Rt:Az:=(Zg Q6 #v[1,(Za Am (!2) (!0)) r,(Za Am (!3) (!0)) r])
def f8:As:=λr=>Zd (ZZ ((Zh 2 [1,2] (ID (λr=>BK r 0)) (Z8 2 (Zu (Zc 0) (Zu (Zc 1) Z7))) (λ_=>Z J') Rt) r)) ∅
def Ru:=AU 3 3 f8
def Rw:Az:=(Zg Rh #v[(Za Zt (Zg ZT #v[1,(Za Zt (~~~1) (!0)) r]) (Za DV (~~~1000) (!0))) r])
def Rx:Az:=(E1 (!0) (λ_=>Z J) (λr=>EZ (Z (.o 3))) Fz)
def Vz:As:=λr=>ZJ 1 ((Za Am (λr=>ZA (Zf (#[Z (.o 2),Z (.o 1),Z (.o 2),Z (.o 3),Z (.o 1),Z (.o 2),Z (.o 3),Z (.o 4)].J Zm))) (Za ZI (Zg ZT #v[0,Z (.o 0)]) (~~~8))) r) r
def VA:As:=λr=>ZN 2 ((Zh 1 [0] (λr=>(#[Bd r 1].J Zm).J ED) (Zc 0) (λ_=>Z J') Rw) r) r
def VB:As:=λr=>ZF (AI ((Za Co (!1) (~~~4)) r)) (Zd ((Gj 2 (λr=>ZN 2 ((Zh 1 [] (λr=>(BK r 2).J Zn) (Zc 0) (λ_=>Z J') Rx) r) r)) r) ∅) (.Q r)
def VC:As:=λr=>ZZ (D3 r 2)
def zx:As:=λr=>.Q r
def VD:=VC >>> zx
def VF:=VB >>> VD
def VH:=VA >>> VF
def VI:=Vz >>> VH
def VJ:As:=VI
def OO:=AU 1 3 VJ
def OP:Az:=(Zg U9 #v[0,4,2])
def Ry:Az:=λr=>Bd r 5
def Rz:As:=λr=>Zd (Iy 6 (Bi r 4) ((Zg QX #v[(Za DO (!3) (!4)) r]) r) r) ∅
def f9:As:=λr=>EL 3 (Z []) r
def VL:As:=(QC 3 (λr=>(BK r 1).J Zn) (Z8 2 (Zu (Zc 4) (Zu (Zc 5) Z7))) OP Ry)
def gc:As:=λr=>EL 6 (Z []) r
def VM:As:=(Gj 3 (ZD (λr=>(BK r 3).J Ea) (Zc 4) Rz))
def gg:As:=λr=>Hc (E9 r 6)
def zy:As:=λr=>.Q r
def gh:=gg >>> zy
def VN:=VM >>> gh
def VO:=gc >>> VN
def VP:=VL >>> VO
def RC:=f9 >>> VP
def gj:As:=RC
def VQ:=AU 3 7 gj
def VR:Az:=(Zg Vo #v[0])
def OQ:As:=λr=>Zd (ZJ 6 ((E1 (!3) (λr=>EZ ((Za Zt (!4) (~~~1)) r)) (λ_=>Z J) Fz) r) r) (λr=>Zd (Qt (N9 (Jk 1 (λr=>(Zf (#[Bd r 4,Bd r 5].J Zm)).j D.S) (λr=>Bd r 6)) (!6) r) (λr=>Zd (Zy (Z (.bl O'))) ∅) ∅) ∅)
def RD:As:=λr=>Zd (ZF (DA (AI ((Za Cp (Zk Zo #v[3]) (Zk Zo #v[(Za Am (!0) (~~~0)) r])) r)) (AI ((Za (DF O') (Za Am (!3) (~~~0)) (!2)) r))) (Zd (Zy (Z (.bl O'))) ∅) (.Q r)) (λr=>Zd (Iy 2 ((Za Am (!3) (~~~0)) r) (Z (.bl J')) r) (λr=>Zd ((ZD (ID (λr=>BK r 3)) (Z8 2 (Zu (Zc 4) (Zu (Zc 5) Z7))) OQ) r) ∅))
def gm:As:=λr=>ZF (CP (ZK ((Zk DD #v[ZA ((Zh 1 [] (λr=>(BK r 0).J Zn) (Zc 0) (λ_=>Z J') VR) r)]) r))) (Zd (Zy (Z (.bl O'))) ∅) (.Q r)
def gq:As:=λr=>EL 1 (Z []) r
def gr:As:=λr=>EL 2 (Z []) r
def gt:As:=(ZD (λr=>(BK r 0).J Zn) (Zc 3) RD)
def gu:As:=λr=>Zy (Z (.bl J'))
def zz:As:=λr=>.Q r
def gv:=gu >>> zz
def gw:=gt >>> gv
def gy:=gr >>> gw
def gz:=gq >>> gy
def gA:=gm >>> gz
def VS:As:=gA
def MY:=AU 1 7 VS
def VT:Az:=(Zg MW #v[1,0])
def VU:As:=λr=>Zd (Zy (DM (EB (AI ((Zk Cy #v[1,Z (.ty "list")]) r)) (AI ((Zk DD #v[ZA ((Zh 1 [0] (λr=>(BK r 1).J Zn) (Zc 0) (λ_=>Z J') VT) r)]) r))))) ∅
def OR:=AU 2 2 VU
def VV:As:=λr=>Zd (Zy ((Zf (#[(Zg MV #v[(Za Am (!0) (~~~0)) r]) r,(Za Am (!0) (~~~1)) r].J Zm)).j D.S)) ∅
def RE:=AU 1 1 VV
def VW:As:=λr=>Zd (Zy (DM (EB (AI ((Zg LA #v[(Bi r 0).J (C7 "Book" "axes"),1]) r)) (AI ((Za (DF O') (!1) (λr=>(Bi r 0).J (C7 "Book" "tables"))) r))))) ∅
def VX:=AU 2 2 VW
def VY:VE->O j':=λr=>ZK ((Zg Vk #v[1,2,3,0]) r)
def VZ:Az:=λr=>Bd r 0
def Kg:As:=λr=>Zd (ZF (ZK ((Zg Rp #v[0,3,6,4]) r)) (Zd (ZJ 7 ((Zg VQ #v[0,1,6]) r) r) (λr=>Zd (ZJ 8 ((Zk Zo #v[ZA ((Zh 1 [0,3,6] (λr=>(BK r 7).J Ea) (Zc 0) VY VZ) r)]) r) r) (λr=>Zd (ZF (DA (EC (Bi r 5)) (AI ((Za E2 (!8) (Za Am (!5) (~~~1))) r))) (Zd (ZJ 5 ((Zf (#[Bd r 6,Bd r 8].J Zm)).j D.S) r) ∅) (.Q r)) ∅))) (.Q r)) ∅
def V0:As:=λr=>Zd (ZJ 5 (Z .κ) r) (λr=>Zd ((ZD (λr=>(ZA (J9 (Bi r 2))).J Zn) (Zc 6) Kg) r) (λr=>Zd (Zy (Bd r 5)) ∅))
def MZ:=AU 5 9 V0
def V1:As:=λr=>Zd (ZF (CP (ZK ((Zk Cy #v[0,Z (.ty "list")]) r))) (Zd (Zy (Z (.bl O'))) ∅) (.Q r)) (λr=>Zd (ZF (DA (AI ((Za E2 (Zk Zo #v[0]) (~~~1)) r)) (AI ((Za Fa (Zk Zo #v[0]) (~~~40)) r))) (Zd (Zy (Z (.bl O'))) ∅) (.Q r)) (λr=>Zd (Zy ((Zg MY #v[0]) r)) ∅))
def V2:=AU 1 1 V1
def gB:As:=λr=>ZJ 2 ((Za Zt (!0) (λr=>ZA (Zf (#[Bd r 1].J Zm)))) r) r
def gC:As:=λr=>ZF (CP (ZK ((Zg MY #v[2]) r))) (Zd (.Ρ) ∅) (.Q r)
def gD:As:=λr=>ZF (AI ((Za Fa (Zk Zo #v[2]) (~~~40)) r)) (Zd (.Ρ) ∅) (.Q r)
def gE:As:=λr=>Zy (Bd r 2)
def zA:As:=λr=>.Q r
def gF:=gE >>> zA
def gG:=gD >>> gF
def gH:=gC >>> gG
def gI:=gB >>> gH
def V3:As:=gI
def V4:=AU 2 3 V3
def V5:Bc:=λs=>Zr (C9 (jT 2 (λr=>DA (CP (ZK ((HU "Book" "is_kept" VX (Df r 0) #[1]).j Em))) (AI ((Za Co (!1) (Zg MN #v[(Bi r 0).J (C7 "Book" "axes")])) r))) s) (Zr (.Ρ) ∅) (.Q s)) (λs=>Zr (DY (QL (Oq "Book" "tables" s (Bq s 0)) ((jE 0 (λr=>Bd r 1)) s) s) s) ∅)
def OS:=EH 2 2 V5
def Kh:As:=λr=>Zd (ZF (DA (CP (ZK (Bi r 1))) (AI ((Za Cp (Za Am (!1) (λr=>K8 (Z (.o 1)))) (!2)) r))) (Zd (Eo 1 (Bd r 2) r) ∅) (.Q r)) ∅
def V6:As:=λr=>Zd (ZN 1 (Zf ((Z []).J Zm)) r) (λr=>Zd ((ZD (λr=>(ZA ((Ll MV (!0)) r)).J Zn) (Zc 2) Kh) r) (λr=>Zd (ZZ (D3 r 1)) ∅))
def OT:=AU 1 3 V6
def V7:Az:=(Zg V2 #v[0])
def V8:As:=λr=>Zd (ZF (CP (ZK ((Zk Cy #v[0,Z (.ty "list")]) r))) (Zd (Zy (Z (.bl O'))) ∅) (.Q r)) (λr=>Zd (ZF (DA (AI ((Za E2 (Zk Zo #v[0]) (~~~1)) r)) (AI ((Za Fa (Zk Zo #v[0]) (~~~4)) r))) (Zd (Zy (Z (.bl O'))) ∅) (.Q r)) (λr=>Zd (Zy ((Zk DD #v[ZA ((Zh 1 [] (λr=>(BK r 0).J Zn) (Zc 0) (λ_=>Z J') V7) r)]) r)) ∅))
def V9:=AU 1 1 V8
def Wa:Bc:=λs=>Zr (DY (DZ "Book" "put_ladder" QT (Bq s 0) (Zi (((jE 0 (λr=>Bd r 1)) s).j .r) (Zi (((jE 1 (Zg V4 #v[(Zg Vq #v[(Bi r 0).J (C7 "Book" "axes"),1]) r,2])) s).j .r) (Z []))) s) s) ∅
def OU:=EH 3 3 Wa
def Wb:Az:=λr=>(Zf (#[Bd r 0].J Zm)).j D.S
def Wc:Az:=(Za Am (!0) (~~~0))
def OV:As:=λr=>Zd (ZZ ((Zh 1 [] (λr=>((Zg OT #v[ZA ((Zh 1 [] (λr=>(BK r 0).J Zn) (Zc 0) (λ_=>Z J') Wb) r)]) r).J Zn) (Zc 0) (λ_=>Z J') Wc) r)) ∅
def OW:=AU 1 1 OV
def OX:Az:=(Za DO (!0) (!1))
def OY:As:=λr=>Zd (ZF (ZK ((Zg MO #v[0,3]) r)) (Zd (ZJ 5 ((Zk DC #v[ZA ((Zh 2 [] (HX (λr=>BK r 0) (λr=>BK r 3)) (Z8 2 (Zu (Zc 0) (Zu (Zc 1) Z7))) (λ_=>Z J') OX) r)]) r) r) (λr=>Zd (Iy 2 (Bi r 5) (NI (AI ((Za (DF O') (!5) (!2)) r)) ((Zg OC #v[(Za DO (!2) (!5)) r,4]) r) (Bd r 4)) r) ∅)) (.Q r)) ∅
def Wd:Az:=λr=>(Zf (#[Bd r 0,(Za DO (!1) (!0)) r].J Zm)).j D.S
def We:As:=λr=>Zd (EL 2 (Z []) r) (λr=>Zd ((ZD (λr=>(BK r 1).J Zn) (Z8 2 (Zu (Zc 3) (Zu (Zc 4) Z7))) OY) r) (λr=>Zd (ZZ ((Zh 1 [2] (λr=>((Zg OT #v[ZA ((GH Lm #v[2]) r)]) r).J Zn) (Zc 0) (λ_=>Z J') Wd) r)) ∅))
def Wf:=AU 2 6 We
def Wg:VE->O j':=λr=>AI ((Za Cp (Za Om (!1) (!0)) (Za DO (!2) (!0))) r)
def gJ:Az:=λr=>Bd r 0
def Wh:VE->O j':=λr=>AI ((Za (DF J') (!0) (!1)) r)
def gK:Az:=λr=>Bd r 0
def gL:As:=λr=>EL 2 ((FV (!0)) r) r
def gM:As:=λr=>EL 3 ((FV (!1)) r) r
def gN:As:=(Gj 2 (λr=>ZN 4 ((Zh 1 [3,2] (λr=>(BK r 2).J Ea) (Zc 0) Wg gJ) r) r))
def gO:As:=(Gj 3 (λr=>ZZ ((En OT #v[(Za Zt (!4) (λr=>ZA ((Zh 1 [2] (λr=>(BK r 3).J Ea) (Zc 0) Wh gK) r))) r]) r)))
def zB:As:=λr=>.Q r
def gP:=gO >>> zB
def gQ:=gN >>> gP
def gR:=gM >>> gQ
def gS:=gL >>> gR
def Wi:As:=gS
def RF:=AU 2 5 Wi
def Wj:VE->O j':=λr=>AI ((Za Co (Zg Gm #v[0,1]) (!2)) r)
def Wk:Az:=(Za Am (!0) (~~~0))
def Wl:As:=λr=>Zd (ZF (EB (CP (EC (Bi r 2))) (CP (ZK ((Zg MP #v[2]) r)))) (Zd (ZZ (Zf ((Z []).J Zm))) ∅) (.Q r)) (λr=>Zd (ZZ ((En OW #v[ZA ((Zh 1 [1,2] (λr=>(BK r 0).J Zn) (Zc 0) Wj Wk) r)]) r)) ∅)
def Wm:=AU 3 3 Wl
def Wn:Az:=λr=>(Zf (#[Bd r 0,Z (.bl J')].J Zm)).j D.S
def Wo:VE->O j':=λr=>AI ((Za (DF O') (Zg Gm #v[0,(Za Am (!1) (~~~1)) r]) (!2)) r)
def gT:Az:=λr=>Bd r 0
def OZ:As:=λr=>Zd (ZF (AI ((Za Co (Za Am (!4) (~~~0)) (!2)) r)) (Zd (EL 5 ((FV (λr=>ZA ((Zh 1 [] (λr=>((Za Am (!4) (~~~2)) r).J Zn) (Zc 0) (λ_=>Z J') Wn) r))) r) r) (λr=>Zd (ZJ 3 (ZA ((Zh 1 [4,5] (λr=>(BK r 3).J Zn) (Zc 0) Wo gT) r)) r) ∅)) (.Q r)) ∅
def Wp:Az:=(Za Am (!0) (~~~0))
def Wq:As:=λr=>Zd (ZJ 3 ((Za Am (!0) (!2)) r) r) (λr=>Zd ((ZD (λr=>(BK r 1).J Zn) (Zc 4) OZ) r) (λr=>Zd (ZZ ((En OW #v[ZA ((Zh 1 [] (λr=>(BK r 3).J Zn) (Zc 0) (λ_=>Z J') Wp) r)]) r)) ∅))
def RH:=AU 3 6 Wq
def Wr:Az:=λr=>(Zf (#[Bd r 0,(Zg QS #v[ZA (Zf (#[Bd r 1].J Zm))]) r].J Zm)).j D.S
def Ws:As:=λr=>Zd (ZJ 3 (ZA ((Zh 2 [] (λr=>(BK r 1).J Zn) (Z8 2 (Zu (Zc 0) (Zu (Zc 1) Z7))) (λ_=>Z J') Wr) r)) r) (λr=>Zd (ZZ ((En Wf #v[(Zg Ru #v[0,(Zg MN #v[0]) r,2]) r,3]) r)) ∅)
def RJ:=AU 3 4 Ws
def Wt:Az:=λr=>(Zf (#[Bd r 1,Bd r 0].J Zm)).j D.S
def RK:As:=λr=>Zd (Mt 2 ((Zh 1 [3] (λr=>((Zg RF #v[(Za DO (!0) (!3)) r,(Za DO (!1) (!3)) r]) r).J Zn) (Zc 0) (λ_=>Z J') Wt) r) r) ∅
def Wu:As:=λr=>Zd (ZN 2 (Zf ((Z []).J Zm)) r) (λr=>Zd ((ZD (λr=>(ZA (J9 (Bi r 0))).J Zn) (Zc 3) RK) r) (λr=>Zd (ZZ (D3 r 2)) ∅))
def Wv:=AU 2 4 Wu
def Ww:As:=λr=>Zd (Zy ((Za Fa (Zk Zo #v[(Zg Wm #v[0,1,2]) r]) (~~~0)) r)) ∅
def RL:=AU 3 3 Ww
def Wx:Az:=(Zg RH #v[1,2,0])
def Wz:As:=λr=>Zd (ZZ ((Zh 1 [0,1] (λr=>(#[(Zk Zo #v[0]) r].J Zm).J ED) (Zc 0) (λ_=>Z J') Wx) r)) ∅
def ZR:=AU 2 2 Wz
def WA:Az:=λr=>(Zf (#[Bd r 0,(Zg RJ #v[1,2,0]) r].J Zm)).j D.S
def WB:As:=λr=>Zd (Hc ((FV (λr=>ZA ((Zh 1 [0,1] (λr=>(BK r 2).J Zn) (Zc 0) (λ_=>Z J') WA) r))) r)) ∅
def RM:=AU 3 3 WB
def WC:Bc:=λs=>C9 (jT 2 (λr=>CP (ZK ((Zg LA #v[(Bi r 0).J (C7 "Book" "axes"),1]) r))) s) (Zr (.Ρ) ∅) (.Q s)
def WD:Bc:=λs=>C9 (jT 2 (λr=>AI ((Za (DF J') (!1) (λr=>(Bi r 0).J (C7 "Book" "tables"))) r)) s) (Zr (C9 (jT 2 (λr=>AI ((Za NS (Zk MC #v[(Bi r 0).J (C7 "Book" "tables")]) (~~~12)) r)) s) (Zr (.Ρ) ∅) (.Q s)) (λs=>Zr (QK (λs=>Oq "Book" "tables" s (Bq s 0)) ((jE 0 (λr=>Bd r 1)) s) ((jE 1 (Zg RJ #v[(Bi r 0).J (C7 "Book" "axes"),(Bi r 0).J (C7 "Book" "standing"),1])) s) s) ∅)) (.Q s)
def gU:Bc:=λs=>ER (xD ((jE 2 (Zk Zo #v[(Za DO (λr=>(Bi r 0).J (C7 "Book" "tables")) (!1)) r])) s) s)
def zC:Bc:=λs=>.Q s
def WE:=gU <<< zC
def WF:=WD <<< WE
def WG:=WC <<< WF
def O0:Bc:=WG
def RO:=EH 2 2 O0
def Ki:As:=λr=>Zd (ZJ 7 ((Zg Vy #v[6,(Za Am (!1) (!5)) r,(Za Am (!2) (!5)) r,(Za Am (!4) (!5)) r]) r) r) (λr=>Zd (ZF (CP (EC (Bi r 7))) (Zd (Zy ((Zf (#[Bd r 5,(Za Am (!7) (~~~0)) r,(Za Am (!7) (~~~1)) r].J Zm)).j D.S)) ∅) (.Q r)) ∅)
def gW:As:=λr=>ZJ 4 ((Zg ZR #v[0,3]) r) r
def WH:As:=λr=>ZF (AI ((Za (CF O') (λr=>ZA (Zf ((Z []).J Zm))) (!4)) r)) (Zd (Zy (Z .κ)) ∅) (.Q r)
def gX:As:=(ZD (ID (λr=>BK r 0)) (Z8 2 (Zu (Zc 5) (Zu (Zc 6) Z7))) Ki)
def zD:As:=λr=>Zy (Z .κ)
def zE:As:=λr=>.Q r
def gY:=zD >>> zE
def gZ:=gX >>> gY
def O1:=WH >>> gZ
def g5:=gW >>> O1
def WI:As:=g5
def WJ:=AU 4 8 WI
def RP:Az:=(Zg RL #v[0,Z (.o 0),1])
def WK:As:=λr=>Zd (ZF (DA (CP (ZK ((Zk Cy #v[1,Z (.ty "tuple")]) r))) (AI ((Za Cp (Zk Zo #v[1]) (Zk Zo #v[0])) r))) (Zd (Zy (Z (.bl O'))) ∅) (.Q r)) (λr=>Zd (Zy ((Zk DD #v[ZA ((Zh 2 [] (HX (λr=>BK r 0) (λr=>BK r 1)) (Z8 2 (Zu (Zc 0) (Zu (Zc 1) Z7))) (λ_=>Z J') RP) r)]) r)) ∅)
def WL:=AU 2 2 WK
def WM:Az:=(Zg Ra #v[1,(Za Am (!2) (!0)) r,(Za Am (!3) (!0)) r,(Za Am (!4) (!0)) r])
def WN:As:=λr=>Zd (ZJ 4 ((Zg ZR #v[0,3]) r) r) (λr=>Zd (ZZ ((Zh 2 [1,2,4] (ID (λr=>BK r 0)) (Z8 2 (Zu (Zc 0) (Zu (Zc 1) Z7))) (λ_=>Z J') WM) r)) ∅)
def WP:=AU 4 5 WN
def g6:Az:=λr=>ZA ((GH J2 #v[0]) r)
def g8:Bc:=λs=>C9 (jT 2 (λr=>CP (ZK ((Zg V9 #v[1]) r))) s) (Zr (.Ρ) ∅) (.Q s)
def g9:Bc:=λs=>GQ "Book" "axes" (λs=>Bq s 0) (xF .l (jG 1 (Zh 1 [] (λr=>(BK r 1).J Zn) (Zc 0) (λ_=>Z J') g6) s) s) s
def hD:Bc:=λs=>GQ "Book" "standing" (λs=>Bq s 0) (xF .l (jG 2 (λr=>Zf ((Z []).J Zm)) s) s) s
def hE:Bc:=λs=>GQ "Book" "tables" (λs=>Bq s 0) (xC .d (jG 1 (J0 RM #v[(Bi r 0).J (C7 "Book" "axes"),ZA (Zf ((Z []).J Zm)),ZA (Zf (#[(Zg MN #v[(Bi r 0).J (C7 "Book" "axes")]) r].J Zm))]) s) s) s
def hG:Bc:=λs=>.Q s
def hH:=hE <<< hG
def hJ:=hD <<< hH
def hQ:=g9 <<< hJ
def hR:=g8 <<< hQ
def RQ:Bc:=hR
def WQ:=EH 2 2 RQ
def hU:Bc:=λs=>CU 1 (xP (Oq "Book" "tables" s (Bq s 0)) s) s
def hV:Bc:=λs=>GQ "Book" "tables" (λs=>Bq s 0) (xC .d (jG 1 (J0 RM #v[(Bi r 0).J (C7 "Book" "axes"),(Bi r 0).J (C7 "Book" "standing"),ZA ((GH Lm #v[1]) r)]) s) s) s
def hW:Bc:=λs=>ER (xC .l (jG 2 (En Wv #v[1,(Bi r 0).J (C7 "Book" "tables")]) s) s)
def zF:Bc:=λs=>.Q s
def hX:=hW <<< zF
def hY:=hV <<< hX
def hZ:=hU <<< hY
def WR:Bc:=hZ
def WT:=EH 1 2 WR
def WU:As:=λr=>Zd (ZF (DA (CP (ZK ((Zk Cy #v[1,Z (.ty "tuple")]) r))) (AI ((Za Cp (Zk Zo #v[1]) (~~~3)) r))) (Zd (Zy (Z (.bl O'))) ∅) (.Q r)) (λr=>Zd (ZF (EB (AI ((Za Cp (Za Am (!1) (~~~0)) (λ_=>Z (.Ι "+"))) r)) (AI ((Za Cp (Za Am (!1) (~~~0)) (λ_=>Z (.Ι "-"))) r))) (Zd (Zy (Z (.bl O'))) ∅) (.Q r)) (λr=>Zd (Zy (DM (EB (AI ((Zg WL #v[0,(Za Am (!1) (~~~1)) r]) r)) (AI ((Zg Hn #v[(Za Am (!1) (~~~2)) r]) r))))) ∅))
def WV:=AU 2 2 WU
def WW:VE->O j':=λr=>ZK ((Zg MO #v[2,0]) r)
def h5:Az:=λr=>(Zf (#[Bd r 0,Bd r 1].J Zm)).j D.S
def WX:As:=λr=>Zd (ZJ 4 ((Zg WP #v[0,2,(Zg U1 #v[0]) r,3]) r) r) (λr=>Zd (ZZ ((Zh 2 [4] (λr=>(BK r 1).J Zn) (Z8 2 (Zu (Zc 0) (Zu (Zc 1) Z7))) WW h5) r)) ∅)
def WY:=AU 4 5 WX
def RS:Bc:=λs=>Zr (C9 (jT 2 (λr=>CP (ZK ((Zg WV #v[0,4]) r))) s) (Zr (.Ρ) ∅) (.Q s)) (λs=>Zr (C9 (jT 2 (λr=>AI ((Za Co (Za Am (!4) (~~~0)) (λ_=>Z (.Ι "+"))) r)) s) (Zr (DY (Gg UG (Zi ((Bq s 3).j .Y) (Zi (((jE 2 (λr=>(Zf (#[(Za Am (!4) (~~~1)) r,(Za Am (!4) (~~~2)) r].J Zm)).j D.S)) s).j .r) (Z []))) s) s) ∅) (Zr (DY (Gg UI (Zi ((Bq s 3).j .Y) (Zi (((jE 2 (λr=>(Zf (#[(Za Am (!4) (~~~1)) r,(Za Am (!4) (~~~2)) r].J Zm)).j D.S)) s).j .r) (Z []))) s) s) ∅)) ∅)
def h6:Bc:=λs=>CU 3 (xC .l (jG 2 (GH J2 #v[1]) s) s) s
def h7:Bc:=λs=>Js 4 RS (((jE 0 (λr=>Bd r 2)) s).J MD) s
def h8:Bc:=λs=>ER (xF .l (jG 2 (Ll RE (!3)) s) s)
def zG:Bc:=λs=>.Q s
def h9:=h8 <<< zG
def ie:=h7 <<< h9
def ig:=h6 <<< ie
def WZ:Bc:=ig
def W0:=EH 3 5 WZ
def W3:As:=λr=>Zd (Zy ((Zk Zo #v[(Zg WY #v[0,1,2,3]) r]) r)) ∅
def W4:=AU 4 4 W3
def W5:Bc:=λs=>Zr (GQ "Book" "standing" (λs=>Bq s 0) (Gg W0 (Zi (((jE 1 (λr=>(Bi r 0).J (C7 "Book" "axes"))) s).j .r) (Zi (((jE 1 (λr=>(Bi r 0).J (C7 "Book" "standing"))) s).j .r) (Zi (((jE 0 (λr=>Bd r 1)) s).j .r) (Z [])))) s) s) (λs=>Zr (ER (DZ "Book" "tables_renewed" WT (Bq s 0) (Z []) s)) ∅)
def LB:=EH 2 2 W5
def Kj:Bc:=λs=>Zr (C9 (jT 2 (λr=>EC ((Zg WJ #v[(Bi r 0).J (C7 "Book" "axes"),4,1,2]) r)) s) (Zr (CU 5 (xD ((jE 2 (Zg W4 #v[(Bi r 0).J (C7 "Book" "axes"),(Za DO (λr=>(Bi r 0).J (C7 "Book" "tables")) (!4)) r,4,2])) s) s) s) (λs=>Zr (C9 (jT 2 (λr=>DA (EC (Bi r 3)) (AI ((Za E2 (!5) (Za Am (!3) (~~~1))) r))) s) (Zr (CU 3 (xD ((jE 2 (λr=>(Zf (#[Bd r 4,Bd r 5].J Zm)).j D.S)) s) s) s) ∅) (.Q s)) ∅)) (.Q s)) ∅
def ii:Bc:=λs=>C9 (jT 2 (λr=>CP (ZK ((Zg LA #v[(Bi r 0).J (C7 "Book" "axes"),1]) r))) s) (Zr (.Ρ) ∅) (.Q s)
def ij:Bc:=λs=>C9 (jT 2 (λr=>CP (ZK ((Zg OR #v[(Bi r 0).J (C7 "Book" "axes"),2]) r))) s) (Zr (.Ρ) ∅) (.Q s)
def ik:Bc:=λs=>CU 3 (xD ((jE 2 (λ_=>Z .κ)) s) s) s
def im:Bc:=λs=>Js 4 Kj (((jE 1 (λr=>(HU "Book" "kept" UK (Df r 0) (Z [])).j Em)) s).J MD) s
def io:Bc:=λs=>ER (xD ((jE 0 (λr=>Bd r 3)) s) s)
def zH:Bc:=λs=>.Q s
def ip:=io <<< zH
def iq:=im <<< ip
def ir:=ik <<< iq
def iu:=ij <<< ir
def iv:=ii <<< iu
def W6:Bc:=iv
def M0:=EH 3 6 W6
def Z6:Bc:=λs=>Zr (C9 (jT 2 (λr=>ZK ((Zk Cy #v[9,Z (.ty "list")]) r)) s) (Zr (CU 9 (xC .l (jG 2 (GH J2 #v[9]) s) s) s) ∅) (.Q s)) (λs=>Zr (DY (Ke (Bq s 6) (Lv (Zi (Lw s 7) (Zi (Lw s 8) (Zi (Lw s 9) (Z [])))) s) s) s) ∅)
def iw:Az:=λr=>DM (DA (AI (DM (CP (AI ((Zk Cy #v[0,Z (.ty "int")]) r))))) (AI ((Zk Cy #v[0,Z (.ty "bool")]) r)))
def M1:Bc:=λs=>Zr (C9 (jT 2 (λr=>ZK ((Zk Cy #v[9,Z (.ty "list")]) r)) s) (Zr (DY (Hl (Bq s 9) ((jE 2 (Zg IF #v[(Za Am (Za Am (!1) (!7)) (~~~0)) r,8])) s) s) s) ∅) (.Q s)) ∅
def ix:Bc:=λs=>CU 6 (xC .l (jG 2 (λr=>Zf ((Z []).J Zm)) s) s) s
def iy:Bc:=λs=>Jt 7 8 9 Z6 (Bq s 5) s
def iz:Bc:=λs=>CU 10 (DZ "Book" "plan" M0 (Bq s 0) (Zi (((jE 0 (λr=>Bd r 4)) s).j .r) (Zi ((Bq s 6).j .Y) (Z []))) s) s
def iA:Bc:=λs=>C9 (jT 2 (λr=>AI ((Za Cp (!6) (!5)) r)) s) (Zr (ER (xD ((jE 2 (λ_=>Z (.bl O'))) s) s)) ∅) (.Q s)
def iB:Bc:=λs=>C9 (jT 2 (λr=>DA (CP (ZK ((Zk Cy #v[10,Z (.ty "tuple")]) r))) (DA (AI ((Za Cp (Zk Zo #v[10]) (~~~2)) r)) (CP (ZK ((Zk Cy #v[(Za Am (!10) (~~~0)) r,Z (.ty "tuple")]) r))))) s) (Zr (ER (xD ((jE 2 (λ_=>Z (.bl O'))) s) s)) ∅) (.Q s)
def iC:Bc:=λs=>C9 (jT 2 (λr=>ZK ((Zk La #v[ZA ((Zh 1 [] (λr=>((Za Zt (Za Am (!10) (~~~0)) (E1 (!10) (λr=>EZ (Z (.o 1))) (λ_=>Z J) Fz)) r).J Zn) (Zc 0) (λ_=>Z J') iw) r)]) r)) s) (Zr (ER (xD ((jE 2 (λ_=>Z (.bl O'))) s) s)) ∅) (.Q s)
def iD:Bc:=λs=>C9 (jT 2 (λr=>AI ((Za Cp (!10) (Zg MZ #v[1,2,3,(Zg OL #v[1,5]) r,4])) r)) s) (Zr (ER (xD ((jE 2 (λ_=>Z (.bl O'))) s) s)) ∅) (.Q s)
def iE:Bc:=λs=>Jt 7 8 9 M1 (Bq s 6) s
def iF:Bc:=λs=>DY (Ke (Bq s 6) (xD ((jE 1 (λr=>(Zf (#[Z (.o 0),Z (.o 0),ZA (Zf (#[(Za Am (Za Am (Za Am (!1) (~~~0)) (λr=>K8 (Z (.o 1)))) (~~~0)) r].J Zm))].J Zm)).j D.S)) s) s) s) s
def iG:Bc:=λs=>ER (Lu Co (DZ "Book" "plan" M0 (Bq s 0) (Zi (((jE 0 (λr=>Bd r 4)) s).j .r) (Zi ((Bq s 6).j .Y) (Z []))) s) (jE 2 (Zg MZ #v[1,2,3,(Zg OL #v[1,6]) r,4])) s)
def zI:Bc:=λs=>.Q s
def W7:=iG <<< zI
def W8:=iF <<< W7
def O2:=iE <<< W8
def W9:=iD <<< O2
def Xa:=iC <<< W9
def Xb:=iB <<< Xa
def Xc:=iA <<< Xb
def Xd:=iz <<< Xc
def Xe:=iy <<< Xd
def Xf:=ix <<< Xe
def RU:Bc:=Xf
def LC:=EH 6 11 RU
def iH:Az:=λr=>ZA ((GH J2 #v[0]) r)
def iI:Az:=(~~~0)
def M2:Bc:=λs=>Zr (CU 5 (xD ((jE 2 (Zg MR #v[1,(Za Zt (Za EE (Zg ZT #v[0,Z (.o 5)]) (~~~6)) (Za DV (~~~3) (!4))) r])) s) s) s) (λs=>Zr (DY (DZ "Book" "keep" RO (Bq s 2) (Zi (((jE 0 (λr=>Bd r 5)) s).j .r) (Z [])) s) s) (λs=>Zr (C9 (jT 2 (λr=>AI ((Za (CF J') (!5) (!3)) r)) s) (Zr (DY (Hl (Bq s 3) ((jE 0 (λr=>Bd r 5)) s) s) s) ∅) (.Q s)) ∅))
def Xg:Az:=(Zg OH #v[1,0])
def Xh:Az:=(Za Zt (λr=>(Zf (#[Z (.Ι "+")].J Zm)).j D.S) (!0))
def RV:Bc:=λs=>Zr (CU 8 (xD ((jE 2 (Za Zt (Za EE (Zg ZT #v[0,(Za Zt (~~~6) (!4)) r]) (~~~7)) (!4))) s) s) s) (λs=>Zr (CU 9 (xC .l (jG 1 (En Rl #v[1,8]) s) s) s) (λs=>Zr (CU 5 (xD ((jE 2 (Zg MR #v[1,(Za Zt (Za EE (!8) (~~~5)) (!4)) r])) s) s) s) (λs=>Zr (C9 (jT 2 (λr=>EB (AI ((Za Co (Za ZI (!8) (~~~3)) (~~~0)) r)) (AI ((Za Cp (!9) (λr=>ZA (Zf ((Z []).J Zm)))) r))) s) (Zr (CU 5 (xD ((jE 2 (Za Am (!3) (Za ZI (Za EE (!8) (~~~3)) (Zk Zo #v[3])))) s) s) s) ∅) (.Q s)) (λs=>Zr (Ka (Gg LC (Zi ((Bq s 2).j .Y) (Zi ((Bq s 1).j .Y) (Zi ((Bq s 7).j .Y) (Zi ((Bq s 3).j .Y) (Zi (((jE 0 (λr=>Bd r 5)) s).j .r) (Zi ((Bq s 9).j .Y) (Z []))))))) s) (λs=>Zr (ER (xD ((jE 2 (λ_=>Z (.bl O'))) s) s)) ∅) ∅ s) (λs=>Zr (CU 10 (xD ((jE 2 (Zg OH #v[1,(Za EE (!8) (~~~11)) r])) s) s) s) (λs=>Zr (C9 (jT 2 (λr=>AI ((Za Co (Za ZI (Za EE (!8) (~~~2)) (~~~2)) (~~~1)) r)) s) (Zr (ML 11 12 10 (Gg Q3 (Zi ((Bq s 1).j .Y) (Zi (((jE 0 (Zg ZP #v[8,Z (.o 4)])) s).j .r) (Z []))) s) s) (λs=>Zr (DY (DZ "Book" "grow" OU (Bq s 2) (Zi (((jE 0 (λr=>Bd r 11)) s).j .r) (Zi (((jE 0 (λr=>Bd r 12)) s).j .r) (Z []))) s) s) (λs=>Zr (Ka (Gg LC (Zi ((Bq s 2).j .Y) (Zi ((Bq s 1).j .Y) (Zi ((Bq s 7).j .Y) (Zi ((Bq s 3).j .Y) (Zi (((jE 0 (λr=>Bd r 5)) s).j .r) (Zi ((Bq s 9).j .Y) (Z []))))))) s) (λs=>Zr (ER (xD ((jE 2 (λ_=>Z (.bl O'))) s) s)) ∅) ∅ s) ∅))) (.Q s)) (λs=>Zr (DY (DZ "Book" "pour" LB (Bq s 2) (Zi (((jE 1 (λr=>ZA (Zf (#[(Za Zt (λr=>(Zf (#[Z (.Ι "+")].J Zm)).j D.S) (!10)) r].J Zm)))) s).j .r) (Z [])) s) s) (λs=>Zr (DY (Hl (Bq s 7) ((jE 0 (λr=>Bd r 10)) s) s) s) (λs=>Zr (Ka (Gg LC (Zi ((Bq s 2).j .Y) (Zi ((Bq s 1).j .Y) (Zi ((Bq s 7).j .Y) (Zi ((Bq s 3).j .Y) (Zi (((jE 0 (λr=>Bd r 5)) s).j .r) (Zi ((Bq s 9).j .Y) (Z []))))))) s) (λs=>Zr (ER (xD ((jE 2 (λ_=>Z (.bl O'))) s) s)) ∅) ∅ s) (λs=>Zr (C9 (jT 2 (λr=>EB (AI ((Za Fa (Zk Zo #v[3]) (~~~1)) r)) (AI ((Za Co (Za ZI (Za EE (!8) (~~~4)) (~~~2)) (~~~1)) r))) s) (Zr (DY (MM "Book" "forget" OS (Bq s 2) (OA (Bq s 3) s) s) s) (λs=>Zr (Ka (Gg LC (Zi ((Bq s 2).j .Y) (Zi ((Bq s 1).j .Y) (Zi ((Bq s 7).j .Y) (Zi ((Bq s 3).j .Y) (Zi (((jE 0 (λr=>Bd r 5)) s).j .r) (Zi ((Bq s 9).j .Y) (Z []))))))) s) (λs=>Zr (ER (xD ((jE 2 (λ_=>Z (.bl O'))) s) s)) ∅) ∅ s) ∅)) (.Q s)) ∅))))))))))
def iJ:Bc:=λs=>CU 1 (xC .l (jG 1 (En OO #v[0]) s) s) s
def iK:Bc:=λs=>CU 2 (QI "Book" WQ (Zi (((jE 1 (λr=>ZA ((Zh 1 [] (λr=>(BK r 1).J Zn) (Zc 0) (λ_=>Z J') iH) r))) s).j .r) (Z [])) s) s
def iL:Bc:=λs=>CU 3 (xC .l (jG 2 (λr=>Zf (#[(Zk DC #v[ZA ((Zh 1 [] (λr=>(BK r 1).J Zn) (Zc 0) (λ_=>Z J') iI) r)]) r].J Zm)) s) s) s
def iM:Bc:=λs=>Js 4 M2 (((jE 2 (Za Zt (~~~1) (Za ZI (Zg ZT #v[0,Z (.o 5)]) (~~~6)))) s).J MF) s
def iN:Bc:=λs=>CU 6 (xD ((jE 0 (Za Zt (E1 (!0) (λr=>EZ (Z (.o 9))) (λr=>EZ (Z (.o 33))) Fz) (Zg ZP #v[(Zg ZT #v[0,Z (.o 6)]) r,(Za ZI (Zg ZT #v[0,Z (.o 6)]) (~~~7)) r]))) s) s) s
def iO:Bc:=λs=>CU 7 (xC .l (jG 2 (Zh 1 [1] (λr=>(BK r 6).J Zn) (Zc 0) (λ_=>Z J') Xg) s) s) s
def iP:Bc:=λs=>DY (DZ "Book" "pour" LB (Bq s 2) (Zi (((jE 1 (λr=>ZA ((Zh 1 [] (λr=>(BK r 7).J Zn) (Zc 0) (λ_=>Z J') Xh) r))) s).j .r) (Z [])) s) s
def iQ:Bc:=λs=>Js 4 RV (((jE 2 (~~~3)) s).J MF) s
def iR:Bc:=λs=>ER (xD ((jE 2 (λ_=>Z (.bl J'))) s) s)
def zJ:Bc:=λs=>.Q s
def iS:=iR <<< zJ
def iT:=iQ <<< iS
def iU:=iP <<< iT
def iV:=iO <<< iU
def iW:=iN <<< iV
def iX:=iM <<< iW
def iY:=iL <<< iX
def iZ:=iK <<< iY
def i3:=iJ <<< iZ
def Xi:Bc:=i3
def i4:=EH 1 13 Xi
def
zK(m:Y)(G:Gh)(d:D):C8 m G (.r d)=.r d:=rfl
def
zL(m:Y)(G:Gh):C8 m G .no=.no:=rfl
def
zM(i:W'):B4 2 (.o i)=J':=rfl
def
Xj(x:D):Zf (Z [x])=Z [x]:=rfl
def
zN(x y:D):Zf (Z [x,y])=Z [x,y]:=rfl
def
zO(x y z:D):Zf (Z [x,y,z])=Z [x,y,z]:=rfl
def
zP(i:W'):K8 (Z (.o i))=Z (.o (-i)):=rfl
def
LF(x y:W'):Zt (.o x) (.o y)=Z (.o (x+y)):=rfl
def
i5(x y:W'):K7 (.o x) (.o y)=Z (.o (x-y)):=rfl
def
zQ:Co (.o 0) (.o 0)=Z (.bl J'):=rfl
def
zR:Co (.o 0) (.o 1)=Z (.bl O'):=rfl
def
zS:Co (.o 1) (.o 0)=Z (.bl O'):=rfl
def
zT:Co (.o 1) (.o 1)=Z (.bl J'):=rfl
end
section
local macro_rules | `(#v[$x])=>`(.val (.lst $x))
local macro_rules | `(‹$x›)=>`(.val (.int $x))
local macro_rules | `(tactic|rwa[$[$t:term],*] $[$l]?)=>do let c:Array Lean.Term:=("Internal.yn Internal.yo Internal.yp Internal.yq Internal.yr Internal.yt Internal.yu Internal.yv Internal.yw Internal.yx Internal.yy Internal.yz Internal.yA Internal.yB Internal.yC Internal.yD Internal.yE Internal.yF Internal.yG Internal.yH Internal.yI Internal.yJ Internal.yK Internal.yL Internal.yM Internal.yN Internal.yO Internal.yP Internal.yQ Internal.yR Internal.yS Internal.yT Internal.yU Internal.yV Internal.yW Internal.yX Internal.yY Internal.yZ Internal.y0 Internal.y1 Internal.y3 Internal.y6 Internal.y7 Internal.za Internal.zb Internal.zc Internal.zd Internal.ze Internal.zf Internal.zh Internal.zi Internal.zj Internal.zk Internal.zm Internal.zn if_true Internal.Za Internal.Zg Internal.UB Internal.jE Ct Internal.jT Internal.HK Internal.pk Internal.jO Internal.Zk Internal.ZA Ja Bool.not_true HZ Internal.Zn Bool.not_false decide_true Internal.Zc Internal.Zm Internal.K57.zK Internal.K57.zL Internal.MG Internal.K57.zM Internal.K57.Xj Internal.K57.zN Internal.K57.zO Internal.K57.zP Internal.K57.LF Internal.K57.i5 Internal.K57.zQ Internal.K57.zR Internal.K57.zS Internal.K57.zT".splitOn " ").toArray.map λs=>⟨Lean.mkIdent s.toName⟩;`(tactic|simp only[$[$c:term],*,$[$t:term],*] $[$l]?)
abbrev AB:=U (U (U At))
abbrev Bj:=U (U At)
def
M4(s:Sl)(ns:U W')(a:s=#v[ns.j D.o]\/s=.ϵ (ns.j D.o))(k:W')(b:0<=k):ZT [s,‹k›]=Z ‹ns.B k.ν 0›:=by
 by_cases h:k<ns.a
 .rcases a with rfl|rfl<;>simp[ZT,AU,UM,h,atI,Ek,b]
 .rcases a with rfl|rfl<;>simp[ZT,AU,UM,h,show ns.length<=k.toNat by lia]
def B5:Ae:="abcdefghijklmnopqrstuvwxyz"
def Gn:Ae:="0123456789"
def signs:Ae:="abcdefghijklmnopqrstuvwxyz0123456789"
def
i6:signs.a=36:=by symm
def FG:D->j'
 |.int _=>J'
 |_=>O'
def Kk(c:Y):j':=decide (c∈B5.Ϩ.α)||decide (c∈Gn.Ϩ.α)
def LH:U Y->j'
 |[]=>O'
 |c::r=>decide (c∈B5.Ϩ.α)&&(c::r).Ϛ Kk&&decide ((c::r).a<=12)
def B3:D->j'
 |.str z=>LH z.Ϩ.α
 |_=>O'
def Sm:D->V'
 |.str z=>z.a<=100
 |.ty _=>False
 |.lst _ .d=>False
 |.lst _ (.i _ _)=>False
 |_=>True
def
RW(d:D)(h:Sm d):Hn [.r d]=Z (.r (.bl (FG d))):=by
 cases d with
 |lst a b=>cases b with
  |d=>show h.Δ
  |i _ _=>show h.Δ
  |l=>simp[Hn,AU,QQ,FG]
 |ty n=>show h.Δ
 |_=>simp[Hn,AU,QQ,FG]
def
zU(c:Y):QR [.r (.Ι #[(T' [c])])]=Z (.bl (Kk c)):=by
 rwa[QR,UA];cases h:decide (c∈B5.Ϩ.α)<;>simp[Kk,B5,Gn]at h ⊢<;>simp[h]
def
zV(L:U Y):Z4 (Zc 0) (λ_=>Z J') QR [.no] (L.j λc=>D.Ι #[(T' [c])])=Z ((L.j Kk).j D.bl):=by
 rw[Zw (λc=>D.Ι #[(T' [c])]) (λc=>D.bl<|Kk c) L λc _=>#[[.r<|.Ι ⟨(T' [c])⟩],rfl,zU c]];simp
def
zW(d:D)(h:Sm d):Ju [.r d]=Z (.r (.bl (B3 d))):=by
 cases d with
 |str z=>
  obtain⟨⟨L⟩⟩:=z;let a:L.a<=Av:=BN h (by ext);let hc:=zV L;cases L with|nil=>simp[Ju,AU,Lx,B3,LH,Str.length]|cons c r=>
   erw[Ct]at h a;let f:¬ ((r.a:W')+1<1):=of_decide_eq_false rfl;by_cases e:r.a+1<=12
   .let g:¬ ((12:W')<(r.a:W')+1):=∅
    by_cases j:c∈(JP "abcdefghijklmnopqrstuvwxyz").Ϩ
    .simp[Ju,AU,Lx,B3,LH,Str.length,a,f,g,-CF,UA,atI,Ek,hc,-AQ,-B7,j,Nat.le_of_lt_succ e,B5]
    .simp[Ju,AU,Lx,B3,LH,Str.length,a,f,g,-CF,UA,atI,Ek,j,Nat.le_of_lt_succ e,B5]
   .simp[Ju,AU,Lx,B3,LH,Str.length,a,f,show(12:W')<(r.length:W')+1 by lia,show ¬ r.length<=11 by lia]
 |ty n=>show h.Δ
 |lst k b=>cases b with
  |d=>show h.Δ
  |i _ _=>show h.Δ
  |l=>simp[Ju,AU,Lx,B3]
 |_=>simp[Ju,AU,Lx,B3]
def
Xk(d:D)(h:Sm d):MP [.r d]=Z (.r (.bl (FG d||B3 d))):=by
 let a:=RW d h;cases b:FG d<;>simp[b]at a ⊢<;>simp[MP,AU,eX,a,zW d h]
def Jw(d:D):j':=FG d||B3 d
def Af(l:U At):D:=.S (l.j aD)
def
IG(a:At):Dw (aD a)=Z (.at a):=N8<|.at a
def
LJ:∀(a b:At),Bl (aD a) (aD b)=decide (a=b):=by
 intro a b;ext a<;>ext b<;>simp[aD]
def
Xl:∀(a b:U At),Dq (a.j aD) (b.j aD)=decide (a=b)
 |[],[]=>by simp
 |[],_::_=>by simp
 |_::_,[]=>by simp
 |x::a,y::b=>by
  simp[LJ,Xl a b]
def
Ho(n:Y)(a:At):AZ n (aD a)=J':=by ext a<;>ext n<;>rfl
def
O3(n:Y)(l:U At):AZ (n+1) (Af l)=J':=by
 show(l.j aD).Ϛ (AZ n)=J'
 rw[Jg,Dr];show λa _=>Ho n a
def
i7(a b:U At):Cp (Af a) (Af b)=Z (.bl (!decide (a=b))):=by
 let c:=O3 11 a;let d:=O3 11 b;simp_all [Af,Xl]
def hd(l:U At):At:=l.headD .κ
def
Ti(x:Ae):x.a=x.Ϩ.α.a:=rfl
def
zX{b:Type}{f:Y->b}{m:Y}(h:((AW m).j f).θ){j k:Y}(c:j<m)(d:k<m)(e:f j=f k):j=k:=by
 rcases Nat.lt_trichotomy j k with a|a|a
 .show absurd e (cf.mp h j k (by simpa) (by simpa) a |> λz=>by exists z)
 .show a
 .show absurd e.Ζ (cf.mp h k j (by simpa) (by simpa) a |> λz=>by exists z)
def GW(W:U Y):V':=(∃c r,W=c::r/\c∈B5.Ϩ.α)/\W.Ϛ Kk=J'
def
GW.word{W:U Y}(h:GW W)(a:W.a<=12):LH W=J':=by
 let((c,r,rfl,hc),b):=h;grind [LH]
def
zY{z:Ae}(h:GW z.Ϩ.α)(a:z.Ϩ.α.a<=12):Jw (aD (.Ι z))=J'/\Sm (aD (.Ι z)):=by
 apply#[?_,?_]
 .show(FG (.Ι z)||B3 (.Ι z))=J'
  erw[FG,B3,h.word a,Bool.or_true]
 .change z.a<=100
  rw[Ti];lia
def
GR(x k:W')(a:0<k)(b:k<1000000000):EE (.o x) (.o k)=Z (.o (x/k)):=by
 show(if Nx x k then Z (D.o<|x/k)else J)=_
 rw[if_pos #[a,∅]]
def
Z2(x k:W')(a:0<k):ZI (.o x) (.o k)=Z (.o (x%k)):=by
 simp_all
def
GS{x y:W'}(h:Ez x y):DV (.o x) (.o y)=Z (.o (x*y)):=by show(if Ez x y then Z (D.o<|x*y)else J)=_;rw[if_pos h]
def
GU(a b:W'):Co (.o a) (.o b)=Z (.bl (decide (a=b))):=rfl
def GV(x:W')(k:Y):W':=(x*45742+x/46949+29*(k:W')+11)%2147483647
def
zZ(x:W')(k:Y):0<=GV x k/8:=by grind [GV]
def H9(x:W')(k:Y):Y->U W'
 |0=>[]
 |n+1=>(GV x k/8)::H9 (GV x k) (k+1) n
def
i8:∀(n k:Y)(x:W'),(H9 x k n).a=n
 |0,_,_=>rfl
 |n+1,k,x=>by simp[H9,i8 n]
def
i9:∀(n k:Y)(x:W'),∀y∈H9 x k n,0<=y
 |0,_,_,y,h=>by cases h
 |n+1,k,x,y,h=>by
  erw[H9,Bw]at h;rcases h with rfl|h
  .show zZ x k
  .show i9 n _ _ y h
def
z6(s0 s1:Sl)(k:Y)(x:W')(acc:U W')(hz:acc.a<Av):QU [s0,s1,‹x›,.φ (acc.j D.o),‹k›]=.Q [s0,s1,‹GV x k›,.φ ((acc++[GV x k/8]).j D.o),‹k›]:=by
 let a:=GS (x:=x) (y:=45742) (by right;decide);let b:=GS (x:=29) (y:=(k:W')) (by left;decide);unfold GV;rwa[QU,a,GR x 46949 (by ext) (by ext),b,Z2 (x*45742+x/46949+29*(k:W')+11) 2147483647 (by ext),GR ((x*45742+x/46949+29*(k:W')+11)%2147483647) 8 (by ext) (by ext),Eo,D3,Bx,if_pos hz,Er]
def
ja(s0 s1:Sl):∀(n k:Y)(x:W')(acc:U W')(s4:Sl),acc.a+n<100000->∃b a,ZB (Zc 4) QU ((FZ k n).j λ(k:Y)=>D.o k) [s0,s1,‹x›,.φ (acc.j D.o),s4]=.Q [s0,s1,‹b›,.φ ((acc++H9 x k n).j D.o),a]
 |0,k,x,acc,s4,_=>#[x,s4,by simp[ZB,H9]]
 |n+1,k,x,acc,s4,h=>by
  let(b,a,e):=ja s0 s1 n (k+1) (GV x k) (acc++[GV x k/8]) (.r<|.o k) (by simp;lia);let hz:acc.a<Av:=BM (show acc.a<100000 by lia) (by ext);apply#[b,a,?_];rw[LK,AQ];rwa[ZB];rw[z6 s0 s1 k x acc hz];erw[H9];rw[show acc++(GV x k/8)::H9 (GV x k) (k+1) n=acc++[GV x k/8]++H9 (GV x k) (k+1) n by simp];show e
def
M5(c:W')(n:Y)(h:n<=100):∃ws:U W',ZP [‹c›,‹n›]=Z #v[ws.j D.o]/\ws.a=n/\∀y∈ws,0<=y:=by
 let b:ED [.o<|(n:W')+2]=Z ((FZ 0<|n+2).map λ(k:Y)=>D.o k):=by
  have:=Hm (n+2) ∅;rw[LM]at this;show this
 let(i,d,e):=ja ‹c› ‹n› (n+2) 0 (c%2147483549+17) [] .no (by simp;lia);let f:=i8 (n+2) 0<|c%2147483549+17;let a:=i9 (n+2) 0<|c%2147483549+17;erw[EJ,Do]at e;generalize H9 (c%2147483549+17) 0 (n+2)=W at *;show#[W.drop 2,by simp[ZP,AU,ef,ed,d9,d8,d7,dY,dZ,d4,d6,b,e,show Fc (W.map D.int) (Z 2) J=(W.drop 2).map D.int by rw[xG,Uz _ _<|RX 2];rfl],by simp[f],λy g=>a y<|List.mem_of_mem_drop g]
def
Zvg(c:W'):∃ws:U W',ZP [‹c›,‹40›]=Z #v[ws.j D.o]/\ws.a=40/\∀y∈ws,0<=y:=M5 c 40 (by ext)
def
Hq{xs:U W'}{i:W'}(a:0<=i)(b:i<xs.a):atI (xs.j D.o) i=Z (.o (xs.B i.ν 0)):=by
 rw[show i=((i.ν:Y):W') by show Int.eq_natCast_toNat.Ϣ a];let h:i.ν<xs.a:=(Int.toNat_lt a).Ϣ b;show ZE (by rw[CW,Jn,BZ h];simp[C6,h])
def
Xm{g f:Type}{b:D->VE->O VE}{e:Az}{ρ:VE}(G:g->D)(W:f->D)(P:f->V'):∀(xs:U g),(∀x∈xs,∃c a,P c/\b (G x) ρ=Z a/\e a=Z (W c))->∃cs:U f,Z4 b (λ_=>Z J') e ρ (xs.j G)=Z (cs.j W)/\cs.a=xs.a/\∀c∈cs,P c
 |[],_=>#[[],rfl,rfl,λ_ h=>nomatch h]
 |x::xs,h=>by
  let(c,a,hp,i,j):=h x Bb;let(cs,k,l,n):=Xm G W P xs λy m=>h y<|Bk _ m;apply⟨c::cs,?_,by simp[l],λd hd=>?_⟩
  .rwa[Z4,i,j,k]
  .grind [hd]
abbrev cS(c:Y):D:=.Ι #[(T' [c])]
def
ZyA:∀cs:U Y,(Txt.join "" (cs.j λc=>(#[(T' [c])]:Ae))).Ϩ.α=cs:=by
 intro cs;show(Builtin.Str.glued ""<|cs.map λc=>(#[(T' [c])]:Ae)).Ϩ.α=cs
 rw[StrLaws.glued_eq_join];induction cs with|nil=>rfl|cons c cs a=>
  cases cs with|nil=>rfl|cons d cs=>
   show((#[(T' [c])]:Ae)++("":Ae)++Str.join "" ((d::cs).j λc=>(#[(T' [c])]:Ae))).Ϩ.α=_
   let e:∀(x y:Ae),(x++y).Ϩ.α=x.Ϩ.α++y.Ϩ.α:=λx y=>by
    show(x.Ϩ++y.Ϩ).α=_
    simp
   let b:("":Ae).Ϩ.α=[]:=by symm
   simp_all
structure jc(f:Y->At):V' where
 inj:∀j k,j<6->k<6->f j=f k->j=k
 val:∀k,k<6->Jw (aD (f k))=J'
 sm:∀k,k<6->Sm (aD (f k))
 lt:∀k i,k<6->f k=.o i -> -10^40<i/\i<10^40
def
jd{x y:W'}(h:KG x y):HN (.o x) (.o y)=Z (.o (x^y.ν)):=by show(if KG x y then Z (D.o<|x^y.ν)else J)=_;rw[if_pos h]
def
nm0(c:W')(k:Y):Kf [‹c›,‹0›,‹k›]=Z ‹(c%10^30-5*10^29+(k:W'))›:=by
 rfl
def sg(i:Y):Y:=signs.Ϩ.α.B i 0
def
ZGb:((AW 36).j sg).θ:=by symm
def
je:∀i∈AW 26,sg i∈B5.Ϩ.α:=by symm
def
Xn:∀i∈AW 36,Kk (sg i)=J':=by symm
def
jf(i:Y)(h:i<36):Am (.Ι "abcdefghijklmnopqrstuvwxyz0123456789") (.o i)=Z (cS (sg i)):=by
 let hc:signs.Ϩ.α.a=36:=by rw[<- Ti];show i6
 show(if signs.a<=Av then(atI signs.Ϩ.α (i:W')).j λc=>D.Ι #[(T' [c])]else J)=_
 rw[if_pos (show signs.a<=Av by rw[i6];decide),ZE<|BZ ∅];simp[sg,C6,hc,h]
def md(j:Y):W':=if j=0 then 26 else 36
def
jg(j:Y):Am (.R [.o 36,.o 26]) (.o (if decide ((j:W')=0)=J' then 1 else 0))=Z (.o (md j)):=by
 unfold md;by_cases h:j=0
 .subst h;rfl
 .erw[h,Int.ofNat_ne_zero.mpr h,decide_false,if_false];rfl
def
RY(j:Y):0<md j/\md j<=36:=by unfold md;split<;>decide
def Gp(x:W')(j:Y):Y:=(x%md j).ν
def
LN(x:W')(j:Y):Gp x j<36:=by
 have:=RY j;unfold Gp;let a:=Hr x this.1;grind
def
jh(x:W'):Gp x 0<26:=by grind [Gp,md]
def
RZ(x:W')(j:Y):x%md j=(Gp x j:W'):=by
 have:=RY j;let a:=FH x (show md j≠0 by lia);unfold Gp;lia
def
ZBD(x:W')(j:Y){a b:Y}(d:a<6)(f:b<6)(e:Gp (x+5*(a:W')) j=Gp (x+5*(b:W')) j):a=b:=by
 let c:(x+5*(a:W'))%md j=(x+5*(b:W'))%md j:=by rw[RZ,RZ,e]
 unfold md at c;split at c<;>lia
def
ZDE(c:W')(j:Y)(b:j<1000):QV [‹j›,.r (.Ι "abcdefghijklmnopqrstuvwxyz0123456789"),‹c›]=Z (cS (sg (Gp (c/((j:W')+2)+4*(j:W')) j))):=by
 let a:=GS (x:=4) (y:=(j:W')) (by left;decide);erw[QV,Za,Bi,Gd,Hs,DB,LF,GR c ((j:W')+2) (Int.sign_eq_one_iff_pos.mp rfl) ∅,a,GU,DN,Ec,Zi,Zk,HK,pk,Internal.intD,Zm,Zf,if_pos (show([D.int 36,.int 26]:U D).length<=Av by ext),ZA,jg j,Z2 (c/((j:W')+2)+4*(j:W')) (md j) (RY j).1];rw[RZ,jf _<|LN (c/((j:W')+2)+4*(j:W')) j]
def wB(c:W')(n:Y):U Y:=(AW n).j λ(j:Y)=>sg (Gp (c/((j:W')+2)+4*(j:W')) j)
def wK(c:W')(n a:Y)(k:Y):U Y:=(wB c n).ξ a (sg (Gp (c/((a:W')+2)+4*(a:W')+5*(k:W')) a))
def wS(L:U Y):Ae:=Txt.join "" (L.j λc=>(#[(T' [c])]:Ae))
def
R7(L:U Y):(wS L).Ϩ.α=L:=ZyA L
def
Sa(c:W')(n:Y):(wB c n).a=n:=by simp[wB]
def
ZGf(c:W')(n:Y):∀x∈wB c n,Kk x=J':=by
 intro x a;let(j,b,rfl):=Be.mp a;show Xn _<|DS.Ϣ<|LN _ _
def
ZA4(c:W')(n:Y)(h:0<n):∃x r,wB c n=x::r/\x∈B5.Ϩ.α:=by
 obtain⟨m,rfl⟩:∃m,n=m+1:=#[n-1,by show(Nat.sub_eq_iff_eq_add h).mp rfl];show#[_,_,by rw[wB,Qd,AQ],je _<|DS.Ϣ<|jh _]
def
ZAD(c:W')(n a k:Y)(h:0<n):GW (wK c n a k):=by
 let(x,r,e,f):=ZA4 c n h;let d:=ZGf c n;unfold wK;rw[e]at d ⊢;cases a with
 |zero=>
  apply#[#[_,r,rfl,je _<|DS.mpr<|jh _],Dr.mpr λy b=>?_];rcases Bw.mp b with rfl|b
  .show Xn _<|DS.Ϣ<|LN _ _
  .show d y<|Bk _ b
 |succ a=>
  apply#[#[x,r.ξ a _,rfl,f],Dr.Ϣ λy b=>?_];grind [Xn,LN]
def
ZCq(c:W')(n a:Y)(d:a<n){j k:Y}(f:j<6)(g:k<6)(e:wK c n a j=wK c n a k):j=k:=by
 unfold wK at e;let b:=congrArg (λl=>l[a]?) e;erw[Fh (show a<(wB c n).length by show KQ d (Sa c n).symm),P6]at b;show ZBD _ _ f g<|zX ZGb (LN _ _) (LN _ _) b
def
ji:∀L:U Y,(L.j λ_=>1).sum=L.a
 |[]=>rfl
 |_::L=>by rw[AQ,List.sum_cons,ji L,Ct];show Ma 1 L.a
def
nm1(c w:W')(s:¬ w=0)(n a k:Y)(h:1+c%12=(n:W'))(d:n<=12)(i:c/12%(n:W')=(a:W'))(l:a<n):Kf [‹c›,‹w›,‹k›]=Z (.r (.Ι (wS (wK c n a k)))):=by
 let q3:=Z2 (c/12) (n:W') ∅;rw[i]at q3;let g:=Zw (b:=Zc 0) (e:=QV) (ρ:=[.no,.r<|.str "abcdefghijklmnopqrstuvwxyz0123456789",‹c›]) (λ(j:Y)=>D.o j) (λ(j:Y)=>cS<|sg<|Gp (c/((j:W')+2)+4*(j:W')) j) (AW n) λj m=>#[_,rfl,ZDE c j (by have:=DS.mp m;lia)];rw[show(AW n).j (λ(j:Y)=>cS<|sg<|Gp (c/((j:W')+2)+4*(j:W')) j)=(wB c n).j cS by rw[wB,B7];rfl]at g;let o:=GS (x:=4) (y:=(a:W')) (by left;decide);let f:=GS (x:=5) (y:=(k:W')) (by left;decide);let p:Ek ((wB c n).j cS).a (a:W')=Z a:=by
  rw[Bx,Sa];unfold Ek;grind
 let q:J4 ((wK c n a k).j cS)=Z ((wK c n a k).j λc=>(#[(T' [c])]:Ae)):=by
  have:=bw<|(wK c n a k).map λc=>(#[(T' [c])]:Ae);rw[B7]at this;show this
 let r:(((wK c n a k).j λc=>(#[(T' [c])]:Ae)).j (·.a)).sum+((wK c n a k).j λc=>(#[(T' [c])]:Ae)).a*("":Ae).a<=16777216:=by
  let u:(wK c n a k).a=n:=by simp[wK,Sa]
  let v:((wK c n a k).j λc=>(#[(T' [c])]:Ae)).j (·.a)=(wK c n a k).j λ_=>1:=by rw[B7];rfl
  let z:("":Ae).a=0:=by ext
  grind [ji]
 erw[Kf,AU,Ct,Ja,Ia,if_true,eO,eM,eo,Za,Bi,Gd,Hs,DB,Ha,EJ,show AI (Co (.int w)<|.int 0)=Z O' by simp_all,ZF,Zd,LO,M6,LP,
  eK,et,ZJ,LQ,LR,eJ,eu,Z2 c 12 (by ext),LF,h,eI,ez,GR c 12 (by ext) (by ext),q3,eH,eA,Zh,DN,Ec,Bd,Zi,Zm,Hm n ∅,Zf,if_pos (show((AW n).map λ(k:Y)=>D.int k).length<=Av by rw[Bx,O4];show BN d (by ext)),Zq,AQ,Do,J1,g,ZN]
 erw[eF,eB,Za,Bi,Gd,Hs,DB,LF,GR c ((a:W')+2) (Int.sign_eq_one_iff_pos.mp rfl) ∅,o,f,GU,DN,Ec,Zi,Zk,HK,pk,Internal.intD,Zm,Zf,if_pos (show([D.int 36,.int 26]:U D).length<=Av by ext),ZA,jg a,Z2 (c/((a:W')+2)+4*(a:W')+5*(k:W')) (md a) (RY a).1,Ql,D3];rw[RZ,jf _<|LN (c/((a:W')+2)+4*(a:W')+5*(k:W')) a];erw[p,LQ,LR,show((wB c n).map cS).set a (cS<|sg<|Gp (c/((a:W')+2)+4*(a:W')+5*(k:W')) a)=(wK c n a k).map cS by rw[wK,List.map_set],Zd,eE,eC,Qm,Zi,Df,Gd,Hs,DB,HK,pk,Qn,q,if_pos r,Zy,wS]
def
jj(c w:W'):∃f,jc f/\∀k:Y,k<6->Kf [‹c›,‹w›,‹k›]=Z (.r (aD (f k))):=by
 by_cases m:w=0
 .subst m;apply#[λk=>.o<|c%10^30-5*10^29+(k:W'),⟨λj k _ _ e=>by injection e with e;lia,λk _=>rfl,λk _=>trivial,λk i o e=>?_⟩,λk _=>nm0 c k];injection e with e;let l:=FH c (show(10^30:W')≠0 by ext);let t:=Hr c (show(0:W')<10^30 by ext);lia
 .obtain⟨n,q,b,d⟩:∃n:Y,1+c%12=(n:W')/\0<n/\n<=12:=#[(1+c%12).ν,∅,∅,∅];let l:=FH (c/12) (show(n:W')≠0 by show Int.natCast_ne_zero_iff_pos.Ϣ b);obtain⟨a,r,g⟩:∃a:Y,c/12%(n:W')=(a:W')/\a<n:=#[(c/12%(n:W')).ν,by show Eq.Ζ<|LS l,by show(Int.toNat_lt l).mpr<|Hr (c/12) (show(0:W')<(n:W') by show LU.mpr b)];let h:∀k,Jw (aD<|.str<|wS<|wK c n a k)=J'/\Sm (aD<|.str<|wS<|wK c n a k):=λk=>zY (by rw[R7];show ZAD c n a k b) (by rw[R7];simp[wK,Sa];lia);apply#[λk=>.Ι<|wS<|wK c n a k,⟨λj k s o e=>?_,λk _=>(h k).1,λk _=>(h k).2,λk i _ e=>nomatch e⟩,λk _=>nm1 c w m n a k q d r g];let p:(wS<|wK c n a j).Ϩ.α=(wS<|wK c n a k).Ϩ.α:=∅
  rw[R7,R7]at p;show ZCq c n a g s o p
def
Xo{b:U W'}{P:W'->V'}(h:∀z∈b,P z)(i:Y)(a:i<b.a):P (b.B i 0):=by
 simp_all
abbrev XS(ws:U W'):Sl:=#v[ws.j D.o]
def
Zz0(ws:U W')(l:ws.a=40)(s0 s2 s3 b c d e:Sl)(j:Y)(m:1<=j)(a:j<10)(h:U W')(f:h.a=j)(hz:∀z∈h,1<=z/\z<=6):∃z,1<=z/\z<=6/\Re [s0,XS ws,s2,s3,.φ (h.j D.o),‹j›,b,c,d,e]=.Q [s0,XS ws,s2,s3,.φ ((h++[z]).j D.o),‹j›,b,c,d,e]:=by
 let g:=Hq (xs:=ws) (i:=2+(j:W')) (RX<|2+j) ∅;let k:=Hq (xs:=h) (i:=(j:W')-1) ∅ ∅;let n:=Xo hz ((j:W')-1).ν ∅;generalize h.B ((j:W')-1).ν 0=y,ws.B (2+(j:W')).ν 0=w at *;let o:=Hr w (show 0<y by lia);show#[1+w%y,by show Int.le_add_of_nonneg_right<|FH w (show y≠0 by lia),∅,by erw[Re,Za,Bi,Gd,Hs,DB,LF,i5,Am,g,k,Z2 w y ∅,Eo,Bx,if_pos (show h.length<Av by rw[f];show BM a (by ext)),Zd,LQ,LR,Er,AQ,Do]]
def
jl(ws:U W')(l:ws.a=40)(s0 s2 s3 d f g h:Sl):∀(n j:Y)(t:U W')(s5:Sl),1<=j->j+n<=9->t.a=j->(∀z∈t,1<=z/\z<=6)->∃(c:U W') (a:Sl),c.a=j+n/\(∀z∈c,1<=z/\z<=6)/\ZB (Zc 5) Re ((FZ j n).j λ(k:Y)=>D.o k) [s0,XS ws,s2,s3,.φ (t.j D.o),s5,d,f,g,h]=.Q [s0,XS ws,s2,s3,.φ (c.j D.o),a,d,f,g,h]
 |0,j,t,s5,_,_,i,hz=>#[t,s5,∅,hz,rfl]
 |n+1,j,t,s5,m,r,i,hz=>by
  let(z,o,p,e):=Zz0 ws l s0 s2 s3 d f g h j m ∅ t i hz;let(c,a,s,q,q3):=jl ws l s0 s2 s3 d f g h n (j+1) (t++[z]) ‹j› (KY m) ∅ (by simp[i]) (λy b=>by
   rcases C0.mp b with b|b
   .show hz y b
   .erw[Cg]at b;subst b;show#[o,p])
  apply#[c,a,∅,q,?_];rw[LK,AQ];rwa[ZB];rw[e];show q3
def Ht(a:Y->Y->Y)(j x:Y):Y:=if j=0 then x else a j x
def Ed(f:Y->Y->At)(a:Y->Y->Y):Y->Y->Y->U At
 |_,_,0=>[]
 |j,x,n+1=>f j (Ht a j x)::Ed f a (j+1) (Ht a j x) n
def Db(ws a:U W')(j x:Y):Y:=(ws.B (7+7*j+x) 0%a.B j 0).ν
def
Zz6(ws a:U W')(j x:Y)(h:1<=a.B j 0):ws.B (7+7*j+x) 0%a.B j 0=(Db ws a j x:W'):=by
 have:=FH (ws.B (7+7*j+x) 0) (show a.B j 0≠0 by show B8 (Int.ne_of_lt h));unfold Db;show Eq.Ζ<|LS this
def
jm(ws b:U W')(j x:Y)(h:1<=b.B j 0)(a:b.B j 0<=6):Db ws b j x<6:=by
 have:=Hr (ws.B (7+7*j+x) 0) (show 0<b.B j 0 by show Int.lt_of_add_one_le h);unfold Db;lia
def cW(c:W')(ws:U W'):W':=c+ws.B 2 0*(ws.B 6 0%2)
def wW(ws:U W')(j:Y):W':=(ws.B 7 0+(j:W')*(ws.B 8 0%2))%2
def LW(c:W')(ws:U W')(f:Y->Y->At):V':=∀j,jc (f j)/\∀k:Y,k<6->Kf [‹cW c ws›,‹wW ws j›,‹k›]=Z (.r (aD (f j k)))
def
nmd(c:W')(ws:U W'):∃f,LW c ws f:=#[λj=>Classical.choose<|jj (cW c ws)<|wW ws j,λj=>Classical.choose_spec<|jj (cW c ws)<|wW ws j]
def
Kl(ws:U W')(a:ws.a=40)(i:Y)(b:i<40):atI (ws.j D.o) (i:W')=Z (.o (ws.B i 0)):=by
 have:=Hq (xs:=ws) (i:=(i:W')) (MK i) ∅;grind
def
ZBm(c:W')(ws:U W')(b:ws.a=40)(f:Y->Y->At)(p:LW c ws f)(s2 s3 d e:Sl)(v:U W')(hz:∀z∈v,1<=z/\z<=6)(j x:Y)(k:j<v.a)(q:j<4)(r:x<6)(acc:U At)(s:acc.a<100):Rf [‹c›,XS ws,s2,s3,.φ (v.j D.o),‹j›,d,e,.φ (acc.j aD),‹x›]=.Q [‹c›,XS ws,s2,s3,.φ (v.j D.o),‹j›,d,e,.φ ((acc++[f j (Ht (Db ws v) j x)]).j aD),‹(Ht (Db ws v) j x:W')›]:=by
 let g:=Xo hz j k;let cond:AI (Fa (.o j)<|.int 0)=Z (decide<|0<(j:W')):=rfl;let fin:∀y:Y,y<6->(Zd (Eo 8 ((Zg Kf<|λa=>Zi (DN<|(Za Zt (λa=>Bi a 0) (Za DV (Za Am (λa=>Bi a 1) (λ_=>Z<|.int 2)) (Za ZI (Za Am (λa=>Bi a 1) (λ_=>Z<|.int 6)) (λ_=>Z<|.int 2)))) a) (Zi (DN<|(Za ZI (Za Zt (Za Am (λa=>Bi a 1) (λ_=>Z<|.int 7)) (Za DV (λa=>Bi a 5) (Za ZI (Za Am (λa=>Bi a 1) (λ_=>Z<|.int 8)) (λ_=>Z<|.int 2)))) (λ_=>Z<|.int 2)) a) (Zi (Df a 9)<|some []))) [‹c›,XS ws,s2,s3,.own<|v.map D.int,‹j›,d,e,.own<|acc.map aD,‹y›]) [‹c›,XS ws,s2,s3,.own<|v.map D.int,‹j›,d,e,.own<|acc.map aD,‹y›]) (λa=>.Q a))=.Q [‹c›,XS ws,s2,s3,.φ<|v.map D.int,‹j›,d,e,.own<|(acc++[f j y]).map aD,‹y›]:=λy t=>by
  let l:=(p j).2 y t;unfold cW wW at l;erw[Zg,Za,Bi,Df,Gd,Hs,DB,Am,show atI (ws.map D.int) 2=Z (.int<|ws.getD 2 0)from(Kl ws b 2<|K2 rfl),show atI (ws.map D.int) 6=Z (.int<|ws.getD 6 0)from(Kl ws b 6<|K2 rfl),show atI (ws.map D.int) 7=Z (.int<|ws.getD 7 0)from(Kl ws b 7<|K2 rfl),show atI (ws.map D.int) 8=Z (.int<|ws.getD 8 0)from(Kl ws b 8<|K2 rfl),Z2 (ws.getD 6 0) 2 (by ext),Z2 (ws.getD 8 0) 2 (by ext),GS (show Ez (ws.getD 2 0) (ws.getD 6 0%2) by right;constructor<;>lia),GS (show Ez (j:W') (ws.getD 8 0%2) by right;constructor<;>lia),LF,Z2 (ws.getD 7 0+(j:W')*(ws.getD 8 0%2)) 2 (by ext),DN,Ec,Zi,l,Em,Eo,Bx,if_pos (show acc.length<Av from BM s (by ext)),Zd,LQ,LR,Er,AQ,Do]
 by_cases m:j=0
 .subst m;have:=fin x r;show this
 .let h:atI (ws.j D.o) (7+7*(j:W')+(x:W'))=Z (.o<|ws.B (7+7*j+x) 0):=by
   rw[<- (Kl ws b (7+7*j+x) ∅)];congr 1
  let n:=Hq (xs:=v) (i:=(j:W')) (MK j) (Int.ofNat_lt.Ϣ k);rw[Jn]at n;let o:=Z2 (ws.B (7+7*j+x) 0) (v.B j 0) ∅;rw[Zz6 ws v j x g.1]at o;let u:=GS (x:=7) (y:=(j:W')) (by left;decide);have:=fin (Db ws v j x)<|jm ws v j x g.1 g.2;unfold Rf;rw[show Ht (Db ws v) j x=Db ws v j x from if_neg m];erw[Za,Bi,Gd,Hs,DB,cond,show decide (0<(j:W'))=J' from decide_eq_true ∅,ZF,u,LF,Am,h,n,o,ZJ,Zd,LQ,LR]at this ⊢;show this
def
Xp(ws d:U W')(hz:∀z∈d,1<=z/\z<=6)(j x:Y)(b:j<d.a)(c:x<6):Ht (Db ws d) j x<6:=by
 unfold Ht;split
 .show c
 .let a:=Xo hz j b;show jm ws d j x a.1 a.2
def
jn(c:W')(ws:U W')(g:ws.a=40)(f:Y->Y->At)(h:LW c ws f)(s2 s3 d e:Sl)(p:U W')(hz:∀z∈p,1<=z/\z<=6):∀(n j x:Y)(acc:U At)(s5:Sl),j+n<=p.a->j+n<=4->x<6->acc.a+n<100->∃(a:Sl) (b:Sl),ZB (Zc 5) Rf ((FZ j n).j λ(k:Y)=>D.o k) [‹c›,XS ws,s2,s3,.φ (p.j D.o),s5,d,e,.φ (acc.j aD),‹x›]=.Q [‹c›,XS ws,s2,s3,.φ (p.j D.o),a,d,e,.φ ((acc++Ed f (Db ws p) j x n).j aD),b]
 |0,j,x,acc,s5,_,_,_,_=>#[s5,_,by simp[ZB,Ed];rfl]
 |n+1,j,x,acc,s5,i,m,l,o=>by
  let(a,b,q):=jn c ws g f h s2 s3 d e p hz n (j+1) (Ht (Db ws p) j x) (acc++[f j<|Ht (Db ws p) j x]) ‹j› ∅ ∅ (Xp ws p hz j x (EF i) l) (by simp;lia);apply⟨a,b,?_⟩;rw[LK,AQ];rwa[ZB];rw[ZBm c ws g f h s2 s3 d e p hz j x (EF i) (EF m) l acc<|EF o];simp only;rw[q];erw[Ed,Jm,Xq]
structure GL(ls:Bj)(p:Y):V' where
 n1:1<=ls.a
 n6:ls.a<=40
 p1:1<=p
 p4:p<=4
 len:∀l∈ls,l.a=p
 val:∀l∈ls,∀a∈l,Jw (aD a)=J'/\Sm (aD a)
 hdn:(ls.j hd).θ
 fn:∀l∈ls,∀l'∈ls,∀m a,l[m]?=Z a->l'[m]?=Z a->l.Ψ (m+1)=l'.Ψ (m+1)
def
GL.take{b:Bj}{p:Y}(h:GL b p)(n:Y)(f:1<=n):GL (b.ϣ n) p:=by
 let c:∀x∈b.ϣ n,x∈b:=λx g=>List.mem_of_mem_take g;apply#[?_,?_,h.p1,h.p4,λl a=>h.ϧ l<|c l a,λl a=>h.r l<|c l a,?_,?_]
 .rw[PH];have:=h.n1;show Nat.le_min_of_le_of_le f this
 .rw[PH];have:=h.n6;lia
 .rw[List.map_take];show h.hdn.sublist<|List.take_sublist _ _
 .show λl a e d=>h.fn l (c l a) e<|c e d
def
O5(f:Y->Y->At)(a:Y->Y->Y):∀(n j x:Y),(Ed f a j x n).a=n
 |0,_,_=>rfl
 |n+1,j,x=>by simp[Ed,O5 f a n]
def Jx(a:Y->Y->Y)(j x:Y):Y->Y
 |0=>Ht a j x
 |i+1=>Jx a (j+1) (Ht a j x) i
def
O6(f:Y->Y->At)(a:Y->Y->Y):∀(i n j x:Y),i<n->(Ed f a j x n)[i]?=Z (f (j+i) (Jx a j x i))/\(Ed f a j x n).Ψ (i+1)=Ed f a (j+i+1) (Jx a j x i) (n-i-1)
 |_,0,_,_,h=>∅
 |0,n+1,j,x,_=>by simp[Ed,Jx]
 |i+1,n+1,j,x,h=>by
  let(b,c):=O6 f a i n (j+1) (Ht a j x) ∅;apply#[?_,?_]
  .erw[Ed,Gd,Jx];rw[b,show j+1+i=j+(i+1) by lia]
  .erw[Ed,List.drop_succ_cons,Jx];rw[c,show j+1+i+1=j+(i+1)+1 by lia,show n-i-1=n+1-(i+1)-1 by lia]
def
Xr(ws c:U W')(hz:∀z∈c,1<=z/\z<=6):∀(i j x:Y),j+i<c.a->x<6->Jx (Db ws c) j x i<6
 |0,j,x,a,b=>Xp ws c hz j x (Nat.lt_of_succ_le a) b
 |i+1,j,x,a,b=>Xr ws c hz i (j+1) _ ∅<|Xp ws c hz j x (EF a) b
def
ZC5(c:W')(ws:U W')(f:Y->Y->At)(s:LW c ws f)(R:U W')(hz:∀z∈R,1<=z/\z<=6)(p m:Y)(hp:R.a=p)(p1:1<=p)(p4:p<=4)(L:1<=m)(Q:m<=6)(a:Y->Y)(u:∀k,k<m->a k<6)(h:∀j k,j<m->k<m->a j=a k->j=k):GL ((AW m).j λk=>Ed f (Db ws R) 0 (a k) p) p:=by
 let w:∀(k i:Y),k<m->i<p->(Ed f (Db ws R) 0 (a k) p)[i]?=Z (f i<|Jx (Db ws R) 0 (a k) i)/\Jx (Db ws R) 0 (a k) i<6:=λk i o d=>by
  have:=(O6 f (Db ws R) i p 0 (a k) d).1;rw[Km]at this;show#[this,Xr ws R hz i 0 (a k) ∅<|u k o]
 apply#[by simpa using L,by rw[Bx,O4];lia,p1,p4,λl r=>?_,λl r b M=>?_,?_,?_]
 .let(k,_,rfl):=Be.mp r;show O5 _ _ _ _ _
 .let(k,o,rfl):=Be.mp r;let(i,h,e):=List.mem_iff_getElem.mp M;let d:i<p:=by rw[O5]at h;show h
  let(g,t):=w k i (DS.mp o) d;rw[BZ h,e]at g;injection g with g
  subst g;show#[(s i).1.r _ t,(s i).1.sm _ t]
 .rw[B7];apply List.pairwise_map.Ϣ<|List.Pairwise.imp_of_mem (λ{x y} G H A e=>A ?_) (List.nodup_range (n:=m));let T:∀k,hd (Ed f (Db ws R) 0 (a k) p)=f 0 (a k):=λk=>by
   obtain⟨q,rfl⟩:∃q,p=q+1:=#[p-1,by show(Nat.sub_eq_iff_eq_add p1).mp rfl];rfl
  show h x y (DS.mp G) (DS.mp H)<|(s 0).1.inj _ _ (u x<|DS.mp G) (u y<|DS.mp H) (show f 0 (a x)=f 0 (a y) by grind)
 .intro l r P B n v C S;let(k,o,rfl):=Be.mp r;let(F,E,rfl):=Be.mp B;let d:n<p:=by
   have:=(Bp.mp C).1;rw[O5]at this;show this
  let(g,t):=w k n (DS.mp o) d;let(N,K):=w F n (DS.mp E) d;rw[g]at C;rw[N]at S;rw[(O6 f (Db ws R) n p 0 (a k) d).2,(O6 f (Db ws R) n p 0 (a F) d).2,(s n).1.inj _ _ t K (by rw[E6 C,E6 S])]
def M7(b:Bj):V':=∀l∈b,∀a∈l,∀i,a=.o i->i<10^40
def
ZCO(c:W')(ws:U W')(f:Y->Y->At)(o:LW c ws f)(y:U W')(hz:∀z∈y,1<=z/\z<=6)(p m:Y)(hp:y.a=p)(p1:1<=p)(p4:p<=4)(v:1<=m)(w:m<=6)(a:Y->Y)(q:∀k,k<m->a k<6)(x:∀j k,j<m->k<m->a j=a k->j=k):M7 ((AW m).j λk=>Ed f (Db ws y) 0 (a k) p):=by
 intro l r b s n t;let(k,u,rfl):=Be.mp r;let(i,d,e):=List.mem_iff_getElem.mp s;let h:i<p:=by rw[O5]at d;show d
 let(g,_):=O6 f (Db ws y) i p 0 (a k) h;rw[BZ d,e]at g;injection g with g
 rw[Km]at g;show((o i).1.lt _ n (Xr ws y hz i 0 (a k) ∅<|q k<|DS.mp u)<|g ▸ t).2
def aW(ws:U W')(m k:Y):Y:=(((k:W')+ws.B 2 0)%(m:W')).ν
def
Xs(ws:U W')(m k:Y)(a:0<m):((k:W')+ws.B 2 0)%(m:W')=(aW ws m k:W'):=by
 have:=FH ((k:W')+ws.B 2 0) (show(m:W')≠0 by show Int.natCast_ne_zero_iff_pos.Ϣ a);unfold aW;show Eq.Ζ<|LS this
def
jo(ws:U W')(m k:Y)(a:0<m):aW ws m k<m:=by simp_all [Hr,aW]
def
ZAw(c:W')(m j k:Y)(a:m<=6)(b:j<m)(d:k<m)(e:((j:W')+c)%(m:W')=((k:W')+c)%(m:W')):j=k:=by
 have:m=1\/m=2\/m=3\/m=4\/m=5\/m=6:=∅
 rcases this with rfl|rfl|rfl|rfl|rfl|rfl<;>lia
def
ZuT(c:W')(ws:U W')(g:ws.a=40)(f:Y->Y->At)(j:LW c ws f)(s:U W')(hz:∀z∈s,1<=z/\z<=6)(p m k:Y)(hp:s.a=p)(p4:p<=4)(d:1<=m)(l:m<=6)(acc:Bj)(n:acc.a<100)(s5 o r:Sl):∃a e b,Rg [‹c›,XS ws,‹m›,‹p›,.φ (s.j D.o),s5,.φ (acc.j Af),‹k›,o,r]=.Q [‹c›,XS ws,‹m›,‹p›,.φ (s.j D.o),a,.φ ((acc++[Ed f (Db ws s) 0 (aW ws m k) p]).j Af),‹k›,e,b]:=by
 let h:=Z2 ((k:W')+ws.B 2 0) (m:W')<|LU.Ϣ d;rw[Xs ws m k<|Mx d]at h;let i:=Hm p ∅;rw[LM]at i;let(a,b,q):=jn c ws g f j ‹m› ‹p› (.φ<|acc.j Af) ‹k› s hz p 0 (aW ws m k) [] s5 ∅ ∅ (BM (jo ws m k<|Mx d) l) (by simp;lia);erw[Do,EJ]at q;apply⟨a,.φ<|(Ed f (Db ws s) 0 (aW ws m k) p).j aD,b,?_⟩;rwa[Rg,Zf,if_pos<|Fk _,ZN,Am,show atI (ws.map D.int) 2=Z (.int<|ws.getD 2 0)from Kl ws g 2 (K2 rfl),h,ZD,i,q,Eo,D3,show DC [.lst<|(Ed f (Db ws s) 0 (aW ws m k) p).map aD]=Z (Af<|Ed f (Db ws s) 0 (aW ws m k) p)from rfl,Bx,if_pos (show acc.length<Av from BM n (by ext)),Er]
def
jq(c:W')(ws:U W')(o:ws.a=40)(f:Y->Y->At)(r:LW c ws f)(x:U W')(hz:∀z∈x,1<=z/\z<=6)(p m:Y)(hp:x.a=p)(p4:p<=4)(s:1<=m)(t:m<=6):∀(n k:Y)(acc:Bj)(s5 l i j:Sl),acc.a+n<100->∃(a b d g:Sl),ZB (Zc 7) Rg ((FZ k n).j λ(k:Y)=>D.o k) [‹c›,XS ws,‹m›,‹p›,.φ (x.j D.o),s5,.φ (acc.j Af),l,i,j]=.Q [‹c›,XS ws,‹m›,‹p›,.φ (x.j D.o),a,.φ ((acc++(FZ k n).j λk=>Ed f (Db ws x) 0 (aW ws m k) p).j Af),b,d,g]
 |0,k,acc,s5,l,i,j,_=>#[s5,l,i,j,by simp[ZB]]
 |n+1,k,acc,s5,l,i,j,h=>by
  let(u,v,w,e):=ZuT c ws o f r x hz p m k hp p4 s t acc ∅ s5 i j;let(a,b,d,g,q):=jq c ws o f r x hz p m hp p4 s t n (k+1) (acc++[Ed f (Db ws x) 0 (aW ws m k) p]) u (.r<|.o k) v w (by simp;lia);apply⟨a,b,d,g,?_⟩;rw[LK,AQ];rwa[ZB];rw[e];simp only;rw[q];erw[Jm,Xq,AQ]
def
jr{l:U Y}(h:l.a=8)(c:∀m∈l,1<=m/\m<=4)(x:W'):∃p:Y,1<=p/\p<=4/\atI (l.j λm:Y=>D.o m) (x%8)=Z (.o p):=by
 obtain⟨i,d,a⟩:∃i:Y,x%8=(i:W')/\i<l.a:=#[(x%8).ν,∅,∅];let b:=c _<|Fn a;show⟨_,b.1,b.2,d ▸ ZE (by simp[a])⟩
def
ZEx(x:W'):∃p:Y,1<=p/\p<=4/\atI [D.o 2,.o 1,.o 3,.o 2,.o 3,.o 4,.o 2,.o 3] (x%8)=Z (.o p):=jr (l:=[2,1,3,2,3,4,2,3]) rfl (by ext) x
def
ZwX(c:W'):∃g p,(GL g p/\M7 g)/\g.a<=6/\Rh [‹c›]=Z (.φ (g.j Af)):=by
 let(a,v,h,_):=Zvg c;let(f,i):=nmd c a;obtain⟨m,w,b,d⟩:∃m:Y,1+a.B 0 0%6=(m:W')/\1<=m/\m<=6:=#[(1+a.B 0 0%6).ν,∅,∅,∅];let(p,p1,p4,hp):=ZEx<|a.getD 1 0;let o:=xI 1 (p:W') (by ext) (by ext) ∅<|(Int.toNat_lt' p1).mp p1;let l:(AW ((p:W')-1).toNat).map (λ(k:Y)=>D.o<|1+(k:W'))=(FZ 1<|p-1).map λ(k:Y)=>D.o k:=by
  simp_all [List.range'_eq_map_range,B7]
 rw[l]at o;let(F,x,H,n,r):=jl a h ‹c› ‹m› ‹p› .no .no .no .no (p-1) 1 [(m:W')] .no (Nat.le_of_ble_eq_true rfl) ∅ rfl (λz hz=>by erw[Cg]at hz;subst hz;lia);let s:=Hm m ∅;rw[LM]at s;let(y,A,B,C,q):=jq c a h f i F n p m ∅ p4 b d m 0 [] x .no .no .no (by simp;lia);erw[Do,EJ]at q;apply#[(FZ 0 m).j λk=>Ed f (Db a F) 0 (aW a m k) p,p,?_,by simpa using d,?_]
 .rw[<- LM];let t:∀k,k<m->aW a m k<6:=λk _=>by have:=jo a m k<|Mx b;show BM this d
  let u:∀j k,j<m->k<m->aW a m j=aW a m k->j=k:=λj k E G e=>ZAw (a.B 2 0) m j k d E G (by rw[Xs a m j<|Mx b,Xs a m k<|Mx b,e]);show⟨ZC5 c a f i F n p m ∅ p1 p4 b d (aW a m) t u,ZCO c a f i F n p m ∅ p1 p4 b d (aW a m) t u⟩
 .erw[AQ,Do]at r;rwa[Rh,AU,Ia,fH,fG,e8,Ha,EJ,v,Em,LO,M6,LP,fF,e9,Am,show atI (a.map D.int) 0=Z (.int<|a.getD 0 0)from Kl a h 0 (Nat.zero_lt_succ 39),Z2 (a.getD 0 0) 6 (by ext),w,fE,fg,Zf,if_pos (show(8:Y)<=Av by ext),show atI (a.map D.int) 1=Z (.int<|a.getD 1 0)from Kl a h 1 (Nat.one_lt_succ_succ 38),Z2 (a.getD 1 0) 8 (by ext),hp,fB,fh,if_pos (show(1:Y)<=Av by ext),ZN,fA,fj,ZD,o,r,fy,fm,Zf,if_pos<|Fk _,ZN,fw,fq,s,q,fu,ft,D3,ZZ]
abbrev LD(a:Bj):D:=.R (a.j Af)
def
ZGe(ns:U W')(k:Y):∃a,((∃p,GL a p)/\a.a<=6/\M7 a)/\Rw [‹k›,#v[ns.j D.o]]=Z (LD a):=by
 let b:=GS (x:=1000) (y:=(k:W')) (by left;decide);let(a,p,(c,d),e,f):=ZwX<|ns.B (1+(k:W')).ν 0+1000*(k:W');apply⟨a,⟨⟨p,c⟩,e,d⟩,?_⟩;rwa[Rw,M4 #v[ns.map D.int] ns (.inl rfl) (1+(k:W'))<|RX<|1+k,b,Em,f]
def
ZGU(x:W'):∃m:Y,1<=m/\m<=4/\atI [D.o 2,.o 1,.o 2,.o 3,.o 1,.o 2,.o 3,.o 4] (x%8)=Z (.o m):=jr (l:=[2,1,2,3,1,2,3,4]) rfl (by ext) x
structure BJ(Ls:AB):V' where
 n1:1<=Ls.a
 n4:Ls.a<=4
 good:∀ls∈Ls,∃p,GL ls p
def
tk3(a:Bj):Rx [.r (LD a)]=Z (LD (a.ϣ 3)):=by
 have:=dO (a.j Af) 3 (by ext);rwa[Rx,E1,EZ,Fz,this];simp_all
def
Zuf(ns:U W'):∃c,BJ c/\(∀a∈c,a.a<=6/\M7 a)/\OO [#v[ns.j D.o]]=Z (.φ (c.j LD)):=by
 let r:=M4 #v[ns.j D.o] ns (.O rfl) 0 (by ext);let(m,s,n,t):=ZGU<|ns.getD (0:W').toNat 0;let u:=Z2 (ns.getD (0:W').toNat 0) 8 (by ext);let w:=Hm m ∅;let(c,x,d,g):=Xm (b:=Zc 0) (e:=Rw) (ρ:=[.no,#v[ns.map D.int]]) (λ(k:Y)=>D.o k) LD (λa=>(∃p,GL a p)/\a.a<=6/\M7 a) (AW m) λk _=>by
  let(a,f,B):=ZGe ns k;show#[a,_,f,rfl,B]
 rw[O4]at d;let i:(8:Y)<=Av:=by ext
 let j:((AW m).j λ(k:Y)=>D.o k).a<=Av:=by rw[Bx,O4];show BN n (by ext)
 let y:=Zw (b:=Zc 0) (e:=Rx) (ρ:=[.no]) LD (λa=>LD<|a.take 3) c λa _=>#[_,rfl,tk3 a];rw[show c.j (λa=>LD<|a.take 3)=(c.map λa=>a.ϣ 3).j LD by rw[B7];rfl]at y;let o:=GU (m:W') 4;by_cases z:(m:W')=4
 .apply#[c.j λa=>a.ϣ 3,#[by rw[Bx];show le_of_le_of_eq s d.Ζ,by rw[Bx];show le_of_eq_of_le d n,λa h=>?_],λa h=>?_,?_]
  .let(q,f,rfl):=Be.mp h;let((p,hp),_):=g q f;show#[p,hp.ϣ 3 (by ext)]
  .let(q,f,rfl):=Be.mp h;show#[by rw[PH];have:=(g q f).2.1;lia,λl C=>(g q f).2.2 l<|List.mem_of_mem_take C]
  .rw[decide_eq_true z]at o;rwa[OO,AU,Ia,VJ,VI,Vz,Ha,EJ,r,Em,u,Zf,if_pos i,Am,t,LO,M6,LP,VH,VA,Zh,w,if_pos j,Zq,J1,x,VF,VB,o,if_pos (show(c.map LD).length<=Av by rw[Bx,d];show BN n (by ext)),y,VD,VC,ZZ,D3,ZN,Gj,Jd]
 .apply#[c,#[by show le_of_le_of_eq s d.Ζ,by show le_of_eq_of_le d n,λa h=>(g a h).1],λa h=>(g a h).2,?_];rw[decide_eq_false z]at o;rwa[OO,AU,Ia,VJ,VI,Vz,Ha,EJ,r,Em,u,Zf,if_pos i,Am,t,LO,M6,LP,VH,VA,Zh,w,if_pos j,Zq,J1,x,VF,VB,o,VD,VC,ZZ,D3,ZN,Gj,Jd]
structure Ln(l:List At):V' where
 l1:1<=l.a
 l4:l.a<=4
 val:∀a∈l,Jw (aD a)=J'/\Sm (aD a)
def
GL.ln{c:Bj}{p:Y}(h:GL c p):∀l∈c,Ln l:=λl b=>#[h.ϧ l b ▸ h.p1,h.ϧ l b ▸ h.p4,λa d=>h.r l b a d]
abbrev Kn(a:AB):D:=.S (a.j λ_=>D.o 0)
def
Xt{a:AB}(h:BJ a):MN [#v[a.j LD]]=Z (.r (Kn a)):=by
 rwa[MN,AU,Ia,dV,LO,LP,Eh,Zh,Zf,if_pos (show(a.map LD).length<=Av by rw[Bx];show BN h.n4 (by ext)),Zq,M6,Zw (b:=Zc 0) (e:=dU) (ρ:=[.no]) LD (λ_=>D.int 0) a λc _=>#[[.val<|LD c],rfl,rfl],show DC [.lst<|a.map λ_=>D.int 0]=Z (Kn a)from rfl]
structure TO{α:Type}(lt:α->α->j'):V' where
 asym:∀a b,lt a b=J'->lt b a=O'
 neg:∀a b c,lt a c=J'->lt a b=J'\/lt b c=J'
 anti:∀a b,lt a b=O'->lt b a=O'->a=b
def M8{a:Type}(lt:a->a->j')(x:a):U a->U a
 |[]=>[x]
 |y::r=>if lt x y then x::y::r else y::M8 lt x r
def Zz{a:Type}(lt:a->a->j'):U a->U a
 |[]=>[]
 |x::r=>M8 lt x (Zz lt r)
def
js{a:Type}(lt:a->a->j')(x:a):∀l,(M8 lt x l).Perm (x::l)
 |[]=>.σ _
 |y::r=>by
  unfold M8;split
  .show .σ _
  .show((js lt x r).Α y).G<|.swap x y r
def
ZC{a:Type}(lt:a->a->j'):∀l,(Zz lt l).Perm l
 |[]=>.σ _
 |x::r=>(js lt x _).G<|(ZC lt r).Α x
def
jt{a:Type}(f:a->D)(lt:a->a->j')(lk:D->D->j')(x:a):∀l:U a,(∀y∈l,lk (f x) (f y)=lt x y)->Jl lk (f x) (l.j f)=(M8 lt x l).j f
 |[],_=>rfl
 |y::r,h=>by
  erw[AQ,Jl,M8,h y Bb,jt f lt lk x r λz hz=>h z<|Bk _ hz];split<;>rfl
def
ju{a:Type}(f:a->D)(lt:a->a->j')(lk:D->D->j'):∀l:U a,(∀x∈l,∀y∈l,lk (f x) (f y)=lt x y)->FA lk (l.j f)=(Zz lt l).j f
 |[],_=>rfl
 |x::r,h=>by
  let c:=ju f lt lk r λy b z hz=>h y (Bk _ b) z<|Bk _ hz;erw[AQ,FA,Zz,c];show jt f lt lk x _ λy b=>h x Bb y<|Bk _<|(ZC lt r).subset b
def
Xu{k:Type}{F:U Sl->O Rv}(f:k->D){lt:k->k->j'}(T:TO lt)(b:j')(xs:U k)(few:xs.a<64)(l:k->D)(tells:∀a∈xs,F [.r (f a)]=Z (.r (l a)))(mode:∀a∈xs,CL b (l a))(cmp:∀a∈xs,∀c∈xs,ltN 6 (l a) (l c)=Z (lt a c)):Gf F (xs.j f)=Z ((Zz lt xs).j f):=by
 let m:∀a∈xs,D8 F (f a)=l a:=λa d=>by unfold D8;rw[tells a d];rfl
 let i:∀a∈xs,∀c∈xs,CY F (f a) (f c)=lt a c:=λa d c hc=>b6 (by rw[m a d,m c hc];show cmp a d c hc)
 let ok:BE F (xs.j f):={
  few:=by simp;lia
  tells:=λx g=>by let(a,d,rfl):=Be.mp g;show#[_,tells a d]
  mode:=#[b,λx g=>by let(a,d,rfl):=Be.mp g;rw[m a d];show mode a d]
  cmp:=λx g y j=>by
   grind
  asym:=λx g y j h=>by
   let(a,d,rfl):=Be.mp g
   let(c,hc,rfl):=Be.mp j
   rw[i a d c hc]at h;rw[i c hc a d];show T.asym a c h
  neg:=λx g y j z hz h=>by
   let(a,d,rfl):=Be.mp g
   let(c,hc,rfl):=Be.mp j
   let(e,n,rfl):=Be.mp hz
   rw[i a d e n]at h;rw[i a d c hc,i c hc e n];show T.neg a c e h
  anti:=λx g y j o p=>by
   let(a,d,rfl):=Be.mp g
   let(c,hc,rfl):=Be.mp j
   rw[i a d c hc]at o;rw[i c hc a d]at p;rw[T.anti a c o p]}
 rw[uB ok,ju f lt _ xs i]
def DG{b:Type}[DecidableEq b]:O b->U b->U b
 |_,[]=>[]
 |p,a::r=>if p=Z a then DG p r else a::DG (Z a) r
def
Xv{c:Type}[DecidableEq c]:∀(l:U c)(p:O c),l.θ->(∀a,p=Z a->a∉l)->DG p l=l
 |[],_,_,_=>rfl
 |a::r,p,h,hp=>by
  let(d,f):=E7.mp h;unfold DG;rw[if_neg<|λe=>hp a e Bb,Xv r (Z a) f λb g=>by ext g;show d]
def
Xw{c:Type}[DecidableEq c]:∀(l:U c)(p:O c)(a:c),a∈DG p l->a∈l
 |[],_,_,h=>h
 |b::r,p,a,h=>by
  unfold DG at h;split at h
  .show Bk _<|Xw r p a h
  .rcases Bw.mp h with rfl|h
   .show Bb
   .show Bk _<|Xw r _ a h
def
Xx{c:Type}[DecidableEq c]:∀(l:U c)(p:O c)(a:c),a∈l->a∈DG p l\/p=Z a
 |[],_,_,h=>by cases h
 |b::r,p,a,h=>by
  unfold DG;split
  .next e=>
   rcases Bw.mp h with rfl|h
   .show .ρ e
   .show Xx r p a h
  .rcases Bw.mp h with rfl|h
   .show .O Bb
   .rcases Xx r (Z b) a h with h|h
    .show .O<|Bk _ h
    .grind [Bb]
def
Xy{b:Type}[DecidableEq b](l:U b)(a:b):a∈DG J l↔a∈l:=by grind [Xw,Xx]
def Ib:At->At->j'
 |.non,.non=>O'
 |.non,_=>J'
 |.int i,.int j=>decide (i<j)
 |.int _,.str _=>J'
 |.str x,.str y=>decide (x.Ϩ.α<y.Ϩ.α)
 |_,_=>O'
def
ZG5{x:Ae}(h:x.Ϩ.α=y.Ϩ.α):x=y:=by
 obtain⟨⟨a⟩⟩:=x;simp_all
def
Jy:TO Ib:={
 asym:=λa b h=>by
  ext a<;>ext b<;>erw[Ib,decide_eq_true_eq,decide_eq_false_iff_not,F5]at h ⊢
  .show Int.lt_asymm h
  .show List.lt_asymm h
 neg:=λa b c h=>by
  ext a<;>ext c<;>erw[Ib,decide_eq_true_eq,F5]at h<;>ext b<;>erw[Ib,decide_eq_true_eq,F5,true_or,or_true,or_false]
  .lia
  .grind [List.lt_of_le_of_lt,List.not_lt]
 anti:=λa b d e=>by
  ext a<;>ext b<;>erw[Ib,decide_eq_false_iff_not,Bool.true_eq_false]at d e
  .rfl
  .rw[At.o.injEq];lia
  .rw[At.Ι.injEq];show ZG5 (List.le_antisymm (List.not_lt.mp e) (List.not_lt.mp d))}
def BU:U At->U At->j'
 |[],[]=>O'
 |[],_::_=>J'
 |_::_,[]=>O'
 |a::r,b::s=>if a=b then BU r s else Ib a b
def
jv:∀a b,BU a b=J'->BU b a=O'
 |[],[],_=>rfl
 |[],_::_,_=>rfl
 |_::_,[],h=>by cases h
 |a::r,b::s,h=>by
  unfold BU at h ⊢;by_cases e:a=b
  .subst e;erw[if_true]at h ⊢;show jv r s h
  .rw[if_neg e]at h;rw[if_neg<|λz=>e z.Ζ];show Jy.asym a b h
def
jw:∀a b c,BU a c=J'->BU a b=J'\/BU b c=J'
 |[],[],c,h=>.ρ h
 |[],_::_,_,_=>.O rfl
 |_::_,_,[],h=>by cases h
 |_::_,[],_::_,_=>.ρ rfl
 |a::r,b::s,c::t,h=>by
  unfold BU at h ⊢;by_cases e:a=b
  .subst e;by_cases d:a=c
   .erw[d,if_true]at h ⊢;show jw r s t h
   .rw[if_neg d]at h;right;rw[if_neg d];show h
  .rw[if_neg e];by_cases d:b=c
   .subst d;rw[if_neg e]at h;show .O h
   .rw[if_neg d];by_cases f:a=c
    .subst f;cases hc:Ib a b with|true=>show .O rfl|false=>
      cases hd:Ib b a with
      |true=>show .ρ rfl
      |false=>show absurd (Jy.anti a b hc hd) e
    .rw[if_neg f]at h;show Jy.neg a b c h
def
jx:∀a b,BU a b=O'->BU b a=O'->a=b
 |[],[],_,_=>rfl
 |[],_::_,h,_=>by cases h
 |_::_,[],_,h=>by cases h
 |a::r,b::s,c,d=>by
  unfold BU at c d;by_cases e:a=b
  .subst e;erw[if_true]at c d;rw[jx r s c d]
  .rw[if_neg e]at c;rw[if_neg<|λz=>e z.Ζ]at d;show absurd (Jy.anti a b c d) e
def
Fp:TO BU:=#[jv,jw,jx]
def Dx:At->D
 |.non=>.S [.o 0,.o 0]
 |.int i=>.S [.o 1,.o i]
 |.str x=>.S [.o 2,.Ι x]
def
ZDa(n:Y)(a b:At):ltN (n+2) (Dx a) (Dx b)=Z (Ib a b):=by
 ext a<;>ext b<;>simp[Dx,Ib]
 .intro e;show Int.le_of_eq e.Ζ
 .intro e;subst e;simp
def
jy(a b:At):Bl (Dx a) (Dx b)=decide (a=b):=by
 ext a<;>ext b<;>simp[Dx]
def
Sc(n:Y)(a:At):AZ (n+1) (Dx a)=J':=by ext a<;>ext n<;>rfl
def
Xz(n:Y):∀l m:U At,Gc (ltN (n+2)) (l.j Dx) (m.j Dx)=Z (BU l m)
 |[],[]=>rfl
 |[],_::_=>rfl
 |_::_,[]=>rfl
 |a::r,b::s=>by
  rwa[Gc,FY,Sc 11 a,Sc 11 b,jy a b,ZDa n a b,Xz n r s,BU,decide_eq_true_eq];grind
def
Sd{b:Type}[DecidableEq b]:∀(l:U b)(p:O b),(DG p l).a<=l.a
 |[],_=>Bg _
 |a::r,p=>by
  unfold DG;split
  .show Jo<|Sd r p
  .show L8<|Sd r _
def mn(m y:W'):W':=if y<m then y else m
def mx(m y:W'):W':=if y>m then y else m
def
ZE6(m y:W'):mn m y=min m y:=by grind [mn]
def
ZFm(m y:W'):mx m y=max m y:=by grind [mx]
def cel(x:W')(xs:U W'):D:=.S [.o (xs.a+1:Y),.o ((x::xs).sum),.o (xs.Ω mn x),.o (xs.Ω mx x)]
def ZDc(s:Sl)(ns:U W'):V':=s=#v[ns.j D.o]\/s=.ϵ (ns.j D.o)
def
ZtN(s:Sl)(x:W')(xs:U W')(h:ZDc s (x::xs)):QS [s]=Z (.r (cel x xs)):=by
 rcases h with rfl|rfl<;>(simp[QS,AU,dW,HP,Qj,Qk,cel,show(4:Y)<=Av by ext];show#[rfl,rfl])
def
ZGK:(4:Y)<=Av:=by ext
def
jz(a:W'):∀(ys:U W')(b:W'),ys.Ω mn (mn a b)=mn a (ys.Ω mn b)
 |[],b=>rfl
 |y::ys,b=>by
  erw[IH,show mn (mn a b) y=mn a (mn b y) by erw[ZE6];show Int.min_assoc a b y,jz a ys]
def
jA(a:W'):∀(ys:U W')(b:W'),ys.Ω mx (mx a b)=mx a (ys.Ω mx b)
 |[],b=>rfl
 |y::ys,b=>by
  erw[IH,show mx (mx a b) y=mx a (mx b y) by erw[ZFm];show Int.max_assoc a b y,jA a ys]
def
Zwy(x y:W')(xs ys:U W'):OC [.r (cel x xs),.r (cel y ys)]=Z (.r (cel x (xs++y::ys))):=by
 simp[OC,AU,dX,cel,atI,Ek,ZGK,show(xs++y::ys).foldl mn x=mn (xs.foldl mn x) (ys.foldl mn y) by rw[List.foldl_append,IH,jz],show(xs++y::ys).foldl mx x=mx (xs.foldl mx x) (ys.foldl mx y) by rw[List.foldl_append,IH,jA]];apply#[∅,by show Int.add_assoc x xs.sum<|y+ys.sum,rfl,rfl]
def FJ(acc:Br)(ps:U (At×D)):Br:=ps.Ω (λa p=>ZU a (.at p.1) p.2) acc
def
XA(a:At):Dw (aD a)=Z (.at a):=N8<|.at a
def
O7{a:At}{v:D}(h:∀p∈kvs,EQ p.1=J'):∀p∈ZU kvs (.at a) v,EQ p.1=J':=λp hp=>by
 rcases T5 hp with hp|rfl
 .show h p hp
 .rfl
def
jB:∀(ps:U (At×D))(acc:Br),(∀p∈acc,EQ p.1=J')->acc.a+ps.a<=100000->FC acc (ps.j λp=>.S [aD p.1,p.2])=Z (FJ acc ps)
 |[],acc,_,_=>rfl
 |p::ps,acc,h,hz=>by
  erw[Ct]at hz;let hp:=Mw acc (.at p.1) p.2;rwa[FC,XA,Hf p.1 h,show acc.length<Av from BM (show acc.length<100000 by show EF hz) (by ext),jB ps (ZU acc (.at p.1) p.2) (O7 h) ∅];rfl
def
XB:∀(ps:U (At×D))(acc:Br),(∀p∈acc,EQ p.1=J')->∀p∈FJ acc ps,EQ p.1=J'
 |[],_,h=>h
 |p::ps,acc,h=>XB ps _<|O7 h
def
jC{a:At}:∀(ps:U (At×D))(acc:Br),a∉ps.j (·.1)->Zs (FJ acc ps) (.at a)=Zs acc (.at a)
 |[],_,_=>rfl
 |p::ps,acc,h=>by
  rw[AQ,Bw,not_or]at h;change Zs (FJ (ZU acc (.at p.1) p.2) ps) _=_
  rw[jC ps (ZU acc (.at p.1) p.2) h.2,Iz,if_neg<|λe=>h.1 (KT.at.inj e).Ζ]
def
jD{a:At}{v:D}:∀(ps:U (At×D))(acc:Br),(ps.j (·.1)).θ->(a,v)∈ps->Zs (FJ acc ps) (.at a)=Z v
 |p::ps,acc,b,h=>by
  rw[AQ,E7]at b;change Zs (FJ (ZU acc (.at p.1) p.2) ps) _=_
  rcases Bw.mp h with rfl|h
  .rw[jC ps _ b.1,Iz,if_pos rfl]
  .show jD ps _ b.2 h
def
jF(a:At):∀(ps:U (At×D))(acc:Br),(Zs (FJ acc ps) (.at a)).υ=((Zs acc (.at a)).υ||decide (a∈ps.j (·.1)))
 |[],acc=>by simp[FJ]
 |p::ps,acc=>by
  let b:=jF a ps<|ZU acc (.at p.1) p.2;show(Zs (FJ (ZU acc (.at p.1) p.2) ps) _).υ=_
  rw[b,Iz];by_cases e:p.1=a
  .subst e;simp
  .let c:¬ KT.at p.1=KT.at a:=λz=>e<|KT.at.inj z;let d:¬ a=p.1:=λz=>e z.Ζ;rw[if_neg c,Se];simp[d]
def
Zzb{ps:U (At×D)}{a:At}{v:D}(b:(ps.j (·.1)).θ)(h:(a,v)∈ps):DO (.R (Zb (FJ [] ps)) .d) (aD a)=Z v:=by
 let c:=Hf (kvs:=FJ [] ps) a (XB ps [] λ_ h=>nomatch h);rw[T2,XA];erw[DB,c,if_true,jD ps [] b h]
def
ZA5(neg:j')(ps:U (At×D))(a:At):DF neg (aD a) (.R (Zb (FJ [] ps)) .d)=Z (.bl (neg != decide (a∈ps.j (·.1)))):=by
 rw[Li,XA];rwa[Hf (kvs:=FJ [] ps) a (XB ps [] λ_ h=>nomatch h),jF a ps []];rfl
def
O8{a:Type}(l:U a):DD [.R ((l.j λ_=>J').j D.bl)]=Z (.bl J'):=by
 erw[DD,dN,L9];simp_all
def
Zx{a n:Y}{g:As}{r:Rv}(h:ss.a=a)(e:g (ss++EV (n-a) .no)=.ϱ r):AU a n g ss=Z r:=by
 unfold AU;simp_all
def
ZyH{a:Type}(x:a)(xs:U a):atI (x::xs) 0=Z x:=by
 have:(0:W')<(xs.a:W')+1:=Int.succ_ofNat_pos xs.a;simp[atI,Ek,this]
def
jH{a:Type}(xs:U a)(x:a):atI (xs++[x]) (-1)=Z x:=by
 let b:(-1+((xs.a:W')+1)).ν=xs.a:=∅
 have c : -((xs.a:W')+1) <= -1:=∅
 simp[atI,Ek,b,c]
def
Zo3(a:At):Q5 [.r (aD a)]=Z (.r (Dx a)):=by
 ext a<;>simp[Q5,AU,eY,Hn,QQ,aD,Dx,show(2:Y)<=Av by ext]
def
jI(l:U At)(h:l.a<=1000):MV [.r (Af l)]=Z (.r (.S (l.j Dx))):=by
 let hc:=Zw (b:=Zc 0) (e:=Vl) (ρ:=[.no]) aD Dx l λa _=>#[[.r<|aD a],rfl,by
  have:=Zo3 a;rwa[Vl,this,Em]]
 simp[MV,AU,fS,Af,show l.length<=Av from BN h (by ext),Zq,hc,-B7]
def
Sf(s0:Sl):∀(c acc:Bj)(s2:Sl),acc.a+c.a<100000->∃a,ZB (Zc 2) Kh (c.j Af) [s0,.φ (acc.j Af),s2]=.Q [s0,.φ ((acc++DG acc.getLast? c).j Af),a]
 |[],acc,s2,_=>#[s2,by simp[ZB,DG]]
 |l::c,acc,s2,hz=>by
  erw[Ct]at hz;let d:acc.a<Av:=BM (show acc.a<100000 by show EF hz) (by ext);let k:K8 (Z<|.o 1)=Z (.o (-1)):=rfl;rwa[ZB];rcases List.eq_nil_or_concat acc with rfl|⟨pre,x,rfl⟩
  .let(a,e):=Sf s0 c [l] (.r<|Af l) (by simp;lia);apply⟨a,?_⟩;let i:Kh [s0,.φ<|[].j Af,.r<|Af l]=.Q [s0,.φ<|[l].j Af,.r<|Af l]:=by
    simp[Kh,show(0:Y)<Av by ext]
   show e
  .rw[List.concat_eq_append]at hz d ⊢;let f:Am (.R<|(pre++[x]).j Af) (.o (-1))=Z (Af x):=by
    rw[Er];show jH _ _
   let g:ZK (Z<|.R<|(pre++[x]).j Af)=Z J':=by simp
   let h:=i7 x l;let b:(pre++[x]).getLast?=Z x:=by simp
   by_cases j:x=l
   .subst j;let(a,e):=Sf s0 c (pre++[x]) (.r<|Af x)<|Nat.lt_of_succ_lt hz;apply⟨a,?_⟩;let i:Kh [s0,.φ<|(pre++[x]).j Af,.r<|Af x]=.Q [s0,.φ<|(pre++[x]).j Af,.r<|Af x]:=by
     rwa[Kh,g,k,f,h]
    rw[i,b,DG,if_pos rfl,<- b];show e
   .let(a,e):=Sf s0 c (pre++[x]++[l]) (.r<|Af l) (by simp at hz ⊢;lia);apply⟨a,?_⟩;let i:Kh [s0,.φ<|(pre++[x]).j Af,.r<|Af l]=.Q [s0,.φ<|(pre++[x]++[l]).j Af,.r<|Af l]:=by
     rw[show((pre++[x]++[l]).j Af)=(pre++[x]).j Af++[Af l] by simp];rwa[Kh,g,k,f,h,j,decide_false,Eo,Bx,d]
    rw[i,b,DG,if_neg (by exists j)];rw[show(pre++[x]++[l]).getLast?=Z l by simp]at e;rw[show pre++[x]++l::DG (Z l) c=pre++[x]++[l]++DG (Z l) c by simp];show e
def
Sg(s:Sl)(b:Bj)(f:s=#v[b.j Af]\/s=.ϵ (b.j Af))(g:b.a<64)(d:∀l∈b,l≠[]/\l.a<=1000):OT [s]=Z (.φ ((DG J (Zz BU b)).j Af)):=by
 let c:=Xu (F:=MV) Af Fp O' b g (λl=>.S<|l.map Dx) (λl h=>jI l (d l h).2) (λl h=>by
  cases l with
  |nil=>show absurd rfl (d [] h).1
  |cons a r=>ext a<;>show#[_,_,rfl]) (λl _ m _=>Xz 3 l m)
 let(i,e):=Sf s (Zz BU b) [] .no (by rw[(ZC BU b).ϗ];simp;lia);erw[Do,EJ,List.getLast?_nil]at e;apply Zx rfl ?_;change V6 [s,.no,.no]=_
 rcases f with rfl|rfl<;>rwa[V6,ZN,ZD,Ll,D3,ZZ,show Zf (Z ([]:U D))=Z []from rfl,c,e]
def
Ko(l:U At)(j:Y)(h:l.a<=1000):Gm [.r (Af l),‹j›]=Z (.r (aD (l.B j .κ))):=by
 by_cases a:j<l.a
 .have:Am (Af l) (.o j)=Z (aD<|l.B j .κ):=by
   show ZE (by simp[BZ a,C6])
  simp[Gm,AU,UE,-Am,-Zo,show Zo [Af l]=Z (.int l.length) by simp[Af],this,Int.ofNat_lt.mpr a]
 .rw[show l.B j .κ=.κ by grind];simp[Gm,AU,UE,-Am,-Zo,show Zo [Af l]=Z (.int l.length) by simp[Af],show ¬ (j:W')<(l.length:W') by lia,aD]
def
jJ(l:U At)(n:Y):Fz (Af l) (Z ((n:W')+1)) J=Z (Af (l.Ψ (n+1))):=by
 change Z (D.S<|Fc (l.j aD) (Z<|(n:W')+1) J)=_
 rw[Uz _ _ ∅,<- List.map_drop,show((n:W')+1).ν=n+1 by show Int.toNat_natCast_add_one];rfl
def
Zze{l:U At}(h:Ln l):Vo [.r (Af l)]=Z (.r (.bl J')):=by
 let l1:=h.l1;let l4:=h.l4;let hc:=Zw (b:=Zc 0) (e:=Vm) (ρ:=[.no]) aD (λ_=>D.bl J') l λa c=>#[[.r<|aD a],rfl,by
  have:=Xk (aD a) (h.r a c).2;rw[show(FG (aD a)||B3 (aD a))=J' from(h.r a c).1]at this;rwa[Vm,this]]
 rw[show l.j (λ_=>D.bl J')=(l.j λ_=>J').j D.bl by rw[B7];rfl]at hc;let c:=O8 l;let q:=Zl (l.j aD) (by simp;lia);let d:Zo [.S<|l.j aD]=Z (.o l.a):=by simp
 let f:E2 (.o l.a) (.o 1)=Z (.bl O'):=by
  change Z (D.bl<|decide<|(l.a:W')<1)=_
  rw[decide_eq_false ∅]
 let g:Fa (.o l.a) (.o 4)=Z (.bl O'):=by
  change Z (D.bl<|decide<|(4:W')<(l.a:W'))=_
  rw[decide_eq_false ∅]
 apply Zx rfl ?_;change Vn [.r<|.S<|l.j aD]=_
 generalize (l.j λ_=>J').j D.bl=k,l.j aD=A at *;rwa[Vn,show Cy [.tup A,.ty "tuple"]=Z (.bl J')from rfl,show ZK (Z<|.bl J')=Z J' from rfl,d,f,g,Zh,q,show ∀i,Zq 1 [] i=[.no]from λ_=>rfl,hc,c]
structure Sn(ls:Bj)(S:Br)(n:Y):V' where
 tp:∀p∈S,EQ p.1=O'
 ln:S.a<=n
 sy:∀(j:Y) (a:At) (d:D),Zs S (.S [.o j,a])=Z d->∃l∈ls,l[j]?=Z a/\d=Af (l.Ψ (j+1))
variable {ls:Bj}{p:Y}(hg:GL ls p)
include hg
def
jK{l:U At}(p:l∈ls)(s0 s2:Sl):∀(r:U At)(j:Y)(S:Br)(n:Y)(s4 s5 f:Sl),l.Ψ j=r->Sn ls S n->n+r.a<=10000->∃m s t u,Sn ls m (n+r.a)/\ZB (Z8 2 (Zu (Zc 4) (Zu (Zc 5) Z7))) OQ (D4 j (r.j aD)) [s0,.φ (Zb S) .d,s2,.r (Af l),s4,s5,f]=.Q [s0,.φ (Zb m) .d,s2,.r (Af l),s,t,u]
 |[],j,S,n,s4,s5,f,_,h,_=>#[S,s4,s5,f,h,rfl]
 |a::r,j,S,n,s4,s5,f,C,h,hz=>by
  rw[Ct]at hz;let E:l[j]?=Z a:=by
   have:=congrArg (λx=>x[0]?) C;exists this
  let hd:l.Ψ (j+1)=r:=by rw[<- List.drop_drop,C];rfl
  let v:=jJ l j;rw[hd]at v;let g:=Lj [.o j,a] h.tp;let G:S.a<Av:=Hg h.ln<|BM (show n<100000 by lia) (by ext);let H:Dw (.S [.o j,aD a])=Z (.S [.o j,a]):=N8<|.S [.o j,a];let ne:Cp (Af r) (Af r)=Z (.bl O'):=by rw[i7];simp
  obtain⟨o,P,w⟩:∃o,Sn ls o (n+1)/\OQ [s0,.φ (Zb S) .d,s2,.r<|Af l,‹j›,.r<|aD a,f]=.Q [s0,.φ (Zb o) .d,s2,.r<|Af l,‹j›,.r<|aD a,.r<|Af r]:=by
   cases e:Zs S (.S [.o j,a])with
   |some d=>
    let(F,y,w,rfl):=h.sy j a d e;rw[hg.fn F y l p j a w E,hd]at e;apply#[S,#[h.tp,Jo h.ln,h.sy],?_];generalize Af l=A,Af r=B at *;rwa[OQ,E1,EZ,v,N9,Jk,E9,ZW,H,g,G,e,ne,Qt]
   |none=>
    apply#[ZU S (.S [.o j,a])<|Af r,⟨λq z=>?_,BN (Mw _ _ _)<|L8 h.ln,λi b d k=>?_⟩,?_]
    .rcases T5 z with z|rfl
     .show h.tp q z
     .rfl
    .rw[Iz]at k;by_cases c:(KT.S [.o j,a])=.S [.o i,b]
     .rw[if_pos c]at k;simp at c;let(c,rfl):=c;obtain rfl:j=i:=∅
      show#[l,p,E,by rw[hd];show(E6 k).Ζ]
     .rw[if_neg c]at k;show h.sy i b d k
    .generalize Af l=A,Af r=B at *;rwa[OQ,E1,EZ,v,N9,Jk,E9,ZW,H,g,G,e,ne,Qt]
  let(m,L,M,N,K,Q):=jK p s0 s2 r (j+1) o (n+1) ‹j› (.r<|aD a) (.r<|Af r) hd P ∅;apply⟨m,L,M,N,?_,?_⟩
  .rw[Ct,Ma r.a 1,<- Nat.add_assoc];show K
  .rw[AQ,D4,ZB,show Z8 2 (Zu (Zc 4)<|Zu (Zc 5) Z7) (.S [.o j,aD a]) [s0,.φ (Zb S) .d,s2,.r<|Af l,s4,s5,f]=Z [s0,.φ (Zb S) .d,s2,.r<|Af l,‹j›,.r<|aD a,f]from rfl];erw[w];show Q
def
jM{W:U D}{l0:U At}(s:Am (.R W) (.o 0)=Z (Af l0))(hp:l0.a=p):∀(f pre:Bj)(S F:Br)(n:Y)(s3 s4 s5 b:Sl),ls=pre++f->Sn ls S n->n+4*f.a<=1000->(∀q∈F,EQ q.1=J')->F.a+f.a<=1000->(∀a,(Zs F (.at a)).υ=J'->a∈pre.j hd)->∃ρ,ZB (Zc 3) RD (f.j Af) [#v[W],.φ (Zb S) .d,.φ (Zb F) .d,s3,s4,s5,b]=.Q ρ
 |[],_,S,F,n,s3,s4,s5,b,_,_,_,_,_,_=>#[_,rfl]
 |l::f,pre,S,F,n,s3,s4,s5,b,k,h,hz,t,B,hv=>by
  rw[Ct]at hz B;let u:l∈ls:=by rw[k];simp
  let len:=hg.ϧ l u;let p4:=hg.p4;let p1:=hg.p1;let l1:Zo [Af l]=Z (.o p):=by simp[Af,len]
  let C:Zo [Af l0]=Z (.o p):=by simp[Af,hp]
  let E:Cp (.o p) (.o p)=Z (.bl O'):=by simp
  let G:Am (Af l) (.o 0)=Z (aD<|hd l):=by
   cases l with
   |nil=>simp at len;lia
   |cons a r=>show ZE (j:=0) rfl
  let H:Zs F (.at<|hd l)=J:=by
   cases e:Zs F (.at<|hd l)with
   |none=>rfl
   |some d=>
    let R:=hv (hd l) (by rw[e];rfl);let i:=hg.hdn;rw[k,Er,Ge]at i;show absurd rfl<|i.2.2 _ R _ (by simp)
  let g:=Hf (hd l) t;let di:DF O' (aD<|hd l) (.R (Zb F) .d)=Z (.bl O'):=by
   rw[Li,IG];erw[DB,g,if_true,H];rfl
  let K:F.a<Av:=BM (show F.a<100000 by lia) (by ext);let(w,x,y,z,i,L):=jK hg u #v[W] (.φ (Zb<|ZU F (.at<|hd l)<|.bl J') .d) l 0 S n s4 s5 b rfl h ∅;let(ρ,M):=jM s hp f (pre++[l]) w (ZU F (.at<|hd l)<|.bl J') (n+l.length) (.val<|Af l) x y z (by rw[k];simp) i ∅ (λq m=>by
   rcases T5 m with m|rfl
   .show t q m
   .rfl) (by have:=Mw F (.at<|hd l)<|.bl J';lia) λa o=>by
   rw[Iz]at o;by_cases c:(KT.at<|hd l)=.at a
   .cases c;simp
   .rw[if_neg c]at o;rw[Er];show Ie _<|hv a o
  apply#[ρ,?_];let N:Hh (Af l)=Z (l.j aD):=rfl;let ok:=IG<|hd l;let P:RD [#v[W],.φ (Zb S) .d,.φ (Zb F) .d,.r<|Af l,s4,s5,b]=.Q [#v[W],.φ (Zb w) .d,.φ (Zb<|ZU F (.at<|hd l)<|.bl J') .d,.r<|Af l,x,y,z]:=by
   generalize Af l=A,aD (hd l)=V,l.j aD=Q at *;rwa[RD,l1,s,C,E,G,di,Iy,E9,ZW,ok,g,K,ZD,ID,N,L]
  rw[AQ,ZB,show Zc 3 (Af l) [#v[W],.φ (Zb S) .d,.φ (Zb F) .d,s3,s4,s5,b]=Z [#v[W],.φ (Zb S) .d,.φ (Zb F) .d,.r<|Af l,s4,s5,b]from rfl];erw[P];show M
def
GL.go:MY [.r (LD ls)]=Z (.r (.bl J')):=by
 let n1:=hg.n1;let n6:=hg.n6;obtain⟨a,r,rfl⟩:∃a r,ls=a::r:=by
  cases ls with
  |nil=>simp at n1
  |cons l r=>show#[l,r,rfl]
 let hc:=Zw (b:=Zc 0) (e:=VR) (ρ:=[.no]) Af (λ_=>D.bl J') (a::r) λl d=>#[[.r<|Af l],rfl,by
  have:=Zze<|hg.ln l d;rwa[VR,this]]
 rw[show(a::r).j (λ_=>D.bl J')=((a::r).j λ_=>J').j D.bl by rw[B7];rfl]at hc;let f:=O8<|a::r;let q:=Zl ((a::r).map Af) (by rw[Bx];lia);let(c,e):=jM hg (W:=(a::r).map Af) (l0:=a) (ZE (j:=0) rfl) (hg.len a Bb) (a::r) [] [] [] 0 .no .no .no .no rfl #[λ_ h=>(nomatch h),Bg _,λ_ _ _ h=>by cases h] ∅ (λ_ h=>(nomatch h)) (by rw[Ja];lia) λ_ h=>by ext h
 rw[show Zb []=[]from rfl]at e;change MY [#v[(a::r).j Af]]=_
 generalize (a::r).j Af=W,((a::r).j λ_=>J').j D.bl=i at *;apply Zx rfl ?_;change VS [#v[W],.no,.no,.no,.no,.no,.no]=_
 rwa[VS,gA,gm,Zh,q,show ∀g,Zq 1 [] g=[.no]from λ_=>rfl,hc,f,show ZK (Z<|.bl J')=Z J' from rfl,gz,gq,EL,gy,gr,gw,gt,ZD,e,gv,gu]
def
GL.il:V2 [.r (LD ls)]=Z (.r (.bl J')):=by
 let n1:=hg.n1;let n6:=hg.n6;let b:Zo [LD ls]=Z (.o ls.a):=by simp
 let c:E2 (.o ls.a) (.o 1)=Z (.bl O'):=by
  change Z (D.bl<|decide<|(ls.a:W')<1)=_
  rw[decide_eq_false ∅]
 let d:Fa (.o ls.a) (.o 40)=Z (.bl O'):=by
  change Z (D.bl<|decide<|(40:W')<(ls.a:W'))=_
  rw[decide_eq_false ∅]
 let a:=hg.go;let i:=show Cy [LD ls,.ty "list"]=Z (.bl J')from rfl
 generalize LD ls=W at *;apply Zx rfl ?_;change V1 [.r W]=_
 rwa[V1,i,show ZK (Z<|.bl J')=Z J' from rfl,b,c,d,a]
end
def
BJ.al{a:AB}(h:BJ a):V9 [#v[a.j LD]]=Z (.r (.bl J')):=by
 let n1:=h.n1;let n4:=h.n4;let hc:=Zw (b:=Zc 0) (e:=V7) (ρ:=[.no]) LD (λ_=>D.bl J') a λd c=>#[[.r<|LD d],rfl,by
  let(p,hp):=h.jk d c;rwa[V7,hp.il]]
 rw[show a.j (λ_=>D.bl J')=(a.j λ_=>J').j D.bl by rw[B7];rfl]at hc;let f:=O8 a;let q:=Zl (a.j LD) (by rw[Bx];lia);let c:Zo [.R<|a.j LD]=Z (.o a.a):=by simp
 let g:E2 (.o a.a) (.o 1)=Z (.bl O'):=by
  change Z (D.bl<|decide<|(a.a:W')<1)=_
  rw[decide_eq_false ∅]
 let i:Fa (.o a.a) (.o 4)=Z (.bl O'):=by
  change Z (D.bl<|decide<|(4:W')<(a.a:W'))=_
  rw[decide_eq_false ∅]
 apply Zx rfl ?_;generalize a.j LD=W,(a.j λ_=>J').j D.bl=l at *;change V8 [#v[W]]=_
 rwa[V8,show Cy [.lst W,.ty "list"]=Z (.bl J')from rfl,show ZK (Z<|.bl J')=Z J' from rfl,c,g,i,Zh,q,show ∀j,Zq 1 [] j=[.no]from λ_=>rfl,hc,f]
abbrev Cc:=U At×W'×U W'
def Zv(acc:U Cc):Bj:=acc.j (·.1)
def Dl:U Cc->U At->O (W'×U W')
 |[],_=>J
 |e::r,k=>if e.1=k then Z e.2 else Dl r k
def Dm:U Cc->U At->W'->U Cc
 |[],k,x=>[(k,x,[])]
 |e::r,k,x=>if e.1=k then(e.1,e.2.1,e.2.2++[x])::r else e::Dm r k x
def ZG(v:W'×U W'->D)(e:Cc):KT×D:=(.S e.1,v e.2)
def
Cu{k:U At}:∀{acc:U Cc},Dl acc k=J↔k∉Zv acc
 |[]=>by simp[Dl,Zv]
 |e::r=>by
  let a:=Cu (k:=k) (acc:=r);grind [Dl,Zv]
def
LX(v:W'×U W'->D)(k:U At):∀acc:U Cc,Zs (acc.j (ZG v)) (.S k)=(Dl acc k).j v
 |[]=>rfl
 |e::r=>by
  let a:=LX v k r;erw[AQ,Zs,Dl,ZG,KT.tup.injEq];grind
def
jN{k:KT}{w:D}:∀{kvs:Br},Zs kvs k=J->FU kvs k w=kvs
 |[],_=>rfl
 |p::r,h=>by
  unfold Zs at h;by_cases e:p.1=k
  .rw[if_pos e]at h;ext h
  .rw[if_neg e]at h;unfold FU;rw[if_neg e,jN h]
def
jP(v:W'×U W'->D){k:U At}{x:W'}{p:W'×U W'}:∀{acc:U Cc},(Zv acc).θ->Dl acc k=Z p->FU (acc.j (ZG v)) (.S k) (v (p.1,p.2++[x]))=(Dm acc k x).j (ZG v)
 |e::r,a,h=>by
  erw[Zv,AQ,E7]at a;unfold Dl at h;by_cases c:e.1=k
  .rw[if_pos c]at h;ext h;let b:Zs (r.j<|ZG v) (.S k)=J:=by
    rw[LX,Cu.Ϣ<|c ▸ a.1];rfl
   rwa[FU,Dm,ZG,c,jN b,KT.tup.injEq]
  .rw[if_neg c]at h;erw[AQ,FU,Dm,ZG,c,if_false,KT.tup.injEq];rw[jP v (x:=x) a.2 h]
def
jQ{k:U At}{x:W'}:∀{acc:U Cc},Dl acc k=J->Dm acc k x=acc++[(k,x,[])]
 |[],_=>rfl
 |e::r,h=>by
  unfold Dl at h;by_cases c:e.1=k
  .rw[if_pos c]at h;ext h
  .rw[if_neg c]at h;unfold Dm;rw[if_neg c,jQ h];rfl
def
ZBs(v:W'×U W'->D){k:U At}{x:W'}{p:W'×U W'}{acc:U Cc}(a:(Zv acc).θ)(h:Dl acc k=Z p):ZU (acc.j (ZG v)) (.S k) (v (p.1,p.2++[x]))=(Dm acc k x).j (ZG v):=by
 unfold ZU;rw[LX,h];show jP v a h
def
ZBv(v:W'×U W'->D){k:U At}{x:W'}{acc:U Cc}(h:Dl acc k=J):ZU (acc.j (ZG v)) (.S k) (v (x,[]))=(Dm acc k x).j (ZG v):=by
 unfold ZU;rw[LX,h,jQ h];simp[ZG]
def
O9(k:U At)(x:W'):∀acc:U Cc,Zv (Dm acc k x)=if k∈Zv acc then Zv acc else Zv acc++[k]
 |[]=>rfl
 |e::r=>by
  let a:=O9 k x r;grind [Dm,Zv]
open J in
def
Zwz{k:U At}{x:W'}{acc:U Cc}(h:(Zv acc).θ):(Zv (Dm acc k x)).θ:=by
 rw[O9];split
 .show h
 .next m=>show Ge.Ϣ #[h,by simp,λa d b c=>by simp at c;subst c;show λe=>m<|e ▸ d]
def
jR(k:U At)(x:W'):∀acc:U Cc,(Dm acc k x).a<=acc.a+1
 |[]=>by simp[Dm]
 |e::r=>by
  have:=jR k x r;unfold Dm;split<;>simp<;>lia
def
jS{k k':U At}{x:W'}{acc:U Cc}(h:k'∈Zv (Dm acc k x)):k'=k\/k'∈Zv acc:=by grind [O9]
def Kp:U Cc->Y
 |[]=>0
 |e::r=>e.2.2.a+1+Kp r
def
jU(k:U At)(x:W'):∀acc:U Cc,Kp (Dm acc k x)=Kp acc+1
 |[]=>rfl
 |e::r=>by
  have:=jU k x r;unfold Dm;split<;>simp[Kp]<;>lia
def
XC(v:W'×U W'->D)(k:U At)(acc:U Cc):D6 (.S k) (acc.j (ZG v))=J':=Lj k λp hp=>by
 let(e,_,rfl):=Be.mp hp;rfl
def
GX(l:U At):Dw (Af l)=Z (.S l):=N8<|.S l
abbrev vL(p:W'×U W'):D:=.R ((p.1::p.2).j D.o)
abbrev vC(p:W'×U W'):D:=cel p.1 p.2
abbrev II(v:W'×U W'->D)(acc:U Cc):Sl:=.φ (Zb (acc.j (ZG v))) .d
def Ze(r:U At×W'):D:=.S [Af r.1,.o r.2]
def Dy(a:U (U At×W'))(acc:U Cc):U Cc:=a.Ω (λacc r=>Dm acc r.1 r.2) acc
structure BB(acc:List Cc)(n m:Y):V' where
 nd:(Zv acc).θ
 len:acc.a<=m
 sz:Kp acc<=m
 kl:∀k∈Zv acc,k.a=n
def
BB.add{acc:U Cc}{n m:Y}(h:BB acc n m){k:U At}(b:k.a=n)(x:W'):BB (Dm acc k x) n (m+1):=#[Zwz h.nd,by have:=jR k x acc;have:=h.ϧ;lia,by rw[jU];have:=h.sz;show Nat.add_le_add_right this 1,λd a=>by
  rcases jS a with rfl|c
  .show b
  .show h.kl _ c]
def
BB.nil(n:Y):BB [] n 0:=#[by simp[Zv],by simp,by simp[Kp],λk a=>nomatch a]
def
BB.tab:∀(a:U (U At×W')){acc:U Cc}{n m:Y},BB acc n m->(∀r∈a,r.1.a=n)->BB (Dy a acc) n (m+a.a)
 |[],_,_,_,h,_=>h
 |r::a,acc,n,m,h,b=>by
  have:=BB.tab a (h.add (b r Bb) r.2) λq c=>b q<|Bk _ c;rw[Ct,show m+(a.a+1)=m+1+a.a by show Eq.Ζ (Nat.succ_add_eq_add_succ m a.a)];show this
def Kq(acc:U Cc):U D:=(Zz BU (Zv acc)).j λk=>.S [Af k,vC ((Dl acc k).B (0,[]))]
def
Zxp{acc:U Cc}{k:U At}(h:k∈Zz BU (Zv acc)):∃p,Dl acc k=Z p:=by
 cases a:Dl acc k with
 |some p=>show#[p,rfl]
 |none=>show absurd ((ZC BU<|Zv acc).ϖ.mp h)<|Cu.mp a
def
XD(v:W'×U W'->D)(acc:U Cc):((acc.j (ZG v)).j λp=>kD p.1)=(Zv acc).j Af:=by
 unfold Zv;rw[B7,B7];rfl
def
XE(v:W'×U W'->D){acc:U Cc}{k:U At}{p:W'×U W'}(h:Dl acc k=Z p):DO (.R (Zb (acc.j (ZG v))) .d) (Af k)=Z (v p):=by simp_all [GX,XC,LX]
abbrev LG:=U (U (U At)×Y)
def FK(q:U (U At)×Y)(a:At):At:=((q.1.find? λl=>decide (hd l=a)).B []).B q.2 .κ
def Z3:LG->U At->U At
 |q::Q,a::s=>FK q a::Z3 Q s
 |_,_=>[]
def Jz(q:U (U At)×Y):U (At×D):=q.1.j λl=>(hd l,aD (l.B q.2 .κ))
def DP(q:U (U At)×Y):D:=.R (Zb (FJ [] (Jz q))) .d
abbrev Ak(g:U Y):D:=.S (g.j λ(j:Y)=>D.o j)
inductive AM:List (Bj)->List At->V' where
 |nil:AM [] []
 |cons {ls Ls a as}:a∈ls.j hd->AM Ls as->AM (ls::Ls) (a::as)
def
AM.len{a:AB}{s:U At}(h:AM a s):s.a=a.a:=by
 induction h with
 |nil=>rfl
 |cons _ _ b=>simp[b]
def
LY:∀{Q:LG}{s:U At},s.a=Q.a->(Z3 Q s).a=Q.a
 |[],_,h=>by cases(Qc.mp h);rfl
 |q::Q,a::s,h=>by erw[Z3,Ct];rw[LY (by exists h)]
 |_::_,[],h=>by simp at h
def
ZFy(q:U (U At)×Y)(h:∀l∈q.1,Ln l)(i:q.1.a<=1000):Q6 [.r (LD q.1),‹0›,‹q.2›]=Z (.φ (Zb (FJ [] (Jz q))) .d):=by
 let(a,j):=q;let hc:=Zw (b:=Zc 0) (e:=UY) (ρ:=[.no,‹0›,‹j›]) Af (λl=>D.S [aD<|hd l,aD<|l.getD j .non]) a λl g=>#[[.r<|Af l,‹0›,‹j›],rfl,by
  let c:=Ko l j (by have:=(h l g).l4;lia);rwa[UY,show Gm [.val<|Af l,‹0›]=Z (.val<|aD<|hd l)from(show l.getD 0 .non=hd l by ext l<;>rfl) ▸ Ko l 0 (by have:=(h l g).l4;lia),c,Em,Zf,Ia,if_pos (show(2:Y)<=Av by ext)]]
 let f:=jB (Jz (a,j)) [] (λ_ h=>nomatch h) (by simp[Jz];lia);unfold Jz at f;rw[B7]at f;unfold Jz;rwa[Q6,AU,Ia,eZ,LO,LP,Eh,FV,Zh,Zf,if_pos (show(a.map Af).length<=Av by rw[Bx];show BN i (by ext)),Zq,M6,Ha,EJ,J1,hc,show FC [] (a.map λl=>D.tup [aD<|hd l,aD<|l.getD j .non])=Z (FJ []<|a.map λl=>(hd l,aD<|l.getD j .non))from f,Hc]
def
ZEi(n k:Y)(a:k<n)(L:AB)(hL:L.a=n):atI (L.j λ_=>D.o 0) (k:W')=Z (.o 0):=ZE (by rw[CW,BZ<|KQ a hL.Ζ];rfl)
def
jV(L:AB)(g:U Y):∀(Q:LG)(k:Y),(∀q∈Q,∃p,GL q.1 p)->k+Q.a<=L.a->(∀i q,Q[i]?=Z q->g[k+i]?=Z q.2)->Z4 (Z8 2 (Zu (Zc 0) (Zu (Zc 1) Z7))) (λ_=>Z J') Rt [.no,.no,.r (Kn L),.r (Ak g)] (D4 k (Q.j λq=>LD q.1))=Z (Q.j DP)
 |[],k,_,_,_=>rfl
 |q::Q,k,h,c,d=>by
  erw[Ct]at c;let n:=jV L g Q (k+1) (λl b=>h l<|Bk _ b) ∅ λi f e=>by
   have:=d (i+1) f (by exists e);grind
  let(p,a):=h q Bb;let b:=ZFy q a.ln (by have:=a.n6;lia);let m:atI (g.j λ(j:Y)=>D.o j) (k:W')=Z (.o q.2):=ZE (by rw[CW,show g[k]?=Z q.2 from d 0 q rfl];rfl);let o:Rt [‹k›,.r<|LD q.1,.r<|Kn L,.r<|Ak g]=Z (DP q):=by
   rwa[Rt,Am,ZEi L.length k (EF c) L rfl,m,b,Em,DP]
  rw[AQ,D4,Z4];simp_all
abbrev qs(L:AB)(g:U Y):LG:=L.zip g
def
jW{L:AB}{g:U Y}(h:g.a=L.a):(qs L g).j (·.1)=L:=List.map_fst_zip<|Nat.le_of_eq h.Ζ
def
ZEP{L:AB}{g:U Y}(h:g.a=L.a):(qs L g).j (λq=>LD q.1)=L.j LD:=by
 have:(qs L g).j (λq=>LD q.1)=((qs L g).j (·.1)).j LD:=by rw[B7];rfl
 rw[this,jW h]
def
jX{L:AB}{g:U Y}{q:U (U At)×Y}(h:q∈qs L g):q.1∈L:=(ND h).1
def
ZAe{L:AB}(h:BJ L){g:U Y}(a:g.a=L.a):Ru [#v[L.j LD],.r (Kn L),.r (Ak g)]=Z (.φ ((qs L g).j DP)):=by
 let hd:=jV L g (qs L g) 0 (λq b=>h.jk q.1<|jX b) (by simp;lia) λi q e=>by
  rw[Km];have:=List.getElem?_zip_eq_some.mp e;show this.2
 rw[ZEP a]at hd;let c:=h.n4;let hz:(D4 0<|L.j LD).a<=Av:=by rw[TU,Bx];show BN c (by ext)
 let d:Hh (.R<|L.j LD)=Z (L.j LD):=rfl;rwa[Ru,AU,Ia,f8,LO,LP,Eh,Zh,ID,d,Zf,if_pos hz,Zq,M6,Ha,EJ,J1,hd,ZZ]
def
ZEU{q:U (U At)×Y}(h:(q.1.j hd).θ):((Jz q).j (·.1)).θ:=by
 unfold Jz;rw[B7];show h
def
ZFK{q:U (U At)×Y}{a:At}(h:a∈q.1.j hd):DF O' (aD a) (DP q)=Z (.bl J'):=by grind [DP,ZA5,Jz]
def
jY:∀{a:Bj}{l:U At},(a.j hd).θ->l∈a->a.find? (λx=>decide (hd x=hd l))=Z l
 |x::a,l,c,b=>by
  erw[AQ,E7]at c;rcases Bw.mp b with rfl|b
  .rw[List.find?_cons_of_pos (by simp)]
  .rw[List.find?_cons_of_neg (by
    erw[decide_eq_true_eq];intro z;show c.1<|z ▸ Es b)]
   show jY c.2 b
def
jZ{q:U (U At)×Y}(a:(q.1.j hd).θ){l:U At}(h:l∈q.1):FK q (hd l)=l.B q.2 .κ:=by simp_all [FK,jY]
def
ZDK{q:U (U At)×Y}(b:(q.1.j hd).θ){a:At}(h:a∈q.1.j hd):DO (DP q) (aD a)=Z (aD (FK q a)):=by
 let(l,c,rfl):=Be.mp h;rw[jZ b c];show Zzb (ZEU b)<|Be.Ϣ ⟨l,c,rfl⟩
def
j0:∀{Q:LG}{s:U At},AM (Q.j (·.1)) s->Z4 (Z8 2 (Zu (Zc 0) (Zu (Zc 1) Z7))) (λ_=>Z J') Ly [.no,.no] (Fe (λx y=>D.S [x,y]) (Q.j DP) (s.j aD))=Z ((Q.j λ_=>J').j D.bl)
 |[],_,h=>by ext h;rfl
 |q::Q,_,h=>by
  cases h with
  |@cons _ _ a e b c=>
  let d:Ly [.r<|DP q,.r<|aD a]=Z (.bl J'):=by
   have:=ZFK b;rwa[Ly,this]
  rwa[XF,Z4,Z8,Zu,Z7,d,j0 c]
def
j1:∀{Q:LG}{s:U At},(∀q∈Q,(q.1.j hd).θ)->AM (Q.j (·.1)) s->Z4 (Z8 2 (Zu (Zc 0) (Zu (Zc 1) Z7))) (λ_=>Z J') OX [.no,.no] (Fe (λx y=>D.S [x,y]) (Q.j DP) (s.j aD))=Z ((Z3 Q s).j aD)
 |[],_,_,h=>by ext h;rfl
 |q::Q,_,b,h=>by
  cases h with
  |@cons _ _ a g c d=>
  let e:OX [.r<|DP q,.r<|aD a]=Z (aD<|FK q a):=by
   have:=ZDK (b q Bb) c;rwa[OX,this]
  rwa[XF,Z4,Z8,Zu,Z7,e,j1 (λq f=>b q<|Bk _ f) d,Z3]
def
ZoS{Q:LG}{s:U At}(a:AM (Q.j (·.1)) s)(hz:Q.a<=4):MO [#v[Q.j DP],.r (Af s)]=Z (.r (.bl J')):=by
 let hc:=j0 a;let b:=O8 Q;let c:=Zl (Fe (λx y=>D.S [x,y]) (Q.j DP) (s.j aD)) (by simp;lia);apply Zx rfl ?_;unfold Af;generalize (Q.j λ_=>J').j D.bl=B,s.j aD=S,Q.j DP=L at *;change OD [#v[L],.r<|.S S]=_
 rwa[OD,Zh,HX,Hh,show Zq 2 [] [#v[L],.val<|.tup S]=[.no,.no]from rfl,c,hc,b]
def Kr(r:U At×W'):D:=.S [Af r.1,cel r.2 []]
def
Zt0{Q:LG}{s:U At}(h:∀q∈Q,(q.1.j hd).θ)(r:AM (Q.j (·.1)) s)(hz:Q.a<=4)(s1 s5:Sl)(x:W'){acc:U Cc}{n m:Y}(t:BB acc n m)(u:m<1000):OY [#v[Q.j DP],s1,II vC acc,.r (Af s),.r (cel x []),s5]=.Q [#v[Q.j DP],s1,II vC (Dm acc (Z3 Q s) x),.r (Af s),.r (cel x []),.r (Af (Z3 Q s))]:=by
 let i:=ZoS r hz;let hc:=j1 h r;let H:=Zl (Fe (λx y=>D.S [x,y]) (Q.j DP) (s.j aD)) (by simp;lia);let A:∀x y z w,Zk DC (λa=>Zi (DN<|ZA<|(Zh 2 [] (HX (λa=>BK a 0) (λa=>BK a 3)) (Z8 2<|Zu (Zc 0)<|Zu (Zc 1) Z7) (λ_=>Z J') OX) a) (Z [])) [#v[Q.j DP],x,y,.r<|Af s,z,w]=Z (Af<|Z3 Q s):=by
  simp_all [Af,DP,DB,Ec]
 generalize Q.j DP=L,Z3 Q s=k at *;let c:=XC vC k acc;let e:(acc.j<|ZG vC).a<Av:=by rw[Bx];show Hg t.ϧ<|BM u (by ext)
 let j:=ZW<|acc.j<|ZG vC;let f:DF O' (Af k) (.R (Zb<|acc.j<|ZG vC) .d)=Z (.bl (Dl acc k).υ):=by
  rw[Li,GX k];show(if D6 (.S k) (acc.j<|ZG vC)=J' then _ else _)=_
  rw[if_pos c,LX vC k acc,Qq];cases(Dl acc k).υ<;>rfl
 let b:∀d,NI (Z (Dl acc k).υ) ((Zg OC<|λa=>Zi (DN<|(Za DO (λa=>Bi a 2) (λa=>Bi a 5)) a) (Zi (Df a 4)<|some [])) [#v[L],s1,II vC acc,.r<|Af s,.r<|cel x [],.r<|Af k]) (Z<|cel x [])=Z d->ZU (acc.j<|ZG vC) (.S k) d=(Dm acc k x).j (ZG vC)->OY [#v[L],s1,II vC acc,.r<|Af s,.r<|cel x [],s5]=.Q [#v[L],s1,II vC<|Dm acc k x,.r<|Af s,.r<|cel x [],.r<|Af k]:=by
  intro d B C;unfold II at *;let l:=A s1 (.φ (Zb<|acc.map<|ZG vC) .d) (.val<|cel x []) s5;generalize acc.map (ZG vC)=o at *;unfold OY;let E:ZK ((Zg MO<|λa=>Zi (Df a 0)<|Zi (Df a 3)<|some []) [#v[L],s1,.φ (Zb o) .d,.r<|Af s,.r<|cel x [],s5])=Z J':=by
   rwa[i,ZK]
  erw[E,ZF,Zd,l,ZJ,LQ,LR];let G:Za (DF O') (λa=>Bi a 5) (λa=>Bi a 2) [#v[L],s1,.φ (Zb o) .d,.r<|Af s,.r<|cel x [],.r<|Af k]=Z (.bl (Dl acc k).υ):=by
   rwa[f]
  rw[G,show Bd [#v[L],s1,.φ (Zb o) .d,.r<|Af s,.r<|cel x [],.r<|Af k] 4=Z (cel x [])from rfl];erw[AI];rw[B];rwa[Iy,E9,j,GX k,c,C,Bool.true_and,decide_eq_true e]
 cases g:Dl acc k with
 |none=>
  rw[g]at b;show b (vC (x,[])) rfl<|ZBv vC g
 |some p=>
  rw[g]at b;apply b (vC (p.1,p.2++[x])) ?_<|ZBs vC t.nd g;rwa[NI,Option.isSome,XE vC g,Zwy p.1 x p.2 []]
def CM(Q:LG)(a:U (U At×W')):U (U At×W'):=a.j λr=>(Z3 Q r.1,r.2)
def
j2{Q:LG}(h:∀q∈Q,(q.1.j hd).θ)(hz:Q.a<=4)(s1:Sl):∀(d:U (U At×W'))(acc:U Cc)(m:Y)(s3 s4 s5:Sl),(∀r∈d,AM (Q.j (·.1)) r.1)->BB acc Q.a m->m+d.a<1000->∃e f g,ZB (Z8 2 (Zu (Zc 3) (Zu (Zc 4) Z7))) OY (d.j Kr) [#v[Q.j DP],s1,II vC acc,s3,s4,s5]=.Q [#v[Q.j DP],s1,II vC (Dy (CM Q d) acc),e,f,g]
 |[],acc,m,s3,s4,s5,_,i,_=>#[s3,s4,s5,rfl]
 |r::d,acc,m,s3,s4,s5,j,i,k=>by
  erw[Ct]at k;let(a,b,c,l):=j2 h hz s1 d (Dm acc (Z3 Q r.1) r.2) (m+1) (.r<|Af r.1) (.val<|cel r.2 []) (.val<|Af<|Z3 Q r.1) (λq n=>j q<|Bk _ n) (i.add (LY (by simpa using(j r Bb).ϧ)) r.2) ∅;apply⟨a,b,c,?_⟩;rwa[Kr,ZB,Z8,Zu,Z7];rw[Zt0 h (j r Bb) hz s1 s5 r.2 i<|EF k];show l
def
Zmh{Q:LG}(h:∀q∈Q,(q.1.j hd).θ)(B:0<Q.a)(hz:Q.a<=4)(f:U (U At×W'))(m:∀r∈f,AM (Q.j (·.1)) r.1)(n:f.a<64):Wf [#v[Q.j DP],#v[f.j Kr]]=Z (.φ (Kq (Dy (CM Q f) []))):=by
 let ok:=BB.tab (CM Q f) (BB.ώ Q.a) λr h=>by
  let(t,u,rfl):=Be.mp h;show LY (by simpa using(m t u).ϧ)
 let la:(CM Q f).a=f.a:=Bx _;let(a,b,c,e):=j2 h hz #v[f.j Kr] f [] 0 .no .no .no m (BB.ώ _) ∅;generalize Dy (CM Q f) []=g at *;let j:(Zv g).a<64:=by unfold Zv;rw[Bx];have:=ok.ϧ;lia
 let o:=Sg #v[(Zv g).j Af] (Zv g) (.O rfl) j λl n=>by
  have:=ok.kl l n;show#[λz=>by rw[z]at this;simp at this;lia,∅]
 rw[Xv _ _ ((ZC BU _).nodup_iff.Ϣ ok.nd) (λ_ e=>by ext e),<- XD vC]at o;let hc:=Zw (b:=Zc 0) (e:=Wd) (ρ:=[.no,.ϵ (Zb<|g.map<|ZG vC) .d]) Af (λk=>.S [Af k,vC<|(Dl g k).getD (0,[])]) (Zz BU<|Zv g) λk w=>#[[.r<|Af k,.ϵ (Zb<|g.j<|ZG vC) .d],rfl,by
  let(p,hp):=Zxp w;rw[hp];rwa[Wd,XE vC hp,Option.getD]]
 let A:=Zl ((Zz BU<|Zv g).map Af) (by rw[Bx,(ZC _ _).length_eq];lia);let i:=cB<|g.map<|ZG vC;rw[show II vC []=.own [] .d from rfl]at e;unfold II at e;unfold Kq;apply Zx rfl ?_;generalize Q.map DP=L,f.map Kr=R,g.map (ZG vC)=s,(Zz BU<|Zv g).map Af=W,(Zz BU<|Zv g).map (λk=>D.S [Af k,vC<|(Dl g k).B (0,[])])=T at *;change We [#v[L],#v[R],.no,.no,.no,.no]=_
 rwa[We,EL,ZD,ZZ,Zh,show ∀x y z,Zq 1 [2] [#v[L],#v[R],.own (Zb s) .d,x,y,z]=[.no,.lent (Zb s) .d]from λ_ _ _=>rfl,GH,e,i,o,EI,A,hc]
def
BJ.hdn{L:AB}(h:BJ L):∀a∈L,(a.j hd).θ:=λa b=>by let(p,c):=h.jk a b;show c.hdn
abbrev C3(L:AB)(g:U Y)(a:U (U At×W')):U D:=Kq (Dy (CM (qs L g) a) [])
def
j3{c:AB}(h:BJ c){g:U Y}(d:g.a=c.a)(a:U (U At×W'))(f:∀r∈a,AM c r.1)(i:a.a<64):RJ [#v[c.j LD],#v[a.j Ze],.r (Ak g)]=Z (.φ (C3 c g a)):=by
 let n1:=h.n1;let n4:=h.n4;let j:=Zmh (Q:=qs c g) (λq k=>h.hdn q.1<|jX k) (by simp;lia) (by simp;lia) a (by rw[jW d];show f) i;let l:=Xt h;let m:=ZAe h d;let hc:=Zw (b:=Z8 2<|Zu (Zc 0)<|Zu (Zc 1) Z7) (e:=Wr) (ρ:=[.no,.no]) Ze Kr a λr _=>#[[.r<|Af r.1,‹r.2›],rfl,by
  rwa[Wr,ZtN #v[[.int r.2]] r.2 []<|.inl rfl,Kr]]
 let n:=Zl (a.j Ze) (by rw[Bx];lia);unfold C3;generalize c.j LD=L,Kn c=o,Ak g=Y',(qs c g).j DP=W,a.j Kr=C,a.j Ze=R,Kq (Dy (CM (qs c g) a) [])=T at *;apply Zx rfl ?_;change Ws [#v[L],#v[R],.r Y',.no]=_
 rwa[Ws,ZZ,Zh,show Zq 2 [] [#v[L],#v[R],.val Y',.no]=[.no,.no]from rfl,En,n,hc,l,m,EI,j,HJ]
def
Sh{a:Type}[DecidableEq a]:∀(l A:U a),l.θ->(∀x∈l,x∈A)->l.a<=A.a
 |[],_,_,_=>Fk _
 |x::l,A,h,c=>by
  let(d,f):=E7.mp h;let g:=Sh l (A.erase x) f λy b=>(List.mem_erase_of_ne (show y≠x from λe=>d<|e ▸ b)).Ϣ (c y<|Bk _ b);grind
def
IJ{c:Type}{b:D->VE->O VE}{t:VE->O j'}{e:Az}{ρ:VE}(G F:c->D)(p:c->j'):∀xs:U c,(∀x∈xs,∃a,b (G x) ρ=Z a/\t a=Z (p x)/\e a=Z (F x))->Z4 b t e ρ (xs.j G)=Z ((xs.χ p).j F)
 |[],_=>rfl
 |x::xs,h=>by
  let(a,f,g,i):=h x Bb;let d:=IJ G F p xs λy j=>h y<|Bk _ j;erw[AQ,Z4,f,g];cases hp:p x with
  |true=>rwa[i,d,List.filter_cons,hp]
  |false=>erw[d,List.filter_cons,hp,F5,if_false]
abbrev KE:=U At×D
def Hu(e:KE):D:=.S [Af e.1,e.2]
def Cr(es:U KE):Br:=es.j λe=>(.S e.1,e.2)
def
Sj(es:U KE):∀p∈Cr es,EQ p.1=O':=λp hp=>by
 let(e,_,rfl):=Be.mp hp;rfl
def
Sk:∀(es:U KE)(k:U At),(Zs (Cr es) (.S k)).υ=decide (k∈es.j (·.1))
 |[],k=>rfl
 |e::r,k=>by
  let a:=Sk r k;erw[Cr,AQ,Zs,KT.tup.injEq]at a ⊢;by_cases h:e.1=k
  .simp[h]
  .let b:¬ k=e.1:=λz=>h z.Ζ;rw[if_neg h,a];simp[b]
def
j4{es:U KE}(h:∀e∈es,AZ 12 e.2=J'){k:U At}{d:D}(e:Zs (Cr es) (.S k)=Z d):AZ 12 d=J':=by
 induction es with|nil=>cases e|cons x r a=>
  erw[Cr,AQ,Zs,KT.tup.injEq]at e;by_cases c:x.1=k
  .grind [Bb]
  .rw[if_neg c]at e;show a (λy b=>h y<|Bk _ b) e
def
So:∀(es a:U KE),((a++es).j (·.1)).θ->a.a+es.a<=100000->FC (Cr a) (es.j Hu)=Z (Cr (a++es))
 |[],a,_,_=>by rw[Eh];rfl
 |e::r,a,b,hz=>by
  erw[Ct]at hz;let c:(Cr a).a<Av:=by
   unfold Cr;rw[Bx];show BM (show a.a<100000 by show EF hz) (by ext)
  let hv:Zs (Cr a) (.S e.1)=J:=by
   have:=Sk a e.1;let d:e.1∉a.j (·.1):=λd=>by
    grind
   simp_all
  let hp:ZU (Cr a) (.S e.1) e.2=Cr (a++[e]):=by
   unfold ZU;grind [Cr]
  let f:=So r (a++[e]) (by rw[Jm];show b) (by simp;lia);rwa[Hu,FC,GX e.1,Lj e.1<|Sj a,c,hp];simp_all
def
j5(es:U KE):((Cr es).j λp=>kD p.1)=(es.j (·.1)).j Af:=by
 unfold Cr;rw[B7,B7];rfl
def Ks(a b:U KE):Bj:=Zz BU ((a.j (·.1)).χ (λk=>!Bl ((Zs (Cr b) (.S k)).B .κ) ((Zs (Cr a) (.S k)).B .κ))++(b.j (·.1)).χ λk=>!decide (k∈a.j (·.1)))
def
ZF8(c f:U KE)(n1:(c.j (·.1)).θ)(n2:(f.j (·.1)).θ)(Q:∀e∈c,AZ 12 e.2=J')(T:∀e∈f,AZ 12 e.2=J')(A:Bj)(L:∀e∈c,e.1∈A)(M:∀e∈f,e.1∈A)(N:A.a<64)(g:∀k∈A,k≠[]/\k.a<=1000):RF [#v[c.j Hu],#v[f.j Hu]]=Z (.φ ((Ks c f).j Af))/\(Ks c f).a<64:=by
 let P:=Sh _ A n1 λk g=>by let(e,n,rfl):=Be.mp g;show L e n
 let Y':=Sh _ A n2 λk g=>by let(e,n,rfl):=Be.mp g;show M e n
 rw[Bx]at P Y';let y:=So c [] (by exists n1) (by simp;lia);let z:=So f [] (by exists n2) (by simp;lia);rw[EJ]at y z;unfold Ks;generalize hp:(λk:U At=>!Bl ((Zs (Cr f)<|.tup k).getD .non) ((Zs (Cr c)<|.tup k).getD .non))=p,o:(λk:U At=>!decide (k∈c.j (·.1)))=r;let c1:=IJ (b:=Zc 0) (t:=Wg) (e:=gJ) (ρ:=[.no,.ϵ (Zb<|Cr f) .d,.val<|.lst (Zb<|Cr c) .d]) Af Af p (c.map (·.1)) λk g=>#[[.r<|Af k,.ϵ (Zb<|Cr f) .d,.r<|.R (Zb<|Cr c) .d],rfl,by
  let q:D6 (.S k) (Cr f)=J':=Lj k<|Sj f;let(d,hd):=Option.isSome_iff_exists.mp (show(Zs (Cr c)<|.tup k).isSome=J' by rw[Sk c,decide_eq_true g]);let B:=(λk d=>j4 Q (k:=k) (d:=d)) k d hd;let C:AZ 12 ((Zs (Cr f)<|.S k).B .κ)=J':=by
   cases hh:Zs (Cr f) (.S k)with
   |none=>rfl
   |some x=>show(λk d=>j4 T (k:=k) (d:=d)) k x hh
  let E:Om (.R (Zb<|Cr f) .d) (Af k)=Z ((Zs (Cr f)<|.S k).B .κ):=by
   erw[Om,ZW,GX k,q,if_true]
  let e2:DO (.R (Zb<|Cr c) .d) (Af k)=Z d:=by
   rw[T2,GX k];rwa[Lj k<|Sj c,hd]
  rw[show p k=!Bl ((Zs (Cr f)<|.S k).B .κ) d by rw[<- hp];dsimp only;rw[hd];rfl];apply⟨?_,rfl⟩;rwa[Wg,E,e2,Cp,FY,B,C]]
 let c2:=IJ (b:=Zc 0) (t:=Wh) (e:=gK) (ρ:=[.no,.r<|.lst (Zb<|Cr c) .d]) Af Af r (f.map (·.1)) λk g=>#[[.r<|Af k,.r<|.R (Zb<|Cr c) .d],rfl,by
  apply#[?_,rfl];let E:DF J' (Af k) (.R (Zb<|Cr c) .d)=Z (.bl<|r k):=by
   rw[Li,GX k];rwa[Lj k<|Sj c,Sk c];rw[Bool.true_bne,<- o]
  rwa[Wh,E]]
 let i:((c.j (·.1)).χ p++(f.j (·.1)).χ r).θ:=Ge.Ϣ #[n1.sublist List.filter_sublist,n2.sublist List.filter_sublist,λa G b hb e=>by
  subst e;let q:=(F1.mp hb).2;rw[<- o]at q;erw[decide_eq_true<|(F1.mp G).1]at q;cases q]
 let j:∀k∈(c.j (·.1)).χ p++(f.j (·.1)).χ r,k∈A:=λk g=>by
  rcases C0.mp g with h|h
  .show(show ∀k∈c.j (·.1),k∈A from λk g=>by let(e,n,rfl):=Be.mp g;show L e n) k (F1.mp h).1
  .show(show ∀k∈f.j (·.1),k∈A from λk g=>by let(e,n,rfl):=Be.mp g;show M e n) k (F1.mp h).1
 let m:=Sh _ A i j;let l1:((c.j (·.1)).χ p).a<=c.a:=BN (M9 _ _) (by rw[Bx];show Bg _);let l2:((f.j (·.1)).χ r).a<=f.a:=BN (M9 _ _) (by rw[Bx];show Bg _);generalize (f.j (·.1)).χ r=u,(c.j (·.1)).χ p=s at *;let K:=Sg #v[(s++u).j Af] (s++u) (.O rfl) (Hg m N) λl hl=>g l<|j l hl;rw[Xv _ _ ((ZC BU _).nodup_iff.mpr i) λ_ h=>by cases h]at K;apply#[?_,by rw[(ZC BU _).ϗ];show Hg m N];let G:Zt (.R<|s.j Af) (.R<|u.j Af)=Z (.R<|(s++u).j Af):=by
  rw[xJ _ _ (by simp;lia),Er]
 let s1:=Zl ((c.j (·.1)).j Af) (by simp;lia);let s2:=Zl ((f.j (·.1)).j Af) (by simp;lia);let B:Ea (.R (Zb<|Cr c) .d)=Z ((c.j (·.1)).j Af):=by erw[Ea,ZW,Ec,j5 c]
 let C:Ea (.R (Zb<|Cr f) .d)=Z ((f.j (·.1)).j Af):=by erw[Ea,ZW,Ec,j5 f]
 rw[show Cr []=[]from rfl]at y z;generalize f.j Hu=H,c.j Hu=R,Cr f=F,Cr c=w,(f.j (·.1)).j Af=W2,(c.j (·.1)).j Af=W1 at *;apply Zx rfl ?_;change Wi [#v[R],#v[H],.no,.no,.no]=_
 rwa[Wi,gS,gR,gQ,gP,gL,FV,y,EL,gM,z,gN,Gj,Jd,Zh,show Zq 1 [3,2] [#v[R],#v[H],.val<|.lst (Zb w) .d,.own (Zb F) .d,.no]=[.no,.lent (Zb F) .d,.val<|.lst (Zb w) .d]from rfl,B,s1,c1,ZN,gO,show Zq 1 [2] [#v[R],#v[H],.val<|.lst (Zb w) .d,.val<|.lst (Zb F) .d,.own<|s.map Af]=[.no,.val<|.lst (Zb w) .d]from rfl,C,s2,c2,G,En,K,HJ,ZZ]
def Fq(acc:U Cc):U KE:=(Zz BU (Zv acc)).j λk=>(k,vC ((Dl acc k).B (0,[])))
def
j6(acc:U Cc):Kq acc=(Fq acc).j Hu:=by
 unfold Kq Fq;rw[B7];rfl
def
Sq(acc:U Cc):(Fq acc).j (·.1)=Zz BU (Zv acc):=by
 unfold Fq;rw[B7];show List.map_id _
def
j7(acc:U Cc):∀e∈Fq acc,AZ 12 e.2=J':=λe a=>by
 let(k,_,rfl):=Be.mp a;rfl
def
ZDJ(c:U At)(f:c.a<64):∃zs:U D,OW [#v[c.j aD]]=Z (.φ zs)/\(0<zs.a↔c≠[])/\zs.a<64:=by
 let i:=Zw (b:=Zc 0) (e:=Wb) (ρ:=[.no]) aD (λa=>Af [a]) c λa _=>#[[.r<|aD a],rfl,by
  rfl]
 rw[show c.j (λa=>Af [a])=(c.j λa=>[a]).j Af by rw[B7];rfl]at i;let m:=Sg #v[(c.j λa=>[a]).j Af] (c.j λa=>[a]) (.O rfl) (by exists f) λl f=>by
  let(a,_,rfl):=Be.mp f;show#[by simp,by simp]
 let n:∀k∈DG J (Zz BU<|c.map λa=>[a]),∃a,k=[a]:=λk g=>by
  have:=(ZC BU _).ϖ.mp<|(Xy _ k).mp g;let(a,_,rfl):=Be.mp this;show#[a,rfl]
 let d:0<(DG J<|Zz BU<|c.map λa=>[a]).a↔c≠[]:=by
  cases c with
  |nil=>simp[Zz,DG]
  |cons a r=>show#[λ_=>by simp,λ_=>List.length_pos_of_mem<|(Xy _ [a]).Ϣ<|(ZC BU _).ϖ.Ϣ<|Be.Ϣ ⟨a,Bb,rfl⟩]
 let h:(DG J<|Zz BU<|c.map λa=>[a]).a<64:=Hg (Sd _ _) (by rw[(ZC BU _).ϗ,Bx];show f);generalize DG J (Zz BU<|c.map λa=>[a])=j at *;let o:=Zw (b:=Zc 0) (e:=Wc) (ρ:=[.no]) Af (λk=>aD<|hd k) j λk g=>#[[.r<|Af k],rfl,by
  let(a,rfl):=n k g;rfl]
 let p:=Zl (c.j aD) (by simp;lia);let q:=Zl (j.j Af) (by simp;lia);apply#[j.j λk=>aD<|hd k,?_,by simpa using d,by exists h];generalize c.map aD=M,(c.map λa=>[a]).j Af=V,j.j Af=W,(j.j λk=>aD<|hd k)=Y' at *;apply Zx rfl ?_;change OV [#v[M]]=_
 rwa[OV,Zh,show Zq 1 [] [#v[M]]=[.no]from rfl,p,i,m,EI,q,o,ZZ]
def
ZBZ{l:U At}(h:Ln l)(j:Y):Gm [.r (Af l),‹j›]=Z (.r (aD (l.B j .κ))):=Ko l j (by have:=h.l4;lia)
def
Gq{l:U At}(h:Ln l):Am (Af l) (.o 0)=Z (aD (hd l)):=by
 let b:=h.l1;cases l with
 |nil=>simp at b
 |cons a r=>show ZyH (aD a)<|r.j aD
def
ZC9{l:U At}(h:Ln l):hd l∈l:=by
 let b:=h.l1;cases l with
 |nil=>simp at b
 |cons a r=>show Bb
def
ZDG{c:Bj}{p:Y}(f:GL c p)(j:Y)(a:At)(d:Sm (aD a)/\(Jw (aD a)=J'\/a=.κ)):RL [.r (LD c),‹j›,.r (aD a)]=Z (.r (.bl (decide (∃l∈c,l.B j .κ=a)))):=by
 let m:=IJ (b:=Zc 0) (t:=Wj) (e:=Wk) (ρ:=[.no,‹j›,.r<|aD a]) Af (λl=>aD<|hd l) (λl=>decide<|l.getD j .non=a) c λl n=>#[[.r<|Af l,‹j›,.r<|aD a],rfl,by
  apply#[?_,?_]
  .rwa[Wj,ZBZ (f.ln l n) j,Co,FY,Ho,LJ]
  .rwa[Wk,Gq<|f.ln l n]]
 rw[show(c.χ λl=>decide<|l.getD j .non=a).map (λl=>aD<|hd l)=((c.filter λl=>decide<|l.getD j .non=a).map hd).map aD by rw[B7];rfl]at m;let(g,o,hz,q):=ZDJ ((c.filter λl=>decide<|l.B j .κ=a).j hd) (by
  rw[Bx];have:=M9 (λl=>decide<|l.B j .κ=a) c;have:=f.n6;lia)
 let i:(c.χ λl=>decide<|l.B j .κ=a).j hd≠[]↔∃l∈c,l.B j .κ=a:=by
  simp
 rw[i]at hz;let r:=Zl (c.j Af) (by rw[Bx];have:=f.n6;lia);let s:Wm [.r<|LD c,‹j›,.r<|aD a]=Z (.φ g):=by
  apply Zx rfl ?_;change Wl [.r<|LD c,‹j›,.r<|aD a]=_
  let k:EB (CP<|EC<|some<|aD a) (Z<|!(FG (aD a)||B3 (aD a)))=Z O':=by
   rcases d.2 with h|rfl
   .rw[show(FG (aD a)||B3 (aD a))=J' from h];ext a<;>rfl
   .rfl
  rwa[Wl,Xk (aD a) d.1,show ZK (Z<|.bl<|FG (aD a)||B3 (aD a))=Z (FG (aD a)||B3 (aD a))from rfl]at *;rwa[k,En,Zh,show Zq 1 [1,2] [.val<|LD c,‹j›,.val<|aD a]=[.no,‹j›,.val<|aD a]from rfl,r,m,o,HJ,ZZ]
 apply Zx rfl ?_;change Ww [.r<|LD c,‹j›,.r<|aD a]=_
 rwa[Ww,s,EI,show Zo [.lst g]=Z (.int g.length)from rfl,Fa,i2,show decide ((0:W')<(g.length:W'))=decide (∃l∈c,l.getD j .non=a)from decide_eq_decide.mpr #[λh=>hz.mp<|LU.mp h,λh=>by have:=hz.mpr h;show LU.mpr this]]
def
ZCM{e:Bj}{p:Y}(f:GL e p){a:At}(g:a∈e.j hd):RL [.r (LD e),‹0›,.r (aD a)]=Z (.r (.bl J')):=by
 let(c,b,rfl):=Be.mp g;let d:=f.r c b (hd c)<|ZC9<|f.ln c b;have:=ZDG f 0 (hd c) #[d.2,.O d.1];rw[decide_eq_true #[c,b,by ext c<;>rfl]]at this;show this
def
Zzc{L:AB}{s:U At}(h:∀b∈L,∃p,GL b p)(c:AM L s):Z4 (Z8 2 (Zu (Zc 0) (Zu (Zc 1) Z7))) (λ_=>Z J') RP [.no,.no] (Fe (λx y=>D.S [x,y]) (L.j LD) (s.j aD))=Z ((L.j λ_=>J').j D.bl):=by
 induction c with|nil=>rfl|@cons b j a k d l e=>
  let(p,f):=h b Bb;let g:RP [.r<|LD b,.r<|aD a]=Z (.bl J'):=by
   have:=ZCM f d;rwa[RP,this]
  rwa[XF,Z4,Z8,Zu,Z7,g,e λb i=>h b<|Bk _ i]
def
ZAF{L:AB}(h:BJ L){s:U At}(c:AM L s):WL [#v[L.j LD],.r (Af s)]=Z (.r (.bl J')):=by
 let hc:=Zzc h.jk c;let d:=O8 L;let i:=h.n4;let e:=Zl (Fe (λx y=>D.S [x,y]) (L.j LD) (s.j aD)) (by simp;lia);let f:Cy [.S<|s.j aD,.ty "tuple"]=Z (.bl J'):=rfl;let l1:Zo [.S<|s.j aD]=Z (.o ((s.j aD).a:W')):=rfl;let g:Zo [.R<|L.j LD]=Z (.o ((L.j LD).a:W')):=rfl;let a:Cp (.o ((s.j aD).a:W')) (.o ((L.j LD).a:W'))=Z (.bl O'):=by rw[show(s.j aD).a=(L.j LD).a by simp[c.len]];simp
 apply Zx rfl ?_;unfold Af;generalize (L.j λ_=>J').j D.bl=B,s.j aD=S,(L.j LD)=j at *;change WK [#v[j],.r<|.S S]=_
 rwa[WK,f,show ∀b,ZK (Z<|.bl b)=Z b from λ_=>rfl,l1,g,a,Zh,HX,Hh,show Zq 2 [] [#v[j],.val<|.tup S]=[.no,.no]from rfl,e,hc,d]
abbrev Row:=U At×W'
abbrev GY:=j'×Row
def IK(b:j'):D:=if b then .Ι "+" else .Ι "-"
def Dc(c:GY):D:=.S [IK c.1,Af c.2.1,.o c.2.2]
def
ZFF:¬ ("+":Ae)="-":=by symm
def
j8:¬ ("-":Ae)="+":=by symm
def
ZGC(b:j'):Cp (IK b) (.Ι "+")=Z (.bl (!b)):=by ext b<;>simp[IK,j8]
def
ZGQ(b:j'):Cp (IK b) (.Ι "-")=Z (.bl b):=by ext b<;>simp[IK,ZFF]
def
j9(b:j'):Co (IK b) (.Ι "+")=Z (.bl b):=by ext b<;>simp[IK,j8]
def
ZBR{L:AB}(h:BJ L)(c:GY)(f:AM L c.2.1):WV [#v[L.j LD],.r (Dc c)]=Z (.r (.bl J')):=by
 let g:=ZAF h f;let a:=RW (.o c.2.2) trivial;let i:Cy [Dc c,.ty "tuple"]=Z (.bl J'):=rfl;let l1:Zo [Dc c]=Z (.o 3):=rfl;let j:Am (Dc c) (.o 0)=Z (IK c.1):=rfl;let d:Am (Dc c) (.o 1)=Z (Af c.2.1):=rfl;let e:Am (Dc c) (.o 2)=Z (.o c.2.2):=rfl;rw[show FG (.o c.2.2)=J' from rfl]at a;generalize Dc c=C,L.j LD=k at *;apply Zx rfl ?_;change WU [#v[k],.r C]=_
 unfold WU;rwa[i,show ∀b,ZK (Z<|.bl b)=Z b from λ_=>rfl,l1,show Cp (.int 3) (.int 3)=Z (.bl O')from rfl,j,d,e,ZGC,ZGQ];cases c.1<;>rwa[d,e,g,a]
def Dh(r s:Row):j':=if r.1=s.1 then decide (r.2<s.2)else BU r.1 s.1
def
ZHd:TO Dh:={
 asym:=λa b h=>by
  unfold Dh at h ⊢
  by_cases e:a.1=b.1
  .rw[if_pos e]at h;rw[if_pos e.Ζ];simp at h ⊢;show Int.϶ h
  .rw[if_neg e]at h;rw[if_neg (λz=>e z.Ζ)];show Fp.asym _ _ h
 neg:=λa b c h=>by
  unfold Dh at h ⊢
  by_cases i:a.1=b.1
  .rw[if_pos i]
   by_cases f:b.1=c.1
   .rw[if_pos f];rw[if_pos (i.G f)]at h;simp at h ⊢;lia
   .rw[if_neg f];rw[if_neg (λz=>f (i.Ζ.G z)),i]at h;show .ρ h
  .rw[if_neg i]
   by_cases f:b.1=c.1
   .rw[if_neg (λz=>i (z.G f.Ζ)),<- f]at h;show .O h
   .rw[if_neg f]
    by_cases j:a.1=c.1
    .cases g:BU a.1 b.1 with
     |true=>show .O rfl
     |false=>
      cases d:BU b.1 a.1 with
      |true=>rw[j]at d;show .ρ d
      |false=>show absurd (Fp.anti _ _ g d) i
    .rw[if_neg j]at h;show Fp.neg _ _ _ h
 anti:=λa b g d=>by
  unfold Dh at g d
  by_cases e:a.1=b.1
  .rw[if_pos e]at g;rw[if_pos e.Ζ]at d
   simp at g d
   show Prod.ext e (Int.le_antisymm d g)
  .rw[if_neg e]at g;rw[if_neg (λz=>e z.Ζ)]at d;show absurd (Fp.anti _ _ g d) e}
def Pa(r:Row):D:=.S [.S (r.1.j Dx),.o r.2]
def
Zr2(r:Row)(h:r.1.a<=1000):RE [.r (Ze r)]=Z (.r (Pa r)):=by
 apply Zx rfl ?_;change VV [.r<|Ze r]=_
 unfold Pa;rwa[VV,show Am (Ze r) (.int 0)=Z (Af r.1)from rfl,show Am (Ze r) (.int 1)=Z (.int r.2)from rfl,jI r.1 h]
def
ka:∀a b:U At,Dq (a.j Dx) (b.j Dx)=decide (a=b)
 |[],[]=>by simp
 |[],_::_=>by simp
 |_::_,[]=>by simp
 |x::a,y::b=>by
  simp[jy,ka a b]
def
ZD1(r s:Row):ltN 6 (Pa r) (Pa s)=Z (Dh r s):=by
 let c:AZ 12 (.S<|r.1.j Dx)=J':=by
  show(r.1.j Dx).Ϛ (AZ 11)=J'
  grind [Sc]
 let d:AZ 12 (.S<|s.1.j Dx)=J':=by
  show(s.1.j Dx).Ϛ (AZ 11)=J'
  rw[Jg,Dr];show λa _=>Sc 10 a
 let f:Bl (.S<|r.1.j Dx) (.S<|s.1.j Dx)=decide (r.1=s.1):=by
  rw[<- ka];rfl
 change Gc (ltN 5) [.S<|r.1.j Dx,.o r.2] [.S<|s.1.j Dx,.o s.2]=_
 unfold Dh;rwa[Gc,FY,c,d,f,show ltN 5 (.tup<|r.1.map Dx) (.tup<|s.1.map Dx)=Z (BU r.1 s.1)from(Xz 2 r.1 s.1),decide_eq_true_eq,AZ];by_cases e:r.1=s.1
 .rw[if_pos e,if_pos e];by_cases b:r.2=s.2
  .simp[b]
  .simp[b]
 .rw[if_neg e,if_neg e]
def
Zu0(rs:U Row)(a:rs.a<64)(b:∀r∈rs,r.1.a<=1000):Gf RE (rs.j Ze)=Z ((Zz Dh rs).j Ze):=Xu Ze ZHd O' rs a Pa (λr h=>Zr2 r<|b r h) (λr _=>#[_,_,rfl]) (λr _ s _=>ZD1 r s)
def JC:U (U At)->Y->At->O At
 |[],_,_=>J
 |l::r,j,a=>if hd l=a/\j<l.a then Z (l.B j .κ)else JC r j a
def
kc:∀{b:Bj}{j:Y}{a:At},a∉b.j hd->JC b j a=J
 |[],_,_,_=>rfl
 |l::r,j,a,h=>by
  erw[AQ,Bw,not_or]at h;rw[JC,if_neg λz=>h.1 z.1.Ζ,kc h.2]
def
kf:∀{d:Bj}{j:Y}{l:U At},(d.j hd).θ->l∈d->(JC d j (hd l)).B .κ=l.B j .κ
 |x::r,j,l,a,b=>by
  erw[AQ,E7]at a;unfold JC;rcases Bw.mp b with rfl|b
  .by_cases c:j<l.a
   .rw[if_pos #[rfl,c]];rfl
   .rw[if_neg λz=>c z.2,kc a.1];simp[C6,KZ c]
  .rw[if_neg λz=>a.1 (by rw[z.1];show Es b)];show kf a.2 b
def
kg{ls0:Bj}(a:At)(j:Y):∀(d:Bj)(s3:Sl),(∀l∈d,Ln l)->match JC d j a with
  |some x=>ZB (Zc 3) Lz (d.j Af) [.r<|LD ls0,.r<|aD a,‹j›,s3]=.ϱ (.r<|aD x)
  |none=>∃i,ZB (Zc 3) Lz (d.j Af) [.r<|LD ls0,.r<|aD a,‹j›,s3]=.Q [.r<|LD ls0,.r<|aD a,‹j›,i]
 |[],s3,_=>#[s3,rfl]
 |l::d,s3,n=>by
  let r:=kg (ls0:=ls0) a j d (.r<|Af l) λm o=>n m<|Bk _ o;let k:=Gq<|n l Bb;let f:Co (aD<|hd l) (aD a)=Z (.bl<|decide<|hd l=a):=by rwa[Co,FY,Ho,LJ]
  let b:Zo [Af l]=Z (.o l.a):=by simp[Af]
  let g:E2 (.o j) (.o l.a)=Z (.bl<|decide<|j<l.a):=by
   simp_all
  let p:j<l.a->Am (Af l) (.o j)=Z (aD<|l.getD j .non):=λh=>ZE (by rw[CW,BZ h];simp[C6,h]);let q:Lz [.r<|LD ls0,.r<|aD a,‹j›,.r<|Af l]=if hd l=a/\j<l.a then .ϱ (.r<|aD<|l.B j .κ)else .Q [.r<|LD ls0,.r<|aD a,‹j›,.r<|Af l]:=by
   by_cases e:hd l=a
   .by_cases c:j<l.a
    .rw[if_pos #[e,c]];rw[decide_eq_true e]at f;rw[decide_eq_true c]at g;rwa[Lz,k,b,f,g,p c]
    .rw[if_neg λz=>c z.2];rw[decide_eq_true e]at f;rw[decide_eq_false c]at g;rwa[Lz,k,b,f,g]
   .rw[if_neg λz=>e z.1];rw[decide_eq_false e]at f;rwa[Lz,k,b,f]
  unfold JC;rwa[ZB,q];grind
def
ZFI{b:Bj}{p:Y}(c:GL b p)(j:Y){a:At}(g:a∈b.j hd):UN [.r (LD b),.r (aD a),‹j›]=Z (.r (aD (FK (b,j) a))):=by
 let(l,d,rfl):=Be.mp g;let e:=kg (ls0:=b) (hd l) j b .no c.ln;rw[show FK (b,j) (hd l)=(JC b j<|hd l).B .κ by rw[jZ c.hdn d,kf c.hdn d]];apply Zx rfl ?_;change QW [.r<|LD b,.r<|aD<|hd l,‹j›,.no]=_
 cases f:JC b j (hd l)with
 |some x=>
  rw[f]at e;rwa[QW,ZD,e,Option.getD]
 |none=>
  rw[f]at e;let(i,e):=e;rwa[QW,ZD,e,Option.getD];rfl
def
kh:∀{L:AB}{g:U Y}{s:U At}{k:Y}{e:Bj}{j:Y}{a:At},L[k]?=Z e->g[k]?=Z j->s[k]?=Z a->(Z3 (qs L g) s)[k]?=Z (FK (e,j) a)
 |_::_,_::_,_::_,0,_,_,_,b,c,d=>by ext b;ext c;ext d;rfl
 |_::L,_::g,_::s,k+1,_,_,_,b,c,d=>by
  have:=kh (L:=L) (g:=g) (s:=s) (k:=k) (by exists b) (by exists c) (by exists d);simpa[qs,Z3]using this
 |[],_,_,_,_,_,_,b,_,_=>by simp at b
 |_::_,[],_,_,_,_,_,_,c,_=>by simp at c
 |_::_,_::_,[],_,_,_,_,_,_,d=>by simp at d
def
AM.get{L:AB}{s:U At}(d:AM L s):∀k,k<L.a->∃c a,L[k]?=Z c/\s[k]?=Z a/\c∈L/\a∈c.j hd:=by
 induction d with|nil=>show λk h=>absurd h<|Nat.not_lt_zero k|@cons c o a p e q f=>
  intro k g;cases k with|zero=>show#[c,a,rfl,rfl,Bb,e]|succ k=>
   let(l,b,i,j,m,n):=f k (by exists g);show#[l,b,by simpa using i,by simpa using j,Bk _ m,n]
def
Zvs{L:AB}(h:BJ L){g:U Y}(t:g.a=L.a){s:U At}(m:AM L s):U9 [#v[L.j LD],.r (Af s),.r (Ak g)]=Z (.r (Af (Z3 (qs L g) s))):=by
 let d:=m.ϧ;let F:=h.n4;let u:(Z3 (qs L g) s).a=L.a:=by rw[LY (by simp[qs];lia)];simp[qs];lia
 let hc:=Zw (b:=Zc 0) (e:=U7) (ρ:=[.no,#v[L.j LD],.r<|Af s,.val<|Ak g]) (λk:Y=>D.o k) (λk=>aD<|(Z3 (qs L g) s).getD k .non) (AW s.length) λk w=>#[[‹k›,#v[L.j LD],.r<|Af s,.r<|Ak g],rfl,by
  let f:=DS.mp w;let(l,a,n,o,x,y):=m.Χ k<|KQ f d;let(p,z):=h.jk l x;obtain⟨j,q⟩:∃j,g[k]?=Z j:=#[g[k]'∅,BZ ∅];let A:Am (.R<|L.j LD) (.o k)=Z (LD l):=ZE (by rw[CW,n];rfl);let B:Am (Af s) (.o k)=Z (aD a):=ZE (by rw[CW,o];rfl);let C:Am (Ak g) (.o k)=Z (.o j):=ZE (by rw[CW,q];rfl);rw[show(Z3 (qs L g) s).B k .κ=FK (l,j) a by simp[C6,kh n q o]];rwa[U7,A,B,C,ZFI z j y]]
 let E:(AW s.a).j (λk=>aD<|(Z3 (qs L g) s).B k .κ)=(Z3 (qs L g) s).j aD:=by
  apply(Jc);intro i;by_cases G:i<s.a
  .have:i<(Z3 (qs L g) s).a:=∅
   simp[G,this]
  .simp_all [Z3,qs]
 rw[E]at hc;let c:Zo [Af s]=Z (.o s.a):=by simp[Af]
 let r:=QN (s.a:W') (MK s.a) ∅;rw[Jn]at r;let H:=Zl ((AW s.a).j λk:Y=>D.o k) (by simp;lia);let P:DC [.R<|(Z3 (qs L g) s).map aD]=Z (Af<|Z3 (qs L g) s):=rfl;generalize Af s=S,L.map LD=W,Ak g=M,(AW s.length).map (λk:Y=>D.o k)=N,(Z3 (qs L g) s).j aD=K,Af (Z3 (qs L g) s)=KK at *;apply Zx rfl ?_;change U8 [#v[W],.r S,.r M]=_
 rwa[U8,Zh,show Zq 1 [0,1,2] [#v[W],.val S,.val M]=[.no,#v[W],.val S,.val M]from rfl,c,r,H,hc,P]
def
ZrN(p:W'×U W'):QX [.r (vL p)]=Z (.r (vC p)):=by
 simp[QX,AU,eP,HP,TM,Qj,Qk,cel,show(4:Y)<=Av by ext];show#[rfl,rfl]
def Gs(e:Cc):KT×U D:=(.S e.1,(e.2.1::e.2.2).j D.o)
def
ki(k:U At)(x:W'):∀acc:U Cc,GP (acc.j Gs) (.S k) (.o x)=(Dm acc k x).j Gs
 |[]=>rfl
 |e::r=>by
  erw[AQ,GP,Dm,Gs,KT.tup.injEq];by_cases c:e.1=k
  .rw[if_pos c,if_pos c];simp[Gs]
  .rw[if_neg c,if_neg c,AQ];show congrArg _<|ki k x r
def
ZCT(acc:U Cc):Jq (acc.j Gs)=acc.j (ZG vL):=by
 unfold Jq;rw[B7];rfl
def
ZDj(k:U At)(acc:U Cc):Uj (.S k) (acc.j Gs)=J':=by
 unfold Uj;rw[Jg,Dr];show λe _=>rfl
def
kj{L:AB}(h:BJ L){g:U Y}(d:g.a=L.a)(R:U D):∀(a:U Row)(acc:U Cc)(m:Y)(s4 s5:Sl),(∀r∈a,AM L r.1)->BB acc L.a m->m+a.a<1000->∃b c,Jr 3 (Z8 2 (Zu (Zc 4) (Zu (Zc 5) Z7))) OP Ry (a.j Ze) [#v[L.j LD],#v[R],.r (Ak g),.no,s4,s5,.no] (acc.j Gs)=Z ([#v[L.j LD],#v[R],.r (Ak g),.no,b,c,.no],(Dy (CM (qs L g) a) acc).j Gs)
 |[],acc,m,s4,s5,_,_,_=>#[s4,s5,rfl]
 |r::a,acc,m,s4,s5,k,f,o=>by
  erw[Ct]at o;let n:=k r Bb;let(b,c,p):=kj h d R a (Dm acc (Z3 (qs L g) r.1) r.2) (m+1) (.r<|Af r.1) ‹r.2› (λq s=>k q<|Bk _ s) (f.add (show(Z3 (qs L g) r.1).a=L.a by have:=n.ϧ;rw[LY (by simp[qs];lia)];simp[qs];lia) r.2) ∅;apply#[b,c,?_];let hz:(acc.j Gs).a<Av/\∀z∈acc.j Gs,z.2.a<Av:=by
   let t:1000<=Av:=by ext
   apply#[by rw[Bx];have:=f.ϧ;lia,λz hz=>?_];let(e,u,rfl):=Be.mp hz;let i:∀(l:U Cc),e∈l->e.2.2.a+1<=Kp l:=by
    intro l;induction l<;>grind [Kp]
   let x:=i acc u;let y:=f.sz;erw[Gs,Bx,Ct];lia
  let w:OP [#v[L.j LD],#v[R],.r<|Ak g,.no,.r<|Af r.1,‹r.2›,.no]=Z (Af<|Z3 (qs L g) r.1):=by
   rwa[OP,Zvs h d n]
  let j:QB OP Ry [#v[L.j LD],#v[R],.r<|Ak g,.no,.r<|Af r.1,‹r.2›,.no] (acc.j Gs)=Z ((Dm acc (Z3 (qs L g) r.1) r.2).j Gs):=by
   erw[QB,w,show Ry [#v[L.map LD],#v[R],.val<|Ak g,.no,.val<|Af r.1,‹r.2›,.no]=Z (.int r.2)from rfl,GX<|Z3 (qs L g) r.1,ZDj (Z3 (qs L g) r.1) acc,if_true,Ml hz,ki]
  rw[AQ,Jr,show Z8 2 (Zu (Zc 4)<|Zu (Zc 5) Z7) (Ze r) [#v[L.j LD],#v[R],.r<|Ak g,.no,s4,s5,.no]=Z [#v[L.j LD],#v[R],.r<|Ak g,.no,.r<|Af r.1,‹r.2›,.no]from rfl];rwa[j];show p
def
kk(s0 s1 s2:Sl)(acc:U Cc)(g:(Zv acc).θ)(hz:acc.a<=1000):∀(a pre:U Cc)(s4 s5:Sl),acc=pre++a->∃c f,ZB (Zc 4) Rz ((Zv a).j Af) [s0,s1,s2,.r (.R (Zb (acc.j (ZG vL))) .d),s4,s5,.φ (Zb (pre.j (ZG vC))) .d]=.Q [s0,s1,s2,.r (.R (Zb (acc.j (ZG vL))) .d),c,f,.φ (Zb (acc.j (ZG vC))) .d]
 |[],pre,s4,s5,b=>#[s4,s5,by rw[Eh]at b;subst b;rfl]
 |e::a,pre,s4,s5,b=>by
  let(c,f,l):=kk s0 s1 s2 acc g hz a (pre++[e]) (.r<|Af e.1) s5 (by rw[b];simp);apply⟨c,f,?_⟩;let h:e.1∉Zv pre:=by
   intro m;rw[b]at g;unfold Zv at g m;rw[Er,AQ]at g;show(Ge.mp g).2.2 _ m _ Bb rfl
  let k:Dl acc e.1=Z e.2:=by
   rw[b];clear l g hz b;induction pre<;>grind [Dl,Zv]
  let i:(pre.j<|ZG vC).a<Av:=by
   have:acc.a=pre.a+(a.a+1):=by rw[b];simp
   rw[Bx];show BM (show pre.a<1000 by lia) (by ext)
  let j:ZU (pre.j<|ZG vC) (.S e.1) (vC e.2)=(pre++[e]).j (ZG vC):=by
   unfold ZU;rw[LX,Cu.Ϣ h];simp[ZG]
  let n:Rz [s0,s1,s2,.r<|.R (Zb<|acc.j<|ZG vL) .d,.r<|Af e.1,s5,.φ (Zb<|pre.j<|ZG vC) .d]=.Q [s0,s1,s2,.r<|.R (Zb<|acc.j<|ZG vL) .d,.r<|Af e.1,s5,.φ (Zb<|(pre++[e]).j<|ZG vC) .d]:=by
   rw[<- j];rwa[Rz,E9,XE vL k,ZrN e.2,Iy,ZW<|pre.map<|ZG vC,GX e.1,XC vC e.1 pre,i]
  rw[show Zv (e::a)=e.1::Zv a from rfl,AQ,ZB];rwa[n];show l
def
Zzh{L:AB}(h:BJ L){g:U Y}(f:g.a=L.a)(a:U Row)(n:∀r∈a,AM L r.1)(w:a.a<64):VQ [#v[L.j LD],#v[a.j Ze],.r (Ak g)]=Z (.φ (Zb ((Dy (CM (qs L g) a) []).j (ZG vC))) .d):=by
 let ok:=BB.tab (CM (qs L g) a) (BB.ώ L.a) λr h=>by
  let(q,s,rfl):=Be.mp h;have:=(n q s).ϧ;simp_all [Z3,qs,LY]
 let la:(CM (qs L g) a).a=a.a:=Bx _;let(c,e,o):=kj h f (a.j Ze) a [] 0 .no .no n (BB.ώ _) ∅;let(i,j,p):=kk (#v[L.j LD]) (#v[a.j Ze]) (.r<|Ak g) (Dy (CM (qs L g) a) []) ok.nd (by have:=ok.ϧ;lia) (Dy (CM (qs L g) a) []) [] c e rfl;let k:=ZCT<|Dy (CM (qs L g) a) [];let l:Ea (.R (Zb<|(Dy (CM (qs L g) a) []).j<|ZG vL) .d)=Z ((Zv<|Dy (CM (qs L g) a) []).j Af):=by
  erw[Ea,ZW,Ec,XD]
 let m:Mz [#v[L.j LD],#v[a.j Ze],.r<|Ak g,.φ [] .d,.no,.no,.no]=J':=rfl;generalize a.j Ze=R,Dy (CM (qs L g) a) []=b at *;rw[show([]:U Cc).j Gs=[]from rfl]at o;rw[show Zb (([]:U Cc).j<|ZG vC)=[]from rfl]at p;generalize L.j LD=W,Ak g=x at *;apply Zx rfl ?_;change RC [#v[W],#v[R],.r x,.no,.no,.no,.no]=_
 let t:VL [#v[W],#v[R],.r x,.φ [] .d,.no,.no,.no]=.Q [#v[W],#v[R],.r x,.φ (Zb<|b.j<|ZG vL) .d,c,e,.no]:=by
  rwa[VL,QC,m,o,k]
 let u:VM [#v[W],#v[R],.r x,.φ (Zb<|b.j<|ZG vL) .d,c,e,.φ [] .d]=.Q [#v[W],#v[R],.r x,.r<|.R (Zb<|b.j<|ZG vL) .d,i,j,.φ (Zb<|b.j<|ZG vC) .d]:=by
  rwa[VM,Gj,Jd,ZD,l,p]
 rwa[RC,VP,VO,VN,gh,show f9 [#v[W],#v[R],.val x,.no,.no,.no,.no]=.next [#v[W],#v[R],.val x,.own [] .d,.no,.no,.no]from rfl,t,show gc [#v[W],#v[R],.val x,.own (Zb<|b.map<|ZG vL) .d,c,e,.no]=.next [#v[W],#v[R],.val x,.own (Zb<|b.map<|ZG vL) .d,c,e,.own [] .d]from rfl,u,gg,E9,Hc]
def
km(L:AB)(h:∀a∈L,∃p,GL a p)(ws:U W')(l:L.a<=ws.a):∀(b pre:AB),L=pre++b->∃s,AM b s/\Z4 (Zc 0) (λ_=>Z J') Rj [.no,#v[L.j LD],#v[ws.j D.o]] ((FZ pre.a b.a).j λk:Y=>D.o k)=Z (s.j aD)
 |[],pre,_=>#[[],.ώ,rfl]
 |a::b,pre,e=>by
  let(s,m,g):=km L h ws l b (pre++[a]) (by rw[e];simp);rw[E8]at g;let(p,f):=h a (by rw[e];simp);let d:pre.a<ws.a:=by
   have:L.a=pre.a+(b.a+1):=by rw[e];simp
   lia
  let n:Am (.R<|L.j LD) (.o pre.a)=Z (LD a):=ZE (by rw[e];simp);let o:Am (.R<|ws.j D.o) (.o pre.a)=Z (.o<|ws.B pre.a 0):=ZE (by rw[CW,BZ d];simp[C6,d]);generalize ws.B pre.a 0=x at *;let q:Zo [LD a]=Z (.o a.a):=by simp
  let r:=Z2 x (a.a:W')<|LU.Ϣ f.n1;let t:=FH x (show(a.a:W')≠0 by show B8 (Int.ne_of_lt<|LU.Ϣ f.n1));let i:=Hr x<|LU.Ϣ f.n1;generalize x%(a.a:W')=j at *;obtain⟨c,rfl⟩:∃c:Y,j=(c:W'):=#[j.ν,by show Int.eq_natCast_toNat.Ϣ t];let u:Am (LD a) (.o c)=Z (Af a[c]):=ZE (by rw[CW,BZ<|Int.ofNat_lt.mp i];rfl);apply⟨hd a[c]::s,.Α (Es<|Fn<|Int.ofNat_lt.mp i) m,?_⟩;let w:Rj [‹pre.a›,#v[L.j LD],#v[ws.j D.o]]=Z (aD<|hd a[c]):=by
   rwa[Rj,n,o,q,r,u,Gq<|f.ln _<|Fn<|Int.ofNat_lt.mp i]
  rwa[LK,Z4,w];erw[Ct,Ja]at g ⊢;rw[g];rfl
def
ko{L:AB}(h:BJ L)(c:W'):∃r:Row,AM L r.1/\OH [#v[L.j LD],‹c›]=Z (.r (Ze r)):=by
 let(e,p,G,_):=M5 c 6<|Nat.le_of_ble_eq_true rfl;let H:=h.n4;let(s,m,hc):=km L h.jk e ∅ L [] rfl;rw[show(FZ ([]:AB).a L.a)=AW L.a by rw[LM];rfl]at hc;let f:Zo [.R<|L.j LD]=Z (.o L.a):=by simp
 let o:=QN (L.a:W') (MK<|List.length L) ∅;rw[Jn]at o;let t:=Zl ((AW L.length).map λk:Y=>D.o k) (by simp;lia);let u:DC [.R<|s.j aD]=Z (Af s):=rfl;let w:Am (.R<|e.j D.o) (.o 4)=Z (.o<|e.B 4 0):=Hq (RX 4) ∅;let x:Am (.R<|e.j D.o) (.o 5)=Z (.o<|e.B 5 0):=Hq (RX 5) ∅;generalize e.B 5 0=i,e.B 4 0=l at *;let y:=Z2 l 7 (by ext);let z:=Z2 l 2 (by ext);let n:=Z2 c (10^30) (by ext);let A:=Z2 i 4 (by ext);let P:=FH i (show(4:W')≠0 by ext);let F:=Hr i (show(0:W')<4 by ext);generalize c%10^30=g,l%2=B,l%7=C,i%4=j at *;obtain⟨v,E⟩:∃v,Am (.R [.o<|C-3,.o g,.o<|0-g,.o B]) (.o j)=Z (.o v):=by
  rcases(show j=0\/j=1\/j=2\/j=3 by lia)with q|q|q|q<;>rw[q]
  .show#[_,rfl]
  .show#[_,rfl]
  .show#[_,rfl]
  .show#[_,rfl]
 apply#[(s,v),m,?_];change _=Z (Rv.r<|.S [Af s,.o v])
 generalize L.j LD=K,e.j D.o=W,(AW L.a).j (λk:Y=>D.o k)=M,Af s=S,s.j aD=N at *;apply Zx rfl ?_;change Vc [#v[K],‹c›,.no,.no]=_
 rwa[Vc,show ZP [‹c›,‹6›]=Z #v[W]from p,Zh,show Zq 1 [0,2] [#v[K],‹c›,#v[W],.no]=[.no,#v[K],#v[W]]from rfl,f,o,t,hc,u,w,x,show HN (.int 10) (.int 30)=Z (.int<|10^30)from jd (by ext),y,z,n,A,show ∀a b c d:D,Zf (Z [a,b,c,d])=Z [a,b,c,d]from λ_ _ _ _=>Zl _ (by simp),E]
abbrev wh(a:Bj):Y:=(a.headD []).a
def GZ(p:Y):D->j'
 |.int i=>decide (0<=i)&&decide (i<=(p:W'))
 |_=>O'
def
GL.wh{a:Bj}{p:Y}(h:GL a p):wh a=p:=by
 let b:=h.n1;cases a with
 |nil=>simp at b
 |cons l r=>show h.ϧ l Bb
def
kq{a:Bj}{p:Y}(h:GL a p):OB [.r (LD a)]=Z ‹(wh a:W')›:=by
 let c:=h.n1;cases a with|nil=>simp at c|cons l a=>
  let b:Zo [Af l]=Z (.o ((l.j aD).a:W')):=rfl;rw[Bx]at b;simp only[OB,AU,Ct,Ja,Ia,if_true,dT,LO,LP,Eh,Zk,Za,Bi,Hs,DB,Am,show atI ((l::a).map Af) 0=Z (Af l)from ZE (j:=0) rfl,DN,Ec,Zi,HK,pk,b,Zy,Zd];rfl
def
kr{a:Bj}{p:Y}(h:GL a p)(d:D)(hd:Sm d):Q8 [.r (LD a),.r d]=Z (.r (.bl (GZ (wh a) d))):=by
 let b:=RW d hd;let c:=kq h;generalize (wh a)=n at *;cases d with
 |int i=>
  rw[show FG (.o i)=J' from rfl]at b;apply Zx rfl ?_;change OG [.r<|LD a,‹i›]=_
  unfold GZ;rwa[OG,b,Lc,show Mn (.int 0) (.int i)=Z (.bl<|decide<|0<=i)from rfl];cases decide (0<=i)with
  |true=>rwa[c,show Mn (.int i) (.int n)=Z (.bl<|decide<|i<=(n:W'))from rfl,Bool.true_and]
  |false=>rwa[Bool.false_and]
 |_=>
  apply Zx rfl ?_;change OG [.r<|LD a,.r _]=_
  rwa[OG,show Hn [.val _]=Z (.val<|.bl O')from b,GZ]
abbrev Sr(L:AB)(zs:U D):j':=((L.zip zs).j λq=>GZ (wh q.1) q.2).Ϛ id
def
Na(bs:U j'):J3 (bs.j D.bl)=Z bs:=by
 simp_all
def
kt:∀(L:AB)(zs:U D),Fe (λx y=>D.S [x,y]) (L.j LD) zs=(L.zip zs).j λq=>D.S [LD q.1,q.2]
 |[],_=>by simp
 |_::_,[]=>by simp
 |a::L,z::zs=>by simp[kt L zs]
def
ZyN{L:AB}(h:BJ L)(zs:U D)(hz:∀z∈zs,Sm z)(f:zs.a=L.a):LA [#v[L.j LD],.r (.S zs)]=Z (.r (.bl (Sr L zs))):=by
 let j:=h.n4;let hc:=Zw (b:=Z8 2<|Zu (Zc 0)<|Zu (Zc 1) Z7) (e:=Vr) (ρ:=[.no,.no]) (λq:U (U At)×D=>D.S [LD q.1,q.2]) (λq=>D.bl<|GZ (wh q.1) q.2) (L.zip zs) λq c=>#[[.r<|LD q.1,.r q.2],rfl,by
  let(p,hp):=h.jk q.1 (ND c).1;have:=kr hp q.2<|hz _ (ND c).2;rwa[Vr,this]]
 rw[show(L.zip zs).j (λq=>D.bl<|GZ (wh q.1) q.2)=((L.zip zs).map λq=>GZ (wh q.1) q.2).j D.bl by rw[B7];rfl]at hc;let g:DD [.R<|((L.zip zs).map λq=>GZ (wh q.1) q.2).j D.bl]=Z (.bl<|Sr L zs):=by
  erw[DD,Na,Ec]
 let d:=Zl ((L.zip zs).j λq=>D.S [LD q.1,q.2]) (by simp;lia);let i:Zo [.R<|L.j LD]=Z (.o ((L.j LD).a:W')):=rfl;let a:Cp (.o zs.a) (.o ((L.j LD).a:W'))=Z (.bl O'):=by rw[f,Bx];simp
 rw[<- (kt L zs)]at hc d;generalize L.j LD=W,((L.zip zs).j λq=>GZ (wh q.1) q.2).j D.bl=l at *;apply Zx rfl ?_;change Vs [#v[W],.r<|.S zs]=_
 rwa[Vs,show Cy [.tup zs,.ty "tuple"]=Z (.bl J')from rfl,show ∀b,ZK (Z<|.bl b)=Z b from λ_=>rfl,show Zo [.tup zs]=Z (.int zs.length)from rfl,i,a,Zh,HX,Hh,show Zq 2 [] [#v[W],.val<|.tup zs]=[.no,.no]from rfl,d,hc,g]
def CN(L:AB)(g:U Y):V':=g.a=L.a/\∀q∈L.zip g,q.2<=wh q.1
def
ku:∀{L:AB}{g:U Y},(∀q∈L.zip g,q.2<=wh q.1)->Sr L (g.j λj:Y=>D.o j)=J'
 |[],_,_=>by simp
 |_::_,[],_=>by simp
 |b::L,j::g,h=>by
  let c:=ku (L:=L) (g:=g) λq a=>h q<|Bk _ a;simp_all [GZ,wh,Sr,Int.ofNat_le]
def
Ss{L:AB}(h:BJ L){g:U Y}(a:CN L g):LA [#v[L.j LD],.r (Ak g)]=Z (.r (.bl J')):=by
 have:=ZyN h (g.j λj:Y=>D.o j) (λz hz=>by let(j,_,rfl):=Be.mp hz;trivial) (by rw[Bx];show a.1);rw[ku a.2]at this;show this
abbrev gk(g:U Y):U At:=g.j λj:Y=>At.o j
def
Gu(g:U Y):Af (gk g)=Ak g:=by unfold Af gk;rw[B7];rfl
def
LZ:∀{g g':U Y},gk g=gk g'->g=g'
 |[],[],_=>rfl
 |[],_::_,h=>by simp at h
 |_::_,[],h=>by simp at h
 |a::g,b::g',h=>by
  erw[gk,AQ,Qp,At.int.injEq]at h;rw[LZ (g:=g) (g':=g') h.2,Int.ofNat.inj h.1]
abbrev AN(L:AB)(rs:U Row)(gs:U (U Y)):Br:=gs.j λg=>(.S (gk g),.R (C3 L g rs))
section
variable(L:AB)(rs:U Row)
def
Su(k:U At)(gs:U (U Y)):D6 (.S k) (AN L rs gs)=J':=Lj k λp hp=>by
 let(g,_,rfl):=Be.mp hp;rfl
def
Pb:∀(gs:U (U Y))(g:U Y),Zs (AN L rs gs) (.S (gk g))=if g∈gs then Z (.R (C3 L g rs))else J
 |[],g=>by simp[Zs]
 |x::gs,g=>by
  let a:=Pb gs g;erw[AQ,Zs,KT.tup.injEq];by_cases e:x=g
  .subst e;simp
  .rw[if_neg<|λz=>e<|LZ z,a];simp[B8 e]
def
XG(neg:j')(gs:U (U Y))(g:U Y):DF neg (Ak g) (.R (Zb (AN L rs gs)) .d)=Z (.bl (neg != decide (g∈gs))):=by
 let hok:=GX<|gk g;rw[Gu]at hok;rw[Li,hok];show(if D6 (.S<|gk g) (AN L rs gs)=J' then _ else _)=_
 rw[if_pos<|Su L rs _ gs,Pb];by_cases c:g∈gs<;>simp[c]
def
Sv{g:U Y}(h:g∈gs):DO (.R (Zb (AN L rs gs)) .d) (Ak g)=Z (.R (C3 L g rs)):=by
 let hok:=GX<|gk g;simp_all [Gu,gk,AN,Su,Pb]
def
ZEI(gs:U (U Y)):MC [.R (Zb (AN L rs gs)) .d]=Z (.o gs.a):=by
 have:(AN L rs gs).Ϛ (λp=>!EQ p.1)=J':=by rw[Jg,Dr];show λe _=>rfl
 rwa[MC,ZW,this,Bx]
def
ZDS{g:U Y}(h:g∉gs):ZU (AN L rs gs) (.S (gk g)) (.R (C3 L g rs))=AN L rs (gs++[g]):=by
 unfold ZU;rw[Pb,if_neg h];simp
def
kw(g:U Y):∀(gs:U (U Y)),Eu (AN L rs gs) (.S (gk g))=AN L rs (gs.erase g)
 |[]=>rfl
 |x::gs=>by
  let a:=kw g gs;erw[AQ,Eu,KT.tup.injEq];by_cases e:x=g
  .subst e;simp
  .rw[if_neg<|λz=>e<|LZ z,List.erase_cons_tail (by exists e)];show congrArg _ a
def
XH(gs:U (U Y)):((AN L rs gs).j λp=>kD p.1)=gs.j Ak:=by
 rw[B7];show XJ λg _=>Gu g
end
abbrev Ff:U Ae:=["axes","standing","tables"]
abbrev kB:Kd:=.i Ff "Book"
abbrev Cd(L:AB)(R:U D)(t:Y):Cl:=.mix kB [#v[L.j LD],#v[R],.Y t]
abbrev BD(L:AB)(R T:U D):D:=.R [.R (L.j LD),.R R,.R T .d] kB
def
ZFc:(("tables":Ae)=="axes")=O':=by symm
def
ZE7:(("tables":Ae)=="standing")=O':=by symm
variable {L:AB}{R T:U D}{G:Gh}{b t:Y}
def
IL:C7 "Book" "axes" (BD L R T)=Z (.R (L.j LD)):=rfl
def
XM:C7 "Book" "standing" (BD L R T)=Z (.R R):=rfl
def
L0:C7 "Book" "tables" (BD L R T)=Z (.R T .d):=rfl
def
IM(m:Y)(a:m≠0)(c:G[b]?=Z (Cd L R t))(e:G[t]?=Z (.Υ .d T)):C8 m G (.Y b)=.r (BD L R T):=by
 simp_all
def
ZCr(a:G[b]?=Z (Cd L R t)):C8 0 G (.Y b)=.no:=by
 simp_all
def
XN{xs:U IV}(a:G[b]?=Z (Cd L R t)):Oq "Book" "tables" (xs,G) (Z b)=Z t:=by simp_all [List.lookup,ZFc,ZE7]
end
def
Dt(b:j'):ZK (Z (.bl b))=Z b:=rfl
def Pc(n:Y):D->j'
 |.int i=>decide (0<=i)&&decide (i<(n:W'))
 |_=>O'
def
kx(L:U D)(d:D)(hd:Sm d):Q7 [#v[L],.r d]=Z (.r (.bl (Pc L.a d))):=by
 let a:=RW d hd;cases d with
 |int i=>
  rw[show FG (.o i)=J' from rfl]at a;apply Zx rfl ?_;change OE [#v[L],‹i›]=_
  unfold Pc;rwa[OE,a,Lc,show Mn (.int 0) (.int i)=Z (.bl<|decide<|0<=i)from rfl];cases decide (0<=i)with
  |true=>rwa[show Zo [.lst L]=Z (.int L.length)from rfl,show E2 (.int i) (.int L.length)=Z (.bl<|decide<|i<(L.length:W'))from rfl,Bool.true_and]
  |false=>rwa[Bool.false_and]
 |_=>
  apply Zx rfl ?_;change OE [#v[L],.r _]=_
  rwa[OE,show Hn [.val _]=Z (.val<|.bl O')from a,Pc]
def
ky{n k:Y}(h:k<n):Pc n (.o k)=J':=by
 unfold Pc;simp;show Nat.lt_of_succ_le h
def
ZFw(L:U D)(k:Y){d:D}(h:L[k]?=Z d):Vq [#v[L],‹k›]=Z (.r d):=by
 let a:=kx L (.o k) trivial;rw[ky<|(Bp.mp h).1]at a;apply Zx rfl ?_;change Vp [#v[L],‹k›]=_
 rwa[Vp,a,Dt,show Am (.lst L) (.int k)=Z d from ZE h]
def
ZFB{l:U At}{j:Y}(h:j<l.a):Am (Af l) (.o j)=Z (aD (l.B j .κ)):=by
 show ZE (show(l.j aD)[j]?=Z (aD<|l.B j .κ) by simp[C6,h])
def
ZGR(a b:U At)(h:a.a+b.a<=1000):Zt (Af a) (Af b)=Z (Af (a++b)):=by
 show(if(a.j aD).a+(b.j aD).a<=Av then Z (D.S<|a.j aD++b.j aD)else J)=_
 rw[if_pos (show(a.j aD).a+(b.j aD).a<=Av by simp;show BN h (by ext)),<- Er];rfl
def
ZBr:Ff.Ϟ "keep"=O':=by symm
variable {L:AB}{R T:U D}{G:Gh}{b t:Y}{x:D}
variable(h0:G[b]?=Z (Cd L R t))(ht:G[t]?=Z (.Υ .d T))
include h0 ht
def
XO:vw 2 ([.Y b,.r x],G)=[.r (BD L R T),.r x]:=by erw[vw,AQ,Do,IM 2 (by ext) h0 ht];rfl
def
ZGA:vw 0 ([.Y b,.r x],G)=[.no,.r x]:=by erw[vw,AQ,Do,ZCr h0];rfl
end
def
kz{L:AB}{g:U Y}(e:g.a=L.a){a:U Row}(b:∀r∈a,AM L r.1):∀r∈CM (qs L g) a,r.1.a=L.a:=λr h=>by
 let(c,d,rfl):=Be.mp h;have:=(b c d).ϧ;simp_all [qs,LY]
abbrev Du(L:AB)(g:U Y)(a:U Row):U Cc:=Dy (CM (qs L g) a) []
def
Nb{L:AB}{g:U Y}(b:g.a=L.a){a:U Row}(c:∀r∈a,AM L r.1):BB (Du L g a) L.a a.a:=by
 have:=BB.tab (CM (qs L g) a) (BB.ώ L.a)<|kz b c;rw[Km,show(CM (qs L g) a).a=a.a from Bx _]at this;show this
def
FL(m:Y)(k:U At):B4 m (Af k)=J':=by
 show ZM λd hd=>by let(a,_,rfl):=Be.mp hd;ext a<;>rfl
def
XP(a b:U At):Bl (Af a) (Af b)=decide (a=b):=by simp_all [Af,Xl]
def
ZD2(g g':U Y):Bl (Ak g) (Ak g')=decide (g=g'):=by
 rw[<- Gu,<- Gu,XP,decide_eq_decide];show#[LZ,λe=>by rw[e]]
def
ZFj(g g':U Y):Co (Ak g) (Ak g')=Z (.bl (decide (g=g'))):=by
 let a:=ZD2 g g';simp_all [Ak,HZ]
abbrev zg(L:AB):U Y:=L.j λ_=>0
def
XQ(L:AB):Kn L=Ak (zg L):=by
 simp_all
def
Ev{G:Gh}{b t:Y}{c:Cl}(a:b≠t):(G.ξ t c)[b]?=G[b]?:=Dn<|B8 a
def
Hv{G:Gh}{t:Y}{c d:Cl}(h:G[t]?=Z d):(G.ξ t c)[t]?=Z c:=Fh (Bp.mp h).1
def
kA(L:AB)(g:U Y)(rs:U Row):B4 1 (.R (C3 L g rs))=J':=by
 show ZM λd hd=>by
  let(k,_,rfl):=Be.mp hd;have:∀k:U At,B4 1 (Af k)=J':=λk=>by
   show ZM λd hd=>by let(a,_,rfl):=Be.mp hd;ext a<;>rfl
  show(B4 1 (Af k)&&(B4 1 (vC _)&&J'))=J'
  rw[this];rfl
variable {L:AB}{G:Gh}{b t:Y}{rs:U Row}{g:U Y}
variable(h:BJ L)(hg:CN L g)(h0:G[b]?=Z (Cd L (rs.j Ze) t))(ht:G[t]?=Z (.Υ .d (Zb (AN L rs gs))))
include h hg h0 ht
def
kC{gs':U (U Y)}(h0:G'[b]?=Z (Cd L (rs.j Ze) t))(ht:G'[t]?=Z (.Υ .d (Zb (AN L rs gs'))))(a:g∈gs'):WE ([.Y b,.r (Ak g)],G')=.ϱ ‹((C3 L g rs).a:W')› G':=by
 let c:=L0 (L:=L) (R:=rs.j Ze) (T:=Zb<|AN L rs gs');let hd:=Sv L rs a;let v:=XO (x:=Ak g) h0 ht;generalize C3 L g rs=Y',Ak g=e,D.lst (Zb<|AN L rs gs') .d=TT,BD L (rs.map Ze) (Zb<|AN L rs gs')=B at *;erw[WE,gU,v,Zk,Za,Zi,Bi,Gd,Hs,DB,Ec,DN,c,hd,HK,pk,show Zo [.lst Y']=Z (.int Y'.length)from rfl,jE,jO,show ∀i,B4 2 (.int i)=J' from λ_=>rfl,if_true,xD,ER,Zr]
def
ZBt(a:g∈gs):RO [.Y b,.r (Ak g)] G=Z (‹((C3 L g rs).a:W')›,G):=by
 let f:=Ss h hg;let i:=kC h hg h0 ht h0 ht a;let l1:=IL (L:=L) (R:=rs.j Ze) (T:=Zb<|AN L rs gs);let j:=L0 (L:=L) (R:=rs.j Ze) (T:=Zb<|AN L rs gs);let c:=XG L rs J' gs g;rw[decide_eq_true a]at c;let v:=XO (x:=Ak g) h0 ht;generalize Ak g=k,D.R (Zb<|AN L rs gs) .d=TT,BD L (rs.j Ze) (Zb<|AN L rs gs)=B at *;let e:O0 ([.Y b,.r k],G)=.ϱ ‹((C3 L g rs).a:W')› G:=by
  rwa[O0,WG,WF,WC,v,l1,f,Dt,WD,j,c,bne_self_eq_false,i]
 show G5 (fi rfl e) rfl
def
ZyZ(p:∀r∈rs,AM L r.1)(q:rs.a<64)(j:b≠t)(o:g∉gs)(s:gs.a<12):RO [.Y b,.r (Ak g)] G=Z (‹((C3 L g rs).a:W')›,G.ξ t (.Υ .d (Zb (AN L rs (gs++[g]))))):=by
 let u:=Ss h hg;let a:=kC (gs':=gs++[g]) (G':=G.ξ t<|.Υ .d<|Zb<|AN L rs<|gs++[g]) h hg h0 ht (by rw[Ev j];show h0) (Hv ht) (by simp);let l1:=IL (L:=L) (R:=rs.j Ze) (T:=Zb<|AN L rs gs);let w:=L0 (L:=L) (R:=rs.j Ze) (T:=Zb<|AN L rs gs);let x:=XM (L:=L) (R:=rs.j Ze) (T:=Zb<|AN L rs gs);let y:DF J' (Ak g) (.R (Zb<|AN L rs gs) .d)=Z (.bl J'):=by rw[XG,decide_eq_false o];rfl
 let z:=ZEI L rs gs;let c:=ZDS L rs o;let k:=ZW<|AN L rs gs;let hok:=GX<|gk g;rw[Gu]at hok;let l:=Su L rs (gk g) gs;let f:(AN L rs gs).a<Av:=by rw[Bx];show BM (show gs.a<1000 by lia) (by ext)
 let i:=j3 h hg.1 rs p q;let m:=XN (xs:=[.Y b,.r<|Ak g]) h0;let ge:NS (.o gs.a) (.o 12)=Z (.bl O'):=by
  change Z (D.bl<|decide<|(12:W')<=(gs.a:W'))=_
  rw[decide_eq_false ∅]
 let A:=kA L g rs;let C:=IM 2 (by ext) h0 ht;let E:=IM 1 (by ext) h0 ht;generalize AN L rs (gs++[g])=n at *;generalize Ak g=F,C3 L g rs=Y',rs.j Ze=R,AN L rs gs=v,BD L (rs.j Ze) (Zb<|AN L rs gs)=B at *;suffices e:O0 ([.Y b,.r F],G)=.ϱ ‹Y'.a› (G.ξ t<|.Υ .d<|Zb n)from G5 (fi rfl e) rfl
 rwa[O0,WG,WC,C,l1,u,Dt,WF,WD,E,w,x,y,z,ge,i,EI,A,m,QK,ht,k,hok,l,f,c,a]
end
def Cw(a b:U Y):j':=BU (gk a) (gk b)
def
ZGJ:TO Cw:=#[λa b h=>Fp.asym _ _ h,λa b c h=>Fp.neg _ _ _ h,λa b d e=>LZ<|Fp.anti _ _ d e]
abbrev XR(g:U Y):U D:=g.j λj:Y=>D.o j
def
kE(n:Y):∀a b:U Y,Gc (ltN n) (XR a) (XR b)=Z (Cw a b)
 |[],[]=>rfl
 |[],_::_=>rfl
 |_::_,[]=>rfl
 |i::a,j::b=>by
  let d:=kE n a b;unfold Cw at d ⊢;rwa[XR,gk,Gc,BU,AZ,FY]at d ⊢;by_cases c:i=j
  .subst c;erw[show ∀i:W',Bl (.int i) (.int i)=J' from λi=>beq_self_eq_true i,if_true,d]
  .let e:¬ (i:W')=(j:W'):=Nat.ToInt.of_diseq rfl rfl c;simp_all [Ib]
def
XT(h:gs.a<64)(c:∀g∈gs,g≠[]):Gf Gi (gs.j Ak)=Z ((Zz Cw gs).j Ak):=Xu Ak ZGJ J' gs h Ak (λ_ _=>rfl) (λg d=>by
  cases g with
  |nil=>show absurd rfl<|c _ d
  |cons a r=>show#[_,_,rfl]) λa _ b _=>kE 5 a b
def
Pd(a:Bj):B4 1 (LD a)=J':=by
 show(!vk 1 .l&&Dg 1 (a.j Af))=J'
 rw[ZM λd hd=>by let(l,_,rfl):=Be.mp hd;show FL 1 l];rfl
def
Sw(L:AB):Dg 1 (L.j LD)=J':=ZM λd hd=>by let(l,_,rfl):=Be.mp hd;show Pd l
def
XU(L:AB)(rs:U Row):∀gs:U (U Y),Dg 1 (Zb (AN L rs gs))=J'
 |[]=>rfl
 |g::gs=>by
  show(B4 1 (Af<|gk g)&&(B4 1 (.R<|C3 L g rs)&&Dg 1 (Zb<|AN L rs gs)))=J'
  rw[FL,kA,XU L rs gs];rfl
def
kF{L:AB}(h:BJ L)(rs:U Row)(i:∀r∈rs,AM L r.1)(j:rs.a<64)(gs:U (U Y))(k:gs.θ)(l:∀g∈gs,g.a=L.a)(m:gs.a<=12):RM [#v[L.j LD],#v[rs.j Ze],#v[gs.j Ak]]=Z (.φ (Zb (AN L rs gs)) .d):=by
 let hc:=Zw (b:=Zc 0) (e:=WA) (ρ:=[.no,#v[L.j LD],#v[rs.j Ze]]) Ak (λg=>Hu (gk g,.R<|C3 L g rs)) gs λg n=>#[[.r<|Ak g,#v[L.j LD],#v[rs.j Ze]],rfl,by
  change _=Z (D.S [Af<|gk g,.R<|C3 L g rs])
  rw[Gu];rwa[WA,j3 h (l g n) rs i j,EI]]
 rw[show gs.j (λg=>Hu (gk g,.R<|C3 L g rs))=(gs.map λg=>((gk g,.R<|C3 L g rs):KE)).map Hu by rw[B7];rfl]at hc;let f:=So (gs.map λg=>((gk g,.R<|C3 L g rs):KE)) [] (by
  rw[EJ,B7];show List.pairwise_map.Ϣ<|k.imp λa e=>a<|LZ e) (by simp;lia)
 rw[EJ,show Cr (gs.j λg=>((gk g,.R<|C3 L g rs):KE))=AN L rs gs by unfold Cr;rw[B7];rfl]at f;let o:=Zl (gs.map Ak) (by simp;lia);let c:FC [] ((gs.map λg=>((gk g,.R<|C3 L g rs):KE)).map Hu)=Z (AN L rs gs):=f;generalize L.map LD=W,rs.map Ze=R,gs.map Ak=p,(gs.map λg=>((gk g,.R<|C3 L g rs):KE)).j Hu=Y',AN L rs gs=q at *;apply Zx rfl ?_;change WB [#v[W],#v[R],#v[p]]=_
 rwa[WB,FV,Zh,o,show Zq 1 [0,1] [#v[W],#v[R],#v[p]]=[.no,#v[W],#v[R]]from rfl,hc,c,Hc]
def
Sx:∀(a:U Row)(acc:U Cc),∀k∈Zv (Dy a acc),k∈Zv acc\/∃r∈a,k=r.1
 |[],acc,k,b=>.O b
 |r::a,acc,k,b=>by
  rcases Sx a (Dm acc r.1 r.2) k b with h|⟨q,c,e⟩
  .rcases jS h with h|h
   .show .ρ #[r,Bb,h]
   .show .O h
  .show .ρ #[q,Bk _ c,e]
def G6(L a:AB)(rs rs':U Row)(zs:U (U Y)):U D:=zs.flatMap λg=>(Ks (Fq (Du L g rs)) (Fq (Du a g rs'))).j λk=>D.S [Ak g,Af k]
variable {L L':AB}{rs rs':U Row}(h:BJ L)(h':BJ L')(hL:L.a=L'.a)(hr:∀r∈rs,AM L r.1)(hr':∀r∈rs',AM L' r.1)(hl:rs'.a<64)(hsb:∀r∈rs,r∈rs')(hLL:L=L')(hg:∀g∈gs,g.a=L.a)
include h h' hL hr hr' hl hsb hLL
def
ZEq{g:U Y}(hg:g.a=L.a):RF [#v[C3 L g rs],#v[C3 L' g rs']]=Z (.φ ((Ks (Fq (Du L g rs)) (Fq (Du L' g rs'))).j Af))/\(Ks (Fq (Du L g rs)) (Fq (Du L' g rs'))).a<64:=by
 let m:=h.n4
 let f:=h.n1
 let p:=ZC BU (Zv (Du L g rs))
 let d:=ZC BU (Zv (Du L' g rs'))
 let i:∀k∈Zv (Du L g rs),k∈(CM (qs L g) rs').j (·.1):=λk a=>by
  rcases Sx _ _ k a with a|⟨r,b,rfl⟩
  .cases a
  .let(q,j,rfl):=Be.mp b
   show Es (Es (hsb q j))
 let l:∀k∈Zv (Du L' g rs'),k∈(CM (qs L g) rs').j (·.1):=λk a=>by
  subst hLL
  rcases Sx _ _ k a with a|⟨r,b,rfl⟩
  .cases a
  .show Es b
 have:=ZF8 (Fq (Du L g rs)) (Fq (Du L' g rs')) (by rw[Sq];show p.nodup_iff.Ϣ (Nb hg hr).nd) (by rw[Sq];show d.nodup_iff.Ϣ (Nb (hg.G hL) hr').nd) (j7 _) (j7 _) ((CM (qs L g) rs').j (·.1))
  (λe c=>i _ (p.ϖ.mp (by rw[<- Sq];show Es c))) (λe c=>l _ (d.ϖ.mp (by rw[<- Sq];show Es c))) (by rw[Bx,CM,Bx];show hl) λk a=>by
   have:k.a=L.a:=by
    subst hLL
    let(r,b,rfl):=Be.mp a
    show kz hg hr' r b
   show#[λz=>by rw[z]at this;simp at this;lia,∅]
 rw[<- j6,<- j6]at this
 show this
include hg
def
ZDO:∀(zs:U (U Y))(acc:U D)(s3:Sl),(∀g∈zs,g∈gs)->acc.a+64*zs.a<=100000->(∀d∈acc,B4 2 d=J')->∃c,ZB (Zc 3) RK (zs.j Ak) [.r (.R (Zb (AN L rs gs)) .d),.r (.R (Zb (AN L' rs' gs)) .d),.φ acc,s3]=.Q [.r (.R (Zb (AN L rs gs)) .d),.r (.R (Zb (AN L' rs' gs)) .d),.φ (acc++G6 L L' rs rs' zs),c]/\∀d∈acc++G6 L L' rs rs' zs,B4 2 d=J':=by
 intro zs;induction zs with|nil=>show λacc s3 _ _ i=>#[s3,by rw[G6,List.flatMap_nil,Eh];rfl,by rw[G6,List.flatMap_nil,Eh];show i]|cons g zs n=>
  intro acc s3 m hz i;let f:=m g Bb;let(e,y):=ZEq h h' hL hr hr' hl hsb hLL<|hg g f;rw[show G6 L L' rs rs' (g::zs)=(Ks (Fq<|Du L g rs)<|Fq<|Du L' g rs').map (λk=>D.S [Ak g,Af k])++G6 L L' rs rs' zs from List.flatMap_cons,<- Jm];generalize Ks (Fq<|Du L g rs) (Fq<|Du L' g rs')=ks at *;let o:=Sv L rs f;let p:=Sv L' rs' f;let hc:=Zw (b:=Zc 0) (e:=Wt) (ρ:=[.no,.val<|Ak g]) Af (λk=>D.S [Ak g,Af k]) ks λk _=>#[[.r<|Af k,.r<|Ak g],rfl,by
   rwa[Wt]]
  let q:=Zl (ks.j Af) (by simp;lia);let r:∀d∈(ks.j λk=>D.S [Ak g,Af k]),B4 2 d=J':=λd hd=>by
   let(k,_,rfl):=Be.mp hd;show(B4 2 (Ak g)&&(B4 2 (Af k)&&J'))=J'
   rw[<- Gu,FL,FL];rfl
  let a:(ks.j λk=>D.S [Ak g,Af k]).a=ks.a:=by simp
  rw[Ct]at hz;let j:acc.a+(ks.j λk=>D.S [Ak g,Af k]).a<=Av:=BN (show _<=100000 by rw[a];lia) (by ext);let s:RK [.r<|.lst (Zb<|AN L rs gs) .d,.val<|.lst (Zb<|AN L' rs' gs) .d,.own acc,.val<|Ak g]=.next [.val<|.lst (Zb<|AN L rs gs) .d,.val<|.lst (Zb<|AN L' rs' gs) .d,.own<|acc++ks.map λk=>D.S [Ak g,Af k],.r<|Ak g]:=by
   generalize Ak g=z,D.R (Zb<|AN L' rs' gs) .d=t,D.lst (Zb<|AN L rs gs) .d=u,C3 L g rs=A,C3 L' g rs'=B,(ks.map λk=>D.S [Ak g,Af k])=Y' at *;erw[RK,Zh,show Zq 1 [3] [.val u,.val t,.own acc,.val z]=[.no,.val z]from rfl,Zg,Za,Bi,Gd,Hs,DB,o,p,DN,Ec,Zi,e,EI,Zn,q,hc,Mt,D3,if_pos j,LQ,LR,Zd]
  let(c,v,l):=n (acc++ks.j λk=>D.S [Ak g,Af k]) (.r<|Ak g) (λx w=>m x<|Bk _ w) (by rw[E8,a];lia) (λd hd=>by
   rcases C0.mp hd with hd|hd
   .show i d hd
   .show r d hd)
  apply#[c,?_,l];rw[AQ];erw[ZB,show Zc 3 (Ak g) [.val<|.lst (Zb<|AN L rs gs) .d,.val<|.lst (Zb<|AN L' rs' gs) .d,.own acc,s3]=Z [.val<|.lst (Zb<|AN L rs gs) .d,.val<|.lst (Zb<|AN L' rs' gs) .d,.own acc,.val<|Ak g]from rfl,s,v]
def
ZFO(f:gs.a<=12):Wv [.r (.R (Zb (AN L rs gs)) .d),.r (.R (Zb (AN L' rs' gs)) .d)]=Z (.φ (G6 L L' rs rs' (Zz Cw gs)))/\Dg 2 (G6 L L' rs rs' (Zz Cw gs))=J':=by
 let i:=h.n1;let j:J9 (Z<|.R (Zb<|AN L rs gs) .d)=Z ((Zz Cw gs).j Ak):=by
  show(EO<|Zb<|AN L rs gs).bind (λa=>Gf Gi<|a.map λp=>kD p.1)=_
  rw[ZW];change Gf Gi ((AN L rs gs).j λp=>kD p.1)=_
  rw[XH];show XT ∅ λg b z=>by have:=hg g b;rw[z]at this;simp at this;lia
 let(k,e,c):=ZDO h h' hL hr hr' hl hsb hLL hg (Zz Cw gs) [] .no (λg b=>(ZC Cw _).ϖ.mp b) (by rw[(ZC Cw _).ϗ];simp;lia) (λ_ h=>nomatch h);rw[EJ]at e c;apply#[?_,ZM c];generalize D.R (Zb<|AN L rs gs) .d=l,D.R (Zb<|AN L' rs' gs) .d=m,G6 L L' rs rs' (Zz Cw gs)=n at *;apply Zx rfl ?_;change Wu [.r l,.r m,.no,.no]=_
 rwa[Wu,show Zf (Z ([]:U D))=Z []from rfl,ZN,ZD,j,e,D3,ZZ]
end
def
kG{G:Gh}{q m:Y}(a:m≠0)(h:G[q]?=Z (.Υ .d xs)):C8 m G (.Y q)=.r (.R xs .d):=by
 simp_all
def
Kt{G:Gh}{n:Y}{c d:Cl}(h:G[n]?=Z c):(G++[d])[n]?=Z c:=by
 rw[Fx (Bp.mp h).1];show h
def
ZEH{L a:AB}(h:BJ L)(h':BJ a)(hL:L.a=a.a){rs rs':U Row}(B:∀r∈rs,AM L r.1)(c:∀r∈rs',AM a r.1)(v:rs'.a<64)(n:∀r∈rs,r∈rs')(o:L=a)(C:gs.θ)(A:∀g∈gs,g.a=L.a)(f:gs.a<=12){G:Gh}{b t:Y}(i:G[b]?=Z (Cd a (rs'.j Ze) t))(k:G[t]?=Z (.Υ .d (Zb (AN L rs gs))))(p:b≠t):WT [.Y b] G=Z (.Y (G.a+1),G.ξ b (Cd a (rs'.j Ze) G.a)++[.Υ .d (Zb (AN a rs' gs)),.Υ .l (G6 L a rs rs' (Zz Cw gs))]):=by
 let(e,E):=ZFO h h' hL B c v n o A f;generalize G6 L a rs rs' (Zz Cw gs)=H at *;let q:=kF h' rs' c v gs C (λg P=>(A g P).G hL) f;let F:=XU a rs' gs;let s:Lm [.R (Zb<|AN L rs gs) .d]=Z (gs.j Ak):=by rw[cB,XH]
 generalize K:rs'.j Ze=R at *;generalize Zb (AN a rs' gs)=j,Zb (AN L rs gs)=m at *;let u:(G.ξ b (Cd a R G.a)++[Cl.Υ .d j])[G.a]?=Z (.Υ .d j):=by
  rw[KO (by simp)];simp
 let M:C8 2 (G.ξ b (Cd a R G.a)++[Cl.Υ .d j]) (.Y t)=.r (.R m .d):=kG (by ext)<|Kt (by rw[Ev<|B8 p];show k);suffices N:WR ([.Y b,.no],G)=.ϱ (.Y<|G.a+1) (G.ξ b (Cd a R G.a)++[.Υ .d j,.Υ .l H])from G5 (fi rfl N) rfl
 rwa[WR,hZ,hU,XN i,xP,Pe,if_pos (Bp.mp k).1,hY,hV,IM 1 (by ext) i k,show C8 1 G (.cel t)=.val (.lst m .d)from kG (by ext) k,J0,GH,IL (L:=a) (R:=R) (T:=m),XM (L:=a) (R:=R) (T:=m),s,q,To,jG,jL,F,GQ,Kt i,true_and,show(3:Y)<1000 by ext,show Internal.putN "tables" Ff=Ff by symm,show ∀x y w z:IV,D9 "tables" z Ff [x,y,w]=[x,y,z]from λx y w z=>by erw[D9,if_neg (show ¬ ("axes":Ae)="tables" by symm),if_neg (show ¬ ("standing":Ae)="tables" by symm),if_true],List.set_append_left _ _ (Bp.mp i).1,hX,hW,IM 2 (by ext) (Kt<|Hv i) u,M,En,L0 (L:=a) (R:=R) (T:=j),e,HJ,E,E8,Il,Jm,Ha,EJ]
def
ZCZ:Ff.Ϟ "put_ladder"=O':=by symm
def
ZDt:Ff.Ϟ "tables_renewed"=O':=by symm
def
ZGV{L:AB}{k:Y}(b:k<L.a)(a:Bj):((L.j LD).ϣ k++[LD a])++(L.j LD).Ψ (k+1)=(L.ξ k a).j LD:=by
 rw[List.map_set,List.set_eq_take_append_cons_drop,if_pos (by exists b)];simp
variable {L:AB}{R T:U D}{G:Gh}{b t k:Y}(hb:G[b]?=Z (Cd L R t))(ht:G[t]?=Z (.Υ .d T))
include hb ht
def
vwb(m:Y)(a:m≠0):C8 m G (.Y b)=.r (BD L R T):=IM m a hb ht
def
ZAm(c:k<L.a)(m:L.a<=4)(a:Bj):QT [.Y b,‹k›,.r (LD a)] G=Z (.r .κ,G.ξ b (Cd (L.ξ k a) R t)):=by
 let d:=IL (L:=L) (R:=R) (T:=T);let e:Fc (L.j LD) J (Z (k:W'))=(L.j LD).ϣ k:=dO _ _<|MK k;let f:Fc (L.j LD) (Z<|(k:W')+1) J=(L.j LD).Ψ (k+1):=by rw[Uz _ _ ∅,show((k:W')+1).ν=k+1 by show Int.toNat_natCast_add_one]
 let g:B4 1 (.R<|(L.ξ k a).j LD)=J':=by
  show(!vk 1 .l&&Dg 1 ((L.ξ k a).j LD))=J'
  rw[Sw];rfl
 let h:Zt (.R<|(L.j LD).ϣ k) (.R [LD a])=Z (.R<|(L.j LD).ϣ k++[LD a]):=by erw[Zt,if_pos (show((L.map LD).take k).length+[LD a].length<=Av from BN (show _<=10 by simp;lia) (by ext))]
 let i:Zt (.R<|(L.j LD).ϣ k++[LD a]) (.R<|(L.j LD).Ψ<|k+1)=Z (.R<|(L.ξ k a).j LD):=by erw[Zt,if_pos (show((L.map LD).take k++[LD a]).length+((L.map LD).drop<|k+1).length<=Av from BN (show _<=10 by simp;lia) (by ext)),ZGV c a]
 change _=Z (IV.r .κ,G.ξ b<|.mix kB [#v[(L.ξ k a).j LD],#v[R],.Y t])
 generalize LD a=X,L.j LD=n,(L.ξ k a).j LD=Y',(L.j LD).ϣ k=o,(L.j LD).Ψ (k+1)=p at *;let j:UL ([.Y b,‹k›,.r X],G)=.Q ([.Y b,‹k›,.r X],G.ξ b<|.mix kB [#v[Y'],#v[R],.Y t]):=by
  rwa[UL,vwb hb ht 1 (by ext),d,E1,EZ,Fz,e,f,h,i,g,GQ,hb,true_and,show(3:Y)<1000 by ext,show Internal.putN "axes" Ff=Ff by symm,show ∀x y w z:IV,D9 "axes" z Ff [x,y,w]=[z,y,w]from λx y w z=>by erw[D9,if_true]]
 show G5 (fi rfl j) rfl
def
ZA8:ES "Book" "put_ladder" (Cd L R t)=J':=by rwa[ES,ZCZ]
end
def
BJ.set{L:AB}(h:BJ L)(k:Y){b:Bj}{p:Y}(c:GL b p):BJ (L.ξ k b):=#[by simpa using h.n1,by simpa using h.n4,λx a=>by
 rcases cY a with a|rfl
 .show h.jk x a
 .show#[p,c]]
def
AM.set{b c:Bj}(d:∀a∈c.j hd,a∈b.j hd):∀{L:AB}{s:U At}{k:Y},AM L s->L[k]?=Z c->AM (L.ξ k b) s
 |_,_,_,.nil,_=>.ώ
 |_,_,0,.cons h t,e=>by ext e;show .Α (d _ h) t
 |_,_,k+1,.cons h t,e=>.Α h<|AM.ξ d t (by exists e)
variable {L:AB}{G:Gh}{b t k p:Y}{rs:U Row}(h:BJ L)(hb:G[b]?=Z (Cd L (rs.j Ze) t))(ht:G[t]?=Z (.Υ .d (Zb (AN L rs gs))))(hbt:b≠t)(hr:∀r∈rs,AM L r.1)(hl:rs.a<=100)(hn:gs.θ)(hgs:∀g∈gs,g.a=L.a)(h12:gs.a<=12){ls:Bj}(hL:L[k]?=Z ls)(hg:GL ls p)
include h hb ht hbt hr hl hn hgs h12 hL hg
end
def
Dz{G:Gh}{q:Y}(h:G[q]?=Z (.Υ .l xs)):C8 2 G (.Y q)=#v[xs]:=by
 simp_all
def
Nc{G:Gh}{q:Y}(h:G[q]?=Z (.Υ .l xs)):C8 1 G (.Y q)=.ϵ xs:=by
 simp_all
def
ZyE{G:Gh}{n:Y}{c:Cl}(h:G[n]?=Z c):G.ξ n c=G:=by
 apply(Jc);intro i;by_cases e:n=i
 .subst e;rw[Hv h,h]
 .rw[Dn e]
def
ZCo(rs:U Row)(r:Row)(d:rs.a<64){G:Gh}{n:Y}(h:G[n]?=Z (.Υ .l (rs.j Ze))):UG [.Y n,.r (Ze r)] G=Z (.r .κ,G.ξ n (.Υ .l ((rs++[r]).j Ze))):=by
 let b:NS (.o ((rs.j Ze).a:W')) (.o 200)=Z (.bl O'):=by
  change Z (D.bl<|decide<|(200:W')<=((rs.j Ze).a:W'))=_
  grind [Bx]
 let c:(rs.j Ze).a<Av:=by rw[Bx];show BM (show rs.a<1000 by lia) (by ext)
 let a:Zo [.R<|rs.j Ze]=Z (.o ((rs.j Ze).a:W')):=rfl;rw[Er,AQ,Do];generalize rs.j Ze=R,Ze r=f at *;let e:UF ([.Y n,.r f],G)=.Q ([.Y n,.r f],G.ξ n<|.Υ .l<|R++[f]):=by
  rwa[UF,Dz h,a,b,Hl,h,if_pos c]
 show G5 (fi rfl e) rfl
def
XV(r:Row):B4 2 (Ze r)=J':=by
 show(B4 2 (Af r.1)&&(B4 2 (.o r.2)&&J'))=J'
 rw[FL];rfl
def
kH(rs:U Row):Dg 2 (rs.j Ze)=J':=ZM λd hd=>by let(r,_,rfl):=Be.mp hd;show XV r
def
XW(r s:Row):Bl (Ze r) (Ze s)=decide (r=s):=by
 let(k,x):=r;let(l,y):=s;show(Bl (Af k) (Af l)&&(Bl (.o x) (.o y)&&J'))=_
 rw[XP];simp[Prod.ext_iff]
def
XX(n:Y)(r:Row):AZ (n+2) (Ze r)=J':=by
 show(AZ (n+1) (Af r.1)&&(AZ (n+1) (.o r.2)&&J'))=J'
 rw[O3];rfl
def
kI(rs:U Row):(rs.j Ze).Ϛ (AZ 12)=J':=by
 rw[Dr];intro d hd;let(r,_,rfl):=Be.mp hd;show XX 10 r
def
ZBX(r:Row)(rs:U Row):FS (Ze r) (rs.j Ze)=decide (r∈rs):=by
 unfold FS;induction rs with|nil=>rfl|cons s rs a=>
  rw[AQ,List.any_cons,a,XW];by_cases c:s=r
  .subst c;simp
  .have:¬ r=s:=λe=>c e.Ζ;simp[c,this]
def
kJ(r:Row):∀rs:U Row,r∈rs->∃j,(rs.j Ze).findIdx? (λz=>Bl z (Ze r))=Z j/\(rs.j Ze).Τ j=(rs.erase r).j Ze
 |s::rs,h=>by
  by_cases c:s=r
  .subst c;show#[0,by simp[List.findIdx?_cons,XW],by simp]
  .let a:r∈rs:=by
    rcases Bw.mp h with e|h
    .show absurd e.Ζ c
    .show h
   let(j,b,d):=kJ r rs a;apply#[j+1,?_,?_]
   .erw[AQ,List.findIdx?_cons,XW,decide_eq_false c,b,F5,if_false,Ec]
   .rw[List.erase_cons_tail (by exists c)];erw[AQ,List.eraseIdx_cons_succ,d]
def
ZDV{rs:U Row}{r:Row}(a:r∈rs){G:Gh}{n:Y}{xs:U IV}(h:G[n]?=Z (.Υ .l (rs.j Ze))):Ot (Z n) (Z (Ze r)) (xs,G)=Z (.r .κ,G.ξ n (.Υ .l ((rs.erase r).j Ze))):=by
 let(j,b,c):=kJ r rs a;rwa[Ot,h,FY,XX 10 r,kI rs,b,c]
def
ZAs{rs:U Row}{r:Row}(a:r∈rs){G:Gh}{n:Y}(h:G[n]?=Z (.Υ .l (rs.j Ze))):UI [.Y n,.r (Ze r)] G=Z (.r .κ,G.ξ n (.Υ .l ((rs.erase r).j Ze))):=by
 let b:CF J' (Ze r) (.R<|rs.j Ze)=Z (.bl O'):=by
  rwa[CF,FY,XX 10 r,kI rs,ZBX,decide_eq_true a]
 let c:=ZDV a h (xs:=[.Y n,.r<|Ze r]);generalize rs.j Ze=R,Ze r=f,(rs.erase r).j Ze=d at *;let e:UH ([.Y n,.r f],G)=.Q ([.Y n,.r f],G.ξ n<|.Υ .l d):=by
  rwa[UH,Dz h,b,c]
 show G5 (fi rfl e) rfl
def DH(rs:U Row)(c:GY):U Row:=bif c.1 then rs++[c.2]else rs.erase c.2
def
kK(rs:U Row)(c:GY):(DH rs c).a<=rs.a+1:=by
 unfold DH;cases c.1
 .show Jo<|List.length_erase_le ..
 .simp
def
ZBe{rs:U Row}{c:GY}{r:Row}(h:r∈DH rs c):r∈rs\/r=c.2:=by
 unfold DH at h;cases hc:c.1 with
 |true=>rw[hc]at h;exists h
 |false=>rw[hc]at h;show .O<|List.mem_of_mem_erase h
def Nd(L:AB):U Row->U GY->V'
 |_,[]=>True
 |a,c::b=>(AM L c.2.1/\(c.1=O'->c.2∈a))/\Nd L (DH a c) b
def
ZwA{L:AB}(h:BJ L)(a d:IV){rs:U Row}(g:rs.a<64){c:GY}(hc:AM L c.2.1)(i:c.1=O'->c.2∈rs){G:Gh}{n:Y}(e:G[n]?=Z (.Υ .l (rs.j Ze))):RS ([#v[L.j LD],a,d,.Y n,.r (Dc c)],G)=.Q ([#v[L.j LD],a,d,.Y n,.r (Dc c)],G.ξ n (.Υ .l ((DH rs c).j Ze))):=by
 unfold RS DH;let f:=ZBR h c hc;let(b,r):=c;cases b with
 |true=>rwa[f,Dt,show Am (Dc (J',r)) (.int 0)=Z (IK J')from rfl,show Am (Dc (J',r)) (.int 1)=Z (Af r.1)from rfl,show Am (Dc (J',r)) (.int 2)=Z (.int r.2)from rfl,j9 J',show D.tup [Af r.1,.int r.2]=Ze r from rfl,XV r,ZCo rs r g e,cond_true]
 |false=>rwa[f,Dt,show Am (Dc (O',r)) (.int 0)=Z (IK O')from rfl,show Am (Dc (O',r)) (.int 1)=Z (Af r.1)from rfl,show Am (Dc (O',r)) (.int 2)=Z (.int r.2)from rfl,j9 O',show D.tup [Af r.1,.int r.2]=Ze r from rfl,XV r,ZAs (i rfl) e,cond_false]
def
kL{L:AB}(h:BJ L)(b d:IV){n:Y}:∀(cs:U GY)(rs:U Row)(s4:IV)(G:Gh),rs.a+cs.a<64->Nd L rs cs->G[n]?=Z (.Υ .l (rs.j Ze))->∃a,FD 4 RS (cs.j Dc) ([#v[L.j LD],b,d,.Y n,s4],G)=.Q ([#v[L.j LD],b,d,.Y n,a],G.ξ n (.Υ .l ((cs.Ω DH rs).j Ze)))
 |[],rs,s4,G,_,_,e=>#[s4,by rw[List.foldl_nil,ZyE e];rfl]
 |c::cs,rs,s4,G,f,⟨⟨hc,i⟩,j⟩,e=>by
  erw[Ct]at f;have:=kK rs c;let(a,g):=kL h b d cs (DH rs c) (.r<|Dc c) (G.ξ n<|.Υ .l<|(DH rs c).j Ze) ∅ j<|Hv e;apply⟨a,?_⟩;rw[List.set_set]at g;rwa[FD,ZwA h b d (EF f) hc i e];show g
def
XY{L:AB}:∀(cs:U GY){rs:U Row},(∀r∈rs,AM L r.1)->Nd L rs cs->∀r∈cs.Ω DH rs,AM L r.1
 |[],_,h,_=>h
 |c::cs,rs,h,⟨⟨hc,_⟩,b⟩=>XY cs (λr a=>by
  rcases ZBe a with a|rfl
  .show h r a
  .show hc) b
def
XZ:∀(cs:U GY)(rs:U Row),(cs.Ω DH rs).a<=rs.a+cs.a
 |[],_=>Bg _
 |c::cs,rs=>by
  have:=kK rs c;have:=XZ cs<|DH rs c;rw[IH,Ct];lia
def
Zw5{L:AB}(h:BJ L){rs:U Row}(c:∀r∈rs,AM L r.1){cs:U GY}(d:rs.a+cs.a<64)(hc:Nd L rs cs)(G:Gh):W0 [#v[L.j LD],#v[rs.j Ze],#v[cs.j Dc]] G=Z (#v[(Zz Dh (cs.Ω DH rs)).j Ze],G++[.Υ .l ((cs.Ω DH rs).j Ze)]):=by
 let(m,e):=kL h #v[rs.j Ze] #v[cs.j Dc] (n:=G.a) cs rs .no (G++[.Υ .l<|rs.map Ze]) d hc (by simp);let sp:=XY cs c hc;let ln:=XZ cs rs;generalize cs.foldl DH rs=a at *;rw[show(G++[Cl.dat .l<|rs.map Ze]).set G.length (.dat .l<|a.map Ze)=G++[.dat .l<|a.map Ze] by simp]at e;let o:=h.n4;let f:=Zu0 a ∅ λr g=>by have:=(sp r g).ϧ;lia
 let b:C8 2 (G++[.Υ .l<|a.j Ze]) (.Y G.a)=#v[a.j Ze]:=Dz (by simp);let i:=kH<|Zz Dh a;let j:=kH rs;generalize L.j LD=p,cs.j Dc=C,a.j Ze=W,(Zz Dh a).j Ze=Y',rs.j Ze=R at *;suffices k:WZ ([#v[p],#v[R],#v[C],.no,.no],G)=.ϱ #v[Y'] (G++[.Υ .l W])from G5 (fi rfl k) rfl
 rwa[WZ,ig,h6,GH,show J2 [.lst R]=Z R from rfl,jG,jL,j,ie,h7,MD,Js,e,h9,h8,b,Ll,f,i,xF]
def
ZAf{L:AB}(h:BJ L)(W:Cl):WQ [.Y 1,#v[L.j LD]] [W,.mix (.i [] "Book") []]=Z (.r .κ,[W,Cd L [] 2,.Υ .d (Zb (AN L [] [zg L]))]):=by
 let g:=h.al;let j:=Xt h;let f:=kF h [] (λ_ h=>nomatch h) (by ext) [zg L] (by simp) (by simp) (by simp);rw[Do,AQ,Do,<- XQ]at f;let hc:=Zw (b:=Zc 0) (e:=g6) (ρ:=[.no]) LD LD L λk _=>#[[.r<|LD k],rfl,rfl];let l:=Zl (L.j LD) (by have:=h.n4;simp;lia);let m:=Sw L;let n:=XU L [] [zg L];let lk:C7 "Book" "axes" (.R [.R<|L.j LD,.R []]<|.i ["axes","standing"] "Book")=Z (.R<|L.j LD):=rfl;generalize Zb (AN L [] [zg L])=TT at *;generalize c:L.j LD=a at *;suffices e:RQ ([.Y 1,#v[a]],[W,.mix (.i [] "Book") []])=.Q ([.Y 1,#v[a]],[W,.mix kB [#v[a],#v[[]],.Y 2],.Υ .d TT])from by
  show(match RQ ([.Y 1,#v[a]],[W,.mix (.i [] "Book") []])with | .ret x o=>Z (x,o) | .next s=>Z (.r .κ,s.2)|_=>J)=_
  rw[e,<- c]
 rwa[RQ,hR,g8,g,Dt,hQ,g9,Zh,show ∀V:Sl,Zq 1 [] [V,#v[a]]=[.no]from λ_=>rfl,l,hc,jG,jL,m,xF,GQ,and_self,true_and,putN,D9,show(0:Y)<1000 by ext];rwa[hJ,hD,show Zf (Z ([]:U D))=Z []from rfl,jG,jL,show Dg 2 []=J' from rfl,xF,GQ,Km,true_and,show(1:Y)<1000 by ext,show Internal.putN "standing" ["axes"]=(["axes","standing"]:U Ae) by symm,show ∀x y:IV,D9 "standing" y ["axes"] [x]=[x,y]from λx y=>by erw[D9,if_neg (show ¬ ("axes":Ae)="standing" by symm)],hH,hE,show C8 1 [W,.mix (.i ["axes","standing"] "Book") [#v[a],#v[[]]]] (.cel 1)=.val (.lst [.lst a,.lst []]<|.i ["axes","standing"] "Book")from rfl,J0,lk,j,f,To,n,Ha,EJ,Ia,show(2:Y)<1000 by ext,show Internal.putN "tables" ["axes","standing"]=(["axes","standing","tables"]:U Ae) by symm,show ∀x y z:IV,D9 "tables" z ["axes","standing"] [x,y]=[x,y,z]from λx y z=>by erw[D9,if_neg (show ¬ ("axes":Ae)="tables" by symm),if_neg (show ¬ ("standing":Ae)="tables" by symm)],hG]
def
kM:Ff.Ϟ "pour"=O':=by symm
def
Zv6(rs:U Row):B4 1 (.R (rs.j Ze))=J':=by
 show(!vk 1 .l&&Dg 1 (rs.j Ze))=J'
 rw[ZM λd hd=>by
  let(r,_,rfl):=Be.mp hd;show(B4 1 (Af r.1)&&(B4 1 (.o r.2)&&J'))=J'
  rw[FL];rfl];rfl
structure BS(L:AB)(rs:List Row)(gs:List (List Y))(b:Y)(G:Gh):V' where
 gl:BJ L
 sp:∀r∈rs,AM L r.1
 nd:gs.θ
 gn:∀g∈gs,g.a=L.a
 g12:gs.a<=12
 bk:∃t,G[b]?=Z (Cd L (rs.j Ze) t)/\G[t]?=Z (.Υ .d (Zb (AN L rs gs)))/\b≠t
structure RN(L:AB)(rs:List Row)(gs:List (List Y))(b j:Y)(Y':List D)(G G':Gh):V' where
 bs:BS L rs gs b G'
 tl:G'[j]?=Z (.Υ .l Y')
 jb:G.a<=j
 tj:∀t,G'[b]?=Z (Cd L (rs.j Ze) t)->t≠j/\G.a<=t
 ex:∀i,i≠b->i<G.a->G'[i]?=G[i]?
def
kN:∀(cs:U GY){rs:U Row},(∀c∈cs,c.1=J')->∀r∈rs,r∈cs.Ω DH rs
 |[],_,_,_,h=>h
 |c::cs,rs,hc,r,h=>kN cs (λx a=>hc x<|Bk _ a) r (by rw[DH,hc c Bb];show Ie _ h)
def
kO{L:AB}{rs:U Row}{b:Y}{G:Gh}(s:BS L rs gs b G){cs:U GY}(N:rs.a+cs.a<64)(q:∀c∈cs,c.1=J')(hc:Nd L rs cs):∃j G',LB [.Y b,#v[cs.j Dc]] G=Z (.Y j,G')/\RN L (Zz Dh (cs.Ω DH rs)) gs b j (G6 L L rs (Zz Dh (cs.Ω DH rs)) (Zz Cw gs)) G G':=by
 let(h,u,E,H,k,t,g,Q,m):=s;let hp:=Zw5 h u N hc G;let K:=(Bp.mp g).1;let f:=ZC Dh<|cs.foldl DH rs;let ln:=XZ cs rs;let sp:=XY cs u hc;let sub:=kN cs q (rs:=rs);generalize cs.foldl DH rs=a at *;let e:=ZEH h h rfl (rs:=rs) (rs':=Zz Dh a) u (λr n=>sp r<|f.mem_iff.mp n) (by rw[f.length_eq];lia) (λr n=>f.ϖ.Ϣ<|sub r n) rfl (gs:=gs) E H k (Hv<|Kt g) (show((G++[Cl.Υ .l<|a.j Ze]).ξ b<|Cd L ((Zz Dh a).j Ze) t)[t]?=Z (.Υ .d<|Zb<|AN L rs gs) by rw[Ev<|B8 m];show Kt Q) m;rw[List.set_set]at e;let F:((G++[Cl.Υ .l<|a.j Ze]).ξ b<|Cd L ((Zz Dh a).j Ze) t).a=G.a+1:=by simp
 rw[F]at e;generalize G6 L L rs (Zz Dh a) (Zz Cw gs)=A at *;let o:((G++[Cl.Υ .l<|a.j Ze]).ξ b (Cd L ((Zz Dh a).j Ze)<|G.a+1)++[Cl.Υ .d<|Zb<|AN L (Zz Dh a) gs,.Υ .l A])[b]?=Z (Cd L ((Zz Dh a).j Ze)<|G.a+1):=by
  rw[Fx (by simp;lia)];show Hv<|Kt g
 apply#[G.a+1+1,(G++[Cl.Υ .l<|a.map Ze]).set b (Cd L ((Zz Dh a).map Ze)<|G.length+1)++[Cl.dat .d<|Zb<|AN L (Zz Dh a) gs,.dat .l A],?_,⟨h,(λr n=>sp r<|f.mem_iff.mp n),E,H,k,G.length+1,o,?_,∅⟩,?_,∅,λt' M=>?_,λi B p=>?_]
 .let P:B4 1 (.R<|L.j LD)=J':=by
   show(!vk 1 .l&&Dg 1 (L.j LD))=J'
   rw[Sw];rfl
  let Y':=Zv6 rs;let a1:=IL (L:=L) (R:=rs.j Ze) (T:=Zb<|AN L rs gs);let a2:=XM (L:=L) (R:=rs.j Ze) (T:=Zb<|AN L rs gs);let B:ES "Book" "tables_renewed" (Cd L ((Zz Dh a).j Ze) t)=J':=by rwa[ES,ZDt]
  generalize cs.j Dc=C,(G++[Cl.Υ .l<|a.j Ze]).ξ b (Cd L ((Zz Dh a).j Ze)<|G.a+1)++[Cl.Υ .d<|Zb<|AN L (Zz Dh a) gs,.Υ .l A]=GF,BD L (rs.j Ze) (Zb<|AN L rs gs)=B1,rs.j Ze=R0 at *;suffices e2:W5 ([.Y b,#v[C]],G)=.ϱ (.Y<|G.a+1+1) GF from G5 (fi rfl e2) rfl
  rwa[W5,IM 1 (by ext) g Q,a1,a2,P,Y',hp,GQ,Kt g,Km,Ia,true_and,show(3:Y)<1000 by ext,and_self,show Internal.putN "standing" Ff=Ff by symm,show ∀x y w z:IV,D9 "standing" z Ff [x,y,w]=[x,z,w]from λx y w z=>by erw[D9,if_neg (show ¬ ("axes":Ae)="standing" by symm),if_true],DZ,Hv<|Kt g,B,show b<((G++[Cl.dat .l<|a.map Ze]).set b<|Cd L ((Zz Dh a).map Ze) t).length by rw[F];show Nat.lt_add_right 1 K,e]
 .rw[KO (by simp)];simp
 .rw[KO (by simp)];simp
 .rw[o]at M;have:=E6 M;lia
 .rw[Fx (by simp;show Nat.lt_add_right 1 p),Ev B,Fx p]
def
CN.of{L:AB}{g:U Y}(c:g.a=L.a)(h:∀k (a:k<L.a) (b:k<g.a),g[k]<=wh L[k]):CN L g:=#[c,λq d=>by
 let(k,e,rfl):=List.getElem_of_mem d;let a:k<L.a:=by erw[List.length_zip]at e;lia
 let b:k<g.a:=∅
 have:=h k a b;simpa[List.getElem_zip]using this]
def
kP{L:AB}(h:BJ L)(c:W'):∃g,CN L g/\MR [#v[L.j LD],‹c›]=Z (.r (Ak g)):=by
 let B:=h.n4;let(a,e,m,hp):=M5 c L.a ∅;letI g:U Y:=(AW L.a).j λk=>(a.B k 0%((wh (L.B k [])+1:Y):W')).ν;apply#[g,CN.of (show g.a=L.a by simp[g]) λk o C=>?_,?_]
 .let E:=Hr (a.B k 0) (show(0:W')<((wh L[k]+1:Y):W') by show Int.ofNat_succ_pos (wh L[k]));rw[List.getElem_map,List.getElem_range,show L.B k []=L[k] by simp[C6,o]];lia
 .let hc:=Zw (b:=Zc 0) (e:=Va) (ρ:=[.no,#v[a.j D.o],#v[L.j LD]]) (λk:Y=>D.o k) (λk=>D.o (((a.B k 0%((wh (L.B k [])+1:Y):W')).ν:Y):W')) (AW L.a) λk q=>#[[‹k›,#v[a.j D.o],#v[L.j LD]],rfl,by
   let d:=DS.mp q;let(p,s):=h.jk L[k]<|Fn d;let t:Am (.R<|L.j LD) (.o k)=Z (LD L[k]):=ZE (by rw[CW,BZ d];rfl);let u:Am (.R<|a.j D.o) (.o k)=Z (.o a[k]):=ZE (by rw[CW,BZ<|KQ d m.Ζ];rfl);let n1:=s.n1;let i:∃l,Am (LD L[k]) (.o 0)=Z (Af l)/\l.a=wh L[k]:=by
    generalize L[k]=w at *;cases w with
    |nil=>simp at n1
    |cons l r=>show#[l,ZE (j:=0) rfl,rfl]
   let(l,i,x):=i;let y:ZI (.o a[k]) (.o ((wh L[k]+1:Y):W'))=Z (.o<|a[k]%((wh L[k]+1:Y):W')):=by
    simp_all [wh]
   rw[show L.B k []=L[k] by simp[C6,d],show a.B k 0=a[k] by simp[C6,KQ d m.symm],LS<|FH _ ∅];rwa[Va,t,u,i,show Zo [Af l]=Z (.int (wh L[k]:W')) by rw[<- x];simp[Af],show Zt (.int (wh L[k]:W')) (.int 1)=Z (.int ((wh L[k]+1:Y):W'))from rfl,y]]
  let n:=QN (L.a:W') (MK<|List.length L) ∅;rw[Jn]at n;let z:=Zl ((AW L.length).map λk:Y=>D.o k) (by simp;lia);let f:Zo [.R<|L.j LD]=Z (.o L.a):=by simp
  let A:g.j (λj:Y=>D.o j)=(AW L.a).j λk=>D.o (((a.B k 0%((wh (L.B k [])+1:Y):W')).ν:Y):W'):=by
   rw[B7];rfl
  change MR _=Z (.r<|.tup (g.map λj:Y=>D.o j))
  rw[A];generalize a.j D.o=S,L.j LD=W,(AW L.a).j (λk:Y=>D.o k)=H,((AW L.a).j λk=>D.o (((a.B k 0%((wh (L.B k [])+1:Y):W')).ν:Y):W'))=Y' at *;apply Zx rfl ?_;change Vb [#v[W],‹c›,.no]=_
  rwa[Vb,f,e,Zh,show Zq 1 [2,0] [#v[W],‹c›,#v[S]]=[.no,#v[S],#v[W]]from rfl,n,z,hc,show DC [.lst Y']=Z (.tup Y')from rfl]
def
CN.zero(L:AB):CN L (zg L):=CN.of (by simp) λk a b=>by simp
def
GL.app{g:Bj}{p:Y}(h:GL g p)(r:g.a<40){l:U At}(s:l.a=p)(hv:∀a∈l,Jw (aD a)=J'/\Sm (aD a))(t:hd l∉g.j hd) (k:∀n∈g,∀m a,l[m]?=Z a->n[m]?=Z a->l.Ψ (m+1)=n.Ψ (m+1)):GL (g++[l]) p:=by
 apply#[by simp,by simp;lia,h.p1,h.p4,λx c=>?_,λx c=>?_,?_,?_]
 .rcases C0.mp c with c|c
  .show h.ϧ x c
  .rw[Cg.mp c];show s
 .rcases C0.mp c with c|c
  .show h.r x c
  .rw[Cg.mp c];show hv
 .rw[Er,Ge];show#[h.hdn,by simp,λa u b o e=>t (by simp at o;rw[<- o,<- e];show u)]
 .intro l1 d q f m a i j;rcases C0.mp d with d|d<;>rcases C0.mp f with f|f
  .show h.fn l1 d q f m a i j
  .rw[Cg.mp f]at j ⊢;show(k l1 d m a j i).Ζ
  .rw[Cg.mp d]at i ⊢;show k q f m a i j
  .rw[Cg.mp d,Cg.mp f]
variable {M:U D}{d:D}
def
ZEB(a:M.a<1000):Za Zt (λρ=>Bi ρ 0) (λρ=>ZA (Zf ((Zi (DN (Bd ρ 1)) (Z [])).J Zm))) [#v[M],.r d,.no]=Z (.R (M++[d])):=by
 let b:Zt (.R M) (.R [d])=Z (.R<|M++[d]):=by
  show(if M.a+[d].a<=Av then Z (D.R<|M++[d])else J)=_
  rw[if_pos (show M.a+[d].a<=Av from BN (show M.a+1<=1000 from a) (by ext))]
 erw[Za,Bi,Bd,DN,Zi,Zm,Gd,Hs,DB,Ec,show Zf (Z [d])=Z [d]from Zl _ (by simp),ZA,b]
def
ZCz(e:M.a+1<=40)(a:MY [#v[M++[d]]]=Z (.r (.bl J'))):V4 [#v[M],.r d]=Z (.r (.R (M++[d]))):=by
 let b:Zo [.R<|M++[d]]=Z (.o (((M++[d]).a:Y):W')):=rfl;let c:Fa (.o (((M++[d]).a:Y):W')) (.o 40)=Z (.bl O'):=by
  change Z (D.bl<|decide<|(40:W')<((M++[d]).a:W'))=_
  rw[decide_eq_false (by rw[E8,JU];lia)]
 apply Zx rfl ?_;change V3 [#v[M],.r d,.no]=_
 rw[V3,gI,gB,ZEB (M:=M) (d:=d) ∅];rwa[gH,gC,a,Dt,gG,gD,b,c,gF,gE]
end
variable {L:AB}{R T:U D}{G:Gh}{b t k:Y}(hb:G[b]?=Z (Cd L R t))(ht:G[t]?=Z (.Υ .d T))
include hb ht
def
vw3(m:Y)(a:m≠0)(x y:D):vw m ([.Y b,.r x,.r y],G)=[.r (BD L R T),.r x,.r y]:=by
 simp_all
def
ZGS(x y:D):vw 0 ([.Y b,.r x,.r y],G)=[.no,.r x,.r y]:=by
 simp_all
def
ZBG(h:BJ L){a:Bj}{p:Y}(hL:L[k]?=Z a)(e:a.a<40){l:U At}(c:GL (a++[l]) p):OU [.Y b,‹k›,.r (Af l)] G=Z (.r .κ,G.ξ b (Cd (L.ξ k (a++[l])) R t)):=by
 let f:=ZCz (M:=a.j Af) (d:=Af l) (by simp;lia) (by have:=c.go;rw[show LD (a++[l])=.R (a.j Af++[Af l]) by simp[LD]]at this;show this);let hp:QT [.Y b,‹k›,#v[a.j Af++[Af l]]] G=Z (.r .κ,G.ξ b<|Cd (L.ξ k<|a++[l]) R t):=by
  have:=ZAm hb ht ((Bp.mp hL).1) h.n4<|a++[l];rw[show LD (a++[l])=.R (a.j Af++[Af l]) by simp[LD]]at this;show this
 let g:=vw3 hb ht 1 (by ext) (.o k)<|Af l;let i:=ZGS hb ht (.o k)<|Af l;let j:=IL (L:=L) (R:=R) (T:=T);let m:=ZFw (L.j LD) k (d:=.R<|a.j Af) (by rw[CW,hL];rfl);let n:B4 1 (.R<|a.j Af++[Af l])=J':=by
  have:=Pd<|a++[l];rw[show LD (a++[l])=.R (a.j Af++[Af l]) by simp[LD]]at this;show this
 generalize a.j Af++[Af l]=Y',a.j Af=M,Af l=X,BD L R T=B at *;let o:Wa ([.Y b,‹k›,.r X],G)=.Q ([.Y b,‹k›,.r X],G.ξ b<|Cd (L.ξ k<|a++[l]) R t):=by
  erw[Wa,DZ,show Bq (([.cel b,‹k›,.val X]:U IV),G) 0=Z b from rfl,hb,ZA8 hb ht,(Bp.mp hb).1,and_self,if_true,Pe,jE,g,i,Bd,Bi,Df,Gd,Hs,DB,j,jO,MG,n,Ec,Zi,DN,Zg,m,UB,f,hp,DY,Zr]
 show G5 (fi rfl o) rfl
end
def
ZDU{b:Bj}{l:U At}{j:Y}{a:At}(h:a∈b.j hd):FK (b++[l],j) a=FK (b,j) a:=by
 let(x,c,rfl):=Be.mp h;unfold FK;rw[List.find?_append];cases d:b.find? (λy=>decide<|hd y=hd x)with
 |none=>show absurd (List.find?_eq_none.mp d x c) (by simp)
 |some y=>rfl
def
kQ{a:Bj}{l:U At}:∀{L:AB}{g:U Y}{s:U At}{k:Y},AM L s->L[k]?=Z a->Z3 (qs (L.ξ k (a++[l])) g) s=Z3 (qs L g) s
 |_,_,_,_,.nil,_=>rfl
 |_,[],_,0,.cons _ _,_=>rfl
 |_,[],_,_+1,.cons _ _,_=>rfl
 |_,j::g,_,0,.cons h t,e=>by
  ext e;change FK (a++[l],j) _::_=FK (a,j) _::_
  rw[ZDU h]
 |_,j::g,_,k+1,.cons h t,e=>by
  change FK _ _::Z3 (qs _ g) _=FK _ _::Z3 (qs _ g) _
  rw[kQ t (by exists e)]
def
ZBd{a:Bj}{l:U At}{L:AB}{k:Y}(hL:L[k]?=Z a){rs:U Row}(b:∀r∈rs,AM L r.1)(g:U Y):C3 (L.ξ k (a++[l])) g rs=C3 L g rs:=by
 unfold C3 CM;rw[XJ λr c=>by rw[kQ (b r c) hL]]
def
ZAr{a:Bj}{l:U At}{L:AB}{k:Y}(hL:L[k]?=Z a){rs:U Row}(b:∀r∈rs,AM L r.1)(gs:U (U Y)):AN (L.ξ k (a++[l])) rs gs=AN L rs gs:=by
 show XJ λg _=>by rw[ZBd hL b]
def IN:D->j'
 |.non=>J'
 |d=>Jw d
def
ZFQ(d:D)(hd:Sm d):Rr [.r d]=Z (.bl (IN d)):=by
 let h:=Xk d hd;cases d with
 |non=>rfl
 |_=>rwa[Rr,EC,h,IN];rfl
variable {L:AB}{ls:Bj}{p k:Y}{y z d:D}{zs:U D}
def
Ku(h:L[k]?=Z ls):Am (.R (L.j LD)) (.o k)=Z (LD ls):=ZE (by rw[CW,h];rfl)
variable(hL:L[k]?=Z ls)(hg:GL ls p)(sy:Sm y)
include hL hg sy
def
ZAn(c:GZ (wh ls) y=J'){r:Rv}(d:Rs [#v[L.j LD],.r (.S [.o k,y,z])]=.ϱ r):MW [#v[L.j LD],.r (.S [.o k,y,z])]=Z r:=by
 let a:=kx (L.j LD) (.o k) trivial;rw[ky (by simpa using(Bp.mp hL).1)]at a;let b:=kr hg y sy;let e:=Ku hL;rw[c]at b;apply Zx rfl ?_;generalize L.j LD=W,LD ls=A at *;change Vw [#v[W],.r<|.S [.o k,y,z]]=_
 rwa[Vw,fW,fT,show Cy [.tup [.int k,y,z],.ty "tuple"]=Z (.bl J')from rfl,show Zo [.tup [.int k,y,z]]=Z (.int 3)from rfl,show Cp (.int 3) (.int 3)=Z (.bl O')from rfl,Dt,fV,fU,show Am (.tup [.int k,y,z]) (.int 0)=Z (.int k)from rfl,show Am (.tup [.int k,y,z]) (.int 1)=Z y from rfl,a,e,b,d]
def
ZAP(f:GZ (wh ls) y=J')(hz:z=.R zs\/z=.S zs)(hv:∀d∈zs,Sm d)(g:zs.a<=1000):MW [#v[L.j LD],.r (.S [.o k,y,z])]=Z (.r (.bl (zs.Ϛ IN))):=by
 let hc:=Zw (b:=Zc 0) (e:=Rr) (ρ:=[.no]) (λd=>d) (λd=>D.bl<|IN d) zs λd hd=>#[[.r d],rfl,ZFQ d<|hv d hd];rw[List.map_id',show zs.map (λd=>D.bl<|IN d)=(zs.j IN).j D.bl by rw[B7];rfl]at hc;let q:=Zl zs ∅;let c:DD [.R<|(zs.j IN).j D.bl]=Z (.bl<|zs.Ϛ IN):=by
  erw[DD,Na,Ec,Jg];rfl
 apply ZAn hL hg sy f ?_;rcases hz with rfl|rfl
 .rwa[Rs,Vt,show Am (.tup [.int k,y,.lst zs]) (.int 2)=Z (.lst zs)from rfl,show Cy [.lst zs,.tup [.ty "list",.ty "tuple"]]=Z (.bl J')from rfl,Dt,Vv,Vu,Zh,q,show ∀a,Zq 1 [] a=[.no]from λ_=>rfl,hc,c]
 .rwa[Rs,Vt,show Am (.tup [.int k,y,.tup zs]) (.int 2)=Z (.tup zs)from rfl,show Cy [.tup zs,.tup [.ty "list",.ty "tuple"]]=Z (.bl J')from rfl,Dt,Vv,Vu,Zh,q,show ∀a,Zq 1 [] a=[.no]from λ_=>rfl,hc,c]
end
def
Zy3(W:U D)(zs:U D)(v:D->j')(hv:∀d∈zs,MW [#v[W],.r d]=Z (.r (.bl (v d))))(c:zs.a<=1000):OR [#v[W],#v[zs]]=Z (.r (.bl (zs.Ϛ v))):=by
 let hc:=Zw (b:=Zc 0) (e:=VT) (ρ:=[.no,#v[W]]) (λd=>d) (λd=>D.bl<|v d) zs λd hd=>#[[.r d,#v[W]],rfl,by rwa[VT,hv d hd]];rw[List.map_id',show zs.j (λd=>D.bl<|v d)=(zs.j v).j D.bl by rw[B7];rfl]at hc;let a:DD [.R<|(zs.j v).j D.bl]=Z (.bl<|zs.Ϛ v):=by
  erw[DD,Na,Ec,Jg];rfl
 apply Zx rfl ?_;change VU [#v[W],#v[zs]]=_
 rwa[VU,show Cy [.lst zs,.ty "list"]=Z (.bl J')from rfl,Zh,Zl zs ∅,show Zq 1 [0] [#v[W],#v[zs]]=[.no,#v[W]]from rfl,hc,a]
def
vio(c:U At)(d:c.a<64):∃cs:U At,OW [#v[c.j aD]]=Z (.φ (cs.j aD))/\cs.a<64/\∀a,a∈cs↔a∈c:=by
 let j:=Zw (b:=Zc 0) (e:=Wb) (ρ:=[.no]) aD (λa=>Af [a]) c λa _=>#[[.r<|aD a],rfl,rfl];rw[show c.map (λa=>Af [a])=(c.j λa=>[a]).j Af by rw[B7];rfl]at j;let o:=Sg #v[(c.j λa=>[a]).j Af] (c.j λa=>[a]) (.O rfl) (by exists d) λl d=>by
  let(a,_,rfl):=Be.mp d;show#[by simp,by simp]
 let f:∀k,k∈DG J (Zz BU<|c.map λa=>[a])↔∃a∈c,[a]=k:=λk=>by
  rw[Xy,(ZC BU _).ϖ,Be]
 let g:(DG J<|Zz BU<|c.map λa=>[a]).a<64:=Hg (Sd _ _) (by rw[(ZC BU _).ϗ,Bx];show d);generalize DG J (Zz BU<|c.map λa=>[a])=n at *;let m:=Zw (b:=Zc 0) (e:=Wc) (ρ:=[.no]) Af (λk=>aD<|hd k) n λk i=>#[[.r<|Af k],rfl,by
  let(a,_,rfl):=(f k).mp i;rfl]
 rw[show n.j (λk=>aD<|hd k)=(n.map hd).map aD by rw[B7];rfl]at m;let p:=Zl (c.map aD) (by simp;lia);let q:=Zl (n.map Af) (by simp;lia);apply#[n.map hd,?_,by simpa using g,λa=>#[λh=>?_,λh=>Be.mpr #[[a],(f _).mpr #[a,h,rfl],rfl]]]
 .generalize c.j aD=M,(c.j λa=>[a]).j Af=V,n.j Af=W,(n.j hd).j aD=Y' at *;apply Zx rfl ?_;change OV [#v[M]]=_
  rwa[OV,Zh,show Zq 1 [] [#v[M]]=[.no]from rfl,p,j,o,EI,q,m,ZZ]
 .let(k,i,rfl):=Be.mp h;let(a,r,rfl):=(f k).mp i;show r
abbrev Pk:=Y×Y×U At×j'
def F0(vs:U At):j'->D
 |true=>.S (vs.j aD)
 |false=>.R (vs.j aD)
abbrev AT(q:Pk):D:=.S [.o q.1,.o q.2.1,F0 q.2.2.1 q.2.2.2]
structure AK(kvs:Br)(n:Y):V' where
 at':∀p∈kvs,EQ p.1=J'
 len:kvs.a<=n
def
Sy:∀(es:U (At×D))(kvs:Br)(n:Y),AK kvs n->n+es.a<=10000->∃b,FC kvs (es.j λe=>D.S [aD e.1,e.2])=Z b/\AK b (n+es.a)/\∀a,Zs b (.at a)=((es.reverse.find? λe=>decide (e.1=a)).j (·.2)).or (Zs kvs (.at a))
 |[],kvs,n,h,_=>#[kvs,rfl,h,λa=>by simp]
 |e::es,kvs,n,h,hz=>by
  erw[Ct]at hz;let(b,d,f,g):=Sy es (ZU kvs (.at e.1) e.2) (n+1) #[O7 h.at',BN (Mw _ _ _)<|L8 h.len] ∅;apply⟨b,?_,by rw[Ct,Ma es.length 1,<- Nat.add_assoc];show f,λa=>?_⟩
  .rwa[FC,IG,Hf e.1 h.at',decide_eq_true (show kvs.length<Av from Hg h.len (BM (show n<100000 by lia) (by ext))),d]
  .rw[g a,Iz,List.reverse_cons,List.find?_append];cases es.reverse.find? λe=>decide (e.1=a)with
   |some x=>rfl
   |none=>by_cases c:e.1=a<;>simp[c]
def EK(ps:U Pk)(k:Y)(l:U At):j':=ps.Ϛ λq=>!decide (q.1=k)||decide (l.B q.2.1 .κ∈q.2.2.1)
def
ZrM(W PS:U D)(k:Y)(q:Pk)(z:q.2.2.1.a<=100)(i:Bj)(p:∀l∈i,l.a<=4)(hz:i.a<=1000)(s5:Sl):∃m:Sl,OZ [#v[W],#v[PS],‹k›,#v[i.j Af],.r (AT q),s5]=.Q [#v[W],#v[PS],‹k›,#v[(i.χ λl=>!decide (q.1=k)||decide (l.B q.2.1 .κ∈q.2.2.1)).j Af],.r (AT q),m]:=by
 let(a,j,g,b):=q;let n:Am (AT (a,j,g,b)) (.o 0)=Z (.o a):=rfl;let r:Am (AT (a,j,g,b)) (.o 2)=Z (F0 g b):=rfl;let eq:=GU (a:W') (k:W');by_cases c:a=k
 .subst c;let(f,o,s,hv):=Sy (g.j λv=>(v,.bl J')) [] 0 #[λ_ h=>(nomatch h),Bg _] (by simp;lia);rw[B7]at o;let u:∀a,(Zs f<|.at a).isSome=decide (a∈g):=λa=>by
   rw[hv a,show Zs [] (.at a)=J from rfl,Option.or_none,Qq,List.isSome_find?,List.any_reverse,List.any_map,Se,Sz,decide_eq_true_eq];show#[λ⟨x,w,e⟩=>of_decide_eq_true e ▸ w,λh=>#[a,h,decide_eq_true rfl]]
  let y:=IJ (b:=Zc 0) (t:=Wo) (e:=gT) (ρ:=[.no,.r<|AT (a,j,g,b),.lent (Zb f) .d]) Af Af (λl=>decide<|l.getD j .non∈g) i λl A=>#[[.r<|Af l,.r<|AT (a,j,g,b),.ϵ (Zb f) .d],rfl,by
   let B:=Ko l j (by have:=p l A;lia);let C:DF O' (aD<|l.B j .κ) (.R (Zb f) .d)=Z (.bl<|decide<|l.B j .κ∈g):=by
    rw[Li,IG];rwa[Hf _ s.at'];rw[Bool.false_bne,u]
   show#[by rwa[Wo,show Am (AT (a,j,g,b)) (.int 1)=Z (.int j)from rfl,B,C],rfl]]
  let E:=Zl (g.j aD) (by simp;lia);let G:=Zl (i.j Af) (by simp;lia);apply#[.φ (Zb f) .d,?_];rw[show(i.χ λl=>!decide (a=a)||decide (l.getD j .non∈g))=i.filter λl=>decide (l.B j .κ∈g) by simp];generalize AT (a,j,g,b)=Q at *;ext b<;>rwa[OZ,n,eq,r,F0,FV,Zh,E,show ∀H,Zq 1 [] H=[.no]from λ_=>rfl,Zw (b:=Zc 0) (e:=Wn) (ρ:=[.no]) aD (λv=>D.tup [aD v,.bl J']) g λv _=>#[[.val<|aD v],rfl,by rwa[Wn]],show FC [] (g.map λv=>D.tup [aD v,.bl J'])=Z f from o,EL,show Zq 1 [4,5] [#v[W],#v[PS],‹a›,#v[i.map Af],.val Q,.own (Zb f) .d]=[.no,.val Q,.lent (Zb f) .d]from rfl,G,y]
 .rw[decide_eq_false ∅]at eq;apply#[s5,?_];rw[List.filter_eq_self.Ϣ λl _=>by rw[decide_eq_false c];rfl];rwa[OZ,n,eq]
def
kR(W PS:U D)(k:Y):∀(ps:U Pk)(a:Bj)(s4 s5:Sl),(∀q∈ps,q.2.2.1.a<=100)->(∀l∈a,l.a<=4)->a.a<=1000->∃b c:Sl,ZB (Zc 4) OZ (ps.j AT) [#v[W],#v[PS],‹k›,#v[a.j Af],s4,s5]=.Q [#v[W],#v[PS],‹k›,#v[(a.χ (EK ps k)).j Af],b,c]
 |[],a,s4,s5,_,_,_=>#[s4,s5,by rw[(List.filter_eq_self.Ϣ λ_ _=>rfl:a.χ (EK [] k)=a)];rfl]
 |q::ps,a,s4,s5,d,e,hz=>by
  let(g,h):=ZrM W PS k q (d q Bb) a e hz s5;let(i,j,f):=kR W PS k ps (a.χ λl=>!decide (q.1=k)||decide (l.getD q.2.1 .non∈q.2.2.1)) (.val<|AT q) g (λx m=>d x<|Bk _ m) (λl n=>e l (F1.mp n).1) (BN (M9 _ _) hz);apply#[i,j,?_];rw[List.filter_filter,show(λl=>EK ps k l&&(!decide (q.1=k)||decide (l.getD q.2.1 .non∈q.2.2.1)))=EK (q::ps) k from funext λl=>by rw[EK,EK,NX,Bool.and_comm]]at f;rwa[AQ,ZB,Zc,h];show f
def
Zvn{L:AB}(h:BJ L){k:Y}{c:Bj}(hL:L[k]?=Z c)(ps:U Pk)(o:∀q∈ps,q.2.2.1.a<=100):∃cs:U At,RH [#v[L.j LD],#v[ps.j AT],‹k›]=Z (.φ (cs.j aD))/\cs.a<64/\∀a,a∈cs↔∃l∈c,EK ps k l=J'/\hd l=a:=by
 let(p,g):=h.jk c<|Ej hL;let n6:=g.n6;let(y,z,e):=kR (L.map LD) (ps.map AT) k ps c .no .no o (λl f=>g.ϧ l f ▸ g.p4) ∅;let r:=M9 (EK ps k) c;let i:∀l,l∈c.χ (EK ps k)↔l∈c/\EK ps k l=J':=λl=>F1;generalize c.χ (EK ps k)=d at *;let(cs,s,f,hc):=vio (d.j hd) (by rw[Bx];lia);apply#[cs,?_,f,λa=>?_]
 .let n:=Zw (b:=Zc 0) (e:=Wp) (ρ:=[.no]) Af (λl=>aD<|hd l) d λl f=>#[[.r<|Af l],rfl,by
   have:=Gq<|g.ln l ((i l).mp f).1;rwa[Wp,this]]
  rw[show d.j (λl=>aD<|hd l)=(d.j hd).j aD by rw[B7];rfl]at n;let t:=Zl (d.j Af) (by simp;lia);let u:=Ku hL;apply Zx rfl ?_;generalize L.j LD=W,(d.j hd).j aD=V,cs.j aD=B,ps.j AT=PS at *;change Wq [#v[W],#v[PS],‹k›,.no,.no,.no]=_
  rwa[Wq,u,ZD,LD,e,En,Zh,t,show ∀w,Zq 1 [] w=[.no]from λ_=>rfl,n,s,HJ,ZZ]
 .rw[hc,Be];show#[λ⟨l,j,m⟩=>#[l,((i l).mp j).1,((i l).mp j).2,m],λ⟨l,j,m,x⟩=>#[l,(i l).Ϣ #[j,m],x]]
def
ZFX{P:Y->U At->V'}{n:Y}(h:∀k,k<n->∃x,P k x):∃f:Y->U At,∀k,k<n->P k (f k):=#[λk=>if a:k<n then Classical.choose (h k a)else [],λk b=>by change P k (if a:k<n then _ else _);rw[dif_pos b];show Classical.choose_spec<|h k b]
abbrev BH(cs:U At):D:=.R (cs.j aD)
structure Ch(L:AB)(ps:List Pk)(f:Y->List At):V' where
 len:∀k,k<L.a->(f k).a<64
 mem:∀k ls,L[k]?=Z ls->∀a,a∈f k↔∃l∈ls,EK ps k l=J'/\hd l=a
def
Zy9{L:AB}(h:BJ L)(ps:U Pk)(m:∀q∈ps,q.2.2.1.a<=100):∃f,Ch L ps f/\ZR [#v[L.j LD],#v[ps.j AT]]=Z (.φ ((AW L.a).j λk=>BH (f k))):=by
 let(f,j):=ZFX (n:=L.a) (P:=λk d=>RH [#v[L.j LD],#v[ps.j AT],‹k›]=Z (.φ<|d.map aD)/\d.length<64/\∀g,L[k]?=Z g->∀a,a∈d↔∃l∈g,EK ps k l=J'/\hd l=a) λk c=>by
  let(d,e,o,p):=Zvn h (BZ c) ps m;show#[d,e,o,λg i a=>by rw[BZ c]at i;ext i;show p a]
 apply#[f,#[λk c=>(j k c).2.1,λk g i a=>(j k (Bp.mp i).1).2.2 g i a],?_];let t:=h.n4;let hc:=Zw (b:=Zc 0) (e:=Wx) (ρ:=[.no,#v[L.j LD],#v[ps.j AT]]) (λk:Y=>D.o k) (λk=>BH<|f k) (AW L.length) λk c=>#[[‹k›,#v[L.j LD],#v[ps.j AT]],rfl,by
  rwa[Wx,(j k<|DS.mp c).1,EI]]
 let r:=Zl ((AW L.a).j λk:Y=>D.o k) (by simp;lia);let s:Zo [.R<|L.j LD]=Z (.o L.a):=by simp
 apply Zx rfl ?_;generalize L.j LD=W,ps.j AT=PS,(AW L.a).j (λk=>BH<|f k)=V at *;change Wz [#v[W],#v[PS]]=_
 rwa[Wz,Zh,s,Hm L.length ∅,r,show Zq 1 [0,1] [#v[W],#v[PS]]=[.no,#v[W],#v[PS]]from rfl,hc,ZZ]
def
SD:∀{d:Bj},(d.j hd).θ->∀{x y:U At},x∈d->y∈d->hd x=hd y->x=y
 |a::d,f,x,y,g,h,e=>by
  rw[AQ,E7]at f;rcases Bw.mp g with rfl|b<;>rcases Bw.mp h with rfl|c
  .rfl
  .show absurd (e ▸ Es c) f.1
  .show absurd (e ▸ Es b) f.1
  .show SD f.2 b c e
def Ng:D:=.S [.Ι "out",.κ]
def
X1(b:j')(a:At)(cs:U At):CF b (aD a) (BH cs)=Z (.bl (b != decide (a∈cs))):=by
 let d:(cs.j aD).Ϛ (AZ 12)=J':=by simp[Ho]
 let f:FS (aD a) (cs.j aD)=decide (a∈cs):=by
  unfold FS;induction cs with|nil=>rfl|cons b cs g=>
   rw[AQ,List.any_cons,g (by simp[Ho]),LJ];by_cases c:b=a
   .subst c;simp
   .have:¬ a=b:=λe=>c e.Ζ;simp[c,this]
 erw[CF,FY,Ho,d,f,HZ,if_true];ext b<;>cases decide (a∈cs)<;>rfl
def
Nh(a:At)(cs:U At):CF O' (aD a) (BH cs)=Z (.bl (decide (a∈cs))):=by rw[X1,Bool.false_bne]
def av(cs:U At)(j:Y)(l:U At):O At:=if hd l∈cs then Z (l.B j .κ)else J
def IP:O At->D
 |some a=>.S [.Ι "in",aD a]
 |none=>Ng
def
kS(o:O At):AZ 12 (IP o)=J':=by
 cases o with
 |none=>rfl
 |some a=>show(AZ 11 (D.Ι "in")&&(AZ 11 (aD a)&&J'))=J';rw[Ho];rfl
def
ZCV(o u:O At):Bl (IP o) (IP u)=decide (o=u):=by
 cases o with
 |none=>cases u with
  |none=>rfl
  |some b=>rfl
 |some a=>cases u with|none=>rfl|some b=>
   show(Bl (.Ι "in") (.Ι "in")&&(Bl (aD a) (aD b)&&J'))=_
   rw[LJ,show Bl (.Ι "in") (.Ι "in")=J' from rfl,Bool.true_and,Bool.and_true];show decide_eq_decide.Ϣ #[λe=>by rw[e],λe=>E6 e]
structure Ask(ls:Bj)(cs:List At)(j:Y)(dn:List At)(kvs:Br)(n:Y):V' extends AK kvs n where
 has:∀l∈ls,Zs kvs (.at (hd l))=Z (IP (if hd l∈dn then av cs j l else J))
def
ZyO{b:Bj}{p:Y}(f:GL b p){l:U At}(k:l∈b)(A:D)(j:Y)(cs:U At)(hc:cs.a<64){m:U At}{n:Y}(h:Ask b cs j m kvs n)(r:n<=1000):∃a,Ask b cs j (hd l::m) a (n+1)/\MQ [.r A,‹j›,.r (BH cs),.φ (Zb kvs) .d,.r (Af l)]=.Q [.r A,‹j›,.r (BH cs),.φ (Zb a) .d,.r (Af l)]:=by
 let o:=Gq<|f.ln l k;let g:CF O' (aD<|hd l) (BH cs)=Z (.bl<|decide<|hd l∈cs):=Nh _ _;by_cases c:hd l∈cs
 .rw[decide_eq_true c]at g;let q:=Ko l j (by rw[f.ϧ l k];have:=f.p4;lia);apply#[ZU kvs (.at<|hd l)<|.tup [.str "in",aD<|l.getD j .non],⟨⟨O7 h.at',BN (Mw _ _ _)<|L8 h.len⟩,λx i=>?_⟩,?_]
  .rw[Iz];by_cases e:hd l=hd x
   .cases SD f.hdn k i e;rw[if_pos rfl,if_pos Bb,av,if_pos c];rfl
   .rw[if_neg (by exists e),h.has x i];erw[Bw,show ¬ hd x=hd l from λz=>e z.symm,false_or]
  .generalize Af l=X,BH cs=C at *;rwa[MQ,o,g,q,Iy,E9,ZW,IG,Hf _ h.at',decide_eq_true (show kvs.length<Av from Hg h.len (BM (show n<100000 by lia) (by ext)))]
 .rw[decide_eq_false c]at g;apply#[kvs,#[#[h.at',Jo h.ϧ],λx i=>?_],?_]
  .rw[h.has x i];by_cases e:hd x=hd l
   .have:av cs j x=J:=by rw[av,e,if_neg c]
    rw[this];simp
   .erw[Bw,e,false_or]
  .generalize Af l=X,BH cs=C at *;rwa[MQ,o,g]
def
kT{i:Bj}{p:Y}(m:GL i p)(A:D)(j:Y)(cs:U At)(hc:cs.a<64):∀(b:Bj)(f:U At)(kvs:Br)(n:Y)(s4:Sl),(∀l∈b,l∈i)->Ask i cs j f kvs n->n+b.a<=1000->∃c k e,Ask i cs j e c (n+b.a)/\(∀l∈b,hd l∈e)/\(∀a∈f,a∈e)/\ZB (Zc 4) MQ (b.j Af) [.r A,‹j›,.r (BH cs),.φ (Zb kvs) .d,s4]=.Q [.r A,‹j›,.r (BH cs),.φ (Zb c) .d,k]
 |[],f,kvs,n,s4,_,h,_=>#[kvs,s4,f,h,λ_ h=>(nomatch h),λ_ h=>h,rfl]
 |l::b,f,kvs,n,s4,o,h,hz=>by
  erw[Ct]at hz;let(r,s,t):=ZyO m (o l Bb) A j cs hc h ∅;let(u,v,w,y,z,q,B):=kT m A j cs hc b (hd l::f) r (n+1) (.r<|Af l) (λx g=>o x<|Bk _ g) s ∅;apply⟨u,v,w,by rw[Ct,Ma b.length 1,<- Nat.add_assoc];show y,λx g=>?_,λa C=>q a<|Bk _ C,?_⟩
  .rcases Bw.mp g with rfl|g
   .show q _ Bb
   .show z x g
  .rwa[AQ,ZB,Zc,t];show B
def
Zy7{a:Bj}{p:Y}(f:GL a p)(j:Y)(cs:U At)(hc:cs.a<64):∃kvs,AK kvs 1000/\(∀l∈a,Zs kvs (.at (hd l))=Z (IP (av cs j l)))/\Q9 [.r (LD a),‹j›,.r (BH cs)]=Z (.φ (Zb kvs) .d):=by
 let n6:=f.n6;let o:=Zw (b:=Zc 0) (e:=U2) (ρ:=[.no]) Af (λl=>D.S [aD<|hd l,Ng]) a λl c=>#[[.r<|Af l],rfl,by
  have:=Gq<|f.ln l c;rwa[U2,this,Ng]]
 let(kvs,k,m,hv):=Sy (a.j λl=>(hd l,Ng)) [] 0 #[λ_ h=>(nomatch h),Bg _] (by simp;lia);rw[B7]at k;let q:Ask a cs j [] kvs a.a:=#[#[m.at',by exists m.ϧ],λl c=>?_]
 .let(n,r,z,g,s,_,i):=kT f (LD a) j cs hc a [] kvs a.a .no (λ_ h=>h) q ∅;apply#[n,#[g.at',BN g.ϧ ∅],λl c=>by rw[g.has l c,if_pos<|s l c],?_];let t:=Zl (a.j Af) (by simp;lia);apply Zx rfl ?_;change U3 [#v[a.j Af],‹j›,.r<|BH cs,.no,.no]=_
  let i:ZB (Zc 4) MQ (a.j Af) [#v[a.j Af],‹j›,.r<|BH cs,.own (Zb kvs) .d,.no]=.next [#v[a.map Af],‹j›,.val<|BH cs,.own (Zb n) .d,r]:=i;rwa[U3,FV,Zh,t,show ∀u,Zq 1 [] u=[.no]from λ_=>rfl,o,show FC [] (a.map λl=>D.tup [aD<|hd l,Ng])=Z kvs from k,EL,ZD,i,E9,Hc]
 .rw[hv,<- List.map_reverse,List.find?_map,if_neg<|λh=>nomatch h];cases w:a.reverse.find? ((λe=>decide<|e.1=hd l)∘λl=>(hd l,Ng))with
  |some x=>rfl
  |none=>have:=List.find?_eq_none.mp w l (by exists c);simp at this
def
X2{d e:D}(a:AZ 12 d=J')(b:AZ 12 e=J'):Cp d e=Z (.bl (!Bl d e)):=by
 erw[Cp,FY,a,b,HZ,if_true]
structure SE(cs:List At)(m j:Y)(pre:Bj)(fk:Br):V' where
 at':∀a v,Zs fk (.at a)=Z v->∃x∈pre,v=aD (hd x)/\x.B m .κ=a
 has:∀y∈pre,∃x∈pre,Zs fk (.at (y.B m .κ))=Z (aD (hd x))/\x.B m .κ=y.B m .κ/\av cs j x=av cs j y
def
X3{l:U At}:l.B 0 .κ=hd l:=by ext l<;>rfl
variable {ls:Bj}{p:Y}(hg:GL ls p)(A C:D)(m j:Y)(cs:U At)(h:AK kvs 1000)(hv:∀l∈ls,Zs kvs (.at (hd l))=Z (IP (av cs j l)))
include hg h hv
def
ZBL{l:U At}(s:l∈ls){pre:Bj}(hp:∀x∈pre,x∈ls){f:Br}{q:Y}(i:AK f q)(L:q<=1000)(n:SE cs m j pre f)(G:Sl):(∃x∈ls,(x.B m .κ=l.B m .κ/\av cs j x≠av cs j l)/\Jv [.r A,‹m›,‹j›,.r C,.r (.R (Zb kvs) .d),.φ (Zb f) .d,.r (Af l),G]=.ϱ (.r (.S [aD (hd x),aD (hd l)]))) \/∃k t,Jv [.r A,‹m›,‹j›,.r C,.r (.R (Zb kvs) .d),.φ (Zb f) .d,.r (Af l),G]=.Q [.r A,‹m›,‹j›,.r C,.r (.R (Zb kvs) .d),.φ (Zb k) .d,.r (Af l),t]/\AK k (q+1)/\SE cs m j (l::pre) k:=by
 let u:=Gq<|hg.ln l s;let w:=Ko l m (by rw[hg.len l s];have:=hg.p4;lia);let B:f.length<Av:=Hg i.len<|BM (show q<100000 by lia) (by ext);let g:∀x∈ls,DO (.lst (Zb kvs) .d) (aD<|hd x)=Z (IP<|av cs j x):=λx p=>by
  rw[T2,IG];rwa[Hf _ h.at',hv x p]
 let E:=g l s;let ne:=λx=>X2 (kS<|av cs j x)<|kS<|av cs j l;erw[ZCV]at ne;cases o:Zs f (.at<|l.B m .κ)with
 |some v=>
  let(x,p,rfl,H):=n.at' _ _ o;let M:=g x<|hp x p;let ne:=ne x;by_cases c:av cs j x=av cs j l
  .rw[decide_eq_true c]at ne;apply .ρ #[f,.r<|aD<|hd x,?_,⟨i.at',Jo i.len⟩,⟨λa v e=>?_,λy b=>?_⟩]
   .generalize Af l=X,IP (av cs j x)=Y',IP (av cs j l)=K at *;rwa[Jv,Jk,E9,w,u,ZW,IG,Hf _ i.at',decide_eq_true B,o,Oz,M,E,ne]
   .let(z,hz,r):=n.at' a v e;show#[z,Bk _ hz,r]
   .rcases Bw.mp b with rfl|b
    .show#[x,Bk _ p,o,H,c]
    .let(z,hz,r):=n.has y b;show#[z,Bk _ hz,r]
  .rw[decide_eq_false c]at ne;apply .O #[x,hp x p,#[H,c],?_];rwa[Jv,Jk,E9,w,u,ZW,IG,Hf _ i.at',decide_eq_true B,o,Oz,M,E,ne]
 |none=>
  let ne:=ne l;let no:∀y∈pre,¬ l.B m .κ=y.B m .κ:=λy b e=>by
   let(x,_,r,_):=n.has y b;rw[<- e,o]at r;ext r
  apply .ρ #[ZU f (.at<|l.getD m .non)<|aD<|hd l,.val<|aD<|hd l,?_,⟨O7 i.at',BN (Mw _ _ _)<|L8 i.len⟩,⟨λa v e=>?_,λy b=>?_⟩]
  .generalize Af l=X,IP (av cs j l)=K at *;rwa[Jv,Jk,E9,w,u,ZW,IG,Hf _ i.at',decide_eq_true B,o,Oz,E,ne]
  .rw[Iz]at e;by_cases c:KT.at (l.B m .κ)=.at a
   .rw[if_pos c]at e;ext e;ext c;show#[l,Bb,rfl,rfl]
   .rw[if_neg c]at e;let(z,hz,r):=n.at' a v e;show#[z,Bk _ hz,r]
  .rcases Bw.mp b with rfl|b
   .show#[y,Bb,by rw[Iz,if_pos rfl],rfl,rfl]
   .let(z,hz,r,F):=n.has y b;show#[z,Bk _ hz,by rw[Iz,if_neg λe=>no y b<|KT.at.inj e];show r,F]
def
kU:∀(b pre:Bj)(c:Br)(q:Y)(k i:Sl),(∀l∈b,l∈ls)->(∀l∈pre,l∈ls)->AK c q->q+b.a<=1000->SE cs m j pre c->(∃x∈ls,∃y∈ls,(x.B m .κ=y.B m .κ/\av cs j x≠av cs j y)/\ZB (Zc 6) Jv (b.j Af) [.r A,‹m›,‹j›,.r C,.r (.R (Zb kvs) .d),.φ (Zb c) .d,k,i]=.ϱ (.r (.S [aD (hd x),aD (hd y)]))) \/∃ρ,ZB (Zc 6) Jv (b.j Af) [.r A,‹m›,‹j›,.r C,.r (.R (Zb kvs) .d),.φ (Zb c) .d,k,i]=.Q ρ/\∃f g,SE cs m j g f/\(∀l∈g,l∈ls)/\∀l,l∈b\/l∈pre->l∈g
 |[],pre,c,q,k,i,_,hp,_,_,p=>.ρ #[_,rfl,c,pre,p,hp,λ_ h=>h.resolve_left λh=>nomatch h]
 |l::b,pre,c,q,k,i,o,hp,u,hz,p=>by
  erw[Ct]at hz;rcases ZBL hg A C m j cs h hv (o l Bb) hp u ∅ p i with⟨x,a,n,e⟩|⟨f,v,e,r,s⟩
  .show .O #[x,a,l,o l Bb,n,by rwa[AQ,ZB,Zc,e]]
  .rcases kU b (l::pre) f (q+1) (.r<|Af l) v (λx a=>o x<|Bk _ a) (λx a=>by
    rcases Bw.mp a with rfl|a
    .show o _ Bb
    .show hp x a) r ∅ s with⟨x,a,y,w,n,t⟩|⟨ρ,t,B,E,G,H,i2⟩
   .apply .O #[x,a,y,w,n,?_];rwa[AQ,ZB,Zc,e];show t
   .apply .ρ #[ρ,?_,B,E,G,H,λz hz=>i2 z ?_]
    .rwa[AQ,ZB,Zc,e];show t
    .rcases hz with hz|hz
     .rcases Bw.mp hz with rfl|hz
      .show .ρ Bb
      .show .O hz
     .show .ρ<|Bk _ hz
end
def
ZFJ{x y:At}(e:aD x=aD y):x=y:=by ext x<;>ext y<;>ext e<;>rfl
def Gv(a:Bj)(cs:U At)(m j:Y):V':=∀x∈a,∀y∈a,x.B m .κ=y.B m .κ->av cs j x=av cs j y
def
ZrB{b:Bj}{p:Y}(g:GL b p)(m j:Y)(cs:U At)(hc:cs.a<64):∃r,Vy [.r (LD b),‹m›,‹j›,.r (BH cs)]=Z (.r r)/\(r=.κ/\Gv b cs m j\/(∃x y:At,r=.S [aD x,aD y])/\¬ Gv b cs m j):=by
 let n6:=g.n6;let(c,s,hv,k):=Zy7 g j cs hc;let f:∀r,ZB (Zc 6) Jv (b.j Af) [#v[b.j Af],‹m›,‹j›,.r<|BH cs,.val<|.lst (Zb c) .d,.own [] .d,.no,.no]=r->Vx [#v[b.map Af],‹m›,‹j›,.val<|BH cs,.no,.no,.no,.no]=Zd r f4:=λr e=>by
  let k:Q9 [#v[b.j Af],‹j›,.r<|BH cs]=Z (.φ (Zb c) .d):=k;rwa[Vx,f7,fX,k,EI,f6,fY,EL,f5,fZ,ZD,e]
 rcases(kU g (LD b) (BH cs) m j cs s hv b [] [] 0 .no .no (λ_ h=>h) (λ_ h=>nomatch h) #[λ_ h=>(nomatch h),Bg _] ∅ #[λa v e=>(nomatch e),λ_ h=>nomatch h])with⟨x,l,y,o,n,e⟩|⟨G,e,H,pr,F,hp,i⟩
 .show#[_,Zx rfl<|f _ e,.inr ⟨⟨hd x,hd y,rfl⟩,λz=>n.2<|z x l y o n.1⟩]
 .apply#[.κ,Zx rfl<|f _ e,.inl ⟨rfl,λx l y o e=>?_⟩];let(u,t,q,_,A):=F.has x<|i x<|.O l;let(w,B,C,_,E):=F.has y<|i y<|.O o;rw[e,C]at q;cases SD g.hdn (hp w B) (hp u t)<|ZFJ<|E6 q;show A.Ζ.G E
def
L3{g:U Y}{k:Y}(h:k<g.a):Am (Ak g) (.o k)=Z (.o (g.B k 0)):=ZE (by simp[C6,BZ h])
def
SF{n k:Y}(f:Y->U At)(h:k<n):Am (.R ((AW n).j λk=>BH (f k))) (.o k)=Z (BH (f k)):=ZE (by simp[h])
variable {L:AB}(h:BJ L){g e:U Y}(hg:g.a=L.a)(he:e.a=L.a){f:Y->U At}(hf:Ch L ps f)
include h hg he hf
def
kW(W PS:D):∀(AF pre:AB)(s5 i c:Sl),L=pre++AF->((∃(k:Y) (x y:At),ZB (Z8 2 (Zu (Zc 5) (Zu (Zc 6) Z7))) Ki (D4 pre.a (AF.j LD)) [.r W,.r (Ak g),.r (Ak e),.r PS,#v[(AW L.a).j λk=>BH (f k)],s5,i,c]=.ϱ (.r (.S [.o k,aD x,aD y])))/\¬ ∀k a,pre.a<=k->L[k]?=Z a->Gv a (f k) (g.B k 0) (e.B k 0)) \/(∃ρ,ZB (Z8 2 (Zu (Zc 5) (Zu (Zc 6) Z7))) Ki (D4 pre.a (AF.j LD)) [.r W,.r (Ak g),.r (Ak e),.r PS,#v[(AW L.a).j λk=>BH (f k)],s5,i,c]=.Q ρ)/\∀k a,pre.a<=k->L[k]?=Z a->Gv a (f k) (g.B k 0) (e.B k 0)
 |[],pre,s5,i,c,hL=>.ρ #[#[_,rfl],λk a n d=>by
   have:=(Bp.mp d).1;rw[hL,Eh]at this;lia]
 |a::AF,pre,s5,i,c,hL=>by
  let q:pre.a<L.a:=by rw[hL];simp
  let j:L[pre.a]?=Z a:=by rw[hL];simp
  let(p,hp):=h.jk a<|Ej j;let(r,s,G):=ZrB hp (g.getD pre.length 0) (e.getD pre.length 0) (f pre.length)<|hf.len _ q;let t:=L3 (g:=g) (k:=pre.length) ∅;let i2:=L3 (g:=e) (k:=pre.length) ∅;let u:=SF f q;let m:=kW W PS AF (pre++[a]) ‹pre.length› (.val<|LD a) (.val r) (by rw[hL];simp);rw[E8,JU]at m;rw[show D4 pre.length ((a::AF).map LD)=.tup [.int pre.length,LD a]::D4 (pre.length+1) (AF.map LD)from rfl];let w:∀A B C E F:Sl,Z8 2 (Zu (Zc 5)<|Zu (Zc 6) Z7) (.tup [.int pre.length,LD a]) [A,B,C,E,F,s5,i,c]=Z [A,B,C,E,F,‹pre.length›,.val<|LD a,c]:=λ_ _ _ _ _=>rfl;rcases G with⟨rfl,l⟩|⟨⟨x,y,rfl⟩,l⟩
  .let all:(∀k b,pre.a+1<=k->L[k]?=Z b->Gv b (f k) (g.B k 0) (e.B k 0))↔∀k b,pre.a<=k->L[k]?=Z b->Gv b (f k) (g.B k 0) (e.B k 0):=#[λz k b n d=>by
     rcases Lk pre.length k with o|o
     .show z k b o d
     .have:k=pre.a:=Oc o n;subst this;rw[j]at d;ext d;show l,λz k b n d=>z k b ∅ d]
   rw[all]at m;clear all l hf j hL;generalize (AW L.a).j (λk=>BH<|f k)=V,BH (f pre.a)=H,Ak g=K,Ak e=E,LD a=A at *;let st:Ki [.r W,.r K,.r E,.r PS,#v[V],‹pre.a›,.r A,c]=.Q [.r W,.r K,.r E,.r PS,#v[V],‹pre.a›,.r A,.r .κ]:=by
    rwa[Ki,t,i2,u,s,EC,isN]
   erw[ZB,w,st];show m
  .apply .O #[#[pre.a,x,y,?_],λz=>l<|z _ _ (Bg _) j];clear l hf j hL m;generalize (AW L.length).map (λk=>BH<|f k)=V,BH (f pre.a)=H,Ak g=K,Ak e=E,LD a=A at *;let st:Ki [.r W,.r K,.r E,.r PS,#v[V],‹pre.a›,.r A,c]=.ϱ (.r<|.S [.o pre.a,aD x,aD y]):=by
    rwa[Ki,t,i2,u,s,EC,isN,show Am (.tup [aD x,aD y]) (.int 0)=Z (aD x)from rfl,show Am (.tup [aD x,aD y]) (.int 1)=Z (aD y)from rfl]
   erw[ZB,w,st]
end
def
ZEL(cs:U At):AZ 12 (BH cs)=J':=by
 simp[Ho]
def Hw(L:AB)(f:Y->U At)(g e:U Y):V':=(∃k,k<L.a/\f k=[])\/∀k a,L[k]?=Z a->Gv a (f k) (g.B k 0) (e.B k 0)
def
kX(n:Y)(f:Y->U At):∃b,CF O' (.R []) (.R ((AW n).j λk=>BH (f k)))=Z (.bl b)/\(b=J'↔∃k,k<n/\f k=[]):=by
 show#[FS (.R [])<|(AW n).map λk=>BH<|f k,by erw[CF,FY,show((AW n).map λk=>BH<|f k).all (AZ 12)=J' by erw[Jg,Dr];show λ_ _=>ZEL _,show AZ 12 (.lst [])=J' from rfl,HZ,if_true];rfl,by erw[FS,List.any_map,Sz,DS,Function.comp,show ∀a:U At,Bl (BH a) (.lst [])=J'↔a=[]from λa=>by ext a<;>simp[BH,Bl,Dq]]]
def
Zzm{L:AB}(h:BJ L){g e:U Y}(l:g.a=L.a)(m:e.a=L.a)(ps:U Pk)(t:∀q∈ps,q.2.2.1.a<=100){f:Y->U At}(o:Ch L ps f)(p:ZR [#v[L.j LD],#v[ps.j AT]]=Z (.φ ((AW L.a).j λk=>BH (f k)))):∃r,WJ [#v[L.j LD],.r (Ak g),.r (Ak e),#v[ps.j AT]]=Z (.r r)/\(r=.κ/\Hw L f g e\/(∃(k:Y)(x y:At),r=.S [.o k,aD x,aD y])/\¬ Hw L f g e):=by
 let d:=kW h l m o (.R<|L.map LD) (.lst<|ps.map AT) L [] .no .no .no rfl;rw[Ja]at d;erw[Fk,forall_const]at d;let(b,i,s):=kX L.length f;unfold Hw;rw[<- s];generalize (AW L.length).map (λk=>BH<|f k)=V,L.map LD=W,ps.map AT=PS,Ak g=w,Ak e=E at *;let c:∀r,O1 [#v[W],.val w,.val E,#v[PS],#v[V],.no,.no,.no]=r->WI [#v[W],.val w,.val E,#v[PS],.no,.no,.no,.no]=r:=λr e=>by
  rwa[WI,g5,gW,p,EI,e]
 cases b with|true=>show#[.κ,Zx rfl<|c _ (by rwa[O1,WH,show Zf (Z ([]:U D))=Z []from rfl,i]),.inl #[rfl,.inl rfl]]|false=>
  let j:∀r,ZB (Z8 2<|Zu (Zc 5)<|Zu (Zc 6) Z7) Ki (D4 0 W) [#v[W],.val w,.val E,#v[PS],#v[V],.no,.no,.no]=r->O1 [#v[W],.val w,.val E,#v[PS],#v[V],.no,.no,.no]=Zd r gY:=λr e=>by
   rwa[O1,WH,show Zf (Z ([]:U D))=Z []from rfl,i,gZ,gX,ZD,ID,Hh,e]
  rcases d with⟨⟨k,x,y,e⟩,n⟩|⟨⟨u,e⟩,a⟩
  .show#[_,Zx rfl<|c _<|j _ e,.inr ⟨⟨k,x,y,rfl⟩,λz=>z.Δ (λz=>nomatch z) n⟩]
  .show#[.κ,Zx rfl<|c _<|j _ e,.O ⟨rfl,.ρ a⟩]
structure Wy(kvs:Br):V' extends AK kvs 1000 where
 to:∀a v,Zs kvs (.at a)=Z v->∃b,v=aD b
abbrev FM(kvs:Br):D:=.R (Zb kvs) .d
def G7(b:Bj)(cs:U At)(m:Y)(a:At):j':=b.any λl=>decide (hd l∈cs)&&decide (l.B m .κ=a)
def
ZxC{c:Bj}{p:Y}(g:GL c p)(m j:Y)(cs:U At):∃kvs,Wy kvs/\(∀a,(Zs kvs (.at a)).υ=G7 c cs m a)/\Ra [.r (LD c),‹m›,‹j›,.r (BH cs)]=Z (.φ (Zb kvs) .d):=by
 let n6:=g.n6;let r:=IJ (b:=Zc 0) (t:=U4) (e:=U5) (ρ:=[.no,‹m›,‹j›,.r<|BH cs]) Af (λl=>D.S [aD<|l.getD m .non,aD<|l.getD j .non]) (λl=>decide<|hd l∈cs) c λl n=>#[[.r<|Af l,‹m›,‹j›,.r<|BH cs],rfl,by
  let f:l.a<=1000:=by rw[g.ϧ l n];have:=g.p4;lia
  show#[by rwa[U4,Gq<|g.ln l n,Nh],by rwa[U5,Ko l m f,Ko l j f]]]
 let s:=M9 (λl=>decide<|hd l∈cs) c;let u:∀a,((c.filter λl=>decide<|hd l∈cs).any λl=>decide<|l.getD m .non=a)=G7 c cs m a:=λa=>by rw[List.any_filter];rfl
 generalize c.χ (λl=>decide<|hd l∈cs)=i at *;let(kvs,o,q,hv):=Sy (i.map λl=>(l.B m .κ,aD<|l.getD j .non)) [] 0 ⟨λ_ h=>(nomatch h),Bg _⟩ (by simp;lia);rw[B7]at o;apply#[kvs,#[#[q.at',BN q.ϧ (by simp;lia)],λa v e=>?_],λa=>?_,?_]
 .rw[hv]at e;cases k:(i.j λl=>(l.B m .κ,aD<|l.getD j .non)).reverse.find? λe=>decide (e.1=a)with
  |none=>rw[k]at e;cases e
  |some x=>
   rw[k]at e;have:=List.mem_of_find?_eq_some k;rw[List.mem_reverse]at this;let(l,_,rfl):=Be.mp this;ext e;show#[_,rfl]
 .rw[<- u,hv a,show Zs [] (.at a)=J from rfl,Option.or_none,Qq,List.isSome_find?,List.any_reverse,List.any_map];rfl
 .let w:=Zl (c.j Af) (by simp;lia);apply Zx rfl ?_;change U6 [#v[c.j Af],‹m›,‹j›,.r<|BH cs]=_
  generalize c.j Af=M,BH cs=C at *;rwa[U6,FV,Zh,w,show Zq 1 [1,2,3] [#v[M],‹m›,‹j›,.val C]=[.no,‹m›,‹j›,.val C]from rfl,r,show FC [] (i.map λl=>D.tup [aD<|l.getD m .non,aD<|l.getD j .non])=Z kvs from o,Hc]
def
kY:∀(ws:U Br)(s:U At),(∀kvs∈ws,Wy kvs)->Z4 (Z8 2 (Zu (Zc 0) (Zu (Zc 1) Z7))) (λ_=>Z J') Ly [.no,.no] (Fe (λx y=>D.S [x,y]) (ws.j FM) (s.j aD))=Z ((Fe (λkvs a=>(Zs kvs (.at a)).υ) ws s).j D.bl)
 |[],_,_=>by simp;rfl
 |_::_,[],_=>by simp;rfl
 |kvs::ws,a::s,h=>by
  let e:Ly [.r<|FM kvs,.r<|aD a]=Z (.bl (Zs kvs<|.at a).υ):=by
   have:DF O' (aD a) (FM kvs)=Z (.bl (Zs kvs<|.at a).υ):=by
    rw[Li,IG];rwa[Hf _ (h kvs Bb).at'];rw[Bool.false_bne]
   rwa[Ly,this]
  rwa[XF,Z4,show Z8 2 (Zu (Zc 0)<|Zu (Zc 1) Z7) (.tup [FM kvs,aD a]) [.no,.no]=Z [.val<|FM kvs,.val<|aD a]from rfl,e,kY ws s λx b=>h x<|Bk _ b]
def
ZDy(ws:U Br)(s:U At)(h:∀kvs∈ws,Wy kvs)(hz:ws.a<=4):MO [#v[ws.j FM],.r (Af s)]=Z (.r (.bl ((Fe (λkvs a=>(Zs kvs (.at a)).υ) ws s).Ϛ id))):=by
 let hc:=kY ws s h;let b:=Zl (Fe (λx y=>D.S [x,y]) (ws.j FM) (s.j aD)) (by simp;lia);let c:DD [.R<|(Fe (λkvs a=>(Zs kvs<|.at a).isSome) ws s).map D.bl]=Z (.bl<|(Fe (λkvs a=>(Zs kvs<|.at a).υ) ws s).Ϛ id):=by
  erw[DD,Na,Ec]
 apply Zx rfl ?_;unfold Af;generalize (Fe (λkvs a=>(Zs kvs<|.at a).υ) ws s).j D.bl=B,s.j aD=S,ws.j FM=M at *;change OD [#v[M],.r<|.S S]=_
 rwa[OD,Zh,HX,Hh,show Zq 2 [] [#v[M],.val<|.tup S]=[.no,.no]from rfl,b,hc,c]
def
kZ:∀(L:AB)(k:Y),D4 k (L.j LD)=(AW L.a).j λi:Y=>D.S [.o ((k+i:Y):W'),LD (L.B i [])]
 |[],_=>rfl
 |a::L,k=>by
  rw[AQ,D4,kZ L<|k+1,Ct,Qd,AQ,B7];show congrArg (_::·) (XJ λi _=>by erw[Function.comp,Nat.succ_eq_add_one,List.getD_cons_succ,Nat.add_assoc,Ma 1 i])
def
ZEY{a:Type}(d:a){P:Y->a->V'}{n:Y}(h:∀k,k<n->∃x,P k x):∃f:Y->a,∀k,k<n->P k (f k):=#[λk=>if b:k<n then Classical.choose (h k b)else d,λk c=>by change P k (if b:k<n then _ else _);rw[dif_pos c];show Classical.choose_spec<|h k c]
def DJ(L:AB)(f:Y->U At)(g:U Y)(s:U At):j':=(AW L.a).Ϛ λk=>G7 (L.B k []) (f k) (g.B k 0) (s.B k .κ)
def
ZzV{a:Type}(F:a->At->j')(W:Y->a)(n:Y)(s:U At)(b:s.a=n):(Fe F ((AW n).j W) s).Ϛ id=(AW n).Ϛ λk=>F (W k) (s.B k .κ):=by
 have:Fe F ((AW n).j W) s=(AW n).j λk=>F (W k) (s.B k .κ):=List.ext_getElem (by simp[b]) λi c d=>by
  simp at c d;simp[C6,BZ (show i<s.length by lia)]
 rw[this,Jg];rfl
def
ZAC{L:AB}(h:BJ L){g e:U Y}(x:g.a=L.a)(y:e.a=L.a)(ps:U Pk){f:Y->U At}(o:ZR [#v[L.j LD],#v[ps.j AT]]=Z (.φ ((AW L.a).j λk=>BH (f k)))):∃ws:U Br,WP [#v[L.j LD],.r (Ak g),.r (Ak e),#v[ps.j AT]]=Z (.φ (ws.j FM))/\ws.a=L.a/\(∀kvs∈ws,Wy kvs)/\∀s:U At,s.a=L.a->(Fe (λkvs a=>(Zs kvs (.at a)).υ) ws s).Ϛ id=DJ L f g s:=by
 let z:=h.n4;let(W,i):=ZEY (n:=L.a) ([]:Br) (P:=λk kvs=>Wy kvs/\(∀a,(Zs kvs<|.at a).isSome=G7 (L.getD k []) (f k) (g.getD k 0) a)/\Ra [.val<|LD<|L.getD k [],‹(g.getD k 0:Y)›,‹(e.getD k 0:Y)›,.val<|BH<|f k]=Z (.own (Zb kvs) .d)) λk c=>by
  let(p,hp):=h.jk _<|Ej (show L[k]?=Z (L.B k []) by simp[C6,c]);show ZxC hp _ _ _
 let l:=Zw (b:=Z8 2<|Zu (Zc 0)<|Zu (Zc 1) Z7) (e:=WM) (ρ:=[.no,.no,.val<|Ak g,.val<|Ak e,#v[(AW L.length).map λk=>BH<|f k]]) (λk:Y=>D.S [.o k,LD<|L.getD k []]) (λk=>FM<|W k) (AW L.length) λk c=>by
  let c:=DS.mp c;let q:=(i k c).2.2;let r:=L3 (g:=g) (k:=k) ∅;let i2:=L3 (g:=e) (k:=k) ∅;let t:=SF f c;apply#[[‹k›,.r<|LD<|L.getD k [],.val<|Ak g,.val<|Ak e,#v[(AW L.length).map λk=>BH<|f k]],rfl,?_];rwa[WM,r,i2,t,q,EI]
 apply#[(AW L.a).j W,?_,by simp,λkvs c=>?_,λs u=>?_]
 .rw[B7,show FM∘W=λk=>FM (W k)from rfl];let m:D4 0 (L.j LD)=(AW L.a).j λk:Y=>D.S [.o k,LD<|L.B k []]:=by
   rw[kZ];erw[Km]
  let w:=Zl (D4 0<|L.map LD) (by rw[m];simp;lia);rw[<- m]at l;apply Zx rfl ?_;generalize (AW L.length).map (λk=>BH<|f k)=V,(AW L.length).map (λk=>FM<|W k)=A,L.j LD=M,ps.j AT=PS,Ak g=B,Ak e=E at *;change WN [#v[M],.r B,.r E,#v[PS],.no]=_
  rwa[WN,o,EI,Zh,ID,Hh,show Zq 2 [1,2,4] [#v[M],.val B,.val E,#v[PS],#v[V]]=[.no,.no,.val B,.val E,#v[V]]from rfl,w,l,ZZ]
 .let(k,j,rfl):=Be.mp c;show(i k<|DS.mp j).1
 .rw[ZzV _ W L.a s u,DJ,Se,Dr,Dr];show forall_congr' λk=>forall_congr' λc=>by rw[(i k<|DS.mp c).2.1]
def
ZrU{L:AB}(h:BJ L):U1 [#v[L.j LD]]=Z (.r (Ak (L.j wh))):=by
 let k:=h.n4;let c:=Zw (b:=Zc 0) (e:=UZ) (ρ:=[.no]) LD (λa=>D.o<|wh a) L λa d=>#[[.r<|LD a],rfl,by
  let(p,hp):=h.jk a d;rwa[UZ,kq hp]]
 let f:DC [.R<|L.map λa=>D.o<|wh a]=Z (Ak<|L.j wh):=by
  change Z (D.S _)=Z (D.S ((L.j wh).j λj:Y=>D.o j))
  rw[B7];rfl
 let g:=Zl (L.j LD) (by simp;lia);apply Zx rfl ?_;generalize L.j LD=W,L.j (λa=>D.o<|wh a)=V,Ak (L.j wh)=l at *;change U0 [#v[W]]=_
 rwa[U0,Zh,g,show ∀i,Zq 1 [] i=[.no]from λ_=>rfl,c,f]
abbrev Kv(tb:U (U At×D)):U D:=tb.j λe=>.S [Af e.1,e.2]
def
Zzk{L:AB}(h:BJ L){g:U Y}(d:g.a=L.a)(ps:U Pk){f:Y->U At}(i:ZR [#v[L.j LD],#v[ps.j AT]]=Z (.φ ((AW L.a).j λk=>BH (f k))))(tb:U (U At×D))(j:∀e∈tb,e.1.a=L.a)(hz:tb.a<=1000):W4 [#v[L.j LD],#v[Kv tb],.r (Ak g),#v[ps.j AT]]=Z ‹(tb.χ λe=>DJ L f g e.1).a›:=by
 let(a,l,r,m,n):=ZAC h d (show(L.j wh).a=L.a by simp) ps i;let s:=h.n4;let o:=ZrU h;let c:=IJ (b:=Z8 2<|Zu (Zc 0)<|Zu (Zc 1) Z7) (t:=WW) (e:=h5) (ρ:=[.no,.no,#v[a.map FM]]) (λe:U At×D=>D.S [Af e.1,e.2]) (λe=>D.S [Af e.1,e.2]) (λe=>DJ L f g e.1) tb λe p=>#[[.r<|Af e.1,.r e.2,#v[a.j FM]],rfl,by
  have:=ZDy a e.1 m ∅;rw[n e.1<|j e p]at this;show⟨by rwa[WW,this,Dt],rfl⟩]
 rw[show tb.j (λe=>D.S [Af e.1,e.2])=Kv tb from rfl]at c;rw[show(tb.χ λe=>DJ L f g e.1).a=((tb.χ λe=>DJ L f g e.1).j λe=>D.S [Af e.1,e.2]).a by simp];let q:=Zl (Kv tb) (by simp;lia);let hc:WY [#v[L.j LD],#v[Kv tb],.r<|Ak g,#v[ps.map AT]]=Z (.own<|(tb.filter λe=>DJ L f g e.1).j λe=>D.S [Af e.1,e.2]):=by
  apply Zx rfl ?_;generalize (tb.χ λe=>DJ L f g e.1).j (λe=>D.S [Af e.1,e.2])=Y',Kv tb=T,a.j FM=V,L.j LD=W,ps.j AT=PS,Ak g=u,Ak (L.j wh)=E at *;change WX [#v[W],#v[T],.r u,#v[PS],.no]=_
  rwa[WX,o,l,EI,Zh,q,show Zq 2 [4] [#v[W],#v[T],.val u,#v[PS],#v[V]]=[.no,.no,#v[V]]from rfl,c,ZZ]
 apply Zx rfl ?_;generalize (tb.χ λe=>DJ L f g e.1).j (λe=>D.S [Af e.1,e.2])=Y',Kv tb=T,L.j LD=W,ps.j AT=PS,Ak g=u at *;change W3 [#v[W],#v[T],.r u,#v[PS]]=_
 rwa[W3,hc,EI,show Zo [.lst Y']=Z (.int Y'.length)from rfl]
def
ZFU:Ff.Ϟ "kept"=O':=by symm
variable {L:AB}{rs:U Row}
def
ZA2{R:U D}{ys:U D}(b:Gf Gi (gs.j Ak)=Z ys):UK [.r (BD L R (Zb (AN L rs gs)))]=Z (.φ ys):=by
 let c:=L0 (L:=L) (R:=R) (T:=Zb<|AN L rs gs);let e:J9 (Z<|.R (Zb<|AN L rs gs) .d)=Z ys:=by
  show(EO<|Zb<|AN L rs gs).bind (λa=>Gf Gi<|a.map λp=>kD p.1)=_
  rw[ZW];change Gf Gi ((AN L rs gs).j λp=>kD p.1)=_
  rw[XH,b]
 generalize D.R (Zb<|AN L rs gs) .d=TT,BD L R (Zb<|AN L rs gs)=B at *;apply Zx rfl ?_;change UJ [.r B]=_
 rwa[UJ,c,e,ZZ]
def Ee(L:AB)(f:Y->U At)(rs:U Row)(g:U Y):Y:=((Zv (Du L g rs)).χ (DJ L f g)).a
def bD:O (U Y×Y)->D
 |none=>.κ
 |some x=>.S [Ak x.1,.o x.2]
def Kw(o:O (U Y×Y))(g:U Y)(c:Y):O (U Y×Y):=match o with
 |none=>Z (g,c)
 |some x=>if c<x.2 then Z (g,c)else Z x
open Classical in
def Dd(L:AB)(f:Y->U At)(rs:U Row)(e:U Y)(o:O (U Y×Y))(g:U Y):O (U Y×Y):=
 if Hw L f g e then Kw o g (Ee L f rs g)else o
def
k6(o:O (U Y×Y)):B4 2 (bD o)=J':=by
 cases o with|none=>rfl|some x=>
  show(B4 2 (Ak x.1)&&(B4 2 (.o x.2)&&J'))=J'
  rw[<- Gu,FL];rfl
variable(h:BJ L){G:Gh}{b t:Y}(hb:G[b]?=Z (Cd L (rs.j Ze) t))(ht:G[t]?=Z (.Υ .d (Zb (AN L rs gs))))(hr:∀r∈rs,AM L r.1)(hrl:rs.a<64)(hgs:∀g∈gs,g.a=L.a)
variable{e:U Y}(he:e.a=L.a){ps:U Pk}(hq:∀q∈ps,q.2.2.1.a<=100){f:Y->U At}(hf:Ch L ps f)(ev:ZR [#v[L.j LD],#v[ps.j AT]]=Z (.φ ((AW L.a).j λk=>BH (f k)))){sp:IV}(vp:C8 2 G sp=#v[ps.j AT])
include h hb ht hr hrl hgs he hq hf ev vp
def
Zvm{g:U Y}(a:g∈gs)(o:O (U Y×Y))(s5:IV):∃m,Kj ([.Y b,.r (Ak e),sp,.r (bD o),.r (Ak g),s5],G)=.Q ([.Y b,.r (Ak e),sp,.r (bD (Dd L f rs e o g)),.r (Ak g),m],G):=by
 let(r,d,p):=Zzm h (hgs g a) he ps hq hf ev;let i:=IM 2 (by ext) hb ht;let j:=IL (L:=L) (R:=rs.j Ze) (T:=Zb<|AN L rs gs);rcases p with⟨rfl,q⟩|⟨⟨k,x,y,rfl⟩,q⟩
 .let s:=L0 (L:=L) (R:=rs.j Ze) (T:=Zb<|AN L rs gs);let t:=Sv L rs a;let ok:=Nb (hgs g a) hr;let pm:=ZC BU<|Zv<|Du L g rs;let u:C3 L g rs=Kv ((Zz BU<|Zv<|Du L g rs).map λk=>(k,vC<|(Dl (Du L g rs) k).B (0,[]))):=by change Kq _=_;rw[Kq,Kv,B7];rfl
  let l:=Zzk h (hgs g a) ps ev ((Zz BU<|Zv<|Du L g rs).map λk=>(k,vC<|(Dl (Du L g rs) k).getD (0,[]))) (λe he=>by
   let(k,z,rfl):=Be.mp he;show ok.kl k<|pm.ϖ.mp z) (by
   have:=ok.ϧ;rw[Bx,pm.ϗ,Zv,Bx];lia)
  rw[<- u,List.filter_map,Bx,show((λe:U At×D=>DJ L f g e.1)∘λk=>(k,vC<|(Dl (Du L g rs) k).B (0,[])))=DJ L f g from rfl,(pm.χ _).ϗ,show((Zv<|Du L g rs).χ<|DJ L f g).a=Ee L f rs g from rfl]at l;let fn:B4 2 (.S [Ak g,.o<|Ee L f rs g])=J':=k6<|some (g,Ee L f rs g);let A:Dd L f rs e o g=match o with
   |none=>Z (g,Ee L f rs g)
   |some x=>if Ee L f rs g<x.2 then Z (g,Ee L f rs g)else Z x:=if_pos q
  rw[A];generalize Ee L f rs g=c at *;apply#[‹c›,?_];cases o with
  |none=>
   change _=RI.Q ([.Y b,.r<|Ak e,sp,.r<|.S [Ak g,.o c],.r<|Ak g,‹c›],G)
   rwa[bD,Kj,i,vp,j,d,EC,isN,s,t,l,fn]
  |some x=>
   let(v,n):=x;let lt:E2 (.o c) (.o n)=Z (.bl<|decide<|(c:W')<n):=rfl;dsimp only;by_cases w:c<n
   .rw[decide_eq_true ∅]at lt;rw[if_pos w];change _=RI.Q ([.Y b,.r<|Ak e,sp,.r<|.S [Ak g,.o c],.r<|Ak g,‹c›],G)
    rwa[bD,Kj,i,vp,j,d,EC,isN,s,t,l,show Am (.tup [Ak v,.int n]) (.int 1)=Z (.int n)from rfl,lt,fn]
   .rw[decide_eq_false ∅]at lt;rw[if_neg w];rwa[bD,Kj,i,vp,j,d,EC,isN,s,t,l,show Am (.tup [Ak v,.int n]) (.int 1)=Z (.int n)from rfl,lt]
 .apply#[s5,?_];rw[show Dd L f rs e o g=o from if_neg q];rwa[Kj,i,vp,j,d,EC,isN]
def
k7:∀(ks:U (U Y))(o:O (U Y×Y))(s4 s5:IV),(∀g∈ks,g∈gs)->∃a c,FD 4 Kj (ks.j Ak) ([.Y b,.r (Ak e),sp,.r (bD o),s4,s5],G)=.Q ([.Y b,.r (Ak e),sp,.r (bD (ks.Ω (Dd L f rs e) o)),a,c],G)
 |[],o,s4,s5,_=>#[s4,s5,rfl]
 |g::ks,o,s4,s5,d=>by
  let(i,j):=Zvm h hb ht hr hrl hgs he hq hf ev vp (d g Bb) o s5;let(k,l,m):=k7 ks (Dd L f rs e o g) (.r<|Ak g) i<|λx n=>d x<|Bk _ n;apply⟨k,l,?_⟩;rwa[FD,j,IH];show m
def
Zz8(j:gs.a<64)(a:CN L e)(hp:OR [#v[L.j LD],#v[ps.j AT]]=Z (.r (.bl J'))):M0 [.Y b,.r (Ak e),sp] G=Z (.r (bD ((Zz Cw gs).Ω (Dd L f rs e) J)),G):=by
 let n1:=h.n1;let k:=ZA2 (L:=L) (rs:=rs) (R:=rs.j Ze) (XT (gs:=gs) j λg c z=>by have:=hgs g c;rw[z]at this;simp at this;lia);let(m,n,i):=k7 h hb ht hr hrl hgs he hq hf ev vp (Zz Cw gs) J .no .no<|λg c=>(ZC Cw gs).ϖ.mp c;let o:=Ss h a;let p:=IM 2 (by ext) hb ht;let q:=IM 1 (by ext) hb ht;let r:=IL (L:=L) (R:=rs.j Ze) (T:=Zb<|AN L rs gs);let s:Lo "Book" "kept" (.r<|BD L (rs.j Ze)<|Zb<|AN L rs gs)=J':=by rwa[Lo,ZFU]
 let t:B4 1 (.R<|(Zz Cw gs).j Ak)=J':=by
  show(!vk 1 .l&&Dg 1 ((Zz Cw gs).j Ak))=J'
  rw[ZM λd hd=>by let(x,_,rfl):=Be.mp hd;rw[<- Gu];show FL 1 _];rfl
 let u:MD (.R<|(Zz Cw gs).j Ak)=Z ((Zz Cw gs).j Ak):=rfl;let i:FD 4 Kj ((Zz Cw gs).j Ak) ([.Y b,.r<|Ak e,sp,.r .κ,.no,.no],G)=.Q ([.Y b,.r<|Ak e,sp,.r<|bD<|(Zz Cw gs).Ω (Dd L f rs e) J,m,n],G):=i;generalize BD L (rs.j Ze) (Zb<|AN L rs gs)=B,L.j LD=W,ps.j AT=PS,(Zz Cw gs).j Ak=y,bD ((Zz Cw gs).Ω (Dd L f rs e) J)=A,Ak e=E at *;suffices w:W6 ([.Y b,.r E,sp,.no,.no,.no],G)=.ϱ (.r A) G from G5 (fi rfl w) rfl
 rwa[W6,iv,ii,p,vp,r,o,Dt,iu,ij,hp,ir,ik,show B4 2 .non=J' from rfl,iq,im,q,HU,s,k,EI,t,u,Js,i,ip,io]
end
def VG(a:At):V':=IN (aD a)=J'/\Sm (aD a)
def
Ni(l:U At)(j:Y)(h:j<=l.a):IF [.r (Af l),‹j›]=Z (.r (aD (l.B j .κ))):=by
 let e:=GU (j:W') (l.a:W');let a:Zo [Af l]=Z (.o l.a):=by simp[Af]
 apply Zx rfl ?_;change QY [.r<|Af l,‹j›]=_
 by_cases c:j=l.a
 .rw[decide_eq_true (by rw[c])]at e;rw[show l.B j .κ=.κ by simp[c,C6]];rwa[QY,a,e,aD]
 .rw[decide_eq_false ∅]at e;rwa[QY,a,e,show Am (Af l) (.int j)=Z (aD<|l.getD j .non)from ZE (by simp[BZ (show j<l.length by lia),C6])]
def
VG.get{a:Bj}{p:Y}(d:GL a p){l:U At}(f:l∈a)(j:Y):VG (l.B j .κ):=by
 by_cases c:j<l.a
 .rw[show l.B j .κ=l[j] by simp[C6,c]];let(b,g):=d.r l f _<|Fn c;apply⟨?_,g⟩;cases e:aD l[j]with
  |non=>rfl
  |_=>rw[e]at b;show b
 .rw[show l.B j .κ=.κ by simp[C6,c]];show#[rfl,trivial]
variable {ws:U W'}(hw:ws.a=24){k:Y}(hk:k<3)
include hw hk
def
wx(m:Y)(a:m<8):∃w:W',Am (.R (ws.j D.o)) (.o ((m:W')+7*(k:W')))=Z (.o w):=#[_,Hq ∅ ∅]
variable{ls:Bj}{p:Y}(hg:GL ls p){v:Y}(hv:v<=p)
include hg hv
def
ZAH(s0 s1 s3 s5 s10 o:Sl)(j:Y)(C:j<4)(vs:U At)(E:vs.a<=50)(p:∀a∈vs,VG a):∃(f:U At)(l m:Sl),OI [s0,s1,#v[ws.j D.o],s3,‹k›,s5,.r (LD ls),‹v›,.φ (vs.j aD),‹j›,s10,o]=.Q [s0,s1,#v[ws.j D.o],s3,‹k›,s5,.r (LD ls),‹v›,.φ (f.j aD),‹j›,l,m]/\f.a<=vs.a+1/\∀a∈f,VG a:=by
 let(w,n):=wx hw hk 4 (by ext);let n:Am (.R<|ws.j D.o) (.o<|4+7*(k:W'))=Z (.o w):=n;let q:=GS (x:=7) (y:=(k:W')) (by left;decide);let r:=GR w ((j:W')+1) ∅ ∅;let e:Zo [LD ls]=Z (.o ls.a):=by simp
 let n1:=hg.n1;let md:=Z2 (w/((j:W')+1)) (ls.a:W') ∅;obtain⟨i,u,g⟩:∃i:Y,w/((j:W')+1)%(ls.a:W')=(i:W')/\i<ls.a:=#[(w/((j:W')+1)%(ls.a:W')).ν,by rw[LS<|FH _ ∅],by have:=Hr (w/((j:W')+1)) (show(0:W')<ls.a by lia);have:=FH (w/((j:W')+1)) (show(ls.a:W')≠0 by lia);lia];rw[u]at md;let s:Am (LD ls) (.o i)=Z (Af ls[i]):=ZE (by rw[CW,BZ g];rfl);let t:=Ni ls[i] v<|hg.ϧ _ (Fn g) ▸ hv;let d:=X1 J' (ls[i].B v .κ) vs;let z:=VG.Χ hg (Fn g) v;generalize ls[i].B v .κ=a,LD ls=A,ws.j D.o=S,Af ls[i]=B at *;by_cases c:a∈vs
 .rw[decide_eq_true c]at d;apply#[vs,‹i›,.r<|aD a,?_,∅,p];rwa[OI,q,n,r,e,md,s,t,d,bne_self_eq_false]
 .rw[decide_eq_false c]at d;apply#[vs++[a],‹i›,.r<|aD a,?_,by simp,λb h=>?_]
  .rwa[OI,q,n,r,e,md,s,t,d,Bool.bne_false,Eo,Bx,show vs.length<Av from BM (show vs.length<100000 by lia) (by ext),Er]
  .rcases C0.mp h with h|h
   .show p b h
   .rw[Cg]at h;show h ▸ z
def
k8(s0 s1 s3 s5:Sl):∀(n j:Y)(vs:U At)(f s10 b:Sl),j+n<=4->vs.a+n<=50->(∀a∈vs,VG a)->∃(c:U At)(g d e:Sl),ZB (Zc 9) OI ((FZ j n).j λk:Y=>D.o k) [s0,s1,#v[ws.j D.o],s3,‹k›,s5,.r (LD ls),‹v›,.φ (vs.j aD),f,s10,b]=.Q [s0,s1,#v[ws.j D.o],s3,‹k›,s5,.r (LD ls),‹v›,.φ (c.j aD),g,d,e]/\c.a<=vs.a+n/\∀a∈c,VG a
 |0,j,vs,f,s10,b,_,_,h=>#[vs,f,s10,b,rfl,∅,h]
 |n+1,j,vs,f,s10,b,x,y,h=>by
  let(i,l,m,r,l1,s):=ZAH hw hk hg hv s0 s1 s3 s5 s10 b j ∅ vs ∅ h;let(o,t,p,q,u,z,w):=k8 s0 s1 s3 s5 n (j+1) i ‹j› l m ∅ ∅ s;apply#[o,t,p,q,?_,∅,w];rw[LK,AQ];rwa[ZB,r,u]
end
structure DQ(L:AB)(m:Y)(q:Pk):V' where
 ax:∃ls,L[q.1]?=Z ls/\q.2.1<=wh ls
 vg:∀a∈q.2.2.1,VG a
 ln:q.2.2.1.a<=m
def
DQ.ok{L:AB}(h:BJ L){m:Y}(f:m<=100){q:Pk}(g:DQ L m q):MW [#v[L.j LD],.r (AT q)]=Z (.r (.bl J')):=by
 let(c,hL,hv):=g.ax;let(p,e):=h.jk c<|Ej hL;have:=ZAP hL e (y:=.int q.2.1) (z:=F0 q.2.2.1 q.2.2.2) (zs:=q.2.2.1.map aD) trivial (by simp[GZ];lia) (by cases q.2.2.2<;>simp[F0]) (λd hd=>by
  let(a,b,rfl):=Be.mp hd;show(g.vg a b).2) (by have:=g.ln;simp;lia)
 rw[show(q.2.2.1.j aD).Ϛ IN=J' by
  rw[Dr];intro d hd;let(a,b,rfl):=Be.mp hd;show(g.vg a b).1]at this
 show this
def
ZAX{L:AB}(h:BJ L){ws:U W'}(c:ws.a=24){k:Y}(d:k<3)(s1:Sl)(ps:U Pk)(hl:ps.a<=50)(s5 s6 s7 s8 s9 s10 m:Sl):∃(q:Pk)(M K Q T P o s:Sl),DQ L 50 q/\Rk [.ϵ (L.j LD),s1,#v[ws.j D.o],.φ (ps.j AT),‹k›,s5,s6,s7,s8,s9,s10,m]=.Q [.ϵ (L.j LD),s1,#v[ws.j D.o],.φ ((ps++[q]).j AT),‹k›,M,K,Q,T,P,o,s]:=by
 let(e,Y'):=wx c d 1 (by ext);let(f,x2):=wx c d 2 (by ext);let(H,x3):=wx c d 3 (by ext);let(b,x5):=wx c d 5 (by ext);let(R,x6):=wx c d 6 (by ext);let Y':Am (.R<|ws.j D.o) (.o<|1+7*(k:W'))=Z (.o e):=Y';let x2:Am (.R<|ws.j D.o) (.o<|2+7*(k:W'))=Z (.o f):=x2;let x3:Am (.R<|ws.j D.o) (.o<|3+7*(k:W'))=Z (.o H):=x3;let x5:Am (.R<|ws.j D.o) (.o<|5+7*(k:W'))=Z (.o b):=x5;let x6:Am (.R<|ws.j D.o) (.o<|6+7*(k:W'))=Z (.o R):=x6;let m7:=GS (x:=7) (y:=(k:W')) (by left;decide);let n1:=h.n1;let t:Zo [.R<|L.j LD]=Z (.o L.a):=by simp
 let u:=Z2 e (L.a:W') ∅;obtain⟨a,ha,ha2⟩:∃a:Y,e%(L.a:W')=(a:W')/\a<L.a:=#[(e%(L.a:W')).ν,by rw[LS<|FH _ ∅],by have:=Hr e (show(0:W')<L.a by lia);have:=FH e (show(L.a:W')≠0 by lia);lia];rw[ha]at u;let hL:L[a]?=Z L[a]:=BZ ha2;generalize L[a]=g at hL;let(p,F):=h.jk g<|Ej hL;let xl:=Ku hL;let x0:∃l,Am (LD g) (.o 0)=Z (Af l)/\l.a=p:=by
  let n1:=F.n1;cases g with
  |nil=>simp at n1
  |cons l r=>show#[l,ZE (j:=0) rfl,F.ϧ l Bb]
 let(l,x0,hl0):=x0;let hln:Zo [Af l]=Z (.o p):=by rw[<- hl0];simp[Af]
 let w:=Z2 f ((p:W')+1) ∅;obtain⟨v,hv,z⟩:∃v:Y,f%((p:W')+1)=(v:W')/\v<=p:=#[(f%((p:W')+1)).ν,by rw[LS<|FH _ ∅],by have:=Hr f (show(0:W')<(p:W')+1 by lia);have:=FH f (show(p:W')+1≠0 by lia);lia];rw[hv]at w;obtain⟨n,hn,hn4⟩:∃n:Y,1+H%4=(n:W')/\n<=4:=#[(1+H%4).ν,∅,∅];let rn:=Hm n ∅;rw[LM]at rn;let(i,t9,t10,t11,er,lr,V):=k8 c d F z (.ϵ<|L.j LD) s1 (.φ<|ps.j AT) ‹a› n 0 [] s9 s10 m ∅ (by simp;lia) (by simp);rw[Do]at er;let e5:=GU (b%7) 0;let e6:=GU (b%11) 3;let e7:=GU (R%2) 0;let pw:HN (.o 10) (.o 41)=Z (.o<|10^41):=jd (by ext);generalize decide (b%7=0)=C,decide (b%11=3)=E,decide (R%2=0)=b3,(10^41:W')=N at *;apply#[(a,v,(bif E then []else bif C then i++[.o<|N+b]else i),b3),‹a›,.r<|LD g,‹v›,.r<|F0 (bif E then []else bif C then i++[.o<|N+b]else i) b3,t9,t10,t11,⟨⟨g,hL,F.wh ▸ z⟩,?_,?_⟩,?_]
 .intro x G;ext E<;>ext C<;>erw[cond_true,cond_false,C0,Cg,Lb]at G
  .show V x G
  .rcases G with G|rfl
   .show V x G
   .show#[rfl,trivial]
 .simp at lr;ext E<;>ext C<;>simp<;>lia
 .generalize L.j LD=W,LD g=A,ws.j D.o=S,Af l=B,(FZ 0 n).j (λk:Y=>D.o k)=RG at *;ext C<;>ext E<;>ext b3<;>rwa[Rk,m7,Y',t,u,xl,x2,x0,hln,w,show Zf (Z ([]:U D))=Z []from Zl _ (by simp),ZN,ZD,x3,Z2 H 4 (by ext),hn,rn,er,x5,Z2 b 7 (by ext),e5,Z2 b 11 (by ext),e6,x6,Z2 R 2 (by ext),e7,Eo,Bx,show i.length<Av from BM (show i.length<100000 by simp at lr;lia) (by ext),pw,DC,Gj,Jd,show ps.length<Av from BM (show ps.length<100000 by lia) (by ext),cond_true,cond_false,F0,Er,aD,AT]
def
at5(x:W'):∃m:Y,m<=3/\Am (.R [.o 1,.o 0,.o 2,.o 1,.o 3]) (.o (x%5))=Z (.o m):=by
 have:x%5=0\/x%5=1\/x%5=2\/x%5=3\/x%5=4:=∅
 rcases this with e|e|e|e|e<;>rw[e]<;>first|show⟨1,by ext,rfl⟩|show⟨0,by ext,rfl⟩|show⟨2,by ext,rfl⟩|show⟨3,by ext,rfl⟩
variable {L:AB}(h:BJ L)
include h
def
k9{ws:U W'}(B:ws.a=24)(s1:Sl):∀(n k:Y)(ps:U Pk)(s4 s5 d e f i s10 a:Sl),k+n<=3->ps.a+n<=3->(∀q∈ps,DQ L 50 q)->∃(b:U Pk)(m o p r s t j l:Sl),ZB (Zc 4) Rk ((FZ k n).j λk:Y=>D.o k) [.ϵ (L.j LD),s1,#v[ws.j D.o],.φ (ps.j AT),s4,s5,d,e,f,i,s10,a]=.Q [.ϵ (L.j LD),s1,#v[ws.j D.o],.φ (b.j AT),m,o,p,r,s,t,j,l]/\b.a<=3/\∀q∈b,DQ L 50 q
 |0,k,ps,s4,s5,d,e,f,i,s10,a,_,C,u=>#[ps,s4,s5,d,e,f,i,s10,a,rfl,C,u]
 |n+1,k,ps,s4,s5,d,e,f,i,s10,a,hk,C,u=>by
  let(q,E,G,H,R,F,w,y,g,M):=ZAX h B (k:=k) ∅ s1 ps ∅ s5 d e f i s10 a;let(b,N,K,Q,T,P,Y',z,A,e2,l2,g2):=k9 B s1 n (k+1) (ps++[q]) ‹k› E G H R F w y ∅ (by simp;lia) λx c=>by
   rcases C0.mp c with c|c
   .show u x c
   .rw[Cg]at c;show c ▸ g
  apply#[b,N,K,Q,T,P,Y',z,A,?_,l2,g2];rw[LK,AQ];rwa[ZB,M,e2]
def
Zwt(c:W'):∃ps:U Pk,Rl [.ϵ (L.j LD),‹c›]=Z (.φ (ps.j AT))/\ps.a<=3/\∀q∈ps,DQ L 50 q:=by
 let(a,f,j,_):=M5 c 24 (by ext);let b:=Hq (xs:=a) (i:=0) (by ext) ∅;let b:Am (.R<|a.map D.int) (.int 0)=_:=b;let md:=Z2 (a.getD (0:W').toNat 0) 5 (by ext);let(m,s,l):=at5<|a.getD (0:W').toNat 0;let d:=Hm m ∅;rw[LM]at d;let(ps,t,u,x,y,z,A,n,o,e,p,g):=k9 h j ‹c› m 0 [] .no .no .no .no .no .no .no .no ∅ (by simp;lia) (by simp);apply#[ps,?_,p,g];apply Zx rfl ?_;rw[Do]at e;generalize L.map LD=W,a.map D.int=S,ps.map AT=PS,(FZ 0 m).map (λk:Y=>D.o k)=B,(a.B (0:W').ν 0)=w at *;change Vd [.ϵ W,‹c›,.no,.no,.no,.no,.no,.no,.no,.no,.no,.no]=_
 rwa[Vd,fQ,fI,show ZP [‹c›,‹24›]=Z #v[S]from f,fP,fJ,show Zf (Z ([]:U D))=Z []from Zl _ (by simp),ZN,fO,fK,show Zf (Z [D.int 1,.int 0,.int 2,.int 1,.int 3])=Z [.int 1,.int 0,.int 2,.int 1,.int 3]from Zl _ (by simp),b,md,l,d,ZD,e,fN,fM,ZZ,D3]
end
def
ZuO{L:AB}(h:BJ L){ps:U Pk}(e:ps.a<=4){m:Y}(a:m<=100)(b:∀q∈ps,DQ L m q):OR [#v[L.j LD],#v[ps.j AT]]=Z (.r (.bl J')):=by
 have:=Zy3 (L.j LD) (ps.j AT) (λ_=>J') (λd hd=>by
  let(q,c,rfl):=Be.mp hd;show(b q c).ok h a) (by simp;lia)
 rw[this,Dr.Ϣ λ_ _=>rfl]
def Di(L:AB)(ps:U Pk)(k:Y):U At:=((L.B k []).χ (EK ps k)).j hd
def
ZEM(a:At)(vs:U At)(b:j'):CF O' (aD a) (F0 vs b)=Z (.bl (decide (a∈vs))):=by
 ext b<;>show Nh a vs
def
ZyR{l:U At}(b:Ln l)(k:Y){ps:U Pk}(hp:ps.a<=4)(hv:∀q∈ps,q.1=k->q.2.1<=l.a):Z4 (Zc 0) (λ_=>Z J') Vg [.no,.r (Af l)] ((ps.χ λq=>decide (q.1=k)).j AT)=Z (((ps.χ λq=>decide (q.1=k)).j λq=>decide (l.B q.2.1 .κ∈q.2.2.1)).j D.bl):=by
 rw[B7];show Zw AT (λq=>D.bl<|decide<|l.getD q.2.1 .non∈q.2.2.1) _ λq a=>#[[.r<|AT q,.r<|Af l],rfl,by
  let a:=F1.mp a;rwa[Vg,show Am (AT q) (.int 1)=Z (.int q.2.1)from rfl,show Am (AT q) (.int 2)=Z (F0 q.2.2.1 q.2.2.2)from rfl,Ni l q.2.1<|hv q a.1<|of_decide_eq_true a.2,ZEM (l.getD q.2.1 .non) q.2.2.1 q.2.2.2]]
def
Zxt(ps:U Pk)(k:Y)(l:U At):((ps.χ λq=>decide (q.1=k)).j λq=>decide (l.B q.2.1 .κ∈q.2.2.1)).Ϛ id=EK ps k l:=by
 rw[Jg,List.all_filter];rfl
section
variable(s0 s1 s2 s3:Sl){k:Y}{ps:U Pk}(hp:ps.a<=4)
include hp
def
lf:∀(b:Bj)(acc:U D)(d:Sl),(∀l∈b,Ln l)->(∀l∈b,∀q∈ps,q.1=k->q.2.1<=l.a)->acc.a+b.a<=1000->∃h,ZB (Zc 6) OJ (b.j Af) [s0,s1,s2,s3,#v[(ps.χ λq=>decide (q.1=k)).j AT],.φ acc,d]=.Q [s0,s1,s2,s3,#v[(ps.χ λq=>decide (q.1=k)).j AT],.φ (acc++((b.χ (EK ps k)).j hd).j aD),h]
 |[],acc,d,_,_,_=>#[d,by simp[ZB]]
 |l::b,acc,d,i,hv,hz=>by
  erw[Ct]at hz;let m:=ZyR (i l Bb) k hp<|hv l Bb;let sm:=Zxt ps k l;let u:=M9 (λq=>decide<|q.1=k) ps;let n:=Zl ((ps.filter λq=>decide<|q.1=k).map AT) (by simp;lia);let p:=Gq<|i l Bb;let f:DD [.lst<|((ps.filter λq=>decide<|q.1=k).map λq=>decide<|l.B q.2.1 .κ∈q.2.2.1).j D.bl]=Z (.bl<|EK ps k l):=by
   rw[<- sm];erw[DD,Na,Ec]
  let r:acc.a<Av:=BM (show acc.a<100000 by lia) (by ext);let o:=λ(c:U D) (s:c.a+b.a<=1000)=>lf b c (.r<|Af l) (λx j=>i x<|Bk _ j) (λx j=>hv x<|Bk _ j) s;rw[AQ];generalize (ps.filter λq=>decide<|q.1=k).map AT=g,((ps.filter λq=>decide<|q.1=k).map λq=>decide<|l.B q.2.1 .κ∈q.2.2.1).j D.bl=w at *;let st:OJ [s0,s1,s2,s3,#v[g],.φ acc,.r<|Af l]=.Q [s0,s1,s2,s3,#v[g],.φ<|if EK ps k l=J' then acc++[aD<|hd l]else acc,.r<|Af l]:=by
   cases a:EK ps k l with
   |true=>rw[a]at f;rwa[OJ,Zh,n,show Zq 1 [6] [s0,s1,s2,s3,#v[g],.own acc,.val<|Af l]=[.no,.val<|Af l]from rfl,m,f,Dt,p,Eo,if_pos r]
   |false=>rw[a]at f;rwa[OJ,Zh,n,show Zq 1 [6] [s0,s1,s2,s3,#v[g],.own acc,.val<|Af l]=[.no,.val<|Af l]from rfl,m,f,Dt,if_neg JJ]
  cases a:EK ps k l with
  |true=>
   let(t,e):=o (acc++[aD<|hd l]) (by simp;lia);rw[a,if_pos rfl]at st;apply⟨t,?_⟩;rwa[ZB,st];rw[e,List.filter_cons_of_pos a];simp
  |false=>
   let(t,e):=o acc ∅;rw[a,if_neg JJ]at st;apply#[t,?_];rwa[ZB,st];rw[e,List.filter_cons_of_neg (by rw[a];show JJ)]
end
variable {L:AB}(h:BJ L){ps:U Pk}(hp:ps.a<=4){m:Y}(hv:∀q∈ps,DQ L m q)
include h hp hv
def
Zwx{k:Y}(r:k<L.a)(acc:U D)(y:acc.a<=100)(s4 s5 g:Sl):∃i j a,Rm [#v[L.j LD],#v[ps.j AT],.φ acc,‹k›,s4,s5,g]=.Q [#v[L.j LD],#v[ps.j AT],.φ (acc++[BH (Di L ps k)]),‹k›,i,j,a]:=by
 let c:L[k]?=Z (L.B k []):=by simp[C6,r]
 let(p,f):=h.jk _<|Ej c;let n6:=f.n6;let s:=IJ (b:=Zc 0) (t:=Ve) (e:=Vf) (ρ:=[.no,‹k›]) AT AT (λq=>decide<|q.1=k) ps λq _=>#[[.r<|AT q,‹k›],rfl,by
  let e:=GU (q.1:W') (k:W');rw[show decide ((q.1:W')=(k:W'))=decide (q.1=k)from decide_eq_decide.Ϣ Int.ofNat_inj]at e;show#[by rwa[Ve,show Am (AT q) (.int 0)=Z (.int q.1)from rfl,e],by rwa[Vf]]]
 let(a,e):=lf #v[L.j LD] #v[ps.j AT] (.φ acc) ‹k› (k:=k) hp (L.B k []) [] g (λl c=>f.ln l c) (λl m q u n=>by
  let(A,o,w):=(hv q u).ax;rw[n,c]at o;ext o;rw[f.ϧ l m,<- f.wh];show w) (by rw[Ja];lia)
 rw[EJ,show((L.B k []).χ<|EK ps k).map hd=Di L ps k from rfl]at e;let x:=Zl (ps.map AT) (by simp;lia);let d:=Ku c;apply#[#v[(ps.filter λq=>decide<|q.1=k).j AT],#v[(Di L ps k).j aD],a,?_]
 .rw[BH];generalize (Di L ps k).j aD=B,(ps.χ λq=>decide<|q.1=k).j AT=C,ps.j AT=PS,L.j LD=W at *;rw[show LD (L.B k [])=.R ((L.B k []).j Af)from rfl]at d;rwa[Rm,Zh,x,show Zq 1 [3] [#v[W],#v[PS],.own acc,‹k›,s4,s5,g]=[.no,‹k›]from rfl,s,Zl ([]:U D) (by simp),ZN,ZD,d,e,Gj,Jd,Eo,if_pos (show acc.length<Av from BM (show acc.length<100000 by lia) (by ext))]
def
lh:∀(n k:Y)(acc:U D)(s3 s4 s5 a:Sl),k+n=L.a->acc.a<=k->∃b c d e,ZB (Zc 3) Rm ((FZ k n).j λk:Y=>D.o k) [#v[L.j LD],#v[ps.j AT],.φ acc,s3,s4,s5,a]=.Q [#v[L.j LD],#v[ps.j AT],.φ (acc++(FZ k n).j λk=>BH (Di L ps k)),b,c,d,e]
 |0,k,acc,s3,s4,s5,a,_,_=>#[s3,s4,s5,a,by simp[ZB]]
 |n+1,k,acc,s3,s4,s5,a,r,s=>by
  let t:=h.n4;let(f,g,i,j):=Zwx h hp hv (k:=k) ∅ acc ∅ s4 s5 a;let(l,m,o,p,q):=lh n (k+1) (acc++[BH<|Di L ps k]) ‹k› f g i ∅ (by simp;lia);apply⟨l,m,o,p,?_⟩;rw[LK,AQ,AQ];rwa[ZB,j];rw[q,Jm,Xq]
def
ZyD:OL [#v[L.j LD],#v[ps.j AT]]=Z (.φ ((AW L.a).j λk=>BH (Di L ps k))):=by
 let b:=h.n4;let(c,d,f,g,e):=lh h hp hv L.a 0 [] .no .no .no .no ∅<|Bg _;rw[EJ,<- LM]at e;let a:Zo [.R<|L.j LD]=Z (.o L.a):=by simp
 apply Zx rfl ?_;generalize (AW L.a).j (λk=>BH<|Di L ps k)=V,L.j LD=W,ps.j AT=PS at *;change Vh [#v[W],#v[PS],.no,.no,.no,.no,.no]=_
 rwa[Vh,Zl ([]:U D) (by simp),ZN,ZD,a,Hm L.length ∅,e,ZZ,D3]
end
def
Pf{b:D->VE->O VE}{g:VE->Dp}{i:Type}(F:i->D)(P:i->V')(r:Rv)(p:VE->V'):∀(xs:U i),(∀x∈xs,∀ρ,p ρ->∃d,b (F x) ρ=Z d/\((P x/\∃c,g d=.Q c/\p c)\/(¬ P x/\g d=.ϱ r)))->∀ρ,p ρ->((∀x∈xs,P x)/\∃c,ZB b g (xs.j F) ρ=.Q c/\p c)\/(¬ (∀x∈xs,P x)/\ZB b g (xs.j F) ρ=.ϱ r)
 |[],_,ρ,j=>.O #[λ_ h=>(nomatch h),ρ,rfl,j]
 |x::xs,h,ρ,j=>by
  let(d,k,z):=h x Bb ρ j;rcases z with⟨hp,c,f,l⟩|⟨hp,f⟩
  .rcases Pf F P r p xs (λy e=>h y<|Bk _ e) c l with⟨a,m,n,o⟩|⟨a,n⟩
   .apply .O #[λy e=>?_,m,?_,o]
    .rcases Bw.mp e with rfl|e
     .show hp
     .show a y e
    .erw[AQ,ZB,k,f,n]
   .show .ρ #[λz=>a λy e=>z y<|Bk _ e,by erw[AQ,ZB,k,f,n]]
  .show .ρ #[λz=>hp<|z x Bb,by erw[AQ,ZB,k,f]]
def
Pg{L:AB}{g:U Y}{k p:Y}{a:Bj}(c:CN L g)(hL:L[k]?=Z a)(hp:GL a p):g.B k 0<=p:=by
 let b:k<g.a:=c.1 ▸ ((Bp.mp hL).1);have:(a,g.B k 0)∈L.zip g:=Ej (i:=k) (by rw[List.getElem?_zip_eq_some,hL];show#[rfl,by simp[C6,b]]);have:=c.2 _ this;rw[<- hp.wh];show this
abbrev Cj(n:Y)(S:Y->U At):D:=.R ((AW n).j λk=>BH (S k))
variable {L:AB}(h:BJ L){g e:U Y}(hg:CN L g)(he:CN L e)(S:Y->U At)
include h hg he
def
Zx7{k:Y}{u:Bj}(hL:L[k]?=Z u){x y:U At}(F:x∈u)(M:y∈u)(s0 w:Sl):
  let P:=x.B (g.B k 0) .κ=y.B (g.B k 0) .κ->av (S k) (e.B k 0) x=av (S k) (e.B k 0) y
  (P/\∃G,ZX [s0,.r (Cj L.a S),.r (Ak g),.r (Ak e),‹k›,.r (Af x),.r (Af y),w]=.Q [s0,.r (Cj L.a S),.r (Ak g),.r (Ak e),‹k›,.r (Af x),.r (Af y),G]) \/
  (¬ P/\ZX [s0,.r (Cj L.a S),.r (Ak g),.r (Ak e),‹k›,.r (Af x),.r (Af y),w]=.ϱ (.r (.bl O'))):=by
 intro P
 let(p,hp):=h.jk u (Ej hL)
 let H:=(Bp.mp hL).1
 let N:=λj (X:j<=p)=>Ni x j (hp.ϧ x F ▸ X)
 let K:=λj (X:j<=p)=>Ni y j (hp.ϧ y M ▸ X)
 let n:=L3 (g:=g) (k:=k) (hg.1 ▸ H)
 let i2:=L3 (g:=e) (k:=k) (he.1 ▸ H)
 let q:Am (Cj L.a S) (.o k)=Z (BH (S k)):=SF S H
 let r:=Gq (hp.ln x F)
 let s:=Gq (hp.ln y M)
 let mx:=Nh (hd x) (S k)
 let c:=Nh (hd y) (S k)
 let d:Co (aD (x.B (g.B k 0) .κ)) (aD (y.B (g.B k 0) .κ))=Z (.bl (decide (x.B (g.B k 0) .κ=y.B (g.B k 0) .κ))):=by erw[Co,FY,Ho,HZ,if_true,LJ]
 let t:Cp (aD (x.B (e.B k 0) .κ)) (aD (y.B (e.B k 0) .κ))=Z (.bl (!decide (x.B (e.B k 0) .κ=y.B (e.B k 0) .κ))):=by rw[X2 (Ho _ _) (Ho _ _),LJ]
 let n1:Cp (.bl J') (.bl J')=Z (.bl O'):=rfl
 let n2:Cp (.bl J') (.bl O')=Z (.bl J'):=rfl
 let n3:Cp (.bl O') (.bl J')=Z (.bl J'):=rfl
 let n4:Cp (.bl O') (.bl O')=Z (.bl O'):=rfl
 let a:=N _ (Pg hg hL hp)
 let b:=K _ (Pg hg hL hp)
 let l:=N _ (Pg he hL hp)
 let m:=K _ (Pg he hL hp)
 erw[P]
 rw[av,av]
 generalize Cj L.a S=V,BH (S k)=Q,Ak g=W,Ak e=Y',Af x=T,Af y=R,x.B (g.B k 0) .κ=A,y.B (g.B k 0) .κ=B,x.B (e.B k 0) .κ=C,y.B (e.B k 0) .κ=E at *
 by_cases o:A=B
 .rw[decide_eq_true o]at d
  by_cases f:hd x∈S k<;>by_cases i:hd y∈S k
  .rw[decide_eq_true f]at mx
   rw[decide_eq_true i]at c
   rw[if_pos f,if_pos i]
   by_cases v:C=E
   .rw[decide_eq_true v]at t
    apply .O #[λ_=>by rw[v],.r (.bl O'),?_]
    rwa[ZX,n,a,b,d,r,s,q,mx,c,n1,n2,n3,n4,i2,l,m,t,Dt]
   .rw[decide_eq_false v]at t
    apply .ρ #[λz=>v (E6 (z o)),?_]
    rwa[ZX,n,a,b,d,r,s,q,mx,c,n1,n2,n3,n4,i2,l,m,t,Dt]
  .rw[decide_eq_true f]at mx
   rw[decide_eq_false i]at c
   rw[if_pos f,if_neg i]
   apply .ρ #[λz=>(nomatch (z o)),?_]
   rwa[ZX,n,a,b,d,r,s,q,mx,c,n1,n2,n3,n4]
  .rw[decide_eq_false f]at mx
   rw[decide_eq_true i]at c
   rw[if_neg f,if_pos i]
   apply .ρ #[λz=>(nomatch (z o)),?_]
   rwa[ZX,n,a,b,d,r,s,q,mx,c,n1,n2,n3,n4]
  .rw[decide_eq_false f]at mx
   rw[decide_eq_false i]at c
   rw[if_neg f,if_neg i]
   apply .O #[λ_=>rfl,.r (.bl (!decide (C=E))),?_]
   rwa[ZX,n,a,b,d,r,s,q,mx,c,n1,n2,n3,n4,i2,l,m,t]
 .rw[decide_eq_false o]at d
  apply .O #[λz=>absurd z o,w,?_]
  rwa[ZX,n,a,b,d]
def
ZDk{k:Y}{i:Bj}(hL:L[k]?=Z i)(s5 d c:Sl):(Gv i (S k) (g.B k 0) (e.B k 0)/\∃p q r,MS [#v[L.j LD],.r (Cj L.a S),.r (Ak g),.r (Ak e),‹k›,s5,d,c]=.Q [#v[L.j LD],.r (Cj L.a S),.r (Ak g),.r (Ak e),‹k›,p,q,r]) \/(¬ Gv i (S k) (g.B k 0) (e.B k 0)/\MS [#v[L.j LD],.r (Cj L.a S),.r (Ak g),.r (Ak e),‹k›,s5,d,c]=.ϱ (.r (.bl O'))):=by
 let j:=Ku hL;let l:=λ(x:U At) (m:x∈i)=>Pf (b:=Zc 6) (g:=ZX) Af (λy=>x.B (g.B k 0) .κ=y.B (g.B k 0) .κ->av (S k) (e.B k 0) x=av (S k) (e.B k 0) y) (.r<|.bl O') (λn=>∃d c,n=[#v[L.j LD],.r<|Cj L.length S,.val<|Ak g,.val<|Ak e,‹k›,.val<|Af x,d,c]) i λy s n ⟨d,c,t⟩=>#[[#v[L.j LD],.r<|Cj L.a S,.r<|Ak g,.r<|Ak e,‹k›,.r<|Af x,.r<|Af y,c],by rw[t];rfl,by
  rcases(λ{x y:U At} (m:x∈i) (s:y∈i) c=>Zx7 h hg he S hL m s #v[L.j LD] c) m s c with⟨a,o,f⟩|⟨a,f⟩
  .show .O #[a,_,f,_,_,rfl]
  .show .ρ #[a,f]]
 let outer:=Pf (b:=Zc 5) (g:=Ro) Af (λx=>∀y∈i,x.B (g.B k 0) .κ=y.B (g.B k 0) .κ->av (S k) (e.B k 0) x=av (S k) (e.B k 0) y) (.r<|.bl O') (λn=>∃s5 d c,n=[#v[L.j LD],.r<|Cj L.length S,.val<|Ak g,.val<|Ak e,‹k›,s5,d,c]) i λx m n ⟨s5,d,c,t⟩=>#[[#v[L.j LD],.r<|Cj L.a S,.r<|Ak g,.r<|Ak e,‹k›,.r<|Af x,d,c],by rw[t];rfl,by
  rcases l x m _ ⟨d,c,rfl⟩with⟨a,_,f,u,o,rfl⟩|⟨a,f⟩
  .show .O #[a,[#v[L.j LD],.r<|Cj L.a S,.r<|Ak g,.r<|Ak e,‹k›,.r<|Af x,u,o],by rwa[Ro,ZD,j,f],_,_,_,rfl]
  .show .ρ #[a,by rwa[Ro,ZD,j,f]]]
 rcases outer _ ⟨s5,d,c,rfl⟩with⟨a,_,f,w,u,o,rfl⟩|⟨a,f⟩
 .show .O #[a,w,u,o,by rwa[MS,ZD,j,f]]
 .show .ρ #[a,by rwa[MS,ZD,j,f]]
def
ZBi:∃a,Rp [#v[L.j LD],.r (Cj L.a S),.r (Ak g),.r (Ak e)]=Z (.r (.bl a))/\(a=J'↔Hw L S g e):=by
 let C:=h.n4;let all:=Pf (b:=Zc 4) (g:=MS) (λk:Y=>D.o k) (λk=>∀c,L[k]?=Z c->Gv c (S k) (g.B k 0) (e.B k 0)) (.r<|.bl O') (λq=>∃s l m n,q=[#v[L.j LD],.r<|Cj L.length S,.val<|Ak g,.val<|Ak e,s,l,m,n]) (AW L.length) λk f q ⟨s,l,m,n,w⟩=>#[[#v[L.j LD],.r<|Cj L.a S,.r<|Ak g,.r<|Ak e,‹k›,l,m,n],by rw[w];rfl,by
  let f:=DS.mp f;rcases ZDk h hg he S (BZ f) l m n with⟨a,x,y,A,d⟩|⟨a,d⟩
  .show .O #[λc i=>by rw[BZ f]at i;ext i;show a,_,d,_,_,_,_,rfl]
  .show .ρ #[λz=>a<|z _<|BZ f,d]]
 let all:=all _ #[.no,.no,.no,.no,rfl];let o:(∀k∈AW L.a,∀c,L[k]?=Z c->Gv c (S k) (g.B k 0) (e.B k 0))↔∀k c,L[k]?=Z c->Gv c (S k) (g.B k 0) (e.B k 0):=#[λz k c i=>z k (DS.Ϣ (Bp.mp i).1) c i,λz k _=>z k];rw[o]at all;let(b,j,B):=kX L.a S;let t:=Hm L.a ∅;let u:Zo [.R<|L.j LD]=Z (.o L.a):=by simp
 let p:=Zl ([]:U D) (by simp);let j:CF O' (.R []) (Cj L.a S)=Z (.bl b):=j;unfold Hw;rw[<- B];generalize Cj L.a S=V,L.j LD=W,Ak g=F,Ak e=Y',(∀k c,L[k]?=Z c->Gv c (S k) (g.B k 0) (e.B k 0))=E at *;let go:∀r,ON [#v[W],.r V,.r F,.r Y',.no,.no,.no,.no]=.ϱ (.r<|.bl r)->Rp [#v[W],.val V,.val F,.val Y']=Z (.val<|.bl r):=λr z=>Zx rfl z;cases b with|true=>show#[J',go _ (by rwa[ON,p,j]),λ_=>.O rfl,λ_=>rfl]|false=>
  rcases all with⟨a,_,d,G,x,y,A,rfl⟩|⟨a,d⟩
  .show#[J',go _ (by rwa[ON,p,j,ZD,u,t,d]),λ_=>.ρ a,λ_=>rfl]
  .show#[O',go _ (by rwa[ON,p,j,ZD,u,t,d]),λz=>(nomatch z),λz=>(z.Δ (λz=>nomatch z) a).Δ]
end
variable {L:AB}(h:BJ L){g:U Y}(hg:CN L g)(S:Y->U At)
include h hg
def
Zy0{k:Y}(n:k<L.a){s:U At}(E:s.a=L.a)(s5 i:Sl):(G7 (L.B k []) (S k) (g.B k 0) (s.B k .κ)=J'/\∃o q,MU [#v[L.j LD],.r (Cj L.a S),.r (Ak g),.r (Af s),‹k›,s5,i]=.Q [#v[L.j LD],.r (Cj L.a S),.r (Ak g),.r (Af s),‹k›,o,q]) \/(¬ G7 (L.B k []) (S k) (g.B k 0) (s.B k .κ)=J'/\MU [#v[L.j LD],.r (Cj L.a S),.r (Ak g),.r (Af s),‹k›,s5,i]=.ϱ (.r (.bl O'))):=by
 let a:L[k]?=Z (L.B k []):=by simp[C6,n]
 let(p,hp):=h.jk _<|Ej a;let n6:=hp.n6;let B:=Pg hg a hp;let r:=L3 (g:=g) (k:=k) (hg.1 ▸ n);let u:=ZFB (l:=s) (j:=k) ∅;let c:Am (.lst<|L.map LD) (.int k)=Z (.lst<|(L.getD k []).map Af):=Ku a;let w:=IJ (b:=Zc 0) (t:=Vi) (e:=Vj) (ρ:=[.no,‹(g.getD k 0:Y)›,.val<|Cj L.length S,‹k›]) Af (λl=>aD<|l.getD (g.getD k 0) .non) (λl=>decide<|hd l∈S k) (L.getD k []) λl a=>#[[.r<|Af l,‹(g.B k 0:Y)›,.r<|Cj L.a S,‹k›],rfl,by
  let v:=Ni l (g.B k 0)<|hp.ϧ l a ▸ B;show⟨by rwa[Vi,Gq<|hp.ln l a,SF S n,Nh (hd l)<|S k],by rwa[Vj,v]⟩]
 let C:decide (s.B k .κ∈((L.B k []).χ λl=>decide<|hd l∈S k).map λl=>l.B (g.B k 0) .κ)=G7 (L.B k []) (S k) (g.B k 0) (s.B k .κ):=by
  rw[G7,Se,decide_eq_true_eq,Be,Sz];show#[λ⟨l,m,d⟩=>#[l,(F1.mp m).1,by rw[(F1.mp m).2,decide_eq_true d];rfl],λ⟨l,m,d⟩=>by
   rw[Dv]at d;show#[l,F1.Ϣ #[m,d.1],of_decide_eq_true d.2]]
 let f:=X1 J' (s.B k .κ)<|((L.getD k []).filter λl=>decide<|hd l∈S k).map λl=>l.B (g.B k 0) .κ;rw[BH,B7,show(aD∘λl:U At=>l.B (g.B k 0) .κ)=λl=>aD (l.B (g.B k 0) .κ)from rfl,C]at f;let x:=Zl ((L.B k []).j Af) (by rw[Bx];lia);generalize ((L.B k []).χ λl=>decide<|hd l∈S k).map (λl=>aD<|l.B (g.B k 0) .κ)=Y',(L.B k []).j Af=A,Cj L.a S=V,L.j LD=W,Ak g=F,Af s=X at *;cases y:G7 (L.B k []) (S k) (g.B k 0) (s.B k .κ)with
 |true=>
  rw[y]at f;apply .O #[rfl,‹(g.B k 0:Y)›,#v[Y'],?_];rwa[MU,r,Zh,c,x,show Zq 1 [5,1,4] [#v[W],.val V,.val F,.val X,‹k›,‹(g.getD k 0:Y)›,i]=[.no,‹(g.getD k 0:Y)›,.val V,‹k›]from rfl,w,u,f,show(J' != J')=O' from rfl]
 |false=>
  rw[y]at f;apply .ρ #[λz=>(nomatch z),?_];rwa[MU,r,Zh,c,x,show Zq 1 [5,1,4] [#v[W],.val V,.val F,.val X,‹k›,‹(g.getD k 0:Y)›,i]=[.no,‹(g.getD k 0:Y)›,.val V,‹k›]from rfl,w,u,f,show(J' != O')=J' from rfl]
def
ZBI{s:U At}(m:s.a=L.a):Vk [#v[L.j LD],.r (Cj L.a S),.r (Ak g),.r (Af s)]=Z (.r (.bl (DJ L S g s))):=by
 let t:=h.n4;let all:=Pf (b:=Zc 4) (g:=MU) (λk:Y=>D.o k) (λk=>G7 (L.B k []) (S k) (g.B k 0) (s.B k .κ)=J') (.r<|.bl O') (λf=>∃i d e,f=[#v[L.j LD],.r<|Cj L.length S,.val<|Ak g,.val<|Af s,i,d,e]) (AW L.length) λk n f ⟨i,d,e,o⟩=>#[[#v[L.j LD],.r<|Cj L.a S,.r<|Ak g,.r<|Af s,‹k›,d,e],by rw[o];rfl,by
  rcases Zy0 h hg S (DS.mp n) m d e with⟨a,p,q,c⟩|⟨a,c⟩
  .show .O #[a,_,c,_,_,_,rfl]
  .show .ρ #[a,c]]
 let all:=all _ #[.no,.no,.no,rfl];let j:=Hm L.a ∅;let l:Zo [.R<|L.j LD]=Z (.o L.a):=by simp
 let r:DJ L S g s=J'↔∀k∈AW L.a,G7 (L.B k []) (S k) (g.B k 0) (s.B k .κ)=J':=by rw[DJ,Dr]
 rw[<- r]at all;apply Zx rfl ?_;generalize Cj L.a S=V,L.j LD=W,Ak g=w,Af s=X,DJ L S g s=T at *;change Rq [#v[W],.r V,.r w,.r X,.no,.no,.no]=_
 rcases all with⟨rfl,_,c,u,p,q,rfl⟩|⟨a,c⟩
 .rwa[Rq,ZD,l,j,c]
 .rw[Bool.eq_false_iff.Ϣ a];rwa[Rq,ZD,l,j,c]
end
variable {L:AB}(h:BJ L){R:U Row}(hr:∀r∈R,AM L r.1)(hl:R.a<64)(S:Y->U At){e:U Y}(he:CN L e)
include h hr hl he
def
Zzj{g:U Y}(l:CN L g)(s2:Sl)(o:O (U Y×Y))(A j:Sl):∃p q,Kg [#v[L.j LD],#v[R.j Ze],s2,.r (Cj L.a S),.r (Ak e),.r (bD o),.r (Ak g),A,j]=.Q [#v[L.j LD],#v[R.j Ze],s2,.r (Cj L.a S),.r (Ak e),.r (bD (Dd L S R e o g)),.r (Ak g),p,q]:=by
 let(a,m,B):=ZBi h l he S;let hc:=Zzh h l.1 R hr hl;let ok:=Nb l.1 hr;cases a with
 |false=>
  apply#[A,j,?_];rw[show Dd L S R e o g=o from if_neg λz=>nomatch B.Ϣ z];rwa[Kg,m,Dt]
 |true=>
  let E:Dd L S R e o g=match o with
   |none=>Z (g,Ee L S R g)
   |some x=>if Ee L S R g<x.2 then Z (g,Ee L S R g)else Z x:=if_pos<|B.mp rfl
  rw[E];let f:Ea (.R (Zb<|(Dy (CM (qs L g) R) []).j<|ZG vC) .d)=Z ((Zv<|Dy (CM (qs L g) R) []).j Af):=by
   erw[Ea,ZW,Ec,XD]
  let r:=IJ (b:=Zc 0) (t:=VY) (e:=VZ) (ρ:=[.no,#v[L.j LD],.r<|Cj L.length S,.val<|Ak g]) Af Af (DJ L S g) (Zv<|Dy (CM (qs L g) R) []) λs G=>#[[.r<|Af s,#v[L.j LD],.r<|Cj L.a S,.r<|Ak g],rfl,by
   show#[by rwa[VY,ZBI h l S<|ok.kl s G,Dt],by rwa[VZ]]]
  let u:=Zl ((Zv<|Dy (CM (qs L g) R) []).j Af) (by have:=ok.ϧ;rw[Bx,Zv,Bx];have:(Dy (CM (qs L g) R) []).a<=R.a:=this;lia);let w:Zo [.R<|((Zv<|Dy (CM (qs L g) R) []).χ<|DJ L S g).j Af]=Z (.o<|Ee L S R g):=by
   rw[Ee];simp
  generalize Zb ((Dy (CM (qs L g) R) []).j<|ZG vC)=i,(Zv<|Dy (CM (qs L g) R) []).j Af=KK,((Zv<|Dy (CM (qs L g) R) []).χ<|DJ L S g).j Af=K,Ee L S R g=c at *;apply#[.r<|.R i .d,‹c›,?_];cases o with
  |none=>
   change _=Dp.Q [#v[L.j LD],#v[R.j Ze],s2,.r<|Cj L.a S,.r<|Ak e,.r<|.S [Ak g,.o c],.r<|Ak g,.r<|.R i .d,‹c›]
   generalize Cj L.a S=V,L.j LD=W,Ak g=H,Ak e=Y',R.j Ze=k at *;rwa[bD,Kg,m,Dt,hc,EI,Zh,f,u,show ∀b:Sl,Zq 1 [0,3,6] [#v[W],#v[k],s2,.val V,.val Y',b,.val H,.val<|.lst i .d,j]=[.no,#v[W],.val V,.val H]from λ_=>rfl,r,w,EC,isN,show ∀x y:D,Zf (Z [x,y])=Z [x,y]from λ_ _=>Zl _ (by simp)]
  |some x=>
   let(F,n):=x;let lt:E2 (.o c) (.o n)=Z (.bl<|decide<|(c:W')<n):=rfl;dsimp only;by_cases C:c<n
   .rw[decide_eq_true ∅]at lt;rw[if_pos C];change _=Dp.Q [#v[L.j LD],#v[R.j Ze],s2,.r<|Cj L.a S,.r<|Ak e,.r<|.S [Ak g,.o c],.r<|Ak g,.r<|.R i .d,‹c›]
    generalize Cj L.a S=V,L.j LD=W,Ak g=H,Ak e=Y',R.j Ze=k at *;rwa[bD,Kg,m,Dt,hc,EI,Zh,f,u,show ∀b:Sl,Zq 1 [0,3,6] [#v[W],#v[k],s2,.val V,.val Y',b,.val H,.val<|.lst i .d,j]=[.no,#v[W],.val V,.val H]from λ_=>rfl,r,w,EC,isN,show ∀z:D,Am (.tup [z,.int n]) (.int 1)=Z (.int n)from λ_=>rfl,lt,show ∀x y:D,Zf (Z [x,y])=Z [x,y]from λ_ _=>Zl _ (by simp)]
   .rw[decide_eq_false ∅]at lt;rw[if_neg C];generalize Cj L.a S=V,L.j LD=W,Ak g=H,Ak e=Y',R.j Ze=k at *;rwa[bD,Kg,m,Dt,hc,EI,Zh,f,u,show ∀b:Sl,Zq 1 [0,3,6] [#v[W],#v[k],s2,.val V,.val Y',b,.val H,.val<|.lst i .d,j]=[.no,#v[W],.val V,.val H]from λ_=>rfl,r,w,EC,isN,show ∀z:D,Am (.tup [z,.int n]) (.int 1)=Z (.int n)from λ_=>rfl,lt]
def
lj(s2:Sl):∀(ks:U (U Y))(o:O (U Y×Y))(c a b:Sl),(∀g∈ks,CN L g)->∃d f i,ZB (Zc 6) Kg (ks.j Ak) [#v[L.j LD],#v[R.j Ze],s2,.r (Cj L.a S),.r (Ak e),.r (bD o),c,a,b]=.Q [#v[L.j LD],#v[R.j Ze],s2,.r (Cj L.a S),.r (Ak e),.r (bD (ks.Ω (Dd L S R e) o)),d,f,i]
 |[],o,c,a,b,_=>#[c,a,b,rfl]
 |g::ks,o,c,a,b,j=>by
  let(k,l,m):=Zzj h hr hl S he (j g Bb) s2 o a b;let(n,p,q,r):=lj s2 ks (Dd L S R e o g) (.r<|Ak g) k l λx s=>j x<|Bk _ s;apply⟨n,p,q,?_⟩;rwa[ZB,m,r,IH]
def
ZAI(f:∀g∈gs,CN L g)(a:gs.a<64):MZ [#v[L.j LD],#v[R.j Ze],#v[gs.j Ak],.r (Cj L.a S),.r (Ak e)]=Z (.r (bD ((Zz Cw gs).Ω (Dd L S R e) J))):=by
 let n1:=h.n1;let b:J9 (Z<|.lst<|gs.map Ak)=Z ((Zz Cw gs).map Ak):=(XT (gs:=gs) a λg c z=>by have:=(f g c).1;rw[z]at this;simp at this;lia);let(i,j,k,d):=lj h hr hl S he #v[gs.j Ak] (Zz Cw gs) J .no .no .no λg c=>f g<|(ZC Cw gs).ϖ.mp c;let d:ZB (Zc 6) Kg ((Zz Cw gs).j Ak) [#v[L.j LD],#v[R.j Ze],#v[gs.j Ak],.r<|Cj L.a S,.r<|Ak e,.r .κ,.no,.no,.no]=.Q [#v[L.j LD],#v[R.j Ze],#v[gs.j Ak],.r<|Cj L.a S,.r<|Ak e,.r<|bD<|(Zz Cw gs).Ω (Dd L S R e) J,i,j,k]:=d;apply Zx rfl ?_;generalize Cj L.a S=V,L.j LD=W,Ak e=Y',R.j Ze=l,bD ((Zz Cw gs).Ω (Dd L S R e) J)=BO,(Zz Cw gs).j Ak=m,gs.j Ak=G0 at *;change V0 [#v[W],#v[l],#v[G0],.r V,.r Y',.no,.no,.no,.no]=_
 rwa[V0,ZD,b,d]
end
def
lm:∀(a:U Row)(acc:U Cc),(∀k∈Zv acc,k∈Zv (Dy a acc))/\∀r∈a,r.1∈Zv (Dy a acc)
 |[],acc=>#[λ_ h=>h,λ_ h=>nomatch h]
 |r::a,acc=>by
  let(c,i2):=lm a<|Dm acc r.1 r.2;apply⟨λk d=>c k (by grind [O9]),λq b=>?_⟩;rcases Bw.mp b with rfl|b
  .show c _ (by grind [O9])
  .show i2 q b
variable {L:AB}{rs R:U Row}(pm:R.Perm rs)(hr:∀r∈rs,AM L r.1)
include pm hr
def
ZvF{g:U Y}(d:g.a=L.a):(Zv (Du L g R)).Perm (Zv (Du L g rs)):=by
 let mem:∀(a:U Row) k,k∈Zv (Du L g a)↔∃r∈a,Z3 (qs L g) r.1=k:=λa k=>#[λc=>by
  rcases Sx _ _ k c with c|⟨r,b,rfl⟩
  .cases c
  .let(q,f,rfl):=Be.mp b;show#[q,f,rfl],λ⟨r,b,e⟩=>e ▸ (lm _ _).2 _ (Es b)]
 show(List.perm_ext_iff_of_nodup (Nb d λr b=>hr r<|pm.mem_iff.mp b).nd (Nb d hr).nd).mpr λk=>by
  rw[mem,mem];show#[λ⟨r,b,e⟩=>#[r,pm.ϖ.mp b,e],λ⟨r,b,e⟩=>#[r,pm.ϖ.Ϣ b,e]]
def
ZCs{ps:U Pk}{f:Y->U At}(p:Ch L ps f){e:U Y}{o:O (U Y×Y)}{g:U Y}(q:g.a=L.a):Dd L f rs e o g=Dd L (Di L ps) R e o g:=by
 let mem:∀k b,L[k]?=Z b->∀a,a∈f k↔a∈Di L ps k:=λk b d a=>by
  rw[p.mem k b d a,Di,show L.B k []=b by simp[C6,d],Be];show#[λ⟨l,i,r,m⟩=>#[l,F1.Ϣ #[i,r],m],λ⟨l,i,m⟩=>#[l,(F1.mp i).1,(F1.mp i).2,m]]
 let nil:∀k,k<L.a->(f k=[]↔Di L ps k=[]):=λk h=>by
  rw[List.eq_nil_iff_forall_not_mem,List.eq_nil_iff_forall_not_mem];show forall_congr' λa=>not_congr<|(mem k _<|BZ h) a
 let t:∀k b,L[k]?=Z b->∀j l,av (f k) j l=av (Di L ps k) j l:=λk b d j l=>by
  rw[av,av];by_cases c:hd l∈f k
  .rw[if_pos c,if_pos<|(mem k b d _).mp c]
  .rw[if_neg c,if_neg λz=>c<|(mem k b d _).Ϣ z]
 let n:Hw L f g e↔Hw L (Di L ps) g e:=by
  apply or_congr (exists_congr λk=>and_congr_right λh=>nil k h) (forall_congr' λk=>forall_congr' λb=>forall_congr' λd=>?_);unfold Gv;erw[t k b d]
 let u:∀s,DJ L f g s=DJ L (Di L ps) g s:=λs=>by
  rw[DJ,DJ,Se,Dr,Dr];apply forall_congr' λk=>forall_congr' λh=>?_;rw[G7,G7,Sz,Sz];show exists_congr λl=>and_congr_right λ_=>by rw[Dv,Dv,decide_eq_true_eq,decide_eq_true_eq,decide_eq_true_eq,mem k _ (show L[k]?=Z (L.B k []) by simp[C6,DS.mp h])]
 let cn:Ee L f rs g=Ee L (Di L ps) R g:=by
  rw[Ee,Ee,show DJ L f g=DJ L (Di L ps) g from funext u];show((ZvF pm hr q).χ _).ϗ.Ζ
 by_cases c:Hw L f g e
 .let v:Dd L f rs e o g=Kw o g (Ee L f rs g):=if_pos c;let w:Dd L (Di L ps) R e o g=Kw o g (Ee L (Di L ps) R g):=if_pos<|n.mp c;rw[v,w,cn]
 .rw[show Dd L f rs e o g=o from if_neg c,show Dd L (Di L ps) R e o g=o from if_neg λz=>c<|n.Ϣ z]
def
lu{ps:U Pk}{f:Y->U At}(a:Ch L ps f){e:U Y}:∀(ks:U (U Y))(o:O (U Y×Y)),(∀g∈ks,g.a=L.a)->ks.Ω (Dd L f rs e) o=ks.Ω (Dd L (Di L ps) R e) o
 |[],_,_=>rfl
 |g::ks,o,h=>by
  rw[IH,IH,ZCs pm hr a<|h g Bb];show lu a ks _ λx b=>h x<|Bk _ b
end
def
ZFu(L:AB)(k:Y):(zg L).B k 0=0:=by
 rw[C6,zg,CW];cases L[k]?<;>rfl
def
ZCv{L:AB}(h:BJ L)(S:Y->U At)(e:U Y):Hw L S (zg L) e:=.ρ λk a b x c y d z=>by
 let(p,hp):=h.jk a<|Ej b;rw[ZFu,X3,X3]at z;rw[SD hp.hdn c d z]
def E4(L:AB)(ps:U Pk)(R:U Row)(gs:U (U Y))(e:U Y):O (U Y×Y):=(Zz Cw gs).Ω (Dd L (Di L ps) R e) J
def
lw{L:AB}{S:Y->U At}{R:U Row}{e:U Y}:∀(ks:U (U Y))(o:O (U Y×Y)),(∀x,ks.Ω (Dd L S R e) o=Z x->x.1∈ks\/o=Z x\/∃y,o=Z y/\y.1=x.1)/\((o≠J\/∃g∈ks,Hw L S g e)->ks.Ω (Dd L S R e) o≠J)
 |[],o=>#[λx b=>.ρ<|.inl b,λz=>z.Δ id λ⟨_,h,_⟩=>nomatch h]
 |g::ks,o=>by
  let(d,i2):=lw (L:=L) (S:=S) (R:=R) (e:=e) ks (Dd L S R e o g);rw[IH];by_cases c:Hw L S g e
  .let u:Dd L S R e o g=Kw o g (Ee L S R g):=if_pos c;let nn:Kw o g (Ee L S R g)≠J:=by
    unfold Kw;cases o with
    |none=>show λz=>nomatch z
    |some y=>dsimp only;split<;>show λz=>nomatch z
   let f:∀x,Kw o g (Ee L S R g)=Z x->x.1=g\/o=Z x:=λx b=>by
    unfold Kw at b;cases o with
    |none=>ext b;show .O rfl
    |some y=>dsimp only at b;split at b<;>ext b<;>simp
   rw[u]at d i2 ⊢;apply#[λx b=>?_,λ_=>i2<|.O nn];rcases d x b with z|z|⟨y,z,i⟩
   .show .O<|Bk _ z
   .rcases f x z with z|z
    .show .O<|z ▸ Bb
    .show .ρ<|.O z
   .rcases f y z with z|z
    .show .O (by rw[<- i,z];show Bb)
    .show .ρ<|.ρ ⟨y,z,i⟩
  .rw[show Dd L S R e o g=o from if_neg c]at d i2 ⊢;apply#[λx b=>(d x b).imp (Bk _) id,λz=>i2<|z.imp id λ⟨x,b,a⟩=>?_];rcases Bw.mp b with rfl|b
   .show absurd a c
   .show#[x,b,a]
def
ZwJ{L:AB}(h:BJ L)(ps:U Pk)(R:U Row)(hz:zg L∈gs)(e:U Y):∃g∈gs,∃n:Y,E4 L ps R gs e=Z (g,n):=by
 let(a,i2):=lw (L:=L) (S:=Di L ps) (R:=R) (e:=e) (Zz Cw gs) J;let pm:=ZC Cw gs;have:=i2<|.inr ⟨zg L,pm.mem_iff.mpr hz,ZCv h _ e⟩;unfold E4;cases c:(Zz Cw gs).foldl (Dd L (Di L ps) R e) J with|none=>show absurd c this|some x=>
  rcases a x c with z|z|⟨_,z,_⟩
  .show#[x.1,pm.ϖ.mp z,x.2,rfl]
  .cases z
  .cases z
structure KS(L:AB)(R rs:List Row)(gs:List (List Y))(a b q p:Y)(G:Gh):V' where
 bs:BS L rs gs b G
 pm:R.Perm rs
 la:G[a]?=Z (.Υ .l (L.j LD))
 lr:G[q]?=Z (.Υ .l (R.j Ze))
 lk:G[p]?=Z (.Υ .l (gs.j Ak))
 gb:∀g∈gs,CN L g
 hz:zg L∈gs
variable {L:AB}{R rs:U Row}{a b q p:Y}{G:Gh}(k:KS L R rs gs a b q p G)(hl:R.a<64){e:U Y}(he:CN L e){ps:U Pk}(hp:ps.a<=4){m:Y}(hm:m<=100)(hv:∀x∈ps,DQ L m x)
include k hl he hp hm hv
def
KS.plan{sp:IV}(vp:C8 2 G sp=#v[ps.j AT]):M0 [.Y b,.r (Ak e),sp] G=Z (.r (bD (E4 L ps R gs e)),G):=by
 let(t,d,h,_):=k.bs.bk;let(f,c,i):=Zy9 k.bs.gl ps<|λx a=>BN (hv x a).ln hm;have:=Zz8 k.bs.gl d h k.bs.sp (k.pm.ϗ ▸ hl) k.bs.gn he.1 (λx a=>BN (hv x a).ln hm) c i vp (by have:=k.bs.g12;lia) he (ZuO k.bs.gl hp hm hv);rw[this,lu k.pm k.bs.sp c _ _ λg j=>k.bs.gn g<|(ZC Cw gs).ϖ.mp j];rfl
def
KS.due:MZ [#v[L.j LD],#v[R.j Ze],#v[gs.j Ak],.r (Cj L.a (Di L ps)),.r (Ak e)]=Z (.r (bD (E4 L ps R gs e))):=ZAI k.bs.gl (λr a=>k.bs.sp r<|k.pm.ϖ.mp a) hl (Di L ps) he k.gb (by have:=k.bs.g12;lia)
end
def cm:IV->O Y
 |.tu [_,_,(_,Z m)]=>Z m
 |_=>J
def HI(v:j')(G:Gh)(n0:Y)(it:IV)(q:Pk):V':=
 (v=J'/\it=.r (AT q)\/q.2.2.2=J'/\it=.tu [(.o q.1,J),(.o q.2.1,J),(F0 q.2.2.1 J',J)]) \/
 ∃m,q.2.2.2=O'/\it=.tu [(.o q.1,J),(.o q.2.1,J),(.κ,Z m)]/\m≠n0/\G[m]?=Z (.Υ .l (q.2.2.1.j aD))
def
HI.tr{v:j'}{G:Gh}{n0:Y}{it:IV}{q:Pk}(h:HI v G n0 it q):tr 2 G 2 it=Z (AT q):=by
 let(a,j,d,b):=q;rcases h with(⟨_,rfl⟩|⟨rfl,rfl⟩)|⟨m,rfl,rfl,_,c⟩
 .erw[Internal.tr]
 .rw[QE];rfl
 .rw[QE];let c:G[m]?=Z (.Υ .l<|d.j aD):=c;let e:QD 2 G 1 (.κ,Z m)=Z (.R<|d.j aD):=by
   change Internal.tr 2 G 1 (.Y m)=_
   rw[Internal.tr,c];rfl
  rw[AQ,AQ,AQ,Do,e];rfl
structure Hd(v:j')(N:Y)(G:Gh)(n0:Y)(its:List IV)(ps:List Pk):V' where
 at':G[n0]?=Z (.mix .l its)\/its=[]/\G[n0]?=Z (.Υ .l [])
 pr:Paired (HI v G n0) its ps
 nd:(its.Ϗ cm).θ
 lt:∀m∈its.Ϗ cm,m<G.a
 ge:∀m∈its.Ϗ cm,N<=m
def
Hd.its{v:j'}{N:Y}{G:Gh}{a:U IV}{ps:U Pk}(h:Hd v N G n0 a ps):∃c,G[n0]?=Z c/\Gk c=Z a:=by
 rcases h.at' with e|⟨rfl,e⟩
 .show#[_,e,rfl]
 .show#[_,e,rfl]
def
Hd.vw{v:j'}{N:Y}{G:Gh}{a:U IV}{ps:U Pk}(h:Hd v N G n0 a ps):C8 2 G (.Y n0)=#v[ps.j AT]:=by
 let e:Internal.tr 2 G 3 (.Y n0)=Z (.R<|ps.j AT):=by
  rcases h.at' with e|⟨rfl,e⟩
  .let s:Hk (a.j<|Internal.tr 2 G 2)=Z (ps.j AT):=by
    have:=h.pr;clear h e;induction this with
    |nil=>rfl
    |cons q _ b=>rw[AQ,Hk,q.tr,b];rfl
   rw[Internal.tr,e];show(Hk<|a.j<|Internal.tr 2 G 2).j _=_
   rw[s];rfl
  .have:=h.pr;ext this;rw[Internal.tr,e];rfl
 unfold C8;dsimp only;rw[e]
def
HI.mono{v:j'}{G:Gh}{it:IV}{q:Pk}(h:HI v G n0 it q)(e:∀m,cm it=Z m->m≠n0->G'[m]?=G[m]?):HI v G' n0 it q:=by
 rcases h with h|⟨m,b,rfl,a,c⟩
 .show .O h
 .show .ρ #[m,b,rfl,a,(e m rfl a).G c]
def
X4{v:j'}{G:Gh}{a:U IV}{ps:U Pk}(h:Paired (HI v G n0) a ps)(e:∀m∈a.Ϗ cm,m≠n0->G'[m]?=G[m]?):Paired (HI v G' n0) a ps:=by
 induction h with|nil=>show .ώ|@cons d q a ps f t g=>
  apply .Α (f.ζ λm b c=>e m (by rw[Ic,b];show Bb) c) (g λm b c=>e m ?_ c);rw[Ic];cases cm d with
  |none=>show b
  |some x=>show Bk _ b
def
lx{v:j'}{G:Gh}{b:U IV}{ps:U Pk}{it:IV}{q:Pk}(h:Paired (HI v G n0) b ps)(c:HI v G n0 it q):Paired (HI v G n0) (b++[it]) (ps++[q]):=by
 induction h with
 |nil=>show .Α c .ώ
 |cons a _ d=>show .Α a d
def
Hd.add{v:j'}{N:Y}{G:Gh}{b:U IV}{ps:U Pk}(h:Hd v N G n0 b ps)(o:N<=G.a)(e:∀i,i<G.a->G1[i]?=G[i]?)(j:G.a<=G1.a){it:IV}{q:Pk}(p:∀k,(∀i,i≠n0->k[i]?=G1[i]?)->HI v k n0 it q)(hc:∀m,cm it=Z m->G.a<=m/\m<G1.a)(n:n0<G.a):(∀ss:U IV,b.a<1000->Ke (Z n0) (Z (it,G1)) (ss,G1)=Z (.r .κ,G1.ξ n0 (.mix .l (b++[it]))))/\Hd v N (G1.ξ n0 (.mix .l (b++[it]))) n0 (b++[it]) (ps++[q]):=by
 let(c,r,s):=h.its;apply#[λss u=>?_,#[.O (by rw[Fh<|BM n j]),lx (X4 h.pr λm a g=>?_) (p _ λi t=>Dn<|B8 t),?_,λm a=>?_,λm a=>?_]]
 .erw[Ke,(e n0 n).trans r,Pe,s,if_pos (show b.length<Av from BM (show b.length<100000 by lia) (by ext))]
 .rw[Dn<|B8 g];show e m<|h.lt m a
 .rw[SG];apply Ge.Ϣ #[h.nd,?_,λx d y f z=>?_]
  .rw[Ic];cases cm it<;>simp
  .rw[Ic]at f;cases a:cm it with|none=>rw[a]at f;cases f|some m=>
    rw[a,List.filterMap_nil,Cg]at f;have:=(hc m a).1;have:=h.lt x d;lia
 .rw[Il];rw[SG]at a;rcases C0.mp a with a|a
  .show BM (h.lt m a) j
  .rw[Ic]at a;cases d:cm it with|none=>rw[d]at a;cases a|some x=>
    rw[d,List.filterMap_nil,Cg]at a;rw[a];show(hc x d).2
 .rw[SG]at a;rcases C0.mp a with a|a
  .show h.ge m a
  .rw[Ic]at a;cases d:cm it with|none=>rw[d]at a;cases a|some x=>
    rw[d,List.filterMap_nil,Cg]at a;rw[a];show BN o (hc x d).1
def
Hd.up{N:Y}{G:Gh}{a:U IV}{ps:U Pk}(h:Hd O' N G n0 a ps):Hd J' N G n0 a ps:=#[h.at',Paired.mapP h.pr λ_ _ z=>z.imp (λz=>.ρ<|z.resolve_left λz=>nomatch z.1) id,h.nd,h.lt,h.ge]
variable {c N:Y}{s0 s1 s2 s3 s4 s5 s10:IV}
def
ZA1{G:Gh}{e:U IV}{ps:U Pk}(h:Hd O' N G n0 e ps)(n:N<=G.a)(o:e.a<1000)(q:Pk)(s:q.2.2.1.a<=1000):∃(its':U IV) (t:IV) (G':Gh),Z6 ([s0,s1,s2,s3,s4,s5,.Y n0,‹q.1›,‹q.2.1›,.r (F0 q.2.2.1 q.2.2.2),s10],G)=.Q ([s0,s1,s2,s3,s4,s5,.Y n0,‹q.1›,‹q.2.1›,t,s10],G')/\Hd O' N G' n0 its' (ps++[q])/\its'.a=e.a+1/\G.a<=G'.a/\∀i,i≠n0->i<G.a->G'[i]?=G[i]?:=by
 let(a,j,c,b):=q;let(C,u,_):=h.its;let p:=(Bp.mp u).1;cases b with
 |true=>
  let(ap,hd):=h.add n (G1:=G) (λ_ _=>rfl) (Bg _) (it:=.tu [(.o a,J),(.o j,J),(F0 c J',J)]) (q:=(a,j,c,J')) (λ_ _=>.O<|.inr ⟨rfl,rfl⟩) (λm z=>nomatch z) p;let ap:=λf=>ap f o;apply#[_,.r<|F0 c J',_,?_,hd,by simp,by simp,λi g _=>Dn<|B8 g];change Z6 ([s0,s1,s2,s3,s4,s5,.Y n0,‹a›,‹j›,.r<|.S<|c.j aD,s10],G)=.Q ([s0,s1,s2,s3,s4,s5,.Y n0,‹a›,‹j›,.r<|.S<|c.j aD,s10],_)
  let ap:∀f:U IV,Ke (Z n0) (Z (.tu [(.o a,J),(.o j,J),(.S<|c.map aD,J)],G)) (f,G)=_:=ap;generalize c.map aD=V,G.set n0 (.mix .l<|e++[.tu [(.int a,J),(.int j,J),(F0 c J',J)]])=r at *;let tu:∀f:U IV,Lv (Z [‹a›,‹j›,.val<|.tup V]) (f,G)=Z (.tu [(.int a,J),(.int j,J),(.tup V,J)],G):=λf=>by
   erw[Lv,Pe,if_pos (show [IV.val<|.int a,.val<|.int j,.val<|.tup V].length<=Av from BN (show 3<=100000 by ext) (by ext))];rfl
  rwa[Z6,show Cy [.tup V,.ty "list"]=Z (.bl O')from rfl,Dt,Lw,tu,ap]
 |false=>
  let l1:(G++[Cl.Υ .l<|c.j aD]).a=G.a+1:=by simp
  let(ap,hd):=h.add n (G1:=G++[Cl.Υ .l<|c.map aD]) (λi g=>Fx g) (l1 ▸ Nat.le_succ _) (it:=.tu [(.o a,J),(.o j,J),(.κ,Z G.a)]) (q:=(a,j,c,O')) (λr y=>.ρ #[G.a,rfl,rfl,λz=>∅,by rw[y _ λz=>∅];simp]) (λm z=>by ext z;show#[Bg _,l1 ▸ Nat.lt_succ_self _]) p;apply#[_,.Y G.a,_,?_,hd,by simp,by simp,λi g k=>by rw[Dn<|B8 g,Fx k]];let A:Dg 2 (c.map aD)=J':=ZM λd hd=>by let(x,_,rfl):=Be.mp hd;ext x<;>rfl
  change Z6 ([s0,s1,s2,s3,s4,s5,.Y n0,‹a›,‹j›,.r<|.R<|c.j aD,s10],G)=.Q ([s0,s1,s2,s3,s4,s5,.Y n0,‹a›,‹j›,.Y G.a,s10],_)
  let B:=Zl (c.j aD) (by rw[Bx];show BN s (by ext));generalize c.j aD=V,(G++[Cl.Υ .l<|c.map aD]).set n0 (.mix .l<|e++[.tu [(.int a,J),(.int j,J),(.non,Z G.length)]])=r at *;let tu:∀f:U IV,Lv (Z [‹a›,‹j›,.cel G.length]) (f,G++[Cl.dat .l V])=Z (.tu [(.int a,J),(.int j,J),(.non,Z G.length)],G++[Cl.dat .l V]):=λf=>by
   erw[Lv,Pe,if_pos (show [IV.val<|.int a,.val<|.int j,.cel G.length].length<=Av from BN (show 3<=100000 by ext) (by ext))];rfl
  rwa[Z6,show Cy [.lst V,.ty "list"]=Z (.bl J')from rfl,Dt,GH,J2,B,jG,jL,A,Lw,tu,(λf=>ap f o)]
def
ly{qs0:U Pk}:∀(qs:U Pk){G:Gh}{a:U IV}{ps:U Pk}(d e f:IV),Hd O' N G n0 a ps->N<=G.a->G[c]?=Z (.Υ .l (qs0.j AT))->c≠n0->a.a+qs.a<1000->(∀q∈qs,q.2.2.1.a<=1000)->∃(its':U IV) (t u g:IV) (G':Gh),FE 7 8 9 c (.Υ .l (qs0.j AT)) Z6 (qs.j λq=>.r (AT q)) ([s0,s1,s2,s3,s4,s5,.Y n0,d,e,f,s10],G)=.Q ([s0,s1,s2,s3,s4,s5,.Y n0,t,u,g,s10],G')/\Hd O' N G' n0 its' (ps++qs)/\its'.a=a.a+qs.a/\G.a<=G'.a/\∀i,i≠n0->i<G.a->G'[i]?=G[i]?
 |[],G,a,ps,d,e,f,h,_,hc,_,_,_=>#[a,d,e,f,G,by rw[Do,FE,if_pos hc],by rw[Eh];show h,rfl,Bg _,λ_ _ _=>rfl]
 |q::qs,G,a,ps,d,e,f,h,n,hc,o,v,p=>by
  rw[Ct]at v;let(K,g,F,w,y,l1,j,ex):=ZA1 (s0:=s0) (s1:=s1) (s2:=s2) (s3:=s3) (s4:=s4) (s5:=s5) (s10:=s10) h n ∅ q (p q Bb);let cl:=(Bp.mp hc).1;let(i2,z,A,B,C,E,r,L,k,m):=ly qs (ps:=ps++[q]) ‹q.1› ‹q.2.1› g y (BN n j) ((ex c o cl).G hc) o ∅ λx H=>p x<|Bk _ H;apply⟨i2,z,A,B,C,?_,by rw[Jm,Xq]at r;show r,by rw[Ct];lia,BN j k,λi s b=>(m i s<|BM b j).G<|ex i s b⟩;rw[AQ,FE,if_pos hc];rwa[Kc,w,E]
end
def
ZDe{G:Gh}{n:Y}{ss:U IV}(h:G[n]?=Z (.Υ .l xs))(a:xs.a<1000)(d:D):Hl (Z n) (Z d) (ss,G)=Z (.r .κ,G.ξ n (.Υ .l (xs++[d]))):=by
 erw[Hl,h,if_pos (show xs.length<Av from BM a (by ext))]
def Kx(L:AB)(q:Pk):Pk:=bif q.2.2.2 then q else(q.1,q.2.1,q.2.2.1++[((L.B q.1 []).B 0 []).B q.2.1 .κ],O')
variable {L:AB}(hL:BJ L){a m:Y}{s0 s2 s3 s4 s5 s10:IV}
include hL
def
ZxR{G:Gh}(s:G[a]?=Z (.Υ .l (L.j LD))){q:Pk}(o:DQ L m q)(E:m<=100){it:IV}(h:HI O' G n0 it q):∃(z:IV) (G':Gh),Kc it=Z [‹q.1›,‹q.2.1›,z]/\M1 ([s0,.Y a,s2,s3,s4,s5,.Y n0,‹q.1›,‹q.2.1›,z,s10],G)=.Q ([s0,.Y a,s2,s3,s4,s5,.Y n0,‹q.1›,‹q.2.1›,z,s10],G')/\HI O' G' n0 it (Kx L q)/\(∀i,cm it≠Z i->G'[i]?=G[i]?)/\G'.a=G.a:=by
 let(ax,j,f,b):=q;rcases h with(⟨z,_⟩|⟨e,rfl⟩)|⟨c,e,rfl,hc,g⟩
 .cases z
 .subst e;apply#[.r<|.tup<|f.map aD,G,rfl,?_,.inl<|.inr ⟨rfl,rfl⟩,λ_ _=>rfl,rfl];generalize f.j aD=V at *;rwa[M1,show Cy [.tup V,.ty "list"]=Z (.bl O')from rfl,Dt]
 .let e:b=O':=e;subst e;let(d,k,t):=o.ax;let(p,hp):=hL.jk d<|Ej k;let n1:=hp.n1;let n:=Ku k;let u:(L.B ax []).B 0 []=d[0]:=by rw[show L.B ax []=d by simp[C6,k],C6,BZ n1];rfl
  let v:Am (LD d) (.o 0)=Z (Af d[0]):=ZE (j:=0) (by rw[CW,BZ n1];rfl);let w:=Ni d[0] j (by rw[hp.ϧ _<|Fn n1,<- hp.wh];show t);let x:=Dz g;let ap:=λr=>ZDe (ss:=r) g (by rw[Bx];show Hg o.ln ∅) (aD<|d[0].B j .κ);let y:B4 2 (aD<|d[0].B j .κ)=J':=by cases d[0].B j .κ<;>rfl
  apply#[.Y c,G.ξ c<|.dat .l<|f.map aD++[aD<|d[0].getD j .non],rfl,?_,.inr ⟨c,rfl,rfl,hc,?_⟩,λi C=>Dn λz=>C (by rw[z];rfl),by simp]
  .clear g;generalize f.j aD=V,L.j LD=W,LD d=A,Af d[0]=B,aD (d[0].B j .κ)=H at *;rwa[M1,x,show Cy [.lst V,.ty "list"]=Z (.bl J')from rfl,Dt,Dz s,n,v,w,y,ap]
  .rw[Fh (Bp.mp g).1];change _=Z (Cl.Υ .l<|(f++[((L.B ax []).B 0 []).B j .κ]).j aD)
   rw[u,Er];rfl
def
lz{all:U IV}:∀(AF:U IV)(e:U Pk){G:Gh}(pre:U IV)(f:U Pk)(k n o:IV),Paired (HI O' G n0) AF e->Paired (HI O' G n0) pre f->all=pre++AF->(all.Ϗ cm).θ->(∀x∈all.Ϗ cm,x≠n0/\x≠a)->G[n0]?=Z (.mix .l all)->G[a]?=Z (.Υ .l (L.j LD))->m<=100->(∀q∈e,DQ L m q)->∃(s t u:IV) (G':Gh),FE 7 8 9 n0 (.mix .l all) M1 AF ([s0,.Y a,s2,s3,s4,s5,.Y n0,k,n,o,s10],G)=.Q ([s0,.Y a,s2,s3,s4,s5,.Y n0,s,t,u,s10],G')/\Paired (HI O' G' n0) all (f++e.j (Kx L))/\(∀i,i∉all.Ϗ cm->G'[i]?=G[i]?)/\G'.a=G.a
 |[],e,G,pre,f,k,n,o,v,hp,g,_,_,hc,_,_,_=>by
  ext v;show#[k,n,o,G,by rw[FE,if_pos hc],by rw[Do,Eh,g,Eh];show hp,λ_ _=>rfl,rfl]
 |w::AF,q::e,G,pre,f,k,n,o,.cons R v,hp,g,h,c,hc,C,p,hv=>by
  let(z,r,F,M,N,ex,K):=ZxR hL (s0:=s0) (s2:=s2) (s3:=s3) (s4:=s4) (s5:=s5) (s10:=s10) (n0:=n0) C (hv q Bb) p R;let d:∀x,cm w=Z x->x∈all.Ϗ cm:=λx b=>by
   rw[g,SG,Ic,b];simp
  let Q:r[n0]?=Z (.mix .l all):=(ex n0 λz=>(c n0<|d n0 z).1 rfl).trans hc;let T:r[a]?=Z (.dat .l<|L.map LD):=(ex a λz=>(c a<|d a z).2 rfl).trans C;let j:∀x,cm w=Z x->x∉pre.filterMap cm/\x∉AF.filterMap cm:=λx b=>by
   let nd:=h;rw[g,SG,Ic,b]at nd;let(_,n2,n3):=Ge.mp nd;show#[λp=>n3 x p x Bb rfl,(E7.mp n2).1]
  let y:=X4 (G':=r) hp λx b _=>ex x λz=>(j x z).1 b;let A:=X4 (G':=r) v λx b _=>ex x λz=>(j x z).2 b;let(s,t,u,P,Y',E,B,l2):=lz AF e (pre++[w]) (f++[Kx L q]) ‹q.1› ‹q.2.1› z A (lx y N) (by rw[g,Jm];rfl) h c Q T p λx b=>hv x<|Bk _ b;apply⟨s,t,u,P,?_,by rw[Jm]at E;show E,λi H=>(B i H).G<|ex i λz=>H<|d i z,l2.G K⟩;rw[FE,if_pos hc];erw[F,LQ,LR,M,Y']
end
def
ZAQ:Ff.Ϟ "plan"=O':=by symm
def
KS.mono{L:AB}{R rs:U Row}{a b q p:Y}{G:Gh}(k:KS L R rs gs a b q p G)(ex:∀i,i<G.a->G'[i]?=G[i]?):KS L R rs gs a b q p G':=by
 let d:∀{i:Y} {c:Cl},G[i]?=Z c->G'[i]?=Z c:=λ{i c} e=>(ex i (Bp.mp e).1).G e;let(t,f,g,h):=k.bs.bk;show#[#[k.bs.gl,k.bs.sp,k.bs.nd,k.bs.gn,k.bs.g12,t,d f,d g,h],k.pm,d k.la,d k.lr,d k.lk,k.gb,k.hz]
def
lA{v:j'}{G:Gh}{a:U IV}{ps:U Pk}(h:Paired (HI v G n0) a ps):∀x∈a.Ϗ cm,x≠n0:=by
 induction h with|nil=>show λ_ h=>nomatch h|@cons f q _ _ d _ c=>
  intro x b;rcases d with(⟨_,rfl⟩|⟨_,rfl⟩)|⟨m,_,rfl,e,_⟩
  .show c x b
  .show c x b
  .rcases Bw.mp b with rfl|b
   .show e
   .show c x b
variable {L:AB}(hL:BJ L){a m N:Y}{s0 s2 s3 s4 s5 s10:IV}
include hL
def
ZFi{G:Gh}{b:U IV}{ps:U Pk}(h:Hd O' N G n0 b ps)(w:N<=n0)(p:G[a]?=Z (.Υ .l (L.j LD)))(r:a<N)(s:m<=100)(hv:∀q∈ps,DQ L m q)(d f g:IV):∃(j k n:IV) (G':Gh),Jt 7 8 9 M1 (Z n0) ([s0,.Y a,s2,s3,s4,s5,.Y n0,d,f,g,s10],G)=.Q ([s0,.Y a,s2,s3,s4,s5,.Y n0,j,k,n,s10],G')/\Hd O' N G' n0 b (ps.j (Kx L))/\(∀i,i<N->G'[i]?=G[i]?)/\G'.a=G.a:=by
 rcases h.at' with e|⟨rfl,e⟩
 .let(j,k,n,t,u,v,ex,o):=lz hL (s0:=s0) (s2:=s2) (s3:=s3) (s4:=s4) (s5:=s5) (s10:=s10) (a:=a) (n0:=n0) (m:=m) (all:=b) b ps [] [] d f g h.pr .ώ rfl h.nd (λx c=>#[lA h.pr x c,λz=>by have:=h.ge x c;lia]) e p s hv;apply#[j,k,n,t,?_,#[.O<|(ex n0 λz=>lA h.pr n0 z rfl).G e,v,h.nd,λx c=>o ▸ h.lt x c,h.ge],λi y=>ex i λz=>by have:=h.ge i z;lia,o];erw[Jt,e,Gk,u]
 .have:=h.pr;ext this;show#[d,f,g,G,by erw[Jt,e,Gk,Do,FE,if_pos],#[.ρ #[rfl,e],.ώ,h.nd,h.lt,h.ge],λ_ _=>rfl,rfl]
end
def
lB(ps:U Pk):AZ 12 (.R (ps.j AT))=J':=by
 show(ps.j AT).Ϛ (AZ 11)=J'
 rw[Dr];intro d hd;let((x,j,a,b),_,rfl):=Be.mp hd;have:(a.j aD).Ϛ (AZ 9)=J':=by simp[Ho]
 ext b<;>simpa[AT,F0,AZ]using this
def
lC(o:O (U Y×Y)):AZ 12 (bD o)=J':=by
 cases o with
 |none=>rfl
 |some x=>simp[bD,AZ,Ak]
def
ZAg{d:D}(h:AZ 12 d=J'):Co d d=Z (.bl J'):=by
 erw[Co,FY,h,HZ,if_true,Tu 12 d h]
def
lD{d:D}(h:AZ 12 d=J'):Cp d d=Z (.bl O'):=by
 rw[X2 h h,Tu 12 d h];rfl
def
X5{a b:U D}(h:a.a+b.a<=1000):Zt (.S a) (.S b)=Z (.S (a++b)):=by
 have:a.a+b.a<=Av:=BN (BN h (by decide:1000<=100000)) (by ext);erw[Zt,if_pos this]
variable {L:AB}{R rs:U Row}{a b q p c:Y}{G:Gh}(k:KS L R rs gs a b q p G)(hl:R.a<64){e:U Y}(he:CN L e)
include k hl he
def
KS.call{ps:U Pk}(hp:ps.a<=4){m:Y}(c:m<=100)(hv:∀x∈ps,DQ L m x)(vp:C8 2 G (.Y n0)=#v[ps.j AT])(ss:U IV):DZ "Book" "plan" M0 (Z b) (Z [.r (Ak e),.Y n0]) (ss,G)=Z (.r (bD (E4 L ps R gs e)),G):=by
 let(t,a,_,_):=k.bs.bk;erw[DZ,Pe,a,show ES "Book" "plan" (Cd L (rs.map Ze) t)=J' by rwa[ES,ZAQ],(Bp.mp a).1,and_self,if_true,k.plan hl he hp c hv vp]
def
KS.due2{ps:U Pk}(hp:ps.a<=4){m:Y}(a:m<=100)(hv:∀x∈ps,DQ L m x):OL [#v[L.j LD],#v[ps.j AT]]=Z (.φ ((AW L.a).j λk=>BH (Di L ps k)))/\MZ [#v[L.j LD],#v[R.j Ze],#v[gs.j Ak],.r (.R ((AW L.a).j λk=>BH (Di L ps k))),.r (Ak e)]=Z (.r (bD (E4 L ps R gs e))):=#[ZyD k.bs.gl hp hv,k.due hl he hp a hv]
def
ZDw(f:c<G.a){ps:U Pk}(hc:G[c]?=Z (.Υ .l (ps.j AT)))(hp:ps.a<=3)(hv:∀x∈ps,DQ L 50 x):∃(d:U IV) (s t u:IV) (z:D) (G':Gh),RU ([.Y b,.Y a,.Y q,.Y p,.r (Ak e),.Y c,.no,.no,.no,.no,.no],G)=O2 ([.Y b,.Y a,.Y q,.Y p,.r (Ak e),.Y c,.Y G.a,s,t,u,.r z],G')/\Hd O' G.a G' G.a d ps/\d.a<=3/\G.a<G'.a/\∀i,i<G.a->G'[i]?=G[i]?:=by
 let y:Hd O' G.a (G++[Cl.Υ .l []]) G.a [] []:=#[.ρ #[rfl,by simp],.ώ,List.nodup_nil,λ_ h=>(nomatch h),λ_ h=>nomatch h];let m:(G++[Cl.Υ .l []])[c]?=Z (.Υ .l<|ps.map AT):=Fx f ▸ hc;let(d,s,t,u,w,N,A,l1,K,ex):=ly (s0:=.cel b) (s1:=.cel a) (s2:=.cel q) (s3:=.cel p) (s4:=.val<|Ak e) (s5:=.cel c) (s10:=.no) (c:=c) (qs0:=ps) ps .no .no .no y (by simp) m (Cq f) (by simp;lia) λx P=>BN (hv x P).ln (by ext);rw[EJ]at A;let ex:∀i,i<G.a->w[i]?=G[i]?:=λi H=>(ex i (Cq H) (by simp;lia)).G<|Fx H;let o:=k.mono ex;let vp:=A.vw;let r:=λY'=>o.call hl he ∅ (by ext) hv vp Y';let(ds,S):=o.due2 hl he (show ps.a<=4 by lia) (show 50<=100 by ext) hv;let(g,F,n,eb):=ZwJ k.bs.gl ps R k.hz e;rw[eb]at r S;let va:=Dz o.la;let vr:=Dz o.lr;let vg:=Dz o.lk;let M:C8 2 w (.Y c)=#v[ps.j AT]:=Dz<|(ex c f).trans hc;let np:=lD<|lB ps;let nb:=lD<|lC<|some (g,n);let B:Cy [Ak g,.ty "tuple"]=Z (.bl J'):=rfl;let C:Zt (Ak g) (.tup [.int n])=Z (.tup<|(g.map λj:Y=>D.o j)++[.o n]):=X5 (by simp;have:=k.bs.gn g F;have:=k.bs.gl.n4;lia);let cp:Z4 (Zc 0) (λ_=>Z J') iw [.no] ((g.j λj:Y=>D.o j)++[.o n])=Z (((g++[n]).j λ_=>O').j D.bl):=by
  rw[show(g.j λj:Y=>D.o j)++[.o n]=(g++[n]).j λj:Y=>D.o j by simp,B7];show Zw _ (λ_=>D.bl O') _ λj _=>#[[‹j›],rfl,rfl]
 let an:La [.R<|((g++[n]).map λ_=>O').j D.bl]=Z (.bl O'):=by
  erw[La,Na,Ec];rw[show((g++[n]).j λ_=>O').any id=O' by simp]
 let q1:=Zl ((g.j λj:Y=>D.o j)++[.o n]) (by simp;have:=k.bs.gn g F;have:=k.bs.gl.n4;lia);let hw:Jt 7 8 9 Z6 (Z c) ([.Y b,.Y a,.Y q,.Y p,.r<|Ak e,.Y c,.Y G.a,.no,.no,.no,.no],G++[Cl.Υ .l []])=.Q ([.Y b,.Y a,.Y q,.Y p,.r<|Ak e,.Y c,.Y G.a,s,t,u,.no],w):=by
  erw[Jt,m,Gk,B7];show N
 apply#[d,s,t,u,.S [Ak g,.o n],w,?_,A,by simp at l1;lia,by simp at K;lia,ex];rw[show bD (Z (g,n))=.S [Ak g,.o n]from rfl]at *;generalize (AW L.a).j (λk=>BH<|Di L ps k)=V,(g.map λj:Y=>D.o j)++[.o n]=GN,((g++[n]).j λ_=>O').j D.bl=BF,L.j LD=W,ps.j AT=PS,R.j Ze=RR,gs.j Ak=GG,Ak g=Q,Ak e=E at *;rwa[RU,Xf,ix,Zl ([]:U D) (by simp),jG,jL,show Dg 2 []=J' from rfl,Xe,iy,hw,Xd,iz,r,Xc,iA,vp,M,np];rwa[Xb,iB,show Cy [.tup [Q,.int n],.ty "tuple"]=Z (.bl J')from rfl,Dt,show Zo [.tup [Q,.int n]]=Z (.int 2)from rfl,show Cp (.int 2) (.int 2)=Z (.bl O')from rfl,show Am (.tup [Q,.int n]) (.int 0)=Z Q from rfl,B,Xa,iC,Zh,show Am (.tup [Q,.int n]) (.int 0)=Z Q from rfl,E1,EZ,show Fz (.tup [Q,.int n]) (Z 1) J=Z (.tup [.int n])from rfl,C,q1,show ∀xs,Zq 1 [] xs=[.no]from λ_=>rfl,cp,an,Dt];rwa[W9,iD,va,vr,vg,M,ds,EI,S,nb]
end
def
ZGI{G:Gh}{b t:Y}{L a:AB}{R c:U D}(h:G[b]?=Z (Cd L R t))(h':G[b]?=Z (Cd a c t')):t=t':=by
 rw[h]at h';have:=E6 h';simp[Cd]at this;show this.2.2
def
ZEj{L:AB}(h:BJ L){q:Pk}(g:DQ L 50 q):DQ L 51 (Kx L q):=by
 let(ax,j,f,b):=q;let(c,e,k):=g.ax;let i:f.a<=50:=g.ln;cases b with|true=>show#[#[c,e,k],g.vg,Jo i]|false=>
  let(p,hp):=h.jk c<|Ej e;apply⟨⟨c,e,k⟩,λa d=>?_,?_⟩
  .rcases C0.mp (show a∈f++[((L.B ax []).B 0 []).B j .κ]from d)with d|d
   .show g.vg a d
   .rw[Cg]at d;rw[d,show L.B ax []=c by simp[C6,e],show c.B 0 []=c[0]'hp.n1 by rw[C6,BZ hp.n1];rfl];show VG.Χ hp (Fn _) j
  .show(f++[((L.B ax []).B 0 []).B j .κ]).a<=51
   rw[E8,JU];lia
variable {L:AB}{R rs:U Row}{a b q p c:Y}{G:Gh}{N:Y}(k:KS L R rs gs a b q p G)(hl:R.a<64){e:U Y}(he:CN L e)
include k hl he
def
ZCm(F:a<N)(hb:b<N)(hq:q<N)(M:p<N)(K:∀t,G[b]?=Z (Cd L (rs.j Ze) t)->t<N){f:U IV}{ps:U Pk}(h:Hd O' N G N f ps)(Q:f.a<=3)(hN:N<G.a)(hp:ps.a<=3)(hv:∀x∈ps,DQ L 50 x)(t7 t8 t9:IV)(z:D):∃G':Gh,O2 ([.Y b,.Y a,.Y q,.Y p,.r (Ak e),.Y c,.Y N,t7,t8,t9,.r z],G)=.ϱ (.r (.bl J')) G'/\N<=G'.a/\∀i,i<N->G'[i]?=G[i]?:=by
 let hL:=k.bs.gl;let(u7,u8,u9,o,e2,h2,r,l2):=ZFi hL (s0:=.Y b) (s2:=.Y q) (s3:=.Y p) (s4:=.r<|Ak e) (s5:=.Y c) (s10:=.r z) h (Bg _) k.la F (show 50<=100 by ext) hv t7 t8 t9;obtain⟨g,T⟩:∃g,L[0]?=Z g:=#[L[0]'hL.n1,BZ _];let(pp,P):=hL.jk g<|Ej T;obtain⟨s,lst,el⟩:∃s lst,g=s++[lst]:=#[g.dropLast,g.getLast (by have:=P.n1;intro z;rw[z]at this;simp at this),(List.dropLast_concat_getLast _).Ζ];let u:lst∈g:=by rw[el];simp
 let q0:DQ L 51 (0,0,[hd lst],O'):=#[#[g,T,Fk _],λx n=>by
  rw[Cg.mp n,<- X3];show VG.Χ P u 0,show 1<=51 by ext]
 let(ap,h3):=h2.up.add ∅ (G1:=o) (λ_ _=>rfl) (Bg _) (it:=.r<|AT (0,0,[hd lst],O')) (q:=(0,0,[hd lst],O')) (λ_ _=>.O<|.inl ⟨rfl,rfl⟩) (λm z=>nomatch z) ∅;let ap:=λv=>ap v ∅;let d:∀i,i<N->(o.ξ N<|.mix .l<|f++[.val<|AT (0,0,[hd lst],O')])[i]?=G[i]?:=λi Q=>by rw[Dn<|Ii Q];show r i Q
 let l3:(o.ξ N<|.mix .l<|f++[.r<|AT (0,0,[hd lst],O')]).a=G.a:=by rw[Il,l2]
 generalize eG:o.ξ N (.mix .l<|f++[.r<|AT (0,0,[hd lst],O')])=Y' at *;let(t,hB,hT,hne):=k.bs.bk;let w:KS L R rs gs a b q p Y':=#[#[hL,k.bs.sp,k.bs.nd,k.bs.gn,k.bs.g12,t,(d b hb).G hB,(d t<|K t hB).G hT,hne],k.pm,(d a F).G k.la,(d q hq).G k.lr,(d p M).G k.lk,k.gb,k.hz];let H:(ps.j (Kx L)++[(0,0,[hd lst],O')]).a<=4:=by simp;lia
 let X:∀x∈ps.j (Kx L)++[(0,0,[hd lst],O')],DQ L 51 x:=λx n=>by
  rcases C0.mp n with n|n
  .let(y,hy,rfl):=Be.mp n;show ZEj hL<|hv y hy
  .rw[Cg.mp n];show q0
 let vp:=h3.vw;generalize ps.j (Kx L)++[(0,0,[hd lst],O')]=j at *;let cal:=λv=>w.call hl he H (by ext) X vp v;let(ds,dd):=w.due2 hl he H (show 51<=100 by ext) X;let va:=Dz w.la;let va1:=Nc<|(r a F).G k.la;let vr:=Dz w.lr;let vg:=Dz w.lk;let ne:=ZAg<|lC<|E4 L j R gs e;let fb:=k6<|E4 L j R gs e;let i0:Am (.R<|L.j LD) (.o 0)=Z (LD g):=Ku T;let i1:Am (LD g) (.o (-1))=Z (Af lst):=by
  rw[el,LD,Er];show jH _ _
 let i2:=Gq<|P.ln lst u;let f1:B4 1 (.S [.o 0,.o 0,.R [aD<|hd lst]])=J':=by cases hd lst<;>rfl
 let ap:∀v:U IV,Ke (Z N) (Z (.r<|.tup [.int 0,.int 0,.lst [aD<|hd lst]],o)) (v,o)=Z (.val .non,Y'):=ap;apply#[Y',?_,∅,d];generalize (AW L.length).map (λk=>BH<|Di L j k)=V,L.map LD=W,j.map AT=PS,R.map Ze=RR,gs.map Ak=GG,bD (E4 L j R gs e)=S,Ak e=E,LD g=A,Af lst=B,aD (hd lst)=C at *;rwa[O2,iE,e2,W8,iF,va1,i0,K8,i1,i2,show Zf (Z [C])=Z [C]from Zl _ (by simp),show ∀x y z:D,Zf (Z [x,y,z])=Z [x,y,z]from λ_ _ _=>Zl _ (by simp),f1,ap];rwa[W7,iG,cal,Lu,va,vr,vg,vp,ds,EI,dd,fb,ne]
def
ZAa(f:c<G.a)(m:a<G.a)(j:b<G.a)(n:q<G.a)(g:p<G.a){ps:U Pk}(hc:G[c]?=Z (.Υ .l (ps.j AT)))(hp:ps.a<=3)(hv:∀x∈ps,DQ L 50 x):∃G':Gh,LC [.Y b,.Y a,.Y q,.Y p,.r (Ak e),.Y c] G=Z (.r (.bl J'),G')/\G.a<=G'.a/\∀i,i<G.a->G'[i]?=G[i]?:=by
 let(o,r,s,u,z,F,v,w,d,y,ex):=ZDw k hl he f hc hp hv;let(A,B,C,h):=ZCm (k.ζ ex) hl he m j n g (λt E=>by
  let(M,H,K,_):=k.bs.bk;have:=ZGI H<|(ex b j).Ζ.G E;rw[<- this];show(Bp.mp K).1) w d y hp hv r s u z
 show#[A,G5 (fi rfl<|v.trans B) rfl,C,λi d=>(h i d).G<|ex i d]
end
def
ZEf{l:U At}(h:1<=l.a):l[0]?=Z (hd l):=by
 cases l with
 |nil=>simp at h
 |cons a r=>rfl
def
ZD0{f:Bj}{p:Y}(c:GL f p)(g:f.a<40){l:U At}(h:l∈f){z:At}(hv:Jw (aD z)=J'/\Sm (aD z))(q:z∉f.j hd):GL (f++[z::l.Ψ 1]) p:=by
 let i:=c.p1;let e:=c.ϧ l h;apply c.app g (by rw[Ct,QM];lia) (λa j=>?_) q λk b m a n o=>?_
 .rcases Bw.mp j with rfl|j
  .show hv
  .show c.r l h a<|List.mem_of_mem_drop j
 .cases m with
  |zero=>
   ext n;rw[ZEf<|c.ϧ k b ▸ i]at o;show absurd (Be.Ϣ ⟨k,b,E6 o⟩) q
  |succ m=>
   rw[Gd,Tg]at n;let d:=c.fn l h k b (m+1) a (by rw[Ma];show n) o;rw[List.drop_succ_cons,List.drop_drop,<- d];congr 1;lia
def
lE(l:U At):Fz (Af l) (Z 1) J=Z (Af (l.Ψ 1)):=jJ l 0
def D0:W':=10^41
def FB(b:Bj):V':=∀l∈b,∀a∈l,∀i,a=.o i->i<D0\/∃n j:Y,n<b.a/\i=D0+n+1000*j
def
FB.of0{b:Bj}(h:M7 b):FB b:=λl c a d i e=>.O<|Int.lt_trans (h l c a d i e) (by ext)
def
FB.fresh{b:Bj}(h:FB b)(c:b.a<40)(m:Y){l:U At}{a:At}(d:l∈b)(f:a∈l):a≠.o (D0+b.a+1000*m):=by
 intro e;rcases h l d a f _ e with h|⟨n,j,g,i⟩<;>lia
def
FB.app{b:Bj}(h:FB b){l:U At}(r:∀a∈l,(∃c∈b,a∈c)\/∃m:Y,a=.o (D0+b.a+1000*m)):FB (b++[l]):=by
 intro x d a k i e;rw[E8,JU];let f:∀c∈b,a∈c->i<D0\/∃n j:Y,n<b.a+1/\i=D0+n+1000*j:=λc o p=>by
  rcases h c o a p i e with h|⟨n,j,g,q⟩
  .show .O h
  .show .ρ #[n,j,Nat.lt_succ_of_lt g,q]
 rcases C0.mp d with d|d
 .show f x d k
 .rw[Cg.mp d]at k;rcases r a k with⟨c,g,q⟩|⟨m,g⟩
  .show f c g q
  .rw[g]at e;ext e;show .ρ #[b.a,m,Nat.lt_succ_self _,rfl]
def
ZFN{l:U At}(h:1<=l.a):hd l∈l:=by
 cases l with
 |nil=>simp at h
 |cons a r=>show Bb
variable {ls:Bj}{p:Y}(hg:GL ls p)(hf:FB ls)(h40:ls.a<40)
include hg hf h40
def
lF(m:Y):At.o (D0+ls.a+1000*m)∉ls.j hd:=λh=>by
 let(l,a,e):=Be.mp h;show hf.Ξ h40 m a (ZFN<|hg.ϧ l a ▸ hg.p1) e
def
ZGq{l:U At}(c:l∈ls):GL (ls++[.o (D0+ls.a)::l.Ψ 1]) p/\FB (ls++[.o (D0+ls.a)::l.Ψ 1]):=by
 let d:=lF hg hf h40 0;apply#[ZD0 hg h40 c #[rfl,trivial] d,hf.app λa b=>?_];rcases Bw.mp b with rfl|b
 .show .ρ #[0,congrArg At.o ∅]
 .show .O #[l,c,List.mem_of_mem_drop b]
def
ZG9:GL (ls++[(AW p).j λj:Y=>At.o (D0+ls.a+1000*j)]) p/\FB (ls++[(AW p).j λj:Y=>At.o (D0+ls.a+1000*j)]):=by
 let hp:=hg.p1;apply#[hg.app h40 (by simp) (λa b=>?_) ?_ λg c m a d f=>?_,hf.app λa b=>?_]
 .let(j,_,rfl):=Be.mp b;show#[rfl,trivial]
 .cases p with|zero=>simp at hp|succ p=>
   rw[Qd];show lF hg hf h40 0
 .rw[CW]at d;let(j,_,e):=B2.mp d;show absurd e.Ζ<|hf.Ξ h40 j c<|Ej f
 .let(j,_,rfl):=Be.mp b;show .ρ #[j,rfl]
end
def
Nj(w:W'){n:Y}(h:0<n):∃i:Y,w%(n:W')=(i:W')/\i<n:=#[(w%(n:W')).ν,by rw[LS<|FH _ ∅],by have:=Hr w (show(0:W')<n by lia);have:=FH w (show(n:W')≠0 by lia);lia]
def
Iq{L:AB}{k:Y}{M:Bj}(a:k<L.a):(L.ξ k M)[k]?=Z M:=Fh a
def
lH{X:D}{b:W'}(c:Am X (.o 3)=Z (.o b)):∀{M:AB},(∀l∈M,∃p,GL l p)->∃cs:U At,Z4 (Zc 0) (λ_=>Z J') Q0 [.no,.r X] (M.j LD)=Z (cs.j aD)/\cs.a=M.a/\AM M cs
 |[],_=>#[[],rfl,rfl,.ώ]
 |l::M,good=>by
  let(cs,d,f,h):=lH c λl i=>good l<|Bk _ i;let(p,g):=good l Bb;rw[Q0]at d;let e:=Z2 b (l.a:W') (by have:=g.n1;lia);let(u,j,a):=Nj b g.n1;rw[j]at e;let k:Am (LD l) (.o u)=Z (Af l[u]):=ZE (by rw[CW,BZ a];rfl);apply#[hd l[u]::cs,?_,by simp[f],.Α (Be.Ϣ #[_,Fn a,rfl]) h];rwa[AQ,Z4,Zc,Q0,c,show Zo [LD l]=Z (.int l.length) by simp,e,k,Gq<|g.ln _<|Fn a,d]
def
Zz7{L:AB}{a k:Y}{G:Gh}{b:Bj}{N:U At}{p:Y}{y:W'}{ws:U W'}(h:BJ L)(r:G[a]?=Z (.Υ .l (L.j LD)))(hw:ws.a=4)(hL:L[k]?=Z b)(w:GL (b++[N]) p)(C:hd N=.o y):∃(n:U At) (m:W') (G':Gh),AM (L.ξ k (b++[N])) n/\Q1 ([.Y a,#v[ws.j D.o],‹k›,.r (LD b),‹y›,.r (Af N),.no],G)=.ϱ (.r (.S [.o k,Af N,Ze (n,m)])) G'/\G'[a]?=Z (.Υ .l ((L.ξ k (b++[N])).j LD))/\G.a<=G'.a/\∀i,i<G.a->i≠a->G'[i]?=G[i]?:=by
 let E:=(Bp.mp hL).1;let la:=(Bp.mp r).1;let h4:=h.n4;let H:BJ (L.ξ k<|b++[N]):=h.ξ k w;let s:=w.n6;let t:Zt (LD b) (.R [Af N])=Z (LD<|b++[N]):=by
  show(if(b.j Af).a+[Af N].a<=Av then Z (D.R<|b.j Af++[Af N])else J)=_
  rw[if_pos<|BN (show _<=100 by simp;simp at s;lia) (by ext)];simp[LD]
 let R:Ek ((L.j LD).j IV.r).a (k:W')=Z k:=by
  erw[Ek,Bx];rw[if_pos ∅,if_pos ∅];rfl
 let lk:(L.j LD).ξ k (LD<|b++[N])=(L.ξ k<|b++[N]).j LD:=by rw[List.map_set]
 obtain⟨j,g⟩:∃j,G.ξ a (.Υ .l<|(L.ξ k<|b++[N]).j LD)=j:=#[_,rfl];let x:j[a]?=Z (.Υ .l<|(L.ξ k<|b++[N]).j LD):=g ▸ Hv r;let l1:j.a=G.a:=by rw[<- g,Il]
 let F:(L.ξ k<|b++[N])[k]?=Z (b++[N]):=Iq E;let K:(L.ξ k<|b++[N]).a=L.a:=Il;generalize L.ξ k (b++[N])=M at *;let z:Am (.R<|ws.j D.o) (.o 3)=Z (.o<|ws.B 3 0):=Hq (by ext) ∅;generalize ws.B 3 0=B at *;let(c,Q,c2,T):=lH z H.jk;let q:=Zl (M.j LD) (by simp;lia);obtain⟨o,f⟩:∃o,j++[.Υ .l<|(c.ξ k<|.o y).j aD]=o:=#[_,rfl];let P:(j++[Cl.Υ .l<|c.j aD]).ξ G.a (.Υ .l<|(c.j aD).ξ k<|.o y)=o:=by
  rw[<- f,<- l1,List.set_append_right _ _<|Bg _,Nat.sub_self,List.map_set];rfl
 let u:Ek ((c.j aD).j IV.r).a (k:W')=Z k:=by
  erw[Ek,Bx];rw[if_pos ∅,if_pos ∅];rfl
 let Y':o[G.a]?=Z (.Υ .l<|(c.ξ k<|.o y).j aD):=by rw[<- f,<- l1];simp
 let fr:∀v:W',B4 2 (.S [.o k,Af N,.S [Af<|c.set k<|.int y,.int v]])=J':=λv=>ZM λd hd=>by
  rcases Bw.mp hd with rfl|hd
  .rfl
  rcases Bw.mp hd with rfl|hd
  .show FL 2 N
  rcases Cg.mp hd with rfl
  show ZM λd hd=>by
   rcases Bw.mp hd with rfl|hd
   .show FL 2 _
   rcases Cg.mp hd with rfl
   rfl
 apply#[c.ξ k<|.int y,B%1000-500,o,?_,?_,?_,?_,λi h1 h2=>?_]
 .have:∀{M:AB} {c:U At} {k:Y} {b:Bj},AM M c->M[k]?=Z (b++[N])->AM M (c.ξ k<|.o y):=by
   intro M c k b hs;induction hs generalizing k with|nil=>show λ_=>.ώ|@cons l Ls a as t1 t2 ih=>
    intro e;cases k with
    |zero=>ext e;show .Α (by simp[C]) t2
    |succ k=>show .Α t1<|ih (by exists e)
  show this T F
 .rwa[Q1,eQ,t,Pd<|b++[N],Ox,r,show Gk (.dat .l<|L.map LD)=Z ((L.map LD).map IV.val)from rfl,R,show ∀A:D,setIt (.dat .l<|L.map LD) k (.val A)=.dat .l ((L.map LD).set k A)from λ_=>rfl,lk,g,eW,eR,Dz x,jG,jL,show Dg 2 (c.map aD)=J' from ZM λd hd=>by let(a,_,rfl):=Be.mp hd;ext a<;>rfl,Zh,q,show Zq 1 [1] [.val<|.lst<|M.map LD,#v[ws.map D.int],‹k›,.val<|LD b,‹y›,.val<|Af N,.no]=[.no,#v[ws.map D.int]]from rfl,Q,l1,eV,eS,show(j++[Cl.dat .l<|c.map aD])[G.length]?=Z (.dat .l<|c.map aD) by rw[<- l1];simp,show Gk (.dat .l<|c.map aD)=Z ((c.map aD).map IV.val)from rfl,u,show ∀A:D,setIt (.dat .l<|c.map aD) k (.val A)=.dat .l ((c.map aD).set k A)from λ_=>rfl,P,eU,eT,Dz Y',z,Z2 B 1000 (by ext),show DC [.lst<|(c.set k<|.int y).map aD]=Z (Af<|c.set k<|.int y)from rfl,fr,Ze]
 .rw[<- f,Fx ∅];show x
 .rw[<- f];simp;lia
 .rw[<- f,Fx ∅,<- g,Ev h2]
def
lI:HN (.o 10) (.o 41)=Z (.o D0):=by
 show(if KG 10 41 then Z (D.o<|10^(41:W').ν)else J)=_
 rw[if_pos #[by ext,by ext,by ext]];rfl
def
nwB(T:W')(p:Y)(hp:p<=4):Z4 (Zc 0) (λ_=>Z J') QZ [.no,‹T›] ((AW p).j λk:Y=>D.o k)=Z (((AW p).j λj:Y=>At.o (T+1000*j)).j aD):=by
 rw[B7];show Zw (b:=Zc 0) (e:=QZ) (ρ:=[.no,‹T›]) (λk:Y=>D.o k) (aD∘λj:Y=>At.o<|T+1000*j) (AW p) λj _=>#[[‹j›,‹T›],rfl,by
  let e:=GS (x:=1000) (y:=(j:W')) (by left;decide);rwa[QZ,e];rfl]
structure Gr(L:AB)(a:Y)(G:Gh)(k:Y)(ls:Bj)(N key:List At)(m:W')(G':Gh):V' where
 hL:L[k]?=Z ls
 gl:∃p,GL ls p/\GL (ls++[N]) p
 fb:FB (ls++[N])
 sp:AM (L.ξ k (ls++[N])) key
 at_:G'[a]?=Z (.Υ .l ((L.ξ k (ls++[N])).j LD))
 le:G.a<=G'.a
 ex:∀i,i<G.a->i≠a->G'[i]?=G[i]?
def
ZxZ{L:AB}{a:Y}{G:Gh}(h:BJ L)(f:G[a]?=Z (.Υ .l (L.j LD)))(t:∀b∈L,b.a<40/\FB b){ws:U W'}(hw:ws.a=4):∃k b N d m G',Gr L a G k b N d m G'/\Q3 [.Y a,#v[ws.j D.o]] G=Z (.r (.S [.o (k:Y),Af N,Ze (d,m)]),G'):=by
 obtain⟨F,M⟩:∃w,Am (.R<|ws.j D.o) (.o 0)=Z (.o w):=#[_,Hq (by ext) ∅];obtain⟨K,Q⟩:∃w,Am (.R<|ws.j D.o) (.o 1)=Z (.o w):=#[_,Hq (by ext) ∅];obtain⟨x,T⟩:∃w,Am (.R<|ws.j D.o) (.o 2)=Z (.o w):=#[_,Hq (by ext) ∅];let P:Zo [.R<|L.j LD]=Z (.o L.a):=by simp
 let y:=Z2 F (L.a:W')<|LU.Ϣ h.n1;let(k,hi,hk):=Nj F h.n1;rw[hi]at y;let hL:L[k]?=Z L[k]:=BZ hk;generalize L[k]=b at *;let(g,Y'):=t b<|Ej hL;let(p,e):=h.jk b<|Ej hL;let n1:=e.n1;let p4:=e.p4;let i1:Am (.R<|L.j LD) (.o k)=Z (LD b):=ZE (by rw[CW,hL];rfl);let i:Zo [LD b]=Z (.o b.a):=by simp
 let z:=Z2 K (b.a:W') ∅;let(u,hu,n):=Nj K n1;rw[hu]at z;let xu:Am (LD b) (.o u)=Z (Af b[u]):=ZE (by rw[CW,BZ n];rfl);let mu:b[u]∈b:=Fn n;generalize b[u]=l at *;let hlp:=e.ϧ l mu;let ad:Zt (.S [.o<|D0+b.length]) (Af<|l.drop 1)=Z (Af<|.int (D0+b.length)::l.drop 1):=ZGR [.int<|D0+b.length] (l.drop 1) (by simp;lia);let fl:=λN=>FL 2 N;let m3:=Z2 x 3 (by ext);let r:=GU (x%3) 0;obtain⟨N,s,o⟩:∃N,(GL (b++[N]) p/\FB (b++[N])/\hd N=.o (D0+b.a))/\Q2 ([.Y a,#v[ws.j D.o],.no,.no,.no,.no,.no],G)=Q1 ([.Y a,#v[ws.j D.o],‹k›,.r<|LD b,‹D0+b.a›,.r<|Af N,.no],G):=by
  by_cases c:x%3=0
  .let(H,R):=ZG9 e Y' g;apply#[_,#[H,R,?_],?_]
   .cases p with
    |zero=>show absurd e.p1 (by ext)
    |succ p=>rw[Qd];show congrArg At.o ∅
   .let nb:=nwB (D0+b.a) p p4;generalize (AW p).j (λj:Y=>At.o<|D0+b.length+1000*j)=N at *;let q:=Zl ((AW p).map λk:Y=>D.o k) (by simp;lia);let ll:Zo [Af<|.o (D0+b.a)::l.Ψ 1]=Z (.o (p:Y)):=by
     change Z (D.o ((At.o (D0+b.a)::l.Ψ 1).j aD).a)=_
     have:=e.p1;rw[Bx,Ct,QM,show l.a-1+1=p by lia]
    rw[decide_eq_true c]at r;rwa[Q2,UX,UO,Dz f,M,P,y,UW,UP,Nc f,i1,Pd b,UV,UQ,lI,i,UU,UR,Q,z,xu,E1,EZ,lE l,ad,fl,UT,US,T,m3,r,ll,Hm p ∅,Zh,q,show ∀A B C E:Sl,Zq 1 [4] [A,B,C,E,‹D0+b.length›,.val<|Af<|.int (D0+b.length)::l.drop 1,.no]=[.no,‹D0+b.length›]from λ_ _ _ _=>rfl,nb,show DC [.lst<|N.map aD]=Z (Af N)from rfl]
  .let(H,R):=ZGq e Y' g mu;apply#[_,#[H,R,rfl],?_];rw[decide_eq_false c]at r;rwa[Q2,UX,UO,Dz f,M,P,y,UW,UP,Nc f,i1,Pd b,UV,UQ,lI,i,UU,UR,Q,z,xu,E1,EZ,lE l,ad,fl,UT,US,T,m3,r]
 let(d,m,G',s1,s2,s3,s4,s5):=Zz7 h f hw hL s.1 s.2.2;show#[k,b,N,d,m,G',#[hL,#[p,e,s.1],s.2.1,s1,s3,s4,s5],G5 (fi rfl<|o.G s2) rfl]
def
CN.set{L:AB}{g:U Y}{k:Y}{b a:Bj}(h:CN L g)(hL:L[k]?=Z b)(e:wh a=wh b):CN (L.ξ k a) g:=CN.of (by exists h.1) λi c f=>by
  let d:i<L.a:=by exists c
  have:=h.2 (L[i],g[i])<|List.mem_iff_getElem.Ϣ ⟨i,by simp;lia,by simp⟩;rw[List.getElem_set];split
  .next z=>
   subst z;rw[BZ d]at hL;ext hL;rw[e];show this
  .show this
def
DQ.set{L:AB}{m k:Y}{q:Pk}{d a:Bj}(h:DQ L m q)(hL:L[k]?=Z d)(e:wh a=wh d):DQ (L.ξ k a) m q:=by
 let(M,b,f):=h.ax;apply#[?_,h.vg,h.ln];by_cases c:k=q.1
 .subst c;rw[hL]at b;ext b;show#[a,Fh (Bp.mp hL).1,e ▸ f]
 .show#[M,by rw[Dn c];show b,f]
def
lJ(L:AB)(k:Y)(M:Bj):zg (L.ξ k M)=zg L:=by
 erw[zg,List.map_set];apply(Jc);intro i;by_cases c:k=i
 .subst c;by_cases h:k<L.a
  .rw[Fh (by exists h)];simp[h]
  .rw[List.ϳ (by simp;lia),List.ϳ (by simp;lia)]
 .rw[Dn c]
def
KS.grow{L:AB}{R rs:U Row}{a b q p:Y}{G:Gh}(s:KS L R rs gs a b q p G)(y:a≠q)(z:a≠p){k:Y}{c:Bj}{N A:U At}{m:W'}(g:Gr L a G k c N A m G1)(B:c.a<40):∃n,OU [.Y b,‹k›,.r (Af N)] G1=Z (.r .κ,n)/\KS (L.ξ k (c++[N])) R rs gs a b q p n/\G1.a=n.a/\(∀i,i<G.a->i≠a->i≠b->n[i]?=G[i]?)/\wh (c++[N])=wh c:=by
 let(t,C,o,d):=s.bs.bk;let u:∀{x:Y} {X:U D},G[x]?=Z (.Υ .l X)->x≠b:=λv e=>by rw[e,C]at v;ext v
 let f:=(g.ex b ((Bp.mp C).1)<|B8<|u s.la).trans C;let h:=(g.ex t ((Bp.mp o).1) (λe=>by rw[e,s.la]at o;ext o)).G o;let(Q,j,w):=g.gl;apply#[_,(ZBG f h s.bs.gl g.hL B w),#[#[s.bs.gl.ξ k w,λr E=>(s.bs.sp r E).ξ (λa H=>Er ▸ Ie _ H) g.hL,s.bs.nd,λg P=>by rw[Il];show s.bs.gn g P,s.bs.g12,t,Hv f,by rw[ZAr g.hL s.bs.sp,Ev<|B8 d];show h,d],s.pm,by rw[Ev<|u s.la];show g.at_,by rw[Ev<|u s.lr];show(g.ex q ((Bp.mp s.lr).1)<|B8 y).trans s.lr,by rw[Ev<|u s.lk];show(g.ex p ((Bp.mp s.lk).1)<|B8 z).trans s.lk,λx v=>(s.gb x v).ξ g.hL<|w.wh.trans j.wh.symm,by rw[lJ];show s.hz],by simp,λi F M K=>by rw[Ev K];show g.ex i F M,(w.wh.G j.wh.Ζ)]
def
Zvb:Ff.Ϟ "forget"=O':=by symm
def
ZBA:Ff.Ϟ "grow"=O':=by symm
def
Zyp{L:AB}{R T:U D}:Lo "Book" "is_kept" (.r (BD L R T))=J':=rfl
variable {L:AB}{R T:U D}{b:Y}{rs:U Row}{g:U Y}
def
Zxr(b:LA [#v[L.j LD],.r (Ak g)]=Z (.r (.bl J'))):VX [.r (BD L R (Zb (AN L rs gs))),.r (Ak g)]=Z (.r (.bl (decide (g∈gs)))):=by
 let l1:=IL (L:=L) (R:=R) (T:=Zb<|AN L rs gs);let c:=L0 (L:=L) (R:=R) (T:=Zb<|AN L rs gs);let a:=XG L rs O' gs g;apply Zx rfl ?_;generalize Ak g=e,D.R (Zb<|AN L rs gs) .d=TT,BD L R (Zb<|AN L rs gs)=B at *;change VW [.r B,.r e]=_
 rw[Bool.false_bne]at a;rwa[VW,l1,c,b,a]
end
variable {L:AB}{G:Gh}{b t:Y}{rs:U Row}{g:U Y}
variable(h:BJ L)(hg:CN L g)(h0:G[b]?=Z (Cd L (rs.j Ze) t))(ht:G[t]?=Z (.Υ .d (Zb (AN L rs gs))))
include h hg h0 ht
def
Zuy(k:g∈gs)(hz:g≠zg L):OS [.Y b,.r (Ak g)] G=Z (.r .κ,G.ξ t (.Υ .d (Zb (AN L rs (gs.erase g))))):=by
 let l:=Zxr (R:=rs.j Ze) (rs:=rs) (gs:=gs) (Ss h hg);rw[decide_eq_true k]at l;let l1:=IL (L:=L) (R:=rs.j Ze) (T:=Zb<|AN L rs gs);let m:=Xt h;let n:=ZFj g<|zg L;rw[decide_eq_false hz]at n;rw[XQ]at m;let o:=XO (x:=Ak g) h0 ht;let p:=ZGA (x:=Ak g) h0 ht;let c:=XN (xs:=[.Y b,.r<|Ak g]) h0;let f:=ZW<|AN L rs gs;let hok:=GX<|gk g;rw[Gu]at hok;let i:=Su L rs (gk g) gs;let hv:=Pb L rs gs g;rw[if_pos k]at hv;let a:=kw L rs g gs;let q:Lo "Book" "is_kept" (.r<|BD L (rs.j Ze)<|Zb<|AN L rs gs)=J':=Zyp;generalize AN L rs (gs.erase g)=j at *;generalize Ak g=r,Ak (zg L)=Y',AN L rs gs=s,BD L (rs.j Ze) (Zb<|AN L rs gs)=B at *;let e:V5 ([.Y b,.r r],G)=.Q ([.Y b,.r r],G.ξ t<|.Υ .d<|Zb j):=by
  erw[V5,o,p,HU,Zg,Za,Zi,DN,Df,Bi,Bd,Gd,Hs,DB,Ec,q,l,l1,m,n,UB,Dt,CP,DA,AI,if_true,Bool.not_true,jT,C9,Zr,show Bq ([.cel b,.val r],G) 0=Z b from rfl,c,jE,jO,MG _,QL,ht,f,hok,i,dJ,HZ,hv,a,DY]
 show G5 (fi rfl e) rfl
end
def
ZE4(k:U At)(ks:Bj):CF J' (Af k) (.R (ks.j Af))=Z (.bl (!decide (k∈ks))):=by
 let a:FS (Af k) (ks.j Af)=decide (k∈ks):=by
  unfold FS;induction ks with|nil=>rfl|cons b ks f=>
   rw[AQ,List.any_cons,f,XP];by_cases c:b=k
   .subst c;simp
   .have:¬ k=b:=λe=>c e.Ζ;simp[c,this]
 let g:(ks.j Af).Ϛ (AZ 12)=J':=by
  rw[Dr];intro d hd;let(l,_,rfl):=Be.mp hd;show O3 11 l
 erw[CF,FY,O3 11 k,g,a,HZ,if_true]
def
ZFH(g:U Y)(gs:U (U Y)):CF J' (Ak g) (.R (gs.j Ak))=Z (.bl (!decide (g∈gs))):=by
 have:=ZE4 (gk g)<|gs.map gk;rw[Gu,B7,show Af∘gk=Ak from funext Gu]at this;rw[this];congr 3;rw[decide_eq_decide,Be];show#[λ⟨x,a,e⟩=>LZ e ▸ a,λh=>#[g,h,rfl]]
def
BS.setq{L:AB}{rs:U Row}{b q:Y}{G:Gh}{X Y':U D}(s:BS L rs gs b G)(a:G[q]?=Z (.Υ .l X)):BS L rs gs b (G.ξ q (.Υ .l Y')):=by
 let(t,d,f,c):=s.bk;show#[s.gl,s.sp,s.nd,s.gn,s.g12,t,(Ev (λe=>by rw[<- e,d]at a;ext a)).G d,(Ev (λe=>by rw[<- e,f]at a;ext a)).G f,c]
variable {L:AB}{R rs:U Row}{a b q p:Y}{G:Gh}
def
KS.nb(s:KS L R rs gs a b q p G){x:Y}{X:U D}(c:G[x]?=Z (.Υ .l X)):x≠b:=λe=>by
 let(t,d,_):=s.bs.bk;rw[e,d]at c;ext c
def
KS.pour1(s:KS L R rs gs a b q p G)(f:a≠q)(g:q≠p){r:Row}(k:AM L r.1)(o:R.a<63):∃j G1 rs',LB [.Y b,#v[[Dc (J',r)]]] G=Z (.Y j,G1)/\G1[q]?=Z (.Υ .l (R.j Ze))/\KS L (R++[r]) rs' gs a b q p (G1.ξ q (.Υ .l ((R++[r]).j Ze)))/\G.a<=G1.a/\∀i,i<G.a->i≠b->G1[i]?=G[i]?:=by
 let t:=s.pm.ϗ;let(j,G1,e,d):=kO s.bs (cs:=[(J',r)]) (by simp;lia) (λc hc=>by rw[Cg.mp hc]) #[#[k,λz=>nomatch z],trivial];let h:=(d.ex q (s.nb s.lr)<|(Bp.mp s.lr).1).trans s.lr;apply⟨j,G1,_,e,h,⟨d.bs.setq h,(s.pm.append_right [r]).trans (ZC Dh<|rs++[r]).symm,(Ev f).trans<|(d.ex a (s.nb s.la)<|(Bp.mp s.la).1).trans s.la,Hv h,(Ev<|B8 g).trans<|(d.ex p (s.nb s.lk)<|(Bp.mp s.lk).1).trans s.lk,s.gb,s.hz⟩,?_,λi m n=>d.ex i n m⟩;have:=(Bp.mp d.tl).1;have:=d.jb;lia
def
KS.forget{g:U Y}(s:KS L R rs (gs++[g]) a b q p G)(n:a≠p)(o:q≠p)(f:g≠zg L):∃G1,OS [.Y b,.r (Ak g)] (G.ξ p (.Υ .l (gs.j Ak)))=Z (.r .κ,G1)/\KS L R rs gs a b q p G1/\G1.a=G.a/\∀i X,G[i]?=Z (.Υ .l X)->i≠p->G1[i]?=G[i]?:=by
 let(t,v,c,j):=s.bs.bk;let u:g∈gs++[g]:=by simp
 let nd:=s.bs.nd;let w:g∉gs:=λz=>(Ge.mp nd).2.2 g z g (by simp) rfl;let y:(gs++[g]).erase g=gs:=by rw[List.erase_append_right _ w];simp
 let tp:t≠p:=λe=>by rw[e,s.lk]at c;ext c
 let k:(G.ξ p<|.dat .l<|gs.map Ak)[b]?=_:=(Ev<|B8<|s.nb s.lk).trans v;let e:=Zuy s.bs.gl (s.gb g u) k ((Ev tp).trans c) u f;rw[y]at e;let ex:∀i X,G[i]?=Z (.dat .l X)->i≠p->((G.set p<|.dat .l<|gs.map Ak).set t<|.dat .d<|Zb<|AN L rs gs)[i]?=G[i]?:=λi X A B=>by rw[Ev<|(λm z=>by rw[z,c]at m;ext m) A,Ev B]
 let r:zg L∈gs:=(C0.mp s.hz).resolve_right λz=>f (Cg.mp z).Ζ;show#[_,e,#[#[s.bs.gl,s.bs.sp,(Ge.mp nd).1,λx h=>s.bs.gn x<|Ie _ h,by have:=s.bs.g12;simp at this;lia,t,(Ev j).trans k,Hv<|(Ev tp).trans c,j],s.pm,(ex a _ s.la n).trans s.la,(ex q _ s.lr o).trans s.lr,(Ev<|(λm z=>by rw[z,c]at m;ext m) s.lk).G (Hv s.lk),λx h=>s.gb x<|Ie _ h,r],by simp,ex]
end
def Nk:IS->RI:=λs=>(Ka (Gg LC (Zi ((Bq s 2).j .Y) (Zi ((Bq s 1).j .Y) (Zi ((Bq s 7).j .Y) (Zi ((Bq s 3).j .Y) (Zi (((jE 0 (λa=>Bd a 5)) s).j .r) (Zi ((Bq s 9).j .Y) (Z []))))))) s) (λs=>Zr (ER (xD ((jE 2 (λ_=>Z (.bl O'))) s) s)) (λs=>.Q s)) (λs=>.Q s) s)
def Ph:IS->RI:=λs=>Zr (C9 (jT 2 (λa=>EB (AI ((Za Fa (Zk Zo (λa=>Zi (Df a 3) (Z []))) (λ_=>Z (.o 1))) a)) (AI ((Za Co (Za ZI (Za EE (λa=>Bi a 8) (λ_=>Z (.o 4))) (λ_=>Z (.o 2))) (λ_=>Z (.o 1))) a))) s) (Zr (DY (MM "Book" "forget" OS (Bq s 2) (OA (Bq s 3) s) s) s) (λs=>Zr (Nk s) (λs=>.Q s))) (.Q s)) (λs=>.Q s)
def X6:IS->RI:=λs=>Zr (DY (DZ "Book" "pour" LB (Bq s 2) (Zi (((jE 1 (λa=>ZA (Zf ((Zi (DN ((Za Zt (λa=>(Zf ((Zi (DN (Z (.Ι "+"))) (Z [])).J Zm)).j D.S) (λa=>Bi a 10)) a)) (Z [])).J Zm)))) s).j .r) (Z [])) s) s) (λs=>Zr (DY (Hl (Bq s 7) ((jE 0 (λa=>Bd a 10)) s) s) s) (λs=>Zr (Nk s) Ph))
def SH:IS->RI:=λs=>Zr (C9 (jT 2 (λa=>AI ((Za Co (Za ZI (Za EE (λa=>Bi a 8) (λ_=>Z (.o 2))) (λ_=>Z (.o 2))) (λ_=>Z (.o 1))) a)) s) (Zr (ML 11 12 10 (Gg Q3 (Zi ((Bq s 1).j .Y) (Zi (((jE 0 (Zg ZP (λa=>Zi (Df a 8) (Zi (DN (Z (.o 4))) (Z []))))) s).j .r) (Z []))) s) s) (λs=>Zr (DY (DZ "Book" "grow" OU (Bq s 2) (Zi (((jE 0 (λa=>Bd a 11)) s).j .r) (Zi (((jE 0 (λa=>Bd a 12)) s).j .r) (Z []))) s) s) (λs=>Zr (Nk s) (λs=>.Q s)))) (.Q s)) X6
def X7:IS->RI:=λs=>Zr (Nk s) (λs=>Zr (CU 10 (xD ((jE 2 (Zg OH (λa=>Zi (Df a 1) (Zi (DN ((Za EE (λa=>Bi a 8) (λ_=>Z (.o 11))) a)) (Z []))))) s) s) s) SH)
def
X8:RV=λs=>Zr (CU 8 (xD ((jE 2 (Za Zt (Za EE (Zg ZT (λρ=>Zi (Df ρ 0) (Zi (DN ((Za Zt (λ_=>Z (.o 6)) (λρ=>Bi ρ 4)) ρ)) (Z [])))) (λ_=>Z (.o 7))) (λρ=>Bi ρ 4))) s) s) s) (λs=>Zr (CU 9 (xC .l (jG 1 (En Rl (λρ=>Zi (Df ρ 1) (Zi (Df ρ 8) (Z [])))) s) s) s) (λs=>Zr (CU 5 (xD ((jE 2 (Zg MR (λρ=>Zi (Df ρ 1) (Zi (DN ((Za Zt (Za EE (λρ=>Bi ρ 8) (λ_=>Z (.o 5))) (λρ=>Bi ρ 4)) ρ)) (Z []))))) s) s) s) (λs=>Zr (C9 (jT 2 (λρ=>EB (AI ((Za Co (Za ZI (λρ=>Bi ρ 8) (λ_=>Z (.o 3))) (λ_=>Z (.o 0))) ρ)) (AI ((Za Cp (λρ=>Bi ρ 9) (λρ=>ZA (Zf ((Z []).J Zm)))) ρ))) s) (Zr (CU 5 (xD ((jE 2 (Za Am (λρ=>Bi ρ 3) (Za ZI (Za EE (λρ=>Bi ρ 8) (λ_=>Z (.o 3))) (Zk Zo (λρ=>Zi (Df ρ 3) (Z [])))))) s) s) s) (λs=>.Q s)) (.Q s)) X7))):=rfl
structure LI(M N:Y)(L:AB)(R rs:List Row)(gs:List (List Y))(a b q p:Y)(G:Gh):V' where
 ks:KS L R rs gs a b q p G
 rl:R.a<=N
 lad:∀ls∈L,ls.a<=M/\FB ls
 z:∃r,gs=zg L::r
 aq:a≠q
 ap:a≠p
 qp:q≠p
structure PC(L:AB)(ps:List Pk)(a q p c:Y)(G:Gh):V' where
 hc:G[c]?=Z (.Υ .l (ps.j AT))
 hp:ps.a<=3
 hv:∀x∈ps,DQ L 50 x
 ca:c≠a
 cq:c≠q
 cp:c≠p
variable {M N:Y}{L:AB}{R rs:U Row}{a b q p c:Y}{G:Gh}{ps:U Pk}{e:U Y}{x0 x4 x6 x10 x11 x12:IV}{w:W'}
def
SI(k:KS L R rs gs a b q p G)(f:R.a<64)(g:CN L e)(d:PC L ps a q p c G):∃G':Gh,Nk ([x0,.Y a,.Y b,.Y p,x4,.r (Ak e),x6,.Y q,‹w›,.Y c,x10,x11,x12],G)=.Q ([x0,.Y a,.Y b,.Y p,x4,.r (Ak e),x6,.Y q,‹w›,.Y c,x10,x11,x12],G')/\G.a<=G'.a/\∀i,i<G.a->G'[i]?=G[i]?:=by
 let(t,h,_):=k.bs.bk;let(G',j,l,m):=ZAa k f g (Bp.mp d.hc).1 (Bp.mp k.la).1 (Bp.mp h).1 (Bp.mp k.lr).1 (Bp.mp k.lk).1 d.hc d.hp d.hv;show#[G',by rwa[Nk,j,Ka],l,m]
def
LI.mono(s:LI M N L R rs gs a b q p G)(ex:∀i,i<G.a->G'[i]?=G[i]?):LI M N L R rs gs a b q p G':=#[s.ks.ζ ex,s.rl,s.lad,s.z,s.aq,s.ap,s.qp]
def
PC.mono(s:PC L ps a q p c G)(ex:∀i,i<G.a->G'[i]?=G[i]?):PC L ps a q p c G':=#[(ex c (Bp.mp s.hc).1).G s.hc,s.hp,s.hv,s.ca,s.cq,s.cp]
def
ZBp{a:Type}(l:U a)(x:a):(l++[x]).Τ ((l++[x]).a-1)=l:=by
 rw[E8,JU,Nat.add_sub_cancel,cJ];simp
def
ZFn(s:LI M N L R rs gs a b q p G)(P:N<64)(B:CN L e)(f:PC L ps a q p c G):∃gs' G',Ph ([x0,.Y a,.Y b,.Y p,x4,.r (Ak e),x6,.Y q,‹w›,.Y c,x10,x11,x12],G)=.Q ([x0,.Y a,.Y b,.Y p,x4,.r (Ak e),x6,.Y q,‹w›,.Y c,x10,x11,x12],G')/\LI M N L R rs gs' a b q p G':=by
 let C:=s.rl;let vp:=Dz s.ks.lk;let k:Zo [.R<|gs.j Ak]=Z (.o gs.a):=by simp
 let h:Fa (.o gs.a) (.o 1)=Z (.bl<|decide<|(1:W')<gs.a):=rfl;let l:=GR w 4 (by ext) (by ext);let m:=Z2 (w/4) 2 (by ext);let i:=GU (w/4%2) 1;by_cases j:(1:W')<gs.a
 .rw[decide_eq_true j]at h;by_cases v:w/4%2=1
  .rw[decide_eq_true v]at i;let(r,hz):=s.z;rcases r.eq_nil_or_concat with rfl|⟨n,g,rfl⟩
   .rw[hz]at j;simp at j
   let hz:gs=(zg L::n)++[g]:=by rw[hz];simp
   let o:g≠zg L:=λz=>by
    let nd:=s.ks.bs.nd;rw[hz,z]at nd;show(Ge.mp nd).2.2 (zg L) Bb (zg L) (by simp) rfl
   obtain⟨d,x⟩:∃d,d=zg L::n:=#[_,rfl];rw[<- x]at hz;subst hz;let(t,y,Y',E):=s.ks.bs.bk;let(G1,H,A,l1,ex):=s.ks.forget s.ap s.qp o;let(S,F,l2,u):=SI (x0:=x0) (x4:=x4) (x6:=x6) (x10:=x10) (x11:=x11) (x12:=x12) (w:=w) A ∅ B #[(ex c _ f.hc f.cp).G f.hc,f.hp,f.hv,f.ca,f.cq,f.cp];let K:((d++[g]).j Ak)[((d++[g]).j Ak).a-1]?=Z (Ak g):=by simp
   let Q:((d++[g]).j Ak).Τ (((d++[g]).j Ak).a-1)=d.j Ak:=Er ▸ ZBp _ _;let T:=s.ks.lk;apply#[d,S,?_,#[A.ζ u,C,s.lad,#[n,x],s.aq,s.ap,s.qp]];rwa[Ph,vp,k,h,l,m,i,T,OA,K,Q,MM,y,show ES "Book" "forget" (Cd L (rs.map Ze) t)=J' by rwa[ES,Zvb],(Bp.mp y).1,and_self,H,F]
  .rw[decide_eq_false v]at i;show#[gs,G,by rwa[Ph,vp,k,h,l,m,i],s]
 .rw[decide_eq_false j]at h;show#[gs,G,by rwa[Ph,vp,k,h,l,m,i],s]
end
variable {M N:Y}{L:AB}{R rs:U Row}{a b q p c:Y}{G:Gh}{ps:U Pk}{e:U Y}{x0 x4 x6 x10 x11 x12:IV}{w:W'}
def
lK(s:LI M N L R rs gs a b q p G)(K:N+1<64)(m:CN L e)(f:PC L ps a q p c G){r:Row}(x:AM L r.1):∃rs' gs' G',X6 ([x0,.Y a,.Y b,.Y p,x4,.r (Ak e),x6,.Y q,‹w›,.Y c,.r (Ze r),x11,x12],G)=.Q ([x0,.Y a,.Y b,.Y p,x4,.r (Ak e),x6,.Y q,‹w›,.Y c,.r (Ze r),x11,x12],G')/\LI M (N+1) L (R++[r]) rs' gs' a b q p G':=by
 let k:=s.ks;let Q:=s.rl;let(t,n,T,y):=k.bs.bk;let(j,o,rs',A,B,u,l1,i):=k.pour1 s.aq s.qp x ∅;let ad:Zt (.S [.Ι "+"]) (Ze r)=Z (Dc (J',r)):=X5 (a:=[.Ι "+"]) (b:=[Af r.1,.o r.2]) (show 3<=1000 by ext);let fr:B4 1 (.R [Dc (J',r)])=J':=ZM λd hd=>by
  rw[Cg.mp hd];show ZM λd hd=>by
   rcases Bw.mp hd with rfl|hd
   .rfl
   rcases Bw.mp hd with rfl|hd
   .show FL 1 _
   rcases Cg.mp hd with rfl
   rfl
 let sz:(R.j Ze).a<Av:=BM (show _<100 by simp;lia) (by ext);let C:R.j Ze++[Ze r]=(R++[r]).j Ze:=by simp
 let v:LI M (N+1) L (R++[r]) rs' gs a b q p (o.ξ q<|.Υ .l<|(R++[r]).j Ze):=#[u,by simp;lia,s.lad,s.z,s.aq,s.ap,s.qp];let g:PC L ps a q p c (o.ξ q<|.Υ .l<|(R++[r]).j Ze):=#[(Ev f.cq).G<|(i c ((Bp.mp f.hc).1)<|k.nb f.hc).G f.hc,f.hp,f.hv,f.ca,f.cq,f.cp];let(P,E,Y',h):=SI (x0:=x0) (x4:=x4) (x6:=x6) (x10:=.r<|Ze r) (x11:=x11) (x12:=x12) (w:=w) u (by have:=v.rl;lia) m g;let(gs',H,S,F):=ZFn (x0:=x0) (x4:=x4) (x6:=x6) (x10:=.r<|Ze r) (x11:=x11) (x12:=x12) (w:=w) (v.ζ h) ∅ m (g.ζ h);apply#[rs',gs',H,?_,F];rwa[X6,ad,Xj,fr,DZ,n,show ES "Book" "pour" (Cd L (rs.map Ze) t)=J' by rwa[ES,kM],(Bp.mp n).1,and_self,A,Hl,B,sz,C,E,S]
end
variable {M N:Y}{L:AB}{R rs:U Row}{a b q p c:Y}{G:Gh}{ps:U Pk}{e:U Y}{x0 x4 x6 x10 x11 x12:IV}{w:W'}
def
lL(r:Row)(m:Y):B4 m (Ze r)=J':=ZM λd hd=>by
 rcases Bw.mp hd with rfl|hd
 .show FL m _
 rcases Cg.mp hd with rfl
 rfl
def
N1(s:LI M N L R rs gs a b q p G)(hN:N+1<64)(hM:M<40)(he:CN L e)(d:PC L ps a q p c G){r:Row}(hr:AM L r.1):∃L' R' rs' gs' W F K G',SH ([x0,.Y a,.Y b,.Y p,x4,.r (Ak e),x6,.Y q,‹w›,.Y c,.r (Ze r),x11,x12],G)=.Q ([x0,.Y a,.Y b,.Y p,x4,.r (Ak e),x6,.Y q,‹w›,.Y c,W,F,K],G')/\LI (M+1) (N+1) L' R' rs' gs' a b q p G':=by
 let k:=s.ks;let d2:=GR w 2 (by ext) (by ext);let m2:=Z2 (w/2) 2 (by ext);let H:=GU (w/2%2) 1;by_cases c2:w/2%2=1
 .rw[decide_eq_true c2]at H;let(ws,Q,hw,_):=M5 w 4 (by ext);let ut:∀x y z:D,Kc (.r<|.tup [x,y,z])=Z [.val x,.val y,.val z]:=λ_ _ _=>rfl;let(u,l,o,i,m,G1,g,eg):=ZxZ k.bs.gl k.la (λl h=>#[Hg (s.lad l h).1 hM,(s.lad l h).2]) hw;let A:=Ej g.hL;let(G2,e2,T,l2,P,ew):=k.grow s.aq s.ap g<|Hg (s.lad l A).1 hM;let(t,hB,hT,hbt):=k.bs.bk;let lb:=(Bp.mp hB).1;let lc:=(Bp.mp d.hc).1;let B:=(g.ex b lb<|B8<|k.nb k.la).G hB;let lb1:=(Bp.mp B).1;let hi:ES "Book" "grow" (Cd L (rs.j Ze) t)=J':=by rwa[ES,ZBA]
  let C:=he.ξ g.hL ew;let n:PC (L.ξ u<|l++[o]) ps a q p c G2:=#[(P c lc d.ca<|k.nb d.hc).trans d.hc,d.hp,λx j=>(d.hv x j).ξ g.hL ew,d.ca,d.cq,d.cp];let s2:LI (M+1) N (L.ξ u<|l++[o]) R rs gs a b q p G2:=#[T,s.rl,λx j=>by
   rcases cY j with j|rfl
   .show#[Jo (s.lad x j).1,(s.lad x j).2]
   .show#[by rw[E8,JU];show L8 (s.lad l A).1,g.fb],by rw[lJ];show s.z,s.aq,s.ap,s.qp]
  let(G3,e3,l3,E):=SI (x0:=x0) (x4:=x4) (x6:=x6) (x10:=.r<|Ze (i,m)) (x11:=‹u›) (x12:=.r<|Af o) (w:=w) T (by have:=s.rl;lia) C n;let(rs',gs',G4,e4,f):=lK (x0:=x0) (x4:=x4) (x6:=x6) (x11:=‹u›) (x12:=.r<|Af o) (w:=w) (s2.ζ E) hN C (n.ζ E) (r:=(i,m)) g.sp;apply#[_,_,rs',gs',.r<|Ze (i,m),‹u›,.r<|Af o,G4,?_,f];let Q:ZP [‹w›,‹4›]=Z #v[ws.j D.o]:=Q;clear s s2 f k T g d n;generalize Ze (i,m)=S,Ze r=Z0,Af o=Y',ws.j D.o=WS at *;rwa[SH,d2,m2,H,Q,MG,eg,ML,ut,DZ,B,hi,lb1,and_self,e2,e3,e4]
 .rw[decide_eq_false c2]at H;let(rs',gs',G4,e4,f):=lK (x0:=x0) (x4:=x4) (x6:=x6) (x11:=x11) (x12:=x12) (w:=w) s hN he d hr;show#[_,_,rs',gs',.r<|Ze r,x11,x12,G4,by rwa[SH,d2,m2,H,e4],f.ks,f.rl,λx j=>#[Jo (f.lad x j).1,(f.lad x j).2],f.z,f.aq,f.ap,f.qp]
def
ZGc(s:LI M N L R rs gs a b q p G)(n:N+1<64)(o:M<40)(k:CN L e)(l:PC L ps a q p c G):∃i j rs' gs' d f g G',X7 ([x0,.Y a,.Y b,.Y p,x4,.r (Ak e),x6,.Y q,‹w›,.Y c,x10,x11,x12],G)=.Q ([x0,.Y a,.Y b,.Y p,x4,.r (Ak e),x6,.Y q,‹w›,.Y c,d,f,g],G')/\LI (M+1) (N+1) i j rs' gs' a b q p G':=by
 let(z,t,l1,h):=SI (x0:=x0) (x4:=x4) (x6:=x6) (x10:=x10) (x11:=x11) (x12:=x12) (w:=w) s.ks (by have:=s.rl;lia) k l;let m:=s.ζ h;let(r,u,v):=ko s.ks.bs.gl<|w/11;let va:=Dz m.ks.la;let fr:=lL r 2;let(i,j,rs',gs',d,f,g,G',x,y):=N1 (x0:=x0) (x4:=x4) (x6:=x6) (x11:=x11) (x12:=x12) (w:=w) m n o k (l.ζ h) u;apply#[i,j,rs',gs',d,f,g,G',?_,y];rwa[X7,t,va,GR w 11 (by ext) (by ext),v,fr,x]
end
def
Zxa(ps:U Pk):Dg 1 (ps.j AT)=J':=ZM λd hd=>by
 let((ax,j,c,b),_,rfl):=Be.mp hd;show ZM λd hd=>by
  rcases Bw.mp hd with rfl|hd
  .rfl
  rcases Bw.mp hd with rfl|hd
  .rfl
  rcases Cg.mp hd with rfl
  ext b
  .show(!vk 1 .l&&Dg 1 (c.j aD))=J'
   rw[ZM λd hd=>by let(a,_,rfl):=Be.mp hd;ext a<;>rfl];rfl
  .show FL 1 c
def
ZD4(ps:U Pk):Cp (.R (ps.j AT)) (.R [])=Z (.bl (!ps.isEmpty)):=by
 let h:=lB ps;cases ps with|nil=>rfl|cons x ps=>
  erw[Cp,FY,h,show AZ 12 (.lst [])=J' from rfl,HZ,if_true];rfl
def
Pj(e:U Y):B4 2 (Ak e)=J':=by rw[<- Gu];show FL 2 _
def
ZB2{M N:Y}{L:AB}{R rs:U Row}{a b q p:Y}{G:Gh}(s:LI M N L R rs gs a b q p G)(hN:N+1<64)(hM:M<40)(ns:U W')(j:Y)(x5 x6 x8 x9 x10 x11 x12:IV):∃L' R' rs' gs' y5 y8 y9 f g h G',RV ([#v[ns.j D.o],.Y a,.Y b,.Y p,‹j›,x5,x6,.Y q,x8,x9,x10,x11,x12],G)=.Q ([#v[ns.j D.o],.Y a,.Y b,.Y p,‹j›,y5,x6,.Y q,y8,y9,f,g,h],G')/\LI (M+1) (N+1) L' R' rs' gs' a b q p G':=by
 let k:=s.ks;let S:=M4 #v[ns.j D.o] ns (.O rfl) (6+j) ∅;generalize ns.B _ 0=v at S;let Q:=GR v 7 (by ext) (by ext);let o:=Nc k.la;let la:=(Bp.mp k.la).1;let lq:=(Bp.mp k.lr).1;let lp:=(Bp.mp k.lk).1;obtain⟨w,hw⟩:∃w,v/7+(j:W')=w:=#[_,rfl];let ad:Zt (.o<|v/7) (.o j)=Z (.o w):=by rw[<- hw];rfl
 let(m,T,hp,hv):=Zwt k.bs.gl w;let P:=Zxa m;obtain⟨A,c⟩:∃A,G++[.Υ .l<|m.j AT]=A:=#[_,rfl];let hc:A[G.a]?=Z (.Υ .l<|m.j AT):=by rw[<- c];simp
 let F:=s.ζ (show ∀i,i<G.a->A[i]?=G[i]? from λi hi=>by rw[<- c,Fx hi]);let pc:PC L m a q p G.a A:=#[hc,hp,hv,∅,∅,∅];let t:=Dz F.ks.la;let Y':=Dz F.ks.lk;let d5:=GR w 5 (by ext) (by ext);let(e,he,ee):=kP k.bs.gl<|w/5+j;let m3:=Z2 w 3 (by ext);let B:=GU (w%3) 0;let K:=ZD4 m;let q0:Zf (Z ([]:U D))=Z []:=rfl;let g1:1<=gs.a:=by let(r,z):=s.z;rw[z];simp
 let mg:=Z2 (w/3) (gs.a:W') ∅;let(u,hu,C):=Nj (w/3) g1;rw[hu]at mg;let lg:Zo [.R<|gs.j Ak]=Z (.o gs.a):=by simp
 let xg:Am (.R<|gs.map Ak) (.int u)=Z (Ak gs[u]):=ZE (by rw[CW,BZ C];rfl);let hg:=k.gb gs[u]<|Fn C;generalize gs[u]=e' at *;let run:∀{e:U Y},CN L e->_:=λ{e} he=>ZGc (x0:=#v[ns.j D.o]) (x4:=‹j›) (x6:=x6) (x10:=x10) (x11:=x11) (x12:=x12) (w:=w) (e:=e) F hN hM he pc;let(L1,R1,E,H,f,g,h,G2,x,d):=run he;let(L2,R2,rs2,gs2,z10,z11,z12,G3,y,n):=run hg;clear s F pc k run;by_cases c3:w%3=0
 .rw[decide_eq_true c3]at B;cases hb:m.Φ with
  |false=>
   rw[hb]at K;apply#[L2,R2,rs2,gs2,.r<|Ak e',‹w›,.Y G.a,z10,z11,z12,G3,?_,n];clear d n x;generalize m.j AT=PP,gs.j Ak=GG,L.j LD=LL at *;rwa[X8,S,Q,ad,o,T,jG,jL,En,HJ,P,c,t,d5,ee,Pj,m3,B,Dz hc,q0,K,Y',GR w 3 (by ext) (by ext),lg,mg,xg,y]
  |true=>
   rw[hb]at K;apply#[L1,R1,E,H,.r<|Ak e,‹w›,.Y G.a,f,g,h,G2,?_,d];clear d n y;generalize m.j AT=PP,gs.j Ak=GG,L.j LD=LL at *;rwa[X8,S,Q,ad,o,T,jG,jL,En,HJ,P,c,t,d5,ee,Pj,m3,B,Dz hc,q0,K,x]
 .rw[decide_eq_false c3]at B;apply#[L1,R1,E,H,.r<|Ak e,‹w›,.Y G.a,f,g,h,G2,?_,d];clear d n y;generalize m.j AT=PP,gs.j Ak=GG,L.j LD=LL at *;rwa[X8,S,Q,ad,o,T,jG,jL,En,HJ,P,c,t,d5,ee,Pj,m3,B,x]
def G0(L:AB)(gs:U (U Y)):Gh:=[.Υ .l (L.j LD),Cd L [] 2,.Υ .d (Zb (AN L [] gs)),.Υ .l (gs.j Ak)]
structure GO(L:AB)(gs:List (List Y))(m:Y):V' where
 nd:gs.θ
 gb:∀g∈gs,CN L g
 z:∃r,gs=zg L::r
 le:gs.a<=m
def
Zvd{L:AB}(h:BJ L){m:Y}(o:GO L gs m)(M:m<12)(ns:U W')(j:Y)(K x6 u w A x10 x11 x12:IV):∃gs' Q,M2 ([#v[ns.j D.o],.Y 0,.Y 1,.Y 3,‹j›,K,x6,u,w,A,x10,x11,x12],G0 L gs)=.Q ([#v[ns.j D.o],.Y 0,.Y 1,.Y 3,‹j›,Q,x6,u,w,A,x10,x11,x12],G0 L gs')/\GO L gs' (m+1):=by
 let s:=M4 #v[ns.j D.o] ns (.O rfl) 5 (by ext);generalize ns.B (5:W').ν 0=v at s;let B:=GR v 6 (by ext) (by ext);let C:=GS (x:=3) (y:=(j:W')) (by left;decide);let(g,t,E):=kP h<|v/6+3*j;let H:=Pj g;let S:ES "Book" "keep" (Cd L [] 2)=J':=by rwa[ES,ZBr]
 let gl:=o.le;obtain⟨G,b⟩:∃G,G0 L gs=G:=#[_,rfl];let k:G[1]?=Z (Cd L [] 2):=by rw[<- b];rfl
 let F:G[2]?=Z (.Υ .d<|Zb<|AN L [] gs):=by rw[<- b];rfl
 let l1:=(Bp.mp k).1;let va:=Dz (show G[0]?=Z (.Υ .l<|L.j LD) by rw[<- b];rfl);let a:=ZFH g gs;by_cases c:g∈gs
 .let n:=ZBt (rs:=[]) h t k F c;let p:G[3]?=Z (.Υ .l<|gs.j Ak):=by rw[<- b];rfl
  let vp:=Dz p;rw[decide_eq_true c]at a;apply#[gs,.r<|Ak g,?_,o.nd,o.gb,o.z,Jo o.le];rw[b];generalize (C3 L g []).a=N,Ak g=R,gs.j Ak=P,L.j LD=Y' at *;rwa[M2,va,s,B,C,E,H,DZ,k,S,l1,and_self,n,vp,a]
 .let n:=ZyZ (rs:=[]) h t k F (λ_ z=>nomatch z) (by ext) (by ext) c ∅;rw[decide_eq_false c]at a;obtain⟨q,f⟩:∃q,G.ξ 2 (.Υ .d<|Zb<|AN L []<|gs++[g])=q:=#[_,rfl];rw[f]at n;let p:q[3]?=Z (.Υ .l<|gs.j Ak):=by rw[<- f,<- b];rfl
  let sz:(gs.j Ak).a<Av:=BM (show _<100 by simp;lia) (by ext);let e2:q.ξ 3 (.Υ .l<|gs.j Ak++[Ak g])=G0 L (gs++[g]):=by rw[<- f,<- b,G0,G0,Er];rfl
  apply#[gs++[g],.r<|Ak g,?_,?_,λx i=>?_,?_,by simp;lia]
  .rw[b];generalize (C3 L g []).a=N,Ak g=R,gs.j Ak=P,L.j LD=Y',G0 L (gs++[g])=G2 at *;rwa[M2,va,s,B,C,E,H,DZ,k,S,l1,and_self,n,Dz p,a,Hl,p,sz,e2]
  .show Ge.Ϣ #[o.nd,by simp,λx i y hy e=>c (by rw[<- Cg.mp hy,<- e];show i)]
  .rcases C0.mp i with i|i
   .show o.gb x i
   .rw[Cg.mp i];show t
  .let(r,hr):=o.z;show#[r++[g],by rw[hr];rfl]
def
lM{L:AB}(h:BJ L)(ns:U W'):∀(a:U Y){gs:U (U Y)}{m:Y},GO L gs m->m+a.a<=12->∀(x4 b x6 c d e x10 x11 x12:IV),∃gs' k g,FD 4 M2 (a.j λ(j:Y)=>D.o j) ([#v[ns.j D.o],.Y 0,.Y 1,.Y 3,x4,b,x6,c,d,e,x10,x11,x12],G0 L gs)=.Q ([#v[ns.j D.o],.Y 0,.Y 1,.Y 3,k,g,x6,c,d,e,x10,x11,x12],G0 L gs')/\GO L gs' (m+a.a)
 |[],gs,m,o,_,x4,b,_,_,_,_,_,_,_=>#[gs,x4,b,rfl,o]
 |j::a,gs,m,o,l,x4,b,x6,c,d,e,x10,x11,x12=>by
  rw[Ct]at l;let(i,g,n,p):=Zvd h o ∅ ns j b x6 c d e x10 x11 x12;let(f,q,r,s,t):=lM h ns a p ∅ ‹j› g x6 c d e x10 x11 x12;apply#[f,q,r,?_,by rw[Ct,show m+(a.a+1)=m+1+a.a by lia];show t];generalize ns.j D.o=S,G0 L gs=u,G0 L i=w,G0 L f=x at *;rwa[AQ,FD,n,s]
def
lN{a b q p:Y}(ns:U W'):∀(f:U Y){M N:Y}{L:AB}{R rs:U Row}{gs:U (U Y)}{G:Gh},LI M N L R rs gs a b q p G->N+f.a<64->M+f.a<=40->∀(x4 g x6 h i x10 x11 x12:IV),∃t k l m c d e G',FD 4 RV (f.j λ(j:Y)=>D.o j) ([#v[ns.j D.o],.Y a,.Y b,.Y p,x4,g,x6,.Y q,h,i,x10,x11,x12],G)=.Q ([#v[ns.j D.o],.Y a,.Y b,.Y p,t,k,x6,.Y q,l,m,c,d,e],G')
 |[],_,_,_,_,_,_,G,_,_,_,x4,g,x6,h,i,x10,x11,x12=>#[x4,g,h,i,x10,x11,x12,G,rfl]
 |j::f,M,N,L,R,rs,gs,G,s,u,w,x4,g,x6,h,i,x10,x11,x12=>by
  rw[Ct]at u w;let(K,Q,x,y,k,l,m,c,d,e,T,z,A):=ZB2 s ∅ ∅ ns j g x6 h i x10 x11 x12;let(B,C,E,H,n,o,r,P,F):=lN ns f A ∅ ∅ ‹j› k x6 l m c d e;apply#[B,C,E,H,n,o,r,P,?_];generalize ns.j D.o=S at *;rwa[AQ,FD,z,F]
def
lO(n:Y)(a:n<=100):MF (.o n)=Z ((AW n).j λ(j:Y)=>D.o j):=by
 change gd (-1000000000<=(n:W')/\(n:W')<1000000000) (Z<|Ir 0 (n:W').ν)=_
 rw[Ml #[∅,∅],Jn,xE];erw[Int.zero_add]
def
lP{L:AB}:∀(R:U Row)(rs:U Row),(∀r∈R,AM L r.1)->Nd L rs (R.j λr=>(J',r))
 |[],_,_=>trivial
 |r::R,rs,h=>#[#[h r Bb,λz=>nomatch z],lP R _ λx a=>h x<|Bk _ a]
def
lQ:∀(R:U Row)(rs:U Row),(R.j λr=>(J',r)).Ω DH rs=rs++R
 |[],rs=>by simp
 |r::R,rs=>by
  rw[AQ,IH,lQ R];change rs++[r]++R=_
  simp
def
Zyu(ns:U W'):∃G',i4 [.r (.R (ns.j D.o))] []=Z (.r (.bl J'),G'):=by
 let(L,h,K,eL):=Zuf ns;let h4:=h.n4;let c5:=M4 #v[ns.j D.o] ns (.O rfl) 5 (by ext);let c6:=M4 #v[ns.j D.o] ns (.O rfl) 6 (by ext);generalize ns.B (5:W').ν 0=n5,ns.B (6:W').ν 0=n6 at *;let ei:=ZAf h<|.dat .l<|L.map LD;let m6:=Z2 n5 6 (by ext);let(u,hu,hu2):=Nj n5 (n:=6) (by ext);rw[show n5%6=(u:W')from hu]at m6;let o0:GO L [zg L] 1:=#[by simp,λg A=>Cg.mp A ▸ CN.zero L,#[[],rfl],by simp];let(s,y4,y5,B,o):=lM h ns (AW<|u+1) o0 (by rw[O4];lia) .no .no .no .no .no .no .no .no .no;let ol:=o.le;rw[O4]at ol;let m7:=Z2 n6 7 (by ext);let(v,hv,hv2):=Nj n6 (n:=7) (by ext);rw[show n6%7=(v:W')from hv]at m7;let(p,es,hw,_):=M5 n6 v ∅;let s9:Fz (.R<|ns.j D.o) (Z 9) (Z 33)=Z (.R<|((ns.Ψ 9).ϣ 24).j D.o):=by
  change Z (D.R<|Fc (ns.j D.o) (Z 9)<|some 33)=_
  rw[xH _ _ _ (by ext) (by ext),<- List.map_drop,<- List.map_take];rfl
 obtain⟨i,hz⟩:∃i,(ns.Ψ 9).ϣ 24=i:=#[_,rfl];let zl:i.a<=24:=by rw[<- hz,PH];lia
 rw[hz]at s9;let ad:Zt (.R<|i.j D.o) (.R<|p.j D.o)=Z (.R<|(i++p).j D.o):=by
  show(if(i.j D.o).a+(p.j D.o).a<=Av then Z (D.R<|i.j D.o++p.j D.o)else J)=_
  rw[if_pos<|BN (show _<=100 by simp;lia) (by ext),Er]
 let cl:(i++p).a<=30:=by rw[E8];lia
 generalize i++p=w at *;obtain⟨G,m⟩:∃G,G0 L s=G:=#[_,rfl];let b0:G[0]?=Z (.Υ .l<|L.j LD):=by rw[<- m];rfl
 let(R,f1,f2,f3):=Xm (b:=Zc 0) (e:=Xg) (ρ:=[.no,#v[L.j LD]]) D.o Ze (λr=>AM L r.1) w λc _=>by
  let(r,h1,h2):=ko h c;show#[r,[‹c›,#v[L.j LD]],h1,rfl,by rwa[Xg,h2]]
 let q1:=Zl (w.j D.o) (by simp;lia);let fR:Dg 2 (R.j Ze)=J':=ZM λd hd=>by let(r,_,rfl):=Be.mp hd;show lL r 2
 obtain⟨k,f⟩:∃k,G++[.Υ .l<|R.j Ze]=k:=#[_,rfl];let lG:G.a=4:=by rw[<- m];rfl
 let d0:k[0]?=Z (.Υ .l<|L.j LD):=by rw[<- f,<- m];rfl
 let E:k[1]?=Z (Cd L [] 2):=by rw[<- f,<- m];rfl
 let d2:k[2]?=Z (.Υ .d<|Zb<|AN L [] s):=by rw[<- f,<- m];rfl
 let d3:k[3]?=Z (.Υ .l<|s.j Ak):=by rw[<- f,<- m];rfl
 let H:k[4]?=Z (.Υ .l<|R.j Ze):=by rw[<- f,<- m];rfl
 let s1:BS L [] s 1 k:=#[h,(λ_ z=>nomatch z),o.nd,λg A=>(o.gb g A).1,∅,2,E,d2,by ext];let(j,P,x,y):=kO s1 (cs:=R.j λr=>(J',r)) (by simp;lia) (λc hc=>by let(r,_,rfl):=Be.mp hc;rfl) (lP R [] f3);let qr:=Zl (R.j Ze) (by simp;lia);let hc:=Zw (b:=Zc 0) (e:=Xh) (ρ:=[.no]) Ze (λr=>Dc (J',r)) R λr _=>#[[.r<|Ze r],rfl,by
  let ad:Zt (.S [.Ι "+"]) (Ze r)=Z (Dc (J',r)):=X5 (a:=[.Ι "+"]) (b:=[Af r.1,.o r.2]) (show 3<=1000 by ext);rwa[Xh,Xj,ad]]
 let fC:B4 1 (.R<|R.map λr=>Dc (J',r))=J':=by
  show(!vk 1 .l&&Dg 1 (R.j λr=>Dc (J',r)))=J'
  rw[ZM λd hd=>by
   let(r,_,rfl):=Be.mp hd;show ZM λd hd=>by
    rcases Bw.mp hd with rfl|hd
    .rfl
    rcases Bw.mp hd with rfl|hd
    .show FL 1 _
    rcases Cg.mp hd with rfl
    rfl];rfl
 rw[B7]at x;let x:LB [.Y 1,#v[R.j λr=>Dc (J',r)]] k=Z (.Y j,P):=x;let ks:KS L R (Zz Dh<|(R.map λr=>(J',r)).Ω DH []) s 0 1 4 3 P:=#[y.bs,by
  have:=ZC Dh<|(R.map λr=>(J',r)).Ω DH [];rw[lQ,EJ]at this ⊢;show this.Ζ,(y.ex 0 (by ext) (Bp.mp d0).1).G d0,(y.ex 4 (by ext) (Bp.mp H).1).G H,(y.ex 3 (by ext) (Bp.mp d3).1).G d3,o.gb,by let(r,e):=o.z;rw[e];show Bb]
 let li:LI 6 30 L R (Zz Dh<|(R.map λr=>(J',r)).Ω DH []) s 0 1 4 3 P:=#[ks,∅,λt hl=>#[(K t hl).1,FB.of0 (K t hl).2],o.z,by ext,by ext,by ext];let(w4,w5,w8,w9,w10,w11,w12,G3,er):=lN ns (AW 3) li (by ext) (by ext) y4 y5 #v[w.j D.o] .no .no .no .no .no;let fL:=Sw L;let C:B4 1 (.R<|L.j LD)=J':=by
  show(!vk 1 .l&&Dg 1 (L.j LD))=J'
  rw[fL];rfl
 let qL:=Zl (L.j LD) (by simp;lia);let M:=Zw (b:=Zc 0) (e:=iH) (ρ:=[.no]) LD LD L λt _=>#[[.r<|LD t],rfl,rfl];let N:=Zw (b:=Zc 0) (e:=iI) (ρ:=[.no]) LD (λ_=>D.o 0) L λt _=>#[[.r<|LD t],rfl,rfl];let ht:DC [.lst<|L.map λ_=>D.o 0]=Z (Kn L):=rfl;rw[XQ]at ht;let fz:Dg 2 [Ak<|zg L]=J':=by
  show(B4 2 (Ak<|zg L)&&J')=J'
  rw[Pj];rfl
 let v1:C8 1 [Cl.Υ .l<|L.map LD] (.cel 0)=.lent (L.map LD):=Nc rfl;let v3:C8 2 [Cl.dat .l<|L.map LD,Cd L [] 2,.dat .d<|Zb<|AN L [] [zg L]] (.cel 0)=#v[L.map LD]:=Dz rfl;let q:∀xs,Zq 1 [] xs=[.no]:=λ_=>rfl;let g0:[Cl.Υ .l<|L.map LD,Cd L [] 2,.dat .d<|Zb<|AN L [] [zg L],.dat .l [Ak<|zg L]]=G0 L [zg L]:=rfl;let B:FD 4 M2 ((AW<|u+1).map λ(j:Y)=>D.o j) ([#v[ns.j D.o],.Y 0,.Y 1,.Y 3,.no,.no,.no,.no,.no,.no,.no,.no,.no],G0 L [zg L])=.Q ([#v[ns.j D.o],.Y 0,.Y 1,.Y 3,y4,y5,.no,.no,.no,.no,.no,.no,.no],G):=m ▸ B;apply#[G3,?_];generalize ns.j D.o=S,w.j D.o=CS,i.j D.o=ZS,p.j D.o=WS,R.j Ze=RR,(R.j λr=>Dc (J',r))=CC,Zb (AN L [] [zg L])=TT,Ak (zg L)=Y',L.j LD=W,G0 L [zg L]=X0 at *;suffices e:Xi ([#v[S],.no,.no,.no,.no,.no,.no,.no,.no,.no,.no,.no,.no],[])=.ϱ (.r<|.bl J') G3 from G5 (fi rfl e) rfl
 rwa[Xi,i3,iJ,En,eL,HJ,jG,jL,fL,EJ,iZ,iK,v1,Zh,q,qL,M,C,QI,Ha,Km,ei,iY,iL,v3,Zh,q,qL,N,ht,jG,jL,fz,Ha,EJ,Km,Ia,g0];rwa[iX,iM,c5,m6,show Zt (.int 1) (.int u)=Z (.int ((u+1:Y):W')) by change Z (D.int<|1+(u:W'))=_;congr 2;lia,lO (u+1) ∅,Js,B,iW,iN,E1,EZ,s9,c6,m7,es,ad,MG,iV,iO,Dz b0,Zh,show ∀(B1:D),∀A0 A2 A3 A4 A5 A6 A7 A8 A9 F Q T:Sl,Zq 1 [1] [A0,.val B1,A2,A3,A4,A5,A6,A7,A8,A9,F,Q,T]=[.no,.val B1]from λ_ _ _ _ _ _ _ _ _ _ _ _ _=>rfl,q1,f1,jG,jL,fR,f,lG,iU,iP,Nc H,q,qr,hc,fC,DZ,E,show ES "Book" "pour" (Cd L [] 2)=J' by rwa[ES,kM],(Bp.mp E).1,and_self,x];rwa[iT,iQ,show MF (.int 3)=Z ((AW 3).map λ(j:Y)=>D.int j)from lO 3 (by ext),Js,er,iS,iR,show B4 2 (.bl J')=J' from rfl]
end
variable{ps:U Pk}{R:U Row}{acc:U Cc}{ls:Bj}
set_option tactic.hygienic true
def Bm(i:Y):AE:=PySem.Challenge.pw_cubebook_k57_plan_reads_the_fewest.main.body.B i (.Pass #[0,0,0,0])
abbrev lR:U Ae:=["ladder","level","other"]
abbrev lS:U Ae:=["ladder","level","value"]
abbrev lT:U Ae:=["ladder","level","thing"]
abbrev lU:U Ae:=["ladders","thing"]
abbrev lV:U Ae:=["ladders","axis"]
abbrev lW:U Ae:=["ladder","thing"]
abbrev lX:U Ae:=["ladders","thing"]
abbrev lY:U Ae:=["ladders","thing"]
abbrev lZ:U Ae:=["ladders","thing"]
abbrev l5:U Ae:=["ladders","picks","axis"]
abbrev l6:U Ae:=["ladders","picks"]
abbrev l7:U Ae:=["ladder","level","chosen"]
abbrev l8:U Ae:=["ladder","kept_level","level","chosen"]
abbrev l9:U Ae:=["ladders","kept","grain","picks"]
abbrev ma:U Ae:=["ladders","grain","to"]
abbrev mf:U Ae:=["ladders","rows","grain"]
abbrev mj:U Ae:=["ladders","thing"]
abbrev mk:U Ae:=["ladders","thing"]
abbrev ml:U Ae:=["standing","row"]
abbrev mm:U Ae:=["standing","row"]
abbrev mo:U Ae:=["ladders","rows","changes"]
abbrev mq:U Ae:=["ladders","rows","grains"]
abbrev mr:U Ae:=["ahead","behind"]
abbrev ms:U Ae:=["ahead","behind"]
abbrev mv:U Ae:=["ladder","level","other","chosen"]
abbrev mw:U Ae:=["ladders","kept","grain","picks"]
abbrev my:U Ae:=["ladders","table","kept","picks"]
abbrev mz:U Ae:=["ladders","table","kept","picks"]
abbrev mB:U Ae:=["ladder","line"]
abbrev mC:U Ae:=["self","ladders"]
abbrev mD:U Ae:=["self","changes"]
abbrev mE:U Ae:=["self","axis","line"]
abbrev mF:U Ae:=["self","grain","picks"]
abbrev mG:U Ae:=["self","axis","ladder"]
abbrev mH:U Ae:=["_law_script","_law_k"]
abbrev mI:U Ae:=["_law_cell_here","_law_many"]
abbrev mJ:U Ae:=["_law_cell_here","_law_way","_law_k"]
abbrev mK:U Ae:=["_law_cell_here"]
abbrev mL:U Ae:=["_law_ladder_here","_law_value_here","_law_level"]
abbrev mM:U Ae:=["_law_ladders_here","_law_key","_law_grain_here"]
abbrev mN:U Ae:=["_law_ladders_here","_law_cell_here"]
abbrev mO:U Ae:=["_law_ladders_here","_law_cell_here"]
abbrev mP:U Ae:=["_law_ladders_here","_law_rows","_law_grain_here"]
abbrev mQ:U Ae:=["_law_line","_law_level"]
abbrev mR:U Ae:=["_law_ladders_here","_law_cell_here"]
abbrev mS:U Ae:=["_law_ladders_here","_law_picks_here"]
abbrev mT:U Ae:=["_law_ladders_here","_law_sets_here","_law_table_grain","_law_grain_here"]
abbrev mU:U Ae:=["_law_ladders_here","_law_sets_here","_law_table_grain","_law_key"]
abbrev mV:U Ae:=["_law_ladders_here","_law_rows","_law_grains","_law_sets_here","_law_grain_here"]
abbrev mW:U Ae:=["_law_book","_law_ladders_here","_law_rows","_law_grains","_law_grain_here","_law_picks_here"]
abbrev mX:U Ae:=["_law_ladders_here","_law_xs"]
abbrev fe(a:Ae)(s:AE)(p:U Ae):Ae×AE×U Ae:=(a,s,p)
abbrev me(a b:Ae)(s:AE)(p:U Ae):Ae×Ae×AE×U Ae:=(a,b,s,p)
def FT:U (Ae×AE×U Ae):=[fe "is_whole" (Bm 5) ["thing"],fe "is_word" (Bm 6) ["thing"],fe "is_value" (Bm 7) ["thing"],fe "value_rank" (Bm 9) ["thing"],fe "key_rank" (Bm 10) ["key"],fe "in_order" (Bm 11) ["keys"],fe "is_line" (Bm 15) ["thing"],fe "go_together" (Bm 16) ["lines"],fe "is_ladder" (Bm 17) ["thing"],fe "whole_of" (Bm 18) ["ladder"],fe "line_at" (Bm 19) ["line","level"],fe "values_in_order" (Bm 20) ["values"],fe "lifts" (Bm 21) lR,fe "beneath" (Bm 22) lS,fe "is_value_at" (Bm 23) lT,fe "is_axis" (Bm 34) lU,fe "ladder_on" (Bm 35) lV,fe "is_level" (Bm 36) lW,fe "is_grain" (Bm 37) lX,fe "finest" (Bm 38) ["ladders"],fe "coarsest" (Bm 39) ["ladders"],fe "is_pick" (Bm 41) lY,fe "is_picks" (Bm 42) lZ,fe "picked" (Bm 43) l5,fe "picked_everywhere" (Bm 44) l6,fe "asked_of" (Bm 46) l7,fe "apart_on" (Bm 47) l8,fe "apart" (Bm 48) l9,fe "cell_of" (Bm 50) ["amounts"],fe "merged" (Bm 51) ["one","other"],fe "ways_up" (Bm 53) ma,fe "goes_along" (Bm 54) ["ways","key"],fe "merged_along" (Bm 55) ["ways","table"],fe "table_of" (Bm 56) mf,fe "is_finest_key" (Bm 59) mj,fe "is_change" (Bm 60) mk,fe "row_rank" (Bm 61) ["row"],fe "put_in" (Bm 62) ml,fe "take_out" (Bm 63) mm,fe "poured" (Bm 64) mo,fe "tables_at" (Bm 65) mq,fe "keys_changed" (Bm 66) mr,fe "cells_changed" (Bm 67) ms,fe "picked_lifts" (Bm 69) mv,fe "picked_ways" (Bm 70) mw,fe "cells_picked" (Bm 71) my,fe "cells_read" (Bm 72) mz,fe "grown" (Bm 74) mB,fe "are_ladders" (Bm 78) ["thing"],fe "_law_cell_at" (Bm 81) mH,fe "_law_stream" (Bm 82) mI,fe "_law_named" (Bm 83) mJ,fe "_law_ladder" (Bm 84) mK,fe "_law_ladders" (Bm 85) ["_law_script"],fe "_law_up" (Bm 86) mL,fe "_law_key_at" (Bm 87) mM,fe "_law_grain" (Bm 88) mN,fe "_law_row" (Bm 89) mO,fe "_law_cell" (Bm 90) ["_law_amounts"],fe "_law_cells" (Bm 91) mP,fe "_law_value" (Bm 92) mQ,fe "_law_picks" (Bm 93) mR,fe "_law_sets" (Bm 94) mS,fe "_law_answers" (Bm 95) mT,fe "_law_touched" (Bm 96) mU,fe "_law_plan_due" (Bm 97) mV,fe "_law_plan_good" (Bm 98) mW,fe "_law_grown" (Bm 99) mX,fe "law" (Bm 100) ["_law_script"]]
def MT:U (Ae×Ae×AE×U Ae):=[me "__init__" "Book.__init__" (Im (Bm 79) 0) mC,me "kept" "Book.kept" (Im (Bm 79) 3) ["self"],me "pour" "Book.pour" (Im (Bm 79) 4) mD,me "keep" "Book.keep" (Im (Bm 79) 5) ["self","grain"],me "forget" "Book.forget" (Im (Bm 79) 6) ["self","grain"],me "grow" "Book.grow" (Im (Bm 79) 8) mE,me "plan" "Book.plan" (Im (Bm 79) 10) mF,me "is_kept" "Book.is_kept" (Im (Bm 79) 12) ["self","thing"],me "put_ladder" "Book.put_ladder" (Im (Bm 79) 13) mG,me "tables_renewed" "Book.tables_renewed" (Im (Bm 79) 14) ["self"]]
structure Tx(K:Ao)(mg:BP)(d:Ac):V' where
 cb:CI K mg "Book" d
 na_axes:BY K d "axes"
 na_standing:BY K d "standing"
 na_tables:BY K d "tables"
 f:All (DX K mg) FT
 m:All (MX K d) MT
 n:All (λx=>mg x=J) ["all","any","bool","dict","enumerate","int","isinstance","len","list","max","min","range","sorted","str","sum","tuple","zip"]
 g:All (λx=>∃u,mg x.1=Z u/\RelV x.2 u) [("FIGURES",(.Ι "0123456789")),("LETTERS",(.Ι "abcdefghijklmnopqrstuvwxyz")),("LONGEST_LINE",(.o 4)),("LONGEST_WORD",(.o 12)),("MOST_LADDERS",(.o 4)),("MOST_LINES",(.o 40)),("MOST_ROWS",(.o 200)),("MOST_TABLES",(.o 12))]
variable {P:AS}{w:Ai}{K:Ao}{mg:BP}{base:Al}{d:Ac}(T:Tx K mg d)
include T
set_option hygiene false in
local macro_rules | `(tactic|exists $a,$b,*)=>do let c <- b.getElems.mapM λx=>`(tactic|with_reducible refine $a h r ($x T) ?_ ?_ ?_ ?_ ?_);`(tactic|first $[| $c:tactic]*)
local macro_rules | `(tactic|exists $t)=>`(tactic|with_reducible show JE _ _ (tD _ _ _ (Zk $t _)))
local macro_rules | `(mutual $c* end)=>return Lean.mkNullNode (<- c[1:].toArray.mapM (·.raw.replaceM λ| `(tactic|trivial)=>return c[0]!.raw.find? (·.isOfKind ``Lean.Parser.Tactic.paren)|_=>return none))
mutual
example:=by(intros;rename_i h r;repeat' first
 |(refine(?_:JE _ _ _);first|(refine(?_:JE _ (.Compare _ _ _ _) (Cn _ (λs=>Lu _ _ _ s)));refine xM r.ε ?_ ?_)|(refine(?_:JE _ (.Tuple _ _ _) (Cn _ (λs=>Lv _ s)));refine xV ?_)|(refine(?_:JE _ (.Call (.Attribute _ _ _) _ _ _) (Fm .l _ _ _ (λρ=>(HU _ _ _ _ _).J HJ)));refine mfR0 h r T.cb (mY T) rfl ?_)|(refine(?_:JE _ _ (GB _ _ _ _));first|exact TR _|refine aA ?_)|(refine(?_:JE _ _ (tP _ _ _ _));first|exact sS _|exact u6|refine ar ?_)|(refine(?_:JE _ _ (tQ _ _ _ _));first|exact sT _|refine rD ?_)|(refine(?_:JE _ _ (EG _ _));first|exact dm|refine wt T.cb.cof T.cb.cl (by first|exact T.na_axes|exact T.na_standing|exact T.na_tables) ?_)|(refine(?_:JE _ _ (tJ _ _));first|refine wm _ λ_ _=>?_)|(refine(?_:JE _ (.Name _ _) _);first|exact sR _|exact sQ (by rfl) (by first|exact T.g.get 0 rfl|exact T.g.get 1 rfl|exact T.g.get 2 rfl|exact T.g.get 3 rfl|exact T.g.get 4 rfl|exact T.g.get 5 rfl|exact T.g.get 6 rfl|exact T.g.get 7 rfl) (λ_ _=>by erw[Au])|exact TQ (by rfl) (T.n.get 15 rfl) (by rfl)|refine dj ?_|refine Us ?_|exact TQ (by rfl) (by first|exact T.n.get 8 rfl|exact T.n.get 15 rfl) (by rfl)|exact xU)|(refine(?_:JE _ (.Constant _ _ _) _);first|exact au|exact qE|exact qC|exact qD|refine Us ?_)|(refine(?_:JE _ (.ListComp _ _ _ _) (Fm _ _ _ _ _));first|refine' xn h (MH (by decide +kernel)) rfl rfl ?_ (MJ h (by decide +kernel) (λ_ _ _ _ _ _ _ h=>?_) (λ_ _ _ _ _ _ _ h=>?_) (λ_ _ _ _ _ _ _ h=>?_)) ?_|refine' xj h (MH (by decide +kernel)) rfl rfl ?_ (MJ h (by decide +kernel) (λ_ _ _ _ _ _ _ h=>?_) (λ_ _ _ _ _ _ _ h=>?_) (λ_ _ _ _ _ _ _ h=>?_)) ?_)|(refine(?_:JE _ (.Subscript _ _ _) _);first|refine vb ?_ ?_|refine uf r.units ?_ ?_ (λ_ _=>rfl)|refine sC ?_ ?_ ?_)|(refine(?_:JE _ (.BinOp _ _ _ _) _);first|refine so ?_ ?_|refine se ?_ ?_|refine r9 ?_ ?_|refine sd ?_ ?_|refine r6 ?_ ?_|refine sf ?_ ?_)|(refine(?_:JE _ (.UnaryOp _ _ _) _);first|refine sh ?_|refine qO ?_)|(refine(?_:JE _ (.BoolOp _ _ _) _);first|refine qQ ?_ ?_|refine qR ?_ ?_|refine qP ?_)|(refine(?_:JE _ (.Compare _ _ _ _) _);first|refine sV r.units ?_ ?_|refine sX r.units ?_ ?_|refine sW r.units ?_ ?_|refine ug r.units ?_ ?_|refine qT ?_|refine bt SX SX (Mm _) (Mm _) ?_ ?_ ?_|refine ym r.units ?_ ?_|refine bt SX (a0 r.units) (Mm _) a6 ?_ ?_ ?_)|(refine(?_:JE _ (.Tuple _ _ _) _);first|refine q5 ?_)|(refine(?_:JE _ (.List _ _) (Fm _ _ _ _ _));first|refine qZ ?_)|(refine(?_:JE _ (.Dict _ _ _) _);first|exact uj)|(refine(?_:JE _ (.IfExp _ _ _ _) _);first|refine qS ?_ ?_ ?_)|(refine(?_:JE _ (.Attribute _ _ _) _);first|refine vi T.cb.cof T.cb.cl (by first|exact T.na_axes|exact T.na_standing|exact T.na_tables) ?_|refine dj ?_)|(refine(?_:JE _ (.Call (.Name _ _) _ [] _) _);first|(refine(?_:JE _ (.Call (.Name _ _) _ [] _) (tD _ _ _ (Zg _ _)));first|exists xp,ZrL,ZtS,Zr0,Zuv,Zu1,Zt6,Zvv,ZoY,Znu,ZoX,Zqn,Zu5,ZrP,Zp3,ZrC,ZoV,Zy2,ZuD,ZrR,ZrE,ZrF,ZmZ,Zo4,ZoO,ZpN,Zt3,ZrH,Zne,Znn,mZ,ZtC,Zqv,ZrX,Zuq,ZrV,Zuw,ZpF,Zno,ZrD,ZmR,Zpx,Zya,m1,Zm9,ZmN,ZtB,Zwq,ZrW,Znp,ZiC,Zzg,Zlu,ZnJ,ZpW,Zm4,Zo2)|(refine(?_:JE _ (.Call (.Name _ _) _ [] _) (Fm .l _ _ _ (En _ _)));first|exists xq,ZpQ,ZnY,m1,Zj8,ZmO,ZlS)|(refine(?_:JE _ (.Call (.Name _ _) _ [] _) (Fm .d _ _ _ (J0 _ _)));first|exists xr,ZqB)|(refine(?_:JE _ (.Call (.Name _ _) _ [] _) (Cn _ (λs=>Gg _ (_) s)));first|exists xt,Zwu,ZrK,Zrm,Zve,ZlH)|(refine(?_:JE _ (.Call (.Name _ _) _ [] _) _);first|exact u4 _ (T.n.get 7 rfl)|exact u5 _ (T.n.get 6 rfl) (by first|exact(T.n.get 5 rfl)|exact(T.n.get 2 rfl)|exact(T.n.get 15 rfl)|exact(T.n.get 8 rfl)|exact(T.n.get 13 rfl))|(exists Zo;refine Hb YF a7 (by rfl) (T.n.get 7 rfl) (by rfl) ?_)|(exists MC;refine Hb v6 v7 (by rfl) (T.n.get 7 rfl) (by rfl) ?_)|(exists DD;refine Hb (ai (b:=J') rfl) (ba (b:=J')) (by rfl) (T.n.get 0 rfl) (by rfl) ?_)|(exists La;refine Hb (ai (b:=O') rfl) (ba (b:=O')) (by rfl) (T.n.get 1 rfl) (by rfl) ?_)|(exists N4;refine Hb (sK rfl) sN (by rfl) (T.n.get 14 rfl) (by rfl) ?_)|(exists Mp;refine Hb (bd (b:=J') rfl) (bg (b:=J')) (by rfl) (T.n.get 10 rfl) (by rfl) ?_)|(exists Mq;refine Hb (bd (b:=O') rfl) (bg (b:=O')) (by rfl) (T.n.get 9 rfl) (by rfl) ?_)|(exists Qh;refine Hb (oX rfl) sI (by rfl) (T.n.get 10 rfl) (by rfl) ?_)|(exists Qg;refine Hb (oW rfl) sH (by rfl) (T.n.get 9 rfl) (by rfl) ?_)|(exists Cy;refine Hb bq br (by rfl) (T.n.get 6 rfl) (by rfl) ?_)|(exists DC;refine aC pZ sF (by rfl) (T.n.get 15 rfl) (by rfl) ?_)|(exists intD;refine aC oY sJ (by rfl) (T.n.get 5 rfl) (by rfl) ?_)|refine aE pY sE (by rfl) (T.n.get 8 rfl) (by rfl) ?_|refine aE (uX rfl) uY (by rfl) (T.n.get 8 rfl) (by rfl) ?_|refine uO rfl r.units (by rfl) (T.n.get 3 rfl) ?_|refine wV rfl r.units (by rfl) (T.n.get 12 rfl) (by rfl) ?_|refine xw h r T.cb (Zqo T) rfl ?_))|(refine(?_:JE _ (.Call (.Name _ _) _ _ _) _);first|refine dM h r (mZ T) (T.n.get 12 rfl) rfl ?_|refine dM h r (ZrG T) (T.n.get 12 rfl) rfl ?_)|(refine(?_:JE _ (.Call (.Attribute _ _ _) _ _ _) _);first|refine xy h r T.cb (mY T) rfl ?_|refine Ow h r T.cb (Zj5 T) rfl ?_ ?_|refine xx h r T.cb (Zmi T) rfl ?_ ?_|refine Ow h r T.cb (Zp4 T) rfl ?_ ?_|refine Ow h r T.cb (Zre T) rfl ?_ ?_|refine xz h r T.cb (ZhC T) rfl ?_|refine Ow h r T.cb (Zrb T) rfl ?_ ?_|refine Ow h r T.cb (Zqs T) rfl ?_ ?_|refine tH PySem.F.plainAttrs_str PySem.F.slot_str_join PySem.F.type_str_join qm tM ?_ ?_|refine vK r.units ?_ ?_|refine wP ?_ ?_|refine wQ r.units ?_ ?_|refine xf r.units ?_ ?_|refine bY r.units ?_ ?_|refine yf ?_|refine xX ?_ ?_|refine yh h r T.cb (Zng T) rfl ?_ ?_)|(refine(?_:JE _ _ (Cn _ _));first|refine Us ?_|refine wq (dh _ λ_ _=>?_)|refine wr (dh _ λ_ _=>?_))|(refine(?_:JE _ _ (tD _ _ _ _));first|refine qx ?_))
 |(refine(?_:JA _ _ _);first|exact Tl|refine P1 ?_ ?_|exact du|refine dy ?_ ?_)
 |(refine(?_:JT _ _ _);first|(refine(?_:JT _ (.Κ _ _ _ _) _);first|refine sY r.ε ?_ ?_|refine sZ r.ε ?_ ?_|refine td r.ε ?_ ?_|refine tf r.ε ?_ ?_|refine ti r.ε ?_ ?_|refine tm r.ε ?_ ?_|refine ui r.ε ?_ ?_|refine uh r.ε ?_ ?_|refine qU ?_|refine qV ?_|refine ul r.ε ?_ ?_|refine xR r.ε ?_ ?_)|(refine(?_:JT _ (.UnaryOp _ _ _) _);first|refine qG ?_)|(refine(?_:JT _ (.ϑ _ _ _) _);first|refine bu ?_)|(refine(?_:JT _ _ _);first|refine tw ?_|refine bu ?_))
 |(refine(?_:JS _ _ _);first|(refine(?_:JS _ (.Assign [.Tuple _ _ _] _ _) (tK _ (λs=>ML _ _ _ _ s)));refine xY rfl ?_ (sv h.nd) (sv h.nd) (sv h.nd) λa b c=>dR rfl a b c)|(refine(?_:JS _ _ (tS _ _ _ (Gj _ _)));first|refine xA ?_)|(refine(?_:JS _ (.Return _ _) _);first|refine rh ?_|exact sU _|refine rj ?_|exact uP _|refine ri ?_|refine wz ?_)|(refine(?_:JS _ (.If _ _ _ _) _);first|refine rk ?_ ?_ ?_|refine um ?_ ?_ ?_|refine wy (wn _ λ_ _=>?_) ?_ ?_|refine xh ?_ ?_ ?_)|(refine(?_:JS _ (.Assign [.Name _ _] (.ListComp _ _ _ _) _) _);first|refine' xo h (MH (by decide +kernel)) rfl rfl rfl rfl ?_ (MJ h (by decide +kernel) (λ_ _ _ _ _ _ _ h=>?_) (λ_ _ _ _ _ _ _ h=>?_) (λ_ _ _ _ _ _ _ h=>?_)) ?_|refine' xk h (MH (by decide +kernel)) rfl rfl rfl rfl ?_ (MJ h (by decide +kernel) (λ_ _ _ _ _ _ _ h=>?_) (λ_ _ _ _ _ _ _ h=>?_) (λ_ _ _ _ _ _ _ h=>?_)) ?_|refine' xm h (MH (by decide +kernel)) rfl rfl rfl rfl ?_ (MJ h (by decide +kernel) (λ_ _ _ _ _ _ _ h=>?_) (λ_ _ _ _ _ _ _ h=>?_) (λ_ _ _ _ _ _ _ h=>?_)) ?_|refine' yj h (MH (by decide +kernel)) rfl rfl rfl rfl (λ_ _=>?_) (MJ h (by decide +kernel) (λ_ _ _ _ _ _ _ h=>?_) (λ_ _ _ _ _ _ _ h=>?_) (λ_ _ _ _ _ _ _ h=>?_)) ?_|refine dA h.nd ?_)|(refine(?_:JS _ (.Assign [.Name _ _] _ _) _);first|refine dQ h.nd ?_|refine vd _ h.nd ?_|refine rq h.nd rfl (by first|exact Or.inl rfl|exact Or.inr rfl) ?_|refine ro h.nd rfl (by first|exact Or.inl rfl|exact Or.inr rfl) ?_|refine dA h.nd ?_)|(refine(?_:JS _ (.Assign [.Attribute _ _ _] _ _) _);first|refine wO T.cb.cof T.cb.cl (by first|exact T.na_axes|exact T.na_standing|exact T.na_tables) ?_ ?_)|(refine(?_:JS _ (.Assign _ _ _) _);first|refine dQ h.nd ?_|refine tE ?_ ?_|refine uk r.units ?_ ?_|refine wR r.units ?_ ?_ ?_|refine xN ?_ ?_ ?_)|(refine(?_:JS _ (.For _ _ _ _ _) _);first|refine' vW r.units SJ rfl ?_ (λ_=>?_) (λ_=>?_) (λ_=>?_) ?_|refine' vH SJ rfl ?_ (λ_=>?_) (λ_=>?_)|refine' rC SJ rfl ?_ ?_ ?_|refine wE SJ rfl ?_ h.nd ?_|refine xZ SJ rfl dm (sv h.nd) (sv h.nd) (sv h.nd) ?_ λa b c=>dR rfl a b c)|(refine(?_:JS _ (.Expr _ _) _);first|refine rA EW ?_|refine tz ?_|refine wA ?_)|(refine(?_:JS _ _ _);first|exact uQ|exact ww))
 |(refine(?_:JB _ _ _);first|exact rg|with_reducible refine aF ?_ ?_|refine aF ?_ ?_|exact wv|with_reducible refine dz ?_ ?_|refine dz ?_ ?_)
 |(refine(?_:JW _ _ _);first|refine qN ?_ ?_|refine qI ?_|refine qM ?_ ?_|refine qH ?_)
 |(refine(?_:JO _ _ _);first|refine sA ?_|exact sx)
 |(refine(?_:JG _ _ _);first|exact vc _ h.nd|refine' rQ rfl ?_)
 |(refine(?_:JI _ _ _ _);first|refine rM (by rfl) (T.n.Χ 11 rfl) ?_|refine rN (by rfl) (T.n.Χ 11 rfl) ?_|refine vU (by rfl) (T.n.Χ 16 rfl) ?_ ?_|refine wf (by rfl) (T.n.Χ 4 rfl) ?_|refine tx ?_|refine wC ?_|refine wD (by rfl) (T.n.Χ 11 rfl) ?_)
 |(refine(?_:JF _ _ _);first|exact rR|refine rS ?_)
 |(refine(?_:JK _ _ _);first|exact rO|refine' rP ?_ ?_)
 |refine wu ?_
 |refine dt ?_
 |refine bY r.ε ?_ ?_
 |rfl
 |exact Ga
 |exact Bg _
 |decide)
theorem ZrL:OF P w K mg base 1 "is_whole" (AX K Hn):=BG ["thing"] (T.f.Χ 0 rfl) (by trivial)
theorem ZtS:OF P w K mg base 1 "is_word" (AX K Ju):=BG ["thing"] (T.f.Χ 1 rfl) (by trivial)
theorem Zr0:OF P w K mg base 1 "whole_of" (AX K OB):=BG ["ladder"] (T.f.Χ 9 rfl) (by trivial)
theorem Zuv:OF P w K mg base 1 "line_at" (AX K Gm):=BG ["line","level"] (T.f.Χ 10 rfl) (by trivial)
theorem Zu1:OF P w K mg base 1 "finest" (AX K MN):=BG ["ladders"] (T.f.Χ 19 rfl) (by trivial)
theorem Zt6:OF P w K mg base 1 "cell_of" (AX K QS):=BG ["amounts"] (T.f.Χ 28 rfl) (by trivial)
theorem Zvv:OF P w K mg base 1 "merged" (AX K OC):=BG ["one","other"] (T.f.Χ 29 rfl) (by trivial)
theorem ZoY:OF P w K mg base 1 "goes_along" (AX K MO):=BG ["ways","key"] (T.f.Χ 31 rfl) (by trivial)
theorem Zwu:OF P w K mg base 1 "put_in" (C2 K UG):=Ov ml (T.f.Χ 37 rfl) (by trivial)
theorem ZrK:OF P w K mg base 1 "take_out" (C2 K UI):=Ov mm (T.f.Χ 38 rfl) (by trivial)
theorem mY:OM P w K mg base d BI 1 "kept" (AX K UK):=dK ["self"] (T.m.Χ 1 rfl) (by trivial)
theorem Zj5:OM P w K mg base d BI 1 "put_ladder" (C2 K QT):=Kb mG (T.m.Χ 8 rfl) (by trivial)
theorem Znu:OF P w K mg base 1 "_law_cell_at" (AX K ZT):=BG mH (T.f.Χ 49 rfl) (by trivial)
theorem ZoX:OF P w K mg base 1 "_law_stream" (AX K ZP):=BG (mI.Β ["_law_number","_law_found","_law_k"]) (T.f.Χ 50 rfl) (by trivial)
theorem Zqn:OF P w K mg base 1 "_law_named" (AX K Kf):=BG (mJ.Β ["_law_signs","_law_size","_law_at","_law_word"]) (T.f.Χ 51 rfl) (by trivial)
theorem Zu5:OF P w K mg base 1 "_law_up" (AX K UN):=BG (mL.Β ["_law_line"]) (T.f.Χ 54 rfl) (by trivial)
theorem ZrP:OF P w K mg base 1 "_law_cell" (AX K QX):=BG ["_law_amounts"] (T.f.Χ 58 rfl) (by trivial)
theorem Zp3:OF P w K mg base 1 "_law_value" (AX K IF):=BG mQ (T.f.Χ 60 rfl) (by trivial)
theorem Zrm:OF P w K mg base 1 "_law_grown" (C2 K Q3):=Ov (mX.Β ["_law_axis","_law_old","_law_new","_law_line","_law_key"]) (T.f.Χ 67 rfl) (by trivial)
theorem ZrC:OF P w K mg base 2 "is_value" (AX K MP):=BG ["thing"] (T.f.Χ 2 rfl) (by trivial)
theorem ZoV:OF P w K mg base 2 "value_rank" (AX K Q5):=BG ["thing"] (T.f.Χ 3 rfl) (by trivial)
theorem Zy2:OF P w K mg base 2 "lifts" (AX K Q6):=BG lR (T.f.Χ 12 rfl) (by trivial)
theorem ZuD:OF P w K mg base 2 "is_axis" (AX K Q7):=BG lU (T.f.Χ 15 rfl) (by trivial)
theorem ZrR:OF P w K mg base 2 "is_level" (AX K Q8):=BG lW (T.f.Χ 17 rfl) (by trivial)
theorem ZrE:OF P w K mg base 2 "coarsest" (AX K U1):=BG ["ladders"] (T.f.Χ 20 rfl) (by trivial)
theorem ZrF:OF P w K mg base 2 "asked_of" (AX K Q9):=BG (l7.Β ["asked","line"]) (T.f.Χ 25 rfl) (by trivial)
theorem ZmZ:OF P w K mg base 2 "picked_lifts" (AX K Ra):=BG mv (T.f.Χ 43 rfl) (by trivial)
theorem Zo4:OF P w K mg base 2 "_law_ladder" (AX K Rh):=BG (mK.Β ["_law_xs","_law_many","_law_places","_law_sizes","_law_j","_law_lines","_law_k","_law_line","_law_at"]) (T.f.Χ 52 rfl) (by trivial)
theorem ZoO:OF P w K mg base 2 "_law_key_at" (AX K U9):=BG mM (T.f.Χ 55 rfl) (by trivial)
theorem ZpN:OF P w K mg base 2 "_law_grain" (AX K MR):=BG (mN.Β ["_law_xs"]) (T.f.Χ 56 rfl) (by trivial)
theorem Zt3:OF P w K mg base 2 "_law_row" (AX K OH):=BG (mO.Β ["_law_xs","_law_key"]) (T.f.Χ 57 rfl) (by trivial)
theorem ZpQ:OF P w K mg base 2 "_law_picks" (AX K Rl):=BG (mR.Β ["_law_xs","_law_picks_here","_law_k","_law_axis","_law_ladder_here","_law_level","_law_values","_law_j","_law_at","_law_value_here"]) (T.f.Χ 61 rfl) (by trivial)
theorem ZrH:OF P w K mg base 2 "_law_sets" (AX K OL):=BG (mS.Β ["_law_sets_here","_law_axis","_law_mine","_law_some","_law_line"]) (T.f.Χ 62 rfl) (by trivial)
theorem Zne:OF P w K mg base 2 "_law_answers" (AX K Rp):=BG (mT.Β ["_law_axis","_law_one","_law_other","_law_unlike"]) (T.f.Χ 63 rfl) (by trivial)
theorem Znn:OF P w K mg base 2 "_law_touched" (AX K Vk):=BG (mU.Β ["_law_axis","_law_level","_law_some"]) (T.f.Χ 64 rfl) (by trivial)
theorem mZ:OF P w K mg base 3 "key_rank" (AX K MV):=BG ["key"] (T.f.Χ 4 rfl) (by trivial)
theorem ZtC:OF P w K mg base 3 "is_line" (AX K Vo):=BG ["thing"] (T.f.Χ 6 rfl) (by trivial)
theorem Zqv:OF P w K mg base 3 "ladder_on" (AX K Vq):=BG lV (T.f.Χ 16 rfl) (by trivial)
theorem ZrX:OF P w K mg base 3 "is_grain" (AX K LA):=BG lX (T.f.Χ 18 rfl) (by trivial)
theorem Zuq:OF P w K mg base 3 "is_pick" (AX K MW):=BG lY (T.f.Χ 21 rfl) (by trivial)
theorem ZrV:OF P w K mg base 3 "apart_on" (AX K Vy):=BG (l8.Β ["asked","firsts","line","first"]) (T.f.Χ 26 rfl) (by trivial)
theorem Zuw:OF P w K mg base 3 "ways_up" (AX K Ru):=BG ma (T.f.Χ 30 rfl) (by trivial)
theorem ZnY:OF P w K mg base 3 "_law_ladders" (AX K OO):=BG ["_law_script","_law_many","_law_ladders_here"] (T.f.Χ 53 rfl) (by trivial)
theorem ZpF:OF P w K mg base 3 "_law_cells" (AX K VQ):=BG (mP.Β ["_law_amounts","_law_key","_law_amount","_law_cells_here"]) (T.f.Χ 59 rfl) (by delta gj RC VP VO VN;trivial)
theorem Zno:OF P w K mg base 4 "go_together" (AX K MY):=BG ["lines","seen","finest_seen","line","level","value","later"] (T.f.Χ 7 rfl) (by trivial)
theorem ZrD:OF P w K mg base 4 "is_picks" (AX K OR):=BG lZ (T.f.Χ 22 rfl) (by trivial)
theorem ZrG:OF P w K mg base 4 "row_rank" (AX K RE):=BG ["row"] (T.f.Χ 36 rfl) (by trivial)
theorem Zmi:OM P w K mg base d BI 4 "is_kept" (AX K VX):=dK ["self","thing"] (T.m.Χ 7 rfl) (by trivial)
theorem ZmR:OF P w K mg base 4 "_law_plan_due" (AX K MZ):=BG (mV.Β ["_law_best","_law_one","_law_cells_here","_law_many"]) (T.f.Χ 65 rfl) (by trivial)
theorem Zpx:OF P w K mg base 5 "is_ladder" (AX K V2):=BG ["thing"] (T.f.Χ 8 rfl) (by trivial)
theorem Zya:OF P w K mg base 5 "grown" (AX K V4):=BG (mB.Β ["lines"]) (T.f.Χ 47 rfl) (by trivial)
theorem Zng:OM P w K mg base d BI 5 "forget" (C2 K OS):=Kb ["self","grain"] (T.m.Χ 4 rfl) (by trivial)
theorem m1:OF P w K mg base 6 "in_order" (AX K OT):=BG ["keys","told","key"] (T.f.Χ 5 rfl) (by trivial)
theorem Zm9:OF P w K mg base 6 "are_ladders" (AX K V9):=BG ["thing"] (T.f.Χ 48 rfl) (by trivial)
theorem Zp4:OM P w K mg base d BI 6 "grow" (C2 K OU):=Kb mE (T.m.Χ 5 rfl) (by trivial)
theorem Zj8:OF P w K mg base 7 "values_in_order" (AX K OW):=BG ["values"] (T.f.Χ 11 rfl) (by trivial)
theorem ZmO:OF P w K mg base 7 "merged_along" (AX K Wf):=BG ["ways","table","cells","key","cell","there"] (T.f.Χ 32 rfl) (by trivial)
theorem ZmN:OF P w K mg base 7 "keys_changed" (AX K RF):=BG (mr.Β ["cells_ahead","cells_behind","keys"]) (T.f.Χ 41 rfl) (by trivial)
theorem ZtB:OF P w K mg base 8 "beneath" (AX K Wm):=BG lS (T.f.Χ 13 rfl) (by trivial)
theorem Zwq:OF P w K mg base 8 "picked" (AX K RH):=BG (l5.Β ["lines","pick","among"]) (T.f.Χ 23 rfl) (by trivial)
theorem ZrW:OF P w K mg base 8 "table_of" (AX K RJ):=BG (mf.Β ["single"]) (T.f.Χ 33 rfl) (by trivial)
theorem ZlS:OF P w K mg base 8 "cells_changed" (AX K Wv):=BG (ms.Β ["changed","grain"]) (T.f.Χ 42 rfl) (by trivial)
theorem Znp:OF P w K mg base 9 "is_value_at" (AX K RL):=BG lT (T.f.Χ 14 rfl) (by trivial)
theorem ZiC:OF P w K mg base 9 "picked_everywhere" (AX K ZR):=BG l6 (T.f.Χ 24 rfl) (by trivial)
theorem ZqB:OF P w K mg base 9 "tables_at" (AX K RM):=BG mq (T.f.Χ 40 rfl) (by trivial)
theorem Zre:OM P w K mg base d BI 9 "keep" (C2 K RO):=Kb ["self","grain"] (T.m.Χ 3 rfl) (by trivial)
theorem Zzg:OF P w K mg base 10 "apart" (AX K WJ):=BG (l9.Β ["chosen","axis","ladder","two"]) (T.f.Χ 27 rfl) (by trivial)
theorem Zlu:OF P w K mg base 10 "is_finest_key" (AX K WL):=BG mj (T.f.Χ 34 rfl) (by trivial)
theorem ZnJ:OF P w K mg base 10 "picked_ways" (AX K WP):=BG (mw.Β ["chosen"]) (T.f.Χ 44 rfl) (by trivial)
theorem Zqo:OM P w K mg base d BI 10 "__init__" (C2 K WQ):=Kb mC (T.m.Χ 0 rfl) (by trivial)
theorem ZhC:OM P w K mg base d BI 10 "tables_renewed" (C2 K WT):=Kb ["self","ahead"] (T.m.Χ 9 rfl) (by trivial)
theorem ZpW:OF P w K mg base 11 "is_change" (AX K WV):=BG mk (T.f.Χ 35 rfl) (by trivial)
theorem Zm4:OF P w K mg base 11 "cells_picked" (AX K WY):=BG (my.Β ["ways"]) (T.f.Χ 45 rfl) (by trivial)
theorem Zve:OF P w K mg base 12 "poured" (C2 K W0):=Ov (mo.Β ["standing","change"]) (T.f.Χ 39 rfl) (by trivial)
theorem Zo2:OF P w K mg base 12 "cells_read" (AX K W4):=BG mz (T.f.Χ 46 rfl) (by trivial)
theorem Zrb:OM P w K mg base d BI 13 "pour" (C2 K LB):=Kb mD (T.m.Χ 2 rfl) (by trivial)
theorem Zqs:OM P w K mg base d BI 13 "plan" (C2 K M0):=Kb (mF.Β ["best","kept","cells"]) (T.m.Χ 6 rfl) (by trivial)
theorem ZlH:OF P w K mg base 14 "_law_plan_good" (C2 K LC):=Ov (mW.Β ["_law_handed","_law_axis","_law_level","_law_values","_law_found"]) (T.f.Χ 66 rfl) (by delta RU Xf Xe Xd Xc Xb Xa W9 O2 W8 W7;trivial)
theorem ZEG{fn:Ac}{fd:CH}(D:DI K mg "law" (Bm 100) ["_law_script"] fn fd):AY P w K mg base BI 15 fn fd ["_law_script"] (C2 K i4):=dL ["_law_script","_law_ladders_here","_law_book","_law_grains","_law_k","_law_grain_here","_law_cells_here","_law_rows","_law_cell_here","_law_picks_here","_law_row_here","_law_axis","_law_line"] D (by trivial)
end
end
def
fin{l:PySem.W.OpenLaw}{w:Ai}{K:Ao}{h:Al}{mg:BP}{b:Ac}(_:K.In h)(a:mg "law"=Z (.I b)):(∃d,Tx K mg d)->∃fd:CH,(∀(s:Ab)(v:Aa),BindsTo s fd #[[v],[]] [("_law_script",v)])/\∀base:Al,K.In base->base.Ns C4 mg->AY l.δ w K mg base BI 15 b fd ["_law_script"] (NF K):=λ⟨_,T⟩=>let⟨_,_,D⟩:=T.f.Χ 68 rfl;wY a D (λ_=>ZEG T D) (λns _=>Zyu ns) λ_ _ _ _ _ _ _=>rfl
def
walk{l:PySem.W.OpenLaw}{q:AS}{b:U Ae}{i:(BP)->Al->V'}{e:Ai->Al->V'}{d:DefRec}{K:Params->Ao}(j:l.most=Z 63)(c:d.ϲ.defaults=[]) (m:∀(w:Ai) (h:Al),e w h->(K w.ϲ).In h) (F:∀(w:Ai) (mg:BP) (g:Ac) (h:Al),(K w.ϲ).In h->h.Ns C4 mg->mg d.name=Z (.I g)->∃fd:CH,(∀(s:Ab) (u:Aa),BindsTo s fd #[[u],[]] [("_law_script",u)])/\∀base:Al,(K w.ϲ).In base->base.Ns C4 mg->AY l.δ w (K w.ϲ) mg base BI 15 g fd ["_law_script"] (NF (K w.ϲ))):PySem.W.WalkO q b i e l.row.toRowW d [] (λf vs=>PySem.call f vs):=Internal.walk_of (n:=63) (k:=15) (x:="_law_script") (CX:=λ_=>BI) (sp:=λw=>NF<|K w.params) j (by ext) c ⟨rfl,by ext,by ext⟩ m F (λ_ _ a ns o _ p=>#[a,ns,rfl,p,o,λ_=>rfl]) λ_ _ _ _ _ z=>z
end Internal.K57
variable{ps:U Internal.K57.Pk}{R:U Internal.K57.Row}{acc:U Internal.K57.Cc}{ls:Internal.K57.Bj}
end
structure PySem.W.Fast:Prop where(tw10825965256138235850 tw13343124273588914565 tw4915055112593435142 tw14908049623572812784 tw16693685014441729792 tw9321877161939265714 tw7048093293871989894 tw13364785605266341990 tw7384011790765208266 tw18214696274525434873 tw8349684187399929557 tw392349094163529657 tw1612541049722733531 tw5813926021960030343 tw8103304147013669302 tw10595847834949709663 tw7374310201933689868 tw17885053226247876421 tw5875392208923852787 tw4367742063519754666 tw301878450980417135 tw7765682371499112928 tw17582849029502336312 tw11530010979270789331 tw1374191287139256445 tw1623315227929902305 tw17142668314531931772 tw10614888235379343134 tw5706233395351334724 tw7962214306930246146 tw342971933949684933 tw883916247588077917 tw14498520831414457971 tw8633599493227426705 tw3760201173496151437 tw17096693141797897490 tw8643287524719880848 tw8167534693447298019 tw7201716763648664491 tw1772294893271469817 tw5830800423050660723 tw7537721744312900361 tw12494577335345053157 tw3414898891680828679 tw14353761819197375044 tw745182879614168228 tw16706318036416602284 tw5012274955029559361 tw2072713968142173665 tw10331833984400250220 tw18135559061657974598 tw11142269283724249431 tw5209075292425500028 tw1851048620992697874 tw7893812028484156998 tw231019231188279363 tw9072546506355471722 tw5028905420458092933 tw8676074578776659545 tw13736022004340875262 tw15680696473232737319 tw15376725128793649673 tw17912395644771940110 tw5472593383087437999 tw10010594844829043149 tw2502238132572085777 tw10535411404278934942 tw6875921510208857187 tw9788434177478421038 tw16627508111219705542 tw15290404989636014681 tw1310190979561430193 tw5723741289715453040 tw1934027310391484938 tw8304843827904997777 tw7799310008007601401 tw13087973896873877389 tw5520603054667072090 tw8299144812535253857 tw1160869478392812066 tw6196919316628081392 tw6374205191703262963 tw2295595226668740324 tw14873288626516383903 tw436363826664258388 tw18101724967909935414 tw12753060955475046784 tw18008738875327520169 tw5157671762455314039 tw14494690858571553665 tw15341364523964245524 tw8901043855218055325 tw6122102158264062096 tw3492177829118504191 tw11810655731879014192 tw9063783283986718349 tw454405961383447707 tw16324860121913841093 tw17371134924274155511 tw2920642616042192699 tw17419328496063751812 tw11362909504290128817 tw540773141462170323 tw5279700698247754621 tw6901600326706795375 tw10063766538534450675 tw8250980567683454722 tw16658339411774916422 tw8590332712286736451 tw4559950646337384953 tw15628720775845097840 tw9693374604053526318 tw5331364662147432840 tw17332386980199087842 tw8237898460720635355 tw9944424782585491602 tw9143540531207730672 tw2801623839584474734 tw3839388986129841821 tw18339485336664469494 tw8952841555457670756 tw13037038999895015122 tw16630115603763420906 tw5878279194674641023 tw9829346218624124770 tw10030279679031253143 tw3164816986034966605 tw17476370135673520006 tw9511761724927135285 tw14780178357136301433 tw4787856591939469936 tw14088066776509781194 tw17881895094798577294 tw870571400145787551 tw3337893861906894706 tw2606221549955805629 tw17502170875325735350 tw1040804822416604903 tw16647994359678207355 tw2555437011089148422 tw15927102365951758631 tw10865659031124772192 tw1120417678819657702 tw10303933436092668048 tw15162179608431668265 tw8968356920474006376 tw895930716829050000 tw2732453191276195871 tw7632096150230649232 tw15783789486436848224 tw17492921717876000789 tw14216330269796271543 tw16424035608456420566 tw7915024586568835886 tw10831139931294471326 tw7056853718223962356 tw5817225093934755063 tw10862384089015709792 tw977263612469387245 tw2025892971124144165 tw7047026648692412446 tw8586871787845956267 tw16486398838933924507 tw6149842646883342224 tw16445493764780850009 tw4127915278078030688 tw9921076552649850783 tw17183078118446178219 tw17499441097517736817 tw8497837125237635100 tw2809622193637470813 tw5953790352785430446 tw4827676440654252685 tw16156205570512565369 tw6191963413003950987 tw15783318232975238200 tw13594433312645255623 tw5487272835796374576 tw14782208269777107766 tw14951201887628089488 tw3978583395017753820 tw3890224329901598629 tw16690591525341858146 tw15088901420939971528 tw6376588582602637479 tw10181981263177517316 tw11828664512250801736 tw9635285535526975371 tw6433761937909712027 tw4567693818843044575 tw18358384002616294081 tw8843314714920552677 tw8670195733976344698 tw13452250439594273445 tw15469509325850902101 tw7989784084400207201 tw7980855488101309849 tw6533113034091690089 tw3795165896829125939 tw13625170852203745048 tw14092567101740648252 tw11732128272422458604 tw15054542012508851735 tw13755906325573483742 tw15874879368406496460 tw8674299189948752215 tw5714828091742923050 tw16740608176120802609 tw9260533504403275778 tw14892134648486654465 tw745542590465729847 tw4070181323525023497 tw15396855969865528031 tw16751940859940584695 tw10880236483746105275 tw9562820103607809491 tw4010309436167061287 tw18443809210741303108 tw6547383589461039521 tw471626354141612020 tw12788858548088822775 tw6750248767281223369 tw17131549438033701735 tw3910079360688113314 tw16648732641714225920 tw12590053575306962862 tw7051383399838188724 tw3040032923983030469 tw15860824979309545035 tw5631432528851287538 tw3566280698618224092 tw4531849538999290206 tw10507040640094339832 tw9973356928857190147 tw15918945148528980712 tw8139731647512519400 tw10195890778130458984 tw14786685614880935833 tw14333367529718291345 tw10362724737794944443 tw5287172989220886391 tw17098487581488152408 tw18230965791922016185 tw16642431673853601522 tw5905924622856876917 tw15166381310919226052 tw11398254857418390477 tw7510830161911296526 tw9016342777746444923 tw12132876687654294970 tw9929624389262672958 tw8732602821608377522 tw4867938510725861539 tw17539386472988816874 tw16561145246812734064 tw15255558714897976090 tw11901934664462475451 tw17157069684200782654 tw6706543526106540524 tw13252556005999936273 tw1529001059372473988 tw11756944145948496613 tw8983468741945087182 tw17366020328246215147 tw16529327541237618996 tw5985070255270714304 tw17283022451524878659 tw16071383106563656299 tw502916210904183275 tw2544960665837690641 tw18195281955761686079 tw17599945248516543501 tw2131370738219349251 tw14981644338072947147 tw10974192491359606088 tw10749713932359288787 tw2955090386713301973 tw262551647918553864 tw4730962216921908139 tw4452635741360231624 tw17276484035787104070 tw16719351786793145959 tw572896277306526916 tw15382947496214981389 tw13694180180494247497 tw3695465284763861882 tw2263791032579893054 tw17619597002212947173 tw16304186857643364489 tw18076877254897080030 tw12373711565764688321 tw7353690410465307986 tw7232500675436098114 tw16837974667617424659 tw10988080145615015319 tw3168729915163486485 tw15594790725318164622 tw9016532720127069171 tw8099143540788442259 tw4480927754483291511 tw4159262849348944264 tw1902412521426054149 tw15493990883430538320 tw12174968353112281414 tw10057068227632662885 tw316245354331607513 tw11499906702302487131 tw3255270775563336349 tw13102244592755375610 tw638210339295520565 tw1074534072627447879 tw8342979183386541518 tw7018678193366483717 tw8938372798556179486 tw6178789598097456288 tw17986860581273260341 tw17154124845840713397 tw15288845027462285516 tw67449820043749997 tw4646521616524042264 tw2062416216171694136 tw17378859879687923113 tw16760376865584168311 tw12956185038312734782 tw12369160631967455519 tw16166172447748627683 tw9135971346544802392 tw6461534700567152553 tw4856403294946032723 tw2228038195225831673 tw1788117000763498636 tw1741795206783500800 tw14094219255887602880 tw16889823678898083862 tw13775062690538433095 tw12814970589997713511 tw9672685278351827447 tw8245677513939774460 tw7031839790301519139 tw3358335671661614432 tw11613213718732731601 tw11570022865572378206 tw10896365706305940441 tw1812917384960189717 tw17917016664166344158 tw14846882535219949028 tw12354766845972316171 tw9475550169111899905 tw874523887844315549 tw8128640315438548432 tw5109569419055189969 tw509737450030890539 tw11276681185018768088 tw10727729517078993202 tw2194992540858976885 tw8500445443343020584 tw2681030360630450817 tw7586104327257307413 tw4299636233202552813 tw17096553829712253016 tw5588466133831308516 tw16113684037355903830 tw633387452820591417 tw17549320004871883652 tw6357530753317502933 tw18190672040793877539 tw12004137786055800383 tw439139856155848687 tw11520605018822962588 tw16844426870594703591 tw11547467774226106613 tw3072244896920386846 tw10348198706797608432 tw13244261029516983890 tw1106899485046658349 tw15981932038361995435 tw10651072277266262184 tw3925451982469988857 tw16143217101089444537 tw12761647744423465554 tw91254587731954020 tw648800049302744131 tw5062439140297520608 tw160217964406918139 tw14051538040277799556 tw4852848938950870311 tw1213946483482421270 tw17186953901830973449 tw405923597366845910 tw2874866184866707212 tw17192458443491419724 tw3509210006519371885 tw3895167461638789005 tw2157584667349976296 tw10335143074683036303:True)
open PySem PySem.W PyProof.Rows
set_option maxRecDepth 100000 in
set_option maxHeartbeats 0 in
theorem PySem.Challenge.cw_cubebook_k57_plan_reads_the_fewest_holds : PySem.Challenge.rw_cubebook_k57_plan_reads_the_fewest.Holds := by
 w_on;o_law;k_head;(case hw=>w_witness2)
 k_fill
 refine Internal.K57.walk (l:=PySem.Challenge.rw_cubebook_k57_plan_reads_the_fewest) rfl rfl (fun w h Y=>PySem.W.kIn_of Y) ?F
 case F =>
  intro w mg fa h KX G hmg
  open Internal in refine' Internal.K57.fin KX hmg ⟨_,⟨Internal.ci KX G ?_ ?_ ?_ ?_ ?_ ?_ ?_,?_,?_,?_,?_,?_,?_,?_⟩⟩
  open Internal in repeat (any_goals (show Internal.All _ _;first | exact True.intro | refine' ⟨⟨_,_,Internal.di KX G ?_ ?_ ?_ ?_⟩,?_⟩ | refine' ⟨⟨_,_,Internal.mi ?_ ?_ ?_ ?_ ?_⟩,?_⟩ | refine' ⟨mg_none_of KX G ?_,?_⟩ | refine' ⟨⟨_,mg_of KX G ?_,⟨_,rfl⟩⟩,?_⟩ | refine' ⟨⟨_,mg_of KX G ?_,?_⟩,?_⟩ | refine' ⟨⟨_,?_,Internal.mk_of ?_ ?_,⟨?_,?_,?_,?_,?_,?_,⟨_,?_⟩⟩,Internal.kit_V ?_,⟨_,?_,Internal.exm_of ?_ ?_ ?_ ?_⟩,?_⟩,?_⟩ | refine' ⟨⟨_,?_,?_⟩,?_⟩))
  all_goals try (show (_:Prop);first | k_is | rfl | k_exc | exact Internal.kit_self | (refine' Internal.kit_ne ?_ ?_ ?_ ?_<;>first | k_is | rfl))
#print axioms PySem.Challenge.cw_cubebook_k57_plan_reads_the_fewest_holds
